import PyProof.Rows.All
import Wide.All
import OpenK.AllK
import Wide.FinOn
import Lean
import PyProof.EqAt
import PyProof.EqKinds
import PyProof.TupleCall
import PySem.Challenge.RW_sumshare_k18_papers_looked_at
set_option Elab.async false
set_option linter.all false
set_option maxRecDepth 100000
namespace L2
open PySem PySem.Spec PyProof.Rows
abbrev Key:=Sum Int Str
def eA:Key→Value→Bool
 | .inl k,v=>Value.isInt k v
 | .inr x,v=>Value.isStrOf x v
def keyH (w:World):Key→Int
 | .inl k=>hashInt k
 | .inr x=>hashStr w x
theorem Yo:∀{k:Key} {v:Value},eA k v=true→(∃i t,k=Sum.inl i∧v=Value.int i t)∨(∃x t,k=Sum.inr x∧v=Value.str x t)
 | .inl i,v,h=>by
  obtain ⟨t,e⟩:=Value.isInt_shape (k:=i) (v:=v) h
  exact .inl ⟨i,t,rfl,e⟩
 | .inr x,v,h=>by
  obtain ⟨t,e⟩:=Value.isStrOf_shape (x:=x) (v:=v) h
  exact .inr ⟨x,t,rfl,e⟩
theorem kT (i:Int) (t:Tok):eA (.inl i) (.int i t)=true:=by simp [eA,Value.isInt]
theorem lh (x:Str) (t:Tok):eA (.inr x) (.str x t)=true:=by simp [eA,Value.isStrOf]
theorem rP (a b:Int):decide ((Sum.inl a:Key)=Sum.inl b)=(a == b):=by
 by_cases e:a=b
 ·subst e;simp
 ·have h:¬(Sum.inl a:Key)=Sum.inl b:=fun q=>e (Sum.inl.inj q)
  rw [decide_eq_false h]
  exact (beq_eq_false_iff_ne.mpr e).symm
theorem rH (a b:Str):decide ((Sum.inr a:Key)=Sum.inr b)=decide (a=b):=by
 by_cases e:a=b
 ·subst e;simp
 ·have h:¬(Sum.inr a:Key)=Sum.inr b:=fun q=>e (Sum.inr.inj q)
  rw [decide_eq_false h,decide_eq_false e]
theorem sw (a:Int) (b:Str):decide ((Sum.inl a:Key)=Sum.inr b)=false:=decide_eq_false (fun q=>nomatch q)
theorem rO (a:Str) (b:Int):decide ((Sum.inr a:Key)=Sum.inl b)=false:=decide_eq_false (fun q=>nomatch q)
def af (prog:Program) (w:World):PySem.KeyKind prog w Key where
 is:=eA
 hash:=keyH w
 inj:=fun v a b ha hb=>by
  rcases Yo ha with ⟨i,t,rfl,rfl⟩ | ⟨x,t,rfl,rfl⟩
  ·rcases Yo hb with ⟨j,u,rfl,e⟩ | ⟨y,u,rfl,e⟩
   ·injection e with e1 _;rw [e1]
   ·exact nomatch e
  ·rcases Yo hb with ⟨j,u,rfl,e⟩ | ⟨y,u,rfl,e⟩
   ·exact nomatch e
   ·injection e with e1 _;rw [e1]
 byValue:=fun k v h=>by
  rcases Yo h with ⟨i,t,rfl,rfl⟩ | ⟨x,t,rfl,rfl⟩ <;> rfl
 pyHash:=fun hv h=>by
  rcases Yo hv with ⟨i,t,rfl,rfl⟩ | ⟨x,t,rfl,rfl⟩
  ·exact wpAny_pyHash_int h
  ·exact wpAny_pyHash_str h
 eqBool:=fun hu hv h=>by
  rcases Yo hu with ⟨i,t,rfl,rfl⟩ | ⟨x,t,rfl,rfl⟩
  ·rcases Yo hv with ⟨j,u,rfl,rfl⟩ | ⟨y,u,rfl,rfl⟩
   ·rw [rP] at h;exact wpAny_eqBool_int h
   ·rw [sw] at h;exact SeqAt.EqAt.int_str i t y u _ _ _ _ h
  ·rcases Yo hv with ⟨j,u,rfl,rfl⟩ | ⟨y,u,rfl,rfl⟩
   ·rw [rO] at h;exact SeqAt.EqAt.str_int x t j u _ _ _ _ h
   ·rw [rH] at h;exact wpAny_eqBool_str h
 «strs»:=fun k x t v h=>by
  rcases Yo h with ⟨i,u,rfl,e⟩ | ⟨y,u,rfl,e⟩
  ·exact nomatch e
  ·injection e with e1 _
   subst e1
   cases v <;> rfl
theorem Si (prog:Program) (w:World) (i:Int) (t:Tok):(af prog w).is (.inl i) (.int i t)=true:=kT i t
theorem Sh (prog:Program) (w:World) (x:Str) (t:Tok):(af prog w).is (.inr x) (.str x t)=true:=lh x t
inductive V where
 | non | bl (b:Bool) | int (i:Int) | str (x:Str) | byt (b:Array UInt8) | flt (b:UInt64) | ref (a:Addr) | ty (n:String)
 deriving DecidableEq
def RelV:V→Value→Prop
 | .non,u=>u=Value.none
 | .bl b,u=>u=Value.bool b
 | .int i,u=>∃t,u=Value.int i t
 | .str x,u=>∃t,u=Value.str x t
 | .byt b,u=>∃t,u=Value.bytes b t
 | .flt b,u=>∃t,u=Value.float b t
 | .ref a,u=>u=Value.ref a
 | .ty n,u=>u=Value.type n
abbrev Vals:List V→List Value→Prop:=Paired RelV
theorem Vals.length {xs:List V} {us:List Value} (r:Vals xs us):xs.length=us.length:=Paired.length r
theorem Vals.get:∀{xs:List V} {us:List Value} {i:Nat} {x:V},Vals xs us→xs[i]?=some x→∃u,us[i]?=some u∧RelV x u
 | _,_,_,_,.nil,e=>by simp at e
 | _,_,0,_,.cons r _,e=>by simp at e;subst e;exact ⟨_,rfl,r⟩
 | _,_,i+1,x,.cons _ t,e=>by
  obtain ⟨u,h1,h2⟩:=Vals.get (i:=i) (x:=x) t (by simpa using e)
  exact ⟨u,by simpa using h1,h2⟩
theorem Vals.set {x:V} {u:Value} (r:RelV x u):∀{xs:List V} {us:List Value} (i:Nat),Vals xs us→Vals (xs.set i x) (us.set i u)
 | _,_,_,.nil=>.nil
 | _,_,0,.cons _ t=>.cons r t
 | _,_,i+1,.cons q t=>.cons q (Vals.set r i t)
theorem Vals.append {xs ys:List V} {us ws:List Value} (h:Vals xs us) (s:Vals ys ws):Vals (xs++ys) (us++ws):=by
 induction h with
 | nil=>exact s
 | cons r t ih=>exact .cons r ih
theorem Vals.take:∀{xs:List V} {us:List Value} (n:Nat),Vals xs us→Vals (xs.take n) (us.take n)
 | _,_,0,_=>.nil
 | _,_,_+1,.nil=>.nil
 | _,_,n+1,.cons r t=>.cons r (Vals.take n t)
theorem Vals.drop:∀{xs:List V} {us:List Value} (n:Nat),Vals xs us→Vals (xs.drop n) (us.drop n)
 | _,_,0,r=>r
 | _,_,_+1,.nil=>.nil
 | _,_,n+1,.cons _ t=>Vals.drop n t
def RelO:Option V→Option Value→Prop
 | some v,some u=>RelV v u
 | none,none=>True
 | _,_=>False
def KV {κ:Type}:List (κ×V)→List (κ×Value)→Prop:=Paired fun (p:κ×V) (q:κ×Value)=>p.1=q.1∧RelV p.2 q.2
def kV:Key→V
 | .inl i=>.int i
 | .inr x=>.str x
inductive HO where
 | lst (xs:List V)
 | tup (xs:List V)
 | dK (kvs:List (Key×V)) | dT (kvs:List (List Key×V))
 | set (S:Int→Bool) (n:Nat)
 | ins (C dx:Addr) (fs:List (Str×V))
 | own (x:Addr)
 | xd (fs:List (Str×V))
 | met (f x:Addr)
 | rng (lo hi:Int)
 | frz (o:Obj) (u:HO)
 | tbl (ps:Array Value)
 | ext (φ:Heap→Prop)
abbrev Hp:=Addr→Option HO
def upd (H:Hp) (a:Addr) (o:HO):Hp:=fun b=>if b=a then some o else H b
theorem Ze {H:Hp} {a:Addr} {o:HO}:upd H a o a=some o:=by unfold upd;rw [if_pos rfl]
theorem Zl {H:Hp} {a b:Addr} {o:HO} (h:b≠a):upd H a o b=H b:=by unfold upd;rw [if_neg h]
theorem o_ {H:Hp} {a:Addr} {o u:HO}:upd (upd H a o) a u=upd H a u:=by
 funext b;unfold upd;split <;> rfl
theorem qZ {H:Hp} {a b:Addr} {o u:HO} (h:H a=some o) (h':H b=some u) (d:o≠u):a≠b:=by
 intro e;subst e;rw [h] at h';exact d (Option.some.inj h')
theorem Zs {H:Hp} {a b:Addr} {o:HO} (h:H a=some o) (h':H b=none):a≠b:=by
 intro e;subst e;rw [h] at h';cases h'
def TupN (h:Heap) (a:Addr) (items:Array Value):Prop:=∃o,h.get? a=some o∧(o.cls=.type "tuple"∧o.dict=none)∧∃n,o.data=.seq items n
theorem TupN.tup {h:Heap} {a:Addr} {items:Array Value} (x:TupN h a items):IsTup h a items:=let ⟨o,e,c,n,d⟩:=x;⟨o,e,c.1,n,d⟩
theorem TupN.new (h:Heap) (items:Array Value):TupN (h.push {cls:=.type "tuple",data:=.seq items}) h.objs.size items:=⟨_,Heap.get?_push_size _ rfl,⟨rfl,rfl⟩,_,rfl⟩
section
variable (P:Program) (w:World)
def ObjOk (H:Hp) (h:Heap) (a:Addr):HO→Prop
 | .lst xs=>xs.length≤sizeLine∧∃(its:List Value) (n:Nat),Vals xs its∧h.get? a=some {cls:=.type "list",data:=.seq its.toArray n}
 | .tup xs=>xs.length≤sizeLine∧∃its:List Value,Vals xs its∧TupN h a its.toArray
 | .dK kvs=>kvs.length≤sizeLine∧(a == sysModules)=false∧∃vs,KV kvs vs∧h.DictOf (af P w) a vs
 | .dT kvs=>kvs.length≤sizeLine∧(a == sysModules)=false∧∃xs:List (List Key×Addr×Value),
   Paired (fun (p:List Key×V) (q:List Key×Addr×Value)=>p.1=q.1∧H q.2.1=some (.tup (p.1.map kV))∧RelV p.2 q.2.2) kvs xs∧
   ∃o es ep,h.get? a=some o∧o.ExactDict∧o.data=.dict es ep∧es.toList=xs.map (entryOfKey (tupleKind (af P w)))∧(xs.map (·.1)).Nodup
 | .set S n=>h.SetOf (intKind P w) a S n
 | .ins C dx fs=>H dx=some (.own a)∧fs.length≤1000∧dx≠a∧h.get? a=some (W.instObj C dx)∧
   ∃mA,h.Ns1 dx mA∧(∀f,RelO (fs.lookup f) (mA f))∧PySem.Within mA (fs.map (·.1))
 | .own _=>∃o,h.get? a=some o
 | .xd fs=>∃mA,h.Ns1 a mA∧∀f,RelO (fs.lookup f) (mA f)
 | .rng lo hi=>∃t u v,h.get? a=some {cls:=.type "range",data:=.fields #[.int lo t,.int hi u,.int 1 v]}
 | .frz o u=>h.get? a=some o∧ObjOk H h a u
 | .tbl ps=>h.get? a=some {cls:=.none,data:=.fields ps}
 | .met f x=>h.get? a=some (W.methodObj (.ref f) (.ref x))
 | .ext φ=>φ h∧(∃o,h.get? a=some o)∧∀h1 h2:Heap,φ h1→(∀o,h1.get? a=some o→h2.get? a=some o)→φ h2
def HOk (H:Hp) (h:Heap):Prop:=∀a o,H a=some o→ObjOk P w H h a o
end
section
variable {P:Program} {w:World} {H H':Hp} {h h':Heap} {a:Addr} {o:HO}
theorem ObjOk.lt (x:ObjOk P w H h a o):a<h.objs.size:=by
 cases o with
 | lst xs=>obtain ⟨_,_,_,_,e⟩:=x;exact Heap.lt_size e
 | tup xs=>obtain ⟨_,_,_,p⟩:=x;exact p.tup.lt
 | dK kvs=>obtain ⟨_,_,_,_,o,_,_,e,_⟩:=x;exact Heap.lt_size e
 | dT kvs=>obtain ⟨_,_,_,_,o,_,_,e,_⟩:=x;exact Heap.lt_size e
 | set S n=>obtain ⟨o,_,_,_,e,_⟩:=x;exact Heap.lt_size e
 | ins C dx fs=>obtain ⟨_,_,_,e,_⟩:=x;exact Heap.lt_size e
 | own y=>obtain ⟨_,e⟩:=x;exact Heap.lt_size e
 | xd fs=>obtain ⟨_,⟨_,_,_,e,_⟩,_⟩:=x;exact Heap.lt_size e
 | rng lo hi=>obtain ⟨_,_,_,e⟩:=x;exact Heap.lt_size e
 | frz ob u=>obtain ⟨e,_⟩:=x;exact Heap.lt_size e
 | tbl ps=>exact Heap.lt_size (show h.get? a=some _ from x)
 | met f y=>exact Heap.lt_size (show h.get? a=some _ from x)
 | ext φ=>obtain ⟨_,⟨_,e⟩,_⟩:=x;exact Heap.lt_size e
theorem Paired.mapP {α β:Type} {F G:α→β→Prop} {l₁:List α} {l₂:List β} (h:Paired F l₁ l₂) (f:∀a b,F a b→G a b):Paired G l₁ l₂:=by
 induction h with
 | nil=>exact .nil
 | cons r t ih=>exact .cons (f _ _ r) ih
theorem ObjOk.stay (x:ObjOk P w H h a o) (k:∀b u,(b=a∨H b=some (.own a))→h.get? b=some u→h'.get? b=some u)
  (ho:∀b,H b=some (.own a)→H' b=some (.own a)) (ht:∀b xs,H b=some (.tup xs)→H' b=some (.tup xs)):ObjOk P w H' h' a o:=by
 induction o with
 | lst xs=>obtain ⟨z,its,n,r,e⟩:=x;exact ⟨z,its,n,r,k _ _ (.inl rfl) e⟩
 | tup xs=>obtain ⟨z,its,r,ob,e,c⟩:=x;exact ⟨z,its,r,ob,k _ _ (.inl rfl) e,c⟩
 | dK kvs=>obtain ⟨z,y,vs,r,ob,es,ep,e,c⟩:=x;exact ⟨z,y,vs,r,ob,es,ep,k _ _ (.inl rfl) e,c⟩
 | dT kvs=>
  obtain ⟨z,y,xs,r,ob,es,ep,e,c⟩:=x
  exact ⟨z,y,xs,Paired.mapP r fun p q z=>⟨z.1,ht _ _ z.2.1,z.2.2⟩,ob,es,ep,k _ _ (.inl rfl) e,c⟩
 | set S n=>obtain ⟨ob,es,ep,t,e,c⟩:=x;exact ⟨ob,es,ep,t,k _ _ (.inl rfl) e,c⟩
 | ins C dx fs=>
  obtain ⟨d,z,ne,e,mA,⟨od,es,ep,e2,c⟩,r⟩:=x
  exact ⟨ho _ d,z,ne,k _ _ (.inl rfl) e,mA,⟨od,es,ep,k _ _ (.inr d) e2,c⟩,r⟩
 | own y=>obtain ⟨ob,e⟩:=x;exact ⟨ob,k _ _ (.inl rfl) e⟩
 | xd fs=>obtain ⟨mA,⟨od,es,ep,e,c⟩,r⟩:=x;exact ⟨mA,⟨od,es,ep,k _ _ (.inl rfl) e,c⟩,r⟩
 | rng lo hi=>obtain ⟨t,u,v,e⟩:=x;exact ⟨t,u,v,k _ _ (.inl rfl) e⟩
 | frz ob u ih=>obtain ⟨e,q⟩:=x;exact ⟨k _ _ (.inl rfl) e,ih q⟩
 | tbl ps=>
  have e:h.get? a=some {cls:=.none,data:=.fields ps}:=x
  show h'.get? a=some {cls:=.none,data:=.fields ps}
  exact k a _ (.inl rfl) e
 | met f y=>
  have e:h.get? a=some (W.methodObj (.ref f) (.ref y)):=x
  show h'.get? a=some (W.methodObj (.ref f) (.ref y))
  exact k a _ (.inl rfl) e
 | ext φ=>obtain ⟨p,⟨o,e⟩,st⟩:=x;exact ⟨st _ _ p fun o q=>k _ _ (.inl rfl) q,⟨o,k _ _ (.inl rfl) e⟩,st⟩
theorem HOk.lt (x:HOk P w H h) (e:H a=some o):a<h.objs.size:=(x a o e).lt
theorem HOk.fresh (x:HOk P w H h) (e:h.objs.size≤a):H a=none:=by
 cases q:H a with
 | none=>rfl
 | some u=>exact absurd (Nat.lt_of_lt_of_le (x.lt q) e) (Nat.lt_irrefl _)
theorem HOk.kept (x:HOk P w H h) (k:∀b u,h.get? b=some u→h'.get? b=some u):HOk P w H h':=fun a o e=>
 (x a o e).stay (fun b u _ q=>k b u q) (fun _ q=>q) fun _ _ q=>q
theorem HOk.laid (x:HOk P w H h) (k:∀b u,h.get? b=some u→h'.get? b=some u) (hp:h.objs.size≤a) (new:ObjOk P w (upd H a o) h' a o):HOk P w (upd H a o) h':=fun b u e=>by
 have hn:=x.fresh hp
 by_cases hb:b=a
 ·subst hb;rw [Ze] at e;cases e;exact new
 ·rw [Zl hb] at e
  exact (x b u e).stay (fun c v _ q=>k c v q) (fun c q=>by rw [Zl (Zs q hn)];exact q) fun c xs q=>by rw [Zl (Zs q hn)];exact q
end
def Rd (H:Hp) (a:Addr) (u:HO):Prop:=H a=some u∨∃o,H a=some (.frz o u)
theorem Rd.ok {P:Program} {w:World} {H:Hp} {h:Heap} {a:Addr} {u:HO} (r:Rd H a u) (x:HOk P w H h):ObjOk P w H h a u:=by
 rcases r with r | ⟨o,r⟩
 ·exact x a u r
 ·obtain ⟨_,q⟩:=x a _ r
  exact q
def Mut:Option HO→Prop
 | some (.lst _)=>True
 | some (.dK _)=>True
 | some (.dT _)=>True
 | some (.set _ _)=>True
 | some (.ins _ _ _)=>True
 | some (.ext _)=>True
 | _=>False
section
variable {P:Program} {w:World} {H:Hp} {h h':Heap} {x e:Addr} {o':HO}
theorem HOk.write (ok:HOk P w H h) (mu:Mut (H x)) (he:e=x∨H e=some (.own x)) (k:∀b u,b≠e→h.get? b=some u→h'.get? b=some u) (heo:∃u,h'.get? e=some u)
  (new:ObjOk P w (upd H x o') h' x o'):HOk P w (upd H x o') h':=fun b u q=>by
 have nown:∀c y,H c=some (.own y)→c≠x:=fun c y r z=>by subst z;rw [r] at mu;exact mu
 have ntup:∀c xs,H c=some (.tup xs)→c≠x:=fun c xs r z=>by subst z;rw [r] at mu;exact mu
 by_cases hb:b=x
 ·subst hb;rw [Ze] at q;cases q;exact new
 ·rw [Zl hb] at q
  by_cases hbe:b=e
  ·have q':H b=some (.own x):=by
    rcases he with z | z
    ·exact absurd (hbe.trans z) hb
    ·rw [hbe];exact z
   rw [q] at q';cases q'
   obtain ⟨v,hv⟩:=heo
   exact ⟨v,by rw [hbe];exact hv⟩
  ·refine (ok b u q).stay (fun c v hc r=>k c v ?_ r) (fun c r=>by rw [Zl (nown c b r)];exact r) fun c xs r=>by rw [Zl (ntup c xs r)];exact r
   rcases hc with rfl | hc
   ·exact hbe
   ·rintro rfl
    rcases he with z | z
    ·exact nown c b hc z
    ·rw [hc] at z;cases z;exact hb rfl
end
structure Un (fs ex:List Addr) (H H':Hp) (h h':Heap):Prop where
 keep:∀b o,h.get? b=some o→H b=none→b∉fs→b∉ex→h'.get? b=some o
 slot:∀b o,h.get? b=some o→H b=none→b∈fs→b∉ex→∃sl,h'.get? b=some {o with slots:=sl}
 free:∀b o,h.get? b=some o→H b=none→b∉ex→H' b=none
 there:∀b o,h.get? b=some o→b∉ex→∃o',h'.get? b=some o'
 tups:∀b xs,H b=some (.tup xs)→H' b=some (.tup xs)
 frzs:∀b o u,H b=some (.frz o u)→H' b=some (.frz o u)
 tbls:∀b ps,H b=some (.tbl ps)→∃more,H' b=some (.tbl (ps++more))
section
variable {fs fs' ex ex':List Addr} {H H1 H2:Hp} {h h1 h2 h':Heap} {a x e:Addr} {o:HO}
theorem Un.any (u:Un fs ex H H1 h h1) {b:Addr} {ob:Obj} (q:h.get? b=some ob) (n:H b=none) (hx:b∉ex):∃sl,h1.get? b=some {ob with slots:=sl}:=by
 by_cases hb:b∈fs
 ·exact u.slot b ob q n hb hx
 ·exact ⟨ob.slots,u.keep b ob q n hb hx⟩
theorem Un.kept (k:∀b u,h.get? b=some u→h'.get? b=some u):Un fs ex H H h h':=
 ⟨fun b ob q _ _ _=>k b ob q,fun b ob q _ _ _=>⟨ob.slots,k b ob q⟩,fun _ _ _ n _=>n,fun b ob q _=>⟨ob,k b ob q⟩,fun _ _ q=>q,fun _ _ _ q=>q,fun _ ps q=>⟨#[],by rw [q];simp⟩⟩
theorem Un.refl:Un fs ex H H h h:=Un.kept fun _ _ q=>q
theorem Un.laid (k:∀b u,h.get? b=some u→h'.get? b=some u) (hp:h.objs.size≤a) (hn:H a=none):Un fs ex H (upd H a o) h h' where
 keep:=fun b u q _ _ _=>k b u q
 slot:=fun b u q _ _ _=>⟨u.slots,k b u q⟩
 free:=fun b u q n _=>by rw [Zl (Nat.ne_of_lt (Nat.lt_of_lt_of_le (Heap.lt_size q) hp))];exact n
 there:=fun b u q _=>⟨u,k b u q⟩
 tups:=fun b xs q=>by rw [Zl (Zs q hn)];exact q
 frzs:=fun b u xs q=>by rw [Zl (Zs q hn)];exact q
 tbls:=fun b ps q=>⟨#[],by rw [Zl (Zs q hn),q];simp⟩
theorem Un.write (mu:Mut (H x)) (he:e=x∨H e=some (.own x)) (k:∀b u,b≠e→h.get? b=some u→h'.get? b=some u) (heo:∃u,h'.get? e=some u):Un fs ex H (upd H x o) h h':=by
 have hx:∀b,H b=none→b≠x:=fun b n z=>by subst z;rw [n] at mu;exact mu
 have hb:∀b,H b=none→b≠e:=fun b n z=>by
  subst z
  rcases he with r | r
  ·exact hx b n r
  ·rw [n] at r;cases r
 have hm:∀b u,H b=some u→¬Mut (some u)→b≠x:=fun b u q nm z=>by subst z;rw [q] at mu;exact nm mu
 refine ⟨fun b u q n _ _=>k b u (hb b n) q,fun b u q n _ _=>⟨u.slots,k b u (hb b n) q⟩,fun b u q n _=>by rw [Zl (hx b n)];exact n,fun b u q _=>?_,
  fun b xs q=>by rw [Zl (hm b _ q fun z=>z)];exact q,fun b u xs q=>by rw [Zl (hm b _ q fun z=>z)];exact q,fun b ps q=>⟨#[],by rw [Zl (hm b _ q fun z=>z),q];simp⟩⟩
 by_cases hbe:b=e
 ·subst hbe;exact heo
 ·exact ⟨u,k b u hbe q⟩
end
def trk (h:Heap) (H:Hp):List Addr:=(List.range h.objs.size).filter fun a=>(H a).isSome
def eM (h:Heap) (H:Hp):Heap:=W.hideAll h (trk h H)
theorem kj (h:Heap) (H:Hp):(eM h H).objs.size=h.objs.size:=W.hideAll_size _ _
theorem lJ {h:Heap} {H:Hp} {b:Addr} {o:Obj} (e:h.get? b=some o) (n:H b=none):(eM h H).get? b=some o:=
 W.hideAll_get _ e fun hm=>by
  have q:(H b).isSome=true:=(List.mem_filter.mp hm).2
  rw [n] at q;simp at q
theorem qG {h:Heap} {H:Hp} {b:Addr} {o:Obj} (e:(eM h H).get? b=some o):h.get? b=some o∧H b=none:=by
 have e':h.get? b=some o:=W.of_hideAll (trk h H) e
 refine ⟨e',?_⟩
 cases q:H b with
 | none=>rfl
 | some x=>
  have hm:b∈trk h H:=List.mem_filter.mpr ⟨List.mem_range.mpr (Heap.lt_size e'),by simp [q]⟩
  have z:(eM h H).get? b=none:=W.hideAll_none (trk h H) hm
  rw [z] at e;cases e
structure Mod (K:W.Frag) (mg:Str→Option Value) (base:Heap):Prop where
 kin:K.In base
 glob:base.Ns mainGlobals mg
 blt:∃mb,base.Ns builtinsNs mb∧∀x:Str,x≠"__name__"→mb x=bootBuiltins x
 nolimit:base.NoLimit
structure Cx where
 prog:Program
 w:World
 K:W.Frag
 mg:Str→Option Value
 base:Heap
 A:Around
 N:List Str
 s₀:Shared
 H₀:Hp
 env:Env
 outer:List Env
 stack:List Env
 ex:List Addr
 fn:Str→Bool
 calm:Bool
 pn:List (Addr×Obj)
 xe:Value→Shared→Prop
def frs (l:List Env):List Addr:=l.filterMap (·.frame)
abbrev Cx.fs (X:Cx):List Addr:=frs X.outer
def Vis (sc:Scope) (x:Str):Prop:=sc.names.lookup x=some .local∨sc.names.lookup x=some .cell∨sc.names.lookup x=some .free
def Loc (sc:Scope) (x:Str):Prop:=sc.names.lookup x=some .local∨sc.names.lookup x=some .cell
def Look (env:Env) (h:Heap) (m:Str→Option Value) (x:Str) (u:Value):Prop:=
 (env.kindOf x=some .local∧m x=some u)∨((env.kindOf x=some .cell∨env.kindOf x=some .free)∧∃c,env.cells.lookup x=some c∧h.IsCell c (some u))
structure Cx.Ok (X:Cx):Prop where
 mod:Mod X.K X.mg X.base
 kind:X.env.scope.kind=.function
 glob:X.env.globals=mainGlobals
 blt:X.env.builtins=builtinsNs
 above:X.s₀.heap.objs.size≤X.env.locals
 inj:∀x y c,X.env.cells.lookup x=some c→X.env.cells.lookup y=some c→x=y
 has:∀x,(X.env.kindOf x=some .cell∨X.env.kindOf x=some .free)→∃c,X.env.cells.lookup x=some c
 cab:∀x c,X.fn x=true→X.env.cells.lookup x=some c→X.s₀.heap.objs.size≤c
 hd:X.calm=true→X.A.handled=none
 frames:X.A.frames=some X.stack
 stk:X.stack=X.outer∨(X.stack=X.env::X.outer∧X.env.frame=some X.env.locals)
 exf:∀b∈X.ex,b≠X.env.locals∧∀x c,X.env.cells.lookup x=some c→c≠b
 bs:∀b o,X.base.get? b=some o→X.s₀.heap.get? b=some o∧X.H₀ b=none
 bsz:X.base.objs.size≤X.s₀.heap.objs.size
 noex:∀b o,X.base.get? b=some o→b∉X.ex
 exfs:∀b∈X.ex,b∉X.fs
 funs:X.s₀.heap.FunFrames X.base X.outer
 frf:∀b∈X.fs,X.H₀ b=none
structure Inv (X:Cx) (pins:List (Addr×Obj)) (σ:List (Option V)) (H:Hp) (s:Shared):Prop where
 ok:X.Ok
 os:s.os=X.s₀.os
 bare:AllBare s.gens
 base:Un X.fs X.ex X.H₀ H X.s₀.heap s.heap
 loc:∃m,s.heap.Ns X.env.locals m∧∀(i:Nat) (x:Str) (v:V),X.N[i]?=some x→σ[i]?=some (some v)→Vis X.env.scope x→∃u,RelV v u∧Look X.env s.heap m x u
 cell:∀x c,X.env.cells.lookup x=some c→∃v,s.heap.IsCell c v
 free:H X.env.locals=none
 freeC:∀x c,X.env.cells.lookup x=some c→H c=none
 pin:∀p∈X.pn++pins,s.heap.get? p.1=some p.2∧H p.1=none∧p.1≠X.env.locals∧p.1∉X.fs∧∀v,p.2.data≠.cell v
 hok:HOk X.prog X.w H s.heap
 len:σ.length=X.N.length
section
variable {X:Cx} {pins:List (Addr×Obj)} {σ:List (Option V)} {H H':Hp} {s:Shared} {h':Heap}
theorem Cx.Ok.nofr (ok:X.Ok) {b:Addr} {o:Obj} (e:X.base.get? b=some o):b∉X.fs:=fun hb=>by
 have:=(ok.funs.mem hb).1
 rw [e] at this;cases this
theorem Inv.bs (I:Inv X pins σ H s):∀b o,X.base.get? b=some o→s.heap.get? b=some o∧H b=none:=fun b o e=>
 ⟨I.base.keep b o (I.ok.bs b o e).1 (I.ok.bs b o e).2 (I.ok.nofr e) (I.ok.noex b o e),I.base.free b o (I.ok.bs b o e).1 (I.ok.bs b o e).2 (I.ok.noex b o e)⟩
theorem Inv.bk (I:Inv X pins σ H s):∀b o,X.base.get? b=some o→s.heap.get? b=some o:=fun b o e=>(I.bs b o e).1
theorem Inv.mod (I:Inv X pins σ H s):Mod X.K X.mg X.base:=I.ok.mod
theorem Inv.kIn (I:Inv X pins σ H s):X.K.In s.heap:=I.ok.mod.kin.keeps I.bk
theorem Inv.lt (I:Inv X pins σ H s):X.env.locals<s.heap.objs.size:=let ⟨_,hn,_⟩:=I.loc;hn.lt
theorem Inv.sz (I:Inv X pins σ H s):X.s₀.heap.objs.size≤s.heap.objs.size:=Nat.le_trans I.ok.above (Nat.le_of_lt I.lt)
theorem Inv.nofs (I:Inv X pins σ H s) {a:Addr} (h:s.heap.objs.size≤a):a∉X.fs:=fun hb=>by
 obtain ⟨_,o,ho,_⟩:=I.ok.funs.mem hb
 exact absurd (Nat.lt_of_lt_of_le (Heap.lt_size ho) (Nat.le_trans I.sz h)) (Nat.lt_irrefl _)
theorem Inv.cne (I:Inv X pins σ H s):∀x c,X.env.cells.lookup x=some c→c≠X.env.locals:=fun x c e z=>by
 obtain ⟨v,o,ho,hd⟩:=I.cell x c e
 obtain ⟨m,⟨o',es,ep,ho',hd',_⟩,_⟩:=I.loc
 rw [z,ho'] at ho;cases ho;rw [hd'] at hd;cases hd
theorem Inv.funs (I:Inv X pins σ H s):s.heap.FunFrames X.base X.outer:=by
 have all:∀(l:List Env),(∀b∈frs l,b∈X.fs)→X.s₀.heap.FunFrames X.base l→s.heap.FunFrames X.base l:=by
  intro l
  induction l with
  | nil=>intro _ _;trivial
  | cons env r ih=>
   intro hs hl
   obtain ⟨hk,⟨L,o,hf,hn,ho,hd⟩,hr⟩:=hl
   have hL:L∈X.fs:=hs L (by unfold frs;rw [List.filterMap_cons,hf];exact List.mem_cons_self)
   obtain ⟨sl,e⟩:=I.base.slot L o ho (I.ok.frf L hL) hL fun z=>I.ok.exfs L z hL
   exact ⟨hk,⟨L,_,hf,hn,e,hd⟩,ih (fun b hb=>hs b (by unfold frs;rw [List.filterMap_cons,hf];exact List.mem_cons_of_mem _ hb)) hr⟩
 exact all X.outer (fun _ hb=>hb) I.ok.funs
theorem Inv.stack (I:Inv X pins σ H s):s.heap.FunFrames X.base X.stack:=by
 rcases I.ok.stk with e | ⟨e,hf⟩
 ·rw [e];exact I.funs
 ·rw [e]
  obtain ⟨m,hn,_⟩:=I.loc
  refine .cons (by rw [I.ok.kind];decide) hf hn ?_ I.funs
  exact Heap.get?_none_of_le (Nat.le_trans I.ok.bsz I.ok.above)
theorem Inv.stkSub (I:Inv X pins σ H s):∀b∈frs X.stack,b∈X.env.locals::X.fs:=fun b hb=>by
 rcases I.ok.stk with e | ⟨e,hf⟩
 ·rw [e] at hb;exact List.mem_cons_of_mem _ hb
 ·rw [e] at hb
  unfold frs at hb
  rw [List.filterMap_cons,hf] at hb
  exact hb
theorem Inv.stkFree (I:Inv X pins σ H s):∀b∈frs X.stack,H b=none:=fun b hb=>by
 rcases List.mem_cons.mp (I.stkSub b hb) with e | hb
 ·rw [e];exact I.free
 ·obtain ⟨_,o,ho,_⟩:=I.ok.funs.mem hb
  exact I.base.free b o ho (I.ok.frf b hb) fun z=>I.ok.exfs b z hb
theorem Inv.step {g':Array GenState} {t':Nat} {d':Drawn} {ch:List Addr} (I:Inv X pins σ H s)
  (hch:∀b∈ch,(b∈X.ex∨X.s₀.heap.objs.size≤b)∧b≠X.env.locals∧(∀x c,X.env.cells.lookup x=some c→c≠b)∧∀p∈X.pn++pins,p.1≠b)
  (keep:∀b o,b≠X.env.locals→b∉X.fs→b∉ch→s.heap.get? b=some o→H b=none→h'.get? b=some o)
  (slot:∀b o,b≠X.env.locals→b∈X.fs→b∉ch→s.heap.get? b=some o→H b=none→∃sl,h'.get? b=some {o with slots:=sl}) (free:∀b o,b∉ch→s.heap.get? b=some o→H b=none→H' b=none)
  (there:∀b o,b∉ch→s.heap.get? b=some o→∃o',h'.get? b=some o')
  (tups:∀b xs,H b=some (.tup xs)→H' b=some (.tup xs)) (frzs:∀b o u,H b=some (.frz o u)→H' b=some (.frz o u)) (tbls:∀b ps,H b=some (.tbl ps)→∃more,H' b=some (.tbl (ps++more)))
  (ns:∀m,s.heap.Ns X.env.locals m→h'.Ns X.env.locals m) (hok:HOk X.prog X.w H' h') (hg:AllBare g'):
  Inv X pins σ H' {s with heap:=h',gens:=g',drawn:=d',toks:=t'}:=by
 have neL:∀b o,X.s₀.heap.get? b=some o→b≠X.env.locals:=fun b o e=>Nat.ne_of_lt (Nat.lt_of_lt_of_le (Heap.lt_size e) I.ok.above)
 have neC:∀b o,X.s₀.heap.get? b=some o→b∉X.ex→b∉ch:=fun b o e hx hb=>by
  rcases (hch b hb).1 with z | z
  ·exact hx z
  ·exact absurd (Nat.lt_of_lt_of_le (Heap.lt_size e) z) (Nat.lt_irrefl _)
 have cellK:∀x c,X.env.cells.lookup x=some c→∀v,s.heap.IsCell c v→h'.IsCell c v:=fun x c e v ⟨o,ho,hd⟩=>by
  have nch:c∉ch:=fun z=>(hch c z).2.2.1 x c e rfl
  by_cases hc:c∈X.fs
  ·obtain ⟨sl,q⟩:=slot c o (I.cne x c e) hc nch ho (I.freeC x c e)
   exact ⟨_,q,hd⟩
  ·exact ⟨o,keep c o (I.cne x c e) hc nch ho (I.freeC x c e),hd⟩
 refine ⟨I.ok,I.os,hg,⟨fun b o e n hb hx=>?_,fun b o e n hb hx=>?_,fun b o e n hx=>?_,fun b o e hx=>?_,fun b xs e=>tups b xs (I.base.tups b xs e),fun b o xs e=>frzs b o xs (I.base.frzs b o xs e),fun b ps e=>?_⟩,?_,fun x c e=>?_,?_,fun x c e=>?_,fun p hp=>?_,hok,I.len⟩
 ·exact keep b o (neL b o e) hb (neC b o e hx) (I.base.keep b o e n hb hx) (I.base.free b o e n hx)
 ·obtain ⟨sl,e1⟩:=I.base.slot b o e n hb hx
  obtain ⟨sl',e2⟩:=slot b _ (neL b o e) hb (neC b o e hx) e1 (I.base.free b o e n hx)
  exact ⟨sl',e2⟩
 ·obtain ⟨o',e1⟩:=I.base.there b o e hx
  exact free b o' (neC b o e hx) e1 (I.base.free b o e n hx)
 ·obtain ⟨o',e1⟩:=I.base.there b o e hx
  exact there b o' (neC b o e hx) e1
 ·obtain ⟨m1,e1⟩:=I.base.tbls b ps e
  obtain ⟨m2,e2⟩:=tbls b _ e1
  exact ⟨m1++m2,by rw [e2,Array.append_assoc]⟩
 ·obtain ⟨m,hn,hl⟩:=I.loc
  refine ⟨m,ns m hn,fun i x v e1 e2 e3=>?_⟩
  obtain ⟨u,r,l⟩:=hl i x v e1 e2 e3
  refine ⟨u,r,?_⟩
  rcases l with l | ⟨k,c,e,z⟩
  ·exact .inl l
  ·exact .inr ⟨k,c,e,cellK x c e _ z⟩
 ·obtain ⟨v,z⟩:=I.cell x c e
  exact ⟨v,cellK x c e v z⟩
 ·obtain ⟨m,⟨o,_,_,ho,_⟩,_⟩:=I.loc
  exact free _ o (fun z=>(hch _ z).2.1 rfl) ho I.free
 ·obtain ⟨v,o,ho,hd⟩:=I.cell x c e
  exact free c o (fun z=>(hch c z).2.2.1 x c e rfl) ho (I.freeC x c e)
 ·obtain ⟨e,n,ne,nf,d⟩:=I.pin p hp
  have nch:p.1∉ch:=fun z=>(hch p.1 z).2.2.2 p hp rfl
  exact ⟨keep p.1 p.2 ne nf nch e n,free p.1 p.2 nch e n,ne,nf,d⟩
theorem Inv.un {t':Nat} (I:Inv X pins σ H s) (u:Un X.fs [] H H' s.heap h') (hok:HOk X.prog X.w H' h'):Inv X pins σ H' {s with heap:=h',toks:=t'}:=by
 obtain ⟨m,⟨o,es,ep,ho,r⟩,_⟩:=id I.loc
 obtain ⟨sl,hL⟩:=u.any ho I.free (by simp)
 exact I.step (g':=s.gens) (d':=s.drawn) (ch:=[]) (fun _ z=>nomatch z) (fun b o _ hb _ e n=>u.keep b o e n hb (by simp)) (fun b o _ hb _ e n=>u.slot b o e n hb (by simp)) (fun b o _ e n=>u.free b o e n (by simp)) (fun b o _ e=>u.there b o e (by simp)) u.tups u.frzs u.tbls (fun m' hm=>by
  obtain ⟨o',es',ep',ho',r'⟩:=hm
  rw [ho] at ho';cases ho'
  exact ⟨_,es',ep',hL,r'⟩) hok I.bare
theorem Inv.call {g':Array GenState} {t':Nat} {d':Drawn} {ch:List Addr} (I:Inv X pins σ H s) (u:Un (frs X.stack) ch H H' s.heap h') (hok:HOk X.prog X.w H' h') (hg:AllBare g')
  (hch:∀b∈ch,(b∈X.ex∨X.s₀.heap.objs.size≤b)∧b≠X.env.locals∧(∀x c,X.env.cells.lookup x=some c→c≠b)∧∀p∈X.pn++pins,p.1≠b):
  Inv X pins σ H' {s with heap:=h',gens:=g',drawn:=d',toks:=t'}:=by
 obtain ⟨m,⟨o,es,ep,ho,r⟩,_⟩:=id I.loc
 obtain ⟨sl,hL⟩:=u.any ho I.free fun z=>(hch _ z).2.1 rfl
 exact I.step (ch:=ch) hch (fun b o hL hb hc e n=>u.keep b o e n (fun z=>(List.mem_cons.mp (I.stkSub b z)).elim hL hb) hc) (fun b o _ _ hc e n=>u.any e n hc) (fun b o hc e n=>u.free b o e n hc) (fun b o hc e=>u.there b o e hc) u.tups u.frzs u.tbls (fun m' hm=>by
  obtain ⟨o',es',ep',ho',r'⟩:=hm
  rw [ho] at ho';cases ho'
  exact ⟨_,es',ep',hL,r'⟩) hok hg
theorem Inv.turned {t':Nat} {it:Addr} (I:Inv X pins σ H s) (k:∀b o,b≠it→s.heap.get? b=some o→h'.get? b=some o) (hn:H it=none) (hL:it≠X.env.locals)
  (h1:it∈X.ex∨X.s₀.heap.objs.size≤it) (h2:∀x c,X.env.cells.lookup x=some c→c≠it) (h3:∀p∈X.pn++pins,p.1≠it):Inv X pins σ H {s with heap:=h',toks:=t'}:=by
 have nit:∀b u,H b=some u→b≠it:=fun b u e z=>by rw [z,hn] at e;cases e
 refine I.step (g':=s.gens) (d':=s.drawn) (ch:=[it]) (fun b hb=>?_) (fun b o _ _ hc e _=>k b o (fun z=>hc (by simp [z])) e) (fun b o _ _ hc e _=>⟨o.slots,k b o (fun z=>hc (by simp [z])) e⟩) (fun _ _ _ _ n=>n)
  (fun b o hc e=>⟨o,k b o (fun z=>hc (by simp [z])) e⟩) (fun _ _ e=>e) (fun _ _ _ e=>e) (fun b ps e=>⟨#[],by rw [e];simp⟩) (fun m hm=>?_) (fun b u e=>?_) I.bare
 ·have e:b=it:=by simpa using hb
  subst e
  exact ⟨h1,hL,h2,h3⟩
 ·obtain ⟨o,es,ep,ho,r⟩:=hm
  exact ⟨o,es,ep,k _ o (Ne.symm hL) ho,r⟩
 ·refine (I.hok b u e).stay (fun c v hc q=>k c v ?_ q) (fun _ q=>q) fun _ _ q=>q
  rcases hc with z | z
  ·rw [z];exact nit b u e
  ·exact nit c _ z
theorem Inv.tok (I:Inv X pins σ H s) (t:Nat):Inv X pins σ H {s with toks:=t}:=I.un (h':=s.heap) (t':=t) Un.refl I.hok
theorem Inv.kept {t':Nat} (I:Inv X pins σ H s) (k:∀b u,s.heap.get? b=some u→h'.get? b=some u):Inv X pins σ H {s with heap:=h',toks:=t'}:=I.un (Un.kept k) (I.hok.kept k)
theorem Inv.laid {a:Addr} {o:HO} {t':Nat} (I:Inv X pins σ H s) (k:∀b u,s.heap.get? b=some u→h'.get? b=some u) (hp:s.heap.objs.size≤a) (new:ObjOk X.prog X.w (upd H a o) h' a o):
  Inv X pins σ (upd H a o) {s with heap:=h',toks:=t'}:=I.un (Un.laid k hp (I.hok.fresh hp)) (I.hok.laid k hp new)
theorem Inv.write {x e:Addr} {o:HO} {t':Nat} (I:Inv X pins σ H s) (mu:Mut (H x)) (he:e=x∨H e=some (.own x)) (k:∀b u,b≠e→s.heap.get? b=some u→h'.get? b=some u) (heo:∃u,h'.get? e=some u)
  (new:ObjOk X.prog X.w (upd H x o) h' x o):Inv X pins σ (upd H x o) {s with heap:=h',toks:=t'}:=I.un (Un.write mu he k heo) (I.hok.write mu he k heo new)
theorem Inv.weak {σ':List (Option V)} (I:Inv X pins σ H s) (hl:σ'.length=σ.length) (w:∀(i:Nat) v,σ'[i]?=some (some v)→σ[i]?=some (some v)):Inv X pins σ' H s:=
 ⟨I.ok,I.os,I.bare,I.base,let ⟨m,hn,hl'⟩:=I.loc;⟨m,hn,fun i x v e1 e2 e3=>hl' i x v e1 (w i v e2) e3⟩,I.cell,I.free,I.freeC,I.pin,I.hok,hl.trans I.len⟩
theorem Inv.pins_of {pins':List (Addr×Obj)} (I:Inv X pins σ H s) (h:∀p∈pins',s.heap.get? p.1=some p.2∧H p.1=none∧p.1≠X.env.locals∧p.1∉X.fs∧∀v,p.2.data≠.cell v):Inv X pins' σ H s:=
 ⟨I.ok,I.os,I.bare,I.base,I.loc,I.cell,I.free,I.freeC,fun p hp=>(List.mem_append.mp hp).elim (fun z=>I.pin p (List.mem_append_left _ z)) (h p),I.hok,I.len⟩
theorem e9 {N:List Str} (hN:N.Nodup) {i j:Nat} {x:Str} (a:N[i]?=some x) (b:N[j]?=some x):i=j:=by
 obtain ⟨h1,e1⟩:=List.getElem?_eq_some_iff.mp a
 obtain ⟨h2,e2⟩:=List.getElem?_eq_some_iff.mp b
 exact (List.getElem_inj hN).mp (e1.trans e2.symm)
theorem Qw {M:Model} {A:Around} {E:Value→Shared→Prop} {i:Nat} {x:Str} {v:V} {u:Value} {Q:Unit→Shared→Prop} (I:Inv X pins σ H s) (hN:X.N.Nodup) (hi:X.N[i]?=some x) (hx:Loc X.env.scope x) (r:RelV v u)
  (h:∀s',Inv X pins (σ.set i (some v)) H s'→(∃a,Heap.SameBut a s.heap s'.heap∧(a=X.env.locals∨X.env.cells.lookup x=some a))→Q () s') (hf:X.fn x=true∨X.env.scope.names.lookup x=some .local:=by first | exact .inl rfl | exact .inr rfl | assumption):wpAny M A (storeName X.env x u) Q E s:=by
 obtain ⟨m,hn,hl⟩:=id I.loc
 have hcls:(X.env.scope.kind == .class || (X.env.scope.kind == .module && X.env.locals != X.env.globals))=false:=by rw [I.ok.kind];rfl
 have hiσ:i<σ.length:=by rw [I.len];exact (List.getElem?_eq_some_iff.mp hi).1
 have cne:=I.cne
 have tracked:∀{a:Addr} {h':Heap},(∃o,s.heap.get? a=some o∧H a=none)→Heap.SameBut a s.heap h'→HOk X.prog X.w H h':=fun {a h'} ha hs b ob e=>by
  obtain ⟨_,_,hfree⟩:=ha
  refine (I.hok b ob e).stay (fun c w' hc q=>(hs.2 c ?_).trans q) (fun _ q=>q) fun _ _ q=>q
  rintro rfl
  rcases hc with rfl | hc
  ·rw [hfree] at e;cases e
  ·rw [hfree] at hc;cases hc
 rcases hx with hk | hk
 ·refine wpAny_storeName_local hk hn (fun h' hn' hs=>?_) hcls
  obtain ⟨oL,_,_,hoL,_⟩:=id hn
  refine h _ ⟨I.ok,I.os,I.bare,⟨fun b o e n hb hx=>?_,fun b o e n hb hx=>?_,I.base.free,fun b o e hx=>?_,I.base.tups,I.base.frzs,I.base.tbls⟩,⟨_,hn',fun j y v' e1 e2 e3=>?_⟩,fun y c e=>?_,I.free,I.freeC,fun p hp=>?_,tracked ⟨oL,hoL,I.free⟩ hs,by simpa using I.len⟩ ⟨_,hs,.inl rfl⟩
  ·exact (hs.2 b (Nat.ne_of_lt (Nat.lt_of_lt_of_le (Heap.lt_size e) I.ok.above))).trans (I.base.keep b o e n hb hx)
  ·obtain ⟨sl,e1⟩:=I.base.slot b o e n hb hx
   exact ⟨sl,(hs.2 b (Nat.ne_of_lt (Nat.lt_of_lt_of_le (Heap.lt_size e) I.ok.above))).trans e1⟩
  ·obtain ⟨o',e1⟩:=I.base.there b o e hx
   exact ⟨o',(hs.2 b (Nat.ne_of_lt (Nat.lt_of_lt_of_le (Heap.lt_size e) I.ok.above))).trans e1⟩
  ·by_cases hj:j=i
   ·subst hj
    rw [hi] at e1;cases e1
    rw [List.getElem?_set_self hiσ] at e2
    cases e2
    exact ⟨u,r,.inl ⟨hk,by simp⟩⟩
   ·rw [List.getElem?_set_ne (Ne.symm hj)] at e2
    obtain ⟨u',r',q⟩:=hl j y v' e1 e2 e3
    refine ⟨u',r',?_⟩
    rcases q with ⟨k,e⟩ | ⟨k,c,e,z⟩
    ·refine .inl ⟨k,?_⟩
     have:y≠x:=fun e=>hj (e9 hN e1 (e ▸ hi))
     simp [this,e]
    ·exact .inr ⟨k,c,e,z.sameBut hs (cne y c e)⟩
  ·obtain ⟨w',z⟩:=I.cell y c e
   exact ⟨w',z.sameBut hs (cne y c e)⟩
  ·obtain ⟨e,n,ne,nf,d⟩:=I.pin p hp
   exact ⟨(hs.2 p.1 ne).trans e,n,ne,nf,d⟩
 ·have hfn:X.fn x=true:=by
   rcases hf with z | z
   ·exact z
   ·rw [z] at hk;cases hk
  obtain ⟨c,hc⟩:=I.ok.has x (.inl hk)
  obtain ⟨w',z⟩:=I.cell x c hc
  refine wpAny_storeName_cell I.ok.kind hk hc z (fun h' hc' hs=>?_)
  obtain ⟨oc,hoc,hocd⟩:=id z
  refine h {s with heap:=h'} ⟨I.ok,I.os,I.bare,⟨fun b o e n hb hx=>?_,fun b o e n hb hx=>?_,I.base.free,fun b o e hx=>?_,I.base.tups,I.base.frzs,I.base.tbls⟩,⟨m,hn.sameBut hs (Ne.symm (cne x c hc)),fun j y v' e1 e2 e3=>?_⟩,fun y c' e=>?_,I.free,I.freeC,fun p hp=>?_,tracked ⟨oc,hoc,I.freeC x c hc⟩ hs,by simpa using I.len⟩ ⟨c,hs,.inr hc⟩
  ·exact (hs.2 b (Nat.ne_of_lt (Nat.lt_of_lt_of_le (Heap.lt_size e) (I.ok.cab x c hfn hc)))).trans (I.base.keep b o e n hb hx)
  ·obtain ⟨sl,e1⟩:=I.base.slot b o e n hb hx
   exact ⟨sl,(hs.2 b (Nat.ne_of_lt (Nat.lt_of_lt_of_le (Heap.lt_size e) (I.ok.cab x c hfn hc)))).trans e1⟩
  ·obtain ⟨o',e1⟩:=I.base.there b o e hx
   exact ⟨o',(hs.2 b (Nat.ne_of_lt (Nat.lt_of_lt_of_le (Heap.lt_size e) (I.ok.cab x c hfn hc)))).trans e1⟩
  ·by_cases hj:j=i
   ·subst hj
    rw [hi] at e1;cases e1
    rw [List.getElem?_set_self hiσ] at e2
    cases e2
    exact ⟨u,r,.inr ⟨.inl hk,c,hc,hc'⟩⟩
   ·rw [List.getElem?_set_ne (Ne.symm hj)] at e2
    obtain ⟨u',r',q⟩:=hl j y v' e1 e2 e3
    refine ⟨u',r',?_⟩
    rcases q with q | ⟨k,c',e,z'⟩
    ·exact .inl q
    ·refine .inr ⟨k,c',e,z'.sameBut hs ?_⟩
     rintro rfl
     exact hj (e9 hN e1 (I.ok.inj _ _ _ e hc ▸ hi))
  ·by_cases hcc:c'=c
   ·subst hcc;exact ⟨_,hc'⟩
   ·obtain ⟨w2,z2⟩:=I.cell y c' e
    exact ⟨w2,z2.sameBut hs hcc⟩
  ·obtain ⟨e,n,ne,nf,d⟩:=I.pin p hp
   refine ⟨(hs.2 p.1 ?_).trans e,n,ne,nf,d⟩
   intro q
   rw [q,hoc] at e
   have q':oc=p.2:=Option.some.inj e
   exact d w' (by rw [←q'];exact hocd)
theorem N9 {M:Model} {A:Around} {E:Value→Shared→Prop} {i:Nat} {x:Str} {v:V} {u:Value} {Q:Unit→Shared→Prop} (I:Inv X pins σ H s) (hN:X.N.Nodup) (hi:X.N[i]?=some x) (hx:Loc X.env.scope x) (r:RelV v u)
  (h:∀s',Inv X pins (σ.set i (some v)) H s'→Q () s') (hf:X.fn x=true∨X.env.scope.names.lookup x=some .local:=by first | exact .inl rfl | exact .inr rfl | assumption):wpAny M A (storeName X.env x u) Q E s:=
 Qw I hN hi hx r (fun s' I' _=>h s' I') hf
theorem Inv.call' {s':Shared} {ch:List Addr} (I:Inv X pins σ H s) (ho:s'.os=s.os) (u:Un (frs X.stack) ch H H' s.heap s'.heap) (hok:HOk X.prog X.w H' s'.heap) (hg:AllBare s'.gens)
  (hch:∀b∈ch,(b∈X.ex∨X.s₀.heap.objs.size≤b)∧b≠X.env.locals∧(∀x c,X.env.cells.lookup x=some c→c≠b)∧∀p∈X.pn++pins,p.1≠b):Inv X pins σ H' s':=by
 obtain ⟨h',g',d',t',o'⟩:=s'
 have e:o'=s.os:=ho
 subst e
 exact I.call (g':=g') (t':=t') (d':=d') u hok hg hch
end
abbrev XK:=Value→Option Addr→Hp→Prop
abbrev St:=List (Option V)
abbrev VK:=V→Hp→Prop
abbrev TE:=St→Hp→VK→Prop
abbrev TT:=St→Hp→(Bool→Hp→Prop)→Prop
abbrev TA:=St→Hp→(List V→Hp→Prop)→Prop
structure Ends where
 nx:St→Hp→Prop
 rt:VK
 bk:St→Hp→Prop:=fun _ _=>False
 ct:St→Hp→Prop:=fun _ _=>False
abbrev TS:=Ends→St→Hp→Prop
def EP (X:Cx) (pins:List (Addr×Obj)) (σ:St) (Q:VK) (u:Value) (s':Shared):Prop:=∃v H',Inv X pins σ H' s'∧RelV v u∧Q v H'
def TP (X:Cx) (pins:List (Addr×Obj)) (σ:St) (Q:Bool→Hp→Prop) (b:Bool) (s':Shared):Prop:=∃H',Inv X pins σ H' s'∧Q b H'
def AP (X:Cx) (pins:List (Addr×Obj)) (σ:St) (Q:List V→Hp→Prop) (us:List Value) (s':Shared):Prop:=∃vs H',Inv X pins σ H' s'∧Vals vs us∧Q vs H'
def SP (X:Cx) (pins:List (Addr×Obj)) (D:Ends) (f:Flow) (s':Shared):Prop:=
 match f with
 | .next=>∃σ' H',Inv X pins σ' H' s'∧D.nx σ' H'
 | .brk=>∃σ' H',Inv X pins σ' H' s'∧D.bk σ' H'
 | .cont=>∃σ' H',Inv X pins σ' H' s'∧D.ct σ' H'
 | .ret u=>∃v σ' H',Inv X pins σ' H' s'∧RelV v u∧D.rt v H'
def PE (X:Cx) (e:Expr) (t:TE):Prop:=
 ∀(pins:List (Addr×Obj)) (s:Shared) (σ:St) (H:Hp) (Q:VK),Inv X pins σ H s→t σ H Q→wpAny (model X.prog X.w) X.A (eval e X.env) (EP X pins σ Q) X.xe s
def PT (X:Cx) (e:Expr) (t:TT):Prop:=
 ∀(pins:List (Addr×Obj)) (s:Shared) (σ:St) (H:Hp) (Q:Bool→Hp→Prop),Inv X pins σ H s→t σ H Q→wpAny (model X.prog X.w) X.A (isTrue e X.env (eval e X.env)) (TP X pins σ Q) X.xe s
def PW (X:Cx) (e:Expr) (t:TT):Prop:=
 ∀(whole:Sem Value) (pins:List (Addr×Obj)) (s:Shared) (σ:St) (H:Hp) (Q:Bool→Hp→Prop),Inv X pins σ H s→t σ H Q→wpAny (model X.prog X.w) X.A (isTrue e X.env whole) (TP X pins σ Q) X.xe s
theorem PW.pt {X:Cx} {e:Expr} {t:TT} (h:PW X e t):PT X e t:=h _
def PA (X:Cx) (es:List Expr) (t:TA):Prop:=
 ∀(pos:Pos) (pins:List (Addr×Obj)) (s:Shared) (σ:St) (H:Hp) (Q:List V→Hp→Prop),Inv X pins σ H s→t σ H Q→wpAny (model X.prog X.w) X.A (spliced (backTo pos (starEach es X.env))) (AP X pins σ Q) X.xe s
def PS (X:Cx) (st:Stmt) (t:TS):Prop:=
 ∀(pins:List (Addr×Obj)) (s:Shared) (σ:St) (H:Hp) (D:Ends),Inv X pins σ H s→t D σ H→wpAny (model X.prog X.w) X.A (exec st X.env) (SP X pins D) X.xe s
def PSs (X:Cx) (st:List Stmt) (t:TS):Prop:=
 ∀(pins:List (Addr×Obj)) (s:Shared) (σ:St) (H:Hp) (D:Ends),Inv X pins σ H s→t D σ H→wpAny (model X.prog X.w) X.A (execs st X.env) (SP X pins D) X.xe s
theorem thn {α:Type} {t:Sem α} {Q Q':α→Shared→Prop} {M:Model} {A:Around} {E:Value→Shared→Prop} {s:Shared} (h:wpAny M A t Q E s) (hQ:∀a s,Q a s→Q' a s):wpAny M A t Q' E s:=wpAny_mono h hQ fun _ _ x=>x
section
variable {X:Cx}
def uH (i:Nat):TE:=fun σ H Q=>∃v,σ[i]?=some (some v)∧Q v H
def tC (v:V):TE:=fun _ H Q=>Q v H
theorem mK {i:Nat} {x:Str} {pos:Pos} (hN:X.N[i]?=some x) (hv:Vis X.env.scope x) (hd:(x == ("__debug__":Str))=false:=by decide) (hcd:(x == ("__classdict__":Str))=false:=by decide):PE X (.Name x pos) (uH i):=by
 intro pins s σ H Q I h
 obtain ⟨v,e,h⟩:=h
 obtain ⟨m,hn,hl⟩:=I.loc
 obtain ⟨u,r,l⟩:=hl i x v hN e hv
 have fin:EP X pins σ Q u s:=⟨v,H,I,r,h⟩
 rcases l with ⟨hk,hm⟩ | ⟨hk,c,hc,hcell⟩
 ·exact wpAny_Name (wpAny_loadName_local I.ok.kind hk hn hm fin) hd
 ·rcases hk with hk | hk
  ·exact wpAny_Name (wpAny_loadName_cell I.ok.kind hk hc hcell fin) hd
  ·exact wpAny_Name (wpAny_loadName_free I.ok.kind hk hc hcell fin hcd) hd
theorem Z2 {i j pos}:PE X (.Constant (.int i) j pos) (tC (.int i)):=fun _ _ _ H _ I h=>wpAny_Constant_int ⟨.int i,H,I.tok _,⟨_,rfl⟩,h⟩
theorem Wc {b j pos}:PE X (.Constant (.bool b) j pos) (tC (.bl b)):=fun _ _ _ H _ I h=>Constant_bool ⟨.bl b,H,I,rfl,h⟩
theorem V5 {x j pos}:PE X (.Constant (.str x) j pos) (tC (.str x)):=fun _ _ _ H _ I h=>Calls.Constant_str ⟨.str x,H,I.tok _,⟨_,rfl⟩,h⟩
def Gl (X:Cx) (x:Str):Prop:=X.env.kindOf x=some .globalImplicit
theorem jm {E:Value→Shared→Prop} {pins:List (Addr×Obj)} {s:Shared} {σ:St} {H:Hp} {x:Str} {u:Value} {pos:Pos} {Q:Value→Shared→Prop} (I:Inv X pins σ H s) (hg:Gl X x) (hm:X.mg x=some u) (h:Q u s)
  (hd:(x == ("__debug__":Str))=false:=by decide):wpAny (model X.prog X.w) X.A (eval (.Name x pos) X.env) Q E s:=
 Calls.Name_function_global I.ok.kind hg (Calls.loadGlobal_global (by rw [I.ok.glob];exact I.mod.glob.keeps I.bk) hm h) hd
theorem S7 {E:Value→Shared→Prop} {pins:List (Addr×Obj)} {s:Shared} {σ:St} {H:Hp} {x:Str} {u:Value} {pos:Pos} {Q:Value→Shared→Prop} (I:Inv X pins σ H s) (hg:Gl X x) (hm:X.mg x=none) (hv:bootBuiltins x=some u) (h:Q u s)
  (hn:x≠"__name__":=by decide) (hd:(x == ("__debug__":Str))=false:=by decide):wpAny (model X.prog X.w) X.A (eval (.Name x pos) X.env) Q E s:=by
 obtain ⟨mb,h1,h2⟩:=I.mod.blt
 exact Calls.Name_function_global I.ok.kind hg (Calls.loadGlobal_builtin (by rw [I.ok.glob];exact I.mod.glob.keeps I.bk) hm (by rw [I.ok.blt];exact h1.keeps I.bk) ((h2 x hn).trans hv) h) hd
theorem qz {x:Str} {v:V} {u:Value} {pos:Pos} (hg:Gl X x) (hm:X.mg x=some u) (r:RelV v u) (hd:(x == ("__debug__":Str))=false:=by decide):PE X (.Name x pos) (tC v):=
 fun _ _ _ H _ I h=>jm I hg hm ⟨v,H,I,r,h⟩ hd
theorem Xh {x:Str} {v:V} {u:Value} {pos:Pos} (hg:Gl X x) (hm:X.mg x=none) (hv:bootBuiltins x=some u) (r:RelV v u) (hn:x≠"__name__":=by decide) (hd:(x == ("__debug__":Str))=false:=by decide):PE X (.Name x pos) (tC v):=
 fun _ _ _ H _ I h=>S7 I hg hm hv ⟨v,H,I,r,h⟩ hn hd
variable {a b:Expr} {ta tb:TE} {pos:Pos}
def tB (t:TE):TT:=fun σ H Q=>t σ H fun x H1=>∃c,x=.bl c∧Q c H1
theorem Yy {e:Expr} {t:TE} (h:PE X e t) (he:∀whole,isTrue e X.env whole=(do let v ←whole;standAt e.pos;holding [v] (truthy v)):=by intro _;rfl):PT X e (tB t):=by
 intro pins s σ H Q I hw
 refine isTrue_plain (thn (h pins s σ H _ I hw) fun v s1 ⟨x,H1,I1,r1,q1⟩=>?_) (he _)
 obtain ⟨d,rfl,q⟩:=q1
 cases r1
 exact wpAny_truthy_bool ⟨H1,I1,q⟩
variable {tA tB':TT} {rest:List Expr}
def tAnd (t u:TT):TT:=fun σ H Q=>t σ H fun c H1=>if c=true then u σ H1 Q else Q false H1
def tOr (t u:TT):TT:=fun σ H Q=>t σ H fun c H1=>if c=true then Q true H1 else u σ H1 Q
def tNot (t:TT):TT:=fun σ H Q=>t σ H fun c H1=>Q (!c) H1
theorem jB (ha:PT X a tA):PW X (.BoolOp .And [a] pos) tA:=by
 intro wh pins s σ H Q I h
 refine isTrue_and (thn (ha pins s σ H Q I h) fun c s1 e=>?_)
 cases c with
 | true=>exact isTrue_and_nil e
 | false=>exact e
theorem Xp (ha:PT X a tA):PW X (.BoolOp .Or [a] pos) tA:=by
 intro wh pins s σ H Q I h
 refine isTrue_or (thn (ha pins s σ H Q I h) fun c s1 e=>?_)
 cases c with
 | false=>exact isTrue_or_nil e
 | true=>exact e
theorem m_ (ha:PT X a tA) (hb:PW X (.BoolOp .And (b::rest) pos) tB'):PW X (.BoolOp .And (a::b::rest) pos) (tAnd tA tB'):=by
 intro wh pins s σ H Q I h
 refine isTrue_and (thn (ha pins s σ H _ I h) fun c s1 hpat=>?_)
 obtain ⟨H1,I1,q1⟩:=hpat
 cases c with
 | true=>exact hb wh pins s1 σ H1 Q I1 q1
 | false=>exact ⟨H1,I1,q1⟩
theorem Xw (ha:PT X a tA) (hb:PW X (.BoolOp .Or (b::rest) pos) tB'):PW X (.BoolOp .Or (a::b::rest) pos) (tOr tA tB'):=by
 intro wh pins s σ H Q I h
 refine isTrue_or (thn (ha pins s σ H _ I h) fun c s1 hpat=>?_)
 obtain ⟨H1,I1,q1⟩:=hpat
 cases c with
 | true=>exact ⟨H1,I1,q1⟩
 | false=>exact hb wh pins s1 σ H1 Q I1 q1
theorem X6 (ha:PT X a tA):PT X (.UnaryOp .Not a pos) (tNot tA):=by
 intro pins s σ H Q I h
 exact isTrue_not (ha pins s σ H (fun c H1=>Q (!c) H1) I h)
def u9 (ta tb:TE):TE:=fun σ H Q=>ta σ H fun x H1=>∃c,x=.bl c∧if c=true then tb σ H1 Q else Q (.bl false) H1
def uY (ta:TE):TE:=fun σ H Q=>ta σ H fun x H1=>∃c,x=.bl c∧Q (.bl (!c)) H1
theorem V6 {op} {t:TE} (h:PE X a t):PE X (.BoolOp op [a] pos) t:=fun pins s σ H Q I hw=>BoolOp_one (h pins s σ H Q I hw)
theorem Xy (ha:PE X a ta) (hb:PE X (.BoolOp .And (b::rest) pos) tb):PE X (.BoolOp .And (a::b::rest) pos) (u9 ta tb):=by
 intro pins s σ H Q I h
 refine BoolOp_and (thn (ha pins s σ H _ I h) fun v s1 hpat=>?_)
 obtain ⟨x,H1,I1,r1,q1⟩:=hpat
 obtain ⟨c,rfl,q1⟩:=q1
 cases r1
 refine wpAny_truthy_bool ?_
 cases c with
 | true=>exact hb pins s1 σ H1 Q I1 q1
 | false=>exact ⟨.bl false,H1,I1,rfl,q1⟩
theorem rk (ha:PE X a ta):PE X (.UnaryOp .Not a pos) (uY ta):=by
 intro pins s σ H Q I h
 refine UnaryOp_ (thn (ha pins s σ H _ I h) fun v s1 hpat=>?_)
 obtain ⟨x,H1,I1,r1,q1⟩:=hpat
 obtain ⟨c,rfl,q1⟩:=q1
 cases r1
 exact not_of (wpAny_truthy_bool ⟨.bl (!c),H1,I1,rfl,q1⟩)
end
def SqL (K:W.Frag) (H:Hp) (a:Addr) (xs:List V):Prop:=
 Rd H a (.lst xs)∨
  ∃(o:Obj) (its:Array Value) (n:Nat),K.lookup a=some o∧o.cls=.type "list"∧o.dict=none∧o.data=.seq its n∧its.size≤sizeLine∧Vals xs its.toList
def SqT (K:W.Frag) (H:Hp) (a:Addr) (xs:List V):Prop:=
 Rd H a (.tup xs)∨
  ∃(o:Obj) (its:Array Value) (n:Nat),K.lookup a=some o∧o.cls=.type "tuple"∧o.data=.seq its n∧its.size≤sizeLine∧Vals xs its.toList
def absV:Value→Option V
 | .none=>some .non
 | .bool b=>some (.bl b)
 | .int i _=>some (.int i)
 | .str x _=>some (.str x)
 | .bytes b _=>some (.byt b)
 | .float b _=>some (.flt b)
 | .ref a=>some (.ref a)
 | .type n=>some (.ty n)
 | _=>none
theorem RelV.abs {x:V} {u:Value} (r:RelV x u):absV u=some x:=by
 cases x with
 | non=>cases r;rfl
 | bl _=>cases r;rfl
 | int _=>obtain ⟨t,rfl⟩:=r;rfl
 | str _=>obtain ⟨t,rfl⟩:=r;rfl
 | byt _=>obtain ⟨t,rfl⟩:=r;rfl
 | flt _=>obtain ⟨t,rfl⟩:=r;rfl
 | ref _=>cases r;rfl
 | ty _=>cases r;rfl
theorem RelV.inj {x y:V} {u:Value} (r:RelV x u) (q:RelV y u):x=y:=Option.some.inj (r.abs.symm.trans q.abs)
theorem Vals.inj {xs ys:List V} {us:List Value} (h:Vals xs us) (g:Vals ys us):xs=ys:=by
 induction h generalizing ys with
 | nil=>cases g;rfl
 | cons r t ih=>
  cases g with
  | cons r' t'=>rw [r.inj r',ih t']
section
variable {X:Cx} {pins:List (Addr×Obj)} {σ:St} {H:Hp} {s:Shared} {a:Addr} {xs ys:List V}
theorem SqL.of {K:W.Frag} (h:H a=some (.lst xs)):SqL K H a xs:=.inl (.inl h)
theorem SqT.of {K:W.Frag} (h:H a=some (.tup xs)):SqT K H a xs:=.inl (.inl h)
theorem Inv.list (I:Inv X pins σ H s) (h:SqL X.K H a xs):∃its:List Value,Vals xs its∧PlainL s.heap a its.toArray∧xs.length≤sizeLine:=by
 rcases h with h | ⟨o,its,n,hk,hc,hd,hs,hz,r⟩
 ·obtain ⟨z,its,n,r,e⟩:=h.ok I.hok
  exact ⟨its,r,⟨_,n,e,rfl,rfl,rfl⟩,z⟩
 ·refine ⟨its.toList,r,⟨o,n,I.kIn a o hk,hc,hd,by simpa using hs⟩,?_⟩
  have e:=r.length
  simp only [Array.length_toList] at e
  omega
theorem Inv.tuple (I:Inv X pins σ H s) (h:SqT X.K H a xs):∃its:List Value,Vals xs its∧IsTup s.heap a its.toArray∧xs.length≤sizeLine:=by
 rcases h with h | ⟨o,its,n,hk,hc,hs,hz,r⟩
 ·obtain ⟨z,its,r,p⟩:=h.ok I.hok
  exact ⟨its,r,p.tup,z⟩
 ·refine ⟨its.toList,r,⟨o,I.kIn a o hk,hc,n,by simpa using hs⟩,?_⟩
  have e:=r.length
  simp only [Array.length_toList] at e
  omega
theorem Inv.list_inj (I:Inv X pins σ H s) (h:SqL X.K H a xs) (h':SqL X.K H a ys):xs=ys:=by
 obtain ⟨its,r,⟨o,n,e,_,_,d⟩,_⟩:=I.list h
 obtain ⟨its',r',⟨o',n',e',_,_,d'⟩,_⟩:=I.list h'
 rw [e] at e';cases e'
 rw [d] at d'
 injection d' with d1 _
 have:its=its':=by simpa using congrArg Array.toList d1
 subst this
 exact r.inj r'
theorem Inv.tuple_inj (I:Inv X pins σ H s) (h:SqT X.K H a xs) (h':SqT X.K H a ys):xs=ys:=by
 obtain ⟨its,r,⟨o,e,_,n,d⟩,_⟩:=I.tuple h
 obtain ⟨its',r',⟨o',e',_,n',d'⟩,_⟩:=I.tuple h'
 rw [e] at e';cases e'
 rw [d] at d'
 injection d' with d1 _
 have:its=its':=by simpa using congrArg Array.toList d1
 subst this
 exact r.inj r'
end
abbrev Cx.wish (X:Cx) (E:Value→Shared→Prop):Cx:={X with xe:=E}
abbrev Cx.nox (X:Cx):Cx:=X.wish fun _ _=>False
theorem Cx.Ok.wish {X:Cx} (ok:X.Ok) (E:Value→Shared→Prop):(X.wish E).Ok:=
 ⟨ok.mod,ok.kind,ok.glob,ok.blt,ok.above,ok.inj,ok.has,ok.cab,ok.hd,ok.frames,ok.stk,ok.exf,ok.bs,ok.bsz,ok.noex,ok.exfs,ok.funs,ok.frf⟩
theorem Cx.Ok.unwish {X:Cx} {E:Value→Shared→Prop} (ok:(X.wish E).Ok):X.Ok:=
 ⟨ok.mod,ok.kind,ok.glob,ok.blt,ok.above,ok.inj,ok.has,ok.cab,ok.hd,ok.frames,ok.stk,ok.exf,ok.bs,ok.bsz,ok.noex,ok.exfs,ok.funs,ok.frf⟩
section
variable {X:Cx} {pins:List (Addr×Obj)} {σ:St} {H:Hp} {s:Shared} {E:Value→Shared→Prop}
theorem Inv.wish (I:Inv X pins σ H s) (E:Value→Shared→Prop):Inv (X.wish E) pins σ H s:=⟨I.ok.wish E,I.os,I.bare,I.base,I.loc,I.cell,I.free,I.freeC,I.pin,I.hok,I.len⟩
theorem Inv.unwish (I:Inv (X.wish E) pins σ H s):Inv X pins σ H s:=⟨I.ok.unwish,I.os,I.bare,I.base,I.loc,I.cell,I.free,I.freeC,I.pin,I.hok,I.len⟩
theorem SP.unwish {D:Ends} {f:Flow} {s':Shared} (h:SP (X.wish E) pins D f s'):SP X pins D f s':=by
 cases f with
 | next=>obtain ⟨σ',H',I,q⟩:=h;exact ⟨σ',H',I.unwish,q⟩
 | brk=>obtain ⟨σ',H',I,q⟩:=h;exact ⟨σ',H',I.unwish,q⟩
 | cont=>obtain ⟨σ',H',I,q⟩:=h;exact ⟨σ',H',I.unwish,q⟩
 | ret u=>obtain ⟨v,σ',H',I,r,q⟩:=h;exact ⟨v,σ',H',I.unwish,r,q⟩
theorem PSs.nox {st:List Stmt} {t:TS} (h:PSs X.nox st t):PSs X st t:=fun pins s σ H D I hw=>
 wpAny_mono (h pins s σ H D (I.wish _) hw) (fun _ _ q=>q.unwish) fun _ _ z=>False.elim z
end
section
variable {X:Cx} {st:Stmt} {rest:List Stmt} {t u:TS} {e:Expr} {te:TE} {pos:Pos}
def uj:TS:=fun D σ H=>D.nx σ H
def uI (t u:TS):TS:=fun D σ H=>t {D with nx:=u D} σ H
theorem Zu:PSs X [] uj:=fun _ _ σ H _ I h=>wpAny_execs_nil ⟨σ,H,I,h⟩
theorem Z3 (h1:PS X st t) (h2:PSs X rest u):PSs X (st::rest) (uI t u):=by
 intro pins s σ H D I h
 refine wpAny_execs_cons (thn (h1 pins s σ H {D with nx:=u D} I h) fun f s1 q=>?_)
 cases f with
 | next=>
  obtain ⟨σ',H',I',q⟩:=q
  exact h2 pins s1 σ' H' D I' q
 | ret v=>exact q
 | brk=>exact q
 | cont=>exact q
theorem Z9 (h1:PS X st t):PSs X [st] t:=by
 intro pins s σ H D I h
 refine wpAny_execs_cons (thn (h1 pins s σ H D I h) fun f s1 q=>?_)
 cases f with
 | next=>exact wpAny_execs_nil q
 | ret v=>exact q
 | brk=>exact q
 | cont=>exact q
theorem Inv.quiet {pins:List (Addr×Obj)} {σ:St} {H:Hp} {s:Shared} (I:Inv X pins σ H s):interactive X.env=false:=by simp [interactive,I.ok.kind]
def uM (te:TE):TS:=fun D σ H=>te σ H fun _ H1=>D.nx σ H1
theorem V4 (he:PE X e te) (hs:swapsWith e none pos.line X.env=pure false:=by rfl):PS X (.Expr e pos) (uM te):=by
 intro pins s σ H D I h
 exact wpAny_Expr_any (thn (he pins s σ H _ I h) fun v s1 ⟨x,H1,I1,r1,q1⟩=>⟨σ,H1,I1,q1⟩) I.quiet hs
def tRet (te:TE):TS:=fun D σ H=>te σ H D.rt
theorem Zg (he:PE X e te):PS X (.Return (some e) pos) (tRet te):=by
 intro pins s σ H D I h
 exact wpAny_Return_some (thn (he pins s σ H _ I h) fun v s1 ⟨x,H1,I1,r1,q1⟩=>⟨x,σ,H1,I1,r1,q1⟩)
def tIfS (c:TT) (t u:TS):TS:=fun D σ H=>c σ H fun b H1=>if b=true then t D σ H1 else u D σ H1
theorem Yc {c:Expr} {a b:List Stmt} {tc:TT} (hc:PT X c tc) (ha:PSs X a t) (hb:PSs X b u):PS X (.If c a b pos) (tIfS tc t u):=by
 intro pins s σ H D I h
 refine wpAny_If (thn (hc pins s σ H _ I h) fun d s1 hpat=>?_)
 obtain ⟨H1,I1,q1⟩:=hpat
 cases d with
 | true=>exact ha pins s1 σ H1 D I1 q1
 | false=>exact hb pins s1 σ H1 D I1 q1
end
abbrev TG:=V→St→Hp→(St→Hp→Prop)→Prop
abbrev TGs:=List V→St→Hp→(St→Hp→Prop)→Prop
def PG (X:Cx) (target:Expr) (t:TG):Prop:=
 ∀(pins:List (Addr×Obj)) (s:Shared) (σ:St) (H:Hp) (v:V) (u:Value) (Q:St→Hp→Prop),Inv X pins σ H s→RelV v u→t v σ H Q→
  wpAny (model X.prog X.w) X.A (assign target X.env u) (fun _ s'=>∃σ' H',Inv X pins σ' H' s'∧Q σ' H') X.xe s
def PGs (X:Cx) (ts:List Expr) (t:TGs):Prop:=
 ∀(pins:List (Addr×Obj)) (s:Shared) (σ:St) (H:Hp) (vs:List V) (us:List Value) (Q:St→Hp→Prop),Inv X pins σ H s→Vals vs us→t vs σ H Q→
  wpAny (model X.prog X.w) X.A (assignInOrder ((assignEach ts X.env).map (·.2)) us) (fun _ s'=>∃σ' H',Inv X pins σ' H' s'∧Q σ' H') X.xe s
abbrev tK:=V→V→V→Hp→(Hp→Prop)→Prop
def vt (X:Cx) (t:tK):Prop:=
 ∀(pins:List (Addr×Obj)) (s:Shared) (σ:St) (H:Hp) (o i v:V) (ov iv u:Value) (Q:Hp→Prop),Inv X pins σ H s→RelV o ov→RelV i iv→RelV v u→t o i v H Q→
  wpAny (model X.prog X.w) X.A (setItem ov iv u) (fun _ s'=>∃H',Inv X pins σ H' s'∧Q H') X.xe s
section
variable {X:Cx} {pos:Pos}
def i7 (i:Nat):TG:=fun v σ H Q=>Q (σ.set i (some v)) H
theorem Z5 {i:Nat} {x:Str} (hN:X.N.Nodup) (hi:X.N[i]?=some x) (hx:Loc X.env.scope x) (hf:X.fn x=true∨X.env.scope.names.lookup x=some .local:=by first | exact .inl rfl | exact .inr rfl | assumption):PG X (.Name x pos) (i7 i):=by
 intro pins s σ H v u Q I r h
 exact wpAny_assign_Name (N9 I hN hi hx r (fun s' I'=>⟨_,H,I',h⟩) hf)
def gNil:TGs:=fun vs σ H Q=>vs=[]∧Q σ H
def uL (t:TG) (u:TGs):TGs:=fun vs σ H Q=>∃v r,vs=v::r∧t v σ H fun σ' H'=>u r σ' H' Q
theorem Zx:PGs X [] gNil:=by
 intro pins s σ H vs us Q I r h
 obtain ⟨e,h⟩:=h
 subst e
 cases r
 exact assignInOrder_nil ⟨σ,H,I,h⟩
theorem Z6 {e:Expr} {es:List Expr} {t:TG} {u:TGs} (h1:PG X e t) (h2:PGs X es u)
  (hs:(assignEach (e::es) X.env).map (·.2)=assign e X.env::(assignEach es X.env).map (·.2):=by rfl):PGs X (e::es) (uL t u):=by
 intro pins s σ H vs us Q I r h
 obtain ⟨v,vr,e1,h⟩:=h
 subst e1
 cases r with
 | cons r rr=>
  rw [hs]
  refine assignInOrder_cons (thn (h1 pins s σ H _ _ _ I r h) fun _ s1 hpat=>?_)
  obtain ⟨σ1,H1,I1,q1⟩:=hpat
  exact h2 pins s1 σ1 H1 _ _ Q I1 rr q1
def uW (K:W.Frag) (n:Nat) (t:TGs):TG:=fun v σ H Q=>∃a xs,v=.ref a∧SqT K H a xs∧xs.length=n∧t xs σ H Q
theorem Yq {es:List Expr} {k:Nat} {t:TGs} {n:Nat} (hc:X.calm=true) (h:PGs X es t)
  (hn:(assignEach es X.env).length=n:=by rfl) (hst:(assignEach es X.env).findIdx? (·.1)=none:=by rfl):PG X (.Tuple es k pos) (uW X.K n t):=by
 intro pins s σ H v u Q I r hw
 obtain ⟨a,xs,e1,hq,hl,hw⟩:=hw
 subst e1
 cases r
 obtain ⟨its,rv,ht,hz⟩:=I.tuple hq
 refine assign_Tuple_tuple (I.ok.hd hc) ht (by simp [hn,←hl,rv.length]) hst fun h' hx=>?_
 have I1:Inv X pins σ H {s with heap:=h'}:=I.kept (t':=s.toks) fun b o e=>hx b o (Nat.ne_of_lt (Heap.lt_size e)) e
 exact h pins _ σ H xs _ Q I1 (by simpa using rv) hw
def gSub (to ti:TE) (t:tK):TG:=fun v σ H Q=>to σ H fun o H1=>ti σ H1 fun i H2=>t o i v H2 fun H3=>Q σ H3
theorem gO {o i:Expr} {to ti:TE} {t:tK} (ho:PE X o to) (hi:PE X i ti) (hs:vt X t)
  (ha:∀v,assign (.Subscript o i pos) X.env v=(do
   let ov ←holding [v] (eval o X.env)
   let iv ←holding [v,ov] (eval i X.env)
   standAt pos
   holding [v,ov,iv] (setItem ov iv v)
   release [v,ov,iv] []):=by intro _;rfl):PG X (.Subscript o i pos) (gSub to ti t):=by
 intro pins s σ H v u Q I r h
 rw [ha]
 refine wpAny_bind (wpAny_holding (thn (ho pins s σ H _ I h) fun ov s1 hpat=>?_))
 obtain ⟨x,H1,I1,r1,q1⟩:=hpat
 refine wpAny_bind (wpAny_holding (thn (hi pins s1 σ H1 _ I1 q1) fun iv s2 hpat=>?_))
 obtain ⟨y,H2,I2,r2,q2⟩:=hpat
 refine wpAny_bind (wpAny_standAt (wpAny_bind (wpAny_holding (thn (hs pins s2 σ H2 x y v ov iv u _ I2 r1 r2 r q2) fun _ s3 hpat=>?_))))
 obtain ⟨H3,I3,q3⟩:=hpat
 exact wpAny_release ⟨σ,H3,I3,q3⟩
def tF (te:TE) (g:TG):TS:=fun D σ H=>te σ H fun x H1=>g x σ H1 D.nx
theorem X7 {tg e:Expr} {te:TE} {g:TG} (he:PE X e te) (hg:PG X tg g) (hs:swapsWithSole [tg] e pos.line X.env=pure false:=by rfl) (hw:swappedStores [tg] e X.env=pure none:=by rfl)
  (h1:(assignEach [tg] X.env).map (·.2)=[assign tg X.env]:=by rfl):PS X (.Assign [tg] e pos) (tF te g):=by
 intro pins s σ H D I h
 refine wpAny_Assign_stores (thn (he pins s σ H _ I h) fun v s1 ⟨x,H1,I1,r1,q1⟩=>?_) hs hw
 rw [h1]
 exact thn (hg pins s1 σ H1 x v _ I1 r1 q1) fun _ s2 q=>q
theorem Zj {i:Nat} {x:Str} {e:Expr} {te:TE} {pos':Pos} (hN:X.N.Nodup) (hi:X.N[i]?=some x) (hx:Loc X.env.scope x) (he:PE X e te) (hs:swapsWith e (some (.Name x pos')) pos.line X.env=pure false:=by rfl) (hf:X.fn x=true∨X.env.scope.names.lookup x=some .local:=by first | exact .inl rfl | exact .inr rfl | assumption):
  PS X (.Assign [.Name x pos'] e pos) (tF te (i7 i)):=by
 intro pins s σ H D I h
 refine wpAny_Assign_Name (thn (he pins s σ H _ I h) fun v s1 hpat=>?_) hs
 obtain ⟨y,H1,I1,r1,q1⟩:=hpat
 exact N9 I1 hN hi hx r1 (fun s2 I2=>⟨_,H1,I2,q1⟩) hf
end
section
variable {X:Cx} {pos:Pos}
end
structure It where
 go:Nat→Hp→Prop
 yld:Nat→Hp→V→Hp→Prop
 stop:Nat→Hp→Prop
def dH (X:Cx) (pins:List (Addr×Obj)) (H:Hp) (b:Addr):Prop:=
 H b=none∧b≠X.env.locals∧b∉X.fs∧(b∈X.ex∨X.s₀.heap.objs.size≤b)∧(∀x c,X.env.cells.lookup x=some c→c≠b)∧∀p∈X.pn++pins,p.1≠b
theorem Inv.fpOk {X:Cx} {pins:List (Addr×Obj)} {σ:St} {H H':Hp} {s:Shared} {b:Addr} (I:Inv X pins σ H s) (hb:s.heap.objs.size≤b) (hn:H' b=none):dH X pins H' b:=by
 refine ⟨hn,Nat.ne_of_gt (Nat.lt_of_lt_of_le I.lt hb),I.nofs hb,.inr (Nat.le_trans I.sz hb),fun x c e z=>?_,fun p hp z=>?_⟩
 ·obtain ⟨v,q⟩:=I.cell x c e
  exact absurd (Nat.lt_of_lt_of_le q.lt (by rw [z];exact hb)) (Nat.lt_irrefl _)
 ·exact absurd (Nat.lt_of_lt_of_le (Heap.lt_size (I.pin p hp).1) (by rw [z];exact hb)) (Nat.lt_irrefl _)
structure Turn (P:Program) (w:World) (K:W.Frag) (tg:Expr) (J:It) (fp:List Addr) (it:Addr) (tn:Nat→Heap→Prop):Prop where
 mem:it∈fp
 obj:∀i h,tn i h→∀b∈fp,∃o,h.get? b=some o∧∀v,o.data≠.cell v
 keep:∀i h h',tn i h→(∀b∈fp,∀o,h.get? b=some o→h'.get? b=some o)→tn i h'
 item:∀(X:Cx),X.prog=P→X.w=w→X.K=K→X.calm=true→∀(i:Nat) (pins:List (Addr×Obj)) (s:Shared) (σ:St) (H:Hp) (E:Value→Shared→Prop),Inv X pins σ H s→(∀b∈fp,dH X pins H b)→tn i s.heap→J.go i H→
  wpAny (model P w) X.A (pyNext (.ref it)) (fun r s1=>∃u,r=some u∧
   wpAny (model P w) X.A (letOwnedTupleGo tg (.ref it) u) (fun _ s2=>∃x H',Inv X pins σ H' s2∧RelV x u∧J.yld i H x H'∧tn (i+1) s2.heap∧∀b∈fp,H' b=none) E s1) E s
 done:∀(X:Cx),X.prog=P→X.w=w→X.K=K→X.calm=true→∀(i:Nat) (pins:List (Addr×Obj)) (s:Shared) (σ:St) (H:Hp) (E:Value→Shared→Prop),Inv X pins σ H s→(∀b∈fp,dH X pins H b)→tn i s.heap→J.stop i H→
  wpAny (model P w) X.A (pyNext (.ref it)) (fun r s1=>r=none∧Inv X pins σ H s1) E s
 self:∀(A:Around) (i:Nat) (s:Shared) (Q:Value→Shared→Prop) (E:Value→Shared→Prop),tn i s.heap→Q (.ref it) s→wpAny (model P w) A (pyIter (.ref it)) Q E s
abbrev TI:=St→Hp→(It→Hp→Prop)→Prop
def PIE (X:Cx) (pins:List (Addr×Obj)) (σ:St) (tg:Expr) (R:It→Hp→Prop) (itv:Value) (s2:Shared):Prop:=
 ∃(it:Addr) (fp:List Addr) (tn:Nat→Heap→Prop) (J:It) (H':Hp),itv=.ref it∧Inv X pins σ H' s2∧Turn X.prog X.w X.K tg J fp it tn∧tn 0 s2.heap∧(∀b∈fp,dH X pins H' b)∧R J H'
def PI (X:Cx) (tg iter:Expr) (wi:TI):Prop:=
 ∀(pins:List (Addr×Obj)) (s:Shared) (σ:St) (H:Hp) (R:It→Hp→Prop),Inv X pins σ H s→wi σ H R→
  wpAny (model X.prog X.w) X.A (eval iter X.env) (fun v s1=>wpAny (model X.prog X.w) X.A (pyIter v) (PIE X pins σ tg R) X.xe s1) X.xe s
theorem Pf {M:Model} {A:Around} {E:Value→Shared→Prop} {s:Shared} {tg:Expr} {it:Addr} {u:Value} {o:Obj} {n:String} {vs:Array Value} {Q:Unit→Shared→Prop} (ho:s.heap.get? it=some o) (hc:o.cls=.type n) (hd:o.data=.fields vs)
  (hn:["enumerate","zip","dict_itemiterator","dict_reverseitemiterator","odict_iterator","itertools.zip_longest","itertools.pairwise"].contains n=false) (hQ:Q () s):wpAny M A (letOwnedTupleGo tg (.ref it) u) Q E s:=by
 unfold letOwnedTupleGo
 cases tg <;> first
  | exact wpAny_pure hQ
  | (cases u <;> first
    | exact wpAny_pure hQ
    | (refine wpAny_bind (wpAny_load ho ?_)
       rw [hc,hd]
       show wpAny M A (if (["enumerate","zip","dict_itemiterator","dict_reverseitemiterator","odict_iterator","itertools.zip_longest","itertools.pairwise"].contains n && vs[0]? == some (rawInt _))=true then _ else _) Q E s
       rw [if_neg (by intro h;rw [hn,Bool.false_and] at h;cases h)]
       exact wpAny_pure hQ))
def Itl (K:W.Frag) (a:Addr):It:=
 ⟨fun i H=>∃xs x,SqL K H a xs∧xs[i]?=some x,fun i H x H'=>H'=H∧∀xs,SqL K H a xs→xs[i]?=some x,fun i H=>∃xs,SqL K H a xs∧xs.length≤i⟩
def Itt (K:W.Frag) (a:Addr):It:=
 ⟨fun i H=>∃xs x,SqT K H a xs∧xs[i]?=some x,fun i H x H'=>H'=H∧∀xs,SqT K H a xs→xs[i]?=some x,fun i H=>∃xs,SqT K H a xs∧xs.length≤i⟩
def Itr (lo:Int) (n:Nat):It:=⟨fun i _=>i<n,fun i H x H'=>H'=H∧x=.int (lo+i),fun i _=>n≤i⟩
theorem j0 {P:Program} {w:World} {K:W.Frag} {tg:Expr} (a it:Addr):Turn P w K tg (Itl K a) [it] it (fun i h=>h.IsListIter it a i) where
 mem:=by simp
 obj:=fun i h st b hb=>by
  have e:b=it:=by simpa using hb
  subst e
  obtain ⟨o,e,c,d⟩:=st
  exact ⟨o,e,fun v z=>by rw [d] at z;cases z⟩
 keep:=fun i h h' st k=>st.at fun o e=>k it (by simp) o e
 item:=by
  intro X hP hw hK hc i pins s σ H E I hf st hg
  subst hP hw hK
  obtain ⟨xs,x,hq,hx⟩:=hg
  obtain ⟨its,rv,p,hz⟩:=I.list hq
  obtain ⟨u,hu,ru⟩:=rv.get hx
  obtain ⟨f0,f1,f2,f3,f4,f5⟩:=hf it (by simp)
  refine wpAny_pyNext_list_item st p.isList (x:=u) (by simpa using hu) fun h' st' sb=>?_
  have I1:Inv X pins σ H {s with heap:=h'}:=I.turned (t':=s.toks) (fun b o hb e=>(sb.2 b hb).trans e) f0 f1 f3 f4 f5
  obtain ⟨o,e,c,d⟩:=id st'
  exact ⟨u,rfl,Pf (s:={s with heap:=h'}) e c d (by decide) ⟨x,H,I1,ru,⟨rfl,fun ys hy=>by rw [I.list_inj hy hq];exact hx⟩,st',fun b hb=>(hf b hb).1⟩⟩
 done:=by
  intro X hP hw hK hc i pins s σ H E I hf st hg
  subst hP hw hK
  obtain ⟨xs,hq,hx⟩:=hg
  obtain ⟨its,rv,p,hz⟩:=I.list hq
  obtain ⟨f0,f1,f2,f3,f4,f5⟩:=hf it (by simp)
  have hl:=rv.length
  exact wpAny_pyNext_list_end (I.ok.hd hc) st p.isList (by simp;omega) fun h' eb=>⟨rfl,I.turned (t':=s.toks) (fun b o hb e=>eb b o hb e) f0 f1 f3 f4 f5⟩
 self:=fun _ _ _ _ _ st h=>wpAny_pyIter_listiter st h
theorem iy {P:Program} {w:World} {K:W.Frag} {tg:Expr} (a it:Addr):Turn P w K tg (Itt K a) [it] it (fun i h=>h.IsTupleIter it a i) where
 mem:=by simp
 obj:=fun i h st b hb=>by
  have e:b=it:=by simpa using hb
  subst e
  obtain ⟨o,e,c,d⟩:=st
  exact ⟨o,e,fun v z=>by rw [d] at z;cases z⟩
 keep:=fun i h h' st k=>st.at fun o e=>k it (by simp) o e
 item:=by
  intro X hP hw hK hc i pins s σ H E I hf st hg
  subst hP hw hK
  obtain ⟨xs,x,hq,hx⟩:=hg
  obtain ⟨its,rv,p,hz⟩:=I.tuple hq
  obtain ⟨u,hu,ru⟩:=rv.get hx
  obtain ⟨f0,f1,f2,f3,f4,f5⟩:=hf it (by simp)
  refine wpAny_pyNext_tuple_item st (show s.heap.IsTuple a its.toArray from p) (x:=u) (by simpa using hu) fun h' st' sb=>?_
  have I1:Inv X pins σ H {s with heap:=h'}:=I.turned (t':=s.toks) (fun b o hb e=>(sb.2 b hb).trans e) f0 f1 f3 f4 f5
  obtain ⟨o,e,c,d⟩:=id st'
  exact ⟨u,rfl,Pf (s:={s with heap:=h'}) e c d (by decide) ⟨x,H,I1,ru,⟨rfl,fun ys hy=>by rw [I.tuple_inj hy hq];exact hx⟩,st',fun b hb=>(hf b hb).1⟩⟩
 done:=by
  intro X hP hw hK hc i pins s σ H E I hf st hg
  subst hP hw hK
  obtain ⟨xs,hq,hx⟩:=hg
  obtain ⟨its,rv,p,hz⟩:=I.tuple hq
  obtain ⟨f0,f1,f2,f3,f4,f5⟩:=hf it (by simp)
  have hl:=rv.length
  exact wpAny_pyNext_tuple_end (I.ok.hd hc) st (show s.heap.IsTuple a its.toArray from p) (by simp;omega) fun h' eb=>⟨rfl,I.turned (t':=s.toks) (fun b o hb e=>eb b o hb e) f0 f1 f3 f4 f5⟩
 self:=fun _ _ _ _ _ st h=>wpAny_pyIter_tupleiter st h
theorem ig {P:Program} {w:World} {K:PySem.W.Frag} {tg:Expr} (it:Addr) (lo:Int) (n:Nat):Turn P w K tg (Itr lo n) [it] it (fun i h=>IsRangeIter h it (lo+(i:Nat) * 1) ((n:Int) - (i:Nat)) 1) where
 mem:=by simp
 obj:=fun i h st b hb=>by
  have e:b=it:=by simpa using hb
  subst e
  exact ⟨_,st,fun v z=>by
   have z':Data.fields _=Data.cell v:=z
   cases z'⟩
 keep:=fun i h h' st k=>k it (by simp) _ st
 item:=by
  intro X hP hw hK hc i pins s σ H E I hf st hg
  subst hP hw hK
  obtain ⟨f0,f1,f2,f3,f4,f5⟩:=hf it (by simp)
  have W:=Walks.range (prog:=X.prog) (w:=X.w) (I.ok.hd hc) it lo 1 n
  refine W.item i s _ _ hg st fun v h' tk hv st' kk=>?_
  obtain ⟨t,rfl⟩:=hv
  have I1:Inv X pins σ H {s with heap:=h',toks:=tk}:=I.turned (fun b o hb e=>kk b o (by simpa using hb) e) f0 f1 f3 f4 f5
  refine ⟨_,rfl,Pf (s:={s with heap:=h',toks:=tk}) (n:="range_iterator") st' rfl rfl (by decide) ⟨.int (lo+i),H,I1,⟨t,?_⟩,⟨rfl,rfl⟩,st',fun b hb=>(hf b hb).1⟩⟩
  rw [Int.mul_one]
 done:=by
  intro X hP hw hK hc i pins s σ H E I hf st hg
  subst hP hw hK
  obtain ⟨f0,f1,f2,f3,f4,f5⟩:=hf it (by simp)
  exact wpAny_pyNext_range_end (I.ok.hd hc) st (by have:n≤i:=hg;omega) fun h' eb=>⟨rfl,I.turned (t':=s.toks) (fun b o hb e=>eb b o hb e) f0 f1 f3 f4 f5⟩
 self:=fun _ _ _ _ _ st h=>wpAny_pyIter_rangeiter st h
section
variable {X:Cx} {tg:Expr}
def uC (K:W.Frag) (tl:TE):TI:=fun σ H R=>tl σ H fun x H1=>∃a,x=.ref a∧(∃xs,SqL K H1 a xs)∧R (Itl K a) H1
def iTup (K:W.Frag) (tl:TE):TI:=fun σ H R=>tl σ H fun x H1=>∃a,x=.ref a∧(∃xs,SqT K H1 a xs)∧R (Itt K a) H1
theorem X0 {l:Expr} {tl:TE} (hl:PE X l tl):PI X tg l (uC X.K tl):=by
 intro pins s σ H R I h
 refine thn (hl pins s σ H _ I h) fun v s1 hpat=>?_
 obtain ⟨x,H1,I1,r1,q1⟩:=hpat
 obtain ⟨a,e,⟨xs,hq⟩,q⟩:=q1
 subst e
 cases r1
 obtain ⟨its,rv,p,hz⟩:=I1.list hq
 refine wpAny_pyIter_list p.isList ?_
 refine ⟨s1.heap.objs.size,[s1.heap.objs.size],_,_,H1,rfl,I1.kept (t':=s1.toks) fun b o e=>Heap.get?_push_of_some _ e,j0 a _,⟨_,Heap.get?_push_size _ rfl,rfl,rfl⟩,fun b hb=>?_,q⟩
 have e:b=s1.heap.objs.size:=by simpa using hb
 subst e
 exact I1.fpOk (Nat.le_refl _) (I1.hok.fresh (Nat.le_refl _))
theorem Xk {l:Expr} {tl:TE} (hl:PE X l tl):PI X tg l (iTup X.K tl):=by
 intro pins s σ H R I h
 refine thn (hl pins s σ H _ I h) fun v s1 hpat=>?_
 obtain ⟨x,H1,I1,r1,q1⟩:=hpat
 obtain ⟨a,e,⟨xs,hq⟩,q⟩:=q1
 subst e
 cases r1
 obtain ⟨its,rv,p,hz⟩:=I1.tuple hq
 refine wpAny_pyIter_tuple (show s1.heap.IsTuple a its.toArray from p) ?_
 refine ⟨s1.heap.objs.size,[s1.heap.objs.size],_,_,H1,rfl,I1.kept (t':=s1.toks) fun b o e=>Heap.get?_push_of_some _ e,iy a _,⟨_,Heap.get?_push_size _ rfl,rfl,rfl⟩,fun b hb=>?_,q⟩
 have e:b=s1.heap.objs.size:=by simpa using hb
 subst e
 exact I1.fpOk (Nat.le_refl _) (I1.hok.fresh (Nat.le_refl _))
theorem oR {pins:List (Addr×Obj)} {σ:St} {H:Hp} {s:Shared} {R:It→Hp→Prop} {E:Value→Shared→Prop} {lo hi:Int} {t u v:Tok} {tk:Nat} (I:Inv X pins σ H s) (h1:-(2 ^ 62)≤lo) (h2:lo<2 ^ 62) (h3:-(2 ^ 62)≤hi) (h4:hi<2 ^ 62)
  (q:R (Itr lo (hi - lo).toNat) H):wpAny (model X.prog X.w) X.A (pyIter (.ref s.heap.objs.size)) (PIE X pins σ tg R) E {s with heap:=s.heap.push {cls:=.type "range",data:=.fields #[.int lo t,.int hi u,.int 1 v]},toks:=tk}:=by
 refine wpAny_pyIter_range (IsRange.new ..) (small_one h1 h2 h3 h4) ?_
 have I1:Inv X pins σ H {s with heap:=s.heap.push {cls:=.type "range",data:=.fields #[.int lo t,.int hi u,.int 1 v]},toks:=tk}:=I.kept fun b o e=>Heap.get?_push_of_some _ e
 refine ⟨(s.heap.push {cls:=.type "range",data:=.fields #[.int lo t,.int hi u,.int 1 v]}).objs.size,[(s.heap.push {cls:=.type "range",data:=.fields #[.int lo t,.int hi u,.int 1 v]}).objs.size],_,_,H,rfl,
  I1.kept (t':=tk) fun b o e=>Heap.get?_push_of_some _ e,ig _ lo (hi - lo).toNat,?_,fun b hb=>?_,q⟩
 ·have e1:lo+((0:Nat):Int) * 1=lo:=by simp
  have e2:(((hi - lo).toNat:Nat):Int) - ((0:Nat):Int)=Builtin.Range.rangeSize lo hi 1:=by rw [rangeSize_one];split <;> omega
  show IsRangeIter _ _ (lo+((0:Nat):Int) * 1) ((((hi - lo).toNat:Nat):Int) - ((0:Nat):Int)) 1
  rw [e1,e2]
  exact Heap.get?_push_size _ rfl
 ·have e:b=(s.heap.push {cls:=.type "range",data:=.fields #[.int lo t,.int hi u,.int 1 v]}).objs.size:=by simpa using hb
  subst e
  exact I1.fpOk (Nat.le_refl _) (I1.hok.fresh (Nat.le_refl _))
def vz (ta:TA):TI:=fun σ H R=>ta σ H fun vs H1=>∃j:Int,vs=[.int j]∧-(2 ^ 62)≤j∧j<2 ^ 62∧R (Itr 0 j.toNat) H1
theorem S0 {a:Expr} {ta:TA} {p pos:Pos} (hg:Gl X "range") (hm:X.mg "range"=none) (ha:PA X [a] ta) (hs:starEach [a] X.env=[(false,eval a X.env)]:=by rfl):PI X tg (.Call (.Name "range" p) [a] [] pos) (vz ta):=by
 intro pins s σ H R I h
 refine Call_ (S7 I hg hm boot_range (PyProof.Rows.callWith_type1 (thn (ha pos pins s σ H _ I h) fun us s1 ⟨vs,H1,I1,r1,q1⟩=>?_) hs rfl))
 obtain ⟨j,e,q1,q2,q⟩:=q1
 subst e
 cases r1 with
 | cons r rr=>
  cases rr
  obtain ⟨t,rfl⟩:=r
  exact call_range_1 (oR I1 (by omega) (by omega) q1 q2 (by simpa using q))
def tFor (wi:TI) (g:TG) (tb:TS):TS:=fun D σ H=>wi σ H fun J H1=>∃W:Nat→Nat→St→Hp→Prop,(∃m,W 0 m σ H1)∧∀i m σ H,W i m σ H→
 (J.stop i H∧D.nx σ H)∨(J.go i H∧∃N:St→Hp→Prop,(∀σ' H',N σ' H'→∃m',m'<m∧W (i+1) m' σ' H')∧∀x H',J.yld i H x H'→g x σ H' fun σ2 H2=>tb {D with nx:=N,ct:=N,bk:=D.nx} σ2 H2)
def dW (fp:List Addr) (h:Heap):List (Addr×Obj):=fp.filterMap fun b=>(h.get? b).map fun o=>(b,o)
theorem V7 {fp:List Addr} {h:Heap} {b:Addr} {o:Obj} (hb:b∈fp) (e:h.get? b=some o):(b,o)∈dW fp h:=List.mem_filterMap.mpr ⟨b,hb,by rw [e];rfl⟩
theorem kY {fp:List Addr} {h:Heap} {p:Addr×Obj} (hp:p∈dW fp h):p.1∈fp∧h.get? p.1=some p.2:=by
 obtain ⟨b,hb,e⟩:=List.mem_filterMap.mp hp
 cases q:h.get? b with
 | none=>rw [q] at e;cases e
 | some o=>
  rw [q] at e
  have e':(b,o)=p:=Option.some.inj e
  subst e'
  exact ⟨hb,q⟩
theorem Inv.pinned {pins:List (Addr×Obj)} {σ:St} {H:Hp} {s:Shared} {fp:List Addr} (I:Inv X pins σ H s) (hf:∀b∈fp,dH X pins H b) (ho:∀b∈fp,∃o,s.heap.get? b=some o∧∀v,o.data≠.cell v):Inv X (pins++dW fp s.heap) σ H s:=
 I.pins_of fun p hp=>(List.mem_append.mp hp).elim (fun z=>I.pin p (List.mem_append_right _ z)) fun z=>by
  obtain ⟨hb,e⟩:=kY z
  obtain ⟨f0,f1,f2,_⟩:=hf p.1 hb
  obtain ⟨o,e',d⟩:=ho p.1 hb
  rw [e] at e';cases e'
  exact ⟨e,f0,f1,f2,d⟩
theorem Inv.unpinned {pins pl:List (Addr×Obj)} {σ:St} {H:Hp} {s:Shared} (I:Inv X (pins++pl) σ H s):Inv X pins σ H s:=I.pins_of fun p hp=>I.pin p (List.mem_append_right _ (List.mem_append_left _ hp))
theorem Xx {iter:Expr} {body:List Stmt} {wi:TI} {g:TG} {tb:TS} {pos:Pos} (hp:PassesOwn (model X.prog X.w) X.A X.env X.xe) (hc:X.calm=true) (hi:PI X tg iter wi) (hg:PG X tg g) (hb:PSs X body tb)
  (hs:∀x,foldedSetIterable iter X.env x=pure x:=by intro _;rfl):PS X (.For tg iter body [] pos) (tFor wi g tb):=by
 intro pins s σ H D I h
 refine wpAny_For (thn (hi pins s σ H _ I h) fun v s1 h1=>thn h1 fun itv s2 h2=>?_) hs
 obtain ⟨it,fp,tn,J,H2,e,I2,T,st2,f2,W,⟨m0,w0⟩,turn⟩:=h2
 subst e
 have stat:∀{H':Hp},(∀b∈fp,H' b=none)→∀b∈fp,dH X pins H' b:=fun hn b hb=>⟨hn b hb,(f2 b hb).2⟩
 refine codeAny_forLoop_any (fun n s'=>∃i σ' H',Inv X pins σ' H' s'∧tn i s'.heap∧(∀b∈fp,H' b=none)∧W i n σ' H') ?_ m0 ⟨0,σ,H2,I2,st2,fun b hb=>(f2 b hb).1,w0⟩
 rintro n s3 ⟨i,σ3,H3,I3,st3,fr3,w3⟩
 rcases turn i n σ3 H3 w3 with ⟨stop,qn⟩ | ⟨go,N,hN,step⟩
 ·refine wpAny_passesOwn hp (thn (T.done X rfl rfl rfl hc i pins s3 σ3 H3 X.xe I3 (stat fr3) st3 stop) fun r s4 hpat=>?_)
  obtain ⟨hr,I4⟩:=hpat
  subst hr
  exact wpAny_execs_nil ⟨σ3,H3,I4,qn⟩
 ·refine wpAny_passesOwn hp (thn (T.item X rfl rfl rfl hc i pins s3 σ3 H3 X.xe I3 (stat fr3) st3 go) fun r s4 hpat=>?_)
  obtain ⟨u,hr,h4⟩:=hpat
  subst hr
  refine wpAny_passesOwn hp (thn h4 fun _ s5 hpat=>?_)
  obtain ⟨x,H5,I5,r5,y5,st5,fr5⟩:=hpat
  have I5':=I5.pinned (stat fr5) (T.obj _ _ st5)
  refine wpAny_passesOwn hp (thn (hg _ s5 σ3 H5 x u _ I5' r5 (step x H5 y5)) fun _ s6 hpat=>?_)
  obtain ⟨σ6,H6,I6,q6⟩:=hpat
  refine wpAny_passesOwn hp (thn (hb _ s6 σ6 H6 _ I6 q6) fun f s7 q7=>?_)
  have again:∀{σ7:St} {H7:Hp},Inv X (pins++dW fp s5.heap) σ7 H7 s7→N σ7 H7→∃m,m<n∧∃i σ' H',Inv X pins σ' H' s7∧tn i s7.heap∧(∀b∈fp,H' b=none)∧W i m σ' H':=fun {σ7 H7} I7 n7=>by
   obtain ⟨m',hm,w7⟩:=hN σ7 H7 n7
   refine ⟨m',hm,i+1,σ7,H7,I7.unpinned,T.keep _ _ _ st5 fun b hb o e=>(I7.pin (b,o) (List.mem_append_right _ (List.mem_append_right _ (V7 hb e)))).1,fun b hb=>?_,w7⟩
   obtain ⟨o,e,d⟩:=T.obj _ _ st5 b hb
   exact (I7.pin (b,o) (List.mem_append_right _ (List.mem_append_right _ (V7 hb e)))).2.1
  cases f with
  | next=>obtain ⟨σ7,H7,I7,n7⟩:=q7;exact again I7 n7
  | cont=>obtain ⟨σ7,H7,I7,n7⟩:=q7;exact again I7 n7
  | brk=>obtain ⟨σ7,H7,I7,q7⟩:=q7;exact ⟨σ7,H7,I7.unpinned,q7⟩
  | ret v=>obtain ⟨x7,σ7,H7,I7,r7,q7⟩:=q7;exact ⟨x7,σ7,H7,I7.unpinned,r7,q7⟩
end
theorem W9 {K:PySem.W.Frag} {a:Addr} {xs:List V} {g:TG} {tb:TS} {D:Ends} {σ:St} {H:Hp} (Pv:Nat→St→Hp→Prop) (h0:Pv 0 σ H) (hl:∀i σ H,i≤xs.length→Pv i σ H→SqL K H a xs)
  (hs:∀i x σ H,xs[i]?=some x→Pv i σ H→g x σ H fun σ2 H2=>tb {D with nx:=Pv (i+1),ct:=Pv (i+1),bk:=D.nx} σ2 H2) (hd:∀σ H,Pv xs.length σ H→D.nx σ H):
  ∃W:Nat→Nat→St→Hp→Prop,(∃m,W 0 m σ H)∧∀i m σ H,W i m σ H→
   ((Itl K a).stop i H∧D.nx σ H)∨((Itl K a).go i H∧∃N:St→Hp→Prop,(∀σ' H',N σ' H'→∃m',m'<m∧W (i+1) m' σ' H')∧∀x H',(Itl K a).yld i H x H'→g x σ H' fun σ2 H2=>tb {D with nx:=N,ct:=N,bk:=D.nx} σ2 H2):=by
 refine ⟨fun i m σ H=>m=xs.length - i∧i≤xs.length∧Pv i σ H,⟨xs.length,by simp,Nat.zero_le _,h0⟩,?_⟩
 rintro i m σ H ⟨rfl,hi,p⟩
 have q:=hl i σ H hi p
 by_cases hlt:i<xs.length
 ·refine .inr ⟨⟨xs,xs[i],q,by simp [hlt]⟩,Pv (i+1),fun σ' H' p'=>⟨xs.length - (i+1),by omega,rfl,hlt,p'⟩,fun x H' y=>?_⟩
  obtain ⟨e,y⟩:=y
  subst e
  exact hs i x σ _ (y xs q) p
 ·have e:i=xs.length:=by omega
  subst e
  exact .inl ⟨⟨xs,q,Nat.le_refl _⟩,hd σ H p⟩
theorem Sz {K:PySem.W.Frag} {a:Addr} {xs:List V} {g:TG} {tb:TS} {D:Ends} {σ:St} {H:Hp} (Pv:Nat→St→Hp→Prop) (h0:Pv 0 σ H) (hl:∀i σ H,i≤xs.length→Pv i σ H→SqT K H a xs)
  (hs:∀i x σ H,xs[i]?=some x→Pv i σ H→g x σ H fun σ2 H2=>tb {D with nx:=Pv (i+1),ct:=Pv (i+1),bk:=D.nx} σ2 H2) (hd:∀σ H,Pv xs.length σ H→D.nx σ H):
  ∃W:Nat→Nat→St→Hp→Prop,(∃m,W 0 m σ H)∧∀i m σ H,W i m σ H→
   ((Itt K a).stop i H∧D.nx σ H)∨((Itt K a).go i H∧∃N:St→Hp→Prop,(∀σ' H',N σ' H'→∃m',m'<m∧W (i+1) m' σ' H')∧∀x H',(Itt K a).yld i H x H'→g x σ H' fun σ2 H2=>tb {D with nx:=N,ct:=N,bk:=D.nx} σ2 H2):=by
 refine ⟨fun i m σ H=>m=xs.length - i∧i≤xs.length∧Pv i σ H,⟨xs.length,by simp,Nat.zero_le _,h0⟩,?_⟩
 rintro i m σ H ⟨rfl,hi,p⟩
 have q:=hl i σ H hi p
 by_cases hlt:i<xs.length
 ·refine .inr ⟨⟨xs,xs[i],q,by simp [hlt]⟩,Pv (i+1),fun σ' H' p'=>⟨xs.length - (i+1),by omega,rfl,hlt,p'⟩,fun x H' y=>?_⟩
  obtain ⟨e,y⟩:=y
  subst e
  exact hs i x σ _ (y xs q) p
 ·have e:i=xs.length:=by omega
  subst e
  exact .inl ⟨⟨xs,q,Nat.le_refl _⟩,hd σ H p⟩
theorem kw {lo:Int} {n:Nat} {g:TG} {tb:TS} {D:Ends} {σ:St} {H:Hp} (Pv:Nat→St→Hp→Prop) (h0:Pv 0 σ H)
  (hs:∀i σ H,i<n→Pv i σ H→g (.int (lo+i)) σ H fun σ2 H2=>tb {D with nx:=Pv (i+1),ct:=Pv (i+1),bk:=D.nx} σ2 H2) (hd:∀σ H,Pv n σ H→D.nx σ H):
  ∃W:Nat→Nat→St→Hp→Prop,(∃m,W 0 m σ H)∧∀i m σ H,W i m σ H→
   ((Itr lo n).stop i H∧D.nx σ H)∨((Itr lo n).go i H∧∃N:St→Hp→Prop,(∀σ' H',N σ' H'→∃m',m'<m∧W (i+1) m' σ' H')∧∀x H',(Itr lo n).yld i H x H'→g x σ H' fun σ2 H2=>tb {D with nx:=N,ct:=N,bk:=D.nx} σ2 H2):=by
 refine ⟨fun i m σ H=>m=n - i∧i≤n∧Pv i σ H,⟨n,by simp,Nat.zero_le _,h0⟩,?_⟩
 rintro i m σ H ⟨rfl,hi,p⟩
 by_cases hlt:i<n
 ·refine .inr ⟨hlt,Pv (i+1),fun σ' H' p'=>⟨n - (i+1),by omega,rfl,hlt,p'⟩,fun x H' y=>?_⟩
  obtain ⟨e,y⟩:=y
  subst e y
  exact hs i σ _ hlt p
 ·have e:i=n:=by omega
  subst e
  exact .inl ⟨Nat.le_refl _,hd σ H p⟩
abbrev R2:=V→V→Hp→VK→Prop
def OpR (X:Cx) (f:Value→Value→Sem Value) (r:R2):Prop:=
 ∀(pins:List (Addr×Obj)) (s:Shared) (σ:St) (H:Hp) (x y:V) (v u:Value) (Q:VK),Inv X pins σ H s→RelV x v→RelV y u→r x y H Q→
  wpAny (model X.prog X.w) X.A (f v u) (EP X pins σ Q) X.xe s
def UnR (X:Cx) (f:Value→Sem Value) (r:V→Hp→VK→Prop):Prop:=
 ∀(pins:List (Addr×Obj)) (s:Shared) (σ:St) (H:Hp) (x:V) (v:Value) (Q:VK),Inv X pins σ H s→RelV x v→r x H Q→
  wpAny (model X.prog X.w) X.A (f v) (EP X pins σ Q) X.xe s
def CallR (X:Cx) (f:Value) (r:List V→Hp→VK→Prop):Prop:=
 ∀(pins:List (Addr×Obj)) (s:Shared) (σ:St) (H:Hp) (xs:List V) (us:List Value) (Q:VK),Inv X pins σ H s→Vals xs us→r xs H Q→
  wpAny (model X.prog X.w) X.A (call f us) (EP X pins σ Q) X.xe s
def tOp (r:R2) (ta tb:TE):TE:=fun σ H Q=>ta σ H fun x H1=>tb σ H1 fun y H2=>r x y H2 Q
def tUn (r:V→Hp→VK→Prop) (ta:TE):TE:=fun σ H Q=>ta σ H fun x H1=>r x H1 Q
def rI (C:Int→Int→Prop) (g:Int→Int→V):R2:=fun x y H Q=>∃i j,x=.int i∧y=.int j∧C i j∧Q (g i j) H
def rI0 (g:Int→Int→V):R2:=fun x y H Q=>∃i j,x=.int i∧y=.int j∧Q (g i j) H
def rU (g:Int→V):V→Hp→VK→Prop:=fun x H Q=>∃i,x=.int i∧Q (g i) H
section
variable {X:Cx} {a b c:Expr} {ta tb tc:TE} {pos:Pos}
theorem sY (ha:PE X a ta) (hb:PE X b tb) {pins:List (Addr×Obj)} {s:Shared} {σ:St} {H:Hp} {R:V→V→Hp→Prop} (I:Inv X pins σ H s)
  (h:ta σ H fun x H1=>tb σ H1 fun y H2=>R x y H2) {Q:Value→Shared→Prop} {f:Value→Value→Sem Value}
  (hf:∀v u s2 x y H2,Inv X pins σ H2 s2→RelV x v→RelV y u→R x y H2→wpAny (model X.prog X.w) X.A (f v u) Q X.xe s2):
  wpAny (model X.prog X.w) X.A (eval a X.env) (fun v s₁=>wpAny (model X.prog X.w) X.A (eval b X.env) (fun u s₂=>wpAny (model X.prog X.w) X.A (f v u) Q X.xe s₂) X.xe s₁) X.xe s:=by
 refine thn (ha pins s σ H _ I h) fun v s1 hpat=>?_
 obtain ⟨x,H1,I1,r1,q1⟩:=hpat
 refine thn (hb pins s1 σ H1 _ I1 q1) fun u s2 hpat=>?_
 obtain ⟨y,H2,I2,r2,q2⟩:=hpat
 exact hf v u s2 x y H2 I2 r1 r2 q2
theorem Za {op:Operator} {r:R2} (ho:OpR X (binaryOp op) r) (ha:PE X a ta) (hb:PE X b tb):PE X (.BinOp a op b pos) (tOp r ta tb):=by
 intro pins s σ H Q I h
 exact wpAny_BinOp (sY ha hb I h fun v u s2 x y H2 I2 rx ry q=>ho pins s2 σ H2 x y v u Q I2 rx ry q)
theorem U2 {op:UnaryOp} {r:V→Hp→VK→Prop} (ho:UnR X (unaryOp op) r) (ha:PE X a ta):PE X (.UnaryOp op a pos) (tUn r ta):=by
 intro pins s σ H Q I h
 exact UnaryOp_ (thn (ha pins s σ H _ I h) fun v s1 ⟨x,H1,I1,r1,q1⟩=>ho pins s1 σ H1 x v Q I1 r1 q1)
theorem opI {f:Value→Value→Sem Value} {C:Int→Int→Prop} {g:Int→Int→Int}
  (rule:∀(i j:Int) (t u:Tok) (s:Shared) (Q:Value→Shared→Prop) (E:Value→Shared→Prop),C i j→Q (.int (g i j) s.toks) {s with toks:=s.toks+1}→wpAny (model X.prog X.w) X.A (f (.int i t) (.int j u)) Q E s):
  OpR X f (rI C fun i j=>.int (g i j)):=by
 intro pins s σ H x y v u Q I rx ry h
 obtain ⟨i,j,rfl,rfl,hc,q⟩:=h
 obtain ⟨t,rfl⟩:=rx
 obtain ⟨t',rfl⟩:=ry
 exact rule i j t t' s _ _ hc ⟨.int (g i j),H,I.tok _,⟨_,rfl⟩,q⟩
theorem vf {f:Value→Value→Sem Value} {g:Int→Int→Int}
  (rule:∀(i j:Int) (t u:Tok) (s:Shared) (Q:Value→Shared→Prop) (E:Value→Shared→Prop),Q (.int (g i j) s.toks) {s with toks:=s.toks+1}→wpAny (model X.prog X.w) X.A (f (.int i t) (.int j u)) Q E s):
  OpR X f (rI0 fun i j=>.int (g i j)):=by
 intro pins s σ H x y v u Q I rx ry h
 obtain ⟨i,j,rfl,rfl,q⟩:=h
 obtain ⟨t,rfl⟩:=rx
 obtain ⟨t',rfl⟩:=ry
 exact rule i j t t' s _ _ ⟨.int (g i j),H,I.tok _,⟨_,rfl⟩,q⟩
theorem qr {f:Value→Value→Sem Value} {g:Int→Int→Bool}
  (rule:∀(i j:Int) (t u:Tok) (s:Shared) (Q:Value→Shared→Prop) (E:Value→Shared→Prop),Q (.bool (g i j)) s→wpAny (model X.prog X.w) X.A (f (.int i t) (.int j u)) Q E s):
  OpR X f (rI0 fun i j=>.bl (g i j)):=by
 intro pins s σ H x y v u Q I rx ry h
 obtain ⟨i,j,rfl,rfl,q⟩:=h
 obtain ⟨t,rfl⟩:=rx
 obtain ⟨t',rfl⟩:=ry
 exact rule i j t t' s _ _ ⟨.bl (g i j),H,I,rfl,q⟩
def vh (i j:Int):Prop:=0<j∧j<1073741824
def rq (i j:Int):Prop:=0≤j∧j≤1000000∧i.natAbs<2 ^ 64
def CMul (i j:Int):Prop:=(-(2 ^ 64)<i∧i<2 ^ 64)∨(-(2 ^ 64)<j∧j<2 ^ 64)
theorem CMul.ok {i j:Int} (h:CMul i j):IntMulOk i j:=by
 rcases h with ⟨h1,h2⟩ | ⟨h1,h2⟩
 ·exact .of_left (intBits_le_64 h1 h2)
 ·exact .of_right (intBits_le_64 h1 h2)
theorem Zp:OpR X (binaryOp .Add) (rI0 fun i j=>.int (i+j)):=vf fun _ _ _ _ _ _ _ q=>add_int q
theorem Wa:OpR X (binaryOp .Sub) (rI0 fun i j=>.int (i - j)):=vf fun _ _ _ _ _ _ _ q=>sub_int q
theorem Wb:OpR X (binaryOp .Mult) (rI CMul fun i j=>.int (i * j)):=opI fun _ _ _ _ _ _ _ hc q=>mul_int q hc.ok
theorem jU:OpR X (binaryOp .FloorDiv) (rI vh fun i j=>.int (i / j)):=opI fun i j _ _ _ _ _ hc q=>by
 have h1:(0:Int)<j:=hc.1
 have h2:j<1073741824:=hc.2
 exact floordiv_int (by omega) (by rw [Int.fdiv_eq_ediv_of_nonneg i (by omega)];exact q) (.inl (PyProof.noPylong_small (by omega)))
theorem Xq:OpR X (binaryOp .Mod) (rI (fun _ j=>0<j) fun i j=>.int (i % j)):=opI fun i j _ _ _ _ _ hc q=>by
 have h1:(0:Int)<j:=hc
 exact mod_int' (by omega) (by rw [Int.fmod_eq_emod_of_nonneg i (by omega)];exact q)
theorem iJ:OpR X (binaryOp .Pow) (rI rq fun i j=>.int (i ^ j.toNat)):=opI fun _ _ _ _ _ _ _ hc q=>pow_int_small hc.1 hc.2.1 hc.2.2 q
theorem tG:OpR X (binaryOp .LShift) (rI rq fun i j=>.int (i * 2 ^ j.toNat)):=opI fun _ _ _ _ _ _ _ hc q=>lshift_int_small hc.1 hc.2.1 hc.2.2 q
theorem unI {f:Value→Sem Value} {g:Int→Int}
  (rule:∀(i:Int) (t:Tok) (s:Shared) (Q:Value→Shared→Prop) (E:Value→Shared→Prop),Q (.int (g i) s.toks) {s with toks:=s.toks+1}→wpAny (model X.prog X.w) X.A (f (.int i t)) Q E s):
  UnR X f (rU fun i=>.int (g i)):=by
 intro pins s σ H x v Q I rx h
 obtain ⟨i,rfl,q⟩:=h
 obtain ⟨t,rfl⟩:=rx
 exact rule i t s _ _ ⟨.int (g i),H,I.tok _,⟨_,rfl⟩,q⟩
theorem Wt:UnR X (unaryOp .USub) (rU fun i=>.int (-i)):=unI fun _ _ _ _ _ q=>neg_int q
end
def scal:V→V→Bool
 | .non,.non=>true | .non,.int _=>true | .int _,.non=>true | .non,.bl _=>true | .bl _,.non=>true | .non,.str _=>true | .str _,.non=>true
 | .int _,.int _=>true | .bl _,.bl _=>true | .str _,.str _=>true | .byt _,.byt _=>true
 | .int _,.str _=>true | .str _,.int _=>true | .bl _,.str _=>true | .str _,.bl _=>true
 | _,_=>false
def rEq:R2:=fun x y H Q=>scal x y=true∧Q (.bl (decide (x=y))) H
def rNe:R2:=fun x y H Q=>scal x y=true∧Q (.bl (!decide (x=y))) H
theorem jS {i j:Int}:decide (V.int i=V.int j)=(i == j):=by
 rw [Bool.eq_iff_iff]
 simp
theorem oq {i j:Bool}:decide (V.bl i=V.bl j)=(i == j):=by
 rw [Bool.eq_iff_iff]
 simp
theorem jI {i j:Str}:decide (V.str i=V.str j)=(i == j):=by
 rw [Bool.eq_iff_iff]
 simp
theorem jX {i j:Array UInt8}:decide (V.byt i=V.byt j)=(i.toList == j.toList):=by
 rw [Bool.eq_iff_iff]
 cases i
 cases j
 simp
section
variable {X:Cx} {a b c:Expr} {ta tb tc:TE} {pos:Pos}
theorem Y9 {pins:List (Addr×Obj)} {σ:St} {H:Hp} {s:Shared} {Q:VK} {k k':Bool} (I:Inv X pins σ H s) (q:Q (.bl k) H) (e:k=k'):EP X pins σ Q (.bool k') s:=by
 subst e
 exact ⟨.bl k,H,I,rfl,q⟩
theorem Wr:OpR X (compareOp .Eq) rEq:=by
 intro pins s σ H x y v u Q I rx ry h
 obtain ⟨hs,q⟩:=h
 cases x with
 | non=>
  cases rx
  cases y with
  | non=>cases ry;exact PySem.EqNone.eq_none_none (Y9 I q (by simp))
  | bl j=>cases ry;exact PySem.EqNone.eq_none_bool (Y9 I q (by simp))
  | int j=>obtain ⟨t',rfl⟩:=ry;exact PySem.EqNone.eq_none_int (Y9 I q (by simp))
  | str j=>obtain ⟨t',rfl⟩:=ry;exact PySem.EqNone.eq_none_str (Y9 I q (by simp))
  | _=>exact absurd (show false=true from hs) Bool.false_ne_true
 | bl i=>
  cases rx
  cases y with
  | non=>cases ry;exact PySem.EqNone.eq_bool_none (Y9 I q (by simp))
  | bl j=>cases ry;exact eq_bool (Y9 I q oq)
  | str j=>obtain ⟨t',rfl⟩:=ry;exact PySem.EqMixed.eq_bool_str (Y9 I q (by simp))
  | _=>exact absurd (show false=true from hs) Bool.false_ne_true
 | int i=>
  obtain ⟨t,rfl⟩:=rx
  cases y with
  | non=>cases ry;exact PySem.EqNone.eq_int_none (Y9 I q (by simp))
  | int j=>obtain ⟨t',rfl⟩:=ry;exact eq_int (Y9 I q jS)
  | str j=>obtain ⟨t',rfl⟩:=ry;exact PySem.EqMixed.eq_int_str (Y9 I q (by simp))
  | _=>exact absurd (show false=true from hs) Bool.false_ne_true
 | str i=>
  obtain ⟨t,rfl⟩:=rx
  cases y with
  | non=>cases ry;exact PySem.EqNone.eq_str_none (Y9 I q (by simp))
  | bl j=>cases ry;exact PySem.EqMixed.eq_str_bool (Y9 I q (by simp))
  | int j=>obtain ⟨t',rfl⟩:=ry;exact PySem.EqMixed.eq_str_int (Y9 I q (by simp))
  | str j=>obtain ⟨t',rfl⟩:=ry;exact eq_str (Y9 I q jI)
  | _=>exact absurd (show false=true from hs) Bool.false_ne_true
 | byt i=>
  obtain ⟨t,rfl⟩:=rx
  cases y with
  | byt j=>obtain ⟨t',rfl⟩:=ry;exact W.eq_bytes (Y9 I q jX)
  | _=>exact absurd (show false=true from hs) Bool.false_ne_true
 | _=>cases y <;> exact absurd (show false=true from hs) Bool.false_ne_true
theorem fY:OpR X (compareOp .NotEq) rNe:=by
 intro pins s σ H x y v u Q I rx ry h
 obtain ⟨hs,q⟩:=h
 cases x with
 | non=>
  cases rx
  cases y with
  | non=>cases ry;exact PySem.EqNone.ne_none_none (Y9 I q (by simp))
  | bl j=>cases ry;exact PySem.EqNone.ne_none_bool (Y9 I q (by simp))
  | int j=>obtain ⟨t',rfl⟩:=ry;exact PySem.EqNone.ne_none_int (Y9 I q (by simp))
  | str j=>obtain ⟨t',rfl⟩:=ry;exact PySem.EqNone.ne_none_str (Y9 I q (by simp))
  | _=>exact absurd (show false=true from hs) Bool.false_ne_true
 | bl i=>
  cases rx
  cases y with
  | non=>cases ry;exact PySem.EqNone.ne_bool_none (Y9 I q (by simp))
  | bl j=>cases ry;exact ne_bool (Y9 I q (congrArg not oq))
  | str j=>obtain ⟨t',rfl⟩:=ry;exact PySem.EqMixed.ne_bool_str (Y9 I q (by simp))
  | _=>exact absurd (show false=true from hs) Bool.false_ne_true
 | int i=>
  obtain ⟨t,rfl⟩:=rx
  cases y with
  | non=>cases ry;exact PySem.EqNone.ne_int_none (Y9 I q (by simp))
  | int j=>obtain ⟨t',rfl⟩:=ry;exact ne_int (Y9 I q (congrArg not jS))
  | str j=>obtain ⟨t',rfl⟩:=ry;exact PySem.EqMixed.ne_int_str (Y9 I q (by simp))
  | _=>exact absurd (show false=true from hs) Bool.false_ne_true
 | str i=>
  obtain ⟨t,rfl⟩:=rx
  cases y with
  | non=>cases ry;exact PySem.EqNone.ne_str_none (Y9 I q (by simp))
  | bl j=>cases ry;exact PySem.EqMixed.ne_str_bool (Y9 I q (by simp))
  | int j=>obtain ⟨t',rfl⟩:=ry;exact PySem.EqMixed.ne_str_int (Y9 I q (by simp))
  | str j=>obtain ⟨t',rfl⟩:=ry;exact ne_str (Y9 I q (congrArg not jI))
  | _=>exact absurd (show false=true from hs) Bool.false_ne_true
 | byt i=>
  obtain ⟨t,rfl⟩:=rx
  cases y with
  | byt j=>obtain ⟨t',rfl⟩:=ry;exact W.ne_bytes (Y9 I q (congrArg not jX))
  | _=>exact absurd (show false=true from hs) Bool.false_ne_true
 | _=>cases y <;> exact absurd (show false=true from hs) Bool.false_ne_true
theorem Vj:OpR X (compareOp .Lt) (rI0 fun i j=>.bl (decide (i<j))):=qr fun _ _ _ _ _ _ _ q=>lt_int q
theorem P3:OpR X (compareOp .LtE) (rI0 fun i j=>.bl (decide (i≤j))):=qr fun _ _ _ _ _ _ _ q=>le_int q
theorem U3:OpR X (compareOp .Gt) (rI0 fun i j=>.bl (decide (j<i))):=qr fun _ _ _ _ _ _ _ q=>gt_int q
theorem oI:OpR X (compareOp .GtE) (rI0 fun i j=>.bl (decide (j≤i))):=qr fun _ _ _ _ _ _ _ q=>ge_int q
theorem P2:OpR X (compareOp .Lt) (fun x y H Q=>∃i j,x=.str i∧y=.str j∧Q (.bl (decide (i.cps.toList<j.cps.toList))) H):=by
 intro pins s σ H x y v u Q I rx ry h
 obtain ⟨i,j,rfl,rfl,q⟩:=h
 obtain ⟨t,rfl⟩:=rx
 obtain ⟨t',rfl⟩:=ry
 exact lt_str (Y9 I q rfl)
theorem kC:OpR X (compareOp .In) (fun x y H Q=>∃i j,x=.str i∧y=.str j∧Q (.bl (!(Builtin.Str.occurrences j i 0 j.length 1).isEmpty)) H):=by
 intro pins s σ H x y v u Q I rx ry h
 obtain ⟨i,j,rfl,rfl,q⟩:=h
 obtain ⟨t,rfl⟩:=rx
 obtain ⟨t',rfl⟩:=ry
 exact in_str (Y9 I q rfl)
theorem Zk (b:Expr) {op:CmpOp} (h:op≠.In:=by decide) (h2:op≠.NotIn:=by decide):behindInMarks op b=false:=by
 have e1:(op == CmpOp.In)=false:=by cases op <;> first | rfl | exact absurd rfl h
 have e2:(op == CmpOp.NotIn)=false:=by cases op <;> first | rfl | exact absurd rfl h2
 cases b <;> simp [behindInMarks,e1,e2]
theorem X1 {op:CmpOp} {r:R2} (ho:OpR X (compareOp op) r) (ha:PE X a ta) (hb:PE X b tb) (hm:behindInMarks op b=false):PE X (.Compare a [op] [b] pos) (tOp r ta tb):=by
 intro pins s σ H Q I h
 exact wpAny_Compare1 (sY ha hb I h fun v u s2 x y H2 I2 rx ry q=>ho pins s2 σ H2 x y v u Q I2 rx ry q) hm
def qR (t:TE):TT:=fun σ H Q=>t σ H fun x H'=>∃k,x=.bl k∧Q k H'
theorem Zm {op:CmpOp} {r:R2} (ho:OpR X (compareOp op) r) (ha:PE X a ta) (hb:PE X b tb) (hm:behindInMarks op b=false):PT X (.Compare a [op] [b] pos) (qR (tOp r ta tb)):=by
 intro pins s σ H Q I h
 refine wpAny_isTrue_Compare1 (thn (ha pins s σ H _ I h) fun v s1 ⟨x,H1,I1,r1,q1⟩=>thn (hb pins s1 σ H1 _ I1 q1) fun u s2 ⟨y,H2,I2,r2,q2⟩=>
  thn (ho pins s2 σ H2 x y v u _ I2 r1 r2 q2) fun c s3 ⟨z,H3,I3,r3,k,e,q3⟩=>?_) hm
 subst e
 cases r3
 exact wpAny_truthy_bool ⟨H3,I3,q3⟩
def s_ (r r':R2) (ta tb tc:TE):TE:=fun σ H Q=>ta σ H fun x H1=>tb σ H1 fun y H2=>r x y H2 fun z H3=>∃k,z=.bl k∧
 (if k=true then tc σ H3 fun w' H4=>r' y w' H4 Q else Q (.bl false) H3)
theorem mN {op op':CmpOp} {r r':R2} (ho:OpR X (compareOp op) r) (ho':OpR X (compareOp op') r') (ha:PE X a ta) (hb:PE X b tb) (hc:PE X c tc)
  (hm:lastMarks [op,op'] [b,c]=false:=by with_unfolding_all rfl):PT X (.Compare a [op,op'] [b,c] pos) (qR (s_ r r' ta tb tc)):=by
 intro pins s σ H Q I h
 refine isTrue_chain (thn (ha pins s σ H _ I h) fun v s1 ⟨x,H1,I1,r1,q1⟩=>test_link (thn (hb pins s1 σ H1 _ I1 q1) fun u s2 ⟨y,H2,I2,r2,q2⟩=>
  thn (ho pins s2 σ H2 x y v u _ I2 r1 r2 q2) fun d s3 ⟨z,H3,I3,r3,k,e,q3⟩=>?_)) hm
 subst e
 cases r3
 refine wpAny_truthy_bool ?_
 cases k with
 | false=>
  obtain ⟨k',e',q'⟩:=q3
  cases e'
  exact ite_ff ⟨H3,I3,q'⟩
 | true=>
  refine ite_tt (test_last (thn (hc pins s3 σ H3 _ I3 q3) fun w' s4 ⟨z',H4,I4,r4,q4⟩=>thn (ho' pins s4 σ H4 y z' u w' _ I4 r2 r4 q4) fun d' s5 hpat=>?_))
  obtain ⟨z2,H5,I5,r5,k2,e2,q5⟩:=hpat
  subst e2
  cases r5
  exact wpAny_truthy_bool ⟨H5,I5,q5⟩
theorem Ru:(sizeLine:Nat)<2 ^ 63:=by rw [sizeLine_eq];decide
theorem gX:OpR X (binaryOp .Add) (fun x y H Q=>∃i j,x=.str i∧y=.str j∧i.length+j.length≤sizeLine∧Q (.str (i++j)) H):=by
 intro pins s σ H x y v u Q I rx ry h
 obtain ⟨i,j,rfl,rfl,hz,q⟩:=h
 obtain ⟨t,rfl⟩:=rx
 obtain ⟨t',rfl⟩:=ry
 exact add_str (fun t' tk=>⟨.str (i++j),H,I.tok _,⟨_,rfl⟩,q⟩) hz
theorem Xo {x:V} {us:List Value} (r:Vals [x] us):∃u,us=[u]∧RelV x u:=by
 cases r with
 | cons r1 r2=>cases r2;exact ⟨_,rfl,r1⟩
theorem Oz {x y:V} {us:List Value} (r:Vals [x,y] us):∃u w',us=[u,w']∧RelV x u∧RelV y w':=by
 cases r with
 | cons r1 r2=>
  cases r2 with
  | cons r3 r4=>cases r4;exact ⟨_,_,rfl,r1,r3⟩
theorem j4 (hc:X.calm=true):CallR X (.builtin "max") (fun xs H Q=>∃i j,xs=[.int i,.int j]∧Q (.int (if j > i then j else i)) H):=by
 intro pins s σ H xs us Q I r h
 obtain ⟨i,j,rfl,q⟩:=h
 obtain ⟨u,w',rfl,⟨t,rfl⟩,⟨t',rfl⟩⟩:=Oz r
 refine max_two_ints (I.ok.hd hc) fun h' tk k=>⟨_,H,I.kept k,?_,q⟩
 by_cases hj:j > i
 ·rw [if_pos hj,if_pos hj];exact ⟨_,rfl⟩
 ·rw [if_neg hj,if_neg hj];exact ⟨_,rfl⟩
theorem kG (hc:X.calm=true):CallR X (.builtin "min") (fun xs H Q=>∃i j,xs=[.int i,.int j]∧Q (.int (if j<i then j else i)) H):=by
 intro pins s σ H xs us Q I r h
 obtain ⟨i,j,rfl,q⟩:=h
 obtain ⟨u,w',rfl,⟨t,rfl⟩,⟨t',rfl⟩⟩:=Oz r
 refine min_two_ints (I.ok.hd hc) fun h' tk k=>⟨_,H,I.kept k,?_,q⟩
 by_cases hj:j<i
 ·rw [if_pos hj,if_pos hj];exact ⟨_,rfl⟩
 ·rw [if_neg hj,if_neg hj];exact ⟨_,rfl⟩
theorem kK:CallR X (.type "int") (fun xs H Q=>(∃i,xs=[.int i]∧Q (.int i) H)∨∃k,xs=[.bl k]∧Q (.int (if k then 1 else 0)) H):=by
 intro pins s σ H xs us Q I r h
 rcases h with ⟨i,rfl,q⟩ | ⟨k,rfl,q⟩
 ·obtain ⟨u,rfl,t,rfl⟩:=Xo r
  exact call_int_int ⟨.int i,H,I,⟨_,rfl⟩,q⟩
 ·obtain ⟨u,rfl,r1⟩:=Xo r
  cases r1
  exact call_int_bool ⟨.int (if k then 1 else 0),H,I.tok _,⟨_,rfl⟩,q⟩
end
structure ObjM (h:Heap) (x dx C:Addr) (mA:Str→Option Value):Prop where
 obj:h.get? x=some (W.instObj C dx)
 ns:h.Ns1 dx mA
 ne:dx≠x
theorem j7 {h:Heap} {dx:Addr} {mA:Str→Option Value} (n:h.Ns1 dx mA):∃od,h.get? dx=some od∧∀name,W.lookIn name od=some (mA name):=by
 obtain ⟨o,es,ep,ho,hd,hk,_,hm⟩:=n
 refine ⟨o,ho,fun name=>?_⟩
 have e:=hm name
 unfold nsFind findBy at e
 rw [←Array.find?_toList] at e
 unfold W.lookIn
 rw [hd]
 dsimp only
 split
 ·rename_i y q
  rw [q] at e
  exact congrArg some e
 ·rename_i q
  rw [q] at e
  have a:es.toList.any (·.refKey)=false:=by
   rw [List.any_eq_false]
   intro y hy
   obtain ⟨z,t,hkey⟩:=hk y (Array.mem_toList_iff.mp hy)
   simp [DictEntry.refKey,hkey]
  have a':¬es.toList.any (·.refKey)=true:=by rw [a];exact Bool.false_ne_true
  rw [if_neg a']
  exact congrArg some e
theorem ObjM.look {h:Heap} {x dx C:Addr} {mA:Str→Option Value} (I:ObjM h x dx C mA):∃od,W.InstAt h x (W.instObj C dx) C (some od)∧∀name,W.lookIn name od=some (mA name):=
 let ⟨od,ho,hl⟩:=j7 I.ns
 ⟨od,⟨I.obj,rfl,rfl,ho⟩,hl⟩
section
variable {prog:Program} {w:World} {A:Around} {E:Value→Shared→Prop} {s:Shared} {K:W.Frag} {x dx C f:Addr} {mA:Str→Option Value} {name:Str} {v:Value}
end
theorem RelO.some_of {v:V} {o:Option Value} (r:RelO (some v) o):∃u,o=some u∧RelV v u:=by
 cases o with
 | none=>exact (show False from r).elim
 | some u=>exact ⟨u,rfl,r⟩
section
variable {P:Program} {w:World} {H H':Hp} {h h':Heap} {a C dx:Addr} {fs fs':List (Str×V)}
theorem pT (hok:HOk P w H h) (e:H a=some (.ins C dx fs)):∃mA,ObjM h a dx C mA∧(∀f,RelO (fs.lookup f) (mA f))∧PySem.Within mA (fs.map (·.1))∧fs.length≤1000∧H dx=some (.own a):=by
 obtain ⟨d,z,ne,ob,mA,n,r,q⟩:=(show ObjOk P w H h a (.ins C dx fs) from hok a _ e)
 exact ⟨mA,⟨ob,n,ne⟩,r,q,z,d⟩
end
structure Cls (K:W.Frag) (C:Addr):Prop where
 pg:W.plainGet K C Str.empty=true
 hd:W.hasDictIn K C=true
 po:W.plainOver K C=true
 sa:W.findIn K (.ref C) "__setattr__"=some (some (.builtin "object.__setattr__"))
theorem Cls.get {K:W.Frag} {C:Addr} (c:Cls K C) (f:Str):W.plainGet K C f=true:=c.pg
section
variable {X:Cx} {pins:List (Addr×Obj)} {σ:St} {H:Hp} {s:Shared} {a C dx:Addr} {fs:List (Str×V)} {f:Str} {v:V} {A:Around} {E:Value→Shared→Prop}
end
section
variable {X:Cx} {o e value:Expr} {f:Str} {pos pos' tpos:Pos} {ta tv:TE}
end
section
variable {X:Cx} {pins:List (Addr×Obj)} {σ:St} {H:Hp} {s:Shared} {A:Around} {E:Value→Shared→Prop} {Q:Value→Shared→Prop} {c:Value} {b:Bool}
inductive TyOf (K:W.Frag) (H:Hp):V→Value→Prop where
 | non:TyOf K H .non (.type "NoneType")
 | bl (x:Bool):TyOf K H (.bl x) (.type "bool")
 | int (i:Int):TyOf K H (.int i) (.type "int")
 | str (x:Str):TyOf K H (.str x) (.type "str")
 | flt (x:UInt64):TyOf K H (.flt x) (.type "float")
 | lst {a:Addr} {xs:List V} (e:H a=some (.lst xs)):TyOf K H (.ref a) (.type "list")
 | frz {a:Addr} {o:Obj} {xs:List V} (e:H a=some (.frz o (.lst xs))):TyOf K H (.ref a) (.type "list")
 | tup {a:Addr} {xs:List V} (e:H a=some (.tup xs)):TyOf K H (.ref a) (.type "tuple")
 | dK {a:Addr} {kvs:List (Key×V)} (e:H a=some (.dK kvs)):TyOf K H (.ref a) (.type "dict")
 | dT {a:Addr} {kvs:List (List Key×V)} (e:H a=some (.dT kvs)):TyOf K H (.ref a) (.type "dict")
 | ins {a C dx:Addr} {fs:List (Str×V)} (e:H a=some (.ins C dx fs)) (cl:Cls K C) (ha:W.findIn K (.ref C) "__class__"=some (some (.builtin "object.__class__")))
   (hn:W.specialIn K (.builtin "object.__class__") "__get__"=some (some (.builtin "getset_descriptor.__get__"))) (htk:W.takesIn K (.builtin "object.__class__")=some true)
   (hm:W.mroIn K C (.type "object")=some true):TyOf K H (.ref a) (.ref C)
theorem kg {x:V} {u t:Value} (I:Inv X pins σ H s) (rx:RelV x u) (ty:TyOf X.K H x t) (e:W.kitOne X.K t c=some b) (h:∀tk,Q (.bool b) {s with toks:=tk}):
  wpAny (model X.prog X.w) A (call (.builtin "isinstance") [u,c]) Q E s:=by
 cases ty with
 | non=>cases (show u=Value.none from rx);exact W.kia_one W.kitx_none I.kIn True.intro e (fun z=>nomatch z) h
 | bl y=>cases (show u=Value.bool y from rx);exact W.kia_one W.kitx_bool I.kIn True.intro e (fun z=>nomatch z) h
 | int i=>obtain ⟨t,q⟩:=(show ∃t,u=Value.int i t from rx);cases q;exact W.kia_one W.kitx_int I.kIn True.intro e (fun z=>nomatch z) h
 | str y=>obtain ⟨t,q⟩:=(show ∃t,u=Value.str y t from rx);cases q;exact W.kia_one W.kitx_str I.kIn True.intro e (fun z=>nomatch z) h
 | flt y=>obtain ⟨t,q⟩:=(show ∃t,u=Value.float y t from rx);cases q;exact W.kia_one W.kitx_float I.kIn True.intro e (fun z=>nomatch z) h
 | @lst a xs ea=>
  cases (show u=Value.ref a from rx)
  obtain ⟨_,_,n,_,h1⟩:=(show ObjOk X.prog X.w H s.heap a (.lst xs) from I.hok a _ ea)
  exact W.kia_one W.kitx_list I.kIn ⟨_,h1,rfl⟩ e (fun z=>nomatch z) h
 | @frz a ob xs ea=>
  cases (show u=Value.ref a from rx)
  obtain ⟨_,_,_,n,_,h1⟩:=(show ObjOk X.prog X.w H s.heap a (.frz ob (.lst xs)) from I.hok a _ ea)
  exact W.kia_one W.kitx_list I.kIn ⟨_,h1,rfl⟩ e (fun z=>nomatch z) h
 | @tup a xs ea=>
  cases (show u=Value.ref a from rx)
  obtain ⟨_,_,_,p⟩:=(show ObjOk X.prog X.w H s.heap a (.tup xs) from I.hok a _ ea)
  obtain ⟨o,h1,h2,_⟩:=p
  exact W.kia_one W.kitx_tuple I.kIn ⟨o,h1,h2.1⟩ e (fun z=>nomatch z) h
 | @dK a kvs ea=>
  cases (show u=Value.ref a from rx)
  obtain ⟨_,_,vs,_,p⟩:=(show ObjOk X.prog X.w H s.heap a (.dK kvs) from I.hok a _ ea)
  obtain ⟨o,es,ep,h1,h2,_⟩:=p
  exact W.kia_one W.kitx_dict I.kIn ⟨o,h1,h2.1⟩ e (fun z=>nomatch z) h
 | @dT a kvs ea=>
  cases (show u=Value.ref a from rx)
  obtain ⟨_,_,xs,_,o,es,ep,h1,h2,_⟩:=(show ObjOk X.prog X.w H s.heap a (.dT kvs) from I.hok a _ ea)
  exact W.kia_one W.kitx_dict I.kIn ⟨o,h1,h2.1⟩ e (fun z=>nomatch z) h
 | @ins a C dx fs ea cl ha hn htk hm=>
  cases (show u=Value.ref a from rx)
  obtain ⟨mA,O,_⟩:=pT I.hok ea
  obtain ⟨od,J,_⟩:=O.look
  exact W.kia_one (W.kitx_own (cl.get _) cl.hd ha hn htk hm) I.kIn J e (fun z=>nomatch z) h
end
structure Room (k:Nat) (A:Around):Prop where
 hd:A.handled=none
 dp:A.depth+3 * k+5<recursionLimit
 un:A.units+16 * k+200<cLine
theorem Room.mono {j k:Nat} {A:Around} (r:Room k A) (h:j≤k):Room j A:=⟨r.hd,by have:=r.dp;omega,by have:=r.un;omega⟩
theorem Room.deeper {k:Nat} {A:Around} (r:Room (k+1) A) (env:Env):Room k (A.deeper env):=
 ⟨r.hd,by have:=r.dp;show A.depth+1+3 * k+5<_;omega,by have:=r.un;show A.units+3+16 * k+200<_;omega⟩
theorem Room.depth {k:Nat} {A:Around} (r:Room k A):A.depth<recursionLimit:=by have:=r.dp;omega
theorem Room.units {k:Nat} {A:Around} (r:Room k A):A.units+64<cLine:=by have:=r.un;omega
def tNil:TA:=fun _ H Q=>Q [] H
def uQ (ta:TE) (tr:TA):TA:=fun σ H Q=>ta σ H fun x H1=>tr σ H1 fun xs H2=>Q (x::xs) H2
section
variable {X:Cx} {e:Expr} {es:List Expr} {te:TE} {t:TA} {pos:Pos}
theorem Z1:PA X [] tNil:=fun _ _ _ _ H Q I h=>Calls.spliced_nil ⟨[],H,I,.nil,h⟩
theorem Z0 (ha:PE X e te) (hr:PA X es t) (hs:starEach (e::es) X.env=(false,eval e X.env)::starEach es X.env:=by rfl):PA X (e::es) (uQ te t):=by
 intro pos pins s σ H Q I h
 rw [hs]
 show wpAny _ _ (spliced ((false,eval e X.env)::backTo pos (starEach es X.env))) _ _ s
 refine Calls.spliced_cons (thn (ha pins s σ H _ I h) fun u s1 hpat=>?_)
 obtain ⟨x,H1,I1,r1,q1⟩:=hpat
 exact thn (hr pos pins s1 σ H1 _ I1 q1) fun us s2 ⟨xs,H2,I2,r2,q2⟩=>⟨x::xs,H2,I2,.cons r1 r2,q2⟩
def tTup (t:TA):TE:=fun σ H Q=>t σ H fun xs H1=>xs.length≤sizeLine∧∀p,H1 p=none→Q (.ref p) (upd H1 p (.tup xs))
def tLst (t:TA):TE:=fun σ H Q=>t σ H fun xs H1=>xs.length≤sizeLine∧∀p,H1 p=none→Q (.ref p) (upd H1 p (.lst xs))
theorem Zh {x1} (h:PA X es t):PE X (.Tuple es x1 pos) (tTup t):=by
 intro pins s σ H Q I hq
 refine wpAny_Tuple_spliced (thn (h pos pins s σ H _ I hq) fun us s1 ⟨xs,H1,I1,r,z,q⟩=>⟨by rw [←r.length];exact z,?_⟩)
 have hf:H1 s1.heap.objs.size=none:=I1.hok.fresh (Nat.le_refl _)
 refine ⟨.ref s1.heap.objs.size,upd H1 s1.heap.objs.size (.tup xs),I1.laid (t':=s1.toks) (fun b u e=>Heap.get?_push_of_some _ e) (Nat.le_refl _) ?_,rfl,q _ hf⟩
 exact ⟨z,us,r,TupN.new _ _⟩
theorem Y4 (h:PA X es t):PE X (.List es pos) (tLst t):=by
 intro pins s σ H Q I hq
 refine wpAny_List_spliced (thn (h pos pins s σ H _ I hq) fun us s1 ⟨xs,H1,I1,r,z,q⟩=>⟨by rw [←r.length];exact z,?_⟩)
 have hf:H1 s1.heap.objs.size=none:=I1.hok.fresh (Nat.le_refl _)
 refine ⟨.ref s1.heap.objs.size,upd H1 s1.heap.objs.size (.lst xs),I1.laid (t':=s1.toks) (fun b u e=>Heap.get?_push_of_some _ e) (Nat.le_refl _) ?_,rfl,q _ hf⟩
 exact ⟨z,us,0,r,Heap.get?_push_size _ rfl⟩
end
abbrev Sp:=List V→Hp→VK→XK→Prop
abbrev CXT:=List Env→Hp→Shared→XK→Value→Shared→Prop
structure Env0 (P:Program) (w:World) (K:W.Frag) (mg:Str→Option Value) (base:Heap) (A:Around) (outer:List Env) (s:Shared) (H:Hp):Prop where
 frames:A.frames=some outer
 mod:Mod K mg base
 bs:∀b o,base.get? b=some o→s.heap.get? b=some o∧H b=none
 bsz:base.objs.size≤s.heap.objs.size
 funs:s.heap.FunFrames base outer
 frf:∀b∈frs outer,H b=none
 hok:HOk P w H s.heap
 bare:AllBare s.gens
def CE (outer:List Env) (P:Program) (w:World) (H:Hp) (s:Shared) (Q:VK) (u:Value) (s':Shared):Prop:=
 ∃v H',s'.os=s.os∧AllBare s'.gens∧Un (frs outer) [] H H' s.heap s'.heap∧HOk P w H' s'.heap∧RelV v u∧Q v H'
def CR (CX:CXT) (outer:List Env) (P:Program) (w:World) (H:Hp) (s:Shared) (Q:VK) (E:XK) (r:Result) (s':Shared):Prop:=
 match r with
 | .ok (.ret u)=>CE outer P w H s Q u s'
 | .ok _=>False
 | .error e=>CX outer H s E e s'
structure FnOk (P:Program) (w:World) (K:W.Frag) (mg:Str→Option Value) (base:Heap) (CX:CXT) (k:Nat) (f:Addr) (fd:FuncData) (ps:List Str) (sp:Sp):Prop where
 len:∀vs H Q E,sp vs H Q E→vs.length=ps.length
 run:∀(A:Around) (outer:List Env) (s:Shared) (H:Hp) (args:Args) (us:List Value) (vs:List V) (Q:VK) (E:XK),Room k A→Env0 P w K mg base A outer s H→BindsTo s fd args (ps.zip us)→Vals vs us→sp vs H Q E→
  codeAny (model P w) A (.call (.ref f) args) (CR CX outer P w H s Q E) s
theorem FnOk.mono {P:Program} {w:World} {K:W.Frag} {mg:Str→Option Value} {base:Heap} {CX:CXT} {j k:Nat} {f:Addr} {fd:FuncData} {ps:List Str} {sp:Sp} (F:FnOk P w K mg base CX j f fd ps sp) (h:j≤k):
  FnOk P w K mg base CX k f fd ps sp:=⟨F.len,fun A outer s H args us vs Q E hr=>F.run A outer s H args us vs Q E (hr.mono h)⟩
section
variable {X:Cx} {pins:List (Addr×Obj)} {σ:St} {H:Hp} {s s':Shared}
theorem Inv.env0 (I:Inv X pins σ H s):Env0 X.prog X.w X.K X.mg X.base X.A X.stack s H:=
 ⟨I.ok.frames,I.ok.mod,I.bs,Nat.le_trans I.ok.bsz I.sz,I.stack,I.stkFree,I.hok,I.bare⟩
theorem Inv.after {Q:VK} {u:Value} (I:Inv X pins σ H s) (h:CE X.stack X.prog X.w H s Q u s'):EP X pins σ Q u s':=by
 obtain ⟨v,H',os,bare,un,hok,r,q⟩:=h
 obtain ⟨hh,g,d,t,os'⟩:=s'
 obtain rfl:os'=s.os:=os
 exact ⟨v,H',I.call (h':=hh) (g':=g) (d':=d) (t':=t) (ch:=[]) un hok bare (fun b z=>absurd z (by simp)),r,q⟩
end
def qL (sp:Sp) (dvs:List V) (E:XK) (t:TA):TE:=fun σ H Q=>t σ H fun vs H1=>sp (vs++dvs) H1 Q E
def Binds (K:W.Frag) (fd:FuncData) (ps:List Str) (ds:List Value):Prop:=
 ∀(s:Shared) (us:List Value),K.In s.heap→(us++ds).length=ps.length→BindsTo s fd ⟨us,[]⟩ (ps.zip (us++ds))
theorem Binds.all {K:W.Frag} {fd:FuncData} {ps:List Str} (h:∀us:List Value,us.length=ps.length→bindArgs fd ⟨us,[]⟩=pure (ps.zip us)):Binds K fd ps []:=fun s us _ hl=>by
 rw [List.append_nil] at hl ⊢
 exact .of_eq (h us hl)
def gE (CX:CXT) (X:Cx) (E:XK):Prop:=∀(pins:List (Addr×Obj)) (σ:St) (H:Hp) (s:Shared) (e:Value) (s':Shared),Inv X pins σ H s→CX X.stack H s E e s'→X.xe e s'
section
variable {X:Cx} {CX:CXT} {k:Nat} {f C:Addr} {fd:FuncData} {ps:List Str} {sp:Sp} {dvs:List V} {ds:List Value} {E:XK} {x m:Str} {p pos apos:Pos} {e o:Expr} {es:List Expr} {ta:TE} {t:TA}
theorem mJ {pins:List (Addr×Obj)} {σ:St} {H:Hp} {s:Shared} {Q:VK} {us:List Value} {vs:List V} (F:FnOk X.prog X.w X.K X.mg X.base CX k f fd ps sp) (hr:Room k X.A) (hb:Binds X.K fd ps ds) (hd:Vals dvs ds) (hx:gE CX X E)
  (I:Inv X pins σ H s) (r:Vals vs us) (h:sp (vs++dvs) H Q E):wpAny (model X.prog X.w) X.A (call (.ref f) us) (EP X pins σ Q) X.xe s:=by
 have r2:Vals (vs++dvs) (us++ds):=r.append hd
 have hl:(us++ds).length=ps.length:=by rw [←r2.length];exact F.len _ _ _ _ h
 refine wpAny_call (codeAny_mono (F.run X.A X.stack s H ⟨us,[]⟩ (us++ds) (vs++dvs) Q E hr I.env0 (hb s us I.kIn hl) r2 h) fun r s' hq=>?_)
 cases r with
 | error e=>exact hx pins σ H s e s' I hq
 | ok fl=>
  cases fl with
  | ret u=>exact I.after hq
  | next=>exact False.elim hq
  | brk=>exact False.elim hq
  | cont=>exact False.elim hq
theorem qc (F:FnOk X.prog X.w X.K X.mg X.base CX k f fd ps sp) (hr:Room k X.A) (hg:Gl X x) (hm:X.mg x=some (.ref f)) (hk:W.keepIn X.K (.ref f)=true) (hb:Binds X.K fd ps ds) (hd:Vals dvs ds) (hx:gE CX X E)
  (ha:PA X (e::es) t) (hdb:(x == ("__debug__":Str))=false:=by decide) (he:starEach (e::es) X.env=(false,eval e X.env)::starEach es X.env:=by rfl) (hpl:(backTo pos (starEach es X.env)).any (·.1)=false:=by rfl):
  PE X (.Call (.Name x p) (e::es) [] pos) (qL sp dvs E t):=by
 intro pins s σ H Q I h
 refine wpAny_Call_Name_kw (jm I hg hm ?_ hdb)
 refine W.callWith_K (h₀:=X.base) I.ok.mod.kin hk (thn (ha pos pins s σ H _ I h) fun us s1 ⟨vs,H1,I1,r,q⟩=>⟨I1.kIn,?_⟩) he hpl
 exact mJ F hr hb hd hx I1 r q
end
section
variable {X:Cx} {CX:CXT} {k:Nat} {f C:Addr} {fd:FuncData} {ps ks:List Str} {sp:Sp} {E:XK} {x m:Str} {p pos apos kpos:Pos} {e o:Expr} {es:List Expr} {kws:List Keyword} {te ta:TE} {t tk:TA} {nm:Option Str}
variable {g:List Value→List Value→List Value} {gV:List V→List V→List V}
end
structure FnScope (N P:List Str) (sc:Scope):Prop where
 kind:sc.kind=.function
 co:sc.isCoroutine=false
 gen:sc.isGenerator=false
 nd:N.Nodup
 pre:N.take P.length=P
 par:∀x∈P,sc.names.lookup x=some .local∨sc.names.lookup x=some .cell
 nofree:∀y∈sc.names,y.2≠.free
theorem Pu {kindOf:Str→Option NameKind} {x:Str}:∀{binds:List (Str×Value)} {m:Str→Option Value},(∀v,(x,v)∉binds)→bindL kindOf binds m x=m x
 | [],_,_=>rfl
 | (n,v)::r,m,h=>by
  unfold bindL
  rw [Pu fun w hw=>h w (List.mem_cons_of_mem _ hw)]
  split
  ·have:x≠n:=by rintro rfl;exact h v List.mem_cons_self
   simp [this]
  ·rfl
theorem Px {kindOf:Str→Option NameKind} {x:Str}:∀{binds:List (Str×Value)} {m:Str→Option Value},(∀v,(x,v)∉binds)→bindC kindOf binds m x=m x
 | [],_,_=>rfl
 | (n,v)::r,m,h=>by
  unfold bindC
  rw [Px fun w hw=>h w (List.mem_cons_of_mem _ hw)]
  split
  ·rfl
  ·have:x≠n:=by rintro rfl;exact h v List.mem_cons_self
   simp [this]
theorem Pw {kindOf:Str→Option NameKind} {x:Str} {v:Value}:∀{P:List Str} {vs:List Value} {i:Nat} {m:Str→Option Value},P.Nodup→P[i]?=some x→vs[i]?=some v→kindOf x=some .local→
  bindL kindOf (P.zip vs) m x=some v
 | [],_,_,_,_,h,_,_=>by simp at h
 | _::_,[],_,_,_,_,h,_=>by simp at h
 | p::P,w::vs,0,m,nd,h1,h2,hk=>by
  simp at h1 h2;subst h1;subst h2
  show bindL kindOf ((p,w)::P.zip vs) m p=_
  unfold bindL
  rw [Pu fun v hv=>(List.nodup_cons.mp nd).1 (List.of_mem_zip hv).1,if_pos hk]
  simp
 | p::P,w::vs,i+1,m,nd,h1,h2,hk=>by
  show bindL kindOf ((p,w)::P.zip vs) m x=_
  unfold bindL
  exact Pw (i:=i) (List.nodup_cons.mp nd).2 (by simpa using h1) (by simpa using h2) hk
theorem Py {kindOf:Str→Option NameKind} {x:Str} {v:Value}:∀{P:List Str} {vs:List Value} {i:Nat} {m:Str→Option Value},P.Nodup→P[i]?=some x→vs[i]?=some v→kindOf x≠some .local→
  bindC kindOf (P.zip vs) m x=some v
 | [],_,_,_,_,h,_,_=>by simp at h
 | _::_,[],_,_,_,_,h,_=>by simp at h
 | p::P,w::vs,0,m,nd,h1,h2,hk=>by
  simp at h1 h2;subst h1;subst h2
  show bindC kindOf ((p,w)::P.zip vs) m p=_
  unfold bindC
  rw [Px fun v hv=>(List.nodup_cons.mp nd).1 (List.of_mem_zip hv).1,if_neg hk]
  simp
 | p::P,w::vs,i+1,m,nd,h1,h2,hk=>by
  show bindC kindOf ((p,w)::P.zip vs) m x=_
  unfold bindC
  exact Py (i:=i) (List.nodup_cons.mp nd).2 (by simpa using h1) (by simpa using h2) hk
def c_ (N:List Str) (vs:List V):St:=vs.map some++List.replicate (N.length - vs.length) none
def kL (CX:CXT) (P:Program) (w:World) (K:W.Frag) (mg:Str→Option Value) (base:Heap) (N:List Str) (qual:Str) (scope:Scope) (f:Addr) (cd:Value) (A:Around) (outer:List Env) (s:Shared) (H:Hp) (E:XK):Cx where
 prog:=P
 w:=w
 K:=K
 mg:=mg
 base:=base
 A:=A.deeper (envOfC qual scope s.heap.objs.size f cd)
 N:=N
 s₀:=s
 H₀:=H
 env:=envOfC qual scope s.heap.objs.size f cd
 outer:=outer
 stack:=envOfC qual scope s.heap.objs.size f cd::outer
 ex:=[]
 calm:=true
 fn:=fun _=>true
 pn:=[]
 xe:=fun e s'=>wpAny (model P w) (A.deeper (envOfC qual scope s.heap.objs.size f cd)) (leaving (envOfC qual scope s.heap.objs.size f cd) e) (fun _ s''=>CX outer H s E e s'') (fun e' s''=>CX outer H s E e' s'') s'
theorem ft {sc:Scope} {n:Nat} {x:Str} (h:sc.names.lookup x=some .cell):∃c,(cellsFrom n sc.names []).lookup x=some c:=by
 have q:=W.cellsFrom_some sc.names n [] (.inl h)
 exact Option.isSome_iff_exists.mp q
theorem lq {CX:CXT} {P:Program} {w:World} {K:W.Frag} {mg:Str→Option Value} {base:Heap} {N ps:List Str} {qual:Str} {scope:Scope} {f:Addr} {cd:Value} {A:Around} {outer:List Env} {s s1:Shared} {H:Hp} {E:XK} {us:List Value} {vs:List V}
  (S:FnScope N ps scope) (hd:A.handled=none) (e0:Env0 P w K mg base A outer s H) (hl:vs.length=ps.length) (r:Vals vs us)
  (x:InCallC s s.heap.objs.size (bindL (envOfC qual scope s.heap.objs.size f cd).kindOf (ps.zip us) fun _=>none) (cellsFrom (s.heap.objs.size+1) scope.names []) (bindC (envOfC qual scope s.heap.objs.size f cd).kindOf (ps.zip us) fun _=>none) s1):
  Inv (kL CX P w K mg base N qual scope f cd A outer s H E) [] (c_ N vs) H s1:=by
 have hpl:ps.length≤N.length:=by have:=congrArg List.length S.pre;rw [List.length_take] at this;omega
 obtain ⟨h1,tk,rfl,hk⟩:=x.done
 have noA:∀b:Addr,b∉(kL CX P w K mg base N qual scope f cd A outer s H E).ex:=fun b z=>absurd (show b∈([]:List Addr) from z) (by simp)
 refine ⟨⟨e0.mod,S.kind,rfl,rfl,Nat.le_refl _,fun y z c h1 h2=>?_,fun y hy=>?_,fun y c _ h=>?_,fun _=>hd,Around.frames_deeper e0.frames,.inr ⟨rfl,rfl⟩,fun b z=>absurd z (noA b),e0.bs,e0.bsz,fun b _ _=>noA b,fun b z=>absurd z (noA b),e0.funs,e0.frf⟩,
  rfl,e0.bare,Un.kept hk,⟨_,x.toInCall.ns,fun i y v h1 h2 h3=>?_⟩,fun y c h=>⟨_,x.cell y c h⟩,e0.hok.fresh (Nat.le_refl _),fun y c h=>?_,fun p hp=>absurd (show p∈([]:List (Addr×Obj)) from hp) (by simp),e0.hok.kept hk,?_⟩
 ·exact name_of_addr x.apart (PySem.mem_of_lookup h1) (PySem.mem_of_lookup h2)
 ·have hy:scope.names.lookup y=some .cell∨scope.names.lookup y=some .free:=hy
  rcases hy with hy | hy
  ·exact ft hy
  ·exact absurd rfl (S.nofree _ (PySem.mem_of_lookup hy))
 ·exact Nat.le_of_lt (x.above y c (PySem.mem_of_lookup h))
 ·have hi:i<vs.length:=by
   unfold c_ at h2
   by_cases hi:i<vs.length
   ·exact hi
   ·rw [List.getElem?_append_right (by simpa using hi)] at h2
    rw [List.getElem?_replicate] at h2
    split at h2 <;> cases h2
  have ha:vs[i]?=some v:=by
   unfold c_ at h2
   rw [List.getElem?_append_left (by simpa using hi),List.getElem?_map] at h2
   cases e:vs[i]? with
   | none=>rw [e] at h2;cases h2
   | some a=>rw [e] at h2;cases h2;rfl
  obtain ⟨u,hu,rv⟩:=r.get ha
  have hp:ps[i]?=some y:=by
   rw [←S.pre,List.getElem?_take_of_lt (by omega)];exact h1
  have ndP:ps.Nodup:=by rw [←S.pre];exact S.nd.sublist (List.take_sublist _ _)
  refine ⟨u,rv,?_⟩
  rcases S.par y (List.mem_of_getElem? hp) with k | k
  ·exact .inl ⟨k,Pw ndP hp hu k⟩
  ·obtain ⟨c,e⟩:=ft (n:=s.heap.objs.size+1) k
   refine .inr ⟨.inl k,c,e,?_⟩
   have q:=x.cell y c e
   rw [Py ndP hp hu (by show scope.names.lookup y≠_;rw [k];decide)] at q
   exact q
 ·exact e0.hok.fresh (Nat.le_of_lt (x.above y c (PySem.mem_of_lookup h)))
 ·unfold c_
  show _=N.length
  rw [List.length_append,List.length_map,List.length_replicate]
  omega
theorem uZ {CX:CXT} {P:Program} {w:World} {K:W.Frag} {mg:Str→Option Value} {base:Heap} {k:Nat} {f:Addr} {name qual:Str} {params:Arguments} {body:List Stmt} {scope:Scope} {dV kV doc pm cdv ct oc:Value} {an od:Option Addr}
  {osl:Array (Option Value)} {N ps:List Str} {sp:Sp} (lk:K.lookup f=some ⟨oc,od,.func (W.fnOf name qual params body scope dV kV doc pm an cdv ct),osl⟩) (hcd:W.codeIn K cdv qual=true) (S:FnScope N ps scope)
  (len:∀vs H Q E,sp vs H Q E→vs.length=ps.length)
  (hbody:∀(A:Around) (outer:List Env) (s:Shared) (H:Hp) (vs:List V) (Q:VK) (E:XK),Room k (A.deeper (envOfC qual scope s.heap.objs.size f cdv))→sp vs H Q E→
   ∃t,PSs (kL CX P w K mg base N qual scope f cdv A outer s H E) body t∧t {nx:=fun _ H'=>Q .non H',rt:=Q} (c_ N vs) H):
  FnOk P w K mg base CX (k+1) f (W.fnOf name qual params body scope dV kV doc pm an cdv ct) ps sp:=by
 refine ⟨len,fun A outer s H args us vs Q E hr e0 hb r hsp=>?_⟩
 have hl:=len _ _ _ _ hsp
 have KX:K.In s.heap:=e0.mod.kin.keeps fun b o e=>(e0.bs b o e).1
 have lim:s.heap.NoLimit:=e0.mod.nolimit.keeps fun b o e=>(e0.bs b o e).1
 have hkind:∀y∈ps.zip us,scope.names.lookup y.1=some .local∨(scope.names.lookup y.1=some .cell∧((cellsFrom (s.heap.objs.size+1) scope.names []).lookup y.1).isSome=true):=fun ⟨n,v⟩ hy=>by
  rcases S.par n (List.of_mem_zip hy).1 with q | q
  ·exact .inl q
  ·exact .inr ⟨q,W.cellsFrom_some _ _ _ (.inl q)⟩
 refine codeAny_call_function hr.depth (KX _ _ lk) rfl S.co S.gen rfl (W.codeRec_of KX hcd) (hb _ _ _ _ ?_)
 refine wpAny_newFunctionEnv_cells S.kind hkind fun env he s1 x=>?_
 subst he
 refine ⟨lim.keeps x.toInCall.keep,codeAny_func ?_⟩
 obtain ⟨t,ht,hq⟩:=hbody A outer s H vs Q E (hr.deeper _) hsp
 have I:Inv (kL CX P w K mg base N qual scope f cdv A outer s H E) [] (c_ N vs) H s1:=lq S hr.hd e0 hl r x
 refine wpAny_mono (ht [] s1 (c_ N vs) H _ I hq) (fun fl s' hs=>?_) fun e s' hs=>hs
 have fin:∀{σ':St} {H':Hp} {v:V} {u:Value},Inv (kL CX P w K mg base N qual scope f cdv A outer s H E) [] σ' H' s'→RelV v u→Q v H'→CE outer P w H s Q u s':=
  fun {σ' H' v u} J rv q=>⟨v,H',J.os,J.bare,J.base,J.hok,rv,q⟩
 cases fl with
 | ret u=>
  obtain ⟨v,σ',H',J,rv,q⟩:=hs
  exact fin J rv q
 | next=>
  obtain ⟨σ',H',J,q⟩:=hs
  exact fin (v:=V.non) (u:=Value.none) J rfl q
 | brk=>
  obtain ⟨_,_,_,q⟩:=hs
  exact False.elim q
 | cont=>
  obtain ⟨_,_,_,q⟩:=hs
  exact False.elim q
section
variable {X:Cx} {x:Str} {p pos:Pos} {e:Expr} {es:List Expr} {t:TA} {id T:String} {r:List V→Hp→VK→Prop}
def tCB (r:List V→Hp→VK→Prop) (t:TA):TE:=fun σ H Q=>t σ H fun vs H1=>r vs H1 Q
theorem Zd (hc:CallR X (.builtin id) r) (hg:Gl X x) (hm:X.mg x=none) (hv:bootBuiltins x=some (.builtin id)) (ha:PA X (e::es) t) (hn:x≠"__name__":=by decide) (hdb:(x == ("__debug__":Str))=false:=by decide)
  (he:starEach (e::es) X.env=(false,eval e X.env)::starEach es X.env:=by rfl) (hpl:(backTo pos (starEach es X.env)).any (·.1)=false:=by rfl):PE X (.Call (.Name x p) (e::es) [] pos) (tCB r t):=by
 intro pins s σ H Q I h
 refine wpAny_Call_Name_kw (S7 I hg hm hv ?_ hn hdb)
 exact PyProof.Rows.callWith_builtin1 (thn (ha pos pins s σ H _ I h) fun us s1 ⟨vs,H1,I1,r1,q1⟩=>hc pins s1 σ H1 vs us Q I1 r1 q1) he hpl
theorem Y5 (hc:CallR X (.type T) r) (hg:Gl X x) (hm:X.mg x=none) (hv:bootBuiltins x=some (.type T)) (ha:PA X (e::es) t) (hn:x≠"__name__":=by decide) (hdb:(x == ("__debug__":Str))=false:=by decide)
  (he:starEach (e::es) X.env=(false,eval e X.env)::starEach es X.env:=by rfl) (hpl:(backTo pos (starEach es X.env)).any (·.1)=false:=by rfl):PE X (.Call (.Name x p) (e::es) [] pos) (tCB r t):=by
 intro pins s σ H Q I h
 refine wpAny_Call_Name_kw (S7 I hg hm hv ?_ hn hdb)
 exact PyProof.Rows.callWith_type1 (thn (ha pos pins s σ H _ I h) fun us s1 ⟨vs,H1,I1,r1,q1⟩=>hc pins s1 σ H1 vs us Q I1 r1 q1) he hpl
end
end L2
namespace HT
open PySem PyProof.Rows
section
open PySem.SeqAt
open PySem.AutoSeq1 (wpAny_loadPart')
open PySem.MeetsSeq PySem.MeetsSeq2 PySem.MeetsSeq3
end
section
variable {prog:Program} {w:World} {A:Around} {E:Value→Shared→Prop} {s:Shared}
theorem cat_tup {t b:Addr} {vs ws:List Value} {Q:Value→Shared→Prop} (ht:IsTup s.heap t vs.toArray) (hb:IsTup s.heap b ws.toArray) (hv:vs≠[])
  (h1:ws=[]→Q (.ref t) s) (h2:ws≠[]→Q (.ref s.heap.objs.size) {s with heap:=s.heap.push {cls:=.type "tuple",data:=.seq (vs++ws).toArray}})
  (hsz:vs.length+ws.length≤sizeLine):wpAny (model prog w) A (binaryOp .Add (.ref t) (.ref b)) Q E s:=by
 obtain ⟨⟨cls,dd,data,sl⟩,ho,hc,n,hd⟩:=id ht
 obtain ⟨⟨cls2,dd2,data2,sl2⟩,ho2,hc2,n2,hd2⟩:=id hb
 simp only at hc hd hc2 hd2
 subst hc hd hc2 hd2
 have e:vs.toArray++ws.toArray=(vs++ws).toArray:=by simp
 by_cases hw:ws=[]
 ·exact concat_meets ⟨_,ho,rfl⟩ ⟨_,ho2,rfl⟩ noFill_tuple_add seq_tuple_add PySem.F.slot_tuple_add PySem.F.entry_tuple_add (PySem.F.args_tuple_add_2 _ _)
   (tuple_addW1 t b vs.toArray ws.toArray n n2 dd dd2 sl sl2 (by simpa using hv) (by simp [hw])) ⟨ho,ho2,h1 hw⟩
 ·refine concat_meets ⟨_,ho,rfl⟩ ⟨_,ho2,rfl⟩ noFill_tuple_add seq_tuple_add PySem.F.slot_tuple_add PySem.F.entry_tuple_add (PySem.F.args_tuple_add_2 _ _)
   (tuple_addW2 t b vs.toArray ws.toArray n n2 dd dd2 sl sl2 (by simpa using hv) (by simpa using hw) (by rw [List.size_toArray,List.size_toArray];exact hsz)) ⟨ho,ho2,?_⟩
  rw [e]
  exact h2 hw
def sIx (n d:Nat):Option Int→Nat
 | none=>d
 | some v=>if v<0 then (v+(n:Int)).toNat else min v.toNat n
theorem sIx_none (n d:Nat):sIx n d none=d:=rfl
theorem sIx_nat (n d k:Nat):sIx n d (some (k:Int))=min k n:=by
 show (if (k:Int)<0 then ((k:Int)+(n:Int)).toNat else min (k:Int).toNat n)=min k n
 rw [if_neg (by omega),Int.toNat_natCast]
theorem tM (n d:Nat) (hd:d≤n) (o:Option Int):sIx n d o≤n:=by
 cases o with
 | none=>exact hd
 | some v=>
  show (if v<0 then (v+(n:Int)).toNat else min v.toNat n)≤n
  by_cases hv:v<0
  ·rw [if_pos hv];omega
  ·rw [if_neg hv];exact Nat.min_le_right _ _
theorem jv (v:Int) (n d:Nat):(if v<0 then max (v+(n:Int)) 0 else min v (n:Int))=((sIx n d (some v):Nat):Int):=by
 show (if v<0 then max (v+(n:Int)) 0 else min v (n:Int))=(((if v<0 then (v+(n:Int)).toNat else min v.toNat n):Nat):Int)
 by_cases hv:v<0
 ·simp only [if_pos hv];omega
 ·simp only [if_neg hv];omega
theorem g9 (lo hi:Option Int) (n:Nat):Builtin.Slice.sliceAdjust lo hi 1 (n:Int)=(((sIx n 0 lo:Nat):Int),((sIx n n hi:Nat):Int)):=by
 have h1:¬((1:Int)<0):=by omega
 unfold Builtin.Slice.sliceAdjust
 simp only [h1,if_false]
 refine Prod.ext ?_ ?_
 ·cases lo with
  | none=>rfl
  | some v=>exact jv v n 0
 ·cases hi with
  | none=>rfl
  | some v=>exact jv v n n
theorem im (i j:Nat):Builtin.Slice.slicePlaces (i:Int) (j:Int) 1=j - i:=by
 unfold Builtin.Slice.slicePlaces
 have h1:(1:Int) > 0:=by omega
 simp only [h1,if_true,Int.ediv_one]
 split <;> omega
theorem U9 {v:Value} {o:Option Int} {Q:Option Int→Shared→Prop} (p:IsPart v o) (h:Q o s):wpAny (model prog w) A (Builtin.Slice.slicePartIndex v) Q E s:=by
 cases p with
 | none=>exact slicePart_none h
 | int i t=>exact slicePart_int h
theorem Wv {sl:Addr} {vl vu:Value} {lo hi:Option Int} {n:Nat} {Q:Int×Int×Nat→Shared→Prop} (hs:s.heap.IsSliceOf sl vl vu .none) (pl:IsPart vl lo) (pu:IsPart vu hi)
  (h:Q (((sIx n 0 lo:Nat):Int),1,sIx n n hi - sIx n 0 lo) s):wpAny (model prog w) A (Builtin.Slice.sliceApplied (.ref sl) (pure (n:Int))) Q E s:=by
 obtain ⟨os,hos,hcs,hds⟩:=id hs
 unfold Builtin.Slice.sliceApplied Builtin.Slice.sliceFields
 refine wpAny_bind (wpAny_bind (wpAny_field hos hds (x:=vl) rfl (wpAny_bind (wpAny_field hos hds (x:=vu) rfl (wpAny_bind (wpAny_field hos hds (x:=.none) rfl (wpAny_pure ?_)))))))
 refine wpAny_bind (slicePart_none ?_)
 show wpAny _ _ (if ((1:Int) == 0)=true then _ else _) _ _ s
 rw [if_neg (by decide)]
 refine wpAny_bind (U9 pl (wpAny_bind (U9 pu (wpAny_bind (wpAny_pure ?_)))))
 show wpAny _ _ (match Builtin.Slice.sliceAdjust lo hi 1 (n:Int) with | (lo,hi)=>pure (lo,(1:Int),Builtin.Slice.slicePlaces lo hi 1)) _ _ s
 rw [g9 lo hi n]
 show wpAny _ _ (pure (((sIx n 0 lo:Nat):Int),(1:Int),Builtin.Slice.slicePlaces ((sIx n 0 lo:Nat):Int) ((sIx n n hi:Nat):Int) 1)) _ _ s
 rw [im]
 exact wpAny_pure h
theorem oQ (xs:Array Value) (i k:Nat):((List.range k).filterMap fun (m:Nat)=>xs[((i:Int)+(m:Int) * 1).toNat]?).toArray=((xs.toList.drop i).take k).toArray:=by
 have e:(fun (m:Nat)=>xs[((i:Int)+(m:Int) * 1).toNat]?)=fun m=>xs[i+m]?:=by
  funext m
  have:((i:Int)+(m:Int) * 1).toNat=i+m:=by omega
  rw [this]
 rw [e]
 have:=pick_run xs i k
 rw [List.filterMap_map] at this
 have e2:((fun x=>xs[x]?)∘fun x=>i+x)=fun m=>xs[i+m]?:=rfl
 rw [e2] at this
 rw [this]
theorem getItem_tuple_cut {t sl:Addr} {items:Array Value} {vl vu:Value} {lo hi:Option Int} {Q:Value→Shared→Prop} (ht:IsTup s.heap t items) (hs:s.heap.IsSliceOf sl vl vu .none) (pl:IsPart vl lo) (pu:IsPart vu hi)
  (hw:¬(sIx items.size 0 lo=0∧sIx items.size items.size hi=items.size))
  (h:Q (.ref s.heap.objs.size) {s with heap:=s.heap.push {cls:=.type "tuple",data:=.seq ((items.toList.drop (sIx items.size 0 lo)).take (sIx items.size items.size hi - sIx items.size 0 lo)).toArray}})
  (hsz:items.size≤sizeLine):wpAny (model prog w) A (getItem (.ref t) (.ref sl)) Q E s:=by
 have htake:sizeOk (.seq ((items.toList.drop (sIx items.size 0 lo)).take (sIx items.size items.size hi - sIx items.size 0 lo)).toArray):=by
  show ((items.toList.drop (sIx items.size 0 lo)).take (sIx items.size items.size hi - sIx items.size 0 lo)).toArray.size≤sizeLine
  rw [List.size_toArray,List.length_take,List.length_drop,Array.length_toList]
  omega
 have hj:sIx items.size items.size hi≤items.size:=tM _ _ (Nat.le_refl _) hi
 obtain ⟨os,hos,hcs,hds⟩:=id hs
 have hTs:s.TypeIs (.ref sl) "slice":=⟨os,hos,hcs⟩
 unfold getItem
 try with_reducible refine wpAny_holding ?_
 first | refine wpAny_bind (wpAny_pure ?_) | skip
 refine wpAny_bind (wpAny_sequenceKey ht.typeIs (by decide) ?_)
 refine wpAny_bind (wpAny_callSpecial?_slot (name:=Str.ofString "__getitem__") ht.typeIs PyProof.Rows.slot_tuple_getitem
  (wpAny_call_entry PyProof.Rows.slot_tuple_getitem ht.typeIs entry_tuple_getitem ?_ (args_tuple_getitem _ _)))
 show wpAny _ _ (Builtin.Tuple.tupleItemsOf (.ref t) >>= _) _ _ s
 refine wpAny_bind (tupleItemsOf_ ht ?_)
 refine wpAny_bind (wpAny_typeOf hTs ?_)
 rw [if_pos (by decide)]
 refine wpAny_bind (Wv hs pl pu ?_)
 have hno:¬((((sIx items.size 0 lo:Nat):Int) == 0 && (1:Int) == 1 && (sIx items.size items.size hi - sIx items.size 0 lo) == items.size)=true):=by
  intro q
  rw [Bool.and_eq_true,Bool.and_eq_true] at q
  have q1:((sIx items.size 0 lo:Nat):Int)=0:=eq_of_beq q.1.1
  have q2:sIx items.size items.size hi - sIx items.size 0 lo=items.size:=eq_of_beq q.2
  exact hw ⟨by omega,by omega⟩
 show wpAny _ _ (if (((sIx items.size 0 lo:Nat):Int) == 0 && (1:Int) == 1 && (sIx items.size items.size hi - sIx items.size 0 lo) == items.size)=true then _ else _) _ _ s
 rw [if_neg hno,oQ]
 first
  | exact wpAny_bind (m:=Builtin.Tuple.tupleExact _) (wpAny_newObj_type (wpAny_pure ⟨_,rfl,wpAny_pure h⟩) htake)
  | exact wpAny_bind (m:=Builtin.Tuple.tupleExact _) (wpAny_newObj_type (wpAny_bind (wpAny_pure (wpAny_pure ⟨_,rfl,wpAny_pure h⟩))) htake)
  | exact wpAny_bind (wpAny_bind (m:=Builtin.Tuple.tupleExact _) (wpAny_newObj_type (wpAny_pure (wpAny_pure ⟨_,rfl,wpAny_pure h⟩)) htake))
  | exact wpAny_bind (wpAny_bind (m:=Builtin.Tuple.tupleExact _) (wpAny_newObj_type (wpAny_pure ⟨_,rfl,wpAny_pure h⟩) htake))
end
end HT
namespace L2
open PySem PySem.Spec PyProof.Rows
abbrev TO:=St→Hp→(Option Int→Hp→Prop)→Prop
def PO (X:Cx) (e:Option Expr) (t:TO):Prop:=
 ∀(pins:List (Addr×Obj)) (s:Shared) (σ:St) (H:Hp) (Q:Option Int→Hp→Prop),Inv X pins σ H s→t σ H Q→
  wpAny (model X.prog X.w) X.A (evalPart e X.env) (fun u s'=>∃o H',Inv X pins σ H' s'∧IsPart u o∧Q o H') X.xe s
def oY:TO:=fun _ H Q=>Q none H
def uu (t:TE):TO:=fun σ H Q=>t σ H fun x H1=>∃i,x=.int i∧Q (some i) H1
theorem Uo {ns:List Int}:∀{us:List Value},Vals (ns.map V.int) us→IntsAre us ns:=by
 induction ns with
 | nil=>intro us r;rw [List.map_nil] at r;cases r;exact .nil
 | cons n ns ih=>
  intro us r
  rw [List.map_cons] at r
  cases r with
  | cons r1 r2=>
   obtain ⟨t,e⟩:=r1
   subst e
   exact .cons n t (ih r2)
section
variable {X:Cx} {e:Expr} {te:TE} {lo hi:Option Expr} {tl th:TO} {pos p2:Pos}
theorem Zz:PO X none oY:=by
 intro pins s σ H Q I h
 rw [evalPart_none]
 exact wpAny_pure ⟨none,H,I,.none,h⟩
theorem Zt (h:PE X e te):PO X (some e) (uu te):=by
 intro pins s σ H Q I hw
 rw [evalPart_some]
 refine thn (h pins s σ H _ I hw) fun u s1 hpat=>?_
 obtain ⟨x,H1,I1,r1,q1⟩:=hpat
 obtain ⟨i,rfl,q⟩:=q1
 obtain ⟨t,rfl⟩:=r1
 exact ⟨some i,H1,I1,.int i t,q⟩
def SlR (X:Cx) (r:V→Option Int→Option Int→Hp→VK→Prop):Prop:=
 ∀(pins:List (Addr×Obj)) (s:Shared) (σ:St) (H:Hp) (x:V) (v vl vu:Value) (lo hi:Option Int) (sl:Addr) (Q:VK),Inv X pins σ H s→RelV x v→s.heap.IsSliceOf sl vl vu .none→IsPart vl lo→IsPart vu hi→r x lo hi H Q→
  ∃T id,typeLookup (.type T) "__getitem__"=pure (some (.builtin id))∧s.TypeIs v T∧wpAny (model X.prog X.w) X.A (getItem v (.ref sl)) (EP X pins σ Q) X.xe s
def tSl (r:V→Option Int→Option Int→Hp→VK→Prop) (te:TE) (tl th:TO):TE:=fun σ H Q=>te σ H fun x H1=>tl σ H1 fun l H2=>th σ H2 fun u H3=>r x l u H3 Q
theorem Zr {r:V→Option Int→Option Int→Hp→VK→Prop} (hr:SlR X r) (he:PE X e te) (hl:PO X lo tl) (hu:PO X hi th):PE X (.Subscript e (.Slice lo hi none p2) pos) (tSl r te tl th):=by
 intro pins s σ H Q I h
 refine Subscript_ (thn (he pins s σ H _ I h) fun v s1 hpat=>?_)
 obtain ⟨x,H1,I1,r1,q1⟩:=hpat
 refine wpAny_Slice (thn (hl pins s1 σ H1 _ I1 q1) fun vl s2 ⟨l,H2,I2,pl,q2⟩=>thn (hu pins s2 σ H2 _ I2 q2) fun vu s3 hpat=>?_)
 obtain ⟨u,H3,I3,pu,q3⟩:=hpat
 rw [evalPart_none]
 refine wpAny_pure ?_
 have I4:Inv X pins σ H3 {s3 with heap:=s3.heap.push {cls:=.type "slice",data:=.fields #[vl,vu,.none]}}:=I3.kept (t':=s3.toks) fun b ob q=>Heap.get?_push_of_some _ q
 obtain ⟨T,id,hT,ht,hg⟩:=hr pins {s3 with heap:=s3.heap.push {cls:=.type "slice",data:=.fields #[vl,vu,.none]}} σ H3 x v vl vu l u s3.heap.objs.size Q I4 r1 (Heap.IsSliceOf.new ..) pl pu q3
 show wpAny (model X.prog X.w) X.A (subscriptTail e (.Slice lo hi none p2) v (.ref s3.heap.objs.size)) (EP X pins σ Q) X.xe {s3 with heap:=s3.heap.push {cls:=.type "slice",data:=.fields #[vl,vu,.none]}}
 exact tail_any (ops:=[.ref s3.heap.objs.size,v]) ht hT hg (by with_unfolding_all rfl)
def bd (xs:List V) (lo hi:Option Int):List V:=(xs.drop (HT.sIx xs.length 0 lo)).take (HT.sIx xs.length xs.length hi - HT.sIx xs.length 0 lo)
theorem Vp (xs:List V) (lo hi:Option Int):(bd xs lo hi).length≤xs.length:=by
 unfold bd
 rw [List.length_take,List.length_drop]
 omega
def rSlT (K:W.Frag):V→Option Int→Option Int→Hp→VK→Prop:=fun x lo hi H Q=>∃a xs,x=.ref a∧SqT K H a xs∧
 ¬(HT.sIx xs.length 0 lo=0∧HT.sIx xs.length xs.length hi=xs.length)∧∀p,H p=none→Q (.ref p) (upd H p (.tup (bd xs lo hi)))
theorem tE:SlR X (rSlT X.K):=by
 intro pins s σ H x v vl vu lo hi sl Q I rx hs pl pu h
 obtain ⟨a,xs,rfl,hx,hw,q⟩:=h
 cases rx
 obtain ⟨its,r,ht,hz⟩:=I.tuple hx
 have hlen:its.toArray.size=xs.length:=by rw [List.size_toArray];exact r.length.symm
 refine ⟨"tuple",_,PyProof.Rows.slot_tuple_getitem.lookup,ht.typeIs,?_⟩
 refine HT.getItem_tuple_cut ht hs pl pu (by rw [hlen];exact hw) ?_ (by rw [hlen];exact hz)
 rw [hlen]
 refine ⟨.ref s.heap.objs.size,_,I.laid (t':=s.toks) (o:=.tup (bd xs lo hi)) (fun b ob q=>Heap.get?_push_of_some _ q) (Nat.le_refl _) ?_,rfl,q _ (I.hok.fresh (Nat.le_refl _))⟩
 exact ⟨Nat.le_trans (Vp xs lo hi) hz,_,(r.drop (HT.sIx xs.length 0 lo)).take (HT.sIx xs.length xs.length hi - HT.sIx xs.length 0 lo),TupN.new _ _⟩
def uT (K:W.Frag):R2:=fun x y H Q=>∃a b xs ys,x=.ref a∧y=.ref b∧SqT K H a xs∧SqT K H b ys∧xs≠[]∧xs.length+ys.length≤sizeLine∧
 (ys=[]→Q (.ref a) H)∧(ys≠[]→∀p,H p=none→Q (.ref p) (upd H p (.tup (xs++ys))))
theorem Vals.nil_iff {xs:List V} {us:List Value} (r:Vals xs us):us=[]↔xs=[]:=by
 cases r with
 | nil=>simp
 | cons _ _=>simp
theorem qj:OpR X (binaryOp .Add) (uT X.K):=by
 intro pins s σ H x y v u Q I rx ry h
 obtain ⟨a,b,xs,ys,rfl,rfl,ha,hb,hx,hz,q1,q2⟩:=h
 cases rx
 cases ry
 obtain ⟨its,r1,p1,_⟩:=I.tuple ha
 obtain ⟨its2,r2,p2,_⟩:=I.tuple hb
 refine HT.cat_tup p1 p2 (fun z=>hx (r1.nil_iff.mp z)) (fun z=>⟨.ref a,H,I,rfl,q1 (r2.nil_iff.mp z)⟩) (fun z=>?_) (by rw [←r1.length,←r2.length];exact hz)
 refine ⟨.ref s.heap.objs.size,_,I.laid (t':=s.toks) (o:=.tup (xs++ys)) (fun b ob q=>Heap.get?_push_of_some _ q) (Nat.le_refl _) ?_,rfl,q2 (fun w=>z (r2.nil_iff.mpr w)) _ (I.hok.fresh (Nat.le_refl _))⟩
 exact ⟨by rw [List.length_append];exact hz,_,r1.append r2,TupN.new _ _⟩
end
def ixN (n:Nat) (i:Int):Option Nat:=if 0≤i then (if i<n then some i.toNat else none) else if -(n:Int)≤i then some (i+n).toNat else none
def atI {α:Type} (xs:List α) (i:Int):Option α:=(ixN xs.length i).bind fun j=>xs[j]?
theorem jW {n:Nat} {i:Int} {j:Nat} (h:ixN n i=some j):seqIndex? i n=some j∧j<n∧-(n:Int)≤i∧i<n:=by
 unfold ixN at h
 by_cases h0:0≤i
 ·rw [if_pos h0] at h
  by_cases h1:i<n
  ·rw [if_pos h1] at h
   have e:i.toNat=j:=Option.some.inj h
   exact ⟨by rw [seqIndex_of h0 h1,e],by omega,by omega,h1⟩
  ·rw [if_neg h1] at h;cases h
 ·rw [if_neg h0] at h
  by_cases h1:-(n:Int)≤i
  ·rw [if_pos h1] at h
   have e:(i+n).toNat=j:=Option.some.inj h
   exact ⟨by rw [seqIndex_neg (by omega) h1,e],by omega,h1,by omega⟩
  ·rw [if_neg h1] at h;cases h
theorem ji {α:Type} {xs:List α} {i:Int} {v:α} (h:atI xs i=some v):∃j,seqIndex? i xs.length=some j∧xs[j]?=some v∧j<xs.length∧-(xs.length:Int)≤i∧i<xs.length:=by
 unfold atI at h
 cases e:ixN xs.length i with
 | none=>rw [e] at h;cases h
 | some j=>
  rw [e] at h
  obtain ⟨h1,h2,h3,h4⟩:=jW e
  exact ⟨j,h1,h,h2,h3,h4⟩
theorem Vb {α:Type} {xs:List α} {j:Nat} {v:α} (h:xs[j]?=some v):atI xs (j:Int)=some v:=by
 have hj:j<xs.length:=(List.getElem?_eq_some_iff.mp h).1
 have e:ixN xs.length (j:Int)=some j:=by
  unfold ixN
  rw [if_pos (by omega),if_pos (by omega)];simp
 unfold atI;rw [e];exact h
def pR (b:Expr):Prop:=∀o i,subscripted b false o i=operate [o,i] (getItem o i)
def IxR (X:Cx) (r:R2):Prop:=
 ∀(value slice:Expr) (pins:List (Addr×Obj)) (s:Shared) (σ:St) (H:Hp) (x y:V) (v u:Value) (Q:VK),Inv X pins σ H s→RelV x v→RelV y u→r x y H Q→
  subscripted slice false v u=operate [v,u] (getItem v u)→wpAny (model X.prog X.w) X.A (subscriptTail value slice v u) (EP X pins σ Q) X.xe s
def MtR (X:Cx) (id:String) (r:V→List V→Hp→VK→Prop):Prop:=
 ∀(pins:List (Addr×Obj)) (s:Shared) (σ:St) (H:Hp) (x:V) (xs:List V) (v:Value) (us:List Value) (Q:VK),Inv X pins σ H s→RelV x v→Vals xs us→r x xs H Q→
  wpAny (model X.prog X.w) X.A (call (.builtin id) (v::us)) (EP X pins σ Q) X.xe s
section
variable {X:Cx} {a b:Expr} {ta tb:TE} {pos:Pos}
theorem Y0 {r:R2} (hr:IxR X r) (ha:PE X a ta) (hb:PE X b tb) (hs:pR b):PE X (.Subscript a b pos) (tOp r ta tb):=by
 intro pins s σ H Q I h
 exact Subscript_ (sY ha hb I h fun v u s2 x y H2 I2 rx ry q=>hr a b pins s2 σ H2 x y v u Q I2 rx ry q (hs _ _))
def rIxL (K:W.Frag):R2:=fun x y H Q=>∃p xs i v,x=.ref p∧y=.int i∧SqL K H p xs∧atI xs i=some v∧Q v H
def uy (K:W.Frag):R2:=fun x y H Q=>∃p xs i v,x=.ref p∧y=.int i∧SqT K H p xs∧atI xs i=some v∧Q v H
theorem Yb:IxR X (rIxL X.K):=by
 intro value slice pins s σ H x y v u Q I rx ry h hs
 obtain ⟨p,xs,i,z,rfl,rfl,hq,he,q⟩:=h
 cases rx
 obtain ⟨t,rfl⟩:=ry
 obtain ⟨its,r,pl,hz⟩:=I.list hq
 obtain ⟨j,h1,h2,h3,h4,h5⟩:=ji he
 obtain ⟨w,ew,rw'⟩:=r.get h2
 have hl:=r.length
 have hn:=Ru
 have fin:EP X pins σ Q w s:=⟨z,H,I,rw',q⟩
 by_cases h0:0≤i
 ·have hj:i.toNat=j:=by
   rw [seqIndex_of h0 h5] at h1
   exact Option.some.inj h1
  exact item_listR pl.isList h0 (by omega) (by rw [hj];simpa using ew) fin hs
 ·have hj:(i+(its.toArray.size:Int)).toNat=j:=by
   rw [seqIndex_neg (by omega) h4] at h1
   rw [List.size_toArray,←hl]
   exact Option.some.inj h1
  exact subscriptTail_builtinR (x:=w) pl.isList.typeIs slot_list_getitem.lookup
   (wpAny_getItem_list_neg (Q:=fun r s'=>r=w∧EP X pins σ Q r s') pl.isList (by omega) (by rw [List.size_toArray] <;> omega) (by omega) (by rw [hj];simpa using ew) ⟨rfl,fin⟩) hs
theorem Yl:IxR X (uy X.K):=by
 intro value slice pins s σ H x y v u Q I rx ry h hs
 obtain ⟨p,xs,i,z,rfl,rfl,hq,he,q⟩:=h
 cases rx
 obtain ⟨t,rfl⟩:=ry
 obtain ⟨its,r,pl,hz⟩:=I.tuple hq
 obtain ⟨j,h1,h2,h3,h4,h5⟩:=ji he
 obtain ⟨w,ew,rw'⟩:=r.get h2
 have hl:=r.length
 have hn:=Ru
 have fin:EP X pins σ Q w s:=⟨z,H,I,rw',q⟩
 exact subscriptTail_builtinR (x:=w) pl.typeIs slot_tuple_getitem.lookup
  (getItem_tuple (j:=j) (Q:=fun r s'=>r=w∧EP X pins σ Q r s') pl (by omega) (by omega) (by rw [List.size_toArray,←hl];exact h1) (by simpa using ew) ⟨rfl,fin⟩) hs
theorem iz (its:List Value) (n j:Nat) (u:Value):Obj.mapSeq (·.setIfInBounds j u) {cls:=.type "list",data:=.seq its.toArray n}={cls:=.type "list",data:=.seq (its.set j u).toArray n}:=by
 simp [Obj.mapSeq]
theorem Inv.lst {pins:List (Addr×Obj)} {σ:St} {H:Hp} {s:Shared} {p:Addr} {xs:List V} (I:Inv X pins σ H s) (h:H p=some (.lst xs)):
  ∃(its:List Value) (n:Nat),Vals xs its∧s.heap.get? p=some {cls:=.type "list",data:=.seq its.toArray n}∧xs.length≤sizeLine:=by
 obtain ⟨z,its,n,r,e⟩:=I.hok p _ h
 exact ⟨its,n,r,e,z⟩
theorem Inv.lstUpd {pins:List (Addr×Obj)} {σ:St} {H:Hp} {s:Shared} {p:Addr} {xs ys:List V} {its its':List Value} {n n':Nat} {f:Obj→Obj} (I:Inv X pins σ H s) (h:H p=some (.lst xs))
  (ho:s.heap.get? p=some {cls:=.type "list",data:=.seq its.toArray n}) (hf:f {cls:=.type "list",data:=.seq its.toArray n}={cls:=.type "list",data:=.seq its'.toArray n'}) (r:Vals ys its') (hz:ys.length≤sizeLine) (t:Nat):
  Inv X pins σ (upd H p (.lst ys)) {s with heap:=s.heap.update p f,toks:=t}:=by
 have e:(s.heap.update p f).get? p=some {cls:=.type "list",data:=.seq its'.toArray n'}:=by
  rw [Heap.get?_update_self f ho (by rw [hf] <;> rfl),hf]
 refine I.write (x:=p) (e:=p) (by rw [h];trivial) (.inl rfl) (fun b u hb q=>(Heap.get?_update_other _ _ (Ne.symm hb)).trans q) ⟨_,e⟩ ?_
 exact ⟨hz,its',n',r,e⟩
def uN:V→V→V→Hp→(Hp→Prop)→Prop:=fun o i v H Q=>∃p xs k j,o=.ref p∧i=.int k∧H p=some (.lst xs)∧ixN xs.length k=some j∧Q (upd H p (.lst (xs.set j v)))
theorem Rf:vt X uN:=by
 intro pins s σ H o i v ov iv u Q I ro ri rv h
 obtain ⟨p,xs,k,j,rfl,rfl,hp,hj,q⟩:=h
 cases ro
 obtain ⟨t,rfl⟩:=ri
 obtain ⟨its,n,r,ho,hz⟩:=I.lst hp
 obtain ⟨h1,h2,h3,h4⟩:=jW hj
 have hl:=r.length
 have hn:=Ru
 have I':Inv X pins σ (upd H p (.lst (xs.set j v))) {s with heap:=s.heap.update p (Obj.mapSeq (·.setIfInBounds j u))}:=
  I.lstUpd hp ho (iz its n j u) (r.set rv j) (by rw [List.length_set];exact hz) s.toks
 by_cases h0:0≤k
 ·have hk:k.toNat=j:=by
   rw [seqIndex_of h0 h4] at h1
   exact Option.some.inj h1
  exact W.ki_setAt ho h0 (by omega) (by rw [List.size_toArray,←hl];exact h4) (by rw [hk];exact ⟨_,I',q⟩)
 ·have hk:(k+(its.toArray.size:Int)).toNat=j:=by
   rw [seqIndex_neg (by omega) h3] at h1
   rw [List.size_toArray,←hl]
   exact Option.some.inj h1
  exact W.ki_setBack ho (by omega) (by rw [List.size_toArray,←hl];exact h3) (by omega) (by rw [hk];exact ⟨_,I',q⟩)
theorem Ob (lo hi:Option Int) (n:Nat):(sliceBounds lo hi none n).1=((HT.sIx n 0 lo:Nat):Int)∧(sliceBounds lo hi none n).2.1=((HT.sIx n n hi:Nat):Int)∧(sliceBounds lo hi none n).2.2=1:=by
 refine ⟨?_,?_,rfl⟩
 ·cases lo with
  | none=>simp [sliceBounds,HT.sIx]
  | some i=>
   simp only [sliceBounds,HT.sIx,Option.getD_none,show (1:Int) > 0 by decide,if_true]
   by_cases h:i<0
   ·simp only [h,if_true] <;> omega
   ·simp only [h,if_false] <;> omega
 ·cases hi with
  | none=>simp [sliceBounds,HT.sIx]
  | some i=>
   simp only [sliceBounds,HT.sIx,Option.getD_none,show (1:Int) > 0 by decide,if_true]
   by_cases h:i<0
   ·simp only [h,if_true] <;> omega
   ·simp only [h,if_false] <;> omega
theorem Qh (its:List Value) (lo hi:Option Int):slicePick its.toArray lo hi none=((its.drop (HT.sIx its.length 0 lo)).take (HT.sIx its.length its.length hi - HT.sIx its.length 0 lo)).toArray:=by
 obtain ⟨h1,h2,h3⟩:=Ob lo hi its.toArray.size
 unfold slicePick
 rw [h1,h2,h3]
 simp only [sliceRange_one,pick_run,List.size_toArray] <;> rfl
def rSlL (K:W.Frag):V→Option Int→Option Int→Hp→VK→Prop:=fun x lo hi H Q=>∃a xs,x=.ref a∧SqL K H a xs∧∀p,H p=none→Q (.ref p) (upd H p (.lst (bd xs lo hi)))
theorem X9:SlR X (rSlL X.K):=by
 intro pins s σ H x v vl vu lo hi sl Q I rx hs pl pu h
 obtain ⟨a,xs,rfl,hx,q⟩:=h
 cases rx
 obtain ⟨its,r,ht,hz⟩:=I.list hx
 have hlen:=r.length
 refine ⟨"list",_,slot_list_getitem.lookup,ht.isList.typeIs,?_⟩
 refine wpAny_getItem_list_slice ht.isList hs pl pu .none (by simp) ?_ (by rw [List.size_toArray] <;> omega)
 rw [Qh,←hlen]
 refine ⟨.ref s.heap.objs.size,_,I.laid (t':=s.toks) (o:=.lst (bd xs lo hi)) (fun b ob q=>Heap.get?_push_of_some _ q) (Nat.le_refl _) ?_,rfl,q _ (I.hok.fresh (Nat.le_refl _))⟩
 exact ⟨Nat.le_trans (Vp xs lo hi) hz,_,0,(r.drop (HT.sIx xs.length 0 lo)).take (HT.sIx xs.length xs.length hi - HT.sIx xs.length 0 lo),Heap.get?_push_size _ rfl⟩
theorem Zo:CallR X (.builtin "len") (fun xs H Q=>∃p ys,xs=[.ref p]∧(SqL X.K H p ys∨SqT X.K H p ys)∧Q (.int ys.length) H):=by
 intro pins s σ H xs us Q I r h
 obtain ⟨p,ys,rfl,hq,q⟩:=h
 obtain ⟨u,rfl,rx⟩:=Xo r
 cases rx
 have hn:=Ru
 rcases hq with hq | hq
 ·obtain ⟨its,r',pl,hz⟩:=I.list hq
  have hlen:=r'.length
  exact Calls.call_len_list pl.isList (by simp only [List.size_toArray] <;> omega) ⟨.int ys.length,H,I.tok _,⟨s.toks+1,by rw [List.size_toArray,hlen]⟩,q⟩
 ·obtain ⟨its,r',pl,hz⟩:=I.tuple hq
  have hlen:=r'.length
  exact len_tuple pl (by simp only [List.size_toArray] <;> omega) ⟨.int ys.length,H,I.tok _,⟨s.toks+1,by rw [List.size_toArray,hlen]⟩,q⟩
theorem Tj:CallR X (.builtin "len") (fun xs H Q=>∃z,xs=[.str z]∧z.length≤sizeLine∧Q (.int z.length) H):=by
 intro pins s σ H xs us Q I r h
 obtain ⟨z,rfl,hz,q⟩:=h
 obtain ⟨u,rfl,t,rfl⟩:=Xo r
 have hn:=Ru
 exact len_str (by omega) ⟨.int z.length,H,I.tok _,⟨_,rfl⟩,q⟩
theorem CallR.or {f:Value} {r r':List V→Hp→VK→Prop} (h:CallR X f r) (h':CallR X f r'):CallR X f (fun xs H Q=>r xs H Q∨r' xs H Q):=by
 intro pins s σ H xs us Q I rs q
 rcases q with q | q
 ·exact h pins s σ H xs us Q I rs q
 ·exact h' pins s σ H xs us Q I rs q
theorem Wg:CallR X (.type "list") (fun xs H Q=>∃p ys,xs=[.ref p]∧(SqL X.K H p ys∨SqT X.K H p ys)∧∀l,H l=none→Q (.ref l) (upd H l (.lst ys))):=by
 intro pins s σ H xs us Q I r h
 obtain ⟨p,ys,rfl,hq,q⟩:=h
 obtain ⟨u,rfl,rx⟩:=Xo r
 cases rx
 have fin:∀(its:List Value),Vals ys its→ys.length≤sizeLine→∀(h':Heap) (c':Nat),(∀b o',s.heap.get? b=some o'→h'.get? b=some o')→
   h'.get? s.heap.objs.size=some {cls:=.type "list",dict:=none,data:=.seq its.toArray c',slots:=#[]}→EP X pins σ Q (.ref s.heap.objs.size) {s with heap:=h'}:=fun its r' hz h' c' kp e=>
  ⟨.ref s.heap.objs.size,_,I.laid (t':=s.toks) kp (Nat.le_refl _) (show ObjOk X.prog X.w _ h' _ (.lst ys) from ⟨hz,its,c',r',e⟩),rfl,q _ (I.hok.fresh (Nat.le_refl _))⟩
 rcases hq with hq | hq
 ·obtain ⟨its,r',pl,hz⟩:=I.list hq
  have hlen:=r'.length
  obtain ⟨o,ho,hc,n,hd⟩:=pl.isList
  exact call_list_seq p (.inl rfl) ho hc hd (fun h' c' kp e=>fin its r' hz h' c' kp e) (by simp only [List.size_toArray] <;> omega)
 ·obtain ⟨its,r',pl,hz⟩:=I.tuple hq
  have hlen:=r'.length
  obtain ⟨o,ho,hc,n,hd⟩:=pl
  exact call_list_seq p (.inr rfl) ho hc hd (fun h' c' kp e=>fin its r' hz h' c' kp e) (by simp only [List.size_toArray] <;> omega)
theorem Yv:CallR X (.type "tuple") (fun xs H Q=>∃p ys,xs=[.ref p]∧((SqL X.K H p ys∧∀l,H l=none→Q (.ref l) (upd H l (.tup ys)))∨(SqT X.K H p ys∧Q (.ref p) H))):=by
 intro pins s σ H xs us Q I r h
 obtain ⟨p,ys,rfl,h⟩:=h
 obtain ⟨u,rfl,rx⟩:=Xo r
 cases rx
 rcases h with ⟨hq,q⟩ | ⟨hq,q⟩
 ·obtain ⟨its,r',pl,hz⟩:=I.list hq
  have hlen:=r'.length
  refine call_tuple_list pl.isList (fun h' kp=>?_) (by simp only [List.size_toArray] <;> omega)
  have I1:Inv X pins σ H {s with heap:=h'}:=I.kept (t':=s.toks) kp
  have I2:Inv X pins σ (upd H h'.objs.size (.tup ys)) {s with heap:=h'.push {cls:=.type "tuple",data:=.seq its.toArray}}:=
   I1.laid (t':=s.toks) (fun b o e=>Heap.get?_push_of_some _ e) (Nat.le_refl _) (show ObjOk X.prog X.w _ _ _ (.tup ys) from ⟨hz,its,r',TupN.new _ _⟩)
  exact ⟨.ref h'.objs.size,_,I2,rfl,q _ (I1.hok.fresh (Nat.le_refl _))⟩
 ·obtain ⟨its,r',pl,hz⟩:=I.tuple hq
  exact call_tuple_same pl ⟨.ref p,H,I,rfl,q⟩
def tyV (K:W.Frag) (T:String) (x:V) (H:Hp):Prop:=match x with
 | .str _=>T="str"
 | .int _=>T="int"
 | .ref p=>(T="list"∧∃xs,SqL K H p xs)∨(T="tuple"∧∃o,K.lookup p=some o∧o.cls=.type "tuple"∧o.dict=none)∨
   (T="dict"∧((∃kvs,H p=some (.dK kvs))∨∃kvs,H p=some (.dT kvs)))∨(T="set"∧∃S n,H p=some (.set S n))
 | _=>False
theorem nG {pins:List (Addr×Obj)} {σ:St} {H:Hp} {s:Shared} {T:String} {x:V} {v:Value} (I:Inv X pins σ H s) (r:RelV x v) (ty:tyV X.K T x H):
  s.TypeIs v T∧∀a,v=.ref a→∃ob,s.heap.get? a=some ob∧ob.dict=none:=by
 cases x with
 | str z=>
  obtain ⟨t,rfl⟩:=r
  cases (show T="str" from ty)
  exact ⟨typeIs_str s z t,fun _ e=>nomatch e⟩
 | int i=>
  obtain ⟨t,rfl⟩:=r
  cases (show T="int" from ty)
  exact ⟨typeIs_int s i t,fun _ e=>nomatch e⟩
 | ref p=>
  cases r
  rcases ty with ⟨rfl,xs,hq⟩ | ⟨rfl,o,hk,hc,hd⟩ | ⟨rfl,hk⟩ | ⟨rfl,S,n,hk⟩
  ·obtain ⟨its,_,pl,_⟩:=I.list hq
   refine ⟨pl.isList.typeIs,fun a e=>?_⟩
   cases e
   obtain ⟨o,n,e,c,hd,_⟩:=pl
   exact ⟨o,e,hd⟩
  ·refine ⟨⟨o,I.kIn p o hk,hc⟩,fun a e=>?_⟩
   cases e
   exact ⟨o,I.kIn _ o hk,hd⟩
  ·have z:∃o,s.heap.get? p=some o∧o.ExactDict:=by
    rcases hk with ⟨kvs,hk⟩ | ⟨kvs,hk⟩
    ·obtain ⟨_,_,_,_,o,_,_,e,ex,_⟩:=I.hok p _ hk
     exact ⟨o,e,ex⟩
    ·obtain ⟨_,_,_,_,o,_,_,e,ex,_⟩:=I.hok p _ hk
     exact ⟨o,e,ex⟩
   obtain ⟨o,e,ex⟩:=z
   refine ⟨⟨o,e,ex.1⟩,fun a e2=>?_⟩
   cases e2
   exact ⟨o,e,ex.2.1⟩
  ·obtain ⟨o,_,_,_,e,ex,_⟩:=I.hok p _ hk
   refine ⟨⟨o,e,ex.1⟩,fun a e2=>?_⟩
   cases e2
   exact ⟨o,e,ex.2.1⟩
 | _=>exact False.elim ty
def tBM0 (K:W.Frag) (T:String) (r:V→List V→Hp→VK→Prop) (to:TE):TE:=fun σ H Q=>to σ H fun x H1=>tyV K T x H1∧r x [] H1 Q
def tBM (K:W.Frag) (T:String) (r:V→List V→Hp→VK→Prop) (to:TE) (t:TA):TE:=fun σ H Q=>to σ H fun x H1=>tyV K T x H1∧t σ H1 fun xs H2=>r x xs H2 Q
variable {o e:Expr} {es:List Expr} {to:TE} {t:TA} {name:Str} {apos cpos:Pos} {T id:String} {r:V→List V→Hp→VK→Prop}
theorem oO (pa:PlainAttrs T) (slot:Slot T name id) (hty:typeOf (.builtin id)=pure (.type "method_descriptor")) (hm:MtR X id r) (ho:PE X o to)
  (hbase:attributeBase o name X.env (eval o X.env)=eval o X.env:=by rfl) (hline:(apos.endLine == cpos.line)=true:=by rfl):PE X (.Call (.Attribute o name apos) [] [] cpos) (tBM0 X.K T r to):=by
 intro pins s σ H Q I h
 refine wpAny_Call_method0_late hbase hline (thn (ho pins s σ H _ I h) fun v s1 hpat=>?_)
 obtain ⟨x,H1,I1,r1,ty,q1⟩:=hpat
 obtain ⟨h1,h2⟩:=nG I1 r1 ty
 exact ⟨T,id,pa,slot,hty,h1,h2,Calls.callWith_builtin rfl (PySem.evalArgs_none (hm pins s1 σ H1 x [] v [] Q I1 r1 .nil q1))⟩
theorem Se (pa:PlainAttrs T) (slot:Slot T name id) (hty:typeOf (.builtin id)=pure (.type "method_descriptor")) (hm:MtR X id r) (ho:PE X o to) (ha:PA X (e::es) t)
  (hbase:attributeBase o name X.env (eval o X.env)=eval o X.env:=by rfl)
  (hfew:((backTo cpos (starEach (e::es) X.env)).all (fun x=>!x.1) && (backToKw cpos (keywordEach [] X.env)).all (fun x=>x.1.isSome)
   && decide ((e::es).length+([]:List Keyword).length+(if ([]:List Keyword).isEmpty then 0 else 1)<30))=true:=by rfl)
  (hline:(apos.endLine == cpos.line)=true:=by rfl) (hs:starEach (e::es) X.env=(false,eval e X.env)::starEach es X.env:=by rfl) (hplain:(backTo cpos (starEach es X.env)).any (·.1)=false:=by rfl):
  PE X (.Call (.Attribute o name apos) (e::es) [] cpos) (tBM X.K T r to t):=by
 intro pins s σ H Q I h
 refine wpAny_Call_method_late hbase hfew hline rfl (thn (ho pins s σ H _ I h) fun v s1 hpat=>?_)
 obtain ⟨x,H1,I1,r1,ty,q1⟩:=hpat
 obtain ⟨h1,h2⟩:=nG I1 r1 ty
 refine ⟨T,id,pa,slot,hty,h1,h2,?_⟩
 have hA:=ha cpos pins s1 σ H1 _ I1 q1
 rw [hs] at hA ⊢
 refine Calls.callWith_builtin (by show (false || (backTo cpos (starEach es X.env)).any (·.1))=false;rw [hplain] <;> rfl) (Calls.evalArgs_plain ?_)
 exact thn hA fun us s2 ⟨vs,H2,I2,r2,q2⟩=>hm pins s2 σ H2 x vs v us Q I2 r1 r2 q2
end
def MtM (X:Cx) (id:String) (r:V→List V→Hp→VK→Prop):Prop:=
 ∀(pins:List (Addr×Obj)) (s:Shared) (σ:St) (H:Hp) (x:V) (xs:List V) (v:Value) (us:List Value) (Q:VK),Inv X pins σ H s→RelV x v→Vals xs us→r x xs H Q→
  wpAny (model X.prog X.w) X.A (call (.builtin id) (v::us)) (EP X pins σ Q) X.xe s
theorem Vals.one {x:V} {us:List Value} (h:Vals [x] us):∃u,us=[u]∧RelV x u:=by
 cases h with
 | cons r t=>
  cases t
  exact ⟨_,rfl,r⟩
theorem Vals.reverse {xs:List V} {us:List Value} (h:Vals xs us):Vals xs.reverse us.reverse:=by
 induction h with
 | nil=>exact .nil
 | cons r t ih=>rw [List.reverse_cons,List.reverse_cons];exact Vals.append ih (.cons r .nil)
theorem Vals.rep {xs:List V} {us:List Value} (h:Vals xs us):∀k:Nat,Vals (List.replicate k xs).flatten (List.replicate k us).flatten
 | 0=>.nil
 | k+1=>by
  rw [List.replicate_succ,List.replicate_succ,List.flatten_cons,List.flatten_cons]
  exact Vals.append h (Vals.rep h k)
theorem Pg (its:List Value):∀(k:Nat) (acc:List Value),
  List.foldl (fun x1 x2=>x1++x2) acc.toArray (List.replicate k its.toArray)=(acc++(List.replicate k its).flatten).toArray
 | 0,acc=>by simp
 | k+1,acc=>by
  have e:acc.toArray++its.toArray=(acc++its).toArray:=by simp
  have e2:(acc++its)++(List.replicate k its).flatten=acc++(List.replicate (k+1) its).flatten:=by
   rw [List.replicate_succ,List.flatten_cons,List.append_assoc]
  rw [←e2,←Pg its k (acc++its),←e,List.replicate_succ,List.foldl_cons]
section
variable {X:Cx} {pins:List (Addr×Obj)} {σ:St} {H:Hp} {s:Shared} {l b:Addr} {xs ys zs:List V}
theorem Inv.lset {its its':List Value} {n:Nat} {f:Array Value→Array Value} {t':Nat} (I:Inv X pins σ H s) (hH:H l=some (.lst xs))
  (e:s.heap.get? l=some {cls:=.type "list",data:=.seq its.toArray n}) (hf:f its.toArray=its'.toArray) (hv:Vals ys its') (hz:ys.length≤sizeLine):
  Inv X pins σ (upd H l (.lst ys)) {s with heap:=s.heap.update l (Obj.mapSeq f),toks:=t'}:=by
 have q:=PySem.IsL.update e f
 rw [hf] at q
 refine I.write (x:=l) (e:=l) (by rw [hH];exact trivial) (.inl rfl) (fun b' u hb hu=>(Heap.get?_update_other s.heap (Obj.mapSeq f) (Ne.symm hb)).trans hu) ⟨_,q⟩ ?_
 exact ⟨hz,its',_,hv,q⟩
theorem Inv.lnew {its:List Value} {t':Nat} (I:Inv X pins σ H s) (hv:Vals ys its) (hz:ys.length≤sizeLine):
  Inv X pins σ (upd H s.heap.objs.size (.lst ys)) {s with heap:=s.heap.push {cls:=.type "list",data:=.seq its.toArray},toks:=t'}:=
 I.laid (fun _ _ q=>Heap.get?_push_of_some _ q) (Nat.le_refl _) ⟨hz,its,0,hv,Heap.get?_push_size _ rfl⟩
theorem Inv.fresh (I:Inv X pins σ H s):H s.heap.objs.size=none:=I.hok.fresh (Nat.le_refl _)
theorem Inv.lstM (I:Inv X pins σ H s) (hH:H l=some (.lst xs)):xs.length≤sizeLine∧∃(its:List Value) (n:Nat),Vals xs its∧xs.length=its.length∧s.heap.get? l=some {cls:=.type "list",data:=.seq its.toArray n}:=by
 obtain ⟨z,its,n,r,e⟩:=I.hok l _ hH
 exact ⟨z,its,n,r,r.length,e⟩
theorem oh {n:Nat} (h:n≤sizeLine):Builtin.List.listTooLong n=false:=by
 unfold Builtin.List.listTooLong
 exact decide_eq_false (by omega)
end
section
variable {X:Cx}
def pP:V→List V→Hp→VK→Prop:=fun x vs H Q=>∃l xs y,x=.ref l∧vs=[y]∧H l=some (.lst xs)∧xs.length<sizeLine∧Q .non (upd H l (.lst (xs++[y])))
theorem Xz:MtM X "list.append" pP:=by
 intro pins s σ H x vs v us Q I rx rv h
 obtain ⟨l,xs,y,rfl,rfl,hH,hz,q⟩:=h
 cases rx
 obtain ⟨u,rfl,ru⟩:=rv.one
 obtain ⟨z,its,n,r,hl,e⟩:=I.lstM hH
 refine call_meets F.slot_list_append ⟨_,e,rfl⟩ F.entry_list_append (F.args_list_append_2 _ _) (PySem.list_append l its.toArray n u (by rw [List.size_toArray];omega)) ⟨e,?_⟩
 refine ⟨.non,_,I.lset (its':=its++[u]) hH e (by simp) (r.append (.cons ru .nil)) ?_,rfl,q⟩
 rw [List.length_append,List.length_singleton]
 omega
def rCat:R2:=fun x y H Q=>∃l b xs zs,x=.ref l∧y=.ref b∧H l=some (.lst xs)∧H b=some (.lst zs)∧xs.length+zs.length≤sizeLine∧∀p,H p=none→Q (.ref p) (upd H p (.lst (xs++zs)))
theorem Yk:OpR X (binaryOp .Add) rCat:=by
 intro pins s σ H x y v u Q I rx ry h
 obtain ⟨l,b,xs,zs,rfl,rfl,hH,hB,hz,q⟩:=h
 cases rx
 cases ry
 obtain ⟨z,its,n,r,hl,e⟩:=I.lstM hH
 obtain ⟨z2,its2,n2,r2,hl2,e2⟩:=I.lstM hB
 refine PySem.P.add_list e e2 ?_ (by rw [List.size_toArray,List.size_toArray];omega)
 have ea:its.toArray++its2.toArray=(its++its2).toArray:=by simp
 rw [ea]
 exact ⟨.ref _,_,I.lnew (t':=s.toks) (r.append r2) (by rw [List.length_append];omega),rfl,q _ I.fresh⟩
def rRep:R2:=fun x y H Q=>∃l k xs,x=.ref l∧y=.int k∧H l=some (.lst xs)∧-(2 ^ 63)≤k∧k<2 ^ 63∧xs.length * k.toNat≤sizeLine∧
 ∀p,H p=none→Q (.ref p) (upd H p (.lst (List.replicate k.toNat xs).flatten))
theorem pQ {α:Type} (xs:List α) (k:Nat):(List.replicate k xs).flatten.length=k * xs.length:=by
 induction k with
 | zero=>simp
 | succ k ih=>rw [List.replicate_succ,List.flatten_cons,List.length_append,ih,Nat.succ_mul,Nat.add_comm]
theorem rF:OpR X (binaryOp .Mult) rRep:=by
 intro pins s σ H x y v u Q I rx ry h
 obtain ⟨l,k,xs,rfl,rfl,hH,h1,h2,hz,q⟩:=h
 cases rx
 obtain ⟨t,rfl⟩:=ry
 obtain ⟨z,its,n,r,hl,e⟩:=I.lstM hH
 have hlen:its.toArray.size * k.toNat≤sizeLine:=by rw [List.size_toArray,←hl];exact hz
 have hcap:¬its.toArray.size * k.toNat > (2 ^ 63 - 1) / 8:=by
  have:(sizeLine:Nat)≤(2 ^ 63 - 1) / 8:=by decide
  omega
 have hfit:¬(!Builtin.List.listFitsIndex k)=true:=by
  rw [fitsIndex_both h1 h2]
  exact Bool.false_ne_true
 have hlong:¬Builtin.List.listTooLong (its.toArray.size * k.toNat)=true:=by
  rw [oh hlen]
  exact Bool.false_ne_true
 have hnew:List.foldl (fun x1 x2=>x1++x2) #[] (List.replicate (if its.toArray.isEmpty=true then 0 else k.toNat) its.toArray)=(List.replicate k.toNat its).flatten.toArray:=by
  have f0:∀m:Nat,List.foldl (fun x1 x2=>x1++x2) #[] (List.replicate m its.toArray)=(List.replicate m its).flatten.toArray:=fun m=>by
   have:=Pg its m []
   rw [List.nil_append] at this
   exact this
  rw [f0]
  cases its with
  | nil=>simp
  | cons a r'=>rw [if_neg (by simp)]
 refine wpAny_binaryOp_repeat_ref (T:="list") (U:="int") (by decide) ⟨_,e,rfl⟩ (fun s'=>typeIs_int s' k t) noFill_list_mul F.fills_int_mul F.slot_int_rmul repeat_list F.slot_int_index.lookup
  (call_meets F.slot_int_rmul (typeIs_int s k t) F.entry_int_rmul (F.args_int_rmul_2 _ _) (int___rmul___int_list k t l its.toArray n)
   ⟨e,rfl,⟨_,e,rfl⟩,call_meets F.slot_list_mul ⟨_,e,rfl⟩ F.entry_list_mul (F.args_list_mul_2 _ _) (AutoListH.list___mul___list_int_3 l its.toArray n k t hfit hcap hlong) ⟨e,?_⟩⟩)
 rw [hnew]
 exact ⟨.ref _,_,I.lnew (t':=s.toks) (r.rep k.toNat) (by rw [pQ,Nat.mul_comm];exact hz),rfl,q _ I.fresh⟩
end
section
variable {prog:Program} {w:World} {A:Around} {E:Value→Shared→Prop} {s:Shared}
end
section
variable {X:Cx}
end
end L2
namespace Att
open PySem PySem.W PySem.Calls PyProof.Rows
theorem Sr {P:Params} {h:Heap}:∀(ns:List Int) (vs:List Value),WellAll P h vs (ns.map WData.int)→IntsAre vs ns:=by
 intro ns
 induction ns with
 | nil=>
  intro vs w
  rw [List.map_nil] at w
  cases w
  exact .nil
 | cons n ns ih=>
  intro vs w
  rw [List.map_cons] at w
  cases w with
  | cons a b=>
   cases a
   exact .cons _ _ (ih _ b)
theorem kA {l:OpenLaw} {n:Nat} (hn:l.most=some n) {P:Params} {h:Heap} {args:List WData} {vals:List Value}
  (hpre:l.row.toRowW.claim.pre args=true) (hwl:WellAll P h vals args):
  ∃a vs ns,vals=[Value.ref a]∧args=[WData.list (ns.map WData.int)]∧h.get? a=some {cls:=.type "list",data:=.seq vs.toArray}∧IntsAre vs ns∧ns.length≤n:=by
 have hsh:WShape.hasAll [] args [.list .int]=true:=(pre_splitW hpre).1
 have hc:l.pre.holds [] {args:=args}=true:=(pre_splitW hpre).2
 obtain ⟨d,r,rfl,h1,h2⟩:=hasAllW_cons hsh
 obtain rfl:=hasAllW_nil h2
 obtain ⟨xs,rfl,h3⟩:=hasW_list h1
 obtain ⟨ns,rfl⟩:=items_int h3
 have hlen:ns.length≤n:=by
  unfold OpenLaw.pre at hc
  have h4:(WTm.not (.lt (.lit (.int (n:Int))) (.len (.arg 0)))).holds [] {args:=[.list (ns.map .int)]}=true:=by
   have h4:=(holds_andW hc).1
   rw [hn] at h4
   exact h4
  have h5:=condW_of h4 (w_not (w_lt w_lit (w_len_list (w_arg rfl))))
  rw [List.length_map] at h5
  refine Nat.le_of_not_lt fun q=>?_
  have q':(n:Int)<((ns.length:Nat):Int):=by omega
  first
   | (rw [decide_eq_true q'] at h5;exact absurd h5 (by decide))
   | (simp at h5;omega)
 cases hwl with
 | cons w1 w2=>
  cases w2
  cases w1 with
  | list ho hall=>exact ⟨_,_,ns,rfl,rfl,ho,Sr ns _ hall,hlen⟩
theorem kF (l:OpenLaw) (args:List WData):l.row.toRowW.claim.post args (.bool true) args=true:=
 postW_of (r:=l.row.toRowW) (X:=(true == true))
  (show WShape.has [] (.bool true) .bool=true by first | rfl | decide | simp [WShape.has,WShape.arms,WShape.armsAll])
  (show (WTm.eq .res (.lit (.bool true))).value [] {args:=args,res:=some (.bool true),after:=args}=some (.bool (true == true)) from w_eq_bool (w_res rfl) w_lit) rfl
theorem attach_call {l:OpenLaw} {n:Nat} {q:Program} {loose:List Str} {XP:(Str→Option Value)→Heap→Prop} {YP:World→Heap→Prop} {d:DefRec}
  (hn:l.most=some n) (hdf:d.params.defaults=[])
  (call:∀(w:World) (s₀ s₁:Shared) (mg mb:Str→Option Value) (fa:Addr) (o:Obj) (pm cd doc:Value) (a:Addr) (vs:List Value) (ns:List Int),
   Ground q loose [] XP w s₀ mg mb s₁.heap→YP w s₁.heap→
   s₁.heap.get? fa=some o→o.data=.func (docDef d.name d.params d.body d.scope pm cd doc)→s₁.heap.CodeRec cd d.name→mg d.name=some (.ref fa)→
   s₁.heap.get? a=some {cls:=.type "list",data:=.seq vs.toArray}→IntsAre vs ns→ns.length≤n→s₁.gens=#[]→
   codeAny (model l.prog w) callerA (.call (.ref fa) ⟨[.ref a],[]⟩) (fun r s'=>r=.ok (.ret (.bool true))∧OldK s₁.heap s'.heap∧s'.os=s₁.os∧AllBare s'.gens) s₁):
  WalkO q loose XP YP l.row.toRowW d [] (fun f vs=>PySem.call f vs):=by
 intro w s₀ s₁ mg mb G Y fa o pm cd doc dV kV ho hd hcd hD hmg hg args vals as hpre hlay hrd hwl hlo
 obtain rfl:dV=.none:=Dflts.none hD hdf
 obtain rfl:kV=.none:=Dflts.noKw hD
 obtain ⟨a,vs,ns,rfl,rfl,hobj,hints,hlen⟩:=kA hn hpre hwl
 refine enter_call (codeAny_mono (call w s₀ s₁ mg mb fa o pm cd doc a vs ns G Y ho (fd_plain hd) hcd hmg hobj hints hlen hg) fun r s' hq=>?_)
 obtain ⟨rfl,h2,h3,h4⟩:=hq
 exact ⟨.inl ⟨.bool true,.bool true,[],rfl,fun _=>rfl,.bool true,kF l _,fun _=>⟨List.Pairwise.nil,fun _ hm=>(nomatch hm)⟩⟩,h2,h3,h4⟩
section
variable {prog:Program} {w:World} {A:Around} {E:Value→Shared→Prop} {s:Shared} {K:Frag}
end
end Att
namespace L2
open PySem PySem.Spec PyProof.Rows
theorem Wu:∀{vs:List Value} {ns:List Int},IntsAre vs ns→Vals (ns.map V.int) vs
 | _,_,.nil=>.nil
 | _,_,.cons n t h=>.cons ⟨t,rfl⟩ (Wu h)
def tX (H:Hp):Prop:=∀b,H b=none∨∃o xs,H b=some (.frz o (.lst xs))
theorem mL {P:Program} {w:World} {K:W.Frag} {mg mb:Str→Option Value} {CX:CXT} {k:Nat} {fa a:Addr} {fd:FuncData} {x:Str} {sp:Sp} {s₁:Shared} {vs:List Value} {ns:List Int}
  (KX:K.In s₁.heap) (hns:s₁.heap.Ns mainGlobals mg) (hb:s₁.heap.Ns builtinsNs mb) (hbb:∀x:Str,x≠"__name__"→mb x=bootBuiltins x) (hlim:s₁.heap.NoLimit) (hg:s₁.gens=#[])
  (ha:s₁.heap.get? a=some {cls:=.type "list",data:=.seq vs.toArray}) (hi:IntsAre vs ns) (hl:ns.length≤sizeLine) (hr:Room k callerA)
  (F:∀base:Heap,K.In base→base.Ns mainGlobals mg→FnOk P w K mg base CX k fa fd [x] sp) (hbind:∀(s:Shared) (u:Value),BindsTo s fd ⟨[u],[]⟩ [(x,u)])
  (hsp:∀H:Hp,tX H→SqL K H a (ns.map V.int)→sp [.ref a] H (fun v _=>v=.bl true) fun _ _ _=>False)
  (hCX:∀H e s',CX [] H s₁ (fun _ _ _=>False) e s'→False):
  codeAny (model P w) callerA (.call (.ref fa) ⟨[.ref a],[]⟩) (fun r s'=>r=.ok (.ret (.bool true))∧OldK s₁.heap s'.heap∧s'.os=s₁.os∧AllBare s'.gens) s₁:=by
 have rv:=Wu hi
 have lenV:=hi.length
 have core:∀H:Hp,tX H→SqL K H a (ns.map V.int)→HOk P w H s₁.heap→(∀b,H b≠none→b=a)→(H a≠none→K.lookup a=none)→
   codeAny (model P w) callerA (.call (.ref fa) ⟨[.ref a],[]⟩) (fun r s'=>r=.ok (.ret (.bool true))∧OldK s₁.heap s'.heap∧s'.os=s₁.os∧AllBare s'.gens) s₁:=by
  intro H hO hS hok hA hK
  have base_of:∀{b:Addr} {o:Obj},s₁.heap.get? b=some o→H b=none→(eM s₁.heap H).get? b=some o:=fun e n=>lJ e n
  have noA:∀{b:Addr} {o:Obj} {es:Array DictEntry} {ep:Nat},s₁.heap.get? b=some o→o.data=.dict es ep→H b=none:=fun {b o es ep} e d=>by
   cases q:H b with
   | none=>rfl
   | some u=>
    have e':b=a:=hA b (by rw [q];simp)
    subst e'
    rw [ha] at e;cases e
    have d':Data.seq vs.toArray _=Data.dict es ep:=d
    cases d'
  have nsK:∀{b:Addr} {m:Str→Option Value},s₁.heap.Ns b m→(eM s₁.heap H).Ns b m:=fun {b m} ⟨o,es,ep,e,d,r⟩=>⟨o,es,ep,base_of e (noA e d),d,r⟩
  have hKb:K.In (eM s₁.heap H):=fun b o e=>base_of (KX b o e) (by
   cases q:H b with
   | none=>rfl
   | some u=>
    have e':b=a:=hA b (by rw [q];simp)
    subst e'
    rw [hK (by rw [q];simp)] at e;cases e)
  have hM:Mod K mg (eM s₁.heap H):=⟨hKb,nsK hns,⟨mb,nsK hb,hbb⟩,let ⟨mc,h1,h2⟩:=hlim;⟨mc,nsK h1,h2⟩⟩
  have e0:Env0 P w K mg (eM s₁.heap H) callerA [] s₁ H:=⟨rfl,hM,fun b o e=>qG e,Nat.le_of_eq (kj _ _),trivial,fun b hb=>absurd (show b∈([]:List Addr) from hb) (by simp),hok,.of_eq hg⟩
  refine codeAny_mono ((F _ hKb (nsK hns)).run callerA [] s₁ H ⟨[.ref a],[]⟩ [.ref a] [.ref a] _ _ hr e0 (hbind s₁ (.ref a)) (.cons rfl .nil) (hsp H hO hS)) fun r s' h=>?_
  cases r with
  | error e=>exact (hCX H e s' h).elim
  | ok fl=>
   cases fl with
   | next=>exact False.elim h
   | brk=>exact False.elim h
   | cont=>exact False.elim h
   | ret u=>
    obtain ⟨v,H',os,bare,un,hok',r',q⟩:=h
    have q':v=.bl true:=q
    subst q'
    obtain rfl:u=Value.bool true:=r'
    refine ⟨rfl,OldK.of_keep fun b o e=>?_,os,bare⟩
    cases q:H b with
    | none=>exact un.keep b o e q (by intro z;exact absurd (show b∈([]:List Addr) from z) (by simp)) (by simp)
    | some u=>
     rcases hO b with z | ⟨ob,xs,z⟩
     ·rw [q] at z;cases z
     ·have z2:=un.frzs b ob _ z
      obtain ⟨e1,_⟩:=hok b _ z
      obtain ⟨e2,_⟩:=hok' b _ z2
      rw [e] at e1;cases e1
      exact e2
 cases hk:K.lookup a with
 | some o=>
  have e:=KX a o hk
  rw [ha] at e
  cases e
  refine core (fun _=>none) (fun _=>.inl rfl) (.inr ⟨_,vs.toArray,_,hk,rfl,rfl,rfl,by rw [List.size_toArray,lenV];exact hl,by simpa using rv⟩) (fun b u z=>by have z':(none:Option HO)=some u:=z;cases z') (fun b z=>absurd rfl z) fun z=>absurd rfl z
 | none=>
  refine core (fun b=>if b=a then some (.frz {cls:=.type "list",data:=.seq vs.toArray} (.lst (ns.map V.int))) else none) (fun b=>?_) (.inl (.inr ⟨{cls:=.type "list",data:=.seq vs.toArray},if_pos rfl⟩)) (fun b u z=>?_) (fun b z=>?_) fun _=>hk
  ·by_cases hb:b=a
   ·exact .inr ⟨_,_,if_pos hb⟩
   ·exact .inl (if_neg hb)
  ·by_cases hb:b=a
   ·have z':=(if_pos hb).symm.trans z
    cases z'
    subst hb
    exact ⟨ha,by rw [List.length_map];exact hl,vs,_,rv,ha⟩
   ·have z':=(if_neg hb).symm.trans z
    cases z'
  ·by_cases hb:b=a
   ·exact hb
   ·exact absurd (if_neg hb) z
theorem walk_of {l:W.OpenLaw} {n k:Nat} {q:Program} {loose:List Str} {XP:(Str→Option Value)→Heap→Prop} {YP:World→Heap→Prop} {d:DefRec} {K:Params→W.Frag} {CX:World→CXT} {sp:World→Sp} {x:Str}
  (hn:l.most=some n) (hn2:n≤sizeLine) (hdf:d.params.defaults=[]) (hr:Room k callerA)
  (hY:∀(w:World) (h:Heap),YP w h→(K w.params).In h)
  (F:∀(w:World) (mg:Str→Option Value) (fa:Addr) (h:Heap),(K w.params).In h→h.Ns mainGlobals mg→mg d.name=some (.ref fa)→
   ∃fd:FuncData,(∀(s:Shared) (u:Value),BindsTo s fd ⟨[u],[]⟩ [(x,u)])∧
    ∀base:Heap,(K w.params).In base→base.Ns mainGlobals mg→FnOk l.prog w (K w.params) mg base (CX w) k fa fd [x] (sp w))
  (hsp:∀(w:World) (H:Hp) (a:Addr) (ns:List Int),ns.length≤n→tX H→SqL (K w.params) H a (ns.map V.int)→sp w [.ref a] H (fun v _=>v=.bl true) fun _ _ _=>False)
  (hCX:∀(w:World) (H:Hp) (s:Shared) (e:Value) (s':Shared),CX w [] H s (fun _ _ _=>False) e s'→False):
  W.WalkO q loose XP YP l.row.toRowW d [] (fun f vs=>PySem.call f vs):=by
 refine Att.attach_call hn hdf fun w s₀ s₁ mg mb fa o pm cd doc a vs ns G Y ho hd hcd hmg hobj hints hlen hg=>?_
 have KX:=hY w _ Y
 obtain ⟨fd,hb,hF⟩:=F w mg fa _ KX G.T.g hmg
 exact mL KX G.T.g G.T.b G.T.builtins G.T.nolimit hg hobj hints (Nat.le_trans hlen hn2) hr hF hb (fun H hO hS=>hsp w H a ns hlen hO hS) fun H e s'=>hCX w H s₁ e s'
def ao (s:Stmt):Arguments:=match s with
 | .FunctionDef _ a _ _ _ _ _ _ _ _=>a
 | _=>{posonlyargs:=[],args:=[],vararg:=none,kwonlyargs:=[],kw_defaults:=[],kwarg:=none,defaults:=[]}
def aj (s:Stmt):List Stmt:=match s with
 | .FunctionDef _ _ b _ _ _ _ _ _ _=>b
 | _=>[]
def aa (s:Stmt):Scope:=match s with
 | .FunctionDef _ _ _ _ _ _ sc _ _ _=>sc
 | _=>{kind:=.function,names:=[],isGenerator:=false,isCoroutine:=false}
abbrev CX0:CXT:=fun _ _ _ _ _ _=>False
abbrev E0:XK:=fun _ _ _=>False
theorem uk {X:Cx}:gE CX0 X E0:=fun _ _ _ _ _ _ _ h=>h.elim
structure Fun (K:W.Frag) (x qual:Str) (st:Stmt) (f:Addr) (fd:FuncData):Prop where
 ex:∃(oc:Value) (od:Option Addr) (kV doc pm:Value) (an:Option Addr) (cdv ct:Value) (osl:Array (Option Value)),
  fd=W.fnOf x qual (ao st) (aj st) (aa st) .none kV doc pm an cdv ct∧K.lookup f=some ⟨oc,od,.func fd,osl⟩∧W.codeIn K cdv qual=true
 kp:W.keepIn K (.ref f)=true
section
variable {P:Program} {w:World} {K:W.Frag} {mg:Str→Option Value} {base:Heap}
theorem Fun.ok {x qual:Str} {st:Stmt} {f:Addr} {fd:FuncData} {N ps:List Str} {k:Nat} {sp:Sp} (F:Fun K x qual st f fd) (S:FnScope N ps (aa st)) (len:∀vs H Q E,sp vs H Q E→vs.length=ps.length)
  (hbody:∀(cdv:Value) (A:Around) (outer:List Env) (s:Shared) (H:Hp) (vs:List V) (Q:VK) (E:XK),Room k (A.deeper (envOfC qual (aa st) s.heap.objs.size f cdv))→sp vs H Q E→
   ∃t,PSs (kL CX0 P w K mg base N qual (aa st) f cdv A outer s H E).nox (aj st) t∧t {nx:=fun _ H'=>Q .non H',rt:=Q} (c_ N vs) H):FnOk P w K mg base CX0 (k+1) f fd ps sp:=by
 obtain ⟨oc,od,kV,doc,pm,an,cdv,ct,osl,rfl,lk,hcd⟩:=F.ex
 refine uZ lk hcd S len fun A outer s H vs Q E hr hsp=>?_
 obtain ⟨t,h,q⟩:=hbody cdv A outer s H vs Q E hr hsp
 exact ⟨t,h.nox,q⟩
theorem Fun.binds {x qual:Str} {st:Stmt} {f:Addr} {fd:FuncData} {ps:List Str} (F:Fun K x qual st f fd)
  (h:∀(kV doc pm:Value) (an:Option Addr) (cdv ct:Value) (us:List Value),us.length=ps.length→bindArgs (W.fnOf x qual (ao st) (aj st) (aa st) .none kV doc pm an cdv ct) ⟨us,[]⟩=pure (ps.zip us)):Binds K fd ps []:=by
 obtain ⟨oc,od,kV,doc,pm,an,cdv,ct,osl,rfl,lk,hcd⟩:=F.ex
 exact .all (h kV doc pm an cdv ct)
theorem Y3 {x qual:Str} {st:Stmt} {f:Addr} {oc:Value} {od an:Option Addr} {osl:Array (Option Value)} {kV doc pm cdv ct:Value} (l:K.lookup f=some ⟨oc,od,.func (W.fnOf x qual (ao st) (aj st) (aa st) .none kV doc pm an cdv ct),osl⟩)
  (c:W.codeIn K cdv qual=true) (k:W.keepIn K (.ref f)=true):Fun K x qual st f (W.fnOf x qual (ao st) (aj st) (aa st) .none kV doc pm an cdv ct):=⟨⟨oc,od,kV,doc,pm,an,cdv,ct,osl,rfl,l,c⟩,k⟩
end
theorem Wz {A:Around} {k:Nat} (hr:Room k A):A.units+1<cLine:=Nat.lt_of_le_of_lt (Nat.add_le_add_left (by decide:1≤64) _) hr.units
section
variable {X:Cx}
theorem pv (i:Nat) {x:Str} {pos:Pos} (hN:X.N[i]?=some x:=by rfl) (hv:Vis X.env.scope x:=by first | exact Or.inl rfl | exact Or.inr (Or.inl rfl) | exact Or.inr (Or.inr rfl)) (hd:(x == ("__debug__":Str))=false:=by decide)
  (hcd:(x == ("__classdict__":Str))=false:=by decide):PE X (.Name x pos) (uH i):=mK hN hv hd hcd
end
theorem X8 {A B:Prop} (h:B):if false=true then A else B:=by
 rw [if_neg Bool.false_ne_true]
 exact h
theorem Yw {A B:Prop} (h:A):if true=true then A else B:=by
 rw [if_pos rfl]
 exact h
theorem Yu {c A B:Prop} [Decidable c] (h1:c→A) (h2:¬c→B):if c then A else B:=by
 by_cases h:c
 ·rw [if_pos h]
  exact h1 h
 ·rw [if_neg h]
  exact h2 h
def Same (H H':Hp):Prop:=∀b o,H b=some o→H' b=some o
theorem Same.refl (H:Hp):Same H H:=fun _ _ h=>h
theorem Same.trans {H H1 H2:Hp} (a:Same H H1) (b:Same H1 H2):Same H H2:=fun c o h=>b c o (a c o h)
theorem Same.free {H H':Hp} (e:Same H H') {l:Addr} (h:H' l=Option.none):H l=Option.none:=by
 cases q:H l with
 | none=>rfl
 | some o=>
  rw [e l o q] at h
  cases h
end L2
set_option maxHeartbeats 4000000
set_option bootstrap.genMatcherCode false
set_option genInjectivity false
set_option genSizeOf false
noncomputable section
namespace L2
open PySem PySem.Spec PyProof.Rows
theorem Ry {α β:Type} {f:α→β→Sem (ForInStep β)} {g:β→α→β}:∀(l:List α) (c:β),(∀x∈l,∀c,f x c=pure (.yield (g c x)))→forIn l c f=pure (l.foldl g c)
 | [],_,_=>rfl
 | x::l,c,h=>by
  rw [List.forIn_cons,h x List.mem_cons_self,pure_bind]
  exact Ry l (g c x) fun y hy=>h y (List.mem_cons_of_mem _ hy)
def bf (env:Env) (acc:List (Str×Addr)) (x:Str×NameKind):List (Str×Addr):=if x.2 == .free then (x.1,(env.cells.lookup x.1).getD 0)::acc else acc
def bQ (env:Env) (names:List (Str×NameKind)):List (Str×Addr):=names.foldl (bf env) []
theorem Qm {scope:Scope} {env:Env} (h:∀x∈scope.names,x.2=.free→∃c,env.cells.lookup x.1=some c):closureFor scope env=pure (bQ env scope.names):=by
 simp only [closureFor]
 rw [Ry (g:=bf env) scope.names [] (fun x hx c=>by
  obtain ⟨n,kind⟩:=x
  by_cases hk:kind=.free
  ·subst hk
   obtain ⟨a,ha⟩:=h _ hx rfl
   have ha':env.cells.lookup n=some a:=ha
   simp [bf,cellOf,ha']
  ·have hb:(kind == NameKind.free)=false:=by simpa using hk
   simp [bf,hb])]
 rfl
theorem Po {env:Env}:∀(names:List (Str×NameKind)) (acc:List (Str×Addr)),(∀x∈names,x.2=.free→∃c,env.cells.lookup x.1=some c)→(∀p∈acc,env.cells.lookup p.1=some p.2)→
  ∀p∈names.foldl (bf env) acc,env.cells.lookup p.1=some p.2
 | [],_,_,h=>h
 | x::r,acc,hn,h=>by
  refine Po r _ (fun y hy=>hn y (List.mem_cons_of_mem _ hy)) ?_
  intro p hp
  unfold bf at hp
  split at hp
  ·rename_i hk
   rcases List.mem_cons.mp hp with e | e
   ·subst e
    obtain ⟨c,hc⟩:=hn x List.mem_cons_self (by simpa using hk)
    show env.cells.lookup x.1=some ((env.cells.lookup x.1).getD 0)
    rw [hc]
    rfl
   ·exact h p e
  ·exact h p hp
theorem Pn {env:Env}:∀(names:List (Str×NameKind)) (acc:List (Str×Addr)) (p:Str×Addr),p∈acc→p∈names.foldl (bf env) acc
 | [],_,_,h=>h
 | x::r,acc,p,h=>by
  refine Pn r _ p ?_
  unfold bf
  split
  ·exact List.mem_cons_of_mem _ h
  ·exact h
theorem Pp {env:Env}:∀(names:List (Str×NameKind)) (acc:List (Str×Addr)) (x:Str),(x,NameKind.free)∈names→∃c,(x,c)∈names.foldl (bf env) acc
 | y::r,acc,x,h=>by
  rcases List.mem_cons.mp h with e | e
  ·subst e
   exact ⟨_,Pn r _ _ (by unfold bf;rw [if_pos (by rfl)];exact List.mem_cons_self)⟩
  ·exact Pp r _ x e
theorem U4 {α:Type}:∀{l:List (Str×α)} {x:Str} {c:α},(x,c)∈l→∃d,l.lookup x=some d
 | (y,d)::r,x,c,h=>by
  rw [List.lookup_cons]
  cases e:x == y with
  | true=>exact ⟨d,rfl⟩
  | false=>
   rcases List.mem_cons.mp h with q | q
   ·cases q
    rw [beq_self_eq_true] at e
    cases e
   ·exact U4 q
theorem Wo (env:Env):∀(names:List (Str×NameKind)) (x:Str),(names.map fun (n,k)=>if (k == NameKind.free && env.scope.kind == .function && env.kindOf n == some .cell) then (n,NameKind.cell) else (n,k)).lookup x =
  (names.lookup x).map fun k=>if (k == NameKind.free && env.scope.kind == .function && env.kindOf x == some .cell) then NameKind.cell else k
 | [],_=>rfl
 | (n,k)::r,x=>by
  have ih:=Wo env r x
  show List.lookup x ((if (k == NameKind.free && env.scope.kind == .function && env.kindOf n == some .cell)=true then (n,NameKind.cell) else (n,k))::_)=_
  have hr:((n,k)::r).lookup x=(match x == n with | true=>some k | false=>r.lookup x):=List.lookup_cons ..
  rw [hr]
  by_cases hc:(k == NameKind.free && env.scope.kind == .function && env.kindOf n == some .cell)=true
  ·rw [if_pos hc,List.lookup_cons]
   cases hx:x == n with
   | true=>
    have e:x=n:=eq_of_beq hx
    subst e
    show some NameKind.cell=some (if (k == NameKind.free && env.scope.kind == .function && env.kindOf x == some .cell)=true then NameKind.cell else k)
    rw [if_pos hc]
   | false=>exact ih
  ·rw [if_neg hc,List.lookup_cons]
   cases hx:x == n with
   | true=>
    have e:x=n:=eq_of_beq hx
    subst e
    show some k=some (if (k == NameKind.free && env.scope.kind == .function && env.kindOf x == some .cell)=true then NameKind.cell else k)
    rw [if_neg hc]
   | false=>exact ih
def cxC (X:Cx) (own:List Str) (scope:Scope) (cl:List (Str×Addr)) (C:Addr) (s:Shared) (H:Hp) (fp:List Addr):Cx:=
 {X with N:=own++X.N,s₀:=s,H₀:=H,env:=compEnvC scope cl C X.env,outer:=X.stack,stack:=X.stack,ex:=fp,fn:=fun _=>false,xe:=fun _ _=>False}
def PTs (X:Cx) (ifs:List Expr) (t:TT):Prop:=
 ∀(pins:List (Addr×Obj)) (s:Shared) (σ:St) (H:Hp) (Q:Bool→Hp→Prop),Inv X pins σ H s→t σ H Q→
  wpAny (model X.prog X.w) X.A (forIn ifs true fun c r=>if r=true then do let ok ←isTrue c X.env (eval c X.env);pure (ForInStep.yield ok) else pure (ForInStep.yield r)) (TP X pins σ Q) X.xe s
def tAll:TT:=fun _ H Q=>Q true H
theorem Ys {X:Cx}:PTs X [] tAll:=fun _ _ _ H _ I h=>wpAny_tests_nil ⟨H,I,h⟩
theorem Vu {X:Cx} {c:Expr} {t:TT} (h:PT X c t):PTs X [c] t:=fun pins s σ H Q I q=>wpAny_tests_one (h pins s σ H Q I q)
def Wk:St→St→Prop
 | [],[]=>True
 | _::r,none::t=>Wk r t
 | a::r,some v::t=>a=some v∧Wk r t
 | _,_=>False
theorem Wk.len:∀{a b:St},Wk a b→b.length=a.length
 | [],[],_=>rfl
 | _::r,none::t,h=>congrArg (·+1) (Wk.len (a:=r) (b:=t) h)
 | _::r,some _::t,h=>congrArg (·+1) (Wk.len (a:=r) (b:=t) h.2)
 | [],none::_,h=>h.elim
 | [],some _::_,h=>h.elim
 | _::_,[],h=>h.elim
theorem Wk.get:∀{a b:St} (i:Nat) (v:V),Wk a b→b[i]?=some (some v)→a[i]?=some (some v)
 | _::_,none::_,0,v,_,e=>by simp at e
 | _::_,some _::_,0,v,h,e=>by simp at e ⊢;rw [h.1,e]
 | _::r,none::t,i+1,v,h,e=>by simp at e ⊢;exact Wk.get (a:=r) (b:=t) i v h e
 | _::r,some _::t,i+1,v,h,e=>by simp at e ⊢;exact Wk.get (a:=r) (b:=t) i v h.2 e
 | [],[],i,v,h,e=>by simp at e
 | [],none::_,_,_,h,_=>h.elim
 | [],some _::_,_,_,h,_=>h.elim
 | _::_,[],_,_,h,_=>h.elim
theorem Wk.refl:∀(a:St),Wk a a
 | []=>trivial
 | none::r=>Wk.refl r
 | some _::r=>⟨rfl,Wk.refl r⟩
def CompR (J:It) (H:Hp) (k:Nat) (g:TG) (tt:TT) (te:TE) (σ:St) (Q:VK):Prop:=∃W:Nat→Nat→List V→Hp→Prop,(∃m,W 0 m [] H)∧∀i m ys H,W i m ys H→
 (J.stop i H∧ys.length≤sizeLine∧∀p,H p=none→Q (.ref p) (upd H p (.lst ys)))∨
 (J.go i H∧ys.length<sizeLine∧∀x H',J.yld i H x H'→g x (List.replicate k none++σ) H' fun σ2 H2=>Wk σ2 (List.replicate k none++σ)∧tt σ2 H2 fun ok H3=>
  if ok=true then te σ2 H3 fun y H4=>∃m',m'<m∧W (i+1) m' (ys++[y]) H4 else ∃m',m'<m∧W (i+1) m' ys H3)
def nU (wi:TI) (g:TG) (tt:TT) (te:TE) (k:Nat):TE:=fun σ H Q=>wi σ H fun J H1=>CompR J H1 k g tt te σ Q
theorem gy {prog:Program} {w:World} {A:Around} {R:Result→Shared→Prop} {s:Shared} {elt target iter:Expr} {ifs:List Expr} {scope:Scope} {pos:Pos} {it acc:Value} {env:Env} (I:Nat→Shared→Prop)
  (turn:∀n s,I n s→wpAny (model prog w) A (pyNext it) (fun r s₁=>match r with
   | none=>R (.ok .next) s₁
   | some v=>wpAny (model prog w) A (letOwnedTupleGo target it v) (fun _ s₁'=>wpAny (model prog w) A (assign target env v) (fun _ s₂=>
     wpAny (model prog w) A (forIn ifs true fun c r=>if r=true then do let ok ←isTrue c env (eval c env);pure (ForInStep.yield ok) else pure (ForInStep.yield r)) (fun ok s₃=>
      if ok=true then wpAny (model prog w) A (eval elt env) (fun x s₄=>
       wpAny (model prog w) A (call (.builtin "list.append") [acc,x]) (fun _ s₅=>∃m,m<n∧I m s₅) (fun _ _=>False) s₄) (fun _ _=>False) s₃
      else ∃m,m<n∧I m s₃) (fun _ _=>False) s₂) (fun _ _=>False) s₁') (fun _ _=>False) s₁) (fun _ _=>False) s)
  (n:Nat) (h:I n s):
  codeAny (model prog w) A (.compLoop (.ListComp elt [⟨target,iter,ifs,0⟩] scope pos) 0 it acc env) R s:=by
 refine codeAny_loop rfl I (fun n s hI=>?_) n h
 show wpAny _ A ((compTurn (.ListComp elt [⟨target,iter,ifs,0⟩] scope pos) 0 it acc env).onRaise (fun x=>do noteFrame x env;theTreesLotGoes x)) _ _ s
 refine wpAny_noted ?_
 rw [compTurn_list]
 refine wpAny_bind (wpAny_standAt (wpAny_bind (wpAny_mono (turn n s hI) (fun r s₁ h₁=>?_) fun _ _ h'=>h'.elim)))
 cases r with
 | none=>exact wpAny_pure h₁
 | some v=>
  refine wpAny_bind (wpAny_mono h₁ (fun _ s₁' h₁'=>?_) fun _ _ h'=>h'.elim)
  refine wpAny_bind (wpAny_mono h₁' (fun _ s₂ h₂=>wpAny_bind (wpAny_mono h₂ (fun ok s₃ h₃=>?_) fun _ _ h'=>h'.elim)) fun _ _ h'=>h'.elim)
  cases ok with
  | false=>exact wpAny_pure ⟨rfl,h₃⟩
  | true=>
   exact wpAny_bind (wpAny_bind (wpAny_mono h₃ (fun x s₄ h₄=>wpAny_bind (wpAny_mono h₄ (fun _ s₅ h₅=>wpAny_pure (wpAny_pure ⟨rfl,h₅⟩)) fun _ _ h'=>h'.elim)) fun _ _ h'=>h'.elim))
abbrev lo (its:List Value) (n:Nat):Obj:={cls:=.type "list",data:=.seq its.toArray n}
structure CompOk (X:Cx) (own:List Str) (scope:Scope):Prop where
 calm:X.calm=true
 cell:∀y∈scope.names,y.2≠.cell
 kind:scope.kind=.function
 names:∀y∈scope.names,y.2=.local→scope.names.lookup y.1=some .local
 fr:∀y∈scope.names,y.2=.free→X.env.scope.names.lookup y.1=some .cell∨X.env.scope.names.lookup y.1=some .free
 loc:∀y∈X.N,scope.names.lookup y≠some .local
def mj (names:List (Str×NameKind)):Bool:=names.all fun y=>(y.2 != .cell) && (y.2 != .local || names.lookup y.1 == some .local)
def ox (outer names:List (Str×NameKind)):Bool:=names.all fun y=>y.2 != .free || outer.lookup y.1 == some .cell || outer.lookup y.1 == some .free
def oj (N:List Str) (names:List (Str×NameKind)):Bool:=N.all fun y=>names.lookup y != some .local
theorem CompOk.of {X:Cx} {own:List Str} {scope:Scope} (hc:X.calm=true) (hk:scope.kind=.function) (h1:mj scope.names=true) (h2:ox X.env.scope.names scope.names=true) (h3:oj X.N scope.names=true):CompOk X own scope:=by
 unfold mj at h1
 unfold ox at h2
 unfold oj at h3
 rw [List.all_eq_true] at h1 h2 h3
 refine ⟨hc,fun y hy=>?_,hk,fun y hy hl=>?_,fun y hy hf=>?_,fun y hy=>?_⟩
 ·have:=h1 y hy
  rw [Bool.and_eq_true] at this
  exact bne_iff_ne.mp this.1
 ·have:=h1 y hy
  rw [Bool.and_eq_true,hl] at this
  simpa using this.2
 ·have:=h2 y hy
  rw [hf] at this
  simpa using this
 ·exact bne_iff_ne.mp (h3 y hy)
section
variable {X:Cx} {own:List Str} {scope:Scope} {pins:List (Addr×Obj)} {σ:St} {H:Hp} {s:Shared} {fp:List Addr}
theorem CompOk.cells (O:CompOk X own scope) (ok:X.Ok):∀x∈scope.names,x.2=.free→∃c,X.env.cells.lookup x.1=some c:=fun x hx hk=>ok.has x.1 (O.fr x hx hk)
theorem CompOk.sub (O:CompOk X own scope) (ok:X.Ok):∀x c,(bQ X.env scope.names).lookup x=some c→X.env.cells.lookup x=some c:=fun x c e=>
 Po scope.names [] (O.cells ok) (fun _ h=>nomatch h) (x,c) (PySem.mem_of_lookup e)
theorem CompOk.free_of (O:CompOk X own scope) {cl:List (Str×Addr)} {C:Addr} {x:Str} (h:(compEnvC scope cl C X.env).kindOf x=some .cell∨(compEnvC scope cl C X.env).kindOf x=some .free):scope.names.lookup x=some .free:=by
 have e:(compEnvC scope cl C X.env).kindOf x=(scope.names.lookup x).map fun k=>if (k == NameKind.free && X.env.scope.kind == .function && X.env.kindOf x == some .cell) then NameKind.cell else k:=Wo X.env scope.names x
 rw [e] at h
 cases q:scope.names.lookup x with
 | none=>rw [q] at h;simp at h
 | some k=>
  rw [q] at h
  by_cases hk:k=.free
  ·rw [hk]
  ·have hc:k≠.cell:=O.cell (x,k) (PySem.mem_of_lookup q)
   have hb:(k == NameKind.free)=false:=by simpa using hk
   have hr:¬((k == NameKind.free && X.env.scope.kind == .function && X.env.kindOf x == some .cell)=true):=by rw [hb];exact Bool.false_ne_true
   have h:some (if (k == NameKind.free && X.env.scope.kind == .function && X.env.kindOf x == some .cell)=true then NameKind.cell else k)=some NameKind.cell∨some (if (k == NameKind.free && X.env.scope.kind == .function && X.env.kindOf x == some .cell)=true then NameKind.cell else k)=some NameKind.free:=h
   rw [if_neg hr] at h
   rcases h with h | h
   ·exact absurd (Option.some.inj h) hc
   ·exact absurd (Option.some.inj h) hk
theorem CompOk.look (O:CompOk X own scope) (ok:X.Ok) {x:Str} (h:scope.names.lookup x=some .free):∃c,(bQ X.env scope.names).lookup x=some c∧X.env.cells.lookup x=some c:=by
 obtain ⟨c,hc⟩:=Pp scope.names [] (env:=X.env) x (PySem.mem_of_lookup h)
 obtain ⟨d,hd⟩:=U4 hc
 exact ⟨d,hd,O.sub ok x d hd⟩
theorem iP (I:Inv X pins σ H s) {b:Addr} (h1:b≠X.env.locals) (h2:b∉X.fs):b∉frs X.stack:=fun z=>(List.mem_cons.mp (I.stkSub b z)).elim h1 h2
theorem lX (O:CompOk X own scope) (I:Inv X pins σ H s) (hf:∀b∈fp,dH X pins H b) (ho:∀b∈fp,∃o,s.heap.get? b=some o) {h₁:Heap} {C:Addr} {tk:Nat} {m:Str→Option Value}
  (hC:s.heap.objs.size<C) (hD:h₁.get? s.heap.objs.size=some (lo [] 0)) (old:∀b o,s.heap.get? b=some o→h₁.get? b=some o) (hns:h₁.Ns C m):
  Inv (cxC X own scope (bQ X.env scope.names) C s H fp) (pins++[(s.heap.objs.size,lo [] 0)]) (List.replicate own.length none++σ) H {s with heap:=h₁,toks:=tk}:=by
 have ltD:∀{b:Addr} {o:Obj},s.heap.get? b=some o→b<s.heap.objs.size:=fun e=>Heap.lt_size e
 have nC:∀{b:Addr} {o:Obj},s.heap.get? b=some o→b≠C:=fun e=>Nat.ne_of_lt (Nat.lt_trans (ltD e) hC)
 have hsub:=O.sub I.ok
 refine ⟨⟨I.ok.mod,by show (relabel scope X.env).kind=_;exact O.kind,I.ok.glob,I.ok.blt,Nat.le_of_lt hC,fun x y c h1 h2=>I.ok.inj x y c (hsub x c h1) (hsub y c h2),fun x hx=>?_,fun x c hx _=>absurd (show false=true from hx) Bool.false_ne_true,I.ok.hd,I.ok.frames,.inl rfl,fun b hb=>⟨?_,fun x c e=>?_⟩,I.bs,Nat.le_trans I.ok.bsz I.sz,fun b o e hb=>?_,fun b hb=>iP I (hf b hb).2.1 (hf b hb).2.2.1,I.stack,I.stkFree⟩,
  rfl,I.bare,Un.kept old,⟨m,hns,fun i x v e1 e2 e3=>?_⟩,fun x c e=>?_,I.hok.fresh (Nat.le_of_lt hC),fun x c e=>I.freeC x c (hsub x c e),fun p hp=>?_,I.hok.kept old,?_⟩
 ·obtain ⟨c,hc,_⟩:=O.look I.ok (O.free_of hx)
  exact ⟨c,hc⟩
 ·obtain ⟨o,e⟩:=ho b hb
  exact nC e
 ·exact (hf b hb).2.2.2.2.1 x c (hsub x c e)
 ·rcases (hf b hb).2.2.2.1 with z | z
  ·exact I.ok.noex b o e z
  ·exact absurd (Nat.lt_of_lt_of_le (Heap.lt_size e) (Nat.le_trans I.ok.bsz z)) (Nat.lt_irrefl _)
 ·have e1:(own++X.N)[i]?=some x:=e1
  by_cases hi:i<own.length
  ·rw [List.getElem?_append_left (by simpa using hi),List.getElem?_replicate,if_pos hi] at e2
   cases e2
  ·rw [List.getElem?_append_right (by simpa using hi),List.length_replicate] at e2
   rw [List.getElem?_append_right (by simpa using hi)] at e1
   have nl:(compEnvC scope (bQ X.env scope.names) C X.env).kindOf x≠some .local:=by
    have e:(compEnvC scope (bQ X.env scope.names) C X.env).kindOf x=(scope.names.lookup x).map fun k=>if (k == NameKind.free && X.env.scope.kind == .function && X.env.kindOf x == some .cell) then NameKind.cell else k:=Wo X.env scope.names x
    rw [e]
    intro z
    cases q:scope.names.lookup x with
    | none=>rw [q] at z;simp at z
    | some k=>
     rw [q] at z
     by_cases hk:k=.local
     ·exact O.loc x (List.mem_of_getElem? e1) (by rw [q,hk])
     ·have z:some (if (k == NameKind.free && X.env.scope.kind == .function && X.env.kindOf x == some .cell)=true then NameKind.cell else k)=some NameKind.local:=z
      by_cases hc:(k == NameKind.free && X.env.scope.kind == .function && X.env.kindOf x == some .cell)=true
      ·rw [if_pos hc] at z
       cases z
      ·rw [if_neg hc] at z
       exact hk (Option.some.inj z)
   have hv:(compEnvC scope (bQ X.env scope.names) C X.env).kindOf x=some .cell∨(compEnvC scope (bQ X.env scope.names) C X.env).kindOf x=some .free:=by
    rcases e3 with z | z | z
    ·exact absurd z nl
    ·exact .inl z
    ·exact .inr z
   have hfree:=O.free_of hv
   have hout:=O.fr (x,.free) (PySem.mem_of_lookup hfree) rfl
   obtain ⟨m0,hn0,hl0⟩:=I.loc
   obtain ⟨u,r,l⟩:=hl0 _ x v e1 e2 (hout.elim (fun z=>.inr (.inl z)) fun z=>.inr (.inr z))
   refine ⟨u,r,.inr ⟨hv,?_⟩⟩
   rcases l with ⟨k,_⟩ | ⟨_,c,ec,z⟩
   ·have k':X.env.scope.names.lookup x=some .local:=k
    rcases hout with q | q
    ·rw [q] at k';cases k'
    ·rw [q] at k';cases k'
   ·obtain ⟨d,hd1,hd2⟩:=O.look I.ok hfree
    rw [ec] at hd2
    cases hd2
    obtain ⟨oc,hoc,hdc⟩:=z
    exact ⟨c,hd1,oc,old _ _ hoc,hdc⟩
 ·obtain ⟨v,o,hoc,hdc⟩:=I.cell x c (hsub x c e)
  exact ⟨v,o,old _ _ hoc,hdc⟩
 ·have hp:p∈X.pn++(pins++[(s.heap.objs.size,lo [] 0)]):=hp
  rw [←List.append_assoc] at hp
  rcases List.mem_append.mp hp with hp | hp
  ·obtain ⟨e,n,ne,nf,d⟩:=I.pin p hp
   exact ⟨old _ _ e,n,nC e,iP I ne nf,d⟩
  ·cases List.mem_singleton.mp hp
   refine ⟨hD,I.hok.fresh (Nat.le_refl _),Nat.ne_of_lt hC,fun z=>?_,fun v z=>by cases z⟩
   have z:=I.stkSub _ z
   rcases List.mem_cons.mp z with z | z
   ·exact absurd z (Nat.ne_of_gt I.lt)
   ·exact I.nofs (Nat.le_refl _) z
 ·show (List.replicate own.length none++σ).length=(own++X.N).length
  rw [List.length_append,List.length_append,List.length_replicate,I.len]
theorem Pl {cl:List (Str×Addr)} {C:Addr} {its:List Value} {n:Nat} {σ':St} {H':Hp} {s':Shared} {ys:List V} {h':Heap} (I:Inv X pins σ H s) (hf:∀b∈fp,dH X pins H b) (hC:s.heap.objs.size<C)
  (I':Inv (cxC X own scope cl C s H fp) (pins++[(s.heap.objs.size,lo its n)]) σ' H' s') (hv:Vals ys its) (hz:ys.length≤sizeLine) (hs:Heap.SameBut C s'.heap h'):
  Inv X pins σ (upd H' s.heap.objs.size (.lst ys)) {s' with heap:=h'}:=by
 obtain ⟨eD,nD,neD,_,_⟩:=I'.pin (s.heap.objs.size,lo its n) (List.mem_append_right _ (List.mem_append_right _ List.mem_cons_self))
 have nC:∀{b:Addr} {o:Obj},s.heap.get? b=some o→b≠C:=fun e=>Nat.ne_of_lt (Nat.lt_trans (Heap.lt_size e) hC)
 have nDD:∀{b:Addr} {o:Obj},s.heap.get? b=some o→b≠s.heap.objs.size:=fun e=>Nat.ne_of_lt (Heap.lt_size e)
 have same:∀{b:Addr} {o:Obj},b≠C→s'.heap.get? b=some o→h'.get? b=some o:=fun hb e=>(hs.2 _ hb).trans e
 have fC:H' C=none:=I'.free
 have hb:Un (frs X.stack) fp H H' s.heap s'.heap:=I'.base
 have hot:∀{b:Addr} {u:HO},H b=some u→b≠s.heap.objs.size:=fun e=>Nat.ne_of_lt (I.hok.lt e)
 refine I.call' (s':={s' with heap:=h'}) (ch:=fp) I'.os ⟨fun b o e q n1 n2=>same (nC e) (hb.keep b o e q n1 n2),fun b o e q n1 n2=>?_,fun b o e q n2=>?_,fun b o e n2=>?_,fun b xs e=>?_,fun b o u e=>?_,fun b ps e=>?_⟩ ?_ I'.bare fun b hb'=>?_
 ·obtain ⟨sl,q2⟩:=hb.slot b o e q n1 n2
  exact ⟨sl,same (nC e) q2⟩
 ·rw [Zl (nDD e)]
  exact hb.free b o e q n2
 ·obtain ⟨o',q2⟩:=hb.there b o e n2
  exact ⟨o',same (nC e) q2⟩
 ·rw [Zl (hot e)]
  exact hb.tups b xs e
 ·rw [Zl (hot e)]
  exact hb.frzs b o u e
 ·obtain ⟨more,q2⟩:=hb.tbls b ps e
  exact ⟨more,by rw [Zl (hot e)];exact q2⟩
 ·intro b u e
  by_cases hbD:b=s.heap.objs.size
  ·subst hbD
   rw [Ze] at e
   cases e
   exact ⟨hz,its,n,hv,same neD eD⟩
  ·rw [Zl hbD] at e
   have nD':∀{c:Addr} {w:HO},H' c=some w→c≠s.heap.objs.size:=fun q z=>by
    rw [z] at q
    have z2:H' s.heap.objs.size=none:=nD
    rw [z2] at q
    cases q
   refine (I'.hok b u e).stay (fun c v hc q=>same ?_ q) (fun c q=>by rw [Zl (nD' q)];exact q) fun c xs q=>by rw [Zl (nD' q)];exact q
   rintro rfl
   rcases hc with z | z
   ·rw [←z,fC] at e;cases e
   ·rw [fC] at z;cases z
 ·obtain ⟨_,f1,_,f3,f4,f5⟩:=hf b hb'
  exact ⟨f3,f1,f4,f5⟩
theorem iU {prog:Program} {w:World} {A:Around} {E:Value→Shared→Prop} {s:Shared} {l:Addr} {its:List Value} {n:Nat} {u:Value} {Q:Value→Shared→Prop} (e:s.heap.get? l=some (lo its n)) (hz:its.length≤sizeLine)
  (h:Q .none {s with heap:=s.heap.update l (Obj.mapSeq (·.push u))}):wpAny (model prog w) A (call (.builtin "list.append") [.ref l,u]) Q E s:=
 call_meets F.slot_list_append ⟨_,e,rfl⟩ F.entry_list_append (F.args_list_append_2 _ _) (PySem.list_append l its.toArray n u (by rw [List.size_toArray];omega)) ⟨e,h⟩
theorem Pm {tg iter elt:Expr} {ifs:List Expr} {pos pos0:Pos} {wi:TI} {g:TG} {tt:TT} {te:TE} {use:Option (Value→Sem Unit)} {Qp:Value→Shared→Prop} (O:CompOk X own scope) (hi:PI X tg iter wi)
  (hg:∀cl C s H fp,PG (cxC X own scope cl C s H fp) tg g) (ht:∀cl C s H fp,PTs (cxC X own scope cl C s H fp) ifs tt) (he:∀cl C s H fp,PE (cxC X own scope cl C s H fp) elt te)
  (hs:∀x,foldedSetIterable iter X.env x=pure x) {pins:List (Addr×Obj)} {s:Shared} {σ:St} {H:Hp} {Q:VK} (I:Inv X pins σ H s) (h:nU wi g tt te own.length σ H Q)
  (fin:∀(s2:Shared) (H2:Hp) (fp:List Addr) (C:Addr) (cl:List (Str×Addr)) (its:List Value) (nn:Nat) (σ':St) (H':Hp) (s5:Shared) (ys:List V),Inv X pins σ H2 s2→(∀b∈fp,dH X pins H2 b)→s2.heap.objs.size<C→
   Inv (cxC X own scope cl C s2 H2 fp) (pins++[(s2.heap.objs.size,lo its nn)]) σ' H' s5→Vals ys its→ys.length≤sizeLine→(∀p,H' p=none→Q (.ref p) (upd H' p (.lst ys)))→
   compPost (model X.prog X.w) X.A X.xe use Qp (.ref s2.heap.objs.size) C (.ok .next) s5):
  wpAny (model X.prog X.w) X.A (comprehension (.ListComp elt [⟨tg,iter,ifs,0⟩] scope pos) scope X.env pos0 (newList []) false (eval iter X.env) use) Qp X.xe s:=by
 refine wpAny_comprehension_free (use:=use) rfl hs (Qm (O.cells I.ok)) O.kind O.names (thn (hi pins s σ H _ I h) fun v s1 h1=>thn h1 fun itv s2 h2=>?_)
 obtain ⟨it,fp,tn,J,H2,rfl,I2,T,st2,f2,W,⟨m0,w0⟩,turn⟩:=h2
 refine wpAny_newObj_type (wpAny_newFunctionEnv O.cell (by intro y hy;simp at hy) (fun h₁ hns₁ hsb₁=>?_) O.kind)
 dsimp only at hns₁ hsb₁ ⊢
 generalize hH2:s2.heap.push {cls:=.type "list",dict:=none,data:=.seq ([]:List Value).toArray}=Hh at hns₁ hsb₁ ⊢
 have hCs:Hh.objs.size=s2.heap.objs.size+1:=by rw [←hH2,Heap.size_push]
 have hC:s2.heap.objs.size<Hh.objs.size:=by rw [hCs];exact Nat.lt_succ_self _
 have old:∀b o,s2.heap.get? b=some o→h₁.get? b=some o:=fun b o e=>hsb₁.extBut b o (Nat.ne_of_lt (Nat.lt_trans (Heap.lt_size e) hC)) (Heap.get?_push_of_some _ (hH2 ▸ Heap.get?_push_of_some _ e))
 have hacc:h₁.get? s2.heap.objs.size=some (lo [] 0):=hsb₁.extBut _ _ (Nat.ne_of_lt hC) (Heap.get?_push_of_some _ (hH2 ▸ Heap.get?_push_size _ rfl))
 have hob:∀b∈fp,∃o,s2.heap.get? b=some o:=fun b hb=>let ⟨o,e,_⟩:=T.obj _ _ st2 b hb;⟨o,e⟩
 have st3:tn 0 h₁:=T.keep _ _ _ st2 fun b _ o e=>old b o e
 have pinlt:∀p∈X.pn++pins,p.1<s2.heap.objs.size:=fun p hp=>Heap.lt_size (I2.pin p hp).1
 have loop:∀s₃:Shared,s₃={s2 with heap:=h₁,toks:=s2.toks+([]:List (Str×Value)).length}→
   codeAny (model X.prog X.w) X.A (.compLoop (.ListComp elt [⟨tg,iter,ifs,0⟩] scope pos) 0 (.ref it) (.ref s2.heap.objs.size) (compEnvC scope (bQ X.env scope.names) Hh.objs.size X.env))
    (compPost (model X.prog X.w) X.A X.xe use Qp (.ref s2.heap.objs.size) Hh.objs.size) s₃:=by
  rintro s₃ rfl
  have I3:=lX (tk:=s2.toks+([]:List (Str×Value)).length) O I2 f2 hob hC hacc old hns₁
  have stat:∀{o:Obj} {H':Hp},(∀b∈fp,H' b=none)→∀b∈fp,dH (cxC X own scope (bQ X.env scope.names) Hh.objs.size s2 H2 fp) (pins++[(s2.heap.objs.size,o)]) H' b:=fun {o H'} hn b hb=>by
   obtain ⟨o',eo⟩:=hob b hb
   refine ⟨hn b hb,Nat.ne_of_lt (Nat.lt_trans (Heap.lt_size eo) hC),iP I2 (f2 b hb).2.1 (f2 b hb).2.2.1,.inl hb,fun x c e=>(f2 b hb).2.2.2.2.1 x c (O.sub I2.ok x c e),fun p hp=>?_⟩
   have hp:p∈X.pn++(pins++[(s2.heap.objs.size,o)]):=hp
   rw [←List.append_assoc] at hp
   rcases List.mem_append.mp hp with hp | hp
   ·exact (f2 b hb).2.2.2.2.2 p hp
   ·cases List.mem_singleton.mp hp
    exact Nat.ne_of_gt (Heap.lt_size eo)
  refine gy (fun n s'=>∃i ys its nn σ' H',Inv (cxC X own scope (bQ X.env scope.names) Hh.objs.size s2 H2 fp) (pins++[(s2.heap.objs.size,lo its nn)]) σ' H' s'∧Wk σ' (List.replicate own.length none++σ)∧tn i s'.heap∧(∀b∈fp,H' b=none)∧Vals ys its∧W i n ys H')
   ?_ m0 ⟨0,[],[],0,_,H2,I3,Wk.refl _,st3,fun b hb=>(f2 b hb).1,.nil,w0⟩
  rintro n s4 ⟨i,ys,its,nn,σ4,H4,I4',wk4,st4,fr4,vs4,w4⟩
  have I4:=I4'.weak (σ':=List.replicate own.length none++σ) wk4.len (fun i v=>wk4.get i v)
  rcases turn i n ys H4 w4 with ⟨stop,hz,qn⟩ | ⟨go,hz,step⟩
  ·refine thn (T.done (cxC X own scope (bQ X.env scope.names) Hh.objs.size s2 H2 fp) rfl rfl rfl O.calm i _ s4 _ H4 (fun _ _=>False) I4 (stat fr4) st4 stop) fun r s5 hpat=>?_
   obtain ⟨hr,I5⟩:=hpat
   subst hr
   exact fin s2 H2 fp Hh.objs.size _ its nn _ H4 s5 ys I2 f2 hC I5 vs4 hz qn
  ·refine thn (T.item (cxC X own scope (bQ X.env scope.names) Hh.objs.size s2 H2 fp) rfl rfl rfl O.calm i _ s4 _ H4 (fun _ _=>False) I4 (stat fr4) st4 go) fun r s5 hpat=>?_
   obtain ⟨u,hr,h5⟩:=hpat
   subst hr
   refine thn h5 fun _ s6 hpat=>?_
   obtain ⟨x,H6,I6,r6,y6,st6,fr6⟩:=hpat
   have I6':=I6.pinned (stat fr6) (T.obj _ _ st6)
   refine thn (hg _ _ _ _ _ _ s6 _ H6 x u _ I6' r6 (step x H6 y6)) fun _ s7 hpat=>?_
   obtain ⟨σ7,H7,I7,wk7,q7⟩:=hpat
   refine thn (ht _ _ _ _ _ _ s7 σ7 H7 _ I7 q7) fun ok s8 hpat=>?_
   obtain ⟨H8,I8,q8⟩:=hpat
   have again:∀{σ9:St} {H9:Hp} {s9:Shared},Inv (cxC X own scope (bQ X.env scope.names) Hh.objs.size s2 H2 fp) ((pins++[(s2.heap.objs.size,lo its nn)])++dW fp s6.heap) σ9 H9 s9→tn (i+1) s9.heap∧∀b∈fp,H9 b=none:=fun {σ9 H9 s9} I9=>
    ⟨T.keep _ _ _ st6 fun b hb o e=>(I9.pin (b,o) (List.mem_append_right _ (List.mem_append_right _ (V7 hb e)))).1,fun b hb=>by
     obtain ⟨o,e,d⟩:=T.obj _ _ st6 b hb
     exact (I9.pin (b,o) (List.mem_append_right _ (List.mem_append_right _ (V7 hb e)))).2.1⟩
   cases ok with
   | false=>
    rw [if_neg Bool.false_ne_true] at q8 ⊢
    obtain ⟨m',hm,w8⟩:=q8
    obtain ⟨a1,a2⟩:=again I8
    exact ⟨m',hm,i+1,ys,its,nn,σ7,H8,I8.unpinned,wk7,a1,a2,vs4,w8⟩
   | true=>
    rw [if_pos rfl] at q8 ⊢
    refine thn (he _ _ _ _ _ _ s8 σ7 H8 _ I8 q8) fun yv s9 hpat=>?_
    obtain ⟨y,H9,I9,r9,m',hm,w9⟩:=hpat
    obtain ⟨a1,a2⟩:=again I9
    obtain ⟨eD,nD,neD,nfD,_⟩:=I9.pin (s2.heap.objs.size,lo its nn) (List.mem_append_right _ (List.mem_append_left _ (List.mem_append_right _ List.mem_cons_self)))
    have hlen:=vs4.length
    refine iU eD (by omega) ?_
    have upd9:=PySem.IsL.update (l:=s2.heap.objs.size) eD (·.push yv)
    have uother:∀b o,b≠s2.heap.objs.size→s9.heap.get? b=some o→(s9.heap.update s2.heap.objs.size (Obj.mapSeq (·.push yv))).get? b=some o:=fun b o hb e=>(Heap.get?_update_other s9.heap (Obj.mapSeq (·.push yv)) (Ne.symm hb)).trans e
    have I9a:Inv (cxC X own scope (bQ X.env scope.names) Hh.objs.size s2 H2 fp) pins σ7 H9 s9:=I9.unpinned.unpinned
    have I9b:Inv (cxC X own scope (bQ X.env scope.names) Hh.objs.size s2 H2 fp) pins σ7 H9 {s9 with heap:=s9.heap.update s2.heap.objs.size (Obj.mapSeq (·.push yv))}:=
     I9a.turned (t':=s9.toks) uother nD neD (.inr (Nat.le_refl _)) (fun x c e z=>by
      obtain ⟨v,o,hoc,_⟩:=I2.cell x c (O.sub I2.ok x c e)
      exact absurd z (Nat.ne_of_lt (Heap.lt_size hoc))) fun p hp=>Nat.ne_of_lt (pinlt p hp)
    have e2:(its.toArray.push yv)=(its++[yv]).toArray:=by simp
    have upd9':∃n2,(s9.heap.update s2.heap.objs.size (Obj.mapSeq (·.push yv))).get? s2.heap.objs.size=some (lo (its++[yv]) n2):=⟨_,by rw [upd9,e2]⟩
    obtain ⟨n2,upd9'⟩:=upd9'
    have I9c:=I9b.pins_of (pins':=pins++[(s2.heap.objs.size,lo (its++[yv]) n2)]) fun p hp=>by
     rcases List.mem_append.mp hp with hp | hp
     ·exact I9b.pin p (List.mem_append_right _ hp)
     ·cases List.mem_singleton.mp hp
      exact ⟨upd9',nD,neD,nfD,fun v z=>by cases z⟩
    refine ⟨m',hm,i+1,ys++[y],its++[yv],n2,σ7,H9,I9c,wk7,T.keep _ _ _ a1 fun b hb o e=>uother b o ?_ e,a2,vs4.append (.cons r9 .nil),w9⟩
    obtain ⟨o',eo⟩:=hob b hb
    exact Nat.ne_of_lt (Heap.lt_size eo)
 exact codeAny_compStart_list (loop _ rfl) (T.self _ 0 _ _ _ st3 (loop _ rfl))
theorem Yh {tg iter elt:Expr} {ifs:List Expr} {pos:Pos} {wi:TI} {g:TG} {tt:TT} {te:TE} (O:CompOk X own scope) (hi:PI X tg iter wi)
  (hg:∀cl C s H fp,PG (cxC X own scope cl C s H fp) tg g) (ht:∀cl C s H fp,PTs (cxC X own scope cl C s H fp) ifs tt) (he:∀cl C s H fp,PE (cxC X own scope cl C s H fp) elt te)
  (hs:∀x,foldedSetIterable iter X.env x=pure x:=by intro _;rfl):
  PE X (.ListComp elt [⟨tg,iter,ifs,0⟩] scope pos) (nU wi g tt te own.length):=by
 intro pins s σ H Q I h
 rw [eval_ListComp]
 refine Pm O hi hg ht he hs I h fun s2 H2 fp C cl its nn σ' H' s5 ys I2 f2 hC I5 vs hz qn=>?_
 obtain ⟨mm,hnm,_⟩:=I5.loc
 exact ⟨mm,hnm,fun h' hs'=>⟨.ref s2.heap.objs.size,_,Pl I2 f2 hC I5 vs hz hs',rfl,qn _ (I5.pin (s2.heap.objs.size,lo its nn) (List.mem_append_right _ (List.mem_append_right _ List.mem_cons_self))).2.1⟩⟩
theorem Sw {i:Nat} {x:Str} {tg iter elt:Expr} {ifs:List Expr} {pos pos' cpos:Pos} {wi:TI} {g:TG} {tt:TT} {te:TE} (hN:X.N.Nodup) (hix:X.N[i]?=some x) (hl:X.env.scope.names.lookup x=some .local) (O:CompOk X own scope) (hi:PI X tg iter wi)
  (hg:∀cl C s H fp,PG (cxC X own scope cl C s H fp) tg g) (ht:∀cl C s H fp,PTs (cxC X own scope cl C s H fp) ifs tt) (he:∀cl C s H fp,PE (cxC X own scope cl C s H fp) elt te)
  (hs:∀x,foldedSetIterable iter X.env x=pure x:=by intro _;rfl) (hsw:swapsWith (.ListComp elt [⟨tg,iter,ifs,0⟩] scope cpos) (some (.Name x pos')) pos.line X.env=pure true:=by rfl):
  PS X (.Assign [.Name x pos'] (.ListComp elt [⟨tg,iter,ifs,0⟩] scope cpos) pos) (tF (nU wi g tt te own.length) (i7 i)):=by
 intro pins s σ H D I h
 rw [exec_Assign_Name_used _ _ _ _ hsw]
 refine wpAny_bind (wpAny_standAt (wpAny_bind (m:=evalThenUse _ X.env _) ?_))
 show wpAny _ _ (comprehension (.ListComp elt [⟨tg,iter,ifs,0⟩] scope cpos) scope X.env _ (newList []) false (eval iter X.env) (some (assign (.Name x pos') X.env)) >>= fun _=>_) _ _ s
 refine wpAny_bind (thn (Pm (Qp:=fun _ s'=>SP X pins D .next s') O hi hg ht he hs I h fun s2 H2 fp C cl its nn σ' H' s5 ys I2 f2 hC I5 vs hz qn=>?_) fun _ s' hq=>wpAny_pure (wpAny_pure hq))
 have Ix:Inv X pins σ (upd H' s2.heap.objs.size (.lst ys)) s5:=Pl I2 f2 hC I5 vs hz (Heap.SameBut.refl _ _)
 obtain ⟨mm,hnm,_⟩:=I5.loc
 have fC:H' C=none:=I5.free
 have nCD:C≠s2.heap.objs.size:=Nat.ne_of_gt hC
 refine wpAny_assign_Name (Qw (v:=.ref s2.heap.objs.size) Ix hN hix (.inl hl) rfl (fun s6 I6 sb=>?_) (.inr hl))
 obtain ⟨a,sb,ha⟩:=sb
 have nLC:X.env.locals≠C:=Nat.ne_of_lt (Nat.lt_trans I2.lt hC)
 have cC:∀y c,X.env.cells.lookup y=some c→c≠C:=fun y c e=>by
  obtain ⟨v,o,ho,_⟩:=I2.cell y c e
  exact Nat.ne_of_lt (Nat.lt_trans (Heap.lt_size ho) hC)
 have naC:C≠a:=by
  rcases ha with rfl | ha
  ·exact Ne.symm nLC
  ·exact Ne.symm (cC x a ha)
 refine ⟨mm,hnm.sameBut sb naC,fun h' hs'=>⟨_,_,I6.turned (t':=s6.toks) (fun b o hb e=>(hs'.2 b hb).trans e) (by rw [Zl nCD];exact fC) (Ne.symm nLC) (.inr (Nat.le_trans I2.sz (Nat.le_of_lt hC))) cC (fun p hp=>Nat.ne_of_lt (Nat.lt_trans (Heap.lt_size (I2.pin p hp).1) hC)),qn _ (I5.pin (s2.heap.objs.size,lo its nn) (List.mem_append_right _ (List.mem_append_right _ List.mem_cons_self))).2.1⟩⟩
end
section
variable {X:Cx} {pos:Pos}
theorem W5 (K:W.Frag) (n:Nat) {es:List Expr} {k:Nat} {t:TGs} (hK:X.K=K) (hc:X.calm=true) (h:PGs X es t)
  (hn:(assignEach es X.env).length=n:=by rfl) (hst:(assignEach es X.env).findIdx? (·.1)=none:=by rfl):PG X (.Tuple es k pos) (uW K n t):=by
 subst hK
 exact Yq hc h hn hst
theorem jj (K:W.Frag) (hK:X.K=K):IxR X (uy K):=by subst hK;exact Yl
end
mutual
inductive DV (H:Hp):V→PyData→Prop
 | non:DV H .non .none
 | bl (b:Bool):DV H (.bl b) (.bool b)
 | int (i:Int):DV H (.int i) (.int i)
 | str (x:Str):DV H (.str x) (.str x)
 | lst {a:Addr} {xs:List V} {ds:List PyData}:H a=some (.lst xs)→DVs H xs ds→DV H (.ref a) (.list ds)
 | tup {a:Addr} {xs:List V} {ds:List PyData}:H a=some (.tup xs)→DVs H xs ds→DV H (.ref a) (.tuple ds)
inductive DVs (H:Hp):List V→List PyData→Prop
 | nil:DVs H [] []
 | cons {v:V} {vs:List V} {d:PyData} {ds:List PyData}:DV H v d→DVs H vs ds→DVs H (v::vs) (d::ds)
end
mutual
theorem DV.mono {H H':Hp} (g:Same H H'):∀{v:V} {d:PyData},DV H v d→DV H' v d
 | _,_,.non=>.non
 | _,_,.bl b=>.bl b
 | _,_,.int i=>.int i
 | _,_,.str x=>.str x
 | _,_,.lst e r=>.lst (g _ _ e) (DVs.mono g r)
 | _,_,.tup e r=>.tup (g _ _ e) (DVs.mono g r)
theorem DVs.mono {H H':Hp} (g:Same H H'):∀{vs:List V} {ds:List PyData},DVs H vs ds→DVs H' vs ds
 | _,_,.nil=>.nil
 | _,_,.cons h r=>.cons (DV.mono g h) (DVs.mono g r)
end
theorem DVs.length {H:Hp}:∀{vs:List V} {ds:List PyData},DVs H vs ds→vs.length=ds.length
 | _,_,.nil=>rfl
 | _,_,.cons _ r=>congrArg (·+1) r.length
theorem DVs.append {H:Hp}:∀{vs ws:List V} {ds es:List PyData},DVs H vs ds→DVs H ws es→DVs H (vs++ws) (ds++es)
 | _,_,_,_,.nil,s=>s
 | _,_,_,_,.cons h r,s=>.cons h (DVs.append r s)
theorem DVs.getV {H:Hp}:∀{vs:List V} {ds:List PyData} {i:Nat} {v:V},DVs H vs ds→vs[i]?=some v→∃d,ds[i]?=some d∧DV H v d
 | _,_,_,_,.nil,e=>by simp at e
 | _,_,0,_,.cons h _,e=>by simp at e;subst e;exact ⟨_,rfl,h⟩
 | _,_,i+1,d,.cons _ r,e=>by
  obtain ⟨v,h1,h2⟩:=DVs.getV (i:=i) (v:=d) r (by simpa using e)
  exact ⟨v,by simpa using h1,h2⟩
section
variable {X:Cx} {pins:List (Addr×Obj)} {σ:St} {H:Hp} {s:Shared}
mutual
theorem DV.reads (I:Inv X pins σ H s):∀{v:V} {d:PyData} {u:Value},DV H v d→RelV v u→∃as,Reads s.heap u d as
 | _,_,_,.non,r=>by cases r;exact ⟨_,Reads.none⟩
 | _,_,_,.bl b,r=>by cases r;exact ⟨_,Reads.bool b⟩
 | _,_,_,.int i,r=>by obtain ⟨t,rfl⟩:=r;exact ⟨_,Reads.int i t⟩
 | _,_,_,.str x,r=>by obtain ⟨t,rfl⟩:=r;exact ⟨_,Reads.str x t⟩
 | _,_,_,.lst e q,r=>by
  cases r
  obtain ⟨its,n,rv,ho,_⟩:=I.lst e
  obtain ⟨as,p⟩:=DVs.reads I q rv
  exact ⟨_,reads_list_at ho rfl rfl (by simpa using p)⟩
 | _,_,_,.tup e q,r=>by
  cases r
  obtain ⟨its,rv,⟨o,ho,hc,n,hd⟩,_⟩:=I.tuple (SqT.of e)
  obtain ⟨as,p⟩:=DVs.reads I q rv
  exact ⟨_,reads_tuple_at ho hc hd (by simpa using p)⟩
theorem DVs.reads (I:Inv X pins σ H s):∀{vs:List V} {ds:List PyData} {us:List Value},DVs H vs ds→Vals vs us→∃as,ReadsAll s.heap us ds as
 | _,_,_,.nil,r=>by cases r;exact ⟨_,ReadsAll.nil⟩
 | _,_,_,.cons h t,r=>by
  cases r with
  | cons r1 r2=>
   obtain ⟨as,p⟩:=DV.reads I h r1
   obtain ⟨bs,q⟩:=DVs.reads I t r2
   exact ⟨_,ReadsAll.cons p q⟩
end
end
def rEqD:R2:=fun x y H Q=>∃d e,DV H x d∧DV H y e∧SeqAt.shaped d=true∧SeqAt.shaped e=true∧Q (.bl (PyData.eqv d e)) H
def rNeD:R2:=fun x y H Q=>∃d e,DV H x d∧DV H y e∧SeqAt.shaped d=true∧SeqAt.shaped e=true∧Q (.bl (!PyData.eqv d e)) H
section
variable {X:Cx}
theorem Oh (hu:X.A.units+64<cLine):OpR X (compareOp .Eq) rEqD:=by
 intro pins s σ H x y v u Q I rx ry h
 obtain ⟨d,e,h1,h2,s1,s2,q⟩:=h
 obtain ⟨as,p1⟩:=h1.reads I rx
 obtain ⟨bs,p2⟩:=h2.reads I ry
 exact eq_dataH p1 p2 s1 s2 hu ⟨.bl _,H,I,rfl,q⟩
theorem gQ (hu:X.A.units+64<cLine):OpR X (compareOp .NotEq) rNeD:=by
 intro pins s σ H x y v u Q I rx ry h
 obtain ⟨d,e,h1,h2,s1,s2,q⟩:=h
 obtain ⟨as,p1⟩:=h1.reads I rx
 obtain ⟨bs,p2⟩:=h2.reads I ry
 exact ne_dataH p1 p2 s1 s2 hu ⟨.bl _,H,I,rfl,q⟩
def rIs (K:W.Frag):List V→Hp→VK→Prop:=fun xs H Q=>∃x t T b,xs=[x,.ty T]∧TyOf K H x t∧W.kitOne K t (.type T)=some b∧Q (.bl b) H
theorem Xj:CallR X (.builtin "isinstance") (rIs X.K):=by
 intro pins s σ H xs us Q I r h
 obtain ⟨x,t,T,b,rfl,ty,e,q⟩:=h
 obtain ⟨u,w',rfl,ru,rt⟩:=Oz r
 cases (show w'=Value.type T from rt)
 exact kg I ru ty e fun tk=>⟨.bl b,H,I.tok _,rfl,q⟩
def tH:V→List V→Hp→VK→Prop:=fun x vs H Q=>∃z y ps,x=.str z∧vs=[.str y]∧(decide (z.length<y.length) || decide (Builtin.Str.strKind z<Builtin.Str.strKind y))=false∧(y.length == 0)=false∧
 (Builtin.Str.occurrences z y 0 z.length (z.length+1)).isEmpty=false∧z.length≤sizeLine∧Builtin.Str.partsBetween z (Builtin.Str.occurrences z y 0 z.length (z.length+1)) y.length=ps∧ps.length≤sizeLine∧∀l,H l=none→Q (.ref l) (upd H l (.lst (ps.map V.str)))
theorem Qu:∀(ps:List Str) (k:Nat),Vals (ps.map V.str) (strsFrom k ps)
 | [],_=>.nil
 | p::ps,k=>.cons ⟨_,rfl⟩ (Qu ps _)
theorem mi:MtR X "str.split" tH:=by
 intro pins s σ H x vs v us Q I rx rv h
 obtain ⟨z,y,ps,rfl,rfl,h1,h2,h3,h4,rfl,h5,q⟩:=h
 obtain ⟨t,rfl⟩:=rx
 obtain ⟨u,rfl,t',rfl⟩:=Xo rv
 refine call_meets F.slot_str_split (typeIs_str s z t) F.entry_str_split (F.args_str_split_2 _ _) (meets_str_split_sep z y t t' h1 h2 h3 h4 h5) ?_
 refine ⟨.ref s.heap.objs.size,_,I.laid (o:=.lst (_:List V)) (fun b ob q=>Heap.get?_push_of_some _ q) (Nat.le_refl _) ⟨?_,_,0,Qu _ _,Heap.get?_push_size _ rfl⟩,rfl,q _ (I.hok.fresh (Nat.le_refl _))⟩
 rw [List.length_map]
 exact h5
end
structure Has (P:Program) (w:World) (K:W.Frag) (mg:Str→Option Value) (base:Heap) (x:Str) (k:Nat) (ps:List Str) (sp:Sp):Prop where
 ex:∃f fd,FnOk P w K mg base CX0 k f fd ps sp∧Binds K fd ps []∧W.keepIn K (.ref f)=true∧mg x=some (.ref f)
section
variable {X:Cx} {j k:Nat} {ps:List Str} {sp:Sp} {x:Str} {p pos:Pos} {e:Expr} {es:List Expr} {t:TA}
theorem Z7 (h:Has X.prog X.w X.K X.mg X.base x j ps sp) (hr:Room k X.A) (ha:PA X (e::es) t) (hg:Gl X x:=by rfl) (hj:j≤k:=by first | decide | omega)
  (hdb:(x == ("__debug__":Str))=false:=by decide) (he:starEach (e::es) X.env=(false,eval e X.env)::starEach es X.env:=by rfl) (hpl:(backTo pos (starEach es X.env)).any (·.1)=false:=by rfl):
  PE X (.Call (.Name x p) (e::es) [] pos) (qL sp [] E0 t):=by
 intro pins s σ H Q I q
 obtain ⟨f,fd,F,b,kp,m⟩:=h.ex
 refine qc (CX:=CX0) (E:=E0) (dvs:=[]) (F.mono hj) hr hg m kp b .nil ?_ ha hdb he hpl pins s σ H Q I q
 exact fun _ _ _ _ _ _ _ z=>z.elim
end
def aA (a:Addr) (H:Hp):Hp:=fun b=>if b=a then none else H b
theorem Ym {a b:Addr} {H:Hp} (h:b≠a):aA a H b=H b:=by unfold aA;rw [if_neg h]
theorem Z4 {a b:Addr} {H:Hp} {o:HO} (h:aA a H b=some o):b≠a∧H b=some o:=by
 unfold aA at h
 by_cases e:b=a
 ·rw [if_pos e] at h;cases h
 ·rw [if_neg e] at h;exact ⟨e,h⟩
theorem Y8 {a:Addr} {H:Hp}:Same (aA a H) H:=fun _ _ h=>(Z4 h).2
theorem Zw {H:Hp} {p:Addr} (h:H p=none) (o:HO):Same H (upd H p o):=fun b u q=>by rw [Zl (Zs q h)];exact q
abbrev Grw (a:Addr) (H H':Hp):Prop:=Same (aA a H) (aA a H')
theorem Tc {a:Addr} {H H':Hp} {o:HO} (ha:H a=some o) (g:Same H H'):Grw a H H':=fun b u q=>by
 obtain ⟨h1,h2⟩:=Z4 q
 rw [Ym h1];exact g b u h2
theorem Op {a:Addr} {H:Hp} {o:HO}:Grw a H (upd H a o):=fun b u q=>by
 obtain ⟨h1,h2⟩:=Z4 q
 rw [Ym h1,Zl h1];exact h2
theorem Xc {a p:Addr} {H:Hp} {o:HO} (h:H p=none):Grw a H (upd H p o):=fun b u q=>by
 obtain ⟨h1,h2⟩:=Z4 q
 rw [Ym h1,Zl (Zs h2 h)];exact h2
def PenAt (H:Hp) (a:Addr):Prop:=∃p q r:Int,H a=some (.lst [.int p,.int q,.int r])
theorem PenAt.same {H H':Hp} {a:Addr} (h:PenAt H a) (g:Same H H'):PenAt H' a:=by
 obtain ⟨p,q,r,e⟩:=h
 exact ⟨p,q,r,g _ _ e⟩
theorem PenAt.laid {H:Hp} {a p:Addr} {o:HO} (h:PenAt H a) (hp:H p=none):PenAt (upd H p o) a:=h.same (Zw hp o)
theorem PenAt.ne {H:Hp} {a p:Addr} (h:PenAt H a) (hp:H p=none):p≠a:=by
 obtain ⟨x,y,z,e⟩:=h
 exact fun q=>by rw [q,e] at hp;cases hp
theorem Xg {j:Int} (h:decide (0<j)=true):0<j:=of_decide_eq_true h
theorem ltI {i j:Int} (h:decide (i<j)=true):i<j:=of_decide_eq_true h
theorem leI {i j:Int} (h:decide (i≤j)=true):i≤j:=of_decide_eq_true h
theorem leN {i j:Nat} (h:decide (i≤j)=true):i≤j:=of_decide_eq_true h
theorem qM {i j:Int} (h1:decide (0<j)=true) (h2:decide (j<1073741824)=true):vh i j:=⟨of_decide_eq_true h1,of_decide_eq_true h2⟩
theorem iV {i j:Int} (h1:decide (0≤j)=true) (h2:decide (j≤1000000)=true) (h3:decide (i.natAbs<2 ^ 64)=true):rq i j:=⟨of_decide_eq_true h1,of_decide_eq_true h2,of_decide_eq_true h3⟩
theorem kr {i j:Int} (h1:decide (-(2 ^ 64)<i)=true) (h2:decide (i<2 ^ 64)=true):CMul i j:=Or.inl ⟨of_decide_eq_true h1,of_decide_eq_true h2⟩
theorem mulR {i j:Int} (h1:decide (-(2 ^ 64)<j)=true) (h2:decide (j<2 ^ 64)=true):CMul i j:=Or.inr ⟨of_decide_eq_true h1,of_decide_eq_true h2⟩
theorem vj (x m y:Int) (h0:decide (0<m)=true) (h1:decide (m<4294967296)=true):CMul (x % m) y:=by
 have h0:=of_decide_eq_true h0
 have h1:=of_decide_eq_true h1
 exact Or.inl ⟨by have:=Int.emod_nonneg x (show m≠0 by omega);omega,by have:=Int.emod_lt_of_pos x h0;omega⟩
theorem lP (a b c:V):atI [a,b,c] 0=some a:=rfl
theorem oN (a b c:V):atI [a,b,c] 1=some b:=rfl
theorem gB (a b c:V):atI [a,b,c] 2=some c:=rfl
theorem Qg {α:Type} {xs:List α} {i:Int} (h0:0≤i) (h1:i<xs.length):∃v,atI xs i=some v∧v∈xs:=by
 have hi:i.toNat<xs.length:=by omega
 have e:((i.toNat:Nat):Int)=i:=by omega
 refine ⟨xs[i.toNat],?_,List.getElem_mem hi⟩
 have q:=Vb (xs:=xs) (j:=i.toNat) (v:=xs[i.toNat]) (List.getElem?_eq_getElem hi)
 rw [e] at q
 exact q
theorem at3 {x y z:V} {d:Int} (h0:0≤d) (h1:d<3):∃v,atI [x,y,z] d=some v∧(v=x∨v=y∨v=z):=by
 obtain ⟨v,h,m⟩:=Qg (xs:=[x,y,z]) h0 h1
 exact ⟨v,h,by simpa using m⟩
theorem Oq {a b:Addr} {H H':Hp} {o:HO} (g:Grw a H H') (hb:b≠a) (h:H b=some o):H' b=some o:=by
 have q:=g b o (by rw [Ym hb];exact h)
 exact (Z4 q).2
theorem Zb {n:Nat} (h:n≤1000000):n≤sizeLine:=Nat.le_trans h (by decide)
theorem Zn {n:Nat} (h:n<1000000):n<sizeLine:=Nat.lt_of_lt_of_le h (by decide)
theorem Qa {lo:Int} {n k:Nat} {g:TG} {tt:TT} {te:TE} {σ:St} {H:Hp} {Q:VK} (Pv:Nat→List V→Hp→Prop) (h0:Pv 0 [] H)
  (hs:∀i ys H (C:List V→Hp→Prop),i<n→Pv i ys H→(∀ys' H',Pv (i+1) ys' H'→C ys' H')→ys.length<sizeLine∧g (.int (lo+i)) (List.replicate k none++σ) H fun σ2 H2=>Wk σ2 (List.replicate k none++σ)∧tt σ2 H2 fun ok H3=>
   if ok=true then te σ2 H3 fun y H4=>C (ys++[y]) H4 else C ys H3)
  (hd:∀ys H,Pv n ys H→ys.length≤sizeLine∧∀p,H p=none→Q (.ref p) (upd H p (.lst ys))):
  CompR (Itr lo n) H k g tt te σ Q:=by
 refine ⟨fun i m ys H=>m=n - i∧i≤n∧Pv i ys H,⟨n,by simp,Nat.zero_le _,h0⟩,?_⟩
 rintro i m ys H ⟨rfl,hi,p⟩
 by_cases hlt:i<n
 ·have q:=hs i ys H (fun ys' H'=>∃m',m'<n - i∧m'=n - (i+1)∧i+1≤n∧Pv (i+1) ys' H') hlt p fun ys' H' p'=>⟨_,by omega,rfl,hlt,p'⟩
  refine .inr ⟨hlt,q.1,fun x H' y=>?_⟩
  obtain ⟨e,y⟩:=y
  subst e y
  exact q.2
 ·have e:i=n:=by omega
  subst e
  exact .inl ⟨Nat.le_refl _,hd ys H p⟩
theorem W3 {K:W.Frag} {a:Addr} {xs:List V} {k:Nat} {g:TG} {tt:TT} {te:TE} {σ:St} {H:Hp} {Q:VK} (Pv:Nat→List V→Hp→Prop) (h0:Pv 0 [] H) (hl:∀i ys H,i≤xs.length→Pv i ys H→SqL K H a xs)
  (hs:∀i x ys H (C:List V→Hp→Prop),xs[i]?=some x→Pv i ys H→(∀ys' H',Pv (i+1) ys' H'→C ys' H')→ys.length<sizeLine∧g x (List.replicate k none++σ) H fun σ2 H2=>Wk σ2 (List.replicate k none++σ)∧tt σ2 H2 fun ok H3=>
   if ok=true then te σ2 H3 fun y H4=>C (ys++[y]) H4 else C ys H3)
  (hd:∀ys H,Pv xs.length ys H→ys.length≤sizeLine∧∀p,H p=none→Q (.ref p) (upd H p (.lst ys))):
  CompR (Itl K a) H k g tt te σ Q:=by
 refine ⟨fun i m ys H=>m=xs.length - i∧i≤xs.length∧Pv i ys H,⟨xs.length,by simp,Nat.zero_le _,h0⟩,?_⟩
 rintro i m ys H ⟨rfl,hi,p⟩
 have q:=hl i ys H hi p
 by_cases hlt:i<xs.length
 ·have r:=hs i xs[i] ys H (fun ys' H'=>∃m',m'<xs.length - i∧m'=xs.length - (i+1)∧i+1≤xs.length∧Pv (i+1) ys' H') (by simp [hlt]) p fun ys' H' p'=>⟨_,by omega,rfl,hlt,p'⟩
  refine .inr ⟨⟨xs,xs[i],q,by simp [hlt]⟩,r.1,fun x H' y=>?_⟩
  obtain ⟨e,y⟩:=y
  subst e
  have ex:xs[i]?=some x:=y xs q
  have ex2:xs[i]=x:=by simpa [hlt] using ex
  rw [←ex2]
  exact r.2
 ·have e:i=xs.length:=by omega
  subst e
  exact .inl ⟨⟨xs,q,Nat.le_refl _⟩,hd ys H p⟩
def wordA:Str:="q abcdefgh aq qa abcdefgi ea zz eaq abd abc e bcdefgh za "
def wordB:Str:="qae acb ae abcdefg z qq aea az abcd xabcd eae abce eq"
def words:List Str:=["q","abcdefgh","aq","qa","abcdefgi","ea","zz","eaq","abd","abc","e","bcdefgh","za","qae","acb","ae","abcdefg","z","qq","aea","az","abcd","xabcd","eae","abce","eq"]
theorem gM:Builtin.Str.partsBetween (wordA++wordB) (Builtin.Str.occurrences (wordA++wordB) " " 0 (wordA++wordB).length ((wordA++wordB).length+1)) (" ":Str).length=words:=by decide +kernel
theorem sP:(decide ((wordA++wordB).length<(" ":Str).length) || decide (Builtin.Str.strKind (wordA++wordB)<Builtin.Str.strKind " "))=false:=by decide +kernel
theorem sq:(((" ":Str).length == 0)=false):=by decide +kernel
theorem tq:(Builtin.Str.occurrences (wordA++wordB) " " 0 (wordA++wordB).length ((wordA++wordB).length+1)).isEmpty=false:=by decide +kernel
theorem rf:(wordA++wordB).length≤sizeLine:=by decide +kernel
theorem pH:wordA.length+wordB.length≤sizeLine:=by decide +kernel
theorem Oy:∀x∈words,PyData.strOk x=true:=by decide +kernel
structure Th where
 day:Int
 word:Str
 num:Int
 many:Int
def Th.D (t:Th):PyData:=.tuple [.int t.day,.str t.word,.int t.num,.int t.many]
def Th.vs (t:Th):List V:=[.int t.day,.str t.word,.int t.num,.int t.many]
structure Th.Ok (t:Th):Prop where
 day:0≤t.day
 word:t.word∈words
 num:0≤t.num
 many:1≤t.many
 numU:t.num<1073741824
 manyU:t.many≤1000000000
theorem Th.dv {H:Hp} {r:Addr} {t:Th} (h:H r=some (.tup t.vs)):DV H (.ref r) t.D:=.tup h (.cons (.int _) (.cons (.str _) (.cons (.int _) (.cons (.int _) .nil))))
inductive Tr where
 | leaf (ts:List Th)
 | node (l r:Tr)
abbrev dG (ts:List Th):PyData:=.list (ts.map Th.D)
def Tr.D:Tr→PyData
 | .leaf ts=>dG ts
 | .node l r=>.tuple [.str "merged",l.D,r.D]
def Tr.streams:Tr→List (List Th)
 | .leaf ts=>[ts]
 | .node l r=>l.streams++r.streams
def Tr.size:Tr→Nat
 | .leaf _=>1
 | .node l r=>l.size+r.size+1
def Tr.ht:Tr→Nat
 | .leaf _=>0
 | .node l r=>max l.ht r.ht+1
def Tr.all:Tr→List Th
 | .leaf ts=>ts
 | .node l r=>l.all++r.all
def Tr.Ok:Tr→Prop
 | .leaf ts=>∀t∈ts,t.Ok
 | .node l r=>l.Ok∧r.Ok
theorem Tr.streams_ok:∀{t:Tr},t.Ok→∀s∈t.streams,∀x∈s,x.Ok
 | .leaf ts,h,s,hs,x,hx=>by
  have e:s=ts:=by simpa [Tr.streams] using hs
  subst e
  exact h x hx
 | .node l r,h,s,hs,x,hx=>by
  have hs:s∈l.streams++r.streams:=hs
  rcases List.mem_append.mp hs with q | q
  ·exact streams_ok h.1 s q x hx
  ·exact streams_ok h.2 s q x hx
theorem jJ {α:Type} {f:α→PyData} {n:Nat}:∀(xs:List α),(∀x∈xs,(f x).canLay0=true∧(f x).depth≤n)→PyData.canLayAll0 (xs.map f)=true∧PyData.depthAll (xs.map f)≤n
 | [],_=>by simp [PyData.canLayAll0,PyData.depthAll]
 | x::xs,h=>by
  have h1:=h x List.mem_cons_self
  have h2:=jJ xs fun y hy=>h y (List.mem_cons_of_mem _ hy)
  rw [List.map_cons,PyData.canLayAll0,PyData.depthAll,h1.1,h2.1]
  exact ⟨rfl,Nat.max_le.mpr ⟨h1.2,h2.2⟩⟩
theorem Vn {α:Type} {f:α→PyData} {n:Nat} (xs:List α) (h:∀x∈xs,(f x).canLay0=true∧(f x).depth≤n):(PyData.list (xs.map f)).canLay0=true∧(PyData.list (xs.map f)).depth≤n+1:=by
 have q:=jJ xs h
 rw [PyData.canLay0,PyData.depth]
 exact ⟨q.1,Nat.succ_le_succ q.2⟩
theorem X5 {d:PyData} {n:Nat} (h:d.canLay0=true∧d.depth≤n) (hn:n≤64):SeqAt.shaped d=true:=by
 unfold SeqAt.shaped
 rw [h.1,Bool.true_and]
 exact decide_eq_true (Nat.le_trans h.2 hn)
theorem nW {d:PyData} {n:Nat} (h:d.canLay0=true∧d.depth≤n):PyData.eqv d d=true:=SeqAt.eqv_refl d h.1
theorem Ot (ds:List PyData):PyData.eqv (.list ds) (.list [])=ds.isEmpty:=by
 cases ds <;> simp [PyData.eqv,PyData.eqvAll]
theorem DV.list_inv {H:Hp} {v:V} {ds:List PyData} (h:DV H v (.list ds)):∃a xs,v=.ref a∧H a=some (.lst xs)∧DVs H xs ds:=by
 cases h with
 | lst e r=>exact ⟨_,_,rfl,e,r⟩
theorem DV.tup_inv {H:Hp} {v:V} {ds:List PyData} (h:DV H v (.tuple ds)):∃a xs,v=.ref a∧H a=some (.tup xs)∧DVs H xs ds:=by
 cases h with
 | tup e r=>exact ⟨_,_,rfl,e,r⟩
theorem DVs.cons_inv {H:Hp} {vs:List V} {d:PyData} {ds:List PyData} (h:DVs H vs (d::ds)):∃x r,vs=x::r∧DV H x d∧DVs H r ds:=by
 cases h with
 | cons a b=>exact ⟨_,_,rfl,a,b⟩
theorem DVs.nil_inv {H:Hp} {vs:List V} (h:DVs H vs []):vs=[]:=by
 cases h with
 | nil=>rfl
theorem DV.node_inv {H:Hp} {v:V} {l r:Tr} (h:DV H v (Tr.node l r).D):∃a m x y,v=.ref a∧H a=some (.tup [m,x,y])∧DV H x l.D∧DV H y r.D:=by
 obtain ⟨a,xs,rfl,e,q⟩:=DV.tup_inv h
 obtain ⟨m,r1,rfl,_,q1⟩:=q.cons_inv
 obtain ⟨x,r2,rfl,hx,q2⟩:=q1.cons_inv
 obtain ⟨y,r3,rfl,hy,q3⟩:=q2.cons_inv
 have:=q3.nil_inv
 subst this
 exact ⟨a,m,x,y,rfl,e,hx,hy⟩
theorem Wm {H H':Hp} {a:Addr} {o:HO} (g:Same H H') (h:H a=none):Same H (upd H' a o):=fun b u q=>by rw [Zl (Zs q h)];exact g b u q
theorem Has.of {P:Program} {w:World} {K:W.Frag} {mg:Str→Option Value} {base:Heap} {x:Str} {k:Nat} {ps:List Str} {sp:Sp} {f:Addr} {fd:FuncData} (F:FnOk P w K mg base CX0 k f fd ps sp) (b:Binds K fd ps []) (kp:W.keepIn K (.ref f)=true) (m:mg x=some (.ref f)):
  Has P w K mg base x k ps sp:=⟨f,fd,F,b,kp,m⟩
theorem Oi {P:Program} {w:World} {K:W.Frag} {mg:Str→Option Value} {base:Heap} {k:Nat} {ps:List Str} {sp:Sp} {f:Addr} {fd:FuncData} (no:∀vs H Q E,¬sp vs H Q E):FnOk P w K mg base CX0 k f fd ps sp:=
 ⟨fun vs H Q E h=>absurd h (no vs H Q E),fun A outer s H args us vs Q E _ _ _ _ h=>absurd h (no vs H Q E)⟩
def ue (t T:String):Option Bool:=if (Value.type t == Value.type T)=true then some true else if W.kitMeta T=true then (PySem.fastBuiltinMro t).map (·.contains (.type T)) else none
theorem Pa {K:W.Frag} {t T:String} {b:Bool} (h:ue t T=some b):W.kitOne K (.type t) (.type T)=some b:=h
theorem sX {K:W.Frag}:W.kitOne K (.type "list") (.type "list")=some true:=Pa (by decide +kernel)
theorem sJ {K:W.Frag}:W.kitOne K (.type "tuple") (.type "list")=some false:=Pa (by decide +kernel)
section
variable {X:Cx}
theorem js {ns:List Int} {us:List Value} (r:Vals (ns.map V.int) us) {i:Nat} {u:Value} (h:us[i]?=some u):∃t,u=.int (ns.getD i 0) t:=IntsAre.int_at (Uo r) i u h
theorem Tg (hc:X.calm=true):CallR X (.builtin "sum") (fun xs H Q=>∃(p:Addr) (ns:List Int),xs=[.ref p]∧SqL X.K H p (ns.map V.int)∧Q (.int ns.sum) H):=by
 intro pins s σ H xs us Q I r h
 obtain ⟨p,ns,rfl,hq,q⟩:=h
 obtain ⟨u,rfl,ru⟩:=Xo r
 cases ru
 obtain ⟨its,rv,pl,hz⟩:=I.list hq
 have hl:=rv.length
 rw [List.length_map] at hl
 have hlt:p<s.heap.objs.size:=by
  obtain ⟨o,n,e,_⟩:=pl
  exact Heap.lt_size e
 refine call_sum_walkG (wpAny_pyIter_list pl.isList ?_)
 have hh:X.A.in1.handled=none:=by simpa using I.ok.hd hc
 refine ⟨s.heap.objs.size,_,_,_,_,_,fun i=>ns.getD i 0,rfl,Walks.list hh _ p (Nat.ne_of_lt hlt) its.toArray,⟨⟨_,Heap.get?_push_size _ rfl,rfl,rfl⟩,pl.isList.push _⟩,fun b hb=>?_,fun i v hv=>?_,fun h' tk t' kp=>?_⟩
 ·rw [Heap.size_push]
  rcases List.mem_cons.mp hb with e | e
  ·rw [e];exact Nat.lt_succ_self _
  ·rw [List.mem_singleton.mp e];exact Nat.lt_succ_of_lt hlt
 ·exact js rv (by simpa using hv)
 ·have e:preSum (fun i=>ns.getD i 0) its.toArray.size=ns.sum:=by
   rw [PyProof.Rows.preSum_getD,List.size_toArray,←hl,List.take_length]
  rw [e]
  refine ⟨.int ns.sum,H,I.kept fun b o eb=>kp b o ?_ (Heap.get?_push_of_some _ eb),⟨_,rfl⟩,q⟩
  intro hb
  rw [List.mem_singleton.mp hb] at eb
  exact absurd (Heap.lt_size eb) (Nat.lt_irrefl _)
end
section
variable {prog:Program} {w:World} {A:Around} {R:Result→Shared→Prop} {I:Addr} {fp wr:List Addr} {n:Nat} {P:Nat→Value→Prop} {St:Nat→Heap→Prop}
end
section
variable {prog:Program} {w:World} {A:Around} {E:Value→Shared→Prop} {s:Shared}
end
section
variable {X:Cx}
end
theorem DV.th_inv {H:Hp} {v:V} {t:Th} (h:DV H v t.D):∃c,v=.ref c∧H c=some (.tup t.vs):=by
 obtain ⟨c,xs,rfl,e,q⟩:=DV.tup_inv h
 obtain ⟨_,_,rfl,k1,q⟩:=q.cons_inv
 obtain ⟨_,_,rfl,k2,q⟩:=q.cons_inv
 obtain ⟨_,_,rfl,k3,q⟩:=q.cons_inv
 obtain ⟨_,_,rfl,k4,q⟩:=q.cons_inv
 have:=q.nil_inv
 subst this
 cases k1
 cases k2
 cases k3
 cases k4
 exact ⟨c,rfl,e⟩
theorem DVs.th_at {H:Hp} {xs:List V} {ts:List Th} {i:Nat} {x:V} (h:DVs H xs (ts.map Th.D)) (hx:xs[i]?=some x):∃t c,ts[i]?=some t∧x=.ref c∧H c=some (.tup t.vs)∧t∈ts:=by
 obtain ⟨d,hd,dv⟩:=DVs.getV h hx
 rw [List.getElem?_map] at hd
 obtain ⟨t,ht,rfl⟩:=Option.map_eq_some_iff.mp hd
 obtain ⟨c,rfl,e⟩:=DV.th_inv dv
 exact ⟨t,c,ht,rfl,e,List.mem_of_getElem? ht⟩
theorem Y6 {α:Type} {l:List α} {i:Nat} {x:α} (h:l[i]?=some x):l.take (i+1)=l.take i++[x]:=by rw [List.take_add_one,h];rfl
theorem fK {K:W.Frag} {a:Addr} {xs:List V} {ts:List Th} {k:Nat} {g:TG} {tt:TT} {te:TE} {σ:St} {H:Hp} {Q:VK} (p:Th→Bool) (f:Th→V) (e:H a=some (.lst xs)) (dv:DVs H xs (ts.map Th.D)) (hl:ts.length≤100000)
  (hs:∀(t:Th) (c:Addr) (ys:List V) (C:List V→Hp→Prop),t∈ts→H c=some (.tup t.vs)→(p t=true→C (ys++[f t]) H)→(p t=false→C ys H)→g (.ref c) (List.replicate k none++σ) H fun σ2 H2=>Wk σ2 (List.replicate k none++σ)∧tt σ2 H2 fun ok H3=>
   if ok=true then te σ2 H3 fun y H4=>C (ys++[y]) H4 else C ys H3)
  (hd:∀q,H q=none→Q (.ref q) (upd H q (.lst ((ts.filter p).map f)))):
  CompR (Itl K a) H k g tt te σ Q:=by
 have dl:=dv.length
 rw [List.length_map] at dl
 have le:∀i,(((ts.take i).filter p).map f).length≤100000:=fun i=>by
  rw [List.length_map]
  have h1:=List.length_filter_le p (ts.take i)
  rw [List.length_take] at h1
  omega
 refine W3 (xs:=xs) (fun i ys H'=>H'=H∧ys=((ts.take i).filter p).map f) ⟨rfl,rfl⟩ ?_ ?_ ?_
 ·rintro i ys H' _ ⟨rfl,_⟩
  exact SqL.of e
 ·rintro i x ys H' C hx ⟨rfl,rfl⟩ hC
  obtain ⟨t,c,ht,rfl,ec,hm⟩:=DVs.th_at dv hx
  refine ⟨Zn (by have:=le i;omega),hs t c _ C hm ec (fun hp=>hC _ _ ⟨rfl,?_⟩) (fun hp=>hC _ _ ⟨rfl,?_⟩)⟩
  ·rw [Y6 ht,List.filter_append,List.map_append,List.filter_cons,hp]
   rfl
  ·rw [Y6 ht,List.filter_append,List.filter_cons,hp]
   simp
 ·rintro ys H' ⟨rfl,rfl⟩
  rw [dl,List.take_length]
  refine ⟨Zb (by have:=le ts.length;rw [List.take_length] at this;omega),hd⟩
theorem Q2 {α:Type} (l:List α):l.filter (fun _=>true)=l:=by
 induction l with
 | nil=>rfl
 | cons a l ih=>simp
theorem fG {H:Hp}:∀ns:List Int,DVs H (ns.map V.int) (ns.map PyData.int)
 | []=>.nil
 | n::r=>.cons (.int n) (fG r)
theorem lN (ns:List Int):(PyData.list (ns.map PyData.int)).canLay0=true∧(PyData.list (ns.map PyData.int)).depth≤1:=Vn (n:=0) ns fun n _=>by simp [PyData.canLay0,PyData.depth]
section
variable {κ:Type} [DecidableEq κ]
def bK (kvs:List (κ×V)) (k:κ):Option V:=(kvs.find? fun kv=>decide (kv.1=k)).map (·.2)
def ci (kvs:List (κ×V)) (k:κ) (v:V):List (κ×V):=
 if (kvs.any fun kv=>decide (kv.1=k))=true then kvs.map (fun kv=>if kv.1=k then (kv.1,v) else kv) else kvs++[(k,v)]
theorem Uq {p:κ×V} {r:List (κ×V)} {k:κ} (e:p.1=k):bK (p::r) k=some p.2:=by simp [bK,List.find?_cons,e]
theorem Ur {p:κ×V} {r:List (κ×V)} {k:κ} (e:¬p.1=k):bK (p::r) k=bK r k:=by simp [bK,List.find?_cons,e]
theorem Us (k:κ):∀kvs:List (κ×V),(kvs.any fun kv=>decide (kv.1=k))=(bK kvs k).isSome
 | []=>rfl
 | p::r=>by
  rw [List.any_cons]
  by_cases e:p.1=k
  ·simp only [Uq e,decide_eq_true e,Bool.true_or,Option.isSome_some]
  ·rw [Ur e,decide_eq_false e,Bool.false_or];exact Us k r
theorem Vl (kvs:List (κ×V)) (k:κ) (v:V):(ci kvs k v).length≤kvs.length+1:=by
 unfold ci
 split
 ·rw [List.length_map];omega
 ·rw [List.length_append,List.length_cons,List.length_nil];omega
theorem mU {kvs:List (κ×V)} {k:κ} (v:V) (h:bK kvs k=none):ci kvs k v=kvs++[(k,v)]:=by
 unfold ci
 rw [Us,h]
 exact if_neg (by decide)
theorem RelO.isSome_eq {o:Option V} {u:Option Value} (r:RelO o u):o.isSome=u.isSome:=by
 cases o with
 | none=>cases u with
  | none=>rfl
  | some _=>exact (show False from r).elim
 | some _=>cases u with
  | none=>exact (show False from r).elim
  | some _=>rfl
theorem RelO.getD {o:Option V} {u:Option Value} {d:V} {d':Value} (r:RelO o u) (rd:RelV d d'):RelV (o.getD d) (u.getD d'):=by
 cases o with
 | none=>cases u with
  | none=>exact rd
  | some _=>exact (show False from r).elim
 | some _=>cases u with
  | none=>exact (show False from r).elim
  | some _=>exact r
theorem KV.val {kvs:List (κ×V)} {vs:List (κ×Value)} (r:KV kvs vs) (k:κ):RelO (bK kvs k) (valueAt vs k):=by
 unfold KV at r
 induction r with
 | nil=>exact True.intro
 | @cons p q ps qs h t ih=>
  obtain ⟨h1,h2⟩:=h
  by_cases e:p.1=k
  ·have e':q.1=k:=h1.symm.trans e
   have b:valueAt (q::qs) k=some q.2:=by simp [valueAt,List.find?_cons,e']
   rw [Uq e,b];exact h2
  ·have e':¬q.1=k:=fun z=>e (h1.trans z)
   have b:valueAt (q::qs) k=valueAt qs k:=by simp [valueAt,List.find?_cons,e']
   rw [Ur e,b];exact ih
theorem KV.any {kvs:List (κ×V)} {vs:List (κ×Value)} (r:KV kvs vs) (k:κ):(kvs.any fun kv=>decide (kv.1=k))=vs.any fun kv=>decide (kv.1=k):=by
 unfold KV at r
 induction r with
 | nil=>rfl
 | cons h t ih=>rw [List.any_cons,List.any_cons,ih,h.1]
theorem KV.repl {kvs:List (κ×V)} {vs:List (κ×Value)} (r:KV kvs vs) (k:κ) {y:V} {u:Value} (ry:RelV y u):
  KV (kvs.map fun kv=>if kv.1=k then (kv.1,y) else kv) (vs.map fun kv=>if kv.1=k then (kv.1,u) else kv):=by
 unfold KV at r ⊢
 induction r with
 | nil=>exact .nil
 | @cons p q ps qs h t ih=>
  rw [List.map_cons,List.map_cons]
  refine .cons ?_ ih
  obtain ⟨h1,h2⟩:=h
  by_cases e:p.1=k
  ·rw [if_pos e,if_pos (h1.symm.trans e)];exact ⟨h1,ry⟩
  ·rw [if_neg e,if_neg (fun z=>e (h1.trans z))];exact ⟨h1,h2⟩
theorem KV.put {kvs:List (κ×V)} {vs:List (κ×Value)} (r:KV kvs vs) (k:κ) {y:V} {u:Value} (ry:RelV y u):KV (ci kvs k y) (stored vs k u):=by
 unfold ci stored
 rw [r.any k]
 by_cases e:(vs.any fun kv=>decide (kv.1=k))=true
 ·rw [if_pos e,if_pos e];exact r.repl k ry
 ·rw [if_neg e,if_neg e];exact Paired.snoc r ⟨rfl,ry⟩
theorem KV.keys {kvs:List (κ×V)} {vs:List (κ×Value)} (r:KV kvs vs):kvs.map (·.1)=vs.map (·.1):=by
 unfold KV at r
 induction r with
 | nil=>rfl
 | cons h t ih=>rw [List.map_cons,List.map_cons,ih,h.1]
theorem KV.length {kvs:List (κ×V)} {vs:List (κ×Value)} (r:KV kvs vs):kvs.length=vs.length:=Paired.length r
end
theorem Pd {P:Program} {w:World} {k:Key} {u:Value} (r:RelV (kV k) u):(af P w).is k u=true:=by
 cases k with
 | inl i=>obtain ⟨t,e⟩:=(show ∃t,u=Value.int i t from r);subst e;exact Si P w i t
 | inr x=>obtain ⟨t,e⟩:=(show ∃t,u=Value.str x t from r);subst e;exact Sh P w x t
theorem Pe {P:Program} {w:World}:∀{ks:List Key} {us:List Value},Vals (ks.map kV) us→ItemsAre (af P w) ks us
 | [],_,r=>by rw [List.map_nil] at r;cases r;exact .nil
 | k::ks,_,r=>by
  rw [List.map_cons] at r
  cases r with
  | cons h t=>exact .cons (Pd h) (Pe t)
abbrev KT (H:Hp):List (List Key×V)→List (List Key×Addr×Value)→Prop:=Paired fun p q=>p.1=q.1∧H q.2.1=some (.tup (p.1.map kV))∧RelV p.2 q.2.2
theorem KT.val {H:Hp} {kvs:List (List Key×V)} {xs:List (List Key×Addr×Value)} (r:KT H kvs xs) (k:List Key):RelO (bK kvs k) ((atKey xs k).map (·.2)):=by
 induction r with
 | nil=>exact True.intro
 | @cons p q ps qs h t ih=>
  obtain ⟨h1,_,h2⟩:=h
  by_cases e:p.1=k
  ·have e':q.1=k:=h1.symm.trans e
   have b:atKey (q::qs) k=some q.2:=by simp [atKey,List.find?_cons,e']
   rw [Uq e,b];exact h2
  ·have e':¬q.1=k:=fun z=>e (h1.trans z)
   have b:atKey (q::qs) k=atKey qs k:=by simp [atKey,List.find?_cons,e']
   rw [Ur e,b];exact ih
theorem KT.repl {H:Hp} {kvs:List (List Key×V)} {xs:List (List Key×Addr×Value)} (r:KT H kvs xs) (k:List Key) {y:V} {u:Value} (ry:RelV y u):
  KT H (kvs.map fun kv=>if kv.1=k then (kv.1,y) else kv) (xs.map (putAt k u)):=by
 induction r with
 | nil=>exact .nil
 | @cons p q ps qs h t ih=>
  rw [List.map_cons,List.map_cons]
  refine .cons ?_ ih
  obtain ⟨h1,h2,h3⟩:=h
  unfold putAt
  by_cases e:p.1=k
  ·rw [if_pos e,if_pos (h1.symm.trans e)];exact ⟨h1,h2,ry⟩
  ·rw [if_neg e,if_neg (fun z=>e (h1.trans z))];exact ⟨h1,h2,h3⟩
theorem KT.put {H:Hp} {kvs:List (List Key×V)} {xs:List (List Key×Addr×Value)} (r:KT H kvs xs) (k:List Key) {b:Addr} {y:V} {u:Value} (hb:H b=some (.tup (k.map kV))) (ry:RelV y u):
  KT H (ci kvs k y) (storedH xs k b u):=by
 have e:(kvs.any fun kv=>decide (kv.1=k))=(atKey xs k).isSome:=by
  rw [Us,(r.val k).isSome_eq,Option.isSome_map]
 unfold ci storedH
 rw [e]
 by_cases q:(atKey xs k).isSome=true
 ·rw [if_pos q,if_pos q];exact r.repl k ry
 ·rw [if_neg q,if_neg q];exact Paired.snoc r ⟨rfl,hb,ry⟩
theorem KT.keeps {H H':Hp} {kvs:List (List Key×V)} {xs:List (List Key×Addr×Value)} (r:KT H kvs xs) (ht:∀b ys,H b=some (.tup ys)→H' b=some (.tup ys)):KT H' kvs xs:=
 Paired.mapP r fun _ _ z=>⟨z.1,ht _ _ z.2.1,z.2.2⟩
section
variable {P:Program} {w:World} {H:Hp} {h:Heap} {a:Addr}
theorem qQ {u:HO} (ok:HOk P w H h) (e:Rd H a u):ObjOk P w H h a u:=e.ok ok
theorem Pk {kvs:List (Key×V)} (ok:HOk P w H h) (e:Rd H a (.dK kvs)):kvs.length≤sizeLine∧(a == sysModules)=false∧∃vs,KV kvs vs∧h.DictOf (af P w) a vs:=
 show ObjOk P w H h a (.dK kvs) from qQ ok e
theorem Sm {kvs:List (Key×V)} (ok:HOk P w H h) (e:H a=some (.dK kvs)):kvs.length≤sizeLine∧(a == sysModules)=false∧∃vs,KV kvs vs∧h.DictOf (af P w) a vs:=Pk ok (.inl e)
theorem Oo {ks:List Key} (ok:HOk P w H h) (e:H a=some (.tup (ks.map kV))):(tupleKind (af P w)).is h ks a:=by
 obtain ⟨_,its,r,o,h1,h2,n,h3⟩:=(show ObjOk P w H h a (.tup (ks.map kV)) from ok a _ e)
 exact ⟨o,its.toArray,n,h1,h2.1,h3,by simpa using Pe r⟩
theorem gw {kvs:List (List Key×V)} (ok:HOk P w H h) (e:Rd H a (.dT kvs)):kvs.length≤sizeLine∧(a == sysModules)=false∧
  ∃xs,KT H kvs xs∧h.DictOfH (tupleKind (af P w)) a xs:=by
 obtain ⟨z,y,xs,r,o,es,ep,h1,h2,h3,h4,h5⟩:=(show ObjOk P w H h a (.dT kvs) from qQ ok e)
 refine ⟨z,y,xs,r,o,es,ep,h1,h2,h3,h4,fun x hx=>?_,h5⟩
 have all:∀{l:List (List Key×V)} {m:List (List Key×Addr×Value)},KT H l m→∀x∈m,(tupleKind (af P w)).is h x.1 x.2.1:=by
  intro l m q
  induction q with
  | nil=>intro x hx;exact nomatch hx
  | @cons p q ps qs hq t ih=>
   intro x hx
   rcases List.mem_cons.mp hx with e | hx
   ·subst e
    exact Oo ok (by rw [←hq.1];exact hq.2.1)
   ·exact ih x hx
 exact all r x hx
theorem ug {kvs:List (List Key×V)} (ok:HOk P w H h) (e:H a=some (.dT kvs)):kvs.length≤sizeLine∧(a == sysModules)=false∧
  ∃xs,KT H kvs xs∧h.DictOfH (tupleKind (af P w)) a xs:=gw ok (.inl e)
end
def DGet (H:Hp) (a:Addr) (y:V) (r:Option V):Prop:=
 (∃kvs k,Rd H a (.dK kvs)∧y=kV k∧r=bK kvs k)∨∃kvs k b,Rd H a (.dT kvs)∧y=.ref b∧H b=some (.tup (k.map kV))∧r=bK kvs k
def DPut (H:Hp) (a:Addr) (y v:V) (H':Hp):Prop:=
 (∃kvs k,H a=some (.dK kvs)∧y=kV k∧kvs.length<sizeLine∧H'=upd H a (.dK (ci kvs k v)))∨
 ∃kvs k b,H a=some (.dT kvs)∧y=.ref b∧H b=some (.tup (k.map kV))∧kvs.length<sizeLine∧H'=upd H a (.dT (ci kvs k v))
theorem DGet.k {H:Hp} {a:Addr} {kvs:List (Key×V)} {k:Key} (e:H a=some (.dK kvs)):DGet H a (kV k) (bK kvs k):=.inl ⟨kvs,k,.inl e,rfl,rfl⟩
theorem DPut.k {H:Hp} {a:Addr} {kvs:List (Key×V)} {k:Key} {v:V} (e:H a=some (.dK kvs)) (hl:kvs.length<sizeLine):DPut H a (kV k) v (upd H a (.dK (ci kvs k v))):=.inl ⟨kvs,k,e,rfl,hl,rfl⟩
section
variable {X:Cx} {pins:List (Addr×Obj)} {σ:St} {H:Hp} {s:Shared} {a:Addr} {y v:V} {u r:Value} {o:Option V} {A:Around} {E:Value→Shared→Prop}
theorem Inv.big (I:Inv X pins σ H s):sysModules<s.heap.objs.size:=by
 have h:mainGlobals<s.heap.objs.size:=(I.mod.glob.keeps I.bk).lt
 exact Nat.lt_trans (by decide) h
theorem j6 {Q:Value→Shared→Prop} (hu:A.units+1<cLine) (I:Inv X pins σ H s) (g:DGet H a y (some v)) (ry:RelV y u) (h:∀w' s',Inv X pins σ H s'→RelV v w'→Q w' s'):
  wpAny (model X.prog X.w) A (getItem (.ref a) u) Q E s:=by
 rcases g with ⟨kvs,k,e,ey,l⟩ | ⟨kvs,k,b,e,ey,eb,l⟩
 ·subst ey
  obtain ⟨z,hd,vs,rel,dd⟩:=Pk I.hok e
  obtain ⟨w',hw,rw'⟩:=RelO.some_of (v:=v) (o:=valueAt vs k) (by rw [l];exact rel.val k)
  exact wpAny_getItem_of (Pd ry) dd.mapOf hw (h w' _ (I.tok _) rw')
 ·subst ey
  cases (show u=Value.ref b from ry)
  obtain ⟨z,hd,xs,rel,dd⟩:=gw I.hok e
  obtain ⟨w',hw,rw'⟩:=RelO.some_of (v:=v) (o:=(atKey xs k).map (·.2)) (by rw [l];exact rel.val k)
  obtain ⟨p,hp,hp2⟩:=Option.map_eq_some_iff.mp hw
  refine wpAny_getItem_heap (tupleKind_room_in1 hu) (Oo I.hok eb) dd hp ?_
  rw [hp2]
  exact h w' _ (I.tok _) rw'
theorem ju {h':Heap} {t':Nat} {ob:HO} (I:Inv X pins σ H s) (mu:Mut (H a)) (hs:Heap.SameBut a s.heap h') (he:∃q,h'.get? a=some q) (new:ObjOk X.prog X.w (upd H a ob) h' a ob):
  Inv X pins σ (upd H a ob) {s with heap:=h',toks:=t'}:=
 I.write (x:=a) (e:=a) mu (.inl rfl) (fun b q hb z=>(hs.2 b hb).trans z) he new
theorem sU {P:Program} {w:World} {H':Hp} {h':Heap} {kvs:List (Key×V)} {vs:List (Key×Value)} (z:kvs.length≤sizeLine) (hd:(a == sysModules)=false) (rel:KV kvs vs) (dd:h'.DictOf (af P w) a vs):
  ObjOk P w H' h' a (.dK kvs):=⟨z,hd,vs,rel,dd⟩
theorem lA {H':Hp} {Q:Unit→Shared→Prop} (hu:A.units+1<cLine) (I:Inv X pins σ H s) (g:DPut H a y v H') (ry:RelV y u) (rv:RelV v r) (h:∀s',Inv X pins σ H' s'→Q () s'):
  wpAny (model X.prog X.w) A (setItem (.ref a) u r) Q E s:=by
 rcases g with ⟨kvs,k,e,ey,l,eH⟩ | ⟨kvs,k,b,e,ey,eb,l,eH⟩
 ·subst ey eH
  obtain ⟨z,hd,vs,rel,dd⟩:=Sm I.hok e
  have hz:vs.length≤sizeLine:=by rw [←rel.length];exact z
  have hl:(ci kvs k v).length≤sizeLine:=by have:=Vl kvs k v;omega
  refine wpAny_setItem_pairs (hsz:=hz) (Pd ry) dd fun h' dd' hs=>h _ ?_
  have he:∃q,h'.get? a=some q:=let ⟨q,_,_,hq,_⟩:=dd';⟨q,hq⟩
  exact ju I (by rw [e];exact True.intro) hs he (sU hl hd (rel.put k rv) dd')
 ·subst ey eH
  cases (show u=Value.ref b from ry)
  obtain ⟨z,hd,xs,rel,dd⟩:=ug I.hok e
  have hz:xs.length≤sizeLine:=by rw [←Paired.length rel];exact z
  have hl:(ci kvs k v).length≤sizeLine:=by have:=Vl kvs k v;omega
  refine wpAny_setItem_heap (hsz:=hz) (tupleKind_room_in1 hu) (Oo I.hok eb) dd fun h' dd' hs=>h _ ?_
  obtain ⟨q,es,ep,hq,h2,h3,h4,_,h5⟩:=dd'
  refine ju I (by rw [e];exact True.intro) hs ⟨q,hq⟩ ⟨hl,hd,_,(rel.put k eb rv).keeps fun c ys ec=>?_,q,es,ep,hq,h2,h3,h4,h5⟩
  rw [Zl (qZ ec e (fun z=>nomatch z))]
  exact ec
end
section
variable {X:Cx} {pins:List (Addr×Obj)} {σ:St} {H:Hp} {s:Shared} {a:Addr} {kvs:List (Key×V)} {k:Key} {u:Value} {A:Around} {E:Value→Shared→Prop}
end
def vc (i:Expr):Prop:=∀ov iv,subscripted i false ov iv=operate [ov,iv] (getItem ov iv)
theorem pX {prog:Program} {w:World} {A:Around} {E:Value→Shared→Prop} {s:Shared} {env:Env} {value slice:Expr} {pos:Pos} {T id:String} {Q:Value→Shared→Prop}
  (hl:typeLookup (.type T) "__getitem__"=pure (some (.builtin id))) (hs:vc slice)
  (h:wpAny (model prog w) A (eval value env) (fun o s₁=>wpAny (model prog w) A (eval slice env) (fun i s₂=>s₂.TypeIs o T∧wpAny (model prog w) A (getItem o i) Q E s₂) E s₁) E s):
  wpAny (model prog w) A (eval (.Subscript value slice pos) env) Q E s:=by
 refine Subscript_ (wpAny_mono h (fun o s₁ h₁=>wpAny_mono h₁ (fun i s₂ h₂=>?_) fun _ _ x=>x) fun _ _ x=>x)
 obtain ⟨hT,h₂⟩:=h₂
 unfold subscriptTail
 refine wpAny_bind ?_
 rw [getitemInPython_of_ne hT.not_modules]
 refine wpAny_bind (wpAny_specialOf hT hl ?_)
 have fin:wpAny (model prog w) A (subscripted slice false o i) (fun r s₃=>wpAny (model prog w) A (letTemporaryGo value o r >>= fun _=>pure r) Q E s₃) E s₂:=by
  rw [hs o i]
  exact wpAny_operating (wpAny_mono h₂ (fun r s₃ h₃=>wpAny_bind (wpAny_letTemporaryGo (wpAny_pure h₃))) fun _ _ x=>x)
 first
  | exact wpAny_pure (wpAny_bind fin)
  | exact wpAny_bind (wpAny_pure (wpAny_bind fin))
  | exact wpAny_bind fin
theorem gA {X:Cx} {pins:List (Addr×Obj)} {σ:St} {H:Hp} {s:Shared} {a:Addr} {y:V} {o:Option V} (I:Inv X pins σ H s) (g:DGet H a y o):s.TypeIs (.ref a) "dict":=by
 rcases g with ⟨kvs,k,e,_,_⟩ | ⟨kvs,k,b,e,_,_,_⟩
 ·obtain ⟨_,_,vs,_,dd⟩:=Pk I.hok e
  exact dd.typeIs
 ·obtain ⟨_,_,xs,_,dd⟩:=gw I.hok e
  exact dd.typeIs
def vd (td ty:TE):TE:=fun σ H Q=>td σ H fun x H1=>ty σ H1 fun y H2=>∃a v,x=.ref a∧DGet H2 a y (some v)∧Q v H2
def uO (td ty tv:TE):TS:=fun D σ H=>tv σ H fun v H1=>td σ H1 fun x H2=>ty σ H2 fun y H3=>∃a H4,x=.ref a∧DPut H3 a y v H4∧D.nx σ H4
section
variable {X:Cx} {o i e value:Expr} {pos pos' tpos:Pos} {td ty tv:TE}
theorem Og (hu:X.A.units+1<cLine) (ho:PE X o td) (hi:PE X i ty) (hs:vc i):PE X (.Subscript o i pos) (vd td ty):=by
 intro pins s σ H Q I h
 refine pX PySem.F.slot_dict_getitem.lookup hs (thn (ho pins s σ H _ I h) fun u s1 ⟨x,H1,I1,rx,q1⟩=>thn (hi pins s1 σ H1 _ I1 q1) fun iv s2 hpat=>?_)
 obtain ⟨y,H2,I2,ry,a,v,ex,g,q2⟩:=hpat
 subst ex
 obtain rfl:u=Value.ref a:=rx
 exact ⟨gA I2 g,j6 hu I2 g ry fun w' s3 I3 rw'=>⟨v,H2,I3,rw',q2⟩⟩
theorem T0 (hu:X.A.units+1<cLine) (ho:PE X o td) (hi:PE X i ty) (hv:PE X value tv) (hs:swapsWith value (some (.Subscript o i pos')) pos.line X.env=pure false):
  PS X (.Assign [.Subscript o i pos'] value pos) (uO td ty tv):=by
 intro pins s σ H D I h
 refine wpAny_Assign_Subscript (thn (hv pins s σ H _ I h) fun r s1 ⟨v,H1,I1,rv,q1⟩=>thn (ho pins s1 σ H1 _ I1 q1) fun u s2 ⟨x,H2,I2,rx,q2⟩=>thn (hi pins s2 σ H2 _ I2 q2) fun iv s3 hpat=>?_) hs
 obtain ⟨y,H3,I3,ry,a,H4,ex,g,q3⟩:=hpat
 subst ex
 obtain rfl:u=Value.ref a:=rx
 exact lA hu I3 g ry rv fun s4 I4=>⟨σ,H4,I4,q3⟩
end
theorem nK {P:Program} {w:World} {H:Hp} (h:Heap) (hb:sysModules<h.objs.size):ObjOk P w H (h.push {cls:=.type "dict",data:=.dict #[]}) h.objs.size (.dK []):=
 ⟨Nat.zero_le _,beq_eq_false_iff_ne.mpr (Ne.symm (Nat.ne_of_lt hb)),[],.nil,Heap.DictOf.new h⟩
def sd:TE:=fun _ H Q=>∀p,H p=none→Q (.ref p) (upd H p (.dK []))
section
variable {X:Cx} {pos:Pos}
theorem e_:PE X (.Dict [] [] pos) sd:=fun pins s σ H Q I h=>
 wpAny_Dict_empty ⟨.ref s.heap.objs.size,_,I.laid (a:=s.heap.objs.size) (o:=.dK []) (t':=s.toks) (fun _ _ q=>Heap.get?_push_of_some _ q) (Nat.le_refl _) (nK s.heap I.big),rfl,h _ (I.hok.fresh (Nat.le_refl _))⟩
end
def cU (kvs more:List (Key×V)):List (Key×V):=more.foldl (fun acc kv=>ci acc kv.1 kv.2) kvs
theorem KV.merge:∀{more:List (Key×V)} {rs:List (Key×Value)} {kvs:List (Key×V)} {vs:List (Key×Value)},KV more rs→KV kvs vs→KV (cU kvs more) (merged vs rs):=by
 intro more rs kvs vs r
 unfold KV at r
 induction r generalizing kvs vs with
 | nil=>intro q;exact q
 | @cons p q ps qs h t ih=>
  intro r0
  have e:KV (ci kvs p.1 p.2) (stored vs q.1 q.2):=by
   have:=r0.put p.1 h.2
   rw [←h.1];exact this
  exact ih e
theorem U5:∀(more kvs:List (Key×V)),(cU kvs more).length≤kvs.length+more.length
 | [],kvs=>by show kvs.length≤kvs.length+0;omega
 | p::r,kvs=>by
  have h1:=U5 r (ci kvs p.1 p.2)
  have h2:=Vl kvs p.1 p.2
  show (cU (ci kvs p.1 p.2) r).length≤_
  rw [List.length_cons];omega
structure M2 (X:Cx) (o:Expr) (m:Str) (apos:Pos) (e f:Expr) (cpos:Pos):Prop where
 base:attributeBase o m X.env (eval o X.env)=eval o X.env
 few:((backTo cpos (starEach [e,f] X.env)).all (fun x=>!x.1) && (backToKw cpos (keywordEach [] X.env)).all (fun x=>x.1.isSome)
  && decide (([e,f]:List Expr).length+([]:List Keyword).length+(if ([]:List Keyword).isEmpty then 0 else 1)<30))=true
 line:(apos.endLine == cpos.line)=true
 trees:backTo cpos (starEach [e,f] X.env)=[(false,eval e X.env),(false,eval f X.env)]
def IsD (H:Hp) (a:Addr):Prop:=(∃kvs,Rd H a (.dK kvs))∨∃kvs,Rd H a (.dT kvs)
theorem oH {X:Cx} {pins:List (Addr×Obj)} {σ:St} {H:Hp} {s:Shared} {a:Addr} (I:Inv X pins σ H s) (d:IsD H a):
  s.TypeIs (.ref a) "dict"∧(∀b,Value.ref a=.ref b→∃ob,s.heap.get? b=some ob∧ob.dict=none)∧(a == sysModules)=false:=by
 rcases d with ⟨kvs,e⟩ | ⟨kvs,e⟩
 ·obtain ⟨_,hd,vs,_,dd⟩:=Pk I.hok e
  refine ⟨dd.typeIs,fun b q=>?_,hd⟩
  cases q
  obtain ⟨ob,_,_,h1,h2,_⟩:=dd
  exact ⟨ob,h1,h2.2.1⟩
 ·obtain ⟨_,hd,xs,_,dd⟩:=gw I.hok e
  refine ⟨dd.typeIs,fun b q=>?_,hd⟩
  cases q
  obtain ⟨ob,_,_,h1,h2,_⟩:=dd
  exact ⟨ob,h1,h2.2.1⟩
section
variable {X:Cx} {pins:List (Addr×Obj)} {σ:St} {H:Hp} {s:Shared} {a:Addr} {y d:V} {u r:Value} {o:Option V} {A:Around} {E:Value→Shared→Prop}
theorem tP {Q:Value→Shared→Prop} (hu:A.units+1<cLine) (I:Inv X pins σ H s) (g:DGet H a y o) (ry:RelV y u) (rd:RelV d r) (h:∀w' s',Inv X pins σ H s'→RelV (o.getD d) w'→Q w' s'):
  wpAny (model X.prog X.w) A (call (.builtin "dict.get") [.ref a,u,r]) Q E s:=by
 rcases g with ⟨kvs,k,e,ey,l⟩ | ⟨kvs,k,b,e,ey,eb,l⟩
 ·subst ey
  obtain ⟨z,hd,vs,rel,dd⟩:=Pk I.hok e
  refine call_meetsIn PySem.F.slot_dict_get dd.typeIs PySem.F.entry_dict_get (PySem.F.args_dict_get_3 _ _ _) (meets_dict_get_default (af X.prog X.w) a (Pd ry) hd r) ⟨_,dd.mapOf,h _ _ (I.tok _) ?_⟩
  rw [l]
  exact (rel.val k).getD rd
 ·subst ey
  cases (show u=Value.ref b from ry)
  obtain ⟨z,hd,xs,rel,dd⟩:=gw I.hok e
  refine call_meetsIn PySem.F.slot_dict_get dd.typeIs PySem.F.entry_dict_get (PySem.F.args_dict_get_3 _ _ _) (meetsH_dict_get_default (tupleKind (af X.prog X.w)) a b hd r) ⟨tupleKind_room_in1 hu,k,xs,Oo I.hok eb,dd,h _ _ (I.tok _) ?_⟩
  rw [l]
  exact (rel.val k).getD rd
end
def rD (td ty tx:TE):TE:=fun σ H Q=>td σ H fun x H1=>∃a,x=.ref a∧IsD H1 a∧ty σ H1 fun y H2=>tx σ H2 fun z H3=>∃o,DGet H3 a y o∧Q (o.getD z) H3
section
variable {X:Cx} {o e f:Expr} {apos cpos:Pos} {td ty tx:TE}
theorem Vi (hu:X.A.units+1<cLine) (ho:PE X o td) (he:PE X e ty) (hf:PE X f tx) (m:M2 X o "get" apos e f cpos):PE X (.Call (.Attribute o "get" apos) [e,f] [] cpos) (rD td ty tx):=by
 intro pins s σ H Q I h
 refine wpAny_Call_method m.base m.few m.line PySem.F.plainAttrs_dict PySem.F.slot_dict_get PySem.F.type_dict_get (thn (ho pins s σ H _ I h) fun u s1 hpat=>?_)
 obtain ⟨x,H1,I1,rx,a,ex,d,q1⟩:=hpat
 subst ex
 obtain rfl:u=Value.ref a:=rx
 obtain ⟨t1,t2,_⟩:=oH I1 d
 refine ⟨t1,t2,?_⟩
 rw [m.trees]
 refine Calls.callWith_builtin rfl (Calls.evalArgs_plain (Calls.spliced_cons (thn (he pins s1 σ H1 _ I1 q1) fun iv s2 ⟨y,H2,I2,ry,q2⟩=>
  Calls.spliced_cons (thn (hf pins s2 σ H2 _ I2 q2) fun fv s3 ⟨z,H3,I3,rz,ov,g,q3⟩=>Calls.spliced_nil ?_))))
 exact tP hu I3 g ry rz fun w' s4 I4 rw'=>⟨_,H3,I4,rw',q3⟩
end
section
variable {X:Cx} {pins:List (Addr×Obj)} {σ:St} {H:Hp} {s:Shared} {a:Addr} {kvs:List (Key×V)} {A:Around} {E:Value→Shared→Prop}
end
section
variable {X:Cx} {pins:List (Addr×Obj)} {σ:St} {H:Hp} {s:Shared} {a:Addr} {y:V} {u:Value} {A:Around} {E:Value→Shared→Prop}
end
section
variable {X:Cx}
end
section
variable {κ:Type} [DecidableEq κ]
theorem qA {kvs:List (κ×V)} {k:κ} {v:V} (h:bK kvs k=some v):k∈kvs.map (·.1):=by
 have q:(kvs.any fun kv=>decide (kv.1=k))=true:=by
  rw [Us,h]
  all_goals rfl
 obtain ⟨p,hp,e⟩:=List.any_eq_true.mp q
 exact List.mem_map.mpr ⟨p,hp,of_decide_eq_true e⟩
end
def Its (x:Str):It:=⟨fun i _=>i<x.cps.size,fun i H v H'=>H'=H∧∃c,x.cps[i]?=some c∧v=.str ⟨#[c]⟩,fun i _=>x.cps.size≤i⟩
theorem lw {P:Program} {w:World} {K:W.Frag} {tg:Expr} (x:Str) (t:Tok) (it:Addr):Turn P w K tg (Its x) [it] it (fun i h=>h.IsStrIter it "str_ascii_iterator" x t i) where
 mem:=by simp
 obj:=fun i h st b hb=>by
  obtain ⟨o,e,c,d⟩:=st
  have q:b=it:=by simpa using hb
  subst q
  exact ⟨o,e,fun v z=>by rw [d] at z;cases z⟩
 keep:=fun i h h' st k=>let ⟨o,e,r⟩:=st;⟨o,k it (by simp) o e,r⟩
 item:=by
  intro X hP hw hK hc i pins s σ H E I hf st hg
  subst hP hw hK
  have hg:i<x.cps.size:=hg
  obtain ⟨f0,f1,f2,f3,f4,f5⟩:=hf it (by simp)
  refine wpAny_pyNext_ascii_item st (c:=x.cps[i]) (by simp [hg]) fun h' st' sb=>?_
  obtain ⟨o,e,c,d⟩:=id st'
  exact ⟨_,rfl,Pf (s:={s with heap:=h',toks:=s.toks+1}) e c d (by decide) ⟨.str ⟨#[x.cps[i]]⟩,H,I.turned (t':=s.toks+1) (fun b o hb e=>(sb.2 b hb).trans e) f0 f1 f3 f4 f5,⟨_,rfl⟩,⟨rfl,_,by simp [hg],rfl⟩,st',fun b hb=>(hf b hb).1⟩⟩
 done:=by
  intro X hP hw hK hc i pins s σ H E I hf st hg
  subst hP hw hK
  have hg:x.cps.size≤i:=hg
  obtain ⟨f0,f1,f2,f3,f4,f5⟩:=hf it (by simp)
  exact wpAny_pyNext_ascii_end (I.ok.hd hc) st (by simp;omega) fun h' eb=>⟨rfl,I.turned (t':=s.toks) (fun b o hb e=>eb b o hb e) f0 f1 f3 f4 f5⟩
 self:=fun _ _ _ _ _ st h=>wpAny_pyIter_striter_ascii st h
theorem kM {P:Program} {w:World} {K:W.Frag} {tg:Expr} (x:Str) (t:Tok) (it:Addr):Turn P w K tg (Its x) [it] it (fun i h=>h.IsStrIter it "str_iterator" x t i) where
 mem:=by simp
 obj:=fun i h st b hb=>by
  obtain ⟨o,e,c,d⟩:=st
  have q:b=it:=by simpa using hb
  subst q
  exact ⟨o,e,fun v z=>by rw [d] at z;cases z⟩
 keep:=fun i h h' st k=>let ⟨o,e,r⟩:=st;⟨o,k it (by simp) o e,r⟩
 item:=by
  intro X hP hw hK hc i pins s σ H E I hf st hg
  subst hP hw hK
  have hg:i<x.cps.size:=hg
  obtain ⟨f0,f1,f2,f3,f4,f5⟩:=hf it (by simp)
  refine wpAny_pyNext_wide_item st (c:=x.cps[i]) (by simp [hg]) fun h' st' sb=>?_
  obtain ⟨o,e,c,d⟩:=id st'
  exact ⟨_,rfl,Pf (s:={s with heap:=h',toks:=s.toks+1}) e c d (by decide) ⟨.str ⟨#[x.cps[i]]⟩,H,I.turned (t':=s.toks+1) (fun b o hb e=>(sb.2 b hb).trans e) f0 f1 f3 f4 f5,⟨_,rfl⟩,⟨rfl,_,by simp [hg],rfl⟩,st',fun b hb=>(hf b hb).1⟩⟩
 done:=by
  intro X hP hw hK hc i pins s σ H E I hf st hg
  subst hP hw hK
  have hg:x.cps.size≤i:=hg
  obtain ⟨f0,f1,f2,f3,f4,f5⟩:=hf it (by simp)
  exact wpAny_pyNext_wide_end (I.ok.hd hc) st (by simp;omega) fun h' eb=>⟨rfl,I.turned (t':=s.toks) (fun b o hb e=>eb b o hb e) f0 f1 f3 f4 f5⟩
 self:=fun _ _ _ _ _ st h=>wpAny_pyIter_striter_wide st h
def iStr (tl:TE):TI:=fun σ H R=>tl σ H fun v H1=>∃x,v=.str x∧R (Its x) H1
section
variable {X:Cx} {tg:Expr}
theorem sG {l:Expr} {tl:TE} (hl:PE X l tl):PI X tg l (iStr tl):=by
 intro pins s σ H R I h
 refine thn (hl pins s σ H _ I h) fun v s1 hpat=>?_
 obtain ⟨x,H1,I1,r1,q1⟩:=hpat
 obtain ⟨z,e,q⟩:=q1
 subst e
 obtain ⟨t,rfl⟩:=r1
 have fp:∀b∈[s1.heap.objs.size],dH X pins H1 b:=fun b hb=>by
  have e:b=s1.heap.objs.size:=by simpa using hb
  subst e
  exact I1.fpOk (Nat.le_refl _) (I1.hok.fresh (Nat.le_refl _))
 cases ha:z.cps.all (·<128) with
 | true=>exact wpAny_pyIter_ascii ha ⟨s1.heap.objs.size,[s1.heap.objs.size],_,_,H1,rfl,I1.kept (t':=s1.toks) (fun b o e=>Heap.get?_push_of_some _ e),lw z t _,⟨_,Heap.get?_push_size _ rfl,rfl,rfl⟩,fp,q⟩
 | false=>exact wpAny_pyIter_wide ha ⟨s1.heap.objs.size,[s1.heap.objs.size],_,_,H1,rfl,I1.kept (t':=s1.toks) (fun b o e=>Heap.get?_push_of_some _ e),kM z t _,⟨_,Heap.get?_push_size _ rfl,rfl,rfl⟩,fp,q⟩
theorem og {x:Str} {k:Nat} {g:TG} {tt:TT} {te:TE} {σ:St} {H:Hp} {Q:VK} (Pv:Nat→List V→Hp→Prop) (h0:Pv 0 [] H)
  (hs:∀i c ys H (C:List V→Hp→Prop),x.cps[i]?=some c→Pv i ys H→(∀ys' H',Pv (i+1) ys' H'→C ys' H')→ys.length<sizeLine∧g (.str ⟨#[c]⟩) (List.replicate k none++σ) H fun σ2 H2=>Wk σ2 (List.replicate k none++σ)∧tt σ2 H2 fun ok H3=>
   if ok=true then te σ2 H3 fun y H4=>C (ys++[y]) H4 else C ys H3)
  (hd:∀ys H,Pv x.cps.size ys H→ys.length≤sizeLine∧∀p,H p=none→Q (.ref p) (upd H p (.lst ys))):CompR (Its x) H k g tt te σ Q:=by
 refine ⟨fun i m ys H=>m=x.cps.size - i∧i≤x.cps.size∧Pv i ys H,⟨x.cps.size,by simp,Nat.zero_le _,h0⟩,?_⟩
 rintro i m ys H ⟨rfl,hi,p⟩
 by_cases hlt:i<x.cps.size
 ·have r:=hs i x.cps[i] ys H (fun ys' H'=>∃m',m'<x.cps.size - i∧m'=x.cps.size - (i+1)∧i+1≤x.cps.size∧Pv (i+1) ys' H') (by simp [hlt]) p fun ys' H' p'=>⟨_,by omega,rfl,hlt,p'⟩
  refine .inr ⟨hlt,r.1,fun v H' y=>?_⟩
  obtain ⟨e,c,hc,rfl⟩:=y
  subst e
  have ec:x.cps[i]=c:=by simpa [hlt] using hc
  rw [←ec]
  exact r.2
 ·have e:i=x.cps.size:=by omega
  subst e
  exact .inl ⟨Nat.le_refl _,hd ys H p⟩
theorem lc {bs:List Bool}:(List.range bs.length).all (fun i=>bs.getD i true)=bs.all id:=by
 rw [Bool.eq_iff_iff,List.all_eq_true,List.all_eq_true]
 constructor
 ·intro h b hb
  obtain ⟨i,hi,rfl⟩:=List.mem_iff_getElem.mp hb
  have q:=h i (List.mem_range.mpr hi)
  rw [List.getD_eq_getElem?_getD,List.getElem?_eq_getElem hi] at q
  exact q
 ·intro h i hi
  have hi:=List.mem_range.mp hi
  have q:=h bs[i] (List.getElem_mem hi)
  rw [List.getD_eq_getElem?_getD,List.getElem?_eq_getElem hi]
  exact q
theorem V0 (hc:X.calm=true):CallR X (.builtin "all") (fun xs H Q=>∃(p:Addr) (bs:List Bool),xs=[.ref p]∧SqL X.K H p (bs.map V.bl)∧Q (.bl (bs.all id)) H):=by
 intro pins s σ H xs us Q I r h
 obtain ⟨p,bs,rfl,hq,q⟩:=h
 obtain ⟨u,rfl,ru⟩:=Xo r
 cases ru
 obtain ⟨its,rv,pl,hz⟩:=I.list hq
 have hl:=rv.length
 rw [List.length_map] at hl
 have hlt:p<s.heap.objs.size:=by
  obtain ⟨o,n,e,_⟩:=pl
  exact Heap.lt_size e
 have hh:X.A.in1.handled=none:=by simpa using I.ok.hd hc
 refine call_all_walk (wpAny_pyIter_list pl.isList ⟨s.heap.objs.size,_,_,_,_,_,fun i=>bs.getD i true,rfl,Walks.list hh _ p (Nat.ne_of_lt hlt) its.toArray,⟨⟨_,Heap.get?_push_size _ rfl,rfl,rfl⟩,pl.isList.push _⟩,fun i v s' Q' E' hv hQ=>?_,fun h' tk kp=>?_⟩)
 ·have hv':its[i]?=some v:=by simpa using hv
  have hi:i<bs.length:=by rw [hl];exact (List.getElem?_eq_some_iff.mp hv').1
  obtain ⟨u,hu,ru⟩:=rv.get (i:=i) (x:=.bl bs[i]) (by rw [List.getElem?_map,List.getElem?_eq_getElem hi];rfl)
  rw [hv'] at hu
  cases hu
  cases (show v=Value.bool bs[i] from ru)
  have e:bs.getD i true=bs[i]:=by rw [List.getD_eq_getElem?_getD,List.getElem?_eq_getElem hi];rfl
  simp only [e] at hQ
  exact wpAny_truthy_bool hQ
 ·have e:(List.range its.toArray.size).all (fun i=>bs.getD i true)=bs.all id:=by
   rw [List.size_toArray,←hl]
   exact lc
  simp only [e]
  refine ⟨.bl (bs.all id),H,I.kept fun b o eb=>kp b o ?_ (Heap.get?_push_of_some _ eb),rfl,q⟩
  intro hb
  rw [List.mem_singleton.mp hb] at eb
  exact absurd (Heap.lt_size eb) (Nat.lt_irrefl _)
theorem Ra:∀{ys:List Str} {us:List Value},Vals (ys.map V.str) us→StrsAre us ys
 | [],_,r=>by cases r;exact .nil
 | y::ys,_,r=>by
  cases r with
  | cons a b=>
   obtain ⟨t,rfl⟩:=a
   exact .cons y t (Ra b)
end
section
variable {X:Cx}
end
section
variable {prog:Program} {w:World} {A:Around} {E:Value→Shared→Prop} {s:Shared}
end
section
variable {X:Cx} {o e:Expr} {to te:TE} {lo hi:Option Expr} {tl th:TO} {pos p2:Pos}
end
section
open PySem.AutoSeq1 (wpAny_loadPart')
open PySem.MeetsSeq PySem.MeetsSeq2 PySem.MeetsSeq3
end
section
variable {X:Cx}
end
theorem Zc {H H1:Hp} {p:Addr} {o:HO} (h:upd H p o=H1) (n:H p=none):Same H H1:=h ▸ Zw n o
theorem Zi {H H1:Hp} {p:Addr} {o:HO} (h:upd H p o=H1):H1 p=some o:=h ▸ Ze
theorem Z8 {H H1:Hp} {p a:Addr} {o:HO} (h:upd H p o=H1) (n:H p=none) (hp:PenAt H a):PenAt H1 a∧Grw a H H1∧p≠a∧aA a H1 p=some o:=by
 subst h
 exact ⟨hp.laid n,Xc n,hp.ne n,by rw [Ym (hp.ne n)];exact Ze⟩
theorem PenAt.grw {H H':Hp} {a:Addr} (h:PenAt H a) (g:Same H H'):Grw a H H':=by
 obtain ⟨p,q,r,e⟩:=h
 exact Tc e g
inductive Kd (H:Hp):V→String→Prop
 | non:Kd H .non "NoneType"
 | bl (b:Bool):Kd H (.bl b) "bool"
 | int (i:Int):Kd H (.int i) "int"
 | str (z:Str):Kd H (.str z) "str"
 | lst {a:Addr} {xs:List V} (e:H a=some (.lst xs)):Kd H (.ref a) "list"
 | tup {a:Addr} {xs:List V} (e:H a=some (.tup xs)):Kd H (.ref a) "tuple"
 | dK {a:Addr} {kvs:List (Key×V)} (e:H a=some (.dK kvs)):Kd H (.ref a) "dict"
theorem Kd.mono {H H':Hp} (g:Same H H') {x:V} {T:String} (h:Kd H x T):Kd H' x T:=by
 cases h with
 | non=>exact .non
 | bl b=>exact .bl b
 | int i=>exact .int i
 | str z=>exact .str z
 | lst e=>exact .lst (g _ _ e)
 | tup e=>exact .tup (g _ _ e)
 | dK e=>exact .dK (g _ _ e)
theorem Kd.ty {K:W.Frag} {H:Hp} {x:V} {T:String} (h:Kd H x T):TyOf K H x (.type T):=by
 cases h with
 | non=>exact .non
 | bl b=>exact .bl b
 | int i=>exact .int i
 | str z=>exact .str z
 | lst e=>exact .lst e
 | tup e=>exact .tup e
 | dK e=>exact .dK e
def kds:List String:=["NoneType","bool","int","str","list","tuple","dict"]
def kus:List String:=["int","bool","str","list","tuple"]
def dA (T U:String):Bool:=(T == U) || (T == "bool" && U == "int")
theorem qh:∀T∈kds,∀U∈kus,ue T U=some (dA T U):=by decide +kernel
theorem Kd.mem {H:Hp} {x:V} {T:String} (h:Kd H x T):T∈kds:=by cases h <;> decide
theorem Kd.kit {K:W.Frag} {H:Hp} {x:V} {T U:String} {b:Bool} (h:Kd H x T) (hU:U∈kus) (e:dA T U=b):W.kitOne K (.type T) (.type U)=some b:=by
 subst e
 exact Pa (qh T h.mem U hU)
def whV:V→Bool
 | .int _=>true
 | _=>false
def wF:V→Int→Bool
 | .int i,l=>decide (l≤i)
 | _,_=>false
theorem Kd.wh {H:Hp} {x:V} {T:String} (h:Kd H x T):(dA T "int" && !dA T "bool")=whV x:=by
 cases h <;> (first | rfl | (simp [dA,whV]))
theorem T3 {X:Cx} {x:Str} {v:V} {pos:Pos} (hg:Gl X x) (h:∃u,X.mg x=some u∧RelV v u) (hd:(x == ("__debug__":Str))=false:=by decide):PE X (.Name x pos) (tC v):=by
 obtain ⟨u,hm,r⟩:=h
 exact qz hg hm r hd
def letters:Str:="abcdefghijklmnopqrstuvwxyz"
def sgB (c:Nat):Bool:=!(Builtin.Str.occurrences letters ⟨#[c]⟩ 0 letters.length 1).isEmpty
def mkS (z:Str):Bool:=decide (1≤z.length) && decide (z.length≤8) && z.cps.toList.all sgB
def mkB:V→Bool
 | .str z=>mkS z
 | _=>false
theorem oA:∀z∈words,mkS z=true:=by decide +kernel
theorem nE {H:Hp} {p:Addr} {xs:List V} {d:Int} (e:H p=some (.lst xs)) (h0:0≤d) (h1:d<xs.length):∃v,atI xs d=some v∧v∈xs:=Qg h0 h1
theorem Rw {K:W.Frag} {H:Hp} {a c:Addr} {xs:List V} (h:aA a H c=some (.tup xs)):SqT K H c xs:=SqT.of (Z4 h).2
theorem Xu {K:W.Frag} {H:Hp} {a c:Addr} {xs:List V} (h:aA a H c=some (.lst xs)):SqL K H c xs:=SqL.of (Z4 h).2
section
variable {X:Cx} {x:Str} {p pos:Pos} {e:Expr} {es:List Expr} {kws:List Keyword} {ks:List Str} {t tk:TA} {id:String} {r:List V→List V→Hp→VK→Prop}
end
section
variable {prog:Program} {w:World} {A:Around} {E:Value→Shared→Prop} {s:Shared} {T:String} {r d:Addr} {n:Nat} {P:Nat→Value→Prop} {OK:Heap→Prop}
def sv (s:Shared) (P:Nat→Value→Prop) (n:Nat) (q:Result) (s':Shared):Prop:=
 ∃(g:Heap) (tk c:Nat) (xs:Array Value),q=.ok (.ret (.ref s.heap.objs.size))∧s'={s with heap:=g,toks:=tk}∧(∀b o,s.heap.get? b=some o→g.get? b=some o)∧g.get? s.heap.objs.size=some {cls:=.type "list",dict:=none,data:=.seq xs c,slots:=#[]}∧ItemsOf P xs n
theorem Sn {R:List Value→Shared→Prop} (K:W.KdlSrc prog w T r d n P OK) (hh:A.handled=none) (hok:OK s.heap) (hn:n≤sizeLine)
  (h:∀(g:Heap) (tk:Nat) (xs:Array Value),(∀b o,s.heap.get? b=some o→g.get? b=some o)→s.heap.objs.size<g.objs.size→ItemsOf P xs n→R xs.toList {s with heap:=g,toks:=tk}):wpAny (model prog w) A (collect (.ref r)) R E s:=by
 obtain ⟨lt1,lt2⟩:=K.there _ hok
 unfold collect
 refine wpAny_bind (wpAny_runValue (codeAny_builtin entry_proto_collect' ?_));rw [Around.under_plainId PySem.F.plain_proto_collect _]
 refine wpAny_bind (m:=newList []) (wpAny_newObj_type (wpAny_pure ⟨plainId_quiet PySem.F.plain_list_iadd _,codeAny_builtin entry_list_iadd' ?_⟩));rw [Around.under_plainId PySem.F.plain_list_iadd _]
 have own:(s.heap.push {cls:=.type "list",data:=.seq ([]:List Value).toArray}).get? s.heap.objs.size=some {cls:=.type "list",data:=.seq #[]}:=Heap.get?_push_size _ rfl
 have run:=W.kdl_extend (A:=A) (s:={s with heap:=s.heap.push {cls:=.type "list",data:=.seq ([]:List Value).toArray}}) (R:=sv s P n) K hh (K.keep _ _ hok fun _ _ _ e=>Heap.get?_push_of_some _ e) s.heap.objs.size (Nat.ne_of_gt lt1) (Nat.ne_of_gt lt2) (.ref s.heap.objs.size) 0 own
  (fun g tk xs c hk hS hx=>⟨g,tk,c,xs,rfl,rfl,fun b o e=>hk b o (Nat.ne_of_lt (Heap.lt_size e)) (Heap.get?_push_of_some _ e),hS,hx⟩) hn
 refine wpAny_mono run (fun fin s' y=>?_) (fun _ _ y=>by obtain ⟨_,_,_,_,e,_⟩:=y;cases e)
 cases fin with
 | done f=>
  obtain ⟨g,tk,c,xs,e,rfl,hk,hS,hx⟩:=y
  cases e
  exact wpAny_bind (m:=load s.heap.objs.size) (wpAny_load hS (wpAny_pure (h g tk xs hk (Heap.lt_size hS) hx)))
 | again c1=>
  refine ⟨y.1,codeAny_mono y.2 fun q s2 z=>?_⟩
  obtain ⟨g,tk,c,xs,rfl,rfl,hk,hS,hx⟩:=z
  exact wpAny_bind (m:=load s.heap.objs.size) (wpAny_load hS (wpAny_pure (h g tk xs hk (Heap.lt_size hS) hx)))
end
def cy (a d:Addr):HO:=.ext fun h=>h.IsValuesView a d
section
variable {X:Cx} {pins:List (Addr×Obj)} {σ:St} {H:Hp} {s:Shared}
theorem N3 {K:W.Frag} {d:Addr} {kvs:List (Key×V)} (h:H d=some (.dK kvs)):tyV K "dict" (.ref d) H:=.inr (.inr (.inl ⟨rfl,.inl ⟨kvs,h⟩⟩))
def vy (w:Addr→Addr→HO):V→List V→Hp→VK→Prop:=fun x vs H Q=>∃d kvs,x=.ref d∧vs=[]∧H d=some (.dK kvs)∧∀a,H a=none→Q (.ref a) (upd H a (w a d))
theorem P6:MtR X "dict.values" (vy cy):=by
 intro pins s σ H x vs v us Q I rx rv h
 obtain ⟨d,kvs,rfl,rfl,hd,q⟩:=h
 cases rx
 cases rv
 obtain ⟨_,lo,ws,_,hD⟩:=Sm I.hok hd
 refine call_meetsIn PySem.F.slot_dict_values hD.typeIs PySem.F.entry_dict_values (PySem.F.args_dict_values_1 _) (meets_dict_values (af X.prog X.w) d lo) ⟨⟨ws,hD⟩,?_⟩
 refine ⟨.ref s.heap.objs.size,_,I.laid (t':=s.toks) (o:=cy s.heap.objs.size d) (fun b o e=>Heap.get?_push_of_some _ e) (Nat.le_refl _) ?_,rfl,q _ (I.hok.fresh (Nat.le_refl _))⟩
 exact ⟨⟨_,Heap.get?_push_size _ rfl,rfl,rfl⟩,⟨_,Heap.get?_push_size _ rfl⟩,fun h1 h2 ⟨o,ho,r⟩ k=>⟨o,k o ho,r⟩⟩
theorem U8:∀{kvs:List (Key×V)} {ws:List (Key×Value)},KV kvs ws→Vals (kvs.map (·.2)) (ws.map (·.2))
 | _,_,.nil=>.nil
 | _,_,.cons a r=>.cons a.2 (U8 r)
inductive PairsAt (H:Hp):List V→List (Key×V)→Prop
 | nil:PairsAt H [] []
 | cons {a:Addr} {xs:List V} {k:Key} {v:V} {kvs:List (Key×V)} (h:H a=some (.tup [kV k,v])) (r:PairsAt H xs kvs):PairsAt H (.ref a::xs) ((k,v)::kvs)
theorem PairsAt.mono {H H':Hp} (g:Same H H'):∀{xs:List V} {kvs:List (Key×V)},PairsAt H xs kvs→PairsAt H' xs kvs
 | _,_,.nil=>.nil
 | _,_,.cons h r=>.cons (g _ _ h) (r.mono g)
theorem PairsAt.length {H:Hp}:∀{xs:List V} {kvs:List (Key×V)},PairsAt H xs kvs→xs.length=kvs.length
 | _,_,.nil=>rfl
 | _,_,.cons _ r=>congrArg (·+1) r.length
theorem PairsAt.append {H:Hp}:∀{xs ys:List V} {ks ls:List (Key×V)},PairsAt H xs ks→PairsAt H ys ls→PairsAt H (xs++ys) (ks++ls)
 | _,_,_,_,.nil,s=>s
 | _,_,_,_,.cons h r,s=>.cons h (r.append s)
theorem gK {P:Program} {w:World} {k:Key} {u:Value} (h:(af P w).is k u=true):RelV (kV k) u:=by
 rcases Yo (show eA k u=true from h) with ⟨i,t,rfl,rfl⟩ | ⟨x,t,rfl,rfl⟩
 ·exact ⟨t,rfl⟩
 ·exact ⟨t,rfl⟩
theorem KV.get:∀{kvs:List (Key×V)} {ws:List (Key×Value)} {j:Nat} {p:Key×V} {q:Key×Value},KV kvs ws→kvs[j]?=some p→ws[j]?=some q→p.1=q.1∧RelV p.2 q.2
 | _,_,_,_,_,.nil,e,_=>by simp at e
 | _,_,0,_,_,.cons h _,e1,e2=>by
  simp at e1 e2
  subst e1 e2
  exact h
 | _,_,j+1,_,_,.cons _ r,e1,e2=>KV.get (j:=j) r (by simpa using e1) (by simpa using e2)
theorem Qz:∀as:List Addr,Vals (as.map V.ref) (as.map Value.ref)
 | []=>.nil
 | _::as=>.cons rfl (Qz as)
def tRev (K:W.Frag) (te ts:TE):TE:=fun σ H Q=>te σ H fun x H1=>ts σ H1 fun y H2=>∃(a:Addr) (xs:List V),x=.ref a∧y=.int (-1)∧SqL K H2 a xs∧∀p,H2 p=none→Q (.ref p) (upd H2 p (.lst xs.reverse))
theorem gI {e st:Expr} {te ts:TE} {pos p2:Pos} (he:PE X e te) (hs:PE X st ts):PE X (.Subscript e (.Slice none none (some st) p2) pos) (tRev X.K te ts):=by
 intro pins s σ H Q I h
 refine Subscript_ (thn (he pins s σ H _ I h) fun v s1 hpat=>?_)
 obtain ⟨x,H1,I1,r1,q1⟩:=hpat
 refine wpAny_Slice ?_
 rw [evalPart_none]
 refine wpAny_pure (wpAny_pure ?_)
 rw [evalPart_some]
 refine thn (hs pins s1 σ H1 _ I1 q1) fun vk s2 hpat=>?_
 obtain ⟨y,H2,I2,r2,q2⟩:=hpat
 obtain ⟨a,xs,rfl,rfl,hx,q⟩:=q2
 cases r1
 obtain ⟨t,rfl⟩:=r2
 have I4:Inv X pins σ H2 {s2 with heap:=s2.heap.push {cls:=.type "slice",data:=.fields #[.none,.none,.int (-1) t]}}:=I2.kept (t':=s2.toks) fun b ob q=>Heap.get?_push_of_some _ q
 obtain ⟨its,r,ht,hz⟩:=I4.list hx
 have hlen:=r.length
 show wpAny (model X.prog X.w) X.A (subscriptTail e (.Slice none none (some st) p2) (.ref a) (.ref s2.heap.objs.size)) (EP X pins σ Q) X.xe {s2 with heap:=s2.heap.push {cls:=.type "slice",data:=.fields #[.none,.none,.int (-1) t]}}
 refine tail_any (ops:=[.ref a,.ref s2.heap.objs.size]) ht.isList.typeIs slot_list_getitem.lookup ?_ (by with_unfolding_all rfl)
 refine wpAny_getItem_list_slice ht.isList (Heap.IsSliceOf.new ..) .none .none (.int (-1) t) (by decide) ?_ (by rw [List.size_toArray];omega)
 rw [W.krv_pick]
 refine ⟨.ref _,_,I4.laid (t':=s2.toks) (o:=.lst xs.reverse) (fun b ob q=>Heap.get?_push_of_some _ q) (Nat.le_refl _) ?_,rfl,q _ (I4.hok.fresh (Nat.le_refl _))⟩
 exact ⟨by rw [List.length_reverse];exact hz,its.reverse,0,r.reverse,Heap.get?_push_size _ rfl⟩
theorem Inv.thaw {d:Addr} {o:Obj} {kvs:List (Key×V)} (nf:∀o u,X.H₀ d≠some (.frz o u)) (I:Inv X pins σ H s) (h:H d=some (.frz o (.dK kvs))):Inv X pins σ (upd H d (.dK kvs)) s:=by
 have nd:∀b,H b=none→upd H d (.dK kvs) b=none:=fun b e=>by rw [Zl (Ne.symm (Zs h e))];exact e
 have ot:∀b u,H b=some u→u≠.frz o (.dK kvs)→upd H d (.dK kvs) b=some u:=fun b u e n=>by rw [Zl (qZ e h n)];exact e
 refine ⟨I.ok,I.os,I.bare,⟨I.base.keep,I.base.slot,fun b ob q n hx=>nd b (I.base.free b ob q n hx),I.base.there,fun b xs e=>ot b _ (I.base.tups b xs e) (by intro z;cases z),fun b ob u e=>?_,fun b ps e=>?_⟩,I.loc,I.cell,nd _ I.free,fun x c e=>nd c (I.freeC x c e),fun p hp=>?_,fun b u e=>?_,I.len⟩
 ·have hb:b≠d:=fun z=>nf ob u (by rw [←z];exact e)
  rw [Zl hb]
  exact I.base.frzs b ob u e
 ·obtain ⟨m,q⟩:=I.base.tbls b ps e
  exact ⟨m,ot b _ q (by intro z;cases z)⟩
 ·obtain ⟨h1,h2,h3⟩:=I.pin p hp
  exact ⟨h1,nd _ h2,h3⟩
 ·by_cases hb:b=d
  ·subst hb
   rw [Ze] at e
   cases e
   exact (I.hok b _ h).2
  ·rw [Zl hb] at e
   exact (I.hok b u e).stay (fun _ _ _ q=>q) (fun c q=>ot c _ q (by intro z;cases z)) fun c xs q=>ot c _ q (by intro z;cases z)
theorem Inv.freeze {d:Addr} {kvs:List (Key×V)} (I:Inv X pins σ H s) (h:H d=some (.dK kvs)):∃o,Inv X pins σ (upd H d (.frz o (.dK kvs))) s∧∀o u,X.H₀ d≠some (.frz o u):=by
 obtain ⟨z,lo,vs,kv,o,es,ep,ho,r⟩:=(show ObjOk X.prog X.w H s.heap d (.dK kvs) from I.hok d _ h)
 refine ⟨o,I.write (x:=d) (e:=d) (t':=s.toks) (h':=s.heap) (by rw [h];exact trivial) (.inl rfl) (fun _ _ _ q=>q) ⟨o,ho⟩ ⟨ho,z,lo,vs,kv,o,es,ep,ho,r⟩,fun o' u e=>?_⟩
 have q:=I.base.frzs d o' u e
 rw [h] at q
 cases q
def tFrz (t:TE):TE:=fun σ H Q=>∃(d:Addr) (kvs:List (Key×V)),H d=some (.dK kvs)∧∀o,t σ (upd H d (.frz o (.dK kvs))) fun v H2=>H2 d=some (.frz o (.dK kvs))∧Q v (upd H2 d (.dK kvs))
theorem rW {e:Expr} {t:TE} (h:PE X e t):PE X e (tFrz t):=by
 intro pins s σ H Q I hw
 obtain ⟨d,kvs,hd,q⟩:=hw
 obtain ⟨o,I1,nf⟩:=I.freeze hd
 exact thn (h pins s σ _ _ I1 (q o)) fun v s1 ⟨x,H1,I2,r,hd2,q2⟩=>⟨x,_,I2.thaw nf hd2,r,q2⟩
end
def uG (i j:Int):Prop:=0<j∧j<1000000000000000000000000000000000000000000000000000000000000
theorem ow {X:Cx}:OpR X (binaryOp .FloorDiv) (rI uG fun i j=>.int (i / j)):=opI fun i j _ _ _ _ _ hc q=>by
 have h1:(0:Int)<j:=hc.1
 have h2:j<1000000000000000000000000000000000000000000000000000000000000:=hc.2
 refine floordiv_int (by omega) (by rw [Int.fdiv_eq_ediv_of_nonneg i (by omega)];exact q) (.inl (PyProof.noPylong_of_log2 ?_))
 have hn:j.natAbs≠0:=by omega
 have hl:j.natAbs<2 ^ 400:=Nat.lt_of_lt_of_le (show j.natAbs<1000000000000000000000000000000000000000000000000000000000000 by omega) (by decide +kernel)
 exact Nat.lt_trans ((Nat.log2_lt hn).mpr hl) (by decide)
def leS (a b:Str):Bool:=!decide (b.cps.toList<a.cps.toList)
theorem kU (a b:Str):(leS a b || leS b a)=true:=by
 unfold leS
 by_cases h:b.cps.toList<a.cps.toList
 ·have h2:¬a.cps.toList<b.cps.toList:=fun q=>List.lt_irrefl _ (List.lt_trans h q)
  simp [h2]
 ·simp [h]
theorem P9 (a b c:Str) (h1:leS a b=true) (h2:leS b c=true):leS a c=true:=by
 unfold leS at *
 simp only [Bool.not_eq_true',decide_eq_false_iff_not] at *
 exact fun q=>(List.not_lt.mp h1:a.cps.toList≤b.cps.toList) |> fun x=>(List.le_trans x (List.not_lt.mp h2)) q
theorem Tb {a b:Str} (h1:leS a b=true) (h2:leS b a=true):a=b:=by
 unfold leS at *
 simp only [Bool.not_eq_true',decide_eq_false_iff_not] at *
 have e:a.cps.toList=b.cps.toList:=List.le_antisymm (List.not_lt.mp h1) (List.not_lt.mp h2)
 obtain ⟨⟨x⟩⟩:=a
 obtain ⟨⟨y⟩⟩:=b
 simp at e
 rw [e]
def bi (zs:List Str):List Str:=zs.mergeSort leS
theorem Zv (zs:List Str):(bi zs).Perm zs:=List.mergeSort_perm _ _
theorem Uu (zs:List Str):(bi zs).Pairwise (fun a b=>leS a b=true):=List.pairwise_mergeSort P9 kU zs
theorem Rj:∀{l m:List Str},l.Perm m→l.Pairwise (fun a b=>leS a b=true)→m.Pairwise (fun a b=>leS a b=true)→l=m
 | [],m,p,_,_=>List.Perm.nil_eq p
 | a::l,[],p,_,_=>absurd p.length_eq (by simp)
 | a::l,b::m,p,h1,h2=>by
  have e:a=b:=by
   rcases List.mem_cons.mp (p.mem_iff.mp List.mem_cons_self) with q | q
   ·exact q
   ·rcases List.mem_cons.mp (p.mem_iff.mpr List.mem_cons_self) with r | r
    ·exact r.symm
    ·exact Tb ((List.pairwise_cons.mp h1).1 b r) ((List.pairwise_cons.mp h2).1 a q)
  subst e
  rw [Rj ((List.perm_cons a).mp p) (List.pairwise_cons.mp h1).2 (List.pairwise_cons.mp h2).2]
theorem Ri:∀(p:Str) (l:List Str),risingS p l=true→(p::l).Pairwise (fun a b=>leS a b=true)
 | p,[],_=>List.pairwise_singleton _ _
 | p,x::r,h=>by
  have h:(!ltCps x.cps.toList p.cps.toList && risingS x r)=true:=h
  rw [Bool.and_eq_true] at h
  have ih:=Ri x r h.2
  have e:leS p x=true:=by
   unfold leS
   rw [←ltCps_eq]
   exact h.1
  refine List.pairwise_cons.mpr ⟨fun y hy=>?_,ih⟩
  rcases List.mem_cons.mp hy with rfl | hy
  ·exact e
  ·exact P9 p x y e ((List.pairwise_cons.mp ih).1 y hy)
theorem iZ:∀{l:List Str},sortedS l=true→l.Pairwise (fun a b=>leS a b=true)
 | [],_=>List.Pairwise.nil
 | x::r,h=>Ri x r h
theorem O8 {l zs:List Str} (p:l.Perm zs) (h:sortedS l=true):l=bi zs:=Rj (p.trans (Zv zs).symm) (iZ h) (Uu zs)
section
variable {X:Cx}
theorem Vs:∀{us:List Value} {zs:List Str},StrsAre us zs→Vals (zs.map V.str) us
 | _,_,.nil=>.nil
 | _,_,.cons x t r=>.cons ⟨t,rfl⟩ (Vs r)
def sS:List V→Hp→VK→Prop:=fun xs H Q=>∃(d:Addr) (kvs:List (Key×V)) (zs:List Str),xs=[.ref d]∧H d=some (.dK kvs)∧kvs.map (·.1)=zs.map Sum.inr∧zs.length<64∧∀p,H p=none→Q (.ref p) (upd H p (.lst ((bi zs).map V.str)))
theorem Pb {P:Program} {w:World}:∀{us:List Value} {ws:List (Key×Value)} {zs:List Str},us.length=ws.length→(∀(j:Nat) (u:Value),us[j]?=some u→∃k x,ws[j]?=some (k,x)∧(af P w).is k u=true)→ws.map (·.1)=zs.map Sum.inr→StrsAre us zs
 | [],[],[],_,_,_=>.nil
 | [],[],_::_,_,_,e=>by simp at e
 | [],_::_,_,e,_,_=>by simp at e
 | _::_,[],_,e,_,_=>by simp at e
 | _::_,_::_,[],_,_,e=>by simp at e
 | u::us,(k,x)::ws,z::zs,hl,h,e=>by
  rw [List.map_cons,List.map_cons] at e
  injection e with e1 e2
  obtain ⟨k',x',q,hk⟩:=h 0 u rfl
  have q:(k,x)=(k',x'):=by simpa using q
  cases q
  have e1:k=Sum.inr z:=e1
  subst e1
  obtain ⟨t,rfl⟩:=gK hk
  exact .cons z t (Pb (by simpa using hl) (fun j v hv=>by simpa using h (j+1) v (by simpa using hv)) e2)
theorem Qb (hc:X.calm=true):CallR X (.builtin "sorted") sS:=by
 intro pins s σ H xs us Q I rx h
 obtain ⟨d,kvs,zs,rfl,hd,hzs,h64,q⟩:=h
 obtain ⟨u,rfl,ru⟩:=Xo rx
 cases ru
 obtain ⟨_,lo,es,kv,hD⟩:=Sm I.hok hd
 obtain ⟨ep,hat⟩:=hD.dictAt
 have kk:es.map (·.1)=zs.map Sum.inr:=by rw [←hzs,KV.keys kv]
 have hl:es.length=zs.length:=by
  have e:=congrArg List.length kk
  rw [List.length_map,List.length_map] at e
  exact e
 have hh:X.A.in1.handled=none:=by simpa using I.ok.hd hc
 refine Calls.call_function_entry kind_sorted plain_sorted entry_sorted (args_sorted1 _) ?_
 unfold Builtin.«sorted»
 refine wpAny_bind (m:=checkCount "sorted" 1 1 _) (wpAny_pure ?_)
 refine wpAny_bind (Sn (A:=X.A.in1) (W.kdl_dict (knd:=af X.prog X.w) (kvs:=es) (ep:=ep) lo) hh hat (Zb (by omega)) fun g tk acc hk hsz hacc=>?_)
 have al:acc.toList.length=es.length:=by rw [Array.length_toList];exact hacc.1
 have hS:StrsAre acc.toList zs:=Pb (P:=X.prog) (w:=X.w) al (fun j u e=>hacc.2 j u (by rw [←Array.getElem?_toList];exact e)) kk
 refine wpAny_bind (wpAny_newList ?_ (by exact Zb (by omega)))
 have hoL:(g.push (seqObj "list" acc.toList.toArray 0)).get? g.objs.size=some (seqObj "list" acc.toList.toArray 0):=Heap.get?_push_size _ rfl
 refine wpAny_bind (wpAny_holding (wpAny_call_entry slot_list_sort ⟨_,hoL,rfl⟩ entry_list_sort (list_sort_treeK strKind_oneLt hoL hS.keysOf (fun v1 v2 rest e=>keyKind_strs (by rw [←e];exact hS)) (by omega) fun st' b1 b2=>⟨_,rfl,?_⟩) (args_list_sort _)))
 refine wpAny_pure ⟨_,rfl,?_⟩
 obtain ⟨ss,a1,a2,a3⟩:=sorted_out_str hS b1 b2
 have ess:=O8 a2 a3
 subst ess
 obtain ⟨e2,he2⟩:=sortedHeap_at (vs:=acc.toList) (out:=(arrOf st').map (·.2)) hoL
 have hz:s.heap.objs.size≤g.objs.size:=Nat.le_of_lt hsz
 refine ⟨.ref g.objs.size,_,I.laid (t':=tk) (o:=.lst ((bi zs).map V.str)) (fun b o e=>?_) hz ?_,rfl,q _ (I.hok.fresh hz)⟩
 ·have e':=hk b o e
  have hlt:=Heap.lt_size e'
  rw [sortedHeap_old (Nat.ne_of_lt hlt) (by rw [size_push'];exact Nat.lt_succ_of_lt hlt)]
  exact Heap.get?_push_of_some _ e'
 ·refine ⟨?_,((arrOf st').map (·.2)).toList,e2,Vs a1,by rw [Array.toArray_toList];exact he2⟩
  rw [List.length_map,(Zv zs).length_eq]
  exact Zb (by omega)
end
def dR (ns:List Int):List Int:=ns.mergeSort fun a b=>decide (a≤b)
theorem Xe (ns:List Int):(dR ns).Perm ns:=List.mergeSort_perm _ _
theorem O9 (ns:List Int):(dR ns).Pairwise (·≤·):=by
 have h:=List.pairwise_mergeSort (le:=fun a b:Int=>decide (a≤b)) (by intro a b c h1 h2;simp at *;omega) (by intro a b;simp;omega) ns
 exact h.imp fun h=>by simpa using h
theorem Nf:∀{l m:List Int},l.Perm m→l.Pairwise (·≤·)→m.Pairwise (·≤·)→l=m
 | [],m,p,_,_=>List.Perm.nil_eq p
 | a::l,[],p,_,_=>absurd p.length_eq (by simp)
 | a::l,b::m,p,h1,h2=>by
  have e:a=b:=by
   rcases List.mem_cons.mp (p.mem_iff.mp List.mem_cons_self) with q | q
   ·exact q
   ·rcases List.mem_cons.mp (p.mem_iff.mpr List.mem_cons_self) with r | r
    ·exact r.symm
    ·have:=(List.pairwise_cons.mp h1).1 b r
     have:=(List.pairwise_cons.mp h2).1 a q
     omega
  subst e
  rw [Nf ((List.perm_cons a).mp p) (List.pairwise_cons.mp h1).2 (List.pairwise_cons.mp h2).2]
theorem jY {l ns:List Int} (p:l.Perm ns) (h:l.Pairwise (·≤·)):l=dR ns:=Nf (p.trans (Xe ns).symm) h (O9 ns)
section
variable {X:Cx}
def rE (K:W.Frag):List V→Hp→VK→Prop:=fun xs H Q=>∃(p:Addr) (zs:List Str),xs=[.ref p]∧SqL K H p (zs.map V.str)∧zs.length<64∧∀q,H q=none→Q (.ref q) (upd H q (.lst ((bi zs).map V.str)))
theorem iO (hc:X.calm=true):CallR X (.builtin "sorted") (rE X.K):=by
 intro pins s σ H xs us Q I rx h
 obtain ⟨p,zs,rfl,hq,h64,q⟩:=h
 obtain ⟨u,rfl,ru⟩:=Xo rx
 cases ru
 obtain ⟨its,r,pl,_⟩:=I.list hq
 have hl:=r.length
 rw [List.length_map] at hl
 refine sorted_strs pl.isList (Ra r) (by omega) fun out zs' a1 a2 a3=>?_
 have e:=O8 a2 a3
 subst e
 obtain ⟨e2,he2⟩:=sortedAll_at s.heap its out
 refine ⟨.ref (s.heap.objs.size+1),_,I.laid (t':=s.toks) (o:=.lst ((bi zs).map V.str)) (fun _ _=>sortedAll_old) (Nat.le_succ _) ?_,rfl,q _ (I.hok.fresh (Nat.le_succ _))⟩
 refine ⟨?_,out.toList,e2,Vs a1,by simpa using he2⟩
 rw [List.length_map,(Zv zs).length_eq]
 exact Zb (by omega)
end
end L2
namespace K18
open PySem L2
def top (i:Nat):Stmt:=PySem.Challenge.pw_sumshare_k18_papers_looked_at.main.body.getD i (.Pass ⟨0,0,0,0⟩)
abbrev bG:Stmt:=top 4
theorem Nc:FnScope ["thing"] ["thing"] (aa bG):=⟨rfl,rfl,rfl,by decide +kernel,rfl,by decide +kernel,by decide +kernel⟩
abbrev aP:Stmt:=top 5
theorem Tx:FnScope ["thing","least"] ["thing","least"] (aa aP):=⟨rfl,rfl,rfl,by decide +kernel,rfl,by decide +kernel,by decide +kernel⟩
abbrev aM:Stmt:=top 6
theorem Ua:FnScope ["thing","least","most"] ["thing","least","most"] (aa aM):=⟨rfl,rfl,rfl,by decide +kernel,rfl,by decide +kernel,by decide +kernel⟩
abbrev bU:Stmt:=top 7
theorem i0:FnScope ["thing"] ["thing"] (aa bU):=⟨rfl,rfl,rfl,by decide +kernel,rfl,by decide +kernel,by decide +kernel⟩
theorem S4:(["sign","thing"]:List Str).Nodup:=by decide +kernel
abbrev a_:Stmt:=top 8
theorem Ux:FnScope ["parts"] ["parts"] (aa a_):=⟨rfl,rfl,rfl,by decide +kernel,rfl,by decide +kernel,by decide +kernel⟩
theorem X3:(["one","other","parts"]:List Str).Nodup:=by decide +kernel
abbrev bV:Stmt:=top 9
theorem gZ:FnScope ["thing"] ["thing"] (aa bV):=⟨rfl,rfl,rfl,by decide +kernel,rfl,by decide +kernel,by decide +kernel⟩
abbrev bC:Stmt:=top 10
theorem Vf:FnScope ["thing","is_key","key","count"] ["thing","is_key"] (aa bC):=⟨rfl,rfl,rfl,by decide +kernel,rfl,by decide +kernel,by decide +kernel⟩
abbrev bc:Stmt:=top 11
theorem Qi:FnScope ["thing","is_key"] ["thing","is_key"] (aa bc):=⟨rfl,rfl,rfl,by decide +kernel,rfl,by decide +kernel,by decide +kernel⟩
theorem U0:(["one","thing","is_key"]:List Str).Nodup:=by decide +kernel
theorem Wd:(["key","count","thing","is_key"]:List Str).Nodup:=by decide +kernel
abbrev aJ:Stmt:=top 13
theorem Yi:FnScope ["thing","room","counts","let","total"] ["thing"] (aa aJ):=⟨rfl,rfl,rfl,by decide +kernel,rfl,by decide +kernel,by decide +kernel⟩
abbrev bg:Stmt:=top 15
theorem Oc:FnScope ["stream"] ["stream"] (aa bg):=⟨rfl,rfl,rfl,by decide +kernel,rfl,by decide +kernel,by decide +kernel⟩
theorem X2:(["day","mark","number","many","stream"]:List Str).Nodup:=by decide +kernel
abbrev bE:Stmt:=top 17
theorem Vg:FnScope ["thing","room","marks","many"] ["thing","room"] (aa bE):=⟨rfl,rfl,rfl,by decide +kernel,rfl,by decide +kernel,by decide +kernel⟩
theorem T5:(["mark","thing","room","marks","many"]:List Str).Nodup:=by decide +kernel
abbrev bI:Stmt:=top 18
theorem Nd:FnScope ["thing","room"] ["thing","room"] (aa bI):=⟨rfl,rfl,rfl,by decide +kernel,rfl,by decide +kernel,by decide +kernel⟩
theorem T4:(["one","thing","room"]:List Str).Nodup:=by decide +kernel
abbrev bH:Stmt:=top 19
theorem Xm:FnScope ["stream","times","day","mark","number","many"] ["stream"] (aa bH):=⟨rfl,rfl,rfl,by decide +kernel,rfl,by decide +kernel,by decide +kernel⟩
abbrev ba:Stmt:=top 20
theorem Xf:FnScope ["counts","paper","times","marks","many","mark"] ["counts","paper"] (aa ba):=⟨rfl,rfl,rfl,by decide +kernel,rfl,by decide +kernel,by decide +kernel⟩
abbrev bD:Stmt:=top 21
theorem W8:FnScope ["stream","tally","paper","room","counts","let","total"] ["stream","tally","paper"] (aa bD):=⟨rfl,rfl,rfl,by decide +kernel,rfl,by decide +kernel,by decide +kernel⟩
theorem Ws:(["marks","many","stream","tally","paper","room","counts","let","total"]:List Str).Nodup:=by decide +kernel
abbrev cW:Stmt:=top 23
theorem Uw:FnScope ["_law_script","_law_k","_law_cell"] ["_law_script","_law_k"] (aa cW):=⟨rfl,rfl,rfl,by decide +kernel,rfl,by decide +kernel,by decide +kernel⟩
abbrev cv:Stmt:=top 24
theorem Vt:FnScope ["_law_pen_here","_law_size","_law_drawn","_law_number"] ["_law_pen_here","_law_size"] (aa cv):=⟨rfl,rfl,rfl,by decide +kernel,rfl,by decide +kernel,by decide +kernel⟩
abbrev cE:Stmt:=top 25
theorem Tu:FnScope ["_law_pen_here","_law_k","_law_some"] ["_law_pen_here","_law_k"] (aa cE):=⟨rfl,rfl,rfl,by decide +kernel,rfl,by decide +kernel,by decide +kernel⟩
abbrev cz:Stmt:=top 26
theorem j8:FnScope ["_law_pen_here"] ["_law_pen_here"] (aa cz):=⟨rfl,rfl,rfl,by decide +kernel,rfl,by decide +kernel,by decide +kernel⟩
abbrev bW:Stmt:=top 27
theorem V2:FnScope ["_law_pen_here","_law_marks","_law_deep","_law_day","_law_number"] ["_law_pen_here","_law_marks","_law_deep"] (aa bW):=⟨rfl,rfl,rfl,by decide +kernel,rfl,by decide +kernel,by decide +kernel⟩
abbrev bB:Stmt:=top 28
theorem Nb:FnScope ["_law_pen_here","_law_marks","_law_deep","_law_most"] ["_law_pen_here","_law_marks","_law_deep","_law_most"] (aa bB):=⟨rfl,rfl,rfl,by decide +kernel,rfl,by decide +kernel,by decide +kernel⟩
theorem Ud:(["_law_k","_law_pen_here","_law_marks","_law_deep","_law_most"]:List Str).Nodup:=by decide +kernel
abbrev ca:Stmt:=top 29
theorem Tv:FnScope ["_law_pen_here","_law_marks","_law_deep","_law_most","_law_parts","_law_left","_law_one"] ["_law_pen_here","_law_marks","_law_deep","_law_most","_law_parts"] (aa ca):=⟨rfl,rfl,rfl,by decide +kernel,rfl,by decide +kernel,by decide +kernel⟩
abbrev cB:Stmt:=top 30
theorem ky:FnScope ["_law_pen_here"] ["_law_pen_here"] (aa cB):=⟨rfl,rfl,rfl,by decide +kernel,rfl,by decide +kernel,by decide +kernel⟩
abbrev bJ:Stmt:=top 31
theorem Yn:FnScope ["_law_one","_law_other","_law_sums","_law_mark","_law_count","_law_cut","_law_bunches","_law_below","_law_level","_law_kept"] ["_law_one","_law_other"] (aa bJ):=⟨rfl,rfl,rfl,by decide +kernel,rfl,by decide +kernel,by decide +kernel⟩
theorem Ug:(["_law_number","_law_one","_law_other","_law_sums","_law_mark","_law_count","_law_cut","_law_bunches","_law_below","_law_level","_law_kept"]:List Str).Nodup:=by decide +kernel
theorem Uf:(["_law_mark","_law_one","_law_other","_law_sums","#3","_law_count","_law_cut","_law_bunches","_law_below","_law_level","_law_kept"]:List Str).Nodup:=by decide +kernel
theorem Ue:(["_law_mark","_law_one","_law_other","_law_sums","#3","_law_count","_law_cut","_law_bunches","_law_below","_law_level","_law_kept"]:List Str).Nodup:=by decide +kernel
abbrev bA:Stmt:=top 32
theorem Y7:FnScope ["_law_room_here","_law_tree_here","_law_one","_law_paper","_law_other","_law_behind","_law_tally","_law_bunches","_law_day","_law_mark","_law_number","_law_many_here"] ["_law_room_here","_law_tree_here"] (aa bA):=⟨rfl,rfl,rfl,by decide +kernel,rfl,by decide +kernel,by decide +kernel⟩
abbrev aQ:Stmt:=top 33
theorem Rh:FnScope ["_law_tree_here"] ["_law_tree_here"] (aa aQ):=⟨rfl,rfl,rfl,by decide +kernel,rfl,by decide +kernel,by decide +kernel⟩
abbrev aU:Stmt:=top 34
theorem Vc:FnScope ["_law_room_here","_law_counts","_law_marks"] ["_law_room_here","_law_counts"] (aa aU):=⟨rfl,rfl,rfl,by decide +kernel,rfl,by decide +kernel,by decide +kernel⟩
theorem Xs:(["_law_mark","_law_count","_law_room_here","_law_counts","_law_marks"]:List Str).Nodup:=by decide +kernel
theorem Xr:(["_law_mark","_law_count","_law_room_here","_law_counts","_law_marks"]:List Str).Nodup:=by decide +kernel
abbrev cX:Stmt:=top 35
theorem Yt:FnScope ["_law_stream_here","_law_tally","_law_paper","_law_room_here","_law_counts","_law_let","_law_total","_law_due_here","_law_marks","_law_many_here","_law_mark","_law_times","_law_day","_law_number"] ["_law_stream_here","_law_tally","_law_paper"] (aa cX):=⟨rfl,rfl,rfl,by decide +kernel,rfl,by decide +kernel,by decide +kernel⟩
theorem Vd:(["_law_marks","_law_many_here","_law_stream_here","_law_tally","_law_paper","_law_room_here","_law_counts","_law_let","_law_total","_law_due_here","#8","#9","_law_mark","_law_times","_law_day","_law_number"]:List Str).Nodup:=by decide +kernel
abbrev aT:Stmt:=top 36
theorem Yd:FnScope ["_law_pen_here","_law_paper","_law_way","_law_at","_law_marks","_law_many_here","_law_spot","_law_rest","_law_part","_law_behind"] ["_law_pen_here","_law_paper","_law_way"] (aa aT):=⟨rfl,rfl,rfl,by decide +kernel,rfl,by decide +kernel,by decide +kernel⟩
abbrev aS:Stmt:=top 37
theorem Zy:FnScope ["_law_pen_here","_law_tally","_law_way","_law_room_here","_law_counts","_law_let","_law_total","_law_by","_law_at","_law_mark","_law_count","_law_some"] ["_law_pen_here","_law_tally","_law_way"] (aa aS):=⟨rfl,rfl,rfl,by decide +kernel,rfl,by decide +kernel,by decide +kernel⟩
abbrev aO:Stmt:=top 38
theorem Yg:FnScope ["_law_pen_here","_law_stream_here","_law_at","_law_day","_law_mark","_law_number","_law_many_here","_law_some"] ["_law_pen_here","_law_stream_here"] (aa aO):=⟨rfl,rfl,rfl,by decide +kernel,rfl,by decide +kernel,by decide +kernel⟩
abbrev cp:Stmt:=top 39
theorem ld:FnScope ["_law_stream_here","_law_marks","_law_many_here"] ["_law_stream_here","_law_marks","_law_many_here"] (aa cp):=⟨rfl,rfl,rfl,by decide +kernel,rfl,by decide +kernel,by decide +kernel⟩
theorem S3:(["_law_mark","_law_stream_here","_law_marks","_law_many_here"]:List Str).Nodup:=by decide +kernel
abbrev bF:Stmt:=top 40
theorem Zq:FnScope ["_law_pen_here","_law_stream_here","_law_tally","_law_paper","_law_room_here","_law_counts","_law_let","_law_total","_law_words","_law_at","_law_few","_law_wide","_law_many_here","_law_twice","_law_made","_law_marks","_law_other","_law_kept","_law_over","_law_parted","_law_mark","_law_count","_law_found","_law_plain","_law_full"] ["_law_pen_here","_law_stream_here","_law_tally","_law_paper"] (aa bF):=⟨rfl,rfl,rfl,by decide +kernel,rfl,by decide +kernel,by decide +kernel⟩
theorem Ul:(["_law_k","_law_pen_here","_law_stream_here","_law_tally","_law_paper","_law_room_here","_law_counts","_law_let","_law_total","_law_words","_law_at","_law_few","_law_wide","_law_many_here","_law_twice","_law_made","_law_marks","_law_other","_law_kept","_law_over","_law_parted","_law_mark","_law_count","_law_found","_law_plain","_law_full"]:List Str).Nodup:=by decide +kernel
theorem Uk:(["_law_mark","_law_pen_here","_law_stream_here","_law_tally","_law_paper","_law_room_here","_law_counts","_law_let","_law_total","_law_words","_law_at","_law_few","_law_wide","_law_many_here","_law_twice","_law_made","_law_marks","_law_other","_law_kept","_law_over","_law_parted","#20","_law_count","_law_found","_law_plain","_law_full"]:List Str).Nodup:=by decide +kernel
theorem Uj:(["_law_mark","_law_pen_here","_law_stream_here","_law_tally","_law_paper","_law_room_here","_law_counts","_law_let","_law_total","_law_words","_law_at","_law_few","_law_wide","_law_many_here","_law_twice","_law_made","_law_marks","_law_other","_law_kept","_law_over","_law_parted","#20","_law_count","_law_found","_law_plain","_law_full"]:List Str).Nodup:=by decide +kernel
theorem Ui:(["_law_one","_law_pen_here","_law_stream_here","_law_tally","_law_paper","_law_room_here","_law_counts","_law_let","_law_total","_law_words","_law_at","_law_few","_law_wide","_law_many_here","_law_twice","_law_made","_law_marks","_law_other","_law_kept","_law_over","_law_parted","_law_mark","_law_count","_law_found","_law_plain","_law_full"]:List Str).Nodup:=by decide +kernel
theorem Xl:(["_law_one","_law_other","_law_more","_law_pen_here","_law_stream_here","_law_tally","_law_paper","_law_room_here","_law_counts","_law_let","_law_total","_law_words","_law_at","_law_few","_law_wide","_law_many_here","_law_twice","_law_made","_law_marks","#16","_law_kept","_law_over","_law_parted","_law_mark","_law_count","_law_found","_law_plain","_law_full"]:List Str).Nodup:=by decide +kernel
theorem Wn:(["_law_mark","_law_count","_law_pen_here","_law_stream_here","_law_tally","_law_paper","_law_room_here","_law_counts","_law_let","_law_total","_law_words","_law_at","_law_few","_law_wide","_law_many_here","_law_twice","_law_made","_law_marks","_law_other","_law_kept","_law_over","_law_parted","#20","#21","_law_found","_law_plain","_law_full"]:List Str).Nodup:=by decide +kernel
theorem Uh:(["_law_one","_law_pen_here","_law_stream_here","_law_tally","_law_paper","_law_room_here","_law_counts","_law_let","_law_total","_law_words","_law_at","_law_few","_law_wide","_law_many_here","_law_twice","_law_made","_law_marks","_law_other","_law_kept","_law_over","_law_parted","_law_mark","_law_count","_law_found","_law_plain","_law_full"]:List Str).Nodup:=by decide +kernel
abbrev cA:Stmt:=top 41
theorem Tw:FnScope ["_law_stream_here","_law_tally","_law_paper","_law_handed","_law_found"] ["_law_stream_here","_law_tally","_law_paper"] (aa cA):=⟨rfl,rfl,rfl,by decide +kernel,rfl,by decide +kernel,by decide +kernel⟩
abbrev dD:Stmt:=top 42
theorem Xb:FnScope ["_law_script","_law_pen_here","_law_few","_law_room_here","_law_tree_here","_law_stream_here","_law_tally","_law_paper","_law_k","_law_way","_law_given"] ["_law_script"] (aa dD):=⟨rfl,rfl,rfl,by decide +kernel,rfl,by decide +kernel,by decide +kernel⟩
def bN:Sp:=fun vs H Q _=>∃(a:Addr) (n:Int),vs=[.ref a,.int n]∧PenAt H a∧0<n∧n<1000000000000000000000000000000000000000000000000000000000000∧
 ∀(d:Int) (H':Hp),0≤d→d<n→PenAt H' a→Grw a H H'→Q (.int d) H'
def re (K:W.Frag):Sp:=fun vs H Q _=>∃(a:Addr) (ns:List Int) (k:Int),vs=[.ref a,.int k]∧SqL K H a (ns.map V.int)∧0≤k∧
 ∀(p:Addr) (H':Hp),H p=none→Same H H'→PenAt H' p→Q (.ref p) H'
def ij:Sp:=fun vs H Q _=>∃(x:V) (k:Int),vs=[x,.int k]∧∀(z:Str) (H':Hp),z∈words→Same H H'→Q (.str z) H'
def nJ:Sp:=fun vs H Q _=>∃(a:Addr),vs=[.ref a]∧PenAt H a∧∀(m:Int) (H':Hp),1≤m→m≤1000000000→PenAt H' a→Grw a H H'→Q (.int m) H'
def jR:Sp:=fun vs H Q _=>∃(a:Addr) (n k:Int),vs=[.ref a,.int n,.int k]∧PenAt H a∧0<n∧n<1073741824∧0≤k∧k<30∧
 ∀(r:Addr) (t:Th) (H':Hp),t.Ok→aA a H' r=some (.tup t.vs)→PenAt H' a→Grw a H H'→Q (.ref r) H'
def dY:Sp:=fun vs H Q _=>∃(a:Addr) (n k l:Int),vs=[.ref a,.int n,.int k,.int l]∧PenAt H a∧0<n∧n<1073741824∧0≤k∧k<30∧0≤l∧l<1000∧
 ∀(r:Addr) (ts:List Th) (H':Hp),(∀t∈ts,t.Ok)→(ts.length:Int)≤l→DV (aA a H') (.ref r) (.list (ts.map Th.D))→PenAt H' a→Grw a H H'→Q (.ref r) H'
section
variable {P:Program} {w:World} {K:W.Frag} {mg:Str→Option Value} {base:Heap} {f:Addr} {fd:FuncData}
theorem qw (F:Fun K "_law_draw" "_law_draw" cv f fd):FnOk P w K mg base CX0 1 f fd ["_law_pen_here","_law_size"] bN:=by
 refine F.ok Vt (fun vs H Q E h=>?_) (fun cdv A outer s H vs Q E hr h=>?_)
 ·obtain ⟨a,n,rfl,_⟩:=h
  rfl
 obtain ⟨a,n,rfl,⟨p,q,r,e⟩,h0,h1,hq⟩:=h
 refine ⟨_,(@Z3 _ _ _ _ _ (X7 (@Za _ _ _ _ _ _ _ _ Zp (@Y0 _ _ _ _ _ _ _ Yb (pv 0) Z2 (fun _ _=>rfl)) Z2) (gO (pv 0) Z2 Rf))
 (@Z3 _ _ _ _ _ (@Yc _ _ _ _ _ _ _ _ (@Zm _ _ _ _ _ _ _ _ U3 (@Y0 _ _ _ _ _ _ _ Yb (pv 0) Z2 (fun _ _=>rfl)) Z2 (Zk _)) (@Z3 _ _ _ _ _ (@Zj _ _ 2 _ _ _ _ Vt.nd rfl (Or.inl rfl) (@Za _ _ _ _ _ _ _ _ Xq (@Y0 _ _ _ _ _ _ _ Yb (pv 0) Z2 (fun _ _=>rfl)) (pv 1)) (by rfl) (by first | exact .inl rfl | exact .inr rfl))
 (@Z3 _ _ _ _ _ (X7 (@Za _ _ _ _ _ _ _ _ ow (@Y0 _ _ _ _ _ _ _ Yb (pv 0) Z2 (fun _ _=>rfl)) (pv 1)) (gO (pv 0) Z2 Rf))
 (@Z9 _ _ _ (@Zg _ _ _ _ (pv 2))))) Zu)
 (@Z3 _ _ _ _ _ (@Zj _ _ 3 _ _ _ _ Vt.nd rfl (Or.inl rfl) (@Za _ _ _ _ _ _ _ _ Xq (@Za _ _ _ _ _ _ _ _ Wb (@Za _ _ _ _ _ _ _ _ Zp (@Za _ _ _ _ _ _ _ _ Zp (@Y0 _ _ _ _ _ _ _ Yb (pv 0) Z2 (fun _ _=>rfl)) (@Za _ _ _ _ _ _ _ _ Wb Z2 (@Y0 _ _ _ _ _ _ _ Yb (pv 0) Z2 (fun _ _=>rfl)))) Z2) Z2) Z2) (by rfl) (by first | exact .inl rfl | exact .inr rfl))
 (@Z3 _ _ _ _ _ (@Zj _ _ 3 _ _ _ _ Vt.nd rfl (Or.inl rfl) (@Za _ _ _ _ _ _ _ _ Xq (@Za _ _ _ _ _ _ _ _ Wb (pv 3) (@Za _ _ _ _ _ _ _ _ Zp (@Za _ _ _ _ _ _ _ _ Zp (@Za _ _ _ _ _ _ _ _ Xq (pv 3) Z2) (@Y0 _ _ _ _ _ _ _ Yb (pv 0) Z2 (fun _ _=>rfl))) Z2)) Z2) (by rfl) (by first | exact .inl rfl | exact .inr rfl))
 (@Z9 _ _ _ (@Zg _ _ _ _ (@Za _ _ _ _ _ _ _ _ Xq (@Za _ _ _ _ _ _ _ _ jU (@Za _ _ _ _ _ _ _ _ Xq (@Za _ _ _ _ _ _ _ _ Wb (pv 3) (@Za _ _ _ _ _ _ _ _ Zp (@Za _ _ _ _ _ _ _ _ Xq (pv 3) Z2) Z2)) Z2) Z2) (pv 1)))))))),?_⟩
 refine ⟨_,rfl,a,_,2,_,rfl,rfl,SqL.of e,gB _ _ _,_,_,rfl,rfl,_,rfl,a,_,2,_,rfl,rfl,e,rfl,?_⟩
 have e1:upd H a (.lst [.int p,.int q,.int (r+1)]) a=some (.lst [.int p,.int q,.int (r+1)]):=Ze
 refine ⟨_,rfl,a,_,0,_,rfl,rfl,SqL.of e1,lP _ _ _,_,_,rfl,rfl,_,rfl,?_⟩
 refine Yu (fun c=>?_) (fun c=>?_)
 ·refine ⟨_,rfl,a,_,0,_,rfl,rfl,SqL.of e1,lP _ _ _,_,rfl,_,_,rfl,rfl,h0,?_⟩
  refine ⟨_,rfl,a,_,0,_,rfl,rfl,SqL.of e1,lP _ _ _,_,rfl,_,_,rfl,rfl,⟨h0,h1⟩,_,rfl,a,_,0,_,rfl,rfl,e1,rfl,?_⟩
  refine ⟨_,rfl,?_⟩
  refine hq (p % n) _ (Int.emod_nonneg _ (by omega)) (Int.emod_lt_of_pos _ h0) ⟨_,_,_,Ze⟩ ?_
  rw [o_]
  exact Op
 ·refine ⟨_,rfl,a,_,1,_,rfl,rfl,SqL.of e1,oN _ _ _,_,rfl,a,_,2,_,rfl,rfl,SqL.of e1,gB _ _ _,_,_,rfl,rfl,kr rfl rfl,_,_,rfl,rfl,_,_,rfl,rfl,_,_,rfl,rfl,mulR rfl rfl,_,_,rfl,rfl,Xg rfl,?_⟩
  refine ⟨_,rfl,_,rfl,_,_,rfl,rfl,Xg rfl,_,rfl,a,_,2,_,rfl,rfl,SqL.of e1,gB _ _ _,_,_,rfl,rfl,_,_,rfl,rfl,_,_,rfl,rfl,vj _ _ _ rfl rfl,_,_,rfl,rfl,Xg rfl,?_⟩
  refine ⟨_,rfl,_,rfl,_,_,rfl,rfl,Xg rfl,_,_,rfl,rfl,_,_,rfl,rfl,vj _ _ _ rfl rfl,_,_,rfl,rfl,Xg rfl,_,_,rfl,rfl,qM rfl rfl,_,rfl,_,_,rfl,rfl,h0,?_⟩
  exact hq _ _ (Int.emod_nonneg _ (by omega)) (Int.emod_lt_of_pos _ h0) ⟨_,_,_,e1⟩ Op
theorem sT (F:Fun K "_law_pen" "_law_pen" cW f fd) (aD:mg "len"=none):FnOk P w K mg base CX0 1 f fd ["_law_script","_law_k"] (re K):=by
 refine F.ok Uw (fun vs H Q E h=>?_) (fun cdv A outer s H vs Q E hr h=>?_)
 ·obtain ⟨a,ns,k,rfl,_⟩:=h
  rfl
 obtain ⟨a,ns,k,rfl,hS,h0,hq⟩:=h
 have hl:(ns.map V.int).length=ns.length:=List.length_map _
 refine ⟨_,(@Z3 _ _ _ _ _ (@Zj _ _ 2 _ _ _ _ Uw.nd rfl (Or.inl rfl) (@Za _ _ _ _ _ _ _ _ Zp (@Za _ _ _ _ _ _ _ _ Wb Z2 (pv 1)) Z2) (by rfl) (by first | exact .inl rfl | exact .inr rfl))
 (@Z3 _ _ _ _ _ (@Yc _ _ _ _ _ _ _ _ (@Zm _ _ _ _ _ _ _ _ Vj (pv 1) (Zd Zo rfl aD PySem.boot_len (@Z0 _ _ _ _ _ (pv 0) Z1 (by rfl))) (Zk _)) (@Z9 _ _ _ (@Zj _ _ 2 _ _ _ _ Uw.nd rfl (Or.inl rfl) (@Y0 _ _ _ _ _ _ _ Yb (pv 0) (pv 1) (fun _ _=>rfl)) (by rfl) (by first | exact .inl rfl | exact .inr rfl))) (@Z9 _ _ _ (@Yc _ _ _ _ _ _ _ _ (@Zm _ _ _ _ _ _ _ _ U3 (Zd Zo rfl aD PySem.boot_len (@Z0 _ _ _ _ _ (pv 0) Z1 (by rfl))) Z2 (Zk _)) (@Z9 _ _ _ (@Zj _ _ 2 _ _ _ _ Uw.nd rfl (Or.inl rfl) (@Za _ _ _ _ _ _ _ _ Zp (@Y0 _ _ _ _ _ _ _ Yb (pv 0) (@Za _ _ _ _ _ _ _ _ Xq (pv 1) (Zd Zo rfl aD PySem.boot_len (@Z0 _ _ _ _ _ (pv 0) Z1 (by rfl)))) (fun _ _=>rfl)) (@Za _ _ _ _ _ _ _ _ Wb Z2 (pv 1))) (by rfl) (by first | exact .inl rfl | exact .inr rfl))) Zu)))
 (@Z3 _ _ _ _ _ (@Yc _ _ _ _ _ _ _ _ (@Zm _ _ _ _ _ _ _ _ oI (pv 2) (@Za _ _ _ _ _ _ _ _ iJ Z2 Z2) (Zk _)) (@Z9 _ _ _ (@Zg _ _ _ _ (@Y4 _ _ _ _ (@Z0 _ _ _ _ _ (@Za _ _ _ _ _ _ _ _ Wa (pv 2) (@Za _ _ _ _ _ _ _ _ iJ Z2 Z2)) (@Z0 _ _ _ _ _ (@Za _ _ _ _ _ _ _ _ Xq (pv 2) Z2) (@Z0 _ _ _ _ _ Z2 Z1 (by rfl)) (by rfl)) (by rfl))))) Zu)
 (@Z9 _ _ _ (@Zg _ _ _ _ (@Y4 _ _ _ _ (@Z0 _ _ _ _ _ Z2 (@Z0 _ _ _ _ _ (@Za _ _ _ _ _ _ _ _ Zp (@Za _ _ _ _ _ _ _ _ Xq (pv 2) Z2) (@Za _ _ _ _ _ _ _ _ Wb Z2 (pv 1))) (@Z0 _ _ _ _ _ Z2 Z1 (by rfl)) (by rfl)) (by rfl)))))))),?_⟩
 refine ⟨_,rfl,_,_,rfl,rfl,kr rfl rfl,_,_,rfl,rfl,?_⟩
 refine ⟨_,rfl,_,rfl,a,_,rfl,.inl hS,_,_,rfl,rfl,_,rfl,?_⟩
 have atn:∀i:Int,0≤i→i<ns.length→∃v:Int,atI (ns.map V.int) i=some (.int v):=fun i h1 h2=>by
  obtain ⟨v,hv,hm⟩:=Qg (xs:=ns.map V.int) h1 (by rw [hl];exact h2)
  obtain ⟨n,_,rfl⟩:=List.mem_map.mp hm
  exact ⟨n,hv⟩
 have fin:∀x y z:Int,∀p,H p=none→Q (.ref p) (upd H p (.lst [.int x,.int y,.int z])):=fun x y z p hp=>hq p _ hp (Zw hp _) ⟨x,y,z,Ze⟩
 refine Yu (fun c=>?_) (fun c=>?_)
 ·have c:=of_decide_eq_true c
  rw [hl] at c
  obtain ⟨v,hv⟩:=atn k h0 c
  refine ⟨_,rfl,_,rfl,a,_,_,_,rfl,rfl,hS,hv,?_⟩
  refine ⟨_,rfl,_,_,rfl,rfl,iV rfl rfl rfl,_,_,rfl,rfl,_,rfl,?_⟩
  refine Yu (fun c=>?_) (fun c=>?_)
  ·refine ⟨_,rfl,_,_,rfl,rfl,iV rfl rfl rfl,_,_,rfl,rfl,_,rfl,_,_,rfl,rfl,Xg rfl,leN rfl,fin _ _ _⟩
  ·refine ⟨_,rfl,_,_,rfl,rfl,Xg rfl,_,rfl,_,_,rfl,rfl,kr rfl rfl,_,_,rfl,rfl,leN rfl,fin _ _ _⟩
 ·refine ⟨_,rfl,a,_,rfl,.inl hS,_,_,rfl,rfl,_,rfl,?_⟩
  refine Yu (fun c=>?_) (fun c=>?_)
  ·have c:=of_decide_eq_true c
   rw [hl] at c
   have hm:=Int.emod_nonneg k (show (ns.length:Int)≠0 by omega)
   have hm2:=Int.emod_lt_of_pos k c
   obtain ⟨v,hv⟩:=atn (k % (ns.length:Int)) hm hm2
   refine ⟨_,rfl,_,rfl,_,rfl,a,_,rfl,.inl hS,_,_,rfl,rfl,by rw [hl];exact c,a,_,_,_,rfl,rfl,hS,by rw [hl];exact hv,_,rfl,_,_,rfl,rfl,kr rfl rfl,_,_,rfl,rfl,?_⟩
   refine ⟨_,rfl,_,_,rfl,rfl,iV rfl rfl rfl,_,_,rfl,rfl,_,rfl,?_⟩
   refine Yu (fun c=>?_) (fun c=>?_)
   ·refine ⟨_,rfl,_,_,rfl,rfl,iV rfl rfl rfl,_,_,rfl,rfl,_,rfl,_,_,rfl,rfl,Xg rfl,leN rfl,fin _ _ _⟩
   ·refine ⟨_,rfl,_,_,rfl,rfl,Xg rfl,_,rfl,_,_,rfl,rfl,kr rfl rfl,_,_,rfl,rfl,leN rfl,fin _ _ _⟩
  ·refine ⟨_,rfl,_,_,rfl,rfl,iV rfl rfl rfl,_,_,rfl,rfl,_,rfl,?_⟩
   refine Yu (fun c=>?_) (fun c=>?_)
   ·refine ⟨_,rfl,_,_,rfl,rfl,iV rfl rfl rfl,_,_,rfl,rfl,_,rfl,_,_,rfl,rfl,Xg rfl,leN rfl,fin _ _ _⟩
   ·refine ⟨_,rfl,_,_,rfl,rfl,Xg rfl,_,rfl,_,_,rfl,rfl,kr rfl rfl,_,_,rfl,rfl,leN rfl,fin _ _ _⟩
theorem pV (F:Fun K "_law_word" "_law_word" cE f fd):FnOk P w K mg base CX0 1 f fd ["_law_pen_here","_law_k"] ij:=by
 refine F.ok Tu (fun vs H Q E h=>?_) (fun cdv A outer s H vs Q E hr h=>?_)
 ·obtain ⟨x,k,rfl,_⟩:=h
  rfl
 obtain ⟨x,k,rfl,hq⟩:=h
 refine ⟨_,(@Z3 _ _ _ _ _ (@Zj _ _ 2 _ _ _ _ Tu.nd rfl (Or.inl rfl) V5 (by rfl) (by first | exact .inl rfl | exact .inr rfl))
 (@Z3 _ _ _ _ _ (@Zj _ _ 2 _ _ _ _ Tu.nd rfl (Or.inl rfl) (@Za _ _ _ _ _ _ _ _ gX (pv 2) V5) (by rfl) (by first | exact .inl rfl | exact .inr rfl))
 (@Z9 _ _ _ (@Zg _ _ _ _ (@Y0 _ _ _ _ _ _ _ Yb (Se PySem.F.plainAttrs_str PySem.F.slot_str_split PySem.F.type_str_split mi (pv 2) (@Z0 _ _ _ _ _ V5 Z1 (by rfl))) (@Za _ _ _ _ _ _ _ _ Xq (pv 1) Z2) (fun _ _=>rfl)))))),?_⟩
 refine ⟨_,rfl,wordA,wordB,rfl,rfl,pH,?_⟩
 refine ⟨_,rfl,rfl,wordA++wordB," ",words,rfl,rfl,sP,sq,tq,rf,gM,by decide,fun l hl=>?_⟩
 obtain ⟨v,hv,hm⟩:=Qg (xs:=words.map V.str) (i:=k % 26) (Int.emod_nonneg _ (by decide)) (by rw [List.length_map];exact Int.emod_lt_of_pos _ (by decide))
 obtain ⟨z,hz,rfl⟩:=List.mem_map.mp hm
 refine ⟨_,rfl,_,_,rfl,rfl,Xg rfl,l,_,_,_,rfl,rfl,SqL.of Ze,hv,?_⟩
 exact hq z _ hz (Zw hl _)
theorem qi (ai:Has P w K mg base "_law_draw" 1 ["_law_pen_here","_law_size"] bN) (F:Fun K "_law_many" "_law_many" cz f fd):FnOk P w K mg base CX0 2 f fd ["_law_pen_here"] nJ:=by
 refine F.ok j8 (fun vs H Q E h=>?_) (fun cdv A outer s H vs Q E hr h=>?_)
 ·obtain ⟨a,rfl,_⟩:=h
  rfl
 obtain ⟨a,rfl,hp,hq⟩:=h
 refine ⟨_,(@Z3 _ _ _ _ _ (@Yc _ _ _ _ _ _ _ _ (@Zm _ _ _ _ _ _ _ _ Wr (Z7 ai hr (@Z0 _ _ _ _ _ (pv 0) (@Z0 _ _ _ _ _ Z2 Z1 (by rfl)) (by rfl))) Z2 (Zk _)) (@Z9 _ _ _ (@Zg _ _ _ _ (@Za _ _ _ _ _ _ _ _ Zp Z2 (Z7 ai hr (@Z0 _ _ _ _ _ (pv 0) (@Z0 _ _ _ _ _ (@Za _ _ _ _ _ _ _ _ Wa (@Za _ _ _ _ _ _ _ _ iJ Z2 Z2) Z2) Z1 (by rfl)) (by rfl)))))) Zu)
 (@Z9 _ _ _ (@Zg _ _ _ _ (@Za _ _ _ _ _ _ _ _ Zp Z2 (Z7 ai hr (@Z0 _ _ _ _ _ (pv 0) (@Z0 _ _ _ _ _ (@Y0 _ _ _ _ _ _ _ Yb (@Y4 _ _ _ _ (@Z0 _ _ _ _ _ Z2 (@Z0 _ _ _ _ _ Z2 (@Z0 _ _ _ _ _ Z2 Z1 (by rfl)) (by rfl)) (by rfl))) (Z7 ai hr (@Z0 _ _ _ _ _ (pv 0) (@Z0 _ _ _ _ _ Z2 Z1 (by rfl)) (by rfl))) (fun _ _=>rfl)) Z1 (by rfl)) (by rfl))))))),?_⟩
 refine ⟨_,rfl,a,6,rfl,hp,Xg rfl,ltI rfl,fun d1 H1 _ _ hp1 g1=>⟨rfl,_,rfl,?_⟩⟩
 refine Yu (fun c=>?_) (fun c=>?_)
 ·refine ⟨_,rfl,_,_,rfl,rfl,iV rfl rfl rfl,_,_,rfl,rfl,a,_,rfl,hp1,Xg rfl,ltI rfl,fun d2 H2 x0 x1 hp2 g2=>⟨_,_,rfl,rfl,?_⟩⟩
  have x1:d2<999999999:=x1
  exact hq _ _ (by omega) (by omega) hp2 (g1.trans g2)
 ·refine ⟨_,rfl,leN rfl,fun p hn=>⟨_,rfl,a,3,rfl,hp1.laid hn,Xg rfl,ltI rfl,fun d2 H2 x0 x1 hp2 g2=>?_⟩⟩
  obtain ⟨v,hv,hm⟩:=at3 (x:=.int 1) (y:=.int 2) (z:=.int 9) x0 x1
  have hpa:=hp1.ne hn
  have e2:H2 p=some (.lst [.int 1,.int 2,.int 9]):=Oq g2 hpa Ze
  refine ⟨p,_,_,v,rfl,rfl,SqL.of e2,hv,?_⟩
  obtain ⟨n,rfl,n0,n1⟩:∃n:Int,v=.int n∧0<n∧n<10:=by
   rcases hm with rfl | rfl | rfl
   ·exact ⟨_,rfl,by decide,by decide⟩
   ·exact ⟨_,rfl,by decide,by decide⟩
   ·exact ⟨_,rfl,by decide,by decide⟩
  refine ⟨a,n,rfl,hp2,n0,by omega,fun d3 H3 y0 y1 hp3 g3=>⟨_,_,rfl,rfl,?_⟩⟩
  exact hq _ _ (by omega) (by omega) hp3 (g1.trans ((Xc hn).trans (g2.trans g3)))
theorem mW (ai:Has P w K mg base "_law_draw" 1 ["_law_pen_here","_law_size"] bN) (ef:Has P w K mg base "_law_word" 1 ["_law_pen_here","_law_k"] ij) (nM:Has P w K mg base "_law_many" 2 ["_law_pen_here"] nJ)
  (F:Fun K "_law_thing" "_law_thing" bW f fd):FnOk P w K mg base CX0 3 f fd ["_law_pen_here","_law_marks","_law_deep"] jR:=by
 refine F.ok V2 (fun vs H Q E h=>?_) (fun cdv A outer s H vs Q E hr h=>?_)
 ·obtain ⟨a,n,k,rfl,_⟩:=h
  rfl
 obtain ⟨a,n,k,rfl,hp,n0,n1,k0,k1,hq⟩:=h
 refine ⟨_,(@Z3 _ _ _ _ _ (@Zj _ _ 3 _ _ _ _ V2.nd rfl (Or.inl rfl) (@Za _ _ _ _ _ _ _ _ Wb (Z7 ai hr (@Z0 _ _ _ _ _ (pv 0) (@Z0 _ _ _ _ _ Z2 Z1 (by rfl)) (by rfl))) (@Y0 _ _ _ _ _ _ _ Yb (@Y4 _ _ _ _ (@Z0 _ _ _ _ _ Z2 (@Z0 _ _ _ _ _ Z2 (@Z0 _ _ _ _ _ Z2 Z1 (by rfl)) (by rfl)) (by rfl))) (Z7 ai hr (@Z0 _ _ _ _ _ (pv 0) (@Z0 _ _ _ _ _ Z2 Z1 (by rfl)) (by rfl))) (fun _ _=>rfl))) (by rfl) (by first | exact .inl rfl | exact .inr rfl))
 (@Z3 _ _ _ _ _ (@Zj _ _ 4 _ _ _ _ V2.nd rfl (Or.inl rfl) (Z7 ai hr (@Z0 _ _ _ _ _ (pv 0) (@Z0 _ _ _ _ _ (@Za _ _ _ _ _ _ _ _ tG Z2 (pv 2)) Z1 (by rfl)) (by rfl))) (by rfl) (by first | exact .inl rfl | exact .inr rfl))
 (@Z3 _ _ _ _ _ (@Yc _ _ _ _ _ _ _ _ (@Zm _ _ _ _ _ _ _ _ Wr (Z7 ai hr (@Z0 _ _ _ _ _ (pv 0) (@Z0 _ _ _ _ _ Z2 Z1 (by rfl)) (by rfl))) Z2 (Zk _)) (@Z9 _ _ _ (@Zj _ _ 4 _ _ _ _ V2.nd rfl (Or.inl rfl) (@Za _ _ _ _ _ _ _ _ jU (pv 4) Z2) (by rfl) (by first | exact .inl rfl | exact .inr rfl))) Zu)
 (@Z9 _ _ _ (@Zg _ _ _ _ (@Zh _ _ _ _ _ (@Z0 _ _ _ _ _ (pv 3) (@Z0 _ _ _ _ _ (Z7 ef hr (@Z0 _ _ _ _ _ (pv 0) (@Z0 _ _ _ _ _ (Z7 ai hr (@Z0 _ _ _ _ _ (pv 0) (@Z0 _ _ _ _ _ (pv 1) Z1 (by rfl)) (by rfl))) Z1 (by rfl)) (by rfl))) (@Z0 _ _ _ _ _ (pv 4) (@Z0 _ _ _ _ _ (Z7 nM hr (@Z0 _ _ _ _ _ (pv 0) Z1 (by rfl))) Z1 (by rfl)) (by rfl)) (by rfl)) (by rfl)))))))),?_⟩
 refine ⟨_,rfl,a,9,rfl,hp,Xg rfl,ltI rfl,fun d1 H1 x0 x1 hp1 g1=>⟨leN rfl,fun p hn=>⟨_,rfl,a,3,rfl,hp1.laid hn,Xg rfl,ltI rfl,fun d2 H2 y0 y1 hp2 g2=>?_⟩⟩⟩
 obtain ⟨v,hv,hm⟩:=at3 (x:=.int 1) (y:=.int 1) (z:=.int 1000) y0 y1
 have e2:H2 p=some (.lst [.int 1,.int 1,.int 1000]):=Oq g2 (hp1.ne hn) Ze
 have gg:=g1.trans ((Xc hn).trans g2)
 obtain ⟨m,rfl,m0⟩:∃m:Int,v=.int m∧0<m:=by
  rcases hm with rfl | rfl | rfl
  ·exact ⟨_,rfl,by decide⟩
  ·exact ⟨_,rfl,by decide⟩
  ·exact ⟨_,rfl,by decide⟩
 refine ⟨p,_,_,_,rfl,rfl,SqL.of e2,hv,_,_,rfl,rfl,Or.inl ⟨by omega,by omega⟩,?_⟩
 have day0:0≤d1 * m:=Int.mul_nonneg x0 (by omega)
 obtain ⟨kn,rfl⟩:=Int.eq_ofNat_of_zero_le k0
 have hsh:(1:Int) * 2 ^ kn≤536870912∧0<(1:Int) * 2 ^ kn:=by
  have a1:(2:Nat) ^ kn≤2 ^ 29:=Nat.pow_le_pow_right (by decide) (by omega)
  have a2:0<(2:Nat) ^ kn:=Nat.pow_pos (by decide)
  have a3:((2 ^ kn:Nat):Int)=(2:Int) ^ kn:=by push_cast;rfl
  rw [Int.one_mul,←a3]
  have a4:(2:Nat) ^ 29=536870912:=by decide
  omega
 refine ⟨_,rfl,_,rfl,_,_,rfl,rfl,⟨by omega,by omega,by decide⟩,a,_,rfl,hp2,hsh.2,by show (1:Int) * 2 ^ kn<_;omega,fun d3 H3 z0 z1 hp3 g3=>?_⟩
 have z1:d3<(1:Int) * 2 ^ kn:=z1
 refine ⟨_,rfl,a,3,rfl,hp3,Xg rfl,ltI rfl,fun d4 H4 _ _ hp4 g4=>⟨rfl,_,rfl,?_⟩⟩
 have g5:=gg.trans (g3.trans g4)
 refine Yu (fun c=>?_) (fun c=>?_)
 ·refine ⟨_,rfl,_,_,rfl,rfl,qM rfl rfl,?_⟩
  refine ⟨_,rfl,_,rfl,_,rfl,_,rfl,a,_,rfl,hp4,n0,by omega,fun d5 H5 _ _ hp5 g6=>⟨_,_,rfl,fun z H6 hz g7=>⟨_,rfl,_,rfl,a,rfl,hp5.same g7,fun mm H7 q0 q1 hp7 g8=>⟨leN rfl,fun r hr7=>?_⟩⟩⟩⟩
  refine hq r ⟨d1 * m,z,d3 / 4,mm⟩ _ ⟨day0,hz,Int.ediv_nonneg z0 (by decide),q0,by have:=Int.ediv_le_self 4 z0;show d3 / 4<_;omega,q1⟩ (by rw [Ym (hp7.ne hr7)];exact Ze) (hp7.laid hr7) ?_
  obtain ⟨_,_,_,e5⟩:=hp5
  exact g5.trans (g6.trans ((Tc e5 g7).trans (g8.trans (Xc hr7))))
 ·refine ⟨_,rfl,_,rfl,_,rfl,_,rfl,a,_,rfl,hp4,n0,by omega,fun d5 H5 _ _ hp5 g6=>⟨_,_,rfl,fun z H6 hz g7=>⟨_,rfl,_,rfl,a,rfl,hp5.same g7,fun mm H7 q0 q1 hp7 g8=>⟨leN rfl,fun r hr7=>?_⟩⟩⟩⟩
  refine hq r ⟨d1 * m,z,d3,mm⟩ _ ⟨day0,hz,z0,q0,by show d3<_;omega,q1⟩ (by rw [Ym (hp7.ne hr7)];exact Ze) (hp7.laid hr7) ?_
  obtain ⟨_,_,_,e5⟩:=hp5
  exact g5.trans (g6.trans ((Tc e5 g7).trans (g8.trans (Xc hr7))))
theorem k_ (ai:Has P w K mg base "_law_draw" 1 ["_law_pen_here","_law_size"] bN) (lB:Has P w K mg base "_law_thing" 3 ["_law_pen_here","_law_marks","_law_deep"] jR) (bS:mg "range"=none)
  (F:Fun K "_law_stream" "_law_stream" bB f fd):FnOk P w K mg base CX0 4 f fd ["_law_pen_here","_law_marks","_law_deep","_law_most"] dY:=by
 refine F.ok Nb (fun vs H Q E h=>?_) (fun cdv A outer s H vs Q E hr h=>?_)
 ·obtain ⟨a,n,k,l,rfl,_⟩:=h
  rfl
 obtain ⟨a,n,k,l,rfl,hp,n0,n1,k0,k1,l0,l1,hq⟩:=h
 refine ⟨_,(@Z9 _ _ _ (@Zg _ _ _ _ (Yh (own:=["_law_k"]) (CompOk.of rfl rfl (by rfl) (by rfl) (by rfl)) (S0 rfl bS (@Z0 _ _ _ _ _ (Z7 ai hr (@Z0 _ _ _ _ _ (pv 0) (@Z0 _ _ _ _ _ (@Za _ _ _ _ _ _ _ _ Zp (pv 3) Z2) Z1 (by rfl)) (by rfl))) Z1 (by rfl)))
  (fun _ _ _ _ _=>(Z5 (i:=0) Ud rfl (Or.inl rfl) (Or.inr rfl))) (fun _ _ _ _ _=>Ys)
  (fun _ _ _ _ _=>(Z7 lB hr (@Z0 _ _ _ _ _ (pv 1) (@Z0 _ _ _ _ _ (pv 2) (@Z0 _ _ _ _ _ (pv 3) Z1 (by rfl)) (by rfl)) (by rfl))))))),?_⟩
 refine ⟨_,rfl,_,rfl,_,_,rfl,rfl,a,_,rfl,hp,by omega,by omega,fun d H1 x0 x1 hp1 g1=>⟨d,rfl,by omega,by omega,?_⟩⟩
 refine Qa (fun i ys H'=>PenAt H' a∧Grw a H H'∧∃ts:List Th,ts.length=i∧(∀t∈ts,t.Ok)∧DVs (aA a H') ys (ts.map Th.D)) ⟨hp1,g1,[],rfl,(fun _ h=>nomatch h),DVs.nil⟩ ?_ ?_
 ·rintro i ys H2 C hi ⟨hp2,g2,ts,hl,hok,dv⟩ hC
  have hyl:=dv.length
  rw [List.length_map] at hyl
  refine ⟨Zn (by omega),Wk.refl _,_,rfl,_,rfl,_,rfl,a,n,k,rfl,hp2,n0,n1,k0,k1,fun r t H3 ht hr3 hp3 g3=>hC _ _ ⟨hp3,g2.trans g3,ts++[t],by rw [List.length_append,hl];rfl,?_,?_⟩⟩
  ·intro t' ht'
   rcases List.mem_append.mp ht' with h | h
   ·exact hok t' h
   ·rw [List.mem_singleton.mp h];exact ht
  ·rw [List.map_append]
   exact (dv.mono g3).append (.cons (Th.dv hr3) .nil)
 ·rintro ys H2 ⟨hp2,g2,ts,hl,hok,dv⟩
  have hyl:=dv.length
  rw [List.length_map] at hyl
  refine ⟨Zb (by omega),fun p hn=>hq p ts _ hok (by omega) ?_ (hp2.laid hn) (g2.trans (Xc hn))⟩
  have e:aA a (upd H2 p (.lst ys)) p=some (.lst ys):=by rw [Ym (hp2.ne hn)];exact Ze
  exact .lst e (dv.mono (Xc hn))
end
end K18
namespace L2
open PySem PySem.Spec PyProof.Rows
theorem Qj:typeLookup (.type "tuple") "keys"=pure none:=am_miss_of_fast (by decide +kernel)
theorem Sl:entryFor table "dict.update.loop"=some Builtin.«dict.update.loop»:=entryFor_of_tree (by kernel_rfl)
theorem Wq:plainId "dict.update.loop"=true:=by decide +kernel
section
variable {prog:Program} {w:World} {A:Around} {E:Value→Shared→Prop} {s:Shared}
theorem vi {a:Addr} {xs:Array Value} {k:Nat} {sl:Array (Option Value)} {Q:Option Value→Shared→Prop} (hx:s.heap.get? a=some {cls:=.type "tuple",dict:=none,data:=.seq xs k,slots:=sl}) (hA:A.handled=none)
  (h:∀g tk,(∀b o,s.heap.get? b=some o→g.get? b=some o)→Q none {s with heap:=g,toks:=tk}):wpAny (model prog w) A (getAttr? (.ref a) "keys") Q E s:=by
 obtain ⟨hp,g,d,tk,os⟩:=s
 have hT:∀tk',(⟨hp,g,d,tk',os⟩:Shared).TypeIs (.ref a) "tuple":=fun _=>⟨_,hx,rfl⟩
 have f1:=sub_AttributeError
 have f3:=F.slot_tuple_getattribute.lookup
 have f4:=F.slot_tuple_getattribute.bind (.ref a)
 have f5:=am_tuple_getattr_none
 unfold getAttr? getAttrBy? getAttrBy
 repeat (any_goals (first | assumption | exact hT _ | ((with_reducible show wpAny _ _ (call (Value.builtin "tuple.__getattribute__") _ _) _ _ _);refine call_meets F.slot_tuple_getattribute (hT _) am_entry_tuple_getattribute (F.args_tuple_getattribute_2 _ _) (meets_getattribute_miss_tuple a xs k sl "keys" _ Qj (by decide +kernel) (by decide +kernel)) ⟨hx,by simpa using hA,fun h' tk' e hx'=>?_⟩) | wp_step))
 obtain ⟨t',u',he⟩:=hx'.there
 show wpAny _ _ (getattributeRaised _ _ _ _ _ _ _) _ _ _
 unfold getattributeRaised
 repeat (any_goals (first | assumption | wp_step))
 exact h _ _ hx'.keeps
def nZ {κ:Type} [DecidableEq κ] (knd:PySem.KeyKind prog w κ) (h:Heap) (p:κ×Value) (v:Value) (no:List Addr):Prop:=
 ∃a o key n,v=.ref a∧a∉no∧h.get? a=some o∧o.cls=.type "tuple"∧o.data=.seq #[key,p.2] n∧knd.is p.1 key=true
theorem kZ {κ:Type} [DecidableEq κ] {knd:PySem.KeyKind prog w κ} {R:Result→Shared→Prop} {I:Addr} {fp wr:List Addr} {n:Nat} {P:Nat→Value→Prop} {St:Nat→Heap→Prop} (W:Walks prog w A.in1 I fp wr n P St) (D:Addr) (hD:D∉fp) (ps:List (κ×Value)) (hpn:ps.length=n) (its:List Value)
  (hP:∀i v,P i v→its[i]?=some v) (hb:n≤100000):
  ∀(k i:Nat) (s:Shared),n - i=k→i≤n→St i s.heap→s.heap.DictOf knd D (merged [] (ps.take i))→(∀(j:Nat) p v,ps[j]?=some p→its[j]?=some v→nZ knd s.heap p v (D::wr))→
   (∀g tk,(∀b o,b∉D::wr→s.heap.get? b=some o→g.get? b=some o)→g.DictOf knd D (merged [] ps)→R (.ok (.ret .none)) {s with heap:=g,toks:=tk})→
   codeAny (model prog w) A (.builtin "dict.update.loop" ⟨[.ref D,.ref I,rawInt i,.none],[]⟩) R s:=by
 have hDw:D∉wr:=fun q=>hD (W.sub _ q)
 intro k
 induction k with
 | zero=>
  intro i s hk hi st so tp fin
  obtain rfl:i=n:=by omega
  refine codeAny_builtin Sl ?_
  rw [Around.under_plainId Wq _]
  refine wpAny_bind (m:=pyNext (.ref I)) (W.done s _ _ st fun h' tk kp=>?_)
  rw [←hpn,List.take_length] at so
  refine wpAny_bind (m:=Builtin.Dict.addKeywords D []) (wpAny_pure (wpAny_pure (fin h' tk (fun b o nb e=>kp b o (fun q=>nb (List.mem_cons_of_mem _ q)) e) ?_)))
  obtain ⟨o,es,ep,ho,r⟩:=so
  exact ⟨o,es,ep,kp D o hDw ho,r⟩
 | succ k ih=>
  intro i s hk hi st so tp fin
  have hlt:i<n:=by omega
  refine codeAny_builtin Sl ?_
  rw [Around.under_plainId Wq _]
  refine wpAny_bind (m:=pyNext (.ref I)) (W.item i s _ _ hlt st fun v h1 tk1 pv st1 kp1=>?_)
  have hv:=hP i v pv
  obtain ⟨p,hp⟩:∃p,ps[i]?=some p:=⟨ps[i],List.getElem?_eq_getElem (by omega)⟩
  obtain ⟨a,o,key,m,rfl,na,ha,hc,hd,hkey⟩:=tp i p v hp hv
  have ha1:h1.get? a=some o:=kp1 a o (fun q=>na (List.mem_cons_of_mem _ q)) ha
  have so1:h1.DictOf knd D (merged [] (ps.take i)):=by
   obtain ⟨o,es,ep,ho,r⟩:=so
   exact ⟨o,es,ep,kp1 D o hDw ho,r⟩
  refine wpAny_bind (wpAny_holding (wpAny_bind (wpAny_tryCatch ?_)))
  unfold Builtin.Dict.pairItems
  refine wpAny_bind (wpAny_typeOf (T:="tuple") ⟨o,ha1,hc⟩ ?_)
  rw [if_pos (by decide)]
  refine wpAny_bind (m:=seqItems? (.ref a)) ?_
  unfold seqItems?
  refine wpAny_bind (wpAny_load ha1 ?_)
  rw [hd]
  refine wpAny_pure (wpAny_pure ?_)
  show wpAny _ _ (holding [key,p.2] (dictSet D key p.2)) _ _ _
  have eb:=merged_length_le ([]:List (κ×Value)) (ps.take i)
  rw [List.length_take] at eb
  refine wpAny_holding (wpAny_dictSet_pairs (s:={s with heap:=h1,toks:=tk1}) hkey so1 (fun g so2 sb=>?_) (by
   have:(100000:Nat)≤sizeLine:=by decide
   simp at eb
   omega))
  have so3:g.DictOf knd D (merged [] (ps.take (i+1))):=by rw [merged_take_succ _ _ _ _ hp];exact so2
  refine wpAny_pure ⟨plainId_quiet Wq _,ih (i+1) _ (by omega) hlt (W.frame _ _ _ st1 fun b hb o e=>(sb.2 b fun q=>hD (by rw [←q];exact hb)).trans e) so3 (fun j p v h1' h2'=>?_) fun g' tk kp so'=>fin g' tk (fun b o nb e=>kp b o nb ?_) so'⟩
  ·obtain ⟨a,o,key,m,rfl,na,ha,hc,hd,hkey⟩:=tp j p v h1' h2'
   exact ⟨a,o,key,m,rfl,na,(sb.2 a fun q=>na (by rw [q];exact List.mem_cons_self)).trans (kp1 a o (fun q=>na (List.mem_cons_of_mem _ q)) ha),hc,hd,hkey⟩
  ·exact (sb.2 b fun q=>nb (by rw [q];exact List.mem_cons_self)).trans (kp1 b o (fun q=>nb (List.mem_cons_of_mem _ q)) e)
theorem Sb {κ:Type} [DecidableEq κ] {knd:PySem.KeyKind prog w κ} {l:Addr} {its:List Value} {k:Nat} {sl:Array (Option Value)} {ps:List (κ×Value)} {Q:Value→Shared→Prop} (hh:A.handled=none)
  (hl:s.heap.get? l=some {cls:=.type "tuple",dict:=none,data:=.seq its.toArray k,slots:=sl}) (hlen:its.length=ps.length) (hb:ps.length≤100000) (hp:∀(j:Nat) p v,ps[j]?=some p→its[j]?=some v→nZ knd s.heap p v [])
  (h:∀g tk,(∀b o,s.heap.get? b=some o→g.get? b=some o)→g.DictOf knd s.heap.objs.size (merged [] ps)→Q (.ref s.heap.objs.size) {s with heap:=g,toks:=tk}):wpAny (model prog w) A (call (.type "dict") [.ref l]) Q E s:=by
 refine callType_codes (Q₁:=fun obj s₁=>obj=.ref s.heap.objs.size∧s₁={s with heap:=s.heap.push {cls:=.type "dict",data:=.dict #[]}}) F.kt_called_dict (F.kt_typeCall_dict_1 _) F.entry_dict_init (kt_code_dict_new _ ⟨rfl,rfl⟩) ?_
 rintro obj s₁ ⟨rfl,rfl⟩
 have hnew:(s.heap.push {cls:=.type "dict",data:=.dict #[]}).DictOf knd s.heap.objs.size []:=Heap.DictOf.new s.heap
 have hl1:(s.heap.push {cls:=.type "dict",data:=.dict #[]}).get? l=some {cls:=.type "tuple",dict:=none,data:=.seq its.toArray k,slots:=sl}:=Heap.get?_push_of_some _ hl
 refine ⟨hnew.typeIs,F.args_dict_init_2 _ _,?_⟩
 unfold Builtin.«dict.__init__»
 refine wpAny_bind ?_
 unfold Builtin.Dict.selfAndRest
 refine wpAny_bind (wpAny_notOrdered_dict hnew.typeIs ?_)
 refine wpAny_pure (a:=(s.heap.objs.size,[Value.ref l])) ?_
 show wpAny _ _ (Builtin.Dict.updateFrom "dict.__init__" s.heap.objs.size (.ref l) [] .none) _ _ _
 unfold Builtin.Dict.updateFrom
 refine wpAny_bind (wpAny_typeOf (T:="tuple") ⟨_,hl1,rfl⟩ ?_)
 rw [if_pos (by decide)]
 refine wpAny_bind (vi hl1 (by simpa using hh) fun g tk kp=>?_)
 rw [if_pos (by rfl)]
 refine wpAny_bind (wpAny_rule ?_)
 have ltD:s.heap.objs.size<g.objs.size:=by
  obtain ⟨o,es,ep,ho,_⟩:=hnew
  exact Heap.lt_size (kp _ _ ho)
 have ltl:l<s.heap.objs.size:=Heap.lt_size hl
 have hl2:g.IsTuple l its.toArray:=⟨_,kp _ _ hl1,rfl,k,rfl⟩
 refine wpAny_bind (wpAny_pyIter_tuple hl2 (wpAny_pure ⟨plainId_quiet Wq _,?_⟩))
 have hne:l≠g.objs.size:=Nat.ne_of_lt (Nat.lt_trans ltl ltD)
 have hh2:A.in1.in1.handled=none:=by simpa using hh
 have nin:s.heap.objs.size∉[g.objs.size,l]:=by
  simp only [List.mem_cons,List.not_mem_nil,or_false,not_or]
  exact ⟨Nat.ne_of_lt ltD,Nat.ne_of_gt ltl⟩
 have sz:ps.length=its.toArray.size:=by rw [List.size_toArray];omega
 refine kZ (knd:=knd) (A:=A.in1) (Walks.tuple hh2 g.objs.size l hne its.toArray) s.heap.objs.size nin ps sz its (fun i v e=>by simpa using e) (by omega) its.toArray.size 0 _ (Nat.sub_zero _) (Nat.zero_le _) ?st ?so ?tp ?fin
 case st=>exact ⟨⟨_,Heap.get?_push_size _ rfl,rfl,rfl⟩,hl2.push _⟩
 case so=>
  obtain ⟨o,es,ep,ho,r⟩:=hnew
  exact ⟨o,es,ep,Heap.get?_push_of_some _ (kp _ _ ho),r⟩
 case tp=>
  intro j p v h1 h2
  obtain ⟨a,o,key,n,rfl,_,ha,r⟩:=hp j p v h1 h2
  have lt:=Heap.lt_size ha
  refine ⟨a,o,key,n,rfl,?_,Heap.get?_push_of_some _ (kp _ _ (Heap.get?_push_of_some _ ha)),r⟩
  simp only [List.mem_cons,List.not_mem_nil,or_false,not_or]
  exact ⟨Nat.ne_of_lt lt,Nat.ne_of_lt (Nat.lt_trans lt ltD)⟩
 case fin=>
  intro g' tk' kp' so'
  refine ⟨rfl,h g' tk' (fun b o e=>kp' b o ?_ (Heap.get?_push_of_some _ (kp _ _ (Heap.get?_push_of_some _ e)))) so'⟩
  have lt:=Heap.lt_size e
  simp only [List.mem_cons,List.not_mem_nil,or_false,not_or]
  exact ⟨Nat.ne_of_lt lt,Nat.ne_of_lt (Nat.lt_trans lt ltD)⟩
end
section
variable {X:Cx} {pins:List (Addr×Obj)} {σ:St} {H:Hp} {s:Shared}
theorem Rl (I:Inv X pins σ H s):∀{ys:List V} {kvs:List (Key×V)} {us:List Value},PairsAt H ys kvs→Vals ys us→∃ws:List (Key×Value),KV kvs ws∧us.length=ws.length∧∀(j:Nat) p v,ws[j]?=some p→us[j]?=some v→nZ (af X.prog X.w) s.heap p v []
 | _,_,_,.nil,.nil=>⟨[],.nil,rfl,fun j p v e=>by simp at e⟩
 | _,_,_,.cons (a:=a) (k:=k) (v:=v) h r,.cons ru rr=>by
  obtain ⟨ws,kv,hl,hp⟩:=Rl I r rr
  cases ru
  obtain ⟨_,its,vs,⟨o,ho,hc,n,hd⟩⟩:=(show ObjOk X.prog X.w H s.heap a (.tup [kV k,v]) from I.hok a _ h)
  cases vs with
  | @cons _ key _ _ r1 q=>
   cases q with
   | @cons _ x _ _ r2 q2=>
    cases q2
    refine ⟨(k,x)::ws,.cons ⟨rfl,r2⟩ kv,by simp [hl],fun j p u e1 e2=>?_⟩
    cases j with
    | zero=>
     simp at e1 e2
     subst e1 e2
     exact ⟨a,o,key,n,rfl,by simp,ho,hc.1,hd,Pd r1⟩
    | succ j=>exact hp j p u (by simpa using e1) (by simpa using e2)
end
abbrev Ps:=List (Str×Int)
def aE (ps:Ps):List (Key×V):=ps.map fun p=>(Sum.inr p.1,V.int p.2)
def aW (ps:Ps):List Int:=ps.map (·.2)
theorem jL (ps:Ps):(aE ps).map (·.2)=(aW ps).map V.int:=by unfold aE aW;rw [List.map_map,List.map_map];rfl
theorem Ye (ps:Ps):(aE ps).length=ps.length:=List.length_map _
theorem Ro (ps:Ps):(aW ps).length=ps.length:=List.length_map _
theorem Wy (ps:Ps):(aE ps).map (·.1)=(ps.map (·.1)).map Sum.inr:=by unfold aE;rw [List.map_map,List.map_map];rfl
theorem O2:∀{ps:Ps} {i:Nat} {p:Str×Int},(ps.map (·.1)).Nodup→ps[i]?=some p→bK (aE ps) (Sum.inr p.1)=some (.int p.2)
 | [],_,_,_,e=>by simp at e
 | q::ps,0,p,_,e=>by
  have e:q=p:=by simpa using e
  subst e
  exact Uq rfl
 | q::ps,i+1,p,h,e=>by
  have e':ps[i]?=some p:=by simpa using e
  have h:=List.nodup_cons.mp h
  have ne:¬(Sum.inr q.1:Key)=Sum.inr p.1:=fun z=>h.1 (by show q.1∈_;rw [Sum.inr.inj z];exact List.mem_map.mpr ⟨p,List.mem_of_getElem? e',rfl⟩)
  exact (Ur ne).trans (O2 h.2 e')
theorem T6:∀(more acc:List (Key×V)),((acc++more).map (·.1)).Nodup→cU acc more=acc++more
 | [],acc,_=>by rw [List.append_nil];rfl
 | (k,v)::more,acc,h=>by
  have hn:bK acc k=none:=by
   cases e:bK acc k with
   | none=>rfl
   | some u=>
    have hk:=qA e
    rw [List.map_append,List.nodup_append] at h
    exact absurd rfl (h.2.2 k hk k List.mem_cons_self)
  show cU (ci acc k v) more=_
  rw [mU v hn,T6 more _ (by rw [List.append_assoc];exact h),List.append_assoc]
  rfl
theorem Um {kvs:List (Key×V)} (h:(kvs.map (·.1)).Nodup):cU [] kvs=kvs:=T6 kvs [] h
theorem gW {l:List Str} (h:l.Nodup):(l.map (Sum.inr:Str→Key)).Nodup:=by
 induction l with
 | nil=>exact List.nodup_nil
 | cons a l ih=>
  rw [List.map_cons,List.nodup_cons]
  refine ⟨fun q=>?_,ih (List.nodup_cons.mp h).2⟩
  obtain ⟨b,hb,e⟩:=List.mem_map.mp q
  exact (List.nodup_cons.mp h).1 (Sum.inr.inj e ▸ hb)
def pD (p:Str×Int):PyData:=.tuple [.str p.1,.int p.2]
theorem S1 {H:Hp}:∀{ps:Ps} {ys:List V},PairsAt H ys (aE ps)→DVs H ys (ps.map pD)
 | [],_,h=>by cases h;exact .nil
 | p::ps,_,h=>by
  cases h with
  | cons e r=>exact .cons (.tup e (.cons (.str _) (.cons (.int _) .nil))) (S1 r)
theorem rK {ps:Ps} (h:∀p∈ps,PyData.strOk p.1=true):(PyData.list (ps.map pD)).canLay0=true∧(PyData.list (ps.map pD)).depth≤2:=Vn (n:=1) ps fun p hp=>by
 refine ⟨?_,?_⟩
 ·simp [pD,PyData.canLay0,PyData.canLayAll0,h p hp]
 ·simp [pD,PyData.depth,PyData.depthAll]
structure Ty where
 room:Int
 cs:Ps
 lt:Int
 total:Int
def Ty.D (t:Ty):PyData:=.tuple [.int t.room,.tuple (t.cs.map pD),.int t.lt,.int t.total]
def Ty.sum (t:Ty):Int:=(aW t.cs).sum
structure Ty.Ok (t:Ty):Prop where
 room1:1≤t.room
 room2:t.room≤20
 nd:(t.cs.map (·.1)).Nodup
 rise:(t.cs.map (·.1)).Pairwise (fun a b=>leS a b=true)
 word:∀p∈t.cs,p.1∈words
 pos:∀p∈t.cs,1≤p.2
 len:(t.cs.length:Int)≤t.room
 lt0:0≤t.lt
 lo:(t.room+1) * t.lt≤t.total - t.sum
 hi:t.total - t.sum≤2 * t.room * t.lt
theorem DVs.pairs_inv {H:Hp}:∀{ps:Ps} {ys:List V},DVs H ys (ps.map pD)→PairsAt H ys (aE ps)
 | [],_,h=>by rw [h.nil_inv];exact .nil
 | p::ps,_,h=>by
  obtain ⟨x,r,rfl,h1,h2⟩:=DVs.cons_inv h
  obtain ⟨a,xs,rfl,e,q⟩:=DV.tup_inv h1
  obtain ⟨_,_,rfl,k1,q⟩:=q.cons_inv
  obtain ⟨_,_,rfl,k2,q⟩:=q.cons_inv
  have:=q.nil_inv
  subst this
  cases k1
  cases k2
  exact .cons e (DVs.pairs_inv h2)
theorem DV.ty_inv {H:Hp} {v:V} {t:Ty} (h:DV H v t.D):∃a b rows,v=.ref a∧H a=some (.tup [.int t.room,.ref b,.int t.lt,.int t.total])∧H b=some (.tup rows)∧PairsAt H rows (aE t.cs):=by
 obtain ⟨a,xs,rfl,e,q⟩:=DV.tup_inv h
 obtain ⟨_,_,rfl,k1,q⟩:=q.cons_inv
 obtain ⟨_,_,rfl,k2,q⟩:=q.cons_inv
 obtain ⟨_,_,rfl,k3,q⟩:=q.cons_inv
 obtain ⟨_,_,rfl,k4,q⟩:=q.cons_inv
 have:=q.nil_inv
 subst this
 cases k1
 cases k3
 cases k4
 obtain ⟨b,rows,rfl,e2,q2⟩:=DV.tup_inv k2
 exact ⟨a,b,rows,rfl,e,e2,DVs.pairs_inv q2⟩
theorem Ty.dv {H:Hp} {a b:Addr} {rows:List V} {t:Ty} (e:H a=some (.tup [.int t.room,.ref b,.int t.lt,.int t.total])) (e2:H b=some (.tup rows)) (p:PairsAt H rows (aE t.cs)):DV H (.ref a) t.D:=
 .tup e (.cons (.int _) (.cons (.tup e2 (S1 p)) (.cons (.int _) (.cons (.int _) .nil))))
def look (ps:Ps) (z:Str):Int:=match ps with
 | []=>0
 | p::r=>if p.1=z then p.2 else look r z
theorem W6:∀{ps:Ps} {p:Str×Int},(ps.map (·.1)).Nodup→p∈ps→look ps p.1=p.2
 | q::ps,p,h,hp=>by
  rcases List.mem_cons.mp hp with rfl | hp
  ·exact if_pos rfl
  ·have h:=List.nodup_cons.mp h
   have ne:q.1≠p.1:=fun e=>h.1 (by show q.1∈_;rw [e];exact List.mem_map.mpr ⟨p,hp,rfl⟩)
   show (if q.1=p.1 then q.2 else look ps p.1)=p.2
   rw [if_neg ne]
   exact W6 h.2 hp
theorem gq {ps:Ps} {z:Str} (h:(ps.map (·.1)).Nodup) (hz:z∈ps.map (·.1)):bK (aE ps) (Sum.inr z)=some (.int (look ps z)):=by
 obtain ⟨p,hp,rfl⟩:=List.mem_map.mp hz
 obtain ⟨i,hi⟩:=List.mem_iff_getElem?.mp hp
 rw [W6 h hp]
 exact O2 h hi
theorem gn {ps:Ps} (h:(ps.map (·.1)).Nodup):(ps.map (·.1)).map (fun z=>(z,look ps z))=ps:=by
 rw [List.map_map]
 have e:∀p∈ps,((fun z=>(z,look ps z))∘fun p:Str×Int=>p.1) p=p:=fun p hp=>by
  show (p.1,look ps p.1)=p
  rw [W6 h hp]
 rw [List.map_congr_left e]
 exact List.map_id _
theorem Nh {l m:List Int} (p:l.Perm m):l.sum=m.sum:=by
 induction p with
 | nil=>rfl
 | cons x _ ih=>rw [List.sum_cons,List.sum_cons,ih]
 | swap x y l=>simp only [List.sum_cons];omega
 | trans _ _ a b=>exact a.trans b
theorem PenAt.tup {H:Hp} {a p:Addr} {xs:List V} (h:PenAt H a) (e:H p=some (.tup xs)):aA a H p=some (.tup xs):=by
 have ne:p≠a:=fun q=>by
  subst q
  obtain ⟨_,_,_,e'⟩:=h
  rw [e] at e'
  cases e'
 rw [Ym ne]
 exact e
theorem PairsAt.get {H:Hp}:∀{xs:List V} {kvs:List (Key×V)},PairsAt H xs kvs→∀{i:Nat} {x:V},xs[i]?=some x→∃(a:Addr) (k:Key) (v:V),x=.ref a∧kvs[i]?=some (k,v)∧H a=some (.tup [kV k,v])
 | _,_,.nil,i,x,e=>by simp at e
 | _,_,.cons (a:=a) (k:=k) (v:=v) h r,0,x,e=>⟨a,k,v,by simpa using e.symm,rfl,h⟩
 | _,_,.cons h r,i+1,x,e=>by
  obtain ⟨a,k,v,e1,e2,e3⟩:=PairsAt.get r (show _ by simpa using e)
  exact ⟨a,k,v,e1,by simpa using e2,e3⟩
theorem PairsAt.getP {H:Hp} {xs:List V} {ps:Ps} (h:PairsAt H xs (aE ps)) {i:Nat} {x:V} (e:xs[i]?=some x):∃(a:Addr) (p:Str×Int),x=.ref a∧ps[i]?=some p∧H a=some (.tup [.str p.1,.int p.2]):=by
 obtain ⟨a,k,v,e1,e2,e3⟩:=h.get e
 unfold aE at e2
 rw [List.getElem?_map] at e2
 obtain ⟨p,hp,q⟩:=Option.map_eq_some_iff.mp e2
 cases q
 exact ⟨a,p,e1,hp,e3⟩
theorem X4:∀{ps:Ps} {z:Str},z∉ps.map (·.1)→look ps z=0
 | [],_,_=>rfl
 | p::ps,z,h=>by
  rw [List.map_cons,List.mem_cons,not_or] at h
  show (if p.1=z then p.2 else look ps z)=0
  rw [if_neg (Ne.symm h.1)]
  exact X4 h.2
theorem lT (ps qs:Ps) (z:Str):look (ps++qs) z=if z∈ps.map (·.1) then look ps z else look qs z:=by
 induction ps with
 | nil=>rfl
 | cons p ps ih=>
  show (if p.1=z then p.2 else look (ps++qs) z)=if z∈(p::ps).map (·.1) then (if p.1=z then p.2 else look ps z) else look qs z
  by_cases e:p.1=z
  ·rw [if_pos e,if_pos e,if_pos (by rw [List.map_cons,e];exact List.mem_cons_self)]
  ·rw [if_neg e,if_neg e,ih]
   by_cases h:z∈ps.map (·.1)
   ·rw [if_pos h,if_pos (show z∈(p::ps).map (·.1) from List.mem_cons_of_mem _ h)]
   ·rw [if_neg h,if_neg]
    rw [List.map_cons,List.mem_cons,not_or]
    exact ⟨Ne.symm e,h⟩
section
variable {X:Cx}
def t8:List V→Hp→VK→Prop:=fun xs H Q=>∃(l:Addr) (ys:List V) (kvs:List (Key×V)),xs=[.ref l]∧H l=some (.tup ys)∧PairsAt H ys kvs∧kvs.length≤1000∧∀p,H p=none→Q (.ref p) (upd H p (.dK (cU [] kvs)))
theorem Va (hc:X.calm=true):CallR X (.type "dict") t8:=by
 intro pins s σ H xs us Q I rx h
 obtain ⟨l,ys,kvs,rfl,hq,pa,hlen,q⟩:=h
 obtain ⟨u,rfl,ru⟩:=Xo rx
 cases ru
 obtain ⟨_,its,rv,⟨⟨c0,d0,dt0,sl0⟩,ho,hcl,m,hs⟩⟩:=(show ObjOk X.prog X.w H s.heap l (.tup ys) from I.hok l _ hq)
 simp only at hcl hs
 obtain ⟨hcl,hdn⟩:=hcl
 subst hcl hdn hs
 obtain ⟨ws,kv,hl,hp⟩:=Rl I pa rv
 have kl:=kv.length
 refine Sb (knd:=af X.prog X.w) (I.ok.hd hc) ho hl (by omega) hp fun g tk kp hD=>?_
 refine ⟨.ref s.heap.objs.size,_,I.laid (t':=tk) (o:=.dK (cU [] kvs)) kp (Nat.le_refl _) ?_,rfl,q _ (I.hok.fresh (Nat.le_refl _))⟩
 have ml:=U5 kvs []
 refine ⟨Zb (by simp at ml;omega),?_,_,KV.merge kv .nil,hD⟩
 exact beq_eq_false_iff_ne.mpr (Nat.ne_of_gt I.big)
end
def srt (ns:List Int):List Int:=ns.mergeSort fun a b=>decide (b≤a)
theorem W7 (ns:List Int):(srt ns).Perm ns:=List.mergeSort_perm _ _
theorem iG (ns:List Int):(srt ns).Pairwise (· ≥ ·):=by
 have h:=List.pairwise_mergeSort (le:=fun a b:Int=>decide (b≤a)) (by intro a b c h1 h2;simp at *;omega) (by intro a b;simp;omega) ns
 exact h.imp fun h=>by simpa using h
theorem jO:∀{l m:List Int},l.Perm m→l.Pairwise (· ≥ ·)→m.Pairwise (· ≥ ·)→l=m
 | [],m,p,_,_=>(List.Perm.nil_eq p)
 | a::l,[],p,_,_=>absurd p.length_eq (by simp)
 | a::l,b::m,p,h1,h2=>by
  have ha:a∈b::m:=p.mem_iff.mp List.mem_cons_self
  have hb:b∈a::l:=p.mem_iff.mpr List.mem_cons_self
  have le1:b ≥ a:=by
   rcases List.mem_cons.mp ha with e | e
   ·omega
   ·exact (List.pairwise_cons.mp h2).1 a e
  have le2:a ≥ b:=by
   rcases List.mem_cons.mp hb with e | e
   ·omega
   ·exact (List.pairwise_cons.mp h1).1 b e
  have e:a=b:=by omega
  subst e
  rw [jO ((List.perm_cons a).mp p) (List.pairwise_cons.mp h1).2 (List.pairwise_cons.mp h2).2]
theorem rG {ms ns:List Int} (p:ms.Perm ns) (h:ms.Pairwise (· ≥ ·)):ms=srt ns:=jO (p.trans (W7 ns).symm) h (iG ns)
def eC (room:Int) (ns:List Int):Int:=if (ns.length:Int)≤room then 0 else (srt ns).getD room.toNat 0
theorem Q4:∀{l:List Int} {i:Nat} {c:Int},l.Pairwise (· ≥ ·)→l[i]?=some c→(l.filter fun x=>decide (c<x)).length≤i
 | [],_,_,_,e=>by simp at e
 | a::l,0,c,h,e=>by
  have e:a=c:=by simpa using e
  subst e
  have:∀x∈a::l,¬a<x:=fun x hx=>by
   rcases List.mem_cons.mp hx with q | q
   ·omega
   ·have:=(List.pairwise_cons.mp h).1 x q
    omega
  rw [List.filter_eq_nil_iff.mpr fun x hx=>by simpa using this x hx]
  exact Nat.le_refl _
 | a::l,i+1,c,h,e=>by
  have ih:=Q4 (List.pairwise_cons.mp h).2 (show l[i]?=some c by simpa using e)
  rw [List.filter_cons]
  split
  ·rw [List.length_cons];omega
  ·omega
theorem Pi:∀{l:List Int} {i:Nat} {c:Int},l.Pairwise (· ≥ ·)→l[i]?=some c→i<(l.filter fun x=>decide (c≤x)).length
 | [],_,_,_,e=>by simp at e
 | a::l,0,c,h,e=>by
  have e:a=c:=by simpa using e
  subst e
  rw [List.filter_cons]
  simp
 | a::l,i+1,c,h,e=>by
  have e':l[i]?=some c:=by simpa using e
  have ih:=Pi (List.pairwise_cons.mp h).2 e'
  have:c≤a:=(List.pairwise_cons.mp h).1 c (List.mem_of_getElem? e')
  rw [List.filter_cons,if_pos (by simpa using this),List.length_cons]
  omega
theorem Ve (c:Int):∀l:List Int,(l.filter fun x=>decide (c≤x)).length=(l.filter fun x=>decide (c<x)).length+l.count c
 | []=>rfl
 | a::l=>by
  have ih:=Ve c l
  rw [List.filter_cons,List.filter_cons,List.count_cons]
  by_cases h1:c<a
  ·have h2:c≤a:=by omega
   have h3:¬a=c:=by omega
   simp [h1,h2,h3]
   omega
  ·by_cases h3:a=c
   ·subst h3
    simp
    omega
   ·have h2:¬c≤a:=by omega
    simp [h1,h2,h3]
    omega
theorem W2 {room:Int} {ns:List Int} (h0:0≤room) (h:room<ns.length):∃c,(srt ns)[room.toNat]?=some c∧eC room ns=c∧c∈ns∧((ns.filter fun x=>decide (c<x)).length:Int)≤room∧room<(ns.filter fun x=>decide (c<x)).length+ns.count c:=by
 have hl:(srt ns).length=ns.length:=(W7 ns).length_eq
 have hi:room.toNat<(srt ns).length:=by omega
 have e:(srt ns)[room.toNat]?=some (srt ns)[room.toNat]:=List.getElem?_eq_getElem hi
 refine ⟨_,e,?_,(W7 ns).mem_iff.mp (List.getElem_mem hi),?_,?_⟩
 ·unfold eC
  rw [if_neg (by omega),List.getD_eq_getElem?_getD,e]
  rfl
 ·have q:=Q4 (iG ns) e
  rw [((W7 ns).filter _).length_eq] at q
  omega
 ·have q:=Pi (iG ns) e
  rw [((W7 ns).filter _).length_eq,Ve] at q
  omega
def ah (ps qs:Ps):List Str:=ps.map (·.1)++(qs.map (·.1)).filter fun z=>decide (z∉ps.map (·.1))
def ax (ps qs:Ps) (z:Str):Int:=look ps z+look qs z
def aF (room:Int) (ps qs:Ps):Int:=eC room ((ah ps qs).map (ax ps qs))
def csM (room:Int) (ps qs:Ps):Ps:=((bi (ah ps qs)).filter fun z=>decide (aF room ps qs<ax ps qs z)).map fun z=>(z,ax ps qs z - aF room ps qs)
def dh (a b:Ty):Ty:=⟨a.room,csM a.room a.cs b.cs,a.lt+b.lt+aF a.room a.cs b.cs,a.total+b.total⟩
theorem Wp {ps qs:Ps} (h:(ps.map (·.1)).Nodup) (g:(qs.map (·.1)).Nodup):(ah ps qs).Nodup:=by
 refine List.nodup_append.mpr ⟨h,g.sublist List.filter_sublist,fun a ha b hb e=>?_⟩
 subst e
 exact of_decide_eq_true (List.mem_filter.mp hb).2 ha
theorem Yp {ps qs:Ps} {z:Str}:z∈ah ps qs↔z∈ps.map (·.1)∨z∈qs.map (·.1):=by
 unfold ah
 rw [List.mem_append,List.mem_filter]
 by_cases h:z∈ps.map (·.1)
 ·exact ⟨fun _=>.inl h,fun _=>.inl h⟩
 ·refine ⟨fun q=>q.elim .inl fun q=>.inr q.1,fun q=>q.elim .inl fun q=>.inr ⟨q,decide_eq_true h⟩⟩
theorem gS {ps qs:Ps} (h:(ps.map (·.1)).Nodup) (g:(qs.map (·.1)).Nodup):(ah ps qs).Perm (ah qs ps):=
 (List.perm_ext_iff_of_nodup (Wp h g) (Wp g h)).mpr fun z=>by rw [Yp,Yp];exact Or.comm
theorem T9 {ps:Ps} (h:∀p∈ps,1≤p.2) (z:Str):0≤look ps z:=by
 induction ps with
 | nil=>exact Int.le_refl _
 | cons p ps ih=>
  show 0≤if p.1=z then p.2 else look ps z
  have:=h p List.mem_cons_self
  have:=ih fun q hq=>h q (List.mem_cons_of_mem _ hq)
  split <;> omega
theorem T8 {ps:Ps} (h:∀p∈ps,1≤p.2) (nd:(ps.map (·.1)).Nodup) {z:Str} (hz:z∈ps.map (·.1)):1≤look ps z:=by
 obtain ⟨p,hp,rfl⟩:=List.mem_map.mp hz
 rw [W6 nd hp]
 exact h p hp
theorem Vq (room:Int) (ps qs:Ps):(csM room ps qs).map (·.1)=(bi (ah ps qs)).filter fun z=>decide (aF room ps qs<ax ps qs z):=by
 unfold csM
 rw [List.map_map]
 exact List.map_id _
theorem mT {room:Int} {ps qs:Ps} (h:(ps.map (·.1)).Nodup) (g:(qs.map (·.1)).Nodup):((csM room ps qs).map (·.1)).Nodup:=by
 rw [Vq]
 exact ((Zv _).nodup_iff.mpr (Wp h g)).sublist List.filter_sublist
theorem mV {room:Int} {ps qs:Ps} (h:(ps.map (·.1)).Nodup) (g:(qs.map (·.1)).Nodup) (c0:0≤aF room ps qs) (z:Str):
  look (csM room ps qs) z=if aF room ps qs<ax ps qs z then ax ps qs z - aF room ps qs else 0:=by
 by_cases hz:z∈(csM room ps qs).map (·.1)
 ·have e:=hz
  rw [Vq] at e
  obtain ⟨e1,e2⟩:=List.mem_filter.mp e
  rw [if_pos (of_decide_eq_true e2)]
  exact W6 (p:=(z,ax ps qs z - aF room ps qs)) (mT h g) (List.mem_map.mpr ⟨z,e,rfl⟩)
 ·rw [X4 hz]
  split
  ·rename_i lt
   refine absurd ?_ hz
   rw [Vq]
   refine List.mem_filter.mpr ⟨(Zv _).mem_iff.mpr (Yp.mpr ?_),decide_eq_true lt⟩
   by_cases h1:z∈ps.map (·.1)
   ·exact .inl h1
   ·by_cases h2:z∈qs.map (·.1)
    ·exact .inr h2
    ·have:ax ps qs z=0:=by unfold ax;rw [X4 h1,X4 h2];rfl
     omega
  ·rfl
theorem jK (c:Int) (hc:0≤c):∀l:List Int,(∀x∈l,0≤x)→c * (l.filter fun x=>decide (c≤x)).length≤l.sum - ((l.filter fun x=>decide (c<x)).map fun x=>x - c).sum∧l.sum - ((l.filter fun x=>decide (c<x)).map fun x=>x - c).sum≤c * l.length
 | [],_=>by simp
 | a::l,h=>by
  obtain ⟨i1,i2⟩:=jK c hc l fun x hx=>h x (List.mem_cons_of_mem _ hx)
  have ha:=h a List.mem_cons_self
  rw [List.filter_cons,List.filter_cons,List.sum_cons,List.length_cons]
  by_cases h1:c<a
  ·have h2:c≤a:=by omega
   simp only [h1,h2,decide_true,if_true,List.length_cons,List.map_cons,List.sum_cons,Int.natCast_add,Int.mul_add,Int.natCast_one,Int.mul_one]
   omega
  ·by_cases h3:c≤a
   ·simp only [h1,h3,decide_true,decide_false,if_true,List.length_cons,Int.natCast_add,Int.mul_add,Int.natCast_one,Int.mul_one]
    simp
    omega
   ·simp only [h1,h3,decide_false,Int.natCast_add,Int.mul_add,Int.natCast_one,Int.mul_one]
    simp
    omega
theorem i8 (f g:Str→Int):∀l:List Str,(l.map fun z=>f z+g z).sum=(l.map f).sum+(l.map g).sum
 | []=>rfl
 | a::l=>by
  rw [List.map_cons,List.map_cons,List.map_cons,List.sum_cons,List.sum_cons,List.sum_cons,i8 f g l]
  omega
theorem N7 (f:Str→Int):∀l:List Str,(∀z∈l,f z=0)→(l.map f).sum=0
 | [],_=>rfl
 | a::l,h=>by
  rw [List.map_cons,List.sum_cons,h a List.mem_cons_self,N7 f l fun z hz=>h z (List.mem_cons_of_mem _ hz)]
  rfl
theorem ku {ps:Ps} (h:(ps.map (·.1)).Nodup):(ps.map (·.1)).map (look ps)=aW ps:=by
 have e:=congrArg (List.map Prod.snd) (gn h)
 rw [List.map_map] at e
 exact e
theorem Rv {ps qs:Ps} (h:(ps.map (·.1)).Nodup):((ah ps qs).map (look ps)).sum=(aW ps).sum:=by
 unfold ah
 rw [List.map_append,List.sum_append,ku h,N7 (look ps) _ fun z hz=>X4 (of_decide_eq_true (List.mem_filter.mp hz).2)]
 omega
theorem Pc {ps qs:Ps} (h:(ps.map (·.1)).Nodup) (g:(qs.map (·.1)).Nodup):((ah ps qs).map (ax ps qs)).sum=(aW ps).sum+(aW qs).sum:=by
 show ((ah ps qs).map fun z=>look ps z+look qs z).sum=_
 rw [i8,Rv h,Nh ((gS h g).map (look qs)),Rv g]
theorem W0 (ps qs:Ps):(ah ps qs).length≤ps.length+qs.length:=by
 unfold ah
 rw [List.length_append,List.length_map]
 have:=List.length_filter_le (fun z=>decide (z∉ps.map (·.1))) (qs.map (·.1))
 rw [List.length_map] at this
 omega
theorem qI {room:Int} {ns:List Int} (h0:0≤room) (h:∀x∈ns,0≤x):0≤eC room ns:=by
 by_cases q:(ns.length:Int)≤room
 ·unfold eC
  rw [if_pos q]
  exact Int.le_refl _
 ·obtain ⟨c,_,e,m,_⟩:=W2 h0 (Int.not_le.mp q)
  rw [e]
  exact h c m
theorem O7 {a b:Ty} (h:a.Ok) (g:b.Ok) (z:Str):0≤ax a.cs b.cs z:=Int.add_nonneg (T9 h.pos z) (T9 g.pos z)
theorem pZ {a b:Ty} (h:a.Ok) (g:b.Ok):0≤aF a.room a.cs b.cs:=by
 have:=h.room1
 refine qI (by omega) fun x hx=>?_
 obtain ⟨z,_,rfl⟩:=List.mem_map.mp hx
 exact O7 h g z
theorem Q0 (f:Str→Int) (p:Int→Bool):∀l:List Str,((l.map f).filter p).length=(l.filter fun z=>p (f z)).length:=fun l=>by
 rw [List.filter_map,List.length_map]
 rfl
theorem jp {a b:Ty} (h:a.Ok) (g:b.Ok):((csM a.room a.cs b.cs).length:Int)≤a.room:=by
 have h0:=h.room1
 unfold csM
 rw [List.length_map,((Zv (ah a.cs b.cs)).filter _).length_eq]
 have e:=Q0 (ax a.cs b.cs) (fun x=>decide (aF a.room a.cs b.cs<x)) (ah a.cs b.cs)
 by_cases q:(((ah a.cs b.cs).map (ax a.cs b.cs)).length:Int)≤a.room
 ·have:=List.length_filter_le (fun z=>decide (aF a.room a.cs b.cs<ax a.cs b.cs z)) (ah a.cs b.cs)
  rw [List.length_map] at q
  omega
 ·obtain ⟨c,_,e2,_,le,_⟩:=W2 (show 0≤a.room by omega) (Int.not_le.mp q)
  have e3:aF a.room a.cs b.cs=c:=e2
  rw [e3] at e ⊢
  omega
theorem p8 (room:Int) (ps qs:Ps):(aW (csM room ps qs)).sum=((((ah ps qs).map (ax ps qs)).filter fun x=>decide (aF room ps qs<x)).map fun x=>x - aF room ps qs).sum:=by
 unfold aW csM
 rw [List.map_map,Nh (((Zv (ah ps qs)).filter _).map _),List.filter_map,List.map_map]
 rfl
theorem P7 {a b:Ty} (h:a.Ok) (g:b.Ok) (r:a.room=b.room):(dh a b).Ok:=by
 have h0:=h.room1
 have c0:=pZ h g
 have l1:=h.len
 have l2:=g.len
 refine ⟨h.room1,h.room2,mT h.nd g.nd,?_,fun p hp=>?_,fun p hp=>?_,jp h g,?_,?_,?_⟩
 ·show ((csM a.room a.cs b.cs).map (·.1)).Pairwise _
  rw [Vq]
  exact (Uu _).sublist List.filter_sublist
 ·have e:p.1∈(csM a.room a.cs b.cs).map (·.1):=List.mem_map.mpr ⟨p,hp,rfl⟩
  rw [Vq] at e
  rcases Yp.mp ((Zv _).mem_iff.mp (List.mem_filter.mp e).1) with q | q
  ·obtain ⟨x,hx,e⟩:=List.mem_map.mp q
   rw [←e]
   exact h.word x hx
  ·obtain ⟨x,hx,e⟩:=List.mem_map.mp q
   rw [←e]
   exact g.word x hx
 ·obtain ⟨z,hz,rfl⟩:=List.mem_map.mp (show p∈csM a.room a.cs b.cs from hp)
  have:=of_decide_eq_true (List.mem_filter.mp hz).2
  show 1≤ax a.cs b.cs z - aF a.room a.cs b.cs
  omega
 ·have:=h.lt0
  have:=g.lt0
  show 0≤a.lt+b.lt+aF a.room a.cs b.cs
  omega
 all_goals
  have S:=Pc h.nd g.nd
  have T:=p8 a.room a.cs b.cs
  have C:=jK (aF a.room a.cs b.cs) c0 ((ah a.cs b.cs).map (ax a.cs b.cs)) fun x hx=>by
   obtain ⟨z,_,rfl⟩:=List.mem_map.mp hx
   exact O7 h g z
  rw [←T,S] at C
  have kl:=W0 a.cs b.cs
  have lo1:=h.lo
  have lo2:=g.lo
  have hi1:=h.hi
  have hi2:=g.hi
  unfold Ty.sum at lo1 lo2 hi1 hi2
  rw [←r] at lo2 hi2 l2
 ·show (a.room+1) * (a.lt+b.lt+aF a.room a.cs b.cs)≤a.total+b.total - (aW (csM a.room a.cs b.cs)).sum
  have m:(a.room+1) * aF a.room a.cs b.cs≤(aW a.cs).sum+(aW b.cs).sum - (aW (csM a.room a.cs b.cs)).sum:=by
   refine Int.le_trans ?_ C.1
   by_cases q:(((ah a.cs b.cs).map (ax a.cs b.cs)).length:Int)≤a.room
   ·have e:aF a.room a.cs b.cs=0:=if_pos q
    rw [e]
    omega
   ·obtain ⟨c,_,e2,_,_,le⟩:=W2 (show 0≤a.room by omega) (Int.not_le.mp q)
    have e3:aF a.room a.cs b.cs=c:=e2
    rw [←e3] at le
    rw [Int.mul_comm]
    refine Int.mul_le_mul_of_nonneg_left ?_ c0
    rw [Ve]
    omega
  rw [Int.mul_add,Int.mul_add]
  omega
 ·show a.total+b.total - (aW (csM a.room a.cs b.cs)).sum≤2 * a.room * (a.lt+b.lt+aF a.room a.cs b.cs)
  have m:(aW a.cs).sum+(aW b.cs).sum - (aW (csM a.room a.cs b.cs)).sum≤2 * a.room * aF a.room a.cs b.cs:=by
   refine Int.le_trans C.2 ?_
   rw [Int.mul_comm]
   refine Int.mul_le_mul_of_nonneg_right ?_ c0
   rw [List.length_map]
   omega
  rw [Int.mul_add,Int.mul_add]
  omega
def Cx.ren (X:Cx) (N':List Str):Cx:={X with N:=N'}
theorem Cx.Ok.ren {X:Cx} {N':List Str} (o:X.Ok):(X.ren N').Ok:=⟨o.mod,o.kind,o.glob,o.blt,o.above,o.inj,o.has,o.cab,o.hd,o.frames,o.stk,o.exf,o.bs,o.bsz,o.noex,o.exfs,o.funs,o.frf⟩
theorem Cx.Ok.unren {X:Cx} {N':List Str} (o:(X.ren N').Ok):X.Ok:=⟨o.mod,o.kind,o.glob,o.blt,o.above,o.inj,o.has,o.cab,o.hd,o.frames,o.stk,o.exf,o.bs,o.bsz,o.noex,o.exfs,o.funs,o.frf⟩
def Hid:List Str→List Str→St→Prop
 | [],[],[]=>True
 | a::N,b::N',o::σ=>(a=b∨o=none)∧Hid N N' σ
 | _,_,_=>False
theorem Hid.at:∀{N N':List Str} {σ:St},Hid N N' σ→∀i:Nat,N[i]?=N'[i]?∨σ[i]?=some none
 | [],[],[],_,i=>.inl rfl
 | a::N,b::N',o::σ,h,0=>by
  rcases h.1 with q | q
  ·exact .inl (by rw [q];rfl)
  ·exact .inr (by rw [q];rfl)
 | a::N,b::N',o::σ,h,i+1=>by
  simpa using Hid.at (N:=N) (N':=N') (σ:=σ) h.2 i
section
variable {X:Cx} {N':List Str} {pins:List (Addr×Obj)} {σ:St} {H:Hp} {s:Shared}
theorem Inv.ren (I:Inv X pins σ H s) (hl:N'.length=X.N.length) (h:Hid X.N N' σ):Inv (X.ren N') pins σ H s:=by
 refine ⟨I.ok.ren,I.os,I.bare,I.base,?_,I.cell,I.free,I.freeC,I.pin,I.hok,I.len.trans hl.symm⟩
 obtain ⟨m,hn,hm⟩:=I.loc
 refine ⟨m,hn,fun i x v e1 e2 e3=>hm i x v ?_ e2 e3⟩
 rcases h.at i with q | q
 ·exact q.trans e1
 ·rw [e2] at q;cases q
theorem Inv.unren (I:Inv (X.ren N') pins σ H s) (hl:N'.length=X.N.length) (h:Hid X.N N' σ):Inv X pins σ H s:=by
 refine ⟨I.ok.unren,I.os,I.bare,I.base,?_,I.cell,I.free,I.freeC,I.pin,I.hok,I.len.trans hl⟩
 obtain ⟨m,hn,hm⟩:=I.loc
 refine ⟨m,hn,fun i x v e1 e2 e3=>hm i x v ?_ e2 e3⟩
 rcases h.at i with q | q
 ·exact q.symm.trans e1
 ·rw [e2] at q;cases q
def tRen (N N':List Str) (t:TE):TE:=fun σ H Q=>Hid N N' σ∧t σ H Q
theorem Rk {e:Expr} {t:TE} (N':List Str) (h:PE (X.ren N') e t) (hl:N'.length=X.N.length:=by rfl):PE X e (tRen X.N N' t):=by
 intro pins s σ H Q I q
 exact thn (h pins s σ H Q (I.ren hl q.1) q.2) fun u s1 ⟨x,H1,I1,r1,q1⟩=>⟨x,H1,I1.unren hl q.1,r1,q1⟩
theorem Inv.forget (I:Inv X pins σ H s) (i:Nat):Inv X pins (σ.set i none) H s:=by
 refine ⟨I.ok,I.os,I.bare,I.base,?_,I.cell,I.free,I.freeC,I.pin,I.hok,by rw [List.length_set];exact I.len⟩
 obtain ⟨m,hn,hm⟩:=I.loc
 refine ⟨m,hn,fun j x v e1 e2 e3=>hm j x v e1 ?_ e3⟩
 by_cases e:i=j
 ·subst e
  rw [List.getElem?_set_self'] at e2
  cases q:σ[i]? with
  | none=>rw [q] at e2;cases e2
  | some o=>rw [q] at e2;cases e2
 ·rw [List.getElem?_set_ne e] at e2
  exact e2
def pG (i:Nat) (t:TS):TS:=fun D σ H=>t D (σ.set i none) H
theorem Yz {ss:List Stmt} {t:TS} (i:Nat) (h:PSs X ss t):PSs X ss (pG i t):=by
 intro pins s σ H D I q
 exact h pins s _ H D (I.forget i) q
end
theorem oT {kvs:List (Key×V)} {k:Key} (h:∀q∈kvs,q.1≠k):bK kvs k=none:=by
 unfold bK
 rw [List.find?_eq_none.mpr fun q hq=>by simpa using h q hq]
 rfl
def aY (ps qs:Ps):Ps:=(ah ps qs).map fun z=>(z,ax ps qs z)
theorem Wj (ps qs:Ps):(aY ps qs).map (·.1)=ah ps qs:=by
 unfold aY
 rw [List.map_map]
 exact List.map_id _
theorem jd (ps qs:Ps):aW (aY ps qs)=(ah ps qs).map (ax ps qs):=by
 unfold aW aY
 rw [List.map_map]
 rfl
theorem Rq {ps:Ps} (h:(ps.map (·.1)).Nodup):aY ps []=ps:=by
 have e:ah ps []=ps.map (·.1):=List.append_nil _
 have e2:(fun z=>(z,ax ps [] z))=fun z=>(z,look ps z):=by
  funext z
  show (z,look ps z+0)=_
  rw [Int.add_zero]
 unfold aY
 rw [e,e2]
 exact gn h
theorem R7 {ps qs:Ps} (h:(ps.map (·.1)).Nodup) (g:(qs.map (·.1)).Nodup) (z:Str):((bK (aE (aY ps qs)) (Sum.inr z)).getD (.int 0))=.int (ax ps qs z):=by
 by_cases hz:z∈ah ps qs
 ·obtain ⟨i,hi⟩:=List.mem_iff_getElem?.mp hz
  have e:(aY ps qs)[i]?=some (z,ax ps qs z):=by unfold aY;rw [List.getElem?_map,hi];rfl
  rw [O2 (by rw [Wj];exact Wp h g) e]
  rfl
 ·have e:bK (aE (aY ps qs)) (Sum.inr z)=none:=by
   refine oT fun q hq=>?_
   unfold aE at hq
   obtain ⟨p,hp,rfl⟩:=List.mem_map.mp hq
   intro e
   have:p.1∈ah ps qs:=by rw [←Wj];exact List.mem_map.mpr ⟨p,hp,rfl⟩
   have e':p.1=z:=Sum.inr.inj e
   exact hz (e' ▸ this)
  rw [e]
  have n1:z∉ps.map (·.1):=fun q=>hz (Yp.mpr (.inl q))
  have n2:z∉qs.map (·.1):=fun q=>hz (Yp.mpr (.inr q))
  show V.int 0=.int (look ps z+look qs z)
  rw [X4 n1,X4 n2]
  rfl
theorem Ng {ps qs:Ps} (h:(ps.map (·.1)).Nodup) {p:Str×Int} (g:((qs++[p]).map (·.1)).Nodup):ci (aE (aY ps qs)) (Sum.inr p.1) (.int (ax ps qs p.1+p.2))=aE (aY ps (qs++[p])):=by
 rw [List.map_append] at g
 have out:p.1∉qs.map (·.1):=fun q=>(List.nodup_append.mp g).2.2 _ q _ (List.mem_singleton.mpr rfl) rfl
 have lk:∀y,ax ps (qs++[p]) y=if p.1=y then ax ps qs y+p.2 else ax ps qs y:=fun y=>by
  show look ps y+look (qs++[p]) y=if p.1=y then look ps y+look qs y+p.2 else look ps y+look qs y
  rw [lT]
  show look ps y+(if y∈qs.map (·.1) then look qs y else if p.1=y then p.2 else 0)=_
  by_cases e:p.1=y
  ·subst e
   rw [if_neg out,if_pos rfl,if_pos rfl,X4 out]
   omega
  ·rw [if_neg e,if_neg e]
   by_cases m:y∈qs.map (·.1)
   ·rw [if_pos m]
   ·rw [if_neg m,X4 m]
 have ks:ah ps (qs++[p])=if p.1∈ps.map (·.1) then ah ps qs else ah ps qs++[p.1]:=by
  unfold ah
  rw [List.map_append,List.filter_append]
  by_cases m:p.1∈ps.map (·.1)
  ·rw [if_pos m]
   show _++(_++List.filter _ [p.1])=_
   rw [List.filter_cons_of_neg (by simpa using m),List.filter_nil,List.append_nil]
  ·rw [if_neg m]
   show _++(_++List.filter _ [p.1])=_
   rw [List.filter_cons_of_pos (by simpa using m),List.filter_nil,List.append_assoc]
 unfold ci aY aE
 rw [ks]
 by_cases m:p.1∈ps.map (·.1)
 ·rw [if_pos m,if_pos ?_]
  ·rw [List.map_map,List.map_map,List.map_map]
   refine List.map_congr_left fun y hy=>?_
   show (if _ then _ else _)=(Sum.inr y,V.int (ax ps (qs++[p]) y))
   rw [lk]
   by_cases e:p.1=y
   ·subst e
    simp
   ·have e':¬y=p.1:=fun q=>e q.symm
    simp [e,e']
  ·exact List.any_eq_true.mpr ⟨(Sum.inr p.1,.int (ax ps qs p.1)),List.mem_map.mpr ⟨(p.1,ax ps qs p.1),List.mem_map.mpr ⟨p.1,Yp.mpr (.inl m),rfl⟩,rfl⟩,decide_eq_true rfl⟩
 ·have nk:p.1∉ah ps qs:=fun q=>(Yp.mp q).elim m out
  rw [if_neg m,if_neg ?_]
  ·rw [List.map_append,List.map_append,List.map_map,List.map_map]
   refine congr (congrArg _ (List.map_congr_left fun y hy=>?_)) ?_
   ·show (Sum.inr y,V.int (ax ps qs y))=(Sum.inr y,V.int (ax ps (qs++[p]) y))
    rw [lk,if_neg (fun (q:p.1=y)=>nk (by rw [q];exact hy))]
   ·show [_]=[(Sum.inr p.1,V.int (ax ps (qs++[p]) p.1))]
    rw [lk,if_pos rfl]
  ·intro q
   obtain ⟨kv,hkv,e⟩:=List.any_eq_true.mp q
   obtain ⟨x,hx,rfl⟩:=List.mem_map.mp hkv
   obtain ⟨y,hy,rfl⟩:=List.mem_map.mp hx
   have e:(Sum.inr y:Key)=Sum.inr p.1:=of_decide_eq_true e
   exact nk (Sum.inr.inj e ▸ hy)
theorem Rg {t u:TS} {D:Ends} {σ:St} {H:Hp} (R:St→Hp→Prop) (main:∀nx:St→Hp→Prop,(∀σ' H',R σ' H'→nx σ' H')→t {D with nx:=nx} σ H) (fin:∀σ' H',R σ' H'→u D σ' H'):uI t u D σ H:=main _ fin
theorem mq (ns:List Int):(dR ns).reverse=srt ns:=rG ((List.reverse_perm _).trans (Xe ns)) (List.pairwise_reverse.mpr ((O9 ns).imp fun h=>h))
section
variable {M:Model} {A:Around} {E:Value→Shared→Prop} {s:Shared} {env:Env} {outer:List Env} {L a T:Addr} {cls:Value} {Q:Unit→Shared→Prop}
end
section
variable {P:Program} {w:World} {K:W.Frag} {mg:Str→Option Value} {base:Heap} {N:List Str} {qual:Str} {scope:Scope} {f:Addr} {cd:Value} {A:Around} {outer:List Env} {s:Shared} {H:Hp} {E:XK}
end
section
variable {P:Program} {w:World} {K:W.Frag} {mg:Str→Option Value} {base:Heap} {N:List Str} {qual:Str} {scope:Scope} {f:Addr} {cd:Value} {A:Around} {outer:List Env} {s:Shared} {H:Hp} {E:XK}
variable {j k:Nat} {ps:List Str} {sp:Sp} {x:Str} {p pos:Pos} {e:Expr} {es:List Expr} {t:TA}
end
section
variable {prog:Program} {w:World} {A:Around} {E:Value→Shared→Prop} {h:Heap} {g:Array GenState} {d:Drawn} {t:Nat} {os:OsState} {a C:Addr} {o:Obj} {K:W.Frag}
end
section
variable {X:Cx} {pins:List (Addr×Obj)} {σ:St} {H:Hp} {s:Shared}
end
section
variable {X:Cx} {x c n:Str} {p pos cpos epos np hpos:Pos} {e:Expr} {es:List Expr} {ta:TA} {tb:TS} {b₀:Stmt} {suite:List Stmt} {j k i:Nat} {ps:List Str} {sp:Sp} {S:Addr}
end
end L2
namespace K18
open PySem L2
section
variable {P:Program} {w:World} {K:W.Frag} {mg:Str→Option Value} {base:Heap} {f:Addr} {fd:FuncData}
end
end K18
namespace L2
open PySem PySem.Spec PyProof.Rows
def Ty.zero (room:Int):Ty:=⟨room,[],0,0⟩
theorem Pz {room:Int} (h1:1≤room) (h2:room≤20):(Ty.zero room).Ok:=
 ⟨h1,h2,List.nodup_nil,List.Pairwise.nil,(fun _ h=>nomatch h),(fun _ h=>nomatch h),by show ((0:Nat):Int)≤room;omega,Int.le_refl _,by show (room+1) * 0≤0 - 0;simp,by show (0:Int) - 0≤2 * room * 0;simp⟩
theorem Xv {K:W.Frag} {a:Addr} {xs:List V} {k:Nat} {g:TG} {tt:TT} {te:TE} {σ:St} {H:Hp} {Q:VK} (Pv:Nat→List V→Hp→Prop) (h0:Pv 0 [] H) (hl:∀i ys H,i≤xs.length→Pv i ys H→SqT K H a xs)
  (hs:∀i x ys H (C:List V→Hp→Prop),xs[i]?=some x→Pv i ys H→(∀ys' H',Pv (i+1) ys' H'→C ys' H')→ys.length<sizeLine∧g x (List.replicate k none++σ) H fun σ2 H2=>Wk σ2 (List.replicate k none++σ)∧tt σ2 H2 fun ok H3=>
   if ok=true then te σ2 H3 fun y H4=>C (ys++[y]) H4 else C ys H3)
  (hd:∀ys H,Pv xs.length ys H→ys.length≤sizeLine∧∀p,H p=none→Q (.ref p) (upd H p (.lst ys))):
  CompR (Itt K a) H k g tt te σ Q:=by
 refine ⟨fun i m ys H=>m=xs.length - i∧i≤xs.length∧Pv i ys H,⟨xs.length,by simp,Nat.zero_le _,h0⟩,?_⟩
 rintro i m ys H ⟨rfl,hi,p⟩
 have q:=hl i ys H hi p
 by_cases hlt:i<xs.length
 ·have r:=hs i xs[i] ys H (fun ys' H'=>∃m',m'<xs.length - i∧m'=xs.length - (i+1)∧i+1≤xs.length∧Pv (i+1) ys' H') (by simp [hlt]) p fun ys' H' p'=>⟨_,by omega,rfl,hlt,p'⟩
  refine .inr ⟨⟨xs,xs[i],q,by simp [hlt]⟩,r.1,fun x H' y=>?_⟩
  obtain ⟨e,y⟩:=y
  subst e
  have ex:xs[i]?=some x:=y xs q
  have ex2:xs[i]=x:=by simpa [hlt] using ex
  rw [←ex2]
  exact r.2
 ·have e:i=xs.length:=by omega
  subst e
  exact .inl ⟨⟨xs,q,Nat.le_refl _⟩,hd ys H p⟩
theorem Up {K:W.Frag} {a:Addr} {xs:List V} {ps:Ps} {k:Nat} {g:TG} {tt:TT} {te:TE} {σ:St} {H:Hp} {Q:VK} (p:Str×Int→Bool) (f:Str×Int→V) (e:H a=some (.tup xs)) (pa:PairsAt H xs (aE ps)) (hl:ps.length≤100000)
  (hs:∀(t:Str×Int) (c:Addr) (ys:List V) (C:List V→Hp→Prop),t∈ps→H c=some (.tup [.str t.1,.int t.2])→(p t=true→C (ys++[f t]) H)→(p t=false→C ys H)→g (.ref c) (List.replicate k none++σ) H fun σ2 H2=>Wk σ2 (List.replicate k none++σ)∧tt σ2 H2 fun ok H3=>
   if ok=true then te σ2 H3 fun y H4=>C (ys++[y]) H4 else C ys H3)
  (hd:∀q,H q=none→Q (.ref q) (upd H q (.lst ((ps.filter p).map f)))):
  CompR (Itt K a) H k g tt te σ Q:=by
 have dl:=pa.length
 rw [Ye] at dl
 have le:∀i,(((ps.take i).filter p).map f).length≤100000:=fun i=>by
  rw [List.length_map]
  have h1:=List.length_filter_le p (ps.take i)
  rw [List.length_take] at h1
  omega
 refine Xv (xs:=xs) (fun i ys H'=>H'=H∧ys=((ps.take i).filter p).map f) ⟨rfl,rfl⟩ ?_ ?_ ?_
 ·rintro i ys H' _ ⟨rfl,_⟩
  exact SqT.of e
 ·rintro i x ys H' C hx ⟨rfl,rfl⟩ hC
  obtain ⟨c,t,rfl,ht,ec⟩:=pa.getP hx
  refine ⟨Zn (by have:=le i;omega),hs t c _ C (List.mem_of_getElem? ht) ec (fun hp=>hC _ _ ⟨rfl,?_⟩) (fun hp=>hC _ _ ⟨rfl,?_⟩)⟩
  ·rw [Y6 ht,List.filter_append,List.map_append,List.filter_cons,hp]
   rfl
  ·rw [Y6 ht,List.filter_append,List.filter_cons,hp]
   simp
 ·rintro ys H' ⟨rfl,rfl⟩
  rw [dl,List.take_length]
  refine ⟨Zb (by have:=le ps.length;rw [List.take_length] at this;omega),hd⟩
section
variable {P:Program} {w:World} {K:W.Frag} {mg:Str→Option Value} {base:Heap} {CX:CXT} {k:Nat} {f:Addr} {fd:FuncData} {ps:List Str} {sp sp':Sp}
end
def Cal (base:Heap) (f:Addr):Prop:=∃oc od fd sl,base.get? f=some ⟨oc,od,.func fd,sl⟩
theorem lg {M:Model} {f:Addr} {base:Heap} (c:Cal base f) (h:Heap) (k:∀b o,base.get? b=some o→h.get? b=some o):∃q,(q=Keeper.frame∨q=Keeper.machine∨q=Keeper.boundFrame)∧W.Looks M h (keeperOf (.ref f)) q:=by
 obtain ⟨oc,od,fd,sl,e⟩:=c
 refine ⟨.frame,.inl rfl,fun A Q E s kk q=>?_⟩
 exact wpAny_bind (wpAny_load (kk _ _ (k _ _ e)) (wpAny_pure q))
def rT (P:Program) (w:World) (K:W.Frag) (mg:Str→Option Value) (base:Heap) (k i:Nat) (t:TA):TE:=fun σ H Q=>∃(f:Addr) (fd:FuncData) (ps:List Str) (sp:Sp),σ[i]?=some (some (.ref f))∧FnOk P w K mg base CX0 k f fd ps sp∧Binds K fd ps []∧Cal base f∧
 t σ H fun vs H1=>sp vs H1 Q E0
section
variable {X:Cx} {k i:Nat} {x:Str} {p pos:Pos} {e:Expr} {es:List Expr} {t:TA}
theorem nN (hr:Room k X.A) (ha:PA X (e::es) t) (hN:X.N[i]?=some x:=by rfl) (hv:Vis X.env.scope x:=by first | exact Or.inl rfl | exact Or.inr (Or.inl rfl) | exact Or.inr (Or.inr rfl)) (hd:(x == ("__debug__":Str))=false:=by decide) (hcd:(x == ("__classdict__":Str))=false:=by decide)
  (he:starEach (e::es) X.env=(false,eval e X.env)::starEach es X.env:=by rfl) (hpl:(backTo pos (starEach es X.env)).any (·.1)=false:=by rfl):
  PE X (.Call (.Name x p) (e::es) [] pos) (rT X.prog X.w X.K X.mg X.base k i t):=by
 intro pins s σ H Q I h
 obtain ⟨f,fd,ps,sp,hs,F,b,c,q⟩:=h
 refine wpAny_Call_Name_kw (thn (mK hN hv hd hcd pins s σ H (fun v H'=>v=.ref f∧H'=H) I ⟨_,hs,rfl,rfl⟩) fun u s1 z=>?_)
 obtain ⟨v,H',I1,r,rfl,rfl⟩:=z
 cases (show u=Value.ref f from r)
 have hh:=ha pos pins s1 σ H' _ I1 q
 show wpAny _ _ (callWith pos (.ref f) [] (backTo pos (starEach (e::es) X.env)) []) _ _ _
 rw [he] at hh ⊢
 refine W.callWith_of (P:=fun h=>∀b o,X.base.get? b=some o→h.get? b=some o) (by show ((false || (backTo pos (starEach es X.env)).any (·.1)) || false)=false;rw [hpl];rfl) (fun h k=>lg c h k) (Calls.evalArgs_plain (thn hh fun us s2 z=>?_))
 obtain ⟨vs,H2,I2,r2,q2⟩:=z
 exact ⟨I2.bk,mJ (dvs:=[]) (ds:=[]) F hr b .nil uk I2 r2 (by rw [List.append_nil];exact q2)⟩
end
end L2
namespace L2
open PySem PySem.Spec PyProof.Rows
section
variable {X:Cx} {params:Arguments} {body:Expr} {sc:Scope} {pos:Pos} {c T:Addr}
end
section
variable {X:Cx} {j k:Nat} {ps:List Str} {sp:Heap→Sp} {x:Str} {p pos:Pos} {e:Expr} {es:List Expr} {t:TA}
end
end L2
namespace L2
open PySem PySem.Spec PyProof.Rows
def Itz (K:W.Frag) (a b:Addr):It:=
 ⟨fun i H=>∃xs ys x y,SqL K H a xs∧SqL K H b ys∧xs[i]?=some x∧ys[i]?=some y,
  fun i H u H'=>∃T x y,u=.ref T∧H T=none∧H'=upd H T (.tup [x,y])∧∀xs ys,SqL K H a xs→SqL K H b ys→xs[i]?=some x∧ys[i]?=some y,
  fun i H=>∃xs ys,SqL K H a xs∧SqL K H b ys∧(xs.length≤i∨ys.length≤i)⟩
section
variable {X:Cx} {pins:List (Addr×Obj)} {σ:St} {H:Hp} {s:Shared} {h':Heap}
theorem Inv.turnedL {t':Nat} {ch:List Addr} (I:Inv X pins σ H s) (k:∀b o,b∉ch→s.heap.get? b=some o→h'.get? b=some o) (hc:∀b∈ch,dH X pins H b):Inv X pins σ H {s with heap:=h',toks:=t'}:=by
 have nit:∀b u,H b=some u→b∉ch:=fun b u e z=>by rw [(hc b z).1] at e;cases e
 refine I.step (g':=s.gens) (d':=s.drawn) (ch:=ch) (fun b hb=>?_) (fun b o _ _ hc e _=>k b o hc e) (fun b o _ _ hc e _=>⟨o.slots,k b o hc e⟩) (fun _ _ _ _ n=>n) (fun b o hc e=>⟨o,k b o hc e⟩) (fun _ _ e=>e) (fun _ _ _ e=>e) (fun b ps e=>⟨#[],by rw [e];simp⟩) (fun m hm=>?_) (fun b u e=>?_) I.bare
 ·obtain ⟨f0,f1,f2,f3,f4,f5⟩:=hc b hb
  exact ⟨f3,f1,f4,f5⟩
 ·obtain ⟨o,es,ep,ho,r⟩:=hm
  exact ⟨o,es,ep,k _ o (fun z=>(hc _ z).2.1 rfl) ho,r⟩
 ·refine (I.hok b u e).stay (fun c v hc q=>k c v ?_ q) (fun _ q=>q) fun _ _ q=>q
  rcases hc with z | z
  ·rw [z];exact nit b u e
  ·exact nit c _ z
theorem Inv.zipped {t':Nat} {ch:List Addr} {T:Addr} {o:HO} (I:Inv X pins σ H s) (k:∀b o,b∉ch→s.heap.get? b=some o→h'.get? b=some o) (hc:∀b∈ch,dH X pins H b) (hT:s.heap.objs.size≤T) (new:ObjOk X.prog X.w (upd H T o) h' T o):Inv X pins σ (upd H T o) {s with heap:=h',toks:=t'}:=by
 have hn:=I.hok.fresh hT
 have nit:∀b u,H b=some u→b∉ch:=fun b u e z=>by rw [(hc b z).1] at e;cases e
 have up:∀{b:Addr} {u:HO},H b=some u→upd H T o b=some u:=fun {b u} e=>by rw [Zl (Zs e hn)];exact e
 refine I.step (g':=s.gens) (d':=s.drawn) (ch:=ch) (fun b hb=>?_) (fun b o _ _ hc e _=>k b o hc e) (fun b o _ _ hc e _=>⟨o.slots,k b o hc e⟩) (fun b o' _ e n=>?_) (fun b o hc e=>⟨o,k b o hc e⟩) (fun _ _ e=>up e) (fun _ _ _ e=>up e) (fun b ps e=>⟨#[],by rw [up e];simp⟩) (fun m hm=>?_) (fun b u e=>?_) I.bare
 ·obtain ⟨f0,f1,f2,f3,f4,f5⟩:=hc b hb
  exact ⟨f3,f1,f4,f5⟩
 ·rw [Zl (Nat.ne_of_lt (Nat.lt_of_lt_of_le (Heap.lt_size e) hT))]
  exact n
 ·obtain ⟨o,es,ep,ho,r⟩:=hm
  exact ⟨o,es,ep,k _ o (fun z=>(hc _ z).2.1 rfl) ho,r⟩
 ·by_cases hb:b=T
  ·subst hb
   rw [Ze] at e
   cases e
   exact new
  ·rw [Zl hb] at e
   refine (I.hok b u e).stay (fun c v hc q=>k c v ?_ q) (fun _ q=>up q) fun _ _ q=>up q
   rcases hc with z | z
   ·rw [z];exact nit b u e
   ·exact nit c _ z
end
abbrev uS (z TI TO i1 i2 l1 l2:Addr):Nat→Heap→Prop:=fun i h=>IsZip h z TI TO .none∧IsPair h TI (.ref i1) (.ref i2)∧(∃a b,IsPair h TO a b)∧h.IsListIter i1 l1 i∧h.IsListIter i2 l2 i
theorem ma {P:Program} {w:World} {K:W.Frag} {elts:List Expr} {k:Nat} {pos:Pos} {z TI TO i1 i2 l1 l2:Addr} (D:ZipApart z TI TO i1 i2 l1 l2):Turn P w K (.Tuple elts k pos) (Itz K l1 l2) [z,TI,TO,i1,i2] z (uS z TI TO i1 i2 l1 l2) where
 mem:=by simp
 obj:=fun i h st b hb=>by
  obtain ⟨hz,hTI,⟨a',b',hTO⟩,⟨o1,e1,c1,d1⟩,o2,e2,c2,d2⟩:=st
  simp only [List.mem_cons,List.not_mem_nil,or_false] at hb
  rcases hb with rfl | rfl | rfl | rfl | rfl
  ·exact ⟨_,hz,fun v q=>(nomatch q)⟩
  ·exact ⟨_,hTI,fun v q=>(nomatch q)⟩
  ·exact ⟨_,hTO,fun v q=>(nomatch q)⟩
  ·exact ⟨o1,e1,fun v q=>by rw [d1] at q;cases q⟩
  ·exact ⟨o2,e2,fun v q=>by rw [d2] at q;cases q⟩
 keep:=fun i h h' st kk=>by
  obtain ⟨hz,hTI,⟨a,b,hTO⟩,h1,h2⟩:=st
  exact ⟨kk z (by simp) _ hz,kk TI (by simp) _ hTI,⟨a,b,kk TO (by simp) _ hTO⟩,h1.at fun o e=>kk i1 (by simp) o e,h2.at fun o e=>kk i2 (by simp) o e⟩
 item:=by
  intro X hP hw hK hc i pins s σ H E I hf st hg
  subst hP hw hK
  obtain ⟨xs,ys,x,y,hq1,hq2,hx,hy⟩:=hg
  obtain ⟨its1,rv1,p1,hz1⟩:=I.list hq1
  obtain ⟨its2,rv2,p2,hz2⟩:=I.list hq2
  obtain ⟨u,hu,ru⟩:=rv1.get hx
  obtain ⟨v,hv,rv⟩:=rv2.get hy
  obtain ⟨hz,hTI,⟨a,b,hTO⟩,h1,h2⟩:=st
  refine wpAny_pyNext_zip_item D hz hTI hTO h1 h2 p1.isList p2.isList (x:=u) (y:=v) (by simpa using hu) (by simpa using hv) fun h' a1 a2 a3 a4 a5 a6 hk=>?_
  refine ⟨_,rfl,?_⟩
  refine wpAny_letOwnedTupleGo_zip (s:={s with heap:=h'}) a1 fun h2' z' sb=>?_
  have lt:∀{c o},s.heap.get? c=some o→c≠s.heap.objs.size:=fun e=>Nat.ne_of_lt (Heap.lt_size e)
  have Tz:s.heap.objs.size≠z:=Ne.symm (lt hz)
  have l1':i1≠s.heap.objs.size:=by obtain ⟨o,e,_⟩:=h1;exact lt e
  have l2':i2≠s.heap.objs.size:=by obtain ⟨o,e,_⟩:=h2;exact lt e
  refine ⟨.ref s.heap.objs.size,upd H s.heap.objs.size (.tup [x,y]),?_,rfl,⟨s.heap.objs.size,x,y,rfl,I.hok.fresh (Nat.le_refl _),rfl,fun xs' ys' e1 e2=>?_⟩,?_,fun b hb=>?_⟩
  ·refine I.zipped (t':=s.toks) (ch:=[z,TI,TO,i1,i2]) (fun b o hb e=>?_) hf (Nat.le_refl _) ⟨by show (2:Nat)≤sizeLine;decide,[u,v],.cons ru (.cons rv .nil),?_⟩
   ·simp only [List.mem_cons,List.not_mem_nil,or_false,not_or] at hb
    obtain ⟨b1,b2,b3,b4,b5⟩:=hb
    exact sb.extBut _ _ b1 (hk b o b1 b3 b4 b5 e)
   ·exact ⟨_,sb.extBut _ _ Tz a5,⟨rfl,rfl⟩,_,rfl⟩
  ·rw [I.list_inj e1 hq1,I.list_inj e2 hq2]
   exact ⟨hx,hy⟩
  ·exact ⟨z',sb.extBut _ _ D.TIz (hk _ _ D.TIz D.TITO D.TIi1 D.TIi2 hTI),⟨_,_,sb.extBut _ _ D.TOz a2⟩,a3.extBut sb.extBut D.i1z,a4.extBut sb.extBut D.i2z⟩
  ·have bn:b≠s.heap.objs.size:=by
    simp only [List.mem_cons,List.not_mem_nil,or_false] at hb
    rcases hb with rfl | rfl | rfl | rfl | rfl
    ·exact lt hz
    ·exact lt hTI
    ·exact lt hTO
    ·exact l1'
    ·exact l2'
   rw [Zl bn]
   exact (hf b hb).1
 done:=by
  intro X hP hw hK hc i pins s σ H E I hf st hg
  subst hP hw hK
  obtain ⟨xs,ys,hq1,hq2,hx⟩:=hg
  obtain ⟨its1,rv1,p1,hz1⟩:=I.list hq1
  obtain ⟨its2,rv2,p2,hz2⟩:=I.list hq2
  obtain ⟨hz,hTI,⟨a,b,hTO⟩,h1,h2⟩:=st
  have e1:=rv1.length
  have e2:=rv2.length
  refine wpAny_pyNext_zip_end (I.ok.hd hc) D hz hTI hTO h1 h2 p1.isList p2.isList ?_ fun h' hk=>⟨rfl,I.turnedL (t':=s.toks) (ch:=[z,TI,TO,i1,i2]) (fun b o hb e=>?_) hf⟩
  ·rcases hx with hx | hx
   ·exact .inl (by simp;omega)
   ·exact .inr (by simp;omega)
  ·simp only [List.mem_cons,List.not_mem_nil,or_false,not_or] at hb
   obtain ⟨b1,b2,b3,b4,b5⟩:=hb
   exact hk b o b1 b3 b4 b5 e
 self:=fun _ _ _ _ _ st h=>wpAny_pyIter_zip st.1 h
def iZip (K:W.Frag) (ta:TA):TI:=fun σ H R=>ta σ H fun vs H1=>∃a b,vs=[.ref a,.ref b]∧(∃xs,SqL K H1 a xs)∧(∃ys,SqL K H1 b ys)∧R (Itz K a b) H1
theorem sx {X:Cx} {elts:List Expr} {n:Nat} {tp:Pos} {a b:Expr} {ta:TA} {p pos:Pos} (hg:Gl X "zip") (hm:X.mg "zip"=none) (ha:PA X [a,b] ta) (hs:starEach [a,b] X.env=[(false,eval a X.env),(false,eval b X.env)]:=by rfl) (hs2:starEach [b] X.env=[(false,eval b X.env)]:=by rfl):
  PI X (.Tuple elts n tp) (.Call (.Name "zip" p) [a,b] [] pos) (iZip X.K ta):=by
 intro pins s σ H R I h
 refine Call_ (S7 I hg hm boot_zip (PyProof.Rows.callWith_type1 (thn (ha pos pins s σ H _ I h) fun us s1 ⟨vs,H1,I1,r1,q1⟩=>?_) (by rw [hs,hs2]) (by rw [hs2];rfl)))
 obtain ⟨l1,l2,e,⟨xs,hq1⟩,⟨ys,hq2⟩,q⟩:=q1
 subst e
 cases r1 with
 | cons r rr=>
  cases rr with
  | cons r' rr=>
   cases rr
   cases r
   cases r'
   obtain ⟨its1,rv1,p1,hz1⟩:=I1.list hq1
   obtain ⟨its2,rv2,p2,hz2⟩:=I1.list hq2
   have lt1:l1<s1.heap.objs.size:=by obtain ⟨o,e,_⟩:=p1.isList;exact Heap.lt_size e
   have lt2:l2<s1.heap.objs.size:=by obtain ⟨o,e,_⟩:=p2.isList;exact Heap.lt_size e
   have D:ZipApart (s1.heap.objs.size+4) (s1.heap.objs.size+2) (s1.heap.objs.size+3) s1.heap.objs.size (s1.heap.objs.size+1) l1 l2:=by constructor <;> (unfold Addr at *;omega)
   refine call_zip_2 p1.isList p2.isList fun h' c1 c2 c3 c4 c5 c6 hk=>?_
   refine wpAny_pyIter_zip (s:={s1 with heap:=h'}) c1 ?_
   refine ⟨_,[_,_,_,_,_],_,_,H1,rfl,I1.kept (t':=s1.toks) hk,ma D,⟨c1,c2,⟨_,_,c3⟩,c4,c5⟩,fun b hb=>?_,q⟩
   have hb':s1.heap.objs.size≤b:=by
    simp only [List.mem_cons,List.not_mem_nil,or_false] at hb
    rcases hb with rfl | rfl | rfl | rfl | rfl
    ·exact Nat.le_add_right _ _
    ·exact Nat.le_add_right _ _
    ·exact Nat.le_add_right _ _
    ·exact Nat.le_refl _
    ·exact Nat.le_add_right _ _
   exact I1.fpOk hb' (I1.hok.fresh hb')
theorem mQ {K:W.Frag} {a b:Addr} {xs zs:List V} {k:Nat} {g:TG} {tt:TT} {te:TE} {σ:St} {H:Hp} {Q:VK} (Pv:Nat→List V→Hp→Prop) (h0:Pv 0 [] H) (hl:∀i ys H,i≤min xs.length zs.length→Pv i ys H→SqL K H a xs∧SqL K H b zs)
  (hs:∀i x z ys H (T:Addr) (C:List V→Hp→Prop),xs[i]?=some x→zs[i]?=some z→Pv i ys H→H T=none→(∀ys' H',Pv (i+1) ys' H'→C ys' H')→ys.length<sizeLine∧g (.ref T) (List.replicate k none++σ) (upd H T (.tup [x,z])) fun σ2 H2=>Wk σ2 (List.replicate k none++σ)∧tt σ2 H2 fun ok H3=>
   if ok=true then te σ2 H3 fun y H4=>C (ys++[y]) H4 else C ys H3)
  (hlen:∀i ys H,i<min xs.length zs.length→Pv i ys H→ys.length<sizeLine)
  (hd:∀ys H,Pv (min xs.length zs.length) ys H→ys.length≤sizeLine∧∀p,H p=none→Q (.ref p) (upd H p (.lst ys))):
  CompR (Itz K a b) H k g tt te σ Q:=by
 refine ⟨fun i m ys H=>m=min xs.length zs.length - i∧i≤min xs.length zs.length∧Pv i ys H,⟨min xs.length zs.length,by simp,Nat.zero_le _,h0⟩,?_⟩
 rintro i m ys H ⟨rfl,hi,p⟩
 obtain ⟨q1,q2⟩:=hl i ys H hi p
 by_cases hlt:i<min xs.length zs.length
 ·refine .inr ⟨⟨xs,zs,xs[i]'(by omega),zs[i]'(by omega),q1,q2,List.getElem?_eq_getElem _,List.getElem?_eq_getElem _⟩,hlen i ys H hlt p,?_⟩
  rintro _ _ ⟨T,x,z,rfl,nT,rfl,hy⟩
  obtain ⟨e1,e2⟩:=hy xs zs q1 q2
  exact (hs i x z ys H T (fun ys' H'=>∃m',m'<min xs.length zs.length - i∧m'=min xs.length zs.length - (i+1)∧i+1≤min xs.length zs.length∧Pv (i+1) ys' H') e1 e2 p nT (fun ys' H' h=>⟨_,by omega,rfl,hlt,h⟩)).2
 ·have e:i=min xs.length zs.length:=Nat.le_antisymm hi (Nat.le_of_not_lt hlt)
  subst e
  exact .inl ⟨⟨xs,zs,q1,q2,by omega⟩,hd ys H p⟩
end L2
namespace L2
open PySem PySem.Spec PyProof.Rows
def sRen (N N':List Str) (t:TS):TS:=fun D σ H=>Hid N N' σ∧t {nx:=fun σ' H'=>Hid N N' σ'∧D.nx σ' H',rt:=fun _ _=>False} σ H
theorem mY {X:Cx} {st:Stmt} {t:TS} (N':List Str) (h:PS (X.ren N') st t) (hl:N'.length=X.N.length:=by rfl):PS X st (sRen X.N N' t):=by
 intro pins s σ H D I q
 refine thn (h pins s σ H _ (I.ren hl q.1) q.2) fun f s1 hf=>?_
 cases f with
 | next=>
  obtain ⟨σ',H',I',q1,q2⟩:=hf
  exact ⟨σ',H',I'.unren hl q1,q2⟩
 | brk=>
  obtain ⟨σ',H',I',q1⟩:=hf
  exact q1.elim
 | cont=>
  obtain ⟨σ',H',I',q1⟩:=hf
  exact q1.elim
 | ret u=>
  obtain ⟨v,σ',H',I',r,q1⟩:=hf
  exact q1.elim
section
variable {X:Cx}
end
section
variable {K:W.Frag} {S:Addr} {ns:List Int} {H H':Hp} {a p:Addr}
end
abbrev Ris (ps:Array Nat):Prop:=ps.toList.Pairwise (·<·)
theorem Uy {ps:Array Nat} (h:Ris ps) {i k:Nat} (hik:i<k) (hk:k<ps.size):ps[i]'(by omega)<ps[k]:=by
 have:=List.pairwise_iff_getElem.mp h i k (by rw [Array.length_toList];omega) (by rw [Array.length_toList];exact hk) hik
 simpa using this
structure Cut (ps:Array Nat) (j b:Nat):Prop where
 le:b≤ps.size
 lo:∀i (h:i<ps.size),i<b→ps[i]<j
 hi:∀i (h:i<ps.size),b≤i→j≤ps[i]
theorem iW {ps:Array Nat} {j:Nat} (h:Ris ps):∀(fuel lo hi:Nat),hi≤ps.size→lo≤hi→hi - lo≤fuel→(∀i (q:i<ps.size),i<lo→ps[i]<j)→(∀i (q:i<ps.size),hi≤i→j≤ps[i])→Cut ps j (SetTable.below.go ps j fuel lo hi)
 | 0,lo,hi,h1,h2,h3,h4,h5=>by
  have e:lo=hi:=by omega
  subst e
  exact ⟨h1,h4,h5⟩
 | fuel+1,lo,hi,h1,h2,h3,h4,h5=>by
  show Cut ps j (if lo<hi then if ps.getD ((lo+hi) / 2) j<j then SetTable.below.go ps j fuel ((lo+hi) / 2+1) hi else SetTable.below.go ps j fuel lo ((lo+hi) / 2) else lo)
  by_cases c:lo<hi
  ·rw [if_pos c]
   have hm:(lo+hi) / 2<ps.size:=by omega
   have eg:ps.getD ((lo+hi) / 2) j=ps[(lo+hi) / 2]:=by
    simp [Array.getD,hm]
   rw [eg]
   by_cases d:ps[(lo+hi) / 2]<j
   ·rw [if_pos d]
    refine iW h fuel _ _ h1 (by omega) (by omega) (fun i q hi2=>?_) h5
    by_cases e:i=(lo+hi) / 2
    ·subst e;exact d
    ·exact Nat.lt_trans (Uy h (i:=i) (k:=(lo+hi) / 2) (by omega) hm) d
   ·rw [if_neg d]
    refine iW h fuel _ _ (by omega) (by omega) (by omega) h4 (fun i q hi2=>?_)
    by_cases e:i=(lo+hi) / 2
    ·subst e;omega
    ·have:=Uy h (i:=(lo+hi) / 2) (k:=i) (by omega) q
     omega
  ·rw [if_neg c]
   have e:lo=hi:=by omega
   subst e
   exact ⟨h1,h4,h5⟩
theorem Sc {ps:Array Nat} (h:Ris ps) (j:Nat):Cut ps j (SetTable.below ps j):=
 iW h ps.size 0 ps.size (Nat.le_refl _) (Nat.zero_le _) (by omega) (fun i q z=>by omega) (fun i q z=>by omega)
theorem Ou {ps:Array Nat} {j b:Nat} (h:Ris ps) (c:Cut ps j b) (hm:j∈ps.toList):ps[b]?=some j:=by
 obtain ⟨k,hk,e⟩:=List.mem_iff_getElem.mp hm
 rw [Array.length_toList] at hk
 have e:ps[k]=j:=by simpa using e
 have kb:b≤k:=by
  by_cases q:k<b
  ·have:=c.lo k hk q;omega
  ·omega
 have bk:b=k:=by
  by_cases q:b=k
  ·exact q
  ·have h1:=Uy h (i:=b) (k:=k) (by omega) hk
   have h2:=c.hi b (by omega) (Nat.le_refl _)
   omega
 subst bk
 rw [Array.getElem?_eq_getElem hk,e]
theorem iQ {t:SetTable} (h:Ris t.place) {j:Nat} (e:t.slot j=.empty):j∉t.place.toList:=fun hm=>by
 have q:=Ou h (Sc h j) hm
 have e:(if (t.place[SetTable.below t.place j]? == some j)=true then SetTable.Slot.live (SetTable.below t.place j) else if SetTable.has t.dummies j=true then SetTable.Slot.dummy else SetTable.Slot.empty)=SetTable.Slot.empty:=e
 rw [q] at e
 simp at e
theorem Oa {t:SetTable} (hd:t.dummies=#[]) (j:Nat):t.slot j≠.dummy:=by
 unfold SetTable.slot
 have:SetTable.has t.dummies j=false:=by
  rw [hd]
  unfold SetTable.has
  rfl
 rw [this]
 intro e
 by_cases c:(t.place[SetTable.below t.place j]? == some j)=true
 ·simp [c] at e
 ·simp [c] at e
theorem j9 (t:SetTable) (p:SetTable.Probe) (h:p.dummy=none):(t.advance p).dummy=none:=by
 unfold SetTable.advance
 by_cases c:p.more > 0
 ·rw [if_pos c];exact h
 ·rw [if_neg c];exact h
theorem Sd {t:SetTable} (hd:t.dummies=#[]) {hashAt:Nat→Int} {h:Int}:∀(fuel:Nat) (p:SetTable.Probe),p.dummy=none→∀{j d},SetTable.probe.go t hashAt h fuel p=some (.empty j d)→d=none∧t.slot j=.empty
 | 0,p,hp,j,d,e=>by cases e
 | fuel+1,p,hp,j,d,e=>by
  have e:(match t.slot p.j with
   | .empty=>some (SetTable.Met.empty p.j p.dummy)
   | .dummy=>SetTable.probe.go t hashAt h fuel (t.advance {p with dummy:=some p.j})
   | .live i=>if (hashAt i == h)=true then some (SetTable.Met.candidate p.j i (t.advance p)) else SetTable.probe.go t hashAt h fuel (t.advance p))=some (.empty j d):=e
  cases q:t.slot p.j with
  | empty=>
   rw [q] at e
   cases e
   exact ⟨hp,q⟩
  | dummy=>exact absurd q (Oa hd _)
  | live i=>
   rw [q] at e
   by_cases c:(hashAt i == h)=true
   ·simp [c] at e
   ·simp [c] at e
    exact Sd hd fuel _ (j9 t p hp) e
theorem kX {t:SetTable} (hr:Ris t.place) (hd:t.dummies=#[]) {h:Int} {j:Nat} {d:Bool} (e:t.freeSlot h=some (j,d)):d=false∧j∉t.place.toList:=by
 unfold SetTable.freeSlot at e
 generalize q:t.probe (fun _=>h+1) h (t.probeStart h)=r at e
 match r with
 | none=>cases e
 | some (.candidate _ _ _)=>cases e
 | some (.empty j' d')=>
  obtain ⟨e1,e2⟩:=Sd hd _ _ (show (t.probeStart h).dummy=none from rfl) q
  subst e1
  cases e
  exact ⟨rfl,iQ hr e2⟩
theorem Ql {α:Type} (xs:Array α) (p:Nat) (x:α) (hp:p≤xs.size):(SetTable.insertAt xs p x).toList=xs.toList.take p++x::xs.toList.drop p:=by
 unfold SetTable.insertAt
 simp [Array.toList_append,Array.toList_extract,List.extract_eq_drop_take]
 rw [List.take_of_length_le (by simp)]
theorem iE {ps:Array Nat} (h:Ris ps) {j:Nat} (hn:j∉ps.toList):Ris (SetTable.insertAt ps (SetTable.below ps j) j):=by
 have c:=Sc h j
 show (SetTable.insertAt ps (SetTable.below ps j) j).toList.Pairwise (·<·)
 rw [Ql _ _ _ c.le,List.pairwise_append]
 refine ⟨h.sublist (List.take_sublist _ _),List.pairwise_cons.mpr ⟨fun y hy=>?_,h.sublist (List.drop_sublist _ _)⟩,fun y hy z hz=>?_⟩
 ·obtain ⟨k,hk,rfl⟩:=List.mem_iff_getElem.mp hy
  rw [List.length_drop,Array.length_toList] at hk
  rw [List.getElem_drop]
  have:=c.hi (SetTable.below ps j+k) (by omega) (by omega)
  have ne:ps[SetTable.below ps j+k]'(by omega)≠j:=fun q=>hn (by
   rw [←q]
   exact Array.getElem_mem_toList _)
  have e:ps.toList[SetTable.below ps j+k]'(by rw [Array.length_toList];omega)=ps[SetTable.below ps j+k]'(by omega):=by simp
  rw [e]
  omega
 ·obtain ⟨k,hk,rfl⟩:=List.mem_iff_getElem.mp hy
  rw [List.length_take,Array.length_toList] at hk
  rw [List.getElem_take]
  have e:ps.toList[k]'(by rw [Array.length_toList];omega)=ps[k]'(by omega):=by simp
  rw [e]
  have l1:=c.lo k (by omega) (by omega)
  rcases List.mem_cons.mp hz with rfl | hz
  ·exact l1
  ·obtain ⟨k2,hk2,rfl⟩:=List.mem_iff_getElem.mp hz
   rw [List.length_drop,Array.length_toList] at hk2
   rw [List.getElem_drop]
   have:=c.hi (SetTable.below ps j+k2) (by omega) (by omega)
   have e2:ps.toList[SetTable.below ps j+k2]'(by rw [Array.length_toList];omega)=ps[SetTable.below ps j+k2]'(by omega):=by simp
   rw [e2]
   omega
theorem kO (n:Nat):Ris (Array.range n):=by
 show (Array.range n).toList.Pairwise (·<·)
 rw [Array.toList_range]
 exact List.pairwise_lt_range
theorem Uz {f:Nat→Option (Nat×Nat)} (hf:∀j x,f j=some x→x.1=j):∀(l:List Nat),l.Pairwise (·<·)→((l.filterMap f).map (·.1)).Pairwise (·<·)
 | [],_=>List.Pairwise.nil
 | a::l,h=>by
  obtain ⟨h1,h2⟩:=List.pairwise_cons.mp h
  have ih:=Uz hf l h2
  rw [List.filterMap_cons]
  cases q:f a with
  | none=>exact ih
  | some x=>
   show (x.1::(l.filterMap f).map (·.1)).Pairwise (·<·)
   refine List.pairwise_cons.mpr ⟨fun y hy=>?_,ih⟩
   obtain ⟨z,hz,rfl⟩:=List.mem_map.mp hy
   obtain ⟨k,hk,e⟩:=List.mem_filterMap.mp hz
   rw [hf a x q,hf k z e]
   exact h1 k hk
structure Gd (t:SetTable) (b:Bool):Prop where
 ris:Ris t.place
 dum:t.dummies=#[]
 led:t.led=b
theorem V9 {t:SetTable} {b:Bool} (h:Gd t b) (n:Nat):Gd (t.standIn n) b:=⟨kO n,rfl,h.led⟩
theorem oX {mask finger moves:Nat} {led plain:Bool} {hashes:Array Int} {t:SetTable} {o:Array Nat} (e:SetTable.laid mask finger moves led plain hashes=some (t,o)):Gd t led:=by
 unfold SetTable.laid at e
 obtain ⟨owner,_,e⟩:=Option.bind_eq_some_iff.mp e
 cases e
 refine ⟨?_,rfl,rfl⟩
 refine Uz (f:=fun j=>Option.map (fun x=>(j,x)) (owner.getD j none)) (fun j x h=>?_) (List.range (mask+1)) List.pairwise_lt_range
 obtain ⟨y,_,rfl⟩:=Option.map_eq_some_iff.mp h
 rfl
theorem kH {t:SetTable} {b:Bool} {es:Array (Int×Value)} {h:Int} {x:Value} (g:Gd t b):Gd (layNew t es h x).2.1 b∧(layNew t es h x).2.1.fits (layNew t es h x).1.size=true:=by
 unfold layNew
 generalize q:t.freeSlot h=r
 match r with
 | none=>
  refine ⟨V9 g _,?_⟩
  show (t.standIn (es.size+1)).fits (es.push (h,x)).size=true
  rw [Array.size_push]
  exact SetTable.standIn_fits _ _
 | some (slot,d)=>
  obtain ⟨_,hn⟩:=kX g.ris g.dum q
  refine ⟨?_,SetTable.orStandIn_fits _ _⟩
  show Gd ((t.put slot).1.orStandIn _) b
  unfold SetTable.orStandIn
  have gp:Gd (t.put slot).1 b:=by
   refine ⟨iE g.ris hn,?_,g.led⟩
   show (if SetTable.has t.dummies slot=true then _ else t.dummies)=#[]
   have:SetTable.has t.dummies slot=false:=by
    rw [g.dum]
    rfl
   rw [this]
   exact g.dum
  split
  ·exact gp
  ·exact V9 gp _
theorem fZ {t:SetTable} {b:Bool} {es:Array (Int×Value)} {n:Nat} (g:Gd t b):Gd (relayAll t es n).2.1 b∧(relayAll t es n).2.1.fits (relayAll t es n).1.size=true:=by
 unfold relayAll
 generalize q:t.relaid (Array.map (fun x=>x.fst) es) n=r
 match r with
 | none=>exact ⟨V9 g _,SetTable.standIn_fits _ _⟩
 | some (t',o)=>
  have gl:=oX q
  rw [g.led] at gl
  have key:∀r:Array (Int×Value)×SetTable×Bool,r=(if (coversAll o es.size && t'.fits (Array.filterMap (fun x=>es[x]?) o).size)=true then (Array.filterMap (fun x=>es[x]?) o,t',false) else (es,t.standIn es.size,true))→Gd r.2.1 b∧r.2.1.fits r.1.size=true:=by
   rintro r rfl
   by_cases c:(coversAll o es.size && t'.fits (Array.filterMap (fun x=>es[x]?) o).size)=true
   ·rw [if_pos c]
    rw [Bool.and_eq_true] at c
    exact ⟨gl,c.2⟩
   ·rw [if_neg c]
    exact ⟨V9 g _,SetTable.standIn_fits _ _⟩
  exact key _ rfl
theorem nO {t:SetTable} {b p:Bool} (g:Gd t b):Gd {t with plain:=p} b:=⟨g.ris,g.dum,g.led⟩
instance decMemKey (k:Key) (ks:List Key):Decidable (k∈ks):=@List.instDecidableMemOfLawfulBEq Key instBEqOfDecidableEq inferInstance k ks
def ik (P:Program) (w:World) (e:Int×Value) (k:Key):Prop:=(af P w).is k e.2=true∧e.1=(af P w).hash k∧e.2.scannable=true
def cK (P:Program) (w:World) (h:Heap) (a:Addr) (ks:List Key):Prop:=
 ∃o es ep t,h.get? a=some o∧o.ExactSet∧o.data=.set es ep t∧(∃fs,es.toList.Perm fs∧Paired (ik P w) fs ks)∧t.fits es.size=true∧Gd t (!w.params.followText "set-order")∧ks.Nodup
theorem Paired.mem1 {α β:Type} {F:α→β→Prop}:∀{xs:List α} {ys:List β},Paired F xs ys→∀x∈xs,∃y∈ys,F x y
 | _,_,.nil,_,h=>nomatch h
 | _,_,.cons f r,x,h=>by
  rcases List.mem_cons.mp h with rfl | h
  ·exact ⟨_,.head _,f⟩
  ·obtain ⟨y,hy,q⟩:=Paired.mem1 r x h
   exact ⟨y,.tail _ hy,q⟩
theorem Paired.mem2 {α β:Type} {F:α→β→Prop}:∀{xs:List α} {ys:List β},Paired F xs ys→∀y∈ys,∃x∈xs,F x y
 | _,_,.nil,_,h=>nomatch h
 | _,_,.cons f r,y,h=>by
  rcases List.mem_cons.mp h with rfl | h
  ·exact ⟨_,.head _,f⟩
  ·obtain ⟨x,hx,q⟩:=Paired.mem2 r y h
   exact ⟨x,.tail _ hx,q⟩
theorem Paired.snoc {α β:Type} {F:α→β→Prop} {x:α} {y:β} (f:F x y):∀{xs:List α} {ys:List β},Paired F xs ys→Paired F (xs++[x]) (ys++[y])
 | _,_,.nil=>.cons f .nil
 | _,_,.cons g r=>.cons g (Paired.snoc f r)
section
variable {prog:Program} {w:World} {A:Around} {E:Value→Shared→Prop} {s:Shared} {a:Addr} {ks:List Key}
theorem n9 {es:List (Int×Value)} (h:∃fs,es.Perm fs∧Paired (ik prog w) fs ks):ElemsOf (af prog w) es:=fun e he=>by
 obtain ⟨fs,p,m⟩:=h
 obtain ⟨k,_,h1,h2,h3⟩:=Paired.mem1 m e (p.mem_iff.mp he)
 exact ⟨⟨k,h1,h2⟩,h3⟩
theorem Sa {es:List (Int×Value)} (h:∃fs,es.Perm fs∧Paired (ik prog w) fs ks):es.length=ks.length:=by
 obtain ⟨fs,p,m⟩:=h
 rw [p.length_eq]
 exact Paired.length m
theorem ph {es:List (Int×Value)} {k:Key} (h:∃fs,es.Perm fs∧Paired (ik prog w) fs ks) (hk:k∈ks):∃j,es.findIdx? (fun e=>(af prog w).is k e.2)=some j:=by
 obtain ⟨fs,p,m⟩:=h
 obtain ⟨e,he,q,_⟩:=Paired.mem2 m k hk
 have:(es.findIdx? (fun e=>(af prog w).is k e.2)).isSome=true:=by
  rw [List.findIdx?_isSome]
  exact List.any_eq_true.mpr ⟨e,p.mem_iff.mpr he,q⟩
 exact Option.isSome_iff_exists.mp this
theorem lV {es:List (Int×Value)} {k:Key} (h:∃fs,es.Perm fs∧Paired (ik prog w) fs ks) (hk:k∉ks):es.findIdx? (fun e=>(af prog w).is k e.2)=none:=by
 obtain ⟨fs,p,m⟩:=h
 rw [List.findIdx?_eq_none_iff]
 intro e he
 obtain ⟨k',hk',q,_⟩:=Paired.mem1 m e (p.mem_iff.mp he)
 refine Bool.eq_false_iff.mpr fun z=>hk ?_
 rw [(af prog w).inj _ _ _ z q]
 exact hk'
theorem n4 {x:Value} {Q:Bool→Shared→Prop} (hs:x.scannable=true) (q:∀b,Q b s):wpAny (model prog w) A (hashByValue 8 x) Q E s:=by
 cases x with
 | none=>exact (wpAny_pure (q true):wpAny _ _ (pure true) _ _ _)
 | bool b=>exact (wpAny_pure (q true):wpAny _ _ (pure true) _ _ _)
 | int i t=>exact (wpAny_pure (q true):wpAny _ _ (pure true) _ _ _)
 | str z t=>exact (wpAny_pure (q false):wpAny _ _ (pure false) _ _ _)
 | bytes z t=>exact (wpAny_pure (q false):wpAny _ _ (pure false) _ _ _)
 | _=>cases hs
theorem jH {o:Obj} {es:Array (Int×Value)} {ep:Nat} {t:SetTable} {es':Array (Int×Value)} {t':SetTable} {h:Heap} (ho:h.get? a=some o) (hx:o.ExactSet) (hd:o.data=.set es ep t):
  ∃o',(h.update a (Obj.putSet es' t')).get? a=some o'∧o'.ExactSet∧o'.data=.set es' (ep+1) t':=by
 obtain ⟨c,d,dt,sl⟩:=o
 simp only at hd
 subst hd
 exact ⟨_,Heap.get?_update_self _ ho rfl,hx,rfl⟩
theorem gD {t:SetTable} {n:Nat} {p:Bool} (h:t.fits n=true):SetTable.fits {t with plain:=p} n=true:=h
theorem qf {k:Key} {x:Value} {Q:Bool→Shared→Prop} (hk:(af prog w).is k x=true) (hs:x.scannable=true) (G:cK prog w s.heap a ks) (hb:ks.length+1<scanBound)
  (fin:∀b h',Heap.SameBut a s.heap h'→cK prog w h' a (if k∈ks then ks else ks++[k])→Q b {s with heap:=h'}):wpAny (model prog w) A (setAddHashed a x ((af prog w).hash k)) Q E s:=by
 obtain ⟨o,es,ep,t,ho,hex,hd,hf,fit,gd,nd⟩:=G
 have els:=n9 hf
 have len:=Sa hf
 rw [Array.length_toList] at len
 unfold setAddHashed
 refine wpAny_holding ?_
 rw [show (100000:Nat)=99999+1 from rfl,setAddHashedIn.eq_def]
 refine wpAny_bind (wpAny_setState_of ho hd fit ?_)
 dsimp only
 rw [byScan_of hs (by omega) els,if_pos rfl]
 refine wpAny_bind ?_
 unfold setAddByScan
 refine wpAny_bind (wpAny_rule ?_)
 refine wpAny_bind (wpAny_setScan_of hk ho hd fit els ?_)
 by_cases hin:k∈ks
 ·obtain ⟨j,ej⟩:=ph hf hin
  rw [ej]
  refine wpAny_pure (wpAny_pure (fin false s.heap ⟨rfl,fun _ _=>rfl⟩ ?_))
  rw [if_pos hin]
  exact ⟨o,es,ep,t,ho,hex,hd,hf,fit,gd,nd⟩
 ·rw [lV hf hin]
  rw [if_neg hin] at fin
  have lp:=layNew_perm t es ((af prog w).hash k) x
  obtain ⟨gl,fl⟩:=kH (es:=es) (h:=(af prog w).hash k) (x:=x) gd
  dsimp only
  generalize layNew t es ((af prog w).hash k) x=L at lp gl fl ⊢
  obtain ⟨es1,t1,wd,gv⟩:=L
  dsimp only at lp gl fl ⊢
  have nd2:(ks++[k]).Nodup:=by
   rw [List.nodup_append]
   exact ⟨nd,List.nodup_cons.mpr ⟨fun h=>(nomatch h),List.nodup_nil⟩,fun y hy z hz e=>hin (by rw [←List.mem_singleton.mp hz,←e];exact hy)⟩
  have hf1:∃fs,es1.toList.Perm fs∧Paired (ik prog w) fs (ks++[k]):=by
   obtain ⟨fs,p,m⟩:=hf
   refine ⟨fs++[((af prog w).hash k,x)],lp.trans ?_,Paired.snoc ⟨hk,rfl,hs⟩ m⟩
   rw [Array.toList_push]
   exact p.append_right _
  have sz1:es1.size≤sizeLine:=by
   have:=Sa hf1
   rw [Array.length_toList,List.length_append,List.length_singleton] at this
   exact Zb (by unfold scanBound at hb;omega)
  have main:∀t2:SetTable,Gd t2 (!w.params.followText "set-order")→t2.fits es1.size=true→wpAny (model prog w) A (do
    storeSet a es1 t2
    if (!wd && t2.tooFull)=true then
     match relayAll t2 es1 (SetTable.grown es1.size) with
     | (es,t,gave)=>do
      (match gave with | true=>rule "set.scan.the-table-gave-way" | false=>pure ())
      storeSet a es t
      pure (some true)
    else pure (some true)) (fun r s'=>wpAny (model prog w) A (match r with | some added=>pure added | none=>setAddHashedIn a x ((af prog w).hash k) 99999) Q E s') E s:=by
   intro t2 g2 f2
   refine wpAny_bind (wpAny_storeSet_of ho hd ?_ sz1)
   obtain ⟨o1,ho1,hx1,hd1⟩:=jH (es':=es1) (t':=t2) ho hex hd
   by_cases c:(!wd && t2.tooFull)=true
   ·rw [if_pos c]
    have rp:=relayAll_perm t2 es1 (SetTable.grown es1.size)
    obtain ⟨gr,fr⟩:=fZ (es:=es1) (n:=SetTable.grown es1.size) g2
    generalize relayAll t2 es1 (SetTable.grown es1.size)=R at rp gr fr ⊢
    obtain ⟨es2,t3,gv2⟩:=R
    dsimp only at rp gr fr ⊢
    have sz2:es2.size≤sizeLine:=by
     have:=rp.length_eq
     rw [Array.length_toList,Array.length_toList] at this
     omega
    have store:wpAny (model prog w) A (do
      storeSet a es2 t3
      pure (some true)) (fun r s'=>wpAny (model prog w) A (match r with | some added=>pure added | none=>setAddHashedIn a x ((af prog w).hash k) 99999) Q E s') E {s with heap:=s.heap.update a (Obj.putSet es1 t2)}:=by
     refine wpAny_bind (wpAny_storeSet_of ho1 hd1 (wpAny_pure (wpAny_pure (fin true _ ((Heap.SameBut.update _ _ _).trans (Heap.SameBut.update _ _ _)) ?_))) sz2)
     obtain ⟨o2,ho2,hx2,hd2⟩:=jH (es':=es2) (t':=t3) ho1 hx1 hd1
     obtain ⟨fs,p,m⟩:=hf1
     exact ⟨o2,es2,_,t3,ho2,hx2,hd2,⟨fs,rp.trans p,m⟩,fr,gr,nd2⟩
    cases gv2 with
    | true=>exact wpAny_bind (wpAny_rule store)
    | false=>exact wpAny_bind (wpAny_pure store)
   ·rw [if_neg c]
    refine wpAny_pure (wpAny_pure (fin true _ (Heap.SameBut.update _ _ _) ?_))
    exact ⟨o1,es1,_,t2,ho1,hx1,hd1,hf1,f2,g2,nd2⟩
  have both:∀b:Bool,wpAny (model prog w) A (do
    storeSet a es1 (if b=true then t1 else {t1 with plain:=false})
    if (!wd && (if b=true then t1 else {t1 with plain:=false}).tooFull)=true then
     match relayAll (if b=true then t1 else {t1 with plain:=false}) es1 (SetTable.grown es1.size) with
     | (es,t,gave)=>do
      (match gave with | true=>rule "set.scan.the-table-gave-way" | false=>pure ())
      storeSet a es t
      pure (some true)
    else pure (some true)) (fun r s'=>wpAny (model prog w) A (match r with | some added=>pure added | none=>setAddHashedIn a x ((af prog w).hash k) 99999) Q E s') E s:=fun b=>by
   cases b with
   | true=>exact main t1 gl fl
   | false=>exact main {t1 with plain:=false} (nO gl) (gD fl)
  have tail:wpAny (model prog w) A (if t1.plain=true then hashByValue 8 x >>= fun b=>(do
    storeSet a es1 (if b=true then t1 else {t1 with plain:=false})
    if (!wd && (if b=true then t1 else {t1 with plain:=false}).tooFull)=true then
     match relayAll (if b=true then t1 else {t1 with plain:=false}) es1 (SetTable.grown es1.size) with
     | (es,t,gave)=>do
      (match gave with | true=>rule "set.scan.the-table-gave-way" | false=>pure ())
      storeSet a es t
      pure (some true)
    else pure (some true)) else pure true >>= fun b=>(do
    storeSet a es1 (if b=true then t1 else {t1 with plain:=false})
    if (!wd && (if b=true then t1 else {t1 with plain:=false}).tooFull)=true then
     match relayAll (if b=true then t1 else {t1 with plain:=false}) es1 (SetTable.grown es1.size) with
     | (es,t,gave)=>do
      (match gave with | true=>rule "set.scan.the-table-gave-way" | false=>pure ())
      storeSet a es t
      pure (some true)
    else pure (some true))) (fun r s'=>wpAny (model prog w) A (match r with | some added=>pure added | none=>setAddHashedIn a x ((af prog w).hash k) 99999) Q E s') E s:=by
   by_cases c:t1.plain=true
   ·rw [if_pos c]
    exact wpAny_bind (n4 hs both)
   ·rw [if_neg c]
    exact wpAny_bind (wpAny_pure (both true))
  cases gv with
  | true=>exact wpAny_bind (wpAny_rule tail)
  | false=>exact wpAny_bind (wpAny_pure tail)
end
theorem pN (a:Value):checkBuiltinCall "set.__new__" ⟨[.type "set",a],[]⟩=pure ():=by kernel_rfl
theorem qm (a:Value):Builtin.Frozenset.newClass "set" ⟨[.type "set",a],[]⟩=pure (.type "set",[a]):=by kernel_rfl
def ddK:List Key→List Key→List Key
 | acc,[]=>acc
 | acc,k::r=>ddK (if k∈acc then acc else acc++[k]) r
theorem f_ (k:Key):∀(l acc:List Key),ddK acc (l++[k])=if k∈ddK acc l then ddK acc l else ddK acc l++[k]
 | [],acc=>rfl
 | x::l,acc=>f_ k l _
theorem R0:∀(l acc:List Key),(ddK acc l).length≤acc.length+l.length
 | [],acc=>Nat.le_refl _
 | x::l,acc=>by
  have:=R0 l (if x∈acc then acc else acc++[x])
  show (ddK (if x∈acc then acc else acc++[x]) l).length≤_
  rw [List.length_cons]
  by_cases h:x∈acc
  ·rw [if_pos h] at this ⊢;omega
  ·rw [if_neg h] at this ⊢
   rw [List.length_append,List.length_singleton] at this
   omega
theorem Td:∀(l acc:List Key) (k:Key),k∈ddK acc l↔k∈acc∨k∈l
 | [],acc,k=>⟨.inl,fun h=>h.elim id (fun h=>nomatch h)⟩
 | x::l,acc,k=>by
  show k∈ddK (if x∈acc then acc else acc++[x]) l↔_
  rw [Td l _ k]
  by_cases h:x∈acc
  ·rw [if_pos h,List.mem_cons]
   constructor
   ·rintro (q | q)
    ·exact .inl q
    ·exact .inr (.inr q)
   ·rintro (q | rfl | q)
    ·exact .inl q
    ·exact .inl h
    ·exact .inr q
  ·rw [if_neg h,List.mem_cons,List.mem_append,List.mem_singleton]
   constructor
   ·rintro ((q | q) | q)
    ·exact .inl q
    ·exact .inr (.inl q)
    ·exact .inr (.inr q)
   ·rintro (q | q | q)
    ·exact .inl (.inl q)
    ·exact .inl (.inr q)
    ·exact .inr q
theorem gU:∀(l acc:List Key),acc.Nodup→(ddK acc l).Nodup
 | [],acc,h=>h
 | x::l,acc,h=>by
  refine gU l _ ?_
  by_cases c:x∈acc
  ·rw [if_pos c];exact h
  ·rw [if_neg c,List.nodup_append]
   exact ⟨h,List.nodup_cons.mpr ⟨fun h=>(nomatch h),List.nodup_nil⟩,fun y hy z hz e=>c (by rw [←List.mem_singleton.mp hz,←e];exact hy)⟩
section
variable {prog:Program} {w:World} {A:Around} {E:Value→Shared→Prop} {s:Shared}
abbrev au (w:World):Obj:={cls:=.type "set",dict:=none,data:=.set #[] 0 (.fresh 0 0 (!w.params.followText "set-order"))}
theorem U7 (a:Value) {Q₁:Value→Shared→Prop}
  (h:Q₁ (.ref s.heap.objs.size) {s with heap:=s.heap.push (au w)}):
  codeAny (model prog w) A (.call (.builtin "set.__new__") ⟨[.type "set",a],[]⟩) (wants Q₁ E) s:=by
 refine codeAny_call_builtin PySem.F.plain_set_new PySem.F.entry_set_new ?_
 rw [pN]
 refine wpAny_pure ?_
 unfold Builtin.«set.__new__»
 rw [qm]
 refine wpAny_bind (wpAny_pure (wpAny_bind ?_))
 unfold newSet setsByText
 refine wpAny_bind (wpAny_bind (wpAny_askSetting (wpAny_pure ?_)))
 exact wpAny_newObj_type (wpAny_pure h)
theorem Ww {h h':Heap} {a:Addr} {ks:List Key} (q:cK prog w h a ks) (k:∀o,h.get? a=some o→h'.get? a=some o):cK prog w h' a ks:=by
 obtain ⟨o,es,ep,t,ho,r⟩:=q
 exact ⟨o,es,ep,t,k o ho,r⟩
theorem Qx {h:Heap} {a:Addr} (e:h.get? a=some (au w)):cK prog w h a []:=
 ⟨_,#[],0,_,e,⟨rfl,rfl,rfl⟩,rfl,⟨[],List.Perm.refl _,.nil⟩,by rfl,⟨List.Pairwise.nil,rfl,rfl⟩,List.nodup_nil⟩
end
section
variable {prog:Program} {w:World} {A:Around} {R:Result→Shared→Prop} {I:Addr} {fp wr:List Addr} {n:Nat} {P:Nat→Value→Prop} {St:Nat→Heap→Prop}
theorem Qs (W:Walks prog w A.in1 I fp wr n P St) (S:Addr) (hS:S∉fp) (ks:List Key) (hzn:ks.length=n) (hv:∀(i:Nat) v,P i v→∃k,ks[i]?=some k∧(af prog w).is k v=true∧v.scannable=true) (hb:n+1<scanBound):
  ∀(m i:Nat) (s:Shared),n - i=m→i≤n→St i s.heap→cK prog w s.heap S (ddK [] (ks.take i))→
   (∀h' tk,(∀b o,b∉S::wr→s.heap.get? b=some o→h'.get? b=some o)→cK prog w h' S (ddK [] ks)→R (.ok (.ret .none)) {s with heap:=h',toks:=tk})→
   codeAny (model prog w) A (.builtin "set.update.loop" ⟨[.ref S,.ref I],[]⟩) R s:=by
 have hSw:S∉wr:=fun q=>hS (W.sub _ q)
 intro m
 induction m with
 | zero=>
  intro i s hk hi st so fin
  obtain rfl:i=n:=by omega
  refine codeAny_builtin PyProof.Rows.F.entry_set_update_loop ?_
  rw [Around.under_plainId PyProof.Rows.F.plain_set_update_loop _]
  refine wpAny_bind (m:=pyNext (.ref I)) (W.done s _ _ st fun h' tk kp=>wpAny_pure (fin h' tk (fun b o nb e=>kp b o (fun q=>nb (List.mem_cons_of_mem _ q)) e) ?_))
  rw [←hzn,List.take_length] at so
  exact Ww so fun o e=>kp S o hSw e
 | succ m ih=>
  intro i s hk hi st so fin
  have hlt:i<n:=by omega
  refine codeAny_builtin PyProof.Rows.F.entry_set_update_loop ?_
  rw [Around.under_plainId PyProof.Rows.F.plain_set_update_loop _]
  refine wpAny_bind (m:=pyNext (.ref I)) (W.item i s _ _ hlt st fun v h1 tk1 pv st1 kp1=>?_)
  obtain ⟨k,hkk,hk1,hk2⟩:=hv i v pv
  have so1:=Ww so fun o e=>kp1 S o hSw e
  refine wpAny_bind (m:=holding [v] (setAdd S v)) (wpAny_holding ?_)
  unfold setAdd
  refine wpAny_holding (wpAny_bind ((af prog w).pyHash hk1 ?_))
  have room:=R0 (ks.take i) []
  rw [List.length_take,List.length_nil] at room
  refine qf hk1 hk2 (s:={s with heap:=h1,toks:=tk1+1}) so1 (by omega) fun b h2 sb so2=>?_
  have et:ks.take (i+1)=ks.take i++[k]:=by rw [List.take_add_one,hkk];rfl
  rw [←f_,←et] at so2
  refine wpAny_pure ⟨plainId_quiet PyProof.Rows.F.plain_set_update_loop _,ih (i+1) _ (by omega) hlt (W.frame _ _ _ st1 fun b hb o e=>(sb.2 b fun q=>hS (by rw [←q];exact hb)).trans e) so2 fun h' tk kp so'=>fin h' tk (fun b o nb e=>kp b o nb ?_) so'⟩
  have nS:b≠S:=fun q=>nb (by rw [q];exact List.mem_cons_self)
  exact (sb.2 b nS).trans (kp1 b o (fun q=>nb (List.mem_cons_of_mem _ q)) e)
end
section
variable {prog:Program} {w:World} {A:Around} {E:Value→Shared→Prop} {s:Shared}
theorem nw {k:Key} {u:Value} (r:RelV (kV k) u):(af prog w).is k u=true∧u.scannable=true:=by
 cases k with
 | inl i=>obtain ⟨t,rfl⟩:=r;exact ⟨Si prog w i t,rfl⟩
 | inr x=>obtain ⟨t,rfl⟩:=r;exact ⟨Sh prog w x t,rfl⟩
theorem kW {l:Addr} {its:List Value} {ks:List Key} {R:Value→Shared→Prop} (hh:A.handled=none) (hl:s.heap.IsList l its.toArray) (hv:Vals (ks.map kV) its) (hb:its.length+1<scanBound)
  (h:∀(h':Heap) (tk:Nat),cK prog w h' s.heap.objs.size (ddK [] ks)→(∀b o,b<s.heap.objs.size→s.heap.get? b=some o→h'.get? b=some o)→R .none {s with heap:=h',toks:=tk}):
  codeAny (model prog w) A (.call (.builtin "set.__init__") ⟨[.ref s.heap.objs.size,.ref l],[]⟩) (wants R E) {s with heap:=s.heap.push (au w)}:=by
 have own:(s.heap.push (au w)).get? s.heap.objs.size=some (au w):=Heap.get?_push_size _ rfl
 have ty:Shared.TypeIs {s with heap:=s.heap.push (au w)} (.ref s.heap.objs.size) "set":=⟨_,own,rfl⟩
 refine codeAny_call_builtin PySem.F.called_set.init.plain PySem.F.entry_set_init (check_set_init_1 ty ?_)
 obtain ⟨⟨c0,d0,dt0,sl0⟩,ho,hc,nl,hd⟩:=hl
 simp only at hc hd
 subst hc hd
 have ho1:(s.heap.push (au w)).get? l=some {cls:=.type "list",dict:=d0,data:=.seq its.toArray nl,slots:=sl0}:=Heap.get?_push_of_some _ ho
 have hl1:(s.heap.push (au w)).IsList l its.toArray:=⟨_,ho1,rfl,nl,rfl⟩
 have f1:=PySem.F.sub_list_set
 have f2:=PySem.F.sub_list_frozenset
 have f3:(Value.type "list" == Value.type "dict")=false:=by decide
 unfold Builtin.«set.__init__» noKeywords Builtin.Frozenset.updateFrom
 generalize hP:pyIter=PI
 wp_walk
 subst hP
 refine wpAny_pyIter_list hl1 (wpAny_bind (wpAny_runValue ?_))
 have lt0:l<s.heap.objs.size:=Heap.lt_size ho
 have hz:ks.length=its.length:=by
  have:=hv.length
  rw [List.length_map] at this
  exact this
 have ne0:l≠(s.heap.push (au w)).objs.size:=by rw [Heap.size_push];exact Nat.ne_of_lt (Nat.lt_succ_of_lt lt0)
 have nin:s.heap.objs.size∉[(s.heap.push (au w)).objs.size,l]:=by
  rw [Heap.size_push]
  simp only [List.mem_cons,List.not_mem_nil,or_false,not_or]
  exact ⟨Nat.ne_of_lt (Nat.lt_succ_self _),Nat.ne_of_gt lt0⟩
 have hh3:A.in1.in1.handled=none:=by simp [hh]
 refine Qs (Walks.list hh3 _ l ne0 its.toArray) s.heap.objs.size nin ks (by rw [List.size_toArray];exact hz) (fun i v e=>?_) (by rw [List.size_toArray];exact hb) (its.toArray.size - 0) 0 _ (by omega) (Nat.zero_le _) ?st ?_ ?_
 case st=>exact ⟨⟨_,Heap.get?_push_size _ rfl,rfl,rfl⟩,hl1.push _⟩
 ·have e':its[i]?=some v:=by simpa using e
  have hi:i<ks.length:=by
   rw [hz]
   exact (List.getElem?_eq_some_iff.mp e').1
  obtain ⟨u,hu,ru⟩:=hv.get (i:=i) (x:=kV ks[i]) (by rw [List.getElem?_map,List.getElem?_eq_getElem hi];rfl)
  rw [e'] at hu
  cases hu
  exact ⟨ks[i],List.getElem?_eq_getElem hi,nw ru⟩
 ·have g2:((s.heap.push (au w)).push {cls:=.type "list_iterator",data:=.fields #[.ref l,.int 0 0]}).get? s.heap.objs.size=some (au w):=Heap.get?_push_of_some _ own
  exact Qx g2
 ·intro h' tk kp so
  refine wpAny_pure (wpAny_pure (h h' tk so fun b o hb2 e=>kp b o ?_ (Heap.get?_push_of_some _ (Heap.get?_push_of_some _ e))))
  simp only [List.mem_cons,List.not_mem_nil,or_false,not_or]
  exact ⟨Nat.ne_of_lt hb2,by rw [Heap.size_push];exact Nat.ne_of_lt (Nat.lt_succ_of_lt hb2)⟩
theorem Qn {l:Addr} {its:List Value} {ks:List Key} {Q:Value→Shared→Prop} (hh:A.handled=none) (hl:s.heap.IsList l its.toArray) (hv:Vals (ks.map kV) its) (hb:its.length+1<scanBound)
  (h:∀(h':Heap) (tk:Nat),cK prog w h' s.heap.objs.size (ddK [] ks)→(∀b o,b<s.heap.objs.size→s.heap.get? b=some o→h'.get? b=some o)→Q (.ref s.heap.objs.size) {s with heap:=h',toks:=tk}):
  wpAny (model prog w) A (call (.type "set") [.ref l]) Q E s:=by
 obtain ⟨c,tl,hmro⟩:=PySem.F.called_set.mro
 have k1:=PySem.F.called_set.made
 have k2:=PySem.F.called_set.sub
 have k3:=PySem.F.called_set.notType
 have k4:=PySem.F.called_set.canCreate
 have k5:=PySem.F.typeCall_set_1 (.ref l)
 refine wpAny_call (codeAny_of_tree ?_)
 show wpAny _ _ (callAny (.type "set") _) _ _ _
 refine wpAny_pure ⟨Code.quiet_builtin _ (by decide +kernel),codeAny_builtin PySem.F.entry_type_call ?_⟩
 rw [Around.under_plain (weight_type_call_type "set" [.ref l] []) rfl]
 repeat (any_goals (first | assumption | wp_step))
 refine codeAny_mono (U7 (.ref l) (E:=E) (Q₁:=fun obj s1=>obj=.ref s.heap.objs.size∧s1={s with heap:=s.heap.push (au w)}) ⟨rfl,rfl⟩) fun r s1 hr=>?_
 cases r with
 | error e=>exact hr
 | ok fl=>
  cases fl with
  | ret obj=>
   obtain ⟨rfl,rfl⟩:=hr
   have own:(s.heap.push (au w)).get? s.heap.objs.size=some (au w):=Heap.get?_push_size _ rfl
   have ty:Shared.TypeIs {s with heap:=s.heap.push (au w)} (.ref s.heap.objs.size) "set":=⟨_,own,rfl⟩
   have k6:=PySem.F.called_set.init.lookup
   have k7:=PySem.F.called_set.init.bind (.ref s.heap.objs.size)
   repeat (any_goals (first | assumption | wp_step))
   refine codeAny_mono (kW (R:=fun r s2=>r=.none∧∃h' tk,s2={s with heap:=h',toks:=tk}∧cK prog w h' s.heap.objs.size (ddK [] ks)∧(∀b o,b<s.heap.objs.size→s.heap.get? b=some o→h'.get? b=some o)) (E:=E) (by simp [hh]) hl hv hb fun h' tk so kp=>⟨rfl,h',tk,rfl,so,kp⟩) fun r2 s2 hr2=>?_
   cases r2 with
   | error e=>exact hr2
   | ok fl2=>
    cases fl2 with
    | ret r=>
     obtain ⟨rfl,h',tk,rfl,so,kp⟩:=hr2
     repeat (any_goals (first | assumption | wp_step))
     exact h _ _ so kp
    | _=>exact hr2.elim
  | _=>exact hr.elim
end
def cI (prog:Program) (w:World) (a:Addr) (ks:List Key):HO:=.ext fun h=>cK prog w h a ks
section
variable {X:Cx}
theorem Pr (hc:X.calm=true):CallR X (.type "set") (fun xs H Q=>∃(p:Addr) (ks:List Key),xs=[.ref p]∧SqL X.K H p (ks.map kV)∧ks.length<4000∧∀a,H a=none→Q (.ref a) (upd H a (cI X.prog X.w a (ddK [] ks)))):=by
 intro pins s σ H xs us Q I r h
 obtain ⟨p,ks,rfl,hq,hz,q⟩:=h
 obtain ⟨u,rfl,ru⟩:=Xo r
 cases ru
 obtain ⟨its,rv,pl,_⟩:=I.list hq
 have hl:=rv.length
 rw [List.length_map] at hl
 refine Qn (I.ok.hd hc) pl.isList rv (by unfold scanBound;omega) fun h' tk so kp=>?_
 refine ⟨.ref s.heap.objs.size,_,I.laid (t':=tk) (fun b o e=>kp b o (Heap.lt_size e) e) (Nat.le_refl _) (show ObjOk X.prog X.w _ h' _ (cI X.prog X.w s.heap.objs.size (ddK [] ks)) from ?_),rfl,q _ (I.hok.fresh (Nat.le_refl _))⟩
 refine ⟨so,?_,fun h1 h2 a k=>?_⟩
 ·obtain ⟨o,_,_,_,ho,_⟩:=so
  exact ⟨o,ho⟩
 ·exact Ww a k
end
theorem W4:Slot "set_iterator" (Str.ofString "__next__") "set_iterator.__next__":=Slot.of (owner:="set_iterator") (n:="__next__") (by kernel_rfl) (by kernel_rfl) (by kernel_rfl) (by kernel_rfl) (.inl (by kernel_rfl)) (by kernel_rfl) (by kernel_rfl)
theorem U1:Slot "set_iterator" (Str.ofString "__iter__") "set_iterator.__iter__":=Slot.of (owner:="set_iterator") (n:="__iter__") (by kernel_rfl) (by kernel_rfl) (by kernel_rfl) (by kernel_rfl) (.inl (by kernel_rfl)) (by kernel_rfl) (by kernel_rfl)
theorem Qq (a:Value):argsOk "set_iterator.__next__" {pos:=[a]}:=by kernel_rfl
theorem Qr (a:Value):argsOk "set_iterator.__iter__" {pos:=[a]}:=by kernel_rfl
theorem Q6:entryFor PySem.table "set_iterator.__next__"=some PySem.Builtin.«set_iterator.__next__»:=by kernel_rfl
theorem Q8:entryFor PySem.table "set.__iter__"=some PySem.Builtin.«frozenset.__iter__»:=by kernel_rfl
theorem iR:firstArgMember (.type "StopIteration") []=pure .none:=by kernel_rfl
theorem lF:ownMembersOf (.type "StopIteration") []=#[]:=by kernel_rfl
section
variable {prog:Program} {w:World} {A:Around} {E:Value→Shared→Prop} {s:Shared}
theorem Ub {α:Type} {Q:α→Shared→Prop} (hh:A.handled=none) (k:∀h' e,(∀b o,s.heap.get? b=some o→h'.get? b=some o)→Shared.TypeIs {s with heap:=h'} (.ref e) "StopIteration"→E (.ref e) {s with heap:=h'}):
  wpAny (model prog w) A (do
   let x ←newExc (.type "StopIteration") []
   raiseNew x:Sem α) Q E s:=by
 refine wpAny_bind ?_
 unfold newExc
 refine wpAny_bind (wpAny_newTuple ?_ (Nat.zero_le _))
 rw [iR,lF]
 refine wpAny_bind (wpAny_pure (wpAny_newObj_type (wpAny_raiseNew_none hh (k _ _ (fun b o e=>Heap.get?_push_of_some _ (Heap.get?_push_of_some _ e)) ⟨_,Heap.get?_push_size _ rfl,rfl⟩))))
theorem Vw {it:Addr} {Q:Option Value→Shared→Prop} (ty:s.TypeIs (.ref it) "set_iterator")
  (h:wpAny (model prog w) A.in1 (Builtin.«set_iterator.__next__» ⟨[.ref it],[]⟩) (fun fin s'=>∃v,fin=.done (.ret v)∧Q (some v) s') (fun e s'=>s'.TypeIs e "StopIteration"∧Q none s') s):
  wpAny (model prog w) A (pyNext (.ref it)) Q E s:=by
 unfold pyNext
 refine wpAny_bind (wpAny_attempt ?_)
 refine wpAny_callSpecial?_slotG ty W4.toG ?_
 refine wpAny_mono (wpAny_call_entry W4 ty Q6 (Q:=fun v s'=>Q (some v) s') h (Qq _)) (fun v s' q=>wpAny_pure q) (fun e s' q=>?_)
 exact wpAny_bind (wpAny_isInstance q.1 isSubtype_stop (by rw [if_pos rfl];exact wpAny_pure q.2))
abbrev hZ (first:Value) (i:Nat) (a:Addr) (n ep:Nat):Obj:={cls:=.type "set_iterator",data:=.fields #[first,.int i 0,.ref a,.int n 0,.int ep 0]}
theorem R3 {Q:Bool→Shared→Prop} (q:Q (w.params.followText "set-order") s):wpAny (model prog w) A setsByText Q E s:=by
 unfold setsByText
 exact wpAny_bind (wpAny_askSetting (wpAny_pure q))
variable {a:Addr} {o:Obj} {es:Array (Int×Value)} {ep:Nat} {t:SetTable}
theorem P4 {slot given:Nat} {Q:Option (Value×Nat)→Shared→Prop} (ht:w.params.followText "set-order"=true) (ho:s.heap.get? a=some o) (hd:o.data=.set es ep t) (fit:t.fits es.size=true)
  (q:Q ((pickOrder (w.params.setOrder a ep) es)[given]?.map fun e=>(e.2,slot)) s):wpAny (model prog w) A (setNext a slot given ep) Q E s:=by
 unfold setNext
 refine wpAny_bind (wpAny_setState_of ho hd fit ?_)
 refine wpAny_bind (R3 ?_)
 rw [ht,if_pos rfl,if_neg (by simp)]
 refine wpAny_bind ?_
 unfold setWalk
 refine wpAny_bind (wpAny_setState_of ho hd fit ?_)
 refine wpAny_bind (R3 ?_)
 rw [ht,if_pos rfl]
 exact wpAny_bind (wpAny_askSetting (wpAny_pure (wpAny_pure q)))
theorem Rp {slot given:Nat} {Q:Option (Value×Nat)→Shared→Prop} (ht:w.params.followText "set-order"=false) (ho:s.heap.get? a=some o) (hd:o.data=.set es ep t) (fit:t.fits es.size=true) (g:Gd t true)
  (np:(!t.plain && decide (es.size > 1))=false)
  (q:Q (match es[SetTable.below t.place slot]?,t.place[SetTable.below t.place slot]? with
   | some e,some j=>some (e.2,j+1)
   | _,_=>none) s):wpAny (model prog w) A (setNext a slot given ep) Q E s:=by
 unfold setNext
 refine wpAny_bind (wpAny_setState_of ho hd fit ?_)
 refine wpAny_bind (R3 ?_)
 rw [ht,if_neg (by decide)]
 show wpAny _ _ (if (!t.plain && decide (es.size > 1))=true then _ else _) _ _ _
 rw [np,if_neg (by decide)]
 refine wpAny_bind (show wpAny _ _ (if (!t.led && !es.isEmpty)=true then _ else pure ()) _ _ _ from ?_)
 rw [g.led,if_neg (by simp)]
 refine wpAny_pure (wpAny_pure ?_)
 cases h1:es[SetTable.below t.place slot]? with
 | none=>rw [h1] at q;exact q
 | some e=>
  rw [h1] at q
  cases h2:t.place[SetTable.below t.place slot]? with
  | none=>rw [h2] at q;exact q
  | some j=>rw [h2] at q;exact q
theorem iL {place:Nat} {e:Int×Value} {Q:Value→Shared→Prop} (ho:s.heap.get? a=some o) (hd:o.data=.set es ep t) (fit:t.fits es.size=true) (he:es[place]?=some e)
  (q:Q e.2 s):wpAny (model prog w) A (setNextDrawn a place ep) Q E s:=by
 unfold setNextDrawn
 refine wpAny_bind (wpAny_setState_of ho hd fit ?_)
 dsimp only
 rw [if_neg (by simp),he]
 exact wpAny_pure q
theorem Wi {it:Addr} {first:Value} {i:Nat} {Q:PySem.Fin→Shared→Prop} (hit:s.heap.get? it=some (hZ first i a es.size ep)) (ho:s.heap.get? a=some o) (hd:o.data=.set es ep t) (fit:t.fits es.size=true)
  (q:wpAny (model prog w) A (match first with
   | .int slot _=>do
    let r ←setNext a slot.toNat i ep
    match r with
     | some (x,next)=>do
      setField (.ref it) 0 (rawInt next)
      setField (.ref it) 1 (rawInt (i+1))
      ret x
     | none=>do
      setField (.ref it) 2 .none
      let x ←newExc (.type "StopIteration") []
      raiseNew x
   | x=>do
    let y ←seqItems? first
    match y with
     | some places=>
      match places[i]? with
      | some (.int place _)=>do
       let x ←setNextDrawn a place.toNat ep
       setField (.ref it) 1 (rawInt (i+1))
       ret x
      | some val=>unsupported "internal:set_iterator"
      | none=>do
       setField (.ref it) 0 (rawInt 0)
       setField (.ref it) 2 .none
       let x ←newExc (.type "StopIteration") []
       raiseNew x
     | x=>unsupported "internal:set_iterator") Q E s):wpAny (model prog w) A (Builtin.«set_iterator.__next__» ⟨[.ref it],[]⟩) Q E s:=by
 unfold Builtin.«set_iterator.__next__»
 refine wpAny_bind (show wpAny _ _ (pure (Value.ref it,[])) _ _ _ from wpAny_pure ?_)
 refine wpAny_bind (wpAny_fieldsOf hit rfl ?_)
 refine wpAny_bind (wpAny_setEntries_of ho hd fit ?_)
 rw [if_neg (by simp)]
 exact q
end
theorem Uc {α:Type}:∀(l:List α) (i:Nat) (x:α),l[i]?=some x→(x::l.eraseIdx i).Perm l
 | [],i,x,h=>by simp at h
 | a::l,0,x,h=>by
  have e:a=x:=by simpa using h
  subst e
  exact List.Perm.refl _
 | a::l,i+1,x,h=>by
  have ih:=Uc l i x (by simpa using h)
  show (x::a::l.eraseIdx i).Perm (a::l)
  exact (List.Perm.swap a x _).trans (ih.cons a)
theorem jC {α:Type} (next:Nat→Nat):∀(fuel k:Nat) (left:List α) (out:Array α),left.length≤fuel→(pickOrder.go next fuel k left out).toList.Perm (out.toList++left)
 | 0,k,left,out,h=>by
  have e:left=[]:=List.eq_nil_of_length_eq_zero (by omega)
  subst e
  rw [List.append_nil]
  exact List.Perm.refl _
 | fuel+1,k,left,out,h=>by
  show (match left[next k % left.length]? with
   | some x=>pickOrder.go next fuel (k+1) (left.eraseIdx (next k % left.length)) (out.push x)
   | none=>out).toList.Perm _
  cases e:left[next k % left.length]? with
  | none=>
   have l0:left=[]:=by
    cases left with
    | nil=>rfl
    | cons a l=>
     rw [List.getElem?_eq_none_iff] at e
     have:=Nat.mod_lt (next k) (show 0<(a::l).length by simp)
     omega
   subst l0
   rw [List.append_nil]
  | some x=>
   have lt:=(List.getElem?_eq_some_iff.mp e).1
   have ih:=jC next fuel (k+1) (left.eraseIdx (next k % left.length)) (out.push x) (by rw [List.length_eraseIdx_of_lt lt];omega)
   refine ih.trans ?_
   rw [Array.toList_push,List.append_assoc]
   exact (Uc left _ x e).append_left _
theorem Vv {α:Type} (next:Nat→Nat) (xs:Array α):(pickOrder next xs).toList.Perm xs.toList:=by
 have:=jC next xs.size 0 xs.toList #[] (by rw [Array.length_toList];exact Nat.le_refl _)
 show (pickOrder.go next xs.size 0 xs.toList #[]).toList.Perm xs.toList
 simpa using this
section
variable {prog:Program} {w:World} {A:Around} {E:Value→Shared→Prop} {s:Shared}
theorem Q9 {α:Type}:∀(n:Nat) (l:List α) (s:Shared) {Q:List α→Shared→Prop},l.length=n→(∀o d,o.Perm l→Q o {s with drawn:=d})→wpAny (model prog w) A (drawOrder n l) Q E s
 | 0,l,s,Q,h,q=>by
  have e:l=[]:=List.eq_nil_of_length_eq_zero h
  subst e
  exact (wpAny_pure (q [] s.drawn (List.Perm.refl _)):wpAny _ _ (pure []) _ _ _)
 | n+1,[],s,Q,h,q=>by simp at h
 | n+1,a::l,s,Q,h,q=>by
  show wpAny _ _ (choose Source.order (a::l).length >>= fun i=>match (a::l)[i]? with
   | some x=>do
    let r ←drawOrder n ((a::l).eraseIdx i)
    pure (x::r)
   | none=>unsupported "internal:drawOrder") _ _ _
  refine wpAny_bind ?_
  intro Γ p hΓ
  unfold choose
  rw [Sem.wp_choose]
  refine ⟨by simp,?_⟩
  have lt:(model prog w).w.draws Source.order (s.drawn.get Source.order) % (a::l).length<(a::l).length:=Nat.mod_lt _ (by simp)
  generalize (model prog w).w.draws Source.order (s.drawn.get Source.order) % (a::l).length=i at lt ⊢
  obtain ⟨x,hx⟩:∃x,(a::l)[i]?=some x:=⟨_,List.getElem?_eq_getElem lt⟩
  have main:wpAny (model prog w) A (match (a::l)[i]? with
   | some x=>do
    let r ←drawOrder n ((a::l).eraseIdx i)
    pure (x::r)
   | none=>unsupported "internal:drawOrder") Q E {s with drawn:=s.drawn.bump Source.order}:=by
   rw [hx]
   refine wpAny_bind (Q9 n _ _ ?_ fun o d hp=>wpAny_pure (q _ _ ?_))
   ·rw [List.length_eraseIdx_of_lt lt]
    simpa using h
   ·exact (hp.cons x).trans (Uc _ _ _ hx)
  exact main
end
def cN (ps:Array Nat):Nat→Nat
 | 0=>0
 | i+1=>ps.getD i 0+1
theorem n6 {ps:Array Nat} {j b c:Nat} (h1:Cut ps j b) (h2:Cut ps j c):b=c:=by
 have k1:=h1.le
 have k2:=h2.le
 by_cases e:b<c
 ·have x:=h2.lo b (by omega) e
  have y:=h1.hi b (by omega) (Nat.le_refl _)
  omega
 ·by_cases e2:c<b
  ·have x:=h1.lo c (by omega) e2
   have y:=h2.hi c (by omega) (Nat.le_refl _)
   omega
  ·omega
theorem Qf {ps:Array Nat} (h:Ris ps) {i:Nat} (hi:i≤ps.size):SetTable.below ps (cN ps i)=i:=by
 refine n6 (Sc h _) ⟨hi,fun k hk lt=>?_,fun k hk le=>?_⟩
 ·cases i with
  | zero=>omega
  | succ i=>
   have e:cN ps (i+1)=ps[i]'(by omega)+1:=by
    show ps.getD i 0+1=_
    simp [Array.getD,show i<ps.size by omega]
   rw [e]
   by_cases c:k=i
   ·subst c;omega
   ·have:=Uy h (i:=k) (k:=i) (by omega) (by omega)
    omega
 ·cases i with
  | zero=>exact Nat.zero_le _
  | succ i=>
   have e:cN ps (i+1)=ps[i]'(by omega)+1:=by
    show ps.getD i 0+1=_
    simp [Array.getD,show i<ps.size by omega]
   rw [e]
   have:=Uy h (i:=i) (k:=k) (by omega) hk
   omega
theorem Q7:entryFor PySem.table "set_iterator.__iter__"=some PySem.Builtin.«dict_keyiterator.__iter__»:=by kernel_rfl
section
variable {prog:Program} {w:World} {A:Around} {a it:Addr} {o:Obj} {es:Array (Int×Value)} {ep:Nat} {t:SetTable}
theorem Re {first:Value} {i n:Nat} (s:Shared) (Q E:Value→Shared→Prop) (hit:s.heap.get? it=some (hZ first i a n ep)) (q:Q (.ref it) s):wpAny (model prog w) A (pyIter (.ref it)) Q E s:=by
 have ty:s.TypeIs (.ref it) "set_iterator":=⟨_,hit,rfl⟩
 refine wpAny_pyIter_slot ty U1 (wpAny_call_entry U1 ty Q7 ?_ (Qr _))
 unfold Builtin.«dict_keyiterator.__iter__»
 refine wpAny_bind (show wpAny _ _ (pure (Value.ref it,[])) _ _ _ from wpAny_pure ?_)
 exact wpAny_pure ⟨_,rfl,"set_iterator",_,ty,W4.lookup,q⟩
theorem iX (hh:A.handled=none) (hne:a≠it) (ht:w.params.followText "set-order"=false) (hd:o.data=.set es ep t) (fit:t.fits es.size=true) (g:Gd t true) (np:(!t.plain && decide (es.size > 1))=false):
  Walks prog w A it [it,a] [it] es.size (fun i v=>(es.toList.map (·.2))[i]?=some v) (fun i h=>i≤es.size∧h.get? it=some (hZ (.int (cN t.place i:Nat) 0) i a es.size ep)∧h.get? a=some o) where
 sub:=fun b hb=>by rw [List.mem_singleton.mp hb];exact .head _
 frame:=fun i h h' st k=>⟨st.1,k it (.head _) _ st.2.1,k a (.tail _ (.head _)) _ st.2.2⟩
 item:=fun i s Q E hi st q=>by
  obtain ⟨_,hit,ho⟩:=st
  have sz:t.place.size=es.size:=by
   unfold SetTable.fits at fit
   rw [Bool.and_eq_true] at fit
   simpa using fit.1
  refine Vw ⟨_,hit,rfl⟩ (Wi hit ho hd fit ?_)
  refine wpAny_bind (Rp ht ho hd fit g np ?_)
  rw [show ((cN t.place i:Nat):Int).toNat=cN t.place i from rfl,Qf g.ris (by omega),Array.getElem?_eq_getElem hi,Array.getElem?_eq_getElem (by omega)]
  refine wpAny_bind (wpAny_setField_rec hit (by simp) fun h1 e1 sb1=>?_)
  refine wpAny_bind (wpAny_setField_rec e1 (by simp) fun h2 e2 sb2=>?_)
  refine wpAny_pure ⟨_,rfl,q _ h2 s.toks ?_ ⟨by omega,?_,?_⟩ fun b o nb e=>?_⟩
  ·rw [List.getElem?_map,Array.getElem?_toList,Array.getElem?_eq_getElem hi]
   rfl
  ·rw [e2]
   have es1:cN t.place (i+1)=t.place[i]'(by omega)+1:=by
    show t.place.getD i 0+1=_
    simp [Array.getD,show i<t.place.size by omega]
   rw [es1]
   rfl
  ·rw [sb2.2 a hne,sb1.2 a hne]
   exact ho
  ·have ne:b≠it:=fun z=>nb (by rw [z];exact .head _)
   rw [sb2.2 b ne,sb1.2 b ne]
   exact e
 done:=fun s Q E st q=>by
  obtain ⟨_,hit,ho⟩:=st
  have sz:t.place.size=es.size:=by
   unfold SetTable.fits at fit
   rw [Bool.and_eq_true] at fit
   simpa using fit.1
  refine Vw ⟨_,hit,rfl⟩ (Wi hit ho hd fit ?_)
  refine wpAny_bind (Rp ht ho hd fit g np ?_)
  rw [show ((cN t.place es.size:Nat):Int).toNat=cN t.place es.size from rfl,Qf g.ris (by omega),Array.getElem?_eq_none (Nat.le_refl _)]
  refine wpAny_bind (wpAny_setField_rec hit (by simp) fun h1 e1 sb1=>?_)
  refine Ub (by simpa using hh) fun h' e k ty=>⟨ty,q h' s.toks fun b o nb eb=>k b o ?_⟩
  have ne:b≠it:=fun z=>nb (by rw [z];exact .head _)
  show h1.get? b=some o
  rw [sb1.2 b ne]
  exact eb
 self:=fun i s Q E st q=>Re s Q E st.2.1 q
theorem kS (hh:A.handled=none) (hne:a≠it) (ht:w.params.followText "set-order"=true) (hd:o.data=.set es ep t) (fit:t.fits es.size=true):
  Walks prog w A it [it,a] [it] es.size (fun i v=>((pickOrder (w.params.setOrder a ep) es).toList.map (·.2))[i]?=some v) (fun i h=>h.get? it=some (hZ (.int 0 0) i a es.size ep)∧h.get? a=some o) where
 sub:=fun b hb=>by rw [List.mem_singleton.mp hb];exact .head _
 frame:=fun i h h' st k=>⟨k it (.head _) _ st.1,k a (.tail _ (.head _)) _ st.2⟩
 item:=fun i s Q E hi st q=>by
  obtain ⟨hit,ho⟩:=st
  have sz:(pickOrder (w.params.setOrder a ep) es).size=es.size:=by
   have:=(Vv (w.params.setOrder a ep) es).length_eq
   simpa using this
  refine Vw ⟨_,hit,rfl⟩ (Wi hit ho hd fit ?_)
  refine wpAny_bind (P4 ht ho hd fit ?_)
  rw [Array.getElem?_eq_getElem (by omega)]
  refine wpAny_bind (wpAny_setField_rec hit (by simp) fun h1 e1 sb1=>?_)
  refine wpAny_bind (wpAny_setField_rec e1 (by simp) fun h2 e2 sb2=>?_)
  refine wpAny_pure ⟨_,rfl,q _ h2 s.toks ?_ ⟨?_,?_⟩ fun b o nb e=>?_⟩
  ·rw [List.getElem?_map,Array.getElem?_toList,Array.getElem?_eq_getElem (by omega)]
   rfl
  ·rw [e2]
   rfl
  ·rw [sb2.2 a hne,sb1.2 a hne]
   exact ho
  ·have ne:b≠it:=fun z=>nb (by rw [z];exact .head _)
   rw [sb2.2 b ne,sb1.2 b ne]
   exact e
 done:=fun s Q E st q=>by
  obtain ⟨hit,ho⟩:=st
  have sz:(pickOrder (w.params.setOrder a ep) es).size=es.size:=by
   have:=(Vv (w.params.setOrder a ep) es).length_eq
   simpa using this
  refine Vw ⟨_,hit,rfl⟩ (Wi hit ho hd fit ?_)
  refine wpAny_bind (P4 ht ho hd fit ?_)
  rw [Array.getElem?_eq_none (by omega)]
  refine wpAny_bind (wpAny_setField_rec hit (by simp) fun h1 e1 sb1=>?_)
  refine Ub (by simpa using hh) fun h' e k ty=>⟨ty,q h' s.toks fun b o nb eb=>k b o ?_⟩
  have ne:b≠it:=fun z=>nb (by rw [z];exact .head _)
  show h1.get? b=some o
  rw [sb1.2 b ne]
  exact eb
 self:=fun i s Q E st q=>Re s Q E st.1 q
abbrev plO (ord:List Nat):Obj:={cls:=.type "tuple",data:=.seq (ord.map fun i=>rawInt (i:Nat)).toArray}
theorem gY {T:Addr} {ord:List Nat} (hh:A.handled=none) (hne:a≠it) (hT:T≠it) (hp:ord.Perm (List.range es.size)) (hd:o.data=.set es ep t) (fit:t.fits es.size=true):
  Walks prog w A it [it,a,T] [it] es.size (fun i v=>(ord.map fun j=>(es.getD j (0,.none)).2)[i]?=some v) (fun i h=>h.get? it=some (hZ (.ref T) i a es.size ep)∧h.get? a=some o∧h.get? T=some (plO ord)) where
 sub:=fun b hb=>by rw [List.mem_singleton.mp hb];exact .head _
 frame:=fun i h h' st k=>⟨k it (.head _) _ st.1,k a (.tail _ (.head _)) _ st.2.1,k T (.tail _ (.tail _ (.head _))) _ st.2.2⟩
 item:=fun i s Q E hi st q=>by
  obtain ⟨hit,ho,hpl⟩:=st
  have ol:ord.length=es.size:=by rw [hp.length_eq,List.length_range]
  have lt:ord[i]'(by omega)<es.size:=List.mem_range.mp (hp.mem_iff.mp (List.getElem_mem _))
  refine Vw ⟨_,hit,rfl⟩ (Wi hit ho hd fit ?_)
  refine wpAny_bind (wpAny_seqItems hpl rfl ?_)
  have eo:(ord.map fun i=>rawInt (i:Nat)).toArray[i]?=some (.int (ord[i]'(by omega):Nat) 0):=by
   rw [List.getElem?_toArray,List.getElem?_map,List.getElem?_eq_getElem (by omega)]
   rfl
  dsimp only
  rw [eo]
  refine wpAny_bind (iL ho hd fit (place:=(((ord[i]'(by omega):Nat):Int)).toNat) (e:=es[ord[i]'(by omega)]) (by rw [show (((ord[i]'(by omega):Nat):Int)).toNat=ord[i]'(by omega) from rfl,Array.getElem?_eq_getElem lt]) ?_)
  refine wpAny_bind (wpAny_setField_rec hit (by simp) fun h1 e1 sb1=>?_)
  refine wpAny_pure ⟨_,rfl,q _ h1 s.toks ?_ ⟨?_,?_,?_⟩ fun b o nb e=>?_⟩
  ·rw [List.getElem?_map,List.getElem?_eq_getElem (by omega)]
   simp [Array.getD,lt]
  ·rw [e1]
   rfl
  ·rw [sb1.2 a hne]
   exact ho
  ·rw [sb1.2 T hT]
   exact hpl
  ·have ne:b≠it:=fun z=>nb (by rw [z];exact .head _)
   rw [sb1.2 b ne]
   exact e
 done:=fun s Q E st q=>by
  obtain ⟨hit,ho,hpl⟩:=st
  have ol:ord.length=es.size:=by rw [hp.length_eq,List.length_range]
  refine Vw ⟨_,hit,rfl⟩ (Wi hit ho hd fit ?_)
  refine wpAny_bind (wpAny_seqItems hpl rfl ?_)
  have eo:(ord.map fun i=>rawInt (i:Nat)).toArray[es.size]?=none:=by
   rw [List.getElem?_toArray,List.getElem?_map,List.getElem?_eq_none (by omega)]
   rfl
  dsimp only
  rw [eo]
  refine wpAny_bind (wpAny_setField_rec hit (by simp) fun h1 e1 sb1=>?_)
  refine wpAny_bind (wpAny_setField_rec e1 (by simp) fun h2 e2 sb2=>?_)
  refine Ub (by simpa using hh) fun h' e k ty=>⟨ty,q h' s.toks fun b o nb eb=>k b o ?_⟩
  have ne:b≠it:=fun z=>nb (by rw [z];exact .head _)
  show h2.get? b=some o
  rw [sb2.2 b ne,sb1.2 b ne]
  exact eb
 self:=fun i s Q E st q=>Re s Q E st.1 q
end
theorem fc {α β:Type} {F:α→β→Prop} {xs ys:List α} (p:xs.Perm ys):∀{zs:List β},Paired F ys zs→∃zs',zs'.Perm zs∧Paired F xs zs':=by
 induction p with
 | nil=>intro zs h;exact ⟨zs,List.Perm.refl _,h⟩
 | cons x _ ih=>
  intro zs h
  cases h with
  | cons f r=>
   obtain ⟨zs',p,q⟩:=ih r
   exact ⟨_::zs',p.cons _,.cons f q⟩
 | swap x y l=>
  intro zs h
  cases h with
  | cons f r=>
   cases r with
   | cons g r=>
    exact ⟨_,List.Perm.swap _ _ _,.cons g (.cons f r)⟩
 | trans _ _ ih1 ih2=>
  intro zs h
  obtain ⟨z1,p1,q1⟩:=ih2 h
  obtain ⟨z2,p2,q2⟩:=ih1 q1
  exact ⟨z2,p2.trans p1,q2⟩
theorem Rm {α β γ:Type} {F:α→β→Prop} {G:γ→β→Prop} {f:α→γ} (h:∀a b,F a b→G (f a) b):∀{xs:List α} {zs:List β},Paired F xs zs→Paired G (xs.map f) zs
 | _,_,.nil=>.nil
 | _,_,.cons g r=>.cons (h _ _ g) (Rm h r)
def IsK (P:Program) (w:World) (v:Value) (k:Key):Prop:=(af P w).is k v=true
theorem R6 {P:Program} {w:World} {es:List (Int×Value)} {vs:List (Int×Value)} {ks:List Key} (h:∃fs,es.Perm fs∧Paired (ik P w) fs ks) (p:vs.Perm es):∃ks',ks'.Perm ks∧Paired (IsK P w) (vs.map (·.2)) ks':=by
 obtain ⟨fs,p1,m⟩:=h
 obtain ⟨ks',p2,q⟩:=fc (p.trans p1) m
 exact ⟨ks',p2,Rm (fun _ _ z=>z.1) q⟩
section
variable {prog:Program} {w:World} {A:Around} {E:Value→Shared→Prop} {s:Shared} {a:Addr} {ks:List Key}
theorem on {Q:Value→Shared→Prop} (G:cK prog w s.heap a ks) (hb:ks.length≤sizeLine)
  (q:∀(it:Addr) (h':Heap) (d:Drawn) (vs:List Value) (fp:List Addr) (St:Nat→Heap→Prop),s.heap.objs.size≤it→(∀b o,s.heap.get? b=some o→h'.get? b=some o)→(∀b∈fp,b=a∨s.heap.objs.size≤b)→
   (∀A':Around,A'.handled=none→Walks prog w A' it fp [it] ks.length (fun i v=>vs[i]?=some v) St)→St 0 h'→vs.length=ks.length→(∃ks',ks'.Perm ks∧Paired (IsK prog w) vs ks')→Q (.ref it) {s with heap:=h',drawn:=d}):
  wpAny (model prog w) A (pyIter (.ref a)) Q E s:=by
 obtain ⟨o,es,ep,t,ho,hex,hd,hf,fit,gd,nd⟩:=G
 have len:=Sa hf
 rw [Array.length_toList] at len
 have lta:a<s.heap.objs.size:=Heap.lt_size ho
 have ty:s.TypeIs (.ref a) "set":=⟨o,ho,hex.1⟩
 refine wpAny_pyIter_slot ty PySem.F.slot_set_iter (wpAny_call_entry PySem.F.slot_set_iter ty Q8 ?_ (PySem.F.args_set_iter_1 _))
 unfold Builtin.«frozenset.__iter__»
 refine wpAny_bind (show wpAny _ _ (pure a) _ _ _ from wpAny_pure ?_)
 unfold Builtin.Frozenset.sizeOf
 refine wpAny_bind (wpAny_bind (wpAny_setEntries_of ho hd fit (wpAny_pure ?_)))
 unfold setDrawn
 refine wpAny_bind (wpAny_bind (wpAny_setState_of ho hd fit (wpAny_bind (R3 (wpAny_pure ?_)))))
 show wpAny _ _ (if (!w.params.followText "set-order" && (!t.plain && decide (es.size > 1)))=true then _ else _) _ _ _
 have fin:∀(first:Value) (s1:Shared) (it:Addr),it=s1.heap.objs.size→s1.heap.get? a=some o→(∀b o,s.heap.get? b=some o→s1.heap.get? b=some o)→s.heap.objs.size≤it→s1={s with heap:=s1.heap,drawn:=s1.drawn}→
   (∀h',h'=s1.heap.push (hZ first 0 a es.size ep)→∃(vs:List Value) (fp:List Addr) (St:Nat→Heap→Prop),(∀b∈fp,b=a∨s.heap.objs.size≤b)∧
   (∀A':Around,A'.handled=none→Walks prog w A' it fp [it] es.size (fun i v=>vs[i]?=some v) St)∧St 0 h'∧vs.length=ks.length∧(∃ks',ks'.Perm ks∧Paired (IsK prog w) vs ks'))→
   wpAny (model prog w) A.in1 (do
    let e ←setEpoch a
    let x ←newFields "set_iterator" [first,rawInt 0,.ref a,rawInt es.size,rawInt e]
    ret x) (fun fin s'=>∃v,fin=.done (.ret v)∧∃T' r,s'.TypeIs v T'∧typeLookup (.type T') (Str.ofString "__next__")=pure (some r)∧Q v s') E s1:=by
  intro first s1 it hit ho1 kp le es1 hw
  refine wpAny_bind (wpAny_setEpoch_of ho1 hd fit ?_)
  unfold newFields
  refine wpAny_bind (wpAny_newObj_type ?_)
  obtain ⟨vs,fp,St,h1,h2,h3,h4,h5⟩:=hw _ rfl
  refine wpAny_pure ⟨_,rfl,"set_iterator",_,⟨_,Heap.get?_push_size _ rfl,rfl⟩,W4.lookup,?_⟩
  rw [es1,←hit]
  rw [len] at h2
  exact q it _ s1.drawn vs fp St le (fun b o e=>Heap.get?_push_of_some _ (kp b o e)) h1 h2 h3 h4 h5
 by_cases ht:w.params.followText "set-order"=true
 ·rw [ht]
  rw [if_neg (by simp)]
  refine wpAny_bind (wpAny_pure ?_)
  refine fin (rawInt 0) s s.heap.objs.size rfl ho (fun _ _ e=>e) (Nat.le_refl _) rfl fun h' eh=>?_
  subst eh
  refine ⟨(pickOrder (w.params.setOrder a ep) es).toList.map (·.2),[s.heap.objs.size,a],_,?_,fun A' hA=>kS hA (Nat.ne_of_lt lta) ht hd fit,⟨Heap.get?_push_size _ rfl,Heap.get?_push_of_some _ ho⟩,?_,R6 hf (Vv _ _)⟩
  ·intro b hb
   rcases List.mem_cons.mp hb with rfl | hb
   ·exact .inr (Nat.le_refl _)
   ·exact .inl (List.mem_singleton.mp hb)
  ·rw [List.length_map,(Vv _ _).length_eq,Array.length_toList,len]
 ·have ht:w.params.followText "set-order"=false:=Bool.eq_false_iff.mpr ht
  rw [ht] at gd ⊢
  by_cases hdr:(!t.plain && decide (es.size > 1))=true
  ·rw [hdr,if_pos (by decide)]
   refine wpAny_bind (Q9 es.size (List.range es.size) s (List.length_range) fun ord d hp=>?_)
   have ol:ord.length=es.size:=by rw [hp.length_eq,List.length_range]
   refine wpAny_bind (wpAny_newTuple ?_ (by rw [List.length_map];omega))
   refine fin (.ref s.heap.objs.size) _ (s.heap.objs.size+1) (by simp [Heap.size_push]) (Heap.get?_push_of_some _ ho) (fun b o e=>Heap.get?_push_of_some _ e) (by omega) rfl fun h' eh=>?_
   subst eh
   have hpe:(ord.map fun j=>es.getD j (0,.none)).Perm es.toList:=by
    have e:es.toList=(List.range es.size).map fun j=>es.getD j (0,.none):=by
     refine List.ext_getElem? fun i=>?_
     rw [Array.getElem?_toList,List.getElem?_map]
     by_cases hi:i<es.size
     ·rw [Array.getElem?_eq_getElem hi,List.getElem?_range hi]
      simp [Array.getD,hi]
     ·rw [Array.getElem?_eq_none (by omega),List.getElem?_eq_none (by rw [List.length_range];omega)]
      rfl
    rw [e]
    exact hp.map _
   have v:=R6 hf hpe
   rw [List.map_map] at v
   refine ⟨ord.map fun j=>(es.getD j (0,.none)).2,[s.heap.objs.size+1,a,s.heap.objs.size],_,?_,fun A' hA=>gY (it:=s.heap.objs.size+1) (T:=s.heap.objs.size) hA (Nat.ne_of_lt (Nat.lt_succ_of_lt lta)) (Nat.ne_of_lt (Nat.lt_succ_self _)) hp hd fit,⟨?_,Heap.get?_push_of_some _ (Heap.get?_push_of_some _ ho),Heap.get?_push_of_some _ (Heap.get?_push_size _ rfl)⟩,?_,v⟩
   ·intro b hb
    rcases List.mem_cons.mp hb with rfl | hb
    ·exact .inr (by omega)
    ·rcases List.mem_cons.mp hb with rfl | hb
     ·exact .inl rfl
     ·rw [List.mem_singleton.mp hb]
      exact .inr (Nat.le_refl _)
   ·have:=Heap.get?_push_size (h:=s.heap.push (plO ord)) (o:=hZ (.ref s.heap.objs.size) 0 a es.size ep) rfl
    rw [Heap.size_push] at this
    exact this
   ·rw [List.length_map,ol,len]
  ·have hdr:=Bool.eq_false_iff.mpr hdr
   rw [hdr,if_neg (by simp)]
   refine wpAny_bind (wpAny_pure ?_)
   refine fin (rawInt 0) s s.heap.objs.size rfl ho (fun _ _ e=>e) (Nat.le_refl _) rfl fun h' eh=>?_
   subst eh
   refine ⟨es.toList.map (·.2),[s.heap.objs.size,a],_,?_,fun A' hA=>iX hA (Nat.ne_of_lt lta) ht hd fit gd hdr,⟨Nat.zero_le _,Heap.get?_push_size _ rfl,Heap.get?_push_of_some _ ho⟩,?_,R6 hf (List.Perm.refl _)⟩
   ·intro b hb
    rcases List.mem_cons.mp hb with rfl | hb
    ·exact .inr (Nat.le_refl _)
    ·exact .inl (List.mem_singleton.mp hb)
   ·rw [List.length_map,Array.length_toList,len]
theorem R4 {α:Type} {M:Model} {c:Bool} {X Y:Sem α} {Q:α→Shared→Prop} (h:c=true) (q:wpAny M A X Q E s):wpAny M A (if c=true then X else Y) Q E s:=by
 rw [if_pos h];exact q
theorem nP {Q:Bool→Shared→Prop} (ty:s.TypeIs (.ref a) "set") (q:Q false s):wpAny (model prog w) A (Builtin.List.listLengthHint (.ref a)) Q E s:=by
 have k1:typeLookup (.type "set") (Str.ofString "__len__")=pure (some (.builtin "set.__len__")):=by kernel_rfl
 have k2:splitId "set.__len__"=some ("set","__len__"):=by kernel_rfl
 have k3:isSubtype (.type "set") (.type "set")=pure true:=PySem.F.called_set.sub
 unfold Builtin.List.listLengthHint
 refine wpAny_bind (wpAny_specialOf ty k1 ?_)
 dsimp only
 rw [k2]
 refine wpAny_bind (wpAny_isInstance ty k3 ?_)
 rw [if_neg (by decide)]
 refine R4 (by kernel_rfl) (wpAny_bind (wpAny_typeOf ty ?_))
 exact wpAny_pure q
theorem qH:(Value.type "set" == Value.type "list")=false:=by decide
theorem tL:(Value.type "set" == Value.type "tuple")=false:=by decide
theorem ic {S:Addr} {res:Value} {c₀:Nat} {R:Result→Shared→Prop} (G:cK prog w s.heap a ks) (hh:A.handled=none) (hb:ks.length≤sizeLine) (hS:S≠a) (eS:s.heap.get? S=some {cls:=.type "list",data:=.seq #[] c₀})
  (q:∀(g:Heap) (tk:Nat) (d:Drawn) (xs:Array Value) (c:Nat),(∀b o,b≠S→s.heap.get? b=some o→g.get? b=some o)→g.get? S=some {cls:=.type "list",data:=.seq xs c}→(∃ks',ks'.Perm ks∧Paired (IsK prog w) xs.toList ks')→R (.ok (.ret res)) {s with heap:=g,toks:=tk,drawn:=d}):
  wpAny (model prog w) A.in1 (Builtin.List.listExtendWith (.ref S) (.ref a) res) (fun fin s'=>match fin with
   | .done f=>R (.ok f) s'
   | .again c'=>c'.quiet=true∧codeAny (model prog w) A c' R s') (fun e s'=>R (.error e) s') s:=by
 have ty:s.TypeIs (.ref a) "set":=by
  obtain ⟨o,es,ep,t,ho,hex,_⟩:=G
  exact ⟨o,ho,hex.1⟩
 unfold Builtin.List.listExtendWith
 refine wpAny_bind (wpAny_typeOf ty ?_)
 have sm:Builtin.List.listSameRef (.ref S) (.ref a)=false:=by
  unfold Builtin.List.listSameRef
  simpa using hS
 rw [sm,qH,tL,if_neg (by decide)]
 refine wpAny_bind (on G hb fun it h1 d vs fp St le kp hf W st len pk=>?_)
 refine wpAny_bind (wpAny_holding (nP (s:={s with heap:=h1,drawn:=d}) ?_ ?_))
 ·obtain ⟨o,e,c⟩:=ty
  exact ⟨o,kp _ _ e,c⟩
 have lS:S<s.heap.objs.size:=Heap.lt_size eS
 have nS:S∉fp:=fun hm=>by
  rcases hf S hm with z | z
  ·exact hS z
  ·exact absurd lS (Nat.not_lt.mpr z)
 have hA:A.in1.handled=none:=by simpa using hh
 have loop:∀(s2:Shared) (c:Nat),St 0 s2.heap→s2.heap.get? S=some {cls:=.type "list",data:=.seq #[] c}→(∀b o,b≠S→h1.get? b=some o→s2.heap.get? b=some o)→s2={s with heap:=s2.heap,drawn:=d}→
   codeAny (model prog w) A (.builtin "list.extend.loop" ⟨[.ref S,.ref it,res],[]⟩) R s2:=by
  intro s2 c st2 e2 k2 es2
  refine codeAny_extend_loopS (W A.in1 hA).toS hb S nS res ks.length 0 s2 #[] c (by omega) (Nat.zero_le _) st2 e2 (ItemsOf.nil _) fun s' xs c' mv eS' hx=>?_
  have ex:s'={s with heap:=s'.heap,toks:=s'.toks,drawn:=d}:=by
   have h1:=mv.gens
   have h2:=mv.drawn
   have h3:=mv.os
   rw [es2] at h1 h2 h3
   obtain ⟨a1,a2,a3,a4,a5⟩:=s'
   simp only at h1 h2 h3
   subst h1 h2 h3
   rfl
  have vx:xs.toList=vs:=by
   refine List.ext_getElem? fun j=>?_
   obtain ⟨sz,at_⟩:=hx
   rw [Array.getElem?_toList]
   by_cases hj:j<xs.size
   ·have:=at_ j xs[j] (Array.getElem?_eq_getElem hj)
    rw [Array.getElem?_eq_getElem hj,this]
   ·rw [Array.getElem?_eq_none (by omega),List.getElem?_eq_none (by omega)]
  rw [ex]
  refine q s'.heap s'.toks d xs c' (fun b o nb e=>mv.heap b o ?_ (k2 b o nb (kp b o e))) eS' (by rw [vx];exact pk)
  intro hm
  rcases List.mem_cons.mp hm with z | z
  ·exact nb z
  ·have:=List.mem_singleton.mp z
   have l2:b<s.heap.objs.size:=Heap.lt_size e
   rw [this] at l2
   exact absurd l2 (Nat.not_lt.mpr le)
 refine R4 (by kernel_rfl) (wpAny_bind (wpAny_rule ?_))
 unfold Builtin.List.listTouch
 have u1:=get?_update_seq (c:="list") (kp _ _ eS) (fun x=>x.push Value.none)
 have u2:=get?_update_seq (c:="list") u1 (fun x=>x.pop)
 refine wpAny_bind (wpAny_bind (listUpdate_at (kp _ _ eS) rfl (listUpdate_at u1 rfl ?_ (by simp [sizeLine_eq]) (by simp)) (by simp) (by simp [sizeLine_eq])))
 obtain ⟨c2,u3⟩:∃c2,((h1.update S (Obj.mapSeq fun x=>x.push Value.none)).update S (Obj.mapSeq fun x=>x.pop)).get? S=some {cls:=.type "list",data:=.seq #[] c2}:=⟨_,u2⟩
 have k2:∀b o,b≠S→h1.get? b=some o→((h1.update S (Obj.mapSeq fun x=>x.push Value.none)).update S (Obj.mapSeq fun x=>x.pop)).get? b=some o:=fun b o nb e=>by
  rw [Heap.get?_update_ne _ _ _ _ nb,Heap.get?_update_ne _ _ _ _ nb]
  exact e
 refine wpAny_pure ⟨plainId_quiet PySem.F.plain_extend_loop _,loop _ c2 ((W A.in1 hA).frame 0 _ _ st fun b hb o e=>k2 b o (fun z=>nS (by rw [←z];exact hb)) e) u3 k2 rfl⟩
def sV (P:Program) (w:World) (s:Shared) (ks:List Key) (q:Result) (s':Shared):Prop:=
 ∃(g:Heap) (tk c:Nat) (d:Drawn) (xs:Array Value),q=.ok (.ret (.ref s.heap.objs.size))∧s'={s with heap:=g,toks:=tk,drawn:=d}∧(∀b o,s.heap.get? b=some o→g.get? b=some o)∧g.get? s.heap.objs.size=some {cls:=.type "list",dict:=none,data:=.seq xs c,slots:=#[]}∧(∃ks',ks'.Perm ks∧Paired (IsK P w) xs.toList ks')
theorem So {R:List Value→Shared→Prop} (G:cK prog w s.heap a ks) (hh:A.handled=none) (hb:ks.length≤sizeLine)
  (h:∀(g:Heap) (tk:Nat) (d:Drawn) (xs:Array Value),(∀b o,s.heap.get? b=some o→g.get? b=some o)→s.heap.objs.size<g.objs.size→(∃ks',ks'.Perm ks∧Paired (IsK prog w) xs.toList ks')→R xs.toList {s with heap:=g,toks:=tk,drawn:=d}):wpAny (model prog w) A (collect (.ref a)) R E s:=by
 have lt1:a<s.heap.objs.size:=by
  obtain ⟨o,es,ep,t,ho,_⟩:=G
  exact Heap.lt_size ho
 unfold collect
 refine wpAny_bind (wpAny_runValue (codeAny_builtin entry_proto_collect' ?_));rw [Around.under_plainId PySem.F.plain_proto_collect _]
 refine wpAny_bind (m:=newList []) (wpAny_newObj_type (wpAny_pure ⟨plainId_quiet PySem.F.plain_list_iadd _,codeAny_builtin entry_list_iadd' ?_⟩));rw [Around.under_plainId PySem.F.plain_list_iadd _]
 have own:(s.heap.push {cls:=.type "list",data:=.seq ([]:List Value).toArray}).get? s.heap.objs.size=some {cls:=.type "list",data:=.seq #[]}:=Heap.get?_push_size _ rfl
 have run:=ic (A:=A) (s:={s with heap:=s.heap.push {cls:=.type "list",data:=.seq ([]:List Value).toArray}}) (R:=sV prog w s ks) (Ww G fun o e=>Heap.get?_push_of_some _ e) hh hb (Nat.ne_of_gt lt1) (res:=.ref s.heap.objs.size) own
  (fun g tk d xs c hk hS hx=>⟨g,tk,c,d,xs,rfl,rfl,fun b o e=>hk b o (Nat.ne_of_lt (Heap.lt_size e)) (Heap.get?_push_of_some _ e),hS,hx⟩)
 refine wpAny_mono run (fun fin s' y=>?_) (fun _ _ y=>by obtain ⟨_,_,_,_,_,e,_⟩:=y;cases e)
 cases fin with
 | done f=>
  obtain ⟨g,tk,c,d,xs,e,rfl,hk,hS,hx⟩:=y
  cases e
  exact wpAny_bind (m:=load s.heap.objs.size) (wpAny_load hS (wpAny_pure (h g tk d xs hk (Heap.lt_size hS) hx)))
 | again c1=>
  refine ⟨y.1,codeAny_mono y.2 fun q s2 z=>?_⟩
  obtain ⟨g,tk,c,d,xs,rfl,rfl,hk,hS,hx⟩:=z
  exact wpAny_bind (m:=load s.heap.objs.size) (wpAny_load hS (wpAny_pure (h g tk d xs hk (Heap.lt_size hS) hx)))
end
theorem Inv.drawnAs {X:Cx} {pins:List (Addr×Obj)} {σ:St} {H:Hp} {s:Shared} (I:Inv X pins σ H s) (d:Drawn):Inv X pins σ H {s with drawn:=d}:=
 I.call (h':=s.heap) (g':=s.gens) (t':=s.toks) (d':=d) (ch:=[]) Un.refl I.hok I.bare (fun _ z=>nomatch z)
theorem Sf {P:Program} {w:World}:∀{vs:List Value} {ks:List Key},Paired (IsK P w) vs ks→(∀k∈ks,∃z,k=Sum.inr z)→∃zs:List Str,ks=zs.map Sum.inr∧StrsAre vs zs
 | _,_,.nil,_=>⟨[],rfl,.nil⟩
 | _,_,.cons f r,h=>by
  obtain ⟨z,rfl⟩:=h _ (.head _)
  obtain ⟨zs,rfl,q⟩:=Sf r fun k hk=>h k (.tail _ hk)
  obtain ⟨t,rfl⟩:=gK f
  exact ⟨z::zs,rfl,.cons z t q⟩
theorem Sg {P:Program} {w:World}:∀{vs:List Value} {ks:List Key},Paired (IsK P w) vs ks→(∀k∈ks,∃z,k=Sum.inl z)→∃ns:List Int,ks=ns.map Sum.inl∧IntsAre vs ns
 | _,_,.nil,_=>⟨[],rfl,.nil⟩
 | _,_,.cons f r,h=>by
  obtain ⟨z,rfl⟩:=h _ (.head _)
  obtain ⟨ns,rfl,q⟩:=Sg r fun k hk=>h k (.tail _ hk)
  obtain ⟨t,rfl⟩:=gK f
  exact ⟨z::ns,rfl,.cons z t q⟩
theorem lU {xs ys:List Str} (h:(xs.map (Sum.inr:Str→Key)).Perm (ys.map Sum.inr)):xs.Perm ys:=by
 have:=h.filterMap Sum.getRight?
 rw [List.filterMap_map,List.filterMap_map] at this
 simpa [Function.comp_def] using this
theorem lK {xs ys:List Int} (h:(xs.map (Sum.inl:Int→Key)).Perm (ys.map Sum.inl)):xs.Perm ys:=by
 have:=h.filterMap Sum.getLeft?
 rw [List.filterMap_map,List.filterMap_map] at this
 simpa [Function.comp_def] using this
section
variable {X:Cx}
def pY (P:Program) (w:World):List V→Hp→VK→Prop:=fun xs H Q=>∃(d:Addr) (zs:List Str),xs=[.ref d]∧H d=some (cI P w d (zs.map Sum.inr))∧zs.length<64∧∀p,H p=none→Q (.ref p) (upd H p (.lst ((bi zs).map V.str)))
theorem Sq (hc:X.calm=true):CallR X (.builtin "sorted") (pY X.prog X.w):=by
 intro pins s σ H xs us Q I rx h
 obtain ⟨d,zs,rfl,hd,h64,q⟩:=h
 obtain ⟨u,rfl,ru⟩:=Xo rx
 cases ru
 have G:cK X.prog X.w s.heap d (zs.map Sum.inr):=(I.hok d _ hd).1
 have hh:X.A.in1.handled=none:=by simpa using I.ok.hd hc
 refine Calls.call_function_entry kind_sorted plain_sorted entry_sorted (args_sorted1 _) ?_
 unfold Builtin.«sorted»
 refine wpAny_bind (m:=checkCount "sorted" 1 1 _) (wpAny_pure ?_)
 refine wpAny_bind (So (A:=X.A.in1) G hh (Zb (by rw [List.length_map];omega)) fun g tk dr acc hk hsz hacc=>?_)
 obtain ⟨ks',pk,pr⟩:=hacc
 obtain ⟨zs',rfl,hS⟩:=Sf pr fun k hk=>by
  obtain ⟨z,_,rfl⟩:=List.mem_map.mp (pk.mem_iff.mp hk)
  exact ⟨z,rfl⟩
 have pz:=lU pk
 have al:acc.toList.length=zs.length:=by
  have e1:=Paired.length pr
  rw [List.length_map] at e1
  rw [e1,pz.length_eq]
 refine wpAny_bind (wpAny_newList ?_ (by exact Zb (by omega)))
 have hoL:(g.push (seqObj "list" acc.toList.toArray 0)).get? g.objs.size=some (seqObj "list" acc.toList.toArray 0):=Heap.get?_push_size _ rfl
 refine wpAny_bind (wpAny_holding (wpAny_call_entry slot_list_sort ⟨_,hoL,rfl⟩ entry_list_sort (list_sort_treeK strKind_oneLt hoL hS.keysOf (fun v1 v2 rest e=>keyKind_strs (by rw [←e];exact hS)) (by omega) fun st' b1 b2=>⟨_,rfl,?_⟩) (args_list_sort _)))
 refine wpAny_pure ⟨_,rfl,?_⟩
 obtain ⟨ss,a1,a2,a3⟩:=sorted_out_str hS b1 b2
 have ess:=O8 (a2.trans pz) a3
 subst ess
 obtain ⟨e2,he2⟩:=sortedHeap_at (vs:=acc.toList) (out:=(arrOf st').map (·.2)) hoL
 have hz:s.heap.objs.size≤g.objs.size:=Nat.le_of_lt hsz
 refine ⟨.ref g.objs.size,_,(I.drawnAs dr).laid (t':=tk) (o:=.lst ((bi zs).map V.str)) (fun b o e=>?_) hz ?_,rfl,q _ (I.hok.fresh hz)⟩
 ·have e':=hk b o e
  have hlt:=Heap.lt_size e'
  rw [sortedHeap_old (Nat.ne_of_lt hlt) (by rw [size_push'];exact Nat.lt_succ_of_lt hlt)]
  exact Heap.get?_push_of_some _ e'
 ·refine ⟨?_,((arrOf st').map (·.2)).toList,e2,Vs a1,by rw [Array.toArray_toList];exact he2⟩
  rw [List.length_map,(Zv zs).length_eq]
  exact Zb (by omega)
def qE (P:Program) (w:World):List V→Hp→VK→Prop:=fun xs H Q=>∃(d:Addr) (ns:List Int),xs=[.ref d]∧H d=some (cI P w d (ns.map Sum.inl))∧ns.length<64∧∀p,H p=none→Q (.ref p) (upd H p (.lst ((dR ns).map V.int)))
theorem gc (hc:X.calm=true):CallR X (.builtin "sorted") (qE X.prog X.w):=by
 intro pins s σ H xs us Q I rx h
 obtain ⟨d,ns,rfl,hd,h64,q⟩:=h
 obtain ⟨u,rfl,ru⟩:=Xo rx
 cases ru
 have G:cK X.prog X.w s.heap d (ns.map Sum.inl):=(I.hok d _ hd).1
 have hh:X.A.in1.handled=none:=by simpa using I.ok.hd hc
 refine Calls.call_function_entry kind_sorted plain_sorted entry_sorted (args_sorted1 _) ?_
 unfold Builtin.«sorted»
 refine wpAny_bind (m:=checkCount "sorted" 1 1 _) (wpAny_pure ?_)
 refine wpAny_bind (So (A:=X.A.in1) G hh (Zb (by rw [List.length_map];omega)) fun g tk dr acc hk hsz hacc=>?_)
 obtain ⟨ks',pk,pr⟩:=hacc
 obtain ⟨ns',rfl,hS⟩:=Sg pr fun k hk=>by
  obtain ⟨z,_,rfl⟩:=List.mem_map.mp (pk.mem_iff.mp hk)
  exact ⟨z,rfl⟩
 have pz:=lK pk
 have al:acc.toList.length=ns.length:=by
  have e1:=Paired.length pr
  rw [List.length_map] at e1
  rw [e1,pz.length_eq]
 refine wpAny_bind (wpAny_newList ?_ (by exact Zb (by omega)))
 have hoL:(g.push (seqObj "list" acc.toList.toArray 0)).get? g.objs.size=some (seqObj "list" acc.toList.toArray 0):=Heap.get?_push_size _ rfl
 refine wpAny_bind (wpAny_holding (wpAny_call_entry slot_list_sort ⟨_,hoL,rfl⟩ entry_list_sort (list_sort_tree hoL hS (by omega) fun out ms a1 a2 a3=>⟨_,rfl,?_⟩) (args_list_sort _)))
 refine wpAny_pure ⟨_,rfl,?_⟩
 have ess:=jY (a2.trans pz) a3
 subst ess
 obtain ⟨e2,he2⟩:=sortedHeap_at (vs:=acc.toList) (out:=out) hoL
 have hz:s.heap.objs.size≤g.objs.size:=Nat.le_of_lt hsz
 refine ⟨.ref g.objs.size,_,(I.drawnAs dr).laid (t':=tk) (o:=.lst ((dR ns).map V.int)) (fun b o e=>?_) hz ?_,rfl,q _ (I.hok.fresh hz)⟩
 ·have e':=hk b o e
  have hlt:=Heap.lt_size e'
  rw [sortedHeap_old (Nat.ne_of_lt hlt) (by rw [size_push'];exact Nat.lt_succ_of_lt hlt)]
  exact Heap.get?_push_of_some _ e'
 ·refine ⟨?_,out.toList,e2,Wu a1,by rw [Array.toArray_toList];exact he2⟩
  rw [List.length_map,(Xe ns).length_eq]
  exact Zb (by omega)
end
def dn (zs:List Str):List Str:=(ddK [] (zs.map Sum.inr)).filterMap Sum.getRight?
def eQ (ns:List Int):List Int:=(ddK [] (ns.map Sum.inl)).filterMap Sum.getLeft?
theorem Te (zs:List Str):ddK [] (zs.map Sum.inr)=(dn zs).map Sum.inr:=by
 have h:∀k∈ddK [] (zs.map (Sum.inr:Str→Key)),∃z,k=Sum.inr z:=fun k hk=>by
  rcases (Td _ _ _).mp hk with q | q
  ·exact nomatch q
  ·obtain ⟨z,_,rfl⟩:=List.mem_map.mp q
   exact ⟨z,rfl⟩
 unfold dn
 generalize ddK [] (zs.map (Sum.inr:Str→Key))=l at h ⊢
 induction l with
 | nil=>rfl
 | cons k l ih=>
  obtain ⟨z,rfl⟩:=h k (.head _)
  rw [List.filterMap_cons]
  show Sum.inr z::l=Sum.inr z::_
  rw [←ih fun k hk=>h k (.tail _ hk)]
theorem R1 (ns:List Int):ddK [] (ns.map Sum.inl)=(eQ ns).map Sum.inl:=by
 have h:∀k∈ddK [] (ns.map (Sum.inl:Int→Key)),∃z,k=Sum.inl z:=fun k hk=>by
  rcases (Td _ _ _).mp hk with q | q
  ·exact nomatch q
  ·obtain ⟨z,_,rfl⟩:=List.mem_map.mp q
   exact ⟨z,rfl⟩
 unfold eQ
 generalize ddK [] (ns.map (Sum.inl:Int→Key))=l at h ⊢
 induction l with
 | nil=>rfl
 | cons k l ih=>
  obtain ⟨z,rfl⟩:=h k (.head _)
  rw [List.filterMap_cons]
  show Sum.inl z::l=Sum.inl z::_
  rw [←ih fun k hk=>h k (.tail _ hk)]
theorem R8 {zs:List Str} {z:Str}:z∈dn zs↔z∈zs:=by
 have h:=Td (zs.map Sum.inr) [] (Sum.inr z:Key)
 rw [Te,List.mem_map,List.mem_map] at h
 constructor
 ·intro q
  rcases h.mp ⟨z,q,rfl⟩ with e | ⟨y,hy,e⟩
  ·exact nomatch e
  ·cases e;exact hy
 ·intro q
  obtain ⟨y,hy,e⟩:=h.mpr (.inr ⟨z,q,rfl⟩)
  cases e;exact hy
theorem N1 {ns:List Int} {z:Int}:z∈eQ ns↔z∈ns:=by
 have h:=Td (ns.map Sum.inl) [] (Sum.inl z:Key)
 rw [R1,List.mem_map,List.mem_map] at h
 constructor
 ·intro q
  rcases h.mp ⟨z,q,rfl⟩ with e | ⟨y,hy,e⟩
  ·exact nomatch e
  ·cases e;exact hy
 ·intro q
  obtain ⟨y,hy,e⟩:=h.mpr (.inr ⟨z,q,rfl⟩)
  cases e;exact hy
theorem jP (zs:List Str):(dn zs).Nodup:=by
 have h:=gU (zs.map (Sum.inr:Str→Key)) [] List.nodup_nil
 rw [Te] at h
 exact List.Pairwise.of_map Sum.inr (fun a b hab e=>hab (by rw [e])) h
theorem oU (ns:List Int):(eQ ns).Nodup:=by
 have h:=gU (ns.map (Sum.inl:Int→Key)) [] List.nodup_nil
 rw [R1] at h
 exact List.Pairwise.of_map Sum.inl (fun a b hab e=>hab (by rw [e])) h
theorem N0 (zs:List Str):(dn zs).length≤zs.length:=by
 have h:=R0 (zs.map (Sum.inr:Str→Key)) []
 rw [Te,List.length_map,List.length_map,List.length_nil] at h
 omega
theorem N2 (ns:List Int):(eQ ns).length≤ns.length:=by
 have h:=R0 (ns.map (Sum.inl:Int→Key)) []
 rw [R1,List.length_map,List.length_map,List.length_nil] at h
 omega
section
variable {X:Cx}
theorem Pq (hc:X.calm=true):CallR X (.type "set") (fun xs H Q=>∃(p:Addr) (zs:List Str),xs=[.ref p]∧SqL X.K H p (zs.map V.str)∧zs.length<4000∧∀a,H a=none→Q (.ref a) (upd H a (cI X.prog X.w a ((dn zs).map Sum.inr)))):=by
 intro pins s σ H xs us Q I r h
 obtain ⟨p,zs,rfl,hq,hz,q⟩:=h
 refine Pr hc pins s σ H _ us Q I r ⟨p,zs.map Sum.inr,rfl,?_,by rw [List.length_map];exact hz,fun a na=>?_⟩
 ·rw [List.map_map];exact hq
 ·rw [Te];exact q a na
theorem kD (hc:X.calm=true):CallR X (.type "set") (fun xs H Q=>∃(p:Addr) (ns:List Int),xs=[.ref p]∧SqL X.K H p (ns.map V.int)∧ns.length<4000∧∀a,H a=none→Q (.ref a) (upd H a (cI X.prog X.w a ((eQ ns).map Sum.inl)))):=by
 intro pins s σ H xs us Q I r h
 obtain ⟨p,ns,rfl,hq,hz,q⟩:=h
 refine Pr hc pins s σ H _ us Q I r ⟨p,ns.map Sum.inl,rfl,?_,by rw [List.length_map];exact hz,fun a na=>?_⟩
 ·rw [List.map_map];exact hq
 ·rw [R1];exact q a na
end
section
variable {X:Cx} {pins:List (Addr×Obj)} {σ:St} {H:Hp} {s:Shared}
def rL (w:Addr→Addr→HO):V→List V→Hp→VK→Prop:=fun x vs H Q=>∃d kvs,x=.ref d∧vs=[]∧Rd H d (.dK kvs)∧∀a,H a=none→Q (.ref a) (upd H a (w a d))
theorem iN:MtR X "dict.values" (rL cy):=by
 intro pins s σ H x vs v us Q I rx rv h
 obtain ⟨d,kvs,rfl,rfl,hd,q⟩:=h
 cases rx
 cases rv
 obtain ⟨_,lo,ws,_,hD⟩:=Pk I.hok hd
 refine call_meetsIn PySem.F.slot_dict_values hD.typeIs PySem.F.entry_dict_values (PySem.F.args_dict_values_1 _) (meets_dict_values (af X.prog X.w) d lo) ⟨⟨ws,hD⟩,?_⟩
 refine ⟨.ref s.heap.objs.size,_,I.laid (t':=s.toks) (o:=cy s.heap.objs.size d) (fun b o e=>Heap.get?_push_of_some _ e) (Nat.le_refl _) ?_,rfl,q _ (I.hok.fresh (Nat.le_refl _))⟩
 exact ⟨⟨_,Heap.get?_push_size _ rfl,rfl,rfl⟩,⟨_,Heap.get?_push_size _ rfl⟩,fun h1 h2 ⟨o,ho,r⟩ k=>⟨o,k o ho,r⟩⟩
def uo (to:TE):TE:=fun σ H Q=>to σ H fun x H1=>∃d kvs,x=.ref d∧Rd H1 d (.dK kvs)∧∀a,H1 a=none→Q (.ref a) (upd H1 a (cy a d))
theorem pF {o:Expr} {to:TE} {apos cpos:Pos} (ho:PE X o to) (hbase:attributeBase o "values" X.env (eval o X.env)=eval o X.env:=by rfl) (hline:(apos.endLine == cpos.line)=true:=by rfl):PE X (.Call (.Attribute o "values" apos) [] [] cpos) (uo to):=by
 intro pins s σ H Q I h
 refine wpAny_Call_method0_late hbase hline (thn (ho pins s σ H _ I h) fun v s1 hpat=>?_)
 obtain ⟨x,H1,I1,r1,q1⟩:=hpat
 obtain ⟨d,kvs,rfl,hd,q⟩:=q1
 obtain rfl:v=Value.ref d:=r1
 obtain ⟨t1,t2,_⟩:=oH I1 (.inl ⟨kvs,hd⟩)
 refine ⟨"dict","dict.values",PySem.F.plainAttrs_dict,PySem.F.slot_dict_values,PySem.F.type_dict_values,t1,?_,Calls.callWith_builtin rfl (PySem.evalArgs_none (iN pins s1 σ H1 (.ref d) [] (.ref d) [] Q I1 rfl .nil ⟨d,kvs,rfl,rfl,hd,q⟩))⟩
 first | exact t2 | exact fun a e=>by cases e;exact t2
def Itv (d:Addr) (kvs:List (Key×V)) (o:Obj):It:=⟨fun i H=>i<kvs.length∧H d=some (.frz o (.dK kvs)),fun i H x H'=>H'=H∧∃p,kvs[i]?=some p∧x=p.2,fun i H=>kvs.length≤i∧H d=some (.frz o (.dK kvs))⟩
theorem kP {P:Program} {w:World} {K:W.Frag} {tg:Expr} {d it:Addr} {kvs:List (Key×V)} {o:Obj} {ws:List (Key×Value)} {ep:Nat} (kv:KV kvs ws) (hat:∀h:Heap,h.get? d=some o→h.DictAt (af P w) d ws ep):
  Turn P w K tg (Itv d kvs o) [it] it (fun i h=>h.IsValIter it d i ws.length ep) where
 mem:=by simp
 obj:=fun i h st b hb=>by
  obtain ⟨q,e,c,dd⟩:=st
  have z:b=it:=by simpa using hb
  subst z
  exact ⟨q,e,fun v z=>by rw [dd] at z;cases z⟩
 keep:=fun i h h' st k=>st.at fun q e=>k it (by simp) q e
 item:=by
  intro X hP hw hK hc i pins s σ H E I hf st hg
  subst hP hw hK
  obtain ⟨hi,hd⟩:=hg
  obtain ⟨ho,_⟩:=I.hok d _ hd
  have kl:=kv.length
  obtain ⟨f0,f1,f2,f3,f4,f5⟩:=hf it (by simp)
  have e1:kvs[i]?=some kvs[i]:=by simp [hi]
  have e2:ws[i]?=some ws[i]:=by simp
  obtain ⟨r1,r2⟩:=KV.get kv e1 e2
  refine wpAny_pyNext_values_item st (hat _ ho) (k:=ws[i].1) (v:=ws[i].2) e2 fun h' st' sb=>?_
  obtain ⟨q,e,c,dd⟩:=id st'
  have I1:Inv X pins σ H {s with heap:=h'}:=I.turned (t':=s.toks) (fun b ob hb eb=>(sb.2 b hb).trans eb) f0 f1 f3 f4 f5
  exact ⟨_,rfl,Pf (s:={s with heap:=h'}) e c dd (by decide) ⟨kvs[i].2,H,I1,r2,⟨rfl,_,e1,rfl⟩,st',fun b hb=>(hf b hb).1⟩⟩
 done:=by
  intro X hP hw hK hc i pins s σ H E I hf st hg
  subst hP hw hK
  obtain ⟨hi,hd⟩:=hg
  obtain ⟨ho,_⟩:=I.hok d _ hd
  have kl:=kv.length
  obtain ⟨f0,f1,f2,f3,f4,f5⟩:=hf it (by simp)
  exact wpAny_pyNext_values_end (I.ok.hd hc) st (hat _ ho) (by simp;omega) fun h' eb=>⟨rfl,I.turned (t':=s.toks) (fun b ob hb e=>eb b ob hb e) f0 f1 f3 f4 f5⟩
 self:=fun _ _ _ _ _ st h=>wpAny_pyIter_valiter st h
def uf (tl:TE):TI:=fun σ H R=>tl σ H fun x H1=>∃(v d:Addr) (o:Obj) (kvs:List (Key×V)),x=.ref v∧H1 v=some (cy v d)∧H1 d=some (.frz o (.dK kvs))∧R (Itv d kvs o) H1
theorem p_ {tg l:Expr} {tl:TE} (hl:PE X l tl):PI X tg l (uf tl):=by
 intro pins s σ H R I h
 refine thn (hl pins s σ H _ I h) fun v s1 hpat=>?_
 obtain ⟨x,H1,I1,r1,q1⟩:=hpat
 obtain ⟨vw,d,o,kvs,rfl,hv,hd,q⟩:=q1
 cases r1
 obtain ⟨ho,z,lo,ws,kv,hD⟩:=(show ObjOk X.prog X.w H1 s1.heap d (.frz o (.dK kvs)) from I1.hok d _ hd)
 obtain ⟨view,_⟩:=(show ObjOk X.prog X.w H1 s1.heap vw (cy vw d) from I1.hok vw _ hv)
 obtain ⟨ep,hat⟩:=hD.dictAt
 have all:∀g:Heap,g.get? d=some o→g.DictAt (af X.prog X.w) d ws ep:=fun g e=>hat.at' fun o' e'=>by
  rw [ho] at e'
  cases e'
  exact e
 refine wpAny_pyIter_values view hat ⟨s1.heap.objs.size,[s1.heap.objs.size],_,_,H1,rfl,I1.kept (t':=s1.toks) (fun b ob e=>Heap.get?_push_of_some _ e),kP kv all,⟨_,Heap.get?_push_size _ rfl,rfl,rfl⟩,fun b hb=>?_,q⟩
 have e:b=s1.heap.objs.size:=by simpa using hb
 subst e
 exact I1.fpOk (Nat.le_refl _) (I1.hok.fresh (Nat.le_refl _))
theorem ke {d:Addr} {o:Obj} {kvs:List (Key×V)} {k:Nat} {g:TG} {tt:TT} {te:TE} {σ:St} {H:Hp} {Q:VK} (Pv:Nat→List V→Hp→Prop) (h0:Pv 0 [] H) (hl:∀i ys H,Pv i ys H→H d=some (.frz o (.dK kvs)))
  (hs:∀i p ys H (C:List V→Hp→Prop),kvs[i]?=some p→Pv i ys H→(∀ys' H',Pv (i+1) ys' H'→C ys' H')→ys.length<sizeLine∧g p.2 (List.replicate k none++σ) H fun σ2 H2=>Wk σ2 (List.replicate k none++σ)∧tt σ2 H2 fun ok H3=>
   if ok=true then te σ2 H3 fun y H4=>C (ys++[y]) H4 else C ys H3)
  (hd:∀ys H,Pv kvs.length ys H→ys.length≤sizeLine∧∀p,H p=none→Q (.ref p) (upd H p (.lst ys))):CompR (Itv d kvs o) H k g tt te σ Q:=by
 refine ⟨fun i m ys H=>m=kvs.length - i∧i≤kvs.length∧Pv i ys H,⟨kvs.length,by simp,Nat.zero_le _,h0⟩,?_⟩
 rintro i m ys H ⟨rfl,hi,p⟩
 have q:=hl i ys H p
 by_cases hlt:i<kvs.length
 ·have r:=hs i kvs[i] ys H (fun ys' H'=>∃m',m'<kvs.length - i∧m'=kvs.length - (i+1)∧i+1≤kvs.length∧Pv (i+1) ys' H') (by simp [hlt]) p fun ys' H' p'=>⟨_,by omega,rfl,hlt,p'⟩
  refine .inr ⟨⟨hlt,q⟩,r.1,fun v H' y=>?_⟩
  obtain ⟨e,p',hp',rfl⟩:=y
  subst e
  have ep:kvs[i]=p':=by simpa [hlt] using hp'
  rw [←ep]
  exact r.2
 ·have e:i=kvs.length:=by omega
  subst e
  exact .inl ⟨⟨Nat.le_refl _,q⟩,hd ys H p⟩
def tj:List V→Hp→VK→Prop:=fun xs H Q=>∃(v d:Addr) (kvs:List (Key×V)) (ns:List Int),xs=[.ref v]∧H v=some (cy v d)∧H d=some (.dK kvs)∧kvs.map (·.2)=ns.map V.int∧ns.length<64∧∀p,H p=none→Q (.ref p) (upd H p (.lst ((dR ns).map V.int)))
theorem hW (hc:X.calm=true):CallR X (.builtin "sorted") tj:=by
 intro pins s σ H xs us Q I rx h
 obtain ⟨v,d,kvs,ns,rfl,hv,hd,hns,h64,q⟩:=h
 obtain ⟨u,rfl,ru⟩:=Xo rx
 cases ru
 obtain ⟨_,lo,es,kv,hD⟩:=Sm I.hok hd
 obtain ⟨view,_⟩:=(show ObjOk X.prog X.w H s.heap v (cy v d) from I.hok v _ hv)
 obtain ⟨ep,hat⟩:=hD.dictAt
 have hI:IntsAre (es.map (·.2)) ns:=Uo (by rw [←hns];exact U8 kv)
 have hl:es.length=ns.length:=by
  have e1:=hI.length
  rw [List.length_map] at e1
  exact e1
 have hh:X.A.in1.handled=none:=by simpa using I.ok.hd hc
 refine Calls.call_function_entry kind_sorted plain_sorted entry_sorted (args_sorted1 _) ?_
 unfold Builtin.«sorted»
 refine wpAny_bind (m:=checkCount "sorted" 1 1 _) (wpAny_pure ?_)
 refine wpAny_bind (Sn (A:=X.A.in1) (W.kdl_values (knd:=af X.prog X.w) (r:=v) (kvs:=es) (ep:=ep)) hh ⟨view,hat⟩ (Zb (by omega)) fun h' tk acc hk hsz hacc=>?_)
 have ea:acc.toList=es.map (·.2):=W.kdl_vals_eq acc.toList (by rw [Array.length_toList];exact hacc.1) fun j u e=>hacc.2 j u (by rw [←Array.getElem?_toList];exact e)
 rw [ea]
 have hlen:(es.map (·.2)).length<64:=by rw [List.length_map];omega
 refine wpAny_bind (wpAny_newList ?_ (by exact Zb (by omega)))
 have hoL:(h'.push (seqObj "list" (es.map (·.2)).toArray 0)).get? h'.objs.size=some (seqObj "list" (es.map (·.2)).toArray 0):=Heap.get?_push_size _ rfl
 refine wpAny_bind (wpAny_holding (wpAny_call_entry slot_list_sort ⟨_,hoL,rfl⟩ entry_list_sort (list_sort_tree hoL hI hlen fun out ns' a1 a2 a3=>⟨_,rfl,?_⟩) (args_list_sort _)))
 refine wpAny_pure ⟨_,rfl,?_⟩
 have ess:=jY a2 a3
 subst ess
 obtain ⟨e2,he2⟩:=sortedHeap_at (vs:=es.map (·.2)) (out:=out) hoL
 have hz:s.heap.objs.size≤h'.objs.size:=Nat.le_of_lt hsz
 refine ⟨.ref h'.objs.size,_,I.laid (t':=tk) (o:=.lst ((dR ns).map V.int)) (fun b o e=>?_) hz ?_,rfl,q _ (I.hok.fresh hz)⟩
 ·have e':=hk b o e
  have hlt:=Heap.lt_size e'
  rw [sortedHeap_old (Nat.ne_of_lt hlt) (by rw [size_push'];exact Nat.lt_succ_of_lt hlt)]
  exact Heap.get?_push_of_some _ e'
 ·refine ⟨?_,out.toList,e2,Wu a1,by simpa using he2⟩
  rw [List.length_map,(Xe ns).length_eq]
  exact Zb (by omega)
end
abbrev Bn:=List Str×Int
def bnD (b:Bn):PyData:=.tuple [.tuple (b.1.map PyData.str),.int b.2]
def ii (bs:List Bn):PyData:=.list (bs.map bnD)
def bT (room:Int) (ps qs:Ps):List Int:=dR (eQ ((ah ps qs).map fun z=>min (ax ps qs z) (aF room ps qs)))
def aC (ps qs:Ps) (v:Int):List Str:=(bi (ah ps qs)).filter fun z=>decide (v≤ax ps qs z)
def ut (ps qs:Ps) (l:List Int) (i:Nat):Bn:=(aC ps qs (l.getD i 0),l.getD i 0 - (0::l).getD i 0)
def fq (ps qs:Ps) (l:List Int) (n:Nat):List Bn:=(List.range n).map (ut ps qs l)
def aR (a b:Ty):List Bn:=if aF a.room a.cs b.cs=0 then [] else fq a.cs b.cs (bT a.room a.cs b.cs) (bT a.room a.cs b.cs).length
theorem kQ (ps qs:Ps) (l:List Int) (n:Nat):fq ps qs l (n+1)=fq ps qs l n++[ut ps qs l n]:=by
 unfold fq
 rw [List.range_succ,List.map_append]
 rfl
theorem Qe (ps qs:Ps) (l:List Int) (n:Nat):(fq ps qs l n).length=n:=by unfold fq;rw [List.length_map,List.length_range]
theorem Rs (room:Int) (ps qs:Ps):(bT room ps qs).length≤(ah ps qs).length:=by
 unfold bT
 rw [(Xe _).length_eq]
 have:=N2 ((ah ps qs).map fun z=>min (ax ps qs z) (aF room ps qs))
 rw [List.length_map] at this
 exact this
theorem O6 {a b:Ty} (h:a.Ok) (g:b.Ok) {z:Str} (hz:z∈ah a.cs b.cs):1≤ax a.cs b.cs z:=by
 have n1:=T9 (fun p hp=>h.pos p hp) z
 have n2:=T9 (fun p hp=>g.pos p hp) z
 unfold ax
 rcases Yp.mp hz with q | q
 ·have:=T8 (fun p hp=>h.pos p hp) h.nd q
  omega
 ·have:=T8 (fun p hp=>g.pos p hp) g.nd q
  omega
theorem mM {a b:Ty} (h:a.Ok) (g:b.Ok):0≤aF a.room a.cs b.cs:=by
 have r0:=h.room1
 unfold aF
 by_cases c:a.room<((ah a.cs b.cs).map (ax a.cs b.cs)).length
 ·obtain ⟨c1,_,e,hm,_⟩:=W2 (by omega) c
  rw [e]
  obtain ⟨z,hz,rfl⟩:=List.mem_map.mp hm
  have:=O6 h g hz
  omega
 ·unfold eC
  rw [if_pos (by omega)]
  exact Int.le_refl _
theorem Rt {a b:Ty} {v:Int} (hv:v∈bT a.room a.cs b.cs):∃z∈ah a.cs b.cs,v=min (ax a.cs b.cs z) (aF a.room a.cs b.cs):=by
 unfold bT at hv
 have:=N1.mp ((Xe _).mem_iff.mp hv)
 obtain ⟨z,hz,e⟩:=List.mem_map.mp this
 exact ⟨z,hz,e.symm⟩
theorem Ol {a b:Ty} (h:a.Ok) (g:b.Ok) (c:aF a.room a.cs b.cs≠0) {v:Int} (hv:v∈bT a.room a.cs b.cs):0<v:=by
 obtain ⟨z,hz,rfl⟩:=Rt hv
 have:=O6 h g hz
 have:=mM h g
 omega
theorem nA {a b:Ty} (h:a.Ok) (g:b.Ok) (c:aF a.room a.cs b.cs=0) {v:Int} (hv:v∈bT a.room a.cs b.cs):v=0:=by
 obtain ⟨z,hz,rfl⟩:=Rt hv
 have:=O6 h g hz
 omega
theorem qB {room:Int} {ns:List Int} (h0:0≤room):atI ((List.replicate (room+1).toNat (V.int 0)++(dR ns).map V.int).reverse) room=some (.int (eC room ns)):=by
 have e:((room.toNat:Nat):Int)=room:=by omega
 rw [←e]
 refine Vb ?_
 rw [List.reverse_append,←List.map_reverse,mq]
 by_cases c:room<ns.length
 ·obtain ⟨c1,e1,e2,_⟩:=W2 h0 c
  have lt:room.toNat<((srt ns).map V.int).length:=by rw [List.length_map,(W7 ns).length_eq];omega
  rw [List.getElem?_append_left lt,List.getElem?_map,e1,e,e2]
  rfl
 ·rw [List.getElem?_append_right (by rw [List.length_map,(W7 ns).length_eq];omega),List.reverse_replicate,List.getElem?_replicate,if_pos (by rw [List.length_map,(W7 ns).length_eq];omega)]
  unfold eC
  rw [if_pos (by omega)]
theorem ff {a b:Ty} (h:a.Ok) (g:b.Ok) {v:Int} {z:Str} (hz:z∈aC a.cs b.cs v):z∈words:=by
 have:=(Zv _).mem_iff.mp (List.mem_filter.mp hz).1
 rcases Yp.mp this with q | q
 ·obtain ⟨p,hp,rfl⟩:=List.mem_map.mp q
  exact h.word p hp
 ·obtain ⟨p,hp,rfl⟩:=List.mem_map.mp q
  exact g.word p hp
def BnW (b:Bn):Prop:=(∀z∈b.1,z∈words)∧b.1.length≤40
theorem om {a b:Ty} (h:a.Ok) (g:b.Ok):∀x∈aR a b,BnW x:=fun x hx=>by
 unfold aR at hx
 split at hx
 ·exact nomatch hx
 ·unfold fq at hx
  obtain ⟨i,_,rfl⟩:=List.mem_map.mp hx
  refine ⟨fun z hz=>ff h g hz,?_⟩
  show (aC a.cs b.cs _).length≤40
  have l1:=List.length_filter_le (fun z=>decide ((bT a.room a.cs b.cs).getD i 0≤ax a.cs b.cs z)) (bi (ah a.cs b.cs))
  have l2:=(Zv (ah a.cs b.cs)).length_eq
  have l3:=W0 a.cs b.cs
  have l4:=h.len
  have l5:=g.len
  have l6:=h.room2
  have l7:=g.room2
  unfold aC
  omega
theorem Vr {a b:Ty} (h:a.Ok) (g:b.Ok):(aR a b).length≤40:=by
 unfold aR
 split
 ·exact Nat.zero_le _
 ·rw [Qe]
  have l1:=Rs a.room a.cs b.cs
  have l3:=W0 a.cs b.cs
  have l4:=h.len
  have l5:=g.len
  have l6:=h.room2
  have l7:=g.room2
  omega
inductive BnsAt (H:Hp):List V→List Bn→Prop
 | nil:BnsAt H [] []
 | cons {a c:Addr} {xs:List V} {b:Bn} {bs:List Bn} (h:H a=some (.tup [.ref c,.int b.2])) (e:H c=some (.tup (b.1.map V.str))) (r:BnsAt H xs bs):BnsAt H (.ref a::xs) (b::bs)
theorem BnsAt.mono {H H':Hp} (g:Same H H'):∀{xs:List V} {bs:List Bn},BnsAt H xs bs→BnsAt H' xs bs
 | _,_,.nil=>.nil
 | _,_,.cons h e r=>.cons (g _ _ h) (g _ _ e) (r.mono g)
theorem BnsAt.append {H:Hp}:∀{xs ys:List V} {bs cs:List Bn},BnsAt H xs bs→BnsAt H ys cs→BnsAt H (xs++ys) (bs++cs)
 | _,_,_,_,.nil,s=>s
 | _,_,_,_,.cons h e r,s=>.cons h e (r.append s)
theorem BnsAt.length {H:Hp}:∀{xs:List V} {bs:List Bn},BnsAt H xs bs→xs.length=bs.length
 | _,_,.nil=>rfl
 | _,_,.cons _ _ r=>congrArg (·+1) r.length
theorem N8 {H:Hp}:∀zs:List Str,DVs H (zs.map V.str) (zs.map PyData.str)
 | []=>.nil
 | z::zs=>.cons (.str z) (N8 zs)
theorem BnsAt.dvs {H:Hp}:∀{xs:List V} {bs:List Bn},BnsAt H xs bs→DVs H xs (bs.map bnD)
 | _,_,.nil=>.nil
 | _,_,.cons (b:=b) h e r=>.cons (.tup h (.cons (.tup e (N8 b.1)) (.cons (.int _) .nil))) r.dvs
theorem BnsAt.get {H:Hp}:∀{xs:List V} {bs:List Bn},BnsAt H xs bs→∀{i:Nat} {x:V},xs[i]?=some x→∃(a c:Addr) (b:Bn),x=.ref a∧bs[i]?=some b∧H a=some (.tup [.ref c,.int b.2])∧H c=some (.tup (b.1.map V.str))
 | _,_,.nil,i,x,hx=>by simp at hx
 | _,_,.cons (a:=a) (c:=c) (b:=b) h e r,0,x,hx=>by
  have:V.ref a=x:=by simpa using hx
  subst this
  exact ⟨a,c,b,rfl,rfl,h,e⟩
 | _,_,.cons h e r,i+1,x,hx=>by
  obtain ⟨a,c,b,h1,h2,h3,h4⟩:=r.get (i:=i) (x:=x) (by simpa using hx)
  exact ⟨a,c,b,h1,by simpa using h2,h3,h4⟩
def PapAt (H:Hp) (p:Addr) (bs:List Bn):Prop:=∃xs,H p=some (.lst xs)∧BnsAt H xs bs
theorem PapAt.mono {H H':Hp} {p:Addr} {bs:List Bn} (h:PapAt H p bs) (g:Same H H'):PapAt H' p bs:=by
 obtain ⟨xs,e,r⟩:=h
 exact ⟨xs,g _ _ e,r.mono g⟩
theorem PapAt.dv {H:Hp} {p:Addr} {bs:List Bn} (h:PapAt H p bs):DV H (.ref p) (ii bs):=by
 obtain ⟨xs,e,r⟩:=h
 exact .lst e r.dvs
end L2
namespace K18
open PySem L2
theorem se (i j:Int):(if j<i then j else i)=min i j:=by omega
theorem ie {H2:Hp} {d v p:Addr} {kvs:List (Key×V)} {o:Obj} {t u:HO} (ed:H2 d=some (.dK kvs)) (nv:upd H2 d (.frz o (.dK kvs)) v=none) (np:upd (upd H2 d (.frz o (.dK kvs))) v t p=none):
  d≠p∧H2 p=none∧upd (upd (upd (upd H2 d (.frz o (.dK kvs))) v t) p u) d (.dK kvs) p=some u∧Same H2 (upd (upd (upd (upd H2 d (.frz o (.dK kvs))) v t) p u) d (.dK kvs)):=by
 have nvd:d≠v:=Zs Ze nv
 have nHv:H2 v=none:=by rw [Zl (Ne.symm nvd)] at nv;exact nv
 have npv:p≠v:=fun z=>by rw [z,Ze] at np;cases np
 rw [Zl npv] at np
 have npd:d≠p:=Zs Ze np
 have nH:H2 p=none:=by rw [Zl (Ne.symm npd)] at np;exact np
 refine ⟨npd,nH,by rw [Zl (Ne.symm npd)];exact Ze,fun b w e=>?_⟩
 by_cases hbd:b=d
 ·subst hbd
  rw [ed] at e
  cases e
  exact Ze
 ·rw [Zl hbd,Zl (Zs e nH),Zl (Zs e nHv),Zl hbd]
  exact e
end K18
namespace L2
open PySem
def tRun (X:Cx) (ss:List Stmt):TS:=fun D σ H=>∃t:TS,PSs X ss t∧t D σ H
theorem V3 {X:Cx} {ss:List Stmt}:PSs X ss (tRun X ss):=fun pins s σ H D I ⟨_,h,q⟩=>h pins s σ H D I q
section
variable {K:W.Frag} {a:Addr} {xs:List V} {g:TG} {tb:TS} {D:Ends} {σ:St} {H:Hp}
theorem kR (Pv:Nat→St→Hp→Prop) (h0:Pv 0 σ H) (hl:∀i σ H,i≤xs.length→Pv i σ H→SqL K H a xs)
  (hs:∀i x σ H (N B:St→Hp→Prop) (R:VK),(∀σ' H',Pv (i+1) σ' H'→N σ' H')→(∀v H',D.rt v H'→R v H')→xs[i]?=some x→Pv i σ H→g x σ H fun σ2 H2=>tb {nx:=N,rt:=R,bk:=B,ct:=N} σ2 H2) (hd:∀σ H,Pv xs.length σ H→D.nx σ H):
  ∃W:Nat→Nat→St→Hp→Prop,(∃m,W 0 m σ H)∧∀i m σ H,W i m σ H→
   ((Itl K a).stop i H∧D.nx σ H)∨((Itl K a).go i H∧∃N:St→Hp→Prop,(∀σ' H',N σ' H'→∃m',m'<m∧W (i+1) m' σ' H')∧∀x H',(Itl K a).yld i H x H'→g x σ H' fun σ2 H2=>tb {D with nx:=N,ct:=N,bk:=D.nx} σ2 H2):=
 W9 Pv h0 hl (fun i x σ H hx p=>hs i x σ H _ _ _ (fun _ _ q=>q) (fun _ _ q=>q) hx p) hd
theorem oz (Pv:Nat→St→Hp→Prop) (h0:Pv 0 σ H) (hl:∀i σ H,i≤xs.length→Pv i σ H→SqT K H a xs)
  (hs:∀i x σ H (N B:St→Hp→Prop) (R:VK),(∀σ' H',Pv (i+1) σ' H'→N σ' H')→(∀v H',D.rt v H'→R v H')→xs[i]?=some x→Pv i σ H→g x σ H fun σ2 H2=>tb {nx:=N,rt:=R,bk:=B,ct:=N} σ2 H2) (hd:∀σ H,Pv xs.length σ H→D.nx σ H):
  ∃W:Nat→Nat→St→Hp→Prop,(∃m,W 0 m σ H)∧∀i m σ H,W i m σ H→
   ((Itt K a).stop i H∧D.nx σ H)∨((Itt K a).go i H∧∃N:St→Hp→Prop,(∀σ' H',N σ' H'→∃m',m'<m∧W (i+1) m' σ' H')∧∀x H',(Itt K a).yld i H x H'→g x σ H' fun σ2 H2=>tb {D with nx:=N,ct:=N,bk:=D.nx} σ2 H2):=
 Sz Pv h0 hl (fun i x σ H hx p=>hs i x σ H _ _ _ (fun _ _ q=>q) (fun _ _ q=>q) hx p) hd
end
theorem Yr {α:Type} {n:Nat} {P:List α→Prop} (h:∀a r,r.length=n→P (a::r)):∀us:List α,us.length=n+1→P us:=fun us e=>by
 cases us with
 | nil=>cases e
 | cons a r=>exact h a r (Nat.succ.inj e)
theorem Ta {α:Type} {P:List α→Prop} (h:P []):∀us:List α,us.length=0→P us:=fun us e=>by
 cases us with
 | nil=>exact h
 | cons a r=>cases e
theorem Fun.b1 {K:W.Frag} {x qual:Str} {st:Stmt} {f:Addr} {fd:FuncData} {p0:Str} (F:Fun K x qual st f fd) (h:∀(kV doc pm:Value) (an:Option Addr) (cdv ct u0:Value),bindArgs (W.fnOf x qual (ao st) (aj st) (aa st) .none kV doc pm an cdv ct) ⟨[u0],[]⟩=pure [(p0,u0)]):Binds K fd [p0] []:=F.binds fun kV doc pm an cdv ct=>Yr fun u0=>Ta (h kV doc pm an cdv ct u0)
theorem Fun.b2 {K:W.Frag} {x qual:Str} {st:Stmt} {f:Addr} {fd:FuncData} {p0 p1:Str} (F:Fun K x qual st f fd) (h:∀(kV doc pm:Value) (an:Option Addr) (cdv ct u0 u1:Value),bindArgs (W.fnOf x qual (ao st) (aj st) (aa st) .none kV doc pm an cdv ct) ⟨[u0,u1],[]⟩=pure [(p0,u0),(p1,u1)]):Binds K fd [p0,p1] []:=F.binds fun kV doc pm an cdv ct=>Yr fun u0=>Yr fun u1=>Ta (h kV doc pm an cdv ct u0 u1)
theorem Fun.b3 {K:W.Frag} {x qual:Str} {st:Stmt} {f:Addr} {fd:FuncData} {p0 p1 p2:Str} (F:Fun K x qual st f fd) (h:∀(kV doc pm:Value) (an:Option Addr) (cdv ct u0 u1 u2:Value),bindArgs (W.fnOf x qual (ao st) (aj st) (aa st) .none kV doc pm an cdv ct) ⟨[u0,u1,u2],[]⟩=pure [(p0,u0),(p1,u1),(p2,u2)]):Binds K fd [p0,p1,p2] []:=F.binds fun kV doc pm an cdv ct=>Yr fun u0=>Yr fun u1=>Yr fun u2=>Ta (h kV doc pm an cdv ct u0 u1 u2)
theorem Fun.b4 {K:W.Frag} {x qual:Str} {st:Stmt} {f:Addr} {fd:FuncData} {p0 p1 p2 p3:Str} (F:Fun K x qual st f fd) (h:∀(kV doc pm:Value) (an:Option Addr) (cdv ct u0 u1 u2 u3:Value),bindArgs (W.fnOf x qual (ao st) (aj st) (aa st) .none kV doc pm an cdv ct) ⟨[u0,u1,u2,u3],[]⟩=pure [(p0,u0),(p1,u1),(p2,u2),(p3,u3)]):Binds K fd [p0,p1,p2,p3] []:=F.binds fun kV doc pm an cdv ct=>Yr fun u0=>Yr fun u1=>Yr fun u2=>Yr fun u3=>Ta (h kV doc pm an cdv ct u0 u1 u2 u3)
theorem Fun.b5 {K:W.Frag} {x qual:Str} {st:Stmt} {f:Addr} {fd:FuncData} {p0 p1 p2 p3 p4:Str} (F:Fun K x qual st f fd) (h:∀(kV doc pm:Value) (an:Option Addr) (cdv ct u0 u1 u2 u3 u4:Value),bindArgs (W.fnOf x qual (ao st) (aj st) (aa st) .none kV doc pm an cdv ct) ⟨[u0,u1,u2,u3,u4],[]⟩=pure [(p0,u0),(p1,u1),(p2,u2),(p3,u3),(p4,u4)]):Binds K fd [p0,p1,p2,p3,p4] []:=F.binds fun kV doc pm an cdv ct=>Yr fun u0=>Yr fun u1=>Yr fun u2=>Yr fun u3=>Yr fun u4=>Ta (h kV doc pm an cdv ct u0 u1 u2 u3 u4)
end L2
namespace K18
open PySem L2
def iA:Sp:=fun vs H Q _=>∃(r q:Addr) (a b:Ty),vs=[.ref r,.ref q]∧DV H (.ref r) a.D∧DV H (.ref q) b.D∧a.Ok∧b.Ok∧a.room=b.room∧∀(p t l:Addr) H',Same H H'→H' p=some (.tup [.ref t,.ref l])→DV H' (.ref t) (dh a b).D→H l=none→PapAt H' l (aR a b)→Q (.ref p) H'
theorem qo (k:Nat) (x:V):(List.replicate k [x]).flatten=List.replicate k x:=by
 induction k with
 | zero=>rfl
 | succ k ih=>rw [List.replicate_succ,List.flatten_cons,ih,List.replicate_succ];rfl
theorem We {H H':Hp} {p:Addr} (g:Same H H') (n:H' p=none):H p=none:=by
 by_cases z:H p=none
 ·exact z
 ·obtain ⟨u,hu⟩:=Option.ne_none_iff_exists'.mp z
  rw [g _ _ hu] at n
  cases n
section
variable {P:Program} {w:World} {K:W.Frag} {mg:Str→Option Value} {base:Heap} {f:Addr} {fd:FuncData}
theorem qu (bO:mg "dict"=none) (aL:mg "sorted"=none) (ay:mg "tuple"=none) (dE:mg "set"=none) (lI:mg "min"=none)
  (F:Fun K "_law_merged" "_law_merged" bJ f fd):FnOk P w K mg base CX0 1 f fd ["_law_one","_law_other"] iA:=by
 refine F.ok Yn (fun vs H Q E h=>?_) (fun cdv A outer s H vs Q E hr h=>?_)
 ·obtain ⟨r,q,a,b,rfl,_⟩:=h
  rfl
 obtain ⟨r,q,a,b,rfl,ha,hb,oka,okb,rm,hq⟩:=h
 obtain ⟨_,b1,rows1,e0,ea,eb1,pa1⟩:=DV.ty_inv ha
 cases e0
 obtain ⟨_,b2,rows2,e0,eb,eb2,pa2⟩:=DV.ty_inv hb
 cases e0
 have nda:=oka.nd
 have ndb:=okb.nd
 have la:=oka.len
 have lb:=okb.len
 have ra:=oka.room2
 have r0:=oka.room1
 have kl1:=Ye a.cs
 refine ⟨_,(@Z3 _ _ _ _ _ (@Zj _ _ 2 _ _ _ _ Yn.nd rfl (Or.inr rfl) (Y5 (Va rfl) rfl bO PyProof.Rows.boot_dict (@Z0 _ _ _ _ _ (@Y0 _ _ _ _ _ _ _ Yl (pv 0) Z2 (fun _ _=>rfl)) Z1 (by rfl))) (by rfl) (by first | exact .inl rfl | exact .inr rfl)) V3),?_⟩
 refine ⟨_,rfl,_,_,_,_,rfl,rfl,SqT.of ea,rfl,b1,rows1,_,rfl,eb1,pa1,by omega,?_⟩
 rw [Um (by rw [Wy];exact gW nda)]
 have gg:Same H H:=fun _ _ h=>h
 intro d n_d
 generalize hz:upd _ d _=H1
 have gz:=Zc hz n_d
 have e_d:=Zi hz
 clear hz
 have gg:=gg.trans gz
 refine ⟨_,(@Z3 _ _ _ _ _ (Xx PassesOwn.never rfl (Xk (@Y0 _ _ _ _ _ _ _ Yl (pv 1) Z2 (fun _ _=>rfl))) (Yq rfl (Z6 (Z5 (i:=3) Yn.nd rfl (Or.inl rfl)) (Z6 (Z5 (i:=4) Yn.nd rfl (Or.inl rfl)) Zx)))
 (@Z9 _ _ _ (T0 (Wz hr) (pv 2) (pv 3) (@Za _ _ _ _ _ _ _ _ Zp (Vi (Wz hr) (pv 2) (pv 3) Z2 ⟨rfl,rfl,rfl,rfl⟩) (pv 4)) rfl))) V3),?_⟩
 refine ⟨_,rfl,_,_,_,_,rfl,rfl,SqT.of (gz _ _ eb),rfl,b2,rfl,⟨_,SqT.of (gz _ _ eb2)⟩,?_⟩
 have rl:=pa2.length
 rw [Ye] at rl
 refine oz (xs:=rows2) (fun n σ H'=>∃(o3 o4:Option V),σ=[some (.ref r),some (.ref q),some (.ref d),o3,o4,none,none,none,none,none]∧Same H H'∧H' d=some (.dK (aE (aY a.cs (b.cs.take n))))) ⟨_,_,rfl,gz,by rw [List.take_zero,Rq nda];exact e_d⟩ ?_ ?_ ?_
 ·rintro i σ H' _ ⟨_,_,_,g,_⟩
  exact SqT.of (g _ _ eb2)
 ·rintro i x σ H' N B1 R hN hR hx ⟨o3,o4,rfl,g,ed⟩
  obtain ⟨y,p,rfl,hp,ey⟩:=pa2.getP hx
  have tk:b.cs.take (i+1)=b.cs.take i++[p]:=Y6 hp
  have nt:∀n,((b.cs.take n).map (·.1)).Nodup:=fun n=>by rw [List.map_take];exact ndb.sublist (List.take_sublist _ _)
  have len:(aE (aY a.cs (b.cs.take i))).length≤40:=by
   have:=W0 a.cs (b.cs.take i)
   rw [List.length_take] at this
   rw [Ye]
   unfold aY
   rw [List.length_map]
   omega
  refine ⟨y,_,rfl,SqT.of (g _ _ ey),rfl,_,_,rfl,_,_,rfl,rfl,?_⟩
  refine ⟨_,rfl,d,rfl,.inl ⟨_,.inl ed⟩,_,rfl,_,DGet.k (k:=Sum.inr p.1) ed,_,rfl,_,_,R7 nda (nt i) p.1,rfl,?_⟩
  refine ⟨_,rfl,_,rfl,d,_,rfl,DPut.k (k:=Sum.inr p.1) ed (Zn (by omega)),hN _ _ ⟨some (.str p.1),some (.int p.2),rfl,Wm g n_d,?_⟩⟩
  rw [Ng nda (by rw [←tk];exact nt (i+1)),←tk]
  exact Ze
 rintro σ H2 ⟨o3,o4,rfl,g2,ed⟩
 rw [rl,List.take_length] at ed
 clear e_d gz gg rl
 have kl:=Ye (aY a.cs b.cs)
 have ml:(aY a.cs b.cs).length=(ah a.cs b.cs).length:=by unfold aY;rw [List.length_map]
 have km:=W0 a.cs b.cs
 have ns:=jd a.cs b.cs
 have nl:=Ro (aY a.cs b.cs)
 have ndm:((aY a.cs b.cs).map (·.1)).Nodup:=by rw [Wj];exact Wp nda ndb
 have keys:(aE (aY a.cs b.cs)).map (·.1)=(ah a.cs b.cs).map Sum.inr:=by rw [Wy,Wj]
 have vm:∀z∈ah a.cs b.cs,bK (aE (aY a.cs b.cs)) (Sum.inr z)=some (.int (ax a.cs b.cs z)):=fun z hz=>by
  obtain ⟨i,hi⟩:=List.mem_iff_getElem?.mp hz
  have e:(aY a.cs b.cs)[i]?=some (z,ax a.cs b.cs z):=by unfold aY;rw [List.getElem?_map,hi];rfl
  exact O2 ndm e
 have ct:eC a.room (aW (aY a.cs b.cs))=aF a.room a.cs b.cs:=by rw [jd];rfl
 have gg:=g2
 have e_d:=ed
 have ea:=g2 _ _ ea
 have eb:=g2 _ _ eb
 clear ed g2
 refine ⟨_,(@Z3 _ _ _ _ _ (@Zj _ _ 5 _ _ _ _ Yn.nd rfl (Or.inr rfl) (@Y0 _ _ _ _ _ _ _ Yb (gI (@Za _ _ _ _ _ _ _ _ Yk (@Za _ _ _ _ _ _ _ _ rF (@Y4 _ _ _ _ (@Z0 _ _ _ _ _ Z2 Z1 (by rfl))) (@Za _ _ _ _ _ _ _ _ Zp (@Y0 _ _ _ _ _ _ _ Yl (pv 0) Z2 (fun _ _=>rfl)) Z2)) (Zd (hW rfl) rfl aL PyProof.Rows.boot_sorted (@Z0 _ _ _ _ _ (oO PySem.F.plainAttrs_dict PySem.F.slot_dict_values PySem.F.type_dict_values P6 (pv 2)) Z1 (by rfl)))) (@U2 _ _ _ _ _ _ Wt Z2)) (@Y0 _ _ _ _ _ _ _ Yl (pv 0) Z2 (fun _ _=>rfl)) (fun _ _=>rfl)) (by rfl) (by first | exact .inl rfl | exact .inr rfl)) V3),?_⟩
 refine ⟨leN rfl,?_⟩
 intro z1 sB
 generalize hz:upd _ z1 _=H3
 have gz:=Zc hz sB
 have sD:=Zi hz
 clear hz
 have gg:=gg.trans gz
 have e_d:=gz _ _ e_d
 have ea:=gz _ _ ea
 have eb:=gz _ _ eb
 refine ⟨_,rfl,_,_,_,_,rfl,rfl,SqT.of ea,rfl,_,_,rfl,rfl,z1,_,_,rfl,rfl,sD,by omega,by omega,Zb (by rw [List.length_singleton];omega),?_⟩
 rw [qo]
 intro z2 n_z2
 generalize hz:upd _ z2 _=H4
 have gz:=Zc hz n_z2
 have oS:=Zi hz
 clear hz
 have gg:=gg.trans gz
 have e_d:=gz _ _ e_d
 have ea:=gz _ _ ea
 have eb:=gz _ _ eb
 refine ⟨_,rfl,N3 e_d,d,_,rfl,rfl,e_d,?_⟩
 intro vw n_vw
 generalize hz:upd _ vw _=H5
 have gz:=Zc hz n_vw
 have e_vw:=Zi hz
 clear hz
 have gg:=gg.trans gz
 have e_d:=gz _ _ e_d
 have ea:=gz _ _ ea
 have eb:=gz _ _ eb
 have oS:=gz _ _ oS
 refine ⟨vw,d,_,aW (aY a.cs b.cs),rfl,e_vw,e_d,jL _,by rw [Ro];omega,?_⟩
 intro z3 n_z3
 generalize hz:upd _ z3 _=H6
 have gz:=Zc hz n_z3
 have e_z3:=Zi hz
 clear hz
 have gg:=gg.trans gz
 have e_d:=gz _ _ e_d
 have ea:=gz _ _ ea
 have eb:=gz _ _ eb
 have oS:=gz _ _ oS
 refine ⟨z2,z3,_,_,rfl,rfl,oS,e_z3,Zb (by rw [List.length_replicate,List.length_map,(Xe _).length_eq,Ro];omega),?_⟩
 intro z4 n_z4
 generalize hz:upd _ z4 _=H7
 have gz:=Zc hz n_z4
 have e_z4:=Zi hz
 clear hz
 have gg:=gg.trans gz
 have e_d:=gz _ _ e_d
 have ea:=gz _ _ ea
 have eb:=gz _ _ eb
 refine ⟨_,rfl,z4,_,rfl,rfl,SqL.of e_z4,?_⟩
 intro z5 n_z5
 generalize hz:upd _ z5 _=H8
 have gz:=Zc hz n_z5
 have e_z5:=Zi hz
 clear hz
 have gg:=gg.trans gz
 have e_d:=gz _ _ e_d
 have ea:=gz _ _ ea
 have eb:=gz _ _ eb
 refine ⟨_,rfl,_,_,_,_,rfl,rfl,SqT.of ea,rfl,z5,_,_,_,rfl,rfl,SqL.of e_z5,qB (by omega),?_⟩
 rw [ct]
 refine ⟨_,(@Z3 _ _ _ _ _ (@Zj _ _ 6 _ _ _ _ Yn.nd rfl (Or.inl rfl) (@Y4 _ _ _ _ Z1) (by rfl) (by first | exact .inl rfl | exact .inr rfl)) V3),?_⟩
 refine ⟨leN rfl,?_⟩
 have gg_old:=gg
 intro l n_l
 generalize hz:upd _ l _=H9
 have gz:=Zc hz n_l
 have e_l:=Zi hz
 clear hz
 have gg:=gg.trans gz
 have e_d:=gz _ _ e_d
 have ea:=gz _ _ ea
 have eb:=gz _ _ eb
 have nHl:H l=none:=We gg_old n_l
 have dl:d≠l:=fun z=>by rw [z,e_l] at e_d;cases e_d
 refine ⟨_,(@Z3 _ _ _ _ _ (@Zj _ _ 7 _ _ _ _ Yn.nd rfl (Or.inl rfl) Z2 (by rfl) (by first | exact .inl rfl | exact .inr rfl)) V3),?_⟩
 refine ⟨_,(@Z3 _ _ _ _ _ (Xx PassesOwn.never rfl (X0 (Zd (gc rfl) rfl aL PyProof.Rows.boot_sorted (@Z0 _ _ _ _ _ (Y5 (kD rfl) rfl dE PyProof.Rows.boot_set (@Z0 _ _ _ _ _ (rW (Yh (own:=["_law_number"]) (CompOk.of rfl rfl (by rfl) (by rfl) (by rfl)) (p_ (pF (pv 2)))
  (fun _ _ _ _ _=>(Z5 (i:=0) Ug rfl (Or.inl rfl) (Or.inr rfl))) (fun _ _ _ _ _=>Ys)
  (fun _ _ _ _ _=>(Zd (kG rfl) rfl lI PyProof.Rows.boot_min (@Z0 _ _ _ _ _ (pv 6) (@Z0 _ _ _ _ _ (pv 0) Z1 (by rfl)) (by rfl)))))) Z1 (by rfl))) Z1 (by rfl)))) (Z5 (i:=8) Yn.nd rfl (Or.inr rfl))
 (@Z9 _ _ _ (@Yc _ _ _ _ _ _ _ _ (@Zm _ _ _ _ _ _ _ _ U3 (pv 8) Z2 (Zk _)) (Yz 3 (@Z3 _ _ _ _ _ (V4 (Se PySem.F.plainAttrs_list PySem.F.slot_list_append PySem.F.type_list_append Xz (pv 6) (@Z0 _ _ _ _ _ (@Zh _ _ _ _ _ (@Z0 _ _ _ _ _ (Y5 Yv rfl ay PyProof.Rows.boot_tuple (@Z0 _ _ _ _ _ (Rk ["_law_one","_law_other","_law_sums","#3","_law_count","_law_cut","_law_bunches","_law_below","_law_level","_law_kept"] (Yh (own:=["_law_mark"]) (CompOk.of rfl rfl (by rfl) (by rfl) (by rfl)) (X0 (Zd (Qb rfl) rfl aL PyProof.Rows.boot_sorted (@Z0 _ _ _ _ _ (pv 2) Z1 (by rfl))))
  (fun _ _ _ _ _=>(Z5 (i:=0) Uf rfl (Or.inl rfl) (Or.inr rfl))) (fun _ _ _ _ _=>(Vu (@Zm _ _ _ _ _ _ _ _ oI (Og (Wz hr) (pv 3) (pv 0) (fun _ _=>rfl)) (pv 9) (Zk _))))
  (fun _ _ _ _ _=>(pv 0)))) Z1 (by rfl))) (@Z0 _ _ _ _ _ (@Za _ _ _ _ _ _ _ _ Wa (pv 8) (pv 7)) Z1 (by rfl)) (by rfl))) Z1 (by rfl))))
 (@Z9 _ _ _ (@Zj _ _ 7 _ _ _ _ Yn.nd rfl (Or.inl rfl) (pv 8) (by rfl) (by first | exact .inl rfl | exact .inr rfl))))) Zu))) V3),?_⟩
 refine ⟨d,_,e_d,fun o=>?_⟩
 refine ⟨_,rfl,d,_,rfl,.inr ⟨o,Ze⟩,fun v nv=>?_⟩
 have nvd:d≠v:=Zs Ze nv
 refine ⟨v,d,o,_,rfl,Ze,by rw [Zl nvd];exact Ze,?_⟩
 refine ke (fun i ys H'=>H'=upd (upd H9 d (.frz o (.dK (aE (aY a.cs b.cs))))) v (cy v d)∧ys=(((ah a.cs b.cs).take i).map fun z=>V.int (min (ax a.cs b.cs z) (aF a.room a.cs b.cs)))) ⟨rfl,rfl⟩ ?_ ?_ ?_
 ·rintro i ys H' ⟨rfl,_⟩
  rw [Zl nvd]
  exact Ze
 ·rintro i p ys H' C hp ⟨rfl,rfl⟩ hC
  unfold aE aY at hp
  rw [List.map_map,List.getElem?_map] at hp
  obtain ⟨z,hz,rfl⟩:=Option.map_eq_some_iff.mp hp
  refine ⟨Zn (by rw [List.length_map,List.length_take];omega),Wk.refl _,_,rfl,_,rfl,_,_,rfl,hC _ _ ⟨rfl,?_⟩⟩
  rw [Y6 hz,List.map_append,se,Int.min_comm]
  rfl
 rintro ys H' ⟨rfl,rfl⟩
 rw [kl,ml,List.take_length]
 refine ⟨Zb (by rw [List.length_map];omega),fun p np=>?_⟩
 obtain ⟨npd,nHp,ep,sp⟩:=ie (u:=.lst ((ah a.cs b.cs).map fun z=>V.int (min (ax a.cs b.cs z) (aF a.room a.cs b.cs)))) e_d nv np
 refine ⟨by rw [Zl npd,Zl nvd];exact Ze,?_⟩
 generalize upd (upd (upd (upd H9 d (.frz o (.dK (aE (aY a.cs b.cs))))) v (cy v d)) p (.lst ((ah a.cs b.cs).map fun z=>V.int (min (ax a.cs b.cs z) (aF a.room a.cs b.cs))))) d (.dK (aE (aY a.cs b.cs)))=H10 at ep sp ⊢
 have gg:=gg.trans sp
 have e_d:=sp _ _ e_d
 have e_l:=sp _ _ e_l
 have ea:=sp _ _ ea
 have eb:=sp _ _ eb
 refine ⟨p,(ah a.cs b.cs).map fun z=>min (ax a.cs b.cs z) (aF a.room a.cs b.cs),rfl,?_,by rw [List.length_map];omega,?_⟩
 ·rw [List.map_map]
  exact SqL.of ep
 intro st n_st
 generalize hz:upd _ st _=H11
 have gz:=Zc hz n_st
 have e_st:=Zi hz
 clear hz
 have gg:=gg.trans gz
 have e_d:=gz _ _ e_d
 have e_l:=gz _ _ e_l
 have ea:=gz _ _ ea
 have eb:=gz _ _ eb
 have ul:=N2 ((ah a.cs b.cs).map fun z=>min (ax a.cs b.cs z) (aF a.room a.cs b.cs))
 rw [List.length_map] at ul
 refine ⟨st,_,rfl,e_st,by omega,?_⟩
 have e_l9:=e_l
 intro lv sZ
 generalize hz:upd _ lv _=H12
 have gz:=Zc hz sZ
 have dJ:=Zi hz
 clear hz
 have gg:=gg.trans gz
 have e_d:=gz _ _ e_d
 have e_l:=gz _ _ e_l
 have ea:=gz _ _ ea
 have eb:=gz _ _ eb
 have lvl:lv≠l:=fun z=>by rw [z,e_l9] at sZ;cases sZ
 have lv_eq:dR (eQ ((ah a.cs b.cs).map fun z=>min (ax a.cs b.cs z) (aF a.room a.cs b.cs)))=bT a.room a.cs b.cs:=rfl
 rw [lv_eq] at dJ
 have ll:=Rs a.room a.cs b.cs
 have n_l7:=n_l
 refine ⟨lv,rfl,⟨_,SqL.of dJ⟩,?_⟩
 refine kR (xs:=(bT a.room a.cs b.cs).map V.int) (fun n σ H'=>∃(o3 o4 o8:Option V) (bl:Int) (xs:List V),σ=[some (.ref r),some (.ref q),some (.ref d),o3,o4,some (.int (aF a.room a.cs b.cs)),some (.ref l),some (.int bl),o8,none]∧Same H H'∧H' d=some (.dK (aE (aY a.cs b.cs)))∧H' lv=some (.lst ((bT a.room a.cs b.cs).map V.int))∧H' l=some (.lst xs)∧((aF a.room a.cs b.cs=0∧xs=[])∨(aF a.room a.cs b.cs≠0∧bl=(0::bT a.room a.cs b.cs).getD n 0∧BnsAt (aA l H') xs (fq a.cs b.cs (bT a.room a.cs b.cs) n)))) ⟨_,_,_,0,[],rfl,gg,e_d,dJ,e_l,?_⟩ ?_ ?_ ?_
 ·by_cases c0:aF a.room a.cs b.cs=0
  ·exact .inl ⟨c0,rfl⟩
  ·exact .inr ⟨c0,rfl,.nil⟩
 ·rintro n σ H' _ ⟨_,_,_,_,_,_,_,_,g,_⟩
  exact SqL.of g
 ·rintro n x σ H' N B1 R hN hR hx ⟨o3,o4,o8,bl,xs,rfl,g,ed,elv,el,alt⟩
  rw [List.getElem?_map] at hx
  obtain ⟨vv,hv,rfl⟩:=Option.map_eq_some_iff.mp hx
  have vmem:=List.mem_of_getElem? hv
  have vg:(bT a.room a.cs b.cs).getD n 0=vv:=by rw [List.getD_eq_getElem?_getD,hv];rfl
  have nlt:=(List.getElem?_eq_some_iff.mp hv).1
  refine ⟨_,rfl,_,_,rfl,rfl,_,rfl,?_⟩
  rcases alt with ⟨c0,rfl⟩ | ⟨c0,rfl,bn⟩
  ·have v0:=nA oka okb c0 vmem
   subst v0
   refine X8 ?_
   exact hN _ _ ⟨_,_,some (.int 0),bl,[],rfl,g,ed,elv,el,.inl ⟨c0,rfl⟩⟩
  have vp:=Ol oka okb c0 vmem
  rw [decide_eq_true vp]
  refine Yw ?_
  have xl:=bn.length
  rw [Qe] at xl
  have gg:=g
  have e_d:=ed
  have dJ:=elv
  have e_l:=el
  refine ⟨_,rfl,.inl ⟨rfl,_,SqL.of e_l⟩,?_⟩
  refine ⟨⟨.inl rfl,.inl rfl,.inl rfl,.inr rfl,.inl rfl,.inl rfl,.inl rfl,.inl rfl,.inl rfl,.inl rfl,trivial⟩,_,rfl,d,_,ah a.cs b.cs,rfl,e_d,keys,by omega,?_⟩
  intro k n_k
  generalize hz:upd _ k _=H13
  have gz:=Zc hz n_k
  have e_k:=Zi hz
  clear hz
  have gg:=gg.trans gz
  have e_d:=gz _ _ e_d
  have dJ:=gz _ _ dJ
  have e_l:=gz _ _ e_l
  have g11:=gz
  refine ⟨k,rfl,⟨_,SqL.of e_k⟩,?_⟩
  have sl:(bi (ah a.cs b.cs)).length=(ah a.cs b.cs).length:=(Zv _).length_eq
  refine W3 (xs:=(bi (ah a.cs b.cs)).map V.str) (fun i ys H'=>H'=H13∧ys=(((bi (ah a.cs b.cs)).take i).filter fun z=>decide (vv≤ax a.cs b.cs z)).map V.str) ⟨rfl,rfl⟩ ?_ ?_ ?_
  ·rintro i ys H' _ ⟨rfl,_⟩
   exact SqL.of e_k
  ·rintro i y ys H' C hy ⟨rfl,rfl⟩ hC
   rw [List.getElem?_map] at hy
   obtain ⟨z,hz,rfl⟩:=Option.map_eq_some_iff.mp hy
   have zin:z∈ah a.cs b.cs:=(Zv _).mem_iff.mp (List.mem_of_getElem? hz)
   have yl2:=List.length_filter_le (fun z=>decide (vv≤ax a.cs b.cs z)) ((bi (ah a.cs b.cs)).take i)
   rw [List.length_take] at yl2
   refine ⟨Zn (by rw [List.length_map];omega),Wk.refl _,_,rfl,_,rfl,d,_,rfl,.inl ⟨_,Sum.inr z,.inl e_d,rfl,(vm z zin).symm⟩,_,rfl,_,_,rfl,rfl,_,rfl,?_⟩
   rw [Y6 hz,List.filter_append] at hC
   by_cases big:vv≤ax a.cs b.cs z
   ·rw [decide_eq_true big]
    refine Yw ⟨_,rfl,hC _ _ ⟨rfl,?_⟩⟩
    rw [List.filter_cons,if_pos (decide_eq_true big),List.map_append]
    rfl
   ·rw [decide_eq_false big]
    refine X8 (hC _ _ ⟨rfl,?_⟩)
    rw [List.filter_cons,if_neg (by simpa using big),List.filter_nil,List.append_nil]
  rintro ys H' ⟨rfl,rfl⟩
  have lf:((bi (ah a.cs b.cs)).map V.str).length=(bi (ah a.cs b.cs)).length:=List.length_map _
  rw [lf,List.take_length]
  have fl:=List.length_filter_le (fun z=>decide (vv≤ax a.cs b.cs z)) (bi (ah a.cs b.cs))
  refine ⟨Zb (by rw [List.length_map];omega),?_⟩
  intro ms n_ms
  generalize hz:upd _ ms _=H14
  have gz:=Zc hz n_ms
  have e_ms:=Zi hz
  clear hz
  have gg:=gg.trans gz
  have e_d:=gz _ _ e_d
  have dJ:=gz _ _ dJ
  have e_l:=gz _ _ e_l
  have g12:=gz
  refine ⟨ms,_,rfl,.inl ⟨SqL.of e_ms,?_⟩⟩
  intro tp rR
  generalize hz:upd _ tp _=H15
  have gz:=Zc hz rR
  have gx:=Zi hz
  clear hz
  have gg:=gg.trans gz
  have e_d:=gz _ _ e_d
  have dJ:=gz _ _ dJ
  have e_l:=gz _ _ e_l
  have g13:=gz
  refine ⟨_,rfl,_,rfl,_,_,rfl,rfl,leN rfl,?_⟩
  intro t2 n_
  generalize hz:upd _ t2 _=H16
  have gz:=Zc hz n_
  have bq:=Zi hz
  clear hz
  have gg:=gg.trans gz
  have e_d:=gz _ _ e_d
  have dJ:=gz _ _ dJ
  have e_l:=gz _ _ e_l
  have gx:=gz _ _ gx
  have g14:=gz
  have gg':=((g11.trans g12).trans g13).trans g14
  refine ⟨l,xs,_,rfl,rfl,e_l,Zn (by omega),?_⟩
  refine ⟨_,rfl,hN _ _ ⟨_,o4,some (.int vv),vv,xs++[.ref t2],rfl,?_,?_,?_,Ze,.inr ⟨c0,vg.symm,?_⟩⟩⟩
  ·exact fun y u e=>by rw [Zl (Zs e nHl)];exact gg y u e
  ·rw [Zl dl];exact e_d
  ·rw [Zl lvl];exact dJ
  ·rw [kQ]
   have n2:t2≠l:=fun z=>by rw [z,e_l] at bq;cases bq
   have n3:tp≠l:=fun z=>by rw [z,e_l] at gx;cases gx
   refine (bn.mono ((Tc el gg').trans Op)).append (.cons (a:=t2) (c:=tp) ?_ ?_ .nil)
   ·rw [Ym n2,Zl n2,bq]
    show _=some (HO.tup [.ref tp,.int ((bT a.room a.cs b.cs).getD n 0 - (0::bT a.room a.cs b.cs).getD n 0)])
    rw [vg]
   ·rw [Ym n3,Zl n3,gx]
    show _=some (HO.tup ((aC a.cs b.cs ((bT a.room a.cs b.cs).getD n 0)).map V.str))
    rw [vg]
    rfl
 rintro σ H17 ⟨o3,o4,o8,bl,xs,rfl,gg,e_d,_,e_l,alt⟩
 have k_pap:PapAt H17 l (aR a b):=by
  unfold aR
  rcases alt with ⟨c0,rfl⟩ | ⟨c0,_,bn⟩
  ·rw [if_pos c0]
   exact ⟨[],e_l,.nil⟩
  ·rw [if_neg c0]
   rw [List.length_map] at bn
   exact ⟨xs,e_l,bn.mono Y8⟩
 refine ⟨_,(Yz 3 (@Z3 _ _ _ _ _ (@Zj _ _ 9 _ _ _ _ Yn.nd rfl (Or.inl rfl) (Y5 Yv rfl ay PyProof.Rows.boot_tuple (@Z0 _ _ _ _ _ (Rk ["_law_one","_law_other","_law_sums","#3","_law_count","_law_cut","_law_bunches","_law_below","_law_level","_law_kept"] (Yh (own:=["_law_mark"]) (CompOk.of rfl rfl (by rfl) (by rfl) (by rfl)) (X0 (Zd (Qb rfl) rfl aL PyProof.Rows.boot_sorted (@Z0 _ _ _ _ _ (pv 2) Z1 (by rfl))))
  (fun _ _ _ _ _=>(Z5 (i:=0) Ue rfl (Or.inl rfl) (Or.inr rfl))) (fun _ _ _ _ _=>(Vu (@Zm _ _ _ _ _ _ _ _ U3 (Og (Wz hr) (pv 3) (pv 0) (fun _ _=>rfl)) (pv 6) (Zk _))))
  (fun _ _ _ _ _=>(@Zh _ _ _ _ _ (@Z0 _ _ _ _ _ (pv 0) (@Z0 _ _ _ _ _ (@Za _ _ _ _ _ _ _ _ Wa (Og (Wz hr) (pv 3) (pv 0) (fun _ _=>rfl)) (pv 6)) Z1 (by rfl)) (by rfl)))))) Z1 (by rfl))) (by rfl) (by first | exact .inl rfl | exact .inr rfl)) V3)),?_⟩
 refine ⟨⟨.inl rfl,.inl rfl,.inl rfl,.inr rfl,.inl rfl,.inl rfl,.inl rfl,.inl rfl,.inl rfl,.inl rfl,trivial⟩,_,rfl,d,_,ah a.cs b.cs,rfl,e_d,keys,by omega,?_⟩
 intro x n_x
 generalize hz:upd _ x _=H18
 have gz:=Zc hz n_x
 have e_x:=Zi hz
 clear hz
 have gg:=gg.trans gz
 have e_d:=gz _ _ e_d
 have k_pap:=k_pap.mono gz
 refine ⟨x,rfl,⟨_,SqL.of e_x⟩,?_⟩
 have sl:(bi (ah a.cs b.cs)).length=(ah a.cs b.cs).length:=(Zv _).length_eq
 refine W3 (xs:=(bi (ah a.cs b.cs)).map V.str) (fun i ys H'=>Same H18 H'∧PairsAt H' ys (aE ((((bi (ah a.cs b.cs)).take i).filter fun z=>decide (aF a.room a.cs b.cs<ax a.cs b.cs z)).map fun z=>(z,ax a.cs b.cs z - aF a.room a.cs b.cs)))) ⟨Same.refl _,.nil⟩ ?_ ?_ ?_
 ·rintro i ys H' _ ⟨g,_⟩
  exact SqL.of (g _ _ e_x)
 ·rintro i y ys H' C hx ⟨g,pa⟩ hC
  rw [List.getElem?_map] at hx
  obtain ⟨z,hz,rfl⟩:=Option.map_eq_some_iff.mp hx
  have zin:z∈ah a.cs b.cs:=(Zv _).mem_iff.mp (List.mem_of_getElem? hz)
  have ed:=g _ _ e_d
  have yl:=pa.length
  rw [Ye,List.length_map] at yl
  have yl2:=List.length_filter_le (fun z=>decide (aF a.room a.cs b.cs<ax a.cs b.cs z)) ((bi (ah a.cs b.cs)).take i)
  rw [List.length_take] at yl2
  have tk:=Y6 hz
  refine ⟨Zn (by omega),Wk.refl _,_,rfl,_,rfl,d,_,rfl,.inl ⟨_,Sum.inr z,.inl ed,rfl,(vm z zin).symm⟩,_,rfl,_,_,rfl,rfl,_,rfl,?_⟩
  by_cases big:aF a.room a.cs b.cs<ax a.cs b.cs z
  ·rw [decide_eq_true big]
   refine Yw ⟨_,rfl,_,rfl,_,rfl,d,_,rfl,.inl ⟨_,Sum.inr z,.inl ed,rfl,(vm z zin).symm⟩,_,rfl,_,_,rfl,rfl,leN rfl,fun p np=>hC _ _ ⟨g.trans (Zw np _),?_⟩⟩
   have one:([z].filter fun z=>decide (aF a.room a.cs b.cs<ax a.cs b.cs z))=[z]:=by rw [List.filter_cons,if_pos (decide_eq_true big)];rfl
   rw [tk,List.filter_append,one,List.map_append]
   unfold aE
   rw [List.map_append]
   exact (pa.mono (Zw np _)).append (.cons Ze .nil)
  ·rw [decide_eq_false big]
   refine X8 (hC _ _ ⟨g,?_⟩)
   have one:([z].filter fun z=>decide (aF a.room a.cs b.cs<ax a.cs b.cs z))=[]:=by rw [List.filter_cons,if_neg (by simpa using big)];rfl
   rw [tk,List.filter_append,one,List.append_nil]
   exact pa
 rintro ys H19 ⟨g8,pa⟩
 have gg:=gg.trans g8
 have k_pap:=k_pap.mono g8
 rw [List.length_map,List.take_length] at pa
 have k_pa:PairsAt H19 ys (aE (csM a.room a.cs b.cs)):=pa
 have yl:=k_pa.length
 have cl:=jp oka okb
 rw [Ye] at yl
 refine ⟨Zb (by omega),?_⟩
 intro l1 lY
 generalize hz:upd _ l1 _=H20
 have gz:=Zc hz lY
 have dN:=Zi hz
 clear hz
 have gg:=gg.trans gz
 have k_pa:=k_pa.mono gz
 have k_pap:=k_pap.mono gz
 refine ⟨l1,_,rfl,.inl ⟨SqL.of dN,?_⟩⟩
 intro l2 en
 generalize hz:upd _ l2 _=H21
 have gz:=Zc hz en
 have cL:=Zi hz
 clear hz
 have gg:=gg.trans gz
 have k_pa:=k_pa.mono gz
 have k_pap:=k_pap.mono gz
 have ha:=ha.mono gg
 have hb:=hb.mono gg
 obtain ⟨_,_,_,e0,ea,_,_⟩:=DV.ty_inv ha
 cases e0
 obtain ⟨_,_,_,e0,eb,_,_⟩:=DV.ty_inv hb
 cases e0
 refine ⟨_,(@Z9 _ _ _ (@Zg _ _ _ _ (@Zh _ _ _ _ _ (@Z0 _ _ _ _ _ (@Zh _ _ _ _ _ (@Z0 _ _ _ _ _ (@Y0 _ _ _ _ _ _ _ Yl (pv 0) Z2 (fun _ _=>rfl)) (@Z0 _ _ _ _ _ (pv 9) (@Z0 _ _ _ _ _ (@Za _ _ _ _ _ _ _ _ Zp (@Za _ _ _ _ _ _ _ _ Zp (@Y0 _ _ _ _ _ _ _ Yl (pv 0) Z2 (fun _ _=>rfl)) (@Y0 _ _ _ _ _ _ _ Yl (pv 1) Z2 (fun _ _=>rfl))) (pv 5)) (@Z0 _ _ _ _ _ (@Za _ _ _ _ _ _ _ _ Zp (@Y0 _ _ _ _ _ _ _ Yl (pv 0) Z2 (fun _ _=>rfl)) (@Y0 _ _ _ _ _ _ _ Yl (pv 1) Z2 (fun _ _=>rfl))) Z1 (by rfl)) (by rfl)) (by rfl)) (by rfl))) (@Z0 _ _ _ _ _ (pv 6) Z1 (by rfl)) (by rfl))))),?_⟩
 refine ⟨_,rfl,_,_,_,_,rfl,rfl,SqT.of ea,rfl,_,rfl,?_⟩
 refine ⟨_,rfl,_,_,_,_,rfl,rfl,SqT.of ea,rfl,_,rfl,_,_,_,_,rfl,rfl,SqT.of eb,rfl,_,_,rfl,rfl,_,rfl,_,_,rfl,rfl,?_⟩
 refine ⟨_,rfl,_,_,_,_,rfl,rfl,SqT.of ea,rfl,_,rfl,_,_,_,_,rfl,rfl,SqT.of eb,rfl,_,_,rfl,rfl,leN rfl,?_⟩
 intro l3 ng
 generalize hz:upd _ l3 _=H22
 have gz:=Zc hz ng
 have eW:=Zi hz
 clear hz
 have gg:=gg.trans gz
 have k_pa:=k_pa.mono gz
 have cL:=gz _ _ cL
 have k_pap:=k_pap.mono gz
 refine ⟨_,rfl,leN rfl,?_⟩
 intro l4 tU
 generalize hz:upd _ l4 _=H23
 have gz:=Zc hz tU
 have tQ:=Zi hz
 clear hz
 have gg:=gg.trans gz
 have k_pa:=k_pa.mono gz
 have cL:=gz _ _ cL
 have k_pap:=k_pap.mono gz
 have eW:=gz _ _ eW
 exact hq l4 l3 l _ gg tQ (Ty.dv (t:=dh a b) eW cL k_pa) nHl k_pap
end
def ThW (t:Th):Prop:=t.word∈words∧1≤t.many
def thT (room:Int) (t:Th):Ty:=⟨room,[(t.word,t.many)],0,t.many⟩
theorem iK {room:Int} {t:Th} (h1:1≤room) (h2:room≤20) (h:ThW t):(thT room t).Ok:=
 ⟨h1,h2,List.nodup_cons.mpr ⟨(fun z=>nomatch z),List.nodup_nil⟩,List.pairwise_singleton _ _,fun p hp=>by rw [List.mem_singleton.mp hp];exact h.1,fun p hp=>by rw [List.mem_singleton.mp hp];exact h.2,by show ((1:Nat):Int)≤room;omega,Int.le_refl _,
  by show (room+1) * 0≤t.many - (t.many+0);omega,by show t.many - (t.many+0)≤2 * room * 0;omega⟩
abbrev TyP:=Ty×List Bn
def cZ (room:Int) (p:TyP) (t:Th):TyP:=(dh p.1 (thT room t),p.2++aR p.1 (thT room t))
def cw (room:Int) (ts:List Th):TyP:=ts.foldl (cZ room) (Ty.zero room,[])
def aK (room:Int):Tr→TyP
 | .leaf ts=>cw room ts
 | .node l r=>(dh (aK room l).1 (aK room r).1,(aK room l).2++(aK room r).2++aR (aK room l).1 (aK room r).1)
structure TPk (room:Int) (n:Nat) (p:TyP):Prop where
 ok:p.1.Ok
 rm:p.1.room=room
 w:∀b∈p.2,BnW b
 len:p.2.length≤40 * n
theorem Rb {room:Int} {n:Nat} {p:TyP} {t:Th} (h1:1≤room) (h2:room≤20) (h:TPk room n p) (ht:ThW t):TPk room (n+1) (cZ room p t):=by
 have ok2:=iK h1 h2 ht
 refine ⟨P7 h.ok ok2 h.rm,h.rm,fun b hb=>?_,?_⟩
 ·rcases List.mem_append.mp hb with q | q
  ·exact h.w b q
  ·exact om h.ok ok2 b q
 ·show (p.2++aR p.1 (thT room t)).length≤_
  rw [List.length_append]
  have:=Vr h.ok ok2
  have:=h.len
  omega
theorem e8 {room:Int} (h1:1≤room) (h2:room≤20):∀(ts:List Th) (n:Nat) (p:TyP),TPk room n p→(∀t∈ts,ThW t)→TPk room (n+ts.length) (ts.foldl (cZ room) p)
 | [],n,p,h,_=>h
 | t::ts,n,p,h,hw=>by
  have:=e8 h1 h2 ts (n+1) _ (Rb h1 h2 h (hw t (.head _))) fun x hx=>hw x (.tail _ hx)
  rw [List.length_cons,show n+(ts.length+1)=n+1+ts.length by omega]
  exact this
theorem fI {room:Int} (h1:1≤room) (h2:room≤20) {ts:List Th} (h:∀t∈ts,ThW t):TPk room ts.length (cw room ts):=by
 have:=e8 h1 h2 ts 0 (Ty.zero room,[]) ⟨Pz h1 h2,rfl,(fun _ h=>nomatch h),Nat.zero_le _⟩ h
 rwa [Nat.zero_add] at this
theorem Xd {room:Int} (h1:1≤room) (h2:room≤20):∀{t:Tr},(∀s∈t.streams,∀x∈s,ThW x)→TPk room (t.all.length+t.size) (aK room t)
 | .leaf ts,h=>by
  have:=fI h1 h2 (h ts (.head _))
  refine ⟨this.ok,this.rm,this.w,?_⟩
  have:=this.len
  show (cw room ts).2.length≤40 * (ts.length+1)
  omega
 | .node l r,h=>by
  have a:=Xd h1 h2 (t:=l) fun s hs=>h s (List.mem_append_left _ hs)
  have b:=Xd h1 h2 (t:=r) fun s hs=>h s (List.mem_append_right _ hs)
  refine ⟨P7 a.ok b.ok (a.rm.trans b.rm.symm),a.rm,fun x hx=>?_,?_⟩
  ·rcases List.mem_append.mp hx with q | q
   ·rcases List.mem_append.mp q with q | q
    ·exact a.w x q
    ·exact b.w x q
   ·exact om a.ok b.ok x q
  ·show ((aK room l).2++(aK room r).2++aR (aK room l).1 (aK room r).1).length≤40 * ((l.all++r.all).length+(l.size+r.size+1))
   rw [List.length_append,List.length_append,List.length_append]
   have:=Vr a.ok b.ok
   have:=a.len
   have:=b.len
   omega
theorem sk {K:W.Frag}:W.kitOne K (.type "tuple") (.type "tuple")=some true:=Pa (by decide +kernel)
theorem sE {K:W.Frag}:W.kitOne K (.type "list") (.type "tuple")=some false:=Pa (by decide +kernel)
def jG (m:Nat):Sp:=fun vs H Q _=>∃(v:V) (room:Int) (t:Tr),vs=[.int room,v]∧1≤room∧room≤20∧DV H v t.D∧t.ht<m∧(∀s∈t.streams,∀x∈s,ThW x)∧t.all.length+t.size≤1000∧∀(p t' l:Addr) H',Same H H'→H' p=some (.tup [.ref t',.ref l])→DV H' (.ref t') (aK room t).1.D→PapAt H' l (aK room t).2→Q (.ref p) H'
section
variable {P:Program} {w:World} {K:W.Frag} {mg:Str→Option Value} {base:Heap} {f:Addr} {fd:FuncData}
theorem qd {m:Nat} (cY:Has P w K mg base "_law_grown" (2+m) ["_law_room_here","_law_tree_here"] (jG m)) (bX:Has P w K mg base "_law_merged" 1 ["_law_one","_law_other"] iA) (ad:mg "isinstance"=none) (ay:mg "tuple"=none)
  (F:Fun K "_law_grown" "_law_grown" bA f fd):FnOk P w K mg base CX0 (2+m+1) f fd ["_law_room_here","_law_tree_here"] (jG (m+1)):=by
 refine F.ok Y7 (fun vs H Q E h=>?_) (fun cdv A outer s H vs Q E hr h=>?_)
 ·obtain ⟨v,room,t,rfl,_⟩:=h
  rfl
 obtain ⟨v,room,t,rfl,r0,r1,dv,ht,tw,sz,hq⟩:=h
 refine ⟨_,(@Z3 _ _ _ _ _ (@Yc _ _ _ _ _ _ _ _ (Yy (Zd Xj rfl ad PyProof.Rows.boot_isinstance (@Z0 _ _ _ _ _ (pv 1) (@Z0 _ _ _ _ _ (Xh (v:=.ty "tuple") rfl ay PyProof.Rows.boot_tuple rfl) Z1 (by rfl)) (by rfl)))) (@Z3 _ _ _ _ _ (X7 (Z7 cY hr (@Z0 _ _ _ _ _ (pv 0) (@Z0 _ _ _ _ _ (@Y0 _ _ _ _ _ _ _ Yl (pv 1) Z2 (fun _ _=>rfl)) Z1 (by rfl)) (by rfl))) (Yq rfl (Z6 (Z5 (i:=2) Y7.nd rfl (Or.inl rfl)) (Z6 (Z5 (i:=3) Y7.nd rfl (Or.inl rfl)) Zx))))
 (@Z3 _ _ _ _ _ (X7 (Z7 cY hr (@Z0 _ _ _ _ _ (pv 0) (@Z0 _ _ _ _ _ (@Y0 _ _ _ _ _ _ _ Yl (pv 1) Z2 (fun _ _=>rfl)) Z1 (by rfl)) (by rfl))) (Yq rfl (Z6 (Z5 (i:=4) Y7.nd rfl (Or.inl rfl)) (Z6 (Z5 (i:=5) Y7.nd rfl (Or.inl rfl)) Zx))))
 (@Z3 _ _ _ _ _ (X7 (Z7 bX hr (@Z0 _ _ _ _ _ (pv 2) (@Z0 _ _ _ _ _ (pv 4) Z1 (by rfl)) (by rfl))) (Yq rfl (Z6 (Z5 (i:=6) Y7.nd rfl (Or.inl rfl)) (Z6 (Z5 (i:=7) Y7.nd rfl (Or.inl rfl)) Zx))))
 (@Z9 _ _ _ (@Zg _ _ _ _ (@Zh _ _ _ _ _ (@Z0 _ _ _ _ _ (pv 6) (@Z0 _ _ _ _ _ (@Za _ _ _ _ _ _ _ _ Yk (@Za _ _ _ _ _ _ _ _ Yk (pv 3) (pv 5)) (pv 7)) Z1 (by rfl)) (by rfl)))))))) Zu)
 (@Z3 _ _ _ _ _ (@Zj _ _ 6 _ _ _ _ Y7.nd rfl (Or.inl rfl) (@Zh _ _ _ _ _ (@Z0 _ _ _ _ _ (pv 0) (@Z0 _ _ _ _ _ (@Zh _ _ _ _ _ Z1) (@Z0 _ _ _ _ _ Z2 (@Z0 _ _ _ _ _ Z2 Z1 (by rfl)) (by rfl)) (by rfl)) (by rfl))) (by rfl) (by first | exact .inl rfl | exact .inr rfl))
 (@Z3 _ _ _ _ _ (@Zj _ _ 3 _ _ _ _ Y7.nd rfl (Or.inl rfl) (@Y4 _ _ _ _ Z1) (by rfl) (by first | exact .inl rfl | exact .inr rfl))
 (@Z3 _ _ _ _ _ (Xx PassesOwn.never rfl (X0 (pv 1)) (Yq rfl (Z6 (Z5 (i:=8) Y7.nd rfl (Or.inl rfl)) (Z6 (Z5 (i:=9) Y7.nd rfl (Or.inl rfl)) (Z6 (Z5 (i:=10) Y7.nd rfl (Or.inl rfl)) (Z6 (Z5 (i:=11) Y7.nd rfl (Or.inl rfl)) Zx)))))
 (@Z3 _ _ _ _ _ (X7 (Z7 bX hr (@Z0 _ _ _ _ _ (pv 6) (@Z0 _ _ _ _ _ (@Zh _ _ _ _ _ (@Z0 _ _ _ _ _ (pv 0) (@Z0 _ _ _ _ _ (@Zh _ _ _ _ _ (@Z0 _ _ _ _ _ (@Zh _ _ _ _ _ (@Z0 _ _ _ _ _ (pv 9) (@Z0 _ _ _ _ _ (pv 11) Z1 (by rfl)) (by rfl))) Z1 (by rfl))) (@Z0 _ _ _ _ _ Z2 (@Z0 _ _ _ _ _ (pv 11) Z1 (by rfl)) (by rfl)) (by rfl)) (by rfl))) Z1 (by rfl)) (by rfl))) (Yq rfl (Z6 (Z5 (i:=6) Y7.nd rfl (Or.inl rfl)) (Z6 (Z5 (i:=7) Y7.nd rfl (Or.inl rfl)) Zx))))
 (@Z9 _ _ _ (@Zj _ _ 3 _ _ _ _ Y7.nd rfl (Or.inl rfl) (@Za _ _ _ _ _ _ _ _ Yk (pv 3) (pv 7)) (by rfl) (by first | exact .inl rfl | exact .inr rfl)))))
 (@Z9 _ _ _ (@Zg _ _ _ _ (@Zh _ _ _ _ _ (@Z0 _ _ _ _ _ (pv 6) (@Z0 _ _ _ _ _ (pv 3) Z1 (by rfl)) (by rfl))))))))),?_⟩
 cases t with
 | leaf ts=>
  obtain ⟨b,xs,rfl,eb,qb⟩:=DV.list_inv dv
  have tw:∀x∈ts,ThW x:=tw ts (.head _)
  have sz:ts.length+1≤1000:=sz
  have xl:=qb.length
  rw [List.length_map] at xl
  refine ⟨_,rfl,_,_,"tuple",_,rfl,TyOf.lst eb,sE,_,rfl,X8 ?_⟩
  have gg:Same H H:=fun _ _ h=>h
  refine ⟨_,rfl,leN rfl,?_⟩
  intro p1 iY
  generalize hz:upd _ p1 _=H1
  have gz:=Zc hz iY
  have di:=Zi hz
  clear hz
  have gg:=gg.trans gz
  refine ⟨leN rfl,?_⟩
  intro p2 sW
  generalize hz:upd _ p2 _=H2
  have gz:=Zc hz sW
  have rj:=Zi hz
  clear hz
  have gg:=gg.trans gz
  have di:=gz _ _ di
  have k_d0:DV H2 (.ref p2) (cw room (ts.take 0)).1.D:=Ty.dv (t:=Ty.zero room) rj di .nil
  refine ⟨leN rfl,?_⟩
  intro p3 tI
  generalize hz:upd _ p3 _=H3
  have gz:=Zc hz tI
  have sA:=Zi hz
  clear hz
  have gg:=gg.trans gz
  have k_d0:=k_d0.mono gz
  have k_p:PapAt H3 p3 (cw room (ts.take 0)).2:=⟨[],sA,.nil⟩
  refine ⟨_,rfl,b,rfl,⟨_,SqL.of (gg _ _ eb)⟩,?_⟩
  refine W9 (xs:=xs) (fun n σ H'=>∃(o2 o4 o5 o7 o8 o9 o10 o11:Option V) (p l:Addr),σ=[some (.int room),some (.ref b),o2,some (.ref l),o4,o5,some (.ref p),o7,o8,o9,o10,o11]∧Same H H'∧DV H' (.ref p) (cw room (ts.take n)).1.D∧PapAt H' l (cw room (ts.take n)).2) ⟨_,_,_,_,_,_,_,_,p2,p3,rfl,gg,k_d0,k_p⟩ ?_ ?_ ?_
  ·rintro n σ H' _ ⟨_,_,_,_,_,_,_,_,_,_,_,g,_⟩
   exact SqL.of (g _ _ eb)
  ·rintro n x σ H' hx ⟨o2,o4,o5,o7,o8,o9,o10,o11,p,l,rfl,g,dp,pp⟩
   obtain ⟨t,c,hth,rfl,ec,hm⟩:=DVs.th_at qb hx
   have tk:=Y6 hth
   have inv:=fI r0 r1 (ts:=ts.take n) fun u hu=>tw u (List.mem_of_mem_take hu)
   have il:=inv.len
   rw [List.length_take] at il
   refine ⟨c,_,rfl,SqT.of (g _ _ ec),rfl,_,_,rfl,_,_,rfl,_,_,rfl,_,_,rfl,rfl,?_⟩
   have gg:=g
   have k_dp:=dp
   have k_pp:=pp
   refine ⟨_,rfl,_,rfl,_,rfl,_,rfl,leN rfl,?_⟩
   intro q1 dX
   generalize hz:upd _ q1 _=H4
   have gz:=Zc hz dX
   have aB:=Zi hz
   clear hz
   have gg:=gg.trans gz
   have k_dp:=k_dp.mono gz
   have k_pp:=k_pp.mono gz
   refine ⟨leN rfl,?_⟩
   intro q2 de
   generalize hz:upd _ q2 _=H5
   have gz:=Zc hz de
   have bj:=Zi hz
   clear hz
   have gg:=gg.trans gz
   have k_dp:=k_dp.mono gz
   have k_pp:=k_pp.mono gz
   have aB:=gz _ _ aB
   refine ⟨_,rfl,leN rfl,?_⟩
   intro q3 rC
   generalize hz:upd _ q3 _=H6
   have gz:=Zc hz rC
   have cQ:=Zi hz
   clear hz
   have gg:=gg.trans gz
   have k_dp:=k_dp.mono gz
   have k_pp:=k_pp.mono gz
   have aB:=gz _ _ aB
   have bj:=gz _ _ bj
   have d1:DV H6 (.ref q3) (thT room t).D:=Ty.dv (t:=thT room t) cQ bj (.cons aB .nil)
   have ok2:=iK r0 r1 (tw t hm)
   refine ⟨p,q3,(cw room (ts.take n)).1,thT room t,rfl,k_dp,d1,inv.ok,ok2,inv.rm,fun p6 t6 l6 H7 s6 e6 d6 nl6 pl6=>?_⟩
   have gg:=gg.trans s6
   have k_pp:=k_pp.mono s6
   refine ⟨p6,_,rfl,SqT.of e6,rfl,_,_,rfl,_,_,rfl,rfl,?_⟩
   obtain ⟨ys,ey,by_⟩:=k_pp
   obtain ⟨zs,ez,bz⟩:=pl6
   have ly:=by_.length
   have lz:=bz.length
   have bl:=Vr inv.ok ok2
   refine ⟨_,rfl,_,rfl,l,l6,ys,zs,rfl,rfl,ey,ez,Zb (by omega),?_⟩
   have k_d6:=d6
   have k_by:=by_
   have k_bz:=bz
   intro q4 sf
   generalize hz:upd _ q4 _=H8
   have gz:=Zc hz sf
   have sC:=Zi hz
   clear hz
   have gg:=gg.trans gz
   have k_d6:=k_d6.mono gz
   have k_by:=k_by.mono gz
   have k_bz:=k_bz.mono gz
   have e:cw room (ts.take (n+1))=cZ room (cw room (ts.take n)) t:=by
    unfold cw
    rw [tk,List.foldl_append]
    rfl
   rw [e]
   exact ⟨_,_,_,_,_,_,_,_,t6,q4,rfl,gg,k_d6,ys++zs,sC,k_by.append k_bz⟩
  ·rintro σ H' ⟨o2,o4,o5,o7,o8,o9,o10,o11,p,l,rfl,g,dp,pp⟩
   rw [xl,List.take_length] at dp pp
   have gg:=g
   have k_dp:=dp
   have k_pp:=pp
   refine ⟨_,rfl,_,rfl,leN rfl,?_⟩
   intro q1 dX
   generalize hz:upd _ q1 _=H4
   have gz:=Zc hz dX
   have aB:=Zi hz
   clear hz
   have gg:=gg.trans gz
   have k_dp:=k_dp.mono gz
   have k_pp:=k_pp.mono gz
   exact hq q1 p l _ gg aB k_dp k_pp
 | node l r=>
  obtain ⟨a,mm,x,y,rfl,e,hx,hy⟩:=DV.node_inv dv
  have ht:max l.ht r.ht+1<m+1:=ht
  have sz:(l.all++r.all).length+(l.size+r.size+1)≤1000:=sz
  rw [List.length_append] at sz
  have twl:∀s∈l.streams,∀x∈s,ThW x:=fun s hs=>tw s (List.mem_append_left _ hs)
  have twr:∀s∈r.streams,∀x∈s,ThW x:=fun s hs=>tw s (List.mem_append_right _ hs)
  have A1:=Xd r0 r1 twl
  have B1:=Xd r0 r1 twr
  have al:=A1.len
  have bl:=B1.len
  refine ⟨_,rfl,_,_,"tuple",_,rfl,TyOf.tup e,sk,_,rfl,Yw ?_⟩
  refine ⟨_,rfl,_,rfl,a,_,1,_,rfl,rfl,SqT.of e,oN _ _ _,x,room,l,rfl,r0,r1,hx,by omega,twl,by omega,fun p1 t1 l1 H1 g1 e1 d1 pp1=>?_⟩
  refine ⟨p1,_,rfl,SqT.of e1,rfl,_,_,rfl,_,_,rfl,rfl,?_⟩
  refine ⟨_,rfl,_,rfl,a,_,2,_,rfl,rfl,SqT.of (g1 _ _ e),gB _ _ _,y,room,r,rfl,r0,r1,hy.mono g1,by omega,twr,by omega,fun p2 t2 l2 H2 g2 e2 d2 pp2=>?_⟩
  refine ⟨p2,_,rfl,SqT.of e2,rfl,_,_,rfl,_,_,rfl,rfl,?_⟩
  refine ⟨_,rfl,_,rfl,t1,t2,_,_,rfl,d1.mono g2,d2,A1.ok,B1.ok,A1.rm.trans B1.rm.symm,fun p3 t3 l3 H3 g3 e3 d3 nl3 pp3=>?_⟩
  refine ⟨p3,_,rfl,SqT.of e3,rfl,_,_,rfl,_,_,rfl,rfl,?_⟩
  have gg:=g1.trans (g2.trans g3)
  obtain ⟨xs,ex,bx⟩:=pp1.mono (g2.trans g3)
  obtain ⟨ys,ey,by_⟩:=pp2.mono g3
  obtain ⟨zs,ez,bz⟩:=pp3
  have lx:=bx.length
  have ly:=by_.length
  have lz:=bz.length
  have bl3:=Vr A1.ok B1.ok
  have k_d3:=d3
  have k_bx:=bx
  have k_by:=by_
  have k_bz:=bz
  have e_z:=ez
  refine ⟨_,rfl,_,rfl,_,rfl,l1,l2,xs,ys,rfl,rfl,ex,ey,Zb (by omega),?_⟩
  intro q4 sf
  generalize hz:upd _ q4 _=H4
  have gz:=Zc hz sf
  have sC:=Zi hz
  clear hz
  have gg:=gg.trans gz
  have k_d3:=k_d3.mono gz
  have k_bx:=k_bx.mono gz
  have k_by:=k_by.mono gz
  have k_bz:=k_bz.mono gz
  have e_z:=gz _ _ e_z
  refine ⟨_,rfl,q4,l3,xs++ys,zs,rfl,rfl,sC,e_z,Zb (by rw [List.length_append];omega),?_⟩
  intro q5 n_q5
  generalize hz:upd _ q5 _=H5
  have gz:=Zc hz n_q5
  have rX:=Zi hz
  clear hz
  have gg:=gg.trans gz
  have k_d3:=k_d3.mono gz
  have k_bx:=k_bx.mono gz
  have k_by:=k_by.mono gz
  have k_bz:=k_bz.mono gz
  refine ⟨leN rfl,?_⟩
  intro q6 n_q6
  generalize hz:upd _ q6 _=H6
  have gz:=Zc hz n_q6
  have e_q6:=Zi hz
  clear hz
  have gg:=gg.trans gz
  have k_d3:=k_d3.mono gz
  have k_bx:=k_bx.mono gz
  have k_by:=k_by.mono gz
  have k_bz:=k_bz.mono gz
  have rX:=gz _ _ rX
  exact hq q6 t3 q5 _ gg e_q6 k_d3 ⟨_,rX,(k_bx.append k_by).append k_bz⟩
theorem oD (bX:Has P w K mg base "_law_merged" 1 ["_law_one","_law_other"] iA) (ad:mg "isinstance"=none) (ay:mg "tuple"=none) (F:Fun K "_law_grown" "_law_grown" bA f fd) (b:Binds K fd ["_law_room_here","_law_tree_here"] []) (hm:mg "_law_grown"=some (.ref f)):
  ∀m:Nat,Has P w K mg base "_law_grown" (2+m) ["_law_room_here","_law_tree_here"] (jG m)
 | 0=>Has.of (Oi fun vs H Q E h=>by
   obtain ⟨v,room,t,_,_,_,_,h1,_⟩:=h
   omega) b F.kp hm
 | m+1=>Has.of (qd (oD bX ad ay F b hm m) bX ad ay F) b F.kp hm
end
def eX (m:Nat):Sp:=fun vs H Q _=>∃(a:Addr) (n k l p:Int),vs=[.ref a,.int n,.int k,.int l,.int p]∧PenAt H a∧0<n∧n<1073741824∧0≤k∧k<30∧0≤l∧l<1000∧1≤p∧p≤m∧m≤1000∧
 ∀(v:V) (t:Tr) (H':Hp),t.Ok→(t.size:Int)≤2 * p - 1→(t.ht:Int)<p→(t.all.length:Int)≤l * p→DV (aA a H') v t.D→PenAt H' a→Grw a H H'→Q v H'
def jD (m:Nat):Sp:=fun vs H Q _=>∃(v:V) (t:Tr),vs=[v]∧DV H v t.D∧t.ht<m∧t.all.length≤100000∧∀(r:Addr) (H':Hp),Same H H'→H r=none→DV H' (.ref r) (dG t.all)→Q (.ref r) H'
section
variable {P:Program} {w:World} {K:W.Frag} {mg:Str→Option Value} {base:Heap} {f:Addr} {fd:FuncData}
theorem lW {m:Nat} (ai:Has P w K mg base "_law_draw" 1 ["_law_pen_here","_law_size"] bN) (cJ:Has P w K mg base "_law_stream" 4 ["_law_pen_here","_law_marks","_law_deep","_law_most"] dY)
  (dw:Has P w K mg base "_law_tree" (4+m) ["_law_pen_here","_law_marks","_law_deep","_law_most","_law_parts"] (eX m))
  (F:Fun K "_law_tree" "_law_tree" ca f fd):FnOk P w K mg base CX0 (4+m+1) f fd ["_law_pen_here","_law_marks","_law_deep","_law_most","_law_parts"] (eX (m+1)):=by
 refine F.ok Tv (fun vs H Q E h=>?_) (fun cdv A outer s H vs Q E hr h=>?_)
 ·obtain ⟨a,n,k,l,p,rfl,_⟩:=h
  rfl
 obtain ⟨a,n,k,l,p,rfl,hp,n0,n1,k0,k1,l0,l1,p0,p1,pm,hq⟩:=h
 refine ⟨_,(@Z3 _ _ _ _ _ (@Yc _ _ _ _ _ _ _ _ (PW.pt (@Xw _ _ _ _ _ _ _ (@Zm _ _ _ _ _ _ _ _ Vj (pv 4) Z2 (Zk _)) (@Xp _ _ _ _ (@Zm _ _ _ _ _ _ _ _ Wr (Z7 ai hr (@Z0 _ _ _ _ _ (pv 0) (@Z0 _ _ _ _ _ Z2 Z1 (by rfl)) (by rfl))) Z2 (Zk _))))) (@Z9 _ _ _ (@Zg _ _ _ _ (Z7 cJ hr (@Z0 _ _ _ _ _ (pv 0) (@Z0 _ _ _ _ _ (pv 1) (@Z0 _ _ _ _ _ (pv 2) (@Z0 _ _ _ _ _ (pv 3) Z1 (by rfl)) (by rfl)) (by rfl)) (by rfl))))) Zu)
 (@Z3 _ _ _ _ _ (@Zj _ _ 5 _ _ _ _ Tv.nd rfl (Or.inl rfl) (@Za _ _ _ _ _ _ _ _ Zp Z2 (Z7 ai hr (@Z0 _ _ _ _ _ (pv 0) (@Z0 _ _ _ _ _ (@Za _ _ _ _ _ _ _ _ Wa (pv 4) Z2) Z1 (by rfl)) (by rfl)))) (by rfl) (by first | exact .inl rfl | exact .inr rfl))
 (@Z3 _ _ _ _ _ (@Zj _ _ 6 _ _ _ _ Tv.nd rfl (Or.inl rfl) (Z7 dw hr (@Z0 _ _ _ _ _ (pv 0) (@Z0 _ _ _ _ _ (pv 1) (@Z0 _ _ _ _ _ (pv 2) (@Z0 _ _ _ _ _ (pv 3) (@Z0 _ _ _ _ _ (pv 5) Z1 (by rfl)) (by rfl)) (by rfl)) (by rfl)) (by rfl))) (by rfl) (by first | exact .inl rfl | exact .inr rfl))
 (@Z9 _ _ _ (@Zg _ _ _ _ (@Zh _ _ _ _ _ (@Z0 _ _ _ _ _ V5 (@Z0 _ _ _ _ _ (pv 6) (@Z0 _ _ _ _ _ (Z7 dw hr (@Z0 _ _ _ _ _ (pv 0) (@Z0 _ _ _ _ _ (pv 1) (@Z0 _ _ _ _ _ (pv 2) (@Z0 _ _ _ _ _ (pv 3) (@Z0 _ _ _ _ _ (@Za _ _ _ _ _ _ _ _ Wa (pv 4) (pv 5)) Z1 (by rfl)) (by rfl)) (by rfl)) (by rfl)) (by rfl))) Z1 (by rfl)) (by rfl)) (by rfl)))))))),?_⟩
 have leaf:∀(r:Addr) (ts:List Th) (H':Hp),(∀t∈ts,t.Ok)→(ts.length:Int)≤l→DV (aA a H') (.ref r) (.list (ts.map Th.D))→PenAt H' a→Grw a H H'→Q (.ref r) H':=fun r ts H' hok hlen dv hp' g'=>by
  refine hq (.ref r) (.leaf ts) H' hok ?_ ?_ ?_ dv hp' g'
  ·show ((1:Nat):Int)≤_
   omega
  ·show ((0:Nat):Int)<_
   omega
  ·show (ts.length:Int)≤l * p
   have q:l * 1≤l * p:=Int.mul_le_mul_of_nonneg_left p0 l0
   omega
 refine ⟨_,rfl,_,_,rfl,rfl,_,rfl,?_⟩
 refine Yu (fun c=>Yw ?_) (fun c=>?_)
 ·exact ⟨_,rfl,_,rfl,_,rfl,_,rfl,a,n,k,l,rfl,hp,n0,n1,k0,k1,l0,l1,leaf⟩
 ·have c:=of_decide_eq_false (Bool.eq_false_iff.mpr c)
  refine ⟨_,rfl,a,5,rfl,hp,Xg rfl,ltI rfl,fun d H1 _ _ hp1 g1=>⟨rfl,_,rfl,?_⟩⟩
  refine Yu (fun c=>?_) (fun c=>?_)
  ·exact ⟨_,rfl,_,rfl,_,rfl,_,rfl,a,n,k,l,rfl,hp1,n0,n1,k0,k1,l0,l1,fun r ts H' hok hlen dv hp' g'=>leaf r ts H' hok hlen dv hp' (g1.trans g')⟩
  ·refine ⟨_,rfl,_,rfl,_,_,rfl,rfl,a,p - 1,rfl,hp1,by omega,by omega,fun d2 H2 x0 x1 hp2 g2=>⟨_,_,rfl,rfl,?_⟩⟩
   refine ⟨_,rfl,_,rfl,_,rfl,_,rfl,_,rfl,a,n,k,l,_,rfl,hp2,n0,n1,k0,k1,l0,l1,by omega,by omega,by omega,fun v1 t1 H3 ok1 sz1 ht1 al1 dv1 hp3 g3=>?_⟩
   refine ⟨_,rfl,_,rfl,_,rfl,_,rfl,_,rfl,_,rfl,_,rfl,_,_,rfl,rfl,a,n,k,l,_,rfl,hp3,n0,n1,k0,k1,l0,l1,by omega,by omega,by omega,fun v2 t2 H4 ok2 sz2 ht2 al2 dv2 hp4 g4=>⟨leN rfl,fun r hn=>?_⟩⟩
   refine hq (.ref r) (.node t1 t2) _ ⟨ok1,ok2⟩ ?_ ?_ ?_ ?_ (hp4.laid hn) (g1.trans (g2.trans (g3.trans (g4.trans (Xc hn)))))
   ·show ((t1.size+t2.size+1:Nat):Int)≤_
    omega
   ·show ((max t1.ht t2.ht+1:Nat):Int)<_
    omega
   ·show ((t1.all++t2.all).length:Int)≤_
    have q:l * (1+d2)+l * (p - (1+d2))=l * p:=by
     rw [←Int.mul_add]
     congr 1
     omega
    rw [List.length_append]
    omega
   ·have e:aA a (upd H4 r (.tup [.str "merged",v1,v2])) r=some (.tup [.str "merged",v1,v2]):=by rw [Ym (hp4.ne hn)];exact Ze
    exact .tup e (.cons (.str _) (.cons (dv1.mono (g4.trans (Xc hn))) (.cons (dv2.mono (Xc hn)) .nil)))
theorem jb (ai:Has P w K mg base "_law_draw" 1 ["_law_pen_here","_law_size"] bN) (cJ:Has P w K mg base "_law_stream" 4 ["_law_pen_here","_law_marks","_law_deep","_law_most"] dY)
  (F:Fun K "_law_tree" "_law_tree" ca f fd) (b:Binds K fd ["_law_pen_here","_law_marks","_law_deep","_law_most","_law_parts"] []) (hm:mg "_law_tree"=some (.ref f)):
  ∀m:Nat,Has P w K mg base "_law_tree" (4+m) ["_law_pen_here","_law_marks","_law_deep","_law_most","_law_parts"] (eX m)
 | 0=>Has.of (Oi fun vs H Q E h=>by
   obtain ⟨a,n,k,l,p,_,_,_,_,_,_,_,_,h1,h2,_⟩:=h
   omega) b F.kp hm
 | m+1=>Has.of (lW ai cJ (jb ai cJ F b hm m) F) b F.kp hm
theorem pW {m:Nat} (bM:Has P w K mg base "_law_stream_of" m ["_law_tree_here"] (jD m)) (ad:mg "isinstance"=none) (aZ:mg "list"=none)
  (F:Fun K "_law_stream_of" "_law_stream_of" aQ f fd):FnOk P w K mg base CX0 (m+1) f fd ["_law_tree_here"] (jD (m+1)):=by
 refine F.ok Rh (fun vs H Q E h=>?_) (fun cdv A outer s H vs Q E hr h=>?_)
 ·obtain ⟨v,t,rfl,_⟩:=h
  rfl
 obtain ⟨v,t,rfl,dv,ht,hl,hq⟩:=h
 refine ⟨_,(@Z3 _ _ _ _ _ (@Yc _ _ _ _ _ _ _ _ (Yy (Zd Xj rfl ad PyProof.Rows.boot_isinstance (@Z0 _ _ _ _ _ (pv 0) (@Z0 _ _ _ _ _ (Xh (v:=.ty "list") rfl aZ PyProof.Rows.boot_list rfl) Z1 (by rfl)) (by rfl)))) (@Z9 _ _ _ (@Zg _ _ _ _ (Y5 Wg rfl aZ PyProof.Rows.boot_list (@Z0 _ _ _ _ _ (pv 0) Z1 (by rfl))))) Zu)
 (@Z9 _ _ _ (@Zg _ _ _ _ (@Za _ _ _ _ _ _ _ _ Yk (Z7 bM hr (@Z0 _ _ _ _ _ (@Y0 _ _ _ _ _ _ _ Yl (pv 0) Z2 (fun _ _=>rfl)) Z1 (by rfl))) (Z7 bM hr (@Z0 _ _ _ _ _ (@Y0 _ _ _ _ _ _ _ Yl (pv 0) Z2 (fun _ _=>rfl)) Z1 (by rfl))))))),?_⟩
 cases t with
 | leaf ts=>
  obtain ⟨a,xs,rfl,e,q⟩:=DV.list_inv dv
  refine ⟨_,rfl,_,_,"list",_,rfl,TyOf.lst e,sX,_,rfl,Yw ?_⟩
  refine ⟨_,rfl,a,xs,rfl,.inl (SqL.of e),fun r hn=>?_⟩
  exact hq r _ (Zw hn _) hn (.lst Ze (q.mono (Zw hn _)))
 | node l r=>
  obtain ⟨a,mm,x,y,rfl,e,hx,hy⟩:=DV.node_inv dv
  have ht:max l.ht r.ht+1<m+1:=ht
  have hl:(l.all++r.all).length≤100000:=hl
  rw [List.length_append] at hl
  refine ⟨_,rfl,_,_,"list",_,rfl,TyOf.tup e,sJ,_,rfl,X8 ?_⟩
  refine ⟨_,rfl,a,_,1,_,rfl,rfl,SqT.of e,oN _ _ _,x,l,rfl,hx,by omega,by omega,fun r1 H1 g1 _ dv1=>?_⟩
  refine ⟨_,rfl,a,_,2,_,rfl,rfl,SqT.of (g1 _ _ e),gB _ _ _,y,r,rfl,hy.mono g1,by omega,by omega,fun r2 H2 g2 _ dv2=>?_⟩
  obtain ⟨a1,xs1,e1,f1,q1⟩:=DV.list_inv dv1
  obtain ⟨a2,xs2,e2,f2,q2⟩:=DV.list_inv dv2
  cases e1
  cases e2
  have l1:=q1.length
  have l2:=q2.length
  rw [List.length_map] at l1 l2
  refine ⟨r1,r2,xs1,xs2,rfl,rfl,g2 _ _ f1,f2,Zb (by omega),fun p hn=>?_⟩
  refine hq p _ (g1.trans (g2.trans (Zw hn _))) (g1.free (g2.free hn)) (.lst Ze ?_)
  show DVs _ (xs1++xs2) ((l.all++r.all).map Th.D)
  rw [List.map_append]
  exact (q1.mono (g2.trans (Zw hn _))).append (q2.mono (Zw hn _))
theorem mH (ad:mg "isinstance"=none) (aZ:mg "list"=none) (F:Fun K "_law_stream_of" "_law_stream_of" aQ f fd) (b:Binds K fd ["_law_tree_here"] []) (hm:mg "_law_stream_of"=some (.ref f)):
  ∀m:Nat,Has P w K mg base "_law_stream_of" m ["_law_tree_here"] (jD m)
 | 0=>Has.of (Oi fun vs H Q E h=>by
   obtain ⟨v,t,_,_,h1,_⟩:=h
   omega) b F.kp hm
 | m+1=>Has.of (pW (mH ad aZ F b hm m) ad aZ F) b F.kp hm
end
def eG:Sp:=fun vs H Q _=>∃(x:V) (T:String),vs=[x]∧Kd H x T∧Q (.bl (whV x)) H
def mR:Sp:=fun vs H Q _=>∃(x:V) (T:String) (l:Int),vs=[x,.int l]∧Kd H x T∧Q (.bl (wF x l)) H
def ix:Sp:=fun vs H Q _=>∃(x:V) (T:String),vs=[x]∧Kd H x T∧(∀z,x=.str z→z.length≤1000)∧∀H',Same H H'→Q (.bl (mkB x)) H'
section
variable {P:Program} {w:World} {K:W.Frag} {mg:Str→Option Value} {base:Heap} {f:Addr} {fd:FuncData}
theorem fb (ad:mg "isinstance"=none) (eF:mg "int"=none) (dI:mg "bool"=none) (F:Fun K "is_whole" "is_whole" bG f fd):FnOk P w K mg base CX0 1 f fd ["thing"] eG:=by
 refine F.ok Nc (fun vs H Q E h=>?_) (fun cdv A outer s H vs Q E hr h=>?_)
 ·obtain ⟨x,T,rfl,_⟩:=h
  rfl
 obtain ⟨x,T,rfl,hk,hq⟩:=h
 refine ⟨_,(@Z9 _ _ _ (@Zg _ _ _ _ (@Xy _ _ _ _ _ _ _ (Zd Xj rfl ad PyProof.Rows.boot_isinstance (@Z0 _ _ _ _ _ (pv 0) (@Z0 _ _ _ _ _ (Xh (v:=.ty "int") rfl eF PyProof.Rows.boot_int rfl) Z1 (by rfl)) (by rfl))) (@V6 _ _ _ _ _ (@rk _ _ _ _ (Zd Xj rfl ad PyProof.Rows.boot_isinstance (@Z0 _ _ _ _ _ (pv 0) (@Z0 _ _ _ _ _ (Xh (v:=.ty "bool") rfl dI PyProof.Rows.boot_bool rfl) Z1 (by rfl)) (by rfl)))))))),?_⟩
 rw [←hk.wh] at hq
 refine ⟨_,rfl,_,_,"int",_,rfl,hk.ty,hk.kit (by decide) rfl,_,rfl,?_⟩
 refine Yu (fun c=>?_) (fun c=>?_)
 ·refine ⟨_,rfl,_,_,"bool",_,rfl,hk.ty,hk.kit (by decide) rfl,_,rfl,?_⟩
  rw [c,Bool.true_and] at hq
  exact hq
 ·rw [Bool.eq_false_iff.mpr c,Bool.false_and] at hq
  exact hq
theorem S2 (g_:Has P w K mg base "is_whole" 1 ["thing"] eG) (F:Fun K "is_whole_from" "is_whole_from" aP f fd):FnOk P w K mg base CX0 2 f fd ["thing","least"] mR:=by
 refine F.ok Tx (fun vs H Q E h=>?_) (fun cdv A outer s H vs Q E hr h=>?_)
 ·obtain ⟨x,T,l,rfl,_⟩:=h
  rfl
 obtain ⟨x,T,l,rfl,hk,hq⟩:=h
 refine ⟨_,(@Z9 _ _ _ (@Zg _ _ _ _ (@Xy _ _ _ _ _ _ _ (Z7 g_ hr (@Z0 _ _ _ _ _ (pv 0) Z1 (by rfl))) (@V6 _ _ _ _ _ (@X1 _ _ _ _ _ _ _ _ oI (pv 0) (pv 1) (Zk _)))))),?_⟩
 refine ⟨_,rfl,x,T,rfl,hk,_,rfl,?_⟩
 cases x with
 | int i=>exact Yw ⟨_,rfl,_,rfl,_,_,rfl,rfl,hq⟩
 | _=>exact X8 hq
theorem gG (ad:mg "isinstance"=none) (mF:mg "str"=none) (aD:mg "len"=none) (bw:mg "all"=none) (kf:∃u,mg "LETTERS"=some u∧RelV (.str letters) u) (dQ:∃u,mg "LONGEST_MARK"=some u∧RelV (.int 8) u)
  (F:Fun K "is_mark" "is_mark" bU f fd):FnOk P w K mg base CX0 1 f fd ["thing"] ix:=by
 refine F.ok i0 (fun vs H Q E h=>?_) (fun cdv A outer s H vs Q E hr h=>?_)
 ·obtain ⟨x,T,rfl,_⟩:=h
  rfl
 obtain ⟨x,T,rfl,hk,hl,hq⟩:=h
 refine ⟨_,(@Z3 _ _ _ _ _ (@Yc _ _ _ _ _ _ _ _ (PW.pt (@Xw _ _ _ _ _ _ _ (@X6 _ _ _ _ (Yy (Zd Xj rfl ad PyProof.Rows.boot_isinstance (@Z0 _ _ _ _ _ (pv 0) (@Z0 _ _ _ _ _ (Xh (v:=.ty "str") rfl mF PyProof.Rows.boot_str rfl) Z1 (by rfl)) (by rfl))))) (@Xw _ _ _ _ _ _ _ (@Zm _ _ _ _ _ _ _ _ Vj (Zd Tj rfl aD PySem.boot_len (@Z0 _ _ _ _ _ (pv 0) Z1 (by rfl))) Z2 (Zk _)) (@Xp _ _ _ _ (@Zm _ _ _ _ _ _ _ _ U3 (Zd Tj rfl aD PySem.boot_len (@Z0 _ _ _ _ _ (pv 0) Z1 (by rfl))) (T3 rfl dQ) (Zk _)))))) (@Z9 _ _ _ (@Zg _ _ _ _ Wc)) Zu)
 (@Z9 _ _ _ (@Zg _ _ _ _ (Zd (V0 rfl) rfl bw PyProof.Rows.boot_all (@Z0 _ _ _ _ _ (Yh (own:=["sign"]) (CompOk.of rfl rfl (by rfl) (by rfl) (by rfl)) (sG (pv 0))
  (fun _ _ _ _ _=>(Z5 (i:=0) S4 rfl (Or.inl rfl) (Or.inr rfl))) (fun _ _ _ _ _=>Ys)
  (fun _ _ _ _ _=>(@X1 _ _ _ _ _ _ _ _ kC (pv 0) (T3 rfl kf) (by with_unfolding_all rfl)))) Z1 (by rfl)))))),?_⟩
 have no:dA T "str"=false→mkB x=false:=fun e=>by
  cases hk with
  | str z=>exact absurd e (by decide)
  | _=>rfl
 refine ⟨_,rfl,_,_,"str",_,rfl,hk.ty,hk.kit (by decide) rfl,_,rfl,?_⟩
 cases hc:dA T "str" with
 | false=>
  have q:=hq H (Same.refl _)
  rw [no hc] at q
  exact Yw q
 | true=>
  obtain ⟨z,rfl⟩:∃z,x=.str z:=by
   cases hk with
   | str z=>exact ⟨z,rfl⟩
   | _=>exact absurd hc (by decide)
  refine X8 ?_
  have hz:z.length≤sizeLine:=Zb (by have:=hl z rfl;omega)
  refine ⟨_,rfl,z,rfl,hz,_,_,rfl,rfl,_,rfl,?_⟩
  refine Yu (fun c=>?_) (fun c=>?_)
  ·have c:=of_decide_eq_true c
   have q:=hq H (Same.refl _)
   have e:mkB (.str z)=false:=by
    show mkS z=false
    unfold mkS
    rw [decide_eq_false (by omega),Bool.false_and,Bool.false_and]
   rw [e] at q
   exact Yw q
  ·have c:=of_decide_eq_false (Bool.eq_false_iff.mpr c)
   refine ⟨_,rfl,z,rfl,hz,_,_,rfl,rfl,_,rfl,?_⟩
   refine Yu (fun c2=>?_) (fun c2=>?_)
   ·have c2:=of_decide_eq_true c2
    have q:=hq H (Same.refl _)
    have e:mkB (.str z)=false:=by
     show mkS z=false
     unfold mkS
     rw [decide_eq_false (p:=z.length≤8) (by omega),Bool.and_false,Bool.false_and]
    rw [e] at q
    exact q
   ·have c2:=of_decide_eq_false (Bool.eq_false_iff.mpr c2)
    refine ⟨_,rfl,z,rfl,?_⟩
    have hsz:z.cps.size≤8:=by
     have:z.length=z.cps.size:=rfl
     omega
    refine og (fun i ys H'=>H'=H∧ys=((z.cps.toList.take i).map sgB).map V.bl) ⟨rfl,rfl⟩ ?_ ?_
    ·rintro i c ys H' C hx ⟨rfl,rfl⟩ hC
     have hx':z.cps.toList[i]?=some c:=by simpa using hx
     refine ⟨Zn ?_,Wk.refl _,_,rfl,_,_,rfl,rfl,hC _ _ ⟨rfl,?_⟩⟩
     ·rw [List.length_map,List.length_map,List.length_take,Array.length_toList]
      omega
     ·rw [Y6 hx',List.map_append,List.map_append]
      rfl
    ·rintro ys H' ⟨rfl,rfl⟩
     have e:z.cps.toList.take z.cps.size=z.cps.toList:=by rw [←Array.length_toList,List.take_length]
     rw [e]
     refine ⟨Zb ?_,fun p hp=>⟨p,_,rfl,SqL.of Ze,?_⟩⟩
     ·rw [List.length_map,List.length_map,Array.length_toList]
      omega
     ·have q:=hq _ (Zw hp (.lst ((z.cps.toList.map sgB).map V.bl)))
      have e2:mkB (.str z)=(z.cps.toList.map sgB).all id:=by
       show mkS z=_
       unfold mkS
       rw [decide_eq_true (p:=1≤z.length) (by omega),decide_eq_true (p:=z.length≤8) (by omega),List.all_map]
       rfl
      rw [e2] at q
      exact q
end
end K18
namespace L2
open PySem PySem.Spec PyProof.Rows
section
variable {X:Cx} {x c n:Str} {p pos cpos epos np ap hpos:Pos} {e:Expr} {es:List Expr} {ta:TA} {tb:TS} {b₀:Stmt} {suite:List Stmt} {j k i:Nat} {ps:List Str} {sp:Sp} {S:Addr}
end
section
variable {P:Program} {w:World} {A:Around} {E:Value→Shared→Prop} {s:Shared} {a b:Addr} {va vb:List (Key×Value)}
def qK:Value→Option Int
 | .int n _=>some n
 | _=>none
def dk (vb:List (Key×Value)) (p:Key×Value):Bool:=decide ((valueAt vb p.1).bind qK=qK p.2)
theorem P1 {knd:PySem.KeyKind P w Key} {es:List DictEntry} {kvs:List (Key×Value)} (h:Pairs knd es kvs):∀{i:Nat} {e:DictEntry},es[i]?=some e→∃kv,kvs[i]?=some kv∧knd.is kv.1 e.key=true∧e.val=kv.2:=by
 induction h with
 | nil=>intro i e z;simp at z
 | cons h1 h2 _ ih=>
  intro i e z
  cases i with
  | zero=>
   simp only [List.getElem?_cons_zero,Option.some.injEq] at z
   subst z
   exact ⟨_,rfl,h1,h2⟩
  | succ i=>exact ih (by simpa using z)
theorem nh {kvs:List (Key×Value)} {k:Key} (h:k∉kvs.map (·.1)):valueAt kvs k=none:=by
 unfold valueAt
 rw [List.find?_eq_none.mpr fun x hx z=>h (List.mem_map.mpr ⟨x,hx,of_decide_eq_true z⟩)]
 rfl
theorem O0 {nm:String} {Q:Bool→Shared→Prop} (ha:(a == sysModules)=false) (hb:(b == sysModules)=false) (da:s.heap.DictOf (af P w) a va) (db:s.heap.DictOf (af P w) b vb)
  (ia:∀p∈va,∃n t,p.2=.int n t) (ib:∀p∈vb,∃n t,p.2=.int n t) (h:Q (decide (va.length=vb.length) && va.all (dk vb)) s):
  wpAny (model P w) A (Builtin.Dict.samePairs nm a b) Q E s:=by
 obtain ⟨oa,ea,pa,ga,xa,qa,ka,ra,na⟩:=da
 obtain ⟨ob,eb,pb,gb,xb,qb,kb,rb,nb⟩:=db
 have la:ea.size=va.length:=by have:=ra.length;simpa using this
 have lb:eb.size=vb.length:=by have:=rb.length;simpa using this
 have sh:∀{d:Addr} {R:Unit→Shared→Prop},(d == sysModules)=false→R () s→wpAny (model P w) A (Builtin.Dict.showsAll d) R E s:=fun {d R} hd hr=>by
  unfold Builtin.Dict.showsAll
  rw [if_neg (by rw [hd];decide)]
  exact wpAny_pure hr
 unfold Builtin.Dict.samePairs
 refine wpAny_bind (sh ha (wpAny_bind (sh hb (wpAny_bind (wpAny_dictEntries ga qa (wpAny_bind (wpAny_dictEntries gb qb ?_)))))))
 by_cases hl:va.length=vb.length
 ·rw [if_neg (by rw [la,lb,hl];simp)]
  refine wpAny_bind (wpAny_dictEpoch ga qa (wpAny_bind ?_))
  rw [Std.Legacy.Range.forIn_eq_forIn_range']
  refine wpAny_mono (wpAny_forIn_list _ (fun rest r s'=>∃i,rest=List.range' i (ea.size - i)∧i≤ea.size∧r=(none,())∧s=s'∧∀p∈va.take i,dk vb p=true)
   (fun r s'=>s=s'∧((r=(none,())∧va.all (dk vb)=true)∨(r=(some false,())∧va.all (dk vb)=false))) ?_ ?_ _ _ ⟨0,?_,Nat.zero_le _,rfl,rfl,?_⟩) ?_ (fun _ _ z=>z)
  ·rintro x rest r s' ⟨i,he,hi,rfl,rfl,hp⟩
   have hin:i<ea.size:=by
    rcases Nat.lt_or_ge i ea.size with z | z
    ·exact z
    ·rw [Nat.sub_eq_zero_of_le z] at he;cases he
   rw [show ea.size - i=(ea.size - (i+1))+1 by omega,List.range'_succ] at he
   obtain ⟨rfl,rfl⟩:=List.cons.inj he.symm
   have hge:ea[i]?=some ea[i]:=Array.getElem?_eq_getElem hin
   obtain ⟨p,hpv,hkey,hval⟩:=P1 ra (i:=i) (e:=ea[i]) (by rw [Array.getElem?_toList];exact hge)
   obtain ⟨k',hk',hh⟩:=ka ea[i] (Array.getElem_mem hin)
   have:k'=p.1:=(af P w).inj _ _ _ hk' hkey
   subst this
   obtain ⟨n,t,hn⟩:=ia p (List.mem_of_getElem? hpv)
   have ev:ea[i].val=.int n t:=hval.trans hn
   have tk:va.take (i+1)=va.take i++[p]:=Y6 hpv
   refine wpAny_bind (wpAny_dictEntries ga qa ?_)
   rw [hge]
   have fF:dk vb p=false→va.all (dk vb)=false:=fun hs=>List.all_eq_false.mpr ⟨p,List.mem_of_getElem? hpv,by rw [hs];decide⟩
   have fT:dk vb p=true→∀q∈va.take (i+1),dk vb q=true:=fun hs q hq=>by
    rw [tk] at hq
    rcases List.mem_append.mp hq with z | z
    ·exact hp q z
    ·rw [List.mem_singleton.mp z];exact hs
   refine wpAny_bind (wpAny_holding (wpAny_bind ?_))
   rw [hh]
   refine wpAny_dictFind_of hkey gb qb kb ?_
   have fi:eb.findIdx? (fun e=>(af P w).is p.1 e.key)=vb.findIdx? fun kv=>decide (kv.1=p.1):=by
    rw [←rb.findIdx p.1]
    cases eb
    simp
   cases hf:eb.findIdx? (fun e=>(af P w).is p.1 e.key) with
   | none=>
    rw [hf] at fi
    refine wpAny_pure ?_
    rw [if_pos (by decide)]
    refine wpAny_pure ⟨rfl,.inr ⟨rfl,fF ?_⟩⟩
    unfold dk
    rw [nh (not_mem_of_findIdx_none fi.symm),hn]
    rfl
   | some j=>
    obtain ⟨hj,hjk,_⟩:=Array.findIdx?_eq_some_iff_getElem.mp hf
    have hge2:eb[j]?=some eb[j]:=Array.getElem?_eq_getElem hj
    obtain ⟨p2,hpv2,hkey2,hval2⟩:=P1 rb (i:=j) (e:=eb[j]) (by rw [Array.getElem?_toList];exact hge2)
    have e1:p2.1=p.1:=(af P w).inj _ _ _ hkey2 hjk
    obtain ⟨m,u,hm⟩:=ib p2 (List.mem_of_getElem? hpv2)
    have ev2:eb[j].val=.int m u:=hval2.trans hm
    have vv:valueAt vb p.1=some p2.2:=valueAt_of_get nb (i:=j) (by rw [hpv2,←e1])
    refine wpAny_bind (wpAny_dictEntries gb qb ?_)
    rw [hge2]
    refine wpAny_holding ?_
    rw [ev,ev2]
    have hq:dk vb p=decide (n=m):=by
     unfold dk
     rw [vv,hn,hm]
     show decide (some m=some n)=decide (n=m)
     by_cases z:n=m
     ·subst z;simp
     ·rw [decide_eq_false z,decide_eq_false (fun y=>z (by cases y;rfl))]
    refine wpAny_eqBool_int ?_
    by_cases z:n=m
    ·rw [if_neg (by simp [z])]
     refine wpAny_bind (wpAny_dictEpoch ga qa ?_)
     rw [if_neg (by simp)]
     exact wpAny_pure ⟨i+1,rfl,by omega,rfl,rfl,fT (by rw [hq,decide_eq_true z])⟩
    ·rw [if_pos (by simp [z])]
     exact wpAny_pure ⟨rfl,.inr ⟨rfl,fF (by rw [hq,decide_eq_false z])⟩⟩
  ·rintro r s' ⟨i,he,hi,rfl,rfl,hp⟩
   refine ⟨rfl,.inl ⟨rfl,?_⟩⟩
   have hz:ea.size - i=0:=by
    cases hq:ea.size - i with
    | zero=>rfl
    | succ q=>rw [hq,List.range'_succ] at he;cases he
   rw [List.take_of_length_le (by omega)] at hp
   exact List.all_eq_true.mpr hp
  ·simp
  ·intro p hp;simp at hp
  ·rintro r s' ⟨rfl,⟨rfl,hv⟩ | ⟨rfl,hv⟩⟩
   ·rw [hv,decide_eq_true hl] at h
    exact wpAny_pure h
   ·rw [hv,Bool.and_false] at h
    exact wpAny_pure h
 ·rw [if_pos (by rw [la,lb];simpa using hl)]
  rw [decide_eq_false hl,Bool.false_and] at h
  exact wpAny_bind (wpAny_rule (wpAny_pure h))
theorem Qk (ha:(a == sysModules)=false) (hb:(b == sysModules)=false):MeetsIn P w (Builtin.«dict.__eq__» ⟨[.ref a,.ref b],[]⟩) (fun _ R s=>s.heap.DictOf (af P w) a va∧s.heap.DictOf (af P w) b vb∧
  (∀p∈va,∃n t,p.2=.int n t)∧(∀p∈vb,∃n t,p.2=.int n t)∧R (.ok (.ret (.bool (decide (va.length=vb.length) && va.all (dk vb))))) s):=
 .of_wp fun A R s ⟨da,db,ia,ib,h⟩=>by
  show wpAny _ _ (Builtin.Dict.dictSlotArgs "__eq__" ⟨[.ref a,.ref b],[]⟩ >>= _) _ _ s
  refine wpAny_bind ?_
  unfold Builtin.Dict.dictSlotArgs
  refine wpAny_bind (wpAny_notOrdered_dict da.typeIs ?_)
  show wpAny _ _ (pure (Value.ref a,Value.ref b)) _ _ s
  refine wpAny_pure ?_
  refine wpAny_bind (wpAny_isInstance db.typeIs isSubtype_dict_dict ?_)
  rw [if_neg (by decide)]
  show wpAny _ _ (Builtin.Dict.samePairs _ a b >>= _) _ _ s
  refine wpAny_bind (O0 ha hb da db ia ib ?_)
  have bt:∀c:Bool,(c == true)=c:=fun c=>by cases c <;> rfl
  rw [bt]
  exact wpAny_pure ⟨_,rfl,h⟩
theorem On:∀{ps:Ps} {vs:List (Key×Value)},KV (aE ps) vs→∀p∈vs,∃n t,p.2=.int n t
 | [],_,h,p,hp=>by
  cases (show Paired _ [] _ from h)
  cases hp
 | q::ps,_,h,p,hp=>by
  cases (show Paired _ ((Sum.inr q.1,V.int q.2)::aE ps) _ from h) with
  | cons f r=>
   rcases List.mem_cons.mp hp with rfl | hp
   ·obtain ⟨_,t,e⟩:=f
    exact ⟨_,t,e⟩
   ·exact On r p hp
theorem rg {qs:Ps} (nd:(qs.map (·.1)).Nodup) (z:Str) (n:Int):bK (aE qs) (Sum.inr z)=some (.int n)↔(z,n)∈qs:=by
 constructor
 ·intro h
  by_cases hz:z∈qs.map (·.1)
  ·rw [gq nd hz] at h
   cases h
   obtain ⟨p,hp,rfl⟩:=List.mem_map.mp hz
   rw [W6 nd hp]
   exact hp
  ·have e:bK (aE qs) (Sum.inr z)=none:=by
    unfold bK
    rw [List.find?_eq_none.mpr fun x hx y=>hz ?_]
    ·rfl
    ·obtain ⟨p,hp,rfl⟩:=List.mem_map.mp hx
     have y:=of_decide_eq_true y
     cases y
     exact List.mem_map.mpr ⟨p,hp,rfl⟩
   rw [e] at h
   cases h
 ·intro h
  have:=gq nd (List.mem_map.mpr ⟨_,h,rfl⟩)
  rw [W6 nd h] at this
  exact this
theorem sj {qs:Ps} (nd:(qs.map (·.1)).Nodup) {vs:List (Key×Value)} (r:KV (aE qs) vs) (z:Str) (n:Int) (t:Tok):dk vs (Sum.inr z,.int n t)=decide ((z,n)∈qs):=by
 have q:=r.val (Sum.inr z)
 have c:=rg nd z n
 unfold dk
 show decide ((valueAt vs (Sum.inr z)).bind qK=some n)=_
 congr 1
 refine propext ⟨fun h=>c.mp ?_,fun h=>?_⟩
 ·cases hv:valueAt vs (Sum.inr z) with
  | none=>rw [hv] at h;cases h
  | some u=>
   rw [hv] at h q
   cases ho:bK (aE qs) (Sum.inr z) with
   | none=>rw [ho] at q;exact q.elim
   | some v=>
    rw [ho] at q
    have hu:qK u=some n:=h
    have q:RelV v u:=q
    cases u <;> first | (cases hu;done) | skip
    all_goals (first | (cases hu) | skip)
    all_goals (cases v <;> first | (cases q;rfl) | (obtain ⟨_,q⟩:=q;cases q;rfl) | (obtain ⟨_,q⟩:=q;cases q) | cases q)
 ·have h:=c.mpr h
  rw [h] at q
  cases hv:valueAt vs (Sum.inr z) with
  | none=>rw [hv] at q;exact q.elim
  | some u=>
   rw [hv] at q
   obtain ⟨t',rfl⟩:=(show RelV (.int n) u from q)
   rfl
theorem jz {qs:Ps} (nd:(qs.map (·.1)).Nodup) {vb:List (Key×Value)} (rb:KV (aE qs) vb):∀{ps:Ps} {va:List (Key×Value)},KV (aE ps) va→va.all (dk vb)=ps.all fun p=>decide (p∈qs)
 | [],_,h=>by
  cases (show Paired _ [] _ from h)
  rfl
 | q::ps,_,h=>by
  cases (show Paired _ ((Sum.inr q.1,V.int q.2)::aE ps) _ from h) with
  | @cons _ u _ _ f r=>
   obtain ⟨k,v⟩:=u
   obtain ⟨e1,t,e2⟩:=f
   have e1:Sum.inr q.1=k:=e1
   have e2:v=.int q.2 t:=e2
   subst e1 e2
   rw [List.all_cons,List.all_cons,jz nd rb r,sj nd rb]
theorem P5:∀{l:List Str},(l.map (Sum.inr:Str→Key)).Nodup→l.Nodup
 | [],_=>List.nodup_nil
 | x::l,h=>by
  obtain ⟨h1,h2⟩:=List.nodup_cons.mp h
  exact List.nodup_cons.mpr ⟨fun z=>h1 (List.mem_map.mpr ⟨x,z,rfl⟩),P5 h2⟩
def u_:R2:=fun x y H Q=>∃a b ps qs,x=.ref a∧y=.ref b∧H a=some (.dK (aE ps))∧H b=some (.dK (aE qs))∧Q (.bl (decide (ps.length=qs.length) && ps.all fun p=>decide (p∈qs))) H
theorem jw {X:Cx} (hu:X.A.units<cLine):OpR X (compareOp .Eq) u_:=by
 intro pins s σ H x y v u Q I rx ry h
 obtain ⟨a,b,ps,qs,rfl,rfl,ea,eb,q⟩:=h
 cases rx
 cases ry
 obtain ⟨za,ha,va,ra,da⟩:=Sm I.hok ea
 obtain ⟨zb,hb,vb,rb,db⟩:=Sm I.hok eb
 have nd:(qs.map (·.1)).Nodup:=by
  obtain ⟨_,_,_,_,_,_,_,_,n⟩:=db
  rw [←rb.keys,Wy] at n
  exact P5 n
 have l1:=ra.length
 have l2:=rb.length
 rw [Ye] at l1 l2
 refine wpAny_richCompare_same_room (op:=.Eq) da.typeIs db.typeIs PySem.F.slot_dict_eq (call_meetsIn PySem.F.slot_dict_eq da.typeIs PySem.F.entry_dict_eq (PySem.F.args_dict_eq_2 _ _) (Qk ha hb) ⟨da,db,On ra,On rb,?_⟩) hu
 refine ⟨(fun z=>nomatch z),.bl _,H,I,rfl,?_⟩
 rw [jz nd rb ra,←l1,←l2]
 exact q
end
section
variable {P:Program} {w:World} {A:Around} {E:Value→Shared→Prop} {s:Shared}
theorem Vk {it t:Addr} {k:Nat} {vs:Array Value} {v:Value} {Q:Value→Shared→Prop} (ti:s.heap.IsTupleIter it t k) (tt:s.heap.IsTuple t vs) (hv:vs[k]?=some v)
  (q:∀g,g.IsTupleIter it t (k+1)→Heap.SameBut it s.heap g→Q v {s with heap:=g}):wpAny (model P w) A (Builtin.SmallTypes.nextOf (.ref it)) Q E s:=by
 obtain ⟨ou,gu,cu,du⟩:=id ti
 obtain ⟨ov,gv,_,nv,dv⟩:=tt
 unfold Builtin.SmallTypes.nextOf
 refine wpAny_bind (wpAny_callSpecial?_slot (name:=Str.ofString "__next__") ti.typeIs PySem.F.slot_tuple_iterator_next (wpAny_call_entry PySem.F.slot_tuple_iterator_next ti.typeIs PySem.F.entry_tuple_iterator_next ?_ (PySem.F.args_tuple_iterator_next_1 _)))
 show wpAny _ _ (field (.ref it) 0 >>= fun _=>_) _ _ s
 refine wpAny_bind (wpAny_field gu du (x:=.ref t) rfl ?_)
 rw [if_neg (show ¬((Value.ref t == Value.none)=true) from Bool.false_ne_true)];show wpAny _ _ (field (.ref it) 1 >>= fun _=>_) _ _ s
 refine wpAny_bind (wpAny_field gu du (x:=.int k 0) rfl ?_);show wpAny _ _ (seqItems? (.ref t) >>= fun _=>_) _ _ s
 refine wpAny_bind (wpAny_seqItems gv dv ?_)
 simp only [Int.toNat_natCast,hv]
 refine wpAny_bind (wpAny_setField gu du (by simp) (wpAny_pure ⟨v,rfl,wpAny_pure (q _ ?_ (Heap.SameBut.update ..))⟩))
 exact ⟨_,Heap.get?_update_self _ gu (Obj.isFreed_of_fields (Obj.data_mapFields du _)),(Obj.cls_mapFields ..).trans cu,by rw [Obj.data_mapFields du];simp [rawInt]⟩
theorem Rn {it t:Addr} {k:Nat} {vs:Array Value} {Q:Value→Shared→Prop} (hA:A.handled=none) (ti:s.heap.IsTupleIter it t k) (tt:s.heap.IsTuple t vs) (hv:vs[k]?=none)
  (q:∀g e,Heap.ExtBut it s.heap g→(∃o,g.get? e=some o∧o.cls=.type "StopIteration")→E (.ref e) {s with heap:=g}):wpAny (model P w) A (Builtin.SmallTypes.nextOf (.ref it)) Q E s:=by
 obtain ⟨ou,gu,cu,du⟩:=id ti
 obtain ⟨ov,gv,_,nv,dv⟩:=tt
 unfold Builtin.SmallTypes.nextOf
 refine wpAny_bind (wpAny_callSpecial?_slot (name:=Str.ofString "__next__") ti.typeIs PySem.F.slot_tuple_iterator_next (wpAny_call_entry PySem.F.slot_tuple_iterator_next ti.typeIs PySem.F.entry_tuple_iterator_next ?_ (PySem.F.args_tuple_iterator_next_1 _)))
 show wpAny _ _ (field (.ref it) 0 >>= fun _=>_) _ _ s
 refine wpAny_bind (wpAny_field gu du (x:=.ref t) rfl ?_)
 rw [if_neg (show ¬((Value.ref t == Value.none)=true) from Bool.false_ne_true)];show wpAny _ _ (field (.ref it) 1 >>= fun _=>_) _ _ s
 refine wpAny_bind (wpAny_field gu du (x:=.int k 0) rfl ?_);show wpAny _ _ (seqItems? (.ref t) >>= fun _=>_) _ _ s
 refine wpAny_bind (wpAny_seqItems gv dv ?_)
 simp only [Int.toNat_natCast,hv]
 refine wpAny_bind (wpAny_rule (wpAny_bind (wpAny_setField gu du (by simp) ?_)));show wpAny _ _ (newExc (.type "StopIteration") [] >>= fun _=>_) _ _ _
 refine wpAny_bind ?_;simp only [newExc,newTuple];refine wpAny_bind (wpAny_newObj_type ?_ (by size_fits))
 refine wpAny_bind (m:=firstArgMember _ _) (wpAny_of_eq (a:=Value.none) (by first | rfl | (simp only [firstArgMember];rfl)) (wpAny_newObj_type ?_ (by size_fits)))
 simp only [raiseNew];refine wpAny_bind (wpAny_handled ?_);first | rw [show A.in1.handled=none from hA] | rw [hA]
 refine wpAny_bind (wpAny_pure (wpAny_throw (q _ _ (((Heap.SameBut.update ..).extBut.push _).push _) ⟨_,Heap.get?_push_size _ rfl,rfl⟩)))
theorem pK {z TI TO i1 i2 t1 t2:Addr} {k:Nat} {us vs:Array Value} {u v a b:Value} {Q:Value→Shared→Prop} (D:ZipApart z TI TO i1 i2 t1 t2) (zz:IsZip s.heap z TI TO .none) (pI:IsPair s.heap TI (.ref i1) (.ref i2)) (pO:IsPair s.heap TO a b)
  (n1:s.heap.IsTupleIter i1 t1 k) (n2:s.heap.IsTupleIter i2 t2 k) (x1:s.heap.IsTuple t1 us) (x2:s.heap.IsTuple t2 vs) (hu:us[k]?=some u) (hv:vs[k]?=some v)
  (q:∀g,IsZip g z TI TO (rawInt s.heap.objs.size)→IsPair g TO u v→g.IsTupleIter i1 t1 (k+1)→g.IsTupleIter i2 t2 (k+1)→IsPair g s.heap.objs.size u v→
   (∀c o,c≠z→c≠TO→c≠i1→c≠i2→s.heap.get? c=some o→g.get? c=some o)→Q (.ref s.heap.objs.size) {s with heap:=g}):
  wpAny (model P w) A (Builtin.«zip.__next__» ⟨[.ref z],[]⟩) (fun fin s'=>∃r,fin=.done (.ret r)∧Q r s') E s:=by
 show wpAny _ _ (field (.ref z) 2 >>= fun _=>_) _ _ _
 refine wpAny_bind (wpAny_field zz rfl (x:=.bool false) rfl ?_)
 show wpAny _ _ (field (.ref z) 3 >>= fun _=>_) _ _ _
 refine wpAny_bind (wpAny_field zz rfl (x:=.ref TI) rfl (wpAny_bind (wpAny_seqItems pI rfl ?_)))
 show wpAny _ _ (Builtin.SmallTypes.ownedTupleIsFree (.ref z) >>= fun _=>_) _ _ _
 refine wpAny_bind ?_;unfold Builtin.SmallTypes.ownedTupleIsFree
 refine wpAny_bind (wpAny_field zz rfl (x:=.none) rfl (wpAny_pure ?_));simp only [if_true]
 refine wpAny_bind (wpAny_rule (wpAny_bind (wpAny_field zz rfl (x:=.ref TO) rfl (wpAny_bind (wpAny_setField_rec zz (by simp) fun b1 w1 f1=>?_)))))
 replace w1:IsZip b1 z TI TO .ellipsis:=w1
 refine wpAny_bind ?_;simp only [List.zipIdx_cons,List.zipIdx_nil,List.forIn_cons,List.forIn_nil]
 refine wpAny_bind (wpAny_bind (wpAny_onRaise ?_));show wpAny _ _ (Builtin.SmallTypes.nextOf (.ref i1) >>= fun _=>_) _ _ _
 refine wpAny_bind (Vk (n1.extBut f1.extBut D.i1z) (x1.extBut f1.extBut D.l1z) hu fun b2 m1 f2=>wpAny_pure ?_)
 have o2:IsPair b2 TO a b:=f2.extBut _ _ D.TOi1 (f1.extBut _ _ D.TOz pO)
 refine wpAny_bind (wpAny_seqItems o2 rfl (wpAny_bind (wpAny_updateSeq_pair o2 fun b3 o3 f3=>wpAny_bind (wpAny_letGo (wpAny_pure ?_)))))
 replace o3:IsPair b3 TO u b:=o3
 refine wpAny_bind (wpAny_bind (wpAny_onRaise ?_));show wpAny _ _ (Builtin.SmallTypes.nextOf (.ref i2) >>= fun _=>_) _ _ _
 refine wpAny_bind (Vk (((n2.extBut f1.extBut D.i2z).extBut f2.extBut D.i12.symm).extBut f3.extBut D.TOi2.symm) (((x2.extBut f1.extBut D.l2z).extBut f2.extBut D.l2i1).extBut f3.extBut D.l2TO) hv fun b4 m2 f4=>wpAny_pure ?_)
 have o4:IsPair b4 TO u b:=f4.extBut _ _ D.TOi2 o3
 refine wpAny_bind (wpAny_seqItems o4 rfl (wpAny_bind (wpAny_updateSeq_pair o4 fun b5 o5 f5=>wpAny_bind (wpAny_letGo (wpAny_pure (wpAny_pure ?_))))))
 replace o5:IsPair b5 TO u v:=o5
 refine wpAny_bind (wpAny_seqItems o5 rfl (wpAny_bind (wpAny_newTuple ?_)))
 have sz:b5.objs.size=s.heap.objs.size:=by rw [f5.1,f4.1,f3.1,f2.1,f1.1]
 have w5:IsZip b5 z TI TO .ellipsis:=f5.extBut _ _ D.TOz.symm (f4.extBut _ _ D.i2z.symm (f3.extBut _ _ D.TOz.symm (f2.extBut _ _ D.i1z.symm w1)))
 have k5:∀c o,c≠z→c≠TO→c≠i1→c≠i2→s.heap.get? c=some o→b5.get? c=some o:=fun c o c1 c2 c3 c4 e=>f5.extBut _ _ c2 (f4.extBut _ _ c4 (f3.extBut _ _ c2 (f2.extBut _ _ c3 (f1.extBut _ _ c1 e))))
 have m1':b5.IsTupleIter i1 t1 (k+1):=((m1.extBut f3.extBut D.TOi1.symm).extBut f4.extBut D.i12).extBut f5.extBut D.TOi1.symm
 have m2':b5.IsTupleIter i2 t2 (k+1):=m2.extBut f5.extBut D.TOi2.symm
 have zl:z<b5.objs.size:=Heap.lt_size w5
 show wpAny _ _ (Builtin.SmallTypes.ownedTupleHandOut (.ref z) (.ref b5.objs.size) >>= fun _=>_) _ _ _
 refine wpAny_bind ?_;unfold Builtin.SmallTypes.ownedTupleHandOut
 have w6:IsZip (b5.push {cls:=.type "tuple",data:=.seq #[u,v]}) z TI TO .ellipsis:=Heap.get?_push_of_some _ w5
 refine wpAny_bind (wpAny_setField_rec w6 (by simp) fun b7 w7 f7=>?_)
 replace w7:IsZip b7 z TI TO (rawInt b5.objs.size):=w7
 refine wpAny_setField_rec w7 (by simp) fun b8 w8 f8=>?_
 replace w8:IsZip b8 z TI TO (rawInt b5.objs.size):=w8
 have up:∀c o,c≠z→b5.get? c=some o→b8.get? c=some o:=fun c o c1 e=>f8.extBut _ _ c1 (f7.extBut _ _ c1 (Heap.get?_push_of_some _ e))
 have o8:IsPair b8 b5.objs.size u v:=f8.extBut _ _ (Nat.ne_of_gt zl) (f7.extBut _ _ (Nat.ne_of_gt zl) (Heap.get?_push_size _ rfl))
 rw [sz] at w8 o8
 refine wpAny_pure ⟨_,rfl,?_⟩;show Q (.ref b5.objs.size) _;rw [sz]
 exact q b8 w8 (up _ _ D.TOz o5) (m1'.at fun o e=>up _ o D.i1z e) (m2'.at fun o e=>up _ o D.i2z e) o8 fun c o c1 c2 c3 c4 e=>up c o c1 (k5 c o c1 c2 c3 c4 e)
theorem r8 {z TI TO i1 i2 t1 t2:Addr} {k:Nat} {us vs:Array Value} {a b:Value} {Q:Fin→Shared→Prop} (hA:A.handled=none) (D:ZipApart z TI TO i1 i2 t1 t2) (zz:IsZip s.heap z TI TO .none) (pI:IsPair s.heap TI (.ref i1) (.ref i2)) (pO:IsPair s.heap TO a b)
  (n1:s.heap.IsTupleIter i1 t1 k) (n2:s.heap.IsTupleIter i2 t2 k) (x1:s.heap.IsTuple t1 us) (x2:s.heap.IsTuple t2 vs) (he:us[k]?=none∨vs[k]?=none)
  (q:∀g e,(∀c o,c≠z→c≠TO→c≠i1→c≠i2→s.heap.get? c=some o→g.get? c=some o)→(∃o,g.get? e=some o∧o.cls=.type "StopIteration")→E (.ref e) {s with heap:=g}):
  wpAny (model P w) A (Builtin.«zip.__next__» ⟨[.ref z],[]⟩) Q E s:=by
 show wpAny _ _ (field (.ref z) 2 >>= fun _=>_) _ _ _
 refine wpAny_bind (wpAny_field zz rfl (x:=.bool false) rfl ?_)
 show wpAny _ _ (field (.ref z) 3 >>= fun _=>_) _ _ _
 refine wpAny_bind (wpAny_field zz rfl (x:=.ref TI) rfl (wpAny_bind (wpAny_seqItems pI rfl ?_)))
 show wpAny _ _ (Builtin.SmallTypes.ownedTupleIsFree (.ref z) >>= fun _=>_) _ _ _
 refine wpAny_bind ?_;unfold Builtin.SmallTypes.ownedTupleIsFree
 refine wpAny_bind (wpAny_field zz rfl (x:=.none) rfl (wpAny_pure ?_));simp only [if_true]
 refine wpAny_bind (wpAny_rule (wpAny_bind (wpAny_field zz rfl (x:=.ref TO) rfl (wpAny_bind (wpAny_setField_rec zz (by simp) fun b1 w1 f1=>?_)))))
 replace w1:IsZip b1 z TI TO .ellipsis:=w1
 refine wpAny_bind ?_;simp only [List.zipIdx_cons,List.zipIdx_nil,List.forIn_cons,List.forIn_nil]
 refine wpAny_bind (wpAny_bind (wpAny_onRaise ?_));show wpAny _ _ (Builtin.SmallTypes.nextOf (.ref i1) >>= fun _=>_) _ _ _
 cases hu:us[k]? with
 | none=>
  refine wpAny_bind (Rn hA (n1.extBut f1.extBut D.i1z) (x1.extBut f1.extBut D.l1z) hu fun b2 e f2 hpat=>?_)
  obtain ⟨oe,ge,ce⟩:=hpat
  have w2:IsZip b2 z TI TO .ellipsis:=f2 _ _ D.i1z.symm w1
  have ez:e≠z:=fun y=>by subst y;rw [w2] at ge;cases ge;simp at ce
  exact wpAny_setField_rec w2 (by simp) fun b3 _ f3=>q b3 e (fun c o c1 _ c3 _ y=>f3.extBut _ _ c1 (f2 _ _ c3 (f1.extBut _ _ c1 y))) ⟨oe,f3.extBut _ _ ez ge,ce⟩
 | some u=>
  have hv:vs[k]?=none:=he.elim (fun y=>by rw [hu] at y;cases y) (fun y=>y)
  refine wpAny_bind (Vk (n1.extBut f1.extBut D.i1z) (x1.extBut f1.extBut D.l1z) hu fun b2 m1 f2=>wpAny_pure ?_)
  have o2:IsPair b2 TO a b:=f2.extBut _ _ D.TOi1 (f1.extBut _ _ D.TOz pO)
  refine wpAny_bind (wpAny_seqItems o2 rfl (wpAny_bind (wpAny_updateSeq_pair o2 fun b3 o3 f3=>wpAny_bind (wpAny_letGo (wpAny_pure ?_)))))
  refine wpAny_bind (wpAny_bind (wpAny_onRaise ?_));show wpAny _ _ (Builtin.SmallTypes.nextOf (.ref i2) >>= fun _=>_) _ _ _
  refine wpAny_bind (Rn hA (((n2.extBut f1.extBut D.i2z).extBut f2.extBut D.i12.symm).extBut f3.extBut D.TOi2.symm) (((x2.extBut f1.extBut D.l2z).extBut f2.extBut D.l2i1).extBut f3.extBut D.l2TO) hv fun b4 e f4 hpat=>?_)
  obtain ⟨oe,ge,ce⟩:=hpat
  have w4:IsZip b4 z TI TO .ellipsis:=f4 _ _ D.i2z.symm (f3.extBut _ _ D.TOz.symm (f2.extBut _ _ D.i1z.symm w1))
  have ez:e≠z:=fun y=>by subst y;rw [w4] at ge;cases ge;simp at ce
  exact wpAny_setField_rec w4 (by simp) fun b5 _ f5=>q b5 e (fun c o c1 c2 c3 c4 y=>f5.extBut _ _ c1 (f4 _ _ c4 (f3.extBut _ _ c2 (f2.extBut _ _ c3 (f1.extBut _ _ c1 y))))) ⟨oe,f5.extBut _ _ ez ge,ce⟩
theorem iF {z TI TO i1 i2 t1 t2:Addr} {k:Nat} {us vs:Array Value} {u v a b:Value} {Q:Option Value→Shared→Prop} (D:ZipApart z TI TO i1 i2 t1 t2) (zz:IsZip s.heap z TI TO .none) (pI:IsPair s.heap TI (.ref i1) (.ref i2)) (pO:IsPair s.heap TO a b)
  (n1:s.heap.IsTupleIter i1 t1 k) (n2:s.heap.IsTupleIter i2 t2 k) (x1:s.heap.IsTuple t1 us) (x2:s.heap.IsTuple t2 vs) (hu:us[k]?=some u) (hv:vs[k]?=some v)
  (q:∀g,IsZip g z TI TO (rawInt s.heap.objs.size)→IsPair g TO u v→g.IsTupleIter i1 t1 (k+1)→g.IsTupleIter i2 t2 (k+1)→IsPair g s.heap.objs.size u v→
   (∀c o,c≠z→c≠TO→c≠i1→c≠i2→s.heap.get? c=some o→g.get? c=some o)→Q (some (.ref s.heap.objs.size)) {s with heap:=g}):wpAny (model P w) A (pyNext (.ref z)) Q E s:=by
 have ty:s.TypeIs (.ref z) "zip":=⟨_,zz,rfl⟩
 unfold pyNext
 exact wpAny_bind (wpAny_attempt (wpAny_callSpecial?_slot (name:=Str.ofString "__next__") ty PySem.F.slot_zip_next (wpAny_call_entry PySem.F.slot_zip_next ty PySem.F.entry_zip_next (pK D zz pI pO n1 n2 x1 x2 hu hv fun g a1 a2 a3 a4 a5 a6=>wpAny_pure (q g a1 a2 a3 a4 a5 a6)) (PySem.F.args_zip_next_1 _))))
theorem j1 {z TI TO i1 i2 t1 t2:Addr} {k:Nat} {us vs:Array Value} {a b:Value} {Q:Option Value→Shared→Prop} (hA:A.handled=none) (D:ZipApart z TI TO i1 i2 t1 t2) (zz:IsZip s.heap z TI TO .none) (pI:IsPair s.heap TI (.ref i1) (.ref i2)) (pO:IsPair s.heap TO a b)
  (n1:s.heap.IsTupleIter i1 t1 k) (n2:s.heap.IsTupleIter i2 t2 k) (x1:s.heap.IsTuple t1 us) (x2:s.heap.IsTuple t2 vs) (he:us[k]?=none∨vs[k]?=none)
  (q:∀g,(∀c o,c≠z→c≠TO→c≠i1→c≠i2→s.heap.get? c=some o→g.get? c=some o)→Q none {s with heap:=g}):wpAny (model P w) A (pyNext (.ref z)) Q E s:=by
 have ty:s.TypeIs (.ref z) "zip":=⟨_,zz,rfl⟩
 unfold pyNext
 refine wpAny_bind (wpAny_attempt (wpAny_callSpecial?_slot (name:=Str.ofString "__next__") ty PySem.F.slot_zip_next (wpAny_call_entry PySem.F.slot_zip_next ty PySem.F.entry_zip_next (r8 hA D zz pI pO n1 n2 x1 x2 he fun g e kk ⟨o,go,co⟩=>?_) (PySem.F.args_zip_next_1 _))))
 exact wpAny_bind (wpAny_isInstance (T:="StopIteration") (b:=true) ⟨o,go,co⟩ isSubtype_stop (wpAny_pure (q _ kk)))
abbrev zt1 (h:Heap) (t1:Addr):Heap:=h.push {cls:=.type "tuple_iterator",data:=.fields #[.ref t1,.int 0 0]}
abbrev zt2 (h:Heap) (t1 t2:Addr):Heap:=(zt1 h t1).push {cls:=.type "tuple_iterator",data:=.fields #[.ref t2,.int 0 0]}
abbrev zt3 (h:Heap) (t1 t2:Addr):Heap:=(zt2 h t1 t2).push {cls:=.type "tuple",data:=.seq #[.ref h.objs.size,.ref (zt1 h t1).objs.size]}
abbrev zt4 (h:Heap) (t1 t2:Addr):Heap:=(zt3 h t1 t2).push {cls:=.type "tuple",data:=.seq #[.none,.none]}
abbrev zt5 (h:Heap) (t1 t2:Addr):Heap:=(zt4 h t1 t2).push {cls:=.type "zip",data:=.fields #[.none,.bool false,.bool false,.ref (zt2 h t1 t2).objs.size,.ref (zt3 h t1 t2).objs.size]}
theorem lD (t1 t2:Addr) (us vs:Array Value):Meets (Builtin.«zip.__new__» ⟨[.type "zip",.ref t1,.ref t2],[]⟩) (fun _ R s=>s.heap.IsTuple t1 us∧s.heap.IsTuple t2 vs∧R (.ok (.ret (.ref (zt4 s.heap t1 t2).objs.size))) {s with heap:=zt5 s.heap t1 t2}):=
 .of_wp fun prog w A R s h=>by
  obtain ⟨hp,g,d,tk,os⟩:=s;obtain ⟨y1,y2,h⟩:=h
  have hsub:=sub_zip
  have Y1:Heap.IsTuple (Shared.heap ⟨hp,g,d,tk,os⟩) t1 us:=y1
  have Y2:Heap.IsTuple (Shared.heap ⟨hp.push {cls:=.type "tuple_iterator",data:=.fields #[.ref t1,.int 0 0]},g,d,tk,os⟩) t2 vs:=Heap.IsTuple.push y2 _
  wp_walk using wpAny_pyIter_tuple Y1,wpAny_pyIter_tuple Y2
  exact ⟨_,rfl,h⟩
theorem qD {t1 t2:Addr} {us vs:Array Value} {Q:Value→Shared→Prop} (y1:s.heap.IsTuple t1 us) (y2:s.heap.IsTuple t2 vs)
  (q:∀g,IsZip g (s.heap.objs.size+4) (s.heap.objs.size+2) (s.heap.objs.size+3) .none→IsPair g (s.heap.objs.size+2) (.ref s.heap.objs.size) (.ref (s.heap.objs.size+1))→IsPair g (s.heap.objs.size+3) .none .none→
   g.IsTupleIter s.heap.objs.size t1 0→g.IsTupleIter (s.heap.objs.size+1) t2 0→(∀c o,s.heap.get? c=some o→g.get? c=some o)→Q (.ref (s.heap.objs.size+4)) {s with heap:=g}):
  wpAny (model P w) A (call (.type "zip") [.ref t1,.ref t2]) Q E s:=by
 refine callType_new PySem.F.called_zip (by decide) (PySem.F.typeCall_zip_2 _ _) (PySem.F.newCall_zip_2 _ _) (fun obj=>PySem.F.args_object_init_3 obj _ _) PySem.F.entry_zip_new (lD t1 t2 us vs) ⟨y1,y2,?_⟩
 have l1:(zt1 s.heap t1).objs.size=s.heap.objs.size+1:=Heap.size_push ..
 have l2:(zt2 s.heap t1 t2).objs.size=s.heap.objs.size+2:=by rw [Heap.size_push,l1]
 have l3:(zt3 s.heap t1 t2).objs.size=s.heap.objs.size+3:=by rw [Heap.size_push,l2]
 have l4:(zt4 s.heap t1 t2).objs.size=s.heap.objs.size+4:=by rw [Heap.size_push,l3]
 have up:∀{h:Heap} {o o':Obj} {c:Addr},h.get? c=some o→(h.push o').get? c=some o:=fun e=>Heap.get?_push_of_some _ e
 have e5:(zt5 s.heap t1 t2).get? (zt4 s.heap t1 t2).objs.size=some _:=Heap.get?_push_size _ rfl
 have e4:(zt5 s.heap t1 t2).get? (zt3 s.heap t1 t2).objs.size=some _:=up (Heap.get?_push_size _ rfl)
 have e3:(zt5 s.heap t1 t2).get? (zt2 s.heap t1 t2).objs.size=some _:=up (up (Heap.get?_push_size _ rfl))
 have e2:(zt5 s.heap t1 t2).get? (zt1 s.heap t1).objs.size=some _:=up (up (up (Heap.get?_push_size _ rfl)))
 have e1:(zt5 s.heap t1 t2).get? s.heap.objs.size=some _:=up (up (up (up (Heap.get?_push_size _ rfl))))
 show _∧_
 rw [l2,l3,l4] at e5;rw [l1,l2] at e3;rw [l3] at e4;rw [l1] at e2;rw [l4]
 exact ⟨⟨_,e5,rfl⟩,q _ e5 e3 e4 ⟨_,e1,rfl,rfl⟩ ⟨_,e2,rfl,rfl⟩ fun c o y=>up (up (up (up (up y))))⟩
end
def rY (K:W.Frag) (a b:Addr):It:=
 ⟨fun i H=>∃xs ys x y,SqT K H a xs∧SqT K H b ys∧xs[i]?=some x∧ys[i]?=some y,
  fun i H u H'=>∃T x y,u=.ref T∧H T=none∧H'=upd H T (.tup [x,y])∧∀xs ys,SqT K H a xs→SqT K H b ys→xs[i]?=some x∧ys[i]?=some y,
  fun i H=>∃xs ys,SqT K H a xs∧SqT K H b ys∧(xs.length≤i∨ys.length≤i)⟩
abbrev ztTn (z TI TO i1 i2 l1 l2:Addr):Nat→Heap→Prop:=fun i h=>IsZip h z TI TO .none∧IsPair h TI (.ref i1) (.ref i2)∧(∃a b,IsPair h TO a b)∧h.IsTupleIter i1 l1 i∧h.IsTupleIter i2 l2 i
theorem pB {P:Program} {w:World} {K:W.Frag} {elts:List Expr} {k:Nat} {pos:Pos} {z TI TO i1 i2 l1 l2:Addr} (D:ZipApart z TI TO i1 i2 l1 l2):Turn P w K (.Tuple elts k pos) (rY K l1 l2) [z,TI,TO,i1,i2] z (ztTn z TI TO i1 i2 l1 l2) where
 mem:=by simp
 obj:=fun i h st b hb=>by
  obtain ⟨hz,hTI,⟨a',b',hTO⟩,⟨o1,e1,c1,d1⟩,o2,e2,c2,d2⟩:=st
  simp only [List.mem_cons,List.not_mem_nil,or_false] at hb
  rcases hb with rfl | rfl | rfl | rfl | rfl
  ·exact ⟨_,hz,fun v q=>(nomatch q)⟩
  ·exact ⟨_,hTI,fun v q=>(nomatch q)⟩
  ·exact ⟨_,hTO,fun v q=>(nomatch q)⟩
  ·exact ⟨o1,e1,fun v q=>by rw [d1] at q;cases q⟩
  ·exact ⟨o2,e2,fun v q=>by rw [d2] at q;cases q⟩
 keep:=fun i h h' st kk=>by
  obtain ⟨hz,hTI,⟨a,b,hTO⟩,h1,h2⟩:=st
  exact ⟨kk z (by simp) _ hz,kk TI (by simp) _ hTI,⟨a,b,kk TO (by simp) _ hTO⟩,h1.at fun o e=>kk i1 (by simp) o e,h2.at fun o e=>kk i2 (by simp) o e⟩
 item:=by
  intro X hP hw hK hc i pins s σ H E I hf st hg
  subst hP hw hK
  obtain ⟨xs,ys,x,y,hq1,hq2,hx,hy⟩:=hg
  obtain ⟨its1,rv1,p1,hz1⟩:=I.tuple hq1
  obtain ⟨its2,rv2,p2,hz2⟩:=I.tuple hq2
  obtain ⟨u,hu,ru⟩:=rv1.get hx
  obtain ⟨v,hv,rv⟩:=rv2.get hy
  obtain ⟨hz,hTI,⟨a,b,hTO⟩,h1,h2⟩:=st
  refine iF D hz hTI hTO h1 h2 p1 p2 (u:=u) (v:=v) (by simpa using hu) (by simpa using hv) fun h' a1 a2 a3 a4 a5 hk=>?_
  refine ⟨_,rfl,?_⟩
  refine wpAny_letOwnedTupleGo_zip (s:={s with heap:=h'}) a1 fun h2' z' sb=>?_
  have lt:∀{c o},s.heap.get? c=some o→c≠s.heap.objs.size:=fun e=>Nat.ne_of_lt (Heap.lt_size e)
  have Tz:s.heap.objs.size≠z:=Ne.symm (lt hz)
  have l1':i1≠s.heap.objs.size:=by obtain ⟨o,e,_⟩:=h1;exact lt e
  have l2':i2≠s.heap.objs.size:=by obtain ⟨o,e,_⟩:=h2;exact lt e
  refine ⟨.ref s.heap.objs.size,upd H s.heap.objs.size (.tup [x,y]),?_,rfl,⟨s.heap.objs.size,x,y,rfl,I.hok.fresh (Nat.le_refl _),rfl,fun xs' ys' e1 e2=>?_⟩,?_,fun b hb=>?_⟩
  ·refine I.zipped (t':=s.toks) (ch:=[z,TI,TO,i1,i2]) (fun b o hb e=>?_) hf (Nat.le_refl _) ⟨by show (2:Nat)≤sizeLine;decide,[u,v],.cons ru (.cons rv .nil),?_⟩
   ·simp only [List.mem_cons,List.not_mem_nil,or_false,not_or] at hb
    obtain ⟨b1,b2,b3,b4,b5⟩:=hb
    exact sb.extBut _ _ b1 (hk b o b1 b3 b4 b5 e)
   ·exact ⟨_,sb.extBut _ _ Tz a5,⟨rfl,rfl⟩,_,rfl⟩
  ·rw [I.tuple_inj e1 hq1,I.tuple_inj e2 hq2]
   exact ⟨hx,hy⟩
  ·exact ⟨z',sb.extBut _ _ D.TIz (hk _ _ D.TIz D.TITO D.TIi1 D.TIi2 hTI),⟨_,_,sb.extBut _ _ D.TOz a2⟩,a3.extBut sb.extBut D.i1z,a4.extBut sb.extBut D.i2z⟩
  ·have bn:b≠s.heap.objs.size:=by
    simp only [List.mem_cons,List.not_mem_nil,or_false] at hb
    rcases hb with rfl | rfl | rfl | rfl | rfl
    ·exact lt hz
    ·exact lt hTI
    ·exact lt hTO
    ·exact l1'
    ·exact l2'
   rw [Zl bn]
   exact (hf b hb).1
 done:=by
  intro X hP hw hK hc i pins s σ H E I hf st hg
  subst hP hw hK
  obtain ⟨xs,ys,hq1,hq2,hx⟩:=hg
  obtain ⟨its1,rv1,p1,hz1⟩:=I.tuple hq1
  obtain ⟨its2,rv2,p2,hz2⟩:=I.tuple hq2
  obtain ⟨hz,hTI,⟨a,b,hTO⟩,h1,h2⟩:=st
  have e1:=rv1.length
  have e2:=rv2.length
  refine j1 (I.ok.hd hc) D hz hTI hTO h1 h2 p1 p2 ?_ fun h' hk=>⟨rfl,I.turnedL (t':=s.toks) (ch:=[z,TI,TO,i1,i2]) (fun b o hb e=>?_) hf⟩
  ·rcases hx with hx | hx
   ·exact .inl (by simp;omega)
   ·exact .inr (by simp;omega)
  ·simp only [List.mem_cons,List.not_mem_nil,or_false,not_or] at hb
   obtain ⟨b1,b2,b3,b4,b5⟩:=hb
   exact hk b o b1 b3 b4 b5 e
 self:=fun _ _ _ _ _ st h=>wpAny_pyIter_zip st.1 h
def uw (K:W.Frag) (ta:TA):TI:=fun σ H R=>ta σ H fun vs H1=>∃a b,vs=[.ref a,.ref b]∧(∃xs,SqT K H1 a xs)∧(∃ys,SqT K H1 b ys)∧R (rY K a b) H1
theorem qF {X:Cx} {elts:List Expr} {n:Nat} {tp:Pos} {a b:Expr} {ta:TA} {p pos:Pos} (hg:Gl X "zip") (hm:X.mg "zip"=none) (ha:PA X [a,b] ta) (hs:starEach [a,b] X.env=[(false,eval a X.env),(false,eval b X.env)]:=by rfl) (hs2:starEach [b] X.env=[(false,eval b X.env)]:=by rfl):
  PI X (.Tuple elts n tp) (.Call (.Name "zip" p) [a,b] [] pos) (uw X.K ta):=by
 intro pins s σ H R I h
 refine Call_ (S7 I hg hm boot_zip (PyProof.Rows.callWith_type1 (thn (ha pos pins s σ H _ I h) fun us s1 ⟨vs,H1,I1,r1,q1⟩=>?_) (by rw [hs,hs2]) (by rw [hs2];rfl)))
 obtain ⟨l1,l2,e,⟨xs,hq1⟩,⟨ys,hq2⟩,q⟩:=q1
 subst e
 cases r1 with
 | cons r rr=>
  cases rr with
  | cons r' rr=>
   cases rr
   cases r
   cases r'
   obtain ⟨its1,rv1,p1,hz1⟩:=I1.tuple hq1
   obtain ⟨its2,rv2,p2,hz2⟩:=I1.tuple hq2
   have lt1:l1<s1.heap.objs.size:=by obtain ⟨o,e,_⟩:=p1;exact Heap.lt_size e
   have lt2:l2<s1.heap.objs.size:=by obtain ⟨o,e,_⟩:=p2;exact Heap.lt_size e
   have D:ZipApart (s1.heap.objs.size+4) (s1.heap.objs.size+2) (s1.heap.objs.size+3) s1.heap.objs.size (s1.heap.objs.size+1) l1 l2:=by constructor <;> (unfold Addr at *;omega)
   refine qD p1 p2 fun h' c1 c2 c3 c4 c5 hk=>?_
   refine wpAny_pyIter_zip (s:={s1 with heap:=h'}) c1 ?_
   refine ⟨_,[_,_,_,_,_],_,_,H1,rfl,I1.kept (t':=s1.toks) hk,pB D,⟨c1,c2,⟨_,_,c3⟩,c4,c5⟩,fun b hb=>?_,q⟩
   have hb':s1.heap.objs.size≤b:=by
    simp only [List.mem_cons,List.not_mem_nil,or_false] at hb
    rcases hb with rfl | rfl | rfl | rfl | rfl
    ·exact Nat.le_add_right _ _
    ·exact Nat.le_add_right _ _
    ·exact Nat.le_add_right _ _
    ·exact Nat.le_refl _
    ·exact Nat.le_add_right _ _
   exact I1.fpOk hb' (I1.hok.fresh hb')
theorem lj {K:W.Frag} {a b:Addr} {xs zs:List V} {k:Nat} {g:TG} {tt:TT} {te:TE} {σ:St} {H:Hp} {Q:VK} (Pv:Nat→List V→Hp→Prop) (h0:Pv 0 [] H) (hl:∀i ys H,i≤min xs.length zs.length→Pv i ys H→SqT K H a xs∧SqT K H b zs)
  (hs:∀i x z ys H (T:Addr) (C:List V→Hp→Prop),xs[i]?=some x→zs[i]?=some z→Pv i ys H→H T=none→(∀ys' H',Pv (i+1) ys' H'→C ys' H')→ys.length<sizeLine∧g (.ref T) (List.replicate k none++σ) (upd H T (.tup [x,z])) fun σ2 H2=>Wk σ2 (List.replicate k none++σ)∧tt σ2 H2 fun ok H3=>
   if ok=true then te σ2 H3 fun y H4=>C (ys++[y]) H4 else C ys H3)
  (hlen:∀i ys H,i<min xs.length zs.length→Pv i ys H→ys.length<sizeLine)
  (hd:∀ys H,Pv (min xs.length zs.length) ys H→ys.length≤sizeLine∧∀p,H p=none→Q (.ref p) (upd H p (.lst ys))):
  CompR (rY K a b) H k g tt te σ Q:=by
 refine ⟨fun i m ys H=>m=min xs.length zs.length - i∧i≤min xs.length zs.length∧Pv i ys H,⟨min xs.length zs.length,by simp,Nat.zero_le _,h0⟩,?_⟩
 rintro i m ys H ⟨rfl,hi,p⟩
 obtain ⟨q1,q2⟩:=hl i ys H hi p
 by_cases hlt:i<min xs.length zs.length
 ·refine .inr ⟨⟨xs,zs,xs[i]'(by omega),zs[i]'(by omega),q1,q2,List.getElem?_eq_getElem _,List.getElem?_eq_getElem _⟩,hlen i ys H hlt p,?_⟩
  rintro _ _ ⟨T,x,z,rfl,nT,rfl,hy⟩
  obtain ⟨e1,e2⟩:=hy xs zs q1 q2
  exact (hs i x z ys H T (fun ys' H'=>∃m',m'<min xs.length zs.length - i∧m'=min xs.length zs.length - (i+1)∧i+1≤min xs.length zs.length∧Pv (i+1) ys' H') e1 e2 p nT (fun ys' H' h=>⟨_,by omega,rfl,hlt,h⟩)).2
 ·have e:i=min xs.length zs.length:=Nat.le_antisymm hi (Nat.le_of_not_lt hlt)
  subst e
  exact .inl ⟨⟨xs,zs,q1,q2,by omega⟩,hd ys H p⟩
end L2
namespace K18
open PySem L2
def G0 (H:Hp) (x:V):Prop:=∃T,Kd H x T
def Gn:Nat→Hp→V→Prop
 | 0,H,x=>G0 H x
 | n+1,H,x=>G0 H x∧∀a xs,x=.ref a→(H a=some (.tup xs)∨H a=some (.lst xs))→xs.length≤1000∧(∀z,xs[0]?=some (.str z)→z.length≤1000)∧∀y∈xs,Gn n H y
theorem Gn.g0:∀{n:Nat} {H:Hp} {x:V},Gn n H x→G0 H x
 | 0,_,_,h=>h
 | _+1,_,_,h=>h.1
theorem i4 {H H':Hp} (g:Same H H') {a:Addr} {T:String} (hk:Kd H (.ref a) T) {o:HO} (e:H' a=some o):H a=some o:=by
 cases hk with
 | lst e1=>have:=g _ _ e1;rw [e] at this;rw [e1,this]
 | tup e1=>have:=g _ _ e1;rw [e] at this;rw [e1,this]
 | dK e1=>have:=g _ _ e1;rw [e] at this;rw [e1,this]
theorem Gn.mono {H H':Hp} (g:Same H H'):∀{n:Nat} {x:V},Gn n H x→Gn n H' x
 | 0,x,h=>let ⟨T,k⟩:=h;⟨T,k.mono g⟩
 | n+1,x,h=>by
  obtain ⟨⟨T,hk⟩,hi⟩:=h
  refine ⟨⟨T,hk.mono g⟩,fun a xs ex e=>?_⟩
  subst ex
  obtain ⟨l,q0,q⟩:=hi a xs rfl (e.imp (i4 g hk) (i4 g hk))
  exact ⟨l,q0,fun y hy=>(q y hy).mono g⟩
theorem Kd.tupI {H:Hp} {x:V} {T:String} (h:Kd H x T) (e:dA T "tuple"=true):∃a xs,x=.ref a∧H a=some (.tup xs):=by
 cases h with
 | tup e1=>exact ⟨_,_,rfl,e1⟩
 | _=>simp [dA] at e
theorem Kd.tupN {H:Hp} {x:V} {T:String} (h:Kd H x T) (e:dA T "tuple"=false) {a:Addr} {xs:List V} (ex:x=.ref a):H a≠some (.tup xs):=fun q=>by
 subst ex
 cases h with
 | tup e1=>simp [dA] at e
 | lst e1=>rw [q] at e1;cases e1
 | dK e1=>rw [q] at e1;cases e1
def CntP (H:Hp) (x:V) (p:Str×Int):Prop:=∃a,x=.ref a∧H a=some (.tup [.str p.1,.int p.2])∧mkS p.1=true∧1≤p.2
inductive RowsP (H:Hp):List V→Ps→Prop
 | nil:RowsP H [] []
 | cons {x:V} {p:Str×Int} {xs:List V} {ps:Ps} (h:CntP H x p) (r:RowsP H xs ps):RowsP H (x::xs) (p::ps)
theorem CntP.mono {H H':Hp} (g:Same H H') {x:V} {p:Str×Int} (h:CntP H x p):CntP H' x p:=let ⟨a,e,q,r⟩:=h;⟨a,e,g _ _ q,r⟩
theorem RowsP.length {H:Hp}:∀{xs:List V} {ps:Ps},RowsP H xs ps→xs.length=ps.length
 | _,_,.nil=>rfl
 | _,_,.cons _ r=>congrArg (·+1) r.length
theorem CntP.uni {H:Hp} {x:V} {p q:Str×Int} (h:CntP H x p) (g:CntP H x q):p=q:=by
 obtain ⟨a,rfl,e,_⟩:=h
 obtain ⟨b,e2,e3,_⟩:=g
 cases e2
 rw [e] at e3
 simp only [Option.some.injEq,HO.tup.injEq,List.cons.injEq,V.str.injEq,V.int.injEq,and_true] at e3
 exact Prod.ext e3.1 e3.2
theorem RowsP.uni {H:Hp}:∀{xs:List V} {ps qs:Ps},RowsP H xs ps→RowsP H xs qs→ps=qs
 | _,_,_,.nil,.nil=>rfl
 | _,_,_,.cons h r,.cons g s=>by rw [h.uni g,r.uni s]
theorem RowsP.pairs {H:Hp}:∀{xs:List V} {ps:Ps},RowsP H xs ps→PairsAt H xs (aE ps)
 | _,_,.nil=>.nil
 | _,_,.cons ⟨a,e,q,_⟩ r=>by subst e;exact .cons q r.pairs
theorem RowsP.of {H:Hp}:∀{xs:List V},(∀x∈xs,∃p,CntP H x p)→∃ps,RowsP H xs ps
 | [],_=>⟨[],.nil⟩
 | x::xs,h=>by
  obtain ⟨p,hp⟩:=h x (.head _)
  obtain ⟨ps,r⟩:=RowsP.of fun y hy=>h y (.tail _ hy)
  exact ⟨p::ps,.cons hp r⟩
theorem RowsP.mem {H:Hp}:∀{xs:List V} {ps:Ps},RowsP H xs ps→∀x∈xs,∃p,CntP H x p
 | _,_,.cons h r,x,hx=>by
  rcases List.mem_cons.mp hx with e | m
  ·rw [e];exact ⟨_,h⟩
  ·exact r.mem x m
def tV (zs:List Str):Bool:=(zs.zip (zs.drop 1)).all fun p=>decide (p.1.cps.toList<p.2.cps.toList)
def wW:V→Int→Int→Bool
 | .int i,l,m=>decide (l≤i) && decide (i≤m)
 | _,_,_=>false
def qU:Sp:=fun vs H Q _=>∃(x:V) (T:String) (l m:Int),vs=[x,.int l,.int m]∧Kd H x T∧Q (.bl (wW x l m)) H
def q9:Sp:=fun vs H Q _=>∃(x:V) (T:String),vs=[x]∧Kd H x T∧Q (.bl (wW x 1 20)) H
def jo:Sp:=fun vs H Q _=>∃(a:Addr) (zs:List Str),vs=[.ref a]∧H a=some (.lst (zs.map V.str))∧zs.length≤1000∧∀H',Same H H'→Q (.bl (tV zs)) H'
def mE (m:Addr):Sp:=fun vs H Q _=>∃(x:V),vs=[x,.ref m]∧Gn 1 H x∧∀(b:Bool) (H':Hp),Same H H'→(b=true↔∃p,CntP H x p)→Q (.bl b) H'
def CtsP (H:Hp) (x:V) (ps:Ps):Prop:=∃c xs,x=.ref c∧H c=some (.tup xs)∧RowsP H xs ps∧tV (ps.map (·.1))=true
def nu (m:Addr):Sp:=fun vs H Q _=>∃(x:V),vs=[x,.ref m]∧Gn 2 H x∧∀(b:Bool) (H':Hp),Same H H'→(b=true↔∃ps,CtsP H x ps)→Q (.bl b) H'
section
variable {P:Program} {w:World} {K:W.Frag} {mg:Str→Option Value} {base:Heap} {f:Addr} {fd:FuncData}
theorem sL (aH:Has P w K mg base "is_whole_from" 2 ["thing","least"] mR) (F:Fun K "is_whole_within" "is_whole_within" aM f fd):FnOk P w K mg base CX0 3 f fd ["thing","least","most"] qU:=by
 refine F.ok Ua (fun vs H Q E h=>?_) (fun cdv A outer s H vs Q E hr h=>?_)
 ·obtain ⟨x,T,l,m,rfl,_⟩:=h
  rfl
 obtain ⟨x,T,l,m,rfl,hk,hq⟩:=h
 refine ⟨_,(@Z9 _ _ _ (@Zg _ _ _ _ (@Xy _ _ _ _ _ _ _ (Z7 aH hr (@Z0 _ _ _ _ _ (pv 0) (@Z0 _ _ _ _ _ (pv 1) Z1 (by rfl)) (by rfl))) (@V6 _ _ _ _ _ (@X1 _ _ _ _ _ _ _ _ P3 (pv 0) (pv 2) (Zk _)))))),?_⟩
 refine ⟨_,rfl,_,rfl,x,T,l,rfl,hk,_,rfl,?_⟩
 cases x with
 | int i=>
  refine Yu (fun c=>?_) (fun c=>?_)
  ·have c:decide (l≤i)=true:=c
   have hq:Q (.bl (decide (l≤i) && decide (i≤m))) H:=hq
   rw [c,Bool.true_and] at hq
   exact ⟨_,rfl,_,rfl,_,_,rfl,rfl,hq⟩
  ·have c:decide (l≤i)=false:=Bool.eq_false_iff.mpr c
   have hq:Q (.bl (decide (l≤i) && decide (i≤m))) H:=hq
   rw [c,Bool.false_and] at hq
   exact hq
 | _=>exact X8 hq
theorem rV (dC:Has P w K mg base "is_whole_within" 3 ["thing","least","most"] qU) (gf:∃u,mg "MOST_ROOM"=some u∧RelV (.int 20) u) (F:Fun K "is_room" "is_room" bV f fd):FnOk P w K mg base CX0 4 f fd ["thing"] q9:=by
 refine F.ok gZ (fun vs H Q E h=>?_) (fun cdv A outer s H vs Q E hr h=>?_)
 ·obtain ⟨x,T,rfl,_⟩:=h
  rfl
 obtain ⟨x,T,rfl,hk,hq⟩:=h
 refine ⟨_,(@Z9 _ _ _ (@Zg _ _ _ _ (Z7 dC hr (@Z0 _ _ _ _ _ (pv 0) (@Z0 _ _ _ _ _ Z2 (@Z0 _ _ _ _ _ (T3 rfl gf) Z1 (by rfl)) (by rfl)) (by rfl))))),?_⟩
 exact ⟨_,rfl,x,T,1,20,rfl,hk,hq⟩
theorem mS (bw:mg "all"=none) (eE:mg "zip"=none) (F:Fun K "is_rising" "is_rising" a_ f fd):FnOk P w K mg base CX0 1 f fd ["parts"] jo:=by
 refine F.ok Ux (fun vs H Q E h=>?_) (fun cdv A outer s H vs Q E hr h=>?_)
 ·obtain ⟨a,zs,rfl,_⟩:=h
  rfl
 obtain ⟨a,zs,rfl,e_a,zl,hq⟩:=h
 refine ⟨_,(@Z9 _ _ _ (@Zg _ _ _ _ (Zd (V0 rfl) rfl bw PyProof.Rows.boot_all (@Z0 _ _ _ _ _ (Yh (own:=["one","other"]) (CompOk.of rfl rfl (by rfl) (by rfl) (by rfl)) (sx rfl eE (@Z0 _ _ _ _ _ (pv 0) (@Z0 _ _ _ _ _ (Zr X9 (pv 0) (Zt Z2) Zz) Z1 (by rfl)) (by rfl)))
  (fun _ _ _ _ _=>(W5 K 2 rfl rfl (Z6 (Z5 (i:=0) X3 rfl (Or.inl rfl) (Or.inr rfl)) (Z6 (Z5 (i:=1) X3 rfl (Or.inl rfl) (Or.inr rfl)) Zx)))) (fun _ _ _ _ _=>Ys)
  (fun _ _ _ _ _=>(@X1 _ _ _ _ _ _ _ _ P2 (pv 0) (pv 1) (Zk _)))) Z1 (by rfl))))),?_⟩
 refine ⟨_,rfl,_,rfl,1,rfl,a,_,rfl,SqL.of e_a,fun b n_b=>?_⟩
 have eb:bd (zs.map V.str) (some 1) none=(zs.drop 1).map V.str:=by
  unfold bd
  have h:=HT.sIx_nat (zs.map V.str).length 0 1
  rw [show ((1:Nat):Int)=1 from rfl] at h
  rw [h,HT.sIx_none,List.length_map]
  rcases zs with _ | ⟨z,zs⟩
  ·rfl
  ·rw [List.length_cons,Nat.min_eq_left (by omega),List.map_drop]
   exact List.take_of_length_le (by rw [List.length_drop,List.length_map,List.length_cons];omega)
 rw [eb]
 have g0:=Zw n_b (.lst ((zs.drop 1).map V.str))
 have e_b:=Ze (H:=H) (a:=b) (o:=.lst ((zs.drop 1).map V.str))
 have e_a:=g0 _ _ e_a
 generalize upd H b (.lst ((zs.drop 1).map V.str))=H1 at g0 e_b e_a ⊢
 refine ⟨a,b,rfl,⟨_,SqL.of e_a⟩,⟨_,SqL.of e_b⟩,?_⟩
 have zp:(zs.zip (zs.drop 1)).length=min (zs.map V.str).length ((zs.drop 1).map V.str).length:=by rw [List.length_zip,List.length_map,List.length_map]
 have ln:min (zs.map V.str).length ((zs.drop 1).map V.str).length≤1000:=by rw [List.length_map,List.length_map];omega
 refine mQ (xs:=zs.map V.str) (zs:=(zs.drop 1).map V.str) (fun n ys H'=>Same H1 H'∧ys=(((zs.zip (zs.drop 1)).take n).map fun p=>decide (p.1.cps.toList<p.2.cps.toList)).map V.bl) ⟨Same.refl _,rfl⟩ ?_ ?_ ?_ ?_
 ·rintro n ys H' _ ⟨g,_⟩
  exact ⟨SqL.of (g _ _ e_a),SqL.of (g _ _ e_b)⟩
 ·rintro n x z ys H' T C hx hz ⟨g,rfl⟩ nT hC
  rw [List.getElem?_map] at hx hz
  obtain ⟨x',hx',rfl⟩:=Option.map_eq_some_iff.mp hx
  obtain ⟨z',hz',rfl⟩:=Option.map_eq_some_iff.mp hz
  have hp:(zs.zip (zs.drop 1))[n]?=some (x',z'):=List.getElem?_zip_eq_some.mpr ⟨hx',hz'⟩
  refine ⟨Zn ?_,T,_,rfl,SqT.of Ze,rfl,_,_,rfl,_,_,rfl,rfl,Wk.refl _,_,rfl,_,rfl,_,_,rfl,rfl,hC _ _ ⟨g.trans (Zw nT _),?_⟩⟩
  ·rw [List.length_map,List.length_map,List.length_take]
   omega
  ·rw [Y6 hp,List.map_append,List.map_append]
   rfl
 ·rintro n ys H' hn ⟨g,rfl⟩
  rw [List.length_map,List.length_map,List.length_take]
  exact Zn (by omega)
 ·rintro ys H' ⟨g,rfl⟩
  refine ⟨Zb ?_,fun p hp=>⟨p,_,rfl,SqL.of Ze,?_⟩⟩
  ·rw [List.length_map,List.length_map,List.length_take]
   omega
  ·rw [←zp,List.take_length,List.all_map]
   exact hq _ (g0.trans (g.trans (Zw hp _)))
theorem p9 (ad:mg "isinstance"=none) (ay:mg "tuple"=none) (aD:mg "len"=none) (aH:Has P w K mg base "is_whole_from" 2 ["thing","least"] mR) {m:Addr} {fm:FuncData} (FM:FnOk P w K mg base CX0 1 m fm ["thing"] ix) (BM:Binds K fm ["thing"] []) (CM:Cal base m)
  (F:Fun K "is_count" "is_count" bC f fd):FnOk P w K mg base CX0 3 f fd ["thing","is_key"] (mE m):=by
 refine F.ok Vf (fun vs H Q E h=>?_) (fun cdv A outer s H vs Q E hr h=>?_)
 ·obtain ⟨x,rfl,_⟩:=h
  rfl
 obtain ⟨x,rfl,⟨⟨T,hk⟩,hi⟩,hq⟩:=h
 refine ⟨_,(@Z3 _ _ _ _ _ (@Yc _ _ _ _ _ _ _ _ (PW.pt (@Xw _ _ _ _ _ _ _ (@X6 _ _ _ _ (Yy (Zd Xj rfl ad PyProof.Rows.boot_isinstance (@Z0 _ _ _ _ _ (pv 0) (@Z0 _ _ _ _ _ (Xh (v:=.ty "tuple") rfl ay PyProof.Rows.boot_tuple rfl) Z1 (by rfl)) (by rfl))))) (@Xp _ _ _ _ (@Zm _ _ _ _ _ _ _ _ fY (Zd Zo rfl aD PySem.boot_len (@Z0 _ _ _ _ _ (pv 0) Z1 (by rfl))) Z2 (Zk _))))) (@Z9 _ _ _ (@Zg _ _ _ _ Wc)) Zu)
 (@Z3 _ _ _ _ _ (X7 (pv 0) (Yq rfl (Z6 (Z5 (i:=2) Vf.nd rfl (Or.inl rfl)) (Z6 (Z5 (i:=3) Vf.nd rfl (Or.inl rfl)) Zx))))
 (@Z9 _ _ _ (@Zg _ _ _ _ (@Xy _ _ _ _ _ _ _ (nN (i:=1) hr (@Z0 _ _ _ _ _ (pv 2) Z1 (by rfl))) (@V6 _ _ _ _ _ (Z7 aH hr (@Z0 _ _ _ _ _ (pv 3) (@Z0 _ _ _ _ _ Z2 Z1 (by rfl)) (by rfl))))))))),?_⟩
 refine ⟨_,rfl,_,_,"tuple",_,rfl,hk.ty,hk.kit (by decide) rfl,_,rfl,?_⟩
 by_cases ht:dA T "tuple"=true
 ·obtain ⟨a,xs,rfl,e⟩:=Kd.tupI hk ht
  rw [ht]
  refine X8 ⟨_,rfl,a,xs,rfl,.inr (SqT.of e),rfl,_,rfl,Yu (fun c=>?_) (fun c=>?_)⟩
  ·refine hq false H (Same.refl _) ⟨(fun z=>nomatch z),fun ⟨p,b,e1,e2,_⟩=>?_⟩
   cases e1
   rw [e] at e2
   cases e2
   simp at c
  ·obtain ⟨_,hz0,hy⟩:=hi a xs rfl (.inl e)
   have xl:xs.length=2:=by
    have:((xs.length:Nat):Int)=2:=by simpa using c
    omega
   match xs,xl,e,hy,hz0 with
   | [k,n],_,e,hy,hz0=>
    obtain ⟨Tk,hk1⟩:=hy k (.head _)
    have hkz:∀z,k=.str z→z.length≤1000:=fun z ez=>hz0 z (by rw [ez];rfl)
    obtain ⟨Tn,hn1⟩:=hy n (.tail _ (.head _))
    refine ⟨_,rfl,a,_,rfl,SqT.of e,rfl,_,_,rfl,_,_,rfl,rfl,?_⟩
    refine ⟨m,fm,_,_,rfl,FM.mono (by decide),BM,CM,_,rfl,_,Tk,rfl,hk1,hkz,fun H1 g1=>⟨_,rfl,?_⟩⟩
    have iff:(mkB k && wF n 1)=true↔∃p,CntP H (.ref a) p:=by
     constructor
     ·intro q
      obtain ⟨q1,q2⟩:=Bool.and_eq_true_iff.mp q
      cases k with
      | str z=>
       cases n with
       | int i=>exact ⟨(z,i),a,rfl,e,q1,of_decide_eq_true q2⟩
       | _=>cases q2
      | _=>cases q1
     ·rintro ⟨p,b,e1,e2,q1,q2⟩
      cases e1
      rw [e] at e2
      cases e2
      exact Bool.and_eq_true_iff.mpr ⟨q1,decide_eq_true q2⟩
    refine Yu (fun c=>?_) (fun c=>?_)
    ·rw [c,Bool.true_and] at iff
     exact ⟨_,rfl,n,Tn,1,rfl,hn1.mono g1,hq _ _ g1 iff⟩
    ·rw [Bool.eq_false_iff.mpr c,Bool.false_and] at iff
     exact hq _ _ g1 iff
 ·have ht:=Bool.eq_false_iff.mpr ht
  rw [ht]
  refine Yw (hq false H (Same.refl _) ⟨(fun z=>nomatch z),fun ⟨p,b,e1,e2,_⟩=>?_⟩)
  exact absurd e2 (Kd.tupN hk ht e1)
theorem oZ (ad:mg "isinstance"=none) (ay:mg "tuple"=none) (bw:mg "all"=none) {m:Addr} (gN:Has P w K mg base "is_count" 3 ["thing","is_key"] (mE m)) (cR:Has P w K mg base "is_rising" 1 ["parts"] jo)
  (F:Fun K "are_counts" "are_counts" bc f fd):FnOk P w K mg base CX0 4 f fd ["thing","is_key"] (nu m):=by
 refine F.ok Qi (fun vs H Q E h=>?_) (fun cdv A outer s H vs Q E hr h=>?_)
 ·obtain ⟨x,rfl,_⟩:=h
  rfl
 obtain ⟨x,rfl,⟨⟨T,hk⟩,hi⟩,hq⟩:=h
 refine ⟨_,(@Z3 _ _ _ _ _ (@Yc _ _ _ _ _ _ _ _ (PW.pt (@Xw _ _ _ _ _ _ _ (@X6 _ _ _ _ (Yy (Zd Xj rfl ad PyProof.Rows.boot_isinstance (@Z0 _ _ _ _ _ (pv 0) (@Z0 _ _ _ _ _ (Xh (v:=.ty "tuple") rfl ay PyProof.Rows.boot_tuple rfl) Z1 (by rfl)) (by rfl))))) (@Xp _ _ _ _ (@X6 _ _ _ _ (Yy (Zd (V0 rfl) rfl bw PyProof.Rows.boot_all (@Z0 _ _ _ _ _ (Yh (own:=["one"]) (CompOk.of rfl rfl (by rfl) (by rfl) (by rfl)) (Xk (pv 0))
  (fun _ _ _ _ _=>(Z5 (i:=0) U0 rfl (Or.inl rfl) (Or.inr rfl))) (fun _ _ _ _ _=>Ys)
  (fun _ _ _ _ _=>(Z7 gN hr (@Z0 _ _ _ _ _ (pv 0) (@Z0 _ _ _ _ _ (pv 2) Z1 (by rfl)) (by rfl))))) Z1 (by rfl)))))))) (@Z9 _ _ _ (@Zg _ _ _ _ Wc)) Zu)
 (@Z9 _ _ _ (@Zg _ _ _ _ (Z7 cR hr (@Z0 _ _ _ _ _ (Yh (own:=["key","count"]) (CompOk.of rfl rfl (by rfl) (by rfl) (by rfl)) (Xk (pv 0))
  (fun _ _ _ _ _=>(W5 K 2 rfl rfl (Z6 (Z5 (i:=0) Wd rfl (Or.inl rfl) (Or.inr rfl)) (Z6 (Z5 (i:=1) Wd rfl (Or.inl rfl) (Or.inr rfl)) Zx)))) (fun _ _ _ _ _=>Ys)
  (fun _ _ _ _ _=>(pv 0))) Z1 (by rfl)))))),?_⟩
 refine ⟨_,rfl,_,_,"tuple",_,rfl,hk.ty,hk.kit (by decide) rfl,_,rfl,?_⟩
 by_cases ht:dA T "tuple"=true
 ·obtain ⟨a,xs,rfl,e⟩:=Kd.tupI hk ht
  obtain ⟨xl,_,hy⟩:=hi a xs rfl (.inl e)
  rw [ht]
  refine X8 ⟨_,rfl,a,rfl,⟨_,SqT.of e⟩,?_⟩
  refine Xv (xs:=xs) (fun n ys H'=>Same H H'∧∃bs:List Bool,ys=bs.map V.bl∧bs.length=n∧∀(j:Nat) b y,bs[j]?=some b→xs[j]?=some y→(b=true↔∃p,CntP H y p)) ⟨Same.refl _,[],rfl,rfl,fun j b y h=>by simp at h⟩ ?_ ?_ ?_
  ·rintro n ys H' _ ⟨g,_⟩
   exact SqT.of (g _ _ e)
  ·rintro n y ys H' C hx ⟨g,bs,rfl,bl,hb⟩ hC
   have nl:=(List.getElem?_eq_some_iff.mp hx).1
   refine ⟨Zn (by rw [List.length_map];omega),Wk.refl _,_,rfl,_,rfl,y,rfl,(hy y (List.mem_of_getElem? hx)).mono g,fun b H1 g1 iff=>hC _ _ ⟨g.trans g1,bs++[b],by rw [List.map_append];rfl,by rw [List.length_append,bl];rfl,fun j b' y' h1 h2=>?_⟩⟩
   by_cases hj:j<bs.length
   ·rw [List.getElem?_append_left hj] at h1
    exact hb j b' y' h1 h2
   ·have je:j=n:=by
     have:=(List.getElem?_eq_some_iff.mp h1).1
     rw [List.length_append,List.length_cons,List.length_nil] at this
     omega
    subst je
    rw [hx] at h2
    cases h2
    rw [←bl,List.getElem?_append_right (Nat.le_refl _),Nat.sub_self] at h1
    cases h1
    rw [iff]
    constructor
    ·rintro ⟨p,c,e1,e2,q⟩
     refine ⟨p,c,e1,?_,q⟩
     obtain ⟨⟨T2,hk2⟩,_⟩:=hy _ (List.mem_of_getElem? hx)
     subst e1
     exact i4 g hk2 e2
    ·rintro ⟨p,h⟩
     exact ⟨p,h.mono g⟩
  ·rintro ys H' ⟨g,bs,rfl,bl,hb⟩
   refine ⟨Zb (by rw [List.length_map];omega),fun p hp=>⟨p,_,rfl,SqL.of Ze,_,rfl,?_⟩⟩
   have g1:=g.trans (Zw hp (.lst (bs.map V.bl)))
   generalize upd H' p (.lst (bs.map V.bl))=H1 at g1 ⊢
   by_cases all:bs.all id=true
   ·rw [all]
    refine X8 ?_
    obtain ⟨ps,rp⟩:=RowsP.of (H:=H) (xs:=xs) fun y hy2=>by
     obtain ⟨j,hj⟩:=List.mem_iff_getElem?.mp hy2
     have jl:j<bs.length:=by rw [bl];exact (List.getElem?_eq_some_iff.mp hj).1
     have h1:bs[j]?=some bs[j]:=List.getElem?_eq_getElem jl
     exact (hb j _ y h1 hj).mp (List.all_eq_true.mp all _ (List.getElem_mem jl))
    have pl:=rp.length
    refine ⟨_,rfl,a,rfl,⟨_,SqT.of (g1 _ _ e)⟩,?_⟩
    refine Up (fun _=>true) (fun t=>.str t.1) (g1 _ _ e) (rp.pairs.mono g1) (by omega) ?_ ?_
    ·rintro u q ys C mu eq hC _
     exact ⟨q,_,rfl,SqT.of eq,rfl,_,_,rfl,_,_,rfl,rfl,Wk.refl _,_,rfl,hC rfl⟩
    ·rw [Q2,show (ps.map fun t=>V.str t.1)=(ps.map (·.1)).map V.str by rw [List.map_map];rfl]
     intro q nq
     refine ⟨q,ps.map (·.1),rfl,Ze,by rw [List.length_map];omega,fun H2 g2=>hq _ _ (g1.trans ((Zw nq _).trans g2)) ⟨fun r=>⟨ps,a,xs,rfl,e,rp,r⟩,?_⟩⟩
     rintro ⟨ps',c,xs',e1,e2,rp',r⟩
     cases e1
     rw [e] at e2
     cases e2
     rw [rp.uni rp']
     exact r
   ·rw [Bool.eq_false_iff.mpr all]
    refine Yw (hq false _ g1 ⟨(fun z=>nomatch z),?_⟩)
    rintro ⟨ps',c,xs',e1,e2,rp',r⟩
    cases e1
    rw [e] at e2
    cases e2
    refine absurd (List.all_eq_true.mpr fun b hb2=>?_) all
    obtain ⟨j,hj⟩:=List.mem_iff_getElem?.mp hb2
    have jl:j<xs.length:=by rw [←bl];exact (List.getElem?_eq_some_iff.mp hj).1
    exact (hb j b _ hj (List.getElem?_eq_getElem jl)).mpr (rp'.mem _ (List.getElem_mem jl))
 ·have ht:=Bool.eq_false_iff.mpr ht
  rw [ht]
  refine Yw (hq false H (Same.refl _) ⟨(fun z=>nomatch z),?_⟩)
  rintro ⟨ps',c,xs',e1,e2,_⟩
  exact absurd e2 (Kd.tupN hk ht e1)
structure MadP (H:Hp) (x:V) (t:Ty):Prop where
 at_:∃a c xs,x=.ref a∧H a=some (.tup [.int t.room,.ref c,.int t.lt,.int t.total])∧H c=some (.tup xs)∧RowsP H xs t.cs
 rise:tV (t.cs.map (·.1))=true
 r1:1≤t.room
 r2:t.room≤20
 len:(t.cs.length:Int)≤t.room
 l0:0≤t.lt
 t0:0≤t.total
def nj:Sp:=fun vs H Q _=>∃(x:V),vs=[x]∧Gn 3 H x∧∀(b:Bool) (H':Hp),Same H H'→(b=true↔∃t,MadP H x t)→Q (.bl b) H'
theorem qC (ad:mg "isinstance"=none) (ay:mg "tuple"=none) (aD:mg "len"=none) (aH:Has P w K mg base "is_whole_from" 2 ["thing","least"] mR) (kx:Has P w K mg base "is_room" 4 ["thing"] q9) {m:Addr} (eV:Has P w K mg base "are_counts" 4 ["thing","is_key"] (nu m))
  (j5:∃u,mg "is_mark"=some u∧RelV (.ref m) u) (F:Fun K "is_made_as_tally" "is_made_as_tally" aJ f fd):FnOk P w K mg base CX0 5 f fd ["thing"] nj:=by
 refine F.ok Yi (fun vs H Q E h=>?_) (fun cdv A outer s H vs Q E hr h=>?_)
 ·obtain ⟨x,rfl,_⟩:=h
  rfl
 obtain ⟨x,rfl,⟨⟨T,hk⟩,hi⟩,hq⟩:=h
 refine ⟨_,(@Z3 _ _ _ _ _ (@Yc _ _ _ _ _ _ _ _ (PW.pt (@Xw _ _ _ _ _ _ _ (@X6 _ _ _ _ (Yy (Zd Xj rfl ad PyProof.Rows.boot_isinstance (@Z0 _ _ _ _ _ (pv 0) (@Z0 _ _ _ _ _ (Xh (v:=.ty "tuple") rfl ay PyProof.Rows.boot_tuple rfl) Z1 (by rfl)) (by rfl))))) (@Xp _ _ _ _ (@Zm _ _ _ _ _ _ _ _ fY (Zd Zo rfl aD PySem.boot_len (@Z0 _ _ _ _ _ (pv 0) Z1 (by rfl))) Z2 (Zk _))))) (@Z9 _ _ _ (@Zg _ _ _ _ Wc)) Zu)
 (@Z3 _ _ _ _ _ (X7 (pv 0) (Yq rfl (Z6 (Z5 (i:=1) Yi.nd rfl (Or.inl rfl)) (Z6 (Z5 (i:=2) Yi.nd rfl (Or.inl rfl)) (Z6 (Z5 (i:=3) Yi.nd rfl (Or.inl rfl)) (Z6 (Z5 (i:=4) Yi.nd rfl (Or.inl rfl)) Zx))))))
 (@Z3 _ _ _ _ _ (@Yc _ _ _ _ _ _ _ _ (PW.pt (@Xw _ _ _ _ _ _ _ (@X6 _ _ _ _ (Yy (Z7 kx hr (@Z0 _ _ _ _ _ (pv 1) Z1 (by rfl))))) (@Xp _ _ _ _ (@X6 _ _ _ _ (Yy (Z7 eV hr (@Z0 _ _ _ _ _ (pv 2) (@Z0 _ _ _ _ _ (T3 rfl j5) Z1 (by rfl)) (by rfl)))))))) (@Z9 _ _ _ (@Zg _ _ _ _ Wc)) Zu)
 (@Z9 _ _ _ (@Zg _ _ _ _ (@Xy _ _ _ _ _ _ _ (@X1 _ _ _ _ _ _ _ _ P3 (Zd Zo rfl aD PySem.boot_len (@Z0 _ _ _ _ _ (pv 2) Z1 (by rfl))) (pv 1) (Zk _)) (@Xy _ _ _ _ _ _ _ (Z7 aH hr (@Z0 _ _ _ _ _ (pv 3) (@Z0 _ _ _ _ _ Z2 Z1 (by rfl)) (by rfl))) (@V6 _ _ _ _ _ (Z7 aH hr (@Z0 _ _ _ _ _ (pv 4) (@Z0 _ _ _ _ _ Z2 Z1 (by rfl)) (by rfl))))))))))),?_⟩
 refine ⟨_,rfl,_,_,"tuple",_,rfl,hk.ty,hk.kit (by decide) rfl,_,rfl,?_⟩
 by_cases ht:dA T "tuple"=true
 ·obtain ⟨a,xs,rfl,e⟩:=Kd.tupI hk ht
  obtain ⟨_,_,hy⟩:=hi a xs rfl (.inl e)
  rw [ht]
  refine X8 ⟨_,rfl,a,xs,rfl,.inr (SqT.of e),rfl,_,rfl,Yu (fun c=>?_) (fun c=>?_)⟩
  ·refine hq false H (Same.refl _) ⟨(fun z=>nomatch z),fun ⟨t,my⟩=>?_⟩
   obtain ⟨b,c2,xs2,e1,e2,_⟩:=my.at_
   cases e1
   rw [e] at e2
   cases e2
   simp at c
  have xl:xs.length=4:=by
   have:((xs.length:Nat):Int)=4:=by simpa using c
   omega
  match xs,xl,e,hy with
  | [r,k,l,t],_,e,hy=>
   have hr1:=hy r (.head _)
   have hk1:=hy k (.tail _ (.head _))
   have hl1:=hy l (.tail _ (.tail _ (.head _)))
   have ht1:=hy t (.tail _ (.tail _ (.tail _ (.head _))))
   obtain ⟨Tr,hr1⟩:=hr1.g0
   obtain ⟨Tl,hl1⟩:=hl1.g0
   obtain ⟨Tt,ht1⟩:=ht1.g0
   have inv:∀{y:Ty},MadP H (.ref a) y→r=.int y.room∧(∃c xs,k=.ref c∧H c=some (.tup xs)∧RowsP H xs y.cs)∧l=.int y.lt∧t=.int y.total:=fun {y} my=>by
    obtain ⟨b,c2,xs2,e1,e2,e3,e4⟩:=my.at_
    cases e1
    rw [e] at e2
    simp only [Option.some.injEq,HO.tup.injEq,List.cons.injEq,and_true] at e2
    obtain ⟨q1,q2,q3,q4⟩:=e2
    exact ⟨q1,⟨c2,xs2,q2,e3,e4⟩,q3,q4⟩
   refine ⟨_,rfl,a,_,rfl,SqT.of e,rfl,_,_,rfl,_,_,rfl,_,_,rfl,_,_,rfl,rfl,?_⟩
   refine ⟨_,rfl,r,Tr,rfl,hr1,_,rfl,?_⟩
   by_cases cr:wW r 1 20=true
   ·obtain ⟨ri,rfl⟩:∃i,r=.int i:=by cases r <;> first | exact ⟨_,rfl⟩ | cases cr
    obtain ⟨ra,rb⟩:=Bool.and_eq_true_iff.mp (show (decide (1≤ri) && decide (ri≤20))=true from cr)
    have ra:=of_decide_eq_true ra
    have rb:=of_decide_eq_true rb
    rw [cr]
    refine X8 ⟨_,rfl,k,rfl,hk1,fun b H1 g1 iff=>⟨_,rfl,?_⟩⟩
    cases b with
    | false=>
     refine Yw (hq false H1 g1 ⟨(fun z=>nomatch z),fun ⟨y,my⟩=>?_⟩)
     obtain ⟨_,⟨c,xs,e2,e3,e4⟩,_⟩:=inv my
     exact absurd (iff.mpr ⟨y.cs,c,xs,e2,e3,e4,my.rise⟩) Bool.false_ne_true
    | true=>
     obtain ⟨ps,cc,xs,rfl,ec,rp,rs⟩:=iff.mp rfl
     refine X8 ⟨_,rfl,cc,xs,rfl,.inr (SqT.of (g1 _ _ ec)),_,rfl,_,_,rfl,rfl,_,rfl,?_⟩
     have pl:=rp.length
     have csu:∀{y:Ty},MadP H (.ref a) y→y.cs=ps:=fun {y} my=>by
      obtain ⟨_,⟨c2,xs2,e2,e3,e4⟩,_⟩:=inv my
      cases e2
      rw [ec] at e3
      cases e3
      exact e4.uni rp
     refine Yu (fun cl=>?_) (fun cl=>?_)
     ·have cl:=of_decide_eq_true cl
      refine ⟨_,rfl,l,Tl,0,rfl,hl1.mono g1,_,rfl,?_⟩
      refine Yu (fun c1=>?_) (fun c1=>?_)
      ·refine ⟨_,rfl,t,Tt,0,rfl,ht1.mono g1,hq _ _ g1 ?_⟩
       obtain ⟨li,rfl⟩:∃i,l=.int i:=by cases l <;> first | exact ⟨_,rfl⟩ | cases c1
       constructor
       ·intro c2
        obtain ⟨ti,rfl⟩:∃i,t=.int i:=by cases t <;> first | exact ⟨_,rfl⟩ | cases c2
        exact ⟨⟨ri,ps,li,ti⟩,⟨a,cc,xs,rfl,e,ec,rp⟩,rs,ra,rb,by show (ps.length:Int)≤ri;omega,of_decide_eq_true c1,of_decide_eq_true c2⟩
       ·rintro ⟨y,my⟩
        obtain ⟨_,_,_,q4⟩:=inv my
        rw [q4]
        exact decide_eq_true my.t0
      ·refine hq _ _ g1 ⟨(fun z=>nomatch z),fun ⟨y,my⟩=>?_⟩
       obtain ⟨_,_,q3,_⟩:=inv my
       rw [q3] at c1
       exact absurd (decide_eq_true my.l0) c1
     ·refine hq _ _ g1 ⟨(fun z=>nomatch z),fun ⟨y,my⟩=>?_⟩
      obtain ⟨q1,_⟩:=inv my
      have q1:=V.int.inj q1
      have h1:=my.len
      rw [csu my] at h1
      exact absurd (decide_eq_true (by omega)) cl
   ·rw [Bool.eq_false_iff.mpr cr]
    refine Yw (hq false H (Same.refl _) ⟨(fun z=>nomatch z),fun ⟨y,my⟩=>?_⟩)
    obtain ⟨q1,_⟩:=inv my
    rw [q1] at cr
    exact absurd (Bool.and_eq_true_iff.mpr ⟨decide_eq_true my.r1,decide_eq_true my.r2⟩) cr
 ·have ht:=Bool.eq_false_iff.mpr ht
  rw [ht]
  refine Yw (hq false H (Same.refl _) ⟨(fun z=>nomatch z),fun ⟨t,my⟩=>?_⟩)
  obtain ⟨b,c2,xs2,e1,e2,_⟩:=my.at_
  exact absurd e2 (Kd.tupN hk ht e1)
end
def sK:V→Prop
 | .non=>True
 | .bl _=>True
 | .int _=>True
 | .str _=>True
 | _=>False
theorem Gn.scal {H:Hp}:∀(n:Nat) {x:V},sK x→Gn n H x:=fun n x h=>by
 have g:G0 H x:=by
  cases x with
  | non=>exact ⟨_,.non⟩
  | bl b=>exact ⟨_,.bl b⟩
  | int i=>exact ⟨_,.int i⟩
  | str z=>exact ⟨_,.str z⟩
  | _=>cases h
 cases n with
 | zero=>exact g
 | succ n=>exact ⟨g,fun a xs e=>by subst e;cases h⟩
theorem Gn.tup {H:Hp} {n:Nat} {a:Addr} {xs:List V} (e:H a=some (.tup xs)) (l:xs.length≤1000) (z0:∀z,xs[0]?=some (.str z)→z.length≤1000) (h:∀y∈xs,Gn n H y):Gn (n+1) H (.ref a):=
 ⟨⟨_,.tup e⟩,fun b ys eb eq=>by
  cases eb
  rcases eq with eq | eq
  ·rw [e] at eq;cases eq;exact ⟨l,z0,h⟩
  ·rw [e] at eq;cases eq⟩
def Gl (n:Nat) (H:Hp) (xs:List V):Prop:=∀x∈xs,Gn n H x
theorem Os {n:Nat} {H:Hp} {x:V} {xs:List V} (h:Gn n H x) (r:Gl n H xs):Gl n H (x::xs):=fun y hy=>by
 rcases List.mem_cons.mp hy with e | m
 ·rw [e];exact h
 ·exact r y m
theorem ny {n:Nat} {H:Hp}:Gl n H []:=fun _ h=>nomatch h
theorem sc2 {H:Hp} {n:Nat} {x y:V} (h:sK x) (g:sK y):∀z∈[x,y],Gn n H z:=Os (Gn.scal n h) (Os (Gn.scal n g) ny)
theorem Ou {xs:List V} {lo hi:Option Int} {x:V} (h:x∈bd xs lo hi):x∈xs:=List.mem_of_mem_drop (List.mem_of_mem_take h)
theorem z0s {x:V} {xs:List V} (h:∀z,x=.str z→z.length≤1000):∀z,(x::xs)[0]?=some (.str z)→z.length≤1000:=fun z e=>h z (by simpa using e)
def ScS:V→Prop
 | .non=>True
 | .bl _=>True
 | .int _=>True
 | .str z=>z.length≤1000
 | _=>False
theorem ScS.z0 {x:V} {xs:List V} (h:ScS x):∀z,(x::xs)[0]?=some (.str z)→z.length≤1000:=z0s fun z e=>by subst e;exact h
section
variable {a cb p:Addr} {rows xs:List V} {H0 H H1:Hp} {n:Nat}
end
theorem nV {H:Hp} {rows:List V} {ps:Ps} (h:PairsAt H rows (aE ps)) (hw:∀p∈ps,p.1.length≤1000):Gl 1 H rows:=fun x hx=>by
 obtain ⟨i,hi⟩:=List.mem_iff_getElem?.mp hx
 obtain ⟨b,p,rfl,hp,e⟩:=h.getP hi
 exact Gn.tup e (by show 2≤1000;decide) (ScS.z0 (hw p (List.mem_of_getElem? hp))) (sc2 trivial trivial)
def bo (ps:Ps) (z:Str) (n:Int):Ps:=aY ps [(z,n)]
def cg (ts:List Th):Ps:=ts.foldl (fun ps t=>bo ps t.word t.many) []
theorem Wh {ps:Ps} (h:(ps.map (·.1)).Nodup) (z:Str) (n:Int):((bo ps z n).map (·.1)).Nodup:=by
 unfold bo
 rw [Wj]
 exact Wp h (List.nodup_cons.mpr ⟨(fun y=>nomatch y),List.nodup_nil⟩)
theorem fh (ps:Ps) (z:Str) (n:Int):(bo ps z n).length≤ps.length+1:=by
 have:=W0 ps [(z,n)]
 unfold bo aY
 rw [List.length_map]
 exact this
theorem V1 {ps:Ps} (h:(ps.map (·.1)).Nodup) (z:Str):((bK (aE ps) (Sum.inr z)).getD (.int 0))=.int (look ps z):=by
 have v:=R7 (qs:=[]) h List.nodup_nil z
 rw [Rq h] at v
 have e:ax ps [] z=look ps z:=Int.add_zero _
 rw [v,e]
theorem To {ps:Ps} (h:(ps.map (·.1)).Nodup) (z:Str) (n:Int):ci (aE ps) (Sum.inr z) (.int (look ps z+n))=aE (bo ps z n):=by
 have q:=Ng (qs:=[]) h (p:=(z,n)) (List.nodup_cons.mpr ⟨(fun y=>nomatch y),List.nodup_nil⟩)
 have e:ax ps [] z=look ps z:=Int.add_zero _
 rw [Rq h] at q
 show ci (aE ps) (Sum.inr (z,n).1) (.int (look ps z+(z,n).2))=_
 rw [←e]
 exact q
theorem Qt (ts:List Th) (t:Th):cg (ts++[t])=bo (cg ts) t.word t.many:=by
 unfold cg
 rw [List.foldl_append]
 rfl
theorem jF:∀(ts:List Th) (ps:Ps),(ps.map (·.1)).Nodup→((ts.foldl (fun ps t=>bo ps t.word t.many) ps).map (·.1)).Nodup
 | [],_,h=>h
 | t::ts,ps,h=>jF ts _ (Wh h _ _)
theorem fj:∀(ts:List Th) (ps:Ps),(ts.foldl (fun ps t=>bo ps t.word t.many) ps).length≤ps.length+ts.length
 | [],_=>Nat.le_refl _
 | t::ts,ps=>by
  have h1:=fj ts (bo ps t.word t.many)
  have h2:=fh ps t.word t.many
  show _≤ps.length+(ts.length+1)
  simp only [List.foldl_cons] at *
  omega
theorem O5 (ts:List Th):((cg ts).map (·.1)).Nodup:=jF ts [] List.nodup_nil
theorem N5 (ts:List Th):(cg ts).length≤ts.length:=by
 have:=fj ts []
 simpa [cg] using this
def jT:Sp:=fun vs H Q _=>∃(r:Addr) (ts:List Th),vs=[.ref r]∧DV H (.ref r) (dG ts)∧ts.length≤1000∧∀(d:Addr) H',Same H H'→H d=none→H' d=some (.dK (aE (cg ts)))→Q (.ref d) H'
section
variable {P:Program} {w:World} {K:W.Frag} {mg:Str→Option Value} {base:Heap} {f:Addr} {fd:FuncData}
theorem lO (F:Fun K "times_in" "times_in" bH f fd):FnOk P w K mg base CX0 1 f fd ["stream"] jT:=by
 refine F.ok Xm (fun vs H Q E h=>?_) (fun cdv A outer s H vs Q E hr h=>?_)
 ·obtain ⟨r,ts,rfl,_⟩:=h
  rfl
 obtain ⟨r,ts,rfl,hd,tl,hq⟩:=h
 refine ⟨_,(@Z3 _ _ _ _ _ (@Zj _ _ 1 _ _ _ _ Xm.nd rfl (Or.inl rfl) e_ (by rfl) (by first | exact .inl rfl | exact .inr rfl))
 (@Z3 _ _ _ _ _ (Xx PassesOwn.never rfl (X0 (pv 0)) (Yq rfl (Z6 (Z5 (i:=2) Xm.nd rfl (Or.inl rfl)) (Z6 (Z5 (i:=3) Xm.nd rfl (Or.inl rfl)) (Z6 (Z5 (i:=4) Xm.nd rfl (Or.inl rfl)) (Z6 (Z5 (i:=5) Xm.nd rfl (Or.inl rfl)) Zx)))))
 (@Z9 _ _ _ (T0 (Wz hr) (pv 1) (pv 3) (@Za _ _ _ _ _ _ _ _ Zp (Vi (Wz hr) (pv 1) (pv 3) Z2 ⟨rfl,rfl,rfl,rfl⟩) (pv 5)) rfl)))
 (@Z9 _ _ _ (@Zg _ _ _ _ (pv 1))))),?_⟩
 obtain ⟨_,xs,e0,e_r,ds⟩:=DV.list_inv hd
 cases e0
 have gg:Same H H:=Same.refl _
 intro d n_d
 generalize hz:upd _ d _=H1
 have gz:=Zc hz n_d
 have e_d:=Zi hz
 clear hz
 have gg:=gg.trans gz
 refine ⟨_,rfl,r,rfl,⟨_,SqL.of (gz _ _ e_r)⟩,?_⟩
 have dl:=ds.length
 rw [List.length_map] at dl
 refine W9 (xs:=xs) (fun n σ H'=>∃(o2 o3 o4 o5:Option V),σ=[some (.ref r),some (.ref d),o2,o3,o4,o5]∧Same H H'∧H' d=some (.dK (aE (cg (ts.take n))))) ⟨_,_,_,_,rfl,gg,e_d⟩ ?_ ?_ ?_
 ·rintro i σ H' _ ⟨_,_,_,_,_,g,_⟩
  exact SqL.of (g _ _ e_r)
 ·rintro i x σ H' hx ⟨o2,o3,o4,o5,rfl,g,ed⟩
  obtain ⟨t,c,ht,rfl,ec,_⟩:=DVs.th_at (ds.mono g) hx
  have tk:ts.take (i+1)=ts.take i++[t]:=Y6 ht
  have nd:=O5 (ts.take i)
  have len:=N5 (ts.take i)
  rw [List.length_take] at len
  have kl:=Ye (cg (ts.take i))
  refine ⟨c,_,rfl,SqT.of ec,rfl,_,_,rfl,_,_,rfl,_,_,rfl,_,_,rfl,rfl,?_⟩
  refine ⟨_,rfl,d,rfl,.inl ⟨_,.inl ed⟩,_,rfl,_,DGet.k (k:=Sum.inr t.word) ed,_,rfl,_,_,V1 nd t.word,rfl,?_⟩
  refine ⟨_,rfl,_,rfl,d,_,rfl,DPut.k (k:=Sum.inr t.word) ed (Zn (by omega)),some (.int t.day),some (.str t.word),some (.int t.num),some (.int t.many),rfl,Wm g n_d,?_⟩
  rw [To nd,tk,Qt]
  exact Ze
 rintro σ H2 ⟨o2,o3,o4,o5,rfl,g2,ed⟩
 rw [dl,List.take_length] at ed
 exact ⟨_,rfl,hq d _ g2 n_d ed⟩
end
def inP (ps:Ps) (n:Int) (zs:List Str):Ps:=zs.foldl (fun ps z=>bo ps z n) ps
def aV (cs:Ps) (bs:List Bn):Ps:=bs.foldl (fun ps b=>inP ps b.2 b.1) cs
theorem S8 (n:Int):∀(zs:List Str) (ps:Ps),(ps.map (·.1)).Nodup→((inP ps n zs).map (·.1)).Nodup
 | [],_,h=>h
 | z::zs,ps,h=>S8 n zs (bo ps z n) (Wh h _ _)
theorem Sx (n:Int):∀(zs:List Str) (ps:Ps),(inP ps n zs).length≤ps.length+zs.length
 | [],_=>Nat.le_refl _
 | z::zs,ps=>by
  have h1:=Sx n zs (bo ps z n)
  have h2:=fh ps z n
  show (inP (bo ps z n) n zs).length≤ps.length+(zs.length+1)
  omega
theorem fX (ps:Ps) (n:Int) (zs:List Str) (z:Str):inP ps n (zs++[z])=bo (inP ps n zs) z n:=by
 unfold inP
 rw [List.foldl_append]
 rfl
theorem R9 (cs:Ps) (bs:List Bn) (b:Bn):aV cs (bs++[b])=inP (aV cs bs) b.2 b.1:=by
 unfold aV
 rw [List.foldl_append]
 rfl
theorem Ut:∀(bs:List Bn) (cs:Ps),(cs.map (·.1)).Nodup→((aV cs bs).map (·.1)).Nodup
 | [],_,h=>h
 | b::bs,cs,h=>Ut bs (inP cs b.2 b.1) (S8 _ _ _ h)
theorem Tq:∀(bs:List Bn) (cs:Ps),(∀b∈bs,b.1.length≤100)→(aV cs bs).length≤cs.length+100 * bs.length
 | [],_,_=>Nat.le_refl _
 | b::bs,cs,h=>by
  have h1:=Tq bs (inP cs b.2 b.1) fun x hx=>h x (.tail _ hx)
  have h2:=Sx b.2 b.1 cs
  have h3:=h b (.head _)
  show (aV (inP cs b.2 b.1) bs).length≤cs.length+100 * (bs.length+1)
  omega
def jA:Sp:=fun vs H Q _=>∃(c p:Addr) (rows:List V) (cs:Ps) (bs:List Bn),vs=[.ref c,.ref p]∧H c=some (.tup rows)∧PairsAt H rows (aE cs)∧(cs.map (·.1)).Nodup∧cs.length≤50∧PapAt H p bs∧bs.length≤3000∧(∀b∈bs,b.1.length≤100)∧
 ∀(d:Addr) H',Same H H'→H d=none→H' d=some (.dK (aE (aV cs bs)))→Q (.ref d) H'
section
variable {P:Program} {w:World} {K:W.Frag} {mg:Str→Option Value} {base:Heap} {f:Addr} {fd:FuncData}
theorem mD (bO:mg "dict"=none) (F:Fun K "times_told" "times_told" ba f fd):FnOk P w K mg base CX0 1 f fd ["counts","paper"] jA:=by
 refine F.ok Xf (fun vs H Q E h=>?_) (fun cdv A outer s H vs Q E hr h=>?_)
 ·obtain ⟨c,p,rows,cs,bs,rfl,_⟩:=h
  rfl
 obtain ⟨c,p,rows,cs,bs,rfl,e_c,pa,nd0,cl,⟨xs,e_p,kb⟩,bl,ml,hq⟩:=h
 refine ⟨_,(@Z3 _ _ _ _ _ (@Zj _ _ 2 _ _ _ _ Xf.nd rfl (Or.inl rfl) (Y5 (Va rfl) rfl bO PyProof.Rows.boot_dict (@Z0 _ _ _ _ _ (pv 0) Z1 (by rfl))) (by rfl) (by first | exact .inl rfl | exact .inr rfl))
 (@Z3 _ _ _ _ _ (Xx PassesOwn.never rfl (X0 (pv 1)) (Yq rfl (Z6 (Z5 (i:=3) Xf.nd rfl (Or.inl rfl)) (Z6 (Z5 (i:=4) Xf.nd rfl (Or.inl rfl)) Zx)))
 (@Z9 _ _ _ (Xx PassesOwn.never rfl (Xk (pv 3)) (Z5 (i:=5) Xf.nd rfl (Or.inl rfl))
 (@Z9 _ _ _ (T0 (Wz hr) (pv 2) (pv 5) (@Za _ _ _ _ _ _ _ _ Zp (Vi (Wz hr) (pv 2) (pv 5) Z2 ⟨rfl,rfl,rfl,rfl⟩) (pv 4)) rfl)))))
 (@Z9 _ _ _ (@Zg _ _ _ _ (pv 2))))),?_⟩
 have kl:=Ye cs
 refine ⟨_,rfl,c,rows,_,rfl,e_c,pa,by omega,?_⟩
 rw [Um (by rw [Wy];exact gW nd0)]
 have gg:Same H H:=fun _ _ h=>h
 intro d n_d
 generalize hz:upd _ d _=H1
 have gz:=Zc hz n_d
 have e_d:=Zi hz
 clear hz
 have gg:=gg.trans gz
 refine ⟨_,rfl,p,rfl,⟨_,SqL.of (gz _ _ e_p)⟩,?_⟩
 have xl:=kb.length
 have lenA:∀i,(aV cs (bs.take i)).length≤300100:=fun i=>by
  have h1:=Tq (bs.take i) cs fun b hb=>ml b (List.mem_of_mem_take hb)
  rw [List.length_take] at h1
  omega
 refine W9 (xs:=xs) (fun n σ H'=>∃(o3 o4 o5:Option V),σ=[some (.ref c),some (.ref p),some (.ref d),o3,o4,o5]∧Same H H'∧H' d=some (.dK (aE (aV cs (bs.take n))))) ⟨_,_,_,rfl,gg,e_d⟩ ?_ ?_ ?_
 ·rintro i σ H' _ ⟨_,_,_,_,g,_⟩
  exact SqL.of (g _ _ e_p)
 ·rintro i x σ H' hx ⟨o3,o4,o5,rfl,g,ed⟩
  obtain ⟨a,m,b,rfl,hb,ea,em⟩:=kb.get hx
  have tk:bs.take (i+1)=bs.take i++[b]:=Y6 hb
  have bm:=ml b (List.mem_of_getElem? hb)
  refine ⟨a,_,rfl,SqT.of (g _ _ ea),rfl,_,_,rfl,_,_,rfl,rfl,?_⟩
  refine ⟨_,rfl,m,rfl,⟨_,SqT.of (g _ _ em)⟩,?_⟩
  have ndt:=Ut (bs.take i) cs nd0
  have lt:=lenA i
  refine Sz (xs:=b.1.map V.str) (fun k σ H''=>∃(o5:Option V),σ=[some (.ref c),some (.ref p),some (.ref d),some (.ref m),some (.int b.2),o5]∧Same H H''∧H'' d=some (.dK (aE (inP (aV cs (bs.take i)) b.2 (b.1.take k))))) ⟨_,rfl,g,ed⟩ ?_ ?_ ?_
  ·rintro k σ H'' _ ⟨_,_,g2,_⟩
   exact SqT.of (g2 _ _ em)
  ·rintro k x σ H'' hx2 ⟨o5,rfl,g2,ed2⟩
   rw [List.getElem?_map] at hx2
   obtain ⟨z,hz,rfl⟩:=Option.map_eq_some_iff.mp hx2
   have tk2:b.1.take (k+1)=b.1.take k++[z]:=Y6 hz
   have nd2:=S8 b.2 (b.1.take k) _ ndt
   have l2:=Sx b.2 (b.1.take k) (aV cs (bs.take i))
   rw [List.length_take] at l2
   have kl2:=Ye (inP (aV cs (bs.take i)) b.2 (b.1.take k))
   refine ⟨_,rfl,d,rfl,.inl ⟨_,.inl ed2⟩,_,rfl,_,DGet.k (k:=Sum.inr z) ed2,_,rfl,_,_,V1 nd2 z,rfl,?_⟩
   refine ⟨_,rfl,_,rfl,d,_,rfl,DPut.k (k:=Sum.inr z) ed2 (Zn (by omega)),some (.str z),rfl,Wm g2 n_d,?_⟩
   rw [To nd2,tk2,fX]
   exact Ze
  ·rintro σ H'' ⟨o5,rfl,g2,ed2⟩
   rw [List.length_map,List.take_length] at ed2
   exact ⟨_,_,_,rfl,g2,by rw [tk,R9];exact ed2⟩
 rintro σ H2 ⟨o3,o4,o5,rfl,g2,ed⟩
 rw [xl,List.take_length] at ed
 exact ⟨_,rfl,hq d _ g2 n_d ed⟩
end
end K18
namespace L2
open PySem PySem.Spec PyProof.Rows
section
variable {prog:Program} {w:World} {A:Around} {E:Value→Shared→Prop} {s:Shared}
theorem gP {l:Addr} {its:List Value} {ks:List Key} {R:Value→Shared→Prop} (hh:A.handled=none) (hl:s.heap.IsTuple l its.toArray) (hv:Vals (ks.map kV) its) (hb:its.length+1<scanBound)
  (h:∀(h':Heap) (tk:Nat),cK prog w h' s.heap.objs.size (ddK [] ks)→(∀b o,b<s.heap.objs.size→s.heap.get? b=some o→h'.get? b=some o)→R .none {s with heap:=h',toks:=tk}):
  codeAny (model prog w) A (.call (.builtin "set.__init__") ⟨[.ref s.heap.objs.size,.ref l],[]⟩) (wants R E) {s with heap:=s.heap.push (au w)}:=by
 have own:(s.heap.push (au w)).get? s.heap.objs.size=some (au w):=Heap.get?_push_size _ rfl
 have ty:Shared.TypeIs {s with heap:=s.heap.push (au w)} (.ref s.heap.objs.size) "set":=⟨_,own,rfl⟩
 refine codeAny_call_builtin PySem.F.called_set.init.plain PySem.F.entry_set_init (check_set_init_1 ty ?_)
 obtain ⟨⟨c0,d0,dt0,sl0⟩,ho,hc,nl,hd⟩:=hl
 simp only at hc hd
 subst hc hd
 have ho1:(s.heap.push (au w)).get? l=some {cls:=.type "tuple",dict:=d0,data:=.seq its.toArray nl,slots:=sl0}:=Heap.get?_push_of_some _ ho
 have hl1:(s.heap.push (au w)).IsTuple l its.toArray:=⟨_,ho1,rfl,nl,rfl⟩
 have f1:=PySem.F.sub_tuple_set
 have f2:=PySem.F.sub_tuple_frozenset
 have f3:(Value.type "tuple" == Value.type "dict")=false:=by decide
 unfold Builtin.«set.__init__» noKeywords Builtin.Frozenset.updateFrom
 generalize hP:pyIter=PI
 wp_walk
 subst hP
 refine wpAny_pyIter_tuple hl1 (wpAny_bind (wpAny_runValue ?_))
 have lt0:l<s.heap.objs.size:=Heap.lt_size ho
 have hz:ks.length=its.length:=by
  have:=hv.length
  rw [List.length_map] at this
  exact this
 have ne0:l≠(s.heap.push (au w)).objs.size:=by rw [Heap.size_push];exact Nat.ne_of_lt (Nat.lt_succ_of_lt lt0)
 have nin:s.heap.objs.size∉[(s.heap.push (au w)).objs.size,l]:=by
  rw [Heap.size_push]
  simp only [List.mem_cons,List.not_mem_nil,or_false,not_or]
  exact ⟨Nat.ne_of_lt (Nat.lt_succ_self _),Nat.ne_of_gt lt0⟩
 have hh3:A.in1.in1.handled=none:=by simp [hh]
 refine Qs (Walks.tuple hh3 _ l ne0 its.toArray) s.heap.objs.size nin ks (by rw [List.size_toArray];exact hz) (fun i v e=>?_) (by rw [List.size_toArray];exact hb) (its.toArray.size - 0) 0 _ (by omega) (Nat.zero_le _) ?st ?_ ?_
 case st=>exact ⟨⟨_,Heap.get?_push_size _ rfl,rfl,rfl⟩,hl1.push _⟩
 ·have e':its[i]?=some v:=by simpa using e
  have hi:i<ks.length:=by
   rw [hz]
   exact (List.getElem?_eq_some_iff.mp e').1
  obtain ⟨u,hu,ru⟩:=hv.get (i:=i) (x:=kV ks[i]) (by rw [List.getElem?_map,List.getElem?_eq_getElem hi];rfl)
  rw [e'] at hu
  cases hu
  exact ⟨ks[i],List.getElem?_eq_getElem hi,nw ru⟩
 ·have g2:((s.heap.push (au w)).push {cls:=.type "tuple_iterator",data:=.fields #[.ref l,.int 0 0]}).get? s.heap.objs.size=some (au w):=Heap.get?_push_of_some _ own
  exact Qx g2
 ·intro h' tk kp so
  refine wpAny_pure (wpAny_pure (h h' tk so fun b o hb2 e=>kp b o ?_ (Heap.get?_push_of_some _ (Heap.get?_push_of_some _ e))))
  simp only [List.mem_cons,List.not_mem_nil,or_false,not_or]
  exact ⟨Nat.ne_of_lt hb2,by rw [Heap.size_push];exact Nat.ne_of_lt (Nat.lt_succ_of_lt hb2)⟩
theorem Qc {l:Addr} {its:List Value} {ks:List Key} {Q:Value→Shared→Prop} (hh:A.handled=none) (hl:s.heap.IsTuple l its.toArray) (hv:Vals (ks.map kV) its) (hb:its.length+1<scanBound)
  (h:∀(h':Heap) (tk:Nat),cK prog w h' s.heap.objs.size (ddK [] ks)→(∀b o,b<s.heap.objs.size→s.heap.get? b=some o→h'.get? b=some o)→Q (.ref s.heap.objs.size) {s with heap:=h',toks:=tk}):
  wpAny (model prog w) A (call (.type "set") [.ref l]) Q E s:=by
 obtain ⟨c,tl,hmro⟩:=PySem.F.called_set.mro
 have k1:=PySem.F.called_set.made
 have k2:=PySem.F.called_set.sub
 have k3:=PySem.F.called_set.notType
 have k4:=PySem.F.called_set.canCreate
 have k5:=PySem.F.typeCall_set_1 (.ref l)
 refine wpAny_call (codeAny_of_tree ?_)
 show wpAny _ _ (callAny (.type "set") _) _ _ _
 refine wpAny_pure ⟨Code.quiet_builtin _ (by decide +kernel),codeAny_builtin PySem.F.entry_type_call ?_⟩
 rw [Around.under_plain (weight_type_call_type "set" [.ref l] []) rfl]
 repeat (any_goals (first | assumption | wp_step))
 refine codeAny_mono (U7 (.ref l) (E:=E) (Q₁:=fun obj s1=>obj=.ref s.heap.objs.size∧s1={s with heap:=s.heap.push (au w)}) ⟨rfl,rfl⟩) fun r s1 hr=>?_
 cases r with
 | error e=>exact hr
 | ok fl=>
  cases fl with
  | ret obj=>
   obtain ⟨rfl,rfl⟩:=hr
   have own:(s.heap.push (au w)).get? s.heap.objs.size=some (au w):=Heap.get?_push_size _ rfl
   have ty:Shared.TypeIs {s with heap:=s.heap.push (au w)} (.ref s.heap.objs.size) "set":=⟨_,own,rfl⟩
   have k6:=PySem.F.called_set.init.lookup
   have k7:=PySem.F.called_set.init.bind (.ref s.heap.objs.size)
   repeat (any_goals (first | assumption | wp_step))
   refine codeAny_mono (gP (R:=fun r s2=>r=.none∧∃h' tk,s2={s with heap:=h',toks:=tk}∧cK prog w h' s.heap.objs.size (ddK [] ks)∧(∀b o,b<s.heap.objs.size→s.heap.get? b=some o→h'.get? b=some o)) (E:=E) (by simp [hh]) hl hv hb fun h' tk so kp=>⟨rfl,h',tk,rfl,so,kp⟩) fun r2 s2 hr2=>?_
   cases r2 with
   | error e=>exact hr2
   | ok fl2=>
    cases fl2 with
    | ret r=>
     obtain ⟨rfl,h',tk,rfl,so,kp⟩:=hr2
     repeat (any_goals (first | assumption | wp_step))
     exact h _ _ so kp
    | _=>exact hr2.elim
  | _=>exact hr.elim
end
section
variable {X:Cx}
theorem ip (hc:X.calm=true):CallR X (.type "set") (fun xs H Q=>∃(p:Addr) (ks:List Key),xs=[.ref p]∧SqT X.K H p (ks.map kV)∧ks.length<4000∧∀a,H a=none→Q (.ref a) (upd H a (cI X.prog X.w a (ddK [] ks)))):=by
 intro pins s σ H xs us Q I r h
 obtain ⟨p,ks,rfl,hq,hz,q⟩:=h
 obtain ⟨u,rfl,ru⟩:=Xo r
 cases ru
 obtain ⟨its,rv,pl,_⟩:=I.tuple hq
 have hl:=rv.length
 rw [List.length_map] at hl
 refine Qc (I.ok.hd hc) pl rv (by unfold scanBound;omega) fun h' tk so kp=>?_
 refine ⟨.ref s.heap.objs.size,_,I.laid (t':=tk) (fun b o e=>kp b o (Heap.lt_size e) e) (Nat.le_refl _) (show ObjOk X.prog X.w _ h' _ (cI X.prog X.w s.heap.objs.size (ddK [] ks)) from ?_),rfl,q _ (I.hok.fresh (Nat.le_refl _))⟩
 refine ⟨so,?_,fun h1 h2 a k=>?_⟩
 ·obtain ⟨o,_,_,_,ho,_⟩:=so
  exact ⟨o,ho⟩
 ·exact Ww a k
def ud:R2:=fun x y H Q=>∃a b xs ys,x=.ref a∧y=.ref b∧H a=some (.tup xs)∧H b=some (.tup ys)∧xs.length+ys.length≤1000000∧∀(c:Addr) (H':Hp),Same H H'→H' c=some (.tup (xs++ys))→Q (.ref c) H'
theorem Xa:OpR X (binaryOp .Add) ud:=by
 intro pins s σ H x y v u Q I rx ry h
 obtain ⟨a,b,xs,ys,rfl,rfl,ha,hb,hz,q⟩:=h
 by_cases hx:xs=[]
 ·subst hx
  cases rx
  cases ry
  obtain ⟨its,r1,p1,_⟩:=I.tuple (SqT.of ha)
  obtain ⟨its2,r2,p2,_⟩:=I.tuple (SqT.of hb)
  obtain ⟨⟨cls,dd,data,sl⟩,ho,hc,n,hd⟩:=id p1
  obtain ⟨⟨cls2,dd2,data2,sl2⟩,ho2,hc2,n2,hd2⟩:=id p2
  simp only at hc hd hc2 hd2
  subst hc hd hc2 hd2
  have e0:its=[]:=r1.nil_iff.mpr rfl
  exact concat_meets ⟨_,ho,rfl⟩ ⟨_,ho2,rfl⟩ noFill_tuple_add seq_tuple_add PySem.F.slot_tuple_add PySem.F.entry_tuple_add (PySem.F.args_tuple_add_2 _ _)
   (tuple_addW0 a b its.toArray its2.toArray n n2 dd dd2 sl sl2 (by rw [e0];rfl)) ⟨ho,ho2,.ref b,H,I,rfl,q b H (Same.refl _) hb⟩
 ·refine qj pins s σ H _ _ v u Q I rx ry ⟨a,b,xs,ys,rfl,rfl,SqT.of ha,SqT.of hb,hx,Zb hz,fun e=>?_,fun _ p np=>q p _ (Zw np _) Ze⟩
  refine q a H (Same.refl _) ?_
  rw [e,List.append_nil]
  exact ha
end
section
variable {α:Type} {K:W.Frag} {a:Addr} {xs:List V} {ks:List α} {k:Nat} {g:TG} {tt:TT} {te:TE} {σ:St} {H:Hp} {Q:VK}
end
end L2
namespace L2
open PySem PySem.Spec PyProof.Rows PySem.Builtin PySem.Builtin.Str
theorem PenAt.put {H:Hp} {a l:Addr} {o:HO} (h:PenAt H a) (n:l≠a):PenAt (upd H l o) a:=by
 obtain ⟨p,q,r,e⟩:=h
 exact ⟨p,q,r,by rw [Zl (Ne.symm n)];exact e⟩
theorem mh {H H':Hp} {a l:Addr} (g:Grw a H H') (n:H' l=none):aA a H l=none:=by
 cases e:aA a H l with
 | none=>rfl
 | some o=>
  have:=(Z4 (g _ _ e)).2
  rw [n] at this
  cases this
theorem o0 {H H':Hp} {a l:Addr} {o:HO} (g:Grw a H H') (n:aA a H l=none):Grw a H (upd H' l o):=fun b u e=>by
 have hb:b≠l:=fun q=>by rw [q,n] at e;cases e
 have e2:=g b u e
 obtain ⟨h1,h2⟩:=Z4 e2
 rw [Ym h1,Zl hb]
 exact h2
theorem nX {H:Hp} {a l:Addr} {o:HO} (n:l≠a):aA a (upd H l o) l=some o:=by rw [Ym n];exact Ze
end L2
namespace HT
open PySem PySem.Spec PyProof.Rows
section
variable {prog:Program} {w:World} {A:Around} {E:Value→Shared→Prop} {s:Shared}
theorem getItem_tuple_whole {t sl:Addr} {items:Array Value} {vl vu:Value} {lo hi:Option Int} {Q:Value→Shared→Prop} (ht:IsTup s.heap t items) (hs:s.heap.IsSliceOf sl vl vu .none) (pl:IsPart vl lo) (pu:IsPart vu hi)
  (hw:sIx items.size 0 lo=0∧sIx items.size items.size hi=items.size) (h:Q (.ref t) s):wpAny (model prog w) A (getItem (.ref t) (.ref sl)) Q E s:=by
 obtain ⟨os,hos,hcs,hds⟩:=id hs
 have hTs:s.TypeIs (.ref sl) "slice":=⟨os,hos,hcs⟩
 have ty:=ht.typeIs
 unfold getItem
 try with_reducible refine wpAny_holding ?_
 first | refine wpAny_bind (wpAny_pure ?_) | skip
 refine wpAny_bind (wpAny_sequenceKey ht.typeIs (by decide) ?_)
 refine wpAny_bind (wpAny_callSpecial?_slot (name:=Str.ofString "__getitem__") ht.typeIs PyProof.Rows.slot_tuple_getitem
  (wpAny_call_entry PyProof.Rows.slot_tuple_getitem ht.typeIs entry_tuple_getitem ?_ (args_tuple_getitem _ _)))
 show wpAny _ _ (Builtin.Tuple.tupleItemsOf (.ref t) >>= _) _ _ s
 refine wpAny_bind (tupleItemsOf_ ht ?_)
 refine wpAny_bind (wpAny_typeOf hTs ?_)
 rw [if_pos (by decide)]
 refine wpAny_bind (Wv hs pl pu ?_)
 have hyes:(((sIx items.size 0 lo:Nat):Int) == 0 && (1:Int) == 1 && (sIx items.size items.size hi - sIx items.size 0 lo) == items.size)=true:=by
  rw [hw.1,hw.2];simp
 show wpAny _ _ (if (((sIx items.size 0 lo:Nat):Int) == 0 && (1:Int) == 1 && (sIx items.size items.size hi - sIx items.size 0 lo) == items.size)=true then _ else _) _ _ s
 rw [if_pos hyes]
 refine wpAny_bind (m:=Builtin.Tuple.tupleIsExact (.ref t)) ?_
 refine wpAny_bind (wpAny_typeOf ty (wpAny_pure ?_))
 rw [if_pos (by decide)]
 refine wpAny_bind (m:=rule _) (wpAny_rule ?_)
 exact wpAny_pure ⟨_,rfl,wpAny_pure h⟩
end
end HT
namespace L2
open PySem PySem.Spec PyProof.Rows
section
variable {X:Cx}
def rSlG:V→Option Int→Option Int→Hp→VK→Prop:=fun x lo hi H Q=>∃a xs,x=.ref a∧H a=some (.tup xs)∧∀(c:Addr) (H':Hp),Same H H'→H' c=some (.tup (bd xs lo hi))→Q (.ref c) H'
theorem Yj:SlR X rSlG:=by
 intro pins s σ H x v vl vu lo hi sl Q I rx hs pl pu h
 obtain ⟨a,xs,rfl,hx,q⟩:=h
 by_cases hw:HT.sIx xs.length 0 lo=0∧HT.sIx xs.length xs.length hi=xs.length
 ·cases rx
  obtain ⟨its,r,ht,hz⟩:=I.tuple (SqT.of hx)
  have hlen:its.toArray.size=xs.length:=by rw [List.size_toArray];exact r.length.symm
  refine ⟨"tuple",_,PyProof.Rows.slot_tuple_getitem.lookup,ht.typeIs,?_⟩
  refine HT.getItem_tuple_whole ht hs pl pu (by rw [hlen];exact hw) ⟨.ref a,H,I,rfl,q a H (Same.refl _) ?_⟩
  unfold bd
  rw [hw.1,hw.2,List.drop_zero,Nat.sub_zero,List.take_length]
  exact hx
 ·exact tE pins s σ H _ v vl vu lo hi sl Q I rx hs pl pu ⟨a,xs,rfl,SqT.of hx,hw,fun p np=>q p _ (Zw np _) Ze⟩
end
theorem sr {xs:List V} {k:Nat}:bd xs none (some (k:Int))=xs.take k:=by
 unfold bd
 rw [HT.sIx_none,List.drop_zero,Nat.sub_zero,HT.sIx_nat]
 rcases Nat.le_total k xs.length with h | h
 ·rw [Nat.min_eq_left h]
 ·rw [Nat.min_eq_right h,List.take_of_length_le (Nat.le_refl _),List.take_of_length_le h]
theorem fW {xs:List V} {k:Nat}:bd xs (some (k:Int)) none=xs.drop k:=by
 unfold bd
 rw [HT.sIx_none,HT.sIx_nat]
 rcases Nat.le_total k xs.length with h | h
 ·rw [Nat.min_eq_left h,List.take_of_length_le (by rw [List.length_drop];omega)]
 ·rw [Nat.min_eq_right h,List.drop_of_length_le h,List.drop_of_length_le (Nat.le_refl _),List.take_nil]
end L2
namespace K18
open PySem L2
def dL (zs:List Str):Bool:=(zs.zip (zs.drop 1)).all fun p=>decide (p.1.cps.toList<p.2.cps.toList)
def i9:Sp:=fun vs H Q _=>∃(a:Addr) (zs:List Str),vs=[.ref a]∧H a=some (.tup (zs.map V.str))∧zs.length≤100∧∀H',Same H H'→Q (.bl (dL zs)) H'
section
variable {P:Program} {w:World} {K:W.Frag} {mg:Str→Option Value} {base:Heap} {f:Addr} {fd:FuncData}
theorem lL (bw:mg "all"=none) (eE:mg "zip"=none) (F:Fun K "is_rising" "is_rising" a_ f fd):FnOk P w K mg base CX0 1 f fd ["parts"] i9:=by
 refine F.ok Ux (fun vs H Q E h=>?_) (fun cdv A outer s H vs Q E hr h=>?_)
 ·obtain ⟨a,zs,rfl,_⟩:=h
  rfl
 obtain ⟨a,zs,rfl,e_a,zl,hq⟩:=h
 refine ⟨_,(@Z9 _ _ _ (@Zg _ _ _ _ (Zd (V0 rfl) rfl bw PyProof.Rows.boot_all (@Z0 _ _ _ _ _ (Yh (own:=["one","other"]) (CompOk.of rfl rfl (by rfl) (by rfl) (by rfl)) (qF rfl eE (@Z0 _ _ _ _ _ (pv 0) (@Z0 _ _ _ _ _ (Zr Yj (pv 0) (Zt Z2) Zz) Z1 (by rfl)) (by rfl)))
  (fun _ _ _ _ _=>(W5 K 2 rfl rfl (Z6 (Z5 (i:=0) X3 rfl (Or.inl rfl) (Or.inr rfl)) (Z6 (Z5 (i:=1) X3 rfl (Or.inl rfl) (Or.inr rfl)) Zx)))) (fun _ _ _ _ _=>Ys)
  (fun _ _ _ _ _=>(@X1 _ _ _ _ _ _ _ _ P2 (pv 0) (pv 1) (Zk _)))) Z1 (by rfl))))),?_⟩
 refine ⟨_,rfl,_,rfl,1,rfl,a,_,rfl,e_a,fun b H1 g0 e_b=>?_⟩
 have eb:bd (zs.map V.str) (some 1) none=(zs.drop 1).map V.str:=(fW (k:=1)).trans List.map_drop.symm
 rw [eb] at e_b
 have e_a:=g0 _ _ e_a
 refine ⟨a,b,rfl,⟨_,SqT.of e_a⟩,⟨_,SqT.of e_b⟩,?_⟩
 have ln:min (zs.map V.str).length ((zs.drop 1).map V.str).length≤100:=by rw [List.length_map,List.length_map];omega
 have zp:(zs.zip (zs.drop 1)).length=min (zs.map V.str).length ((zs.drop 1).map V.str).length:=by rw [List.length_zip,List.length_map,List.length_map]
 refine lj (xs:=zs.map V.str) (zs:=(zs.drop 1).map V.str) (fun n ys H'=>Same H1 H'∧ys=(((zs.zip (zs.drop 1)).take n).map fun p=>decide (p.1.cps.toList<p.2.cps.toList)).map V.bl) ⟨Same.refl _,rfl⟩ ?_ ?_ ?_ ?_
 ·rintro n ys H' _ ⟨g,_⟩
  exact ⟨SqT.of (g _ _ e_a),SqT.of (g _ _ e_b)⟩
 ·rintro n x z ys H' T C hx hz ⟨g,rfl⟩ nT hC
  rw [List.getElem?_map] at hx hz
  obtain ⟨x',hx',rfl⟩:=Option.map_eq_some_iff.mp hx
  obtain ⟨z',hz',rfl⟩:=Option.map_eq_some_iff.mp hz
  have hp:(zs.zip (zs.drop 1))[n]?=some (x',z'):=List.getElem?_zip_eq_some.mpr ⟨hx',hz'⟩
  refine ⟨Zn ?_,T,_,rfl,SqT.of Ze,rfl,_,_,rfl,_,_,rfl,rfl,Wk.refl _,_,rfl,_,rfl,_,_,rfl,rfl,hC _ _ ⟨g.trans (Zw nT _),?_⟩⟩
  ·rw [List.length_map,List.length_map,List.length_take]
   omega
  ·rw [Y6 hp,List.map_append,List.map_append]
   rfl
 ·rintro n ys H' hn ⟨g,rfl⟩
  rw [List.length_map,List.length_map,List.length_take]
  exact Zn (by omega)
 ·rintro ys H' ⟨g,rfl⟩
  rw [←zp,List.take_length]
  refine ⟨Zb (by rw [List.length_map,List.length_map];omega),fun q nq=>?_⟩
  refine ⟨q,_,rfl,SqL.of Ze,?_⟩
  rw [List.all_map]
  exact hq _ (g0.trans (g.trans (Zw nq _)))
end
def bnB (room:Int) (b:Bn):Bool:=dL b.1 && (decide (room<(b.1.length:Int)) && decide (1≤b.2))
theorem gk:∀n:Nat,(List.replicate n true).all id=true
 | 0=>rfl
 | n+1=>by rw [List.replicate_succ,List.all_cons,gk n];rfl
theorem oC {z:Str} (h:mkS z=true):z.length≤1000:=by
 unfold mkS at h
 simp only [Bool.and_eq_true,decide_eq_true_iff] at h
 omega
def qW:Sp:=fun vs H Q _=>∃(a c:Addr) (b:Bn) (room:Int),vs=[.ref a,.int room]∧H a=some (.tup [.ref c,.int b.2])∧H c=some (.tup (b.1.map V.str))∧(∀z∈b.1,mkS z=true)∧b.1.length≤100∧∀H',Same H H'→Q (.bl (bnB room b)) H'
section
variable {P:Program} {w:World} {K:W.Frag} {mg:Str→Option Value} {base:Heap} {f:Addr} {fd:FuncData}
theorem tW (ad:mg "isinstance"=none) (ay:mg "tuple"=none) (aD:mg "len"=none) (bw:mg "all"=none) (lr:Has P w K mg base "is_mark" 1 ["thing"] ix) (cR:Has P w K mg base "is_rising" 1 ["parts"] i9) (aH:Has P w K mg base "is_whole_from" 2 ["thing","least"] mR)
  (F:Fun K "is_bunch" "is_bunch" bE f fd):FnOk P w K mg base CX0 3 f fd ["thing","room"] qW:=by
 refine F.ok Vg (fun vs H Q E h=>?_) (fun cdv A outer s H vs Q E hr h=>?_)
 ·obtain ⟨a,c,b,room,rfl,_⟩:=h
  rfl
 obtain ⟨a,c,b,room,rfl,e_a,e_c,zw,bl,hq⟩:=h
 refine ⟨_,(@Z3 _ _ _ _ _ (@Yc _ _ _ _ _ _ _ _ (PW.pt (@Xw _ _ _ _ _ _ _ (@X6 _ _ _ _ (Yy (Zd Xj rfl ad PyProof.Rows.boot_isinstance (@Z0 _ _ _ _ _ (pv 0) (@Z0 _ _ _ _ _ (Xh (v:=.ty "tuple") rfl ay PyProof.Rows.boot_tuple rfl) Z1 (by rfl)) (by rfl))))) (@Xp _ _ _ _ (@Zm _ _ _ _ _ _ _ _ fY (Zd Zo rfl aD PySem.boot_len (@Z0 _ _ _ _ _ (pv 0) Z1 (by rfl))) Z2 (Zk _))))) (@Z9 _ _ _ (@Zg _ _ _ _ Wc)) Zu)
 (@Z3 _ _ _ _ _ (X7 (pv 0) (Yq rfl (Z6 (Z5 (i:=2) Vg.nd rfl (Or.inl rfl)) (Z6 (Z5 (i:=3) Vg.nd rfl (Or.inl rfl)) Zx))))
 (@Z3 _ _ _ _ _ (@Yc _ _ _ _ _ _ _ _ (PW.pt (@Xw _ _ _ _ _ _ _ (@X6 _ _ _ _ (Yy (Zd Xj rfl ad PyProof.Rows.boot_isinstance (@Z0 _ _ _ _ _ (pv 2) (@Z0 _ _ _ _ _ (Xh (v:=.ty "tuple") rfl ay PyProof.Rows.boot_tuple rfl) Z1 (by rfl)) (by rfl))))) (@Xp _ _ _ _ (@X6 _ _ _ _ (Yy (Zd (V0 rfl) rfl bw PyProof.Rows.boot_all (@Z0 _ _ _ _ _ (Yh (own:=["mark"]) (CompOk.of rfl rfl (by rfl) (by rfl) (by rfl)) (Xk (pv 2))
  (fun _ _ _ _ _=>(Z5 (i:=0) T5 rfl (Or.inl rfl) (Or.inr rfl))) (fun _ _ _ _ _=>Ys)
  (fun _ _ _ _ _=>(Z7 lr hr (@Z0 _ _ _ _ _ (pv 0) Z1 (by rfl))))) Z1 (by rfl)))))))) (@Z9 _ _ _ (@Zg _ _ _ _ Wc)) Zu)
 (@Z9 _ _ _ (@Zg _ _ _ _ (@Xy _ _ _ _ _ _ _ (Z7 cR hr (@Z0 _ _ _ _ _ (pv 2) Z1 (by rfl))) (@Xy _ _ _ _ _ _ _ (@X1 _ _ _ _ _ _ _ _ U3 (Zd Zo rfl aD PySem.boot_len (@Z0 _ _ _ _ _ (pv 2) Z1 (by rfl))) (pv 1) (Zk _)) (@V6 _ _ _ _ _ (Z7 aH hr (@Z0 _ _ _ _ _ (pv 3) (@Z0 _ _ _ _ _ Z2 Z1 (by rfl)) (by rfl))))))))))),?_⟩
 have ka:Kd H (.ref a) "tuple":=.tup e_a
 have kc:Kd H (.ref c) "tuple":=.tup e_c
 refine ⟨_,rfl,_,_,"tuple",_,rfl,ka.ty,ka.kit (by decide) rfl,_,rfl,X8 ⟨_,rfl,a,_,rfl,.inr (SqT.of e_a),rfl,_,rfl,?_⟩⟩
 refine X8 ⟨_,rfl,a,_,rfl,SqT.of e_a,rfl,_,_,rfl,_,_,rfl,rfl,?_⟩
 refine ⟨_,rfl,_,_,"tuple",_,rfl,kc.ty,kc.kit (by decide) rfl,_,rfl,X8 ⟨_,rfl,c,rfl,⟨_,SqT.of e_c⟩,?_⟩⟩
 refine Xv (xs:=b.1.map V.str) (fun n ys H'=>Same H H'∧ys=(List.replicate n true).map V.bl) ⟨Same.refl _,rfl⟩ ?_ ?_ ?_
 ·rintro n ys H' _ ⟨g,_⟩
  exact SqT.of (g _ _ e_c)
 ·rintro n x ys H' C hx ⟨g,rfl⟩ hC
  have nl:=(List.getElem?_eq_some_iff.mp hx).1
  rw [List.length_map] at nl
  rw [List.getElem?_map] at hx
  obtain ⟨z,hz,rfl⟩:=Option.map_eq_some_iff.mp hx
  have zz:=zw z (List.mem_of_getElem? hz)
  refine ⟨Zn (by rw [List.length_map,List.length_replicate];omega),Wk.refl _,_,rfl,_,"str",rfl,.str _,(fun z' e=>by cases e;exact oC zz),fun H1 g1=>hC _ _ ⟨g.trans g1,?_⟩⟩
  rw [show mkB (.str z)=true from zz,List.replicate_succ',List.map_append]
  rfl
 rintro ys H' ⟨g,rfl⟩
 refine ⟨Zb (by rw [List.length_map,List.length_replicate,List.length_map];omega),fun p hp=>⟨p,_,rfl,SqL.of Ze,_,rfl,?_⟩⟩
 rw [gk]
 have g1:=g.trans (Zw hp (.lst ((List.replicate (b.1.map V.str).length true).map V.bl)))
 generalize upd H' p (.lst ((List.replicate (b.1.map V.str).length true).map V.bl))=H1 at g1 ⊢
 refine X8 ⟨_,rfl,c,b.1,rfl,g1 _ _ e_c,bl,fun H2 g2=>⟨_,rfl,?_⟩⟩
 have q:=hq _ (g1.trans g2)
 unfold bnB at q
 refine Yu (fun r=>?_) (fun r=>?_)
 ·rw [r,Bool.true_and] at q
  refine ⟨_,rfl,c,_,rfl,.inr (SqT.of (g2 _ _ (g1 _ _ e_c))),_,rfl,_,_,rfl,rfl,_,rfl,?_⟩
  rw [List.length_map]
  refine Yu (fun m=>?_) (fun m=>?_)
  ·rw [m,Bool.true_and] at q
   exact ⟨_,rfl,_,"int",_,rfl,.int _,q⟩
  ·rw [Bool.eq_false_iff.mpr m,Bool.false_and] at q
   exact q
 ·rw [Bool.eq_false_iff.mpr r,Bool.false_and] at q
  exact q
end
def cS (room:Int) (bs:List Bn):Bool:=bs.all (bnB room)
structure BnV (b:Bn):Prop where
 w:∀z∈b.1,mkS z=true
 l2:b.1.length≤100
def q_:Sp:=fun vs H Q _=>∃(p:Addr) (bs:List Bn) (room:Int),vs=[.ref p,.int room]∧PapAt H p bs∧bs.length≤3000∧(∀b∈bs,BnV b)∧∀H',Same H H'→Q (.bl (cS room bs)) H'
def qV:Sp:=fun vs H Q _=>∃(r:Addr) (ts:List Th),vs=[.ref r]∧DV H (.ref r) (dG ts)∧ts.length≤1000∧∀H',Same H H'→Q (.int (ts.map Th.many).sum) H'
section
variable {P:Program} {w:World} {K:W.Frag} {mg:Str→Option Value} {base:Heap} {f:Addr} {fd:FuncData}
theorem si (ad:mg "isinstance"=none) (aZ:mg "list"=none) (bw:mg "all"=none) (gJ:Has P w K mg base "is_bunch" 3 ["thing","room"] qW)
  (F:Fun K "is_paper" "is_paper" bI f fd):FnOk P w K mg base CX0 4 f fd ["thing","room"] q_:=by
 refine F.ok Nd (fun vs H Q E h=>?_) (fun cdv A outer s H vs Q E hr h=>?_)
 ·obtain ⟨p,bs,room,rfl,_⟩:=h
  rfl
 obtain ⟨p,bs,room,rfl,⟨xs,e_p,kb⟩,bl,bv,hq⟩:=h
 refine ⟨_,(@Z9 _ _ _ (@Zg _ _ _ _ (@Xy _ _ _ _ _ _ _ (Zd Xj rfl ad PyProof.Rows.boot_isinstance (@Z0 _ _ _ _ _ (pv 0) (@Z0 _ _ _ _ _ (Xh (v:=.ty "list") rfl aZ PyProof.Rows.boot_list rfl) Z1 (by rfl)) (by rfl))) (@V6 _ _ _ _ _ (Zd (V0 rfl) rfl bw PyProof.Rows.boot_all (@Z0 _ _ _ _ _ (Yh (own:=["one"]) (CompOk.of rfl rfl (by rfl) (by rfl) (by rfl)) (X0 (pv 0))
  (fun _ _ _ _ _=>(Z5 (i:=0) T4 rfl (Or.inl rfl) (Or.inr rfl))) (fun _ _ _ _ _=>Ys)
  (fun _ _ _ _ _=>(Z7 gJ hr (@Z0 _ _ _ _ _ (pv 0) (@Z0 _ _ _ _ _ (pv 2) Z1 (by rfl)) (by rfl))))) Z1 (by rfl))))))),?_⟩
 have kp:Kd H (.ref p) "list":=.lst e_p
 have xl:=kb.length
 refine ⟨_,rfl,_,_,"list",_,rfl,kp.ty,kp.kit (by decide) rfl,_,rfl,Yw ⟨_,rfl,p,rfl,⟨_,SqL.of e_p⟩,?_⟩⟩
 refine W3 (xs:=xs) (fun n ys H'=>Same H H'∧ys=((bs.take n).map (bnB room)).map V.bl) ⟨Same.refl _,rfl⟩ ?_ ?_ ?_
 ·rintro n ys H' _ ⟨g,_⟩
  exact SqL.of (g _ _ e_p)
 ·rintro n x ys H' C hx ⟨g,rfl⟩ hC
  have nl:=(List.getElem?_eq_some_iff.mp hx).1
  obtain ⟨a,m,b,rfl,hb,ea,em⟩:=kb.get hx
  have v:=bv b (List.mem_of_getElem? hb)
  refine ⟨Zn (by rw [List.length_map,List.length_map,List.length_take];omega),Wk.refl _,_,rfl,_,rfl,a,m,b,room,rfl,g _ _ ea,g _ _ em,v.w,v.l2,fun H1 g1=>hC _ _ ⟨g.trans g1,?_⟩⟩
  rw [Y6 hb,List.map_append,List.map_append]
  rfl
 rintro ys H' ⟨g,rfl⟩
 rw [xl,List.take_length]
 refine ⟨Zb (by rw [List.length_map,List.length_map];omega),fun q nq=>⟨q,_,rfl,SqL.of Ze,?_⟩⟩
 rw [List.all_map]
 exact hq _ (g.trans (Zw nq _))
theorem rn (cq:mg "sum"=none) (F:Fun K "things_in" "things_in" bg f fd):FnOk P w K mg base CX0 1 f fd ["stream"] qV:=by
 refine F.ok Oc (fun vs H Q E h=>?_) (fun cdv A outer s H vs Q E hr h=>?_)
 ·obtain ⟨r,ts,rfl,_⟩:=h
  rfl
 obtain ⟨r,ts,rfl,hd,tl,hq⟩:=h
 refine ⟨_,(@Z9 _ _ _ (@Zg _ _ _ _ (Zd (Tg rfl) rfl cq PyProof.Rows.boot_sum (@Z0 _ _ _ _ _ (Yh (own:=["day","mark","number","many"]) (CompOk.of rfl rfl (by rfl) (by rfl) (by rfl)) (X0 (pv 0))
  (fun _ _ _ _ _=>(W5 K 4 rfl rfl (Z6 (Z5 (i:=0) X2 rfl (Or.inl rfl) (Or.inr rfl)) (Z6 (Z5 (i:=1) X2 rfl (Or.inl rfl) (Or.inr rfl)) (Z6 (Z5 (i:=2) X2 rfl (Or.inl rfl) (Or.inr rfl)) (Z6 (Z5 (i:=3) X2 rfl (Or.inl rfl) (Or.inr rfl)) Zx)))))) (fun _ _ _ _ _=>Ys)
  (fun _ _ _ _ _=>(pv 3))) Z1 (by rfl))))),?_⟩
 obtain ⟨_,xs,e0,e_r,ds⟩:=DV.list_inv hd
 cases e0
 refine ⟨_,rfl,r,rfl,⟨_,SqL.of e_r⟩,fK (fun _=>true) (fun t=>.int t.many) e_r ds (by omega) ?_ ?_⟩
 ·rintro t c ys C mt ec h1 _
  exact ⟨c,_,rfl,SqT.of ec,rfl,_,_,rfl,_,_,rfl,_,_,rfl,_,_,rfl,rfl,Wk.refl _,_,rfl,h1 rfl⟩
 intro q nq
 refine ⟨q,ts.map Th.many,rfl,SqL.of ?_,hq _ (Zw nq _)⟩
 rw [Ze,List.filter_eq_self.mpr (fun _ _=>rfl),List.map_map]
 rfl
end
structure MdP (t:Ty):Prop where
 r1:1≤t.room
 r2:t.room≤20
 rise:dL (t.cs.map (·.1))=true
 len:(t.cs.length:Int)≤t.room
 pos:∀p∈t.cs,1≤p.2
 l0:0≤t.lt
 t0:0≤t.total
theorem Sv:∀{zs:List Str},dL zs=true→zs.Pairwise fun x y=>x.cps.toList<y.cps.toList
 | [],_=>.nil
 | [x],_=>List.pairwise_singleton _ _
 | x::y::zs,h=>by
  have h:(decide (x.cps.toList<y.cps.toList) && dL (y::zs))=true:=h
  rw [Bool.and_eq_true,decide_eq_true_iff] at h
  have ih:=Sv h.2
  refine List.pairwise_cons.mpr ⟨fun z hz=>?_,ih⟩
  rcases List.mem_cons.mp hz with rfl | hz
  ·exact h.1
  ·exact List.lt_trans h.1 ((List.pairwise_cons.mp ih).1 z hz)
theorem MdP.nd {t:Ty} (h:MdP t):(t.cs.map (·.1)).Nodup:=(Sv h.rise).imp fun h e=>by rw [e] at h;exact List.lt_irrefl _ h
open Classical in
def mdB (t:Ty):Bool:=decide (MdP t)
theorem T7 {t:Ty}:mdB t=true↔MdP t:=by unfold mdB;exact @decide_eq_true_iff _ (Classical.propDecidable _)
theorem jk {H:Hp}:∀{rows:List V} {ps:Ps},PairsAt H rows (aE ps)→(∀p∈ps,mkS p.1=true∧1≤p.2)→RowsP H rows ps
 | _,[],h,_=>by cases h;exact .nil
 | _,p::ps,h,g=>by
  unfold aE at h
  rw [List.map_cons] at h
  cases h with
  | cons e r=>exact .cons ⟨_,rfl,e,g p (.head _)⟩ (jk r fun x hx=>g x (.tail _ hx))
theorem Qy {H:Hp}:∀{rows:List V} {ps qs:Ps},PairsAt H rows (aE ps)→RowsP H rows qs→qs=ps∧∀p∈ps,1≤p.2
 | _,[],qs,h,g=>by
  cases h
  cases g
  exact ⟨rfl,fun _ z=>nomatch z⟩
 | _,p::ps,qs,h,g=>by
  unfold aE at h
  rw [List.map_cons] at h
  cases h with
  | cons e r=>
   cases g with
   | @cons x0 y0 xs0 ys0 g1 g2=>
    obtain ⟨a,e1,e2,_,h1⟩:=g1
    cases e1
    rw [e] at e2
    simp only [Option.some.injEq,HO.tup.injEq,List.cons.injEq,and_true,V.int.injEq] at e2
    obtain ⟨i1,i2⟩:=Qy r g2
    have q1:y0=p:=Prod.ext (V.str.inj e2.1).symm e2.2.symm
    subst q1
    subst i1
    exact ⟨rfl,fun x hx=>by
     rcases List.mem_cons.mp hx with z | z
     ·rw [z];exact h1
     ·exact i2 x z⟩
theorem ql {H:Hp} {q:Addr} {t:Ty} (d:DV H (.ref q) t.D) (cm:∀p∈t.cs,mkS p.1=true):(∃t',MadP H (.ref q) t')↔MdP t:=by
 obtain ⟨_,b,rows,e0,e_q,e_b,pa⟩:=DV.ty_inv d
 cases e0
 constructor
 ·rintro ⟨t',⟨a,c,xs,e1,e2,e3,e4⟩,m1,m2,m3,m4,m5,m6⟩
  cases e1
  rw [e_q] at e2
  simp only [Option.some.injEq,HO.tup.injEq,List.cons.injEq,and_true,V.int.injEq,V.ref.injEq] at e2
  obtain ⟨h1,h2,h3,h4⟩:=e2
  subst h2
  rw [e_b] at e3
  cases e3
  obtain ⟨i1,i2⟩:=Qy pa e4
  rw [i1] at m1 m4
  rw [←h1] at m2 m3 m4
  rw [←h3] at m5
  rw [←h4] at m6
  exact ⟨m2,m3,m1,m4,i2,m5,m6⟩
 ·intro m
  exact ⟨t,⟨q,b,rows,rfl,e_q,e_b,jk pa fun p hp=>⟨cm p hp,m.pos p hp⟩⟩,m.rise,m.r1,m.r2,m.len,m.l0,m.t0⟩
theorem ua {H:Hp} {q:Addr} {t:Ty} (d:DV H (.ref q) t.D) (cm:∀p∈t.cs,mkS p.1=true) (cl:t.cs.length≤100):Gn 3 H (.ref q):=by
 obtain ⟨_,b,rows,e0,e_q,e_b,pa⟩:=DV.ty_inv d
 cases e0
 have rl:rows.length=t.cs.length:=by rw [pa.length,Ye]
 have gr:Gl 1 H rows:=nV pa fun p hp=>oC (cm p hp)
 have gb:Gn 2 H (.ref b):=Gn.tup e_b (by omega) (fun z e=>by
  obtain ⟨_,_,e1,_⟩:=pa.getP e
  cases e1) gr
 exact Gn.tup e_q (leN rfl) (ScS.z0 (x:=.int t.room) trivial) (show Gl 2 H [.int t.room,.ref b,.int t.lt,.int t.total] by repeat (first | exact ny | refine Os (by first | assumption | exact Gn.scal _ trivial) ?_))
def eqP (ps qs:Ps):Bool:=decide (ps.length=qs.length) && ps.all fun p=>decide (p∈qs)
def cT (ts:List Th) (t:Ty) (bs:List Bn):Bool:=cS t.room bs && (decide ((bs.map (·.2)).sum=t.lt) && (decide ((ts.map Th.many).sum=t.total) && eqP (cg ts) (aV t.cs bs)))
def jc:Sp:=fun vs H Q _=>∃(r q p:Addr) (ts:List Th) (t:Ty) (bs:List Bn),vs=[.ref r,.ref q,.ref p]∧DV H (.ref r) (dG ts)∧ts.length≤1000∧DV H (.ref q) t.D∧(∀p∈t.cs,mkS p.1=true)∧t.cs.length≤100∧PapAt H p bs∧bs.length≤3000∧(∀b∈bs,BnV b)∧∀H',Same H H'→Q (.bl (mdB t && cT ts t bs)) H'
section
variable {P:Program} {w:World} {K:W.Frag} {mg:Str→Option Value} {base:Heap} {f:Addr} {fd:FuncData}
theorem lQ (dm:Has P w K mg base "is_made_as_tally" 5 ["thing"] nj) (i5:Has P w K mg base "is_paper" 4 ["thing","room"] q_) (fM:Has P w K mg base "things_in" 1 ["stream"] qV) (iM:Has P w K mg base "times_in" 1 ["stream"] jT) (eP:Has P w K mg base "times_told" 1 ["counts","paper"] jA) (cq:mg "sum"=none)
  (F:Fun K "is_shown" "is_shown" bD f fd):FnOk P w K mg base CX0 6 f fd ["stream","tally","paper"] jc:=by
 refine F.ok W8 (fun vs H Q E h=>?_) (fun cdv A outer s H vs Q E hr h=>?_)
 ·obtain ⟨r,q,p,ts,t,bs,rfl,_⟩:=h
  rfl
 obtain ⟨r,q,p,ts,t,bs,rfl,k_r,tl,k_q,cm,cl,k_p,bl,bv,hq⟩:=h
 refine ⟨_,(@Z3 _ _ _ _ _ (@Yc _ _ _ _ _ _ _ _ (PW.pt (@Xw _ _ _ _ _ _ _ (@X6 _ _ _ _ (Yy (Z7 dm hr (@Z0 _ _ _ _ _ (pv 1) Z1 (by rfl))))) (@Xp _ _ _ _ (@X6 _ _ _ _ (Yy (Z7 i5 hr (@Z0 _ _ _ _ _ (pv 2) (@Z0 _ _ _ _ _ (@Y0 _ _ _ _ _ _ _ Yl (pv 1) Z2 (fun _ _=>rfl)) Z1 (by rfl)) (by rfl)))))))) (@Z9 _ _ _ (@Zg _ _ _ _ Wc)) Zu)
 (@Z3 _ _ _ _ _ (X7 (pv 1) (Yq rfl (Z6 (Z5 (i:=3) W8.nd rfl (Or.inl rfl)) (Z6 (Z5 (i:=4) W8.nd rfl (Or.inl rfl)) (Z6 (Z5 (i:=5) W8.nd rfl (Or.inl rfl)) (Z6 (Z5 (i:=6) W8.nd rfl (Or.inl rfl)) Zx))))))
 (@Z3 _ _ _ _ _ (@Yc _ _ _ _ _ _ _ _ (PW.pt (@Xw _ _ _ _ _ _ _ (@Zm _ _ _ _ _ _ _ _ fY (Zd (Tg rfl) rfl cq PyProof.Rows.boot_sum (@Z0 _ _ _ _ _ (Yh (own:=["marks","many"]) (CompOk.of rfl rfl (by rfl) (by rfl) (by rfl)) (X0 (pv 2))
  (fun _ _ _ _ _=>(W5 K 2 rfl rfl (Z6 (Z5 (i:=0) Ws rfl (Or.inl rfl) (Or.inr rfl)) (Z6 (Z5 (i:=1) Ws rfl (Or.inl rfl) (Or.inr rfl)) Zx)))) (fun _ _ _ _ _=>Ys)
  (fun _ _ _ _ _=>(pv 1))) Z1 (by rfl))) (pv 5) (Zk _)) (@Xp _ _ _ _ (@Zm _ _ _ _ _ _ _ _ fY (Z7 fM hr (@Z0 _ _ _ _ _ (pv 0) Z1 (by rfl))) (pv 6) (Zk _))))) (@Z9 _ _ _ (@Zg _ _ _ _ Wc)) Zu)
 (@Z9 _ _ _ (@Zg _ _ _ _ (@X1 _ _ _ _ _ _ _ _ (jw (Nat.lt_of_le_of_lt (Nat.le_add_right _ _) hr.units)) (Z7 iM hr (@Z0 _ _ _ _ _ (pv 0) Z1 (by rfl))) (Z7 eP hr (@Z0 _ _ _ _ _ (pv 4) (@Z0 _ _ _ _ _ (pv 2) Z1 (by rfl)) (by rfl))) (Zk _))))))),?_⟩
 refine ⟨_,rfl,_,rfl,ua k_q cm cl,fun mb H1 g1 imd=>⟨_,rfl,?_⟩⟩
 have imd:=imd.trans ((ql k_q cm).trans T7.symm)
 rw [show mb=mdB t from Bool.eq_iff_iff.mpr imd]
 by_cases hm:mdB t=true
 case neg=>
  have hm:=Bool.eq_false_iff.mpr hm
  rw [hm] at hq ⊢
  exact Yw (hq _ g1)
 rw [hm] at hq ⊢
 simp only [Bool.true_and] at hq
 have md:=T7.mp hm
 refine X8 ?_
 have gg:=g1
 have k_r:=k_r.mono g1
 have k_q:=k_q.mono g1
 have k_p:=k_p.mono g1
 obtain ⟨_,b,rows,e0,e_q,e_b,pa⟩:=DV.ty_inv k_q
 cases e0
 refine ⟨_,rfl,_,rfl,_,_,_,_,rfl,rfl,SqT.of e_q,rfl,p,bs,t.room,rfl,k_p,bl,bv,fun H2 g2=>⟨_,rfl,?_⟩⟩
 have gg:=gg.trans g2
 have k_r:=k_r.mono g2
 have k_p:=k_p.mono g2
 have e_q:=g2 _ _ e_q
 have e_b:=g2 _ _ e_b
 have pa:=pa.mono g2
 unfold cT at hq
 by_cases hp:cS t.room bs=true
 ·rw [hp] at hq ⊢
  simp only [Bool.true_and] at hq
  refine X8 ⟨_,rfl,q,_,rfl,SqT.of e_q,rfl,_,_,rfl,_,_,rfl,_,_,rfl,_,_,rfl,rfl,?_⟩
  obtain ⟨xs,e_p,kb⟩:=id k_p
  have xl:=kb.length
  refine ⟨_,rfl,p,rfl,⟨_,SqL.of e_p⟩,?_⟩
  refine W3 (xs:=xs) (fun n ys H'=>H'=H2∧ys=((bs.take n).map (·.2)).map V.int) ⟨rfl,rfl⟩ ?_ ?_ ?_
  ·rintro n ys H' _ ⟨rfl,_⟩
   exact SqL.of e_p
  ·rintro n x ys H' C hx ⟨rfl,rfl⟩ hC
   have nl:=(List.getElem?_eq_some_iff.mp hx).1
   obtain ⟨a,m,b',rfl,hb,ea,em⟩:=kb.get hx
   refine ⟨Zn (by rw [List.length_map,List.length_map,List.length_take];omega),a,_,rfl,SqT.of ea,rfl,_,_,rfl,_,_,rfl,rfl,Wk.refl _,_,rfl,hC _ _ ⟨rfl,?_⟩⟩
   rw [Y6 hb,List.map_append,List.map_append]
   rfl
  rintro ys H' ⟨rfl,rfl⟩
  rw [xl,List.take_length]
  refine ⟨Zb (by rw [List.length_map,List.length_map];omega),?_⟩
  intro sp sF
  generalize hz:upd _ sp _=H3
  have gz:=Zc hz sF
  have rB:=Zi hz
  clear hz
  have gg:=gg.trans gz
  have k_r:=k_r.mono gz
  have k_p:=k_p.mono gz
  have e_b:=gz _ _ e_b
  have pa:=pa.mono gz
  refine ⟨sp,_,rfl,SqL.of rB,_,rfl,rfl,_,rfl,?_⟩
  by_cases hs:(bs.map (·.2)).sum=t.lt
  ·rw [decide_eq_true (show V.int (bs.map (·.2)).sum=V.int t.lt by rw [hs])]
   rw [decide_eq_true hs] at hq
   simp only [Bool.true_and] at hq
   refine X8 ⟨_,rfl,r,ts,rfl,k_r,tl,fun H4 g4=>⟨_,rfl,rfl,_,rfl,?_⟩⟩
   have gg:=gg.trans g4
   by_cases ht:(ts.map Th.many).sum=t.total
   ·rw [decide_eq_true (show V.int (ts.map Th.many).sum=V.int t.total by rw [ht])]
    rw [decide_eq_true ht] at hq
    simp only [Bool.true_and] at hq
    refine X8 ⟨_,rfl,r,ts,rfl,k_r.mono g4,tl,fun d1 H5 g5 nd1 e1=>?_⟩
    have gg:=gg.trans g5
    have g45:=g4.trans g5
    refine ⟨_,rfl,_,rfl,b,p,rows,t.cs,bs,rfl,g45 _ _ e_b,pa.mono g45,md.nd,by have:=md.len;have:=md.r2;omega,k_p.mono g45,bl,fun b hb=>(bv b hb).l2,fun d2 H6 g6 nd2 e2=>?_⟩
    exact ⟨d1,d2,_,_,rfl,rfl,g6 _ _ e1,e2,hq _ (gg.trans g6)⟩
   ·rw [decide_eq_false (fun z=>ht (V.int.inj z))]
    rw [decide_eq_false ht] at hq
    exact Yw (hq _ gg)
  ·rw [decide_eq_false (fun z=>hs (V.int.inj z))]
   rw [decide_eq_false hs] at hq
   exact Yw (Yw (hq _ gg))
 ·have hp:=Bool.eq_false_iff.mpr hp
  rw [hp] at hq ⊢
  exact Yw (hq _ gg)
end
theorem fx {ps:Ps} (h:(ps.map (·.1)).Nodup):ps.Nodup:=(List.pairwise_map.mp h).imp fun h e=>h (by rw [e])
theorem S6 {ps:Ps} (h:(ps.map (·.1)).Nodup) (z:Str) (n:Int) (y:Str):look (bo ps z n) y=look ps y+if z=y then n else 0:=by
 have h1:=V1 (Wh h z n) y
 have h2:=R7 (qs:=[(z,n)]) h (List.nodup_cons.mpr ⟨(fun y=>nomatch y),List.nodup_nil⟩) y
 have h3:V.int (look (bo ps z n) y)=V.int (ax ps [(z,n)] y):=h1.symm.trans h2
 have h4:=V.int.inj h3
 rw [h4]
 show look ps y+look [(z,n)] y=_
 congr 1
theorem nc {ps:Ps} (h:(ps.map (·.1)).Nodup) (z:Str) (n:Int):(aW (bo ps z n)).sum=(aW ps).sum+n:=by
 have q:=Pc (qs:=[(z,n)]) h (List.nodup_cons.mpr ⟨(fun y=>nomatch y),List.nodup_nil⟩)
 have e:aW (bo ps z n)=(ah ps [(z,n)]).map (ax ps [(z,n)]):=by
  unfold aW bo aY
  rw [List.map_map]
  rfl
 rw [e,q]
 congr 1
 exact Int.add_zero n
def cH (z:Str) (ts:List Th):Int:=((ts.filter fun t=>decide (t.word=z)).map Th.many).sum
theorem gh (z:Str):∀(ts:List Th) (ps:Ps),(ps.map (·.1)).Nodup→look (ts.foldl (fun ps t=>bo ps t.word t.many) ps) z=look ps z+cH z ts
 | [],ps,_=>(Int.add_zero _).symm
 | t::ts,ps,h=>by
  show look (ts.foldl (fun ps t=>bo ps t.word t.many) (bo ps t.word t.many)) z=_
  rw [gh z ts _ (Wh h _ _),S6 h]
  unfold cH
  rw [List.filter_cons]
  by_cases e:t.word=z
  ·rw [if_pos e,if_pos (decide_eq_true e),List.map_cons,List.sum_cons]
   omega
  ·rw [if_neg e,if_neg (by simpa using e)]
   omega
theorem jg:∀(ts:List Th) (ps:Ps),(ps.map (·.1)).Nodup→(aW (ts.foldl (fun ps t=>bo ps t.word t.many) ps)).sum=(aW ps).sum+(ts.map Th.many).sum
 | [],ps,_=>(Int.add_zero _).symm
 | t::ts,ps,h=>by
  show (aW (ts.foldl (fun ps t=>bo ps t.word t.many) (bo ps t.word t.many))).sum=_
  rw [jg ts _ (Wh h _ _),nc h,List.map_cons,List.sum_cons]
  omega
def bu (z:Str) (bs:List Bn):Int:=(bs.map fun b=>b.2 * (b.1.count z:Int)).sum
theorem fe (n:Int) (z:Str):∀(zs:List Str) (ps:Ps),(ps.map (·.1)).Nodup→look (inP ps n zs) z=look ps z+n * (zs.count z:Int)
 | [],ps,_=>by show look ps z=look ps z+n * ((0:Nat):Int);omega
 | y::zs,ps,h=>by
  show look (inP (bo ps y n) n zs) z=_
  rw [fe n z zs _ (Wh h _ _),S6 h,List.count_cons]
  by_cases e:y=z
  ·subst e
   rw [if_pos rfl,if_pos (by simp),Int.natCast_add,Int.mul_add]
   show _=look ps y+(n * _+n * 1)
   omega
  ·rw [if_neg e,if_neg (by simpa using e),Nat.add_zero]
   omega
theorem P8 (z:Str):∀(bs:List Bn) (ps:Ps),(ps.map (·.1)).Nodup→look (aV ps bs) z=look ps z+bu z bs
 | [],ps,_=>(Int.add_zero _).symm
 | b::bs,ps,h=>by
  show look (aV (inP ps b.2 b.1) bs) z=_
  rw [P8 z bs _ (S8 _ _ _ h),fe b.2 z b.1 ps h]
  unfold bu
  rw [List.map_cons,List.sum_cons]
  omega
def cO (ps qs:Ps):Int→List Int→List Bn
 | _,[]=>[]
 | p,v::l=>(aC ps qs v,v - p)::cO ps qs v l
theorem jq (ps qs:Ps):∀(l:List Int) (p:Int),((List.range l.length).map fun i=>((aC ps qs (l.getD i 0),l.getD i 0 - (p::l).getD i 0):Bn))=cO ps qs p l
 | [],_=>rfl
 | v::l,p=>by
  rw [List.length_cons,List.range_succ_eq_map,List.map_cons,List.map_map]
  show _::_=_::cO ps qs v l
  rw [←jq ps qs l v]
  rfl
theorem fU {a b:Ty} (h:a.Ok) (g:b.Ok) (v:Int):(aC a.cs b.cs v).Nodup:=by
 unfold aC
 exact List.Nodup.sublist List.filter_sublist ((Zv _).nodup_iff.mpr (Wp h.nd g.nd))
theorem Vx {ps qs:Ps} {v:Int} {z:Str}:z∈aC ps qs v↔z∈ah ps qs∧v≤ax ps qs z:=by
 unfold aC
 rw [List.mem_filter,(Zv _).mem_iff,decide_eq_true_iff]
theorem oG {a b:Ty} (h:a.Ok) (g:b.Ok) {z:Str} (hz:z∈ah a.cs b.cs) {m:Int}:∀(l:List Int) (p:Int),(∀v∈l,p<v)→l.Pairwise (·<·)→(∀v∈l,v≤ax a.cs b.cs z↔v≤m)→(m=p∨m∈l)→bu z (cO a.cs b.cs p l)=m - p
 | [],p,_,_,_,hm=>by
  rcases hm with rfl | hm
  ·show (0:Int)=_
   omega
  ·cases hm
 | v::l,p,hp,pw,hi,hm=>by
  obtain ⟨p1,p2⟩:=List.pairwise_cons.mp pw
  have e:bu z (cO a.cs b.cs p (v::l))=(v - p) * ((aC a.cs b.cs v).count z:Int)+bu z (cO a.cs b.cs v l):=rfl
  rw [e]
  have pv:=hp v (.head _)
  have iv:=hi v (.head _)
  rcases hm with rfl | hm
  ·have out:z∉aC a.cs b.cs v:=fun q=>by
    have:=iv.mp (Vx.mp q).2
    omega
   rw [List.count_eq_zero_of_not_mem out]
   have low:∀(l:List Int) (u:Int),(∀v∈l,m<v)→(∀v∈l,v≤ax a.cs b.cs z↔v≤m)→bu z (cO a.cs b.cs u l)=0:=by
    intro l
    induction l with
    | nil=>intro u _ _;rfl
    | cons w l ih=>
     intro u h1 h2
     have e:bu z (cO a.cs b.cs u (w::l))=(w - u) * ((aC a.cs b.cs w).count z:Int)+bu z (cO a.cs b.cs w l):=rfl
     have out:z∉aC a.cs b.cs w:=fun q=>by
      have:=(h2 w (.head _)).mp (Vx.mp q).2
      have:=h1 w (.head _)
      omega
     rw [e,List.count_eq_zero_of_not_mem out,ih w (fun x hx=>h1 x (.tail _ hx)) (fun x hx=>h2 x (.tail _ hx))]
     show (w - u) * 0+0=(0:Int)
     omega
   rw [low l v (fun x hx=>by have:=p1 x hx;omega) (fun x hx=>hi x (.tail _ hx))]
   show (v - m) * 0+0=m - m
   omega
  ·have vm:v≤m:=by
    rcases List.mem_cons.mp hm with rfl | hm
    ·exact Int.le_refl _
    ·exact Int.le_of_lt (p1 m hm)
   have inn:z∈aC a.cs b.cs v:=Vx.mpr ⟨hz,iv.mpr vm⟩
   rw [(List.Nodup.count (fU h g v)),if_pos inn,oG h g hz l v p1 p2 (fun x hx=>hi x (.tail _ hx)) ((List.mem_cons.mp hm).imp (fun e=>e) fun e=>e)]
   show (v - p) * 1+(m - v)=m - p
   omega
theorem gH (room:Int) (ps qs:Ps):(bT room ps qs).Pairwise (·<·):=by
 unfold bT
 have h:=List.Pairwise.and (O9 (eQ ((ah ps qs).map fun z=>min (ax ps qs z) (aF room ps qs)))) ((Xe _).nodup_iff.mpr (oU ((ah ps qs).map fun z=>min (ax ps qs z) (aF room ps qs))))
 exact h.imp fun ⟨h1,h2⟩=>by omega
theorem jQ {room:Int} {ps qs:Ps} {z:Str} (hz:z∈ah ps qs):min (ax ps qs z) (aF room ps qs)∈bT room ps qs:=by
 unfold bT
 exact (Xe _).mem_iff.mpr (N1.mpr (List.mem_map.mpr ⟨z,hz,rfl⟩))
theorem Ow {a b:Ty} (c:aF a.room a.cs b.cs≠0):aR a b=cO a.cs b.cs 0 (bT a.room a.cs b.cs):=by
 unfold aR
 rw [if_neg c]
 exact jq a.cs b.cs _ 0
theorem jZ {ps qs:Ps} {z:Str} (hz:z∉ah ps qs):∀(l:List Int) (p:Int),bu z (cO ps qs p l)=0
 | [],_=>rfl
 | v::l,p=>by
  have e:bu z (cO ps qs p (v::l))=(v - p) * ((aC ps qs v).count z:Int)+bu z (cO ps qs v l):=rfl
  rw [e,List.count_eq_zero_of_not_mem (fun q=>hz (Vx.mp q).1),jZ hz l v]
  show (v - p) * 0+0=(0:Int)
  omega
theorem ni {a b:Ty} (h:a.Ok) (g:b.Ok) (z:Str):ax a.cs b.cs z=look (dh a b).cs z+bu z (aR a b):=by
 have c0:=mM h g
 have s0:=O7 h g z
 show _=look (csM a.room a.cs b.cs) z+_
 rw [mV h.nd g.nd c0 z]
 by_cases c:aF a.room a.cs b.cs=0
 ·have e:aR a b=[]:=by unfold aR;rw [if_pos c]
  rw [e,c]
  show _=_+(0:Int)
  split <;> omega
 ·rw [Ow c]
  by_cases hz:z∈ah a.cs b.cs
  ·rw [oG h g hz (m:=min (ax a.cs b.cs z) (aF a.room a.cs b.cs)) _ 0 (fun v hv=>Ol h g c hv) (gH _ _ _) (fun v hv=>?_) (.inr (jQ hz))]
   ·split <;> omega
   ·obtain ⟨y,_,rfl⟩:=Rt hv
    omega
  ·rw [jZ hz]
   have e:ax a.cs b.cs z=0:=by
    have n1:z∉a.cs.map (·.1):=fun q=>hz (Yp.mpr (.inl q))
    have n2:z∉b.cs.map (·.1):=fun q=>hz (Yp.mpr (.inr q))
    show look a.cs z+look b.cs z=0
    rw [X4 n1,X4 n2]
    rfl
   rw [e]
   split <;> omega
theorem jV {ps qs:Ps} {m:Int}:∀(l:List Int) (p:Int),l.Pairwise (·<·)→(∀v∈l,v≤m)→(m=p∧l=[]∨m∈l)→((cO ps qs p l).map (·.2)).sum=m - p
 | [],p,_,_,hm=>by
  rcases hm with ⟨rfl,_⟩ | hm
  ·show (0:Int)=_
   omega
  ·cases hm
 | v::l,p,pw,hi,hm=>by
  obtain ⟨p1,p2⟩:=List.pairwise_cons.mp pw
  have e:((cO ps qs p (v::l)).map (·.2)).sum=(v - p)+((cO ps qs v l).map (·.2)).sum:=rfl
  have hm:m∈v::l:=hm.elim (fun q=>nomatch q.2) fun q=>q
  rw [e,jV l v p2 (fun x hx=>hi x (.tail _ hx)) ?_]
  ·omega
  ·rcases List.mem_cons.mp hm with rfl | hm
   ·cases l with
    | nil=>exact .inl ⟨rfl,rfl⟩
    | cons x l=>
     have:=p1 x (.head _)
     have:=hi x (.tail _ (.head _))
     omega
   ·exact .inr hm
theorem gj {a b:Ty} (h:a.Ok) (c:aF a.room a.cs b.cs≠0):a.room<((ah a.cs b.cs).map (ax a.cs b.cs)).length:=by
 by_cases q:a.room<((ah a.cs b.cs).map (ax a.cs b.cs)).length
 ·exact q
 ·exact absurd (show aF a.room a.cs b.cs=0 by unfold aF eC;rw [if_pos (by omega)]) c
theorem kB {a b:Ty} (h:a.Ok) (g:b.Ok):((aR a b).map (·.2)).sum=aF a.room a.cs b.cs:=by
 by_cases c:aF a.room a.cs b.cs=0
 ·have e:aR a b=[]:=by unfold aR;rw [if_pos c]
  rw [e,c]
  rfl
 ·have r1:=h.room1
  obtain ⟨k,_,e,hk,_⟩:=W2 (ns:=(ah a.cs b.cs).map (ax a.cs b.cs)) (room:=a.room) (by omega) (gj h c)
  obtain ⟨z,hz,ez⟩:=List.mem_map.mp hk
  have e:aF a.room a.cs b.cs=k:=e
  have hm:aF a.room a.cs b.cs∈bT a.room a.cs b.cs:=by
   have q:=jQ (room:=a.room) hz
   rw [ez,←e,Int.min_self] at q
   exact q
  rw [Ow c,jV _ 0 (gH _ _ _) (fun v hv=>?_) (.inr hm)]
  ·omega
  ·obtain ⟨y,_,rfl⟩:=Rt hv
   omega
theorem Oe:∀{zs:List Str},zs.Pairwise (fun x y=>x.cps.toList<y.cps.toList)→dL zs=true
 | [],_=>rfl
 | [x],_=>rfl
 | x::y::zs,h=>by
  obtain ⟨h1,h2⟩:=List.pairwise_cons.mp h
  show (decide (x.cps.toList<y.cps.toList) && dL (y::zs))=true
  rw [decide_eq_true (h1 y (.head _)),Oe h2]
  rfl
theorem kq {a b:Ty} (h:a.Ok) (g:b.Ok) (v:Int):dL (aC a.cs b.cs v)=true:=by
 refine Oe ?_
 have p1:(aC a.cs b.cs v).Pairwise (fun a b=>leS a b=true):=by
  unfold aC
  exact (Uu _).sublist List.filter_sublist
 refine (List.Pairwise.and p1 (fU h g v)).imp ?_
 rintro x y ⟨h1,h2⟩
 by_cases c:x.cps.toList<y.cps.toList
 ·exact c
 ·have h3:leS y x=true:=by unfold leS;rw [decide_eq_false c];rfl
  exact absurd (Tb h1 h3) h2
theorem iC {a b:Ty} (h:a.Ok) (c:aF a.room a.cs b.cs≠0) {v:Int} (hv:v≤aF a.room a.cs b.cs):a.room<((aC a.cs b.cs v).length:Int):=by
 have r1:=h.room1
 obtain ⟨k,_,e,hk,_,up⟩:=W2 (ns:=(ah a.cs b.cs).map (ax a.cs b.cs)) (room:=a.room) (by omega) (gj h c)
 have e:aF a.room a.cs b.cs=k:=e
 have l1:(aC a.cs b.cs v).length=(((ah a.cs b.cs).map (ax a.cs b.cs)).filter fun x=>decide (v≤x)).length:=by
  unfold aC
  rw [((Zv _).filter _).length_eq,List.filter_map,List.length_map]
  rfl
 have cnt:∀(ns:List Int),(ns.filter fun x=>decide (k<x)).length+ns.count k≤(ns.filter fun x=>decide (v≤x)).length:=by
  intro ns
  induction ns with
  | nil=>exact Nat.le_refl _
  | cons x ns ih=>
   rw [List.filter_cons,List.filter_cons,List.count_cons]
   by_cases q:k<x
   ·rw [if_pos (decide_eq_true q),if_pos (decide_eq_true (by omega)),if_neg (by simp;omega)]
    simp only [List.length_cons]
    omega
   ·by_cases q2:x=k
    ·subst q2
     rw [if_neg (by simp),if_pos (decide_eq_true (by omega)),if_pos (by simp)]
     simp only [List.length_cons]
     omega
    ·rw [if_neg (by simpa using q),if_neg (by simpa using q2)]
     split
     ·simp only [List.length_cons]
      omega
     ·omega
 have:=cnt ((ah a.cs b.cs).map (ax a.cs b.cs))
 omega
theorem j_ {a b:Ty} (h:a.Ok) (g:b.Ok):cS a.room (aR a b)=true:=by
 by_cases c:aF a.room a.cs b.cs=0
 ·have e:aR a b=[]:=by unfold aR;rw [if_pos c]
  rw [e]
  rfl
 ·rw [Ow c]
  have all:∀(l:List Int) (p:Int),(∀v∈l,p<v)→l.Pairwise (·<·)→(∀v∈l,v≤aF a.room a.cs b.cs)→cS a.room (cO a.cs b.cs p l)=true:=by
   intro l
   induction l with
   | nil=>intro p _ _ _;rfl
   | cons v l ih=>
    intro p h1 pw h2
    obtain ⟨p1,p2⟩:=List.pairwise_cons.mp pw
    show (bnB a.room (aC a.cs b.cs v,v - p) && cS a.room (cO a.cs b.cs v l))=true
    rw [ih v p1 p2 (fun x hx=>h2 x (.tail _ hx)),Bool.and_true]
    have hv:=h1 v (.head _)
    show (dL (aC a.cs b.cs v) && (decide (a.room<((aC a.cs b.cs v).length:Int)) && decide (1≤v - p)))=true
    rw [kq h g v,decide_eq_true (iC h c (h2 v (.head _))),decide_eq_true (by omega)]
    rfl
  refine all _ 0 (fun v hv=>Ol h g c hv) (gH _ _ _) fun v hv=>?_
  obtain ⟨y,_,rfl⟩:=Rt hv
  omega
structure Shw (ts:List Th) (t:Ty) (bs:List Bn):Prop where
 at_:∀z,cH z ts=look t.cs z+bu z bs
 lt:(bs.map (·.2)).sum=t.lt
 pap:cS t.room bs=true
 tot:(ts.map Th.many).sum=t.total
theorem Pt (z:Str) (xs ys:List Bn):bu z (xs++ys)=bu z xs+bu z ys:=by
 unfold bu
 rw [List.map_append,List.sum_append]
theorem iD (z:Str) (xs ys:List Th):cH z (xs++ys)=cH z xs+cH z ys:=by
 unfold cH
 rw [List.filter_append,List.map_append,List.sum_append]
theorem Shw.merge {ts us:List Th} {a b:Ty} {xs ys:List Bn} (h:a.Ok) (g:b.Ok) (r:a.room=b.room) (ha:Shw ts a xs) (hb:Shw us b ys):Shw (ts++us) (dh a b) (xs++ys++aR a b):=by
 refine ⟨fun z=>?_,?_,?_,?_⟩
 ·have e:=ni h g z
  have e1:ax a.cs b.cs z=look a.cs z+look b.cs z:=rfl
  rw [iD,Pt,Pt,ha.at_ z,hb.at_ z]
  omega
 ·rw [List.map_append,List.map_append,List.sum_append,List.sum_append,ha.lt,hb.lt,kB h g]
  rfl
 ·show cS a.room (xs++ys++aR a b)=true
  have p1:=ha.pap
  have p2:=hb.pap
  have p3:=j_ h g
  rw [←r] at p2
  unfold cS at *
  rw [List.all_append,List.all_append,p1,p2,p3]
  rfl
 ·rw [List.map_append,List.sum_append,ha.tot,hb.tot]
  rfl
theorem Shw.zero (room:Int):Shw [] (Ty.zero room) []:=⟨fun _=>rfl,rfl,rfl,rfl⟩
theorem Om {ps:Ps} (h:(ps.map (·.1)).Nodup) (pos:∀p∈ps,1≤p.2) (z:Str):z∈ps.map (·.1)↔1≤look ps z:=by
 constructor
 ·exact T8 pos h
 ·intro q
  by_cases hz:z∈ps.map (·.1)
  ·exact hz
  ·rw [X4 hz] at q
   omega
theorem su {ps qs:Ps} (h:(ps.map (·.1)).Nodup) (g:(qs.map (·.1)).Nodup) (p1:∀p∈ps,1≤p.2) (q1:∀p∈qs,1≤p.2) (e:∀z,look ps z=look qs z):eqP ps qs=true:=by
 have sub:∀{xs ys:Ps},(xs.map (·.1)).Nodup→(ys.map (·.1)).Nodup→(∀p∈xs,1≤p.2)→(∀p∈ys,1≤p.2)→(∀z,look xs z=look ys z)→∀p∈xs,p∈ys:=fun {xs ys} hx hy px py e p hp=>by
  have l1:=W6 hx hp
  have m:p.1∈ys.map (·.1):=(Om hy py p.1).mpr (by rw [←e,l1];exact px p hp)
  obtain ⟨x,hx',ex⟩:=List.mem_map.mp m
  have l2:=W6 hy hx'
  rw [ex,←e,l1] at l2
  have:x=p:=Prod.ext ex l2.symm
  exact this ▸ hx'
 have s1:=sub h g p1 q1 e
 have s2:=sub g h q1 p1 fun z=>(e z).symm
 have pm:ps.Perm qs:=(List.perm_ext_iff_of_nodup (fx h) (fx g)).mpr fun x=>⟨s1 x,s2 x⟩
 unfold eqP
 rw [decide_eq_true pm.length_eq,Bool.true_and]
 exact List.all_eq_true.mpr fun p hp=>decide_eq_true (s1 p hp)
theorem gi {ps:Ps} (nd:(ps.map (·.1)).Nodup) (h:∀p∈ps,1≤p.2) (z:Str) {n:Int} (n1:1≤n):∀p∈bo ps z n,1≤p.2:=fun p hp=>by
 have l:=W6 (Wh nd z n) hp
 rw [S6 nd] at l
 have l0:=T9 h p.1
 by_cases e:z=p.1
 ·rw [if_pos e] at l
  omega
 ·rw [if_neg e] at l
  have m:p.1∈ah ps [(z,n)]:=by
   rw [←Wj]
   exact List.mem_map.mpr ⟨p,hp,rfl⟩
  rcases Yp.mp m with q | q
  ·have:=T8 h nd q
   omega
  ·exact absurd (List.mem_singleton.mp q).symm e
theorem jM:∀(ts:List Th) (ps:Ps),(ps.map (·.1)).Nodup→(∀p∈ps,1≤p.2)→(∀t∈ts,1≤t.many)→∀p∈ts.foldl (fun ps t=>bo ps t.word t.many) ps,1≤p.2
 | [],_,_,h,_=>h
 | t::ts,ps,nd,h,ht=>jM ts _ (Wh nd _ _) (gi nd h _ (ht t (.head _))) fun x hx=>ht x (.tail _ hx)
theorem ja {n:Int} (n1:1≤n):∀(zs:List Str) (ps:Ps),(ps.map (·.1)).Nodup→(∀p∈ps,1≤p.2)→∀p∈inP ps n zs,1≤p.2
 | [],_,_,h=>h
 | z::zs,ps,nd,h=>ja n1 zs _ (Wh nd _ _) (gi nd h z n1)
theorem N4:∀(bs:List Bn) (ps:Ps),(ps.map (·.1)).Nodup→(∀p∈ps,1≤p.2)→(∀b∈bs,1≤b.2)→∀p∈aV ps bs,1≤p.2
 | [],_,_,h,_=>h
 | b::bs,ps,nd,h,hb=>N4 bs _ (S8 _ _ _ nd) (ja (hb b (.head _)) _ _ nd h) fun x hx=>hb x (.tail _ hx)
theorem i_ {room:Int} {bs:List Bn} (h:cS room bs=true):∀b∈bs,1≤b.2:=fun b hb=>by
 have q:=List.all_eq_true.mp h b hb
 exact of_decide_eq_true (Bool.and_eq_true_iff.mp (Bool.and_eq_true_iff.mp q).2).2
theorem Shw.shown {ts:List Th} {t:Ty} {bs:List Bn} (h:Shw ts t bs) (nd:(t.cs.map (·.1)).Nodup) (pos:∀p∈t.cs,1≤p.2) (ht:∀x∈ts,1≤x.many):cT ts t bs=true:=by
 unfold cT
 rw [h.pap,decide_eq_true h.lt,decide_eq_true h.tot]
 simp only [Bool.true_and]
 refine su (O5 ts) (Ut bs _ nd) (jM ts [] List.nodup_nil (fun _ q=>nomatch q) ht) (N4 bs _ nd pos (i_ h.pap)) fun z=>?_
 have e1:look (cg ts) z=0+cH z ts:=gh z ts [] List.nodup_nil
 rw [e1,Int.zero_add,P8 z bs _ nd]
 exact h.at_ z
end K18
namespace L2
open PySem PySem.Spec PyProof.Rows
section
variable {X:Cx}
theorem lu (hc:X.calm=true):CallR X (.builtin "sum") (fun xs H Q=>∃(v d:Addr) (kvs:List (Key×V)) (ns:List Int),xs=[.ref v]∧H v=some (cy v d)∧H d=some (.dK kvs)∧kvs.map (·.2)=ns.map V.int∧Q (.int ns.sum) H):=by
 intro pins s σ H xs us Q I rx h
 obtain ⟨v,d,kvs,ns,rfl,hv,hd,hns,q⟩:=h
 obtain ⟨u,rfl,ru⟩:=Xo rx
 cases ru
 obtain ⟨_,lo,es,kv,hD⟩:=Sm I.hok hd
 obtain ⟨view,_⟩:=(show ObjOk X.prog X.w H s.heap v (cy v d) from I.hok v _ hv)
 obtain ⟨ep,hat⟩:=hD.dictAt
 have hI:IntsAre (es.map (·.2)) ns:=Uo (by rw [←hns];exact U8 kv)
 have hV:Vals (ns.map V.int) (es.map (·.2)):=Wu hI
 have hl:es.length=ns.length:=by
  have e1:=hI.length
  rw [List.length_map] at e1
  exact e1
 have hlt:d<s.heap.objs.size:=by
  obtain ⟨o,_,ho,_⟩:=hat
  exact Heap.lt_size ho
 refine call_sum_walkG (wpAny_pyIter_values view hat ?_)
 have hh:X.A.in1.handled=none:=by simpa using I.ok.hd hc
 refine ⟨s.heap.objs.size,_,_,_,_,_,fun i=>ns.getD i 0,rfl,Walks.dictValues hh _ d (Nat.ne_of_lt hlt) es ep,⟨⟨_,Heap.get?_push_size _ rfl,rfl,rfl⟩,hat.at' fun o e=>Heap.get?_push_of_some _ e⟩,fun b hb=>?_,fun i v hv=>?_,fun h' tk t' kp=>?_⟩
 ·rw [Heap.size_push]
  rcases List.mem_cons.mp hb with e | e
  ·rw [e];exact Nat.lt_succ_self _
  ·rw [List.mem_singleton.mp e];exact Nat.lt_succ_of_lt hlt
 ·obtain ⟨k,hk⟩:=hv
  exact js hV (by rw [List.getElem?_map,hk];rfl)
 ·have e:preSum (fun i=>ns.getD i 0) es.length=ns.sum:=by
   rw [PyProof.Rows.preSum_getD,hl,List.take_length]
  rw [e]
  refine ⟨.int ns.sum,H,I.kept fun b o eb=>kp b o ?_ (Heap.get?_push_of_some _ eb),⟨_,rfl⟩,q⟩
  intro hb
  rw [List.mem_singleton.mp hb] at eb
  exact absurd (Heap.lt_size eb) (Nat.lt_irrefl _)
end
section
variable {a l d:Addr} {fz:HO} {Hf H' H'':Hp} {xs:List V} {ts:List Th}
end
end L2
namespace HT
open PySem PySem.Spec PyProof.Rows
theorem fQ {α β:Type} {f g:α→Option β}:∀{l:List α},(∀k∈l,f k=g k)→l.filterMap f=l.filterMap g
 | [],_=>rfl
 | x::l,h=>by rw [List.filterMap_cons,List.filterMap_cons,h x (.head _),fQ fun k hk=>h k (.tail _ hk)]
section
variable {prog:Program} {w:World} {A:Around} {E:Value→Shared→Prop} {s:Shared}
theorem Ts {sl:Addr} {t:Tok} {n:Nat} {Q:Int×Int×Nat→Shared→Prop} (hs:s.heap.IsSliceOf sl .none .none (.int (-1) t))
  (h:Q ((n:Int) - 1,-1,n) s):wpAny (model prog w) A (Builtin.Slice.sliceApplied (.ref sl) (pure (n:Int))) Q E s:=by
 obtain ⟨os,hos,hcs,hds⟩:=id hs
 unfold Builtin.Slice.sliceApplied Builtin.Slice.sliceFields
 refine wpAny_bind (wpAny_bind (wpAny_field hos hds (x:=.none) rfl (wpAny_bind (wpAny_field hos hds (x:=.none) rfl (wpAny_bind (wpAny_field hos hds (x:=.int (-1) t) rfl (wpAny_pure ?_)))))))
 refine wpAny_bind (U9 (IsPart.int (-1) t) ?_)
 show wpAny _ _ (if ((-1:Int) == 0)=true then _ else _) _ _ s
 rw [if_neg (by decide)]
 refine wpAny_bind (slicePart_none (wpAny_bind (slicePart_none (wpAny_bind (wpAny_pure ?_)))))
 have e1:Builtin.Slice.sliceAdjust none none (-1) (n:Int)=((n:Int) - 1,-1):=by
  unfold Builtin.Slice.sliceAdjust
  simp
 show wpAny _ _ (match Builtin.Slice.sliceAdjust none none (-1) (n:Int) with | (lo,hi)=>pure (lo,(-1:Int),Builtin.Slice.slicePlaces lo hi (-1))) _ _ s
 rw [e1]
 have e2:Builtin.Slice.slicePlaces ((n:Int) - 1) (-1) (-1)=n:=by
  unfold Builtin.Slice.slicePlaces
  simp
  omega
 show wpAny _ _ (pure ((n:Int) - 1,(-1:Int),Builtin.Slice.slicePlaces ((n:Int) - 1) (-1) (-1))) _ _ s
 rw [e2]
 exact wpAny_pure h
theorem getItem_tuple_rev {a sl:Addr} {items:Array Value} {t:Tok} {Q:Value→Shared→Prop} (ht:IsTup s.heap a items) (hs:s.heap.IsSliceOf sl .none .none (.int (-1) t))
  (h:Q (.ref s.heap.objs.size) {s with heap:=s.heap.push {cls:=.type "tuple",data:=.seq items.toList.reverse.toArray}}) (hsz:items.size≤sizeLine):wpAny (model prog w) A (getItem (.ref a) (.ref sl)) Q E s:=by
 have htake:sizeOk (.seq items.toList.reverse.toArray):=by
  show items.toList.reverse.toArray.size≤sizeLine
  rw [List.size_toArray,List.length_reverse,Array.length_toList]
  exact hsz
 obtain ⟨os,hos,hcs,hds⟩:=id hs
 have hTs:s.TypeIs (.ref sl) "slice":=⟨os,hos,hcs⟩
 unfold getItem
 try with_reducible refine wpAny_holding ?_
 first | refine wpAny_bind (wpAny_pure ?_) | skip
 refine wpAny_bind (wpAny_sequenceKey ht.typeIs (by decide) ?_)
 refine wpAny_bind (wpAny_callSpecial?_slot (name:=Str.ofString "__getitem__") ht.typeIs PyProof.Rows.slot_tuple_getitem
  (wpAny_call_entry PyProof.Rows.slot_tuple_getitem ht.typeIs entry_tuple_getitem ?_ (args_tuple_getitem _ _)))
 show wpAny _ _ (Builtin.Tuple.tupleItemsOf (.ref a) >>= _) _ _ s
 refine wpAny_bind (tupleItemsOf_ ht ?_)
 refine wpAny_bind (wpAny_typeOf hTs ?_)
 rw [if_pos (by decide)]
 refine wpAny_bind (Ts hs ?_)
 show wpAny _ _ (if (((items.size:Int) - 1) == 0 && (-1:Int) == 1 && items.size == items.size)=true then _ else _) _ _ s
 rw [if_neg (by simp)]
 have e:((List.range items.size).filterMap fun (k:Nat)=>items[((items.size:Int) - 1+(k:Int) * (-1)).toNat]?).toArray=items.toList.reverse.toArray:=by
  have e1:((List.range items.size).filterMap fun (k:Nat)=>items[((items.size:Int) - 1+(k:Int) * (-1)).toNat]?)=((List.range items.size).map fun k=>items.size - 1 - k).filterMap (items[·]?):=by
   rw [List.filterMap_map]
   refine fQ fun k hk=>?_
   have:=List.mem_range.mp hk
   show items[((items.size:Int) - 1+(k:Int) * (-1)).toNat]?=items[items.size - 1 - k]?
   rw [show ((items.size:Int) - 1+(k:Int) * (-1)).toNat=items.size - 1 - k by omega]
  rw [e1,W.krv_range,List.filterMap_reverse,W.krv_all]
 rw [e]
 first
  | exact wpAny_bind (m:=Builtin.Tuple.tupleExact _) (wpAny_newObj_type (wpAny_pure ⟨_,rfl,wpAny_pure h⟩) htake)
  | exact wpAny_bind (m:=Builtin.Tuple.tupleExact _) (wpAny_newObj_type (wpAny_bind (wpAny_pure (wpAny_pure ⟨_,rfl,wpAny_pure h⟩))) htake)
  | exact wpAny_bind (wpAny_bind (m:=Builtin.Tuple.tupleExact _) (wpAny_newObj_type (wpAny_pure (wpAny_pure ⟨_,rfl,wpAny_pure h⟩)) htake))
  | exact wpAny_bind (wpAny_bind (m:=Builtin.Tuple.tupleExact _) (wpAny_newObj_type (wpAny_pure ⟨_,rfl,wpAny_pure h⟩) htake))
end
end HT
namespace L2
open PySem PySem.Spec PyProof.Rows
section
variable {X:Cx}
def uh (K:W.Frag) (te ts:TE):TE:=fun σ H Q=>te σ H fun x H1=>ts σ H1 fun y H2=>∃(a:Addr) (xs:List V),x=.ref a∧y=.int (-1)∧SqT K H2 a xs∧∀p,H2 p=none→Q (.ref p) (upd H2 p (.tup xs.reverse))
theorem Of {e st:Expr} {te ts:TE} {pos p2:Pos} (he:PE X e te) (hs:PE X st ts):PE X (.Subscript e (.Slice none none (some st) p2) pos) (uh X.K te ts):=by
 intro pins s σ H Q I h
 refine Subscript_ (thn (he pins s σ H _ I h) fun v s1 hpat=>?_)
 obtain ⟨x,H1,I1,r1,q1⟩:=hpat
 refine wpAny_Slice ?_
 rw [evalPart_none]
 refine wpAny_pure (wpAny_pure ?_)
 rw [evalPart_some]
 refine thn (hs pins s1 σ H1 _ I1 q1) fun vk s2 hpat=>?_
 obtain ⟨y,H2,I2,r2,q2⟩:=hpat
 obtain ⟨a,xs,rfl,rfl,hx,q⟩:=q2
 cases r1
 obtain ⟨t,rfl⟩:=r2
 have I4:Inv X pins σ H2 {s2 with heap:=s2.heap.push {cls:=.type "slice",data:=.fields #[.none,.none,.int (-1) t]}}:=I2.kept (t':=s2.toks) fun b ob q=>Heap.get?_push_of_some _ q
 obtain ⟨its,r,ht,hz⟩:=I4.tuple hx
 have hlen:=r.length
 show wpAny (model X.prog X.w) X.A (subscriptTail e (.Slice none none (some st) p2) (.ref a) (.ref s2.heap.objs.size)) (EP X pins σ Q) X.xe {s2 with heap:=s2.heap.push {cls:=.type "slice",data:=.fields #[.none,.none,.int (-1) t]}}
 refine tail_any (ops:=[.ref a,.ref s2.heap.objs.size]) ht.typeIs PyProof.Rows.slot_tuple_getitem.lookup ?_ (by with_unfolding_all rfl)
 refine HT.getItem_tuple_rev ht (Heap.IsSliceOf.new ..) ?_ (by rw [List.size_toArray];omega)
 refine ⟨.ref _,_,I4.laid (t':=s2.toks) (o:=.tup xs.reverse) (fun b ob q=>Heap.get?_push_of_some _ q) (Nat.le_refl _) ?_,rfl,q _ (I4.hok.fresh (Nat.le_refl _))⟩
 exact ⟨by rw [List.length_reverse];exact hz,its.reverse,r.reverse,TupN.new _ _⟩
theorem Qo (K:W.Frag) (hK:X.K=K):CallR X (.builtin "len") (fun xs H Q=>∃p ys,xs=[.ref p]∧(SqL K H p ys∨SqT K H p ys)∧Q (.int (ys.length:Nat)) H):=hK ▸ Zo
end
def dz (prog:Program) (w:World) (A:Around) (s:Shared) (κ:KeyKind) (kd:SortKind):Prop:=
 ∀(E:Value→Shared→Prop) (x y:Value) (a b:κ.α) (Q:Bool→Shared→Prop),κ.keyOf x=some a→κ.keyOf y=some b→Q (κ.blt a b) s→wpAny (model prog w) A (keyLt' kd x y) Q E s
structure Sst (kd:SortKind) (xs0:Array Keyed) (st:SortSt):Prop where
 pm:(arrOf st).Perm xs0
 kn:kindOf st=kd
 pd:pendingOf st=#[]
 fl:failedOf st=none
def Rz (κ:KeyKind) (xs:Array Keyed) (n:Nat):Prop:=∀i j,i≤j→j<n→κ.blt (KK κ xs j) (KK κ xs i)=false
def Fz (κ:KeyKind) (xs:Array Keyed) (n:Nat):Prop:=∀i j,i≤j→j<n→κ.blt (KK κ xs i) (KK κ xs j)=false
section
variable {prog:Program} {w:World} {A:Around} {E:Value→Shared→Prop} {s:Shared} {κ:KeyKind} {kd:SortKind} {xs0:Array Keyed} {st:SortSt}
theorem Sst.sz (b:Sst kd xs0 st):(arrOf st).size=xs0.size:=b.pm.size_eq
theorem Sst.put (b:Sst kd xs0 st) {ys:Array Keyed} (p:ys.Perm (arrOf st)):Sst kd xs0 (setArr st ys):=⟨p.trans b.pm,b.kn,b.pd,b.fl⟩
theorem ltF {a b c:κ.α} (h:κ.blt b a=false) (g:κ.blt c b=false):κ.blt c a=false:=by
 rcases e:κ.blt c a with _ | _
 ·rfl
 ·rcases κ.negTrans c b a e with q | q
  ·rw [g] at q;exact q.symm
  ·rw [h] at q;exact q.symm
theorem ltA {a b:κ.α} (h:κ.blt a b=true):κ.blt b a=false:=by
 rcases e:κ.blt b a with _ | _
 ·rfl
 ·have q:=κ.trans a b a h e
  rw [κ.irrefl] at q
  exact q.symm
theorem Rz.snoc {xs:Array Keyed} {m:Nat} (r:Rz κ xs m) (h1:1≤m) (h:κ.blt (KK κ xs m) (KK κ xs (m - 1))=false):Rz κ xs (m+1):=by
 intro i j hij hj
 rcases Nat.lt_or_ge j m with l | l
 ·exact r i j hij l
 obtain rfl:j=m:=by omega
 rcases Nat.lt_or_ge i j with l2 | l2
 ·exact ltF (r i (j - 1) (by omega) (by omega)) h
 ·obtain rfl:i=j:=by omega
  exact κ.irrefl _
theorem Fz.snoc {xs:Array Keyed} {m:Nat} (r:Fz κ xs m) (h1:1≤m) (h:κ.blt (KK κ xs (m - 1)) (KK κ xs m)=false):Fz κ xs (m+1):=by
 intro i j hij hj
 rcases Nat.lt_or_ge j m with l | l
 ·exact r i j hij l
 obtain rfl:j=m:=by omega
 rcases Nat.lt_or_ge i j with l2 | l2
 ·exact ltF h (r i (j - 1) (by omega) (by omega))
 ·obtain rfl:i=j:=by omega
  exact κ.irrefl _
theorem rQ {xs:Array Keyed}:Rz κ xs 1:=fun i j hij hj=>by
 obtain rfl:i=j:=by omega
 exact κ.irrefl _
theorem one_Fz {xs:Array Keyed}:Fz κ xs 1:=fun i j hij hj=>by
 obtain rfl:i=j:=by omega
 exact κ.irrefl _
theorem Fz.same {xs ys:Array Keyed} {m:Nat} (r:Fz κ xs m) (h:∀k,KK κ ys k=KK κ xs k):Fz κ ys m:=fun i j hij hj=>by
 rw [h,h];exact r i j hij hj
theorem Tf {i j:Nat} {Q:Option Bool→SortSt→Prop} (hc:dz prog w A s κ kd) (hk:KeysOf κ xs0) (b:Sst kd xs0 st) (hi:i<xs0.size) (hj:j<xs0.size)
  (q:Q (some (κ.blt (KK κ (arrOf st) i) (KK κ (arrOf st) j))) st):wpS (model prog w) A E s (ltAt' i j) Q st:=by
 have look:∀{i:Nat},i<xs0.size→∃p a,(arrOf st)[i]?=some p∧κ.keyOf p.1=some a∧KK κ (arrOf st) i=a:=by
  intro i hi
  have hl:i<(arrOf st).size:=by rw [b.sz];exact hi
  have e:(arrOf st)[i]?=some (arrOf st)[i]:=Array.getElem?_eq_getElem hl
  obtain ⟨a,ha⟩:=hk (arrOf st)[i] ((Array.perm_iff_toList_perm.mp b.pm).mem_iff.mp (Array.mem_toList_iff.mpr (Array.getElem_mem hl)))
  refine ⟨_,a,e,ha,?_⟩
  unfold KK
  rw [e]
  show (κ.keyOf _).getD _=a
  rw [ha]
  rfl
 obtain ⟨⟨x,x'⟩,a,e1,k1,g1⟩:=look hi
 obtain ⟨⟨y,y'⟩,a',e2,k2,g2⟩:=look hj
 rw [g1,g2] at q
 rw [ltAt'_eq]
 refine wpS_bind (wpS_get ?_)
 show wpS (model prog w) A E s (elem' (arrOf st) i >>= fun u=>elem' (arrOf st) j >>= fun v=>lt' u v) Q st
 rw [elem'_eq,elem'_eq,e1,e2]
 refine wpS_bind (wpS_pure ?_)
 refine wpS_bind (wpS_pure ?_)
 rw [lt'_eq]
 refine wpS_bind (wpS_get ?_)
 rw [b.kn]
 exact wpS_bind (wpS_lift (wpAny_attempt (hc _ x y a a' _ k1 k2 ⟨rfl,wpS_pure q⟩)))
theorem jn {a n:Nat} {Q:AscSt→SortSt→Prop} (hc:dz prog w A s κ kd) (hk:KeysOf κ xs0) (hn:n≤xs0.size) (h1:1≤a) (h2:a≤n) (b:Sst kd xs0 st) (r:Rz κ (arrOf st) a)
  (fin:∀m,a≤m→m≤n→Rz κ (arrOf st) m→(m<n→κ.blt (KK κ (arrOf st) m) (KK κ (arrOf st) (m - 1))=true)→Q (none,m) st):wpS (model prog w) A E s (ascLoop a n) Q st:=by
 unfold ascLoop
 refine wpS_forRange (fun i c u=>u=st∧c=(none,i)∧Rz κ (arrOf st) i) ?_ ?_ ⟨rfl,rfl,r⟩
 ·rintro i _ _ h3 h4 ⟨rfl,rfl,r'⟩
  refine wpS_bind (Tf hc hk b (by omega) (by omega) ?_)
  rcases e:κ.blt (KK κ (arrOf _) i) (KK κ (arrOf _) (i - 1)) with _ | _
  ·exact wpS_pure ⟨rfl,rfl,r'.snoc (by omega) e⟩
  ·exact wpS_pure (fin i h3 (by omega) r' fun _=>e)
 ·rintro _ _ ⟨rfl,rfl,r'⟩
  rw [Nat.max_eq_right h2] at r' ⊢
  exact fin n h2 (Nat.le_refl _) r' fun q=>absurd q (Nat.lt_irrefl _)
theorem Ss {i j:Nat} {Q:Unit→SortSt→Prop} (q:Q () (setArr st (mirror (arrOf st) i j ((j - i) / 2)))):wpS (model prog w) A E s (reverseSlice' i j) Q st:=by
 rw [reverseSlice'_eq]
 exact wpS_modify q
theorem i6 {m n:Nat} {Q:Option Nat→SortSt→Prop} (hc:dz prog w A s κ kd) (hk:KeysOf κ xs0) (hn:n≤xs0.size) (h1:1≤m) (h2:m≤n) (b:Sst kd xs0 st) (r:Fz κ (arrOf st) m)
  (fin:∀l u,Sst kd xs0 u→1≤l→l≤n→Rz κ (arrOf u) l→Q (some l) u):wpS (model prog w) A E s (tail3 m n) Q st:=by
 unfold tail3
 refine wpS_bind (Ss ?_)
 have b':=b.put (mirror_perm (arrOf st) 0 m ((m - 0) / 2))
 have ml:m≤(arrOf st).size:=by rw [b.sz];omega
 refine wpS_bind (jn hc hk hn h1 h2 b' (fun i j hij hj=>?_) fun l h3 h4 r' _=>wpS_pure (fin l _ b' (by omega) h4 r'))
 show κ.blt (KK κ (mirror (arrOf st) 0 m ((m - 0) / 2)) j) (KK κ (mirror (arrOf st) 0 m ((m - 0) / 2)) i)=false
 rw [KK_mirror ml,KK_mirror ml,if_pos ⟨Nat.zero_le _,hj⟩,if_pos ⟨Nat.zero_le _,by omega⟩]
 exact r _ _ (by omega) (by omega)
theorem kh {m n:Nat} {Q:DescSt→SortSt→Prop} (hc:dz prog w A s κ kd) (hk:KeysOf κ xs0) (hn:n≤xs0.size) (h1:1≤m) (h2:m≤n) (b:Sst kd xs0 st) (r:Fz κ (arrOf st) m)
  (fin:∀l e u,Sst kd xs0 u→m≤l→l≤n→Fz κ (arrOf u) l→e+1≤l→(∀i,l - (e+1)≤i→i<l→KK κ (arrOf u) i=KK κ (arrOf u) (l - 1))→Q (none,l,e) u):
  wpS (model prog w) A E s (descLoop m n) Q st:=by
 unfold descLoop
 refine wpS_forRange (fun i c u=>∃e,c=(none,i,e)∧Sst kd xs0 u∧Fz κ (arrOf u) i∧e+1≤i∧∀k,i - (e+1)≤k→k<i→KK κ (arrOf u) k=KK κ (arrOf u) (i - 1)) ?_ ?_ ⟨0,rfl,b,r,h1,fun k h3 h4=>by rw [show k=m - 1 by omega]⟩
 ·rintro i _ u h3 h4 ⟨e,rfl,b',r',he,al⟩
  have il:i≤(arrOf u).size:=by rw [b'.sz];omega
  dsimp only
  refine wpS_bind (Tf hc hk b' (by omega) (by omega) ?_)
  rcases e1:κ.blt (KK κ (arrOf u) i) (KK κ (arrOf u) (i - 1)) with _ | _
  ·show wpS (model prog w) A E s (ltAt' (i - 1) i >>= _) _ u
   refine wpS_bind (Tf hc hk b' (by omega) (by omega) ?_)
   rcases e2:κ.blt (KK κ (arrOf u) (i - 1)) (KK κ (arrOf u) i) with _ | _
   ·have eq:KK κ (arrOf u) i=KK κ (arrOf u) (i - 1):=κ.total _ _ e1 e2
    refine wpS_pure ⟨e+1,rfl,b',r'.snoc (by omega) e2,by omega,fun k h5 h6=>?_⟩
    show KK κ (arrOf u) k=KK κ (arrOf u) i
    rcases Nat.lt_or_ge k i with l | l
    ·rw [eq];exact al k (by omega) l
    ·rw [show k=i by omega]
   ·exact wpS_pure (fin i e u b' h3 (by omega) r' he al)
  ·have up:=r'.snoc (by omega) (ltA e1)
   show wpS (model prog w) A E s (if e > 0 then _ else _) _ u
   by_cases c:e > 0
   ·rw [if_pos c]
    refine wpS_bind (Ss ?_)
    exact wpS_pure ⟨0,rfl,b'.put (mirror_perm _ _ _ _),up.same (KK_mirror_equal il al),by omega,fun k h5 h6=>by rw [show k=i+1 - 1 by omega]⟩
   ·rw [if_neg c]
    exact wpS_pure ⟨0,rfl,b',up,by omega,fun k h5 h6=>by rw [show k=i+1 - 1 by omega]⟩
 ·rintro _ u ⟨e,rfl,b',r',he,al⟩
  rw [Nat.max_eq_right h2] at r' he al ⊢
  exact fin n e u b' h2 (Nat.le_refl _) r' he al
theorem Pj {m n:Nat} {Q:Option Nat→SortSt→Prop} (hc:dz prog w A s κ kd) (hk:KeysOf κ xs0) (hn:n≤xs0.size) (h2:m+1≤n) (b:Sst kd xs0 st) (r:Fz κ (arrOf st) (m+1))
  (fin:∀l u,Sst kd xs0 u→1≤l→l≤n→Rz κ (arrOf u) l→Q (some l) u):wpS (model prog w) A E s (descPart m n) Q st:=by
 unfold descPart
 refine wpS_bind (m:=liftM (rule _)) (wpS_lift (wpAny_rule ⟨rfl,?_⟩))
 refine wpS_bind (kh hc hk hn (by omega) h2 b r fun l e u b' h3 h4 r' he al=>?_)
 have ll:l≤(arrOf u).size:=by rw [b'.sz];omega
 show wpS (model prog w) A E s (if e > 0 then _ else _) _ u
 by_cases c:e > 0
 ·rw [if_pos c]
  refine wpS_bind (Ss ?_)
  exact i6 (m:=l) hc hk hn (by omega) h4 (b'.put (mirror_perm _ _ _ _)) (r'.same (KK_mirror_equal ll al)) fin
 ·rw [if_neg c]
  exact i6 (m:=l) hc hk hn (by omega) h4 b' r' fin
theorem n8 {n:Nat} {Q:Option Nat→SortSt→Prop} (hc:dz prog w A s κ kd) (hk:KeysOf κ xs0) (hn:n≤xs0.size) (h1:1≤n) (b:Sst kd xs0 st)
  (fin:∀l u,Sst kd xs0 u→1≤l→l≤n→Rz κ (arrOf u) l→Q (some l) u):wpS (model prog w) A E s (countRun' 0 n) Q st:=by
 rw [countRun0_eq]
 refine wpS_bind (jn hc hk hn (Nat.le_refl 1) h1 b rQ fun m h3 h4 r lt=>?_)
 show wpS (model prog w) A E s (if (m == n)=true then _ else _) _ st
 rcases Nat.lt_or_ge m n with c | c
 ·rw [if_neg (by rw [beq_iff_eq];omega)]
  have lt:=lt c
  by_cases c2:m > 1
  ·rw [if_pos c2]
   refine wpS_bind (Tf hc hk b (by omega) (by omega) ?_)
   rcases e:κ.blt (KK κ (arrOf st) 0) (KK κ (arrOf st) (m - 1)) with _ | _
   ·have ml:m≤(arrOf st).size:=by rw [b.sz];omega
    have al:∀k,0≤k→k<m→KK κ (arrOf st) k=KK κ (arrOf st) (m - 1):=fun k _ h=>
     κ.total _ _ (ltF e (r 0 k (Nat.zero_le _) h)) (r k (m - 1) (by omega) (by omega))
    refine wpS_bind (Ss (Pj hc hk hn (by omega) (b.put (mirror_perm _ _ _ _)) ?_ fin))
    refine Fz.same (xs:=arrOf st) (Fz.snoc (fun i j hij hj=>?_) (by omega) (ltA lt)) (KK_mirror_equal ml al)
    rw [al i (Nat.zero_le _) (by omega),al j (Nat.zero_le _) hj]
    exact κ.irrefl _
   ·exact wpS_pure (fin m st b h3 h4 r)
  ·rw [if_neg c2]
   obtain rfl:m=1:=by omega
   exact Pj hc hk hn (by omega) b (one_Fz.snoc (by omega) (ltA lt)) fin
 ·obtain rfl:m=n:=by omega
  rw [if_pos (by rw [beq_iff_eq])]
  exact wpS_pure (fin m st b h3 h4 r)
theorem lM {n ok:Nat} {Q:Bool→SortSt→Prop} (hc:dz prog w A s κ kd) (hk:KeysOf κ xs0) (hn:n≤xs0.size) (h2:ok≤n) (b:Sst kd xs0 st) (r:Rz κ (arrOf st) ok)
  (fin:∀u,Sst kd xs0 u→Rz κ (arrOf u) n→Q true u):wpS (model prog w) A E s (binarySort' 0 n ok) Q st:=by
 rw [binarySort'_eq]
 simp only [Nat.zero_add]
 have c_:Rz κ (arrOf st) (min (max ok 1) n):=fun i j hij hj=>by
  rcases Nat.lt_or_ge j ok with l | l
  ·exact r i j hij l
  ·obtain rfl:i=j:=by omega
   exact κ.irrefl _
 refine wpS_bind (wpS_mono (wpS_forRange (Q:=fun c u=>c=(none,())∧Sst kd xs0 u∧Rz κ (arrOf u) n) (fun k c u=>c=(none,())∧Sst kd xs0 u∧Rz κ (arrOf u) (min k n)) ?_ ?_ ⟨rfl,b,c_⟩) ?_)
 ·rintro k _ u h3 h4 ⟨rfl,b',r'⟩
  rw [Nat.min_eq_left (Nat.le_of_lt h4)] at r'
  have kl:k<xs0.size:=by omega
  have ks:k<(arrOf u).size:=by rw [b'.sz];exact kl
  refine wpS_bind (wpS_mono (wpS_forRange (Q:=fun c v=>v=u∧∃p,c=(none,p,p)∧p≤k∧(∀i,i<p→κ.blt (KK κ (arrOf u) k) (KK κ (arrOf u) i)=false)∧∀i,p≤i→i<k→κ.blt (KK κ (arrOf u) k) (KK κ (arrOf u) i)=true)
   (fun x c v=>v=u∧∃p q,c=(none,p,q)∧p≤q∧q≤k∧q+x≤k+p∧(∀i,i<p→κ.blt (KK κ (arrOf u) k) (KK κ (arrOf u) i)=false)∧∀i,q≤i→i<k→κ.blt (KK κ (arrOf u) k) (KK κ (arrOf u) i)=true) ?_ ?_
   ⟨rfl,0,k,rfl,Nat.zero_le _,Nat.le_refl _,by omega,fun i h=>absurd h (Nat.not_lt_zero i),fun i h h'=>absurd h' (by omega)⟩) ?_)
  ·rintro x _ _ h5 h6 ⟨rfl,p,q,rfl,pq,qk,qx,lo,hi⟩
   dsimp only
   rcases Nat.lt_or_ge p q with c | c
   ·rw [if_neg (by omega)]
    refine wpS_bind (Tf hc hk b' kl (by omega) ?_)
    rcases e:κ.blt (KK κ (arrOf _) k) (KK κ (arrOf _) ((p+q) / 2)) with _ | _
    ·refine wpS_pure ⟨rfl,(p+q) / 2+1,q,rfl,by omega,qk,by omega,fun i h=>?_,hi⟩
     exact ltF (r' i ((p+q) / 2) (by omega) (by omega)) e
    ·refine wpS_pure ⟨rfl,p,(p+q) / 2,rfl,by omega,by omega,by omega,lo,fun i h h'=>?_⟩
     rcases κ.negTrans _ (KK κ (arrOf _) i) _ e with z | z
     ·exact z
     ·rw [r' _ i h h'] at z
      cases z
   ·rw [if_pos c]
    obtain rfl:p=q:=by omega
    exact wpS_pure ⟨rfl,p,rfl,qk,lo,hi⟩
  ·rintro _ _ ⟨rfl,p,q,rfl,pq,qk,qx,lo,hi⟩
   obtain rfl:p=q:=by omega
   exact ⟨rfl,p,rfl,qk,lo,hi⟩
  ·rintro _ _ ⟨rfl,p,rfl,pk,lo,hi⟩
   show wpS (model prog w) A E s (moveDown' k p >>= fun _=>pure (ForInStep.yield (none,()))) _ _
   rw [moveDown'_eq]
   refine wpS_bind (wpS_modify (wpS_pure ⟨rfl,b'.put (bubble_perm _ _ _),?_⟩))
   rw [Nat.min_eq_left h4]
   intro i j hij hj
   show κ.blt (KK κ (bubble (arrOf _) k (k - p)) j) (KK κ (bubble (arrOf _) k (k - p)) i)=false
   have at_:∀i,KK κ (bubble (arrOf _) k (k - p)) i=if i=p then KK κ (arrOf _) k else if p<i∧i≤k then KK κ (arrOf _) (i - 1) else KK κ (arrOf _) i:=fun i=>by
    rw [KK_bubble ks (Nat.sub_le _ _),show k - (k - p)=p by omega]
   rw [at_,at_]
   rcases Nat.lt_trichotomy j p with c | c | c
   ·rw [if_neg (by omega),if_neg (by omega),if_neg (by omega),if_neg (by omega)]
    exact r' i j hij (by omega)
   ·rw [if_pos c]
    rcases Nat.lt_or_ge i p with d | d
    ·rw [if_neg (by omega),if_neg (by omega)]
     exact lo i d
    ·rw [if_pos (by omega)]
     exact κ.irrefl _
   ·rw [if_neg (by omega),if_pos (by omega)]
    rcases Nat.lt_trichotomy i p with d | d | d
    ·rw [if_neg (by omega),if_neg (by omega)]
     exact r' i (j - 1) (by omega) (by omega)
    ·rw [if_pos d]
     exact ltA (hi (j - 1) (by omega) (by omega))
    ·rw [if_neg (by omega),if_pos (by omega)]
     exact r' (i - 1) (j - 1) (by omega) (by omega)
 ·rintro _ u ⟨h,b',r'⟩
  refine ⟨h,b',?_⟩
  rw [show min (max (max ok 1) n) n=n by omega] at r'
  exact r'
 ·rintro _ u ⟨rfl,b',r'⟩
  exact wpS_pure (fin u b' r')
theorem oV {Q:Unit→SortSt→Prop} (hc:dz prog w A s κ kd) (hk:KeysOf κ xs0) (b:Sst kd xs0 st) (h2:2≤xs0.size) (h64:xs0.size<64)
  (fin:∀u,(arrOf u).Perm xs0→failedOf u=none→Rz κ (arrOf u) xs0.size→Q () u):wpS (model prog w) A E s sortRuns' Q st:=by
 have mr:minRun' xs0.size xs0.size 0=xs0.size:=by
  have e:∀f,minRun' (f+1) xs0.size 0=xs0.size:=fun f=>by rw [minRun'_succ,if_pos h64];rfl
  have:=e (xs0.size - 1)
  rwa [show xs0.size - 1+1=xs0.size by omega] at this
 rw [sortRuns'_eq]
 refine wpS_bind (wpS_get ?_)
 simp only [b.sz,mr]
 have done:∀{u:SortSt},Sst kd xs0 u→Rz κ (arrOf u) xs0.size→(arrOf (setPending u ((pendingOf u).push (0,xs0.size,0)))).Perm xs0∧failedOf (setPending u ((pendingOf u).push (0,xs0.size,0)))=none∧pendingOf (setPending u ((pendingOf u).push (0,xs0.size,0)))=#[(0,xs0.size,0)]∧Rz κ (arrOf (setPending u ((pendingOf u).push (0,xs0.size,0)))) xs0.size:=fun {u} b r=>⟨b.pm,b.fl,by show (pendingOf u).push _=_;rw [b.pd];rfl,r⟩
 refine wpS_bind (wpS_mono (wpS_forRange (Q:=fun c u=>c=(none,xs0.size)∧(arrOf u).Perm xs0∧failedOf u=none∧pendingOf u=#[(0,xs0.size,0)]∧Rz κ (arrOf u) xs0.size)
  (fun x c u=>(x=0→c=(none,0)∧Sst kd xs0 u)∧(1≤x→c=(none,xs0.size)∧(arrOf u).Perm xs0∧failedOf u=none∧pendingOf u=#[(0,xs0.size,0)]∧Rz κ (arrOf u) xs0.size)) ?_ ?_ ⟨fun _=>⟨rfl,b⟩,fun h=>absurd h (by decide)⟩) ?_)
 ·rintro x c u _ hx ⟨g0,g1⟩
  cases x with
  | succ x=>
   obtain ⟨rfl,g2⟩:=g1 (by omega)
   dsimp only
   rw [if_pos (Nat.le_refl _)]
   exact wpS_pure ⟨rfl,g2⟩
  | zero=>
   obtain ⟨rfl,b'⟩:=g0 rfl
   dsimp only
   rw [if_neg (by omega)]
   simp only [Nat.min_self,Nat.zero_add,Nat.sub_zero]
   refine wpS_bind (n8 hc hk (Nat.le_refl _) (by omega) b' fun l v bv l1 l2 r=>?_)
   dsimp only
   rcases Nat.lt_or_ge l xs0.size with c | c
   ·rw [if_pos c]
    refine wpS_bind (m:=liftM (rule _)) (wpS_lift (wpAny_rule ⟨rfl,?_⟩))
    refine wpS_bind (lM hc hk (Nat.le_refl _) l2 bv r fun y b3 r3=>?_)
    rw [Bool.not_true,if_neg Bool.false_ne_true]
    refine wpS_bind (wpS_get ?_)
    rw [show (pendingOf y).back?=none by rw [b3.pd];rfl]
    exact wpS_bind (wpS_modify (wpS_pure ⟨fun h=>absurd h (by decide),fun _=>⟨rfl,done b3 r3⟩⟩))
   ·rw [if_neg (by omega)]
    obtain rfl:l=xs0.size:=by omega
    refine wpS_bind (wpS_get ?_)
    rw [show (pendingOf v).back?=none by rw [bv.pd];rfl]
    exact wpS_bind (wpS_modify (wpS_pure ⟨fun h=>absurd h (by decide),fun _=>⟨rfl,done bv r⟩⟩))
 ·rintro c u ⟨_,g1⟩
  exact g1 (by omega)
 ·rintro _ u ⟨rfl,g1,g2,g3,g4⟩
  dsimp only
  refine wpS_bind (wpS_mono (wpS_forRange (Q:=fun c v=>v=u∧c=(none,())) (fun _ c v=>v=u∧c=(none,())) ?_ (fun _ _ h=>h) ⟨rfl,rfl⟩) ?_)
  ·rintro x _ _ _ _ ⟨rfl,rfl⟩
   refine wpS_bind (wpS_get ?_)
   rw [if_pos (by rw [g3];exact Nat.le_refl 1)]
   exact wpS_pure ⟨rfl,rfl⟩
  ·rintro _ _ ⟨rfl,rfl⟩
   exact wpS_pure (fin _ g1 g2 g4)
end
def kN:KeyOrd where
 α:=Int
 blt a b:=decide (a<b)
 irrefl a:=decide_eq_false (Int.lt_irrefl a)
 trans a b c h g:=decide_eq_true (Int.lt_trans (of_decide_eq_true h) (of_decide_eq_true g))
 negTrans a b c h:=by
  have h:=of_decide_eq_true h
  rcases Int.lt_or_le a b with q | q
  ·exact .inl (decide_eq_true q)
  ·exact .inr (decide_eq_true (by omega))
 total a b h g:=by
  have h:=of_decide_eq_false h
  have g:=of_decide_eq_false g
  omega
def d9 (O U:KeyOrd) (a b:O.α×U.α):Bool:=O.blt a.1 b.1 || (!O.blt b.1 a.1 && U.blt a.2 b.2)
theorem Wf {O U:KeyOrd} {a b:O.α×U.α}:d9 O U a b=true↔O.blt a.1 b.1=true∨(a.1=b.1∧U.blt a.2 b.2=true):=by
 unfold d9
 constructor
 ·intro h
  rcases e:O.blt a.1 b.1 with _ | _
  ·rw [e,Bool.false_or,Bool.and_eq_true,Bool.not_eq_true'] at h
   exact .inr ⟨O.total _ _ e h.1,h.2⟩
  ·exact .inl rfl
 ·rintro (h | ⟨e,h⟩)
  ·rw [h,Bool.true_or]
  ·rw [e,O.irrefl,Bool.false_or,h]
   rfl
def eY (O U:KeyOrd):KeyOrd where
 α:=O.α×U.α
 blt:=d9 O U
 irrefl a:=by
  rcases e:d9 O U a a with _ | _
  ·rfl
  ·rcases Wf.mp e with h | ⟨_,h⟩
   ·rw [O.irrefl] at h;exact h.symm
   ·rw [U.irrefl] at h;exact h.symm
 trans a b c h g:=by
  rw [Wf] at *
  rcases h with h | ⟨e,h⟩
  ·rcases g with g | ⟨e',g⟩
   ·exact .inl (O.trans _ _ _ h g)
   ·exact .inl (e' ▸ h)
  ·rcases g with g | ⟨e',g⟩
   ·exact .inl (e ▸ g)
   ·exact .inr ⟨e.trans e',U.trans _ _ _ h g⟩
 negTrans a b c h:=by
  rw [Wf] at *
  rw [Wf]
  rcases h with h | ⟨e,h⟩
  ·rcases O.negTrans _ b.1 _ h with q | q
   ·exact .inl (.inl q)
   ·exact .inr (.inl q)
  ·rcases e1:O.blt a.1 b.1 with _ | _
   ·rcases e2:O.blt b.1 a.1 with _ | _
    ·have ab:=O.total _ _ e1 e2
     rcases U.negTrans _ b.2 _ h with q | q
     ·exact .inl (.inr ⟨ab,q⟩)
     ·exact .inr (.inr ⟨ab.symm.trans e,q⟩)
    ·exact .inr (.inl (e ▸ e2))
   ·exact .inl (.inl rfl)
 total a b h g:=by
  have n1:∀{a b:O.α×U.α},d9 O U a b=false→O.blt a.1 b.1=false:=fun {a b} h=>by
   rcases e:O.blt a.1 b.1 with _ | _
   ·rfl
   ·rw [Wf.mpr (.inl e)] at h;exact h
  have e:=O.total _ _ (n1 h) (n1 g)
  have n2:∀{a b:O.α×U.α},a.1=b.1→d9 O U a b=false→U.blt a.2 b.2=false:=fun {a b} e h=>by
   rcases q:U.blt a.2 b.2 with _ | _
   ·rfl
   ·rw [Wf.mpr (.inr ⟨e,q⟩)] at h;exact h
  exact Prod.ext e (U.total _ _ (n2 e h) (n2 e.symm g))
def eB (O:KeyOrd) (R:Value→O.α→Prop) (d:O.α):KeyKind:={O with keyOf:=fun v=>open Classical in if h:∃a,R v a then some h.choose else none,dflt:=d}
theorem Od {O:KeyOrd} {R:Value→O.α→Prop} {d:O.α} {v:Value} {a:O.α} (h:(eB O R d).keyOf v=some a):R v a:=by
 unfold eB at h
 simp only at h
 split at h
 ·rename_i q
  cases h
  exact q.choose_spec
 ·cases h
theorem jx {O:KeyOrd} {R:Value→O.α→Prop} {d:O.α} {v:Value} {a:O.α} (h:R v a):∃b,(eB O R d).keyOf v=some b:=by
 refine ⟨(⟨a,h⟩:∃a,R v a).choose,?_⟩
 unfold eB
 simp only
 rw [dif_pos ⟨a,h⟩]
def eqO (O:KeyOrd) (a b:O.α):Bool:=!O.blt a b && !O.blt b a
theorem Vz {O:KeyOrd} {a b:O.α}:eqO O a b=true↔a=b:=by
 unfold eqO
 constructor
 ·intro h
  rw [Bool.and_eq_true,Bool.not_eq_true',Bool.not_eq_true'] at h
  exact O.total _ _ h.1 h.2
 ·rintro rfl
  rw [O.irrefl]
  rfl
def dB (h h':Heap):Prop:=∀b o,h.get? b=some o→o.cls=.type "tuple"→h'.get? b=some o
structure El (prog:Program) (w:World) (O:KeyOrd) (R:Heap→Value→O.α→Prop) (T:String):Prop where
 mono:∀{h h':Heap} {v:Value} {a:O.α},dB h h'→R h v a→R h' v a
 fn:∀{h:Heap} {v:Value} {a b:O.α},R h v a→R h v b→a=b
 ty:∀{s:Shared} {v:Value} {a:O.α},R s.heap v a→s.TypeIs v T
 eq:∀{A:Around} {E:Value→Shared→Prop} {s:Shared} {u v:Value} {a b:O.α} {Q:Bool→Shared→Prop},A.units+8<cLine→R s.heap u a→R s.heap v b→Q (eqO O a b) s→wpAny (model prog w) A (eqBool u v) Q E s
 lt:∀{A:Around} {E:Value→Shared→Prop} {s:Shared} {u v:Value} {a b:O.α} {Q:Bool→Shared→Prop} (f:Bool),(f=true→T≠"tuple")→A.units+8<cLine→R s.heap u a→R s.heap v b→Q (O.blt a b) s→wpAny (model prog w) A (oneLt' f u v) Q E s
theorem eqI (a b:Int):(a == b)=eqO kN a b:=by
 rw [Bool.eq_iff_iff,beq_iff_eq]
 exact (Vz (O:=kN)).symm
def IntR (_:Heap) (v:Value) (a:kN.α):Prop:=∃t,v=.int a t
theorem sO {prog:Program} {w:World}:El prog w kN IntR "int" where
 mono _ h:=h
 fn h g:=by
  obtain ⟨t,rfl⟩:=h
  obtain ⟨u,e⟩:=g
  cases e
  rfl
 ty h:=by
  obtain ⟨t,rfl⟩:=h
  exact typeIs_int _ _ _
 eq {A E s u v a b Q} _ h g q:=by
  obtain ⟨t,rfl⟩:=h
  obtain ⟨u,rfl⟩:=g
  refine wpAny_eqBool_int ?_
  exact (eqI a b) ▸ q
 lt {A E s u v a b Q} f _ _ h g q:=by
  obtain ⟨t,rfl⟩:=h
  obtain ⟨u,rfl⟩:=g
  cases f with
  | true=>exact oneLt_int q
  | false=>
   rw [oneLt'_eq]
   rw [if_neg Bool.false_ne_true]
   exact wpAny_bind (wpAny_richCompare_same (op:=.Lt) (typeIs_int _ _ _) (typeIs_int _ _ _) slot_int_lt (call_int_lt ⟨(fun x=>nomatch x),wpAny_truthy_bool q⟩))
def iH:KeyOrd:=strKind.toKeyOrd
theorem pE {a b:Str} (h:a.cps.toList=b.cps.toList):a=b:=by
 obtain ⟨⟨x⟩⟩:=a
 obtain ⟨⟨y⟩⟩:=b
 simp at h
 rw [h]
theorem eqS (a b:Str):decide (a=b)=eqO iH a.cps.toList b.cps.toList:=by
 rw [Bool.eq_iff_iff,decide_eq_true_iff]
 exact ⟨fun h=>(Vz (O:=iH)).mpr (by rw [h]),fun h=>pE ((Vz (O:=iH)).mp h)⟩
def StrR (_:Heap) (v:Value) (a:iH.α):Prop:=∃z t,v=.str z t∧z.cps.toList=a
theorem sM {prog:Program} {w:World}:El prog w iH StrR "str" where
 mono _ h:=h
 fn h g:=by
  obtain ⟨z,t,rfl,rfl⟩:=h
  obtain ⟨y,u,e,rfl⟩:=g
  cases e
  rfl
 ty h:=by
  obtain ⟨z,t,rfl,_⟩:=h
  exact typeIs_str _ _ _
 eq {A E s u v a b Q} _ h g q:=by
  obtain ⟨z,t,rfl,rfl⟩:=h
  obtain ⟨y,u,rfl,rfl⟩:=g
  exact wpAny_eqBool_str ((eqS z y) ▸ q)
 lt {A E s u v a b Q} f _ _ h g q:=by
  obtain ⟨z,t,rfl,rfl⟩:=h
  obtain ⟨y,u,rfl,rfl⟩:=g
  cases f with
  | true=>exact oneLt_str q
  | false=>
   rw [oneLt'_eq]
   rw [if_neg Bool.false_ne_true]
   exact wpAny_bind (wpAny_richCompare_same (op:=.Lt) (typeIs_str _ _ _) (typeIs_str _ _ _) slot_str_lt (call_str_lt ⟨(fun x=>nomatch x),wpAny_truthy_bool q⟩))
def bR {O U:KeyOrd} (R:Heap→Value→O.α→Prop) (S:Heap→Value→U.α→Prop) (h:Heap) (v:Value) (a:O.α×U.α):Prop:=
 ∃c o n x y,v=.ref c∧h.get? c=some o∧o.cls=.type "tuple"∧o.data=.seq #[x,y] n∧R h x a.1∧S h y a.2
section
variable {prog:Program} {w:World} {O U:KeyOrd} {R:Heap→Value→O.α→Prop} {S:Heap→Value→U.α→Prop} {T V:String}
theorem Wx (e:El prog w O R T) (f:El prog w U S V) {h h':Heap} {v:Value} {a:O.α×U.α} (st:dB h h') (p:bR R S h v a):bR R S h' v a:=by
 obtain ⟨c,o,n,x,y,rfl,ho,hc,hd,h1,h2⟩:=p
 exact ⟨c,o,n,x,y,rfl,st _ _ ho hc,hc,hd,e.mono st h1,f.mono st h2⟩
theorem pM (e:El prog w O R T) (f:El prog w U S V) {h:Heap} {v:Value} {a b:O.α×U.α} (p:bR R S h v a) (q:bR R S h v b):a=b:=by
 obtain ⟨c,o,n,x,y,rfl,ho,hc,hd,h1,h2⟩:=p
 obtain ⟨c',o',n',x',y',e1,ho',hc',hd',g1,g2⟩:=q
 cases e1
 rw [ho] at ho'
 cases ho'
 rw [hd] at hd'
 cases hd'
 exact Prod.ext (e.fn h1 g1) (f.fn h2 g2)
theorem j2 (b:Bool) (x y:Value):keyLt' (tuples' b) x y=(do
  let xs ←Builtin.List.listItems x
  let ys ←Builtin.List.listItems y
  for ((p,q),i) in (xs.toList.zip ys.toList).zipIdx do
   if !(←eqBool p q) then return ←oneLt' (b && i == 0) p q
  return decide (xs.size<ys.size)):=rfl
theorem qJ (e:El prog w O R T) (f:El prog w U S V) {A:Around} {E:Value→Shared→Prop} {s:Shared} {x y:Value} {a b:O.α×U.α} {Q:Bool→Shared→Prop} (hu:A.units+8<cLine) (bb:Bool) (hb:bb=true→T≠"tuple")
  (ha:bR R S s.heap x a) (hb':bR R S s.heap y b) (q:Q (d9 O U a b) s):wpAny (model prog w) A (keyLt' (tuples' bb) x y) Q E s:=by
 obtain ⟨c,o,n,x1,x2,rfl,ho,hc,hd,h1,h2⟩:=ha
 obtain ⟨c',o',n',y1,y2,rfl,ho',hc',hd',g1,g2⟩:=hb'
 rw [j2]
 refine wpAny_bind (listItems_at ho hd ?_)
 refine wpAny_bind (listItems_at ho' hd' ?_)
 show wpAny _ _ (forIn [((x1,y1),0),((x2,y2),1)] _ _ >>= _) _ _ s
 rw [List.forIn_cons]
 refine wpAny_bind (wpAny_bind (wpAny_bind (e.eq hu h1 g1 ?_)))
 rcases e1:eqO O a.1 b.1 with _ | _
 ·rw [Bool.not_false,if_pos rfl]
  have ne:a.1≠b.1:=fun z=>by rw [Vz.mpr z] at e1;cases e1
  have q:Q (O.blt a.1 b.1) s:=by
   have z:d9 O U a b=O.blt a.1 b.1:=by
    rw [Bool.eq_iff_iff,Wf]
    exact ⟨fun h=>h.elim id fun h=>absurd h.1 ne,.inl⟩
   rw [z] at q
   exact q
  exact wpAny_bind (e.lt _ (fun z=>hb (by rw [Bool.and_eq_true] at z;exact z.1)) hu h1 g1 (wpAny_pure (wpAny_pure (wpAny_pure q))))
 ·rw [Bool.not_true,if_neg Bool.false_ne_true]
  have ea:=Vz.mp e1
  refine wpAny_pure ?_
  show wpAny _ _ (forIn [((x2,y2),1)] _ _) _ _ s
  rw [List.forIn_cons]
  refine wpAny_bind (wpAny_bind (f.eq hu h2 g2 ?_))
  rcases e2:eqO U a.2 b.2 with _ | _
  ·rw [Bool.not_false,if_pos rfl]
   have q:Q (U.blt a.2 b.2) s:=by
    have z:d9 O U a b=U.blt a.2 b.2:=by
     rw [Bool.eq_iff_iff,Wf]
     constructor
     ·rintro (h | h)
      ·rw [ea,O.irrefl] at h;cases h
      ·exact h.2
     ·exact fun h=>.inr ⟨ea,h⟩
    rw [z] at q
    exact q
   exact wpAny_bind (f.lt _ (fun z=>by rw [Bool.and_eq_true] at z;exact absurd z.2 (by decide)) hu h2 g2 (wpAny_pure (wpAny_pure (wpAny_pure q))))
  ·rw [Bool.not_true,if_neg Bool.false_ne_true]
   have eb:=Vz.mp e2
   have q:Q false s:=by
    have z:d9 O U a b=false:=by
     rcases y:d9 O U a b with _ | _
     ·rfl
     ·rcases Wf.mp y with h | h
      ·rw [ea,O.irrefl] at h;exact h.symm
      ·rw [eb,U.irrefl] at h;exact h.2.symm
    rw [z] at q
    exact q
   refine wpAny_pure ?_
   show wpAny _ _ (forIn [] _ _) _ _ s
   rw [List.forIn_nil]
   exact wpAny_pure (wpAny_pure q)
theorem nR (e:El prog w O R T) (f:El prog w U S V) {A:Around} {s:Shared} (hu:A.units+8<cLine) (d:O.α×U.α) (bb:Bool) (hb:bb=true→T≠"tuple"):dz prog w A s (eB (eY O U) (bR R S s.heap) d) (tuples' bb):=
 fun E x y a b Q ha hb' q=>qJ e f hu bb hb (Od ha) (Od hb') q
end
section
variable {prog:Program} {w:World} {A:Around} {E:Value→Shared→Prop} {s:Shared}
theorem O1 {M:Model} {β:Type} {f:Value→Sem β} (F:β→Prop):∀(vs:List Value),(∀v∈vs,∃y,F y∧∀Q:β→Shared→Prop,Q y s→wpAny M A (f v) Q E s)→∃ys:List β,ys.length=vs.length∧(∀y∈ys,F y)∧∀Q:List β→Shared→Prop,Q ys s→wpAny M A (vs.mapM f) Q E s
 | [],_=>⟨[],rfl,(fun _ h=>nomatch h),fun Q q=>by rw [List.mapM_nil];exact wpAny_pure q⟩
 | v::vs,h=>by
  obtain ⟨y,fy,hy⟩:=h v (.head _)
  obtain ⟨ys,l,fys,hys⟩:=O1 F vs fun x hx=>h x (.tail _ hx)
  refine ⟨y::ys,by rw [List.length_cons,List.length_cons,l],fun z hz=>?_,fun Q q=>?_⟩
  ·rcases List.mem_cons.mp hz with e | e
   ·rw [e];exact fy
   ·exact fys z e
  ·rw [List.mapM_cons]
   exact wpAny_bind (hy _ (wpAny_bind (hys _ (wpAny_pure q))))
theorem nY (v:Value):firstOfTuple' v=(do
  if (←typeOf v) != .type "tuple" then return none
  return (←Builtin.List.listItems v)[0]?):=rfl
variable {O U:KeyOrd} {R:Heap→Value→O.α→Prop} {S:Heap→Value→U.α→Prop} {T V:String}
theorem kJ (e:El prog w O R T) {vs:List Value} (h:∀v∈vs,∃a,bR R S s.heap v a) (hn:vs≠[]) {Q:SortKind→Shared→Prop} (q:Q (tuples' (decide (T≠"tuple"))) s):wpAny (model prog w) A (keyKind' vs.toArray) Q E s:=by
 rw [keyKind'_eq,List.mapM_toArray]
 obtain ⟨ys,yl,yf,hy⟩:=O1 (M:=model prog w) (A:=A) (E:=E) (s:=s) (f:=firstOfTuple') (fun y=>∃x,y=some x∧s.TypeIs x T) vs fun v hv=>by
  obtain ⟨a,c,o,n,x,y,rfl,ho,hc,hd,h1,h2⟩:=h v hv
  refine ⟨some x,⟨x,rfl,e.ty h1⟩,fun Q q=>?_⟩
  rw [nY]
  refine wpAny_bind (wpAny_typeOf (T:="tuple") ⟨o,ho,hc⟩ ?_)
  rw [if_neg (by decide)]
  exact wpAny_bind (listItems_at ho hd (wpAny_pure q))
 refine wpAny_bind (wpAny_map ?_)
 refine hy _ ?_
 have al:ys.toArray.all (·.isSome)=true:=by
  rw [List.all_toArray,List.all_eq_true]
  intro y hy
  obtain ⟨x,rfl,_⟩:=yf y hy
  rfl
 rw [if_pos al]
 refine wpAny_bind (wpAny_rule ?_)
 rw [oneTypeOnly'_eq,List.filterMap_toArray,List.mapM_toArray]
 have ht:∀x∈ys.filterMap id,s.TypeIs x T:=fun x hx=>by
  obtain ⟨y,hy,ey⟩:=List.mem_filterMap.mp hx
  obtain ⟨x',rfl,t⟩:=yf y hy
  cases (show x'=x from Option.some.inj ey)
  exact t
 obtain ⟨ts,tl,tf,htt⟩:=O1 (M:=model prog w) (A:=A) (E:=E) (s:=s) (f:=typeOf) (fun y=>y=.type T) (ys.filterMap id) fun v hv=>⟨_,rfl,fun Q q=>wpAny_typeOf (ht v hv) q⟩
 refine wpAny_bind (wpAny_bind (wpAny_map ?_))
 refine htt _ ?_
 have fl:(ys.filterMap id).length=ys.length:=by
  clear hy al ht htt tl tf yl
  induction ys with
  | nil=>rfl
  | cons y ys ih=>
   obtain ⟨x,rfl,_⟩:=yf y (.head _)
   rw [show List.filterMap id (some x::ys)=x::ys.filterMap id from rfl,List.length_cons,List.length_cons,ih fun z hz=>yf z (.tail _ hz)]
 cases ts with
 | nil=>
  rw [List.length_nil,fl,yl] at tl
  exact absurd (List.eq_nil_of_length_eq_zero tl.symm) hn
 | cons t ts=>
  have t0:t=.type T:=tf t (.head _)
  subst t0
  show wpAny _ _ (pure (if ((Value.type T::ts).toArray.all (· == Value.type T))=true then some (Value.type T) else none)) _ _ s
  rw [if_pos (by
   rw [List.all_toArray,List.all_eq_true]
   intro y hy
   rw [tf y hy]
   exact beq_self_eq_true _)]
  refine wpAny_pure (wpAny_pure ?_)
  have z:(some (Value.type T)).any (· != Value.type "tuple")=decide (T≠"tuple"):=by
   show (Value.type T != Value.type "tuple")=_
   rw [Bool.eq_iff_iff,bne_iff_ne,decide_eq_true_iff]
   exact ⟨fun h e=>h (by rw [e]),fun h e=>h (by injection e)⟩
  rw [z]
  exact q
def rh {O:KeyOrd} (R:Value→O.α→Prop) (vs:List Value):Prop:=vs.Pairwise fun x y=>∀a b,R x a→R y b→O.blt b a=false
theorem Ox {vs:List Value} {p:Value×Value} (h:p∈vs.zip vs):p.1=p.2∧p.1∈vs:=mem_zip_self h
theorem hJ {O:KeyOrd} {R:Value→O.α→Prop} (fn:∀{v a b},R v a→R v b→a=b) {d:O.α} {vs:List Value} (hk:∀v∈vs,∃a,R v a) {xs:Array Keyed} (pm:xs.Perm (pairsOf vs)) (r:Rz (eB O R d) xs (pairsOf vs).size):
  (xs.map (·.2)).toList.Perm vs∧rh R (xs.map (·.2)).toList:=by
 have pl:xs.toList.Perm (vs.zip vs):=by rw [←pairsOf_toList];exact Array.perm_iff_toList_perm.mp pm
 have both:∀p∈xs.toList,p.1=p.2∧p.1∈vs:=fun p hp=>Ox (pl.mem_iff.mp hp)
 rw [Array.toList_map]
 constructor
 ·have q:=pl.map Prod.snd
  rw [List.map_snd_zip (Nat.le_refl _)] at q
  exact q
 ·unfold rh
  rw [List.pairwise_iff_getElem]
  intro i j hi hj hij a b ha hb
  rw [List.length_map] at hi hj
  have hi':i<xs.size:=by rw [←Array.length_toList];exact hi
  have hj':j<xs.size:=by rw [←Array.length_toList];exact hj
  have key:∀{k:Nat} (hk':k<xs.size) {c:O.α},R xs[k].2 c→KK (eB O R d) xs k=c:=by
   intro k hk' c hc
   have e:=(both xs[k] (Array.mem_toList_iff.mpr (Array.getElem_mem hk'))).1
   rw [←e] at hc
   obtain ⟨c',h'⟩:=jx (d:=d) hc
   have:c'=c:=fn (Od h') hc
   unfold KK
   rw [Array.getElem?_eq_getElem hk']
   show ((eB O R d).keyOf xs[k].1).getD _=c
   rw [h',this]
   rfl
  rw [List.getElem_map,Array.getElem_toList] at ha hb
  have q:=r i j (Nat.le_of_lt hij) (by rw [←pm.size_eq];exact hj')
  rw [key hi' ha,key hj' hb] at q
  exact q
theorem gm {h:Heap} {l b:Addr} {g:Obj→Obj} {o1 o2:Obj} (lt:b<h.objs.size):(((h.update l g).push o1).push o2).get? b=(h.update l g).get? b:=by
 have l1:b<(h.update l g).objs.size:=by rw [Heap.size_update];exact lt
 rw [Heap.get?_push_ne _ _ _ (Nat.ne_of_lt (by rw [size_push'];exact Nat.lt_succ_of_lt l1)),Heap.get?_push_ne _ _ _ (Nat.ne_of_lt l1)]
theorem kz {h:Heap} {l:Addr} {vs:List Value} {n:Nat} (ho:h.get? l=some (seqObj "list" vs.toArray n)) (o1 o2:Obj):dB h (((h.update l (Obj.mapSeq fun _=>#[])).push o1).push o2):=by
 intro b o hb hc
 have ne:b≠l:=fun z=>by
  rw [z,ho] at hb
  cases hb
  exact absurd hc (by show ¬Value.type "list"=Value.type "tuple";intro z;injection z with z;exact absurd z (by decide))
 have lt:=Heap.lt_size hb
 rw [gm lt,Heap.get?_update_ne _ _ _ _ ne]
 exact hb
theorem hX (e:El prog w O R T) (f:El prog w U S V) {l:Addr} {vs:List Value} {n:Nat} {P:Fin→Shared→Prop} (ho:s.heap.get? l=some (seqObj "list" vs.toArray n)) (hk:∀v∈vs,∃a,bR R S s.heap v a) (h64:vs.length<64) (hu:A.units+8<cLine) (d:O.α×U.α)
  (fin:∀out:Array Value,out.toList.Perm vs→rh (O:=eY O U) (bR R S s.heap) out.toList→P (.done (.ret .none)) {s with heap:=sortedHeap s.heap l vs out}):wpAny (model prog w) A (Builtin.«list.sort» ⟨[.ref l],[]⟩) P E s:=by
 rw [list_sort_plain]
 refine wpAny_bind (listItems_at ho rfl ?_)
 refine wpAny_bind (listUpdate_at ho rfl ?_)
 obtain ⟨e1,ho1⟩:∃m,(s.heap.update l (Obj.mapSeq fun _=>#[])).get? l=some (seqObj "list" #[] m):=⟨_,get?_update_seq ho fun _=>#[]⟩
 refine wpAny_bind (seqEpoch_at ho1 rfl ?_)
 refine wpAny_bind (wpAny_newTuple ?_)
 refine wpAny_bind (wpAny_newList ?_)
 refine wpAny_holding ?_
 have ll:=Heap.lt_size ho
 have ho2:(((s.heap.update l (Obj.mapSeq fun _=>#[])).push (seqObj "tuple" vs.toArray 0)).push (seqObj "list" #[] 0)).get? l=some (seqObj "list" #[] e1):=by
  rw [gm ll]
  exact ho1
 have st:=kz ho (seqObj "tuple" vs.toArray 0) (seqObj "list" #[] 0)
 have hk':∀v∈vs,∃a,bR R S (((s.heap.update l (Obj.mapSeq fun _=>#[])).push (seqObj "tuple" vs.toArray 0)).push (seqObj "list" #[] 0)) v a:=fun v hv=>let ⟨a,h⟩:=hk v hv;⟨a,Wx e f st h⟩
 have back:∀{v a},v∈vs→bR R S s.heap v a→bR R S (((s.heap.update l (Obj.mapSeq fun _=>#[])).push (seqObj "tuple" vs.toArray 0)).push (seqObj "list" #[] 0)) v a:=fun _ h=>Wx e f st h
 show wpAny (model prog w) A _ P E {s with heap:=((s.heap.update l (Obj.mapSeq fun _=>#[])).push (seqObj "tuple" vs.toArray 0)).push (seqObj "list" #[] 0)}
 dsimp only
 have vsz:vs.toArray.size=vs.length:=List.size_toArray
 have finish:∀u:SortSt,(arrOf u).Perm (pairsOf vs)→failedOf u=none→Rz (eB (eY O U) (bR R S (((s.heap.update l (Obj.mapSeq fun _=>#[])).push (seqObj "tuple" vs.toArray 0)).push (seqObj "list" #[] 0))) d) (arrOf u) (pairsOf vs).size→
   P (.done (.ret .none)) {s with heap:=sortedHeap s.heap l vs ((arrOf u).map (·.2))}:=fun u pm _ r=>by
  obtain ⟨p1,p2⟩:=hJ (O:=eY O U) (R:=bR R S (((s.heap.update l (Obj.mapSeq fun _=>#[])).push (seqObj "tuple" vs.toArray 0)).push (seqObj "list" #[] 0))) (fun h g=>pM e f h g) hk' pm r
  exact fin _ p1 (p2.imp_of_mem fun {x y} hx hy h a b ha hb=>h a b (back (p1.mem_iff.mp hx) ha) (back (p1.mem_iff.mp hy) hb))
 by_cases c:vs.toArray.size<2
 ·rw [if_pos c,if_pos c]
  refine wpAny_bind (wpAny_pure ?_)
  rw [StateT.run_pure]
  refine wpAny_bind (wpAny_pure ?_)
  dsimp only
  refine wpAny_bind (seqEpoch_at ho2 rfl ?_)
  refine wpAny_bind (listUpdate_at ho2 rfl ?_ (hsz2:=by rw [Array.size_map];show (pairsOf vs).size≤_;rw [pairsOf_size];exact Nat.le_trans (Nat.le_of_lt h64) (by decide)))
  rw [show (e1 != e1)=false from bne_self_eq_false e1]
  rw [if_neg Bool.false_ne_true]
  refine wpAny_pure (finish (SortSt.mk' general' (vs.toArray.zip vs.toArray) #[] 7 none) (Array.Perm.refl _) rfl fun i j hij hj=>?_)
  obtain rfl:i=j:=by rw [pairsOf_size] at hj;omega
  exact (eB (eY O U) _ d).irrefl _
 ·rw [if_neg c,if_neg c]
  have vn:vs≠[]:=fun z=>by rw [z] at c;exact c (by decide)
  refine wpAny_bind (kJ (O:=O) (U:=U) e hk' vn ?_)
  have hc:=nR (A:=A) (s:={s with heap:=((s.heap.update l (Obj.mapSeq fun _=>#[])).push (seqObj "tuple" vs.toArray 0)).push (seqObj "list" #[] 0)}) e f hu d (decide (T≠"tuple")) (fun z=>of_decide_eq_true z)
  refine wpAny_bind (wpAny_mono (oV (E:=E) (xs0:=pairsOf vs) (st:=SortSt.mk' (tuples' (decide (T≠"tuple"))) (vs.toArray.zip vs.toArray) #[] 7 none) (Q:=fun _ u=>(arrOf u).Perm (pairsOf vs)∧failedOf u=none∧Rz _ (arrOf u) (pairsOf vs).size) hc
   (fun p hp=>?_) ⟨Array.Perm.refl _,rfl,rfl,rfl⟩ (by rw [pairsOf_size];omega) (by rw [pairsOf_size];exact h64) fun u a1 a2 a3=>⟨a1,a2,a3⟩) ?_ fun _ _ z=>z)
  ·rw [pairsOf_toList] at hp
   obtain ⟨a,ha⟩:=hk' p.1 (Ox hp).2
   exact jx ha
  rintro ⟨⟨⟩,u⟩ s2 ⟨rfl,pm,fl,r⟩
  dsimp only
  refine wpAny_bind (seqEpoch_at ho2 rfl ?_)
  refine wpAny_bind (listUpdate_at ho2 rfl ?_ (hsz2:=by rw [Array.size_map];exact Nat.le_trans (Nat.le_of_eq (pm.size_eq.trans (pairsOf_size _))) (Nat.le_trans (Nat.le_of_lt h64) (by decide))))
  rw [fl]
  rw [show (e1 != e1)=false from bne_self_eq_false e1]
  rw [if_neg Bool.false_ne_true]
  exact wpAny_pure (finish u pm fl r)
end
section
variable {prog:Program} {w:World} {A:Around} {E:Value→Shared→Prop} {s:Shared}
theorem gC {Q:List Value→Shared→Prop} (it:Addr) {T:String} {o:Obj} {items:Array Value} {n:Nat} (hT:T="list"∨T="tuple") (ho:s.heap.get? it=some o) (hc:o.cls=.type T) (hd:o.data=.seq items n) (hz:items.size≤sizeLine)
  (q:∀g:Heap,(∀b u,s.heap.get? b=some u→g.get? b=some u)→s.heap.objs.size<g.objs.size→Q items.toList {s with heap:=g}):wpAny (model prog w) A (collect (.ref it)) Q E s:=by
 let g:Heap:=(s.heap.push (seqObj "list" #[] 0)).update s.heap.objs.size (Obj.mapSeq (·++items))
 have at1:(s.heap.push (seqObj "list" #[] 0)).get? s.heap.objs.size=some (seqObj "list" #[] 0):=Heap.get?_push_size _ rfl
 have kp:∀b u,s.heap.get? b=some u→g.get? b=some u:=fun b u h=>(Heap.get?_update_other _ _ (Nat.ne_of_gt (Heap.lt_size h))).trans (Heap.get?_push_of_some _ h)
 have gs:s.heap.objs.size<g.objs.size:=by
  show s.heap.objs.size<((s.heap.push (seqObj "list" #[] 0)).update s.heap.objs.size (Obj.mapSeq (·++items))).objs.size
  rw [Heap.size_update,size_push']
  exact Nat.lt_succ_self _
 have last:wpAny (model prog w) A (load s.heap.objs.size >>= fun u=>match u.data with
   | .seq xs _=>pure xs.toList
   | _=>unsupported "internal:collect") Q E {s with heap:=g}:=by
  refine wpAny_bind (wpAny_load (get?_update_seq at1 _) ?_)
  show wpAny _ _ (pure ((#[]:Array Value)++items).toList) Q E _
  rw [show ((#[]:Array Value)++items).toList=items.toList by simp]
  exact wpAny_pure (q g kp gs)
 unfold collect
 refine wpAny_bind (wpAny_runValue (codeAny_builtin entry_proto_collect' ?_))
 show wpAny _ _ (newList [] >>= fun l=>again (.builtin "list.__iadd__" ⟨[l,.ref it],[]⟩)) _ _ s
 refine wpAny_bind (wpAny_newList (wpAny_pure ⟨Code.quiet_builtin _ (by decide +kernel),codeAny_builtin entry_list_iadd' ?_⟩))
 refine wpAny_mono (wpAny_extend_seq (hsz:=hz) (R:=fun r s'=>r=.ok (.ret (.ref s.heap.objs.size))∧s'={s with heap:=g}) (s:={s with heap:=s.heap.push (seqObj "list" #[] 0)}) _ it _ 0 hT at1 (Heap.get?_push_of_some _ ho) hc hd ⟨rfl,rfl⟩) (fun fin s' h=>?_) (fun x s' h=>?_)
 ·cases fin with
  | done y=>
   obtain ⟨z,rfl⟩:=h
   cases z
   exact last
  | again c=>exact ⟨h.1,codeAny_mono h.2 fun r s2 hr=>by obtain ⟨rfl,rfl⟩:=hr;exact last⟩
 ·exact absurd h.1 (by simp)
end
section
variable {X:Cx}
theorem Qd (hc:X.calm=true):CallR X (.type "set") (fun xs H Q=>∃(p:Addr) (zs:List Str),xs=[.ref p]∧SqT X.K H p (zs.map V.str)∧zs.length<4000∧∀a,H a=none→Q (.ref a) (upd H a (cI X.prog X.w a ((dn zs).map Sum.inr)))):=by
 intro pins s σ H xs us Q I r h
 obtain ⟨p,zs,rfl,hq,hz,q⟩:=h
 refine ip hc pins s σ H _ us Q I r ⟨p,zs.map Sum.inr,rfl,?_,by rw [List.length_map];exact hz,fun a na=>?_⟩
 ·rw [List.map_map];exact hq
 ·rw [Te];exact q a na
theorem kE {as:List Addr} {out:List Value} (h:out.Perm (as.map Value.ref)):∃bs:List Addr,bs.Perm as∧out=bs.map Value.ref:=by
 let g:Value→Addr:=fun v=>match v with | .ref a=>a | _=>0
 refine ⟨out.map g,?_,?_⟩
 ·have q:=h.map g
  rw [List.map_map] at q
  rw [show (g∘Value.ref)=id from rfl,List.map_id] at q
  exact q
 ·rw [List.map_map]
  have e:∀l:List Value,(∀v∈l,∃a,v=.ref a)→l=l.map (Value.ref∘g):=fun l hl=>by
   induction l with
   | nil=>rfl
   | cons v l ih=>
    obtain ⟨a,rfl⟩:=hl v (.head _)
    rw [List.map_cons,←ih fun x hx=>hl x (.tail _ hx)]
    rfl
  exact e out fun v hv=>by
   obtain ⟨a,_,rfl⟩:=List.mem_map.mp (h.mem_iff.mp hv)
   exact ⟨a,rfl⟩
theorem Tp:∀{as:List Addr} {us:List Value},Vals (as.map V.ref) us→us=as.map Value.ref
 | [],_,h=>by cases h;rfl
 | a::as,_,h=>by
  rw [List.map_cons] at h
  cases h with
  | cons r t=>rw [Tp t,show _=Value.ref a from r];rfl
def mw {O:KeyOrd} (F:Hp→Addr→O.α→Prop):List V→Hp→VK→Prop:=fun xs H Q=>∃(p:Addr) (as:List Addr),xs=[.ref p]∧(H p=some (.lst (as.map V.ref))∨H p=some (.tup (as.map V.ref)))∧as.length<64∧(∀a∈as,∃k,F H a k)∧
 ∀bs:List Addr,bs.Perm as→(bs.Pairwise fun a b=>∀k l,F H a k→F H b l→O.blt l k=false)→∀q,H q=none→Q (.ref q) (upd H q (.lst (bs.map V.ref)))
theorem call_sortG {O U:KeyOrd} {R:Heap→Value→O.α→Prop} {S:Heap→Value→U.α→Prop} {T W:String} (e:El X.prog X.w O R T) (f:El X.prog X.w U S W) (F:Hp→Addr→(eY O U).α→Prop)
  (br:∀{pins:List (Addr×Obj)} {σ:St} {H:Hp} {s:Shared} {a:Addr} {k:O.α×U.α},Inv X pins σ H s→F H a k→bR R S s.heap (.ref a) k) (d:O.α×U.α) (hu:X.A.units+64<cLine):CallR X (.builtin "sorted") (mw (O:=eY O U) F):=by
 intro pins s σ H xs us Q I rx h
 obtain ⟨p,as,rfl,hp,h64,hk,q⟩:=h
 obtain ⟨u,rfl,ru⟩:=Xo rx
 cases ru
 obtain ⟨o,n,T',ho,hT,hc,hd⟩:∃o n T',s.heap.get? p=some o∧(T'="list"∨T'="tuple")∧o.cls=.type T'∧o.data=.seq (as.map Value.ref).toArray n:=by
  rcases hp with hp | hp
  ·obtain ⟨_,its,n,r,e1⟩:=(show ObjOk X.prog X.w H s.heap p (.lst (as.map V.ref)) from I.hok p _ hp)
   rw [Tp r] at e1
   exact ⟨_,n,"list",e1,.inl rfl,rfl,rfl⟩
  ·obtain ⟨_,its,r,o,e1,e2,n,e3⟩:=(show ObjOk X.prog X.w H s.heap p (.tup (as.map V.ref)) from I.hok p _ hp)
   rw [Tp r] at e3
   exact ⟨o,n,"tuple",e1,.inr rfl,e2.1,e3⟩
 refine Calls.call_function_entry kind_sorted plain_sorted entry_sorted (args_sorted1 _) ?_
 unfold Builtin.«sorted»
 refine wpAny_bind (m:=checkCount "sorted" 1 1 _) (wpAny_pure ?_)
 refine wpAny_bind (gC p hT ho hc hd (by rw [List.size_toArray,List.length_map];exact Zb (by omega)) fun g kp gl0=>?_)
 have tl:(as.map Value.ref).toArray.toList=as.map Value.ref:=List.toList_toArray
 rw [tl]
 refine wpAny_bind (wpAny_newList ?_ (by rw [List.length_map];exact Zb (by omega)))
 have gl:s.heap.objs.size≤g.objs.size:=Nat.le_of_lt gl0
 have hoL:(g.push (seqObj "list" (as.map Value.ref).toArray 0)).get? g.objs.size=some (seqObj "list" (as.map Value.ref).toArray 0):=Heap.get?_push_size _ rfl
 have kp2:∀b ob,s.heap.get? b=some ob→(g.push (seqObj "list" (as.map Value.ref).toArray 0)).get? b=some ob:=fun b ob e=>Heap.get?_push_of_some _ (kp b ob e)
 have st:dB s.heap (g.push (seqObj "list" (as.map Value.ref).toArray 0)):=fun b ob e _=>kp2 b ob e
 refine wpAny_bind (wpAny_holding (wpAny_call_entry slot_list_sort ⟨_,hoL,rfl⟩ entry_list_sort (hX e f hoL (fun v hv=>?_) (by rw [List.length_map];exact h64) (by show X.A.units+1+1+8<_;omega) d fun out op os=>⟨_,rfl,?_⟩) (args_list_sort _)))
 ·obtain ⟨a,ha,rfl⟩:=List.mem_map.mp hv
  obtain ⟨k,fk⟩:=hk a ha
  exact ⟨k,Wx e f st (br I fk)⟩
 refine wpAny_pure ⟨_,rfl,?_⟩
 obtain ⟨bs,bp,be⟩:=kE op
 obtain ⟨e2,he2⟩:=sortedHeap_at (vs:=as.map Value.ref) (out:=out) hoL
 refine ⟨.ref g.objs.size,_,I.laid (t':=s.toks) (o:=.lst (bs.map V.ref)) (fun b ob e=>?_) gl ?_,rfl,q bs bp ?_ _ (I.hok.fresh gl)⟩
 ·have e':=kp b ob e
  have hlt:=Heap.lt_size e'
  rw [sortedHeap_old (Nat.ne_of_lt hlt) (by rw [size_push'];exact Nat.lt_succ_of_lt hlt)]
  exact Heap.get?_push_of_some _ e'
 ·refine ⟨by rw [List.length_map,bp.length_eq];exact Zb (by omega),bs.map Value.ref,e2,Qz bs,?_⟩
  rw [←be,Array.toArray_toList]
  exact he2
 ·rw [be] at os
  refine (List.pairwise_map.mp os).imp_of_mem fun {a b} ha hb h k l fk fl=>h k l (Wx e f st (br I fk)) (Wx e f st (br I fl))
theorem rS {pins:List (Addr×Obj)} {σ:St} {H:Hp} {s:Shared} {a:Addr} {x y:V} (I:Inv X pins σ H s) (h:H a=some (.tup [x,y])):∃o n u v,s.heap.get? a=some o∧o.cls=.type "tuple"∧o.data=.seq #[u,v] n∧RelV x u∧RelV y v:=by
 obtain ⟨_,its,r,o,e1,e2,n,e3⟩:=(show ObjOk X.prog X.w H s.heap a (.tup [x,y]) from I.hok a _ h)
 obtain ⟨u,v,rfl,ru,rv⟩:=Oz r
 exact ⟨o,n,u,v,e1,e2.1,e3,ru,rv⟩
def FSI (H:Hp) (a:Addr) (k:(eY iH kN).α):Prop:=∃(z:Str) (n:Int),H a=some (.tup [.str z,.int n])∧k=(z.cps.toList,n)
theorem Ti (hu:X.A.units+64<cLine):CallR X (.builtin "sorted") (mw (O:=eY iH kN) FSI):=
 call_sortG (sM (prog:=X.prog) (w:=X.w)) (sO (prog:=X.prog) (w:=X.w)) FSI (fun {pins σ H s a k} I h=>by
  obtain ⟨z,n,h,rfl⟩:=h
  obtain ⟨o,m,u,v,e1,e2,e3,⟨t,ru⟩,⟨t',rv⟩⟩:=rS I h
  exact ⟨a,o,m,u,v,rfl,e1,e2,e3,⟨z,t,ru,rfl⟩,⟨t',rv⟩⟩) ([],(0:Int)) hu
theorem kt (hc:X.calm=true):CallR X (.builtin "max") (fun xs H Q=>∃i j k:Int,xs=[.int i,.int j,.int k]∧∀n:Int,Q (.int n) H):=by
 intro pins s σ H xs us Q I r h
 obtain ⟨i,j,k,rfl,q⟩:=h
 cases r with
 | cons r1 r=>
  obtain ⟨v,y,rfl,⟨t',rfl⟩,⟨t2,rfl⟩⟩:=Oz r
  obtain ⟨t,rfl⟩:=r1
  refine max_three_ints (I.ok.hd hc) fun h' tk kp=>?_
  obtain ⟨n,tt,e⟩:∃n tt,(if j > i then (if k > j then Value.int k t2 else .int j t') else (if k > i then .int k t2 else .int i t))=Value.int n tt:=by
   split <;> split <;> exact ⟨_,_,rfl⟩
  rw [e]
  exact ⟨.int n,H,I.kept kp,⟨_,rfl⟩,q n⟩
theorem lm:OpR X (compareOp .NotIn) (fun x y H Q=>∃(z:Str) (a:Addr) (kvs:List (Key×V)),x=.str z∧y=.ref a∧H a=some (.dK kvs)∧∀b:Bool,Q (.bl b) H):=by
 intro pins s σ H x y v u Q I rx ry h
 obtain ⟨z,a,kvs,rfl,rfl,e,q⟩:=h
 cases ry
 obtain ⟨_,hd,vs,rel,dd⟩:=Sm I.hok e
 exact wpAny_notIn_of (Pd (k:=.inr z) rx) hd dd.mapOf ⟨.bl _,H,I.tok _,rfl,q _⟩
end
end L2
namespace K18
open PySem L2
def Mk (z:Str):Prop:=mkS z=true∧PyData.strOk z=true
theorem R5:∀z∈words,Mk z:=fun z h=>⟨oA z h,Oy z h⟩
theorem Q5:∀(zs ys:List Str),PyData.eqv (.list (zs.map PyData.str)) (.list (ys.map PyData.str))=decide (zs=ys)
 | [],[]=>by simp [PyData.eqv,PyData.eqvAll]
 | [],_::_=>by simp [PyData.eqv,PyData.eqvAll]
 | _::_,[]=>by simp [PyData.eqv,PyData.eqvAll]
 | z::zs,y::ys=>by
  have ih:=Q5 zs ys
  rw [PyData.eqv] at ih
  rw [List.map_cons,List.map_cons,PyData.eqv,PyData.eqvAll,ih,PyData.eqv]
  by_cases h:z=y
  ·subst h;simp
  ·simp [h]
theorem Vm {zs:List Str} (h:∀z∈zs,PyData.strOk z=true):(PyData.list (zs.map PyData.str)).canLay0=true∧(PyData.list (zs.map PyData.str)).depth≤1:=Vn (n:=0) zs fun z hz=>by
 simp [PyData.canLay0,PyData.depth,h z hz]
theorem Vo {H:Hp}:∀zs:List Str,DVs H (zs.map V.str) (zs.map PyData.str)
 | []=>.nil
 | z::zs=>.cons (.str z) (Vo zs)
theorem Su (zs:List Str):zs=bi (dn zs)↔dL zs=true:=by
 constructor
 ·intro h
  have pw:=List.Pairwise.and (Uu (dn zs)) ((Zv (dn zs)).nodup_iff.mpr (jP zs))
  rw [←h] at pw
  exact Oe (pw.imp fun {x y} ⟨h1,h2⟩=>by
   by_cases c:x.cps.toList<y.cps.toList
   ·exact c
   ·have h3:leS y x=true:=by unfold leS;rw [decide_eq_false c];rfl
    exact absurd (Tb h1 h3) h2)
 ·intro h
  have pw:=Sv h
  have nd:zs.Nodup:=pw.imp fun h e=>by rw [e] at h;exact List.lt_irrefl _ h
  refine Rj (((List.perm_ext_iff_of_nodup nd (jP zs)).mpr fun z=>R8.symm).trans (Zv _).symm) (pw.imp fun {x y} h=>?_) (Uu _)
  unfold leS
  rw [decide_eq_false (fun q=>List.lt_irrefl _ (List.lt_trans h q))]
  rfl
def acB (room:Int) (cs:Ps):Bool:=decide ((cs.length:Int)≤room) && (dL (cs.map (·.1)) && cs.all fun p=>decide (1≤p.2))
def uE:Sp:=fun vs H Q _=>∃(c:Addr) (rows:List V) (room:Int) (cs:Ps),vs=[.int room,.ref c]∧H c=some (.tup rows)∧PairsAt H rows (aE cs)∧(∀p∈cs,Mk p.1)∧cs.length<60∧∀H',Same H H'→Q (.bl (acB room cs)) H'
section
variable {P:Program} {w:World} {K:W.Frag} {mg:Str→Option Value} {base:Heap} {f:Addr} {fd:FuncData}
theorem uA (aD:mg "len"=none) (dE:mg "set"=none) (aL:mg "sorted"=none) (F:Fun K "_law_are_counts" "_law_are_counts" aU f fd):FnOk P w K mg base CX0 1 f fd ["_law_room_here","_law_counts"] uE:=by
 refine F.ok Vc (fun vs H Q E h=>?_) (fun cdv A outer s H vs Q E hr h=>?_)
 ·obtain ⟨c,rows,room,cs,rfl,_⟩:=h
  rfl
 obtain ⟨c,rows,room,cs,rfl,e_c,pa,cm,cl,hq⟩:=h
 refine ⟨_,(@Z3 _ _ _ _ _ (Sw (i:=2) Vc.nd rfl rfl (own:=["_law_mark","_law_count"]) (CompOk.of rfl rfl (by rfl) (by rfl) (by rfl)) (Xk (pv 1))
  (fun _ _ _ _ _=>(W5 K 2 rfl rfl (Z6 (Z5 (i:=0) Xs rfl (Or.inl rfl) (Or.inr rfl)) (Z6 (Z5 (i:=1) Xs rfl (Or.inl rfl) (Or.inr rfl)) Zx)))) (fun _ _ _ _ _=>Ys)
  (fun _ _ _ _ _=>(pv 0)))
 (@Z3 _ _ _ _ _ (@Yc _ _ _ _ _ _ _ _ (PW.pt (@Xw _ _ _ _ _ _ _ (@Zm _ _ _ _ _ _ _ _ U3 (Zd Zo rfl aD PySem.boot_len (@Z0 _ _ _ _ _ (pv 1) Z1 (by rfl))) (pv 0) (Zk _)) (@Xp _ _ _ _ (@Zm _ _ _ _ _ _ _ _ (gQ hr.units) (pv 2) (Zd (Sq rfl) rfl aL PyProof.Rows.boot_sorted (@Z0 _ _ _ _ _ (Y5 ((Pq rfl).or (Qd rfl)) rfl dE PyProof.Rows.boot_set (@Z0 _ _ _ _ _ (pv 2) Z1 (by rfl))) Z1 (by rfl))) (Zk _))))) (@Z9 _ _ _ (@Zg _ _ _ _ Wc)) Zu)
 (@Z9 _ _ _ (@Zg _ _ _ _ (@X1 _ _ _ _ _ _ _ _ (Oh hr.units) (Yh (own:=["_law_mark","_law_count"]) (CompOk.of rfl rfl (by rfl) (by rfl) (by rfl)) (Xk (pv 1))
  (fun _ _ _ _ _=>(W5 K 2 rfl rfl (Z6 (Z5 (i:=0) Xr rfl (Or.inl rfl) (Or.inr rfl)) (Z6 (Z5 (i:=1) Xr rfl (Or.inl rfl) (Or.inr rfl)) Zx)))) (fun _ _ _ _ _=>(Vu (@Zm _ _ _ _ _ _ _ _ Vj (pv 1) Z2 (Zk _))))
  (fun _ _ _ _ _=>(pv 1))) (@Y4 _ _ _ _ Z1) (Zk _)))))),?_⟩
 have rl:rows.length=cs.length:=by rw [pa.length,Ye]
 have gg:Same H H:=Same.refl _
 refine ⟨_,rfl,c,rfl,⟨_,SqT.of e_c⟩,?_⟩
 refine Up (fun _=>true) (fun t=>.str t.1) e_c pa (by omega) ?_ ?_
 ·rintro u q ys C mu eq hC _
  exact ⟨q,_,rfl,SqT.of eq,rfl,_,_,rfl,_,_,rfl,rfl,Wk.refl _,_,rfl,hC rfl⟩
 rw [Q2,show (cs.map fun t=>V.str t.1)=(cs.map (·.1)).map V.str by rw [List.map_map];rfl]
 have zl:(cs.map (·.1)).length=cs.length:=List.length_map _
 have zm:∀z∈cs.map (·.1),Mk z:=fun z hz=>by obtain ⟨p,hp,rfl⟩:=List.mem_map.mp hz;exact cm p hp
 unfold acB at hq
 generalize cs.map (·.1)=zs at zl zm hq ⊢
 intro m n_m
 generalize hz:upd _ m _=H1
 have gz:=Zc hz n_m
 have e_m:=Zi hz
 clear hz
 have gg:=gg.trans gz
 have e_c:=gz _ _ e_c
 have pa:=pa.mono gz
 dsimp only
 refine ⟨_,rfl,c,_,rfl,.inr (SqT.of e_c),_,rfl,_,_,rfl,rfl,_,rfl,?_⟩
 rw [rl]
 by_cases h1:(cs.length:Int)≤room
 case neg=>
  rw [decide_eq_true (show room<(cs.length:Int) by omega)]
  rw [decide_eq_false h1] at hq
  exact Yw (Yw (hq _ gg))
 rw [decide_eq_false (show ¬room<(cs.length:Int) by omega)]
 rw [decide_eq_true h1] at hq
 simp only [Bool.true_and] at hq
 refine X8 ⟨_,rfl,_,rfl,.inl ⟨m,zs,rfl,SqL.of e_m,by omega,?_⟩⟩
 intro d n_d
 generalize hz:upd _ d _=H2
 have gz:=Zc hz n_d
 have e_d:=Zi hz
 clear hz
 have gg:=gg.trans gz
 have e_c:=gz _ _ e_c
 have e_m:=gz _ _ e_m
 have pa:=pa.mono gz
 have ul:=N0 zs
 refine ⟨d,dn zs,rfl,e_d,by omega,?_⟩
 intro q n_q
 generalize hz:upd _ q _=H3
 have gz:=Zc hz n_q
 have e_q:=Zi hz
 clear hz
 have gg:=gg.trans gz
 have e_c:=gz _ _ e_c
 have e_m:=gz _ _ e_m
 have pa:=pa.mono gz
 refine ⟨_,_,.lst e_m (Vo zs),.lst e_q (Vo (bi (dn zs))),X5 (Vm fun z hz=>(zm z hz).2) (by decide),X5 (Vm fun z hz=>(zm z (R8.mp ((Zv _).mem_iff.mp hz))).2) (by decide),_,rfl,?_⟩
 rw [Q5]
 by_cases h2:dL zs=true
 case neg=>
  rw [decide_eq_false (fun z=>h2 ((Su zs).mp z))]
  rw [Bool.eq_false_iff.mpr h2] at hq
  exact Yw (hq _ gg)
 rw [decide_eq_true ((Su zs).mpr h2)]
 rw [h2] at hq
 simp only [Bool.true_and] at hq
 refine X8 ⟨_,rfl,c,rfl,⟨_,SqT.of e_c⟩,?_⟩
 refine Up (fun p=>decide (p.2<1)) (fun t=>.int t.2) e_c pa (by omega) ?_ ?_
 ·rintro u q ys C mu eq hC hC2
  refine ⟨q,_,rfl,SqT.of eq,rfl,_,_,rfl,_,_,rfl,rfl,Wk.refl _,_,rfl,_,_,rfl,rfl,_,rfl,?_⟩
  by_cases c:u.2<1
  ·rw [decide_eq_true c]
   exact Yw ⟨_,rfl,hC (decide_eq_true c)⟩
  ·rw [decide_eq_false c]
   exact X8 (hC2 (decide_eq_false c))
 rw [show ((cs.filter fun p=>decide (p.2<1)).map fun t=>V.int t.2)=((cs.filter fun p=>decide (p.2<1)).map (·.2)).map V.int by rw [List.map_map];rfl]
 intro r1 n_r1
 generalize hz:upd _ r1 _=H4
 have gz:=Zc hz n_r1
 have sy:=Zi hz
 clear hz
 have gg:=gg.trans gz
 refine ⟨leN rfl,?_⟩
 intro r2 n_r2
 generalize hz:upd _ r2 _=H5
 have gz:=Zc hz n_r2
 have e_r2:=Zi hz
 clear hz
 have gg:=gg.trans gz
 have sy:=gz _ _ sy
 refine ⟨_,_,.lst sy (fG _),.lst e_r2 .nil,X5 (lN _) (by decide),by decide,?_⟩
 rw [Ot]
 have z:(((cs.filter fun p=>decide (p.2<1)).map (·.2)).map PyData.int).isEmpty=cs.all fun p=>decide (1≤p.2):=by
  rw [Bool.eq_iff_iff,List.isEmpty_iff,List.map_eq_nil_iff,List.map_eq_nil_iff,List.filter_eq_nil_iff,List.all_eq_true]
  exact ⟨fun h p hp=>by have:=h p hp;simp at this;exact decide_eq_true this,fun h p hp=>by have:=of_decide_eq_true (h p hp);simp;omega⟩
 rw [z]
 exact hq _ gg
end
structure BnK (b:Bn):Prop where
 m:∀z∈b.1,Mk z
 l:b.1.length<60
theorem BnK.v {b:Bn} (h:BnK b):BnV b:=⟨fun z hz=>(h.m z hz).1,by have:=h.l;omega⟩
def oJ (ts:List Th) (t:Ty) (bs:List Bn):Bool:=mdB t && (cS t.room bs && (eqP (cg ts) (aV t.cs bs) && (decide ((bs.map (·.2)).sum=t.lt) && decide ((aW (cg ts)).sum=t.total))))
theorem ko (ts:List Th) (t:Ty) (bs:List Bn):oJ ts t bs=(mdB t && cT ts t bs):=by
 unfold oJ cT
 have e:(aW (cg ts)).sum=(ts.map Th.many).sum:=by
  have:=jg ts [] List.nodup_nil
  rw [show (aW ([]:Ps)).sum=0 from rfl,Int.zero_add] at this
  exact this
 rw [e]
 cases mdB t <;> cases cS t.room bs <;> cases eqP (cg ts) (aV t.cs bs) <;> cases decide ((bs.map (·.2)).sum=t.lt) <;> cases decide ((ts.map Th.many).sum=t.total) <;> rfl
theorem S5 {t:Ty}:mdB t=(decide (1≤t.room) && (decide (t.room≤20) && (acB t.room t.cs && (decide (0≤t.lt) && decide (0≤t.total))))):=by
 rw [Bool.eq_iff_iff,T7]
 unfold acB
 simp only [Bool.and_eq_true,decide_eq_true_iff,List.all_eq_true]
 exact ⟨fun h=>⟨h.r1,h.r2,⟨h.len,h.rise,h.pos⟩,h.l0,h.t0⟩,fun ⟨a,b,⟨c,d,e⟩,f,g⟩=>⟨a,b,d,c,e,f,g⟩⟩
def eT:Sp:=fun vs H Q _=>∃(r q p:Addr) (ts:List Th) (t:Ty) (bs:List Bn),vs=[.ref r,.ref q,.ref p]∧DV H (.ref r) (dG ts)∧ts.length≤1000∧DV H (.ref q) t.D∧(∀p∈t.cs,Mk p.1)∧t.cs.length<60∧PapAt H p bs∧bs.length≤3000∧(∀b∈bs,BnK b)∧∀H',Same H H'→Q (.bl (mdB t && cT ts t bs)) H'
section
variable {P:Program} {w:World} {K:W.Frag} {mg:Str→Option Value} {base:Heap} {f:Addr} {fd:FuncData}
theorem oP (aD:mg "len"=none) (dE:mg "set"=none) (aL:mg "sorted"=none) (bO:mg "dict"=none) (aZ:mg "list"=none) (cq:mg "sum"=none) (ei:Has P w K mg base "_law_are_counts" 1 ["_law_room_here","_law_counts"] uE)
  (F:Fun K "_law_due" "_law_due" cX f fd):FnOk P w K mg base CX0 2 f fd ["_law_stream_here","_law_tally","_law_paper"] eT:=by
 refine F.ok Yt (fun vs H Q E h=>?_) (fun cdv A outer s H vs Q E hr h=>?_)
 ·obtain ⟨r,q,p,ts,t,bs,rfl,_⟩:=h
  rfl
 obtain ⟨r,q,p,ts,t,bs,rfl,k_r,tl,k_q,cm,cl,k_p,bl,bk,hq⟩:=h
 refine ⟨_,(@Z3 _ _ _ _ _ (X7 (pv 1) (Yq rfl (Z6 (Z5 (i:=3) Yt.nd rfl (Or.inl rfl)) (Z6 (Z5 (i:=4) Yt.nd rfl (Or.inl rfl)) (Z6 (Z5 (i:=5) Yt.nd rfl (Or.inl rfl)) (Z6 (Z5 (i:=6) Yt.nd rfl (Or.inl rfl)) Zx))))))
 (@Z3 _ _ _ _ _ (@Yc _ _ _ _ _ _ _ _ (PW.pt (@Xw _ _ _ _ _ _ _ (@X6 _ _ _ _ (mN P3 P3 Z2 (pv 3) Z2)) (@Xw _ _ _ _ _ _ _ (@X6 _ _ _ _ (Yy (Z7 ei hr (@Z0 _ _ _ _ _ (pv 3) (@Z0 _ _ _ _ _ (pv 4) Z1 (by rfl)) (by rfl))))) (@Xw _ _ _ _ _ _ _ (@Zm _ _ _ _ _ _ _ _ Vj (pv 5) Z2 (Zk _)) (@Xp _ _ _ _ (@Zm _ _ _ _ _ _ _ _ Vj (pv 6) Z2 (Zk _))))))) (@Z9 _ _ _ (@Zg _ _ _ _ Wc)) Zu)
 (@Z3 _ _ _ _ _ (@Zj _ _ 7 _ _ _ _ Yt.nd rfl (Or.inl rfl) (Y5 (Va rfl) rfl bO PyProof.Rows.boot_dict (@Z0 _ _ _ _ _ (pv 4) Z1 (by rfl))) (by rfl) (by first | exact .inl rfl | exact .inr rfl))
 (@Z3 _ _ _ _ _ (Xx PassesOwn.never rfl (X0 (pv 2)) (Yq rfl (Z6 (Z5 (i:=8) Yt.nd rfl (Or.inl rfl)) (Z6 (Z5 (i:=9) Yt.nd rfl (Or.inl rfl)) Zx)))
 (@Z3 _ _ _ _ _ (@Yc _ _ _ _ _ _ _ _ (PW.pt (@Xw _ _ _ _ _ _ _ (@Zm _ _ _ _ _ _ _ _ P3 (Zd Zo rfl aD PySem.boot_len (@Z0 _ _ _ _ _ (pv 8) Z1 (by rfl))) (pv 3) (Zk _)) (@Xw _ _ _ _ _ _ _ (@Zm _ _ _ _ _ _ _ _ Vj (pv 9) Z2 (Zk _)) (@Xp _ _ _ _ (@Zm _ _ _ _ _ _ _ _ (gQ hr.units) (Y5 Wg rfl aZ PyProof.Rows.boot_list (@Z0 _ _ _ _ _ (pv 8) Z1 (by rfl))) (Zd (Sq rfl) rfl aL PyProof.Rows.boot_sorted (@Z0 _ _ _ _ _ (Y5 ((Pq rfl).or (Qd rfl)) rfl dE PyProof.Rows.boot_set (@Z0 _ _ _ _ _ (pv 8) Z1 (by rfl))) Z1 (by rfl))) (Zk _)))))) (@Z9 _ _ _ (@Zg _ _ _ _ Wc)) Zu)
 (@Z9 _ _ _ (Xx PassesOwn.never rfl (Xk (pv 8)) (Z5 (i:=10) Yt.nd rfl (Or.inl rfl))
 (@Z9 _ _ _ (T0 (Wz hr) (pv 7) (pv 10) (@Za _ _ _ _ _ _ _ _ Zp (Vi (Wz hr) (pv 7) (pv 10) Z2 ⟨rfl,rfl,rfl,rfl⟩) (pv 9)) rfl))))))
 (@Z3 _ _ _ _ _ (@Zj _ _ 11 _ _ _ _ Yt.nd rfl (Or.inl rfl) e_ (by rfl) (by first | exact .inl rfl | exact .inr rfl))
 (@Z3 _ _ _ _ _ (Xx PassesOwn.never rfl (X0 (pv 0)) (Yq rfl (Z6 (Z5 (i:=12) Yt.nd rfl (Or.inl rfl)) (Z6 (Z5 (i:=10) Yt.nd rfl (Or.inl rfl)) (Z6 (Z5 (i:=13) Yt.nd rfl (Or.inl rfl)) (Z6 (Z5 (i:=9) Yt.nd rfl (Or.inl rfl)) Zx)))))
 (@Z9 _ _ _ (T0 (Wz hr) (pv 11) (pv 10) (@Za _ _ _ _ _ _ _ _ Zp (Vi (Wz hr) (pv 11) (pv 10) Z2 ⟨rfl,rfl,rfl,rfl⟩) (pv 9)) rfl)))
 (Yz 9 (Yz 8 (@Z9 _ _ _ (@Zg _ _ _ _ (@Xy _ _ _ _ _ _ _ (@X1 _ _ _ _ _ _ _ _ (jw (Nat.lt_of_le_of_lt (Nat.le_add_right _ _) hr.units)) (pv 11) (pv 7) (Zk _)) (@Xy _ _ _ _ _ _ _ (@X1 _ _ _ _ _ _ _ _ Wr (Zd (Tg rfl) rfl cq PyProof.Rows.boot_sum (@Z0 _ _ _ _ _ (Rk ["_law_stream_here","_law_tally","_law_paper","_law_room_here","_law_counts","_law_let","_law_total","_law_due_here","#8","#9","_law_mark","_law_times","_law_day","_law_number"] (Yh (own:=["_law_marks","_law_many_here"]) (CompOk.of rfl rfl (by rfl) (by rfl) (by rfl)) (X0 (pv 2))
  (fun _ _ _ _ _=>(W5 K 2 rfl rfl (Z6 (Z5 (i:=0) Vd rfl (Or.inl rfl) (Or.inr rfl)) (Z6 (Z5 (i:=1) Vd rfl (Or.inl rfl) (Or.inr rfl)) Zx)))) (fun _ _ _ _ _=>Ys)
  (fun _ _ _ _ _=>(pv 1)))) Z1 (by rfl))) (pv 5) (Zk _)) (@V6 _ _ _ _ _ (@X1 _ _ _ _ _ _ _ _ Wr (Zd (lu rfl) rfl cq PyProof.Rows.boot_sum (@Z0 _ _ _ _ _ (oO PySem.F.plainAttrs_dict PySem.F.slot_dict_values PySem.F.type_dict_values P6 (pv 11)) Z1 (by rfl))) (pv 6) (Zk _))))))))))))))),?_⟩
 rw [←ko] at hq
 obtain ⟨_,c,rows,e0,e_q,e_c,pa⟩:=DV.ty_inv k_q
 cases e0
 refine ⟨_,rfl,q,_,rfl,SqT.of e_q,rfl,_,_,rfl,_,_,rfl,_,_,rfl,_,_,rfl,rfl,?_⟩
 dsimp only
 have no1:∀{H':Hp},Same H H'→mdB t=false→Q (.bl false) H':=fun {H'} g z=>by
  have:=hq H' g
  unfold oJ at this
  rw [z,Bool.false_and] at this
  exact this
 have no2:∀{H':Hp},Same H H'→cS t.room bs=false→Q (.bl false) H':=fun {H'} g z=>by
  have:=hq H' g
  unfold oJ at this
  rw [z,Bool.false_and,Bool.and_false] at this
  exact this
 refine ⟨_,rfl,_,_,rfl,rfl,_,rfl,?_⟩
 by_cases c1:(1:Int)≤t.room
 case neg=>
  rw [decide_eq_false c1]
  refine X8 ⟨_,rfl,Yw (Yw (no1 (Same.refl _) ?_))⟩
  rw [S5,decide_eq_false c1];rfl
 rw [decide_eq_true c1]
 refine Yw ⟨_,_,rfl,rfl,_,rfl,?_⟩
 by_cases c2:t.room≤20
 case neg=>
  rw [decide_eq_false c2]
  refine Yw (Yw (no1 (Same.refl _) ?_))
  rw [S5,decide_eq_false c2,Bool.false_and,Bool.and_false]
 rw [decide_eq_true c2]
 refine X8 ⟨_,rfl,_,rfl,c,rows,t.room,t.cs,rfl,e_c,pa,cm,cl,fun H1 g1=>⟨_,rfl,?_⟩⟩
 by_cases c3:acB t.room t.cs=true
 case neg=>
  have c3:=Bool.eq_false_iff.mpr c3
  rw [c3]
  refine Yw (Yw (no1 g1 ?_))
  rw [S5,c3,Bool.false_and,Bool.and_false,Bool.and_false]
 rw [c3]
 refine X8 ⟨_,rfl,_,_,rfl,rfl,_,rfl,?_⟩
 by_cases c4:t.lt<0
 case pos=>
  rw [decide_eq_true c4]
  refine Yw (Yw (no1 g1 ?_))
  rw [S5,decide_eq_false (show ¬0≤t.lt by omega),Bool.false_and,Bool.and_false,Bool.and_false,Bool.and_false]
 rw [decide_eq_false c4]
 refine X8 ⟨_,rfl,_,_,rfl,rfl,_,rfl,?_⟩
 by_cases c5:t.total<0
 case pos=>
  rw [decide_eq_true c5]
  refine Yw (no1 g1 ?_)
  rw [S5,decide_eq_false (show ¬0≤t.total by omega),Bool.and_false,Bool.and_false,Bool.and_false,Bool.and_false]
 rw [decide_eq_false c5]
 refine X8 ?_
 have hm:mdB t=true:=by
  rw [S5,decide_eq_true c1,decide_eq_true c2,c3,decide_eq_true (show 0≤t.lt by omega),decide_eq_true (show 0≤t.total by omega)]
  rfl
 have md:=T7.mp hm
 have nd0:=md.nd
 obtain ⟨xs,e_p,kb⟩:=k_p
 have h_:=g1 _ _ e_c
 have pa1:=pa.mono g1
 have gg:=g1
 have xl:=kb.length
 have kl:=Ye t.cs
 refine ⟨_,rfl,c,rows,_,rfl,h_,pa1,by omega,?_⟩
 rw [Um (by rw [Wy];exact gW nd0)]
 intro d n_d
 generalize hz:upd _ d _=H2
 have gz:=Zc hz n_d
 have e_d:=Zi hz
 clear hz
 have gg:=gg.trans gz
 dsimp only
 have lenA:∀i,(aV t.cs (bs.take i)).length≤300100:=fun i=>by
  have h1:=Tq (bs.take i) t.cs fun b hb=>by have:=(bk b (List.mem_of_mem_take hb)).l;omega
  rw [List.length_take] at h1
  omega
 have nH:H d=none:=We g1 n_d
 refine ⟨_,rfl,p,rfl,⟨_,SqL.of (gg _ _ e_p)⟩,?_⟩
 have papF:∀{b:Bn},b∈bs→bnB t.room b=false→cS t.room bs=false:=fun {b} hb z=>by
  unfold cS
  rw [List.all_eq_false]
  exact ⟨b,hb,by rw [z];exact Bool.false_ne_true⟩
 refine W9 (xs:=xs) (fun n σ H'=>∃(o8 o9 o10:Option V),σ=[some (.ref r),some (.ref q),some (.ref p),some (.int t.room),some (.ref c),some (.int t.lt),some (.int t.total),some (.ref d),o8,o9,o10,none,none,none]∧Same H H'∧H' d=some (.dK (aE (aV t.cs (bs.take n))))∧cS t.room (bs.take n)=true) ⟨_,_,_,rfl,gg,e_d,rfl⟩ ?_ ?_ ?_
 ·rintro n σ H' _ ⟨_,_,_,_,g,_⟩
  exact SqL.of (g _ _ e_p)
 ·rintro n x σ H' hx ⟨o8,o9,o10,rfl,g,ed,pb⟩
  obtain ⟨a,m,b,rfl,hb,ea,em⟩:=kb.get hx
  have tk:bs.take (n+1)=bs.take n++[b]:=Y6 hb
  have mb:=List.mem_of_getElem? hb
  have bkb:=bk b mb
  have bml:=bkb.l
  refine ⟨a,_,rfl,SqT.of (g _ _ ea),rfl,_,_,rfl,_,_,rfl,rfl,?_⟩
  dsimp only
  refine ⟨_,rfl,m,_,rfl,.inr (SqT.of (g _ _ em)),_,rfl,_,_,rfl,rfl,_,rfl,?_⟩
  rw [List.length_map]
  by_cases d1:(b.1.length:Int)≤t.room
  case pos=>
   rw [decide_eq_true d1]
   refine Yw (Yw (no2 g (papF mb ?_)))
   unfold bnB
   rw [decide_eq_false (show ¬t.room<(b.1.length:Int) by omega),Bool.false_and,Bool.and_false]
  rw [decide_eq_false d1]
  refine X8 ⟨_,rfl,_,_,rfl,rfl,_,rfl,?_⟩
  by_cases d2:b.2<1
  case pos=>
   rw [decide_eq_true d2]
   refine Yw (Yw (no2 g (papF mb ?_)))
   unfold bnB
   rw [decide_eq_false (show ¬1≤b.2 by omega),Bool.and_false,Bool.and_false]
  rw [decide_eq_false d2]
  refine X8 ⟨_,rfl,m,_,rfl,.inr (SqT.of (g _ _ em)),?_⟩
  have gg:=g
  intro l1 lY
  generalize hz:upd _ l1 _=J1
  have gz:=Zc hz lY
  have dN:=Zi hz
  clear hz
  have gg:=gg.trans gz
  have ed:=gz _ _ ed
  refine ⟨_,rfl,.inr ⟨m,b.1,rfl,SqT.of (gg _ _ em),by omega,?_⟩⟩
  intro l2 en
  generalize hz:upd _ l2 _=J2
  have gz:=Zc hz en
  have cL:=Zi hz
  clear hz
  have gg:=gg.trans gz
  have ed:=gz _ _ ed
  have dN:=gz _ _ dN
  have ul:=N0 b.1
  refine ⟨l2,dn b.1,rfl,cL,by omega,?_⟩
  intro l3 ng
  generalize hz:upd _ l3 _=J3
  have gz:=Zc hz ng
  have eW:=Zi hz
  clear hz
  have gg:=gg.trans gz
  have ed:=gz _ _ ed
  have dN:=gz _ _ dN
  refine ⟨_,_,.lst dN (Vo b.1),.lst eW (Vo (bi (dn b.1))),X5 (Vm fun z hz=>(bkb.m z hz).2) (by decide),X5 (Vm fun z hz=>(bkb.m z (R8.mp ((Zv _).mem_iff.mp hz))).2) (by decide),_,rfl,?_⟩
  rw [Q5]
  by_cases d3:dL b.1=true
  case neg=>
   rw [decide_eq_false (fun z=>d3 ((Su b.1).mp z))]
   refine Yw (no2 gg (papF mb ?_))
   unfold bnB
   rw [Bool.eq_false_iff.mpr d3,Bool.false_and]
  rw [decide_eq_true ((Su b.1).mpr d3)]
  refine X8 ⟨_,rfl,m,rfl,⟨_,SqT.of (gg _ _ em)⟩,?_⟩
  have bb:bnB t.room b=true:=by
   unfold bnB
   rw [d3,decide_eq_true (show t.room<(b.1.length:Int) by omega),decide_eq_true (show 1≤b.2 by omega)]
   rfl
  have ndt:=Ut (bs.take n) t.cs nd0
  have lt:=lenA n
  refine Sz (xs:=b.1.map V.str) (fun k σ H''=>∃(o10:Option V),σ=[some (.ref r),some (.ref q),some (.ref p),some (.int t.room),some (.ref c),some (.int t.lt),some (.int t.total),some (.ref d),some (.ref m),some (.int b.2),o10,none,none,none]∧Same H H''∧H'' d=some (.dK (aE (inP (aV t.cs (bs.take n)) b.2 (b.1.take k))))) ⟨_,rfl,gg,ed⟩ ?_ ?_ ?_
  ·rintro k σ H'' _ ⟨_,_,g2,_⟩
   exact SqT.of (g2 _ _ em)
  ·rintro k x σ H'' hx2 ⟨o10,rfl,g2,ed2⟩
   rw [List.getElem?_map] at hx2
   obtain ⟨z,hz,rfl⟩:=Option.map_eq_some_iff.mp hx2
   have tk2:b.1.take (k+1)=b.1.take k++[z]:=Y6 hz
   have nd2:=S8 b.2 (b.1.take k) _ ndt
   have l2:=Sx b.2 (b.1.take k) (aV t.cs (bs.take n))
   rw [List.length_take] at l2
   have kl2:=Ye (inP (aV t.cs (bs.take n)) b.2 (b.1.take k))
   refine ⟨_,rfl,d,rfl,.inl ⟨_,.inl ed2⟩,_,rfl,_,DGet.k (k:=Sum.inr z) ed2,_,rfl,_,_,V1 nd2 z,rfl,?_⟩
   refine ⟨_,rfl,_,rfl,d,_,rfl,DPut.k (k:=Sum.inr z) ed2 (Zn (by omega)),some (.str z),rfl,Wm g2 nH,?_⟩
   rw [To nd2,tk2,fX]
   exact Ze
  ·rintro σ H'' ⟨o10,rfl,g2,ed2⟩
   rw [List.length_map,List.take_length] at ed2
   refine ⟨_,_,_,rfl,g2,by rw [tk,R9];exact ed2,?_⟩
   unfold cS at pb ⊢
   rw [tk,List.all_append,pb,List.all_cons,bb]
   rfl
 rintro σ H3 ⟨o8,o9,o10,rfl,g3,ed,pb⟩
 rw [xl,List.take_length] at ed pb
 obtain ⟨_,ys,e0,e_r,ds⟩:=DV.list_inv k_r
 cases e0
 have gg:=g3
 intro u n_u
 generalize hz:upd _ u _=H4
 have gz:=Zc hz n_u
 have e_u:=Zi hz
 clear hz
 have gg:=gg.trans gz
 have ed:=gz _ _ ed
 have nHu:H u=none:=We g3 n_u
 dsimp only
 refine ⟨_,rfl,r,rfl,⟨_,SqL.of (gg _ _ e_r)⟩,?_⟩
 have dl:=ds.length
 rw [List.length_map] at dl
 have dne:d≠u:=Zs ‹H3 d=_› n_u
 refine W9 (xs:=ys) (fun n σ H'=>∃(o9 o10 o12 o13:Option V),σ=[some (.ref r),some (.ref q),some (.ref p),some (.int t.room),some (.ref c),some (.int t.lt),some (.int t.total),some (.ref d),o8,o9,o10,some (.ref u),o12,o13]∧Same H H'∧H' d=some (.dK (aE (aV t.cs bs)))∧H' u=some (.dK (aE (cg (ts.take n))))) ⟨_,_,_,_,rfl,gg,ed,e_u⟩ ?_ ?_ ?_
 ·rintro i σ H' _ ⟨_,_,_,_,_,g,_⟩
  exact SqL.of (g _ _ e_r)
 ·rintro i x σ H' hx ⟨o9,o10,o12,o13,rfl,g,ed,eu⟩
  obtain ⟨th,ct,ht,rfl,ec,_⟩:=DVs.th_at (ds.mono g) hx
  have tk:ts.take (i+1)=ts.take i++[th]:=Y6 ht
  have nd:=O5 (ts.take i)
  have len:=N5 (ts.take i)
  rw [List.length_take] at len
  have kl:=Ye (cg (ts.take i))
  refine ⟨ct,_,rfl,SqT.of ec,rfl,_,_,rfl,_,_,rfl,_,_,rfl,_,_,rfl,rfl,?_⟩
  refine ⟨_,rfl,u,rfl,.inl ⟨_,.inl eu⟩,_,rfl,_,DGet.k (k:=Sum.inr th.word) eu,_,rfl,_,_,V1 nd th.word,rfl,?_⟩
  refine ⟨_,rfl,_,rfl,u,_,rfl,DPut.k (k:=Sum.inr th.word) eu (Zn (by omega)),some (.int th.many),some (.str th.word),some (.int th.day),some (.int th.num),rfl,Wm g nHu,by rw [Zl dne];exact ed,?_⟩
  rw [To nd,tk,Qt]
  exact Ze
 rintro σ H5 ⟨o9,o10,o12,o13,rfl,g5,ed,eu⟩
 rw [dl,List.take_length] at eu
 have hf:=hq
 unfold oJ at hf
 rw [hm,pb,Bool.true_and,Bool.true_and] at hf
 refine ⟨_,rfl,_,rfl,u,d,_,_,rfl,rfl,eu,ed,?_⟩
 refine ⟨_,rfl,Yu (fun k1=>?_) (fun k1=>?_)⟩
 case refine_2=>
  have z:eqP (cg ts) (aV t.cs bs)=false:=Bool.eq_false_iff.mpr k1
  rw [z,Bool.false_and] at hf
  exact hf _ g5
 rw [show eqP (cg ts) (aV t.cs bs)=true from k1,Bool.true_and] at hf
 refine ⟨⟨.inl rfl,.inl rfl,.inl rfl,.inl rfl,.inl rfl,.inl rfl,.inl rfl,.inl rfl,.inr rfl,.inr rfl,.inl rfl,.inl rfl,.inl rfl,.inl rfl,trivial⟩,_,rfl,p,rfl,⟨_,SqL.of (g5 _ _ e_p)⟩,?_⟩
 refine W3 (xs:=xs) (fun n ys H'=>H'=H5∧ys=((bs.take n).map (·.2)).map V.int) ⟨rfl,rfl⟩ ?_ ?_ ?_
 ·rintro n ys H' _ ⟨rfl,_⟩
  exact SqL.of (g5 _ _ e_p)
 ·rintro n x ys H' C hx ⟨rfl,rfl⟩ hC
  have nl:=(List.getElem?_eq_some_iff.mp hx).1
  obtain ⟨a,m,b',rfl,hb,ea,em⟩:=kb.get hx
  refine ⟨Zn (by rw [List.length_map,List.length_map,List.length_take];omega),a,_,rfl,SqT.of (g5 _ _ ea),rfl,_,_,rfl,_,_,rfl,rfl,Wk.refl _,_,rfl,hC _ _ ⟨rfl,?_⟩⟩
  rw [Y6 hb,List.map_append,List.map_append]
  rfl
 rintro ys H' ⟨rfl,rfl⟩
 rw [xl,List.take_length]
 refine ⟨Zb (by rw [List.length_map,List.length_map];omega),?_⟩
 have gg:=g5
 intro sp sF
 generalize hz:upd _ sp _=H6
 have gz:=Zc hz sF
 have rB:=Zi hz
 clear hz
 have gg:=gg.trans gz
 have eu:=gz _ _ eu
 refine ⟨sp,_,rfl,SqL.of rB,_,rfl,rfl,_,rfl,Yu (fun k2=>?_) (fun k2=>?_)⟩
 case refine_2=>
  have z:¬(bs.map (·.2)).sum=t.lt:=fun z=>k2 (decide_eq_true (by rw [z]))
  rw [decide_eq_false z,Bool.false_and] at hf
  exact hf _ gg
 have k2:(bs.map (·.2)).sum=t.lt:=V.int.inj (of_decide_eq_true k2)
 rw [decide_eq_true k2,Bool.true_and] at hf
 refine ⟨_,rfl,N3 eu,u,_,rfl,rfl,eu,?_⟩
 intro vv n_vv
 generalize hz:upd _ vv _=H7
 have gz:=Zc hz n_vv
 have e_vv:=Zi hz
 clear hz
 have gg:=gg.trans gz
 have eu:=gz _ _ eu
 refine ⟨vv,u,_,aW (cg ts),rfl,e_vv,eu,jL _,_,rfl,rfl,?_⟩
 have e:decide (V.int (aW (cg ts)).sum=V.int t.total)=decide ((aW (cg ts)).sum=t.total):=by
  rw [Bool.eq_iff_iff,decide_eq_true_iff,decide_eq_true_iff]
  exact ⟨V.int.inj,fun z=>by rw [z]⟩
 rw [e]
 exact hf _ gg
end
structure GoodT (t:Ty):Prop where
 m:∀p∈t.cs,Mk p.1
 l:t.cs.length<60
structure GoodS (ts:List Th):Prop where
 l:ts.length≤1000
 w:∀x∈ts,PyData.strOk x.word=true
structure GoodP (bs:List Bn):Prop where
 l:bs.length≤3000
 k:∀b∈bs,BnK b
theorem lC {t:Th} (h:PyData.strOk t.word=true):t.D.canLay0=true∧t.D.depth≤1:=by
 unfold Th.D
 simp [PyData.canLay0,PyData.canLayAll0,PyData.depth,PyData.depthAll,h]
theorem Qv {ts:List Th} (h:GoodS ts):(dG ts).canLay0=true∧(dG ts).depth≤2:=Vn ts fun t ht=>lC (h.w t ht)
theorem mP {b:Bn} (h:BnK b):(bnD b).canLay0=true∧(bnD b).depth≤2:=by
 have q:=Vm (zs:=b.1) fun z hz=>(h.m z hz).2
 unfold bnD
 simp only [PyData.canLay0,PyData.depth,PyData.canLayAll0,PyData.depthAll] at q ⊢
 refine ⟨by rw [q.1];rfl,?_⟩
 omega
theorem P0 {bs:List Bn} (h:GoodP bs):(ii bs).canLay0=true∧(ii bs).depth≤3:=Vn bs fun b hb=>mP (h.k b hb)
theorem qt {d e:PyData} {n:Nat} (h:d.canLay0=true∧d.depth≤n) (g:e.canLay0=true∧e.depth≤n):(PyData.tuple [d,e]).canLay0=true∧(PyData.tuple [d,e]).depth≤n+1:=by
 simp only [PyData.canLay0,PyData.depth,PyData.canLayAll0,PyData.depthAll]
 refine ⟨by rw [h.1,g.1];rfl,?_⟩
 have:=h.2
 have:=g.2
 omega
def oi:Sp:=fun vs H Q _=>∃(r q p:Addr) (ts:List Th) (t:Ty) (bs:List Bn),vs=[.ref r,.ref q,.ref p]∧DV H (.ref r) (dG ts)∧GoodS ts∧DV H (.ref q) t.D∧GoodT t∧PapAt H p bs∧GoodP bs∧∀H',Same H H'→Q (.bl true) H'
section
variable {P:Program} {w:World} {K:W.Frag} {mg:Str→Option Value} {base:Heap} {f:Addr} {fd:FuncData}
theorem pS (ad:mg "isinstance"=none) (dI:mg "bool"=none) (aZ:mg "list"=none) (gR:Has P w K mg base "is_shown" 6 ["stream","tally","paper"] jc) (eN:Has P w K mg base "_law_due" 2 ["_law_stream_here","_law_tally","_law_paper"] eT)
  (F:Fun K "_law_said" "_law_said" cA f fd):FnOk P w K mg base CX0 7 f fd ["_law_stream_here","_law_tally","_law_paper"] oi:=by
 refine F.ok Tw (fun vs H Q E h=>?_) (fun cdv A outer s H vs Q E hr h=>?_)
 ·obtain ⟨r,q,p,ts,t,bs,rfl,_⟩:=h
  rfl
 obtain ⟨r,q,p,ts,t,bs,rfl,k_r,gs,k_q,gt,k_p,gp,hq⟩:=h
 refine ⟨_,(@Z3 _ _ _ _ _ (@Zj _ _ 3 _ _ _ _ Tw.nd rfl (Or.inl rfl) (@Zh _ _ _ _ _ (@Z0 _ _ _ _ _ (Y5 Wg rfl aZ PyProof.Rows.boot_list (@Z0 _ _ _ _ _ (pv 0) Z1 (by rfl))) (@Z0 _ _ _ _ _ (Y5 Wg rfl aZ PyProof.Rows.boot_list (@Z0 _ _ _ _ _ (pv 2) Z1 (by rfl))) Z1 (by rfl)) (by rfl))) (by rfl) (by first | exact .inl rfl | exact .inr rfl))
 (@Z3 _ _ _ _ _ (@Zj _ _ 4 _ _ _ _ Tw.nd rfl (Or.inl rfl) (Z7 gR hr (@Z0 _ _ _ _ _ (@Y0 _ _ _ _ _ _ _ Yl (pv 3) Z2 (fun _ _=>rfl)) (@Z0 _ _ _ _ _ (pv 1) (@Z0 _ _ _ _ _ (@Y0 _ _ _ _ _ _ _ Yl (pv 3) Z2 (fun _ _=>rfl)) Z1 (by rfl)) (by rfl)) (by rfl))) (by rfl) (by first | exact .inl rfl | exact .inr rfl))
 (@Z9 _ _ _ (@Zg _ _ _ _ (@Xy _ _ _ _ _ _ _ (Zd Xj rfl ad PyProof.Rows.boot_isinstance (@Z0 _ _ _ _ _ (pv 4) (@Z0 _ _ _ _ _ (Xh (v:=.ty "bool") rfl dI PyProof.Rows.boot_bool rfl) Z1 (by rfl)) (by rfl))) (@Xy _ _ _ _ _ _ _ (@X1 _ _ _ _ _ _ _ _ Wr (pv 4) (Z7 eN hr (@Z0 _ _ _ _ _ (pv 0) (@Z0 _ _ _ _ _ (pv 1) (@Z0 _ _ _ _ _ (pv 2) Z1 (by rfl)) (by rfl)) (by rfl))) (Zk _)) (@V6 _ _ _ _ _ (@X1 _ _ _ _ _ _ _ _ (Oh hr.units) (pv 3) (@Zh _ _ _ _ _ (@Z0 _ _ _ _ _ (pv 0) (@Z0 _ _ _ _ _ (pv 2) Z1 (by rfl)) (by rfl))) (Zk _))))))))),?_⟩
 have gg:Same H H:=Same.refl _
 have cm1:∀p∈t.cs,mkS p.1=true:=fun p hp=>(gt.m p hp).1
 have cl:=gt.l
 obtain ⟨_,xs,e0,e_r,dx⟩:=DV.list_inv k_r
 cases e0
 obtain ⟨ys,e_p,kb⟩:=id k_p
 refine ⟨_,rfl,r,xs,rfl,.inl (SqL.of e_r),?_⟩
 intro a n_a
 generalize hz:upd _ a _=H1
 have gz:=Zc hz n_a
 have e_a:=Zi hz
 clear hz
 have gg:=gg.trans gz
 refine ⟨_,rfl,p,ys,rfl,.inl (SqL.of (gg _ _ e_p)),?_⟩
 intro b n_b
 generalize hz:upd _ b _=H2
 have gz:=Zc hz n_b
 have e_b:=Zi hz
 clear hz
 have gg:=gg.trans gz
 have e_a:=gz _ _ e_a
 refine ⟨leN rfl,?_⟩
 intro c n_c
 generalize hz:upd _ c _=H3
 have gz:=Zc hz n_c
 have e_c:=Zi hz
 clear hz
 have gg:=gg.trans gz
 have e_a:=gz _ _ e_a
 have e_b:=gz _ _ e_b
 dsimp only
 have k_a:DV H3 (.ref a) (dG ts):=.lst e_a (dx.mono gg)
 have k_b:PapAt H3 b bs:=⟨ys,e_b,kb.mono gg⟩
 refine ⟨_,rfl,c,_,_,_,rfl,rfl,SqT.of e_c,rfl,_,rfl,_,rfl,c,_,_,_,rfl,rfl,SqT.of e_c,rfl,?_⟩
 refine ⟨a,q,b,ts,t,bs,rfl,k_a,gs.l,k_q.mono gg,cm1,by omega,k_b,gp.l,fun x hx=>(gp.k x hx).v,fun H4 g4=>?_⟩
 have gg4:=gg.trans g4
 dsimp only
 refine ⟨_,rfl,_,_,"bool",_,rfl,TyOf.bl _,Pa (by decide +kernel),_,rfl,Yw ?_⟩
 refine ⟨_,rfl,_,rfl,_,rfl,_,rfl,r,q,p,ts,t,bs,rfl,k_r.mono gg4,gs.l,k_q.mono gg4,gt.m,cl,k_p.mono gg4,gp.l,gp.k,fun H5 g5=>⟨rfl,_,rfl,?_⟩⟩
 rw [decide_eq_true rfl]
 have gg5:=gg4.trans g5
 refine Yw ⟨_,rfl,_,rfl,_,rfl,leN rfl,?_⟩
 have gg:=gg5
 intro d n_d
 generalize hz:upd _ d _=H6
 have gz:=Zc hz n_d
 have e_d:=Zi hz
 clear hz
 have gg:=gg.trans gz
 have g6:=(g4.trans g5).trans gz
 have d1:DV H6 (.ref c) (.tuple [dG ts,ii bs]):=.tup (g6 _ _ e_c) (.cons (k_a.mono g6) (.cons ((k_b.mono g6).dv) .nil))
 have d2:DV H6 (.ref d) (.tuple [dG ts,ii bs]):=.tup e_d (.cons (k_r.mono gg) (.cons ((k_p.mono gg).dv) .nil))
 have ly:=qt (n:=3) (let ⟨x,y⟩:=Qv gs;⟨x,by omega⟩) (P0 gp)
 refine ⟨_,_,d1,d2,X5 ly (by decide),X5 ly (by decide),?_⟩
 rw [nW ly]
 exact hq _ gg
end
def TSt (H H':Hp):Prop:=∀b xs,H b=some (.tup xs)→H' b=some (.tup xs)
theorem tst {H H':Hp} (g:Same H H'):TSt H H':=fun b xs e=>g b _ e
def TE (H:Hp) (x:V):Prop:=∃c th,x=.ref c∧H c=some (.tup (Th.vs th))∧PyData.strOk th.word=true
def CE (H:Hp) (x:V):Prop:=∃c z n,x=.ref c∧H c=some (.tup [.str z,.int n])∧Mk z
def BE (H:Hp) (x:V):Prop:=∃(c m:Addr) (b:Bn),x=.ref c∧H c=some (.tup [.ref m,.int b.2])∧H m=some (.tup (b.1.map V.str))∧BnK b
def All (P:Hp→V→Prop) (H:Hp) (xs:List V):Prop:=∀x∈xs,P H x
class Stays (P:Hp→V→Prop):Prop where
 st:∀{H H':Hp} {x:V},TSt H H'→P H x→P H' x
instance:Stays TE:=⟨fun g ⟨c,th,e,h,w⟩=>⟨c,th,e,g _ _ h,w⟩⟩
instance:Stays CE:=⟨fun g ⟨c,z,n,e,h,w⟩=>⟨c,z,n,e,g _ _ h,w⟩⟩
instance:Stays BE:=⟨fun g ⟨c,m,b,e,h,h2,w⟩=>⟨c,m,b,e,g _ _ h,g _ _ h2,w⟩⟩
section
variable {P:Hp→V→Prop} {H H':Hp} {xs ys:List V}
theorem All.st [Stays P] (h:All P H xs) (g:TSt H H'):All P H' xs:=fun x hx=>Stays.st g (h x hx)
theorem All.mono [Stays P] (h:All P H xs) (g:Same H H'):All P H' xs:=h.st (tst g)
theorem All.app (h:All P H xs) (g:All P H ys):All P H (xs++ys):=fun x hx=>(List.mem_append.mp hx).elim (h x) (g x)
theorem All.cut (h:All P H xs) (lo hi:Option Int):All P H (bd xs lo hi):=fun x hx=>h x (Ou hx)
theorem All.rev (h:All P H xs):All P H xs.reverse:=fun x hx=>h x (List.mem_reverse.mp hx)
theorem All.one {x:V} (h:P H x):All P H [x]:=fun y hy=>by rw [List.mem_singleton.mp hy];exact h
theorem All.nil:All P H []:=fun _ h=>nomatch h
theorem All.cons {x:V} (h:P H x) (r:All P H xs):All P H (x::xs):=fun y hy=>(List.mem_cons.mp hy).elim (fun e=>by rw [e];exact h) (r y)
end
theorem qY {H:Hp}:∀{xs:List V},All TE H xs→∃ts:List Th,DVs H xs (ts.map Th.D)∧ts.length=xs.length∧∀x∈ts,PyData.strOk x.word=true
 | [],_=>⟨[],.nil,rfl,(fun _ h=>nomatch h)⟩
 | x::xs,h=>by
  obtain ⟨c,th,rfl,e,w⟩:=h x (.head _)
  obtain ⟨ts,d,l,g⟩:=qY fun y hy=>h y (.tail _ hy)
  exact ⟨th::ts,.cons (Th.dv e) d,by rw [List.length_cons,List.length_cons,l],fun y hy=>(List.mem_cons.mp hy).elim (fun e=>by rw [e];exact w) (g y)⟩
theorem jE {H:Hp}:∀{xs:List V},All CE H xs→∃cs:Ps,PairsAt H xs (aE cs)∧cs.length=xs.length∧∀p∈cs,Mk p.1
 | [],_=>⟨[],.nil,rfl,(fun _ h=>nomatch h)⟩
 | x::xs,h=>by
  obtain ⟨c,z,n,rfl,e,w⟩:=h x (.head _)
  obtain ⟨cs,d,l,g⟩:=jE fun y hy=>h y (.tail _ hy)
  exact ⟨(z,n)::cs,.cons e d,by rw [List.length_cons,List.length_cons,l],fun y hy=>(List.mem_cons.mp hy).elim (fun e=>by rw [e];exact w) (g y)⟩
theorem oK {H:Hp}:∀{xs:List V},All BE H xs→∃bs:List Bn,BnsAt H xs bs∧bs.length=xs.length∧∀b∈bs,BnK b
 | [],_=>⟨[],.nil,rfl,(fun _ h=>nomatch h)⟩
 | x::xs,h=>by
  obtain ⟨c,m,b,rfl,e,e2,w⟩:=h x (.head _)
  obtain ⟨bs,d,l,g⟩:=oK fun y hy=>h y (.tail _ hy)
  exact ⟨b::bs,.cons e e2 d,by rw [List.length_cons,List.length_cons,l],fun y hy=>(List.mem_cons.mp hy).elim (fun e=>by rw [e];exact w) (g y)⟩
theorem Xi (xs:List V) (lo hi:Option Int):(bd xs lo hi).length≤xs.length:=Vp xs lo hi
def SG (n:Nat) (H:Hp) (r:Addr):Prop:=∃xs,H r=some (.lst xs)∧All TE H xs∧xs.length≤n
def TG (H:Hp) (q:Addr):Prop:=∃(c:Addr) (rows:List V) (room lt tot:Int),H q=some (.tup [.int room,.ref c,.int lt,.int tot])∧H c=some (.tup rows)∧All CE H rows∧rows.length<60
def PG (n:Nat) (H:Hp) (p:Addr):Prop:=∃xs,H p=some (.lst xs)∧All BE H xs∧xs.length≤n
theorem SG.mono {n:Nat} {H H':Hp} {r:Addr} (h:SG n H r) (g:Same H H'):SG n H' r:=let ⟨xs,e,a,l⟩:=h;⟨xs,g _ _ e,a.mono g,l⟩
theorem PG.mono {n:Nat} {H H':Hp} {r:Addr} (h:PG n H r) (g:Same H H'):PG n H' r:=let ⟨xs,e,a,l⟩:=h;⟨xs,g _ _ e,a.mono g,l⟩
theorem TG.mono {H H':Hp} {q:Addr} (h:TG H q) (g:Same H H'):TG H' q:=let ⟨c,rows,r,l,t,e,e2,a,n⟩:=h;⟨c,rows,r,l,t,g _ _ e,g _ _ e2,a.mono g,n⟩
theorem SG.dv {n:Nat} {H:Hp} {r:Addr} (h:SG n H r) (l:n≤1000):∃ts,DV H (.ref r) (dG ts)∧GoodS ts:=by
 obtain ⟨xs,e,a,k⟩:=h
 obtain ⟨ts,d,l2,w⟩:=qY a
 exact ⟨ts,.lst e d,by omega,w⟩
theorem TG.dv {H:Hp} {q:Addr} (h:TG H q):∃t,DV H (.ref q) (Ty.D t)∧GoodT t:=by
 obtain ⟨c,rows,r,l,t,e,e2,a,k⟩:=h
 obtain ⟨cs,pa,l2,w⟩:=jE a
 exact ⟨⟨r,cs,l,t⟩,Ty.dv e e2 pa,w,by show cs.length<60;omega⟩
theorem PG.at {n:Nat} {H:Hp} {p:Addr} (h:PG n H p) (l:n≤3000):∃bs,PapAt H p bs∧GoodP bs:=by
 obtain ⟨xs,e,a,k⟩:=h
 obtain ⟨bs,d,l2,w⟩:=oK a
 exact ⟨bs,⟨xs,e,d⟩,by omega,w⟩
theorem Xn {H:Hp} {a l x:Addr} {o:HO} (n:x≠l):aA a (upd H l o) x=aA a H x:=by
 by_cases e:x=a
 ·subst e
  unfold aA
  rw [if_pos rfl,if_pos rfl]
 ·rw [Ym e,Ym e,Zl n]
theorem pj {H:Hp} {a l:Addr} {ys:List V} {o:HO} (e:aA a H l=some (.lst ys)):TSt (aA a H) (aA a (upd H l o)):=fun b xs h=>by
 have n:b≠l:=fun z=>by rw [z,e] at h;cases h
 rw [Xn n]
 exact h
theorem pA (xs:List V) {k:Nat} (h:k<xs.length):(bd xs none (some (k:Int))).length+(bd xs (some ((k:Int)+1)) none).length+1=xs.length:=by
 rw [sr,show ((k:Int)+1)=((k+1:Nat):Int) by omega,fW,List.length_take,List.length_drop]
 omega
theorem mO:PyData.strOk "eaj"=true∧PyData.strOk "a"=true:=by decide +kernel
def ur:Sp:=fun vs H Q _=>∃(a r:Addr),vs=[.ref a,.ref r]∧PenAt H a∧SG 500 (aA a H) r∧∀(l:Addr) (H':Hp),SG 1000 (aA a H') l→PenAt H' a→Grw a H H'→Q (.ref l) H'
section
variable {P:Program} {w:World} {K:W.Frag} {mg:Str→Option Value} {base:Heap} {f:Addr} {fd:FuncData}
theorem um (aD:mg "len"=none) (ai:Has P w K mg base "_law_draw" 1 ["_law_pen_here","_law_size"] bN)
  (F:Fun K "_law_bent_stream" "_law_bent_stream" aO f fd):FnOk P w K mg base CX0 2 f fd ["_law_pen_here","_law_stream_here"] ur:=by
 refine F.ok Yg (fun vs H Q E h=>?_) (fun cdv A outer s H vs Q E hr h=>?_)
 ·obtain ⟨a,r,rfl,_⟩:=h
  rfl
 obtain ⟨a,r,rfl,hp,k_s,hq⟩:=h
 refine ⟨_,(@Z3 _ _ _ _ _ (@Yc _ _ _ _ _ _ _ _ (@Zm _ _ _ _ _ _ _ _ (Oh hr.units) (pv 1) (@Y4 _ _ _ _ Z1) (Zk _)) (@Z9 _ _ _ (@Zg _ _ _ _ (@Y4 _ _ _ _ (@Z0 _ _ _ _ _ (@Zh _ _ _ _ _ (@Z0 _ _ _ _ _ Z2 (@Z0 _ _ _ _ _ V5 (@Z0 _ _ _ _ _ Z2 (@Z0 _ _ _ _ _ Z2 Z1 (by rfl)) (by rfl)) (by rfl)) (by rfl))) Z1 (by rfl))))) Zu)
 (@Z3 _ _ _ _ _ (@Zj _ _ 2 _ _ _ _ Yg.nd rfl (Or.inl rfl) (Z7 ai hr (@Z0 _ _ _ _ _ (pv 0) (@Z0 _ _ _ _ _ (Zd Zo rfl aD PySem.boot_len (@Z0 _ _ _ _ _ (pv 1) Z1 (by rfl))) Z1 (by rfl)) (by rfl))) (by rfl) (by first | exact .inl rfl | exact .inr rfl))
 (@Z3 _ _ _ _ _ (X7 (@Y0 _ _ _ _ _ _ _ Yb (pv 1) (pv 2) (fun _ _=>rfl)) (Yq rfl (Z6 (Z5 (i:=3) Yg.nd rfl (Or.inl rfl)) (Z6 (Z5 (i:=4) Yg.nd rfl (Or.inl rfl)) (Z6 (Z5 (i:=5) Yg.nd rfl (Or.inl rfl)) (Z6 (Z5 (i:=6) Yg.nd rfl (Or.inl rfl)) Zx))))))
 (@Z3 _ _ _ _ _ (@Zj _ _ 7 _ _ _ _ Yg.nd rfl (Or.inl rfl) (@Y4 _ _ _ _ (@Z0 _ _ _ _ _ (@Za _ _ _ _ _ _ _ _ Yk (Zr X9 (pv 1) Zz (Zt (pv 2))) (Zr X9 (pv 1) (Zt (@Za _ _ _ _ _ _ _ _ Zp (pv 2) Z2)) Zz)) (@Z0 _ _ _ _ _ (@Za _ _ _ _ _ _ _ _ Yk (pv 1) (Zr X9 (pv 1) (Zt (pv 2)) (Zt (@Za _ _ _ _ _ _ _ _ Zp (pv 2) Z2)))) (@Z0 _ _ _ _ _ (@Za _ _ _ _ _ _ _ _ Yk (Zr X9 (pv 1) Zz (Zt (pv 2))) (@Y4 _ _ _ _ (@Z0 _ _ _ _ _ (@Zh _ _ _ _ _ (@Z0 _ _ _ _ _ (pv 3) (@Z0 _ _ _ _ _ V5 (@Z0 _ _ _ _ _ (pv 5) (@Z0 _ _ _ _ _ (pv 6) Z1 (by rfl)) (by rfl)) (by rfl)) (by rfl))) Z1 (by rfl)))) Z1 (by rfl)) (by rfl)) (by rfl))) (by rfl) (by first | exact .inl rfl | exact .inr rfl))
 (@Z3 _ _ _ _ _ (X7 (@Za _ _ _ _ _ _ _ _ Yk (@Y0 _ _ _ _ _ _ _ Yb (pv 7) Z2 (fun _ _=>rfl)) (Zr X9 (pv 1) (Zt (@Za _ _ _ _ _ _ _ _ Zp (pv 2) Z2)) Zz)) (gO (pv 7) Z2 Rf))
 (@Z9 _ _ _ (@Zg _ _ _ _ (@Y0 _ _ _ _ _ _ _ Yb (@Za _ _ _ _ _ _ _ _ Yk (pv 7) (@Y4 _ _ _ _ (@Z0 _ _ _ _ _ (gI (pv 1) (@U2 _ _ _ _ _ _ Wt Z2)) (@Z0 _ _ _ _ _ (@Za _ _ _ _ _ _ _ _ Yk (pv 1) (@Y4 _ _ _ _ (@Z0 _ _ _ _ _ (@Zh _ _ _ _ _ (@Z0 _ _ _ _ _ (@Za _ _ _ _ _ _ _ _ Zp (pv 3) Z2) (@Z0 _ _ _ _ _ (pv 4) (@Z0 _ _ _ _ _ (pv 5) (@Z0 _ _ _ _ _ Z2 Z1 (by rfl)) (by rfl)) (by rfl)) (by rfl))) Z1 (by rfl)))) Z1 (by rfl)) (by rfl)))) (Z7 ai hr (@Z0 _ _ _ _ _ (pv 0) (@Z0 _ _ _ _ _ Z2 Z1 (by rfl)) (by rfl))) (fun _ _=>rfl))))))))),?_⟩
 have gg:Grw a H H:=Same.refl _
 obtain ⟨ts,d_s,gs⟩:=k_s.dv (by decide)
 obtain ⟨xs,e_r,k_x,xl⟩:=k_s
 refine ⟨_,rfl,leN rfl,?_⟩
 skip
 intro z0 t7
 generalize hz:upd _ z0 _=H1
 have hw:=Z8 hz t7 hp
 have hp:=hw.1
 have gz:=hw.2.1
 have ne_z0:=hw.2.2.1
 have oy:=hw.2.2.2
 clear hw hz
 have gg:=gg.trans gz
 have e_r:=gz _ _ e_r
 have k_x:=k_x.mono gz
 have d_s:=d_s.mono gz
 refine ⟨_,_,d_s.mono Y8,.lst (Z4 oy).2 .nil,X5 (Qv gs) (by decide),by decide,_,rfl,?_⟩
 rw [Ot]
 have emp:(ts.map Th.D).isEmpty=xs.isEmpty:=by
  obtain ⟨_,ys,e0,ey,dy⟩:=DV.list_inv d_s
  cases e0
  rw [e_r] at ey
  cases ey
  have:=dy.length
  cases ts <;> cases xs <;> first | rfl | (simp at this)
 rw [emp]
 refine Yu (fun c=>?_) (fun c=>?_)
 ·refine ⟨leN rfl,?_⟩
  intro q1 dX
  generalize hz:upd _ q1 _=H2
  have hw:=Z8 hz dX hp
  have hp:=hw.1
  have gz:=hw.2.1
  have ne_q1:=hw.2.2.1
  have aB:=hw.2.2.2
  clear hw hz
  have gg:=gg.trans gz
  have e_r:=gz _ _ e_r
  have k_x:=k_x.mono gz
  have d_s:=d_s.mono gz
  have oy:=gz _ _ oy
  refine ⟨leN rfl,?_⟩
  skip
  intro q2 de
  generalize hz:upd _ q2 _=H3
  have hw:=Z8 hz de hp
  have hp:=hw.1
  have gz:=hw.2.1
  have ne_q2:=hw.2.2.1
  have bj:=hw.2.2.2
  clear hw hz
  have gg:=gg.trans gz
  have aB:=gz _ _ aB
  exact hq q2 _ ⟨_,bj,All.one ⟨q1,⟨0,"a",0,1⟩,rfl,aB,mO.2⟩,leN rfl⟩ hp gg
 have xpos:0<xs.length:=by
  cases xs with
  | nil=>exact absurd rfl c
  | cons _ _=>simp
 refine ⟨_,rfl,_,rfl,r,xs,rfl,.inl (Xu e_r),a,_,rfl,hp,by omega,by omega,fun at1 H2 x0 x1 hp gz=>?_⟩
 skip
 have gg:=gg.trans gz
 have e_r:=gz _ _ e_r
 have k_x:=k_x.mono gz
 obtain ⟨k,rfl⟩:=Int.eq_ofNat_of_zero_le x0
 have kl:k<xs.length:=by have x1:(k:Int)<(xs.length:Int):=x1;omega
 obtain ⟨v,hv⟩:∃v,xs[k]?=some v:=⟨xs[k],List.getElem?_eq_getElem kl⟩
 obtain ⟨c,th,rfl,e_c,w1⟩:=k_x v (List.mem_of_getElem? hv)
 refine ⟨_,rfl,_,rfl,r,_,_,_,rfl,rfl,Xu e_r,Vb hv,c,_,rfl,Rw e_c,rfl,_,_,rfl,_,_,rfl,_,_,rfl,_,_,rfl,rfl,?_⟩
 dsimp only
 have cl:=fun lo hi=>Xi xs lo hi
 refine ⟨_,rfl,_,rfl,_,rfl,r,xs,rfl,Xu e_r,?_⟩
 intro p1 iY
 generalize hz:upd _ p1 _=H3
 have hw:=Z8 hz iY hp
 have hp:=hw.1
 have gz:=hw.2.1
 have ne_p1:=hw.2.2.1
 have di:=hw.2.2.2
 clear hw hz
 have gg:=gg.trans gz
 have e_r:=gz _ _ e_r
 have k_x:=k_x.mono gz
 refine ⟨_,rfl,_,rfl,_,_,rfl,rfl,_,rfl,r,xs,rfl,Xu e_r,?_⟩
 intro p2 sW
 generalize hz:upd _ p2 _=H4
 have hw:=Z8 hz sW hp
 have hp:=hw.1
 have gz:=hw.2.1
 have ne_p2:=hw.2.2.1
 have rj:=hw.2.2.2
 clear hw hz
 have gg:=gg.trans gz
 have e_r:=gz _ _ e_r
 have k_x:=k_x.mono gz
 have di:=gz _ _ di
 refine ⟨p1,p2,_,_,rfl,rfl,(Z4 di).2,(Z4 rj).2,Zb (Nat.le_trans (Nat.add_le_add (cl _ _) (cl _ _)) (by omega)),?_⟩
 skip
 intro s1 n_s1
 generalize hz:upd _ s1 _=H5
 have hw:=Z8 hz n_s1 hp
 have hp:=hw.1
 have gz:=hw.2.1
 have ne_s1:=hw.2.2.1
 have ag:=hw.2.2.2
 clear hw hz
 have gg:=gg.trans gz
 have e_r:=gz _ _ e_r
 have k_x:=k_x.mono gz
 refine ⟨_,rfl,_,rfl,_,rfl,_,rfl,_,rfl,_,_,rfl,rfl,_,rfl,r,xs,rfl,Xu e_r,?_⟩
 intro p3 tI
 generalize hz:upd _ p3 _=H6
 have hw:=Z8 hz tI hp
 have hp:=hw.1
 have gz:=hw.2.1
 have ne_p3:=hw.2.2.1
 have sA:=hw.2.2.2
 clear hw hz
 have gg:=gg.trans gz
 have e_r:=gz _ _ e_r
 have k_x:=k_x.mono gz
 have ag:=gz _ _ ag
 refine ⟨r,p3,_,_,rfl,rfl,(Z4 e_r).2,(Z4 sA).2,Zb (Nat.le_trans (Nat.add_le_add_left (cl _ _) _) (by omega)),?_⟩
 skip
 intro s2 n_s2
 generalize hz:upd _ s2 _=H7
 have hw:=Z8 hz n_s2 hp
 have hp:=hw.1
 have gz:=hw.2.1
 have ne_s2:=hw.2.2.1
 have ak:=hw.2.2.2
 clear hw hz
 have gg:=gg.trans gz
 have e_r:=gz _ _ e_r
 have k_x:=k_x.mono gz
 have ag:=gz _ _ ag
 refine ⟨_,rfl,_,rfl,_,rfl,r,xs,rfl,Xu e_r,?_⟩
 intro p4 n_p4
 generalize hz:upd _ p4 _=H8
 have hw:=Z8 hz n_p4 hp
 have hp:=hw.1
 have gz:=hw.2.1
 have ne_p4:=hw.2.2.1
 have mC:=hw.2.2.2
 clear hw hz
 have gg:=gg.trans gz
 have e_r:=gz _ _ e_r
 have k_x:=k_x.mono gz
 have ag:=gz _ _ ag
 have ak:=gz _ _ ak
 refine ⟨_,rfl,_,rfl,_,rfl,leN rfl,?_⟩
 intro t1 nI
 generalize hz:upd _ t1 _=H9
 have hw:=Z8 hz nI hp
 have hp:=hw.1
 have gz:=hw.2.1
 have ne_t1:=hw.2.2.1
 have aG:=hw.2.2.2
 clear hw hz
 have gg:=gg.trans gz
 have e_r:=gz _ _ e_r
 have k_x:=k_x.mono gz
 have ag:=gz _ _ ag
 have ak:=gz _ _ ak
 have mC:=gz _ _ mC
 refine ⟨leN rfl,?_⟩
 intro p5 n_p5
 generalize hz:upd _ p5 _=H10
 have hw:=Z8 hz n_p5 hp
 have hp:=hw.1
 have gz:=hw.2.1
 have ne_p5:=hw.2.2.1
 have e_p5:=hw.2.2.2
 clear hw hz
 have gg:=gg.trans gz
 have e_r:=gz _ _ e_r
 have k_x:=k_x.mono gz
 have ag:=gz _ _ ag
 have ak:=gz _ _ ak
 have mC:=gz _ _ mC
 have aG:=gz _ _ aG
 refine ⟨p4,p5,_,_,rfl,rfl,(Z4 mC).2,(Z4 e_p5).2,Zb (Nat.le_trans (Nat.add_le_add_right (cl _ _) _) (by show _+1≤_;omega)),?_⟩
 skip
 intro s3 lH
 generalize hz:upd _ s3 _=H11
 have hw:=Z8 hz lH hp
 have hp:=hw.1
 have gz:=hw.2.1
 have ne_s3:=hw.2.2.1
 have aw:=hw.2.2.2
 clear hw hz
 have gg:=gg.trans gz
 have e_r:=gz _ _ e_r
 have k_x:=k_x.mono gz
 have ag:=gz _ _ ag
 have ak:=gz _ _ ak
 have aG:=gz _ _ aG
 refine ⟨leN rfl,?_⟩
 have gg0:=gg
 have sne:∀{x:Addr} {o:HO},aA a H11 x=some o→∀{y:Addr},H11 y=none→x≠y:=fun e _ n=>Zs (Z4 e).2 n
 have r11:=e_r
 have s1_11:=ag
 have s2_11:=ak
 intro L n_L
 generalize hz:upd _ L _=H12
 have hw:=Z8 hz n_L hp
 have hp:=hw.1
 have gz:=hw.2.1
 have ne_L:=hw.2.2.1
 have e_L:=hw.2.2.2
 clear hw hz
 have gg:=gg.trans gz
 have e_r:=gz _ _ e_r
 have k_x:=k_x.mono gz
 have ag:=gz _ _ ag
 have ak:=gz _ _ ak
 have aG:=gz _ _ aG
 have aw:=gz _ _ aw
 have neL:=sne r11 n_L
 have ne1:=sne s1_11 n_L
 have ne2:=sne s2_11 n_L
 dsimp only
 refine ⟨_,rfl,L,_,_,_,rfl,rfl,Xu e_L,rfl,_,rfl,_,rfl,_,_,rfl,rfl,_,rfl,r,xs,rfl,Xu e_r,?_⟩
 intro p6 n_p6
 generalize hz:upd _ p6 _=H13
 have hw:=Z8 hz n_p6 hp
 have hp:=hw.1
 have gz:=hw.2.1
 have ne_p6:=hw.2.2.1
 have tD:=hw.2.2.2
 clear hw hz
 have gg:=gg.trans gz
 have e_r:=gz _ _ e_r
 have k_x:=k_x.mono gz
 have ag:=gz _ _ ag
 have ak:=gz _ _ ak
 have aG:=gz _ _ aG
 have aw:=gz _ _ aw
 have e_L:=gz _ _ e_L
 refine ⟨s3,p6,_,_,rfl,rfl,(Z4 aw).2,(Z4 tD).2,Zb (by rw [List.length_append];exact Nat.le_trans (Nat.add_le_add (Nat.add_le_add_right (cl _ _) _) (cl _ _)) (by show _+1+_≤_;omega)),?_⟩
 have L13:=(Z4 e_L).2
 intro s4 ux
 generalize hz:upd _ s4 _=H14
 have hw:=Z8 hz ux hp
 have hp:=hw.1
 have gz:=hw.2.1
 have ne_s4:=hw.2.2.1
 have av:=hw.2.2.2
 clear hw hz
 have gg:=gg.trans gz
 have e_r:=gz _ _ e_r
 have k_x:=k_x.mono gz
 have ag:=gz _ _ ag
 have ak:=gz _ _ ak
 have aG:=gz _ _ aG
 have aw:=gz _ _ aw
 have e_L:=gz _ _ e_L
 have tD:=gz _ _ tD
 have ne4:=(Zs L13 ux).symm
 have nL:aA a H L=none:=mh gg0 n_L
 refine ⟨_,rfl,L,_,2,2,rfl,rfl,(Z4 e_L).2,rfl,?_⟩
 have LA:=(Z4 e_L).1
 have gg:=o0 (o:=.lst [.ref s1,.ref s2,.ref s4]) gg nL
 have hp:=hp.put (o:=.lst [.ref s1,.ref s2,.ref s4]) LA
 have ts0:=pj (o:=.lst [.ref s1,.ref s2,.ref s4]) e_L
 have k_x:=k_x.st ts0
 have aG:=ts0 _ _ aG
 have e_r:=(Xn (o:=.lst [.ref s1,.ref s2,.ref s4]) neL).trans e_r
 have ag:=(Xn (o:=.lst [.ref s1,.ref s2,.ref s4]) ne1).trans ag
 have ak:=(Xn (o:=.lst [.ref s1,.ref s2,.ref s4]) ne2).trans ak
 have av:=(Xn (o:=.lst [.ref s1,.ref s2,.ref s4]) ne4).trans av
 have e_L:aA a (upd H14 L (.lst [.ref s1,.ref s2,.ref s4])) L=some (.lst [.ref s1,.ref s2,.ref s4]):=nX LA
 dsimp only [List.set_cons_succ,List.set_cons_zero]
 generalize upd H14 L (.lst [.ref s1,.ref s2,.ref s4])=H15 at hp gg k_x aG e_r ag ak av e_L ⊢
 refine ⟨_,rfl,_,rfl,_,rfl,r,xs,rfl,rfl,Xu e_r,?_⟩
 skip
 intro s5 n_s5
 generalize hz:upd _ s5 _=H16
 have hw:=Z8 hz n_s5 hp
 have hp:=hw.1
 have gz:=hw.2.1
 have ne_s5:=hw.2.2.1
 have ck:=hw.2.2.2
 clear hw hz
 have gg:=gg.trans gz
 have k_x:=k_x.mono gz
 have aG:=gz _ _ aG
 have e_r:=gz _ _ e_r
 have ag:=gz _ _ ag
 have ak:=gz _ _ ak
 have av:=gz _ _ av
 have e_L:=gz _ _ e_L
 refine ⟨_,rfl,_,rfl,_,_,rfl,rfl,_,rfl,_,rfl,leN rfl,?_⟩
 intro t2 n_
 generalize hz:upd _ t2 _=H17
 have hw:=Z8 hz n_ hp
 have hp:=hw.1
 have gz:=hw.2.1
 have ne_t2:=hw.2.2.1
 have bq:=hw.2.2.2
 clear hw hz
 have gg:=gg.trans gz
 have k_x:=k_x.mono gz
 have aG:=gz _ _ aG
 have e_r:=gz _ _ e_r
 have ag:=gz _ _ ag
 have ak:=gz _ _ ak
 have av:=gz _ _ av
 have e_L:=gz _ _ e_L
 have ck:=gz _ _ ck
 refine ⟨leN rfl,?_⟩
 intro p7 n_p7
 generalize hz:upd _ p7 _=H18
 have hw:=Z8 hz n_p7 hp
 have hp:=hw.1
 have gz:=hw.2.1
 have ne_p7:=hw.2.2.1
 have eU:=hw.2.2.2
 clear hw hz
 have gg:=gg.trans gz
 have k_x:=k_x.mono gz
 have aG:=gz _ _ aG
 have e_r:=gz _ _ e_r
 have ag:=gz _ _ ag
 have ak:=gz _ _ ak
 have av:=gz _ _ av
 have e_L:=gz _ _ e_L
 have ck:=gz _ _ ck
 have bq:=gz _ _ bq
 refine ⟨r,p7,_,_,rfl,rfl,(Z4 e_r).2,(Z4 eU).2,Zb (by show _+1≤_;omega),?_⟩
 intro s6 n_s6
 generalize hz:upd _ s6 _=H19
 have hw:=Z8 hz n_s6 hp
 have hp:=hw.1
 have gz:=hw.2.1
 have ne_s6:=hw.2.2.1
 have iI:=hw.2.2.2
 clear hw hz
 have gg:=gg.trans gz
 have k_x:=k_x.mono gz
 have aG:=gz _ _ aG
 have e_r:=gz _ _ e_r
 have ag:=gz _ _ ag
 have ak:=gz _ _ ak
 have av:=gz _ _ av
 have e_L:=gz _ _ e_L
 have ck:=gz _ _ ck
 have bq:=gz _ _ bq
 have eU:=gz _ _ eU
 refine ⟨leN rfl,?_⟩
 intro M n_M
 generalize hz:upd _ M _=H20
 have hw:=Z8 hz n_M hp
 have hp:=hw.1
 have gz:=hw.2.1
 have ne_M:=hw.2.2.1
 have e_M:=hw.2.2.2
 clear hw hz
 have gg:=gg.trans gz
 have k_x:=k_x.mono gz
 have aG:=gz _ _ aG
 have e_r:=gz _ _ e_r
 have ag:=gz _ _ ag
 have ak:=gz _ _ ak
 have av:=gz _ _ av
 have e_L:=gz _ _ e_L
 have ck:=gz _ _ ck
 have bq:=gz _ _ bq
 have eU:=gz _ _ eU
 have iI:=gz _ _ iI
 refine ⟨L,M,_,_,rfl,rfl,(Z4 e_L).2,(Z4 e_M).2,leN rfl,?_⟩
 intro N n_N
 generalize hz:upd _ N _=H21
 have hw:=Z8 hz n_N hp
 have hp:=hw.1
 have gz:=hw.2.1
 have ne_N:=hw.2.2.1
 have e_N:=hw.2.2.2
 clear hw hz
 have gg:=gg.trans gz
 have k_x:=k_x.mono gz
 have aG:=gz _ _ aG
 have e_r:=gz _ _ e_r
 have ag:=gz _ _ ag
 have ak:=gz _ _ ak
 have av:=gz _ _ av
 have e_L:=gz _ _ e_L
 have ck:=gz _ _ ck
 have bq:=gz _ _ bq
 have eU:=gz _ _ eU
 have iI:=gz _ _ iI
 have e_M:=gz _ _ e_M
 refine ⟨_,rfl,a,5,rfl,hp,Xg rfl,ltI rfl,fun dd H22 dd0 dd1 hp gz=>?_⟩
 have gg:=gg.trans gz
 have k_x:=k_x.mono gz
 have aG:=gz _ _ aG
 have e_r:=gz _ _ e_r
 have ag:=gz _ _ ag
 have ak:=gz _ _ ak
 have av:=gz _ _ av
 have e_L:=gz _ _ e_L
 have ck:=gz _ _ ck
 have bq:=gz _ _ bq
 have eU:=gz _ _ eU
 have iI:=gz _ _ iI
 have e_M:=gz _ _ e_M
 have e_N:=gz _ _ e_N
 obtain ⟨v,hv,mv⟩:=nE e_N dd0 dd1
 refine ⟨N,_,_,v,rfl,rfl,Xu e_N,hv,?_⟩
 have T1:TE (aA a H22) (.ref t1):=⟨t1,⟨th.day,"eaj",th.num,th.many⟩,rfl,aG,mO.1⟩
 have T2:TE (aA a H22) (.ref t2):=⟨t2,⟨th.day+1,th.word,th.num,1⟩,rfl,bq,w1⟩
 have c500:=fun lo hi=>Nat.le_trans (cl lo hi) xl
 have fin:∀{l:Addr} {ys:List V},aA a H22 l=some (.lst ys)→All TE (aA a H22) ys→ys.length≤1000→Q (.ref l) H22:=fun e al le=>hq _ _ ⟨_,e,al,le⟩ hp gg
 simp only [List.cons_append,List.nil_append,List.mem_cons,List.not_mem_nil,or_false] at mv
 rcases mv with rfl | rfl | rfl | rfl | rfl
 ·exact fin ag ((k_x.cut _ _).app (k_x.cut _ _)) (by rw [List.length_append];exact Nat.add_le_add (c500 _ _) (c500 _ _))
 ·exact fin ak (k_x.app (k_x.cut _ _)) (by rw [List.length_append];exact Nat.add_le_add xl (c500 _ _))
 ·exact fin av (((k_x.cut _ _).app (All.one T1)).app (k_x.cut _ _)) (by
   rw [List.length_append,List.length_append]
   have h1:=pA xs (k:=k) kl
   show _+1+_≤1000
   omega)
 ·exact fin ck k_x.rev (by rw [List.length_reverse];omega)
 ·exact fin iI (k_x.app (All.one T2)) (by rw [List.length_append];show _+1≤1000;omega)
end
theorem hE:Mk "eeq"∧Mk "eeeq"∧Mk "eaaaq":=⟨⟨by decide +kernel,by decide +kernel⟩,⟨by decide +kernel,by decide +kernel⟩,⟨by decide +kernel,by decide +kernel⟩⟩
theorem oE {ps:Ps} (h:∀p∈ps,PyData.strOk p.1=true):(PyData.tuple (ps.map pD)).canLay0=true∧(PyData.tuple (ps.map pD)).depth≤2:=by
 have q:=rK (ps:=ps) h
 simp only [PyData.canLay0,PyData.depth] at q ⊢
 exact q
def TG0 (n:Nat) (H:Hp) (q:Addr):Prop:=∃(c:Addr) (rows:List V) (room lt tot:Int),H q=some (.tup [.int room,.ref c,.int lt,.int tot])∧H c=some (.tup rows)∧All CE H rows∧rows.length≤n
def uc:Sp:=fun vs H Q _=>∃(a q:Addr) (way:Int),vs=[.ref a,.ref q,.int way]∧PenAt H a∧TG0 20 (aA a H) q∧∀(l:Addr) (H':Hp),TG (aA a H') l→PenAt H' a→Grw a H H'→Q (.ref l) H'
section
variable {P:Program} {w:World} {K:W.Frag} {mg:Str→Option Value} {base:Heap} {f:Addr} {fd:FuncData}
theorem uB (aD:mg "len"=none) (jy:mg "max"=none) (ai:Has P w K mg base "_law_draw" 1 ["_law_pen_here","_law_size"] bN)
  (F:Fun K "_law_bent_tally" "_law_bent_tally" aS f fd):FnOk P w K mg base CX0 2 f fd ["_law_pen_here","_law_tally","_law_way"] uc:=by
 refine F.ok Zy (fun vs H Q E h=>?_) (fun cdv A outer s H vs Q E hr h=>?_)
 ·obtain ⟨a,q,way,rfl,_⟩:=h
  rfl
 obtain ⟨a,q,way,rfl,hp,⟨cb,rows,room,lt,tot,e_q,e_b,k_r,rl⟩,hq⟩:=h
 refine ⟨_,(@Z3 _ _ _ _ _ (X7 (pv 1) (Yq rfl (Z6 (Z5 (i:=3) Zy.nd rfl (Or.inl rfl)) (Z6 (Z5 (i:=4) Zy.nd rfl (Or.inl rfl)) (Z6 (Z5 (i:=5) Zy.nd rfl (Or.inl rfl)) (Z6 (Z5 (i:=6) Zy.nd rfl (Or.inl rfl)) Zx))))))
 (@Z3 _ _ _ _ _ (@Zj _ _ 7 _ _ _ _ Zy.nd rfl (Or.inl rfl) (@Y0 _ _ _ _ _ _ _ Yb (@Y4 _ _ _ _ (@Z0 _ _ _ _ _ Z2 (@Z0 _ _ _ _ _ (@U2 _ _ _ _ _ _ Wt Z2) (@Z0 _ _ _ _ _ Z2 Z1 (by rfl)) (by rfl)) (by rfl))) (Z7 ai hr (@Z0 _ _ _ _ _ (pv 0) (@Z0 _ _ _ _ _ Z2 Z1 (by rfl)) (by rfl))) (fun _ _=>rfl)) (by rfl) (by first | exact .inl rfl | exact .inr rfl))
 (@Z3 _ _ _ _ _ (@Yc _ _ _ _ _ _ _ _ (@Zm _ _ _ _ _ _ _ _ Wr (pv 2) Z2 (Zk _)) (@Z9 _ _ _ (@Zg _ _ _ _ (@Zh _ _ _ _ _ (@Z0 _ _ _ _ _ (pv 3) (@Z0 _ _ _ _ _ (pv 4) (@Z0 _ _ _ _ _ (@Za _ _ _ _ _ _ _ _ Zp (pv 5) (pv 7)) (@Z0 _ _ _ _ _ (pv 6) Z1 (by rfl)) (by rfl)) (by rfl)) (by rfl))))) Zu)
 (@Z3 _ _ _ _ _ (@Yc _ _ _ _ _ _ _ _ (@Zm _ _ _ _ _ _ _ _ Wr (pv 2) Z2 (Zk _)) (@Z9 _ _ _ (@Zg _ _ _ _ (@Zh _ _ _ _ _ (@Z0 _ _ _ _ _ (pv 3) (@Z0 _ _ _ _ _ (pv 4) (@Z0 _ _ _ _ _ (pv 5) (@Z0 _ _ _ _ _ (@Za _ _ _ _ _ _ _ _ Zp (pv 6) (pv 7)) Z1 (by rfl)) (by rfl)) (by rfl)) (by rfl))))) Zu)
 (@Z3 _ _ _ _ _ (@Yc _ _ _ _ _ _ _ _ (@Zm _ _ _ _ _ _ _ _ Wr (pv 2) Z2 (Zk _)) (@Z9 _ _ _ (@Zg _ _ _ _ (@Zh _ _ _ _ _ (@Z0 _ _ _ _ _ (@Za _ _ _ _ _ _ _ _ Xq (Zd (kt rfl) rfl jy PyProof.Rows.boot_max (@Z0 _ _ _ _ _ Z2 (@Z0 _ _ _ _ _ (Zd Zo rfl aD PySem.boot_len (@Z0 _ _ _ _ _ (pv 4) Z1 (by rfl))) (@Z0 _ _ _ _ _ (@Za _ _ _ _ _ _ _ _ Zp (pv 3) (pv 7)) Z1 (by rfl)) (by rfl)) (by rfl))) Z2) (@Z0 _ _ _ _ _ (pv 4) (@Z0 _ _ _ _ _ (pv 5) (@Z0 _ _ _ _ _ (pv 6) Z1 (by rfl)) (by rfl)) (by rfl)) (by rfl))))) Zu)
 (@Z3 _ _ _ _ _ (@Yc _ _ _ _ _ _ _ _ (@Zm _ _ _ _ _ _ _ _ (Oh hr.units) (pv 4) (@Zh _ _ _ _ _ Z1) (Zk _)) (@Z9 _ _ _ (@Zg _ _ _ _ (@Zh _ _ _ _ _ (@Z0 _ _ _ _ _ (pv 3) (@Z0 _ _ _ _ _ (@Zh _ _ _ _ _ (@Z0 _ _ _ _ _ (@Zh _ _ _ _ _ (@Z0 _ _ _ _ _ V5 (@Z0 _ _ _ _ _ Z2 Z1 (by rfl)) (by rfl))) Z1 (by rfl))) (@Z0 _ _ _ _ _ (pv 5) (@Z0 _ _ _ _ _ (pv 6) Z1 (by rfl)) (by rfl)) (by rfl)) (by rfl))))) Zu)
 (@Z3 _ _ _ _ _ (@Zj _ _ 8 _ _ _ _ Zy.nd rfl (Or.inl rfl) (Z7 ai hr (@Z0 _ _ _ _ _ (pv 0) (@Z0 _ _ _ _ _ (Zd Zo rfl aD PySem.boot_len (@Z0 _ _ _ _ _ (pv 4) Z1 (by rfl))) Z1 (by rfl)) (by rfl))) (by rfl) (by first | exact .inl rfl | exact .inr rfl))
 (@Z3 _ _ _ _ _ (X7 (@Y0 _ _ _ _ _ _ _ Yl (pv 4) (pv 8) (fun _ _=>rfl)) (Yq rfl (Z6 (Z5 (i:=9) Zy.nd rfl (Or.inl rfl)) (Z6 (Z5 (i:=10) Zy.nd rfl (Or.inl rfl)) Zx))))
 (@Z3 _ _ _ _ _ (@Zj _ _ 11 _ _ _ _ Zy.nd rfl (Or.inl rfl) (@Y4 _ _ _ _ (@Z0 _ _ _ _ _ (@Za _ _ _ _ _ _ _ _ Xa (@Za _ _ _ _ _ _ _ _ Xa (Zr Yj (pv 4) Zz (Zt (pv 8))) (@Zh _ _ _ _ _ (@Z0 _ _ _ _ _ (@Zh _ _ _ _ _ (@Z0 _ _ _ _ _ (pv 9) (@Z0 _ _ _ _ _ (Zd (j4 rfl) rfl jy PyProof.Rows.boot_max (@Z0 _ _ _ _ _ Z2 (@Z0 _ _ _ _ _ (@Za _ _ _ _ _ _ _ _ Zp (pv 10) (pv 7)) Z1 (by rfl)) (by rfl))) Z1 (by rfl)) (by rfl))) Z1 (by rfl)))) (Zr Yj (pv 4) (Zt (@Za _ _ _ _ _ _ _ _ Zp (pv 8) Z2)) Zz)) (@Z0 _ _ _ _ _ (@Za _ _ _ _ _ _ _ _ Xa (Zr Yj (pv 4) Zz (Zt (pv 8))) (Zr Yj (pv 4) (Zt (@Za _ _ _ _ _ _ _ _ Zp (pv 8) Z2)) Zz)) (@Z0 _ _ _ _ _ (Of (pv 4) (@U2 _ _ _ _ _ _ Wt Z2)) Z1 (by rfl)) (by rfl)) (by rfl))) (by rfl) (by first | exact .inl rfl | exact .inr rfl))
 (@Z3 _ _ _ _ _ (@Zj _ _ 11 _ _ _ _ Zy.nd rfl (Or.inl rfl) (@Za _ _ _ _ _ _ _ _ Yk (pv 11) (@Y4 _ _ _ _ (@Z0 _ _ _ _ _ (@Za _ _ _ _ _ _ _ _ Xa (pv 4) (Zr Yj (pv 4) Zz (Zt Z2))) (@Z0 _ _ _ _ _ (@Za _ _ _ _ _ _ _ _ Xa (@Za _ _ _ _ _ _ _ _ Xa (Zr Yj (pv 4) Zz (Zt (pv 8))) (@Zh _ _ _ _ _ (@Z0 _ _ _ _ _ (@Zh _ _ _ _ _ (@Z0 _ _ _ _ _ (pv 9) (@Z0 _ _ _ _ _ Z2 Z1 (by rfl)) (by rfl))) Z1 (by rfl)))) (Zr Yj (pv 4) (Zt (@Za _ _ _ _ _ _ _ _ Zp (pv 8) Z2)) Zz)) Z1 (by rfl)) (by rfl)))) (by rfl) (by first | exact .inl rfl | exact .inr rfl))
 (@Z9 _ _ _ (@Zg _ _ _ _ (@Zh _ _ _ _ _ (@Z0 _ _ _ _ _ (pv 3) (@Z0 _ _ _ _ _ (@Y0 _ _ _ _ _ _ _ Yb (pv 11) (Z7 ai hr (@Z0 _ _ _ _ _ (pv 0) (@Z0 _ _ _ _ _ Z2 Z1 (by rfl)) (by rfl))) (fun _ _=>rfl)) (@Z0 _ _ _ _ _ (pv 5) (@Z0 _ _ _ _ _ (pv 6) Z1 (by rfl)) (by rfl)) (by rfl)) (by rfl))))))))))))))),?_⟩
 have gg:Grw a H H:=Same.refl _
 refine ⟨_,rfl,q,_,rfl,Rw e_q,rfl,_,_,rfl,_,_,rfl,_,_,rfl,_,_,rfl,rfl,?_⟩
 dsimp only
 refine ⟨_,rfl,leN rfl,?_⟩
 skip
 intro l1 lY
 generalize hz:upd _ l1 _=H1
 have hw:=Z8 hz lY hp
 have hp:=hw.1
 have gz:=hw.2.1
 have ne_l1:=hw.2.2.1
 have dN:=hw.2.2.2
 clear hw hz
 have gg:=gg.trans gz
 have e_b:=gz _ _ e_b
 have k_r:=k_r.mono gz
 refine ⟨_,rfl,a,3,rfl,hp,Xg rfl,ltI rfl,fun d H2 d0 d1 hp gz=>?_⟩
 have gg:=gg.trans gz
 have e_b:=gz _ _ e_b
 have k_r:=k_r.mono gz
 have dN:=gz _ _ dN
 obtain ⟨u,hu,mu⟩:=nE dN d0 d1
 obtain ⟨by1,rfl⟩:∃n:Int,u=.int n:=by
  simp only [List.mem_cons,List.not_mem_nil,or_false] at mu
  rcases mu with rfl | rfl | rfl <;> exact ⟨_,rfl⟩
 refine ⟨l1,_,_,_,rfl,rfl,Xu dN,hu,?_⟩
 dsimp only
 skip
 have fin:∀{l c:Addr} {ys:List V} {i j k:Int} {H':Hp},aA a H' l=some (.tup [.int i,.ref c,.int j,.int k])→aA a H' c=some (.tup ys)→All CE (aA a H') ys→ys.length<60→PenAt H' a→Grw a H H'→Q (.ref l) H':=fun e e2 al le hp gg=>hq _ _ ⟨_,_,_,_,_,e,e2,al,le⟩ hp gg
 refine ⟨_,rfl,rfl,_,rfl,Yu (fun c=>?_) (fun c=>?_)⟩
 ·refine ⟨_,rfl,_,rfl,_,rfl,_,rfl,_,_,rfl,rfl,_,rfl,leN rfl,?_⟩
  intro l2 en
  generalize hz:upd _ l2 _=H3
  have hw:=Z8 hz en hp
  have hp:=hw.1
  have gz:=hw.2.1
  have ne_l2:=hw.2.2.1
  have cL:=hw.2.2.2
  clear hw hz
  have gg:=gg.trans gz
  have e_b:=gz _ _ e_b
  have k_r:=k_r.mono gz
  exact fin cL e_b k_r (by omega) hp gg
 refine ⟨_,rfl,rfl,_,rfl,Yu (fun c=>?_) (fun c=>?_)⟩
 ·refine ⟨_,rfl,_,rfl,_,rfl,_,rfl,_,rfl,_,_,rfl,rfl,leN rfl,?_⟩
  skip
  intro l2 en
  generalize hz:upd _ l2 _=H3
  have hw:=Z8 hz en hp
  have hp:=hw.1
  have gz:=hw.2.1
  have ne_l2:=hw.2.2.1
  have cL:=hw.2.2.2
  clear hw hz
  have gg:=gg.trans gz
  have e_b:=gz _ _ e_b
  have k_r:=k_r.mono gz
  exact fin cL e_b k_r (by omega) hp gg
 refine ⟨_,rfl,rfl,_,rfl,Yu (fun c=>?_) (fun c=>?_)⟩
 ·refine ⟨_,rfl,cb,rows,rfl,.inr (Rw e_b),_,rfl,_,rfl,_,_,rfl,rfl,_,_,_,rfl,fun mx=>⟨_,_,rfl,rfl,Xg rfl,_,rfl,_,rfl,_,rfl,leN rfl,?_⟩⟩
  skip
  intro l2 en
  generalize hz:upd _ l2 _=H3
  have hw:=Z8 hz en hp
  have hp:=hw.1
  have gz:=hw.2.1
  have ne_l2:=hw.2.2.1
  have cL:=hw.2.2.2
  clear hw hz
  have gg:=gg.trans gz
  have e_b:=gz _ _ e_b
  have k_r:=k_r.mono gz
  exact fin cL e_b k_r (by omega) hp gg
 obtain ⟨cs,pa,cl,cm⟩:=jE k_r
 refine ⟨_,rfl,leN rfl,?_⟩
 skip
 intro z0 t7
 generalize hz:upd _ z0 _=H3
 have hw:=Z8 hz t7 hp
 have hp:=hw.1
 have gz:=hw.2.1
 have ne_z0:=hw.2.2.1
 have oy:=hw.2.2.2
 clear hw hz
 have gg:=gg.trans gz
 have e_b:=gz _ _ e_b
 have k_r:=k_r.mono gz
 have pa:=pa.mono gz
 refine ⟨_,_,.tup (Z4 e_b).2 (S1 (pa.mono Y8)),.tup (Z4 oy).2 .nil,X5 (oE fun p hp=>(cm p hp).2) (by decide),by decide,_,rfl,?_⟩
 rw [show PyData.eqv (.tuple (cs.map pD)) (.tuple [])=cs.isEmpty by cases cs <;> rfl]
 refine Yu (fun c=>?_) (fun c=>?_)
 ·refine ⟨_,rfl,leN rfl,?_⟩
  skip
  intro l2 en
  generalize hz:upd _ l2 _=H4
  have hw:=Z8 hz en hp
  have hp:=hw.1
  have gz:=hw.2.1
  have ne_l2:=hw.2.2.1
  have cL:=hw.2.2.2
  clear hw hz
  have gg:=gg.trans gz
  refine ⟨leN rfl,?_⟩
  intro l3 ng
  generalize hz:upd _ l3 _=H5
  have hw:=Z8 hz ng hp
  have hp:=hw.1
  have gz:=hw.2.1
  have ne_l3:=hw.2.2.1
  have eW:=hw.2.2.2
  clear hw hz
  have gg:=gg.trans gz
  have cL:=gz _ _ cL
  refine ⟨_,rfl,_,rfl,leN rfl,?_⟩
  intro l4 tU
  generalize hz:upd _ l4 _=H6
  have hw:=Z8 hz tU hp
  have hp:=hw.1
  have gz:=hw.2.1
  have ne_l4:=hw.2.2.1
  have tQ:=hw.2.2.2
  clear hw hz
  have gg:=gg.trans gz
  have cL:=gz _ _ cL
  have eW:=gz _ _ eW
  exact fin tQ eW (All.one ⟨l2,"eeq",1,rfl,cL,hE.1⟩) (leN rfl) hp gg
 have cpos:0<rows.length:=by
  rw [←cl]
  cases cs with
  | nil=>exact absurd rfl c
  | cons _ _=>simp
 refine ⟨_,rfl,_,rfl,cb,rows,rfl,.inr (Rw e_b),a,_,rfl,hp,by omega,by omega,fun at1 H4 x0 x1 hp gz=>?_⟩
 skip
 have gg:=gg.trans gz
 have e_b:=gz _ _ e_b
 have k_r:=k_r.mono gz
 obtain ⟨k,rfl⟩:=Int.eq_ofNat_of_zero_le x0
 have kl:k<rows.length:=by have x1:(k:Int)<(rows.length:Int):=x1;omega
 obtain ⟨v,hv⟩:∃v,rows[k]?=some v:=⟨rows[k],List.getElem?_eq_getElem kl⟩
 obtain ⟨c1,z,n,rfl,h_,mz⟩:=k_r v (List.mem_of_getElem? hv)
 refine ⟨_,rfl,_,rfl,cb,_,_,_,rfl,rfl,Rw e_b,Vb hv,c1,_,rfl,Rw h_,rfl,_,_,rfl,_,_,rfl,rfl,?_⟩
 dsimp only
 have c20:=fun lo hi=>Nat.le_trans (Xi rows lo hi) rl
 refine ⟨_,rfl,_,rfl,_,rfl,cb,rows,rfl,(Z4 e_b).2,?_⟩
 intro t1 J1 gs ez
 have gz:=hp.grw gs
 have hp:=hp.same gs
 have aG:=hp.tup ez
 have gg:=gg.trans gz
 clear gs ez
 have e_b:=gz _ _ e_b
 have k_r:=k_r.mono gz
 refine ⟨_,rfl,_,rfl,_,rfl,_,_,rfl,rfl,_,_,rfl,leN rfl,?_⟩
 intro q1 dX
 generalize hz:upd _ q1 _=J2
 have hw:=Z8 hz dX hp
 have hp:=hw.1
 have gz:=hw.2.1
 have ne_q1:=hw.2.2.1
 have aB:=hw.2.2.2
 clear hw hz
 have gg:=gg.trans gz
 have e_b:=gz _ _ e_b
 have k_r:=k_r.mono gz
 have aG:=gz _ _ aG
 refine ⟨leN rfl,?_⟩
 intro q2 de
 generalize hz:upd _ q2 _=J3
 have hw:=Z8 hz de hp
 have hp:=hw.1
 have gz:=hw.2.1
 have ne_q2:=hw.2.2.1
 have bj:=hw.2.2.2
 clear hw hz
 have gg:=gg.trans gz
 have e_b:=gz _ _ e_b
 have k_r:=k_r.mono gz
 have aG:=gz _ _ aG
 have aB:=gz _ _ aB
 refine ⟨t1,q2,_,_,rfl,rfl,(Z4 aG).2,(Z4 bj).2,Nat.le_trans (Nat.add_le_add_right (c20 _ _) _) (leN rfl),?_⟩
 skip
 intro t2 J4 gs ez
 have gz:=hp.grw gs
 have hp:=hp.same gs
 have bq:=hp.tup ez
 have gg:=gg.trans gz
 clear gs ez
 have e_b:=gz _ _ e_b
 have k_r:=k_r.mono gz
 have aB:=gz _ _ aB
 refine ⟨_,rfl,_,rfl,_,_,rfl,rfl,_,rfl,cb,rows,rfl,(Z4 e_b).2,?_⟩
 intro t3 J5 gs ez
 have gz:=hp.grw gs
 have hp:=hp.same gs
 have iu:=hp.tup ez
 have gg:=gg.trans gz
 clear gs ez
 have e_b:=gz _ _ e_b
 have k_r:=k_r.mono gz
 have aB:=gz _ _ aB
 have bq:=gz _ _ bq
 have l21:(bd rows none (some (k:Int))++[V.ref q1]).length≤21:=by rw [List.length_append];exact Nat.add_le_add_right (c20 _ _) 1
 refine ⟨t2,t3,_,_,rfl,rfl,(Z4 bq).2,(Z4 iu).2,Nat.le_trans (Nat.add_le_add l21 (c20 _ _)) (leN rfl),?_⟩
 skip
 intro s1 J6 gs ez
 have gz:=hp.grw gs
 have hp:=hp.same gs
 have ag:=hp.tup ez
 have gg:=gg.trans gz
 clear gs ez
 have e_b:=gz _ _ e_b
 have k_r:=k_r.mono gz
 have aB:=gz _ _ aB
 refine ⟨_,rfl,_,rfl,_,rfl,cb,rows,rfl,(Z4 e_b).2,?_⟩
 intro t1 J7 gs ez
 have gz:=hp.grw gs
 have hp:=hp.same gs
 have aG:=hp.tup ez
 have gg:=gg.trans gz
 clear gs ez
 have e_b:=gz _ _ e_b
 have k_r:=k_r.mono gz
 have aB:=gz _ _ aB
 have ag:=gz _ _ ag
 refine ⟨_,rfl,_,rfl,_,_,rfl,rfl,_,rfl,cb,rows,rfl,(Z4 e_b).2,?_⟩
 intro t2 J8 gs ez
 have gz:=hp.grw gs
 have hp:=hp.same gs
 have bq:=hp.tup ez
 have gg:=gg.trans gz
 clear gs ez
 have e_b:=gz _ _ e_b
 have k_r:=k_r.mono gz
 have aB:=gz _ _ aB
 have ag:=gz _ _ ag
 have aG:=gz _ _ aG
 refine ⟨t1,t2,_,_,rfl,rfl,(Z4 aG).2,(Z4 bq).2,Nat.le_trans (Nat.add_le_add (c20 _ _) (c20 _ _)) (leN rfl),?_⟩
 skip
 intro s2 J9 gs ez
 have gz:=hp.grw gs
 have hp:=hp.same gs
 have ak:=hp.tup ez
 have gg:=gg.trans gz
 clear gs ez
 have e_b:=gz _ _ e_b
 have k_r:=k_r.mono gz
 have aB:=gz _ _ aB
 have ag:=gz _ _ ag
 refine ⟨_,rfl,_,rfl,cb,rows,rfl,rfl,Rw e_b,?_⟩
 intro s3 lH
 generalize hz:upd _ s3 _=J10
 have hw:=Z8 hz lH hp
 have hp:=hw.1
 have gz:=hw.2.1
 have ne_s3:=hw.2.2.1
 have aw:=hw.2.2.2
 clear hw hz
 have gg:=gg.trans gz
 have e_b:=gz _ _ e_b
 have k_r:=k_r.mono gz
 have aB:=gz _ _ aB
 have ag:=gz _ _ ag
 have ak:=gz _ _ ak
 refine ⟨leN rfl,?_⟩
 intro L n_L
 generalize hz:upd _ L _=J11
 have hw:=Z8 hz n_L hp
 have hp:=hw.1
 have gz:=hw.2.1
 have ne_L:=hw.2.2.1
 have e_L:=hw.2.2.2
 clear hw hz
 have gg:=gg.trans gz
 have e_b:=gz _ _ e_b
 have k_r:=k_r.mono gz
 have aB:=gz _ _ aB
 have ag:=gz _ _ ag
 have ak:=gz _ _ ak
 have aw:=gz _ _ aw
 dsimp only
 refine ⟨_,rfl,_,rfl,_,rfl,_,rfl,cb,rows,rfl,(Z4 e_b).2,?_⟩
 intro t1 J12 gs ez
 have gz:=hp.grw gs
 have hp:=hp.same gs
 have aG:=hp.tup ez
 have gg:=gg.trans gz
 clear gs ez
 have e_b:=gz _ _ e_b
 have k_r:=k_r.mono gz
 have aB:=gz _ _ aB
 have ag:=gz _ _ ag
 have ak:=gz _ _ ak
 have aw:=gz _ _ aw
 have e_L:=gz _ _ e_L
 refine ⟨cb,t1,_,_,rfl,rfl,(Z4 e_b).2,(Z4 aG).2,Nat.le_trans (Nat.add_le_add rl (c20 _ _)) (leN rfl),?_⟩
 skip
 intro s4 J13 gs ez
 have gz:=hp.grw gs
 have hp:=hp.same gs
 have av:=hp.tup ez
 have gg:=gg.trans gz
 clear gs ez
 have e_b:=gz _ _ e_b
 have k_r:=k_r.mono gz
 have aB:=gz _ _ aB
 have ag:=gz _ _ ag
 have ak:=gz _ _ ak
 have aw:=gz _ _ aw
 have e_L:=gz _ _ e_L
 refine ⟨_,rfl,_,rfl,_,rfl,cb,rows,rfl,(Z4 e_b).2,?_⟩
 intro t1 J14 gs ez
 have gz:=hp.grw gs
 have hp:=hp.same gs
 have aG:=hp.tup ez
 have gg:=gg.trans gz
 clear gs ez
 have e_b:=gz _ _ e_b
 have k_r:=k_r.mono gz
 have aB:=gz _ _ aB
 have ag:=gz _ _ ag
 have ak:=gz _ _ ak
 have aw:=gz _ _ aw
 have e_L:=gz _ _ e_L
 have av:=gz _ _ av
 refine ⟨_,rfl,leN rfl,?_⟩
 intro q3 rC
 generalize hz:upd _ q3 _=J15
 have hw:=Z8 hz rC hp
 have hp:=hw.1
 have gz:=hw.2.1
 have ne_q3:=hw.2.2.1
 have cQ:=hw.2.2.2
 clear hw hz
 have gg:=gg.trans gz
 have e_b:=gz _ _ e_b
 have k_r:=k_r.mono gz
 have aB:=gz _ _ aB
 have ag:=gz _ _ ag
 have ak:=gz _ _ ak
 have aw:=gz _ _ aw
 have e_L:=gz _ _ e_L
 have av:=gz _ _ av
 have aG:=gz _ _ aG
 refine ⟨leN rfl,?_⟩
 intro q2 de
 generalize hz:upd _ q2 _=J16
 have hw:=Z8 hz de hp
 have hp:=hw.1
 have gz:=hw.2.1
 have ne_q2:=hw.2.2.1
 have bj:=hw.2.2.2
 clear hw hz
 have gg:=gg.trans gz
 have e_b:=gz _ _ e_b
 have k_r:=k_r.mono gz
 have aB:=gz _ _ aB
 have ag:=gz _ _ ag
 have ak:=gz _ _ ak
 have aw:=gz _ _ aw
 have e_L:=gz _ _ e_L
 have av:=gz _ _ av
 have aG:=gz _ _ aG
 have cQ:=gz _ _ cQ
 refine ⟨t1,q2,_,_,rfl,rfl,(Z4 aG).2,(Z4 bj).2,Nat.le_trans (Nat.add_le_add_right (c20 _ _) _) (leN rfl),?_⟩
 skip
 intro t2 J17 gs ez
 have gz:=hp.grw gs
 have hp:=hp.same gs
 have bq:=hp.tup ez
 have gg:=gg.trans gz
 clear gs ez
 have e_b:=gz _ _ e_b
 have k_r:=k_r.mono gz
 have aB:=gz _ _ aB
 have ag:=gz _ _ ag
 have ak:=gz _ _ ak
 have aw:=gz _ _ aw
 have e_L:=gz _ _ e_L
 have av:=gz _ _ av
 have cQ:=gz _ _ cQ
 refine ⟨_,rfl,_,rfl,_,_,rfl,rfl,_,rfl,cb,rows,rfl,(Z4 e_b).2,?_⟩
 intro t3 J18 gs ez
 have gz:=hp.grw gs
 have hp:=hp.same gs
 have iu:=hp.tup ez
 have gg:=gg.trans gz
 clear gs ez
 have e_b:=gz _ _ e_b
 have k_r:=k_r.mono gz
 have aB:=gz _ _ aB
 have ag:=gz _ _ ag
 have ak:=gz _ _ ak
 have aw:=gz _ _ aw
 have e_L:=gz _ _ e_L
 have av:=gz _ _ av
 have cQ:=gz _ _ cQ
 have bq:=gz _ _ bq
 have l21b:(bd rows none (some (k:Int))++[V.ref q3]).length≤21:=by rw [List.length_append];exact Nat.add_le_add_right (c20 _ _) 1
 refine ⟨t2,t3,_,_,rfl,rfl,(Z4 bq).2,(Z4 iu).2,Nat.le_trans (Nat.add_le_add l21b (c20 _ _)) (leN rfl),?_⟩
 skip
 intro s5 J19 gs ez
 have gz:=hp.grw gs
 have hp:=hp.same gs
 have ck:=hp.tup ez
 have gg:=gg.trans gz
 clear gs ez
 have e_b:=gz _ _ e_b
 have k_r:=k_r.mono gz
 have aB:=gz _ _ aB
 have ag:=gz _ _ ag
 have ak:=gz _ _ ak
 have aw:=gz _ _ aw
 have e_L:=gz _ _ e_L
 have av:=gz _ _ av
 have cQ:=gz _ _ cQ
 refine ⟨leN rfl,?_⟩
 intro M n_M
 generalize hz:upd _ M _=J20
 have hw:=Z8 hz n_M hp
 have hp:=hw.1
 have gz:=hw.2.1
 have ne_M:=hw.2.2.1
 have e_M:=hw.2.2.2
 clear hw hz
 have gg:=gg.trans gz
 have e_b:=gz _ _ e_b
 have k_r:=k_r.mono gz
 have aB:=gz _ _ aB
 have ag:=gz _ _ ag
 have ak:=gz _ _ ak
 have aw:=gz _ _ aw
 have e_L:=gz _ _ e_L
 have av:=gz _ _ av
 have cQ:=gz _ _ cQ
 have ck:=gz _ _ ck
 refine ⟨L,M,_,_,rfl,rfl,(Z4 e_L).2,(Z4 e_M).2,leN rfl,?_⟩
 intro N n_N
 generalize hz:upd _ N _=J21
 have hw:=Z8 hz n_N hp
 have hp:=hw.1
 have gz:=hw.2.1
 have ne_N:=hw.2.2.1
 have e_N:=hw.2.2.2
 clear hw hz
 have gg:=gg.trans gz
 have e_b:=gz _ _ e_b
 have k_r:=k_r.mono gz
 have aB:=gz _ _ aB
 have ag:=gz _ _ ag
 have ak:=gz _ _ ak
 have aw:=gz _ _ aw
 have e_L:=gz _ _ e_L
 have av:=gz _ _ av
 have cQ:=gz _ _ cQ
 have ck:=gz _ _ ck
 have e_M:=gz _ _ e_M
 dsimp only
 refine ⟨_,rfl,_,rfl,?_⟩
 refine ⟨_,rfl,a,5,rfl,hp,Xg rfl,ltI rfl,fun dd J22 dd0 dd1 hp gz=>?_⟩
 have gg:=gg.trans gz
 have e_b:=gz _ _ e_b
 have k_r:=k_r.mono gz
 have aB:=gz _ _ aB
 have ag:=gz _ _ ag
 have ak:=gz _ _ ak
 have aw:=gz _ _ aw
 have e_L:=gz _ _ e_L
 have av:=gz _ _ av
 have cQ:=gz _ _ cQ
 have ck:=gz _ _ ck
 have e_M:=gz _ _ e_M
 have e_N:=gz _ _ e_N
 obtain ⟨v,hv,mv⟩:=nE e_N dd0 dd1
 have Q1:CE (aA a J22) (.ref q1):=⟨q1,z,_,rfl,aB,mz⟩
 have Q3:CE (aA a J22) (.ref q3):=⟨q3,z,_,rfl,cQ,mz⟩
 obtain ⟨l,rfl,ys,e_l,k_y,yl⟩:∃l,v=.ref l∧∃ys,aA a J22 l=some (.tup ys)∧All CE (aA a J22) ys∧ys.length<60:=by
  simp only [List.cons_append,List.nil_append,List.mem_cons,List.not_mem_nil,or_false] at mv
  rcases mv with rfl | rfl | rfl | rfl | rfl
  ·exact ⟨_,rfl,_,ag,((k_r.cut _ _).app (All.one Q1)).app (k_r.cut _ _),by rw [List.length_append];exact Nat.lt_of_le_of_lt (Nat.add_le_add l21 (c20 _ _)) (by decide)⟩
  ·exact ⟨_,rfl,_,ak,(k_r.cut _ _).app (k_r.cut _ _),by rw [List.length_append];exact Nat.lt_of_le_of_lt (Nat.add_le_add (c20 _ _) (c20 _ _)) (by decide)⟩
  ·exact ⟨_,rfl,_,aw,k_r.rev,by rw [List.length_reverse];omega⟩
  ·exact ⟨_,rfl,_,av,k_r.app (k_r.cut _ _),by rw [List.length_append];exact Nat.lt_of_le_of_lt (Nat.add_le_add rl (c20 _ _)) (by decide)⟩
  ·exact ⟨_,rfl,_,ck,((k_r.cut _ _).app (All.one Q3)).app (k_r.cut _ _),by rw [List.length_append];exact Nat.lt_of_le_of_lt (Nat.add_le_add l21b (c20 _ _)) (by decide)⟩
 refine ⟨N,_,_,_,rfl,rfl,Xu e_N,hv,_,rfl,_,rfl,leN rfl,?_⟩
 skip
 intro R n_R
 generalize hz:upd _ R _=J23
 have hw:=Z8 hz n_R hp
 have hp:=hw.1
 have gz:=hw.2.1
 have ne_R:=hw.2.2.1
 have e_R:=hw.2.2.2
 clear hw hz
 have gg:=gg.trans gz
 have e_l:=gz _ _ e_l
 have k_y:=k_y.mono gz
 exact fin e_R e_l k_y yl hp gg
end
def ZE (_:Hp) (x:V):Prop:=∃z,x=.str z∧Mk z
instance:Stays ZE:=⟨fun _ h=>h⟩
theorem qP {H:Hp}:∀{xs:List V},All ZE H xs→∃zs:List Str,xs=zs.map V.str∧∀z∈zs,Mk z
 | [],_=>⟨[],rfl,(fun _ h=>nomatch h)⟩
 | x::xs,h=>by
  obtain ⟨z,rfl,w⟩:=h x (.head _)
  obtain ⟨zs,rfl,g⟩:=qP fun y hy=>h y (.tail _ hy)
  exact ⟨z::zs,rfl,fun y hy=>(List.mem_cons.mp hy).elim (fun e=>by rw [e];exact w) (g y)⟩
theorem Tm {H:Hp} {c m:Addr} {ys:List V} {n:Int} (e:H c=some (.tup [.ref m,.int n])) (e2:H m=some (.tup ys)) (al:All ZE H ys) (l:ys.length<60):BE H (.ref c):=by
 obtain ⟨zs,rfl,mk⟩:=qP al
 rw [List.length_map] at l
 exact ⟨c,m,(zs,n),rfl,e,e2,mk,l⟩
def B0 (H:Hp) (x:V):Prop:=∃(c m:Addr) (b:Bn),x=.ref c∧H c=some (.tup [.ref m,.int b.2])∧H m=some (.tup (b.1.map V.str))∧(∀z∈b.1,Mk z)∧1≤b.1.length∧b.1.length≤26∧1≤b.2∧b.2<100000000000000000000
instance:Stays B0:=⟨fun g ⟨c,m,b,e,h,h2,w⟩=>⟨c,m,b,e,g _ _ h,g _ _ h2,w⟩⟩
theorem B0.be {H:Hp} {x:V} (h:B0 H x):BE H x:=let ⟨c,m,b,e,h,h2,w,_,l,_⟩:=h;⟨c,m,b,e,h,h2,w,by omega⟩
theorem All.be {H:Hp} {xs:List V} (h:All B0 H xs):All BE H xs:=fun x hx=>(h x hx).be
def uP:Sp:=fun vs H Q _=>∃(a p:Addr) (way:Int) (xs:List V),vs=[.ref a,.ref p,.int way]∧PenAt H a∧aA a H p=some (.lst xs)∧All B0 (aA a H) xs∧0<xs.length∧xs.length≤1400∧∀(l:Addr) (H':Hp),PG 3000 (aA a H') l→PenAt H' a→Grw a H H'→Q (.ref l) H'
section
variable {P:Program} {w:World} {K:W.Frag} {mg:Str→Option Value} {base:Heap} {f:Addr} {fd:FuncData}
theorem uv (aD:mg "len"=none) (eF:mg "int"=none) (ai:Has P w K mg base "_law_draw" 1 ["_law_pen_here","_law_size"] bN)
  (F:Fun K "_law_bent_paper" "_law_bent_paper" aT f fd):FnOk P w K mg base CX0 2 f fd ["_law_pen_here","_law_paper","_law_way"] uP:=by
 refine F.ok Yd (fun vs H Q E h=>?_) (fun cdv A outer s H vs Q E hr h=>?_)
 ·obtain ⟨a,p,way,xs,rfl,_⟩:=h
  rfl
 obtain ⟨a,p,way,xs,rfl,hp,e_p,k_x,x1,xl,hq⟩:=h
 refine ⟨_,(@Z3 _ _ _ _ _ (@Zj _ _ 3 _ _ _ _ Yd.nd rfl (Or.inl rfl) (Z7 ai hr (@Z0 _ _ _ _ _ (pv 0) (@Z0 _ _ _ _ _ (Zd Zo rfl aD PySem.boot_len (@Z0 _ _ _ _ _ (pv 1) Z1 (by rfl))) Z1 (by rfl)) (by rfl))) (by rfl) (by first | exact .inl rfl | exact .inr rfl))
 (@Z3 _ _ _ _ _ (X7 (@Y0 _ _ _ _ _ _ _ Yb (pv 1) (pv 3) (fun _ _=>rfl)) (Yq rfl (Z6 (Z5 (i:=4) Yd.nd rfl (Or.inl rfl)) (Z6 (Z5 (i:=5) Yd.nd rfl (Or.inl rfl)) Zx))))
 (@Z3 _ _ _ _ _ (@Zj _ _ 6 _ _ _ _ Yd.nd rfl (Or.inl rfl) (Z7 ai hr (@Z0 _ _ _ _ _ (pv 0) (@Z0 _ _ _ _ _ (Zd Zo rfl aD PySem.boot_len (@Z0 _ _ _ _ _ (pv 4) Z1 (by rfl))) Z1 (by rfl)) (by rfl))) (by rfl) (by first | exact .inl rfl | exact .inr rfl))
 (@Z3 _ _ _ _ _ (@Zj _ _ 7 _ _ _ _ Yd.nd rfl (Or.inl rfl) (@Y4 _ _ _ _ (@Z0 _ _ _ _ _ (@Za _ _ _ _ _ _ _ _ Xa (Zr Yj (pv 4) Zz (Zt (pv 6))) (Zr Yj (pv 4) (Zt (@Za _ _ _ _ _ _ _ _ Zp (pv 6) Z2)) Zz)) (@Z0 _ _ _ _ _ (@Za _ _ _ _ _ _ _ _ Xa (@Za _ _ _ _ _ _ _ _ Xa (Zr Yj (pv 4) Zz (Zt (pv 6))) (@Zh _ _ _ _ _ (@Z0 _ _ _ _ _ V5 Z1 (by rfl)))) (Zr Yj (pv 4) (Zt (pv 6)) Zz)) (@Z0 _ _ _ _ _ (Of (pv 4) (@U2 _ _ _ _ _ _ Wt Z2)) (@Z0 _ _ _ _ _ (@Za _ _ _ _ _ _ _ _ Xa (pv 4) (Zr Yj (pv 4) Zz (Zt Z2))) Z1 (by rfl)) (by rfl)) (by rfl)) (by rfl))) (by rfl) (by first | exact .inl rfl | exact .inr rfl))
 (@Z3 _ _ _ _ _ (@Zj _ _ 8 _ _ _ _ Yd.nd rfl (Or.inl rfl) (@Za _ _ _ _ _ _ _ _ Zp Z2 (Z7 ai hr (@Z0 _ _ _ _ _ (pv 0) (@Z0 _ _ _ _ _ (pv 5) Z1 (by rfl)) (by rfl)))) (by rfl) (by first | exact .inl rfl | exact .inr rfl))
 (@Z3 _ _ _ _ _ (@Zj _ _ 9 _ _ _ _ Yd.nd rfl (Or.inl rfl) (Zr X9 (pv 1) (Zt (@Za _ _ _ _ _ _ _ _ Zp (pv 3) Z2)) Zz) (by rfl) (by first | exact .inl rfl | exact .inr rfl))
 (@Z3 _ _ _ _ _ (@Yc _ _ _ _ _ _ _ _ (@Zm _ _ _ _ _ _ _ _ Wr (pv 2) Z2 (Zk _)) (@Z9 _ _ _ (@Zg _ _ _ _ (@Za _ _ _ _ _ _ _ _ Yk (@Za _ _ _ _ _ _ _ _ Yk (Zr X9 (pv 1) Zz (Zt (pv 3))) (@Y4 _ _ _ _ (@Z0 _ _ _ _ _ (@Zh _ _ _ _ _ (@Z0 _ _ _ _ _ (pv 4) (@Z0 _ _ _ _ _ (@Za _ _ _ _ _ _ _ _ Zp (pv 5) (@Y0 _ _ _ _ _ _ _ Yb (@Y4 _ _ _ _ (@Z0 _ _ _ _ _ Z2 (@Z0 _ _ _ _ _ (@U2 _ _ _ _ _ _ Wt Z2) (@Z0 _ _ _ _ _ (@Za _ _ _ _ _ _ _ _ Wa Z2 (pv 5)) (@Z0 _ _ _ _ _ (@Za _ _ _ _ _ _ _ _ Wb (@U2 _ _ _ _ _ _ Wt Z2) (pv 5)) Z1 (by rfl)) (by rfl)) (by rfl)) (by rfl))) (Z7 ai hr (@Z0 _ _ _ _ _ (pv 0) (@Z0 _ _ _ _ _ Z2 Z1 (by rfl)) (by rfl))) (fun _ _=>rfl))) Z1 (by rfl)) (by rfl))) Z1 (by rfl)))) (pv 9)))) Zu)
 (@Z3 _ _ _ _ _ (@Yc _ _ _ _ _ _ _ _ (@Zm _ _ _ _ _ _ _ _ Wr (pv 2) Z2 (Zk _)) (@Z9 _ _ _ (@Zg _ _ _ _ (@Za _ _ _ _ _ _ _ _ Yk (Zr X9 (pv 1) Zz (Zt (pv 3))) (pv 9)))) Zu)
 (@Z3 _ _ _ _ _ (@Yc _ _ _ _ _ _ _ _ (@Zm _ _ _ _ _ _ _ _ Wr (pv 2) Z2 (Zk _)) (@Z9 _ _ _ (@Zg _ _ _ _ (@Za _ _ _ _ _ _ _ _ Yk (@Za _ _ _ _ _ _ _ _ Yk (Zr X9 (pv 1) Zz (Zt (pv 3))) (@Y4 _ _ _ _ (@Z0 _ _ _ _ _ (@Y0 _ _ _ _ _ _ _ Yb (pv 1) (pv 3) (fun _ _=>rfl)) (@Z0 _ _ _ _ _ (@Y0 _ _ _ _ _ _ _ Yb (pv 1) (pv 3) (fun _ _=>rfl)) Z1 (by rfl)) (by rfl)))) (pv 9)))) Zu)
 (@Z3 _ _ _ _ _ (@Yc _ _ _ _ _ _ _ _ (@Zm _ _ _ _ _ _ _ _ Wr (pv 2) Z2 (Zk _)) (@Z9 _ _ _ (@Zg _ _ _ _ (@Za _ _ _ _ _ _ _ _ Yk (@Za _ _ _ _ _ _ _ _ Yk (Zr X9 (pv 1) Zz (Zt (pv 3))) (Zr X9 (@Y4 _ _ _ _ (@Z0 _ _ _ _ _ (@Zh _ _ _ _ _ (@Z0 _ _ _ _ _ (pv 4) (@Z0 _ _ _ _ _ (pv 8) Z1 (by rfl)) (by rfl))) (@Z0 _ _ _ _ _ (@Zh _ _ _ _ _ (@Z0 _ _ _ _ _ (pv 4) (@Z0 _ _ _ _ _ (@Za _ _ _ _ _ _ _ _ Wa (pv 5) (pv 8)) Z1 (by rfl)) (by rfl))) Z1 (by rfl)) (by rfl))) Zz (Zt (@Za _ _ _ _ _ _ _ _ Zp Z2 (Y5 kK rfl eF PyProof.Rows.boot_int (@Z0 _ _ _ _ _ (@X1 _ _ _ _ _ _ _ _ Vj (pv 8) (pv 5) (Zk _)) Z1 (by rfl))))))) (pv 9)))) Zu)
 (@Z3 _ _ _ _ _ (@Yc _ _ _ _ _ _ _ _ (@Zm _ _ _ _ _ _ _ _ Wr (pv 2) Z2 (Zk _)) (@Z9 _ _ _ (@Zg _ _ _ _ (@Za _ _ _ _ _ _ _ _ Yk (@Za _ _ _ _ _ _ _ _ Yk (Zr X9 (pv 1) Zz (Zt (pv 3))) (@Y4 _ _ _ _ (@Z0 _ _ _ _ _ (@Zh _ _ _ _ _ (@Z0 _ _ _ _ _ (@Y0 _ _ _ _ _ _ _ Yb (pv 7) (Z7 ai hr (@Z0 _ _ _ _ _ (pv 0) (@Z0 _ _ _ _ _ Z2 Z1 (by rfl)) (by rfl))) (fun _ _=>rfl)) (@Z0 _ _ _ _ _ (pv 5) Z1 (by rfl)) (by rfl))) Z1 (by rfl)))) (pv 9)))) Zu)
 (@Z9 _ _ _ (@Zg _ _ _ _ (gI (pv 1) (@U2 _ _ _ _ _ _ Wt Z2))))))))))))))),?_⟩
 have gg:Grw a H H:=Same.refl _
 refine ⟨_,rfl,_,rfl,p,xs,rfl,.inl (Xu e_p),a,_,rfl,hp,by omega,by omega,fun at1 H1 y0 y1 hp gz=>?_⟩
 skip
 have gg:=gg.trans gz
 have e_p:=gz _ _ e_p
 have k_x:=k_x.mono gz
 dsimp only
 obtain ⟨k,rfl⟩:=Int.eq_ofNat_of_zero_le y0
 have kl:k<xs.length:=by have y1:(k:Int)<(xs.length:Int):=y1;omega
 obtain ⟨v,hv⟩:∃v,xs[k]?=some v:=⟨xs[k],List.getElem?_eq_getElem kl⟩
 obtain ⟨c,m,b,rfl,e_c,e_m,bm,b1,b26,n1,n2⟩:=k_x v (List.mem_of_getElem? hv)
 have k_v:=k_x _ (List.mem_of_getElem? hv)
 refine ⟨_,rfl,_,rfl,p,_,_,_,rfl,rfl,Xu e_p,Vb hv,c,_,rfl,Rw e_c,rfl,_,_,rfl,_,_,rfl,rfl,?_⟩
 dsimp only
 have k_z:All ZE (aA a H1) (b.1.map V.str):=fun x hx=>by
  obtain ⟨z,hz,rfl⟩:=List.mem_map.mp hx
  exact ⟨z,rfl,bm z hz⟩
 have zl:(b.1.map V.str).length≤26:=by rw [List.length_map];exact b26
 have zl1:1≤(b.1.map V.str).length:=by rw [List.length_map];exact b1
 generalize b.1.map V.str=zs at e_m k_z zl zl1
 have n1:1≤b.2:=n1
 generalize b.2=n at e_c n1 n2 ⊢
 refine ⟨_,rfl,_,rfl,m,zs,rfl,.inr (Rw e_m),a,_,rfl,hp,by omega,by omega,fun sp1 H2 w0 w1 hp gz=>?_⟩
 skip
 have gg:=gg.trans gz
 have e_p:=gz _ _ e_p
 have k_x:=k_x.mono gz
 have e_m:=gz _ _ e_m
 have k_z:=k_z.mono gz
 dsimp only
 obtain ⟨j,rfl⟩:=Int.eq_ofNat_of_zero_le w0
 have c26:=fun lo hi=>Nat.le_trans (Xi zs lo hi) zl
 refine ⟨_,rfl,_,rfl,_,rfl,m,zs,rfl,(Z4 e_m).2,?_⟩
 intro t1 J1 gs ez
 have gz:=hp.grw gs
 have hp:=hp.same gs
 have aG:=hp.tup ez
 have gg:=gg.trans gz
 clear gs ez
 have e_p:=gz _ _ e_p
 have k_x:=k_x.mono gz
 have e_m:=gz _ _ e_m
 have k_z:=k_z.mono gz
 refine ⟨_,rfl,_,rfl,_,_,rfl,rfl,_,rfl,m,zs,rfl,(Z4 e_m).2,?_⟩
 intro t2 J2 gs ez
 have gz:=hp.grw gs
 have hp:=hp.same gs
 have bq:=hp.tup ez
 have gg:=gg.trans gz
 clear gs ez
 have e_p:=gz _ _ e_p
 have k_x:=k_x.mono gz
 have e_m:=gz _ _ e_m
 have k_z:=k_z.mono gz
 have aG:=gz _ _ aG
 refine ⟨t1,t2,_,_,rfl,rfl,(Z4 aG).2,(Z4 bq).2,Nat.le_trans (Nat.add_le_add (c26 _ _) (c26 _ _)) (leN rfl),?_⟩
 skip
 intro s1 J3 gs ez
 have gz:=hp.grw gs
 have hp:=hp.same gs
 have ag:=hp.tup ez
 have gg:=gg.trans gz
 clear gs ez
 have e_p:=gz _ _ e_p
 have k_x:=k_x.mono gz
 have e_m:=gz _ _ e_m
 have k_z:=k_z.mono gz
 refine ⟨_,rfl,_,rfl,_,rfl,m,zs,rfl,(Z4 e_m).2,?_⟩
 intro t1 J4 gs ez
 have gz:=hp.grw gs
 have hp:=hp.same gs
 have aG:=hp.tup ez
 have gg:=gg.trans gz
 clear gs ez
 have e_p:=gz _ _ e_p
 have k_x:=k_x.mono gz
 have e_m:=gz _ _ e_m
 have k_z:=k_z.mono gz
 have ag:=gz _ _ ag
 refine ⟨leN rfl,?_⟩
 intro t2 n_
 generalize hz:upd _ t2 _=J5
 have hw:=Z8 hz n_ hp
 have hp:=hw.1
 have gz:=hw.2.1
 have ne_t2:=hw.2.2.1
 have bq:=hw.2.2.2
 clear hw hz
 have gg:=gg.trans gz
 have e_p:=gz _ _ e_p
 have k_x:=k_x.mono gz
 have e_m:=gz _ _ e_m
 have k_z:=k_z.mono gz
 have ag:=gz _ _ ag
 have aG:=gz _ _ aG
 refine ⟨t1,t2,_,_,rfl,rfl,(Z4 aG).2,(Z4 bq).2,Nat.le_trans (Nat.add_le_add_right (c26 _ _) _) (leN rfl),?_⟩
 skip
 intro t3 J6 gs ez
 have gz:=hp.grw gs
 have hp:=hp.same gs
 have iu:=hp.tup ez
 have gg:=gg.trans gz
 clear gs ez
 have e_p:=gz _ _ e_p
 have k_x:=k_x.mono gz
 have e_m:=gz _ _ e_m
 have k_z:=k_z.mono gz
 have ag:=gz _ _ ag
 refine ⟨_,rfl,_,rfl,_,rfl,m,zs,rfl,(Z4 e_m).2,?_⟩
 intro t4 J7 gs ez
 have gz:=hp.grw gs
 have hp:=hp.same gs
 have e_t4:=hp.tup ez
 have gg:=gg.trans gz
 clear gs ez
 have e_p:=gz _ _ e_p
 have k_x:=k_x.mono gz
 have e_m:=gz _ _ e_m
 have k_z:=k_z.mono gz
 have ag:=gz _ _ ag
 have iu:=gz _ _ iu
 have l27:(bd zs none (some (j:Int))++[V.str "eaaaq"]).length≤27:=by rw [List.length_append];exact Nat.add_le_add_right (c26 _ _) 1
 refine ⟨t3,t4,_,_,rfl,rfl,(Z4 iu).2,(Z4 e_t4).2,Nat.le_trans (Nat.add_le_add l27 (c26 _ _)) (leN rfl),?_⟩
 skip
 intro s2 J8 gs ez
 have gz:=hp.grw gs
 have hp:=hp.same gs
 have ak:=hp.tup ez
 have gg:=gg.trans gz
 clear gs ez
 have e_p:=gz _ _ e_p
 have k_x:=k_x.mono gz
 have e_m:=gz _ _ e_m
 have k_z:=k_z.mono gz
 have ag:=gz _ _ ag
 refine ⟨_,rfl,_,rfl,m,zs,rfl,rfl,Rw e_m,?_⟩
 intro s3 lH
 generalize hz:upd _ s3 _=J9
 have hw:=Z8 hz lH hp
 have hp:=hw.1
 have gz:=hw.2.1
 have ne_s3:=hw.2.2.1
 have aw:=hw.2.2.2
 clear hw hz
 have gg:=gg.trans gz
 have e_p:=gz _ _ e_p
 have k_x:=k_x.mono gz
 have e_m:=gz _ _ e_m
 have k_z:=k_z.mono gz
 have ag:=gz _ _ ag
 have ak:=gz _ _ ak
 refine ⟨_,rfl,_,rfl,_,rfl,m,zs,rfl,(Z4 e_m).2,?_⟩
 intro t1 J10 gs ez
 have gz:=hp.grw gs
 have hp:=hp.same gs
 have aG:=hp.tup ez
 have gg:=gg.trans gz
 clear gs ez
 have e_p:=gz _ _ e_p
 have k_x:=k_x.mono gz
 have e_m:=gz _ _ e_m
 have k_z:=k_z.mono gz
 have ag:=gz _ _ ag
 have ak:=gz _ _ ak
 have aw:=gz _ _ aw
 refine ⟨m,t1,_,_,rfl,rfl,(Z4 e_m).2,(Z4 aG).2,Nat.le_trans (Nat.add_le_add zl (c26 _ _)) (leN rfl),?_⟩
 skip
 intro s4 J11 gs ez
 have gz:=hp.grw gs
 have hp:=hp.same gs
 have av:=hp.tup ez
 have gg:=gg.trans gz
 clear gs ez
 have e_p:=gz _ _ e_p
 have k_x:=k_x.mono gz
 have e_m:=gz _ _ e_m
 have k_z:=k_z.mono gz
 have ag:=gz _ _ ag
 have ak:=gz _ _ ak
 have aw:=gz _ _ aw
 refine ⟨leN rfl,?_⟩
 intro L n_L
 generalize hz:upd _ L _=J12
 have hw:=Z8 hz n_L hp
 have hp:=hw.1
 have gz:=hw.2.1
 have ne_L:=hw.2.2.1
 have e_L:=hw.2.2.2
 clear hw hz
 have gg:=gg.trans gz
 have e_p:=gz _ _ e_p
 have k_x:=k_x.mono gz
 have e_m:=gz _ _ e_m
 have k_z:=k_z.mono gz
 have ag:=gz _ _ ag
 have ak:=gz _ _ ak
 have aw:=gz _ _ aw
 have av:=gz _ _ av
 dsimp only
 refine ⟨_,rfl,_,rfl,a,_,rfl,hp,by omega,by omega,fun pt J13 v0 v1 hp gz=>⟨_,_,rfl,rfl,?_⟩⟩
 have gg:=gg.trans gz
 have e_p:=gz _ _ e_p
 have k_x:=k_x.mono gz
 have e_m:=gz _ _ e_m
 have k_z:=k_z.mono gz
 have ag:=gz _ _ ag
 have ak:=gz _ _ ak
 have aw:=gz _ _ aw
 have av:=gz _ _ av
 have e_L:=gz _ _ e_L
 dsimp only
 refine ⟨_,rfl,_,rfl,_,_,rfl,rfl,_,rfl,p,xs,rfl,Xu e_p,?_⟩
 intro bh n_bh
 generalize hz:upd _ bh _=J14
 have hw:=Z8 hz n_bh hp
 have hp:=hw.1
 have gz:=hw.2.1
 have ne_bh:=hw.2.2.1
 have aI:=hw.2.2.2
 clear hw hz
 have gg:=gg.trans gz
 have e_p:=gz _ _ e_p
 have k_x:=k_x.mono gz
 have e_m:=gz _ _ e_m
 have k_z:=k_z.mono gz
 have ag:=gz _ _ ag
 have ak:=gz _ _ ak
 have aw:=gz _ _ aw
 have av:=gz _ _ av
 have e_L:=gz _ _ e_L
 dsimp only
 have cx:=fun lo hi=>Nat.le_trans (Xi xs lo hi) xl
 have bx:=k_x.be
 have fin:∀{l:Addr} {ys:List V} {H':Hp},aA a H' l=some (.lst ys)→All BE (aA a H') ys→ys.length≤3000→PenAt H' a→Grw a H H'→Q (.ref l) H':=fun e al le hp gg=>hq _ _ ⟨_,e,al,le⟩ hp gg
 have be0:=k_v
 refine ⟨_,rfl,rfl,_,rfl,Yu (fun c0=>?_) (fun c0=>?_)⟩
 ·skip
  skip
  refine ⟨_,rfl,_,rfl,_,rfl,p,xs,rfl,Xu e_p,?_⟩
  intro h1 eR
  generalize hz:upd _ h1 _=M1
  have hw:=Z8 hz eR hp
  have hp:=hw.1
  have gz:=hw.2.1
  have ne_h1:=hw.2.2.1
  have aN:=hw.2.2.2
  clear hw hz
  have gg:=gg.trans gz
  have e_p:=gz _ _ e_p
  have k_x:=k_x.mono gz
  have bx:=bx.mono gz
  have e_m:=gz _ _ e_m
  have k_z:=k_z.mono gz
  have ag:=gz _ _ ag
  have ak:=gz _ _ ak
  have aw:=gz _ _ aw
  have av:=gz _ _ av
  have e_L:=gz _ _ e_L
  have aI:=gz _ _ aI
  refine ⟨_,rfl,_,rfl,_,rfl,_,rfl,_,_,rfl,rfl,_,rfl,_,rfl,_,_,rfl,rfl,Or.inl ⟨by decide,by decide⟩,leN rfl,?_⟩
  intro q1 dX
  generalize hz:upd _ q1 _=M2
  have hw:=Z8 hz dX hp
  have hp:=hw.1
  have gz:=hw.2.1
  have ne_q1:=hw.2.2.1
  have aB:=hw.2.2.2
  clear hw hz
  have gg:=gg.trans gz
  have e_p:=gz _ _ e_p
  have k_x:=k_x.mono gz
  have bx:=bx.mono gz
  have e_m:=gz _ _ e_m
  have k_z:=k_z.mono gz
  have ag:=gz _ _ ag
  have ak:=gz _ _ ak
  have aw:=gz _ _ aw
  have av:=gz _ _ av
  have e_L:=gz _ _ e_L
  have aI:=gz _ _ aI
  have aN:=gz _ _ aN
  refine ⟨_,rfl,a,4,rfl,hp,Xg rfl,ltI rfl,fun d M3 d0 d1 hp gz=>?_⟩
  have gg:=gg.trans gz
  have e_p:=gz _ _ e_p
  have k_x:=k_x.mono gz
  have bx:=bx.mono gz
  have e_m:=gz _ _ e_m
  have k_z:=k_z.mono gz
  have ag:=gz _ _ ag
  have ak:=gz _ _ ak
  have aw:=gz _ _ aw
  have av:=gz _ _ av
  have e_L:=gz _ _ e_L
  have aI:=gz _ _ aI
  have aN:=gz _ _ aN
  have aB:=gz _ _ aB
  obtain ⟨u,hu,mu⟩:=nE aB d0 d1
  obtain ⟨i1,rfl⟩:∃n:Int,u=.int n:=by
   simp only [List.mem_cons,List.not_mem_nil,or_false] at mu
   rcases mu with rfl | rfl | rfl | rfl <;> exact ⟨_,rfl⟩
  refine ⟨q1,_,_,_,rfl,rfl,Xu aB,hu,_,_,rfl,rfl,leN rfl,?_⟩
  intro tt mo
  generalize hz:upd _ tt _=M4
  have hw:=Z8 hz mo hp
  have hp:=hw.1
  have gz:=hw.2.1
  have ne_tt:=hw.2.2.1
  have bZ:=hw.2.2.2
  clear hw hz
  have gg:=gg.trans gz
  have e_p:=gz _ _ e_p
  have k_x:=k_x.mono gz
  have bx:=bx.mono gz
  have e_m:=gz _ _ e_m
  have k_z:=k_z.mono gz
  have ag:=gz _ _ ag
  have ak:=gz _ _ ak
  have aw:=gz _ _ aw
  have av:=gz _ _ av
  have e_L:=gz _ _ e_L
  have aI:=gz _ _ aI
  have aN:=gz _ _ aN
  have aB:=gz _ _ aB
  refine ⟨leN rfl,?_⟩
  intro q2 de
  generalize hz:upd _ q2 _=M5
  have hw:=Z8 hz de hp
  have hp:=hw.1
  have gz:=hw.2.1
  have ne_q2:=hw.2.2.1
  have bj:=hw.2.2.2
  clear hw hz
  have gg:=gg.trans gz
  have e_p:=gz _ _ e_p
  have k_x:=k_x.mono gz
  have bx:=bx.mono gz
  have e_m:=gz _ _ e_m
  have k_z:=k_z.mono gz
  have ag:=gz _ _ ag
  have ak:=gz _ _ ak
  have aw:=gz _ _ aw
  have av:=gz _ _ av
  have e_L:=gz _ _ e_L
  have aI:=gz _ _ aI
  have aN:=gz _ _ aN
  have aB:=gz _ _ aB
  have bZ:=gz _ _ bZ
  refine ⟨h1,q2,_,_,rfl,rfl,(Z4 aN).2,(Z4 bj).2,Zb (Nat.le_trans (Nat.add_le_add_right (cx _ _) _) (leN rfl)),?_⟩
  intro h2 iq
  generalize hz:upd _ h2 _=M6
  have hw:=Z8 hz iq hp
  have hp:=hw.1
  have gz:=hw.2.1
  have ne_h2:=hw.2.2.1
  have dg:=hw.2.2.2
  clear hw hz
  have gg:=gg.trans gz
  have e_p:=gz _ _ e_p
  have k_x:=k_x.mono gz
  have bx:=bx.mono gz
  have e_m:=gz _ _ e_m
  have k_z:=k_z.mono gz
  have ag:=gz _ _ ag
  have ak:=gz _ _ ak
  have aw:=gz _ _ aw
  have av:=gz _ _ av
  have e_L:=gz _ _ e_L
  have aI:=gz _ _ aI
  have aN:=gz _ _ aN
  have aB:=gz _ _ aB
  have bZ:=gz _ _ bZ
  have bj:=gz _ _ bj
  refine ⟨_,rfl,h2,bh,_,_,rfl,rfl,(Z4 dg).2,(Z4 aI).2,Zb (by rw [List.length_append];exact Nat.le_trans (Nat.add_le_add (Nat.add_le_add_right (cx _ _) _) (cx _ _)) (leN rfl)),?_⟩
  intro h3 d_
  generalize hz:upd _ h3 _=M7
  have hw:=Z8 hz d_ hp
  have hp:=hw.1
  have gz:=hw.2.1
  have ne_h3:=hw.2.2.1
  have d7:=hw.2.2.2
  clear hw hz
  have gg:=gg.trans gz
  have e_p:=gz _ _ e_p
  have k_x:=k_x.mono gz
  have bx:=bx.mono gz
  have e_m:=gz _ _ e_m
  have k_z:=k_z.mono gz
  have ag:=gz _ _ ag
  have ak:=gz _ _ ak
  have aw:=gz _ _ aw
  have av:=gz _ _ av
  have e_L:=gz _ _ e_L
  have aI:=gz _ _ aI
  have aN:=gz _ _ aN
  have aB:=gz _ _ aB
  have bZ:=gz _ _ bZ
  have bj:=gz _ _ bj
  have dg:=gz _ _ dg
  exact fin d7 (((bx.cut _ _).app (All.one (Tm bZ e_m k_z (by omega)))).app (bx.cut _ _)) (by rw [List.length_append,List.length_append];exact Nat.le_trans (Nat.add_le_add (Nat.add_le_add_right (cx _ _) _) (cx _ _)) (leN rfl)) hp gg
 refine ⟨_,rfl,rfl,_,rfl,Yu (fun c0=>?_) (fun c0=>?_)⟩
 ·skip
  skip
  refine ⟨_,rfl,_,rfl,_,rfl,p,xs,rfl,Xu e_p,?_⟩
  intro h1 eR
  generalize hz:upd _ h1 _=M1
  have hw:=Z8 hz eR hp
  have hp:=hw.1
  have gz:=hw.2.1
  have ne_h1:=hw.2.2.1
  have aN:=hw.2.2.2
  clear hw hz
  have gg:=gg.trans gz
  have e_p:=gz _ _ e_p
  have k_x:=k_x.mono gz
  have bx:=bx.mono gz
  have e_m:=gz _ _ e_m
  have k_z:=k_z.mono gz
  have ag:=gz _ _ ag
  have ak:=gz _ _ ak
  have aw:=gz _ _ aw
  have av:=gz _ _ av
  have e_L:=gz _ _ e_L
  have aI:=gz _ _ aI
  refine ⟨_,rfl,h1,bh,_,_,rfl,rfl,(Z4 aN).2,(Z4 aI).2,Zb (Nat.le_trans (Nat.add_le_add (cx _ _) (cx _ _)) (leN rfl)),?_⟩
  intro h3 d_
  generalize hz:upd _ h3 _=M7
  have hw:=Z8 hz d_ hp
  have hp:=hw.1
  have gz:=hw.2.1
  have ne_h3:=hw.2.2.1
  have d7:=hw.2.2.2
  clear hw hz
  have gg:=gg.trans gz
  have e_p:=gz _ _ e_p
  have k_x:=k_x.mono gz
  have bx:=bx.mono gz
  have e_m:=gz _ _ e_m
  have k_z:=k_z.mono gz
  have ag:=gz _ _ ag
  have ak:=gz _ _ ak
  have aw:=gz _ _ aw
  have av:=gz _ _ av
  have e_L:=gz _ _ e_L
  have aI:=gz _ _ aI
  have aN:=gz _ _ aN
  exact fin d7 ((bx.cut _ _).app (bx.cut _ _)) (by rw [List.length_append];exact Nat.le_trans (Nat.add_le_add (cx _ _) (cx _ _)) (leN rfl)) hp gg
 refine ⟨_,rfl,rfl,_,rfl,Yu (fun c0=>?_) (fun c0=>?_)⟩
 ·skip
  skip
  refine ⟨_,rfl,_,rfl,_,rfl,p,xs,rfl,Xu e_p,?_⟩
  intro h1 eR
  generalize hz:upd _ h1 _=M1
  have hw:=Z8 hz eR hp
  have hp:=hw.1
  have gz:=hw.2.1
  have ne_h1:=hw.2.2.1
  have aN:=hw.2.2.2
  clear hw hz
  have gg:=gg.trans gz
  have e_p:=gz _ _ e_p
  have k_x:=k_x.mono gz
  have bx:=bx.mono gz
  have e_m:=gz _ _ e_m
  have k_z:=k_z.mono gz
  have ag:=gz _ _ ag
  have ak:=gz _ _ ak
  have aw:=gz _ _ aw
  have av:=gz _ _ av
  have e_L:=gz _ _ e_L
  have aI:=gz _ _ aI
  refine ⟨_,rfl,_,rfl,p,_,_,_,rfl,rfl,Xu e_p,Vb hv,_,rfl,_,rfl,p,_,_,_,rfl,rfl,Xu e_p,Vb hv,leN rfl,?_⟩
  intro q2 de
  generalize hz:upd _ q2 _=M5
  have hw:=Z8 hz de hp
  have hp:=hw.1
  have gz:=hw.2.1
  have ne_q2:=hw.2.2.1
  have bj:=hw.2.2.2
  clear hw hz
  have gg:=gg.trans gz
  have e_p:=gz _ _ e_p
  have k_x:=k_x.mono gz
  have bx:=bx.mono gz
  have e_m:=gz _ _ e_m
  have k_z:=k_z.mono gz
  have ag:=gz _ _ ag
  have ak:=gz _ _ ak
  have aw:=gz _ _ aw
  have av:=gz _ _ av
  have e_L:=gz _ _ e_L
  have aI:=gz _ _ aI
  have aN:=gz _ _ aN
  refine ⟨h1,q2,_,_,rfl,rfl,(Z4 aN).2,(Z4 bj).2,Zb (Nat.le_trans (Nat.add_le_add_right (cx _ _) _) (leN rfl)),?_⟩
  intro h2 iq
  generalize hz:upd _ h2 _=M6
  have hw:=Z8 hz iq hp
  have hp:=hw.1
  have gz:=hw.2.1
  have ne_h2:=hw.2.2.1
  have dg:=hw.2.2.2
  clear hw hz
  have gg:=gg.trans gz
  have e_p:=gz _ _ e_p
  have k_x:=k_x.mono gz
  have bx:=bx.mono gz
  have e_m:=gz _ _ e_m
  have k_z:=k_z.mono gz
  have ag:=gz _ _ ag
  have ak:=gz _ _ ak
  have aw:=gz _ _ aw
  have av:=gz _ _ av
  have e_L:=gz _ _ e_L
  have aI:=gz _ _ aI
  have aN:=gz _ _ aN
  have bj:=gz _ _ bj
  refine ⟨_,rfl,h2,bh,_,_,rfl,rfl,(Z4 dg).2,(Z4 aI).2,Zb (by rw [List.length_append];exact Nat.le_trans (Nat.add_le_add (Nat.add_le_add_right (cx _ _) _) (cx _ _)) (leN rfl)),?_⟩
  intro h3 d_
  generalize hz:upd _ h3 _=M7
  have hw:=Z8 hz d_ hp
  have hp:=hw.1
  have gz:=hw.2.1
  have ne_h3:=hw.2.2.1
  have d7:=hw.2.2.2
  clear hw hz
  have gg:=gg.trans gz
  have e_p:=gz _ _ e_p
  have k_x:=k_x.mono gz
  have bx:=bx.mono gz
  have e_m:=gz _ _ e_m
  have k_z:=k_z.mono gz
  have ag:=gz _ _ ag
  have ak:=gz _ _ ak
  have aw:=gz _ _ aw
  have av:=gz _ _ av
  have e_L:=gz _ _ e_L
  have aI:=gz _ _ aI
  have aN:=gz _ _ aN
  have bj:=gz _ _ bj
  have dg:=gz _ _ dg
  have b9:=bx _ (List.mem_of_getElem? hv)
  exact fin d7 (((bx.cut _ _).app (All.cons b9 (All.one b9))).app (bx.cut _ _)) (by rw [List.length_append,List.length_append];exact Nat.le_trans (Nat.add_le_add (Nat.add_le_add_right (cx _ _) _) (cx _ _)) (leN rfl)) hp gg
 refine ⟨_,rfl,rfl,_,rfl,Yu (fun c0=>?_) (fun c0=>?_)⟩
 ·skip
  skip
  refine ⟨_,rfl,_,rfl,_,rfl,p,xs,rfl,Xu e_p,?_⟩
  intro h1 eR
  generalize hz:upd _ h1 _=M1
  have hw:=Z8 hz eR hp
  have hp:=hw.1
  have gz:=hw.2.1
  have ne_h1:=hw.2.2.1
  have aN:=hw.2.2.2
  clear hw hz
  have gg:=gg.trans gz
  have e_p:=gz _ _ e_p
  have k_x:=k_x.mono gz
  have bx:=bx.mono gz
  have e_m:=gz _ _ e_m
  have k_z:=k_z.mono gz
  have ag:=gz _ _ ag
  have ak:=gz _ _ ak
  have aw:=gz _ _ aw
  have av:=gz _ _ av
  have e_L:=gz _ _ e_L
  have aI:=gz _ _ aI
  refine ⟨_,rfl,_,rfl,leN rfl,?_⟩
  intro tt mo
  generalize hz:upd _ tt _=M2
  have hw:=Z8 hz mo hp
  have hp:=hw.1
  have gz:=hw.2.1
  have ne_tt:=hw.2.2.1
  have bZ:=hw.2.2.2
  clear hw hz
  have gg:=gg.trans gz
  have e_p:=gz _ _ e_p
  have k_x:=k_x.mono gz
  have bx:=bx.mono gz
  have e_m:=gz _ _ e_m
  have k_z:=k_z.mono gz
  have ag:=gz _ _ ag
  have ak:=gz _ _ ak
  have aw:=gz _ _ aw
  have av:=gz _ _ av
  have e_L:=gz _ _ e_L
  have aI:=gz _ _ aI
  have aN:=gz _ _ aN
  refine ⟨_,rfl,_,rfl,_,rfl,_,_,rfl,rfl,leN rfl,?_⟩
  intro tu n_tu
  generalize hz:upd _ tu _=M3
  have hw:=Z8 hz n_tu hp
  have hp:=hw.1
  have gz:=hw.2.1
  have ne_tu:=hw.2.2.1
  have oo:=hw.2.2.2
  clear hw hz
  have gg:=gg.trans gz
  have e_p:=gz _ _ e_p
  have k_x:=k_x.mono gz
  have bx:=bx.mono gz
  have e_m:=gz _ _ e_m
  have k_z:=k_z.mono gz
  have ag:=gz _ _ ag
  have ak:=gz _ _ ak
  have aw:=gz _ _ aw
  have av:=gz _ _ av
  have e_L:=gz _ _ e_L
  have aI:=gz _ _ aI
  have aN:=gz _ _ aN
  have bZ:=gz _ _ bZ
  refine ⟨leN rfl,?_⟩
  intro q1 dX
  generalize hz:upd _ q1 _=M4
  have hw:=Z8 hz dX hp
  have hp:=hw.1
  have gz:=hw.2.1
  have ne_q1:=hw.2.2.1
  have aB:=hw.2.2.2
  clear hw hz
  have gg:=gg.trans gz
  have e_p:=gz _ _ e_p
  have k_x:=k_x.mono gz
  have bx:=bx.mono gz
  have e_m:=gz _ _ e_m
  have k_z:=k_z.mono gz
  have ag:=gz _ _ ag
  have ak:=gz _ _ ak
  have aw:=gz _ _ aw
  have av:=gz _ _ av
  have e_L:=gz _ _ e_L
  have aI:=gz _ _ aI
  have aN:=gz _ _ aN
  have bZ:=gz _ _ bZ
  have oo:=gz _ _ oo
  refine ⟨_,rfl,_,rfl,_,_,rfl,rfl,.inr ⟨_,rfl,_,_,rfl,rfl,_,rfl,q1,_,rfl,Xu aB,?_⟩⟩
  intro q2 de
  generalize hz:upd _ q2 _=M5
  have hw:=Z8 hz de hp
  have hp:=hw.1
  have gz:=hw.2.1
  have ne_q2:=hw.2.2.1
  have bj:=hw.2.2.2
  clear hw hz
  have gg:=gg.trans gz
  have e_p:=gz _ _ e_p
  have k_x:=k_x.mono gz
  have bx:=bx.mono gz
  have e_m:=gz _ _ e_m
  have k_z:=k_z.mono gz
  have ag:=gz _ _ ag
  have ak:=gz _ _ ak
  have aw:=gz _ _ aw
  have av:=gz _ _ av
  have e_L:=gz _ _ e_L
  have aI:=gz _ _ aI
  have aN:=gz _ _ aN
  have bZ:=gz _ _ bZ
  have oo:=gz _ _ oo
  have aB:=gz _ _ aB
  have two:All BE (aA a M5) [.ref tt,.ref tu]:=All.cons (Tm bZ e_m k_z (by omega)) (All.one (Tm oo e_m k_z (by omega)))
  have c2:=fun lo hi=>Xi [V.ref tt,V.ref tu] lo hi
  refine ⟨h1,q2,_,_,rfl,rfl,(Z4 aN).2,(Z4 bj).2,Zb (Nat.le_trans (Nat.add_le_add (cx _ _) (c2 _ _)) (leN rfl)),?_⟩
  skip
  intro h2 iq
  generalize hz:upd _ h2 _=M6
  have hw:=Z8 hz iq hp
  have hp:=hw.1
  have gz:=hw.2.1
  have ne_h2:=hw.2.2.1
  have dg:=hw.2.2.2
  clear hw hz
  have gg:=gg.trans gz
  have aI:=gz _ _ aI
  have bx:=bx.mono gz
  have two:=two.mono gz
  refine ⟨_,rfl,h2,bh,_,_,rfl,rfl,(Z4 dg).2,(Z4 aI).2,Zb (by rw [List.length_append];exact Nat.le_trans (Nat.add_le_add (Nat.add_le_add (cx _ _) (c2 _ _)) (cx _ _)) (leN rfl)),?_⟩
  intro h3 d_
  generalize hz:upd _ h3 _=M7
  have hw:=Z8 hz d_ hp
  have hp:=hw.1
  have gz:=hw.2.1
  have ne_h3:=hw.2.2.1
  have d7:=hw.2.2.2
  clear hw hz
  have gg:=gg.trans gz
  have aI:=gz _ _ aI
  have bx:=bx.mono gz
  have two:=two.mono gz
  have dg:=gz _ _ dg
  exact fin d7 (((bx.cut _ _).app (two.cut _ _)).app (bx.cut _ _)) (by rw [List.length_append,List.length_append];exact Nat.le_trans (Nat.add_le_add (Nat.add_le_add (cx _ _) (c2 _ _)) (cx _ _)) (leN rfl)) hp gg
 refine ⟨_,rfl,rfl,_,rfl,Yu (fun c0=>?_) (fun c0=>?_)⟩
 ·skip
  skip
  refine ⟨_,rfl,_,rfl,_,rfl,p,xs,rfl,Xu e_p,?_⟩
  intro h1 eR
  generalize hz:upd _ h1 _=M1
  have hw:=Z8 hz eR hp
  have hp:=hw.1
  have gz:=hw.2.1
  have ne_h1:=hw.2.2.1
  have aN:=hw.2.2.2
  clear hw hz
  have gg:=gg.trans gz
  have e_p:=gz _ _ e_p
  have k_x:=k_x.mono gz
  have bx:=bx.mono gz
  have e_m:=gz _ _ e_m
  have k_z:=k_z.mono gz
  have ag:=gz _ _ ag
  have ak:=gz _ _ ak
  have aw:=gz _ _ aw
  have av:=gz _ _ av
  have e_L:=gz _ _ e_L
  have aI:=gz _ _ aI
  refine ⟨_,rfl,?_⟩
  refine ⟨_,rfl,a,4,rfl,hp,Xg rfl,ltI rfl,fun d M2 d0 d1 hp gz=>?_⟩
  have gg:=gg.trans gz
  have e_p:=gz _ _ e_p
  have k_x:=k_x.mono gz
  have bx:=bx.mono gz
  have e_m:=gz _ _ e_m
  have k_z:=k_z.mono gz
  have ag:=gz _ _ ag
  have ak:=gz _ _ ak
  have aw:=gz _ _ aw
  have av:=gz _ _ av
  have e_L:=gz _ _ e_L
  have aI:=gz _ _ aI
  have aN:=gz _ _ aN
  obtain ⟨u,hu,mu⟩:=nE e_L d0 d1
  have E5:ZE (aA a M2) (V.str "eaaaq"):=⟨_,rfl,hE.2.2⟩
  obtain ⟨l,rfl,ys,e_l,k_y,yl⟩:∃l,u=.ref l∧∃ys,aA a M2 l=some (.tup ys)∧All ZE (aA a M2) ys∧ys.length<60:=by
   simp only [List.mem_cons,List.not_mem_nil,or_false] at mu
   rcases mu with rfl | rfl | rfl | rfl
   ·exact ⟨_,rfl,_,ag,(k_z.cut _ _).app (k_z.cut _ _),by rw [List.length_append];exact Nat.lt_of_le_of_lt (Nat.add_le_add (c26 _ _) (c26 _ _)) (by decide)⟩
   ·exact ⟨_,rfl,_,ak,((k_z.cut _ _).app (All.one E5)).app (k_z.cut _ _),by rw [List.length_append];exact Nat.lt_of_le_of_lt (Nat.add_le_add l27 (c26 _ _)) (by decide)⟩
   ·exact ⟨_,rfl,_,aw,k_z.rev,by rw [List.length_reverse];omega⟩
   ·exact ⟨_,rfl,_,av,k_z.app (k_z.cut _ _),by rw [List.length_append];exact Nat.lt_of_le_of_lt (Nat.add_le_add zl (c26 _ _)) (by decide)⟩
  refine ⟨L,_,_,_,rfl,rfl,Xu e_L,hu,_,rfl,leN rfl,?_⟩
  skip
  intro tt mo
  generalize hz:upd _ tt _=M4
  have hw:=Z8 hz mo hp
  have hp:=hw.1
  have gz:=hw.2.1
  have ne_tt:=hw.2.2.1
  have bZ:=hw.2.2.2
  clear hw hz
  have gg:=gg.trans gz
  have bx:=bx.mono gz
  have aI:=gz _ _ aI
  have aN:=gz _ _ aN
  have e_l:=gz _ _ e_l
  have k_y:=k_y.mono gz
  refine ⟨leN rfl,?_⟩
  intro q2 de
  generalize hz:upd _ q2 _=M5
  have hw:=Z8 hz de hp
  have hp:=hw.1
  have gz:=hw.2.1
  have ne_q2:=hw.2.2.1
  have bj:=hw.2.2.2
  clear hw hz
  have gg:=gg.trans gz
  have bx:=bx.mono gz
  have aI:=gz _ _ aI
  have aN:=gz _ _ aN
  have e_l:=gz _ _ e_l
  have k_y:=k_y.mono gz
  have bZ:=gz _ _ bZ
  refine ⟨h1,q2,_,_,rfl,rfl,(Z4 aN).2,(Z4 bj).2,Zb (Nat.le_trans (Nat.add_le_add_right (cx _ _) _) (leN rfl)),?_⟩
  intro h2 iq
  generalize hz:upd _ h2 _=M6
  have hw:=Z8 hz iq hp
  have hp:=hw.1
  have gz:=hw.2.1
  have ne_h2:=hw.2.2.1
  have dg:=hw.2.2.2
  clear hw hz
  have gg:=gg.trans gz
  have bx:=bx.mono gz
  have aI:=gz _ _ aI
  have aN:=gz _ _ aN
  have e_l:=gz _ _ e_l
  have k_y:=k_y.mono gz
  have bZ:=gz _ _ bZ
  have bj:=gz _ _ bj
  refine ⟨_,rfl,h2,bh,_,_,rfl,rfl,(Z4 dg).2,(Z4 aI).2,Zb (by rw [List.length_append];exact Nat.le_trans (Nat.add_le_add (Nat.add_le_add_right (cx _ _) _) (cx _ _)) (leN rfl)),?_⟩
  intro h3 d_
  generalize hz:upd _ h3 _=M7
  have hw:=Z8 hz d_ hp
  have hp:=hw.1
  have gz:=hw.2.1
  have ne_h3:=hw.2.2.1
  have d7:=hw.2.2.2
  clear hw hz
  have gg:=gg.trans gz
  have bx:=bx.mono gz
  have aI:=gz _ _ aI
  have aN:=gz _ _ aN
  have e_l:=gz _ _ e_l
  have k_y:=k_y.mono gz
  have bZ:=gz _ _ bZ
  have bj:=gz _ _ bj
  have dg:=gz _ _ dg
  exact fin d7 (((bx.cut _ _).app (All.one (Tm bZ e_l k_y yl))).app (bx.cut _ _)) (by rw [List.length_append,List.length_append];exact Nat.le_trans (Nat.add_le_add (Nat.add_le_add_right (cx _ _) _) (cx _ _)) (leN rfl)) hp gg
 refine ⟨_,rfl,_,rfl,p,xs,rfl,rfl,Xu e_p,?_⟩
 skip
 intro h3 d_
 generalize hz:upd _ h3 _=M7
 have hw:=Z8 hz d_ hp
 have hp:=hw.1
 have gz:=hw.2.1
 have ne_h3:=hw.2.2.1
 have d7:=hw.2.2.2
 clear hw hz
 have gg:=gg.trans gz
 have bx:=bx.mono gz
 exact fin d7 bx.rev (by rw [List.length_reverse];omega) hp gg
end
def h2 (a L:Addr) (H:Hp):Hp:=fun x=>if x=L then none else aA a H x
section
variable {H H1:Hp} {a L b p:Addr} {o u:HO} {xs ms:List V}
theorem Sj (n:b≠L):h2 a L H b=aA a H b:=if_neg n
theorem Sy (h:h2 a L H b=some o):b≠L∧aA a H b=some o:=by
 by_cases z:b=L
 ·unfold h2 at h
  rw [if_pos z] at h
  cases h
 ·exact ⟨z,by rw [Sj z] at h;exact h⟩
theorem gL:Same (h2 a L H) (aA a H):=fun _ _ e=>(Sy e).2
theorem Yx (h:h2 a L H b=some o):H b=some o:=(Z4 (Sy h).2).2
theorem V8:Same (h2 a L H) H:=fun _ _ e=>Yx e
theorem Wl {K:W.Frag} (h:h2 a L H b=some (.tup xs)):SqT K H b xs:=SqT.of (Yx h)
theorem N6 {K:W.Frag} (h:h2 a L H b=some (.lst xs)):SqL K H b xs:=SqL.of (Yx h)
theorem O3 (g:Grw a H H1):Same (h2 a L H) (h2 a L H1):=fun b w hb=>by
 obtain ⟨bL,hb⟩:=Sy hb
 rw [Sj bL]
 exact g _ _ hb
theorem pL (h:upd H L o=H1) (n:H L=none) (hp:PenAt H a):PenAt H1 a∧H1 L=some o∧L≠a∧Same (aA a H) (h2 a L H1):=by
 obtain ⟨hp1,gz,ne,e⟩:=Z8 h n hp
 refine ⟨hp1,(Z4 e).2,ne,fun b w hb=>?_⟩
 rw [Sj (Zs (Z4 hb).2 n)]
 exact gz _ _ hb
theorem Zf (h:upd H p o=H1) (n:H p=none) (hp:PenAt H a) (eL:H L=some u):PenAt H1 a∧H1 L=some u∧Same (h2 a L H) (h2 a L H1)∧h2 a L H1 p=some o:=by
 obtain ⟨hp1,gz,ne,e⟩:=Z8 h n hp
 refine ⟨hp1,Zc h n _ _ eL,O3 gz,?_⟩
 rw [Sj (Zs eL n).symm]
 exact e
theorem Vy (gs:Same H H1) (ez:H1 p=some (.tup xs)) (hp:PenAt H a) (eL:H L=some (.lst ms)):PenAt H1 a∧H1 L=some (.lst ms)∧Same (h2 a L H) (h2 a L H1)∧h2 a L H1 p=some (.tup xs):=by
 have hp1:=hp.same gs
 have eL1:=gs _ _ eL
 refine ⟨hp1,eL1,O3 (hp.grw gs),?_⟩
 rw [Sj (fun z=>by rw [z,eL1] at ez;cases ez)]
 exact hp1.tup ez
theorem Oj (gs:Same H H1) (n:H p=none) (ez:H1 p=some o) (hp:PenAt H a) (eL:H L=some (.lst ms)):PenAt H1 a∧H1 L=some (.lst ms)∧Same (h2 a L H) (h2 a L H1)∧h2 a L H1 p=some o:=by
 refine ⟨hp.same gs,gs _ _ eL,O3 (hp.grw gs),?_⟩
 rw [Sj (Zs eL n).symm,Ym (hp.ne n)]
 exact ez
theorem jr (o:HO) (hp:PenAt H a) (LA:L≠a):PenAt (upd H L o) a∧(upd H L o) L=some o∧Same (h2 a L H) (h2 a L (upd H L o)):=by
 refine ⟨hp.put LA,Ze,fun b w hb=>?_⟩
 obtain ⟨bL,hb⟩:=Sy hb
 rw [Sj bL,Xn bL]
 exact hb
theorem O4 (hp:PenAt H a) (eL:H L=some (.lst ms)):TSt H (h2 a L H):=fun b xs e=>by
 rw [Sj (fun z=>by rw [z,eL] at e;cases e)]
 exact hp.tup e
end
def GE (n:Nat) (H:Hp) (x:V):Prop:=∃c r q p,x=.ref c∧H c=some (.tup [.ref r,.ref q,.ref p])∧SG 1000 H r∧TG H q∧PG n H p
def AllG (n:Nat) (H:Hp) (xs:List V):Prop:=∀x∈xs,GE n H x
theorem GE.mono {n:Nat} {H H':Hp} {x:V} (h:GE n H x) (g:Same H H'):GE n H' x:=let ⟨c,r,q,p,e,h,a,b,d⟩:=h;⟨c,r,q,p,e,g _ _ h,a.mono g,b.mono g,d.mono g⟩
theorem AllG.mono {n:Nat} {H H':Hp} {xs:List V} (h:AllG n H xs) (g:Same H H'):AllG n H' xs:=fun x hx=>(h x hx).mono g
theorem AllG.snoc {n:Nat} {H:Hp} {xs:List V} {x:V} (h:AllG n H xs) (k:GE n H x):AllG n H (xs++[x]):=fun y hy=>(List.mem_append.mp hy).elim (h y) fun q=>by rw [List.mem_singleton.mp q];exact k
theorem AllG.nil {n:Nat} {H:Hp}:AllG n H []:=fun _ h=>nomatch h
def oM:Sp:=fun vs H Q _=>∃(r m:Addr) (xs ys:List V) (n:Int),vs=[.ref r,.ref m,.int n]∧H r=some (.lst xs)∧All TE H xs∧xs.length≤500∧H m=some (.tup ys)∧All ZE H ys∧ys.length≤60∧
 ∀(l:Addr) (H':Hp) (zs:List V),H l=none→Same H H'→H' l=some (.lst zs)→All TE H' zs→zs.length≤1000→Q (.ref l) H'
section
variable {P:Program} {w:World} {K:W.Frag} {mg:Str→Option Value} {base:Heap} {f:Addr} {fd:FuncData}
theorem pC (F:Fun K "_law_with" "_law_with" cp f fd):FnOk P w K mg base CX0 1 f fd ["_law_stream_here","_law_marks","_law_many_here"] oM:=by
 refine F.ok ld (fun vs H Q E h=>?_) (fun cdv A outer s H vs Q E hr h=>?_)
 ·obtain ⟨r,m,xs,ys,n,rfl,_⟩:=h
  rfl
 obtain ⟨r,m,xs,ys,n,rfl,e_r,k_x,xl,e_m,k_y,yl,hq⟩:=h
 refine ⟨_,(@Z9 _ _ _ (@Zg _ _ _ _ (@Za _ _ _ _ _ _ _ _ Yk (pv 0) (Yh (own:=["_law_mark"]) (CompOk.of rfl rfl (by rfl) (by rfl) (by rfl)) (Xk (pv 1))
  (fun _ _ _ _ _=>(Z5 (i:=0) S3 rfl (Or.inl rfl) (Or.inr rfl))) (fun _ _ _ _ _=>(Vu (@Zm _ _ _ _ _ _ _ _ U3 (pv 3) Z2 (Zk _))))
  (fun _ _ _ _ _=>(@Zh _ _ _ _ _ (@Z0 _ _ _ _ _ Z2 (@Z0 _ _ _ _ _ (pv 0) (@Z0 _ _ _ _ _ Z2 (@Z0 _ _ _ _ _ (pv 3) Z1 (by rfl)) (by rfl)) (by rfl)) (by rfl)))))))),?_⟩
 refine ⟨_,rfl,_,rfl,m,rfl,⟨_,SqT.of e_m⟩,?_⟩
 refine Xv (xs:=ys) (fun i out H'=>Same H H'∧All TE H' out∧out.length≤i) ⟨Same.refl _,All.nil,Nat.le_refl _⟩ ?_ ?_ ?_
 ·rintro i out H' _ ⟨g,_⟩
  exact SqT.of (g _ _ e_m)
 ·rintro i x out H1 C hx ⟨g,al,ol⟩ hC
  obtain ⟨z,rfl,mz⟩:=k_y x (List.mem_of_getElem? hx)
  have il:i<ys.length:=(List.getElem?_eq_some_iff.mp hx).1
  refine ⟨Zn (by omega),Wk.refl _,_,rfl,_,_,rfl,rfl,_,rfl,Yu (fun c=>?_) (fun c=>?_)⟩
  ·refine ⟨_,rfl,_,rfl,leN rfl,?_⟩
   have gg:=g
   intro t n_t
   generalize hz:upd _ t _=H2
   have gz:=Zc hz n_t
   have e_t:=Zi hz
   clear hz
   have gg:=gg.trans gz
   exact hC _ _ ⟨gg,(al.mono gz).app (All.one ⟨t,⟨0,z,0,n⟩,rfl,e_t,mz.2⟩),by rw [List.length_append];exact Nat.add_le_add_right ol 1⟩
  ·exact hC _ _ ⟨g,al,by omega⟩
 rintro out H1 ⟨gg,al,ol⟩
 refine ⟨Zb (by omega),?_⟩
 intro m1 hG
 generalize hz:upd _ m1 _=H2
 have gz:=Zc hz hG
 have ee:=Zi hz
 clear hz
 have gg:=gg.trans gz
 have al:=al.mono gz
 refine ⟨r,m1,_,_,rfl,rfl,gg _ _ e_r,ee,Zb (by omega),?_⟩
 intro l n_l
 generalize hz:upd _ l _=H3
 have gz:=Zc hz n_l
 have e_l:=Zi hz
 exact hq l H3 _ (We gg n_l) (gg.trans gz) e_l ((k_x.mono (gg.trans gz)).app (al.mono gz)) (by rw [List.length_append];omega)
end
def mf:Sp:=fun vs H Q _=>∃(a r q p c:Addr) (xs ys rows:List V) (room lt tot:Int),vs=[.ref a,.ref r,.ref q,.ref p]∧PenAt H a∧aA a H r=some (.lst xs)∧All TE (aA a H) xs∧xs.length≤100∧aA a H q=some (.tup [.int room,.ref c,.int lt,.int tot])∧aA a H c=some (.tup rows)∧All CE (aA a H) rows∧rows.length≤20∧1≤room∧room≤20∧
 aA a H p=some (.lst ys)∧All BE (aA a H) ys∧ys.length≤1400∧∀(l:Addr) (H':Hp) (zs:List V),aA a H' l=some (.lst zs)→AllG 3000 (aA a H') zs→zs.length≤100→PenAt H' a→Grw a H H'→Q (.ref l) H'
theorem qe {H:Hp} {zs:List Str} (h:∀z∈zs,z∈words):All ZE H (zs.map V.str):=fun x hx=>by
 obtain ⟨z,hz,rfl⟩:=List.mem_map.mp hx
 exact ⟨z,rfl,R5 z (h z hz)⟩
theorem Vh {H H1:Hp} {a L:Addr} {o:HO} (h:upd H L o=H1) (hp:PenAt H a) (LA:L≠a):PenAt H1 a∧H1 L=some o∧Same (h2 a L H) (h2 a L H1):=by
 subst h
 exact jr o hp LA
theorem Ov {H:Hp}:∀{xs:List V},All CE H xs→∃as:List Addr,xs=as.map V.ref∧as.length=xs.length∧∀b∈as,CE H (.ref b)
 | [],_=>⟨[],rfl,rfl,(fun _ h=>nomatch h)⟩
 | x::xs,h=>by
  obtain ⟨c,z,n,rfl,e,w⟩:=h x (.head _)
  obtain ⟨as,rfl,l,g⟩:=Ov fun y hy=>h y (.tail _ hy)
  exact ⟨c::as,rfl,by rw [List.length_cons,List.length_cons,l],fun y hy=>(List.mem_cons.mp hy).elim (fun q=>by rw [q];exact ⟨c,z,n,rfl,e,w⟩) (g y)⟩
theorem jN {H:Hp} {as bs:List Addr} (p:bs.Perm as) (h:∀b∈as,CE H (.ref b)):All CE H (bs.map V.ref):=fun x hx=>by
 obtain ⟨b,hb,rfl⟩:=List.mem_map.mp hx
 exact h b (p.mem_iff.mp hb)
theorem nB {H:Hp} {b:Addr} (h:CE H (.ref b)):∃k,FSI H b k:=by
 obtain ⟨c,z,n,e,h,_⟩:=h
 cases e
 exact ⟨_,z,n,h,rfl⟩
section
variable {P:Program} {w:World} {K:W.Frag} {mg:Str→Option Value} {base:Heap} {f:Addr} {fd:FuncData}
theorem qg (aD:mg "len"=none) (ay:mg "tuple"=none) (aL:mg "sorted"=none) (bS:mg "range"=none) (bO:mg "dict"=none) (cq:mg "sum"=none) (ai:Has P w K mg base "_law_draw" 1 ["_law_pen_here","_law_size"] bN) (ef:Has P w K mg base "_law_word" 1 ["_law_pen_here","_law_k"] ij)
  (dU:Has P w K mg base "_law_with" 1 ["_law_stream_here","_law_marks","_law_many_here"] oM)
  (F:Fun K "_law_forged" "_law_forged" bF f fd):FnOk P w K mg base CX0 2 f fd ["_law_pen_here","_law_stream_here","_law_tally","_law_paper"] mf:=by
 refine F.ok Zq (fun vs H Q E h=>?_) (fun cdv A outer s H vs Q E hr h=>?_)
 ·obtain ⟨a,r,q,p,c,xs,ys,rows,room,lt,tot,rfl,_⟩:=h
  rfl
 obtain ⟨a,r,q,p,c,xs,ys,rows,room,lt,tot,rfl,hp,e_r,k_x,xl,e_q,e_c,k_c,rl,r1,r2,e_p,k_p,pl,hq⟩:=h
 refine ⟨_,(@Z3 _ _ _ _ _ (X7 (pv 2) (Yq rfl (Z6 (Z5 (i:=4) Zq.nd rfl (Or.inr rfl)) (Z6 (Z5 (i:=5) Zq.nd rfl (Or.inr rfl)) (Z6 (Z5 (i:=6) Zq.nd rfl (Or.inl rfl)) (Z6 (Z5 (i:=7) Zq.nd rfl (Or.inl rfl)) Zx))))))
 (@Z3 _ _ _ _ _ (@Zj _ _ 8 _ _ _ _ Zq.nd rfl (Or.inl rfl) (Y5 Yv rfl ay PyProof.Rows.boot_tuple (@Z0 _ _ _ _ _ (Zd (iO rfl) rfl aL PyProof.Rows.boot_sorted (@Z0 _ _ _ _ _ (Yh (own:=["_law_k"]) (CompOk.of rfl rfl (by rfl) (by rfl) (by rfl)) (S0 rfl bS (@Z0 _ _ _ _ _ Z2 Z1 (by rfl)))
  (fun _ _ _ _ _=>(Z5 (i:=0) Ul rfl (Or.inl rfl) (Or.inr rfl))) (fun _ _ _ _ _=>Ys)
  (fun _ _ _ _ _=>(Z7 ef hr (@Z0 _ _ _ _ _ (pv 1) (@Z0 _ _ _ _ _ (pv 0) Z1 (by rfl)) (by rfl))))) Z1 (by rfl))) Z1 (by rfl))) (by rfl) (by first | exact .inl rfl | exact .inr rfl))
 (@Z3 _ _ _ _ _ (@Zj _ _ 9 _ _ _ _ Zq.nd rfl (Or.inl rfl) (Z7 ai hr (@Z0 _ _ _ _ _ (pv 0) (@Z0 _ _ _ _ _ (@Za _ _ _ _ _ _ _ _ Wa Z2 (pv 4)) Z1 (by rfl)) (by rfl))) (by rfl) (by first | exact .inl rfl | exact .inr rfl))
 (@Z3 _ _ _ _ _ (@Zj _ _ 10 _ _ _ _ Zq.nd rfl (Or.inl rfl) (Zr Yj (pv 8) (Zt (pv 9)) (Zt (@Za _ _ _ _ _ _ _ _ Zp (pv 9) (pv 4)))) (by rfl) (by first | exact .inl rfl | exact .inr rfl))
 (@Z3 _ _ _ _ _ (@Zj _ _ 11 _ _ _ _ Zq.nd rfl (Or.inl rfl) (Zr Yj (pv 8) (Zt (pv 9)) (Zt (@Za _ _ _ _ _ _ _ _ Zp (@Za _ _ _ _ _ _ _ _ Zp (pv 9) (pv 4)) Z2))) (by rfl) (by first | exact .inl rfl | exact .inr rfl))
 (@Z3 _ _ _ _ _ (@Zj _ _ 12 _ _ _ _ Zq.nd rfl (Or.inr rfl) (@Za _ _ _ _ _ _ _ _ Zp Z2 (Z7 ai hr (@Z0 _ _ _ _ _ (pv 0) (@Z0 _ _ _ _ _ Z2 Z1 (by rfl)) (by rfl)))) (by rfl) (by first | exact .inl rfl | exact .inr rfl))
 (@Z3 _ _ _ _ _ (@Zj _ _ 13 _ _ _ _ Zq.nd rfl (Or.inl rfl) (@Za _ _ _ _ _ _ _ _ Xa (pv 10) (Zr Yj (pv 10) (Zt (@U2 _ _ _ _ _ _ Wt Z2)) Zz)) (by rfl) (by first | exact .inl rfl | exact .inr rfl))
 (@Z3 _ _ _ _ _ (@Zj _ _ 14 _ _ _ _ Zq.nd rfl (Or.inl rfl) (@Y4 _ _ _ _ Z1) (by rfl) (by first | exact .inl rfl | exact .inr rfl))
 (@Z3 _ _ _ _ _ (Xx PassesOwn.never rfl (Xk (@Zh _ _ _ _ _ (@Z0 _ _ _ _ _ (pv 10) (@Z0 _ _ _ _ _ (pv 13) (@Z0 _ _ _ _ _ (Of (pv 11) (@U2 _ _ _ _ _ _ Wt Z2)) Z1 (by rfl)) (by rfl)) (by rfl)))) (Z5 (i:=15) Zq.nd rfl (Or.inl rfl))
 (@Z3 _ _ _ _ _ (@Zj _ _ 16 _ _ _ _ Zq.nd rfl (Or.inl rfl) (@Zh _ _ _ _ _ (@Z0 _ _ _ _ _ (pv 4) (@Z0 _ _ _ _ _ (pv 5) (@Z0 _ _ _ _ _ (@Za _ _ _ _ _ _ _ _ Zp (pv 6) (pv 12)) (@Z0 _ _ _ _ _ (@Za _ _ _ _ _ _ _ _ Zp (pv 7) (@Za _ _ _ _ _ _ _ _ Wb (pv 12) (Zd Zo rfl aD PySem.boot_len (@Z0 _ _ _ _ _ (pv 15) Z1 (by rfl))))) Z1 (by rfl)) (by rfl)) (by rfl)) (by rfl))) (by rfl) (by first | exact .inl rfl | exact .inr rfl))
 (@Z9 _ _ _ (V4 (Se PySem.F.plainAttrs_list PySem.F.slot_list_append PySem.F.type_list_append Xz (pv 14) (@Z0 _ _ _ _ _ (@Zh _ _ _ _ _ (@Z0 _ _ _ _ _ (Z7 dU hr (@Z0 _ _ _ _ _ (pv 1) (@Z0 _ _ _ _ _ (pv 15) (@Z0 _ _ _ _ _ (pv 12) Z1 (by rfl)) (by rfl)) (by rfl))) (@Z0 _ _ _ _ _ (pv 16) (@Z0 _ _ _ _ _ (@Y4 _ _ _ _ (@Z0 _ _ _ _ _ (@Zh _ _ _ _ _ (@Z0 _ _ _ _ _ (pv 15) (@Z0 _ _ _ _ _ (pv 12) Z1 (by rfl)) (by rfl))) Z1 (by rfl))) Z1 (by rfl)) (by rfl)) (by rfl))) Z1 (by rfl)))))))
 (@Z3 _ _ _ _ _ (V4 (Se PySem.F.plainAttrs_list PySem.F.slot_list_append PySem.F.type_list_append Xz (pv 14) (@Z0 _ _ _ _ _ (@Zh _ _ _ _ _ (@Z0 _ _ _ _ _ (pv 1) (@Z0 _ _ _ _ _ (pv 2) (@Z0 _ _ _ _ _ (@Y4 _ _ _ _ (@Z0 _ _ _ _ _ (@Zh _ _ _ _ _ (@Z0 _ _ _ _ _ (pv 11) (@Z0 _ _ _ _ _ Z2 Z1 (by rfl)) (by rfl))) Z1 (by rfl))) Z1 (by rfl)) (by rfl)) (by rfl))) Z1 (by rfl))))
 (@Z3 _ _ _ _ _ (V4 (Se PySem.F.plainAttrs_list PySem.F.slot_list_append PySem.F.type_list_append Xz (pv 14) (@Z0 _ _ _ _ _ (@Zh _ _ _ _ _ (@Z0 _ _ _ _ _ (pv 1) (@Z0 _ _ _ _ _ (pv 2) (@Z0 _ _ _ _ _ (@Y4 _ _ _ _ (@Z0 _ _ _ _ _ (@Zh _ _ _ _ _ (@Z0 _ _ _ _ _ (pv 11) (@Z0 _ _ _ _ _ (pv 12) Z1 (by rfl)) (by rfl))) (@Z0 _ _ _ _ _ (@Zh _ _ _ _ _ (@Z0 _ _ _ _ _ (pv 11) (@Z0 _ _ _ _ _ (@Za _ _ _ _ _ _ _ _ Wa Z2 (pv 12)) Z1 (by rfl)) (by rfl))) Z1 (by rfl)) (by rfl))) Z1 (by rfl)) (by rfl)) (by rfl))) Z1 (by rfl))))
 (@Z3 _ _ _ _ _ (@Zj _ _ 17 _ _ _ _ Zq.nd rfl (Or.inl rfl) (Y5 Yv rfl ay PyProof.Rows.boot_tuple (@Z0 _ _ _ _ _ (Zd (Ti hr.units) rfl aL PyProof.Rows.boot_sorted (@Z0 _ _ _ _ _ (@Za _ _ _ _ _ _ _ _ Xa (pv 5) (@Zh _ _ _ _ _ (@Z0 _ _ _ _ _ (@Zh _ _ _ _ _ (@Z0 _ _ _ _ _ V5 (@Z0 _ _ _ _ _ Z2 Z1 (by rfl)) (by rfl))) Z1 (by rfl)))) Z1 (by rfl))) Z1 (by rfl))) (by rfl) (by first | exact .inl rfl | exact .inr rfl))
 (@Z3 _ _ _ _ _ (@Yc _ _ _ _ _ _ _ _ (@Zm _ _ _ _ _ _ _ _ P3 (Zd Zo rfl aD PySem.boot_len (@Z0 _ _ _ _ _ (pv 17) Z1 (by rfl))) (pv 4) (Zk _)) (@Z9 _ _ _ (V4 (Se PySem.F.plainAttrs_list PySem.F.slot_list_append PySem.F.type_list_append Xz (pv 14) (@Z0 _ _ _ _ _ (@Zh _ _ _ _ _ (@Z0 _ _ _ _ _ (pv 1) (@Z0 _ _ _ _ _ (@Zh _ _ _ _ _ (@Z0 _ _ _ _ _ (pv 4) (@Z0 _ _ _ _ _ (pv 17) (@Z0 _ _ _ _ _ (pv 6) (@Z0 _ _ _ _ _ (pv 7) Z1 (by rfl)) (by rfl)) (by rfl)) (by rfl))) (@Z0 _ _ _ _ _ (@Y4 _ _ _ _ Z1) Z1 (by rfl)) (by rfl)) (by rfl))) Z1 (by rfl))))) Zu)
 (Yz 20 (@Z3 _ _ _ _ _ (@Zj _ _ 18 _ _ _ _ Zq.nd rfl (Or.inl rfl) (Y5 Yv rfl ay PyProof.Rows.boot_tuple (@Z0 _ _ _ _ _ (Zr X9 (Rk ["_law_pen_here","_law_stream_here","_law_tally","_law_paper","_law_room_here","_law_counts","_law_let","_law_total","_law_words","_law_at","_law_few","_law_wide","_law_many_here","_law_twice","_law_made","_law_marks","_law_other","_law_kept","_law_over","_law_parted","#20","_law_count","_law_found","_law_plain","_law_full"] (Yh (own:=["_law_mark"]) (CompOk.of rfl rfl (by rfl) (by rfl) (by rfl)) (Xk (pv 8))
  (fun _ _ _ _ _=>(Z5 (i:=0) Uk rfl (Or.inl rfl) (Or.inr rfl))) (fun _ _ _ _ _=>(Vu (@Zm _ _ _ _ _ _ _ _ lm (pv 0) (Y5 (Va rfl) rfl bO PyProof.Rows.boot_dict (@Z0 _ _ _ _ _ (pv 6) Z1 (by rfl))) (by with_unfolding_all rfl))))
  (fun _ _ _ _ _=>(pv 0)))) Zz (Zt (@Za _ _ _ _ _ _ _ _ Wa (@Za _ _ _ _ _ _ _ _ Zp (pv 4) Z2) (Zd Zo rfl aD PySem.boot_len (@Z0 _ _ _ _ _ (pv 5) Z1 (by rfl)))))) Z1 (by rfl))) (by rfl) (by first | exact .inl rfl | exact .inr rfl))
 (Yz 20 (@Z3 _ _ _ _ _ (@Zj _ _ 17 _ _ _ _ Zq.nd rfl (Or.inl rfl) (Y5 Yv rfl ay PyProof.Rows.boot_tuple (@Z0 _ _ _ _ _ (Zd (Ti hr.units) rfl aL PyProof.Rows.boot_sorted (@Z0 _ _ _ _ _ (@Za _ _ _ _ _ _ _ _ Xa (pv 5) (Y5 Yv rfl ay PyProof.Rows.boot_tuple (@Z0 _ _ _ _ _ (Rk ["_law_pen_here","_law_stream_here","_law_tally","_law_paper","_law_room_here","_law_counts","_law_let","_law_total","_law_words","_law_at","_law_few","_law_wide","_law_many_here","_law_twice","_law_made","_law_marks","_law_other","_law_kept","_law_over","_law_parted","#20","_law_count","_law_found","_law_plain","_law_full"] (Yh (own:=["_law_mark"]) (CompOk.of rfl rfl (by rfl) (by rfl) (by rfl)) (Xk (pv 18))
  (fun _ _ _ _ _=>(Z5 (i:=0) Uj rfl (Or.inl rfl) (Or.inr rfl))) (fun _ _ _ _ _=>Ys)
  (fun _ _ _ _ _=>(@Zh _ _ _ _ _ (@Z0 _ _ _ _ _ (pv 0) (@Z0 _ _ _ _ _ (pv 13) Z1 (by rfl)) (by rfl)))))) Z1 (by rfl)))) Z1 (by rfl))) Z1 (by rfl))) (by rfl) (by first | exact .inl rfl | exact .inr rfl))
 (@Z3 _ _ _ _ _ (V4 (Se PySem.F.plainAttrs_list PySem.F.slot_list_append PySem.F.type_list_append Xz (pv 14) (@Z0 _ _ _ _ _ (@Zh _ _ _ _ _ (@Z0 _ _ _ _ _ (Z7 dU hr (@Z0 _ _ _ _ _ (pv 1) (@Z0 _ _ _ _ _ (pv 18) (@Z0 _ _ _ _ _ (pv 12) Z1 (by rfl)) (by rfl)) (by rfl))) (@Z0 _ _ _ _ _ (@Zh _ _ _ _ _ (@Z0 _ _ _ _ _ (pv 4) (@Z0 _ _ _ _ _ (pv 17) (@Z0 _ _ _ _ _ (pv 6) (@Z0 _ _ _ _ _ (@Za _ _ _ _ _ _ _ _ Zp (pv 7) (@Za _ _ _ _ _ _ _ _ Wb (pv 12) (Zd Zo rfl aD PySem.boot_len (@Z0 _ _ _ _ _ (pv 18) Z1 (by rfl))))) Z1 (by rfl)) (by rfl)) (by rfl)) (by rfl))) (@Z0 _ _ _ _ _ (@Y4 _ _ _ _ Z1) Z1 (by rfl)) (by rfl)) (by rfl))) Z1 (by rfl))))
 (@Z3 _ _ _ _ _ (Sw (i:=19) Zq.nd rfl rfl (own:=["_law_one"]) (CompOk.of rfl rfl (by rfl) (by rfl) (by rfl)) (Xk (Zr Yj (pv 5) Zz (Zt Z2)))
  (fun _ _ _ _ _=>(Z5 (i:=0) Ui rfl (Or.inl rfl) (Or.inr rfl))) (fun _ _ _ _ _=>(Vu (PW.pt (@m_ _ _ _ _ _ _ _ (@Zm _ _ _ _ _ _ _ _ U3 (@Y0 _ _ _ _ _ _ _ (jj K rfl) (pv 0) Z2 (fun _ _=>rfl)) Z2 (Zk _)) (@jB _ _ _ _ (@Zm _ _ _ _ _ _ _ _ Vj (Zd (Qo K rfl) rfl aD PySem.boot_len (@Z0 _ _ _ _ _ (pv 6) Z1 (by rfl))) (pv 5) (Zk _)))))))
  (fun _ _ _ _ _=>(pv 0)))
 (@Z3 _ _ _ _ _ (Xx PassesOwn.never rfl (X0 (pv 19)) (Yq rfl (Z6 (Z5 (i:=20) Zq.nd rfl (Or.inl rfl)) (Z6 (Z5 (i:=21) Zq.nd rfl (Or.inl rfl)) Zx)))
 (@Z9 _ _ _ (V4 (Se PySem.F.plainAttrs_list PySem.F.slot_list_append PySem.F.type_list_append Xz (pv 14) (@Z0 _ _ _ _ _ (@Zh _ _ _ _ _ (@Z0 _ _ _ _ _ (pv 1) (@Z0 _ _ _ _ _ (@Zh _ _ _ _ _ (@Z0 _ _ _ _ _ (pv 4) (@Z0 _ _ _ _ _ (@Za _ _ _ _ _ _ _ _ Xa (@Zh _ _ _ _ _ (@Z0 _ _ _ _ _ (@Zh _ _ _ _ _ (@Z0 _ _ _ _ _ (pv 20) (@Z0 _ _ _ _ _ Z2 Z1 (by rfl)) (by rfl))) (@Z0 _ _ _ _ _ (@Zh _ _ _ _ _ (@Z0 _ _ _ _ _ (pv 20) (@Z0 _ _ _ _ _ (@Za _ _ _ _ _ _ _ _ Wa (pv 21) Z2) Z1 (by rfl)) (by rfl))) Z1 (by rfl)) (by rfl))) (Zr Yj (pv 5) (Zt Z2) Zz)) (@Z0 _ _ _ _ _ (pv 6) (@Z0 _ _ _ _ _ (pv 7) Z1 (by rfl)) (by rfl)) (by rfl)) (by rfl))) (@Z0 _ _ _ _ _ (@Y4 _ _ _ _ Z1) Z1 (by rfl)) (by rfl)) (by rfl))) Z1 (by rfl))))))
 (Yz 16 (@Z3 _ _ _ _ _ (mY ["_law_pen_here","_law_stream_here","_law_tally","_law_paper","_law_room_here","_law_counts","_law_let","_law_total","_law_words","_law_at","_law_few","_law_wide","_law_many_here","_law_twice","_law_made","_law_marks","#16","_law_kept","_law_over","_law_parted","_law_mark","_law_count","_law_found","_law_plain","_law_full"] (Sw (i:=22) (show List.Nodup (["_law_pen_here","_law_stream_here","_law_tally","_law_paper","_law_room_here","_law_counts","_law_let","_law_total","_law_words","_law_at","_law_few","_law_wide","_law_many_here","_law_twice","_law_made","_law_marks","#16","_law_kept","_law_over","_law_parted","_law_mark","_law_count","_law_found","_law_plain","_law_full"]:List Str) by decide +kernel) rfl rfl (own:=["_law_one","_law_other","_law_more"]) (CompOk.of rfl rfl (by rfl) (by rfl) (by rfl)) (X0 (pv 14))
  (fun _ _ _ _ _=>(W5 K 3 rfl rfl (Z6 (Z5 (i:=0) Xl rfl (Or.inl rfl) (Or.inr rfl)) (Z6 (Z5 (i:=1) Xl rfl (Or.inl rfl) (Or.inr rfl)) (Z6 (Z5 (i:=2) Xl rfl (Or.inl rfl) (Or.inr rfl)) Zx))))) (fun _ _ _ _ _=>Ys)
  (fun _ _ _ _ _=>(@Zh _ _ _ _ _ (@Z0 _ _ _ _ _ (pv 0) (@Z0 _ _ _ _ _ (pv 1) (@Z0 _ _ _ _ _ (@Za _ _ _ _ _ _ _ _ Yk (pv 6) (pv 2)) Z1 (by rfl)) (by rfl)) (by rfl))))))
 (Yz 21 (Yz 20 (@Z3 _ _ _ _ _ (mY ["_law_pen_here","_law_stream_here","_law_tally","_law_paper","_law_room_here","_law_counts","_law_let","_law_total","_law_words","_law_at","_law_few","_law_wide","_law_many_here","_law_twice","_law_made","_law_marks","_law_other","_law_kept","_law_over","_law_parted","#20","#21","_law_found","_law_plain","_law_full"] (Sw (i:=23) (show List.Nodup (["_law_pen_here","_law_stream_here","_law_tally","_law_paper","_law_room_here","_law_counts","_law_let","_law_total","_law_words","_law_at","_law_few","_law_wide","_law_many_here","_law_twice","_law_made","_law_marks","_law_other","_law_kept","_law_over","_law_parted","#20","#21","_law_found","_law_plain","_law_full"]:List Str) by decide +kernel) rfl rfl (own:=["_law_mark","_law_count"]) (CompOk.of rfl rfl (by rfl) (by rfl) (by rfl)) (Xk (pv 5))
  (fun _ _ _ _ _=>(W5 K 2 rfl rfl (Z6 (Z5 (i:=0) Wn rfl (Or.inl rfl) (Or.inr rfl)) (Z6 (Z5 (i:=1) Wn rfl (Or.inl rfl) (Or.inr rfl)) Zx)))) (fun _ _ _ _ _=>Ys)
  (fun _ _ _ _ _=>(@Zh _ _ _ _ _ (@Z0 _ _ _ _ _ Z2 (@Z0 _ _ _ _ _ (pv 0) (@Z0 _ _ _ _ _ Z2 (@Z0 _ _ _ _ _ (pv 1) Z1 (by rfl)) (by rfl)) (by rfl)) (by rfl))))))
 (@Z3 _ _ _ _ _ (@Zj _ _ 24 _ _ _ _ Zq.nd rfl (Or.inl rfl) (Zr Yj (pv 8) (Zt (@Za _ _ _ _ _ _ _ _ Xq (pv 9) Z2)) (Zt (@Za _ _ _ _ _ _ _ _ Zp (@Za _ _ _ _ _ _ _ _ Xq (pv 9) Z2) Z2))) (by rfl) (by first | exact .inl rfl | exact .inr rfl))
 (@Z3 _ _ _ _ _ (@Zj _ _ 16 _ _ _ _ Zq.nd rfl (Or.inl rfl) (@Zh _ _ _ _ _ (@Z0 _ _ _ _ _ Z2 (@Z0 _ _ _ _ _ (pv 5) (@Z0 _ _ _ _ _ (pv 12) (@Z0 _ _ _ _ _ (@Za _ _ _ _ _ _ _ _ Zp (Zd (Tg rfl) rfl cq PyProof.Rows.boot_sum (@Z0 _ _ _ _ _ (Yh (own:=["_law_one"]) (CompOk.of rfl rfl (by rfl) (by rfl) (by rfl)) (Xk (pv 5))
  (fun _ _ _ _ _=>(Z5 (i:=0) Uh rfl (Or.inl rfl) (Or.inr rfl))) (fun _ _ _ _ _=>Ys)
  (fun _ _ _ _ _=>(@Y0 _ _ _ _ _ _ _ (jj K rfl) (pv 0) Z2 (fun _ _=>rfl)))) Z1 (by rfl))) (@Za _ _ _ _ _ _ _ _ Wb (pv 12) Z2)) Z1 (by rfl)) (by rfl)) (by rfl)) (by rfl))) (by rfl) (by first | exact .inl rfl | exact .inr rfl))
 (@Z9 _ _ _ (@Zg _ _ _ _ (@Za _ _ _ _ _ _ _ _ Yk (pv 22) (@Y4 _ _ _ _ (@Z0 _ _ _ _ _ (@Zh _ _ _ _ _ (@Z0 _ _ _ _ _ (Z7 dU hr (@Z0 _ _ _ _ _ (pv 23) (@Z0 _ _ _ _ _ (pv 24) (@Z0 _ _ _ _ _ (pv 12) Z1 (by rfl)) (by rfl)) (by rfl))) (@Z0 _ _ _ _ _ (pv 16) (@Z0 _ _ _ _ _ (@Y4 _ _ _ _ (@Z0 _ _ _ _ _ (@Zh _ _ _ _ _ (@Z0 _ _ _ _ _ (pv 24) (@Z0 _ _ _ _ _ (pv 12) Z1 (by rfl)) (by rfl))) Z1 (by rfl))) Z1 (by rfl)) (by rfl)) (by rfl))) Z1 (by rfl))))))))))))))))))))))))))))))))),?_⟩
 have gg:Grw a H H:=Same.refl _
 refine ⟨_,rfl,q,_,rfl,Rw e_q,rfl,_,_,rfl,_,_,rfl,_,_,rfl,_,_,rfl,rfl,?_⟩
 dsimp only
 refine ⟨26,rfl,leI rfl,ltI rfl,?_⟩
 refine Qa (fun j ys H'=>PenAt H' a∧Grw a H H'∧∃zs:List Str,ys=zs.map V.str∧zs.length=j∧∀z∈zs,z∈words) ⟨hp,Same.refl _,[],rfl,rfl,(fun _ h=>nomatch h)⟩ ?_ ?_
 ·rintro j ys H4 C hj ⟨hp4,g4,zs,rfl,zl,zw⟩ hC
  refine ⟨Zn (by rw [List.length_map];omega),Wk.refl _,_,rfl,_,rfl,_,_,rfl,fun z H5 hz s5=>hC _ _ ⟨hp4.same s5,g4.trans (hp4.grw s5),zs++[z],by rw [List.map_append];rfl,by rw [List.length_append,zl];rfl,fun y hy=>?_⟩⟩
  rcases List.mem_append.mp hy with q | q
  ·exact zw y q
  ·rw [List.mem_singleton.mp q];exact hz
 rintro ys0 H1 ⟨hp,gz,zs,rfl,zl,zw⟩
 skip
 have gg:=gg.trans gz
 have e_r:=gz _ _ e_r
 have k_x:=k_x.mono gz
 have e_q:=gz _ _ e_q
 have e_c:=gz _ _ e_c
 have k_c:=k_c.mono gz
 have e_p:=gz _ _ e_p
 have k_p:=k_p.mono gz
 refine ⟨Zb (by rw [List.length_map,zl];decide),?_⟩
 intro m1 hG
 generalize hz:upd _ m1 _=H2
 have hw:=Z8 hz hG hp
 have hp:=hw.1
 have gz:=hw.2.1
 have ne_m1:=hw.2.2.1
 have ee:=hw.2.2.2
 clear hw hz
 have gg:=gg.trans gz
 have e_r:=gz _ _ e_r
 have k_x:=k_x.mono gz
 have e_q:=gz _ _ e_q
 have e_c:=gz _ _ e_c
 have k_c:=k_c.mono gz
 have e_p:=gz _ _ e_p
 have k_p:=k_p.mono gz
 refine ⟨m1,zs,rfl,Xu ee,by omega,?_⟩
 intro m2 tR
 generalize hz:upd _ m2 _=H3
 have hw:=Z8 hz tR hp
 have hp:=hw.1
 have gz:=hw.2.1
 have ne_m2:=hw.2.2.1
 have tN:=hw.2.2.2
 clear hw hz
 have gg:=gg.trans gz
 have e_r:=gz _ _ e_r
 have k_x:=k_x.mono gz
 have e_q:=gz _ _ e_q
 have e_c:=gz _ _ e_c
 have k_c:=k_c.mono gz
 have e_p:=gz _ _ e_p
 have k_p:=k_p.mono gz
 have ee:=gz _ _ ee
 refine ⟨m2,_,rfl,.inl ⟨Xu tN,?_⟩⟩
 skip
 intro wd n_wd
 generalize hz:upd _ wd _=H4
 have hw:=Z8 hz n_wd hp
 have hp:=hw.1
 have gz:=hw.2.1
 have ne_wd:=hw.2.2.1
 have ar:=hw.2.2.2
 clear hw hz
 have gg:=gg.trans gz
 have e_r:=gz _ _ e_r
 have k_x:=k_x.mono gz
 have e_q:=gz _ _ e_q
 have e_c:=gz _ _ e_c
 have k_c:=k_c.mono gz
 have e_p:=gz _ _ e_p
 have k_p:=k_p.mono gz
 have k_w:All ZE (aA a H4) ((bi zs).map V.str):=qe fun z hz=>zw z ((Zv zs).mem_iff.mp hz)
 have wl:((bi zs).map V.str).length=26:=by rw [List.length_map,(Zv zs).length_eq,zl];rfl
 generalize (bi zs).map V.str=ws at ar k_w wl
 refine ⟨_,rfl,_,rfl,_,_,rfl,rfl,a,_,rfl,hp,by omega,by omega,fun at1 H5 a0 a1 hp gz=>?_⟩
 skip
 have gg:=gg.trans gz
 have e_r:=gz _ _ e_r
 have k_x:=k_x.mono gz
 have e_q:=gz _ _ e_q
 have e_c:=gz _ _ e_c
 have k_c:=k_c.mono gz
 have e_p:=gz _ _ e_p
 have k_p:=k_p.mono gz
 have ar:=gz _ _ ar
 have k_w:=k_w.mono gz
 dsimp only
 have c26:=fun lo hi=>Nat.le_trans (Xi ws lo hi) (Nat.le_of_eq wl)
 refine ⟨_,rfl,_,rfl,_,rfl,_,rfl,_,rfl,_,_,rfl,rfl,_,rfl,wd,ws,rfl,(Z4 ar).2,?_⟩
 intro fw H6 gs ez
 have gz:=hp.grw gs
 have hp:=hp.same gs
 have cM:=hp.tup ez
 have gg:=gg.trans gz
 clear gs ez
 have e_r:=gz _ _ e_r
 have k_x:=k_x.mono gz
 have e_q:=gz _ _ e_q
 have e_c:=gz _ _ e_c
 have k_c:=k_c.mono gz
 have e_p:=gz _ _ e_p
 have k_p:=k_p.mono gz
 have ar:=gz _ _ ar
 have k_w:=k_w.mono gz
 refine ⟨_,rfl,_,rfl,_,rfl,_,rfl,_,rfl,_,_,rfl,rfl,_,_,rfl,rfl,_,rfl,wd,ws,rfl,(Z4 ar).2,?_⟩
 intro wi H7 gs ez
 have gz:=hp.grw gs
 have hp:=hp.same gs
 have aX:=hp.tup ez
 have gg:=gg.trans gz
 clear gs ez
 have e_r:=gz _ _ e_r
 have k_x:=k_x.mono gz
 have e_q:=gz _ _ e_q
 have e_c:=gz _ _ e_c
 have k_c:=k_c.mono gz
 have e_p:=gz _ _ e_p
 have k_p:=k_p.mono gz
 have ar:=gz _ _ ar
 have k_w:=k_w.mono gz
 have cM:=gz _ _ cM
 have k_f:=k_w.cut (some at1) (some (at1+room))
 have k_i:=k_w.cut (some at1) (some (at1+room+1))
 have fl:=c26 (some at1) (some (at1+room))
 have il:=c26 (some at1) (some (at1+room+1))
 dsimp only at cM aX k_f k_i fl il ⊢
 generalize bd ws (some at1) (some (at1+room))=fs at cM k_f fl
 generalize bd ws (some at1) (some (at1+room+1))=is at aX k_i il
 skip
 refine ⟨_,rfl,a,9,rfl,hp,Xg rfl,ltI rfl,fun mn H8 mn0 mn1 hp gz=>?_⟩
 have gg:=gg.trans gz
 have e_r:=gz _ _ e_r
 have k_x:=k_x.mono gz
 have e_q:=gz _ _ e_q
 have e_c:=gz _ _ e_c
 have k_c:=k_c.mono gz
 have e_p:=gz _ _ e_p
 have k_p:=k_p.mono gz
 have ar:=gz _ _ ar
 have k_w:=k_w.mono gz
 have cM:=gz _ _ cM
 have aX:=gz _ _ aX
 have k_f:=k_f.mono gz
 have k_i:=k_i.mono gz
 refine ⟨_,_,rfl,rfl,?_⟩
 dsimp only
 obtain ⟨mn,me⟩:∃m,m=1+mn:=⟨_,rfl⟩
 rw [←me]
 refine ⟨_,rfl,_,rfl,_,rfl,_,rfl,fw,fs,rfl,(Z4 cM).2,?_⟩
 intro t1 H9 gs ez
 have gz:=hp.grw gs
 have hp:=hp.same gs
 have aG:=hp.tup ez
 have gg:=gg.trans gz
 clear gs ez
 have e_r:=gz _ _ e_r
 have k_x:=k_x.mono gz
 have e_q:=gz _ _ e_q
 have e_c:=gz _ _ e_c
 have k_c:=k_c.mono gz
 have e_p:=gz _ _ e_p
 have k_p:=k_p.mono gz
 have ar:=gz _ _ ar
 have k_w:=k_w.mono gz
 have cM:=gz _ _ cM
 have aX:=gz _ _ aX
 have k_f:=k_f.mono gz
 have k_i:=k_i.mono gz
 refine ⟨fw,t1,_,_,rfl,rfl,(Z4 cM).2,(Z4 aG).2,Nat.le_trans (Nat.add_le_add fl (Xi _ _ _)) (by omega),?_⟩
 skip
 intro tw H10 gs ez
 have gz:=hp.grw gs
 have hp:=hp.same gs
 have eZ:=hp.tup ez
 have gg:=gg.trans gz
 clear gs ez
 have e_r:=gz _ _ e_r
 have k_x:=k_x.mono gz
 have e_q:=gz _ _ e_q
 have e_c:=gz _ _ e_c
 have k_c:=k_c.mono gz
 have e_p:=gz _ _ e_p
 have k_p:=k_p.mono gz
 have ar:=gz _ _ ar
 have k_w:=k_w.mono gz
 have cM:=gz _ _ cM
 have aX:=gz _ _ aX
 have k_f:=k_f.mono gz
 have k_i:=k_i.mono gz
 have k_t:=k_f.app (k_f.cut (some (-1)) none)
 have tl:(fs++bd fs (some (-1)) none).length≤52:=by rw [List.length_append];exact Nat.add_le_add fl (Nat.le_trans (Xi _ _ _) fl)
 generalize fs++bd fs (some (-1)) none=tws at eZ k_t tl
 refine ⟨leN rfl,?_⟩
 have gg0:=gg
 intro L n_L
 generalize hz:upd _ L _=HL
 obtain ⟨hp,eL,LA,gT⟩:=pL hz n_L hp
 clear hz
 have e_r:=gT _ _ e_r
 have e_q:=gT _ _ e_q
 have e_c:=gT _ _ e_c
 have e_p:=gT _ _ e_p
 have ar:=gT _ _ ar
 have cM:=gT _ _ cM
 have aX:=gT _ _ aX
 have eZ:=gT _ _ eZ
 have k_x:=k_x.mono gT
 have k_c:=k_c.mono gT
 have k_p:=k_p.mono gT
 have k_w:=k_w.mono gT
 have k_f:=k_f.mono gT
 have k_i:=k_i.mono gT
 have k_t:=k_t.mono gT
 dsimp only
 refine ⟨_,rfl,_,rfl,_,rfl,_,rfl,wi,is,rfl,rfl,Wl aX,?_⟩
 skip
 intro rv n_rv
 generalize hz:upd _ rv _=G1
 have hw:=Zf hz n_rv hp eL
 have hp:=hw.1
 have eL:=hw.2.1
 have gz:=hw.2.2.1
 have sR:=hw.2.2.2
 clear hw hz
 have gT:=gT.trans gz
 have e_r:=gz _ _ e_r
 have k_x:=k_x.mono gz
 have e_q:=gz _ _ e_q
 have e_c:=gz _ _ e_c
 have k_c:=k_c.mono gz
 have e_p:=gz _ _ e_p
 have k_p:=k_p.mono gz
 have ar:=gz _ _ ar
 have k_w:=k_w.mono gz
 have cM:=gz _ _ cM
 have aX:=gz _ _ aX
 have eZ:=gz _ _ eZ
 have k_f:=k_f.mono gz
 have k_i:=k_i.mono gz
 have k_t:=k_t.mono gz
 refine ⟨leN rfl,?_⟩
 intro tp rR
 generalize hz:upd _ tp _=G2
 have hw:=Zf hz rR hp eL
 have hp:=hw.1
 have eL:=hw.2.1
 have gz:=hw.2.2.1
 have gx:=hw.2.2.2
 clear hw hz
 have gT:=gT.trans gz
 have e_r:=gz _ _ e_r
 have k_x:=k_x.mono gz
 have e_q:=gz _ _ e_q
 have e_c:=gz _ _ e_c
 have k_c:=k_c.mono gz
 have e_p:=gz _ _ e_p
 have k_p:=k_p.mono gz
 have ar:=gz _ _ ar
 have k_w:=k_w.mono gz
 have cM:=gz _ _ cM
 have aX:=gz _ _ aX
 have eZ:=gz _ _ eZ
 have k_f:=k_f.mono gz
 have k_i:=k_i.mono gz
 have k_t:=k_t.mono gz
 have sR:=gz _ _ sR
 refine ⟨tp,rfl,⟨_,Wl gx⟩,?_⟩
 have three:∀x∈[V.ref fw,V.ref tw,V.ref rv],∃m zs,x=.ref m∧h2 a L G2 m=some (.tup zs)∧All ZE (h2 a L G2) zs∧zs.length≤52:=fun x hx=>by
  simp only [List.mem_cons,List.not_mem_nil,or_false] at hx
  rcases hx with rfl | rfl | rfl
  ·exact ⟨_,_,rfl,cM,k_f,by omega⟩
  ·exact ⟨_,_,rfl,eZ,k_t,tl⟩
  ·exact ⟨_,_,rfl,sR,k_i.rev,by rw [List.length_reverse];omega⟩
 have sgr:∀{J:Hp},Same (h2 a L G2) (h2 a L J)→SG 1000 (h2 a L J) r:=fun g=>⟨_,g _ _ e_r,k_x.mono g,by omega⟩
 have tgq:∀{J:Hp},Same (h2 a L G2) (h2 a L J)→TG (h2 a L J) q:=fun g=>⟨_,_,_,_,_,g _ _ e_q,g _ _ e_c,k_c.mono g,by omega⟩
 refine Sz (xs:=[.ref fw,.ref tw,.ref rv]) (fun i σ H'=>∃(o1 o2:Option V) (ms:List V),σ=[some (.ref a),some (.ref r),some (.ref q),some (.ref p),some (.int room),some (.ref c),some (.int lt),some (.int tot),some (.ref wd),some (.int at1),some (.ref fw),some (.ref wi),some (.int mn),some (.ref tw),some (.ref L),o1,o2,none,none,none,none,none,none,none,none]∧PenAt H' a∧H' L=some (.lst ms)∧Same (h2 a L G2) (h2 a L H')∧AllG 10 (h2 a L H') ms∧ms.length≤i) ⟨none,none,[],rfl,hp,eL,Same.refl _,AllG.nil,Nat.le_refl _⟩ ?_ ?_ ?_
 ·rintro i σ H' _ ⟨_,_,_,_,_,_,g,_⟩
  exact Wl (g _ _ gx)
 ·rintro i x σ J0 hx ⟨o1,o2,ms,rfl,hp,eL,gT,am,ml⟩
  have i3:i<3:=(List.getElem?_eq_some_iff.mp hx).1
  obtain ⟨m,zs,rfl,e_m,k_z,zl⟩:=three x (List.mem_of_getElem? hx)
  have e_m:=gT _ _ e_m
  have k_z:=k_z.mono gT
  have e_c:=gT _ _ e_c
  have e_r:=gT _ _ e_r
  have k_x:=k_x.mono gT
  have k_c:=k_c.mono gT
  dsimp only
  refine ⟨_,rfl,_,rfl,_,rfl,_,rfl,_,_,rfl,rfl,_,rfl,_,rfl,_,rfl,m,zs,rfl,.inr (Wl e_m),_,_,rfl,rfl,Or.inl ⟨by omega,by omega⟩,_,_,rfl,rfl,leN rfl,?_⟩
  skip
  intro ot tJ
  generalize hz:upd _ ot _=J1
  have hw:=Zf hz tJ hp eL
  have hp:=hw.1
  have eL:=hw.2.1
  have gz:=hw.2.2.1
  have cf:=hw.2.2.2
  clear hw hz
  have gT:=gT.trans gz
  have e_m:=gz _ _ e_m
  have k_z:=k_z.mono gz
  have e_c:=gz _ _ e_c
  have e_r:=gz _ _ e_r
  have k_x:=k_x.mono gz
  have k_c:=k_c.mono gz
  have am:=am.mono gz
  dsimp only
  refine ⟨_,rfl,.inl ⟨rfl,_,SqL.of eL⟩,?_⟩
  refine ⟨_,rfl,_,rfl,_,rfl,r,m,xs,zs,mn,rfl,Yx e_r,k_x.mono V8,by omega,Yx e_m,k_z.mono V8,by omega,fun l J2 us n_l gs el al ul=>?_⟩
  obtain ⟨hp,eL,gz,e_l⟩:=Oj gs n_l el hp eL
  have k_l:=al.st (O4 hp eL)
  have gT:=gT.trans gz
  have e_m:=gz _ _ e_m
  have k_z:=k_z.mono gz
  have e_c:=gz _ _ e_c
  have e_r:=gz _ _ e_r
  have k_x:=k_x.mono gz
  have k_c:=k_c.mono gz
  have am:=am.mono gz
  have cf:=gz _ _ cf
  skip
  refine ⟨_,rfl,_,rfl,_,rfl,leN rfl,?_⟩
  intro bn n_bn
  generalize hz:upd _ bn _=J3
  have hw:=Zf hz n_bn hp eL
  have hp:=hw.1
  have eL:=hw.2.1
  have gz:=hw.2.2.1
  have nF:=hw.2.2.2
  clear hw hz
  have gT:=gT.trans gz
  have e_m:=gz _ _ e_m
  have k_z:=k_z.mono gz
  have e_c:=gz _ _ e_c
  have e_r:=gz _ _ e_r
  have k_x:=k_x.mono gz
  have k_c:=k_c.mono gz
  have am:=am.mono gz
  have cf:=gz _ _ cf
  have e_l:=gz _ _ e_l
  have k_l:=k_l.mono gz
  refine ⟨leN rfl,?_⟩
  intro pp n_pp
  generalize hz:upd _ pp _=J4
  have hw:=Zf hz n_pp hp eL
  have hp:=hw.1
  have eL:=hw.2.1
  have gz:=hw.2.2.1
  have tS:=hw.2.2.2
  clear hw hz
  have gT:=gT.trans gz
  have e_m:=gz _ _ e_m
  have k_z:=k_z.mono gz
  have e_c:=gz _ _ e_c
  have e_r:=gz _ _ e_r
  have k_x:=k_x.mono gz
  have k_c:=k_c.mono gz
  have am:=am.mono gz
  have cf:=gz _ _ cf
  have e_l:=gz _ _ e_l
  have k_l:=k_l.mono gz
  have nF:=gz _ _ nF
  refine ⟨leN rfl,?_⟩
  intro tr n_tr
  generalize hz:upd _ tr _=J5
  have hw:=Zf hz n_tr hp eL
  have hp:=hw.1
  have eL:=hw.2.1
  have gz:=hw.2.2.1
  have e_tr:=hw.2.2.2
  clear hw hz
  have gT:=gT.trans gz
  have e_m:=gz _ _ e_m
  have k_z:=k_z.mono gz
  have e_c:=gz _ _ e_c
  have e_r:=gz _ _ e_r
  have k_x:=k_x.mono gz
  have k_c:=k_c.mono gz
  have am:=am.mono gz
  have cf:=gz _ _ cf
  have e_l:=gz _ _ e_l
  have k_l:=k_l.mono gz
  have nF:=gz _ _ nF
  have tS:=gz _ _ tS
  refine ⟨L,ms,_,rfl,rfl,eL,Zn (by omega),?_⟩
  have ge:GE 10 (h2 a L J5) (.ref tr):=⟨tr,l,ot,pp,rfl,e_tr,⟨_,e_l,k_l,ul⟩,⟨_,_,_,_,_,cf,e_c,k_c,by omega⟩,⟨_,tS,All.one (Tm nF e_m k_z (by omega)),leN rfl⟩⟩
  obtain ⟨hp,eL,gz⟩:=jr (.lst (ms++[.ref tr])) hp LA
  exact ⟨_,_,_,rfl,hp,eL,gT.trans gz,(am.snoc ge).mono gz,by rw [List.length_append];exact Nat.add_le_add_right ml 1⟩
 rintro σ G3 ⟨o1,o2,ms,rfl,hp,eL,gz,am,ml⟩
 have ml:ms.length≤3:=ml
 skip
 have gT:=gT.trans gz
 have e_r:=gz _ _ e_r
 have k_x:=k_x.mono gz
 have e_q:=gz _ _ e_q
 have e_c:=gz _ _ e_c
 have k_c:=k_c.mono gz
 have e_p:=gz _ _ e_p
 have k_p:=k_p.mono gz
 have ar:=gz _ _ ar
 have k_w:=k_w.mono gz
 have aX:=gz _ _ aX
 have k_i:=k_i.mono gz
 clear sgr tgq three
 dsimp only
 refine ⟨_,rfl,.inl ⟨rfl,_,SqL.of eL⟩,_,rfl,_,rfl,_,rfl,leN rfl,?_⟩
 skip
 intro b1 oF
 generalize hz:upd _ b1 _=G4
 have hw:=Zf hz oF hp eL
 have hp:=hw.1
 have eL:=hw.2.1
 have gz:=hw.2.2.1
 have bY:=hw.2.2.2
 clear hw hz
 have gT:=gT.trans gz
 have e_r:=gz _ _ e_r
 have k_x:=k_x.mono gz
 have e_q:=gz _ _ e_q
 have e_c:=gz _ _ e_c
 have k_c:=k_c.mono gz
 have e_p:=gz _ _ e_p
 have k_p:=k_p.mono gz
 have ar:=gz _ _ ar
 have k_w:=k_w.mono gz
 have aX:=gz _ _ aX
 have k_i:=k_i.mono gz
 have am:=am.mono gz
 refine ⟨leN rfl,?_⟩
 intro p1 iY
 generalize hz:upd _ p1 _=G5
 have hw:=Zf hz iY hp eL
 have hp:=hw.1
 have eL:=hw.2.1
 have gz:=hw.2.2.1
 have di:=hw.2.2.2
 clear hw hz
 have gT:=gT.trans gz
 have e_r:=gz _ _ e_r
 have k_x:=k_x.mono gz
 have e_q:=gz _ _ e_q
 have e_c:=gz _ _ e_c
 have k_c:=k_c.mono gz
 have e_p:=gz _ _ e_p
 have k_p:=k_p.mono gz
 have ar:=gz _ _ ar
 have k_w:=k_w.mono gz
 have aX:=gz _ _ aX
 have k_i:=k_i.mono gz
 have am:=am.mono gz
 have bY:=gz _ _ bY
 refine ⟨leN rfl,?_⟩
 intro t1 nI
 generalize hz:upd _ t1 _=G6
 have hw:=Zf hz nI hp eL
 have hp:=hw.1
 have eL:=hw.2.1
 have gz:=hw.2.2.1
 have aG:=hw.2.2.2
 clear hw hz
 have gT:=gT.trans gz
 have e_r:=gz _ _ e_r
 have k_x:=k_x.mono gz
 have e_q:=gz _ _ e_q
 have e_c:=gz _ _ e_c
 have k_c:=k_c.mono gz
 have e_p:=gz _ _ e_p
 have k_p:=k_p.mono gz
 have ar:=gz _ _ ar
 have k_w:=k_w.mono gz
 have aX:=gz _ _ aX
 have k_i:=k_i.mono gz
 have am:=am.mono gz
 have bY:=gz _ _ bY
 have di:=gz _ _ di
 have ge:GE 10 (h2 a L G6) (.ref t1):=⟨t1,r,q,p1,rfl,aG,⟨_,e_r,k_x,by omega⟩,⟨_,_,_,_,_,e_q,e_c,k_c,by omega⟩,⟨_,di,All.one (Tm bY aX k_i (by omega)),leN rfl⟩⟩
 skip
 refine ⟨L,ms,_,rfl,rfl,eL,Zn (by omega),?_⟩
 generalize hz:upd _ L _=G7
 have hw:=Vh hz hp LA
 have hp:=hw.1
 have eL:=hw.2.1
 have gz:=hw.2.2
 clear hw hz
 have am:=(am.snoc ge).mono gz
 clear ge
 have ml:(ms++[V.ref t1]).length≤4:=by rw [List.length_append];exact Nat.add_le_add_right ml 1
 generalize ms++[V.ref t1]=ms at eL am ml
 have gT:=gT.trans gz
 have e_r:=gz _ _ e_r
 have k_x:=k_x.mono gz
 have e_q:=gz _ _ e_q
 have e_c:=gz _ _ e_c
 have k_c:=k_c.mono gz
 have e_p:=gz _ _ e_p
 have k_p:=k_p.mono gz
 have ar:=gz _ _ ar
 have k_w:=k_w.mono gz
 have aX:=gz _ _ aX
 have k_i:=k_i.mono gz
 dsimp only
 refine ⟨_,rfl,.inl ⟨rfl,_,SqL.of eL⟩,_,rfl,_,rfl,_,rfl,_,rfl,leN rfl,?_⟩
 skip
 intro b1 oF
 generalize hz:upd _ b1 _=G8
 have hw:=Zf hz oF hp eL
 have hp:=hw.1
 have eL:=hw.2.1
 have gz:=hw.2.2.1
 have bY:=hw.2.2.2
 clear hw hz
 have gT:=gT.trans gz
 have e_r:=gz _ _ e_r
 have k_x:=k_x.mono gz
 have e_q:=gz _ _ e_q
 have e_c:=gz _ _ e_c
 have k_c:=k_c.mono gz
 have e_p:=gz _ _ e_p
 have k_p:=k_p.mono gz
 have ar:=gz _ _ ar
 have k_w:=k_w.mono gz
 have aX:=gz _ _ aX
 have k_i:=k_i.mono gz
 have am:=am.mono gz
 refine ⟨_,rfl,_,rfl,_,_,rfl,rfl,leN rfl,?_⟩
 intro b2 rM
 generalize hz:upd _ b2 _=G9
 have hw:=Zf hz rM hp eL
 have hp:=hw.1
 have eL:=hw.2.1
 have gz:=hw.2.2.1
 have dF:=hw.2.2.2
 clear hw hz
 have gT:=gT.trans gz
 have e_r:=gz _ _ e_r
 have k_x:=k_x.mono gz
 have e_q:=gz _ _ e_q
 have e_c:=gz _ _ e_c
 have k_c:=k_c.mono gz
 have e_p:=gz _ _ e_p
 have k_p:=k_p.mono gz
 have ar:=gz _ _ ar
 have k_w:=k_w.mono gz
 have aX:=gz _ _ aX
 have k_i:=k_i.mono gz
 have am:=am.mono gz
 have bY:=gz _ _ bY
 refine ⟨leN rfl,?_⟩
 intro p1 iY
 generalize hz:upd _ p1 _=G10
 have hw:=Zf hz iY hp eL
 have hp:=hw.1
 have eL:=hw.2.1
 have gz:=hw.2.2.1
 have di:=hw.2.2.2
 clear hw hz
 have gT:=gT.trans gz
 have e_r:=gz _ _ e_r
 have k_x:=k_x.mono gz
 have e_q:=gz _ _ e_q
 have e_c:=gz _ _ e_c
 have k_c:=k_c.mono gz
 have e_p:=gz _ _ e_p
 have k_p:=k_p.mono gz
 have ar:=gz _ _ ar
 have k_w:=k_w.mono gz
 have aX:=gz _ _ aX
 have k_i:=k_i.mono gz
 have am:=am.mono gz
 have bY:=gz _ _ bY
 have dF:=gz _ _ dF
 refine ⟨leN rfl,?_⟩
 intro t1 nI
 generalize hz:upd _ t1 _=G11
 have hw:=Zf hz nI hp eL
 have hp:=hw.1
 have eL:=hw.2.1
 have gz:=hw.2.2.1
 have aG:=hw.2.2.2
 clear hw hz
 have gT:=gT.trans gz
 have e_r:=gz _ _ e_r
 have k_x:=k_x.mono gz
 have e_q:=gz _ _ e_q
 have e_c:=gz _ _ e_c
 have k_c:=k_c.mono gz
 have e_p:=gz _ _ e_p
 have k_p:=k_p.mono gz
 have ar:=gz _ _ ar
 have k_w:=k_w.mono gz
 have aX:=gz _ _ aX
 have k_i:=k_i.mono gz
 have am:=am.mono gz
 have bY:=gz _ _ bY
 have dF:=gz _ _ dF
 have di:=gz _ _ di
 have ge:GE 10 (h2 a L G11) (.ref t1):=⟨t1,r,q,p1,rfl,aG,⟨_,e_r,k_x,by omega⟩,⟨_,_,_,_,_,e_q,e_c,k_c,by omega⟩,⟨_,di,All.cons (Tm bY aX k_i (by omega)) (All.one (Tm dF aX k_i (by omega))),leN rfl⟩⟩
 skip
 refine ⟨L,ms,_,rfl,rfl,eL,Zn (by omega),?_⟩
 generalize hz:upd _ L _=G12
 have hw:=Vh hz hp LA
 have hp:=hw.1
 have eL:=hw.2.1
 have gz:=hw.2.2
 clear hw hz
 have am:=(am.snoc ge).mono gz
 clear ge
 have ml:(ms++[V.ref t1]).length≤5:=by rw [List.length_append];exact Nat.add_le_add_right ml 1
 generalize ms++[V.ref t1]=ms at eL am ml
 have gT:=gT.trans gz
 have e_r:=gz _ _ e_r
 have k_x:=k_x.mono gz
 have e_q:=gz _ _ e_q
 have e_c:=gz _ _ e_c
 have k_c:=k_c.mono gz
 have e_p:=gz _ _ e_p
 have k_p:=k_p.mono gz
 have ar:=gz _ _ ar
 have k_w:=k_w.mono gz
 dsimp only
 skip
 refine ⟨_,rfl,leN rfl,?_⟩
 intro k1 n_k1
 generalize hz:upd _ k1 _=G13
 have hw:=Zf hz n_k1 hp eL
 have hp:=hw.1
 have eL:=hw.2.1
 have gz:=hw.2.2.1
 have mX:=hw.2.2.2
 clear hw hz
 have gT:=gT.trans gz
 have e_r:=gz _ _ e_r
 have k_x:=k_x.mono gz
 have e_q:=gz _ _ e_q
 have e_c:=gz _ _ e_c
 have k_c:=k_c.mono gz
 have e_p:=gz _ _ e_p
 have k_p:=k_p.mono gz
 have ar:=gz _ _ ar
 have k_w:=k_w.mono gz
 have am:=am.mono gz
 refine ⟨leN rfl,?_⟩
 intro k2 n_k2
 generalize hz:upd _ k2 _=G14
 have hw:=Zf hz n_k2 hp eL
 have hp:=hw.1
 have eL:=hw.2.1
 have gz:=hw.2.2.1
 have tz:=hw.2.2.2
 clear hw hz
 have gT:=gT.trans gz
 have e_r:=gz _ _ e_r
 have k_x:=k_x.mono gz
 have e_q:=gz _ _ e_q
 have e_c:=gz _ _ e_c
 have k_c:=k_c.mono gz
 have e_p:=gz _ _ e_p
 have k_p:=k_p.mono gz
 have ar:=gz _ _ ar
 have k_w:=k_w.mono gz
 have am:=am.mono gz
 have mX:=gz _ _ mX
 refine ⟨c,k2,_,_,rfl,rfl,Yx e_c,Yx tz,Nat.le_trans (Nat.add_le_add_right rl _) (leN rfl),?_⟩
 intro k3 G15 gs ez
 have hw:=Vy gs ez hp eL
 have hp:=hw.1
 have eL:=hw.2.1
 have gz:=hw.2.2.1
 have rN:=hw.2.2.2
 have gT:=gT.trans gz
 clear hw gs ez
 have e_r:=gz _ _ e_r
 have k_x:=k_x.mono gz
 have e_q:=gz _ _ e_q
 have e_c:=gz _ _ e_c
 have k_c:=k_c.mono gz
 have e_p:=gz _ _ e_p
 have k_p:=k_p.mono gz
 have ar:=gz _ _ ar
 have k_w:=k_w.mono gz
 have am:=am.mono gz
 have mX:=gz _ _ mX
 have tz:=gz _ _ tz
 have CK:All CE (h2 a L G15) (rows++[.ref k1]):=k_c.app (All.one ⟨k1,_,_,rfl,mX,hE.2.1⟩)
 obtain ⟨as,ae,al,ac⟩:=Ov CK
 have al21:as.length≤21:=by rw [al,List.length_append];exact Nat.add_le_add_right rl 1
 refine ⟨k3,as,rfl,.inr (by rw [←ae];exact Yx rN),by omega,fun b hb=>nB (H:=G15) (Stays.st (tst V8) (ac b hb)),fun bs bp _=>?_⟩
 have CB:=jN bp ac
 have bl:(bs.map V.ref).length≤21:=by rw [List.length_map,bp.length_eq];exact al21
 generalize bs.map V.ref=ks at CB bl ⊢
 clear CK ac al ae bp
 skip
 intro k4 t9
 generalize hz:upd _ k4 _=G16
 have hw:=Zf hz t9 hp eL
 have hp:=hw.1
 have eL:=hw.2.1
 have gz:=hw.2.2.1
 have tY:=hw.2.2.2
 clear hw hz
 have gT:=gT.trans gz
 have e_r:=gz _ _ e_r
 have k_x:=k_x.mono gz
 have e_q:=gz _ _ e_q
 have e_c:=gz _ _ e_c
 have k_c:=k_c.mono gz
 have e_p:=gz _ _ e_p
 have k_p:=k_p.mono gz
 have ar:=gz _ _ ar
 have k_w:=k_w.mono gz
 have am:=am.mono gz
 have CB:=CB.mono gz
 refine ⟨k4,ks,rfl,.inl ⟨N6 tY,?_⟩⟩
 skip
 intro kp tT
 generalize hz:upd _ kp _=G17
 have hw:=Zf hz tT hp eL
 have hp:=hw.1
 have eL:=hw.2.1
 have gz:=hw.2.2.1
 have cP:=hw.2.2.2
 clear hw hz
 have gT:=gT.trans gz
 have e_r:=gz _ _ e_r
 have k_x:=k_x.mono gz
 have e_q:=gz _ _ e_q
 have e_c:=gz _ _ e_c
 have k_c:=k_c.mono gz
 have e_p:=gz _ _ e_p
 have k_p:=k_p.mono gz
 have ar:=gz _ _ ar
 have k_w:=k_w.mono gz
 have am:=am.mono gz
 have CB:=CB.mono gz
 dsimp only
 refine Rg (fun σ' H'=>∃(o1 o2 o3:Option V) (ms:List V),σ'=[some (.ref a),some (.ref r),some (.ref q),some (.ref p),some (.int room),some (.ref c),some (.int lt),some (.int tot),some (.ref wd),some (.int at1),some (.ref fw),some (.ref wi),some (.int mn),some (.ref tw),some (.ref L),o1,o2,o3,none,none,none,none,none,none,none]∧PenAt H' a∧H' L=some (.lst ms)∧Same (h2 a L G17) (h2 a L H')∧AllG 10 (h2 a L H') ms∧ms.length≤6) ?_ ?_
 ·intro nx hnx
  refine ⟨_,rfl,kp,_,rfl,.inr (Wl cP),_,rfl,_,_,rfl,rfl,_,rfl,Yu (fun c0=>?_) (fun c0=>?_)⟩
  ·have gT:Same (h2 a L G17) (h2 a L G17):=Same.refl _
   refine ⟨_,rfl,.inl ⟨rfl,_,SqL.of eL⟩,_,rfl,_,rfl,_,rfl,_,rfl,_,rfl,leN rfl,?_⟩
   intro u1 lG
   generalize hz:upd _ u1 _=M1
   have hw:=Zf hz lG hp eL
   have hp:=hw.1
   have eL:=hw.2.1
   have gz:=hw.2.2.1
   have cn:=hw.2.2.2
   clear hw hz
   have gT:=gT.trans gz
   have e_r:=gz _ _ e_r
   have k_x:=k_x.mono gz
   have e_q:=gz _ _ e_q
   have e_c:=gz _ _ e_c
   have k_c:=k_c.mono gz
   have e_p:=gz _ _ e_p
   have k_p:=k_p.mono gz
   have ar:=gz _ _ ar
   have k_w:=k_w.mono gz
   have am:=am.mono gz
   have CB:=CB.mono gz
   have cP:=gz _ _ cP
   refine ⟨leN rfl,?_⟩
   intro u2 lE
   generalize hz:upd _ u2 _=M2
   have hw:=Zf hz lE hp eL
   have hp:=hw.1
   have eL:=hw.2.1
   have gz:=hw.2.2.1
   have dj:=hw.2.2.2
   clear hw hz
   have gT:=gT.trans gz
   have e_r:=gz _ _ e_r
   have k_x:=k_x.mono gz
   have e_q:=gz _ _ e_q
   have e_c:=gz _ _ e_c
   have k_c:=k_c.mono gz
   have e_p:=gz _ _ e_p
   have k_p:=k_p.mono gz
   have ar:=gz _ _ ar
   have k_w:=k_w.mono gz
   have am:=am.mono gz
   have CB:=CB.mono gz
   have cP:=gz _ _ cP
   have cn:=gz _ _ cn
   refine ⟨leN rfl,?_⟩
   intro u3 oB
   generalize hz:upd _ u3 _=M3
   have hw:=Zf hz oB hp eL
   have hp:=hw.1
   have eL:=hw.2.1
   have gz:=hw.2.2.1
   have eK:=hw.2.2.2
   clear hw hz
   have gT:=gT.trans gz
   have e_r:=gz _ _ e_r
   have k_x:=k_x.mono gz
   have e_q:=gz _ _ e_q
   have e_c:=gz _ _ e_c
   have k_c:=k_c.mono gz
   have e_p:=gz _ _ e_p
   have k_p:=k_p.mono gz
   have ar:=gz _ _ ar
   have k_w:=k_w.mono gz
   have am:=am.mono gz
   have CB:=CB.mono gz
   have cP:=gz _ _ cP
   have cn:=gz _ _ cn
   have dj:=gz _ _ dj
   have ge:GE 10 (h2 a L M3) (.ref u3):=⟨u3,r,u1,u2,rfl,eK,⟨_,e_r,k_x,by omega⟩,⟨_,_,_,_,_,cn,cP,CB,by omega⟩,⟨_,dj,All.nil,leN rfl⟩⟩
   skip
   refine ⟨L,ms,_,rfl,rfl,eL,Zn (by omega),?_⟩
   generalize hz:upd _ L _=M4
   have hw:=Vh hz hp LA
   have hp:=hw.1
   have eL:=hw.2.1
   have gz:=hw.2.2
   clear hw hz
   have am:=(am.snoc ge).mono gz
   clear ge
   have ml:(ms++[V.ref u3]).length≤6:=by rw [List.length_append];exact Nat.add_le_add_right ml 1
   generalize ms++[V.ref u3]=ms at eL am ml
   have gT:=gT.trans gz
   have e_r:=gz _ _ e_r
   exact hnx _ _ ⟨_,_,_,ms,rfl,hp,eL,gT,am,ml⟩
  ·exact hnx _ _ ⟨_,_,_,ms,rfl,hp,eL,Same.refl _,am,by omega⟩
 rintro σ G18 ⟨o1,o2,o3,ms,rfl,hp,eL,gz,am,ml⟩
 skip
 have gT:=gT.trans gz
 have e_r:=gz _ _ e_r
 have k_x:=k_x.mono gz
 have e_q:=gz _ _ e_q
 have e_c:=gz _ _ e_c
 have k_c:=k_c.mono gz
 have e_p:=gz _ _ e_p
 have k_p:=k_p.mono gz
 have ar:=gz _ _ ar
 have k_w:=k_w.mono gz
 clear CB
 refine ⟨⟨.inl rfl,.inl rfl,.inl rfl,.inl rfl,.inl rfl,.inl rfl,.inl rfl,.inl rfl,.inl rfl,.inl rfl,.inl rfl,.inl rfl,.inl rfl,.inl rfl,.inl rfl,.inl rfl,.inl rfl,.inl rfl,.inl rfl,.inl rfl,.inr rfl,.inl rfl,.inl rfl,.inl rfl,.inl rfl,trivial⟩,_,rfl,wd,rfl,⟨_,Wl ar⟩,?_⟩
 obtain ⟨cs,pa,cl,_⟩:=jE k_c
 refine Xv (xs:=ws) (fun i out H'=>PenAt H' a∧H' L=some (.lst ms)∧Same (h2 a L G18) (h2 a L H')∧All ZE H' out∧out.length≤i) ⟨hp,eL,Same.refl _,All.nil,Nat.le_refl _⟩ ?_ ?_ ?_
 ·rintro i out H' _ ⟨_,_,g,_⟩
  exact Wl (g _ _ ar)
 ·rintro i x out J0 C hx ⟨hp,eL,gT,al,ol⟩ hC
  obtain ⟨z,rfl,mz⟩:=k_w x (List.mem_of_getElem? hx)
  have il:i<ws.length:=(List.getElem?_eq_some_iff.mp hx).1
  refine ⟨Zn (by omega),Wk.refl _,_,rfl,_,rfl,c,rows,_,rfl,Yx (gT _ _ e_c),(pa.mono gT).mono V8,by rw [Ye];omega,?_⟩
  skip
  have e_r:=gT _ _ e_r
  intro d n_d
  generalize hz:upd _ d _=J1
  have hw:=Zf hz n_d hp eL
  have hp:=hw.1
  have eL:=hw.2.1
  have gz:=hw.2.2.1
  have e_d:=hw.2.2.2
  clear hw hz
  have gT:=gT.trans gz
  have e_r:=gz _ _ e_r
  refine ⟨z,d,_,rfl,rfl,Yx e_d,fun b=>⟨_,rfl,Yu (fun c0=>?_) (fun c0=>?_)⟩⟩
  ·exact ⟨_,rfl,hC _ _ ⟨hp,eL,gT,All.app al (All.one ⟨z,rfl,mz⟩),by rw [List.length_append];exact Nat.add_le_add_right ol 1⟩⟩
  ·exact hC _ _ ⟨hp,eL,gT,al,by omega⟩
 rintro out G19 ⟨hp,eL,gz,k_o,ol⟩
 have k_o:All ZE (h2 a L G19) out:=k_o
 skip
 have gT:=gT.trans gz
 have e_r:=gz _ _ e_r
 have k_x:=k_x.mono gz
 have e_q:=gz _ _ e_q
 have e_c:=gz _ _ e_c
 have k_c:=k_c.mono gz
 have e_p:=gz _ _ e_p
 have k_p:=k_p.mono gz
 have ar:=gz _ _ ar
 have k_w:=k_w.mono gz
 have am:=am.mono gz
 refine ⟨Zb (by omega),?_⟩
 skip
 intro v1 r_
 generalize hz:upd _ v1 _=G20
 have hw:=Zf hz r_ hp eL
 have hp:=hw.1
 have eL:=hw.2.1
 have gz:=hw.2.2.1
 have iS:=hw.2.2.2
 clear hw hz
 have gT:=gT.trans gz
 have e_r:=gz _ _ e_r
 have k_x:=k_x.mono gz
 have e_q:=gz _ _ e_q
 have e_c:=gz _ _ e_c
 have k_c:=k_c.mono gz
 have e_p:=gz _ _ e_p
 have k_p:=k_p.mono gz
 have ar:=gz _ _ ar
 have k_w:=k_w.mono gz
 have am:=am.mono gz
 have k_o:=k_o.mono gz
 refine ⟨_,rfl,_,_,rfl,rfl,_,rfl,c,rows,rfl,.inr (Wl e_c),_,_,rfl,rfl,_,rfl,v1,out,rfl,N6 iS,?_⟩
 intro v2 rJ
 generalize hz:upd _ v2 _=G21
 have hw:=Zf hz rJ hp eL
 have hp:=hw.1
 have eL:=hw.2.1
 have gz:=hw.2.2.1
 have sH:=hw.2.2.2
 clear hw hz
 have gT:=gT.trans gz
 have e_r:=gz _ _ e_r
 have k_x:=k_x.mono gz
 have e_q:=gz _ _ e_q
 have e_c:=gz _ _ e_c
 have k_c:=k_c.mono gz
 have e_p:=gz _ _ e_p
 have k_p:=k_p.mono gz
 have ar:=gz _ _ ar
 have k_w:=k_w.mono gz
 have am:=am.mono gz
 have k_o:=k_o.mono gz
 have iS:=gz _ _ iS
 refine ⟨v2,_,rfl,.inl ⟨N6 sH,?_⟩⟩
 skip
 intro ov n_ov
 generalize hz:upd _ ov _=G22
 have hw:=Zf hz n_ov hp eL
 have hp:=hw.1
 have eL:=hw.2.1
 have gz:=hw.2.2.1
 have bP:=hw.2.2.2
 clear hw hz
 have gT:=gT.trans gz
 have e_r:=gz _ _ e_r
 have k_x:=k_x.mono gz
 have e_q:=gz _ _ e_q
 have e_c:=gz _ _ e_c
 have k_c:=k_c.mono gz
 have e_p:=gz _ _ e_p
 have k_p:=k_p.mono gz
 have ar:=gz _ _ ar
 have k_w:=k_w.mono gz
 have am:=am.mono gz
 have k_o:=k_o.mono gz
 have k_o:=k_o.cut none (some (room+1 - (rows.length:Int)))
 have ol:(bd out none (some (room+1 - (rows.length:Int)))).length≤26:=Nat.le_trans (Xi _ _ _) (by omega)
 generalize bd out none (some (room+1 - (rows.length:Int)))=os at bP k_o ol
 refine ⟨_,rfl,⟨.inl rfl,.inl rfl,.inl rfl,.inl rfl,.inl rfl,.inl rfl,.inl rfl,.inl rfl,.inl rfl,.inl rfl,.inl rfl,.inl rfl,.inl rfl,.inl rfl,.inl rfl,.inl rfl,.inl rfl,.inl rfl,.inl rfl,.inl rfl,.inr rfl,.inl rfl,.inl rfl,.inl rfl,.inl rfl,trivial⟩,_,rfl,ov,rfl,⟨_,Wl bP⟩,?_⟩
 refine Xv (xs:=os) (fun i out H'=>PenAt H' a∧H' L=some (.lst ms)∧Same (h2 a L G22) (h2 a L H')∧All CE (h2 a L H') out∧out.length≤i) ⟨hp,eL,Same.refl _,All.nil,Nat.le_refl _⟩ ?_ ?_ ?_
 ·rintro i out H' _ ⟨_,_,g,_⟩
  exact Wl (g _ _ bP)
 ·rintro i x out J0 C hx ⟨hp,eL,gT,al,ol⟩ hC
  obtain ⟨z,rfl,mz⟩:=k_o x (List.mem_of_getElem? hx)
  have il:i<os.length:=(List.getElem?_eq_some_iff.mp hx).1
  refine ⟨Zn (by omega),Wk.refl _,_,rfl,_,rfl,leN rfl,?_⟩
  skip
  intro d n_d
  generalize hz:upd _ d _=J1
  have hw:=Zf hz n_d hp eL
  have hp:=hw.1
  have eL:=hw.2.1
  have gz:=hw.2.2.1
  have e_d:=hw.2.2.2
  clear hw hz
  have gT:=gT.trans gz
  have al:=al.mono gz
  exact hC _ _ ⟨hp,eL,gT,al.app (All.one ⟨d,z,mn,rfl,e_d,mz⟩),by rw [List.length_append];exact Nat.add_le_add_right ol 1⟩
 rintro out G23 ⟨hp,eL,gz,k_n,nl⟩
 skip
 have gT:=gT.trans gz
 have e_r:=gz _ _ e_r
 have k_x:=k_x.mono gz
 have e_q:=gz _ _ e_q
 have e_c:=gz _ _ e_c
 have k_c:=k_c.mono gz
 have e_p:=gz _ _ e_p
 have k_p:=k_p.mono gz
 have ar:=gz _ _ ar
 have k_w:=k_w.mono gz
 have am:=am.mono gz
 have k_o:=k_o.mono gz
 have bP:=gz _ _ bP
 refine ⟨Zb (by omega),?_⟩
 skip
 intro v1 r_
 generalize hz:upd _ v1 _=G24
 have hw:=Zf hz r_ hp eL
 have hp:=hw.1
 have eL:=hw.2.1
 have gz:=hw.2.2.1
 have iS:=hw.2.2.2
 clear hw hz
 have gT:=gT.trans gz
 have e_r:=gz _ _ e_r
 have k_x:=k_x.mono gz
 have e_q:=gz _ _ e_q
 have e_c:=gz _ _ e_c
 have k_c:=k_c.mono gz
 have e_p:=gz _ _ e_p
 have k_p:=k_p.mono gz
 have ar:=gz _ _ ar
 have k_w:=k_w.mono gz
 have am:=am.mono gz
 have k_o:=k_o.mono gz
 have bP:=gz _ _ bP
 have k_n:=k_n.mono gz
 refine ⟨v1,out,rfl,.inl ⟨N6 iS,?_⟩⟩
 intro v2 rJ
 generalize hz:upd _ v2 _=G25
 have hw:=Zf hz rJ hp eL
 have hp:=hw.1
 have eL:=hw.2.1
 have gz:=hw.2.2.1
 have sH:=hw.2.2.2
 clear hw hz
 have gT:=gT.trans gz
 have e_r:=gz _ _ e_r
 have k_x:=k_x.mono gz
 have e_q:=gz _ _ e_q
 have e_c:=gz _ _ e_c
 have k_c:=k_c.mono gz
 have e_p:=gz _ _ e_p
 have k_p:=k_p.mono gz
 have ar:=gz _ _ ar
 have k_w:=k_w.mono gz
 have am:=am.mono gz
 have k_o:=k_o.mono gz
 have bP:=gz _ _ bP
 have k_n:=k_n.mono gz
 have iS:=gz _ _ iS
 refine ⟨c,v2,_,_,rfl,rfl,Yx e_c,Yx sH,Nat.le_trans (Nat.add_le_add rl (Nat.le_trans nl ol)) (leN rfl),?_⟩
 skip
 intro k3 G26 gs ez
 have hw:=Vy gs ez hp eL
 have hp:=hw.1
 have eL:=hw.2.1
 have gz:=hw.2.2.1
 have rN:=hw.2.2.2
 have gT:=gT.trans gz
 clear hw gs ez
 have e_r:=gz _ _ e_r
 have k_x:=k_x.mono gz
 have e_q:=gz _ _ e_q
 have e_c:=gz _ _ e_c
 have k_c:=k_c.mono gz
 have e_p:=gz _ _ e_p
 have k_p:=k_p.mono gz
 have ar:=gz _ _ ar
 have k_w:=k_w.mono gz
 have am:=am.mono gz
 have k_o:=k_o.mono gz
 have bP:=gz _ _ bP
 have k_n:=k_n.mono gz
 obtain ⟨as,ae,al,ac⟩:=Ov (k_c.app k_n)
 have al46:as.length≤46:=by rw [al,List.length_append];exact Nat.add_le_add rl (Nat.le_trans nl ol)
 refine ⟨k3,as,rfl,.inr (by rw [←ae];exact Yx rN),by omega,fun b hb=>nB (H:=G26) (Stays.st (tst V8) (ac b hb)),fun bs bp _=>?_⟩
 have CB:=jN bp ac
 have bl:(bs.map V.ref).length≤46:=by rw [List.length_map,bp.length_eq];exact al46
 generalize bs.map V.ref=ks at CB bl ⊢
 clear ac al ae bp k_n nl
 skip
 intro k4 t9
 generalize hz:upd _ k4 _=G27
 have hw:=Zf hz t9 hp eL
 have hp:=hw.1
 have eL:=hw.2.1
 have gz:=hw.2.2.1
 have tY:=hw.2.2.2
 clear hw hz
 have gT:=gT.trans gz
 have e_r:=gz _ _ e_r
 have k_x:=k_x.mono gz
 have e_q:=gz _ _ e_q
 have e_c:=gz _ _ e_c
 have k_c:=k_c.mono gz
 have e_p:=gz _ _ e_p
 have k_p:=k_p.mono gz
 have ar:=gz _ _ ar
 have k_w:=k_w.mono gz
 have am:=am.mono gz
 have k_o:=k_o.mono gz
 have bP:=gz _ _ bP
 have CB:=CB.mono gz
 refine ⟨k4,ks,rfl,.inl ⟨N6 tY,?_⟩⟩
 skip
 intro kp tT
 generalize hz:upd _ kp _=G28
 have hw:=Zf hz tT hp eL
 have hp:=hw.1
 have eL:=hw.2.1
 have gz:=hw.2.2.1
 have cP:=hw.2.2.2
 clear hw hz
 have gT:=gT.trans gz
 have e_r:=gz _ _ e_r
 have k_x:=k_x.mono gz
 have e_q:=gz _ _ e_q
 have e_c:=gz _ _ e_c
 have k_c:=k_c.mono gz
 have e_p:=gz _ _ e_p
 have k_p:=k_p.mono gz
 have ar:=gz _ _ ar
 have k_w:=k_w.mono gz
 have am:=am.mono gz
 have k_o:=k_o.mono gz
 have bP:=gz _ _ bP
 have CB:=CB.mono gz
 dsimp only
 refine ⟨_,rfl,.inl ⟨rfl,_,SqL.of eL⟩,?_⟩
 refine ⟨_,rfl,_,rfl,_,rfl,r,ov,xs,os,mn,rfl,Yx e_r,k_x.mono V8,by omega,Yx bP,k_o.mono V8,by omega,fun l G29 us n_l gs el al ul=>?_⟩
 obtain ⟨hp,eL,gz,e_l⟩:=Oj gs n_l el hp eL
 have k_l:=al.st (O4 hp eL)
 have gT:=gT.trans gz
 have e_r:=gz _ _ e_r
 have k_x:=k_x.mono gz
 have e_q:=gz _ _ e_q
 have e_c:=gz _ _ e_c
 have k_c:=k_c.mono gz
 have e_p:=gz _ _ e_p
 have k_p:=k_p.mono gz
 have ar:=gz _ _ ar
 have k_w:=k_w.mono gz
 have am:=am.mono gz
 have k_o:=k_o.mono gz
 have bP:=gz _ _ bP
 have CB:=CB.mono gz
 have cP:=gz _ _ cP
 skip
 refine ⟨_,rfl,_,rfl,_,rfl,_,rfl,_,rfl,_,rfl,ov,os,rfl,.inr (Wl bP),_,_,rfl,rfl,Or.inl ⟨by omega,by omega⟩,_,_,rfl,rfl,leN rfl,?_⟩
 intro u1 lG
 generalize hz:upd _ u1 _=G30
 have hw:=Zf hz lG hp eL
 have hp:=hw.1
 have eL:=hw.2.1
 have gz:=hw.2.2.1
 have cn:=hw.2.2.2
 clear hw hz
 have gT:=gT.trans gz
 have e_r:=gz _ _ e_r
 have k_x:=k_x.mono gz
 have e_q:=gz _ _ e_q
 have e_c:=gz _ _ e_c
 have k_c:=k_c.mono gz
 have e_p:=gz _ _ e_p
 have k_p:=k_p.mono gz
 have ar:=gz _ _ ar
 have k_w:=k_w.mono gz
 have am:=am.mono gz
 have bP:=gz _ _ bP
 have CB:=CB.mono gz
 have cP:=gz _ _ cP
 have e_l:=gz _ _ e_l
 have k_l:=k_l.mono gz
 refine ⟨leN rfl,?_⟩
 intro u2 lE
 generalize hz:upd _ u2 _=G31
 have hw:=Zf hz lE hp eL
 have hp:=hw.1
 have eL:=hw.2.1
 have gz:=hw.2.2.1
 have dj:=hw.2.2.2
 clear hw hz
 have gT:=gT.trans gz
 have e_r:=gz _ _ e_r
 have k_x:=k_x.mono gz
 have e_q:=gz _ _ e_q
 have e_c:=gz _ _ e_c
 have k_c:=k_c.mono gz
 have e_p:=gz _ _ e_p
 have k_p:=k_p.mono gz
 have ar:=gz _ _ ar
 have k_w:=k_w.mono gz
 have am:=am.mono gz
 have bP:=gz _ _ bP
 have CB:=CB.mono gz
 have cP:=gz _ _ cP
 have e_l:=gz _ _ e_l
 have k_l:=k_l.mono gz
 have cn:=gz _ _ cn
 refine ⟨leN rfl,?_⟩
 intro u3 oB
 generalize hz:upd _ u3 _=G32
 have hw:=Zf hz oB hp eL
 have hp:=hw.1
 have eL:=hw.2.1
 have gz:=hw.2.2.1
 have eK:=hw.2.2.2
 clear hw hz
 have gT:=gT.trans gz
 have e_r:=gz _ _ e_r
 have k_x:=k_x.mono gz
 have e_q:=gz _ _ e_q
 have e_c:=gz _ _ e_c
 have k_c:=k_c.mono gz
 have e_p:=gz _ _ e_p
 have k_p:=k_p.mono gz
 have ar:=gz _ _ ar
 have k_w:=k_w.mono gz
 have am:=am.mono gz
 have bP:=gz _ _ bP
 have CB:=CB.mono gz
 have cP:=gz _ _ cP
 have e_l:=gz _ _ e_l
 have k_l:=k_l.mono gz
 have cn:=gz _ _ cn
 have dj:=gz _ _ dj
 have ge:GE 10 (h2 a L G32) (.ref u3):=⟨u3,l,u1,u2,rfl,eK,⟨_,e_l,k_l,ul⟩,⟨_,_,_,_,_,cn,cP,CB,by omega⟩,⟨_,dj,All.nil,leN rfl⟩⟩
 skip
 refine ⟨L,ms,_,rfl,rfl,eL,Zn (by omega),?_⟩
 generalize hz:upd _ L _=G33
 have hw:=Vh hz hp LA
 have hp:=hw.1
 have eL:=hw.2.1
 have gz:=hw.2.2
 clear hw hz
 have am:=(am.snoc ge).mono gz
 clear ge
 have ml:(ms++[V.ref u3]).length≤7:=by rw [List.length_append];exact Nat.add_le_add_right ml 1
 generalize ms++[V.ref u3]=ms at eL am ml
 have gT:=gT.trans gz
 have e_r:=gz _ _ e_r
 have k_x:=k_x.mono gz
 have e_q:=gz _ _ e_q
 have e_c:=gz _ _ e_c
 have k_c:=k_c.mono gz
 have e_p:=gz _ _ e_p
 have k_p:=k_p.mono gz
 have ar:=gz _ _ ar
 have k_w:=k_w.mono gz
 clear CB k_l k_o
 dsimp only
 refine ⟨_,rfl,_,rfl,c,rows,rfl,Yx e_c,?_⟩
 skip
 intro c1 G34 gs ez
 have hw:=Vy gs ez hp eL
 have hp:=hw.1
 have eL:=hw.2.1
 have gz:=hw.2.2.1
 have h_:=hw.2.2.2
 have gT:=gT.trans gz
 clear hw gs ez
 have e_r:=gz _ _ e_r
 have k_x:=k_x.mono gz
 have e_q:=gz _ _ e_q
 have e_c:=gz _ _ e_c
 have k_c:=k_c.mono gz
 have e_p:=gz _ _ e_p
 have k_p:=k_p.mono gz
 have ar:=gz _ _ ar
 have k_w:=k_w.mono gz
 have am:=am.mono gz
 refine ⟨c1,rfl,⟨_,Wl h_⟩,?_⟩
 have k_1:=k_c.cut none (some 1)
 have l1:(bd rows none (some 1)).length≤20:=Nat.le_trans (Xi _ _ _) rl
 generalize bd rows none (some 1)=rs at h_ k_1 l1
 refine Xv (xs:=rs) (fun i out H'=>H'=G34∧All CE (h2 a L H') out∧out.length≤i) ⟨rfl,All.nil,Nat.le_refl _⟩ ?_ ?_ ?_
 ·rintro i out H' _ ⟨rfl,_⟩
  exact Wl h_
 ·rintro i x out J0 C hx ⟨rfl,al,ol⟩ hC
  have ce:=k_1 x (List.mem_of_getElem? hx)
  have il:i<rs.length:=(List.getElem?_eq_some_iff.mp hx).1
  obtain ⟨b,z,n,rfl,e_b,mz⟩:=id ce
  refine ⟨Zn (by omega),Wk.refl _,_,rfl,b,_,_,_,rfl,rfl,Wl e_b,rfl,_,_,rfl,rfl,_,rfl,Yu (fun c0=>?_) (fun c0=>?_)⟩
  ·refine ⟨_,rfl,c,rows,rfl,.inr (Wl e_c),_,rfl,_,_,rfl,rfl,_,rfl,Yu (fun c0=>?_) (fun c0=>?_)⟩
   ·exact ⟨_,rfl,hC _ _ ⟨rfl,al.app (All.one ce),by rw [List.length_append];exact Nat.add_le_add_right ol 1⟩⟩
   ·exact hC _ _ ⟨rfl,al,by omega⟩
  ·exact hC _ _ ⟨rfl,al,by omega⟩
 rintro out _ ⟨rfl,k_2,l2⟩
 refine ⟨Zb (by omega),?_⟩
 skip
 intro pa n_pa
 generalize hz:upd _ pa _=G35
 have hw:=Zf hz n_pa hp eL
 have hp:=hw.1
 have eL:=hw.2.1
 have gz:=hw.2.2.1
 have uV:=hw.2.2.2
 clear hw hz
 have gT:=gT.trans gz
 have e_r:=gz _ _ e_r
 have k_x:=k_x.mono gz
 have e_q:=gz _ _ e_q
 have e_c:=gz _ _ e_c
 have k_c:=k_c.mono gz
 have e_p:=gz _ _ e_p
 have k_p:=k_p.mono gz
 have ar:=gz _ _ ar
 have k_w:=k_w.mono gz
 have am:=am.mono gz
 have k_2:=k_2.mono gz
 dsimp only
 have l2:out.length≤20:=Nat.le_trans l2 l1
 refine ⟨_,rfl,pa,rfl,⟨_,N6 uV⟩,?_⟩
 refine W9 (xs:=out) (fun i σ H'=>∃(o1 o2 o3 o4 o5:Option V) (ms:List V),σ=[some (.ref a),some (.ref r),some (.ref q),some (.ref p),some (.int room),some (.ref c),some (.int lt),some (.int tot),some (.ref wd),some (.int at1),some (.ref fw),some (.ref wi),some (.int mn),some (.ref tw),some (.ref L),o1,o2,o3,some (.ref ov),some (.ref pa),o4,o5,none,none,none]∧PenAt H' a∧H' L=some (.lst ms)∧Same (h2 a L G35) (h2 a L H')∧AllG 10 (h2 a L H') ms∧ms.length≤7+i) ⟨_,_,_,_,_,ms,rfl,hp,eL,Same.refl _,am,ml⟩ ?_ ?_ ?_
 ·rintro i σ H' _ ⟨_,_,_,_,_,_,_,_,_,g,_⟩
  exact N6 (g _ _ uV)
 ·rintro i x σ J0 hx ⟨o1,o2,o3,o4,o5,ms,rfl,hp,eL,gT,am,ml⟩
  have il:i<out.length:=(List.getElem?_eq_some_iff.mp hx).1
  obtain ⟨b,z,n,rfl,e_b,mz⟩:=k_2 x (List.mem_of_getElem? hx)
  have e_b:=gT _ _ e_b
  have e_r:=gT _ _ e_r
  have e_c:=gT _ _ e_c
  have k_x:=k_x.mono gT
  have k_c:=k_c.mono gT
  refine ⟨b,_,rfl,Wl e_b,rfl,_,_,rfl,_,_,rfl,rfl,?_⟩
  dsimp only
  refine ⟨_,rfl,.inl ⟨rfl,_,SqL.of eL⟩,_,rfl,_,rfl,_,rfl,leN rfl,?_⟩
  skip
  intro u1 lG
  generalize hz:upd _ u1 _=J1
  have hw:=Zf hz lG hp eL
  have hp:=hw.1
  have eL:=hw.2.1
  have gz:=hw.2.2.1
  have cn:=hw.2.2.2
  clear hw hz
  have gT:=gT.trans gz
  have e_r:=gz _ _ e_r
  have e_c:=gz _ _ e_c
  have k_x:=k_x.mono gz
  have k_c:=k_c.mono gz
  have am:=am.mono gz
  refine ⟨_,rfl,_,rfl,_,_,rfl,rfl,leN rfl,?_⟩
  intro u2 lE
  generalize hz:upd _ u2 _=J2
  have hw:=Zf hz lE hp eL
  have hp:=hw.1
  have eL:=hw.2.1
  have gz:=hw.2.2.1
  have dj:=hw.2.2.2
  clear hw hz
  have gT:=gT.trans gz
  have e_r:=gz _ _ e_r
  have e_c:=gz _ _ e_c
  have k_x:=k_x.mono gz
  have k_c:=k_c.mono gz
  have am:=am.mono gz
  have cn:=gz _ _ cn
  refine ⟨leN rfl,?_⟩
  intro u3 oB
  generalize hz:upd _ u3 _=J3
  have hw:=Zf hz oB hp eL
  have hp:=hw.1
  have eL:=hw.2.1
  have gz:=hw.2.2.1
  have eK:=hw.2.2.2
  clear hw hz
  have gT:=gT.trans gz
  have e_r:=gz _ _ e_r
  have e_c:=gz _ _ e_c
  have k_x:=k_x.mono gz
  have k_c:=k_c.mono gz
  have am:=am.mono gz
  have cn:=gz _ _ cn
  have dj:=gz _ _ dj
  refine ⟨_,rfl,_,rfl,c,rows,rfl,Yx e_c,?_⟩
  intro u4 J4 gs ez
  have hw:=Vy gs ez hp eL
  have hp:=hw.1
  have eL:=hw.2.1
  have gz:=hw.2.2.1
  have t_:=hw.2.2.2
  have gT:=gT.trans gz
  clear hw gs ez
  have e_r:=gz _ _ e_r
  have e_c:=gz _ _ e_c
  have k_x:=k_x.mono gz
  have k_c:=k_c.mono gz
  have am:=am.mono gz
  have cn:=gz _ _ cn
  have dj:=gz _ _ dj
  have eK:=gz _ _ eK
  refine ⟨u3,u4,_,_,rfl,rfl,Yx eK,Yx t_,Nat.le_trans (Nat.add_le_add_left (Nat.le_trans (Xi _ _ _) rl) _) (leN rfl),?_⟩
  intro u5 J5 gs ez
  have hw:=Vy gs ez hp eL
  have hp:=hw.1
  have eL:=hw.2.1
  have gz:=hw.2.2.1
  have gF:=hw.2.2.2
  have gT:=gT.trans gz
  clear hw gs ez
  have e_r:=gz _ _ e_r
  have e_c:=gz _ _ e_c
  have k_x:=k_x.mono gz
  have k_c:=k_c.mono gz
  have am:=am.mono gz
  have cn:=gz _ _ cn
  have dj:=gz _ _ dj
  have eK:=gz _ _ eK
  have t_:=gz _ _ t_
  have k_5:All CE (h2 a L J5) ([.ref u1,.ref u2]++bd rows (some 1) none):=(All.cons ⟨u1,z,_,rfl,cn,mz⟩ (All.one ⟨u2,z,_,rfl,dj,mz⟩)).app (k_c.cut _ _)
  have l5:([V.ref u1,.ref u2]++bd rows (some 1) none).length<60:=by
   rw [List.length_append]
   exact Nat.lt_of_le_of_lt (Nat.add_le_add_left (Nat.le_trans (Xi _ _ _) rl) _) (by show 2+20<60;decide)
  refine ⟨_,rfl,_,rfl,leN rfl,?_⟩
  skip
  intro u6 n_u6
  generalize hz:upd _ u6 _=J6
  have hw:=Zf hz n_u6 hp eL
  have hp:=hw.1
  have eL:=hw.2.1
  have gz:=hw.2.2.1
  have mB:=hw.2.2.2
  clear hw hz
  have gT:=gT.trans gz
  have e_r:=gz _ _ e_r
  have k_x:=k_x.mono gz
  have am:=am.mono gz
  have gF:=gz _ _ gF
  have k_5:=k_5.mono gz
  refine ⟨leN rfl,?_⟩
  intro u7 n_u7
  generalize hz:upd _ u7 _=J7
  have hw:=Zf hz n_u7 hp eL
  have hp:=hw.1
  have eL:=hw.2.1
  have gz:=hw.2.2.1
  have sQ:=hw.2.2.2
  clear hw hz
  have gT:=gT.trans gz
  have e_r:=gz _ _ e_r
  have k_x:=k_x.mono gz
  have am:=am.mono gz
  have gF:=gz _ _ gF
  have k_5:=k_5.mono gz
  have mB:=gz _ _ mB
  refine ⟨leN rfl,?_⟩
  intro u8 n_u8
  generalize hz:upd _ u8 _=J8
  have hw:=Zf hz n_u8 hp eL
  have hp:=hw.1
  have eL:=hw.2.1
  have gz:=hw.2.2.1
  have e_u8:=hw.2.2.2
  clear hw hz
  have gT:=gT.trans gz
  have e_r:=gz _ _ e_r
  have k_x:=k_x.mono gz
  have am:=am.mono gz
  have gF:=gz _ _ gF
  have k_5:=k_5.mono gz
  have mB:=gz _ _ mB
  have sQ:=gz _ _ sQ
  have ge:GE 10 (h2 a L J8) (.ref u8):=⟨u8,r,u6,u7,rfl,e_u8,⟨_,e_r,k_x,by omega⟩,⟨_,_,_,_,_,mB,gF,k_5,l5⟩,⟨_,sQ,All.nil,leN rfl⟩⟩
  skip
  refine ⟨L,ms,_,rfl,rfl,eL,Zn (by omega),?_⟩
  generalize hz:upd _ L _=J9
  have hw:=Vh hz hp LA
  have hp:=hw.1
  have eL:=hw.2.1
  have gz:=hw.2.2
  clear hw hz
  have am:=(am.snoc ge).mono gz
  clear ge
  have ml:(ms++[V.ref u8]).length≤7+i+1:=by rw [List.length_append];exact Nat.add_le_add_right ml 1
  generalize ms++[V.ref u8]=ms at eL am ml
  have gT:=gT.trans gz
  have e_r:=gz _ _ e_r
  exact ⟨_,_,_,_,_,ms,rfl,hp,eL,gT,am,ml⟩
 rintro σ G36 ⟨o1,o2,o3,o4,o5,ms,rfl,hp,eL,gz,am,ml⟩
 have ml:ms.length≤27:=by omega
 skip
 have gT:=gT.trans gz
 have e_c:=gz _ _ e_c
 have k_c:=k_c.mono gz
 have e_p:=gz _ _ e_p
 have k_p:=k_p.mono gz
 have ar:=gz _ _ ar
 have k_w:=k_w.mono gz
 refine ⟨⟨.inl rfl,.inl rfl,.inl rfl,.inl rfl,.inl rfl,.inl rfl,.inl rfl,.inl rfl,.inl rfl,.inl rfl,.inl rfl,.inl rfl,.inl rfl,.inl rfl,.inl rfl,.inl rfl,.inr rfl,.inl rfl,.inl rfl,.inl rfl,.inl rfl,.inl rfl,.inl rfl,.inl rfl,.inl rfl,trivial⟩,_,rfl,L,rfl,⟨_,SqL.of eL⟩,?_⟩
 refine W3 (xs:=ms) (fun i out H'=>PenAt H' a∧H' L=some (.lst ms)∧Same (h2 a L G36) (h2 a L H')∧AllG 3000 (h2 a L H') out∧out.length≤i) ⟨hp,eL,Same.refl _,AllG.nil,Nat.le_refl _⟩ ?_ ?_ ?_
 ·rintro i out H' _ ⟨_,eL,_⟩
  exact SqL.of eL
 ·rintro i x out J0 C hx ⟨hp,eL,gT,al,ol⟩ hC
  have il:i<ms.length:=(List.getElem?_eq_some_iff.mp hx).1
  obtain ⟨t,s1,s2,s3,rfl,e_t,sg,tg,pg⟩:=(am x (List.mem_of_getElem? hx)).mono gT
  obtain ⟨zs,e_3,k_3,l3⟩:=pg
  have e_p:=gT _ _ e_p
  have k_p:=k_p.mono gT
  refine ⟨Zn (by omega),t,_,rfl,Wl e_t,rfl,_,_,rfl,_,_,rfl,_,_,rfl,rfl,Wk.refl _,_,rfl,_,rfl,_,rfl,_,rfl,p,s3,ys,zs,rfl,rfl,Yx e_p,Yx e_3,Zb (by omega),?_⟩
  skip
  intro m1 hG
  generalize hz:upd _ m1 _=J1
  have hw:=Zf hz hG hp eL
  have hp:=hw.1
  have eL:=hw.2.1
  have gz:=hw.2.2.1
  have ee:=hw.2.2.2
  clear hw hz
  have gT:=gT.trans gz
  have sg:=sg.mono gz
  have tg:=tg.mono gz
  have k_p:=k_p.mono gz
  have k_3:=k_3.mono gz
  have al:=al.mono gz
  refine ⟨leN rfl,?_⟩
  intro m2 tR
  generalize hz:upd _ m2 _=J2
  have hw:=Zf hz tR hp eL
  have hp:=hw.1
  have eL:=hw.2.1
  have gz:=hw.2.2.1
  have tN:=hw.2.2.2
  clear hw hz
  have gT:=gT.trans gz
  have sg:=sg.mono gz
  have tg:=tg.mono gz
  have k_p:=k_p.mono gz
  have k_3:=k_3.mono gz
  have al:=al.mono gz
  have ee:=gz _ _ ee
  exact hC _ _ ⟨hp,eL,gT,al.snoc ⟨m2,s1,s2,m1,rfl,tN,sg,tg,⟨_,ee,k_p.app k_3,by rw [List.length_append];omega⟩⟩,by rw [List.length_append];exact Nat.add_le_add_right ol 1⟩
 rintro fo G37 ⟨hp,eL,gz,k_fo,fol⟩
 skip
 have gT:=gT.trans gz
 have e_c:=gz _ _ e_c
 have k_c:=k_c.mono gz
 have ar:=gz _ _ ar
 have k_w:=k_w.mono gz
 refine ⟨Zb (by omega),?_⟩
 skip
 intro fd n_fd
 generalize hz:upd _ fd _=G38
 have hw:=Zf hz n_fd hp eL
 have hp:=hw.1
 have eL:=hw.2.1
 have gz:=hw.2.2.1
 have b_:=hw.2.2.2
 clear hw hz
 have gT:=gT.trans gz
 have e_c:=gz _ _ e_c
 have k_c:=k_c.mono gz
 have ar:=gz _ _ ar
 have k_w:=k_w.mono gz
 have k_fo:=k_fo.mono gz
 dsimp only
 refine ⟨⟨.inl rfl,.inl rfl,.inl rfl,.inl rfl,.inl rfl,.inl rfl,.inl rfl,.inl rfl,.inl rfl,.inl rfl,.inl rfl,.inl rfl,.inl rfl,.inl rfl,.inl rfl,.inl rfl,.inr rfl,.inl rfl,.inl rfl,.inl rfl,.inl rfl,.inl rfl,.inl rfl,.inl rfl,.inl rfl,trivial⟩,?_⟩
 refine ⟨⟨.inl rfl,.inl rfl,.inl rfl,.inl rfl,.inl rfl,.inl rfl,.inl rfl,.inl rfl,.inl rfl,.inl rfl,.inl rfl,.inl rfl,.inl rfl,.inl rfl,.inl rfl,.inl rfl,.inl rfl,.inl rfl,.inl rfl,.inl rfl,.inr rfl,.inr rfl,.inl rfl,.inl rfl,.inl rfl,trivial⟩,_,rfl,c,rfl,⟨_,Wl e_c⟩,?_⟩
 refine Xv (xs:=rows) (fun i out H'=>PenAt H' a∧H' L=some (.lst ms)∧Same (h2 a L G38) (h2 a L H')∧All TE (h2 a L H') out∧out.length≤i) ⟨hp,eL,Same.refl _,All.nil,Nat.le_refl _⟩ ?_ ?_ ?_
 ·rintro i out H' _ ⟨_,_,g,_⟩
  exact Wl (g _ _ e_c)
 ·rintro i x out J0 C hx ⟨hp,eL,gT,al,ol⟩ hC
  have il:i<rows.length:=(List.getElem?_eq_some_iff.mp hx).1
  obtain ⟨b,z,n,rfl,e_b,mz⟩:=(k_c.mono gT) x (List.mem_of_getElem? hx)
  refine ⟨Zn (by omega),b,_,rfl,Wl e_b,rfl,_,_,rfl,_,_,rfl,rfl,Wk.refl _,_,rfl,_,rfl,leN rfl,?_⟩
  skip
  intro m1 hG
  generalize hz:upd _ m1 _=J1
  have hw:=Zf hz hG hp eL
  have hp:=hw.1
  have eL:=hw.2.1
  have gz:=hw.2.2.1
  have ee:=hw.2.2.2
  clear hw hz
  have gT:=gT.trans gz
  have al:=al.mono gz
  exact hC _ _ ⟨hp,eL,gT,al.app (All.one ⟨m1,⟨0,z,0,n⟩,rfl,ee,mz.2⟩),by rw [List.length_append];exact Nat.add_le_add_right ol 1⟩
 rintro po G39 ⟨hp,eL,gz,k_po,pol⟩
 skip
 have gT:=gT.trans gz
 have e_c:=gz _ _ e_c
 have k_c:=k_c.mono gz
 have ar:=gz _ _ ar
 have k_w:=k_w.mono gz
 have k_fo:=k_fo.mono gz
 have b_:=gz _ _ b_
 refine ⟨Zb (by omega),?_⟩
 skip
 intro pn n_pn
 generalize hz:upd _ pn _=G40
 have hw:=Zf hz n_pn hp eL
 have hp:=hw.1
 have eL:=hw.2.1
 have gz:=hw.2.2.1
 have iT:=hw.2.2.2
 clear hw hz
 have gT:=gT.trans gz
 have e_c:=gz _ _ e_c
 have k_c:=k_c.mono gz
 have ar:=gz _ _ ar
 have k_w:=k_w.mono gz
 have k_fo:=k_fo.mono gz
 have b_:=gz _ _ b_
 have k_po:=k_po.mono gz
 dsimp only
 refine ⟨⟨.inl rfl,.inl rfl,.inl rfl,.inl rfl,.inl rfl,.inl rfl,.inl rfl,.inl rfl,.inl rfl,.inl rfl,.inl rfl,.inl rfl,.inl rfl,.inl rfl,.inl rfl,.inl rfl,.inl rfl,.inl rfl,.inl rfl,.inl rfl,.inr rfl,.inr rfl,.inl rfl,.inl rfl,.inl rfl,trivial⟩,?_⟩
 refine ⟨_,rfl,_,rfl,_,_,rfl,rfl,Xg rfl,_,rfl,_,rfl,_,_,rfl,rfl,Xg rfl,_,_,rfl,rfl,_,rfl,wd,ws,rfl,Yx ar,?_⟩
 intro fu G41 gs ez
 have hw:=Vy gs ez hp eL
 have hp:=hw.1
 have eL:=hw.2.1
 have gz:=hw.2.2.1
 have cD:=hw.2.2.2
 have gT:=gT.trans gz
 clear hw gs ez
 have e_c:=gz _ _ e_c
 have k_c:=k_c.mono gz
 have ar:=gz _ _ ar
 have k_w:=k_w.mono gz
 have k_fo:=k_fo.mono gz
 have b_:=gz _ _ b_
 have k_po:=k_po.mono gz
 have iT:=gz _ _ iT
 have k_u:=k_w.cut (some (at1 % 4)) (some (at1 % 4+22))
 have ful:=c26 (some (at1 % 4)) (some (at1 % 4+22))
 dsimp only at cD k_u ful ⊢
 generalize bd ws (some (at1 % 4)) (some (at1 % 4+22))=us at cD k_u ful
 refine ⟨_,rfl,_,rfl,_,rfl,c,rfl,⟨_,Wl e_c⟩,?_⟩
 refine Xv (xs:=rows) (fun i out H'=>H'=G41∧(∃ns:List Int,out=ns.map V.int)∧out.length≤i) ⟨rfl,⟨[],rfl⟩,Nat.le_refl _⟩ ?_ ?_ ?_
 ·rintro i out H' _ ⟨rfl,_⟩
  exact Wl e_c
 ·rintro i x out J0 C hx ⟨rfl,⟨ns,rfl⟩,ol⟩ hC
  have il:i<rows.length:=(List.getElem?_eq_some_iff.mp hx).1
  obtain ⟨b,z,n,rfl,e_b,mz⟩:=k_c x (List.mem_of_getElem? hx)
  exact ⟨Zn (by omega),Wk.refl _,_,rfl,b,_,_,_,rfl,rfl,Wl e_b,rfl,hC _ _ ⟨rfl,⟨ns++[n],by rw [List.map_append];rfl⟩,by rw [List.length_append];exact Nat.add_le_add_right ol 1⟩⟩
 rintro _ _ ⟨rfl,⟨ns,rfl⟩,nl⟩
 refine ⟨Zb (by omega),?_⟩
 skip
 intro sm n_sm
 generalize hz:upd _ sm _=G42
 have hw:=Zf hz n_sm hp eL
 have hp:=hw.1
 have eL:=hw.2.1
 have gz:=hw.2.2.1
 have rA:=hw.2.2.2
 clear hw hz
 have gT:=gT.trans gz
 have e_c:=gz _ _ e_c
 have k_c:=k_c.mono gz
 have k_fo:=k_fo.mono gz
 have b_:=gz _ _ b_
 have k_po:=k_po.mono gz
 have iT:=gz _ _ iT
 have cD:=gz _ _ cD
 have k_u:=k_u.mono gz
 refine ⟨sm,ns,rfl,N6 rA,_,rfl,_,_,rfl,rfl,Or.inl ⟨by omega,by omega⟩,_,_,rfl,rfl,leN rfl,?_⟩
 intro ot tJ
 generalize hz:upd _ ot _=G43
 have hw:=Zf hz tJ hp eL
 have hp:=hw.1
 have eL:=hw.2.1
 have gz:=hw.2.2.1
 have cf:=hw.2.2.2
 clear hw hz
 have gT:=gT.trans gz
 have e_c:=gz _ _ e_c
 have k_c:=k_c.mono gz
 have k_fo:=k_fo.mono gz
 have b_:=gz _ _ b_
 have k_po:=k_po.mono gz
 have iT:=gz _ _ iT
 have cD:=gz _ _ cD
 have k_u:=k_u.mono gz
 have rA:=gz _ _ rA
 dsimp only
 refine ⟨_,rfl,_,rfl,_,rfl,_,rfl,pn,fu,po,us,mn,rfl,Yx iT,k_po.mono V8,by omega,Yx cD,k_u.mono V8,by omega,fun l G44 vs n_l gs el al ul=>?_⟩
 obtain ⟨hp,eL,gz,e_l⟩:=Oj gs n_l el hp eL
 have k_l:=al.st (O4 hp eL)
 skip
 have gT:=gT.trans gz
 have e_c:=gz _ _ e_c
 have k_c:=k_c.mono gz
 have k_fo:=k_fo.mono gz
 have b_:=gz _ _ b_
 have cD:=gz _ _ cD
 have k_u:=k_u.mono gz
 have cf:=gz _ _ cf
 skip
 refine ⟨_,rfl,_,rfl,_,rfl,leN rfl,?_⟩
 intro b1 oF
 generalize hz:upd _ b1 _=G45
 have hw:=Zf hz oF hp eL
 have hp:=hw.1
 have eL:=hw.2.1
 have gz:=hw.2.2.1
 have bY:=hw.2.2.2
 clear hw hz
 have gT:=gT.trans gz
 have e_c:=gz _ _ e_c
 have k_c:=k_c.mono gz
 have k_fo:=k_fo.mono gz
 have b_:=gz _ _ b_
 have cD:=gz _ _ cD
 have k_u:=k_u.mono gz
 have cf:=gz _ _ cf
 have e_l:=gz _ _ e_l
 have k_l:=k_l.mono gz
 refine ⟨leN rfl,?_⟩
 intro b2 rM
 generalize hz:upd _ b2 _=G46
 have hw:=Zf hz rM hp eL
 have hp:=hw.1
 have eL:=hw.2.1
 have gz:=hw.2.2.1
 have dF:=hw.2.2.2
 clear hw hz
 have gT:=gT.trans gz
 have e_c:=gz _ _ e_c
 have k_c:=k_c.mono gz
 have k_fo:=k_fo.mono gz
 have b_:=gz _ _ b_
 have cD:=gz _ _ cD
 have k_u:=k_u.mono gz
 have cf:=gz _ _ cf
 have e_l:=gz _ _ e_l
 have k_l:=k_l.mono gz
 have bY:=gz _ _ bY
 refine ⟨leN rfl,?_⟩
 intro b3 n_b3
 generalize hz:upd _ b3 _=G47
 have hw:=Zf hz n_b3 hp eL
 have hp:=hw.1
 have eL:=hw.2.1
 have gz:=hw.2.2.1
 have mG:=hw.2.2.2
 clear hw hz
 have gT:=gT.trans gz
 have e_c:=gz _ _ e_c
 have k_c:=k_c.mono gz
 have k_fo:=k_fo.mono gz
 have b_:=gz _ _ b_
 have cD:=gz _ _ cD
 have k_u:=k_u.mono gz
 have cf:=gz _ _ cf
 have e_l:=gz _ _ e_l
 have k_l:=k_l.mono gz
 have bY:=gz _ _ bY
 have dF:=gz _ _ dF
 refine ⟨leN rfl,?_⟩
 intro b4 n_b4
 generalize hz:upd _ b4 _=G48
 have hw:=Zf hz n_b4 hp eL
 have hp:=hw.1
 have eL:=hw.2.1
 have gz:=hw.2.2.1
 have sN:=hw.2.2.2
 clear hw hz
 have gT:=gT.trans gz
 have e_c:=gz _ _ e_c
 have k_c:=k_c.mono gz
 have k_fo:=k_fo.mono gz
 have b_:=gz _ _ b_
 have cD:=gz _ _ cD
 have k_u:=k_u.mono gz
 have cf:=gz _ _ cf
 have e_l:=gz _ _ e_l
 have k_l:=k_l.mono gz
 have bY:=gz _ _ bY
 have dF:=gz _ _ dF
 have mG:=gz _ _ mG
 refine ⟨fd,b4,fo,_,rfl,rfl,Yx b_,Yx sN,Zb (by show _+1≤_;omega),?_⟩
 intro R n_R
 generalize hz:upd _ R _=G49
 have hw:=Zf hz n_R hp eL
 have hp:=hw.1
 have eL:=hw.2.1
 have gz:=hw.2.2.1
 have e_R:=hw.2.2.2
 clear hw hz
 have gT:=gT.trans gz
 have e_c:=gz _ _ e_c
 have k_c:=k_c.mono gz
 have k_fo:=k_fo.mono gz
 have b_:=gz _ _ b_
 have cD:=gz _ _ cD
 have k_u:=k_u.mono gz
 have cf:=gz _ _ cf
 have e_l:=gz _ _ e_l
 have k_l:=k_l.mono gz
 have bY:=gz _ _ bY
 have dF:=gz _ _ dF
 have mG:=gz _ _ mG
 have sN:=gz _ _ sN
 have ge:GE 3000 (h2 a L G49) (.ref b3):=⟨b3,l,ot,b2,rfl,mG,⟨_,e_l,k_l,ul⟩,⟨_,_,_,_,_,cf,e_c,k_c,by omega⟩,⟨_,dF,All.one (Tm bY cD k_u (by omega)),leN rfl⟩⟩
 exact hq R G49 _ (gL _ _ e_R) ((k_fo.snoc ge).mono gL) (by rw [List.length_append];show _+1≤_;omega) hp (gg0.trans (gT.trans gL))
end
theorem j3 {room:Int} (t:Th):Shw [t] (thT room t) []:=by
 refine ⟨fun z=>?_,rfl,rfl,?_⟩
 ·unfold cH bu thT look
  by_cases h:t.word=z
  ·subst h;simp
  ·simp [h]
   rfl
 ·show t.many+0=t.many
  omega
theorem nQ {room:Int} {n:Nat} {p:TyP} {ts:List Th} {t:Th} (h1:1≤room) (h2:room≤20) (h:TPk room n p) (ht:ThW t) (s:Shw ts p.1 p.2):Shw (ts++[t]) (cZ room p t).1 (cZ room p t).2:=by
 have q:=Shw.merge h.ok (iK h1 h2 ht) h.rm s (j3 t)
 rw [List.append_nil] at q
 exact q
theorem Na {room:Int} (h1:1≤room) (h2:room≤20):∀(ts us:List Th) (n:Nat) (p:TyP),TPk room n p→(∀t∈ts,ThW t)→Shw us p.1 p.2→Shw (us++ts) (ts.foldl (cZ room) p).1 (ts.foldl (cZ room) p).2
 | [],us,n,p,_,_,s=>by rw [List.append_nil];exact s
 | t::ts,us,n,p,h,hw,s=>by
  have q:=Na h1 h2 ts (us++[t]) (n+1) _ (Rb h1 h2 h (hw t (.head _))) (fun x hx=>hw x (.tail _ hx)) (nQ h1 h2 h (hw t (.head _)) s)
  rw [List.append_assoc] at q
  exact q
theorem Uv {room:Int} (h1:1≤room) (h2:room≤20):∀{t:Tr},(∀s∈t.streams,∀x∈s,ThW x)→Shw t.all (aK room t).1 (aK room t).2
 | .leaf ts,h=>by
  have q:=Na h1 h2 ts [] 0 (Ty.zero room,[]) ⟨Pz h1 h2,rfl,(fun _ h=>nomatch h),Nat.zero_le _⟩ (h ts (.head _)) (Shw.zero room)
  exact q
 | .node l r,h=>by
  have hl:∀s∈l.streams,∀x∈s,ThW x:=fun s hs=>h s (List.mem_append_left _ hs)
  have hr:∀s∈r.streams,∀x∈s,ThW x:=fun s hs=>h s (List.mem_append_right _ hs)
  have a:=Xd h1 h2 hl
  have b:=Xd h1 h2 hr
  exact Shw.merge a.ok b.ok (a.rm.trans b.rm.symm) (Uv h1 h2 hl) (Uv h1 h2 hr)
theorem ki {a b:Ty} (h:a.Ok) (l:b.cs.length≤1):(aR a b).length≤21:=by
 unfold aR
 split
 ·exact Nat.zero_le _
 ·rw [Qe]
  have l1:=Rs a.room a.cs b.cs
  have l3:=W0 a.cs b.cs
  have l4:=h.len
  have l6:=h.room2
  omega
theorem Ph {room:Int} (h1:1≤room) (h2:room≤20):∀(ts:List Th) (n:Nat) (p:TyP),TPk room n p→(∀t∈ts,ThW t)→(ts.foldl (cZ room) p).2.length≤p.2.length+21 * ts.length
 | [],n,p,_,_=>Nat.le_refl _
 | t::ts,n,p,h,hw=>by
  have q:=Ph h1 h2 ts (n+1) _ (Rb h1 h2 h (hw t (.head _))) fun x hx=>hw x (.tail _ hx)
  have e:(cZ room p t).2.length=p.2.length+(aR p.1 (thT room t)).length:=List.length_append
  have l:=ki (b:=thT room t) h.ok (Nat.le_refl _)
  rw [List.foldl_cons,List.length_cons]
  omega
theorem S9 {room:Int} (h1:1≤room) (h2:room≤20):∀{t:Tr},(∀s∈t.streams,∀x∈s,ThW x)→(aK room t).2.length≤21 * t.all.length+40 * t.size
 | .leaf ts,h=>by
  have q:=Ph h1 h2 ts 0 (Ty.zero room,[]) ⟨Pz h1 h2,rfl,(fun _ h=>nomatch h),Nat.zero_le _⟩ (h ts (.head _))
  have q:(cw room ts).2.length≤0+21 * ts.length:=q
  show (cw room ts).2.length≤21 * ts.length+40 * 1
  omega
 | .node l r,h=>by
  have hl:∀s∈l.streams,∀x∈s,ThW x:=fun s hs=>h s (List.mem_append_left _ hs)
  have hr:∀s∈r.streams,∀x∈s,ThW x:=fun s hs=>h s (List.mem_append_right _ hs)
  have a:=S9 h1 h2 hl
  have b:=S9 h1 h2 hr
  have c:=Vr (Xd h1 h2 hl).ok (Xd h1 h2 hr).ok
  show ((aK room l).2++(aK room r).2++aR (aK room l).1 (aK room r).1).length≤21 * (l.all++r.all).length+40 * (l.size+r.size+1)
  rw [List.length_append,List.length_append,List.length_append]
  omega
theorem rc:∀{bs:List Bn},(∀b∈bs,1≤b.2)→∀b∈bs,b.2≤(bs.map (·.2)).sum
 | [],_,b,hb=>nomatch hb
 | x::bs,h,b,hb=>by
  have n0:∀{l:List Bn},(∀b∈l,1≤b.2)→0≤(l.map (·.2)).sum:=fun {l} hl=>by
   induction l with
   | nil=>exact Int.le_refl _
   | cons y l ih=>
    rw [List.map_cons,List.sum_cons]
    have:=ih fun z hz=>hl z (.tail _ hz)
    have:=hl y (.head _)
    omega
  rw [List.map_cons,List.sum_cons]
  have q:=n0 fun z hz=>h z (.tail _ hz)
  have x1:=h x (.head _)
  rcases List.mem_cons.mp hb with rfl | hb
  ·omega
  ·have:=rc (fun z hz=>h z (.tail _ hz)) b hb
   omega
theorem Rr:∀{ts:List Th},(∀t∈ts,1≤t.many∧t.many≤1000000000)→0≤(ts.map Th.many).sum∧(ts.map Th.many).sum≤1000000000 * (ts.length:Int)
 | [],_=>⟨Int.le_refl _,Int.le_refl _⟩
 | t::ts,h=>by
  have ih:=Rr fun x hx=>h x (.tail _ hx)
  have ht:=h t (.head _)
  rw [List.map_cons,List.sum_cons,List.length_cons]
  omega
theorem rZ {ps:Ps} (h:∀p∈ps,1≤p.2):0≤(aW ps).sum:=by
 induction ps with
 | nil=>exact Int.le_refl _
 | cons p ps ih=>
  show 0≤p.2+(aW ps).sum
  have:=ih fun z hz=>h z (.tail _ hz)
  have:=h p (.head _)
  omega
theorem n5:∀{zs ys:List Str},zs.Nodup→(∀z∈zs,z∈ys)→zs.length≤ys.length
 | [],ys,_,_=>Nat.zero_le _
 | z::zs,ys,nd,h=>by
  have mem:=h z (.head _)
  have nd:=List.nodup_cons.mp nd
  have q:=n5 (zs:=zs) (ys:=ys.erase z) nd.2 fun x hx=>(List.mem_erase_of_ne (show x≠z from fun e=>nd.1 (e ▸ hx))).mpr (h x (.tail _ hx))
  rw [List.length_erase_of_mem mem] at q
  have:=List.length_pos_of_mem mem
  rw [List.length_cons]
  omega
theorem nr {zs:List Str} (nd:zs.Nodup) (w:∀z∈zs,z∈words):zs.length≤26:=by
 have q:=n5 nd w
 exact Nat.le_trans q (by decide +kernel)
theorem pU {room:Int} {t:Tr} (h1:1≤room) (h2:room≤20) (h:t.Ok) (tw:∀s∈t.streams,∀x∈s,ThW x) (tl:t.all.length≤100) (ta:∀x∈t.all,1≤x.many∧x.many≤1000000000):
  ∀b∈(aK room t).2,(∀z∈b.1,Mk z)∧1≤b.1.length∧b.1.length≤26∧1≤b.2∧b.2<100000000000000000000:=fun b hb=>by
 have k:=Xd h1 h2 tw
 have s:=Uv h1 h2 tw
 have w:=k.w b hb
 have p:=(List.all_eq_true.mp s.pap) b hb
 have p1:=i_ s.pap
 unfold bnB at p
 have le:=rc p1 b hb
 rw [s.lt] at le
 have tot:=s.tot
 have ms:=Rr ta
 have lo:=k.ok.lo
 have rm:=k.rm
 have l0:=k.ok.lt0
 have sn:=rZ k.ok.pos
 have sn:0≤(aK room t).1.sum:=sn
 have mul:(aK room t).1.lt≤((aK room t).1.room+1) * (aK room t).1.lt:=by
  have:1 * (aK room t).1.lt≤((aK room t).1.room+1) * (aK room t).1.lt:=Int.mul_le_mul_of_nonneg_right (by omega) l0
  omega
 simp only [Bool.and_eq_true,decide_eq_true_iff] at p
 obtain ⟨pr,pl,pn⟩:=p
 have nd:b.1.Nodup:=(Sv pr).imp fun h e=>by rw [e] at h;exact List.lt_irrefl _ h
 exact ⟨fun z hz=>R5 z (w.1 z hz),by omega,nr nd w.1,pn,by omega⟩
theorem qp {room:Int} {t:Tr} (h1:1≤room) (h2:room≤20) (tw:∀s∈t.streams,∀x∈s,ThW x) (ta:∀x∈t.all,1≤x.many∧x.many≤1000000000):(mdB (aK room t).1 && cT t.all (aK room t).1 (aK room t).2)=true:=by
 have k:=Xd h1 h2 tw
 have s:=Uv h1 h2 tw
 have md:MdP (aK room t).1:=⟨k.ok.room1,k.ok.room2,Oe ((List.Pairwise.and k.ok.rise k.ok.nd).imp fun {x y} ⟨h1,h2⟩=>by
   by_cases c:x.cps.toList<y.cps.toList
   ·exact c
   ·have h3:leS y x=true:=by unfold leS;rw [decide_eq_false c];rfl
    exact absurd (Tb h1 h3) h2),k.ok.len,k.ok.pos,k.ok.lt0,by rw [←s.tot];exact (Rr ta).1⟩
 rw [T7.mpr md,s.shown k.ok.nd k.ok.pos fun x hx=>(ta x hx).1]
 rfl
def mZ:Sp:=fun vs H Q _=>∃(a:Addr),vs=[.ref a]∧PenAt H a∧∀(m:Int) (H':Hp),1≤m→m≤20→PenAt H' a→Grw a H H'→Q (.int m) H'
def jt (K:W.Frag):Sp:=fun vs H Q _=>∃(a:Addr) (ns:List Int),vs=[.ref a]∧SqL K H a (ns.map V.int)∧ns.length≤63∧∀H',Q (.bl true) H'
theorem W1 {p:Addr} {H0 H1 H2:Hp} (n:H0 p=none) (s:Same H0 H1) (g:Grw p H1 H2):Same H0 H2:=fun b u e=>(Z4 (g b u (by rw [Ym (Zs e n)];exact s b u e))).2
theorem Rx {p:Addr} {H0 H1:Hp} (n:H0 p=none) (s:Same H0 H1):Same H0 (aA p H1):=fun b u e=>by rw [Ym (Zs e n)];exact s b u e
theorem Rc {K:W.Frag} {H H':Hp} {a:Addr} {xs:List V} (s:Same H H') (h:SqL K H a xs):SqL K H' a xs:=by
 rcases h with h | h
 ·rcases h with h | ⟨o,h⟩
  ·exact .inl (.inl (s _ _ h))
  ·exact .inl (.inr ⟨o,s _ _ h⟩)
 ·exact .inr h
theorem ok_W:∀{t:Tr},t.Ok→∀s∈t.streams,∀x∈s,ThW x:=fun {t} h s hs x hx=>⟨(Tr.streams_ok h s hs x hx).word,(Tr.streams_ok h s hs x hx).many⟩
theorem iB:∀{t:Tr},t.Ok→∀x∈t.all,x.Ok
 | .leaf _,h,x,hx=>h x hx
 | .node _ _,h,x,hx=>(List.mem_append.mp hx).elim (iB h.1 x) (iB h.2 x)
theorem uF {H:Hp} {xs:List V} {ts:List Th} (d:DVs H xs (ts.map Th.D)) (w:∀t∈ts,PyData.strOk t.word=true):All TE H xs:=fun x hx=>by
 obtain ⟨i,hi⟩:=List.getElem?_of_mem hx
 obtain ⟨t,c,_,rfl,e,m⟩:=DVs.th_at d hi
 exact ⟨c,t,rfl,e,w t m⟩
theorem uU {H:Hp} {rows:List V} {cs:Ps} (pa:PairsAt H rows (aE cs)) (w:∀p∈cs,Mk p.1):All CE H rows:=fun x hx=>by
 obtain ⟨i,hi⟩:=List.getElem?_of_mem hx
 obtain ⟨y,p,rfl,hp,ey⟩:=pa.getP hi
 exact ⟨y,p.1,p.2,rfl,ey,w p (List.mem_of_getElem? hp)⟩
theorem qX {H:Hp}:∀{xs:List V} {bs:List Bn},BnsAt H xs bs→(∀b∈bs,(∀z∈b.1,Mk z)∧1≤b.1.length∧b.1.length≤26∧1≤b.2∧b.2<100000000000000000000)→All B0 H xs
 | _,_,.nil,_=>All.nil
 | _,_,.cons e e2 r,h=>All.cons ⟨_,_,_,rfl,e,e2,h _ (.head _)⟩ (qX r fun b hb=>h b (.tail _ hb))
theorem qy (bs:List Bn):PyData.eqv (ii bs) (.list [])=bs.isEmpty:=by
 unfold ii
 rw [Ot]
 cases bs <;> rfl
structure LF (K:W.Frag) (s0 r q p c:Addr) (ns:List Int) (xs rows ys:List V) (room lt tot:Int) (H:Hp):Prop where
 scr:SqL K H s0 (ns.map V.int)
 e_r:H r=some (.lst xs)
 k_x:All TE H xs
 e_q:H q=some (.tup [.int room,.ref c,.int lt,.int tot])
 e_c:H c=some (.tup rows)
 k_c:All CE H rows
 e_p:H p=some (.lst ys)
 k_p:All B0 H ys
section
variable {K:W.Frag} {s0 r q p c:Addr} {ns:List Int} {xs rows ys:List V} {room lt tot:Int} {H H':Hp}
theorem LF.mono (h:LF K s0 r q p c ns xs rows ys room lt tot H) (g:Same H H'):LF K s0 r q p c ns xs rows ys room lt tot H':=
 ⟨Rc g h.scr,g _ _ h.e_r,h.k_x.mono g,g _ _ h.e_q,g _ _ h.e_c,h.k_c.mono g,g _ _ h.e_p,h.k_p.mono g⟩
theorem LF.sg (h:LF K s0 r q p c ns xs rows ys room lt tot H) (l:xs.length≤100):SG 1000 H r:=⟨xs,h.e_r,h.k_x,by omega⟩
theorem LF.tg (h:LF K s0 r q p c ns xs rows ys room lt tot H) (l:rows.length≤20):TG H q:=⟨c,rows,room,lt,tot,h.e_q,h.e_c,h.k_c,by omega⟩
theorem LF.pg (h:LF K s0 r q p c ns xs rows ys room lt tot H) (l:ys.length≤1400):PG 3000 H p:=⟨ys,h.e_p,h.k_p.be,by omega⟩
end
section
variable {P:Program} {w:World} {K:W.Frag} {mg:Str→Option Value} {base:Heap} {f:Addr} {fd:FuncData}
theorem pc (ai:Has P w K mg base "_law_draw" 1 ["_law_pen_here","_law_size"] bN) (F:Fun K "_law_room" "_law_room" cB f fd):FnOk P w K mg base CX0 2 f fd ["_law_pen_here"] mZ:=by
 refine F.ok ky (fun vs H Q E h=>?_) (fun cdv A outer s H vs Q E hr h=>?_)
 ·obtain ⟨a,rfl,_⟩:=h
  rfl
 obtain ⟨a,rfl,hp,hq⟩:=h
 refine ⟨_,(@Z9 _ _ _ (@Zg _ _ _ _ (@Y0 _ _ _ _ _ _ _ Yb (@Y4 _ _ _ _ (@Z0 _ _ _ _ _ Z2 (@Z0 _ _ _ _ _ Z2 (@Z0 _ _ _ _ _ Z2 (@Z0 _ _ _ _ _ (@Za _ _ _ _ _ _ _ _ Zp Z2 (Z7 ai hr (@Z0 _ _ _ _ _ (pv 0) (@Z0 _ _ _ _ _ Z2 Z1 (by rfl)) (by rfl)))) Z1 (by rfl)) (by rfl)) (by rfl)) (by rfl))) (Z7 ai hr (@Z0 _ _ _ _ _ (pv 0) (@Z0 _ _ _ _ _ Z2 Z1 (by rfl)) (by rfl))) (fun _ _=>rfl)))),?_⟩
 refine ⟨_,rfl,a,20,rfl,hp,Xg rfl,ltI rfl,fun d1 H1 x0 x1 hp1 g1=>⟨_,_,rfl,rfl,?_⟩⟩
 have x1:d1<20:=x1
 refine ⟨leN rfl,fun p hn=>⟨_,rfl,a,4,rfl,hp1.laid hn,Xg rfl,ltI rfl,fun d2 H2 y0 y1 hp2 g2=>?_⟩⟩
 have hpa:=hp1.ne hn
 have e2:H2 p=some (.lst [.int 1,.int 2,.int 3,.int (1+d1)]):=Oq g2 hpa Ze
 obtain ⟨v,hv,hm⟩:=Qg (xs:=[V.int 1,.int 2,.int 3,.int (1+d1)]) y0 y1
 refine ⟨p,_,_,v,rfl,rfl,SqL.of e2,hv,?_⟩
 have gg:=g1.trans ((Xc hn).trans g2)
 simp only [List.mem_cons,List.not_mem_nil,or_false] at hm
 rcases hm with rfl | rfl | rfl | rfl
 ·exact hq _ _ (by decide) (by decide) hp2 gg
 ·exact hq _ _ (by decide) (by decide) hp2 gg
 ·exact hq _ _ (by decide) (by decide) hp2 gg
 ·exact hq _ _ (by omega) (by omega) hp2 gg
theorem sI (dP:Has P w K mg base "_law_pen" 1 ["_law_script","_law_k"] (re K)) (ai:Has P w K mg base "_law_draw" 1 ["_law_pen_here","_law_size"] bN) (lZ:Has P w K mg base "_law_room" 2 ["_law_pen_here"] mZ)
  (dw:Has P w K mg base "_law_tree" 9 ["_law_pen_here","_law_marks","_law_deep","_law_most","_law_parts"] (eX 5)) (bM:Has P w K mg base "_law_stream_of" 5 ["_law_tree_here"] (jD 5)) (cY:Has P w K mg base "_law_grown" 7 ["_law_room_here","_law_tree_here"] (jG 5))
  (eN:Has P w K mg base "_law_due" 2 ["_law_stream_here","_law_tally","_law_paper"] eT) (dS:Has P w K mg base "_law_said" 7 ["_law_stream_here","_law_tally","_law_paper"] oi)
  (er:Has P w K mg base "_law_bent_paper" 2 ["_law_pen_here","_law_paper","_law_way"] uP) (dZ:Has P w K mg base "_law_bent_tally" 2 ["_law_pen_here","_law_tally","_law_way"] uc) (dO:Has P w K mg base "_law_bent_stream" 2 ["_law_pen_here","_law_stream_here"] ur)
  (iw:Has P w K mg base "_law_forged" 2 ["_law_pen_here","_law_stream_here","_law_tally","_law_paper"] mf)
  (bS:mg "range"=none) (F:Fun K "law" "law" dD f fd):FnOk P w K mg base CX0 10 f fd ["_law_script"] (jt K):=by
 refine F.ok Xb (fun vs H Q E h=>?_) (fun cdv A outer s H vs Q E hr h=>?_)
 ·obtain ⟨a,ns,rfl,_⟩:=h
  rfl
 obtain ⟨s0,ns,rfl,hS,_,hq⟩:=h
 refine ⟨_,(@Z3 _ _ _ _ _ (@Zj _ _ 1 _ _ _ _ Xb.nd rfl (Or.inl rfl) (Z7 dP hr (@Z0 _ _ _ _ _ (pv 0) (@Z0 _ _ _ _ _ Z2 Z1 (by rfl)) (by rfl))) (by rfl) (by first | exact .inl rfl | exact .inr rfl))
 (@Z3 _ _ _ _ _ (@Zj _ _ 2 _ _ _ _ Xb.nd rfl (Or.inl rfl) (@Za _ _ _ _ _ _ _ _ Zp Z2 (Z7 ai hr (@Z0 _ _ _ _ _ (pv 1) (@Z0 _ _ _ _ _ Z2 Z1 (by rfl)) (by rfl)))) (by rfl) (by first | exact .inl rfl | exact .inr rfl))
 (@Z3 _ _ _ _ _ (@Zj _ _ 3 _ _ _ _ Xb.nd rfl (Or.inl rfl) (Z7 lZ hr (@Z0 _ _ _ _ _ (pv 1) Z1 (by rfl))) (by rfl) (by first | exact .inl rfl | exact .inr rfl))
 (@Z3 _ _ _ _ _ (@Yc _ _ _ _ _ _ _ _ (@Zm _ _ _ _ _ _ _ _ U3 (pv 3) Z2 (Zk _)) (@Z9 _ _ _ (@Zj _ _ 2 _ _ _ _ Xb.nd rfl (Or.inl rfl) Z2 (by rfl) (by first | exact .inl rfl | exact .inr rfl))) Zu)
 (@Z3 _ _ _ _ _ (@Zj _ _ 4 _ _ _ _ Xb.nd rfl (Or.inl rfl) (Z7 dw hr (@Z0 _ _ _ _ _ (Z7 dP hr (@Z0 _ _ _ _ _ (pv 0) (@Z0 _ _ _ _ _ Z2 Z1 (by rfl)) (by rfl))) (@Z0 _ _ _ _ _ (pv 2) (@Z0 _ _ _ _ _ Z2 (@Z0 _ _ _ _ _ Z2 (@Z0 _ _ _ _ _ Z2 Z1 (by rfl)) (by rfl)) (by rfl)) (by rfl)) (by rfl))) (by rfl) (by first | exact .inl rfl | exact .inr rfl))
 (@Z3 _ _ _ _ _ (@Zj _ _ 5 _ _ _ _ Xb.nd rfl (Or.inl rfl) (Z7 bM hr (@Z0 _ _ _ _ _ (pv 4) Z1 (by rfl))) (by rfl) (by first | exact .inl rfl | exact .inr rfl))
 (@Z3 _ _ _ _ _ (X7 (Z7 cY hr (@Z0 _ _ _ _ _ (pv 3) (@Z0 _ _ _ _ _ (pv 4) Z1 (by rfl)) (by rfl))) (Yq rfl (Z6 (Z5 (i:=6) Xb.nd rfl (Or.inl rfl)) (Z6 (Z5 (i:=7) Xb.nd rfl (Or.inl rfl)) Zx))))
 (@Z3 _ _ _ _ _ (@Yc _ _ _ _ _ _ _ _ (PW.pt (@Xw _ _ _ _ _ _ _ (@X6 _ _ _ _ (Yy (Z7 eN hr (@Z0 _ _ _ _ _ (pv 5) (@Z0 _ _ _ _ _ (pv 6) (@Z0 _ _ _ _ _ (pv 7) Z1 (by rfl)) (by rfl)) (by rfl))))) (@Xp _ _ _ _ (@X6 _ _ _ _ (Yy (Z7 dS hr (@Z0 _ _ _ _ _ (pv 5) (@Z0 _ _ _ _ _ (pv 6) (@Z0 _ _ _ _ _ (pv 7) Z1 (by rfl)) (by rfl)) (by rfl)))))))) (@Z9 _ _ _ (@Zg _ _ _ _ Wc)) Zu)
 (@Z3 _ _ _ _ _ (Xx PassesOwn.never rfl (S0 rfl bS (@Z0 _ _ _ _ _ Z2 Z1 (by rfl))) (Z5 (i:=8) Xb.nd rfl (Or.inl rfl))
 (@Z3 _ _ _ _ _ (@Zj _ _ 1 _ _ _ _ Xb.nd rfl (Or.inl rfl) (Z7 dP hr (@Z0 _ _ _ _ _ (pv 0) (@Z0 _ _ _ _ _ (@Za _ _ _ _ _ _ _ _ Zp Z2 (pv 8)) Z1 (by rfl)) (by rfl))) (by rfl) (by first | exact .inl rfl | exact .inr rfl))
 (@Z3 _ _ _ _ _ (@Zj _ _ 9 _ _ _ _ Xb.nd rfl (Or.inl rfl) (Z7 ai hr (@Z0 _ _ _ _ _ (pv 1) (@Z0 _ _ _ _ _ Z2 Z1 (by rfl)) (by rfl))) (by rfl) (by first | exact .inl rfl | exact .inr rfl))
 (@Z3 _ _ _ _ _ (@Zj _ _ 10 _ _ _ _ Xb.nd rfl (Or.inl rfl) (@Zh _ _ _ _ _ (@Z0 _ _ _ _ _ (pv 5) (@Z0 _ _ _ _ _ (pv 6) (@Z0 _ _ _ _ _ (pv 7) Z1 (by rfl)) (by rfl)) (by rfl))) (by rfl) (by first | exact .inl rfl | exact .inr rfl))
 (@Z3 _ _ _ _ _ (@Yc _ _ _ _ _ _ _ _ (PW.pt (@m_ _ _ _ _ _ _ _ (@Zm _ _ _ _ _ _ _ _ Vj (pv 9) Z2 (Zk _)) (@jB _ _ _ _ (@Zm _ _ _ _ _ _ _ _ (gQ hr.units) (pv 7) (@Y4 _ _ _ _ Z1) (Zk _))))) (@Z9 _ _ _ (@Zj _ _ 10 _ _ _ _ Xb.nd rfl (Or.inl rfl) (@Zh _ _ _ _ _ (@Z0 _ _ _ _ _ (pv 5) (@Z0 _ _ _ _ _ (pv 6) (@Z0 _ _ _ _ _ (Z7 er hr (@Z0 _ _ _ _ _ (pv 1) (@Z0 _ _ _ _ _ (pv 7) (@Z0 _ _ _ _ _ (pv 9) Z1 (by rfl)) (by rfl)) (by rfl))) Z1 (by rfl)) (by rfl)) (by rfl))) (by rfl) (by first | exact .inl rfl | exact .inr rfl))) (@Z9 _ _ _ (@Yc _ _ _ _ _ _ _ _ (@Zm _ _ _ _ _ _ _ _ Vj (pv 9) Z2 (Zk _)) (@Z9 _ _ _ (@Zj _ _ 10 _ _ _ _ Xb.nd rfl (Or.inl rfl) (@Zh _ _ _ _ _ (@Z0 _ _ _ _ _ (pv 5) (@Z0 _ _ _ _ _ (Z7 dZ hr (@Z0 _ _ _ _ _ (pv 1) (@Z0 _ _ _ _ _ (pv 6) (@Z0 _ _ _ _ _ (pv 9) Z1 (by rfl)) (by rfl)) (by rfl))) (@Z0 _ _ _ _ _ (pv 7) Z1 (by rfl)) (by rfl)) (by rfl))) (by rfl) (by first | exact .inl rfl | exact .inr rfl))) (@Z9 _ _ _ (@Zj _ _ 10 _ _ _ _ Xb.nd rfl (Or.inl rfl) (@Zh _ _ _ _ _ (@Z0 _ _ _ _ _ (Z7 dO hr (@Z0 _ _ _ _ _ (pv 1) (@Z0 _ _ _ _ _ (pv 5) Z1 (by rfl)) (by rfl))) (@Z0 _ _ _ _ _ (pv 6) (@Z0 _ _ _ _ _ (pv 7) Z1 (by rfl)) (by rfl)) (by rfl))) (by rfl) (by first | exact .inl rfl | exact .inr rfl))))))
 (@Z9 _ _ _ (@Yc _ _ _ _ _ _ _ _ (@X6 _ _ _ _ (Yy (Z7 dS hr (@Z0 _ _ _ _ _ (@Y0 _ _ _ _ _ _ _ Yl (pv 10) Z2 (fun _ _=>rfl)) (@Z0 _ _ _ _ _ (@Y0 _ _ _ _ _ _ _ Yl (pv 10) Z2 (fun _ _=>rfl)) (@Z0 _ _ _ _ _ (@Y0 _ _ _ _ _ _ _ Yl (pv 10) Z2 (fun _ _=>rfl)) Z1 (by rfl)) (by rfl)) (by rfl))))) (@Z9 _ _ _ (@Zg _ _ _ _ Wc)) Zu)))))))
 (@Z3 _ _ _ _ _ (Xx PassesOwn.never rfl (X0 (Z7 iw hr (@Z0 _ _ _ _ _ (Z7 dP hr (@Z0 _ _ _ _ _ (pv 0) (@Z0 _ _ _ _ _ Z2 Z1 (by rfl)) (by rfl))) (@Z0 _ _ _ _ _ (pv 5) (@Z0 _ _ _ _ _ (pv 6) (@Z0 _ _ _ _ _ (pv 7) Z1 (by rfl)) (by rfl)) (by rfl)) (by rfl)))) (Z5 (i:=10) Xb.nd rfl (Or.inl rfl))
 (@Z9 _ _ _ (@Yc _ _ _ _ _ _ _ _ (@X6 _ _ _ _ (Yy (Z7 dS hr (@Z0 _ _ _ _ _ (@Y0 _ _ _ _ _ _ _ Yl (pv 10) Z2 (fun _ _=>rfl)) (@Z0 _ _ _ _ _ (@Y0 _ _ _ _ _ _ _ Yl (pv 10) Z2 (fun _ _=>rfl)) (@Z0 _ _ _ _ _ (@Y0 _ _ _ _ _ _ _ Yl (pv 10) Z2 (fun _ _=>rfl)) Z1 (by rfl)) (by rfl)) (by rfl))))) (@Z9 _ _ _ (@Zg _ _ _ _ Wc)) Zu)))
 (@Z9 _ _ _ (@Zg _ _ _ _ Wc)))))))))))),?_⟩
 refine ⟨_,rfl,s0,ns,0,rfl,hS,by omega,fun a H1 na s1 hp=>?_⟩
 have gg:Grw a H1 H1:=Same.refl _
 refine ⟨_,rfl,a,8,rfl,hp,Xg rfl,ltI rfl,fun d1 H2 x0 x1 hp g2=>⟨_,_,rfl,rfl,?_⟩⟩
 have x1:d1<8:=x1
 have gg:=gg.trans g2
 refine ⟨_,rfl,a,rfl,hp,fun room H3 r0 r1 hp g3=>?_⟩
 have gg:=gg.trans g3
 have sm3:Same H H3:=W1 na s1 gg
 have hS:=Rc sm3 hS
 dsimp only [i7]
 refine Rg (fun σ H'=>∃few:Int,σ=[some (.ref s0),some (.ref a),some (.int few),some (.int room),none,none,none,none,none,none,none]∧H3=H'∧0<few∧few≤26) ?_ ?_
 ·intro nx hnx
  refine ⟨_,rfl,_,_,rfl,rfl,_,rfl,?_⟩
  refine Yu (fun c=>hnx _ _ ⟨26,rfl,rfl,by decide,by decide⟩) (fun c=>hnx _ _ ⟨_,rfl,rfl,by omega,by omega⟩)
 rintro _ _ ⟨few,rfl,rfl,f0,f1⟩
 refine ⟨_,rfl,s0,ns,1,rfl,hS,by omega,fun b H4 nb s4 hpb=>?_⟩
 refine ⟨_,rfl,b,few,4,9,5,rfl,hpb,f0,by omega,by decide,by decide,by decide,by decide,by decide,by decide,by decide,fun v t H5 tok tsz tht tal dv _ g5=>?_⟩
 have s5:Same H3 H5:=W1 nb s4 g5
 have dv:=dv.mono Y8
 have tw:=ok_W tok
 have ta:=iB tok
 have tm:∀x∈t.all,1≤x.many∧x.many≤1000000000:=fun x hx=>⟨(ta x hx).many,(ta x hx).manyU⟩
 have to:∀x∈t.all,PyData.strOk x.word=true:=fun x hx=>Oy _ (ta x hx).word
 have tl:t.all.length≤45:=by omega
 refine ⟨_,rfl,v,t,rfl,dv,by omega,by omega,fun r H6 s6 _ dr=>?_⟩
 refine ⟨_,rfl,_,rfl,v,room,t,rfl,r0,r1,dv.mono s6,by omega,tw,by omega,fun gp q p H7 s7 e7 dq pp=>?_⟩
 refine ⟨gp,_,rfl,SqT.of e7,rfl,_,_,rfl,_,_,rfl,rfl,?_⟩
 have dr:=dr.mono s7
 have inv:=Xd r0 r1 tw
 have md:=qp r0 r1 tw tm
 have bn:=pU r0 r1 tok tw (by omega) tm
 have bl:=S9 r0 r1 tw
 have cm:∀p∈(aK room t).1.cs,Mk p.1:=fun p hp=>R5 _ (inv.ok.word p hp)
 have cl:=inv.ok.len
 have cr:=inv.rm
 have bk:∀b∈(aK room t).2,BnK b:=fun b hb=>⟨(bn b hb).1,by have:=(bn b hb).2.2.1;omega⟩
 generalize (aK room t).1=ty at dq inv md cm cl cr
 generalize (aK room t).2=bs at pp md bn bl bk
 obtain ⟨_,xs,e0,e_r,dx⟩:=DV.list_inv dr
 cases e0
 obtain ⟨_,c,rows,e0,e_q,e_c,pa⟩:=DV.ty_inv dq
 cases e0
 obtain ⟨ys,e_p,kb⟩:=id pp
 have xl:xs.length≤100:=by have:=dx.length;rw [List.length_map] at this;omega
 have rl:rows.length≤20:=by have:=pa.length;rw [Ye] at this;omega
 have yl:ys.length≤1400:=by have:=kb.length;omega
 have k_l:LF K s0 r q p c ns xs rows ys ty.room ty.lt ty.total H7:=⟨Rc (s5.trans (s6.trans s7)) hS,e_r,uF dx to,e_q,e_c,uU pa cm,e_p,qX kb bn⟩
 dsimp only
 refine ⟨_,rfl,_,rfl,_,rfl,r,q,p,t.all,ty,bs,rfl,dr,by omega,dq,cm,by omega,pp,by omega,bk,fun H8 s8=>?_⟩
 rw [md]
 refine ⟨_,rfl,X8 ⟨_,rfl,_,rfl,_,rfl,r,q,p,t.all,ty,bs,rfl,dr.mono s8,⟨by omega,to⟩,dq.mono s8,⟨cm,by omega⟩,pp.mono s8,⟨by omega,bk⟩,fun H9 s9=>⟨_,rfl,X8 ?_⟩⟩⟩
 have k_l:=k_l.mono (s8.trans s9)
 refine ⟨8,rfl,leI rfl,ltI rfl,?_⟩
 refine kw (lo:=0) (n:=8) (fun i σ H'=>∃(o1 o8 o9 o10:Option V),σ=[some (.ref s0),o1,some (.int few),some (.int room),some v,some (.ref r),some (.ref q),some (.ref p),o8,o9,o10]∧LF K s0 r q p c ns xs rows ys ty.room ty.lt ty.total H') ⟨_,_,_,_,rfl,k_l⟩ ?_ ?_
 ·rintro i σ H0 hi ⟨o1,o8,o9,o10,rfl,k_l⟩
  refine ⟨_,rfl,_,rfl,_,_,rfl,rfl,s0,ns,_,rfl,k_l.scr,by omega,fun a H1 na s1 hp=>?_⟩
  have gg:Grw a H1 H1:=Same.refl _
  have k_a:=k_l.mono (Rx na s1)
  refine ⟨_,rfl,a,12,rfl,hp,Xg rfl,ltI rfl,fun way H2 w0 w1 hp gz=>?_⟩
  have gg:=gg.trans gz
  have k_a:=k_a.mono gz
  refine ⟨_,rfl,_,rfl,_,rfl,leN rfl,?_⟩
  intro g1 n_g1
  generalize hz:upd _ g1 _=H3
  have hw:=Z8 hz n_g1 hp
  have hp:=hw.1
  have gz:=hw.2.1
  have ne_g1:=hw.2.2.1
  have e_g1:=hw.2.2.2
  clear hw hz
  have gg:=gg.trans gz
  have k_a:=k_a.mono gz
  dsimp only
  refine Rg (fun σ' H'=>∃(o1 o8 o9:Option V) (g x1 x2 x3:Addr),σ'=[some (.ref s0),o1,some (.int few),some (.int room),some v,some (.ref r),some (.ref q),some (.ref p),o8,o9,some (.ref g)]∧H' g=some (.tup [.ref x1,.ref x2,.ref x3])∧SG 1000 H' x1∧TG H' x2∧PG 3000 H' x3∧LF K s0 r q p c ns xs rows ys ty.room ty.lt ty.total H') ?_ ?_
  ·intro nx hnx
   refine ⟨_,rfl,_,_,rfl,rfl,_,rfl,Yu (fun c0=>?_) (fun c0=>?_)⟩
   ·refine ⟨_,rfl,leN rfl,?_⟩
    intro z1 sB
    generalize hz:upd _ z1 _=H4
    have hw:=Z8 hz sB hp
    have hp:=hw.1
    have gz:=hw.2.1
    have ne_z1:=hw.2.2.1
    have sD:=hw.2.2.2
    clear hw hz
    have gg:=gg.trans gz
    have k_a:=k_a.mono gz
    obtain ⟨bs2,pp2,bl2,bk2⟩:∃bs2,PapAt H4 p bs2∧bs2.length=ys.length∧GoodP bs2:=by
     obtain ⟨bs2,d2,l2,w2⟩:=oK (k_a.k_p.be.mono Y8)
     exact ⟨bs2,⟨ys,(Z4 k_a.e_p).2,d2⟩,l2,by omega,w2⟩
    refine ⟨_,_,pp2.dv,.lst (Z4 sD).2 .nil,X5 (P0 bk2) (by decide),by decide,_,rfl,?_⟩
    rw [qy]
    refine Yu (fun c1=>?_) (fun c1=>?_)
    ·have ypos:0<ys.length:=by
      rw [←bl2]
      cases bs2 with
      | nil=>exact absurd c1 (by decide)
      | cons _ _=>simp
     refine ⟨_,rfl,_,rfl,_,rfl,_,rfl,_,rfl,a,p,way,ys,rfl,hp,k_a.e_p,k_a.k_p,ypos,yl,fun l J k_g hp gz=>?_⟩
     have gg:=gg.trans gz
     have k_a:=k_a.mono gz
     refine ⟨leN rfl,?_⟩
     intro g2 eO
     generalize hz:upd _ g2 _=J1
     have hw:=Z8 hz eO hp
     have hp:=hw.1
     have gz:=hw.2.1
     have ne_g2:=hw.2.2.1
     have eJ:=hw.2.2.2
     clear hw hz
     have gg:=gg.trans gz
     have k_a:=k_a.mono gz
     have k_g:=k_g.mono gz
     exact hnx _ _ ⟨_,_,_,g2,r,q,l,rfl,(Z4 eJ).2,(k_a.sg xl).mono Y8,(k_a.tg rl).mono Y8,k_g.mono Y8,k_l.mono (W1 na s1 gg)⟩
    ·skip
     refine ⟨_,rfl,_,_,rfl,rfl,_,rfl,Yu (fun c2=>?_) (fun c2=>?_)⟩
     ·refine ⟨_,rfl,_,rfl,_,rfl,_,rfl,a,q,way,rfl,hp,⟨c,rows,_,_,_,k_a.e_q,k_a.e_c,k_a.k_c,rl⟩,fun l J k_g hp gz=>?_⟩
      have gg:=gg.trans gz
      have k_a:=k_a.mono gz
      refine ⟨_,rfl,leN rfl,?_⟩
      intro g2 eO
      generalize hz:upd _ g2 _=J1
      have hw:=Z8 hz eO hp
      have hp:=hw.1
      have gz:=hw.2.1
      have ne_g2:=hw.2.2.1
      have eJ:=hw.2.2.2
      clear hw hz
      have gg:=gg.trans gz
      have k_a:=k_a.mono gz
      have k_g:=k_g.mono gz
      exact hnx _ _ ⟨_,_,_,g2,r,l,p,rfl,(Z4 eJ).2,(k_a.sg xl).mono Y8,k_g.mono Y8,(k_a.pg yl).mono Y8,k_l.mono (W1 na s1 gg)⟩
     ·refine ⟨_,rfl,_,rfl,a,r,rfl,hp,⟨xs,k_a.e_r,k_a.k_x,by omega⟩,fun l J k_g hp gz=>?_⟩
      have gg:=gg.trans gz
      have k_a:=k_a.mono gz
      refine ⟨_,rfl,_,rfl,leN rfl,?_⟩
      intro g2 eO
      generalize hz:upd _ g2 _=J1
      have hw:=Z8 hz eO hp
      have hp:=hw.1
      have gz:=hw.2.1
      have ne_g2:=hw.2.2.1
      have eJ:=hw.2.2.2
      clear hw hz
      have gg:=gg.trans gz
      have k_a:=k_a.mono gz
      have k_g:=k_g.mono gz
      exact hnx _ _ ⟨_,_,_,g2,l,q,p,rfl,(Z4 eJ).2,k_g.mono Y8,(k_a.tg rl).mono Y8,(k_a.pg yl).mono Y8,k_l.mono (W1 na s1 gg)⟩
   ·skip
    refine ⟨_,rfl,_,_,rfl,rfl,_,rfl,Yu (fun c2=>?_) (fun c2=>?_)⟩
    ·refine ⟨_,rfl,_,rfl,_,rfl,_,rfl,a,q,way,rfl,hp,⟨c,rows,_,_,_,k_a.e_q,k_a.e_c,k_a.k_c,rl⟩,fun l J k_g hp gz=>?_⟩
     have gg:=gg.trans gz
     have k_a:=k_a.mono gz
     refine ⟨_,rfl,leN rfl,?_⟩
     intro g2 eO
     generalize hz:upd _ g2 _=J1
     have hw:=Z8 hz eO hp
     have hp:=hw.1
     have gz:=hw.2.1
     have ne_g2:=hw.2.2.1
     have eJ:=hw.2.2.2
     clear hw hz
     have gg:=gg.trans gz
     have k_a:=k_a.mono gz
     have k_g:=k_g.mono gz
     exact hnx _ _ ⟨_,_,_,g2,r,l,p,rfl,(Z4 eJ).2,(k_a.sg xl).mono Y8,k_g.mono Y8,(k_a.pg yl).mono Y8,k_l.mono (W1 na s1 gg)⟩
    ·refine ⟨_,rfl,_,rfl,a,r,rfl,hp,⟨xs,k_a.e_r,k_a.k_x,by omega⟩,fun l J k_g hp gz=>?_⟩
     have gg:=gg.trans gz
     have k_a:=k_a.mono gz
     refine ⟨_,rfl,_,rfl,leN rfl,?_⟩
     intro g2 eO
     generalize hz:upd _ g2 _=J1
     have hw:=Z8 hz eO hp
     have hp:=hw.1
     have gz:=hw.2.1
     have ne_g2:=hw.2.2.1
     have eJ:=hw.2.2.2
     clear hw hz
     have gg:=gg.trans gz
     have k_a:=k_a.mono gz
     have k_g:=k_g.mono gz
     exact hnx _ _ ⟨_,_,_,g2,l,q,p,rfl,(Z4 eJ).2,k_g.mono Y8,(k_a.tg rl).mono Y8,(k_a.pg yl).mono Y8,k_l.mono (W1 na s1 gg)⟩
  rintro σ' H' ⟨o1,o8,o9,g,x1,x2,x3,rfl,e_g,sg,tg,pg,k_l⟩
  obtain ⟨ts,d1,g1⟩:=sg.dv (Nat.le_refl _)
  obtain ⟨ty2,d2,g2⟩:=tg.dv
  obtain ⟨bs2,d3,g3⟩:=pg.at (Nat.le_refl _)
  exact ⟨_,rfl,g,_,_,_,rfl,rfl,SqT.of e_g,rfl,_,rfl,g,_,_,_,rfl,rfl,SqT.of e_g,rfl,_,rfl,g,_,_,_,rfl,rfl,SqT.of e_g,rfl,x1,x2,x3,ts,ty2,bs2,rfl,d1,g1,d2,g2,d3,g3,fun H'' s'=>⟨_,rfl,X8 ⟨_,_,_,_,rfl,k_l.mono s'⟩⟩⟩
 rintro σ H0 ⟨o1,o8,o9,o10,rfl,k_l⟩
 refine ⟨_,rfl,s0,ns,10,rfl,k_l.scr,by omega,fun a H1 na s1 hp=>?_⟩
 have k_a:=k_l.mono (Rx na s1)
 refine ⟨_,rfl,_,rfl,_,rfl,a,r,q,p,c,xs,ys,rows,ty.room,ty.lt,ty.total,rfl,hp,k_a.e_r,k_a.k_x,xl,k_a.e_q,k_a.e_c,k_a.k_c,rl,by omega,by omega,k_a.e_p,k_a.k_p.be,yl,fun l J zs e_l al zl hp gz=>?_⟩
 refine ⟨l,rfl,⟨_,Xu e_l⟩,?_⟩
 refine W9 (xs:=zs) (fun i σ H'=>∃(o10:Option V),σ=[some (.ref s0),o1,some (.int few),some (.int room),some v,some (.ref r),some (.ref q),some (.ref p),o8,o9,o10]∧Same J H') ⟨_,rfl,Same.refl _⟩ ?_ ?_ ?_
 ·rintro i σ H' _ ⟨_,_,g⟩
  exact SqL.of (g _ _ (Z4 e_l).2)
 ·rintro i x σ H' hx ⟨o10,rfl,gs⟩
  obtain ⟨g,x1,x2,x3,rfl,e_g,sg,tg,pg⟩:=((al x (List.mem_of_getElem? hx)).mono Y8).mono gs
  obtain ⟨ts,d1,g1⟩:=sg.dv (Nat.le_refl _)
  obtain ⟨ty2,d2,g2⟩:=tg.dv
  obtain ⟨bs2,d3,g3⟩:=pg.at (Nat.le_refl _)
  exact ⟨_,rfl,g,_,_,_,rfl,rfl,SqT.of e_g,rfl,_,rfl,g,_,_,_,rfl,rfl,SqT.of e_g,rfl,_,rfl,g,_,_,_,rfl,rfl,SqT.of e_g,rfl,x1,x2,x3,ts,ty2,bs2,rfl,d1,g1,d2,g2,d3,g3,fun H'' s'=>⟨_,rfl,X8 ⟨_,rfl,gs.trans s'⟩⟩⟩
 rintro σ H' _
 exact hq H'
end
end K18
namespace Hd
open PySem PySem.W
section
variable {α β:Type}
def fN (n:Nat) (k:Nat→α):α:=Nat.casesOn n (k 0) fun m=>k (Nat.succ m)
theorem U6 (n:Nat) (k:Nat→α):fN n k=k n:=by cases n <;> rfl
def fV (v:Value) (k:Value→α):α:=match v with
 | .ref a=>fN a fun a=>k (.ref a)
 | .str s t=>fN t fun t=>k (.str s t)
 | .int i t=>fN t fun t=>k (.int i t)
 | v=>k v
theorem Sk (v:Value) (k:Value→α):fV v k=k v:=by cases v <;> simp only [fV,U6]
def fO (f:β→(β→α)→α) (o:Option β) (k:Option β→α):α:=match o with
 | none=>k none
 | some x=>f x fun x=>k (some x)
theorem jh {f:β→(β→α)→α} (hf:∀x k,f x k=k x) (o:Option β) (k:Option β→α):fO f o k=k o:=by cases o <;> simp only [fO,hf]
def fL (f:β→(β→α)→α) (l:List β):(List β→α)→α:=
 @List.rec β (fun _=>(List β→α)→α) (fun k=>k []) (fun x _ ih k=>f x fun x=>ih fun r=>k (x::r)) l
theorem qT {f:β→(β→α)→α} (hf:∀x k,f x k=k x) (l:List β):∀k:List β→α,fL f l k=k l:=by
 induction l with
 | nil=>intro k;rfl
 | cons x r ih=>
  intro k
  show f x (fun x=>fL f r fun r=>k (x::r))=_
  rw [hf,ih]
def fA (f:β→(β→α)→α) (l:Array β) (k:Array β→α):α:=match l with
 | ⟨l⟩=>fL f l fun l=>k ⟨l⟩
theorem jf {f:β→(β→α)→α} (hf:∀x k,f x k=k x) (l:Array β) (k:Array β→α):fA f l k=k l:=by
 cases l;simp only [fA,qT hf]
def fE (e:DictEntry) (k:DictEntry→α):α:=match e with
 | ⟨h,a,b⟩=>fV a fun a=>fV b fun b=>k ⟨h,a,b⟩
theorem uJ (e:DictEntry) (k:DictEntry→α):fE e k=k e:=by cases e;simp only [fE,Sk]
def fF (e:FuncData) (k:FuncData→α):α:=match e with
 | ⟨a,b,c,d,e,g,cl,df,kd,dc,pm,an,cd,ct,bl⟩=>fN g fun g=>fV df fun df=>fV kd fun kd=>fV dc fun dc=>fV pm fun pm=>fO fN an fun an=>fV cd fun cd=>fV ct fun ct=>fN bl fun bl=>k ⟨a,b,c,d,e,g,cl,df,kd,dc,pm,an,cd,ct,bl⟩
theorem uz (e:FuncData) (k:FuncData→α):fF e k=k e:=by cases e;simp only [fF,Sk,U6,jh U6]
def fC (e:ClassData) (k:ClassData→α):α:=match e with
 | ⟨a,b,c,d,e,f,g,h,i,j,l⟩=>fL fV b fun b=>fL fV c fun c=>fN d fun d=>fL fV h fun h=>k ⟨a,b,c,d,e,f,g,h,i,j,l⟩
theorem vo (e:ClassData) (k:ClassData→α):fC e k=k e:=by cases e;simp only [fC,qT Sk,U6]
def fD (d:Data) (k:Data→α):α:=match d with
 | .seq xs n=>fA fV xs fun xs=>fN n fun n=>k (.seq xs n)
 | .dict xs n=>fA fE xs fun xs=>fN n fun n=>k (.dict xs n)
 | .fields xs=>fA fV xs fun xs=>k (.fields xs)
 | .cell v=>fO fV v fun v=>k (.cell v)
 | .prim v=>fV v fun v=>k (.prim v)
 | .func f=>fF f fun f=>k (.func f)
 | .cls f=>fC f fun f=>k (.cls f)
 | d=>k d
theorem ve (d:Data) (k:Data→α):fD d k=k d:=by cases d <;> simp only [fD,jf Sk,jf uJ,U6,jh Sk,Sk,uz,vo]
def fJ (o:Obj) (k:Obj→α):α:=match o with
 | ⟨c,d,x,s⟩=>fV c fun c=>fO fN d fun d=>fD x fun x=>fA (fO fV) s fun s=>k ⟨c,d,x,s⟩
theorem qN (o:Obj) (k:Obj→α):fJ o k=k o:=by cases o;simp only [fJ,Sk,jh U6,ve,jf (jh Sk)]
def fB (t:BT):(BT→α)→α:=
 @BT.rec (fun _=>(BT→α)→α) (fun k=>k .nil) (fun v _ _ il ir k=>fJ v fun v=>il fun l=>ir fun r=>k (.node v l r)) t
theorem vq (t:BT):∀k:BT→α,fB t k=k t:=by
 induction t with
 | nil=>intro k;rfl
 | node v l r il ir=>
  intro k
  show fJ v (fun v=>fB l fun l=>fB r fun r=>k (.node v l r))=_
  rw [qN,il,ir]
def fR (d:Drawn) (k:Drawn→α):α:=match d with
 | ⟨a,b,c,d⟩=>fN a fun a=>fN b fun b=>fN c fun c=>fN d fun d=>k ⟨a,b,c,d⟩
theorem qS (d:Drawn) (k:Drawn→α):fR d k=k d:=by cases d;simp only [fR,U6]
def fS (s:SharedT) (k:SharedT→α):α:=match s with
 | ⟨t,n,life,g,d,tk,os⟩=>fB t fun t=>fN n fun n=>fR d fun d=>fN tk fun tk=>k ⟨t,n,life,g,d,tk,os⟩
theorem qO (s:SharedT) (k:SharedT→α):fS s k=k s:=by cases s;simp only [fS,vq,U6,qS]
def fP (d:Pos) (k:Pos→α):α:=match d with
 | ⟨a,b,c,d⟩=>fN a fun a=>fN b fun b=>fN c fun c=>fN d fun d=>k ⟨a,b,c,d⟩
theorem uX (d:Pos) (k:Pos→α):fP d k=k d:=by cases d;simp only [fP,U6]
def fH (s:Shared) (k:Shared→α):α:=match s with
 | ⟨⟨l,life⟩,g,d,tk,os⟩=>fA fJ l fun l=>fR d fun d=>fN tk fun tk=>k ⟨⟨l,life⟩,g,d,tk,os⟩
theorem uK (s:Shared) (k:Shared→α):fH s k=k s:=by obtain ⟨⟨l,life⟩,g,d,tk,os⟩:=s;simp only [fH,jf qN,U6,qS]
end
section
variable {α:Type}
def hd (tb:String→Option Builtin) (p:Program) (w:World) (m:Nat) (ann:Option Value) (env:Env) (q:Pos) (F:Nat) (fin:SharedT→Code→Pos→Option α) (l:List Stmt):SharedT→Code→Pos→Option α:=
 @List.rec Stmt (fun _=>SharedT→Code→Pos→Option α) fin (fun st _ ih s c pos=>match segRunT tb p w m ann 1 F s (pieceOf st env c pos [topFrame q]) with
  | some (.next,s',c',p')=>fS s' fun s'=>fP p' fun p'=>ih s' c' p'
  | _=>none) l
theorem o6 {tb:String→Option Builtin} {p:Program} {w:World} {m:Nat} {ann:Option Value} {env:Env} {q:Pos} {F:Nat} {fin:SharedT→Code→Pos→Option α} {st:Stmt} {l:List Stmt} {s:SharedT} {c:Code} {pos:Pos} {r:α}
  (h:hd tb p w m ann env q F fin (st::l) s c pos=some r):∃s' c' p',segRunT tb p w m ann 1 F s (pieceOf st env c pos [topFrame q])=some (.next,s',c',p')∧hd tb p w m ann env q F fin l s' c' p'=some r:=by
 have h:(match segRunT tb p w m ann 1 F s (pieceOf st env c pos [topFrame q]) with
  | some (.next,s',c',p')=>fS s' fun s'=>fP p' fun p'=>hd tb p w m ann env q F fin l s' c' p'
  | _=>none)=some r:=h
 split at h
 ·rename_i s' c' p' e
  rw [qO,uX] at h
  exact ⟨s',c',p',e,h⟩
 ·cases h
theorem tZ {tb:String→Option Builtin} {p:Program} {w:World} {n₀:Nat} {ann:Option Value} {env:Env} {q:Pos} {n N:Nat} {s s' r:Shared} {st:Stmt} {rest:List Stmt} {c c':Code} {pos p':Pos} (h:segRun tb p w n₀ ann 1 n s (pieceOf st env c pos [topFrame q])=some (.next,s',c',p'))
  (k:topRun tb p w n₀ ann N s' (restOf rest env c' p' [topFrame q])=some r):topRun tb p w n₀ ann (n+N) s (restOf (st::rest) env c pos [topFrame q])=some r:=by
 obtain ⟨a,ha,hN⟩:=seg_top (res:=id) (K':=fun f=>match f with | .next=>(execs rest env).wrap doneF (leaveH env) id id | f=>doneF f) (H':=leaveH env) (B:=[topFrame q]) rfl n s (pieceOf st env c pos [topFrame q])
  ⟨(exec st env).wrap (fun f=>match f with | .next=>(execs rest env).wrap doneF (leaveH env) id id | f=>doneF f) (leaveH env) id id,c,pos,[topFrame q]⟩ _ _ _ _ ⟨rfl,rfl,.inl ⟨rfl,rfl,_,rfl,rfl⟩⟩ h
 obtain rfl:a=.next:=ha
 have:=hN N r k
 unfold restOf
 rw [execs_cons_wrap]
 exact this
theorem lR {tb:String→Option Builtin} {p:Program} {w:World} {m:Nat} {ann:Option Value} {env:Env} {q:Pos} {F:Nat} {fin:SharedT→Code→Pos→Option α} {r:α}:∀(l:List Stmt) (s:SharedT) (c:Code) (pos:Pos),hd tb p w m ann env q F fin l s c pos=some r→
  ∃s' c' p',fin s' c' p'=some r∧∀N z,topRun tb p w m ann N s'.abs (restOf [] env c' p' [topFrame q])=some z→topRun tb p w m ann (l.length * F+N) s.abs (restOf l env c pos [topFrame q])=some z
 | [],s,c,pos,h=>⟨s,c,pos,h,fun N z hz=>by rw [List.length_nil,Nat.zero_mul,Nat.zero_add];exact hz⟩
 | st::l,s,c,pos,h=>by
  obtain ⟨s',c',p',e,h⟩:=o6 h
  obtain ⟨s2,c2,p2,hf,hN⟩:=lR l s' c' p' h
  refine ⟨s2,c2,p2,hf,fun N z hz=>?_⟩
  have:=tZ (segRun_of e) (hN N z hz)
  rw [List.length_cons,Nat.succ_mul,show l.length * F+F+N=F+(l.length * F+N) by omega]
  exact this
def ui {γ:Type} (tb:String→Option Builtin) (p:Program) (w:World) (m:Nat) (ann:Option Value) (env:Env) (q:Pos) (look:Shared→γ) (s:SharedT) (c:Code) (pos:Pos):Option γ:=
 match topRun tb p w m ann 50 s.abs (restOf [] env c pos [topFrame q]) with
 | some r=>fH r fun r=>some (look r)
 | none=>none
def ofL (l:List Obj):Nat→BT→BT:=@List.rec Obj (fun _=>Nat→BT→BT) (fun _ t=>t) (fun o _ ih i t=>ih (Nat.succ i) (t.ins i o)) l
def toT (s:Shared):SharedT:=match s with
 | ⟨⟨⟨l⟩,life⟩,g,d,tk,os⟩=>⟨ofL l 0 .nil,l.length,life,g,d,tk,os⟩
def pre (p:Program) (w:World) (os:OsState):Option (Shared×Thread):=topGo treeTable p w 11 (some (.ref 6)) 12 ⟨boot_heap w.params,⟨[]⟩,boot_drawn,boot_toks,os⟩ (topStub p)
def zp:Pos:=⟨0,0,0,0⟩
def pf (p:Program):Env:={scope:=p.main.scope,locals:=mainNs,globals:=mainNs,cells:=[],code:=.ref 13,frame:=some 14}
def sa (p:Program) (w:World) (os:OsState):Shared:=match pre p w os with
 | some (s,_)=>s
 | none=>⟨{},#[],{},0,os⟩
def hc (p:Program):Code:=.body (behindTheImports p) (pf p)
def blk (p:Program) (w:World) (os:OsState):Option (Flow×Shared×Code×Pos):=segRun treeTable p w 11 (some (.ref 6)) 1 1 (sa p w os) (blockOf (behindTheImports p) (pf p) (hc p) zp [topFrame zp])
def chk {γ:Type} (p:Program) (look:Shared→γ) (w:World) (os:OsState):Option γ:=
 fS (toT (sa p w os)) fun s=>hd treeTable p w 11 (some (.ref 6)) (pf p) zp 600 (ui treeTable p w 11 (some (.ref 6)) (pf p) zp look) (behindTheImports p) s (hc p) zp
end
theorem pJ {p q:Program} {loose:List Str} {Xt:Shared→Bool} {α:Type} {Yf:Shared→α} {Ya:World→α}
  (e:opening p=plainProg p.main.scope.names) (f:∀s,fenceModules? p s=some s)
  (hpre:∀(w:World) (os:OsState),pre p w os=some (sa p w os,⟨denote treeTable (hc p),hc p,zp,[topFrame zp]⟩))
  (hblk:∀(w:World) (os:OsState),blk p w os=some (.next,(toT (sa p w os)).abs,hc p,zp))
  (size:∀w:World,((boot_heap w.params).isNs mainGlobals && (Array.mk ([]:List GenState)).size == 0,(boot_heap w.params).objs.size,(boot_heap w.params).nsMap mainGlobals "__annotations__")=(true,11,some (.ref 6)))
  (len:Nat.ble (behindTheImports p).length 1600=true)
  (hchk:∀(w:World) (os:OsState),chk p (fun s=>((staticsOk (importedModules p.main.body) (boot_heap w.params) s.heap && namesBound p s.heap && gensDone s && laidKept (boot_heap w.params) s.heap),openSeen q loose (importedModules p.main.body) Xt true s,Yf s)) w os=some (true,openGood q loose,Ya w)):
  LeftO p q loose Xt Yf Ya 1000000 true:=fun w=>by
 obtain ⟨⟨h,gs,d,k,os⟩,e1,e'⟩:=Option.map_eq_some_iff.mp (boot_open (p:=p) (N:=1000000) e rfl f w)
 obtain ⟨rfl,rfl,rfl,rfl⟩:h=boot_heap w.params∧gs=⟨[]⟩∧d=boot_drawn∧k=boot_toks:=by simpa using e'
 obtain ⟨z1,z2,z3⟩:_∧_∧_:=by simpa only [Prod.mk.injEq] using size w
 have hc1:=hchk w os
 unfold chk at hc1
 rw [qO] at hc1
 obtain ⟨s2,c2,p2,hf,hN⟩:=lR _ _ _ _ hc1
 unfold ui at hf
 split at hf
 case h_2=>cases hf
 rename_i r hr
 rw [uK] at hf
 obtain ⟨l1,l2,l3⟩:_∧_∧_:=by simpa only [Option.some.injEq,Prod.mk.injEq] using hf
 have a1:=hN _ _ hr
 have a2:=piece_block (hblk w os) a1
 have a3:=go_top (hpre w os) a2
 have le:12+(1+((behindTheImports p).length * 600+50))≤1000000:=by
  have:=Nat.le_of_ble_eq_true len
  omega
 have a4:=topRun_mono (1000000 - (12+(1+((behindTheImports p).length * 600+50)))) _ _ _ _ a3
 rw [show 12+(1+((behindTheImports p).length * 600+50))+(1000000 - (12+(1+((behindTheImports p).length * 600+50))))=1000000 by omega] at a4
 have t:topFrom treeTable p w 1000000 ⟨boot_heap w.params,⟨[]⟩,boot_drawn,boot_toks,os⟩=some r:=by
  unfold topFrom
  dsimp only
  rw [z1,z2,z3,a4]
  show (match staticsOk (importedModules p.main.body) (boot_heap w.params) r.heap && namesBound p r.heap && gensDone r && laidKept (boot_heap w.params) r.heap with | true=>_ | false=>_)=_
  rw [l1]
 unfold openEnds
 rw [e1]
 show (topFrom treeTable p w 1000000 _).map _=_
 rw [t]
 exact congrArg some (Prod.ext l2 l3)
def cF (p q:Program) (as:List Addr) (w:World) (os:OsState):=
 chk p (fun s=>((staticsOk (importedModules p.main.body) (boot_heap w.params) s.heap && namesBound p s.heap && gensDone s && laidKept (boot_heap w.params) s.heap),openSeen q [] (importedModules p.main.body) (fun s=>xlAt q [] s && recOk [] s) true s,as.map s.heap.get?)) w os
def cG (q:Program):=openGood q []
theorem cF_:@cF=@cF:=rfl
theorem cG_:@cG=@cG:=rfl
end Hd
def PySem.W.Fast.tw14598715356260435866:PySem.Params→PySem.Obj:=PySem.W.boot_o_0
theorem PySem.W.Fast.te14598715356260435866:PySem.W.boot_o_0=PySem.W.Fast.tw14598715356260435866:=rfl
lay_quick Hd.cF Hd.cG
name_quick cFQ for Hd.cF by Hd.cF_
name_quick cGQ for Hd.cG by Hd.cG_
namespace Hd
open PySem PySem.W
theorem hS (w:World):((boot_heap w.params).isNs mainGlobals && (Array.mk ([]:List GenState)).size == 0,(boot_heap w.params).objs.size,(boot_heap w.params).nsMap mainGlobals "__annotations__")=(true,11,some (.ref 6)):=by kernel_rfl
theorem uR (p q:Program) (as:List Addr) (w:World) (os:OsState):cF p q as w os=W.Fast.cFQ p q as w os:=by rw [←W.Fast.cFQ_eq]
theorem uD (q:Program):openGood q []=W.Fast.cGQ q:=by rw [←W.Fast.cGQ_eq];rfl
theorem left {p q:Program} (e:opening p=plainProg p.main.scope.names) (f:∀s,fenceModules? p s=some s)
  (hpre:∀(w:World) (os:OsState),pre p w os=some (sa p w os,⟨denote treeTable (hc p),hc p,zp,[topFrame zp]⟩))
  (hblk:∀(w:World) (os:OsState),blk p w os=some (.next,(toT (sa p w os)).abs,hc p,zp)) (len:Nat.ble (behindTheImports p).length 1600=true)
  {K:Params→Frag} {as:List Addr} {ek:∀P,as=(K P).map (·.1)}
  (h:∀(w:World) (os:OsState),W.Fast.cFQ p q as w os=some (true,W.Fast.cGQ q,(K w.params).map fun p=>some p.2)):
  LeftO p q [] (fun s=>xlAt q [] s && recOk [] s) (Hook.obs (kHook K as ek)) (Hook.val (kHook K as ek)) 1000000 true:=
 pJ e f hpre hblk hS len fun w os=>(uR p q as w os).trans ((h w os).trans (by rw [uD];rfl))
end Hd
namespace K18
open PySem L2
theorem all_mk {l:W.OpenLaw} {w:World} {K:W.Frag} {h:Heap} {mg:Str→Option Value} {fa f0 f1 f2 f3 f4 f5 f6 f7 f8 f9 f10 f11 f12 f13 f14 f15 f16 f17 f18 f19 f20 f21 f22 f23 f24 f25 f26 f27 f28 f29 f30 f31 f32 f33 f34:Addr} (X:K.In h) (G:h.Ns mainGlobals mg) (hfa:mg "law"=some (.ref fa))
  {od0 an0 od1 an1 od2 an2 od3 an3 od4 an4 od5 an5 od6 an6 od7 an7 od8 an8 od9 an9 od10 an10 od11 an11 od12 an12 od13 an13 od14 an14 od15 an15 od16 an16 od17 an17 od18 an18 od19 an19 od20 an20 od21 an21 od22 an22 od23 an23 od24 an24 od25 an25 od26 an26 od27 an27 od28 an28 od29 an29 od30 an30 od31 an31 od32 an32 od33 an33 od34 an34:Option Addr} {sl0 sl1 sl2 sl3 sl4 sl5 sl6 sl7 sl8 sl9 sl10 sl11 sl12 sl13 sl14 sl15 sl16 sl17 sl18 sl19 sl20 sl21 sl22 sl23 sl24 sl25 sl26 sl27 sl28 sl29 sl30 sl31 sl32 sl33 sl34:Array (Option Value)} {oc0 kV0 dc0 pm0 cd0 ct0 oc1 kV1 dc1 pm1 cd1 ct1 oc2 kV2 dc2 pm2 cd2 ct2 oc3 kV3 dc3 pm3 cd3 ct3 oc4 kV4 dc4 pm4 cd4 ct4 oc5 kV5 dc5 pm5 cd5 ct5 oc6 kV6 dc6 pm6 cd6 ct6 oc7 kV7 dc7 pm7 cd7 ct7 oc8 kV8 dc8 pm8 cd8 ct8 oc9 kV9 dc9 pm9 cd9 ct9 oc10 kV10 dc10 pm10 cd10 ct10 oc11 kV11 dc11 pm11 cd11 ct11 oc12 kV12 dc12 pm12 cd12 ct12 oc13 kV13 dc13 pm13 cd13 ct13 oc14 kV14 dc14 pm14 cd14 ct14 oc15 kV15 dc15 pm15 cd15 ct15 oc16 kV16 dc16 pm16 cd16 ct16 oc17 kV17 dc17 pm17 cd17 ct17 oc18 kV18 dc18 pm18 cd18 ct18 oc19 kV19 dc19 pm19 cd19 ct19 oc20 kV20 dc20 pm20 cd20 ct20 oc21 kV21 dc21 pm21 cd21 ct21 oc22 kV22 dc22 pm22 cd22 ct22 oc23 kV23 dc23 pm23 cd23 ct23 oc24 kV24 dc24 pm24 cd24 ct24 oc25 kV25 dc25 pm25 cd25 ct25 oc26 kV26 dc26 pm26 cd26 ct26 oc27 kV27 dc27 pm27 cd27 ct27 oc28 kV28 dc28 pm28 cd28 ct28 oc29 kV29 dc29 pm29 cd29 ct29 oc30 kV30 dc30 pm30 cd30 ct30 oc31 kV31 dc31 pm31 cd31 ct31 oc32 kV32 dc32 pm32 cd32 ct32 oc33 kV33 dc33 pm33 cd33 ct33 oc34 kV34 dc34 pm34 cd34 ct34:Value}
  (a0:W.nsIn K mainGlobals "is_whole"=some (some (.ref f0))) (l0:K.lookup f0=some ⟨oc0,od0,.func (W.fnOf "is_whole" "is_whole" (ao bG) (aj bG) (aa bG) .none kV0 dc0 pm0 an0 cd0 ct0),sl0⟩) (c0:W.codeIn K cd0 "is_whole"=true) (k0:W.keepIn K (.ref f0)=true)
  (a1:W.nsIn K mainGlobals "is_whole_from"=some (some (.ref f1))) (l1:K.lookup f1=some ⟨oc1,od1,.func (W.fnOf "is_whole_from" "is_whole_from" (ao aP) (aj aP) (aa aP) .none kV1 dc1 pm1 an1 cd1 ct1),sl1⟩) (c1:W.codeIn K cd1 "is_whole_from"=true) (k1:W.keepIn K (.ref f1)=true)
  (a2:W.nsIn K mainGlobals "is_whole_within"=some (some (.ref f2))) (l2:K.lookup f2=some ⟨oc2,od2,.func (W.fnOf "is_whole_within" "is_whole_within" (ao aM) (aj aM) (aa aM) .none kV2 dc2 pm2 an2 cd2 ct2),sl2⟩) (c2:W.codeIn K cd2 "is_whole_within"=true) (k2:W.keepIn K (.ref f2)=true)
  (a3:W.nsIn K mainGlobals "is_mark"=some (some (.ref f3))) (l3:K.lookup f3=some ⟨oc3,od3,.func (W.fnOf "is_mark" "is_mark" (ao bU) (aj bU) (aa bU) .none kV3 dc3 pm3 an3 cd3 ct3),sl3⟩) (c3:W.codeIn K cd3 "is_mark"=true) (k3:W.keepIn K (.ref f3)=true)
  (a4:W.nsIn K mainGlobals "is_rising"=some (some (.ref f4))) (l4:K.lookup f4=some ⟨oc4,od4,.func (W.fnOf "is_rising" "is_rising" (ao a_) (aj a_) (aa a_) .none kV4 dc4 pm4 an4 cd4 ct4),sl4⟩) (c4:W.codeIn K cd4 "is_rising"=true) (k4:W.keepIn K (.ref f4)=true)
  (a5:W.nsIn K mainGlobals "is_room"=some (some (.ref f5))) (l5:K.lookup f5=some ⟨oc5,od5,.func (W.fnOf "is_room" "is_room" (ao bV) (aj bV) (aa bV) .none kV5 dc5 pm5 an5 cd5 ct5),sl5⟩) (c5:W.codeIn K cd5 "is_room"=true) (k5:W.keepIn K (.ref f5)=true)
  (a6:W.nsIn K mainGlobals "is_count"=some (some (.ref f6))) (l6:K.lookup f6=some ⟨oc6,od6,.func (W.fnOf "is_count" "is_count" (ao bC) (aj bC) (aa bC) .none kV6 dc6 pm6 an6 cd6 ct6),sl6⟩) (c6:W.codeIn K cd6 "is_count"=true) (k6:W.keepIn K (.ref f6)=true)
  (a7:W.nsIn K mainGlobals "are_counts"=some (some (.ref f7))) (l7:K.lookup f7=some ⟨oc7,od7,.func (W.fnOf "are_counts" "are_counts" (ao bc) (aj bc) (aa bc) .none kV7 dc7 pm7 an7 cd7 ct7),sl7⟩) (c7:W.codeIn K cd7 "are_counts"=true) (k7:W.keepIn K (.ref f7)=true)
  (a8:W.nsIn K mainGlobals "is_made_as_tally"=some (some (.ref f8))) (l8:K.lookup f8=some ⟨oc8,od8,.func (W.fnOf "is_made_as_tally" "is_made_as_tally" (ao aJ) (aj aJ) (aa aJ) .none kV8 dc8 pm8 an8 cd8 ct8),sl8⟩) (c8:W.codeIn K cd8 "is_made_as_tally"=true) (k8:W.keepIn K (.ref f8)=true)
  (a9:W.nsIn K mainGlobals "things_in"=some (some (.ref f9))) (l9:K.lookup f9=some ⟨oc9,od9,.func (W.fnOf "things_in" "things_in" (ao bg) (aj bg) (aa bg) .none kV9 dc9 pm9 an9 cd9 ct9),sl9⟩) (c9:W.codeIn K cd9 "things_in"=true) (k9:W.keepIn K (.ref f9)=true)
  (a10:W.nsIn K mainGlobals "is_bunch"=some (some (.ref f10))) (l10:K.lookup f10=some ⟨oc10,od10,.func (W.fnOf "is_bunch" "is_bunch" (ao bE) (aj bE) (aa bE) .none kV10 dc10 pm10 an10 cd10 ct10),sl10⟩) (c10:W.codeIn K cd10 "is_bunch"=true) (k10:W.keepIn K (.ref f10)=true)
  (a11:W.nsIn K mainGlobals "is_paper"=some (some (.ref f11))) (l11:K.lookup f11=some ⟨oc11,od11,.func (W.fnOf "is_paper" "is_paper" (ao bI) (aj bI) (aa bI) .none kV11 dc11 pm11 an11 cd11 ct11),sl11⟩) (c11:W.codeIn K cd11 "is_paper"=true) (k11:W.keepIn K (.ref f11)=true)
  (a12:W.nsIn K mainGlobals "times_in"=some (some (.ref f12))) (l12:K.lookup f12=some ⟨oc12,od12,.func (W.fnOf "times_in" "times_in" (ao bH) (aj bH) (aa bH) .none kV12 dc12 pm12 an12 cd12 ct12),sl12⟩) (c12:W.codeIn K cd12 "times_in"=true) (k12:W.keepIn K (.ref f12)=true)
  (a13:W.nsIn K mainGlobals "times_told"=some (some (.ref f13))) (l13:K.lookup f13=some ⟨oc13,od13,.func (W.fnOf "times_told" "times_told" (ao ba) (aj ba) (aa ba) .none kV13 dc13 pm13 an13 cd13 ct13),sl13⟩) (c13:W.codeIn K cd13 "times_told"=true) (k13:W.keepIn K (.ref f13)=true)
  (a14:W.nsIn K mainGlobals "is_shown"=some (some (.ref f14))) (l14:K.lookup f14=some ⟨oc14,od14,.func (W.fnOf "is_shown" "is_shown" (ao bD) (aj bD) (aa bD) .none kV14 dc14 pm14 an14 cd14 ct14),sl14⟩) (c14:W.codeIn K cd14 "is_shown"=true) (k14:W.keepIn K (.ref f14)=true)
  (a15:W.nsIn K mainGlobals "_law_pen"=some (some (.ref f15))) (l15:K.lookup f15=some ⟨oc15,od15,.func (W.fnOf "_law_pen" "_law_pen" (ao cW) (aj cW) (aa cW) .none kV15 dc15 pm15 an15 cd15 ct15),sl15⟩) (c15:W.codeIn K cd15 "_law_pen"=true) (k15:W.keepIn K (.ref f15)=true)
  (a16:W.nsIn K mainGlobals "_law_draw"=some (some (.ref f16))) (l16:K.lookup f16=some ⟨oc16,od16,.func (W.fnOf "_law_draw" "_law_draw" (ao cv) (aj cv) (aa cv) .none kV16 dc16 pm16 an16 cd16 ct16),sl16⟩) (c16:W.codeIn K cd16 "_law_draw"=true) (k16:W.keepIn K (.ref f16)=true)
  (a17:W.nsIn K mainGlobals "_law_word"=some (some (.ref f17))) (l17:K.lookup f17=some ⟨oc17,od17,.func (W.fnOf "_law_word" "_law_word" (ao cE) (aj cE) (aa cE) .none kV17 dc17 pm17 an17 cd17 ct17),sl17⟩) (c17:W.codeIn K cd17 "_law_word"=true) (k17:W.keepIn K (.ref f17)=true)
  (a18:W.nsIn K mainGlobals "_law_many"=some (some (.ref f18))) (l18:K.lookup f18=some ⟨oc18,od18,.func (W.fnOf "_law_many" "_law_many" (ao cz) (aj cz) (aa cz) .none kV18 dc18 pm18 an18 cd18 ct18),sl18⟩) (c18:W.codeIn K cd18 "_law_many"=true) (k18:W.keepIn K (.ref f18)=true)
  (a19:W.nsIn K mainGlobals "_law_thing"=some (some (.ref f19))) (l19:K.lookup f19=some ⟨oc19,od19,.func (W.fnOf "_law_thing" "_law_thing" (ao bW) (aj bW) (aa bW) .none kV19 dc19 pm19 an19 cd19 ct19),sl19⟩) (c19:W.codeIn K cd19 "_law_thing"=true) (k19:W.keepIn K (.ref f19)=true)
  (a20:W.nsIn K mainGlobals "_law_stream"=some (some (.ref f20))) (l20:K.lookup f20=some ⟨oc20,od20,.func (W.fnOf "_law_stream" "_law_stream" (ao bB) (aj bB) (aa bB) .none kV20 dc20 pm20 an20 cd20 ct20),sl20⟩) (c20:W.codeIn K cd20 "_law_stream"=true) (k20:W.keepIn K (.ref f20)=true)
  (a21:W.nsIn K mainGlobals "_law_tree"=some (some (.ref f21))) (l21:K.lookup f21=some ⟨oc21,od21,.func (W.fnOf "_law_tree" "_law_tree" (ao ca) (aj ca) (aa ca) .none kV21 dc21 pm21 an21 cd21 ct21),sl21⟩) (c21:W.codeIn K cd21 "_law_tree"=true) (k21:W.keepIn K (.ref f21)=true)
  (a22:W.nsIn K mainGlobals "_law_room"=some (some (.ref f22))) (l22:K.lookup f22=some ⟨oc22,od22,.func (W.fnOf "_law_room" "_law_room" (ao cB) (aj cB) (aa cB) .none kV22 dc22 pm22 an22 cd22 ct22),sl22⟩) (c22:W.codeIn K cd22 "_law_room"=true) (k22:W.keepIn K (.ref f22)=true)
  (a23:W.nsIn K mainGlobals "_law_merged"=some (some (.ref f23))) (l23:K.lookup f23=some ⟨oc23,od23,.func (W.fnOf "_law_merged" "_law_merged" (ao bJ) (aj bJ) (aa bJ) .none kV23 dc23 pm23 an23 cd23 ct23),sl23⟩) (c23:W.codeIn K cd23 "_law_merged"=true) (k23:W.keepIn K (.ref f23)=true)
  (a24:W.nsIn K mainGlobals "_law_grown"=some (some (.ref f24))) (l24:K.lookup f24=some ⟨oc24,od24,.func (W.fnOf "_law_grown" "_law_grown" (ao bA) (aj bA) (aa bA) .none kV24 dc24 pm24 an24 cd24 ct24),sl24⟩) (c24:W.codeIn K cd24 "_law_grown"=true) (k24:W.keepIn K (.ref f24)=true)
  (a25:W.nsIn K mainGlobals "_law_stream_of"=some (some (.ref f25))) (l25:K.lookup f25=some ⟨oc25,od25,.func (W.fnOf "_law_stream_of" "_law_stream_of" (ao aQ) (aj aQ) (aa aQ) .none kV25 dc25 pm25 an25 cd25 ct25),sl25⟩) (c25:W.codeIn K cd25 "_law_stream_of"=true) (k25:W.keepIn K (.ref f25)=true)
  (a26:W.nsIn K mainGlobals "_law_are_counts"=some (some (.ref f26))) (l26:K.lookup f26=some ⟨oc26,od26,.func (W.fnOf "_law_are_counts" "_law_are_counts" (ao aU) (aj aU) (aa aU) .none kV26 dc26 pm26 an26 cd26 ct26),sl26⟩) (c26:W.codeIn K cd26 "_law_are_counts"=true) (k26:W.keepIn K (.ref f26)=true)
  (a27:W.nsIn K mainGlobals "_law_due"=some (some (.ref f27))) (l27:K.lookup f27=some ⟨oc27,od27,.func (W.fnOf "_law_due" "_law_due" (ao cX) (aj cX) (aa cX) .none kV27 dc27 pm27 an27 cd27 ct27),sl27⟩) (c27:W.codeIn K cd27 "_law_due"=true) (k27:W.keepIn K (.ref f27)=true)
  (a28:W.nsIn K mainGlobals "_law_bent_paper"=some (some (.ref f28))) (l28:K.lookup f28=some ⟨oc28,od28,.func (W.fnOf "_law_bent_paper" "_law_bent_paper" (ao aT) (aj aT) (aa aT) .none kV28 dc28 pm28 an28 cd28 ct28),sl28⟩) (c28:W.codeIn K cd28 "_law_bent_paper"=true) (k28:W.keepIn K (.ref f28)=true)
  (a29:W.nsIn K mainGlobals "_law_bent_tally"=some (some (.ref f29))) (l29:K.lookup f29=some ⟨oc29,od29,.func (W.fnOf "_law_bent_tally" "_law_bent_tally" (ao aS) (aj aS) (aa aS) .none kV29 dc29 pm29 an29 cd29 ct29),sl29⟩) (c29:W.codeIn K cd29 "_law_bent_tally"=true) (k29:W.keepIn K (.ref f29)=true)
  (a30:W.nsIn K mainGlobals "_law_bent_stream"=some (some (.ref f30))) (l30:K.lookup f30=some ⟨oc30,od30,.func (W.fnOf "_law_bent_stream" "_law_bent_stream" (ao aO) (aj aO) (aa aO) .none kV30 dc30 pm30 an30 cd30 ct30),sl30⟩) (c30:W.codeIn K cd30 "_law_bent_stream"=true) (k30:W.keepIn K (.ref f30)=true)
  (a31:W.nsIn K mainGlobals "_law_with"=some (some (.ref f31))) (l31:K.lookup f31=some ⟨oc31,od31,.func (W.fnOf "_law_with" "_law_with" (ao cp) (aj cp) (aa cp) .none kV31 dc31 pm31 an31 cd31 ct31),sl31⟩) (c31:W.codeIn K cd31 "_law_with"=true) (k31:W.keepIn K (.ref f31)=true)
  (a32:W.nsIn K mainGlobals "_law_forged"=some (some (.ref f32))) (l32:K.lookup f32=some ⟨oc32,od32,.func (W.fnOf "_law_forged" "_law_forged" (ao bF) (aj bF) (aa bF) .none kV32 dc32 pm32 an32 cd32 ct32),sl32⟩) (c32:W.codeIn K cd32 "_law_forged"=true) (k32:W.keepIn K (.ref f32)=true)
  (a33:W.nsIn K mainGlobals "_law_said"=some (some (.ref f33))) (l33:K.lookup f33=some ⟨oc33,od33,.func (W.fnOf "_law_said" "_law_said" (ao cA) (aj cA) (aa cA) .none kV33 dc33 pm33 an33 cd33 ct33),sl33⟩) (c33:W.codeIn K cd33 "_law_said"=true) (k33:W.keepIn K (.ref f33)=true)
  (a34:W.nsIn K mainGlobals "law"=some (some (.ref f34))) (l34:K.lookup f34=some ⟨oc34,od34,.func (W.fnOf "law" "law" (ao dD) (aj dD) (aa dD) .none kV34 dc34 pm34 an34 cd34 ct34),sl34⟩) (c34:W.codeIn K cd34 "law"=true) (k34:W.keepIn K (.ref f34)=true)
  (y_len:W.nsIn K mainGlobals "len"=some none)
  (y_isinstance:W.nsIn K mainGlobals "isinstance"=some none)
  (y_range:W.nsIn K mainGlobals "range"=some none)
  (y_list:W.nsIn K mainGlobals "list"=some none)
  (y_sorted:W.nsIn K mainGlobals "sorted"=some none)
  (y_tuple:W.nsIn K mainGlobals "tuple"=some none)
  (y_int:W.nsIn K mainGlobals "int"=some none)
  (y_bool:W.nsIn K mainGlobals "bool"=some none)
  (y_dict:W.nsIn K mainGlobals "dict"=some none)
  (y_set:W.nsIn K mainGlobals "set"=some none)
  (y_str:W.nsIn K mainGlobals "str"=some none)
  (y_all:W.nsIn K mainGlobals "all"=some none)
  (y_sum:W.nsIn K mainGlobals "sum"=some none)
  (y_zip:W.nsIn K mainGlobals "zip"=some none)
  (y_max:W.nsIn K mainGlobals "max"=some none)
  (y_min:W.nsIn K mainGlobals "min"=some none)
  {eI:Value} (y_LETTERS:W.nsIn K mainGlobals "LETTERS"=some (some eI)) (r_LETTERS:RelV (.str letters) eI)
  {cV:Value} (y_LONGEST_MARK:W.nsIn K mainGlobals "LONGEST_MARK"=some (some cV)) (r_LONGEST_MARK:RelV (.int 8) cV)
  {dM:Value} (y_MOST_ROOM:W.nsIn K mainGlobals "MOST_ROOM"=some (some dM)) (r_MOST_ROOM:RelV (.int 20) dM)
  :∃fd:FuncData,(∀(s:Shared) (v:Value),BindsTo s fd ⟨[v],[]⟩ [("_law_script",v)])∧∀base:Heap,K.In base→base.Ns mainGlobals mg→FnOk l.prog w K mg base CX0 10 fa fd ["_law_script"] (jt K):=by
 have e:=hfa.symm.trans (W.mg_of X G a34)
 cases e
 have F0:=Y3 (st:=bG) l0 c0 k0
 have b0:Binds K _ ["thing"] []:=F0.b1 fun _ _ _ _ _ _ _=>rfl
 have m0:=W.mg_of X G a0
 have F1:=Y3 (st:=aP) l1 c1 k1
 have b1:Binds K _ ["thing","least"] []:=F1.b2 fun _ _ _ _ _ _ _ _=>rfl
 have m1:=W.mg_of X G a1
 have F2:=Y3 (st:=aM) l2 c2 k2
 have b2:Binds K _ ["thing","least","most"] []:=F2.b3 fun _ _ _ _ _ _ _ _ _=>rfl
 have m2:=W.mg_of X G a2
 have F3:=Y3 (st:=bU) l3 c3 k3
 have b3:Binds K _ ["thing"] []:=F3.b1 fun _ _ _ _ _ _ _=>rfl
 have m3:=W.mg_of X G a3
 have F4:=Y3 (st:=a_) l4 c4 k4
 have b4:Binds K _ ["parts"] []:=F4.b1 fun _ _ _ _ _ _ _=>rfl
 have m4:=W.mg_of X G a4
 have F5:=Y3 (st:=bV) l5 c5 k5
 have b5:Binds K _ ["thing"] []:=F5.b1 fun _ _ _ _ _ _ _=>rfl
 have m5:=W.mg_of X G a5
 have F6:=Y3 (st:=bC) l6 c6 k6
 have b6:Binds K _ ["thing","is_key"] []:=F6.b2 fun _ _ _ _ _ _ _ _=>rfl
 have m6:=W.mg_of X G a6
 have F7:=Y3 (st:=bc) l7 c7 k7
 have b7:Binds K _ ["thing","is_key"] []:=F7.b2 fun _ _ _ _ _ _ _ _=>rfl
 have m7:=W.mg_of X G a7
 have F8:=Y3 (st:=aJ) l8 c8 k8
 have b8:Binds K _ ["thing"] []:=F8.b1 fun _ _ _ _ _ _ _=>rfl
 have m8:=W.mg_of X G a8
 have F9:=Y3 (st:=bg) l9 c9 k9
 have b9:Binds K _ ["stream"] []:=F9.b1 fun _ _ _ _ _ _ _=>rfl
 have m9:=W.mg_of X G a9
 have F10:=Y3 (st:=bE) l10 c10 k10
 have b10:Binds K _ ["thing","room"] []:=F10.b2 fun _ _ _ _ _ _ _ _=>rfl
 have m10:=W.mg_of X G a10
 have F11:=Y3 (st:=bI) l11 c11 k11
 have b11:Binds K _ ["thing","room"] []:=F11.b2 fun _ _ _ _ _ _ _ _=>rfl
 have m11:=W.mg_of X G a11
 have F12:=Y3 (st:=bH) l12 c12 k12
 have b12:Binds K _ ["stream"] []:=F12.b1 fun _ _ _ _ _ _ _=>rfl
 have m12:=W.mg_of X G a12
 have F13:=Y3 (st:=ba) l13 c13 k13
 have b13:Binds K _ ["counts","paper"] []:=F13.b2 fun _ _ _ _ _ _ _ _=>rfl
 have m13:=W.mg_of X G a13
 have F14:=Y3 (st:=bD) l14 c14 k14
 have b14:Binds K _ ["stream","tally","paper"] []:=F14.b3 fun _ _ _ _ _ _ _ _ _=>rfl
 have m14:=W.mg_of X G a14
 have F15:=Y3 (st:=cW) l15 c15 k15
 have b15:Binds K _ ["_law_script","_law_k"] []:=F15.b2 fun _ _ _ _ _ _ _ _=>rfl
 have m15:=W.mg_of X G a15
 have F16:=Y3 (st:=cv) l16 c16 k16
 have b16:Binds K _ ["_law_pen_here","_law_size"] []:=F16.b2 fun _ _ _ _ _ _ _ _=>rfl
 have m16:=W.mg_of X G a16
 have F17:=Y3 (st:=cE) l17 c17 k17
 have b17:Binds K _ ["_law_pen_here","_law_k"] []:=F17.b2 fun _ _ _ _ _ _ _ _=>rfl
 have m17:=W.mg_of X G a17
 have F18:=Y3 (st:=cz) l18 c18 k18
 have b18:Binds K _ ["_law_pen_here"] []:=F18.b1 fun _ _ _ _ _ _ _=>rfl
 have m18:=W.mg_of X G a18
 have F19:=Y3 (st:=bW) l19 c19 k19
 have b19:Binds K _ ["_law_pen_here","_law_marks","_law_deep"] []:=F19.b3 fun _ _ _ _ _ _ _ _ _=>rfl
 have m19:=W.mg_of X G a19
 have F20:=Y3 (st:=bB) l20 c20 k20
 have b20:Binds K _ ["_law_pen_here","_law_marks","_law_deep","_law_most"] []:=F20.b4 fun _ _ _ _ _ _ _ _ _ _=>rfl
 have m20:=W.mg_of X G a20
 have F21:=Y3 (st:=ca) l21 c21 k21
 have b21:Binds K _ ["_law_pen_here","_law_marks","_law_deep","_law_most","_law_parts"] []:=F21.b5 fun _ _ _ _ _ _ _ _ _ _ _=>rfl
 have m21:=W.mg_of X G a21
 have F22:=Y3 (st:=cB) l22 c22 k22
 have b22:Binds K _ ["_law_pen_here"] []:=F22.b1 fun _ _ _ _ _ _ _=>rfl
 have m22:=W.mg_of X G a22
 have F23:=Y3 (st:=bJ) l23 c23 k23
 have b23:Binds K _ ["_law_one","_law_other"] []:=F23.b2 fun _ _ _ _ _ _ _ _=>rfl
 have m23:=W.mg_of X G a23
 have F24:=Y3 (st:=bA) l24 c24 k24
 have b24:Binds K _ ["_law_room_here","_law_tree_here"] []:=F24.b2 fun _ _ _ _ _ _ _ _=>rfl
 have m24:=W.mg_of X G a24
 have F25:=Y3 (st:=aQ) l25 c25 k25
 have b25:Binds K _ ["_law_tree_here"] []:=F25.b1 fun _ _ _ _ _ _ _=>rfl
 have m25:=W.mg_of X G a25
 have F26:=Y3 (st:=aU) l26 c26 k26
 have b26:Binds K _ ["_law_room_here","_law_counts"] []:=F26.b2 fun _ _ _ _ _ _ _ _=>rfl
 have m26:=W.mg_of X G a26
 have F27:=Y3 (st:=cX) l27 c27 k27
 have b27:Binds K _ ["_law_stream_here","_law_tally","_law_paper"] []:=F27.b3 fun _ _ _ _ _ _ _ _ _=>rfl
 have m27:=W.mg_of X G a27
 have F28:=Y3 (st:=aT) l28 c28 k28
 have b28:Binds K _ ["_law_pen_here","_law_paper","_law_way"] []:=F28.b3 fun _ _ _ _ _ _ _ _ _=>rfl
 have m28:=W.mg_of X G a28
 have F29:=Y3 (st:=aS) l29 c29 k29
 have b29:Binds K _ ["_law_pen_here","_law_tally","_law_way"] []:=F29.b3 fun _ _ _ _ _ _ _ _ _=>rfl
 have m29:=W.mg_of X G a29
 have F30:=Y3 (st:=aO) l30 c30 k30
 have b30:Binds K _ ["_law_pen_here","_law_stream_here"] []:=F30.b2 fun _ _ _ _ _ _ _ _=>rfl
 have m30:=W.mg_of X G a30
 have F31:=Y3 (st:=cp) l31 c31 k31
 have b31:Binds K _ ["_law_stream_here","_law_marks","_law_many_here"] []:=F31.b3 fun _ _ _ _ _ _ _ _ _=>rfl
 have m31:=W.mg_of X G a31
 have F32:=Y3 (st:=bF) l32 c32 k32
 have b32:Binds K _ ["_law_pen_here","_law_stream_here","_law_tally","_law_paper"] []:=F32.b4 fun _ _ _ _ _ _ _ _ _ _=>rfl
 have m32:=W.mg_of X G a32
 have F33:=Y3 (st:=cA) l33 c33 k33
 have b33:Binds K _ ["_law_stream_here","_law_tally","_law_paper"] []:=F33.b3 fun _ _ _ _ _ _ _ _ _=>rfl
 have m33:=W.mg_of X G a33
 have F34:=Y3 (st:=dD) l34 c34 k34
 have aD:=W.mg_none_of X G y_len
 have ad:=W.mg_none_of X G y_isinstance
 have bS:=W.mg_none_of X G y_range
 have aZ:=W.mg_none_of X G y_list
 have aL:=W.mg_none_of X G y_sorted
 have ay:=W.mg_none_of X G y_tuple
 have eF:=W.mg_none_of X G y_int
 have dI:=W.mg_none_of X G y_bool
 have bO:=W.mg_none_of X G y_dict
 have dE:=W.mg_none_of X G y_set
 have mF:=W.mg_none_of X G y_str
 have bw:=W.mg_none_of X G y_all
 have cq:=W.mg_none_of X G y_sum
 have eE:=W.mg_none_of X G y_zip
 have jy:=W.mg_none_of X G y_max
 have lI:=W.mg_none_of X G y_min
 have kI:=W.mg_of X G y_LETTERS
 have d8:=W.mg_of X G y_LONGEST_MARK
 have fg:=W.mg_of X G y_MOST_ROOM
 refine ⟨W.fnOf "law" "law" (ao dD) (aj dD) (aa dD) .none kV34 dc34 pm34 an34 cd34 ct34,fun s v=>.of_eq rfl,fun base kb nb=>?_⟩
 have cj:=Has.of (qw (P:=l.prog) (w:=w) (mg:=mg) (base:=base) F16) b16 F16.kp m16
 have uq:=Has.of (sT (P:=l.prog) (w:=w) (mg:=mg) (base:=base) F15 aD) b15 F15.kp m15
 have mI:=Has.of (pV (P:=l.prog) (w:=w) (mg:=mg) (base:=base) F17) b17 F17.kp m17
 have ub:=Has.of (qi cj F18) b18 F18.kp m18
 have pe:=Has.of (mW cj mI ub F19) b19 F19.kp m19
 have nz:=Has.of (k_ cj pe bS F20) b20 F20.kp m20
 have t5:=Has.of (pc cj F22) b22 F22.kp m22
 have tO:=jb cj nz F21 b21 m21 5
 have h_so:=mH (P:=l.prog) (w:=w) (mg:=mg) (base:=base) ad aZ F25 b25 m25 5
 have l_:=Has.of (qu (P:=l.prog) (w:=w) (mg:=mg) (base:=base) bO aL ay dE lI F23) b23 F23.kp m23
 have oW:=oD l_ ad ay F24 b24 m24 5
 have h1:=Has.of (fb (P:=l.prog) (w:=w) (mg:=mg) (base:=base) ad eF dI F0) b0 F0.kp m0
 have h2:=Has.of (S2 h1 F1) b1 F1.kp m1
 have FM3:=gG (P:=l.prog) (w:=w) (mg:=mg) (base:=base) ad mF aD bw ⟨_,kI,r_LETTERS⟩ ⟨_,d8,r_LONGEST_MARK⟩ F3
 have h3:=Has.of FM3 b3 F3.kp m3
 have h4:=Has.of (sL h2 F2) b2 F2.kp m2
 have h5:=Has.of (mS (P:=l.prog) (w:=w) (mg:=mg) (base:=base) bw eE F4) b4 F4.kp m4
 have h5t:=Has.of (lL (P:=l.prog) (w:=w) (mg:=mg) (base:=base) bw eE F4) b4 F4.kp m4
 have cm:Cal base f3:=⟨_,_,_,_,kb _ _ l3⟩
 have h6:=Has.of (p9 ad ay aD h2 FM3 b3 cm F6) b6 F6.kp m6
 have h7:=Has.of (oZ ad ay bw h6 h5 F7) b7 F7.kp m7
 have h7b:=Has.of (rV h4 ⟨_,fg,r_MOST_ROOM⟩ F5) b5 F5.kp m5
 have h8:=Has.of (qC ad ay aD h2 h7b h7 ⟨_,m3,rfl⟩ F8) b8 F8.kp m8
 have h9:=Has.of (tW ad ay aD bw h3 h5t h2 F10) b10 F10.kp m10
 have h10:=Has.of (si ad aZ bw h9 F11) b11 F11.kp m11
 have h11:=Has.of (rn (P:=l.prog) (w:=w) (mg:=mg) (base:=base) cq F9) b9 F9.kp m9
 have h12:=Has.of (lO (P:=l.prog) (w:=w) (mg:=mg) (base:=base) F12) b12 F12.kp m12
 have h13:=Has.of (mD (P:=l.prog) (w:=w) (mg:=mg) (base:=base) bO F13) b13 F13.kp m13
 have h14:=Has.of (lQ h8 h10 h11 h12 h13 cq F14) b14 F14.kp m14
 have h15:=Has.of (uA (P:=l.prog) (w:=w) (mg:=mg) (base:=base) aD dE aL F26) b26 F26.kp m26
 have h16:=Has.of (oP aD dE aL bO aZ cq h15 F27) b27 F27.kp m27
 have h17:=Has.of (pS ad dI aZ h14 h16 F33) b33 F33.kp m33
 have h18:=Has.of (uv aD eF cj F28) b28 F28.kp m28
 have h19:=Has.of (uB aD jy cj F29) b29 F29.kp m29
 have h20:=Has.of (um aD cj F30) b30 F30.kp m30
 have h21:=Has.of (pC (P:=l.prog) (w:=w) (mg:=mg) (base:=base) F31) b31 F31.kp m31
 have h22:=Has.of (qg aD ay aL bS bO cq cj mI h21 F32) b32 F32.kp m32
 exact sI uq cj t5 tO h_so oW h16 h17 h18 h19 h20 h22 bS F34
theorem walk {l:W.OpenLaw} {q:Program} {loose:List Str} {XP:(Str→Option Value)→Heap→Prop} {YP:World→Heap→Prop} {d:DefRec} {K:Params→W.Frag} (hn:l.most=some 63) (hdf:d.params.defaults=[])
  (hY:∀(w:World) (h:Heap),YP w h→(K w.params).In h)
  (F:∀(w:World) (mg:Str→Option Value) (fa:Addr) (h:Heap),(K w.params).In h→h.Ns mainGlobals mg→mg d.name=some (.ref fa)→
   ∃fd:FuncData,(∀(s:Shared) (u:Value),BindsTo s fd ⟨[u],[]⟩ [("_law_script",u)])∧∀base:Heap,(K w.params).In base→base.Ns mainGlobals mg→FnOk l.prog w (K w.params) mg base CX0 10 fa fd ["_law_script"] (jt (K w.params))):
  W.WalkO q loose XP YP l.row.toRowW d [] (fun f vs=>PySem.call f vs):=
 L2.walk_of (n:=63) (k:=10) (x:="_law_script") (CX:=fun _=>CX0) (sp:=fun w=>jt (K w.params)) hn (by decide) hdf ⟨rfl,by decide,by decide⟩ hY F (fun _ _ a ns hl _ hS=>⟨a,ns,rfl,hS,hl,fun _=>rfl⟩) fun _ _ _ _ _ z=>z
end K18
def PySem.W.Fast.tw10466823517785717612:PySem.Program:=PySem.Challenge.pw_sumshare_k18_papers_looked_at
theorem PySem.W.Fast.te10466823517785717612:PySem.Challenge.pw_sumshare_k18_papers_looked_at=PySem.W.Fast.tw10466823517785717612:=rfl
def K18.qv:PySem.Program:=PySem.W.view PySem.Challenge.pw_sumshare_k18_papers_looked_at [1,2,3,4,5,6,7,8,9,10,11,13,15,17,18,19,20,21,23,24,25,26,27,28,29,30,31,32,33,34,35,36,37,38,39,40,41,42]
open PySem PySem.W PyProof.Rows
local macro_rules | `(tactic| o_head $H)=>`(tactic| (refine holds_open (q:=K18.qv) (loose:=[]) (Xt:=fun s=>xlAt K18.qv [] s && recOk [] s) (XP:=XL K18.qv []) (Yf:=Hook.obs $H) (Ya:=Hook.val $H) (YP:=Hook.says $H) (N:=1000000) ?hl (Hook.of $H) (Hook.keeps $H) (fun s e=>xl_of s (Bool.and_eq_true_iff.mp e).1) XL.keeps (by rfl) (by rfl) (by rfl) (fun s e=>recFacts_of (Bool.and_eq_true_iff.mp e).2) (by rfl) (by first | assumption | decide +kernel) (by decide +kernel) ⟨rfl,rfl,rfl,rfl,rfl,by decide +kernel⟩ ?hw ?hc;(case hl=>exact Hd.left (p:=PySem.Challenge.pw_sumshare_k18_papers_looked_at) rfl (fun _=>rfl) (fun w os=>by kernel_rfl) (fun w os=>by kernel_rfl) rfl fun w os=>by kernel_rfl)))
set_option maxRecDepth 100000 in
set_option maxHeartbeats 0 in
theorem PySem.Challenge.cw_sumshare_k18_papers_looked_at_holds : PySem.Challenge.rw_sumshare_k18_papers_looked_at.Holds := by
 w_on;o_law;k_head;(case hw=>w_witness2)
 k_fill
 refine K18.walk (l:=PySem.Challenge.rw_sumshare_k18_papers_looked_at) rfl rfl (fun w h Y=>PySem.W.kIn_of Y) ?F
 case F=>
  intro w mg fa h KX G hmg
  refine' K18.all_mk KX G hmg ?a0 ?l0 ?c0 ?k0 ?a1 ?l1 ?c1 ?k1 ?a2 ?l2 ?c2 ?k2 ?a3 ?l3 ?c3 ?k3 ?a4 ?l4 ?c4 ?k4 ?a5 ?l5 ?c5 ?k5 ?a6 ?l6 ?c6 ?k6 ?a7 ?l7 ?c7 ?k7 ?a8 ?l8 ?c8 ?k8 ?a9 ?l9 ?c9 ?k9 ?a10 ?l10 ?c10 ?k10 ?a11 ?l11 ?c11 ?k11 ?a12 ?l12 ?c12 ?k12 ?a13 ?l13 ?c13 ?k13 ?a14 ?l14 ?c14 ?k14 ?a15 ?l15 ?c15 ?k15 ?a16 ?l16 ?c16 ?k16 ?a17 ?l17 ?c17 ?k17 ?a18 ?l18 ?c18 ?k18 ?a19 ?l19 ?c19 ?k19 ?a20 ?l20 ?c20 ?k20 ?a21 ?l21 ?c21 ?k21 ?a22 ?l22 ?c22 ?k22 ?a23 ?l23 ?c23 ?k23 ?a24 ?l24 ?c24 ?k24 ?a25 ?l25 ?c25 ?k25 ?a26 ?l26 ?c26 ?k26 ?a27 ?l27 ?c27 ?k27 ?a28 ?l28 ?c28 ?k28 ?a29 ?l29 ?c29 ?k29 ?a30 ?l30 ?c30 ?k30 ?a31 ?l31 ?c31 ?k31 ?a32 ?l32 ?c32 ?k32 ?a33 ?l33 ?c33 ?k33 ?a34 ?l34 ?c34 ?k34 ?y_len ?y_isinstance ?y_range ?y_list ?y_sorted ?y_tuple ?y_int ?y_bool ?y_dict ?y_set ?y_str ?y_all ?y_sum ?y_zip ?y_max ?y_min ?y_LETTERS ?r_LETTERS ?y_LONGEST_MARK ?r_LONGEST_MARK ?y_MOST_ROOM ?r_MOST_ROOM
  (case a0=>k_is);(case l0=>k_is);(case c0=>k_is);(case k0=>k_is)
  (case a1=>k_is);(case l1=>k_is);(case c1=>k_is);(case k1=>k_is)
  (case a2=>k_is);(case l2=>k_is);(case c2=>k_is);(case k2=>k_is)
  (case a3=>k_is);(case l3=>k_is);(case c3=>k_is);(case k3=>k_is)
  (case a4=>k_is);(case l4=>k_is);(case c4=>k_is);(case k4=>k_is)
  (case a5=>k_is);(case l5=>k_is);(case c5=>k_is);(case k5=>k_is)
  (case a6=>k_is);(case l6=>k_is);(case c6=>k_is);(case k6=>k_is)
  (case a7=>k_is);(case l7=>k_is);(case c7=>k_is);(case k7=>k_is)
  (case a8=>k_is);(case l8=>k_is);(case c8=>k_is);(case k8=>k_is)
  (case a9=>k_is);(case l9=>k_is);(case c9=>k_is);(case k9=>k_is)
  (case a10=>k_is);(case l10=>k_is);(case c10=>k_is);(case k10=>k_is)
  (case a11=>k_is);(case l11=>k_is);(case c11=>k_is);(case k11=>k_is)
  (case a12=>k_is);(case l12=>k_is);(case c12=>k_is);(case k12=>k_is)
  (case a13=>k_is);(case l13=>k_is);(case c13=>k_is);(case k13=>k_is)
  (case a14=>k_is);(case l14=>k_is);(case c14=>k_is);(case k14=>k_is)
  (case a15=>k_is);(case l15=>k_is);(case c15=>k_is);(case k15=>k_is)
  (case a16=>k_is);(case l16=>k_is);(case c16=>k_is);(case k16=>k_is)
  (case a17=>k_is);(case l17=>k_is);(case c17=>k_is);(case k17=>k_is)
  (case a18=>k_is);(case l18=>k_is);(case c18=>k_is);(case k18=>k_is)
  (case a19=>k_is);(case l19=>k_is);(case c19=>k_is);(case k19=>k_is)
  (case a20=>k_is);(case l20=>k_is);(case c20=>k_is);(case k20=>k_is)
  (case a21=>k_is);(case l21=>k_is);(case c21=>k_is);(case k21=>k_is)
  (case a22=>k_is);(case l22=>k_is);(case c22=>k_is);(case k22=>k_is)
  (case a23=>k_is);(case l23=>k_is);(case c23=>k_is);(case k23=>k_is)
  (case a24=>k_is);(case l24=>k_is);(case c24=>k_is);(case k24=>k_is)
  (case a25=>k_is);(case l25=>k_is);(case c25=>k_is);(case k25=>k_is)
  (case a26=>k_is);(case l26=>k_is);(case c26=>k_is);(case k26=>k_is)
  (case a27=>k_is);(case l27=>k_is);(case c27=>k_is);(case k27=>k_is)
  (case a28=>k_is);(case l28=>k_is);(case c28=>k_is);(case k28=>k_is)
  (case a29=>k_is);(case l29=>k_is);(case c29=>k_is);(case k29=>k_is)
  (case a30=>k_is);(case l30=>k_is);(case c30=>k_is);(case k30=>k_is)
  (case a31=>k_is);(case l31=>k_is);(case c31=>k_is);(case k31=>k_is)
  (case a32=>k_is);(case l32=>k_is);(case c32=>k_is);(case k32=>k_is)
  (case a33=>k_is);(case l33=>k_is);(case c33=>k_is);(case k33=>k_is)
  (case a34=>k_is);(case l34=>k_is);(case c34=>k_is);(case k34=>k_is)
  (case y_len=>k_is)
  (case y_isinstance=>k_is)
  (case y_range=>k_is)
  (case y_list=>k_is)
  (case y_sorted=>k_is)
  (case y_tuple=>k_is)
  (case y_int=>k_is)
  (case y_bool=>k_is)
  (case y_dict=>k_is)
  (case y_set=>k_is)
  (case y_str=>k_is)
  (case y_all=>k_is)
  (case y_sum=>k_is)
  (case y_zip=>k_is)
  (case y_max=>k_is)
  (case y_min=>k_is)
  (case y_LETTERS=>k_is)
  (case r_LETTERS=>exact ⟨_,rfl⟩)
  (case y_LONGEST_MARK=>k_is)
  (case r_LONGEST_MARK=>exact ⟨_,rfl⟩)
  (case y_MOST_ROOM=>k_is)
  (case r_MOST_ROOM=>exact ⟨_,rfl⟩)
