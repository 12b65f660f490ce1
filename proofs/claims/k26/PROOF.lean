import PyProof.Rows.All
import Wide.All
import OpenK.AllK
import Wide.FinOn
import Lean
import PyProof.EqAt
import PyProof.EqKinds
import PyProof.TupleCall
import PySem.Challenge.RW_sumshare_k26_whole_ladders_stay_short
set_option Elab.async false
set_option linter.all false
set_option maxRecDepth 100000
namespace L2
open PySem PySem.Spec PyProof.Rows
abbrev Key:=Sum Int Str
def dJ:Key→Value→Bool
 | .inl k,v=>Value.isInt k v
 | .inr x,v=>Value.isStrOf x v
def keyH (w:World):Key→Int
 | .inl k=>hashInt k
 | .inr x=>hashStr w x
theorem Y4:∀{k:Key} {v:Value},dJ k v=true→(∃i t,k=Sum.inl i∧v=Value.int i t)∨(∃x t,k=Sum.inr x∧v=Value.str x t)
 | .inl i,v,h=>by
  obtain ⟨t,e⟩:=Value.isInt_shape (k:=i) (v:=v) h
  exact .inl ⟨i,t,rfl,e⟩
 | .inr x,v,h=>by
  obtain ⟨t,e⟩:=Value.isStrOf_shape (x:=x) (v:=v) h
  exact .inr ⟨x,t,rfl,e⟩
theorem kj (i:Int) (t:Tok):dJ (.inl i) (.int i t)=true:=by simp [dJ,Value.isInt]
theorem kQ (x:Str) (t:Tok):dJ (.inr x) (.str x t)=true:=by simp [dJ,Value.isStrOf]
theorem sj (a b:Int):decide ((Sum.inl a:Key)=Sum.inl b)=(a == b):=by
 by_cases e:a=b
 ·subst e;simp
 ·have h:¬(Sum.inl a:Key)=Sum.inl b:=fun q=>e (Sum.inl.inj q)
  rw [decide_eq_false h]
  exact (beq_eq_false_iff_ne.mpr e).symm
theorem rN (a b:Str):decide ((Sum.inr a:Key)=Sum.inr b)=decide (a=b):=by
 by_cases e:a=b
 ·subst e;simp
 ·have h:¬(Sum.inr a:Key)=Sum.inr b:=fun q=>e (Sum.inr.inj q)
  rw [decide_eq_false h,decide_eq_false e]
theorem sL (a:Int) (b:Str):decide ((Sum.inl a:Key)=Sum.inr b)=false:=decide_eq_false (fun q=>nomatch q)
theorem su (a:Str) (b:Int):decide ((Sum.inr a:Key)=Sum.inl b)=false:=decide_eq_false (fun q=>nomatch q)
def aj (prog:Program) (w:World):PySem.KeyKind prog w Key where
 is:=dJ
 hash:=keyH w
 inj:=fun v a b ha hb=>by
  rcases Y4 ha with ⟨i,t,rfl,rfl⟩ | ⟨x,t,rfl,rfl⟩
  ·rcases Y4 hb with ⟨j,u,rfl,e⟩ | ⟨y,u,rfl,e⟩
   ·injection e with e1 _;rw [e1]
   ·exact nomatch e
  ·rcases Y4 hb with ⟨j,u,rfl,e⟩ | ⟨y,u,rfl,e⟩
   ·exact nomatch e
   ·injection e with e1 _;rw [e1]
 byValue:=fun k v h=>by
  rcases Y4 h with ⟨i,t,rfl,rfl⟩ | ⟨x,t,rfl,rfl⟩ <;> rfl
 pyHash:=fun hv h=>by
  rcases Y4 hv with ⟨i,t,rfl,rfl⟩ | ⟨x,t,rfl,rfl⟩
  ·exact wpAny_pyHash_int h
  ·exact wpAny_pyHash_str h
 eqBool:=fun hu hv h=>by
  rcases Y4 hu with ⟨i,t,rfl,rfl⟩ | ⟨x,t,rfl,rfl⟩
  ·rcases Y4 hv with ⟨j,u,rfl,rfl⟩ | ⟨y,u,rfl,rfl⟩
   ·rw [sj] at h;exact wpAny_eqBool_int h
   ·rw [sL] at h;exact SeqAt.EqAt.int_str i t y u _ _ _ _ h
  ·rcases Y4 hv with ⟨j,u,rfl,rfl⟩ | ⟨y,u,rfl,rfl⟩
   ·rw [su] at h;exact SeqAt.EqAt.str_int x t j u _ _ _ _ h
   ·rw [rN] at h;exact wpAny_eqBool_str h
 «strs»:=fun k x t v h=>by
  rcases Y4 h with ⟨i,u,rfl,e⟩ | ⟨y,u,rfl,e⟩
  ·exact nomatch e
  ·injection e with e1 _
   subst e1
   cases v <;> rfl
theorem Vq (prog:Program) (w:World) (i:Int) (t:Tok):(aj prog w).is (.inl i) (.int i t)=true:=kj i t
theorem Nc (prog:Program) (w:World) (x:Str) (t:Tok):(aj prog w).is (.inr x) (.str x t)=true:=kQ x t
inductive V where
 | non | bl (b:Bool) | int (i:Int) | str (x:Str) | byt (b:Array UInt8) | flt (b:UInt64) | ref (a:Addr) | ty (n:String)
 deriving DecidableEq
def RelV:V→Value→Prop
 | .non,u=>u=Value.none
 | .bl b,u=>u=Value.bool b
 | .int i,u=>∃t,u=Value.int i t
 | .str x,u=>∃t,u=Value.str x t
 | .byt b,u=>∃t,u=Value.bytes b t
 | .flt b,u=>∃t,u=Value.float b t
 | .ref a,u=>u=Value.ref a
 | .ty n,u=>u=Value.type n
abbrev Vals:List V→List Value→Prop:=Paired RelV
theorem Vals.length {xs:List V} {us:List Value} (r:Vals xs us):xs.length=us.length:=Paired.length r
theorem Vals.get:∀{xs:List V} {us:List Value} {i:Nat} {x:V},Vals xs us→xs[i]?=some x→∃u,us[i]?=some u∧RelV x u
 | _,_,_,_,.nil,e=>by simp at e
 | _,_,0,_,.cons r _,e=>by simp at e;subst e;exact ⟨_,rfl,r⟩
 | _,_,i+1,x,.cons _ t,e=>by
  obtain ⟨u,h1,h2⟩:=Vals.get (i:=i) (x:=x) t (by simpa using e)
  exact ⟨u,by simpa using h1,h2⟩
theorem Vals.set {x:V} {u:Value} (r:RelV x u):∀{xs:List V} {us:List Value} (i:Nat),Vals xs us→Vals (xs.set i x) (us.set i u)
 | _,_,_,.nil=>.nil
 | _,_,0,.cons _ t=>.cons r t
 | _,_,i+1,.cons q t=>.cons q (Vals.set r i t)
theorem Vals.append {xs ys:List V} {us ws:List Value} (h:Vals xs us) (s:Vals ys ws):Vals (xs++ys) (us++ws):=by
 induction h with
 | nil=>exact s
 | cons r t ih=>exact .cons r ih
theorem Vals.take:∀{xs:List V} {us:List Value} (n:Nat),Vals xs us→Vals (xs.take n) (us.take n)
 | _,_,0,_=>.nil
 | _,_,_+1,.nil=>.nil
 | _,_,n+1,.cons r t=>.cons r (Vals.take n t)
theorem Vals.drop:∀{xs:List V} {us:List Value} (n:Nat),Vals xs us→Vals (xs.drop n) (us.drop n)
 | _,_,0,r=>r
 | _,_,_+1,.nil=>.nil
 | _,_,n+1,.cons _ t=>Vals.drop n t
def RelO:Option V→Option Value→Prop
 | some v,some u=>RelV v u
 | none,none=>True
 | _,_=>False
def KV {κ:Type}:List (κ×V)→List (κ×Value)→Prop:=Paired fun (p:κ×V) (q:κ×Value)=>p.1=q.1∧RelV p.2 q.2
def kV:Key→V
 | .inl i=>.int i
 | .inr x=>.str x
inductive HO where
 | lst (xs:List V)
 | tup (xs:List V)
 | dK (kvs:List (Key×V)) | dT (kvs:List (List Key×V))
 | set (S:Int→Bool) (n:Nat)
 | ins (C dx:Addr) (fs:List (Str×V))
 | own (x:Addr)
 | xd (fs:List (Str×V))
 | met (f x:Addr)
 | rng (lo hi:Int)
 | frz (o:Obj) (u:HO)
 | tbl (ps:Array Value)
 | ext (φ:Heap→Prop)
abbrev Hp:=Addr→Option HO
def upd (H:Hp) (a:Addr) (o:HO):Hp:=fun b=>if b=a then some o else H b
theorem Z4 {H:Hp} {a:Addr} {o:HO}:upd H a o a=some o:=by unfold upd;rw [if_pos rfl]
theorem Zb {H:Hp} {a b:Addr} {o:HO} (h:b≠a):upd H a o b=H b:=by unfold upd;rw [if_neg h]
theorem oW {H:Hp} {a:Addr} {o u:HO}:upd (upd H a o) a u=upd H a u:=by
 funext b;unfold upd;split <;> rfl
theorem Tj {H:Hp} {a b:Addr} {o u:HO} (h:H a=some o) (h':H b=some u) (d:o≠u):a≠b:=by
 intro e;subst e;rw [h] at h';exact d (Option.some.inj h')
theorem Zi {H:Hp} {a b:Addr} {o:HO} (h:H a=some o) (h':H b=none):a≠b:=by
 intro e;subst e;rw [h] at h';cases h'
def TupN (h:Heap) (a:Addr) (items:Array Value):Prop:=∃o,h.get? a=some o∧(o.cls=.type "tuple"∧o.dict=none)∧∃n,o.data=.seq items n
theorem TupN.tup {h:Heap} {a:Addr} {items:Array Value} (x:TupN h a items):IsTup h a items:=let ⟨o,e,c,n,d⟩:=x;⟨o,e,c.1,n,d⟩
theorem TupN.new (h:Heap) (items:Array Value):TupN (h.push {cls:=.type "tuple",data:=.seq items}) h.objs.size items:=⟨_,Heap.get?_push_size _ rfl,⟨rfl,rfl⟩,_,rfl⟩
section
variable (P:Program) (w:World)
def ObjOk (H:Hp) (h:Heap) (a:Addr):HO→Prop
 | .lst xs=>xs.length≤sizeLine∧∃(its:List Value) (n:Nat),Vals xs its∧h.get? a=some {cls:=.type "list",data:=.seq its.toArray n}
 | .tup xs=>xs.length≤sizeLine∧∃its:List Value,Vals xs its∧TupN h a its.toArray
 | .dK kvs=>kvs.length≤sizeLine∧(a == sysModules)=false∧∃vs,KV kvs vs∧h.DictOf (aj P w) a vs
 | .dT kvs=>kvs.length≤sizeLine∧(a == sysModules)=false∧∃xs:List (List Key×Addr×Value),
   Paired (fun (p:List Key×V) (q:List Key×Addr×Value)=>p.1=q.1∧H q.2.1=some (.tup (p.1.map kV))∧RelV p.2 q.2.2) kvs xs∧
   ∃o es ep,h.get? a=some o∧o.ExactDict∧o.data=.dict es ep∧es.toList=xs.map (entryOfKey (tupleKind (aj P w)))∧(xs.map (·.1)).Nodup
 | .set S n=>h.SetOf (intKind P w) a S n
 | .ins C dx fs=>H dx=some (.own a)∧fs.length≤1000∧dx≠a∧h.get? a=some (W.instObj C dx)∧
   ∃mA,h.Ns1 dx mA∧(∀f,RelO (fs.lookup f) (mA f))∧PySem.Within mA (fs.map (·.1))
 | .own _=>∃o,h.get? a=some o
 | .xd fs=>∃mA,h.Ns1 a mA∧∀f,RelO (fs.lookup f) (mA f)
 | .rng lo hi=>∃t u v,h.get? a=some {cls:=.type "range",data:=.fields #[.int lo t,.int hi u,.int 1 v]}
 | .frz o u=>h.get? a=some o∧ObjOk H h a u
 | .tbl ps=>h.get? a=some {cls:=.none,data:=.fields ps}
 | .met f x=>h.get? a=some (W.methodObj (.ref f) (.ref x))
 | .ext φ=>φ h∧(∃o,h.get? a=some o)∧∀h1 h2:Heap,φ h1→(∀o,h1.get? a=some o→h2.get? a=some o)→φ h2
def HOk (H:Hp) (h:Heap):Prop:=∀a o,H a=some o→ObjOk P w H h a o
end
section
variable {P:Program} {w:World} {H H':Hp} {h h':Heap} {a:Addr} {o:HO}
theorem ObjOk.lt (x:ObjOk P w H h a o):a<h.objs.size:=by
 cases o with
 | lst xs=>obtain ⟨_,_,_,_,e⟩:=x;exact Heap.lt_size e
 | tup xs=>obtain ⟨_,_,_,p⟩:=x;exact p.tup.lt
 | dK kvs=>obtain ⟨_,_,_,_,o,_,_,e,_⟩:=x;exact Heap.lt_size e
 | dT kvs=>obtain ⟨_,_,_,_,o,_,_,e,_⟩:=x;exact Heap.lt_size e
 | set S n=>obtain ⟨o,_,_,_,e,_⟩:=x;exact Heap.lt_size e
 | ins C dx fs=>obtain ⟨_,_,_,e,_⟩:=x;exact Heap.lt_size e
 | own y=>obtain ⟨_,e⟩:=x;exact Heap.lt_size e
 | xd fs=>obtain ⟨_,⟨_,_,_,e,_⟩,_⟩:=x;exact Heap.lt_size e
 | rng lo hi=>obtain ⟨_,_,_,e⟩:=x;exact Heap.lt_size e
 | frz ob u=>obtain ⟨e,_⟩:=x;exact Heap.lt_size e
 | tbl ps=>exact Heap.lt_size (show h.get? a=some _ from x)
 | met f y=>exact Heap.lt_size (show h.get? a=some _ from x)
 | ext φ=>obtain ⟨_,⟨_,e⟩,_⟩:=x;exact Heap.lt_size e
theorem Paired.mapP {α β:Type} {F G:α→β→Prop} {l₁:List α} {l₂:List β} (h:Paired F l₁ l₂) (f:∀a b,F a b→G a b):Paired G l₁ l₂:=by
 induction h with
 | nil=>exact .nil
 | cons r t ih=>exact .cons (f _ _ r) ih
theorem ObjOk.stay (x:ObjOk P w H h a o) (k:∀b u,(b=a∨H b=some (.own a))→h.get? b=some u→h'.get? b=some u)
  (ho:∀b,H b=some (.own a)→H' b=some (.own a)) (ht:∀b xs,H b=some (.tup xs)→H' b=some (.tup xs)):ObjOk P w H' h' a o:=by
 induction o with
 | lst xs=>obtain ⟨z,its,n,r,e⟩:=x;exact ⟨z,its,n,r,k _ _ (.inl rfl) e⟩
 | tup xs=>obtain ⟨z,its,r,ob,e,c⟩:=x;exact ⟨z,its,r,ob,k _ _ (.inl rfl) e,c⟩
 | dK kvs=>obtain ⟨z,y,vs,r,ob,es,ep,e,c⟩:=x;exact ⟨z,y,vs,r,ob,es,ep,k _ _ (.inl rfl) e,c⟩
 | dT kvs=>
  obtain ⟨z,y,xs,r,ob,es,ep,e,c⟩:=x
  exact ⟨z,y,xs,Paired.mapP r fun p q z=>⟨z.1,ht _ _ z.2.1,z.2.2⟩,ob,es,ep,k _ _ (.inl rfl) e,c⟩
 | set S n=>obtain ⟨ob,es,ep,t,e,c⟩:=x;exact ⟨ob,es,ep,t,k _ _ (.inl rfl) e,c⟩
 | ins C dx fs=>
  obtain ⟨d,z,ne,e,mA,⟨od,es,ep,e2,c⟩,r⟩:=x
  exact ⟨ho _ d,z,ne,k _ _ (.inl rfl) e,mA,⟨od,es,ep,k _ _ (.inr d) e2,c⟩,r⟩
 | own y=>obtain ⟨ob,e⟩:=x;exact ⟨ob,k _ _ (.inl rfl) e⟩
 | xd fs=>obtain ⟨mA,⟨od,es,ep,e,c⟩,r⟩:=x;exact ⟨mA,⟨od,es,ep,k _ _ (.inl rfl) e,c⟩,r⟩
 | rng lo hi=>obtain ⟨t,u,v,e⟩:=x;exact ⟨t,u,v,k _ _ (.inl rfl) e⟩
 | frz ob u ih=>obtain ⟨e,q⟩:=x;exact ⟨k _ _ (.inl rfl) e,ih q⟩
 | tbl ps=>
  have e:h.get? a=some {cls:=.none,data:=.fields ps}:=x
  show h'.get? a=some {cls:=.none,data:=.fields ps}
  exact k a _ (.inl rfl) e
 | met f y=>
  have e:h.get? a=some (W.methodObj (.ref f) (.ref y)):=x
  show h'.get? a=some (W.methodObj (.ref f) (.ref y))
  exact k a _ (.inl rfl) e
 | ext φ=>obtain ⟨p,⟨o,e⟩,st⟩:=x;exact ⟨st _ _ p fun o q=>k _ _ (.inl rfl) q,⟨o,k _ _ (.inl rfl) e⟩,st⟩
theorem HOk.lt (x:HOk P w H h) (e:H a=some o):a<h.objs.size:=(x a o e).lt
theorem HOk.fresh (x:HOk P w H h) (e:h.objs.size≤a):H a=none:=by
 cases q:H a with
 | none=>rfl
 | some u=>exact absurd (Nat.lt_of_lt_of_le (x.lt q) e) (Nat.lt_irrefl _)
theorem HOk.kept (x:HOk P w H h) (k:∀b u,h.get? b=some u→h'.get? b=some u):HOk P w H h':=fun a o e=>
 (x a o e).stay (fun b u _ q=>k b u q) (fun _ q=>q) fun _ _ q=>q
theorem HOk.laid (x:HOk P w H h) (k:∀b u,h.get? b=some u→h'.get? b=some u) (hp:h.objs.size≤a) (new:ObjOk P w (upd H a o) h' a o):HOk P w (upd H a o) h':=fun b u e=>by
 have hn:=x.fresh hp
 by_cases hb:b=a
 ·subst hb;rw [Z4] at e;cases e;exact new
 ·rw [Zb hb] at e
  exact (x b u e).stay (fun c v _ q=>k c v q) (fun c q=>by rw [Zb (Zi q hn)];exact q) fun c xs q=>by rw [Zb (Zi q hn)];exact q
end
def Rd (H:Hp) (a:Addr) (u:HO):Prop:=H a=some u∨∃o,H a=some (.frz o u)
theorem Rd.ok {P:Program} {w:World} {H:Hp} {h:Heap} {a:Addr} {u:HO} (r:Rd H a u) (x:HOk P w H h):ObjOk P w H h a u:=by
 rcases r with r | ⟨o,r⟩
 ·exact x a u r
 ·obtain ⟨_,q⟩:=x a _ r
  exact q
def Mut:Option HO→Prop
 | some (.lst _)=>True
 | some (.dK _)=>True
 | some (.dT _)=>True
 | some (.set _ _)=>True
 | some (.ins _ _ _)=>True
 | some (.ext _)=>True
 | _=>False
section
variable {P:Program} {w:World} {H:Hp} {h h':Heap} {x e:Addr} {o':HO}
theorem HOk.write (ok:HOk P w H h) (mu:Mut (H x)) (he:e=x∨H e=some (.own x)) (k:∀b u,b≠e→h.get? b=some u→h'.get? b=some u) (heo:∃u,h'.get? e=some u)
  (new:ObjOk P w (upd H x o') h' x o'):HOk P w (upd H x o') h':=fun b u q=>by
 have nown:∀c y,H c=some (.own y)→c≠x:=fun c y r z=>by subst z;rw [r] at mu;exact mu
 have ntup:∀c xs,H c=some (.tup xs)→c≠x:=fun c xs r z=>by subst z;rw [r] at mu;exact mu
 by_cases hb:b=x
 ·subst hb;rw [Z4] at q;cases q;exact new
 ·rw [Zb hb] at q
  by_cases hbe:b=e
  ·have q':H b=some (.own x):=by
    rcases he with z | z
    ·exact absurd (hbe.trans z) hb
    ·rw [hbe];exact z
   rw [q] at q';cases q'
   obtain ⟨v,hv⟩:=heo
   exact ⟨v,by rw [hbe];exact hv⟩
  ·refine (ok b u q).stay (fun c v hc r=>k c v ?_ r) (fun c r=>by rw [Zb (nown c b r)];exact r) fun c xs r=>by rw [Zb (ntup c xs r)];exact r
   rcases hc with rfl | hc
   ·exact hbe
   ·rintro rfl
    rcases he with z | z
    ·exact nown c b hc z
    ·rw [hc] at z;cases z;exact hb rfl
end
structure Un (fs ex:List Addr) (H H':Hp) (h h':Heap):Prop where
 keep:∀b o,h.get? b=some o→H b=none→b∉fs→b∉ex→h'.get? b=some o
 slot:∀b o,h.get? b=some o→H b=none→b∈fs→b∉ex→∃sl,h'.get? b=some {o with slots:=sl}
 free:∀b o,h.get? b=some o→H b=none→b∉ex→H' b=none
 there:∀b o,h.get? b=some o→b∉ex→∃o',h'.get? b=some o'
 tups:∀b xs,H b=some (.tup xs)→H' b=some (.tup xs)
 frzs:∀b o u,H b=some (.frz o u)→H' b=some (.frz o u)
 tbls:∀b ps,H b=some (.tbl ps)→∃more,H' b=some (.tbl (ps++more))
section
variable {fs fs' ex ex':List Addr} {H H1 H2:Hp} {h h1 h2 h':Heap} {a x e:Addr} {o:HO}
theorem Un.any (u:Un fs ex H H1 h h1) {b:Addr} {ob:Obj} (q:h.get? b=some ob) (n:H b=none) (hx:b∉ex):∃sl,h1.get? b=some {ob with slots:=sl}:=by
 by_cases hb:b∈fs
 ·exact u.slot b ob q n hb hx
 ·exact ⟨ob.slots,u.keep b ob q n hb hx⟩
theorem Un.kept (k:∀b u,h.get? b=some u→h'.get? b=some u):Un fs ex H H h h':=
 ⟨fun b ob q _ _ _=>k b ob q,fun b ob q _ _ _=>⟨ob.slots,k b ob q⟩,fun _ _ _ n _=>n,fun b ob q _=>⟨ob,k b ob q⟩,fun _ _ q=>q,fun _ _ _ q=>q,fun _ ps q=>⟨#[],by rw [q];simp⟩⟩
theorem Un.refl:Un fs ex H H h h:=Un.kept fun _ _ q=>q
theorem Un.laid (k:∀b u,h.get? b=some u→h'.get? b=some u) (hp:h.objs.size≤a) (hn:H a=none):Un fs ex H (upd H a o) h h' where
 keep:=fun b u q _ _ _=>k b u q
 slot:=fun b u q _ _ _=>⟨u.slots,k b u q⟩
 free:=fun b u q n _=>by rw [Zb (Nat.ne_of_lt (Nat.lt_of_lt_of_le (Heap.lt_size q) hp))];exact n
 there:=fun b u q _=>⟨u,k b u q⟩
 tups:=fun b xs q=>by rw [Zb (Zi q hn)];exact q
 frzs:=fun b u xs q=>by rw [Zb (Zi q hn)];exact q
 tbls:=fun b ps q=>⟨#[],by rw [Zb (Zi q hn),q];simp⟩
theorem Un.write (mu:Mut (H x)) (he:e=x∨H e=some (.own x)) (k:∀b u,b≠e→h.get? b=some u→h'.get? b=some u) (heo:∃u,h'.get? e=some u):Un fs ex H (upd H x o) h h':=by
 have hx:∀b,H b=none→b≠x:=fun b n z=>by subst z;rw [n] at mu;exact mu
 have hb:∀b,H b=none→b≠e:=fun b n z=>by
  subst z
  rcases he with r | r
  ·exact hx b n r
  ·rw [n] at r;cases r
 have hm:∀b u,H b=some u→¬Mut (some u)→b≠x:=fun b u q nm z=>by subst z;rw [q] at mu;exact nm mu
 refine ⟨fun b u q n _ _=>k b u (hb b n) q,fun b u q n _ _=>⟨u.slots,k b u (hb b n) q⟩,fun b u q n _=>by rw [Zb (hx b n)];exact n,fun b u q _=>?_,
  fun b xs q=>by rw [Zb (hm b _ q fun z=>z)];exact q,fun b u xs q=>by rw [Zb (hm b _ q fun z=>z)];exact q,fun b ps q=>⟨#[],by rw [Zb (hm b _ q fun z=>z),q];simp⟩⟩
 by_cases hbe:b=e
 ·subst hbe;exact heo
 ·exact ⟨u,k b u hbe q⟩
end
def trk (h:Heap) (H:Hp):List Addr:=(List.range h.objs.size).filter fun a=>(H a).isSome
def dS (h:Heap) (H:Hp):Heap:=W.hideAll h (trk h H)
theorem kr (h:Heap) (H:Hp):(dS h H).objs.size=h.objs.size:=W.hideAll_size _ _
theorem n_ {h:Heap} {H:Hp} {b:Addr} {o:Obj} (e:h.get? b=some o) (n:H b=none):(dS h H).get? b=some o:=
 W.hideAll_get _ e fun hm=>by
  have q:(H b).isSome=true:=(List.mem_filter.mp hm).2
  rw [n] at q;simp at q
theorem oF {h:Heap} {H:Hp} {b:Addr} {o:Obj} (e:(dS h H).get? b=some o):h.get? b=some o∧H b=none:=by
 have e':h.get? b=some o:=W.of_hideAll (trk h H) e
 refine ⟨e',?_⟩
 cases q:H b with
 | none=>rfl
 | some x=>
  have hm:b∈trk h H:=List.mem_filter.mpr ⟨List.mem_range.mpr (Heap.lt_size e'),by simp [q]⟩
  have z:(dS h H).get? b=none:=W.hideAll_none (trk h H) hm
  rw [z] at e;cases e
structure Mod (K:W.Frag) (mg:Str→Option Value) (base:Heap):Prop where
 kin:K.In base
 glob:base.Ns mainGlobals mg
 blt:∃mb,base.Ns builtinsNs mb∧∀x:Str,x≠"__name__"→mb x=bootBuiltins x
 nolimit:base.NoLimit
structure Cx where
 prog:Program
 w:World
 K:W.Frag
 mg:Str→Option Value
 base:Heap
 A:Around
 N:List Str
 s₀:Shared
 H₀:Hp
 env:Env
 outer:List Env
 stack:List Env
 ex:List Addr
 fn:Str→Bool
 calm:Bool
 pn:List (Addr×Obj)
 xe:Value→Shared→Prop
def frs (l:List Env):List Addr:=l.filterMap (·.frame)
abbrev Cx.fs (X:Cx):List Addr:=frs X.outer
def Vis (sc:Scope) (x:Str):Prop:=sc.names.lookup x=some .local∨sc.names.lookup x=some .cell∨sc.names.lookup x=some .free
def Loc (sc:Scope) (x:Str):Prop:=sc.names.lookup x=some .local∨sc.names.lookup x=some .cell
def Look (env:Env) (h:Heap) (m:Str→Option Value) (x:Str) (u:Value):Prop:=
 (env.kindOf x=some .local∧m x=some u)∨((env.kindOf x=some .cell∨env.kindOf x=some .free)∧∃c,env.cells.lookup x=some c∧h.IsCell c (some u))
structure Cx.Ok (X:Cx):Prop where
 mod:Mod X.K X.mg X.base
 kind:X.env.scope.kind=.function
 glob:X.env.globals=mainGlobals
 blt:X.env.builtins=builtinsNs
 above:X.s₀.heap.objs.size≤X.env.locals
 inj:∀x y c,X.env.cells.lookup x=some c→X.env.cells.lookup y=some c→x=y
 has:∀x,(X.env.kindOf x=some .cell∨X.env.kindOf x=some .free)→∃c,X.env.cells.lookup x=some c
 cab:∀x c,X.fn x=true→X.env.cells.lookup x=some c→X.s₀.heap.objs.size≤c
 hd:X.calm=true→X.A.handled=none
 frames:X.A.frames=some X.stack
 stk:X.stack=X.outer∨(X.stack=X.env::X.outer∧X.env.frame=some X.env.locals)
 exf:∀b∈X.ex,b≠X.env.locals∧∀x c,X.env.cells.lookup x=some c→c≠b
 bs:∀b o,X.base.get? b=some o→X.s₀.heap.get? b=some o∧X.H₀ b=none
 bsz:X.base.objs.size≤X.s₀.heap.objs.size
 noex:∀b o,X.base.get? b=some o→b∉X.ex
 exfs:∀b∈X.ex,b∉X.fs
 funs:X.s₀.heap.FunFrames X.base X.outer
 frf:∀b∈X.fs,X.H₀ b=none
structure Inv (X:Cx) (pins:List (Addr×Obj)) (σ:List (Option V)) (H:Hp) (s:Shared):Prop where
 ok:X.Ok
 os:s.os=X.s₀.os
 bare:AllBare s.gens
 base:Un X.fs X.ex X.H₀ H X.s₀.heap s.heap
 loc:∃m,s.heap.Ns X.env.locals m∧∀(i:Nat) (x:Str) (v:V),X.N[i]?=some x→σ[i]?=some (some v)→Vis X.env.scope x→∃u,RelV v u∧Look X.env s.heap m x u
 cell:∀x c,X.env.cells.lookup x=some c→∃v,s.heap.IsCell c v
 free:H X.env.locals=none
 freeC:∀x c,X.env.cells.lookup x=some c→H c=none
 pin:∀p∈X.pn++pins,s.heap.get? p.1=some p.2∧H p.1=none∧p.1≠X.env.locals∧p.1∉X.fs∧∀v,p.2.data≠.cell v
 hok:HOk X.prog X.w H s.heap
 len:σ.length=X.N.length
section
variable {X:Cx} {pins:List (Addr×Obj)} {σ:List (Option V)} {H H':Hp} {s:Shared} {h':Heap}
theorem Cx.Ok.nofr (ok:X.Ok) {b:Addr} {o:Obj} (e:X.base.get? b=some o):b∉X.fs:=fun hb=>by
 have:=(ok.funs.mem hb).1
 rw [e] at this;cases this
theorem Inv.bs (I:Inv X pins σ H s):∀b o,X.base.get? b=some o→s.heap.get? b=some o∧H b=none:=fun b o e=>
 ⟨I.base.keep b o (I.ok.bs b o e).1 (I.ok.bs b o e).2 (I.ok.nofr e) (I.ok.noex b o e),I.base.free b o (I.ok.bs b o e).1 (I.ok.bs b o e).2 (I.ok.noex b o e)⟩
theorem Inv.bk (I:Inv X pins σ H s):∀b o,X.base.get? b=some o→s.heap.get? b=some o:=fun b o e=>(I.bs b o e).1
theorem Inv.mod (I:Inv X pins σ H s):Mod X.K X.mg X.base:=I.ok.mod
theorem Inv.kIn (I:Inv X pins σ H s):X.K.In s.heap:=I.ok.mod.kin.keeps I.bk
theorem Inv.lt (I:Inv X pins σ H s):X.env.locals<s.heap.objs.size:=let ⟨_,hn,_⟩:=I.loc;hn.lt
theorem Inv.sz (I:Inv X pins σ H s):X.s₀.heap.objs.size≤s.heap.objs.size:=Nat.le_trans I.ok.above (Nat.le_of_lt I.lt)
theorem Inv.nofs (I:Inv X pins σ H s) {a:Addr} (h:s.heap.objs.size≤a):a∉X.fs:=fun hb=>by
 obtain ⟨_,o,ho,_⟩:=I.ok.funs.mem hb
 exact absurd (Nat.lt_of_lt_of_le (Heap.lt_size ho) (Nat.le_trans I.sz h)) (Nat.lt_irrefl _)
theorem Inv.cne (I:Inv X pins σ H s):∀x c,X.env.cells.lookup x=some c→c≠X.env.locals:=fun x c e z=>by
 obtain ⟨v,o,ho,hd⟩:=I.cell x c e
 obtain ⟨m,⟨o',es,ep,ho',hd',_⟩,_⟩:=I.loc
 rw [z,ho'] at ho;cases ho;rw [hd'] at hd;cases hd
theorem Inv.funs (I:Inv X pins σ H s):s.heap.FunFrames X.base X.outer:=by
 have all:∀(l:List Env),(∀b∈frs l,b∈X.fs)→X.s₀.heap.FunFrames X.base l→s.heap.FunFrames X.base l:=by
  intro l
  induction l with
  | nil=>intro _ _;trivial
  | cons env r ih=>
   intro hs hl
   obtain ⟨hk,⟨L,o,hf,hn,ho,hd⟩,hr⟩:=hl
   have hL:L∈X.fs:=hs L (by unfold frs;rw [List.filterMap_cons,hf];exact List.mem_cons_self)
   obtain ⟨sl,e⟩:=I.base.slot L o ho (I.ok.frf L hL) hL fun z=>I.ok.exfs L z hL
   exact ⟨hk,⟨L,_,hf,hn,e,hd⟩,ih (fun b hb=>hs b (by unfold frs;rw [List.filterMap_cons,hf];exact List.mem_cons_of_mem _ hb)) hr⟩
 exact all X.outer (fun _ hb=>hb) I.ok.funs
theorem Inv.stack (I:Inv X pins σ H s):s.heap.FunFrames X.base X.stack:=by
 rcases I.ok.stk with e | ⟨e,hf⟩
 ·rw [e];exact I.funs
 ·rw [e]
  obtain ⟨m,hn,_⟩:=I.loc
  refine .cons (by rw [I.ok.kind];decide) hf hn ?_ I.funs
  exact Heap.get?_none_of_le (Nat.le_trans I.ok.bsz I.ok.above)
theorem Inv.stkSub (I:Inv X pins σ H s):∀b∈frs X.stack,b∈X.env.locals::X.fs:=fun b hb=>by
 rcases I.ok.stk with e | ⟨e,hf⟩
 ·rw [e] at hb;exact List.mem_cons_of_mem _ hb
 ·rw [e] at hb
  unfold frs at hb
  rw [List.filterMap_cons,hf] at hb
  exact hb
theorem Inv.stkFree (I:Inv X pins σ H s):∀b∈frs X.stack,H b=none:=fun b hb=>by
 rcases List.mem_cons.mp (I.stkSub b hb) with e | hb
 ·rw [e];exact I.free
 ·obtain ⟨_,o,ho,_⟩:=I.ok.funs.mem hb
  exact I.base.free b o ho (I.ok.frf b hb) fun z=>I.ok.exfs b z hb
theorem Inv.step {g':Array GenState} {t':Nat} {d':Drawn} {ch:List Addr} (I:Inv X pins σ H s)
  (hch:∀b∈ch,(b∈X.ex∨X.s₀.heap.objs.size≤b)∧b≠X.env.locals∧(∀x c,X.env.cells.lookup x=some c→c≠b)∧∀p∈X.pn++pins,p.1≠b)
  (keep:∀b o,b≠X.env.locals→b∉X.fs→b∉ch→s.heap.get? b=some o→H b=none→h'.get? b=some o)
  (slot:∀b o,b≠X.env.locals→b∈X.fs→b∉ch→s.heap.get? b=some o→H b=none→∃sl,h'.get? b=some {o with slots:=sl}) (free:∀b o,b∉ch→s.heap.get? b=some o→H b=none→H' b=none)
  (there:∀b o,b∉ch→s.heap.get? b=some o→∃o',h'.get? b=some o')
  (tups:∀b xs,H b=some (.tup xs)→H' b=some (.tup xs)) (frzs:∀b o u,H b=some (.frz o u)→H' b=some (.frz o u)) (tbls:∀b ps,H b=some (.tbl ps)→∃more,H' b=some (.tbl (ps++more)))
  (ns:∀m,s.heap.Ns X.env.locals m→h'.Ns X.env.locals m) (hok:HOk X.prog X.w H' h') (hg:AllBare g'):
  Inv X pins σ H' {s with heap:=h',gens:=g',drawn:=d',toks:=t'}:=by
 have neL:∀b o,X.s₀.heap.get? b=some o→b≠X.env.locals:=fun b o e=>Nat.ne_of_lt (Nat.lt_of_lt_of_le (Heap.lt_size e) I.ok.above)
 have neC:∀b o,X.s₀.heap.get? b=some o→b∉X.ex→b∉ch:=fun b o e hx hb=>by
  rcases (hch b hb).1 with z | z
  ·exact hx z
  ·exact absurd (Nat.lt_of_lt_of_le (Heap.lt_size e) z) (Nat.lt_irrefl _)
 have cellK:∀x c,X.env.cells.lookup x=some c→∀v,s.heap.IsCell c v→h'.IsCell c v:=fun x c e v ⟨o,ho,hd⟩=>by
  have nch:c∉ch:=fun z=>(hch c z).2.2.1 x c e rfl
  by_cases hc:c∈X.fs
  ·obtain ⟨sl,q⟩:=slot c o (I.cne x c e) hc nch ho (I.freeC x c e)
   exact ⟨_,q,hd⟩
  ·exact ⟨o,keep c o (I.cne x c e) hc nch ho (I.freeC x c e),hd⟩
 refine ⟨I.ok,I.os,hg,⟨fun b o e n hb hx=>?_,fun b o e n hb hx=>?_,fun b o e n hx=>?_,fun b o e hx=>?_,fun b xs e=>tups b xs (I.base.tups b xs e),fun b o xs e=>frzs b o xs (I.base.frzs b o xs e),fun b ps e=>?_⟩,?_,fun x c e=>?_,?_,fun x c e=>?_,fun p hp=>?_,hok,I.len⟩
 ·exact keep b o (neL b o e) hb (neC b o e hx) (I.base.keep b o e n hb hx) (I.base.free b o e n hx)
 ·obtain ⟨sl,e1⟩:=I.base.slot b o e n hb hx
  obtain ⟨sl',e2⟩:=slot b _ (neL b o e) hb (neC b o e hx) e1 (I.base.free b o e n hx)
  exact ⟨sl',e2⟩
 ·obtain ⟨o',e1⟩:=I.base.there b o e hx
  exact free b o' (neC b o e hx) e1 (I.base.free b o e n hx)
 ·obtain ⟨o',e1⟩:=I.base.there b o e hx
  exact there b o' (neC b o e hx) e1
 ·obtain ⟨m1,e1⟩:=I.base.tbls b ps e
  obtain ⟨m2,e2⟩:=tbls b _ e1
  exact ⟨m1++m2,by rw [e2,Array.append_assoc]⟩
 ·obtain ⟨m,hn,hl⟩:=I.loc
  refine ⟨m,ns m hn,fun i x v e1 e2 e3=>?_⟩
  obtain ⟨u,r,l⟩:=hl i x v e1 e2 e3
  refine ⟨u,r,?_⟩
  rcases l with l | ⟨k,c,e,z⟩
  ·exact .inl l
  ·exact .inr ⟨k,c,e,cellK x c e _ z⟩
 ·obtain ⟨v,z⟩:=I.cell x c e
  exact ⟨v,cellK x c e v z⟩
 ·obtain ⟨m,⟨o,_,_,ho,_⟩,_⟩:=I.loc
  exact free _ o (fun z=>(hch _ z).2.1 rfl) ho I.free
 ·obtain ⟨v,o,ho,hd⟩:=I.cell x c e
  exact free c o (fun z=>(hch c z).2.2.1 x c e rfl) ho (I.freeC x c e)
 ·obtain ⟨e,n,ne,nf,d⟩:=I.pin p hp
  have nch:p.1∉ch:=fun z=>(hch p.1 z).2.2.2 p hp rfl
  exact ⟨keep p.1 p.2 ne nf nch e n,free p.1 p.2 nch e n,ne,nf,d⟩
theorem Inv.un {t':Nat} (I:Inv X pins σ H s) (u:Un X.fs [] H H' s.heap h') (hok:HOk X.prog X.w H' h'):Inv X pins σ H' {s with heap:=h',toks:=t'}:=by
 obtain ⟨m,⟨o,es,ep,ho,r⟩,_⟩:=id I.loc
 obtain ⟨sl,hL⟩:=u.any ho I.free (by simp)
 exact I.step (g':=s.gens) (d':=s.drawn) (ch:=[]) (fun _ z=>nomatch z) (fun b o _ hb _ e n=>u.keep b o e n hb (by simp)) (fun b o _ hb _ e n=>u.slot b o e n hb (by simp)) (fun b o _ e n=>u.free b o e n (by simp)) (fun b o _ e=>u.there b o e (by simp)) u.tups u.frzs u.tbls (fun m' hm=>by
  obtain ⟨o',es',ep',ho',r'⟩:=hm
  rw [ho] at ho';cases ho'
  exact ⟨_,es',ep',hL,r'⟩) hok I.bare
theorem Inv.call {g':Array GenState} {t':Nat} {d':Drawn} {ch:List Addr} (I:Inv X pins σ H s) (u:Un (frs X.stack) ch H H' s.heap h') (hok:HOk X.prog X.w H' h') (hg:AllBare g')
  (hch:∀b∈ch,(b∈X.ex∨X.s₀.heap.objs.size≤b)∧b≠X.env.locals∧(∀x c,X.env.cells.lookup x=some c→c≠b)∧∀p∈X.pn++pins,p.1≠b):
  Inv X pins σ H' {s with heap:=h',gens:=g',drawn:=d',toks:=t'}:=by
 obtain ⟨m,⟨o,es,ep,ho,r⟩,_⟩:=id I.loc
 obtain ⟨sl,hL⟩:=u.any ho I.free fun z=>(hch _ z).2.1 rfl
 exact I.step (ch:=ch) hch (fun b o hL hb hc e n=>u.keep b o e n (fun z=>(List.mem_cons.mp (I.stkSub b z)).elim hL hb) hc) (fun b o _ _ hc e n=>u.any e n hc) (fun b o hc e n=>u.free b o e n hc) (fun b o hc e=>u.there b o e hc) u.tups u.frzs u.tbls (fun m' hm=>by
  obtain ⟨o',es',ep',ho',r'⟩:=hm
  rw [ho] at ho';cases ho'
  exact ⟨_,es',ep',hL,r'⟩) hok hg
theorem Inv.turned {t':Nat} {it:Addr} (I:Inv X pins σ H s) (k:∀b o,b≠it→s.heap.get? b=some o→h'.get? b=some o) (hn:H it=none) (hL:it≠X.env.locals)
  (h1:it∈X.ex∨X.s₀.heap.objs.size≤it) (h2:∀x c,X.env.cells.lookup x=some c→c≠it) (h3:∀p∈X.pn++pins,p.1≠it):Inv X pins σ H {s with heap:=h',toks:=t'}:=by
 have nit:∀b u,H b=some u→b≠it:=fun b u e z=>by rw [z,hn] at e;cases e
 refine I.step (g':=s.gens) (d':=s.drawn) (ch:=[it]) (fun b hb=>?_) (fun b o _ _ hc e _=>k b o (fun z=>hc (by simp [z])) e) (fun b o _ _ hc e _=>⟨o.slots,k b o (fun z=>hc (by simp [z])) e⟩) (fun _ _ _ _ n=>n)
  (fun b o hc e=>⟨o,k b o (fun z=>hc (by simp [z])) e⟩) (fun _ _ e=>e) (fun _ _ _ e=>e) (fun b ps e=>⟨#[],by rw [e];simp⟩) (fun m hm=>?_) (fun b u e=>?_) I.bare
 ·have e:b=it:=by simpa using hb
  subst e
  exact ⟨h1,hL,h2,h3⟩
 ·obtain ⟨o,es,ep,ho,r⟩:=hm
  exact ⟨o,es,ep,k _ o (Ne.symm hL) ho,r⟩
 ·refine (I.hok b u e).stay (fun c v hc q=>k c v ?_ q) (fun _ q=>q) fun _ _ q=>q
  rcases hc with z | z
  ·rw [z];exact nit b u e
  ·exact nit c _ z
theorem Inv.tok (I:Inv X pins σ H s) (t:Nat):Inv X pins σ H {s with toks:=t}:=I.un (h':=s.heap) (t':=t) Un.refl I.hok
theorem Inv.kept {t':Nat} (I:Inv X pins σ H s) (k:∀b u,s.heap.get? b=some u→h'.get? b=some u):Inv X pins σ H {s with heap:=h',toks:=t'}:=I.un (Un.kept k) (I.hok.kept k)
theorem Inv.laid {a:Addr} {o:HO} {t':Nat} (I:Inv X pins σ H s) (k:∀b u,s.heap.get? b=some u→h'.get? b=some u) (hp:s.heap.objs.size≤a) (new:ObjOk X.prog X.w (upd H a o) h' a o):
  Inv X pins σ (upd H a o) {s with heap:=h',toks:=t'}:=I.un (Un.laid k hp (I.hok.fresh hp)) (I.hok.laid k hp new)
theorem Inv.write {x e:Addr} {o:HO} {t':Nat} (I:Inv X pins σ H s) (mu:Mut (H x)) (he:e=x∨H e=some (.own x)) (k:∀b u,b≠e→s.heap.get? b=some u→h'.get? b=some u) (heo:∃u,h'.get? e=some u)
  (new:ObjOk X.prog X.w (upd H x o) h' x o):Inv X pins σ (upd H x o) {s with heap:=h',toks:=t'}:=I.un (Un.write mu he k heo) (I.hok.write mu he k heo new)
theorem Inv.weak {σ':List (Option V)} (I:Inv X pins σ H s) (hl:σ'.length=σ.length) (w:∀(i:Nat) v,σ'[i]?=some (some v)→σ[i]?=some (some v)):Inv X pins σ' H s:=
 ⟨I.ok,I.os,I.bare,I.base,let ⟨m,hn,hl'⟩:=I.loc;⟨m,hn,fun i x v e1 e2 e3=>hl' i x v e1 (w i v e2) e3⟩,I.cell,I.free,I.freeC,I.pin,I.hok,hl.trans I.len⟩
theorem Inv.pins_of {pins':List (Addr×Obj)} (I:Inv X pins σ H s) (h:∀p∈pins',s.heap.get? p.1=some p.2∧H p.1=none∧p.1≠X.env.locals∧p.1∉X.fs∧∀v,p.2.data≠.cell v):Inv X pins' σ H s:=
 ⟨I.ok,I.os,I.bare,I.base,I.loc,I.cell,I.free,I.freeC,fun p hp=>(List.mem_append.mp hp).elim (fun z=>I.pin p (List.mem_append_left _ z)) (h p),I.hok,I.len⟩
theorem N9 {N:List Str} (hN:N.Nodup) {i j:Nat} {x:Str} (a:N[i]?=some x) (b:N[j]?=some x):i=j:=by
 obtain ⟨h1,e1⟩:=List.getElem?_eq_some_iff.mp a
 obtain ⟨h2,e2⟩:=List.getElem?_eq_some_iff.mp b
 exact (List.getElem_inj hN).mp (e1.trans e2.symm)
theorem Qt {M:Model} {A:Around} {E:Value→Shared→Prop} {i:Nat} {x:Str} {v:V} {u:Value} {Q:Unit→Shared→Prop} (I:Inv X pins σ H s) (hN:X.N.Nodup) (hi:X.N[i]?=some x) (hx:Loc X.env.scope x) (r:RelV v u)
  (h:∀s',Inv X pins (σ.set i (some v)) H s'→(∃a,Heap.SameBut a s.heap s'.heap∧(a=X.env.locals∨X.env.cells.lookup x=some a))→Q () s') (hf:X.fn x=true∨X.env.scope.names.lookup x=some .local:=by first | exact .inl rfl | exact .inr rfl | assumption):wpAny M A (storeName X.env x u) Q E s:=by
 obtain ⟨m,hn,hl⟩:=id I.loc
 have hcls:(X.env.scope.kind == .class || (X.env.scope.kind == .module && X.env.locals != X.env.globals))=false:=by rw [I.ok.kind];rfl
 have hiσ:i<σ.length:=by rw [I.len];exact (List.getElem?_eq_some_iff.mp hi).1
 have cne:=I.cne
 have tracked:∀{a:Addr} {h':Heap},(∃o,s.heap.get? a=some o∧H a=none)→Heap.SameBut a s.heap h'→HOk X.prog X.w H h':=fun {a h'} ha hs b ob e=>by
  obtain ⟨_,_,hfree⟩:=ha
  refine (I.hok b ob e).stay (fun c w' hc q=>(hs.2 c ?_).trans q) (fun _ q=>q) fun _ _ q=>q
  rintro rfl
  rcases hc with rfl | hc
  ·rw [hfree] at e;cases e
  ·rw [hfree] at hc;cases hc
 rcases hx with hk | hk
 ·refine wpAny_storeName_local hk hn (fun h' hn' hs=>?_) hcls
  obtain ⟨oL,_,_,hoL,_⟩:=id hn
  refine h _ ⟨I.ok,I.os,I.bare,⟨fun b o e n hb hx=>?_,fun b o e n hb hx=>?_,I.base.free,fun b o e hx=>?_,I.base.tups,I.base.frzs,I.base.tbls⟩,⟨_,hn',fun j y v' e1 e2 e3=>?_⟩,fun y c e=>?_,I.free,I.freeC,fun p hp=>?_,tracked ⟨oL,hoL,I.free⟩ hs,by simpa using I.len⟩ ⟨_,hs,.inl rfl⟩
  ·exact (hs.2 b (Nat.ne_of_lt (Nat.lt_of_lt_of_le (Heap.lt_size e) I.ok.above))).trans (I.base.keep b o e n hb hx)
  ·obtain ⟨sl,e1⟩:=I.base.slot b o e n hb hx
   exact ⟨sl,(hs.2 b (Nat.ne_of_lt (Nat.lt_of_lt_of_le (Heap.lt_size e) I.ok.above))).trans e1⟩
  ·obtain ⟨o',e1⟩:=I.base.there b o e hx
   exact ⟨o',(hs.2 b (Nat.ne_of_lt (Nat.lt_of_lt_of_le (Heap.lt_size e) I.ok.above))).trans e1⟩
  ·by_cases hj:j=i
   ·subst hj
    rw [hi] at e1;cases e1
    rw [List.getElem?_set_self hiσ] at e2
    cases e2
    exact ⟨u,r,.inl ⟨hk,by simp⟩⟩
   ·rw [List.getElem?_set_ne (Ne.symm hj)] at e2
    obtain ⟨u',r',q⟩:=hl j y v' e1 e2 e3
    refine ⟨u',r',?_⟩
    rcases q with ⟨k,e⟩ | ⟨k,c,e,z⟩
    ·refine .inl ⟨k,?_⟩
     have:y≠x:=fun e=>hj (N9 hN e1 (e ▸ hi))
     simp [this,e]
    ·exact .inr ⟨k,c,e,z.sameBut hs (cne y c e)⟩
  ·obtain ⟨w',z⟩:=I.cell y c e
   exact ⟨w',z.sameBut hs (cne y c e)⟩
  ·obtain ⟨e,n,ne,nf,d⟩:=I.pin p hp
   exact ⟨(hs.2 p.1 ne).trans e,n,ne,nf,d⟩
 ·have hfn:X.fn x=true:=by
   rcases hf with z | z
   ·exact z
   ·rw [z] at hk;cases hk
  obtain ⟨c,hc⟩:=I.ok.has x (.inl hk)
  obtain ⟨w',z⟩:=I.cell x c hc
  refine wpAny_storeName_cell I.ok.kind hk hc z (fun h' hc' hs=>?_)
  obtain ⟨oc,hoc,hocd⟩:=id z
  refine h {s with heap:=h'} ⟨I.ok,I.os,I.bare,⟨fun b o e n hb hx=>?_,fun b o e n hb hx=>?_,I.base.free,fun b o e hx=>?_,I.base.tups,I.base.frzs,I.base.tbls⟩,⟨m,hn.sameBut hs (Ne.symm (cne x c hc)),fun j y v' e1 e2 e3=>?_⟩,fun y c' e=>?_,I.free,I.freeC,fun p hp=>?_,tracked ⟨oc,hoc,I.freeC x c hc⟩ hs,by simpa using I.len⟩ ⟨c,hs,.inr hc⟩
  ·exact (hs.2 b (Nat.ne_of_lt (Nat.lt_of_lt_of_le (Heap.lt_size e) (I.ok.cab x c hfn hc)))).trans (I.base.keep b o e n hb hx)
  ·obtain ⟨sl,e1⟩:=I.base.slot b o e n hb hx
   exact ⟨sl,(hs.2 b (Nat.ne_of_lt (Nat.lt_of_lt_of_le (Heap.lt_size e) (I.ok.cab x c hfn hc)))).trans e1⟩
  ·obtain ⟨o',e1⟩:=I.base.there b o e hx
   exact ⟨o',(hs.2 b (Nat.ne_of_lt (Nat.lt_of_lt_of_le (Heap.lt_size e) (I.ok.cab x c hfn hc)))).trans e1⟩
  ·by_cases hj:j=i
   ·subst hj
    rw [hi] at e1;cases e1
    rw [List.getElem?_set_self hiσ] at e2
    cases e2
    exact ⟨u,r,.inr ⟨.inl hk,c,hc,hc'⟩⟩
   ·rw [List.getElem?_set_ne (Ne.symm hj)] at e2
    obtain ⟨u',r',q⟩:=hl j y v' e1 e2 e3
    refine ⟨u',r',?_⟩
    rcases q with q | ⟨k,c',e,z'⟩
    ·exact .inl q
    ·refine .inr ⟨k,c',e,z'.sameBut hs ?_⟩
     rintro rfl
     exact hj (N9 hN e1 (I.ok.inj _ _ _ e hc ▸ hi))
  ·by_cases hcc:c'=c
   ·subst hcc;exact ⟨_,hc'⟩
   ·obtain ⟨w2,z2⟩:=I.cell y c' e
    exact ⟨w2,z2.sameBut hs hcc⟩
  ·obtain ⟨e,n,ne,nf,d⟩:=I.pin p hp
   refine ⟨(hs.2 p.1 ?_).trans e,n,ne,nf,d⟩
   intro q
   rw [q,hoc] at e
   have q':oc=p.2:=Option.some.inj e
   exact d w' (by rw [←q'];exact hocd)
theorem Ot {M:Model} {A:Around} {E:Value→Shared→Prop} {i:Nat} {x:Str} {v:V} {u:Value} {Q:Unit→Shared→Prop} (I:Inv X pins σ H s) (hN:X.N.Nodup) (hi:X.N[i]?=some x) (hx:Loc X.env.scope x) (r:RelV v u)
  (h:∀s',Inv X pins (σ.set i (some v)) H s'→Q () s') (hf:X.fn x=true∨X.env.scope.names.lookup x=some .local:=by first | exact .inl rfl | exact .inr rfl | assumption):wpAny M A (storeName X.env x u) Q E s:=
 Qt I hN hi hx r (fun s' I' _=>h s' I') hf
theorem Inv.call' {s':Shared} {ch:List Addr} (I:Inv X pins σ H s) (ho:s'.os=s.os) (u:Un (frs X.stack) ch H H' s.heap s'.heap) (hok:HOk X.prog X.w H' s'.heap) (hg:AllBare s'.gens)
  (hch:∀b∈ch,(b∈X.ex∨X.s₀.heap.objs.size≤b)∧b≠X.env.locals∧(∀x c,X.env.cells.lookup x=some c→c≠b)∧∀p∈X.pn++pins,p.1≠b):Inv X pins σ H' s':=by
 obtain ⟨h',g',d',t',o'⟩:=s'
 have e:o'=s.os:=ho
 subst e
 exact I.call (g':=g') (t':=t') (d':=d') u hok hg hch
end
abbrev XK:=Value→Option Addr→Hp→Prop
abbrev St:=List (Option V)
abbrev VK:=V→Hp→Prop
abbrev TE:=St→Hp→VK→Prop
abbrev TT:=St→Hp→(Bool→Hp→Prop)→Prop
abbrev TA:=St→Hp→(List V→Hp→Prop)→Prop
structure Ends where
 nx:St→Hp→Prop
 rt:VK
 bk:St→Hp→Prop:=fun _ _=>False
 ct:St→Hp→Prop:=fun _ _=>False
abbrev TS:=Ends→St→Hp→Prop
def EP (X:Cx) (pins:List (Addr×Obj)) (σ:St) (Q:VK) (u:Value) (s':Shared):Prop:=∃v H',Inv X pins σ H' s'∧RelV v u∧Q v H'
def TP (X:Cx) (pins:List (Addr×Obj)) (σ:St) (Q:Bool→Hp→Prop) (b:Bool) (s':Shared):Prop:=∃H',Inv X pins σ H' s'∧Q b H'
def AP (X:Cx) (pins:List (Addr×Obj)) (σ:St) (Q:List V→Hp→Prop) (us:List Value) (s':Shared):Prop:=∃vs H',Inv X pins σ H' s'∧Vals vs us∧Q vs H'
def SP (X:Cx) (pins:List (Addr×Obj)) (D:Ends) (f:Flow) (s':Shared):Prop:=
 match f with
 | .next=>∃σ' H',Inv X pins σ' H' s'∧D.nx σ' H'
 | .brk=>∃σ' H',Inv X pins σ' H' s'∧D.bk σ' H'
 | .cont=>∃σ' H',Inv X pins σ' H' s'∧D.ct σ' H'
 | .ret u=>∃v σ' H',Inv X pins σ' H' s'∧RelV v u∧D.rt v H'
def PE (X:Cx) (e:Expr) (t:TE):Prop:=
 ∀(pins:List (Addr×Obj)) (s:Shared) (σ:St) (H:Hp) (Q:VK),Inv X pins σ H s→t σ H Q→wpAny (model X.prog X.w) X.A (eval e X.env) (EP X pins σ Q) X.xe s
def PT (X:Cx) (e:Expr) (t:TT):Prop:=
 ∀(pins:List (Addr×Obj)) (s:Shared) (σ:St) (H:Hp) (Q:Bool→Hp→Prop),Inv X pins σ H s→t σ H Q→wpAny (model X.prog X.w) X.A (isTrue e X.env (eval e X.env)) (TP X pins σ Q) X.xe s
def PW (X:Cx) (e:Expr) (t:TT):Prop:=
 ∀(whole:Sem Value) (pins:List (Addr×Obj)) (s:Shared) (σ:St) (H:Hp) (Q:Bool→Hp→Prop),Inv X pins σ H s→t σ H Q→wpAny (model X.prog X.w) X.A (isTrue e X.env whole) (TP X pins σ Q) X.xe s
theorem PW.pt {X:Cx} {e:Expr} {t:TT} (h:PW X e t):PT X e t:=h _
def PA (X:Cx) (es:List Expr) (t:TA):Prop:=
 ∀(pos:Pos) (pins:List (Addr×Obj)) (s:Shared) (σ:St) (H:Hp) (Q:List V→Hp→Prop),Inv X pins σ H s→t σ H Q→wpAny (model X.prog X.w) X.A (spliced (backTo pos (starEach es X.env))) (AP X pins σ Q) X.xe s
def PS (X:Cx) (st:Stmt) (t:TS):Prop:=
 ∀(pins:List (Addr×Obj)) (s:Shared) (σ:St) (H:Hp) (D:Ends),Inv X pins σ H s→t D σ H→wpAny (model X.prog X.w) X.A (exec st X.env) (SP X pins D) X.xe s
def PSs (X:Cx) (st:List Stmt) (t:TS):Prop:=
 ∀(pins:List (Addr×Obj)) (s:Shared) (σ:St) (H:Hp) (D:Ends),Inv X pins σ H s→t D σ H→wpAny (model X.prog X.w) X.A (execs st X.env) (SP X pins D) X.xe s
theorem thn {α:Type} {t:Sem α} {Q Q':α→Shared→Prop} {M:Model} {A:Around} {E:Value→Shared→Prop} {s:Shared} (h:wpAny M A t Q E s) (hQ:∀a s,Q a s→Q' a s):wpAny M A t Q' E s:=wpAny_mono h hQ fun _ _ x=>x
section
variable {X:Cx}
def va (i:Nat):TE:=fun σ H Q=>∃v,σ[i]?=some (some v)∧Q v H
def tC (v:V):TE:=fun _ H Q=>Q v H
theorem mQ {i:Nat} {x:Str} {pos:Pos} (hN:X.N[i]?=some x) (hv:Vis X.env.scope x) (hd:(x == ("__debug__":Str))=false:=by decide) (hcd:(x == ("__classdict__":Str))=false:=by decide):PE X (.Name x pos) (va i):=by
 intro pins s σ H Q I h
 obtain ⟨v,e,h⟩:=h
 obtain ⟨m,hn,hl⟩:=I.loc
 obtain ⟨u,r,l⟩:=hl i x v hN e hv
 have fin:EP X pins σ Q u s:=⟨v,H,I,r,h⟩
 rcases l with ⟨hk,hm⟩ | ⟨hk,c,hc,hcell⟩
 ·exact wpAny_Name (wpAny_loadName_local I.ok.kind hk hn hm fin) hd
 ·rcases hk with hk | hk
  ·exact wpAny_Name (wpAny_loadName_cell I.ok.kind hk hc hcell fin) hd
  ·exact wpAny_Name (wpAny_loadName_free I.ok.kind hk hc hcell fin hcd) hd
theorem Z3 {i j pos}:PE X (.Constant (.int i) j pos) (tC (.int i)):=fun _ _ _ H _ I h=>wpAny_Constant_int ⟨.int i,H,I.tok _,⟨_,rfl⟩,h⟩
theorem Xf {b j pos}:PE X (.Constant (.bool b) j pos) (tC (.bl b)):=fun _ _ _ H _ I h=>Constant_bool ⟨.bl b,H,I,rfl,h⟩
theorem S5 {j pos}:PE X (.Constant .none j pos) (tC .non):=fun _ _ _ H _ I h=>Constant_none ⟨.non,H,I,rfl,h⟩
theorem Py {x j pos}:PE X (.Constant (.str x) j pos) (tC (.str x)):=fun _ _ _ H _ I h=>Calls.Constant_str ⟨.str x,H,I.tok _,⟨_,rfl⟩,h⟩
def Gl (X:Cx) (x:Str):Prop:=X.env.kindOf x=some .globalImplicit
theorem O6 {E:Value→Shared→Prop} {pins:List (Addr×Obj)} {s:Shared} {σ:St} {H:Hp} {x:Str} {u:Value} {pos:Pos} {Q:Value→Shared→Prop} (I:Inv X pins σ H s) (hg:Gl X x) (hm:X.mg x=some u) (h:Q u s)
  (hd:(x == ("__debug__":Str))=false:=by decide):wpAny (model X.prog X.w) X.A (eval (.Name x pos) X.env) Q E s:=
 Calls.Name_function_global I.ok.kind hg (Calls.loadGlobal_global (by rw [I.ok.glob];exact I.mod.glob.keeps I.bk) hm h) hd
theorem Q0 {E:Value→Shared→Prop} {pins:List (Addr×Obj)} {s:Shared} {σ:St} {H:Hp} {x:Str} {u:Value} {pos:Pos} {Q:Value→Shared→Prop} (I:Inv X pins σ H s) (hg:Gl X x) (hm:X.mg x=none) (hv:bootBuiltins x=some u) (h:Q u s)
  (hn:x≠"__name__":=by decide) (hd:(x == ("__debug__":Str))=false:=by decide):wpAny (model X.prog X.w) X.A (eval (.Name x pos) X.env) Q E s:=by
 obtain ⟨mb,h1,h2⟩:=I.mod.blt
 exact Calls.Name_function_global I.ok.kind hg (Calls.loadGlobal_builtin (by rw [I.ok.glob];exact I.mod.glob.keeps I.bk) hm (by rw [I.ok.blt];exact h1.keeps I.bk) ((h2 x hn).trans hv) h) hd
theorem pE {x:Str} {v:V} {u:Value} {pos:Pos} (hg:Gl X x) (hm:X.mg x=some u) (r:RelV v u) (hd:(x == ("__debug__":Str))=false:=by decide):PE X (.Name x pos) (tC v):=
 fun _ _ _ H _ I h=>O6 I hg hm ⟨v,H,I,r,h⟩ hd
theorem W7 {x:Str} {v:V} {u:Value} {pos:Pos} (hg:Gl X x) (hm:X.mg x=none) (hv:bootBuiltins x=some u) (r:RelV v u) (hn:x≠"__name__":=by decide) (hd:(x == ("__debug__":Str))=false:=by decide):PE X (.Name x pos) (tC v):=
 fun _ _ _ H _ I h=>Q0 I hg hm hv ⟨v,H,I,r,h⟩ hn hd
variable {a b:Expr} {ta tb:TE} {pos:Pos}
def tB (t:TE):TT:=fun σ H Q=>t σ H fun x H1=>∃c,x=.bl c∧Q c H1
theorem X3 {e:Expr} {t:TE} (h:PE X e t) (he:∀whole,isTrue e X.env whole=(do let v ←whole;standAt e.pos;holding [v] (truthy v)):=by intro _;rfl):PT X e (tB t):=by
 intro pins s σ H Q I hw
 refine isTrue_plain (thn (h pins s σ H _ I hw) fun v s1 ⟨x,H1,I1,r1,q1⟩=>?_) (he _)
 obtain ⟨d,rfl,q⟩:=q1
 cases r1
 exact wpAny_truthy_bool ⟨H1,I1,q⟩
variable {tA tB':TT} {rest:List Expr}
def tAnd (t u:TT):TT:=fun σ H Q=>t σ H fun c H1=>if c=true then u σ H1 Q else Q false H1
def tOr (t u:TT):TT:=fun σ H Q=>t σ H fun c H1=>if c=true then Q true H1 else u σ H1 Q
def tNot (t:TT):TT:=fun σ H Q=>t σ H fun c H1=>Q (!c) H1
theorem T8 (ha:PT X a tA):PW X (.BoolOp .And [a] pos) tA:=by
 intro wh pins s σ H Q I h
 refine isTrue_and (thn (ha pins s σ H Q I h) fun c s1 e=>?_)
 cases c with
 | true=>exact isTrue_and_nil e
 | false=>exact e
theorem Wg (ha:PT X a tA):PW X (.BoolOp .Or [a] pos) tA:=by
 intro wh pins s σ H Q I h
 refine isTrue_or (thn (ha pins s σ H Q I h) fun c s1 e=>?_)
 cases c with
 | false=>exact isTrue_or_nil e
 | true=>exact e
theorem Rg (ha:PT X a tA) (hb:PW X (.BoolOp .And (b::rest) pos) tB'):PW X (.BoolOp .And (a::b::rest) pos) (tAnd tA tB'):=by
 intro wh pins s σ H Q I h
 refine isTrue_and (thn (ha pins s σ H _ I h) fun c s1 hpat=>?_)
 obtain ⟨H1,I1,q1⟩:=hpat
 cases c with
 | true=>exact hb wh pins s1 σ H1 Q I1 q1
 | false=>exact ⟨H1,I1,q1⟩
theorem W4 (ha:PT X a tA) (hb:PW X (.BoolOp .Or (b::rest) pos) tB'):PW X (.BoolOp .Or (a::b::rest) pos) (tOr tA tB'):=by
 intro wh pins s σ H Q I h
 refine isTrue_or (thn (ha pins s σ H _ I h) fun c s1 hpat=>?_)
 obtain ⟨H1,I1,q1⟩:=hpat
 cases c with
 | true=>exact ⟨H1,I1,q1⟩
 | false=>exact hb wh pins s1 σ H1 Q I1 q1
theorem X4 (ha:PT X a tA):PT X (.UnaryOp .Not a pos) (tNot tA):=by
 intro pins s σ H Q I h
 exact isTrue_not (ha pins s σ H (fun c H1=>Q (!c) H1) I h)
def vv (ta tb:TE):TE:=fun σ H Q=>ta σ H fun x H1=>∃c,x=.bl c∧if c=true then tb σ H1 Q else Q (.bl false) H1
def ux (ta:TE):TE:=fun σ H Q=>ta σ H fun x H1=>∃c,x=.bl c∧Q (.bl (!c)) H1
theorem S4 {op} {t:TE} (h:PE X a t):PE X (.BoolOp op [a] pos) t:=fun pins s σ H Q I hw=>BoolOp_one (h pins s σ H Q I hw)
theorem S6 (ha:PE X a ta) (hb:PE X (.BoolOp .And (b::rest) pos) tb):PE X (.BoolOp .And (a::b::rest) pos) (vv ta tb):=by
 intro pins s σ H Q I h
 refine BoolOp_and (thn (ha pins s σ H _ I h) fun v s1 hpat=>?_)
 obtain ⟨x,H1,I1,r1,q1⟩:=hpat
 obtain ⟨c,rfl,q1⟩:=q1
 cases r1
 refine wpAny_truthy_bool ?_
 cases c with
 | true=>exact hb pins s1 σ H1 Q I1 q1
 | false=>exact ⟨.bl false,H1,I1,rfl,q1⟩
theorem uc (ha:PE X a ta):PE X (.UnaryOp .Not a pos) (ux ta):=by
 intro pins s σ H Q I h
 refine UnaryOp_ (thn (ha pins s σ H _ I h) fun v s1 hpat=>?_)
 obtain ⟨x,H1,I1,r1,q1⟩:=hpat
 obtain ⟨c,rfl,q1⟩:=q1
 cases r1
 exact not_of (wpAny_truthy_bool ⟨.bl (!c),H1,I1,rfl,q1⟩)
end
def SqL (K:W.Frag) (H:Hp) (a:Addr) (xs:List V):Prop:=
 Rd H a (.lst xs)∨
  ∃(o:Obj) (its:Array Value) (n:Nat),K.lookup a=some o∧o.cls=.type "list"∧o.dict=none∧o.data=.seq its n∧its.size≤sizeLine∧Vals xs its.toList
def SqT (K:W.Frag) (H:Hp) (a:Addr) (xs:List V):Prop:=
 Rd H a (.tup xs)∨
  ∃(o:Obj) (its:Array Value) (n:Nat),K.lookup a=some o∧o.cls=.type "tuple"∧o.data=.seq its n∧its.size≤sizeLine∧Vals xs its.toList
def absV:Value→Option V
 | .none=>some .non
 | .bool b=>some (.bl b)
 | .int i _=>some (.int i)
 | .str x _=>some (.str x)
 | .bytes b _=>some (.byt b)
 | .float b _=>some (.flt b)
 | .ref a=>some (.ref a)
 | .type n=>some (.ty n)
 | _=>none
theorem RelV.abs {x:V} {u:Value} (r:RelV x u):absV u=some x:=by
 cases x with
 | non=>cases r;rfl
 | bl _=>cases r;rfl
 | int _=>obtain ⟨t,rfl⟩:=r;rfl
 | str _=>obtain ⟨t,rfl⟩:=r;rfl
 | byt _=>obtain ⟨t,rfl⟩:=r;rfl
 | flt _=>obtain ⟨t,rfl⟩:=r;rfl
 | ref _=>cases r;rfl
 | ty _=>cases r;rfl
theorem RelV.inj {x y:V} {u:Value} (r:RelV x u) (q:RelV y u):x=y:=Option.some.inj (r.abs.symm.trans q.abs)
theorem Vals.inj {xs ys:List V} {us:List Value} (h:Vals xs us) (g:Vals ys us):xs=ys:=by
 induction h generalizing ys with
 | nil=>cases g;rfl
 | cons r t ih=>
  cases g with
  | cons r' t'=>rw [r.inj r',ih t']
section
variable {X:Cx} {pins:List (Addr×Obj)} {σ:St} {H:Hp} {s:Shared} {a:Addr} {xs ys:List V}
theorem SqL.of {K:W.Frag} (h:H a=some (.lst xs)):SqL K H a xs:=.inl (.inl h)
theorem SqT.of {K:W.Frag} (h:H a=some (.tup xs)):SqT K H a xs:=.inl (.inl h)
theorem Inv.list (I:Inv X pins σ H s) (h:SqL X.K H a xs):∃its:List Value,Vals xs its∧PlainL s.heap a its.toArray∧xs.length≤sizeLine:=by
 rcases h with h | ⟨o,its,n,hk,hc,hd,hs,hz,r⟩
 ·obtain ⟨z,its,n,r,e⟩:=h.ok I.hok
  exact ⟨its,r,⟨_,n,e,rfl,rfl,rfl⟩,z⟩
 ·refine ⟨its.toList,r,⟨o,n,I.kIn a o hk,hc,hd,by simpa using hs⟩,?_⟩
  have e:=r.length
  simp only [Array.length_toList] at e
  omega
theorem Inv.tuple (I:Inv X pins σ H s) (h:SqT X.K H a xs):∃its:List Value,Vals xs its∧IsTup s.heap a its.toArray∧xs.length≤sizeLine:=by
 rcases h with h | ⟨o,its,n,hk,hc,hs,hz,r⟩
 ·obtain ⟨z,its,r,p⟩:=h.ok I.hok
  exact ⟨its,r,p.tup,z⟩
 ·refine ⟨its.toList,r,⟨o,I.kIn a o hk,hc,n,by simpa using hs⟩,?_⟩
  have e:=r.length
  simp only [Array.length_toList] at e
  omega
theorem Inv.list_inj (I:Inv X pins σ H s) (h:SqL X.K H a xs) (h':SqL X.K H a ys):xs=ys:=by
 obtain ⟨its,r,⟨o,n,e,_,_,d⟩,_⟩:=I.list h
 obtain ⟨its',r',⟨o',n',e',_,_,d'⟩,_⟩:=I.list h'
 rw [e] at e';cases e'
 rw [d] at d'
 injection d' with d1 _
 have:its=its':=by simpa using congrArg Array.toList d1
 subst this
 exact r.inj r'
theorem Inv.tuple_inj (I:Inv X pins σ H s) (h:SqT X.K H a xs) (h':SqT X.K H a ys):xs=ys:=by
 obtain ⟨its,r,⟨o,e,_,n,d⟩,_⟩:=I.tuple h
 obtain ⟨its',r',⟨o',e',_,n',d'⟩,_⟩:=I.tuple h'
 rw [e] at e';cases e'
 rw [d] at d'
 injection d' with d1 _
 have:its=its':=by simpa using congrArg Array.toList d1
 subst this
 exact r.inj r'
end
abbrev Cx.wish (X:Cx) (E:Value→Shared→Prop):Cx:={X with xe:=E}
abbrev Cx.nox (X:Cx):Cx:=X.wish fun _ _=>False
theorem Cx.Ok.wish {X:Cx} (ok:X.Ok) (E:Value→Shared→Prop):(X.wish E).Ok:=
 ⟨ok.mod,ok.kind,ok.glob,ok.blt,ok.above,ok.inj,ok.has,ok.cab,ok.hd,ok.frames,ok.stk,ok.exf,ok.bs,ok.bsz,ok.noex,ok.exfs,ok.funs,ok.frf⟩
theorem Cx.Ok.unwish {X:Cx} {E:Value→Shared→Prop} (ok:(X.wish E).Ok):X.Ok:=
 ⟨ok.mod,ok.kind,ok.glob,ok.blt,ok.above,ok.inj,ok.has,ok.cab,ok.hd,ok.frames,ok.stk,ok.exf,ok.bs,ok.bsz,ok.noex,ok.exfs,ok.funs,ok.frf⟩
section
variable {X:Cx} {pins:List (Addr×Obj)} {σ:St} {H:Hp} {s:Shared} {E:Value→Shared→Prop}
theorem Inv.wish (I:Inv X pins σ H s) (E:Value→Shared→Prop):Inv (X.wish E) pins σ H s:=⟨I.ok.wish E,I.os,I.bare,I.base,I.loc,I.cell,I.free,I.freeC,I.pin,I.hok,I.len⟩
theorem Inv.unwish (I:Inv (X.wish E) pins σ H s):Inv X pins σ H s:=⟨I.ok.unwish,I.os,I.bare,I.base,I.loc,I.cell,I.free,I.freeC,I.pin,I.hok,I.len⟩
theorem SP.unwish {D:Ends} {f:Flow} {s':Shared} (h:SP (X.wish E) pins D f s'):SP X pins D f s':=by
 cases f with
 | next=>obtain ⟨σ',H',I,q⟩:=h;exact ⟨σ',H',I.unwish,q⟩
 | brk=>obtain ⟨σ',H',I,q⟩:=h;exact ⟨σ',H',I.unwish,q⟩
 | cont=>obtain ⟨σ',H',I,q⟩:=h;exact ⟨σ',H',I.unwish,q⟩
 | ret u=>obtain ⟨v,σ',H',I,r,q⟩:=h;exact ⟨v,σ',H',I.unwish,r,q⟩
theorem PSs.nox {st:List Stmt} {t:TS} (h:PSs X.nox st t):PSs X st t:=fun pins s σ H D I hw=>
 wpAny_mono (h pins s σ H D (I.wish _) hw) (fun _ _ q=>q.unwish) fun _ _ z=>False.elim z
end
section
variable {X:Cx} {st:Stmt} {rest:List Stmt} {t u:TS} {e:Expr} {te:TE} {pos:Pos}
def vK:TS:=fun D σ H=>D.nx σ H
def vy (t u:TS):TS:=fun D σ H=>t {D with nx:=u D} σ H
theorem Zq:PSs X [] vK:=fun _ _ σ H _ I h=>wpAny_execs_nil ⟨σ,H,I,h⟩
theorem Z2 (h1:PS X st t) (h2:PSs X rest u):PSs X (st::rest) (vy t u):=by
 intro pins s σ H D I h
 refine wpAny_execs_cons (thn (h1 pins s σ H {D with nx:=u D} I h) fun f s1 q=>?_)
 cases f with
 | next=>
  obtain ⟨σ',H',I',q⟩:=q
  exact h2 pins s1 σ' H' D I' q
 | ret v=>exact q
 | brk=>exact q
 | cont=>exact q
theorem Z6 (h1:PS X st t):PSs X [st] t:=by
 intro pins s σ H D I h
 refine wpAny_execs_cons (thn (h1 pins s σ H D I h) fun f s1 q=>?_)
 cases f with
 | next=>exact wpAny_execs_nil q
 | ret v=>exact q
 | brk=>exact q
 | cont=>exact q
theorem Inv.quiet {pins:List (Addr×Obj)} {σ:St} {H:Hp} {s:Shared} (I:Inv X pins σ H s):interactive X.env=false:=by simp [interactive,I.ok.kind]
def vg (te:TE):TS:=fun D σ H=>te σ H fun _ H1=>D.nx σ H1
theorem W5 (he:PE X e te) (hs:swapsWith e none pos.line X.env=pure false:=by rfl):PS X (.Expr e pos) (vg te):=by
 intro pins s σ H D I h
 exact wpAny_Expr_any (thn (he pins s σ H _ I h) fun v s1 ⟨x,H1,I1,r1,q1⟩=>⟨σ,H1,I1,q1⟩) I.quiet hs
def tRet (te:TE):TS:=fun D σ H=>te σ H D.rt
theorem Ze (he:PE X e te):PS X (.Return (some e) pos) (tRet te):=by
 intro pins s σ H D I h
 exact wpAny_Return_some (thn (he pins s σ H _ I h) fun v s1 ⟨x,H1,I1,r1,q1⟩=>⟨x,σ,H1,I1,r1,q1⟩)
def tIfS (c:TT) (t u:TS):TS:=fun D σ H=>c σ H fun b H1=>if b=true then t D σ H1 else u D σ H1
theorem Y7 {c:Expr} {a b:List Stmt} {tc:TT} (hc:PT X c tc) (ha:PSs X a t) (hb:PSs X b u):PS X (.If c a b pos) (tIfS tc t u):=by
 intro pins s σ H D I h
 refine wpAny_If (thn (hc pins s σ H _ I h) fun d s1 hpat=>?_)
 obtain ⟨H1,I1,q1⟩:=hpat
 cases d with
 | true=>exact ha pins s1 σ H1 D I1 q1
 | false=>exact hb pins s1 σ H1 D I1 q1
def tM:TS:=fun _ _ _=>False
theorem N1:PS X st tM:=fun _ _ _ _ _ _ h=>h.elim
end
abbrev TG:=V→St→Hp→(St→Hp→Prop)→Prop
abbrev TGs:=List V→St→Hp→(St→Hp→Prop)→Prop
def PG (X:Cx) (target:Expr) (t:TG):Prop:=
 ∀(pins:List (Addr×Obj)) (s:Shared) (σ:St) (H:Hp) (v:V) (u:Value) (Q:St→Hp→Prop),Inv X pins σ H s→RelV v u→t v σ H Q→
  wpAny (model X.prog X.w) X.A (assign target X.env u) (fun _ s'=>∃σ' H',Inv X pins σ' H' s'∧Q σ' H') X.xe s
def PGs (X:Cx) (ts:List Expr) (t:TGs):Prop:=
 ∀(pins:List (Addr×Obj)) (s:Shared) (σ:St) (H:Hp) (vs:List V) (us:List Value) (Q:St→Hp→Prop),Inv X pins σ H s→Vals vs us→t vs σ H Q→
  wpAny (model X.prog X.w) X.A (assignInOrder ((assignEach ts X.env).map (·.2)) us) (fun _ s'=>∃σ' H',Inv X pins σ' H' s'∧Q σ' H') X.xe s
abbrev sy:=V→V→V→Hp→(Hp→Prop)→Prop
def vC (X:Cx) (t:sy):Prop:=
 ∀(pins:List (Addr×Obj)) (s:Shared) (σ:St) (H:Hp) (o i v:V) (ov iv u:Value) (Q:Hp→Prop),Inv X pins σ H s→RelV o ov→RelV i iv→RelV v u→t o i v H Q→
  wpAny (model X.prog X.w) X.A (setItem ov iv u) (fun _ s'=>∃H',Inv X pins σ H' s'∧Q H') X.xe s
section
variable {X:Cx} {pos:Pos}
def jt (i:Nat):TG:=fun v σ H Q=>Q (σ.set i (some v)) H
theorem Z9 {i:Nat} {x:Str} (hN:X.N.Nodup) (hi:X.N[i]?=some x) (hx:Loc X.env.scope x) (hf:X.fn x=true∨X.env.scope.names.lookup x=some .local:=by first | exact .inl rfl | exact .inr rfl | assumption):PG X (.Name x pos) (jt i):=by
 intro pins s σ H v u Q I r h
 exact wpAny_assign_Name (Ot I hN hi hx r (fun s' I'=>⟨_,H,I',h⟩) hf)
def gNil:TGs:=fun vs σ H Q=>vs=[]∧Q σ H
def ut (t:TG) (u:TGs):TGs:=fun vs σ H Q=>∃v r,vs=v::r∧t v σ H fun σ' H'=>u r σ' H' Q
theorem Zw:PGs X [] gNil:=by
 intro pins s σ H vs us Q I r h
 obtain ⟨e,h⟩:=h
 subst e
 cases r
 exact assignInOrder_nil ⟨σ,H,I,h⟩
theorem Za {e:Expr} {es:List Expr} {t:TG} {u:TGs} (h1:PG X e t) (h2:PGs X es u)
  (hs:(assignEach (e::es) X.env).map (·.2)=assign e X.env::(assignEach es X.env).map (·.2):=by rfl):PGs X (e::es) (ut t u):=by
 intro pins s σ H vs us Q I r h
 obtain ⟨v,vr,e1,h⟩:=h
 subst e1
 cases r with
 | cons r rr=>
  rw [hs]
  refine assignInOrder_cons (thn (h1 pins s σ H _ _ _ I r h) fun _ s1 hpat=>?_)
  obtain ⟨σ1,H1,I1,q1⟩:=hpat
  exact h2 pins s1 σ1 H1 _ _ Q I1 rr q1
def vN (K:W.Frag) (n:Nat) (t:TGs):TG:=fun v σ H Q=>∃a xs,v=.ref a∧SqT K H a xs∧xs.length=n∧t xs σ H Q
theorem Yo {es:List Expr} {k:Nat} {t:TGs} {n:Nat} (hc:X.calm=true) (h:PGs X es t)
  (hn:(assignEach es X.env).length=n:=by rfl) (hst:(assignEach es X.env).findIdx? (·.1)=none:=by rfl):PG X (.Tuple es k pos) (vN X.K n t):=by
 intro pins s σ H v u Q I r hw
 obtain ⟨a,xs,e1,hq,hl,hw⟩:=hw
 subst e1
 cases r
 obtain ⟨its,rv,ht,hz⟩:=I.tuple hq
 refine assign_Tuple_tuple (I.ok.hd hc) ht (by simp [hn,←hl,rv.length]) hst fun h' hx=>?_
 have I1:Inv X pins σ H {s with heap:=h'}:=I.kept (t':=s.toks) fun b o e=>hx b o (Nat.ne_of_lt (Heap.lt_size e)) e
 exact h pins _ σ H xs _ Q I1 (by simpa using rv) hw
def gSub (to ti:TE) (t:sy):TG:=fun v σ H Q=>to σ H fun o H1=>ti σ H1 fun i H2=>t o i v H2 fun H3=>Q σ H3
theorem gL {o i:Expr} {to ti:TE} {t:sy} (ho:PE X o to) (hi:PE X i ti) (hs:vC X t)
  (ha:∀v,assign (.Subscript o i pos) X.env v=(do
   let ov ←holding [v] (eval o X.env)
   let iv ←holding [v,ov] (eval i X.env)
   standAt pos
   holding [v,ov,iv] (setItem ov iv v)
   release [v,ov,iv] []):=by intro _;rfl):PG X (.Subscript o i pos) (gSub to ti t):=by
 intro pins s σ H v u Q I r h
 rw [ha]
 refine wpAny_bind (wpAny_holding (thn (ho pins s σ H _ I h) fun ov s1 hpat=>?_))
 obtain ⟨x,H1,I1,r1,q1⟩:=hpat
 refine wpAny_bind (wpAny_holding (thn (hi pins s1 σ H1 _ I1 q1) fun iv s2 hpat=>?_))
 obtain ⟨y,H2,I2,r2,q2⟩:=hpat
 refine wpAny_bind (wpAny_standAt (wpAny_bind (wpAny_holding (thn (hs pins s2 σ H2 x y v ov iv u _ I2 r1 r2 r q2) fun _ s3 hpat=>?_))))
 obtain ⟨H3,I3,q3⟩:=hpat
 exact wpAny_release ⟨σ,H3,I3,q3⟩
def qw (te:TE) (g:TG):TS:=fun D σ H=>te σ H fun x H1=>g x σ H1 D.nx
theorem Yn {tg e:Expr} {te:TE} {g:TG} (he:PE X e te) (hg:PG X tg g) (hs:swapsWithSole [tg] e pos.line X.env=pure false:=by rfl) (hw:swappedStores [tg] e X.env=pure none:=by rfl)
  (h1:(assignEach [tg] X.env).map (·.2)=[assign tg X.env]:=by rfl):PS X (.Assign [tg] e pos) (qw te g):=by
 intro pins s σ H D I h
 refine wpAny_Assign_stores (thn (he pins s σ H _ I h) fun v s1 ⟨x,H1,I1,r1,q1⟩=>?_) hs hw
 rw [h1]
 exact thn (hg pins s1 σ H1 x v _ I1 r1 q1) fun _ s2 q=>q
theorem Zg {i:Nat} {x:Str} {e:Expr} {te:TE} {pos':Pos} (hN:X.N.Nodup) (hi:X.N[i]?=some x) (hx:Loc X.env.scope x) (he:PE X e te) (hs:swapsWith e (some (.Name x pos')) pos.line X.env=pure false:=by rfl) (hf:X.fn x=true∨X.env.scope.names.lookup x=some .local:=by first | exact .inl rfl | exact .inr rfl | assumption):
  PS X (.Assign [.Name x pos'] e pos) (qw te (jt i)):=by
 intro pins s σ H D I h
 refine wpAny_Assign_Name (thn (he pins s σ H _ I h) fun v s1 hpat=>?_) hs
 obtain ⟨y,H1,I1,r1,q1⟩:=hpat
 exact Ot I1 hN hi hx r1 (fun s2 I2=>⟨_,H1,I2,q1⟩) hf
end
section
variable {X:Cx} {pos:Pos}
def l_ (c:TT) (tb:TS):TS:=fun D σ H=>∃W:Nat→St→Hp→Prop,(∃m,W m σ H)∧∀m σ H,W m σ H→
 c σ H fun b H1=>if b=true then ∃N:St→Hp→Prop,(∀σ' H',N σ' H'→∃m',m'<m∧W m' σ' H')∧tb {D with nx:=N,ct:=N,bk:=D.nx} σ H1 else D.nx σ H1
theorem Ri {c:Expr} {body:List Stmt} {tc:TT} {tb:TS} (hp:PassesOwn (model X.prog X.w) X.A X.env X.xe) (hc:PT X c tc) (hb:PSs X body tb):PS X (.While c body [] pos) (l_ tc tb):=by
 intro pins s σ H D I h
 obtain ⟨W,⟨m0,w0⟩,turn⟩:=h
 refine wpAny_While (codeAny_whileLoop (fun n s'=>∃σ' H',Inv X pins σ' H' s'∧W n σ' H') ?_ m0 ⟨σ,H,I,w0⟩)
 rintro n s1 ⟨σ1,H1,I1,w1⟩
 refine wpAny_passesOwn hp (thn (hc pins s1 σ1 H1 _ I1 (turn n σ1 H1 w1)) fun b s2 hpat=>?_)
 obtain ⟨H2,I2,q2⟩:=hpat
 cases b with
 | true=>
  obtain ⟨N,hN,q2⟩:=q2
  rw [if_pos rfl]
  refine wpAny_passesOwn hp (thn (hb pins s2 σ1 H2 _ I2 q2) fun f s3 q3=>?_)
  cases f with
  | next=>
   obtain ⟨σ3,H3,I3,n3⟩:=q3
   obtain ⟨m',hm,w3⟩:=hN σ3 H3 n3
   exact ⟨m',hm,σ3,H3,I3,w3⟩
  | cont=>
   obtain ⟨σ3,H3,I3,n3⟩:=q3
   obtain ⟨m',hm,w3⟩:=hN σ3 H3 n3
   exact ⟨m',hm,σ3,H3,I3,w3⟩
  | brk=>exact q3
  | ret v=>exact q3
 | false=>
  rw [if_neg Bool.false_ne_true]
  exact wpAny_execs_nil ⟨σ1,H2,I2,q2⟩
end
structure It where
 go:Nat→Hp→Prop
 yld:Nat→Hp→V→Hp→Prop
 stop:Nat→Hp→Prop
def cO (X:Cx) (pins:List (Addr×Obj)) (H:Hp) (b:Addr):Prop:=
 H b=none∧b≠X.env.locals∧b∉X.fs∧(b∈X.ex∨X.s₀.heap.objs.size≤b)∧(∀x c,X.env.cells.lookup x=some c→c≠b)∧∀p∈X.pn++pins,p.1≠b
theorem Inv.fpOk {X:Cx} {pins:List (Addr×Obj)} {σ:St} {H H':Hp} {s:Shared} {b:Addr} (I:Inv X pins σ H s) (hb:s.heap.objs.size≤b) (hn:H' b=none):cO X pins H' b:=by
 refine ⟨hn,Nat.ne_of_gt (Nat.lt_of_lt_of_le I.lt hb),I.nofs hb,.inr (Nat.le_trans I.sz hb),fun x c e z=>?_,fun p hp z=>?_⟩
 ·obtain ⟨v,q⟩:=I.cell x c e
  exact absurd (Nat.lt_of_lt_of_le q.lt (by rw [z];exact hb)) (Nat.lt_irrefl _)
 ·exact absurd (Nat.lt_of_lt_of_le (Heap.lt_size (I.pin p hp).1) (by rw [z];exact hb)) (Nat.lt_irrefl _)
structure Turn (P:Program) (w:World) (K:W.Frag) (tg:Expr) (J:It) (fp:List Addr) (it:Addr) (tn:Nat→Heap→Prop):Prop where
 mem:it∈fp
 obj:∀i h,tn i h→∀b∈fp,∃o,h.get? b=some o∧∀v,o.data≠.cell v
 keep:∀i h h',tn i h→(∀b∈fp,∀o,h.get? b=some o→h'.get? b=some o)→tn i h'
 item:∀(X:Cx),X.prog=P→X.w=w→X.K=K→X.calm=true→∀(i:Nat) (pins:List (Addr×Obj)) (s:Shared) (σ:St) (H:Hp) (E:Value→Shared→Prop),Inv X pins σ H s→(∀b∈fp,cO X pins H b)→tn i s.heap→J.go i H→
  wpAny (model P w) X.A (pyNext (.ref it)) (fun r s1=>∃u,r=some u∧
   wpAny (model P w) X.A (letOwnedTupleGo tg (.ref it) u) (fun _ s2=>∃x H',Inv X pins σ H' s2∧RelV x u∧J.yld i H x H'∧tn (i+1) s2.heap∧∀b∈fp,H' b=none) E s1) E s
 done:∀(X:Cx),X.prog=P→X.w=w→X.K=K→X.calm=true→∀(i:Nat) (pins:List (Addr×Obj)) (s:Shared) (σ:St) (H:Hp) (E:Value→Shared→Prop),Inv X pins σ H s→(∀b∈fp,cO X pins H b)→tn i s.heap→J.stop i H→
  wpAny (model P w) X.A (pyNext (.ref it)) (fun r s1=>r=none∧Inv X pins σ H s1) E s
 self:∀(A:Around) (i:Nat) (s:Shared) (Q:Value→Shared→Prop) (E:Value→Shared→Prop),tn i s.heap→Q (.ref it) s→wpAny (model P w) A (pyIter (.ref it)) Q E s
abbrev TI:=St→Hp→(It→Hp→Prop)→Prop
def PIE (X:Cx) (pins:List (Addr×Obj)) (σ:St) (tg:Expr) (R:It→Hp→Prop) (itv:Value) (s2:Shared):Prop:=
 ∃(it:Addr) (fp:List Addr) (tn:Nat→Heap→Prop) (J:It) (H':Hp),itv=.ref it∧Inv X pins σ H' s2∧Turn X.prog X.w X.K tg J fp it tn∧tn 0 s2.heap∧(∀b∈fp,cO X pins H' b)∧R J H'
def PI (X:Cx) (tg iter:Expr) (wi:TI):Prop:=
 ∀(pins:List (Addr×Obj)) (s:Shared) (σ:St) (H:Hp) (R:It→Hp→Prop),Inv X pins σ H s→wi σ H R→
  wpAny (model X.prog X.w) X.A (eval iter X.env) (fun v s1=>wpAny (model X.prog X.w) X.A (pyIter v) (PIE X pins σ tg R) X.xe s1) X.xe s
theorem jA {M:Model} {A:Around} {E:Value→Shared→Prop} {s:Shared} {tg:Expr} {it:Addr} {u:Value} {o:Obj} {n:String} {vs:Array Value} {Q:Unit→Shared→Prop} (ho:s.heap.get? it=some o) (hc:o.cls=.type n) (hd:o.data=.fields vs)
  (hn:["enumerate","zip","dict_itemiterator","dict_reverseitemiterator","odict_iterator","itertools.zip_longest","itertools.pairwise"].contains n=false) (hQ:Q () s):wpAny M A (letOwnedTupleGo tg (.ref it) u) Q E s:=by
 unfold letOwnedTupleGo
 cases tg <;> first
  | exact wpAny_pure hQ
  | (cases u <;> first
    | exact wpAny_pure hQ
    | (refine wpAny_bind (wpAny_load ho ?_)
       rw [hc,hd]
       show wpAny M A (if (["enumerate","zip","dict_itemiterator","dict_reverseitemiterator","odict_iterator","itertools.zip_longest","itertools.pairwise"].contains n && vs[0]? == some (rawInt _))=true then _ else _) Q E s
       rw [if_neg (by intro h;rw [hn,Bool.false_and] at h;cases h)]
       exact wpAny_pure hQ))
def Itl (K:W.Frag) (a:Addr):It:=
 ⟨fun i H=>∃xs x,SqL K H a xs∧xs[i]?=some x,fun i H x H'=>H'=H∧∀xs,SqL K H a xs→xs[i]?=some x,fun i H=>∃xs,SqL K H a xs∧xs.length≤i⟩
def Itt (K:W.Frag) (a:Addr):It:=
 ⟨fun i H=>∃xs x,SqT K H a xs∧xs[i]?=some x,fun i H x H'=>H'=H∧∀xs,SqT K H a xs→xs[i]?=some x,fun i H=>∃xs,SqT K H a xs∧xs.length≤i⟩
def Itr (lo:Int) (n:Nat):It:=⟨fun i _=>i<n,fun i H x H'=>H'=H∧x=.int (lo+i),fun i _=>n≤i⟩
theorem jF {P:Program} {w:World} {K:W.Frag} {tg:Expr} (a it:Addr):Turn P w K tg (Itl K a) [it] it (fun i h=>h.IsListIter it a i) where
 mem:=by simp
 obj:=fun i h st b hb=>by
  have e:b=it:=by simpa using hb
  subst e
  obtain ⟨o,e,c,d⟩:=st
  exact ⟨o,e,fun v z=>by rw [d] at z;cases z⟩
 keep:=fun i h h' st k=>st.at fun o e=>k it (by simp) o e
 item:=by
  intro X hP hw hK hc i pins s σ H E I hf st hg
  subst hP hw hK
  obtain ⟨xs,x,hq,hx⟩:=hg
  obtain ⟨its,rv,p,hz⟩:=I.list hq
  obtain ⟨u,hu,ru⟩:=rv.get hx
  obtain ⟨f0,f1,f2,f3,f4,f5⟩:=hf it (by simp)
  refine wpAny_pyNext_list_item st p.isList (x:=u) (by simpa using hu) fun h' st' sb=>?_
  have I1:Inv X pins σ H {s with heap:=h'}:=I.turned (t':=s.toks) (fun b o hb e=>(sb.2 b hb).trans e) f0 f1 f3 f4 f5
  obtain ⟨o,e,c,d⟩:=id st'
  exact ⟨u,rfl,jA (s:={s with heap:=h'}) e c d (by decide) ⟨x,H,I1,ru,⟨rfl,fun ys hy=>by rw [I.list_inj hy hq];exact hx⟩,st',fun b hb=>(hf b hb).1⟩⟩
 done:=by
  intro X hP hw hK hc i pins s σ H E I hf st hg
  subst hP hw hK
  obtain ⟨xs,hq,hx⟩:=hg
  obtain ⟨its,rv,p,hz⟩:=I.list hq
  obtain ⟨f0,f1,f2,f3,f4,f5⟩:=hf it (by simp)
  have hl:=rv.length
  exact wpAny_pyNext_list_end (I.ok.hd hc) st p.isList (by simp;omega) fun h' eb=>⟨rfl,I.turned (t':=s.toks) (fun b o hb e=>eb b o hb e) f0 f1 f3 f4 f5⟩
 self:=fun _ _ _ _ _ st h=>wpAny_pyIter_listiter st h
theorem gb {P:Program} {w:World} {K:W.Frag} {tg:Expr} (a it:Addr):Turn P w K tg (Itt K a) [it] it (fun i h=>h.IsTupleIter it a i) where
 mem:=by simp
 obj:=fun i h st b hb=>by
  have e:b=it:=by simpa using hb
  subst e
  obtain ⟨o,e,c,d⟩:=st
  exact ⟨o,e,fun v z=>by rw [d] at z;cases z⟩
 keep:=fun i h h' st k=>st.at fun o e=>k it (by simp) o e
 item:=by
  intro X hP hw hK hc i pins s σ H E I hf st hg
  subst hP hw hK
  obtain ⟨xs,x,hq,hx⟩:=hg
  obtain ⟨its,rv,p,hz⟩:=I.tuple hq
  obtain ⟨u,hu,ru⟩:=rv.get hx
  obtain ⟨f0,f1,f2,f3,f4,f5⟩:=hf it (by simp)
  refine wpAny_pyNext_tuple_item st (show s.heap.IsTuple a its.toArray from p) (x:=u) (by simpa using hu) fun h' st' sb=>?_
  have I1:Inv X pins σ H {s with heap:=h'}:=I.turned (t':=s.toks) (fun b o hb e=>(sb.2 b hb).trans e) f0 f1 f3 f4 f5
  obtain ⟨o,e,c,d⟩:=id st'
  exact ⟨u,rfl,jA (s:={s with heap:=h'}) e c d (by decide) ⟨x,H,I1,ru,⟨rfl,fun ys hy=>by rw [I.tuple_inj hy hq];exact hx⟩,st',fun b hb=>(hf b hb).1⟩⟩
 done:=by
  intro X hP hw hK hc i pins s σ H E I hf st hg
  subst hP hw hK
  obtain ⟨xs,hq,hx⟩:=hg
  obtain ⟨its,rv,p,hz⟩:=I.tuple hq
  obtain ⟨f0,f1,f2,f3,f4,f5⟩:=hf it (by simp)
  have hl:=rv.length
  exact wpAny_pyNext_tuple_end (I.ok.hd hc) st (show s.heap.IsTuple a its.toArray from p) (by simp;omega) fun h' eb=>⟨rfl,I.turned (t':=s.toks) (fun b o hb e=>eb b o hb e) f0 f1 f3 f4 f5⟩
 self:=fun _ _ _ _ _ st h=>wpAny_pyIter_tupleiter st h
theorem ge {P:Program} {w:World} {K:PySem.W.Frag} {tg:Expr} (it:Addr) (lo:Int) (n:Nat):Turn P w K tg (Itr lo n) [it] it (fun i h=>IsRangeIter h it (lo+(i:Nat) * 1) ((n:Int) - (i:Nat)) 1) where
 mem:=by simp
 obj:=fun i h st b hb=>by
  have e:b=it:=by simpa using hb
  subst e
  exact ⟨_,st,fun v z=>by
   have z':Data.fields _=Data.cell v:=z
   cases z'⟩
 keep:=fun i h h' st k=>k it (by simp) _ st
 item:=by
  intro X hP hw hK hc i pins s σ H E I hf st hg
  subst hP hw hK
  obtain ⟨f0,f1,f2,f3,f4,f5⟩:=hf it (by simp)
  have W:=Walks.range (prog:=X.prog) (w:=X.w) (I.ok.hd hc) it lo 1 n
  refine W.item i s _ _ hg st fun v h' tk hv st' kk=>?_
  obtain ⟨t,rfl⟩:=hv
  have I1:Inv X pins σ H {s with heap:=h',toks:=tk}:=I.turned (fun b o hb e=>kk b o (by simpa using hb) e) f0 f1 f3 f4 f5
  refine ⟨_,rfl,jA (s:={s with heap:=h',toks:=tk}) (n:="range_iterator") st' rfl rfl (by decide) ⟨.int (lo+i),H,I1,⟨t,?_⟩,⟨rfl,rfl⟩,st',fun b hb=>(hf b hb).1⟩⟩
  rw [Int.mul_one]
 done:=by
  intro X hP hw hK hc i pins s σ H E I hf st hg
  subst hP hw hK
  obtain ⟨f0,f1,f2,f3,f4,f5⟩:=hf it (by simp)
  exact wpAny_pyNext_range_end (I.ok.hd hc) st (by have:n≤i:=hg;omega) fun h' eb=>⟨rfl,I.turned (t':=s.toks) (fun b o hb e=>eb b o hb e) f0 f1 f3 f4 f5⟩
 self:=fun _ _ _ _ _ st h=>wpAny_pyIter_rangeiter st h
section
variable {X:Cx} {tg:Expr}
def uM (K:W.Frag) (tl:TE):TI:=fun σ H R=>tl σ H fun x H1=>∃a,x=.ref a∧(∃xs,SqL K H1 a xs)∧R (Itl K a) H1
def iTup (K:W.Frag) (tl:TE):TI:=fun σ H R=>tl σ H fun x H1=>∃a,x=.ref a∧(∃xs,SqT K H1 a xs)∧R (Itt K a) H1
theorem Xb {l:Expr} {tl:TE} (hl:PE X l tl):PI X tg l (uM X.K tl):=by
 intro pins s σ H R I h
 refine thn (hl pins s σ H _ I h) fun v s1 hpat=>?_
 obtain ⟨x,H1,I1,r1,q1⟩:=hpat
 obtain ⟨a,e,⟨xs,hq⟩,q⟩:=q1
 subst e
 cases r1
 obtain ⟨its,rv,p,hz⟩:=I1.list hq
 refine wpAny_pyIter_list p.isList ?_
 refine ⟨s1.heap.objs.size,[s1.heap.objs.size],_,_,H1,rfl,I1.kept (t':=s1.toks) fun b o e=>Heap.get?_push_of_some _ e,jF a _,⟨_,Heap.get?_push_size _ rfl,rfl,rfl⟩,fun b hb=>?_,q⟩
 have e:b=s1.heap.objs.size:=by simpa using hb
 subst e
 exact I1.fpOk (Nat.le_refl _) (I1.hok.fresh (Nat.le_refl _))
theorem Uo {l:Expr} {tl:TE} (hl:PE X l tl):PI X tg l (iTup X.K tl):=by
 intro pins s σ H R I h
 refine thn (hl pins s σ H _ I h) fun v s1 hpat=>?_
 obtain ⟨x,H1,I1,r1,q1⟩:=hpat
 obtain ⟨a,e,⟨xs,hq⟩,q⟩:=q1
 subst e
 cases r1
 obtain ⟨its,rv,p,hz⟩:=I1.tuple hq
 refine wpAny_pyIter_tuple (show s1.heap.IsTuple a its.toArray from p) ?_
 refine ⟨s1.heap.objs.size,[s1.heap.objs.size],_,_,H1,rfl,I1.kept (t':=s1.toks) fun b o e=>Heap.get?_push_of_some _ e,gb a _,⟨_,Heap.get?_push_size _ rfl,rfl,rfl⟩,fun b hb=>?_,q⟩
 have e:b=s1.heap.objs.size:=by simpa using hb
 subst e
 exact I1.fpOk (Nat.le_refl _) (I1.hok.fresh (Nat.le_refl _))
theorem nK {pins:List (Addr×Obj)} {σ:St} {H:Hp} {s:Shared} {R:It→Hp→Prop} {E:Value→Shared→Prop} {lo hi:Int} {t u v:Tok} {tk:Nat} (I:Inv X pins σ H s) (h1:-(2 ^ 62)≤lo) (h2:lo<2 ^ 62) (h3:-(2 ^ 62)≤hi) (h4:hi<2 ^ 62)
  (q:R (Itr lo (hi - lo).toNat) H):wpAny (model X.prog X.w) X.A (pyIter (.ref s.heap.objs.size)) (PIE X pins σ tg R) E {s with heap:=s.heap.push {cls:=.type "range",data:=.fields #[.int lo t,.int hi u,.int 1 v]},toks:=tk}:=by
 refine wpAny_pyIter_range (IsRange.new ..) (small_one h1 h2 h3 h4) ?_
 have I1:Inv X pins σ H {s with heap:=s.heap.push {cls:=.type "range",data:=.fields #[.int lo t,.int hi u,.int 1 v]},toks:=tk}:=I.kept fun b o e=>Heap.get?_push_of_some _ e
 refine ⟨(s.heap.push {cls:=.type "range",data:=.fields #[.int lo t,.int hi u,.int 1 v]}).objs.size,[(s.heap.push {cls:=.type "range",data:=.fields #[.int lo t,.int hi u,.int 1 v]}).objs.size],_,_,H,rfl,
  I1.kept (t':=tk) fun b o e=>Heap.get?_push_of_some _ e,ge _ lo (hi - lo).toNat,?_,fun b hb=>?_,q⟩
 ·have e1:lo+((0:Nat):Int) * 1=lo:=by simp
  have e2:(((hi - lo).toNat:Nat):Int) - ((0:Nat):Int)=Builtin.Range.rangeSize lo hi 1:=by rw [rangeSize_one];split <;> omega
  show IsRangeIter _ _ (lo+((0:Nat):Int) * 1) ((((hi - lo).toNat:Nat):Int) - ((0:Nat):Int)) 1
  rw [e1,e2]
  exact Heap.get?_push_size _ rfl
 ·have e:b=(s.heap.push {cls:=.type "range",data:=.fields #[.int lo t,.int hi u,.int 1 v]}).objs.size:=by simpa using hb
  subst e
  exact I1.fpOk (Nat.le_refl _) (I1.hok.fresh (Nat.le_refl _))
def ug (ta:TA):TI:=fun σ H R=>ta σ H fun vs H1=>∃j:Int,vs=[.int j]∧-(2 ^ 62)≤j∧j<2 ^ 62∧R (Itr 0 j.toNat) H1
theorem S3 {a:Expr} {ta:TA} {p pos:Pos} (hg:Gl X "range") (hm:X.mg "range"=none) (ha:PA X [a] ta) (hs:starEach [a] X.env=[(false,eval a X.env)]:=by rfl):PI X tg (.Call (.Name "range" p) [a] [] pos) (ug ta):=by
 intro pins s σ H R I h
 refine Call_ (Q0 I hg hm boot_range (PyProof.Rows.callWith_type1 (thn (ha pos pins s σ H _ I h) fun us s1 ⟨vs,H1,I1,r1,q1⟩=>?_) hs rfl))
 obtain ⟨j,e,q1,q2,q⟩:=q1
 subst e
 cases r1 with
 | cons r rr=>
  cases rr
  obtain ⟨t,rfl⟩:=r
  exact call_range_1 (nK I1 (by omega) (by omega) q1 q2 (by simpa using q))
def tFor (wi:TI) (g:TG) (tb:TS):TS:=fun D σ H=>wi σ H fun J H1=>∃W:Nat→Nat→St→Hp→Prop,(∃m,W 0 m σ H1)∧∀i m σ H,W i m σ H→
 (J.stop i H∧D.nx σ H)∨(J.go i H∧∃N:St→Hp→Prop,(∀σ' H',N σ' H'→∃m',m'<m∧W (i+1) m' σ' H')∧∀x H',J.yld i H x H'→g x σ H' fun σ2 H2=>tb {D with nx:=N,ct:=N,bk:=D.nx} σ2 H2)
def dG (fp:List Addr) (h:Heap):List (Addr×Obj):=fp.filterMap fun b=>(h.get? b).map fun o=>(b,o)
theorem Va {fp:List Addr} {h:Heap} {b:Addr} {o:Obj} (hb:b∈fp) (e:h.get? b=some o):(b,o)∈dG fp h:=List.mem_filterMap.mpr ⟨b,hb,by rw [e];rfl⟩
theorem jQ {fp:List Addr} {h:Heap} {p:Addr×Obj} (hp:p∈dG fp h):p.1∈fp∧h.get? p.1=some p.2:=by
 obtain ⟨b,hb,e⟩:=List.mem_filterMap.mp hp
 cases q:h.get? b with
 | none=>rw [q] at e;cases e
 | some o=>
  rw [q] at e
  have e':(b,o)=p:=Option.some.inj e
  subst e'
  exact ⟨hb,q⟩
theorem Inv.pinned {pins:List (Addr×Obj)} {σ:St} {H:Hp} {s:Shared} {fp:List Addr} (I:Inv X pins σ H s) (hf:∀b∈fp,cO X pins H b) (ho:∀b∈fp,∃o,s.heap.get? b=some o∧∀v,o.data≠.cell v):Inv X (pins++dG fp s.heap) σ H s:=
 I.pins_of fun p hp=>(List.mem_append.mp hp).elim (fun z=>I.pin p (List.mem_append_right _ z)) fun z=>by
  obtain ⟨hb,e⟩:=jQ z
  obtain ⟨f0,f1,f2,_⟩:=hf p.1 hb
  obtain ⟨o,e',d⟩:=ho p.1 hb
  rw [e] at e';cases e'
  exact ⟨e,f0,f1,f2,d⟩
theorem Inv.unpinned {pins pl:List (Addr×Obj)} {σ:St} {H:Hp} {s:Shared} (I:Inv X (pins++pl) σ H s):Inv X pins σ H s:=I.pins_of fun p hp=>I.pin p (List.mem_append_right _ (List.mem_append_left _ hp))
theorem Xv {iter:Expr} {body:List Stmt} {wi:TI} {g:TG} {tb:TS} {pos:Pos} (hp:PassesOwn (model X.prog X.w) X.A X.env X.xe) (hc:X.calm=true) (hi:PI X tg iter wi) (hg:PG X tg g) (hb:PSs X body tb)
  (hs:∀x,foldedSetIterable iter X.env x=pure x:=by intro _;rfl):PS X (.For tg iter body [] pos) (tFor wi g tb):=by
 intro pins s σ H D I h
 refine wpAny_For (thn (hi pins s σ H _ I h) fun v s1 h1=>thn h1 fun itv s2 h2=>?_) hs
 obtain ⟨it,fp,tn,J,H2,e,I2,T,st2,f2,W,⟨m0,w0⟩,turn⟩:=h2
 subst e
 have stat:∀{H':Hp},(∀b∈fp,H' b=none)→∀b∈fp,cO X pins H' b:=fun hn b hb=>⟨hn b hb,(f2 b hb).2⟩
 refine codeAny_forLoop_any (fun n s'=>∃i σ' H',Inv X pins σ' H' s'∧tn i s'.heap∧(∀b∈fp,H' b=none)∧W i n σ' H') ?_ m0 ⟨0,σ,H2,I2,st2,fun b hb=>(f2 b hb).1,w0⟩
 rintro n s3 ⟨i,σ3,H3,I3,st3,fr3,w3⟩
 rcases turn i n σ3 H3 w3 with ⟨stop,qn⟩ | ⟨go,N,hN,step⟩
 ·refine wpAny_passesOwn hp (thn (T.done X rfl rfl rfl hc i pins s3 σ3 H3 X.xe I3 (stat fr3) st3 stop) fun r s4 hpat=>?_)
  obtain ⟨hr,I4⟩:=hpat
  subst hr
  exact wpAny_execs_nil ⟨σ3,H3,I4,qn⟩
 ·refine wpAny_passesOwn hp (thn (T.item X rfl rfl rfl hc i pins s3 σ3 H3 X.xe I3 (stat fr3) st3 go) fun r s4 hpat=>?_)
  obtain ⟨u,hr,h4⟩:=hpat
  subst hr
  refine wpAny_passesOwn hp (thn h4 fun _ s5 hpat=>?_)
  obtain ⟨x,H5,I5,r5,y5,st5,fr5⟩:=hpat
  have I5':=I5.pinned (stat fr5) (T.obj _ _ st5)
  refine wpAny_passesOwn hp (thn (hg _ s5 σ3 H5 x u _ I5' r5 (step x H5 y5)) fun _ s6 hpat=>?_)
  obtain ⟨σ6,H6,I6,q6⟩:=hpat
  refine wpAny_passesOwn hp (thn (hb _ s6 σ6 H6 _ I6 q6) fun f s7 q7=>?_)
  have again:∀{σ7:St} {H7:Hp},Inv X (pins++dG fp s5.heap) σ7 H7 s7→N σ7 H7→∃m,m<n∧∃i σ' H',Inv X pins σ' H' s7∧tn i s7.heap∧(∀b∈fp,H' b=none)∧W i m σ' H':=fun {σ7 H7} I7 n7=>by
   obtain ⟨m',hm,w7⟩:=hN σ7 H7 n7
   refine ⟨m',hm,i+1,σ7,H7,I7.unpinned,T.keep _ _ _ st5 fun b hb o e=>(I7.pin (b,o) (List.mem_append_right _ (List.mem_append_right _ (Va hb e)))).1,fun b hb=>?_,w7⟩
   obtain ⟨o,e,d⟩:=T.obj _ _ st5 b hb
   exact (I7.pin (b,o) (List.mem_append_right _ (List.mem_append_right _ (Va hb e)))).2.1
  cases f with
  | next=>obtain ⟨σ7,H7,I7,n7⟩:=q7;exact again I7 n7
  | cont=>obtain ⟨σ7,H7,I7,n7⟩:=q7;exact again I7 n7
  | brk=>obtain ⟨σ7,H7,I7,q7⟩:=q7;exact ⟨σ7,H7,I7.unpinned,q7⟩
  | ret v=>obtain ⟨x7,σ7,H7,I7,r7,q7⟩:=q7;exact ⟨x7,σ7,H7,I7.unpinned,r7,q7⟩
end
theorem eJ {K:PySem.W.Frag} {a:Addr} {xs:List V} {g:TG} {tb:TS} {D:Ends} {σ:St} {H:Hp} (Pv:Nat→St→Hp→Prop) (h0:Pv 0 σ H) (hl:∀i σ H,i≤xs.length→Pv i σ H→SqL K H a xs)
  (hs:∀i x σ H,xs[i]?=some x→Pv i σ H→g x σ H fun σ2 H2=>tb {D with nx:=Pv (i+1),ct:=Pv (i+1),bk:=D.nx} σ2 H2) (hd:∀σ H,Pv xs.length σ H→D.nx σ H):
  ∃W:Nat→Nat→St→Hp→Prop,(∃m,W 0 m σ H)∧∀i m σ H,W i m σ H→
   ((Itl K a).stop i H∧D.nx σ H)∨((Itl K a).go i H∧∃N:St→Hp→Prop,(∀σ' H',N σ' H'→∃m',m'<m∧W (i+1) m' σ' H')∧∀x H',(Itl K a).yld i H x H'→g x σ H' fun σ2 H2=>tb {D with nx:=N,ct:=N,bk:=D.nx} σ2 H2):=by
 refine ⟨fun i m σ H=>m=xs.length - i∧i≤xs.length∧Pv i σ H,⟨xs.length,by simp,Nat.zero_le _,h0⟩,?_⟩
 rintro i m σ H ⟨rfl,hi,p⟩
 have q:=hl i σ H hi p
 by_cases hlt:i<xs.length
 ·refine .inr ⟨⟨xs,xs[i],q,by simp [hlt]⟩,Pv (i+1),fun σ' H' p'=>⟨xs.length - (i+1),by omega,rfl,hlt,p'⟩,fun x H' y=>?_⟩
  obtain ⟨e,y⟩:=y
  subst e
  exact hs i x σ _ (y xs q) p
 ·have e:i=xs.length:=by omega
  subst e
  exact .inl ⟨⟨xs,q,Nat.le_refl _⟩,hd σ H p⟩
theorem pJ {K:PySem.W.Frag} {a:Addr} {xs:List V} {g:TG} {tb:TS} {D:Ends} {σ:St} {H:Hp} (Pv:Nat→St→Hp→Prop) (h0:Pv 0 σ H) (hl:∀i σ H,i≤xs.length→Pv i σ H→SqT K H a xs)
  (hs:∀i x σ H,xs[i]?=some x→Pv i σ H→g x σ H fun σ2 H2=>tb {D with nx:=Pv (i+1),ct:=Pv (i+1),bk:=D.nx} σ2 H2) (hd:∀σ H,Pv xs.length σ H→D.nx σ H):
  ∃W:Nat→Nat→St→Hp→Prop,(∃m,W 0 m σ H)∧∀i m σ H,W i m σ H→
   ((Itt K a).stop i H∧D.nx σ H)∨((Itt K a).go i H∧∃N:St→Hp→Prop,(∀σ' H',N σ' H'→∃m',m'<m∧W (i+1) m' σ' H')∧∀x H',(Itt K a).yld i H x H'→g x σ H' fun σ2 H2=>tb {D with nx:=N,ct:=N,bk:=D.nx} σ2 H2):=by
 refine ⟨fun i m σ H=>m=xs.length - i∧i≤xs.length∧Pv i σ H,⟨xs.length,by simp,Nat.zero_le _,h0⟩,?_⟩
 rintro i m σ H ⟨rfl,hi,p⟩
 have q:=hl i σ H hi p
 by_cases hlt:i<xs.length
 ·refine .inr ⟨⟨xs,xs[i],q,by simp [hlt]⟩,Pv (i+1),fun σ' H' p'=>⟨xs.length - (i+1),by omega,rfl,hlt,p'⟩,fun x H' y=>?_⟩
  obtain ⟨e,y⟩:=y
  subst e
  exact hs i x σ _ (y xs q) p
 ·have e:i=xs.length:=by omega
  subst e
  exact .inl ⟨⟨xs,q,Nat.le_refl _⟩,hd σ H p⟩
theorem j_ {lo:Int} {n:Nat} {g:TG} {tb:TS} {D:Ends} {σ:St} {H:Hp} (Pv:Nat→St→Hp→Prop) (h0:Pv 0 σ H)
  (hs:∀i σ H,i<n→Pv i σ H→g (.int (lo+i)) σ H fun σ2 H2=>tb {D with nx:=Pv (i+1),ct:=Pv (i+1),bk:=D.nx} σ2 H2) (hd:∀σ H,Pv n σ H→D.nx σ H):
  ∃W:Nat→Nat→St→Hp→Prop,(∃m,W 0 m σ H)∧∀i m σ H,W i m σ H→
   ((Itr lo n).stop i H∧D.nx σ H)∨((Itr lo n).go i H∧∃N:St→Hp→Prop,(∀σ' H',N σ' H'→∃m',m'<m∧W (i+1) m' σ' H')∧∀x H',(Itr lo n).yld i H x H'→g x σ H' fun σ2 H2=>tb {D with nx:=N,ct:=N,bk:=D.nx} σ2 H2):=by
 refine ⟨fun i m σ H=>m=n - i∧i≤n∧Pv i σ H,⟨n,by simp,Nat.zero_le _,h0⟩,?_⟩
 rintro i m σ H ⟨rfl,hi,p⟩
 by_cases hlt:i<n
 ·refine .inr ⟨hlt,Pv (i+1),fun σ' H' p'=>⟨n - (i+1),by omega,rfl,hlt,p'⟩,fun x H' y=>?_⟩
  obtain ⟨e,y⟩:=y
  subst e y
  exact hs i σ _ hlt p
 ·have e:i=n:=by omega
  subst e
  exact .inl ⟨Nat.le_refl _,hd σ H p⟩
theorem On {c:TT} {tb:TS} {D:Ends} {σ:St} {H:Hp} (Pv:St→Hp→Prop) (μ:St→Hp→Nat) (h0:Pv σ H)
  (hs:∀σ H,Pv σ H→c σ H fun b H1=>if b=true then tb {D with nx:=fun σ' H'=>Pv σ' H'∧μ σ' H'<μ σ H,ct:=fun σ' H'=>Pv σ' H'∧μ σ' H'<μ σ H,bk:=D.nx} σ H1 else D.nx σ H1)
  (mono:∀σ H Q Q',(∀b H1,Q b H1→Q' b H1)→c σ H Q→c σ H Q'):l_ c tb D σ H:=by
 refine ⟨fun m σ H=>m=μ σ H∧Pv σ H,⟨_,rfl,h0⟩,?_⟩
 rintro m σ H ⟨rfl,p⟩
 refine mono σ H _ _ (fun b H1 q=>?_) (hs σ H p)
 cases b with
 | true=>exact ⟨_,fun σ' H' ⟨p',l⟩=>⟨_,l,rfl,p'⟩,q⟩
 | false=>exact q
abbrev R2:=V→V→Hp→VK→Prop
def OpR (X:Cx) (f:Value→Value→Sem Value) (r:R2):Prop:=
 ∀(pins:List (Addr×Obj)) (s:Shared) (σ:St) (H:Hp) (x y:V) (v u:Value) (Q:VK),Inv X pins σ H s→RelV x v→RelV y u→r x y H Q→
  wpAny (model X.prog X.w) X.A (f v u) (EP X pins σ Q) X.xe s
def bZ (X:Cx) (f:Value) (r:List V→Hp→VK→Prop):Prop:=
 ∀(pins:List (Addr×Obj)) (s:Shared) (σ:St) (H:Hp) (xs:List V) (us:List Value) (Q:VK),Inv X pins σ H s→Vals xs us→r xs H Q→
  wpAny (model X.prog X.w) X.A (call f us) (EP X pins σ Q) X.xe s
def tOp (r:R2) (ta tb:TE):TE:=fun σ H Q=>ta σ H fun x H1=>tb σ H1 fun y H2=>r x y H2 Q
def rI (C:Int→Int→Prop) (g:Int→Int→V):R2:=fun x y H Q=>∃i j,x=.int i∧y=.int j∧C i j∧Q (g i j) H
def rI0 (g:Int→Int→V):R2:=fun x y H Q=>∃i j,x=.int i∧y=.int j∧Q (g i j) H
section
variable {X:Cx} {a b c:Expr} {ta tb tc:TE} {pos:Pos}
theorem sE (ha:PE X a ta) (hb:PE X b tb) {pins:List (Addr×Obj)} {s:Shared} {σ:St} {H:Hp} {R:V→V→Hp→Prop} (I:Inv X pins σ H s)
  (h:ta σ H fun x H1=>tb σ H1 fun y H2=>R x y H2) {Q:Value→Shared→Prop} {f:Value→Value→Sem Value}
  (hf:∀v u s2 x y H2,Inv X pins σ H2 s2→RelV x v→RelV y u→R x y H2→wpAny (model X.prog X.w) X.A (f v u) Q X.xe s2):
  wpAny (model X.prog X.w) X.A (eval a X.env) (fun v s₁=>wpAny (model X.prog X.w) X.A (eval b X.env) (fun u s₂=>wpAny (model X.prog X.w) X.A (f v u) Q X.xe s₂) X.xe s₁) X.xe s:=by
 refine thn (ha pins s σ H _ I h) fun v s1 hpat=>?_
 obtain ⟨x,H1,I1,r1,q1⟩:=hpat
 refine thn (hb pins s1 σ H1 _ I1 q1) fun u s2 hpat=>?_
 obtain ⟨y,H2,I2,r2,q2⟩:=hpat
 exact hf v u s2 x y H2 I2 r1 r2 q2
theorem Zd {op:Operator} {r:R2} (ho:OpR X (binaryOp op) r) (ha:PE X a ta) (hb:PE X b tb):PE X (.BinOp a op b pos) (tOp r ta tb):=by
 intro pins s σ H Q I h
 exact wpAny_BinOp (sE ha hb I h fun v u s2 x y H2 I2 rx ry q=>ho pins s2 σ H2 x y v u Q I2 rx ry q)
theorem opI {f:Value→Value→Sem Value} {C:Int→Int→Prop} {g:Int→Int→Int}
  (rule:∀(i j:Int) (t u:Tok) (s:Shared) (Q:Value→Shared→Prop) (E:Value→Shared→Prop),C i j→Q (.int (g i j) s.toks) {s with toks:=s.toks+1}→wpAny (model X.prog X.w) X.A (f (.int i t) (.int j u)) Q E s):
  OpR X f (rI C fun i j=>.int (g i j)):=by
 intro pins s σ H x y v u Q I rx ry h
 obtain ⟨i,j,rfl,rfl,hc,q⟩:=h
 obtain ⟨t,rfl⟩:=rx
 obtain ⟨t',rfl⟩:=ry
 exact rule i j t t' s _ _ hc ⟨.int (g i j),H,I.tok _,⟨_,rfl⟩,q⟩
theorem vq {f:Value→Value→Sem Value} {g:Int→Int→Int}
  (rule:∀(i j:Int) (t u:Tok) (s:Shared) (Q:Value→Shared→Prop) (E:Value→Shared→Prop),Q (.int (g i j) s.toks) {s with toks:=s.toks+1}→wpAny (model X.prog X.w) X.A (f (.int i t) (.int j u)) Q E s):
  OpR X f (rI0 fun i j=>.int (g i j)):=by
 intro pins s σ H x y v u Q I rx ry h
 obtain ⟨i,j,rfl,rfl,q⟩:=h
 obtain ⟨t,rfl⟩:=rx
 obtain ⟨t',rfl⟩:=ry
 exact rule i j t t' s _ _ ⟨.int (g i j),H,I.tok _,⟨_,rfl⟩,q⟩
theorem pX {f:Value→Value→Sem Value} {g:Int→Int→Bool}
  (rule:∀(i j:Int) (t u:Tok) (s:Shared) (Q:Value→Shared→Prop) (E:Value→Shared→Prop),Q (.bool (g i j)) s→wpAny (model X.prog X.w) X.A (f (.int i t) (.int j u)) Q E s):
  OpR X f (rI0 fun i j=>.bl (g i j)):=by
 intro pins s σ H x y v u Q I rx ry h
 obtain ⟨i,j,rfl,rfl,q⟩:=h
 obtain ⟨t,rfl⟩:=rx
 obtain ⟨t',rfl⟩:=ry
 exact rule i j t t' s _ _ ⟨.bl (g i j),H,I,rfl,q⟩
def uF (i j:Int):Prop:=0<j∧j<1073741824
def sF (i j:Int):Prop:=0≤j∧j≤1000000∧i.natAbs<2 ^ 64
def CMul (i j:Int):Prop:=(-(2 ^ 64)<i∧i<2 ^ 64)∨(-(2 ^ 64)<j∧j<2 ^ 64)
theorem CMul.ok {i j:Int} (h:CMul i j):IntMulOk i j:=by
 rcases h with ⟨h1,h2⟩ | ⟨h1,h2⟩
 ·exact .of_left (intBits_le_64 h1 h2)
 ·exact .of_right (intBits_le_64 h1 h2)
theorem Zv:OpR X (binaryOp .Add) (rI0 fun i j=>.int (i+j)):=vq fun _ _ _ _ _ _ _ q=>add_int q
theorem Wh:OpR X (binaryOp .Sub) (rI0 fun i j=>.int (i - j)):=vq fun _ _ _ _ _ _ _ q=>sub_int q
theorem X9:OpR X (binaryOp .Mult) (rI CMul fun i j=>.int (i * j)):=opI fun _ _ _ _ _ _ _ hc q=>mul_int q hc.ok
theorem W8:OpR X (binaryOp .FloorDiv) (rI uF fun i j=>.int (i / j)):=opI fun i j _ _ _ _ _ hc q=>by
 have h1:(0:Int)<j:=hc.1
 have h2:j<1073741824:=hc.2
 exact floordiv_int (by omega) (by rw [Int.fdiv_eq_ediv_of_nonneg i (by omega)];exact q) (.inl (PyProof.noPylong_small (by omega)))
theorem Xh:OpR X (binaryOp .Mod) (rI (fun _ j=>0<j) fun i j=>.int (i % j)):=opI fun i j _ _ _ _ _ hc q=>by
 have h1:(0:Int)<j:=hc
 exact mod_int' (by omega) (by rw [Int.fmod_eq_emod_of_nonneg i (by omega)];exact q)
theorem O0:OpR X (binaryOp .Pow) (rI sF fun i j=>.int (i ^ j.toNat)):=opI fun _ _ _ _ _ _ _ hc q=>pow_int_small hc.1 hc.2.1 hc.2.2 q
theorem hE:OpR X (binaryOp .LShift) (rI sF fun i j=>.int (i * 2 ^ j.toNat)):=opI fun _ _ _ _ _ _ _ hc q=>lshift_int_small hc.1 hc.2.1 hc.2.2 q
end
def vA:V→V→Bool
 | .non,.non=>true | .non,.int _=>true | .int _,.non=>true | .non,.bl _=>true | .bl _,.non=>true | .non,.str _=>true | .str _,.non=>true
 | .int _,.int _=>true | .bl _,.bl _=>true | .str _,.str _=>true | .byt _,.byt _=>true
 | .int _,.str _=>true | .str _,.int _=>true | .bl _,.str _=>true | .str _,.bl _=>true
 | _,_=>false
def rEq:R2:=fun x y H Q=>vA x y=true∧Q (.bl (decide (x=y))) H
def rNe:R2:=fun x y H Q=>vA x y=true∧Q (.bl (!decide (x=y))) H
theorem iE {i j:Int}:decide (V.int i=V.int j)=(i == j):=by
 rw [Bool.eq_iff_iff]
 simp
theorem nI {i j:Bool}:decide (V.bl i=V.bl j)=(i == j):=by
 rw [Bool.eq_iff_iff]
 simp
theorem ii {i j:Str}:decide (V.str i=V.str j)=(i == j):=by
 rw [Bool.eq_iff_iff]
 simp
theorem jy {i j:Array UInt8}:decide (V.byt i=V.byt j)=(i.toList == j.toList):=by
 rw [Bool.eq_iff_iff]
 cases i
 cases j
 simp
section
variable {X:Cx} {a b c:Expr} {ta tb tc:TE} {pos:Pos}
theorem Zt {pins:List (Addr×Obj)} {σ:St} {H:Hp} {s:Shared} {Q:VK} {k k':Bool} (I:Inv X pins σ H s) (q:Q (.bl k) H) (e:k=k'):EP X pins σ Q (.bool k') s:=by
 subst e
 exact ⟨.bl k,H,I,rfl,q⟩
theorem Qz:OpR X (compareOp .Eq) rEq:=by
 intro pins s σ H x y v u Q I rx ry h
 obtain ⟨hs,q⟩:=h
 cases x with
 | non=>
  cases rx
  cases y with
  | non=>cases ry;exact PySem.EqNone.eq_none_none (Zt I q (by simp))
  | bl j=>cases ry;exact PySem.EqNone.eq_none_bool (Zt I q (by simp))
  | int j=>obtain ⟨t',rfl⟩:=ry;exact PySem.EqNone.eq_none_int (Zt I q (by simp))
  | str j=>obtain ⟨t',rfl⟩:=ry;exact PySem.EqNone.eq_none_str (Zt I q (by simp))
  | _=>exact absurd (show false=true from hs) Bool.false_ne_true
 | bl i=>
  cases rx
  cases y with
  | non=>cases ry;exact PySem.EqNone.eq_bool_none (Zt I q (by simp))
  | bl j=>cases ry;exact eq_bool (Zt I q nI)
  | str j=>obtain ⟨t',rfl⟩:=ry;exact PySem.EqMixed.eq_bool_str (Zt I q (by simp))
  | _=>exact absurd (show false=true from hs) Bool.false_ne_true
 | int i=>
  obtain ⟨t,rfl⟩:=rx
  cases y with
  | non=>cases ry;exact PySem.EqNone.eq_int_none (Zt I q (by simp))
  | int j=>obtain ⟨t',rfl⟩:=ry;exact eq_int (Zt I q iE)
  | str j=>obtain ⟨t',rfl⟩:=ry;exact PySem.EqMixed.eq_int_str (Zt I q (by simp))
  | _=>exact absurd (show false=true from hs) Bool.false_ne_true
 | str i=>
  obtain ⟨t,rfl⟩:=rx
  cases y with
  | non=>cases ry;exact PySem.EqNone.eq_str_none (Zt I q (by simp))
  | bl j=>cases ry;exact PySem.EqMixed.eq_str_bool (Zt I q (by simp))
  | int j=>obtain ⟨t',rfl⟩:=ry;exact PySem.EqMixed.eq_str_int (Zt I q (by simp))
  | str j=>obtain ⟨t',rfl⟩:=ry;exact eq_str (Zt I q ii)
  | _=>exact absurd (show false=true from hs) Bool.false_ne_true
 | byt i=>
  obtain ⟨t,rfl⟩:=rx
  cases y with
  | byt j=>obtain ⟨t',rfl⟩:=ry;exact W.eq_bytes (Zt I q jy)
  | _=>exact absurd (show false=true from hs) Bool.false_ne_true
 | _=>cases y <;> exact absurd (show false=true from hs) Bool.false_ne_true
theorem Rr:OpR X (compareOp .NotEq) rNe:=by
 intro pins s σ H x y v u Q I rx ry h
 obtain ⟨hs,q⟩:=h
 cases x with
 | non=>
  cases rx
  cases y with
  | non=>cases ry;exact PySem.EqNone.ne_none_none (Zt I q (by simp))
  | bl j=>cases ry;exact PySem.EqNone.ne_none_bool (Zt I q (by simp))
  | int j=>obtain ⟨t',rfl⟩:=ry;exact PySem.EqNone.ne_none_int (Zt I q (by simp))
  | str j=>obtain ⟨t',rfl⟩:=ry;exact PySem.EqNone.ne_none_str (Zt I q (by simp))
  | _=>exact absurd (show false=true from hs) Bool.false_ne_true
 | bl i=>
  cases rx
  cases y with
  | non=>cases ry;exact PySem.EqNone.ne_bool_none (Zt I q (by simp))
  | bl j=>cases ry;exact ne_bool (Zt I q (congrArg not nI))
  | str j=>obtain ⟨t',rfl⟩:=ry;exact PySem.EqMixed.ne_bool_str (Zt I q (by simp))
  | _=>exact absurd (show false=true from hs) Bool.false_ne_true
 | int i=>
  obtain ⟨t,rfl⟩:=rx
  cases y with
  | non=>cases ry;exact PySem.EqNone.ne_int_none (Zt I q (by simp))
  | int j=>obtain ⟨t',rfl⟩:=ry;exact ne_int (Zt I q (congrArg not iE))
  | str j=>obtain ⟨t',rfl⟩:=ry;exact PySem.EqMixed.ne_int_str (Zt I q (by simp))
  | _=>exact absurd (show false=true from hs) Bool.false_ne_true
 | str i=>
  obtain ⟨t,rfl⟩:=rx
  cases y with
  | non=>cases ry;exact PySem.EqNone.ne_str_none (Zt I q (by simp))
  | bl j=>cases ry;exact PySem.EqMixed.ne_str_bool (Zt I q (by simp))
  | int j=>obtain ⟨t',rfl⟩:=ry;exact PySem.EqMixed.ne_str_int (Zt I q (by simp))
  | str j=>obtain ⟨t',rfl⟩:=ry;exact ne_str (Zt I q (congrArg not ii))
  | _=>exact absurd (show false=true from hs) Bool.false_ne_true
 | byt i=>
  obtain ⟨t,rfl⟩:=rx
  cases y with
  | byt j=>obtain ⟨t',rfl⟩:=ry;exact W.ne_bytes (Zt I q (congrArg not jy))
  | _=>exact absurd (show false=true from hs) Bool.false_ne_true
 | _=>cases y <;> exact absurd (show false=true from hs) Bool.false_ne_true
theorem N6:OpR X (compareOp .Lt) (rI0 fun i j=>.bl (decide (i<j))):=pX fun _ _ _ _ _ _ _ q=>lt_int q
theorem Tg:OpR X (compareOp .LtE) (rI0 fun i j=>.bl (decide (i≤j))):=pX fun _ _ _ _ _ _ _ q=>le_int q
theorem Ti:OpR X (compareOp .Gt) (rI0 fun i j=>.bl (decide (j<i))):=pX fun _ _ _ _ _ _ _ q=>gt_int q
theorem mX:OpR X (compareOp .GtE) (rI0 fun i j=>.bl (decide (j≤i))):=pX fun _ _ _ _ _ _ _ q=>ge_int q
theorem f_:OpR X (compareOp .Is) (fun x y H Q=>y=.non∧Q (.bl (decide (x=.non))) H):=by
 intro pins s σ H x y v u Q I rx ry h
 obtain ⟨rfl,q⟩:=h
 cases ry
 refine is_none_gen (Zt I q ?_)
 cases x <;> first
  | (cases rx;rfl)
  | (obtain ⟨t,rfl⟩:=rx;rfl)
theorem qT:OpR X (compareOp .IsNot) (fun x y H Q=>y=.non∧Q (.bl (!decide (x=.non))) H):=by
 intro pins s σ H x y v u Q I rx ry h
 obtain ⟨rfl,q⟩:=h
 cases ry
 refine isnot_none_gen (Zt I q ?_)
 cases x <;> first
  | (cases rx;rfl)
  | (obtain ⟨t,rfl⟩:=rx;rfl)
theorem Zl (b:Expr) {op:CmpOp} (h:op≠.In:=by decide) (h2:op≠.NotIn:=by decide):behindInMarks op b=false:=by
 have e1:(op == CmpOp.In)=false:=by cases op <;> first | rfl | exact absurd rfl h
 have e2:(op == CmpOp.NotIn)=false:=by cases op <;> first | rfl | exact absurd rfl h2
 cases b <;> simp [behindInMarks,e1,e2]
theorem V7 {op:CmpOp} {r:R2} (ho:OpR X (compareOp op) r) (ha:PE X a ta) (hb:PE X b tb) (hm:behindInMarks op b=false):PE X (.Compare a [op] [b] pos) (tOp r ta tb):=by
 intro pins s σ H Q I h
 exact wpAny_Compare1 (sE ha hb I h fun v u s2 x y H2 I2 rx ry q=>ho pins s2 σ H2 x y v u Q I2 rx ry q) hm
def rq (t:TE):TT:=fun σ H Q=>t σ H fun x H'=>∃k,x=.bl k∧Q k H'
theorem Zk {op:CmpOp} {r:R2} (ho:OpR X (compareOp op) r) (ha:PE X a ta) (hb:PE X b tb) (hm:behindInMarks op b=false):PT X (.Compare a [op] [b] pos) (rq (tOp r ta tb)):=by
 intro pins s σ H Q I h
 refine wpAny_isTrue_Compare1 (thn (ha pins s σ H _ I h) fun v s1 ⟨x,H1,I1,r1,q1⟩=>thn (hb pins s1 σ H1 _ I1 q1) fun u s2 ⟨y,H2,I2,r2,q2⟩=>
  thn (ho pins s2 σ H2 x y v u _ I2 r1 r2 q2) fun c s3 ⟨z,H3,I3,r3,k,e,q3⟩=>?_) hm
 subst e
 cases r3
 exact wpAny_truthy_bool ⟨H3,I3,q3⟩
def ud (r r':R2) (ta tb tc:TE):TE:=fun σ H Q=>ta σ H fun x H1=>tb σ H1 fun y H2=>r x y H2 fun z H3=>∃k,z=.bl k∧
 (if k=true then tc σ H3 fun w' H4=>r' y w' H4 Q else Q (.bl false) H3)
theorem Rh {op op':CmpOp} {r r':R2} (ho:OpR X (compareOp op) r) (ho':OpR X (compareOp op') r') (ha:PE X a ta) (hb:PE X b tb) (hc:PE X c tc)
  (hm:lastMarks [op,op'] [b,c]=false:=by with_unfolding_all rfl):PT X (.Compare a [op,op'] [b,c] pos) (rq (ud r r' ta tb tc)):=by
 intro pins s σ H Q I h
 refine isTrue_chain (thn (ha pins s σ H _ I h) fun v s1 ⟨x,H1,I1,r1,q1⟩=>test_link (thn (hb pins s1 σ H1 _ I1 q1) fun u s2 ⟨y,H2,I2,r2,q2⟩=>
  thn (ho pins s2 σ H2 x y v u _ I2 r1 r2 q2) fun d s3 ⟨z,H3,I3,r3,k,e,q3⟩=>?_)) hm
 subst e
 cases r3
 refine wpAny_truthy_bool ?_
 cases k with
 | false=>
  obtain ⟨k',e',q'⟩:=q3
  cases e'
  exact ite_ff ⟨H3,I3,q'⟩
 | true=>
  refine ite_tt (test_last (thn (hc pins s3 σ H3 _ I3 q3) fun w' s4 ⟨z',H4,I4,r4,q4⟩=>thn (ho' pins s4 σ H4 y z' u w' _ I4 r2 r4 q4) fun d' s5 hpat=>?_))
  obtain ⟨z2,H5,I5,r5,k2,e2,q5⟩:=hpat
  subst e2
  cases r5
  exact wpAny_truthy_bool ⟨H5,I5,q5⟩
theorem O5:(sizeLine:Nat)<2 ^ 63:=by rw [sizeLine_eq];decide
theorem Ve {x:V} {us:List Value} (r:Vals [x] us):∃u,us=[u]∧RelV x u:=by
 cases r with
 | cons r1 r2=>cases r2;exact ⟨_,rfl,r1⟩
theorem iu {x y:V} {us:List Value} (r:Vals [x,y] us):∃u w',us=[u,w']∧RelV x u∧RelV y w':=by
 cases r with
 | cons r1 r2=>
  cases r2 with
  | cons r3 r4=>cases r4;exact ⟨_,_,rfl,r1,r3⟩
theorem jE (hc:X.calm=true):bZ X (.builtin "min") (fun xs H Q=>∃i j,xs=[.int i,.int j]∧Q (.int (if j<i then j else i)) H):=by
 intro pins s σ H xs us Q I r h
 obtain ⟨i,j,rfl,q⟩:=h
 obtain ⟨u,w',rfl,⟨t,rfl⟩,⟨t',rfl⟩⟩:=iu r
 refine min_two_ints (I.ok.hd hc) fun h' tk k=>⟨_,H,I.kept k,?_,q⟩
 by_cases hj:j<i
 ·rw [if_pos hj,if_pos hj];exact ⟨_,rfl⟩
 ·rw [if_neg hj,if_neg hj];exact ⟨_,rfl⟩
end
structure ObjM (h:Heap) (x dx C:Addr) (mA:Str→Option Value):Prop where
 obj:h.get? x=some (W.instObj C dx)
 ns:h.Ns1 dx mA
 ne:dx≠x
theorem kI {h:Heap} {dx:Addr} {mA:Str→Option Value} (n:h.Ns1 dx mA):∃od,h.get? dx=some od∧∀name,W.lookIn name od=some (mA name):=by
 obtain ⟨o,es,ep,ho,hd,hk,_,hm⟩:=n
 refine ⟨o,ho,fun name=>?_⟩
 have e:=hm name
 unfold nsFind findBy at e
 rw [←Array.find?_toList] at e
 unfold W.lookIn
 rw [hd]
 dsimp only
 split
 ·rename_i y q
  rw [q] at e
  exact congrArg some e
 ·rename_i q
  rw [q] at e
  have a:es.toList.any (·.refKey)=false:=by
   rw [List.any_eq_false]
   intro y hy
   obtain ⟨z,t,hkey⟩:=hk y (Array.mem_toList_iff.mp hy)
   simp [DictEntry.refKey,hkey]
  have a':¬es.toList.any (·.refKey)=true:=by rw [a];exact Bool.false_ne_true
  rw [if_neg a']
  exact congrArg some e
theorem ObjM.look {h:Heap} {x dx C:Addr} {mA:Str→Option Value} (I:ObjM h x dx C mA):∃od,W.InstAt h x (W.instObj C dx) C (some od)∧∀name,W.lookIn name od=some (mA name):=
 let ⟨od,ho,hl⟩:=kI I.ns
 ⟨od,⟨I.obj,rfl,rfl,ho⟩,hl⟩
section
variable {prog:Program} {w:World} {A:Around} {E:Value→Shared→Prop} {s:Shared} {K:W.Frag} {x dx C f:Addr} {mA:Str→Option Value} {name:Str} {v:Value}
end
theorem RelO.some_of {v:V} {o:Option Value} (r:RelO (some v) o):∃u,o=some u∧RelV v u:=by
 cases o with
 | none=>exact (show False from r).elim
 | some u=>exact ⟨u,rfl,r⟩
section
variable {P:Program} {w:World} {H H':Hp} {h h':Heap} {a C dx:Addr} {fs fs':List (Str×V)}
theorem oJ (hok:HOk P w H h) (e:H a=some (.ins C dx fs)):∃mA,ObjM h a dx C mA∧(∀f,RelO (fs.lookup f) (mA f))∧PySem.Within mA (fs.map (·.1))∧fs.length≤1000∧H dx=some (.own a):=by
 obtain ⟨d,z,ne,ob,mA,n,r,q⟩:=(show ObjOk P w H h a (.ins C dx fs) from hok a _ e)
 exact ⟨mA,⟨ob,n,ne⟩,r,q,z,d⟩
end
structure Cls (K:W.Frag) (C:Addr):Prop where
 pg:W.plainGet K C Str.empty=true
 hd:W.hasDictIn K C=true
 po:W.plainOver K C=true
 sa:W.findIn K (.ref C) "__setattr__"=some (some (.builtin "object.__setattr__"))
theorem Cls.get {K:W.Frag} {C:Addr} (c:Cls K C) (f:Str):W.plainGet K C f=true:=c.pg
section
variable {X:Cx} {pins:List (Addr×Obj)} {σ:St} {H:Hp} {s:Shared} {a C dx:Addr} {fs:List (Str×V)} {f:Str} {v:V} {A:Around} {E:Value→Shared→Prop}
end
section
variable {X:Cx} {o e value:Expr} {f:Str} {pos pos' tpos:Pos} {ta tv:TE}
end
section
variable {X:Cx} {pins:List (Addr×Obj)} {σ:St} {H:Hp} {s:Shared} {A:Around} {E:Value→Shared→Prop} {Q:Value→Shared→Prop} {c:Value} {b:Bool}
inductive TyOf (K:W.Frag) (H:Hp):V→Value→Prop where
 | non:TyOf K H .non (.type "NoneType")
 | bl (x:Bool):TyOf K H (.bl x) (.type "bool")
 | int (i:Int):TyOf K H (.int i) (.type "int")
 | str (x:Str):TyOf K H (.str x) (.type "str")
 | flt (x:UInt64):TyOf K H (.flt x) (.type "float")
 | lst {a:Addr} {xs:List V} (e:H a=some (.lst xs)):TyOf K H (.ref a) (.type "list")
 | frz {a:Addr} {o:Obj} {xs:List V} (e:H a=some (.frz o (.lst xs))):TyOf K H (.ref a) (.type "list")
 | tup {a:Addr} {xs:List V} (e:H a=some (.tup xs)):TyOf K H (.ref a) (.type "tuple")
 | dK {a:Addr} {kvs:List (Key×V)} (e:H a=some (.dK kvs)):TyOf K H (.ref a) (.type "dict")
 | dT {a:Addr} {kvs:List (List Key×V)} (e:H a=some (.dT kvs)):TyOf K H (.ref a) (.type "dict")
 | ins {a C dx:Addr} {fs:List (Str×V)} (e:H a=some (.ins C dx fs)) (cl:Cls K C) (ha:W.findIn K (.ref C) "__class__"=some (some (.builtin "object.__class__")))
   (hn:W.specialIn K (.builtin "object.__class__") "__get__"=some (some (.builtin "getset_descriptor.__get__"))) (htk:W.takesIn K (.builtin "object.__class__")=some true)
   (hm:W.mroIn K C (.type "object")=some true):TyOf K H (.ref a) (.ref C)
theorem j0 {x:V} {u t:Value} (I:Inv X pins σ H s) (rx:RelV x u) (ty:TyOf X.K H x t) (e:W.kitOne X.K t c=some b) (h:∀tk,Q (.bool b) {s with toks:=tk}):
  wpAny (model X.prog X.w) A (call (.builtin "isinstance") [u,c]) Q E s:=by
 cases ty with
 | non=>cases (show u=Value.none from rx);exact W.kia_one W.kitx_none I.kIn True.intro e (fun z=>nomatch z) h
 | bl y=>cases (show u=Value.bool y from rx);exact W.kia_one W.kitx_bool I.kIn True.intro e (fun z=>nomatch z) h
 | int i=>obtain ⟨t,q⟩:=(show ∃t,u=Value.int i t from rx);cases q;exact W.kia_one W.kitx_int I.kIn True.intro e (fun z=>nomatch z) h
 | str y=>obtain ⟨t,q⟩:=(show ∃t,u=Value.str y t from rx);cases q;exact W.kia_one W.kitx_str I.kIn True.intro e (fun z=>nomatch z) h
 | flt y=>obtain ⟨t,q⟩:=(show ∃t,u=Value.float y t from rx);cases q;exact W.kia_one W.kitx_float I.kIn True.intro e (fun z=>nomatch z) h
 | @lst a xs ea=>
  cases (show u=Value.ref a from rx)
  obtain ⟨_,_,n,_,h1⟩:=(show ObjOk X.prog X.w H s.heap a (.lst xs) from I.hok a _ ea)
  exact W.kia_one W.kitx_list I.kIn ⟨_,h1,rfl⟩ e (fun z=>nomatch z) h
 | @frz a ob xs ea=>
  cases (show u=Value.ref a from rx)
  obtain ⟨_,_,_,n,_,h1⟩:=(show ObjOk X.prog X.w H s.heap a (.frz ob (.lst xs)) from I.hok a _ ea)
  exact W.kia_one W.kitx_list I.kIn ⟨_,h1,rfl⟩ e (fun z=>nomatch z) h
 | @tup a xs ea=>
  cases (show u=Value.ref a from rx)
  obtain ⟨_,_,_,p⟩:=(show ObjOk X.prog X.w H s.heap a (.tup xs) from I.hok a _ ea)
  obtain ⟨o,h1,h2,_⟩:=p
  exact W.kia_one W.kitx_tuple I.kIn ⟨o,h1,h2.1⟩ e (fun z=>nomatch z) h
 | @dK a kvs ea=>
  cases (show u=Value.ref a from rx)
  obtain ⟨_,_,vs,_,p⟩:=(show ObjOk X.prog X.w H s.heap a (.dK kvs) from I.hok a _ ea)
  obtain ⟨o,es,ep,h1,h2,_⟩:=p
  exact W.kia_one W.kitx_dict I.kIn ⟨o,h1,h2.1⟩ e (fun z=>nomatch z) h
 | @dT a kvs ea=>
  cases (show u=Value.ref a from rx)
  obtain ⟨_,_,xs,_,o,es,ep,h1,h2,_⟩:=(show ObjOk X.prog X.w H s.heap a (.dT kvs) from I.hok a _ ea)
  exact W.kia_one W.kitx_dict I.kIn ⟨o,h1,h2.1⟩ e (fun z=>nomatch z) h
 | @ins a C dx fs ea cl ha hn htk hm=>
  cases (show u=Value.ref a from rx)
  obtain ⟨mA,O,_⟩:=oJ I.hok ea
  obtain ⟨od,J,_⟩:=O.look
  exact W.kia_one (W.kitx_own (cl.get _) cl.hd ha hn htk hm) I.kIn J e (fun z=>nomatch z) h
end
structure Room (k:Nat) (A:Around):Prop where
 hd:A.handled=none
 dp:A.depth+3 * k+5<recursionLimit
 un:A.units+16 * k+200<cLine
theorem Room.mono {j k:Nat} {A:Around} (r:Room k A) (h:j≤k):Room j A:=⟨r.hd,by have:=r.dp;omega,by have:=r.un;omega⟩
theorem Room.deeper {k:Nat} {A:Around} (r:Room (k+1) A) (env:Env):Room k (A.deeper env):=
 ⟨r.hd,by have:=r.dp;show A.depth+1+3 * k+5<_;omega,by have:=r.un;show A.units+3+16 * k+200<_;omega⟩
theorem Room.depth {k:Nat} {A:Around} (r:Room k A):A.depth<recursionLimit:=by have:=r.dp;omega
theorem Room.units {k:Nat} {A:Around} (r:Room k A):A.units+64<cLine:=by have:=r.un;omega
def tNil:TA:=fun _ H Q=>Q [] H
def vD (ta:TE) (tr:TA):TA:=fun σ H Q=>ta σ H fun x H1=>tr σ H1 fun xs H2=>Q (x::xs) H2
section
variable {X:Cx} {e:Expr} {es:List Expr} {te:TE} {t:TA} {pos:Pos}
theorem Z1:PA X [] tNil:=fun _ _ _ _ H Q I h=>Calls.spliced_nil ⟨[],H,I,.nil,h⟩
theorem Z0 (ha:PE X e te) (hr:PA X es t) (hs:starEach (e::es) X.env=(false,eval e X.env)::starEach es X.env:=by rfl):PA X (e::es) (vD te t):=by
 intro pos pins s σ H Q I h
 rw [hs]
 show wpAny _ _ (spliced ((false,eval e X.env)::backTo pos (starEach es X.env))) _ _ s
 refine Calls.spliced_cons (thn (ha pins s σ H _ I h) fun u s1 hpat=>?_)
 obtain ⟨x,H1,I1,r1,q1⟩:=hpat
 exact thn (hr pos pins s1 σ H1 _ I1 q1) fun us s2 ⟨xs,H2,I2,r2,q2⟩=>⟨x::xs,H2,I2,.cons r1 r2,q2⟩
def tTup (t:TA):TE:=fun σ H Q=>t σ H fun xs H1=>xs.length≤sizeLine∧∀p,H1 p=none→Q (.ref p) (upd H1 p (.tup xs))
def tLst (t:TA):TE:=fun σ H Q=>t σ H fun xs H1=>xs.length≤sizeLine∧∀p,H1 p=none→Q (.ref p) (upd H1 p (.lst xs))
theorem Y1 {x1} (h:PA X es t):PE X (.Tuple es x1 pos) (tTup t):=by
 intro pins s σ H Q I hq
 refine wpAny_Tuple_spliced (thn (h pos pins s σ H _ I hq) fun us s1 ⟨xs,H1,I1,r,z,q⟩=>⟨by rw [←r.length];exact z,?_⟩)
 have hf:H1 s1.heap.objs.size=none:=I1.hok.fresh (Nat.le_refl _)
 refine ⟨.ref s1.heap.objs.size,upd H1 s1.heap.objs.size (.tup xs),I1.laid (t':=s1.toks) (fun b u e=>Heap.get?_push_of_some _ e) (Nat.le_refl _) ?_,rfl,q _ hf⟩
 exact ⟨z,us,r,TupN.new _ _⟩
theorem Yy (h:PA X es t):PE X (.List es pos) (tLst t):=by
 intro pins s σ H Q I hq
 refine wpAny_List_spliced (thn (h pos pins s σ H _ I hq) fun us s1 ⟨xs,H1,I1,r,z,q⟩=>⟨by rw [←r.length];exact z,?_⟩)
 have hf:H1 s1.heap.objs.size=none:=I1.hok.fresh (Nat.le_refl _)
 refine ⟨.ref s1.heap.objs.size,upd H1 s1.heap.objs.size (.lst xs),I1.laid (t':=s1.toks) (fun b u e=>Heap.get?_push_of_some _ e) (Nat.le_refl _) ?_,rfl,q _ hf⟩
 exact ⟨z,us,0,r,Heap.get?_push_size _ rfl⟩
end
abbrev Sp:=List V→Hp→VK→XK→Prop
abbrev CXT:=List Env→Hp→Shared→XK→Value→Shared→Prop
structure Env0 (P:Program) (w:World) (K:W.Frag) (mg:Str→Option Value) (base:Heap) (A:Around) (outer:List Env) (s:Shared) (H:Hp):Prop where
 frames:A.frames=some outer
 mod:Mod K mg base
 bs:∀b o,base.get? b=some o→s.heap.get? b=some o∧H b=none
 bsz:base.objs.size≤s.heap.objs.size
 funs:s.heap.FunFrames base outer
 frf:∀b∈frs outer,H b=none
 hok:HOk P w H s.heap
 bare:AllBare s.gens
def CE (outer:List Env) (P:Program) (w:World) (H:Hp) (s:Shared) (Q:VK) (u:Value) (s':Shared):Prop:=
 ∃v H',s'.os=s.os∧AllBare s'.gens∧Un (frs outer) [] H H' s.heap s'.heap∧HOk P w H' s'.heap∧RelV v u∧Q v H'
def CR (CX:CXT) (outer:List Env) (P:Program) (w:World) (H:Hp) (s:Shared) (Q:VK) (E:XK) (r:Result) (s':Shared):Prop:=
 match r with
 | .ok (.ret u)=>CE outer P w H s Q u s'
 | .ok _=>False
 | .error e=>CX outer H s E e s'
structure FnOk (P:Program) (w:World) (K:W.Frag) (mg:Str→Option Value) (base:Heap) (CX:CXT) (k:Nat) (f:Addr) (fd:FuncData) (ps:List Str) (sp:Sp):Prop where
 len:∀vs H Q E,sp vs H Q E→vs.length=ps.length
 run:∀(A:Around) (outer:List Env) (s:Shared) (H:Hp) (args:Args) (us:List Value) (vs:List V) (Q:VK) (E:XK),Room k A→Env0 P w K mg base A outer s H→BindsTo s fd args (ps.zip us)→Vals vs us→sp vs H Q E→
  codeAny (model P w) A (.call (.ref f) args) (CR CX outer P w H s Q E) s
theorem FnOk.mono {P:Program} {w:World} {K:W.Frag} {mg:Str→Option Value} {base:Heap} {CX:CXT} {j k:Nat} {f:Addr} {fd:FuncData} {ps:List Str} {sp:Sp} (F:FnOk P w K mg base CX j f fd ps sp) (h:j≤k):
  FnOk P w K mg base CX k f fd ps sp:=⟨F.len,fun A outer s H args us vs Q E hr=>F.run A outer s H args us vs Q E (hr.mono h)⟩
section
variable {X:Cx} {pins:List (Addr×Obj)} {σ:St} {H:Hp} {s s':Shared}
theorem Inv.env0 (I:Inv X pins σ H s):Env0 X.prog X.w X.K X.mg X.base X.A X.stack s H:=
 ⟨I.ok.frames,I.ok.mod,I.bs,Nat.le_trans I.ok.bsz I.sz,I.stack,I.stkFree,I.hok,I.bare⟩
theorem Inv.after {Q:VK} {u:Value} (I:Inv X pins σ H s) (h:CE X.stack X.prog X.w H s Q u s'):EP X pins σ Q u s':=by
 obtain ⟨v,H',os,bare,un,hok,r,q⟩:=h
 obtain ⟨hh,g,d,t,os'⟩:=s'
 obtain rfl:os'=s.os:=os
 exact ⟨v,H',I.call (h':=hh) (g':=g) (d':=d) (t':=t) (ch:=[]) un hok bare (fun b z=>absurd z (by simp)),r,q⟩
end
def qW (sp:Sp) (dvs:List V) (E:XK) (t:TA):TE:=fun σ H Q=>t σ H fun vs H1=>sp (vs++dvs) H1 Q E
def Binds (K:W.Frag) (fd:FuncData) (ps:List Str) (ds:List Value):Prop:=
 ∀(s:Shared) (us:List Value),K.In s.heap→(us++ds).length=ps.length→BindsTo s fd ⟨us,[]⟩ (ps.zip (us++ds))
theorem Binds.all {K:W.Frag} {fd:FuncData} {ps:List Str} (h:∀us:List Value,us.length=ps.length→bindArgs fd ⟨us,[]⟩=pure (ps.zip us)):Binds K fd ps []:=fun s us _ hl=>by
 rw [List.append_nil] at hl ⊢
 exact .of_eq (h us hl)
def fX (CX:CXT) (X:Cx) (E:XK):Prop:=∀(pins:List (Addr×Obj)) (σ:St) (H:Hp) (s:Shared) (e:Value) (s':Shared),Inv X pins σ H s→CX X.stack H s E e s'→X.xe e s'
section
variable {X:Cx} {CX:CXT} {k:Nat} {f C:Addr} {fd:FuncData} {ps:List Str} {sp:Sp} {dvs:List V} {ds:List Value} {E:XK} {x m:Str} {p pos apos:Pos} {e o:Expr} {es:List Expr} {ta:TE} {t:TA}
theorem mW {pins:List (Addr×Obj)} {σ:St} {H:Hp} {s:Shared} {Q:VK} {us:List Value} {vs:List V} (F:FnOk X.prog X.w X.K X.mg X.base CX k f fd ps sp) (hr:Room k X.A) (hb:Binds X.K fd ps ds) (hd:Vals dvs ds) (hx:fX CX X E)
  (I:Inv X pins σ H s) (r:Vals vs us) (h:sp (vs++dvs) H Q E):wpAny (model X.prog X.w) X.A (call (.ref f) us) (EP X pins σ Q) X.xe s:=by
 have r2:Vals (vs++dvs) (us++ds):=r.append hd
 have hl:(us++ds).length=ps.length:=by rw [←r2.length];exact F.len _ _ _ _ h
 refine wpAny_call (codeAny_mono (F.run X.A X.stack s H ⟨us,[]⟩ (us++ds) (vs++dvs) Q E hr I.env0 (hb s us I.kIn hl) r2 h) fun r s' hq=>?_)
 cases r with
 | error e=>exact hx pins σ H s e s' I hq
 | ok fl=>
  cases fl with
  | ret u=>exact I.after hq
  | next=>exact False.elim hq
  | brk=>exact False.elim hq
  | cont=>exact False.elim hq
theorem oR (F:FnOk X.prog X.w X.K X.mg X.base CX k f fd ps sp) (hr:Room k X.A) (hg:Gl X x) (hm:X.mg x=some (.ref f)) (hk:W.keepIn X.K (.ref f)=true) (hb:Binds X.K fd ps ds) (hd:Vals dvs ds) (hx:fX CX X E)
  (ha:PA X (e::es) t) (hdb:(x == ("__debug__":Str))=false:=by decide) (he:starEach (e::es) X.env=(false,eval e X.env)::starEach es X.env:=by rfl) (hpl:(backTo pos (starEach es X.env)).any (·.1)=false:=by rfl):
  PE X (.Call (.Name x p) (e::es) [] pos) (qW sp dvs E t):=by
 intro pins s σ H Q I h
 refine wpAny_Call_Name_kw (O6 I hg hm ?_ hdb)
 refine W.callWith_K (h₀:=X.base) I.ok.mod.kin hk (thn (ha pos pins s σ H _ I h) fun us s1 ⟨vs,H1,I1,r,q⟩=>⟨I1.kIn,?_⟩) he hpl
 exact mW F hr hb hd hx I1 r q
end
section
variable {X:Cx} {CX:CXT} {k:Nat} {f C:Addr} {fd:FuncData} {ps ks:List Str} {sp:Sp} {E:XK} {x m:Str} {p pos apos kpos:Pos} {e o:Expr} {es:List Expr} {kws:List Keyword} {te ta:TE} {t tk:TA} {nm:Option Str}
variable {g:List Value→List Value→List Value} {gV:List V→List V→List V}
end
structure FnScope (N P:List Str) (sc:Scope):Prop where
 kind:sc.kind=.function
 co:sc.isCoroutine=false
 gen:sc.isGenerator=false
 nd:N.Nodup
 pre:N.take P.length=P
 par:∀x∈P,sc.names.lookup x=some .local∨sc.names.lookup x=some .cell
 nofree:∀y∈sc.names,y.2≠.free
theorem Pb {kindOf:Str→Option NameKind} {x:Str}:∀{binds:List (Str×Value)} {m:Str→Option Value},(∀v,(x,v)∉binds)→bindL kindOf binds m x=m x
 | [],_,_=>rfl
 | (n,v)::r,m,h=>by
  unfold bindL
  rw [Pb fun w hw=>h w (List.mem_cons_of_mem _ hw)]
  split
  ·have:x≠n:=by rintro rfl;exact h v List.mem_cons_self
   simp [this]
  ·rfl
theorem Pe {kindOf:Str→Option NameKind} {x:Str}:∀{binds:List (Str×Value)} {m:Str→Option Value},(∀v,(x,v)∉binds)→bindC kindOf binds m x=m x
 | [],_,_=>rfl
 | (n,v)::r,m,h=>by
  unfold bindC
  rw [Pe fun w hw=>h w (List.mem_cons_of_mem _ hw)]
  split
  ·rfl
  ·have:x≠n:=by rintro rfl;exact h v List.mem_cons_self
   simp [this]
theorem Pd {kindOf:Str→Option NameKind} {x:Str} {v:Value}:∀{P:List Str} {vs:List Value} {i:Nat} {m:Str→Option Value},P.Nodup→P[i]?=some x→vs[i]?=some v→kindOf x=some .local→
  bindL kindOf (P.zip vs) m x=some v
 | [],_,_,_,_,h,_,_=>by simp at h
 | _::_,[],_,_,_,_,h,_=>by simp at h
 | p::P,w::vs,0,m,nd,h1,h2,hk=>by
  simp at h1 h2;subst h1;subst h2
  show bindL kindOf ((p,w)::P.zip vs) m p=_
  unfold bindL
  rw [Pb fun v hv=>(List.nodup_cons.mp nd).1 (List.of_mem_zip hv).1,if_pos hk]
  simp
 | p::P,w::vs,i+1,m,nd,h1,h2,hk=>by
  show bindL kindOf ((p,w)::P.zip vs) m x=_
  unfold bindL
  exact Pd (i:=i) (List.nodup_cons.mp nd).2 (by simpa using h1) (by simpa using h2) hk
theorem Pf {kindOf:Str→Option NameKind} {x:Str} {v:Value}:∀{P:List Str} {vs:List Value} {i:Nat} {m:Str→Option Value},P.Nodup→P[i]?=some x→vs[i]?=some v→kindOf x≠some .local→
  bindC kindOf (P.zip vs) m x=some v
 | [],_,_,_,_,h,_,_=>by simp at h
 | _::_,[],_,_,_,_,h,_=>by simp at h
 | p::P,w::vs,0,m,nd,h1,h2,hk=>by
  simp at h1 h2;subst h1;subst h2
  show bindC kindOf ((p,w)::P.zip vs) m p=_
  unfold bindC
  rw [Pe fun v hv=>(List.nodup_cons.mp nd).1 (List.of_mem_zip hv).1,if_neg hk]
  simp
 | p::P,w::vs,i+1,m,nd,h1,h2,hk=>by
  show bindC kindOf ((p,w)::P.zip vs) m x=_
  unfold bindC
  exact Pf (i:=i) (List.nodup_cons.mp nd).2 (by simpa using h1) (by simpa using h2) hk
def cN (N:List Str) (vs:List V):St:=vs.map some++List.replicate (N.length - vs.length) none
def kD (CX:CXT) (P:Program) (w:World) (K:W.Frag) (mg:Str→Option Value) (base:Heap) (N:List Str) (qual:Str) (scope:Scope) (f:Addr) (cd:Value) (A:Around) (outer:List Env) (s:Shared) (H:Hp) (E:XK):Cx where
 prog:=P
 w:=w
 K:=K
 mg:=mg
 base:=base
 A:=A.deeper (envOfC qual scope s.heap.objs.size f cd)
 N:=N
 s₀:=s
 H₀:=H
 env:=envOfC qual scope s.heap.objs.size f cd
 outer:=outer
 stack:=envOfC qual scope s.heap.objs.size f cd::outer
 ex:=[]
 calm:=true
 fn:=fun _=>true
 pn:=[]
 xe:=fun e s'=>wpAny (model P w) (A.deeper (envOfC qual scope s.heap.objs.size f cd)) (leaving (envOfC qual scope s.heap.objs.size f cd) e) (fun _ s''=>CX outer H s E e s'') (fun e' s''=>CX outer H s E e' s'') s'
theorem Tv {sc:Scope} {n:Nat} {x:Str} (h:sc.names.lookup x=some .cell):∃c,(cellsFrom n sc.names []).lookup x=some c:=by
 have q:=W.cellsFrom_some sc.names n [] (.inl h)
 exact Option.isSome_iff_exists.mp q
theorem kz {CX:CXT} {P:Program} {w:World} {K:W.Frag} {mg:Str→Option Value} {base:Heap} {N ps:List Str} {qual:Str} {scope:Scope} {f:Addr} {cd:Value} {A:Around} {outer:List Env} {s s1:Shared} {H:Hp} {E:XK} {us:List Value} {vs:List V}
  (S:FnScope N ps scope) (hd:A.handled=none) (e0:Env0 P w K mg base A outer s H) (hl:vs.length=ps.length) (r:Vals vs us)
  (x:InCallC s s.heap.objs.size (bindL (envOfC qual scope s.heap.objs.size f cd).kindOf (ps.zip us) fun _=>none) (cellsFrom (s.heap.objs.size+1) scope.names []) (bindC (envOfC qual scope s.heap.objs.size f cd).kindOf (ps.zip us) fun _=>none) s1):
  Inv (kD CX P w K mg base N qual scope f cd A outer s H E) [] (cN N vs) H s1:=by
 have hpl:ps.length≤N.length:=by have:=congrArg List.length S.pre;rw [List.length_take] at this;omega
 obtain ⟨h1,tk,rfl,hk⟩:=x.done
 have noA:∀b:Addr,b∉(kD CX P w K mg base N qual scope f cd A outer s H E).ex:=fun b z=>absurd (show b∈([]:List Addr) from z) (by simp)
 refine ⟨⟨e0.mod,S.kind,rfl,rfl,Nat.le_refl _,fun y z c h1 h2=>?_,fun y hy=>?_,fun y c _ h=>?_,fun _=>hd,Around.frames_deeper e0.frames,.inr ⟨rfl,rfl⟩,fun b z=>absurd z (noA b),e0.bs,e0.bsz,fun b _ _=>noA b,fun b z=>absurd z (noA b),e0.funs,e0.frf⟩,
  rfl,e0.bare,Un.kept hk,⟨_,x.toInCall.ns,fun i y v h1 h2 h3=>?_⟩,fun y c h=>⟨_,x.cell y c h⟩,e0.hok.fresh (Nat.le_refl _),fun y c h=>?_,fun p hp=>absurd (show p∈([]:List (Addr×Obj)) from hp) (by simp),e0.hok.kept hk,?_⟩
 ·exact name_of_addr x.apart (PySem.mem_of_lookup h1) (PySem.mem_of_lookup h2)
 ·have hy:scope.names.lookup y=some .cell∨scope.names.lookup y=some .free:=hy
  rcases hy with hy | hy
  ·exact Tv hy
  ·exact absurd rfl (S.nofree _ (PySem.mem_of_lookup hy))
 ·exact Nat.le_of_lt (x.above y c (PySem.mem_of_lookup h))
 ·have hi:i<vs.length:=by
   unfold cN at h2
   by_cases hi:i<vs.length
   ·exact hi
   ·rw [List.getElem?_append_right (by simpa using hi)] at h2
    rw [List.getElem?_replicate] at h2
    split at h2 <;> cases h2
  have ha:vs[i]?=some v:=by
   unfold cN at h2
   rw [List.getElem?_append_left (by simpa using hi),List.getElem?_map] at h2
   cases e:vs[i]? with
   | none=>rw [e] at h2;cases h2
   | some a=>rw [e] at h2;cases h2;rfl
  obtain ⟨u,hu,rv⟩:=r.get ha
  have hp:ps[i]?=some y:=by
   rw [←S.pre,List.getElem?_take_of_lt (by omega)];exact h1
  have ndP:ps.Nodup:=by rw [←S.pre];exact S.nd.sublist (List.take_sublist _ _)
  refine ⟨u,rv,?_⟩
  rcases S.par y (List.mem_of_getElem? hp) with k | k
  ·exact .inl ⟨k,Pd ndP hp hu k⟩
  ·obtain ⟨c,e⟩:=Tv (n:=s.heap.objs.size+1) k
   refine .inr ⟨.inl k,c,e,?_⟩
   have q:=x.cell y c e
   rw [Pf ndP hp hu (by show scope.names.lookup y≠_;rw [k];decide)] at q
   exact q
 ·exact e0.hok.fresh (Nat.le_of_lt (x.above y c (PySem.mem_of_lookup h)))
 ·unfold cN
  show _=N.length
  rw [List.length_append,List.length_map,List.length_replicate]
  omega
theorem nR {CX:CXT} {P:Program} {w:World} {K:W.Frag} {mg:Str→Option Value} {base:Heap} {k:Nat} {f:Addr} {name qual:Str} {params:Arguments} {body:List Stmt} {scope:Scope} {dV kV doc pm cdv ct oc:Value} {an od:Option Addr}
  {osl:Array (Option Value)} {N ps:List Str} {sp:Sp} (lk:K.lookup f=some ⟨oc,od,.func (W.fnOf name qual params body scope dV kV doc pm an cdv ct),osl⟩) (hcd:W.codeIn K cdv qual=true) (S:FnScope N ps scope)
  (len:∀vs H Q E,sp vs H Q E→vs.length=ps.length)
  (hbody:∀(A:Around) (outer:List Env) (s:Shared) (H:Hp) (vs:List V) (Q:VK) (E:XK),Room k (A.deeper (envOfC qual scope s.heap.objs.size f cdv))→sp vs H Q E→
   ∃t,PSs (kD CX P w K mg base N qual scope f cdv A outer s H E) body t∧t {nx:=fun _ H'=>Q .non H',rt:=Q} (cN N vs) H):
  FnOk P w K mg base CX (k+1) f (W.fnOf name qual params body scope dV kV doc pm an cdv ct) ps sp:=by
 refine ⟨len,fun A outer s H args us vs Q E hr e0 hb r hsp=>?_⟩
 have hl:=len _ _ _ _ hsp
 have KX:K.In s.heap:=e0.mod.kin.keeps fun b o e=>(e0.bs b o e).1
 have lim:s.heap.NoLimit:=e0.mod.nolimit.keeps fun b o e=>(e0.bs b o e).1
 have hkind:∀y∈ps.zip us,scope.names.lookup y.1=some .local∨(scope.names.lookup y.1=some .cell∧((cellsFrom (s.heap.objs.size+1) scope.names []).lookup y.1).isSome=true):=fun ⟨n,v⟩ hy=>by
  rcases S.par n (List.of_mem_zip hy).1 with q | q
  ·exact .inl q
  ·exact .inr ⟨q,W.cellsFrom_some _ _ _ (.inl q)⟩
 refine codeAny_call_function hr.depth (KX _ _ lk) rfl S.co S.gen rfl (W.codeRec_of KX hcd) (hb _ _ _ _ ?_)
 refine wpAny_newFunctionEnv_cells S.kind hkind fun env he s1 x=>?_
 subst he
 refine ⟨lim.keeps x.toInCall.keep,codeAny_func ?_⟩
 obtain ⟨t,ht,hq⟩:=hbody A outer s H vs Q E (hr.deeper _) hsp
 have I:Inv (kD CX P w K mg base N qual scope f cdv A outer s H E) [] (cN N vs) H s1:=kz S hr.hd e0 hl r x
 refine wpAny_mono (ht [] s1 (cN N vs) H _ I hq) (fun fl s' hs=>?_) fun e s' hs=>hs
 have fin:∀{σ':St} {H':Hp} {v:V} {u:Value},Inv (kD CX P w K mg base N qual scope f cdv A outer s H E) [] σ' H' s'→RelV v u→Q v H'→CE outer P w H s Q u s':=
  fun {σ' H' v u} J rv q=>⟨v,H',J.os,J.bare,J.base,J.hok,rv,q⟩
 cases fl with
 | ret u=>
  obtain ⟨v,σ',H',J,rv,q⟩:=hs
  exact fin J rv q
 | next=>
  obtain ⟨σ',H',J,q⟩:=hs
  exact fin (v:=V.non) (u:=Value.none) J rfl q
 | brk=>
  obtain ⟨_,_,_,q⟩:=hs
  exact False.elim q
 | cont=>
  obtain ⟨_,_,_,q⟩:=hs
  exact False.elim q
section
variable {X:Cx} {x:Str} {p pos:Pos} {e:Expr} {es:List Expr} {t:TA} {id T:String} {r:List V→Hp→VK→Prop}
def tCB (r:List V→Hp→VK→Prop) (t:TA):TE:=fun σ H Q=>t σ H fun vs H1=>r vs H1 Q
theorem Zh (hc:bZ X (.builtin id) r) (hg:Gl X x) (hm:X.mg x=none) (hv:bootBuiltins x=some (.builtin id)) (ha:PA X (e::es) t) (hn:x≠"__name__":=by decide) (hdb:(x == ("__debug__":Str))=false:=by decide)
  (he:starEach (e::es) X.env=(false,eval e X.env)::starEach es X.env:=by rfl) (hpl:(backTo pos (starEach es X.env)).any (·.1)=false:=by rfl):PE X (.Call (.Name x p) (e::es) [] pos) (tCB r t):=by
 intro pins s σ H Q I h
 refine wpAny_Call_Name_kw (Q0 I hg hm hv ?_ hn hdb)
 exact PyProof.Rows.callWith_builtin1 (thn (ha pos pins s σ H _ I h) fun us s1 ⟨vs,H1,I1,r1,q1⟩=>hc pins s1 σ H1 vs us Q I1 r1 q1) he hpl
theorem X2 (hc:bZ X (.type T) r) (hg:Gl X x) (hm:X.mg x=none) (hv:bootBuiltins x=some (.type T)) (ha:PA X (e::es) t) (hn:x≠"__name__":=by decide) (hdb:(x == ("__debug__":Str))=false:=by decide)
  (he:starEach (e::es) X.env=(false,eval e X.env)::starEach es X.env:=by rfl) (hpl:(backTo pos (starEach es X.env)).any (·.1)=false:=by rfl):PE X (.Call (.Name x p) (e::es) [] pos) (tCB r t):=by
 intro pins s σ H Q I h
 refine wpAny_Call_Name_kw (Q0 I hg hm hv ?_ hn hdb)
 exact PyProof.Rows.callWith_type1 (thn (ha pos pins s σ H _ I h) fun us s1 ⟨vs,H1,I1,r1,q1⟩=>hc pins s1 σ H1 vs us Q I1 r1 q1) he hpl
end
end L2
namespace HT
open PySem PyProof.Rows
def lexLt:List Int→List Int→Bool
 | [],[]=>false
 | [],_::_=>true
 | _::_,[]=>false
 | x::xs,y::ys=>if x=y then lexLt xs ys else decide (x<y)
theorem lexLt_cons (x y:Int) (xs ys:List Int):lexLt (x::xs) (y::ys)=if x=y then lexLt xs ys else decide (x<y):=rfl
theorem lexLt_nil_nil:lexLt [] []=false:=rfl
theorem Rx (y:Int) (ys:List Int):lexLt [] (y::ys)=true:=rfl
theorem Ry (x:Int) (xs:List Int):lexLt (x::xs) []=false:=rfl
theorem nX (A:Around) (s:Shared) (a:Int) (t:Tok) (c:Int) (u:Tok):∃e,SeqAt.EqAt A s (.int a t) (.int c u) e∧(e=true↔a=c):=
 ⟨(a == c),SeqAt.EqAt.int_int a t c u,by simp⟩
theorem mh (A:Around) (s:Shared) (a:Int) (t:Tok) (c:Int) (u:Tok) (prog:Program) (w:World) (E:Value→Shared→Prop) (Q:Value→Shared→Prop) (h:Q (.bool (decide (a<c))) s):
  wpAny (model prog w) A (richCompare .Lt (.int a t) (.int c u)) Q E s:=
 (PyProof.Rows.lt_int h:wpAny (model prog w) A (compareOp .Lt (.int a t) (.int c u)) Q E s)
section
open PySem.SeqAt
open PySem.AutoSeq1 (wpAny_loadPart')
open PySem.MeetsSeq PySem.MeetsSeq2 PySem.MeetsSeq3
theorem Qh (l b:Addr) (items items2:Array Value) (n n2:Nat) (dd dd2:Option Addr) (sl sl2:Array (Option Value)) (ns ms:List Int) (hi:IntsAre items.toList ns) (hj:IntsAre items2.toList ms):
  Meets (Builtin.«tuple.__lt__» ⟨[.ref l,.ref b],[]⟩)
   (fun _ R s=>s.heap.get? l=some {cls:=.type "tuple",dict:=dd,data:=.seq items n,slots:=sl}∧s.heap.get? b=some {cls:=.type "tuple",dict:=dd2,data:=.seq items2 n2,slots:=sl2}∧
    R (.ok (.ret (.bool (lexLt ns ms)))) s):=
 .of_wp fun prog w A R s h=>by
  obtain ⟨hp,g,d,tk,os⟩:=s;obtain ⟨hl,hb,h⟩:=h
  have f2:=AutoSeq1.sub_tuple_tuple
  have z1:items.size=ns.length:=by rw [←hi.length];simp
  have z2:items2.size=ms.length:=by rw [←hj.length];simp
  wp_walk using wpAny_loadPart' hl,wpAny_loadPart' hb,wpAny_forIn_list _ (fun rest b s'=>b.1=none∧s'=⟨hp,g,d,tk,os⟩∧∃(vs ws:List Value) (ns' ms':List Int),rest=vs.zip ws∧
   IntsAre vs ns'∧IntsAre ws ms'∧ns'.length+items2.size=ms'.length+items.size∧R (.ok (.ret (.bool (lexLt ns' ms')))) ⟨hp,g,d,tk,os⟩) _
  case turn=>
   rintro ⟨y,x⟩ rest b s' ⟨hb',rfl,vs,ws,ns',ms',hz,hvi,hwi,hlen,hR⟩
   cases hvi with
   | nil=>rw [List.zip_nil_left] at hz;cases hz
   | cons a t hvi'=>
    cases hwi with
    | nil=>rw [List.zip_nil_right] at hz;cases hz
    | cons c u hwi'=>
     rw [List.zip_cons_cons] at hz
     injection hz with hyx hrest
     injection hyx with hy hx
     subst hy hx
     rw [lexLt_cons] at hR
     simp only [List.length_cons] at hlen
     obtain ⟨e,he,hiff⟩:=nX A.in1 ⟨hp,g,d,tk,os⟩ a t c u
     refine wpAny_bind (he prog w _ _ ?_)
     cases e with
     | true=>
      rw [if_pos (hiff.mp rfl)] at hR
      wp_walk
      exact ⟨rfl,rfl,_,_,_,_,hrest,hvi',hwi',by omega,hR⟩
     | false=>
      rw [if_neg (fun q=>absurd (hiff.mpr q) Bool.false_ne_true)] at hR
      have hri:=mh A.in1 ⟨hp,g,d,tk,os⟩ a t c u prog w
      wp_walk using hri
      exact ⟨_,rfl,by simpa using hR⟩
  case fin=>
   rintro ⟨b1,b2⟩ s' ⟨hb',rfl,vs,ws,ns',ms',hz,hvi,hwi,hlen,hR⟩
   simp only at hb'
   subst hb'
   have hv:lexLt ns' ms'=decide (items.size<items2.size):=by
    cases hvi with
    | nil=>
     cases hwi with
     | nil=>
      simp only [List.length_nil] at hlen
      rw [lexLt_nil_nil]
      exact (decide_eq_false (by omega)).symm
     | cons c u hw=>
      simp only [List.length_nil,List.length_cons] at hlen
      rw [Rx]
      exact (decide_eq_true (by omega)).symm
    | cons a t hv=>
     cases hwi with
     | nil=>
      simp only [List.length_nil,List.length_cons] at hlen
      rw [Ry]
      exact (decide_eq_false (by omega)).symm
     | cons c u hw=>
      rw [List.zip_cons_cons] at hz
      cases hz
   rw [hv] at hR
   wp_walk
   exact ⟨_,rfl,by simpa [Builtin.Tuple.tupleCompareSizes] using hR⟩
  case h=>
   exact ⟨rfl,rfl,items.toList,items2.toList,ns,ms,rfl,hi,hj,by omega,h⟩
end
section
variable {prog:Program} {w:World} {A:Around} {E:Value→Shared→Prop} {s:Shared}
theorem lt_tupInts {l b:Addr} {items items2:Array Value} {ns ms:List Int} {Q:Value→Shared→Prop} (hl:IsTup s.heap l items) (hb:IsTup s.heap b items2) (hi:IntsAre items.toList ns) (hj:IntsAre items2.toList ms)
  (hu:A.units<cLine) (h:Q (.bool (lexLt ns ms)) s):wpAny (model prog w) A (compareOp .Lt (.ref l) (.ref b)) Q E s:=by
 obtain ⟨⟨cls,dd,data,sl⟩,ho,hc,n,hd⟩:=id hl
 obtain ⟨⟨cls2,dd2,data2,sl2⟩,ho2,hc2,n2,hd2⟩:=id hb
 simp only at hc hd hc2 hd2
 subst hc hd hc2 hd2
 exact richCompare_meets_room (op:=.Lt) ⟨_,ho,rfl⟩ ⟨_,ho2,rfl⟩ PySem.F.slot_tuple_lt PySem.F.entry_tuple_lt (PySem.F.args_tuple_lt_2 _ _) (Qh l b items items2 n n2 dd dd2 sl sl2 ns ms hi hj)
  ⟨ho,ho2,show Value.bool (lexLt ns ms)≠Value.notImplemented∧Q (.bool (lexLt ns ms)) s from ⟨(fun x=>nomatch x),h⟩⟩ hu
def sIx (n d:Nat):Option Int→Nat
 | none=>d
 | some v=>if v<0 then (v+(n:Int)).toNat else min v.toNat n
theorem sIx_none (n d:Nat):sIx n d none=d:=rfl
theorem sIx_nat (n d k:Nat):sIx n d (some (k:Int))=min k n:=by
 show (if (k:Int)<0 then ((k:Int)+(n:Int)).toNat else min (k:Int).toNat n)=min k n
 rw [if_neg (by omega),Int.toNat_natCast]
theorem tm (n d:Nat) (hd:d≤n) (o:Option Int):sIx n d o≤n:=by
 cases o with
 | none=>exact hd
 | some v=>
  show (if v<0 then (v+(n:Int)).toNat else min v.toNat n)≤n
  by_cases hv:v<0
  ·rw [if_pos hv];omega
  ·rw [if_neg hv];exact Nat.min_le_right _ _
theorem hZ (v:Int) (n d:Nat):(if v<0 then max (v+(n:Int)) 0 else min v (n:Int))=((sIx n d (some v):Nat):Int):=by
 show (if v<0 then max (v+(n:Int)) 0 else min v (n:Int))=(((if v<0 then (v+(n:Int)).toNat else min v.toNat n):Nat):Int)
 by_cases hv:v<0
 ·simp only [if_pos hv];omega
 ·simp only [if_neg hv];omega
theorem gY (lo hi:Option Int) (n:Nat):Builtin.Slice.sliceAdjust lo hi 1 (n:Int)=(((sIx n 0 lo:Nat):Int),((sIx n n hi:Nat):Int)):=by
 have h1:¬((1:Int)<0):=by omega
 unfold Builtin.Slice.sliceAdjust
 simp only [h1,if_false]
 refine Prod.ext ?_ ?_
 ·cases lo with
  | none=>rfl
  | some v=>exact hZ v n 0
 ·cases hi with
  | none=>rfl
  | some v=>exact hZ v n n
theorem fx (i j:Nat):Builtin.Slice.slicePlaces (i:Int) (j:Int) 1=j - i:=by
 unfold Builtin.Slice.slicePlaces
 have h1:(1:Int) > 0:=by omega
 simp only [h1,if_true,Int.ediv_one]
 split <;> omega
theorem R9 {v:Value} {o:Option Int} {Q:Option Int→Shared→Prop} (p:IsPart v o) (h:Q o s):wpAny (model prog w) A (Builtin.Slice.slicePartIndex v) Q E s:=by
 cases p with
 | none=>exact slicePart_none h
 | int i t=>exact slicePart_int h
theorem Wm {sl:Addr} {vl vu:Value} {lo hi:Option Int} {n:Nat} {Q:Int×Int×Nat→Shared→Prop} (hs:s.heap.IsSliceOf sl vl vu .none) (pl:IsPart vl lo) (pu:IsPart vu hi)
  (h:Q (((sIx n 0 lo:Nat):Int),1,sIx n n hi - sIx n 0 lo) s):wpAny (model prog w) A (Builtin.Slice.sliceApplied (.ref sl) (pure (n:Int))) Q E s:=by
 obtain ⟨os,hos,hcs,hds⟩:=id hs
 unfold Builtin.Slice.sliceApplied Builtin.Slice.sliceFields
 refine wpAny_bind (wpAny_bind (wpAny_field hos hds (x:=vl) rfl (wpAny_bind (wpAny_field hos hds (x:=vu) rfl (wpAny_bind (wpAny_field hos hds (x:=.none) rfl (wpAny_pure ?_)))))))
 refine wpAny_bind (slicePart_none ?_)
 show wpAny _ _ (if ((1:Int) == 0)=true then _ else _) _ _ s
 rw [if_neg (by decide)]
 refine wpAny_bind (R9 pl (wpAny_bind (R9 pu (wpAny_bind (wpAny_pure ?_)))))
 show wpAny _ _ (match Builtin.Slice.sliceAdjust lo hi 1 (n:Int) with | (lo,hi)=>pure (lo,(1:Int),Builtin.Slice.slicePlaces lo hi 1)) _ _ s
 rw [gY lo hi n]
 show wpAny _ _ (pure (((sIx n 0 lo:Nat):Int),(1:Int),Builtin.Slice.slicePlaces ((sIx n 0 lo:Nat):Int) ((sIx n n hi:Nat):Int) 1)) _ _ s
 rw [fx]
 exact wpAny_pure h
theorem ld (xs:Array Value) (i k:Nat):((List.range k).filterMap fun (m:Nat)=>xs[((i:Int)+(m:Int) * 1).toNat]?).toArray=((xs.toList.drop i).take k).toArray:=by
 have e:(fun (m:Nat)=>xs[((i:Int)+(m:Int) * 1).toNat]?)=fun m=>xs[i+m]?:=by
  funext m
  have:((i:Int)+(m:Int) * 1).toNat=i+m:=by omega
  rw [this]
 rw [e]
 have:=pick_run xs i k
 rw [List.filterMap_map] at this
 have e2:((fun x=>xs[x]?)∘fun x=>i+x)=fun m=>xs[i+m]?:=rfl
 rw [e2] at this
 rw [this]
theorem getItem_tuple_cut {t sl:Addr} {items:Array Value} {vl vu:Value} {lo hi:Option Int} {Q:Value→Shared→Prop} (ht:IsTup s.heap t items) (hs:s.heap.IsSliceOf sl vl vu .none) (pl:IsPart vl lo) (pu:IsPart vu hi)
  (hw:¬(sIx items.size 0 lo=0∧sIx items.size items.size hi=items.size))
  (h:Q (.ref s.heap.objs.size) {s with heap:=s.heap.push {cls:=.type "tuple",data:=.seq ((items.toList.drop (sIx items.size 0 lo)).take (sIx items.size items.size hi - sIx items.size 0 lo)).toArray}})
  (hsz:items.size≤sizeLine):wpAny (model prog w) A (getItem (.ref t) (.ref sl)) Q E s:=by
 have htake:sizeOk (.seq ((items.toList.drop (sIx items.size 0 lo)).take (sIx items.size items.size hi - sIx items.size 0 lo)).toArray):=by
  show ((items.toList.drop (sIx items.size 0 lo)).take (sIx items.size items.size hi - sIx items.size 0 lo)).toArray.size≤sizeLine
  rw [List.size_toArray,List.length_take,List.length_drop,Array.length_toList]
  omega
 have hj:sIx items.size items.size hi≤items.size:=tm _ _ (Nat.le_refl _) hi
 obtain ⟨os,hos,hcs,hds⟩:=id hs
 have hTs:s.TypeIs (.ref sl) "slice":=⟨os,hos,hcs⟩
 unfold getItem
 try with_reducible refine wpAny_holding ?_
 first | refine wpAny_bind (wpAny_pure ?_) | skip
 refine wpAny_bind (wpAny_sequenceKey ht.typeIs (by decide) ?_)
 refine wpAny_bind (wpAny_callSpecial?_slot (name:=Str.ofString "__getitem__") ht.typeIs PyProof.Rows.slot_tuple_getitem
  (wpAny_call_entry PyProof.Rows.slot_tuple_getitem ht.typeIs entry_tuple_getitem ?_ (args_tuple_getitem _ _)))
 show wpAny _ _ (Builtin.Tuple.tupleItemsOf (.ref t) >>= _) _ _ s
 refine wpAny_bind (tupleItemsOf_ ht ?_)
 refine wpAny_bind (wpAny_typeOf hTs ?_)
 rw [if_pos (by decide)]
 refine wpAny_bind (Wm hs pl pu ?_)
 have hno:¬((((sIx items.size 0 lo:Nat):Int) == 0 && (1:Int) == 1 && (sIx items.size items.size hi - sIx items.size 0 lo) == items.size)=true):=by
  intro q
  rw [Bool.and_eq_true,Bool.and_eq_true] at q
  have q1:((sIx items.size 0 lo:Nat):Int)=0:=eq_of_beq q.1.1
  have q2:sIx items.size items.size hi - sIx items.size 0 lo=items.size:=eq_of_beq q.2
  exact hw ⟨by omega,by omega⟩
 show wpAny _ _ (if (((sIx items.size 0 lo:Nat):Int) == 0 && (1:Int) == 1 && (sIx items.size items.size hi - sIx items.size 0 lo) == items.size)=true then _ else _) _ _ s
 rw [if_neg hno,ld]
 first
  | exact wpAny_bind (m:=Builtin.Tuple.tupleExact _) (wpAny_newObj_type (wpAny_pure ⟨_,rfl,wpAny_pure h⟩) htake)
  | exact wpAny_bind (m:=Builtin.Tuple.tupleExact _) (wpAny_newObj_type (wpAny_bind (wpAny_pure (wpAny_pure ⟨_,rfl,wpAny_pure h⟩))) htake)
  | exact wpAny_bind (wpAny_bind (m:=Builtin.Tuple.tupleExact _) (wpAny_newObj_type (wpAny_pure (wpAny_pure ⟨_,rfl,wpAny_pure h⟩)) htake))
  | exact wpAny_bind (wpAny_bind (m:=Builtin.Tuple.tupleExact _) (wpAny_newObj_type (wpAny_pure ⟨_,rfl,wpAny_pure h⟩) htake))
end
end HT
namespace L2
open PySem PySem.Spec PyProof.Rows
abbrev TO:=St→Hp→(Option Int→Hp→Prop)→Prop
def PO (X:Cx) (e:Option Expr) (t:TO):Prop:=
 ∀(pins:List (Addr×Obj)) (s:Shared) (σ:St) (H:Hp) (Q:Option Int→Hp→Prop),Inv X pins σ H s→t σ H Q→
  wpAny (model X.prog X.w) X.A (evalPart e X.env) (fun u s'=>∃o H',Inv X pins σ H' s'∧IsPart u o∧Q o H') X.xe s
def oE:TO:=fun _ H Q=>Q none H
def uS (t:TE):TO:=fun σ H Q=>t σ H fun x H1=>∃i,x=.int i∧Q (some i) H1
theorem Vd {ns:List Int}:∀{us:List Value},Vals (ns.map V.int) us→IntsAre us ns:=by
 induction ns with
 | nil=>intro us r;rw [List.map_nil] at r;cases r;exact .nil
 | cons n ns ih=>
  intro us r
  rw [List.map_cons] at r
  cases r with
  | cons r1 r2=>
   obtain ⟨t,e⟩:=r1
   subst e
   exact .cons n t (ih r2)
section
variable {X:Cx} {e:Expr} {te:TE} {lo hi:Option Expr} {tl th:TO} {pos p2:Pos}
theorem Te:PO X none oE:=by
 intro pins s σ H Q I h
 rw [evalPart_none]
 exact wpAny_pure ⟨none,H,I,.none,h⟩
theorem Td (h:PE X e te):PO X (some e) (uS te):=by
 intro pins s σ H Q I hw
 rw [evalPart_some]
 refine thn (h pins s σ H _ I hw) fun u s1 hpat=>?_
 obtain ⟨x,H1,I1,r1,q1⟩:=hpat
 obtain ⟨i,rfl,q⟩:=q1
 obtain ⟨t,rfl⟩:=r1
 exact ⟨some i,H1,I1,.int i t,q⟩
def SlR (X:Cx) (r:V→Option Int→Option Int→Hp→VK→Prop):Prop:=
 ∀(pins:List (Addr×Obj)) (s:Shared) (σ:St) (H:Hp) (x:V) (v vl vu:Value) (lo hi:Option Int) (sl:Addr) (Q:VK),Inv X pins σ H s→RelV x v→s.heap.IsSliceOf sl vl vu .none→IsPart vl lo→IsPart vu hi→r x lo hi H Q→
  ∃T id,typeLookup (.type T) "__getitem__"=pure (some (.builtin id))∧s.TypeIs v T∧wpAny (model X.prog X.w) X.A (getItem v (.ref sl)) (EP X pins σ Q) X.xe s
def tSl (r:V→Option Int→Option Int→Hp→VK→Prop) (te:TE) (tl th:TO):TE:=fun σ H Q=>te σ H fun x H1=>tl σ H1 fun l H2=>th σ H2 fun u H3=>r x l u H3 Q
theorem Vl {r:V→Option Int→Option Int→Hp→VK→Prop} (hr:SlR X r) (he:PE X e te) (hl:PO X lo tl) (hu:PO X hi th):PE X (.Subscript e (.Slice lo hi none p2) pos) (tSl r te tl th):=by
 intro pins s σ H Q I h
 refine Subscript_ (thn (he pins s σ H _ I h) fun v s1 hpat=>?_)
 obtain ⟨x,H1,I1,r1,q1⟩:=hpat
 refine wpAny_Slice (thn (hl pins s1 σ H1 _ I1 q1) fun vl s2 ⟨l,H2,I2,pl,q2⟩=>thn (hu pins s2 σ H2 _ I2 q2) fun vu s3 hpat=>?_)
 obtain ⟨u,H3,I3,pu,q3⟩:=hpat
 rw [evalPart_none]
 refine wpAny_pure ?_
 have I4:Inv X pins σ H3 {s3 with heap:=s3.heap.push {cls:=.type "slice",data:=.fields #[vl,vu,.none]}}:=I3.kept (t':=s3.toks) fun b ob q=>Heap.get?_push_of_some _ q
 obtain ⟨T,id,hT,ht,hg⟩:=hr pins {s3 with heap:=s3.heap.push {cls:=.type "slice",data:=.fields #[vl,vu,.none]}} σ H3 x v vl vu l u s3.heap.objs.size Q I4 r1 (Heap.IsSliceOf.new ..) pl pu q3
 show wpAny (model X.prog X.w) X.A (subscriptTail e (.Slice lo hi none p2) v (.ref s3.heap.objs.size)) (EP X pins σ Q) X.xe {s3 with heap:=s3.heap.push {cls:=.type "slice",data:=.fields #[vl,vu,.none]}}
 exact tail_any (ops:=[.ref s3.heap.objs.size,v]) ht hT hg (by with_unfolding_all rfl)
def cW (xs:List V) (lo hi:Option Int):List V:=(xs.drop (HT.sIx xs.length 0 lo)).take (HT.sIx xs.length xs.length hi - HT.sIx xs.length 0 lo)
theorem Sf (xs:List V) (lo hi:Option Int):(cW xs lo hi).length≤xs.length:=by
 unfold cW
 rw [List.length_take,List.length_drop]
 omega
def rSlT (K:W.Frag):V→Option Int→Option Int→Hp→VK→Prop:=fun x lo hi H Q=>∃a xs,x=.ref a∧SqT K H a xs∧
 ¬(HT.sIx xs.length 0 lo=0∧HT.sIx xs.length xs.length hi=xs.length)∧∀p,H p=none→Q (.ref p) (upd H p (.tup (cW xs lo hi)))
theorem tG:SlR X (rSlT X.K):=by
 intro pins s σ H x v vl vu lo hi sl Q I rx hs pl pu h
 obtain ⟨a,xs,rfl,hx,hw,q⟩:=h
 cases rx
 obtain ⟨its,r,ht,hz⟩:=I.tuple hx
 have hlen:its.toArray.size=xs.length:=by rw [List.size_toArray];exact r.length.symm
 refine ⟨"tuple",_,PyProof.Rows.slot_tuple_getitem.lookup,ht.typeIs,?_⟩
 refine HT.getItem_tuple_cut ht hs pl pu (by rw [hlen];exact hw) ?_ (by rw [hlen];exact hz)
 rw [hlen]
 refine ⟨.ref s.heap.objs.size,_,I.laid (t':=s.toks) (o:=.tup (cW xs lo hi)) (fun b ob q=>Heap.get?_push_of_some _ q) (Nat.le_refl _) ?_,rfl,q _ (I.hok.fresh (Nat.le_refl _))⟩
 exact ⟨Nat.le_trans (Sf xs lo hi) hz,_,(r.drop (HT.sIx xs.length 0 lo)).take (HT.sIx xs.length xs.length hi - HT.sIx xs.length 0 lo),TupN.new _ _⟩
def uA (K:W.Frag):R2:=fun x y H Q=>∃a b ns ms,x=.ref a∧y=.ref b∧SqT K H a (ns.map V.int)∧SqT K H b (ms.map V.int)∧Q (.bl (HT.lexLt ns ms)) H
theorem rX (hu:X.A.units<cLine):OpR X (compareOp .Lt) (uA X.K):=by
 intro pins s σ H x y v u Q I rx ry h
 obtain ⟨a,b,ns,ms,rfl,rfl,ha,hb,q⟩:=h
 cases rx
 cases ry
 obtain ⟨its,r1,p1,_⟩:=I.tuple ha
 obtain ⟨its2,r2,p2,_⟩:=I.tuple hb
 have i1:IntsAre its.toArray.toList ns:=Vd r1
 have i2:IntsAre its2.toArray.toList ms:=Vd r2
 exact HT.lt_tupInts p1 p2 i1 i2 hu ⟨.bl (HT.lexLt ns ms),H,I,rfl,q⟩
end
def ixN (n:Nat) (i:Int):Option Nat:=if 0≤i then (if i<n then some i.toNat else none) else if -(n:Int)≤i then some (i+n).toNat else none
def atI {α:Type} (xs:List α) (i:Int):Option α:=(ixN xs.length i).bind fun j=>xs[j]?
theorem jb {n:Nat} {i:Int} {j:Nat} (h:ixN n i=some j):seqIndex? i n=some j∧j<n∧-(n:Int)≤i∧i<n:=by
 unfold ixN at h
 by_cases h0:0≤i
 ·rw [if_pos h0] at h
  by_cases h1:i<n
  ·rw [if_pos h1] at h
   have e:i.toNat=j:=Option.some.inj h
   exact ⟨by rw [seqIndex_of h0 h1,e],by omega,by omega,h1⟩
  ·rw [if_neg h1] at h;cases h
 ·rw [if_neg h0] at h
  by_cases h1:-(n:Int)≤i
  ·rw [if_pos h1] at h
   have e:(i+n).toNat=j:=Option.some.inj h
   exact ⟨by rw [seqIndex_neg (by omega) h1,e],by omega,h1,by omega⟩
  ·rw [if_neg h1] at h;cases h
theorem iF {α:Type} {xs:List α} {i:Int} {v:α} (h:atI xs i=some v):∃j,seqIndex? i xs.length=some j∧xs[j]?=some v∧j<xs.length∧-(xs.length:Int)≤i∧i<xs.length:=by
 unfold atI at h
 cases e:ixN xs.length i with
 | none=>rw [e] at h;cases h
 | some j=>
  rw [e] at h
  obtain ⟨h1,h2,h3,h4⟩:=jb e
  exact ⟨j,h1,h,h2,h3,h4⟩
theorem Of {α:Type} {xs:List α} {j:Nat} {v:α} (h:xs[j]?=some v):atI xs (j:Int)=some v:=by
 have hj:j<xs.length:=(List.getElem?_eq_some_iff.mp h).1
 have e:ixN xs.length (j:Int)=some j:=by
  unfold ixN
  rw [if_pos (by omega),if_pos (by omega)];simp
 unfold atI;rw [e];exact h
def qH (b:Expr):Prop:=∀o i,subscripted b false o i=operate [o,i] (getItem o i)
def IxR (X:Cx) (r:R2):Prop:=
 ∀(value slice:Expr) (pins:List (Addr×Obj)) (s:Shared) (σ:St) (H:Hp) (x y:V) (v u:Value) (Q:VK),Inv X pins σ H s→RelV x v→RelV y u→r x y H Q→
  subscripted slice false v u=operate [v,u] (getItem v u)→wpAny (model X.prog X.w) X.A (subscriptTail value slice v u) (EP X pins σ Q) X.xe s
def MtR (X:Cx) (id:String) (r:V→List V→Hp→VK→Prop):Prop:=
 ∀(pins:List (Addr×Obj)) (s:Shared) (σ:St) (H:Hp) (x:V) (xs:List V) (v:Value) (us:List Value) (Q:VK),Inv X pins σ H s→RelV x v→Vals xs us→r x xs H Q→
  wpAny (model X.prog X.w) X.A (call (.builtin id) (v::us)) (EP X pins σ Q) X.xe s
section
variable {X:Cx} {a b:Expr} {ta tb:TE} {pos:Pos}
theorem Zz {r:R2} (hr:IxR X r) (ha:PE X a ta) (hb:PE X b tb) (hs:qH b):PE X (.Subscript a b pos) (tOp r ta tb):=by
 intro pins s σ H Q I h
 exact Subscript_ (sE ha hb I h fun v u s2 x y H2 I2 rx ry q=>hr a b pins s2 σ H2 x y v u Q I2 rx ry q (hs _ _))
def rIxL (K:W.Frag):R2:=fun x y H Q=>∃p xs i v,x=.ref p∧y=.int i∧SqL K H p xs∧atI xs i=some v∧Q v H
def uO (K:W.Frag):R2:=fun x y H Q=>∃p xs i v,x=.ref p∧y=.int i∧SqT K H p xs∧atI xs i=some v∧Q v H
theorem Ym:IxR X (rIxL X.K):=by
 intro value slice pins s σ H x y v u Q I rx ry h hs
 obtain ⟨p,xs,i,z,rfl,rfl,hq,he,q⟩:=h
 cases rx
 obtain ⟨t,rfl⟩:=ry
 obtain ⟨its,r,pl,hz⟩:=I.list hq
 obtain ⟨j,h1,h2,h3,h4,h5⟩:=iF he
 obtain ⟨w,ew,rw'⟩:=r.get h2
 have hl:=r.length
 have hn:=O5
 have fin:EP X pins σ Q w s:=⟨z,H,I,rw',q⟩
 by_cases h0:0≤i
 ·have hj:i.toNat=j:=by
   rw [seqIndex_of h0 h5] at h1
   exact Option.some.inj h1
  exact item_listR pl.isList h0 (by omega) (by rw [hj];simpa using ew) fin hs
 ·have hj:(i+(its.toArray.size:Int)).toNat=j:=by
   rw [seqIndex_neg (by omega) h4] at h1
   rw [List.size_toArray,←hl]
   exact Option.some.inj h1
  exact subscriptTail_builtinR (x:=w) pl.isList.typeIs slot_list_getitem.lookup
   (wpAny_getItem_list_neg (Q:=fun r s'=>r=w∧EP X pins σ Q r s') pl.isList (by omega) (by rw [List.size_toArray] <;> omega) (by omega) (by rw [hj];simpa using ew) ⟨rfl,fin⟩) hs
theorem Yg:IxR X (uO X.K):=by
 intro value slice pins s σ H x y v u Q I rx ry h hs
 obtain ⟨p,xs,i,z,rfl,rfl,hq,he,q⟩:=h
 cases rx
 obtain ⟨t,rfl⟩:=ry
 obtain ⟨its,r,pl,hz⟩:=I.tuple hq
 obtain ⟨j,h1,h2,h3,h4,h5⟩:=iF he
 obtain ⟨w,ew,rw'⟩:=r.get h2
 have hl:=r.length
 have hn:=O5
 have fin:EP X pins σ Q w s:=⟨z,H,I,rw',q⟩
 exact subscriptTail_builtinR (x:=w) pl.typeIs slot_tuple_getitem.lookup
  (getItem_tuple (j:=j) (Q:=fun r s'=>r=w∧EP X pins σ Q r s') pl (by omega) (by omega) (by rw [List.size_toArray,←hl];exact h1) (by simpa using ew) ⟨rfl,fin⟩) hs
theorem gR (its:List Value) (n j:Nat) (u:Value):Obj.mapSeq (·.setIfInBounds j u) {cls:=.type "list",data:=.seq its.toArray n}={cls:=.type "list",data:=.seq (its.set j u).toArray n}:=by
 simp [Obj.mapSeq]
theorem Inv.lst {pins:List (Addr×Obj)} {σ:St} {H:Hp} {s:Shared} {p:Addr} {xs:List V} (I:Inv X pins σ H s) (h:H p=some (.lst xs)):
  ∃(its:List Value) (n:Nat),Vals xs its∧s.heap.get? p=some {cls:=.type "list",data:=.seq its.toArray n}∧xs.length≤sizeLine:=by
 obtain ⟨z,its,n,r,e⟩:=I.hok p _ h
 exact ⟨its,n,r,e,z⟩
theorem Inv.lstUpd {pins:List (Addr×Obj)} {σ:St} {H:Hp} {s:Shared} {p:Addr} {xs ys:List V} {its its':List Value} {n n':Nat} {f:Obj→Obj} (I:Inv X pins σ H s) (h:H p=some (.lst xs))
  (ho:s.heap.get? p=some {cls:=.type "list",data:=.seq its.toArray n}) (hf:f {cls:=.type "list",data:=.seq its.toArray n}={cls:=.type "list",data:=.seq its'.toArray n'}) (r:Vals ys its') (hz:ys.length≤sizeLine) (t:Nat):
  Inv X pins σ (upd H p (.lst ys)) {s with heap:=s.heap.update p f,toks:=t}:=by
 have e:(s.heap.update p f).get? p=some {cls:=.type "list",data:=.seq its'.toArray n'}:=by
  rw [Heap.get?_update_self f ho (by rw [hf] <;> rfl),hf]
 refine I.write (x:=p) (e:=p) (by rw [h];trivial) (.inl rfl) (fun b u hb q=>(Heap.get?_update_other _ _ (Ne.symm hb)).trans q) ⟨_,e⟩ ?_
 exact ⟨hz,its',n',r,e⟩
def u7:V→V→V→Hp→(Hp→Prop)→Prop:=fun o i v H Q=>∃p xs k j,o=.ref p∧i=.int k∧H p=some (.lst xs)∧ixN xs.length k=some j∧Q (upd H p (.lst (xs.set j v)))
theorem Ra:vC X u7:=by
 intro pins s σ H o i v ov iv u Q I ro ri rv h
 obtain ⟨p,xs,k,j,rfl,rfl,hp,hj,q⟩:=h
 cases ro
 obtain ⟨t,rfl⟩:=ri
 obtain ⟨its,n,r,ho,hz⟩:=I.lst hp
 obtain ⟨h1,h2,h3,h4⟩:=jb hj
 have hl:=r.length
 have hn:=O5
 have I':Inv X pins σ (upd H p (.lst (xs.set j v))) {s with heap:=s.heap.update p (Obj.mapSeq (·.setIfInBounds j u))}:=
  I.lstUpd hp ho (gR its n j u) (r.set rv j) (by rw [List.length_set];exact hz) s.toks
 by_cases h0:0≤k
 ·have hk:k.toNat=j:=by
   rw [seqIndex_of h0 h4] at h1
   exact Option.some.inj h1
  exact W.ki_setAt ho h0 (by omega) (by rw [List.size_toArray,←hl];exact h4) (by rw [hk];exact ⟨_,I',q⟩)
 ·have hk:(k+(its.toArray.size:Int)).toNat=j:=by
   rw [seqIndex_neg (by omega) h3] at h1
   rw [List.size_toArray,←hl]
   exact Option.some.inj h1
  exact W.ki_setBack ho (by omega) (by rw [List.size_toArray,←hl];exact h3) (by omega) (by rw [hk];exact ⟨_,I',q⟩)
theorem Pq (lo hi:Option Int) (n:Nat):(sliceBounds lo hi none n).1=((HT.sIx n 0 lo:Nat):Int)∧(sliceBounds lo hi none n).2.1=((HT.sIx n n hi:Nat):Int)∧(sliceBounds lo hi none n).2.2=1:=by
 refine ⟨?_,?_,rfl⟩
 ·cases lo with
  | none=>simp [sliceBounds,HT.sIx]
  | some i=>
   simp only [sliceBounds,HT.sIx,Option.getD_none,show (1:Int) > 0 by decide,if_true]
   by_cases h:i<0
   ·simp only [h,if_true] <;> omega
   ·simp only [h,if_false] <;> omega
 ·cases hi with
  | none=>simp [sliceBounds,HT.sIx]
  | some i=>
   simp only [sliceBounds,HT.sIx,Option.getD_none,show (1:Int) > 0 by decide,if_true]
   by_cases h:i<0
   ·simp only [h,if_true] <;> omega
   ·simp only [h,if_false] <;> omega
theorem Qi (its:List Value) (lo hi:Option Int):slicePick its.toArray lo hi none=((its.drop (HT.sIx its.length 0 lo)).take (HT.sIx its.length its.length hi - HT.sIx its.length 0 lo)).toArray:=by
 obtain ⟨h1,h2,h3⟩:=Pq lo hi its.toArray.size
 unfold slicePick
 rw [h1,h2,h3]
 simp only [sliceRange_one,pick_run,List.size_toArray] <;> rfl
def rSlL (K:W.Frag):V→Option Int→Option Int→Hp→VK→Prop:=fun x lo hi H Q=>∃a xs,x=.ref a∧SqL K H a xs∧∀p,H p=none→Q (.ref p) (upd H p (.lst (cW xs lo hi)))
theorem Pr:SlR X (rSlL X.K):=by
 intro pins s σ H x v vl vu lo hi sl Q I rx hs pl pu h
 obtain ⟨a,xs,rfl,hx,q⟩:=h
 cases rx
 obtain ⟨its,r,ht,hz⟩:=I.list hx
 have hlen:=r.length
 refine ⟨"list",_,slot_list_getitem.lookup,ht.isList.typeIs,?_⟩
 refine wpAny_getItem_list_slice ht.isList hs pl pu .none (by simp) ?_ (by rw [List.size_toArray] <;> omega)
 rw [Qi,←hlen]
 refine ⟨.ref s.heap.objs.size,_,I.laid (t':=s.toks) (o:=.lst (cW xs lo hi)) (fun b ob q=>Heap.get?_push_of_some _ q) (Nat.le_refl _) ?_,rfl,q _ (I.hok.fresh (Nat.le_refl _))⟩
 exact ⟨Nat.le_trans (Sf xs lo hi) hz,_,0,(r.drop (HT.sIx xs.length 0 lo)).take (HT.sIx xs.length xs.length hi - HT.sIx xs.length 0 lo),Heap.get?_push_size _ rfl⟩
theorem Zu:bZ X (.builtin "len") (fun xs H Q=>∃p ys,xs=[.ref p]∧(SqL X.K H p ys∨SqT X.K H p ys)∧Q (.int ys.length) H):=by
 intro pins s σ H xs us Q I r h
 obtain ⟨p,ys,rfl,hq,q⟩:=h
 obtain ⟨u,rfl,rx⟩:=Ve r
 cases rx
 have hn:=O5
 rcases hq with hq | hq
 ·obtain ⟨its,r',pl,hz⟩:=I.list hq
  have hlen:=r'.length
  exact Calls.call_len_list pl.isList (by simp only [List.size_toArray] <;> omega) ⟨.int ys.length,H,I.tok _,⟨s.toks+1,by rw [List.size_toArray,hlen]⟩,q⟩
 ·obtain ⟨its,r',pl,hz⟩:=I.tuple hq
  have hlen:=r'.length
  exact len_tuple pl (by simp only [List.size_toArray] <;> omega) ⟨.int ys.length,H,I.tok _,⟨s.toks+1,by rw [List.size_toArray,hlen]⟩,q⟩
theorem Oe:bZ X (.type "list") (fun xs H Q=>∃p ys,xs=[.ref p]∧(SqL X.K H p ys∨SqT X.K H p ys)∧∀l,H l=none→Q (.ref l) (upd H l (.lst ys))):=by
 intro pins s σ H xs us Q I r h
 obtain ⟨p,ys,rfl,hq,q⟩:=h
 obtain ⟨u,rfl,rx⟩:=Ve r
 cases rx
 have fin:∀(its:List Value),Vals ys its→ys.length≤sizeLine→∀(h':Heap) (c':Nat),(∀b o',s.heap.get? b=some o'→h'.get? b=some o')→
   h'.get? s.heap.objs.size=some {cls:=.type "list",dict:=none,data:=.seq its.toArray c',slots:=#[]}→EP X pins σ Q (.ref s.heap.objs.size) {s with heap:=h'}:=fun its r' hz h' c' kp e=>
  ⟨.ref s.heap.objs.size,_,I.laid (t':=s.toks) kp (Nat.le_refl _) (show ObjOk X.prog X.w _ h' _ (.lst ys) from ⟨hz,its,c',r',e⟩),rfl,q _ (I.hok.fresh (Nat.le_refl _))⟩
 rcases hq with hq | hq
 ·obtain ⟨its,r',pl,hz⟩:=I.list hq
  have hlen:=r'.length
  obtain ⟨o,ho,hc,n,hd⟩:=pl.isList
  exact call_list_seq p (.inl rfl) ho hc hd (fun h' c' kp e=>fin its r' hz h' c' kp e) (by simp only [List.size_toArray] <;> omega)
 ·obtain ⟨its,r',pl,hz⟩:=I.tuple hq
  have hlen:=r'.length
  obtain ⟨o,ho,hc,n,hd⟩:=pl
  exact call_list_seq p (.inr rfl) ho hc hd (fun h' c' kp e=>fin its r' hz h' c' kp e) (by simp only [List.size_toArray] <;> omega)
theorem Ui:bZ X (.type "tuple") (fun xs H Q=>∃p ys,xs=[.ref p]∧((SqL X.K H p ys∧∀l,H l=none→Q (.ref l) (upd H l (.tup ys)))∨(SqT X.K H p ys∧Q (.ref p) H))):=by
 intro pins s σ H xs us Q I r h
 obtain ⟨p,ys,rfl,h⟩:=h
 obtain ⟨u,rfl,rx⟩:=Ve r
 cases rx
 rcases h with ⟨hq,q⟩ | ⟨hq,q⟩
 ·obtain ⟨its,r',pl,hz⟩:=I.list hq
  have hlen:=r'.length
  refine call_tuple_list pl.isList (fun h' kp=>?_) (by simp only [List.size_toArray] <;> omega)
  have I1:Inv X pins σ H {s with heap:=h'}:=I.kept (t':=s.toks) kp
  have I2:Inv X pins σ (upd H h'.objs.size (.tup ys)) {s with heap:=h'.push {cls:=.type "tuple",data:=.seq its.toArray}}:=
   I1.laid (t':=s.toks) (fun b o e=>Heap.get?_push_of_some _ e) (Nat.le_refl _) (show ObjOk X.prog X.w _ _ _ (.tup ys) from ⟨hz,its,r',TupN.new _ _⟩)
  exact ⟨.ref h'.objs.size,_,I2,rfl,q _ (I1.hok.fresh (Nat.le_refl _))⟩
 ·obtain ⟨its,r',pl,hz⟩:=I.tuple hq
  exact call_tuple_same pl ⟨.ref p,H,I,rfl,q⟩
def tyV (K:W.Frag) (T:String) (x:V) (H:Hp):Prop:=match x with
 | .str _=>T="str"
 | .int _=>T="int"
 | .ref p=>(T="list"∧∃xs,SqL K H p xs)∨(T="tuple"∧∃o,K.lookup p=some o∧o.cls=.type "tuple"∧o.dict=none)∨
   (T="dict"∧((∃kvs,H p=some (.dK kvs))∨∃kvs,H p=some (.dT kvs)))∨(T="set"∧∃S n,H p=some (.set S n))
 | _=>False
theorem nt {pins:List (Addr×Obj)} {σ:St} {H:Hp} {s:Shared} {T:String} {x:V} {v:Value} (I:Inv X pins σ H s) (r:RelV x v) (ty:tyV X.K T x H):
  s.TypeIs v T∧∀a,v=.ref a→∃ob,s.heap.get? a=some ob∧ob.dict=none:=by
 cases x with
 | str z=>
  obtain ⟨t,rfl⟩:=r
  cases (show T="str" from ty)
  exact ⟨typeIs_str s z t,fun _ e=>nomatch e⟩
 | int i=>
  obtain ⟨t,rfl⟩:=r
  cases (show T="int" from ty)
  exact ⟨typeIs_int s i t,fun _ e=>nomatch e⟩
 | ref p=>
  cases r
  rcases ty with ⟨rfl,xs,hq⟩ | ⟨rfl,o,hk,hc,hd⟩ | ⟨rfl,hk⟩ | ⟨rfl,S,n,hk⟩
  ·obtain ⟨its,_,pl,_⟩:=I.list hq
   refine ⟨pl.isList.typeIs,fun a e=>?_⟩
   cases e
   obtain ⟨o,n,e,c,hd,_⟩:=pl
   exact ⟨o,e,hd⟩
  ·refine ⟨⟨o,I.kIn p o hk,hc⟩,fun a e=>?_⟩
   cases e
   exact ⟨o,I.kIn _ o hk,hd⟩
  ·have z:∃o,s.heap.get? p=some o∧o.ExactDict:=by
    rcases hk with ⟨kvs,hk⟩ | ⟨kvs,hk⟩
    ·obtain ⟨_,_,_,_,o,_,_,e,ex,_⟩:=I.hok p _ hk
     exact ⟨o,e,ex⟩
    ·obtain ⟨_,_,_,_,o,_,_,e,ex,_⟩:=I.hok p _ hk
     exact ⟨o,e,ex⟩
   obtain ⟨o,e,ex⟩:=z
   refine ⟨⟨o,e,ex.1⟩,fun a e2=>?_⟩
   cases e2
   exact ⟨o,e,ex.2.1⟩
  ·obtain ⟨o,_,_,_,e,ex,_⟩:=I.hok p _ hk
   refine ⟨⟨o,e,ex.1⟩,fun a e2=>?_⟩
   cases e2
   exact ⟨o,e,ex.2.1⟩
 | _=>exact False.elim ty
def tBM0 (K:W.Frag) (T:String) (r:V→List V→Hp→VK→Prop) (to:TE):TE:=fun σ H Q=>to σ H fun x H1=>tyV K T x H1∧r x [] H1 Q
def tBM (K:W.Frag) (T:String) (r:V→List V→Hp→VK→Prop) (to:TE) (t:TA):TE:=fun σ H Q=>to σ H fun x H1=>tyV K T x H1∧t σ H1 fun xs H2=>r x xs H2 Q
variable {o e:Expr} {es:List Expr} {to:TE} {t:TA} {name:Str} {apos cpos:Pos} {T id:String} {r:V→List V→Hp→VK→Prop}
theorem Up (pa:PlainAttrs T) (slot:Slot T name id) (hty:typeOf (.builtin id)=pure (.type "method_descriptor")) (hm:MtR X id r) (ho:PE X o to)
  (hbase:attributeBase o name X.env (eval o X.env)=eval o X.env:=by rfl) (hline:(apos.endLine == cpos.line)=true:=by rfl):PE X (.Call (.Attribute o name apos) [] [] cpos) (tBM0 X.K T r to):=by
 intro pins s σ H Q I h
 refine wpAny_Call_method0_late hbase hline (thn (ho pins s σ H _ I h) fun v s1 hpat=>?_)
 obtain ⟨x,H1,I1,r1,ty,q1⟩:=hpat
 obtain ⟨h1,h2⟩:=nt I1 r1 ty
 exact ⟨T,id,pa,slot,hty,h1,h2,Calls.callWith_builtin rfl (PySem.evalArgs_none (hm pins s1 σ H1 x [] v [] Q I1 r1 .nil q1))⟩
theorem Rn (pa:PlainAttrs T) (slot:Slot T name id) (hty:typeOf (.builtin id)=pure (.type "method_descriptor")) (hm:MtR X id r) (ho:PE X o to) (ha:PA X (e::es) t)
  (hbase:attributeBase o name X.env (eval o X.env)=eval o X.env:=by rfl)
  (hfew:((backTo cpos (starEach (e::es) X.env)).all (fun x=>!x.1) && (backToKw cpos (keywordEach [] X.env)).all (fun x=>x.1.isSome)
   && decide ((e::es).length+([]:List Keyword).length+(if ([]:List Keyword).isEmpty then 0 else 1)<30))=true:=by rfl)
  (hline:(apos.endLine == cpos.line)=true:=by rfl) (hs:starEach (e::es) X.env=(false,eval e X.env)::starEach es X.env:=by rfl) (hplain:(backTo cpos (starEach es X.env)).any (·.1)=false:=by rfl):
  PE X (.Call (.Attribute o name apos) (e::es) [] cpos) (tBM X.K T r to t):=by
 intro pins s σ H Q I h
 refine wpAny_Call_method_late hbase hfew hline rfl (thn (ho pins s σ H _ I h) fun v s1 hpat=>?_)
 obtain ⟨x,H1,I1,r1,ty,q1⟩:=hpat
 obtain ⟨h1,h2⟩:=nt I1 r1 ty
 refine ⟨T,id,pa,slot,hty,h1,h2,?_⟩
 have hA:=ha cpos pins s1 σ H1 _ I1 q1
 rw [hs] at hA ⊢
 refine Calls.callWith_builtin (by show (false || (backTo cpos (starEach es X.env)).any (·.1))=false;rw [hplain] <;> rfl) (Calls.evalArgs_plain ?_)
 exact thn hA fun us s2 ⟨vs,H2,I2,r2,q2⟩=>hm pins s2 σ H2 x vs v us Q I2 r1 r2 q2
end
def MtM (X:Cx) (id:String) (r:V→List V→Hp→VK→Prop):Prop:=
 ∀(pins:List (Addr×Obj)) (s:Shared) (σ:St) (H:Hp) (x:V) (xs:List V) (v:Value) (us:List Value) (Q:VK),Inv X pins σ H s→RelV x v→Vals xs us→r x xs H Q→
  wpAny (model X.prog X.w) X.A (call (.builtin id) (v::us)) (EP X pins σ Q) X.xe s
theorem Vals.one {x:V} {us:List Value} (h:Vals [x] us):∃u,us=[u]∧RelV x u:=by
 cases h with
 | cons r t=>
  cases t
  exact ⟨_,rfl,r⟩
theorem Vals.zero:∀{us:List Value},Vals [] us→us=[]
 | _,.nil=>rfl
theorem Vals.dropLast {xs:List V} {us:List Value} (h:Vals xs us):Vals xs.dropLast us.dropLast:=by
 induction h with
 | nil=>exact .nil
 | cons r t ih=>
  cases t with
  | nil=>exact .nil
  | cons q t'=>exact .cons r ih
theorem ga {α:Type} (l:List α):l.eraseIdx (l.length - 1)=l.dropLast:=by
 induction l with
 | nil=>rfl
 | cons a r ih=>
  cases r with
  | nil=>rfl
  | cons b r=>
   have e:(a::b::r).length - 1=((b::r).length - 1)+1:=by
    have h1:(a::b::r).length=r.length+2:=rfl
    have h2:(b::r).length=r.length+1:=rfl
    omega
   rw [e,List.eraseIdx_cons_succ,ih]
   all_goals rfl
section
variable {X:Cx} {pins:List (Addr×Obj)} {σ:St} {H:Hp} {s:Shared} {l b:Addr} {xs ys zs:List V}
theorem Inv.lset {its its':List Value} {n:Nat} {f:Array Value→Array Value} {t':Nat} (I:Inv X pins σ H s) (hH:H l=some (.lst xs))
  (e:s.heap.get? l=some {cls:=.type "list",data:=.seq its.toArray n}) (hf:f its.toArray=its'.toArray) (hv:Vals ys its') (hz:ys.length≤sizeLine):
  Inv X pins σ (upd H l (.lst ys)) {s with heap:=s.heap.update l (Obj.mapSeq f),toks:=t'}:=by
 have q:=PySem.IsL.update e f
 rw [hf] at q
 refine I.write (x:=l) (e:=l) (by rw [hH];exact trivial) (.inl rfl) (fun b' u hb hu=>(Heap.get?_update_other s.heap (Obj.mapSeq f) (Ne.symm hb)).trans hu) ⟨_,q⟩ ?_
 exact ⟨hz,its',_,hv,q⟩
theorem Inv.lnew {its:List Value} {t':Nat} (I:Inv X pins σ H s) (hv:Vals ys its) (hz:ys.length≤sizeLine):
  Inv X pins σ (upd H s.heap.objs.size (.lst ys)) {s with heap:=s.heap.push {cls:=.type "list",data:=.seq its.toArray},toks:=t'}:=
 I.laid (fun _ _ q=>Heap.get?_push_of_some _ q) (Nat.le_refl _) ⟨hz,its,0,hv,Heap.get?_push_size _ rfl⟩
theorem Inv.fresh (I:Inv X pins σ H s):H s.heap.objs.size=none:=I.hok.fresh (Nat.le_refl _)
theorem Inv.lstM (I:Inv X pins σ H s) (hH:H l=some (.lst xs)):xs.length≤sizeLine∧∃(its:List Value) (n:Nat),Vals xs its∧xs.length=its.length∧s.heap.get? l=some {cls:=.type "list",data:=.seq its.toArray n}:=by
 obtain ⟨z,its,n,r,e⟩:=I.hok l _ hH
 exact ⟨z,its,n,r,r.length,e⟩
theorem mL {n:Nat} (h:n≤sizeLine):Builtin.List.listTooLong n=false:=by
 unfold Builtin.List.listTooLong
 exact decide_eq_false (by omega)
end
section
variable {X:Cx}
def qK:V→List V→Hp→VK→Prop:=fun x vs H Q=>∃l xs y,x=.ref l∧vs=[y]∧H l=some (.lst xs)∧xs.length<sizeLine∧Q .non (upd H l (.lst (xs++[y])))
theorem Wt:MtM X "list.append" qK:=by
 intro pins s σ H x vs v us Q I rx rv h
 obtain ⟨l,xs,y,rfl,rfl,hH,hz,q⟩:=h
 cases rx
 obtain ⟨u,rfl,ru⟩:=rv.one
 obtain ⟨z,its,n,r,hl,e⟩:=I.lstM hH
 refine call_meets F.slot_list_append ⟨_,e,rfl⟩ F.entry_list_append (F.args_list_append_2 _ _) (PySem.list_append l its.toArray n u (by rw [List.size_toArray];omega)) ⟨e,?_⟩
 refine ⟨.non,_,I.lset (its':=its++[u]) hH e (by simp) (r.append (.cons ru .nil)) ?_,rfl,q⟩
 rw [List.length_append,List.length_singleton]
 omega
def qf:V→List V→Hp→VK→Prop:=fun x vs H Q=>∃l b xs zs,x=.ref l∧vs=[.ref b]∧H l=some (.lst xs)∧H b=some (.lst zs)∧xs.length+zs.length≤sizeLine∧Q .non (upd H l (.lst (xs++zs)))
theorem j4:MtM X "list.extend" qf:=by
 intro pins s σ H x vs v us Q I rx rv h
 obtain ⟨l,b,xs,zs,rfl,rfl,hH,hB,hz,q⟩:=h
 cases rx
 obtain ⟨u,rfl,ru⟩:=rv.one
 cases ru
 obtain ⟨z,its,n,r,hl,e⟩:=I.lstM hH
 obtain ⟨z2,its2,n2,r2,hl2,e2⟩:=I.lstM hB
 have hsz:its.toArray.size+its2.toArray.size≤sizeLine:=by rw [List.size_toArray,List.size_toArray];omega
 have hlong:¬(!its.toArray.isEmpty && Builtin.List.listTooLong (its.toArray.size+its2.toArray.size))=true:=by
  rw [mL hsz,Bool.and_false]
  exact Bool.false_ne_true
 refine call_meets F.slot_list_extend ⟨_,e,rfl⟩ F.entry_list_extend (F.args_list_extend_2 _ _)
  (AutoSeq1.list_extend_list_list_0 l its.toArray n b its2.toArray n2 hlong (by rw [List.size_toArray];omega) (by omega)) ⟨e,e2,?_⟩
 refine ⟨.non,_,I.lset (its':=its++its2) hH e (by simp) (r.append r2) ?_,rfl,q⟩
 rw [List.length_append]
 omega
def rPop:V→List V→Hp→VK→Prop:=fun x vs H Q=>∃l xs y,x=.ref l∧vs=[]∧H l=some (.lst xs)∧xs[xs.length - 1]?=some y∧Q y (upd H l (.lst xs.dropLast))
theorem O4:MtM X "list.pop" rPop:=by
 intro pins s σ H x vs v us Q I rx rv h
 obtain ⟨l,xs,y,rfl,rfl,hH,hy,q⟩:=h
 cases rx
 have hus:=rv.zero
 subst hus
 obtain ⟨z,its,n,r,hl,e⟩:=I.lstM hH
 obtain ⟨u,hu,ru⟩:=r.get hy
 have hy':its.toArray[its.toArray.size - 1]?=some u:=by
  show its.toArray[its.length - 1]?=some u
  rw [←Array.getElem?_toList,←hl]
  exact hu
 refine call_meets F.slot_list_pop ⟨_,e,rfl⟩ F.entry_list_pop (F.args_list_pop_1 _) (MeetsSeq.list_pop_last l its.toArray n u hy' (by rw [List.size_toArray];omega)) ⟨e,?_⟩
 refine ⟨y,_,I.lset (its':=its.dropLast) hH e ?_ r.dropLast ?_,ru,q⟩
 ·show its.toArray.eraseIdxIfInBounds (its.toArray.size - 1)=its.dropLast.toArray
  rw [List.size_toArray,List.eraseIdxIfInBounds_toArray,ga]
 ·rw [List.length_dropLast]
  omega
def rCat:R2:=fun x y H Q=>∃l b xs zs,x=.ref l∧y=.ref b∧H l=some (.lst xs)∧H b=some (.lst zs)∧xs.length+zs.length≤sizeLine∧∀p,H p=none→Q (.ref p) (upd H p (.lst (xs++zs)))
theorem O2:OpR X (binaryOp .Add) rCat:=by
 intro pins s σ H x y v u Q I rx ry h
 obtain ⟨l,b,xs,zs,rfl,rfl,hH,hB,hz,q⟩:=h
 cases rx
 cases ry
 obtain ⟨z,its,n,r,hl,e⟩:=I.lstM hH
 obtain ⟨z2,its2,n2,r2,hl2,e2⟩:=I.lstM hB
 refine PySem.P.add_list e e2 ?_ (by rw [List.size_toArray,List.size_toArray];omega)
 have ea:its.toArray++its2.toArray=(its++its2).toArray:=by simp
 rw [ea]
 exact ⟨.ref _,_,I.lnew (t':=s.toks) (r.append r2) (by rw [List.length_append];omega),rfl,q _ I.fresh⟩
end
section
variable {prog:Program} {w:World} {A:Around} {E:Value→Shared→Prop} {s:Shared}
end
section
variable {X:Cx}
end
end L2
namespace Att
open PySem PySem.W PySem.Calls PyProof.Rows
theorem Sk {P:Params} {h:Heap}:∀(ns:List Int) (vs:List Value),WellAll P h vs (ns.map WData.int)→IntsAre vs ns:=by
 intro ns
 induction ns with
 | nil=>
  intro vs w
  rw [List.map_nil] at w
  cases w
  exact .nil
 | cons n ns ih=>
  intro vs w
  rw [List.map_cons] at w
  cases w with
  | cons a b=>
   cases a
   exact .cons _ _ (ih _ b)
theorem kf {l:OpenLaw} {n:Nat} (hn:l.most=some n) {P:Params} {h:Heap} {args:List WData} {vals:List Value}
  (hpre:l.row.toRowW.claim.pre args=true) (hwl:WellAll P h vals args):
  ∃a vs ns,vals=[Value.ref a]∧args=[WData.list (ns.map WData.int)]∧h.get? a=some {cls:=.type "list",data:=.seq vs.toArray}∧IntsAre vs ns∧ns.length≤n:=by
 have hsh:WShape.hasAll [] args [.list .int]=true:=(pre_splitW hpre).1
 have hc:l.pre.holds [] {args:=args}=true:=(pre_splitW hpre).2
 obtain ⟨d,r,rfl,h1,h2⟩:=hasAllW_cons hsh
 obtain rfl:=hasAllW_nil h2
 obtain ⟨xs,rfl,h3⟩:=hasW_list h1
 obtain ⟨ns,rfl⟩:=items_int h3
 have hlen:ns.length≤n:=by
  unfold OpenLaw.pre at hc
  have h4:(WTm.not (.lt (.lit (.int (n:Int))) (.len (.arg 0)))).holds [] {args:=[.list (ns.map .int)]}=true:=by
   have h4:=(holds_andW hc).1
   rw [hn] at h4
   exact h4
  have h5:=condW_of h4 (w_not (w_lt w_lit (w_len_list (w_arg rfl))))
  rw [List.length_map] at h5
  refine Nat.le_of_not_lt fun q=>?_
  have q':(n:Int)<((ns.length:Nat):Int):=by omega
  first
   | (rw [decide_eq_true q'] at h5;exact absurd h5 (by decide))
   | (simp at h5;omega)
 cases hwl with
 | cons w1 w2=>
  cases w2
  cases w1 with
  | list ho hall=>exact ⟨_,_,ns,rfl,rfl,ho,Sk ns _ hall,hlen⟩
theorem kS (l:OpenLaw) (args:List WData):l.row.toRowW.claim.post args (.bool true) args=true:=
 postW_of (r:=l.row.toRowW) (X:=(true == true))
  (show WShape.has [] (.bool true) .bool=true by first | rfl | decide | simp [WShape.has,WShape.arms,WShape.armsAll])
  (show (WTm.eq .res (.lit (.bool true))).value [] {args:=args,res:=some (.bool true),after:=args}=some (.bool (true == true)) from w_eq_bool (w_res rfl) w_lit) rfl
theorem attach_call {l:OpenLaw} {n:Nat} {q:Program} {loose:List Str} {XP:(Str→Option Value)→Heap→Prop} {YP:World→Heap→Prop} {d:DefRec}
  (hn:l.most=some n) (hdf:d.params.defaults=[])
  (call:∀(w:World) (s₀ s₁:Shared) (mg mb:Str→Option Value) (fa:Addr) (o:Obj) (pm cd doc:Value) (a:Addr) (vs:List Value) (ns:List Int),
   Ground q loose [] XP w s₀ mg mb s₁.heap→YP w s₁.heap→
   s₁.heap.get? fa=some o→o.data=.func (docDef d.name d.params d.body d.scope pm cd doc)→s₁.heap.CodeRec cd d.name→mg d.name=some (.ref fa)→
   s₁.heap.get? a=some {cls:=.type "list",data:=.seq vs.toArray}→IntsAre vs ns→ns.length≤n→s₁.gens=#[]→
   codeAny (model l.prog w) callerA (.call (.ref fa) ⟨[.ref a],[]⟩) (fun r s'=>r=.ok (.ret (.bool true))∧OldK s₁.heap s'.heap∧s'.os=s₁.os∧AllBare s'.gens) s₁):
  WalkO q loose XP YP l.row.toRowW d [] (fun f vs=>PySem.call f vs):=by
 intro w s₀ s₁ mg mb G Y fa o pm cd doc dV kV ho hd hcd hD hmg hg args vals as hpre hlay hrd hwl hlo
 obtain rfl:dV=.none:=Dflts.none hD hdf
 obtain rfl:kV=.none:=Dflts.noKw hD
 obtain ⟨a,vs,ns,rfl,rfl,hobj,hints,hlen⟩:=kf hn hpre hwl
 refine enter_call (codeAny_mono (call w s₀ s₁ mg mb fa o pm cd doc a vs ns G Y ho (fd_plain hd) hcd hmg hobj hints hlen hg) fun r s' hq=>?_)
 obtain ⟨rfl,h2,h3,h4⟩:=hq
 exact ⟨.inl ⟨.bool true,.bool true,[],rfl,fun _=>rfl,.bool true,kS l _,fun _=>⟨List.Pairwise.nil,fun _ hm=>(nomatch hm)⟩⟩,h2,h3,h4⟩
section
variable {prog:Program} {w:World} {A:Around} {E:Value→Shared→Prop} {s:Shared} {K:Frag}
end
end Att
namespace L2
open PySem PySem.Spec PyProof.Rows
theorem Ty:∀{vs:List Value} {ns:List Int},IntsAre vs ns→Vals (ns.map V.int) vs
 | _,_,.nil=>.nil
 | _,_,.cons n t h=>.cons ⟨t,rfl⟩ (Ty h)
end L2
namespace L2
open PySem PySem.Spec PyProof.Rows
def ag (s:Stmt):Arguments:=match s with
 | .FunctionDef _ a _ _ _ _ _ _ _ _=>a
 | _=>{posonlyargs:=[],args:=[],vararg:=none,kwonlyargs:=[],kw_defaults:=[],kwarg:=none,defaults:=[]}
def ae (s:Stmt):List Stmt:=match s with
 | .FunctionDef _ _ b _ _ _ _ _ _ _=>b
 | _=>[]
def aa (s:Stmt):Scope:=match s with
 | .FunctionDef _ _ _ _ _ _ sc _ _ _=>sc
 | _=>{kind:=.function,names:=[],isGenerator:=false,isCoroutine:=false}
abbrev CX0:CXT:=fun _ _ _ _ _ _=>False
abbrev E0:XK:=fun _ _ _=>False
theorem uv {X:Cx}:fX CX0 X E0:=fun _ _ _ _ _ _ _ h=>h.elim
structure Fun (K:W.Frag) (x qual:Str) (st:Stmt) (f:Addr) (fd:FuncData):Prop where
 ex:∃(oc:Value) (od:Option Addr) (kV doc pm:Value) (an:Option Addr) (cdv ct:Value) (osl:Array (Option Value)),
  fd=W.fnOf x qual (ag st) (ae st) (aa st) .none kV doc pm an cdv ct∧K.lookup f=some ⟨oc,od,.func fd,osl⟩∧W.codeIn K cdv qual=true
 kp:W.keepIn K (.ref f)=true
section
variable {P:Program} {w:World} {K:W.Frag} {mg:Str→Option Value} {base:Heap}
theorem Fun.ok {x qual:Str} {st:Stmt} {f:Addr} {fd:FuncData} {N ps:List Str} {k:Nat} {sp:Sp} (F:Fun K x qual st f fd) (S:FnScope N ps (aa st)) (len:∀vs H Q E,sp vs H Q E→vs.length=ps.length)
  (hbody:∀(cdv:Value) (A:Around) (outer:List Env) (s:Shared) (H:Hp) (vs:List V) (Q:VK) (E:XK),Room k (A.deeper (envOfC qual (aa st) s.heap.objs.size f cdv))→sp vs H Q E→
   ∃t,PSs (kD CX0 P w K mg base N qual (aa st) f cdv A outer s H E).nox (ae st) t∧t {nx:=fun _ H'=>Q .non H',rt:=Q} (cN N vs) H):FnOk P w K mg base CX0 (k+1) f fd ps sp:=by
 obtain ⟨oc,od,kV,doc,pm,an,cdv,ct,osl,rfl,lk,hcd⟩:=F.ex
 refine nR lk hcd S len fun A outer s H vs Q E hr hsp=>?_
 obtain ⟨t,h,q⟩:=hbody cdv A outer s H vs Q E hr hsp
 exact ⟨t,h.nox,q⟩
theorem Fun.binds {x qual:Str} {st:Stmt} {f:Addr} {fd:FuncData} {ps:List Str} (F:Fun K x qual st f fd)
  (h:∀(kV doc pm:Value) (an:Option Addr) (cdv ct:Value) (us:List Value),us.length=ps.length→bindArgs (W.fnOf x qual (ag st) (ae st) (aa st) .none kV doc pm an cdv ct) ⟨us,[]⟩=pure (ps.zip us)):Binds K fd ps []:=by
 obtain ⟨oc,od,kV,doc,pm,an,cdv,ct,osl,rfl,lk,hcd⟩:=F.ex
 exact .all (h kV doc pm an cdv ct)
theorem Zm {x qual:Str} {st:Stmt} {f:Addr} {oc:Value} {od an:Option Addr} {osl:Array (Option Value)} {kV doc pm cdv ct:Value} (l:K.lookup f=some ⟨oc,od,.func (W.fnOf x qual (ag st) (ae st) (aa st) .none kV doc pm an cdv ct),osl⟩)
  (c:W.codeIn K cdv qual=true) (k:W.keepIn K (.ref f)=true):Fun K x qual st f (W.fnOf x qual (ag st) (ae st) (aa st) .none kV doc pm an cdv ct):=⟨⟨oc,od,kV,doc,pm,an,cdv,ct,osl,rfl,l,c⟩,k⟩
end
theorem Yp {A:Around} {k:Nat} (hr:Room k A):A.units+1<cLine:=Nat.lt_of_le_of_lt (Nat.add_le_add_left (by decide:1≤64) _) hr.units
section
variable {X:Cx}
theorem pv (i:Nat) {x:Str} {pos:Pos} (hN:X.N[i]?=some x:=by rfl) (hv:Vis X.env.scope x:=by first | exact Or.inl rfl | exact Or.inr (Or.inl rfl) | exact Or.inr (Or.inr rfl)) (hd:(x == ("__debug__":Str))=false:=by decide)
  (hcd:(x == ("__classdict__":Str))=false:=by decide):PE X (.Name x pos) (va i):=mQ hN hv hd hcd
end
theorem Y5 {A B:Prop} (h:B):if false=true then A else B:=by
 rw [if_neg Bool.false_ne_true]
 exact h
theorem Wy {A B:Prop} (h:A):if true=true then A else B:=by
 rw [if_pos rfl]
 exact h
theorem Tp {c A B:Prop} [Decidable c] (h1:c→A) (h2:¬c→B):if c then A else B:=by
 by_cases h:c
 ·rw [if_pos h]
  exact h1 h
 ·rw [if_neg h]
  exact h2 h
def Same (H H':Hp):Prop:=∀b o,H b=some o→H' b=some o
theorem Same.refl (H:Hp):Same H H:=fun _ _ h=>h
theorem Same.trans {H H1 H2:Hp} (a:Same H H1) (b:Same H1 H2):Same H H2:=fun c o h=>b c o (a c o h)
theorem Same.free {H H':Hp} (e:Same H H') {l:Addr} (h:H' l=Option.none):H l=Option.none:=by
 cases q:H l with
 | none=>rfl
 | some o=>
  rw [e l o q] at h
  cases h
end L2
set_option maxHeartbeats 4000000
set_option bootstrap.genMatcherCode false
set_option genInjectivity false
set_option genSizeOf false
noncomputable section
namespace L2
open PySem PySem.Spec PyProof.Rows
theorem Q8 {α β:Type} {f:α→β→Sem (ForInStep β)} {g:β→α→β}:∀(l:List α) (c:β),(∀x∈l,∀c,f x c=pure (.yield (g c x)))→forIn l c f=pure (l.foldl g c)
 | [],_,_=>rfl
 | x::l,c,h=>by
  rw [List.forIn_cons,h x List.mem_cons_self,pure_bind]
  exact Q8 l (g c x) fun y hy=>h y (List.mem_cons_of_mem _ hy)
def bh (env:Env) (acc:List (Str×Addr)) (x:Str×NameKind):List (Str×Addr):=if x.2 == .free then (x.1,(env.cells.lookup x.1).getD 0)::acc else acc
def aG (env:Env) (names:List (Str×NameKind)):List (Str×Addr):=names.foldl (bh env) []
theorem Uh {scope:Scope} {env:Env} (h:∀x∈scope.names,x.2=.free→∃c,env.cells.lookup x.1=some c):closureFor scope env=pure (aG env scope.names):=by
 simp only [closureFor]
 rw [Q8 (g:=bh env) scope.names [] (fun x hx c=>by
  obtain ⟨n,kind⟩:=x
  by_cases hk:kind=.free
  ·subst hk
   obtain ⟨a,ha⟩:=h _ hx rfl
   have ha':env.cells.lookup n=some a:=ha
   simp [bh,cellOf,ha']
  ·have hb:(kind == NameKind.free)=false:=by simpa using hk
   simp [bh,hb])]
 rfl
theorem Ud {env:Env}:∀(names:List (Str×NameKind)) (acc:List (Str×Addr)),(∀x∈names,x.2=.free→∃c,env.cells.lookup x.1=some c)→(∀p∈acc,env.cells.lookup p.1=some p.2)→
  ∀p∈names.foldl (bh env) acc,env.cells.lookup p.1=some p.2
 | [],_,_,h=>h
 | x::r,acc,hn,h=>by
  refine Ud r _ (fun y hy=>hn y (List.mem_cons_of_mem _ hy)) ?_
  intro p hp
  unfold bh at hp
  split at hp
  ·rename_i hk
   rcases List.mem_cons.mp hp with e | e
   ·subst e
    obtain ⟨c,hc⟩:=hn x List.mem_cons_self (by simpa using hk)
    show env.cells.lookup x.1=some ((env.cells.lookup x.1).getD 0)
    rw [hc]
    rfl
   ·exact h p e
  ·exact h p hp
theorem Pa {env:Env}:∀(names:List (Str×NameKind)) (acc:List (Str×Addr)) (p:Str×Addr),p∈acc→p∈names.foldl (bh env) acc
 | [],_,_,h=>h
 | x::r,acc,p,h=>by
  refine Pa r _ p ?_
  unfold bh
  split
  ·exact List.mem_cons_of_mem _ h
  ·exact h
theorem V1 {env:Env}:∀(names:List (Str×NameKind)) (acc:List (Str×Addr)) (x:Str),(x,NameKind.free)∈names→∃c,(x,c)∈names.foldl (bh env) acc
 | y::r,acc,x,h=>by
  rcases List.mem_cons.mp h with e | e
  ·subst e
   exact ⟨_,Pa r _ _ (by unfold bh;rw [if_pos (by rfl)];exact List.mem_cons_self)⟩
  ·exact V1 r _ x e
theorem Ys {α:Type}:∀{l:List (Str×α)} {x:Str} {c:α},(x,c)∈l→∃d,l.lookup x=some d
 | (y,d)::r,x,c,h=>by
  rw [List.lookup_cons]
  cases e:x == y with
  | true=>exact ⟨d,rfl⟩
  | false=>
   rcases List.mem_cons.mp h with q | q
   ·cases q
    rw [beq_self_eq_true] at e
    cases e
   ·exact Ys q
theorem Xz (env:Env):∀(names:List (Str×NameKind)) (x:Str),(names.map fun (n,k)=>if (k == NameKind.free && env.scope.kind == .function && env.kindOf n == some .cell) then (n,NameKind.cell) else (n,k)).lookup x =
  (names.lookup x).map fun k=>if (k == NameKind.free && env.scope.kind == .function && env.kindOf x == some .cell) then NameKind.cell else k
 | [],_=>rfl
 | (n,k)::r,x=>by
  have ih:=Xz env r x
  show List.lookup x ((if (k == NameKind.free && env.scope.kind == .function && env.kindOf n == some .cell)=true then (n,NameKind.cell) else (n,k))::_)=_
  have hr:((n,k)::r).lookup x=(match x == n with | true=>some k | false=>r.lookup x):=List.lookup_cons ..
  rw [hr]
  by_cases hc:(k == NameKind.free && env.scope.kind == .function && env.kindOf n == some .cell)=true
  ·rw [if_pos hc,List.lookup_cons]
   cases hx:x == n with
   | true=>
    have e:x=n:=eq_of_beq hx
    subst e
    show some NameKind.cell=some (if (k == NameKind.free && env.scope.kind == .function && env.kindOf x == some .cell)=true then NameKind.cell else k)
    rw [if_pos hc]
   | false=>exact ih
  ·rw [if_neg hc,List.lookup_cons]
   cases hx:x == n with
   | true=>
    have e:x=n:=eq_of_beq hx
    subst e
    show some k=some (if (k == NameKind.free && env.scope.kind == .function && env.kindOf x == some .cell)=true then NameKind.cell else k)
    rw [if_neg hc]
   | false=>exact ih
def cxC (X:Cx) (own:List Str) (scope:Scope) (cl:List (Str×Addr)) (C:Addr) (s:Shared) (H:Hp) (fp:List Addr):Cx:=
 {X with N:=own++X.N,s₀:=s,H₀:=H,env:=compEnvC scope cl C X.env,outer:=X.stack,stack:=X.stack,ex:=fp,fn:=fun _=>false,xe:=fun _ _=>False}
def PTs (X:Cx) (ifs:List Expr) (t:TT):Prop:=
 ∀(pins:List (Addr×Obj)) (s:Shared) (σ:St) (H:Hp) (Q:Bool→Hp→Prop),Inv X pins σ H s→t σ H Q→
  wpAny (model X.prog X.w) X.A (forIn ifs true fun c r=>if r=true then do let ok ←isTrue c X.env (eval c X.env);pure (ForInStep.yield ok) else pure (ForInStep.yield r)) (TP X pins σ Q) X.xe s
def tAll:TT:=fun _ H Q=>Q true H
theorem Xm {X:Cx}:PTs X [] tAll:=fun _ _ _ H _ I h=>wpAny_tests_nil ⟨H,I,h⟩
theorem iw {X:Cx} {c:Expr} {t:TT} (h:PT X c t):PTs X [c] t:=fun pins s σ H Q I q=>wpAny_tests_one (h pins s σ H Q I q)
def Wk:St→St→Prop
 | [],[]=>True
 | _::r,none::t=>Wk r t
 | a::r,some v::t=>a=some v∧Wk r t
 | _,_=>False
theorem Wk.len:∀{a b:St},Wk a b→b.length=a.length
 | [],[],_=>rfl
 | _::r,none::t,h=>congrArg (·+1) (Wk.len (a:=r) (b:=t) h)
 | _::r,some _::t,h=>congrArg (·+1) (Wk.len (a:=r) (b:=t) h.2)
 | [],none::_,h=>h.elim
 | [],some _::_,h=>h.elim
 | _::_,[],h=>h.elim
theorem Wk.get:∀{a b:St} (i:Nat) (v:V),Wk a b→b[i]?=some (some v)→a[i]?=some (some v)
 | _::_,none::_,0,v,_,e=>by simp at e
 | _::_,some _::_,0,v,h,e=>by simp at e ⊢;rw [h.1,e]
 | _::r,none::t,i+1,v,h,e=>by simp at e ⊢;exact Wk.get (a:=r) (b:=t) i v h e
 | _::r,some _::t,i+1,v,h,e=>by simp at e ⊢;exact Wk.get (a:=r) (b:=t) i v h.2 e
 | [],[],i,v,h,e=>by simp at e
 | [],none::_,_,_,h,_=>h.elim
 | [],some _::_,_,_,h,_=>h.elim
 | _::_,[],_,_,h,_=>h.elim
theorem Wk.refl:∀(a:St),Wk a a
 | []=>trivial
 | none::r=>Wk.refl r
 | some _::r=>⟨rfl,Wk.refl r⟩
def CompR (J:It) (H:Hp) (k:Nat) (g:TG) (tt:TT) (te:TE) (σ:St) (Q:VK):Prop:=∃W:Nat→Nat→List V→Hp→Prop,(∃m,W 0 m [] H)∧∀i m ys H,W i m ys H→
 (J.stop i H∧ys.length≤sizeLine∧∀p,H p=none→Q (.ref p) (upd H p (.lst ys)))∨
 (J.go i H∧ys.length<sizeLine∧∀x H',J.yld i H x H'→g x (List.replicate k none++σ) H' fun σ2 H2=>Wk σ2 (List.replicate k none++σ)∧tt σ2 H2 fun ok H3=>
  if ok=true then te σ2 H3 fun y H4=>∃m',m'<m∧W (i+1) m' (ys++[y]) H4 else ∃m',m'<m∧W (i+1) m' ys H3)
def fb (wi:TI) (g:TG) (tt:TT) (te:TE) (k:Nat):TE:=fun σ H Q=>wi σ H fun J H1=>CompR J H1 k g tt te σ Q
theorem eY {prog:Program} {w:World} {A:Around} {R:Result→Shared→Prop} {s:Shared} {elt target iter:Expr} {ifs:List Expr} {scope:Scope} {pos:Pos} {it acc:Value} {env:Env} (I:Nat→Shared→Prop)
  (turn:∀n s,I n s→wpAny (model prog w) A (pyNext it) (fun r s₁=>match r with
   | none=>R (.ok .next) s₁
   | some v=>wpAny (model prog w) A (letOwnedTupleGo target it v) (fun _ s₁'=>wpAny (model prog w) A (assign target env v) (fun _ s₂=>
     wpAny (model prog w) A (forIn ifs true fun c r=>if r=true then do let ok ←isTrue c env (eval c env);pure (ForInStep.yield ok) else pure (ForInStep.yield r)) (fun ok s₃=>
      if ok=true then wpAny (model prog w) A (eval elt env) (fun x s₄=>
       wpAny (model prog w) A (call (.builtin "list.append") [acc,x]) (fun _ s₅=>∃m,m<n∧I m s₅) (fun _ _=>False) s₄) (fun _ _=>False) s₃
      else ∃m,m<n∧I m s₃) (fun _ _=>False) s₂) (fun _ _=>False) s₁') (fun _ _=>False) s₁) (fun _ _=>False) s)
  (n:Nat) (h:I n s):
  codeAny (model prog w) A (.compLoop (.ListComp elt [⟨target,iter,ifs,0⟩] scope pos) 0 it acc env) R s:=by
 refine codeAny_loop rfl I (fun n s hI=>?_) n h
 show wpAny _ A ((compTurn (.ListComp elt [⟨target,iter,ifs,0⟩] scope pos) 0 it acc env).onRaise (fun x=>do noteFrame x env;theTreesLotGoes x)) _ _ s
 refine wpAny_noted ?_
 rw [compTurn_list]
 refine wpAny_bind (wpAny_standAt (wpAny_bind (wpAny_mono (turn n s hI) (fun r s₁ h₁=>?_) fun _ _ h'=>h'.elim)))
 cases r with
 | none=>exact wpAny_pure h₁
 | some v=>
  refine wpAny_bind (wpAny_mono h₁ (fun _ s₁' h₁'=>?_) fun _ _ h'=>h'.elim)
  refine wpAny_bind (wpAny_mono h₁' (fun _ s₂ h₂=>wpAny_bind (wpAny_mono h₂ (fun ok s₃ h₃=>?_) fun _ _ h'=>h'.elim)) fun _ _ h'=>h'.elim)
  cases ok with
  | false=>exact wpAny_pure ⟨rfl,h₃⟩
  | true=>
   exact wpAny_bind (wpAny_bind (wpAny_mono h₃ (fun x s₄ h₄=>wpAny_bind (wpAny_mono h₄ (fun _ s₅ h₅=>wpAny_pure (wpAny_pure ⟨rfl,h₅⟩)) fun _ _ h'=>h'.elim)) fun _ _ h'=>h'.elim))
abbrev lo (its:List Value) (n:Nat):Obj:={cls:=.type "list",data:=.seq its.toArray n}
structure TurnP (Pc:Cx→Prop) (P:Program) (w:World) (K:W.Frag) (tg:Expr) (J:It) (fp:List Addr) (it:Addr) (tn:Nat→Heap→Prop):Prop where
 obj:∀i h,tn i h→∀b∈fp,∃o,h.get? b=some o∧∀v,o.data≠.cell v
 keep:∀i h h',tn i h→(∀b∈fp,∀o,h.get? b=some o→h'.get? b=some o)→tn i h'
 item:∀(X:Cx),X.prog=P→X.w=w→X.K=K→Pc X→∀(i:Nat) (pins:List (Addr×Obj)) (s:Shared) (σ:St) (H:Hp) (E:Value→Shared→Prop),Inv X pins σ H s→(∀b∈fp,cO X pins H b)→tn i s.heap→J.go i H→
  wpAny (model P w) X.A (pyNext (.ref it)) (fun r s1=>∃u,r=some u∧
   wpAny (model P w) X.A (letOwnedTupleGo tg (.ref it) u) (fun _ s2=>∃x H',Inv X pins σ H' s2∧RelV x u∧J.yld i H x H'∧tn (i+1) s2.heap∧∀b∈fp,H' b=none) E s1) E s
 done:∀(X:Cx),X.prog=P→X.w=w→X.K=K→Pc X→∀(i:Nat) (pins:List (Addr×Obj)) (s:Shared) (σ:St) (H:Hp) (E:Value→Shared→Prop),Inv X pins σ H s→(∀b∈fp,cO X pins H b)→tn i s.heap→J.stop i H→
  wpAny (model P w) X.A (pyNext (.ref it)) (fun r s1=>r=none∧Inv X pins σ H s1) E s
 self:∀(A:Around) (i:Nat) (s:Shared) (Q:Value→Shared→Prop) (E:Value→Shared→Prop),tn i s.heap→Q (.ref it) s→wpAny (model P w) A (pyIter (.ref it)) Q E s
def PIP (Pc:Cx→Prop) (X:Cx) (tg iter:Expr) (wi:TI):Prop:=
 ∀(pins:List (Addr×Obj)) (s:Shared) (σ:St) (H:Hp) (R:It→Hp→Prop),Inv X pins σ H s→wi σ H R→
  wpAny (model X.prog X.w) X.A (eval iter X.env) (fun v s1=>wpAny (model X.prog X.w) X.A (pyIter v) (fun itv s2=>∃(it:Addr) (fp:List Addr) (tn:Nat→Heap→Prop) (J:It) (H':Hp),itv=.ref it∧Inv X pins σ H' s2∧TurnP Pc X.prog X.w X.K tg J fp it tn∧tn 0 s2.heap∧(∀b∈fp,cO X pins H' b)∧R J H') X.xe s1) X.xe s
theorem PI.p {X:Cx} {tg iter:Expr} {wi:TI} (h:PI X tg iter wi):PIP (fun X=>X.calm=true) X tg iter wi:=fun pins s σ H R I q=>wpAny_mono (h pins s σ H R I q) (fun v s1 h1=>wpAny_mono h1 (fun itv s2 ⟨it,fp,tn,J,H',e,I',T,t0,f,r⟩=>⟨it,fp,tn,J,H',e,I',⟨T.obj,T.keep,T.item,T.done,T.self⟩,t0,f,r⟩) fun _ _ z=>z) fun _ _ z=>z
structure CompOk (X:Cx) (own:List Str) (scope:Scope):Prop where
 cell:∀y∈scope.names,y.2≠.cell
 kind:scope.kind=.function
 names:∀y∈scope.names,y.2=.local→scope.names.lookup y.1=some .local
 fr:∀y∈scope.names,y.2=.free→X.env.scope.names.lookup y.1=some .cell∨X.env.scope.names.lookup y.1=some .free
 loc:∀y∈X.N,scope.names.lookup y≠some .local
def mN (names:List (Str×NameKind)):Bool:=names.all fun y=>(y.2 != .cell) && (y.2 != .local || names.lookup y.1 == some .local)
def nY (outer names:List (Str×NameKind)):Bool:=names.all fun y=>y.2 != .free || outer.lookup y.1 == some .cell || outer.lookup y.1 == some .free
def me (N:List Str) (names:List (Str×NameKind)):Bool:=N.all fun y=>names.lookup y != some .local
theorem CompOk.of {X:Cx} {own:List Str} {scope:Scope} (hc:X.calm=X.calm) (hk:scope.kind=.function) (h1:mN scope.names=true) (h2:nY X.env.scope.names scope.names=true) (h3:me X.N scope.names=true):CompOk X own scope:=by
 unfold mN at h1
 unfold nY at h2
 unfold me at h3
 rw [List.all_eq_true] at h1 h2 h3
 refine ⟨fun y hy=>?_,hk,fun y hy hl=>?_,fun y hy hf=>?_,fun y hy=>?_⟩
 ·have:=h1 y hy
  rw [Bool.and_eq_true] at this
  exact bne_iff_ne.mp this.1
 ·have:=h1 y hy
  rw [Bool.and_eq_true,hl] at this
  simpa using this.2
 ·have:=h2 y hy
  rw [hf] at this
  simpa using this
 ·exact bne_iff_ne.mp (h3 y hy)
section
variable {X:Cx} {own:List Str} {scope:Scope} {pins:List (Addr×Obj)} {σ:St} {H:Hp} {s:Shared} {fp:List Addr}
theorem CompOk.cells (O:CompOk X own scope) (ok:X.Ok):∀x∈scope.names,x.2=.free→∃c,X.env.cells.lookup x.1=some c:=fun x hx hk=>ok.has x.1 (O.fr x hx hk)
theorem CompOk.sub (O:CompOk X own scope) (ok:X.Ok):∀x c,(aG X.env scope.names).lookup x=some c→X.env.cells.lookup x=some c:=fun x c e=>
 Ud scope.names [] (O.cells ok) (fun _ h=>nomatch h) (x,c) (PySem.mem_of_lookup e)
theorem CompOk.free_of (O:CompOk X own scope) {cl:List (Str×Addr)} {C:Addr} {x:Str} (h:(compEnvC scope cl C X.env).kindOf x=some .cell∨(compEnvC scope cl C X.env).kindOf x=some .free):scope.names.lookup x=some .free:=by
 have e:(compEnvC scope cl C X.env).kindOf x=(scope.names.lookup x).map fun k=>if (k == NameKind.free && X.env.scope.kind == .function && X.env.kindOf x == some .cell) then NameKind.cell else k:=Xz X.env scope.names x
 rw [e] at h
 cases q:scope.names.lookup x with
 | none=>rw [q] at h;simp at h
 | some k=>
  rw [q] at h
  by_cases hk:k=.free
  ·rw [hk]
  ·have hc:k≠.cell:=O.cell (x,k) (PySem.mem_of_lookup q)
   have hb:(k == NameKind.free)=false:=by simpa using hk
   have hr:¬((k == NameKind.free && X.env.scope.kind == .function && X.env.kindOf x == some .cell)=true):=by rw [hb];exact Bool.false_ne_true
   have h:some (if (k == NameKind.free && X.env.scope.kind == .function && X.env.kindOf x == some .cell)=true then NameKind.cell else k)=some NameKind.cell∨some (if (k == NameKind.free && X.env.scope.kind == .function && X.env.kindOf x == some .cell)=true then NameKind.cell else k)=some NameKind.free:=h
   rw [if_neg hr] at h
   rcases h with h | h
   ·exact absurd (Option.some.inj h) hc
   ·exact absurd (Option.some.inj h) hk
theorem CompOk.look (O:CompOk X own scope) (ok:X.Ok) {x:Str} (h:scope.names.lookup x=some .free):∃c,(aG X.env scope.names).lookup x=some c∧X.env.cells.lookup x=some c:=by
 obtain ⟨c,hc⟩:=V1 scope.names [] (env:=X.env) x (PySem.mem_of_lookup h)
 obtain ⟨d,hd⟩:=Ys hc
 exact ⟨d,hd,O.sub ok x d hd⟩
theorem gQ (I:Inv X pins σ H s) {b:Addr} (h1:b≠X.env.locals) (h2:b∉X.fs):b∉frs X.stack:=fun z=>(List.mem_cons.mp (I.stkSub b z)).elim h1 h2
theorem lN (O:CompOk X own scope) (I:Inv X pins σ H s) (hf:∀b∈fp,cO X pins H b) (ho:∀b∈fp,∃o,s.heap.get? b=some o) {h₁:Heap} {C:Addr} {tk:Nat} {m:Str→Option Value}
  (hC:s.heap.objs.size<C) (hD:h₁.get? s.heap.objs.size=some (lo [] 0)) (old:∀b o,s.heap.get? b=some o→h₁.get? b=some o) (hns:h₁.Ns C m):
  Inv (cxC X own scope (aG X.env scope.names) C s H fp) (pins++[(s.heap.objs.size,lo [] 0)]) (List.replicate own.length none++σ) H {s with heap:=h₁,toks:=tk}:=by
 have ltD:∀{b:Addr} {o:Obj},s.heap.get? b=some o→b<s.heap.objs.size:=fun e=>Heap.lt_size e
 have nC:∀{b:Addr} {o:Obj},s.heap.get? b=some o→b≠C:=fun e=>Nat.ne_of_lt (Nat.lt_trans (ltD e) hC)
 have hsub:=O.sub I.ok
 refine ⟨⟨I.ok.mod,by show (relabel scope X.env).kind=_;exact O.kind,I.ok.glob,I.ok.blt,Nat.le_of_lt hC,fun x y c h1 h2=>I.ok.inj x y c (hsub x c h1) (hsub y c h2),fun x hx=>?_,fun x c hx _=>absurd (show false=true from hx) Bool.false_ne_true,I.ok.hd,I.ok.frames,.inl rfl,fun b hb=>⟨?_,fun x c e=>?_⟩,I.bs,Nat.le_trans I.ok.bsz I.sz,fun b o e hb=>?_,fun b hb=>gQ I (hf b hb).2.1 (hf b hb).2.2.1,I.stack,I.stkFree⟩,
  rfl,I.bare,Un.kept old,⟨m,hns,fun i x v e1 e2 e3=>?_⟩,fun x c e=>?_,I.hok.fresh (Nat.le_of_lt hC),fun x c e=>I.freeC x c (hsub x c e),fun p hp=>?_,I.hok.kept old,?_⟩
 ·obtain ⟨c,hc,_⟩:=O.look I.ok (O.free_of hx)
  exact ⟨c,hc⟩
 ·obtain ⟨o,e⟩:=ho b hb
  exact nC e
 ·exact (hf b hb).2.2.2.2.1 x c (hsub x c e)
 ·rcases (hf b hb).2.2.2.1 with z | z
  ·exact I.ok.noex b o e z
  ·exact absurd (Nat.lt_of_lt_of_le (Heap.lt_size e) (Nat.le_trans I.ok.bsz z)) (Nat.lt_irrefl _)
 ·have e1:(own++X.N)[i]?=some x:=e1
  by_cases hi:i<own.length
  ·rw [List.getElem?_append_left (by simpa using hi),List.getElem?_replicate,if_pos hi] at e2
   cases e2
  ·rw [List.getElem?_append_right (by simpa using hi),List.length_replicate] at e2
   rw [List.getElem?_append_right (by simpa using hi)] at e1
   have nl:(compEnvC scope (aG X.env scope.names) C X.env).kindOf x≠some .local:=by
    have e:(compEnvC scope (aG X.env scope.names) C X.env).kindOf x=(scope.names.lookup x).map fun k=>if (k == NameKind.free && X.env.scope.kind == .function && X.env.kindOf x == some .cell) then NameKind.cell else k:=Xz X.env scope.names x
    rw [e]
    intro z
    cases q:scope.names.lookup x with
    | none=>rw [q] at z;simp at z
    | some k=>
     rw [q] at z
     by_cases hk:k=.local
     ·exact O.loc x (List.mem_of_getElem? e1) (by rw [q,hk])
     ·have z:some (if (k == NameKind.free && X.env.scope.kind == .function && X.env.kindOf x == some .cell)=true then NameKind.cell else k)=some NameKind.local:=z
      by_cases hc:(k == NameKind.free && X.env.scope.kind == .function && X.env.kindOf x == some .cell)=true
      ·rw [if_pos hc] at z
       cases z
      ·rw [if_neg hc] at z
       exact hk (Option.some.inj z)
   have hv:(compEnvC scope (aG X.env scope.names) C X.env).kindOf x=some .cell∨(compEnvC scope (aG X.env scope.names) C X.env).kindOf x=some .free:=by
    rcases e3 with z | z | z
    ·exact absurd z nl
    ·exact .inl z
    ·exact .inr z
   have hfree:=O.free_of hv
   have hout:=O.fr (x,.free) (PySem.mem_of_lookup hfree) rfl
   obtain ⟨m0,hn0,hl0⟩:=I.loc
   obtain ⟨u,r,l⟩:=hl0 _ x v e1 e2 (hout.elim (fun z=>.inr (.inl z)) fun z=>.inr (.inr z))
   refine ⟨u,r,.inr ⟨hv,?_⟩⟩
   rcases l with ⟨k,_⟩ | ⟨_,c,ec,z⟩
   ·have k':X.env.scope.names.lookup x=some .local:=k
    rcases hout with q | q
    ·rw [q] at k';cases k'
    ·rw [q] at k';cases k'
   ·obtain ⟨d,hd1,hd2⟩:=O.look I.ok hfree
    rw [ec] at hd2
    cases hd2
    obtain ⟨oc,hoc,hdc⟩:=z
    exact ⟨c,hd1,oc,old _ _ hoc,hdc⟩
 ·obtain ⟨v,o,hoc,hdc⟩:=I.cell x c (hsub x c e)
  exact ⟨v,o,old _ _ hoc,hdc⟩
 ·have hp:p∈X.pn++(pins++[(s.heap.objs.size,lo [] 0)]):=hp
  rw [←List.append_assoc] at hp
  rcases List.mem_append.mp hp with hp | hp
  ·obtain ⟨e,n,ne,nf,d⟩:=I.pin p hp
   exact ⟨old _ _ e,n,nC e,gQ I ne nf,d⟩
  ·cases List.mem_singleton.mp hp
   refine ⟨hD,I.hok.fresh (Nat.le_refl _),Nat.ne_of_lt hC,fun z=>?_,fun v z=>by cases z⟩
   have z:=I.stkSub _ z
   rcases List.mem_cons.mp z with z | z
   ·exact absurd z (Nat.ne_of_gt I.lt)
   ·exact I.nofs (Nat.le_refl _) z
 ·show (List.replicate own.length none++σ).length=(own++X.N).length
  rw [List.length_append,List.length_append,List.length_replicate,I.len]
theorem P8 {cl:List (Str×Addr)} {C:Addr} {its:List Value} {n:Nat} {σ':St} {H':Hp} {s':Shared} {ys:List V} {h':Heap} (I:Inv X pins σ H s) (hf:∀b∈fp,cO X pins H b) (hC:s.heap.objs.size<C)
  (I':Inv (cxC X own scope cl C s H fp) (pins++[(s.heap.objs.size,lo its n)]) σ' H' s') (hv:Vals ys its) (hz:ys.length≤sizeLine) (hs:Heap.SameBut C s'.heap h'):
  Inv X pins σ (upd H' s.heap.objs.size (.lst ys)) {s' with heap:=h'}:=by
 obtain ⟨eD,nD,neD,_,_⟩:=I'.pin (s.heap.objs.size,lo its n) (List.mem_append_right _ (List.mem_append_right _ List.mem_cons_self))
 have nC:∀{b:Addr} {o:Obj},s.heap.get? b=some o→b≠C:=fun e=>Nat.ne_of_lt (Nat.lt_trans (Heap.lt_size e) hC)
 have nDD:∀{b:Addr} {o:Obj},s.heap.get? b=some o→b≠s.heap.objs.size:=fun e=>Nat.ne_of_lt (Heap.lt_size e)
 have same:∀{b:Addr} {o:Obj},b≠C→s'.heap.get? b=some o→h'.get? b=some o:=fun hb e=>(hs.2 _ hb).trans e
 have fC:H' C=none:=I'.free
 have hb:Un (frs X.stack) fp H H' s.heap s'.heap:=I'.base
 have hot:∀{b:Addr} {u:HO},H b=some u→b≠s.heap.objs.size:=fun e=>Nat.ne_of_lt (I.hok.lt e)
 refine I.call' (s':={s' with heap:=h'}) (ch:=fp) I'.os ⟨fun b o e q n1 n2=>same (nC e) (hb.keep b o e q n1 n2),fun b o e q n1 n2=>?_,fun b o e q n2=>?_,fun b o e n2=>?_,fun b xs e=>?_,fun b o u e=>?_,fun b ps e=>?_⟩ ?_ I'.bare fun b hb'=>?_
 ·obtain ⟨sl,q2⟩:=hb.slot b o e q n1 n2
  exact ⟨sl,same (nC e) q2⟩
 ·rw [Zb (nDD e)]
  exact hb.free b o e q n2
 ·obtain ⟨o',q2⟩:=hb.there b o e n2
  exact ⟨o',same (nC e) q2⟩
 ·rw [Zb (hot e)]
  exact hb.tups b xs e
 ·rw [Zb (hot e)]
  exact hb.frzs b o u e
 ·obtain ⟨more,q2⟩:=hb.tbls b ps e
  exact ⟨more,by rw [Zb (hot e)];exact q2⟩
 ·intro b u e
  by_cases hbD:b=s.heap.objs.size
  ·subst hbD
   rw [Z4] at e
   cases e
   exact ⟨hz,its,n,hv,same neD eD⟩
  ·rw [Zb hbD] at e
   have nD':∀{c:Addr} {w:HO},H' c=some w→c≠s.heap.objs.size:=fun q z=>by
    rw [z] at q
    have z2:H' s.heap.objs.size=none:=nD
    rw [z2] at q
    cases q
   refine (I'.hok b u e).stay (fun c v hc q=>same ?_ q) (fun c q=>by rw [Zb (nD' q)];exact q) fun c xs q=>by rw [Zb (nD' q)];exact q
   rintro rfl
   rcases hc with z | z
   ·rw [←z,fC] at e;cases e
   ·rw [fC] at z;cases z
 ·obtain ⟨_,f1,_,f3,f4,f5⟩:=hf b hb'
  exact ⟨f3,f1,f4,f5⟩
theorem gH {prog:Program} {w:World} {A:Around} {E:Value→Shared→Prop} {s:Shared} {l:Addr} {its:List Value} {n:Nat} {u:Value} {Q:Value→Shared→Prop} (e:s.heap.get? l=some (lo its n)) (hz:its.length≤sizeLine)
  (h:Q .none {s with heap:=s.heap.update l (Obj.mapSeq (·.push u))}):wpAny (model prog w) A (call (.builtin "list.append") [.ref l,u]) Q E s:=
 call_meets F.slot_list_append ⟨_,e,rfl⟩ F.entry_list_append (F.args_list_append_2 _ _) (PySem.list_append l its.toArray n u (by rw [List.size_toArray];omega)) ⟨e,h⟩
theorem P9 {tg iter elt:Expr} {ifs:List Expr} {pos pos0:Pos} {wi:TI} {g:TG} {tt:TT} {te:TE} {use:Option (Value→Sem Unit)} {Qp:Value→Shared→Prop} {Pc:Cx→Prop} (hpc:∀cl C s H fp,Pc (cxC X own scope cl C s H fp)) (O:CompOk X own scope) (hi:PIP Pc X tg iter wi)
  (hg:∀cl C s H fp,PG (cxC X own scope cl C s H fp) tg g) (ht:∀cl C s H fp,PTs (cxC X own scope cl C s H fp) ifs tt) (he:∀cl C s H fp,PE (cxC X own scope cl C s H fp) elt te)
  (hs:∀x,foldedSetIterable iter X.env x=pure x) {pins:List (Addr×Obj)} {s:Shared} {σ:St} {H:Hp} {Q:VK} (I:Inv X pins σ H s) (h:fb wi g tt te own.length σ H Q)
  (fin:∀(s2:Shared) (H2:Hp) (fp:List Addr) (C:Addr) (cl:List (Str×Addr)) (its:List Value) (nn:Nat) (σ':St) (H':Hp) (s5:Shared) (ys:List V),Inv X pins σ H2 s2→(∀b∈fp,cO X pins H2 b)→s2.heap.objs.size<C→
   Inv (cxC X own scope cl C s2 H2 fp) (pins++[(s2.heap.objs.size,lo its nn)]) σ' H' s5→Vals ys its→ys.length≤sizeLine→(∀p,H' p=none→Q (.ref p) (upd H' p (.lst ys)))→
   compPost (model X.prog X.w) X.A X.xe use Qp (.ref s2.heap.objs.size) C (.ok .next) s5):
  wpAny (model X.prog X.w) X.A (comprehension (.ListComp elt [⟨tg,iter,ifs,0⟩] scope pos) scope X.env pos0 (newList []) false (eval iter X.env) use) Qp X.xe s:=by
 refine wpAny_comprehension_free (use:=use) rfl hs (Uh (O.cells I.ok)) O.kind O.names (thn (hi pins s σ H _ I h) fun v s1 h1=>thn h1 fun itv s2 h2=>?_)
 obtain ⟨it,fp,tn,J,H2,rfl,I2,T,st2,f2,W,⟨m0,w0⟩,turn⟩:=h2
 refine wpAny_newObj_type (wpAny_newFunctionEnv O.cell (by intro y hy;simp at hy) (fun h₁ hns₁ hsb₁=>?_) O.kind)
 dsimp only at hns₁ hsb₁ ⊢
 generalize hH2:s2.heap.push {cls:=.type "list",dict:=none,data:=.seq ([]:List Value).toArray}=Hh at hns₁ hsb₁ ⊢
 have hCs:Hh.objs.size=s2.heap.objs.size+1:=by rw [←hH2,Heap.size_push]
 have hC:s2.heap.objs.size<Hh.objs.size:=by rw [hCs];exact Nat.lt_succ_self _
 have old:∀b o,s2.heap.get? b=some o→h₁.get? b=some o:=fun b o e=>hsb₁.extBut b o (Nat.ne_of_lt (Nat.lt_trans (Heap.lt_size e) hC)) (Heap.get?_push_of_some _ (hH2 ▸ Heap.get?_push_of_some _ e))
 have hacc:h₁.get? s2.heap.objs.size=some (lo [] 0):=hsb₁.extBut _ _ (Nat.ne_of_lt hC) (Heap.get?_push_of_some _ (hH2 ▸ Heap.get?_push_size _ rfl))
 have hob:∀b∈fp,∃o,s2.heap.get? b=some o:=fun b hb=>let ⟨o,e,_⟩:=T.obj _ _ st2 b hb;⟨o,e⟩
 have st3:tn 0 h₁:=T.keep _ _ _ st2 fun b _ o e=>old b o e
 have pinlt:∀p∈X.pn++pins,p.1<s2.heap.objs.size:=fun p hp=>Heap.lt_size (I2.pin p hp).1
 have loop:∀s₃:Shared,s₃={s2 with heap:=h₁,toks:=s2.toks+([]:List (Str×Value)).length}→
   codeAny (model X.prog X.w) X.A (.compLoop (.ListComp elt [⟨tg,iter,ifs,0⟩] scope pos) 0 (.ref it) (.ref s2.heap.objs.size) (compEnvC scope (aG X.env scope.names) Hh.objs.size X.env))
    (compPost (model X.prog X.w) X.A X.xe use Qp (.ref s2.heap.objs.size) Hh.objs.size) s₃:=by
  rintro s₃ rfl
  have I3:=lN (tk:=s2.toks+([]:List (Str×Value)).length) O I2 f2 hob hC hacc old hns₁
  have stat:∀{o:Obj} {H':Hp},(∀b∈fp,H' b=none)→∀b∈fp,cO (cxC X own scope (aG X.env scope.names) Hh.objs.size s2 H2 fp) (pins++[(s2.heap.objs.size,o)]) H' b:=fun {o H'} hn b hb=>by
   obtain ⟨o',eo⟩:=hob b hb
   refine ⟨hn b hb,Nat.ne_of_lt (Nat.lt_trans (Heap.lt_size eo) hC),gQ I2 (f2 b hb).2.1 (f2 b hb).2.2.1,.inl hb,fun x c e=>(f2 b hb).2.2.2.2.1 x c (O.sub I2.ok x c e),fun p hp=>?_⟩
   have hp:p∈X.pn++(pins++[(s2.heap.objs.size,o)]):=hp
   rw [←List.append_assoc] at hp
   rcases List.mem_append.mp hp with hp | hp
   ·exact (f2 b hb).2.2.2.2.2 p hp
   ·cases List.mem_singleton.mp hp
    exact Nat.ne_of_gt (Heap.lt_size eo)
  refine eY (fun n s'=>∃i ys its nn σ' H',Inv (cxC X own scope (aG X.env scope.names) Hh.objs.size s2 H2 fp) (pins++[(s2.heap.objs.size,lo its nn)]) σ' H' s'∧Wk σ' (List.replicate own.length none++σ)∧tn i s'.heap∧(∀b∈fp,H' b=none)∧Vals ys its∧W i n ys H')
   ?_ m0 ⟨0,[],[],0,_,H2,I3,Wk.refl _,st3,fun b hb=>(f2 b hb).1,.nil,w0⟩
  rintro n s4 ⟨i,ys,its,nn,σ4,H4,I4',wk4,st4,fr4,vs4,w4⟩
  have I4:=I4'.weak (σ':=List.replicate own.length none++σ) wk4.len (fun i v=>wk4.get i v)
  rcases turn i n ys H4 w4 with ⟨stop,hz,qn⟩ | ⟨go,hz,step⟩
  ·refine thn (T.done (cxC X own scope (aG X.env scope.names) Hh.objs.size s2 H2 fp) rfl rfl rfl (hpc _ _ _ _ _) i _ s4 _ H4 (fun _ _=>False) I4 (stat fr4) st4 stop) fun r s5 hpat=>?_
   obtain ⟨hr,I5⟩:=hpat
   subst hr
   exact fin s2 H2 fp Hh.objs.size _ its nn _ H4 s5 ys I2 f2 hC I5 vs4 hz qn
  ·refine thn (T.item (cxC X own scope (aG X.env scope.names) Hh.objs.size s2 H2 fp) rfl rfl rfl (hpc _ _ _ _ _) i _ s4 _ H4 (fun _ _=>False) I4 (stat fr4) st4 go) fun r s5 hpat=>?_
   obtain ⟨u,hr,h5⟩:=hpat
   subst hr
   refine thn h5 fun _ s6 hpat=>?_
   obtain ⟨x,H6,I6,r6,y6,st6,fr6⟩:=hpat
   have I6':=I6.pinned (stat fr6) (T.obj _ _ st6)
   refine thn (hg _ _ _ _ _ _ s6 _ H6 x u _ I6' r6 (step x H6 y6)) fun _ s7 hpat=>?_
   obtain ⟨σ7,H7,I7,wk7,q7⟩:=hpat
   refine thn (ht _ _ _ _ _ _ s7 σ7 H7 _ I7 q7) fun ok s8 hpat=>?_
   obtain ⟨H8,I8,q8⟩:=hpat
   have again:∀{σ9:St} {H9:Hp} {s9:Shared},Inv (cxC X own scope (aG X.env scope.names) Hh.objs.size s2 H2 fp) ((pins++[(s2.heap.objs.size,lo its nn)])++dG fp s6.heap) σ9 H9 s9→tn (i+1) s9.heap∧∀b∈fp,H9 b=none:=fun {σ9 H9 s9} I9=>
    ⟨T.keep _ _ _ st6 fun b hb o e=>(I9.pin (b,o) (List.mem_append_right _ (List.mem_append_right _ (Va hb e)))).1,fun b hb=>by
     obtain ⟨o,e,d⟩:=T.obj _ _ st6 b hb
     exact (I9.pin (b,o) (List.mem_append_right _ (List.mem_append_right _ (Va hb e)))).2.1⟩
   cases ok with
   | false=>
    rw [if_neg Bool.false_ne_true] at q8 ⊢
    obtain ⟨m',hm,w8⟩:=q8
    obtain ⟨a1,a2⟩:=again I8
    exact ⟨m',hm,i+1,ys,its,nn,σ7,H8,I8.unpinned,wk7,a1,a2,vs4,w8⟩
   | true=>
    rw [if_pos rfl] at q8 ⊢
    refine thn (he _ _ _ _ _ _ s8 σ7 H8 _ I8 q8) fun yv s9 hpat=>?_
    obtain ⟨y,H9,I9,r9,m',hm,w9⟩:=hpat
    obtain ⟨a1,a2⟩:=again I9
    obtain ⟨eD,nD,neD,nfD,_⟩:=I9.pin (s2.heap.objs.size,lo its nn) (List.mem_append_right _ (List.mem_append_left _ (List.mem_append_right _ List.mem_cons_self)))
    have hlen:=vs4.length
    refine gH eD (by omega) ?_
    have upd9:=PySem.IsL.update (l:=s2.heap.objs.size) eD (·.push yv)
    have uother:∀b o,b≠s2.heap.objs.size→s9.heap.get? b=some o→(s9.heap.update s2.heap.objs.size (Obj.mapSeq (·.push yv))).get? b=some o:=fun b o hb e=>(Heap.get?_update_other s9.heap (Obj.mapSeq (·.push yv)) (Ne.symm hb)).trans e
    have I9a:Inv (cxC X own scope (aG X.env scope.names) Hh.objs.size s2 H2 fp) pins σ7 H9 s9:=I9.unpinned.unpinned
    have I9b:Inv (cxC X own scope (aG X.env scope.names) Hh.objs.size s2 H2 fp) pins σ7 H9 {s9 with heap:=s9.heap.update s2.heap.objs.size (Obj.mapSeq (·.push yv))}:=
     I9a.turned (t':=s9.toks) uother nD neD (.inr (Nat.le_refl _)) (fun x c e z=>by
      obtain ⟨v,o,hoc,_⟩:=I2.cell x c (O.sub I2.ok x c e)
      exact absurd z (Nat.ne_of_lt (Heap.lt_size hoc))) fun p hp=>Nat.ne_of_lt (pinlt p hp)
    have e2:(its.toArray.push yv)=(its++[yv]).toArray:=by simp
    have upd9':∃n2,(s9.heap.update s2.heap.objs.size (Obj.mapSeq (·.push yv))).get? s2.heap.objs.size=some (lo (its++[yv]) n2):=⟨_,by rw [upd9,e2]⟩
    obtain ⟨n2,upd9'⟩:=upd9'
    have I9c:=I9b.pins_of (pins':=pins++[(s2.heap.objs.size,lo (its++[yv]) n2)]) fun p hp=>by
     rcases List.mem_append.mp hp with hp | hp
     ·exact I9b.pin p (List.mem_append_right _ hp)
     ·cases List.mem_singleton.mp hp
      exact ⟨upd9',nD,neD,nfD,fun v z=>by cases z⟩
    refine ⟨m',hm,i+1,ys++[y],its++[yv],n2,σ7,H9,I9c,wk7,T.keep _ _ _ a1 fun b hb o e=>uother b o ?_ e,a2,vs4.append (.cons r9 .nil),w9⟩
    obtain ⟨o',eo⟩:=hob b hb
    exact Nat.ne_of_lt (Heap.lt_size eo)
 exact codeAny_compStart_list (loop _ rfl) (T.self _ 0 _ _ _ st3 (loop _ rfl))
theorem pe_compP {Pc:Cx→Prop} {tg iter elt:Expr} {ifs:List Expr} {pos:Pos} {wi:TI} {g:TG} {tt:TT} {te:TE} (hpc:∀cl C s H fp,Pc (cxC X own scope cl C s H fp)) (O:CompOk X own scope) (hi:PIP Pc X tg iter wi)
  (hg:∀cl C s H fp,PG (cxC X own scope cl C s H fp) tg g) (ht:∀cl C s H fp,PTs (cxC X own scope cl C s H fp) ifs tt) (he:∀cl C s H fp,PE (cxC X own scope cl C s H fp) elt te)
  (hs:∀x,foldedSetIterable iter X.env x=pure x:=by intro _;rfl):
  PE X (.ListComp elt [⟨tg,iter,ifs,0⟩] scope pos) (fb wi g tt te own.length):=by
 intro pins s σ H Q I h
 rw [eval_ListComp]
 refine P9 hpc O hi hg ht he hs I h fun s2 H2 fp C cl its nn σ' H' s5 ys I2 f2 hC I5 vs hz qn=>?_
 obtain ⟨mm,hnm,_⟩:=I5.loc
 exact ⟨mm,hnm,fun h' hs'=>⟨.ref s2.heap.objs.size,_,P8 I2 f2 hC I5 vs hz hs',rfl,qn _ (I5.pin (s2.heap.objs.size,lo its nn) (List.mem_append_right _ (List.mem_append_right _ List.mem_cons_self))).2.1⟩⟩
theorem Xo {tg iter elt:Expr} {ifs:List Expr} {pos:Pos} {wi:TI} {g:TG} {tt:TT} {te:TE} (O:CompOk X own scope) (hi:PI X tg iter wi)
  (hg:∀cl C s H fp,PG (cxC X own scope cl C s H fp) tg g) (ht:∀cl C s H fp,PTs (cxC X own scope cl C s H fp) ifs tt) (he:∀cl C s H fp,PE (cxC X own scope cl C s H fp) elt te)
  (hs:∀x,foldedSetIterable iter X.env x=pure x:=by intro _;rfl) (hc:X.calm=true:=by rfl):
  PE X (.ListComp elt [⟨tg,iter,ifs,0⟩] scope pos) (fb wi g tt te own.length):=
 pe_compP (Pc:=fun X=>X.calm=true) (fun _ _ _ _ _=>hc) O hi.p hg ht he hs
theorem ps_setCP {Pc:Cx→Prop} {i:Nat} {x:Str} {tg iter elt:Expr} {ifs:List Expr} {pos pos' cpos:Pos} {wi:TI} {g:TG} {tt:TT} {te:TE} (hN:X.N.Nodup) (hix:X.N[i]?=some x) (hl:X.env.scope.names.lookup x=some .local) (hpc:∀cl C s H fp,Pc (cxC X own scope cl C s H fp)) (O:CompOk X own scope) (hi:PIP Pc X tg iter wi)
  (hg:∀cl C s H fp,PG (cxC X own scope cl C s H fp) tg g) (ht:∀cl C s H fp,PTs (cxC X own scope cl C s H fp) ifs tt) (he:∀cl C s H fp,PE (cxC X own scope cl C s H fp) elt te)
  (hs:∀x,foldedSetIterable iter X.env x=pure x:=by intro _;rfl) (hsw:swapsWith (.ListComp elt [⟨tg,iter,ifs,0⟩] scope cpos) (some (.Name x pos')) pos.line X.env=pure true:=by rfl):
  PS X (.Assign [.Name x pos'] (.ListComp elt [⟨tg,iter,ifs,0⟩] scope cpos) pos) (qw (fb wi g tt te own.length) (jt i)):=by
 intro pins s σ H D I h
 rw [exec_Assign_Name_used _ _ _ _ hsw]
 refine wpAny_bind (wpAny_standAt (wpAny_bind (m:=evalThenUse _ X.env _) ?_))
 show wpAny _ _ (comprehension (.ListComp elt [⟨tg,iter,ifs,0⟩] scope cpos) scope X.env _ (newList []) false (eval iter X.env) (some (assign (.Name x pos') X.env)) >>= fun _=>_) _ _ s
 refine wpAny_bind (thn (P9 (Qp:=fun _ s'=>SP X pins D .next s') hpc O hi hg ht he hs I h fun s2 H2 fp C cl its nn σ' H' s5 ys I2 f2 hC I5 vs hz qn=>?_) fun _ s' hq=>wpAny_pure (wpAny_pure hq))
 have Ix:Inv X pins σ (upd H' s2.heap.objs.size (.lst ys)) s5:=P8 I2 f2 hC I5 vs hz (Heap.SameBut.refl _ _)
 obtain ⟨mm,hnm,_⟩:=I5.loc
 have fC:H' C=none:=I5.free
 have nCD:C≠s2.heap.objs.size:=Nat.ne_of_gt hC
 refine wpAny_assign_Name (Qt (v:=.ref s2.heap.objs.size) Ix hN hix (.inl hl) rfl (fun s6 I6 sb=>?_) (.inr hl))
 obtain ⟨a,sb,ha⟩:=sb
 have nLC:X.env.locals≠C:=Nat.ne_of_lt (Nat.lt_trans I2.lt hC)
 have cC:∀y c,X.env.cells.lookup y=some c→c≠C:=fun y c e=>by
  obtain ⟨v,o,ho,_⟩:=I2.cell y c e
  exact Nat.ne_of_lt (Nat.lt_trans (Heap.lt_size ho) hC)
 have naC:C≠a:=by
  rcases ha with rfl | ha
  ·exact Ne.symm nLC
  ·exact Ne.symm (cC x a ha)
 refine ⟨mm,hnm.sameBut sb naC,fun h' hs'=>⟨_,_,I6.turned (t':=s6.toks) (fun b o hb e=>(hs'.2 b hb).trans e) (by rw [Zb nCD];exact fC) (Ne.symm nLC) (.inr (Nat.le_trans I2.sz (Nat.le_of_lt hC))) cC (fun p hp=>Nat.ne_of_lt (Nat.lt_trans (Heap.lt_size (I2.pin p hp).1) hC)),qn _ (I5.pin (s2.heap.objs.size,lo its nn) (List.mem_append_right _ (List.mem_append_right _ List.mem_cons_self))).2.1⟩⟩
theorem hV {i:Nat} {x:Str} {tg iter elt:Expr} {ifs:List Expr} {pos pos' cpos:Pos} {wi:TI} {g:TG} {tt:TT} {te:TE} (hN:X.N.Nodup) (hix:X.N[i]?=some x) (hl:X.env.scope.names.lookup x=some .local) (O:CompOk X own scope) (hi:PI X tg iter wi)
  (hg:∀cl C s H fp,PG (cxC X own scope cl C s H fp) tg g) (ht:∀cl C s H fp,PTs (cxC X own scope cl C s H fp) ifs tt) (he:∀cl C s H fp,PE (cxC X own scope cl C s H fp) elt te)
  (hs:∀x,foldedSetIterable iter X.env x=pure x:=by intro _;rfl) (hsw:swapsWith (.ListComp elt [⟨tg,iter,ifs,0⟩] scope cpos) (some (.Name x pos')) pos.line X.env=pure true:=by rfl) (hc:X.calm=true:=by rfl):
  PS X (.Assign [.Name x pos'] (.ListComp elt [⟨tg,iter,ifs,0⟩] scope cpos) pos) (qw (fb wi g tt te own.length) (jt i)):=
 ps_setCP (Pc:=fun X=>X.calm=true) hN hix hl (fun _ _ _ _ _=>hc) O hi.p hg ht he hs hsw
end
section
variable {X:Cx} {pos:Pos}
theorem Tf (K:W.Frag) (n:Nat) {es:List Expr} {k:Nat} {t:TGs} (hK:X.K=K) (hc:X.calm=true) (h:PGs X es t)
  (hn:(assignEach es X.env).length=n:=by rfl) (hst:(assignEach es X.env).findIdx? (·.1)=none:=by rfl):PG X (.Tuple es k pos) (vN K n t):=by
 subst hK
 exact Yo hc h hn hst
theorem jw (K:W.Frag) (hK:X.K=K):IxR X (uO K):=by subst hK;exact Yg
end
mutual
inductive DV (H:Hp):V→PyData→Prop
 | non:DV H .non .none
 | bl (b:Bool):DV H (.bl b) (.bool b)
 | int (i:Int):DV H (.int i) (.int i)
 | str (x:Str):DV H (.str x) (.str x)
 | lst {a:Addr} {xs:List V} {ds:List PyData}:H a=some (.lst xs)→DVs H xs ds→DV H (.ref a) (.list ds)
 | tup {a:Addr} {xs:List V} {ds:List PyData}:H a=some (.tup xs)→DVs H xs ds→DV H (.ref a) (.tuple ds)
inductive DVs (H:Hp):List V→List PyData→Prop
 | nil:DVs H [] []
 | cons {v:V} {vs:List V} {d:PyData} {ds:List PyData}:DV H v d→DVs H vs ds→DVs H (v::vs) (d::ds)
end
mutual
theorem DV.mono {H H':Hp} (g:Same H H'):∀{v:V} {d:PyData},DV H v d→DV H' v d
 | _,_,.non=>.non
 | _,_,.bl b=>.bl b
 | _,_,.int i=>.int i
 | _,_,.str x=>.str x
 | _,_,.lst e r=>.lst (g _ _ e) (DVs.mono g r)
 | _,_,.tup e r=>.tup (g _ _ e) (DVs.mono g r)
theorem DVs.mono {H H':Hp} (g:Same H H'):∀{vs:List V} {ds:List PyData},DVs H vs ds→DVs H' vs ds
 | _,_,.nil=>.nil
 | _,_,.cons h r=>.cons (DV.mono g h) (DVs.mono g r)
end
theorem DVs.length {H:Hp}:∀{vs:List V} {ds:List PyData},DVs H vs ds→vs.length=ds.length
 | _,_,.nil=>rfl
 | _,_,.cons _ r=>congrArg (·+1) r.length
theorem DVs.append {H:Hp}:∀{vs ws:List V} {ds es:List PyData},DVs H vs ds→DVs H ws es→DVs H (vs++ws) (ds++es)
 | _,_,_,_,.nil,s=>s
 | _,_,_,_,.cons h r,s=>.cons h (DVs.append r s)
theorem DVs.getV {H:Hp}:∀{vs:List V} {ds:List PyData} {i:Nat} {v:V},DVs H vs ds→vs[i]?=some v→∃d,ds[i]?=some d∧DV H v d
 | _,_,_,_,.nil,e=>by simp at e
 | _,_,0,_,.cons h _,e=>by simp at e;subst e;exact ⟨_,rfl,h⟩
 | _,_,i+1,d,.cons _ r,e=>by
  obtain ⟨v,h1,h2⟩:=DVs.getV (i:=i) (v:=d) r (by simpa using e)
  exact ⟨v,by simpa using h1,h2⟩
section
variable {X:Cx} {pins:List (Addr×Obj)} {σ:St} {H:Hp} {s:Shared}
mutual
theorem DV.reads (I:Inv X pins σ H s):∀{v:V} {d:PyData} {u:Value},DV H v d→RelV v u→∃as,Reads s.heap u d as
 | _,_,_,.non,r=>by cases r;exact ⟨_,Reads.none⟩
 | _,_,_,.bl b,r=>by cases r;exact ⟨_,Reads.bool b⟩
 | _,_,_,.int i,r=>by obtain ⟨t,rfl⟩:=r;exact ⟨_,Reads.int i t⟩
 | _,_,_,.str x,r=>by obtain ⟨t,rfl⟩:=r;exact ⟨_,Reads.str x t⟩
 | _,_,_,.lst e q,r=>by
  cases r
  obtain ⟨its,n,rv,ho,_⟩:=I.lst e
  obtain ⟨as,p⟩:=DVs.reads I q rv
  exact ⟨_,reads_list_at ho rfl rfl (by simpa using p)⟩
 | _,_,_,.tup e q,r=>by
  cases r
  obtain ⟨its,rv,⟨o,ho,hc,n,hd⟩,_⟩:=I.tuple (SqT.of e)
  obtain ⟨as,p⟩:=DVs.reads I q rv
  exact ⟨_,reads_tuple_at ho hc hd (by simpa using p)⟩
theorem DVs.reads (I:Inv X pins σ H s):∀{vs:List V} {ds:List PyData} {us:List Value},DVs H vs ds→Vals vs us→∃as,ReadsAll s.heap us ds as
 | _,_,_,.nil,r=>by cases r;exact ⟨_,ReadsAll.nil⟩
 | _,_,_,.cons h t,r=>by
  cases r with
  | cons r1 r2=>
   obtain ⟨as,p⟩:=DV.reads I h r1
   obtain ⟨bs,q⟩:=DVs.reads I t r2
   exact ⟨_,ReadsAll.cons p q⟩
end
end
def rNeD:R2:=fun x y H Q=>∃d e,DV H x d∧DV H y e∧SeqAt.shaped d=true∧SeqAt.shaped e=true∧Q (.bl (!PyData.eqv d e)) H
section
variable {X:Cx}
theorem O1 (hu:X.A.units+64<cLine):OpR X (compareOp .NotEq) rNeD:=by
 intro pins s σ H x y v u Q I rx ry h
 obtain ⟨d,e,h1,h2,s1,s2,q⟩:=h
 obtain ⟨as,p1⟩:=h1.reads I rx
 obtain ⟨bs,p2⟩:=h2.reads I ry
 exact ne_dataH p1 p2 s1 s2 hu ⟨.bl _,H,I,rfl,q⟩
def rIs (K:W.Frag):List V→Hp→VK→Prop:=fun xs H Q=>∃x t T b,xs=[x,.ty T]∧TyOf K H x t∧W.kitOne K t (.type T)=some b∧Q (.bl b) H
theorem Wc:bZ X (.builtin "isinstance") (rIs X.K):=by
 intro pins s σ H xs us Q I r h
 obtain ⟨x,t,T,b,rfl,ty,e,q⟩:=h
 obtain ⟨u,w',rfl,ru,rt⟩:=iu r
 cases (show w'=Value.type T from rt)
 exact j0 I ru ty e fun tk=>⟨.bl b,H,I.tok _,rfl,q⟩
end
structure Has (P:Program) (w:World) (K:W.Frag) (mg:Str→Option Value) (base:Heap) (x:Str) (k:Nat) (ps:List Str) (sp:Sp):Prop where
 ex:∃f fd,FnOk P w K mg base CX0 k f fd ps sp∧Binds K fd ps []∧W.keepIn K (.ref f)=true∧mg x=some (.ref f)
section
variable {X:Cx} {j k:Nat} {ps:List Str} {sp:Sp} {x:Str} {p pos:Pos} {e:Expr} {es:List Expr} {t:TA}
theorem Z5 (h:Has X.prog X.w X.K X.mg X.base x j ps sp) (hr:Room k X.A) (ha:PA X (e::es) t) (hg:Gl X x:=by rfl) (hj:j≤k:=by first | decide | omega)
  (hdb:(x == ("__debug__":Str))=false:=by decide) (he:starEach (e::es) X.env=(false,eval e X.env)::starEach es X.env:=by rfl) (hpl:(backTo pos (starEach es X.env)).any (·.1)=false:=by rfl):
  PE X (.Call (.Name x p) (e::es) [] pos) (qW sp [] E0 t):=by
 intro pins s σ H Q I q
 obtain ⟨f,fd,F,b,kp,m⟩:=h.ex
 refine oR (CX:=CX0) (E:=E0) (dvs:=[]) (F.mono hj) hr hg m kp b .nil ?_ ha hdb he hpl pins s σ H Q I q
 exact fun _ _ _ _ _ _ _ z=>z.elim
end
def ak (a:Addr) (H:Hp):Hp:=fun b=>if b=a then none else H b
theorem P2 {a:Addr} {H:Hp}:ak a H a=none:=by unfold ak;rw [if_pos rfl]
theorem Zc {a b:Addr} {H:Hp} (h:b≠a):ak a H b=H b:=by unfold ak;rw [if_neg h]
theorem Z8 {a b:Addr} {H:Hp} {o:HO} (h:ak a H b=some o):b≠a∧H b=some o:=by
 unfold ak at h
 by_cases e:b=a
 ·rw [if_pos e] at h;cases h
 ·rw [if_neg e] at h;exact ⟨e,h⟩
theorem W1 {a:Addr} {H:Hp}:Same (ak a H) H:=fun _ _ h=>(Z8 h).2
theorem Z7 {H:Hp} {p:Addr} (h:H p=none) (o:HO):Same H (upd H p o):=fun b u q=>by rw [Zb (Zi q h)];exact q
abbrev Grw (a:Addr) (H H':Hp):Prop:=Same (ak a H) (ak a H')
theorem Wz {a:Addr} {H H':Hp} {o:HO} (ha:H a=some o) (g:Same H H'):Grw a H H':=fun b u q=>by
 obtain ⟨h1,h2⟩:=Z8 q
 rw [Zc h1];exact g b u h2
theorem Yh {a:Addr} {H:Hp} {o:HO}:Grw a H (upd H a o):=fun b u q=>by
 obtain ⟨h1,h2⟩:=Z8 q
 rw [Zc h1,Zb h1];exact h2
theorem nN {a p:Addr} {H:Hp} {o:HO} (h:H p=none):Grw a H (upd H p o):=fun b u q=>by
 obtain ⟨h1,h2⟩:=Z8 q
 rw [Zc h1,Zb (Zi h2 h)];exact h2
theorem Vk {j:Int} (h:decide (0<j)=true):0<j:=of_decide_eq_true h
theorem ltI {i j:Int} (h:decide (i<j)=true):i<j:=of_decide_eq_true h
theorem leN {i j:Nat} (h:decide (i≤j)=true):i≤j:=of_decide_eq_true h
theorem uP {i j:Int} (h1:decide (0<j)=true) (h2:decide (j<1073741824)=true):uF i j:=⟨of_decide_eq_true h1,of_decide_eq_true h2⟩
theorem pT {i j:Int} (h1:decide (0≤j)=true) (h2:decide (j≤1000000)=true) (h3:decide (i.natAbs<2 ^ 64)=true):sF i j:=⟨of_decide_eq_true h1,of_decide_eq_true h2,of_decide_eq_true h3⟩
theorem jO {i j:Int} (h1:decide (-(2 ^ 64)<i)=true) (h2:decide (i<2 ^ 64)=true):CMul i j:=Or.inl ⟨of_decide_eq_true h1,of_decide_eq_true h2⟩
theorem mulR {i j:Int} (h1:decide (-(2 ^ 64)<j)=true) (h2:decide (j<2 ^ 64)=true):CMul i j:=Or.inr ⟨of_decide_eq_true h1,of_decide_eq_true h2⟩
theorem vL (x m y:Int) (h0:decide (0<m)=true) (h1:decide (m<4294967296)=true):CMul (x % m) y:=by
 have h0:=of_decide_eq_true h0
 have h1:=of_decide_eq_true h1
 exact Or.inl ⟨by have:=Int.emod_nonneg x (show m≠0 by omega);omega,by have:=Int.emod_lt_of_pos x h0;omega⟩
theorem uk (a b c:V):atI [a,b,c] 0=some a:=rfl
theorem my (a b c:V):atI [a,b,c] 1=some b:=rfl
theorem fc (a b c:V):atI [a,b,c] 2=some c:=rfl
theorem mG {α:Type} {xs:List α} {i:Int} (h0:0≤i) (h1:i<xs.length):∃v,atI xs i=some v∧v∈xs:=by
 have hi:i.toNat<xs.length:=by omega
 have e:((i.toNat:Nat):Int)=i:=by omega
 refine ⟨xs[i.toNat],?_,List.getElem_mem hi⟩
 have q:=Of (xs:=xs) (j:=i.toNat) (v:=xs[i.toNat]) (List.getElem?_eq_getElem hi)
 rw [e] at q
 exact q
theorem Zn {n:Nat} (h:n≤1000000):n≤sizeLine:=Nat.le_trans h (by decide)
theorem Zp {n:Nat} (h:n<1000000):n<sizeLine:=Nat.lt_of_lt_of_le h (by decide)
theorem fI {lo:Int} {n k:Nat} {g:TG} {tt:TT} {te:TE} {σ:St} {H:Hp} {Q:VK} (Pv:Nat→List V→Hp→Prop) (h0:Pv 0 [] H)
  (hs:∀i ys H (C:List V→Hp→Prop),i<n→Pv i ys H→(∀ys' H',Pv (i+1) ys' H'→C ys' H')→ys.length<sizeLine∧g (.int (lo+i)) (List.replicate k none++σ) H fun σ2 H2=>Wk σ2 (List.replicate k none++σ)∧tt σ2 H2 fun ok H3=>
   if ok=true then te σ2 H3 fun y H4=>C (ys++[y]) H4 else C ys H3)
  (hd:∀ys H,Pv n ys H→ys.length≤sizeLine∧∀p,H p=none→Q (.ref p) (upd H p (.lst ys))):
  CompR (Itr lo n) H k g tt te σ Q:=by
 refine ⟨fun i m ys H=>m=n - i∧i≤n∧Pv i ys H,⟨n,by simp,Nat.zero_le _,h0⟩,?_⟩
 rintro i m ys H ⟨rfl,hi,p⟩
 by_cases hlt:i<n
 ·have q:=hs i ys H (fun ys' H'=>∃m',m'<n - i∧m'=n - (i+1)∧i+1≤n∧Pv (i+1) ys' H') hlt p fun ys' H' p'=>⟨_,by omega,rfl,hlt,p'⟩
  refine .inr ⟨hlt,q.1,fun x H' y=>?_⟩
  obtain ⟨e,y⟩:=y
  subst e y
  exact q.2
 ·have e:i=n:=by omega
  subst e
  exact .inl ⟨Nat.le_refl _,hd ys H p⟩
theorem Sa {K:W.Frag} {a:Addr} {xs:List V} {k:Nat} {g:TG} {tt:TT} {te:TE} {σ:St} {H:Hp} {Q:VK} (Pv:Nat→List V→Hp→Prop) (h0:Pv 0 [] H) (hl:∀i ys H,i≤xs.length→Pv i ys H→SqL K H a xs)
  (hs:∀i x ys H (C:List V→Hp→Prop),xs[i]?=some x→Pv i ys H→(∀ys' H',Pv (i+1) ys' H'→C ys' H')→ys.length<sizeLine∧g x (List.replicate k none++σ) H fun σ2 H2=>Wk σ2 (List.replicate k none++σ)∧tt σ2 H2 fun ok H3=>
   if ok=true then te σ2 H3 fun y H4=>C (ys++[y]) H4 else C ys H3)
  (hd:∀ys H,Pv xs.length ys H→ys.length≤sizeLine∧∀p,H p=none→Q (.ref p) (upd H p (.lst ys))):
  CompR (Itl K a) H k g tt te σ Q:=by
 refine ⟨fun i m ys H=>m=xs.length - i∧i≤xs.length∧Pv i ys H,⟨xs.length,by simp,Nat.zero_le _,h0⟩,?_⟩
 rintro i m ys H ⟨rfl,hi,p⟩
 have q:=hl i ys H hi p
 by_cases hlt:i<xs.length
 ·have r:=hs i xs[i] ys H (fun ys' H'=>∃m',m'<xs.length - i∧m'=xs.length - (i+1)∧i+1≤xs.length∧Pv (i+1) ys' H') (by simp [hlt]) p fun ys' H' p'=>⟨_,by omega,rfl,hlt,p'⟩
  refine .inr ⟨⟨xs,xs[i],q,by simp [hlt]⟩,r.1,fun x H' y=>?_⟩
  obtain ⟨e,y⟩:=y
  subst e
  have ex:xs[i]?=some x:=y xs q
  have ex2:xs[i]=x:=by simpa [hlt] using ex
  rw [←ex2]
  exact r.2
 ·have e:i=xs.length:=by omega
  subst e
  exact .inl ⟨⟨xs,q,Nat.le_refl _⟩,hd ys H p⟩
structure Th where
 day:Int
 word:Str
 num:Int
 many:Int
def Th.D (t:Th):PyData:=.tuple [.int t.day,.str t.word,.int t.num,.int t.many]
def Th.vs (t:Th):List V:=[.int t.day,.str t.word,.int t.num,.int t.many]
theorem Th.dv {H:Hp} {r:Addr} {t:Th} (h:H r=some (.tup t.vs)):DV H (.ref r) t.D:=.tup h (.cons (.int _) (.cons (.str _) (.cons (.int _) (.cons (.int _) .nil))))
inductive Tr where
 | leaf (ts:List Th)
 | node (l r:Tr)
abbrev cK (ts:List Th):PyData:=.list (ts.map Th.D)
def Tr.D:Tr→PyData
 | .leaf ts=>cK ts
 | .node l r=>.tuple [.str "merged",l.D,r.D]
def Tr.streams:Tr→List (List Th)
 | .leaf ts=>[ts]
 | .node l r=>l.streams++r.streams
def Tr.size:Tr→Nat
 | .leaf _=>1
 | .node l r=>l.size+r.size+1
def Tr.ht:Tr→Nat
 | .leaf _=>0
 | .node l r=>max l.ht r.ht+1
def Tr.all:Tr→List Th
 | .leaf ts=>ts
 | .node l r=>l.all++r.all
theorem Tr.size_pos:∀t:Tr,0<t.size
 | .leaf _=>Nat.zero_lt_one
 | .node _ _=>Nat.succ_pos _
theorem Tr.all_eq:∀t:Tr,t.all=t.streams.flatten
 | .leaf ts=>by simp [Tr.all,Tr.streams]
 | .node l r=>by
  show l.all++r.all=(l.streams++r.streams).flatten
  rw [List.flatten_append,all_eq l,all_eq r]
theorem iz {α:Type} {f:α→PyData} {n:Nat}:∀(xs:List α),(∀x∈xs,(f x).canLay0=true∧(f x).depth≤n)→PyData.canLayAll0 (xs.map f)=true∧PyData.depthAll (xs.map f)≤n
 | [],_=>by simp [PyData.canLayAll0,PyData.depthAll]
 | x::xs,h=>by
  have h1:=h x List.mem_cons_self
  have h2:=iz xs fun y hy=>h y (List.mem_cons_of_mem _ hy)
  rw [List.map_cons,PyData.canLayAll0,PyData.depthAll,h1.1,h2.1]
  exact ⟨rfl,Nat.max_le.mpr ⟨h1.2,h2.2⟩⟩
theorem Q3 {α:Type} {f:α→PyData} {n:Nat} (xs:List α) (h:∀x∈xs,(f x).canLay0=true∧(f x).depth≤n):(PyData.list (xs.map f)).canLay0=true∧(PyData.list (xs.map f)).depth≤n+1:=by
 have q:=iz xs h
 rw [PyData.canLay0,PyData.depth]
 exact ⟨q.1,Nat.succ_le_succ q.2⟩
theorem X0 {d:PyData} {n:Nat} (h:d.canLay0=true∧d.depth≤n) (hn:n≤64):SeqAt.shaped d=true:=by
 unfold SeqAt.shaped
 rw [h.1,Bool.true_and]
 exact decide_eq_true (Nat.le_trans h.2 hn)
theorem Qa {d:PyData} {n:Nat} (h:d.canLay0=true∧d.depth≤n):PyData.eqv d d=true:=SeqAt.eqv_refl d h.1
theorem oG (ds:List PyData):PyData.eqv (.list ds) (.list [])=ds.isEmpty:=by
 cases ds <;> simp [PyData.eqv,PyData.eqvAll]
theorem DV.list_inv {H:Hp} {v:V} {ds:List PyData} (h:DV H v (.list ds)):∃a xs,v=.ref a∧H a=some (.lst xs)∧DVs H xs ds:=by
 cases h with
 | lst e r=>exact ⟨_,_,rfl,e,r⟩
theorem DV.tup_inv {H:Hp} {v:V} {ds:List PyData} (h:DV H v (.tuple ds)):∃a xs,v=.ref a∧H a=some (.tup xs)∧DVs H xs ds:=by
 cases h with
 | tup e r=>exact ⟨_,_,rfl,e,r⟩
theorem DVs.cons_inv {H:Hp} {vs:List V} {d:PyData} {ds:List PyData} (h:DVs H vs (d::ds)):∃x r,vs=x::r∧DV H x d∧DVs H r ds:=by
 cases h with
 | cons a b=>exact ⟨_,_,rfl,a,b⟩
theorem DVs.nil_inv {H:Hp} {vs:List V} (h:DVs H vs []):vs=[]:=by
 cases h with
 | nil=>rfl
theorem DV.node_inv {H:Hp} {v:V} {l r:Tr} (h:DV H v (Tr.node l r).D):∃a m x y,v=.ref a∧H a=some (.tup [m,x,y])∧DV H x l.D∧DV H y r.D:=by
 obtain ⟨a,xs,rfl,e,q⟩:=DV.tup_inv h
 obtain ⟨m,r1,rfl,_,q1⟩:=q.cons_inv
 obtain ⟨x,r2,rfl,hx,q2⟩:=q1.cons_inv
 obtain ⟨y,r3,rfl,hy,q3⟩:=q2.cons_inv
 have:=q3.nil_inv
 subst this
 exact ⟨a,m,x,y,rfl,e,hx,hy⟩
theorem Yx {H H':Hp} {a:Addr} {o:HO} (g:Same H H') (h:H a=none):Same H (upd H' a o):=fun b u q=>by rw [Zb (Zi q h)];exact g b u q
theorem Has.of {P:Program} {w:World} {K:W.Frag} {mg:Str→Option Value} {base:Heap} {x:Str} {k:Nat} {ps:List Str} {sp:Sp} {f:Addr} {fd:FuncData} (F:FnOk P w K mg base CX0 k f fd ps sp) (b:Binds K fd ps []) (kp:W.keepIn K (.ref f)=true) (m:mg x=some (.ref f)):
  Has P w K mg base x k ps sp:=⟨f,fd,F,b,kp,m⟩
theorem qu {P:Program} {w:World} {K:W.Frag} {mg:Str→Option Value} {base:Heap} {k:Nat} {ps:List Str} {sp:Sp} {f:Addr} {fd:FuncData} (no:∀vs H Q E,¬sp vs H Q E):FnOk P w K mg base CX0 k f fd ps sp:=
 ⟨fun vs H Q E h=>absurd h (no vs H Q E),fun A outer s H args us vs Q E _ _ _ _ h=>absurd h (no vs H Q E)⟩
def uJ (t T:String):Option Bool:=if (Value.type t == Value.type T)=true then some true else if W.kitMeta T=true then (PySem.fastBuiltinMro t).map (·.contains (.type T)) else none
theorem lv {K:W.Frag} {t T:String} {b:Bool} (h:uJ t T=some b):W.kitOne K (.type t) (.type T)=some b:=h
theorem mP {K:W.Frag}:W.kitOne K (.type "list") (.type "list")=some true:=lv (by decide +kernel)
theorem lT {K:W.Frag}:W.kitOne K (.type "tuple") (.type "list")=some false:=lv (by decide +kernel)
section
variable {X:Cx}
theorem qE {ns:List Int} {us:List Value} (r:Vals (ns.map V.int) us) {i:Nat} {u:Value} (h:us[i]?=some u):∃t,u=.int (ns.getD i 0) t:=IntsAre.int_at (Vd r) i u h
theorem Vu (hc:X.calm=true):bZ X (.builtin "sum") (fun xs H Q=>∃(p:Addr) (ns:List Int),xs=[.ref p]∧SqL X.K H p (ns.map V.int)∧Q (.int ns.sum) H):=by
 intro pins s σ H xs us Q I r h
 obtain ⟨p,ns,rfl,hq,q⟩:=h
 obtain ⟨u,rfl,ru⟩:=Ve r
 cases ru
 obtain ⟨its,rv,pl,hz⟩:=I.list hq
 have hl:=rv.length
 rw [List.length_map] at hl
 have hlt:p<s.heap.objs.size:=by
  obtain ⟨o,n,e,_⟩:=pl
  exact Heap.lt_size e
 refine call_sum_walkG (wpAny_pyIter_list pl.isList ?_)
 have hh:X.A.in1.handled=none:=by simpa using I.ok.hd hc
 refine ⟨s.heap.objs.size,_,_,_,_,_,fun i=>ns.getD i 0,rfl,Walks.list hh _ p (Nat.ne_of_lt hlt) its.toArray,⟨⟨_,Heap.get?_push_size _ rfl,rfl,rfl⟩,pl.isList.push _⟩,fun b hb=>?_,fun i v hv=>?_,fun h' tk t' kp=>?_⟩
 ·rw [Heap.size_push]
  rcases List.mem_cons.mp hb with e | e
  ·rw [e];exact Nat.lt_succ_self _
  ·rw [List.mem_singleton.mp e];exact Nat.lt_succ_of_lt hlt
 ·exact qE rv (by simpa using hv)
 ·have e:preSum (fun i=>ns.getD i 0) its.toArray.size=ns.sum:=by
   rw [PyProof.Rows.preSum_getD,List.size_toArray,←hl,List.take_length]
  rw [e]
  refine ⟨.int ns.sum,H,I.kept fun b o eb=>kp b o ?_ (Heap.get?_push_of_some _ eb),⟨_,rfl⟩,q⟩
  intro hb
  rw [List.mem_singleton.mp hb] at eb
  exact absurd (Heap.lt_size eb) (Nat.lt_irrefl _)
end
section
variable {prog:Program} {w:World} {A:Around} {R:Result→Shared→Prop} {I:Addr} {fp wr:List Addr} {n:Nat} {P:Nat→Value→Prop} {St:Nat→Heap→Prop}
end
section
variable {prog:Program} {w:World} {A:Around} {E:Value→Shared→Prop} {s:Shared}
end
section
variable {X:Cx}
end
theorem DV.th_inv {H:Hp} {v:V} {t:Th} (h:DV H v t.D):∃c,v=.ref c∧H c=some (.tup t.vs):=by
 obtain ⟨c,xs,rfl,e,q⟩:=DV.tup_inv h
 obtain ⟨_,_,rfl,k1,q⟩:=q.cons_inv
 obtain ⟨_,_,rfl,k2,q⟩:=q.cons_inv
 obtain ⟨_,_,rfl,k3,q⟩:=q.cons_inv
 obtain ⟨_,_,rfl,k4,q⟩:=q.cons_inv
 have:=q.nil_inv
 subst this
 cases k1
 cases k2
 cases k3
 cases k4
 exact ⟨c,rfl,e⟩
theorem DVs.th_at {H:Hp} {xs:List V} {ts:List Th} {i:Nat} {x:V} (h:DVs H xs (ts.map Th.D)) (hx:xs[i]?=some x):∃t c,ts[i]?=some t∧x=.ref c∧H c=some (.tup t.vs)∧t∈ts:=by
 obtain ⟨d,hd,dv⟩:=DVs.getV h hx
 rw [List.getElem?_map] at hd
 obtain ⟨t,ht,rfl⟩:=Option.map_eq_some_iff.mp hd
 obtain ⟨c,rfl,e⟩:=DV.th_inv dv
 exact ⟨t,c,ht,rfl,e,List.mem_of_getElem? ht⟩
theorem Yj {α:Type} {l:List α} {i:Nat} {x:α} (h:l[i]?=some x):l.take (i+1)=l.take i++[x]:=by rw [List.take_add_one,h];rfl
theorem eK {K:W.Frag} {a:Addr} {xs:List V} {ts:List Th} {k:Nat} {g:TG} {tt:TT} {te:TE} {σ:St} {H:Hp} {Q:VK} (p:Th→Bool) (f:Th→V) (e:H a=some (.lst xs)) (dv:DVs H xs (ts.map Th.D)) (hl:ts.length≤100000)
  (hs:∀(t:Th) (c:Addr) (ys:List V) (C:List V→Hp→Prop),t∈ts→H c=some (.tup t.vs)→(p t=true→C (ys++[f t]) H)→(p t=false→C ys H)→g (.ref c) (List.replicate k none++σ) H fun σ2 H2=>Wk σ2 (List.replicate k none++σ)∧tt σ2 H2 fun ok H3=>
   if ok=true then te σ2 H3 fun y H4=>C (ys++[y]) H4 else C ys H3)
  (hd:∀q,H q=none→Q (.ref q) (upd H q (.lst ((ts.filter p).map f)))):
  CompR (Itl K a) H k g tt te σ Q:=by
 have dl:=dv.length
 rw [List.length_map] at dl
 have le:∀i,(((ts.take i).filter p).map f).length≤100000:=fun i=>by
  rw [List.length_map]
  have h1:=List.length_filter_le p (ts.take i)
  rw [List.length_take] at h1
  omega
 refine Sa (xs:=xs) (fun i ys H'=>H'=H∧ys=((ts.take i).filter p).map f) ⟨rfl,rfl⟩ ?_ ?_ ?_
 ·rintro i ys H' _ ⟨rfl,_⟩
  exact SqL.of e
 ·rintro i x ys H' C hx ⟨rfl,rfl⟩ hC
  obtain ⟨t,c,ht,rfl,ec,hm⟩:=DVs.th_at dv hx
  refine ⟨Zp (by have:=le i;omega),hs t c _ C hm ec (fun hp=>hC _ _ ⟨rfl,?_⟩) (fun hp=>hC _ _ ⟨rfl,?_⟩)⟩
  ·rw [Yj ht,List.filter_append,List.map_append,List.filter_cons,hp]
   rfl
  ·rw [Yj ht,List.filter_append,List.filter_cons,hp]
   simp
 ·rintro ys H' ⟨rfl,rfl⟩
  rw [dl,List.take_length]
  refine ⟨Zn (by have:=le ts.length;rw [List.take_length] at this;omega),hd⟩
section
variable {κ:Type} [DecidableEq κ]
def bD (kvs:List (κ×V)) (k:κ):Option V:=(kvs.find? fun kv=>decide (kv.1=k)).map (·.2)
def aZ (kvs:List (κ×V)) (k:κ) (v:V):List (κ×V):=
 if (kvs.any fun kv=>decide (kv.1=k))=true then kvs.map (fun kv=>if kv.1=k then (kv.1,v) else kv) else kvs++[(k,v)]
def cu (kvs:List (κ×V)) (k:κ):List (κ×V):=kvs.filter fun kv=>decide (kv.1≠k)
theorem Y2 {p:κ×V} {r:List (κ×V)} {k:κ} (e:p.1=k):bD (p::r) k=some p.2:=by simp [bD,List.find?_cons,e]
theorem Zx {p:κ×V} {r:List (κ×V)} {k:κ} (e:¬p.1=k):bD (p::r) k=bD r k:=by simp [bD,List.find?_cons,e]
theorem Wi (k:κ):∀kvs:List (κ×V),(kvs.any fun kv=>decide (kv.1=k))=(bD kvs k).isSome
 | []=>rfl
 | p::r=>by
  rw [List.any_cons]
  by_cases e:p.1=k
  ·simp only [Y2 e,decide_eq_true e,Bool.true_or,Option.isSome_some]
  ·rw [Zx e,decide_eq_false e,Bool.false_or];exact Wi k r
theorem Oo (k j:κ) (y:V):∀kvs:List (κ×V),bD (kvs.map fun kv=>if kv.1=k then (kv.1,y) else kv) j=(bD kvs j).map fun x=>if j=k then y else x
 | []=>rfl
 | p::r=>by
  have ih:=Oo k j y r
  rw [List.map_cons]
  by_cases h:p.1=k
  ·rw [if_pos h]
   by_cases e:p.1=j
   ·rw [Y2 (p:=(p.1,y)) e,Y2 e,Option.map_some,if_pos (e.symm.trans h)]
   ·rw [Zx (p:=(p.1,y)) e,Zx e,ih]
  ·rw [if_neg h]
   by_cases e:p.1=j
   ·rw [Y2 (p:=p) e,Y2 e,Option.map_some,if_neg (fun z=>h (e.trans z))]
   ·rw [Zx (p:=p) e,Zx e,ih]
theorem Qo (k j:κ) (y:V):∀kvs:List (κ×V),bD kvs k=none→bD (kvs++[(k,y)]) j=if j=k then some y else bD kvs j
 | [],_=>by
  by_cases e:k=j
  ·rw [if_pos e.symm];exact Y2 (p:=(k,y)) e
  ·rw [if_neg (fun z=>e z.symm)];exact Zx (p:=(k,y)) e
 | p::r,hn=>by
  rw [List.cons_append]
  have hk:¬p.1=k:=fun z=>by rw [Y2 z] at hn;cases hn
  rw [Zx hk] at hn
  have ih:=Qo k j y r hn
  by_cases e:p.1=j
  ·rw [Y2 e,Y2 e,if_neg (fun z=>hk (e.trans z))]
  ·rw [Zx e,Zx e,ih]
theorem lA (kvs:List (κ×V)) (k j:κ) (y:V):bD (aZ kvs k y) j=if j=k then some y else bD kvs j:=by
 unfold aZ
 by_cases a:(kvs.any fun kv=>decide (kv.1=k))=true
 ·rw [if_pos a,Oo]
  rw [Wi] at a
  by_cases e:j=k
  ·obtain ⟨x,hx⟩:=Option.isSome_iff_exists.mp a
   rw [if_pos e,e,hx,Option.map_some,if_pos rfl]
  ·rw [if_neg e]
   cases bD kvs j with
   | none=>rfl
   | some x=>rw [Option.map_some,if_neg e]
 ·rw [if_neg a]
  refine Qo k j y kvs ?_
  rw [Wi] at a
  cases q:bD kvs k with
  | none=>rfl
  | some x=>rw [q] at a;exact (a rfl).elim
theorem Sc (kvs:List (κ×V)) (k:κ) (v:V):(aZ kvs k v).length≤kvs.length+1:=by
 unfold aZ
 split
 ·rw [List.length_map];omega
 ·rw [List.length_append,List.length_cons,List.length_nil];omega
theorem nG {kvs:List (κ×V)} {k:κ} (v:V) (h:bD kvs k=none):aZ kvs k v=kvs++[(k,v)]:=by
 unfold aZ
 rw [Wi,h]
 exact if_neg (by decide)
theorem RelO.isSome_eq {o:Option V} {u:Option Value} (r:RelO o u):o.isSome=u.isSome:=by
 cases o with
 | none=>cases u with
  | none=>rfl
  | some _=>exact (show False from r).elim
 | some _=>cases u with
  | none=>exact (show False from r).elim
  | some _=>rfl
theorem RelO.getD {o:Option V} {u:Option Value} {d:V} {d':Value} (r:RelO o u) (rd:RelV d d'):RelV (o.getD d) (u.getD d'):=by
 cases o with
 | none=>cases u with
  | none=>exact rd
  | some _=>exact (show False from r).elim
 | some _=>cases u with
  | none=>exact (show False from r).elim
  | some _=>exact r
theorem KV.val {kvs:List (κ×V)} {vs:List (κ×Value)} (r:KV kvs vs) (k:κ):RelO (bD kvs k) (valueAt vs k):=by
 unfold KV at r
 induction r with
 | nil=>exact True.intro
 | @cons p q ps qs h t ih=>
  obtain ⟨h1,h2⟩:=h
  by_cases e:p.1=k
  ·have e':q.1=k:=h1.symm.trans e
   have b:valueAt (q::qs) k=some q.2:=by simp [valueAt,List.find?_cons,e']
   rw [Y2 e,b];exact h2
  ·have e':¬q.1=k:=fun z=>e (h1.trans z)
   have b:valueAt (q::qs) k=valueAt qs k:=by simp [valueAt,List.find?_cons,e']
   rw [Zx e,b];exact ih
theorem KV.any {kvs:List (κ×V)} {vs:List (κ×Value)} (r:KV kvs vs) (k:κ):(kvs.any fun kv=>decide (kv.1=k))=vs.any fun kv=>decide (kv.1=k):=by
 unfold KV at r
 induction r with
 | nil=>rfl
 | cons h t ih=>rw [List.any_cons,List.any_cons,ih,h.1]
theorem KV.repl {kvs:List (κ×V)} {vs:List (κ×Value)} (r:KV kvs vs) (k:κ) {y:V} {u:Value} (ry:RelV y u):
  KV (kvs.map fun kv=>if kv.1=k then (kv.1,y) else kv) (vs.map fun kv=>if kv.1=k then (kv.1,u) else kv):=by
 unfold KV at r ⊢
 induction r with
 | nil=>exact .nil
 | @cons p q ps qs h t ih=>
  rw [List.map_cons,List.map_cons]
  refine .cons ?_ ih
  obtain ⟨h1,h2⟩:=h
  by_cases e:p.1=k
  ·rw [if_pos e,if_pos (h1.symm.trans e)];exact ⟨h1,ry⟩
  ·rw [if_neg e,if_neg (fun z=>e (h1.trans z))];exact ⟨h1,h2⟩
theorem KV.put {kvs:List (κ×V)} {vs:List (κ×Value)} (r:KV kvs vs) (k:κ) {y:V} {u:Value} (ry:RelV y u):KV (aZ kvs k y) (stored vs k u):=by
 unfold aZ stored
 rw [r.any k]
 by_cases e:(vs.any fun kv=>decide (kv.1=k))=true
 ·rw [if_pos e,if_pos e];exact r.repl k ry
 ·rw [if_neg e,if_neg e];exact Paired.snoc r ⟨rfl,ry⟩
theorem KV.keys {kvs:List (κ×V)} {vs:List (κ×Value)} (r:KV kvs vs):kvs.map (·.1)=vs.map (·.1):=by
 unfold KV at r
 induction r with
 | nil=>rfl
 | cons h t ih=>rw [List.map_cons,List.map_cons,ih,h.1]
theorem KV.length {kvs:List (κ×V)} {vs:List (κ×Value)} (r:KV kvs vs):kvs.length=vs.length:=Paired.length r
end
theorem eU {P:Program} {w:World} {k:Key} {u:Value} (r:RelV (kV k) u):(aj P w).is k u=true:=by
 cases k with
 | inl i=>obtain ⟨t,e⟩:=(show ∃t,u=Value.int i t from r);subst e;exact Vq P w i t
 | inr x=>obtain ⟨t,e⟩:=(show ∃t,u=Value.str x t from r);subst e;exact Nc P w x t
theorem P1 {P:Program} {w:World}:∀{ks:List Key} {us:List Value},Vals (ks.map kV) us→ItemsAre (aj P w) ks us
 | [],_,r=>by rw [List.map_nil] at r;cases r;exact .nil
 | k::ks,_,r=>by
  rw [List.map_cons] at r
  cases r with
  | cons h t=>exact .cons (eU h) (P1 t)
abbrev KT (H:Hp):List (List Key×V)→List (List Key×Addr×Value)→Prop:=Paired fun p q=>p.1=q.1∧H q.2.1=some (.tup (p.1.map kV))∧RelV p.2 q.2.2
theorem KT.val {H:Hp} {kvs:List (List Key×V)} {xs:List (List Key×Addr×Value)} (r:KT H kvs xs) (k:List Key):RelO (bD kvs k) ((atKey xs k).map (·.2)):=by
 induction r with
 | nil=>exact True.intro
 | @cons p q ps qs h t ih=>
  obtain ⟨h1,_,h2⟩:=h
  by_cases e:p.1=k
  ·have e':q.1=k:=h1.symm.trans e
   have b:atKey (q::qs) k=some q.2:=by simp [atKey,List.find?_cons,e']
   rw [Y2 e,b];exact h2
  ·have e':¬q.1=k:=fun z=>e (h1.trans z)
   have b:atKey (q::qs) k=atKey qs k:=by simp [atKey,List.find?_cons,e']
   rw [Zx e,b];exact ih
theorem KT.repl {H:Hp} {kvs:List (List Key×V)} {xs:List (List Key×Addr×Value)} (r:KT H kvs xs) (k:List Key) {y:V} {u:Value} (ry:RelV y u):
  KT H (kvs.map fun kv=>if kv.1=k then (kv.1,y) else kv) (xs.map (putAt k u)):=by
 induction r with
 | nil=>exact .nil
 | @cons p q ps qs h t ih=>
  rw [List.map_cons,List.map_cons]
  refine .cons ?_ ih
  obtain ⟨h1,h2,h3⟩:=h
  unfold putAt
  by_cases e:p.1=k
  ·rw [if_pos e,if_pos (h1.symm.trans e)];exact ⟨h1,h2,ry⟩
  ·rw [if_neg e,if_neg (fun z=>e (h1.trans z))];exact ⟨h1,h2,h3⟩
theorem KT.put {H:Hp} {kvs:List (List Key×V)} {xs:List (List Key×Addr×Value)} (r:KT H kvs xs) (k:List Key) {b:Addr} {y:V} {u:Value} (hb:H b=some (.tup (k.map kV))) (ry:RelV y u):
  KT H (aZ kvs k y) (storedH xs k b u):=by
 have e:(kvs.any fun kv=>decide (kv.1=k))=(atKey xs k).isSome:=by
  rw [Wi,(r.val k).isSome_eq,Option.isSome_map]
 unfold aZ storedH
 rw [e]
 by_cases q:(atKey xs k).isSome=true
 ·rw [if_pos q,if_pos q];exact r.repl k ry
 ·rw [if_neg q,if_neg q];exact Paired.snoc r ⟨rfl,hb,ry⟩
theorem KT.keeps {H H':Hp} {kvs:List (List Key×V)} {xs:List (List Key×Addr×Value)} (r:KT H kvs xs) (ht:∀b ys,H b=some (.tup ys)→H' b=some (.tup ys)):KT H' kvs xs:=
 Paired.mapP r fun _ _ z=>⟨z.1,ht _ _ z.2.1,z.2.2⟩
section
variable {P:Program} {w:World} {H:Hp} {h:Heap} {a:Addr}
theorem lc {u:HO} (ok:HOk P w H h) (e:Rd H a u):ObjOk P w H h a u:=e.ok ok
theorem P7 {kvs:List (Key×V)} (ok:HOk P w H h) (e:Rd H a (.dK kvs)):kvs.length≤sizeLine∧(a == sysModules)=false∧∃vs,KV kvs vs∧h.DictOf (aj P w) a vs:=
 show ObjOk P w H h a (.dK kvs) from lc ok e
theorem ip {kvs:List (Key×V)} (ok:HOk P w H h) (e:H a=some (.dK kvs)):kvs.length≤sizeLine∧(a == sysModules)=false∧∃vs,KV kvs vs∧h.DictOf (aj P w) a vs:=P7 ok (.inl e)
theorem Ur {ks:List Key} (ok:HOk P w H h) (e:H a=some (.tup (ks.map kV))):(tupleKind (aj P w)).is h ks a:=by
 obtain ⟨_,its,r,o,h1,h2,n,h3⟩:=(show ObjOk P w H h a (.tup (ks.map kV)) from ok a _ e)
 exact ⟨o,its.toArray,n,h1,h2.1,h3,by simpa using P1 r⟩
theorem P5 {kvs:List (List Key×V)} (ok:HOk P w H h) (e:Rd H a (.dT kvs)):kvs.length≤sizeLine∧(a == sysModules)=false∧
  ∃xs,KT H kvs xs∧h.DictOfH (tupleKind (aj P w)) a xs:=by
 obtain ⟨z,y,xs,r,o,es,ep,h1,h2,h3,h4,h5⟩:=(show ObjOk P w H h a (.dT kvs) from lc ok e)
 refine ⟨z,y,xs,r,o,es,ep,h1,h2,h3,h4,fun x hx=>?_,h5⟩
 have all:∀{l:List (List Key×V)} {m:List (List Key×Addr×Value)},KT H l m→∀x∈m,(tupleKind (aj P w)).is h x.1 x.2.1:=by
  intro l m q
  induction q with
  | nil=>intro x hx;exact nomatch hx
  | @cons p q ps qs hq t ih=>
   intro x hx
   rcases List.mem_cons.mp hx with e | hx
   ·subst e
    exact Ur ok (by rw [←hq.1];exact hq.2.1)
   ·exact ih x hx
 exact all r x hx
theorem q_ {kvs:List (List Key×V)} (ok:HOk P w H h) (e:H a=some (.dT kvs)):kvs.length≤sizeLine∧(a == sysModules)=false∧
  ∃xs,KT H kvs xs∧h.DictOfH (tupleKind (aj P w)) a xs:=P5 ok (.inl e)
end
def DGet (H:Hp) (a:Addr) (y:V) (r:Option V):Prop:=
 (∃kvs k,Rd H a (.dK kvs)∧y=kV k∧r=bD kvs k)∨∃kvs k b,Rd H a (.dT kvs)∧y=.ref b∧H b=some (.tup (k.map kV))∧r=bD kvs k
def DPut (H:Hp) (a:Addr) (y v:V) (H':Hp):Prop:=
 (∃kvs k,H a=some (.dK kvs)∧y=kV k∧kvs.length<sizeLine∧H'=upd H a (.dK (aZ kvs k v)))∨
 ∃kvs k b,H a=some (.dT kvs)∧y=.ref b∧H b=some (.tup (k.map kV))∧kvs.length<sizeLine∧H'=upd H a (.dT (aZ kvs k v))
theorem DGet.k {H:Hp} {a:Addr} {kvs:List (Key×V)} {k:Key} (e:H a=some (.dK kvs)):DGet H a (kV k) (bD kvs k):=.inl ⟨kvs,k,.inl e,rfl,rfl⟩
theorem DGet.t {H:Hp} {a b:Addr} {kvs:List (List Key×V)} {k:List Key} (e:H a=some (.dT kvs)) (eb:H b=some (.tup (k.map kV))):DGet H a (.ref b) (bD kvs k):=.inr ⟨kvs,k,b,.inl e,rfl,eb,rfl⟩
theorem DPut.k {H:Hp} {a:Addr} {kvs:List (Key×V)} {k:Key} {v:V} (e:H a=some (.dK kvs)) (hl:kvs.length<sizeLine):DPut H a (kV k) v (upd H a (.dK (aZ kvs k v))):=.inl ⟨kvs,k,e,rfl,hl,rfl⟩
theorem DPut.t {H:Hp} {a b:Addr} {kvs:List (List Key×V)} {k:List Key} {v:V} (e:H a=some (.dT kvs)) (eb:H b=some (.tup (k.map kV))) (hl:kvs.length<sizeLine):
  DPut H a (.ref b) v (upd H a (.dT (aZ kvs k v))):=.inr ⟨kvs,k,b,e,rfl,eb,hl,rfl⟩
section
variable {X:Cx} {pins:List (Addr×Obj)} {σ:St} {H:Hp} {s:Shared} {a:Addr} {y v:V} {u r:Value} {o:Option V} {A:Around} {E:Value→Shared→Prop}
theorem Inv.big (I:Inv X pins σ H s):sysModules<s.heap.objs.size:=by
 have h:mainGlobals<s.heap.objs.size:=(I.mod.glob.keeps I.bk).lt
 exact Nat.lt_trans (by decide) h
theorem j8 {Q:Value→Shared→Prop} (hu:A.units+1<cLine) (I:Inv X pins σ H s) (g:DGet H a y (some v)) (ry:RelV y u) (h:∀w' s',Inv X pins σ H s'→RelV v w'→Q w' s'):
  wpAny (model X.prog X.w) A (getItem (.ref a) u) Q E s:=by
 rcases g with ⟨kvs,k,e,ey,l⟩ | ⟨kvs,k,b,e,ey,eb,l⟩
 ·subst ey
  obtain ⟨z,hd,vs,rel,dd⟩:=P7 I.hok e
  obtain ⟨w',hw,rw'⟩:=RelO.some_of (v:=v) (o:=valueAt vs k) (by rw [l];exact rel.val k)
  exact wpAny_getItem_of (eU ry) dd.mapOf hw (h w' _ (I.tok _) rw')
 ·subst ey
  cases (show u=Value.ref b from ry)
  obtain ⟨z,hd,xs,rel,dd⟩:=P5 I.hok e
  obtain ⟨w',hw,rw'⟩:=RelO.some_of (v:=v) (o:=(atKey xs k).map (·.2)) (by rw [l];exact rel.val k)
  obtain ⟨p,hp,hp2⟩:=Option.map_eq_some_iff.mp hw
  refine wpAny_getItem_heap (tupleKind_room_in1 hu) (Ur I.hok eb) dd hp ?_
  rw [hp2]
  exact h w' _ (I.tok _) rw'
theorem d_in {Q:Value→Shared→Prop} (hu:A.units+1<cLine) (I:Inv X pins σ H s) (g:DGet H a y o) (ry:RelV y u) (h:∀s',Inv X pins σ H s'→Q (.bool o.isSome) s'):
  wpAny (model X.prog X.w) A (compareOp .In u (.ref a)) Q E s:=by
 rcases g with ⟨kvs,k,e,ey,l⟩ | ⟨kvs,k,b,e,ey,eb,l⟩
 ·subst ey
  obtain ⟨z,hd,vs,rel,dd⟩:=P7 I.hok e
  refine wpAny_in_of (eU ry) hd dd.mapOf ?_
  rw [←(rel.val k).isSome_eq,←l]
  exact h _ (I.tok _)
 ·subst ey
  cases (show u=Value.ref b from ry)
  obtain ⟨z,hd,xs,rel,dd⟩:=P5 I.hok e
  refine wpAny_in_heap (tupleKind_room_in1 hu) (Ur I.hok eb) hd dd ?_
  have q:=(rel.val k).isSome_eq
  rw [Option.isSome_map] at q
  rw [←q,←l]
  exact h _ (I.tok _)
theorem iR {h':Heap} {t':Nat} {ob:HO} (I:Inv X pins σ H s) (mu:Mut (H a)) (hs:Heap.SameBut a s.heap h') (he:∃q,h'.get? a=some q) (new:ObjOk X.prog X.w (upd H a ob) h' a ob):
  Inv X pins σ (upd H a ob) {s with heap:=h',toks:=t'}:=
 I.write (x:=a) (e:=a) mu (.inl rfl) (fun b q hb z=>(hs.2 b hb).trans z) he new
theorem sD {P:Program} {w:World} {H':Hp} {h':Heap} {kvs:List (Key×V)} {vs:List (Key×Value)} (z:kvs.length≤sizeLine) (hd:(a == sysModules)=false) (rel:KV kvs vs) (dd:h'.DictOf (aj P w) a vs):
  ObjOk P w H' h' a (.dK kvs):=⟨z,hd,vs,rel,dd⟩
theorem jM {H':Hp} {Q:Unit→Shared→Prop} (hu:A.units+1<cLine) (I:Inv X pins σ H s) (g:DPut H a y v H') (ry:RelV y u) (rv:RelV v r) (h:∀s',Inv X pins σ H' s'→Q () s'):
  wpAny (model X.prog X.w) A (setItem (.ref a) u r) Q E s:=by
 rcases g with ⟨kvs,k,e,ey,l,eH⟩ | ⟨kvs,k,b,e,ey,eb,l,eH⟩
 ·subst ey eH
  obtain ⟨z,hd,vs,rel,dd⟩:=ip I.hok e
  have hz:vs.length≤sizeLine:=by rw [←rel.length];exact z
  have hl:(aZ kvs k v).length≤sizeLine:=by have:=Sc kvs k v;omega
  refine wpAny_setItem_pairs (hsz:=hz) (eU ry) dd fun h' dd' hs=>h _ ?_
  have he:∃q,h'.get? a=some q:=let ⟨q,_,_,hq,_⟩:=dd';⟨q,hq⟩
  exact iR I (by rw [e];exact True.intro) hs he (sD hl hd (rel.put k rv) dd')
 ·subst ey eH
  cases (show u=Value.ref b from ry)
  obtain ⟨z,hd,xs,rel,dd⟩:=q_ I.hok e
  have hz:xs.length≤sizeLine:=by rw [←Paired.length rel];exact z
  have hl:(aZ kvs k v).length≤sizeLine:=by have:=Sc kvs k v;omega
  refine wpAny_setItem_heap (hsz:=hz) (tupleKind_room_in1 hu) (Ur I.hok eb) dd fun h' dd' hs=>h _ ?_
  obtain ⟨q,es,ep,hq,h2,h3,h4,_,h5⟩:=dd'
  refine iR I (by rw [e];exact True.intro) hs ⟨q,hq⟩ ⟨hl,hd,_,(rel.put k eb rv).keeps fun c ys ec=>?_,q,es,ep,hq,h2,h3,h4,h5⟩
  rw [Zb (Tj ec e (fun z=>nomatch z))]
  exact ec
end
section
variable {X:Cx} {pins:List (Addr×Obj)} {σ:St} {H:Hp} {s:Shared} {a:Addr} {kvs:List (Key×V)} {k:Key} {u:Value} {A:Around} {E:Value→Shared→Prop}
end
def u5 (i:Expr):Prop:=∀ov iv,subscripted i false ov iv=operate [ov,iv] (getItem ov iv)
theorem o0 {prog:Program} {w:World} {A:Around} {E:Value→Shared→Prop} {s:Shared} {env:Env} {value slice:Expr} {pos:Pos} {T id:String} {Q:Value→Shared→Prop}
  (hl:typeLookup (.type T) "__getitem__"=pure (some (.builtin id))) (hs:u5 slice)
  (h:wpAny (model prog w) A (eval value env) (fun o s₁=>wpAny (model prog w) A (eval slice env) (fun i s₂=>s₂.TypeIs o T∧wpAny (model prog w) A (getItem o i) Q E s₂) E s₁) E s):
  wpAny (model prog w) A (eval (.Subscript value slice pos) env) Q E s:=by
 refine Subscript_ (wpAny_mono h (fun o s₁ h₁=>wpAny_mono h₁ (fun i s₂ h₂=>?_) fun _ _ x=>x) fun _ _ x=>x)
 obtain ⟨hT,h₂⟩:=h₂
 unfold subscriptTail
 refine wpAny_bind ?_
 rw [getitemInPython_of_ne hT.not_modules]
 refine wpAny_bind (wpAny_specialOf hT hl ?_)
 have fin:wpAny (model prog w) A (subscripted slice false o i) (fun r s₃=>wpAny (model prog w) A (letTemporaryGo value o r >>= fun _=>pure r) Q E s₃) E s₂:=by
  rw [hs o i]
  exact wpAny_operating (wpAny_mono h₂ (fun r s₃ h₃=>wpAny_bind (wpAny_letTemporaryGo (wpAny_pure h₃))) fun _ _ x=>x)
 first
  | exact wpAny_pure (wpAny_bind fin)
  | exact wpAny_bind (wpAny_pure (wpAny_bind fin))
  | exact wpAny_bind fin
theorem eC {X:Cx} {pins:List (Addr×Obj)} {σ:St} {H:Hp} {s:Shared} {a:Addr} {y:V} {o:Option V} (I:Inv X pins σ H s) (g:DGet H a y o):s.TypeIs (.ref a) "dict":=by
 rcases g with ⟨kvs,k,e,_,_⟩ | ⟨kvs,k,b,e,_,_,_⟩
 ·obtain ⟨_,_,vs,_,dd⟩:=P7 I.hok e
  exact dd.typeIs
 ·obtain ⟨_,_,xs,_,dd⟩:=P5 I.hok e
  exact dd.typeIs
def vR (td ty:TE):TE:=fun σ H Q=>td σ H fun x H1=>ty σ H1 fun y H2=>∃a v,x=.ref a∧DGet H2 a y (some v)∧Q v H2
def vE (td ty tv:TE):TS:=fun D σ H=>tv σ H fun v H1=>td σ H1 fun x H2=>ty σ H2 fun y H3=>∃a H4,x=.ref a∧DPut H3 a y v H4∧D.nx σ H4
section
variable {X:Cx} {o i e value:Expr} {pos pos' tpos:Pos} {td ty tv:TE}
theorem Xc (hu:X.A.units+1<cLine) (ho:PE X o td) (hi:PE X i ty) (hs:u5 i):PE X (.Subscript o i pos) (vR td ty):=by
 intro pins s σ H Q I h
 refine o0 PySem.F.slot_dict_getitem.lookup hs (thn (ho pins s σ H _ I h) fun u s1 ⟨x,H1,I1,rx,q1⟩=>thn (hi pins s1 σ H1 _ I1 q1) fun iv s2 hpat=>?_)
 obtain ⟨y,H2,I2,ry,a,v,ex,g,q2⟩:=hpat
 subst ex
 obtain rfl:u=Value.ref a:=rx
 exact ⟨eC I2 g,j8 hu I2 g ry fun w' s3 I3 rw'=>⟨v,H2,I3,rw',q2⟩⟩
theorem Ta (hu:X.A.units+1<cLine) (ho:PE X o td) (hi:PE X i ty) (hv:PE X value tv) (hs:swapsWith value (some (.Subscript o i pos')) pos.line X.env=pure false):
  PS X (.Assign [.Subscript o i pos'] value pos) (vE td ty tv):=by
 intro pins s σ H D I h
 refine wpAny_Assign_Subscript (thn (hv pins s σ H _ I h) fun r s1 ⟨v,H1,I1,rv,q1⟩=>thn (ho pins s1 σ H1 _ I1 q1) fun u s2 ⟨x,H2,I2,rx,q2⟩=>thn (hi pins s2 σ H2 _ I2 q2) fun iv s3 hpat=>?_) hs
 obtain ⟨y,H3,I3,ry,a,H4,ex,g,q3⟩:=hpat
 subst ex
 obtain rfl:u=Value.ref a:=rx
 exact jM hu I3 g ry rv fun s4 I4=>⟨σ,H4,I4,q3⟩
end
theorem oo {P:Program} {w:World} {H:Hp} (h:Heap) (hb:sysModules<h.objs.size):ObjOk P w H (h.push {cls:=.type "dict",data:=.dict #[]}) h.objs.size (.dK []):=
 ⟨Nat.zero_le _,beq_eq_false_iff_ne.mpr (Ne.symm (Nat.ne_of_lt hb)),[],.nil,Heap.DictOf.new h⟩
def rH:TE:=fun _ H Q=>∀p,H p=none→Q (.ref p) (upd H p (.dK []))
section
variable {X:Cx} {pos:Pos}
theorem oB:PE X (.Dict [] [] pos) rH:=fun pins s σ H Q I h=>
 wpAny_Dict_empty ⟨.ref s.heap.objs.size,_,I.laid (a:=s.heap.objs.size) (o:=.dK []) (t':=s.toks) (fun _ _ q=>Heap.get?_push_of_some _ q) (Nat.le_refl _) (oo s.heap I.big),rfl,h _ (I.hok.fresh (Nat.le_refl _))⟩
end
structure M2 (X:Cx) (o:Expr) (m:Str) (apos:Pos) (e f:Expr) (cpos:Pos):Prop where
 base:attributeBase o m X.env (eval o X.env)=eval o X.env
 few:((backTo cpos (starEach [e,f] X.env)).all (fun x=>!x.1) && (backToKw cpos (keywordEach [] X.env)).all (fun x=>x.1.isSome)
  && decide (([e,f]:List Expr).length+([]:List Keyword).length+(if ([]:List Keyword).isEmpty then 0 else 1)<30))=true
 line:(apos.endLine == cpos.line)=true
 trees:backTo cpos (starEach [e,f] X.env)=[(false,eval e X.env),(false,eval f X.env)]
def IsD (H:Hp) (a:Addr):Prop:=(∃kvs,Rd H a (.dK kvs))∨∃kvs,Rd H a (.dT kvs)
theorem sX {X:Cx} {pins:List (Addr×Obj)} {σ:St} {H:Hp} {s:Shared} {a:Addr} (I:Inv X pins σ H s) (d:IsD H a):
  s.TypeIs (.ref a) "dict"∧(∀b,Value.ref a=.ref b→∃ob,s.heap.get? b=some ob∧ob.dict=none)∧(a == sysModules)=false:=by
 rcases d with ⟨kvs,e⟩ | ⟨kvs,e⟩
 ·obtain ⟨_,hd,vs,_,dd⟩:=P7 I.hok e
  refine ⟨dd.typeIs,fun b q=>?_,hd⟩
  cases q
  obtain ⟨ob,_,_,h1,h2,_⟩:=dd
  exact ⟨ob,h1,h2.2.1⟩
 ·obtain ⟨_,hd,xs,_,dd⟩:=P5 I.hok e
  refine ⟨dd.typeIs,fun b q=>?_,hd⟩
  cases q
  obtain ⟨ob,_,_,h1,h2,_⟩:=dd
  exact ⟨ob,h1,h2.2.1⟩
section
variable {X:Cx} {pins:List (Addr×Obj)} {σ:St} {H:Hp} {s:Shared} {a:Addr} {y d:V} {u r:Value} {o:Option V} {A:Around} {E:Value→Shared→Prop}
theorem t_ {Q:Value→Shared→Prop} (hu:A.units+1<cLine) (I:Inv X pins σ H s) (g:DGet H a y o) (ry:RelV y u) (rd:RelV d r) (h:∀w' s',Inv X pins σ H s'→RelV (o.getD d) w'→Q w' s'):
  wpAny (model X.prog X.w) A (call (.builtin "dict.get") [.ref a,u,r]) Q E s:=by
 rcases g with ⟨kvs,k,e,ey,l⟩ | ⟨kvs,k,b,e,ey,eb,l⟩
 ·subst ey
  obtain ⟨z,hd,vs,rel,dd⟩:=P7 I.hok e
  refine call_meetsIn PySem.F.slot_dict_get dd.typeIs PySem.F.entry_dict_get (PySem.F.args_dict_get_3 _ _ _) (meets_dict_get_default (aj X.prog X.w) a (eU ry) hd r) ⟨_,dd.mapOf,h _ _ (I.tok _) ?_⟩
  rw [l]
  exact (rel.val k).getD rd
 ·subst ey
  cases (show u=Value.ref b from ry)
  obtain ⟨z,hd,xs,rel,dd⟩:=P5 I.hok e
  refine call_meetsIn PySem.F.slot_dict_get dd.typeIs PySem.F.entry_dict_get (PySem.F.args_dict_get_3 _ _ _) (meetsH_dict_get_default (tupleKind (aj X.prog X.w)) a b hd r) ⟨tupleKind_room_in1 hu,k,xs,Ur I.hok eb,dd,h _ _ (I.tok _) ?_⟩
  rw [l]
  exact (rel.val k).getD rd
end
def tS (td ty tx:TE):TE:=fun σ H Q=>td σ H fun x H1=>∃a,x=.ref a∧IsD H1 a∧ty σ H1 fun y H2=>tx σ H2 fun z H3=>∃o,DGet H3 a y o∧Q (o.getD z) H3
section
variable {X:Cx} {o e f:Expr} {apos cpos:Pos} {td ty tx:TE}
theorem Xw (hu:X.A.units+1<cLine) (ho:PE X o td) (he:PE X e ty) (hf:PE X f tx) (m:M2 X o "get" apos e f cpos):PE X (.Call (.Attribute o "get" apos) [e,f] [] cpos) (tS td ty tx):=by
 intro pins s σ H Q I h
 refine wpAny_Call_method m.base m.few m.line PySem.F.plainAttrs_dict PySem.F.slot_dict_get PySem.F.type_dict_get (thn (ho pins s σ H _ I h) fun u s1 hpat=>?_)
 obtain ⟨x,H1,I1,rx,a,ex,d,q1⟩:=hpat
 subst ex
 obtain rfl:u=Value.ref a:=rx
 obtain ⟨t1,t2,_⟩:=sX I1 d
 refine ⟨t1,t2,?_⟩
 rw [m.trees]
 refine Calls.callWith_builtin rfl (Calls.evalArgs_plain (Calls.spliced_cons (thn (he pins s1 σ H1 _ I1 q1) fun iv s2 ⟨y,H2,I2,ry,q2⟩=>
  Calls.spliced_cons (thn (hf pins s2 σ H2 _ I2 q2) fun fv s3 ⟨z,H3,I3,rz,ov,g,q3⟩=>Calls.spliced_nil ?_))))
 exact t_ hu I3 g ry rz fun w' s4 I4 rw'=>⟨_,H3,I4,rw',q3⟩
end
section
variable {X:Cx} {pins:List (Addr×Obj)} {σ:St} {H:Hp} {s:Shared} {a:Addr} {kvs:List (Key×V)} {A:Around} {E:Value→Shared→Prop}
end
section
variable {X:Cx} {pins:List (Addr×Obj)} {σ:St} {H:Hp} {s:Shared} {a:Addr} {y:V} {u:Value} {A:Around} {E:Value→Shared→Prop}
end
section
variable {X:Cx}
end
section
variable {κ:Type} [DecidableEq κ]
end
section
variable {X:Cx} {tg:Expr}
theorem kP {bs:List Bool}:(List.range bs.length).all (fun i=>bs.getD i true)=bs.all id:=by
 rw [Bool.eq_iff_iff,List.all_eq_true,List.all_eq_true]
 constructor
 ·intro h b hb
  obtain ⟨i,hi,rfl⟩:=List.mem_iff_getElem.mp hb
  have q:=h i (List.mem_range.mpr hi)
  rw [List.getD_eq_getElem?_getD,List.getElem?_eq_getElem hi] at q
  exact q
 ·intro h i hi
  have hi:=List.mem_range.mp hi
  have q:=h bs[i] (List.getElem_mem hi)
  rw [List.getD_eq_getElem?_getD,List.getElem?_eq_getElem hi]
  exact q
theorem Qf (hc:X.calm=true):bZ X (.builtin "all") (fun xs H Q=>∃(p:Addr) (bs:List Bool),xs=[.ref p]∧SqL X.K H p (bs.map V.bl)∧Q (.bl (bs.all id)) H):=by
 intro pins s σ H xs us Q I r h
 obtain ⟨p,bs,rfl,hq,q⟩:=h
 obtain ⟨u,rfl,ru⟩:=Ve r
 cases ru
 obtain ⟨its,rv,pl,hz⟩:=I.list hq
 have hl:=rv.length
 rw [List.length_map] at hl
 have hlt:p<s.heap.objs.size:=by
  obtain ⟨o,n,e,_⟩:=pl
  exact Heap.lt_size e
 have hh:X.A.in1.handled=none:=by simpa using I.ok.hd hc
 refine call_all_walk (wpAny_pyIter_list pl.isList ⟨s.heap.objs.size,_,_,_,_,_,fun i=>bs.getD i true,rfl,Walks.list hh _ p (Nat.ne_of_lt hlt) its.toArray,⟨⟨_,Heap.get?_push_size _ rfl,rfl,rfl⟩,pl.isList.push _⟩,fun i v s' Q' E' hv hQ=>?_,fun h' tk kp=>?_⟩)
 ·have hv':its[i]?=some v:=by simpa using hv
  have hi:i<bs.length:=by rw [hl];exact (List.getElem?_eq_some_iff.mp hv').1
  obtain ⟨u,hu,ru⟩:=rv.get (i:=i) (x:=.bl bs[i]) (by rw [List.getElem?_map,List.getElem?_eq_getElem hi];rfl)
  rw [hv'] at hu
  cases hu
  cases (show v=Value.bool bs[i] from ru)
  have e:bs.getD i true=bs[i]:=by rw [List.getD_eq_getElem?_getD,List.getElem?_eq_getElem hi];rfl
  simp only [e] at hQ
  exact wpAny_truthy_bool hQ
 ·have e:(List.range its.toArray.size).all (fun i=>bs.getD i true)=bs.all id:=by
   rw [List.size_toArray,←hl]
   exact kP
  simp only [e]
  refine ⟨.bl (bs.all id),H,I.kept fun b o eb=>kp b o ?_ (Heap.get?_push_of_some _ eb),rfl,q⟩
  intro hb
  rw [List.mem_singleton.mp hb] at eb
  exact absurd (Heap.lt_size eb) (Nat.lt_irrefl _)
end
section
variable {X:Cx}
end
section
variable {prog:Program} {w:World} {A:Around} {E:Value→Shared→Prop} {s:Shared}
end
section
variable {X:Cx} {o e:Expr} {to te:TE} {lo hi:Option Expr} {tl th:TO} {pos p2:Pos}
end
section
open PySem.AutoSeq1 (wpAny_loadPart')
open PySem.MeetsSeq PySem.MeetsSeq2 PySem.MeetsSeq3
end
section
variable {X:Cx}
end
theorem Zj {H H1:Hp} {p:Addr} {o:HO} (h:upd H p o=H1) (n:H p=none):Same H H1:=h ▸ Z7 n o
theorem Zr {H H1:Hp} {p:Addr} {o:HO} (h:upd H p o=H1):H1 p=some o:=h ▸ Z4
inductive Kd (H:Hp):V→String→Prop
 | non:Kd H .non "NoneType"
 | bl (b:Bool):Kd H (.bl b) "bool"
 | int (i:Int):Kd H (.int i) "int"
 | str (z:Str):Kd H (.str z) "str"
 | lst {a:Addr} {xs:List V} (e:H a=some (.lst xs)):Kd H (.ref a) "list"
 | tup {a:Addr} {xs:List V} (e:H a=some (.tup xs)):Kd H (.ref a) "tuple"
 | dK {a:Addr} {kvs:List (Key×V)} (e:H a=some (.dK kvs)):Kd H (.ref a) "dict"
theorem Kd.ty {K:W.Frag} {H:Hp} {x:V} {T:String} (h:Kd H x T):TyOf K H x (.type T):=by
 cases h with
 | non=>exact .non
 | bl b=>exact .bl b
 | int i=>exact .int i
 | str z=>exact .str z
 | lst e=>exact .lst e
 | tup e=>exact .tup e
 | dK e=>exact .dK e
def kds:List String:=["NoneType","bool","int","str","list","tuple","dict"]
def kus:List String:=["int","bool","str","list","tuple"]
def mK (T U:String):Bool:=(T == U) || (T == "bool" && U == "int")
theorem oP:∀T∈kds,∀U∈kus,uJ T U=some (mK T U):=by decide +kernel
theorem Kd.mem {H:Hp} {x:V} {T:String} (h:Kd H x T):T∈kds:=by cases h <;> decide
theorem Kd.kit {K:W.Frag} {H:Hp} {x:V} {T U:String} {b:Bool} (h:Kd H x T) (hU:U∈kus) (e:mK T U=b):W.kitOne K (.type T) (.type U)=some b:=by
 subst e
 exact lv (oP T h.mem U hU)
def whV:V→Bool
 | .int _=>true
 | _=>false
def wF:V→Int→Bool
 | .int i,l=>decide (l≤i)
 | _,_=>false
theorem Kd.wh {H:Hp} {x:V} {T:String} (h:Kd H x T):(mK T "int" && !mK T "bool")=whV x:=by
 cases h <;> (first | rfl | (simp [mK,whV]))
theorem Rk {X:Cx} {x:Str} {v:V} {pos:Pos} (hg:Gl X x) (h:∃u,X.mg x=some u∧RelV v u) (hd:(x == ("__debug__":Str))=false:=by decide):PE X (.Name x pos) (tC v):=by
 obtain ⟨u,hm,r⟩:=h
 exact pE hg hm r hd
theorem kZ {H:Hp} {p:Addr} {xs:List V} {d:Int} (e:H p=some (.lst xs)) (h0:0≤d) (h1:d<xs.length):∃v,atI xs d=some v∧v∈xs:=mG h0 h1
theorem Us {K:W.Frag} {H:Hp} {a c:Addr} {xs:List V} (h:ak a H c=some (.lst xs)):SqL K H c xs:=SqL.of (Z8 h).2
section
variable {X:Cx} {x:Str} {p pos:Pos} {e:Expr} {es:List Expr} {kws:List Keyword} {ks:List Str} {t tk:TA} {id:String} {r:List V→List V→Hp→VK→Prop}
end
section
variable {prog:Program} {w:World} {A:Around} {E:Value→Shared→Prop} {s:Shared} {T:String} {r d:Addr} {n:Nat} {P:Nat→Value→Prop} {OK:Heap→Prop}
def tN (s:Shared) (P:Nat→Value→Prop) (n:Nat) (q:Result) (s':Shared):Prop:=
 ∃(g:Heap) (tk c:Nat) (xs:Array Value),q=.ok (.ret (.ref s.heap.objs.size))∧s'={s with heap:=g,toks:=tk}∧(∀b o,s.heap.get? b=some o→g.get? b=some o)∧g.get? s.heap.objs.size=some {cls:=.type "list",dict:=none,data:=.seq xs c,slots:=#[]}∧ItemsOf P xs n
theorem Sg {R:List Value→Shared→Prop} (K:W.KdlSrc prog w T r d n P OK) (hh:A.handled=none) (hok:OK s.heap) (hn:n≤sizeLine)
  (h:∀(g:Heap) (tk:Nat) (xs:Array Value),(∀b o,s.heap.get? b=some o→g.get? b=some o)→s.heap.objs.size<g.objs.size→ItemsOf P xs n→R xs.toList {s with heap:=g,toks:=tk}):wpAny (model prog w) A (collect (.ref r)) R E s:=by
 obtain ⟨lt1,lt2⟩:=K.there _ hok
 unfold collect
 refine wpAny_bind (wpAny_runValue (codeAny_builtin entry_proto_collect' ?_));rw [Around.under_plainId PySem.F.plain_proto_collect _]
 refine wpAny_bind (m:=newList []) (wpAny_newObj_type (wpAny_pure ⟨plainId_quiet PySem.F.plain_list_iadd _,codeAny_builtin entry_list_iadd' ?_⟩));rw [Around.under_plainId PySem.F.plain_list_iadd _]
 have own:(s.heap.push {cls:=.type "list",data:=.seq ([]:List Value).toArray}).get? s.heap.objs.size=some {cls:=.type "list",data:=.seq #[]}:=Heap.get?_push_size _ rfl
 have run:=W.kdl_extend (A:=A) (s:={s with heap:=s.heap.push {cls:=.type "list",data:=.seq ([]:List Value).toArray}}) (R:=tN s P n) K hh (K.keep _ _ hok fun _ _ _ e=>Heap.get?_push_of_some _ e) s.heap.objs.size (Nat.ne_of_gt lt1) (Nat.ne_of_gt lt2) (.ref s.heap.objs.size) 0 own
  (fun g tk xs c hk hS hx=>⟨g,tk,c,xs,rfl,rfl,fun b o e=>hk b o (Nat.ne_of_lt (Heap.lt_size e)) (Heap.get?_push_of_some _ e),hS,hx⟩) hn
 refine wpAny_mono run (fun fin s' y=>?_) (fun _ _ y=>by obtain ⟨_,_,_,_,e,_⟩:=y;cases e)
 cases fin with
 | done f=>
  obtain ⟨g,tk,c,xs,e,rfl,hk,hS,hx⟩:=y
  cases e
  exact wpAny_bind (m:=load s.heap.objs.size) (wpAny_load hS (wpAny_pure (h g tk xs hk (Heap.lt_size hS) hx)))
 | again c1=>
  refine ⟨y.1,codeAny_mono y.2 fun q s2 z=>?_⟩
  obtain ⟨g,tk,c,xs,rfl,rfl,hk,hS,hx⟩:=z
  exact wpAny_bind (m:=load s.heap.objs.size) (wpAny_load hS (wpAny_pure (h g tk xs hk (Heap.lt_size hS) hx)))
end
def iC (a d:Addr):HO:=.ext fun h=>h.IsValuesView a d
def dj (a d:Addr):HO:=.ext fun h=>h.IsItemsView a d
section
variable {X:Cx} {pins:List (Addr×Obj)} {σ:St} {H:Hp} {s:Shared}
def vB (w:Addr→Addr→HO):V→List V→Hp→VK→Prop:=fun x vs H Q=>∃d kvs,x=.ref d∧vs=[]∧H d=some (.dK kvs)∧∀a,H a=none→Q (.ref a) (upd H a (w a d))
theorem jX:MtR X "dict.values" (vB iC):=by
 intro pins s σ H x vs v us Q I rx rv h
 obtain ⟨d,kvs,rfl,rfl,hd,q⟩:=h
 cases rx
 cases rv
 obtain ⟨_,lo,ws,_,hD⟩:=ip I.hok hd
 refine call_meetsIn PySem.F.slot_dict_values hD.typeIs PySem.F.entry_dict_values (PySem.F.args_dict_values_1 _) (meets_dict_values (aj X.prog X.w) d lo) ⟨⟨ws,hD⟩,?_⟩
 refine ⟨.ref s.heap.objs.size,_,I.laid (t':=s.toks) (o:=iC s.heap.objs.size d) (fun b o e=>Heap.get?_push_of_some _ e) (Nat.le_refl _) ?_,rfl,q _ (I.hok.fresh (Nat.le_refl _))⟩
 exact ⟨⟨_,Heap.get?_push_size _ rfl,rfl,rfl⟩,⟨_,Heap.get?_push_size _ rfl⟩,fun h1 h2 ⟨o,ho,r⟩ k=>⟨o,k o ho,r⟩⟩
theorem R3:∀{kvs:List (Key×V)} {ws:List (Key×Value)},KV kvs ws→Vals (kvs.map (·.2)) (ws.map (·.2))
 | _,_,.nil=>.nil
 | _,_,.cons a r=>.cons a.2 (R3 r)
theorem sO {P:Program} {w:World} {k:Key} {u:Value} (h:(aj P w).is k u=true):RelV (kV k) u:=by
 rcases Y4 (show dJ k u=true from h) with ⟨i,t,rfl,rfl⟩ | ⟨x,t,rfl,rfl⟩
 ·exact ⟨t,rfl⟩
 ·exact ⟨t,rfl⟩
def over (H:Hp) (n:Nat) (L:Hp):Hp:=fun b=>if b<n then H b else L b
theorem Rq {H L:Hp} {n:Nat} {b:Addr} (h:b<n):over H n L b=H b:=if_pos h
theorem N5 {H L:Hp} {n:Nat} {b:Addr} (h:n≤b):over H n L b=L b:=if_neg (Nat.not_lt.mpr h)
theorem Inv.over {L:Hp} {g:Heap} {t':Nat} (I:Inv X pins σ H s) (k:∀b u,s.heap.get? b=some u→g.get? b=some u) (new:∀b o,s.heap.objs.size≤b→L b=some o→ObjOk X.prog X.w (over H s.heap.objs.size L) g b o):
  Inv X pins σ (L2.over H s.heap.objs.size L) {s with heap:=g,toks:=t'}∧Same H (L2.over H s.heap.objs.size L):=by
 have old:∀b o,H b=some o→L2.over H s.heap.objs.size L b=some o:=fun b o e=>by rw [Rq (I.hok b o e).lt];exact e
 have fre:∀b u,s.heap.get? b=some u→H b=none→L2.over H s.heap.objs.size L b=none:=fun b u e n=>by rw [Rq (Heap.lt_size e)];exact n
 refine ⟨I.un ⟨fun b u e _ _ _=>k b u e,fun b u e _ _ _=>⟨u.slots,k b u e⟩,fun b u e n _=>fre b u e n,fun b u e _=>⟨u,k b u e⟩,fun b xs e=>old b _ e,fun b o u e=>old b _ e,fun b ps e=>⟨#[],by rw [old b _ e];simp⟩⟩ ?_,old⟩
 intro b o e
 by_cases hb:b<s.heap.objs.size
 ·rw [Rq hb] at e
  exact (I.hok b o e).stay (fun c u _ q=>k c u q) (fun c q=>old c _ q) fun c xs q=>old c _ q
 ·have hb:=Nat.not_lt.mp hb
  rw [N5 hb] at e
  exact new b o hb e
theorem Qy:∀as:List Addr,Vals (as.map V.ref) (as.map Value.ref)
 | []=>.nil
 | _::as=>.cons rfl (Qy as)
end
section
variable {X:Cx}
end
def gM (ns:List Int):List Int:=ns.mergeSort fun a b=>decide (a≤b)
theorem S0 (ns:List Int):(gM ns).Perm ns:=List.mergeSort_perm _ _
theorem pM (ns:List Int):(gM ns).Pairwise (·≤·):=by
 have h:=List.pairwise_mergeSort (le:=fun a b:Int=>decide (a≤b)) (by intro a b c h1 h2;simp at *;omega) (by intro a b;simp;omega) ns
 exact h.imp fun h=>by simpa using h
theorem Oz:∀{l m:List Int},l.Perm m→l.Pairwise (·≤·)→m.Pairwise (·≤·)→l=m
 | [],m,p,_,_=>List.Perm.nil_eq p
 | a::l,[],p,_,_=>absurd p.length_eq (by simp)
 | a::l,b::m,p,h1,h2=>by
  have e:a=b:=by
   rcases List.mem_cons.mp (p.mem_iff.mp List.mem_cons_self) with q | q
   ·exact q
   ·rcases List.mem_cons.mp (p.mem_iff.mpr List.mem_cons_self) with r | r
    ·exact r.symm
    ·have:=(List.pairwise_cons.mp h1).1 b r
     have:=(List.pairwise_cons.mp h2).1 a q
     omega
  subst e
  rw [Oz ((List.perm_cons a).mp p) (List.pairwise_cons.mp h1).2 (List.pairwise_cons.mp h2).2]
theorem py {l ns:List Int} (p:l.Perm ns) (h:l.Pairwise (·≤·)):l=gM ns:=Oz (p.trans (S0 ns).symm) h (pM ns)
section
variable {X:Cx}
end
theorem Qk:typeLookup (.type "tuple") "keys"=pure none:=am_miss_of_fast (by decide +kernel)
theorem Se:entryFor table "dict.update.loop"=some Builtin.«dict.update.loop»:=entryFor_of_tree (by kernel_rfl)
theorem W6:plainId "dict.update.loop"=true:=by decide +kernel
section
variable {prog:Program} {w:World} {A:Around} {E:Value→Shared→Prop} {s:Shared}
theorem vp {a:Addr} {xs:Array Value} {k:Nat} {sl:Array (Option Value)} {Q:Option Value→Shared→Prop} (hx:s.heap.get? a=some {cls:=.type "tuple",dict:=none,data:=.seq xs k,slots:=sl}) (hA:A.handled=none)
  (h:∀g tk,(∀b o,s.heap.get? b=some o→g.get? b=some o)→Q none {s with heap:=g,toks:=tk}):wpAny (model prog w) A (getAttr? (.ref a) "keys") Q E s:=by
 obtain ⟨hp,g,d,tk,os⟩:=s
 have hT:∀tk',(⟨hp,g,d,tk',os⟩:Shared).TypeIs (.ref a) "tuple":=fun _=>⟨_,hx,rfl⟩
 have f1:=sub_AttributeError
 have f3:=F.slot_tuple_getattribute.lookup
 have f4:=F.slot_tuple_getattribute.bind (.ref a)
 have f5:=am_tuple_getattr_none
 unfold getAttr? getAttrBy? getAttrBy
 repeat (any_goals (first | assumption | exact hT _ | ((with_reducible show wpAny _ _ (call (Value.builtin "tuple.__getattribute__") _ _) _ _ _);refine call_meets F.slot_tuple_getattribute (hT _) am_entry_tuple_getattribute (F.args_tuple_getattribute_2 _ _) (meets_getattribute_miss_tuple a xs k sl "keys" _ Qk (by decide +kernel) (by decide +kernel)) ⟨hx,by simpa using hA,fun h' tk' e hx'=>?_⟩) | wp_step))
 obtain ⟨t',u',he⟩:=hx'.there
 show wpAny _ _ (getattributeRaised _ _ _ _ _ _ _) _ _ _
 unfold getattributeRaised
 repeat (any_goals (first | assumption | wp_step))
 exact h _ _ hx'.keeps
end
section
variable {X:Cx} {pins:List (Addr×Obj)} {σ:St} {H:Hp} {s:Shared}
end
theorem N3 {l m:List Int} (p:l.Perm m):l.sum=m.sum:=by
 induction p with
 | nil=>rfl
 | cons x _ ih=>rw [List.sum_cons,List.sum_cons,ih]
 | swap x y l=>simp only [List.sum_cons];omega
 | trans _ _ a b=>exact a.trans b
section
variable {X:Cx}
end
end L2
namespace L2
open PySem PySem.Spec PyProof.Rows
def Cx.ren (X:Cx) (N':List Str):Cx:={X with N:=N'}
theorem Cx.Ok.ren {X:Cx} {N':List Str} (o:X.Ok):(X.ren N').Ok:=⟨o.mod,o.kind,o.glob,o.blt,o.above,o.inj,o.has,o.cab,o.hd,o.frames,o.stk,o.exf,o.bs,o.bsz,o.noex,o.exfs,o.funs,o.frf⟩
theorem Cx.Ok.unren {X:Cx} {N':List Str} (o:(X.ren N').Ok):X.Ok:=⟨o.mod,o.kind,o.glob,o.blt,o.above,o.inj,o.has,o.cab,o.hd,o.frames,o.stk,o.exf,o.bs,o.bsz,o.noex,o.exfs,o.funs,o.frf⟩
def Hid:List Str→List Str→St→Prop
 | [],[],[]=>True
 | a::N,b::N',o::σ=>(a=b∨o=none)∧Hid N N' σ
 | _,_,_=>False
theorem Hid.at:∀{N N':List Str} {σ:St},Hid N N' σ→∀i:Nat,N[i]?=N'[i]?∨σ[i]?=some none
 | [],[],[],_,i=>.inl rfl
 | a::N,b::N',o::σ,h,0=>by
  rcases h.1 with q | q
  ·exact .inl (by rw [q];rfl)
  ·exact .inr (by rw [q];rfl)
 | a::N,b::N',o::σ,h,i+1=>by
  simpa using Hid.at (N:=N) (N':=N') (σ:=σ) h.2 i
section
variable {X:Cx} {N':List Str} {pins:List (Addr×Obj)} {σ:St} {H:Hp} {s:Shared}
theorem Inv.ren (I:Inv X pins σ H s) (hl:N'.length=X.N.length) (h:Hid X.N N' σ):Inv (X.ren N') pins σ H s:=by
 refine ⟨I.ok.ren,I.os,I.bare,I.base,?_,I.cell,I.free,I.freeC,I.pin,I.hok,I.len.trans hl.symm⟩
 obtain ⟨m,hn,hm⟩:=I.loc
 refine ⟨m,hn,fun i x v e1 e2 e3=>hm i x v ?_ e2 e3⟩
 rcases h.at i with q | q
 ·exact q.trans e1
 ·rw [e2] at q;cases q
theorem Inv.unren (I:Inv (X.ren N') pins σ H s) (hl:N'.length=X.N.length) (h:Hid X.N N' σ):Inv X pins σ H s:=by
 refine ⟨I.ok.unren,I.os,I.bare,I.base,?_,I.cell,I.free,I.freeC,I.pin,I.hok,I.len.trans hl⟩
 obtain ⟨m,hn,hm⟩:=I.loc
 refine ⟨m,hn,fun i x v e1 e2 e3=>hm i x v ?_ e2 e3⟩
 rcases h.at i with q | q
 ·exact q.symm.trans e1
 ·rw [e2] at q;cases q
def tRen (N N':List Str) (t:TE):TE:=fun σ H Q=>Hid N N' σ∧t σ H Q
theorem tJ {e:Expr} {t:TE} (N':List Str) (h:PE (X.ren N') e t) (hl:N'.length=X.N.length:=by rfl):PE X e (tRen X.N N' t):=by
 intro pins s σ H Q I q
 exact thn (h pins s σ H Q (I.ren hl q.1) q.2) fun u s1 ⟨x,H1,I1,r1,q1⟩=>⟨x,H1,I1.unren hl q.1,r1,q1⟩
theorem Inv.forget (I:Inv X pins σ H s) (i:Nat):Inv X pins (σ.set i none) H s:=by
 refine ⟨I.ok,I.os,I.bare,I.base,?_,I.cell,I.free,I.freeC,I.pin,I.hok,by rw [List.length_set];exact I.len⟩
 obtain ⟨m,hn,hm⟩:=I.loc
 refine ⟨m,hn,fun j x v e1 e2 e3=>hm j x v e1 ?_ e3⟩
 by_cases e:i=j
 ·subst e
  rw [List.getElem?_set_self'] at e2
  cases q:σ[i]? with
  | none=>rw [q] at e2;cases e2
  | some o=>rw [q] at e2;cases e2
 ·rw [List.getElem?_set_ne e] at e2
  exact e2
def oT (i:Nat) (t:TS):TS:=fun D σ H=>t D (σ.set i none) H
theorem fM {ss:List Stmt} {t:TS} (i:Nat) (h:PSs X ss t):PSs X ss (oT i t):=by
 intro pins s σ H D I q
 exact h pins s _ H D (I.forget i) q
end
theorem Vg {t u:TS} {D:Ends} {σ:St} {H:Hp} (R:St→Hp→Prop) (main:∀nx:St→Hp→Prop,(∀σ' H',R σ' H'→nx σ' H')→t {D with nx:=nx} σ H) (fin:∀σ' H',R σ' H'→u D σ' H'):vy t u D σ H:=main _ fin
section
variable {M:Model} {A:Around} {E:Value→Shared→Prop} {s:Shared} {env:Env} {outer l:List Env} {L e:Addr} {base:Heap} {cls a0 fl:Value} {Q:Unit→Shared→Prop}
end
theorem jv {l:List Env} {env:Env} {b:Addr} (h:env∈l) (e:env.frame=some b):b∈frs l:=List.mem_filterMap.mpr ⟨env,h,e⟩
section
variable {M:Model} {A:Around} {E:Value→Shared→Prop} {s:Shared} {env:Env} {outer:List Env} {L a T:Addr} {cls:Value} {Q:Unit→Shared→Prop}
end
section
variable {P:Program} {w:World} {K:W.Frag} {mg:Str→Option Value} {base:Heap} {N:List Str} {qual:Str} {scope:Scope} {f:Addr} {cd:Value} {A:Around} {outer:List Env} {s:Shared} {H:Hp} {E:XK}
end
section
variable {P:Program} {w:World} {K:W.Frag} {mg:Str→Option Value} {base:Heap} {N:List Str} {qual:Str} {scope:Scope} {f:Addr} {cd:Value} {A:Around} {outer:List Env} {s:Shared} {H:Hp} {E:XK}
variable {j k:Nat} {ps:List Str} {sp:Sp} {x:Str} {p pos:Pos} {e:Expr} {es:List Expr} {t:TA}
end
section
variable {prog:Program} {w:World} {A:Around} {E:Value→Shared→Prop} {h:Heap} {g:Array GenState} {d:Drawn} {t:Nat} {os:OsState} {a C:Addr} {o:Obj} {K:W.Frag}
end
section
variable {X:Cx} {pins:List (Addr×Obj)} {σ:St} {H:Hp} {s:Shared}
end
section
variable {X:Cx} {x c n:Str} {p pos cpos epos np hpos:Pos} {e:Expr} {es:List Expr} {ta:TA} {tb:TS} {b₀:Stmt} {suite:List Stmt} {j k i:Nat} {ps:List Str} {sp:Sp} {S:Addr}
end
end L2
namespace L2
open PySem PySem.Spec PyProof.Rows
theorem Vs {K:W.Frag} {a:Addr} {xs:List V} {k:Nat} {g:TG} {tt:TT} {te:TE} {σ:St} {H:Hp} {Q:VK} (Pv:Nat→List V→Hp→Prop) (h0:Pv 0 [] H) (hl:∀i ys H,i≤xs.length→Pv i ys H→SqT K H a xs)
  (hs:∀i x ys H (C:List V→Hp→Prop),xs[i]?=some x→Pv i ys H→(∀ys' H',Pv (i+1) ys' H'→C ys' H')→ys.length<sizeLine∧g x (List.replicate k none++σ) H fun σ2 H2=>Wk σ2 (List.replicate k none++σ)∧tt σ2 H2 fun ok H3=>
   if ok=true then te σ2 H3 fun y H4=>C (ys++[y]) H4 else C ys H3)
  (hd:∀ys H,Pv xs.length ys H→ys.length≤sizeLine∧∀p,H p=none→Q (.ref p) (upd H p (.lst ys))):
  CompR (Itt K a) H k g tt te σ Q:=by
 refine ⟨fun i m ys H=>m=xs.length - i∧i≤xs.length∧Pv i ys H,⟨xs.length,by simp,Nat.zero_le _,h0⟩,?_⟩
 rintro i m ys H ⟨rfl,hi,p⟩
 have q:=hl i ys H hi p
 by_cases hlt:i<xs.length
 ·have r:=hs i xs[i] ys H (fun ys' H'=>∃m',m'<xs.length - i∧m'=xs.length - (i+1)∧i+1≤xs.length∧Pv (i+1) ys' H') (by simp [hlt]) p fun ys' H' p'=>⟨_,by omega,rfl,hlt,p'⟩
  refine .inr ⟨⟨xs,xs[i],q,by simp [hlt]⟩,r.1,fun x H' y=>?_⟩
  obtain ⟨e,y⟩:=y
  subst e
  have ex:xs[i]?=some x:=y xs q
  have ex2:xs[i]=x:=by simpa [hlt] using ex
  rw [←ex2]
  exact r.2
 ·have e:i=xs.length:=by omega
  subst e
  exact .inl ⟨⟨xs,q,Nat.le_refl _⟩,hd ys H p⟩
section
variable {P:Program} {w:World} {K:W.Frag} {mg:Str→Option Value} {base:Heap} {CX:CXT} {k:Nat} {f:Addr} {fd:FuncData} {ps:List Str} {sp sp':Sp}
end
def Cal (base:Heap) (f:Addr):Prop:=∃oc od fd sl,base.get? f=some ⟨oc,od,.func fd,sl⟩
theorem jD {M:Model} {f:Addr} {base:Heap} (c:Cal base f) (h:Heap) (k:∀b o,base.get? b=some o→h.get? b=some o):∃q,(q=Keeper.frame∨q=Keeper.machine∨q=Keeper.boundFrame)∧W.Looks M h (keeperOf (.ref f)) q:=by
 obtain ⟨oc,od,fd,sl,e⟩:=c
 refine ⟨.frame,.inl rfl,fun A Q E s kk q=>?_⟩
 exact wpAny_bind (wpAny_load (kk _ _ (k _ _ e)) (wpAny_pure q))
def rU (P:Program) (w:World) (K:W.Frag) (mg:Str→Option Value) (base:Heap) (k i:Nat) (t:TA):TE:=fun σ H Q=>∃(f:Addr) (fd:FuncData) (ps:List Str) (sp:Sp),σ[i]?=some (some (.ref f))∧FnOk P w K mg base CX0 k f fd ps sp∧Binds K fd ps []∧Cal base f∧
 t σ H fun vs H1=>sp vs H1 Q E0
section
variable {X:Cx} {k i:Nat} {x:Str} {p pos:Pos} {e:Expr} {es:List Expr} {t:TA}
theorem Rm (hr:Room k X.A) (ha:PA X (e::es) t) (hN:X.N[i]?=some x:=by rfl) (hv:Vis X.env.scope x:=by first | exact Or.inl rfl | exact Or.inr (Or.inl rfl) | exact Or.inr (Or.inr rfl)) (hd:(x == ("__debug__":Str))=false:=by decide) (hcd:(x == ("__classdict__":Str))=false:=by decide)
  (he:starEach (e::es) X.env=(false,eval e X.env)::starEach es X.env:=by rfl) (hpl:(backTo pos (starEach es X.env)).any (·.1)=false:=by rfl):
  PE X (.Call (.Name x p) (e::es) [] pos) (rU X.prog X.w X.K X.mg X.base k i t):=by
 intro pins s σ H Q I h
 obtain ⟨f,fd,ps,sp,hs,F,b,c,q⟩:=h
 refine wpAny_Call_Name_kw (thn (mQ hN hv hd hcd pins s σ H (fun v H'=>v=.ref f∧H'=H) I ⟨_,hs,rfl,rfl⟩) fun u s1 z=>?_)
 obtain ⟨v,H',I1,r,rfl,rfl⟩:=z
 cases (show u=Value.ref f from r)
 have hh:=ha pos pins s1 σ H' _ I1 q
 show wpAny _ _ (callWith pos (.ref f) [] (backTo pos (starEach (e::es) X.env)) []) _ _ _
 rw [he] at hh ⊢
 refine W.callWith_of (P:=fun h=>∀b o,X.base.get? b=some o→h.get? b=some o) (by show ((false || (backTo pos (starEach es X.env)).any (·.1)) || false)=false;rw [hpl];rfl) (fun h k=>jD c h k) (Calls.evalArgs_plain (thn hh fun us s2 z=>?_))
 obtain ⟨vs,H2,I2,r2,q2⟩:=z
 exact ⟨I2.bk,mW (dvs:=[]) (ds:=[]) F hr b .nil uv I2 r2 (by rw [List.append_nil];exact q2)⟩
end
def crO (q:Str) (c:Addr):HO:=.ext fun h=>h.CodeRec (.ref c) q
structure LamAt (T:Addr) (pos:Pos) (q:Str) (H:Hp):Prop where
 tab:H T=some (.tbl #[])∨∃c,H T=some (.tbl #[rawInt pos.line,rawInt pos.col,.ref c])∧H c=some (crO q c)
theorem LamAt.mono {T:Addr} {pos:Pos} {q:Str} {H H':Hp} (h:LamAt T pos q H) (g:Same H H'):LamAt T pos q H':=by
 rcases h.tab with e | ⟨c,e,ec⟩
 ·exact ⟨.inl (g _ _ e)⟩
 ·exact ⟨.inr ⟨c,g _ _ e,g _ _ ec⟩⟩
def lD (P:Program) (w:World) (K:W.Frag) (mg:Str→Option Value) (base:Heap) (N:List Str) (qual:Str) (sc:Scope) (f:Addr) (cd:Value) (cl:List (Str×Addr)) (A:Around) (outer:List Env) (s:Shared) (H:Hp):Cx where
 prog:=P
 w:=w
 K:=K
 mg:=mg
 base:=base
 A:=A.deeper (W.envX qual sc s.heap.objs.size f cd cl)
 N:=N
 s₀:=s
 H₀:=H
 env:=W.envX qual sc s.heap.objs.size f cd cl
 outer:=outer
 stack:=W.envX qual sc s.heap.objs.size f cd cl::outer
 ex:=[]
 calm:=true
 fn:=fun _=>false
 pn:=[]
 xe:=fun _ _=>False
structure LamScope (ps fr:List Str) (sc:Scope):Prop where
 kind:sc.kind=.function
 co:sc.isCoroutine=false
 gen:sc.isGenerator=false
 cell:∀x∈sc.names,x.2≠.cell
 par:∀x∈ps,sc.names.lookup x=some .local
 free:∀x,sc.names.lookup x=some .free→x∈fr
 fre:∀x∈fr,sc.names.lookup x=some .free
 nd:(ps++fr).Nodup
theorem Om {x:Str}:∀{ps:List Str} {us:List Value} {i:Nat} {u:Value},ps.Nodup→ps[i]?=some x→us[i]?=some u→(ps.zip us).reverse.lookup x=some u:=by
 intro ps us i u nd h1 h2
 have hm:(x,u)∈(ps.zip us).reverse:=List.mem_reverse.mpr (List.mem_of_getElem? (i:=i) (by rw [List.getElem?_zip_eq_some];exact ⟨h1,h2⟩))
 have ndz:((ps.zip us).reverse.map (·.1)).Nodup:=by
  rw [List.map_reverse]
  refine (List.reverse_perm _).nodup_iff.mpr (nd.sublist ?_)
  exact (by
   clear hm h1 h2
   induction ps generalizing us with
   | nil=>exact List.nil_sublist _
   | cons p ps ih=>
    cases us with
    | nil=>exact List.nil_sublist _
    | cons v us=>exact (ih (List.nodup_cons.mp nd).2).cons₂ _)
 revert hm ndz
 generalize (ps.zip us).reverse=l
 intro hm ndz
 induction l with
 | nil=>exact nomatch hm
 | cons q l ih=>
  rw [List.map_cons,List.nodup_cons] at ndz
  rcases List.mem_cons.mp hm with e | e
  ·rw [←e,List.lookup_cons,beq_self_eq_true]
  ·have ne:(x == q.1)=false:=by
    refine beq_eq_false_iff_ne.mpr fun z=>ndz.1 (List.mem_map.mpr ⟨(x,u),e,z⟩)
   obtain ⟨q1,q2⟩:=q
   rw [List.lookup_cons]
   dsimp only at ne ⊢
   rw [ne]
   exact ih e ndz.2
theorem lu {P:Program} {w:World} {K:W.Frag} {mg:Str→Option Value} {B:Heap} {k:Nat} {a c':Addr} {qual:Str} {params:Arguments} {body:Expr} {sc:Scope} {cl:List (Str×Addr)} {pm ctv:Value} {ps fr:List Str} {us:List V} {sp:Sp}
  (ha:B.get? a=some (W.kla_obj "<lambda>" qual params body sc cl pm c' ctv)) (S:LamScope ps fr sc) (hul:us.length=fr.length)
  (hcl:∀(i:Nat) x v,fr[i]?=some x→us[i]?=some v→∃c u,cl.lookup x=some c∧B.IsCell c (some u)∧RelV v u) (inj:∀x y c,cl.lookup x=some c→cl.lookup y=some c→x=y) (call:∀x c,cl.lookup x=some c→∃v,B.IsCell c v)
  (rec:∀vs H Q E,sp vs H Q E→H c'=some (crO qual c')) (len:∀vs H Q E,sp vs H Q E→vs.length=ps.length)
  (hbody:∀(A:Around) (outer:List Env) (s:Shared) (H:Hp) (vs:List V) (Q:VK) (E:XK),Room k (A.deeper (W.envX qual sc s.heap.objs.size a (.ref c') cl))→sp vs H Q E→
   ∃t,PE (lD P w K mg B (ps++fr) qual sc a (.ref c') cl A outer s H) body t∧t (vs.map some++us.map some) H Q):
  FnOk P w K mg B CX0 (k+1) a (W.kla_fn "<lambda>" qual params body sc cl pm (.ref c') ctv) ps sp:=by
 refine ⟨len,fun A outer s H args ws vs Q E hr e0 hb r hsp=>?_⟩
 have hl:=len _ _ _ _ hsp
 have keep:=fun b o e=>(e0.bs b o e).1
 have lim:s.heap.NoLimit:=e0.mod.nolimit.keeps keep
 obtain ⟨crec,_⟩:=(show ObjOk P w H s.heap c' (crO qual c') from e0.hok c' _ (rec _ _ _ _ hsp))
 have npS:ps.Nodup:=(List.nodup_append.mp S.nd).1
 refine W.kla_callFunE hr.depth (keep _ _ ha) rfl S.co S.gen rfl crec (hb _ _ _ _ ?_)
 refine wpAny_newFunctionEnv S.cell (fun y hy=>S.par y.1 (List.of_mem_zip hy).1) (fun h₁ hns hsb=>⟨lim.fresh _ hsb,?_⟩) S.kind
 show codeAny _ _ (.expr body (W.envX qual sc s.heap.objs.size a (.ref c') cl)) _ _
 have hk₁:∀b o,s.heap.get? b=some o→h₁.get? b=some o:=fun b o e=>hsb.extBut b o (Nat.ne_of_lt (Heap.lt_size e)) (Heap.get?_push_of_some _ e)
 obtain ⟨t,ht,hq⟩:=hbody A outer s H vs Q E (hr.deeper _) hsp
 have cellK:∀c v,B.IsCell c v→h₁.IsCell c v:=fun c v ⟨o,e,d⟩=>⟨o,hk₁ _ _ (keep _ _ e),d⟩
 have I:Inv (lD P w K mg B (ps++fr) qual sc a (.ref c') cl A outer s H) [] (vs.map some++us.map some) H {s with heap:=h₁,toks:=s.toks+(ps.zip ws).length}:=by
  have noA:∀b:Addr,b∉(lD P w K mg B (ps++fr) qual sc a (.ref c') cl A outer s H).ex:=fun b z=>absurd (show b∈([]:List Addr) from z) (by simp)
  refine ⟨⟨e0.mod,S.kind,rfl,rfl,Nat.le_refl _,inj,fun x hx=>?_,(fun x c h _=>Bool.noConfusion h),fun _=>hr.hd,Around.frames_deeper e0.frames,.inr ⟨rfl,rfl⟩,fun b z=>absurd z (noA b),e0.bs,e0.bsz,fun b _ _=>noA b,fun b z=>absurd z (noA b),e0.funs,e0.frf⟩,
   rfl,e0.bare,Un.kept hk₁,⟨_,hns,fun i y v h1 h2 h3=>?_⟩,fun x c e=>?_,e0.hok.fresh (Nat.le_refl _),fun x c e=>?_,fun p hp=>absurd (show p∈([]:List (Addr×Obj)) from hp) (by simp),e0.hok.kept hk₁,?_⟩
  ·have hx:sc.names.lookup x=some .cell∨sc.names.lookup x=some .free:=hx
   rcases hx with hx | hx
   ·exact absurd rfl (S.cell _ (PySem.mem_of_lookup hx))
   ·obtain ⟨i,hi⟩:=List.mem_iff_getElem?.mp (S.free x hx)
    have hlt:i<us.length:=by rw [hul];exact (List.getElem?_eq_some_iff.mp hi).1
    obtain ⟨c,u,e,_⟩:=hcl i x us[i] hi (by simp [hlt])
    exact ⟨c,e⟩
  ·have h1:(ps++fr)[i]?=some y:=h1
   by_cases hi:i<vs.length
   ·rw [List.getElem?_append_left (by rw [←hl];exact hi)] at h1
    rw [List.getElem?_append_left (by simpa using hi),List.getElem?_map] at h2
    obtain ⟨v',hv,e⟩:=Option.map_eq_some_iff.mp h2
    cases e
    obtain ⟨u,hu,rv⟩:=r.get hv
    exact ⟨u,rv,.inl ⟨S.par y (List.mem_of_getElem? h1),Om npS h1 hu⟩⟩
   ·have hi:vs.length≤i:=by omega
    rw [List.getElem?_append_right (by rw [←hl];exact hi)] at h1
    rw [List.getElem?_append_right (by simpa using hi),List.getElem?_map,List.length_map] at h2
    obtain ⟨v',hv,e⟩:=Option.map_eq_some_iff.mp h2
    cases e
    rw [hl] at hv
    obtain ⟨c,u,e1,e2,rv⟩:=hcl _ y v h1 hv
    exact ⟨u,rv,.inr ⟨.inr (S.fre y (List.mem_of_getElem? h1)),c,e1,cellK _ _ e2⟩⟩
  ·obtain ⟨v,z⟩:=call x c e
   exact ⟨v,cellK _ _ z⟩
  ·obtain ⟨v,o,z,_⟩:=call x c e
   exact (e0.bs c o z).2
  ·show _=(ps++fr).length
   rw [List.length_append,List.length_map,List.length_map,List.length_append,hl,hul]
 refine W.kla_codeExpr (wpAny_mono (ht [] _ _ H Q I hq) (fun v s' hs=>?_) fun _ _ z=>False.elim z)
 obtain ⟨v',H',J,rv,q⟩:=hs
 exact ⟨v',H',J.os,J.bare,J.base,J.hok,rv,q⟩
def foO (ob:Obj) (a:Addr):HO:=.ext fun h=>h.get? a=some ob
theorem sS {P:Program} {w:World} {H:Hp} {h:Heap} {q:Str} {c:Addr} (r:h.CodeRec (.ref c) q):ObjOk P w H h c (crO q c):=by
 refine ⟨r,?_,fun h1 h2 z k=>?_⟩
 ·obtain ⟨c2,oc,vs,tq,e,ho,_⟩:=r
  cases e
  exact ⟨oc,ho⟩
 ·obtain ⟨c2,oc,vs,tq,e,ho,r⟩:=z
  cases e
  exact ⟨c,oc,vs,tq,rfl,k _ ho,r⟩
theorem lg {P:Program} {w:World} {H:Hp} {h:Heap} {ob:Obj} {a:Addr} (e:h.get? a=some ob):ObjOk P w H h a (foO ob a):=⟨e,⟨ob,e⟩,fun _ _ z k=>k _ z⟩
def tLam (T:Addr) (pos:Pos) (q:Str) (mk:Value→Addr→Value→Obj):TE:=fun σ H Q=>LamAt T pos q H∧∀(a c:Addr) (pm ctv:Value) (H':Hp),Same (ak T H) (ak T H')→H a=none→a≠c→H' T=some (.tbl #[rawInt pos.line,rawInt pos.col,.ref c])→H' c=some (crO q c)→
 H' a=some (foO (mk pm c ctv) a)→Q (.ref a) H'
theorem rM (pos:Pos) (c:Value):codeAmong pos [rawInt pos.line,rawInt pos.col,c]=some c:=codeAmong_snoc [] trivial rfl
section
variable {X:Cx} {params:Arguments} {body:Expr} {sc:Scope} {pos:Pos} {c T:Addr}
theorem mJ (hc:X.env.code=.ref c) (C:W.CodeHd X.base c T) (hgP:mainGlobals≠T) (hB:X.base.BuiltinsAt X.mg T) (hf:∀x∈sc.names,x.2=.free→∃c,X.env.cells.lookup x.1=some c) (hdef:defaultsOf params X.env=([],[]):=by rfl):
  PE X (.Lambda params body sc pos) (tLam T pos (X.env.qual++"<lambda>") fun pm c' ctv=>W.kla_obj "<lambda>" (X.env.qual++"<lambda>") params body sc (aG X.env sc.names) pm c' ctv):=by
 intro pins s σ H Q I h
 obtain ⟨L,q⟩:=h
 refine W.kla_eval hdef ?_
 have hcl:=Uh hf
 have tl:H T≠none:=by
  rcases L.tab with e | ⟨_,e,_⟩ <;> (rw [e];exact fun z=>nomatch z)
 have fresh:∀b,s.heap.objs.size≤b→H b=none:=fun b hb=>I.hok.fresh hb
 rcases L.tab with e | ⟨c',e,ec⟩
 ·have hP:s.heap.get? T=some (W.tabObj #[]):=I.hok T _ e
  refine W.kla_makeFunction hcl I.ok.glob (I.mod.glob.keeps I.bk) hc (C.keeps I.bk) hP trivial rfl hgP (hB.keeps I.bk) fun c' ctv h' tk hx hge hlt hrec hT=>?_
  have hT:h'.get? T=some (W.tabObj #[rawInt pos.line,rawInt pos.col,.ref c']):=hT
  have Tlt:T<s.heap.objs.size:=Heap.lt_size hP
  have sz:s.heap.objs.size≤h'.objs.size:=Nat.le_of_lt (Nat.lt_of_le_of_lt hge hlt)
  have na:H h'.objs.size=none:=fresh _ sz
  have nc:H c'=none:=fresh _ hge
  have cT:c'≠T:=Nat.ne_of_gt (Nat.lt_of_lt_of_le Tlt hge)
  have aT:h'.objs.size≠T:=Nat.ne_of_gt (Nat.lt_of_lt_of_le Tlt sz)
  have ac:h'.objs.size≠c':=Nat.ne_of_gt hlt
  have kp:∀b o,b≠T→s.heap.get? b=some o→(h'.push (W.kla_obj "<lambda>" (X.env.qual++"<lambda>") params body sc (aG X.env sc.names) ((X.mg "__name__").getD .none) c' ctv)).get? b=some o:=fun b o nb e=>Heap.get?_push_of_some _ (hx b o nb e)
  have eT:=Heap.get?_push_of_some (W.kla_obj "<lambda>" (X.env.qual++"<lambda>") params body sc (aG X.env sc.names) ((X.mg "__name__").getD .none) c' ctv) hT
  have ea:(h'.push (W.kla_obj "<lambda>" (X.env.qual++"<lambda>") params body sc (aG X.env sc.names) ((X.mg "__name__").getD .none) c' ctv)).get? h'.objs.size=some (W.kla_obj "<lambda>" (X.env.qual++"<lambda>") params body sc (aG X.env sc.names) ((X.mg "__name__").getD .none) c' ctv):=Heap.get?_push_size _ rfl
  have er:(h'.push (W.kla_obj "<lambda>" (X.env.qual++"<lambda>") params body sc (aG X.env sc.names) ((X.mg "__name__").getD .none) c' ctv)).CodeRec (.ref c') (X.env.qual++"<lambda>"):=by
   obtain ⟨c2,oc,vs,tq,e,ho,r⟩:=hrec
   exact ⟨c2,oc,vs,tq,e,Heap.get?_push_of_some _ ho,r⟩
  generalize (h'.push (W.kla_obj "<lambda>" (X.env.qual++"<lambda>") params body sc (aG X.env sc.names) ((X.mg "__name__").getD .none) c' ctv))=g at kp eT ea er ⊢
  generalize hHn:upd (upd (upd H T (.tbl #[rawInt pos.line,rawInt pos.col,.ref c'])) c' (crO (X.env.qual++"<lambda>") c')) h'.objs.size (foO (W.kla_obj "<lambda>" (X.env.qual++"<lambda>") params body sc (aG X.env sc.names) ((X.mg "__name__").getD .none) c' ctv) h'.objs.size)=Hn
  have at_a:Hn h'.objs.size=some (foO (W.kla_obj "<lambda>" (X.env.qual++"<lambda>") params body sc (aG X.env sc.names) ((X.mg "__name__").getD .none) c' ctv) h'.objs.size):=by rw [←hHn];exact Z4
  have at_c:Hn c'=some (crO (X.env.qual++"<lambda>") c'):=by rw [←hHn,Zb (Ne.symm ac)];exact Z4
  have at_T:Hn T=some (.tbl #[rawInt pos.line,rawInt pos.col,.ref c']):=by rw [←hHn,Zb (Ne.symm aT),Zb (Ne.symm cT)];exact Z4
  have at_o:∀b,b≠h'.objs.size→b≠c'→b≠T→Hn b=H b:=fun b n1 n2 n3=>by rw [←hHn,Zb n1,Zb n2,Zb n3]
  have at_s:∀b u,H b=some u→b≠T→Hn b=some u:=fun b u e nT=>by rw [at_o b (Zi e na) (Zi e nc) nT];exact e
  have un:Un X.fs [] H Hn s.heap g:=by
   have nT:∀b,H b=none→b≠T:=fun b n z=>by rw [z] at n;exact tl n
   refine ⟨fun b o e n _ _=>kp b o (nT b n) e,fun b o e n _ _=>⟨o.slots,kp b o (nT b n) e⟩,fun b o e n _=>?_,fun b o e _=>?_,fun b xs e'=>at_s b _ e' (fun z=>by rw [z,e] at e';cases e'),fun b o xs e'=>at_s b _ e' (fun z=>by rw [z,e] at e';cases e'),fun b ps e'=>?_⟩
   ·have lt:=Heap.lt_size e
    rw [at_o b (Nat.ne_of_lt (Nat.lt_of_lt_of_le lt sz)) (Nat.ne_of_lt (Nat.lt_of_lt_of_le lt hge)) (nT b n)]
    exact n
   ·by_cases z:b=T
    ·subst z;exact ⟨_,eT⟩
    ·exact ⟨o,kp b o z e⟩
   ·by_cases z:b=T
    ·subst z
     rw [e] at e'
     cases e'
     exact ⟨#[rawInt pos.line,rawInt pos.col,.ref c'],at_T⟩
    ·exact ⟨#[],by rw [at_s b _ e' z];simp⟩
  have hok:HOk X.prog X.w Hn g:=fun b u eb=>by
   by_cases h1:b=h'.objs.size
   ·subst h1;rw [at_a] at eb;cases eb;exact lg ea
   by_cases h2:b=c'
   ·subst h2;rw [at_c] at eb;cases eb;exact sS er
   by_cases h3:b=T
   ·subst h3;rw [at_T] at eb;cases eb;exact eT
   rw [at_o b h1 h2 h3] at eb
   refine (I.hok b u eb).stay (fun d v hd qq=>kp d v (fun z=>?_) qq) (fun d qq=>at_s d _ qq (fun z=>by rw [z,e] at qq;cases qq)) fun d xs qq=>at_s d _ qq (fun z=>by rw [z,e] at qq;cases qq)
   rcases hd with y | y
   ·exact h3 (y.symm.trans z)
   ·rw [z,e] at y;cases y
  refine ⟨.ref h'.objs.size,Hn,I.un (h':=g) (t':=tk) un hok,rfl,q _ c' _ ctv Hn (fun b u eb=>?_) na ac at_T at_c at_a⟩
  obtain ⟨b1,b2⟩:=Z8 eb
  rw [Zc b1]
  exact at_s b u b2 b1
 ·have hP:s.heap.get? T=some (W.tabObj #[rawInt pos.line,rawInt pos.col,.ref c']):=I.hok T _ e
  refine W.kla_makeFunctionHit (cv:=.ref c') hcl I.ok.glob (I.mod.glob.keeps I.bk) hc (C.keeps I.bk) hP trivial (rM pos _) (hB.keeps I.bk) fun ctv h' tk hk hz=>?_
  have na:H h'.objs.size=none:=fresh _ hz
  have ac:h'.objs.size≠c':=fun z=>by rw [z,ec] at na;cases na
  have aT:h'.objs.size≠T:=fun z=>by rw [z,e] at na;cases na
  refine ⟨.ref h'.objs.size,_,I.laid (t':=tk) (a:=h'.objs.size) (o:=foO (W.kla_obj "<lambda>" (X.env.qual++"<lambda>") params body sc (aG X.env sc.names) ((X.mg "__name__").getD .none) c' ctv) h'.objs.size) (fun b u eb=>Heap.get?_push_of_some _ (hk b u eb)) hz (lg (Heap.get?_push_size _ rfl)),rfl,?_⟩
  refine q _ c' _ ctv _ (fun b u eb=>?_) na ac (by rw [Zb (Ne.symm aT)];exact e) (by rw [Zb (Ne.symm ac)];exact ec) Z4
  obtain ⟨b1,b2⟩:=Z8 eb
  rw [Zc b1,Zb (Zi b2 na)]
  exact b2
end
def p7 (base h:Heap) (as:List Addr):Heap:=W.hideAll h ((List.range h.objs.size).filter fun b=>(base.get? b).isNone && !decide (b∈as))
theorem Qg {base h:Heap} {as:List Addr} {b:Addr} {o:Obj} (e:h.get? b=some o) (k:(∃u,base.get? b=some u)∨b∈as):(p7 base h as).get? b=some o:=W.hideAll_get _ e fun z=>by
 have z2:=(List.mem_filter.mp z).2
 rw [Bool.and_eq_true] at z2
 rcases k with ⟨u,k⟩ | k
 ·rw [k] at z2;exact Bool.noConfusion z2.1
 ·rw [decide_eq_true k] at z2;exact Bool.noConfusion z2.2
theorem iH {base h:Heap} {as:List Addr} {b:Addr} {o:Obj} (e:(p7 base h as).get? b=some o):h.get? b=some o∧((∃u,base.get? b=some u)∨b∈as):=by
 have e1:=W.of_hideAll _ e
 refine ⟨e1,?_⟩
 cases k:base.get? b with
 | some u=>exact .inl ⟨u,rfl⟩
 | none=>
  by_cases m:b∈as
  ·exact .inr m
  ·have:(p7 base h as).get? b=none:=W.hideAll_none _ (List.mem_filter.mpr ⟨List.mem_range.mpr (Heap.lt_size e1),by rw [k,decide_eq_false m];rfl⟩)
   rw [e] at this
   cases this
theorem Vr {base B h:Heap}:∀{l:List Env},h.FunFrames base l→(∀L∈frs l,B.get? L=none)→h.FunFrames B l
 | [],_,_=>trivial
 | env::l,⟨hk,⟨L,o,hf,_,ho,hd⟩,hr⟩,hn=>⟨hk,⟨L,o,hf,hn L (jv (.head _) hf),ho,hd⟩,Vr hr fun L' hL=>hn L' (by
  obtain ⟨e,he,q⟩:=List.mem_filterMap.mp hL
  exact jv (.tail _ he) q)⟩
theorem Inv.drop {X:Cx} {pins:List (Addr×Obj)} {σ:St} {H:Hp} {s:Shared} {a:Addr} {φ:Heap→Prop} (I:Inv X pins σ H s) (ea:H a=some (.ext φ)):Inv X pins σ (ak a H) s:=by
 have nn:∀b,H b=none→ak a H b=none:=fun b n=>by
  by_cases z:b=a
  ·rw [z];exact P2
  ·rw [Zc z];exact n
 have ne:∀b u,H b=some u→(∀ψ,u≠.ext ψ)→ak a H b=some u:=fun b u e n=>by
  rw [Zc (fun z=>by rw [z,ea] at e;exact n φ (Option.some.inj e).symm)]
  exact e
 refine ⟨I.ok,I.os,I.bare,⟨I.base.keep,I.base.slot,fun b o e n hx=>nn b (I.base.free b o e n hx),I.base.there,fun b xs e=>ne b _ (I.base.tups b xs e) (fun _ z=>nomatch z),fun b o xs e=>ne b _ (I.base.frzs b o xs e) (fun _ z=>nomatch z),fun b ps e=>?_⟩,I.loc,I.cell,nn _ I.free,fun x c e=>nn c (I.freeC x c e),fun p hp=>?_,fun b u e=>?_,I.len⟩
 ·obtain ⟨m,z⟩:=I.base.tbls b ps e
  exact ⟨m,ne b _ z (fun _ z=>nomatch z)⟩
 ·obtain ⟨z1,z2,z3⟩:=I.pin p hp
  exact ⟨z1,nn _ z2,z3⟩
 ·obtain ⟨b1,b2⟩:=Z8 e
  exact (I.hok b u b2).stay (fun _ _ _ q=>q) (fun c q=>ne c _ q (fun _ z=>nomatch z)) fun c xs q=>ne c _ q (fun _ z=>nomatch z)
structure HasB (P:Program) (w:World) (K:W.Frag) (mg:Str→Option Value) (x:Str) (k:Nat) (ps:List Str) (sp:Heap→Sp):Prop where
 ex:∃f fd,(∀base:Heap,K.In base→base.Ns mainGlobals mg→FnOk P w K mg base CX0 k f fd ps (sp base))∧Binds K fd ps []∧W.keepIn K (.ref f)=true∧mg x=some (.ref f)
structure Wid (X:Cx) (σ:St) (a:Addr) (ob:Obj) (B:Heap):Prop where
 kin:X.K.In B
 glb:B.Ns mainGlobals X.mg
 sub:∀b o,X.base.get? b=some o→B.get? b=some o
 fn:B.get? a=some ob
 cell:∀(i:Nat) x v,X.N[i]?=some x→σ[i]?=some (some v)→X.env.scope.names.lookup x=some .cell→∃c u,X.env.cells.lookup x=some c∧B.IsCell c (some u)∧RelV v u
 cells:∀x c,X.env.cells.lookup x=some c→∃v,B.IsCell c v
 inj:∀x y c,X.env.cells.lookup x=some c→X.env.cells.lookup y=some c→x=y
def tz (X:Cx) (sp:Heap→Sp) (t:TA):TE:=fun σ H Q=>t σ H fun vs H1=>∃a ob,H1 a=some (foO ob a)∧∀B,Wid X σ a ob B→sp B vs (ak a H1) Q E0
section
variable {X:Cx} {j k:Nat} {ps:List Str} {sp:Heap→Sp} {x:Str} {p pos:Pos} {e:Expr} {es:List Expr} {t:TA}
theorem N4 (h:HasB X.prog X.w X.K X.mg x j ps sp) (hfn:∀x,X.fn x=true) (hst:X.stack=X.env::X.outer) (hfr:X.env.frame=some X.env.locals) (hr:Room k X.A) (ha:PA X (e::es) t) (hg:Gl X x:=by rfl) (hj:j≤k:=by first | decide | omega)
  (hdb:(x == ("__debug__":Str))=false:=by decide) (he:starEach (e::es) X.env=(false,eval e X.env)::starEach es X.env:=by rfl) (hpl:(backTo pos (starEach es X.env)).any (·.1)=false:=by rfl):
  PE X (.Call (.Name x p) (e::es) [] pos) (tz X sp t):=by
 intro pins s σ H Q I q
 obtain ⟨f,fd,F,b,kp,m⟩:=h.ex
 refine wpAny_Call_Name_kw (O6 I hg m ?_ hdb)
 refine W.callWith_K (h₀:=X.base) I.ok.mod.kin kp (thn (ha pos pins s σ H _ I q) fun us s1 z=>?_) he hpl
 obtain ⟨vs,H1,I1,r,a,ob,ea,q⟩:=z
 refine ⟨I1.kIn,?_⟩
 have I2:Inv X pins σ (ak a H1) s1:=I1.drop ea
 have oa:s1.heap.get? a=some ob:=(show ObjOk X.prog X.w H1 s1.heap a (foO ob a) from I1.hok a _ ea).1
 generalize hB:p7 X.base s1.heap (a::X.env.cells.filterMap fun d=>X.env.cells.lookup d.1)=B
 have cin:∀y c,X.env.cells.lookup y=some c→c∈a::X.env.cells.filterMap fun d=>X.env.cells.lookup d.1:=fun y c z=>.tail _ (List.mem_filterMap.mpr ⟨(y,c),PySem.mem_of_lookup z,z⟩)
 have cou:∀b,b∈a::X.env.cells.filterMap (fun d=>X.env.cells.lookup d.1)→b=a∨∃y,X.env.cells.lookup y=some b:=fun b hb=>by
  rcases List.mem_cons.mp hb with z | z
  ·exact .inl z
  ·obtain ⟨d,_,e⟩:=List.mem_filterMap.mp z
   exact .inr ⟨d.1,e⟩
 have sub:∀b o,X.base.get? b=some o→B.get? b=some o:=fun b o z=>hB ▸ Qg (I1.bk b o z) (.inl ⟨o,z⟩)
 have up:∀b o,B.get? b=some o→s1.heap.get? b=some o∧ak a H1 b=none:=fun b o z=>by
  rw [←hB] at z
  obtain ⟨z1,z2⟩:=iH z
  refine ⟨z1,?_⟩
  rcases z2 with ⟨u,z2⟩ | z2
  ·exact (I2.bs b u z2).2
  ·rcases cou b z2 with z3 | ⟨y,z3⟩
   ·rw [z3];exact P2
   ·exact I2.freeC y b z3
 have clB:∀y c v,X.env.cells.lookup y=some c→s1.heap.IsCell c v→B.IsCell c v:=fun y c v e ⟨o,z,d⟩=>⟨o,hB ▸ Qg z (.inr (cin y c e)),d⟩
 have nB:∀L∈frs X.stack,B.get? L=none:=fun L hL=>by
  cases z:B.get? L with
  | none=>rfl
  | some o=>
   exfalso
   rw [←hB] at z
   obtain ⟨z1,z2⟩:=iH z
   rcases z2 with ⟨u,z2⟩ | z2
   ·have:=(I1.stack.mem hL).1
    rw [z2] at this
    cases this
   ·rcases cou L z2 with z3 | ⟨y,z3⟩
    ·have:=I1.stkFree L hL
     rw [z3,ea] at this
     cases this
    ·rcases List.mem_cons.mp (I1.stkSub L hL) with z4 | z4
     ·exact I1.cne y L z3 z4
     ·obtain ⟨_,o',ho',_⟩:=I1.ok.funs.mem z4
      exact absurd (Nat.lt_of_lt_of_le (Heap.lt_size ho') (I1.ok.cab y L (hfn y) z3)) (Nat.lt_irrefl _)
 have md:=I1.ok.mod
 have kinB:X.K.In B:=fun b o z=>sub b o (md.kin b o z)
 have glbB:B.Ns mainGlobals X.mg:=md.glob.keeps sub
 have modB:Mod X.K X.mg B:=⟨kinB,glbB,let ⟨mb,h1,h2⟩:=md.blt;⟨mb,h1.keeps sub,h2⟩,md.nolimit.keeps sub⟩
 have szB:B.objs.size≤s1.heap.objs.size:=by rw [←hB];exact Nat.le_of_eq (W.hideAll_size _ _)
 have e0:Env0 X.prog X.w X.K X.mg B X.A X.stack s1 (ak a H1):=⟨I2.ok.frames,modB,up,szB,Vr I1.stack nB,I2.stkFree,I2.hok,I2.bare⟩
 have wid:Wid X σ a ob B:=by
  refine ⟨kinB,glbB,sub,hB ▸ Qg oa (.inr (.head _)),fun i y v h1 h2 h3=>?_,fun y c z=>?_,I1.ok.inj⟩
  ·obtain ⟨mm,_,hl⟩:=I1.loc
   obtain ⟨u,rv,lk⟩:=hl i y v h1 h2 (.inr (.inl h3))
   rcases lk with ⟨h4,_⟩ | ⟨_,c,h5,h6⟩
   ·have h4:X.env.scope.names.lookup y=some .local:=h4
    rw [h3] at h4
    cases h4
   ·exact ⟨c,u,h5,clB y c _ h5 h6,rv⟩
  ·obtain ⟨v,h6⟩:=I1.cell y c z
   exact ⟨v,clB y c v z h6⟩
 have hsp:=q B wid
 have FB:=(F B kinB glbB).mono hj
 have hl:us.length=ps.length:=by rw [←r.length];exact FB.len _ _ _ _ hsp
 have hbi:=b s1 us I1.kIn (by rw [List.append_nil];exact hl)
 rw [List.append_nil] at hbi
 refine wpAny_call (codeAny_mono (FB.run X.A X.stack s1 (ak a H1) ⟨us,[]⟩ us vs Q E0 hr e0 hbi r hsp) fun r s' hq=>?_)
 cases r with
 | error e=>exact False.elim hq
 | ok fl=>
  cases fl with
  | ret u=>exact I2.after hq
  | next=>exact False.elim hq
  | brk=>exact False.elim hq
  | cont=>exact False.elim hq
end
def entH (Ts:List Addr) (s:Hp):Hp:=fun b=>if b∈Ts then some (.tbl #[]) else s b
theorem kq {P:Program} {w:World} {K:W.Frag} {mg mb:Str→Option Value} {k:Nat} {fa a:Addr} {fd:FuncData} {x:Str} {sp:Sp} {s₁:Shared} {vs:List Value} {ns:List Int} {tabs:List (Addr×Addr)}
  (KX:K.In s₁.heap) (hns:s₁.heap.Ns mainGlobals mg) (hb:s₁.heap.Ns builtinsNs mb) (hbb:∀x:Str,x≠"__name__"→mb x=bootBuiltins x) (hlim:s₁.heap.NoLimit) (hg:s₁.gens=#[])
  (hbm:∃bm ob,mg "__builtins__"=some (.ref bm)∧bm≠builtinsNs∧s₁.heap.get? bm=some ob∧ob.cls=.type "module"∧ob.dict=some builtinsNs∧ob.data=.plain)
  (hT:W.TabsAt tabs s₁.heap) (hKT:∀T∈tabs.map (·.2),K.lookup T=none)
  (ha:s₁.heap.get? a=some {cls:=.type "list",data:=.seq vs.toArray}) (hi:IntsAre vs ns) (hl:ns.length≤sizeLine) (hr:Room k callerA)
  (F:∀base:Heap,K.In base→base.Ns mainGlobals mg→(∀T∈tabs.map (·.2),base.BuiltinsAt mg T)→FnOk P w K mg base CX0 k fa fd [x] sp) (hbind:∀(s:Shared) (u:Value),BindsTo s fd ⟨[u],[]⟩ [(x,u)])
  (hsp:∀H:Hp,SqL K H a (ns.map V.int)→(∀T∈tabs.map (·.2),H T=some (.tbl #[]))→sp [.ref a] H (fun v _=>v=.bl true) fun _ _ _=>False):
  codeAny (model P w) callerA (.call (.ref fa) ⟨[.ref a],[]⟩) (fun r s'=>r=.ok (.ret (.bool true))∧OldK s₁.heap s'.heap∧s'.os=s₁.os∧AllBare s'.gens) s₁:=by
 have rv:=Ty hi
 have lenV:=hi.length
 have tabO:∀T∈tabs.map (·.2),s₁.heap.get? T=some (W.tabObj #[]):=fun T h=>by
  obtain ⟨q,hq,rfl⟩:=List.mem_map.mp h
  exact (hT q hq).2
 have aT:a∉tabs.map (·.2):=fun z=>by
  have:=tabO a z
  rw [ha] at this
  cases this
 have core:∀S:Hp,SqL K S a (ns.map V.int)→HOk P w S s₁.heap→(∀b,S b≠none→b=a)→(S a≠none→K.lookup a=none)→(∀b u,S b=some u→∃o xs,u=.frz o (.lst xs))→
   codeAny (model P w) callerA (.call (.ref fa) ⟨[.ref a],[]⟩) (fun r s'=>r=.ok (.ret (.bool true))∧OldK s₁.heap s'.heap∧s'.os=s₁.os∧AllBare s'.gens) s₁:=by
  intro S hS hokS hA hK hfrz
  generalize hHd:entH (tabs.map (·.2)) S=H
  have HT:∀b,b∈tabs.map (·.2)→H b=some (.tbl #[]):=fun b h=>by rw [←hHd];exact if_pos h
  have HS:∀b,b∉tabs.map (·.2)→H b=S b:=fun b h=>by rw [←hHd];exact if_neg h
  have hok:HOk P w H s₁.heap:=fun b u e=>by
   by_cases m:b∈tabs.map (·.2)
   ·rw [HT b m] at e
    cases e
    exact tabO b m
   ·rw [HS b m] at e
    obtain ⟨o,xs,rfl⟩:=hfrz b u e
    exact hokS b _ e
  have noN:∀{b:Addr} {o:Obj},s₁.heap.get? b=some o→(∀ps,o≠W.tabObj ps)→(∀xs n,o.data≠.seq xs n)→H b=none:=fun {b o} e n1 n2=>by
   by_cases m:b∈tabs.map (·.2)
   ·exact absurd (Option.some.inj (e.symm.trans (tabO b m))) (n1 #[])
   ·rw [HS b m]
    cases q:S b with
    | none=>rfl
    | some u=>
     have e':b=a:=hA b (by rw [q];exact fun z=>nomatch z)
     subst e'
     rw [ha] at e
     cases e
     exact absurd rfl (n2 _ _)
  have base_of:∀{b:Addr} {o:Obj},s₁.heap.get? b=some o→H b=none→(dS s₁.heap H).get? b=some o:=fun e n=>n_ e n
  have nsK:∀{b:Addr} {m:Str→Option Value},s₁.heap.Ns b m→(dS s₁.heap H).Ns b m:=fun {b m} ⟨o,es,ep,e,d,r⟩=>⟨o,es,ep,base_of e (noN e (fun ps z=>by rw [z] at d;cases d) fun xs n z=>by rw [z] at d;cases d),d,r⟩
  have hKb:K.In (dS s₁.heap H):=fun b o e=>base_of (KX b o e) (by
   by_cases m:b∈tabs.map (·.2)
   ·rw [hKT b m] at e;cases e
   ·rw [HS b m]
    cases q:S b with
    | none=>rfl
    | some u=>
     have e':b=a:=hA b (by rw [q];exact fun z=>nomatch z)
     subst e'
     rw [hK (by rw [q];exact fun z=>nomatch z)] at e
     cases e)
  have hM:Mod K mg (dS s₁.heap H):=⟨hKb,nsK hns,⟨mb,nsK hb,hbb⟩,let ⟨mc,h1,h2⟩:=hlim;⟨mc,nsK h1,h2⟩⟩
  have hBt:∀T∈tabs.map (·.2),(dS s₁.heap H).BuiltinsAt mg T:=fun T m=>by
   obtain ⟨bm,ob,b1,b2,b3,b4,b5,b6⟩:=hbm
   refine ⟨bm,ob,b1,b2,fun z=>?_,fun z=>?_,base_of b3 (noN b3 (fun ps z=>by rw [z] at b6;cases b6) fun xs n z=>by rw [z] at b6;cases b6),b4,b5,b6⟩
   ·obtain ⟨o,es,ep,e,d,_⟩:=hns
    rw [z,e] at b3
    cases b3
    rw [b6] at d
    cases d
   ·rw [z,tabO T m] at b3
    cases b3
    cases b6
  have e0:Env0 P w K mg (dS s₁.heap H) callerA [] s₁ H:=⟨rfl,hM,fun b o e=>oF e,Nat.le_of_eq (kr _ _),trivial,fun b hb=>absurd (show b∈([]:List Addr) from hb) (by simp),hok,.of_eq hg⟩
  have hS':SqL K H a (ns.map V.int):=by
   rcases hS with (h | ⟨o,h⟩) | h
   ·exact .inl (.inl (by rw [HS a aT];exact h))
   ·exact .inl (.inr ⟨o,by rw [HS a aT];exact h⟩)
   ·exact .inr h
  refine codeAny_mono ((F _ hKb (nsK hns) hBt).run callerA [] s₁ H ⟨[.ref a],[]⟩ [.ref a] [.ref a] _ _ hr e0 (hbind s₁ (.ref a)) (.cons rfl .nil) (hsp H hS' HT)) fun r s' h=>?_
  cases r with
  | error e=>exact False.elim h
  | ok fl=>
   cases fl with
   | next=>exact False.elim h
   | brk=>exact False.elim h
   | cont=>exact False.elim h
   | ret u=>
    obtain ⟨v,H',os,bare,un,hok',r',q⟩:=h
    have q':v=.bl true:=q
    subst q'
    obtain rfl:u=Value.bool true:=r'
    have oth:∀b o,s₁.heap.get? b=some o→b∉tabs.map (·.2)→s'.heap.get? b=some o:=fun b o e m=>by
     cases q:H b with
     | none=>exact un.keep b o e q (by intro z;exact absurd (show b∈([]:List Addr) from z) (by simp)) (by simp)
     | some u=>
      obtain ⟨ob,xs,rfl⟩:=hfrz b u (by rw [←HS b m];exact q)
      have z2:=un.frzs b ob _ q
      obtain ⟨e1,_⟩:=hok b _ q
      obtain ⟨e2,_⟩:=hok' b _ z2
      rw [e] at e1
      cases e1
      exact e2
    have tab:∀b,b∈tabs.map (·.2)→∃more,s'.heap.get? b=some (W.tabObj more):=fun b m=>by
     obtain ⟨more,z⟩:=un.tbls b #[] (HT b m)
     exact ⟨_,hok' b _ z⟩
    refine ⟨rfl,⟨fun b o e=>?_,fun b o e=>?_⟩,os,bare⟩
    ·by_cases m:b∈tabs.map (·.2)
     ·obtain ⟨more,z⟩:=tab b m
      obtain ⟨t,ht,rfl⟩:=List.mem_map.mp m
      rw [tabO _ m] at e
      cases e
      refine .inr (.inl ⟨((hT t ht).1.tab (hT t ht).2).isCodeTable,rfl,#[],more,rfl,?_⟩)
      rw [z]
      simp
     ·exact .inl (oth b o e m)
    ·by_cases m:b∈tabs.map (·.2)
     ·obtain ⟨more,z⟩:=tab b m
      exact ⟨_,z⟩
     ·exact ⟨o,oth b o e m⟩
 cases hk:K.lookup a with
 | some o=>
  have e:=KX a o hk
  rw [ha] at e
  cases e
  refine core (fun _=>none) (.inr ⟨_,vs.toArray,_,hk,rfl,rfl,rfl,by rw [List.size_toArray,lenV];exact hl,by simpa using rv⟩) (fun b u z=>by have z':(none:Option HO)=some u:=z;cases z') (fun b z=>absurd rfl z) (fun z=>absurd rfl z) (fun b u z=>by have z':(none:Option HO)=some u:=z;cases z')
 | none=>
  refine core (fun b=>if b=a then some (.frz {cls:=.type "list",data:=.seq vs.toArray} (.lst (ns.map V.int))) else none) (.inl (.inr ⟨{cls:=.type "list",data:=.seq vs.toArray},if_pos rfl⟩)) (fun b u z=>?_) (fun b z=>?_) (fun _=>hk) fun b u z=>?_
  ·by_cases hb:b=a
   ·have z':=(if_pos hb).symm.trans z
    cases z'
    subst hb
    exact ⟨ha,by rw [List.length_map];exact hl,vs,_,rv,ha⟩
   ·have z':=(if_neg hb).symm.trans z
    cases z'
  ·by_cases hb:b=a
   ·exact hb
   ·exact absurd (if_neg hb) z
  ·by_cases hb:b=a
   ·have z':=(if_pos hb).symm.trans z
    cases z'
    exact ⟨_,_,rfl⟩
   ·have z':=(if_neg hb).symm.trans z
    cases z'
theorem walk_T {l:W.OpenLaw} {n k:Nat} {q:Program} {loose:List Str} {XP:(Str→Option Value)→Heap→Prop} {YP:World→Heap→Prop} {d:DefRec} {K:Params→W.Frag} {sp:World→Sp} {x:Str} {tabs:List (Addr×Addr)}
  (hn:l.most=some n) (hn2:n≤sizeLine) (hdf:d.params.defaults=[]) (hr:Room k callerA)
  (hY:∀(w:World) (h:Heap),YP w h→(K w.params).In h)
  (hT:∀(w:World) (mg mb:Str→Option Value) (loose':List Str) (mean:ExcName→Option Value) (h:Heap),Top q loose' mean mg mb h→(K w.params).In h→W.TabsAt tabs h) (hKT:∀(w:World),∀T∈tabs.map (·.2),(K w.params).lookup T=none)
  (F:∀(w:World) (mg:Str→Option Value) (fa:Addr) (h:Heap),(K w.params).In h→h.Ns mainGlobals mg→mg d.name=some (.ref fa)→
   ∃fd:FuncData,(∀(s:Shared) (u:Value),BindsTo s fd ⟨[u],[]⟩ [(x,u)])∧
    ∀base:Heap,(K w.params).In base→base.Ns mainGlobals mg→(∀T∈tabs.map (·.2),base.BuiltinsAt mg T)→FnOk l.prog w (K w.params) mg base CX0 k fa fd [x] (sp w))
  (hsp:∀(w:World) (H:Hp) (a:Addr) (ns:List Int),ns.length≤n→SqL (K w.params) H a (ns.map V.int)→(∀T∈tabs.map (·.2),H T=some (.tbl #[]))→sp w [.ref a] H (fun v _=>v=.bl true) fun _ _ _=>False):
  W.WalkO q loose XP YP l.row.toRowW d [] (fun f vs=>PySem.call f vs):=by
 refine Att.attach_call hn hdf fun w s₀ s₁ mg mb fa o pm cd doc a vs ns G Y ho hd hcd hmg hobj hints hlen hg=>?_
 have KX:=hY w _ Y
 obtain ⟨fd,hb,hF⟩:=F w mg fa _ KX G.T.g hmg
 exact kq KX G.T.g G.T.b G.T.builtins G.T.nolimit hg G.T.bmain (hT w mg mb _ _ _ G.T KX) (hKT w) hobj hints (Nat.le_trans hlen hn2) hr hF hb (fun H hS hTT=>hsp w H a ns hlen hS hTT)
end L2
namespace L2
open PySem PySem.Spec PyProof.Rows
def Itz (K:W.Frag) (a b:Addr):It:=
 ⟨fun i H=>∃xs ys x y,SqL K H a xs∧SqL K H b ys∧xs[i]?=some x∧ys[i]?=some y,
  fun i H u H'=>∃T x y,u=.ref T∧H T=none∧H'=upd H T (.tup [x,y])∧∀xs ys,SqL K H a xs→SqL K H b ys→xs[i]?=some x∧ys[i]?=some y,
  fun i H=>∃xs ys,SqL K H a xs∧SqL K H b ys∧(xs.length≤i∨ys.length≤i)⟩
section
variable {X:Cx} {pins:List (Addr×Obj)} {σ:St} {H:Hp} {s:Shared} {h':Heap}
theorem Inv.turnedL {t':Nat} {ch:List Addr} (I:Inv X pins σ H s) (k:∀b o,b∉ch→s.heap.get? b=some o→h'.get? b=some o) (hc:∀b∈ch,cO X pins H b):Inv X pins σ H {s with heap:=h',toks:=t'}:=by
 have nit:∀b u,H b=some u→b∉ch:=fun b u e z=>by rw [(hc b z).1] at e;cases e
 refine I.step (g':=s.gens) (d':=s.drawn) (ch:=ch) (fun b hb=>?_) (fun b o _ _ hc e _=>k b o hc e) (fun b o _ _ hc e _=>⟨o.slots,k b o hc e⟩) (fun _ _ _ _ n=>n) (fun b o hc e=>⟨o,k b o hc e⟩) (fun _ _ e=>e) (fun _ _ _ e=>e) (fun b ps e=>⟨#[],by rw [e];simp⟩) (fun m hm=>?_) (fun b u e=>?_) I.bare
 ·obtain ⟨f0,f1,f2,f3,f4,f5⟩:=hc b hb
  exact ⟨f3,f1,f4,f5⟩
 ·obtain ⟨o,es,ep,ho,r⟩:=hm
  exact ⟨o,es,ep,k _ o (fun z=>(hc _ z).2.1 rfl) ho,r⟩
 ·refine (I.hok b u e).stay (fun c v hc q=>k c v ?_ q) (fun _ q=>q) fun _ _ q=>q
  rcases hc with z | z
  ·rw [z];exact nit b u e
  ·exact nit c _ z
theorem Inv.zipped {t':Nat} {ch:List Addr} {T:Addr} {o:HO} (I:Inv X pins σ H s) (k:∀b o,b∉ch→s.heap.get? b=some o→h'.get? b=some o) (hc:∀b∈ch,cO X pins H b) (hT:s.heap.objs.size≤T) (new:ObjOk X.prog X.w (upd H T o) h' T o):Inv X pins σ (upd H T o) {s with heap:=h',toks:=t'}:=by
 have hn:=I.hok.fresh hT
 have nit:∀b u,H b=some u→b∉ch:=fun b u e z=>by rw [(hc b z).1] at e;cases e
 have up:∀{b:Addr} {u:HO},H b=some u→upd H T o b=some u:=fun {b u} e=>by rw [Zb (Zi e hn)];exact e
 refine I.step (g':=s.gens) (d':=s.drawn) (ch:=ch) (fun b hb=>?_) (fun b o _ _ hc e _=>k b o hc e) (fun b o _ _ hc e _=>⟨o.slots,k b o hc e⟩) (fun b o' _ e n=>?_) (fun b o hc e=>⟨o,k b o hc e⟩) (fun _ _ e=>up e) (fun _ _ _ e=>up e) (fun b ps e=>⟨#[],by rw [up e];simp⟩) (fun m hm=>?_) (fun b u e=>?_) I.bare
 ·obtain ⟨f0,f1,f2,f3,f4,f5⟩:=hc b hb
  exact ⟨f3,f1,f4,f5⟩
 ·rw [Zb (Nat.ne_of_lt (Nat.lt_of_lt_of_le (Heap.lt_size e) hT))]
  exact n
 ·obtain ⟨o,es,ep,ho,r⟩:=hm
  exact ⟨o,es,ep,k _ o (fun z=>(hc _ z).2.1 rfl) ho,r⟩
 ·by_cases hb:b=T
  ·subst hb
   rw [Z4] at e
   cases e
   exact new
  ·rw [Zb hb] at e
   refine (I.hok b u e).stay (fun c v hc q=>k c v ?_ q) (fun _ q=>up q) fun _ _ q=>up q
   rcases hc with z | z
   ·rw [z];exact nit b u e
   ·exact nit c _ z
end
abbrev vJ (z TI TO i1 i2 l1 l2:Addr):Nat→Heap→Prop:=fun i h=>IsZip h z TI TO .none∧IsPair h TI (.ref i1) (.ref i2)∧(∃a b,IsPair h TO a b)∧h.IsListIter i1 l1 i∧h.IsListIter i2 l2 i
theorem ol {P:Program} {w:World} {K:W.Frag} {elts:List Expr} {k:Nat} {pos:Pos} {z TI TO i1 i2 l1 l2:Addr} (D:ZipApart z TI TO i1 i2 l1 l2):Turn P w K (.Tuple elts k pos) (Itz K l1 l2) [z,TI,TO,i1,i2] z (vJ z TI TO i1 i2 l1 l2) where
 mem:=by simp
 obj:=fun i h st b hb=>by
  obtain ⟨hz,hTI,⟨a',b',hTO⟩,⟨o1,e1,c1,d1⟩,o2,e2,c2,d2⟩:=st
  simp only [List.mem_cons,List.not_mem_nil,or_false] at hb
  rcases hb with rfl | rfl | rfl | rfl | rfl
  ·exact ⟨_,hz,fun v q=>(nomatch q)⟩
  ·exact ⟨_,hTI,fun v q=>(nomatch q)⟩
  ·exact ⟨_,hTO,fun v q=>(nomatch q)⟩
  ·exact ⟨o1,e1,fun v q=>by rw [d1] at q;cases q⟩
  ·exact ⟨o2,e2,fun v q=>by rw [d2] at q;cases q⟩
 keep:=fun i h h' st kk=>by
  obtain ⟨hz,hTI,⟨a,b,hTO⟩,h1,h2⟩:=st
  exact ⟨kk z (by simp) _ hz,kk TI (by simp) _ hTI,⟨a,b,kk TO (by simp) _ hTO⟩,h1.at fun o e=>kk i1 (by simp) o e,h2.at fun o e=>kk i2 (by simp) o e⟩
 item:=by
  intro X hP hw hK hc i pins s σ H E I hf st hg
  subst hP hw hK
  obtain ⟨xs,ys,x,y,hq1,hq2,hx,hy⟩:=hg
  obtain ⟨its1,rv1,p1,hz1⟩:=I.list hq1
  obtain ⟨its2,rv2,p2,hz2⟩:=I.list hq2
  obtain ⟨u,hu,ru⟩:=rv1.get hx
  obtain ⟨v,hv,rv⟩:=rv2.get hy
  obtain ⟨hz,hTI,⟨a,b,hTO⟩,h1,h2⟩:=st
  refine wpAny_pyNext_zip_item D hz hTI hTO h1 h2 p1.isList p2.isList (x:=u) (y:=v) (by simpa using hu) (by simpa using hv) fun h' a1 a2 a3 a4 a5 a6 hk=>?_
  refine ⟨_,rfl,?_⟩
  refine wpAny_letOwnedTupleGo_zip (s:={s with heap:=h'}) a1 fun h2' z' sb=>?_
  have lt:∀{c o},s.heap.get? c=some o→c≠s.heap.objs.size:=fun e=>Nat.ne_of_lt (Heap.lt_size e)
  have Tz:s.heap.objs.size≠z:=Ne.symm (lt hz)
  have l1':i1≠s.heap.objs.size:=by obtain ⟨o,e,_⟩:=h1;exact lt e
  have l2':i2≠s.heap.objs.size:=by obtain ⟨o,e,_⟩:=h2;exact lt e
  refine ⟨.ref s.heap.objs.size,upd H s.heap.objs.size (.tup [x,y]),?_,rfl,⟨s.heap.objs.size,x,y,rfl,I.hok.fresh (Nat.le_refl _),rfl,fun xs' ys' e1 e2=>?_⟩,?_,fun b hb=>?_⟩
  ·refine I.zipped (t':=s.toks) (ch:=[z,TI,TO,i1,i2]) (fun b o hb e=>?_) hf (Nat.le_refl _) ⟨by show (2:Nat)≤sizeLine;decide,[u,v],.cons ru (.cons rv .nil),?_⟩
   ·simp only [List.mem_cons,List.not_mem_nil,or_false,not_or] at hb
    obtain ⟨b1,b2,b3,b4,b5⟩:=hb
    exact sb.extBut _ _ b1 (hk b o b1 b3 b4 b5 e)
   ·exact ⟨_,sb.extBut _ _ Tz a5,⟨rfl,rfl⟩,_,rfl⟩
  ·rw [I.list_inj e1 hq1,I.list_inj e2 hq2]
   exact ⟨hx,hy⟩
  ·exact ⟨z',sb.extBut _ _ D.TIz (hk _ _ D.TIz D.TITO D.TIi1 D.TIi2 hTI),⟨_,_,sb.extBut _ _ D.TOz a2⟩,a3.extBut sb.extBut D.i1z,a4.extBut sb.extBut D.i2z⟩
  ·have bn:b≠s.heap.objs.size:=by
    simp only [List.mem_cons,List.not_mem_nil,or_false] at hb
    rcases hb with rfl | rfl | rfl | rfl | rfl
    ·exact lt hz
    ·exact lt hTI
    ·exact lt hTO
    ·exact l1'
    ·exact l2'
   rw [Zb bn]
   exact (hf b hb).1
 done:=by
  intro X hP hw hK hc i pins s σ H E I hf st hg
  subst hP hw hK
  obtain ⟨xs,ys,hq1,hq2,hx⟩:=hg
  obtain ⟨its1,rv1,p1,hz1⟩:=I.list hq1
  obtain ⟨its2,rv2,p2,hz2⟩:=I.list hq2
  obtain ⟨hz,hTI,⟨a,b,hTO⟩,h1,h2⟩:=st
  have e1:=rv1.length
  have e2:=rv2.length
  refine wpAny_pyNext_zip_end (I.ok.hd hc) D hz hTI hTO h1 h2 p1.isList p2.isList ?_ fun h' hk=>⟨rfl,I.turnedL (t':=s.toks) (ch:=[z,TI,TO,i1,i2]) (fun b o hb e=>?_) hf⟩
  ·rcases hx with hx | hx
   ·exact .inl (by simp;omega)
   ·exact .inr (by simp;omega)
  ·simp only [List.mem_cons,List.not_mem_nil,or_false,not_or] at hb
   obtain ⟨b1,b2,b3,b4,b5⟩:=hb
   exact hk b o b1 b3 b4 b5 e
 self:=fun _ _ _ _ _ st h=>wpAny_pyIter_zip st.1 h
def iZip (K:W.Frag) (ta:TA):TI:=fun σ H R=>ta σ H fun vs H1=>∃a b,vs=[.ref a,.ref b]∧(∃xs,SqL K H1 a xs)∧(∃ys,SqL K H1 b ys)∧R (Itz K a b) H1
theorem tZ {X:Cx} {elts:List Expr} {n:Nat} {tp:Pos} {a b:Expr} {ta:TA} {p pos:Pos} (hg:Gl X "zip") (hm:X.mg "zip"=none) (ha:PA X [a,b] ta) (hs:starEach [a,b] X.env=[(false,eval a X.env),(false,eval b X.env)]:=by rfl) (hs2:starEach [b] X.env=[(false,eval b X.env)]:=by rfl):
  PI X (.Tuple elts n tp) (.Call (.Name "zip" p) [a,b] [] pos) (iZip X.K ta):=by
 intro pins s σ H R I h
 refine Call_ (Q0 I hg hm boot_zip (PyProof.Rows.callWith_type1 (thn (ha pos pins s σ H _ I h) fun us s1 ⟨vs,H1,I1,r1,q1⟩=>?_) (by rw [hs,hs2]) (by rw [hs2];rfl)))
 obtain ⟨l1,l2,e,⟨xs,hq1⟩,⟨ys,hq2⟩,q⟩:=q1
 subst e
 cases r1 with
 | cons r rr=>
  cases rr with
  | cons r' rr=>
   cases rr
   cases r
   cases r'
   obtain ⟨its1,rv1,p1,hz1⟩:=I1.list hq1
   obtain ⟨its2,rv2,p2,hz2⟩:=I1.list hq2
   have lt1:l1<s1.heap.objs.size:=by obtain ⟨o,e,_⟩:=p1.isList;exact Heap.lt_size e
   have lt2:l2<s1.heap.objs.size:=by obtain ⟨o,e,_⟩:=p2.isList;exact Heap.lt_size e
   have D:ZipApart (s1.heap.objs.size+4) (s1.heap.objs.size+2) (s1.heap.objs.size+3) s1.heap.objs.size (s1.heap.objs.size+1) l1 l2:=by constructor <;> (unfold Addr at *;omega)
   refine call_zip_2 p1.isList p2.isList fun h' c1 c2 c3 c4 c5 c6 hk=>?_
   refine wpAny_pyIter_zip (s:={s1 with heap:=h'}) c1 ?_
   refine ⟨_,[_,_,_,_,_],_,_,H1,rfl,I1.kept (t':=s1.toks) hk,ol D,⟨c1,c2,⟨_,_,c3⟩,c4,c5⟩,fun b hb=>?_,q⟩
   have hb':s1.heap.objs.size≤b:=by
    simp only [List.mem_cons,List.not_mem_nil,or_false] at hb
    rcases hb with rfl | rfl | rfl | rfl | rfl
    ·exact Nat.le_add_right _ _
    ·exact Nat.le_add_right _ _
    ·exact Nat.le_add_right _ _
    ·exact Nat.le_refl _
    ·exact Nat.le_add_right _ _
   exact I1.fpOk hb' (I1.hok.fresh hb')
theorem lj {K:W.Frag} {a b:Addr} {xs zs:List V} {k:Nat} {g:TG} {tt:TT} {te:TE} {σ:St} {H:Hp} {Q:VK} (Pv:Nat→List V→Hp→Prop) (h0:Pv 0 [] H) (hl:∀i ys H,i≤min xs.length zs.length→Pv i ys H→SqL K H a xs∧SqL K H b zs)
  (hs:∀i x z ys H (T:Addr) (C:List V→Hp→Prop),xs[i]?=some x→zs[i]?=some z→Pv i ys H→H T=none→(∀ys' H',Pv (i+1) ys' H'→C ys' H')→ys.length<sizeLine∧g (.ref T) (List.replicate k none++σ) (upd H T (.tup [x,z])) fun σ2 H2=>Wk σ2 (List.replicate k none++σ)∧tt σ2 H2 fun ok H3=>
   if ok=true then te σ2 H3 fun y H4=>C (ys++[y]) H4 else C ys H3)
  (hlen:∀i ys H,i<min xs.length zs.length→Pv i ys H→ys.length<sizeLine)
  (hd:∀ys H,Pv (min xs.length zs.length) ys H→ys.length≤sizeLine∧∀p,H p=none→Q (.ref p) (upd H p (.lst ys))):
  CompR (Itz K a b) H k g tt te σ Q:=by
 refine ⟨fun i m ys H=>m=min xs.length zs.length - i∧i≤min xs.length zs.length∧Pv i ys H,⟨min xs.length zs.length,by simp,Nat.zero_le _,h0⟩,?_⟩
 rintro i m ys H ⟨rfl,hi,p⟩
 obtain ⟨q1,q2⟩:=hl i ys H hi p
 by_cases hlt:i<min xs.length zs.length
 ·refine .inr ⟨⟨xs,zs,xs[i]'(by omega),zs[i]'(by omega),q1,q2,List.getElem?_eq_getElem _,List.getElem?_eq_getElem _⟩,hlen i ys H hlt p,?_⟩
  rintro _ _ ⟨T,x,z,rfl,nT,rfl,hy⟩
  obtain ⟨e1,e2⟩:=hy xs zs q1 q2
  exact (hs i x z ys H T (fun ys' H'=>∃m',m'<min xs.length zs.length - i∧m'=min xs.length zs.length - (i+1)∧i+1≤min xs.length zs.length∧Pv (i+1) ys' H') e1 e2 p nT (fun ys' H' h=>⟨_,by omega,rfl,hlt,h⟩)).2
 ·have e:i=min xs.length zs.length:=Nat.le_antisymm hi (Nat.le_of_not_lt hlt)
  subst e
  exact .inl ⟨⟨xs,zs,q1,q2,by omega⟩,hd ys H p⟩
theorem p6 {X:Cx}:OpR X (compareOp .IsNot) (fun x y H Q=>∃k:Bool,x=.bl k∧y=.bl true∧Q (.bl (!k)) H):=by
 intro pins s σ H x y v u Q I rx ry h
 obtain ⟨k,rfl,rfl,q⟩:=h
 cases rx
 cases ry
 exact wpAny_isNot_plain (by cases k <;> rfl) (Zt I q (by cases k <;> rfl))
end L2
namespace L2
open PySem PySem.Spec PyProof.Rows
section
variable {X:Cx}
end
theorem je {K:W.Frag} {H H':Hp} {a:Addr} {xs:List V} (s:Same H H') (h:SqL K H a xs):SqL K H' a xs:=by
 rcases h with h | h
 ·rcases h with h | ⟨o,h⟩
  ·exact .inl (.inl (s _ _ h))
  ·exact .inl (.inr ⟨o,s _ _ h⟩)
 ·exact .inr h
structure Pn (K:W.Frag) (S:Addr) (ns:List Int) (H:Hp) (a:Addr):Prop where
 at_:∃i r:Int,H a=some (.lst [.ref S,.int i,.int r])
 scr:SqL K H S (ns.map V.int)
 few:ns.length≤63
section
variable {K:W.Frag} {S:Addr} {ns:List Int} {H H':Hp} {a p:Addr}
theorem Pn.same (h:Pn K S ns H a) (g:Same H H'):Pn K S ns H' a:=by
 obtain ⟨⟨i,r,e⟩,s,f⟩:=h
 exact ⟨⟨i,r,g _ _ e⟩,je g s,f⟩
theorem Pn.laid {o:HO} (h:Pn K S ns H a) (hp:H p=none):Pn K S ns (upd H p o) a:=h.same (Z7 hp o)
theorem Pn.ne (h:Pn K S ns H a) (hp:H p=none):p≠a:=by
 obtain ⟨⟨i,r,e⟩,_⟩:=h
 exact fun q=>by rw [q,e] at hp;cases hp
theorem Pn.grw (h:Pn K S ns H a) (g:Same H H'):Grw a H H':=by
 obtain ⟨⟨i,r,e⟩,_⟩:=h
 exact Wz e g
theorem Pn.upd (h:Pn K S ns H a) (i r:Int):Pn K S ns (upd H a (.lst [.ref S,.int i,.int r])) a:=by
 obtain ⟨⟨i0,r0,e⟩,s,f⟩:=h
 refine ⟨⟨i,r,Z4⟩,?_,f⟩
 rcases s with (s | ⟨o,s⟩) | s
 ·refine .inl (.inl ?_)
  rw [Zb ?_]
  ·exact s
  ·intro z
   rw [z,e] at s
   cases ns with
   | nil=>cases s
   | cons n ns=>cases s
 ·refine .inl (.inr ⟨o,?_⟩)
  rw [Zb ?_]
  ·exact s
  ·intro z
   rw [z,e] at s
   cases s
 ·exact .inr s
theorem U6 {H1:Hp} {o:HO} (h:L2.upd H p o=H1) (n:H p=none) (hp:Pn K S ns H a):Pn K S ns H1 a∧Grw a H H1∧p≠a∧ak a H1 p=some o:=by
 subst h
 exact ⟨hp.laid n,nN n,hp.ne n,by rw [Zc (hp.ne n)];exact Z4⟩
theorem Pn.tup {xs:List V} (h:Pn K S ns H a) (e:H p=some (.tup xs)):ak a H p=some (.tup xs):=by
 obtain ⟨⟨i,r,e0⟩,_⟩:=h
 rw [Zc (fun z=>by rw [z,e0] at e;cases e)]
 exact e
end
end L2
namespace K26
open PySem L2
def top (i:Nat):Stmt:=PySem.Challenge.pw_sumshare_k26_whole_ladders_stay_short.main.body.getD i (.Pass ⟨0,0,0,0⟩)
abbrev bJ:Stmt:=top 6
theorem Oy:FnScope ["thing"] ["thing"] (aa bJ):=⟨rfl,rfl,rfl,by decide +kernel,rfl,by decide +kernel,by decide +kernel⟩
abbrev aC:Stmt:=top 7
theorem S2:FnScope ["thing","least"] ["thing","least"] (aa aC):=⟨rfl,rfl,rfl,by decide +kernel,rfl,by decide +kernel,by decide +kernel⟩
abbrev ay:Stmt:=top 8
theorem Um:FnScope ["thing","least","most"] ["thing","least","most"] (aa ay):=⟨rfl,rfl,rfl,by decide +kernel,rfl,by decide +kernel,by decide +kernel⟩
abbrev bx:Stmt:=top 9
theorem Ps:FnScope ["parts"] ["parts"] (aa bx):=⟨rfl,rfl,rfl,by decide +kernel,rfl,by decide +kernel,by decide +kernel⟩
theorem Xy:(["one","other","parts"]:List Str).Nodup:=by decide +kernel
abbrev bR:Stmt:=top 10
theorem gN:FnScope ["thing"] ["thing"] (aa bR):=⟨rfl,rfl,rfl,by decide +kernel,rfl,by decide +kernel,by decide +kernel⟩
abbrev bF:Stmt:=top 11
theorem Vh:FnScope ["thing","is_key","key","count"] ["thing","is_key"] (aa bF):=⟨rfl,rfl,rfl,by decide +kernel,rfl,by decide +kernel,by decide +kernel⟩
abbrev aV:Stmt:=top 12
theorem Qj:FnScope ["thing","is_key"] ["thing","is_key"] (aa aV):=⟨rfl,rfl,rfl,by decide +kernel,rfl,by decide +kernel,by decide +kernel⟩
theorem Uf:(["one","thing","is_key"]:List Str).Nodup:=by decide +kernel
theorem Xk:(["key","count","thing","is_key"]:List Str).Nodup:=by decide +kernel
abbrev aI:Stmt:=top 13
theorem Yu:FnScope ["one","other","sums","key","count"] ["one","other"] (aa aI):=⟨rfl,rfl,rfl,by decide +kernel,rfl,by decide +kernel,by decide +kernel⟩
abbrev bH:Stmt:=top 15
theorem Vj:FnScope ["stretch","height","index"] ["stretch"] (aa bH):=⟨rfl,rfl,rfl,by decide +kernel,rfl,by decide +kernel,by decide +kernel⟩
abbrev bQ:Stmt:=top 16
theorem Ul:FnScope ["stretch","height","index"] ["stretch"] (aa bQ):=⟨rfl,rfl,rfl,by decide +kernel,rfl,by decide +kernel,by decide +kernel⟩
abbrev bw:Stmt:=top 17
theorem V3:FnScope ["stretch","height","index"] ["stretch"] (aa bw):=⟨rfl,rfl,rfl,by decide +kernel,rfl,by decide +kernel,by decide +kernel⟩
abbrev bU:Stmt:=top 18
theorem V4:FnScope ["stretch","height","index","lesser"] ["stretch"] (aa bU):=⟨rfl,rfl,rfl,by decide +kernel,rfl,by decide +kernel,by decide +kernel⟩
abbrev aY:Stmt:=top 19
theorem Wf:FnScope ["thing","deep","height","index"] ["thing","deep"] (aa aY):=⟨rfl,rfl,rfl,by decide +kernel,rfl,by decide +kernel,by decide +kernel⟩
abbrev b_:Stmt:=top 21
theorem Wq:FnScope ["ladder","room","deep","counts","total"] ["ladder"] (aa b_):=⟨rfl,rfl,rfl,by decide +kernel,rfl,by decide +kernel,by decide +kernel⟩
abbrev aQ:Stmt:=top 22
theorem Xu:FnScope ["counts","stretch","one","other"] ["counts","stretch"] (aa aQ):=⟨rfl,rfl,rfl,by decide +kernel,rfl,by decide +kernel,by decide +kernel⟩
abbrev aB:Stmt:=top 23
theorem Wp:FnScope ["deep","bar","counts","stretch"] ["deep","bar","counts"] (aa aB):=⟨rfl,rfl,rfl,by decide +kernel,rfl,by decide +kernel,by decide +kernel⟩
abbrev bT:Stmt:=top 24
theorem Rc:FnScope ["counts","stretch","many","parent"] ["counts","stretch","many"] (aa bT):=⟨rfl,rfl,rfl,by decide +kernel,rfl,by decide +kernel,by decide +kernel⟩
abbrev aP:Stmt:=top 25
theorem Zs:FnScope ["ladder","room","deep","pairs","total","bar","counts","folds","stretch","one"] ["ladder"] (aa aP):=⟨rfl,rfl,rfl,by decide +kernel,rfl,by decide +kernel,by decide +kernel⟩
abbrev bV:Stmt:=top 26
theorem gy:FnScope ["ladder"] ["ladder"] (aa bV):=⟨rfl,rfl,rfl,by decide +kernel,rfl,by decide +kernel,by decide +kernel⟩
abbrev aX:Stmt:=top 27
theorem Yr:FnScope ["ladder","room","deep","counts","total"] ["ladder"] (aa aX):=⟨rfl,rfl,rfl,by decide +kernel,rfl,by decide +kernel,by decide +kernel⟩
abbrev bI:Stmt:=top 29
theorem W3:FnScope ["tree","steps","waiting","here"] ["tree"] (aa bI):=⟨rfl,rfl,rfl,by decide +kernel,rfl,by decide +kernel,by decide +kernel⟩
abbrev cJ:Stmt:=top 30
theorem Vi:FnScope ["tree","of_stream","of_two","kept","step","other","one"] ["tree","of_stream","of_two"] (aa cJ):=⟨rfl,rfl,rfl,by decide +kernel,rfl,by decide +kernel,by decide +kernel⟩
abbrev aH:Stmt:=top 33
theorem Sj:FnScope ["room","deep"] ["room","deep"] (aa aH):=⟨rfl,rfl,rfl,by decide +kernel,rfl,by decide +kernel,by decide +kernel⟩
abbrev aJ:Stmt:=top 34
theorem Yk:FnScope ["room","deep","thing","day","mark","number","many"] ["room","deep","thing"] (aa aJ):=⟨rfl,rfl,rfl,by decide +kernel,rfl,by decide +kernel,by decide +kernel⟩
abbrev aL:Stmt:=top 35
theorem Y8:FnScope ["one","other","room","deep","counts","total","sums"] ["one","other"] (aa aL):=⟨rfl,rfl,rfl,by decide +kernel,rfl,by decide +kernel,by decide +kernel⟩
abbrev az:Stmt:=top 36
theorem S1:FnScope ["one","other"] ["one","other"] (aa az):=⟨rfl,rfl,rfl,by decide +kernel,rfl,by decide +kernel,by decide +kernel⟩
abbrev bA:Stmt:=top 37
theorem Xl:FnScope ["room","deep","stream","ladder","thing"] ["room","deep","stream"] (aa bA):=⟨rfl,rfl,rfl,by decide +kernel,rfl,by decide +kernel,by decide +kernel⟩
abbrev ah:Stmt:=top 38
theorem Si:FnScope ["room","deep","tree"] ["room","deep","tree"] (aa ah):=⟨rfl,rfl,rfl,by decide +kernel,rfl,by decide +kernel,by decide +kernel⟩
abbrev ad:Stmt:=top 39
theorem Zy:FnScope ["thing","room","deep","counts","total"] ["thing"] (aa ad):=⟨rfl,rfl,rfl,by decide +kernel,rfl,by decide +kernel,by decide +kernel⟩
theorem Yl:(["stretch","count","thing","room","deep","counts","total"]:List Str).Nodup:=by decide +kernel
abbrev bt:Stmt:=top 40
theorem T6:FnScope ["thing","bar"] ["thing"] (aa bt):=⟨rfl,rfl,rfl,by decide +kernel,rfl,by decide +kernel,by decide +kernel⟩
theorem Xj:(["stretch","count","thing","bar"]:List Str).Nodup:=by decide +kernel
abbrev cI:Stmt:=top 42
theorem ma:FnScope ["_law_script"] ["_law_script"] (aa cI):=⟨rfl,rfl,rfl,by decide +kernel,rfl,by decide +kernel,by decide +kernel⟩
abbrev cg:Stmt:=top 43
theorem X1:FnScope ["_law_pen_here","_law_most","_law_found","_law_script","_law_at","_law_cell","_law_mixed"] ["_law_pen_here","_law_most"] (aa cg):=⟨rfl,rfl,rfl,by decide +kernel,rfl,by decide +kernel,by decide +kernel⟩
abbrev ce:Stmt:=top 44
theorem Qx:FnScope ["_law_pen_here","_law_way"] ["_law_pen_here"] (aa ce):=⟨rfl,rfl,rfl,by decide +kernel,rfl,by decide +kernel,by decide +kernel⟩
abbrev bG:Stmt:=top 45
theorem Y9:FnScope ["_law_pen_here","_law_deep","_law_most","_law_found","_law_top","_law_middle","_law_k","_law_way","_law_number"] ["_law_pen_here","_law_deep","_law_most"] (aa bG):=⟨rfl,rfl,rfl,by decide +kernel,rfl,by decide +kernel,by decide +kernel⟩
abbrev ci:Stmt:=top 46
theorem U0:FnScope ["_law_pen_here","_law_deep","_law_most","_law_trees","_law_at"] ["_law_pen_here","_law_deep","_law_most"] (aa ci):=⟨rfl,rfl,rfl,by decide +kernel,rfl,by decide +kernel,by decide +kernel⟩
theorem S8:(["_law_k","_law_pen_here","_law_deep","_law_most","_law_trees","_law_at"]:List Str).Nodup:=by decide +kernel
abbrev bq:Stmt:=top 47
theorem Ox:FnScope ["_law_tree_here"] ["_law_tree_here"] (aa bq):=⟨rfl,rfl,rfl,by decide +kernel,rfl,by decide +kernel,by decide +kernel⟩
abbrev bS:Stmt:=top 48
theorem Rb:FnScope ["_law_pen_here","_law_room"] ["_law_pen_here"] (aa bS):=⟨rfl,rfl,rfl,by decide +kernel,rfl,by decide +kernel,by decide +kernel⟩
abbrev bW:Stmt:=top 50
theorem V6:FnScope ["_law_stretch","_law_found","_law_k"] ["_law_stretch"] (aa bW):=⟨rfl,rfl,rfl,by decide +kernel,rfl,by decide +kernel,by decide +kernel⟩
abbrev cf:Stmt:=top 51
theorem jT:FnScope ["_law_stretch"] ["_law_stretch"] (aa cf):=⟨rfl,rfl,rfl,by decide +kernel,rfl,by decide +kernel,by decide +kernel⟩
abbrev aW:Stmt:=top 52
theorem Zo:FnScope ["_law_stream_here","_law_now","_law_deep","_law_left","_law_day","_law_mark","_law_number","_law_many_here","_law_stretch","_law_due","_law_low","_law_high","_law_taken"] ["_law_stream_here","_law_now","_law_deep"] (aa aW):=⟨rfl,rfl,rfl,by decide +kernel,rfl,by decide +kernel,by decide +kernel⟩
theorem Vp:(["_law_number","_law_stream_here","_law_now","_law_deep","_law_left","_law_day","_law_mark","#6","_law_many_here","_law_stretch","_law_due","_law_low","_law_high","_law_taken"]:List Str).Nodup:=by decide +kernel
abbrev aU:Stmt:=top 53
theorem Y3:FnScope ["_law_found","_law_room","_law_deep","_law_things_here","_law_many_here","_law_now","_law_stretches","_law_bar","_law_height","_law_index","_law_pair"] ["_law_found","_law_room","_law_deep","_law_things_here"] (aa aU):=⟨rfl,rfl,rfl,by decide +kernel,rfl,by decide +kernel,by decide +kernel⟩
theorem Vo:(["_law_thing","_law_found","_law_room","_law_deep","_law_things_here","_law_many_here","_law_now","_law_stretches","_law_bar","_law_height","_law_index","_law_pair"]:List Str).Nodup:=by decide +kernel
theorem Xg:(["_law_stretch","_law_count","_law_found","_law_room","_law_deep","_law_things_here","_law_many_here","_law_now","_law_stretches","_law_bar","_law_height","_law_index","_law_pair"]:List Str).Nodup:=by decide +kernel
theorem Vn:(["_law_one","_law_found","_law_room","_law_deep","_law_things_here","_law_many_here","_law_now","_law_stretches","_law_bar","_law_height","_law_index","_law_pair"]:List Str).Nodup:=by decide +kernel
theorem Vm:(["_law_one","_law_found","_law_room","_law_deep","_law_things_here","_law_many_here","_law_now","_law_stretches","_law_bar","_law_height","_law_index","_law_pair"]:List Str).Nodup:=by decide +kernel
abbrev cU:Stmt:=top 54
theorem V5:FnScope ["_law_script","_law_pen_here","_law_room","_law_deep","_law_tree_here","_law_things_here","_law_found","_law_more","_law_whole"] ["_law_script"] (aa cU):=⟨rfl,rfl,rfl,by decide +kernel,rfl,by decide +kernel,by decide +kernel⟩
def dI (K:W.Frag):Sp:=fun vs H Q _=>∃(a S:Addr) (ns:List Int) (n:Int),vs=[.ref a,.int n]∧Pn K S ns H a∧0<n∧n<1073741824∧
 ∀(d:Int) (H':Hp),0≤d→d<n→Pn K S ns H' a→Grw a H H'→Q (.int d) H'
def qU (K:W.Frag):Sp:=fun vs H Q _=>∃(S:Addr) (ns:List Int),vs=[.ref S]∧SqL K H S (ns.map V.int)∧ns.length≤63∧
 ∀(p:Addr) (H':Hp),H p=none→Same H H'→Pn K S ns H' p→Q (.ref p) H'
section
variable {P:Program} {w:World} {K:W.Frag} {mg:Str→Option Value} {base:Heap} {f:Addr} {fd:FuncData}
theorem sn (F:Fun K "_law_pen" "_law_pen" cI f fd):FnOk P w K mg base CX0 1 f fd ["_law_script"] (qU K):=by
 refine F.ok ma (fun vs H Q E h=>?_) (fun cdv A outer s H vs Q E hr h=>?_)
 ·obtain ⟨a,ns,rfl,_⟩:=h
  rfl
 obtain ⟨S,ns,rfl,hS,h63,hq⟩:=h
 refine ⟨_,(@Z6 _ _ _ (@Ze _ _ _ _ (@Yy _ _ _ _ (@Z0 _ _ _ _ _ (pv 0) (@Z0 _ _ _ _ _ Z3 (@Z0 _ _ _ _ _ Z3 Z1 (by rfl)) (by rfl)) (by rfl))))),?_⟩
 refine ⟨_,rfl,leN rfl,fun p np=>?_⟩
 exact hq p _ np (Z7 np _) ⟨⟨0,0,Z4⟩,je (Z7 np _) hS,h63⟩
theorem p8 (aF:mg "len"=none) (F:Fun K "_law_take" "_law_take" cg f fd):FnOk P w K mg base CX0 1 f fd ["_law_pen_here","_law_most"] (dI K):=by
 refine F.ok X1 (fun vs H Q E h=>?_) (fun cdv A outer s H vs Q E hr h=>?_)
 ·obtain ⟨a,S,ns,n,rfl,_⟩:=h
  rfl
 obtain ⟨a,S,ns,n,rfl,hp,h0,h1,hq⟩:=h
 refine ⟨_,(@Z2 _ _ _ _ _ (@Y7 _ _ _ _ _ _ _ _ (@Zk _ _ _ _ _ _ _ _ Ti (@Zz _ _ _ _ _ _ _ Ym (pv 0) Z3 (fun _ _=>rfl)) Z3 (Zl _)) (@Z2 _ _ _ _ _ (@Zg _ _ 2 _ _ _ _ X1.nd rfl (Or.inl rfl) (@Zd _ _ _ _ _ _ _ _ Xh (@Zz _ _ _ _ _ _ _ Ym (pv 0) Z3 (fun _ _=>rfl)) (pv 1)) (by rfl) (by first | exact .inl rfl | exact .inr rfl))
 (@Z2 _ _ _ _ _ (Yn (@Zd _ _ _ _ _ _ _ _ W8 (@Zz _ _ _ _ _ _ _ Ym (pv 0) Z3 (fun _ _=>rfl)) (pv 1)) (gL (pv 0) Z3 Ra))
 (@Z6 _ _ _ (@Ze _ _ _ _ (pv 2))))) Zq)
 (@Z2 _ _ _ _ _ (@Zg _ _ 3 _ _ _ _ X1.nd rfl (Or.inl rfl) (@Zz _ _ _ _ _ _ _ Ym (pv 0) Z3 (fun _ _=>rfl)) (by rfl) (by first | exact .inl rfl | exact .inr rfl))
 (@Z2 _ _ _ _ _ (@Zg _ _ 4 _ _ _ _ X1.nd rfl (Or.inl rfl) (@Zz _ _ _ _ _ _ _ Ym (pv 0) Z3 (fun _ _=>rfl)) (by rfl) (by first | exact .inl rfl | exact .inr rfl))
 (@Z2 _ _ _ _ _ (Yn (@Zd _ _ _ _ _ _ _ _ Zv (pv 4) Z3) (gL (pv 0) Z3 Ra))
 (@Z2 _ _ _ _ _ (@Zg _ _ 5 _ _ _ _ X1.nd rfl (Or.inl rfl) (@Zd _ _ _ _ _ _ _ _ Zv (@Zd _ _ _ _ _ _ _ _ X9 Z3 (pv 4)) Z3) (by rfl) (by first | exact .inl rfl | exact .inr rfl))
 (@Z2 _ _ _ _ _ (@Y7 _ _ _ _ _ _ _ _ (@Zk _ _ _ _ _ _ _ _ Ti (Zh Zu rfl aF PySem.boot_len (@Z0 _ _ _ _ _ (pv 3) Z1 (by rfl))) Z3 (Zl _)) (@Z6 _ _ _ (@Zg _ _ 5 _ _ _ _ X1.nd rfl (Or.inl rfl) (@Zd _ _ _ _ _ _ _ _ Zv (@Zz _ _ _ _ _ _ _ Ym (pv 3) (@Zd _ _ _ _ _ _ _ _ Xh (pv 4) (Zh Zu rfl aF PySem.boot_len (@Z0 _ _ _ _ _ (pv 3) Z1 (by rfl)))) (fun _ _=>rfl)) (@Zd _ _ _ _ _ _ _ _ X9 Z3 (@Zd _ _ _ _ _ _ _ _ W8 (pv 4) (Zh Zu rfl aF PySem.boot_len (@Z0 _ _ _ _ _ (pv 3) Z1 (by rfl)))))) (by rfl) (by first | exact .inl rfl | exact .inr rfl))) Zq)
 (@Z2 _ _ _ _ _ (@Y7 _ _ _ _ _ _ _ _ (PW.pt (@Rg _ _ _ _ _ _ _ (@Zk _ _ _ _ _ _ _ _ N6 (pv 4) (Zh Zu rfl aF PySem.boot_len (@Z0 _ _ _ _ _ (pv 3) Z1 (by rfl))) (Zl _)) (@T8 _ _ _ _ (@Zk _ _ _ _ _ _ _ _ mX (pv 5) (@Zd _ _ _ _ _ _ _ _ O0 Z3 Z3) (Zl _))))) (@Z2 _ _ _ _ _ (Yn (@Zd _ _ _ _ _ _ _ _ W8 (pv 5) (pv 1)) (gL (pv 0) Z3 Ra))
 (@Z6 _ _ _ (@Ze _ _ _ _ (@Zd _ _ _ _ _ _ _ _ Xh (pv 5) (pv 1))))) Zq)
 (@Z2 _ _ _ _ _ (@Zg _ _ 6 _ _ _ _ X1.nd rfl (Or.inl rfl) (@Zd _ _ _ _ _ _ _ _ Xh (@Zd _ _ _ _ _ _ _ _ X9 (@Zd _ _ _ _ _ _ _ _ Zv (@Zd _ _ _ _ _ _ _ _ Zv (@Zd _ _ _ _ _ _ _ _ Xh (pv 5) Z3) (@Zd _ _ _ _ _ _ _ _ X9 Z3 (pv 4))) Z3) Z3) Z3) (by rfl) (by first | exact .inl rfl | exact .inr rfl))
 (@Z2 _ _ _ _ _ (@Zg _ _ 6 _ _ _ _ X1.nd rfl (Or.inl rfl) (@Zd _ _ _ _ _ _ _ _ Xh (@Zd _ _ _ _ _ _ _ _ Zv (@Zd _ _ _ _ _ _ _ _ Zv (@Zd _ _ _ _ _ _ _ _ X9 (pv 6) (pv 6)) (@Zd _ _ _ _ _ _ _ _ X9 Z3 (pv 6))) (pv 4)) Z3) (by rfl) (by first | exact .inl rfl | exact .inr rfl))
 (@Z6 _ _ _ (@Ze _ _ _ _ (@Zd _ _ _ _ _ _ _ _ Xh (@Zd _ _ _ _ _ _ _ _ W8 (@Zd _ _ _ _ _ _ _ _ Xh (@Zd _ _ _ _ _ _ _ _ Zv (@Zd _ _ _ _ _ _ _ _ Zv (@Zd _ _ _ _ _ _ _ _ X9 (pv 6) (pv 6)) (@Zd _ _ _ _ _ _ _ _ X9 Z3 (pv 6))) (@Zd _ _ _ _ _ _ _ _ X9 Z3 (pv 4))) Z3) Z3) (pv 1))))))))))))),?_⟩
 obtain ⟨i,r,e⟩:=hp.at_
 have hl:(ns.map V.int).length=ns.length:=List.length_map _
 have few:=hp.few
 refine ⟨_,rfl,a,_,2,_,rfl,rfl,SqL.of e,fc _ _ _,_,_,rfl,rfl,_,rfl,?_⟩
 refine Tp (fun c=>?_) (fun c=>?_)
 ·refine ⟨_,rfl,a,_,2,_,rfl,rfl,SqL.of e,fc _ _ _,_,rfl,_,_,rfl,rfl,h0,?_⟩
  refine ⟨_,rfl,a,_,2,_,rfl,rfl,SqL.of e,fc _ _ _,_,rfl,_,_,rfl,rfl,⟨h0,h1⟩,_,rfl,a,_,2,_,rfl,rfl,e,rfl,?_⟩
  exact ⟨_,rfl,hq _ _ (Int.emod_nonneg _ (by omega)) (Int.emod_lt_of_pos _ h0) (hp.upd _ _) Yh⟩
 refine ⟨_,rfl,a,_,0,_,rfl,rfl,SqL.of e,uk _ _ _,?_⟩
 refine ⟨_,rfl,a,_,1,_,rfl,rfl,SqL.of e,my _ _ _,?_⟩
 refine ⟨_,rfl,_,_,rfl,rfl,_,rfl,a,_,1,_,rfl,rfl,e,rfl,?_⟩
 have hp1:=hp.upd (i+1) r
 have g1:Grw a H (upd H a (.lst [.ref S,.int (i+1),.int r])):=Yh
 show _
 have e1:(upd H a (.lst [.ref S,.int (i+1),.int r])) a=some (.lst [.ref S,.int (i+1),.int r]):=Z4
 have hS:=hp1.scr
 refine ⟨_,rfl,_,_,rfl,rfl,jO rfl rfl,_,_,rfl,rfl,?_⟩
 refine ⟨_,rfl,S,_,rfl,.inl hS,_,_,rfl,rfl,_,rfl,?_⟩
 refine Tp (fun c=>?_) (fun c=>?_)
 focus
  have c:=of_decide_eq_true c
  rw [hl] at c
  have hm:=Int.emod_nonneg i (show (ns.length:Int)≠0 by omega)
  have hm2:=Int.emod_lt_of_pos i c
  obtain ⟨v,hv,hmem⟩:=mG (xs:=ns.map V.int) hm (by rw [hl];exact hm2)
  obtain ⟨n1,_,rfl⟩:=List.mem_map.mp hmem
  refine ⟨_,rfl,_,rfl,_,rfl,S,_,rfl,.inl hS,_,_,rfl,rfl,by rw [hl];exact c,S,_,_,_,rfl,rfl,hS,by rw [hl];exact hv,?_⟩
  refine ⟨_,rfl,_,rfl,S,_,rfl,.inl hS,_,_,rfl,rfl,⟨by rw [hl];exact c,by rw [hl];omega⟩,_,_,rfl,rfl,jO rfl rfl,_,_,rfl,rfl,?_⟩
 all_goals
  refine ⟨_,rfl,_,rfl,S,_,rfl,.inl hS,_,_,rfl,rfl,_,rfl,?_⟩
  refine Tp (fun c1=>?_) (fun c1=>?_)
  focus
   refine ⟨_,rfl,_,_,rfl,rfl,pT rfl rfl rfl,_,_,rfl,rfl,_,rfl,?_⟩
   refine Tp (fun c2=>?_) (fun c2=>?_)
   focus
    refine ⟨_,rfl,_,rfl,_,_,rfl,rfl,⟨h0,h1⟩,_,rfl,a,_,2,_,rfl,rfl,e1,rfl,?_⟩
    refine ⟨_,rfl,_,rfl,_,_,rfl,rfl,h0,?_⟩
    exact hq _ _ (Int.emod_nonneg _ (by omega)) (Int.emod_lt_of_pos _ h0) (hp1.upd _ _) (g1.trans Yh)
  all_goals
   refine ⟨_,rfl,_,_,rfl,rfl,Vk rfl,_,rfl,_,_,rfl,rfl,jO rfl rfl,_,_,rfl,rfl,_,_,rfl,rfl,_,_,rfl,rfl,mulR rfl rfl,_,_,rfl,rfl,Vk rfl,?_⟩
   refine ⟨_,rfl,_,rfl,_,_,rfl,rfl,vL _ _ _ rfl rfl,_,rfl,_,_,rfl,rfl,jO rfl rfl,_,_,rfl,rfl,_,rfl,_,_,rfl,rfl,_,_,rfl,rfl,Vk rfl,?_⟩
   refine ⟨_,rfl,_,rfl,_,_,rfl,rfl,vL _ _ _ rfl rfl,_,rfl,_,_,rfl,rfl,jO rfl rfl,_,_,rfl,rfl,_,rfl,_,_,rfl,rfl,jO rfl rfl,_,_,rfl,rfl,_,_,rfl,rfl,Vk rfl,_,_,rfl,rfl,uP rfl rfl,_,rfl,_,_,rfl,rfl,h0,?_⟩
   exact hq _ _ (Int.emod_nonneg _ (by omega)) (Int.emod_lt_of_pos _ h0) hp1 g1
end
end K26
namespace L2
open PySem PySem.Spec PyProof.Rows
section
variable {prog:Program} {w:World} {A:Around} {E:Value→Shared→Prop} {s:Shared} {a:Addr} {ks:List Key}
end
section
variable {prog:Program} {w:World} {A:Around} {E:Value→Shared→Prop} {s:Shared}
end
section
variable {prog:Program} {w:World} {A:Around} {R:Result→Shared→Prop} {I:Addr} {fp wr:List Addr} {n:Nat} {P:Nat→Value→Prop} {St:Nat→Heap→Prop}
end
section
variable {prog:Program} {w:World} {A:Around} {E:Value→Shared→Prop} {s:Shared}
end
section
variable {X:Cx}
end
theorem gW:firstArgMember (.type "StopIteration") []=pure .none:=by kernel_rfl
theorem lP:ownMembersOf (.type "StopIteration") []=#[]:=by kernel_rfl
section
variable {prog:Program} {w:World} {A:Around} {E:Value→Shared→Prop} {s:Shared}
theorem Rf {α:Type} {Q:α→Shared→Prop} (hh:A.handled=none) (k:∀h' e,(∀b o,s.heap.get? b=some o→h'.get? b=some o)→Shared.TypeIs {s with heap:=h'} (.ref e) "StopIteration"→E (.ref e) {s with heap:=h'}):
  wpAny (model prog w) A (do
   let x ←newExc (.type "StopIteration") []
   raiseNew x:Sem α) Q E s:=by
 refine wpAny_bind ?_
 unfold newExc
 refine wpAny_bind (wpAny_newTuple ?_ (Nat.zero_le _))
 rw [gW,lP]
 refine wpAny_bind (wpAny_pure (wpAny_newObj_type (wpAny_raiseNew_none hh (k _ _ (fun b o e=>Heap.get?_push_of_some _ (Heap.get?_push_of_some _ e)) ⟨_,Heap.get?_push_size _ rfl,rfl⟩))))
variable {a:Addr} {o:Obj} {es:Array (Int×Value)} {ep:Nat} {t:SetTable}
end
section
variable {prog:Program} {w:World} {A:Around} {E:Value→Shared→Prop} {s:Shared}
end
section
variable {prog:Program} {w:World} {A:Around} {a it:Addr} {o:Obj} {es:Array (Int×Value)} {ep:Nat} {t:SetTable}
end
section
variable {prog:Program} {w:World} {A:Around} {E:Value→Shared→Prop} {s:Shared} {a:Addr} {ks:List Key}
theorem fQ {α:Type} {M:Model} {c:Bool} {X Y:Sem α} {Q:α→Shared→Prop} (h:c=true) (q:wpAny M A X Q E s):wpAny M A (if c=true then X else Y) Q E s:=by
 rw [if_pos h];exact q
end
section
variable {X:Cx}
end
section
variable {X:Cx}
end
section
variable {prog:Program} {w:World} {A:Around} {E:Value→Shared→Prop} {s:Shared}
end
section
variable {X:Cx}
end
section
variable {X:Cx} {pins:List (Addr×Obj)} {σ:St} {H:Hp} {s:Shared}
end
end L2
namespace L2
open PySem PySem.Spec PyProof.Rows
section
variable {α:Type} {K:W.Frag} {a:Addr} {xs:List V} {ks:List α} {k:Nat} {g:TG} {tt:TT} {te:TE} {σ:St} {H:Hp} {Q:VK}
end
end L2
namespace L2
open PySem PySem.Spec PyProof.Rows PySem.Builtin PySem.Builtin.Str
theorem qM {H H':Hp} {a l:Addr} {o:HO} (g:Grw a H H') (n:ak a H l=none):Grw a H (upd H' l o):=fun b u e=>by
 have hb:b≠l:=fun q=>by rw [q,n] at e;cases e
 have e2:=g b u e
 obtain ⟨h1,h2⟩:=Z8 e2
 rw [Zc h1,Zb hb]
 exact h2
end L2
namespace HT
open PySem PySem.Spec PyProof.Rows
section
variable {prog:Program} {w:World} {A:Around} {E:Value→Shared→Prop} {s:Shared}
theorem getItem_tuple_whole {t sl:Addr} {items:Array Value} {vl vu:Value} {lo hi:Option Int} {Q:Value→Shared→Prop} (ht:IsTup s.heap t items) (hs:s.heap.IsSliceOf sl vl vu .none) (pl:IsPart vl lo) (pu:IsPart vu hi)
  (hw:sIx items.size 0 lo=0∧sIx items.size items.size hi=items.size) (h:Q (.ref t) s):wpAny (model prog w) A (getItem (.ref t) (.ref sl)) Q E s:=by
 obtain ⟨os,hos,hcs,hds⟩:=id hs
 have hTs:s.TypeIs (.ref sl) "slice":=⟨os,hos,hcs⟩
 have ty:=ht.typeIs
 unfold getItem
 try with_reducible refine wpAny_holding ?_
 first | refine wpAny_bind (wpAny_pure ?_) | skip
 refine wpAny_bind (wpAny_sequenceKey ht.typeIs (by decide) ?_)
 refine wpAny_bind (wpAny_callSpecial?_slot (name:=Str.ofString "__getitem__") ht.typeIs PyProof.Rows.slot_tuple_getitem
  (wpAny_call_entry PyProof.Rows.slot_tuple_getitem ht.typeIs entry_tuple_getitem ?_ (args_tuple_getitem _ _)))
 show wpAny _ _ (Builtin.Tuple.tupleItemsOf (.ref t) >>= _) _ _ s
 refine wpAny_bind (tupleItemsOf_ ht ?_)
 refine wpAny_bind (wpAny_typeOf hTs ?_)
 rw [if_pos (by decide)]
 refine wpAny_bind (Wm hs pl pu ?_)
 have hyes:(((sIx items.size 0 lo:Nat):Int) == 0 && (1:Int) == 1 && (sIx items.size items.size hi - sIx items.size 0 lo) == items.size)=true:=by
  rw [hw.1,hw.2];simp
 show wpAny _ _ (if (((sIx items.size 0 lo:Nat):Int) == 0 && (1:Int) == 1 && (sIx items.size items.size hi - sIx items.size 0 lo) == items.size)=true then _ else _) _ _ s
 rw [if_pos hyes]
 refine wpAny_bind (m:=Builtin.Tuple.tupleIsExact (.ref t)) ?_
 refine wpAny_bind (wpAny_typeOf ty (wpAny_pure ?_))
 rw [if_pos (by decide)]
 refine wpAny_bind (m:=rule _) (wpAny_rule ?_)
 exact wpAny_pure ⟨_,rfl,wpAny_pure h⟩
end
end HT
namespace L2
open PySem PySem.Spec PyProof.Rows
section
variable {X:Cx}
def rSlG:V→Option Int→Option Int→Hp→VK→Prop:=fun x lo hi H Q=>∃a xs,x=.ref a∧H a=some (.tup xs)∧∀(c:Addr) (H':Hp),Same H H'→H' c=some (.tup (cW xs lo hi))→Q (.ref c) H'
theorem jC:SlR X rSlG:=by
 intro pins s σ H x v vl vu lo hi sl Q I rx hs pl pu h
 obtain ⟨a,xs,rfl,hx,q⟩:=h
 by_cases hw:HT.sIx xs.length 0 lo=0∧HT.sIx xs.length xs.length hi=xs.length
 ·cases rx
  obtain ⟨its,r,ht,hz⟩:=I.tuple (SqT.of hx)
  have hlen:its.toArray.size=xs.length:=by rw [List.size_toArray];exact r.length.symm
  refine ⟨"tuple",_,PyProof.Rows.slot_tuple_getitem.lookup,ht.typeIs,?_⟩
  refine HT.getItem_tuple_whole ht hs pl pu (by rw [hlen];exact hw) ⟨.ref a,H,I,rfl,q a H (Same.refl _) ?_⟩
  unfold cW
  rw [hw.1,hw.2,List.drop_zero,Nat.sub_zero,List.take_length]
  exact hx
 ·exact tG pins s σ H _ v vl vu lo hi sl Q I rx hs pl pu ⟨a,xs,rfl,SqT.of hx,hw,fun p np=>q p _ (Z7 np _) Z4⟩
end
section
variable {X:Cx}
end
section
variable {a l d:Addr} {fz:HO} {Hf H' H'':Hp} {xs:List V} {ts:List Th}
end
end L2
namespace HT
open PySem PySem.Spec PyProof.Rows
section
variable {prog:Program} {w:World} {A:Around} {E:Value→Shared→Prop} {s:Shared}
end
end HT
namespace L2
open PySem PySem.Spec PyProof.Rows
section
variable {X:Cx}
end
def aR (prog:Program) (w:World) (A:Around) (s:Shared) (κ:KeyKind) (kd:SortKind):Prop:=
 ∀(E:Value→Shared→Prop) (x y:Value) (a b:κ.α) (Q:Bool→Shared→Prop),κ.keyOf x=some a→κ.keyOf y=some b→Q (κ.blt a b) s→wpAny (model prog w) A (keyLt' kd x y) Q E s
structure Sst (kd:SortKind) (xs0:Array Keyed) (st:SortSt):Prop where
 pm:(arrOf st).Perm xs0
 kn:kindOf st=kd
 pd:pendingOf st=#[]
 fl:failedOf st=none
def Rz (κ:KeyKind) (xs:Array Keyed) (n:Nat):Prop:=∀i j,i≤j→j<n→κ.blt (KK κ xs j) (KK κ xs i)=false
section
variable {prog:Program} {w:World} {A:Around} {E:Value→Shared→Prop} {s:Shared} {κ:KeyKind} {kd:SortKind} {xs0:Array Keyed} {st:SortSt}
theorem Sst.sz (b:Sst kd xs0 st):(arrOf st).size=xs0.size:=b.pm.size_eq
theorem ltF {a b c:κ.α} (h:κ.blt b a=false) (g:κ.blt c b=false):κ.blt c a=false:=by
 rcases e:κ.blt c a with _ | _
 ·rfl
 ·rcases κ.negTrans c b a e with q | q
  ·rw [g] at q;exact q.symm
  ·rw [h] at q;exact q.symm
theorem ltA {a b:κ.α} (h:κ.blt a b=true):κ.blt b a=false:=by
 rcases e:κ.blt b a with _ | _
 ·rfl
 ·have q:=κ.trans a b a h e
  rw [κ.irrefl] at q
  exact q.symm
theorem Sm {i j:Nat} {Q:Unit→SortSt→Prop} (q:Q () (setArr st (mirror (arrOf st) i j ((j - i) / 2)))):wpS (model prog w) A E s (reverseSlice' i j) Q st:=by
 rw [reverseSlice'_eq]
 exact wpS_modify q
end
def aN:KeyOrd where
 α:=Int
 blt a b:=decide (a<b)
 irrefl a:=decide_eq_false (Int.lt_irrefl a)
 trans a b c h g:=decide_eq_true (Int.lt_trans (of_decide_eq_true h) (of_decide_eq_true g))
 negTrans a b c h:=by
  have h:=of_decide_eq_true h
  rcases Int.lt_or_le a b with q | q
  ·exact .inl (decide_eq_true q)
  ·exact .inr (decide_eq_true (by omega))
 total a b h g:=by
  have h:=of_decide_eq_false h
  have g:=of_decide_eq_false g
  omega
def cQ (O U:KeyOrd) (a b:O.α×U.α):Bool:=O.blt a.1 b.1 || (!O.blt b.1 a.1 && U.blt a.2 b.2)
theorem Yb {O U:KeyOrd} {a b:O.α×U.α}:cQ O U a b=true↔O.blt a.1 b.1=true∨(a.1=b.1∧U.blt a.2 b.2=true):=by
 unfold cQ
 constructor
 ·intro h
  rcases e:O.blt a.1 b.1 with _ | _
  ·rw [e,Bool.false_or,Bool.and_eq_true,Bool.not_eq_true'] at h
   exact .inr ⟨O.total _ _ e h.1,h.2⟩
  ·exact .inl rfl
 ·rintro (h | ⟨e,h⟩)
  ·rw [h,Bool.true_or]
  ·rw [e,O.irrefl,Bool.false_or,h]
   rfl
def cE (O U:KeyOrd):KeyOrd where
 α:=O.α×U.α
 blt:=cQ O U
 irrefl a:=by
  rcases e:cQ O U a a with _ | _
  ·rfl
  ·rcases Yb.mp e with h | ⟨_,h⟩
   ·rw [O.irrefl] at h;exact h.symm
   ·rw [U.irrefl] at h;exact h.symm
 trans a b c h g:=by
  rw [Yb] at *
  rcases h with h | ⟨e,h⟩
  ·rcases g with g | ⟨e',g⟩
   ·exact .inl (O.trans _ _ _ h g)
   ·exact .inl (e' ▸ h)
  ·rcases g with g | ⟨e',g⟩
   ·exact .inl (e ▸ g)
   ·exact .inr ⟨e.trans e',U.trans _ _ _ h g⟩
 negTrans a b c h:=by
  rw [Yb] at *
  rw [Yb]
  rcases h with h | ⟨e,h⟩
  ·rcases O.negTrans _ b.1 _ h with q | q
   ·exact .inl (.inl q)
   ·exact .inr (.inl q)
  ·rcases e1:O.blt a.1 b.1 with _ | _
   ·rcases e2:O.blt b.1 a.1 with _ | _
    ·have ab:=O.total _ _ e1 e2
     rcases U.negTrans _ b.2 _ h with q | q
     ·exact .inl (.inr ⟨ab,q⟩)
     ·exact .inr (.inr ⟨ab.symm.trans e,q⟩)
    ·exact .inr (.inl (e ▸ e2))
   ·exact .inl (.inl rfl)
 total a b h g:=by
  have n1:∀{a b:O.α×U.α},cQ O U a b=false→O.blt a.1 b.1=false:=fun {a b} h=>by
   rcases e:O.blt a.1 b.1 with _ | _
   ·rfl
   ·rw [Yb.mpr (.inl e)] at h;exact h
  have e:=O.total _ _ (n1 h) (n1 g)
  have n2:∀{a b:O.α×U.α},a.1=b.1→cQ O U a b=false→U.blt a.2 b.2=false:=fun {a b} e h=>by
   rcases q:U.blt a.2 b.2 with _ | _
   ·rfl
   ·rw [Yb.mpr (.inr ⟨e,q⟩)] at h;exact h
  exact Prod.ext e (U.total _ _ (n2 e h) (n2 e.symm g))
def dR (O:KeyOrd) (R:Value→O.α→Prop) (d:O.α):KeyKind:={O with keyOf:=fun v=>open Classical in if h:∃a,R v a then some h.choose else none,dflt:=d}
theorem Pu {O:KeyOrd} {R:Value→O.α→Prop} {d:O.α} {v:Value} {a:O.α} (h:(dR O R d).keyOf v=some a):R v a:=by
 unfold dR at h
 simp only at h
 split at h
 ·rename_i q
  cases h
  exact q.choose_spec
 ·cases h
theorem hG {O:KeyOrd} {R:Value→O.α→Prop} {d:O.α} {v:Value} {a:O.α} (h:R v a):∃b,(dR O R d).keyOf v=some b:=by
 refine ⟨(⟨a,h⟩:∃a,R v a).choose,?_⟩
 unfold dR
 simp only
 rw [dif_pos ⟨a,h⟩]
def eqO (O:KeyOrd) (a b:O.α):Bool:=!O.blt a b && !O.blt b a
theorem Tu {O:KeyOrd} {a b:O.α}:eqO O a b=true↔a=b:=by
 unfold eqO
 constructor
 ·intro h
  rw [Bool.and_eq_true,Bool.not_eq_true',Bool.not_eq_true'] at h
  exact O.total _ _ h.1 h.2
 ·rintro rfl
  rw [O.irrefl]
  rfl
def cV (h h':Heap):Prop:=∀b o,h.get? b=some o→o.cls=.type "tuple"→h'.get? b=some o
structure El (prog:Program) (w:World) (O:KeyOrd) (R:Heap→Value→O.α→Prop) (T:String):Prop where
 mono:∀{h h':Heap} {v:Value} {a:O.α},cV h h'→R h v a→R h' v a
 fn:∀{h:Heap} {v:Value} {a b:O.α},R h v a→R h v b→a=b
 ty:∀{s:Shared} {v:Value} {a:O.α},R s.heap v a→s.TypeIs v T
 eq:∀{A:Around} {E:Value→Shared→Prop} {s:Shared} {u v:Value} {a b:O.α} {Q:Bool→Shared→Prop},A.units+8<cLine→R s.heap u a→R s.heap v b→Q (eqO O a b) s→wpAny (model prog w) A (eqBool u v) Q E s
 lt:∀{A:Around} {E:Value→Shared→Prop} {s:Shared} {u v:Value} {a b:O.α} {Q:Bool→Shared→Prop} (f:Bool),(f=true→T≠"tuple")→A.units+8<cLine→R s.heap u a→R s.heap v b→Q (O.blt a b) s→wpAny (model prog w) A (oneLt' f u v) Q E s
theorem eqI (a b:Int):(a == b)=eqO aN a b:=by
 rw [Bool.eq_iff_iff,beq_iff_eq]
 exact (Tu (O:=aN)).symm
def sP (_:Heap) (v:Value) (a:aN.α):Prop:=∃t,v=.int a t
theorem Uv {prog:Program} {w:World}:El prog w aN sP "int" where
 mono _ h:=h
 fn h g:=by
  obtain ⟨t,rfl⟩:=h
  obtain ⟨u,e⟩:=g
  cases e
  rfl
 ty h:=by
  obtain ⟨t,rfl⟩:=h
  exact typeIs_int _ _ _
 eq {A E s u v a b Q} _ h g q:=by
  obtain ⟨t,rfl⟩:=h
  obtain ⟨u,rfl⟩:=g
  refine wpAny_eqBool_int ?_
  exact (eqI a b) ▸ q
 lt {A E s u v a b Q} f _ _ h g q:=by
  obtain ⟨t,rfl⟩:=h
  obtain ⟨u,rfl⟩:=g
  cases f with
  | true=>exact oneLt_int q
  | false=>
   rw [oneLt'_eq]
   rw [if_neg Bool.false_ne_true]
   exact wpAny_bind (wpAny_richCompare_same (op:=.Lt) (typeIs_int _ _ _) (typeIs_int _ _ _) slot_int_lt (call_int_lt ⟨(fun x=>nomatch x),wpAny_truthy_bool q⟩))
def bK {O U:KeyOrd} (R:Heap→Value→O.α→Prop) (S:Heap→Value→U.α→Prop) (h:Heap) (v:Value) (a:O.α×U.α):Prop:=
 ∃c o n x y,v=.ref c∧h.get? c=some o∧o.cls=.type "tuple"∧o.data=.seq #[x,y] n∧R h x a.1∧S h y a.2
section
variable {prog:Program} {w:World} {O U:KeyOrd} {R:Heap→Value→O.α→Prop} {S:Heap→Value→U.α→Prop} {T V:String}
theorem Xq (e:El prog w O R T) (f:El prog w U S V) {h h':Heap} {v:Value} {a:O.α×U.α} (st:cV h h') (p:bK R S h v a):bK R S h' v a:=by
 obtain ⟨c,o,n,x,y,rfl,ho,hc,hd,h1,h2⟩:=p
 exact ⟨c,o,n,x,y,rfl,st _ _ ho hc,hc,hd,e.mono st h1,f.mono st h2⟩
theorem jz (e:El prog w O R T) (f:El prog w U S V) {h:Heap} {v:Value} {a b:O.α×U.α} (p:bK R S h v a) (q:bK R S h v b):a=b:=by
 obtain ⟨c,o,n,x,y,rfl,ho,hc,hd,h1,h2⟩:=p
 obtain ⟨c',o',n',x',y',e1,ho',hc',hd',g1,g2⟩:=q
 cases e1
 rw [ho] at ho'
 cases ho'
 rw [hd] at hd'
 cases hd'
 exact Prod.ext (e.fn h1 g1) (f.fn h2 g2)
theorem kF (b:Bool) (x y:Value):keyLt' (tuples' b) x y=(do
  let xs ←Builtin.List.listItems x
  let ys ←Builtin.List.listItems y
  for ((p,q),i) in (xs.toList.zip ys.toList).zipIdx do
   if !(←eqBool p q) then return ←oneLt' (b && i == 0) p q
  return decide (xs.size<ys.size)):=rfl
theorem oV (e:El prog w O R T) (f:El prog w U S V) {A:Around} {E:Value→Shared→Prop} {s:Shared} {x y:Value} {a b:O.α×U.α} {Q:Bool→Shared→Prop} (hu:A.units+8<cLine) (bb:Bool) (hb:bb=true→T≠"tuple")
  (ha:bK R S s.heap x a) (hb':bK R S s.heap y b) (q:Q (cQ O U a b) s):wpAny (model prog w) A (keyLt' (tuples' bb) x y) Q E s:=by
 obtain ⟨c,o,n,x1,x2,rfl,ho,hc,hd,h1,h2⟩:=ha
 obtain ⟨c',o',n',y1,y2,rfl,ho',hc',hd',g1,g2⟩:=hb'
 rw [kF]
 refine wpAny_bind (listItems_at ho hd ?_)
 refine wpAny_bind (listItems_at ho' hd' ?_)
 show wpAny _ _ (forIn [((x1,y1),0),((x2,y2),1)] _ _ >>= _) _ _ s
 rw [List.forIn_cons]
 refine wpAny_bind (wpAny_bind (wpAny_bind (e.eq hu h1 g1 ?_)))
 rcases e1:eqO O a.1 b.1 with _ | _
 ·rw [Bool.not_false,if_pos rfl]
  have ne:a.1≠b.1:=fun z=>by rw [Tu.mpr z] at e1;cases e1
  have q:Q (O.blt a.1 b.1) s:=by
   have z:cQ O U a b=O.blt a.1 b.1:=by
    rw [Bool.eq_iff_iff,Yb]
    exact ⟨fun h=>h.elim id fun h=>absurd h.1 ne,.inl⟩
   rw [z] at q
   exact q
  exact wpAny_bind (e.lt _ (fun z=>hb (by rw [Bool.and_eq_true] at z;exact z.1)) hu h1 g1 (wpAny_pure (wpAny_pure (wpAny_pure q))))
 ·rw [Bool.not_true,if_neg Bool.false_ne_true]
  have ea:=Tu.mp e1
  refine wpAny_pure ?_
  show wpAny _ _ (forIn [((x2,y2),1)] _ _) _ _ s
  rw [List.forIn_cons]
  refine wpAny_bind (wpAny_bind (f.eq hu h2 g2 ?_))
  rcases e2:eqO U a.2 b.2 with _ | _
  ·rw [Bool.not_false,if_pos rfl]
   have q:Q (U.blt a.2 b.2) s:=by
    have z:cQ O U a b=U.blt a.2 b.2:=by
     rw [Bool.eq_iff_iff,Yb]
     constructor
     ·rintro (h | h)
      ·rw [ea,O.irrefl] at h;cases h
      ·exact h.2
     ·exact fun h=>.inr ⟨ea,h⟩
    rw [z] at q
    exact q
   exact wpAny_bind (f.lt _ (fun z=>by rw [Bool.and_eq_true] at z;exact absurd z.2 (by decide)) hu h2 g2 (wpAny_pure (wpAny_pure (wpAny_pure q))))
  ·rw [Bool.not_true,if_neg Bool.false_ne_true]
   have eb:=Tu.mp e2
   have q:Q false s:=by
    have z:cQ O U a b=false:=by
     rcases y:cQ O U a b with _ | _
     ·rfl
     ·rcases Yb.mp y with h | h
      ·rw [ea,O.irrefl] at h;exact h.symm
      ·rw [eb,U.irrefl] at h;exact h.2.symm
    rw [z] at q
    exact q
   refine wpAny_pure ?_
   show wpAny _ _ (forIn [] _ _) _ _ s
   rw [List.forIn_nil]
   exact wpAny_pure (wpAny_pure q)
theorem kY (e:El prog w O R T) (f:El prog w U S V) {A:Around} {s:Shared} (hu:A.units+8<cLine) (d:O.α×U.α) (bb:Bool) (hb:bb=true→T≠"tuple"):aR prog w A s (dR (cE O U) (bK R S s.heap) d) (tuples' bb):=
 fun E x y a b Q ha hb' q=>oV e f hu bb hb (Pu ha) (Pu hb') q
theorem ku (a b:Int×Int):HT.lexLt [a.1,a.2] [b.1,b.2]=cQ aN aN a b:=by
 rw [Bool.eq_iff_iff]
 refine Iff.trans ?_ (Yb (O:=aN) (U:=aN) (a:=a) (b:=b)).symm
 rw [HT.lexLt_cons,HT.lexLt_cons,HT.lexLt_nil_nil]
 show _↔decide (a.1<b.1)=true∨(a.1=b.1∧decide (a.2<b.2)=true)
 rw [decide_eq_true_iff,decide_eq_true_iff]
 by_cases c:a.1=b.1
 ·rw [if_pos c]
  by_cases c2:a.2=b.2
  ·rw [if_pos c2]
   exact ⟨fun h=>(by cases h),fun h=>by omega⟩
  ·rw [if_neg c2,decide_eq_true_iff]
   exact ⟨fun h=>.inr ⟨c,h⟩,fun h=>by omega⟩
 ·rw [if_neg c,decide_eq_true_iff]
  exact ⟨.inl,fun h=>by omega⟩
def s_:Heap→Value→(cE aN aN).α→Prop:=bK sP sP
theorem R4 {h:Heap} {v:Value} {a:Int×Int} (p:s_ h v a):∃c its,v=.ref c∧IsTup h c its∧IntsAre its.toList [a.1,a.2]:=by
 obtain ⟨c,o,n,x,y,rfl,ho,hc,hd,⟨t,rfl⟩,⟨u,rfl⟩⟩:=p
 exact ⟨c,_,rfl,⟨o,ho,hc,n,hd⟩,.cons _ _ (.cons _ _ .nil)⟩
theorem jm {h:Heap} {v:Value} {a:Int×Int} (p:s_ h v a):∃c,v=.ref c∧IsTupleKey (aj prog w) h [.inl a.1,.inl a.2] c:=by
 obtain ⟨c,o,n,x,y,rfl,ho,hc,hd,⟨t,rfl⟩,⟨u,rfl⟩⟩:=p
 exact ⟨c,rfl,o,_,n,ho,hc,hd,.cons (Vq prog w _ _) (.cons (Vq prog w _ _) .nil)⟩
theorem sU:El prog w (cE aN aN) s_ "tuple" where
 mono st p:=Xq (prog:=prog) (w:=w) Uv Uv st p
 fn p q:=jz (prog:=prog) (w:=w) Uv Uv p q
 ty p:=by
  obtain ⟨c,its,rfl,t,_⟩:=R4 p
  exact t.typeIs
 eq {A E s u v a b Q} hu p p' q:=by
  obtain ⟨c,rfl,k⟩:=jm (prog:=prog) (w:=w) p
  obtain ⟨c',rfl,k'⟩:=jm (prog:=prog) (w:=w) p'
  refine wpAny_eqBool_tuple (Nat.lt_of_le_of_lt (Nat.le_add_right _ 8) hu) k k' ?_
  have z:decide (([.inl a.1,.inl a.2]:List Key)=[.inl b.1,.inl b.2])=eqO (cE aN aN) a b:=by
   rw [Bool.eq_iff_iff,decide_eq_true_iff,Tu]
   constructor
   ·intro h
    injection h with h1 h2
    injection h2 with h2 _
    exact Prod.ext (Sum.inl.inj h1) (Sum.inl.inj h2)
   ·rintro rfl
    rfl
  rw [z]
  exact q
 lt {A E s u v a b Q} f hf hu p p' q:=by
  obtain ⟨c,its,rfl,t,i⟩:=R4 p
  obtain ⟨c',its',rfl,t',i'⟩:=R4 p'
  cases f with
  | true=>exact absurd rfl (hf rfl)
  | false=>
   rw [oneLt'_eq]
   rw [if_neg Bool.false_ne_true]
   refine wpAny_bind (HT.lt_tupInts t t' i i' (Nat.lt_of_le_of_lt (Nat.le_add_right _ 8) hu) (wpAny_truthy_bool ?_))
   exact (ku a b) ▸ q
end
end L2
namespace L2T
open PySem PySem.Spec PyProof.Rows L2
def ky (κ:KeyKind) (p:Keyed):κ.α:=(κ.keyOf p.1).getD κ.dflt
def leK (κ:KeyKind) (p q:Keyed):Prop:=κ.blt (ky κ q) (ky κ p)=false
def Srt (κ:KeyKind) (l:List Keyed):Prop:=l.Pairwise (leK κ)
section
variable {κ:KeyKind}
theorem leK.refl (p:Keyed):leK κ p p:=κ.irrefl _
theorem leK.trans {p q r:Keyed} (h:leK κ p q) (g:leK κ q r):leK κ p r:=ltF h g
theorem leK.of {p q:Keyed} (h:κ.blt (ky κ p) (ky κ q)=true):leK κ p q:=ltA h
structure Mi (κ:KeyKind) (W out A B:List Keyed):Prop where
 pm:(out++(A++B)).Perm W
 so:Srt κ out
 sa:Srt κ A
 sb:Srt κ B
 le:∀x∈out,∀y∈A++B,leK κ x y
theorem Mi.a {W out X A B:List Keyed} (h:Mi κ W out (X++A) B) (hl:∀x∈X,∀y∈B,leK κ x y):Mi κ W (out++X) A B:=by
 have sa:=List.pairwise_append.mp h.sa
 refine ⟨?_,List.pairwise_append.mpr ⟨h.so,sa.1,fun x hx y hy=>h.le x hx y (List.mem_append_left _ (List.mem_append_left _ hy))⟩,sa.2.1,h.sb,?_⟩
 ·have:=h.pm
  simpa [List.append_assoc] using this
 ·intro x hx y hy
  rcases List.mem_append.mp hx with hx | hx
  ·refine h.le x hx y ?_
   rcases List.mem_append.mp hy with hy | hy
   ·exact List.mem_append_left _ (List.mem_append_right _ hy)
   ·exact List.mem_append_right _ hy
  ·rcases List.mem_append.mp hy with hy | hy
   ·exact sa.2.2 x hx y hy
   ·exact hl x hx y hy
theorem Mi.sw {W out A B:List Keyed} (h:Mi κ W out A B):Mi κ W out B A:=
 ⟨((List.perm_append_comm).append_left out).trans h.pm,h.so,h.sb,h.sa,fun x hx y hy=>h.le x hx y (List.mem_append.mpr (Or.symm (List.mem_append.mp hy)))⟩
theorem Mi.b {W out X A B:List Keyed} (h:Mi κ W out A (X++B)) (hl:∀x∈X,∀y∈A,leK κ x y):Mi κ W (out++X) A B:=(h.sw.a hl).sw
theorem Mi.fin {W out A B:List Keyed} (h:Mi κ W out A B) (hl:∀x∈A,∀y∈B,leK κ x y):(out++A++B).Perm W∧Srt κ (out++A++B):=by
 refine ⟨by rw [List.append_assoc];exact h.pm,?_⟩
 rw [List.append_assoc]
 exact List.pairwise_append.mpr ⟨h.so,List.pairwise_append.mpr ⟨h.sa,h.sb,hl⟩,h.le⟩
structure Mh (κ:KeyKind) (W out A B:List Keyed):Prop where
 pm:((A++B)++out).Perm W
 so:Srt κ out
 sa:Srt κ A
 sb:Srt κ B
 le:∀x∈A++B,∀y∈out,leK κ x y
theorem Mh.b {W out X A B:List Keyed} (h:Mh κ W out A (B++X)) (hl:∀x∈X,∀y∈A,leK κ y x):Mh κ W (X++out) A B:=by
 have sb:=List.pairwise_append.mp h.sb
 refine ⟨?_,List.pairwise_append.mpr ⟨sb.2.1,h.so,fun x hx y hy=>h.le x (List.mem_append_right _ (List.mem_append_right _ hx)) y hy⟩,h.sa,sb.1,?_⟩
 ·have:=h.pm
  simpa [List.append_assoc] using this
 ·intro x hx y hy
  rcases List.mem_append.mp hy with hy | hy
  ·rcases List.mem_append.mp hx with hx | hx
   ·exact hl y hy x hx
   ·exact sb.2.2 x hx y hy
  ·refine h.le x ?_ y hy
   rcases List.mem_append.mp hx with hx | hx
   ·exact List.mem_append_left _ hx
   ·exact List.mem_append_right _ (List.mem_append_left _ hx)
theorem Mh.sw {W out A B:List Keyed} (h:Mh κ W out A B):Mh κ W out B A:=
 ⟨((List.perm_append_comm).append_right out).trans h.pm,h.so,h.sb,h.sa,fun x hx y hy=>h.le x (List.mem_append.mpr (Or.symm (List.mem_append.mp hx))) y hy⟩
theorem Mh.a {W out X A B:List Keyed} (h:Mh κ W out (A++X) B) (hl:∀x∈X,∀y∈B,leK κ y x):Mh κ W (X++out) A B:=(h.sw.b hl).sw
theorem Mh.fin {W out A B:List Keyed} (h:Mh κ W out A B) (hl:∀x∈A,∀y∈B,leK κ x y):(A++B++out).Perm W∧Srt κ (A++B++out):=
 ⟨h.pm,List.pairwise_append.mpr ⟨List.pairwise_append.mpr ⟨h.sa,h.sb,hl⟩,h.so,h.le⟩⟩
theorem Srt.at {l:List Keyed} (h:Srt κ l) {i j:Nat} {x y:Keyed} (hij:i≤j) (hx:l[i]?=some x) (hy:l[j]?=some y):leK κ x y:=by
 rcases Nat.lt_or_ge i j with c | c
 ·obtain ⟨hi,rfl⟩:=List.getElem?_eq_some_iff.mp hx
  obtain ⟨hj,rfl⟩:=List.getElem?_eq_some_iff.mp hy
  exact List.pairwise_iff_getElem.mp h i j hi hj c
 ·obtain rfl:i=j:=by omega
  rw [hx] at hy
  cases hy
  exact leK.refl _
theorem KK_ky {xs:Array Keyed} {i:Nat} {p:Keyed} (h:xs[i]?=some p):KK κ xs i=ky κ p:=by
 unfold KK ky
 rw [h]
end
def bi:Bool→Keyed→Array Keyed→Nat→Nat→Nat→StateT SortSt Sem (Option Nat):=sortPriv% PySem.Builtin.gallop
def cm (aD:Bool) (key:Keyed) (arr:Array Keyed) (base i:Nat):StateT SortSt Sem (Option Bool):=do
 let x ←elem' arr (base+i)
 if aD then lt' x key else return (←lt' key x).map (!·)
theorem g_ (aD:Bool) (key:Keyed) (arr:Array Keyed) (base n hint:Nat):bi aD key arr base n hint=(do
 let mut lastofs:=0
 let mut ofs:=1
 let mut lo:=0
 let mut hi:=0
 let some right ←cm aD key arr base hint | return none
 if right then
  let maxofs:=n - hint
  for _ in [0:n] do
   if ofs ≥ maxofs then break
   let some more ←cm aD key arr base (hint+ofs) | return none
   if !more then break
   lastofs:=ofs
   ofs:=2 * ofs+1
  lo:=hint+lastofs+1
  hi:=hint+min ofs maxofs
 else
  let maxofs:=hint+1
  for _ in [0:n] do
   if ofs ≥ maxofs then break
   let some found ←cm aD key arr base (hint - ofs) | return none
   if found then break
   lastofs:=ofs
   ofs:=2 * ofs+1
  lo:=hint+1 - min ofs maxofs
  hi:=hint - lastofs
 for _ in [0:n] do
  if lo ≥ hi then break
  let m:=lo+(hi - lo) / 2
  let some more ←cm aD key arr base m | return none
  if more then lo:=m+1 else hi:=m
 return some hi):=rfl
section
variable {prog:Program} {w:World} {A:Around} {E:Value→Shared→Prop} {s:Shared} {κ:KeyKind} {kd:SortKind} {st:SortSt}
theorem Qe {x y:Keyed} {Q:Option Bool→SortSt→Prop} (hc:aR prog w A s κ kd) (kn:kindOf st=kd) (hx:∃a,κ.keyOf x.1=some a) (hy:∃a,κ.keyOf y.1=some a)
  (q:Q (some (κ.blt (ky κ x) (ky κ y))) st):wpS (model prog w) A E s (lt' x y) Q st:=by
 obtain ⟨a,ha⟩:=hx
 obtain ⟨b,hb⟩:=hy
 have e1:ky κ x=a:=by unfold ky;rw [ha];rfl
 have e2:ky κ y=b:=by unfold ky;rw [hb];rfl
 rw [e1,e2] at q
 rw [lt'_eq]
 refine wpS_bind (wpS_get ?_)
 rw [kn]
 exact wpS_bind (wpS_lift (wpAny_attempt (hc _ x.1 y.1 a b _ ha hb ⟨rfl,wpS_pure q⟩)))
def bey (κ:KeyKind) (aD:Bool) (key:Keyed) (p:Keyed):Bool:=if aD then κ.blt (ky κ p) (ky κ key) else !κ.blt (ky κ key) (ky κ p)
theorem V2 {aD:Bool} {key p q:Keyed} (h:leK κ p q) (g:bey κ aD key q=true):bey κ aD key p=true:=by
 unfold bey at g ⊢
 cases aD with
 | true=>
  simp only [if_true] at g ⊢
  rcases κ.negTrans _ (ky κ p) _ g with z | z
  ·rw [h] at z
   cases z
  ·exact z
 | false=>
  simp only [Bool.false_eq_true,if_false,Bool.not_eq_true'] at g ⊢
  exact ltF h g
theorem Pi {aD:Bool} {key:Keyed} {arr:Array Keyed} {base i:Nat} {p:Keyed} {Q:Option Bool→SortSt→Prop} (hc:aR prog w A s κ kd) (kn:kindOf st=kd) (hk:KeysOf κ arr) (hy:∃a,κ.keyOf key.1=some a)
  (e:arr[base+i]?=some p) (q:Q (some (bey κ aD key p)) st):wpS (model prog w) A E s (cm aD key arr base i) Q st:=by
 unfold cm
 rw [elem'_eq,e]
 have hx:∃a,κ.keyOf p.1=some a:=hk p (Array.mem_toList_iff.mpr (Array.mem_of_getElem? e))
 refine wpS_bind (wpS_pure ?_)
 cases aD with
 | true=>exact Qe hc kn hx hy q
 | false=>exact wpS_bind (Qe hc kn hy hx (wpS_pure q))
def rg (aD:Bool) (key:Keyed) (arr:Array Keyed) (base n lo0 hi0:Nat):StateT SortSt Sem (Option Nat):=do
 let mut lo:=lo0
 let mut hi:=hi0
 for _ in [0:n] do
  if lo ≥ hi then break
  let m:=lo+(hi - lo) / 2
  let some more ←cm aD key arr base m | return none
  if more then lo:=m+1 else hi:=m
 return some hi
theorem Xp {aD:Bool} {key:Keyed} {arr:Array Keyed} {base n hint:Nat} {Q:Option Nat→SortSt→Prop} (hc:aR prog w A s κ kd) (kn:kindOf st=kd) (hk:KeysOf κ arr) (hy:∃a,κ.keyOf key.1=some a)
  (hn:hint<n) (hs:base+n≤arr.size) (so:Srt κ ((arr.toList.drop base).take n))
  (fin:∀m,m≤n→(∀i p,i<m→arr[base+i]?=some p→bey κ aD key p=true)→(∀i p,m≤i→i<n→arr[base+i]?=some p→bey κ aD key p=false)→Q (some m) st):wpS (model prog w) A E s (bi aD key arr base n hint) Q st:=by
 have at_:∀i,i<n→∃p,arr[base+i]?=some p∧((arr.toList.drop base).take n)[i]?=some p:=fun i hi=>by
  have hb:base+i<arr.size:=by omega
  refine ⟨arr[base+i],Array.getElem?_eq_getElem hb,?_⟩
  rw [List.getElem?_take,if_pos hi,List.getElem?_drop,Array.getElem?_toList]
  exact Array.getElem?_eq_getElem hb
 have up:∀{i j p q},i≤j→j<n→arr[base+i]?=some p→arr[base+j]?=some q→leK κ p q:=fun {i j p q} hij hj hp hq=>by
  obtain ⟨p',e1,e2⟩:=at_ i (by omega)
  obtain ⟨q',e3,e4⟩:=at_ j hj
  rw [hp] at e1
  rw [hq] at e3
  cases e1
  cases e3
  exact so.at hij e2 e4
 rw [g_]
 obtain ⟨ph,eh,_⟩:=at_ hint hn
 refine wpS_bind (Pi hc kn hk hy eh ?_)
 dsimp only
 have last:∀lo hi,lo≤hi→hi≤n→(∀i p,i<lo→arr[base+i]?=some p→bey κ aD key p=true)→(∀i p,hi≤i→i<n→arr[base+i]?=some p→bey κ aD key p=false)→wpS (model prog w) A E s (rg aD key arr base n lo hi) Q st:=by
  intro lo hi lh hn' g1 g2
  unfold rg
  refine wpS_bind (wpS_mono (wpS_forRange (Q:=fun c u=>u=st∧∃m,c=(none,m,m)∧m≤n∧(∀i p,i<m→arr[base+i]?=some p→bey κ aD key p=true)∧(∀i p,m≤i→i<n→arr[base+i]?=some p→bey κ aD key p=false))
   (fun x c u=>u=st∧∃lo hi,c=(none,lo,hi)∧lo≤hi∧hi≤n∧hi+x≤n+lo∧(∀i p,i<lo→arr[base+i]?=some p→bey κ aD key p=true)∧(∀i p,hi≤i→i<n→arr[base+i]?=some p→bey κ aD key p=false)) ?_ ?_ ⟨rfl,lo,hi,rfl,lh,hn',by omega,g1,g2⟩) ?_)
  ·rintro x _ _ _ hx ⟨rfl,lo,hi,rfl,lh,hn',hh,g1,g2⟩
   dsimp only
   rcases Nat.lt_or_ge lo hi with c | c
   ·rw [if_neg (by omega)]
    obtain ⟨p,e,_⟩:=at_ (lo+(hi - lo) / 2) (by omega)
    refine wpS_bind (Pi hc kn hk hy e ?_)
    dsimp only
    rcases b:bey κ aD key p with _ | _
    ·rw [if_neg Bool.false_ne_true]
     refine wpS_pure ⟨rfl,lo,lo+(hi - lo) / 2,rfl,by omega,by omega,by omega,g1,fun i q h1 h2 hq=>?_⟩
     rcases z:bey κ aD key q with _ | _
     ·rfl
     ·rw [V2 (up h1 h2 e hq) z] at b
      cases b
    ·rw [if_pos rfl]
     refine wpS_pure ⟨rfl,lo+(hi - lo) / 2+1,hi,rfl,by omega,by omega,by omega,fun i q h1 hq=>?_,g2⟩
     exact V2 (up (show i≤lo+(hi - lo) / 2 by omega) (by omega) hq e) b
   ·rw [if_pos c]
    obtain rfl:lo=hi:=by omega
    exact wpS_pure ⟨rfl,lo,rfl,hn',g1,g2⟩
  ·rintro _ _ ⟨rfl,lo,hi,rfl,lh,hn',hh,g1,g2⟩
   obtain rfl:lo=hi:=by omega
   exact ⟨rfl,lo,rfl,hn',g1,g2⟩
  ·rintro _ _ ⟨rfl,m,rfl,hm,g1,g2⟩
   exact wpS_pure (fin m hm g1 g2)
 rcases b:bey κ aD key ph with _ | _
 ·rw [if_neg Bool.false_ne_true]
  refine wpS_bind (wpS_mono (wpS_forRange (Q:=fun c u=>u=st∧∃l o,c=(none,l,o)∧l<o∧l≤hint∧(∀p,arr[base+(hint - l)]?=some p→bey κ aD key p=false)∧(hint+1≤o∨∀p,arr[base+(hint - o)]?=some p→bey κ aD key p=true))
   (fun x c u=>u=st∧∃l o,c=(none,l,o)∧l<o∧l≤hint∧x<o∧(∀p,arr[base+(hint - l)]?=some p→bey κ aD key p=false)) ?_ ?_ ⟨rfl,0,1,rfl,by omega,by omega,by omega,fun p hp=>by rw [Nat.sub_zero,eh] at hp;cases hp;exact b⟩) ?_)
  ·rintro x _ _ _ hx ⟨rfl,l,o,rfl,lo,lh,xo,g⟩
   dsimp only
   rcases Nat.lt_or_ge o (hint+1) with c | c
   ·rw [if_neg (by omega)]
    obtain ⟨p,e,_⟩:=at_ (hint - o) (by omega)
    refine wpS_bind (Pi hc kn hk hy e ?_)
    dsimp only
    rcases z:bey κ aD key p with _ | _
    ·rw [if_neg Bool.false_ne_true]
     exact wpS_pure ⟨rfl,o,2 * o+1,rfl,by omega,by omega,by omega,fun q hq=>by rw [e] at hq;cases hq;exact z⟩
    ·rw [if_pos rfl]
     exact wpS_pure ⟨rfl,l,o,rfl,lo,lh,g,.inr fun q hq=>by rw [e] at hq;cases hq;exact z⟩
   ·rw [if_pos c]
    exact wpS_pure ⟨rfl,l,o,rfl,lo,lh,g,.inl c⟩
  ·rintro _ _ ⟨rfl,l,o,rfl,lo,lh,xo,g⟩
   exact ⟨rfl,l,o,rfl,lo,lh,g,.inl (by omega)⟩
  ·rintro _ _ ⟨rfl,l,o,rfl,lo,lh,g,h⟩
   refine last (hint+1 - min o (hint+1)) (hint - l) (by omega) (by omega) (fun i p hi hp=>?_) fun i p h1 h2 hp=>?_
   ·rcases h with h | h
    ·omega
    ·rcases Nat.lt_or_ge hint o with c | c
     ·omega
     ·obtain ⟨q,e,_⟩:=at_ (hint - o) (by omega)
      exact V2 (up (show i≤hint - o by omega) (by omega) hp e) (h q e)
   ·obtain ⟨q,e,_⟩:=at_ (hint - l) (by omega)
    rcases z:bey κ aD key p with _ | _
    ·rfl
    ·have:=V2 (up h1 h2 e hp) z
     rw [g q e] at this
     cases this
 ·rw [if_pos rfl]
  refine wpS_bind (wpS_mono (wpS_forRange (Q:=fun c u=>u=st∧∃l o,c=(none,l,o)∧l<o∧hint+l<n∧(∀p,arr[base+(hint+l)]?=some p→bey κ aD key p=true)∧(n - hint≤o∨∀p,arr[base+(hint+o)]?=some p→bey κ aD key p=false))
   (fun x c u=>u=st∧∃l o,c=(none,l,o)∧l<o∧hint+l<n∧x<o∧(∀p,arr[base+(hint+l)]?=some p→bey κ aD key p=true)) ?_ ?_ ⟨rfl,0,1,rfl,by omega,by omega,by omega,fun p hp=>by rw [Nat.add_zero,eh] at hp;cases hp;exact b⟩) ?_)
  ·rintro x _ _ _ hx ⟨rfl,l,o,rfl,lo,lh,xo,g⟩
   dsimp only
   rcases Nat.lt_or_ge o (n - hint) with c | c
   ·rw [if_neg (by omega)]
    obtain ⟨p,e,_⟩:=at_ (hint+o) (by omega)
    refine wpS_bind (Pi hc kn hk hy e ?_)
    dsimp only
    rcases z:bey κ aD key p with _ | _
    ·rw [if_pos (by rfl)]
     exact wpS_pure ⟨rfl,l,o,rfl,lo,lh,g,.inr fun q hq=>by rw [e] at hq;cases hq;exact z⟩
    ·rw [if_neg (by decide)]
     exact wpS_pure ⟨rfl,o,2 * o+1,rfl,by omega,by omega,by omega,fun q hq=>by rw [e] at hq;cases hq;exact z⟩
   ·rw [if_pos c]
    exact wpS_pure ⟨rfl,l,o,rfl,lo,lh,g,.inl c⟩
  ·rintro _ _ ⟨rfl,l,o,rfl,lo,lh,xo,g⟩
   exact ⟨rfl,l,o,rfl,lo,lh,g,.inl (by omega)⟩
  ·rintro _ _ ⟨rfl,l,o,rfl,lo,lh,g,h⟩
   refine last (hint+l+1) (hint+min o (n - hint)) (by omega) (by omega) (fun i p hi hp=>?_) fun i p h1 h2 hp=>?_
   ·obtain ⟨q,e,_⟩:=at_ (hint+l) (by omega)
    exact V2 (up (show i≤hint+l by omega) (by omega) hp e) (g q e)
   ·rcases h with h | h
    ·omega
    ·rcases Nat.lt_or_ge o (n - hint) with c | c
     ·obtain ⟨q,e,_⟩:=at_ (hint+o) (by omega)
      rcases z:bey κ aD key p with _ | _
      ·rfl
      ·have:=V2 (up (show hint+o≤i by omega) h2 e hp) z
       rw [h q e] at this
       cases this
     ·omega
end
end L2T
namespace L2T
open PySem PySem.Spec PyProof.Rows L2
def aE:Nat→StateT SortSt Sem Unit:=sortPriv% PySem.Builtin.setMinGallop
abbrev dC (st:SortSt) (g:Nat):SortSt:=SortSt.mk' (kindOf st) (arrOf st) (pendingOf st) g (failedOf st)
theorem Yq (g:Nat):aE g=modify fun s=>dC s g:=rfl
def dN:Array Keyed→Array Keyed→StateT SortSt Sem (Array Keyed):=sortPriv% PySem.Builtin.mergeLo
theorem Nf (a b:Array Keyed):dN a b=(do
 rule "list.sort.merge-lo"
 let total:=a.size+b.size
 let done (out:Array Keyed) (ia ib:Nat):=out++a.extract ia a.size++b.extract ib b.size
 let lastOfA (out:Array Keyed) (ia ib:Nat):=out++b.extract ib b.size++a.extract ia a.size
 let mut out:Array Keyed:=#[←elem' b 0]
 let mut ia:=0
 let mut ib:=1
 if ib == b.size then return done out ia ib
 if ia+1 == a.size then return lastOfA out ia ib
 let mut minGallop:=gallopOf (←get)
 for _ in [0:total] do
  let mut acount:=0
  let mut bcount:=0
  for _ in [0:total] do
   let some bWins ←lt' (←elem' b ib) (←elem' a ia) | return done out ia ib
   if bWins then
    out:=out.push (←elem' b ib);ib:=ib+1;bcount:=bcount+1;acount:=0
    if ib == b.size then return done out ia ib
    if bcount ≥ minGallop then break
   else
    out:=out.push (←elem' a ia);ia:=ia+1;acount:=acount+1;bcount:=0
    if ia+1 == a.size then return lastOfA out ia ib
    if acount ≥ minGallop then break
  rule "list.sort.gallop"
  minGallop:=minGallop+1
  for _ in [0:total] do
   if minGallop > 1 then minGallop:=minGallop - 1
   aE minGallop
   let some k ←bi false (←elem' b ib) a ia (a.size - ia) 0 | return done out ia ib
   acount:=k
   if k > 0 then
    out:=out++a.extract ia (ia+k);ia:=ia+k
    if ia+1 == a.size then return lastOfA out ia ib
    if ia == a.size then return done out ia ib
   out:=out.push (←elem' b ib);ib:=ib+1
   if ib == b.size then return done out ia ib
   let some k ←bi true (←elem' a ia) b ib (b.size - ib) 0 | return done out ia ib
   bcount:=k
   if k > 0 then
    out:=out++b.extract ib (ib+k);ib:=ib+k
    if ib == b.size then return done out ia ib
   out:=out.push (←elem' a ia);ia:=ia+1
   if ia+1 == a.size then return lastOfA out ia ib
   if acount<7 && bcount<7 then break
  minGallop:=minGallop+1
  aE minGallop
 unsupported "internal:list.sort.merge-bound"):=rfl
section
variable {prog:Program} {w:World} {A:Around} {E:Value→Shared→Prop} {s:Shared} {κ:KeyKind} {kd:SortKind} {st:SortSt}
def GalS (st u:SortSt):Prop:=∃g,u=dC st g
theorem GalS.refl:GalS st st:=⟨gallopOf st,rfl⟩
theorem GalS.set {u:SortSt} (h:GalS st u) (g:Nat):GalS st (dC u g):=by
 obtain ⟨_,rfl⟩:=h
 exact ⟨g,rfl⟩
theorem GalS.kn {u:SortSt} (h:GalS st u):kindOf u=kindOf st:=by
 obtain ⟨_,rfl⟩:=h
 rfl
theorem Sv (xs:Array Keyed) (i:Nat):(xs.extract i xs.size).toList=xs.toList.drop i:=by
 rw [Array.toList_extract,List.extract_eq_take_drop,List.take_of_length_le]
 rw [List.length_drop,Array.length_toList]
 exact Nat.le_refl _
theorem e8 (xs:Array Keyed) (i k:Nat):(xs.extract i (i+k)).toList=(xs.toList.drop i).take k:=by
 rw [Array.toList_extract,List.extract_eq_take_drop,Nat.add_sub_cancel_left]
theorem Od {xs:Array Keyed} {i:Nat} (h:i<xs.size):xs.toList.drop i=[xs[i]]++xs.toList.drop (i+1):=by
 rw [List.drop_eq_getElem_cons (by rw [Array.length_toList];exact h)]
 rfl
theorem Qc (l:List Keyed) (i k:Nat):l.drop i=(l.drop i).take k++l.drop (i+k):=by
 rw [←List.drop_drop,List.take_append_drop]
theorem Y6 {xs:Array Keyed} {i:Nat} (h:i<xs.size):elem' xs i=pure xs[i]:=by rw [elem'_eq,Array.getElem?_eq_getElem h]
theorem V0 {xs:Array Keyed} {i:Nat} {y:Keyed} (h:y∈xs.toList.drop i):∃j,xs[i+j]?=some y∧i+j<xs.size:=by
 obtain ⟨j,hj⟩:=List.mem_iff_getElem?.mp h
 rw [List.getElem?_drop,Array.getElem?_toList] at hj
 exact ⟨j,hj,(Array.getElem?_eq_some_iff.mp hj).1⟩
theorem Wj {xs:Array Keyed} {i k:Nat} {y:Keyed} (h:y∈(xs.toList.drop i).take k):∃j,xs[i+j]?=some y∧j<k∧i+j<xs.size:=by
 obtain ⟨j,hj⟩:=List.mem_iff_getElem?.mp h
 rw [List.getElem?_take] at hj
 split at hj
 ·next c=>
  rw [List.getElem?_drop,Array.getElem?_toList] at hj
  exact ⟨j,hj,c,(Array.getElem?_eq_some_iff.mp hj).1⟩
 ·cases hj
theorem Xi {xs:Array Keyed} (hk:KeysOf κ xs) {i:Nat} (h:i<xs.size):∃a,κ.keyOf xs[i].1=some a:=hk _ (Array.mem_toList_iff.mpr (Array.getElem_mem h))
abbrev dn (a b out:Array Keyed) (ia ib:Nat):Array Keyed:=out++a.extract ia a.size++b.extract ib b.size
abbrev la (a b out:Array Keyed) (ia ib:Nat):Array Keyed:=out++b.extract ib b.size++a.extract ia a.size
abbrev T2:Type:=Option (Array Keyed)×Array Keyed×Nat×Nat×Nat×Nat×Nat
def lo3 (a b out:Array Keyed) (ia ib mg k1 k2:Nat):StateT SortSt Sem (ForInStep T2):=do
 let x ←elem' a ia
 if (ia+1+1 == a.size)=true then pure (.done (some (la a b (out.push x) (ia+1) ib),out.push x,ia+1,ib,mg,k1,k2))
 else if (decide (k1<7) && decide (k2<7))=true then pure (.done (none,out.push x,ia+1,ib,mg,k1,k2))
 else pure (.yield (none,out.push x,ia+1,ib,mg,k1,k2))
def lo2 (a b out:Array Keyed) (ia ib mg k1 k20:Nat):StateT SortSt Sem (ForInStep T2):=do
 let x ←elem' b ib
 if (ib+1 == b.size)=true then pure (.done (some (dn a b (out.push x) ia (ib+1)),out.push x,ia,ib+1,mg,k1,k20))
 else do
  let y ←elem' a ia
  let r ←bi true y b (ib+1) (b.size - (ib+1)) 0
  match r with
  | some k=>
   if k > 0 then
    if (ib+1+k == b.size)=true then pure (.done (some (dn a b (out.push x++b.extract (ib+1) (ib+1+k)) ia (ib+1+k)),out.push x++b.extract (ib+1) (ib+1+k),ia,ib+1+k,mg,k1,k))
    else lo3 a b (out.push x++b.extract (ib+1) (ib+1+k)) ia (ib+1+k) mg k1 k
   else lo3 a b (out.push x) ia (ib+1) mg k1 k
  | _=>pure (.done (some (dn a b (out.push x) ia (ib+1)),out.push x,ia,ib+1,mg,k1,k20))
def lo1 (a b out:Array Keyed) (ia ib mg k10 k20:Nat):StateT SortSt Sem (ForInStep T2):=do
 aE mg
 let x ←elem' b ib
 let r ←bi false x a ia (a.size - ia) 0
 match r with
 | some k=>
  if k > 0 then
   if (ia+k+1 == a.size)=true then pure (.done (some (la a b (out++a.extract ia (ia+k)) (ia+k) ib),out++a.extract ia (ia+k),ia+k,ib,mg,k,k20))
   else if (ia+k == a.size)=true then pure (.done (some (dn a b (out++a.extract ia (ia+k)) (ia+k) ib),out++a.extract ia (ia+k),ia+k,ib,mg,k,k20))
   else lo2 a b (out++a.extract ia (ia+k)) (ia+k) ib mg k k20
  else lo2 a b out ia ib mg k k20
 | _=>pure (.done (some (dn a b out ia ib),out,ia,ib,mg,k10,k20))
structure LoC (κ:KeyKind) (a b:Array Keyed):Prop where
 ha:KeysOf κ a
 hb:KeysOf κ b
 sa:Srt κ a.toList
 sb:Srt κ b.toList
 h1:∀x∈b.toList,∀y∈a.toList.drop (a.size - 1),leK κ x y
structure Jl (κ:KeyKind) (a b out:Array Keyed) (ia ib:Nat):Prop where
 mi:Mi κ (a.toList++b.toList) out.toList (a.toList.drop ia) (b.toList.drop ib)
 ia1:ia+1<a.size
 ib1:ib<b.size
 sz:out.size=ia+ib
def Mgd (κ:KeyKind) (a b r:Array Keyed):Prop:=r.toList.Perm (a.toList++b.toList)∧Srt κ r.toList
def Rs (κ:KeyKind) (a b:Array Keyed) (N:Nat) (c:T2):Prop:=(∃r,c.1=some r∧Mgd κ a b r)∨(c.1=none∧Jl κ a b c.2.1 c.2.2.1 c.2.2.2.1∧N<c.2.1.size)
def Ps2 (κ:KeyKind) (a b:Array Keyed) (st:SortSt) (N:Nat):ForInStep T2→SortSt→Prop:=fun r u=>GalS st u∧match r with
 | .done c=>Rs κ a b N c
 | .yield c=>c.1=none∧Jl κ a b c.2.1 c.2.2.1 c.2.2.2.1∧N<c.2.1.size
theorem e7 {a b out:Array Keyed} {ia ib:Nat} (h:Mi κ (a.toList++b.toList) out.toList (a.toList.drop ia) (b.toList.drop ib)) (e:ia=a.size∨ib=b.size):Mgd κ a b (dn a b out ia ib):=by
 have q:=h.fin fun x hx y hy=>by
  rcases e with rfl | rfl
  ·rw [List.drop_of_length_le (by rw [Array.length_toList];exact Nat.le_refl _)] at hx
   cases hx
  ·rw [List.drop_of_length_le (by rw [Array.length_toList];exact Nat.le_refl _)] at hy
   cases hy
 unfold Mgd dn
 rw [Array.toList_append,Array.toList_append,Sv,Sv]
 exact q
theorem iV {a b out:Array Keyed} {ia ib:Nat} (C:LoC κ a b) (h:Mi κ (a.toList++b.toList) out.toList (a.toList.drop ia) (b.toList.drop ib)) (e:ia+1=a.size):Mgd κ a b (la a b out ia ib):=by
 have q:=h.sw.fin fun x hx y hy=>C.h1 x (List.mem_of_mem_drop hx) y (by rw [show a.size - 1=ia by omega];exact hy)
 unfold Mgd la
 rw [Array.toList_append,Array.toList_append,Sv,Sv]
 exact q
theorem on {a b out:Array Keyed} {ia ib:Nat} (h:Mi κ (a.toList++b.toList) out.toList (a.toList.drop ia) (b.toList.drop ib)) (hb:ib<b.size) (hl:∀y∈a.toList.drop ia,leK κ b[ib] y):Mi κ (a.toList++b.toList) (out.push b[ib]).toList (a.toList.drop ia) (b.toList.drop (ib+1)):=by
 rw [Od hb] at h
 rw [Array.toList_push]
 exact h.b fun x hx y hy=>by rw [List.mem_singleton.mp hx];exact hl y hy
theorem rj {a b out:Array Keyed} {ia ib:Nat} (h:Mi κ (a.toList++b.toList) out.toList (a.toList.drop ia) (b.toList.drop ib)) (ha:ia<a.size) (hl:∀y∈b.toList.drop ib,leK κ a[ia] y):Mi κ (a.toList++b.toList) (out.push a[ia]).toList (a.toList.drop (ia+1)) (b.toList.drop ib):=by
 rw [Od ha] at h
 rw [Array.toList_push]
 exact h.a fun x hx y hy=>by rw [List.mem_singleton.mp hx];exact hl y hy
theorem li {a b out:Array Keyed} {ia ib mg k1 k2 N:Nat} {u:SortSt} (C:LoC κ a b) (gu:GalS st u) (j:Jl κ a b out ia ib) (hN:N≤out.size) (hl:∀y∈b.toList.drop ib,leK κ (a[ia]'(by have:=j.ia1;omega)) y):wpS (model prog w) A E s (lo3 a b out ia ib mg k1 k2) (Ps2 κ a b st N) u:=by
 have i1:=j.ia1
 unfold lo3
 rw [Y6 (show ia<a.size by omega)]
 refine wpS_bind (wpS_pure ?_)
 have m:=rj j.mi (show ia<a.size by omega) hl
 have sz:=j.sz
 have zz:(out.push (a[ia]'(by omega))).size=out.size+1:=Array.size_push _
 by_cases c:ia+1+1=a.size
 ·rw [if_pos (by rw [beq_iff_eq];exact c)]
  exact wpS_pure ⟨gu,.inl ⟨_,rfl,iV C m c⟩⟩
 ·rw [if_neg (by rw [beq_iff_eq];exact c)]
  have j2:Jl κ a b (out.push (a[ia]'(by omega))) (ia+1) ib:=⟨m,by omega,j.ib1,by rw [zz];omega⟩
  split
  ·exact wpS_pure ⟨gu,.inr ⟨rfl,j2,by show N<(out.push _).size;omega⟩⟩
  ·exact wpS_pure ⟨gu,rfl,j2,by show N<(out.push _).size;omega⟩
theorem mE {a b out:Array Keyed} {ia ib mg k1 k2 N:Nat} {u:SortSt} (hc:aR prog w A s κ kd) (kn:kindOf st=kd) (C:LoC κ a b) (gu:GalS st u) (j:Jl κ a b out ia ib) (hN:N≤out.size) (hl:∀y∈a.toList.drop ia,leK κ (b[ib]'j.ib1) y):wpS (model prog w) A E s (lo2 a b out ia ib mg k1 k2) (Ps2 κ a b st N) u:=by
 have i1:=j.ia1
 have i2:=j.ib1
 unfold lo2
 rw [Y6 i2]
 refine wpS_bind (wpS_pure ?_)
 have m:=on j.mi i2 hl
 have sz:=j.sz
 have zz:(out.push b[ib]).size=out.size+1:=Array.size_push _
 by_cases c:ib+1=b.size
 ·rw [if_pos (by rw [beq_iff_eq];exact c)]
  exact wpS_pure ⟨gu,.inl ⟨_,rfl,e7 m (.inr c)⟩⟩
 rw [if_neg (by rw [beq_iff_eq];exact c),Y6 (show ia<a.size by omega)]
 refine wpS_bind (wpS_pure ?_)
 have kl:ib+1+(b.size - (ib+1))=b.size:=by omega
 refine wpS_bind (Xp hc (gu.kn.trans kn) C.hb (Xi C.ha (show ia<a.size by omega)) (by omega) (by omega) (C.sb.sublist ((List.take_sublist _ _).trans (List.drop_sublist _ _))) fun k hk g1 g2=>?_)
 have lta:∀x,(∃i,i<k∧b[ib+1+i]?=some x)→∀y∈a.toList.drop ia,leK κ x y:=by
  rintro x ⟨i,hi,hx⟩ y hy
  have q:κ.blt (ky κ x) (ky κ a[ia])=true:=g1 i x hi hx
  obtain ⟨n,hn,_⟩:=V0 hy
  refine (leK.of q).trans (C.sa.at (i:=ia) (j:=ia+n) (by omega) ?_ ?_)
  ·rw [Array.getElem?_toList];exact Array.getElem?_eq_getElem _
  ·rw [Array.getElem?_toList];exact hn
 have nlt:∀y∈b.toList.drop (ib+1+k),leK κ a[ia] y:=by
  intro y hy
  obtain ⟨n,hn,hs⟩:=V0 hy
  have q:κ.blt (ky κ y) (ky κ a[ia])=false:=g2 (k+n) y (by omega) (by omega) (by rw [←Nat.add_assoc];exact hn)
  exact q
 dsimp only
 have m2:Mi κ (a.toList++b.toList) (out.push b[ib]++b.extract (ib+1) (ib+1+k)).toList (a.toList.drop ia) (b.toList.drop (ib+1+k)):=by
  rw [Array.toList_append,e8]
  rw [Qc b.toList (ib+1) k] at m
  refine m.b fun x hx y hy=>?_
  obtain ⟨i,hi,ik,_⟩:=Wj hx
  exact lta x ⟨i,ik,hi⟩ y hy
 have z2:(out.push b[ib]++b.extract (ib+1) (ib+1+k)).size=out.size+1+k:=by
  rw [Array.size_append,Array.size_extract,zz]
  omega
 by_cases k0:k > 0
 ·rw [if_pos k0]
  by_cases c2:ib+1+k=b.size
  ·rw [if_pos (by rw [beq_iff_eq];exact c2)]
   exact wpS_pure ⟨gu,.inl ⟨_,rfl,e7 m2 (.inr c2)⟩⟩
  ·rw [if_neg (by rw [beq_iff_eq];exact c2)]
   exact li C gu ⟨m2,i1,by omega,by rw [z2];omega⟩ (by omega) nlt
 ·rw [if_neg k0]
  obtain rfl:k=0:=by omega
  exact li C gu ⟨m,i1,by omega,by rw [zz];omega⟩ (by omega) nlt
theorem mS {a b out:Array Keyed} {ia ib mg k1 k2 N:Nat} {u:SortSt} (hc:aR prog w A s κ kd) (kn:kindOf st=kd) (C:LoC κ a b) (gu:GalS st u) (j:Jl κ a b out ia ib) (hN:N≤out.size):wpS (model prog w) A E s (lo1 a b out ia ib mg k1 k2) (Ps2 κ a b st N) u:=by
 have i1:=j.ia1
 have i2:=j.ib1
 have sz:=j.sz
 have m:=j.mi
 unfold lo1
 rw [Yq]
 refine wpS_bind (wpS_modify ?_)
 have gu:=gu.set mg
 rw [Y6 i2]
 refine wpS_bind (wpS_pure ?_)
 refine wpS_bind (Xp hc (gu.kn.trans kn) C.ha (Xi C.hb i2) (by omega) (by omega) (C.sa.sublist ((List.take_sublist _ _).trans (List.drop_sublist _ _))) fun k hk g1 g2=>?_)
 have lea:∀x,(∃i,i<k∧a[ia+i]?=some x)→∀y∈b.toList.drop ib,leK κ x y:=by
  rintro x ⟨i,hi,hx⟩ y hy
  have q:=g1 i x hi hx
  unfold bey at q
  rw [if_neg Bool.false_ne_true,Bool.not_eq_true'] at q
  have q:leK κ x b[ib]:=q
  obtain ⟨n,hn,_⟩:=V0 hy
  refine q.trans (C.sb.at (i:=ib) (j:=ib+n) (by omega) ?_ ?_)
  ·rw [Array.getElem?_toList];exact Array.getElem?_eq_getElem _
  ·rw [Array.getElem?_toList];exact hn
 have ltb:∀y∈a.toList.drop (ia+k),leK κ b[ib] y:=by
  intro y hy
  obtain ⟨n,hn,hs⟩:=V0 hy
  have q:=g2 (k+n) y (by omega) (by omega) (by rw [←Nat.add_assoc];exact hn)
  unfold bey at q
  rw [if_neg Bool.false_ne_true,Bool.not_eq_false'] at q
  exact leK.of q
 dsimp only
 have m2:Mi κ (a.toList++b.toList) (out++a.extract ia (ia+k)).toList (a.toList.drop (ia+k)) (b.toList.drop ib):=by
  rw [Array.toList_append,e8]
  rw [Qc a.toList ia k] at m
  refine m.a fun x hx y hy=>?_
  obtain ⟨i,hi,ik,_⟩:=Wj hx
  exact lea x ⟨i,ik,hi⟩ y hy
 have z2:(out++a.extract ia (ia+k)).size=out.size+k:=by
  rw [Array.size_append,Array.size_extract]
  omega
 by_cases k0:k > 0
 ·rw [if_pos k0]
  by_cases c2:ia+k+1=a.size
  ·rw [if_pos (by rw [beq_iff_eq];exact c2)]
   exact wpS_pure ⟨gu,.inl ⟨_,rfl,iV C m2 c2⟩⟩
  rw [if_neg (by rw [beq_iff_eq];exact c2)]
  by_cases c3:ia+k=a.size
  ·rw [if_pos (by rw [beq_iff_eq];exact c3)]
   exact wpS_pure ⟨gu,.inl ⟨_,rfl,e7 m2 (.inl c3)⟩⟩
  ·rw [if_neg (by rw [beq_iff_eq];exact c3)]
   exact mE hc kn C gu ⟨m2,by omega,i2,by rw [z2];omega⟩ (by omega) ltb
 ·rw [if_neg k0]
  obtain rfl:k=0:=by omega
  exact mE hc kn C gu j hN ltb
abbrev T1:Type:=Option (Array Keyed)×Array Keyed×Nat×Nat×Nat×Nat
abbrev T0:Type:=Option (Array Keyed)×Array Keyed×Nat×Nat×Nat
theorem fU {a b:Array Keyed} {Q:Array Keyed→SortSt→Prop} (hc:aR prog w A s κ kd) (kn:kindOf st=kd) (C:LoC κ a b) (a1:0<a.size) (b1:0<b.size)
  (h0:∀y∈a.toList,leK κ b[0] y) (fin:∀(m:Array Keyed) (u:SortSt),GalS st u→Mgd κ a b m→Q m u):wpS (model prog w) A E s (dN a b) Q st:=by
 rw [Nf]
 refine wpS_bind (m:=liftM (rule _)) (wpS_lift (wpAny_rule ⟨rfl,?_⟩))
 rw [Y6 b1]
 refine wpS_bind (wpS_pure ?_)
 dsimp only
 have m0:Mi κ (a.toList++b.toList) (#[]:Array Keyed).toList (a.toList.drop 0) (b.toList.drop 0):=⟨List.Perm.refl _,List.Pairwise.nil,C.sa,C.sb,fun _ h=>nomatch h⟩
 have m1:Mi κ (a.toList++b.toList) #[b[0]].toList (a.toList.drop 0) (b.toList.drop 1):=on m0 b1 h0
 by_cases c:1=b.size
 ·rw [if_pos (by rw [beq_iff_eq];exact c)]
  exact wpS_pure (fin _ _ .refl (e7 m1 (.inr c)))
 rw [if_neg (by rw [beq_iff_eq];exact c)]
 by_cases c2:0+1=a.size
 ·rw [if_pos (by rw [beq_iff_eq];exact c2)]
  exact wpS_pure (fin _ _ .refl (iV C m1 c2))
 rw [if_neg (by rw [beq_iff_eq];exact c2)]
 refine wpS_bind (wpS_get ?_)
 have j1:Jl κ a b #[b[0]] 0 1:=⟨m1,by omega,by omega,rfl⟩
 refine wpS_bind (wpS_mono (wpS_forRange (β:=T0) (Q:=fun c u=>GalS st u∧∃r,c.1=some r∧Mgd κ a b r)
  (fun x c u=>GalS st u∧c.1=none∧Jl κ a b c.2.1 c.2.2.1 c.2.2.2.1∧x<c.2.1.size) ?_ ?_ ⟨.refl,rfl,j1,Nat.zero_lt_one⟩) ?_)
 ·rintro x ⟨_,out,ia,ib,mg⟩ u _ hx ⟨gu,rfl,j,hN⟩
  dsimp only
  have hN:x<out.size:=hN
  refine wpS_bind (wpS_mono (wpS_forRange (β:=T1) (Q:=fun c v=>GalS st v∧((∃r,c.1=some r∧Mgd κ a b r)∨(c.1=none∧Jl κ a b c.2.1 c.2.2.1 c.2.2.2.1∧out.size<c.2.1.size)))
   (fun y c v=>GalS st v∧c.1=none∧Jl κ a b c.2.1 c.2.2.1 c.2.2.2.1∧out.size+y≤c.2.1.size) ?_ ?_ ⟨gu,rfl,j,Nat.le_refl _⟩) ?_)
  ·rintro y ⟨_,out2,ia2,ib2,ac,bc⟩ v _ hy ⟨gv,rfl,j2,hM⟩
   dsimp only
   have hM:out.size+y≤out2.size:=hM
   have i1:ia2+1<a.size:=j2.ia1
   have i2:ib2<b.size:=j2.ib1
   have sz:out2.size=ia2+ib2:=j2.sz
   rw [Y6 i2,Y6 (show ia2<a.size by omega)]
   refine wpS_bind (wpS_pure (wpS_bind (wpS_pure (wpS_bind (Qe hc (gv.kn.trans kn) (Xi C.hb i2) (Xi C.ha (show ia2<a.size by omega)) ?_)))))
   dsimp only
   rcases bl:κ.blt (ky κ b[ib2]) (ky κ a[ia2]) with _ | _
   ·rw [if_neg Bool.false_ne_true]
    refine wpS_bind (wpS_pure ?_)
    have m:=rj j2.mi (show ia2<a.size by omega) fun z hz=>by
     obtain ⟨n,hn,_⟩:=V0 hz
     have q:leK κ a[ia2] b[ib2]:=bl
     refine q.trans (C.sb.at (i:=ib2) (j:=ib2+n) (by omega) ?_ ?_)
     ·rw [Array.getElem?_toList];exact Array.getElem?_eq_getElem _
     ·rw [Array.getElem?_toList];exact hn
    have zz:(out2.push (a[ia2]'(by omega))).size=out2.size+1:=Array.size_push _
    by_cases d:ia2+1+1=a.size
    ·rw [if_pos (by rw [beq_iff_eq];exact d)]
     exact wpS_pure ⟨gv,.inl ⟨_,rfl,iV C m d⟩⟩
    ·rw [if_neg (by rw [beq_iff_eq];exact d)]
     have j3:Jl κ a b (out2.push (a[ia2]'(by omega))) (ia2+1) ib2:=⟨m,by omega,i2,by rw [zz];omega⟩
     split
     ·exact wpS_pure ⟨gv,.inr ⟨rfl,j3,by show _<(out2.push _).size;omega⟩⟩
     ·exact wpS_pure ⟨gv,rfl,j3,by show _≤(out2.push _).size;omega⟩
   ·rw [if_pos rfl]
    refine wpS_bind (wpS_pure ?_)
    have m:=on j2.mi i2 fun z hz=>by
     obtain ⟨n,hn,_⟩:=V0 hz
     have q:leK κ b[ib2] a[ia2]:=leK.of bl
     refine q.trans (C.sa.at (i:=ia2) (j:=ia2+n) (by omega) ?_ ?_)
     ·rw [Array.getElem?_toList];exact Array.getElem?_eq_getElem _
     ·rw [Array.getElem?_toList];exact hn
    have zz:(out2.push b[ib2]).size=out2.size+1:=Array.size_push _
    by_cases d:ib2+1=b.size
    ·rw [if_pos (by rw [beq_iff_eq];exact d)]
     exact wpS_pure ⟨gv,.inl ⟨_,rfl,e7 m (.inr d)⟩⟩
    ·rw [if_neg (by rw [beq_iff_eq];exact d)]
     have j3:Jl κ a b (out2.push b[ib2]) ia2 (ib2+1):=⟨m,i1,by omega,by rw [zz];omega⟩
     split
     ·exact wpS_pure ⟨gv,.inr ⟨rfl,j3,by show _<(out2.push _).size;omega⟩⟩
     ·exact wpS_pure ⟨gv,rfl,j3,by show _≤(out2.push _).size;omega⟩
  ·rintro ⟨_,out2,ia2,ib2,ac,bc⟩ v ⟨gv,rfl,j2,hM⟩
   have hM:out.size+max 0 (a.size+b.size)≤out2.size:=hM
   have i1:ia2+1<a.size:=j2.ia1
   have i2:ib2<b.size:=j2.ib1
   have sz:out2.size=ia2+ib2:=j2.sz
   omega
  ·rintro ⟨r,out2,ia2,ib2,ac,bc⟩ v ⟨gv,h⟩
   rcases h with ⟨m,e,gm⟩ | ⟨e,j2,hM⟩
   ·have e:r=some m:=e
    subst e
    exact wpS_pure ⟨gv,m,rfl,gm⟩
   have e:r=none:=e
   subst e
   have hM:out.size<out2.size:=hM
   refine wpS_bind (m:=liftM (rule _)) (wpS_lift (wpAny_rule ⟨rfl,?_⟩))
   refine wpS_bind (wpS_mono (wpS_forRange (β:=T2) (Q:=fun c v=>GalS st v∧Rs κ a b out.size c)
    (fun y c v=>GalS st v∧c.1=none∧Jl κ a b c.2.1 c.2.2.1 c.2.2.2.1∧out.size+y<c.2.1.size) ?_ ?_ ⟨gv,rfl,j2,hM⟩) ?_)
   ·rintro y ⟨_,out3,ia3,ib3,mg3,k1,k2⟩ v3 _ hy ⟨g3,rfl,j3,h3⟩
    have h3:out.size+y<out3.size:=h3
    have upD:∀{c:T2} {v:SortSt},Ps2 κ a b st (out.size+(y+1)) (.done c) v→GalS st v∧Rs κ a b out.size c:=by
     rintro c v ⟨g,h⟩
     refine ⟨g,?_⟩
     rcases h with h | ⟨h1,h2,h3⟩
     ·exact .inl h
     ·exact .inr ⟨h1,h2,by omega⟩
    show wpS (model prog w) A E s (if mg3 > 1 then lo1 a b out3 ia3 ib3 (mg3 - 1) k1 k2 else lo1 a b out3 ia3 ib3 mg3 k1 k2) _ v3
    split
    ·refine wpS_mono (mS (N:=out.size+(y+1)) hc kn C g3 j3 (by omega)) fun r v h=>?_
     cases r with
     | done c=>exact upD h
     | yield c=>exact h
    ·refine wpS_mono (mS (N:=out.size+(y+1)) hc kn C g3 j3 (by omega)) fun r v h=>?_
     cases r with
     | done c=>exact upD h
     | yield c=>exact h
   ·rintro ⟨_,out3,ia3,ib3,mg3,k1,k2⟩ v3 ⟨g3,rfl,j3,h3⟩
    have h3:out.size+max 0 (a.size+b.size)<out3.size:=h3
    have i1:ia3+1<a.size:=j3.ia1
    have i2:ib3<b.size:=j3.ib1
    have sz:out3.size=ia3+ib3:=j3.sz
    omega
   ·rintro ⟨r,out3,ia3,ib3,mg3,k1,k2⟩ v3 ⟨g3,h⟩
    rcases h with ⟨m,e,gm⟩ | ⟨e,j3,h3⟩
    ·have e:r=some m:=e
     subst e
     exact wpS_pure ⟨g3,m,rfl,gm⟩
    ·have e:r=none:=e
     subst e
     have h3:out.size<out3.size:=h3
     dsimp only
     rw [Yq]
     exact wpS_bind (wpS_modify (wpS_pure ⟨g3.set _,rfl,j3,by show x+1<out3.size;omega⟩))
 ·rintro ⟨_,out2,ia2,ib2,mg⟩ v ⟨gv,rfl,j2,hM⟩
  have hM:max 0 (a.size+b.size)<out2.size:=hM
  have i1:ia2+1<a.size:=j2.ia1
  have i2:ib2<b.size:=j2.ib1
  have sz:out2.size=ia2+ib2:=j2.sz
  omega
 ·rintro ⟨r,out2,ia2,ib2,mg⟩ v ⟨gv,m,e,gm⟩
  have e:r=some m:=e
  subst e
  exact wpS_pure (fin m v gv gm)
end
end L2T
namespace L2T
open PySem PySem.Spec PyProof.Rows L2
def dQ:Array Keyed→Array Keyed→StateT SortSt Sem (Array Keyed):=sortPriv% PySem.Builtin.mergeHi
theorem Ng (a b:Array Keyed):dQ a b=(do
 rule "list.sort.merge-hi"
 let total:=a.size+b.size
 let done (out:Array Keyed) (na nb:Nat):=a.extract 0 na++b.extract 0 nb++out.reverse
 let firstOfB (out:Array Keyed) (na nb:Nat):=b.extract 0 nb++a.extract 0 na++out.reverse
 let mut na:=a.size - 1
 let mut nb:=b.size
 let mut out:Array Keyed:=#[←elem' a na]
 if na == 0 then return done out na nb
 if nb == 1 then return firstOfB out na nb
 let mut minGallop:=gallopOf (←get)
 for _ in [0:total] do
  let mut acount:=0
  let mut bcount:=0
  for _ in [0:total] do
   let some aWins ←lt' (←elem' b (nb - 1)) (←elem' a (na - 1)) | return done out na nb
   if aWins then
    na:=na - 1;out:=out.push (←elem' a na);acount:=acount+1;bcount:=0
    if na == 0 then return done out na nb
    if acount ≥ minGallop then break
   else
    nb:=nb - 1;out:=out.push (←elem' b nb);bcount:=bcount+1;acount:=0
    if nb == 1 then return firstOfB out na nb
    if bcount ≥ minGallop then break
  rule "list.sort.gallop"
  minGallop:=minGallop+1
  for _ in [0:total] do
   if minGallop > 1 then minGallop:=minGallop - 1
   aE minGallop
   let some at_ ←bi false (←elem' b (nb - 1)) a 0 na (na - 1) | return done out na nb
   let k:=na - at_
   acount:=k
   if k > 0 then
    out:=out++(a.extract at_ na).reverse;na:=at_
    if na == 0 then return done out na nb
   nb:=nb - 1;out:=out.push (←elem' b nb)
   if nb == 1 then return firstOfB out na nb
   let some at_ ←bi true (←elem' a (na - 1)) b 0 nb (nb - 1) | return done out na nb
   let k:=nb - at_
   bcount:=k
   if k > 0 then
    out:=out++(b.extract at_ nb).reverse;nb:=at_
    if nb == 1 then return firstOfB out na nb
    if nb == 0 then return done out na nb
   na:=na - 1;out:=out.push (←elem' a na)
   if na == 0 then return done out na nb
   if acount<7 && bcount<7 then break
  minGallop:=minGallop+1
  aE minGallop
 unsupported "internal:list.sort.merge-bound"):=rfl
section
variable {prog:Program} {w:World} {A:Around} {E:Value→Shared→Prop} {s:Shared} {κ:KeyKind} {kd:SortKind} {st:SortSt}
theorem Pm {xs:Array Keyed} {i:Nat} (h:i<xs.size):xs.toList.take (i+1)=xs.toList.take i++[xs[i]]:=by
 rw [List.take_add_one,Array.getElem?_toList,Array.getElem?_eq_getElem h]
 rfl
theorem Tb (xs:Array Keyed) (n:Nat):(xs.extract 0 n).toList=xs.toList.take n:=by
 rw [Array.toList_extract,List.extract_eq_take_drop]
 rfl
theorem Nd (xs:Array Keyed) (i n:Nat):(xs.extract i n).toList=(xs.toList.take n).drop i:=by
 rw [Array.toList_extract,List.extract_eq_take_drop,List.drop_take]
theorem R5 {l:List Keyed} {i n:Nat} (h:i≤n):l.take n=l.take i++(l.take n).drop i:=by
 have e:=List.take_append_drop i (l.take n)
 rw [List.take_take,Nat.min_eq_left h] at e
 exact e.symm
theorem U1 {xs:Array Keyed} {n:Nat} {y:Keyed} (h:y∈xs.toList.take n):∃j,xs[j]?=some y∧j<n∧j<xs.size:=by
 obtain ⟨j,hj⟩:=List.mem_iff_getElem?.mp h
 rw [List.getElem?_take] at hj
 split at hj
 ·next c=>
  rw [Array.getElem?_toList] at hj
  exact ⟨j,hj,c,(Array.getElem?_eq_some_iff.mp hj).1⟩
 ·cases hj
theorem jg {xs:Array Keyed} {i n:Nat} {y:Keyed} (h:y∈(xs.toList.take n).drop i):∃j,xs[j]?=some y∧i≤j∧j<n∧j<xs.size:=by
 obtain ⟨j,hj⟩:=List.mem_iff_getElem?.mp h
 rw [List.getElem?_drop,List.getElem?_take] at hj
 split at hj
 ·next c=>
  rw [Array.getElem?_toList] at hj
  exact ⟨i+j,hj,by omega,c,(Array.getElem?_eq_some_iff.mp hj).1⟩
 ·cases hj
abbrev dnH (a b out:Array Keyed) (na nb:Nat):Array Keyed:=a.extract 0 na++b.extract 0 nb++out.reverse
abbrev fbH (a b out:Array Keyed) (na nb:Nat):Array Keyed:=b.extract 0 nb++a.extract 0 na++out.reverse
abbrev H2:Type:=Option (Array Keyed)×Nat×Nat×Array Keyed×Nat×Nat×Nat
abbrev H1:Type:=Option (Array Keyed)×Nat×Nat×Array Keyed×Nat×Nat
abbrev H0:Type:=Option (Array Keyed)×Nat×Nat×Array Keyed×Nat
def hi3 (a b out:Array Keyed) (na nb mg k1 k2:Nat):StateT SortSt Sem (ForInStep H2):=do
 let x ←elem' a (na - 1)
 if (na - 1 == 0)=true then pure (.done (some (dnH a b (out.push x) (na - 1) nb),na - 1,nb,out.push x,mg,k1,k2))
 else if (decide (k1<7) && decide (k2<7))=true then pure (.done (none,na - 1,nb,out.push x,mg,k1,k2))
 else pure (.yield (none,na - 1,nb,out.push x,mg,k1,k2))
def hi2 (a b out:Array Keyed) (na nb mg k1 k20:Nat):StateT SortSt Sem (ForInStep H2):=do
 let x ←elem' b (nb - 1)
 if (nb - 1 == 1)=true then pure (.done (some (fbH a b (out.push x) na (nb - 1)),na,nb - 1,out.push x,mg,k1,k20))
 else do
  let y ←elem' a (na - 1)
  let r ←bi true y b 0 (nb - 1) (nb - 1 - 1)
  match r with
  | some k=>
   if nb - 1 - k > 0 then
    if (k == 1)=true then pure (.done (some (fbH a b (out.push x++(b.extract k (nb - 1)).reverse) na k),na,k,out.push x++(b.extract k (nb - 1)).reverse,mg,k1,nb - 1 - k))
    else if (k == 0)=true then pure (.done (some (dnH a b (out.push x++(b.extract k (nb - 1)).reverse) na k),na,k,out.push x++(b.extract k (nb - 1)).reverse,mg,k1,nb - 1 - k))
    else hi3 a b (out.push x++(b.extract k (nb - 1)).reverse) na k mg k1 (nb - 1 - k)
   else hi3 a b (out.push x) na (nb - 1) mg k1 (nb - 1 - k)
  | _=>pure (.done (some (dnH a b (out.push x) na (nb - 1)),na,nb - 1,out.push x,mg,k1,k20))
def hi1 (a b out:Array Keyed) (na nb mg k10 k20:Nat):StateT SortSt Sem (ForInStep H2):=do
 aE mg
 let x ←elem' b (nb - 1)
 let r ←bi false x a 0 na (na - 1)
 match r with
 | some k=>
  if na - k > 0 then
   if (k == 0)=true then pure (.done (some (dnH a b (out++(a.extract k na).reverse) k nb),k,nb,out++(a.extract k na).reverse,mg,na - k,k20))
   else hi2 a b (out++(a.extract k na).reverse) k nb mg (na - k) k20
  else hi2 a b out na nb mg (na - k) k20
 | _=>pure (.done (some (dnH a b out na nb),na,nb,out,mg,k10,k20))
structure HiC (κ:KeyKind) (a b:Array Keyed):Prop where
 ha:KeysOf κ a
 hb:KeysOf κ b
 sa:Srt κ a.toList
 sb:Srt κ b.toList
 h0:∀x∈b.toList.take 1,∀y∈a.toList,leK κ x y
structure Jh (κ:KeyKind) (a b out:Array Keyed) (na nb:Nat):Prop where
 mi:Mh κ (a.toList++b.toList) out.toList.reverse (a.toList.take na) (b.toList.take nb)
 na1:0<na
 na2:na<a.size
 nb1:1<nb
 nb2:nb≤b.size
 sz:out.size+na+nb=a.size+b.size
def RsH (κ:KeyKind) (a b:Array Keyed) (N:Nat) (c:H2):Prop:=(∃r,c.1=some r∧Mgd κ a b r)∨(c.1=none∧Jh κ a b c.2.2.2.1 c.2.1 c.2.2.1∧N<c.2.2.2.1.size)
def PsH (κ:KeyKind) (a b:Array Keyed) (st:SortSt) (N:Nat):ForInStep H2→SortSt→Prop:=fun r u=>GalS st u∧match r with
 | .done c=>RsH κ a b N c
 | .yield c=>c.1=none∧Jh κ a b c.2.2.2.1 c.2.1 c.2.2.1∧N<c.2.2.2.1.size
theorem Q6 {a b out:Array Keyed} {na nb:Nat} (h:Mh κ (a.toList++b.toList) out.toList.reverse (a.toList.take na) (b.toList.take nb)) (e:na=0∨nb=0):Mgd κ a b (dnH a b out na nb):=by
 have q:=h.fin fun x hx y hy=>by
  rcases e with rfl | rfl
  ·rw [List.take_zero] at hx
   cases hx
  ·rw [List.take_zero] at hy
   cases hy
 unfold Mgd dnH
 rw [Array.toList_append,Array.toList_append,Tb,Tb,Array.toList_reverse]
 exact q
theorem Oa {a b out:Array Keyed} {na nb:Nat} (C:HiC κ a b) (h:Mh κ (a.toList++b.toList) out.toList.reverse (a.toList.take na) (b.toList.take nb)) (e:nb=1):Mgd κ a b (fbH a b out na nb):=by
 subst e
 have q:=h.sw.fin fun x hx y hy=>C.h0 x hx y (List.mem_of_mem_take hy)
 unfold Mgd fbH
 rw [Array.toList_append,Array.toList_append,Tb,Tb,Array.toList_reverse]
 exact q
theorem rE {a b out:Array Keyed} {na nb:Nat} (h:Mh κ (a.toList++b.toList) out.toList.reverse (a.toList.take na) (b.toList.take nb)) (h0:0<nb) (hb:nb≤b.size) (hl:∀y∈a.toList.take na,leK κ y (b[nb - 1]'(by omega))):Mh κ (a.toList++b.toList) (out.push (b[nb - 1]'(by omega))).toList.reverse (a.toList.take na) (b.toList.take (nb - 1)):=by
 have e:=Pm (xs:=b) (i:=nb - 1) (by omega)
 rw [show nb - 1+1=nb by omega] at e
 rw [e] at h
 rw [Array.toList_push,List.reverse_append]
 exact h.b fun x hx y hy=>by rw [List.mem_singleton.mp hx];exact hl y hy
theorem k_ {a b out:Array Keyed} {na nb:Nat} (h:Mh κ (a.toList++b.toList) out.toList.reverse (a.toList.take na) (b.toList.take nb)) (h0:0<na) (ha:na≤a.size) (hl:∀y∈b.toList.take nb,leK κ y (a[na - 1]'(by omega))):Mh κ (a.toList++b.toList) (out.push (a[na - 1]'(by omega))).toList.reverse (a.toList.take (na - 1)) (b.toList.take nb):=by
 have e:=Pm (xs:=a) (i:=na - 1) (by omega)
 rw [show na - 1+1=na by omega] at e
 rw [e] at h
 rw [Array.toList_push,List.reverse_append]
 exact h.a fun x hx y hy=>by rw [List.mem_singleton.mp hx];exact hl y hy
theorem oh {a b out:Array Keyed} {na nb mg k1 k2 N:Nat} {u:SortSt} (C:HiC κ a b) (gu:GalS st u) (j:Jh κ a b out na nb) (hN:N≤out.size) (hl:∀y∈b.toList.take nb,leK κ y (a[na - 1]'(by have:=j.na1;have:=j.na2;omega))):wpS (model prog w) A E s (hi3 a b out na nb mg k1 k2) (PsH κ a b st N) u:=by
 have i1:=j.na1
 have i2:=j.na2
 unfold hi3
 rw [Y6 (show na - 1<a.size by omega)]
 refine wpS_bind (wpS_pure ?_)
 have m:=k_ j.mi i1 (by omega) hl
 have sz:=j.sz
 have zz:(out.push (a[na - 1]'(by omega))).size=out.size+1:=Array.size_push _
 by_cases c:na - 1=0
 ·rw [if_pos (by rw [beq_iff_eq];exact c)]
  exact wpS_pure ⟨gu,.inl ⟨_,rfl,Q6 m (.inl c)⟩⟩
 ·rw [if_neg (by rw [beq_iff_eq];exact c)]
  have j2:Jh κ a b (out.push (a[na - 1]'(by omega))) (na - 1) nb:=⟨m,by omega,by omega,j.nb1,j.nb2,by rw [zz];omega⟩
  split
  ·exact wpS_pure ⟨gu,.inr ⟨rfl,j2,by show N<(out.push _).size;omega⟩⟩
  ·exact wpS_pure ⟨gu,rfl,j2,by show N<(out.push _).size;omega⟩
theorem mI {a b out:Array Keyed} {na nb mg k1 k2 N:Nat} {u:SortSt} (hc:aR prog w A s κ kd) (kn:kindOf st=kd) (C:HiC κ a b) (gu:GalS st u) (j:Jh κ a b out na nb) (hN:N≤out.size) (hl:∀y∈a.toList.take na,leK κ y (b[nb - 1]'(by have:=j.nb1;have:=j.nb2;omega))):wpS (model prog w) A E s (hi2 a b out na nb mg k1 k2) (PsH κ a b st N) u:=by
 have i1:=j.na1
 have i2:=j.na2
 have i3:=j.nb1
 have i4:=j.nb2
 unfold hi2
 rw [Y6 (show nb - 1<b.size by omega)]
 refine wpS_bind (wpS_pure ?_)
 have m:=rE j.mi (by omega) i4 hl
 have sz:=j.sz
 have zz:(out.push (b[nb - 1]'(by omega))).size=out.size+1:=Array.size_push _
 by_cases c:nb - 1=1
 ·rw [if_pos (by rw [beq_iff_eq];exact c)]
  exact wpS_pure ⟨gu,.inl ⟨_,rfl,Oa C m c⟩⟩
 rw [if_neg (by rw [beq_iff_eq];exact c),Y6 (show na - 1<a.size by omega)]
 refine wpS_bind (wpS_pure ?_)
 refine wpS_bind (Xp hc (gu.kn.trans kn) C.hb (Xi C.ha (show na - 1<a.size by omega)) (by omega) (by omega) (C.sb.sublist ((List.take_sublist _ _).trans (List.drop_sublist _ _))) fun k hk g1 g2=>?_)
 have gea:∀x∈(b.toList.take (nb - 1)).drop k,∀y∈a.toList.take na,leK κ y x:=by
  intro x hx y hy
  obtain ⟨i,hi,ki,ib,_⟩:=jg hx
  have q:κ.blt (ky κ x) (ky κ a[na - 1])=false:=g2 i x ki ib (by rw [Nat.zero_add];exact hi)
  obtain ⟨n,hn,nn,_⟩:=U1 hy
  have q2:leK κ a[na - 1] x:=q
  refine leK.trans (C.sa.at (i:=n) (j:=na - 1) (by omega) ?_ ?_) q2
  ·rw [Array.getElem?_toList];exact hn
  ·rw [Array.getElem?_toList];exact Array.getElem?_eq_getElem _
 have lta:∀y∈b.toList.take k,leK κ y a[na - 1]:=by
  intro y hy
  obtain ⟨n,hn,nn,_⟩:=U1 hy
  have q:κ.blt (ky κ y) (ky κ a[na - 1])=true:=g1 n y nn (by rw [Nat.zero_add];exact hn)
  exact leK.of q
 dsimp only
 have m2:Mh κ (a.toList++b.toList) (out.push (b[nb - 1]'(by omega))++(b.extract k (nb - 1)).reverse).toList.reverse (a.toList.take na) (b.toList.take k):=by
  rw [Array.toList_append,List.reverse_append,Array.toList_reverse,List.reverse_reverse,Nd]
  rw [R5 (l:=b.toList) hk] at m
  exact m.b gea
 have z2:(out.push (b[nb - 1]'(by omega))++(b.extract k (nb - 1)).reverse).size=out.size+1+(nb - 1 - k):=by
  rw [Array.size_append,Array.size_reverse,Array.size_extract,zz]
  omega
 by_cases k0:nb - 1 - k > 0
 ·rw [if_pos k0]
  by_cases c2:k=1
  ·rw [if_pos (by rw [beq_iff_eq];exact c2)]
   exact wpS_pure ⟨gu,.inl ⟨_,rfl,Oa C m2 c2⟩⟩
  rw [if_neg (by rw [beq_iff_eq];exact c2)]
  by_cases c3:k=0
  ·rw [if_pos (by rw [beq_iff_eq];exact c3)]
   exact wpS_pure ⟨gu,.inl ⟨_,rfl,Q6 m2 (.inr c3)⟩⟩
  ·rw [if_neg (by rw [beq_iff_eq];exact c3)]
   exact oh C gu ⟨m2,i1,i2,by omega,by omega,by rw [z2];omega⟩ (by omega) lta
 ·rw [if_neg k0]
  obtain rfl:k=nb - 1:=by omega
  exact oh C gu ⟨m,i1,i2,by omega,by omega,by rw [zz];omega⟩ (by omega) lta
theorem mT {a b out:Array Keyed} {na nb mg k1 k2 N:Nat} {u:SortSt} (hc:aR prog w A s κ kd) (kn:kindOf st=kd) (C:HiC κ a b) (gu:GalS st u) (j:Jh κ a b out na nb) (hN:N≤out.size):wpS (model prog w) A E s (hi1 a b out na nb mg k1 k2) (PsH κ a b st N) u:=by
 have i1:=j.na1
 have i2:=j.na2
 have i3:=j.nb1
 have i4:=j.nb2
 have sz:=j.sz
 have m:=j.mi
 unfold hi1
 rw [Yq]
 refine wpS_bind (wpS_modify ?_)
 have gu:=gu.set mg
 rw [Y6 (show nb - 1<b.size by omega)]
 refine wpS_bind (wpS_pure ?_)
 refine wpS_bind (Xp hc (gu.kn.trans kn) C.ha (Xi C.hb (show nb - 1<b.size by omega)) (by omega) (by omega) (C.sa.sublist ((List.take_sublist _ _).trans (List.drop_sublist _ _))) fun k hk g1 g2=>?_)
 have gtb:∀x∈(a.toList.take na).drop k,∀y∈b.toList.take nb,leK κ y x:=by
  intro x hx y hy
  obtain ⟨i,hi,ki,ib,_⟩:=jg hx
  have q:=g2 i x ki ib (by rw [Nat.zero_add];exact hi)
  unfold bey at q
  rw [if_neg Bool.false_ne_true,Bool.not_eq_false'] at q
  obtain ⟨n,hn,nn,_⟩:=U1 hy
  refine leK.trans (C.sb.at (i:=n) (j:=nb - 1) (by omega) ?_ ?_) (leK.of q)
  ·rw [Array.getElem?_toList];exact hn
  ·rw [Array.getElem?_toList];exact Array.getElem?_eq_getElem _
 have leb:∀y∈a.toList.take k,leK κ y b[nb - 1]:=by
  intro y hy
  obtain ⟨n,hn,nn,_⟩:=U1 hy
  have q:=g1 n y nn (by rw [Nat.zero_add];exact hn)
  unfold bey at q
  rw [if_neg Bool.false_ne_true,Bool.not_eq_true'] at q
  exact q
 dsimp only
 have m2:Mh κ (a.toList++b.toList) (out++(a.extract k na).reverse).toList.reverse (a.toList.take k) (b.toList.take nb):=by
  rw [Array.toList_append,List.reverse_append,Array.toList_reverse,List.reverse_reverse,Nd]
  rw [R5 (l:=a.toList) hk] at m
  exact m.a gtb
 have z2:(out++(a.extract k na).reverse).size=out.size+(na - k):=by
  rw [Array.size_append,Array.size_reverse,Array.size_extract]
  omega
 by_cases k0:na - k > 0
 ·rw [if_pos k0]
  by_cases c2:k=0
  ·rw [if_pos (by rw [beq_iff_eq];exact c2)]
   exact wpS_pure ⟨gu,.inl ⟨_,rfl,Q6 m2 (.inl c2)⟩⟩
  ·rw [if_neg (by rw [beq_iff_eq];exact c2)]
   exact mI hc kn C gu ⟨m2,by omega,by omega,i3,i4,by rw [z2];omega⟩ (by omega) leb
 ·rw [if_neg k0]
  obtain rfl:k=na:=by omega
  exact mI hc kn C gu j hN leb
theorem fq {a b:Array Keyed} {Q:Array Keyed→SortSt→Prop} (hc:aR prog w A s κ kd) (kn:kindOf st=kd) (C:HiC κ a b) (a1:0<a.size) (b1:0<b.size)
  (h1:∀y∈b.toList,leK κ y (a[a.size - 1]'(by omega))) (fin:∀(m:Array Keyed) (u:SortSt),GalS st u→Mgd κ a b m→Q m u):wpS (model prog w) A E s (dQ a b) Q st:=by
 rw [Ng]
 refine wpS_bind (m:=liftM (rule _)) (wpS_lift (wpAny_rule ⟨rfl,?_⟩))
 dsimp only
 rw [Y6 (show a.size - 1<a.size by omega)]
 refine wpS_bind (wpS_pure ?_)
 have m0:Mh κ (a.toList++b.toList) (#[]:Array Keyed).toList.reverse (a.toList.take a.size) (b.toList.take b.size):=by
  rw [List.take_of_length_le (by rw [Array.length_toList];exact Nat.le_refl _),List.take_of_length_le (by rw [Array.length_toList];exact Nat.le_refl _)]
  exact ⟨by rw [List.reverse_nil,List.append_nil],List.Pairwise.nil,C.sa,C.sb,fun _ _ _ h=>nomatch h⟩
 have m1:Mh κ (a.toList++b.toList) #[a[a.size - 1]].toList.reverse (a.toList.take (a.size - 1)) (b.toList.take b.size):=k_ m0 a1 (Nat.le_refl _) fun y hy=>h1 y (List.mem_of_mem_take hy)
 by_cases c:a.size - 1=0
 ·rw [if_pos (by rw [beq_iff_eq];exact c)]
  exact wpS_pure (fin _ _ .refl (Q6 m1 (.inl c)))
 rw [if_neg (by rw [beq_iff_eq];exact c)]
 by_cases c2:b.size=1
 ·rw [if_pos (by rw [beq_iff_eq];exact c2)]
  exact wpS_pure (fin _ _ .refl (Oa C m1 c2))
 rw [if_neg (by rw [beq_iff_eq];exact c2)]
 refine wpS_bind (wpS_get ?_)
 have j1:Jh κ a b #[a[a.size - 1]] (a.size - 1) b.size:=⟨m1,by omega,by omega,by omega,by omega,by show 1+(a.size - 1)+b.size=_;omega⟩
 refine wpS_bind (wpS_mono (wpS_forRange (β:=H0) (Q:=fun c u=>GalS st u∧∃r,c.1=some r∧Mgd κ a b r)
  (fun x c u=>GalS st u∧c.1=none∧Jh κ a b c.2.2.2.1 c.2.1 c.2.2.1∧x<c.2.2.2.1.size) ?_ ?_ ⟨.refl,rfl,j1,Nat.zero_lt_one⟩) ?_)
 ·rintro x ⟨_,na,nb,out,mg⟩ u _ hx ⟨gu,rfl,j,hN⟩
  dsimp only
  have hN:x<out.size:=hN
  refine wpS_bind (wpS_mono (wpS_forRange (β:=H1) (Q:=fun c v=>GalS st v∧((∃r,c.1=some r∧Mgd κ a b r)∨(c.1=none∧Jh κ a b c.2.2.2.1 c.2.1 c.2.2.1∧out.size<c.2.2.2.1.size)))
   (fun y c v=>GalS st v∧c.1=none∧Jh κ a b c.2.2.2.1 c.2.1 c.2.2.1∧out.size+y≤c.2.2.2.1.size) ?_ ?_ ⟨gu,rfl,j,Nat.le_refl _⟩) ?_)
  ·rintro y ⟨_,na2,nb2,out2,ac,bc⟩ v _ hy ⟨gv,rfl,j2,hM⟩
   dsimp only
   have hM:out.size+y≤out2.size:=hM
   have i1:0<na2:=j2.na1
   have i2:na2<a.size:=j2.na2
   have i3:1<nb2:=j2.nb1
   have i4:nb2≤b.size:=j2.nb2
   have sz:out2.size+na2+nb2=a.size+b.size:=j2.sz
   have mi2:Mh κ (a.toList++b.toList) out2.toList.reverse (a.toList.take na2) (b.toList.take nb2):=j2.mi
   rw [Y6 (show nb2 - 1<b.size by omega),Y6 (show na2 - 1<a.size by omega)]
   refine wpS_bind (wpS_pure (wpS_bind (wpS_pure (wpS_bind (Qe hc (gv.kn.trans kn) (Xi C.hb (show nb2 - 1<b.size by omega)) (Xi C.ha (show na2 - 1<a.size by omega)) ?_)))))
   dsimp only
   rcases bl:κ.blt (ky κ b[nb2 - 1]) (ky κ a[na2 - 1]) with _ | _
   ·rw [if_neg Bool.false_ne_true]
    refine wpS_bind (wpS_pure ?_)
    have m:=rE mi2 (by omega) i4 fun z hz=>by
     obtain ⟨n,hn,nn,_⟩:=U1 hz
     have q:leK κ a[na2 - 1] b[nb2 - 1]:=bl
     refine leK.trans (C.sa.at (i:=n) (j:=na2 - 1) (by omega) ?_ ?_) q
     ·rw [Array.getElem?_toList];exact hn
     ·rw [Array.getElem?_toList];exact Array.getElem?_eq_getElem _
    have zz:(out2.push (b[nb2 - 1]'(by omega))).size=out2.size+1:=Array.size_push _
    by_cases d:nb2 - 1=1
    ·rw [if_pos (by rw [beq_iff_eq];exact d)]
     exact wpS_pure ⟨gv,.inl ⟨_,rfl,Oa C m d⟩⟩
    ·rw [if_neg (by rw [beq_iff_eq];exact d)]
     have j3:Jh κ a b (out2.push (b[nb2 - 1]'(by omega))) na2 (nb2 - 1):=⟨m,i1,i2,by omega,by omega,by rw [zz];omega⟩
     split
     ·exact wpS_pure ⟨gv,.inr ⟨rfl,j3,by show _<(out2.push _).size;omega⟩⟩
     ·exact wpS_pure ⟨gv,rfl,j3,by show _≤(out2.push _).size;omega⟩
   ·rw [if_pos rfl]
    refine wpS_bind (wpS_pure ?_)
    have m:=k_ mi2 i1 (by omega) fun z hz=>by
     obtain ⟨n,hn,nn,_⟩:=U1 hz
     have q:leK κ b[nb2 - 1] a[na2 - 1]:=leK.of bl
     refine leK.trans (C.sb.at (i:=n) (j:=nb2 - 1) (by omega) ?_ ?_) q
     ·rw [Array.getElem?_toList];exact hn
     ·rw [Array.getElem?_toList];exact Array.getElem?_eq_getElem _
    have zz:(out2.push (a[na2 - 1]'(by omega))).size=out2.size+1:=Array.size_push _
    by_cases d:na2 - 1=0
    ·rw [if_pos (by rw [beq_iff_eq];exact d)]
     exact wpS_pure ⟨gv,.inl ⟨_,rfl,Q6 m (.inl d)⟩⟩
    ·rw [if_neg (by rw [beq_iff_eq];exact d)]
     have j3:Jh κ a b (out2.push (a[na2 - 1]'(by omega))) (na2 - 1) nb2:=⟨m,by omega,by omega,i3,i4,by rw [zz];omega⟩
     split
     ·exact wpS_pure ⟨gv,.inr ⟨rfl,j3,by show _<(out2.push _).size;omega⟩⟩
     ·exact wpS_pure ⟨gv,rfl,j3,by show _≤(out2.push _).size;omega⟩
  ·rintro ⟨_,na2,nb2,out2,ac,bc⟩ v ⟨gv,rfl,j2,hM⟩
   have hM:out.size+max 0 (a.size+b.size)≤out2.size:=hM
   have i1:0<na2:=j2.na1
   have sz:out2.size+na2+nb2=a.size+b.size:=j2.sz
   omega
  ·rintro ⟨r,na2,nb2,out2,ac,bc⟩ v ⟨gv,h⟩
   rcases h with ⟨m,e,gm⟩ | ⟨e,j2,hM⟩
   ·have e:r=some m:=e
    subst e
    exact wpS_pure ⟨gv,m,rfl,gm⟩
   have e:r=none:=e
   subst e
   have hM:out.size<out2.size:=hM
   refine wpS_bind (m:=liftM (rule _)) (wpS_lift (wpAny_rule ⟨rfl,?_⟩))
   refine wpS_bind (wpS_mono (wpS_forRange (β:=H2) (Q:=fun c v=>GalS st v∧RsH κ a b out.size c)
    (fun y c v=>GalS st v∧c.1=none∧Jh κ a b c.2.2.2.1 c.2.1 c.2.2.1∧out.size+y<c.2.2.2.1.size) ?_ ?_ ⟨gv,rfl,j2,hM⟩) ?_)
   ·rintro y ⟨_,na3,nb3,out3,mg3,k1,k2⟩ v3 _ hy ⟨g3,rfl,j3,h3⟩
    have h3:out.size+y<out3.size:=h3
    have upD:∀{c:H2} {v:SortSt},PsH κ a b st (out.size+(y+1)) (.done c) v→GalS st v∧RsH κ a b out.size c:=by
     rintro c v ⟨g,h⟩
     refine ⟨g,?_⟩
     rcases h with h | ⟨h1,h2,h3⟩
     ·exact .inl h
     ·exact .inr ⟨h1,h2,by omega⟩
    show wpS (model prog w) A E s (if mg3 > 1 then hi1 a b out3 na3 nb3 (mg3 - 1) k1 k2 else hi1 a b out3 na3 nb3 mg3 k1 k2) _ v3
    split
    ·refine wpS_mono (mT (N:=out.size+(y+1)) hc kn C g3 j3 (by omega)) fun r v h=>?_
     cases r with
     | done c=>exact upD h
     | yield c=>exact h
    ·refine wpS_mono (mT (N:=out.size+(y+1)) hc kn C g3 j3 (by omega)) fun r v h=>?_
     cases r with
     | done c=>exact upD h
     | yield c=>exact h
   ·rintro ⟨_,na3,nb3,out3,mg3,k1,k2⟩ v3 ⟨g3,rfl,j3,h3⟩
    have h3:out.size+max 0 (a.size+b.size)<out3.size:=h3
    have sz:out3.size+na3+nb3=a.size+b.size:=j3.sz
    omega
   ·rintro ⟨r,na3,nb3,out3,mg3,k1,k2⟩ v3 ⟨g3,h⟩
    rcases h with ⟨m,e,gm⟩ | ⟨e,j3,h3⟩
    ·have e:r=some m:=e
     subst e
     exact wpS_pure ⟨g3,m,rfl,gm⟩
    ·have e:r=none:=e
     subst e
     have h3:out.size<out3.size:=h3
     dsimp only
     rw [Yq]
     exact wpS_bind (wpS_modify (wpS_pure ⟨g3.set _,rfl,j3,by show x+1<out3.size;omega⟩))
 ·rintro ⟨_,na2,nb2,out2,mg⟩ v ⟨gv,rfl,j2,hM⟩
  have hM:max 0 (a.size+b.size)<out2.size:=hM
  have sz:out2.size+na2+nb2=a.size+b.size:=j2.sz
  omega
 ·rintro ⟨r,na2,nb2,out2,mg⟩ v ⟨gv,m,e,gm⟩
  have e:r=some m:=e
  subst e
  exact wpS_pure (fin m v gv gm)
end
end L2T
namespace L2T
open PySem PySem.Spec PyProof.Rows L2
theorem oZ (off:Nat):∀(m:List Keyed) (n:Nat) (arr:Array Keyed),off+n+m.length≤arr.size→
  ((m.zipIdx n).foldl (fun a (x:Keyed×Nat)=>a.setIfInBounds (off+x.2) x.1) arr).toList=arr.toList.take (off+n)++m++arr.toList.drop (off+n+m.length):=by
 intro m
 induction m with
 | nil=>
  intro n arr h
  rw [List.zipIdx_nil,List.foldl_nil,List.append_nil,List.length_nil,Nat.add_zero,List.take_append_drop]
 | cons p m ih=>
  intro n arr h
  rw [List.length_cons] at h
  rw [List.zipIdx_cons,List.foldl_cons,ih (n+1) _ (by rw [Array.size_setIfInBounds];omega),Array.toList_setIfInBounds]
  have e1:(arr.toList.set (off+n) p).take (off+(n+1))=arr.toList.take (off+n)++[p]:=by
   rw [←Nat.add_assoc,List.take_add_one,List.getElem?_set_self (by rw [Array.length_toList];omega),List.take_set_of_le (Nat.le_refl _)]
   rfl
  have e2:(arr.toList.set (off+n) p).drop (off+(n+1)+m.length)=arr.toList.drop (off+n+(p::m).length):=by
   rw [List.drop_set_of_lt (by omega),List.length_cons]
   congr 1
   omega
  rw [e1,e2,List.append_assoc (arr.toList.take (off+n)) [p] m]
  rfl
theorem Wn (l:List Keyed) (i k m:Nat):(l.drop i).take (k+m)=(l.drop i).take k++(l.drop (i+k)).take m:=by
 rw [List.take_add,List.drop_drop]
theorem oC {arr:Array Keyed} {i n j:Nat} (hj:j<n) (h:i+j<arr.size):((arr.toList.drop i).take n)[j]?=some arr[i+j]:=by
 rw [List.getElem?_take,if_pos hj,List.getElem?_drop,Array.getElem?_toList]
 exact Array.getElem?_eq_getElem h
theorem Oc (xs:Array Keyed) (i j:Nat):(xs.extract i j).toList=(xs.toList.drop i).take (j - i):=by
 rw [Array.toList_extract,List.extract_eq_take_drop]
def eO (i:Nat):StateT SortSt Sem Bool:=do
 let s ←get
 let (some (sa,na,power),some (sb,nb,_)):=((pendingOf s)[i]?,(pendingOf s)[i+1]?) | unsupported "internal:list.sort.pending"
 set (setPending s (((pendingOf s).setIfInBounds i (sa,na+nb,power)).eraseIdxIfInBounds (i+1)))
 let some k ←bi false (←elem' (arrOf s) sb) (arrOf s) sa na 0 | return false
 let (sa,na):=(sa+k,na - k)
 if na == 0 then return true
 let some nb ←bi true (←elem' (arrOf s) (sa+na - 1)) (arrOf s) sb nb (nb - 1) | return false
 if nb == 0 then return true
 let x:=(arrOf s).extract sa sb
 let y:=(arrOf s).extract sb (sb+nb)
 let merged ←if na≤nb then dN x y else dQ x y
 modify fun s=>setArr s (merged.toList.zipIdx.foldl (fun a (p,j)=>a.setIfInBounds (sa+j) p) (arrOf s))
 return (failedOf (←get)).isNone
theorem Nh (i:Nat):mergeAt' i=eO i:=rfl
section
variable {prog:Program} {w:World} {A:Around} {E:Value→Shared→Prop} {s:Shared} {κ:KeyKind} {kd:SortKind} {st:SortSt}
theorem qO {σ:Type} {M:Model} {x:σ} {Q:PUnit→σ→Prop} {u:σ} (h:Q ⟨⟩ x):wpS M A E s (set x:StateT σ Sem PUnit) Q u:=by
 unfold wpS
 rw [StateT.run_set]
 exact wpAny_pure ⟨rfl,h⟩
theorem To {xs:Array Keyed} (h:KeysOf κ xs) (i j:Nat):KeysOf κ (xs.extract i j):=fun p hp=>by
 rw [Oc] at hp
 exact h p (List.mem_of_mem_drop (List.mem_of_mem_take hp))
structure MAt (κ:KeyKind) (st u:SortSt) (i sa na nb pw:Nat):Prop where
 kn:kindOf u=kindOf st
 fl:failedOf u=none
 pd:pendingOf u=((pendingOf st).setIfInBounds i (sa,na+nb,pw)).eraseIdxIfInBounds (i+1)
 arr:∃M,(arrOf u).toList=(arrOf st).toList.take sa++M++(arrOf st).toList.drop (sa+na+nb)∧M.Perm (((arrOf st).toList.drop sa).take (na+nb))∧Srt κ M
theorem gX {i sa na nb pw pw2:Nat} {Q:Bool→SortSt→Prop} (hc:aR prog w A s κ kd) (kn:kindOf st=kd) (fl:failedOf st=none) (hk:KeysOf κ (arrOf st))
  (p1:(pendingOf st)[i]?=some (sa,na,pw)) (p2:(pendingOf st)[i+1]?=some (sa+na,nb,pw2)) (na1:0<na) (nb1:0<nb) (hs:sa+na+nb≤(arrOf st).size)
  (so1:Srt κ (((arrOf st).toList.drop sa).take na)) (so2:Srt κ (((arrOf st).toList.drop (sa+na)).take nb))
  (fin:∀u,MAt κ st u i sa na nb pw→Q true u):wpS (model prog w) A E s (mergeAt' i) Q st:=by
 rw [Nh]
 unfold eO
 refine wpS_bind (wpS_get ?_)
 rw [p1,p2]
 dsimp only
 refine wpS_bind (qO ?_)
 generalize hst':setPending st (((pendingOf st).setIfInBounds i (sa,na+nb,pw)).eraseIdxIfInBounds (i+1))=st'
 have kn':kindOf st'=kd:=by rw [←hst'];exact kn
 have ar':arrOf st'=arrOf st:=by rw [←hst']
 have fl':failedOf st'=none:=by rw [←hst'];exact fl
 have pd':pendingOf st'=((pendingOf st).setIfInBounds i (sa,na+nb,pw)).eraseIdxIfInBounds (i+1):=by rw [←hst']
 generalize hx:arrOf st=xs at hk hs so1 so2 ar' ⊢
 have done:∀(u:SortSt) (M:List Keyed),kindOf u=kd→failedOf u=none→pendingOf u=pendingOf st'→(arrOf u).toList=xs.toList.take sa++M++xs.toList.drop (sa+na+nb)→M.Perm ((xs.toList.drop sa).take (na+nb))→Srt κ M→Q true u:=fun u M a1 a2 a3 a4 a5 a6=>
  fin u ⟨a1.trans kn.symm,a2,a3.trans pd',M,by rw [hx];exact a4,by rw [hx];exact a5,a6⟩
 have whole:xs.toList=xs.toList.take sa++((xs.toList.drop sa).take na++(xs.toList.drop (sa+na)).take nb)++xs.toList.drop (sa+na+nb):=by
  rw [←Wn,Nat.add_assoc,←List.drop_drop,List.append_assoc,List.take_append_drop,List.take_append_drop]
 have asis:Srt κ ((xs.toList.drop sa).take na++(xs.toList.drop (sa+na)).take nb)→Q true st':=fun h=>
  done st' _ kn' fl' rfl (by rw [ar'];exact whole) (by rw [Wn]) h
 have sb:sa+na<xs.size:=by omega
 rw [Y6 sb]
 refine wpS_bind (wpS_pure ?_)
 have b0le:∀y∈(xs.toList.drop (sa+na)).take nb,leK κ xs[sa+na] y:=fun y hy=>by
  obtain ⟨j,hj⟩:=List.mem_iff_getElem?.mp hy
  exact so2.at (i:=0) (j:=j) (Nat.zero_le _) (oC nb1 sb) hj
 refine wpS_bind (Xp hc kn' hk (Xi hk sb) na1 (by omega) so1 fun k hkn g1 g2=>?_)
 dsimp only
 have f1:∀x∈(xs.toList.drop sa).take k,leK κ x xs[sa+na]:=fun x hx=>by
  obtain ⟨j,hj,jk,_⟩:=Wj hx
  have q:=g1 j x jk hj
  unfold bey at q
  rw [if_neg Bool.false_ne_true,Bool.not_eq_true'] at q
  exact q
 have f2:∀x∈(xs.toList.drop (sa+k)).take (na - k),leK κ xs[sa+na] x:=fun x hx=>by
  obtain ⟨j,hj,jk,_⟩:=Wj hx
  have q:=g2 (k+j) x (by omega) (by omega) (by rw [←Nat.add_assoc];exact hj)
  unfold bey at q
  rw [if_neg Bool.false_ne_true,Bool.not_eq_false'] at q
  exact leK.of q
 by_cases c:na - k=0
 ·rw [if_pos (by rw [beq_iff_eq];exact c)]
  obtain rfl:k=na:=by omega
  exact wpS_pure (asis (List.pairwise_append.mpr ⟨so1,so2,fun x hx y hy=>(f1 x hx).trans (b0le y hy)⟩))
 rw [if_neg (by rw [beq_iff_eq];exact c)]
 have el:sa+k+(na - k) - 1=sa+na - 1:=by omega
 have lt:sa+na - 1<xs.size:=by omega
 rw [el,Y6 lt]
 refine wpS_bind (wpS_pure ?_)
 have lale:∀x∈(xs.toList.drop sa).take na,leK κ x xs[sa+na - 1]:=fun x hx=>by
  obtain ⟨j,hj⟩:=List.mem_iff_getElem?.mp hx
  have jl:=(List.getElem?_eq_some_iff.mp hj).1
  rw [List.length_take] at jl
  refine so1.at (i:=j) (j:=na - 1) (by omega) hj ?_
  rw [oC (show na - 1<na by omega) (show sa+(na - 1)<xs.size by omega)]
  congr 1
  congr 1
  omega
 refine wpS_bind (Xp hc kn' hk (Xi hk lt) (by omega) (by omega) so2 fun m hm g3 g4=>?_)
 dsimp only
 have f3:∀x∈(xs.toList.drop (sa+na)).take m,leK κ x xs[sa+na - 1]:=fun x hx=>by
  obtain ⟨j,hj,jk,_⟩:=Wj hx
  have q:κ.blt (ky κ x) (ky κ xs[sa+na - 1])=true:=g3 j x jk hj
  exact leK.of q
 have f4:∀x∈(xs.toList.drop (sa+na+m)).take (nb - m),leK κ xs[sa+na - 1] x:=fun x hx=>by
  obtain ⟨j,hj,jk,_⟩:=Wj hx
  have q:κ.blt (ky κ x) (ky κ xs[sa+na - 1])=false:=g4 (m+j) x (by omega) (by omega) (by rw [←Nat.add_assoc];exact hj)
  exact q
 by_cases c2:m=0
 ·rw [if_pos (by rw [beq_iff_eq];exact c2)]
  subst c2
  refine wpS_pure (asis (List.pairwise_append.mpr ⟨so1,so2,fun x hx y hy=>(lale x hx).trans (f4 y ?_)⟩))
  exact hy
 rw [if_neg (by rw [beq_iff_eq];exact c2)]
 have e1:(xs.toList.drop sa).take na=(xs.toList.drop sa).take k++(xs.toList.drop (sa+k)).take (na - k):=by
  rw [←Wn,Nat.add_sub_cancel' hkn]
 have e2:(xs.toList.drop (sa+na)).take nb=(xs.toList.drop (sa+na)).take m++(xs.toList.drop (sa+na+m)).take (nb - m):=by
  rw [←Wn,Nat.add_sub_cancel' hm]
 have x1:(xs.extract (sa+k) (sa+na)).toList=(xs.toList.drop (sa+k)).take (na - k):=by
  rw [Oc,show sa+na - (sa+k)=na - k by omega]
 have y1:(xs.extract (sa+na) (sa+na+m)).toList=(xs.toList.drop (sa+na)).take m:=by
  rw [Oc,Nat.add_sub_cancel_left]
 have xz:(xs.extract (sa+k) (sa+na)).size=na - k:=by rw [Array.size_extract];omega
 have yz:(xs.extract (sa+na) (sa+na+m)).size=m:=by rw [Array.size_extract];omega
 rw [e1] at so1
 rw [e2] at so2
 have q1:=List.pairwise_append.mp so1
 have q2:=List.pairwise_append.mp so2
 have last:∀(mg:Array Keyed) (u:SortSt),GalS st' u→Mgd κ (xs.extract (sa+k) (sa+na)) (xs.extract (sa+na) (sa+na+m)) mg→
   Q (failedOf (setArr u (mg.toList.zipIdx.foldl (fun a (x:Keyed×Nat)=>a.setIfInBounds (sa+k+x.2) x.1) (arrOf u)))).isNone (setArr u (mg.toList.zipIdx.foldl (fun a (x:Keyed×Nat)=>a.setIfInBounds (sa+k+x.2) x.1) (arrOf u))):=by
  rintro mg _ ⟨g,rfl⟩ ⟨pm,sm⟩
  rw [x1,y1] at pm
  have ml:mg.toList.length=na - k+m:=by
   have:=pm.length_eq
   rw [List.length_append,←x1,←y1,Array.length_toList (xs:=xs.extract (sa+k) (sa+na)),Array.length_toList (xs:=xs.extract (sa+na) (sa+na+m)),xz,yz] at this
   exact this
  have e0:(failedOf (setArr (dC st' g) (mg.toList.zipIdx.foldl (fun a (x:Keyed×Nat)=>a.setIfInBounds (sa+k+x.2) x.1) (arrOf (dC st' g))))).isNone=true:=by
   show (failedOf st').isNone=true
   rw [fl']
   rfl
  rw [e0]
  have put:=oZ (sa+k) mg.toList 0 xs (by rw [ml];omega)
  rw [ml,Nat.add_zero,show sa+k+(na - k+m)=sa+na+m by omega] at put
  refine done _ ((xs.toList.drop sa).take k++mg.toList++(xs.toList.drop (sa+na+m)).take (nb - m)) kn' fl' rfl ?_ ?_ ?_
  ·show (mg.toList.zipIdx.foldl (fun a (x:Keyed×Nat)=>a.setIfInBounds (sa+k+x.2) x.1) (arrOf st')).toList=_
   rw [ar',put,List.take_add,show sa+na+nb=sa+na+m+(nb - m) by omega,←List.drop_drop (i:=nb - m) (j:=sa+na+m)]
   simp only [List.append_assoc]
   rw [List.take_append_drop]
  ·rw [Wn,e1,e2]
   simp only [List.append_assoc]
   refine List.Perm.append_left _ ?_
   rw [←List.append_assoc]
   exact pm.append_right _
  ·have inm:∀x,x∈mg.toList→x∈(xs.toList.drop (sa+k)).take (na - k)∨x∈(xs.toList.drop (sa+na)).take m:=fun x hx=>List.mem_append.mp (pm.mem_iff.mp hx)
   have ins:∀x,x∈(xs.toList.drop (sa+k)).take (na - k)→x∈(xs.toList.drop sa).take na:=fun x hx=>by rw [e1];exact List.mem_append_right _ hx
   have ink:∀x,x∈(xs.toList.drop sa).take k→x∈(xs.toList.drop sa).take na:=fun x hx=>by rw [e1];exact List.mem_append_left _ hx
   refine List.pairwise_append.mpr ⟨List.pairwise_append.mpr ⟨q1.1,sm,fun x hx y hy=>?_⟩,q2.2.1,fun x hx y hy=>?_⟩
   ·rcases inm y hy with h | h
    ·exact q1.2.2 x hx y h
    ·exact (f1 x hx).trans (b0le y (by rw [e2];exact List.mem_append_left _ h))
   ·rcases List.mem_append.mp hx with h | h
    ·exact (lale x (ink x h)).trans (f4 y hy)
    ·rcases inm x h with h | h
     ·exact (lale x (ins x h)).trans (f4 y hy)
     ·exact q2.2.2 x h y hy
 have fin2:∀(mg:Array Keyed) (u:SortSt),GalS st' u→Mgd κ (xs.extract (sa+k) (sa+na)) (xs.extract (sa+na) (sa+na+m)) mg→
   wpS (model prog w) A E s (do
    modify fun s=>setArr s (mg.toList.zipIdx.foldl (fun a (x:Keyed×Nat)=>a.setIfInBounds (sa+k+x.2) x.1) (arrOf s))
    return (failedOf (←get)).isNone) Q u:=fun mg u gu gm=>wpS_bind (wpS_modify (wpS_bind (wpS_get (wpS_pure (last mg u gu gm)))))
 have y0:(xs.extract (sa+na) (sa+na+m))[0]'(by omega)=xs[sa+na]:=by
  rw [Array.getElem_extract]
  rfl
 have xl:(xs.extract (sa+k) (sa+na))[(xs.extract (sa+k) (sa+na)).size - 1]'(by omega)=xs[sa+na - 1]:=by
  rw [Array.getElem_extract]
  congr 1
  omega
 by_cases c3:na - k≤m
 ·rw [if_pos c3]
  refine wpS_bind (fU hc kn' ⟨To hk _ _,To hk _ _,by rw [x1];exact q1.2.1,by rw [y1];exact q2.1,fun x hx y hy=>?_⟩ (by omega) (by omega) (fun y hy=>?_) fun mg u gu gm=>fin2 mg u gu gm)
  ·rw [Od (by omega),List.drop_of_length_le (by rw [Array.length_toList];omega),List.append_nil] at hy
   rw [List.mem_singleton.mp hy,xl]
   rw [y1] at hx
   exact f3 x hx
  ·rw [y0]
   rw [x1] at hy
   exact f2 y hy
 ·rw [if_neg c3]
  refine wpS_bind (fq hc kn' ⟨To hk _ _,To hk _ _,by rw [x1];exact q1.2.1,by rw [y1];exact q2.1,fun x hx y hy=>?_⟩ (by omega) (by omega) (fun y hy=>?_) fun mg u gu gm=>fin2 mg u gu gm)
  ·rw [show (1:Nat)=0+1 from rfl,Pm (by omega),List.take_zero,List.nil_append] at hx
   rw [List.mem_singleton.mp hx,y0]
   rw [x1] at hy
   exact f2 y hy
  ·rw [xl]
   rw [y1] at hy
   exact f3 y hy
end
end L2T
namespace L2T
open PySem PySem.Spec PyProof.Rows L2
def n5 (lo a n:Nat):StateT SortSt Sem AscSt:=forIn [a:n] ((none,a):AscSt) fun _ c=>do
 match ←ltAt' (lo+c.2) (lo+c.2 - 1) with
 | some b=>if b=true then pure (.done (none,c.2)) else pure (.yield (none,c.2+1))
 | _=>pure (.done (some none,c.2))
def fj (lo m n:Nat):StateT SortSt Sem (Option Nat):=do
 reverseSlice' lo (lo+m)
 let c ←n5 lo m n
 match c.1 with
 | some r=>pure r
 | none=>pure (some c.2)
def iB (lo m n:Nat):StateT SortSt Sem DescSt:=forIn [m:n] ((none,m,0):DescSt) fun _ c=>do
 match ←ltAt' (lo+c.2.1) (lo+c.2.1 - 1) with
 | some b=>
  if b=true then
   if c.2.2 > 0 then do
    reverseSlice' (lo+c.2.1 - (c.2.2+1)) (lo+c.2.1)
    pure (.yield (none,c.2.1+1,0))
   else pure (.yield (none,c.2.1+1,0))
  else do
   match ←ltAt' (lo+c.2.1 - 1) (lo+c.2.1) with
   | some g=>if g=true then pure (.done (none,c.2.1,c.2.2)) else pure (.yield (none,c.2.1+1,c.2.2+1))
   | _=>pure (.done (some none,c.2.1,c.2.2))
 | _=>pure (.done (some none,c.2.1,c.2.2))
def dO (lo m n:Nat):StateT SortSt Sem (Option Nat):=do
 liftM (rule "list.sort.descending-run")
 let c ←iB lo (m+1) n
 match c.1 with
 | some r=>pure r
 | none=>
  if c.2.2 > 0 then do
   reverseSlice' (lo+c.2.1 - (c.2.2+1)) (lo+c.2.1)
   fj lo c.2.1 n
  else fj lo c.2.1 n
theorem bnd {σ α β:Type} {m m':StateT σ Sem α} {f g:α→StateT σ Sem β} (h:m=m') (h2:∀a,f a=g a):m >>= f=m' >>= g:=by
 subst h
 rw [show f=g from funext h2]
theorem jR (lo n:Nat):countRun' lo n=(do
  let c ←n5 lo 1 n
  match c.1 with
  | some r=>pure r
  | none=>
   if (c.2 == n)=true then pure (some c.2)
   else if c.2 > 1 then do
    match ←ltAt' lo (lo+c.2 - 1) with
    | some b=>if b=true then pure (some c.2) else do
      reverseSlice' lo (lo+c.2)
      dO lo c.2 n
    | _=>pure none
   else dO lo c.2 n):=by
 rw [countRun'_eq]
 unfold dO fj iB n5
 refine bnd rfl fun c=>?_
 obtain ⟨r,m⟩:=c
 cases r with
 | some r=>rfl
 | none=>
  dsimp only
  split
  ·rfl
  ·split
   ·refine bnd rfl fun x=>?_
    cases x with
    | none=>rfl
    | some b=>
     dsimp only
     split
     ·rfl
     ·refine bnd rfl fun _=>?_
      refine bnd rfl fun _=>bnd rfl fun c2=>?_
      obtain ⟨r2,m2,q2⟩:=c2
      cases r2 with
      | some r2=>rfl
      | none=>
       dsimp only
       split
       ·refine bnd rfl fun _=>?_
        refine bnd rfl fun _=>bnd rfl fun c3=>?_
        obtain ⟨r3,m3⟩:=c3
        cases r3 <;> rfl
       ·refine bnd rfl fun _=>bnd rfl fun c3=>?_
        obtain ⟨r3,m3⟩:=c3
        cases r3 <;> rfl
   ·refine bnd rfl fun _=>bnd rfl fun c2=>?_
    obtain ⟨r2,m2,q2⟩:=c2
    cases r2 with
    | some r2=>rfl
    | none=>
     dsimp only
     split
     ·refine bnd rfl fun _=>?_
      refine bnd rfl fun _=>bnd rfl fun c3=>?_
      obtain ⟨r3,m3⟩:=c3
      cases r3 <;> rfl
     ·refine bnd rfl fun _=>bnd rfl fun c3=>?_
      obtain ⟨r3,m3⟩:=c3
      cases r3 <;> rfl
structure Sl (kd:SortKind) (st0:SortSt) (lo:Nat) (u:SortSt):Prop where
 pm:(arrOf u).Perm (arrOf st0)
 kn:kindOf u=kd
 pd:pendingOf u=pendingOf st0
 fl:failedOf u=none
 lw:∀k,k<lo→(arrOf u)[k]?=(arrOf st0)[k]?
def Rl (κ:KeyKind) (xs:Array Keyed) (lo n:Nat):Prop:=∀i j,i≤j→j<n→κ.blt (KK κ xs (lo+j)) (KK κ xs (lo+i))=false
def Fl' (κ:KeyKind) (xs:Array Keyed) (lo n:Nat):Prop:=∀i j,i≤j→j<n→κ.blt (KK κ xs (lo+i)) (KK κ xs (lo+j))=false
section
variable {prog:Program} {w:World} {A:Around} {E:Value→Shared→Prop} {s:Shared} {κ:KeyKind} {kd:SortKind} {st0 st:SortSt} {lo:Nat}
theorem Sl.sz (b:Sl kd st0 lo st):(arrOf st).size=(arrOf st0).size:=b.pm.size_eq
theorem Sl.put (b:Sl kd st0 lo st) {ys:Array Keyed} (p:ys.Perm (arrOf st)) (h:∀k,k<lo→ys[k]?=(arrOf st)[k]?):Sl kd st0 lo (setArr st ys):=⟨p.trans b.pm,b.kn,b.pd,b.fl,fun k hk=>(h k hk).trans (b.lw k hk)⟩
theorem Sl.turn (b:Sl kd st0 lo st) {i j:Nat} (hi:lo≤i) (hj:j≤(arrOf st).size):Sl kd st0 lo (setArr st (mirror (arrOf st) i j ((j - i) / 2))):=b.put (mirror_perm _ _ _ _) fun k hk=>by rw [getElem?_mirror_all hj,if_neg (by omega)]
theorem Rl.snoc {xs:Array Keyed} {m:Nat} (r:Rl κ xs lo m) (h1:1≤m) (h:κ.blt (KK κ xs (lo+m)) (KK κ xs (lo+m - 1))=false):Rl κ xs lo (m+1):=by
 intro i j hij hj
 rcases Nat.lt_or_ge j m with l | l
 ·exact r i j hij l
 obtain rfl:j=m:=by omega
 rcases Nat.lt_or_ge i j with l2 | l2
 ·rw [show lo+j - 1=lo+(j - 1) by omega] at h
  exact ltF (r i (j - 1) (by omega) (by omega)) h
 ·obtain rfl:i=j:=by omega
  exact κ.irrefl _
theorem Fl'.snoc {xs:Array Keyed} {m:Nat} (r:Fl' κ xs lo m) (h1:1≤m) (h:κ.blt (KK κ xs (lo+m - 1)) (KK κ xs (lo+m))=false):Fl' κ xs lo (m+1):=by
 intro i j hij hj
 rcases Nat.lt_or_ge j m with l | l
 ·exact r i j hij l
 obtain rfl:j=m:=by omega
 rcases Nat.lt_or_ge i j with l2 | l2
 ·rw [show lo+j - 1=lo+(j - 1) by omega] at h
  exact ltF h (r i (j - 1) (by omega) (by omega))
 ·obtain rfl:i=j:=by omega
  exact κ.irrefl _
theorem rY {xs:Array Keyed}:Rl κ xs lo 1:=fun i j hij hj=>by
 obtain rfl:i=j:=by omega
 exact κ.irrefl _
theorem one_Fl {xs:Array Keyed}:Fl' κ xs lo 1:=fun i j hij hj=>by
 obtain rfl:i=j:=by omega
 exact κ.irrefl _
theorem Fl'.same {xs ys:Array Keyed} {m:Nat} (r:Fl' κ xs lo m) (h:∀k,KK κ ys k=KK κ xs k):Fl' κ ys lo m:=fun i j hij hj=>by
 rw [h,h];exact r i j hij hj
theorem eN {i j:Nat} {Q:Option Bool→SortSt→Prop} (hc:aR prog w A s κ kd) (hk:KeysOf κ (arrOf st0)) (b:Sl kd st0 lo st) (hi:i<(arrOf st0).size) (hj:j<(arrOf st0).size)
  (q:Q (some (κ.blt (KK κ (arrOf st) i) (KK κ (arrOf st) j))) st):wpS (model prog w) A E s (ltAt' i j) Q st:=by
 have hk':KeysOf κ (arrOf st):=fun p hp=>hk p ((Array.perm_iff_toList_perm.mp b.pm).mem_iff.mp hp)
 have hi':i<(arrOf st).size:=by rw [b.sz];exact hi
 have hj':j<(arrOf st).size:=by rw [b.sz];exact hj
 rw [KK_ky (Array.getElem?_eq_getElem hi'),KK_ky (Array.getElem?_eq_getElem hj')] at q
 rw [ltAt'_eq]
 refine wpS_bind (wpS_get ?_)
 show wpS (model prog w) A E s (elem' (arrOf st) i >>= fun u=>elem' (arrOf st) j >>= fun v=>lt' u v) Q st
 rw [Y6 hi',Y6 hj']
 exact wpS_bind (wpS_pure (wpS_bind (wpS_pure (Qe hc b.kn (Xi hk' hi') (Xi hk' hj') q))))
theorem vt {a n:Nat} {Q:AscSt→SortSt→Prop} (hc:aR prog w A s κ kd) (hk:KeysOf κ (arrOf st0)) (hn:lo+n≤(arrOf st0).size) (h1:1≤a) (h2:a≤n) (b:Sl kd st0 lo st) (r:Rl κ (arrOf st) lo a)
  (fin:∀m,a≤m→m≤n→Rl κ (arrOf st) lo m→(m<n→κ.blt (KK κ (arrOf st) (lo+m)) (KK κ (arrOf st) (lo+m - 1))=true)→Q (none,m) st):wpS (model prog w) A E s (n5 lo a n) Q st:=by
 unfold n5
 refine wpS_forRange (fun i c u=>u=st∧c=(none,i)∧Rl κ (arrOf st) lo i) ?_ ?_ ⟨rfl,rfl,r⟩
 ·rintro i _ _ h3 h4 ⟨rfl,rfl,r'⟩
  refine wpS_bind (eN hc hk b (by show lo+i<_;omega) (by show lo+i - 1<_;omega) ?_)
  dsimp only
  rcases e:κ.blt (KK κ (arrOf _) (lo+i)) (KK κ (arrOf _) (lo+i - 1)) with _ | _
  ·exact wpS_pure ⟨rfl,rfl,r'.snoc (by omega) e⟩
  ·exact wpS_pure (fin i h3 (by omega) r' fun _=>e)
 ·rintro _ _ ⟨rfl,rfl,r'⟩
  rw [Nat.max_eq_right h2] at r' ⊢
  exact fin n h2 (Nat.le_refl _) r' fun q=>absurd q (Nat.lt_irrefl _)
theorem lK {m n:Nat} {Q:Option Nat→SortSt→Prop} (hc:aR prog w A s κ kd) (hk:KeysOf κ (arrOf st0)) (hn:lo+n≤(arrOf st0).size) (h1:1≤m) (h2:m≤n) (b:Sl kd st0 lo st) (r:Fl' κ (arrOf st) lo m)
  (fin:∀l u,Sl kd st0 lo u→1≤l→l≤n→Rl κ (arrOf u) lo l→Q (some l) u):wpS (model prog w) A E s (fj lo m n) Q st:=by
 unfold fj
 have ml:lo+m≤(arrOf st).size:=by rw [b.sz];omega
 refine wpS_bind (Sm ?_)
 have b':=b.turn (i:=lo) (Nat.le_refl _) ml
 refine wpS_bind (vt hc hk hn h1 h2 b' (fun i j hij hj=>?_) fun l h3 h4 r' _=>wpS_pure (fin l _ b' (by omega) h4 r'))
 show κ.blt (KK κ (mirror (arrOf st) lo (lo+m) ((lo+m - lo) / 2)) (lo+j)) (KK κ (mirror (arrOf st) lo (lo+m) ((lo+m - lo) / 2)) (lo+i))=false
 rw [KK_mirror ml,KK_mirror ml,if_pos ⟨by omega,by omega⟩,if_pos ⟨by omega,by omega⟩,show lo+(lo+m) - 1 - (lo+j)=lo+(m - 1 - j) by omega,show lo+(lo+m) - 1 - (lo+i)=lo+(m - 1 - i) by omega]
 exact r _ _ (by omega) (by omega)
theorem r8 {m n:Nat} {Q:DescSt→SortSt→Prop} (hc:aR prog w A s κ kd) (hk:KeysOf κ (arrOf st0)) (hn:lo+n≤(arrOf st0).size) (h1:1≤m) (h2:m≤n) (b:Sl kd st0 lo st) (r:Fl' κ (arrOf st) lo m)
  (fin:∀l e u,Sl kd st0 lo u→m≤l→l≤n→Fl' κ (arrOf u) lo l→e+1≤l→(∀i,lo+l - (e+1)≤i→i<lo+l→KK κ (arrOf u) i=KK κ (arrOf u) (lo+l - 1))→Q (none,l,e) u):
  wpS (model prog w) A E s (iB lo m n) Q st:=by
 unfold iB
 refine wpS_forRange (fun i c u=>∃e,c=(none,i,e)∧Sl kd st0 lo u∧Fl' κ (arrOf u) lo i∧e+1≤i∧∀k,lo+i - (e+1)≤k→k<lo+i→KK κ (arrOf u) k=KK κ (arrOf u) (lo+i - 1)) ?_ ?_ ⟨0,rfl,b,r,h1,fun k h3 h4=>by rw [show k=lo+m - 1 by omega]⟩
 ·rintro i _ u h3 h4 ⟨e,rfl,b',r',he,al⟩
  have il:lo+i≤(arrOf u).size:=by rw [b'.sz];omega
  dsimp only
  refine wpS_bind (eN hc hk b' (by omega) (by omega) ?_)
  dsimp only
  rcases e1:κ.blt (KK κ (arrOf u) (lo+i)) (KK κ (arrOf u) (lo+i - 1)) with _ | _
  ·rw [if_neg Bool.false_ne_true]
   refine wpS_bind (eN hc hk b' (by omega) (by omega) ?_)
   dsimp only
   rcases e2:κ.blt (KK κ (arrOf u) (lo+i - 1)) (KK κ (arrOf u) (lo+i)) with _ | _
   ·have eq:KK κ (arrOf u) (lo+i)=KK κ (arrOf u) (lo+i - 1):=κ.total _ _ e1 e2
    refine wpS_pure ⟨e+1,rfl,b',r'.snoc (by omega) e2,by omega,fun k h5 h6=>?_⟩
    rw [show lo+(i+1) - 1=lo+i by omega]
    rcases Nat.lt_or_ge k (lo+i) with l | l
    ·rw [eq];exact al k (by omega) l
    ·rw [show k=lo+i by omega]
   ·exact wpS_pure (fin i e u b' h3 (by omega) r' he al)
  ·have up:=r'.snoc (by omega) (ltA e1)
   rw [if_pos rfl]
   by_cases c:e > 0
   ·rw [if_pos c]
    refine wpS_bind (Sm ?_)
    exact wpS_pure ⟨0,rfl,b'.turn (by omega) il,up.same (KK_mirror_equal il al),by omega,fun k h5 h6=>by rw [show k=lo+(i+1) - 1 by omega]⟩
   ·rw [if_neg c]
    exact wpS_pure ⟨0,rfl,b',up,by omega,fun k h5 h6=>by rw [show k=lo+(i+1) - 1 by omega]⟩
 ·rintro _ u ⟨e,rfl,b',r',he,al⟩
  rw [Nat.max_eq_right h2] at r' he al ⊢
  exact fin n e u b' h2 (Nat.le_refl _) r' he al
theorem iP {m n:Nat} {Q:Option Nat→SortSt→Prop} (hc:aR prog w A s κ kd) (hk:KeysOf κ (arrOf st0)) (hn:lo+n≤(arrOf st0).size) (h2:m+1≤n) (b:Sl kd st0 lo st) (r:Fl' κ (arrOf st) lo (m+1))
  (fin:∀l u,Sl kd st0 lo u→1≤l→l≤n→Rl κ (arrOf u) lo l→Q (some l) u):wpS (model prog w) A E s (dO lo m n) Q st:=by
 unfold dO
 refine wpS_bind (m:=liftM (rule _)) (wpS_lift (wpAny_rule ⟨rfl,?_⟩))
 refine wpS_bind (r8 hc hk hn (by omega) h2 b r fun l e u b' h3 h4 r' he al=>?_)
 have ll:lo+l≤(arrOf u).size:=by rw [b'.sz];omega
 dsimp only
 by_cases c:e > 0
 ·rw [if_pos c]
  refine wpS_bind (Sm ?_)
  exact lK (m:=l) hc hk hn (by omega) h4 (b'.turn (by omega) ll) (r'.same (KK_mirror_equal ll al)) fin
 ·rw [if_neg c]
  exact lK (m:=l) hc hk hn (by omega) h4 b' r' fin
theorem pK {n:Nat} {Q:Option Nat→SortSt→Prop} (hc:aR prog w A s κ kd) (hk:KeysOf κ (arrOf st0)) (hn:lo+n≤(arrOf st0).size) (h1:1≤n) (b:Sl kd st0 lo st)
  (fin:∀l u,Sl kd st0 lo u→1≤l→l≤n→Rl κ (arrOf u) lo l→Q (some l) u):wpS (model prog w) A E s (countRun' lo n) Q st:=by
 rw [jR]
 refine wpS_bind (vt hc hk hn (Nat.le_refl 1) h1 b rY fun m h3 h4 r lt=>?_)
 dsimp only
 rcases Nat.lt_or_ge m n with c | c
 ·rw [if_neg (by rw [beq_iff_eq];omega)]
  have lt:=lt c
  by_cases c2:m > 1
  ·rw [if_pos c2]
   refine wpS_bind (eN hc hk b (by omega) (by omega) ?_)
   dsimp only
   rcases e:κ.blt (KK κ (arrOf st) lo) (KK κ (arrOf st) (lo+m - 1)) with _ | _
   ·rw [if_neg Bool.false_ne_true]
    have ml:lo+m≤(arrOf st).size:=by rw [b.sz];omega
    have al:∀k,lo≤k→k<lo+m→KK κ (arrOf st) k=KK κ (arrOf st) (lo+m - 1):=fun k hk h=>by
     have q1:=r 0 (k - lo) (Nat.zero_le _) (by omega)
     have q2:=r (k - lo) (m - 1) (by omega) (by omega)
     rw [show lo+(k - lo)=k by omega,Nat.add_zero] at q1
     rw [show lo+(k - lo)=k by omega,show lo+(m - 1)=lo+m - 1 by omega] at q2
     exact κ.total _ _ (ltF e q1) q2
    refine wpS_bind (Sm (iP hc hk hn (by omega) (b.turn (Nat.le_refl _) ml) ?_ fin))
    refine Fl'.same (xs:=arrOf st) (Fl'.snoc (fun i j hij hj=>?_) (by omega) (ltA lt)) (KK_mirror_equal ml al)
    rw [al (lo+i) (by omega) (by omega),al (lo+j) (by omega) (by omega)]
    exact κ.irrefl _
   ·rw [if_pos rfl]
    exact wpS_pure (fin m st b h3 h4 r)
  ·rw [if_neg c2]
   obtain rfl:m=1:=by omega
   exact iP hc hk hn (by omega) b (one_Fl.snoc (by omega) (ltA lt)) fin
 ·obtain rfl:m=n:=by omega
  rw [if_pos (by rw [beq_iff_eq])]
  exact wpS_pure (fin m st b h3 h4 r)
theorem vi {n ok:Nat} {Q:Bool→SortSt→Prop} (hc:aR prog w A s κ kd) (hk:KeysOf κ (arrOf st0)) (hn:lo+n≤(arrOf st0).size) (h2:ok≤n) (b:Sl kd st0 lo st) (r:Rl κ (arrOf st) lo ok)
  (fin:∀u,Sl kd st0 lo u→Rl κ (arrOf u) lo n→Q true u):wpS (model prog w) A E s (binarySort' lo n ok) Q st:=by
 rw [binarySort'_eq]
 have cN:Rl κ (arrOf st) lo (min (max ok 1) n):=fun i j hij hj=>by
  rcases Nat.lt_or_ge j ok with l | l
  ·exact r i j hij l
  ·obtain rfl:i=j:=by omega
   exact κ.irrefl _
 refine wpS_bind (wpS_mono (wpS_forRange (Q:=fun c u=>c=(none,())∧Sl kd st0 lo u∧Rl κ (arrOf u) lo n) (fun k c u=>c=(none,())∧Sl kd st0 lo u∧Rl κ (arrOf u) lo (min k n)) ?_ ?_ ⟨rfl,b,cN⟩) ?_)
 ·rintro k _ u h3 h4 ⟨rfl,b',r'⟩
  rw [Nat.min_eq_left (Nat.le_of_lt h4)] at r'
  have kl:lo+k<(arrOf st0).size:=by omega
  have ks:lo+k<(arrOf u).size:=by rw [b'.sz];exact kl
  refine wpS_bind (wpS_mono (wpS_forRange (Q:=fun c v=>v=u∧∃p,c=(none,p,p)∧p≤k∧(∀i,i<p→κ.blt (KK κ (arrOf u) (lo+k)) (KK κ (arrOf u) (lo+i))=false)∧∀i,p≤i→i<k→κ.blt (KK κ (arrOf u) (lo+k)) (KK κ (arrOf u) (lo+i))=true)
   (fun x c v=>v=u∧∃p q,c=(none,p,q)∧p≤q∧q≤k∧q+x≤k+p∧(∀i,i<p→κ.blt (KK κ (arrOf u) (lo+k)) (KK κ (arrOf u) (lo+i))=false)∧∀i,q≤i→i<k→κ.blt (KK κ (arrOf u) (lo+k)) (KK κ (arrOf u) (lo+i))=true) ?_ ?_
   ⟨rfl,0,k,rfl,Nat.zero_le _,Nat.le_refl _,by omega,fun i h=>absurd h (Nat.not_lt_zero i),fun i h h'=>absurd h' (by omega)⟩) ?_)
  ·rintro x _ _ h5 h6 ⟨rfl,p,q,rfl,pq,qk,qx,lw,hi⟩
   dsimp only
   rcases Nat.lt_or_ge p q with c | c
   ·rw [if_neg (by omega)]
    refine wpS_bind (eN hc hk b' kl (by omega) ?_)
    dsimp only
    rcases e:κ.blt (KK κ (arrOf _) (lo+k)) (KK κ (arrOf _) (lo+(p+q) / 2)) with _ | _
    ·refine wpS_pure ⟨rfl,(p+q) / 2+1,q,rfl,by omega,qk,by omega,fun i h=>?_,hi⟩
     exact ltF (r' i ((p+q) / 2) (by omega) (by omega)) e
    ·refine wpS_pure ⟨rfl,p,(p+q) / 2,rfl,by omega,by omega,by omega,lw,fun i h h'=>?_⟩
     rcases κ.negTrans _ (KK κ (arrOf _) (lo+i)) _ e with z | z
     ·exact z
     ·rw [r' _ i h h'] at z
      cases z
   ·rw [if_pos c]
    obtain rfl:p=q:=by omega
    exact wpS_pure ⟨rfl,p,rfl,qk,lw,hi⟩
  ·rintro _ _ ⟨rfl,p,q,rfl,pq,qk,qx,lw,hi⟩
   obtain rfl:p=q:=by omega
   exact ⟨rfl,p,rfl,qk,lw,hi⟩
  ·rintro _ _ ⟨rfl,p,rfl,pk,lw,hi⟩
   show wpS (model prog w) A E s (moveDown' (lo+k) (lo+p) >>= fun _=>pure (ForInStep.yield (none,()))) _ _
   rw [moveDown'_eq]
   refine wpS_bind (wpS_modify (wpS_pure ⟨rfl,b'.put (bubble_perm _ _ _) (fun i hi=>?_),?_⟩))
   ·rw [getElem?_bubble ks _ (by omega),if_neg (by omega),if_neg (by omega)]
   rw [Nat.min_eq_left h4]
   intro i j hij hj
   show κ.blt (KK κ (bubble (arrOf _) (lo+k) (lo+k - (lo+p))) (lo+j)) (KK κ (bubble (arrOf _) (lo+k) (lo+k - (lo+p))) (lo+i))=false
   have at_:∀i,KK κ (bubble (arrOf _) (lo+k) (lo+k - (lo+p))) (lo+i)=if i=p then KK κ (arrOf _) (lo+k) else if p<i∧i≤k then KK κ (arrOf _) (lo+(i - 1)) else KK κ (arrOf _) (lo+i):=fun i=>by
    rw [KK_bubble ks (Nat.sub_le _ _),show lo+k - (lo+k - (lo+p))=lo+p by omega]
    by_cases c1:i=p
    ·rw [if_pos c1,if_pos (by omega)]
    ·rw [if_neg c1,if_neg (by omega)]
     by_cases c2:p<i∧i≤k
     ·rw [if_pos c2,if_pos (by omega),show lo+i - 1=lo+(i - 1) by omega]
     ·rw [if_neg c2,if_neg (by omega)]
   rw [at_,at_]
   rcases Nat.lt_trichotomy j p with c | c | c
   ·rw [if_neg (by omega),if_neg (by omega),if_neg (by omega),if_neg (by omega)]
    exact r' i j hij (by omega)
   ·rw [if_pos c]
    rcases Nat.lt_or_ge i p with d | d
    ·rw [if_neg (by omega),if_neg (by omega)]
     exact lw i d
    ·rw [if_pos (by omega)]
     exact κ.irrefl _
   ·rw [if_neg (by omega),if_pos (by omega)]
    rcases Nat.lt_trichotomy i p with d | d | d
    ·rw [if_neg (by omega),if_neg (by omega)]
     exact r' i (j - 1) (by omega) (by omega)
    ·rw [if_pos d]
     exact ltA (hi (j - 1) (by omega) (by omega))
    ·rw [if_neg (by omega),if_pos (by omega)]
     exact r' (i - 1) (j - 1) (by omega) (by omega)
 ·rintro _ u ⟨h,b',r'⟩
  refine ⟨h,b',?_⟩
  rw [show min (max (max ok 1) n) n=n by omega] at r'
  exact r'
 ·rintro _ u ⟨rfl,b',r'⟩
  exact wpS_pure (fin u b' r')
end
end L2T
namespace L2T
open PySem PySem.Spec PyProof.Rows L2
abbrev seg (L:List Keyed) (i n:Nat):List Keyed:=(L.drop i).take n
def Tile (κ:KeyKind) (L:List Keyed):Nat→List (Nat×Nat)→Nat→Prop
 | a,[],e=>a=e
 | a,(s,n)::ps,e=>s=a∧0<n∧Srt κ (seg L s n)∧Tile κ L (a+n) ps e
section
variable {κ:KeyKind} {L L':List Keyed}
theorem Tile.le {ps:List (Nat×Nat)}:∀{a e:Nat},Tile κ L a ps e→a+ps.length≤e:=by
 induction ps with
 | nil=>intro a e h;exact Nat.le_of_eq h
 | cons p ps ih=>
  intro a e h
  have:=ih h.2.2.2
  have:=h.2.1
  rw [List.length_cons]
  omega
theorem Tile.hi {ps:List (Nat×Nat)}:∀{a e:Nat},Tile κ L a ps e→(∀s n,a≤s→s+n≤e→seg L' s n=seg L s n)→Tile κ L' a ps e:=by
 induction ps with
 | nil=>intro a e h _;exact h
 | cons p ps ih=>
  intro a e h g
  obtain ⟨h1,h2,h3,h4⟩:=h
  have le:=h4.le
  exact ⟨h1,h2,by rw [g p.1 p.2 (by omega) (by omega)];exact h3,ih h4 fun s n hs=>g s n (by omega)⟩
theorem Tile.snoc {ps:List (Nat×Nat)} {n:Nat}:∀{a e:Nat},Tile κ L a ps e→0<n→Srt κ (seg L e n)→Tile κ L a (ps++[(e,n)]) (e+n):=by
 induction ps with
 | nil=>intro a e h h0 hs;cases h;exact ⟨rfl,h0,hs,rfl⟩
 | cons p ps ih=>intro a e h h0 hs;exact ⟨h.1,h.2.1,h.2.2.1,ih h.2.2.2 h0 hs⟩
theorem Tile.two {ps:List (Nat×Nat)}:∀{a e i sa na sb nb:Nat},Tile κ L a ps e→ps[i]?=some (sa,na)→ps[i+1]?=some (sb,nb)→sb=sa+na∧0<na∧0<nb∧a≤sa∧sa+na+nb≤e∧Srt κ (seg L sa na)∧Srt κ (seg L sb nb):=by
 induction ps with
 | nil=>intro a e i sa na sb nb _ h;cases h
 | cons p ps ih=>
  intro a e i sa na sb nb h g1 g2
  cases i with
  | zero=>
   cases g1
   cases ps with
   | nil=>cases g2
   | cons q ps=>
    cases g2
    obtain ⟨rfl,h2,h3,h4,h5,h6,h7⟩:=h
    have:=h7.le
    exact ⟨h4,h2,h5,Nat.le_refl _,by omega,h3,h6⟩
  | succ i=>
   obtain ⟨b1,b2,b3,b4,b5⟩:=ih h.2.2.2 g1 g2
   exact ⟨b1,b2,b3,by omega,b5⟩
theorem Tile.mrg {ps:List (Nat×Nat)} {sa na nb e:Nat}:∀{a i sb:Nat},Tile κ L a ps e→ps[i]?=some (sa,na)→ps[i+1]?=some (sb,nb)→
  Srt κ (seg L' sa (na+nb))→(∀s n,s+n≤sa→seg L' s n=seg L s n)→(∀s n,sa+na+nb≤s→seg L' s n=seg L s n)→Tile κ L' a ((ps.set i (sa,na+nb)).eraseIdx (i+1)) e:=by
 induction ps with
 | nil=>intro a i sb _ h;cases h
 | cons p ps ih=>
  intro a i sb h g1 g2 so lw hi
  cases i with
  | zero=>
   cases g1
   cases ps with
   | nil=>cases g2
   | cons q ps=>
    cases g2
    obtain ⟨rfl,h2,h3,h4,h5,h6,h7⟩:=h
    refine ⟨rfl,by omega,so,?_⟩
    rw [←Nat.add_assoc]
    exact h7.hi fun s n hs _=>hi s n hs
  | succ i=>
   obtain ⟨b1,b2,b3,b4,b5⟩:=h.2.2.2.two g1 g2
   obtain ⟨h1,h2,h3,h4⟩:=h
   exact ⟨h1,h2,by rw [lw p.1 p.2 (by omega)];exact h3,ih h4 g1 g2 so lw hi⟩
theorem qj {X M S:List Keyed} {s n sa:Nat} (hX:X=L.take sa) (hs:s+n≤sa) (hl:sa≤L.length):seg (X++M++S) s n=seg L s n:=by
 subst hX
 refine List.ext_getElem? fun j=>?_
 rw [List.getElem?_take,List.getElem?_take]
 split
 ·rw [List.getElem?_drop,List.getElem?_drop,List.append_assoc,List.getElem?_append_left (by rw [List.length_take];omega),List.getElem?_take,if_pos (by omega)]
 ·rfl
theorem Ow {X S:List Keyed} {s n t:Nat} (hX:X.length=t) (hS:S=L.drop t) (hs:t≤s):seg (X++S) s n=seg L s n:=by
 subst hS
 unfold seg
 rw [List.drop_append,List.drop_of_length_le (by omega),List.nil_append,List.drop_drop,hX,show t+(s - t)=s by omega]
theorem U4 {α β:Type} (f:α→β):∀(l:List α) (i:Nat),(l.eraseIdx i).map f=(l.map f).eraseIdx i:=by
 intro l
 induction l with
 | nil=>intro i;rfl
 | cons x l ih=>
  intro i
  cases i with
  | zero=>rfl
  | succ i=>
   show f x::(l.eraseIdx i).map f=f x::(l.map f).eraseIdx i
   rw [ih]
abbrev pr (p:Nat×Nat×Nat):Nat×Nat:=(p.1,p.2.1)
abbrev pq (st:SortSt):List (Nat×Nat):=(pendingOf st).toList.map pr
structure SR (κ:KeyKind) (kd:SortKind) (xs0:Array Keyed) (e:Nat) (u:SortSt):Prop where
 pm:(arrOf u).Perm xs0
 kn:kindOf u=kd
 fl:failedOf u=none
 til:Tile κ (arrOf u).toList 0 (pq u) e
 le:e≤xs0.size
variable {prog:Program} {w:World} {A:Around} {E:Value→Shared→Prop} {s:Shared} {kd:SortKind} {xs0:Array Keyed} {st:SortSt}
theorem SR.keys {e:Nat} (hk:KeysOf κ xs0) (b:SR κ kd xs0 e st):KeysOf κ (arrOf st):=fun p hp=>hk p ((Array.perm_iff_toList_perm.mp b.pm).mem_iff.mp hp)
theorem SR.sz {e:Nat} (b:SR κ kd xs0 e st):(arrOf st).size=xs0.size:=b.pm.size_eq
theorem SR.pend {e:Nat} (b:SR κ kd xs0 e st) {ps:Array (Nat×Nat×Nat)} (h:ps.toList.map pr=pq st):SR κ kd xs0 e (setPending st ps):=⟨b.pm,b.kn,b.fl,by
 show Tile κ (arrOf st).toList 0 (ps.toList.map pr) e
 rw [h]
 exact b.til,b.le⟩
theorem Ov {e i:Nat} {Q:Bool→SortSt→Prop} (hc:aR prog w A s κ kd) (hk:KeysOf κ xs0) (b:SR κ kd xs0 e st) (hi:i+1<(pendingOf st).size)
  (fin:∀v,SR κ kd xs0 e v→(pendingOf v).size+1=(pendingOf st).size→(∀s n,e≤s→seg (arrOf v).toList s n=seg (arrOf st).toList s n)→Q true v):wpS (model prog w) A E s (mergeAt' i) Q st:=by
 obtain ⟨⟨sa,na,pw⟩,p1⟩:∃p,(pendingOf st)[i]?=some p:=⟨_,Array.getElem?_eq_getElem (by omega)⟩
 obtain ⟨⟨sb,nb,pw2⟩,p2⟩:∃p,(pendingOf st)[i+1]?=some p:=⟨_,Array.getElem?_eq_getElem hi⟩
 have q1:(pq st)[i]?=some (sa,na):=by
  rw [List.getElem?_map,Array.getElem?_toList,p1]
  rfl
 have q2:(pq st)[i+1]?=some (sb,nb):=by
  rw [List.getElem?_map,Array.getElem?_toList,p2]
  rfl
 obtain ⟨rfl,t1,t2,t3,t4,t5,t6⟩:=b.til.two q1 q2
 have le:=b.le
 have sz:=b.sz
 refine gX hc b.kn b.fl (b.keys hk) p1 p2 t1 t2 (by omega) t5 t6 fun u m=>?_
 obtain ⟨M,a1,a2,a3⟩:=m.arr
 have ML:M.length=na+nb:=by
  rw [a2.length_eq,List.length_take,List.length_drop,Array.length_toList]
  omega
 have TL:((arrOf st).toList.take sa++M).length=sa+na+nb:=by
  rw [List.length_append,List.length_take,Array.length_toList,ML]
  omega
 have pl:(pendingOf u).toList=((pendingOf st).toList.set i (sa,na+nb,pw)).eraseIdx (i+1):=by
  rw [m.pd,Array.toList_eraseIdxIfInBounds,Array.toList_setIfInBounds]
 refine fin u ⟨?_,m.kn.trans b.kn,m.fl,?_,b.le⟩ ?_ fun s n hs=>by rw [a1];exact Ow TL rfl (by omega)
 ·refine Array.Perm.trans (Array.perm_iff_toList_perm.mpr ?_) b.pm
  rw [a1]
  have e:(arrOf st).toList=(arrOf st).toList.take sa++((arrOf st).toList.drop sa).take (na+nb)++(arrOf st).toList.drop (sa+na+nb):=by
   rw [Nat.add_assoc,←List.drop_drop,List.append_assoc,List.take_append_drop,List.take_append_drop]
  rw [List.append_assoc]
  refine List.Perm.trans (List.Perm.append_left _ (a2.append_right _)) (List.Perm.of_eq ?_)
  rw [←List.append_assoc]
  exact e.symm
 ·have e:pq u=((pq st).set i (sa,na+nb)).eraseIdx (i+1):=by
   show (pendingOf u).toList.map pr=_
   rw [pl,U4,List.map_set]
  rw [e]
  refine b.til.mrg q1 q2 ?_ ?_ ?_
  ·have e2:seg (arrOf u).toList sa (na+nb)=M:=by
    unfold seg
    rw [a1,List.append_assoc,List.drop_append,List.drop_of_length_le (by rw [List.length_take,Array.length_toList];omega),List.nil_append,List.length_take,Array.length_toList,show sa - min sa (arrOf st).size=0 by omega,List.drop_zero,List.take_append_of_le_length (by omega),List.take_of_length_le (by omega)]
   rw [e2]
   exact a3
  ·intro s n hs
   rw [a1]
   exact qj rfl hs (by rw [Array.length_toList];omega)
  ·intro s n hs
   rw [a1]
   exact Ow TL rfl hs
 ·rw [←Array.length_toList (xs:=pendingOf u),pl,List.length_eraseIdx,List.length_set,Array.length_toList,if_pos hi]
  omega
theorem qX {e:Nat} {v:SortSt} (b:SR κ kd xs0 e st) (h:Sl kd st e v):SR κ kd xs0 e v:=by
 have le:=b.le
 refine ⟨h.pm.trans b.pm,h.kn,h.fl,?_,b.le⟩
 have e1:pq v=pq st:=by unfold pq;rw [h.pd]
 rw [e1]
 refine b.til.hi fun s n _ hs=>?_
 refine List.ext_getElem? fun j=>?_
 rw [List.getElem?_take,List.getElem?_take]
 split
 ·rw [List.getElem?_drop,List.getElem?_drop,Array.getElem?_toList,Array.getElem?_toList]
  exact h.lw _ (by omega)
 ·rfl
theorem iJ {xs:Array Keyed} {lo n:Nat} (r:Rl κ xs lo n):Srt κ (seg xs.toList lo n):=by
 refine List.pairwise_iff_getElem.mpr fun i j hi hj hij=>?_
 rw [List.length_take,List.length_drop,Array.length_toList] at hi hj
 have e1:xs[lo+i]?=some ((seg xs.toList lo n)[i]):=by
  rw [List.getElem_take,List.getElem_drop,Array.getElem_toList]
  exact Array.getElem?_eq_getElem _
 have e2:xs[lo+j]?=some ((seg xs.toList lo n)[j]):=by
  rw [List.getElem_take,List.getElem_drop,Array.getElem_toList]
  exact Array.getElem?_eq_getElem _
 have:=r i j (by omega) (by omega)
 rw [KK_ky e1,KK_ky e2] at this
 exact this
def mgl (size pw:Nat):StateT SortSt Sem (Option Unit×Unit):=forIn [0:size] ((none,()):Option Unit×Unit) fun _ _=>do
 let u ←get
 match (if (pendingOf u).size > 1 then (pendingOf u)[(pendingOf u).size - 2]? else none) with
 | some (_,_,older)=>
  if older≤pw then pure (.done (none,())) else do
   let r ←mergeAt' ((pendingOf u).size - 2)
   if (!r)=true then pure (.done (some (),())) else pure (.yield (none,()))
 | _=>pure (.done (none,()))
def dY (size lo n:Nat):StateT SortSt Sem (ForInStep (Option Unit×Nat)):=do
 let u ←get
 match (pendingOf u).back? with
 | some (s1,n1,_)=>do
  let c ←mgl size (power' size (2 * s1+n1) (2 * s1+n1+n1+n) size)
  match c.1 with
  | some r=>pure (.done (some r,lo))
  | none=>do
   modify fun s=>setPending s ((pendingOf s).modify ((pendingOf s).size - 1) fun x=>(x.1,x.2.1,power' size (2 * s1+n1) (2 * s1+n1+n1+n) size))
   modify fun s=>setPending s ((pendingOf s).push (lo,n,0))
   pure (.yield (none,lo+n))
 | _=>do
  modify fun s=>setPending s ((pendingOf s).push (lo,n,0))
  pure (.yield (none,lo+n))
theorem sB {e size pw:Nat} {Q:Option Unit×Unit→SortSt→Prop} (hc:aR prog w A s κ kd) (hk:KeysOf κ xs0) (b:SR κ kd xs0 e st) (fin:∀v,SR κ kd xs0 e v→(∀s n,e≤s→seg (arrOf v).toList s n=seg (arrOf st).toList s n)→Q (none,()) v):wpS (model prog w) A E s (mgl size pw) Q st:=by
 unfold mgl
 refine wpS_forRange (fun _ c v=>c=(none,())∧SR κ kd xs0 e v∧∀s n,e≤s→seg (arrOf v).toList s n=seg (arrOf st).toList s n) ?_ ?_ ⟨rfl,b,fun _ _ _=>rfl⟩
 ·rintro _ _ u _ _ ⟨rfl,b',g⟩
  refine wpS_bind (wpS_get ?_)
  by_cases c:(pendingOf u).size > 1
  ·rw [if_pos c]
   obtain ⟨⟨p1,p2,p3⟩,hp⟩:∃p,(pendingOf u)[(pendingOf u).size - 2]?=some p:=⟨_,Array.getElem?_eq_getElem (by omega)⟩
   rw [hp]
   dsimp only
   split
   ·exact wpS_pure (fin u b' g)
   ·exact wpS_bind (Ov hc hk b' (by omega) fun v bv _ gv=>wpS_pure ⟨rfl,bv,fun s n hs=>(gv s n hs).trans (g s n hs)⟩)
  ·rw [if_neg c]
   exact wpS_pure (fin u b' g)
 ·rintro _ u ⟨rfl,b',g⟩
  exact fin u b' g
theorem SR.run {lo n:Nat} (b:SR κ kd xs0 lo st) (n1:0<n) (hn:lo+n≤xs0.size) (so:Srt κ (seg (arrOf st).toList lo n)):SR κ kd xs0 (lo+n) (setPending st ((pendingOf st).push (lo,n,0))):=by
 refine ⟨b.pm,b.kn,b.fl,?_,hn⟩
 show Tile κ (arrOf st).toList 0 (((pendingOf st).push (lo,n,0)).toList.map pr) (lo+n)
 rw [Array.toList_push,List.map_append]
 exact b.til.snoc n1 so
theorem oQ (f:Nat×Nat×Nat→Nat×Nat×Nat) (hf:∀x,pr (f x)=pr x):∀(l:List (Nat×Nat×Nat)) (i:Nat),(l.modify i f).map pr=l.map pr:=by
 intro l
 induction l with
 | nil=>intro i;cases i <;> rfl
 | cons x l ih=>
  intro i
  cases i with
  | zero=>
   show pr (f x)::l.map pr=pr x::l.map pr
   rw [hf]
  | succ i=>
   show pr x::(l.modify i f).map pr=pr x::l.map pr
   rw [ih]
theorem fi {lo n size:Nat} {Q:ForInStep (Option Unit×Nat)→SortSt→Prop} (hc:aR prog w A s κ kd) (hk:KeysOf κ xs0) (b:SR κ kd xs0 lo st) (n1:0<n) (hn:lo+n≤xs0.size) (so:Srt κ (seg (arrOf st).toList lo n))
  (fin:∀v,SR κ kd xs0 (lo+n) v→Q (.yield (none,lo+n)) v):wpS (model prog w) A E s (dY size lo n) Q st:=by
 unfold dY
 refine wpS_bind (wpS_get ?_)
 cases hb:(pendingOf st).back? with
 | none=>exact wpS_bind (wpS_modify (wpS_pure (fin _ (b.run n1 hn so))))
 | some p=>
  obtain ⟨s1,m1,pw⟩:=p
  dsimp only
  refine wpS_bind (sB hc hk b fun v bv gv=>?_)
  dsimp only
  refine wpS_bind (wpS_modify (wpS_bind (wpS_modify (wpS_pure (fin _ ?_)))))
  refine SR.run (st:=setPending v _) (bv.pend ?_) n1 hn ?_
  ·rw [Array.toList_modify]
   exact oQ (fun x=>(x.1,x.2.1,power' size (2 * s1+m1) (2 * s1+m1+m1+n) size)) (fun _=>rfl) _ _
  ·show Srt κ (seg (arrOf v).toList lo n)
   rw [gv lo n (Nat.le_refl _)]
   exact so
theorem Rz.of_srt {xs:Array Keyed} {n:Nat} (h:Srt κ (seg xs.toList 0 n)) (hn:n≤xs.size):Rz κ xs n:=fun i j hij hj=>by
 have at_:∀k (hk:k<n),(seg xs.toList 0 n)[k]?=some (xs[k]'(by omega)):=fun k hk=>by
  rw [List.getElem?_take,if_pos hk,List.drop_zero,Array.getElem?_toList]
  exact Array.getElem?_eq_getElem _
 have q:=h.at hij (at_ i (by omega)) (at_ j hj)
 rw [KK_ky (Array.getElem?_eq_getElem (show i<xs.size by omega)),KK_ky (Array.getElem?_eq_getElem (show j<xs.size by omega))]
 exact q
theorem pc:∀(f n r:Nat),0<n→0<minRun' f n r:=by
 intro f
 induction f with
 | zero=>
  intro n r h
  show 0<n+r
  omega
 | succ f ih=>
  intro n r h
  rw [minRun'_succ]
  split
  ·omega
  ·exact ih _ _ (by omega)
theorem eqp {α:Type} {p p':StateT SortSt Sem α} {Q:α→SortSt→Prop} (h:p=p') (g:wpS (model prog w) A E s p' Q st):wpS (model prog w) A E s p Q st:=by
 rw [h]
 exact g
theorem runs_all {Q:Unit→SortSt→Prop} (hc:aR prog w A s κ kd) (hk:KeysOf κ xs0) (b:Sst kd xs0 st) (h1:1≤xs0.size)
  (fin:∀u,(arrOf u).Perm xs0→failedOf u=none→Rz κ (arrOf u) xs0.size→Q () u):wpS (model prog w) A E s sortRuns' Q st:=by
 rw [sortRuns'_eq]
 refine wpS_bind (wpS_get ?_)
 simp only [b.sz]
 have s0:SR κ kd xs0 0 st:=⟨b.pm,b.kn,b.fl,by show Tile κ _ 0 ((pendingOf st).toList.map pr) 0;rw [b.pd];rfl,Nat.zero_le _⟩
 have mp:=pc xs0.size xs0.size 0 (by omega)
 generalize minRun' xs0.size xs0.size 0=mr at mp ⊢
 refine wpS_bind (wpS_mono (wpS_forRange (β:=Option Unit×Nat) (Q:=fun c u=>c=(none,xs0.size)∧SR κ kd xs0 xs0.size u) (fun x c u=>∃lo,c=(none,lo)∧x≤lo∧SR κ kd xs0 lo u) ?_ ?_ ⟨0,rfl,Nat.le_refl _,s0⟩) ?_)
 ·rintro x _ u _ hx ⟨lo,rfl,xl,bu⟩
  have le:=bu.le
  have sz:=bu.sz
  dsimp only
  rcases Nat.lt_or_ge lo xs0.size with c | c
  ·rw [if_neg (by omega)]
   have sl:Sl kd u lo u:=⟨Array.Perm.refl _,bu.kn,rfl,bu.fl,fun _ _=>rfl⟩
   refine wpS_bind (pK hc (bu.keys hk) (by omega) (by omega) sl fun l v bv l1 l2 r=>?_)
   dsimp only
   have fin2:∀n v,0<n→SR κ kd xs0 (lo+n) v→∃lo',((none:Option Unit),lo+n)=(none,lo')∧x+1≤lo'∧SR κ kd xs0 lo' v:=fun n v hn h=>⟨lo+n,rfl,by omega,h⟩
   rcases Nat.lt_or_ge l mr with d | d
   ·rw [if_pos d]
    refine wpS_bind (m:=liftM (rule _)) (wpS_lift (wpAny_rule ⟨rfl,?_⟩))
    refine wpS_bind (vi hc (bu.keys hk) (n:=min (xs0.size - lo) mr) (by omega) (by omega) bv r fun y by' r3=>?_)
    rw [Bool.not_true,if_neg Bool.false_ne_true]
    refine eqp (p':=dY xs0.size lo (min (xs0.size - lo) mr)) ?_ ?_
    ·unfold dY mgl
     refine bnd rfl fun u2=>?_
     cases hb:(pendingOf u2).back? with
     | none=>rfl
     | some p=>
      obtain ⟨s1,m1,pw⟩:=p
      dsimp only
      refine bnd ?_ fun c=>?_
      ·congr 1
      ·obtain ⟨r4,u4⟩:=c
       cases r4 <;> rfl
    refine wpS_mono (fi (size:=xs0.size) (Q:=fun r v=>r=.yield (none,lo+min (xs0.size - lo) mr)∧SR κ kd xs0 (lo+min (xs0.size - lo) mr) v) hc hk (qX bu by') (by omega) (by omega) (iJ r3) fun v hv=>⟨rfl,hv⟩) ?_
    rintro _ v ⟨rfl,hv⟩
    exact fin2 _ v (by omega) hv
   ·rw [if_neg (by omega)]
    refine eqp (p':=dY xs0.size lo (l)) ?_ ?_
    ·unfold dY mgl
     refine bnd rfl fun u2=>?_
     cases hb:(pendingOf u2).back? with
     | none=>rfl
     | some p=>
      obtain ⟨s1,m1,pw⟩:=p
      dsimp only
      refine bnd ?_ fun c=>?_
      ·congr 1
      ·obtain ⟨r4,u4⟩:=c
       cases r4 <;> rfl
    refine wpS_mono (fi (size:=xs0.size) (Q:=fun r v=>r=.yield (none,lo+l)∧SR κ kd xs0 (lo+l) v) hc hk (qX bu bv) (by omega) (by omega) (iJ r) fun v hv=>⟨rfl,hv⟩) ?_
    rintro _ v ⟨rfl,hv⟩
    exact fin2 _ v (by omega) hv
  ·rw [if_pos c]
   obtain rfl:lo=xs0.size:=by omega
   exact wpS_pure ⟨rfl,bu⟩
 ·rintro _ u ⟨lo,rfl,xl,bu⟩
  have le:=bu.le
  obtain rfl:lo=xs0.size:=by omega
  exact ⟨rfl,bu⟩
 ·rintro _ u ⟨rfl,bu⟩
  dsimp only
  have pl:=bu.til.le
  rw [List.length_map,Array.length_toList] at pl
  refine wpS_bind (wpS_mono (wpS_forRange (Q:=fun c v=>c=(none,())∧SR κ kd xs0 xs0.size v∧(pendingOf v).size≤1) (fun x c v=>c=(none,())∧SR κ kd xs0 xs0.size v∧((pendingOf v).size≤1∨(pendingOf v).size+x≤xs0.size)) ?_ ?_ ⟨rfl,bu,.inr (by omega)⟩) ?_)
  ·rintro x _ v _ hx ⟨rfl,bv,h⟩
   refine wpS_bind (wpS_get ?_)
   rcases Nat.lt_or_ge 1 (pendingOf v).size with c | c
   ·rw [if_neg (by omega)]
    have next:∀i,i+1<(pendingOf v).size→wpS (model prog w) A E s (do
      let r ←mergeAt' i
      if (!r)=true then pure (ForInStep.done (some (),())) else pure (ForInStep.yield ((none:Option Unit),()))) (fun r st'=>match r with
       | .done c'=>c'=(none,())∧SR κ kd xs0 xs0.size st'∧(pendingOf st').size≤1
       | .yield c'=>c'=(none,())∧SR κ kd xs0 xs0.size st'∧((pendingOf st').size≤1∨(pendingOf st').size+(x+1)≤xs0.size)) v:=fun i hi=>
     wpS_bind (Ov hc hk bv hi fun z bz hz _=>wpS_pure ⟨rfl,bz,by omega⟩)
    refine wpS_mono (next _ ?_) fun r z hz=>?_
    ·repeat' split
     all_goals omega
    ·cases r with
     | done c'=>exact hz
     | yield c'=>exact hz
   ·rw [if_pos c]
    exact wpS_pure ⟨rfl,bv,c⟩
  ·rintro _ v ⟨rfl,bv,h⟩
   have:=bv.til.le
   rw [List.length_map,Array.length_toList] at this
   exact ⟨rfl,bv,by omega⟩
  ·rintro _ v ⟨rfl,bv,h⟩
   refine wpS_pure (fin v bv.pm bv.fl ?_)
   have t:=bv.til
   have sz:=bv.sz
   cases hq:pq v with
   | nil=>
    rw [hq] at t
    have t:0=xs0.size:=t
    omega
   | cons p ps=>
    have pz:(pq v).length≤1:=by rw [List.length_map,Array.length_toList];exact h
    rw [hq] at t pz
    rw [List.length_cons] at pz
    obtain rfl:ps=[]:=List.length_eq_zero_iff.mp (by omega)
    obtain ⟨t1,t2,t3,t4⟩:=t
    have t4:0+p.2=xs0.size:=t4
    rw [Nat.zero_add] at t4
    have t1:p.1=0:=t1
    rw [t1,t4] at t3
    exact Rz.of_srt t3 (by omega)
end
end L2T
namespace L2
open PySem PySem.Spec PyProof.Rows
section
variable {prog:Program} {w:World} {A:Around} {E:Value→Shared→Prop} {s:Shared}
theorem Ph {M:Model} {β:Type} {f:Value→Sem β} (F:β→Prop):∀(vs:List Value),(∀v∈vs,∃y,F y∧∀Q:β→Shared→Prop,Q y s→wpAny M A (f v) Q E s)→∃ys:List β,ys.length=vs.length∧(∀y∈ys,F y)∧∀Q:List β→Shared→Prop,Q ys s→wpAny M A (vs.mapM f) Q E s
 | [],_=>⟨[],rfl,(fun _ h=>nomatch h),fun Q q=>by rw [List.mapM_nil];exact wpAny_pure q⟩
 | v::vs,h=>by
  obtain ⟨y,fy,hy⟩:=h v (.head _)
  obtain ⟨ys,l,fys,hys⟩:=Ph F vs fun x hx=>h x (.tail _ hx)
  refine ⟨y::ys,by rw [List.length_cons,List.length_cons,l],fun z hz=>?_,fun Q q=>?_⟩
  ·rcases List.mem_cons.mp hz with e | e
   ·rw [e];exact fy
   ·exact fys z e
  ·rw [List.mapM_cons]
   exact wpAny_bind (hy _ (wpAny_bind (hys _ (wpAny_pure q))))
theorem mj (v:Value):firstOfTuple' v=(do
  if (←typeOf v) != .type "tuple" then return none
  return (←Builtin.List.listItems v)[0]?):=rfl
variable {O U:KeyOrd} {R:Heap→Value→O.α→Prop} {S:Heap→Value→U.α→Prop} {T V:String}
theorem j9 (e:El prog w O R T) {vs:List Value} (h:∀v∈vs,∃a,bK R S s.heap v a) (hn:vs≠[]) {Q:SortKind→Shared→Prop} (q:Q (tuples' (decide (T≠"tuple"))) s):wpAny (model prog w) A (keyKind' vs.toArray) Q E s:=by
 rw [keyKind'_eq,List.mapM_toArray]
 obtain ⟨ys,yl,yf,hy⟩:=Ph (M:=model prog w) (A:=A) (E:=E) (s:=s) (f:=firstOfTuple') (fun y=>∃x,y=some x∧s.TypeIs x T) vs fun v hv=>by
  obtain ⟨a,c,o,n,x,y,rfl,ho,hc,hd,h1,h2⟩:=h v hv
  refine ⟨some x,⟨x,rfl,e.ty h1⟩,fun Q q=>?_⟩
  rw [mj]
  refine wpAny_bind (wpAny_typeOf (T:="tuple") ⟨o,ho,hc⟩ ?_)
  rw [if_neg (by decide)]
  exact wpAny_bind (listItems_at ho hd (wpAny_pure q))
 refine wpAny_bind (wpAny_map ?_)
 refine hy _ ?_
 have al:ys.toArray.all (·.isSome)=true:=by
  rw [List.all_toArray,List.all_eq_true]
  intro y hy
  obtain ⟨x,rfl,_⟩:=yf y hy
  rfl
 rw [if_pos al]
 refine wpAny_bind (wpAny_rule ?_)
 rw [oneTypeOnly'_eq,List.filterMap_toArray,List.mapM_toArray]
 have ht:∀x∈ys.filterMap id,s.TypeIs x T:=fun x hx=>by
  obtain ⟨y,hy,ey⟩:=List.mem_filterMap.mp hx
  obtain ⟨x',rfl,t⟩:=yf y hy
  cases (show x'=x from Option.some.inj ey)
  exact t
 obtain ⟨ts,tl,tf,htt⟩:=Ph (M:=model prog w) (A:=A) (E:=E) (s:=s) (f:=typeOf) (fun y=>y=.type T) (ys.filterMap id) fun v hv=>⟨_,rfl,fun Q q=>wpAny_typeOf (ht v hv) q⟩
 refine wpAny_bind (wpAny_bind (wpAny_map ?_))
 refine htt _ ?_
 have fl:(ys.filterMap id).length=ys.length:=by
  clear hy al ht htt tl tf yl
  induction ys with
  | nil=>rfl
  | cons y ys ih=>
   obtain ⟨x,rfl,_⟩:=yf y (.head _)
   rw [show List.filterMap id (some x::ys)=x::ys.filterMap id from rfl,List.length_cons,List.length_cons,ih fun z hz=>yf z (.tail _ hz)]
 cases ts with
 | nil=>
  rw [List.length_nil,fl,yl] at tl
  exact absurd (List.eq_nil_of_length_eq_zero tl.symm) hn
 | cons t ts=>
  have t0:t=.type T:=tf t (.head _)
  subst t0
  show wpAny _ _ (pure (if ((Value.type T::ts).toArray.all (· == Value.type T))=true then some (Value.type T) else none)) _ _ s
  rw [if_pos (by
   rw [List.all_toArray,List.all_eq_true]
   intro y hy
   rw [tf y hy]
   exact beq_self_eq_true _)]
  refine wpAny_pure (wpAny_pure ?_)
  have z:(some (Value.type T)).any (· != Value.type "tuple")=decide (T≠"tuple"):=by
   show (Value.type T != Value.type "tuple")=_
   rw [Bool.eq_iff_iff,bne_iff_ne,decide_eq_true_iff]
   exact ⟨fun h e=>h (by rw [e]),fun h e=>h (by injection e)⟩
  rw [z]
  exact q
def tY {O:KeyOrd} (R:Value→O.α→Prop) (vs:List Value):Prop:=vs.Pairwise fun x y=>∀a b,R x a→R y b→O.blt b a=false
theorem Ol {vs:List Value} {p:Value×Value} (h:p∈vs.zip vs):p.1=p.2∧p.1∈vs:=mem_zip_self h
theorem gC {O:KeyOrd} {R:Value→O.α→Prop} (fn:∀{v a b},R v a→R v b→a=b) {d:O.α} {vs:List Value} (hk:∀v∈vs,∃a,R v a) {xs:Array Keyed} (pm:xs.Perm (pairsOf vs)) (r:Rz (dR O R d) xs (pairsOf vs).size):
  (xs.map (·.2)).toList.Perm vs∧tY R (xs.map (·.2)).toList:=by
 have pl:xs.toList.Perm (vs.zip vs):=by rw [←pairsOf_toList];exact Array.perm_iff_toList_perm.mp pm
 have both:∀p∈xs.toList,p.1=p.2∧p.1∈vs:=fun p hp=>Ol (pl.mem_iff.mp hp)
 rw [Array.toList_map]
 constructor
 ·have q:=pl.map Prod.snd
  rw [List.map_snd_zip (Nat.le_refl _)] at q
  exact q
 ·unfold tY
  rw [List.pairwise_iff_getElem]
  intro i j hi hj hij a b ha hb
  rw [List.length_map] at hi hj
  have hi':i<xs.size:=by rw [←Array.length_toList];exact hi
  have hj':j<xs.size:=by rw [←Array.length_toList];exact hj
  have key:∀{k:Nat} (hk':k<xs.size) {c:O.α},R xs[k].2 c→KK (dR O R d) xs k=c:=by
   intro k hk' c hc
   have e:=(both xs[k] (Array.mem_toList_iff.mpr (Array.getElem_mem hk'))).1
   rw [←e] at hc
   obtain ⟨c',h'⟩:=hG (d:=d) hc
   have:c'=c:=fn (Pu h') hc
   unfold KK
   rw [Array.getElem?_eq_getElem hk']
   show ((dR O R d).keyOf xs[k].1).getD _=c
   rw [h',this]
   rfl
  rw [List.getElem_map,Array.getElem_toList] at ha hb
  have q:=r i j (Nat.le_of_lt hij) (by rw [←pm.size_eq];exact hj')
  rw [key hi' ha,key hj' hb] at q
  exact q
theorem fe {h:Heap} {l b:Addr} {g:Obj→Obj} {o1 o2:Obj} (lt:b<h.objs.size):(((h.update l g).push o1).push o2).get? b=(h.update l g).get? b:=by
 have l1:b<(h.update l g).objs.size:=by rw [Heap.size_update];exact lt
 rw [Heap.get?_push_ne _ _ _ (Nat.ne_of_lt (by rw [size_push'];exact Nat.lt_succ_of_lt l1)),Heap.get?_push_ne _ _ _ (Nat.ne_of_lt l1)]
theorem jG {h:Heap} {l:Addr} {vs:List Value} {n:Nat} (ho:h.get? l=some (seqObj "list" vs.toArray n)) (o1 o2:Obj):cV h (((h.update l (Obj.mapSeq fun _=>#[])).push o1).push o2):=by
 intro b o hb hc
 have ne:b≠l:=fun z=>by
  rw [z,ho] at hb
  cases hb
  exact absurd hc (by show ¬Value.type "list"=Value.type "tuple";intro z;injection z with z;exact absurd z (by decide))
 have lt:=Heap.lt_size hb
 rw [fe lt,Heap.get?_update_ne _ _ _ _ ne]
 exact hb
theorem fK (e:El prog w O R T) (f:El prog w U S V) {l:Addr} {vs:List Value} {n:Nat} {P:Fin→Shared→Prop} (ho:s.heap.get? l=some (seqObj "list" vs.toArray n)) (hk:∀v∈vs,∃a,bK R S s.heap v a) (h64:vs.length<1000) (hu:A.units+8<cLine) (d:O.α×U.α)
  (fin:∀out:Array Value,out.toList.Perm vs→tY (O:=cE O U) (bK R S s.heap) out.toList→P (.done (.ret .none)) {s with heap:=sortedHeap s.heap l vs out}):wpAny (model prog w) A (Builtin.«list.sort» ⟨[.ref l],[]⟩) P E s:=by
 rw [list_sort_plain]
 refine wpAny_bind (listItems_at ho rfl ?_)
 refine wpAny_bind (listUpdate_at ho rfl ?_)
 obtain ⟨e1,ho1⟩:∃m,(s.heap.update l (Obj.mapSeq fun _=>#[])).get? l=some (seqObj "list" #[] m):=⟨_,get?_update_seq ho fun _=>#[]⟩
 refine wpAny_bind (seqEpoch_at ho1 rfl ?_)
 refine wpAny_bind (wpAny_newTuple ?_)
 refine wpAny_bind (wpAny_newList ?_)
 refine wpAny_holding ?_
 have ll:=Heap.lt_size ho
 have ho2:(((s.heap.update l (Obj.mapSeq fun _=>#[])).push (seqObj "tuple" vs.toArray 0)).push (seqObj "list" #[] 0)).get? l=some (seqObj "list" #[] e1):=by
  rw [fe ll]
  exact ho1
 have st:=jG ho (seqObj "tuple" vs.toArray 0) (seqObj "list" #[] 0)
 have hk':∀v∈vs,∃a,bK R S (((s.heap.update l (Obj.mapSeq fun _=>#[])).push (seqObj "tuple" vs.toArray 0)).push (seqObj "list" #[] 0)) v a:=fun v hv=>let ⟨a,h⟩:=hk v hv;⟨a,Xq e f st h⟩
 have back:∀{v a},v∈vs→bK R S s.heap v a→bK R S (((s.heap.update l (Obj.mapSeq fun _=>#[])).push (seqObj "tuple" vs.toArray 0)).push (seqObj "list" #[] 0)) v a:=fun _ h=>Xq e f st h
 show wpAny (model prog w) A _ P E {s with heap:=((s.heap.update l (Obj.mapSeq fun _=>#[])).push (seqObj "tuple" vs.toArray 0)).push (seqObj "list" #[] 0)}
 dsimp only
 have vsz:vs.toArray.size=vs.length:=List.size_toArray
 have finish:∀u:SortSt,(arrOf u).Perm (pairsOf vs)→failedOf u=none→Rz (dR (cE O U) (bK R S (((s.heap.update l (Obj.mapSeq fun _=>#[])).push (seqObj "tuple" vs.toArray 0)).push (seqObj "list" #[] 0))) d) (arrOf u) (pairsOf vs).size→
   P (.done (.ret .none)) {s with heap:=sortedHeap s.heap l vs ((arrOf u).map (·.2))}:=fun u pm _ r=>by
  obtain ⟨p1,p2⟩:=gC (O:=cE O U) (R:=bK R S (((s.heap.update l (Obj.mapSeq fun _=>#[])).push (seqObj "tuple" vs.toArray 0)).push (seqObj "list" #[] 0))) (fun h g=>jz e f h g) hk' pm r
  exact fin _ p1 (p2.imp_of_mem fun {x y} hx hy h a b ha hb=>h a b (back (p1.mem_iff.mp hx) ha) (back (p1.mem_iff.mp hy) hb))
 by_cases c:vs.toArray.size<2
 ·rw [if_pos c,if_pos c]
  refine wpAny_bind (wpAny_pure ?_)
  rw [StateT.run_pure]
  refine wpAny_bind (wpAny_pure ?_)
  dsimp only
  refine wpAny_bind (seqEpoch_at ho2 rfl ?_)
  refine wpAny_bind (listUpdate_at ho2 rfl ?_ (hsz2:=by rw [Array.size_map];show (pairsOf vs).size≤_;rw [pairsOf_size];exact Nat.le_trans (Nat.le_of_lt h64) (by decide)))
  rw [show (e1 != e1)=false from bne_self_eq_false e1]
  rw [if_neg Bool.false_ne_true]
  refine wpAny_pure (finish (SortSt.mk' general' (vs.toArray.zip vs.toArray) #[] 7 none) (Array.Perm.refl _) rfl fun i j hij hj=>?_)
  obtain rfl:i=j:=by rw [pairsOf_size] at hj;omega
  exact (dR (cE O U) _ d).irrefl _
 ·rw [if_neg c,if_neg c]
  have vn:vs≠[]:=fun z=>by rw [z] at c;exact c (by decide)
  refine wpAny_bind (j9 (O:=O) (U:=U) e hk' vn ?_)
  have hc:=kY (A:=A) (s:={s with heap:=((s.heap.update l (Obj.mapSeq fun _=>#[])).push (seqObj "tuple" vs.toArray 0)).push (seqObj "list" #[] 0)}) e f hu d (decide (T≠"tuple")) (fun z=>of_decide_eq_true z)
  refine wpAny_bind (wpAny_mono (L2T.runs_all (E:=E) (xs0:=pairsOf vs) (st:=SortSt.mk' (tuples' (decide (T≠"tuple"))) (vs.toArray.zip vs.toArray) #[] 7 none) (Q:=fun _ u=>(arrOf u).Perm (pairsOf vs)∧failedOf u=none∧Rz _ (arrOf u) (pairsOf vs).size) hc
   (fun p hp=>?_) ⟨Array.Perm.refl _,rfl,rfl,rfl⟩ (by rw [pairsOf_size];omega) fun u a1 a2 a3=>⟨a1,a2,a3⟩) ?_ fun _ _ z=>z)
  ·rw [pairsOf_toList] at hp
   obtain ⟨a,ha⟩:=hk' p.1 (Ol hp).2
   exact hG ha
  rintro ⟨⟨⟩,u⟩ s2 ⟨rfl,pm,fl,r⟩
  dsimp only
  refine wpAny_bind (seqEpoch_at ho2 rfl ?_)
  refine wpAny_bind (listUpdate_at ho2 rfl ?_ (hsz2:=by rw [Array.size_map];exact Nat.le_trans (Nat.le_of_eq (pm.size_eq.trans (pairsOf_size _))) (Nat.le_trans (Nat.le_of_lt h64) (by decide))))
  rw [fl]
  rw [show (e1 != e1)=false from bne_self_eq_false e1]
  rw [if_neg Bool.false_ne_true]
  exact wpAny_pure (finish u pm fl r)
end
section
variable {prog:Program} {w:World} {A:Around} {E:Value→Shared→Prop} {s:Shared}
end
section
variable {X:Cx}
theorem kR {as:List Addr} {out:List Value} (h:out.Perm (as.map Value.ref)):∃bs:List Addr,bs.Perm as∧out=bs.map Value.ref:=by
 let g:Value→Addr:=fun v=>match v with | .ref a=>a | _=>0
 refine ⟨out.map g,?_,?_⟩
 ·have q:=h.map g
  rw [List.map_map] at q
  rw [show (g∘Value.ref)=id from rfl,List.map_id] at q
  exact q
 ·rw [List.map_map]
  have e:∀l:List Value,(∀v∈l,∃a,v=.ref a)→l=l.map (Value.ref∘g):=fun l hl=>by
   induction l with
   | nil=>rfl
   | cons v l ih=>
    obtain ⟨a,rfl⟩:=hl v (.head _)
    rw [List.map_cons,←ih fun x hx=>hl x (.tail _ hx)]
    rfl
  exact e out fun v hv=>by
   obtain ⟨a,_,rfl⟩:=List.mem_map.mp (h.mem_iff.mp hv)
   exact ⟨a,rfl⟩
theorem fw {pins:List (Addr×Obj)} {σ:St} {H:Hp} {s:Shared} {a:Addr} {x y:V} (I:Inv X pins σ H s) (h:H a=some (.tup [x,y])):∃o n u v,s.heap.get? a=some o∧o.cls=.type "tuple"∧o.data=.seq #[u,v] n∧RelV x u∧RelV y v:=by
 obtain ⟨_,its,r,o,e1,e2,n,e3⟩:=(show ObjOk X.prog X.w H s.heap a (.tup [x,y]) from I.hok a _ h)
 obtain ⟨u,v,rfl,ru,rv⟩:=iu r
 exact ⟨o,n,u,v,e1,e2.1,e3,ru,rv⟩
def FII (H:Hp) (a:Addr) (k:(cE aN aN).α):Prop:=∃(i j:Int),H a=some (.tup [.int i,.int j])∧k=(i,j)
def FTI (H:Hp) (a:Addr) (k:(cE (cE aN aN) aN).α):Prop:=∃(b:Addr) (i j n:Int),H a=some (.tup [.ref b,.int n])∧H b=some (.tup [.int i,.int j])∧k=((i,j),n)
end
def RwD (h:Heap) (d:Addr) (es:Array DictEntry) (ep:Nat):Prop:=∃o,h.get? d=some o∧o.ExactDict∧o.data=.dict es ep
theorem RwD.typeIs {s:Shared} {d:Addr} {es:Array DictEntry} {ep:Nat} (x:RwD s.heap d es ep):s.TypeIs (.ref d) "dict":=let ⟨o,h,c,_⟩:=x;⟨o,h,c.1⟩
theorem RwD.at {h g:Heap} {d:Addr} {es:Array DictEntry} {ep:Nat} (x:RwD h d es ep) (k:∀o,h.get? d=some o→g.get? d=some o):RwD g d es ep:=let ⟨o,h,r⟩:=x;⟨o,k _ h,r⟩
theorem RwD.lt {h:Heap} {d:Addr} {es:Array DictEntry} {ep:Nat} (x:RwD h d es ep):d<h.objs.size:=let ⟨_,h,_⟩:=x;Heap.lt_size h
theorem Rp:Builtin.Dict_items.ownsTuple "dict_keyiterator"=false∧Builtin.Dict_items.ownsTuple "dict_valueiterator"=false∧Builtin.Dict_items.ownsTuple "dict_itemiterator"=true:=by decide
theorem T7 (d:Addr):¬((Value.ref d == Value.none)=true):=Bool.false_ne_true
section
variable {prog:Program} {w:World} {A:Around} {E:Value→Shared→Prop} {s:Shared} {it d:Addr} {i ep:Nat} {es:Array DictEntry}
theorem bP {α β:Type} {M:Model} {a:α} {k:α→Sem β} {Q:β→Shared→Prop} (h:wpAny M A (k a) Q E s):wpAny M A (pure a >>= k) Q E s:=wpAny_bind (wpAny_pure h)
theorem Sq {T id:String} {B:Builtin} {Q:Option Value→Shared→Prop} (ty:s.TypeIs (.ref it) T) (sl:Slot T (Str.ofString "__next__") id) (en:entryFor table id=some B) (ar:argsOk id {pos:=[.ref it]})
  (h:wpAny (model prog w) A.in1 (B ⟨[.ref it],[]⟩) (fun fin s'=>∃v,fin=.done (.ret v)∧Q (some v) s') (fun e s'=>s'.TypeIs e "StopIteration"∧Q none s') s):wpAny (model prog w) A (pyNext (.ref it)) Q E s:=by
 unfold pyNext
 refine wpAny_bind (wpAny_attempt (wpAny_callSpecial?_slotG ty sl.toG (wpAny_mono (wpAny_call_entry sl ty en (Q:=fun v s'=>Q (some v) s') h ar) (fun v s' q=>wpAny_pure q) (fun e s' q=>?_))))
 exact wpAny_bind (wpAny_isInstance q.1 isSubtype_stop (by rw [if_pos rfl];exact wpAny_pure q.2))
theorem iU {Q:Option Value→Shared→Prop} (zi:s.heap.IsKeyIter it d i es.size ep) (zm:RwD s.heap d es ep) (zx:i<es.size)
  (zq:∀g:Heap,g.IsKeyIter it d (i+1) es.size ep→Heap.SameBut it s.heap g→Q (some es[i].key) {s with heap:=g}):wpAny (model prog w) A (pyNext (.ref it)) Q E s:=by
 obtain ⟨o,go,co,fo⟩:=id zi
 obtain ⟨od,yo,_,yd⟩:=zm
 refine Sq zi.typeIs PySem.F.slot_dict_keyiterator_next PySem.F.entry_dict_keyiterator_next (PySem.F.args_dict_keyiterator_next_1 _) (bP (wpAny_bind (wpAny_bind (wpAny_bind (wpAny_typeNameOfWhole_keyiter zi.typeIs (wpAny_pure (wpAny_bind (wpAny_fieldsOf go fo ?_))))))))
 simp only [Rp.1,Bool.false_eq_true,if_false]
 show wpAny (model prog w) _ (if (Value.ref d == Value.none)=true then _ else _) _ _ s
 rw [if_neg (T7 d)];refine bP (wpAny_bind (wpAny_dictEntries yo yd ?_))
 rw [if_neg (by simp)];refine bP (wpAny_bind (wpAny_dictEpoch yo yd ?_))
 rw [if_neg (by simp)];refine wpAny_pure ?_
 simp only [show ¬((i:Int)<0) from by omega,if_false,Int.toNat_natCast,Array.getElem?_eq_getElem zx]
 refine wpAny_bind (wpAny_bind (wpAny_typeNameOfWhole_keyiter zi.typeIs (wpAny_pure (wpAny_bind (wpAny_isOneOf_keyiter zi.typeIs ?_)))))
 show wpAny _ _ (setField (.ref it) 1 (rawInt ((i:Int)+1)) >>= fun _=>_) _ _ s
 refine wpAny_bind (wpAny_setField go fo (by simp) ?_)
 have zj:(s.heap.update it (Obj.mapFields (·.setIfInBounds 1 (rawInt ((i:Int)+1))))).IsKeyIter it d (i+1) es.size ep:=⟨_,Heap.get?_update_self _ go (Obj.isFreed_of_fields (Obj.data_mapFields fo _)),(Obj.cls_mapFields ..).trans co,by rw [Obj.data_mapFields fo];simp [rawInt]⟩
 have ty:Shared.TypeIs {s with heap:=s.heap.update it (Obj.mapFields (·.setIfInBounds 1 (rawInt ((i:Int)+1))))} (.ref it) "dict_keyiterator":=zj.typeIs
 refine wpAny_bind (wpAny_holding (wpAny_bind (wpAny_isOneOf_keyiter ty ?_)))
 show wpAny _ _ (pure es[i].key) _ _ {s with heap:=_}
 exact wpAny_pure (wpAny_pure ⟨_,rfl,zq _ zj (Heap.SameBut.update ..)⟩)
theorem ie {Q:Option Value→Shared→Prop} (zh:A.handled=none) (zi:s.heap.IsKeyIter it d i es.size ep) (zm:RwD s.heap d es ep) (zx:es.size≤i) (zq:∀g:Heap,Heap.ExtBut it s.heap g→Q none {s with heap:=g}):wpAny (model prog w) A (pyNext (.ref it)) Q E s:=by
 obtain ⟨o,go,co,fo⟩:=id zi
 obtain ⟨od,yo,_,yd⟩:=zm
 refine Sq zi.typeIs PySem.F.slot_dict_keyiterator_next PySem.F.entry_dict_keyiterator_next (PySem.F.args_dict_keyiterator_next_1 _) (bP (wpAny_bind (wpAny_bind (wpAny_bind (wpAny_typeNameOfWhole_keyiter zi.typeIs (wpAny_pure (wpAny_bind (wpAny_fieldsOf go fo ?_))))))))
 simp only [Rp.1,Bool.false_eq_true,if_false]
 show wpAny (model prog w) _ (if (Value.ref d == Value.none)=true then _ else _) _ _ s
 rw [if_neg (T7 d)];refine bP (wpAny_bind (wpAny_dictEntries yo yd ?_))
 rw [if_neg (by simp)];refine bP (wpAny_bind (wpAny_dictEpoch yo yd ?_))
 rw [if_neg (by simp)];refine wpAny_pure ?_
 simp only [show ¬((i:Int)<0) from by omega,if_false,Int.toNat_natCast,Array.getElem?_eq_none zx]
 refine wpAny_bind (wpAny_bind (wpAny_typeNameOfWhole_keyiter zi.typeIs (wpAny_pure ?_)))
 show wpAny _ _ (setField (.ref it) 0 .none >>= fun _=>_) _ _ s
 refine wpAny_bind (wpAny_setField go fo (by simp) (Rf (by simpa using zh) fun g e k ty=>⟨ty,zq g fun b u nb eb=>k b u ?_⟩))
 exact (Heap.get?_update_other _ _ (Ne.symm nb)).trans eb
theorem jf {Q:Value→Shared→Prop} (lo:(d == sysModules)=false) (zm:RwD s.heap d es ep)
  (zq:Q (.ref s.heap.objs.size) {s with heap:=s.heap.push {cls:=.type "dict_keyiterator",data:=.fields #[.ref d,.int 0 0,.int es.size 0,.int ep 0]}}):wpAny (model prog w) A (pyIter (.ref d)) Q E s:=by
 obtain ⟨o,yo,_,yd⟩:=id zm
 refine wpAny_pyIter_slot zm.typeIs PySem.F.slot_dict_iter (wpAny_call_entry PySem.F.slot_dict_iter zm.typeIs PySem.F.entry_dict_iter (wpAny_bind (wpAny_bind (wpAny_notOrdered_dict zm.typeIs ?_))) (PySem.F.args_dict_iter_1 _))
 show wpAny (model prog w) _ (pure (Value.ref d)) _ _ s
 refine wpAny_pure (show wpAny (model prog w) _ (Builtin.Dict.showsAll d >>= fun _=>_) _ _ s from wpAny_bind ?_)
 unfold Builtin.Dict.showsAll;rw [lo,if_neg (by decide)]
 refine wpAny_pure (wpAny_bind (wpAny_dictEntries yo yd (wpAny_bind (wpAny_dictEpoch yo yd (wpAny_bind (wpAny_newObj_type (wpAny_pure ⟨_,rfl,"dict_keyiterator",_,⟨_,Heap.get?_push_size _ rfl,rfl⟩,PySem.F.slot_dict_keyiterator_next.lookup,?_⟩)))))))
 simpa [rawInt] using zq
theorem nW (zh:A.handled=none) (I d:Addr) (ne:d≠I) (es:Array DictEntry) (ep:Nat):Walks prog w A I [I,d] [I] es.size (fun i v=>∃e,es[i]?=some e∧v=e.key) (fun i h=>h.IsKeyIter I d i es.size ep∧RwD h d es ep) where
 sub:=fun b zb=>by rw [List.mem_singleton.mp zb];exact .head _
 frame:=fun _ _ _ st k=>⟨st.1.at fun o e=>k I (.head _) o e,st.2.at fun o e=>k d (.tail _ (.head _)) o e⟩
 item:=fun i s Q E zi st q=>iU st.1 st.2 zi fun g z sb=>q _ g s.toks ⟨_,Array.getElem?_eq_getElem zi,rfl⟩ ⟨z,st.2.at fun o e=>sb.extBut d o ne e⟩ fun b o nb e=>sb.extBut b o (fun z=>nb (by rw [z];exact .head _)) e
 done:=fun s Q E st q=>ie zh st.1 st.2 (Nat.le_refl _) fun g x=>q g s.toks fun b o nb e=>x b o (fun z=>nb (by rw [z];exact .head _)) e
 self:=fun _ _ _ _ st q=>wpAny_pyIter_keyiter st.1 q
theorem rO (lo:(d == sysModules)=false):W.KdlSrc prog w "dict" d d es.size (fun i v=>∃e,es[i]?=some e∧v=e.key) (fun h=>RwD h d es ep) where
 type:=fun _ z=>z.typeIs
 there:=fun _ z=>⟨z.lt,z.lt⟩
 keep:=fun _ _ z k=>z.at fun o e=>k d (.inl rfl) o e
 notList:=by decide
 notTuple:=by decide
 hint:=fun _ _ _ _ z q=>W.kdl_hint_dict z.typeIs q
 iter:=fun _ _ zh z=>⟨_,_,(fun _ _ q=>jf lo z q),nW zh _ d (Nat.ne_of_lt z.lt) es ep,⟨⟨_,Heap.get?_push_size _ rfl,rfl,rfl⟩,z.at fun o e=>Heap.get?_push_of_some _ e⟩⟩
theorem nh {f:DictEntry→Value} {xs:Array Value} (h:ItemsOf (fun i v=>∃e,es[i]?=some e∧v=f e) xs es.size):xs.toList=es.toList.map f:=by
 obtain ⟨sz,at_⟩:=h
 refine List.ext_getElem? fun j=>?_
 rw [Array.getElem?_toList,List.getElem?_map,Array.getElem?_toList]
 by_cases hj:j<xs.size
 ·obtain ⟨e,h1,h2⟩:=at_ j xs[j] (Array.getElem?_eq_getElem hj)
  rw [Array.getElem?_eq_getElem hj,h1,h2]
  rfl
 ·rw [Array.getElem?_eq_none (by omega),Array.getElem?_eq_none (by omega)]
  rfl
end
abbrev Sps:=List ((Int×Int)×Int)
def kk (p:Int×Int):List Key:=[.inl p.1,.inl p.2]
def ao (ps:Sps):List (List Key×V):=ps.map fun p=>(kk p.1,.int p.2)
theorem Vc {p q:Int×Int} (e:kk p=kk q):p=q:=by
 unfold kk at e
 injection e with e1 e2
 injection e2 with e2 _
 exact Prod.ext (Sum.inl.inj e1) (Sum.inl.inj e2)
theorem Yi (ps:Sps):(ao ps).length=ps.length:=List.length_map _
theorem Vx (ps:Sps):(ao ps).map (·.1)=(ps.map (·.1)).map kk:=by
 unfold ao
 rw [List.map_map,List.map_map]
 rfl
def KsAt (H:Hp):List Addr→List (Int×Int)→Prop:=Paired fun b k=>H b=some (.tup [.int k.1,.int k.2])
theorem KsAt.mono {H H':Hp} {bs:List Addr} {ks:List (Int×Int)} (h:KsAt H bs ks) (g:∀b xs,H b=some (.tup xs)→H' b=some (.tup xs)):KsAt H' bs ks:=Paired.mapP h fun _ _ e=>g _ _ e
def leK (a b:Int×Int):Bool:=decide (a.1<b.1) || (decide (a.1=b.1) && decide (a.2≤b.2))
theorem X6 {a b:Int×Int}:leK a b=true↔a.1<b.1∨(a.1=b.1∧a.2≤b.2):=by
 unfold leK
 simp only [Bool.or_eq_true,Bool.and_eq_true,decide_eq_true_iff]
theorem kL (a b:Int×Int):(leK a b || leK b a)=true:=by
 rw [Bool.or_eq_true,X6,X6]
 omega
theorem jH (a b c:Int×Int) (h1:leK a b=true) (h2:leK b c=true):leK a c=true:=by
 rw [X6] at *
 omega
theorem lY {a b:Int×Int} (h1:leK a b=true) (h2:leK b a=true):a=b:=by
 rw [X6] at h1 h2
 exact Prod.ext (by omega) (by omega)
def cx (ks:List (Int×Int)):List (Int×Int):=ks.mergeSort leK
theorem Yz (ks:List (Int×Int)):(cx ks).Perm ks:=List.mergeSort_perm _ _
theorem T5 (ks:List (Int×Int)):(cx ks).Pairwise (fun a b=>leK a b=true):=List.pairwise_mergeSort jH kL ks
theorem Re:∀{l m:List (Int×Int)},l.Perm m→l.Pairwise (fun a b=>leK a b=true)→m.Pairwise (fun a b=>leK a b=true)→l=m
 | [],m,p,_,_=>List.Perm.nil_eq p
 | a::l,[],p,_,_=>absurd p.length_eq (by simp)
 | a::l,b::m,p,h1,h2=>by
  have e:a=b:=by
   rcases List.mem_cons.mp (p.mem_iff.mp List.mem_cons_self) with q | q
   ·exact q
   ·rcases List.mem_cons.mp (p.mem_iff.mpr List.mem_cons_self) with r | r
    ·exact r.symm
    ·exact lY ((List.pairwise_cons.mp h1).1 b r) ((List.pairwise_cons.mp h2).1 a q)
  subst e
  rw [Re ((List.perm_cons a).mp p) (List.pairwise_cons.mp h1).2 (List.pairwise_cons.mp h2).2]
theorem jY {H:Hp} {as bs:List Addr} {ks:List (Int×Int)} (h:KsAt H as ks) (p:bs.Perm as) (pw:bs.Pairwise fun a b=>∀k l,FII H a k→FII H b l→(cE aN aN).blt l k=false):KsAt H bs (cx ks):=by
 let key:Addr→Int×Int:=fun b=>match H b with
  | some (.tup [.int i,.int j])=>(i,j)
  | _=>(0,0)
 have kat:∀{b:Addr} {k:Int×Int},H b=some (.tup [.int k.1,.int k.2])→key b=k:=fun {b k} e=>by
  show (match H b with | some (.tup [.int i,.int j])=>(i,j) | _=>(0,0))=k
  rw [e]
 have all:∀{l:List Addr} {m:List (Int×Int)},KsAt H l m→l.map key=m∧∀b∈l,H b=some (.tup [.int (key b).1,.int (key b).2]):=fun {l m} r=>by
  induction r with
  | nil=>exact ⟨rfl,fun _ h=>nomatch h⟩
  | @cons b k l m e _ ih=>
   have kb:=kat e
   refine ⟨by rw [List.map_cons,kb,ih.1],fun c hc=>?_⟩
   rcases List.mem_cons.mp hc with rfl | hc
   ·rw [kb];exact e
   ·exact ih.2 c hc
 obtain ⟨e1,e2⟩:=all h
 have atb:∀b∈bs,H b=some (.tup [.int (key b).1,.int (key b).2]):=fun b hb=>e2 b (p.mem_iff.mp hb)
 have back:∀{l:List Addr},(∀b∈l,H b=some (.tup [.int (key b).1,.int (key b).2]))→KsAt H l (l.map key):=fun {l} hl=>by
  induction l with
  | nil=>exact .nil
  | cons b l ih=>exact .cons (hl b (.head _)) (ih fun c hc=>hl c (.tail _ hc))
 have eq:bs.map key=cx ks:=by
  refine Re ((p.map key).trans (by rw [e1];exact (Yz ks).symm)) (List.pairwise_map.mpr (pw.imp_of_mem fun {a b} ha hb q=>?_)) (T5 ks)
  have q:=q (key a) (key b) ⟨_,_,atb a ha,rfl⟩ ⟨_,_,atb b hb,rfl⟩
  rw [X6]
  by_cases c:(key a).1<(key b).1
  ·exact .inl c
  ·by_cases c2:(key b).1<(key a).1
   ·exact absurd (Yb (O:=aN) (U:=aN) (a:=key b) (b:=key a) |>.mpr (.inl (decide_eq_true c2))) (by rw [show cQ aN aN (key b) (key a)=false from q];decide)
   ·have e:(key b).1=(key a).1:=by omega
    by_cases c3:(key b).2<(key a).2
    ·exact absurd (Yb (O:=aN) (U:=aN) (a:=key b) (b:=key a) |>.mpr (.inr ⟨e,decide_eq_true c3⟩)) (by rw [show cQ aN aN (key b) (key a)=false from q];decide)
    ·exact .inr ⟨e.symm,by omega⟩
 rw [←eq]
 exact back atb
section
variable {X:Cx}
theorem Qw {O U:KeyOrd} {R:Heap→Value→O.α→Prop} {S:Heap→Value→U.α→Prop} {T W:String} (e:El X.prog X.w O R T) (f:El X.prog X.w U S W) (F:Hp→Addr→(cE O U).α→Prop)
  (br:∀{pins:List (Addr×Obj)} {σ:St} {H:Hp} {s:Shared} {a:Addr} {k:O.α×U.α},Inv X pins σ H s→F H a k→bK R S s.heap (.ref a) k) (d:O.α×U.α) (hu:X.A.units+64<cLine)
  {pins:List (Addr×Obj)} {s:Shared} {σ:St} {p:Addr} {Q:VK}
  (src:∀{E:Value→Shared→Prop} {C:List Value→Shared→Prop},(∀(g:Heap) (tk:Nat) (H:Hp) (as:List Addr),Inv X pins σ H {s with heap:=g,toks:=tk}→as.length<1000→(∀a∈as,∃k,F H a k)→
   (∀bs:List Addr,bs.Perm as→(bs.Pairwise fun a b=>∀k l,F H a k→F H b l→(cE O U).blt l k=false)→∀q,H q=none→Q (.ref q) (upd H q (.lst (bs.map V.ref))))→C (as.map Value.ref) {s with heap:=g,toks:=tk})→wpAny (model X.prog X.w) X.A.in1 (collect (.ref p)) C E s):
  wpAny (model X.prog X.w) X.A (call (.builtin "sorted") [.ref p]) (EP X pins σ Q) X.xe s:=by
 refine Calls.call_function_entry kind_sorted plain_sorted entry_sorted (args_sorted1 _) ?_
 unfold Builtin.«sorted»
 refine wpAny_bind (m:=checkCount "sorted" 1 1 _) (wpAny_pure (wpAny_bind (src fun g tk H as I h64 hk q=>wpAny_bind (wpAny_newList ?_ (by rw [List.length_map];exact Zn (by omega))))))
 have hoL:(g.push (seqObj "list" (as.map Value.ref).toArray 0)).get? g.objs.size=some (seqObj "list" (as.map Value.ref).toArray 0):=Heap.get?_push_size _ rfl
 have st:cV g (g.push (seqObj "list" (as.map Value.ref).toArray 0)):=fun b ob e _=>Heap.get?_push_of_some _ e
 refine wpAny_bind (wpAny_holding (wpAny_call_entry slot_list_sort ⟨_,hoL,rfl⟩ entry_list_sort (fK e f hoL (fun v hv=>?_) (by rw [List.length_map];exact h64) (by show X.A.units+1+1+8<_;omega) d fun out op os=>⟨_,rfl,?_⟩) (args_list_sort _)))
 ·obtain ⟨a,ha,rfl⟩:=List.mem_map.mp hv
  obtain ⟨k,fk⟩:=hk a ha
  exact ⟨k,Xq e f st (br I fk)⟩
 refine wpAny_pure ⟨_,rfl,?_⟩
 obtain ⟨bs,bp,be⟩:=kR op
 obtain ⟨e2,he2⟩:=sortedHeap_at (vs:=as.map Value.ref) (out:=out) hoL
 refine ⟨.ref g.objs.size,_,I.laid (t':=tk) (o:=.lst (bs.map V.ref)) (fun b ob e=>?_) (Nat.le_refl _) ?_,rfl,q bs bp ?_ _ (I.hok.fresh (Nat.le_refl _))⟩
 ·have hlt:=Heap.lt_size e
  rw [sortedHeap_old (Nat.ne_of_lt hlt) (by rw [size_push'];exact Nat.lt_succ_of_lt hlt)]
  exact Heap.get?_push_of_some _ e
 ·refine ⟨by rw [List.length_map,bp.length_eq];exact Zn (by omega),bs.map Value.ref,e2,Qy bs,?_⟩
  rw [←be,Array.toArray_toList]
  exact he2
 ·rw [be] at os
  exact (List.pairwise_map.mp os).imp_of_mem fun {a b} ha hb h k l fk fl=>h k l (Xq e f st (br I fk)) (Xq e f st (br I fl))
theorem gP {P:Program} {w:World} {H:Hp} {h:Heap} {d:Addr} {kvs:List (List Key×V)} (ok:HOk P w H h) (e:Rd H d (.dT kvs)):kvs.length≤sizeLine∧(d == sysModules)=false∧∃(xs:List (List Key×Addr×Value)) (es:Array DictEntry) (ep:Nat),KT H kvs xs∧RwD h d es ep∧
  es.toList.map DictEntry.key=(xs.map fun x=>x.2.1).map Value.ref∧es.toList.map DictEntry.val=xs.map (fun x=>x.2.2)∧es.size=kvs.length:=by
 obtain ⟨z,lo,xs,r,o,es,ep,h1,h2,h3,h4,_⟩:=(show ObjOk P w H h d (.dT kvs) from lc ok e)
 refine ⟨z,lo,xs,es,ep,r,⟨o,h1,h2,h3⟩,?_,?_,?_⟩
 ·rw [h4,List.map_map,List.map_map]
  rfl
 ·rw [h4,List.map_map]
  rfl
 ·rw [←Array.length_toList,h4,List.length_map,←Paired.length r]
theorem re {H:Hp}:∀{ps:Sps} {xs:List (List Key×Addr×Value)},KT H (ao ps) xs→KsAt H (xs.map fun x=>x.2.1) (ps.map (·.1))
 | [],xs,r=>by
  cases (show KT H [] xs from r)
  exact .nil
 | p::ps,xs,r=>by
  cases (show KT H ((kk p.1,.int p.2)::ao ps) xs from r) with
  | cons h t=>exact .cons h.2.1 (re t)
def pG:List V→Hp→VK→Prop:=fun xs H Q=>∃(d:Addr) (ps:Sps),xs=[.ref d]∧H d=some (.dT (ao ps))∧ps.length<1000∧∀bs:List Addr,KsAt H bs (cx (ps.map (·.1)))→∀q,H q=none→Q (.ref q) (upd H q (.lst (bs.map V.ref)))
theorem tI {H:Hp} {as:List Addr} {ks:List (Int×Int)} (h:KsAt H as ks):∀a∈as,∃k,FII H a k:=by
 induction h with
 | nil=>exact fun _ h=>nomatch h
 | cons e r ih=>exact fun b h=>(List.mem_cons.mp h).elim (fun z=>by rw [z];exact ⟨_,_,_,e,rfl⟩) (ih b)
theorem Vv (hc:X.calm=true) (hu:X.A.units+64<cLine):bZ X (.builtin "sorted") pG:=by
 intro pins s σ H xs us Q I rx h
 obtain ⟨d,ps,rfl,hd,h64,q⟩:=h
 obtain ⟨u,rfl,ru⟩:=Ve rx
 cases ru
 obtain ⟨_,lo,es0,es,ep,kt,raw,ek,_,sz⟩:=gP I.hok (.inl hd)
 rw [Yi] at sz
 have ka:=re kt
 have al:(es0.map fun x=>x.2.1).length<1000:=by rw [List.length_map,←Paired.length kt,Yi];exact h64
 refine Qw (Uv (prog:=X.prog) (w:=X.w)) (Uv (prog:=X.prog) (w:=X.w)) FII (fun {pins σ H s a k} I h=>?_) ((0:Int),(0:Int)) hu (fun {E C} hC=>?_)
 ·obtain ⟨i,j,h,rfl⟩:=h
  obtain ⟨o,m,u,v,e1,e2,e3,⟨t,ru⟩,⟨t',rv⟩⟩:=fw I h
  exact ⟨a,o,m,u,v,rfl,e1,e2,e3,⟨t,ru⟩,⟨t',rv⟩⟩
 ·refine Sg (A:=X.A.in1) (rO lo) (by simpa using I.ok.hd hc) raw (Zn (by omega)) fun g tk acc kp lt it=>?_
  rw [nh it,ek]
  exact hC g tk H _ (I.kept kp) al (tI ka) fun bs bp pw=>q bs (jY ka bp pw)
end
section
variable {X:Cx}
theorem gh {K:W.Frag} {H:Hp} {d:Addr} {kvs:List (List Key×V)} (h:H d=some (.dT kvs)):tyV K "dict" (.ref d) H:=.inr (.inr (.inl ⟨rfl,.inr ⟨kvs,h⟩⟩))
theorem fg {prog:Program} {w:World} (d:Addr) (lo:(d == sysModules)=false):MeetsIn prog w (Builtin.«dict.items» ⟨[.ref d],[]⟩) (fun _ R s=>s.TypeIs (.ref d) "dict"∧R (.ok (.ret (.ref s.heap.objs.size))) {s with heap:=s.heap.push {cls:=.type "dict_items",data:=.fields #[.ref d]}}):=
 .of_wp fun A R s ⟨ty,h⟩=>by
  unfold Builtin.«dict.items»
  refine wpAny_bind (wpAny_bind (wpAny_notOrdered_dict ty (show wpAny (model prog w) _ (pure d) _ _ s from wpAny_pure (wpAny_bind ?_))))
  unfold Builtin.Dict.showsAll;rw [lo,if_neg (by decide)]
  exact wpAny_pure (wpAny_bind (wpAny_newObj_type (wpAny_pure ⟨_,rfl,h⟩)))
def sJ (w:Addr→Addr→HO):V→List V→Hp→VK→Prop:=fun x vs H Q=>∃d kvs,x=.ref d∧vs=[]∧H d=some (.dT kvs)∧∀a,H a=none→Q (.ref a) (upd H a (w a d))
theorem P0:MtR X "dict.items" (sJ dj):=by
 intro pins s σ H x vs v us Q I rx rv h
 obtain ⟨d,kvs,rfl,rfl,hd,q⟩:=h
 cases rx
 cases rv
 obtain ⟨_,lo,_,es,ep,_,raw,_⟩:=gP I.hok (.inl hd)
 refine call_meetsIn PySem.F.slot_dict_items raw.typeIs PySem.F.entry_dict_items (PySem.F.args_dict_items_1 _) (fg d lo) ⟨raw.typeIs,.ref s.heap.objs.size,_,I.laid (t':=s.toks) (o:=dj s.heap.objs.size d) (fun b o e=>Heap.get?_push_of_some _ e) (Nat.le_refl _) ?_,rfl,q _ (I.hok.fresh (Nat.le_refl _))⟩
 exact ⟨⟨_,Heap.get?_push_size _ rfl,rfl,rfl⟩,⟨_,Heap.get?_push_size _ rfl⟩,fun h1 h2 x k=>let ⟨o,ho,r⟩:=x;⟨o,k o ho,r⟩⟩
end
section
variable {X:Cx} {pins:List (Addr×Obj)} {σ:St} {H:Hp} {s:Shared}
theorem gE {H:Hp}:∀{kvs:List (List Key×V)} {xs:List (List Key×Addr×Value)} {i:Nat} {p:List Key×V},KT H kvs xs→kvs[i]?=some p→∃x,xs[i]?=some x∧H x.2.1=some (.tup (p.1.map kV))∧RelV p.2 x.2.2
 | _,_,_,_,.nil,e=>by simp at e
 | _,_,0,_,.cons h _,e=>by
  rw [List.getElem?_cons_zero] at e
  cases e
  exact ⟨_,rfl,h.2.1,h.2.2⟩
 | _,_,i+1,_,.cons _ r,e=>gE (i:=i) r (by simpa using e)
theorem Inv.thawT {d:Addr} {o:Obj} {kvs:List (List Key×V)} (nf:∀o u,X.H₀ d≠some (.frz o u)) (I:Inv X pins σ H s) (h:H d=some (.frz o (.dT kvs))):Inv X pins σ (upd H d (.dT kvs)) s:=by
 have nd:∀b,H b=none→upd H d (.dT kvs) b=none:=fun b e=>by rw [Zb (Ne.symm (Zi h e))];exact e
 have ot:∀b u,H b=some u→u≠.frz o (.dT kvs)→upd H d (.dT kvs) b=some u:=fun b u e n=>by rw [Zb (Tj e h n)];exact e
 have tu:∀b xs,H b=some (.tup xs)→upd H d (.dT kvs) b=some (.tup xs):=fun b xs e=>ot b _ e (by intro z;cases z)
 refine ⟨I.ok,I.os,I.bare,⟨I.base.keep,I.base.slot,fun b ob q n hx=>nd b (I.base.free b ob q n hx),I.base.there,fun b xs e=>tu b _ (I.base.tups b xs e),fun b ob u e=>?_,fun b ps e=>?_⟩,I.loc,I.cell,nd _ I.free,fun x c e=>nd c (I.freeC x c e),fun p hp=>?_,fun b u e=>?_,I.len⟩
 ·rw [Zb (fun z=>nf ob u (by rw [←z];exact e))]
  exact I.base.frzs b ob u e
 ·obtain ⟨m,q⟩:=I.base.tbls b ps e
  exact ⟨m,ot b _ q (by intro z;cases z)⟩
 ·obtain ⟨h1,h2,h3⟩:=I.pin p hp
  exact ⟨h1,nd _ h2,h3⟩
 ·by_cases hb:b=d
  ·subst hb
   rw [Z4] at e
   cases e
   obtain ⟨z,lo,xs,kt,r⟩:=(show ObjOk X.prog X.w H s.heap b (.dT kvs) from (I.hok b _ h).2)
   exact ⟨z,lo,xs,KT.keeps kt tu,r⟩
  ·rw [Zb hb] at e
   exact (I.hok b u e).stay (fun _ _ _ q=>q) (fun c q=>ot c _ q (by intro z;cases z)) fun c xs q=>tu c xs q
theorem Inv.freezeT {d:Addr} {kvs:List (List Key×V)} (I:Inv X pins σ H s) (h:H d=some (.dT kvs)):∃o,Inv X pins σ (upd H d (.frz o (.dT kvs))) s∧∀o u,X.H₀ d≠some (.frz o u):=by
 obtain ⟨z,lo,xs,kt,o,es,ep,ho,r⟩:=(show ObjOk X.prog X.w H s.heap d (.dT kvs) from I.hok d _ h)
 have tu:∀b ys,H b=some (.tup ys)→upd H d (.frz o (.dT kvs)) b=some (.tup ys):=fun b ys e=>by rw [Zb (Tj e h (by intro z;cases z))];exact e
 refine ⟨o,I.write (x:=d) (e:=d) (t':=s.toks) (h':=s.heap) (by rw [h];exact trivial) (.inl rfl) (fun _ _ _ q=>q) ⟨o,ho⟩ ⟨ho,z,lo,xs,KT.keeps kt tu,o,es,ep,ho,r⟩,fun o' u e=>?_⟩
 have q:=I.base.frzs d o' u e
 rw [h] at q
 cases q
def vO (t:TE):TE:=fun σ H Q=>∃(d:Addr) (kvs:List (List Key×V)),H d=some (.dT kvs)∧∀o,t σ (upd H d (.frz o (.dT kvs))) fun v H2=>H2 d=some (.frz o (.dT kvs))∧Q v (upd H2 d (.dT kvs))
theorem qL {e:Expr} {t:TE} (h:PE X e t):PE X e (vO t):=by
 intro pins s σ H Q I hw
 obtain ⟨d,kvs,hd,q⟩:=hw
 obtain ⟨o,I1,nf⟩:=I.freezeT hd
 exact thn (h pins s σ _ _ I1 (q o)) fun v s1 ⟨x,H1,I2,r,hd2,q2⟩=>⟨x,_,I2.thawT nf hd2,r,q2⟩
def tE (d:Addr) (kvs:List (List Key×V)) (o:Obj):It:=⟨fun i H=>i<kvs.length∧H d=some (.frz o (.dT kvs)),fun i H x H'=>H'=H∧∃p b,kvs[i]?=some p∧x=.ref b∧H b=some (.tup (p.1.map kV)),fun i H=>kvs.length≤i∧H d=some (.frz o (.dT kvs))⟩
theorem qe {P:Program} {w:World} {K:W.Frag} {tg:Expr} {d it:Addr} {kvs:List (List Key×V)} {o:Obj} {es:Array DictEntry} {ep:Nat} (ex:o.ExactDict) (od:o.data=.dict es ep) (sz:es.size=kvs.length):
  Turn P w K tg (tE d kvs o) [it] it (fun i h=>h.IsKeyIter it d i es.size ep) where
 mem:=by simp
 obj:=fun i h st b hb=>by
  obtain ⟨q,e,c,dd⟩:=st
  rw [List.mem_singleton.mp hb]
  exact ⟨q,e,fun v z=>by rw [dd] at z;cases z⟩
 keep:=fun i h h' st k=>st.at fun q e=>k it (.head _) q e
 item:=by
  intro X hP hw hK hc i pins s σ H E I hf st hg
  subst hP hw hK
  obtain ⟨hi,hd⟩:=hg
  obtain ⟨ho,z,lo,xs,kt,o',es',ep',h1,_,h3,h4,_⟩:=(show ObjOk X.prog X.w H s.heap d (.frz o (.dT kvs)) from I.hok d _ hd)
  rw [ho] at h1
  cases h1
  rw [od] at h3
  cases h3
  obtain ⟨f0,f1,f2,f3,f4,f5⟩:=hf it (.head _)
  have e1:kvs[i]?=some kvs[i]:=by simp [hi]
  obtain ⟨x,ex1,hx,_⟩:=gE kt e1
  have ek:es[i].key=.ref x.2.1:=by
   have q:es.toList[i]?=some es[i]:=by rw [Array.getElem?_toList];exact Array.getElem?_eq_getElem (by omega)
   rw [h4,List.getElem?_map,ex1] at q
   rw [←Option.some.inj q]
   rfl
  refine iU st ⟨o,ho,ex,od⟩ (by omega) fun g st' sb=>?_
  obtain ⟨q,e,c,dd⟩:=id st'
  have I1:Inv X pins σ H {s with heap:=g}:=I.turned (t':=s.toks) (fun b ob hb eb=>(sb.2 b hb).trans eb) f0 f1 f3 f4 f5
  exact ⟨_,rfl,jA (s:={s with heap:=g}) e c dd (by decide) ⟨.ref x.2.1,H,I1,ek,⟨rfl,_,_,e1,rfl,hx⟩,st',fun b hb=>(hf b hb).1⟩⟩
 done:=by
  intro X hP hw hK hc i pins s σ H E I hf st hg
  subst hP hw hK
  obtain ⟨hi,hd⟩:=hg
  obtain ⟨ho,_⟩:=I.hok d _ hd
  obtain ⟨f0,f1,f2,f3,f4,f5⟩:=hf it (.head _)
  exact ie (I.ok.hd hc) st ⟨o,ho,ex,od⟩ (by omega) fun g eb=>⟨rfl,I.turned (t':=s.toks) (fun b ob hb e=>eb b ob hb e) f0 f1 f3 f4 f5⟩
 self:=fun _ _ _ _ _ st h=>wpAny_pyIter_keyiter st h
def rP (tl:TE):TI:=fun σ H R=>tl σ H fun x H1=>∃(d:Addr) (o:Obj) (kvs:List (List Key×V)),x=.ref d∧H1 d=some (.frz o (.dT kvs))∧R (tE d kvs o) H1
theorem n6 {tg l:Expr} {tl:TE} (hl:PE X l tl):PI X tg l (rP tl):=by
 intro pins s σ H R I h
 refine thn (hl pins s σ H _ I h) fun v s1 hpat=>?_
 obtain ⟨x,H1,I1,r1,q1⟩:=hpat
 obtain ⟨d,o,kvs,rfl,hd,q⟩:=q1
 cases r1
 obtain ⟨ho,z,lo,xs,kt,o',es,ep,h1,h2,h3,h4,_⟩:=(show ObjOk X.prog X.w H1 s1.heap d (.frz o (.dT kvs)) from I1.hok d _ hd)
 rw [ho] at h1
 cases h1
 have sz:es.size=kvs.length:=by rw [←Array.length_toList,h4,List.length_map,←Paired.length kt]
 refine jf lo ⟨o,ho,h2,h3⟩ ⟨s1.heap.objs.size,[s1.heap.objs.size],_,_,H1,rfl,I1.kept (t':=s1.toks) (fun b ob e=>Heap.get?_push_of_some _ e),qe h2 h3 sz,⟨_,Heap.get?_push_size _ rfl,rfl,rfl⟩,fun b hb=>?_,q⟩
 rw [List.mem_singleton.mp hb]
 exact I1.fpOk (Nat.le_refl _) (I1.hok.fresh (Nat.le_refl _))
theorem gS {d:Addr} {o:Obj} {kvs:List (List Key×V)} {k:Nat} {g:TG} {tt:TT} {te:TE} {σ:St} {H:Hp} {Q:VK} (Pv:Nat→List V→Hp→Prop) (h0:Pv 0 [] H) (hl:∀i ys H,Pv i ys H→H d=some (.frz o (.dT kvs)))
  (hs:∀i p b ys H (C:List V→Hp→Prop),kvs[i]?=some p→H b=some (.tup (p.1.map kV))→Pv i ys H→(∀ys' H',Pv (i+1) ys' H'→C ys' H')→ys.length<sizeLine∧g (.ref b) (List.replicate k none++σ) H fun σ2 H2=>Wk σ2 (List.replicate k none++σ)∧tt σ2 H2 fun ok H3=>
   if ok=true then te σ2 H3 fun y H4=>C (ys++[y]) H4 else C ys H3)
  (hz:∀i ys H,Pv i ys H→ys.length<sizeLine)
  (hd:∀ys H,Pv kvs.length ys H→ys.length≤sizeLine∧∀p,H p=none→Q (.ref p) (upd H p (.lst ys))):CompR (tE d kvs o) H k g tt te σ Q:=by
 refine ⟨fun i m ys H=>m=kvs.length - i∧i≤kvs.length∧Pv i ys H,⟨kvs.length,by simp,Nat.zero_le _,h0⟩,?_⟩
 rintro i m ys H ⟨rfl,hi,p⟩
 have q:=hl i ys H p
 by_cases hlt:i<kvs.length
 ·refine .inr ⟨⟨hlt,q⟩,hz i ys H p,fun v H' y=>?_⟩
  obtain ⟨e,p',b,hp',rfl,hb⟩:=y
  subst e
  exact (hs i p' b ys H' (fun ys' H'=>∃m',m'<kvs.length - i∧m'=kvs.length - (i+1)∧i+1≤kvs.length∧Pv (i+1) ys' H') hp' hb p fun ys' H' p'=>⟨_,by omega,rfl,hlt,p'⟩).2
 ·have e:i=kvs.length:=by omega
  subst e
  exact .inl ⟨⟨Nat.le_refl _,q⟩,hd ys H p⟩
end
abbrev TKv:=List Key×Addr×Value
def du (xs:List TKv):List TKv:=xs.foldl (fun acc x=>storedH acc x.1 x.2.1 x.2.2) []
def i9 (kvs:List (List Key×V)):List (List Key×V):=kvs.foldl (fun acc kv=>aZ acc kv.1 kv.2) []
theorem jK (xs:List TKv) (x:TKv):du (xs++[x])=storedH (du xs) x.1 x.2.1 x.2.2:=by
 unfold du
 rw [List.foldl_append]
 rfl
theorem Os (xs:List TKv) (k:List Key) (a:Addr) (v:Value):(storedH xs k a v).length≤xs.length+1:=by
 unfold storedH
 split
 ·rw [List.length_map];omega
 ·rw [List.length_append];exact Nat.le_refl _
theorem P4:∀(ys xs:List TKv),(ys.foldl (fun acc x=>storedH acc x.1 x.2.1 x.2.2) xs).length≤xs.length+ys.length
 | [],xs=>Nat.le_refl _
 | y::ys,xs=>by
  have q:=P4 ys (storedH xs y.1 y.2.1 y.2.2)
  have l:=Os xs y.1 y.2.1 y.2.2
  rw [List.foldl_cons,List.length_cons]
  omega
theorem Nb (xs:List TKv):(du xs).length≤xs.length:=by
 have q:=P4 xs []
 rw [List.length_nil,Nat.zero_add] at q
 exact q
theorem Oq {xs:List TKv} {k:List Key} {a:Addr} {v:Value} {x:TKv} (h:x∈storedH xs k a v):(∃y∈xs,x.1=y.1∧x.2.1=y.2.1)∨(x.1=k∧x.2.1=a):=by
 unfold storedH at h
 split at h
 ·obtain ⟨y,hy,rfl⟩:=List.mem_map.mp h
  refine .inl ⟨y,hy,?_⟩
  unfold putAt
  split <;> exact ⟨rfl,rfl⟩
 ·rcases List.mem_append.mp h with q | q
  ·exact .inl ⟨x,q,rfl,rfl⟩
  ·rw [List.mem_singleton.mp q]
   exact .inr ⟨rfl,rfl⟩
theorem P3:∀{ys xs:List TKv} {x:TKv},x∈ys.foldl (fun acc x=>storedH acc x.1 x.2.1 x.2.2) xs→∃y,(y∈xs∨y∈ys)∧x.1=y.1∧x.2.1=y.2.1
 | [],xs,x,h=>⟨x,.inl h,rfl,rfl⟩
 | z::ys,xs,x,h=>by
  obtain ⟨y,hy,e1,e2⟩:=P3 (ys:=ys) h
  rcases hy with hy | hy
  ·rcases Oq hy with ⟨u,hu,f1,f2⟩ | ⟨f1,f2⟩
   ·exact ⟨u,.inl hu,e1.trans f1,e2.trans f2⟩
   ·exact ⟨z,.inr (.head _),e1.trans f1,e2.trans f2⟩
  ·exact ⟨y,.inr (.tail _ hy),e1,e2⟩
theorem oD {ys:List TKv} {x:TKv} (h:x∈du ys):∃y∈ys,x.1=y.1∧x.2.1=y.2.1:=by
 obtain ⟨y,hy,e⟩:=P3 h
 rcases hy with hy | hy
 ·exact nomatch hy
 ·exact ⟨y,hy,e⟩
theorem sZ {H:Hp} {more:List (List Key×V)} {rs:List TKv} {kvs:List (List Key×V)} {xs:List TKv} (a:KT H more rs) (b:KT H kvs xs):KT H (more.foldl (fun acc kv=>aZ acc kv.1 kv.2) kvs) (rs.foldl (fun acc x=>storedH acc x.1 x.2.1 x.2.2) xs):=by
 induction a generalizing kvs xs with
 | nil=>exact b
 | @cons p q more rs h t ih=>
  have e:=KT.put b p.1 h.2.1 h.2.2
  have e2:KT H (aZ kvs p.1 p.2) (storedH xs q.1 q.2.1 q.2.2):=by
   rw [show storedH xs q.1 q.2.1 q.2.2=storedH xs p.1 q.2.1 q.2.2 by rw [h.1]]
   exact e
  exact ih e2
theorem vc {H:Hp} {kvs:List (List Key×V)} {xs:List TKv} (h:KT H kvs xs):KT H (i9 kvs) (du xs):=sZ h .nil
theorem Na:∀(kvs acc:List (List Key×V)),((acc++kvs).map (·.1)).Nodup→kvs.foldl (fun acc kv=>aZ acc kv.1 kv.2) acc=acc++kvs
 | [],acc,_=>(List.append_nil acc).symm
 | p::kvs,acc,h=>by
  have e:bD acc p.1=none:=by
   rw [List.map_append,List.map_cons] at h
   have nin:p.1∉acc.map (·.1):=fun q=>(List.nodup_append.mp h).2.2 p.1 q p.1 (.head _) rfl
   have:∀l:List (List Key×V),p.1∉l.map (·.1)→bD l p.1=none:=fun l=>by
    induction l with
    | nil=>intro _;rfl
    | cons y l ih=>
     intro hl
     rw [List.map_cons,List.mem_cons,not_or] at hl
     rw [Zx (fun z=>hl.1 z.symm)]
     exact ih hl.2
   exact this acc nin
  rw [List.foldl_cons,nG p.2 e,Na kvs _ (by rw [List.append_assoc];exact h),List.append_assoc]
  rfl
theorem Tk {kvs:List (List Key×V)} (h:(kvs.map (·.1)).Nodup):i9 kvs=kvs:=Na kvs [] h
section
variable {prog:Program} {w:World} {A:Around} {E:Value→Shared→Prop} {s:Shared}
theorem Pk {h g:Heap} {ks:List Key} {a:Addr} (x:(tupleKind (aj prog w)).is h ks a) (k:∀o,h.get? a=some o→g.get? a=some o):(tupleKind (aj prog w)).is g ks a:=by
 obtain ⟨o,its,n,h1,r⟩:=x
 exact ⟨o,its,n,k o h1,r⟩
def mo (prog:Program) (w:World) (h:Heap) (D:Addr) (xs:List TKv):Prop:=∃o es ep,h.get? D=some o∧o.ExactDict∧o.data=.dict es ep∧es.toList=xs.map (entryOfKey (tupleKind (aj prog w)))∧(xs.map (·.1)).Nodup
def jo (prog:Program) (w:World) (h:Heap) (p:TKv) (v:Value) (no:List Addr):Prop:=∃a o n,v=.ref a∧a∉no∧p.2.1∉no∧h.get? a=some o∧o.cls=.type "tuple"∧o.data=.seq #[.ref p.2.1,p.2.2] n∧(tupleKind (aj prog w)).is h p.1 p.2.1
theorem gF {R:Result→Shared→Prop} {I:Addr} {fp wr:List Addr} {n:Nat} {P:Nat→Value→Prop} {St:Nat→Heap→Prop} (W:Walks prog w A.in1 I fp wr n P St) (hu:A.units+1<cLine) (D:Addr) (hD:D∉fp) (ps:List TKv) (hpn:ps.length=n) (its:List Value)
  (hP:∀i v,P i v→its[i]?=some v) (hb:n≤100000):
  ∀(k i:Nat) (s:Shared),n - i=k→i≤n→St i s.heap→mo prog w s.heap D (du (ps.take i))→(∀(j:Nat) p,ps[j]?=some p→∃v,its[j]?=some v∧jo prog w s.heap p v (D::wr))→
   (∀g tk,(∀b o,b∉D::wr→s.heap.get? b=some o→g.get? b=some o)→mo prog w g D (du ps)→R (.ok (.ret .none)) {s with heap:=g,toks:=tk})→
   codeAny (model prog w) A (.builtin "dict.update.loop" ⟨[.ref D,.ref I,rawInt i,.none],[]⟩) R s:=by
 have hDw:D∉wr:=fun q=>hD (W.sub _ q)
 intro k
 induction k with
 | zero=>
  intro i s hk hi st so tp fin
  obtain rfl:i=n:=by omega
  refine codeAny_builtin Se ?_;rw [Around.under_plainId W6 _]
  refine wpAny_bind (m:=pyNext (.ref I)) (W.done s _ _ st fun h' tk kp=>wpAny_bind (m:=Builtin.Dict.addKeywords D []) (wpAny_pure (wpAny_pure (fin h' tk (fun b o nb e=>kp b o (fun q=>nb (List.mem_cons_of_mem _ q)) e) ?_))))
  rw [←hpn,List.take_length] at so
  obtain ⟨o,es,ep,ho,r⟩:=so
  exact ⟨o,es,ep,kp D o hDw ho,r⟩
 | succ k ih=>
  intro i s hk hi st so tp fin
  have hlt:i<n:=by omega
  refine codeAny_builtin Se ?_;rw [Around.under_plainId W6 _]
  refine wpAny_bind (m:=pyNext (.ref I)) (W.item i s _ _ hlt st fun v h1 tk1 pv st1 kp1=>?_)
  obtain ⟨p,hp⟩:∃p,ps[i]?=some p:=⟨ps[i],List.getElem?_eq_getElem (by omega)⟩
  have kw:∀b o,b∉D::wr→s.heap.get? b=some o→h1.get? b=some o:=fun b o nb e=>kp1 b o (fun q=>nb (List.mem_cons_of_mem _ q)) e
  have tp1:∀(j:Nat) p,ps[j]?=some p→∃v,its[j]?=some v∧jo prog w h1 p v (D::wr):=fun j p e=>by
   obtain ⟨v,hv,a,o,m,rfl,na,nk,ha,r1,r2,r3⟩:=tp j p e
   exact ⟨_,hv,a,o,m,rfl,na,nk,kw a o na ha,r1,r2,Pk r3 fun o e=>kw _ o nk e⟩
  obtain ⟨v',hv',a,o,m,rfl,na,nk,ha,hc,hd,hkey⟩:=tp1 i p hp
  obtain rfl:v=.ref a:=Option.some.inj ((hP i v pv).symm.trans hv')
  have so1:h1.DictOfH (tupleKind (aj prog w)) D (du (ps.take i)):=by
   obtain ⟨o,es,ep,ho,r1,r2,r3,r4⟩:=so
   refine ⟨o,es,ep,kp1 D o hDw ho,r1,r2,r3,fun x hx=>?_,r4⟩
   obtain ⟨y,hy,e1,e2⟩:=oD hx
   obtain ⟨j,hj⟩:=List.getElem?_of_mem (List.mem_of_mem_take hy)
   obtain ⟨_,_,_,_,_,_,_,_,_,_,_,q⟩:=tp1 j y hj
   rw [e1,e2]
   exact q
  refine wpAny_bind (wpAny_holding (wpAny_bind (wpAny_tryCatch ?_)))
  unfold Builtin.Dict.pairItems
  refine wpAny_bind (wpAny_typeOf (T:="tuple") ⟨o,ha,hc⟩ ?_)
  rw [if_pos (by decide)]
  refine wpAny_bind (m:=seqItems? (.ref a)) ?_
  unfold seqItems?
  refine wpAny_bind (wpAny_load ha ?_)
  rw [hd]
  refine wpAny_pure (wpAny_pure ?_)
  show wpAny _ _ (holding [Value.ref p.2.1,p.2.2] (dictSet D (.ref p.2.1) p.2.2)) _ _ _
  have eb:=Nb (ps.take i)
  rw [List.length_take] at eb
  refine wpAny_holding (wpAny_dictSet_heap (s:={s with heap:=h1,toks:=tk1}) (tupleKind_room_in1 hu) hkey so1 (fun g so2 sb=>?_) (by
   have:(100000:Nat)≤sizeLine:=by decide
   omega))
  have so3:mo prog w g D (du (ps.take (i+1))):=by
   rw [Yj hp,jK]
   obtain ⟨o,es,ep,ho,r1,r2,r3,_,r4⟩:=so2
   exact ⟨o,es,ep,ho,r1,r2,r3,r4⟩
  have ks:∀b o,b≠D→h1.get? b=some o→g.get? b=some o:=fun b o nb e=>(sb.2 b nb).trans e
  refine wpAny_pure ⟨plainId_quiet W6 _,ih (i+1) _ (by omega) hlt (W.frame _ _ _ st1 fun b hb o e=>ks b o (fun q=>hD (by rw [←q];exact hb)) e) so3 (fun j p e=>?_) fun g' tk kp so'=>fin g' tk (fun b o nb e=>kp b o nb ?_) so'⟩
  ·obtain ⟨v,hv,a,o,m,rfl,na,nk,ha,r1,r2,r3⟩:=tp1 j p e
   have nD:∀{b:Addr},b∉D::wr→b≠D:=fun h z=>h (by rw [z];exact .head _)
   exact ⟨_,hv,a,o,m,rfl,na,nk,ks a o (nD na) ha,r1,r2,Pk r3 fun o e=>ks _ o (nD nk) e⟩
  ·exact ks b o (fun z=>nb (by rw [z];exact .head _)) (kw b o nb e)
end
inductive TPsAt (H:Hp):List V→List (List Key×V)→Prop
 | nil:TPsAt H [] []
 | cons {c b:Addr} {xs:List V} {k:List Key} {v:V} {kvs:List (List Key×V)} (h:H c=some (.tup [.ref b,v])) (g:H b=some (.tup (k.map kV))) (r:TPsAt H xs kvs):TPsAt H (.ref c::xs) ((k,v)::kvs)
section
variable {prog:Program} {w:World} {A:Around} {E:Value→Shared→Prop} {s:Shared}
theorem Qm {l:Addr} {its:List Value} {k:Nat} {sl:Array (Option Value)} {ps:List TKv} {Q:Value→Shared→Prop} (hh:A.handled=none) (hu:A.units+3<cLine)
  (hl:s.heap.get? l=some {cls:=.type "tuple",dict:=none,data:=.seq its.toArray k,slots:=sl}) (hlen:its.length=ps.length) (hb:ps.length≤100000) (hp:∀(j:Nat) p,ps[j]?=some p→∃v,its[j]?=some v∧jo prog w s.heap p v [])
  (h:∀g tk,(∀b o,s.heap.get? b=some o→g.get? b=some o)→mo prog w g s.heap.objs.size (du ps)→Q (.ref s.heap.objs.size) {s with heap:=g,toks:=tk}):wpAny (model prog w) A (call (.type "dict") [.ref l]) Q E s:=by
 refine callType_codes (Q₁:=fun obj s₁=>obj=.ref s.heap.objs.size∧s₁={s with heap:=s.heap.push {cls:=.type "dict",data:=.dict #[]}}) F.kt_called_dict (F.kt_typeCall_dict_1 _) F.entry_dict_init (kt_code_dict_new _ ⟨rfl,rfl⟩) ?_
 rintro obj s₁ ⟨rfl,rfl⟩
 have gD:(s.heap.push {cls:=.type "dict",data:=.dict #[]}).get? s.heap.objs.size=some {cls:=.type "dict",data:=.dict #[]}:=Heap.get?_push_size _ rfl
 have hl1:(s.heap.push {cls:=.type "dict",data:=.dict #[]}).get? l=some {cls:=.type "tuple",dict:=none,data:=.seq its.toArray k,slots:=sl}:=Heap.get?_push_of_some _ hl
 refine ⟨⟨_,gD,rfl⟩,F.args_dict_init_2 _ _,?_⟩
 unfold Builtin.«dict.__init__»
 refine wpAny_bind ?_
 unfold Builtin.Dict.selfAndRest
 refine wpAny_bind (wpAny_notOrdered_dict ⟨_,gD,rfl⟩ (wpAny_pure (a:=(s.heap.objs.size,[Value.ref l])) ?_))
 show wpAny (model prog w) _ (Builtin.Dict.updateFrom "dict.__init__" s.heap.objs.size (.ref l) [] .none) _ _ _
 unfold Builtin.Dict.updateFrom
 refine wpAny_bind (wpAny_typeOf (T:="tuple") ⟨_,hl1,rfl⟩ ?_)
 rw [if_pos (by decide)]
 refine wpAny_bind (vp hl1 (by simpa using hh) fun g tk kp=>?_)
 rw [if_pos (by rfl)]
 have ltD:s.heap.objs.size<g.objs.size:=Heap.lt_size (kp _ _ gD)
 have ltl:l<s.heap.objs.size:=Heap.lt_size hl
 have hl2:g.IsTuple l its.toArray:=⟨_,kp _ _ hl1,rfl,k,rfl⟩
 refine wpAny_bind (wpAny_rule (wpAny_bind (wpAny_pyIter_tuple hl2 (wpAny_pure ⟨plainId_quiet W6 _,?_⟩))))
 have hne:l≠g.objs.size:=Nat.ne_of_lt (Nat.lt_trans ltl ltD)
 have nin:s.heap.objs.size∉[g.objs.size,l]:=fun q=>by
  rcases List.mem_cons.mp q with q | q
  ·exact Nat.ne_of_lt ltD q
  ·exact Nat.ne_of_gt ltl (List.mem_singleton.mp q)
 have nout:∀{b:Addr},b<s.heap.objs.size→b∉[s.heap.objs.size,g.objs.size]:=fun {b} lt q=>by
  rcases List.mem_cons.mp q with q | q
  ·exact Nat.ne_of_lt lt q
  ·exact Nat.ne_of_lt (Nat.lt_trans lt ltD) (List.mem_singleton.mp q)
 have keep:∀b o,s.heap.get? b=some o→(g.push {cls:=.type "tuple_iterator",data:=.fields #[.ref l,.int 0 0]}).get? b=some o:=fun b o e=>Heap.get?_push_of_some _ (kp _ _ (Heap.get?_push_of_some _ e))
 refine gF (A:=A.in1) (Walks.tuple (by simpa using hh) g.objs.size l hne its.toArray) (by show A.units+1+1<cLine;omega) s.heap.objs.size nin ps (by rw [List.size_toArray];omega) its (fun i v e=>by simpa using e) (by rw [List.size_toArray];omega) its.toArray.size 0 _ (Nat.sub_zero _) (Nat.zero_le _) ⟨⟨_,Heap.get?_push_size _ rfl,rfl,rfl⟩,hl2.push _⟩ ⟨_,#[],0,Heap.get?_push_of_some _ (kp _ _ gD),⟨rfl,rfl,rfl⟩,rfl,rfl,List.nodup_nil⟩ (fun j p e=>?_) fun g' tk' kp' so'=>⟨rfl,h g' tk' (fun b o e=>kp' b o (nout (Heap.lt_size e)) ?_) so'⟩
 ·obtain ⟨v,hv,a,o,m,rfl,_,_,ha,r1,r2,r3⟩:=hp j p e
  have la:=Heap.lt_size ha
  have lk:p.2.1<s.heap.objs.size:=by
   obtain ⟨_,_,_,h1,_⟩:=r3
   exact Heap.lt_size h1
  exact ⟨_,hv,a,o,m,rfl,nout la,nout lk,Heap.get?_push_of_some _ (kp _ _ (Heap.get?_push_of_some _ ha)),r1,r2,Pk r3 fun o e=>Heap.get?_push_of_some _ (kp _ _ (Heap.get?_push_of_some _ e))⟩
 ·exact Heap.get?_push_of_some _ (kp _ _ (Heap.get?_push_of_some _ e))
end
section
variable {X:Cx}
theorem Op {pins:List (Addr×Obj)} {s:Shared} {σ:St} {H:Hp} (I:Inv X pins σ H s):∀{ys:List V} {kvs:List (List Key×V)} {its:List Value},TPsAt H ys kvs→Vals ys its→∃ps:List TKv,KT H kvs ps∧its.length=ps.length∧∀(j:Nat) p,ps[j]?=some p→∃v,its[j]?=some v∧jo X.prog X.w s.heap p v []
 | _,_,_,.nil,.nil=>⟨[],.nil,rfl,fun j p e=>by simp at e⟩
 | _,_,_,.cons (c:=c) (b:=b) (k:=k) (v:=v) h g r,.cons r1 t=>by
  obtain ⟨ps,kt,le,at_⟩:=Op I r t
  obtain ⟨_,its,rv,o,e1,e2,n,e3⟩:=(show ObjOk X.prog X.w H s.heap c (.tup [.ref b,v]) from I.hok c _ h)
  obtain ⟨u,x,rfl,ru,rx⟩:=iu rv
  cases ru
  cases r1
  refine ⟨(k,b,x)::ps,.cons ⟨rfl,g,rx⟩ kt,by rw [List.length_cons,List.length_cons,le],fun j p e=>?_⟩
  cases j with
  | zero=>
   rw [List.getElem?_cons_zero] at e
   cases e
   exact ⟨_,rfl,c,o,n,rfl,List.not_mem_nil,List.not_mem_nil,e1,e2.1,e3,Ur I.hok g⟩
  | succ j=>exact at_ j p (by simpa using e)
def qg:List V→Hp→VK→Prop:=fun xs H Q=>∃(l:Addr) (ys:List V) (kvs:List (List Key×V)),xs=[.ref l]∧H l=some (.tup ys)∧TPsAt H ys kvs∧kvs.length≤1000∧∀p,H p=none→Q (.ref p) (upd H p (.dT (i9 kvs)))
theorem Wd (hc:X.calm=true) (hu:X.A.units+64<cLine):bZ X (.type "dict") qg:=by
 intro pins s σ H xs us Q I rx h
 obtain ⟨l,ys,kvs,rfl,hq,pa,hlen,q⟩:=h
 obtain ⟨u,rfl,ru⟩:=Ve rx
 cases ru
 obtain ⟨_,its,rv,⟨⟨c0,d0,dt0,sl0⟩,ho,hcl,m,hs⟩⟩:=(show ObjOk X.prog X.w H s.heap l (.tup ys) from I.hok l _ hq)
 simp only at hcl hs
 obtain ⟨hcl,hdn⟩:=hcl
 subst hcl hdn hs
 obtain ⟨ps,kt,hl,hp⟩:=Op I pa rv
 have kl:=Paired.length kt
 refine Qm (I.ok.hd hc) (by omega) ho hl (by omega) hp fun g tk kp hD=>?_
 have km:=vc kt
 have ml:=Nb ps
 refine ⟨.ref s.heap.objs.size,_,I.laid (t':=tk) (o:=.dT (i9 kvs)) kp (Nat.le_refl _) ⟨Zn (by rw [Paired.length km];omega),beq_eq_false_iff_ne.mpr (Nat.ne_of_gt I.big),du ps,?_,hD⟩,rfl,q _ (I.hok.fresh (Nat.le_refl _))⟩
 exact KT.keeps km fun b ys e=>by rw [Zb (Zi e (I.hok.fresh (Nat.le_refl _)))];exact e
end
theorem mx {kvs:List (List Key×V)} {k:List Key} (h:k∉kvs.map (·.1)):cu kvs k=kvs:=by
 unfold cu
 refine List.filter_eq_self.mpr fun p hp=>decide_eq_true fun e=>h (List.mem_map.mpr ⟨p,hp,e⟩)
theorem jh {H:Hp}:∀{kvs:List (List Key×V)} {xs:List TKv} {k:List Key} {j:Nat} {q:Addr×Value},KT H kvs xs→(xs.map (·.1)).Nodup→xs[j]?=some (k,q)→KT H (cu kvs k) (xs.eraseIdx j)
 | _,_,_,_,_,.nil,_,e=>by simp at e
 | p::kvs,x::xs,k,0,q,.cons h t,nd,e=>by
  rw [List.getElem?_cons_zero] at e
  cases e
  rw [List.map_cons,List.nodup_cons] at nd
  have ke:kvs.map (·.1)=xs.map (·.1):=by
   clear nd h
   induction t with
   | nil=>rfl
   | cons a _ ih=>rw [List.map_cons,List.map_cons,ih,a.1]
  have e1:cu (p::kvs) k=kvs:=by
   have o:=mx (kvs:=kvs) (k:=k) (by rw [ke];exact nd.1)
   unfold cu at o ⊢
   rw [List.filter_cons,if_neg (by simp [show p.1=k from h.1])]
   exact o
  rw [e1]
  exact t
 | p::kvs,x::xs,k,j+1,q,.cons h t,nd,e=>by
  rw [List.map_cons,List.nodup_cons] at nd
  have e:xs[j]?=some (k,q):=by simpa using e
  have ne:p.1≠k:=fun z=>nd.1 (List.mem_map.mpr ⟨(k,q),List.mem_of_getElem? e,by rw [←h.1,z]⟩)
  have e1:cu (p::kvs) k=p::cu kvs k:=by
   unfold cu
   rw [List.filter_cons,if_pos (decide_eq_true ne)]
  rw [e1,List.eraseIdx_cons_succ]
  exact .cons h (jh t nd.2 e)
theorem U4 {α β:Type} (f:α→β):∀(l:List α) (j:Nat),(l.map f).eraseIdx j=(l.eraseIdx j).map f
 | [],_=>rfl
 | _::_,0=>rfl
 | a::l,j+1=>by rw [List.map_cons,List.eraseIdx_cons_succ,List.eraseIdx_cons_succ,List.map_cons,U4 f l j]
theorem lU {xs:List TKv} (nd:(xs.map (·.1)).Nodup) (j:Nat):((xs.eraseIdx j).map (·.1)).Nodup:=nd.sublist ((List.eraseIdx_sublist xs j).map _)
section
variable {prog:Program} {w:World} {A:Around} {E:Value→Shared→Prop} {s:Shared}
theorem pj {d a:Addr} {xs:List TKv} {k:List Key} {j:Nat} {q:Addr×Value} (hu:A.units+1<cLine) (hkey:(tupleKind (aj prog w)).is s.heap k a) (hm:s.heap.DictOfH (tupleKind (aj prog w)) d xs) (hz:xs.length≤sizeLine) (hj:xs[j]?=some (k,q)) {Q:Fin→Shared→Prop}
  (h:∀g tk,mo prog w g d (xs.eraseIdx j)→Heap.SameBut d s.heap g→Q (.done (.ret q.2)) {s with heap:=g,toks:=tk}):wpAny (model prog w) A.in1 (Builtin.«dict.pop» ⟨[.ref d,.ref a],[]⟩) Q E s:=by
 obtain ⟨o,es,ep,ho,ex,hd,he,his,hn⟩:=id hm
 have ty:s.TypeIs (.ref d) "dict":=hm.typeIs
 unfold Builtin.«dict.pop»
 refine wpAny_bind ?_
 unfold Builtin.Dict.keyAndDefault
 refine wpAny_bind (wpAny_notOrdered_dict ty (show wpAny (model prog w) _ (pure (d,Value.ref a,none)) _ _ s from wpAny_pure ?_))
 have jl:j<xs.length:=(List.getElem?_eq_some_iff.mp hj).1
 have sz:es.size=xs.length:=by rw [←Array.length_toList,he,List.length_map]
 have ne:es.isEmpty=false:=by
  rcases z:es.isEmpty with _ | _
  ·rfl
  ·have:=Array.isEmpty_iff_size_eq_zero.mp z
   omega
 have ej:es[j]?=some (entryOfKey (tupleKind (aj prog w)) (k,q)):=by rw [←Array.getElem?_toList,he,List.getElem?_map,hj];rfl
 have kp:¬((keyPart (Value.ref a)).isSome=true):=Bool.false_ne_true
 simp only [kp,if_false]
 refine wpAny_bind (wpAny_dictEntries ho hd (bP ?_))
 simp only [ne,Bool.false_eq_true,if_false]
 refine wpAny_bind ?_
 unfold Builtin.Dict.takeOut
 refine wpAny_holding (wpAny_bind ((tupleKind (aj prog w)).pyHash (tupleKind_room_in1 hu) hkey (wpAny_bind (wpAny_dictFind_heap (tupleKind_room_in1 hu) hkey ho hd he his hn (fun hno=>absurd hj (hno j q)) fun i p hi=>?_))))
 have ij:i=j:=idxH_unique hn hi hj
 subst ij
 show wpAny (model prog w) _ (dictEntries d (keyPart (.ref a)) >>= fun l=>_) _ _ _
 refine wpAny_bind (wpAny_dictEntries ho hd ?_)
 rw [ej]
 refine wpAny_bind (wpAny_updateDictKeys (hz:=?_) ho hd (wpAny_pure ?_))
 ·rw [if_neg (by exact Bool.false_ne_true)]
  refine wpAny_bind (wpAny_letGo (wpAny_pure (h _ _ ⟨_,_,ep+1,Heap.get?_update_self _ ho (Obj.isFreed_of_dict (Obj.data_mapDictKeys hd _)),ex.mapDictKeys _,Obj.data_mapDictKeys hd _,?_,lU hn i⟩ (Heap.SameBut.update ..))))
  rw [Array.eraseIdxIfInBounds,dif_pos (by omega:i<es.size),Array.toList_eraseIdx,he]
  exact U4 _ _ _
 ·omega
end
section
variable {X:Cx}
def vF:V→List V→Hp→VK→Prop:=fun x vs H Q=>∃(d a:Addr) (kvs:List (List Key×V)) (k:List Key) (v:V),x=.ref d∧vs=[.ref a]∧H d=some (.dT kvs)∧H a=some (.tup (k.map kV))∧bD kvs k=some v∧Q v (upd H d (.dT (cu kvs k)))
theorem oI {H:Hp} {kvs:List (List Key×V)} {xs:List TKv} {k:List Key} {v:V} (kt:KT H kvs xs):bD kvs k=some v→∃(j:Nat) (q:Addr×Value),xs[j]?=some (k,q)∧RelV v q.2:=by
 induction kt with
 | nil=>intro e;simp [bD] at e
 | @cons p x kvs xs h t ih=>
  intro e
  by_cases z:p.1=k
  ·rw [Y2 z] at e
   cases e
   exact ⟨0,x.2,by rw [List.getElem?_cons_zero,←z,h.1],h.2.2⟩
  ·rw [Zx z] at e
   obtain ⟨j,q,e1,e2⟩:=ih e
   exact ⟨j+1,q,by simpa using e1,e2⟩
theorem pO (hu:X.A.units+64<cLine):MtR X "dict.pop" vF:=by
 intro pins s σ H x vs v us Q I rx rv h
 obtain ⟨d,a,kvs,k,y,rfl,rfl,hd,ha,hv,q⟩:=h
 cases rx
 obtain ⟨u,rfl,ru⟩:=Ve rv
 cases ru
 obtain ⟨z,lo,xs,kt,dd⟩:=q_ I.hok hd
 obtain ⟨j,p,hj,rp⟩:=oI kt hv
 have hn:(xs.map (·.1)).Nodup:=by obtain ⟨_,_,_,_,_,_,_,_,hn⟩:=dd;exact hn
 have tu:∀b ys,H b=some (.tup ys)→upd H d (.dT (cu kvs k)) b=some (.tup ys):=fun b ys e=>by rw [Zb (Tj e hd (by intro z;cases z))];exact e
 refine wpAny_call_entry PySem.F.slot_dict_pop dd.typeIs PySem.F.entry_dict_pop (pj (by omega) (Ur I.hok ha) dd (by rw [←Paired.length kt];exact z) hj fun g tk raw sb=>⟨_,rfl,y,_,?_,rp,q⟩) (PySem.F.args_dict_pop_2 _ _)
 have hg:∃o,g.get? d=some o:=let ⟨o,_,_,e,_⟩:=raw;⟨o,e⟩
 exact I.write (x:=d) (e:=d) (t':=tk) (by rw [hd];exact trivial) (.inl rfl) (fun b u nb e=>(sb.2 b nb).trans e) hg ⟨Nat.le_trans (List.length_filter_le _ _) z,lo,xs.eraseIdx j,KT.keeps (jh kt hn hj) tu,raw⟩
end
abbrev ItI (h:Heap) (it d:Addr) (i n ep:Nat) (f0 f1 ok ov:Value):Prop:=h.get? it=some {cls:=.type "dict_itemiterator",dict:=none,data:=.fields #[f0,f1,.ref d,.int i 0,.int n 0,.int ep 0,ok,ov],slots:=#[]}
abbrev duo (x y:Value):Obj:={cls:=.type "tuple",data:=.seq #[x,y]}
section
variable {prog:Program} {w:World} {A:Around} {E:Value→Shared→Prop} {s:Shared} {it d:Addr} {i ep:Nat} {es:Array DictEntry} {f0 f1 ok ov:Value}
theorem p9 {v:Addr} {Q:Value→Shared→Prop} (zv:s.heap.IsItemsView v d) (zm:RwD s.heap d es ep)
  (zq:∀g:Heap,ItI g s.heap.objs.size d 0 es.size ep .none (.bool false) .none .none→g.objs.size=s.heap.objs.size+1→(∀b o,s.heap.get? b=some o→g.get? b=some o)→Q (.ref s.heap.objs.size) {s with heap:=g}):wpAny (model prog w) A (pyIter (.ref v)) Q E s:=by
 obtain ⟨ou,vo,_,vd⟩:=id zv
 obtain ⟨o,yo,_,yd⟩:=id zm
 refine wpAny_pyIter_slot zv.typeIs PySem.F.slot_dict_items_iter (wpAny_call_entry PySem.F.slot_dict_items_iter zv.typeIs PySem.F.entry_dict_items_iter (bP (wpAny_bind (wpAny_bind (wpAny_field vo vd (x:=.ref d) rfl (wpAny_pure (wpAny_bind ?_)))))) (PySem.F.args_dict_items_iter_1 _))
 unfold Builtin.Dict_items.newIterator;skip
 refine wpAny_bind (wpAny_dictEntries yo yd (wpAny_bind (wpAny_dictEpoch yo yd ?_)))
 simp only [Rp.2.2,if_true]
 refine wpAny_newObj_type (wpAny_pure ⟨_,rfl,"dict_itemiterator",_,⟨_,Heap.get?_push_size _ rfl,rfl⟩,PySem.F.slot_dict_itemiterator_next.lookup,?_⟩) (by simp only [sizeOk,Builtin.Dict_items.ownedTupleFields,List.size_toArray,List.length_append,List.length_cons,List.length_nil,sizeLine_eq];omega)
 refine zq _ ?_ (size_push' _ _) fun b o e=>Heap.get?_push_of_some _ e
 unfold ItI
 rw [Heap.get?_push_size _ rfl]
 simp [rawInt,Builtin.Dict_items.ownedTupleFields]
theorem gI {a:Addr} {Q:Option Obj→Shared→Prop} (ho:s.heap.get? a=none) (h:Q none s):wpAny (model prog w) A (loadIfAlive a) Q E s:=by
 have h':Q (s.heap.get? a) s:=by rw [ho];exact h
 exact fun _ _ _=>h'
theorem qB {Q:Option Value→Shared→Prop} (zi:ItI s.heap it d i es.size ep f0 f1 ok ov) (alt:f0=.none∨∃(a:Addr) (b:Bool),f0=rawInt a∧f1=.bool b) (zm:RwD s.heap d es ep) (zx:i<es.size)
  (zq:∀(g:Heap) (e0 e1 x y:Value),ItI g it d (i+1) es.size ep e0 e1 x y→(∃(a:Addr) (b:Bool),e0=rawInt a∧e1=.bool b)→g.get? s.heap.objs.size=some (duo es[i].key es[i].val)→g.objs.size=s.heap.objs.size+1→
   (∀b o,b≠it→s.heap.get? b=some o→g.get? b=some o)→Q (some (.ref s.heap.objs.size)) {s with heap:=g}):wpAny (model prog w) A (pyNext (.ref it)) Q E s:=by
 obtain ⟨hp,gs,dr,tk,os⟩:=s
 obtain ⟨od,yo,_,yd⟩:=zm
 have ty:Shared.TypeIs ⟨hp,gs,dr,tk,os⟩ (.ref it) "dict_itemiterator":=⟨_,zi,rfl⟩
 refine Sq ty PySem.F.slot_dict_itemiterator_next PySem.F.entry_dict_itemiterator_next (PySem.F.args_dict_itemiterator_next_1 _) (bP (wpAny_bind (wpAny_bind (wpAny_bind (wpAny_typeNameOfWhole_itemiter ty (wpAny_pure (wpAny_bind (wpAny_fieldsOf zi rfl ?_))))))))
 simp only [Rp.2.2,if_true]
 show wpAny (model prog w) _ (if (Value.ref d == Value.none)=true then _ else _) _ _ _
 rw [if_neg (T7 d)];refine bP (wpAny_bind (wpAny_dictEntries yo yd ?_))
 rw [if_neg (by simp)];refine bP (wpAny_bind (wpAny_dictEpoch yo yd ?_))
 rw [if_neg (by simp)];refine wpAny_pure ?_
 simp only [show ¬((i:Int)<0) from by omega,if_false,Int.toNat_natCast,Array.getElem?_eq_getElem zx]
 refine wpAny_bind (wpAny_bind (wpAny_typeNameOfWhole_itemiter ty (wpAny_pure (wpAny_bind (wpAny_isOneOf_itemiter ty ?_)))))
 show wpAny (model prog w) _ (setField (.ref it) 3 (rawInt ((i:Int)+1)) >>= fun _=>_) _ _ ⟨hp,gs,dr,tk,os⟩
 refine wpAny_bind (wpAny_setField_rec zi (by simp) fun g1 e1 s1=>?_)
 have s1:Heap.SameBut it hp g1:=s1
 have e1:ItI g1 it d (i+1) es.size ep f0 f1 ok ov:=by
  have q:((i+1:Nat):Int)=(i:Int)+1:=by omega
  unfold ItI;rw [q];simpa [rawInt] using e1
 have ty1:Shared.TypeIs ⟨g1,gs,dr,tk,os⟩ (.ref it) "dict_itemiterator":=⟨_,e1,rfl⟩
 refine wpAny_bind (wpAny_holding (wpAny_bind (wpAny_isOneOf_itemiter ty1 (wpAny_bind (wpAny_isOneOf_itemiter ty1 ?_)))))
 show wpAny (model prog w) _ (Builtin.Dict_items.pairFromOwner (.ref it) 6 es[i].key es[i].val) _ _ ⟨g1,gs,dr,tk,os⟩
 unfold Builtin.Dict_items.pairFromOwner;refine wpAny_bind (wpAny_newTuple ?_)
 have e2:ItI (g1.push (duo es[i].key es[i].val)) it d (i+1) es.size ep f0 f1 ok ov:=Heap.get?_push_of_some _ e1
 generalize hz:g1.push (duo es[i].key es[i].val)=g2 at e2
 have z1:g1.objs.size=hp.objs.size:=s1.1
 have il:it<hp.objs.size:=Heap.lt_size zi
 have t2:g2.get? hp.objs.size=some (duo es[i].key es[i].val):=by rw [←hz,←z1];exact Heap.get?_push_size _ rfl
 have z2:g2.objs.size=hp.objs.size+1:=by rw [←hz,Heap.size_push,z1]
 have k2:∀b o,b≠it→hp.get? b=some o→g2.get? b=some o:=fun b o nb e=>by rw [←hz];exact Heap.get?_push_of_some _ (s1.extBut b o nb e)
 have fin:∀(g:Heap) (x0 x1 x y:Value),ItI g it d (i+1) es.size ep x0 x1 x y→(∃(a:Addr) (b:Bool),x0=rawInt a∧x1=.bool b)→Heap.SameBut it g2 g→Q (some (.ref hp.objs.size)) ⟨g,gs,dr,tk,os⟩:=fun g x0 x1 x y h1 h2 sb=>
  zq g x0 x1 x y h1 h2 (sb.extBut _ _ (Nat.ne_of_gt il) t2) (by show g.objs.size=hp.objs.size+1;rw [sb.1,z2]) fun b o nb e=>sb.extBut b o nb (k2 b o nb e)
 show wpAny (model prog w) _ (Builtin.Dict_items.ownedTupleIsFree (.ref it) >>= fun _=>_) _ _ ⟨g2,gs,dr,tk,os⟩
 rw [z1]
 unfold Builtin.Dict_items.ownedTupleIsFree
 rcases alt with rfl | ⟨a,b,rfl,rfl⟩
 ·refine wpAny_bind (wpAny_bind (wpAny_field e2 rfl (x:=.none) rfl (wpAny_pure ?_)))
  simp only [if_true]
  refine wpAny_bind (wpAny_field e2 rfl (x:=ok) rfl (wpAny_bind (wpAny_field e2 rfl (x:=ov) rfl (wpAny_bind (wpAny_setField_rec e2 (by simp) fun g3 e3 s3=>wpAny_bind (wpAny_setField_rec e3 (by simp) fun g4 e4 s4=>wpAny_bind (wpAny_setField_rec e4 (by simp) fun g5 e5 s5=>wpAny_bind (wpAny_setField_rec e5 (by simp) fun g6 e6 s6=>?_))))))))
  refine wpAny_bind (wpAny_letGo (wpAny_pure (wpAny_pure ⟨_,rfl,fin g6 _ _ _ _ e6 ⟨_,_,rfl,rfl⟩ ?_⟩)))
  have s3:Heap.SameBut it g2 g3:=s3
  have s4:Heap.SameBut it g3 g4:=s4
  have s5:Heap.SameBut it g4 g5:=s5
  have s6:Heap.SameBut it g5 g6:=s6
  exact ⟨by rw [s6.1,s5.1,s4.1,s3.1],fun c nc=>(s6.2 c nc).trans ((s5.2 c nc).trans ((s4.2 c nc).trans (s3.2 c nc)))⟩
 ·refine wpAny_bind (wpAny_bind (wpAny_field e2 rfl (x:=rawInt a) rfl ?_))
  show wpAny (model prog w) _ (loadIfAlive ((a:Int).toNat) >>= fun _=>_) _ _ _
  rw [Int.toNat_natCast]
  cases a2:g2.get? a with
  | none=>
   refine wpAny_bind (gI a2 ?_)
   simp only [Option.isNone_none,if_true]
   refine wpAny_pure ?_
   simp only [if_true]
   refine wpAny_bind (wpAny_field e2 rfl (x:=ok) rfl (wpAny_bind (wpAny_field e2 rfl (x:=ov) rfl (wpAny_bind (wpAny_setField_rec e2 (by simp) fun g3 e3 s3=>wpAny_bind (wpAny_setField_rec e3 (by simp) fun g4 e4 s4=>wpAny_bind (wpAny_setField_rec e4 (by simp) fun g5 e5 s5=>wpAny_bind (wpAny_setField_rec e5 (by simp) fun g6 e6 s6=>?_))))))))
   refine wpAny_bind (wpAny_letGo (wpAny_pure (wpAny_pure ⟨_,rfl,fin g6 _ _ _ _ e6 ⟨_,_,rfl,rfl⟩ ?_⟩)))
   have s3:Heap.SameBut it g2 g3:=s3
   have s4:Heap.SameBut it g3 g4:=s4
   have s5:Heap.SameBut it g4 g5:=s5
   have s6:Heap.SameBut it g5 g6:=s6
   exact ⟨by rw [s6.1,s5.1,s4.1,s3.1],fun c nc=>(s6.2 c nc).trans ((s5.2 c nc).trans ((s4.2 c nc).trans (s3.2 c nc)))⟩
  | some o=>
   refine wpAny_bind (W.kdx_alive a2 ?_)
   simp only [Option.isNone_some,Bool.false_eq_true,if_false]
   refine wpAny_bind (wpAny_field e2 rfl (x:=.bool b) rfl ?_)
   cases b with
   | true=>
    rw [if_neg (show ¬((Value.bool true != Value.bool true)=true) from Bool.false_ne_true)];refine wpAny_pure ?_
    simp only [Bool.false_eq_true,if_false]
    exact wpAny_pure (wpAny_pure ⟨_,rfl,fin g2 _ _ _ _ e2 ⟨_,_,rfl,rfl⟩ (Heap.SameBut.refl _ _)⟩)
   | false=>
    rw [if_pos (show (Value.bool false != Value.bool true)=true from rfl)]
    refine wpAny_bind (wpAny_setField_rec e2 (by simp) fun g3 e3 s3=>wpAny_pure ?_)
    simp only [Bool.false_eq_true,if_false]
    exact wpAny_pure (wpAny_pure ⟨_,rfl,fin g3 _ _ _ _ e3 ⟨_,_,rfl,rfl⟩ s3⟩)
theorem pI {Q:Option Value→Shared→Prop} (zh:A.handled=none) (zi:ItI s.heap it d i es.size ep f0 f1 ok ov) (zm:RwD s.heap d es ep) (zx:es.size≤i) (zq:∀g:Heap,Heap.ExtBut it s.heap g→Q none {s with heap:=g}):wpAny (model prog w) A (pyNext (.ref it)) Q E s:=by
 obtain ⟨od,yo,_,yd⟩:=zm
 have ty:s.TypeIs (.ref it) "dict_itemiterator":=⟨_,zi,rfl⟩
 refine Sq ty PySem.F.slot_dict_itemiterator_next PySem.F.entry_dict_itemiterator_next (PySem.F.args_dict_itemiterator_next_1 _) (bP (wpAny_bind (wpAny_bind (wpAny_bind (wpAny_typeNameOfWhole_itemiter ty (wpAny_pure (wpAny_bind (wpAny_fieldsOf zi rfl ?_))))))))
 simp only [Rp.2.2,if_true]
 show wpAny (model prog w) _ (if (Value.ref d == Value.none)=true then _ else _) _ _ s
 rw [if_neg (T7 d)];refine bP (wpAny_bind (wpAny_dictEntries yo yd ?_))
 rw [if_neg (by simp)];refine bP (wpAny_bind (wpAny_dictEpoch yo yd ?_))
 rw [if_neg (by simp)];refine wpAny_pure ?_
 simp only [show ¬((i:Int)<0) from by omega,if_false,Int.toNat_natCast,Array.getElem?_eq_none zx]
 refine wpAny_bind (wpAny_bind (wpAny_typeNameOfWhole_itemiter ty (wpAny_pure ?_)))
 show wpAny (model prog w) _ (setField (.ref it) 2 .none >>= fun _=>_) _ _ s
 refine wpAny_bind (wpAny_setField zi rfl (by simp) (Rf (by simpa using zh) fun g e k ty=>⟨ty,zq g fun b u nb eb=>k b u ?_⟩))
 exact (Heap.get?_update_other _ _ (Ne.symm nb)).trans eb
end
def beh (I n:Nat):List Addr:=(List.range n).map fun j=>I+1+j
theorem lB (I n:Nat):beh I (n+1)=beh I n++[I+1+n]:=by
 unfold beh
 rw [List.range_succ,List.map_append]
 rfl
theorem iN (I n:Nat):(beh I n).length=n:=by
 unfold beh
 rw [List.length_map,List.length_range]
theorem ow (I j:Nat):I+1+j≠I:=by omega
abbrev lsO (xs:Array Value) (c:Nat):Obj:={cls:=.type "list",data:=.seq xs c}
section
variable {prog:Program} {w:World} {A:Around} {E:Value→Shared→Prop} {s:Shared} {d:Addr} {ep:Nat} {es:Array DictEntry} {R:Result→Shared→Prop}
theorem gU {S I:Addr} (zh:A.handled=none) (hSI:S<I) (hSd:d≠S) (hId:d≠I) (hn:es.size≤sizeLine) (res:Value) {h0:Heap}
  (fin:∀(h:Heap) (tk c:Nat),(∀b o,b≠S→b≠I→h0.get? b=some o→h.get? b=some o)→h.get? S=some (lsO ((beh I es.size).map Value.ref).toArray c)→(∀(j:Nat) (hj:j<es.size),h.get? (I+1+j)=some (duo es[j].key es[j].val))→R (.ok (.ret res)) {s with heap:=h,toks:=tk}):
  ∀(k i:Nat) (h:Heap) (tk c:Nat) (f0 f1 ok ov:Value),es.size - i=k→i≤es.size→ItI h I d i es.size ep f0 f1 ok ov→(f0=.none∨∃(a:Addr) (b:Bool),f0=rawInt a∧f1=.bool b)→RwD h d es ep→(∀b o,b≠S→b≠I→h0.get? b=some o→h.get? b=some o)→
   h.get? S=some (lsO ((beh I i).map Value.ref).toArray c)→(∀(j:Nat) (hj:j<es.size),j<i→h.get? (I+1+j)=some (duo es[j].key es[j].val))→h.objs.size=I+1+i→
   codeAny (model prog w) A (.builtin "list.extend.loop" ⟨[.ref S,.ref I,res],[]⟩) R {s with heap:=h,toks:=tk}:=by
 have ne:S≠I:=Nat.ne_of_lt hSI
 intro k
 induction k with
 | zero=>
  intro i h tk c f0 f1 ok ov hk hi st alt hD keep hS tp hz
  obtain rfl:i=es.size:=by omega
  refine codeAny_builtin PySem.F.entry_extend_loop ?_;rw [Around.under_plainId PySem.F.plain_extend_loop _]
  refine wpAny_bind (m:=pyNext (.ref I)) (pI (s:={s with heap:=h,toks:=tk}) (A:=A.in1) (by simpa using zh) st hD (Nat.le_refl _) fun g x=>wpAny_pure (fin g tk c (fun b o h1 h2 e=>x b o h2 (keep b o h1 h2 e)) (x S _ ne hS) fun j hj=>x _ _ (ow I j) (tp j hj hj)))
 | succ k ih=>
  intro i h tk c f0 f1 ok ov hk hi st alt hD keep hS tp hz
  have hlt:i<es.size:=by omega
  refine codeAny_builtin PySem.F.entry_extend_loop ?_;rw [Around.under_plainId PySem.F.plain_extend_loop _]
  refine wpAny_bind (m:=pyNext (.ref I)) (qB (s:={s with heap:=h,toks:=tk}) (A:=A.in1) st alt hD hlt fun g x0 x1 x y st' al tg zg kp=>?_)
  dsimp only at tg zg kp al ⊢
  rw [hz] at tg zg ⊢
  have hSl:S<h.objs.size:=Heap.lt_size hS
  have hS':=kp S _ ne hS
  have up:∀b o,b≠S→g.get? b=some o→(g.update S (Obj.mapSeq (·.push (Value.ref (I+1+i))))).get? b=some o:=fun b o nb e=>(Heap.get?_update_other _ _ (Ne.symm nb)).trans e
  have hl:((beh I i).map Value.ref).toArray.size=i:=by rw [List.size_toArray,List.length_map,iN]
  obtain ⟨c2,u2⟩:∃c2,(g.update S (Obj.mapSeq (·.push (Value.ref (I+1+i))))).get? S=some (lsO ((beh I (i+1)).map Value.ref).toArray c2):=by
   have u:=get?_update_seq (c:="list") hS' (fun x=>x.push (Value.ref (I+1+i)))
   rw [List.push_toArray] at u
   rw [lB,List.map_append]
   exact ⟨_,u⟩
  show wpAny (model prog w) A.in1 (updateSeq S (·.push (Value.ref (I+1+i))) >>= fun _=>_) _ _ _
  refine wpAny_bind (wpAny_updateSeq hS' rfl (wpAny_pure ⟨plainId_quiet PySem.F.plain_extend_loop _,ih (i+1) _ tk c2 x0 x1 x y (by omega) hlt (up I _ (Ne.symm ne) st') (.inr al) (hD.at fun o e=>up d o hSd (kp d o hId e)) (fun b o h1 h2 e=>up b o h1 (kp b o h2 (keep b o h1 h2 e))) u2 (fun j hj ji=>?_) ?_⟩) (by rw [hl];omega) (by rw [Array.size_push,hl];omega))
  ·by_cases z:j=i
   ·subst z
    exact up _ _ (Nat.ne_of_gt (Nat.lt_of_lt_of_le hSI (by omega))) tg
   ·exact up _ _ (Nat.ne_of_gt (Nat.lt_of_lt_of_le hSI (by omega))) (kp _ _ (ow I j) (tp j hj (by omega)))
  ·rw [Heap.size_update,zg]
   omega
theorem rC:(Value.type "dict_items" == Value.type "list")=false∧(Value.type "dict_items" == Value.type "tuple")=false:=by decide
theorem O8 {S r:Addr} (zh:A.handled=none) (zv:s.heap.IsItemsView r d) (zm:RwD s.heap d es ep) (hSr:S≠r) (hSd:d≠S) (hn:es.size≤sizeLine) (res:Value) {c0:Nat} (eS:s.heap.get? S=some (lsO #[] c0))
  (fin:∀(h:Heap) (tk c:Nat),(∀b o,b≠S→s.heap.get? b=some o→h.get? b=some o)→h.get? S=some (lsO ((beh s.heap.objs.size es.size).map Value.ref).toArray c)→(∀(j:Nat) (hj:j<es.size),h.get? (s.heap.objs.size+1+j)=some (duo es[j].key es[j].val))→R (.ok (.ret res)) {s with heap:=h,toks:=tk}):
  wpAny (model prog w) A.in1 (Builtin.List.listExtendWith (.ref S) (.ref r) res) (fun fin s'=>match fin with
   | .done f=>R (.ok f) s'
   | .again c'=>c'.quiet=true∧codeAny (model prog w) A c' R s') (fun e s'=>R (.error e) s') s:=by
 have lS:S<s.heap.objs.size:=Heap.lt_size eS
 unfold Builtin.List.listExtendWith
 refine wpAny_bind (wpAny_typeOf zv.typeIs ?_)
 have sm:Builtin.List.listSameRef (.ref S) (.ref r)=false:=by
  unfold Builtin.List.listSameRef
  simpa using hSr
 rw [sm,rC.1,rC.2,if_neg (by decide)]
 refine wpAny_bind (p9 zv zm fun g1 st z1 kp=>?_)
 refine wpAny_bind (wpAny_holding (W.kdx_hint (s:={s with heap:=g1}) (let ⟨o,ho,hc,_⟩:=zv;⟨o,kp _ _ ho,hc⟩) ?_))
 refine fQ (by kernel_rfl) (wpAny_bind (wpAny_rule ?_))
 unfold Builtin.List.listTouch;skip
 have u1:=get?_update_seq (c:="list") (kp _ _ eS) (fun x=>x.push Value.none)
 have u2:=get?_update_seq (c:="list") u1 (fun x=>x.pop)
 refine wpAny_bind (wpAny_bind (listUpdate_at (kp _ _ eS) rfl (listUpdate_at u1 rfl ?_ (by simp [sizeLine_eq]) (by simp)) (by simp) (by simp [sizeLine_eq])))
 obtain ⟨c2,u3⟩:∃c2,((g1.update S (Obj.mapSeq fun x=>x.push Value.none)).update S (Obj.mapSeq fun x=>x.pop)).get? S=some (lsO #[] c2):=⟨_,u2⟩
 have k2:∀b o,b≠S→g1.get? b=some o→((g1.update S (Obj.mapSeq fun x=>x.push Value.none)).update S (Obj.mapSeq fun x=>x.pop)).get? b=some o:=fun b o nb e=>by
  rw [Heap.get?_update_ne _ _ _ _ nb,Heap.get?_update_ne _ _ _ _ nb]
  exact e
 have z2:((g1.update S (Obj.mapSeq fun x=>x.push Value.none)).update S (Obj.mapSeq fun x=>x.pop)).objs.size=s.heap.objs.size+1:=by rw [Heap.size_update,Heap.size_update,z1]
 generalize (g1.update S (Obj.mapSeq fun x=>x.push Value.none)).update S (Obj.mapSeq fun x=>x.pop)=g2 at u3 k2 z2
 refine wpAny_pure ⟨plainId_quiet PySem.F.plain_extend_loop _,gU (s:=s) (es:=es) (ep:=ep) (h0:=s.heap) zh lS hSd (Nat.ne_of_lt zm.lt) hn res (fun h tk c kh hS tp=>fin h tk c (fun b o nb e=>kh b o nb (Nat.ne_of_lt (Heap.lt_size e)) e) hS tp) es.size 0 g2 s.toks c2 .none (.bool false) .none .none (Nat.sub_zero _) (Nat.zero_le _) (k2 _ _ (Nat.ne_of_gt lS) st) (.inl rfl) (zm.at fun o e=>k2 d o hSd (kp d o e)) (fun b o nb _ e=>k2 b o nb (kp b o e)) u3 (fun j hj ji=>absurd ji (Nat.not_lt_zero j)) z2⟩
def ColI (s:Shared) (es:Array DictEntry) (q:Result) (s':Shared):Prop:=∃(g:Heap) (tk c:Nat),q=.ok (.ret (.ref s.heap.objs.size))∧s'={s with heap:=g,toks:=tk}∧(∀b o,s.heap.get? b=some o→g.get? b=some o)∧
 g.get? s.heap.objs.size=some (lsO ((beh (s.heap.objs.size+1) es.size).map Value.ref).toArray c)∧∀(j:Nat) (hj:j<es.size),g.get? (s.heap.objs.size+1+1+j)=some (duo es[j].key es[j].val)
theorem Ql {r:Addr} {C:List Value→Shared→Prop} (zh:A.handled=none) (zv:s.heap.IsItemsView r d) (zm:RwD s.heap d es ep) (hn:es.size≤sizeLine)
  (h:∀(g:Heap) (tk:Nat),(∀b o,s.heap.get? b=some o→g.get? b=some o)→(∀(j:Nat) (hj:j<es.size),g.get? (s.heap.objs.size+1+1+j)=some (duo es[j].key es[j].val))→C ((beh (s.heap.objs.size+1) es.size).map Value.ref) {s with heap:=g,toks:=tk}):wpAny (model prog w) A (collect (.ref r)) C E s:=by
 have lr:r<s.heap.objs.size:=let ⟨_,e,_⟩:=zv;Heap.lt_size e
 unfold collect
 refine wpAny_bind (wpAny_runValue (codeAny_builtin entry_proto_collect' ?_));rw [Around.under_plainId PySem.F.plain_proto_collect _]
 refine wpAny_bind (m:=newList []) (wpAny_newObj_type (wpAny_pure ⟨plainId_quiet PySem.F.plain_list_iadd _,codeAny_builtin entry_list_iadd' ?_⟩));rw [Around.under_plainId PySem.F.plain_list_iadd _]
 have own:(s.heap.push {cls:=.type "list",data:=.seq ([]:List Value).toArray}).get? s.heap.objs.size=some (lsO #[] 0):=Heap.get?_push_size _ rfl
 have sz:(s.heap.push {cls:=.type "list",data:=.seq ([]:List Value).toArray}).objs.size=s.heap.objs.size+1:=size_push' _ _
 have run:=O8 (prog:=prog) (w:=w) (A:=A) (s:={s with heap:=s.heap.push {cls:=.type "list",data:=.seq ([]:List Value).toArray}}) (R:=ColI s es) (es:=es) (ep:=ep) (r:=r) zh (let ⟨o,e,x⟩:=zv;⟨o,Heap.get?_push_of_some _ e,x⟩) (zm.at fun o e=>Heap.get?_push_of_some _ e) (Nat.ne_of_gt lr) (Nat.ne_of_lt zm.lt) hn (.ref s.heap.objs.size) own
  (fun g tk c hk hS tp=>⟨g,tk,c,rfl,rfl,fun b o e=>hk b o (Nat.ne_of_lt (Heap.lt_size e)) (Heap.get?_push_of_some _ e),by rw [←sz];exact hS,fun j hj=>by rw [←sz];exact tp j hj⟩)
 refine wpAny_mono run (fun fin s' y=>?_) (fun _ _ y=>by obtain ⟨_,_,_,e,_⟩:=y;cases e)
 have last:∀{g:Heap} {tk c:Nat},(∀b o,s.heap.get? b=some o→g.get? b=some o)→g.get? s.heap.objs.size=some (lsO ((beh (s.heap.objs.size+1) es.size).map Value.ref).toArray c)→(∀(j:Nat) (hj:j<es.size),g.get? (s.heap.objs.size+1+1+j)=some (duo es[j].key es[j].val))→
   wpAny (model prog w) A (load s.heap.objs.size >>= fun u=>match u.data with
    | .seq xs _=>pure xs.toList
    | _=>unsupported "internal:collect") C E {s with heap:=g,toks:=tk}:=fun {g tk c} hk hS tp=>wpAny_bind (wpAny_load hS (wpAny_pure (by rw [List.toList_toArray];exact h g tk hk tp)))
 cases fin with
 | done f=>
  obtain ⟨g,tk,c,e,rfl,hk,hS,tp⟩:=y
  cases e
  exact last hk hS tp
 | again c1=>
  refine ⟨y.1,codeAny_mono y.2 fun q s2 z=>?_⟩
  obtain ⟨g,tk,c,rfl,rfl,hk,hS,tp⟩:=z
  exact last hk hS tp
end
def leP (a b:(Int×Int)×Int):Bool:=decide (a.1.1<b.1.1) || (decide (a.1.1=b.1.1) && (decide (a.1.2<b.1.2) || (decide (a.1.2=b.1.2) && decide (a.2≤b.2))))
theorem U5 {a b:(Int×Int)×Int}:leP a b=true↔a.1.1<b.1.1∨(a.1.1=b.1.1∧(a.1.2<b.1.2∨(a.1.2=b.1.2∧a.2≤b.2))):=by
 unfold leP
 simp only [Bool.or_eq_true,Bool.and_eq_true,decide_eq_true_iff]
theorem j6 (a b:(Int×Int)×Int):(leP a b || leP b a)=true:=by
 rw [Bool.or_eq_true,U5,U5]
 omega
theorem jP (a b c:(Int×Int)×Int) (h1:leP a b=true) (h2:leP b c=true):leP a c=true:=by
 rw [U5] at *
 omega
theorem Nk {a b:(Int×Int)×Int} (h1:leP a b=true) (h2:leP b a=true):a=b:=by
 rw [U5] at h1 h2
 exact Prod.ext (Prod.ext (by omega) (by omega)) (by omega)
def ba (ps:Sps):Sps:=ps.mergeSort leP
theorem Y0 (ps:Sps):(ba ps).Perm ps:=List.mergeSort_perm _ _
theorem T4 (ps:Sps):(ba ps).Pairwise (fun a b=>leP a b=true):=List.pairwise_mergeSort jP j6 ps
theorem Pt {α:Type} {le:α→α→Bool} (anti:∀{a b},le a b=true→le b a=true→a=b):∀{l m:List α},l.Perm m→l.Pairwise (fun a b=>le a b=true)→m.Pairwise (fun a b=>le a b=true)→l=m
 | [],m,p,_,_=>List.Perm.nil_eq p
 | a::l,[],p,_,_=>absurd p.length_eq (by simp)
 | a::l,b::m,p,h1,h2=>by
  have e:a=b:=by
   rcases List.mem_cons.mp (p.mem_iff.mp List.mem_cons_self) with q | q
   ·exact q
   ·rcases List.mem_cons.mp (p.mem_iff.mpr List.mem_cons_self) with r | r
    ·exact r.symm
    ·exact anti ((List.pairwise_cons.mp h1).1 b r) ((List.pairwise_cons.mp h2).1 a q)
  subst e
  rw [Pt anti ((List.perm_cons a).mp p) (List.pairwise_cons.mp h1).2 (List.pairwise_cons.mp h2).2]
theorem N0 {α:Type} (F:Addr→α→Prop) (fu:∀{a k l},F a k→F a l→k=l) {le:α→α→Bool} (anti:∀{a b},le a b=true→le b a=true→a=b) {as bs:List Addr} {ks srt:List α} (h:Paired F as ks) (p:bs.Perm as) (pw:bs.Pairwise fun a b=>∀k l,F a k→F b l→le k l=true) (sp:srt.Perm ks) (sw:srt.Pairwise fun a b=>le a b=true):Paired F bs srt:=by
 classical
 cases ks with
 | nil=>
  cases h
  rw [p.eq_nil,sp.eq_nil]
  exact .nil
 | cons k0 ks0=>
  let key:Addr→α:=fun a=>if h:∃k,F a k then Classical.choose h else k0
  have kat:∀{a k},F a k→key a=k:=fun {a k} f=>by
   have ex:∃k,F a k:=⟨k,f⟩
   show (if h:∃k,F a k then Classical.choose h else k0)=k
   rw [dif_pos ex]
   exact fu (Classical.choose_spec ex) f
  have all:∀{l:List Addr} {m:List α},Paired F l m→l.map key=m∧∀a∈l,F a (key a):=fun {l m} r=>by
   induction r with
   | nil=>exact ⟨rfl,fun _ h=>nomatch h⟩
   | @cons b k l m e _ ih=>
    have kb:=kat e
    refine ⟨by rw [List.map_cons,kb,ih.1],fun c hc=>?_⟩
    rcases List.mem_cons.mp hc with z | hc
    ·rw [z,kb];exact e
    ·exact ih.2 c hc
  obtain ⟨e1,e2⟩:=all h
  have atb:∀b∈bs,F b (key b):=fun b hb=>e2 b (p.mem_iff.mp hb)
  have back:∀{l:List Addr},(∀b∈l,F b (key b))→Paired F l (l.map key):=fun {l} hl=>by
   induction l with
   | nil=>exact .nil
   | cons b l ih=>exact .cons (hl b (.head _)) (ih fun c hc=>hl c (.tail _ hc))
  have eq:bs.map key=srt:=Pt anti ((p.map key).trans (by rw [e1];exact sp.symm)) (List.pairwise_map.mpr (pw.imp_of_mem fun {a b} ha hb q=>q _ _ (atb a ha) (atb b hb))) sw
  rw [←eq]
  exact back atb
def FT (H:Hp) (a:Addr) (p:(Int×Int)×Int):Prop:=∃b:Addr,H a=some (.tup [.ref b,.int p.2])∧H b=some (.tup [.int p.1.1,.int p.1.2])
theorem FT.fu {H:Hp} {a:Addr} {p q:(Int×Int)×Int} (h:FT H a p) (g:FT H a q):p=q:=by
 obtain ⟨b,e1,e2⟩:=h
 obtain ⟨c,f1,f2⟩:=g
 rw [e1] at f1
 injection f1 with f1
 injection f1 with f1
 injection f1 with g1 g2
 injection g1 with g1
 injection g2 with g2 _
 injection g2 with g2
 subst g1
 rw [e2] at f2
 injection f2 with f2
 injection f2 with f2
 injection f2 with k1 k2
 injection k1 with k1
 injection k2 with k2 _
 injection k2 with k2
 exact Prod.ext (Prod.ext k1 k2) g2
theorem Ob {H:Hp} {as:List Addr} {ps:Sps} (h:Paired (FT H) as ps):TPsAt H (as.map V.ref) (ao ps):=by
 induction h with
 | nil=>exact .nil
 | cons h r ih=>
  obtain ⟨_,e1,e2⟩:=h
  exact .cons e1 e2 ih
theorem uq {p q:(Int×Int)×Int} (h:(cE (cE aN aN) aN).blt q p=false):leP p q=true:=by
 rw [U5]
 have h:cQ (cE aN aN) aN q p=false:=h
 by_cases c:p.1.1<q.1.1
 ·exact .inl c
 have no:∀{z:Bool},z=true→z=false→False:=fun a b=>by rw [a] at b;cases b
 have n1:¬q.1.1<p.1.1:=fun c=>no (Yb.mpr (.inl (Yb (O:=aN) (U:=aN).mpr (.inl (decide_eq_true c))))) h
 have e1:p.1.1=q.1.1:=by omega
 refine .inr ⟨e1,?_⟩
 have n2:¬q.1.2<p.1.2:=fun c=>no (Yb.mpr (.inl (Yb (O:=aN) (U:=aN).mpr (.inr ⟨e1.symm,decide_eq_true c⟩)))) h
 by_cases c2:p.1.2<q.1.2
 ·exact .inl c2
 have e2:p.1.2=q.1.2:=by omega
 refine .inr ⟨e2,?_⟩
 have n3:¬q.2<p.2:=fun c=>no (Yb.mpr (.inr ⟨Prod.ext e1.symm e2.symm,decide_eq_true c⟩)) h
 omega
section
variable {X:Cx}
def qR:List V→Hp→VK→Prop:=fun xs H Q=>∃(v d:Addr) (ps:Sps),xs=[.ref v]∧H v=some (dj v d)∧H d=some (.dT (ao ps))∧ps.length<1000∧
 ∀(H1:Hp) (as:List Addr),Same H H1→Paired (FT H1) as (ba ps)→∀q,H1 q=none→H q=none→Q (.ref q) (upd H1 q (.lst (as.map V.ref)))
theorem mO {H:Hp}:∀{ps:Sps} {xs:List TKv} {j:Nat} {p:(Int×Int)×Int},KT H (ao ps) xs→ps[j]?=some p→∃x,xs[j]?=some x∧H x.2.1=some (.tup [.int p.1.1,.int p.1.2])∧∃t,x.2.2=.int p.2 t:=fun {ps xs j p} kt e=>by
 have e2:(ao ps)[j]?=some (kk p.1,.int p.2):=by unfold ao;rw [List.getElem?_map,e];rfl
 obtain ⟨x,h1,h2,t,h3⟩:=gE kt e2
 exact ⟨x,h1,h2,t,h3⟩
theorem Sh (hc:X.calm=true) (hu:X.A.units+64<cLine):bZ X (.builtin "sorted") qR:=by
 intro pins s σ H xs us Q I rx h
 obtain ⟨v,d,ps,rfl,hv,hd,h64,q⟩:=h
 obtain ⟨u,rfl,ru⟩:=Ve rx
 cases ru
 obtain ⟨_,lo,ks,es,ep,kt,raw,ek,ev,sz⟩:=gP I.hok (.inl hd)
 obtain ⟨view,_⟩:=(show ObjOk X.prog X.w H s.heap v (dj v d) from I.hok v _ hv)
 rw [Yi] at sz
 have kl:ks.length=ps.length:=by rw [←Paired.length kt,Yi]
 let n:=s.heap.objs.size
 let L:Hp:=fun b=>if n+2≤b then (match ks[b - (n+2)]?,ps[b - (n+2)]? with
  | some x,some p=>some (.tup [.ref x.2.1,.int p.2])
  | _,_=>none) else none
 have Lat:∀(j:Nat) (x:TKv) (p:(Int×Int)×Int),ks[j]?=some x→ps[j]?=some p→L (n+1+1+j)=some (.tup [.ref x.2.1,.int p.2]):=fun j x p h1 h2=>by
  show (if n+2≤n+1+1+j then _ else none)=_
  rw [if_pos (by omega),show n+1+1+j - (n+2)=j by omega,h1,h2]
 refine Qw (sU (prog:=X.prog) (w:=X.w)) (Uv (prog:=X.prog) (w:=X.w)) FTI (fun {pins σ H s a k} I h=>?_) (((0:Int),(0:Int)),(0:Int)) hu (fun {E C} hC=>Ql (A:=X.A.in1) (by simpa using I.ok.hd hc) view raw (Zn (by omega)) fun g tk kp tp=>?_)
 ·obtain ⟨b,i,j,n,h,hb,rfl⟩:=h
  obtain ⟨o,m,u,v,e1,e2,e3,ru,⟨t',rv⟩⟩:=fw I h
  obtain ⟨o2,m2,u2,v2,g1,g2,g3,⟨t2,ru2⟩,⟨t3,rv2⟩⟩:=fw I hb
  exact ⟨a,o,m,u,v,rfl,e1,e2,e3,⟨b,o2,m2,u2,v2,ru,g1,g2,g3,⟨t2,ru2⟩,⟨t3,rv2⟩⟩,⟨t',rv⟩⟩
 have ent:∀(j:Nat) (hj:j<es.size) (x:TKv),ks[j]?=some x→es[j].key=.ref x.2.1∧es[j].val=x.2.2:=fun j hj x hx=>by
  have q1:(es.toList.map DictEntry.key)[j]?=some es[j].key:=by rw [List.getElem?_map,Array.getElem?_toList,Array.getElem?_eq_getElem hj];rfl
  have q2:(es.toList.map DictEntry.val)[j]?=some es[j].val:=by rw [List.getElem?_map,Array.getElem?_toList,Array.getElem?_eq_getElem hj];rfl
  rw [ek,List.getElem?_map,List.getElem?_map,hx] at q1
  rw [ev,List.getElem?_map,hx] at q2
  exact ⟨(Option.some.inj q1).symm,(Option.some.inj q2).symm⟩
 have nw:∀b o,n≤b→L b=some o→ObjOk X.prog X.w (over H n L) g b o:=fun b o hb e=>by
  have e:(if n+2≤b then (match ks[b - (n+2)]?,ps[b - (n+2)]? with
   | some x,some p=>some (HO.tup [.ref x.2.1,.int p.2])
   | _,_=>none) else none)=some o:=e
  by_cases hb2:n+2≤b
  ·rw [if_pos hb2] at e
   have hj:b - (n+2)<ps.length:=by
    by_cases z:b - (n+2)<ps.length
    ·exact z
    ·rw [List.getElem?_eq_none (Nat.not_lt.mp z)] at e
     cases z2:ks[b - (n+2)]? <;> rw [z2] at e <;> cases e
   have hp:ps[b - (n+2)]?=some ps[b - (n+2)]:=List.getElem?_eq_getElem hj
   obtain ⟨x,hx,_,t,hv⟩:=mO kt hp
   rw [hx,hp] at e
   cases e
   have hje:b - (n+2)<es.size:=by omega
   obtain ⟨k1,k2⟩:=ent _ hje x hx
   have tb:=tp _ hje
   rw [k1,k2,hv,show s.heap.objs.size+1+1+(b - (n+2))=b by show n+1+1+(b - (n+2))=b;omega] at tb
   exact ⟨Zn (leN rfl),[.ref x.2.1,.int _ t],.cons rfl (.cons ⟨t,rfl⟩ .nil),⟨_,tb,⟨rfl,rfl⟩,_,rfl⟩⟩
  ·rw [if_neg hb2] at e
   cases e
 obtain ⟨I',sm⟩:=I.over (t':=tk) kp nw
 have pr:Paired (FT (over H n L)) (beh (n+1) es.size) ps:=by
  have go:∀(l:Sps) (m:Nat),(∀j p,l[j]?=some p→ps[m+j]?=some p)→m+l.length=ps.length→Paired (FT (over H n L)) ((List.range l.length).map fun j=>n+1+1+(m+j)) l:=fun l=>by
   induction l with
   | nil=>intro m _ _;exact .nil
   | cons p l ih=>
    intro m hl hm
    have e0:=hl 0 p rfl
    obtain ⟨x,hx,hb,_⟩:=mO kt e0
    have q:=ih (m+1) (fun j p e=>by have:=hl (j+1) p (by simpa using e);rwa [show m+(j+1)=m+1+j by omega] at this) (by rw [List.length_cons] at hm;omega)
    rw [List.length_cons,List.range_succ_eq_map,List.map_cons,List.map_map]
    refine .cons ⟨x.2.1,?_,sm _ _ hb⟩ ?_
    ·rw [N5 (by omega)]
     exact Lat (m+0) x p hx e0
    ·have ef:((fun j=>n+1+1+(m+j))∘Nat.succ)=fun j=>n+1+1+(m+1+j):=by
      funext j
      show n+1+1+(m+(j+1))=_
      omega
     rw [ef]
     exact q
  have:=go ps 0 (fun j p e=>by rwa [Nat.zero_add]) (by omega)
  rw [sz]
  unfold beh
  simpa using this
 refine hC g tk (over H n L) (beh (n+1) es.size) I' (by rw [iN];omega) (fun a ha=>?_) fun bs bp pw q0 nq=>?_
 ·have:∀{l:List Addr} {m:Sps},Paired (FT (over H n L)) l m→a∈l→∃k,FTI (over H n L) a k:=fun {l m} r=>by
   induction r with
   | nil=>intro h;exact nomatch h
   | cons e _ ih=>
    intro h
    rcases List.mem_cons.mp h with z | h
    ·obtain ⟨b,e1,e2⟩:=e
     rw [z]
     exact ⟨_,b,_,_,_,e1,e2,rfl⟩
    ·exact ih h
  exact this pr ha
 ·refine q (over H n L) bs sm (N0 (FT (over H n L)) (fun f g=>f.fu g) (fun a b=>Nk a b) pr bp (pw.imp fun {a b} h k l fk fl=>?_) (Y0 ps) (T4 ps)) q0 nq ?_
  ·obtain ⟨b1,e1,e2⟩:=fk
   obtain ⟨b2,f1,f2⟩:=fl
   exact uq (h k l ⟨b1,_,_,_,e1,e2,rfl⟩ ⟨b2,_,_,_,f1,f2,rfl⟩)
  ·by_cases z:H q0=none
   ·exact z
   ·obtain ⟨u,hu⟩:=Option.ne_none_iff_exists'.mp z
    rw [sm _ _ hu] at nq
    cases nq
end
section
variable {P:Program} {w:World} {A:Around} {E:Value→Shared→Prop} {s:Shared} {a b:Addr} {es:Array DictEntry} {ep e2:Nat}
end
theorem pC {X:Cx} (hu:X.A.units+64<cLine):OpR X (compareOp .In) (fun x y H Q=>∃(a:Addr) (o:Option V),y=.ref a∧DGet H a x o∧Q (.bl o.isSome) H):=by
 intro pins s σ H x y v u Q I rx ry h
 obtain ⟨a,o,rfl,g,q⟩:=h
 cases ry
 exact d_in (by omega) I g rx fun s' I'=>⟨.bl _,H,I',rfl,q⟩
end L2
namespace L2
open PySem
def uw (X:Cx) (ss:List Stmt):TS:=fun D σ H=>∃t:TS,PSs X ss t∧t D σ H
theorem Zf {X:Cx} {ss:List Stmt}:PSs X ss (uw X ss):=fun pins s σ H D I ⟨_,h,q⟩=>h pins s σ H D I q
section
variable {K:W.Frag} {a:Addr} {xs:List V} {g:TG} {tb:TS} {D:Ends} {σ:St} {H:Hp}
theorem Xs (Pv:Nat→St→Hp→Prop) (h0:Pv 0 σ H) (hl:∀i σ H,i≤xs.length→Pv i σ H→SqL K H a xs)
  (hs:∀i x σ H (N B:St→Hp→Prop) (R:VK),(∀σ' H',Pv (i+1) σ' H'→N σ' H')→(∀v H',D.rt v H'→R v H')→xs[i]?=some x→Pv i σ H→g x σ H fun σ2 H2=>tb {nx:=N,rt:=R,bk:=B,ct:=N} σ2 H2) (hd:∀σ H,Pv xs.length σ H→D.nx σ H):
  ∃W:Nat→Nat→St→Hp→Prop,(∃m,W 0 m σ H)∧∀i m σ H,W i m σ H→
   ((Itl K a).stop i H∧D.nx σ H)∨((Itl K a).go i H∧∃N:St→Hp→Prop,(∀σ' H',N σ' H'→∃m',m'<m∧W (i+1) m' σ' H')∧∀x H',(Itl K a).yld i H x H'→g x σ H' fun σ2 H2=>tb {D with nx:=N,ct:=N,bk:=D.nx} σ2 H2):=
 eJ Pv h0 hl (fun i x σ H hx p=>hs i x σ H _ _ _ (fun _ _ q=>q) (fun _ _ q=>q) hx p) hd
theorem eE (Pv:Nat→St→Hp→Prop) (h0:Pv 0 σ H) (hl:∀i σ H,i≤xs.length→Pv i σ H→SqT K H a xs)
  (hs:∀i x σ H (N B:St→Hp→Prop) (R:VK),(∀σ' H',Pv (i+1) σ' H'→N σ' H')→(∀v H',D.rt v H'→R v H')→xs[i]?=some x→Pv i σ H→g x σ H fun σ2 H2=>tb {nx:=N,rt:=R,bk:=B,ct:=N} σ2 H2) (hd:∀σ H,Pv xs.length σ H→D.nx σ H):
  ∃W:Nat→Nat→St→Hp→Prop,(∃m,W 0 m σ H)∧∀i m σ H,W i m σ H→
   ((Itt K a).stop i H∧D.nx σ H)∨((Itt K a).go i H∧∃N:St→Hp→Prop,(∀σ' H',N σ' H'→∃m',m'<m∧W (i+1) m' σ' H')∧∀x H',(Itt K a).yld i H x H'→g x σ H' fun σ2 H2=>tb {D with nx:=N,ct:=N,bk:=D.nx} σ2 H2):=
 pJ Pv h0 hl (fun i x σ H hx p=>hs i x σ H _ _ _ (fun _ _ q=>q) (fun _ _ q=>q) hx p) hd
theorem Q7 {lo:Int} {n:Nat} (Pv:Nat→St→Hp→Prop) (h0:Pv 0 σ H)
  (hs:∀i σ H (N B:St→Hp→Prop) (R:VK),(∀σ' H',Pv (i+1) σ' H'→N σ' H')→(∀v H',D.rt v H'→R v H')→i<n→Pv i σ H→g (.int (lo+i)) σ H fun σ2 H2=>tb {nx:=N,rt:=R,bk:=B,ct:=N} σ2 H2) (hd:∀σ H,Pv n σ H→D.nx σ H):
  ∃W:Nat→Nat→St→Hp→Prop,(∃m,W 0 m σ H)∧∀i m σ H,W i m σ H→
   ((Itr lo n).stop i H∧D.nx σ H)∨((Itr lo n).go i H∧∃N:St→Hp→Prop,(∀σ' H',N σ' H'→∃m',m'<m∧W (i+1) m' σ' H')∧∀x H',(Itr lo n).yld i H x H'→g x σ H' fun σ2 H2=>tb {D with nx:=N,ct:=N,bk:=D.nx} σ2 H2):=
 j_ Pv h0 (fun i σ H hi p=>hs i σ H _ _ _ (fun _ _ q=>q) (fun _ _ q=>q) hi p) hd
end
theorem Yt {α:Type} {n:Nat} {P:List α→Prop} (h:∀a r,r.length=n→P (a::r)):∀us:List α,us.length=n+1→P us:=fun us e=>by
 cases us with
 | nil=>cases e
 | cons a r=>exact h a r (Nat.succ.inj e)
theorem Sr {α:Type} {P:List α→Prop} (h:P []):∀us:List α,us.length=0→P us:=fun us e=>by
 cases us with
 | nil=>exact h
 | cons a r=>cases e
theorem Fun.b1 {K:W.Frag} {x qual:Str} {st:Stmt} {f:Addr} {fd:FuncData} {p0:Str} (F:Fun K x qual st f fd) (h:∀(kV doc pm:Value) (an:Option Addr) (cdv ct u0:Value),bindArgs (W.fnOf x qual (ag st) (ae st) (aa st) .none kV doc pm an cdv ct) ⟨[u0],[]⟩=pure [(p0,u0)]):Binds K fd [p0] []:=F.binds fun kV doc pm an cdv ct=>Yt fun u0=>Sr (h kV doc pm an cdv ct u0)
theorem Fun.b2 {K:W.Frag} {x qual:Str} {st:Stmt} {f:Addr} {fd:FuncData} {p0 p1:Str} (F:Fun K x qual st f fd) (h:∀(kV doc pm:Value) (an:Option Addr) (cdv ct u0 u1:Value),bindArgs (W.fnOf x qual (ag st) (ae st) (aa st) .none kV doc pm an cdv ct) ⟨[u0,u1],[]⟩=pure [(p0,u0),(p1,u1)]):Binds K fd [p0,p1] []:=F.binds fun kV doc pm an cdv ct=>Yt fun u0=>Yt fun u1=>Sr (h kV doc pm an cdv ct u0 u1)
theorem Fun.b3 {K:W.Frag} {x qual:Str} {st:Stmt} {f:Addr} {fd:FuncData} {p0 p1 p2:Str} (F:Fun K x qual st f fd) (h:∀(kV doc pm:Value) (an:Option Addr) (cdv ct u0 u1 u2:Value),bindArgs (W.fnOf x qual (ag st) (ae st) (aa st) .none kV doc pm an cdv ct) ⟨[u0,u1,u2],[]⟩=pure [(p0,u0),(p1,u1),(p2,u2)]):Binds K fd [p0,p1,p2] []:=F.binds fun kV doc pm an cdv ct=>Yt fun u0=>Yt fun u1=>Yt fun u2=>Sr (h kV doc pm an cdv ct u0 u1 u2)
theorem Fun.b4 {K:W.Frag} {x qual:Str} {st:Stmt} {f:Addr} {fd:FuncData} {p0 p1 p2 p3:Str} (F:Fun K x qual st f fd) (h:∀(kV doc pm:Value) (an:Option Addr) (cdv ct u0 u1 u2 u3:Value),bindArgs (W.fnOf x qual (ag st) (ae st) (aa st) .none kV doc pm an cdv ct) ⟨[u0,u1,u2,u3],[]⟩=pure [(p0,u0),(p1,u1),(p2,u2),(p3,u3)]):Binds K fd [p0,p1,p2,p3] []:=F.binds fun kV doc pm an cdv ct=>Yt fun u0=>Yt fun u1=>Yt fun u2=>Yt fun u3=>Sr (h kV doc pm an cdv ct u0 u1 u2 u3)
end L2
namespace Ld
open PySem L2
def am (k:Int×Int):Int×Int:=(k.1+1,k.2 / 2)
def ap (ps:Sps) (k:Int×Int):Option V:=bD (ao ps) (kk k)
theorem Tl:∀(ps:Sps) (k:Int×Int),ap ps k=none∨∃n,ap ps k=some (.int n)
 | [],k=>.inl rfl
 | p::ps,k=>by
  unfold ap ao
  rw [List.map_cons]
  by_cases e:kk p.1=kk k
  ·rw [Y2 e]
   exact .inr ⟨_,rfl⟩
  ·rw [Zx e]
   exact Tl ps k
def av (ps:Sps) (k:Int×Int) (n:Int):Sps:=if (ps.any fun p=>decide (p.1=k))=true then ps.map (fun p=>if p.1=k then (p.1,n) else p) else ps++[(k,n)]
def bB (ps:Sps) (k:Int×Int):Sps:=ps.filter fun p=>decide (p.1≠k)
theorem Q4 {p q:Int×Int}:kk p=kk q↔p=q:=⟨Vc,fun e=>by rw [e]⟩
theorem Pw (ps:Sps) (k:Int×Int) (n:Int):aZ (ao ps) (kk k) (.int n)=ao (av ps k n):=by
 have ea:((ao ps).any fun kv=>decide (kv.1=kk k))=ps.any fun p=>decide (p.1=k):=by
  unfold ao
  rw [List.any_map]
  congr 1
  funext p
  exact decide_eq_decide.mpr Q4
 unfold aZ av
 rw [ea]
 split
 ·unfold ao
  rw [List.map_map,List.map_map]
  congr 1
  funext p
  show (if kk p.1=kk k then (kk p.1,V.int n) else (kk p.1,V.int p.2))=_
  by_cases e:p.1=k
  ·rw [if_pos (Q4.mpr e)]
   show _=(kk (if p.1=k then (p.1,n) else p).1,V.int (if p.1=k then (p.1,n) else p).2)
   rw [if_pos e]
  ·rw [if_neg (fun z=>e (Vc z))]
   show _=(kk (if p.1=k then (p.1,n) else p).1,V.int (if p.1=k then (p.1,n) else p).2)
   rw [if_neg e]
 ·unfold ao
  rw [List.map_append]
  rfl
theorem pD (ps:Sps) (k:Int×Int):cu (ao ps) (kk k)=ao (bB ps k):=by
 unfold cu bB ao
 rw [List.filter_map]
 congr 1
 refine List.filter_congr fun p _=>?_
 exact decide_eq_decide.mpr (not_congr Q4)
theorem Og {ps:Sps} {k:Int×Int}:(ps.any fun p=>decide (p.1=k))=true↔k∈ps.map (·.1):=by
 rw [List.any_eq_true,List.mem_map]
 exact ⟨fun ⟨p,h,e⟩=>⟨p,h,of_decide_eq_true e⟩,fun ⟨p,h,e⟩=>⟨p,h,decide_eq_true e⟩⟩
theorem Wr (ps:Sps) (k:Int×Int) (n:Int):(av ps k n).map (·.1)=if k∈ps.map (·.1) then ps.map (·.1) else ps.map (·.1)++[k]:=by
 unfold av
 by_cases h:k∈ps.map (·.1)
 ·rw [if_pos (Og.mpr h),if_pos h,List.map_map]
  congr 1
  funext p
  show (if p.1=k then (p.1,n) else p).1=p.1
  split <;> rfl
 ·rw [if_neg (fun z=>h (Og.mp z)),if_neg h,List.map_append]
  rfl
theorem Ua (ps:Sps) (k:Int×Int):(bB ps k).map (·.1)=(ps.map (·.1)).filter fun x=>decide (x≠k):=by
 unfold bB
 rw [List.filter_map]
 rfl
theorem T9 (ps:Sps) (k:Int×Int) (n:Int):(av ps k n).length≤ps.length+1:=by
 unfold av
 split
 ·rw [List.length_map];omega
 ·rw [List.length_append];exact Nat.le_refl _
theorem X5 (ps:Sps) (k j:Int×Int) (n:Int):ap (av ps k n) j=if j=k then some (.int n) else ap ps j:=by
 unfold ap
 rw [←Pw,lA]
 by_cases e:j=k
 ·rw [if_pos (Q4.mpr e),if_pos e]
 ·rw [if_neg (fun z=>e (Vc z)),if_neg e]
theorem Ye (p:(Int×Int)×Int) (ps:Sps) (j:Int×Int):ap (p::ps) j=if p.1=j then some (.int p.2) else ap ps j:=by
 unfold ap ao
 rw [List.map_cons]
 by_cases e:p.1=j
 ·rw [if_pos e,Y2 (by show kk p.1=kk j;rw [e])]
 ·rw [if_neg e,Zx (fun z=>e (Vc z))]
theorem Ww:∀(ps:Sps) (k j:Int×Int),ap (bB ps k) j=if j=k then none else ap ps j
 | [],k,j=>by
  show none=if j=k then none else none
  split <;> rfl
 | p::ps,k,j=>by
  have ih:=Ww ps k j
  unfold bB at ih ⊢
  by_cases e:p.1=k
  ·rw [List.filter_cons,if_neg (by simpa using e),ih,Ye]
   by_cases z:j=k
   ·rw [if_pos z,if_pos z]
   ·rw [if_neg z,if_neg z,if_neg (fun q=>z (by rw [←q,e]))]
  ·rw [List.filter_cons,if_pos (decide_eq_true e),Ye,ih,Ye]
   by_cases z:j=k
   ·rw [if_pos z,if_pos z,if_neg (fun q=>e (by rw [q,z]))]
   ·rw [if_neg z,if_neg z]
theorem Pz (k:Int×Int):k≠am k:=fun e=>by
 have:k.1=k.1+1:=congrArg (·.1) e
 omega
theorem W0 {ps:Sps} {k:Int×Int}:(ap ps k).isSome=true↔k∈ps.map (·.1):=by
 unfold ap
 rw [←Wi,←Og]
 have ea:((ao ps).any fun kv=>decide (kv.1=kk k))=ps.any fun p=>decide (p.1=k):=by
  unfold ao
  rw [List.any_map]
  congr 1
  funext p
  exact decide_eq_decide.mpr Q4
 rw [ea]
theorem kx {ps:Sps} {k:Int×Int} (h:(ap ps k).isSome=true):∃m,ap ps k=some (.int m):=by
 rcases Tl ps k with z | z
 ·rw [z] at h;cases h
 ·exact z
def cnt (ps:Sps) (k:Int×Int):Int:=match ap ps k with
 | some (.int n)=>n
 | _=>0
theorem Wb:∀{ps:Sps} {p:(Int×Int)×Int},(ps.map (·.1)).Nodup→p∈ps→ap ps p.1=some (.int p.2)
 | q::ps,p,nd,h=>by
  rw [List.map_cons,List.nodup_cons] at nd
  rw [Ye]
  rcases List.mem_cons.mp h with e | h
  ·rw [e,if_pos rfl]
  ·rw [if_neg (fun z=>nd.1 (by rw [z];exact List.mem_map.mpr ⟨p,h,rfl⟩))]
   exact Wb nd.2 h
theorem Wu {ps:Sps} {k:Int×Int} (h:k∈ps.map (·.1)):ap ps k=some (.int (cnt ps k)):=by
 obtain ⟨m,e⟩:=kx (W0.mpr h)
 unfold cnt
 rw [e]
theorem Wx {ps:Sps} {k:Int×Int} (h:k∉ps.map (·.1)):ap ps k=none:=by
 rcases Tl ps k with z | ⟨n,z⟩
 ·exact z
 ·exact absurd (W0.mp (by rw [z];rfl)) h
theorem Vt {ps:Sps} {p:(Int×Int)×Int} (nd:(ps.map (·.1)).Nodup) (h:p∈ps):cnt ps p.1=p.2:=by
 unfold cnt
 rw [Wb nd h]
theorem Yw {ps:Sps} {k:Int×Int} (h:k∉ps.map (·.1)):cnt ps k=0:=by
 unfold cnt
 rw [Wx h]
theorem W2 (ps:Sps) (k:Int×Int):(ap ps k).getD (.int 0)=.int (cnt ps k):=by
 unfold cnt
 rcases Tl ps k with z | ⟨n,z⟩ <;> rw [z] <;> rfl
theorem Sb {ps qs:Sps} {j k:Int×Int} (h:ap ps j=ap qs k):cnt ps j=cnt qs k:=by
 unfold cnt
 rw [h]
theorem Ub (ps:Sps) (k j:Int×Int) (n:Int):cnt (av ps k n) j=if j=k then n else cnt ps j:=by
 unfold cnt
 rw [X5]
 by_cases e:j=k
 ·rw [if_pos e,if_pos e]
 ·rw [if_neg e,if_neg e]
theorem nV (ps:Sps) (k j:Int×Int):cnt (bB ps k) j=if j=k then 0 else cnt ps j:=by
 unfold cnt
 rw [Ww]
 by_cases e:j=k
 ·rw [if_pos e,if_pos e]
 ·rw [if_neg e,if_neg e]
theorem Ru {ps:Sps} {p:(Int×Int)×Int} (nd:(ps.map (·.1)).Nodup):p∈ps↔ap ps p.1=some (.int p.2):=by
 refine ⟨Wb nd,fun h=>?_⟩
 have hk:p.1∈ps.map (·.1):=W0.mp (by rw [h];rfl)
 obtain ⟨q,hq,e⟩:=List.mem_map.mp hk
 have hq2:=Wb nd hq
 rw [e,h] at hq2
 injection hq2 with hq2
 injection hq2 with hq2
 have:q=p:=Prod.ext e hq2.symm
 rw [←this]
 exact hq
theorem qY {α β:Type} {f:α→β} {l:List α} (h:(l.map f).Nodup):l.Nodup:=(List.pairwise_map.mp h).imp fun h e=>h (by rw [e])
theorem perm_nd {α:Type} [DecidableEq α]:∀{l m:List α},l.Nodup→m.Nodup→(∀a,a∈l↔a∈m)→l.Perm m
 | [],m,_,_,h=>by
  cases m with
  | nil=>exact .refl _
  | cons b m=>exact absurd ((h b).mpr (.head _)) List.not_mem_nil
 | a::l,m,nl,nm,h=>by
  rw [List.nodup_cons] at nl
  have ha:=(h a).mp (.head _)
  refine .trans (List.Perm.cons a (perm_nd nl.2 (nm.erase a) fun b=>?_)) (List.perm_cons_erase ha).symm
  rw [nm.mem_erase_iff]
  refine ⟨fun hb=>⟨fun e=>nl.1 (by rw [←e];exact hb),(h b).mp (.tail _ hb)⟩,fun ⟨ne,hb⟩=>((List.mem_cons.mp ((h b).mpr hb)).resolve_left ne)⟩
theorem U3 {ps qs:Sps} (np:(ps.map (·.1)).Nodup) (nq:(qs.map (·.1)).Nodup) (h:∀k,ap ps k=ap qs k):ps.Perm qs:=
 perm_nd (qY np) (qY nq) fun p=>by rw [Ru np,Ru nq,h]
theorem Xr {ps qs:Sps} (h:ps.Perm qs) (np:(ps.map (·.1)).Nodup) (k:Int×Int):ap ps k=ap qs k:=by
 have nq:(qs.map (·.1)).Nodup:=(h.map _).nodup_iff.mp np
 by_cases hk:k∈ps.map (·.1)
 ·obtain ⟨p,hp,rfl⟩:=List.mem_map.mp hk
  rw [Wb np hp,Wb nq (h.mem_iff.mp hp)]
 ·rw [Wx hk,Wx fun z=>hk ((h.map _).mem_iff.mpr z)]
def ai (ps:Sps):Int:=(ps.map (·.2)).sum
theorem Uz:∀{ps:Sps} {k:Int×Int},(ps.map (·.1)).Nodup→ai (bB ps k)=ai ps - cnt ps k
 | [],k,_=>by
  show (0:Int)=0 - cnt [] k
  rfl
 | p::ps,k,nd=>by
  rw [List.map_cons,List.nodup_cons] at nd
  have ih:=Uz (k:=k) nd.2
  unfold ai bB at ih ⊢
  by_cases e:p.1=k
  ·have o:cnt ps k=0:=Yw (by rw [←e];exact nd.1)
   have c:cnt (p::ps) k=p.2:=by unfold cnt;rw [Ye,if_pos e]
   rw [List.filter_cons,if_neg (by simpa using e),ih,o,c,List.map_cons,List.sum_cons]
   omega
  ·have c:cnt (p::ps) k=cnt ps k:=by unfold cnt;rw [Ye,if_neg e]
   rw [List.filter_cons,if_pos (decide_eq_true e),List.map_cons,List.sum_cons,ih,c,List.map_cons,List.sum_cons]
   omega
theorem X8 {ps:Sps} {k:Int×Int} {n:Int} (nd:(ps.map (·.1)).Nodup):((av ps k n).map (·.1)).Nodup:=by
 rw [Wr]
 split
 ·exact nd
 ·rename_i h
  exact List.nodup_append.mpr ⟨nd,List.nodup_cons.mpr ⟨List.not_mem_nil,List.nodup_nil⟩,fun x hx y hy e=>h (by rw [List.mem_singleton.mp hy] at e;rw [←e];exact hx)⟩
theorem Sw {ps:Sps} {k:Int×Int} (nd:(ps.map (·.1)).Nodup):((bB ps k).map (·.1)).Nodup:=by
 rw [Ua]
 exact nd.filter _
theorem Xe {ps qs:Sps} (h:ps.Perm qs):ai ps=ai qs:=N3 (h.map _)
theorem Po {ps:Sps} {k:Int×Int} {n:Int} (nd:(ps.map (·.1)).Nodup):ai (av ps k n)=ai ps - cnt ps k+n:=by
 have h:(av ps k n).Perm ((k,n)::bB ps k):=by
  have hk:k∉(bB ps k).map (·.1):=by
   rw [Ua]
   intro z
   have:=(List.mem_filter.mp z).2
   simp at this
  refine U3 (X8 nd) (by rw [List.map_cons];exact List.nodup_cons.mpr ⟨hk,Sw nd⟩) fun j=>?_
  rw [X5,Ye,Ww]
  by_cases e:j=k
  ·rw [if_pos e,if_pos e.symm]
  ·rw [if_neg e,if_neg (Ne.symm e),if_neg e]
 rw [Xe h]
 have:=Uz (k:=k) nd
 unfold ai at this ⊢
 rw [List.map_cons,List.sum_cons,this]
 omega
end Ld
namespace Ld
open PySem L2
def cw (ps:Sps) (k:Int×Int) (m n:Int):Sps:=bB (av (av ps (am k) n) k (m - m)) k
theorem kA {ps:Sps} {k:Int×Int} {m n:Int} (hk:k∈ps.map (·.1)):(cw ps k m n).map (·.1)=if am k∈ps.map (·.1) then (ps.map (·.1)).filter (fun x=>decide (x≠k)) else (ps.map (·.1)).filter (fun x=>decide (x≠k))++[am k]:=by
 unfold cw
 have k2:k∈(av ps (am k) n).map (·.1):=by
  rw [Wr]
  split
  ·exact hk
  ·exact List.mem_append_left _ hk
 rw [Ua,Wr,if_pos k2,Wr]
 split
 ·rfl
 ·rw [List.filter_append,List.filter_cons,if_pos (decide_eq_true (Ne.symm (Pz k)))]
  rfl
def mea (deep:Int) (ks:List (Int×Int)):Nat:=(ks.map fun k=>(deep+1 - k.1).toNat).sum
theorem Rv {deep:Int} {k:Int×Int}:∀{ks:List (Int×Int)},ks.Nodup→k∈ks→mea deep (ks.filter fun x=>decide (x≠k))+(deep+1 - k.1).toNat=mea deep ks
 | [],_,h=>nomatch h
 | x::ks,nd,h=>by
  rw [List.nodup_cons] at nd
  by_cases e:x=k
  ·subst e
   have o:ks.filter (fun y=>decide (y≠x))=ks:=List.filter_eq_self.mpr fun y hy=>decide_eq_true fun z=>nd.1 (by rw [←z];exact hy)
   rw [List.filter_cons,if_neg (by simp),o]
   unfold mea
   rw [List.map_cons,List.sum_cons]
   omega
  ·have hk:k∈ks:=(List.mem_cons.mp h).resolve_left (Ne.symm e)
   have ih:=Rv (deep:=deep) nd.2 hk
   rw [List.filter_cons,if_pos (decide_eq_true e)]
   unfold mea at ih ⊢
   rw [List.map_cons,List.sum_cons,List.map_cons,List.sum_cons]
   omega
theorem n8 {deep:Int} (h:deep≤20):∀{ks:List (Int×Int)},(∀k∈ks,0≤k.1)→mea deep ks≤21 * ks.length
 | [],_=>Nat.zero_le _
 | k::ks,hk=>by
  have ih:=n8 h fun x hx=>hk x (.tail _ hx)
  have h0:=hk k (.head _)
  unfold mea at ih ⊢
  rw [List.map_cons,List.sum_cons,List.length_cons]
  omega
structure Kok (deep:Int) (ks:List (Int×Int)):Prop where
 nd:ks.Nodup
 st:∀k∈ks,0≤k.1∧k.1≤deep∧0≤k.2∧k.2<2 ^ (deep - k.1).toNat
theorem Kok.perm {deep:Int} {ks ls:List (Int×Int)} (h:Kok deep ks) (p:ls.Perm ks):Kok deep ls:=⟨p.nodup_iff.mpr h.nd,fun k hk=>h.st k (p.mem_iff.mp hk)⟩
theorem Qq {m:Int} (h:m≤10):(1:Int)≤2 ^ m.toNat∧(2:Int) ^ m.toNat≤1024:=by
 have a1:(2:Nat) ^ m.toNat≤2 ^ 10:=Nat.pow_le_pow_right (by decide) (by omega)
 have a2:0<(2:Nat) ^ m.toNat:=Nat.pow_pos (by decide)
 have a3:((2 ^ m.toNat:Nat):Int)=(2:Int) ^ m.toNat:=by push_cast;rfl
 have a4:(2:Nat) ^ 10=1024:=by decide
 rw [←a3]
 omega
theorem nM {h deep i:Int} (hd:h<deep) (i1:i<2 ^ (deep - h).toNat):i / 2<2 ^ (deep - (h+1)).toNat:=by
 have e:(deep - h).toNat=(deep - (h+1)).toNat+1:=by omega
 rw [e,Int.pow_succ] at i1
 omega
theorem rZ {deep:Int} {k:Int×Int} (hd:k.1<deep) (s:0≤k.1∧k.1≤deep∧0≤k.2∧k.2<2 ^ (deep - k.1).toNat):0≤(am k).1∧(am k).1≤deep∧0≤(am k).2∧(am k).2<2 ^ (deep - (am k).1).toNat:=by
 have:=nM hd s.2.2.2
 show 0≤k.1+1∧k.1+1≤deep∧0≤k.2 / 2∧k.2 / 2<2 ^ (deep - (k.1+1)).toNat
 exact ⟨by omega,by omega,by omega,this⟩
theorem qp {deep:Int} {ps:Sps} {k:Int×Int} {m n:Int} (h:Kok deep (ps.map (·.1))) (hk:k∈ps.map (·.1)) (hd:k.1<deep):Kok deep ((cw ps k m n).map (·.1))∧mea deep ((cw ps k m n).map (·.1))<mea deep (ps.map (·.1))∧(cw ps k m n).length≤ps.length:=by
 rw [←List.length_map (f:=(·.1)),←List.length_map (as:=ps) (f:=(·.1)),kA hk]
 have mf:=Rv (deep:=deep) h.nd hk
 have sk:=h.st k hk
 have lf:((ps.map (·.1)).filter fun x=>decide (x≠k)).length<(ps.map (·.1)).length:=by
  refine Nat.lt_of_le_of_ne (List.length_filter_le _ _) fun e=>?_
  have:=List.length_filter_eq_length_iff.mp e k hk
  simp at this
 have ndf:((ps.map (·.1)).filter fun x=>decide (x≠k)).Nodup:=h.nd.filter _
 have stf:∀x∈(ps.map (·.1)).filter fun x=>decide (x≠k),0≤x.1∧x.1≤deep∧0≤x.2∧x.2<2 ^ (deep - x.1).toNat:=fun x hx=>h.st x (List.mem_filter.mp hx).1
 split
 ·exact ⟨⟨ndf,stf⟩,by omega,by omega⟩
 ·rename_i np
  refine ⟨⟨?_,fun x hx=>?_⟩,?_,by rw [List.length_append];exact lf⟩
  ·refine List.nodup_append.mpr ⟨ndf,List.nodup_cons.mpr ⟨List.not_mem_nil,List.nodup_nil⟩,fun x hx y hy e=>?_⟩
   rw [List.mem_singleton.mp hy] at e
   exact np (by rw [←e];exact (List.mem_filter.mp hx).1)
  ·rcases List.mem_append.mp hx with hx | hx
   ·exact stf x hx
   ·rw [List.mem_singleton.mp hx]
    exact rZ hd sk
  ·have e1:mea deep ((ps.map (·.1)).filter (fun x=>decide (x≠k))++[am k])=mea deep ((ps.map (·.1)).filter fun x=>decide (x≠k))+(deep+1 - (k.1+1)).toNat:=by
    unfold mea
    rw [List.map_append,List.sum_append]
    rfl
   rw [e1]
   omega
def loK (h j:Int):Int×Int:=(h,2 * j)
def hiK (h j:Int):Int×Int:=(h,2 * j+1)
def upK (h j:Int):Int×Int:=(h+1,j)
def jn (ps:Sps) (h j:Int):Int:=cnt ps (loK h j)+cnt ps (hiK h j)+cnt ps (upK h j)
theorem V8 (h j:Int):am (loK h j)=upK h j:=Prod.ext rfl (show 2 * j / 2=j by omega)
theorem Ro (h j:Int):am (hiK h j)=upK h j:=Prod.ext rfl (show (2 * j+1) / 2=j by omega)
theorem i8 (h j:Int):loK h j≠hiK h j:=fun e=>by
 have:2 * j=2 * j+1:=congrArg (·.2) e
 omega
theorem rA (h j:Int):loK h j≠upK h j:=fun e=>by
 have:h=h+1:=congrArg (·.1) e
 omega
theorem ja (h j:Int):hiK h j≠upK h j:=fun e=>by
 have:h=h+1:=congrArg (·.1) e
 omega
theorem ic (k:Int×Int):k=loK k.1 (k.2 / 2)∨k=hiK k.1 (k.2 / 2):=by
 rcases Int.emod_two_eq k.2 with e | e
 ·exact .inl (Prod.ext rfl (show k.2=2 * (k.2 / 2) by omega))
 ·exact .inr (Prod.ext rfl (show k.2=2 * (k.2 / 2)+1 by omega))
def dZ (ps:Sps) (k:Int×Int):Sps:=cw ps k (cnt ps k) (cnt ps (am k)+cnt ps k)
def aK (ps:Sps) (k:Int×Int):Sps:=if k∈ps.map (·.1) then dZ ps k else ps
def bg (ps:Sps) (k:Int×Int):Sps:=if k∈ps.map (·.1) then [(k,cnt ps k)] else []
def bf (ps:Sps) (h j:Int):Sps:=aK (aK ps (loK h j)) (hiK h j)
def flP (ps:Sps) (h j:Int):Sps:=bg ps (loK h j)++bg ps (hiK h j)
theorem Rw (ps:Sps) (k x:Int×Int):ap (dZ ps k) x=if x=k then none else if x=am k then some (.int (cnt ps (am k)+cnt ps k)) else ap ps x:=by
 unfold dZ cw
 rw [Ww,X5,X5]
 by_cases e:x=k
 ·rw [if_pos e,if_pos e]
 ·rw [if_neg e,if_neg e,if_neg e]
theorem j7 (ps:Sps) (k x:Int×Int):cnt (dZ ps k) x=if x=k then 0 else if x=am k then cnt ps (am k)+cnt ps k else cnt ps x:=by
 unfold cnt
 rw [Rw]
 by_cases e:x=k
 ·rw [if_pos e,if_pos e]
 ·rw [if_neg e,if_neg e]
  by_cases z:x=am k
  ·rw [if_pos z,if_pos z]
   rfl
  ·rw [if_neg z,if_neg z]
theorem Uq (ps:Sps) (k x:Int×Int):ap (aK ps k) x=if x=k then none else if x=am k∧k∈ps.map (·.1) then some (.int (cnt ps (am k)+cnt ps k)) else ap ps x:=by
 unfold aK
 by_cases hk:k∈ps.map (·.1)
 ·rw [if_pos hk,Rw]
  by_cases e:x=k
  ·rw [if_pos e,if_pos e]
  ·rw [if_neg e,if_neg e]
   by_cases z:x=am k
   ·rw [if_pos z,if_pos ⟨z,hk⟩]
   ·rw [if_neg z,if_neg fun q=>z q.1]
 ·rw [if_neg hk]
  by_cases e:x=k
  ·rw [if_pos e,e,Wx hk]
  ·rw [if_neg e,if_neg fun q=>hk q.2]
theorem Uc (ps:Sps) (k x:Int×Int):cnt (aK ps k) x=if x=k then 0 else if x=am k then cnt ps (am k)+cnt ps k else cnt ps x:=by
 unfold aK
 by_cases hk:k∈ps.map (·.1)
 ·rw [if_pos hk,j7]
 ·rw [if_neg hk]
  by_cases e:x=k
  ·rw [if_pos e,e,Yw hk]
  ·rw [if_neg e]
   by_cases z:x=am k
   ·rw [if_pos z,z,Yw hk,Int.add_zero]
   ·rw [if_neg z]
theorem hi_in {ps:Sps} {h j:Int}:hiK h j∈(aK ps (loK h j)).map (·.1)↔hiK h j∈ps.map (·.1):=by
 rw [←W0,←W0,Uq,if_neg (Ne.symm (i8 h j)),V8,if_neg fun q=>ja h j q.1]
theorem iM (ps:Sps) (h j:Int):bg (aK ps (loK h j)) (hiK h j)=bg ps (hiK h j):=by
 unfold bg
 rw [Uc,if_neg (Ne.symm (i8 h j)),V8,if_neg (ja h j)]
 by_cases e:hiK h j∈ps.map (·.1)
 ·rw [if_pos e,if_pos (hi_in.mpr e)]
 ·rw [if_neg e,if_neg fun q=>e (hi_in.mp q)]
theorem Vb {ps:Sps} {h j:Int} (i:loK h j∈ps.map (·.1)∨hiK h j∈ps.map (·.1)) (x:Int×Int):ap (bf ps h j) x=if x=loK h j∨x=hiK h j then none else if x=upK h j then some (.int (jn ps h j)) else ap ps x:=by
 unfold bf
 rw [Uq]
 have p1:cnt (aK ps (loK h j)) (am (hiK h j))=cnt ps (upK h j)+cnt ps (loK h j):=by rw [Ro,Uc,if_neg (Ne.symm (rA h j)),V8,if_pos rfl]
 have p2:cnt (aK ps (loK h j)) (hiK h j)=cnt ps (hiK h j):=by rw [Uc,if_neg (Ne.symm (i8 h j)),V8,if_neg (ja h j)]
 rw [p1,p2]
 by_cases e1:x=hiK h j
 ·rw [if_pos e1,if_pos (.inr e1)]
 ·rw [if_neg e1,Uq]
  by_cases e2:x=loK h j
  ·rw [if_pos (c:=x=loK h j∨x=hiK h j) (Or.inl e2),if_neg (c:=x=am (hiK h j)∧_) fun q=>rA h j (by rw [←e2,←Ro];exact q.1),if_pos e2]
  ·rw [if_neg (c:=x=loK h j∨x=hiK h j) fun q=>q.elim e2 e1,if_neg (c:=x=loK h j) e2]
   by_cases e3:x=upK h j
   ·rw [if_pos e3]
    unfold jn
    by_cases i2:hiK h j∈ps.map (·.1)
    ·rw [if_pos ⟨by rw [Ro];exact e3,hi_in.mpr i2⟩]
     congr 2
     omega
    ·have i1:=i.resolve_right i2
     rw [if_neg fun q=>i2 (hi_in.mp q.2),if_pos ⟨by rw [V8];exact e3,i1⟩,Yw i2,V8]
     congr 2
     omega
   ·rw [if_neg e3,if_neg fun q=>e3 (by rw [←Ro];exact q.1),if_neg fun q=>e3 (by rw [←V8];exact q.1)]
theorem Tt {ps:Sps} {k:Int×Int} (nd:(ps.map (·.1)).Nodup):((aK ps k).map (·.1)).Nodup:=by
 unfold aK
 split
 ·exact Sw (X8 (X8 nd))
 ·exact nd
theorem Wl {ps:Sps} {h j:Int} (nd:(ps.map (·.1)).Nodup):((bf ps h j).map (·.1)).Nodup:=Tt (Tt nd)
theorem Su {ps qs:Sps} (p:ps.Perm qs) (nd:(ps.map (·.1)).Nodup) (h j:Int):jn ps h j=jn qs h j:=by
 unfold jn
 rw [Sb (Xr p nd _),Sb (Xr p nd (hiK h j)),Sb (Xr p nd (upK h j))]
theorem Qu {ps qs:Sps} {h j:Int} (p:ps.Perm qs) (nd:(ps.map (·.1)).Nodup) (i:loK h j∈ps.map (·.1)∨hiK h j∈ps.map (·.1)):(bf ps h j).Perm (bf qs h j):=by
 have pk:=p.map (·.1)
 refine U3 (Wl nd) (Wl (pk.nodup_iff.mp nd)) fun k=>?_
 rw [Vb i,Vb (i.imp pk.mem_iff.mp pk.mem_iff.mp),Su p nd,Xr p nd]
theorem Qr {ps qs:Sps} (p:ps.Perm qs) (nd:(ps.map (·.1)).Nodup) (k:Int×Int):bg ps k=bg qs k:=by
 have pk:=p.map (·.1)
 unfold bg
 rw [Sb (Xr p nd k)]
 by_cases e:k∈ps.map (·.1)
 ·rw [if_pos e,if_pos (pk.mem_iff.mp e)]
 ·rw [if_neg e,if_neg fun q=>e (pk.mem_iff.mpr q)]
theorem hW {ps qs:Sps} (p:ps.Perm qs) (nd:(ps.map (·.1)).Nodup) (h j:Int):flP ps h j=flP qs h j:=by
 unfold flP
 rw [Qr p nd,Qr p nd]
theorem Q9 {deep:Int} {ps:Sps} {k:Int×Int} (o:Kok deep (ps.map (·.1))) (hd:k.1<deep):Kok deep ((aK ps k).map (·.1))∧mea deep ((aK ps k).map (·.1))+(bg ps k).length≤mea deep (ps.map (·.1))∧(aK ps k).length≤ps.length:=by
 unfold aK bg
 by_cases hk:k∈ps.map (·.1)
 ·rw [if_pos hk,if_pos hk]
  have:=qp (m:=cnt ps k) (n:=cnt ps (am k)+cnt ps k) o hk hd
  exact ⟨this.1,this.2.1,this.2.2⟩
 ·rw [if_neg hk,if_neg hk]
  exact ⟨o,Nat.le_refl _,Nat.le_refl _⟩
theorem T3 {deep:Int} {ps:Sps} {h j:Int} (o:Kok deep (ps.map (·.1))) (hd:h<deep):Kok deep ((bf ps h j).map (·.1))∧mea deep ((bf ps h j).map (·.1))+(flP ps h j).length≤mea deep (ps.map (·.1))∧(bf ps h j).length≤ps.length:=by
 have a:=Q9 (k:=loK h j) o hd
 have b:=Q9 (k:=hiK h j) a.1 hd
 rw [iM] at b
 unfold flP bf
 rw [List.length_append]
 have:=a.2
 have:=b.2
 exact ⟨b.1,by omega,by omega⟩
theorem nz {ps:Sps} {h j:Int} (i:loK h j∈ps.map (·.1)∨hiK h j∈ps.map (·.1)):0<(flP ps h j).length:=by
 unfold flP bg
 rw [List.length_append]
 rcases i with i | i
 ·rw [if_pos i];simp;omega
 ·rw [if_pos i];simp
theorem Qs {ps:Sps} {k:Int×Int} (nd:(ps.map (·.1)).Nodup):ai (aK ps k)=ai ps:=by
 unfold aK
 split
 ·unfold dZ cw
  have c1:cnt (av (av ps (am k) (cnt ps (am k)+cnt ps k)) k (cnt ps k - cnt ps k)) k=cnt ps k - cnt ps k:=by rw [Ub,if_pos rfl]
  have c2:cnt (av ps (am k) (cnt ps (am k)+cnt ps k)) k=cnt ps k:=by rw [Ub,if_neg (Pz k)]
  rw [Uz (X8 (X8 nd)),Po (X8 nd),Po nd,c1,c2]
  omega
 ·rfl
theorem kH {ps:Sps} {h j:Int} (nd:(ps.map (·.1)).Nodup):ai (bf ps h j)=ai ps:=by
 unfold bf
 rw [Qs (Tt nd),Qs nd]
structure Fst (deep bar:Int) (ps:Sps) (h j:Int):Prop where
 in_:loK h j∈ps.map (·.1)∨hiK h j∈ps.map (·.1)
 hd:h<deep
 le:jn ps h j≤bar
 first:∀k∈ps.map (·.1),k.1<deep→jn ps k.1 (k.2 / 2)≤bar→h<k.1∨(h=k.1∧j≤k.2 / 2)
def Nof (deep bar:Int) (ps:Sps):Prop:=∀k∈ps.map (·.1),k.1<deep→bar<jn ps k.1 (k.2 / 2)
theorem Fst.key {deep bar h j:Int} {ps:Sps} (f:Fst deep bar ps h j):∃k∈ps.map (·.1),k.1=h∧k.2 / 2=j:=by
 rcases f.in_ with i | i
 ·exact ⟨_,i,rfl,show 2 * j / 2=j by omega⟩
 ·exact ⟨_,i,rfl,show (2 * j+1) / 2=j by omega⟩
theorem Fst.not {deep bar h j:Int} {ps:Sps} (f:Fst deep bar ps h j) (n:Nof deep bar ps):False:=by
 obtain ⟨k,hk,e1,e2⟩:=f.key
 have:=n k hk (by rw [e1];exact f.hd)
 rw [e1,e2] at this
 have:=f.le
 omega
theorem Fst.uniq {deep bar h j h' j':Int} {ps:Sps} (f:Fst deep bar ps h j) (g:Fst deep bar ps h' j'):h=h'∧j=j':=by
 obtain ⟨k,hk,e1,e2⟩:=f.key
 obtain ⟨l,hl,d1,d2⟩:=g.key
 have a:=f.first l hl (by rw [d1];exact g.hd) (by rw [d1,d2];exact g.le)
 have b:=g.first k hk (by rw [e1];exact f.hd) (by rw [e1,e2];exact f.le)
 rw [d1,d2] at a
 rw [e1,e2] at b
 omega
theorem Fst.perm {deep bar h j:Int} {ps qs:Sps} (f:Fst deep bar ps h j) (p:ps.Perm qs) (nd:(ps.map (·.1)).Nodup):Fst deep bar qs h j:=by
 have pk:=p.map (·.1)
 refine ⟨f.in_.imp pk.mem_iff.mp pk.mem_iff.mp,f.hd,by rw [←Su p nd];exact f.le,fun k hk h1 h2=>f.first k (pk.mem_iff.mpr hk) h1 (by rw [Su p nd];exact h2)⟩
theorem Rt {deep bar:Int} {ps qs:Sps} (n:Nof deep bar ps) (p:ps.Perm qs) (nd:(ps.map (·.1)).Nodup):Nof deep bar qs:=fun k hk h1=>by
 rw [←Su p nd]
 exact n k ((p.map (·.1)).mem_iff.mpr hk) h1
inductive Stl (deep bar:Int):Sps→Sps→Sps→Prop
 | done {ps:Sps}:Nof deep bar ps→Stl deep bar ps [] ps
 | step {ps ps1 fs ps':Sps} {h j:Int}:Fst deep bar ps h j→ps1.Perm (bf ps h j)→Stl deep bar ps1 fs ps'→Stl deep bar ps (flP ps h j++fs) ps'
theorem iY {deep bar:Int} {ps fs ps':Sps} (s:Stl deep bar ps fs ps'):∀{qs gs qs':Sps},Stl deep bar qs gs qs'→ps.Perm qs→(ps.map (·.1)).Nodup→fs=gs∧ps'.Perm qs':=by
 induction s with
 | done n=>
  intro qs gs qs' t p nd
  cases t with
  | done _=>exact ⟨rfl,p⟩
  | step f _ _=>exact (f.not (Rt n p nd)).elim
 | step f p1 s ih=>
  intro qs gs qs' t p nd
  cases t with
  | done n=>exact ((f.perm p nd).not n).elim
  | step g q1 t=>
   obtain ⟨rfl,rfl⟩:=(f.perm p nd).uniq g
   obtain ⟨e,r⟩:=ih t (p1.trans ((Qu p nd f.in_).trans q1.symm)) ((p1.map _).nodup_iff.mpr (Wl nd))
   exact ⟨by rw [hW p nd,e],r⟩
theorem Pp {deep bar:Int} {ps fs ps':Sps} (s:Stl deep bar ps fs ps'):(ps.map (·.1)).Nodup→(ps'.map (·.1)).Nodup∧Nof deep bar ps'∧ai ps'=ai ps:=by
 induction s with
 | done n=>exact fun nd=>⟨nd,n,rfl⟩
 | step f p1 s ih=>
  intro nd
  obtain ⟨a,b,c⟩:=ih ((p1.map _).nodup_iff.mpr (Wl nd))
  exact ⟨a,b,by rw [c,Xe p1,kH nd]⟩
def Way (deep bar:Int) (ps fs qs:Sps):Prop:=∀gs ps',Stl deep bar qs gs ps'→Stl deep bar ps (fs++gs) ps'
theorem Way.refl {deep bar:Int} {ps:Sps}:Way deep bar ps [] ps:=fun _ _ s=>s
theorem Way.snoc {deep bar h j:Int} {ps fs qs qs1:Sps} (w:Way deep bar ps fs qs) (f:Fst deep bar qs h j) (p:qs1.Perm (bf qs h j)):Way deep bar ps (fs++flP qs h j) qs1:=fun gs ps' s=>by
 rw [List.append_assoc]
 exact w _ _ (.step f p s)
theorem Way.done {deep bar:Int} {ps fs qs:Sps} (w:Way deep bar ps fs qs) (n:Nof deep bar qs):Stl deep bar ps fs qs:=by
 have:=w [] qs (.done n)
 rwa [List.append_nil] at this
theorem R8 {ps qs:Sps} (p:ps.Perm qs):ba ps=ba qs:=Pt Nk ((Y0 ps).trans (p.trans (Y0 qs).symm)) (T4 ps) (T4 qs)
end Ld
namespace L2
open PySem PySem.Spec PyProof.Rows
section
variable {prog:Program} {w:World} {A:Around} {E:Value→Shared→Prop} {s:Shared}
theorem P6 {it t:Addr} {items:Array Value} (hne:t≠it):∀(n i:Nat) (s:Shared) (Q:List Value→Shared→Prop),s.heap.IsListIter it t i→s.heap.IsList t items→i+n≤items.size→
  (∀h',h'.IsListIter it t (i+n)→Heap.SameBut it s.heap h'→Q ((items.toList.drop i).take n) {s with heap:=h'})→wpAny (model prog w) A (draw (.ref it) n) Q E s
 | 0,i,s,Q,hit,_,_,hQ=>by
  show wpAny _ _ (pure []) Q E s
  exact wpAny_pure (by simpa using hQ s.heap hit (Heap.SameBut.refl ..))
 | n+1,i,s,Q,hit,ht,hle,hQ=>by
  have hlt:i<items.size:=by omega
  show wpAny _ _ (pyNext (.ref it) >>= _) Q E s
  refine wpAny_bind (wpAny_pyNext_list_item hit ht (x:=items[i]) (by simp [hlt]) fun h1 hit1 hs1=>?_)
  refine wpAny_bind (wpAny_holding (P6 hne n (i+1) _ _ hit1 (ht.extBut hs1.extBut hne) (by omega) fun h2 hit2 hs2=>wpAny_pure ?_))
  have hd:items.toList.drop i=items[i]::items.toList.drop (i+1):=by simp [List.drop_eq_getElem_cons,hlt]
  have:=hQ h2 (by rw [show i+(n+1)=i+1+n by omega];exact hit2) (hs1.trans hs2)
  rw [hd,List.take_succ_cons] at this
  exact this
theorem Tw {env:Env} {elts:List Expr} {x1} {pos:Pos} {t:Addr} {items:Array Value} {Q:Unit→Shared→Prop} (hh:A.handled=none) (ht:s.heap.IsList t items)
  (hn:(assignEach elts env).length=items.size) (hstar:(assignEach elts env).findIdx? (·.1)=none)
  (h:∀h',Heap.ExtBut s.heap.objs.size s.heap h'→wpAny (model prog w) A (assignInOrder ((assignEach elts env).map (·.2)) items.toList) Q E {s with heap:=h'}):
  wpAny (model prog w) A (assign (.Tuple elts x1 pos) env (.ref t)) Q E s:=by
 rw [assign_Tuple]
 refine wpAny_bind (wpAny_standAt ?_)
 unfold unpack
 rw [hn,hstar]
 refine wpAny_bind (wpAny_holding ?_)
 have hlt:t≠s.heap.objs.size:=by obtain ⟨o,ho,_⟩:=ht;exact Nat.ne_of_lt (Heap.lt_size ho)
 unfold unpackItems
 refine wpAny_bind ?_
 unfold notIterableAtAll
 refine wpAny_bind (wpAny_specialOf ht.typeIs slot_list_iter.lookup ?_)
 refine wpAny_pure ?_
 simp only [Bool.false_eq_true,if_false]
 refine wpAny_bind (wpAny_holding (wpAny_pyIter_list ht ?_))
 have htp:(s.heap.push {cls:=.type "list_iterator",data:=.fields #[.ref t,.int 0 0]}).IsList t items:=by
  obtain ⟨o,ho,r⟩:=ht
  exact ⟨o,Heap.get?_push_of_some _ ho,r⟩
 refine wpAny_bind (wpAny_holding (P6 hlt items.size 0 _ _ ⟨_,Heap.get?_push_size _ rfl,rfl,rfl⟩ htp (by omega) fun h1 hit1 hs1=>?_))
 have hall:List.take items.size (List.drop 0 items.toList)=items.toList:=by
  rw [List.drop_zero];exact List.take_of_length_le (by simp)
 rw [hall]
 rw [if_neg (by simp)]
 have ht1:h1.IsList t items:=htp.extBut hs1.extBut hlt
 refine wpAny_bind (wpAny_holding (wpAny_pyNext_list_end hh hit1 ht1 (by simp) fun h2 he2=>?_))
 simp only [Option.isSome_none,Bool.false_eq_true,if_false]
 exact wpAny_pure (h h2 fun b o hb e=>he2 b o hb (hs1.extBut b o hb (Heap.get?_push_of_some _ e)))
end
section
variable {X:Cx} {pos:Pos}
def gLst (K:W.Frag) (n:Nat) (t:TGs):TG:=fun v σ H Q=>∃a xs,v=.ref a∧SqL K H a xs∧xs.length=n∧t xs σ H Q
theorem t9 {es:List Expr} {k:Nat} {t:TGs} {n:Nat} (hc:X.calm=true) (h:PGs X es t)
  (hn:(assignEach es X.env).length=n:=by rfl) (hst:(assignEach es X.env).findIdx? (·.1)=none:=by rfl):PG X (.Tuple es k pos) (gLst X.K n t):=by
 intro pins s σ H v u Q I r hw
 obtain ⟨a,xs,e1,hq,hl,hw⟩:=hw
 subst e1
 cases r
 obtain ⟨its,rv,p,hz⟩:=I.list hq
 refine Tw (I.ok.hd hc) p.isList (by simp [hn,←hl,rv.length]) hst fun h' hx=>?_
 have I1:Inv X pins σ H {s with heap:=h'}:=I.kept (t':=s.toks) fun b o e=>hx b o (Nat.ne_of_lt (Heap.lt_size e)) e
 exact h pins _ σ H xs _ Q I1 (by simpa using rv) hw
end
end L2
namespace K26
open PySem L2 Ld
def KAt (H:Hp) (p:Addr) (k:Int×Int):Prop:=H p=some (.tup [.int k.1,.int k.2])
structure LadAt (H:Hp) (q:Addr) (room deep total:Int) (ps:Sps):Prop where
 at_:∃(c:Addr) (as:List Addr),H q=some (.tup [.int room,.int deep,.ref c,.int total])∧H c=some (.tup (as.map V.ref))∧Paired (FT H) as ps
theorem X7 {H H':Hp} (g:Same H H') {a:Addr} {p:(Int×Int)×Int} (h:FT H a p):FT H' a p:=let ⟨b,e1,e2⟩:=h;⟨b,g _ _ e1,g _ _ e2⟩
theorem LadAt.mono {H H':Hp} (g:Same H H') {q:Addr} {room deep total:Int} {ps:Sps} (h:LadAt H q room deep total ps):LadAt H' q room deep total ps:=let ⟨c,as,e1,e2,r⟩:=h.at_;⟨c,as,g _ _ e1,g _ _ e2,Paired.mapP r fun _ _ f=>X7 g f⟩
theorem Ut {H:Hp}:∀{as:List Addr} {ps:Sps} {j:Nat} {x:V},Paired (FT H) as ps→(as.map V.ref)[j]?=some x→∃a p,x=.ref a∧ps[j]?=some p∧FT H a p
 | _,_,_,_,.nil,e=>by simp at e
 | _,_,0,_,.cons h _,e=>by
  rw [List.map_cons,List.getElem?_cons_zero] at e
  cases e
  exact ⟨_,_,rfl,rfl,h⟩
 | _,_,j+1,_,.cons _ r,e=>Ut (j:=j) r (by simpa using e)
theorem Yv {H:Hp} {d b:Addr} {ps:Sps} {k:Int×Int} (e:H d=some (.dT (ao ps))) (eb:KAt H b k):DGet H d (.ref b) (ap ps k):=DGet.t e eb
theorem O7 {H:Hp}:∀{bs:List Addr} {ks:List (Int×Int)} {j:Nat} {x:V},KsAt H bs ks→(bs.map V.ref)[j]?=some x→∃b k,x=.ref b∧ks[j]?=some k∧KAt H b k
 | _,_,_,_,.nil,e=>by simp at e
 | _,_,0,_,.cons h _,e=>by
  rw [List.map_cons,List.getElem?_cons_zero] at e
  cases e
  exact ⟨_,_,rfl,rfl,h⟩
 | _,_,j+1,_,.cons _ r,e=>O7 (j:=j) r (by simpa using e)
theorem jS {H:Hp} {d q:Addr} {o u:HO} (e:H d=some u) (n:H q=none):Grw d H (upd H q o):=fun b w h=>by
 obtain ⟨h1,h2⟩:=Z8 h
 rw [Zc h1,Zb (Zi h2 n)]
 exact h2
def dH:Sp:=fun vs H Q _=>∃(p:Addr) (k:Int×Int),vs=[.ref p]∧KAt H p k∧∀q,H q=none→Q (.ref q) (upd H q (.tup [.int (am k).1,.int (am k).2]))
def gf:Sp:=fun vs H Q _=>∃(p:Addr) (k:Int×Int),vs=[.ref p]∧KAt H p k∧∀(q a b:Addr) (H':Hp),Same H H'→H' q=some (.tup [.ref a,.ref b])→KAt H' a (loK k.1 (k.2 / 2))→KAt H' b (hiK k.1 (k.2 / 2))→Q (.ref q) H'
def eR:Sp:=fun vs H Q _=>∃(q:Addr) (room deep total:Int) (ps:Sps),vs=[.ref q]∧LadAt H q room deep total ps∧1≤room∧room≤20∧Q (.int (total / room)) H
def ig:Sp:=fun vs H Q _=>∃(d p:Addr) (ps:Sps) (k:Int×Int),vs=[.ref d,.ref p]∧H d=some (.dT (ao ps))∧KAt H p k∧∀(H':Hp),Same H H'→Q (.int (jn ps k.1 (k.2 / 2))) H'
def qm:Sp:=fun vs H Q _=>∃(deep bar:Int) (d:Addr) (ps:Sps),vs=[.int deep,.int bar,.ref d]∧H d=some (.dT (ao ps))∧ps.length<200∧(∀H',Same H H'→Nof deep bar ps→Q .non H')∧∀(p:Addr) (k:Int×Int) (H':Hp),Same H H'→KAt H' p k→Fst deep bar ps k.1 (k.2 / 2)→Q (.ref p) H'
def mz:Sp:=fun vs H Q _=>∃(d p:Addr) (ps:Sps) (k:Int×Int) (m:Int),vs=[.ref d,.ref p,.int m]∧H d=some (.dT (ao ps))∧KAt H p k∧ap ps k=some (.int m)∧ps.length<1000∧∀(H':Hp),Grw d H H'→H' d=some (.dT (ao (cw ps k m (cnt ps (am k)+m))))→Q .non H'
theorem i_ (i:Int):i - i % 2=2 * (i / 2):=by omega
theorem nO {a b:Int×Int} (h:leK a b=true):a.1<b.1∨(a.1=b.1∧a.2 / 2≤b.2 / 2):=by
 rcases X6.mp h with h | ⟨h,g⟩
 ·exact .inl h
 ·exact .inr ⟨h,by omega⟩
theorem nP {α:Type} {R:α→α→Prop} {l:List α} (h:l.Pairwise R) {i j:Nat} {a b:α} (ha:l[i]?=some a) (hb:l[j]?=some b) (ij:i<j):R a b:=by
 obtain ⟨hi,rfl⟩:=List.getElem?_eq_some_iff.mp ha
 obtain ⟨hj,rfl⟩:=List.getElem?_eq_some_iff.mp hb
 exact List.pairwise_iff_getElem.mp h i j hi hj ij
section
variable {P:Program} {w:World} {K:W.Frag} {mg:Str→Option Value} {base:Heap} {f:Addr} {fd:FuncData}
theorem S7 (F:Fun K "parent_of" "parent_of" bw f fd):FnOk P w K mg base CX0 1 f fd ["stretch"] dH:=by
 refine F.ok V3 (fun vs H Q E h=>?_) (fun cdv A outer s H vs Q E hr h=>?_)
 ·obtain ⟨p,k,rfl,_⟩:=h
  rfl
 obtain ⟨p,k,rfl,e,hq⟩:=h
 refine ⟨_,(@Z2 _ _ _ _ _ (Yn (pv 0) (Yo rfl (Za (Z9 (i:=1) V3.nd rfl (Or.inl rfl)) (Za (Z9 (i:=2) V3.nd rfl (Or.inl rfl)) Zw))))
 (@Z6 _ _ _ (@Ze _ _ _ _ (@Y1 _ _ _ _ _ (@Z0 _ _ _ _ _ (@Zd _ _ _ _ _ _ _ _ Zv (pv 1) Z3) (@Z0 _ _ _ _ _ (@Zd _ _ _ _ _ _ _ _ W8 (pv 2) Z3) Z1 (by rfl)) (by rfl)))))),?_⟩
 exact ⟨_,rfl,p,_,rfl,SqT.of e,rfl,_,_,rfl,_,_,rfl,rfl,_,rfl,_,_,rfl,rfl,_,rfl,_,_,rfl,rfl,⟨by decide,by decide⟩,leN rfl,hq⟩
theorem O3 (F:Fun K "pair_of" "pair_of" bU f fd):FnOk P w K mg base CX0 1 f fd ["stretch"] gf:=by
 refine F.ok V4 (fun vs H Q E h=>?_) (fun cdv A outer s H vs Q E hr h=>?_)
 ·obtain ⟨p,k,rfl,_⟩:=h
  rfl
 obtain ⟨p,k,rfl,e,hq⟩:=h
 refine ⟨_,(@Z2 _ _ _ _ _ (Yn (pv 0) (Yo rfl (Za (Z9 (i:=1) V4.nd rfl (Or.inl rfl)) (Za (Z9 (i:=2) V4.nd rfl (Or.inl rfl)) Zw))))
 (@Z2 _ _ _ _ _ (@Zg _ _ 3 _ _ _ _ V4.nd rfl (Or.inl rfl) (@Zd _ _ _ _ _ _ _ _ Wh (pv 2) (@Zd _ _ _ _ _ _ _ _ Xh (pv 2) Z3)) (by rfl) (by first | exact .inl rfl | exact .inr rfl))
 (@Z6 _ _ _ (@Ze _ _ _ _ (@Y1 _ _ _ _ _ (@Z0 _ _ _ _ _ (@Y1 _ _ _ _ _ (@Z0 _ _ _ _ _ (pv 1) (@Z0 _ _ _ _ _ (pv 3) Z1 (by rfl)) (by rfl))) (@Z0 _ _ _ _ _ (@Y1 _ _ _ _ _ (@Z0 _ _ _ _ _ (pv 1) (@Z0 _ _ _ _ _ (@Zd _ _ _ _ _ _ _ _ Zv (pv 3) Z3) Z1 (by rfl)) (by rfl))) Z1 (by rfl)) (by rfl))))))),?_⟩
 have gg:Same H H:=Same.refl _
 refine ⟨_,rfl,p,_,rfl,SqT.of e,rfl,_,_,rfl,_,_,rfl,rfl,_,rfl,_,rfl,_,_,rfl,rfl,Vk rfl,_,_,rfl,rfl,_,rfl,_,rfl,leN rfl,?_⟩
 intro a n_a
 generalize hz:upd _ a _=H1
 have gz:=Zj hz n_a
 have e_a:=Zr hz
 clear hz
 have gg:=gg.trans gz
 refine ⟨_,rfl,_,rfl,_,_,rfl,rfl,leN rfl,?_⟩
 intro b n_b
 generalize hz:upd _ b _=H2
 have gz:=Zj hz n_b
 have e_b:=Zr hz
 clear hz
 have gg:=gg.trans gz
 have e_a:=gz _ _ e_a
 refine ⟨leN rfl,?_⟩
 intro q n_q
 generalize hz:upd _ q _=H3
 have gz:=Zj hz n_q
 have e_q:=Zr hz
 clear hz
 have gg:=gg.trans gz
 have e_a:=gz _ _ e_a
 have e_b:=gz _ _ e_b
 exact hq q a b _ gg e_q (by show _=some (HO.tup [V.int k.1,V.int (2 * (k.2 / 2))]);rw [←i_];exact e_a) (by show _=some (HO.tup [V.int k.1,V.int (2 * (k.2 / 2)+1)]);rw [←i_];exact e_b)
theorem lI (F:Fun K "bar_of" "bar_of" b_ f fd):FnOk P w K mg base CX0 1 f fd ["ladder"] eR:=by
 refine F.ok Wq (fun vs H Q E h=>?_) (fun cdv A outer s H vs Q E hr h=>?_)
 ·obtain ⟨q,room,deep,total,ps,rfl,_⟩:=h
  rfl
 obtain ⟨q,room,deep,total,ps,rfl,lad,r0,r1,hq⟩:=h
 refine ⟨_,(@Z2 _ _ _ _ _ (Yn (pv 0) (Yo rfl (Za (Z9 (i:=1) Wq.nd rfl (Or.inl rfl)) (Za (Z9 (i:=2) Wq.nd rfl (Or.inl rfl)) (Za (Z9 (i:=3) Wq.nd rfl (Or.inl rfl)) (Za (Z9 (i:=4) Wq.nd rfl (Or.inl rfl)) Zw))))))
 (@Z6 _ _ _ (@Ze _ _ _ _ (@Zd _ _ _ _ _ _ _ _ W8 (pv 4) (pv 1))))),?_⟩
 obtain ⟨c,as,e_q,e_c,pr⟩:=lad.at_
 exact ⟨_,rfl,q,_,rfl,SqT.of e_q,rfl,_,_,rfl,_,_,rfl,_,_,rfl,_,_,rfl,rfl,_,rfl,_,rfl,_,_,rfl,rfl,⟨by omega,by omega⟩,hq⟩
theorem N7 (cZ:Has P w K mg base "pair_of" 1 ["stretch"] gf) (cB:Has P w K mg base "parent_of" 1 ["stretch"] dH) (F:Fun K "joint_count" "joint_count" aQ f fd):FnOk P w K mg base CX0 2 f fd ["counts","stretch"] ig:=by
 refine F.ok Xu (fun vs H Q E h=>?_) (fun cdv A outer s H vs Q E hr h=>?_)
 ·obtain ⟨d,p,ps,k,rfl,_⟩:=h
  rfl
 obtain ⟨d,p,ps,k,rfl,e_d,e_p,hq⟩:=h
 refine ⟨_,(@Z2 _ _ _ _ _ (Yn (Z5 cZ hr (@Z0 _ _ _ _ _ (pv 1) Z1 (by rfl))) (Yo rfl (Za (Z9 (i:=2) Xu.nd rfl (Or.inl rfl)) (Za (Z9 (i:=3) Xu.nd rfl (Or.inl rfl)) Zw))))
 (@Z6 _ _ _ (@Ze _ _ _ _ (@Zd _ _ _ _ _ _ _ _ Zv (@Zd _ _ _ _ _ _ _ _ Zv (Xw (Yp hr) (pv 0) (pv 2) Z3 ⟨rfl,rfl,rfl,rfl⟩) (Xw (Yp hr) (pv 0) (pv 3) Z3 ⟨rfl,rfl,rfl,rfl⟩)) (Xw (Yp hr) (pv 0) (Z5 cB hr (@Z0 _ _ _ _ _ (pv 1) Z1 (by rfl))) Z3 ⟨rfl,rfl,rfl,rfl⟩))))),?_⟩
 refine ⟨_,rfl,p,k,rfl,e_p,fun q a b H1 g1 e_q e_a e_b=>⟨q,_,rfl,SqT.of e_q,rfl,_,_,rfl,_,_,rfl,rfl,?_⟩⟩
 have e_d:=g1 _ _ e_d
 refine ⟨_,rfl,d,rfl,.inr ⟨_,.inl e_d⟩,_,rfl,_,Yv e_d e_a,?_⟩
 refine ⟨_,rfl,d,rfl,.inr ⟨_,.inl e_d⟩,_,rfl,_,Yv e_d e_b,_,_,W2 _ _,W2 _ _,?_⟩
 refine ⟨_,rfl,d,rfl,.inr ⟨_,.inl e_d⟩,_,rfl,p,k,rfl,g1 _ _ e_p,fun r nr=>?_⟩
 have g2:=Z7 nr (.tup [.int (am k).1,.int (am k).2])
 exact ⟨_,Yv (g2 _ _ e_d) Z4,_,_,rfl,W2 _ (am k),hq _ (g1.trans g2)⟩
theorem rf (aw:mg "sorted"=none) (dX:Has P w K mg base "joint_count" 2 ["counts","stretch"] ig) (F:Fun K "first_folding" "first_folding" aB f fd):FnOk P w K mg base CX0 3 f fd ["deep","bar","counts"] qm:=by
 refine F.ok Wp (fun vs H Q E h=>?_) (fun cdv A outer s H vs Q E hr h=>?_)
 ·obtain ⟨deep,bar,d,ps,rfl,_⟩:=h
  rfl
 obtain ⟨deep,bar,d,ps,rfl,e_d,h64,hq0,hq1⟩:=h
 refine ⟨_,(@Z2 _ _ _ _ _ (Xv PassesOwn.never rfl (Xb (Zh (Vv rfl hr.units) rfl aw PyProof.Rows.boot_sorted (@Z0 _ _ _ _ _ (pv 2) Z1 (by rfl)))) (Z9 (i:=3) Wp.nd rfl (Or.inl rfl))
 (@Z6 _ _ _ (@Y7 _ _ _ _ _ _ _ _ (PW.pt (@Rg _ _ _ _ _ _ _ (@Zk _ _ _ _ _ _ _ _ N6 (@Zz _ _ _ _ _ _ _ Yg (pv 3) Z3 (fun _ _=>rfl)) (pv 0) (Zl _)) (@T8 _ _ _ _ (@Zk _ _ _ _ _ _ _ _ Tg (Z5 dX hr (@Z0 _ _ _ _ _ (pv 2) (@Z0 _ _ _ _ _ (pv 3) Z1 (by rfl)) (by rfl))) (pv 1) (Zl _))))) (@Z6 _ _ _ (@Ze _ _ _ _ (pv 3))) Zq)))
 (@Z6 _ _ _ (@Ze _ _ _ _ S5))),?_⟩
 have gg:Same H H:=Same.refl _
 refine ⟨_,rfl,d,ps,rfl,e_d,by omega,fun bs ka=>?_⟩
 intro l n_l
 generalize hz:upd _ l _=H1
 have gz:=Zj hz n_l
 have e_l:=Zr hz
 clear hz
 have gg:=gg.trans gz
 have ka:=ka.mono fun b xs e=>gg b _ e
 have bl:=Paired.length ka
 have mk:∀k,k∈cx (ps.map (·.1))↔k∈ps.map (·.1):=fun k=>(Yz _).mem_iff
 refine ⟨l,rfl,⟨_,SqL.of e_l⟩,?_⟩
 refine Xs (xs:=bs.map V.ref) (fun i σ H'=>∃o3:Option V,σ=[some (.int deep),some (.int bar),some (.ref d),o3]∧Same H1 H'∧∀(n:Nat) (k:Int×Int),n<i→(cx (ps.map (·.1)))[n]?=some k→k.1<deep→bar<jn ps k.1 (k.2 / 2)) ⟨_,rfl,Same.refl _,fun n _ hn=>absurd hn (Nat.not_lt_zero n)⟩ ?_ ?_ ?_
 ·rintro i σ H' _ ⟨_,_,g,_⟩
  exact SqL.of (g _ _ e_l)
 ·rintro i x σ H2 N B1 R hN hR hx ⟨o3,rfl,g2,bef⟩
  obtain ⟨b,k,rfl,hk,e_b⟩:=O7 ka hx
  have e_b:=g2 _ _ e_b
  have jZ:=g2 _ _ (gg _ _ e_d)
  have km:k∈ps.map (·.1):=(mk k).mp (List.mem_of_getElem? hk)
  have nxt:(k.1<deep→bar<jn ps k.1 (k.2 / 2))→∀(n:Nat) (k:Int×Int),n<i+1→(cx (ps.map (·.1)))[n]?=some k→k.1<deep→bar<jn ps k.1 (k.2 / 2):=fun c n k' hn e=>by
   rcases Nat.lt_succ_iff_lt_or_eq.mp hn with z | z
   ·exact bef n k' z e
   ·rw [z,hk] at e
    cases e
    exact c
  refine ⟨_,rfl,b,_,0,_,rfl,rfl,SqT.of e_b,rfl,_,rfl,_,_,rfl,rfl,_,rfl,Tp (fun c=>?_) (fun c=>?_)⟩
  ·refine ⟨_,rfl,_,rfl,d,b,ps,k,rfl,jZ,e_b,fun H3 g3=>⟨_,rfl,_,_,rfl,rfl,_,rfl,Tp (fun c2=>?_) (fun c2=>?_)⟩⟩
   ·refine ⟨_,rfl,hR _ _ (hq1 b k _ (gg.trans (g2.trans g3)) (g3 _ _ e_b) ⟨?_,of_decide_eq_true c,of_decide_eq_true c2,fun k' hk' h1 h2=>?_⟩)⟩
    ·rcases ic k with e | e
     ·exact .inl (by rw [←e];exact km)
     ·exact .inr (by rw [←e];exact km)
    ·obtain ⟨n,hn⟩:=List.getElem?_of_mem ((mk k').mpr hk')
     rcases Nat.lt_or_ge n i with z | z
     ·have:=bef n k' z hn h1
      omega
     ·rcases Nat.lt_or_eq_of_le z with z | z
      ·exact nO (nP (T5 _) hk hn z)
      ·rw [←z,hk] at hn
       cases hn
       exact .inr ⟨rfl,Int.le_refl _⟩
   ·exact hN _ _ ⟨_,rfl,g2.trans g3,nxt fun _=>by have:=of_decide_eq_false (Bool.eq_false_iff.mpr c2);omega⟩
  ·exact hN _ _ ⟨_,rfl,g2,nxt fun z=>absurd (decide_eq_true z) c⟩
 ·rintro σ H2 ⟨_,rfl,g2,all⟩
  refine hq0 _ (gg.trans g2) fun k hk h1=>?_
  obtain ⟨n,hn⟩:=List.getElem?_of_mem ((mk k).mpr hk)
  refine all n k ?_ hn h1
  rw [List.length_map,bl]
  exact (List.getElem?_eq_some_iff.mp hn).1
theorem oK (cB:Has P w K mg base "parent_of" 1 ["stretch"] dH) (F:Fun K "fold_up" "fold_up" bT f fd):FnOk P w K mg base CX0 2 f fd ["counts","stretch","many"] mz:=by
 refine F.ok Rc (fun vs H Q E h=>?_) (fun cdv A outer s H vs Q E hr h=>?_)
 ·obtain ⟨d,p,ps,k,m,rfl,_⟩:=h
  rfl
 obtain ⟨d,p,ps,k,m,rfl,e_d,e_p,lk,pl,hq⟩:=h
 refine ⟨_,(@Z2 _ _ _ _ _ (@Zg _ _ 3 _ _ _ _ Rc.nd rfl (Or.inl rfl) (Z5 cB hr (@Z0 _ _ _ _ _ (pv 1) Z1 (by rfl))) (by rfl) (by first | exact .inl rfl | exact .inr rfl)) Zf),?_⟩
 refine ⟨_,rfl,p,k,rfl,e_p,fun q nq=>?_⟩
 have g1:=jS (o:=.tup [.int (am k).1,.int (am k).2]) e_d nq
 have s1:=Z7 nq (.tup [.int (am k).1,.int (am k).2])
 have e_q:KAt (upd H q (.tup [.int (am k).1,.int (am k).2])) q (am k):=Z4
 have e_d:=s1 _ _ e_d
 have e_p:KAt _ p k:=s1 _ _ e_p
 generalize upd H q (.tup [.int (am k).1,.int (am k).2])=H1 at g1 e_q e_d e_p ⊢
 have tupd:∀{H:Hp} {b:Addr} {j:Int×Int} {kvs:List (List Key×V)} {o:HO},H d=some (.dT kvs)→KAt H b j→KAt (upd H d o) b j:=fun {H b j kvs o} e eb=>by
  show upd H d o b=_
  rw [Zb (Tj eb e (by intro z;cases z))]
  exact eb
 refine ⟨_,(@Z2 _ _ _ _ _ (Ta (Yp hr) (pv 0) (pv 3) (@Zd _ _ _ _ _ _ _ _ Zv (Xw (Yp hr) (pv 0) (pv 3) Z3 ⟨rfl,rfl,rfl,rfl⟩) (pv 2)) rfl) Zf),?_⟩
 obtain ⟨n0,hn0,h0⟩:∃n,n=cnt ps (am k)∧(ap ps (am k)).getD (.int 0)=.int n:=⟨_,rfl,W2 _ _⟩
 have l1:=T9 ps (am k) (n0+m)
 refine ⟨_,rfl,d,rfl,.inr ⟨_,.inl e_d⟩,_,rfl,_,Yv e_d e_q,_,rfl,n0,m,h0,rfl,_,rfl,_,rfl,d,_,rfl,DPut.t (k:=kk (am k)) e_d e_q (Zp (by rw [Yi];omega)),?_⟩
 have g2:Grw d H (upd H1 d (.dT (aZ (ao ps) (kk (am k)) (.int (n0+m))))):=g1.trans Yh
 have cS:=tupd (o:=.dT (aZ (ao ps) (kk (am k)) (.int (n0+m)))) e_d e_p
 have jZ:(upd H1 d (.dT (aZ (ao ps) (kk (am k)) (.int (n0+m))))) d=some (.dT (ao (av ps (am k) (n0+m)))):=by rw [←Pw];exact Z4
 generalize upd H1 d (.dT (aZ (ao ps) (kk (am k)) (.int (n0+m))))=H2 at g2 cS jZ ⊢
 refine ⟨_,(@Z2 _ _ _ _ _ (Ta (Yp hr) (pv 0) (pv 1) (@Zd _ _ _ _ _ _ _ _ Wh (Xc (Yp hr) (pv 0) (pv 1) (fun _ _=>rfl)) (pv 2)) rfl) Zf),?_⟩
 have lk2:ap (av ps (am k) (n0+m)) k=some (.int m):=by rw [X5,if_neg (Pz k)];exact lk
 have l2:=T9 (av ps (am k) (n0+m)) k (m - m)
 refine ⟨_,rfl,_,rfl,d,.int m,rfl,by rw [←lk2];exact Yv jZ cS,_,rfl,_,_,rfl,rfl,_,rfl,_,rfl,d,_,rfl,DPut.t (k:=kk k) jZ cS (Zp (by rw [Yi];omega)),?_⟩
 have g3:Grw d H (upd H2 d (.dT (aZ (ao (av ps (am k) (n0+m))) (kk k) (.int (m - m))))):=g2.trans Yh
 have gJ:=tupd (o:=.dT (aZ (ao (av ps (am k) (n0+m))) (kk k) (.int (m - m)))) jZ cS
 have oO:(upd H2 d (.dT (aZ (ao (av ps (am k) (n0+m))) (kk k) (.int (m - m))))) d=some (.dT (ao (av (av ps (am k) (n0+m)) k (m - m)))):=by rw [show ao (av (av ps (am k) (n0+m)) k (m - m))=aZ (ao (av ps (am k) (n0+m))) (kk k) (.int (m - m)) from (Pw _ _ _).symm];exact Z4
 generalize upd H2 d (.dT (aZ (ao (av ps (am k) (n0+m))) (kk k) (.int (m - m))))=H3 at g3 gJ oO ⊢
 refine ⟨_,(@Z6 _ _ _ (@Y7 _ _ _ _ _ _ _ _ (@Zk _ _ _ _ _ _ _ _ Qz (Xc (Yp hr) (pv 0) (pv 1) (fun _ _=>rfl)) Z3 (Zl _)) (@Z6 _ _ _ (W5 (Rn PySem.F.plainAttrs_dict PySem.F.slot_dict_pop PySem.F.type_dict_pop (pO hr.units) (pv 0) (@Z0 _ _ _ _ _ (pv 1) Z1 (by rfl))))) Zq)),?_⟩
 have lk3:ap (av (av ps (am k) (n0+m)) k (m - m)) k=some (.int (m - m)):=by rw [X5,if_pos rfl]
 refine ⟨_,rfl,_,rfl,d,.int (m - m),rfl,by rw [←lk3];exact Yv oO gJ,rfl,_,rfl,?_⟩
 rw [decide_eq_true (by rw [Int.sub_self])]
 refine Wy ⟨_,rfl,gh oO,_,rfl,d,p,_,kk k,_,rfl,rfl,oO,gJ,lk3,?_⟩
 refine hq _ (g3.trans Yh) ?_
 rw [←hn0]
 unfold cw
 rw [←pD]
 exact Z4
end
end K26
namespace K26
open PySem L2 Ld
def hgt:List Key→Int
 | .inl h::_=>h
 | _=>0
def tR (deep:Int) (kvs:List (List Key×V)):Nat:=(kvs.map fun kv=>(deep+1 - hgt kv.1).toNat).sum
theorem oU (deep:Int) (ps:Sps):tR deep (ao ps)=mea deep (ps.map (·.1)):=by
 unfold tR mea ao
 rw [List.map_map,List.map_map]
 rfl
def muD (deep:Int) (d:Addr) (H:Hp):Nat:=match H d with
 | some (.dT kvs)=>tR deep kvs
 | _=>0
theorem gr {deep:Int} {d:Addr} {H:Hp} {ps:Sps} (e:H d=some (.dT (ao ps))):muD deep d H=mea deep (ps.map (·.1)):=by
 unfold muD
 rw [e]
 exact oU deep ps
def FsAt (H:Hp) (l:Addr) (fs:Sps):Prop:=∃as:List Addr,H l=some (.lst (as.map V.ref))∧Paired (FT H) as fs
def rc:Sp:=fun vs H Q _=>∃(q:Addr) (room deep total:Int) (ps:Sps),vs=[.ref q]∧LadAt H q room deep total ps∧1≤room∧room≤20∧deep≤20∧Kok deep (ps.map (·.1))∧ps.length<200∧
 ∀(t r l:Addr) (H':Hp) (fs ps':Sps),Same H H'→H' t=some (.tup [.ref r,.ref l])→H l=none→LadAt H' r room deep total (ba ps')→FsAt H' l fs→fs.length≤4300→Stl deep (total / room) ps fs ps'→Kok deep (ps'.map (·.1))→ps'.length≤ps.length→Q (.ref t) H'
def pjs (ps:Sps) (h j:Int):Nat→Sps
 | 0=>ps
 | 1=>aK ps (loK h j)
 | _=>bf ps h j
def tjs (ps:Sps) (h j:Int):Nat→Sps
 | 0=>[]
 | 1=>bg ps (loK h j)
 | _=>flP ps h j
def kjs (h j:Int):Nat→Int×Int
 | 0=>loK h j
 | _=>hiK h j
theorem kW (ps:Sps) (h j:Int) {i:Nat} (hi:i<2):pjs ps h j (i+1)=aK (pjs ps h j i) (kjs h j i)∧tjs ps h j (i+1)=tjs ps h j i++bg (pjs ps h j i) (kjs h j i):=by
 match i,hi with
 | 0,_=>exact ⟨rfl,rfl⟩
 | 1,_=>exact ⟨rfl,by show bg ps _++bg ps _=bg ps _++bg (aK ps (loK h j)) (hiK h j);rw [iM]⟩
structure Stg (H H':Hp) (d L:Addr) (deep bar:Int) (n0 M:Nat) (ps0 ps fs:Sps):Prop where
 sm:Same H H'
 ed:H' d=some (.dT (ao ps))
 eL:FsAt H' L fs
 ok:Kok deep (ps.map (·.1))
 le:ps.length≤n0
 few:fs.length+mea deep (ps.map (·.1))≤M
theorem FsAt.same {H H':Hp} {l:Addr} {fs:Sps} (h:FsAt H l fs) (g:Same H H'):FsAt H' l fs:=let ⟨as,e,p⟩:=h;⟨as,g _ _ e,Paired.mapP p fun _ _ f=>X7 g f⟩
theorem Stg.same {H H1 H2:Hp} {d L:Addr} {deep bar:Int} {n0 M:Nat} {ps0 ps fs:Sps} (s:Stg H H1 d L deep bar n0 M ps0 ps fs) (g:Same H1 H2):Stg H H2 d L deep bar n0 M ps0 ps fs:=⟨s.sm.trans g,g _ _ s.ed,s.eL.same g,s.ok,s.le,s.few⟩
section
variable {P:Program} {w:World} {K:W.Frag} {mg:Str→Option Value} {base:Heap} {f:Addr} {fd:FuncData}
theorem sI (bL:mg "dict"=none) (aw:mg "sorted"=none) (aA:mg "tuple"=none) (cz:Has P w K mg base "bar_of" 1 ["ladder"] eR) (bo:Has P w K mg base "first_folding" 3 ["deep","bar","counts"] qm) (cZ:Has P w K mg base "pair_of" 1 ["stretch"] gf) (jL:Has P w K mg base "fold_up" 2 ["counts","stretch","many"] mz)
  (F:Fun K "settling_of" "settling_of" aP f fd):FnOk P w K mg base CX0 4 f fd ["ladder"] rc:=by
 refine F.ok Zs (fun vs H Q E h=>?_) (fun cdv A outer s H vs Q E hr h=>?_)
 ·obtain ⟨q,room,deep,total,ps,rfl,_⟩:=h
  rfl
 obtain ⟨q,room,deep,total,ps,rfl,lad,r0,r1,d1,kok,pl,hq⟩:=h
 obtain ⟨c,as,e_q,e_c,pr⟩:=lad.at_
 refine ⟨_,(@Z2 _ _ _ _ _ (Yn (pv 0) (Yo rfl (Za (Z9 (i:=1) Zs.nd rfl (Or.inl rfl)) (Za (Z9 (i:=2) Zs.nd rfl (Or.inl rfl)) (Za (Z9 (i:=3) Zs.nd rfl (Or.inl rfl)) (Za (Z9 (i:=4) Zs.nd rfl (Or.inl rfl)) Zw)))))) Zf),?_⟩
 refine ⟨_,rfl,q,_,rfl,SqT.of e_q,rfl,_,_,rfl,_,_,rfl,_,_,rfl,_,_,rfl,rfl,?_⟩
 refine ⟨_,(@Z2 _ _ _ _ _ (@Zg _ _ 5 _ _ _ _ Zs.nd rfl (Or.inl rfl) (Z5 cz hr (@Z0 _ _ _ _ _ (pv 0) Z1 (by rfl))) (by rfl) (by first | exact .inl rfl | exact .inr rfl)) Zf),?_⟩
 refine ⟨_,rfl,q,room,deep,total,ps,rfl,lad,r0,r1,?_⟩
 refine ⟨_,(@Z2 _ _ _ _ _ (@Zg _ _ 6 _ _ _ _ Zs.nd rfl (Or.inl rfl) (X2 (Wd rfl hr.units) rfl bL PyProof.Rows.boot_dict (@Z0 _ _ _ _ _ (pv 3) Z1 (by rfl))) (by rfl) (by first | exact .inl rfl | exact .inr rfl)) Zf),?_⟩
 have nd:((ao ps).map (·.1)).Nodup:=by
  rw [Vx]
  exact List.pairwise_map.mpr (kok.nd.imp fun h e=>h (Vc e))
 refine ⟨_,rfl,c,_,_,rfl,e_c,Ob pr,by rw [Yi];omega,fun d n_d=>?_⟩
 rw [Tk nd]
 have sm0:=Z7 n_d (.dT (ao ps))
 have ed0:(upd H d (.dT (ao ps))) d=some (.dT (ao ps)):=Z4
 generalize upd H d (.dT (ao ps))=H1 at sm0 ed0 ⊢
 refine ⟨_,(@Z2 _ _ _ _ _ (@Zg _ _ 7 _ _ _ _ Zs.nd rfl (Or.inl rfl) (@Yy _ _ _ _ Z1) (by rfl) (by first | exact .inl rfl | exact .inr rfl)) Zf),?_⟩
 refine ⟨leN rfl,fun L n_L=>?_⟩
 have sm1:=Z7 n_L (.lst [])
 have eL0:(upd H1 L (.lst [])) L=some (.lst []):=Z4
 generalize upd H1 L (.lst [])=H2 at sm1 eL0 ⊢
 have nHL:H L=none:=sm0.free n_L
 have m0:mea deep (ps.map (·.1))≤21 * ps.length:=by
  have:=n8 d1 (ks:=ps.map (·.1)) fun k hk=>(kok.st k hk).1
  rwa [List.length_map] at this
 have sg:Stg H H2 d L deep (total / room) ps.length (mea deep (ps.map (·.1))) ps ps []:=⟨sm0.trans sm1,sm1 _ _ ed0,⟨[],eL0,.nil⟩,kok,Nat.le_refl _,by rw [List.length_nil];omega⟩
 have dL:d≠L:=Zi ed0 n_L
 generalize hbar:total / room=bar at sg hq ⊢
 generalize mea deep (ps.map (·.1))=M at m0 sg
 refine ⟨_,(@Z2 _ _ _ _ _ (@Zg _ _ 8 _ _ _ _ Zs.nd rfl (Or.inl rfl) (Z5 bo hr (@Z0 _ _ _ _ _ (pv 2) (@Z0 _ _ _ _ _ (pv 5) (@Z0 _ _ _ _ _ (pv 6) Z1 (by rfl)) (by rfl)) (by rfl))) (by rfl) (by first | exact .inl rfl | exact .inr rfl)) Zf),?_⟩
 refine Vg (fun σ' H'=>∃(o8:V) (ps':Sps) (fs:Sps),σ'=[some (.ref q),some (.int room),some (.int deep),some (.ref c),some (.int total),some (.int bar),some (.ref d),some (.ref L),some o8,none]∧Stg H H' d L deep bar ps.length M ps ps' fs∧Way deep bar ps fs ps'∧((o8=.non∧Nof deep bar ps')∨∃(p:Addr) (k:Int×Int),o8=.ref p∧KAt H' p k∧Fst deep bar ps' k.1 (k.2 / 2))) ?_ ?_
 ·intro nx hnx
  exact ⟨_,rfl,_,rfl,_,rfl,deep,_,d,ps,rfl,sg.ed,pl,fun H' g n=>hnx _ _ ⟨.non,ps,[],rfl,sg.same g,Way.refl,.inl ⟨rfl,n⟩⟩,fun p k H' g ek ft=>hnx _ _ ⟨.ref p,ps,[],rfl,sg.same g,Way.refl,.inr ⟨p,k,rfl,ek,ft⟩⟩⟩
 rintro σ' H3 ⟨o8,ps1,fs,rfl,sg,way,alt⟩
 refine ⟨_,(@Z2 _ _ _ _ _ (Ri PassesOwn.never (@Zk _ _ _ _ _ _ _ _ qT (pv 8) S5 (Zl _)) (@Z2 _ _ _ _ _ (Xv PassesOwn.never rfl (Uo (Z5 cZ hr (@Z0 _ _ _ _ _ (pv 8) Z1 (by rfl)))) (Z9 (i:=9) Zs.nd rfl (Or.inl rfl))
 (@Z6 _ _ _ (@Y7 _ _ _ _ _ _ _ _ (@Zk _ _ _ _ _ _ _ _ (pC hr.units) (pv 9) (pv 6) (by with_unfolding_all rfl)) (@Z2 _ _ _ _ _ (W5 (Rn PySem.F.plainAttrs_list PySem.F.slot_list_append PySem.F.type_list_append Wt (pv 7) (@Z0 _ _ _ _ _ (@Y1 _ _ _ _ _ (@Z0 _ _ _ _ _ (pv 9) (@Z0 _ _ _ _ _ (Xc (Yp hr) (pv 6) (pv 9) (fun _ _=>rfl)) Z1 (by rfl)) (by rfl))) Z1 (by rfl))))
 (@Z6 _ _ _ (W5 (Z5 jL hr (@Z0 _ _ _ _ _ (pv 6) (@Z0 _ _ _ _ _ (pv 9) (@Z0 _ _ _ _ _ (Xc (Yp hr) (pv 6) (pv 9) (fun _ _=>rfl)) Z1 (by rfl)) (by rfl)) (by rfl)))))) Zq)))
 (@Z6 _ _ _ (@Zg _ _ 8 _ _ _ _ Zs.nd rfl (Or.inl rfl) (Z5 bo hr (@Z0 _ _ _ _ _ (pv 2) (@Z0 _ _ _ _ _ (pv 5) (@Z0 _ _ _ _ _ (pv 6) Z1 (by rfl)) (by rfl)) (by rfl))) (by rfl) (by first | exact .inl rfl | exact .inr rfl))))) Zf),?_⟩
 refine On (fun σ H'=>∃(o8:V) (o9:Option V) (ps':Sps) (fs:Sps),σ=[some (.ref q),some (.int room),some (.int deep),some (.ref c),some (.int total),some (.int bar),some (.ref d),some (.ref L),some o8,o9]∧Stg H H' d L deep bar ps.length M ps ps' fs∧Way deep bar ps fs ps'∧((o8=.non∧Nof deep bar ps')∨∃(p:Addr) (k:Int×Int),o8=.ref p∧KAt H' p k∧Fst deep bar ps' k.1 (k.2 / 2))) (fun _ H'=>muD deep d H') ⟨o8,none,ps1,fs,rfl,sg,way,alt⟩ ?_ ?_
 ·rintro σ H4 ⟨o8,o9,ps2,fs,rfl,sg,way,alt⟩
  refine ⟨_,rfl,rfl,_,rfl,?_⟩
  rcases alt with ⟨rfl,nof⟩ | ⟨p,k,rfl,e_p,ft⟩
  ·rw [decide_eq_true rfl]
   refine Y5 ⟨_,(@Z6 _ _ _ (@Ze _ _ _ _ (@Y1 _ _ _ _ _ (@Z0 _ _ _ _ _ (@Y1 _ _ _ _ _ (@Z0 _ _ _ _ _ (pv 1) (@Z0 _ _ _ _ _ (pv 2) (@Z0 _ _ _ _ _ (X2 Ui rfl aA PyProof.Rows.boot_tuple (@Z0 _ _ _ _ _ (Zh (Sh rfl hr.units) rfl aw PyProof.Rows.boot_sorted (@Z0 _ _ _ _ _ (Up PySem.F.plainAttrs_dict PySem.F.slot_dict_items PySem.F.type_dict_items P0 (pv 6)) Z1 (by rfl))) Z1 (by rfl))) (@Z0 _ _ _ _ _ (pv 4) Z1 (by rfl)) (by rfl)) (by rfl)) (by rfl))) (@Z0 _ _ _ _ _ (pv 7) Z1 (by rfl)) (by rfl))))),?_⟩
   refine ⟨_,rfl,_,rfl,_,rfl,gh sg.ed,d,_,rfl,rfl,sg.ed,fun v nv=>?_⟩
   have g1:=Z7 nv (dj v d)
   have e_v:(upd H4 v (dj v d)) v=some (dj v d):=Z4
   have sg:=sg.same g1
   generalize upd H4 v (dj v d)=H5 at e_v sg ⊢
   have pl2:=sg.le
   refine ⟨v,d,ps2,rfl,e_v,sg.ed,by omega,fun H6 bs g6 pr6 l nl _=>?_⟩
   have sg:=sg.same g6
   have gg:Same H6 H6:=Same.refl _
   have gz:=Z7 nl (.lst (bs.map V.ref))
   have e_l:(upd H6 l (.lst (bs.map V.ref))) l=some (.lst (bs.map V.ref)):=Z4
   have sg:=sg.same gz
   have gg:=gg.trans gz
   generalize upd H6 l (.lst (bs.map V.ref))=H7 at e_l sg gg gz ⊢
   refine ⟨l,_,rfl,.inl ⟨SqL.of e_l,?_⟩⟩
   intro u n_u
   generalize hz:upd _ u _=H8
   have gz:=Zj hz n_u
   have e_u:=Zr hz
   clear hz
   have gg:=gg.trans gz
   have sg:=sg.same gz
   refine ⟨_,rfl,leN rfl,?_⟩
   intro r n_r
   generalize hz:upd _ r _=H9
   have gz:=Zj hz n_r
   have e_r:=Zr hz
   clear hz
   have gg:=gg.trans gz
   have e_u:=gz _ _ e_u
   have sg:=sg.same gz
   refine ⟨_,rfl,leN rfl,?_⟩
   intro t n_t
   generalize hz:upd _ t _=H10
   have gz:=Zj hz n_t
   have e_t:=Zr hz
   clear hz
   have gg:=gg.trans gz
   have e_u:=gz _ _ e_u
   have e_r:=gz _ _ e_r
   have sg:=sg.same gz
   have few:=sg.few
   exact hq t r L _ fs ps2 sg.sm e_t nHL ⟨u,bs,e_r,e_u,Paired.mapP pr6 fun _ _ f=>X7 gg f⟩ sg.eL (by omega) (way.done nof) sg.ok sg.le
  ·rw [decide_eq_false (fun z=>by cases z)]
   refine Wy ⟨_,rfl,p,k,rfl,e_p,fun t a b H5 g5 e_t e_a e_b=>⟨t,rfl,⟨_,SqT.of e_t⟩,?_⟩⟩
   have mu4:muD deep d H4=mea deep (ps2.map (·.1)):=gr sg.ed
   rw [mu4]
   have sg5:=sg.same g5
   generalize k.1=h at ft e_a e_b
   generalize k.2 / 2=jj at ft e_a e_b
   have hd:=ft.hd
   refine eE (xs:=[.ref a,.ref b]) (fun j σ H'=>∃(o9:Option V),σ=[some (.ref q),some (.int room),some (.int deep),some (.ref c),some (.int total),some (.int bar),some (.ref d),some (.ref L),some (.ref p),o9]∧Stg H H' d L deep bar ps.length M ps (pjs ps2 h jj j) (fs++tjs ps2 h jj j)∧H' t=some (.tup [.ref a,.ref b])∧KAt H' a (loK h jj)∧KAt H' b (hiK h jj)) ⟨_,rfl,by rw [show fs++tjs ps2 h jj 0=fs from List.append_nil fs];exact sg5,e_t,e_a,e_b⟩ ?_ ?_ ?_
   ·rintro j σ H' _ ⟨_,_,_,e,_⟩
    exact SqT.of e
   ·rintro j x σ H6 N B1 R hN hR hx ⟨o9,rfl,sg,e_t,e_a,e_b⟩
    obtain ⟨o,rfl,e_o,j2⟩:∃(o:Addr),x=.ref o∧KAt H6 o (kjs h jj j)∧j<2:=by
     match j,hx with
     | 0,hx=>
      cases hx
      exact ⟨a,rfl,e_a,by decide⟩
     | 1,hx=>
      cases hx
      exact ⟨b,rfl,e_b,by decide⟩
     | j+2,hx=>simp at hx
    obtain ⟨nx1,nx2⟩:=kW ps2 h jj j2
    rw [nx1,nx2,←List.append_assoc] at hN
    have kh:(kjs h jj j).1=h:=by
     match j with
     | 0=>rfl
     | _+1=>rfl
    generalize pjs ps2 h jj j=ps3 at sg hN
    generalize fs++tjs ps2 h jj j=fs3 at sg hN
    generalize kjs h jj j=ko at e_o hN kh
    refine ⟨_,rfl,_,rfl,d,_,rfl,Yv sg.ed e_o,_,rfl,Tp (fun cc=>?_) (fun cc=>?_)⟩
    ·have kin:=W0.mp cc
     have hm:=Wu kin
     have nxo:=Q9 (k:=ko) sg.ok (by rw [kh];exact hd)
     have ef:aK ps3 ko=cw ps3 ko (cnt ps3 ko) (cnt ps3 (am ko)+cnt ps3 ko):=by unfold aK;rw [if_pos kin];rfl
     have et:bg ps3 ko=[(ko,cnt ps3 ko)]:=by unfold bg;rw [if_pos kin]
     rw [et] at hN nxo
     generalize cnt ps3 ko=m at hm ef hN
     have gm:DGet H6 d (.ref o) (some (.int m)):=by rw [←hm];exact Yv sg.ed e_o
     obtain ⟨fas,eL,pF⟩:=sg.eL
     refine ⟨_,rfl,.inl ⟨rfl,_,SqL.of eL⟩,_,rfl,_,rfl,_,rfl,d,_,rfl,gm,leN rfl,fun u nu=>?_⟩
     have s7:=Z7 nu (.tup [.ref o,.int m])
     have sg:=sg.same s7
     have e_t:=s7 _ _ e_t
     have e_a:KAt _ a _:=s7 _ _ e_a
     have e_b:KAt _ b _:=s7 _ _ e_b
     have e_o:KAt _ o _:=s7 _ _ e_o
     have eL:=s7 _ _ eL
     have pF:=Paired.mapP pF fun _ _ f=>X7 s7 f
     have fu:FT (upd H6 u (.tup [.ref o,.int m])) u (ko,m):=⟨o,Z4,e_o⟩
     generalize upd H6 u (.tup [.ref o,.int m])=H7 at sg e_t e_a e_b e_o eL pF fu ⊢
     have few:=sg.few
     have fal:=Paired.length pF
     have tL:∀{x:Addr} {xs:List V} {o:HO},H7 x=some (.tup xs)→upd H7 L o x=some (.tup xs):=fun {x xs o} e=>by rw [Zb (Tj e eL (by intro z;cases z))];exact e
     refine ⟨L,_,_,rfl,rfl,eL,Zp (by rw [List.length_map];omega),?_⟩
     have sm8:Same H (upd H7 L (.lst (fas.map V.ref++[.ref u]))):=fun x w e=>by rw [Zb (Zi e nHL)];exact sg.sm _ _ e
     have ed8:(upd H7 L (.lst (fas.map V.ref++[.ref u]))) d=some (.dT (ao ps3)):=by rw [Zb dL];exact sg.ed
     have eL8:(upd H7 L (.lst (fas.map V.ref++[.ref u]))) L=some (.lst ((fas++[u]).map V.ref)):=by rw [List.map_append];exact Z4
     have tF:∀{x:Addr} {p:(Int×Int)×Int},FT H7 x p→FT (upd H7 L (.lst (fas.map V.ref++[.ref u]))) x p:=fun {x p} ⟨y,e1,e2⟩=>⟨y,tL e1,tL e2⟩
     have pF8:Paired (FT (upd H7 L (.lst (fas.map V.ref++[.ref u])))) (fas++[u]) (fs3++[(ko,m)]):=Paired.snoc (Paired.mapP pF fun _ _ f=>tF f) (tF fu)
     have e_t:=tL (o:=.lst (fas.map V.ref++[.ref u])) e_t
     have e_a:KAt _ a _:=tL (o:=.lst (fas.map V.ref++[.ref u])) e_a
     have e_b:KAt _ b _:=tL (o:=.lst (fas.map V.ref++[.ref u])) e_b
     have e_o:KAt _ o _:=tL (o:=.lst (fas.map V.ref++[.ref u])) e_o
     generalize upd H7 L (.lst (fas.map V.ref++[.ref u]))=H8 at sm8 ed8 eL8 e_t e_a e_b e_o pF8 ⊢
     have gm8:DGet H8 d (.ref o) (some (.int m)):=by rw [←hm];exact Yv ed8 e_o
     have le3:=sg.le
     refine ⟨_,rfl,_,rfl,_,rfl,_,rfl,d,_,rfl,gm8,d,o,ps3,ko,m,rfl,ed8,e_o,hm,by omega,fun H9 g9 e9=>?_⟩
     rw [←ef] at e9
     have nx2:=nxo.2.1
     have nx3:=nxo.2.2
     rw [List.length_singleton] at nx2
     have td:∀{x:Addr} {xs:List V},H8 x=some (.tup xs)→H9 x=some (.tup xs):=fun {x xs} e=>(Z8 (g9 x _ (by rw [Zc (Tj e ed8 (by intro z;cases z))];exact e))).2
     refine hN _ _ ⟨_,rfl,⟨fun x w e=>(Z8 (g9 x _ (by rw [Zc (Zi e n_d)];exact sm8 _ _ e))).2,e9,⟨fas++[u],(Z8 (g9 L _ (by rw [Zc (Ne.symm dL)];exact eL8))).2,Paired.mapP pF8 fun _ _ ⟨y,e1,e2⟩=>⟨y,td e1,td e2⟩⟩,nxo.1,by omega,by rw [List.length_append,List.length_singleton];omega⟩,td e_t,td e_a,td e_b⟩
    ·have kin:ko∉ps3.map (·.1):=fun z=>cc (W0.mpr z)
     have ef:aK ps3 ko=ps3:=by unfold aK;rw [if_neg kin]
     have et:bg ps3 ko=[]:=by unfold bg;rw [if_neg kin]
     rw [ef,et,List.append_nil] at hN
     exact hN _ _ ⟨_,rfl,sg,e_t,e_a,e_b⟩
   ·rintro σ H6 ⟨o9,rfl,sg,_,_,_⟩
    have sg:Stg H H6 d L deep bar ps.length M ps (bf ps2 h jj) (fs++flP ps2 h jj):=sg
    have way:=way.snoc ft (.refl _)
    have so:=T3 (j:=jj) sg5.ok hd
    have fp:=nz ft.in_
    have le3:=sg.le
    generalize bf ps2 h jj=ps3 at sg way so le3
    generalize fs++flP ps2 h jj=fs3 at sg way
    have less:mea deep (ps3.map (·.1))<mea deep (ps2.map (·.1)):=by omega
    refine ⟨_,rfl,_,rfl,_,rfl,deep,_,d,ps3,rfl,sg.ed,by omega,fun H' g n=>⟨⟨.non,o9,ps3,fs3,rfl,sg.same g,way,.inl ⟨rfl,n⟩⟩,?_⟩,fun p' k' H' g ek ft'=>⟨⟨.ref p',o9,ps3,fs3,rfl,sg.same g,way,.inr ⟨p',k',rfl,ek,ft'⟩⟩,?_⟩⟩
    ·rw [gr (sg.same g).ed];exact less
    ·rw [gr (sg.same g).ed];exact less
 ·rintro σ H' Q1 Q2 m ⟨v,e,e2,b,e3,r⟩
  exact ⟨v,e,e2,b,e3,m _ _ r⟩
end
end K26
namespace Ld
open PySem L2
structure Pok (deep:Int) (ps:Sps):Prop where
 kok:Kok deep (ps.map (·.1))
 pos:∀p∈ps,1≤p.2
theorem Pok.perm {deep:Int} {ps qs:Sps} (h:Pok deep ps) (p:qs.Perm ps):Pok deep qs:=⟨h.kok.perm (p.map _),fun x hx=>h.pos x (p.mem_iff.mp hx)⟩
theorem Px {deep:Int}:Pok deep []:=⟨⟨List.nodup_nil,fun _ h=>nomatch h⟩,fun _ h=>nomatch h⟩
theorem Sx {deep:Int} {ps:Sps} (h:Pok deep ps) (k:Int×Int):0≤cnt ps k:=by
 by_cases hk:k∈ps.map (·.1)
 ·obtain ⟨p,hp,rfl⟩:=List.mem_map.mp hk
  rw [Vt h.kok.nd hp]
  have:=h.pos p hp
  omega
 ·rw [Yw hk]
  exact Int.le_refl _
theorem jp {deep:Int} {ps:Sps} (h:Pok deep ps) {k:Int×Int} (hk:k∈ps.map (·.1)):1≤cnt ps k:=by
 obtain ⟨p,hp,rfl⟩:=List.mem_map.mp hk
 rw [Vt h.kok.nd hp]
 exact h.pos p hp
theorem pB {deep:Int} {ps:Sps} {k:Int×Int} {n:Int} (h:Pok deep ps) (hk:0≤k.1∧k.1≤deep∧0≤k.2∧k.2<2 ^ (deep - k.1).toNat) (hn:1≤n):Pok deep (av ps k n):=by
 refine ⟨⟨X8 h.kok.nd,fun x hx=>?_⟩,fun p hp=>?_⟩
 ·rw [Wr] at hx
  split at hx
  ·exact h.kok.st x hx
  ·rcases List.mem_append.mp hx with hx | hx
   ·exact h.kok.st x hx
   ·rw [List.mem_singleton.mp hx];exact hk
 ·unfold av at hp
  split at hp
  ·obtain ⟨q,hq,rfl⟩:=List.mem_map.mp hp
   split
   ·exact hn
   ·exact h.pos q hq
  ·rcases List.mem_append.mp hp with hp | hp
   ·exact h.pos p hp
   ·rw [List.mem_singleton.mp hp];exact hn
theorem Ou {deep:Int} {ps:Sps} {h j:Int} (o:Pok deep ps) (i:loK h j∈ps.map (·.1)∨hiK h j∈ps.map (·.1)) (hd:h<deep):Pok deep (bf ps h j):=by
 have so:=T3 (j:=j) o.kok hd
 refine ⟨so.1,fun p hp=>?_⟩
 have e:=Wb so.1.nd hp
 rw [Vb i] at e
 split at e
 ·cases e
 ·split at e
  ·injection e with e
   injection e with e
   rw [←e]
   unfold jn
   have a:=Sx o (loK h j)
   have b:=Sx o (hiK h j)
   have c:=Sx o (upK h j)
   rcases i with i | i
   ·have:=jp o i
    omega
   ·have:=jp o i
    omega
  ·exact o.pos p ((Ru o.kok.nd).mpr e)
theorem px {deep bar:Int} {ps fs ps':Sps} (s:Stl deep bar ps fs ps'):Pok deep ps→Pok deep ps'∧ps'.length≤ps.length:=by
 induction s with
 | done n=>exact fun o=>⟨o,Nat.le_refl _⟩
 | step f p1 s ih=>
  intro o
  have q:=Ou o f.in_ f.hd
  have z:=ih (q.perm p1)
  exact ⟨z.1,Nat.le_trans z.2 (by rw [p1.length_eq];exact (T3 o.kok f.hd).2.2)⟩
theorem lM {deep bar:Int} {ps fs ps' qs:Sps} (s:Stl deep bar ps fs ps') (p:ps.Perm qs) (nd:(ps.map (·.1)).Nodup):∃qs',Stl deep bar qs fs qs'∧qs'.Perm ps':=by
 cases s with
 | done n=>exact ⟨qs,.done (Rt n p nd),p.symm⟩
 | step f p1 s=>exact ⟨ps',by rw [hW p nd];exact .step (f.perm p nd) (p1.trans (Qu p nd f.in_)) s,.refl _⟩
theorem mY {deep bar:Int} {ps:Sps}:Nof deep bar ps∨∃h j,Fst deep bar ps h j:=by
 by_cases n:Nof deep bar ps
 ·exact .inl n
 refine .inr ?_
 have go:∀l:List (Int×Int),l.Pairwise (fun a b=>leK a b=true)→(∀k∈l,k∈ps.map (·.1))→(∃k∈l,k.1<deep∧jn ps k.1 (k.2 / 2)≤bar)→∃k∈l,k.1<deep∧jn ps k.1 (k.2 / 2)≤bar∧∀k'∈l,k'.1<deep→jn ps k'.1 (k'.2 / 2)≤bar→k.1<k'.1∨(k.1=k'.1∧k.2 / 2≤k'.2 / 2):=by
  intro l
  induction l with
  | nil=>rintro _ _ ⟨k,hk,_⟩;cases hk
  | cons x l ih=>
   intro pw sub ex
   rw [List.pairwise_cons] at pw
   by_cases c:x.1<deep∧jn ps x.1 (x.2 / 2)≤bar
   ·refine ⟨x,.head _,c.1,c.2,fun k' hk' _ _=>?_⟩
    rcases List.mem_cons.mp hk' with e | hk'
    ·rw [e];exact .inr ⟨rfl,Int.le_refl _⟩
    ·rcases X6.mp (pw.1 k' hk') with h | ⟨h,g⟩
     ·exact .inl h
     ·exact .inr ⟨h,by omega⟩
   ·obtain ⟨k,hk,h1,h2⟩:=ex
    have hk:k∈l:=(List.mem_cons.mp hk).resolve_left fun e=>c (by rw [←e];exact ⟨h1,h2⟩)
    obtain ⟨k0,m,a1,a2,a3⟩:=ih pw.2 (fun z hz=>sub z (.tail _ hz)) ⟨k,hk,h1,h2⟩
    refine ⟨k0,.tail _ m,a1,a2,fun k' hk' b1 b2=>?_⟩
    rcases List.mem_cons.mp hk' with e | hk'
    ·exact absurd (by rw [←e];exact ⟨b1,b2⟩) c
    ·exact a3 k' hk' b1 b2
 have mk:∀k,k∈cx (ps.map (·.1))↔k∈ps.map (·.1):=fun k=>(Yz _).mem_iff
 obtain ⟨k,hk⟩:=Classical.not_forall.mp n
 obtain ⟨hk1,hk⟩:=Classical.not_imp.mp hk
 obtain ⟨hk2,hk⟩:=Classical.not_imp.mp hk
 obtain ⟨k0,m,a1,a2,a3⟩:=go (cx (ps.map (·.1))) (T5 _) (fun k h=>(mk k).mp h) ⟨k,(mk k).mpr hk1,hk2,by omega⟩
 refine ⟨k0.1,k0.2 / 2,?_,a1,a2,fun k' h1 h2 h3=>a3 k' ((mk k').mpr h1) h2 h3⟩
 rcases ic k0 with e | e
 ·exact .inl (by rw [←e];exact (mk k0).mp m)
 ·exact .inr (by rw [←e];exact (mk k0).mp m)
theorem R7 {deep bar:Int}:∀(n:Nat) (ps:Sps),mea deep (ps.map (·.1))≤n→Kok deep (ps.map (·.1))→∃fs ps',Stl deep bar ps fs ps'
 | n,ps,hn,o=>by
  rcases mY (deep:=deep) (bar:=bar) (ps:=ps) with z | ⟨h,j,f⟩
  ·exact ⟨[],ps,.done z⟩
  ·have so:=T3 (j:=j) o f.hd
   have fp:=nz f.in_
   match n,hn with
   | 0,hn=>omega
   | n+1,hn=>
    obtain ⟨fs,ps',s⟩:=R7 n (bf ps h j) (by omega) so.1
    exact ⟨_,_,.step f (.refl _) s⟩
def cP (deep bar:Int) (ps:Sps):Sps:=ba (Classical.epsilon fun ps'=>∃fs,Stl deep bar ps fs ps')
def pf (deep bar:Int) (ps:Sps):Sps:=Classical.epsilon fun fs=>∃ps',Stl deep bar ps fs ps'
theorem Vz {deep bar:Int} {ps fs ps':Sps} (s:Stl deep bar ps fs ps') (nd:(ps.map (·.1)).Nodup):cP deep bar ps=ba ps'∧pf deep bar ps=fs:=by
 refine ⟨?_,?_⟩
 ·obtain ⟨gs,t⟩:=Classical.epsilon_spec (p:=fun ps'=>∃fs,Stl deep bar ps fs ps') ⟨ps',fs,s⟩
  exact R8 (iY t s (.refl _) nd).2
 ·obtain ⟨qs,t⟩:=Classical.epsilon_spec (p:=fun fs=>∃ps',Stl deep bar ps fs ps') ⟨fs,ps',s⟩
  exact (iY t s (.refl _) nd).1
theorem jq {deep bar:Int} {ps qs fs qs':Sps} (s:Stl deep bar qs fs qs') (p:qs.Perm ps) (nd:(qs.map (·.1)).Nodup):cP deep bar ps=ba qs'∧pf deep bar ps=fs:=by
 obtain ⟨ps',t,p'⟩:=lM s p nd
 have:=Vz t ((p.map _).nodup_iff.mp nd)
 exact ⟨this.1.trans (R8 p'),this.2⟩
theorem jV {deep bar:Int} {ps qs:Sps} (o:Kok deep (ps.map (·.1))) (p:ps.Perm qs):cP deep bar ps=cP deep bar qs∧pf deep bar ps=pf deep bar qs:=by
 obtain ⟨fs,ps',s⟩:=R7 (deep:=deep) (bar:=bar) _ ps (Nat.le_refl _) o
 have a:=Vz s o.nd
 have b:=jq s p o.nd
 exact ⟨a.1.trans b.1.symm,a.2.trans b.2.symm⟩
theorem gZ (ps:Sps):ba (ba ps)=ba ps:=R8 (Y0 ps)
theorem Uk {deep bar:Int} {ps:Sps} (o:Pok deep ps):Pok deep (cP deep bar ps)∧ba (cP deep bar ps)=cP deep bar ps∧Nof deep bar (cP deep bar ps)∧ai (cP deep bar ps)=ai ps∧(cP deep bar ps).length≤ps.length:=by
 obtain ⟨fs,ps',s⟩:=R7 (deep:=deep) (bar:=bar) _ ps (Nat.le_refl _) o.kok
 have e:=(Vz s o.kok.nd).1
 have f:=Pp s o.kok.nd
 have g:=px s o
 rw [e]
 refine ⟨g.1.perm (Y0 ps'),gZ ps',Rt f.2.1 (Y0 ps').symm f.1,by rw [Xe (Y0 ps')];exact f.2.2,by rw [(Y0 ps').length_eq];exact g.2⟩
def bd (xs ys:Sps):Sps:=ys.foldl (fun a p=>av a p.1 (cnt a p.1+p.2)) xs
theorem eV (xs ys:Sps) (p:(Int×Int)×Int):bd xs (ys++[p])=av (bd xs ys) p.1 (cnt (bd xs ys) p.1+p.2):=by
 unfold bd
 rw [List.foldl_append]
 rfl
theorem Tx (xs ys:Sps) (p:(Int×Int)×Int):bd xs (p::ys)=bd (av xs p.1 (cnt xs p.1+p.2)) ys:=rfl
theorem Oj:∀{ys xs:Sps},(xs.map (·.1)).Nodup→((bd xs ys).map (·.1)).Nodup
 | [],_,h=>h
 | _::ys,_,h=>Oj (ys:=ys) (X8 h)
theorem R0:∀(ys xs:Sps),(bd xs ys).length≤xs.length+ys.length
 | [],xs=>Nat.le_refl _
 | p::ys,xs=>by
  have a:=R0 ys (av xs p.1 (cnt xs p.1+p.2))
  have b:=T9 xs p.1 (cnt xs p.1+p.2)
  rw [Tx,List.length_cons]
  omega
theorem Sz:∀{ys xs:Sps},(xs.map (·.1)).Nodup→ai (bd xs ys)=ai xs+ai ys
 | [],xs,_=>by
  show ai xs=ai xs+0
  omega
 | p::ys,xs,h=>by
  rw [Tx,Sz (X8 h),Po h]
  unfold ai
  rw [List.map_cons,List.sum_cons]
  omega
theorem Ue {deep:Int}:∀{ys xs:Sps},Pok deep xs→(∀p∈ys,1≤p.2∧0≤p.1.1∧p.1.1≤deep∧0≤p.1.2∧p.1.2<2 ^ (deep - p.1.1).toNat)→Pok deep (bd xs ys)
 | [],_,h,_=>h
 | p::ys,xs,h,g=>by
  have gp:=g p (.head _)
  have:=Sx h p.1
  exact Ue (ys:=ys) (pB h gp.2 (by omega)) fun q hq=>g q (.tail _ hq)
theorem Pok.each {deep:Int} {ys:Sps} (h:Pok deep ys):∀p∈ys,1≤p.2∧0≤p.1.1∧p.1.1≤deep∧0≤p.1.2∧p.1.2<2 ^ (deep - p.1.1).toNat:=fun p hp=>⟨h.pos p hp,h.kok.st p.1 (List.mem_map.mpr ⟨p,hp,rfl⟩)⟩
theorem Tm:∀{ys xs:Sps} (k:Int×Int),(ys.map (·.1)).Nodup→ap (bd xs ys) k=if k∈ys.map (·.1) then some (.int (cnt xs k+cnt ys k)) else ap xs k
 | [],xs,k,_=>by
  rw [List.map_nil,if_neg List.not_mem_nil]
  rfl
 | p::ys,xs,k,nd=>by
  rw [List.map_cons,List.nodup_cons] at nd
  rw [Tx,Tm k nd.2,List.map_cons]
  have cp:cnt (p::ys) k=if p.1=k then p.2 else cnt ys k:=by
   unfold cnt
   rw [Ye]
   split <;> rename_i e
   ·split at e <;> rename_i z
    ·rw [if_pos z];injection e with e;injection e with e;exact e.symm
    ·rw [if_neg z,e]
   ·split at e <;> rename_i z
    ·exact absurd rfl (e p.2)
    ·rw [if_neg z]
     split
     ·rename_i n q;exact absurd q (e n)
     ·rfl
  by_cases e:p.1=k
  ·have hk:k∉ys.map (·.1):=by rw [←e];exact nd.1
   rw [if_neg hk,X5,if_pos e.symm,if_pos (show k∈p.1::ys.map (·.1) by rw [e];exact .head _),cp,if_pos e,e]
  ·rw [cp,if_neg e]
   by_cases hk:k∈ys.map (·.1)
   ·rw [if_pos hk,if_pos (List.mem_cons_of_mem _ hk),Ub,if_neg (Ne.symm e)]
   ·rw [if_neg hk,if_neg (fun q=>(List.mem_cons.mp q).elim (fun z=>e z.symm) hk),X5,if_neg (Ne.symm e)]
theorem Ni {xs:Sps} (k:Int×Int):ap xs k=if k∈xs.map (·.1) then some (.int (cnt xs k)) else none:=by
 by_cases h:k∈xs.map (·.1)
 ·rw [if_pos h,Wu h]
 ·rw [if_neg h,Wx h]
theorem kJ {xs ys:Sps} (nx:(xs.map (·.1)).Nodup) (ny:(ys.map (·.1)).Nodup):(bd xs ys).Perm (bd ys xs):=by
 refine U3 (Oj nx) (Oj ny) fun k=>?_
 rw [Tm k ny,Tm k nx,Ni (xs:=xs),Ni (xs:=ys)]
 by_cases hx:k∈xs.map (·.1)
 ·by_cases hy:k∈ys.map (·.1)
  ·rw [if_pos hy,if_pos hx,Int.add_comm]
  ·rw [if_neg hy,if_pos hx,if_pos hx,Yw hy,Int.zero_add]
 ·by_cases hy:k∈ys.map (·.1)
  ·rw [if_pos hy,if_neg hx,if_pos hy,Yw hx,Int.zero_add]
  ·rw [if_neg hy,if_neg hx,if_neg hx,if_neg hy]
def a_ (room deep:Int) (xs ys:Sps):Sps:=cP deep (ai (bd xs ys) / room) (bd xs ys)
theorem kN {room deep:Int} {xs ys:Sps} (hx:Pok deep xs) (hy:Pok deep ys):a_ room deep xs ys=a_ room deep ys xs:=by
 have p:=kJ hx.kok.nd hy.kok.nd
 unfold a_
 rw [Xe p,(jV (Ue hx hy.each).kok p).1]
structure Lok (room deep:Int) (xs:Sps):Prop where
 pok:Pok deep xs
 srt:ba xs=xs
 nof:Nof deep (ai xs / room) xs
theorem pZ {room deep:Int}:Lok room deep []:=⟨Px,by unfold ba;simp,fun _ h=>nomatch h⟩
theorem Nj {room deep:Int} {ps:Sps} (o:Pok deep ps):Lok room deep (cP deep (ai ps / room) ps):=by
 obtain ⟨a,b,c,d,_⟩:=Uk (bar:=ai ps / room) o
 exact ⟨a,b,by rw [d];exact c⟩
theorem V9 {room deep:Int} {xs ys:Sps} (hx:Pok deep xs) (hy:Pok deep ys):Lok room deep (a_ room deep xs ys)∧ai (a_ room deep xs ys)=ai xs+ai ys∧(a_ room deep xs ys).length≤xs.length+ys.length:=by
 have o:=Ue hx hy.each
 obtain ⟨a,b,c,d,e⟩:=Uk (bar:=ai (bd xs ys) / room) o
 exact ⟨Nj o,by unfold a_;rw [d,Sz hx.kok.nd],Nat.le_trans e (R0 ys xs)⟩
def thL (room deep:Int) (t:Th):Sps:=cP deep (t.many / room) [((0,t.num),t.many)]
def cr (room deep:Int) (ts:List Th):Sps:=ts.foldl (fun a t=>a_ room deep a (thL room deep t)) []
def ThL (deep:Int) (t:Th):Prop:=0≤t.num∧t.num<2 ^ deep.toNat∧1≤t.many
theorem So {deep:Int} {t:Th} (d0:0≤deep) (h:ThL deep t):Pok deep [((0,t.num),t.many)]:=by
 refine ⟨⟨List.nodup_cons.mpr ⟨List.not_mem_nil,List.nodup_nil⟩,fun k hk=>?_⟩,fun p hp=>?_⟩
 ·have e:k=(0,t.num):=List.mem_singleton.mp hk
  rw [e]
  refine ⟨Int.le_refl _,d0,h.1,?_⟩
  show t.num<2 ^ (deep - 0).toNat
  rw [Int.sub_zero]
  exact h.2.1
 ·rw [List.mem_singleton.mp hp]
  exact h.2.2
theorem qc (t:Th):ai [((0,t.num),t.many)]=t.many:=by
 show t.many+0=t.many
 omega
theorem Pl {room deep:Int} {t:Th} (d0:0≤deep) (h:ThL deep t):Lok room deep (thL room deep t)∧ai (thL room deep t)=t.many∧(thL room deep t).length≤1:=by
 have o:=So d0 h
 have l:=Nj (room:=room) o
 obtain ⟨a,b,c,d,e⟩:=Uk (bar:=t.many / room) o
 rw [qc] at l d
 exact ⟨l,d,e⟩
theorem jN (room deep:Int) (ts:List Th) (t:Th):cr room deep (ts++[t])=a_ room deep (cr room deep ts) (thL room deep t):=by
 unfold cr
 rw [List.foldl_append]
 rfl
def dk (ts:List Th):Int:=(ts.map (·.many)).sum
theorem iI {room deep:Int} (d0:0≤deep):∀(ts:List Th) (a:Sps),Lok room deep a→(∀t∈ts,ThL deep t)→Lok room deep (ts.foldl (fun a t=>a_ room deep a (thL room deep t)) a)∧ai (ts.foldl (fun a t=>a_ room deep a (thL room deep t)) a)=ai a+dk ts∧(ts.foldl (fun a t=>a_ room deep a (thL room deep t)) a).length≤a.length+ts.length
 | [],a,ha,_=>⟨ha,by show ai a=ai a+0;omega,Nat.le_refl _⟩
 | t::ts,a,ha,h=>by
  have ht:=Pl (room:=room) d0 (h t (.head _))
  have m:=V9 (room:=room) ha.pok ht.1.pok
  obtain ⟨i1,i2,i3⟩:=iI d0 ts _ m.1 fun x hx=>h x (.tail _ hx)
  refine ⟨i1,?_,?_⟩
  ·rw [List.foldl_cons,i2,m.2.1,ht.2.1]
   unfold dk
   rw [List.map_cons,List.sum_cons]
   omega
  ·rw [List.foldl_cons,List.length_cons]
   have:=m.2.2
   have:=ht.2.2
   omega
theorem Ss {room deep:Int} (d0:0≤deep) {ts:List Th} (h:∀t∈ts,ThL deep t):Lok room deep (cr room deep ts)∧ai (cr room deep ts)=dk ts∧(cr room deep ts).length≤ts.length:=by
 obtain ⟨a,b,c⟩:=iI (room:=room) d0 ts [] pZ h
 refine ⟨a,?_,?_⟩
 ·show ai (ts.foldl _ [])=_
  rw [b]
  show (0:Int)+dk ts=dk ts
  omega
 ·show (ts.foldl _ []).length≤_
  rw [List.length_nil,Nat.zero_add] at c
  exact c
end Ld
namespace K26
open PySem L2 Ld
def og (K:W.Frag):Sp:=fun vs H Q _=>∃(a S:Addr) (ns:List Int),vs=[.ref a]∧Pn K S ns H a∧∀(n:Int) (H':Hp),1≤n→Pn K S ns H' a→Grw a H H'→Q (.int n) H'
def iW (K:W.Frag):Sp:=fun vs H Q _=>∃(a S:Addr) (ns:List Int),vs=[.ref a]∧Pn K S ns H a∧∀(l:Addr) (room deep:Int) (H':Hp),ak a H' l=some (.lst [.int room,.int deep])→1≤room→room≤20→1≤deep→deep≤10→Pn K S ns H' a→Grw a H H'→Q (.ref l) H'
section
variable {P:Program} {w:World} {K:W.Frag} {mg:Str→Option Value} {base:Heap} {f:Addr} {fd:FuncData}
theorem nF (aq:Has P w K mg base "_law_take" 1 ["_law_pen_here","_law_most"] (dI K)) (F:Fun K "_law_sizes" "_law_sizes" bS f fd):FnOk P w K mg base CX0 2 f fd ["_law_pen_here"] (iW K):=by
 refine F.ok Rb (fun vs H Q E h=>?_) (fun cdv A outer s H vs Q E hr h=>?_)
 ·obtain ⟨a,S,ns,rfl,_⟩:=h
  rfl
 obtain ⟨a,S,ns,rfl,hp,hq⟩:=h
 refine ⟨_,(@Z2 _ _ _ _ _ (@Zg _ _ 1 _ _ _ _ Rb.nd rfl (Or.inl rfl) (@Zz _ _ _ _ _ _ _ Ym (@Yy _ _ _ _ (@Z0 _ _ _ _ _ Z3 (@Z0 _ _ _ _ _ Z3 (@Z0 _ _ _ _ _ Z3 (@Z0 _ _ _ _ _ Z3 (@Z0 _ _ _ _ _ Z3 (@Z0 _ _ _ _ _ Z3 (@Z0 _ _ _ _ _ Z3 (@Z0 _ _ _ _ _ (@Zd _ _ _ _ _ _ _ _ Zv Z3 (Z5 aq hr (@Z0 _ _ _ _ _ (pv 0) (@Z0 _ _ _ _ _ Z3 Z1 (by rfl)) (by rfl)))) Z1 (by rfl)) (by rfl)) (by rfl)) (by rfl)) (by rfl)) (by rfl)) (by rfl)) (by rfl))) (Z5 aq hr (@Z0 _ _ _ _ _ (pv 0) (@Z0 _ _ _ _ _ Z3 Z1 (by rfl)) (by rfl))) (fun _ _=>rfl)) (by rfl) (by first | exact .inl rfl | exact .inr rfl))
 (@Z6 _ _ _ (@Ze _ _ _ _ (@Yy _ _ _ _ (@Z0 _ _ _ _ _ (pv 1) (@Z0 _ _ _ _ _ (@Zd _ _ _ _ _ _ _ _ Zv Z3 (Z5 aq hr (@Z0 _ _ _ _ _ (pv 0) (@Z0 _ _ _ _ _ (@Zz _ _ _ _ _ _ _ Ym (@Yy _ _ _ _ (@Z0 _ _ _ _ _ Z3 (@Z0 _ _ _ _ _ Z3 (@Z0 _ _ _ _ _ Z3 Z1 (by rfl)) (by rfl)) (by rfl))) (Z5 aq hr (@Z0 _ _ _ _ _ (pv 0) (@Z0 _ _ _ _ _ Z3 Z1 (by rfl)) (by rfl))) (fun _ _=>rfl)) Z1 (by rfl)) (by rfl)))) Z1 (by rfl)) (by rfl)))))),?_⟩
 refine ⟨_,rfl,a,S,ns,20,rfl,hp,Vk rfl,ltI rfl,fun d1 H1 x0 x1 hp1 g1=>⟨_,_,rfl,rfl,leN rfl,fun p np=>?_⟩⟩
 have x1:d1<20:=x1
 have g2:=hp1.grw (Z7 np (.lst [.int 1,.int 2,.int 3,.int 4,.int 5,.int 8,.int 20,.int (1+d1)]))
 have pa:=hp1.ne np
 have hp2:=hp1.laid (o:=.lst [.int 1,.int 2,.int 3,.int 4,.int 5,.int 8,.int 20,.int (1+d1)]) np
 have e_p:ak a (upd H1 p (.lst [.int 1,.int 2,.int 3,.int 4,.int 5,.int 8,.int 20,.int (1+d1)])) p=some (.lst [.int 1,.int 2,.int 3,.int 4,.int 5,.int 8,.int 20,.int (1+d1)]):=by rw [Zc pa];exact Z4
 refine ⟨_,rfl,a,S,ns,8,rfl,hp2,Vk rfl,ltI rfl,fun d2 H3 y0 y1 hp3 g3=>?_⟩
 have e_p:=g3 _ _ e_p
 obtain ⟨v,hv,mv⟩:=kZ (d:=d2) (Z8 e_p).2 y0 y1
 obtain ⟨room,rfl,r0,r1⟩:∃z:Int,v=.int z∧1≤z∧z≤20:=by
  simp only [List.mem_cons,List.not_mem_nil,or_false] at mv
  rcases mv with rfl | rfl | rfl | rfl | rfl | rfl | rfl | rfl
  all_goals first | exact ⟨_,rfl,by decide,by decide⟩ | exact ⟨_,rfl,by omega,by omega⟩
 refine ⟨p,_,_,_,rfl,rfl,Us e_p,hv,?_⟩
 refine ⟨_,rfl,_,rfl,leN rfl,fun u nu=>?_⟩
 have ua:=hp3.ne nu
 have e_u:ak a (upd H3 u (.lst [.int 3,.int 5,.int 10])) u=some (.lst [.int 3,.int 5,.int 10]):=by rw [Zc ua];exact Z4
 refine ⟨_,rfl,a,S,ns,3,rfl,hp3.laid nu,Vk rfl,ltI rfl,fun d3 H4 z0 z1 hp4 g4=>?_⟩
 have e_u:=g4 _ _ e_u
 obtain ⟨v,hv,mv⟩:=kZ (d:=d3) (Z8 e_u).2 z0 z1
 obtain ⟨z,rfl,q0,q1⟩:∃z:Int,v=.int z∧0<z∧z≤10:=by
  simp only [List.mem_cons,List.not_mem_nil,or_false] at mv
  rcases mv with rfl | rfl | rfl <;> exact ⟨_,rfl,by decide,by decide⟩
 refine ⟨u,_,_,_,rfl,rfl,Us e_u,hv,a,S,ns,z,rfl,hp4,q0,by omega,fun d4 H5 w0 w1 hp5 g5=>⟨_,_,rfl,rfl,leN rfl,fun l nl=>?_⟩⟩
 exact hq l room (1+d4) _ (by rw [Zc (hp5.ne nl)];exact Z4) r0 r1 (by omega) (by omega) (hp5.laid nl) (g1.trans (g2.trans (g3.trans ((hp3.grw (Z7 nu _)).trans (g4.trans (g5.trans (hp5.grw (Z7 nl _))))))))
end
end K26
namespace K26
open PySem L2 Ld
section
variable {P:Program} {w:World} {K:W.Frag} {mg:Str→Option Value} {base:Heap} {f:Addr} {fd:FuncData}
theorem pA (aq:Has P w K mg base "_law_take" 1 ["_law_pen_here","_law_most"] (dI K)) (F:Fun K "_law_many" "_law_many" ce f fd):FnOk P w K mg base CX0 2 f fd ["_law_pen_here"] (og K):=by
 refine F.ok Qx (fun vs H Q E h=>?_) (fun cdv A outer s H vs Q E hr h=>?_)
 ·obtain ⟨a,S,ns,rfl,_⟩:=h
  rfl
 obtain ⟨a,S,ns,rfl,hp,hq⟩:=h
 refine ⟨_,(@Z2 _ _ _ _ _ (@Zg _ _ 1 _ _ _ _ Qx.nd rfl (Or.inl rfl) (Z5 aq hr (@Z0 _ _ _ _ _ (pv 0) (@Z0 _ _ _ _ _ Z3 Z1 (by rfl)) (by rfl))) (by rfl) (by first | exact .inl rfl | exact .inr rfl))
 (@Z2 _ _ _ _ _ (@Y7 _ _ _ _ _ _ _ _ (@Zk _ _ _ _ _ _ _ _ Qz (pv 1) Z3 (Zl _)) (@Z6 _ _ _ (@Ze _ _ _ _ (@Zd _ _ _ _ _ _ _ _ Zv (@Zd _ _ _ _ _ _ _ _ Zv Z3 (@Zd _ _ _ _ _ _ _ _ X9 (Z5 aq hr (@Z0 _ _ _ _ _ (pv 0) (@Z0 _ _ _ _ _ (@Zd _ _ _ _ _ _ _ _ O0 Z3 Z3) Z1 (by rfl)) (by rfl))) (@Zd _ _ _ _ _ _ _ _ O0 Z3 Z3))) (Z5 aq hr (@Z0 _ _ _ _ _ (pv 0) (@Z0 _ _ _ _ _ (@Zd _ _ _ _ _ _ _ _ O0 Z3 Z3) Z1 (by rfl)) (by rfl)))))) Zq)
 (@Z6 _ _ _ (@Ze _ _ _ _ (@Zd _ _ _ _ _ _ _ _ Zv Z3 (Z5 aq hr (@Z0 _ _ _ _ _ (pv 0) (@Z0 _ _ _ _ _ (@Zz _ _ _ _ _ _ _ Ym (@Yy _ _ _ _ (@Z0 _ _ _ _ _ Z3 (@Z0 _ _ _ _ _ Z3 (@Z0 _ _ _ _ _ Z3 (@Z0 _ _ _ _ _ Z3 Z1 (by rfl)) (by rfl)) (by rfl)) (by rfl))) (@Zd _ _ _ _ _ _ _ _ Xh (pv 1) Z3) (fun _ _=>rfl)) Z1 (by rfl)) (by rfl)))))))),?_⟩
 refine ⟨_,rfl,a,S,ns,8,rfl,hp,Vk rfl,ltI rfl,fun way H1 w0 w1 hp1 g1=>?_⟩
 refine ⟨_,rfl,rfl,_,rfl,Tp (fun c=>?_) (fun c=>?_)⟩
 ·refine ⟨_,rfl,_,_,rfl,rfl,pT rfl rfl rfl,a,S,ns,_,rfl,hp1,Vk rfl,ltI rfl,fun d1 H2 x0 x1 hp2 g2=>⟨_,_,rfl,rfl,pT rfl rfl rfl,?_⟩⟩
  have x1:d1<1000000:=x1
  refine ⟨_,_,rfl,rfl,Or.inl ⟨by omega,by omega⟩,_,_,rfl,rfl,_,rfl,_,_,rfl,rfl,pT rfl rfl rfl,a,S,ns,_,rfl,hp2,Vk rfl,ltI rfl,fun d2 H3 y0 y1 hp3 g3=>⟨_,_,rfl,rfl,hq _ _ (by show 1≤1+d1 * 1000000+d2;omega) hp3 (g1.trans (g2.trans g3))⟩⟩
 ·refine ⟨_,rfl,leN rfl,fun p np=>⟨_,rfl,_,_,rfl,rfl,Vk rfl,?_⟩⟩
  have e_p:(upd H1 p (.lst [.int 1,.int 3,.int 3,.int 9])) p=some (.lst [.int 1,.int 3,.int 3,.int 9]):=Z4
  have m0:=Int.emod_nonneg way (show (4:Int)≠0 by decide)
  have m1:=Int.emod_lt_of_pos way (show (0:Int)<4 by decide)
  obtain ⟨v,hv,mv⟩:=kZ (d:=way % 4) e_p m0 m1
  obtain ⟨z,rfl,z0,z1⟩:∃z:Int,v=.int z∧0<z∧z<10:=by
   simp only [List.mem_cons,List.not_mem_nil,or_false] at mv
   rcases mv with rfl | rfl | rfl | rfl <;> exact ⟨_,rfl,by decide,by decide⟩
  refine ⟨p,_,_,_,rfl,rfl,SqL.of e_p,hv,a,S,ns,z,rfl,hp1.laid np,z0,by omega,fun d H3 y0 y1 hp3 g3=>⟨_,_,rfl,rfl,hq _ _ (by omega) hp3 (g1.trans ((hp1.grw (Z7 np _)).trans g3))⟩⟩
end
end K26
namespace K26
open PySem L2 Ld
def i6:Sp:=fun vs H Q _=>∃(q:Addr) (room deep total:Int) (ps:Sps),vs=[.ref q]∧LadAt H q room deep total ps∧1≤room∧room≤20∧deep≤20∧Kok deep (ps.map (·.1))∧ps.length<200∧
 ∀(r:Addr) (H':Hp) (fs ps':Sps),Same H H'→LadAt H' r room deep total (ba ps')→Stl deep (total / room) ps fs ps'→Kok deep (ps'.map (·.1))→ps'.length≤ps.length→Q (.ref r) H'
section
variable {P:Program} {w:World} {K:W.Frag} {mg:Str→Option Value} {base:Heap} {f:Addr} {fd:FuncData}
theorem rW (dU:Has P w K mg base "settling_of" 4 ["ladder"] rc) (F:Fun K "settled" "settled" bV f fd):FnOk P w K mg base CX0 5 f fd ["ladder"] i6:=by
 refine F.ok gy (fun vs H Q E h=>?_) (fun cdv A outer s H vs Q E hr h=>?_)
 ·obtain ⟨q,room,deep,total,ps,rfl,_⟩:=h
  rfl
 obtain ⟨q,room,deep,total,ps,rfl,lad,r0,r1,d1,kok,pl,hq⟩:=h
 refine ⟨_,(@Z6 _ _ _ (@Ze _ _ _ _ (@Zz _ _ _ _ _ _ _ Yg (Z5 dU hr (@Z0 _ _ _ _ _ (pv 0) Z1 (by rfl))) Z3 (fun _ _=>rfl)))),?_⟩
 exact ⟨_,rfl,q,room,deep,total,ps,rfl,lad,r0,r1,d1,kok,pl,fun t r l H' fs ps' g e_t nl lad' fa f1 st ok' pl'=>⟨t,_,0,_,rfl,rfl,SqT.of e_t,rfl,hq r H' fs ps' g lad' st ok' pl'⟩⟩
end
end K26
namespace K26
open PySem L2 Ld
def aS (k:Int×Int):Int:=k.2 * 2 ^ k.1.toNat
def aO (k:Int×Int):Int:=(k.2+1) * 2 ^ k.1.toNat - 1
def i7:Sp:=fun vs H Q _=>∃(p:Addr) (k:Int×Int),vs=[.ref p]∧KAt H p k∧0≤k.1∧k.1≤20∧0≤k.2∧k.2≤1000001∧Q (.int (aS k)) H
def fW:Sp:=fun vs H Q _=>∃(p:Addr) (k:Int×Int),vs=[.ref p]∧KAt H p k∧0≤k.1∧k.1≤20∧0≤k.2∧k.2≤1000000∧∀H',Same H H'→Q (.int (aO k)) H'
def uV:Sp:=fun vs H Q _=>∃(room deep:Int),vs=[.int room,.int deep]∧∀(q:Addr) (H':Hp),Same H H'→LadAt H' q room deep 0 []→Q (.ref q) H'
def uC:Sp:=fun vs H Q _=>∃(r:Addr) (room deep:Int) (t:Th),vs=[.int room,.int deep,.ref r]∧H r=some (.tup t.vs)∧ThL deep t∧0≤deep∧deep≤20∧∀(q:Addr) (H':Hp),Same H H'→LadAt H' q room deep t.many [((0,t.num),t.many)]→Q (.ref q) H'
def u6:Sp:=fun vs H Q _=>∃(c1 c2:Addr) (as bs:List Addr) (xs ys:Sps),vs=[.ref c1,.ref c2]∧H c1=some (.tup (as.map V.ref))∧Paired (FT H) as xs∧H c2=some (.tup (bs.map V.ref))∧Paired (FT H) bs ys∧(xs.map (·.1)).Nodup∧xs.length+ys.length≤500∧∀(d:Addr) (H':Hp),Same H H'→H' d=some (.dT (ao (bd xs ys)))→Q (.ref d) H'
def vb:Sp:=fun vs H Q _=>∃(q1 q2:Addr) (room deep s1 s2:Int) (xs ys:Sps),vs=[.ref q1,.ref q2]∧LadAt H q1 room deep s1 xs∧LadAt H q2 room deep s2 ys∧(xs.map (·.1)).Nodup∧xs.length+ys.length<200∧∀(q:Addr) (H':Hp),Same H H'→LadAt H' q room deep (s1+s2) (ba (bd xs ys))→Q (.ref q) H'
def jI:Sp:=fun vs H Q _=>∃(q1 q2:Addr) (room deep:Int) (xs ys:Sps),vs=[.ref q1,.ref q2]∧LadAt H q1 room deep (ai xs) xs∧LadAt H q2 room deep (ai ys) ys∧Pok deep xs∧Pok deep ys∧1≤room∧room≤20∧deep≤20∧xs.length+ys.length<200∧∀(q:Addr) (H':Hp),Same H H'→LadAt H' q room deep (ai (a_ room deep xs ys)) (a_ room deep xs ys)→Q (.ref q) H'
def sq:Sp:=fun vs H Q _=>∃(v:V) (room deep:Int) (ts:List Th),vs=[.int room,.int deep,v]∧DV H v (cK ts)∧(∀t∈ts,ThL deep t)∧1≤room∧room≤20∧0≤deep∧deep≤20∧ts.length<151∧∀(q:Addr) (H':Hp),Same H H'→LadAt H' q room deep (ai (cr room deep ts)) (cr room deep ts)→Q (.ref q) H'
theorem lb (a b:Int):(PyData.tuple [.int a,.int b]).canLay0=true∧(PyData.tuple [.int a,.int b]).depth≤3:=by
 refine ⟨?_,?_⟩
 ·simp [PyData.canLay0,PyData.canLayAll0]
 ·simp [PyData.depth,PyData.depthAll]
section
variable {P:Program} {w:World} {K:W.Frag} {mg:Str→Option Value} {base:Heap} {f:Addr} {fd:FuncData}
theorem N8 (F:Fun K "first_of" "first_of" bH f fd):FnOk P w K mg base CX0 1 f fd ["stretch"] i7:=by
 refine F.ok Vj (fun vs H Q E h=>?_) (fun cdv A outer s H vs Q E hr h=>?_)
 ·obtain ⟨p,k,rfl,_⟩:=h
  rfl
 obtain ⟨p,k,rfl,e,h0,h1,i0,i1,hq⟩:=h
 refine ⟨_,(@Z2 _ _ _ _ _ (Yn (pv 0) (Yo rfl (Za (Z9 (i:=1) Vj.nd rfl (Or.inl rfl)) (Za (Z9 (i:=2) Vj.nd rfl (Or.inl rfl)) Zw))))
 (@Z6 _ _ _ (@Ze _ _ _ _ (@Zd _ _ _ _ _ _ _ _ hE (pv 2) (pv 1))))),?_⟩
 exact ⟨_,rfl,p,_,rfl,SqT.of e,rfl,_,_,rfl,_,_,rfl,rfl,_,rfl,_,rfl,_,_,rfl,rfl,⟨by omega,by omega,by omega⟩,hq⟩
theorem h_ (fT:Has P w K mg base "first_of" 1 ["stretch"] i7) (F:Fun K "last_of" "last_of" bQ f fd):FnOk P w K mg base CX0 2 f fd ["stretch"] fW:=by
 refine F.ok Ul (fun vs H Q E h=>?_) (fun cdv A outer s H vs Q E hr h=>?_)
 ·obtain ⟨p,k,rfl,_⟩:=h
  rfl
 obtain ⟨p,k,rfl,e,h0,h1,i0,i1,hq⟩:=h
 refine ⟨_,(@Z2 _ _ _ _ _ (Yn (pv 0) (Yo rfl (Za (Z9 (i:=1) Ul.nd rfl (Or.inl rfl)) (Za (Z9 (i:=2) Ul.nd rfl (Or.inl rfl)) Zw))))
 (@Z6 _ _ _ (@Ze _ _ _ _ (@Zd _ _ _ _ _ _ _ _ Wh (Z5 fT hr (@Z0 _ _ _ _ _ (@Y1 _ _ _ _ _ (@Z0 _ _ _ _ _ (pv 1) (@Z0 _ _ _ _ _ (@Zd _ _ _ _ _ _ _ _ Zv (pv 2) Z3) Z1 (by rfl)) (by rfl))) Z1 (by rfl))) Z3)))),?_⟩
 exact ⟨_,rfl,p,_,rfl,SqT.of e,rfl,_,_,rfl,_,_,rfl,rfl,_,rfl,_,rfl,_,_,rfl,rfl,leN rfl,fun q nq=>⟨q,(k.1,k.2+1),rfl,Z4,h0,h1,by show 0≤k.2+1;omega,by show k.2+1≤_;omega,_,_,rfl,rfl,hq _ (Z7 nq _)⟩⟩
theorem uI (F:Fun K "empty_ladder" "empty_ladder" aH f fd):FnOk P w K mg base CX0 1 f fd ["room","deep"] uV:=by
 refine F.ok Sj (fun vs H Q E h=>?_) (fun cdv A outer s H vs Q E hr h=>?_)
 ·obtain ⟨room,deep,rfl,_⟩:=h
  rfl
 obtain ⟨room,deep,rfl,hq⟩:=h
 refine ⟨_,(@Z6 _ _ _ (@Ze _ _ _ _ (@Y1 _ _ _ _ _ (@Z0 _ _ _ _ _ (pv 0) (@Z0 _ _ _ _ _ (pv 1) (@Z0 _ _ _ _ _ (@Y1 _ _ _ _ _ Z1) (@Z0 _ _ _ _ _ Z3 Z1 (by rfl)) (by rfl)) (by rfl)) (by rfl))))),?_⟩
 have gg:Same H H:=Same.refl _
 refine ⟨_,rfl,_,rfl,leN rfl,?_⟩
 intro c n_c
 generalize hz:upd _ c _=H1
 have gz:=Zj hz n_c
 have e_c:=Zr hz
 clear hz
 have gg:=gg.trans gz
 refine ⟨leN rfl,?_⟩
 intro q n_q
 generalize hz:upd _ q _=H2
 have gz:=Zj hz n_q
 have e_q:=Zr hz
 clear hz
 have gg:=gg.trans gz
 have e_c:=gz _ _ e_c
 exact hq q _ gg ⟨c,[],e_q,e_c,.nil⟩
theorem vQ (c_:Has P w K mg base "last_of" 2 ["stretch"] fW) (F:Fun K "thing_ladder" "thing_ladder" aJ f fd):FnOk P w K mg base CX0 3 f fd ["room","deep","thing"] uC:=by
 refine F.ok Yk (fun vs H Q E h=>?_) (fun cdv A outer s H vs Q E hr h=>?_)
 ·obtain ⟨r,room,deep,t,rfl,_⟩:=h
  rfl
 obtain ⟨r,room,deep,t,rfl,e_r,ok,d0,d1,hq⟩:=h
 refine ⟨_,(@Z2 _ _ _ _ _ (Yn (pv 2) (Yo rfl (Za (Z9 (i:=3) Yk.nd rfl (Or.inl rfl)) (Za (Z9 (i:=4) Yk.nd rfl (Or.inl rfl)) (Za (Z9 (i:=5) Yk.nd rfl (Or.inl rfl)) (Za (Z9 (i:=6) Yk.nd rfl (Or.inl rfl)) Zw))))))
 (@Z2 _ _ _ _ _ (@Y7 _ _ _ _ _ _ _ _ (@Zk _ _ _ _ _ _ _ _ Ti (pv 5) (Z5 c_ hr (@Z0 _ _ _ _ _ (@Y1 _ _ _ _ _ (@Z0 _ _ _ _ _ (pv 1) (@Z0 _ _ _ _ _ Z3 Z1 (by rfl)) (by rfl))) Z1 (by rfl))) (Zl _)) (@Z6 _ _ _ N1) Zq)
 (@Z6 _ _ _ (@Ze _ _ _ _ (@Y1 _ _ _ _ _ (@Z0 _ _ _ _ _ (pv 0) (@Z0 _ _ _ _ _ (pv 1) (@Z0 _ _ _ _ _ (@Y1 _ _ _ _ _ (@Z0 _ _ _ _ _ (@Y1 _ _ _ _ _ (@Z0 _ _ _ _ _ (@Y1 _ _ _ _ _ (@Z0 _ _ _ _ _ Z3 (@Z0 _ _ _ _ _ (pv 5) Z1 (by rfl)) (by rfl))) (@Z0 _ _ _ _ _ (pv 6) Z1 (by rfl)) (by rfl))) Z1 (by rfl))) (@Z0 _ _ _ _ _ (pv 6) Z1 (by rfl)) (by rfl)) (by rfl)) (by rfl))))))),?_⟩
 have gg:Same H H:=Same.refl _
 refine ⟨_,rfl,r,_,rfl,SqT.of e_r,rfl,_,_,rfl,_,_,rfl,_,_,rfl,_,_,rfl,rfl,?_⟩
 refine ⟨_,rfl,_,rfl,leN rfl,?_⟩
 intro k n_k
 generalize hz:upd _ k _=H1
 have gz:=Zj hz n_k
 have e_k:=Zr hz
 clear hz
 have gg:=gg.trans gz
 refine ⟨k,(deep,0),rfl,e_k,d0,d1,Int.le_refl _,by show (0:Int)≤_;omega,fun H2 g2=>⟨_,_,rfl,rfl,_,rfl,?_⟩⟩
 have gg:=gg.trans g2
 have lt:¬t.num > aO (deep,0):=by
  have:=ok.2.1
  show ¬(t.num > (0+1) * 2 ^ deep.toNat - 1)
  rw [Int.zero_add,Int.one_mul]
  omega
 rw [decide_eq_false lt]
 refine Y5 ?_
 refine ⟨_,rfl,_,rfl,_,rfl,leN rfl,?_⟩
 intro a n_a
 generalize hz:upd _ a _=G1
 have gz:=Zj hz n_a
 have e_a:=Zr hz
 clear hz
 have gg:=gg.trans gz
 refine ⟨_,rfl,leN rfl,?_⟩
 intro b n_b
 generalize hz:upd _ b _=G2
 have gz:=Zj hz n_b
 have e_b:=Zr hz
 clear hz
 have gg:=gg.trans gz
 have e_a:=gz _ _ e_a
 refine ⟨leN rfl,?_⟩
 intro c n_c
 generalize hz:upd _ c _=G3
 have gz:=Zj hz n_c
 have e_c:=Zr hz
 clear hz
 have gg:=gg.trans gz
 have e_a:=gz _ _ e_a
 have e_b:=gz _ _ e_b
 refine ⟨_,rfl,leN rfl,?_⟩
 intro q n_q
 generalize hz:upd _ q _=G4
 have gz:=Zj hz n_q
 have e_q:=Zr hz
 clear hz
 have gg:=gg.trans gz
 have e_a:=gz _ _ e_a
 have e_b:=gz _ _ e_b
 have e_c:=gz _ _ e_c
 exact hq q _ gg ⟨c,[b],e_q,e_c,.cons ⟨a,e_b,e_a⟩ .nil⟩
theorem uR (bL:mg "dict"=none) (F:Fun K "added_counts" "added_counts" aI f fd):FnOk P w K mg base CX0 1 f fd ["one","other"] u6:=by
 refine F.ok Yu (fun vs H Q E h=>?_) (fun cdv A outer s H vs Q E hr h=>?_)
 ·obtain ⟨c1,c2,as,bs,xs,ys,rfl,_⟩:=h
  rfl
 obtain ⟨c1,c2,as,bs,xs,ys,rfl,e1,p1,e2,p2,nx,xl,hq⟩:=h
 refine ⟨_,(@Z2 _ _ _ _ _ (@Zg _ _ 2 _ _ _ _ Yu.nd rfl (Or.inl rfl) (X2 (Wd rfl hr.units) rfl bL PyProof.Rows.boot_dict (@Z0 _ _ _ _ _ (pv 0) Z1 (by rfl))) (by rfl) (by first | exact .inl rfl | exact .inr rfl)) Zf),?_⟩
 have nd:((ao xs).map (·.1)).Nodup:=by
  rw [Vx]
  exact List.pairwise_map.mpr (nx.imp fun h e=>h (Vc e))
 refine ⟨_,rfl,c1,_,_,rfl,e1,Ob p1,by rw [Yi];omega,fun d n_d=>?_⟩
 rw [Tk nd]
 have sm:=Z7 n_d (.dT (ao xs))
 have ed:(upd H d (.dT (ao xs))) d=some (.dT (ao xs)):=Z4
 generalize upd H d (.dT (ao xs))=H1 at sm ed ⊢
 have bl:=Paired.length p2
 refine ⟨_,(@Z2 _ _ _ _ _ (Xv PassesOwn.never rfl (Uo (pv 1)) (Yo rfl (Za (Z9 (i:=3) Yu.nd rfl (Or.inl rfl)) (Za (Z9 (i:=4) Yu.nd rfl (Or.inl rfl)) Zw)))
 (@Z6 _ _ _ (Ta (Yp hr) (pv 2) (pv 3) (@Zd _ _ _ _ _ _ _ _ Zv (Xw (Yp hr) (pv 2) (pv 3) Z3 ⟨rfl,rfl,rfl,rfl⟩) (pv 4)) rfl))) Zf),?_⟩
 refine ⟨_,rfl,c2,rfl,⟨_,SqT.of (sm _ _ e2)⟩,?_⟩
 refine eE (xs:=bs.map V.ref) (fun i σ H'=>∃(o3 o4:Option V),σ=[some (.ref c1),some (.ref c2),some (.ref d),o3,o4]∧Same H H'∧H' d=some (.dT (ao (bd xs (ys.take i))))∧(bd xs (ys.take i)).length≤xs.length+i) ⟨_,_,rfl,sm,ed,Nat.le_refl _⟩ ?_ ?_ ?_
 ·rintro i σ H' _ ⟨_,_,_,g,_⟩
  exact SqT.of (g _ _ e2)
 ·rintro i x σ H' N B1 R hN hR hx ⟨o3,o4,rfl,g,ed,al⟩
  obtain ⟨a,p,rfl,hp,b,e_a,e_b⟩:=Ut p2 hx
  have il:i<ys.length:=(List.getElem?_eq_some_iff.mp hp).1
  have e_a:=g _ _ e_a
  have e_b:KAt H' b p.1:=g _ _ e_b
  have st:bd xs (ys.take (i+1))=av (bd xs (ys.take i)) p.1 (cnt (bd xs (ys.take i)) p.1+p.2):=by rw [Yj hp,eV]
  rw [st] at hN
  generalize bd xs (ys.take i)=zs at ed al hN
  have l1:=T9 zs p.1 (cnt zs p.1+p.2)
  refine ⟨a,_,rfl,SqT.of e_a,rfl,_,_,rfl,_,_,rfl,rfl,?_⟩
  refine ⟨_,rfl,d,rfl,.inr ⟨_,.inl ed⟩,_,rfl,_,Yv ed e_b,_,rfl,_,p.2,W2 _ _,rfl,_,rfl,_,rfl,d,_,rfl,DPut.t (k:=kk p.1) ed e_b (Zp (by rw [Yi];omega)),?_⟩
  refine hN _ _ ⟨_,_,rfl,fun x w e=>?_,by rw [←Pw];exact Z4,by omega⟩
  rw [Zb (Zi e n_d)]
  exact g _ _ e
 ·rintro σ H' ⟨o3,o4,rfl,g,ed,_⟩
  rw [List.length_map,bl,List.take_length] at ed
  exact ⟨_,(@Z6 _ _ _ (@Ze _ _ _ _ (pv 2))),_,rfl,hq d _ g ed⟩
theorem uZ (aw:mg "sorted"=none) (aA:mg "tuple"=none) (dM:Has P w K mg base "added_counts" 1 ["one","other"] u6) (F:Fun K "added_ladder" "added_ladder" aL f fd):FnOk P w K mg base CX0 2 f fd ["one","other"] vb:=by
 refine F.ok Y8 (fun vs H Q E h=>?_) (fun cdv A outer s H vs Q E hr h=>?_)
 ·obtain ⟨q1,q2,room,deep,s1,s2,xs,ys,rfl,_⟩:=h
  rfl
 obtain ⟨q1,q2,room,deep,s1,s2,xs,ys,rfl,l1,l2,nx,xl,hq⟩:=h
 obtain ⟨c1,as,e1,f1,p1⟩:=l1.at_
 obtain ⟨c2,bs,e2,f2,p2⟩:=l2.at_
 refine ⟨_,(@Z2 _ _ _ _ _ (@Y7 _ _ _ _ _ _ _ _ (@Zk _ _ _ _ _ _ _ _ (O1 hr.units) (Vl jC (pv 0) Te (Td Z3)) (Vl jC (pv 1) Te (Td Z3)) (Zl _)) (@Z6 _ _ _ N1) Zq) Zf),?_⟩
 refine ⟨_,rfl,_,rfl,q1,_,rfl,e1,fun u1 H1 g1 d1=>⟨_,rfl,_,rfl,q2,_,rfl,g1 _ _ e2,fun u2 H2 g2 d2=>?_⟩⟩
 have ll:=lb room deep
 have x1:DV H2 (.ref u1) (.tuple [.int room,.int deep]):=.tup (g2 _ _ d1) (.cons (.int _) (.cons (.int _) .nil))
 have x2:DV H2 (.ref u2) (.tuple [.int room,.int deep]):=.tup d2 (.cons (.int _) (.cons (.int _) .nil))
 refine ⟨_,_,x1,x2,X0 ll (by decide),X0 ll (by decide),_,rfl,?_⟩
 rw [Qa ll]
 have gg:=g1.trans g2
 refine Y5 ⟨_,(@Z2 _ _ _ _ _ (Yn (pv 0) (Yo rfl (Za (Z9 (i:=2) Y8.nd rfl (Or.inl rfl)) (Za (Z9 (i:=3) Y8.nd rfl (Or.inl rfl)) (Za (Z9 (i:=4) Y8.nd rfl (Or.inl rfl)) (Za (Z9 (i:=5) Y8.nd rfl (Or.inl rfl)) Zw)))))) Zf),?_⟩
 refine ⟨_,rfl,q1,_,rfl,SqT.of (gg _ _ e1),rfl,_,_,rfl,_,_,rfl,_,_,rfl,_,_,rfl,rfl,?_⟩
 refine ⟨_,(@Z2 _ _ _ _ _ (@Zg _ _ 6 _ _ _ _ Y8.nd rfl (Or.inl rfl) (Z5 dM hr (@Z0 _ _ _ _ _ (pv 4) (@Z0 _ _ _ _ _ (@Zz _ _ _ _ _ _ _ Yg (pv 1) Z3 (fun _ _=>rfl)) Z1 (by rfl)) (by rfl))) (by rfl) (by first | exact .inl rfl | exact .inr rfl)) Zf),?_⟩
 refine ⟨_,rfl,_,rfl,q2,_,2,_,rfl,rfl,SqT.of (gg _ _ e2),rfl,c1,c2,as,bs,xs,ys,rfl,gg _ _ f1,Paired.mapP p1 fun _ _ f=>X7 gg f,gg _ _ f2,Paired.mapP p2 fun _ _ f=>X7 gg f,nx,by omega,fun d H3 g3 ed=>?_⟩
 have gg:=gg.trans g3
 have al:=R0 ys xs
 refine ⟨_,(@Z6 _ _ _ (@Ze _ _ _ _ (@Y1 _ _ _ _ _ (@Z0 _ _ _ _ _ (pv 2) (@Z0 _ _ _ _ _ (pv 3) (@Z0 _ _ _ _ _ (X2 Ui rfl aA PyProof.Rows.boot_tuple (@Z0 _ _ _ _ _ (Zh (Sh rfl hr.units) rfl aw PyProof.Rows.boot_sorted (@Z0 _ _ _ _ _ (Up PySem.F.plainAttrs_dict PySem.F.slot_dict_items PySem.F.type_dict_items P0 (pv 6)) Z1 (by rfl))) Z1 (by rfl))) (@Z0 _ _ _ _ _ (@Zd _ _ _ _ _ _ _ _ Zv (pv 5) (@Zz _ _ _ _ _ _ _ Yg (pv 1) Z3 (fun _ _=>rfl))) Z1 (by rfl)) (by rfl)) (by rfl)) (by rfl))))),?_⟩
 refine ⟨_,rfl,_,rfl,_,rfl,gh ed,d,_,rfl,rfl,ed,?_⟩
 intro v n_v
 generalize hz:upd _ v _=H4
 have gz:=Zj hz n_v
 have e_v:=Zr hz
 clear hz
 have gg:=gg.trans gz
 have ed:=gz _ _ ed
 refine ⟨v,d,_,rfl,e_v,ed,by omega,fun H6 ds g6 pr6 l nl _=>?_⟩
 have gz:=Z7 nl (.lst (ds.map V.ref))
 have e_l:(upd H6 l (.lst (ds.map V.ref))) l=some (.lst (ds.map V.ref)):=Z4
 have gg:=gg.trans (g6.trans gz)
 have pr6:=Paired.mapP pr6 fun _ _ f=>X7 gz f
 generalize upd H6 l (.lst (ds.map V.ref))=H7 at e_l gg pr6 ⊢
 refine ⟨l,_,rfl,.inl ⟨SqL.of e_l,?_⟩⟩
 intro c n_c
 generalize hz:upd _ c _=H8
 have gz:=Zj hz n_c
 have e_c:=Zr hz
 clear hz
 have gg:=gg.trans gz
 have pr6:=Paired.mapP pr6 fun _ _ f=>X7 gz f
 refine ⟨_,rfl,_,rfl,q2,_,3,_,rfl,rfl,SqT.of (gg _ _ e2),rfl,_,_,rfl,rfl,leN rfl,?_⟩
 intro q n_q
 generalize hz:upd _ q _=H9
 have gz:=Zj hz n_q
 have e_q:=Zr hz
 clear hz
 have gg:=gg.trans gz
 have e_c:=gz _ _ e_c
 exact hq q _ gg ⟨c,ds,e_q,e_c,Paired.mapP pr6 fun _ _ f=>X7 gz f⟩
theorem uH (dP:Has P w K mg base "added_ladder" 2 ["one","other"] vb) (dh:Has P w K mg base "settled" 5 ["ladder"] i6) (F:Fun K "merged_ladder" "merged_ladder" az f fd):FnOk P w K mg base CX0 6 f fd ["one","other"] jI:=by
 refine F.ok S1 (fun vs H Q E h=>?_) (fun cdv A outer s H vs Q E hr h=>?_)
 ·obtain ⟨q1,q2,room,deep,xs,ys,rfl,_⟩:=h
  rfl
 obtain ⟨q1,q2,room,deep,xs,ys,rfl,l1,l2,ox,oy,r0,r1,d1,xl,hq⟩:=h
 refine ⟨_,(@Z6 _ _ _ (@Ze _ _ _ _ (Z5 dh hr (@Z0 _ _ _ _ _ (Z5 dP hr (@Z0 _ _ _ _ _ (pv 0) (@Z0 _ _ _ _ _ (pv 1) Z1 (by rfl)) (by rfl))) Z1 (by rfl))))),?_⟩
 have al:=R0 ys xs
 have po:=Ue ox oy.each
 have pm:=Y0 (bd xs ys)
 refine ⟨_,rfl,_,rfl,q1,q2,room,deep,_,_,xs,ys,rfl,l1,l2,ox.kok.nd,xl,fun q H1 g1 lad=>?_⟩
 refine ⟨q,room,deep,_,_,rfl,lad,r0,r1,d1,po.kok.perm (pm.map _),by rw [pm.length_eq];omega,fun r H2 fs ps' g2 lad2 st _ _=>hq r _ (g1.trans g2) ?_⟩
 have es:ai xs+ai ys=ai (bd xs ys):=(Sz ox.kok.nd).symm
 rw [es] at st lad2
 have e:=(jq st pm (po.perm pm).kok.nd).1
 have e2:a_ room deep xs ys=ba ps':=e
 have e3:ai (ba ps')=ai (bd xs ys):=by
  rw [Xe (Y0 ps'),(Pp st (po.perm pm).kok.nd).2.2,Xe pm]
 rw [e2,e3]
 exact lad2
theorem vm (dD:Has P w K mg base "empty_ladder" 1 ["room","deep"] uV) (bj:Has P w K mg base "merged_ladder" 6 ["one","other"] jI) (dh:Has P w K mg base "settled" 5 ["ladder"] i6) (dB:Has P w K mg base "thing_ladder" 3 ["room","deep","thing"] uC)
  (F:Fun K "ladder_of" "ladder_of" bA f fd):FnOk P w K mg base CX0 7 f fd ["room","deep","stream"] sq:=by
 refine F.ok Xl (fun vs H Q E h=>?_) (fun cdv A outer s H vs Q E hr h=>?_)
 ·obtain ⟨v,room,deep,ts,rfl,_⟩:=h
  rfl
 obtain ⟨v,room,deep,ts,rfl,dv,tw,r0,r1,d0,d1,tl,hq⟩:=h
 obtain ⟨b,xs,rfl,eb,qb⟩:=DV.list_inv dv
 have xl:=qb.length
 rw [List.length_map] at xl
 refine ⟨_,(@Z2 _ _ _ _ _ (@Zg _ _ 3 _ _ _ _ Xl.nd rfl (Or.inl rfl) (Z5 dD hr (@Z0 _ _ _ _ _ (pv 0) (@Z0 _ _ _ _ _ (pv 1) Z1 (by rfl)) (by rfl))) (by rfl) (by first | exact .inl rfl | exact .inr rfl)) Zf),?_⟩
 refine ⟨_,rfl,_,rfl,room,deep,rfl,fun p0 H0 s0 l0=>?_⟩
 refine ⟨_,(@Z2 _ _ _ _ _ (Xv PassesOwn.never rfl (Xb (pv 2)) (Z9 (i:=4) Xl.nd rfl (Or.inl rfl))
 (@Z6 _ _ _ (@Zg _ _ 3 _ _ _ _ Xl.nd rfl (Or.inl rfl) (Z5 bj hr (@Z0 _ _ _ _ _ (pv 3) (@Z0 _ _ _ _ _ (Z5 dh hr (@Z0 _ _ _ _ _ (Z5 dB hr (@Z0 _ _ _ _ _ (pv 0) (@Z0 _ _ _ _ _ (pv 1) (@Z0 _ _ _ _ _ (pv 4) Z1 (by rfl)) (by rfl)) (by rfl))) Z1 (by rfl))) Z1 (by rfl)) (by rfl))) (by rfl) (by first | exact .inl rfl | exact .inr rfl)))) Zf),?_⟩
 refine ⟨_,rfl,b,rfl,⟨_,SqL.of (s0 _ _ eb)⟩,?_⟩
 refine Xs (xs:=xs) (fun n σ H'=>∃(o4:Option V) (p:Addr),σ=[some (.int room),some (.int deep),some (.ref b),some (.ref p),o4]∧Same H H'∧LadAt H' p room deep (ai (cr room deep (ts.take n))) (cr room deep (ts.take n))) ⟨_,p0,rfl,s0,l0⟩ ?_ ?_ ?_
 ·rintro n σ H' _ ⟨_,_,_,g,_⟩
  exact SqL.of (g _ _ eb)
 ·rintro n x σ H' N B1 R hN hR hx ⟨o4,p,rfl,g,dp⟩
  obtain ⟨t,c,ht,rfl,ec,hm⟩:=DVs.th_at qb hx
  have nl:n<ts.length:=(List.getElem?_eq_some_iff.mp ht).1
  have twn:∀u∈ts.take n,ThL deep u:=fun u hu=>tw u (List.mem_of_mem_take hu)
  obtain ⟨oka,_,len⟩:=Ss (room:=room) d0 twn
  rw [List.length_take] at len
  have e:cr room deep (ts.take (n+1))=a_ room deep (cr room deep (ts.take n)) (thL room deep t):=by rw [Yj ht,jN]
  rw [e] at hN
  generalize cr room deep (ts.take n)=la at dp oka len hN
  have ot:=So d0 (tw t hm)
  obtain ⟨okt,sut,lent⟩:=Pl (room:=room) d0 (tw t hm)
  refine ⟨_,rfl,_,rfl,_,rfl,_,rfl,c,room,deep,t,rfl,g _ _ ec,tw t hm,d0,d1,fun q1 H1 s1 l1=>?_⟩
  refine ⟨q1,room,deep,t.many,_,rfl,l1,r0,r1,d1,ot.kok,by show 1<200;omega,fun r H2 fs ps' s2 l2 st _ _=>?_⟩
  have e2:thL room deep t=ba ps':=(Vz st ot.kok.nd).1
  rw [←e2] at l2
  rw [←sut] at l2
  refine ⟨p,r,room,deep,la,thL room deep t,rfl,dp.mono (s1.trans s2),l2,oka.pok,okt.pok,r0,r1,d1,by omega,fun q H3 s3 l3=>?_⟩
  exact hN _ _ ⟨_,q,rfl,g.trans (s1.trans (s2.trans s3)),l3⟩
 ·rintro σ H' ⟨o4,p,rfl,g,dp⟩
  rw [xl,List.take_length] at dp
  exact ⟨_,(@Z6 _ _ _ (@Ze _ _ _ _ (pv 3))),_,rfl,hq p _ g dp⟩
end
def au:Tr→List (Option (List Th))
 | .leaf ts=>[some ts]
 | .node l r=>au l++au r++[none]
def dE:Option Tr→List (Option (List Th))
 | none=>[none]
 | some t=>au t
theorem Vy:∀t:Tr,(au t).length=t.size
 | .leaf ts=>rfl
 | .node l r=>by
  show (au l++au r++[none]).length=l.size+r.size+1
  rw [List.length_append,List.length_append,Vy l,Vy r]
  rfl
def wtO:Option Tr→Nat
 | none=>1
 | some t=>2 * t.size
abbrev wsz (tk:List (Option Tr)):Nat:=(tk.map wtO).sum
theorem Pg:∀tk:List (Option Tr),tk.length≤wsz tk
 | []=>Nat.le_refl _
 | none::r=>by
  have:=Pg r
  simp only [wsz,List.map_cons,List.sum_cons,List.length_cons,wtO] at *
  omega
 | some t::r=>by
  have:=Pg r
  have:=t.size_pos
  simp only [wsz,List.map_cons,List.sum_cons,List.length_cons,wtO] at *
  omega
def WV (H:Hp) (v:V):Option Tr→Prop
 | none=>v=.non
 | some t=>DV H v t.D
def SV (H:Hp) (v:V):Option (List Th)→Prop
 | none=>v=.non
 | some ts=>DV H v (cK ts)
theorem Rj {α:Type} {R:Hp→V→α→Prop} (hm:∀{H H':Hp},Same H H'→∀{v x},R H v x→R H' v x) {H H':Hp} (g:Same H H'):∀{vs:List V} {xs:List α},Paired (R H) vs xs→Paired (R H') vs xs
 | _,_,.nil=>.nil
 | _,_,.cons h r=>.cons (hm g h) (Rj hm g r)
theorem Xn {α β:Type} {R:α→β→Prop}:∀{xs us:List α} {ys ws:List β},Paired R xs ys→Paired R us ws→Paired R (xs++us) (ys++ws)
 | _,_,_,_,.nil,h=>h
 | _,_,_,_,.cons a r,h=>.cons a (Xn r h)
theorem Tc {α β:Type} {R:α→β→Prop}:∀{ys:List β} {xs:List α} {y:β},Paired R xs (ys++[y])→∃xs' x,xs=xs'++[x]∧Paired R xs' ys∧R x y
 | [],_,_,.cons a .nil=>⟨[],_,rfl,.nil,a⟩
 | _::_,_,_,.cons a r=>by
  obtain ⟨xs',x,e,r',h⟩:=Tc r
  exact ⟨_::xs',x,by rw [e];rfl,.cons a r',h⟩
theorem U2 {α β:Type} {R:α→β→Prop}:∀{xs:List α} {ys:List β},Paired R xs ys→xs.length=ys.length
 | _,_,.nil=>rfl
 | _,_,.cons _ r=>congrArg (·+1) (U2 r)
theorem iZ {α β:Type} {R:α→β→Prop}:∀{xs:List α} {ys:List β} {i:Nat} {x:α},Paired R xs ys→xs[i]?=some x→∃y,ys[i]?=some y∧R x y
 | _,_,_,_,.nil,e=>by simp at e
 | _,_,0,_,.cons a _,e=>by simp at e;subst e;exact ⟨_,rfl,a⟩
 | _,_,i+1,x,.cons _ r,e=>by
  obtain ⟨y,h1,h2⟩:=iZ (i:=i) r (by simpa using e)
  exact ⟨y,by simpa using h1,h2⟩
def jd:Sp:=fun vs H Q _=>∃(v:V) (t:Tr) (G:Hp),vs=[v]∧Same G H∧DV G v t.D∧t.size≤1000∧
 ∀(r:Addr) (ls:List V) (H':Hp),Same H H'→H r=none→H' r=some (.lst ls)→Paired (SV G) ls (au t)→Q (.ref r) H'
section
variable {P:Program} {w:World} {K:W.Frag} {mg:Str→Option Value} {base:Heap} {f:Addr} {fd:FuncData}
theorem ni (af:mg "isinstance"=none) (bE:mg "list"=none) (aF:mg "len"=none) (F:Fun K "steps_in" "steps_in" bI f fd):FnOk P w K mg base CX0 1 f fd ["tree"] jd:=by
 refine F.ok W3 (fun vs H Q E h=>?_) (fun cdv A outer s H vs Q E hr h=>?_)
 ·obtain ⟨v,t,G,rfl,_⟩:=h
  rfl
 obtain ⟨v,t,G,rfl,gG,dv,hsz,hq⟩:=h
 refine ⟨_,(@Z2 _ _ _ _ _ (@Zg _ _ 1 _ _ _ _ W3.nd rfl (Or.inl rfl) (@Yy _ _ _ _ Z1) (by rfl) (by first | exact .inl rfl | exact .inr rfl))
 (@Z2 _ _ _ _ _ (@Zg _ _ 2 _ _ _ _ W3.nd rfl (Or.inl rfl) (@Yy _ _ _ _ (@Z0 _ _ _ _ _ (pv 0) Z1 (by rfl))) (by rfl) (by first | exact .inl rfl | exact .inr rfl))
 (@Z2 _ _ _ _ _ (Ri PassesOwn.never (@Zk _ _ _ _ _ _ _ _ Ti (Zh Zu rfl aF PySem.boot_len (@Z0 _ _ _ _ _ (pv 2) Z1 (by rfl))) Z3 (Zl _)) (@Z2 _ _ _ _ _ (@Zg _ _ 3 _ _ _ _ W3.nd rfl (Or.inl rfl) (Up PySem.F.plainAttrs_list PySem.F.slot_list_pop PySem.F.type_list_pop O4 (pv 2)) (by rfl) (by first | exact .inl rfl | exact .inr rfl))
 (@Z6 _ _ _ (@Y7 _ _ _ _ _ _ _ _ (PW.pt (@W4 _ _ _ _ _ _ _ (@Zk _ _ _ _ _ _ _ _ f_ (pv 3) S5 (Zl _)) (@Wg _ _ _ _ (X3 (Zh Wc rfl af PyProof.Rows.boot_isinstance (@Z0 _ _ _ _ _ (pv 3) (@Z0 _ _ _ _ _ (W7 (v:=.ty "list") rfl bE PyProof.Rows.boot_list rfl) Z1 (by rfl)) (by rfl))))))) (@Z6 _ _ _ (W5 (Rn PySem.F.plainAttrs_list PySem.F.slot_list_append PySem.F.type_list_append Wt (pv 1) (@Z0 _ _ _ _ _ (pv 3) Z1 (by rfl))))) (@Z6 _ _ _ (W5 (Rn PySem.F.plainAttrs_list PySem.F.slot_list_extend PySem.F.type_list_extend j4 (pv 2) (@Z0 _ _ _ _ _ (@Yy _ _ _ _ (@Z0 _ _ _ _ _ S5 (@Z0 _ _ _ _ _ (@Zz _ _ _ _ _ _ _ Yg (pv 3) Z3 (fun _ _=>rfl)) (@Z0 _ _ _ _ _ (@Zz _ _ _ _ _ _ _ Yg (pv 3) Z3 (fun _ _=>rfl)) Z1 (by rfl)) (by rfl)) (by rfl))) Z1 (by rfl)))))))))
 (@Z6 _ _ _ (@Ze _ _ _ _ (pv 1)))))),?_⟩
 refine ⟨leN rfl,fun Fa hFa=>?_⟩
 refine ⟨_,rfl,leN rfl,fun Wa hWa=>?_⟩
 have hne:Wa≠Fa:=fun e=>by rw [e,Z4] at hWa;cases hWa
 have hWa0:H Wa=none:=by rw [Zb hne] at hWa;exact hWa
 refine ⟨fun m σ H1=>∃(ws ls:List V) (tk:List (Option Tr)) (dn:List (Option (List Th))) (o:Option V),σ=[some v,some (.ref Fa),some (.ref Wa),o]∧Same H H1∧H1 Wa=some (.lst ws)∧H1 Fa=some (.lst ls)∧
   Paired (WV G) ws tk∧Paired (SV G) ls dn∧dn++tk.reverse.flatMap dE=au t∧wsz tk+dn.length≤3000∧m=wsz tk,
  ⟨2 * t.size,[v],[],[some t],[],none,rfl,(Z7 hFa _).trans (Z7 hWa _),Z4,by rw [Zb (Ne.symm hne)];exact Z4,.cons dv .nil,.nil,by simp [dE],by simp [wsz,wtO];omega,by simp [wsz,wtO]⟩,?_⟩
 rintro m σ H1 ⟨ws,ls,tk,dn,o,rfl,g1,eW,eF,dW,dF,hsum,hlen,rfl⟩
 have dl:=U2 dW
 refine ⟨_,rfl,Wa,ws,rfl,.inl (SqL.of eW),_,_,rfl,rfl,_,rfl,?_⟩
 refine Tp (fun c=>?_) (fun c=>?_)
 ·have c:(0:Int)<(ws.length:Int):=of_decide_eq_true c
  obtain ⟨tk',t1,rfl⟩:∃tk' t1,tk=tk'++[t1]:=by
   have:tk≠[]:=fun e=>by rw [e,List.length_nil] at dl;omega
   exact ⟨tk.dropLast,tk.getLast this,(List.dropLast_concat_getLast this).symm⟩
  refine ⟨fun σ' H'=>∃m',m'<wsz (tk'++[t1])∧_,fun _ _ h=>h,?_⟩
  obtain ⟨ws',y,rfl,dW',dy⟩:=Tc dW
  refine ⟨_,rfl,.inl ⟨rfl,_,SqL.of eW⟩,Wa,_,y,rfl,rfl,eW,by simp,?_⟩
  rw [List.dropLast_concat]
  have g4:Same H (upd H1 Wa (.lst ws')):=Yx g1 hWa0
  have eW4:upd H1 Wa (.lst ws') Wa=some (.lst ws'):=Z4
  have eF4:upd H1 Wa (.lst ws') Fa=some (.lst ls):=by rw [Zb (Ne.symm hne)];exact eF
  revert g4 eW4 eF4
  generalize upd H1 Wa (.lst ws')=H4
  intro g4 eW4 eF4
  have hts:wsz (tk'++[t1])=wsz tk'+wtO t1:=by simp [wsz]
  rw [hts] at hlen
  have tl:=Pg tk'
  have dl:=U2 dW'
  have dl2:=U2 dF
  cases t1 with
  | none=>
   cases (show y=V.non from dy)
   have hlen2:wsz tk'+1+dn.length≤3000:=hlen
   refine ⟨_,rfl,rfl,_,rfl,Wy (Wy ?_)⟩
   refine ⟨_,rfl,.inl ⟨rfl,_,SqL.of eF4⟩,_,rfl,Fa,ls,_,rfl,rfl,eF4,Zp (by omega),?_⟩
   refine ⟨wsz tk',by rw [hts];show wsz tk'<wsz tk'+1;omega,ws',ls++[.non],tk',dn++[none],_,rfl,Yx g4 hFa,by rw [Zb hne];exact eW4,Z4,dW',Xn dF (.cons (show SV G .non none from rfl) .nil),?_,by rw [List.length_append];show wsz tk'+(dn.length+1)≤3000;omega,rfl⟩
   rw [←hsum]
   simp [dE]
  | some t1=>
  have hpos:=t1.size_pos
  have dy:DV G y t1.D:=dy
  cases t1 with
  | leaf ts=>
   obtain ⟨b,xs,rfl,eb,qb⟩:=DV.list_inv dy
   have hlen2:wsz tk'+2 * 1+dn.length≤3000:=hlen
   refine ⟨_,rfl,rfl,_,rfl,Y5 ?_⟩
   refine ⟨_,rfl,_,_,"list",_,rfl,TyOf.lst (g4 _ _ (gG _ _ eb)),mP,_,rfl,Wy ?_⟩
   refine ⟨_,rfl,.inl ⟨rfl,_,SqL.of eF4⟩,_,rfl,Fa,ls,_,rfl,rfl,eF4,Zp (by omega),?_⟩
   refine ⟨wsz tk',by rw [hts];show wsz tk'<wsz tk'+2 * 1;omega,ws',ls++[.ref b],tk',dn++[some ts],_,rfl,Yx g4 hFa,by rw [Zb hne];exact eW4,Z4,dW',Xn dF (.cons (show SV G (.ref b) (some ts) from dy) .nil),?_,by rw [List.length_append];show wsz tk'+(dn.length+1)≤3000;omega,rfl⟩
   rw [←hsum]
   simp [dE,au]
  | node l r=>
   obtain ⟨b,mm,x,y,rfl,eb,dx,dy2⟩:=DV.node_inv dy
   have eb4:=g4 _ _ (gG _ _ eb)
   have hlen2:wsz tk'+2 * (l.size+r.size+1)+dn.length≤3000:=hlen
   refine ⟨_,rfl,rfl,_,rfl,Y5 ?_⟩
   refine ⟨_,rfl,_,_,"list",_,rfl,TyOf.tup eb4,lT,_,rfl,Y5 ?_⟩
   refine ⟨_,rfl,.inl ⟨rfl,_,SqL.of eW4⟩,_,rfl,b,_,2,_,rfl,rfl,SqT.of eb4,fc _ _ _,_,rfl,b,_,1,_,rfl,rfl,SqT.of eb4,my _ _ _,leN rfl,fun q nq=>?_⟩
   have g5:=g4.trans (Z7 nq (.lst [.non,y,x]))
   have eW5:upd H4 q (.lst [.non,y,x]) Wa=some (.lst ws'):=by rw [Zb (Zi eW4 nq)];exact eW4
   have eF5:upd H4 q (.lst [.non,y,x]) Fa=some (.lst ls):=by rw [Zb (Zi eF4 nq)];exact eF4
   have eq5:upd H4 q (.lst [.non,y,x]) q=some (.lst [.non,y,x]):=Z4
   refine ⟨Wa,q,ws',[.non,y,x],rfl,rfl,eW5,eq5,Zn (by show ws'.length+3≤_;omega),?_⟩
   have nw:wsz (tk'++[none,some r,some l])=wsz tk'+(1+2 * r.size+2 * l.size):=by simp [wsz,wtO];omega
   refine ⟨wsz (tk'++[none,some r,some l]),?_,ws'++[.non,y,x],ls,tk'++[none,some r,some l],dn,_,rfl,Yx g5 hWa0,Z4,by rw [Zb (Ne.symm hne)];exact eF5,?_,dF,?_,?_,rfl⟩
   ·rw [hts,nw]
    show _<wsz tk'+2 * (l.size+r.size+1)
    omega
   ·exact Xn dW' (.cons (show WV G .non none from rfl) (.cons (show WV G y (some r) from dy2) (.cons (show WV G x (some l) from dx) .nil)))
   ·rw [←hsum]
    simp [dE,au]
   ·rw [nw]
    omega
 ·have c:¬((0:Int)<(ws.length:Int)):=of_decide_eq_false (Bool.eq_false_iff.mpr c)
  have e:tk=[]:=List.eq_nil_of_length_eq_zero (by omega)
  subst e
  refine ⟨_,rfl,?_⟩
  have e:dn=au t:=by simpa using hsum
  subst e
  exact hq Fa ls _ g1 hFa eF dF
end
section
variable {α:Type}
def evT (fs:List Th→α) (fm:α→α→α):Tr→α
 | .leaf ts=>fs ts
 | .node l r=>fm (evT fs fm l) (evT fs fm r)
def kT (fs:List Th→α) (fm:α→α→α):List (Option (List Th))→List α→Option (List α)
 | [],st=>some st
 | some ts::r,st=>kT fs fm r (fs ts::st)
 | none::r,y::x::st=>kT fs fm r (fm x y::st)
 | none::_,_=>none
theorem S9 (fs:List Th→α) (fm:α→α→α):∀(t:Tr) (r:List (Option (List Th))) (st:List α),kT fs fm (au t++r) st=kT fs fm r (evT fs fm t::st)
 | .leaf ts,r,st=>rfl
 | .node a b,r,st=>by
  show kT fs fm (au a++au b++[none]++r) st=_
  rw [List.append_assoc,List.append_assoc,S9 fs fm a,S9 fs fm b]
  rfl
def wgt (ss:List (Option (List Th))):Nat:=(ss.map fun o=>match o with
 | some ts=>ts.length
 | none=>0).sum
theorem lV (o:Option (List Th)) (ss:List (Option (List Th))):wgt (o::ss)=(match o with
 | some ts=>ts.length
 | none=>0)+wgt ss:=by
 unfold wgt
 rw [List.map_cons,List.sum_cons]
theorem R1:∀t:Tr,wgt (au t)=t.all.length
 | .leaf ts=>by show ts.length+0=ts.length;omega
 | .node a b=>by
  have h:∀xs ys,wgt (xs++ys)=wgt xs+wgt ys:=fun xs ys=>by unfold wgt;rw [List.map_append,List.sum_append]
  show wgt (au a++au b++[none])=(a.all++b.all).length
  rw [h,h,R1 a,R1 b,List.length_append]
  rfl
def isFs (P:Program) (w:World) (K:W.Frag) (mg:Str→Option Value) (base:Heap) (k:Nat) (Rep:Hp→V→α→Prop) (fs:List Th→α) (Hh:Hp) (f:Addr) (OkS:List Th→Prop):Prop:=∃(fd:FuncData) (ps:List Str) (sp:Sp),FnOk P w K mg base CX0 k f fd ps sp∧Binds K fd ps []∧Cal base f∧
 ∀(H:Hp) (v:V) (ts:List Th) (Q:VK),Same Hh H→DV H v (cK ts)→OkS ts→(∀(p:V) (H':Hp),Same H H'→Rep H' p (fs ts)→Q p H')→sp [v] H Q E0
def isFm (P:Program) (w:World) (K:W.Frag) (mg:Str→Option Value) (base:Heap) (k:Nat) (Rep:Hp→V→α→Prop) (fm:α→α→α) (Hh:Hp) (f:Addr) (I:α→Prop) (wt:α→Nat) (NN:Nat):Prop:=∃(fd:FuncData) (ps:List Str) (sp:Sp),FnOk P w K mg base CX0 k f fd ps sp∧Binds K fd ps []∧Cal base f∧
 ∀(H:Hp) (u v:V) (x y:α) (Q:VK),Same Hh H→Rep H u x→Rep H v y→I x→I y→wt x+wt y≤NN→(∀(p:V) (H':Hp),Same H H'→Rep H' p (fm x y)→Q p H')→sp [u,v] H Q E0
def d_ (P:Program) (w:World) (K:W.Frag) (mg:Str→Option Value) (k:Nat) (base:Heap):Sp:=fun vs H Q _=>∃(α:Type) (Rep:Hp→V→α→Prop) (fs:List Th→α) (fm:α→α→α) (I:α→Prop) (wt:α→Nat) (NN:Nat) (OkS:List Th→Prop) (v:V) (f1 f2:Addr) (t:Tr),
 vs=[v,.ref f1,.ref f2]∧DV H v t.D∧t.size≤1000∧(∀s∈t.streams,OkS s)∧isFs P w K mg base k Rep fs H f1 OkS∧isFm P w K mg base k Rep fm H f2 I wt NN∧(∀ts,OkS ts→I (fs ts)∧wt (fs ts)=ts.length)∧(∀x y,I x→I y→wt x+wt y≤NN→I (fm x y)∧wt (fm x y)=wt x+wt y)∧wgt (au t)≤NN∧
 (∀{H H':Hp},Same H H'→∀{v x},Rep H v x→Rep H' v x)∧(∀{H:Hp} {a:Addr} {xs:List V},H a=some (.lst xs)→∀{v x},Rep H v x→Rep (ak a H) v x)∧∀(p:V) (H':Hp),Same H H'→Rep H' p (evT fs fm t)→Q p H'
end
theorem We:∀(t:Tr) (ts:List Th),some ts∈au t→ts∈t.streams
 | .leaf s,ts,h=>by
  have:=List.mem_singleton.mp h
  cases this
  exact .head _
 | .node a b,ts,h=>by
  show ts∈a.streams++b.streams
  rcases List.mem_append.mp (show some ts∈au a++au b++[none] from h) with h | h
  ·rcases List.mem_append.mp h with h | h
   ·exact List.mem_append_left _ (We a ts h)
   ·exact List.mem_append_right _ (We b ts h)
  ·exact nomatch List.mem_singleton.mp h
theorem Uu {p:Addr} {H0 H1 H2:Hp} (n:H0 p=none) (s:Same H0 H1) (g:Grw p H1 H2):Same H0 H2:=fun b u e=>(Z8 (g b u (by rw [Zc (Zi e n)];exact s b u e))).2
theorem p_ {a:Addr} {H:Hp} {o:HO}:Same (ak a H) (upd H a o):=fun b u q=>by
 obtain ⟨h1,h2⟩:=Z8 q
 rw [Zb h1]
 exact h2
section
variable {P:Program} {w:World} {K:W.Frag} {mg:Str→Option Value} {base:Heap} {f:Addr} {fd:FuncData}
theorem lR {k:Nat} (hk:1≤k) (fZ:Has P w K mg base "steps_in" 1 ["tree"] jd) (F:Fun K "grown" "grown" cJ f fd):FnOk P w K mg base CX0 (k+1) f fd ["tree","of_stream","of_two"] (d_ P w K mg k base):=by
 refine F.ok Vi (fun vs H Q E h=>?_) (fun cdv A outer s H vs Q E hr h=>?_)
 ·obtain ⟨_,_,_,_,_,_,_,_,v,f1,f2,t,rfl,_⟩:=h
  rfl
 obtain ⟨α,Rep,fs,fm,I,wt,NN,OkS,v,f1,f2,t,rfl,dv,hsz,hok,⟨fd1,ps1,sp1,F1,B1,C1,u1⟩,⟨fd2,ps2,sp2,F2,B2,C2,u2⟩,I1,I2,wN,mono,lst,hq⟩:=h
 refine ⟨_,(@Z2 _ _ _ _ _ (@Zg _ _ 3 _ _ _ _ Vi.nd rfl (Or.inl rfl) (@Yy _ _ _ _ Z1) (by rfl) (by first | exact .inl rfl | exact .inr rfl))
 (@Z2 _ _ _ _ _ (Xv PassesOwn.never rfl (Xb (Z5 fZ hr (@Z0 _ _ _ _ _ (pv 0) Z1 (by rfl)))) (Z9 (i:=4) Vi.nd rfl (Or.inl rfl))
 (@Z6 _ _ _ (@Y7 _ _ _ _ _ _ _ _ (@Zk _ _ _ _ _ _ _ _ f_ (pv 4) S5 (Zl _)) (@Z2 _ _ _ _ _ (@Zg _ _ 5 _ _ _ _ Vi.nd rfl (Or.inl rfl) (Up PySem.F.plainAttrs_list PySem.F.slot_list_pop PySem.F.type_list_pop O4 (pv 3)) (by rfl) (by first | exact .inl rfl | exact .inr rfl))
 (@Z2 _ _ _ _ _ (@Zg _ _ 6 _ _ _ _ Vi.nd rfl (Or.inl rfl) (Up PySem.F.plainAttrs_list PySem.F.slot_list_pop PySem.F.type_list_pop O4 (pv 3)) (by rfl) (by first | exact .inl rfl | exact .inr rfl))
 (@Z6 _ _ _ (W5 (Rn PySem.F.plainAttrs_list PySem.F.slot_list_append PySem.F.type_list_append Wt (pv 3) (@Z0 _ _ _ _ _ (Rm (i:=2) hr (@Z0 _ _ _ _ _ (pv 6) (@Z0 _ _ _ _ _ (pv 5) Z1 (by rfl)) (by rfl))) Z1 (by rfl))))))) (@Z6 _ _ _ (W5 (Rn PySem.F.plainAttrs_list PySem.F.slot_list_append PySem.F.type_list_append Wt (pv 3) (@Z0 _ _ _ _ _ (Rm (i:=1) hr (@Z0 _ _ _ _ _ (pv 4) Z1 (by rfl))) Z1 (by rfl))))))))
 (@Z6 _ _ _ (@Ze _ _ _ _ (Up PySem.F.plainAttrs_list PySem.F.slot_list_pop PySem.F.type_list_pop O4 (pv 3)))))),?_⟩
 refine ⟨leN rfl,fun kp nkp=>?_⟩
 refine ⟨_,rfl,v,t,H,rfl,Z7 nkp _,dv,hsz,fun r ls H2 s2 nr er pr=>?_⟩
 have ekp:H2 kp=some (.lst []):=s2 _ _ Z4
 have sH:Same H H2:=(Z7 nkp _).trans s2
 have krne:r≠kp:=fun z=>by rw [z,Z4] at nr;cases nr
 have lsl:=U2 pr
 rw [Vy] at lsl
 refine ⟨r,rfl,⟨_,SqL.of er⟩,?_⟩
 refine eJ (xs:=ls) (fun i σ H'=>∃(o4 o5 o6:Option V) (vs:List V) (st:List α),σ=[some v,some (.ref f1),some (.ref f2),some (.ref kp),o4,o5,o6]∧Grw kp H2 H'∧H' kp=some (.lst vs)∧Paired (Rep (ak kp H')) vs st.reverse∧(∀x∈st,I x)∧(st.map wt).sum+wgt ((au t).drop i)≤NN∧st.length≤i∧kT fs fm ((au t).drop i) st=some [evT fs fm t])
  ⟨_,_,_,[],[],rfl,Same.refl _,ekp,.nil,(fun _ h=>nomatch h),by show 0+wgt (au t)≤NN;omega,Nat.le_refl _,?_⟩ ?_ ?_ ?_
 ·have:=S9 fs fm t [] []
  rw [List.append_nil] at this
  exact this
 ·rintro i σ H' _ ⟨_,_,_,_,_,_,g,_⟩
  exact SqL.of (Z8 (g _ _ (by rw [Zc krne];exact er))).2
 ·rintro i x σ H' hx ⟨o4,o5,o6,vs,st,rfl,g,ek,pst,ist,wst,stl,hm⟩
  obtain ⟨o,ho,sv⟩:=iZ pr hx
  have hd:(au t).drop i=o::(au t).drop (i+1):=by
   have hlt:=(List.getElem?_eq_some_iff.mp ho).1
   rw [List.drop_eq_getElem_cons hlt]
   congr 1
   exact (List.getElem?_eq_some_iff.mp ho).2
  rw [hd] at hm wst
  rw [lV] at wst
  have ilt:i<ls.length:=(List.getElem?_eq_some_iff.mp hx).1
  have vl:=U2 pst
  rw [List.length_reverse] at vl
  cases o with
  | none=>
   cases (show x=V.non from sv)
   refine ⟨_,rfl,rfl,_,rfl,Wy ?_⟩
   match st,hm,ist,wst,stl,pst,vl with
   | y::x::st',hm,ist,wst,stl,pst,vl=>
   have wst:wt y+(wt x+(st'.map wt).sum)+(0+wgt ((au t).drop (i+1)))≤NN:=wst
   have wxy:wt x+wt y≤NN:=by omega
   have e:(y::x::st').reverse=st'.reverse++[x]++[y]:=by simp
   rw [e] at pst
   obtain ⟨vs1,b,rfl,pst1,rb⟩:=Tc pst
   obtain ⟨vs2,a,rfl,pst2,ra⟩:=Tc pst1
   refine ⟨_,rfl,.inl ⟨rfl,_,SqL.of ek⟩,kp,_,b,rfl,rfl,ek,by simp,?_⟩
   rw [List.dropLast_concat]
   refine ⟨_,rfl,.inl ⟨rfl,_,SqL.of Z4⟩,kp,_,a,rfl,rfl,Z4,by simp,?_⟩
   rw [List.dropLast_concat,oW]
   have gc:Grw kp H' (upd H' kp (.lst vs2)):=Yh
   have ec:upd H' kp (.lst vs2) kp=some (.lst vs2):=Z4
   generalize upd H' kp (.lst vs2)=Hc at gc ec ⊢
   have sc:Same H Hc:=Uu nkp sH (g.trans gc)
   refine ⟨_,rfl,.inl ⟨rfl,_,SqL.of ec⟩,f2,fd2,ps2,sp2,rfl,F2,B2,C2,_,rfl,_,rfl,?_⟩
   refine u2 Hc a b x y _ sc (mono W1 (mono gc ra)) (mono W1 (mono gc rb)) (ist x (.tail _ (.head _))) (ist y (.head _)) wxy fun p H3 s3 rp=>?_
   have ek3:=s3 _ _ ec
   have g3:Grw kp Hc H3:=Wz ec s3
   refine ⟨kp,vs2,p,rfl,rfl,ek3,Zp (by rw [List.length_append,List.length_append] at vl;simp at vl;simp at stl;omega),?_⟩
   refine ⟨_,_,_,vs2++[p],fm x y::st',rfl,g.trans (gc.trans (g3.trans Yh)),Z4,?_,fun z hz=>?_,by show wt (fm x y)+(st'.map wt).sum+wgt ((au t).drop (i+1))≤NN;rw [(I2 _ _ (ist x (.tail _ (.head _))) (ist y (.head _)) wxy).2];omega,by simp at stl ⊢;omega,hm⟩
   ·rw [List.reverse_cons]
    refine Xn (Rj (R:=Rep) mono (gc.trans (g3.trans Yh)) pst2) (.cons ?_ .nil)
    exact mono Yh (lst ek3 rp)
   ·rcases List.mem_cons.mp hz with rfl | hz
    ·exact (I2 _ _ (ist x (.tail _ (.head _))) (ist y (.head _)) wxy).1
    ·exact ist z (.tail _ (.tail _ hz))
  | some ts=>
   have sv:DV H x (cK ts):=sv
   obtain ⟨b,xs,rfl,eb,qb⟩:=DV.list_inv sv
   refine ⟨_,rfl,rfl,_,rfl,Y5 ?_⟩
   have oks:=hok ts (We t ts (List.mem_of_getElem? ho))
   have sc:Same H H':=Uu nkp sH g
   have dvx:DV H' (.ref b) (cK ts):=sv.mono sc
   refine ⟨_,rfl,.inl ⟨rfl,_,SqL.of ek⟩,f1,fd1,ps1,sp1,rfl,F1,B1,C1,_,rfl,?_⟩
   refine u1 H' (.ref b) ts _ sc dvx oks fun p H3 s3 rp=>?_
   have ek3:=s3 _ _ ek
   have g3:Grw kp H' H3:=Wz ek s3
   refine ⟨kp,vs,p,rfl,rfl,ek3,Zp (by omega),?_⟩
   refine ⟨_,_,_,vs++[p],fs ts::st,rfl,g.trans (g3.trans Yh),Z4,?_,fun z hz=>?_,by show wt (fs ts)+(st.map wt).sum+wgt ((au t).drop (i+1))≤NN;rw [(I1 _ oks).2];have wst:(st.map wt).sum+(ts.length+wgt ((au t).drop (i+1)))≤NN:=wst;omega,by simp;omega,hm⟩
   ·rw [List.reverse_cons]
    refine Xn (Rj (R:=Rep) mono (g3.trans Yh) pst) (.cons ?_ .nil)
    exact mono Yh (lst ek3 rp)
   ·rcases List.mem_cons.mp hz with rfl | hz
    ·exact (I1 _ oks).1
    ·exact ist z hz
 ·rintro σ H' ⟨o4,o5,o6,vs,st,rfl,g,ek,pst,ist,wst,stl,hm⟩
  rw [lsl,←Vy,List.drop_length] at hm
  have hst:st=[evT fs fm t]:=Option.some.inj hm
  subst hst
  match vs,pst with
  | [p],.cons rp .nil=>
  refine ⟨_,rfl,.inl ⟨rfl,_,SqL.of ek⟩,kp,_,p,rfl,rfl,ek,rfl,?_⟩
  exact hq p _ (Yx (Uu nkp sH g) nkp) (mono p_ rp)
end
end K26
namespace K26
open PySem L2 Ld
def lamE (st:Stmt):Expr:=match ae st with
 | [.Return (some (.Call _ (_::e::_) _ _)) _]=>e
 | _=>.Constant .none 0 ⟨0,0,0,0⟩
def ei (e:Expr):Pos:=match e with
 | .Lambda _ _ _ p=>p
 | _=>⟨0,0,0,0⟩
def bX (e:Expr):Scope:=match e with
 | .Lambda _ _ sc _=>sc
 | _=>{kind:=.function,names:=[],isGenerator:=false,isCoroutine:=false}
abbrev cD:Expr:=lamE ah
abbrev qGT:Str:=("grown_ladder":Str)++".<locals>."++"<lambda>"
theorem scL:LamScope ["stream"] ["room","deep"] (bX cD):=⟨rfl,rfl,rfl,by decide +kernel,by decide +kernel,fun x h=>by
  have:∀y∈(bX cD).names,y.2=.free→y.1="room"∨y.1="deep":=by decide +kernel
  rcases this (x,.free) (PySem.mem_of_lookup h) rfl with e | e
  ·have e:x="room":=e
   rw [e]
   exact .head _
  ·have e:x="deep":=e
   rw [e]
   exact .tail _ (.head _),by decide +kernel,by decide +kernel⟩
mutual
theorem U9 {H:Hp} {a:Addr} (n1:∀xs,H a≠some (.lst xs)) (n2:∀xs,H a≠some (.tup xs)):∀{v:V} {d:PyData},DV H v d→DV (ak a H) v d
 | _,_,.non=>.non
 | _,_,.bl b=>.bl b
 | _,_,.int i=>.int i
 | _,_,.str x=>.str x
 | _,_,.lst e r=>.lst (by rw [Zc (fun z=>n1 _ (z ▸ e))];exact e) (Qb n1 n2 r)
 | _,_,.tup e r=>.tup (by rw [Zc (fun z=>n2 _ (z ▸ e))];exact e) (Qb n1 n2 r)
theorem Qb {H:Hp} {a:Addr} (n1:∀xs,H a≠some (.lst xs)) (n2:∀xs,H a≠some (.tup xs)):∀{vs:List V} {ds:List PyData},DVs H vs ds→DVs (ak a H) vs ds
 | _,_,.nil=>.nil
 | _,_,.cons h r=>.cons (U9 n1 n2 h) (Qb n1 n2 r)
end
theorem kg {H:Hp} {a:Addr} {xs:List V} (e:H a=some (.lst xs)) {q:Addr} {room deep total:Int} {ps:Sps} (h:LadAt H q room deep total ps):LadAt (ak a H) q room deep total ps:=by
 have tp:∀{b:Addr} {ys:List V},H b=some (.tup ys)→ak a H b=some (.tup ys):=fun {b ys} h=>by
  rw [Zc (fun z=>by rw [z,e] at h;cases h)]
  exact h
 obtain ⟨c,as,e1,e2,r⟩:=h.at_
 exact ⟨c,as,tp e1,tp e2,Paired.mapP r fun _ _ ⟨y,f1,f2⟩=>⟨y,tp f1,tp f2⟩⟩
def glT (room deep:Int) (t:Tr):Sps:=evT (cr room deep) (a_ room deep) t
def fsL (room deep:Int) (ts:List Th):Sps×Nat:=(cr room deep ts,ts.length)
def fmL (room deep:Int) (x y:Sps×Nat):Sps×Nat:=(a_ room deep x.1 y.1,x.2+y.2)
theorem gn (room deep:Int):∀t:Tr,(evT (fsL room deep) (fmL room deep) t).1=glT room deep t
 | .leaf ts=>rfl
 | .node a b=>by
  show a_ room deep (evT (fsL room deep) (fmL room deep) a).1 (evT (fsL room deep) (fmL room deep) b).1=a_ room deep (glT room deep a) (glT room deep b)
  rw [gn room deep a,gn room deep b]
def RepL (room deep:Int) (H:Hp) (v:V) (x:Sps×Nat):Prop:=∃p:Addr,v=.ref p∧LadAt H p room deep (ai x.1) x.1
def ur (T:Addr):Sp:=fun vs H Q _=>∃(v:V) (room deep:Int) (t:Tr),vs=[.int room,.int deep,v]∧1≤room∧room≤20∧0≤deep∧deep≤20∧DV H v t.D∧t.size≤1000∧(∀s∈t.streams,∀x∈s,ThL deep x)∧t.all.length≤150∧LamAt T (ei cD) qGT H∧
 ∀(p:Addr) H',Same (ak T H) (ak T H')→LamAt T (ei cD) qGT H'→LadAt H' p room deep (ai (glT room deep t)) (glT room deep t)→Q (.ref p) H'
def tH (c:Addr) (room deep:Int):Sp:=fun vs H Q _=>∃(v:V) (ts:List Th),vs=[v]∧H c=some (crO qGT c)∧DV H v (cK ts)∧(∀t∈ts,ThL deep t)∧ts.length≤150∧∀(p:Addr) H',Same H H'→LadAt H' p room deep (ai (cr room deep ts)) (cr room deep ts)→Q (.ref p) H'
theorem Oi:∀(t:Tr) (s:List Th),s∈t.streams→s.length≤t.all.length
 | .leaf ts,s,h=>by rw [List.mem_singleton.mp h];exact Nat.le_refl _
 | .node a b,s,h=>by
  show s.length≤(a.all++b.all).length
  rw [List.length_append]
  rcases List.mem_append.mp h with h | h
  ·have:=Oi a s h;omega
  ·have:=Oi b s h;omega
section
variable {P:Program} {w:World} {K:W.Frag} {mg:Str→Option Value} {base:Heap} {f:Addr} {fd:FuncData}
theorem vw {c T f2:Addr} {oc:Value} {od an:Option Addr} {osl:Array (Option Value)} {kV doc pm ct:Value} {fd2:FuncData} (lk:K.lookup f=some ⟨oc,od,.func (W.fnOf "grown_ladder" "grown_ladder" (ag ah) (ae ah) (aa ah) .none kV doc pm an (.ref c) ct),osl⟩) (hcd:W.codeIn K (.ref c) "grown_ladder"=true)
  (C:W.CodeHd base c T) (hgP:mainGlobals≠T) (hB:base.BuiltinsAt mg T) (hb_grown:HasB P w K mg "grown" 9 ["tree","of_stream","of_two"] (d_ P w K mg 8))
  (hT:∀base:Heap,K.In base→base.Ns mainGlobals mg→Has P w K mg base "ladder_of" 7 ["room","deep","stream"] sq) (hM:∀base:Heap,K.In base→base.Ns mainGlobals mg→Has P w K mg base "merged_ladder" 6 ["one","other"] jI)
  (m2:mg "merged_ladder"=some (.ref f2)) (F2:Fun K "merged_ladder" "merged_ladder" az f2 fd2):
  FnOk P w K mg base CX0 10 f (W.fnOf "grown_ladder" "grown_ladder" (ag ah) (ae ah) (aa ah) .none kV doc pm an (.ref c) ct) ["room","deep","tree"] (ur T):=by
 refine nR (k:=9) lk hcd Si (fun vs H Q E h=>?_) (fun A outer s H vs Q E hr h=>?_)
 ·obtain ⟨v,room,deep,t,rfl,_⟩:=h
  rfl
 obtain ⟨v,room,deep,t,rfl,r0,r1,d0,d1,dv,hsz,tw,tal,lam,hq⟩:=h
 have g_mt:∃u,mg "merged_ladder"=some u∧RelV (.ref f2) u:=⟨_,m2,rfl⟩
 have hf:∀x∈(bX cD).names,x.2=.free→∃c',(PyProof.Rows.envOfC "grown_ladder" (aa ah) s.heap.objs.size f (.ref c)).cells.lookup x.1=some c':=fun x hx hk=>by
  have:∀y∈(bX cD).names,y.2=.free→(aa ah).names.lookup y.1=some .cell:=by decide +kernel
  exact Tv (this x hx hk)
 refine ⟨_,Z6 (Ze (N4 hb_grown (fun _=>rfl) rfl rfl hr (@Z0 _ _ _ _ _ (pv 2) (@Z0 _ _ _ _ _ (mJ (c:=c) (T:=T) (sc:=bX cD) rfl C hgP hB hf) (@Z0 _ _ _ _ _ (Rk rfl g_mt) Z1 (by rfl)) (by rfl)) (by rfl)))),?_⟩
 refine ⟨_,rfl,lam,fun a c' pm2 ctv H1 g1 na nac eT ec ea=>?_⟩
 have tT:H T≠none:=by
  rcases lam.tab with e | ⟨_,e,_⟩ <;> (rw [e];exact fun z=>nomatch z)
 have nT1:∀xs,H T≠some (.lst xs):=by
  rcases lam.tab with e | ⟨_,e,_⟩ <;> (rw [e];exact fun _ z=>nomatch z)
 have nT2:∀xs,H T≠some (.tup xs):=by
  rcases lam.tab with e | ⟨_,e,_⟩ <;> (rw [e];exact fun _ z=>nomatch z)
 have aT:a≠T:=fun z=>tT (z ▸ na)
 have dv1:DV H1 v t.D:=((U9 nT1 nT2 dv).mono g1).mono W1
 have dva:DV (ak a H1) v t.D:=U9 (by rw [ea];exact fun _ z=>nomatch z) (by rw [ea];exact fun _ z=>nomatch z) dv1
 refine ⟨a,_,ea,fun B wid=>?_⟩
 have wfn:=wid.fn
 have ec2:ak a H1 c'=some (crO qGT c'):=by rw [Zc (Ne.symm nac)];exact ec
 have cls:∀x d,(aG (PyProof.Rows.envOfC "grown_ladder" (aa ah) s.heap.objs.size f (.ref c)) (bX cD).names).lookup x=some d→(PyProof.Rows.envOfC "grown_ladder" (aa ah) s.heap.objs.size f (.ref c)).cells.lookup x=some d:=fun x d e=>Ud _ [] hf (fun _ h=>nomatch h) (x,d) (PySem.mem_of_lookup e)
 refine ⟨Sps×Nat,RepL room deep,fsL room deep,fmL room deep,fun x=>Pok deep x.1∧x.1.length≤x.2,fun x=>x.2,150,fun ts=>(∀x∈ts,ThL deep x)∧ts.length≤150,v,a,f2,t,rfl,dva,hsz,fun s hs=>⟨tw s hs,Nat.le_trans (Oi t s hs) tal⟩,?_,?_,fun ts h=>?_,fun x y h1 h2 h3=>?_,by rw [R1];exact tal,?_,?_,?_⟩
 ·refine ⟨_,["stream"],tH c' room deep,lu (k:=7) (us:=[.int room,.int deep]) (fr:=["room","deep"]) wfn scL rfl ?_ (fun x y d e1 e2=>wid.inj x y d (cls x d e1) (cls y d e2)) (fun x d e=>wid.cells x d (cls x d e)) (fun vs H Q E h=>?_) (fun vs H Q E h=>?_) (fun A outer s H vs Q E hr h=>?_),?_,⟨_,_,_,_,wfn⟩,?_⟩
  ·intro i x u h1 h2
   match i,h1,h2 with
   | 0,h1,h2=>
    cases h1
    cases h2
    obtain ⟨c2,u2,e1,e2,rv⟩:=wid.cell 0 "room" (.int room) rfl rfl rfl
    obtain ⟨c3,hc3⟩:=V1 (bX cD).names [] (env:=PyProof.Rows.envOfC "grown_ladder" (aa ah) s.heap.objs.size f (.ref c)) "room" (PySem.mem_of_lookup (scL.fre "room" (.head _)))
    obtain ⟨c4,hc4⟩:=Ys hc3
    have e3:=cls _ _ hc4
    have e4:c4=c2:=Option.some.inj (e3.symm.trans e1)
    subst e4
    exact ⟨c4,u2,hc4,e2,rv⟩
   | 1,h1,h2=>
    cases h1
    cases h2
    obtain ⟨c2,u2,e1,e2,rv⟩:=wid.cell 1 "deep" (.int deep) rfl rfl rfl
    obtain ⟨c3,hc3⟩:=V1 (bX cD).names [] (env:=PyProof.Rows.envOfC "grown_ladder" (aa ah) s.heap.objs.size f (.ref c)) "deep" (PySem.mem_of_lookup (scL.fre "deep" (.tail _ (.head _))))
    obtain ⟨c4,hc4⟩:=Ys hc3
    have e3:=cls _ _ hc4
    have e4:c4=c2:=Option.some.inj (e3.symm.trans e1)
    subst e4
    exact ⟨c4,u2,hc4,e2,rv⟩
  ·obtain ⟨_,_,_,e,_⟩:=h
   exact e
  ·obtain ⟨_,_,rfl,_⟩:=h
   rfl
  ·obtain ⟨u,ts,rfl,e,d,ok,tl,hq2⟩:=h
   have eB:=hT B wid.kin wid.glb
   refine ⟨_,Z5 eB hr (@Z0 _ _ _ _ _ (pv 1) (@Z0 _ _ _ _ _ (pv 2) (@Z0 _ _ _ _ _ (pv 0) Z1 (by rfl)) (by rfl)) (by rfl)),?_⟩
   exact ⟨_,rfl,_,rfl,_,rfl,u,room,deep,ts,rfl,d,ok,r0,r1,d0,d1,by omega,hq2⟩
  ·exact .all fun us hl=>match us,hl with | [_],_=>rfl
  ·exact fun H u ts Q s d ok hq2=>⟨u,ts,rfl,s _ _ ec2,d,ok.1,ok.2,fun p H' s' d'=>hq2 (.ref p) H' s' ⟨p,rfl,d'⟩⟩
 ·obtain ⟨f',fd',FM,bM,kM,mM⟩:=(hM B wid.kin wid.glb).ex
  have e:f'=f2:=by
   rw [m2] at mM
   cases mM
   rfl
  subst e
  obtain ⟨oc2,od2,kV2,doc2,pm3,an2,cdv2,ct2,osl2,_,lk2,_⟩:=F2.ex
  refine ⟨fd',["one","other"],jI,FM.mono (by decide),bM,⟨_,_,_,_,wid.kin _ _ lk2⟩,?_⟩
  rintro H u u' x y Q s ⟨p,rfl,d⟩ ⟨q,rfl,d2⟩ ix iy wxy hq2
  have a1:x.1.length≤x.2:=ix.2
  have a2:y.1.length≤y.2:=iy.2
  have wxy:x.2+y.2≤150:=wxy
  exact ⟨p,q,room,deep,x.1,y.1,rfl,d,d2,ix.1,iy.1,r0,r1,d1,by omega,fun p' H' s' d'=>hq2 (.ref p') H' s' ⟨p',rfl,d'⟩⟩
 ·obtain ⟨o,_,l⟩:=Ss (room:=room) d0 h.1
  exact ⟨⟨o.pok,l⟩,rfl⟩
 ·obtain ⟨o,_,l⟩:=V9 (room:=room) h1.1 h2.1
  have a1:x.1.length≤x.2:=h1.2
  have a2:y.1.length≤y.2:=h2.2
  exact ⟨⟨o.pok,by show (a_ room deep x.1 y.1).length≤x.2+y.2;omega⟩,rfl⟩
 ·rintro H H' g v x ⟨p,rfl,d⟩
  exact ⟨p,rfl,d.mono g⟩
 ·rintro H b xs e v x ⟨p,rfl,d⟩
  exact ⟨p,rfl,kg e d⟩
 ·rintro p H' g ⟨p,rfl,d⟩
  rw [gn] at d
  refine hq p H' ?_ ?_ d
  ·intro b u e
   obtain ⟨b1,b2⟩:=Z8 e
   have:=g1 b u e
   obtain ⟨_,e3⟩:=Z8 this
   rw [Zc b1]
   exact g b u (by rw [Zc (Zi b2 na)];exact e3)
  ·exact ⟨.inr ⟨c',g _ _ (by rw [Zc (Ne.symm aT)];exact eT),g _ _ ec2⟩⟩
end
end K26
namespace K26
open PySem L2 Ld
theorem qd:(PyData.list []).canLay0=true∧(PyData.list []).depth≤5:=⟨rfl,by decide⟩
def ThK (deep:Int) (t:Th):Prop:=ThL deep t∧PyData.strOk t.word=true
theorem qA {deep:Int} {t:Th} (h:ThK deep t):t.D.canLay0=true∧t.D.depth≤1:=by
 refine ⟨?_,?_⟩
 ·simp [Th.D,PyData.canLay0,PyData.canLayAll0,h.2]
 ·simp [Th.D,PyData.depth,PyData.depthAll]
theorem mF {deep:Int} {ts:List Th} (h:∀t∈ts,ThK deep t):(cK ts).canLay0=true∧(cK ts).depth≤2:=Q3 ts fun t ht=>qA (h t ht)
theorem qz {K:W.Frag} {S:Addr} {ns:List Int} {H0 H:Hp} {a L:Addr} {o:HO} (h0:Pn K S ns H0 a) (n:H0 L=none) (h:Pn K S ns H a) (la:L≠a):Pn K S ns (upd H L o) a:=by
 obtain ⟨⟨i,r,ea⟩,s,f⟩:=h
 refine ⟨⟨i,r,by rw [Zb (Ne.symm la)];exact ea⟩,?_,f⟩
 obtain ⟨_,s0,_⟩:=h0
 rcases s0 with s0 | s0
 ·have ne:S≠L:=by
   rcases s0 with s0 | ⟨u,s0⟩
   ·exact Zi s0 n
   ·exact Zi s0 n
  rcases s with (s | ⟨u,s⟩) | s
  ·exact .inl (.inl (by rw [Zb ne];exact s))
  ·exact .inl (.inr ⟨u,by rw [Zb ne];exact s⟩)
  ·exact .inr s
 ·exact .inr s0
def TsAt (H:Hp):List V→List Th→Prop:=Paired fun x t=>∃c:Addr,x=.ref c∧H c=some (.tup t.vs)
theorem TsAt.get {H:Hp}:∀{xs:List V} {ts:List Th} {j:Nat} {x:V},TsAt H xs ts→xs[j]?=some x→∃c t,x=.ref c∧ts[j]?=some t∧H c=some (.tup t.vs)
 | _,_,_,_,.nil,e=>by simp at e
 | _,_,0,_,.cons h _,e=>by
  rw [List.getElem?_cons_zero] at e
  cases e
  obtain ⟨c,e,q⟩:=h
  exact ⟨c,_,e,rfl,q⟩
 | _,_,j+1,_,.cons _ r,e=>TsAt.get (j:=j) r (by simpa using e)
theorem TsAt.dvs {H:Hp}:∀{xs:List V} {ts:List Th},TsAt H xs ts→DVs H xs (ts.map Th.D)
 | _,_,.nil=>.nil
 | _,_,.cons ⟨c,e,h⟩ r=>by
  rw [e]
  exact .cons (Th.dv h) (TsAt.dvs r)
theorem TsAt.tup {H H':Hp} (g:∀c xs,H c=some (.tup xs)→H' c=some (.tup xs)) {xs:List V} {ts:List Th} (h:TsAt H xs ts):TsAt H' xs ts:=Paired.mapP h fun _ _ ⟨c,e,q⟩=>⟨c,e,g _ _ q⟩
structure StrS (K:W.Frag) (S:Addr) (ns:List Int) (H0:Hp) (a L:Addr) (deep:Int) (H:Hp) (xs:List V) (ts:List Th):Prop where
 pn:Pn K S ns H a
 g:Grw a H0 H
 eL:H L=some (.lst xs)
 ta:TsAt H xs ts
 ok:∀t∈ts,ThK deep t
section
variable {K:W.Frag} {S a L:Addr} {ns:List Int} {H0 H H':Hp} {deep:Int} {xs:List V} {ts:List Th}
theorem rJ {c:Addr} {ys:List V} (hp:Pn K S ns H a) (g:Grw a H H') (e:H c=some (.tup ys)):H' c=some (.tup ys):=(Z8 (g _ _ (hp.tup e))).2
theorem StrS.grw (s:StrS K S ns H0 a L deep H xs ts) (La:L≠a) (hp:Pn K S ns H' a) (g:Grw a H H'):StrS K S ns H0 a L deep H' xs ts:=⟨hp,s.g.trans g,(Z8 (g L _ (by rw [Zc La];exact s.eL))).2,s.ta.tup fun c ys e=>rJ s.pn g e,s.ok⟩
theorem StrS.laid {p:Addr} {o:HO} (s:StrS K S ns H0 a L deep H xs ts) (La:L≠a) (n:H p=none):StrS K S ns H0 a L deep (upd H p o) xs ts:=s.grw La (s.pn.laid n) (s.pn.grw (Z7 n o))
theorem StrS.put (s:StrS K S ns H0 a L deep H xs ts) (La:L≠a) {H1:Hp} (hp1:Pn K S ns H1 a) (n1:H1 L=none) (n0:ak a H0 L=none) {c:Addr} {t:Th} (ec:H c=some (.tup t.vs)) (ht:ThK deep t):StrS K S ns H0 a L deep (upd H L (.lst (xs++[.ref c]))) (xs++[.ref c]) (ts++[t]):=by
 have tp:∀(b:Addr) (ys:List V),H b=some (.tup ys)→upd H L (.lst (xs++[.ref c])) b=some (.tup ys):=fun b ys e=>by rw [Zb (Tj e s.eL (by intro z;cases z))];exact e
 refine ⟨qz hp1 n1 s.pn La,qM s.g n0,Z4,Paired.snoc (s.ta.tup tp) ⟨c,rfl,tp _ _ ec⟩,fun x hx=>?_⟩
 rcases List.mem_append.mp hx with hx | hx
 ·exact s.ok x hx
 ·rw [List.mem_singleton.mp hx];exact ht
end
def rn (K:W.Frag):Sp:=fun vs H Q _=>∃(a S:Addr) (ns:List Int) (deep most:Int),vs=[.ref a,.int deep,.int most]∧Pn K S ns H a∧1≤deep∧deep≤10∧0≤most∧most≤60∧∀(L:Addr) (ts:List Th) (H':Hp),H L=none→(∀t∈ts,ThK deep t)→(ts.length:Int)≤most→DV (ak a H') (.ref L) (cK ts)→Pn K S ns H' a→Grw a H H'→Q (.ref L) H'
theorem gi:PyData.strOk "a"=true∧PyData.strOk "b"=true∧PyData.strOk "cd"=true:=by decide +kernel
section
variable {P:Program} {w:World} {K:W.Frag} {mg:Str→Option Value} {base:Heap} {f:Addr} {fd:FuncData}
theorem tX (bO:mg "range"=none) (aF:mg "len"=none) (aq:Has P w K mg base "_law_take" 1 ["_law_pen_here","_law_most"] (dI K)) (kU:Has P w K mg base "_law_many" 2 ["_law_pen_here"] (og K)) (F:Fun K "_law_stream" "_law_stream" bG f fd):FnOk P w K mg base CX0 3 f fd ["_law_pen_here","_law_deep","_law_most"] (rn K):=by
 refine F.ok Y9 (fun vs H Q E h=>?_) (fun cdv A outer s H vs Q E hr h=>?_)
 ·obtain ⟨a,S,ns,deep,most,rfl,_⟩:=h
  rfl
 obtain ⟨a,S,ns,deep,most,rfl,hp,d0,d1,m0,m1,hq⟩:=h
 have tw:=Qq (m:=deep) d1
 have hpH:=hp
 refine ⟨_,(@Z2 _ _ _ _ _ (@Zg _ _ 3 _ _ _ _ Y9.nd rfl (Or.inl rfl) (@Yy _ _ _ _ Z1) (by rfl) (by first | exact .inl rfl | exact .inr rfl)) Zf),leN rfl,fun L n_L=>?_⟩
 have La:=hp.ne n_L
 have nHL:ak a H L=none:=by rw [Zc La];exact n_L
 have ss:StrS K S ns H a L deep (upd H L (.lst [])) [] []:=⟨hp.laid n_L,hp.grw (Z7 n_L _),Z4,.nil,fun _ h=>absurd h List.not_mem_nil⟩
 generalize upd H L (.lst [])=H1 at ss ⊢
 clear hp
 refine ⟨_,(@Z2 _ _ _ _ _ (@Zg _ _ 4 _ _ _ _ Y9.nd rfl (Or.inl rfl) (@Zd _ _ _ _ _ _ _ _ hE Z3 (pv 1)) (by rfl) (by first | exact .inl rfl | exact .inr rfl)) Zf),_,rfl,_,_,rfl,rfl,⟨by omega,by omega,by decide⟩,?_⟩
 show uw _ _ _ [_,_,_,_,some (V.int (1 * 2 ^ deep.toNat)),_,_,_,_] _
 rw [Int.one_mul]
 obtain ⟨top,htop⟩:∃top:Int,(2:Int) ^ deep.toNat=top:=⟨_,rfl⟩
 rw [htop] at tw ⊢
 refine ⟨_,(@Z2 _ _ _ _ _ (@Zg _ _ 5 _ _ _ _ Y9.nd rfl (Or.inl rfl) (Z5 aq hr (@Z0 _ _ _ _ _ (pv 0) (@Z0 _ _ _ _ _ (pv 4) Z1 (by rfl)) (by rfl))) (by rfl) (by first | exact .inl rfl | exact .inr rfl)) Zf),_,rfl,_,rfl,a,S,ns,top,rfl,ss.pn,by omega,by omega,fun mid H2 x0 x1 hp g2=>?_⟩
 have ss:=ss.grw La hp g2
 refine ⟨_,(@Z2 _ _ _ _ _ (Xv PassesOwn.never rfl (S3 rfl bO (@Z0 _ _ _ _ _ (Z5 aq hr (@Z0 _ _ _ _ _ (pv 0) (@Z0 _ _ _ _ _ (@Zd _ _ _ _ _ _ _ _ Zv (pv 2) Z3) Z1 (by rfl)) (by rfl))) Z1 (by rfl))) (Z9 (i:=6) Y9.nd rfl (Or.inl rfl))
 (@Z2 _ _ _ _ _ (@Zg _ _ 7 _ _ _ _ Y9.nd rfl (Or.inl rfl) (Z5 aq hr (@Z0 _ _ _ _ _ (pv 0) (@Z0 _ _ _ _ _ Z3 Z1 (by rfl)) (by rfl))) (by rfl) (by first | exact .inl rfl | exact .inr rfl))
 (@Z2 _ _ _ _ _ (@Zg _ _ 8 _ _ _ _ Y9.nd rfl (Or.inl rfl) (Z5 aq hr (@Z0 _ _ _ _ _ (pv 0) (@Z0 _ _ _ _ _ (pv 4) Z1 (by rfl)) (by rfl))) (by rfl) (by first | exact .inl rfl | exact .inr rfl))
 (@Z2 _ _ _ _ _ (@Y7 _ _ _ _ _ _ _ _ (PW.pt (@Rg _ _ _ _ _ _ _ (@Zk _ _ _ _ _ _ _ _ Qz (pv 7) Z3 (Zl _)) (@T8 _ _ _ _ (@Zk _ _ _ _ _ _ _ _ (O1 hr.units) (pv 3) (@Yy _ _ _ _ Z1) (Zl _))))) (@Z6 _ _ _ (@Zg _ _ 8 _ _ _ _ Y9.nd rfl (Or.inl rfl) (@Zz _ _ _ _ _ _ _ Yg (@Zz _ _ _ _ _ _ _ Ym (pv 3) (Z5 aq hr (@Z0 _ _ _ _ _ (pv 0) (@Z0 _ _ _ _ _ (Zh Zu rfl aF PySem.boot_len (@Z0 _ _ _ _ _ (pv 3) Z1 (by rfl))) Z1 (by rfl)) (by rfl))) (fun _ _=>rfl)) Z3 (fun _ _=>rfl)) (by rfl) (by first | exact .inl rfl | exact .inr rfl))) Zq)
 (@Z2 _ _ _ _ _ (@Y7 _ _ _ _ _ _ _ _ (@Zk _ _ _ _ _ _ _ _ Qz (pv 7) Z3 (Zl _)) (@Z6 _ _ _ (@Zg _ _ 8 _ _ _ _ Y9.nd rfl (Or.inl rfl) (@Zd _ _ _ _ _ _ _ _ Xh (@Zd _ _ _ _ _ _ _ _ Zv (pv 5) (Z5 aq hr (@Z0 _ _ _ _ _ (pv 0) (@Z0 _ _ _ _ _ Z3 Z1 (by rfl)) (by rfl)))) (pv 4)) (by rfl) (by first | exact .inl rfl | exact .inr rfl))) Zq)
 (@Z6 _ _ _ (W5 (Rn PySem.F.plainAttrs_list PySem.F.slot_list_append PySem.F.type_list_append Wt (pv 3) (@Z0 _ _ _ _ _ (@Y1 _ _ _ _ _ (@Z0 _ _ _ _ _ (Z5 aq hr (@Z0 _ _ _ _ _ (pv 0) (@Z0 _ _ _ _ _ Z3 Z1 (by rfl)) (by rfl))) (@Z0 _ _ _ _ _ (@Zz _ _ _ _ _ _ _ Ym (@Yy _ _ _ _ (@Z0 _ _ _ _ _ Py (@Z0 _ _ _ _ _ Py (@Z0 _ _ _ _ _ Py Z1 (by rfl)) (by rfl)) (by rfl))) (Z5 aq hr (@Z0 _ _ _ _ _ (pv 0) (@Z0 _ _ _ _ _ Z3 Z1 (by rfl)) (by rfl))) (fun _ _=>rfl)) (@Z0 _ _ _ _ _ (pv 8) (@Z0 _ _ _ _ _ (Z5 kU hr (@Z0 _ _ _ _ _ (pv 0) Z1 (by rfl))) Z1 (by rfl)) (by rfl)) (by rfl)) (by rfl))) Z1 (by rfl)))))))))) Zf),?_⟩
 refine ⟨_,rfl,_,rfl,_,_,rfl,rfl,a,S,ns,_,rfl,ss.pn,by omega,by omega,fun t H3 t0 t1 hp g3=>⟨t,rfl,by omega,by omega,?_⟩⟩
 have ss:=ss.grw La hp g3
 clear hp g3 g2
 refine Q7 (lo:=0) (n:=t.toNat) (fun i σ H'=>∃(o6 o7 o8:Option V) (xs:List V) (ts:List Th),σ=[some (.ref a),some (.int deep),some (.int most),some (.ref L),some (.int top),some (.int mid),o6,o7,o8]∧StrS K S ns H a L deep H' xs ts∧ts.length=i) ⟨_,_,_,_,_,rfl,ss,rfl⟩ ?_ ?_
 ·clear ss
  rintro i σ H4 N B1 R hN hR hi ⟨o6,o7,o8,xs,ts,rfl,ss,tl⟩
  have xl:=Paired.length ss.ta
  refine ⟨_,rfl,a,S,ns,4,rfl,ss.pn,Vk rfl,ltI rfl,fun way H5 _ _ hp g=>?_⟩
  have ss:=ss.grw La hp g
  refine ⟨_,rfl,_,rfl,a,S,ns,top,rfl,ss.pn,by omega,by omega,fun num H6 n0 n1 hp g=>?_⟩
  have ss:=ss.grw La hp g
  clear hp g
  dsimp only
  refine Vg (fun σ' H'=>∃(num:Int),σ'=[some (.ref a),some (.int deep),some (.int most),some (.ref L),some (.int top),some (.int mid),some (.int (0+(i:Int))),some (.int way),some (.int num)]∧StrS K S ns H a L deep H' xs ts∧0≤num∧num<top) ?_ ?_
  ·intro nx hnx
   refine ⟨_,rfl,rfl,_,rfl,Tp (fun c=>?_) (fun c=>?_)⟩
   ·refine ⟨_,rfl,leN rfl,fun p np=>?_⟩
    have s7:=ss.laid (o:=.lst []) La np
    have e_p:(upd H6 p (.lst [])) p=some (.lst []):=Z4
    generalize upd H6 p (.lst [])=H7 at s7 e_p ⊢
    refine ⟨_,_,.lst s7.eL s7.ta.dvs,.lst e_p .nil,X0 (mF s7.ok) (by decide),X0 qd (by decide),_,rfl,?_⟩
    rw [oG]
    by_cases hts:ts=[]
    ·have em:(ts.map Th.D).isEmpty=true:=by rw [hts];rfl
     rw [em]
     exact Y5 (hnx _ _ ⟨num,rfl,s7,n0,n1⟩)
    ·have em:(ts.map Th.D).isEmpty=false:=by
      cases ts with
      | nil=>exact absurd rfl hts
      | cons _ _=>rfl
     rw [em]
     have tp:0<ts.length:=List.length_pos_iff.mpr hts
     refine Wy ?_
     refine ⟨_,rfl,_,rfl,_,rfl,L,_,rfl,.inl (SqL.of s7.eL),a,S,ns,_,rfl,s7.pn,by omega,by omega,fun d H8 y0 y1 hp g=>?_⟩
     have s8:=s7.grw La hp g
     obtain ⟨v,hv,mv⟩:=kZ (d:=d) s8.eL y0 y1
     obtain ⟨jx,hj⟩:=List.getElem?_of_mem mv
     obtain ⟨c,t,rfl,ht,e_c⟩:=s8.ta.get hj
     have ok:=s8.ok t (List.mem_of_getElem? ht)
     refine ⟨L,_,_,_,rfl,rfl,SqL.of s8.eL,hv,c,_,2,_,rfl,rfl,SqT.of e_c,rfl,?_⟩
     exact hnx _ _ ⟨t.num,rfl,s8,ok.1.1,by rw [←htop];exact ok.1.2.1⟩
   ·exact hnx _ _ ⟨num,rfl,ss,n0,n1⟩
  clear ss n0 n1
  rintro σ' H7 ⟨num,rfl,ss,n0,n1⟩
  refine Vg (fun σ' H'=>∃(num:Int),σ'=[some (.ref a),some (.int deep),some (.int most),some (.ref L),some (.int top),some (.int mid),some (.int (0+(i:Int))),some (.int way),some (.int num)]∧StrS K S ns H a L deep H' xs ts∧0≤num∧num<top) ?_ ?_
  ·intro nx hnx
   refine ⟨_,rfl,rfl,_,rfl,Tp (fun c=>?_) (fun c=>?_)⟩
   ·refine ⟨_,rfl,_,rfl,a,S,ns,4,rfl,ss.pn,Vk rfl,ltI rfl,fun d H8 _ _ hp g=>?_⟩
    have s8:=ss.grw La hp g
    refine ⟨_,_,rfl,rfl,_,rfl,_,_,rfl,rfl,by omega,?_⟩
    exact hnx _ _ ⟨(mid+d) % top,rfl,s8,Int.emod_nonneg _ (by omega),Int.emod_lt_of_pos _ (by omega)⟩
   ·exact hnx _ _ ⟨num,rfl,ss,n0,n1⟩
  clear ss n0 n1
  rintro σ' H8 ⟨num,rfl,ss,n0,n1⟩
  refine ⟨_,rfl,.inl ⟨rfl,_,SqL.of ss.eL⟩,_,rfl,a,S,ns,9,rfl,ss.pn,Vk rfl,ltI rfl,fun day H9 _ _ hp g=>?_⟩
  have ss:=ss.grw La hp g
  refine ⟨leN rfl,fun p np=>?_⟩
  have pa:=ss.pn.ne np
  have gp:=ss.pn.grw (Z7 np (.lst [.str "a",.str "b",.str "cd"]))
  have ss:=ss.laid (o:=.lst [.str "a",.str "b",.str "cd"]) La np
  have e_p:ak a (upd H9 p (.lst [.str "a",.str "b",.str "cd"])) p=some (.lst [.str "a",.str "b",.str "cd"]):=by rw [Zc pa];exact Z4
  generalize upd H9 p (.lst [.str "a",.str "b",.str "cd"])=H10 at ss e_p ⊢
  refine ⟨_,rfl,a,S,ns,3,rfl,ss.pn,Vk rfl,ltI rfl,fun d H11 y0 y1 hp g=>?_⟩
  have e_p:=g _ _ e_p
  have ss:=ss.grw La hp g
  obtain ⟨v,hv,mv⟩:=kZ (d:=d) (Z8 e_p).2 y0 y1
  obtain ⟨wd,rfl,wok⟩:∃z:Str,v=.str z∧PyData.strOk z=true:=by
   simp only [List.mem_cons,List.not_mem_nil,or_false] at mv
   rcases mv with rfl | rfl | rfl
   ·exact ⟨_,rfl,gi.1⟩
   ·exact ⟨_,rfl,gi.2.1⟩
   ·exact ⟨_,rfl,gi.2.2⟩
  refine ⟨p,_,_,_,rfl,rfl,Us e_p,hv,_,rfl,_,rfl,a,S,ns,rfl,ss.pn,fun many H12 mn hp g=>⟨leN rfl,fun c nc=>?_⟩⟩
  have ss:=ss.grw La hp g
  have ss:=ss.laid (o:=.tup [.int day,.str wd,.int num,.int many]) La nc
  have e_c:(upd H12 c (.tup [.int day,.str wd,.int num,.int many])) c=some (.tup (Th.mk day wd num many).vs):=Z4
  generalize upd H12 c (.tup [.int day,.str wd,.int num,.int many])=H13 at ss e_c ⊢
  have tk:ThK deep ⟨day,wd,num,many⟩:=⟨⟨n0,by rw [htop];exact n1,mn⟩,wok⟩
  refine ⟨L,xs,_,rfl,rfl,ss.eL,Zp (by omega),?_⟩
  exact hN _ _ ⟨_,_,_,_,_,rfl,ss.put La hpH n_L nHL e_c tk,by rw [List.length_append,tl];rfl⟩
 ·rintro σ H4 ⟨o6,o7,o8,xs,ts,rfl,ss,tl⟩
  refine ⟨_,(@Z6 _ _ _ (@Ze _ _ _ _ (pv 3))),_,rfl,hq L ts _ n_L ss.ok (by omega) (.lst (by rw [Zc La];exact ss.eL) (ss.ta.tup fun c ys e=>ss.pn.tup e).dvs) ss.pn ss.g⟩
end
end K26
namespace K26
open PySem L2 Ld
theorem Qv {α β:Type} {R:α→β→Prop}:∀{xs:List α} {ys:List β} (k:Nat),Paired R xs ys→k+1<xs.length→∃(xa:List α) (x1 x2:α) (xb:List α) (ya:List β) (y1 y2:β) (yb:List β),xs=xa++x1::x2::xb∧ys=ya++y1::y2::yb∧xa.length=k∧Paired R xa ya∧R x1 y1∧R x2 y2∧Paired R xb yb
 | _,_,k,.nil,h=>by simp at h
 | _,_,0,.cons h1 .nil,h=>by simp at h
 | _,_,0,.cons h1 (.cons h2 r),_=>⟨[],_,_,_,[],_,_,_,rfl,rfl,rfl,.nil,h1,h2,r⟩
 | _,_,k+1,.cons h1 r,h=>by
  obtain ⟨xa,x1,x2,xb,ya,y1,y2,yb,e1,e2,e3,p1,r1,r2,p2⟩:=Qv k r (by simpa using h)
  exact ⟨_::xa,x1,x2,xb,_::ya,y1,y2,yb,by rw [e1];rfl,by rw [e2];rfl,by rw [List.length_cons,e3],.cons h1 p1,r1,r2,p2⟩
theorem om {xa xb:List V} {d:Int} (h:(xa.length:Int)=d):cW (xa++xb) none (some d)=xa:=by
 unfold cW
 rw [←h,HT.sIx_none,HT.sIx_nat,List.drop_zero,Nat.sub_zero,List.length_append,Nat.min_eq_left (Nat.le_add_right _ _),List.take_left]
theorem gO {xa xb:List V} {x1 x2:V} {d:Int} (h:(xa.length:Int)=d):cW (xa++x1::x2::xb) (some (d+2)) none=xb:=by
 have e:d+2=((xa.length+2:Nat):Int):=by omega
 have e2:xa++x1::x2::xb=(xa++[x1,x2])++xb:=by simp
 have e3:(xa++[x1,x2]).length=xa.length+2:=by simp
 unfold cW
 rw [e,HT.sIx_none,HT.sIx_nat,e2,Nat.min_eq_left (by rw [List.length_append,e3];omega),←e3,List.drop_left,List.length_append,Nat.add_sub_cancel_left,List.take_length]
theorem qi {xa xb:List V} {x1:V} {d:Int} (h:(xa.length:Int)=d):atI (xa++x1::xb) d=some x1:=by
 rw [←h]
 exact Of (by simp)
theorem oY {xa xb:List V} {x1 x2:V} {d:Int} (h:(xa.length:Int)=d):atI (xa++x1::x2::xb) (d+1)=some x2:=by
 rw [←h]
 exact Of (j:=xa.length+1) (by simp)
def szs (ts:List Tr):Nat:=(ts.map fun t=>t.size+1).sum
def als (ts:List Tr):Nat:=(ts.map fun t=>t.all.length).sum
theorem Sn (xs ys:List Tr):szs (xs++ys)=szs xs+szs ys:=by unfold szs;rw [List.map_append,List.sum_append]
theorem Sy (xs ys:List Tr):als (xs++ys)=als xs+als ys:=by unfold als;rw [List.map_append,List.sum_append]
theorem Vf (t:Tr) (ts:List Tr):szs (t::ts)=t.size+1+szs ts:=by unfold szs;rw [List.map_cons,List.sum_cons]
theorem Vw (t:Tr) (ts:List Tr):als (t::ts)=t.all.length+als ts:=by unfold als;rw [List.map_cons,List.sum_cons]
def Trk (deep:Int) (t:Tr):Prop:=∀s∈t.streams,∀x∈s,ThK deep x
theorem iq:∀t:Tr,t.ht<t.size
 | .leaf _=>Nat.zero_lt_one
 | .node l r=>by
  have a:=iq l
  have b:=iq r
  show max l.ht r.ht+1<l.size+r.size+1
  omega
def muT (σ:St) (H:Hp):Nat:=match List.getD σ 3 none with
 | some (V.ref l)=>(match H l with
  | some (HO.lst xs)=>xs.length
  | _=>0)
 | _=>0
def vP (K:W.Frag):Sp:=fun vs H Q _=>∃(a S:Addr) (ns:List Int) (deep most:Int),vs=[.ref a,.int deep,.int most]∧Pn K S ns H a∧1≤deep∧deep≤10∧1≤most∧most≤20∧∀(v:V) (t:Tr) (H':Hp),Trk deep t→(t.size:Int)+1≤2 * most→(t.all.length:Int)≤6 * most→DV (ak a H') v t.D→Pn K S ns H' a→Grw a H H'→Q v H'
section
variable {P:Program} {w:World} {K:W.Frag} {mg:Str→Option Value} {base:Heap} {f:Addr} {fd:FuncData}
theorem vj (bO:mg "range"=none) (aF:mg "len"=none) (aq:Has P w K mg base "_law_take" 1 ["_law_pen_here","_law_most"] (dI K)) (gj:Has P w K mg base "_law_stream" 3 ["_law_pen_here","_law_deep","_law_most"] (rn K)) (F:Fun K "_law_tree" "_law_tree" ci f fd):FnOk P w K mg base CX0 4 f fd ["_law_pen_here","_law_deep","_law_most"] (vP K):=by
 refine F.ok U0 (fun vs H Q E h=>?_) (fun cdv A outer s H vs Q E hr h=>?_)
 ·obtain ⟨a,S,ns,deep,most,rfl,_⟩:=h
  rfl
 obtain ⟨a,S,ns,deep,most,rfl,hp,d0,d1,m0,m1,hq⟩:=h
 refine ⟨_,(@Z2 _ _ _ _ _ (hV (i:=3) U0.nd rfl rfl (own:=["_law_k"]) (CompOk.of rfl rfl (by rfl) (by rfl) (by rfl)) (S3 rfl bO (@Z0 _ _ _ _ _ (@Zd _ _ _ _ _ _ _ _ Zv Z3 (Z5 aq hr (@Z0 _ _ _ _ _ (pv 0) (@Z0 _ _ _ _ _ (pv 2) Z1 (by rfl)) (by rfl)))) Z1 (by rfl)))
  (fun _ _ _ _ _=>(Z9 (i:=0) S8 rfl (Or.inl rfl) (Or.inr rfl))) (fun _ _ _ _ _=>Xm)
  (fun _ _ _ _ _=>(Z5 gj hr (@Z0 _ _ _ _ _ (pv 1) (@Z0 _ _ _ _ _ (pv 2) (@Z0 _ _ _ _ _ Z3 Z1 (by rfl)) (by rfl)) (by rfl))))) Zf),?_⟩
 refine ⟨_,rfl,_,rfl,a,S,ns,most,rfl,hp,by omega,by omega,fun d H1 x0 x1 hp1 g1=>⟨_,_,rfl,rfl,1+d,rfl,by omega,by omega,?_⟩⟩
 refine fI (fun i ys H'=>Pn K S ns H' a∧Grw a H H'∧∃trs:List Tr,trs.length=i∧(∀t∈trs,Trk deep t)∧szs trs=2 * i∧als trs≤6 * i∧Paired (fun v t=>DV (ak a H') v t.D) ys trs) ⟨hp1,g1,[],rfl,fun _ h=>absurd h List.not_mem_nil,rfl,Nat.le_refl _,.nil⟩ ?_ ?_
 ·rintro i ys H2 C hi ⟨hp2,g2,trs,tl,ok,sz,al,pr⟩ hC
  have yl:=Paired.length pr
  refine ⟨Zp (by omega),Wk.refl _,_,rfl,_,rfl,a,S,ns,deep,6,rfl,hp2,d0,d1,by decide,by decide,fun L ts H3 nL tk tsl dv hp3 g3=>hC _ _ ⟨hp3,g2.trans g3,trs++[.leaf ts],by rw [List.length_append,tl];rfl,fun t ht=>?_,?_,?_,?_⟩⟩
  ·rcases List.mem_append.mp ht with h | h
   ·exact ok t h
   ·rw [List.mem_singleton.mp h]
    intro s hs
    rw [List.mem_singleton.mp hs]
    exact tk
  ·rw [Sn,sz,Vf]
   show 2 * i+(1+1+0)=2 * (i+1)
   omega
  ·rw [Sy,Vw]
   show als trs+(ts.length+0)≤6 * (i+1)
   omega
  ·exact Xn (Paired.mapP pr fun _ _ h=>h.mono g3) (.cons dv .nil)
 rintro ys H2 ⟨hp,gg,trs,tl,ok,sz,al,pr⟩
 have yl:=Paired.length pr
 refine ⟨Zn (by omega),fun l nl=>?_⟩
 have la:=hp.ne nl
 have gl:=hp.grw (Z7 nl (.lst ys))
 have e_l:ak a (upd H2 l (.lst ys)) l=some (.lst ys):=by rw [Zc la];exact Z4
 have hp:=hp.laid (o:=.lst ys) nl
 have gg:=gg.trans gl
 have pr:=Paired.mapP pr fun _ _ h=>h.mono gl
 generalize upd H2 l (.lst ys)=H3 at e_l hp gg pr ⊢
 have tpos:1≤trs.length:=by omega
 have sz:(szs trs:Int)≤2 * most:=by omega
 have al:(als trs:Int)≤6 * most:=by omega
 have tsm:trs.length≤20:=by omega
 clear yl tl gl
 refine ⟨_,(@Z2 _ _ _ _ _ (Ri PassesOwn.never (@Zk _ _ _ _ _ _ _ _ Ti (Zh Zu rfl aF PySem.boot_len (@Z0 _ _ _ _ _ (pv 3) Z1 (by rfl))) Z3 (Zl _)) (@Z2 _ _ _ _ _ (@Zg _ _ 4 _ _ _ _ U0.nd rfl (Or.inl rfl) (Z5 aq hr (@Z0 _ _ _ _ _ (pv 0) (@Z0 _ _ _ _ _ (@Zd _ _ _ _ _ _ _ _ Wh (Zh Zu rfl aF PySem.boot_len (@Z0 _ _ _ _ _ (pv 3) Z1 (by rfl))) Z3) Z1 (by rfl)) (by rfl))) (by rfl) (by first | exact .inl rfl | exact .inr rfl))
 (@Z6 _ _ _ (@Zg _ _ 3 _ _ _ _ U0.nd rfl (Or.inl rfl) (@Zd _ _ _ _ _ _ _ _ O2 (@Zd _ _ _ _ _ _ _ _ O2 (Vl Pr (pv 3) Te (Td (pv 4))) (@Yy _ _ _ _ (@Z0 _ _ _ _ _ (@Y1 _ _ _ _ _ (@Z0 _ _ _ _ _ Py (@Z0 _ _ _ _ _ (@Zz _ _ _ _ _ _ _ Ym (pv 3) (pv 4) (fun _ _=>rfl)) (@Z0 _ _ _ _ _ (@Zz _ _ _ _ _ _ _ Ym (pv 3) (@Zd _ _ _ _ _ _ _ _ Zv (pv 4) Z3) (fun _ _=>rfl)) Z1 (by rfl)) (by rfl)) (by rfl))) Z1 (by rfl)))) (Vl Pr (pv 3) (Td (@Zd _ _ _ _ _ _ _ _ Zv (pv 4) Z3)) Te)) (by rfl) (by first | exact .inl rfl | exact .inr rfl))))) Zf),?_⟩
 refine On (fun σ H'=>∃(l:Addr) (o4:Option V) (ys:List V) (trs:List Tr),σ=[some (.ref a),some (.int deep),some (.int most),some (.ref l),o4]∧Pn K S ns H' a∧Grw a H H'∧ak a H' l=some (.lst ys)∧Paired (fun v t=>DV (ak a H') v t.D) ys trs∧(∀t∈trs,Trk deep t)∧1≤trs.length∧trs.length≤20∧(szs trs:Int)≤2 * most∧(als trs:Int)≤6 * most) muT ⟨l,none,ys,trs,rfl,hp,gg,e_l,pr,ok,tpos,tsm,sz,al⟩ ?_ ?_
 ·clear hp gg e_l pr ok tpos tsm sz al
  rintro σ H4 ⟨l,o4,ys,trs,rfl,hp,gg,e_l,pr,ok,tpos,tsm,sz,al⟩
  have yl:=Paired.length pr
  refine ⟨_,rfl,l,_,rfl,.inl (Us e_l),_,_,rfl,rfl,_,rfl,Tp (fun c=>?_) (fun c=>?_)⟩
  ·have c:(1:Int)<(ys.length:Int):=of_decide_eq_true c
   have mu4:muT [some (.ref a),some (.int deep),some (.int most),some (.ref l),o4] H4=ys.length:=by
    unfold muT
    show (match H4 l with
     | some (HO.lst xs)=>xs.length
     | _=>0)=_
    rw [(Z8 e_l).2]
   rw [mu4]
   refine ⟨_,rfl,_,rfl,l,_,rfl,.inl (Us e_l),_,_,rfl,rfl,a,S,ns,_,rfl,hp,by omega,by omega,fun d H5 y0 y1 hp g5=>?_⟩
   have gg:=gg.trans g5
   have e_l:=g5 _ _ e_l
   have pr:=Paired.mapP pr fun _ _ h=>h.mono g5
   obtain ⟨xa,x1,x2,xb,ta,t1,t2,tb,rfl,rfl,xal,pa,r1,r2,pb⟩:=Qv d.toNat pr (by omega)
   have xd:(xa.length:Int)=d:=by omega
   have ca:=om (xb:=x1::x2::xb) xd
   have cb:=gO (xb:=xb) (x1:=x1) (x2:=x2) xd
   have a1:=qi (x1:=x1) (xb:=x2::xb) xd
   have a2:=oY (x1:=x1) (x2:=x2) (xb:=xb) xd
   have pal:=Paired.length pa
   have pbl:=Paired.length pb
   rw [List.length_append,List.length_cons,List.length_cons] at tsm
   have gk:Grw a H5 H5:=fun _ _ e=>e
   refine ⟨_,rfl,_,rfl,_,rfl,l,_,rfl,Us e_l,?_⟩
   rw [ca]
   intro p1 n_p1
   generalize hz:upd _ p1 _=G1
   have hw:=U6 hz n_p1 hp
   have hp:=hw.1
   have gz:=hw.2.1
   have ne_p1:=hw.2.2.1
   have ly:=hw.2.2.2
   clear hw hz
   have gg:=gg.trans gz
   have e_l:=gz _ _ e_l
   have gk:=gk.trans gz
   refine ⟨_,rfl,_,rfl,l,_,d,x1,rfl,rfl,Us e_l,a1,?_⟩
   refine ⟨_,rfl,_,rfl,_,_,rfl,rfl,l,_,d+1,x2,rfl,rfl,Us e_l,a2,leN rfl,?_⟩
   intro c n_c
   generalize hz:upd _ c _=G2
   have hw:=U6 hz n_c hp
   have hp:=hw.1
   have gz:=hw.2.1
   have ne_c:=hw.2.2.1
   have e_c:=hw.2.2.2
   clear hw hz
   have gg:=gg.trans gz
   have e_l:=gz _ _ e_l
   have ly:=gz _ _ ly
   have gk:=gk.trans gz
   refine ⟨leN rfl,?_⟩
   intro p2 o_
   generalize hz:upd _ p2 _=G3
   have hw:=U6 hz o_ hp
   have hp:=hw.1
   have gz:=hw.2.1
   have ne_p2:=hw.2.2.1
   have cS:=hw.2.2.2
   clear hw hz
   have gg:=gg.trans gz
   have e_l:=gz _ _ e_l
   have ly:=gz _ _ ly
   have e_c:=gz _ _ e_c
   have gk:=gk.trans gz
   refine ⟨p1,p2,_,_,rfl,rfl,(Z8 ly).2,(Z8 cS).2,Zn (by rw [List.length_singleton];omega),?_⟩
   intro p3 n_p3
   generalize hz:upd _ p3 _=G4
   have hw:=U6 hz n_p3 hp
   have hp:=hw.1
   have gz:=hw.2.1
   have ne_p3:=hw.2.2.1
   have gJ:=hw.2.2.2
   clear hw hz
   have gg:=gg.trans gz
   have e_l:=gz _ _ e_l
   have e_c:=gz _ _ e_c
   have gk:=gk.trans gz
   refine ⟨_,rfl,_,rfl,_,_,rfl,rfl,_,rfl,l,_,rfl,Us e_l,?_⟩
   rw [cb]
   intro p4 n_p4
   generalize hz:upd _ p4 _=G5
   have hw:=U6 hz n_p4 hp
   have hp:=hw.1
   have gz:=hw.2.1
   have ne_p4:=hw.2.2.1
   have e_p4:=hw.2.2.2
   clear hw hz
   have gg:=gg.trans gz
   have e_c:=gz _ _ e_c
   have gJ:=gz _ _ gJ
   have gk:=gk.trans gz
   refine ⟨p3,p4,_,_,rfl,rfl,(Z8 gJ).2,(Z8 e_p4).2,Zn (by rw [List.length_append,List.length_singleton];omega),?_⟩
   intro p5 n_p5
   generalize hz:upd _ p5 _=G6
   have hw:=U6 hz n_p5 hp
   have hp:=hw.1
   have gz:=hw.2.1
   have ne_p5:=hw.2.2.1
   have uE:=hw.2.2.2
   clear hw hz
   have gg:=gg.trans gz
   have e_c:=gz _ _ e_c
   have gk:=gk.trans gz
   refine ⟨⟨p5,_,_,ta++[.node t1 t2]++tb,rfl,hp,gg,uE,?_,?_,?_,?_,?_,?_⟩,?_⟩
   ·exact Xn (Xn (Paired.mapP pa fun _ _ h=>h.mono gk) (.cons (.tup e_c (.cons (.str _) (.cons (r1.mono gk) (.cons (r2.mono gk) .nil)))) .nil)) (Paired.mapP pb fun _ _ h=>h.mono gk)
   ·intro t ht
    rcases List.mem_append.mp ht with ht | ht
    ·rcases List.mem_append.mp ht with ht | ht
     ·exact ok t (List.mem_append_left _ ht)
     ·rw [List.mem_singleton.mp ht]
      intro s hs
      rcases List.mem_append.mp hs with hs | hs
      ·exact ok t1 (List.mem_append_right _ (.head _)) s hs
      ·exact ok t2 (List.mem_append_right _ (.tail _ (.head _))) s hs
    ·exact ok t (List.mem_append_right _ (.tail _ (.tail _ ht)))
   ·rw [List.length_append,List.length_append,List.length_singleton];omega
   ·rw [List.length_append,List.length_append,List.length_singleton];omega
   ·rw [Sn,Vf,Vf] at sz
    rw [Sn,Sn,Vf]
    have:szs ([]:List Tr)=0:=rfl
    show ((szs ta+(t1.size+t2.size+1+1+szs [])+szs tb:Nat):Int)≤_
    omega
   ·rw [Sy,Vw,Vw] at al
    rw [Sy,Sy,Vw]
    have:als ([]:List Tr)=0:=rfl
    show ((als ta+((t1.all++t2.all).length+als [])+als tb:Nat):Int)≤_
    rw [List.length_append]
    omega
   ·unfold muT
    show (match G6 p5 with
     | some (HO.lst xs)=>xs.length
     | _=>0)<_
    rw [(Z8 uE).2]
    show (xa++[V.ref c]++xb).length<_
    rw [List.length_append,List.length_append,List.length_singleton,List.length_append,List.length_cons,List.length_cons]
    omega
  ·have c:¬((1:Int)<(ys.length:Int)):=of_decide_eq_false (Bool.eq_false_iff.mpr c)
   obtain ⟨t,rfl⟩:∃t,trs=[t]:=List.length_eq_one_iff.mp (by omega)
   cases pr with
   | cons r1 r=>
   cases r
   refine ⟨_,(@Z6 _ _ _ (@Ze _ _ _ _ (@Zz _ _ _ _ _ _ _ Ym (pv 3) Z3 (fun _ _=>rfl)))),_,rfl,l,_,0,_,rfl,rfl,Us e_l,rfl,?_⟩
   rw [Vf] at sz
   rw [Vw] at al
   have s0:szs ([]:List Tr)=0:=rfl
   have l0:als ([]:List Tr)=0:=rfl
   exact hq _ t _ (ok t (.head _)) (by omega) (by omega) r1 hp gg
 ·rintro σ H' Q1 Q2 m ⟨v,e,p,ys,e1,e2,i,j,e3,e4,k,e5,r⟩
  exact ⟨v,e,p,ys,e1,e2,i,j,e3,e4,k,e5,m _ _ r⟩
end
def js (m:Nat):Sp:=fun vs H Q _=>∃(v:V) (t:Tr),vs=[v]∧DV H v t.D∧t.ht<m∧t.all.length≤100000∧∀(r:Addr) (H':Hp),Same H H'→H r=none→DV H' (.ref r) (cK t.all)→Q (.ref r) H'
section
variable {P:Program} {w:World} {K:W.Frag} {mg:Str→Option Value} {base:Heap} {f:Addr} {fd:FuncData}
theorem oM {m:Nat} (bY:Has P w K mg base "_law_things" m ["_law_tree_here"] (js m)) (af:mg "isinstance"=none) (bE:mg "list"=none)
  (F:Fun K "_law_things" "_law_things" bq f fd):FnOk P w K mg base CX0 (m+1) f fd ["_law_tree_here"] (js (m+1)):=by
 refine F.ok Ox (fun vs H Q E h=>?_) (fun cdv A outer s H vs Q E hr h=>?_)
 ·obtain ⟨v,t,rfl,_⟩:=h
  rfl
 obtain ⟨v,t,rfl,dv,ht,hl,hq⟩:=h
 refine ⟨_,(@Z2 _ _ _ _ _ (@Y7 _ _ _ _ _ _ _ _ (X3 (Zh Wc rfl af PyProof.Rows.boot_isinstance (@Z0 _ _ _ _ _ (pv 0) (@Z0 _ _ _ _ _ (W7 (v:=.ty "list") rfl bE PyProof.Rows.boot_list rfl) Z1 (by rfl)) (by rfl)))) (@Z6 _ _ _ (@Ze _ _ _ _ (X2 Oe rfl bE PyProof.Rows.boot_list (@Z0 _ _ _ _ _ (pv 0) Z1 (by rfl))))) Zq)
 (@Z6 _ _ _ (@Ze _ _ _ _ (@Zd _ _ _ _ _ _ _ _ O2 (Z5 bY hr (@Z0 _ _ _ _ _ (@Zz _ _ _ _ _ _ _ Yg (pv 0) Z3 (fun _ _=>rfl)) Z1 (by rfl))) (Z5 bY hr (@Z0 _ _ _ _ _ (@Zz _ _ _ _ _ _ _ Yg (pv 0) Z3 (fun _ _=>rfl)) Z1 (by rfl))))))),?_⟩
 cases t with
 | leaf ts=>
  obtain ⟨a,xs,rfl,e,q⟩:=DV.list_inv dv
  refine ⟨_,rfl,_,_,"list",_,rfl,TyOf.lst e,mP,_,rfl,Wy ?_⟩
  refine ⟨_,rfl,a,xs,rfl,.inl (SqL.of e),fun r hn=>?_⟩
  exact hq r _ (Z7 hn _) hn (.lst Z4 (q.mono (Z7 hn _)))
 | node l r=>
  obtain ⟨a,mm,x,y,rfl,e,hx,hy⟩:=DV.node_inv dv
  have ht:max l.ht r.ht+1<m+1:=ht
  have hl:(l.all++r.all).length≤100000:=hl
  rw [List.length_append] at hl
  refine ⟨_,rfl,_,_,"list",_,rfl,TyOf.tup e,lT,_,rfl,Y5 ?_⟩
  refine ⟨_,rfl,a,_,1,_,rfl,rfl,SqT.of e,my _ _ _,x,l,rfl,hx,by omega,by omega,fun r1 H1 g1 _ dv1=>?_⟩
  refine ⟨_,rfl,a,_,2,_,rfl,rfl,SqT.of (g1 _ _ e),fc _ _ _,y,r,rfl,hy.mono g1,by omega,by omega,fun r2 H2 g2 _ dv2=>?_⟩
  obtain ⟨a1,xs1,e1,f1,q1⟩:=DV.list_inv dv1
  obtain ⟨a2,xs2,e2,f2,q2⟩:=DV.list_inv dv2
  cases e1
  cases e2
  have l1:=q1.length
  have l2:=q2.length
  rw [List.length_map] at l1 l2
  refine ⟨r1,r2,xs1,xs2,rfl,rfl,g2 _ _ f1,f2,Zn (by omega),fun p hn=>?_⟩
  refine hq p _ (g1.trans (g2.trans (Z7 hn _))) (g1.free (g2.free hn)) (.lst Z4 ?_)
  show DVs _ (xs1++xs2) ((l.all++r.all).map Th.D)
  rw [List.map_append]
  exact (q1.mono (g2.trans (Z7 hn _))).append (q2.mono (Z7 hn _))
theorem mB (af:mg "isinstance"=none) (bE:mg "list"=none) (F:Fun K "_law_things" "_law_things" bq f fd) (b:Binds K fd ["_law_tree_here"] []) (hm:mg "_law_things"=some (.ref f)):
  ∀m:Nat,Has P w K mg base "_law_things" m ["_law_tree_here"] (js m)
 | 0=>Has.of (qu fun vs H Q E h=>by
   obtain ⟨v,t,_,_,h1,_⟩:=h
   omega) b F.kp hm
 | m+1=>Has.of (oM (mB af bE F b hm m) af bE F) b F.kp hm
end
end K26
namespace K26
open PySem L2 Ld
def wS (g:Int×Int→Int) (ps:Sps):Int:=(ps.map fun p=>p.2 * g p.1).sum
theorem Ux {g:Int×Int→Int} {ps qs:Sps} (h:ps.Perm qs):wS g ps=wS g qs:=N3 (h.map _)
theorem iD {g:Int×Int→Int} {k:Int×Int} {ps:Sps}:(ps.map (·.1)).Nodup→wS g (bB ps k)=wS g ps - cnt ps k * g k:=by
 induction ps with
 | nil=>
  intro _
  show (0:Int)=0 - cnt [] k * g k
  rw [show cnt [] k=0 from rfl,Int.zero_mul]
  rfl
 | cons p ps ih=>
  intro nd
  rw [List.map_cons,List.nodup_cons] at nd
  have ih:=ih nd.2
  unfold wS bB at ih ⊢
  by_cases e:p.1=k
  ·have o:cnt ps k=0:=Yw (by rw [←e];exact nd.1)
   have c:cnt (p::ps) k=p.2:=by unfold cnt;rw [Ye,if_pos e]
   rw [List.filter_cons,if_neg (by simpa using e),ih,o,c,List.map_cons,List.sum_cons,e,Int.zero_mul]
   omega
  ·have c:cnt (p::ps) k=cnt ps k:=by unfold cnt;rw [Ye,if_neg e]
   rw [List.filter_cons,if_pos (decide_eq_true e),List.map_cons,List.sum_cons,ih,c,List.map_cons,List.sum_cons]
   omega
theorem Pj {g:Int×Int→Int} {ps:Sps} {k:Int×Int} {n:Int} (nd:(ps.map (·.1)).Nodup):wS g (av ps k n)=wS g ps - cnt ps k * g k+n * g k:=by
 have h:(av ps k n).Perm ((k,n)::bB ps k):=by
  have hk:k∉(bB ps k).map (·.1):=by
   rw [Ua]
   intro z
   have:=(List.mem_filter.mp z).2
   simp at this
  refine U3 (X8 nd) (by rw [List.map_cons];exact List.nodup_cons.mpr ⟨hk,Sw nd⟩) fun j=>?_
  rw [X5,Ye,Ww]
  by_cases e:j=k
  ·rw [if_pos e,if_pos e.symm]
  ·rw [if_neg e,if_neg (Ne.symm e),if_neg e]
 rw [Ux h]
 have:=iD (g:=g) (k:=k) nd
 unfold wS at this ⊢
 rw [List.map_cons,List.sum_cons,this]
 show n * g k+_=_
 omega
theorem Qd {ps:Sps} (nd:(ps.map (·.1)).Nodup) (pos:∀p∈ps,0≤p.2) (k:Int×Int):0≤cnt ps k:=by
 by_cases h:k∈ps.map (·.1)
 ·obtain ⟨p,hp,rfl⟩:=List.mem_map.mp h
  rw [Vt nd hp]
  exact pos p hp
 ·rw [Yw h]
  exact Int.le_refl _
theorem iL {g:Int×Int→Int} {ps:Sps} {k:Int×Int} (nd:(ps.map (·.1)).Nodup):wS g (aK ps k)=wS g ps+(if k∈ps.map (·.1) then cnt ps k * (g (am k) - g k) else 0):=by
 unfold aK
 by_cases h:k∈ps.map (·.1)
 ·rw [if_pos h,if_pos h]
  unfold dZ cw
  have n1:=X8 (k:=am k) (n:=cnt ps (am k)+cnt ps k) nd
  have n2:=X8 (k:=k) (n:=cnt ps k - cnt ps k) n1
  have c1:cnt (av (av ps (am k) (cnt ps (am k)+cnt ps k)) k (cnt ps k - cnt ps k)) k=0:=by rw [Ub,if_pos rfl,Int.sub_self]
  have c2:cnt (av ps (am k) (cnt ps (am k)+cnt ps k)) k=cnt ps k:=by rw [Ub,if_neg (Pz k)]
  rw [iD n2,c1,Pj n1,c2,Pj nd,Int.sub_self,Int.zero_mul,Int.add_mul,Int.mul_sub]
  omega
 ·rw [if_neg h,if_neg h,Int.add_zero]
def eA (g:Int×Int→Int):Prop:=∀h j,0≤h→0≤j→g (upK h j)≤g (loK h j)∧g (upK h j)≤g (hiK h j)
theorem qy {g:Int×Int→Int} {deep bar h j:Int} {ps:Sps} (G:eA g) (o:Pok deep ps) (f:Fst deep bar ps h j):wS g (bf ps h j)≤wS g ps:=by
 have hj:0≤h∧0≤j:=by
  rcases f.in_ with i | i
  ·obtain ⟨a,_,b,_⟩:=o.kok.st _ i
   have a:0≤h:=a
   have b:0≤2 * j:=b
   omega
  ·obtain ⟨a,_,b,_⟩:=o.kok.st _ i
   have a:0≤h:=a
   have b:0≤2 * j+1:=b
   omega
 obtain ⟨g1,g2⟩:=G h j hj.1 hj.2
 have nd:=o.kok.nd
 have c0:=fun k=>Qd nd (fun p hp=>by have:=o.pos p hp;omega) k
 unfold bf
 rw [iL (Tt nd),iL nd,V8,Ro,Uc,if_neg (Ne.symm (i8 h j)),V8,if_neg (ja h j)]
 have m1:cnt ps (loK h j) * (g (upK h j) - g (loK h j))≤0:=Int.mul_nonpos_of_nonneg_of_nonpos (c0 _) (by omega)
 have m2:cnt ps (hiK h j) * (g (upK h j) - g (hiK h j))≤0:=Int.mul_nonpos_of_nonneg_of_nonpos (c0 _) (by omega)
 split <;> split <;> omega
theorem sA {g:Int×Int→Int} {deep bar:Int} (G:eA g) {ps fs ps':Sps} (s:Stl deep bar ps fs ps'):Pok deep ps→wS g ps'≤wS g ps:=by
 induction s with
 | done n=>exact fun _=>Int.le_refl _
 | step f p1 s ih=>
  intro o
  have h:=ih ((Ou o f.in_ f.hd).perm p1)
  rw [Ux p1] at h
  exact Int.le_trans h (qy G o f)
theorem oq {g:Int×Int→Int}:∀{ys xs:Sps},(xs.map (·.1)).Nodup→wS g (bd xs ys)=wS g xs+wS g ys:=by
 intro ys
 induction ys with
 | nil=>
  intro xs _
  show wS g xs=wS g xs+0
  omega
 | cons p ys ih=>
  intro xs h
  rw [Tx,ih (X8 h),Pj h,Int.add_mul]
  have e:wS g (p::ys)=p.2 * g p.1+wS g ys:=by
   unfold wS
   rw [List.map_cons,List.sum_cons]
  rw [e]
  omega
theorem iK {g:Int×Int→Int} {deep bar:Int} {ps:Sps} (G:eA g) (o:Pok deep ps):wS g (cP deep bar ps)≤wS g ps:=by
 obtain ⟨fs,ps',s⟩:=R7 (deep:=deep) (bar:=bar) _ ps (Nat.le_refl _) o.kok
 rw [(Vz s o.kok.nd).1,Ux (Y0 ps')]
 exact sA G s o
theorem m_ {g:Int×Int→Int} {room deep:Int} {xs ys:Sps} (G:eA g) (hx:Pok deep xs) (hy:Pok deep ys):wS g (a_ room deep xs ys)≤wS g xs+wS g ys:=by
 have h:=iK (bar:=ai (bd xs ys) / room) G (Ue hx hy.each)
 rw [oq hx.kok.nd] at h
 exact h
def wT (g:Int×Int→Int) (ts:List Th):Int:=(ts.map fun t=>t.many * g (0,t.num)).sum
theorem ng (g:Int×Int→Int) (a b:List Th):wT g (a++b)=wT g a+wT g b:=by
 unfold wT
 rw [List.map_append,List.sum_append]
theorem uW {g:Int×Int→Int} {room deep:Int} {t:Th} (G:eA g) (d0:0≤deep) (h:ThL deep t):wS g (thL room deep t)≤t.many * g (0,t.num):=by
 have q:=iK (bar:=t.many / room) G (So d0 h)
 have e:wS g [((0,t.num),t.many)]=t.many * g (0,t.num):=Int.add_zero _
 rw [e] at q
 exact q
theorem kB {g:Int×Int→Int} {room deep:Int} (G:eA g) (d0:0≤deep):∀(ts:List Th) (a:Sps),Pok deep a→(∀t∈ts,ThL deep t)→wS g (ts.foldl (fun a t=>a_ room deep a (thL room deep t)) a)≤wS g a+wT g ts:=by
 intro ts
 induction ts with
 | nil=>
  intro a _ _
  show wS g a≤wS g a+0
  omega
 | cons t ts ih=>
  intro a o h
  have ht:=h t (.head _)
  have ot:=(Pl (room:=room) d0 ht).1.pok
  have q:=ih (a_ room deep a (thL room deep t)) (V9 o ot).1.pok fun x hx=>h x (.tail _ hx)
  have m:=m_ (room:=room) G o ot
  have w:=uW (room:=room) G d0 ht
  have e:wT g (t::ts)=t.many * g (0,t.num)+wT g ts:=ng g [t] ts |>.trans (by unfold wT;simp)
  rw [e]
  show wS g (ts.foldl _ (a_ room deep a (thL room deep t)))≤_
  omega
theorem tj {g:Int×Int→Int} {room deep:Int} {ts:List Th} (G:eA g) (d0:0≤deep) (h:∀t∈ts,ThL deep t):wS g (cr room deep ts)≤wT g ts:=by
 have q:=kB (room:=room) G d0 ts [] Px h
 have e:wS g []=0:=rfl
 rw [e,Int.zero_add] at q
 exact q
end K26
namespace K26
open PySem L2 Ld
theorem lQ:∀{l:List Int},(∀p∈l,0≤p)→0≤l.sum
 | [],_=>Int.le_refl _
 | a::l,h=>by
  have h1:=h a (.head _)
  have h2:=lQ fun p hp=>h p (.tail _ hp)
  rw [List.sum_cons];omega
def Dom (ps:Sps) (ts:List Th):Prop:=∀g,eA g→wS g ps≤wT g ts
theorem qa {room deep:Int} {ts:List Th} (d0:0≤deep) (h:∀t∈ts,ThL deep t):Dom (cr room deep ts) ts:=fun g G=>tj G d0 h
theorem h9 {room deep:Int} {xs ys:Sps} {a b:List Th} (hx:Pok deep xs) (hy:Pok deep ys) (da:Dom xs a) (db:Dom ys b):Dom (a_ room deep xs ys) (a++b):=fun g G=>by
 have m:=m_ (room:=room) G hx hy
 have:=da g G
 have:=db g G
 rw [ng]
 omega
theorem lO {h:Int} (h0:0≤h):(2:Int) ^ (h+1).toNat=2 ^ h.toNat * 2:=by
 rw [show (h+1).toNat=h.toNat+1 by omega,Int.pow_succ]
theorem Ws (n:Nat):(0:Int)<2 ^ n:=Int.pow_pos (by decide)
theorem si {h j:Int} (h0:0≤h):aS (upK h j)≤aS (loK h j)∧aS (upK h j)≤aS (hiK h j):=by
 have p:=Ws h.toNat
 have e:=lO h0
 unfold aS upK loK hiK
 show j * 2 ^ (h+1).toNat≤2 * j * 2 ^ h.toNat∧j * 2 ^ (h+1).toNat≤(2 * j+1) * 2 ^ h.toNat
 rw [e]
 generalize (2:Int) ^ h.toNat=q at p
 have e1:j * (q * 2)=2 * j * q:=by rw [←Int.mul_assoc,Int.mul_comm (j * q) 2,Int.mul_assoc]
 rw [e1,Int.add_mul,Int.one_mul]
 omega
theorem sK {h j:Int} (h0:0≤h):aO (loK h j)≤aO (upK h j)∧aO (hiK h j)≤aO (upK h j):=by
 have p:=Ws h.toNat
 have e:=lO h0
 unfold aO upK loK hiK
 show (2 * j+1) * 2 ^ h.toNat - 1≤(j+1) * 2 ^ (h+1).toNat - 1∧(2 * j+1+1) * 2 ^ h.toNat - 1≤(j+1) * 2 ^ (h+1).toNat - 1
 rw [e]
 generalize (2:Int) ^ h.toNat=q at p
 have e1:(j+1) * (q * 2)=2 * j * q+q+q:=by
  rw [Int.add_mul,Int.one_mul,←Int.mul_assoc,Int.mul_comm (j * q) 2,Int.mul_assoc]
  omega
 have e2:(2 * j+1+1) * q=2 * j * q+q+q:=by rw [Int.add_mul,Int.add_mul,Int.one_mul]
 rw [e1,e2,Int.add_mul,Int.one_mul]
 omega
theorem uN (n:Int):aS (0,n)=n:=by
 show n * 2 ^ (0:Int).toNat=n
 rw [show (0:Int).toNat=0 from rfl,Int.pow_zero,Int.mul_one]
theorem ue (n:Int):aO (0,n)=n:=by
 show (n+1) * 2 ^ (0:Int).toNat - 1=n
 rw [show (0:Int).toNat=0 from rfl,Int.pow_zero,Int.mul_one]
 omega
def ind (b:Prop) [Decidable b]:Int:=if b then 1 else 0
theorem eI {a b:Prop} [Decidable a] [Decidable b] (h:a→b):ind a≤ind b:=by
 unfold ind
 by_cases c:a
 ·rw [if_pos c,if_pos (h c)]
  exact Int.le_refl _
 ·rw [if_neg c]
  split <;> decide
theorem tD (g:Int×Int→Int) (ps:Sps):wS (fun k=>-g k) ps=-wS g ps:=by
 unfold wS
 induction ps with
 | nil=>rfl
 | cons p ps ih=>
  rw [List.map_cons,List.sum_cons,List.map_cons,List.sum_cons,ih,Int.mul_neg]
  omega
theorem tW (g:Int×Int→Int) (ts:List Th):wT (fun k=>-g k) ts=-wT g ts:=by
 unfold wT
 induction ts with
 | nil=>rfl
 | cons p ps ih=>
  rw [List.map_cons,List.sum_cons,List.map_cons,List.sum_cons,ih,Int.mul_neg]
  omega
theorem gB {room deep:Int} (d0:0≤deep) {t:Tr}:(∀s∈t.streams,∀x∈s,ThL deep x)→Dom (glT room deep t) t.all∧Pok deep (glT room deep t):=by
 induction t with
 | leaf ts=>exact fun h=>⟨qa d0 (h ts (.head _)),(Ss d0 (h ts (.head _))).1.pok⟩
 | node l r il ir=>
  intro h
  obtain ⟨a1,a2⟩:=il fun s hs=>h s (List.mem_append_left _ hs)
  obtain ⟨b1,b2⟩:=ir fun s hs=>h s (List.mem_append_right _ hs)
  exact ⟨h9 a2 b2 a1 b1,(V9 a2 b2).1.pok⟩
def Hb (bar:Int) (ps:Sps):Prop:=∀k,1≤k.1→cnt ps k≤bar
theorem oS {deep bar h j:Int} {ps:Sps} (f:Fst deep bar ps h j) (b0:0≤bar) (hb:Hb bar ps):Hb bar (bf ps h j):=fun k hk=>by
 have e:=Vb f.in_ k
 unfold cnt
 rw [e]
 by_cases c1:k=loK h j∨k=hiK h j
 ·rw [if_pos c1]
  exact b0
 ·rw [if_neg c1]
  by_cases c2:k=upK h j
  ·rw [if_pos c2]
   exact f.le
  ·rw [if_neg c2]
   exact hb k hk
theorem iT {bar:Int} {ps qs:Sps} (p:ps.Perm qs) (nd:(ps.map (·.1)).Nodup) (h:Hb bar ps):Hb bar qs:=fun k hk=>by
 rw [←Sb (Xr p nd k)]
 exact h k hk
theorem tV {deep bar:Int} (b0:0≤bar) {ps fs ps':Sps} (s:Stl deep bar ps fs ps'):(ps.map (·.1)).Nodup→Hb bar ps→Hb bar ps':=by
 induction s with
 | done n=>exact fun _ h=>h
 | step f p1 s ih=>
  intro nd h
  exact ih ((p1.map _).nodup_iff.mpr (Wl nd)) (iT p1.symm (Wl nd) (oS f b0 h))
theorem im {deep bar:Int} {ps:Sps} (b0:0≤bar) (o:Pok deep ps) (h:Hb bar ps):Hb bar (cP deep bar ps):=by
 obtain ⟨fs,ps',s⟩:=R7 (deep:=deep) (bar:=bar) _ ps (Nat.le_refl _) o.kok
 have q:=tV b0 s o.kok.nd h
 rw [(Vz s o.kok.nd).1]
 exact iT (Y0 ps').symm (Pp s o.kok.nd).1 q
theorem pe {xs ys:Sps} (ny:(ys.map (·.1)).Nodup) (k:Int×Int):cnt (bd xs ys) k=cnt xs k+cnt ys k:=by
 have e:=Tm (xs:=xs) k ny
 by_cases h:k∈ys.map (·.1)
 ·rw [if_pos h] at e
  unfold cnt at e ⊢
  rw [e]
 ·rw [if_neg h] at e
  rw [Sb e,Yw h,Int.add_zero]
theorem pS {a b r:Int} (h:0<r):a / r+b / r≤(a+b) / r:=by
 have h1:=Int.mul_ediv_self_le (x:=a) (k:=r) (by omega)
 have h2:=Int.mul_ediv_self_le (x:=b) (k:=r) (by omega)
 rw [Int.le_ediv_iff_mul_le h,Int.add_mul,Int.mul_comm (a / r),Int.mul_comm (b / r)]
 omega
structure Gl (room deep:Int) (ps:Sps):Prop where
 pok:Pok deep ps
 hb:Hb (ai ps / room) ps
theorem R6 {deep:Int} {ps:Sps} (o:Pok deep ps):0≤ai ps:=lQ fun n hn=>by
 obtain ⟨p,hp,rfl⟩:=List.mem_map.mp hn
 have:=o.pos p hp
 omega
theorem gx {room deep:Int} {xs ys:Sps} (r1:1≤room) (hx:Gl room deep xs) (hy:Gl room deep ys):Gl room deep (a_ room deep xs ys):=by
 obtain ⟨a,b,_⟩:=V9 (room:=room) hx.pok hy.pok
 refine ⟨a.pok,?_⟩
 rw [b]
 have o:=Ue hx.pok hy.pok.each
 have s:=Sz (ys:=ys) hx.pok.kok.nd
 have q:=im (bar:=ai (bd xs ys) / room) (Int.ediv_nonneg (R6 o) (by omega)) o fun k hk=>by
  rw [pe hy.pok.kok.nd,s]
  have:=hx.hb k hk
  have:=hy.hb k hk
  have:=pS (a:=ai xs) (b:=ai ys) (r:=room) (by omega)
  omega
 rw [←s]
 exact q
theorem uG {room deep:Int} {t:Th} (r1:1≤room) (d0:0≤deep) (h:ThL deep t):Gl room deep (thL room deep t):=by
 obtain ⟨a,b,_⟩:=Pl (room:=room) d0 h
 refine ⟨a.pok,?_⟩
 rw [b]
 have m0:0≤t.many / room:=Int.ediv_nonneg (by have:=h.2.2;omega) (by omega)
 refine im m0 (So d0 h) fun k hk=>?_
 rw [Yw fun z=>?_]
 ·exact m0
 ·have e:k=(0,t.num):=List.mem_singleton.mp z
  rw [e] at hk
  exact absurd hk (by show ¬(1:Int)≤0;decide)
theorem sC {room deep:Int}:Gl room deep []:=⟨Px,fun k _=>by
 show (0:Int)≤0 / room
 rw [Int.zero_ediv]
 exact Int.le_refl _⟩
theorem sd {room deep:Int} (r1:1≤room) (d0:0≤deep):∀(ts:List Th) (a:Sps),Gl room deep a→(∀t∈ts,ThL deep t)→Gl room deep (ts.foldl (fun a t=>a_ room deep a (thL room deep t)) a):=by
 intro ts
 induction ts with
 | nil=>exact fun a h _=>h
 | cons t ts ih=>exact fun a h g=>ih _ (gx r1 h (uG r1 d0 (g t (.head _)))) fun x hx=>g x (.tail _ hx)
theorem uz {room deep:Int} (r1:1≤room) (d0:0≤deep) {t:Tr}:(∀s∈t.streams,∀x∈s,ThL deep x)→Gl room deep (glT room deep t):=by
 induction t with
 | leaf ts=>exact fun h=>sd r1 d0 ts [] sC (h ts (.head _))
 | node l r il ir=>exact fun h=>gx r1 (il fun s hs=>h s (List.mem_append_left _ hs)) (ir fun s hs=>h s (List.mem_append_right _ hs))
end K26
namespace K26
open PySem L2 Ld
def wit (s k:Int×Int):Prop:=aS s≤aS k∧aO k≤aO s
instance (s k:Int×Int):Decidable (wit s k):=inferInstanceAs (Decidable (_∧_))
def gin (s k:Int×Int):Int:=ind (wit s k)
theorem O9 {p:Prop} [Decidable p]:0≤ind p:=by
 unfold ind
 split <;> decide
theorem U8 {p:Prop} [Decidable p] (h:p):ind p=1:=if_pos h
theorem Tq {p:Prop} [Decidable p] (h:¬p):ind p=0:=if_neg h
theorem lJ (s:Int×Int):eA (gin s):=fun h j h0 _=>by
 have a:=si (j:=j) h0
 have b:=sK (j:=j) h0
 exact ⟨eI fun z=>⟨Int.le_trans z.1 a.1,Int.le_trans b.1 z.2⟩,eI fun z=>⟨Int.le_trans z.1 a.2,Int.le_trans b.2 z.2⟩⟩
theorem Qn {s:Int×Int} {n:Int}:wit s (0,n)↔aS s≤n∧n≤aO s:=by
 unfold wit
 rw [uN,ue]
theorem mU (k:Int×Int):aO k=aS k+2 ^ k.1.toNat - 1:=by
 unfold aS aO
 rw [Int.add_mul,Int.one_mul]
theorem uB {s k:Int×Int} (s0:0≤s.1) (k0:0≤k.1) (h:wit s k):k.1≤s.1:=by
 rcases Int.lt_or_le s.1 k.1 with c | c
 ·have a:=mU s
  have b:=mU k
  have p:(2:Int) ^ k.1.toNat=2 ^ (k.1.toNat - s.1.toNat - 1) * 2 ^ s.1.toNat * 2:=by
   rw [Int.mul_assoc,←Int.pow_succ,←Int.pow_add]
   congr 1
   omega
  have q:=Ws s.1.toNat
  have q2:1 * 2 ^ s.1.toNat≤(2:Int) ^ (k.1.toNat - s.1.toNat - 1) * 2 ^ s.1.toNat:=Int.mul_le_mul_of_nonneg_right (Ws _) (Int.le_of_lt q)
  obtain ⟨h1,h2⟩:=h
  omega
 ·exact c
theorem mw {s k:Int×Int} (k0:0≤k.1) (le:k.1≤s.1) {n:Int} (a:aS k≤n) (b:n≤aO k) (c:aS s≤n) (d:n≤aO s):wit s k:=by
 unfold aS at a c
 unfold aO at b d
 have pk:=Ws k.1.toNat
 have e:(2:Int) ^ s.1.toNat=2 ^ (s.1.toNat - k.1.toNat) * 2 ^ k.1.toNat:=by
  rw [←Int.pow_add]
  congr 1
  omega
 have pm:=Ws (s.1.toNat - k.1.toNat)
 unfold wit aS aO
 rw [e]
 rw [e] at c d
 rw [←Int.mul_assoc] at c d
 rw [←Int.mul_assoc,←Int.mul_assoc]
 generalize (2:Int) ^ (s.1.toNat - k.1.toNat)=m at c d pm ⊢
 generalize (2:Int) ^ k.1.toNat=w at a b c d pk ⊢
 have l1:s.2 * m<k.2+1:=by
  have:s.2 * m * w<(k.2+1) * w:=by omega
  exact Int.lt_of_mul_lt_mul_right this (Int.le_of_lt pk)
 have l2:k.2<(s.2+1) * m:=by
  have:k.2 * w<(s.2+1) * m * w:=by omega
  exact Int.lt_of_mul_lt_mul_right this (Int.le_of_lt pk)
 have m1:s.2 * m * w≤k.2 * w:=Int.mul_le_mul_of_nonneg_right (by omega) (Int.le_of_lt pk)
 have m2:(k.2+1) * w≤(s.2+1) * m * w:=Int.mul_le_mul_of_nonneg_right (by omega) (Int.le_of_lt pk)
 exact ⟨m1,by omega⟩
theorem Uy (g:Int×Int→Int) (p:(Int×Int)×Int) (ps:Sps):wS g (p::ps)=p.2 * g p.1+wS g ps:=by
 unfold wS
 rw [List.map_cons,List.sum_cons]
theorem hJ {g:Int×Int→Int} (h:∀k,0≤g k) {ps:Sps}:(∀p∈ps,0≤p.2)→0≤wS g ps:=by
 induction ps with
 | nil=>exact fun _=>Int.le_refl _
 | cons p ps ih=>
  intro pos
  rw [Uy]
  have a:=Int.mul_nonneg (pos p (.head _)) (h p.1)
  have b:=ih fun x hx=>pos x (.tail _ hx)
  omega
theorem iS {g:Int×Int→Int} {ps:Sps}:(∀p∈ps,p.2=0∨g p.1=0)→wS g ps=0:=by
 induction ps with
 | nil=>exact fun _=>rfl
 | cons p ps ih=>
  intro h
  rw [Uy,ih fun x hx=>h x (.tail _ hx)]
  rcases h p (.head _) with z | z
  ·rw [z,Int.zero_mul];rfl
  ·rw [z,Int.mul_zero];rfl
theorem Xd (ps:Sps):wS (fun _=>1) ps=ai ps:=by
 unfold wS ai
 exact congrArg List.sum (List.map_congr_left fun p _=>Int.mul_one _)
theorem sum_cons (p:(Int×Int)×Int) (ps:Sps):ai (p::ps)=p.2+ai ps:=by
 unfold ai
 rw [List.map_cons,List.sum_cons]
structure Can (ps ls:Sps):Prop where
 each:∀s:Int×Int,0≤s.1→wS (gin s) ps≤wS (gin s) ls
 all:ai ps=ai ls
structure Tkn (lo hi c:Int) (ls ls':Sps) (due:Int):Prop where
 keys:ls'.map (·.1)=ls.map (·.1)
 nn:∀p∈ls',0≤p.2
 d0:0≤due
 d1:due≤c
 one:∀g:Int×Int→Int,(∀n,lo≤n→n≤hi→g (0,n)=1)→wS g ls'=wS g ls - (c - due)
 zer:∀g:Int×Int→Int,(∀n,lo≤n→n≤hi→g (0,n)=0)→wS g ls'=wS g ls
 dn:∀g:Int×Int→Int,(∀k,0≤g k)→wS g ls'≤wS g ls
theorem u_ {lo hi c:Int} {ls:Sps} (c0:0≤c) (nn:∀p∈ls,0≤p.2):Tkn lo hi c ls ls c:=
 ⟨rfl,nn,c0,Int.le_refl _,fun g _=>by rw [Int.sub_self,Int.sub_zero],fun _ _=>rfl,fun _ _=>Int.le_refl _⟩
theorem lG {lo hi c due n:Int} {ls ls':Sps} (T:Tkn lo hi c ls ls' due) (nd:(ls.map (·.1)).Nodup) (hn:(0,n)∈ls.map (·.1)) (n0:lo≤n) (n1:n≤hi):Tkn lo hi c ls (av ls' (0,n) (cnt ls' (0,n) - min due (cnt ls' (0,n)))) (due - min due (cnt ls' (0,n))):=by
 have nd':(ls'.map (·.1)).Nodup:=by rw [T.keys];exact nd
 have cn:0≤cnt ls' (0,n):=Qd nd' T.nn _
 have d0:=T.d0
 have d1:=T.d1
 have t0:0≤min due (cnt ls' (0,n)):=by omega
 have t1:min due (cnt ls' (0,n))≤due:=Int.min_le_left _ _
 have t2:min due (cnt ls' (0,n))≤cnt ls' (0,n):=Int.min_le_right _ _
 have w:=fun g:Int×Int→Int=>Pj (g:=g) (k:=(0,n)) (n:=cnt ls' (0,n) - min due (cnt ls' (0,n))) nd'
 generalize min due (cnt ls' (0,n))=t at *
 have w2:∀g:Int×Int→Int,wS g (av ls' (0,n) (cnt ls' (0,n) - t))=wS g ls' - t * g (0,n):=fun g=>by
  rw [w g,Int.sub_mul]
  omega
 refine ⟨?_,fun p hp=>?_,by omega,by omega,fun g h=>?_,fun g h=>?_,fun g h=>?_⟩
 ·rw [Wr,if_pos (by rw [T.keys];exact hn)]
  exact T.keys
 ·unfold av at hp
  split at hp
  ·obtain ⟨q,hq,e⟩:=List.mem_map.mp hp
   split at e
   ·rw [←e]
    show 0≤cnt ls' (0,n) - t
    omega
   ·rw [←e]
    exact T.nn q hq
  ·rcases List.mem_append.mp hp with z | z
   ·exact T.nn p z
   ·rw [List.mem_singleton.mp z]
    show 0≤cnt ls' (0,n) - t
    omega
 ·rw [w2,T.one g h,h n n0 n1]
  omega
 ·rw [w2,T.zer g h,h n n0 n1]
  omega
 ·rw [w2]
  have a:=T.dn g h
  have b:=Int.mul_nonneg t0 (h (0,n))
  omega
theorem kO {k:Int×Int} {c due:Int} {ls ls':Sps} (T:Tkn (aS k) (aO k) c ls ls' due) (nd:(ls.map (·.1)).Nodup) (h0:∀p∈ls,p.1.1=0) (z:∀n,aS k≤n→n≤aO k→cnt ls' (0,n)=0):wS (gin k) ls=c - due:=by
 have a:=T.one (gin k) fun n x y=>U8 (Qn.mpr ⟨x,y⟩)
 have b:wS (gin k) ls'=0:=iS fun p hp=>by
  have hk:p.1∈ls.map (·.1):=by rw [←T.keys];exact List.mem_map.mpr ⟨p,hp,rfl⟩
  obtain ⟨q,hq,e⟩:=List.mem_map.mp hk
  have e0:p.1=(0,p.1.2):=Prod.ext (by rw [←e];exact h0 q hq) rfl
  by_cases w:wit k p.1
  ·rw [e0] at w
   have y:=z p.1.2 (Qn.mp w).1 (Qn.mp w).2
   rw [←e0,Vt (by rw [T.keys];exact nd) hp] at y
   exact .inl y
  ·exact .inr (Tq w)
 omega
section
variable {k:Int×Int} {c:Int} {rem ls ls':Sps}
theorem kG {due:Int} (c0:0≤c) (pos:∀p∈rem,0≤p.2) (e:wS (gin k) ls=c - due) (d:0<due) (h0:0≤k.1):¬Can ((k,c)::rem) ls:=fun C=>by
 have a:=C.each k h0
 rw [Uy] at a
 have b:gin k k=1:=U8 ⟨Int.le_refl _,Int.le_refl _⟩
 have d:=hJ (g:=gin k) (fun _=>O9) pos
 have e2:((k,c):(Int×Int)×Int).2 * gin k ((k,c):(Int×Int)×Int).1=c:=by
  show c * gin k k=c
  rw [b,Int.mul_one]
 rw [e2] at a
 omega
theorem kE (T:Tkn (aS k) (aO k) c ls ls' 0) (C:Can rem ls'):Can ((k,c)::rem) ls:=by
 refine ⟨fun s s0=>?_,?_⟩
 ·have a:=C.each s s0
  rw [Uy]
  show c * gin s k+wS (gin s) rem≤wS (gin s) ls
  by_cases w:wit s k
  ·have b:=T.one (gin s) fun n x y=>U8 (Qn.mpr ⟨Int.le_trans w.1 x,Int.le_trans y w.2⟩)
   have e:gin s k=1:=U8 w
   rw [e,Int.mul_one]
   omega
  ·have e:gin s k=0:=Tq w
   have b:=T.dn (gin s) fun _=>O9
   rw [e,Int.mul_zero]
   omega
 ·have b:=T.one (fun _=>1) fun _ _ _=>rfl
  have a:=C.all
  rw [Xd,Xd] at b
  rw [sum_cons]
  show c+ai rem=ai ls
  omega
theorem qQ (T:Tkn (aS k) (aO k) c ls ls' 0) (k0:0≤k.1) (up:∀p∈rem,k.1≤p.1.1) (C:Can ((k,c)::rem) ls):Can rem ls':=by
 refine ⟨fun s s0=>?_,?_⟩
 ·have a:=C.each s s0
  rw [Uy] at a
  have a:c * gin s k+wS (gin s) rem≤wS (gin s) ls:=a
  by_cases w:wit s k
  ·have b:=T.one (gin s) fun n x y=>U8 (Qn.mpr ⟨Int.le_trans w.1 x,Int.le_trans y w.2⟩)
   have e:gin s k=1:=U8 w
   rw [e,Int.mul_one] at a
   omega
  ·have e:gin s k=0:=Tq w
   rw [e,Int.mul_zero] at a
   by_cases m:∃n,(aS k≤n∧n≤aO k)∧aS s≤n∧n≤aO s
   ·obtain ⟨n,⟨m1,m2⟩,m3,m4⟩:=m
    have lt:s.1<k.1:=by
     rcases Int.lt_or_le s.1 k.1 with c | c
     ·exact c
     ·exact absurd (mw k0 c m1 m2 m3 m4) w
    have z:wS (gin s) rem=0:=iS fun p hp=>.inr (Tq fun q=>by
     have:=uB s0 (by have:=up p hp;omega) q
     have:=up p hp
     omega)
    rw [z]
    exact hJ (fun _=>O9) T.nn
   ·have b:=T.zer (gin s) fun n x y=>Tq fun q=>m ⟨n,⟨x,y⟩,Qn.mp q⟩
    omega
 ·have b:=T.one (fun _=>1) fun _ _ _=>rfl
  have a:=C.all
  rw [Xd,Xd] at b
  rw [sum_cons] at a
  have a:c+ai rem=ai ls:=a
  omega
end
theorem pV {ls:Sps} (nn:∀p∈ls,0≤p.2):Can [] ls↔ai ls=0:=by
 refine ⟨fun C=>C.all.symm,fun e=>⟨fun s _=>hJ (fun _=>O9) nn,e.symm⟩⟩
def cy (ts:List Th):Sps:=bd [] (ts.map fun t=>((0,t.num),t.many))
theorem mH (g:Int×Int→Int) (ts:List Th):wS g (cy ts)=wT g ts:=by
 unfold cy
 rw [oq (xs:=[]) List.nodup_nil]
 show 0+_=_
 rw [Int.zero_add]
 unfold wS wT
 rw [List.map_map]
 rfl
theorem jB {ps:Sps} {ts:List Th} (h:Dom ps ts):Can ps (cy ts):=by
 refine ⟨fun s _=>?_,?_⟩
 ·rw [mH]
  exact h _ (lJ s)
 ·have a:=h (fun _=>1) fun _ _ _ _=>⟨Int.le_refl _,Int.le_refl _⟩
  have b:=h (fun k=>-(fun _=>1) k) fun _ _ _ _=>⟨Int.le_refl _,Int.le_refl _⟩
  rw [tD,tW] at b
  rw [←Xd,←Xd,mH]
  omega
end K26
namespace K26
open PySem L2 Ld
def sf:Sp:=fun vs H Q _=>∃(p:Addr) (k:Int×Int),vs=[.ref p]∧KAt H p k∧0≤k.1∧k.1≤20∧Q (.int (aS k)) H
def vx:Sp:=fun vs H Q _=>∃(p:Addr) (k:Int×Int),vs=[.ref p]∧KAt H p k∧0≤k.1∧k.1≤20∧∀H',Same H H'→Q (.int (aO k)) H'
section
variable {P:Program} {w:World} {K:W.Frag} {mg:Str→Option Value} {base:Heap} {f:Addr} {fd:FuncData}
theorem uo (bO:mg "range"=none) (F:Fun K "_law_first" "_law_first" bW f fd):FnOk P w K mg base CX0 1 f fd ["_law_stretch"] sf:=by
 refine F.ok V6 (fun vs H Q E h=>?_) (fun cdv A outer s H vs Q E hr h=>?_)
 ·obtain ⟨p,k,rfl,_⟩:=h
  rfl
 obtain ⟨p,k,rfl,e,h0,h1,hq⟩:=h
 refine ⟨_,(@Z2 _ _ _ _ _ (@Zg _ _ 1 _ _ _ _ V6.nd rfl (Or.inl rfl) (@Zz _ _ _ _ _ _ _ Yg (pv 0) Z3 (fun _ _=>rfl)) (by rfl) (by first | exact .inl rfl | exact .inr rfl))
 (@Z2 _ _ _ _ _ (Xv PassesOwn.never rfl (S3 rfl bO (@Z0 _ _ _ _ _ (@Zz _ _ _ _ _ _ _ Yg (pv 0) Z3 (fun _ _=>rfl)) Z1 (by rfl))) (Z9 (i:=2) V6.nd rfl (Or.inl rfl))
 (@Z6 _ _ _ (@Zg _ _ 1 _ _ _ _ V6.nd rfl (Or.inl rfl) (@Zd _ _ _ _ _ _ _ _ X9 Z3 (pv 1)) (by rfl) (by first | exact .inl rfl | exact .inr rfl))))
 (@Z6 _ _ _ (@Ze _ _ _ _ (pv 1))))),?_⟩
 refine ⟨_,rfl,p,_,1,_,rfl,rfl,SqT.of e,rfl,?_⟩
 refine ⟨_,rfl,p,_,0,_,rfl,rfl,SqT.of e,rfl,k.1,rfl,by omega,by omega,?_⟩
 refine Q7 (lo:=0) (n:=k.1.toNat) (fun i σ H'=>H'=H∧∃o2:Option V,σ=[some (.ref p),some (.int (k.2 * 2 ^ i)),o2]) ⟨rfl,none,by rw [Int.pow_zero,Int.mul_one];rfl⟩ ?_ ?_
 ·rintro i σ H' N B1 R hN hR hi ⟨rfl,o2,rfl⟩
  refine ⟨_,rfl,_,_,rfl,rfl,Or.inl ⟨by decide,by decide⟩,hN _ _ ⟨rfl,some (.int (0+(i:Int))),?_⟩⟩
  rw [Int.pow_succ,show k.2 * (2 ^ i * 2)=2 * (k.2 * 2 ^ i) by rw [←Int.mul_assoc,Int.mul_comm]]
  rfl
 ·rintro σ H' ⟨rfl,o2,rfl⟩
  exact ⟨_,rfl,hq⟩
theorem vH (cY:Has P w K mg base "_law_first" 1 ["_law_stretch"] sf) (F:Fun K "_law_last" "_law_last" cf f fd):FnOk P w K mg base CX0 2 f fd ["_law_stretch"] vx:=by
 refine F.ok jT (fun vs H Q E h=>?_) (fun cdv A outer s H vs Q E hr h=>?_)
 ·obtain ⟨p,k,rfl,_⟩:=h
  rfl
 obtain ⟨p,k,rfl,e,h0,h1,hq⟩:=h
 refine ⟨_,(@Z6 _ _ _ (@Ze _ _ _ _ (@Zd _ _ _ _ _ _ _ _ Wh (Z5 cY hr (@Z0 _ _ _ _ _ (@Y1 _ _ _ _ _ (@Z0 _ _ _ _ _ (@Zz _ _ _ _ _ _ _ Yg (pv 0) Z3 (fun _ _=>rfl)) (@Z0 _ _ _ _ _ (@Zd _ _ _ _ _ _ _ _ Zv (@Zz _ _ _ _ _ _ _ Yg (pv 0) Z3 (fun _ _=>rfl)) Z3) Z1 (by rfl)) (by rfl))) Z1 (by rfl))) Z3))),?_⟩
 exact ⟨_,rfl,p,_,0,_,rfl,rfl,SqT.of e,rfl,_,rfl,p,_,1,_,rfl,rfl,SqT.of e,rfl,_,_,rfl,rfl,leN rfl,fun q nq=>⟨q,(k.1,k.2+1),rfl,Z4,h0,h1,_,_,rfl,rfl,hq _ (Z7 nq _)⟩⟩
end
end K26
namespace L2
open PySem PySem.Spec PyProof.Rows
section
variable {prog:Program} {w:World} {A:Around} {E:Value→Shared→Prop} {s:Shared}
theorem qh {κ:KeyKind} (hO:κ.OneLt):aR prog w A s κ oneType':=fun E x y a b Q h1 h2 q=>by
 rw [keyLt'_oneType]
 exact hO prog w A E s x y a b h1 h2 q
theorem oe {κ:KeyKind} (hO:κ.OneLt) {l:Addr} {vs:List Value} {n:Nat} {P:Fin→Shared→Prop} (ho:s.heap.get? l=some (seqObj "list" vs.toArray n))
  (h0:KeysOf κ (pairsOf vs)) (hkk:∀v₁ v₂ rest,vs=v₁::v₂::rest→keyKind' (v₁::v₂::rest).toArray=pure oneType') (hl:vs.length<1000)
  (fin:∀u:SortSt,(arrOf u).Perm (pairsOf vs)→SortedToK κ (arrOf u) (pairsOf vs).size→P (.done (.ret .none)) {s with heap:=sortedHeap s.heap l vs ((arrOf u).map (·.2))}):
  wpAny (model prog w) A (Builtin.«list.sort» ⟨[.ref l],[]⟩) P E s:=by
 rw [list_sort_plain]
 refine wpAny_bind (listItems_at ho rfl ?_)
 refine wpAny_bind (listUpdate_at ho rfl ?_)
 obtain ⟨e1,ho1⟩:∃m,(s.heap.update l (Obj.mapSeq fun _=>#[])).get? l=some (seqObj "list" #[] m):=⟨_,get?_update_seq ho fun _=>#[]⟩
 refine wpAny_bind (seqEpoch_at ho1 rfl ?_)
 refine wpAny_bind (wpAny_newTuple ?_)
 refine wpAny_bind (wpAny_newList ?_)
 refine wpAny_holding ?_
 have ll:=Heap.lt_size ho
 have ho2:(((s.heap.update l (Obj.mapSeq fun _=>#[])).push (seqObj "tuple" vs.toArray 0)).push (seqObj "list" #[] 0)).get? l=some (seqObj "list" #[] e1):=by
  rw [Heap.get?_push_ne _ _ _ (by rw [size_push',Heap.size_update];exact Nat.ne_of_lt (Nat.lt_succ_of_lt ll)),Heap.get?_push_ne _ _ _ (by rw [Heap.size_update];exact Nat.ne_of_lt ll)]
  exact ho1
 show wpAny (model prog w) A _ P E {s with heap:=((s.heap.update l (Obj.mapSeq fun _=>#[])).push (seqObj "tuple" vs.toArray 0)).push (seqObj "list" #[] 0)}
 dsimp only
 have vsz:vs.toArray.size=vs.length:=List.size_toArray
 by_cases c:vs.toArray.size<2
 ·rw [if_pos c,if_pos c]
  refine wpAny_bind (wpAny_pure ?_)
  rw [StateT.run_pure]
  refine wpAny_bind (wpAny_pure ?_)
  dsimp only
  refine wpAny_bind (seqEpoch_at ho2 rfl ?_)
  refine wpAny_bind (listUpdate_at ho2 rfl ?_ (hsz2:=by rw [Array.size_map];show (pairsOf vs).size≤_;rw [pairsOf_size];exact Nat.le_trans (Nat.le_of_lt hl) (by decide)))
  rw [show (e1 != e1)=false from bne_self_eq_false e1]
  rw [if_neg Bool.false_ne_true]
  refine wpAny_pure (fin (SortSt.mk' general' (vs.toArray.zip vs.toArray) #[] 7 none) (Array.Perm.refl _) fun i j hij hj=>?_)
  obtain rfl:i=j:=by rw [pairsOf_size] at hj;omega
  exact κ.irrefl _
 ·rw [if_neg c,if_neg c]
  obtain ⟨v₁,v₂,rest,rfl⟩:∃v₁ v₂ rest,vs=v₁::v₂::rest:=by
   match vs,vsz,c with
   | [],_,c=>exact absurd (by decide) c
   | [_],_,c=>exact absurd (by show 1<2;decide) c
   | v₁::v₂::rest,_,_=>exact ⟨v₁,v₂,rest,rfl⟩
  rw [hkk _ _ _ rfl]
  refine wpAny_bind (wpAny_pure ?_)
  refine wpAny_bind (wpAny_mono (L2T.runs_all (E:=E) (xs0:=pairsOf (v₁::v₂::rest)) (st:=SortSt.mk' oneType' ((v₁::v₂::rest).toArray.zip (v₁::v₂::rest).toArray) #[] 7 none) (Q:=fun _ u=>(arrOf u).Perm (pairsOf (v₁::v₂::rest))∧failedOf u=none∧Rz κ (arrOf u) (pairsOf (v₁::v₂::rest)).size) (qh hO) h0
   ⟨Array.Perm.refl _,rfl,rfl,rfl⟩ (by rw [pairsOf_size];omega) fun u a1 a2 a3=>⟨a1,a2,a3⟩) ?_ fun _ _ z=>z)
  rintro ⟨⟨⟩,u⟩ s2 ⟨rfl,pm,fl,r⟩
  dsimp only
  refine wpAny_bind (seqEpoch_at ho2 rfl ?_)
  refine wpAny_bind (listUpdate_at ho2 rfl ?_ (hsz2:=by rw [Array.size_map];exact Nat.le_trans (Nat.le_of_eq (pm.size_eq.trans (pairsOf_size _))) (Nat.le_trans (Nat.le_of_lt hl) (by decide))))
  rw [fl]
  rw [show (e1 != e1)=false from bne_self_eq_false e1]
  rw [if_neg Bool.false_ne_true]
  exact wpAny_pure (fin u pm r)
@[reducible] def intKind:KeyKind where
 α:=Int
 blt a b:=decide (a<b)
 irrefl a:=decide_eq_false (Int.lt_irrefl a)
 trans a b c h g:=decide_eq_true (Int.lt_trans (of_decide_eq_true h) (of_decide_eq_true g))
 negTrans a b c h:=by
  have:=of_decide_eq_true h
  by_cases q:a<b
  ·exact .inl (decide_eq_true q)
  ·exact .inr (decide_eq_true (by omega))
 total a b h g:=by
  have h:=of_decide_eq_false h
  have g:=of_decide_eq_false g
  omega
 keyOf v:=match v with
  | .int n _=>some n
  | _=>none
 dflt:=0
theorem qJ:intKind.OneLt:=fun prog w A E s x y a b Q h1 h2 q=>by
 cases x with
 | int n t=>
  cases y with
  | int m u=>
   cases h1
   cases h2
   exact oneLt_int q
  | _=>cases h2
 | _=>cases h1
theorem nH {vs:List Value} {ns:List Int} (h:IntsAre vs ns):KeysOf intKind (pairsOf vs):=fun p hp=>by
 obtain ⟨n,t,e⟩:=h.intKeys p hp
 exact ⟨n,by rw [e]⟩
theorem gt {vs:List Value} {ns:List Int} (h:IntsAre vs ns) {xs:Array Keyed} (p:xs.Perm (pairsOf vs)) (r:SortedToK intKind xs (pairsOf vs).size):SortedTo xs (pairsOf vs).size:=by
 have at_:∀i,i<(pairsOf vs).size→K xs i=KK intKind xs i:=fun i hi=>by
  have hi':i<xs.size:=by rw [p.size_eq];exact hi
  obtain ⟨n,t,e⟩:=h.intKeys xs[i] ((Array.perm_iff_toList_perm.mp p).mem_iff.mp (Array.mem_toList_iff.mpr (Array.getElem_mem hi')))
  rw [K_eq hi',L2T.KK_ky (Array.getElem?_eq_getElem hi')]
  unfold L2T.ky
  rw [e]
  rfl
 intro i j hij hj
 have q:decide (KK intKind xs j<KK intKind xs i)=false:=r i j hij hj
 have q:=of_decide_eq_false q
 rw [at_ i (by omega),at_ j hj]
 exact Int.not_lt.mp q
theorem jW {l:Addr} {vs:List Value} {ns:List Int} {n:Nat} {P:Fin→Shared→Prop} (ho:s.heap.get? l=some (seqObj "list" vs.toArray n)) (hI:IntsAre vs ns) (hl:vs.length<1000)
  (fin:∀(out:Array Value) (ms:List Int),IntsAre out.toList ms→ms.Perm ns→ms.Pairwise (·≤·)→P (.done (.ret .none)) {s with heap:=sortedHeap s.heap l vs out}):
  wpAny (model prog w) A (Builtin.«list.sort» ⟨[.ref l],[]⟩) P E s:=
 oe qJ ho (nH hI) (fun v1 v2 rest e=>keyKind_ints (by rw [←e];exact hI)) hl fun u pm r=>by
  obtain ⟨ms,a1,a2,a3⟩:=sorted_out hI pm (gt hI pm r)
  exact fin _ ms a1 a2 a3
end
section
variable {X:Cx}
end
section
variable {X:Cx}
theorem jU {P:Program} {w:World}:∀{us:List Value} {ws:List (Key×Value)} {zs:List Int},us.length=ws.length→(∀(j:Nat) (u:Value),us[j]?=some u→∃k x,ws[j]?=some (k,x)∧(aj P w).is k u=true)→ws.map (·.1)=zs.map Sum.inl→Vals (zs.map V.int) us:=by
 intro us
 induction us with
 | nil=>
  intro ws zs hl _ e
  cases ws with
  | nil=>
   cases zs with
   | nil=>exact .nil
   | cons z zs=>simp at e
  | cons x ws=>simp at hl
 | cons u us ih=>
  intro ws zs hl h e
  cases ws with
  | nil=>simp at hl
  | cons p ws=>
   cases zs with
   | nil=>simp at e
   | cons z zs=>
    rw [List.map_cons,List.map_cons] at e
    injection e with e1 e2
    obtain ⟨k',x',q,hk⟩:=h 0 u rfl
    have q:p=(k',x'):=by simpa using q
    subst q
    have e1:k'=Sum.inl z:=e1
    subst e1
    obtain ⟨t,rfl⟩:=sO hk
    exact .cons ⟨t,rfl⟩ (ih (by simpa using hl) (fun j v hv=>by simpa using h (j+1) v (by simpa using hv)) e2)
def qo:List V→Hp→VK→Prop:=fun xs H Q=>∃(d:Addr) (kvs:List (Key×V)) (zs:List Int),xs=[.ref d]∧H d=some (.dK kvs)∧kvs.map (·.1)=zs.map Sum.inl∧zs.length<1000∧∀p,H p=none→Q (.ref p) (upd H p (.lst ((gM zs).map V.int)))
theorem e_ (hc:X.calm=true):bZ X (.builtin "sorted") qo:=by
 intro pins s σ H xs us Q I rx h
 obtain ⟨d,kvs,zs,rfl,hd,hzs,h64,q⟩:=h
 obtain ⟨u,rfl,ru⟩:=Ve rx
 cases ru
 obtain ⟨_,lo,es,kv,hD⟩:=ip I.hok hd
 obtain ⟨ep,hat⟩:=hD.dictAt
 have kk:es.map (·.1)=zs.map Sum.inl:=by rw [←hzs,KV.keys kv]
 have hl:es.length=zs.length:=by
  have e:=congrArg List.length kk
  rw [List.length_map,List.length_map] at e
  exact e
 have hh:X.A.in1.handled=none:=by simpa using I.ok.hd hc
 refine Calls.call_function_entry kind_sorted plain_sorted entry_sorted (args_sorted1 _) ?_
 unfold Builtin.«sorted»
 refine wpAny_bind (m:=checkCount "sorted" 1 1 _) (wpAny_pure ?_)
 refine wpAny_bind (Sg (A:=X.A.in1) (W.kdl_dict (knd:=aj X.prog X.w) (kvs:=es) (ep:=ep) lo) hh hat (Zn (by omega)) fun g tk acc hk hsz hacc=>?_)
 have al:acc.toList.length=es.length:=by rw [Array.length_toList];exact hacc.1
 have hS:IntsAre acc.toList zs:=Vd (jU (P:=X.prog) (w:=X.w) al (fun j u e=>hacc.2 j u (by rw [←Array.getElem?_toList];exact e)) kk)
 refine wpAny_bind (wpAny_newList ?_ (by exact Zn (by omega)))
 have hoL:(g.push (seqObj "list" acc.toList.toArray 0)).get? g.objs.size=some (seqObj "list" acc.toList.toArray 0):=Heap.get?_push_size _ rfl
 refine wpAny_bind (wpAny_holding (wpAny_call_entry slot_list_sort ⟨_,hoL,rfl⟩ entry_list_sort (jW hoL hS (by omega) fun out ms a1 a2 a3=>⟨_,rfl,?_⟩) (args_list_sort _)))
 refine wpAny_pure ⟨_,rfl,?_⟩
 have ess:=py a2 a3
 subst ess
 obtain ⟨e2,he2⟩:=sortedHeap_at (vs:=acc.toList) (out:=out) hoL
 have hz:s.heap.objs.size≤g.objs.size:=Nat.le_of_lt hsz
 refine ⟨.ref g.objs.size,_,I.laid (t':=tk) (o:=.lst ((gM zs).map V.int)) (fun b o e=>?_) hz ?_,rfl,q _ (I.hok.fresh hz)⟩
 ·have e':=hk b o e
  have hlt:=Heap.lt_size e'
  rw [sortedHeap_old (Nat.ne_of_lt hlt) (by rw [size_push'];exact Nat.lt_succ_of_lt hlt)]
  exact Heap.get?_push_of_some _ e'
 ·refine ⟨?_,out.toList,e2,Ty a1,by rw [Array.toArray_toList];exact he2⟩
  rw [List.length_map,(S0 zs).length_eq]
  exact Zn (by omega)
def pP:List V→Hp→VK→Prop:=fun xs H Q=>∃(v d:Addr) (kvs:List (Key×V)),xs=[.ref v]∧H v=some (iC v d)∧H d=some (.dK kvs)∧∀p,H p=none→Q (.ref p) (upd H p (.lst (kvs.map (·.2))))
theorem eQ (hc:X.calm=true):bZ X (.type "list") pP:=by
 intro pins s σ H xs us Q I rx h
 obtain ⟨v,d,kvs,rfl,hv,hd,q⟩:=h
 obtain ⟨u,rfl,ru⟩:=Ve rx
 cases ru
 obtain ⟨z,lo,es,kv,hD⟩:=ip I.hok hd
 obtain ⟨ep,hat⟩:=hD.dictAt
 obtain ⟨view,_⟩:=(show ObjOk X.prog X.w H s.heap v (iC v d) from I.hok v _ hv)
 have hl:es.length=kvs.length:=by
  have e:=congrArg List.length (KV.keys kv)
  rw [List.length_map,List.length_map] at e
  exact e.symm
 refine W.kdl_call (W.kdl_values (knd:=aj X.prog X.w) (r:=v) (kvs:=es) (ep:=ep)) (I.ok.hd hc) ⟨view,hat⟩ (by rw [hl];exact z) fun g tk acc c kp hD it=>?_
 refine ⟨.ref s.heap.objs.size,_,I.laid (t':=tk) (o:=.lst (kvs.map (·.2))) kp (Nat.le_refl _) ⟨by rw [List.length_map];exact z,es.map (·.2),c,R3 kv,?_⟩,rfl,q _ (I.hok.fresh (Nat.le_refl _))⟩
 have ea:acc.toList=es.map (·.2):=W.kdl_vals_eq acc.toList (by rw [Array.length_toList];exact it.1) fun j u e=>it.2 j u (by rw [←Array.getElem?_toList];exact e)
 rw [←ea,Array.toArray_toList]
 exact hD
end
end L2
namespace Ld
open PySem L2
def izv (ls:Sps):List (Key×V):=ls.map fun p=>(.inl p.1.2,.int p.2)
def Hz (ls:Sps):Prop:=∀p∈ls,p.1.1=0
theorem lq (ls:Sps):(izv ls).length=ls.length:=List.length_map _
theorem qD (ls:Sps):(izv ls).map (·.1)=(ls.map fun p=>p.1.2).map Sum.inl:=by
 unfold izv
 rw [List.map_map,List.map_map]
 rfl
theorem qt (ls:Sps):(izv ls).map (·.2)=(ls.map (·.2)).map V.int:=by
 unfold izv
 rw [List.map_map,List.map_map]
 rfl
theorem nZ {ls:Sps} (n:Int):Hz ls→bD (izv ls) (.inl n)=ap ls (0,n):=by
 induction ls with
 | nil=>exact fun _=>rfl
 | cons p ls ih=>
  intro h
  have e:p.1=(0,p.1.2):=Prod.ext (h p (.head _)) rfl
  unfold ap ao izv
  rw [List.map_cons,List.map_cons]
  by_cases c:p.1.2=n
  ·rw [Y2 (p:=(Sum.inl p.1.2,V.int p.2)) (by rw [c]),Y2 (p:=(kk p.1,V.int p.2)) (by rw [e,c])]
  ·rw [Zx (p:=(Sum.inl p.1.2,V.int p.2)) (fun z=>c (Sum.inl.inj z)),Zx (p:=(kk p.1,V.int p.2)) (fun z=>c (by rw [Vc z]))]
   exact ih fun q hq=>h q (.tail _ hq)
theorem oi {ls:Sps} (n v:Int) (h:Hz ls):aZ (izv ls) (.inl n) (.int v)=izv (av ls (0,n) v):=by
 have iff:∀p∈ls,((Sum.inl p.1.2:Key)=.inl n)↔p.1=(0,n):=fun p hp=>⟨fun z=>Prod.ext (h p hp) (Sum.inl.inj z),fun z=>by rw [z]⟩
 have ea:((izv ls).any fun kv=>decide (kv.1=.inl n))=ls.any fun p=>decide (p.1=(0,n)):=by
  unfold izv
  rw [List.any_map]
  clear h
  induction ls with
  | nil=>rfl
  | cons p ls ih=>
   rw [List.any_cons,List.any_cons,ih fun q hq=>iff q (.tail _ hq)]
   congr 1
   show decide ((Sum.inl p.1.2:Key)=.inl n)=_
   by_cases c:p.1=(0,n)
   ·rw [decide_eq_true c,decide_eq_true ((iff p (.head _)).mpr c)]
   ·rw [decide_eq_false c,decide_eq_false (fun z=>c ((iff p (.head _)).mp z))]
 unfold aZ av
 rw [ea]
 split
 ·unfold izv
  rw [List.map_map,List.map_map]
  refine List.map_congr_left fun p hp=>?_
  show (if (Sum.inl p.1.2:Key)=.inl n then (Sum.inl p.1.2,V.int v) else (Sum.inl p.1.2,V.int p.2))=(fun p:(Int×Int)×Int=>((Sum.inl p.1.2:Key),V.int p.2)) (if p.1=(0,n) then (p.1,v) else p)
  by_cases c:p.1=(0,n)
  ·rw [if_pos c,if_pos ((iff p hp).mpr c)]
  ·rw [if_neg c,if_neg (fun z=>c ((iff p hp).mp z))]
 ·unfold izv
  rw [List.map_append]
  rfl
theorem mq {ls:Sps} {n v:Int} (h:Hz ls):Hz (av ls (0,n) v):=fun p hp=>by
 unfold av at hp
 split at hp
 ·obtain ⟨q,hq,e⟩:=List.mem_map.mp hp
  split at e
  ·rw [←e]
   exact h q hq
  ·rw [←e]
   exact h q hq
 ·rcases List.mem_append.mp hp with z | z
  ·exact h p z
  ·rw [List.mem_singleton.mp z]
end Ld
namespace K26
open PySem L2 Ld
def rm:Sp:=fun vs H Q _=>∃(r d:Addr) (deep:Int) (ts:List Th) (qs:Sps),vs=[.ref r,.ref d,.int deep]∧DV H (.ref r) (cK ts)∧H d=some (.dT (ao qs))∧(qs.map (·.1)).Nodup∧(∀p∈qs,0≤p.1.1∧p.1.1≤20∧0≤p.2)∧(∀t∈ts,0≤t.many)∧qs.length<500∧ts.length<500∧∀(b:Bool) (H':Hp),Same H H'→(b=true↔Can qs (cy ts))→Q (.bl b) H'
theorem lm (ts:List Th) (t:Th):cy (ts++[t])=av (cy ts) (0,t.num) (cnt (cy ts) (0,t.num)+t.many):=by
 unfold cy
 rw [List.map_append]
 exact eV _ _ _
theorem lC (ts:List Th):((cy ts).map (·.1)).Nodup:=Oj List.nodup_nil
theorem sN {ls:Sps} {k:Int×Int} {n:Int} (h:∀p∈ls,0≤p.2) (n0:0≤n):∀p∈av ls k n,0≤p.2:=fun p hp=>by
 unfold av at hp
 split at hp
 ·obtain ⟨q,hq,e⟩:=List.mem_map.mp hp
  split at e
  ·rw [←e];exact n0
  ·rw [←e];exact h q hq
 ·rcases List.mem_append.mp hp with z | z
  ·exact h p z
  ·rw [List.mem_singleton.mp z];exact n0
theorem lE {ps qs ls:Sps} (p:ps.Perm qs):Can ps ls↔Can qs ls:=
 ⟨fun C=>⟨fun s h=>by rw [←Ux p];exact C.each s h,by rw [←Xe p];exact C.all⟩,fun C=>⟨fun s h=>by rw [Ux p];exact C.each s h,by rw [Xe p];exact C.all⟩⟩
def dw (qs:Sps) (i:Nat):Sps:=((cx (qs.map (·.1))).drop i).map fun k=>(k,cnt qs k)
theorem n4 {qs:Sps} (nd:(qs.map (·.1)).Nodup):(dw qs 0).Perm qs:=by
 unfold dw
 rw [List.drop_zero]
 refine ((Yz _).map _).trans ?_
 rw [List.map_map]
 refine List.Perm.of_eq ?_
 have e:qs.map ((fun k=>(k,cnt qs k))∘fun x=>x.1)=qs.map id:=List.map_congr_left fun p hp=>by
  show (p.1,cnt qs p.1)=p
  rw [Vt nd hp]
 rw [e,List.map_id]
theorem rL {qs:Sps} {i:Nat} {k:Int×Int} (h:(cx (qs.map (·.1)))[i]?=some k):dw qs i=(k,cnt qs k)::dw qs (i+1):=by
 unfold dw
 obtain ⟨hi,e⟩:=List.getElem?_eq_some_iff.mp h
 rw [List.drop_eq_getElem_cons hi,e,List.map_cons]
theorem pR {qs:Sps} {i:Nat} {p:(Int×Int)×Int} (nd:(qs.map (·.1)).Nodup) (h:p∈dw qs i):p∈qs:=by
 obtain ⟨k,hk,rfl⟩:=List.mem_map.mp h
 have km:=(Yz _).mem_iff.mp (List.mem_of_mem_drop hk)
 obtain ⟨q,hq,e⟩:=List.mem_map.mp km
 rw [←e,Vt nd hq]
 exact hq
theorem sV {qs:Sps} {i:Nat} {k:Int×Int} (h:(cx (qs.map (·.1)))[i]?=some k):∀p∈dw qs (i+1),k.1≤p.1.1:=fun p hp=>by
 obtain ⟨l,hl,rfl⟩:=List.mem_map.mp hp
 obtain ⟨j,hj,e⟩:=List.mem_iff_getElem.mp hl
 have g:(cx (qs.map (·.1)))[i+1+j]?=some l:=by
  rw [←List.getElem?_drop,List.getElem?_eq_getElem hj,e]
 have:=X6.mp (nP (T5 _) h g (by omega))
 show k.1≤l.1
 omega
theorem lZ {α β:Type} {R:α→β→Prop}:∀{xs:List α} {ys:List β} {j:Nat} {x:α},Paired R xs ys→xs[j]?=some x→∃y,ys[j]?=some y∧R x y:=by
 intro xs
 induction xs with
 | nil=>intro ys j x _ e;simp at e
 | cons z zs ih=>
  intro ys j x p e
  cases p with
  | cons r p=>
   cases j with
   | zero=>
    rw [List.getElem?_cons_zero] at e
    cases e
    exact ⟨_,rfl,r⟩
   | succ j=>
    rw [List.getElem?_cons_succ] at e
    obtain ⟨y,hy,h⟩:=ih p e
    exact ⟨y,by rw [List.getElem?_cons_succ];exact hy,h⟩
theorem sr (a b:Int):(if b<a then b else a)=min a b:=by
 split <;> omega
section
variable {P:Program} {w:World} {K:W.Frag} {mg:Str→Option Value} {base:Heap} {f:Addr} {fd:FuncData}
theorem sY (aw:mg "sorted"=none) (nA:mg "min"=none) (cA:mg "sum"=none) (bE:mg "list"=none) (cY:Has P w K mg base "_law_first" 1 ["_law_stretch"] sf) (mV:Has P w K mg base "_law_last" 2 ["_law_stretch"] vx)
  (F:Fun K "_law_is_dealt" "_law_is_dealt" aW f fd):FnOk P w K mg base CX0 3 f fd ["_law_stream_here","_law_now","_law_deep"] rm:=by
 refine F.ok Zo (fun vs H Q E h=>?_) (fun cdv A outer s H vs Q E hr h=>?_)
 ·obtain ⟨r,d,deep,ts,qs,rfl,_⟩:=h
  rfl
 obtain ⟨r,d,deep,ts,qs,rfl,dv,e_d,nd,kb,tp,ql,tl,hq⟩:=h
 refine ⟨_,(@Z2 _ _ _ _ _ (@Zg _ _ 3 _ _ _ _ Zo.nd rfl (Or.inl rfl) oB (by rfl) (by first | exact .inl rfl | exact .inr rfl)) Zf),?_⟩
 intro L n_L
 have e_L:(upd H L (.dK [])) L=some (.dK (izv (cy []))):=Z4
 have gg:Same H (upd H L (.dK [])):=Z7 n_L _
 generalize upd H L (.dK [])=H1 at e_L gg ⊢
 obtain ⟨_,xs,e0,e_r,ds⟩:=DV.list_inv dv
 cases e0
 have xl:=ds.length
 rw [List.length_map] at xl
 refine ⟨_,(@Z2 _ _ _ _ _ (Xv PassesOwn.never rfl (Xb (pv 0)) (Yo rfl (Za (Z9 (i:=4) Zo.nd rfl (Or.inl rfl)) (Za (Z9 (i:=5) Zo.nd rfl (Or.inl rfl)) (Za (Z9 (i:=6) Zo.nd rfl (Or.inl rfl)) (Za (Z9 (i:=7) Zo.nd rfl (Or.inl rfl)) Zw)))))
 (@Z6 _ _ _ (Ta (Yp hr) (pv 3) (pv 6) (@Zd _ _ _ _ _ _ _ _ Zv (Xw (Yp hr) (pv 3) (pv 6) Z3 ⟨rfl,rfl,rfl,rfl⟩) (pv 7)) rfl))) Zf),?_⟩
 refine ⟨_,rfl,r,rfl,⟨_,SqL.of (gg _ _ e_r)⟩,?_⟩
 refine Xs (xs:=xs) (fun i σ H'=>∃(o4 o5 o6 o7:Option V),σ=[some (.ref r),some (.ref d),some (.int deep),some (.ref L),o4,o5,o6,o7,none,none,none,none,none]∧Same H H'∧H' L=some (.dK (izv (cy (ts.take i))))∧Hz (cy (ts.take i))∧(cy (ts.take i)).length≤i∧∀p∈cy (ts.take i),0≤p.2) ⟨_,_,_,_,rfl,gg,e_L,(fun _ h=>nomatch h),Nat.le_refl _,(fun _ h=>nomatch h)⟩ ?_ ?_ ?_
 ·rintro i σ H' _ ⟨_,_,_,_,_,g,_⟩
  exact SqL.of (g _ _ e_r)
 ·clear e_L gg
  rintro i x σ H' N B1 R hN hR hx ⟨o4,o5,o6,o7,rfl,g,eL,hz,ll,nn⟩
  obtain ⟨t,c,ht,rfl,ec,hm⟩:=DVs.th_at ds hx
  have nl:i<ts.length:=(List.getElem?_eq_some_iff.mp ht).1
  rw [Yj ht,lm] at hN
  have nd':=lC (ts.take i)
  generalize cy (ts.take i)=ls at eL hz ll nn nd' hN
  have l1:=T9 ls (0,t.num) (cnt ls (0,t.num)+t.many)
  refine ⟨c,_,rfl,SqT.of (g _ _ ec),rfl,_,_,rfl,_,_,rfl,_,_,rfl,_,_,rfl,rfl,?_⟩
  refine ⟨_,rfl,L,rfl,.inl ⟨_,.inl eL⟩,_,rfl,_,DGet.k (k:=.inl t.num) eL,_,rfl,_,t.many,(by rw [nZ _ hz];exact W2 _ _),rfl,_,rfl,_,rfl,L,_,rfl,DPut.k (k:=.inl t.num) eL (Zp (by rw [lq];omega)),?_⟩
  refine hN _ _ ⟨_,_,_,_,rfl,Yx g n_L,?_,mq hz,by omega,sN nn ?_⟩
  ·rw [←oi _ _ hz]
   exact Z4
  ·have:=Qd nd' nn (0,t.num)
   have:=tp t hm
   omega
 clear e_L gg
 rintro σ H2 ⟨o4,o5,o6,o7,rfl,g2,e_L,hz,ll,nn⟩
 rw [xl,List.take_length] at e_L hz ll nn
 refine ⟨_,(@Z2 _ _ _ _ _ (Xv PassesOwn.never rfl (Xb (Zh (Vv rfl hr.units) rfl aw PyProof.Rows.boot_sorted (@Z0 _ _ _ _ _ (pv 1) Z1 (by rfl)))) (Z9 (i:=8) Zo.nd rfl (Or.inl rfl))
 (@Z2 _ _ _ _ _ (@Zg _ _ 9 _ _ _ _ Zo.nd rfl (Or.inl rfl) (Xc (Yp hr) (pv 1) (pv 8) (fun _ _=>rfl)) (by rfl) (by first | exact .inl rfl | exact .inr rfl))
 (@Z2 _ _ _ _ _ (@Zg _ _ 10 _ _ _ _ Zo.nd rfl (Or.inr rfl) (Z5 cY hr (@Z0 _ _ _ _ _ (pv 8) Z1 (by rfl))) (by rfl) (by first | exact .inl rfl | exact .inr rfl))
 (@Z2 _ _ _ _ _ (@Zg _ _ 11 _ _ _ _ Zo.nd rfl (Or.inr rfl) (Z5 mV hr (@Z0 _ _ _ _ _ (pv 8) Z1 (by rfl))) (by rfl) (by first | exact .inl rfl | exact .inr rfl))
 (fM 6 (@Z2 _ _ _ _ _ (Xv PassesOwn.never rfl (Xb (tJ ["_law_stream_here","_law_now","_law_deep","_law_left","_law_day","_law_mark","#6","_law_many_here","_law_stretch","_law_due","_law_low","_law_high","_law_taken"] (Xo (own:=["_law_number"]) (CompOk.of rfl rfl (by rfl) (by rfl) (by rfl)) (Xb (Zh (e_ rfl) rfl aw PyProof.Rows.boot_sorted (@Z0 _ _ _ _ _ (pv 3) Z1 (by rfl))))
  (fun _ _ _ _ _=>(Z9 (i:=0) Vp rfl (Or.inl rfl) (Or.inr rfl))) (fun _ _ _ _ _=>(iw (Rh Tg Tg (pv 11) (pv 0) (pv 12))))
  (fun _ _ _ _ _=>(pv 0))))) (Z9 (i:=6) Zo.nd rfl (Or.inl rfl))
 (@Z2 _ _ _ _ _ (@Zg _ _ 12 _ _ _ _ Zo.nd rfl (Or.inl rfl) (Zh (jE rfl) rfl nA PyProof.Rows.boot_min (@Z0 _ _ _ _ _ (pv 9) (@Z0 _ _ _ _ _ (Xc (Yp hr) (pv 3) (pv 6) (fun _ _=>rfl)) Z1 (by rfl)) (by rfl))) (by rfl) (by first | exact .inl rfl | exact .inr rfl))
 (@Z2 _ _ _ _ _ (Ta (Yp hr) (pv 3) (pv 6) (@Zd _ _ _ _ _ _ _ _ Wh (Xc (Yp hr) (pv 3) (pv 6) (fun _ _=>rfl)) (pv 12)) rfl)
 (@Z6 _ _ _ (@Zg _ _ 9 _ _ _ _ Zo.nd rfl (Or.inl rfl) (@Zd _ _ _ _ _ _ _ _ Wh (pv 9) (pv 12)) (by rfl) (by first | exact .inl rfl | exact .inr rfl))))))
 (@Z6 _ _ _ (@Y7 _ _ _ _ _ _ _ _ (@Zk _ _ _ _ _ _ _ _ Ti (pv 9) Z3 (Zl _)) (@Z6 _ _ _ (@Ze _ _ _ _ Xf)) Zq)))))))) Zf),?_⟩
 refine ⟨_,rfl,d,qs,rfl,g2 _ _ e_d,by omega,fun bs ka l n_l=>?_⟩
 have g3:=Z7 n_l (.lst (bs.map V.ref))
 have e_l:(upd H2 l (.lst (bs.map V.ref))) l=some (.lst (bs.map V.ref)):=Z4
 have e_L:=g3 _ _ e_L
 have ka:=ka.mono fun b xs e=>g3 b _ e
 have g2:=g2.trans g3
 clear n_l g3
 generalize upd H2 l (.lst (bs.map V.ref))=H3 at e_l e_L ka g2 ⊢
 have lL:l≠L:=fun z=>by rw [z,e_L] at e_l;cases e_l
 have e_l:ak L H3 l=some (.lst (bs.map V.ref)):=by rw [Zc lL];exact e_l
 have ka:KsAt (ak L H3) bs (cx (qs.map (·.1))):=ka.mono fun b xs e=>by rw [Zc (fun z=>by rw [z,e_L] at e;cases e)];exact e
 have bl:=Paired.length ka
 have sl:(cx (qs.map (·.1))).length=qs.length:=by rw [(Yz _).length_eq,List.length_map]
 have nL:=lC ts
 have c0:Can qs (cy ts)↔Can (dw qs 0) (cy ts):=(lE (n4 nd)).symm
 obtain ⟨l0,hl0⟩:∃l0:Sps,l0=cy ts:=⟨_,rfl⟩
 rw [←hl0] at e_L hz ll nn nL c0 hq
 clear hl0
 refine ⟨l,rfl,⟨_,Us e_l⟩,?_⟩
 refine Xs (xs:=bs.map V.ref) (fun i σ H'=>∃(o4 o5 o6 o7 o8 o9 o10 o11 o12:Option V) (ls:Sps),σ=[some (.ref r),some (.ref d),some (.int deep),some (.ref L),o4,o5,o6,o7,o8,o9,o10,o11,o12]∧Same H H'∧Grw L H3 H'∧H' L=some (.dK (izv ls))∧Hz ls∧ls.map (·.1)=l0.map (·.1)∧(∀p∈ls,0≤p.2)∧(Can qs l0↔Can (dw qs i) ls)) ⟨_,_,_,_,_,_,_,_,_,l0,rfl,g2,Same.refl _,e_L,hz,rfl,nn,c0⟩ ?_ ?_ ?_
 ·rintro i σ H' _ ⟨_,_,_,_,_,_,_,_,_,_,_,_,g,_⟩
  exact Us (g _ _ e_l)
 ·clear e_L hz nn c0 g2
  rintro i x σ H4 N B1 R hN hR hx ⟨o4,o5,o6,o7,o8,o9,o10,o11,o12,ls,rfl,g,gw,e_L,hz,keys,nn,cn⟩
  rw [List.getElem?_map] at hx
  obtain ⟨b,hb,rfl⟩:=Option.map_eq_some_iff.mp hx
  obtain ⟨k,hk,e_b⟩:=lZ ka hb
  have e_b:ak L H3 b=some (.tup [.int k.1,.int k.2]):=e_b
  have km:k∈qs.map (·.1):=(Yz _).mem_iff.mp (List.mem_of_getElem? hk)
  obtain ⟨p0,hp0,ep0⟩:=List.mem_map.mp km
  obtain ⟨k0,k1,_⟩:=kb p0 hp0
  rw [ep0] at k0 k1
  have cq:0≤cnt qs k:=Qd nd (fun p hp=>(kb p hp).2.2) k
  have nds:(ls.map (·.1)).Nodup:=by rw [keys];exact nL
  have lls:ls.length≤ts.length:=by
   have:=congrArg List.length keys
   rw [List.length_map,List.length_map] at this
   omega
  have kat:∀{H':Hp},Grw L H3 H'→KAt H' b k:=fun g=>(Z8 (g _ _ e_b)).2
  refine ⟨_,rfl,_,rfl,d,_,rfl,(by rw [←Wu km];exact Yv (g _ _ e_d) (kat gw)),?_⟩
  refine ⟨_,rfl,b,k,rfl,kat gw,k0,k1,?_⟩
  refine ⟨_,rfl,b,k,rfl,kat gw,k0,k1,fun H5 g5=>?_⟩
  have gw:=gw.trans (Wz e_L g5)
  have g:=g.trans g5
  have e_L:=g5 _ _ e_L
  clear g5
  refine ⟨⟨.inl rfl,.inl rfl,.inl rfl,.inl rfl,.inl rfl,.inl rfl,.inr rfl,.inl rfl,.inl rfl,.inl rfl,.inl rfl,.inl rfl,.inl rfl,trivial⟩,_,rfl,L,_,ls.map (fun p=>p.1.2),rfl,e_L,qD ls,by rw [List.length_map];omega,fun p n_p=>?_⟩
  have sp:=S0 (ls.map fun p=>p.1.2)
  have sl2:=sp.length_eq
  rw [List.length_map] at sl2
  have mem:∀n,n∈gM (ls.map fun p=>p.1.2)↔(0,n)∈ls.map (·.1):=fun n=>by
   rw [sp.mem_iff]
   refine ⟨fun h=>?_,fun h=>?_⟩
   ·obtain ⟨q,hq,e⟩:=List.mem_map.mp h
    exact List.mem_map.mpr ⟨q,hq,Prod.ext (hz q hq) e⟩
   ·obtain ⟨q,hq,e⟩:=List.mem_map.mp h
    exact List.mem_map.mpr ⟨q,hq,by rw [e]⟩
  generalize gM (ls.map fun p=>p.1.2)=ss at sl2 mem n_p ⊢
  have g6:=Z7 n_p (.lst (ss.map V.int))
  have e_p:(upd H5 p (.lst (ss.map V.int))) p=some (.lst (ss.map V.int)):=Z4
  have gw:=gw.trans (Wz e_L g6)
  have g:=g.trans g6
  have e_L:=g6 _ _ e_L
  clear g6 n_p sp
  generalize upd H5 p (.lst (ss.map V.int))=H6 at e_p gw g e_L ⊢
  refine ⟨p,rfl,⟨_,SqL.of e_p⟩,?_⟩
  refine Sa (xs:=ss.map V.int) (fun i ys H'=>H'=H6∧ys=(((ss.take i).filter fun n=>decide (aS k≤n∧n≤aO k)).map V.int)) ⟨rfl,rfl⟩ ?_ ?_ ?_
  ·rintro i ys H' _ ⟨rfl,_⟩
   exact SqL.of e_p
  ·rintro i y ys H' C hy ⟨rfl,rfl⟩ hC
   rw [List.getElem?_map] at hy
   obtain ⟨n,hn,rfl⟩:=Option.map_eq_some_iff.mp hy
   have fl:=List.length_filter_le (fun n:Int=>decide (aS k≤n∧n≤aO k)) (ss.take i)
   rw [List.length_take] at fl
   have tk:=Yj hn
   refine ⟨Zp (by rw [List.length_map];omega),Wk.refl _,_,rfl,_,rfl,_,_,rfl,rfl,_,rfl,?_⟩
   by_cases c1:aS k≤n
   ·rw [decide_eq_true c1]
    refine Wy ⟨_,rfl,_,_,rfl,rfl,_,rfl,?_⟩
    by_cases c2:n≤aO k
    ·rw [decide_eq_true c2]
     refine Wy ⟨_,rfl,hC _ _ ⟨rfl,?_⟩⟩
     rw [tk,List.filter_append,List.filter_cons,if_pos (decide_eq_true ⟨c1,c2⟩),List.map_append]
     rfl
    ·rw [decide_eq_false c2]
     refine Y5 (hC _ _ ⟨rfl,?_⟩)
     rw [tk,List.filter_append,List.filter_cons,if_neg (by simpa using fun _=>by omega),List.filter_nil,List.append_nil]
   ·rw [decide_eq_false c1]
    refine Y5 ⟨_,rfl,Y5 (hC _ _ ⟨rfl,?_⟩)⟩
    rw [tk,List.filter_append,List.filter_cons,if_neg (by simpa using fun z=>absurd z c1),List.filter_nil,List.append_nil]
  rintro ys H' ⟨rfl,rfl⟩
  rw [show (ss.map V.int).length=ss.length from List.length_map _,List.take_length]
  have fl:=List.length_filter_le (fun n:Int=>decide (aS k≤n∧n≤aO k)) ss
  have fm:∀n∈ss.filter (fun n=>decide (aS k≤n∧n≤aO k)),n∈ss∧aS k≤n∧n≤aO k:=fun n hn=>⟨(List.mem_filter.mp hn).1,of_decide_eq_true (List.mem_filter.mp hn).2⟩
  have fa:∀n∈ss,aS k≤n→n≤aO k→n∈ss.filter (fun n=>decide (aS k≤n∧n≤aO k)):=fun n hn a b=>List.mem_filter.mpr ⟨hn,decide_eq_true ⟨a,b⟩⟩
  generalize ss.filter (fun n=>decide (aS k≤n∧n≤aO k))=zs at fl fm fa ⊢
  refine ⟨Zn (by rw [List.length_map];omega),fun p2 o_=>?_⟩
  have g7:=Z7 o_ (.lst (zs.map V.int))
  have cS:(upd H' p2 (.lst (zs.map V.int))) p2=some (.lst (zs.map V.int)):=Z4
  have gw:=gw.trans (Wz e_L g7)
  have g:=g.trans g7
  have e_L:=g7 _ _ e_L
  clear g7 o_ e_p
  generalize upd H' p2 (.lst (zs.map V.int))=H7 at cS gw g e_L ⊢
  have pL:p2≠L:=fun z=>by rw [z,e_L] at cS;cases cS
  have cS:ak L H7 p2=some (.lst (zs.map V.int)):=by rw [Zc pL];exact cS
  refine ⟨p2,rfl,⟨_,Us cS⟩,?_⟩
  refine Xs (xs:=zs.map V.int) (fun j σ H'=>∃(o6 o12:Option V) (lt:Sps) (due:Int),σ=[some (.ref r),some (.ref d),some (.int deep),some (.ref L),o4,o5,o6,o7,some (.ref b),some (.int due),some (.int (aS k)),some (.int (aO k)),o12]∧Same H H'∧Grw L H3 H'∧Grw L H7 H'∧H' L=some (.dK (izv lt))∧Hz lt∧Tkn (aS k) (aO k) (cnt qs k) ls lt due∧(due=0∨∀n∈zs.take j,cnt lt (0,n)=0)) ⟨_,_,ls,_,rfl,g,gw,Same.refl _,e_L,hz,u_ cq nn,.inr fun _ h=>nomatch h⟩ ?_ ?_ ?_
  ·rintro j σ H' _ ⟨_,_,_,_,_,_,_,g,_⟩
   exact Us (g _ _ cS)
  ·clear e_L g gw
   rintro j y σ H8 N2 B2 R2 hN2 hR2 hy ⟨o6,o12,lt,due,rfl,g,gw,gv,e_L,hzt,tk,dz⟩
   rw [List.getElem?_map] at hy
   obtain ⟨n,hn,rfl⟩:=Option.map_eq_some_iff.mp hy
   obtain ⟨n0,n1,n2⟩:=fm n (List.mem_of_getElem? hn)
   have nk:(0,n)∈ls.map (·.1):=(mem n).mp n0
   have nkt:(0,n)∈lt.map (·.1):=by rw [tk.keys];exact nk
   have ltl:lt.length≤ts.length:=by
    have:=congrArg List.length tk.keys
    rw [List.length_map,List.length_map] at this
    omega
   have dg:DGet H8 L (kV (.inl n)) (some (.int (cnt lt (0,n)))):=by
    have q:=DGet.k (k:=.inl n) e_L
    rw [nZ _ hzt,Wu nkt] at q
    exact q
   refine ⟨_,rfl,_,rfl,_,rfl,L,_,rfl,dg,due,cnt lt (0,n),rfl,?_⟩
   rw [sr]
   have ts':=lG tk nds nk n1 n2
   refine ⟨_,rfl,_,rfl,L,_,rfl,dg,_,rfl,_,_,rfl,rfl,_,rfl,_,rfl,L,_,rfl,DPut.k (k:=.inl n) e_L (Zp (by rw [lq];omega)),?_⟩
   refine ⟨_,rfl,_,rfl,_,_,rfl,rfl,hN2 _ _ ⟨_,_,av lt (0,n) (cnt lt (0,n) - min due (cnt lt (0,n))),due - min due (cnt lt (0,n)),rfl,Yx g n_L,gw.trans Yh,gv.trans Yh,?_,mq hzt,ts',?_⟩⟩
   ·rw [←oi _ _ hzt]
    exact Z4
   ·have d0:=tk.d0
    by_cases c:due≤cnt lt (0,n)
    ·exact .inl (by omega)
    ·refine .inr fun m hm=>?_
     rw [Ub]
     split
     ·omega
     ·rename_i ne
      rw [Yj hn] at hm
      rcases List.mem_append.mp hm with z | z
      ·rcases dz with dz | dz
       ·have:=Qd (by rw [tk.keys];exact nds) tk.nn (0,n)
        omega
       ·exact dz m z
      ·exact absurd (by rw [List.mem_singleton.mp z]) ne
  ·clear e_L g gw
   rintro σ H8 ⟨o6,o12,lt,due,rfl,g,gw,gv,e_L,hzt,tk,dz⟩
   rw [List.length_map,List.take_length] at dz
   rw [rL hk] at cn
   refine ⟨_,rfl,_,_,rfl,rfl,_,rfl,?_⟩
   have d0:=tk.d0
   by_cases c:due > 0
   ·rw [decide_eq_true c]
    have zr:∀n,aS k≤n→n≤aO k→cnt lt (0,n)=0:=fun n a b=>by
     rcases dz with dz | dz
     ·omega
     ·by_cases m:n∈ss
      ·exact dz n (fa n m a b)
      ·exact Yw fun z=>m ((mem n).mpr (by rw [←tk.keys];exact z))
    have sh:=kO tk nds hz zr
    have no:=kG (rem:=dw qs (i+1)) cq (fun p hp=>(kb p (pR nd hp)).2.2) sh c k0
    exact Wy (hR _ _ (hq false _ g ⟨(fun z=>nomatch z),fun C=>absurd (cn.mp C) no⟩))
   ·rw [decide_eq_false c]
    have e0:due=0:=by omega
    rw [e0] at tk
    refine Y5 (hN _ _ ⟨_,_,_,_,_,_,_,_,_,lt,rfl,g,gw,e_L,hzt,tk.keys.trans keys,tk.nn,?_⟩)
    exact cn.trans ⟨fun C=>qQ tk k0 (sV hk) C,fun C=>kE tk C⟩
 ·clear e_L hz nn c0 g2
  rintro σ H4 ⟨o4,o5,o6,o7,o8,o9,o10,o11,o12,ls,rfl,g,gw,e_L,hz,keys,nn,cn⟩
  rw [List.length_map,bl] at cn
  have er:dw qs (cx (qs.map (·.1))).length=[]:=by
   unfold dw
   rw [List.drop_length]
   rfl
  rw [er] at cn
  refine ⟨_,(@Z6 _ _ _ (@Ze _ _ _ _ (@V7 _ _ _ _ _ _ _ _ Qz (Zh (Vu rfl) rfl cA PyProof.Rows.boot_sum (@Z0 _ _ _ _ _ (X2 (eQ rfl) rfl bE PyProof.Rows.boot_list (@Z0 _ _ _ _ _ (Up PySem.F.plainAttrs_dict PySem.F.slot_dict_values PySem.F.type_dict_values jX (pv 3)) Z1 (by rfl))) Z1 (by rfl))) Z3 (Zl _)))),?_⟩
  refine ⟨_,rfl,.inr (.inr (.inl ⟨rfl,.inl ⟨_,e_L⟩⟩)),L,_,rfl,rfl,e_L,?_⟩
  have gg:=g
  intro v n_v
  generalize hz:upd _ v _=H5
  have gz:=Zj hz n_v
  have e_v:=Zr hz
  clear hz
  have gg:=gg.trans gz
  have e_L:=gz _ _ e_L
  refine ⟨v,L,_,rfl,e_v,e_L,?_⟩
  rw [qt]
  intro l2 n_l2
  generalize hz:upd _ l2 _=H6
  have gz:=Zj hz n_l2
  have e_l2:=Zr hz
  clear hz
  have gg:=gg.trans gz
  refine ⟨l2,_,rfl,SqL.of e_l2,rfl,?_⟩
  refine hq _ _ gg ?_
  rw [cn,pV nn]
  refine ⟨fun z=>?_,fun z=>decide_eq_true ?_⟩
  ·have:=of_decide_eq_true z
   injection this
  ·show V.int (ai ls)=V.int 0
   rw [z]
end
def cH:Sp:=fun vs H Q _=>∃(x:V) (T:String),vs=[x]∧Kd H x T∧Q (.bl (whV x)) H
def sx:Sp:=fun vs H Q _=>∃(x:V) (T:String) (l:Int),vs=[x,.int l]∧Kd H x T∧Q (.bl (wF x l)) H
def oA:Sp:=fun vs H Q _=>∃(i l m:Int),vs=[.int i,.int l,.int m]∧Q (.bl (decide (l≤i) && decide (i≤m))) H
section
variable {P:Program} {w:World} {K:W.Frag} {mg:Str→Option Value} {base:Heap} {f:Addr} {fd:FuncData}
theorem W9 (af:mg "isinstance"=none) (d7:mg "int"=none) (de:mg "bool"=none) (F:Fun K "is_whole" "is_whole" bJ f fd):FnOk P w K mg base CX0 1 f fd ["thing"] cH:=by
 refine F.ok Oy (fun vs H Q E h=>?_) (fun cdv A outer s H vs Q E hr h=>?_)
 ·obtain ⟨x,T,rfl,_⟩:=h
  rfl
 obtain ⟨x,T,rfl,hk,hq⟩:=h
 refine ⟨_,(@Z6 _ _ _ (@Ze _ _ _ _ (@S6 _ _ _ _ _ _ _ (Zh Wc rfl af PyProof.Rows.boot_isinstance (@Z0 _ _ _ _ _ (pv 0) (@Z0 _ _ _ _ _ (W7 (v:=.ty "int") rfl d7 PyProof.Rows.boot_int rfl) Z1 (by rfl)) (by rfl))) (@S4 _ _ _ _ _ (@uc _ _ _ _ (Zh Wc rfl af PyProof.Rows.boot_isinstance (@Z0 _ _ _ _ _ (pv 0) (@Z0 _ _ _ _ _ (W7 (v:=.ty "bool") rfl de PyProof.Rows.boot_bool rfl) Z1 (by rfl)) (by rfl)))))))),?_⟩
 rw [←hk.wh] at hq
 refine ⟨_,rfl,_,_,"int",_,rfl,hk.ty,hk.kit (by decide) rfl,_,rfl,?_⟩
 refine Tp (fun c=>?_) (fun c=>?_)
 ·refine ⟨_,rfl,_,_,"bool",_,rfl,hk.ty,hk.kit (by decide) rfl,_,rfl,?_⟩
  rw [c,Bool.true_and] at hq
  exact hq
 ·rw [Bool.eq_false_iff.mpr c,Bool.false_and] at hq
  exact hq
theorem Xa (cR:Has P w K mg base "is_whole" 1 ["thing"] cH) (F:Fun K "is_whole_from" "is_whole_from" aC f fd):FnOk P w K mg base CX0 2 f fd ["thing","least"] sx:=by
 refine F.ok S2 (fun vs H Q E h=>?_) (fun cdv A outer s H vs Q E hr h=>?_)
 ·obtain ⟨x,T,l,rfl,_⟩:=h
  rfl
 obtain ⟨x,T,l,rfl,hk,hq⟩:=h
 refine ⟨_,(@Z6 _ _ _ (@Ze _ _ _ _ (@S6 _ _ _ _ _ _ _ (Z5 cR hr (@Z0 _ _ _ _ _ (pv 0) Z1 (by rfl))) (@S4 _ _ _ _ _ (@V7 _ _ _ _ _ _ _ _ mX (pv 0) (pv 1) (Zl _)))))),?_⟩
 refine ⟨_,rfl,x,T,rfl,hk,_,rfl,?_⟩
 cases x with
 | int i=>exact Wy ⟨_,rfl,_,rfl,_,_,rfl,rfl,hq⟩
 | _=>exact Y5 hq
theorem Xx (bN:Has P w K mg base "is_whole_from" 2 ["thing","least"] sx) (F:Fun K "is_whole_within" "is_whole_within" ay f fd):FnOk P w K mg base CX0 3 f fd ["thing","least","most"] oA:=by
 refine F.ok Um (fun vs H Q E h=>?_) (fun cdv A outer s H vs Q E hr h=>?_)
 ·obtain ⟨i,l,m,rfl,_⟩:=h
  rfl
 obtain ⟨i,l,m,rfl,hq⟩:=h
 refine ⟨_,(@Z6 _ _ _ (@Ze _ _ _ _ (@S6 _ _ _ _ _ _ _ (Z5 bN hr (@Z0 _ _ _ _ _ (pv 0) (@Z0 _ _ _ _ _ (pv 1) Z1 (by rfl)) (by rfl))) (@S4 _ _ _ _ _ (@V7 _ _ _ _ _ _ _ _ Tg (pv 0) (pv 2) (Zl _)))))),?_⟩
 refine ⟨_,rfl,_,rfl,.int i,"int",l,rfl,.int _,_,rfl,?_⟩
 refine Tp (fun c=>?_) (fun c=>?_)
 ·have c:decide (l≤i)=true:=c
  rw [c,Bool.true_and] at hq
  exact ⟨_,rfl,_,rfl,_,_,rfl,rfl,hq⟩
 ·have c:decide (l≤i)=false:=Bool.eq_false_iff.mpr c
  rw [c,Bool.false_and] at hq
  exact hq
end
end K26
namespace L2
open PySem PySem.Spec PyProof.Rows
theorem pW {X:Cx} (K:W.Frag) (hK:X.K=K) (hu:X.A.units+1<cLine):OpR X (compareOp .Lt) (uA K):=hK ▸ rX (Nat.lt_of_succ_lt hu)
end L2
namespace K26
open PySem L2 Ld
theorem Oh:∀n:Nat,(List.replicate n true).all id=true:=by
 intro n
 induction n with
 | zero=>rfl
 | succ n ih=>rw [List.replicate_succ,List.all_cons,ih];rfl
def ltK (a b:Int×Int):Prop:=a.1<b.1∨(a.1=b.1∧a.2<b.2)
theorem oX {a b:Int×Int} (h:ltK a b):HT.lexLt [a.1,a.2] [b.1,b.2]=true:=by
 rw [HT.lexLt_cons]
 rcases h with h | ⟨h,g⟩
 ·rw [if_neg (by omega)]
  exact decide_eq_true h
 ·rw [if_pos h,HT.lexLt_cons,if_neg (by omega)]
  exact decide_eq_true g
theorem iA {ps:Sps} (nd:(ps.map (·.1)).Nodup) (s:ba ps=ps):(ps.map (·.1)).Pairwise ltK:=by
 have pw:=T4 ps
 rw [s] at pw
 have h:(ps.map (·.1)).Pairwise fun a b=>leK a b=true:=List.pairwise_map.mpr (pw.imp fun {p q} h=>by
  have h:=U5.mp h
  rw [X6]
  omega)
 refine (h.and nd).imp ?_
 rintro a b ⟨h1,h2⟩
 rcases X6.mp h1 with z | ⟨z,y⟩
 ·exact .inl z
 ·refine .inr ⟨z,?_⟩
  rcases Int.lt_or_le a.2 b.2 with c | c
  ·exact c
  ·exact absurd (Prod.ext z (by omega)) h2
def stO (deep:Int) (k:Int×Int):Prop:=0≤k.1∧k.1≤deep∧0≤k.2∧k.2<2 ^ (deep - k.1).toNat
def q9:Sp:=fun vs H Q _=>∃(a:Addr) (bs:List Addr) (ks:List (Int×Int)),vs=[.ref a]∧H a=some (.lst (bs.map V.ref))∧KsAt H bs ks∧ks.length≤300∧ks.Pairwise ltK∧∀H',Same H H'→Q (.bl true) H'
def rh:Sp:=fun vs H Q _=>∃(i:Int),vs=[.int i]∧Q (.bl (decide (1≤i) && decide (i≤20))) H
def lX:Sp:=fun vs H Q _=>∃(p:Addr) (k:Int×Int) (deep:Int),vs=[.ref p,.int deep]∧KAt H p k∧stO deep k∧deep≤20∧∀H',Same H H'→Q (.bl true) H'
def vk (P:Program) (w:World) (K:W.Frag) (mg:Str→Option Value) (base:Heap) (k:Nat) (Hh:Hp) (m:Addr) (ok:Int×Int→Prop):Prop:=∃(fd:FuncData) (ps:List Str) (sp:Sp),FnOk P w K mg base CX0 k m fd ps sp∧Binds K fd ps []∧Cal base m∧
 ∀(H:Hp) (x:Addr) (key:Int×Int) (Q:VK),Same Hh H→KAt H x key→ok key→(∀(H':Hp),Same H H'→Q (.bl true) H')→sp [.ref x] H Q E0
def kX (P:Program) (w:World) (K:W.Frag) (mg:Str→Option Value) (base:Heap):Sp:=fun vs H Q _=>∃(c m b:Addr) (key:Int×Int) (n:Int) (Hh:Hp) (ok:Int×Int→Prop),vs=[.ref c,.ref m]∧H c=some (.tup [.ref b,.int n])∧KAt H b key∧ok key∧1≤n∧Same Hh H∧vk P w K mg base 5 Hh m ok∧∀H',Same H H'→Q (.bl true) H'
def gA (P:Program) (w:World) (K:W.Frag) (mg:Str→Option Value) (base:Heap):Sp:=fun vs H Q _=>∃(b m:Addr) (as:List Addr) (ps:Sps) (ok:Int×Int→Prop),vs=[.ref b,.ref m]∧H b=some (.tup (as.map V.ref))∧Paired (FT H) as ps∧(∀p∈ps,ok p.1∧1≤p.2)∧(ps.map (·.1)).Pairwise ltK∧ps.length≤300∧vk P w K mg base 5 H m ok∧∀H',Same H H'→Q (.bl true) H'
section
variable {P:Program} {w:World} {K:W.Frag} {mg:Str→Option Value} {base:Heap} {f:Addr} {fd:FuncData}
theorem r_ (cX:mg "all"=none) (lW:mg "zip"=none) (F:Fun K "is_rising" "is_rising" bx f fd):FnOk P w K mg base CX0 1 f fd ["parts"] q9:=by
 refine F.ok Ps (fun vs H Q E h=>?_) (fun cdv A outer s H vs Q E hr h=>?_)
 ·obtain ⟨a,bs,ks,rfl,_⟩:=h
  rfl
 obtain ⟨a,bs,ks,rfl,e_a,ka,zl,pw,hq⟩:=h
 have bl:=Paired.length ka
 refine ⟨_,(@Z6 _ _ _ (@Ze _ _ _ _ (Zh (Qf rfl) rfl cX PyProof.Rows.boot_all (@Z0 _ _ _ _ _ (Xo (own:=["one","other"]) (CompOk.of rfl rfl (by rfl) (by rfl) (by rfl)) (tZ rfl lW (@Z0 _ _ _ _ _ (pv 0) (@Z0 _ _ _ _ _ (Vl Pr (pv 0) (Td Z3) Te) Z1 (by rfl)) (by rfl)))
  (fun _ _ _ _ _=>(Tf K 2 rfl rfl (Za (Z9 (i:=0) Xy rfl (Or.inl rfl) (Or.inr rfl)) (Za (Z9 (i:=1) Xy rfl (Or.inl rfl) (Or.inr rfl)) Zw)))) (fun _ _ _ _ _=>Xm)
  (fun _ _ _ _ _=>(@V7 _ _ _ _ _ _ _ _ (pW K rfl (Yp hr)) (pv 0) (pv 1) (Zl _)))) Z1 (by rfl))))),?_⟩
 refine ⟨_,rfl,_,rfl,1,rfl,a,_,rfl,SqL.of e_a,fun b n_b=>?_⟩
 have eb:cW (bs.map V.ref) (some 1) none=(bs.drop 1).map V.ref:=by
  unfold cW
  have h:=HT.sIx_nat (bs.map V.ref).length 0 1
  rw [show ((1:Nat):Int)=1 from rfl] at h
  rw [h,HT.sIx_none,List.length_map]
  rcases bs with _ | ⟨z,zs⟩
  ·rfl
  ·rw [List.length_cons,Nat.min_eq_left (by omega),List.map_drop]
   exact List.take_of_length_le (by rw [List.length_drop,List.length_map,List.length_cons];omega)
 rw [eb]
 have g0:=Z7 n_b (.lst ((bs.drop 1).map V.ref))
 have e_b:=Z4 (H:=H) (a:=b) (o:=.lst ((bs.drop 1).map V.ref))
 have e_a:=g0 _ _ e_a
 have ka:=ka.mono fun b xs e=>g0 b _ e
 generalize upd H b (.lst ((bs.drop 1).map V.ref))=H1 at g0 e_b e_a ka ⊢
 refine ⟨a,b,rfl,⟨_,SqL.of e_a⟩,⟨_,SqL.of e_b⟩,?_⟩
 have ln:min (bs.map V.ref).length ((bs.drop 1).map V.ref).length≤300:=by rw [List.length_map,List.length_map];omega
 refine lj (xs:=bs.map V.ref) (zs:=(bs.drop 1).map V.ref) (fun n ys H'=>Same H1 H'∧ys=(List.replicate n true).map V.bl) ⟨Same.refl _,rfl⟩ ?_ ?_ ?_ ?_
 ·rintro n ys H' _ ⟨g,_⟩
  exact ⟨SqL.of (g _ _ e_a),SqL.of (g _ _ e_b)⟩
 ·rintro n x z ys H' T C hx hz ⟨g,rfl⟩ nT hC
  have nl:n<(bs.map V.ref).length:=(List.getElem?_eq_some_iff.mp hx).1
  rw [List.length_map] at nl
  obtain ⟨b1,k1,rfl,hk1,e1⟩:=O7 ka hx
  have hz':(bs.map V.ref)[n+1]?=some z:=by
   rw [List.getElem?_map,List.getElem?_drop] at hz
   rw [List.getElem?_map,show n+1=1+n by omega]
   exact hz
  obtain ⟨b2,k2,rfl,hk2,e2⟩:=O7 ka hz'
  have lt:=nP pw hk1 hk2 (Nat.lt_succ_self n)
  have gT:=g.trans (Z7 nT (.tup [.ref b1,.ref b2]))
  refine ⟨Zp ?_,T,_,rfl,SqT.of Z4,rfl,_,_,rfl,_,_,rfl,rfl,Wk.refl _,_,rfl,_,rfl,b1,b2,[k1.1,k1.2],[k2.1,k2.2],rfl,rfl,SqT.of (gT _ _ e1),SqT.of (gT _ _ e2),hC _ _ ⟨gT,?_⟩⟩
  ·rw [List.length_map,List.length_replicate]
   omega
  ·rw [oX lt,List.replicate_succ',List.map_append]
   rfl
 ·rintro n ys H' hn ⟨g,rfl⟩
  rw [List.length_map,List.length_replicate]
  exact Zp (by omega)
 ·rintro ys H' ⟨g,rfl⟩
  refine ⟨Zn ?_,fun p hp=>⟨p,_,rfl,SqL.of Z4,?_⟩⟩
  ·rw [List.length_map,List.length_replicate]
   omega
  ·rw [Oh]
   exact hq _ (g0.trans (g.trans (Z7 hp _)))
theorem sG (ax:Has P w K mg base "is_whole_within" 3 ["thing","least","most"] oA) (fh:∃u,mg "MOST_ROOM"=some u∧RelV (.int 20) u) (F:Fun K "is_room" "is_room" bR f fd):FnOk P w K mg base CX0 4 f fd ["thing"] rh:=by
 refine F.ok gN (fun vs H Q E h=>?_) (fun cdv A outer s H vs Q E hr h=>?_)
 ·obtain ⟨i,rfl,_⟩:=h
  rfl
 obtain ⟨i,rfl,hq⟩:=h
 refine ⟨_,(@Z6 _ _ _ (@Ze _ _ _ _ (Z5 ax hr (@Z0 _ _ _ _ _ (pv 0) (@Z0 _ _ _ _ _ Z3 (@Z0 _ _ _ _ _ (Rk rfl fh) Z1 (by rfl)) (by rfl)) (by rfl))))),?_⟩
 exact ⟨_,rfl,i,1,20,rfl,hq⟩
theorem sM (af:mg "isinstance"=none) (aA:mg "tuple"=none) (aF:mg "len"=none) (ax:Has P w K mg base "is_whole_within" 3 ["thing","least","most"] oA) (c_:Has P w K mg base "last_of" 2 ["stretch"] fW) (F:Fun K "is_stretch" "is_stretch" aY f fd):FnOk P w K mg base CX0 4 f fd ["thing","deep"] lX:=by
 refine F.ok Wf (fun vs H Q E h=>?_) (fun cdv A outer s H vs Q E hr h=>?_)
 ·obtain ⟨p,k,deep,rfl,_⟩:=h
  rfl
 obtain ⟨p,k,deep,rfl,e_p,⟨k0,k1,k2,k3⟩,dp,hq⟩:=h
 refine ⟨_,(@Z2 _ _ _ _ _ (@Y7 _ _ _ _ _ _ _ _ (PW.pt (@W4 _ _ _ _ _ _ _ (@X4 _ _ _ _ (X3 (Zh Wc rfl af PyProof.Rows.boot_isinstance (@Z0 _ _ _ _ _ (pv 0) (@Z0 _ _ _ _ _ (W7 (v:=.ty "tuple") rfl aA PyProof.Rows.boot_tuple rfl) Z1 (by rfl)) (by rfl))))) (@Wg _ _ _ _ (@Zk _ _ _ _ _ _ _ _ Rr (Zh Zu rfl aF PySem.boot_len (@Z0 _ _ _ _ _ (pv 0) Z1 (by rfl))) Z3 (Zl _))))) (@Z6 _ _ _ (@Ze _ _ _ _ Xf)) Zq)
 (@Z2 _ _ _ _ _ (Yn (pv 0) (Yo rfl (Za (Z9 (i:=2) Wf.nd rfl (Or.inl rfl)) (Za (Z9 (i:=3) Wf.nd rfl (Or.inl rfl)) Zw))))
 (@Z6 _ _ _ (@Ze _ _ _ _ (@S6 _ _ _ _ _ _ _ (Z5 ax hr (@Z0 _ _ _ _ _ (pv 2) (@Z0 _ _ _ _ _ Z3 (@Z0 _ _ _ _ _ (pv 1) Z1 (by rfl)) (by rfl)) (by rfl))) (@S4 _ _ _ _ _ (Z5 ax hr (@Z0 _ _ _ _ _ (pv 3) (@Z0 _ _ _ _ _ Z3 (@Z0 _ _ _ _ _ (Z5 c_ hr (@Z0 _ _ _ _ _ (@Y1 _ _ _ _ _ (@Z0 _ _ _ _ _ (@Zd _ _ _ _ _ _ _ _ Wh (pv 1) (pv 2)) (@Z0 _ _ _ _ _ Z3 Z1 (by rfl)) (by rfl))) Z1 (by rfl))) Z1 (by rfl)) (by rfl)) (by rfl))))))))),?_⟩
 have hk:Kd H (.ref p) "tuple":=.tup e_p
 refine ⟨_,rfl,_,_,"tuple",_,rfl,hk.ty,hk.kit (by decide) rfl,_,rfl,Y5 ⟨_,rfl,p,_,rfl,.inr (SqT.of e_p),rfl,_,rfl,Y5 ?_⟩⟩
 refine ⟨_,rfl,p,_,rfl,SqT.of e_p,rfl,_,_,rfl,_,_,rfl,rfl,?_⟩
 refine ⟨_,rfl,_,rfl,k.1,0,deep,rfl,_,rfl,?_⟩
 rw [decide_eq_true k0,decide_eq_true k1]
 refine Wy ⟨_,rfl,_,rfl,_,rfl,_,_,rfl,rfl,leN rfl,fun q n_q=>?_⟩
 refine ⟨q,(deep - k.1,0),rfl,Z4,by show 0≤deep - k.1;omega,by show deep - k.1≤20;omega,Int.le_refl _,by show (0:Int)≤_;decide,fun H2 g2=>?_⟩
 refine ⟨k.2,0,aO (deep - k.1,0),rfl,?_⟩
 have e:aO (deep - k.1,0)=2 ^ (deep - k.1).toNat - 1:=by
  show (0+1) * 2 ^ (deep - k.1).toNat - 1=_
  rw [Int.zero_add,Int.one_mul]
 rw [e,decide_eq_true k2,decide_eq_true (by omega)]
 exact hq _ ((Z7 n_q _).trans g2)
theorem pU (af:mg "isinstance"=none) (aA:mg "tuple"=none) (aF:mg "len"=none) (bN:Has P w K mg base "is_whole_from" 2 ["thing","least"] sx)
  (F:Fun K "is_count" "is_count" bF f fd):FnOk P w K mg base CX0 6 f fd ["thing","is_key"] (kX P w K mg base):=by
 refine F.ok Vh (fun vs H Q E h=>?_) (fun cdv A outer s H vs Q E hr h=>?_)
 ·obtain ⟨c,m,b,key,n,Hh,ok,rfl,_⟩:=h
  rfl
 obtain ⟨c,m,b,key,n,Hh,ok,rfl,e_c,e_b,hok,n0,sm,⟨fm,pm,sp,FM,BM,CM,um⟩,hq⟩:=h
 refine ⟨_,(@Z2 _ _ _ _ _ (@Y7 _ _ _ _ _ _ _ _ (PW.pt (@W4 _ _ _ _ _ _ _ (@X4 _ _ _ _ (X3 (Zh Wc rfl af PyProof.Rows.boot_isinstance (@Z0 _ _ _ _ _ (pv 0) (@Z0 _ _ _ _ _ (W7 (v:=.ty "tuple") rfl aA PyProof.Rows.boot_tuple rfl) Z1 (by rfl)) (by rfl))))) (@Wg _ _ _ _ (@Zk _ _ _ _ _ _ _ _ Rr (Zh Zu rfl aF PySem.boot_len (@Z0 _ _ _ _ _ (pv 0) Z1 (by rfl))) Z3 (Zl _))))) (@Z6 _ _ _ (@Ze _ _ _ _ Xf)) Zq)
 (@Z2 _ _ _ _ _ (Yn (pv 0) (Yo rfl (Za (Z9 (i:=2) Vh.nd rfl (Or.inl rfl)) (Za (Z9 (i:=3) Vh.nd rfl (Or.inl rfl)) Zw))))
 (@Z6 _ _ _ (@Ze _ _ _ _ (@S6 _ _ _ _ _ _ _ (Rm (i:=1) hr (@Z0 _ _ _ _ _ (pv 2) Z1 (by rfl))) (@S4 _ _ _ _ _ (Z5 bN hr (@Z0 _ _ _ _ _ (pv 3) (@Z0 _ _ _ _ _ Z3 Z1 (by rfl)) (by rfl))))))))),?_⟩
 have hk:Kd H (.ref c) "tuple":=.tup e_c
 refine ⟨_,rfl,_,_,"tuple",_,rfl,hk.ty,hk.kit (by decide) rfl,_,rfl,Y5 ⟨_,rfl,c,_,rfl,.inr (SqT.of e_c),rfl,_,rfl,Y5 ?_⟩⟩
 refine ⟨_,rfl,c,_,rfl,SqT.of e_c,rfl,_,_,rfl,_,_,rfl,rfl,?_⟩
 refine ⟨m,fm,_,_,rfl,FM.mono (by decide),BM,CM,_,rfl,um H b key _ sm e_b hok fun H1 g1=>⟨_,rfl,?_⟩⟩
 refine Wy ⟨_,rfl,_,"int",_,rfl,.int _,?_⟩
 rw [show wF (.int n) 1=true from decide_eq_true n0]
 exact hq _ g1
theorem pY (af:mg "isinstance"=none) (aA:mg "tuple"=none) (cX:mg "all"=none) (fY:Has P w K mg base "is_count" 6 ["thing","is_key"] (kX P w K mg base)) (eM:Has P w K mg base "is_rising" 1 ["parts"] q9)
  (F:Fun K "are_counts" "are_counts" aV f fd):FnOk P w K mg base CX0 7 f fd ["thing","is_key"] (gA P w K mg base):=by
 refine F.ok Qj (fun vs H Q E h=>?_) (fun cdv A outer s H vs Q E hr h=>?_)
 ·obtain ⟨b,m,as,ps,ok,rfl,_⟩:=h
  rfl
 obtain ⟨b,m,as,ps,ok,rfl,e_b,pr,pk,pw,pl,ky,hq⟩:=h
 refine ⟨_,(@Z2 _ _ _ _ _ (@Y7 _ _ _ _ _ _ _ _ (PW.pt (@W4 _ _ _ _ _ _ _ (@X4 _ _ _ _ (X3 (Zh Wc rfl af PyProof.Rows.boot_isinstance (@Z0 _ _ _ _ _ (pv 0) (@Z0 _ _ _ _ _ (W7 (v:=.ty "tuple") rfl aA PyProof.Rows.boot_tuple rfl) Z1 (by rfl)) (by rfl))))) (@Wg _ _ _ _ (@X4 _ _ _ _ (X3 (Zh (Qf rfl) rfl cX PyProof.Rows.boot_all (@Z0 _ _ _ _ _ (Xo (own:=["one"]) (CompOk.of rfl rfl (by rfl) (by rfl) (by rfl)) (Uo (pv 0))
  (fun _ _ _ _ _=>(Z9 (i:=0) Uf rfl (Or.inl rfl) (Or.inr rfl))) (fun _ _ _ _ _=>Xm)
  (fun _ _ _ _ _=>(Z5 fY hr (@Z0 _ _ _ _ _ (pv 0) (@Z0 _ _ _ _ _ (pv 2) Z1 (by rfl)) (by rfl))))) Z1 (by rfl)))))))) (@Z6 _ _ _ (@Ze _ _ _ _ Xf)) Zq)
 (@Z6 _ _ _ (@Ze _ _ _ _ (Z5 eM hr (@Z0 _ _ _ _ _ (Xo (own:=["key","count"]) (CompOk.of rfl rfl (by rfl) (by rfl) (by rfl)) (Uo (pv 0))
  (fun _ _ _ _ _=>(Tf K 2 rfl rfl (Za (Z9 (i:=0) Xk rfl (Or.inl rfl) (Or.inr rfl)) (Za (Z9 (i:=1) Xk rfl (Or.inl rfl) (Or.inr rfl)) Zw)))) (fun _ _ _ _ _=>Xm)
  (fun _ _ _ _ _=>(pv 0))) Z1 (by rfl)))))),?_⟩
 have hk:Kd H (.ref b) "tuple":=.tup e_b
 have al:=Paired.length pr
 refine ⟨_,rfl,_,_,"tuple",_,rfl,hk.ty,hk.kit (by decide) rfl,_,rfl,Y5 ⟨_,rfl,b,rfl,⟨_,SqT.of e_b⟩,?_⟩⟩
 refine Vs (xs:=as.map V.ref) (fun n ys H'=>Same H H'∧ys=(List.replicate n true).map V.bl) ⟨Same.refl _,rfl⟩ ?_ ?_ ?_
 ·rintro n ys H' _ ⟨g,_⟩
  exact SqT.of (g _ _ e_b)
 ·rintro n x ys H' C hx ⟨g,rfl⟩ hC
  obtain ⟨a,p,rfl,hp,b',e1,e2⟩:=Ut pr hx
  have mp:=List.mem_of_getElem? hp
  have nl:=(List.getElem?_eq_some_iff.mp hp).1
  refine ⟨Zp ?_,Wk.refl _,_,rfl,_,rfl,a,m,b',p.1,p.2,H,ok,rfl,g _ _ e1,g _ _ e2,(pk p mp).1,(pk p mp).2,g,ky,fun H1 g1=>hC _ _ ⟨g.trans g1,?_⟩⟩
  ·rw [List.length_map,List.length_replicate]
   omega
  ·rw [List.replicate_succ',List.map_append]
   rfl
 ·rintro ys H' ⟨g,rfl⟩
  rw [show (as.map V.ref).length=as.length from List.length_map _]
  refine ⟨Zn ?_,fun p hp=>⟨p,_,rfl,SqL.of Z4,_,rfl,?_⟩⟩
  ·rw [List.length_map,List.length_replicate]
   omega
  ·rw [Oh]
   have g1:=g.trans (Z7 hp (.lst ((List.replicate as.length true).map V.bl)))
   generalize upd H' p (.lst ((List.replicate as.length true).map V.bl))=H1 at g1 ⊢
   refine Y5 ⟨_,rfl,⟨b,rfl,⟨_,SqT.of (g1 _ _ e_b)⟩,?_⟩⟩
   refine Vs (xs:=as.map V.ref) (fun n ys H'=>H'=H1∧∃bs:List Addr,ys=bs.map V.ref∧KsAt H1 bs ((ps.take n).map (·.1))) ⟨rfl,[],rfl,.nil⟩ ?_ ?_ ?_
   ·rintro n ys H' _ ⟨rfl,_⟩
    exact SqT.of (g1 _ _ e_b)
   ·rintro n x ys H' C hx ⟨rfl,bs,rfl,ka⟩ hC
    obtain ⟨a,p,rfl,hp,b',e1,e2⟩:=Ut pr hx
    have nl:=(List.getElem?_eq_some_iff.mp hp).1
    have bl:=Paired.length ka
    rw [List.length_map,List.length_take] at bl
    refine ⟨Zp (by rw [List.length_map];omega),a,_,rfl,SqT.of (g1 _ _ e1),rfl,_,_,rfl,_,_,rfl,rfl,Wk.refl _,_,rfl,hC _ _ ⟨rfl,bs++[b'],by rw [List.map_append];rfl,?_⟩⟩
    rw [Yj hp,List.map_append]
    have e2':H' b'=some (.tup [.int p.1.1,.int p.1.2]):=g1 _ _ e2
    exact Paired.snoc ka e2'
   ·rintro ys H' ⟨rfl,bs,rfl,ka⟩
    rw [List.length_map,al,List.take_length] at ka
    have bl:=Paired.length ka
    rw [List.length_map] at bl
    refine ⟨Zn (by rw [List.length_map];omega),fun q nq=>?_⟩
    have g2:=Z7 nq (.lst (bs.map V.ref))
    exact ⟨q,bs,_,rfl,Z4,ka.mono fun b xs e=>g2 b _ e,by rw [List.length_map];exact pl,pw,fun H2 g3=>hq _ (g1.trans (g2.trans g3))⟩
end
end K26
namespace K26
open PySem L2 Ld
def lamI (st:Stmt):Expr:=match ae st with
 | _::_::_::.If (.UnaryOp _ (.Call _ (_::e::_) _ _) _) _ _ _::_=>e
 | _=>.Constant .none 0 ⟨0,0,0,0⟩
abbrev di:Expr:=lamI ad
abbrev qIM:Str:=("is_made_as_ladder":Str)++".<locals>."++"<lambda>"
theorem scIM:LamScope ["one"] ["deep"] (bX di):=⟨rfl,rfl,rfl,by decide +kernel,by decide +kernel,fun x h=>by
  have:∀y∈(bX di).names,y.2=.free→y.1="deep":=by decide +kernel
  have e:x="deep":=this (x,.free) (PySem.mem_of_lookup h) rfl
  rw [e]
  exact .head _,by decide +kernel,by decide +kernel⟩
abbrev gK (T:Addr) (H:Hp):Prop:=LamAt T (ei di) qIM H
theorem U7 {H:Hp} {x:Addr} (n:∀xs,H x≠some (.tup xs)) {q:Addr} {room deep total:Int} {ps:Sps} (h:LadAt H q room deep total ps):LadAt (ak x H) q room deep total ps:=by
 have st:∀{b:Addr} {xs:List V},H b=some (.tup xs)→ak x H b=some (.tup xs):=fun {b xs} e=>by
  rw [Zc (fun z=>n xs (by rw [←z];exact e))]
  exact e
 obtain ⟨c,as,e1,e2,r⟩:=h.at_
 exact ⟨c,as,st e1,st e2,Paired.mapP r fun _ _ ⟨y,f1,f2⟩=>⟨y,st f1,st f2⟩⟩
structure Gd (room deep:Int) (ps:Sps):Prop where
 r0:1≤room
 r1:room≤20
 d0:1≤deep
 d1:deep≤10
 lok:Lok room deep ps
 hb:Hb (ai ps / room) ps
 len:ps.length<200
def lH:Sp:=fun vs H Q _=>∃(q:Addr) (room deep total:Int) (ps:Sps),vs=[.ref q]∧LadAt H q room deep total ps∧1≤room∧room≤20∧(ps.map (·.1)).Nodup∧ps.length<200∧Nof deep (total / room) ps∧∀H',Same H H'→Q (.bl true) H'
def dA (T:Addr):Sp:=fun vs H Q _=>∃(q:Addr) (room deep:Int) (ps:Sps),vs=[.ref q]∧LadAt H q room deep (ai ps) ps∧Gd room deep ps∧gK T H∧∀H',Same (ak T H) (ak T H')→gK T H'→Q (.bl true) H'
def tO (c':Addr) (deep:Int):Sp:=fun vs H Q _=>∃(x:Addr) (k:Int×Int),vs=[.ref x]∧H c'=some (crO qIM c')∧KAt H x k∧stO deep k∧∀H',Same H H'→Q (.bl true) H'
section
variable {P:Program} {w:World} {K:W.Frag} {mg:Str→Option Value} {base:Heap} {f:Addr} {fd:FuncData}
theorem qG (bL:mg "dict"=none) (bo:Has P w K mg base "first_folding" 3 ["deep","bar","counts"] qm) (cz:Has P w K mg base "bar_of" 1 ["ladder"] eR) (F:Fun K "is_settled" "is_settled" aX f fd):FnOk P w K mg base CX0 4 f fd ["ladder"] lH:=by
 refine F.ok Yr (fun vs H Q E h=>?_) (fun cdv A outer s H vs Q E hr h=>?_)
 ·obtain ⟨q,room,deep,total,ps,rfl,_⟩:=h
  rfl
 obtain ⟨q,room,deep,total,ps,rfl,lad,r0,r1,nk,pl,no,hq⟩:=h
 refine ⟨_,(@Z2 _ _ _ _ _ (Yn (pv 0) (Yo rfl (Za (Z9 (i:=1) Yr.nd rfl (Or.inl rfl)) (Za (Z9 (i:=2) Yr.nd rfl (Or.inl rfl)) (Za (Z9 (i:=3) Yr.nd rfl (Or.inl rfl)) (Za (Z9 (i:=4) Yr.nd rfl (Or.inl rfl)) Zw))))))
 (@Z6 _ _ _ (@Ze _ _ _ _ (@V7 _ _ _ _ _ _ _ _ f_ (Z5 bo hr (@Z0 _ _ _ _ _ (pv 2) (@Z0 _ _ _ _ _ (Z5 cz hr (@Z0 _ _ _ _ _ (pv 0) Z1 (by rfl))) (@Z0 _ _ _ _ _ (X2 (Wd rfl hr.units) rfl bL PyProof.Rows.boot_dict (@Z0 _ _ _ _ _ (pv 3) Z1 (by rfl))) Z1 (by rfl)) (by rfl)) (by rfl))) S5 (Zl _))))),?_⟩
 obtain ⟨c,as,e_q,e_c,pr⟩:=lad.at_
 refine ⟨_,rfl,q,_,rfl,SqT.of e_q,rfl,_,_,rfl,_,_,rfl,_,_,rfl,_,_,rfl,rfl,?_⟩
 have nd:((ao ps).map (·.1)).Nodup:=by
  rw [Vx]
  exact List.pairwise_map.mpr (nk.imp fun h e=>h (Vc e))
 refine ⟨_,rfl,_,rfl,q,room,deep,total,ps,rfl,lad,r0,r1,_,rfl,c,_,_,rfl,e_c,Ob pr,by rw [Yi];omega,fun d n_d=>?_⟩
 rw [Tk nd]
 refine ⟨deep,total / room,d,ps,rfl,Z4,pl,fun H' g _=>⟨rfl,?_⟩,fun p k H' g _ fs=>(fs.not no).elim⟩
 rw [decide_eq_true rfl]
 exact hq _ ((Z7 n_d _).trans g)
theorem nQ {c T:Addr} {oc:Value} {od an:Option Addr} {osl:Array (Option Value)} {kV doc pm ct:Value} (lk:K.lookup f=some ⟨oc,od,.func (W.fnOf "is_made_as_ladder" "is_made_as_ladder" (ag ad) (ae ad) (aa ad) .none kV doc pm an (.ref c) ct),osl⟩) (hcd:W.codeIn K (.ref c) "is_made_as_ladder"=true)
  (CD:W.CodeHd base c T) (hgP:mainGlobals≠T) (hB:base.BuiltinsAt mg T) (af:mg "isinstance"=none) (aA:mg "tuple"=none) (aF:mg "len"=none) (cA:mg "sum"=none) (kc:∃u,mg "DEEPEST"=some u∧RelV (.int 10) u) (cR:Has P w K mg base "is_whole" 1 ["thing"] cH) (ax:Has P w K mg base "is_whole_within" 3 ["thing","least","most"] oA) (kC:Has P w K mg base "is_room" 4 ["thing"] rh)
  (hb_are_counts:HasB P w K mg "are_counts" 7 ["thing","is_key"] (gA P w K mg)) (hS:∀base:Heap,K.In base→base.Ns mainGlobals mg→Has P w K mg base "is_stretch" 4 ["thing","deep"] lX):
  FnOk P w K mg base CX0 8 f (W.fnOf "is_made_as_ladder" "is_made_as_ladder" (ag ad) (ae ad) (aa ad) .none kV doc pm an (.ref c) ct) ["thing"] (dA T):=by
 refine nR (k:=7) lk hcd Zy (fun vs H Q E h=>?_) (fun A outer s H vs Q E hr h=>?_)
 ·obtain ⟨q,room,deep,ps,rfl,_⟩:=h
  rfl
 obtain ⟨q,room,deep,ps,rfl,lad,gd,lam,hq⟩:=h
 have hf:∀x∈(bX di).names,x.2=.free→∃c',(PyProof.Rows.envOfC "is_made_as_ladder" (aa ad) s.heap.objs.size f (.ref c)).cells.lookup x.1=some c':=fun x hx hk=>by
  have:∀y∈(bX di).names,y.2=.free→(aa ad).names.lookup y.1=some .cell:=by decide +kernel
  exact Tv (this x hx hk)
 have tT:H T≠none:=by
  rcases lam.tab with e | ⟨_,e,_⟩ <;> (rw [e];exact fun z=>nomatch z)
 have nT2:∀xs,H T≠some (.tup xs):=by
  rcases lam.tab with e | ⟨_,e,_⟩ <;> (rw [e];exact fun _ z=>nomatch z)
 have r0:=gd.r0
 have r1:=gd.r1
 have d0:=gd.d0
 have d1:=gd.d1
 have pl:=gd.len
 have pok:=gd.lok.pok
 have lw:=iA pok.kok.nd gd.lok.srt
 obtain ⟨cc,as,e_q,e_c,pr⟩:=lad.at_
 have hk:Kd H (.ref q) "tuple":=.tup e_q
 refine ⟨_,(@Z2 _ _ _ _ _ (@Y7 _ _ _ _ _ _ _ _ (PW.pt (@W4 _ _ _ _ _ _ _ (@X4 _ _ _ _ (X3 (Zh Wc rfl af PyProof.Rows.boot_isinstance (@Z0 _ _ _ _ _ (pv 0) (@Z0 _ _ _ _ _ (W7 (v:=.ty "tuple") rfl aA PyProof.Rows.boot_tuple rfl) Z1 (by rfl)) (by rfl))))) (@Wg _ _ _ _ (@Zk _ _ _ _ _ _ _ _ Rr (Zh Zu rfl aF PySem.boot_len (@Z0 _ _ _ _ _ (pv 0) Z1 (by rfl))) Z3 (Zl _))))) (@Z6 _ _ _ (@Ze _ _ _ _ Xf)) Zq) Zf),?_⟩
 refine ⟨_,rfl,_,_,"tuple",_,rfl,hk.ty,hk.kit (by decide) rfl,_,rfl,Y5 ⟨_,rfl,q,_,rfl,.inr (SqT.of e_q),rfl,_,rfl,Y5 ?_⟩⟩
 refine ⟨_,(@Z2 _ _ _ _ _ (Yn (pv 0) (Yo rfl (Za (Z9 (i:=1) Zy.nd rfl (Or.inl rfl)) (Za (Z9 (i:=2) Zy.nd rfl (Or.inr rfl)) (Za (Z9 (i:=3) Zy.nd rfl (Or.inl rfl)) (Za (Z9 (i:=4) Zy.nd rfl (Or.inl rfl)) Zw)))))) Zf),?_⟩
 refine ⟨_,rfl,q,_,rfl,SqT.of e_q,rfl,_,_,rfl,_,_,rfl,_,_,rfl,_,_,rfl,rfl,?_⟩
 refine ⟨_,(@Z2 _ _ _ _ _ (@Y7 _ _ _ _ _ _ _ _ (PW.pt (@W4 _ _ _ _ _ _ _ (@X4 _ _ _ _ (X3 (Z5 kC hr (@Z0 _ _ _ _ _ (pv 1) Z1 (by rfl))))) (@Wg _ _ _ _ (@X4 _ _ _ _ (X3 (Z5 ax hr (@Z0 _ _ _ _ _ (pv 2) (@Z0 _ _ _ _ _ Z3 (@Z0 _ _ _ _ _ (Rk rfl kc) Z1 (by rfl)) (by rfl)) (by rfl)))))))) (@Z6 _ _ _ (@Ze _ _ _ _ Xf)) Zq) Zf),?_⟩
 refine ⟨_,rfl,room,rfl,_,rfl,?_⟩
 rw [decide_eq_true r0,decide_eq_true r1]
 refine Y5 ⟨_,rfl,deep,1,10,rfl,_,rfl,?_⟩
 rw [decide_eq_true d0,decide_eq_true d1]
 refine Y5 ⟨_,(@Z2 _ _ _ _ _ (@Y7 _ _ _ _ _ _ _ _ (@X4 _ _ _ _ (X3 (N4 hb_are_counts (fun _=>rfl) rfl rfl hr (@Z0 _ _ _ _ _ (pv 3) (@Z0 _ _ _ _ _ (mJ (c:=c) (T:=T) (sc:=bX di) rfl CD hgP hB hf) Z1 (by rfl)) (by rfl))))) (@Z6 _ _ _ (@Ze _ _ _ _ Xf)) Zq) Zf),?_⟩
 refine ⟨_,rfl,lam,fun a c' pm2 ctv H1 g1 na nac eT ec ea=>⟨a,_,ea,fun B wid=>?_⟩⟩
 have aT:a≠T:=fun z=>tT (z ▸ na)
 have lad1:LadAt (ak a H1) q room deep (ai ps) ps:=U7 (by rw [ea];exact fun _ z=>nomatch z) (((U7 nT2 lad).mono g1).mono W1)
 have ve:ak a H1 cc=some (.tup (as.map V.ref)):=by
  have z1:H1 cc=some (.tup (as.map V.ref)):=(Z8 (g1 _ _ (by rw [Zc (fun z=>nT2 _ (by rw [←z];exact e_c))];exact e_c))).2
  rw [Zc (fun z=>by rw [z,ea] at z1;cases z1)]
  exact z1
 have pr1:Paired (FT (ak a H1)) as ps:=by
  have st:∀{b:Addr} {xs:List V},H b=some (.tup xs)→ak a H1 b=some (.tup xs):=fun {b xs} e=>by
   have z1:H1 b=some (.tup xs):=(Z8 (g1 _ _ (by rw [Zc (fun z=>nT2 _ (by rw [←z];exact e))];exact e))).2
   rw [Zc (fun z=>by rw [z,ea] at z1;cases z1)]
   exact z1
  exact Paired.mapP pr fun _ _ ⟨y,f1,f2⟩=>⟨y,st f1,st f2⟩
 have wfn:=wid.fn
 have ec2:ak a H1 c'=some (crO qIM c'):=by rw [Zc (Ne.symm nac)];exact ec
 have cls:∀x d,(aG (PyProof.Rows.envOfC "is_made_as_ladder" (aa ad) s.heap.objs.size f (.ref c)) (bX di).names).lookup x=some d→(PyProof.Rows.envOfC "is_made_as_ladder" (aa ad) s.heap.objs.size f (.ref c)).cells.lookup x=some d:=fun x d e=>Ud _ [] hf (fun _ h=>nomatch h) (x,d) (PySem.mem_of_lookup e)
 refine ⟨cc,a,as,ps,stO deep,rfl,ve,pr1,fun p hp=>⟨pok.kok.st p.1 (List.mem_map.mpr ⟨p,hp,rfl⟩),pok.pos p hp⟩,lw,by omega,?_,fun H2 g2=>⟨_,rfl,Y5 ?_⟩⟩
 ·refine ⟨_,["one"],tO c' deep,lu (k:=4) (us:=[.int deep]) (fr:=["deep"]) wfn scIM rfl ?_ (fun x y d e1 e2=>wid.inj x y d (cls x d e1) (cls y d e2)) (fun x d e=>wid.cells x d (cls x d e)) (fun vs H Q E h=>?_) (fun vs H Q E h=>?_) (fun A outer s H vs Q E hr h=>?_),?_,⟨_,_,_,_,wfn⟩,?_⟩
  ·intro i x u h1 h2
   match i,h1,h2 with
   | 0,h1,h2=>
    cases h1
    cases h2
    obtain ⟨c2,u2,e1,e2,rv⟩:=wid.cell 2 "deep" (.int deep) rfl rfl rfl
    obtain ⟨c3,hc3⟩:=V1 (bX di).names [] (env:=PyProof.Rows.envOfC "is_made_as_ladder" (aa ad) s.heap.objs.size f (.ref c)) "deep" (PySem.mem_of_lookup (scIM.fre "deep" (.head _)))
    obtain ⟨c4,hc4⟩:=Ys hc3
    have e3:=cls _ _ hc4
    have e4:c4=c2:=Option.some.inj (e3.symm.trans e1)
    subst e4
    exact ⟨c4,u2,hc4,e2,rv⟩
  ·obtain ⟨_,_,_,e,_⟩:=h
   exact e
  ·obtain ⟨_,_,rfl,_⟩:=h
   rfl
  ·obtain ⟨x,k,rfl,e,e_x,ok,hq2⟩:=h
   have eg:=hS B wid.kin wid.glb
   refine ⟨_,Z5 eg hr (@Z0 _ _ _ _ _ (pv 0) (@Z0 _ _ _ _ _ (pv 1) Z1 (by rfl)) (by rfl)),?_⟩
   exact ⟨_,rfl,_,rfl,x,k,deep,rfl,e_x,ok,by omega,hq2⟩
  ·exact .all fun us hl=>match us,hl with | [_],_=>rfl
  ·exact fun H x key Q s e_x ok hq2=>⟨x,key,rfl,s _ _ ec2,e_x,ok,hq2⟩
 ·have uQ:=g2 _ _ ve
  have pr2:=Paired.mapP pr1 fun _ _ f=>X7 g2 f
  refine ⟨_,(@Z6 _ _ _ (@Ze _ _ _ _ (@S6 _ _ _ _ _ _ _ (Z5 cR hr (@Z0 _ _ _ _ _ (pv 4) Z1 (by rfl))) (@S4 _ _ _ _ _ (@V7 _ _ _ _ _ _ _ _ Qz (pv 4) (Zh (Vu rfl) rfl cA PyProof.Rows.boot_sum (@Z0 _ _ _ _ _ (Xo (own:=["stretch","count"]) (CompOk.of rfl rfl (by rfl) (by rfl) (by rfl)) (Uo (pv 3))
  (fun _ _ _ _ _=>(Tf K 2 rfl rfl (Za (Z9 (i:=0) Yl rfl (Or.inl rfl) (Or.inr rfl)) (Za (Z9 (i:=1) Yl rfl (Or.inl rfl) (Or.inr rfl)) Zw)))) (fun _ _ _ _ _=>Xm)
  (fun _ _ _ _ _=>(pv 1))) Z1 (by rfl))) (Zl _)))))),?_⟩
  refine ⟨_,rfl,_,"int",rfl,.int _,true,rfl,Wy ?_⟩
  refine ⟨_,rfl,_,rfl,cc,rfl,⟨_,SqT.of uQ⟩,?_⟩
  have al:=Paired.length pr
  refine Vs (xs:=as.map V.ref) (fun n ys H'=>H'=H2∧ys=((ps.take n).map (·.2)).map V.int) ⟨rfl,rfl⟩ ?_ ?_ ?_
  ·rintro n ys H' _ ⟨rfl,_⟩
   exact SqT.of uQ
  ·rintro n x ys H' C hx ⟨rfl,rfl⟩ hC
   obtain ⟨b,p,rfl,hp,b',e1,e2⟩:=Ut pr2 hx
   have nl:=(List.getElem?_eq_some_iff.mp hp).1
   refine ⟨Zp (by rw [List.length_map,List.length_map,List.length_take];omega),b,_,rfl,SqT.of e1,rfl,_,_,rfl,_,_,rfl,rfl,Wk.refl _,_,rfl,hC _ _ ⟨rfl,?_⟩⟩
   rw [Yj hp,List.map_append,List.map_append]
   rfl
  ·rintro ys H' ⟨rfl,rfl⟩
   rw [show (as.map V.ref).length=ps.length by rw [List.length_map];exact al,List.take_length]
   refine ⟨Zn (by rw [List.length_map,List.length_map];omega),fun p np=>⟨p,_,rfl,SqL.of Z4,rfl,?_⟩⟩
   rw [decide_eq_true (show V.int (ai ps)=V.int (ps.map (·.2)).sum from rfl)]
   have g3:=g2.trans (Z7 np (.lst ((ps.map (·.2)).map V.int)))
   refine hq _ (fun b u e=>?_) ⟨.inr ⟨c',g3 _ _ (by rw [Zc (Ne.symm aT)];exact eT),g3 _ _ ec2⟩⟩
   obtain ⟨b1,b2⟩:=Z8 e
   obtain ⟨_,e3⟩:=Z8 (g1 b u e)
   rw [Zc b1]
   exact g3 b u (by rw [Zc (Zi b2 na)];exact e3)
theorem sT {T:Addr} (cX:mg "all"=none) (cL:Has P w K mg base "is_made_as_ladder" 8 ["thing"] (dA T)) (eu:Has P w K mg base "is_settled" 4 ["ladder"] lH) (cz:Has P w K mg base "bar_of" 1 ["ladder"] eR) (F:Fun K "is_ladder" "is_ladder" bt f fd):FnOk P w K mg base CX0 9 f fd ["thing"] (dA T):=by
 refine F.ok T6 (fun vs H Q E h=>?_) (fun cdv A outer s H vs Q E hr h=>?_)
 ·obtain ⟨q,room,deep,ps,rfl,_⟩:=h
  rfl
 obtain ⟨q,room,deep,ps,rfl,lad,gd,lam,hq⟩:=h
 have nT2:∀xs,H T≠some (.tup xs):=by
  rcases lam.tab with e | ⟨_,e,_⟩ <;> (rw [e];exact fun _ z=>nomatch z)
 have pl:=gd.len
 have pok:=gd.lok.pok
 refine ⟨_,(@Z2 _ _ _ _ _ (@Y7 _ _ _ _ _ _ _ _ (PW.pt (@W4 _ _ _ _ _ _ _ (@X4 _ _ _ _ (X3 (Z5 cL hr (@Z0 _ _ _ _ _ (pv 0) Z1 (by rfl))))) (@Wg _ _ _ _ (@X4 _ _ _ _ (X3 (Z5 eu hr (@Z0 _ _ _ _ _ (pv 0) Z1 (by rfl)))))))) (@Z6 _ _ _ (@Ze _ _ _ _ Xf)) Zq) Zf),?_⟩
 refine ⟨_,rfl,q,room,deep,ps,rfl,lad,gd,lam,fun H1 g1 l1=>⟨_,rfl,Y5 ?_⟩⟩
 have lad1:=((U7 nT2 lad).mono g1).mono W1
 refine ⟨_,rfl,q,room,deep,_,ps,rfl,lad1,gd.r0,gd.r1,pok.kok.nd,pl,gd.lok.nof,fun H2 g2=>⟨_,rfl,Y5 ?_⟩⟩
 have lad2:=lad1.mono g2
 refine ⟨_,(@Z2 _ _ _ _ _ (@Zg _ _ 1 _ _ _ _ T6.nd rfl (Or.inr rfl) (Z5 cz hr (@Z0 _ _ _ _ _ (pv 0) Z1 (by rfl))) (by rfl) (by first | exact .inl rfl | exact .inr rfl)) Zf),?_⟩
 refine ⟨_,rfl,q,room,deep,_,ps,rfl,lad2,gd.r0,gd.r1,?_⟩
 obtain ⟨cc,as,e_q,e_c,pr⟩:=lad2.at_
 refine ⟨_,(@Z6 _ _ _ (@Ze _ _ _ _ (Zh (Qf rfl) rfl cX PyProof.Rows.boot_all (@Z0 _ _ _ _ _ (Xo (own:=["stretch","count"]) (CompOk.of rfl rfl (by rfl) (by rfl) (by rfl)) (Uo (@Zz _ _ _ _ _ _ _ Yg (pv 0) Z3 (fun _ _=>rfl)))
  (fun _ _ _ _ _=>(Tf K 2 rfl rfl (Za (Z9 (i:=0) Xj rfl (Or.inl rfl) (Or.inr rfl)) (Za (Z9 (i:=1) Xj rfl (Or.inl rfl) (Or.inr rfl)) Zw)))) (fun _ _ _ _ _=>(iw (@Zk _ _ _ _ _ _ _ _ Ti (@Zz _ _ _ _ _ _ _ (jw K rfl) (pv 0) Z3 (fun _ _=>rfl)) Z3 (Zl _))))
  (fun _ _ _ _ _=>(@V7 _ _ _ _ _ _ _ _ Tg (pv 1) (pv 3) (Zl _)))) Z1 (by rfl))))),?_⟩
 refine ⟨_,rfl,q,_,2,_,rfl,rfl,SqT.of e_q,rfl,cc,rfl,⟨_,SqT.of e_c⟩,?_⟩
 have al:=Paired.length pr
 refine Vs (xs:=as.map V.ref) (fun n ys H'=>H'=H2∧∃m,m≤n∧ys=(List.replicate m true).map V.bl) ⟨rfl,0,Nat.le_refl _,rfl⟩ ?_ ?_ ?_
 ·rintro n ys H' _ ⟨rfl,_⟩
  exact SqT.of e_c
 ·rintro n x ys H' C hx ⟨rfl,m,mn,rfl⟩ hC
  obtain ⟨b,p,rfl,hp,b',e1,e2⟩:=Ut pr hx
  have nl:=(List.getElem?_eq_some_iff.mp hp).1
  refine ⟨Zp (by rw [List.length_map,List.length_replicate];omega),b,_,rfl,SqT.of e1,rfl,_,_,rfl,_,_,rfl,rfl,Wk.refl _,_,rfl,b',_,0,_,rfl,rfl,SqT.of e2,rfl,_,_,rfl,rfl,_,rfl,?_⟩
  by_cases c:p.1.1 > 0
  ·rw [decide_eq_true c]
   have hb:=gd.hb p.1 c
   rw [Vt pok.kok.nd (List.mem_of_getElem? hp)] at hb
   refine Wy ⟨_,rfl,_,rfl,_,_,rfl,rfl,hC _ _ ⟨rfl,m+1,by omega,?_⟩⟩
   show _++[V.bl (decide (p.2≤ai ps / room))]=_
   rw [decide_eq_true hb,List.replicate_succ',List.map_append]
   rfl
  ·rw [decide_eq_false c]
   exact Y5 (hC _ _ ⟨rfl,m,by omega,rfl⟩)
 ·rintro ys H' ⟨rfl,m,mn,rfl⟩
  rw [List.length_map] at mn
  refine ⟨Zn (by rw [List.length_map,List.length_replicate];omega),fun p np=>⟨p,_,rfl,SqL.of Z4,?_⟩⟩
  rw [Oh]
  have g3:=g2.trans (Z7 np (.lst ((List.replicate m true).map V.bl)))
  refine hq _ (fun b u e=>?_) (l1.mono g3)
  have:=g1 b u e
  obtain ⟨z1,z2⟩:=Z8 this
  rw [Zc z1]
  exact g3 _ _ z2
end
end K26
namespace K26
open PySem L2 Ld
theorem Uj {ks:List (Int×Int)}:∀{ps:Sps},(ps.map (·.1)).Nodup→(∀p∈ps,0≤p.2)→ks.Nodup→(ks.map (cnt ps)).sum≤ai ps:=by
 induction ks with
 | nil=>
  intro ps nd nn _
  have:=hJ (g:=fun _=>1) (fun _=>by decide) nn
  rw [Xd] at this
  exact this
 | cons k ks ih=>
  intro ps nd nn nk
  rw [List.nodup_cons] at nk
  have q:=ih (ps:=bB ps k) (Sw nd) (fun p hp=>nn p (List.mem_filter.mp hp).1) nk.2
  rw [Uz nd] at q
  have e:ks.map (cnt (bB ps k))=ks.map (cnt ps):=List.map_congr_left fun j hj=>by
   rw [nV,if_neg fun z:j=k=>nk.1 (by rw [←z];exact hj)]
  rw [e] at q
  rw [List.map_cons,List.sum_cons]
  omega
def aM (deep:Int):List (Int×Int)→List (Int×Int)
 | []=>[]
 | k::ks=>if k.1<deep∧(k.1,k.2 / 2)∉aM deep ks then (k.1,k.2 / 2)::aM deep ks else aM deep ks
theorem se (deep:Int) (ks:List (Int×Int)):(aM deep ks).Nodup:=by
 induction ks with
 | nil=>exact List.nodup_nil
 | cons k ks ih=>
  unfold aM
  split
  ·rename_i h
   exact List.nodup_cons.mpr ⟨h.2,ih⟩
  ·exact ih
theorem oH {deep:Int} {p:Int×Int} {ks:List (Int×Int)}:p∈aM deep ks→∃k∈ks,k.1<deep∧p=(k.1,k.2 / 2):=by
 induction ks with
 | nil=>exact fun h=>nomatch h
 | cons k ks ih=>
  intro h
  unfold aM at h
  split at h
  ·rename_i c
   rcases List.mem_cons.mp h with e | h
   ·exact ⟨k,.head _,c.1,e⟩
   ·obtain ⟨j,hj,r⟩:=ih h
    exact ⟨j,.tail _ hj,r⟩
  ·obtain ⟨j,hj,r⟩:=ih h
   exact ⟨j,.tail _ hj,r⟩
theorem tP {deep:Int} {k:Int×Int} {ks:List (Int×Int)}:k∈ks→k.1<deep→(k.1,k.2 / 2)∈aM deep ks:=by
 induction ks with
 | nil=>exact fun h=>nomatch h
 | cons j ks ih=>
  intro h c
  unfold aM
  rcases List.mem_cons.mp h with e | h
  ·subst e
   split
   ·exact .head _
   ·rename_i n
    rcases Classical.em ((k.1,k.2 / 2)∈aM deep ks) with y | y
    ·exact y
    ·exact absurd ⟨c,y⟩ n
  ·split
   ·exact .tail _ (ih h c)
   ·exact ih h c
theorem nj {α:Type} (f g h:α→Int) (l:List α):(l.map fun x=>f x+g x+h x).sum=(l.map f).sum+(l.map g).sum+(l.map h).sum:=by
 induction l with
 | nil=>rfl
 | cons x l ih=>
  rw [List.map_cons,List.sum_cons,ih,List.map_cons,List.sum_cons,List.map_cons,List.sum_cons,List.map_cons,List.sum_cons]
  omega
theorem rV {b:Int} {f:Int×Int→Int} {l:List (Int×Int)}:(∀x∈l,b≤f x)→b * l.length≤(l.map f).sum:=by
 induction l with
 | nil=>intro _;show b * 0≤0;rw [Int.mul_zero];exact Int.le_refl _
 | cons x l ih=>
  intro h
  have a:=ih fun y hy=>h y (.tail _ hy)
  have c:=h x (.head _)
  rw [List.map_cons,List.sum_cons,List.length_cons,Int.natCast_add,Int.mul_add]
  show b * l.length+b * 1≤_
  omega
theorem oN {ks:List (Int×Int)}:∀{l:List (Int×Int)},ks.Nodup→(∀k∈ks,k∈l)→ks.length≤l.length:=by
 induction ks with
 | nil=>exact fun _ _=>Nat.zero_le _
 | cons k ks ih=>
  intro l nd h
  rw [List.nodup_cons] at nd
  have m:=h k (.head _)
  have a:=ih (l:=l.erase k) nd.2 fun j hj=>(List.mem_erase_of_ne fun e:j=k=>nd.1 (by rw [←e];exact hj)).mpr (h j (.tail _ hj))
  rw [List.length_erase_of_mem m] at a
  have:=List.length_pos_of_mem m
  rw [List.length_cons]
  omega
theorem qC {deep:Int} {ks:List (Int×Int)} (nd:ks.Nodup) (st:∀k∈ks,k.1≤deep) (top:∀k∈ks,k.1=deep→k.2=0):ks.length≤2 * (aM deep ks).length+1:=by
 have sub:∀k∈ks,k∈((deep,0)::((aM deep ks).map fun p=>(p.1,2 * p.2))++(aM deep ks).map fun p=>(p.1,2 * p.2+1)):=fun k hk=>by
  rcases Int.lt_or_le k.1 deep with c | c
  ·have m:=tP hk c
   rcases (show k.2 % 2=0∨k.2 % 2=1 by omega) with z | z
   ·refine List.mem_append_left _ (.tail _ (List.mem_map.mpr ⟨_,m,Prod.ext rfl ?_⟩))
    show 2 * (k.2 / 2)=k.2
    omega
   ·refine List.mem_append_right _ (List.mem_map.mpr ⟨_,m,Prod.ext rfl ?_⟩)
    show 2 * (k.2 / 2)+1=k.2
    omega
  ·have e:k.1=deep:=by have:=st k hk;omega
   have e2:=top k hk e
   exact List.mem_append_left _ (by rw [show k=(deep,0) from Prod.ext e e2];exact .head _)
 have l:=oN nd sub
 rw [List.length_append,List.length_cons,List.length_map,List.length_map] at l
 omega
theorem mC {room deep:Int} {ps:Sps} (r0:1≤room) (L:Lok room deep ps):(ps.length:Int)<4 * room:=by
 have nd:=L.pok.kok.nd
 have st:=L.pok.kok.st
 have nn:∀p∈ps,0≤p.2:=fun p hp=>by have:=L.pok.pos p hp;omega
 obtain ⟨ks,hks⟩:∃ks,ks=ps.map (·.1):=⟨_,rfl⟩
 have kl:ks.length=ps.length:=by rw [hks,List.length_map]
 have pn:=se deep ks
 have a:=qC (deep:=deep) (ks:=ks) (by rw [hks];exact nd) (fun k hk=>(st k (by rw [←hks];exact hk)).2.1) (fun k hk e=>by
  have:=(st k (by rw [←hks];exact hk)).2.2
  rw [e,Int.sub_self] at this
  have e2:(2:Int) ^ (0:Int).toNat=1:=rfl
  omega)
 have s1:=Uj (ks:=(aM deep ks).map fun p=>loK p.1 p.2) nd nn (List.pairwise_map.mpr (pn.imp fun {x y} h e=>h (Prod.ext (congrArg (·.1) e) (by have:2 * x.2=2 * y.2:=congrArg (·.2) e;omega))))
 have s2:=Uj (ks:=((aM deep ks).map fun p=>loK p.1 p.2)++(aM deep ks).map fun p=>hiK p.1 p.2) nd nn (by
  refine List.nodup_append.mpr ⟨List.pairwise_map.mpr (pn.imp fun {x y} h e=>h (Prod.ext (congrArg (·.1) e) (by have:2 * x.2=2 * y.2:=congrArg (·.2) e;omega))),List.pairwise_map.mpr (pn.imp fun {x y} h e=>h (Prod.ext (congrArg (·.1) e) (by have:2 * x.2+1=2 * y.2+1:=congrArg (·.2) e;omega))),fun x hx y hy e=>?_⟩
  obtain ⟨p,_,rfl⟩:=List.mem_map.mp hx
  obtain ⟨q,_,rfl⟩:=List.mem_map.mp hy
  have:2 * p.2=2 * q.2+1:=congrArg (·.2) e
  omega)
 have s3:=Uj (ks:=(aM deep ks).map fun p=>upK p.1 p.2) nd nn (List.pairwise_map.mpr (pn.imp fun {x y} h e=>h (Prod.ext (by have:x.1+1=y.1+1:=congrArg (·.1) e;omega) (congrArg (·.2) e))))
 rw [List.map_append,List.sum_append,List.map_map,List.map_map] at s2
 rw [List.map_map] at s3
 have j:(ai ps / room+1) * (aM deep ks).length≤((aM deep ks).map fun p=>jn ps p.1 p.2).sum:=rV fun p hp=>by
  obtain ⟨k,hk,c,e⟩:=oH hp
  have:=L.nof k (by rw [←hks];exact hk) c
  rw [e]
  show _≤jn ps k.1 (k.2 / 2)
  omega
 have e3:((aM deep ks).map fun p=>jn ps p.1 p.2).sum=_:=nj (fun p:Int×Int=>cnt ps (loK p.1 p.2)) (fun p=>cnt ps (hiK p.1 p.2)) (fun p=>cnt ps (upK p.1 p.2)) (aM deep ks)
 have s2:((aM deep ks).map fun p=>cnt ps (loK p.1 p.2)).sum+((aM deep ks).map fun p=>cnt ps (hiK p.1 p.2)).sum≤ai ps:=s2
 have s3:((aM deep ks).map fun p=>cnt ps (upK p.1 p.2)).sum≤ai ps:=s3
 have s0:0≤ai ps:=R6 L.pok
 have b:ai ps<(ai ps / room+1) * room:=Int.lt_ediv_add_one_mul_self _ (by omega)
 have b0:0≤ai ps / room:=Int.ediv_nonneg s0 (by omega)
 have key:(ai ps / room+1) * (aM deep ks).length<(ai ps / room+1) * (2 * room):=by
  rw [show (ai ps / room+1) * (2 * room)=2 * ((ai ps / room+1) * room) by rw [Int.mul_left_comm]]
  omega
 have lt:((aM deep ks).length:Int)<2 * room:=Int.lt_of_mul_lt_mul_left key (by omega)
 omega
end K26
namespace K26
open PySem L2 Ld
theorem vz {ps:Sps} {i:Nat} {p0:List Key×V} (h:(ao ps)[i]?=some p0):∃p,ps[i]?=some p∧(kk p.1,V.int p.2)=p0:=by
 unfold ao at h
 rw [List.getElem?_map] at h
 obtain ⟨p,hp,e⟩:=Option.map_eq_some_iff.mp h
 exact ⟨p,hp,e⟩
theorem rK {H:Hp} {d b:Addr} {o:Obj} {ps:Sps} {k:Int×Int} (e:H d=some (.frz o (.dT (ao ps)))) (eb:KAt H b k):DGet H d (.ref b) (ap ps k):=.inr ⟨_,kk k,b,.inr ⟨o,e⟩,rfl,eb,rfl⟩
theorem uX {H H':Hp} {d:Addr} {o:Obj} {kvs:List (List Key×V)} (e:H d=some (.dT kvs)) (g:Same (upd H d (.frz o (.dT kvs))) H'):Same H (upd H' d (.dT kvs)):=fun b u h=>by
 by_cases c:b=d
 ·rw [c] at h ⊢
  rw [e] at h
  cases h
  exact Z4
 ·rw [Zb c]
  exact g b u (by rw [Zb c];exact h)
def ksD (ks:List (Int×Int)):List PyData:=ks.map fun k=>.tuple [.int k.1,.int k.2]
theorem rG {H:Hp} {p:Addr} {a b:Int} (e:H p=some (.tup [.int a,.int b])):DV H (.ref p) (.tuple [.int a,.int b]):=.tup e (.cons (.int _) (.cons (.int _) .nil))
theorem lx {H:Hp} {bs:List Addr} {ks:List (Int×Int)} (h:KsAt H bs ks):DVs H (bs.map V.ref) (ksD ks):=by
 induction h with
 | nil=>exact .nil
 | cons e _ ih=>exact .cons (rG e) ih
theorem ub (ks:List (Int×Int)):(PyData.list (ksD ks)).canLay0=true∧(PyData.list (ksD ks)).depth≤4:=Q3 ks fun k _=>lb k.1 k.2
def jr (T:Addr):Sp:=fun vs H Q _=>∃(q r:Addr) (room deep:Int) (ps:Sps) (ts:List Th),vs=[.ref q,.int room,.int deep,.ref r]∧LadAt H q room deep (ai ps) ps∧DV H (.ref r) (cK ts)∧Gd room deep ps∧Dom ps ts∧ts.length≤150∧(∀t∈ts,ThL deep t)∧gK T H∧∀H',Same (ak T H) (ak T H')→gK T H'→Q (.bl true) H'
theorem nE {ps:Sps} {ts:List Th} (h:Dom ps ts):ai ps=(ts.map Th.many).sum:=by
 have e:=(jB h).all
 rw [←Xd,←Xd,mH] at e
 rw [←Xd,e]
 unfold wT
 exact congrArg List.sum (List.map_congr_left fun t _=>Int.mul_one _)
theorem ui (ps:Sps) (h i:Int):cnt ps (h,i)+cnt ps (h,i+1 - 2 * (i % 2))+cnt ps (h+1,i / 2)=jn ps h (i / 2):=by
 unfold jn loK hiK upK
 rcases (show i % 2=0∨i % 2=1 by omega) with z | z
 ·rw [z,show 2 * (i / 2)=i by omega,show i+1 - 2 * 0=i+1 by omega]
 ·rw [z,show 2 * (i / 2)=i - 1 by omega,show i+1 - 2 * 1=i - 1 by omega,show i - 1+1=i by omega]
  omega
section
variable {P:Program} {w:World} {K:W.Frag} {mg:Str→Option Value} {base:Heap} {f:Addr} {fd:FuncData}
theorem mR {T:Addr} (cA:mg "sum"=none) (bL:mg "dict"=none) (aw:mg "sorted"=none) (aF:mg "len"=none) (ff:Has P w K mg base "is_ladder" 9 ["thing"] (dA T)) (ez:Has P w K mg base "_law_is_dealt" 3 ["_law_stream_here","_law_now","_law_deep"] rm) (F:Fun K "_law_is_short" "_law_is_short" aU f fd):FnOk P w K mg base CX0 10 f fd ["_law_found","_law_room","_law_deep","_law_things_here"] (jr T):=by
 refine F.ok Y3 (fun vs H Q E h=>?_) (fun cdv A outer s H vs Q E hr h=>?_)
 ·obtain ⟨q,r,room,deep,ps,ts,rfl,_⟩:=h
  rfl
 obtain ⟨q,r,room,deep,ps,ts,rfl,lad,dv,gd,dom,tl,tp,lam,hq⟩:=h
 have r0:=gd.r0
 have r1:=gd.r1
 have d0:=gd.d0
 have d1:=gd.d1
 have pl:=gd.len
 have pok:=gd.lok.pok
 have nk:=pok.kok.nd
 have tot:=nE dom
 have s0:=R6 pok
 obtain ⟨_,xs,e0,e_r,ds⟩:=DV.list_inv dv
 cases e0
 refine ⟨_,(@Z2 _ _ _ _ _ (@Zg _ _ 4 _ _ _ _ Y3.nd rfl (Or.inl rfl) (Zh (Vu rfl) rfl cA PyProof.Rows.boot_sum (@Z0 _ _ _ _ _ (Xo (own:=["_law_thing"]) (CompOk.of rfl rfl (by rfl) (by rfl) (by rfl)) (Xb (pv 3))
  (fun _ _ _ _ _=>(Z9 (i:=0) Vo rfl (Or.inl rfl) (Or.inr rfl))) (fun _ _ _ _ _=>Xm)
  (fun _ _ _ _ _=>(@Zz _ _ _ _ _ _ _ (jw K rfl) (pv 0) Z3 (fun _ _=>rfl)))) Z1 (by rfl))) (by rfl) (by first | exact .inl rfl | exact .inr rfl)) Zf),?_⟩
 refine ⟨_,rfl,r,rfl,⟨_,SqL.of e_r⟩,?_⟩
 refine eK (fun _=>true) (fun t=>.int t.many) e_r ds (by omega) ?_ ?_
 ·rintro t c ys C mt ec h1 _
  exact ⟨Wk.refl _,_,rfl,c,_,3,_,rfl,rfl,SqT.of ec,rfl,h1 rfl⟩
 have et:((ts.filter fun _=>true).map fun t=>V.int t.many)=(ts.map Th.many).map V.int:=by
  rw [List.filter_eq_self.mpr (fun _ _=>rfl),List.map_map]
  rfl
 rw [et]
 intro p n_p
 have gz:=Z7 n_p (.lst ((ts.map Th.many).map V.int))
 have lad:=lad.mono gz
 have dv:=dv.mono gz
 have lam:=lam.mono gz
 have e_p:(upd H p (.lst ((ts.map Th.many).map V.int))) p=_:=Z4
 have gT:Same (ak T H) (ak T (upd H p (.lst ((ts.map Th.many).map V.int)))):=fun b u e=>by
  obtain ⟨z1,z2⟩:=Z8 e
  rw [Zc z1]
  exact gz _ _ z2
 generalize upd H p (.lst ((ts.map Th.many).map V.int))=H1 at lad dv lam e_p gT ⊢
 refine ⟨p,_,rfl,SqL.of e_p,?_⟩
 rw [←tot]
 clear e_p gz ds e_r et
 have nT1:∀xs,H1 T≠some (.lst xs):=by
  rcases lam.tab with e | ⟨_,e,_⟩ <;> (rw [e];exact fun _ z=>nomatch z)
 have nT2:∀xs,H1 T≠some (.tup xs):=by
  rcases lam.tab with e | ⟨_,e,_⟩ <;> (rw [e];exact fun _ z=>nomatch z)
 obtain ⟨c0,as0,e_q,_⟩:=lad.at_
 refine ⟨_,(@Z2 _ _ _ _ _ (@Y7 _ _ _ _ _ _ _ _ (PW.pt (@W4 _ _ _ _ _ _ _ (@Zk _ _ _ _ _ _ _ _ Rr (@Zz _ _ _ _ _ _ _ Yg (pv 0) Z3 (fun _ _=>rfl)) (pv 1) (Zl _)) (@W4 _ _ _ _ _ _ _ (@Zk _ _ _ _ _ _ _ _ Rr (@Zz _ _ _ _ _ _ _ Yg (pv 0) Z3 (fun _ _=>rfl)) (pv 2) (Zl _)) (@W4 _ _ _ _ _ _ _ (@Zk _ _ _ _ _ _ _ _ Rr (@Zz _ _ _ _ _ _ _ Yg (pv 0) Z3 (fun _ _=>rfl)) (pv 4) (Zl _)) (@Wg _ _ _ _ (@Zk _ _ _ _ _ _ _ _ p6 (Z5 ff hr (@Z0 _ _ _ _ _ (pv 0) Z1 (by rfl))) Xf (Zl _))))))) (@Z6 _ _ _ (@Ze _ _ _ _ Xf)) Zq) Zf),?_⟩
 refine ⟨_,rfl,q,_,0,_,rfl,rfl,SqT.of e_q,rfl,_,rfl,rfl,_,rfl,?_⟩
 rw [decide_eq_true rfl]
 refine Y5 ⟨_,rfl,q,_,1,_,rfl,rfl,SqT.of e_q,rfl,_,rfl,rfl,_,rfl,?_⟩
 rw [decide_eq_true rfl]
 refine Y5 ⟨_,rfl,q,_,3,_,rfl,rfl,SqT.of e_q,rfl,_,rfl,rfl,_,rfl,?_⟩
 rw [decide_eq_true rfl]
 refine Y5 ⟨_,rfl,q,room,deep,ps,rfl,lad,gd,lam,fun H2 g2 l2=>⟨true,rfl,rfl,_,rfl,Y5 ?_⟩⟩
 have lad:=((U7 nT2 lad).mono g2).mono W1
 have dv:=((U9 nT1 nT2 dv).mono g2).mono W1
 have gT:=gT.trans g2
 clear g2 lam nT1 nT2 e_q
 obtain ⟨cc,as,e_q,e_c,pr⟩:=lad.at_
 have al:=Paired.length pr
 have nd:((ao ps).map (·.1)).Nodup:=by
  rw [Vx]
  exact List.pairwise_map.mpr (nk.imp fun h e=>h (Vc e))
 refine ⟨_,(@Z2 _ _ _ _ _ (@Zg _ _ 5 _ _ _ _ Y3.nd rfl (Or.inr rfl) (X2 (Wd rfl hr.units) rfl bL PyProof.Rows.boot_dict (@Z0 _ _ _ _ _ (@Zz _ _ _ _ _ _ _ Yg (pv 0) Z3 (fun _ _=>rfl)) Z1 (by rfl))) (by rfl) (by first | exact .inl rfl | exact .inr rfl)) Zf),?_⟩
 refine ⟨_,rfl,q,_,2,_,rfl,rfl,SqT.of e_q,rfl,cc,_,_,rfl,e_c,Ob pr,by rw [Yi];omega,fun d n_d=>?_⟩
 rw [Tk nd]
 have gg:=Z7 n_d (.dT (ao ps))
 have e_d:(upd H2 d (.dT (ao ps))) d=some (.dT (ao ps)):=Z4
 generalize upd H2 d (.dT (ao ps))=H3 at gg e_d ⊢
 have e_q:=gg _ _ e_q
 have e_c:=gg _ _ e_c
 have pr:=Paired.mapP pr fun _ _ f=>X7 gg f
 refine ⟨_,(@Z2 _ _ _ _ _ (hV (i:=6) Y3.nd rfl rfl (own:=["_law_stretch","_law_count"]) (CompOk.of rfl rfl (by rfl) (by rfl) (by rfl)) (Uo (@Zz _ _ _ _ _ _ _ Yg (pv 0) Z3 (fun _ _=>rfl)))
  (fun _ _ _ _ _=>(Tf K 2 rfl rfl (Za (Z9 (i:=0) Xg rfl (Or.inl rfl) (Or.inr rfl)) (Za (Z9 (i:=1) Xg rfl (Or.inl rfl) (Or.inr rfl)) Zw)))) (fun _ _ _ _ _=>Xm)
  (fun _ _ _ _ _=>(pv 0))) Zf),?_⟩
 refine ⟨_,rfl,q,_,2,_,rfl,rfl,SqT.of e_q,rfl,cc,rfl,⟨_,SqT.of e_c⟩,?_⟩
 refine Vs (xs:=as.map V.ref) (fun n ys H'=>H'=H3∧∃bs:List Addr,ys=bs.map V.ref∧KsAt H3 bs ((ps.take n).map (·.1))) ⟨rfl,[],rfl,.nil⟩ ?_ ?_ ?_
 ·rintro n ys H' _ ⟨rfl,_⟩
  exact SqT.of e_c
 ·rintro n x ys H' C hx ⟨rfl,bs,rfl,ka⟩ hC
  obtain ⟨a,p,rfl,hp,b',e1,e2⟩:=Ut pr hx
  have nl:=(List.getElem?_eq_some_iff.mp hp).1
  have bl:=Paired.length ka
  rw [List.length_map,List.length_take] at bl
  refine ⟨Zp (by rw [List.length_map];omega),a,_,rfl,SqT.of e1,rfl,_,_,rfl,_,_,rfl,rfl,Wk.refl _,_,rfl,hC _ _ ⟨rfl,bs++[b'],by rw [List.map_append];rfl,?_⟩⟩
  rw [Yj hp,List.map_append]
  have e2':H' b'=some (.tup [.int p.1.1,.int p.1.2]):=e2
  exact Paired.snoc ka e2'
 rintro ys H' ⟨rfl,bs,rfl,ka⟩
 rw [List.length_map,al,List.take_length] at ka
 have bl:=Paired.length ka
 rw [List.length_map] at bl
 refine ⟨Zn (by rw [List.length_map];omega),?_⟩
 intro l n_l
 generalize hz:upd _ l _=H4
 have gz:=Zj hz n_l
 have e_l:=Zr hz
 clear hz
 have gg:=gg.trans gz
 have e_d:=gz _ _ e_d
 have ka:=ka.mono fun b xs e=>gz b _ e
 clear e_q e_c pr
 refine ⟨_,(@Z2 _ _ _ _ _ (@Y7 _ _ _ _ _ _ _ _ (PW.pt (@W4 _ _ _ _ _ _ _ (@Zk _ _ _ _ _ _ _ _ (O1 hr.units) (pv 6) (Zh (Vv rfl hr.units) rfl aw PyProof.Rows.boot_sorted (@Z0 _ _ _ _ _ (pv 5) Z1 (by rfl))) (Zl _)) (@W4 _ _ _ _ _ _ _ (@Zk _ _ _ _ _ _ _ _ mX (Zh Zu rfl aF PySem.boot_len (@Z0 _ _ _ _ _ (pv 6) Z1 (by rfl))) (@Zd _ _ _ _ _ _ _ _ X9 Z3 (pv 1)) (Zl _)) (@Wg _ _ _ _ (@Zk _ _ _ _ _ _ _ _ Rr (Zh (Vu rfl) rfl cA PyProof.Rows.boot_sum (@Z0 _ _ _ _ _ (qL (Xo (own:=["_law_one"]) (CompOk.of rfl rfl (by rfl) (by rfl) (by rfl)) (n6 (pv 5))
  (fun _ _ _ _ _=>(Z9 (i:=0) Vn rfl (Or.inl rfl) (Or.inr rfl))) (fun _ _ _ _ _=>Xm)
  (fun _ _ _ _ _=>(Xc (Yp hr) (pv 6) (pv 0) (fun _ _=>rfl))))) Z1 (by rfl))) (pv 4) (Zl _)))))) (@Z6 _ _ _ (@Ze _ _ _ _ Xf)) Zq) Zf),?_⟩
 refine ⟨_,rfl,_,rfl,d,ps,rfl,e_d,by omega,fun bs2 ka2=>?_⟩
 have es:cx (ps.map (·.1))=ps.map (·.1):=by
  refine Re (Yz _) (T5 _) ((iA nk gd.lok.srt).imp fun {a b} h=>?_)
  rw [X6]
  rcases h with h | ⟨h,g⟩
  ·exact .inl h
  ·exact .inr ⟨h,by omega⟩
 rw [es] at ka2
 intro lz n_lz
 generalize hz:upd _ lz _=H5
 have gz:=Zj hz n_lz
 have vf:=Zr hz
 clear hz
 have gg:=gg.trans gz
 have e_d:=gz _ _ e_d
 have e_l:=gz _ _ e_l
 have ka:=ka.mono fun b xs e=>gz b _ e
 have ka2:=ka2.mono fun b xs e=>gz b _ e
 have kl:=ub (ps.map (·.1))
 refine ⟨_,_,.lst e_l (lx ka),.lst vf (lx ka2),X0 kl (by decide),X0 kl (by decide),_,rfl,?_⟩
 rw [Qa kl]
 have sh:=mC r0 gd.lok
 refine Y5 ⟨_,rfl,l,_,rfl,.inl (SqL.of e_l),_,rfl,_,_,rfl,rfl,Or.inl ⟨by decide,by decide⟩,_,_,rfl,rfl,_,rfl,?_⟩
 rw [decide_eq_false (by rw [List.length_map];omega)]
 refine Y5 ⟨d,_,e_d,fun o=>⟨_,rfl,d,o,_,rfl,Z4,?_⟩⟩
 refine gS (fun i ys H'=>Same (upd H5 d (.frz o (.dT (ao ps)))) H'∧ys=((ps.take i).map (·.2)).map V.int) ⟨Same.refl _,rfl⟩ ?_ ?_ ?_ ?_
 ·rintro i ys H' ⟨g5,_⟩
  exact g5 _ _ Z4
 ·rintro i p0 b ys H6 C hp0 e_b ⟨g5,rfl⟩ hC
  obtain ⟨p,hp5,rfl⟩:=vz hp0
  have pm:=List.mem_of_getElem? hp5
  refine ⟨Zp (by rw [List.length_map,List.length_map,List.length_take];omega),Wk.refl _,_,rfl,_,rfl,d,.int p.2,rfl,by rw [←Wb nk pm];exact rK (g5 _ _ Z4) e_b,hC _ _ ⟨g5,?_⟩⟩
  rw [Yj hp5,List.map_append,List.map_append]
  rfl
 ·rintro i ys H' ⟨_,rfl⟩
  exact Zp (by rw [List.length_map,List.length_map,List.length_take];omega)
 rintro ys H6 ⟨g5,rfl⟩
 rw [Yi,List.take_length]
 refine ⟨Zn (by rw [List.length_map,List.length_map];omega),fun p n_p=>?_⟩
 have pd:p≠d:=fun z=>by rw [z,g5 _ _ Z4] at n_p;cases n_p
 have g6:=g5.trans (Z7 n_p (.lst ((ps.map (·.2)).map V.int)))
 have sz:=uX e_d g6
 refine ⟨g6 _ _ Z4,p,_,rfl,SqL.of (by rw [Zb pd];exact Z4),_,rfl,rfl,_,rfl,?_⟩
 rw [decide_eq_true (show V.int (ps.map (·.2)).sum=V.int (ai ps) from rfl)]
 refine Y5 ?_
 generalize upd (upd H6 p _) d _=H7 at sz ⊢
 have gg:=gg.trans sz
 have e_d:=sz _ _ e_d
 have e_l:=sz _ _ e_l
 have ka:=ka.mono fun b xs e=>sz b _ e
 clear sz g5 g6 n_p ka2 vf
 refine ⟨_,(@Z2 _ _ _ _ _ (@Zg _ _ 7 _ _ _ _ Y3.nd rfl (Or.inl rfl) (@Zd _ _ _ _ _ _ _ _ W8 (pv 4) (pv 1)) (by rfl) (by first | exact .inl rfl | exact .inr rfl)) Zf),?_⟩
 refine ⟨_,rfl,_,rfl,_,_,rfl,rfl,⟨by omega,by omega⟩,?_⟩
 refine ⟨_,(@Z2 _ _ _ _ _ (Xv PassesOwn.never rfl (Xb (pv 6)) (Yo rfl (Za (Z9 (i:=8) Y3.nd rfl (Or.inl rfl)) (Za (Z9 (i:=9) Y3.nd rfl (Or.inl rfl)) Zw)))
 (@Z2 _ _ _ _ _ (@Y7 _ _ _ _ _ _ _ _ (PW.pt (@W4 _ _ _ _ _ _ _ (@Zk _ _ _ _ _ _ _ _ N6 (Xc (Yp hr) (pv 5) (@Y1 _ _ _ _ _ (@Z0 _ _ _ _ _ (pv 8) (@Z0 _ _ _ _ _ (pv 9) Z1 (by rfl)) (by rfl))) (fun _ _=>rfl)) Z3 (Zl _)) (@W4 _ _ _ _ _ _ _ (@X4 _ _ _ _ (Rh Tg Tg Z3 (pv 8) (pv 2))) (@Wg _ _ _ _ (@X4 _ _ _ _ (Rh Tg N6 Z3 (pv 9) (@Zd _ _ _ _ _ _ _ _ hE Z3 (@Zd _ _ _ _ _ _ _ _ Wh (pv 2) (pv 8))))))))) (@Z6 _ _ _ (@Ze _ _ _ _ Xf)) Zq)
 (@Z2 _ _ _ _ _ (@Y7 _ _ _ _ _ _ _ _ (PW.pt (@Rg _ _ _ _ _ _ _ (@Zk _ _ _ _ _ _ _ _ Ti (pv 8) Z3 (Zl _)) (@T8 _ _ _ _ (@Zk _ _ _ _ _ _ _ _ Ti (Xc (Yp hr) (pv 5) (@Y1 _ _ _ _ _ (@Z0 _ _ _ _ _ (pv 8) (@Z0 _ _ _ _ _ (pv 9) Z1 (by rfl)) (by rfl))) (fun _ _=>rfl)) (pv 7) (Zl _))))) (@Z6 _ _ _ (@Ze _ _ _ _ Xf)) Zq)
 (@Z2 _ _ _ _ _ (@Zg _ _ 10 _ _ _ _ Y3.nd rfl (Or.inl rfl) (@Yy _ _ _ _ (@Z0 _ _ _ _ _ (@Y1 _ _ _ _ _ (@Z0 _ _ _ _ _ (pv 8) (@Z0 _ _ _ _ _ (pv 9) Z1 (by rfl)) (by rfl))) (@Z0 _ _ _ _ _ (@Y1 _ _ _ _ _ (@Z0 _ _ _ _ _ (pv 8) (@Z0 _ _ _ _ _ (@Zd _ _ _ _ _ _ _ _ Wh (@Zd _ _ _ _ _ _ _ _ Zv (pv 9) Z3) (@Zd _ _ _ _ _ _ _ _ X9 Z3 (@Zd _ _ _ _ _ _ _ _ Xh (pv 9) Z3))) Z1 (by rfl)) (by rfl))) (@Z0 _ _ _ _ _ (@Y1 _ _ _ _ _ (@Z0 _ _ _ _ _ (@Zd _ _ _ _ _ _ _ _ Zv (pv 8) Z3) (@Z0 _ _ _ _ _ (@Zd _ _ _ _ _ _ _ _ W8 (pv 9) Z3) Z1 (by rfl)) (by rfl))) Z1 (by rfl)) (by rfl)) (by rfl))) (by rfl) (by first | exact .inl rfl | exact .inr rfl))
 (@Z6 _ _ _ (@Y7 _ _ _ _ _ _ _ _ (PW.pt (@Rg _ _ _ _ _ _ _ (@Zk _ _ _ _ _ _ _ _ N6 (pv 8) (pv 2) (Zl _)) (@T8 _ _ _ _ (@Zk _ _ _ _ _ _ _ _ Tg (Zh (Vu rfl) rfl cA PyProof.Rows.boot_sum (@Z0 _ _ _ _ _ (Xo (own:=["_law_one"]) (CompOk.of rfl rfl (by rfl) (by rfl) (by rfl)) (Xb (pv 10))
  (fun _ _ _ _ _=>(Z9 (i:=0) Vm rfl (Or.inl rfl) (Or.inr rfl))) (fun _ _ _ _ _=>Xm)
  (fun _ _ _ _ _=>(Xw (Yp hr) (pv 6) (pv 0) Z3 ⟨rfl,rfl,rfl,rfl⟩))) Z1 (by rfl))) (pv 7) (Zl _))))) (@Z6 _ _ _ (@Ze _ _ _ _ Xf)) Zq)))))) Zf),?_⟩
 refine ⟨_,rfl,l,rfl,⟨_,SqL.of e_l⟩,?_⟩
 refine Xs (xs:=bs.map V.ref) (fun i σ H'=>∃(o8 o9 o10:Option V),σ=[some (.ref q),some (.int room),some (.int deep),some (.ref r),some (.int (ai ps)),some (.ref d),some (.ref l),some (.int (ai ps / room)),o8,o9,o10]∧Same H7 H') ⟨_,_,_,rfl,Same.refl _⟩ ?_ ?_ ?_
 ·rintro i σ H' _ ⟨_,_,_,_,g⟩
  exact SqL.of (g _ _ e_l)
 ·rintro i x σ H8 N B1 R hN hR hx ⟨o8,o9,o10,rfl,g8⟩
  rw [List.getElem?_map] at hx
  obtain ⟨b,hb,rfl⟩:=Option.map_eq_some_iff.mp hx
  obtain ⟨k,hk,e_b⟩:=lZ ka hb
  have e_b:H7 b=some (.tup [.int k.1,.int k.2]):=e_b
  have km:=List.mem_of_getElem? hk
  obtain ⟨k0,k1,k2,k3⟩:=pok.kok.st k km
  obtain ⟨p,hp,ep⟩:=List.mem_map.mp km
  have ck:cnt ps k=p.2:=by rw [←ep];exact Vt nk hp
  have pp:=pok.pos p hp
  have tw:=Qq (m:=deep - k.1) (by omega)
  have dg:∀{H':Hp} {b':Addr} (k':Int×Int),Same H7 H'→KAt H' b' k'→DGet H' d (.ref b') (ap ps k'):=fun k' g e=>Yv (g _ _ e_d) e
  refine ⟨b,_,rfl,SqT.of (g8 _ _ e_b),rfl,_,_,rfl,_,_,rfl,rfl,?_⟩
  have gg:Same H7 H8:=g8
  refine ⟨_,rfl,_,rfl,_,rfl,leN rfl,?_⟩
  intro t1 vS
  generalize hz:upd _ t1 _=H9
  have gz:=Zj hz vS
  have vG:=Zr hz
  clear hz
  have gg:=gg.trans gz
  refine ⟨d,_,rfl,(by rw [←Wu km];exact dg k gg vG),_,_,rfl,rfl,_,rfl,?_⟩
  rw [decide_eq_false (by omega)]
  refine Y5 ⟨_,rfl,_,_,rfl,rfl,_,rfl,?_⟩
  rw [decide_eq_true k0]
  refine Wy ⟨_,rfl,_,_,rfl,rfl,_,rfl,?_⟩
  rw [decide_eq_true k1]
  refine Y5 ⟨_,rfl,_,_,rfl,rfl,_,rfl,?_⟩
  rw [decide_eq_true k2]
  refine Wy ⟨_,rfl,_,rfl,_,_,rfl,rfl,_,_,rfl,rfl,⟨by omega,by omega,by decide⟩,_,_,rfl,rfl,_,rfl,?_⟩
  rw [decide_eq_true (show k.2<1 * 2 ^ (deep - k.1).toNat by rw [Int.one_mul];exact k3)]
  refine Y5 ?_
  refine Vg (fun σ' H'=>σ'=[some (.ref q),some (.int room),some (.int deep),some (.ref r),some (.int (ai ps)),some (.ref d),some (.ref l),some (.int (ai ps / room)),some (.int k.1),some (.int k.2),o10]∧Same H7 H') (fun nx hnx=>hnx _ _ ⟨rfl,gg⟩) ?_
  clear gg vG vS gz
  rintro σ' H9 ⟨rfl,gg⟩
  refine Vg (fun σ' H'=>σ'=[some (.ref q),some (.int room),some (.int deep),some (.ref r),some (.int (ai ps)),some (.ref d),some (.ref l),some (.int (ai ps / room)),some (.int k.1),some (.int k.2),o10]∧Same H7 H') ?_ ?_
  ·intro nx hnx
   refine ⟨_,rfl,_,_,rfl,rfl,_,rfl,?_⟩
   by_cases c:k.1 > 0
   ·rw [decide_eq_true c]
    have hb2:=gd.hb k c
    refine Wy ⟨_,rfl,_,rfl,_,rfl,leN rfl,?_⟩
    intro t2 n_t2
    generalize hz:upd _ t2 _=H10
    have gz:=Zj hz n_t2
    have e_t2:=Zr hz
    clear hz
    have gg:=gg.trans gz
    refine ⟨d,_,rfl,(by rw [←Wu km];exact dg k gg e_t2),_,rfl,_,_,rfl,rfl,_,rfl,?_⟩
    rw [decide_eq_false (by omega)]
    exact Y5 (hnx _ _ ⟨rfl,gg⟩)
   ·rw [decide_eq_false c]
    exact Y5 (Y5 (hnx _ _ ⟨rfl,gg⟩))
  clear gg
  rintro σ' H10 ⟨rfl,gg⟩
  refine ⟨_,rfl,_,rfl,leN rfl,?_⟩
  intro u1 n_u1
  generalize hz:upd _ u1 _=H11
  have gz:=Zj hz n_u1
  have fG:=Zr hz
  clear hz
  have gg:=gg.trans gz
  refine ⟨_,rfl,_,rfl,_,_,rfl,rfl,_,rfl,_,_,rfl,rfl,Vk rfl,_,_,rfl,rfl,Or.inl ⟨by decide,by decide⟩,_,_,rfl,rfl,leN rfl,?_⟩
  intro u2 n_u2
  generalize hz:upd _ u2 _=H12
  have gz:=Zj hz n_u2
  have lF:=Zr hz
  clear hz
  have gg:=gg.trans gz
  have fG:=gz _ _ fG
  refine ⟨_,rfl,_,_,rfl,rfl,_,rfl,_,_,rfl,rfl,⟨by decide,by decide⟩,leN rfl,?_⟩
  intro u3 n_u3
  generalize hz:upd _ u3 _=H13
  have gz:=Zj hz n_u3
  have rQ:=Zr hz
  clear hz
  have gg:=gg.trans gz
  have fG:=gz _ _ fG
  have lF:=gz _ _ lF
  refine ⟨leN rfl,?_⟩
  intro L n_L
  generalize hz:upd _ L _=H14
  have gz:=Zj hz n_L
  have e_L:=Zr hz
  clear hz
  have gg:=gg.trans gz
  have fG:=gz _ _ fG
  have lF:=gz _ _ lF
  have rQ:=gz _ _ rQ
  refine ⟨_,rfl,_,rfl,_,_,rfl,rfl,_,rfl,?_⟩
  by_cases c:k.1<deep
  ·rw [decide_eq_true c]
   refine Wy ⟨_,rfl,L,rfl,⟨_,SqL.of e_L⟩,?_⟩
   refine Sa (xs:=[.ref u1,.ref u2,.ref u3]) (fun i ys H'=>H'=H14∧ys=(([cnt ps (k.1,k.2),cnt ps (k.1,k.2+1 - 2 * (k.2 % 2)),cnt ps (k.1+1,k.2 / 2)].take i).map V.int)) ⟨rfl,rfl⟩ ?_ ?_ ?_
   ·rintro i ys H' _ ⟨rfl,_⟩
    exact SqL.of e_L
   ·rintro i y ys H' C hy ⟨rfl,rfl⟩ hC
    have get:∀{b':Addr} (k':Int×Int),KAt H' b' k'→∃v,DGet H' d (.ref b') v∧v.getD (.int 0)=.int (cnt ps k'):=fun k' e=>⟨_,dg k' gg e,W2 _ _⟩
    have il:i<3:=(List.getElem?_eq_some_iff.mp hy).1
    refine ⟨Zp (by rw [List.length_map,List.length_take];show min i 3<_;omega),Wk.refl _,?_⟩
    rcases (show i=0∨i=1∨i=2 by omega) with rfl | rfl | rfl
    ·cases hy
     obtain ⟨v,hv,ev⟩:=get (k.1,k.2) fG
     exact ⟨_,rfl,d,rfl,.inr ⟨_,.inl (gg _ _ e_d)⟩,_,rfl,v,hv,by rw [ev];exact hC _ _ ⟨rfl,rfl⟩⟩
    ·cases hy
     obtain ⟨v,hv,ev⟩:=get (k.1,k.2+1 - 2 * (k.2 % 2)) lF
     exact ⟨_,rfl,d,rfl,.inr ⟨_,.inl (gg _ _ e_d)⟩,_,rfl,v,hv,by rw [ev];exact hC _ _ ⟨rfl,rfl⟩⟩
    ·cases hy
     obtain ⟨v,hv,ev⟩:=get (k.1+1,k.2 / 2) rQ
     exact ⟨_,rfl,d,rfl,.inr ⟨_,.inl (gg _ _ e_d)⟩,_,rfl,v,hv,by rw [ev];exact hC _ _ ⟨rfl,rfl⟩⟩
   rintro ys H' ⟨rfl,rfl⟩
   refine ⟨Zn (by show 3≤_;decide),?_⟩
   intro m n_m
   generalize hz:upd _ m _=H15
   have gz:=Zj hz n_m
   have e_m:=Zr hz
   clear hz
   have gg:=gg.trans gz
   refine ⟨m,[cnt ps (k.1,k.2),cnt ps (k.1,k.2+1 - 2 * (k.2 % 2)),cnt ps (k.1+1,k.2 / 2)],rfl,SqL.of e_m,_,rfl,_,_,rfl,rfl,_,rfl,?_⟩
   have no:=gd.lok.nof k km c
   have j:=ui ps k.1 k.2
   have e3:[cnt ps (k.1,k.2),cnt ps (k.1,k.2+1 - 2 * (k.2 % 2)),cnt ps (k.1+1,k.2 / 2)].sum=jn ps k.1 (k.2 / 2):=by
    rw [←j]
    simp only [List.sum_cons,List.sum_nil]
    omega
   rw [e3,decide_eq_false (by omega)]
   exact Y5 (hN _ _ ⟨_,_,_,rfl,gg⟩)
  ·rw [decide_eq_false c]
   exact Y5 (Y5 (hN _ _ ⟨_,_,_,rfl,gg⟩))
 ·rintro σ H8 ⟨o8,o9,o10,rfl,g8⟩
  have gg:=gg.trans g8
  refine ⟨_,(@Z6 _ _ _ (@Ze _ _ _ _ (Z5 ez hr (@Z0 _ _ _ _ _ (pv 3) (@Z0 _ _ _ _ _ (pv 5) (@Z0 _ _ _ _ _ (pv 2) Z1 (by rfl)) (by rfl)) (by rfl))))),?_⟩
  refine ⟨_,rfl,_,rfl,_,rfl,r,d,deep,ts,ps,rfl,dv.mono gg,g8 _ _ e_d,nk,fun p hp=>?_,fun t ht=>by have:=(tp t ht).2.2;omega,by omega,by omega,fun b H9 g9 hb=>?_⟩
  ·obtain ⟨a1,a2,_⟩:=pok.kok.st p.1 (List.mem_map.mpr ⟨p,hp,rfl⟩)
   have:=pok.pos p hp
   exact ⟨a1,by omega,by omega⟩
  ·rw [hb.mpr (jB dom)]
   have gg:=gg.trans g9
   refine hq _ (gT.trans fun b u e=>?_) (l2.mono gg)
   obtain ⟨z1,z2⟩:=Z8 e
   rw [Zc z1]
   exact gg _ _ z2
end
end K26
namespace K26
open PySem L2 Ld
def eX (p:(Int×Int)×Int):PyData:=.tuple [.tuple [.int p.1.1,.int p.1.2],.int p.2]
def d9 (fs:Sps):List PyData:=fs.map eX
theorem uD {H:Hp} {a:Addr} {p:(Int×Int)×Int} (h:FT H a p):DV H (.ref a) (eX p):=by
 obtain ⟨b,e1,e2⟩:=h
 exact .tup e1 (.cons (.tup e2 (.cons (.int _) (.cons (.int _) .nil))) (.cons (.int _) .nil))
theorem rS {H:Hp} {as:List Addr} {fs:Sps} (h:Paired (FT H) as fs):DVs H (as.map V.ref) (d9 fs):=by
 induction h with
 | nil=>exact .nil
 | cons e _ ih=>exact .cons (uD e) ih
theorem n9 (p:(Int×Int)×Int):(eX p).canLay0=true∧(eX p).depth≤4:=by
 unfold eX
 refine ⟨?_,?_⟩
 ·simp [PyData.canLay0,PyData.canLayAll0]
 ·simp [PyData.depth,PyData.depthAll]
theorem jJ (fs:Sps):(PyData.list (d9 fs)).canLay0=true∧(PyData.list (d9 fs)).depth≤5:=Q3 fs fun p _=>n9 p
def qI (room deep total:Int) (ps:Sps):PyData:=.tuple [.int room,.int deep,.tuple (d9 ps),.int total]
theorem LadAt.dv {H:Hp} {q:Addr} {room deep total:Int} {ps:Sps} (h:LadAt H q room deep total ps):DV H (.ref q) (qI room deep total ps):=by
 obtain ⟨c,as,e1,e2,r⟩:=h.at_
 exact .tup e1 (.cons (.int _) (.cons (.int _) (.cons (.tup e2 (rS r)) (.cons (.int _) .nil))))
theorem qS (room deep total:Int) (ps:Sps):(qI room deep total ps).canLay0=true∧(qI room deep total ps).depth≤8:=by
 have h:=jJ ps
 unfold qI
 simp only [PyData.canLay0,PyData.depth] at h
 refine ⟨?_,?_⟩
 ·simp [PyData.canLay0,PyData.canLayAll0,h.1]
 ·have h2:=h.2
  simp only [PyData.depth,PyData.depthAll]
  omega
end K26
namespace K26
open PySem L2 Ld
theorem Q5 {room deep:Int} (d0:0≤deep):∀{t:Tr},(∀s∈t.streams,∀x∈s,ThL deep x)→Lok room deep (glT room deep t)∧ai (glT room deep t)=dk t.all∧(glT room deep t).length≤t.all.length
 | .leaf ts,h=>Ss d0 (h ts (.head _))
 | .node l r,h=>by
  obtain ⟨a1,a2,a3⟩:=Q5 (room:=room) d0 (t:=l) fun s hs=>h s (List.mem_append_left _ hs)
  obtain ⟨b1,b2,b3⟩:=Q5 (room:=room) d0 (t:=r) fun s hs=>h s (List.mem_append_right _ hs)
  obtain ⟨c1,c2,c3⟩:=V9 (room:=room) a1.pok b1.pok
  refine ⟨c1,?_,?_⟩
  ·show ai (a_ room deep (glT room deep l) (glT room deep r))=dk (l.all++r.all)
   rw [c2,a2,b2]
   unfold dk
   rw [List.map_append,List.sum_append]
  ·show (a_ room deep (glT room deep l) (glT room deep r)).length≤(l.all++r.all).length
   rw [List.length_append]
   omega
abbrev rR (T:Addr) (H:Hp):Prop:=LamAt T (ei cD) qGT H
theorem Yc {T:Addr} {p:Pos} {q:Str} {H:Hp} (h:LamAt T p q H):(∀xs,H T≠some (.lst xs))∧(∀xs,H T≠some (.tup xs))∧(∀o u,H T≠some (.frz o u))∧H T≠none:=by
 rcases h.tab with e | ⟨_,e,_⟩ <;> (rw [e];exact ⟨fun _ z=>(nomatch z),fun _ z=>(nomatch z),fun _ _ z=>(nomatch z),fun z=>nomatch z⟩)
def Wv (a T U:Addr) (H:Hp):Hp:=ak U (ak T (ak a H))
structure Wo (K:W.Frag) (S:Addr) (ns:List Int) (a T U:Addr) (H:Hp):Prop where
 pn:Pn K S ns H a
 lam:rR T H
 lam2:gK U H
 ne:T≠U
section
variable {K:W.Frag} {S a T U p:Addr} {ns:List Int} {H H' H1:Hp}
theorem iQ {b:Addr} {u:HO} (e:H b=some u) (na:b≠a) (nT:b≠T) (nU:b≠U):Wv a T U H b=some u:=by
 unfold Wv
 rw [Zc nU,Zc nT,Zc na]
 exact e
theorem mZ {b:Addr} {u:HO} (e:Wv a T U H b=some u):b≠a∧b≠T∧b≠U∧H b=some u:=by
 obtain ⟨h1,e⟩:=Z8 e
 obtain ⟨h2,e⟩:=Z8 e
 obtain ⟨h3,e⟩:=Z8 e
 exact ⟨h3,h2,h1,e⟩
theorem Yd:Same (Wv a T U H) H:=fun b u e=>(mZ e).2.2.2
theorem iG (st:∀b u,b≠a→b≠T→b≠U→H b=some u→H' b=some u):Same (Wv a T U H) (Wv a T U H'):=fun b u e=>by
 obtain ⟨h1,h2,h3,h4⟩:=mZ e
 exact iQ (st b u h1 h2 h3 h4) h1 h2 h3
theorem Uw (g:Same H H'):Same (Wv a T U H) (Wv a T U H'):=iG fun b u _ _ _ e=>g _ _ e
theorem tK (g:Grw a H H'):Same (Wv a T U H) (Wv a T U H'):=iG fun b u n _ _ e=>(Z8 (g b u (by rw [Zc n];exact e))).2
theorem iO (g:Same (ak T H) (ak T H')):Same (Wv a T U H) (Wv a T U H'):=iG fun b u _ n _ e=>(Z8 (g b u (by rw [Zc n];exact e))).2
theorem qV (g:Same (ak U H) (ak U H')):Same (Wv a T U H) (Wv a T U H'):=iG fun b u _ _ n e=>(Z8 (g b u (by rw [Zc n];exact e))).2
theorem Wo.at_ (h:Wo K S ns a T U H):∃xs,H a=some (.lst xs):=let ⟨_,_,e⟩:=h.pn.at_;⟨_,e⟩
theorem Wo.same (h:Wo K S ns a T U H) (g:Same H H'):Wo K S ns a T U H':=⟨h.pn.same g,h.lam.mono g,h.lam2.mono g,h.ne⟩
theorem oj {T U c:Addr} {p:Pos} {q r:Str} {H:Hp} (h:LamAt T p q H) (e:H c=some (crO r c)):c≠T:=fun z=>by
 rw [z] at e
 rcases h.tab with y | ⟨_,y,_⟩ <;> (rw [y] at e;cases e)
theorem Tn {T:Addr} {p:Pos} {q:Str} (h:LamAt T p q H) (st:∀{x:Addr} {o:HO},H x=some o→(x=T∨o=crO q x)→H' x=some o):LamAt T p q H':=by
 rcases h.tab with z | ⟨c,z,zc⟩
 ·exact ⟨.inl (st z (.inl rfl))⟩
 ·exact ⟨.inr ⟨c,st z (.inl rfl),st zc (.inr rfl)⟩⟩
theorem h8 (h:Pn K S ns H a) (st:∀{x:Addr} {o:HO},H x=some o→((∃xs,o=.lst xs)∨∃b u,o=.frz b u)→H' x=some o):Pn K S ns H' a:=by
 obtain ⟨⟨i,r,ea⟩,s,f⟩:=h
 refine ⟨⟨i,r,st ea (.inl ⟨_,rfl⟩)⟩,?_,f⟩
 rcases s with (s | ⟨u,s⟩) | s
 ·exact .inl (.inl (st s (.inl ⟨_,rfl⟩)))
 ·exact .inl (.inr ⟨u,st s (.inr ⟨_,_,rfl⟩)⟩)
 ·exact .inr s
theorem Wo.grw (h:Wo K S ns a T U H) (hp:Pn K S ns H' a) (g:Grw a H H'):Wo K S ns a T U H':=by
 obtain ⟨xs,e⟩:=h.at_
 have step:∀{x:Addr} {o:HO},H x=some o→o≠.lst xs→H' x=some o:=fun {x o} ex no=>(Z8 (g x _ (by rw [Zc (Tj ex e no)];exact ex))).2
 refine ⟨hp,Tn h.lam fun {x o} ex c=>step ex fun z=>?_,Tn h.lam2 fun {x o} ex c=>step ex fun z=>?_,h.ne⟩
 ·rcases c with c | c
  ·rw [c,z] at ex
   exact (Yc h.lam).1 _ ex
  ·rw [c] at z;cases z
 ·rcases c with c | c
  ·rw [c,z] at ex
   exact (Yc h.lam2).1 _ ex
  ·rw [c] at z;cases z
theorem Wo.tt (h:Wo K S ns a T U H) (g:Same (ak T H) (ak T H')) (l:rR T H'):Wo K S ns a T U H':=by
 have step:∀{x:Addr} {o:HO},H x=some o→x≠T→H' x=some o:=fun {x o} ex no=>(Z8 (g x _ (by rw [Zc no];exact ex))).2
 refine ⟨h8 h.pn fun {x o} ex c=>step ex fun z=>?_,l,Tn h.lam2 fun {x o} ex c=>step ex fun z=>?_,h.ne⟩
 ·rw [z] at ex
  rcases c with ⟨xs,c⟩ | ⟨b,u,c⟩
  ·rw [c] at ex;exact (Yc h.lam).1 _ ex
  ·rw [c] at ex;exact (Yc h.lam).2.2.1 _ _ ex
 ·rcases c with c | c
  ·exact h.ne (z ▸ c)
  ·rw [c] at ex
   exact oj (U:=U) h.lam ex z
theorem Wo.uu (h:Wo K S ns a T U H) (g:Same (ak U H) (ak U H')) (l:gK U H'):Wo K S ns a T U H':=by
 have step:∀{x:Addr} {o:HO},H x=some o→x≠U→H' x=some o:=fun {x o} ex no=>(Z8 (g x _ (by rw [Zc no];exact ex))).2
 refine ⟨h8 h.pn fun {x o} ex c=>step ex fun z=>?_,Tn h.lam fun {x o} ex c=>step ex fun z=>?_,l,h.ne⟩
 ·rw [z] at ex
  rcases c with ⟨xs,c⟩ | ⟨b,u,c⟩
  ·rw [c] at ex;exact (Yc h.lam2).1 _ ex
  ·rw [c] at ex;exact (Yc h.lam2).2.2.1 _ _ ex
 ·rcases c with c | c
  ·exact h.ne (c.symm.trans z)
  ·rw [c] at ex
   exact oj (U:=U) h.lam2 ex z
theorem Wo.tup (h:Wo K S ns a T U H) {b:Addr} {xs:List V} (e:H b=some (.tup xs)):Wv a T U H b=some (.tup xs):=by
 obtain ⟨ys,ea⟩:=h.at_
 exact iQ e (fun z=>by rw [z,ea] at e;cases e) (fun z=>(Yc h.lam).2.1 _ (by rw [←z];exact e)) (fun z=>(Yc h.lam2).2.1 _ (by rw [←z];exact e))
theorem Wo.lad (h:Wo K S ns a T U H) {q:Addr} {room deep total:Int} {ps:Sps} (l:LadAt H q room deep total ps):LadAt (Wv a T U H) q room deep total ps:=let ⟨c,as,e1,e2,r⟩:=l.at_;⟨c,as,h.tup e1,h.tup e2,Paired.mapP r fun _ _ ⟨y,f1,f2⟩=>⟨y,h.tup f1,h.tup f2⟩⟩
theorem Wo.lst (h:Wo K S ns a T U H) {b:Addr} {xs:List V} (e:H b=some (.lst xs)) (ne:b≠a):Wv a T U H b=some (.lst xs):=iQ e ne (fun z=>(Yc h.lam).1 _ (by rw [←z];exact e)) (fun z=>(Yc h.lam2).1 _ (by rw [←z];exact e))
theorem Wo.ths (h:Wo K S ns a T U H):∀{xs:List V} {ts:List Th},DVs H xs (ts.map Th.D)→DVs (Wv a T U H) xs (ts.map Th.D):=by
 intro xs
 induction xs with
 | nil=>
  intro ts d
  cases ts with
  | nil=>exact .nil
  | cons t ts=>obtain ⟨_,_,e,_⟩:=DVs.cons_inv d;cases e
 | cons z zs ih2=>
  intro ts d
  cases ts with
  | nil=>have:=d.nil_inv;cases this
  | cons t ts=>
   obtain ⟨z',zr,e,d4,d5⟩:=DVs.cons_inv d
   cases e
   refine .cons ?_ (ih2 d5)
   obtain ⟨c,cs,rfl,ec,d6⟩:=DV.tup_inv d4
   refine .tup (h.tup ec) ?_
   obtain ⟨_,_,rfl,k1,d6⟩:=d6.cons_inv
   obtain ⟨_,_,rfl,k2,d6⟩:=d6.cons_inv
   obtain ⟨_,_,rfl,k3,d6⟩:=d6.cons_inv
   obtain ⟨_,_,rfl,k4,d6⟩:=d6.cons_inv
   have:=d6.nil_inv
   subst this
   cases k1
   cases k2
   cases k3
   cases k4
   exact .cons (.int _) (.cons (.str _) (.cons (.int _) (.cons (.int _) .nil)))
theorem Wo.str (h:Wo K S ns a T U H) {r:Addr} {ts:List Th} (ne:r≠a) (d:DV H (.ref r) (cK ts)):DV (Wv a T U H) (.ref r) (cK ts):=by
 obtain ⟨_,xs,e0,e,q⟩:=DV.list_inv d
 cases e0
 exact .lst (h.lst e ne) (h.ths q)
theorem pH {o:HO} (hz:upd H p o=H1) (n:H p=none) (h:Wo K S ns a T U H):Wo K S ns a T U H1∧Same (Wv a T U H) (Wv a T U H1)∧Wv a T U H1 p=some o:=by
 subst hz
 refine ⟨h.same (Z7 n o),Uw (Z7 n o),iQ Z4 (h.pn.ne n) (fun z=>(Yc h.lam).2.2.2 (by rw [←z];exact n)) (fun z=>(Yc h.lam2).2.2.2 (by rw [←z];exact n))⟩
end
end K26
namespace K26
open PySem L2 Ld
def ju (K:W.Frag) (T U:Addr):Sp:=fun vs H Q _=>∃(a:Addr) (ns:List Int),vs=[.ref a]∧SqL K H a (ns.map V.int)∧ns.length≤63∧rR T H∧gK U H∧∀H',Q (.bl true) H'
theorem nS {t:Tr} {deep:Int} (h:Trk deep t):∀x∈t.all,ThK deep x:=fun x hx=>by
 rw [Tr.all_eq] at hx
 obtain ⟨s,hs,hx⟩:=List.mem_flatten.mp hx
 exact h s hs x hx
section
variable {room deep:Int} (r0:1≤room) (r1:room≤20) (d0:1≤deep) (d1:deep≤10)
include r0 r1 d0 d1
theorem lp {t:Tr} (tw:∀s∈t.streams,∀x∈s,ThL deep x) (l:t.all.length≤150):Gd room deep (glT room deep t):=by
 obtain ⟨a,_,c⟩:=Q5 (room:=room) (by omega) tw
 exact ⟨r0,r1,d0,d1,a,(uz r0 (by omega) tw).hb,by omega⟩
theorem tU {xs ys:Sps} (hx:Gd room deep xs) (hy:Gd room deep ys) (n:xs.length+ys.length<200):Gd room deep (a_ room deep xs ys):=by
 obtain ⟨a,_,c⟩:=V9 (room:=room) hx.lok.pok hy.lok.pok
 exact ⟨r0,r1,d0,d1,a,(gx r0 ⟨hx.lok.pok,hx.hb⟩ ⟨hy.lok.pok,hy.hb⟩).hb,by omega⟩
end
section
variable {P:Program} {w:World} {K:W.Frag} {mg:Str→Option Value} {base:Heap} {f T U:Addr} {fd:FuncData}
theorem sW (TU:T≠U) (qN:Has P w K mg base "_law_pen" 1 ["_law_script"] (qU K)) (j5:Has P w K mg base "_law_sizes" 2 ["_law_pen_here"] (iW K)) (eZ:Has P w K mg base "_law_tree" 4 ["_law_pen_here","_law_deep","_law_most"] (vP K)) (bY:Has P w K mg base "_law_things" 40 ["_law_tree_here"] (js 40))
  (bC:Has P w K mg base "grown_ladder" 10 ["room","deep","tree"] (ur T)) (bj:Has P w K mg base "merged_ladder" 6 ["one","other"] jI) (cj:Has P w K mg base "_law_is_short" 10 ["_law_found","_law_room","_law_deep","_law_things_here"] (jr U))
  (F:Fun K "law" "law" cU f fd):FnOk P w K mg base CX0 41 f fd ["_law_script"] (ju K T U):=by
 refine F.ok V5 (fun vs H Q E h=>?_) (fun cdv A outer s H vs Q E hr h=>?_)
 ·obtain ⟨S,ns,rfl,_⟩:=h
  rfl
 obtain ⟨S,ns,rfl,hS,h63,lam,lam2,hq⟩:=h
 refine ⟨_,(@Z2 _ _ _ _ _ (@Zg _ _ 1 _ _ _ _ V5.nd rfl (Or.inl rfl) (Z5 qN hr (@Z0 _ _ _ _ _ (pv 0) Z1 (by rfl))) (by rfl) (by first | exact .inl rfl | exact .inr rfl)) Zf),?_⟩
 refine ⟨_,rfl,S,ns,rfl,hS,h63,fun a H1 n_a g1 hp=>?_⟩
 have wo:Wo K S ns a T U H1:=⟨hp,lam.mono g1,lam2.mono g1,TU⟩
 clear hS g1 n_a hp lam lam2
 refine ⟨_,(@Z2 _ _ _ _ _ (Yn (Z5 j5 hr (@Z0 _ _ _ _ _ (pv 1) Z1 (by rfl))) (t9 rfl (Za (Z9 (i:=2) V5.nd rfl (Or.inl rfl)) (Za (Z9 (i:=3) V5.nd rfl (Or.inl rfl)) Zw)))) Zf),?_⟩
 refine ⟨_,rfl,a,S,ns,rfl,wo.pn,fun l room deep H2 e_l r0 r1 d0 d1 hp g2=>⟨l,_,rfl,Us e_l,rfl,_,_,rfl,_,_,rfl,rfl,?_⟩⟩
 have wo:=wo.grw hp g2
 clear e_l hp g2
 refine ⟨_,(@Z2 _ _ _ _ _ (@Zg _ _ 4 _ _ _ _ V5.nd rfl (Or.inl rfl) (Z5 eZ hr (@Z0 _ _ _ _ _ (pv 1) (@Z0 _ _ _ _ _ (pv 3) (@Z0 _ _ _ _ _ Z3 Z1 (by rfl)) (by rfl)) (by rfl))) (by rfl) (by first | exact .inl rfl | exact .inr rfl)) Zf),?_⟩
 refine ⟨_,rfl,_,rfl,a,S,ns,deep,12,rfl,wo.pn,d0,d1,by decide,by decide,fun v t H3 tk tsz tal k_v hp g3=>?_⟩
 have wo:=wo.grw hp g3
 have tre:∀{H:Hp} {v:V} {t:Tr},Wo K S ns a T U H→DV (ak a H) v t.D→DV (Wv a T U H) v t.D:=fun {H v t} wo k=>U9 (fun xs e=>(Yc wo.lam2).1 xs (Z8 (Z8 e).2).2) (fun xs e=>(Yc wo.lam2).2.1 xs (Z8 (Z8 e).2).2) (U9 (fun xs e=>(Yc wo.lam).1 xs (Z8 e).2) (fun xs e=>(Yc wo.lam).2.1 xs (Z8 e).2) k)
 have k_v:=tre wo k_v
 have hht:=iq t
 have tal2:t.all.length≤72:=by omega
 have tw:∀s∈t.streams,∀x∈s,ThL deep x:=fun s hs x hx=>(tk s hs x hx).1
 have taL:∀x∈t.all,ThL deep x:=fun x hx=>(nS tk x hx).1
 clear hp g3
 have gg:Same (Wv a T U H3) (Wv a T U H3):=Same.refl _
 skip
 refine ⟨_,(@Z2 _ _ _ _ _ (@Zg _ _ 5 _ _ _ _ V5.nd rfl (Or.inl rfl) (Z5 bY hr (@Z0 _ _ _ _ _ (pv 4) Z1 (by rfl))) (by rfl) (by first | exact .inl rfl | exact .inr rfl)) Zf),?_⟩
 refine ⟨_,rfl,v,t,rfl,k_v.mono Yd,by omega,by omega,fun r H4 g4 n_r k_r=>?_⟩
 have ra:=wo.pn.ne n_r
 have gz:=Uw (a:=a) (T:=T) (U:=U) g4
 have wo:=wo.same g4
 have gg:=gg.trans gz
 have k_v:=k_v.mono gz
 have k_r:=wo.str ra k_r
 skip
 refine ⟨_,(@Z2 _ _ _ _ _ (@Zg _ _ 6 _ _ _ _ V5.nd rfl (Or.inl rfl) (Z5 bC hr (@Z0 _ _ _ _ _ (pv 2) (@Z0 _ _ _ _ _ (pv 3) (@Z0 _ _ _ _ _ (pv 4) Z1 (by rfl)) (by rfl)) (by rfl))) (by rfl) (by first | exact .inl rfl | exact .inr rfl)) Zf),?_⟩
 refine ⟨_,rfl,_,rfl,_,rfl,v,room,deep,t,rfl,r0,r1,by omega,by omega,k_v.mono Yd,by omega,tw,by omega,wo.lam,fun q H6 g6 l6 k_q=>?_⟩
 have gz:=iO (a:=a) (U:=U) g6
 have wo:=wo.tt g6 l6
 have gg:=gg.trans gz
 have k_r:=k_r.mono gz
 have k_q:=wo.lad k_q
 skip
 have gq:=lp r0 r1 d0 d1 tw (by omega)
 have ql:=(Q5 (room:=room) (by omega) tw).2.2
 have dq:=(gB (room:=room) (by omega) tw).1
 refine ⟨_,(@Z2 _ _ _ _ _ (@Y7 _ _ _ _ _ _ _ _ (@X4 _ _ _ _ (X3 (Z5 cj hr (@Z0 _ _ _ _ _ (pv 6) (@Z0 _ _ _ _ _ (pv 2) (@Z0 _ _ _ _ _ (pv 3) (@Z0 _ _ _ _ _ (pv 5) Z1 (by rfl)) (by rfl)) (by rfl)) (by rfl))))) (@Z6 _ _ _ (@Ze _ _ _ _ Xf)) Zq) Zf),?_⟩
 refine ⟨_,rfl,_,rfl,_,rfl,_,rfl,q,r,room,deep,_,_,rfl,k_q.mono Yd,k_r.mono Yd,gq,dq,by omega,taL,wo.lam2,fun H7 g7 l7=>⟨_,rfl,Y5 ?_⟩⟩
 have gz:=qV (a:=a) (T:=T) g7
 have wo:=wo.uu g7 l7
 have gg:=gg.trans gz
 have k_r:=k_r.mono gz
 have k_q:=k_q.mono gz
 refine ⟨_,(@Z2 _ _ _ _ _ (@Zg _ _ 7 _ _ _ _ V5.nd rfl (Or.inl rfl) (Z5 eZ hr (@Z0 _ _ _ _ _ (pv 1) (@Z0 _ _ _ _ _ (pv 3) (@Z0 _ _ _ _ _ Z3 Z1 (by rfl)) (by rfl)) (by rfl))) (by rfl) (by first | exact .inl rfl | exact .inr rfl)) Zf),?_⟩
 refine ⟨_,rfl,_,rfl,a,S,ns,deep,3,rfl,wo.pn,d0,d1,by decide,by decide,fun v2 t2 H8 tk2 tsz2 tbl k_v2 hp g8=>?_⟩
 have gz:=tK (T:=T) (U:=U) g8
 have wo:=wo.grw hp g8
 have gg:=gg.trans gz
 have k_r:=k_r.mono gz
 have k_q:=k_q.mono gz
 have k_v2:=tre wo k_v2
 skip
 have hht2:=iq t2
 have tbl2:t2.all.length≤18:=by omega
 have tw2:∀s∈t2.streams,∀x∈s,ThL deep x:=fun s hs x hx=>(tk2 s hs x hx).1
 have taL2:∀x∈t2.all,ThL deep x:=fun x hx=>(nS tk2 x hx).1
 have gq2:=lp r0 r1 d0 d1 tw2 (by omega)
 have ql2:=(Q5 (room:=room) (by omega) tw2).2.2
 have dq2:=(gB (room:=room) (by omega) tw2).1
 have gm:=tU r0 r1 d0 d1 gq gq2 (by omega)
 have dm:=h9 (room:=room) gq.lok.pok gq2.lok.pok dq dq2
 refine ⟨_,(@Z2 _ _ _ _ _ (@Zg _ _ 8 _ _ _ _ V5.nd rfl (Or.inl rfl) (Z5 bj hr (@Z0 _ _ _ _ _ (pv 6) (@Z0 _ _ _ _ _ (Z5 bC hr (@Z0 _ _ _ _ _ (pv 2) (@Z0 _ _ _ _ _ (pv 3) (@Z0 _ _ _ _ _ (pv 7) Z1 (by rfl)) (by rfl)) (by rfl))) Z1 (by rfl)) (by rfl))) (by rfl) (by first | exact .inl rfl | exact .inr rfl)) Zf),?_⟩
 refine ⟨_,rfl,_,rfl,_,rfl,_,rfl,v2,room,deep,t2,rfl,r0,r1,by omega,by omega,k_v2.mono Yd,by omega,tw2,by omega,wo.lam,fun p2 H9 g9 l9 k_p2=>?_⟩
 have gz:=iO (a:=a) (U:=U) g9
 have wo:=wo.tt g9 l9
 have gg:=gg.trans gz
 have k_r:=k_r.mono gz
 have k_q:=k_q.mono gz
 have k_v2:=k_v2.mono gz
 have k_p2:=wo.lad k_p2
 refine ⟨q,p2,room,deep,_,_,rfl,k_q.mono Yd,k_p2.mono Yd,gq.lok.pok,gq2.lok.pok,r0,r1,by omega,by omega,fun m H10 g10 k_m=>?_⟩
 have gz:=Uw (a:=a) (T:=T) (U:=U) g10
 have wo:=wo.same g10
 have gg:=gg.trans gz
 have k_r:=k_r.mono gz
 have k_q:=k_q.mono gz
 have k_v2:=k_v2.mono gz
 have k_m:=wo.lad k_m
 skip
 refine ⟨_,(@Z2 _ _ _ _ _ (@Y7 _ _ _ _ _ _ _ _ (@X4 _ _ _ _ (X3 (Z5 cj hr (@Z0 _ _ _ _ _ (pv 8) (@Z0 _ _ _ _ _ (pv 2) (@Z0 _ _ _ _ _ (pv 3) (@Z0 _ _ _ _ _ (@Zd _ _ _ _ _ _ _ _ O2 (pv 5) (Z5 bY hr (@Z0 _ _ _ _ _ (pv 7) Z1 (by rfl)))) Z1 (by rfl)) (by rfl)) (by rfl)) (by rfl))))) (@Z6 _ _ _ (@Ze _ _ _ _ Xf)) Zq) Zf),?_⟩
 refine ⟨_,rfl,_,rfl,_,rfl,_,rfl,_,rfl,v2,t2,rfl,k_v2.mono Yd,by omega,by omega,fun r2 H11 g11 n_r2 k_r2=>?_⟩
 have ra2:=wo.pn.ne n_r2
 have gz:=Uw (a:=a) (T:=T) (U:=U) g11
 have wo:=wo.same g11
 have gg:=gg.trans gz
 have k_r:=k_r.mono gz
 have k_q:=k_q.mono gz
 have k_v2:=k_v2.mono gz
 have k_m:=k_m.mono gz
 have k_r2:=wo.str ra2 k_r2
 obtain ⟨_,xs,e0,e_r,ds⟩:=DV.list_inv k_r
 cases e0
 obtain ⟨_,ys,e0,uj,es⟩:=DV.list_inv k_r2
 cases e0
 have xl:=ds.length
 rw [List.length_map] at xl
 have yl:=es.length
 rw [List.length_map] at yl
 refine ⟨r,r2,xs,ys,rfl,rfl,Yd _ _ e_r,Yd _ _ uj,Zn (by omega),?_⟩
 intro rr n_rr
 generalize hz:upd _ rr _=H12
 have hw:=pH hz n_rr wo
 have wo:=hw.1
 have gz:=hw.2.1
 have e_rr:=hw.2.2
 clear hw hz
 have gg:=gg.trans gz
 have k_r:=k_r.mono gz
 have k_q:=k_q.mono gz
 have k_v2:=k_v2.mono gz
 have k_m:=k_m.mono gz
 have k_rr:DV (Wv a T U H12) (.ref rr) (cK (t.all++t2.all)):=by
  refine .lst e_rr ?_
  rw [List.map_append]
  exact (ds.mono gz).append (es.mono gz)
 clear e_r uj ds es
 refine ⟨m,rr,room,deep,_,_,rfl,k_m.mono Yd,k_rr.mono Yd,gm,dm,by rw [List.length_append];omega,fun x hx=>?_,wo.lam2,fun H13 g13 l13=>⟨_,rfl,Y5 ?_⟩⟩
 ·rcases List.mem_append.mp hx with h | h
  ·exact taL x h
  ·exact taL2 x h
 skip
 have gz:=qV (a:=a) (T:=T) g13
 have wo:=wo.uu g13 l13
 have gg:=gg.trans gz
 have k_r:=k_r.mono gz
 have k_q:=k_q.mono gz
 have k_v2:=k_v2.mono gz
 have k_m:=k_m.mono gz
 refine ⟨_,(@Z2 _ _ _ _ _ (@Y7 _ _ _ _ _ _ _ _ (@Zk _ _ _ _ _ _ _ _ (O1 hr.units) (Z5 bj hr (@Z0 _ _ _ _ _ (Z5 bC hr (@Z0 _ _ _ _ _ (pv 2) (@Z0 _ _ _ _ _ (pv 3) (@Z0 _ _ _ _ _ (pv 7) Z1 (by rfl)) (by rfl)) (by rfl))) (@Z0 _ _ _ _ _ (pv 6) Z1 (by rfl)) (by rfl))) (pv 8) (Zl _)) (@Z6 _ _ _ (@Ze _ _ _ _ Xf)) Zq) Zf),?_⟩
 refine ⟨_,rfl,_,rfl,_,rfl,v2,room,deep,t2,rfl,r0,r1,by omega,by omega,k_v2.mono Yd,by omega,tw2,by omega,wo.lam,fun p3 H14 g14 l14 k_p3=>?_⟩
 have gz:=iO (a:=a) (U:=U) g14
 have wo:=wo.tt g14 l14
 have gg:=gg.trans gz
 have k_r:=k_r.mono gz
 have k_q:=k_q.mono gz
 have k_v2:=k_v2.mono gz
 have k_m:=k_m.mono gz
 have k_p3:=wo.lad k_p3
 refine ⟨_,rfl,p3,q,room,deep,_,_,rfl,k_p3.mono Yd,k_q.mono Yd,gq2.lok.pok,gq.lok.pok,r0,r1,by omega,by omega,fun m2 H15 g15 k_m2=>?_⟩
 have gz:=Uw (a:=a) (T:=T) (U:=U) g15
 have wo:=wo.same g15
 have gg:=gg.trans gz
 have k_r:=k_r.mono gz
 have k_q:=k_q.mono gz
 have k_v2:=k_v2.mono gz
 have k_m:=k_m.mono gz
 have k_m2:=wo.lad k_m2
 rw [kN gq2.lok.pok gq.lok.pok] at k_m2
 have ll:=qS room deep (ai (a_ room deep (glT room deep t) (glT room deep t2))) (a_ room deep (glT room deep t) (glT room deep t2))
 refine ⟨_,rfl,_,_,(k_m2.mono Yd).dv,(k_m.mono Yd).dv,X0 ll (by decide),X0 ll (by decide),_,rfl,?_⟩
 rw [Qa ll]
 refine Y5 ⟨_,(@Z6 _ _ _ (@Ze _ _ _ _ (Z5 cj hr (@Z0 _ _ _ _ _ (Z5 bC hr (@Z0 _ _ _ _ _ (pv 2) (@Z0 _ _ _ _ _ (pv 3) (@Z0 _ _ _ _ _ (pv 5) Z1 (by rfl)) (by rfl)) (by rfl))) (@Z0 _ _ _ _ _ (pv 2) (@Z0 _ _ _ _ _ (pv 3) (@Z0 _ _ _ _ _ (pv 5) Z1 (by rfl)) (by rfl)) (by rfl)) (by rfl))))),?_⟩
 have tl1:∀s∈(Tr.leaf t.all).streams,∀x∈s,ThL deep x:=fun s hs x hx=>by
  rw [List.mem_singleton.mp hs] at hx
  exact taL x hx
 have gl:=lp r0 r1 d0 d1 tl1 (by show t.all.length≤150;omega)
 have dl:=(gB (room:=room) (by omega) tl1).1
 refine ⟨_,rfl,_,rfl,_,rfl,.ref r,room,deep,.leaf t.all,rfl,r0,r1,by omega,by omega,k_r.mono Yd,by show 1≤1000;decide,tl1,by show t.all.length≤150;omega,wo.lam,fun p4 H16 g16 l16 k_p4=>?_⟩
 have gz:=iO (a:=a) (U:=U) g16
 have wo:=wo.tt g16 l16
 have gg:=gg.trans gz
 have k_r:=k_r.mono gz
 have k_q:=k_q.mono gz
 have k_v2:=k_v2.mono gz
 have k_m:=k_m.mono gz
 have k_p4:=wo.lad k_p4
 exact ⟨_,rfl,_,rfl,_,rfl,p4,r,room,deep,_,_,rfl,k_p4.mono Yd,k_r.mono Yd,gl,dl,by omega,taL,wo.lam2,fun H17 g17 l17=>hq _⟩
end
end K26
namespace Hd
open PySem PySem.W
section
variable {α β:Type}
def fN (n:Nat) (k:Nat→α):α:=Nat.casesOn n (k 0) fun m=>k (Nat.succ m)
theorem Ug (n:Nat) (k:Nat→α):fN n k=k n:=by cases n <;> rfl
def fV (v:Value) (k:Value→α):α:=match v with
 | .ref a=>fN a fun a=>k (.ref a)
 | .str s t=>fN t fun t=>k (.str s t)
 | .int i t=>fN t fun t=>k (.int i t)
 | v=>k v
theorem Sd (v:Value) (k:Value→α):fV v k=k v:=by cases v <;> simp only [fV,Ug]
def fO (f:β→(β→α)→α) (o:Option β) (k:Option β→α):α:=match o with
 | none=>k none
 | some x=>f x fun x=>k (some x)
theorem iX {f:β→(β→α)→α} (hf:∀x k,f x k=k x) (o:Option β) (k:Option β→α):fO f o k=k o:=by cases o <;> simp only [fO,hf]
def fL (f:β→(β→α)→α) (l:List β):(List β→α)→α:=
 @List.rec β (fun _=>(List β→α)→α) (fun k=>k []) (fun x _ ih k=>f x fun x=>ih fun r=>k (x::r)) l
theorem rB {f:β→(β→α)→α} (hf:∀x k,f x k=k x) (l:List β):∀k:List β→α,fL f l k=k l:=by
 induction l with
 | nil=>intro k;rfl
 | cons x r ih=>
  intro k
  show f x (fun x=>fL f r fun r=>k (x::r))=_
  rw [hf,ih]
def fA (f:β→(β→α)→α) (l:Array β) (k:Array β→α):α:=match l with
 | ⟨l⟩=>fL f l fun l=>k ⟨l⟩
theorem jc {f:β→(β→α)→α} (hf:∀x k,f x k=k x) (l:Array β) (k:Array β→α):fA f l k=k l:=by
 cases l;simp only [fA,rB hf]
def fE (e:DictEntry) (k:DictEntry→α):α:=match e with
 | ⟨h,a,b⟩=>fV a fun a=>fV b fun b=>k ⟨h,a,b⟩
theorem uL (e:DictEntry) (k:DictEntry→α):fE e k=k e:=by cases e;simp only [fE,Sd]
def fF (e:FuncData) (k:FuncData→α):α:=match e with
 | ⟨a,b,c,d,e,g,cl,df,kd,dc,pm,an,cd,ct,bl⟩=>fN g fun g=>fV df fun df=>fV kd fun kd=>fV dc fun dc=>fV pm fun pm=>fO fN an fun an=>fV cd fun cd=>fV ct fun ct=>fN bl fun bl=>k ⟨a,b,c,d,e,g,cl,df,kd,dc,pm,an,cd,ct,bl⟩
theorem uh (e:FuncData) (k:FuncData→α):fF e k=k e:=by cases e;simp only [fF,Sd,Ug,iX Ug]
def fC (e:ClassData) (k:ClassData→α):α:=match e with
 | ⟨a,b,c,d,e,f,g,h,i,j,l⟩=>fL fV b fun b=>fL fV c fun c=>fN d fun d=>fL fV h fun h=>k ⟨a,b,c,d,e,f,g,h,i,j,l⟩
theorem vh (e:ClassData) (k:ClassData→α):fC e k=k e:=by cases e;simp only [fC,rB Sd,Ug]
def fD (d:Data) (k:Data→α):α:=match d with
 | .seq xs n=>fA fV xs fun xs=>fN n fun n=>k (.seq xs n)
 | .dict xs n=>fA fE xs fun xs=>fN n fun n=>k (.dict xs n)
 | .fields xs=>fA fV xs fun xs=>k (.fields xs)
 | .cell v=>fO fV v fun v=>k (.cell v)
 | .prim v=>fV v fun v=>k (.prim v)
 | .func f=>fF f fun f=>k (.func f)
 | .cls f=>fC f fun f=>k (.cls f)
 | d=>k d
theorem uY (d:Data) (k:Data→α):fD d k=k d:=by cases d <;> simp only [fD,jc Sd,jc uL,Ug,iX Sd,Sd,uh,vh]
def fJ (o:Obj) (k:Obj→α):α:=match o with
 | ⟨c,d,x,s⟩=>fV c fun c=>fO fN d fun d=>fD x fun x=>fA (fO fV) s fun s=>k ⟨c,d,x,s⟩
theorem rk (o:Obj) (k:Obj→α):fJ o k=k o:=by cases o;simp only [fJ,Sd,iX Ug,uY,jc (iX Sd)]
def fB (t:BT):(BT→α)→α:=
 @BT.rec (fun _=>(BT→α)→α) (fun k=>k .nil) (fun v _ _ il ir k=>fJ v fun v=>il fun l=>ir fun r=>k (.node v l r)) t
theorem vI (t:BT):∀k:BT→α,fB t k=k t:=by
 induction t with
 | nil=>intro k;rfl
 | node v l r il ir=>
  intro k
  show fJ v (fun v=>fB l fun l=>fB r fun r=>k (.node v l r))=_
  rw [rk,il,ir]
def fR (d:Drawn) (k:Drawn→α):α:=match d with
 | ⟨a,b,c,d⟩=>fN a fun a=>fN b fun b=>fN c fun c=>fN d fun d=>k ⟨a,b,c,d⟩
theorem rD (d:Drawn) (k:Drawn→α):fR d k=k d:=by cases d;simp only [fR,Ug]
def fS (s:SharedT) (k:SharedT→α):α:=match s with
 | ⟨t,n,life,g,d,tk,os⟩=>fB t fun t=>fN n fun n=>fR d fun d=>fN tk fun tk=>k ⟨t,n,life,g,d,tk,os⟩
theorem rl (s:SharedT) (k:SharedT→α):fS s k=k s:=by cases s;simp only [fS,vI,Ug,rD]
def fP (d:Pos) (k:Pos→α):α:=match d with
 | ⟨a,b,c,d⟩=>fN a fun a=>fN b fun b=>fN c fun c=>fN d fun d=>k ⟨a,b,c,d⟩
theorem ul (d:Pos) (k:Pos→α):fP d k=k d:=by cases d;simp only [fP,Ug]
def fH (s:Shared) (k:Shared→α):α:=match s with
 | ⟨⟨l,life⟩,g,d,tk,os⟩=>fA fJ l fun l=>fR d fun d=>fN tk fun tk=>k ⟨⟨l,life⟩,g,d,tk,os⟩
theorem u9 (s:Shared) (k:Shared→α):fH s k=k s:=by obtain ⟨⟨l,life⟩,g,d,tk,os⟩:=s;simp only [fH,jc rk,Ug,rD]
end
section
variable {α:Type}
def hd (tb:String→Option Builtin) (p:Program) (w:World) (m:Nat) (ann:Option Value) (env:Env) (q:Pos) (F:Nat) (fin:SharedT→Code→Pos→Option α) (l:List Stmt):SharedT→Code→Pos→Option α:=
 @List.rec Stmt (fun _=>SharedT→Code→Pos→Option α) fin (fun st _ ih s c pos=>match segRunT tb p w m ann 1 F s (pieceOf st env c pos [topFrame q]) with
  | some (.next,s',c',p')=>fS s' fun s'=>fP p' fun p'=>ih s' c' p'
  | _=>none) l
theorem qF {tb:String→Option Builtin} {p:Program} {w:World} {m:Nat} {ann:Option Value} {env:Env} {q:Pos} {F:Nat} {fin:SharedT→Code→Pos→Option α} {st:Stmt} {l:List Stmt} {s:SharedT} {c:Code} {pos:Pos} {r:α}
  (h:hd tb p w m ann env q F fin (st::l) s c pos=some r):∃s' c' p',segRunT tb p w m ann 1 F s (pieceOf st env c pos [topFrame q])=some (.next,s',c',p')∧hd tb p w m ann env q F fin l s' c' p'=some r:=by
 have h:(match segRunT tb p w m ann 1 F s (pieceOf st env c pos [topFrame q]) with
  | some (.next,s',c',p')=>fS s' fun s'=>fP p' fun p'=>hd tb p w m ann env q F fin l s' c' p'
  | _=>none)=some r:=h
 split at h
 ·rename_i s' c' p' e
  rw [rl,ul] at h
  exact ⟨s',c',p',e,h⟩
 ·cases h
theorem t7 {tb:String→Option Builtin} {p:Program} {w:World} {n₀:Nat} {ann:Option Value} {env:Env} {q:Pos} {n N:Nat} {s s' r:Shared} {st:Stmt} {rest:List Stmt} {c c':Code} {pos p':Pos} (h:segRun tb p w n₀ ann 1 n s (pieceOf st env c pos [topFrame q])=some (.next,s',c',p'))
  (k:topRun tb p w n₀ ann N s' (restOf rest env c' p' [topFrame q])=some r):topRun tb p w n₀ ann (n+N) s (restOf (st::rest) env c pos [topFrame q])=some r:=by
 obtain ⟨a,ha,hN⟩:=seg_top (res:=id) (K':=fun f=>match f with | .next=>(execs rest env).wrap doneF (leaveH env) id id | f=>doneF f) (H':=leaveH env) (B:=[topFrame q]) rfl n s (pieceOf st env c pos [topFrame q])
  ⟨(exec st env).wrap (fun f=>match f with | .next=>(execs rest env).wrap doneF (leaveH env) id id | f=>doneF f) (leaveH env) id id,c,pos,[topFrame q]⟩ _ _ _ _ ⟨rfl,rfl,.inl ⟨rfl,rfl,_,rfl,rfl⟩⟩ h
 obtain rfl:a=.next:=ha
 have:=hN N r k
 unfold restOf
 rw [execs_cons_wrap]
 exact this
theorem oz {tb:String→Option Builtin} {p:Program} {w:World} {m:Nat} {ann:Option Value} {env:Env} {q:Pos} {F:Nat} {fin:SharedT→Code→Pos→Option α} {r:α}:∀(l:List Stmt) (s:SharedT) (c:Code) (pos:Pos),hd tb p w m ann env q F fin l s c pos=some r→
  ∃s' c' p',fin s' c' p'=some r∧∀N z,topRun tb p w m ann N s'.abs (restOf [] env c' p' [topFrame q])=some z→topRun tb p w m ann (l.length * F+N) s.abs (restOf l env c pos [topFrame q])=some z
 | [],s,c,pos,h=>⟨s,c,pos,h,fun N z hz=>by rw [List.length_nil,Nat.zero_mul,Nat.zero_add];exact hz⟩
 | st::l,s,c,pos,h=>by
  obtain ⟨s',c',p',e,h⟩:=qF h
  obtain ⟨s2,c2,p2,hf,hN⟩:=oz l s' c' p' h
  refine ⟨s2,c2,p2,hf,fun N z hz=>?_⟩
  have:=t7 (segRun_of e) (hN N z hz)
  rw [List.length_cons,Nat.succ_mul,show l.length * F+F+N=F+(l.length * F+N) by omega]
  exact this
def u8 {γ:Type} (tb:String→Option Builtin) (p:Program) (w:World) (m:Nat) (ann:Option Value) (env:Env) (q:Pos) (look:Shared→γ) (s:SharedT) (c:Code) (pos:Pos):Option γ:=
 match topRun tb p w m ann 50 s.abs (restOf [] env c pos [topFrame q]) with
 | some r=>fH r fun r=>some (look r)
 | none=>none
def ofL (l:List Obj):Nat→BT→BT:=@List.rec Obj (fun _=>Nat→BT→BT) (fun _ t=>t) (fun o _ ih i t=>ih (Nat.succ i) (t.ins i o)) l
def toT (s:Shared):SharedT:=match s with
 | ⟨⟨⟨l⟩,life⟩,g,d,tk,os⟩=>⟨ofL l 0 .nil,l.length,life,g,d,tk,os⟩
def pre (p:Program) (w:World) (os:OsState):Option (Shared×Thread):=topGo treeTable p w 11 (some (.ref 6)) 12 ⟨boot_heap w.params,⟨[]⟩,boot_drawn,boot_toks,os⟩ (topStub p)
def zp:Pos:=⟨0,0,0,0⟩
def qr (p:Program):Env:={scope:=p.main.scope,locals:=mainNs,globals:=mainNs,cells:=[],code:=.ref 13,frame:=some 14}
def sa (p:Program) (w:World) (os:OsState):Shared:=match pre p w os with
 | some (s,_)=>s
 | none=>⟨{},#[],{},0,os⟩
def hc (p:Program):Code:=.body (behindTheImports p) (qr p)
def blk (p:Program) (w:World) (os:OsState):Option (Flow×Shared×Code×Pos):=segRun treeTable p w 11 (some (.ref 6)) 1 1 (sa p w os) (blockOf (behindTheImports p) (qr p) (hc p) zp [topFrame zp])
def chk {γ:Type} (p:Program) (look:Shared→γ) (w:World) (os:OsState):Option γ:=
 fS (toT (sa p w os)) fun s=>hd treeTable p w 11 (some (.ref 6)) (qr p) zp 600 (u8 treeTable p w 11 (some (.ref 6)) (qr p) zp look) (behindTheImports p) s (hc p) zp
end
theorem i5 {p q:Program} {loose:List Str} {Xt:Shared→Bool} {α:Type} {Yf:Shared→α} {Ya:World→α}
  (e:opening p=plainProg p.main.scope.names) (f:∀s,fenceModules? p s=some s)
  (hpre:∀(w:World) (os:OsState),pre p w os=some (sa p w os,⟨denote treeTable (hc p),hc p,zp,[topFrame zp]⟩))
  (hblk:∀(w:World) (os:OsState),blk p w os=some (.next,(toT (sa p w os)).abs,hc p,zp))
  (size:∀w:World,((boot_heap w.params).isNs mainGlobals && (Array.mk ([]:List GenState)).size == 0,(boot_heap w.params).objs.size,(boot_heap w.params).nsMap mainGlobals "__annotations__")=(true,11,some (.ref 6)))
  (len:Nat.ble (behindTheImports p).length 1600=true)
  (hchk:∀(w:World) (os:OsState),chk p (fun s=>((staticsOk (importedModules p.main.body) (boot_heap w.params) s.heap && namesBound p s.heap && gensDone s && laidKept (boot_heap w.params) s.heap),openSeen q loose (importedModules p.main.body) Xt true s,Yf s)) w os=some (true,openGood q loose,Ya w)):
  LeftO p q loose Xt Yf Ya 1000000 true:=fun w=>by
 obtain ⟨⟨h,gs,d,k,os⟩,e1,e'⟩:=Option.map_eq_some_iff.mp (boot_open (p:=p) (N:=1000000) e rfl f w)
 obtain ⟨rfl,rfl,rfl,rfl⟩:h=boot_heap w.params∧gs=⟨[]⟩∧d=boot_drawn∧k=boot_toks:=by simpa using e'
 obtain ⟨z1,z2,z3⟩:_∧_∧_:=by simpa only [Prod.mk.injEq] using size w
 have hc1:=hchk w os
 unfold chk at hc1
 rw [rl] at hc1
 obtain ⟨s2,c2,p2,hf,hN⟩:=oz _ _ _ _ hc1
 unfold u8 at hf
 split at hf
 case h_2=>cases hf
 rename_i r hr
 rw [u9] at hf
 obtain ⟨l1,l2,l3⟩:_∧_∧_:=by simpa only [Option.some.injEq,Prod.mk.injEq] using hf
 have a1:=hN _ _ hr
 have a2:=piece_block (hblk w os) a1
 have a3:=go_top (hpre w os) a2
 have le:12+(1+((behindTheImports p).length * 600+50))≤1000000:=by
  have:=Nat.le_of_ble_eq_true len
  omega
 have a4:=topRun_mono (1000000 - (12+(1+((behindTheImports p).length * 600+50)))) _ _ _ _ a3
 rw [show 12+(1+((behindTheImports p).length * 600+50))+(1000000 - (12+(1+((behindTheImports p).length * 600+50))))=1000000 by omega] at a4
 have t:topFrom treeTable p w 1000000 ⟨boot_heap w.params,⟨[]⟩,boot_drawn,boot_toks,os⟩=some r:=by
  unfold topFrom
  dsimp only
  rw [z1,z2,z3,a4]
  show (match staticsOk (importedModules p.main.body) (boot_heap w.params) r.heap && namesBound p r.heap && gensDone r && laidKept (boot_heap w.params) r.heap with | true=>_ | false=>_)=_
  rw [l1]
 unfold openEnds
 rw [e1]
 show (topFrom treeTable p w 1000000 _).map _=_
 rw [t]
 exact congrArg some (Prod.ext l2 l3)
def cF (p q:Program) (as:List Addr) (w:World) (os:OsState):=
 chk p (fun s=>((staticsOk (importedModules p.main.body) (boot_heap w.params) s.heap && namesBound p s.heap && gensDone s && laidKept (boot_heap w.params) s.heap),openSeen q [] (importedModules p.main.body) (fun s=>xlAt q [] s && recOk [] s) true s,as.map s.heap.get?)) w os
def cM (p q:Program) (as ts:List Addr) (w:World) (os:OsState):=
 chk p (fun s=>((staticsOk (importedModules p.main.body) (boot_heap w.params) s.heap && namesBound p s.heap && gensDone s && laidKept (boot_heap w.params) s.heap),openSeen q [] (importedModules p.main.body) (fun s=>xlAt q [] s && recOk [] s) true s,(as.map s.heap.get?,ts.map s.heap.get?))) w os
def cG (q:Program):=openGood q []
theorem cF_:@cF=@cF:=rfl
theorem cM_:@cM=@cM:=rfl
theorem cG_:@cG=@cG:=rfl
end Hd
def PySem.W.Fast.tw14598715356260435866:PySem.Params→PySem.Obj:=PySem.W.boot_o_0
theorem PySem.W.Fast.te14598715356260435866:PySem.W.boot_o_0=PySem.W.Fast.tw14598715356260435866:=rfl
lay_quick Hd.cF Hd.cM Hd.cG
name_quick cFQ for Hd.cF by Hd.cF_
name_quick cMQ for Hd.cM by Hd.cM_
name_quick cGQ for Hd.cG by Hd.cG_
namespace Hd
open PySem PySem.W
theorem hS (w:World):((boot_heap w.params).isNs mainGlobals && (Array.mk ([]:List GenState)).size == 0,(boot_heap w.params).objs.size,(boot_heap w.params).nsMap mainGlobals "__annotations__")=(true,11,some (.ref 6)):=by kernel_rfl
theorem uK (p q:Program) (as:List Addr) (w:World) (os:OsState):cF p q as w os=W.Fast.cFQ p q as w os:=by rw [←W.Fast.cFQ_eq]
theorem uU (p q:Program) (as ts:List Addr) (w:World) (os:OsState):cM p q as ts w os=W.Fast.cMQ p q as ts w os:=by rw [←W.Fast.cMQ_eq]
theorem rF (q:Program):openGood q []=W.Fast.cGQ q:=by rw [←W.Fast.cGQ_eq];rfl
theorem aD {p q:Program} (e:opening p=plainProg p.main.scope.names) (f:∀s,fenceModules? p s=some s)
  (hpre:∀(w:World) (os:OsState),pre p w os=some (sa p w os,⟨denote treeTable (hc p),hc p,zp,[topFrame zp]⟩))
  (hblk:∀(w:World) (os:OsState),blk p w os=some (.next,(toT (sa p w os)).abs,hc p,zp)) (len:Nat.ble (behindTheImports p).length 1600=true)
  {K:Params→Frag} {as:List Addr} {ek:∀P,as=(K P).map (·.1)}
  (h:∀(w:World) (os:OsState),W.Fast.cFQ p q as w os=some (true,W.Fast.cGQ q,(K w.params).map fun p=>some p.2)):
  LeftO p q [] (fun s=>xlAt q [] s && recOk [] s) (Hook.obs (kHook K as ek)) (Hook.val (kHook K as ek)) 1000000 true:=
 i5 e f hpre hblk hS len fun w os=>(uK p q as w os).trans ((h w os).trans (by rw [rF];rfl))
theorem leftM {p q:Program} (e:opening p=plainProg p.main.scope.names) (f:∀s,fenceModules? p s=some s)
  (hpre:∀(w:World) (os:OsState),pre p w os=some (sa p w os,⟨denote treeTable (hc p),hc p,zp,[topFrame zp]⟩))
  (hblk:∀(w:World) (os:OsState),blk p w os=some (.next,(toT (sa p w os)).abs,hc p,zp)) (len:Nat.ble (behindTheImports p).length 1600=true)
  {K:Params→Frag} {as:List Addr} {ek:∀P,as=(K P).map (·.1)} {ts:List Addr}
  (h:∀(w:World) (os:OsState),W.Fast.cMQ p q as ts w os=some (true,W.Fast.cGQ q,((K w.params).map fun p=>some p.2),ts.map fun _=>some (tabObj #[]))):
  LeftO p q [] (fun s=>xlAt q [] s && recOk [] s) (Hook.obs (kmHook K as ek ts)) (Hook.val (kmHook K as ek ts)) 1000000 true:=
 i5 e f hpre hblk hS len fun w os=>(uU p q as ts w os).trans ((h w os).trans (by rw [rF];rfl))
end Hd
namespace K26
open PySem L2 Ld
theorem all_mk {c_0 T0 c_1 T1:Addr} {l:W.OpenLaw} {w:World} {K:W.Frag} {h:Heap} {mg:Str→Option Value} {fa f0 f1 f2 f3 f4 f5 f6 f7 f8 f9 f10 f11 f12 f13 f14 f15 f16 f17 f18 f19 f20 f21 f22 f23 f24 f25 f26 f27 f28 f29 f30 f31 f32 f33 f34 f35 f36 f37 f38 f39 f40 f41:Addr} (X:K.In h) (G:h.Ns mainGlobals mg) (hfa:mg "law"=some (.ref fa))
  {od0 an0 od1 an1 od2 an2 od3 an3 od4 an4 od5 an5 od6 an6 od7 an7 od8 an8 od9 an9 od10 an10 od11 an11 od12 an12 od13 an13 od14 an14 od15 an15 od16 an16 od17 an17 od18 an18 od19 an19 od20 an20 od21 an21 od22 an22 od23 an23 od24 an24 od25 an25 od26 an26 od27 an27 od28 an28 od29 an29 od30 an30 od31 an31 od32 an32 od33 an33 od34 an34 od35 an35 od36 an36 od37 an37 od38 an38 od39 an39 od40 an40 od41 an41:Option Addr} {sl0 sl1 sl2 sl3 sl4 sl5 sl6 sl7 sl8 sl9 sl10 sl11 sl12 sl13 sl14 sl15 sl16 sl17 sl18 sl19 sl20 sl21 sl22 sl23 sl24 sl25 sl26 sl27 sl28 sl29 sl30 sl31 sl32 sl33 sl34 sl35 sl36 sl37 sl38 sl39 sl40 sl41:Array (Option Value)} {oc0 kV0 dc0 pm0 ct0 cd0 oc1 kV1 dc1 pm1 ct1 cd1 oc2 kV2 dc2 pm2 ct2 cd2 oc3 kV3 dc3 pm3 ct3 cd3 oc4 kV4 dc4 pm4 ct4 cd4 oc5 kV5 dc5 pm5 ct5 cd5 oc6 kV6 dc6 pm6 ct6 cd6 oc7 kV7 dc7 pm7 ct7 cd7 oc8 kV8 dc8 pm8 ct8 cd8 oc9 kV9 dc9 pm9 ct9 cd9 oc10 kV10 dc10 pm10 ct10 cd10 oc11 kV11 dc11 pm11 ct11 cd11 oc12 kV12 dc12 pm12 ct12 cd12 oc13 kV13 dc13 pm13 ct13 cd13 oc14 kV14 dc14 pm14 ct14 cd14 oc15 kV15 dc15 pm15 ct15 cd15 oc16 kV16 dc16 pm16 ct16 cd16 oc17 kV17 dc17 pm17 ct17 cd17 oc18 kV18 dc18 pm18 ct18 cd18 oc19 kV19 dc19 pm19 ct19 cd19 oc20 kV20 dc20 pm20 ct20 cd20 oc21 kV21 dc21 pm21 ct21 cd21 oc22 kV22 dc22 pm22 ct22 cd22 oc23 kV23 dc23 pm23 ct23 cd23 oc24 kV24 dc24 pm24 ct24 cd24 oc25 kV25 dc25 pm25 ct25 cd25 oc26 kV26 dc26 pm26 ct26 cd26 oc27 kV27 dc27 pm27 ct27 oc28 kV28 dc28 pm28 ct28 oc29 kV29 dc29 pm29 ct29 cd29 oc30 kV30 dc30 pm30 ct30 cd30 oc31 kV31 dc31 pm31 ct31 cd31 oc32 kV32 dc32 pm32 ct32 cd32 oc33 kV33 dc33 pm33 ct33 cd33 oc34 kV34 dc34 pm34 ct34 cd34 oc35 kV35 dc35 pm35 ct35 cd35 oc36 kV36 dc36 pm36 ct36 cd36 oc37 kV37 dc37 pm37 ct37 cd37 oc38 kV38 dc38 pm38 ct38 cd38 oc39 kV39 dc39 pm39 ct39 cd39 oc40 kV40 dc40 pm40 ct40 cd40 oc41 kV41 dc41 pm41 ct41 cd41:Value}
  (a0:W.nsIn K mainGlobals "is_whole"=some (some (.ref f0))) (l0:K.lookup f0=some ⟨oc0,od0,.func (W.fnOf "is_whole" "is_whole" (ag bJ) (ae bJ) (aa bJ) .none kV0 dc0 pm0 an0 cd0 ct0),sl0⟩) (c0:W.codeIn K cd0 "is_whole"=true) (k0:W.keepIn K (.ref f0)=true)
  (a1:W.nsIn K mainGlobals "is_whole_from"=some (some (.ref f1))) (l1:K.lookup f1=some ⟨oc1,od1,.func (W.fnOf "is_whole_from" "is_whole_from" (ag aC) (ae aC) (aa aC) .none kV1 dc1 pm1 an1 cd1 ct1),sl1⟩) (c1:W.codeIn K cd1 "is_whole_from"=true) (k1:W.keepIn K (.ref f1)=true)
  (a2:W.nsIn K mainGlobals "is_whole_within"=some (some (.ref f2))) (l2:K.lookup f2=some ⟨oc2,od2,.func (W.fnOf "is_whole_within" "is_whole_within" (ag ay) (ae ay) (aa ay) .none kV2 dc2 pm2 an2 cd2 ct2),sl2⟩) (c2:W.codeIn K cd2 "is_whole_within"=true) (k2:W.keepIn K (.ref f2)=true)
  (a3:W.nsIn K mainGlobals "is_rising"=some (some (.ref f3))) (l3:K.lookup f3=some ⟨oc3,od3,.func (W.fnOf "is_rising" "is_rising" (ag bx) (ae bx) (aa bx) .none kV3 dc3 pm3 an3 cd3 ct3),sl3⟩) (c3:W.codeIn K cd3 "is_rising"=true) (k3:W.keepIn K (.ref f3)=true)
  (a4:W.nsIn K mainGlobals "is_room"=some (some (.ref f4))) (l4:K.lookup f4=some ⟨oc4,od4,.func (W.fnOf "is_room" "is_room" (ag bR) (ae bR) (aa bR) .none kV4 dc4 pm4 an4 cd4 ct4),sl4⟩) (c4:W.codeIn K cd4 "is_room"=true) (k4:W.keepIn K (.ref f4)=true)
  (a5:W.nsIn K mainGlobals "is_count"=some (some (.ref f5))) (l5:K.lookup f5=some ⟨oc5,od5,.func (W.fnOf "is_count" "is_count" (ag bF) (ae bF) (aa bF) .none kV5 dc5 pm5 an5 cd5 ct5),sl5⟩) (c5:W.codeIn K cd5 "is_count"=true) (k5:W.keepIn K (.ref f5)=true)
  (a6:W.nsIn K mainGlobals "are_counts"=some (some (.ref f6))) (l6:K.lookup f6=some ⟨oc6,od6,.func (W.fnOf "are_counts" "are_counts" (ag aV) (ae aV) (aa aV) .none kV6 dc6 pm6 an6 cd6 ct6),sl6⟩) (c6:W.codeIn K cd6 "are_counts"=true) (k6:W.keepIn K (.ref f6)=true)
  (a7:W.nsIn K mainGlobals "added_counts"=some (some (.ref f7))) (l7:K.lookup f7=some ⟨oc7,od7,.func (W.fnOf "added_counts" "added_counts" (ag aI) (ae aI) (aa aI) .none kV7 dc7 pm7 an7 cd7 ct7),sl7⟩) (c7:W.codeIn K cd7 "added_counts"=true) (k7:W.keepIn K (.ref f7)=true)
  (a8:W.nsIn K mainGlobals "first_of"=some (some (.ref f8))) (l8:K.lookup f8=some ⟨oc8,od8,.func (W.fnOf "first_of" "first_of" (ag bH) (ae bH) (aa bH) .none kV8 dc8 pm8 an8 cd8 ct8),sl8⟩) (c8:W.codeIn K cd8 "first_of"=true) (k8:W.keepIn K (.ref f8)=true)
  (a9:W.nsIn K mainGlobals "last_of"=some (some (.ref f9))) (l9:K.lookup f9=some ⟨oc9,od9,.func (W.fnOf "last_of" "last_of" (ag bQ) (ae bQ) (aa bQ) .none kV9 dc9 pm9 an9 cd9 ct9),sl9⟩) (c9:W.codeIn K cd9 "last_of"=true) (k9:W.keepIn K (.ref f9)=true)
  (a10:W.nsIn K mainGlobals "parent_of"=some (some (.ref f10))) (l10:K.lookup f10=some ⟨oc10,od10,.func (W.fnOf "parent_of" "parent_of" (ag bw) (ae bw) (aa bw) .none kV10 dc10 pm10 an10 cd10 ct10),sl10⟩) (c10:W.codeIn K cd10 "parent_of"=true) (k10:W.keepIn K (.ref f10)=true)
  (a11:W.nsIn K mainGlobals "pair_of"=some (some (.ref f11))) (l11:K.lookup f11=some ⟨oc11,od11,.func (W.fnOf "pair_of" "pair_of" (ag bU) (ae bU) (aa bU) .none kV11 dc11 pm11 an11 cd11 ct11),sl11⟩) (c11:W.codeIn K cd11 "pair_of"=true) (k11:W.keepIn K (.ref f11)=true)
  (a12:W.nsIn K mainGlobals "is_stretch"=some (some (.ref f12))) (l12:K.lookup f12=some ⟨oc12,od12,.func (W.fnOf "is_stretch" "is_stretch" (ag aY) (ae aY) (aa aY) .none kV12 dc12 pm12 an12 cd12 ct12),sl12⟩) (c12:W.codeIn K cd12 "is_stretch"=true) (k12:W.keepIn K (.ref f12)=true)
  (a13:W.nsIn K mainGlobals "bar_of"=some (some (.ref f13))) (l13:K.lookup f13=some ⟨oc13,od13,.func (W.fnOf "bar_of" "bar_of" (ag b_) (ae b_) (aa b_) .none kV13 dc13 pm13 an13 cd13 ct13),sl13⟩) (c13:W.codeIn K cd13 "bar_of"=true) (k13:W.keepIn K (.ref f13)=true)
  (a14:W.nsIn K mainGlobals "joint_count"=some (some (.ref f14))) (l14:K.lookup f14=some ⟨oc14,od14,.func (W.fnOf "joint_count" "joint_count" (ag aQ) (ae aQ) (aa aQ) .none kV14 dc14 pm14 an14 cd14 ct14),sl14⟩) (c14:W.codeIn K cd14 "joint_count"=true) (k14:W.keepIn K (.ref f14)=true)
  (a15:W.nsIn K mainGlobals "first_folding"=some (some (.ref f15))) (l15:K.lookup f15=some ⟨oc15,od15,.func (W.fnOf "first_folding" "first_folding" (ag aB) (ae aB) (aa aB) .none kV15 dc15 pm15 an15 cd15 ct15),sl15⟩) (c15:W.codeIn K cd15 "first_folding"=true) (k15:W.keepIn K (.ref f15)=true)
  (a16:W.nsIn K mainGlobals "fold_up"=some (some (.ref f16))) (l16:K.lookup f16=some ⟨oc16,od16,.func (W.fnOf "fold_up" "fold_up" (ag bT) (ae bT) (aa bT) .none kV16 dc16 pm16 an16 cd16 ct16),sl16⟩) (c16:W.codeIn K cd16 "fold_up"=true) (k16:W.keepIn K (.ref f16)=true)
  (a17:W.nsIn K mainGlobals "settling_of"=some (some (.ref f17))) (l17:K.lookup f17=some ⟨oc17,od17,.func (W.fnOf "settling_of" "settling_of" (ag aP) (ae aP) (aa aP) .none kV17 dc17 pm17 an17 cd17 ct17),sl17⟩) (c17:W.codeIn K cd17 "settling_of"=true) (k17:W.keepIn K (.ref f17)=true)
  (a18:W.nsIn K mainGlobals "settled"=some (some (.ref f18))) (l18:K.lookup f18=some ⟨oc18,od18,.func (W.fnOf "settled" "settled" (ag bV) (ae bV) (aa bV) .none kV18 dc18 pm18 an18 cd18 ct18),sl18⟩) (c18:W.codeIn K cd18 "settled"=true) (k18:W.keepIn K (.ref f18)=true)
  (a19:W.nsIn K mainGlobals "is_settled"=some (some (.ref f19))) (l19:K.lookup f19=some ⟨oc19,od19,.func (W.fnOf "is_settled" "is_settled" (ag aX) (ae aX) (aa aX) .none kV19 dc19 pm19 an19 cd19 ct19),sl19⟩) (c19:W.codeIn K cd19 "is_settled"=true) (k19:W.keepIn K (.ref f19)=true)
  (a20:W.nsIn K mainGlobals "steps_in"=some (some (.ref f20))) (l20:K.lookup f20=some ⟨oc20,od20,.func (W.fnOf "steps_in" "steps_in" (ag bI) (ae bI) (aa bI) .none kV20 dc20 pm20 an20 cd20 ct20),sl20⟩) (c20:W.codeIn K cd20 "steps_in"=true) (k20:W.keepIn K (.ref f20)=true)
  (a21:W.nsIn K mainGlobals "grown"=some (some (.ref f21))) (l21:K.lookup f21=some ⟨oc21,od21,.func (W.fnOf "grown" "grown" (ag cJ) (ae cJ) (aa cJ) .none kV21 dc21 pm21 an21 cd21 ct21),sl21⟩) (c21:W.codeIn K cd21 "grown"=true) (k21:W.keepIn K (.ref f21)=true)
  (a22:W.nsIn K mainGlobals "empty_ladder"=some (some (.ref f22))) (l22:K.lookup f22=some ⟨oc22,od22,.func (W.fnOf "empty_ladder" "empty_ladder" (ag aH) (ae aH) (aa aH) .none kV22 dc22 pm22 an22 cd22 ct22),sl22⟩) (c22:W.codeIn K cd22 "empty_ladder"=true) (k22:W.keepIn K (.ref f22)=true)
  (a23:W.nsIn K mainGlobals "thing_ladder"=some (some (.ref f23))) (l23:K.lookup f23=some ⟨oc23,od23,.func (W.fnOf "thing_ladder" "thing_ladder" (ag aJ) (ae aJ) (aa aJ) .none kV23 dc23 pm23 an23 cd23 ct23),sl23⟩) (c23:W.codeIn K cd23 "thing_ladder"=true) (k23:W.keepIn K (.ref f23)=true)
  (a24:W.nsIn K mainGlobals "added_ladder"=some (some (.ref f24))) (l24:K.lookup f24=some ⟨oc24,od24,.func (W.fnOf "added_ladder" "added_ladder" (ag aL) (ae aL) (aa aL) .none kV24 dc24 pm24 an24 cd24 ct24),sl24⟩) (c24:W.codeIn K cd24 "added_ladder"=true) (k24:W.keepIn K (.ref f24)=true)
  (a25:W.nsIn K mainGlobals "merged_ladder"=some (some (.ref f25))) (l25:K.lookup f25=some ⟨oc25,od25,.func (W.fnOf "merged_ladder" "merged_ladder" (ag az) (ae az) (aa az) .none kV25 dc25 pm25 an25 cd25 ct25),sl25⟩) (c25:W.codeIn K cd25 "merged_ladder"=true) (k25:W.keepIn K (.ref f25)=true)
  (a26:W.nsIn K mainGlobals "ladder_of"=some (some (.ref f26))) (l26:K.lookup f26=some ⟨oc26,od26,.func (W.fnOf "ladder_of" "ladder_of" (ag bA) (ae bA) (aa bA) .none kV26 dc26 pm26 an26 cd26 ct26),sl26⟩) (c26:W.codeIn K cd26 "ladder_of"=true) (k26:W.keepIn K (.ref f26)=true)
  (a27:W.nsIn K mainGlobals "grown_ladder"=some (some (.ref f27))) (l27:K.lookup f27=some ⟨oc27,od27,.func (W.fnOf "grown_ladder" "grown_ladder" (ag ah) (ae ah) (aa ah) .none kV27 dc27 pm27 an27 (.ref c_0) ct27),sl27⟩) (c27:W.codeIn K (.ref c_0) "grown_ladder"=true) (k27:W.keepIn K (.ref f27)=true)
  (a28:W.nsIn K mainGlobals "is_made_as_ladder"=some (some (.ref f28))) (l28:K.lookup f28=some ⟨oc28,od28,.func (W.fnOf "is_made_as_ladder" "is_made_as_ladder" (ag ad) (ae ad) (aa ad) .none kV28 dc28 pm28 an28 (.ref c_1) ct28),sl28⟩) (c28:W.codeIn K (.ref c_1) "is_made_as_ladder"=true) (k28:W.keepIn K (.ref f28)=true)
  (a29:W.nsIn K mainGlobals "is_ladder"=some (some (.ref f29))) (l29:K.lookup f29=some ⟨oc29,od29,.func (W.fnOf "is_ladder" "is_ladder" (ag bt) (ae bt) (aa bt) .none kV29 dc29 pm29 an29 cd29 ct29),sl29⟩) (c29:W.codeIn K cd29 "is_ladder"=true) (k29:W.keepIn K (.ref f29)=true)
  (a30:W.nsIn K mainGlobals "_law_pen"=some (some (.ref f30))) (l30:K.lookup f30=some ⟨oc30,od30,.func (W.fnOf "_law_pen" "_law_pen" (ag cI) (ae cI) (aa cI) .none kV30 dc30 pm30 an30 cd30 ct30),sl30⟩) (c30:W.codeIn K cd30 "_law_pen"=true) (k30:W.keepIn K (.ref f30)=true)
  (a31:W.nsIn K mainGlobals "_law_take"=some (some (.ref f31))) (l31:K.lookup f31=some ⟨oc31,od31,.func (W.fnOf "_law_take" "_law_take" (ag cg) (ae cg) (aa cg) .none kV31 dc31 pm31 an31 cd31 ct31),sl31⟩) (c31:W.codeIn K cd31 "_law_take"=true) (k31:W.keepIn K (.ref f31)=true)
  (a32:W.nsIn K mainGlobals "_law_many"=some (some (.ref f32))) (l32:K.lookup f32=some ⟨oc32,od32,.func (W.fnOf "_law_many" "_law_many" (ag ce) (ae ce) (aa ce) .none kV32 dc32 pm32 an32 cd32 ct32),sl32⟩) (c32:W.codeIn K cd32 "_law_many"=true) (k32:W.keepIn K (.ref f32)=true)
  (a33:W.nsIn K mainGlobals "_law_stream"=some (some (.ref f33))) (l33:K.lookup f33=some ⟨oc33,od33,.func (W.fnOf "_law_stream" "_law_stream" (ag bG) (ae bG) (aa bG) .none kV33 dc33 pm33 an33 cd33 ct33),sl33⟩) (c33:W.codeIn K cd33 "_law_stream"=true) (k33:W.keepIn K (.ref f33)=true)
  (a34:W.nsIn K mainGlobals "_law_tree"=some (some (.ref f34))) (l34:K.lookup f34=some ⟨oc34,od34,.func (W.fnOf "_law_tree" "_law_tree" (ag ci) (ae ci) (aa ci) .none kV34 dc34 pm34 an34 cd34 ct34),sl34⟩) (c34:W.codeIn K cd34 "_law_tree"=true) (k34:W.keepIn K (.ref f34)=true)
  (a35:W.nsIn K mainGlobals "_law_things"=some (some (.ref f35))) (l35:K.lookup f35=some ⟨oc35,od35,.func (W.fnOf "_law_things" "_law_things" (ag bq) (ae bq) (aa bq) .none kV35 dc35 pm35 an35 cd35 ct35),sl35⟩) (c35:W.codeIn K cd35 "_law_things"=true) (k35:W.keepIn K (.ref f35)=true)
  (a36:W.nsIn K mainGlobals "_law_sizes"=some (some (.ref f36))) (l36:K.lookup f36=some ⟨oc36,od36,.func (W.fnOf "_law_sizes" "_law_sizes" (ag bS) (ae bS) (aa bS) .none kV36 dc36 pm36 an36 cd36 ct36),sl36⟩) (c36:W.codeIn K cd36 "_law_sizes"=true) (k36:W.keepIn K (.ref f36)=true)
  (a37:W.nsIn K mainGlobals "_law_first"=some (some (.ref f37))) (l37:K.lookup f37=some ⟨oc37,od37,.func (W.fnOf "_law_first" "_law_first" (ag bW) (ae bW) (aa bW) .none kV37 dc37 pm37 an37 cd37 ct37),sl37⟩) (c37:W.codeIn K cd37 "_law_first"=true) (k37:W.keepIn K (.ref f37)=true)
  (a38:W.nsIn K mainGlobals "_law_last"=some (some (.ref f38))) (l38:K.lookup f38=some ⟨oc38,od38,.func (W.fnOf "_law_last" "_law_last" (ag cf) (ae cf) (aa cf) .none kV38 dc38 pm38 an38 cd38 ct38),sl38⟩) (c38:W.codeIn K cd38 "_law_last"=true) (k38:W.keepIn K (.ref f38)=true)
  (a39:W.nsIn K mainGlobals "_law_is_dealt"=some (some (.ref f39))) (l39:K.lookup f39=some ⟨oc39,od39,.func (W.fnOf "_law_is_dealt" "_law_is_dealt" (ag aW) (ae aW) (aa aW) .none kV39 dc39 pm39 an39 cd39 ct39),sl39⟩) (c39:W.codeIn K cd39 "_law_is_dealt"=true) (k39:W.keepIn K (.ref f39)=true)
  (a40:W.nsIn K mainGlobals "_law_is_short"=some (some (.ref f40))) (l40:K.lookup f40=some ⟨oc40,od40,.func (W.fnOf "_law_is_short" "_law_is_short" (ag aU) (ae aU) (aa aU) .none kV40 dc40 pm40 an40 cd40 ct40),sl40⟩) (c40:W.codeIn K cd40 "_law_is_short"=true) (k40:W.keepIn K (.ref f40)=true)
  (a41:W.nsIn K mainGlobals "law"=some (some (.ref f41))) (l41:K.lookup f41=some ⟨oc41,od41,.func (W.fnOf "law" "law" (ag cU) (ae cU) (aa cU) .none kV41 dc41 pm41 an41 cd41 ct41),sl41⟩) (c41:W.codeIn K cd41 "law"=true) (k41:W.keepIn K (.ref f41)=true)
  (y_len:W.nsIn K mainGlobals "len"=some none)
  (y_isinstance:W.nsIn K mainGlobals "isinstance"=some none)
  (y_range:W.nsIn K mainGlobals "range"=some none)
  (y_list:W.nsIn K mainGlobals "list"=some none)
  (y_sorted:W.nsIn K mainGlobals "sorted"=some none)
  (y_tuple:W.nsIn K mainGlobals "tuple"=some none)
  (y_dict:W.nsIn K mainGlobals "dict"=some none)
  (y_sum:W.nsIn K mainGlobals "sum"=some none)
  (y_int:W.nsIn K mainGlobals "int"=some none)
  (y_bool:W.nsIn K mainGlobals "bool"=some none)
  (y_all:W.nsIn K mainGlobals "all"=some none)
  (y_zip:W.nsIn K mainGlobals "zip"=some none)
  (y_min:W.nsIn K mainGlobals "min"=some none)
  {dt:Value} (y_MOST_ROOM:W.nsIn K mainGlobals "MOST_ROOM"=some (some dt)) (r_MOST_ROOM:RelV (.int 20) dt)
  {d8:Value} (y_DEEPEST:W.nsIn K mainGlobals "DEEPEST"=some (some d8)) (r_DEEPEST:RelV (.int 10) d8)
  (hcT0:W.codeHdIn K c_0 T0=true) (hgP0:mainGlobals≠T0)
  (hcT1:W.codeHdIn K c_1 T1=true) (hgP1:mainGlobals≠T1)
  (hne01:T0≠T1)
  :∃fd:FuncData,(∀(s:Shared) (v:Value),BindsTo s fd ⟨[v],[]⟩ [("_law_script",v)])∧∀base:Heap,K.In base→base.Ns mainGlobals mg→(∀U∈([(c_0,T0),(c_1,T1)]:List (Addr×Addr)).map (·.2),base.BuiltinsAt mg U)→FnOk l.prog w K mg base CX0 41 fa fd ["_law_script"] (ju K T0 T1):=by
 have e:=hfa.symm.trans (W.mg_of X G a41)
 cases e
 have F0:=Zm (st:=bJ) l0 c0 k0
 have b0:Binds K _ ["thing"] []:=F0.b1 fun _ _ _ _ _ _ _=>rfl
 have m0:=W.mg_of X G a0
 have F1:=Zm (st:=aC) l1 c1 k1
 have b1:Binds K _ ["thing","least"] []:=F1.b2 fun _ _ _ _ _ _ _ _=>rfl
 have m1:=W.mg_of X G a1
 have F2:=Zm (st:=ay) l2 c2 k2
 have b2:Binds K _ ["thing","least","most"] []:=F2.b3 fun _ _ _ _ _ _ _ _ _=>rfl
 have m2:=W.mg_of X G a2
 have F3:=Zm (st:=bx) l3 c3 k3
 have b3:Binds K _ ["parts"] []:=F3.b1 fun _ _ _ _ _ _ _=>rfl
 have m3:=W.mg_of X G a3
 have F4:=Zm (st:=bR) l4 c4 k4
 have b4:Binds K _ ["thing"] []:=F4.b1 fun _ _ _ _ _ _ _=>rfl
 have m4:=W.mg_of X G a4
 have F5:=Zm (st:=bF) l5 c5 k5
 have b5:Binds K _ ["thing","is_key"] []:=F5.b2 fun _ _ _ _ _ _ _ _=>rfl
 have m5:=W.mg_of X G a5
 have F6:=Zm (st:=aV) l6 c6 k6
 have b6:Binds K _ ["thing","is_key"] []:=F6.b2 fun _ _ _ _ _ _ _ _=>rfl
 have m6:=W.mg_of X G a6
 have F7:=Zm (st:=aI) l7 c7 k7
 have b7:Binds K _ ["one","other"] []:=F7.b2 fun _ _ _ _ _ _ _ _=>rfl
 have m7:=W.mg_of X G a7
 have F8:=Zm (st:=bH) l8 c8 k8
 have b8:Binds K _ ["stretch"] []:=F8.b1 fun _ _ _ _ _ _ _=>rfl
 have m8:=W.mg_of X G a8
 have F9:=Zm (st:=bQ) l9 c9 k9
 have b9:Binds K _ ["stretch"] []:=F9.b1 fun _ _ _ _ _ _ _=>rfl
 have m9:=W.mg_of X G a9
 have F10:=Zm (st:=bw) l10 c10 k10
 have b10:Binds K _ ["stretch"] []:=F10.b1 fun _ _ _ _ _ _ _=>rfl
 have m10:=W.mg_of X G a10
 have F11:=Zm (st:=bU) l11 c11 k11
 have b11:Binds K _ ["stretch"] []:=F11.b1 fun _ _ _ _ _ _ _=>rfl
 have m11:=W.mg_of X G a11
 have F12:=Zm (st:=aY) l12 c12 k12
 have b12:Binds K _ ["thing","deep"] []:=F12.b2 fun _ _ _ _ _ _ _ _=>rfl
 have m12:=W.mg_of X G a12
 have F13:=Zm (st:=b_) l13 c13 k13
 have b13:Binds K _ ["ladder"] []:=F13.b1 fun _ _ _ _ _ _ _=>rfl
 have m13:=W.mg_of X G a13
 have F14:=Zm (st:=aQ) l14 c14 k14
 have b14:Binds K _ ["counts","stretch"] []:=F14.b2 fun _ _ _ _ _ _ _ _=>rfl
 have m14:=W.mg_of X G a14
 have F15:=Zm (st:=aB) l15 c15 k15
 have b15:Binds K _ ["deep","bar","counts"] []:=F15.b3 fun _ _ _ _ _ _ _ _ _=>rfl
 have m15:=W.mg_of X G a15
 have F16:=Zm (st:=bT) l16 c16 k16
 have b16:Binds K _ ["counts","stretch","many"] []:=F16.b3 fun _ _ _ _ _ _ _ _ _=>rfl
 have m16:=W.mg_of X G a16
 have F17:=Zm (st:=aP) l17 c17 k17
 have b17:Binds K _ ["ladder"] []:=F17.b1 fun _ _ _ _ _ _ _=>rfl
 have m17:=W.mg_of X G a17
 have F18:=Zm (st:=bV) l18 c18 k18
 have b18:Binds K _ ["ladder"] []:=F18.b1 fun _ _ _ _ _ _ _=>rfl
 have m18:=W.mg_of X G a18
 have F19:=Zm (st:=aX) l19 c19 k19
 have b19:Binds K _ ["ladder"] []:=F19.b1 fun _ _ _ _ _ _ _=>rfl
 have m19:=W.mg_of X G a19
 have F20:=Zm (st:=bI) l20 c20 k20
 have b20:Binds K _ ["tree"] []:=F20.b1 fun _ _ _ _ _ _ _=>rfl
 have m20:=W.mg_of X G a20
 have F21:=Zm (st:=cJ) l21 c21 k21
 have b21:Binds K _ ["tree","of_stream","of_two"] []:=F21.b3 fun _ _ _ _ _ _ _ _ _=>rfl
 have m21:=W.mg_of X G a21
 have F22:=Zm (st:=aH) l22 c22 k22
 have b22:Binds K _ ["room","deep"] []:=F22.b2 fun _ _ _ _ _ _ _ _=>rfl
 have m22:=W.mg_of X G a22
 have F23:=Zm (st:=aJ) l23 c23 k23
 have b23:Binds K _ ["room","deep","thing"] []:=F23.b3 fun _ _ _ _ _ _ _ _ _=>rfl
 have m23:=W.mg_of X G a23
 have F24:=Zm (st:=aL) l24 c24 k24
 have b24:Binds K _ ["one","other"] []:=F24.b2 fun _ _ _ _ _ _ _ _=>rfl
 have m24:=W.mg_of X G a24
 have F25:=Zm (st:=az) l25 c25 k25
 have b25:Binds K _ ["one","other"] []:=F25.b2 fun _ _ _ _ _ _ _ _=>rfl
 have m25:=W.mg_of X G a25
 have F26:=Zm (st:=bA) l26 c26 k26
 have b26:Binds K _ ["room","deep","stream"] []:=F26.b3 fun _ _ _ _ _ _ _ _ _=>rfl
 have m26:=W.mg_of X G a26
 have F27:=Zm (st:=ah) l27 c27 k27
 have b27:Binds K _ ["room","deep","tree"] []:=F27.b3 fun _ _ _ _ _ _ _ _ _=>rfl
 have m27:=W.mg_of X G a27
 have F28:=Zm (st:=ad) l28 c28 k28
 have b28:Binds K _ ["thing"] []:=F28.b1 fun _ _ _ _ _ _ _=>rfl
 have m28:=W.mg_of X G a28
 have F29:=Zm (st:=bt) l29 c29 k29
 have b29:Binds K _ ["thing"] []:=F29.b1 fun _ _ _ _ _ _ _=>rfl
 have m29:=W.mg_of X G a29
 have F30:=Zm (st:=cI) l30 c30 k30
 have b30:Binds K _ ["_law_script"] []:=F30.b1 fun _ _ _ _ _ _ _=>rfl
 have m30:=W.mg_of X G a30
 have F31:=Zm (st:=cg) l31 c31 k31
 have b31:Binds K _ ["_law_pen_here","_law_most"] []:=F31.b2 fun _ _ _ _ _ _ _ _=>rfl
 have m31:=W.mg_of X G a31
 have F32:=Zm (st:=ce) l32 c32 k32
 have b32:Binds K _ ["_law_pen_here"] []:=F32.b1 fun _ _ _ _ _ _ _=>rfl
 have m32:=W.mg_of X G a32
 have F33:=Zm (st:=bG) l33 c33 k33
 have b33:Binds K _ ["_law_pen_here","_law_deep","_law_most"] []:=F33.b3 fun _ _ _ _ _ _ _ _ _=>rfl
 have m33:=W.mg_of X G a33
 have F34:=Zm (st:=ci) l34 c34 k34
 have b34:Binds K _ ["_law_pen_here","_law_deep","_law_most"] []:=F34.b3 fun _ _ _ _ _ _ _ _ _=>rfl
 have m34:=W.mg_of X G a34
 have F35:=Zm (st:=bq) l35 c35 k35
 have b35:Binds K _ ["_law_tree_here"] []:=F35.b1 fun _ _ _ _ _ _ _=>rfl
 have m35:=W.mg_of X G a35
 have F36:=Zm (st:=bS) l36 c36 k36
 have b36:Binds K _ ["_law_pen_here"] []:=F36.b1 fun _ _ _ _ _ _ _=>rfl
 have m36:=W.mg_of X G a36
 have F37:=Zm (st:=bW) l37 c37 k37
 have b37:Binds K _ ["_law_stretch"] []:=F37.b1 fun _ _ _ _ _ _ _=>rfl
 have m37:=W.mg_of X G a37
 have F38:=Zm (st:=cf) l38 c38 k38
 have b38:Binds K _ ["_law_stretch"] []:=F38.b1 fun _ _ _ _ _ _ _=>rfl
 have m38:=W.mg_of X G a38
 have F39:=Zm (st:=aW) l39 c39 k39
 have b39:Binds K _ ["_law_stream_here","_law_now","_law_deep"] []:=F39.b3 fun _ _ _ _ _ _ _ _ _=>rfl
 have m39:=W.mg_of X G a39
 have F40:=Zm (st:=aU) l40 c40 k40
 have b40:Binds K _ ["_law_found","_law_room","_law_deep","_law_things_here"] []:=F40.b4 fun _ _ _ _ _ _ _ _ _ _=>rfl
 have m40:=W.mg_of X G a40
 have F41:=Zm (st:=cU) l41 c41 k41
 have aF:=W.mg_none_of X G y_len
 have af:=W.mg_none_of X G y_isinstance
 have bO:=W.mg_none_of X G y_range
 have bE:=W.mg_none_of X G y_list
 have aw:=W.mg_none_of X G y_sorted
 have aA:=W.mg_none_of X G y_tuple
 have bL:=W.mg_none_of X G y_dict
 have cA:=W.mg_none_of X G y_sum
 have d7:=W.mg_none_of X G y_int
 have de:=W.mg_none_of X G y_bool
 have cX:=W.mg_none_of X G y_all
 have lW:=W.mg_none_of X G y_zip
 have nA:=W.mg_none_of X G y_min
 have eG:=W.mg_of X G y_MOST_ROOM
 have kK:=W.mg_of X G y_DEEPEST
 refine ⟨W.fnOf "law" "law" (ag cU) (ae cU) (aa cU) .none kV41 dc41 pm41 an41 cd41 ct41,fun s v=>.of_eq rfl,fun base kb nb hBt=>?_⟩
 have uf:=Has.of (sn (P:=l.prog) (w:=w) (mg:=mg) (base:=base) F30) b30 F30.kp m30
 have ee:=Has.of (p8 (P:=l.prog) (w:=w) (mg:=mg) (base:=base) aF F31) b31 F31.kp m31
 have sQ:=Has.of (pA ee F32) b32 F32.kp m32
 have pN:=Has.of (nF ee F36) b36 F36.kp m36
 have nJ:=Has.of (tX bO aF ee sQ F33) b33 F33.kp m33
 have sR:=Has.of (vj bO aF ee nJ F34) b34 F34.kp m34
 have mD:=mB (P:=l.prog) (w:=w) (mg:=mg) (base:=base) af bE F35 b35 m35 40
 have H_set:∀base:Heap,K.In base→base.Ns mainGlobals mg→Has l.prog w K mg base "settled" 5 ["ladder"] i6:=fun base _ _=>(Has.of (rW (Has.of (sI bL aw aA (Has.of (lI (base:=base) F13) b13 F13.kp m13) (Has.of (rf aw (Has.of (N7 (Has.of (O3 (base:=base) F11) b11 F11.kp m11) (Has.of (S7 (base:=base) F10) b10 F10.kp m10) F14) b14 F14.kp m14) F15) b15 F15.kp m15) (Has.of (O3 (base:=base) F11) b11 F11.kp m11) (Has.of (oK (Has.of (S7 (base:=base) F10) b10 F10.kp m10) F16) b16 F16.kp m16) F17) b17 F17.kp m17) F18) b18 F18.kp m18)
 have H_ml:∀base:Heap,K.In base→base.Ns mainGlobals mg→Has l.prog w K mg base "merged_ladder" 6 ["one","other"] jI:=fun base kb nb=>(Has.of (uH (Has.of (uZ aw aA (Has.of (uR (base:=base) bL F7) b7 F7.kp m7) F24) b24 F24.kp m24) (H_set base kb nb) F25) b25 F25.kp m25)
 have H_lo:∀base:Heap,K.In base→base.Ns mainGlobals mg→Has l.prog w K mg base "ladder_of" 7 ["room","deep","stream"] sq:=fun base kb nb=>(Has.of (vm (Has.of (uI (base:=base) F22) b22 F22.kp m22) (H_ml base kb nb) (H_set base kb nb) (Has.of (vQ (Has.of (h_ (Has.of (N8 (base:=base) F8) b8 F8.kp m8) F9) b9 F9.kp m9) F23) b23 F23.kp m23) F26) b26 F26.kp m26)
 have H_gr:HasB l.prog w K mg "grown" 9 ["tree","of_stream","of_two"] (d_ l.prog w K mg 8):=⟨_,_,fun base _ _=>lR (k:=8) (by decide) (Has.of (ni (base:=base) af bE aF F20) b20 F20.kp m20) F21,b21,F21.kp,m21⟩
 have h_gl:=Has.of (vw (T:=T0) l27 c27 (W.codeHd_of_K kb hcT0) hgP0 (hBt T0 (.head _)) H_gr H_lo H_ml m25 F25) b27 F27.kp m27
 have qP:Has l.prog w K mg base "is_whole" 1 ["thing"] cH:=(Has.of (W9 (base:=base) af d7 de F0) b0 F0.kp m0)
 have eP:Has l.prog w K mg base "is_whole_within" 3 ["thing","least","most"] oA:=(Has.of (Xx (Has.of (Xa (Has.of (W9 (base:=base) af d7 de F0) b0 F0.kp m0) F1) b1 F1.kp m1) F2) b2 F2.kp m2)
 have t8:=Has.of (sG eP ⟨_,eG,r_MOST_ROOM⟩ F4) b4 F4.kp m4
 have H_isS:∀base:Heap,K.In base→base.Ns mainGlobals mg→Has l.prog w K mg base "is_stretch" 4 ["thing","deep"] lX:=fun base _ _=>(Has.of (sM af aA aF (Has.of (Xx (Has.of (Xa (Has.of (W9 (base:=base) af d7 de F0) b0 F0.kp m0) F1) b1 F1.kp m1) F2) b2 F2.kp m2) (Has.of (h_ (Has.of (N8 (base:=base) F8) b8 F8.kp m8) F9) b9 F9.kp m9) F12) b12 F12.kp m12)
 have H_are:HasB l.prog w K mg "are_counts" 7 ["thing","is_key"] (gA l.prog w K mg):=⟨_,_,fun base _ _=>pY af aA cX (Has.of (pU af aA aF (Has.of (Xa (Has.of (W9 (base:=base) af d7 de F0) b0 F0.kp m0) F1) b1 F1.kp m1) F5) b5 F5.kp m5) (Has.of (r_ (base:=base) cX lW F3) b3 F3.kp m3) F6,b6,F6.kp,m6⟩
 have rT:=Has.of (nQ (T:=T1) l28 c28 (W.codeHd_of_K kb hcT1) hgP1 (hBt T1 (.tail _ (.head _))) af aA aF cA ⟨_,kK,r_DEEPEST⟩ qP eP t8 H_are H_isS) b28 F28.kp m28
 have qZ:Has l.prog w K mg base "bar_of" 1 ["ladder"] eR:=(Has.of (lI (base:=base) F13) b13 F13.kp m13)
 have h_ff:Has l.prog w K mg base "first_folding" 3 ["deep","bar","counts"] qm:=(Has.of (rf aw (Has.of (N7 (Has.of (O3 (base:=base) F11) b11 F11.kp m11) (Has.of (S7 (base:=base) F10) b10 F10.kp m10) F14) b14 F14.kp m14) F15) b15 F15.kp m15)
 have tQ:=Has.of (qG bL h_ff qZ F19) b19 F19.kp m19
 have uT:=Has.of (sT cX rT tQ qZ F29) b29 F29.kp m29
 have vM:=Has.of (uo (P:=l.prog) (w:=w) (mg:=mg) (base:=base) bO F37) b37 F37.kp m37
 have h_ll:=Has.of (vH vM F38) b38 F38.kp m38
 have uy:=Has.of (sY aw nA cA bE vM h_ll F39) b39 F39.kp m39
 have pQ:=Has.of (mR cA bL aw aF uT uy F40) b40 F40.kp m40
 exact sW hne01 uf pN sR mD h_gl (H_ml base kb nb) pQ F41
theorem walk {l:W.OpenLaw} {q:Program} {loose:List Str} {XP:(Str→Option Value)→Heap→Prop} {YP:World→Heap→Prop} {d:DefRec} {K:Params→W.Frag} {c_0 T0 c_1 T1:Addr} (hn:l.most=some 63) (hdf:d.params.defaults=[])
  (hY:∀(w:World) (h:Heap),YP w h→(K w.params).In h)
  (hT:∀(w:World) (mg mb:Str→Option Value) (loose':List Str) (mean:ExcName→Option Value) (h:Heap),PyProof.Rows.Top q loose' mean mg mb h→(K w.params).In h→W.TabsAt [(c_0,T0),(c_1,T1)] h) (hKT0:∀(w:World),(K w.params).lookup T0=none) (hKT1:∀(w:World),(K w.params).lookup T1=none)
  (F:∀(w:World) (mg:Str→Option Value) (fa:Addr) (h:Heap),(K w.params).In h→h.Ns mainGlobals mg→mg d.name=some (.ref fa)→
   ∃fd:FuncData,(∀(s:Shared) (u:Value),BindsTo s fd ⟨[u],[]⟩ [("_law_script",u)])∧∀base:Heap,(K w.params).In base→base.Ns mainGlobals mg→(∀U∈([(c_0,T0),(c_1,T1)]:List (Addr×Addr)).map (·.2),base.BuiltinsAt mg U)→FnOk l.prog w (K w.params) mg base CX0 41 fa fd ["_law_script"] (ju (K w.params) T0 T1)):
  W.WalkO q loose XP YP l.row.toRowW d [] (fun f vs=>PySem.call f vs):=
 L2.walk_T (n:=63) (k:=41) (x:="_law_script") (tabs:=[(c_0,T0),(c_1,T1)]) (sp:=fun w=>ju (K w.params) T0 T1) hn (by decide) hdf ⟨rfl,by decide,by decide⟩ hY hT (fun w U h=>by
  have h:U∈[T0,T1]:=h
  simp only [List.mem_cons,List.not_mem_nil,or_false] at h
  rcases h with h | h
  ·rw [h];exact hKT0 w
  ·rw [h];exact hKT1 w
  ) F (fun _ _ a ns hl hS hTT=>⟨a,ns,rfl,hS,hl,⟨.inl (hTT T0 (.head _))⟩,⟨.inl (hTT T1 (.tail _ (.head _)))⟩,fun _=>rfl⟩)
end K26
def PySem.W.Fast.tw15455040971306388375:PySem.Program:=PySem.Challenge.pw_sumshare_k26_whole_ladders_stay_short
theorem PySem.W.Fast.te15455040971306388375:PySem.Challenge.pw_sumshare_k26_whole_ladders_stay_short=PySem.W.Fast.tw15455040971306388375:=rfl
def K26.qv:PySem.Program:=PySem.W.view PySem.Challenge.pw_sumshare_k26_whole_ladders_stay_short [1,2,3,5,6,7,8,9,10,11,12,13,15,16,17,18,19,21,22,23,24,25,26,27,29,30,32,33,34,35,36,37,38,39,40,42,43,44,45,46,47,48,49,50,51,52,53,54]
open PySem PySem.W PyProof.Rows
local macro_rules | `(tactic| o_head $H)=>`(tactic| (refine holds_open (q:=K26.qv) (loose:=[]) (Xt:=fun s=>xlAt K26.qv [] s && recOk [] s) (XP:=XL K26.qv []) (Yf:=Hook.obs $H) (Ya:=Hook.val $H) (YP:=Hook.says $H) (N:=1000000) ?hl (Hook.of $H) (Hook.keeps $H) (fun s e=>xl_of s (Bool.and_eq_true_iff.mp e).1) XL.keeps (by rfl) (by rfl) (by rfl) (fun s e=>recFacts_of (Bool.and_eq_true_iff.mp e).2) (by rfl) (by first | assumption | decide +kernel) (by decide +kernel) ⟨rfl,rfl,rfl,rfl,rfl,by decide +kernel⟩ ?hw ?hc;(case hl=>exact Hd.leftM (p:=PySem.Challenge.pw_sumshare_k26_whole_ladders_stay_short) rfl (fun _=>rfl) (fun w os=>by kernel_rfl) (fun w os=>by kernel_rfl) rfl fun w os=>by kernel_rfl)))
set_option maxRecDepth 100000 in
set_option maxHeartbeats 0 in
theorem PySem.Challenge.cw_sumshare_k26_whole_ladders_stay_short_holds : PySem.Challenge.rw_sumshare_k26_whole_ladders_stay_short.Holds := by
 w_on;o_law;k_head;(case hw=>w_witness2)
 k_fill
 refine K26.walk (l:=PySem.Challenge.rw_sumshare_k26_whole_ladders_stay_short) (c_0:=242) (T0:=238) (c_1:=247) (T1:=245) rfl rfl (fun w h Y=>PySem.W.km_in_of Y) (fun w mg mb lo mean h TT X=>List.forall_mem_cons.mpr ⟨PySem.W.tab_of (x:=PySem.Str.ofString "grown_ladder") (c:=242) (P:=238) TT X rfl (by kernel_rfl),List.forall_mem_cons.mpr ⟨PySem.W.tab_of (x:=PySem.Str.ofString "is_made_as_ladder") (c:=247) (P:=245) TT X rfl (by kernel_rfl),fun _ h=>nomatch h⟩⟩) (fun w=>by kernel_rfl) (fun w=>by kernel_rfl) ?F
 case F=>
  intro w mg fa h KX G hmg
  refine' K26.all_mk (c_0:=242) (T0:=238) (c_1:=247) (T1:=245) KX G hmg ?a0 ?l0 ?c0 ?k0 ?a1 ?l1 ?c1 ?k1 ?a2 ?l2 ?c2 ?k2 ?a3 ?l3 ?c3 ?k3 ?a4 ?l4 ?c4 ?k4 ?a5 ?l5 ?c5 ?k5 ?a6 ?l6 ?c6 ?k6 ?a7 ?l7 ?c7 ?k7 ?a8 ?l8 ?c8 ?k8 ?a9 ?l9 ?c9 ?k9 ?a10 ?l10 ?c10 ?k10 ?a11 ?l11 ?c11 ?k11 ?a12 ?l12 ?c12 ?k12 ?a13 ?l13 ?c13 ?k13 ?a14 ?l14 ?c14 ?k14 ?a15 ?l15 ?c15 ?k15 ?a16 ?l16 ?c16 ?k16 ?a17 ?l17 ?c17 ?k17 ?a18 ?l18 ?c18 ?k18 ?a19 ?l19 ?c19 ?k19 ?a20 ?l20 ?c20 ?k20 ?a21 ?l21 ?c21 ?k21 ?a22 ?l22 ?c22 ?k22 ?a23 ?l23 ?c23 ?k23 ?a24 ?l24 ?c24 ?k24 ?a25 ?l25 ?c25 ?k25 ?a26 ?l26 ?c26 ?k26 ?a27 ?l27 ?c27 ?k27 ?a28 ?l28 ?c28 ?k28 ?a29 ?l29 ?c29 ?k29 ?a30 ?l30 ?c30 ?k30 ?a31 ?l31 ?c31 ?k31 ?a32 ?l32 ?c32 ?k32 ?a33 ?l33 ?c33 ?k33 ?a34 ?l34 ?c34 ?k34 ?a35 ?l35 ?c35 ?k35 ?a36 ?l36 ?c36 ?k36 ?a37 ?l37 ?c37 ?k37 ?a38 ?l38 ?c38 ?k38 ?a39 ?l39 ?c39 ?k39 ?a40 ?l40 ?c40 ?k40 ?a41 ?l41 ?c41 ?k41 ?y_len ?y_isinstance ?y_range ?y_list ?y_sorted ?y_tuple ?y_dict ?y_sum ?y_int ?y_bool ?y_all ?y_zip ?y_min ?y_MOST_ROOM ?r_MOST_ROOM ?y_DEEPEST ?r_DEEPEST ?hcT0 ?hgP0 ?hcT1 ?hgP1 ?hne01
  (case a0=>k_is);(case l0=>k_is);(case c0=>k_is);(case k0=>k_is)
  (case a1=>k_is);(case l1=>k_is);(case c1=>k_is);(case k1=>k_is)
  (case a2=>k_is);(case l2=>k_is);(case c2=>k_is);(case k2=>k_is)
  (case a3=>k_is);(case l3=>k_is);(case c3=>k_is);(case k3=>k_is)
  (case a4=>k_is);(case l4=>k_is);(case c4=>k_is);(case k4=>k_is)
  (case a5=>k_is);(case l5=>k_is);(case c5=>k_is);(case k5=>k_is)
  (case a6=>k_is);(case l6=>k_is);(case c6=>k_is);(case k6=>k_is)
  (case a7=>k_is);(case l7=>k_is);(case c7=>k_is);(case k7=>k_is)
  (case a8=>k_is);(case l8=>k_is);(case c8=>k_is);(case k8=>k_is)
  (case a9=>k_is);(case l9=>k_is);(case c9=>k_is);(case k9=>k_is)
  (case a10=>k_is);(case l10=>k_is);(case c10=>k_is);(case k10=>k_is)
  (case a11=>k_is);(case l11=>k_is);(case c11=>k_is);(case k11=>k_is)
  (case a12=>k_is);(case l12=>k_is);(case c12=>k_is);(case k12=>k_is)
  (case a13=>k_is);(case l13=>k_is);(case c13=>k_is);(case k13=>k_is)
  (case a14=>k_is);(case l14=>k_is);(case c14=>k_is);(case k14=>k_is)
  (case a15=>k_is);(case l15=>k_is);(case c15=>k_is);(case k15=>k_is)
  (case a16=>k_is);(case l16=>k_is);(case c16=>k_is);(case k16=>k_is)
  (case a17=>k_is);(case l17=>k_is);(case c17=>k_is);(case k17=>k_is)
  (case a18=>k_is);(case l18=>k_is);(case c18=>k_is);(case k18=>k_is)
  (case a19=>k_is);(case l19=>k_is);(case c19=>k_is);(case k19=>k_is)
  (case a20=>k_is);(case l20=>k_is);(case c20=>k_is);(case k20=>k_is)
  (case a21=>k_is);(case l21=>k_is);(case c21=>k_is);(case k21=>k_is)
  (case a22=>k_is);(case l22=>k_is);(case c22=>k_is);(case k22=>k_is)
  (case a23=>k_is);(case l23=>k_is);(case c23=>k_is);(case k23=>k_is)
  (case a24=>k_is);(case l24=>k_is);(case c24=>k_is);(case k24=>k_is)
  (case a25=>k_is);(case l25=>k_is);(case c25=>k_is);(case k25=>k_is)
  (case a26=>k_is);(case l26=>k_is);(case c26=>k_is);(case k26=>k_is)
  (case a27=>k_is);(case l27=>k_is);(case c27=>k_is);(case k27=>k_is)
  (case a28=>k_is);(case l28=>k_is);(case c28=>k_is);(case k28=>k_is)
  (case a29=>k_is);(case l29=>k_is);(case c29=>k_is);(case k29=>k_is)
  (case a30=>k_is);(case l30=>k_is);(case c30=>k_is);(case k30=>k_is)
  (case a31=>k_is);(case l31=>k_is);(case c31=>k_is);(case k31=>k_is)
  (case a32=>k_is);(case l32=>k_is);(case c32=>k_is);(case k32=>k_is)
  (case a33=>k_is);(case l33=>k_is);(case c33=>k_is);(case k33=>k_is)
  (case a34=>k_is);(case l34=>k_is);(case c34=>k_is);(case k34=>k_is)
  (case a35=>k_is);(case l35=>k_is);(case c35=>k_is);(case k35=>k_is)
  (case a36=>k_is);(case l36=>k_is);(case c36=>k_is);(case k36=>k_is)
  (case a37=>k_is);(case l37=>k_is);(case c37=>k_is);(case k37=>k_is)
  (case a38=>k_is);(case l38=>k_is);(case c38=>k_is);(case k38=>k_is)
  (case a39=>k_is);(case l39=>k_is);(case c39=>k_is);(case k39=>k_is)
  (case a40=>k_is);(case l40=>k_is);(case c40=>k_is);(case k40=>k_is)
  (case a41=>k_is);(case l41=>k_is);(case c41=>k_is);(case k41=>k_is)
  (case y_len=>k_is)
  (case y_isinstance=>k_is)
  (case y_range=>k_is)
  (case y_list=>k_is)
  (case y_sorted=>k_is)
  (case y_tuple=>k_is)
  (case y_dict=>k_is)
  (case y_sum=>k_is)
  (case y_int=>k_is)
  (case y_bool=>k_is)
  (case y_all=>k_is)
  (case y_zip=>k_is)
  (case y_min=>k_is)
  (case y_MOST_ROOM=>k_is)
  (case r_MOST_ROOM=>exact ⟨_,rfl⟩)
  (case y_DEEPEST=>k_is)
  (case r_DEEPEST=>exact ⟨_,rfl⟩)
  (case hcT0=>kernel_rfl);(case hgP0=>decide)
  (case hcT1=>kernel_rfl);(case hgP1=>decide)
  (case hne01=>decide)
