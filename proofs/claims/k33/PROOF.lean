import PyProof.Rows.All
import Wide.All
import OpenK.AllK
import Wide.FinOn
import Lean
import PyProof.EqAt
import PyProof.EqKinds
import PyProof.TupleCall
import PySem.Challenge.RW_sumshare_k33_folds_looked_at
set_option Elab.async false
set_option linter.all false
set_option maxRecDepth 100000
namespace L2
open PySem PySem.Spec PyProof.Rows
noncomputable abbrev Key:=Sum Int Str
noncomputable def keyIs:Key→Value→Bool
 | .inl k,v=>Value.isInt k v
 | .inr x,v=>Value.isStrOf x v
noncomputable def keyH (w:World):Key→Int
 | .inl k=>hashInt k
 | .inr x=>hashStr w x
theorem keyIs_shape:∀{k:Key} {v:Value},keyIs k v=true→(∃i t,k=Sum.inl i∧v=Value.int i t)∨(∃x t,k=Sum.inr x∧v=Value.str x t)
 | .inl i,v,h=>by
  obtain ⟨t,e⟩:=Value.isInt_shape (k:=i) (v:=v) h
  exact .inl ⟨i,t,rfl,e⟩
 | .inr x,v,h=>by
  obtain ⟨t,e⟩:=Value.isStrOf_shape (x:=x) (v:=v) h
  exact .inr ⟨x,t,rfl,e⟩
theorem keyIs_int (i:Int) (t:Tok):keyIs (.inl i) (.int i t)=true:=by simp [keyIs,Value.isInt]
theorem keyIs_str (x:Str) (t:Tok):keyIs (.inr x) (.str x t)=true:=by simp [keyIs,Value.isStrOf]
theorem key_ll (a b:Int):decide ((Sum.inl a:Key)=Sum.inl b)=(a == b):=by
 by_cases e:a=b
 ·subst e;simp
 ·have h:¬(Sum.inl a:Key)=Sum.inl b:=fun q=>e (Sum.inl.inj q)
  rw [decide_eq_false h]
  exact (beq_eq_false_iff_ne.mpr e).symm
theorem key_rr (a b:Str):decide ((Sum.inr a:Key)=Sum.inr b)=decide (a=b):=by
 by_cases e:a=b
 ·subst e;simp
 ·have h:¬(Sum.inr a:Key)=Sum.inr b:=fun q=>e (Sum.inr.inj q)
  rw [decide_eq_false h,decide_eq_false e]
theorem key_lr (a:Int) (b:Str):decide ((Sum.inl a:Key)=Sum.inr b)=false:=decide_eq_false (fun q=>nomatch q)
theorem key_rl (a:Str) (b:Int):decide ((Sum.inr a:Key)=Sum.inl b)=false:=decide_eq_false (fun q=>nomatch q)
noncomputable def mixKind (prog:Program) (w:World):PySem.KeyKind prog w Key where
 is:=keyIs
 hash:=keyH w
 inj:=fun v a b ha hb=>by
  rcases keyIs_shape ha with ⟨i,t,rfl,rfl⟩ | ⟨x,t,rfl,rfl⟩
  ·rcases keyIs_shape hb with ⟨j,u,rfl,e⟩ | ⟨y,u,rfl,e⟩
   ·injection e with e1 _;rw [e1]
   ·exact nomatch e
  ·rcases keyIs_shape hb with ⟨j,u,rfl,e⟩ | ⟨y,u,rfl,e⟩
   ·exact nomatch e
   ·injection e with e1 _;rw [e1]
 byValue:=fun k v h=>by
  rcases keyIs_shape h with ⟨i,t,rfl,rfl⟩ | ⟨x,t,rfl,rfl⟩ <;> rfl
 pyHash:=fun hv h=>by
  rcases keyIs_shape hv with ⟨i,t,rfl,rfl⟩ | ⟨x,t,rfl,rfl⟩
  ·exact wpAny_pyHash_int h
  ·exact wpAny_pyHash_str h
 eqBool:=fun hu hv h=>by
  rcases keyIs_shape hu with ⟨i,t,rfl,rfl⟩ | ⟨x,t,rfl,rfl⟩
  ·rcases keyIs_shape hv with ⟨j,u,rfl,rfl⟩ | ⟨y,u,rfl,rfl⟩
   ·rw [key_ll] at h;exact wpAny_eqBool_int h
   ·rw [key_lr] at h;exact SeqAt.EqAt.int_str i t y u _ _ _ _ h
  ·rcases keyIs_shape hv with ⟨j,u,rfl,rfl⟩ | ⟨y,u,rfl,rfl⟩
   ·rw [key_rl] at h;exact SeqAt.EqAt.str_int x t j u _ _ _ _ h
   ·rw [key_rr] at h;exact wpAny_eqBool_str h
 «strs»:=fun k x t v h=>by
  rcases keyIs_shape h with ⟨i,u,rfl,e⟩ | ⟨y,u,rfl,e⟩
  ·exact nomatch e
  ·injection e with e1 _
   subst e1
   cases v <;> rfl
theorem mixKind_int (prog:Program) (w:World) (i:Int) (t:Tok):(mixKind prog w).is (.inl i) (.int i t)=true:=keyIs_int i t
theorem mixKind_str (prog:Program) (w:World) (x:Str) (t:Tok):(mixKind prog w).is (.inr x) (.str x t)=true:=keyIs_str x t
inductive V where
 | non | bl (b:Bool) | int (i:Int) | str (x:Str) | byt (b:Array UInt8) | flt (b:UInt64) | ref (a:Addr) | ty (n:String)
 deriving DecidableEq
noncomputable def RelV:V→Value→Prop
 | .non,u=>u=Value.none
 | .bl b,u=>u=Value.bool b
 | .int i,u=>∃t,u=Value.int i t
 | .str x,u=>∃t,u=Value.str x t
 | .byt b,u=>∃t,u=Value.bytes b t
 | .flt b,u=>∃t,u=Value.float b t
 | .ref a,u=>u=Value.ref a
 | .ty n,u=>u=Value.type n
noncomputable abbrev Vals:List V→List Value→Prop:=Paired RelV
theorem Vals.length {xs:List V} {us:List Value} (r:Vals xs us):xs.length=us.length:=Paired.length r
theorem Vals.get:∀{xs:List V} {us:List Value} {i:Nat} {x:V},Vals xs us→xs[i]?=some x→∃u,us[i]?=some u∧RelV x u
 | _,_,_,_,.nil,e=>by simp at e
 | _,_,0,_,.cons r _,e=>by simp at e;subst e;exact ⟨_,rfl,r⟩
 | _,_,i+1,x,.cons _ t,e=>by
  obtain ⟨u,h1,h2⟩:=Vals.get (i:=i) (x:=x) t (by simpa using e)
  exact ⟨u,by simpa using h1,h2⟩
theorem Vals.set {x:V} {u:Value} (r:RelV x u):∀{xs:List V} {us:List Value} (i:Nat),Vals xs us→Vals (xs.set i x) (us.set i u)
 | _,_,_,.nil=>.nil
 | _,_,0,.cons _ t=>.cons r t
 | _,_,i+1,.cons q t=>.cons q (Vals.set r i t)
theorem Vals.append {xs ys:List V} {us ws:List Value} (h:Vals xs us) (s:Vals ys ws):Vals (xs++ys) (us++ws):=by
 induction h with
 | nil=>exact s
 | cons r t ih=>exact .cons r ih
theorem Vals.take:∀{xs:List V} {us:List Value} (n:Nat),Vals xs us→Vals (xs.take n) (us.take n)
 | _,_,0,_=>.nil
 | _,_,_+1,.nil=>.nil
 | _,_,n+1,.cons r t=>.cons r (Vals.take n t)
theorem Vals.drop:∀{xs:List V} {us:List Value} (n:Nat),Vals xs us→Vals (xs.drop n) (us.drop n)
 | _,_,0,r=>r
 | _,_,_+1,.nil=>.nil
 | _,_,n+1,.cons _ t=>Vals.drop n t
noncomputable def RelO:Option V→Option Value→Prop
 | some v,some u=>RelV v u
 | none,none=>True
 | _,_=>False
noncomputable def KV {κ:Type}:List (κ×V)→List (κ×Value)→Prop:=Paired fun (p:κ×V) (q:κ×Value)=>p.1=q.1∧RelV p.2 q.2
noncomputable def kV:Key→V
 | .inl i=>.int i
 | .inr x=>.str x
inductive HO where
 | lst (xs:List V)
 | tup (xs:List V)
 | dK (kvs:List (Key×V)) | dT (kvs:List (List Key×V))
 | set (S:Int→Bool) (n:Nat)
 | ins (C dx:Addr) (fs:List (Str×V))
 | own (x:Addr)
 | xd (fs:List (Str×V))
 | met (f x:Addr)
 | rng (lo hi:Int)
 | frz (o:Obj) (u:HO)
 | tbl (ps:Array Value)
 | ext (φ:Heap→Prop)
noncomputable abbrev Hp:=Addr→Option HO
noncomputable def upd (H:Hp) (a:Addr) (o:HO):Hp:=fun b=>if b=a then some o else H b
theorem upd_same {H:Hp} {a:Addr} {o:HO}:upd H a o a=some o:=by unfold upd;rw [if_pos rfl]
theorem upd_ne {H:Hp} {a b:Addr} {o:HO} (h:b≠a):upd H a o b=H b:=by unfold upd;rw [if_neg h]
theorem upd_upd {H:Hp} {a:Addr} {o u:HO}:upd (upd H a o) a u=upd H a u:=by
 funext b;unfold upd;split <;> rfl
theorem ne_of {H:Hp} {a b:Addr} {o u:HO} (h:H a=some o) (h':H b=some u) (d:o≠u):a≠b:=by
 intro e;subst e;rw [h] at h';exact d (Option.some.inj h')
theorem ne_of_none {H:Hp} {a b:Addr} {o:HO} (h:H a=some o) (h':H b=none):a≠b:=by
 intro e;subst e;rw [h] at h';cases h'
noncomputable def TupN (h:Heap) (a:Addr) (items:Array Value):Prop:=∃o,h.get? a=some o∧(o.cls=.type "tuple"∧o.dict=none)∧∃n,o.data=.seq items n
theorem TupN.tup {h:Heap} {a:Addr} {items:Array Value} (x:TupN h a items):IsTup h a items:=let ⟨o,e,c,n,d⟩:=x;⟨o,e,c.1,n,d⟩
theorem TupN.new (h:Heap) (items:Array Value):TupN (h.push {cls:=.type "tuple",data:=.seq items}) h.objs.size items:=⟨_,Heap.get?_push_size _ rfl,⟨rfl,rfl⟩,_,rfl⟩
section
variable (P:Program) (w:World)
noncomputable def ObjOk (H:Hp) (h:Heap) (a:Addr):HO→Prop
 | .lst xs=>xs.length≤sizeLine∧∃(its:List Value) (n:Nat),Vals xs its∧h.get? a=some {cls:=.type "list",data:=.seq its.toArray n}
 | .tup xs=>xs.length≤sizeLine∧∃its:List Value,Vals xs its∧TupN h a its.toArray
 | .dK kvs=>kvs.length≤sizeLine∧(a == sysModules)=false∧∃vs,KV kvs vs∧h.DictOf (mixKind P w) a vs
 | .dT kvs=>kvs.length≤sizeLine∧(a == sysModules)=false∧∃xs:List (List Key×Addr×Value),
   Paired (fun (p:List Key×V) (q:List Key×Addr×Value)=>p.1=q.1∧H q.2.1=some (.tup (p.1.map kV))∧RelV p.2 q.2.2) kvs xs∧
   ∃o es ep,h.get? a=some o∧o.ExactDict∧o.data=.dict es ep∧es.toList=xs.map (entryOfKey (tupleKind (mixKind P w)))∧(xs.map (·.1)).Nodup
 | .set S n=>h.SetOf (intKind P w) a S n
 | .ins C dx fs=>H dx=some (.own a)∧fs.length≤1000∧dx≠a∧h.get? a=some (PySem.W.instObj C dx)∧
   ∃mA,h.Ns1 dx mA∧(∀f,RelO (fs.lookup f) (mA f))∧PySem.Within mA (fs.map (·.1))
 | .own _=>∃o,h.get? a=some o
 | .xd fs=>∃mA,h.Ns1 a mA∧∀f,RelO (fs.lookup f) (mA f)
 | .rng lo hi=>∃t u v,h.get? a=some {cls:=.type "range",data:=.fields #[.int lo t,.int hi u,.int 1 v]}
 | .frz o u=>h.get? a=some o∧ObjOk H h a u
 | .tbl ps=>h.get? a=some {cls:=.none,data:=.fields ps}
 | .met f x=>h.get? a=some (PySem.W.methodObj (.ref f) (.ref x))
 | .ext φ=>φ h∧(∃o,h.get? a=some o)∧∀h1 h2:Heap,φ h1→(∀o,h1.get? a=some o→h2.get? a=some o)→φ h2
noncomputable def HOk (H:Hp) (h:Heap):Prop:=∀a o,H a=some o→ObjOk P w H h a o
end
section
variable {P:Program} {w:World} {H H':Hp} {h h':Heap} {a:Addr} {o:HO}
theorem ObjOk.lt (x:ObjOk P w H h a o):a<h.objs.size:=by
 cases o with
 | lst xs=>obtain ⟨_,_,_,_,e⟩:=x;exact Heap.lt_size e
 | tup xs=>obtain ⟨_,_,_,p⟩:=x;exact p.tup.lt
 | dK kvs=>obtain ⟨_,_,_,_,o,_,_,e,_⟩:=x;exact Heap.lt_size e
 | dT kvs=>obtain ⟨_,_,_,_,o,_,_,e,_⟩:=x;exact Heap.lt_size e
 | set S n=>obtain ⟨o,_,_,_,e,_⟩:=x;exact Heap.lt_size e
 | ins C dx fs=>obtain ⟨_,_,_,e,_⟩:=x;exact Heap.lt_size e
 | own y=>obtain ⟨_,e⟩:=x;exact Heap.lt_size e
 | xd fs=>obtain ⟨_,⟨_,_,_,e,_⟩,_⟩:=x;exact Heap.lt_size e
 | rng lo hi=>obtain ⟨_,_,_,e⟩:=x;exact Heap.lt_size e
 | frz ob u=>obtain ⟨e,_⟩:=x;exact Heap.lt_size e
 | tbl ps=>exact Heap.lt_size (show h.get? a=some _ from x)
 | met f y=>exact Heap.lt_size (show h.get? a=some _ from x)
 | ext φ=>obtain ⟨_,⟨_,e⟩,_⟩:=x;exact Heap.lt_size e
theorem Paired.mapP {α β:Type} {F G:α→β→Prop} {l₁:List α} {l₂:List β} (h:Paired F l₁ l₂) (f:∀a b,F a b→G a b):Paired G l₁ l₂:=by
 induction h with
 | nil=>exact .nil
 | cons r t ih=>exact .cons (f _ _ r) ih
theorem ObjOk.stay (x:ObjOk P w H h a o) (k:∀b u,(b=a∨H b=some (.own a))→h.get? b=some u→h'.get? b=some u)
  (ho:∀b,H b=some (.own a)→H' b=some (.own a)) (ht:∀b xs,H b=some (.tup xs)→H' b=some (.tup xs)):ObjOk P w H' h' a o:=by
 induction o with
 | lst xs=>obtain ⟨z,its,n,r,e⟩:=x;exact ⟨z,its,n,r,k _ _ (.inl rfl) e⟩
 | tup xs=>obtain ⟨z,its,r,ob,e,c⟩:=x;exact ⟨z,its,r,ob,k _ _ (.inl rfl) e,c⟩
 | dK kvs=>obtain ⟨z,y,vs,r,ob,es,ep,e,c⟩:=x;exact ⟨z,y,vs,r,ob,es,ep,k _ _ (.inl rfl) e,c⟩
 | dT kvs=>
  obtain ⟨z,y,xs,r,ob,es,ep,e,c⟩:=x
  exact ⟨z,y,xs,Paired.mapP r fun p q z=>⟨z.1,ht _ _ z.2.1,z.2.2⟩,ob,es,ep,k _ _ (.inl rfl) e,c⟩
 | set S n=>obtain ⟨ob,es,ep,t,e,c⟩:=x;exact ⟨ob,es,ep,t,k _ _ (.inl rfl) e,c⟩
 | ins C dx fs=>
  obtain ⟨d,z,ne,e,mA,⟨od,es,ep,e2,c⟩,r⟩:=x
  exact ⟨ho _ d,z,ne,k _ _ (.inl rfl) e,mA,⟨od,es,ep,k _ _ (.inr d) e2,c⟩,r⟩
 | own y=>obtain ⟨ob,e⟩:=x;exact ⟨ob,k _ _ (.inl rfl) e⟩
 | xd fs=>obtain ⟨mA,⟨od,es,ep,e,c⟩,r⟩:=x;exact ⟨mA,⟨od,es,ep,k _ _ (.inl rfl) e,c⟩,r⟩
 | rng lo hi=>obtain ⟨t,u,v,e⟩:=x;exact ⟨t,u,v,k _ _ (.inl rfl) e⟩
 | frz ob u ih=>obtain ⟨e,q⟩:=x;exact ⟨k _ _ (.inl rfl) e,ih q⟩
 | tbl ps=>
  have e:h.get? a=some {cls:=.none,data:=.fields ps}:=x
  show h'.get? a=some {cls:=.none,data:=.fields ps}
  exact k a _ (.inl rfl) e
 | met f y=>
  have e:h.get? a=some (PySem.W.methodObj (.ref f) (.ref y)):=x
  show h'.get? a=some (PySem.W.methodObj (.ref f) (.ref y))
  exact k a _ (.inl rfl) e
 | ext φ=>obtain ⟨p,⟨o,e⟩,st⟩:=x;exact ⟨st _ _ p fun o q=>k _ _ (.inl rfl) q,⟨o,k _ _ (.inl rfl) e⟩,st⟩
theorem HOk.lt (x:HOk P w H h) (e:H a=some o):a<h.objs.size:=(x a o e).lt
theorem HOk.fresh (x:HOk P w H h) (e:h.objs.size≤a):H a=none:=by
 cases q:H a with
 | none=>rfl
 | some u=>exact absurd (Nat.lt_of_lt_of_le (x.lt q) e) (Nat.lt_irrefl _)
theorem HOk.kept (x:HOk P w H h) (k:∀b u,h.get? b=some u→h'.get? b=some u):HOk P w H h':=fun a o e=>
 (x a o e).stay (fun b u _ q=>k b u q) (fun _ q=>q) fun _ _ q=>q
theorem HOk.laid (x:HOk P w H h) (k:∀b u,h.get? b=some u→h'.get? b=some u) (hp:h.objs.size≤a) (new:ObjOk P w (upd H a o) h' a o):HOk P w (upd H a o) h':=fun b u e=>by
 have hn:=x.fresh hp
 by_cases hb:b=a
 ·subst hb;rw [upd_same] at e;cases e;exact new
 ·rw [upd_ne hb] at e
  exact (x b u e).stay (fun c v _ q=>k c v q) (fun c q=>by rw [upd_ne (ne_of_none q hn)];exact q) fun c xs q=>by rw [upd_ne (ne_of_none q hn)];exact q
end
noncomputable def Rd (H:Hp) (a:Addr) (u:HO):Prop:=H a=some u∨∃o,H a=some (.frz o u)
theorem Rd.ok {P:Program} {w:World} {H:Hp} {h:Heap} {a:Addr} {u:HO} (r:Rd H a u) (x:HOk P w H h):ObjOk P w H h a u:=by
 rcases r with r | ⟨o,r⟩
 ·exact x a u r
 ·obtain ⟨_,q⟩:=x a _ r
  exact q
noncomputable def Mut:Option HO→Prop
 | some (.lst _)=>True
 | some (.dK _)=>True
 | some (.dT _)=>True
 | some (.set _ _)=>True
 | some (.ins _ _ _)=>True
 | some (.ext _)=>True
 | _=>False
section
variable {P:Program} {w:World} {H:Hp} {h h':Heap} {x e:Addr} {o':HO}
theorem HOk.write (ok:HOk P w H h) (mu:Mut (H x)) (he:e=x∨H e=some (.own x)) (k:∀b u,b≠e→h.get? b=some u→h'.get? b=some u) (heo:∃u,h'.get? e=some u)
  (new:ObjOk P w (upd H x o') h' x o'):HOk P w (upd H x o') h':=fun b u q=>by
 have nown:∀c y,H c=some (.own y)→c≠x:=fun c y r z=>by subst z;rw [r] at mu;exact mu
 have ntup:∀c xs,H c=some (.tup xs)→c≠x:=fun c xs r z=>by subst z;rw [r] at mu;exact mu
 by_cases hb:b=x
 ·subst hb;rw [upd_same] at q;cases q;exact new
 ·rw [upd_ne hb] at q
  by_cases hbe:b=e
  ·have q':H b=some (.own x):=by
    rcases he with z | z
    ·exact absurd (hbe.trans z) hb
    ·rw [hbe];exact z
   rw [q] at q';cases q'
   obtain ⟨v,hv⟩:=heo
   exact ⟨v,by rw [hbe];exact hv⟩
  ·refine (ok b u q).stay (fun c v hc r=>k c v ?_ r) (fun c r=>by rw [upd_ne (nown c b r)];exact r) fun c xs r=>by rw [upd_ne (ntup c xs r)];exact r
   rcases hc with rfl | hc
   ·exact hbe
   ·rintro rfl
    rcases he with z | z
    ·exact nown c b hc z
    ·rw [hc] at z;cases z;exact hb rfl
end
structure Un (fs ex:List Addr) (H H':Hp) (h h':Heap):Prop where
 keep:∀b o,h.get? b=some o→H b=none→b∉fs→b∉ex→h'.get? b=some o
 slot:∀b o,h.get? b=some o→H b=none→b∈fs→b∉ex→∃sl,h'.get? b=some {o with slots:=sl}
 free:∀b o,h.get? b=some o→H b=none→b∉ex→H' b=none
 there:∀b o,h.get? b=some o→b∉ex→∃o',h'.get? b=some o'
 tups:∀b xs,H b=some (.tup xs)→H' b=some (.tup xs)
 frzs:∀b o u,H b=some (.frz o u)→H' b=some (.frz o u)
 tbls:∀b ps,H b=some (.tbl ps)→∃more,H' b=some (.tbl (ps++more))
section
variable {fs fs' ex ex':List Addr} {H H1 H2:Hp} {h h1 h2 h':Heap} {a x e:Addr} {o:HO}
theorem Un.any (u:Un fs ex H H1 h h1) {b:Addr} {ob:Obj} (q:h.get? b=some ob) (n:H b=none) (hx:b∉ex):∃sl,h1.get? b=some {ob with slots:=sl}:=by
 by_cases hb:b∈fs
 ·exact u.slot b ob q n hb hx
 ·exact ⟨ob.slots,u.keep b ob q n hb hx⟩
theorem Un.kept (k:∀b u,h.get? b=some u→h'.get? b=some u):Un fs ex H H h h':=
 ⟨fun b ob q _ _ _=>k b ob q,fun b ob q _ _ _=>⟨ob.slots,k b ob q⟩,fun _ _ _ n _=>n,fun b ob q _=>⟨ob,k b ob q⟩,fun _ _ q=>q,fun _ _ _ q=>q,fun _ ps q=>⟨#[],by rw [q];simp⟩⟩
theorem Un.refl:Un fs ex H H h h:=Un.kept fun _ _ q=>q
theorem Un.laid (k:∀b u,h.get? b=some u→h'.get? b=some u) (hp:h.objs.size≤a) (hn:H a=none):Un fs ex H (upd H a o) h h' where
 keep:=fun b u q _ _ _=>k b u q
 slot:=fun b u q _ _ _=>⟨u.slots,k b u q⟩
 free:=fun b u q n _=>by rw [upd_ne (Nat.ne_of_lt (Nat.lt_of_lt_of_le (Heap.lt_size q) hp))];exact n
 there:=fun b u q _=>⟨u,k b u q⟩
 tups:=fun b xs q=>by rw [upd_ne (ne_of_none q hn)];exact q
 frzs:=fun b u xs q=>by rw [upd_ne (ne_of_none q hn)];exact q
 tbls:=fun b ps q=>⟨#[],by rw [upd_ne (ne_of_none q hn),q];simp⟩
theorem Un.write (mu:Mut (H x)) (he:e=x∨H e=some (.own x)) (k:∀b u,b≠e→h.get? b=some u→h'.get? b=some u) (heo:∃u,h'.get? e=some u):Un fs ex H (upd H x o) h h':=by
 have hx:∀b,H b=none→b≠x:=fun b n z=>by subst z;rw [n] at mu;exact mu
 have hb:∀b,H b=none→b≠e:=fun b n z=>by
  subst z
  rcases he with r | r
  ·exact hx b n r
  ·rw [n] at r;cases r
 have hm:∀b u,H b=some u→¬Mut (some u)→b≠x:=fun b u q nm z=>by subst z;rw [q] at mu;exact nm mu
 refine ⟨fun b u q n _ _=>k b u (hb b n) q,fun b u q n _ _=>⟨u.slots,k b u (hb b n) q⟩,fun b u q n _=>by rw [upd_ne (hx b n)];exact n,fun b u q _=>?_,
  fun b xs q=>by rw [upd_ne (hm b _ q fun z=>z)];exact q,fun b u xs q=>by rw [upd_ne (hm b _ q fun z=>z)];exact q,fun b ps q=>⟨#[],by rw [upd_ne (hm b _ q fun z=>z),q];simp⟩⟩
 by_cases hbe:b=e
 ·subst hbe;exact heo
 ·exact ⟨u,k b u hbe q⟩
end
noncomputable def trk (h:Heap) (H:Hp):List Addr:=(List.range h.objs.size).filter fun a=>(H a).isSome
noncomputable def hidT (h:Heap) (H:Hp):Heap:=PySem.W.hideAll h (trk h H)
theorem hidT_size (h:Heap) (H:Hp):(hidT h H).objs.size=h.objs.size:=PySem.W.hideAll_size _ _
theorem hidT_get {h:Heap} {H:Hp} {b:Addr} {o:Obj} (e:h.get? b=some o) (n:H b=none):(hidT h H).get? b=some o:=
 PySem.W.hideAll_get _ e fun hm=>by
  have q:(H b).isSome=true:=(List.mem_filter.mp hm).2
  rw [n] at q;simp at q
theorem of_hidT {h:Heap} {H:Hp} {b:Addr} {o:Obj} (e:(hidT h H).get? b=some o):h.get? b=some o∧H b=none:=by
 have e':h.get? b=some o:=PySem.W.of_hideAll (trk h H) e
 refine ⟨e',?_⟩
 cases q:H b with
 | none=>rfl
 | some x=>
  have hm:b∈trk h H:=List.mem_filter.mpr ⟨List.mem_range.mpr (Heap.lt_size e'),by simp [q]⟩
  have z:(hidT h H).get? b=none:=PySem.W.hideAll_none (trk h H) hm
  rw [z] at e;cases e
noncomputable def allNews (g h:Heap) (L:Addr):List (Addr×Obj):=(List.range h.objs.size).filterMap fun a=>if a=L∨(g.get? a).isSome=true then none else (h.get? a).map fun o=>(a,o)
noncomputable def rest (g h:Heap) (L d:Addr):List (Addr×Obj):=(allNews g h L).filter fun p=>decide (p.1≠d)
structure Mod (K:PySem.W.Frag) (mg:Str→Option Value) (base:Heap):Prop where
 kin:K.In base
 glob:base.Ns mainGlobals mg
 blt:∃mb,base.Ns builtinsNs mb∧∀x:Str,x≠"__name__"→mb x=bootBuiltins x
 nolimit:base.NoLimit
structure Cx where
 prog:Program
 w:World
 K:PySem.W.Frag
 mg:Str→Option Value
 base:Heap
 A:Around
 N:List Str
 s₀:Shared
 H₀:Hp
 env:Env
 outer:List Env
 stack:List Env
 ex:List Addr
 fn:Str→Bool
 calm:Bool
 pn:List (Addr×Obj)
 xe:Value→Shared→Prop
noncomputable def frs (l:List Env):List Addr:=l.filterMap (·.frame)
noncomputable abbrev Cx.fs (X:Cx):List Addr:=frs X.outer
noncomputable def Vis (sc:Scope) (x:Str):Prop:=sc.names.lookup x=some .local∨sc.names.lookup x=some .cell∨sc.names.lookup x=some .free
noncomputable def Loc (sc:Scope) (x:Str):Prop:=sc.names.lookup x=some .local∨sc.names.lookup x=some .cell
noncomputable def Look (env:Env) (h:Heap) (m:Str→Option Value) (x:Str) (u:Value):Prop:=
 (env.kindOf x=some .local∧m x=some u)∨((env.kindOf x=some .cell∨env.kindOf x=some .free)∧∃c,env.cells.lookup x=some c∧h.IsCell c (some u))
structure Cx.Ok (X:Cx):Prop where
 mod:Mod X.K X.mg X.base
 kind:X.env.scope.kind=.function
 glob:X.env.globals=mainGlobals
 blt:X.env.builtins=builtinsNs
 above:X.s₀.heap.objs.size≤X.env.locals
 inj:∀x y c,X.env.cells.lookup x=some c→X.env.cells.lookup y=some c→x=y
 has:∀x,(X.env.kindOf x=some .cell∨X.env.kindOf x=some .free)→∃c,X.env.cells.lookup x=some c
 cab:∀x c,X.fn x=true→X.env.cells.lookup x=some c→X.s₀.heap.objs.size≤c
 hd:X.calm=true→X.A.handled=none
 frames:X.A.frames=some X.stack
 stk:X.stack=X.outer∨(X.stack=X.env::X.outer∧X.env.frame=some X.env.locals)
 exf:∀b∈X.ex,b≠X.env.locals∧∀x c,X.env.cells.lookup x=some c→c≠b
 bs:∀b o,X.base.get? b=some o→X.s₀.heap.get? b=some o∧X.H₀ b=none
 bsz:X.base.objs.size≤X.s₀.heap.objs.size
 noex:∀b o,X.base.get? b=some o→b∉X.ex
 exfs:∀b∈X.ex,b∉X.fs
 funs:X.s₀.heap.FunFrames X.base X.outer
 frf:∀b∈X.fs,X.H₀ b=none
structure Inv (X:Cx) (pins:List (Addr×Obj)) (σ:List (Option V)) (H:Hp) (s:Shared):Prop where
 ok:X.Ok
 os:s.os=X.s₀.os
 bare:AllBare s.gens
 base:Un X.fs X.ex X.H₀ H X.s₀.heap s.heap
 loc:∃m,s.heap.Ns X.env.locals m∧∀(i:Nat) (x:Str) (v:V),X.N[i]?=some x→σ[i]?=some (some v)→Vis X.env.scope x→∃u,RelV v u∧Look X.env s.heap m x u
 cell:∀x c,X.env.cells.lookup x=some c→∃v,s.heap.IsCell c v
 free:H X.env.locals=none
 freeC:∀x c,X.env.cells.lookup x=some c→H c=none
 pin:∀p∈X.pn++pins,s.heap.get? p.1=some p.2∧H p.1=none∧p.1≠X.env.locals∧p.1∉X.fs∧∀v,p.2.data≠.cell v
 hok:HOk X.prog X.w H s.heap
 len:σ.length=X.N.length
section
variable {X:Cx} {pins:List (Addr×Obj)} {σ:List (Option V)} {H H':Hp} {s:Shared} {h':Heap}
theorem Cx.Ok.nofr (ok:X.Ok) {b:Addr} {o:Obj} (e:X.base.get? b=some o):b∉X.fs:=fun hb=>by
 have:=(ok.funs.mem hb).1
 rw [e] at this;cases this
theorem Inv.bs (I:Inv X pins σ H s):∀b o,X.base.get? b=some o→s.heap.get? b=some o∧H b=none:=fun b o e=>
 ⟨I.base.keep b o (I.ok.bs b o e).1 (I.ok.bs b o e).2 (I.ok.nofr e) (I.ok.noex b o e),I.base.free b o (I.ok.bs b o e).1 (I.ok.bs b o e).2 (I.ok.noex b o e)⟩
theorem Inv.bk (I:Inv X pins σ H s):∀b o,X.base.get? b=some o→s.heap.get? b=some o:=fun b o e=>(I.bs b o e).1
theorem Inv.mod (I:Inv X pins σ H s):Mod X.K X.mg X.base:=I.ok.mod
theorem Inv.kIn (I:Inv X pins σ H s):X.K.In s.heap:=I.ok.mod.kin.keeps I.bk
theorem Inv.lt (I:Inv X pins σ H s):X.env.locals<s.heap.objs.size:=let ⟨_,hn,_⟩:=I.loc;hn.lt
theorem Inv.sz (I:Inv X pins σ H s):X.s₀.heap.objs.size≤s.heap.objs.size:=Nat.le_trans I.ok.above (Nat.le_of_lt I.lt)
theorem Inv.nofs (I:Inv X pins σ H s) {a:Addr} (h:s.heap.objs.size≤a):a∉X.fs:=fun hb=>by
 obtain ⟨_,o,ho,_⟩:=I.ok.funs.mem hb
 exact absurd (Nat.lt_of_lt_of_le (Heap.lt_size ho) (Nat.le_trans I.sz h)) (Nat.lt_irrefl _)
theorem Inv.cne (I:Inv X pins σ H s):∀x c,X.env.cells.lookup x=some c→c≠X.env.locals:=fun x c e z=>by
 obtain ⟨v,o,ho,hd⟩:=I.cell x c e
 obtain ⟨m,⟨o',es,ep,ho',hd',_⟩,_⟩:=I.loc
 rw [z,ho'] at ho;cases ho;rw [hd'] at hd;cases hd
theorem Inv.funs (I:Inv X pins σ H s):s.heap.FunFrames X.base X.outer:=by
 have all:∀(l:List Env),(∀b∈frs l,b∈X.fs)→X.s₀.heap.FunFrames X.base l→s.heap.FunFrames X.base l:=by
  intro l
  induction l with
  | nil=>intro _ _;trivial
  | cons env r ih=>
   intro hs hl
   obtain ⟨hk,⟨L,o,hf,hn,ho,hd⟩,hr⟩:=hl
   have hL:L∈X.fs:=hs L (by unfold frs;rw [List.filterMap_cons,hf];exact List.mem_cons_self)
   obtain ⟨sl,e⟩:=I.base.slot L o ho (I.ok.frf L hL) hL fun z=>I.ok.exfs L z hL
   exact ⟨hk,⟨L,_,hf,hn,e,hd⟩,ih (fun b hb=>hs b (by unfold frs;rw [List.filterMap_cons,hf];exact List.mem_cons_of_mem _ hb)) hr⟩
 exact all X.outer (fun _ hb=>hb) I.ok.funs
theorem Inv.stack (I:Inv X pins σ H s):s.heap.FunFrames X.base X.stack:=by
 rcases I.ok.stk with e | ⟨e,hf⟩
 ·rw [e];exact I.funs
 ·rw [e]
  obtain ⟨m,hn,_⟩:=I.loc
  refine .cons (by rw [I.ok.kind];decide) hf hn ?_ I.funs
  exact Heap.get?_none_of_le (Nat.le_trans I.ok.bsz I.ok.above)
theorem Inv.stkSub (I:Inv X pins σ H s):∀b∈frs X.stack,b∈X.env.locals::X.fs:=fun b hb=>by
 rcases I.ok.stk with e | ⟨e,hf⟩
 ·rw [e] at hb;exact List.mem_cons_of_mem _ hb
 ·rw [e] at hb
  unfold frs at hb
  rw [List.filterMap_cons,hf] at hb
  exact hb
theorem Inv.stkFree (I:Inv X pins σ H s):∀b∈frs X.stack,H b=none:=fun b hb=>by
 rcases List.mem_cons.mp (I.stkSub b hb) with e | hb
 ·rw [e];exact I.free
 ·obtain ⟨_,o,ho,_⟩:=I.ok.funs.mem hb
  exact I.base.free b o ho (I.ok.frf b hb) fun z=>I.ok.exfs b z hb
theorem Inv.step {g':Array GenState} {t':Nat} {d':Drawn} {ch:List Addr} (I:Inv X pins σ H s)
  (hch:∀b∈ch,(b∈X.ex∨X.s₀.heap.objs.size≤b)∧b≠X.env.locals∧(∀x c,X.env.cells.lookup x=some c→c≠b)∧∀p∈X.pn++pins,p.1≠b)
  (keep:∀b o,b≠X.env.locals→b∉X.fs→b∉ch→s.heap.get? b=some o→H b=none→h'.get? b=some o)
  (slot:∀b o,b≠X.env.locals→b∈X.fs→b∉ch→s.heap.get? b=some o→H b=none→∃sl,h'.get? b=some {o with slots:=sl}) (free:∀b o,b∉ch→s.heap.get? b=some o→H b=none→H' b=none)
  (there:∀b o,b∉ch→s.heap.get? b=some o→∃o',h'.get? b=some o')
  (tups:∀b xs,H b=some (.tup xs)→H' b=some (.tup xs)) (frzs:∀b o u,H b=some (.frz o u)→H' b=some (.frz o u)) (tbls:∀b ps,H b=some (.tbl ps)→∃more,H' b=some (.tbl (ps++more)))
  (ns:∀m,s.heap.Ns X.env.locals m→h'.Ns X.env.locals m) (hok:HOk X.prog X.w H' h') (hg:AllBare g'):
  Inv X pins σ H' {s with heap:=h',gens:=g',drawn:=d',toks:=t'}:=by
 have neL:∀b o,X.s₀.heap.get? b=some o→b≠X.env.locals:=fun b o e=>Nat.ne_of_lt (Nat.lt_of_lt_of_le (Heap.lt_size e) I.ok.above)
 have neC:∀b o,X.s₀.heap.get? b=some o→b∉X.ex→b∉ch:=fun b o e hx hb=>by
  rcases (hch b hb).1 with z | z
  ·exact hx z
  ·exact absurd (Nat.lt_of_lt_of_le (Heap.lt_size e) z) (Nat.lt_irrefl _)
 have cellK:∀x c,X.env.cells.lookup x=some c→∀v,s.heap.IsCell c v→h'.IsCell c v:=fun x c e v ⟨o,ho,hd⟩=>by
  have nch:c∉ch:=fun z=>(hch c z).2.2.1 x c e rfl
  by_cases hc:c∈X.fs
  ·obtain ⟨sl,q⟩:=slot c o (I.cne x c e) hc nch ho (I.freeC x c e)
   exact ⟨_,q,hd⟩
  ·exact ⟨o,keep c o (I.cne x c e) hc nch ho (I.freeC x c e),hd⟩
 refine ⟨I.ok,I.os,hg,⟨fun b o e n hb hx=>?_,fun b o e n hb hx=>?_,fun b o e n hx=>?_,fun b o e hx=>?_,fun b xs e=>tups b xs (I.base.tups b xs e),fun b o xs e=>frzs b o xs (I.base.frzs b o xs e),fun b ps e=>?_⟩,?_,fun x c e=>?_,?_,fun x c e=>?_,fun p hp=>?_,hok,I.len⟩
 ·exact keep b o (neL b o e) hb (neC b o e hx) (I.base.keep b o e n hb hx) (I.base.free b o e n hx)
 ·obtain ⟨sl,e1⟩:=I.base.slot b o e n hb hx
  obtain ⟨sl',e2⟩:=slot b _ (neL b o e) hb (neC b o e hx) e1 (I.base.free b o e n hx)
  exact ⟨sl',e2⟩
 ·obtain ⟨o',e1⟩:=I.base.there b o e hx
  exact free b o' (neC b o e hx) e1 (I.base.free b o e n hx)
 ·obtain ⟨o',e1⟩:=I.base.there b o e hx
  exact there b o' (neC b o e hx) e1
 ·obtain ⟨m1,e1⟩:=I.base.tbls b ps e
  obtain ⟨m2,e2⟩:=tbls b _ e1
  exact ⟨m1++m2,by rw [e2,Array.append_assoc]⟩
 ·obtain ⟨m,hn,hl⟩:=I.loc
  refine ⟨m,ns m hn,fun i x v e1 e2 e3=>?_⟩
  obtain ⟨u,r,l⟩:=hl i x v e1 e2 e3
  refine ⟨u,r,?_⟩
  rcases l with l | ⟨k,c,e,z⟩
  ·exact .inl l
  ·exact .inr ⟨k,c,e,cellK x c e _ z⟩
 ·obtain ⟨v,z⟩:=I.cell x c e
  exact ⟨v,cellK x c e v z⟩
 ·obtain ⟨m,⟨o,_,_,ho,_⟩,_⟩:=I.loc
  exact free _ o (fun z=>(hch _ z).2.1 rfl) ho I.free
 ·obtain ⟨v,o,ho,hd⟩:=I.cell x c e
  exact free c o (fun z=>(hch c z).2.2.1 x c e rfl) ho (I.freeC x c e)
 ·obtain ⟨e,n,ne,nf,d⟩:=I.pin p hp
  have nch:p.1∉ch:=fun z=>(hch p.1 z).2.2.2 p hp rfl
  exact ⟨keep p.1 p.2 ne nf nch e n,free p.1 p.2 nch e n,ne,nf,d⟩
theorem Inv.un {t':Nat} (I:Inv X pins σ H s) (u:Un X.fs [] H H' s.heap h') (hok:HOk X.prog X.w H' h'):Inv X pins σ H' {s with heap:=h',toks:=t'}:=by
 obtain ⟨m,⟨o,es,ep,ho,r⟩,_⟩:=id I.loc
 obtain ⟨sl,hL⟩:=u.any ho I.free (by simp)
 exact I.step (g':=s.gens) (d':=s.drawn) (ch:=[]) (fun _ z=>nomatch z) (fun b o _ hb _ e n=>u.keep b o e n hb (by simp)) (fun b o _ hb _ e n=>u.slot b o e n hb (by simp)) (fun b o _ e n=>u.free b o e n (by simp)) (fun b o _ e=>u.there b o e (by simp)) u.tups u.frzs u.tbls (fun m' hm=>by
  obtain ⟨o',es',ep',ho',r'⟩:=hm
  rw [ho] at ho';cases ho'
  exact ⟨_,es',ep',hL,r'⟩) hok I.bare
theorem Inv.call {g':Array GenState} {t':Nat} {d':Drawn} {ch:List Addr} (I:Inv X pins σ H s) (u:Un (frs X.stack) ch H H' s.heap h') (hok:HOk X.prog X.w H' h') (hg:AllBare g')
  (hch:∀b∈ch,(b∈X.ex∨X.s₀.heap.objs.size≤b)∧b≠X.env.locals∧(∀x c,X.env.cells.lookup x=some c→c≠b)∧∀p∈X.pn++pins,p.1≠b):
  Inv X pins σ H' {s with heap:=h',gens:=g',drawn:=d',toks:=t'}:=by
 obtain ⟨m,⟨o,es,ep,ho,r⟩,_⟩:=id I.loc
 obtain ⟨sl,hL⟩:=u.any ho I.free fun z=>(hch _ z).2.1 rfl
 exact I.step (ch:=ch) hch (fun b o hL hb hc e n=>u.keep b o e n (fun z=>(List.mem_cons.mp (I.stkSub b z)).elim hL hb) hc) (fun b o _ _ hc e n=>u.any e n hc) (fun b o hc e n=>u.free b o e n hc) (fun b o hc e=>u.there b o e hc) u.tups u.frzs u.tbls (fun m' hm=>by
  obtain ⟨o',es',ep',ho',r'⟩:=hm
  rw [ho] at ho';cases ho'
  exact ⟨_,es',ep',hL,r'⟩) hok hg
theorem Inv.turned {t':Nat} {it:Addr} (I:Inv X pins σ H s) (k:∀b o,b≠it→s.heap.get? b=some o→h'.get? b=some o) (hn:H it=none) (hL:it≠X.env.locals)
  (h1:it∈X.ex∨X.s₀.heap.objs.size≤it) (h2:∀x c,X.env.cells.lookup x=some c→c≠it) (h3:∀p∈X.pn++pins,p.1≠it):Inv X pins σ H {s with heap:=h',toks:=t'}:=by
 have nit:∀b u,H b=some u→b≠it:=fun b u e z=>by rw [z,hn] at e;cases e
 refine I.step (g':=s.gens) (d':=s.drawn) (ch:=[it]) (fun b hb=>?_) (fun b o _ _ hc e _=>k b o (fun z=>hc (by simp [z])) e) (fun b o _ _ hc e _=>⟨o.slots,k b o (fun z=>hc (by simp [z])) e⟩) (fun _ _ _ _ n=>n)
  (fun b o hc e=>⟨o,k b o (fun z=>hc (by simp [z])) e⟩) (fun _ _ e=>e) (fun _ _ _ e=>e) (fun b ps e=>⟨#[],by rw [e];simp⟩) (fun m hm=>?_) (fun b u e=>?_) I.bare
 ·have e:b=it:=by simpa using hb
  subst e
  exact ⟨h1,hL,h2,h3⟩
 ·obtain ⟨o,es,ep,ho,r⟩:=hm
  exact ⟨o,es,ep,k _ o (Ne.symm hL) ho,r⟩
 ·refine (I.hok b u e).stay (fun c v hc q=>k c v ?_ q) (fun _ q=>q) fun _ _ q=>q
  rcases hc with z | z
  ·rw [z];exact nit b u e
  ·exact nit c _ z
theorem Inv.tok (I:Inv X pins σ H s) (t:Nat):Inv X pins σ H {s with toks:=t}:=I.un (h':=s.heap) (t':=t) Un.refl I.hok
theorem Inv.kept {t':Nat} (I:Inv X pins σ H s) (k:∀b u,s.heap.get? b=some u→h'.get? b=some u):Inv X pins σ H {s with heap:=h',toks:=t'}:=I.un (Un.kept k) (I.hok.kept k)
theorem Inv.laid {a:Addr} {o:HO} {t':Nat} (I:Inv X pins σ H s) (k:∀b u,s.heap.get? b=some u→h'.get? b=some u) (hp:s.heap.objs.size≤a) (new:ObjOk X.prog X.w (upd H a o) h' a o):
  Inv X pins σ (upd H a o) {s with heap:=h',toks:=t'}:=I.un (Un.laid k hp (I.hok.fresh hp)) (I.hok.laid k hp new)
theorem Inv.write {x e:Addr} {o:HO} {t':Nat} (I:Inv X pins σ H s) (mu:Mut (H x)) (he:e=x∨H e=some (.own x)) (k:∀b u,b≠e→s.heap.get? b=some u→h'.get? b=some u) (heo:∃u,h'.get? e=some u)
  (new:ObjOk X.prog X.w (upd H x o) h' x o):Inv X pins σ (upd H x o) {s with heap:=h',toks:=t'}:=I.un (Un.write mu he k heo) (I.hok.write mu he k heo new)
theorem Inv.weak {σ':List (Option V)} (I:Inv X pins σ H s) (hl:σ'.length=σ.length) (w:∀(i:Nat) v,σ'[i]?=some (some v)→σ[i]?=some (some v)):Inv X pins σ' H s:=
 ⟨I.ok,I.os,I.bare,I.base,let ⟨m,hn,hl'⟩:=I.loc;⟨m,hn,fun i x v e1 e2 e3=>hl' i x v e1 (w i v e2) e3⟩,I.cell,I.free,I.freeC,I.pin,I.hok,hl.trans I.len⟩
theorem Inv.pins_of {pins':List (Addr×Obj)} (I:Inv X pins σ H s) (h:∀p∈pins',s.heap.get? p.1=some p.2∧H p.1=none∧p.1≠X.env.locals∧p.1∉X.fs∧∀v,p.2.data≠.cell v):Inv X pins' σ H s:=
 ⟨I.ok,I.os,I.bare,I.base,I.loc,I.cell,I.free,I.freeC,fun p hp=>(List.mem_append.mp hp).elim (fun z=>I.pin p (List.mem_append_left _ z)) (h p),I.hok,I.len⟩
theorem nodup_ix {N:List Str} (hN:N.Nodup) {i j:Nat} {x:Str} (a:N[i]?=some x) (b:N[j]?=some x):i=j:=by
 obtain ⟨h1,e1⟩:=List.getElem?_eq_some_iff.mp a
 obtain ⟨h2,e2⟩:=List.getElem?_eq_some_iff.mp b
 exact (List.getElem_inj hN).mp (e1.trans e2.symm)
theorem store_ok2 {M:Model} {A:Around} {E:Value→Shared→Prop} {i:Nat} {x:Str} {v:V} {u:Value} {Q:Unit→Shared→Prop} (I:Inv X pins σ H s) (hN:X.N.Nodup) (hi:X.N[i]?=some x) (hx:Loc X.env.scope x) (r:RelV v u)
  (h:∀s',Inv X pins (σ.set i (some v)) H s'→(∃a,Heap.SameBut a s.heap s'.heap∧(a=X.env.locals∨X.env.cells.lookup x=some a))→Q () s') (hf:X.fn x=true∨X.env.scope.names.lookup x=some .local:=by first | exact .inl rfl | exact .inr rfl | assumption):wpAny M A (storeName X.env x u) Q E s:=by
 obtain ⟨m,hn,hl⟩:=id I.loc
 have hcls:(X.env.scope.kind == .class || (X.env.scope.kind == .module && X.env.locals != X.env.globals))=false:=by rw [I.ok.kind];rfl
 have hiσ:i<σ.length:=by rw [I.len];exact (List.getElem?_eq_some_iff.mp hi).1
 have cne:=I.cne
 have tracked:∀{a:Addr} {h':Heap},(∃o,s.heap.get? a=some o∧H a=none)→Heap.SameBut a s.heap h'→HOk X.prog X.w H h':=fun {a h'} ha hs b ob e=>by
  obtain ⟨_,_,hfree⟩:=ha
  refine (I.hok b ob e).stay (fun c w' hc q=>(hs.2 c ?_).trans q) (fun _ q=>q) fun _ _ q=>q
  rintro rfl
  rcases hc with rfl | hc
  ·rw [hfree] at e;cases e
  ·rw [hfree] at hc;cases hc
 rcases hx with hk | hk
 ·refine wpAny_storeName_local hk hn (fun h' hn' hs=>?_) hcls
  obtain ⟨oL,_,_,hoL,_⟩:=id hn
  refine h _ ⟨I.ok,I.os,I.bare,⟨fun b o e n hb hx=>?_,fun b o e n hb hx=>?_,I.base.free,fun b o e hx=>?_,I.base.tups,I.base.frzs,I.base.tbls⟩,⟨_,hn',fun j y v' e1 e2 e3=>?_⟩,fun y c e=>?_,I.free,I.freeC,fun p hp=>?_,tracked ⟨oL,hoL,I.free⟩ hs,by simpa using I.len⟩ ⟨_,hs,.inl rfl⟩
  ·exact (hs.2 b (Nat.ne_of_lt (Nat.lt_of_lt_of_le (Heap.lt_size e) I.ok.above))).trans (I.base.keep b o e n hb hx)
  ·obtain ⟨sl,e1⟩:=I.base.slot b o e n hb hx
   exact ⟨sl,(hs.2 b (Nat.ne_of_lt (Nat.lt_of_lt_of_le (Heap.lt_size e) I.ok.above))).trans e1⟩
  ·obtain ⟨o',e1⟩:=I.base.there b o e hx
   exact ⟨o',(hs.2 b (Nat.ne_of_lt (Nat.lt_of_lt_of_le (Heap.lt_size e) I.ok.above))).trans e1⟩
  ·by_cases hj:j=i
   ·subst hj
    rw [hi] at e1;cases e1
    rw [List.getElem?_set_self hiσ] at e2
    cases e2
    exact ⟨u,r,.inl ⟨hk,by simp⟩⟩
   ·rw [List.getElem?_set_ne (Ne.symm hj)] at e2
    obtain ⟨u',r',q⟩:=hl j y v' e1 e2 e3
    refine ⟨u',r',?_⟩
    rcases q with ⟨k,e⟩ | ⟨k,c,e,z⟩
    ·refine .inl ⟨k,?_⟩
     have:y≠x:=fun e=>hj (nodup_ix hN e1 (e ▸ hi))
     simp [this,e]
    ·exact .inr ⟨k,c,e,z.sameBut hs (cne y c e)⟩
  ·obtain ⟨w',z⟩:=I.cell y c e
   exact ⟨w',z.sameBut hs (cne y c e)⟩
  ·obtain ⟨e,n,ne,nf,d⟩:=I.pin p hp
   exact ⟨(hs.2 p.1 ne).trans e,n,ne,nf,d⟩
 ·have hfn:X.fn x=true:=by
   rcases hf with z | z
   ·exact z
   ·rw [z] at hk;cases hk
  obtain ⟨c,hc⟩:=I.ok.has x (.inl hk)
  obtain ⟨w',z⟩:=I.cell x c hc
  refine wpAny_storeName_cell I.ok.kind hk hc z (fun h' hc' hs=>?_)
  obtain ⟨oc,hoc,hocd⟩:=id z
  refine h {s with heap:=h'} ⟨I.ok,I.os,I.bare,⟨fun b o e n hb hx=>?_,fun b o e n hb hx=>?_,I.base.free,fun b o e hx=>?_,I.base.tups,I.base.frzs,I.base.tbls⟩,⟨m,hn.sameBut hs (Ne.symm (cne x c hc)),fun j y v' e1 e2 e3=>?_⟩,fun y c' e=>?_,I.free,I.freeC,fun p hp=>?_,tracked ⟨oc,hoc,I.freeC x c hc⟩ hs,by simpa using I.len⟩ ⟨c,hs,.inr hc⟩
  ·exact (hs.2 b (Nat.ne_of_lt (Nat.lt_of_lt_of_le (Heap.lt_size e) (I.ok.cab x c hfn hc)))).trans (I.base.keep b o e n hb hx)
  ·obtain ⟨sl,e1⟩:=I.base.slot b o e n hb hx
   exact ⟨sl,(hs.2 b (Nat.ne_of_lt (Nat.lt_of_lt_of_le (Heap.lt_size e) (I.ok.cab x c hfn hc)))).trans e1⟩
  ·obtain ⟨o',e1⟩:=I.base.there b o e hx
   exact ⟨o',(hs.2 b (Nat.ne_of_lt (Nat.lt_of_lt_of_le (Heap.lt_size e) (I.ok.cab x c hfn hc)))).trans e1⟩
  ·by_cases hj:j=i
   ·subst hj
    rw [hi] at e1;cases e1
    rw [List.getElem?_set_self hiσ] at e2
    cases e2
    exact ⟨u,r,.inr ⟨.inl hk,c,hc,hc'⟩⟩
   ·rw [List.getElem?_set_ne (Ne.symm hj)] at e2
    obtain ⟨u',r',q⟩:=hl j y v' e1 e2 e3
    refine ⟨u',r',?_⟩
    rcases q with q | ⟨k,c',e,z'⟩
    ·exact .inl q
    ·refine .inr ⟨k,c',e,z'.sameBut hs ?_⟩
     rintro rfl
     exact hj (nodup_ix hN e1 (I.ok.inj _ _ _ e hc ▸ hi))
  ·by_cases hcc:c'=c
   ·subst hcc;exact ⟨_,hc'⟩
   ·obtain ⟨w2,z2⟩:=I.cell y c' e
    exact ⟨w2,z2.sameBut hs hcc⟩
  ·obtain ⟨e,n,ne,nf,d⟩:=I.pin p hp
   refine ⟨(hs.2 p.1 ?_).trans e,n,ne,nf,d⟩
   intro q
   rw [q,hoc] at e
   have q':oc=p.2:=Option.some.inj e
   exact d w' (by rw [←q'];exact hocd)
theorem store_ok {M:Model} {A:Around} {E:Value→Shared→Prop} {i:Nat} {x:Str} {v:V} {u:Value} {Q:Unit→Shared→Prop} (I:Inv X pins σ H s) (hN:X.N.Nodup) (hi:X.N[i]?=some x) (hx:Loc X.env.scope x) (r:RelV v u)
  (h:∀s',Inv X pins (σ.set i (some v)) H s'→Q () s') (hf:X.fn x=true∨X.env.scope.names.lookup x=some .local:=by first | exact .inl rfl | exact .inr rfl | assumption):wpAny M A (storeName X.env x u) Q E s:=
 store_ok2 I hN hi hx r (fun s' I' _=>h s' I') hf
theorem Inv.call' {s':Shared} {ch:List Addr} (I:Inv X pins σ H s) (ho:s'.os=s.os) (u:Un (frs X.stack) ch H H' s.heap s'.heap) (hok:HOk X.prog X.w H' s'.heap) (hg:AllBare s'.gens)
  (hch:∀b∈ch,(b∈X.ex∨X.s₀.heap.objs.size≤b)∧b≠X.env.locals∧(∀x c,X.env.cells.lookup x=some c→c≠b)∧∀p∈X.pn++pins,p.1≠b):Inv X pins σ H' s':=by
 obtain ⟨h',g',d',t',o'⟩:=s'
 have e:o'=s.os:=ho
 subst e
 exact I.call (g':=g') (t':=t') (d':=d') u hok hg hch
end
noncomputable abbrev XK:=Value→Option Addr→Hp→Prop
noncomputable abbrev St:=List (Option V)
noncomputable abbrev VK:=V→Hp→Prop
noncomputable abbrev TE:=St→Hp→VK→Prop
noncomputable abbrev TT:=St→Hp→(Bool→Hp→Prop)→Prop
noncomputable abbrev TA:=St→Hp→(List V→Hp→Prop)→Prop
structure Ends where
 nx:St→Hp→Prop
 rt:VK
 bk:St→Hp→Prop:=fun _ _=>False
 ct:St→Hp→Prop:=fun _ _=>False
noncomputable abbrev TS:=Ends→St→Hp→Prop
noncomputable def EP (X:Cx) (pins:List (Addr×Obj)) (σ:St) (Q:VK) (u:Value) (s':Shared):Prop:=∃v H',Inv X pins σ H' s'∧RelV v u∧Q v H'
noncomputable def TP (X:Cx) (pins:List (Addr×Obj)) (σ:St) (Q:Bool→Hp→Prop) (b:Bool) (s':Shared):Prop:=∃H',Inv X pins σ H' s'∧Q b H'
noncomputable def AP (X:Cx) (pins:List (Addr×Obj)) (σ:St) (Q:List V→Hp→Prop) (us:List Value) (s':Shared):Prop:=∃vs H',Inv X pins σ H' s'∧Vals vs us∧Q vs H'
noncomputable def SP (X:Cx) (pins:List (Addr×Obj)) (D:Ends) (f:Flow) (s':Shared):Prop:=
 match f with
 | .next=>∃σ' H',Inv X pins σ' H' s'∧D.nx σ' H'
 | .brk=>∃σ' H',Inv X pins σ' H' s'∧D.bk σ' H'
 | .cont=>∃σ' H',Inv X pins σ' H' s'∧D.ct σ' H'
 | .ret u=>∃v σ' H',Inv X pins σ' H' s'∧RelV v u∧D.rt v H'
noncomputable def PE (X:Cx) (e:Expr) (t:TE):Prop:=
 ∀(pins:List (Addr×Obj)) (s:Shared) (σ:St) (H:Hp) (Q:VK),Inv X pins σ H s→t σ H Q→wpAny (model X.prog X.w) X.A (eval e X.env) (EP X pins σ Q) X.xe s
noncomputable def PT (X:Cx) (e:Expr) (t:TT):Prop:=
 ∀(pins:List (Addr×Obj)) (s:Shared) (σ:St) (H:Hp) (Q:Bool→Hp→Prop),Inv X pins σ H s→t σ H Q→wpAny (model X.prog X.w) X.A (isTrue e X.env (eval e X.env)) (TP X pins σ Q) X.xe s
noncomputable def PW (X:Cx) (e:Expr) (t:TT):Prop:=
 ∀(whole:Sem Value) (pins:List (Addr×Obj)) (s:Shared) (σ:St) (H:Hp) (Q:Bool→Hp→Prop),Inv X pins σ H s→t σ H Q→wpAny (model X.prog X.w) X.A (isTrue e X.env whole) (TP X pins σ Q) X.xe s
theorem PW.pt {X:Cx} {e:Expr} {t:TT} (h:PW X e t):PT X e t:=h _
noncomputable def PA (X:Cx) (es:List Expr) (t:TA):Prop:=
 ∀(pos:Pos) (pins:List (Addr×Obj)) (s:Shared) (σ:St) (H:Hp) (Q:List V→Hp→Prop),Inv X pins σ H s→t σ H Q→wpAny (model X.prog X.w) X.A (spliced (backTo pos (starEach es X.env))) (AP X pins σ Q) X.xe s
noncomputable def PS (X:Cx) (st:Stmt) (t:TS):Prop:=
 ∀(pins:List (Addr×Obj)) (s:Shared) (σ:St) (H:Hp) (D:Ends),Inv X pins σ H s→t D σ H→wpAny (model X.prog X.w) X.A (exec st X.env) (SP X pins D) X.xe s
noncomputable def PSs (X:Cx) (st:List Stmt) (t:TS):Prop:=
 ∀(pins:List (Addr×Obj)) (s:Shared) (σ:St) (H:Hp) (D:Ends),Inv X pins σ H s→t D σ H→wpAny (model X.prog X.w) X.A (execs st X.env) (SP X pins D) X.xe s
theorem thn {α:Type} {t:Sem α} {Q Q':α→Shared→Prop} {M:Model} {A:Around} {E:Value→Shared→Prop} {s:Shared} (h:wpAny M A t Q E s) (hQ:∀a s,Q a s→Q' a s):wpAny M A t Q' E s:=wpAny_mono h hQ fun _ _ x=>x
section
variable {X:Cx}
noncomputable def tVar (i:Nat):TE:=fun σ H Q=>∃v,σ[i]?=some (some v)∧Q v H
noncomputable def tC (v:V):TE:=fun _ H Q=>Q v H
theorem pe_var {i:Nat} {x:Str} {pos:Pos} (hN:X.N[i]?=some x) (hv:Vis X.env.scope x) (hd:(x == ("__debug__":Str))=false:=by decide) (hcd:(x == ("__classdict__":Str))=false:=by decide):PE X (.Name x pos) (tVar i):=by
 intro pins s σ H Q I h
 obtain ⟨v,e,h⟩:=h
 obtain ⟨m,hn,hl⟩:=I.loc
 obtain ⟨u,r,l⟩:=hl i x v hN e hv
 have fin:EP X pins σ Q u s:=⟨v,H,I,r,h⟩
 rcases l with ⟨hk,hm⟩ | ⟨hk,c,hc,hcell⟩
 ·exact wpAny_Name (wpAny_loadName_local I.ok.kind hk hn hm fin) hd
 ·rcases hk with hk | hk
  ·exact wpAny_Name (wpAny_loadName_cell I.ok.kind hk hc hcell fin) hd
  ·exact wpAny_Name (wpAny_loadName_free I.ok.kind hk hc hcell fin hcd) hd
theorem pe_int {i j pos}:PE X (.Constant (.int i) j pos) (tC (.int i)):=fun _ _ _ H _ I h=>wpAny_Constant_int ⟨.int i,H,I.tok _,⟨_,rfl⟩,h⟩
theorem pe_bl {b j pos}:PE X (.Constant (.bool b) j pos) (tC (.bl b)):=fun _ _ _ H _ I h=>Constant_bool ⟨.bl b,H,I,rfl,h⟩
theorem pe_non {j pos}:PE X (.Constant .none j pos) (tC .non):=fun _ _ _ H _ I h=>Constant_none ⟨.non,H,I,rfl,h⟩
theorem pe_str {x j pos}:PE X (.Constant (.str x) j pos) (tC (.str x)):=fun _ _ _ H _ I h=>Calls.Constant_str ⟨.str x,H,I.tok _,⟨_,rfl⟩,h⟩
noncomputable def Gl (X:Cx) (x:Str):Prop:=X.env.kindOf x=some .globalImplicit
theorem ld_glob {E:Value→Shared→Prop} {pins:List (Addr×Obj)} {s:Shared} {σ:St} {H:Hp} {x:Str} {u:Value} {pos:Pos} {Q:Value→Shared→Prop} (I:Inv X pins σ H s) (hg:Gl X x) (hm:X.mg x=some u) (h:Q u s)
  (hd:(x == ("__debug__":Str))=false:=by decide):wpAny (model X.prog X.w) X.A (eval (.Name x pos) X.env) Q E s:=
 Calls.Name_function_global I.ok.kind hg (Calls.loadGlobal_global (by rw [I.ok.glob];exact I.mod.glob.keeps I.bk) hm h) hd
theorem ld_blt {E:Value→Shared→Prop} {pins:List (Addr×Obj)} {s:Shared} {σ:St} {H:Hp} {x:Str} {u:Value} {pos:Pos} {Q:Value→Shared→Prop} (I:Inv X pins σ H s) (hg:Gl X x) (hm:X.mg x=none) (hv:bootBuiltins x=some u) (h:Q u s)
  (hn:x≠"__name__":=by decide) (hd:(x == ("__debug__":Str))=false:=by decide):wpAny (model X.prog X.w) X.A (eval (.Name x pos) X.env) Q E s:=by
 obtain ⟨mb,h1,h2⟩:=I.mod.blt
 exact Calls.Name_function_global I.ok.kind hg (Calls.loadGlobal_builtin (by rw [I.ok.glob];exact I.mod.glob.keeps I.bk) hm (by rw [I.ok.blt];exact h1.keeps I.bk) ((h2 x hn).trans hv) h) hd
theorem pe_bltn {x:Str} {v:V} {u:Value} {pos:Pos} (hg:Gl X x) (hm:X.mg x=none) (hv:bootBuiltins x=some u) (r:RelV v u) (hn:x≠"__name__":=by decide) (hd:(x == ("__debug__":Str))=false:=by decide):PE X (.Name x pos) (tC v):=
 fun _ _ _ H _ I h=>ld_blt I hg hm hv ⟨v,H,I,r,h⟩ hn hd
noncomputable def t2I (ta tb:TE) (k:Int→Int→Hp→Prop):St→Hp→Prop:=fun σ H=>ta σ H fun x H1=>tb σ H1 fun y H2=>∃i j,x=.int i∧y=.int j∧k i j H2
noncomputable def tAdd (ta tb:TE):TE:=fun σ H Q=>t2I ta tb (fun i j H2=>Q (.int (i+j)) H2) σ H
noncomputable def tSub (ta tb:TE):TE:=fun σ H Q=>t2I ta tb (fun i j H2=>Q (.int (i - j)) H2) σ H
noncomputable def tMul (ta tb:TE):TE:=fun σ H Q=>t2I ta tb (fun i j H2=>(-(2 ^ 64)<i∧i<2 ^ 64)∧Q (.int (i * j)) H2) σ H
variable {a b:Expr} {ta tb:TE} {pos:Pos}
noncomputable def PC (X:Cx) (op:CmpOp) (a b:Expr) (t:TE):Prop:=
 ∀(pins:List (Addr×Obj)) (s:Shared) (σ:St) (H:Hp) (Q:VK),Inv X pins σ H s→t σ H Q→
  wpAny (model X.prog X.w) X.A (eval a X.env) (fun v s₁=>wpAny (model X.prog X.w) X.A (eval b X.env) (fun u s₂=>wpAny (model X.prog X.w) X.A (compareOp op v u) (EP X pins σ Q) X.xe s₂) X.xe s₁) X.xe s
noncomputable def tCmp (p:Int→Int→Bool) (ta tb:TE):TE:=fun σ H Q=>t2I ta tb (fun i j H2=>Q (.bl (p i j)) H2) σ H
noncomputable abbrev tLt:TE→TE→TE:=tCmp fun i j=>decide (i<j)
noncomputable abbrev tLe:TE→TE→TE:=tCmp fun i j=>decide (i≤j)
noncomputable abbrev tGt:TE→TE→TE:=tCmp fun i j=>decide (j<i)
noncomputable abbrev tGe:TE→TE→TE:=tCmp fun i j=>decide (j≤i)
noncomputable abbrev tEqI:TE→TE→TE:=tCmp fun i j=>decide (i=j)
noncomputable abbrev tNeI:TE→TE→TE:=tCmp fun i j=>!decide (i=j)
noncomputable def tIsN (ta:TE):TE:=fun σ H Q=>ta σ H fun x H1=>Q (.bl (decide (x=.non))) H1
noncomputable def tNotN (ta:TE):TE:=fun σ H Q=>ta σ H fun x H1=>Q (.bl (!decide (x=.non))) H1
noncomputable def tB (t:TE):TT:=fun σ H Q=>t σ H fun x H1=>∃c,x=.bl c∧Q c H1
theorem pt_val {e:Expr} {t:TE} (h:PE X e t) (he:∀whole,isTrue e X.env whole=(do let v ←whole;standAt e.pos;holding [v] (truthy v)):=by intro _;rfl):PT X e (tB t):=by
 intro pins s σ H Q I hw
 refine isTrue_plain (thn (h pins s σ H _ I hw) fun v s1 ⟨x,H1,I1,r1,q1⟩=>?_) (he _)
 obtain ⟨d,rfl,q⟩:=q1
 cases r1
 exact wpAny_truthy_bool ⟨H1,I1,q⟩
variable {tA tB':TT} {rest:List Expr}
noncomputable def tAnd (t u:TT):TT:=fun σ H Q=>t σ H fun c H1=>if c=true then u σ H1 Q else Q false H1
noncomputable def tOr (t u:TT):TT:=fun σ H Q=>t σ H fun c H1=>if c=true then Q true H1 else u σ H1 Q
noncomputable def tNot (t:TT):TT:=fun σ H Q=>t σ H fun c H1=>Q (!c) H1
theorem pw_and1 (ha:PT X a tA):PW X (.BoolOp .And [a] pos) tA:=by
 intro wh pins s σ H Q I h
 refine isTrue_and (thn (ha pins s σ H Q I h) fun c s1 e=>?_)
 cases c with
 | true=>exact isTrue_and_nil e
 | false=>exact e
theorem pw_or1 (ha:PT X a tA):PW X (.BoolOp .Or [a] pos) tA:=by
 intro wh pins s σ H Q I h
 refine isTrue_or (thn (ha pins s σ H Q I h) fun c s1 e=>?_)
 cases c with
 | false=>exact isTrue_or_nil e
 | true=>exact e
theorem pw_and (ha:PT X a tA) (hb:PW X (.BoolOp .And (b::rest) pos) tB'):PW X (.BoolOp .And (a::b::rest) pos) (tAnd tA tB'):=by
 intro wh pins s σ H Q I h
 refine isTrue_and (thn (ha pins s σ H _ I h) fun c s1 hpat=>?_)
 obtain ⟨H1,I1,q1⟩:=hpat
 cases c with
 | true=>exact hb wh pins s1 σ H1 Q I1 q1
 | false=>exact ⟨H1,I1,q1⟩
theorem pw_or (ha:PT X a tA) (hb:PW X (.BoolOp .Or (b::rest) pos) tB'):PW X (.BoolOp .Or (a::b::rest) pos) (tOr tA tB'):=by
 intro wh pins s σ H Q I h
 refine isTrue_or (thn (ha pins s σ H _ I h) fun c s1 hpat=>?_)
 obtain ⟨H1,I1,q1⟩:=hpat
 cases c with
 | true=>exact ⟨H1,I1,q1⟩
 | false=>exact hb wh pins s1 σ H1 Q I1 q1
theorem pt_not (ha:PT X a tA):PT X (.UnaryOp .Not a pos) (tNot tA):=by
 intro pins s σ H Q I h
 exact isTrue_not (ha pins s σ H (fun c H1=>Q (!c) H1) I h)
noncomputable def tAndV (ta tb:TE):TE:=fun σ H Q=>ta σ H fun x H1=>∃c,x=.bl c∧if c=true then tb σ H1 Q else Q (.bl false) H1
noncomputable def tOrV (ta tb:TE):TE:=fun σ H Q=>ta σ H fun x H1=>∃c,x=.bl c∧if c=true then Q (.bl true) H1 else tb σ H1 Q
noncomputable def tNotV (ta:TE):TE:=fun σ H Q=>ta σ H fun x H1=>∃c,x=.bl c∧Q (.bl (!c)) H1
theorem pe_one {op} {t:TE} (h:PE X a t):PE X (.BoolOp op [a] pos) t:=fun pins s σ H Q I hw=>BoolOp_one (h pins s σ H Q I hw)
theorem pe_and (ha:PE X a ta) (hb:PE X (.BoolOp .And (b::rest) pos) tb):PE X (.BoolOp .And (a::b::rest) pos) (tAndV ta tb):=by
 intro pins s σ H Q I h
 refine BoolOp_and (thn (ha pins s σ H _ I h) fun v s1 hpat=>?_)
 obtain ⟨x,H1,I1,r1,q1⟩:=hpat
 obtain ⟨c,rfl,q1⟩:=q1
 cases r1
 refine wpAny_truthy_bool ?_
 cases c with
 | true=>exact hb pins s1 σ H1 Q I1 q1
 | false=>exact ⟨.bl false,H1,I1,rfl,q1⟩
theorem pe_not (ha:PE X a ta):PE X (.UnaryOp .Not a pos) (tNotV ta):=by
 intro pins s σ H Q I h
 refine UnaryOp_ (thn (ha pins s σ H _ I h) fun v s1 hpat=>?_)
 obtain ⟨x,H1,I1,r1,q1⟩:=hpat
 obtain ⟨c,rfl,q1⟩:=q1
 cases r1
 exact not_of (wpAny_truthy_bool ⟨.bl (!c),H1,I1,rfl,q1⟩)
noncomputable def tIf (t:TT) (ta tb:TE):TE:=fun σ H Q=>t σ H fun c H1=>if c=true then ta σ H1 Q else tb σ H1 Q
end
noncomputable def SqL (K:PySem.W.Frag) (H:Hp) (a:Addr) (xs:List V):Prop:=
 Rd H a (.lst xs)∨
  ∃(o:Obj) (its:Array Value) (n:Nat),K.lookup a=some o∧o.cls=.type "list"∧o.dict=none∧o.data=.seq its n∧its.size≤sizeLine∧Vals xs its.toList
noncomputable def SqT (K:PySem.W.Frag) (H:Hp) (a:Addr) (xs:List V):Prop:=
 Rd H a (.tup xs)∨
  ∃(o:Obj) (its:Array Value) (n:Nat),K.lookup a=some o∧o.cls=.type "tuple"∧o.data=.seq its n∧its.size≤sizeLine∧Vals xs its.toList
noncomputable def absV:Value→Option V
 | .none=>some .non
 | .bool b=>some (.bl b)
 | .int i _=>some (.int i)
 | .str x _=>some (.str x)
 | .bytes b _=>some (.byt b)
 | .float b _=>some (.flt b)
 | .ref a=>some (.ref a)
 | .type n=>some (.ty n)
 | _=>none
theorem RelV.abs {x:V} {u:Value} (r:RelV x u):absV u=some x:=by
 cases x with
 | non=>cases r;rfl
 | bl _=>cases r;rfl
 | int _=>obtain ⟨t,rfl⟩:=r;rfl
 | str _=>obtain ⟨t,rfl⟩:=r;rfl
 | byt _=>obtain ⟨t,rfl⟩:=r;rfl
 | flt _=>obtain ⟨t,rfl⟩:=r;rfl
 | ref _=>cases r;rfl
 | ty _=>cases r;rfl
theorem RelV.inj {x y:V} {u:Value} (r:RelV x u) (q:RelV y u):x=y:=Option.some.inj (r.abs.symm.trans q.abs)
theorem Vals.inj {xs ys:List V} {us:List Value} (h:Vals xs us) (g:Vals ys us):xs=ys:=by
 induction h generalizing ys with
 | nil=>cases g;rfl
 | cons r t ih=>
  cases g with
  | cons r' t'=>rw [r.inj r',ih t']
section
variable {X:Cx} {pins:List (Addr×Obj)} {σ:St} {H:Hp} {s:Shared} {a:Addr} {xs ys:List V}
theorem SqL.of {K:PySem.W.Frag} (h:H a=some (.lst xs)):SqL K H a xs:=.inl (.inl h)
theorem SqT.of {K:PySem.W.Frag} (h:H a=some (.tup xs)):SqT K H a xs:=.inl (.inl h)
theorem Inv.list (I:Inv X pins σ H s) (h:SqL X.K H a xs):∃its:List Value,Vals xs its∧PlainL s.heap a its.toArray∧xs.length≤sizeLine:=by
 rcases h with h | ⟨o,its,n,hk,hc,hd,hs,hz,r⟩
 ·obtain ⟨z,its,n,r,e⟩:=h.ok I.hok
  exact ⟨its,r,⟨_,n,e,rfl,rfl,rfl⟩,z⟩
 ·refine ⟨its.toList,r,⟨o,n,I.kIn a o hk,hc,hd,by simpa using hs⟩,?_⟩
  have e:=r.length
  simp only [Array.length_toList] at e
  omega
theorem Inv.tuple (I:Inv X pins σ H s) (h:SqT X.K H a xs):∃its:List Value,Vals xs its∧IsTup s.heap a its.toArray∧xs.length≤sizeLine:=by
 rcases h with h | ⟨o,its,n,hk,hc,hs,hz,r⟩
 ·obtain ⟨z,its,r,p⟩:=h.ok I.hok
  exact ⟨its,r,p.tup,z⟩
 ·refine ⟨its.toList,r,⟨o,I.kIn a o hk,hc,n,by simpa using hs⟩,?_⟩
  have e:=r.length
  simp only [Array.length_toList] at e
  omega
theorem Inv.list_inj (I:Inv X pins σ H s) (h:SqL X.K H a xs) (h':SqL X.K H a ys):xs=ys:=by
 obtain ⟨its,r,⟨o,n,e,_,_,d⟩,_⟩:=I.list h
 obtain ⟨its',r',⟨o',n',e',_,_,d'⟩,_⟩:=I.list h'
 rw [e] at e';cases e'
 rw [d] at d'
 injection d' with d1 _
 have:its=its':=by simpa using congrArg Array.toList d1
 subst this
 exact r.inj r'
theorem Inv.tuple_inj (I:Inv X pins σ H s) (h:SqT X.K H a xs) (h':SqT X.K H a ys):xs=ys:=by
 obtain ⟨its,r,⟨o,e,_,n,d⟩,_⟩:=I.tuple h
 obtain ⟨its',r',⟨o',e',_,n',d'⟩,_⟩:=I.tuple h'
 rw [e] at e';cases e'
 rw [d] at d'
 injection d' with d1 _
 have:its=its':=by simpa using congrArg Array.toList d1
 subst this
 exact r.inj r'
end
noncomputable abbrev Cx.wish (X:Cx) (E:Value→Shared→Prop):Cx:={X with xe:=E}
noncomputable abbrev Cx.nox (X:Cx):Cx:=X.wish fun _ _=>False
theorem Cx.Ok.wish {X:Cx} (ok:X.Ok) (E:Value→Shared→Prop):(X.wish E).Ok:=
 ⟨ok.mod,ok.kind,ok.glob,ok.blt,ok.above,ok.inj,ok.has,ok.cab,ok.hd,ok.frames,ok.stk,ok.exf,ok.bs,ok.bsz,ok.noex,ok.exfs,ok.funs,ok.frf⟩
theorem Cx.Ok.unwish {X:Cx} {E:Value→Shared→Prop} (ok:(X.wish E).Ok):X.Ok:=
 ⟨ok.mod,ok.kind,ok.glob,ok.blt,ok.above,ok.inj,ok.has,ok.cab,ok.hd,ok.frames,ok.stk,ok.exf,ok.bs,ok.bsz,ok.noex,ok.exfs,ok.funs,ok.frf⟩
section
variable {X:Cx} {pins:List (Addr×Obj)} {σ:St} {H:Hp} {s:Shared} {E:Value→Shared→Prop}
theorem Inv.wish (I:Inv X pins σ H s) (E:Value→Shared→Prop):Inv (X.wish E) pins σ H s:=⟨I.ok.wish E,I.os,I.bare,I.base,I.loc,I.cell,I.free,I.freeC,I.pin,I.hok,I.len⟩
theorem Inv.unwish (I:Inv (X.wish E) pins σ H s):Inv X pins σ H s:=⟨I.ok.unwish,I.os,I.bare,I.base,I.loc,I.cell,I.free,I.freeC,I.pin,I.hok,I.len⟩
theorem SP.unwish {D:Ends} {f:Flow} {s':Shared} (h:SP (X.wish E) pins D f s'):SP X pins D f s':=by
 cases f with
 | next=>obtain ⟨σ',H',I,q⟩:=h;exact ⟨σ',H',I.unwish,q⟩
 | brk=>obtain ⟨σ',H',I,q⟩:=h;exact ⟨σ',H',I.unwish,q⟩
 | cont=>obtain ⟨σ',H',I,q⟩:=h;exact ⟨σ',H',I.unwish,q⟩
 | ret u=>obtain ⟨v,σ',H',I,r,q⟩:=h;exact ⟨v,σ',H',I.unwish,r,q⟩
theorem PSs.nox {st:List Stmt} {t:TS} (h:PSs X.nox st t):PSs X st t:=fun pins s σ H D I hw=>
 wpAny_mono (h pins s σ H D (I.wish _) hw) (fun _ _ q=>q.unwish) fun _ _ z=>False.elim z
end
section
variable {X:Cx} {st:Stmt} {rest:List Stmt} {t u:TS} {e:Expr} {te:TE} {pos:Pos}
noncomputable def tNext:TS:=fun D σ H=>D.nx σ H
noncomputable def tSeq (t u:TS):TS:=fun D σ H=>t {D with nx:=u D} σ H
theorem pss_nil:PSs X [] tNext:=fun _ _ σ H _ I h=>wpAny_execs_nil ⟨σ,H,I,h⟩
theorem pss_cons (h1:PS X st t) (h2:PSs X rest u):PSs X (st::rest) (tSeq t u):=by
 intro pins s σ H D I h
 refine wpAny_execs_cons (thn (h1 pins s σ H {D with nx:=u D} I h) fun f s1 q=>?_)
 cases f with
 | next=>
  obtain ⟨σ',H',I',q⟩:=q
  exact h2 pins s1 σ' H' D I' q
 | ret v=>exact q
 | brk=>exact q
 | cont=>exact q
theorem pss_one (h1:PS X st t):PSs X [st] t:=by
 intro pins s σ H D I h
 refine wpAny_execs_cons (thn (h1 pins s σ H D I h) fun f s1 q=>?_)
 cases f with
 | next=>exact wpAny_execs_nil q
 | ret v=>exact q
 | brk=>exact q
 | cont=>exact q
noncomputable def tBreak:TS:=fun D σ H=>D.bk σ H
noncomputable def tCont:TS:=fun D σ H=>D.ct σ H
theorem Inv.quiet {pins:List (Addr×Obj)} {σ:St} {H:Hp} {s:Shared} (I:Inv X pins σ H s):interactive X.env=false:=by simp [interactive,I.ok.kind]
noncomputable def tDrop (te:TE):TS:=fun D σ H=>te σ H fun _ H1=>D.nx σ H1
theorem ps_expr (he:PE X e te) (hs:swapsWith e none pos.line X.env=pure false:=by rfl):PS X (.Expr e pos) (tDrop te):=by
 intro pins s σ H D I h
 exact wpAny_Expr_any (thn (he pins s σ H _ I h) fun v s1 ⟨x,H1,I1,r1,q1⟩=>⟨σ,H1,I1,q1⟩) I.quiet hs
noncomputable def tRet (te:TE):TS:=fun D σ H=>te σ H D.rt
theorem ps_ret (he:PE X e te):PS X (.Return (some e) pos) (tRet te):=by
 intro pins s σ H D I h
 exact wpAny_Return_some (thn (he pins s σ H _ I h) fun v s1 ⟨x,H1,I1,r1,q1⟩=>⟨x,σ,H1,I1,r1,q1⟩)
noncomputable def tRetN:TS:=fun D _ H=>D.rt .non H
noncomputable def tIfS (c:TT) (t u:TS):TS:=fun D σ H=>c σ H fun b H1=>if b=true then t D σ H1 else u D σ H1
theorem ps_if {c:Expr} {a b:List Stmt} {tc:TT} (hc:PT X c tc) (ha:PSs X a t) (hb:PSs X b u):PS X (.If c a b pos) (tIfS tc t u):=by
 intro pins s σ H D I h
 refine wpAny_If (thn (hc pins s σ H _ I h) fun d s1 hpat=>?_)
 obtain ⟨H1,I1,q1⟩:=hpat
 cases d with
 | true=>exact ha pins s1 σ H1 D I1 q1
 | false=>exact hb pins s1 σ H1 D I1 q1
noncomputable def tNever:TS:=fun _ _ _=>False
end
noncomputable abbrev TG:=V→St→Hp→(St→Hp→Prop)→Prop
noncomputable abbrev TGs:=List V→St→Hp→(St→Hp→Prop)→Prop
noncomputable def PG (X:Cx) (target:Expr) (t:TG):Prop:=
 ∀(pins:List (Addr×Obj)) (s:Shared) (σ:St) (H:Hp) (v:V) (u:Value) (Q:St→Hp→Prop),Inv X pins σ H s→RelV v u→t v σ H Q→
  wpAny (model X.prog X.w) X.A (assign target X.env u) (fun _ s'=>∃σ' H',Inv X pins σ' H' s'∧Q σ' H') X.xe s
noncomputable def PGs (X:Cx) (ts:List Expr) (t:TGs):Prop:=
 ∀(pins:List (Addr×Obj)) (s:Shared) (σ:St) (H:Hp) (vs:List V) (us:List Value) (Q:St→Hp→Prop),Inv X pins σ H s→Vals vs us→t vs σ H Q→
  wpAny (model X.prog X.w) X.A (assignInOrder ((assignEach ts X.env).map (·.2)) us) (fun _ s'=>∃σ' H',Inv X pins σ' H' s'∧Q σ' H') X.xe s
noncomputable abbrev TSet:=V→V→V→Hp→(Hp→Prop)→Prop
noncomputable def PSet (X:Cx) (t:TSet):Prop:=
 ∀(pins:List (Addr×Obj)) (s:Shared) (σ:St) (H:Hp) (o i v:V) (ov iv u:Value) (Q:Hp→Prop),Inv X pins σ H s→RelV o ov→RelV i iv→RelV v u→t o i v H Q→
  wpAny (model X.prog X.w) X.A (setItem ov iv u) (fun _ s'=>∃H',Inv X pins σ H' s'∧Q H') X.xe s
noncomputable abbrev TIp:=V→V→Hp→VK→Prop
noncomputable def PIp (X:Cx) (op:Operator) (t:TIp):Prop:=
 ∀(pins:List (Addr×Obj)) (s:Shared) (σ:St) (H:Hp) (x y:V) (v u:Value) (Q:VK),Inv X pins σ H s→RelV x v→RelV y u→t x y H Q→
  wpAny (model X.prog X.w) X.A (inplaceOp op v u) (EP X pins σ Q) X.xe s
section
variable {X:Cx} {pos:Pos}
noncomputable def gName (i:Nat):TG:=fun v σ H Q=>Q (σ.set i (some v)) H
theorem pg_name {i:Nat} {x:Str} (hN:X.N.Nodup) (hi:X.N[i]?=some x) (hx:Loc X.env.scope x) (hf:X.fn x=true∨X.env.scope.names.lookup x=some .local:=by first | exact .inl rfl | exact .inr rfl | assumption):PG X (.Name x pos) (gName i):=by
 intro pins s σ H v u Q I r h
 exact wpAny_assign_Name (store_ok I hN hi hx r (fun s' I'=>⟨_,H,I',h⟩) hf)
noncomputable def gNil:TGs:=fun vs σ H Q=>vs=[]∧Q σ H
noncomputable def gCons (t:TG) (u:TGs):TGs:=fun vs σ H Q=>∃v r,vs=v::r∧t v σ H fun σ' H'=>u r σ' H' Q
theorem pgs_nil:PGs X [] gNil:=by
 intro pins s σ H vs us Q I r h
 obtain ⟨e,h⟩:=h
 subst e
 cases r
 exact assignInOrder_nil ⟨σ,H,I,h⟩
theorem pgs_cons {e:Expr} {es:List Expr} {t:TG} {u:TGs} (h1:PG X e t) (h2:PGs X es u)
  (hs:(assignEach (e::es) X.env).map (·.2)=assign e X.env::(assignEach es X.env).map (·.2):=by rfl):PGs X (e::es) (gCons t u):=by
 intro pins s σ H vs us Q I r h
 obtain ⟨v,vr,e1,h⟩:=h
 subst e1
 cases r with
 | cons r rr=>
  rw [hs]
  refine assignInOrder_cons (thn (h1 pins s σ H _ _ _ I r h) fun _ s1 hpat=>?_)
  obtain ⟨σ1,H1,I1,q1⟩:=hpat
  exact h2 pins s1 σ1 H1 _ _ Q I1 rr q1
noncomputable def gTup (K:PySem.W.Frag) (n:Nat) (t:TGs):TG:=fun v σ H Q=>∃a xs,v=.ref a∧SqT K H a xs∧xs.length=n∧t xs σ H Q
theorem pg_tup {es:List Expr} {k:Nat} {t:TGs} {n:Nat} (hc:X.calm=true) (h:PGs X es t)
  (hn:(assignEach es X.env).length=n:=by rfl) (hst:(assignEach es X.env).findIdx? (·.1)=none:=by rfl):PG X (.Tuple es k pos) (gTup X.K n t):=by
 intro pins s σ H v u Q I r hw
 obtain ⟨a,xs,e1,hq,hl,hw⟩:=hw
 subst e1
 cases r
 obtain ⟨its,rv,ht,hz⟩:=I.tuple hq
 refine assign_Tuple_tuple (I.ok.hd hc) ht (by simp [hn,←hl,rv.length]) hst fun h' hx=>?_
 have I1:Inv X pins σ H {s with heap:=h'}:=I.kept (t':=s.toks) fun b o e=>hx b o (Nat.ne_of_lt (Heap.lt_size e)) e
 exact h pins _ σ H xs _ Q I1 (by simpa using rv) hw
noncomputable def gSub (to ti:TE) (t:TSet):TG:=fun v σ H Q=>to σ H fun o H1=>ti σ H1 fun i H2=>t o i v H2 fun H3=>Q σ H3
theorem pg_sub {o i:Expr} {to ti:TE} {t:TSet} (ho:PE X o to) (hi:PE X i ti) (hs:PSet X t)
  (ha:∀v,assign (.Subscript o i pos) X.env v=(do
   let ov ←holding [v] (eval o X.env)
   let iv ←holding [v,ov] (eval i X.env)
   standAt pos
   holding [v,ov,iv] (setItem ov iv v)
   release [v,ov,iv] []):=by intro _;rfl):PG X (.Subscript o i pos) (gSub to ti t):=by
 intro pins s σ H v u Q I r h
 rw [ha]
 refine wpAny_bind (wpAny_holding (thn (ho pins s σ H _ I h) fun ov s1 hpat=>?_))
 obtain ⟨x,H1,I1,r1,q1⟩:=hpat
 refine wpAny_bind (wpAny_holding (thn (hi pins s1 σ H1 _ I1 q1) fun iv s2 hpat=>?_))
 obtain ⟨y,H2,I2,r2,q2⟩:=hpat
 refine wpAny_bind (wpAny_standAt (wpAny_bind (wpAny_holding (thn (hs pins s2 σ H2 x y v ov iv u _ I2 r1 r2 r q2) fun _ s3 hpat=>?_))))
 obtain ⟨H3,I3,q3⟩:=hpat
 exact wpAny_release ⟨σ,H3,I3,q3⟩
noncomputable def tAsg (te:TE) (g:TG):TS:=fun D σ H=>te σ H fun x H1=>g x σ H1 D.nx
theorem ps_asg {tg e:Expr} {te:TE} {g:TG} (he:PE X e te) (hg:PG X tg g) (hs:swapsWithSole [tg] e pos.line X.env=pure false:=by rfl) (hw:swappedStores [tg] e X.env=pure none:=by rfl)
  (h1:(assignEach [tg] X.env).map (·.2)=[assign tg X.env]:=by rfl):PS X (.Assign [tg] e pos) (tAsg te g):=by
 intro pins s σ H D I h
 refine wpAny_Assign_stores (thn (he pins s σ H _ I h) fun v s1 ⟨x,H1,I1,r1,q1⟩=>?_) hs hw
 rw [h1]
 exact thn (hg pins s1 σ H1 x v _ I1 r1 q1) fun _ s2 q=>q
theorem ps_set {i:Nat} {x:Str} {e:Expr} {te:TE} {pos':Pos} (hN:X.N.Nodup) (hi:X.N[i]?=some x) (hx:Loc X.env.scope x) (he:PE X e te) (hs:swapsWith e (some (.Name x pos')) pos.line X.env=pure false:=by rfl) (hf:X.fn x=true∨X.env.scope.names.lookup x=some .local:=by first | exact .inl rfl | exact .inr rfl | assumption):
  PS X (.Assign [.Name x pos'] e pos) (tAsg te (gName i)):=by
 intro pins s σ H D I h
 refine wpAny_Assign_Name (thn (he pins s σ H _ I h) fun v s1 hpat=>?_) hs
 obtain ⟨y,H1,I1,r1,q1⟩:=hpat
 exact store_ok I1 hN hi hx r1 (fun s2 I2=>⟨_,H1,I2,q1⟩) hf
noncomputable def tPar (i j:Nat) (ta:TA):TS:=fun D σ H=>ta σ H fun vs H1=>∃v w,vs=[v,w]∧D.nx ((σ.set i (some v)).set j (some w)) H1
noncomputable def tAug (i:Nat) (te:TE) (ti:TIp):TS:=fun D σ H=>∃x,σ[i]?=some (some x)∧te σ H fun y H1=>ti x y H1 fun z H2=>D.nx (σ.set i (some z)) H2
noncomputable def tAugS (to ti te:TE) (tget:V→V→Hp→VK→Prop) (tip:TIp) (tset:TSet):TS:=fun D σ H=>to σ H fun o H1=>ti σ H1 fun i H2=>tget o i H2 fun x H3=>te σ H3 fun y H4=>tip x y H4 fun z H5=>tset o i z H5 fun H6=>D.nx σ H6
noncomputable def PGet (X:Cx) (t:V→V→Hp→VK→Prop):Prop:=
 ∀(pins:List (Addr×Obj)) (s:Shared) (σ:St) (H:Hp) (o i:V) (ov iv:Value) (Q:VK),Inv X pins σ H s→RelV o ov→RelV i iv→t o i H Q→
  wpAny (model X.prog X.w) X.A (getItem ov iv) (EP X pins σ Q) X.xe s
noncomputable def ipI (f:Int→Int→Int):TIp:=fun x y H Q=>∃i j,x=.int i∧y=.int j∧Q (.int (f i j)) H
end
section
variable {X:Cx} {pos:Pos}
noncomputable def tWhile (c:TT) (tb:TS):TS:=fun D σ H=>∃W:Nat→St→Hp→Prop,(∃m,W m σ H)∧∀m σ H,W m σ H→
 c σ H fun b H1=>if b=true then ∃N:St→Hp→Prop,(∀σ' H',N σ' H'→∃m',m'<m∧W m' σ' H')∧tb {D with nx:=N,ct:=N,bk:=D.nx} σ H1 else D.nx σ H1
theorem ps_while {c:Expr} {body:List Stmt} {tc:TT} {tb:TS} (hp:PassesOwn (model X.prog X.w) X.A X.env X.xe) (hc:PT X c tc) (hb:PSs X body tb):PS X (.While c body [] pos) (tWhile tc tb):=by
 intro pins s σ H D I h
 obtain ⟨W,⟨m0,w0⟩,turn⟩:=h
 refine wpAny_While (codeAny_whileLoop (fun n s'=>∃σ' H',Inv X pins σ' H' s'∧W n σ' H') ?_ m0 ⟨σ,H,I,w0⟩)
 rintro n s1 ⟨σ1,H1,I1,w1⟩
 refine wpAny_passesOwn hp (thn (hc pins s1 σ1 H1 _ I1 (turn n σ1 H1 w1)) fun b s2 hpat=>?_)
 obtain ⟨H2,I2,q2⟩:=hpat
 cases b with
 | true=>
  obtain ⟨N,hN,q2⟩:=q2
  rw [if_pos rfl]
  refine wpAny_passesOwn hp (thn (hb pins s2 σ1 H2 _ I2 q2) fun f s3 q3=>?_)
  cases f with
  | next=>
   obtain ⟨σ3,H3,I3,n3⟩:=q3
   obtain ⟨m',hm,w3⟩:=hN σ3 H3 n3
   exact ⟨m',hm,σ3,H3,I3,w3⟩
  | cont=>
   obtain ⟨σ3,H3,I3,n3⟩:=q3
   obtain ⟨m',hm,w3⟩:=hN σ3 H3 n3
   exact ⟨m',hm,σ3,H3,I3,w3⟩
  | brk=>exact q3
  | ret v=>exact q3
 | false=>
  rw [if_neg Bool.false_ne_true]
  exact wpAny_execs_nil ⟨σ1,H2,I2,q2⟩
end
structure It where
 go:Nat→Hp→Prop
 yld:Nat→Hp→V→Hp→Prop
 stop:Nat→Hp→Prop
noncomputable def FpOk (X:Cx) (pins:List (Addr×Obj)) (H:Hp) (b:Addr):Prop:=
 H b=none∧b≠X.env.locals∧b∉X.fs∧(b∈X.ex∨X.s₀.heap.objs.size≤b)∧(∀x c,X.env.cells.lookup x=some c→c≠b)∧∀p∈X.pn++pins,p.1≠b
theorem Inv.fpOk {X:Cx} {pins:List (Addr×Obj)} {σ:St} {H H':Hp} {s:Shared} {b:Addr} (I:Inv X pins σ H s) (hb:s.heap.objs.size≤b) (hn:H' b=none):FpOk X pins H' b:=by
 refine ⟨hn,Nat.ne_of_gt (Nat.lt_of_lt_of_le I.lt hb),I.nofs hb,.inr (Nat.le_trans I.sz hb),fun x c e z=>?_,fun p hp z=>?_⟩
 ·obtain ⟨v,q⟩:=I.cell x c e
  exact absurd (Nat.lt_of_lt_of_le q.lt (by rw [z];exact hb)) (Nat.lt_irrefl _)
 ·exact absurd (Nat.lt_of_lt_of_le (Heap.lt_size (I.pin p hp).1) (by rw [z];exact hb)) (Nat.lt_irrefl _)
structure Turn (P:Program) (w:World) (K:PySem.W.Frag) (tg:Expr) (J:It) (fp:List Addr) (it:Addr) (tn:Nat→Heap→Prop):Prop where
 mem:it∈fp
 obj:∀i h,tn i h→∀b∈fp,∃o,h.get? b=some o∧∀v,o.data≠.cell v
 keep:∀i h h',tn i h→(∀b∈fp,∀o,h.get? b=some o→h'.get? b=some o)→tn i h'
 item:∀(X:Cx),X.prog=P→X.w=w→X.K=K→X.calm=true→∀(i:Nat) (pins:List (Addr×Obj)) (s:Shared) (σ:St) (H:Hp) (E:Value→Shared→Prop),Inv X pins σ H s→(∀b∈fp,FpOk X pins H b)→tn i s.heap→J.go i H→
  wpAny (model P w) X.A (pyNext (.ref it)) (fun r s1=>∃u,r=some u∧
   wpAny (model P w) X.A (letOwnedTupleGo tg (.ref it) u) (fun _ s2=>∃x H',Inv X pins σ H' s2∧RelV x u∧J.yld i H x H'∧tn (i+1) s2.heap∧∀b∈fp,H' b=none) E s1) E s
 done:∀(X:Cx),X.prog=P→X.w=w→X.K=K→X.calm=true→∀(i:Nat) (pins:List (Addr×Obj)) (s:Shared) (σ:St) (H:Hp) (E:Value→Shared→Prop),Inv X pins σ H s→(∀b∈fp,FpOk X pins H b)→tn i s.heap→J.stop i H→
  wpAny (model P w) X.A (pyNext (.ref it)) (fun r s1=>r=none∧Inv X pins σ H s1) E s
 self:∀(A:Around) (i:Nat) (s:Shared) (Q:Value→Shared→Prop) (E:Value→Shared→Prop),tn i s.heap→Q (.ref it) s→wpAny (model P w) A (pyIter (.ref it)) Q E s
noncomputable abbrev TI:=St→Hp→(It→Hp→Prop)→Prop
noncomputable def PIE (X:Cx) (pins:List (Addr×Obj)) (σ:St) (tg:Expr) (R:It→Hp→Prop) (itv:Value) (s2:Shared):Prop:=
 ∃(it:Addr) (fp:List Addr) (tn:Nat→Heap→Prop) (J:It) (H':Hp),itv=.ref it∧Inv X pins σ H' s2∧Turn X.prog X.w X.K tg J fp it tn∧tn 0 s2.heap∧(∀b∈fp,FpOk X pins H' b)∧R J H'
noncomputable def PI (X:Cx) (tg iter:Expr) (wi:TI):Prop:=
 ∀(pins:List (Addr×Obj)) (s:Shared) (σ:St) (H:Hp) (R:It→Hp→Prop),Inv X pins σ H s→wi σ H R→
  wpAny (model X.prog X.w) X.A (eval iter X.env) (fun v s1=>wpAny (model X.prog X.w) X.A (pyIter v) (PIE X pins σ tg R) X.xe s1) X.xe s
theorem go_of {M:Model} {A:Around} {E:Value→Shared→Prop} {s:Shared} {tg:Expr} {it:Addr} {u:Value} {o:Obj} {n:String} {vs:Array Value} {Q:Unit→Shared→Prop} (ho:s.heap.get? it=some o) (hc:o.cls=.type n) (hd:o.data=.fields vs)
  (hn:["enumerate","zip","dict_itemiterator","dict_reverseitemiterator","odict_iterator","itertools.zip_longest","itertools.pairwise"].contains n=false) (hQ:Q () s):wpAny M A (letOwnedTupleGo tg (.ref it) u) Q E s:=by
 unfold letOwnedTupleGo
 cases tg <;> first
  | exact wpAny_pure hQ
  | (cases u <;> first
    | exact wpAny_pure hQ
    | (refine wpAny_bind (wpAny_load ho ?_)
       rw [hc,hd]
       show wpAny M A (if (["enumerate","zip","dict_itemiterator","dict_reverseitemiterator","odict_iterator","itertools.zip_longest","itertools.pairwise"].contains n && vs[0]? == some (rawInt _))=true then _ else _) Q E s
       rw [if_neg (by intro h;rw [hn,Bool.false_and] at h;cases h)]
       exact wpAny_pure hQ))
noncomputable def Itl (K:PySem.W.Frag) (a:Addr):It:=
 ⟨fun i H=>∃xs x,SqL K H a xs∧xs[i]?=some x,fun i H x H'=>H'=H∧∀xs,SqL K H a xs→xs[i]?=some x,fun i H=>∃xs,SqL K H a xs∧xs.length≤i⟩
noncomputable def Itt (K:PySem.W.Frag) (a:Addr):It:=
 ⟨fun i H=>∃xs x,SqT K H a xs∧xs[i]?=some x,fun i H x H'=>H'=H∧∀xs,SqT K H a xs→xs[i]?=some x,fun i H=>∃xs,SqT K H a xs∧xs.length≤i⟩
noncomputable def Itr (lo:Int) (n:Nat):It:=⟨fun i _=>i<n,fun i H x H'=>H'=H∧x=.int (lo+i),fun i _=>n≤i⟩
theorem turn_list {P:Program} {w:World} {K:PySem.W.Frag} {tg:Expr} (a it:Addr):Turn P w K tg (Itl K a) [it] it (fun i h=>h.IsListIter it a i) where
 mem:=by simp
 obj:=fun i h st b hb=>by
  have e:b=it:=by simpa using hb
  subst e
  obtain ⟨o,e,c,d⟩:=st
  exact ⟨o,e,fun v z=>by rw [d] at z;cases z⟩
 keep:=fun i h h' st k=>st.at fun o e=>k it (by simp) o e
 item:=by
  intro X hP hw hK hc i pins s σ H E I hf st hg
  subst hP hw hK
  obtain ⟨xs,x,hq,hx⟩:=hg
  obtain ⟨its,rv,p,hz⟩:=I.list hq
  obtain ⟨u,hu,ru⟩:=rv.get hx
  obtain ⟨f0,f1,f2,f3,f4,f5⟩:=hf it (by simp)
  refine wpAny_pyNext_list_item st p.isList (x:=u) (by simpa using hu) fun h' st' sb=>?_
  have I1:Inv X pins σ H {s with heap:=h'}:=I.turned (t':=s.toks) (fun b o hb e=>(sb.2 b hb).trans e) f0 f1 f3 f4 f5
  obtain ⟨o,e,c,d⟩:=id st'
  exact ⟨u,rfl,go_of (s:={s with heap:=h'}) e c d (by decide) ⟨x,H,I1,ru,⟨rfl,fun ys hy=>by rw [I.list_inj hy hq];exact hx⟩,st',fun b hb=>(hf b hb).1⟩⟩
 done:=by
  intro X hP hw hK hc i pins s σ H E I hf st hg
  subst hP hw hK
  obtain ⟨xs,hq,hx⟩:=hg
  obtain ⟨its,rv,p,hz⟩:=I.list hq
  obtain ⟨f0,f1,f2,f3,f4,f5⟩:=hf it (by simp)
  have hl:=rv.length
  exact wpAny_pyNext_list_end (I.ok.hd hc) st p.isList (by simp;omega) fun h' eb=>⟨rfl,I.turned (t':=s.toks) (fun b o hb e=>eb b o hb e) f0 f1 f3 f4 f5⟩
 self:=fun _ _ _ _ _ st h=>wpAny_pyIter_listiter st h
theorem turn_tuple {P:Program} {w:World} {K:PySem.W.Frag} {tg:Expr} (a it:Addr):Turn P w K tg (Itt K a) [it] it (fun i h=>h.IsTupleIter it a i) where
 mem:=by simp
 obj:=fun i h st b hb=>by
  have e:b=it:=by simpa using hb
  subst e
  obtain ⟨o,e,c,d⟩:=st
  exact ⟨o,e,fun v z=>by rw [d] at z;cases z⟩
 keep:=fun i h h' st k=>st.at fun o e=>k it (by simp) o e
 item:=by
  intro X hP hw hK hc i pins s σ H E I hf st hg
  subst hP hw hK
  obtain ⟨xs,x,hq,hx⟩:=hg
  obtain ⟨its,rv,p,hz⟩:=I.tuple hq
  obtain ⟨u,hu,ru⟩:=rv.get hx
  obtain ⟨f0,f1,f2,f3,f4,f5⟩:=hf it (by simp)
  refine wpAny_pyNext_tuple_item st (show s.heap.IsTuple a its.toArray from p) (x:=u) (by simpa using hu) fun h' st' sb=>?_
  have I1:Inv X pins σ H {s with heap:=h'}:=I.turned (t':=s.toks) (fun b o hb e=>(sb.2 b hb).trans e) f0 f1 f3 f4 f5
  obtain ⟨o,e,c,d⟩:=id st'
  exact ⟨u,rfl,go_of (s:={s with heap:=h'}) e c d (by decide) ⟨x,H,I1,ru,⟨rfl,fun ys hy=>by rw [I.tuple_inj hy hq];exact hx⟩,st',fun b hb=>(hf b hb).1⟩⟩
 done:=by
  intro X hP hw hK hc i pins s σ H E I hf st hg
  subst hP hw hK
  obtain ⟨xs,hq,hx⟩:=hg
  obtain ⟨its,rv,p,hz⟩:=I.tuple hq
  obtain ⟨f0,f1,f2,f3,f4,f5⟩:=hf it (by simp)
  have hl:=rv.length
  exact wpAny_pyNext_tuple_end (I.ok.hd hc) st (show s.heap.IsTuple a its.toArray from p) (by simp;omega) fun h' eb=>⟨rfl,I.turned (t':=s.toks) (fun b o hb e=>eb b o hb e) f0 f1 f3 f4 f5⟩
 self:=fun _ _ _ _ _ st h=>wpAny_pyIter_tupleiter st h
theorem turn_range {P:Program} {w:World} {K:PySem.W.Frag} {tg:Expr} (it:Addr) (lo:Int) (n:Nat):Turn P w K tg (Itr lo n) [it] it (fun i h=>IsRangeIter h it (lo+(i:Nat) * 1) ((n:Int) - (i:Nat)) 1) where
 mem:=by simp
 obj:=fun i h st b hb=>by
  have e:b=it:=by simpa using hb
  subst e
  exact ⟨_,st,fun v z=>by
   have z':Data.fields _=Data.cell v:=z
   cases z'⟩
 keep:=fun i h h' st k=>k it (by simp) _ st
 item:=by
  intro X hP hw hK hc i pins s σ H E I hf st hg
  subst hP hw hK
  obtain ⟨f0,f1,f2,f3,f4,f5⟩:=hf it (by simp)
  have W:=Walks.range (prog:=X.prog) (w:=X.w) (I.ok.hd hc) it lo 1 n
  refine W.item i s _ _ hg st fun v h' tk hv st' kk=>?_
  obtain ⟨t,rfl⟩:=hv
  have I1:Inv X pins σ H {s with heap:=h',toks:=tk}:=I.turned (fun b o hb e=>kk b o (by simpa using hb) e) f0 f1 f3 f4 f5
  refine ⟨_,rfl,go_of (s:={s with heap:=h',toks:=tk}) (n:="range_iterator") st' rfl rfl (by decide) ⟨.int (lo+i),H,I1,⟨t,?_⟩,⟨rfl,rfl⟩,st',fun b hb=>(hf b hb).1⟩⟩
  rw [Int.mul_one]
 done:=by
  intro X hP hw hK hc i pins s σ H E I hf st hg
  subst hP hw hK
  obtain ⟨f0,f1,f2,f3,f4,f5⟩:=hf it (by simp)
  exact wpAny_pyNext_range_end (I.ok.hd hc) st (by have:n≤i:=hg;omega) fun h' eb=>⟨rfl,I.turned (t':=s.toks) (fun b o hb e=>eb b o hb e) f0 f1 f3 f4 f5⟩
 self:=fun _ _ _ _ _ st h=>wpAny_pyIter_rangeiter st h
section
variable {X:Cx} {tg:Expr}
noncomputable def iList (K:PySem.W.Frag) (tl:TE):TI:=fun σ H R=>tl σ H fun x H1=>∃a,x=.ref a∧(∃xs,SqL K H1 a xs)∧R (Itl K a) H1
noncomputable def iTup (K:PySem.W.Frag) (tl:TE):TI:=fun σ H R=>tl σ H fun x H1=>∃a,x=.ref a∧(∃xs,SqT K H1 a xs)∧R (Itt K a) H1
theorem pi_list {l:Expr} {tl:TE} (hl:PE X l tl):PI X tg l (iList X.K tl):=by
 intro pins s σ H R I h
 refine thn (hl pins s σ H _ I h) fun v s1 hpat=>?_
 obtain ⟨x,H1,I1,r1,q1⟩:=hpat
 obtain ⟨a,e,⟨xs,hq⟩,q⟩:=q1
 subst e
 cases r1
 obtain ⟨its,rv,p,hz⟩:=I1.list hq
 refine wpAny_pyIter_list p.isList ?_
 refine ⟨s1.heap.objs.size,[s1.heap.objs.size],_,_,H1,rfl,I1.kept (t':=s1.toks) fun b o e=>Heap.get?_push_of_some _ e,turn_list a _,⟨_,Heap.get?_push_size _ rfl,rfl,rfl⟩,fun b hb=>?_,q⟩
 have e:b=s1.heap.objs.size:=by simpa using hb
 subst e
 exact I1.fpOk (Nat.le_refl _) (I1.hok.fresh (Nat.le_refl _))
theorem pi_tup {l:Expr} {tl:TE} (hl:PE X l tl):PI X tg l (iTup X.K tl):=by
 intro pins s σ H R I h
 refine thn (hl pins s σ H _ I h) fun v s1 hpat=>?_
 obtain ⟨x,H1,I1,r1,q1⟩:=hpat
 obtain ⟨a,e,⟨xs,hq⟩,q⟩:=q1
 subst e
 cases r1
 obtain ⟨its,rv,p,hz⟩:=I1.tuple hq
 refine wpAny_pyIter_tuple (show s1.heap.IsTuple a its.toArray from p) ?_
 refine ⟨s1.heap.objs.size,[s1.heap.objs.size],_,_,H1,rfl,I1.kept (t':=s1.toks) fun b o e=>Heap.get?_push_of_some _ e,turn_tuple a _,⟨_,Heap.get?_push_size _ rfl,rfl,rfl⟩,fun b hb=>?_,q⟩
 have e:b=s1.heap.objs.size:=by simpa using hb
 subst e
 exact I1.fpOk (Nat.le_refl _) (I1.hok.fresh (Nat.le_refl _))
theorem range_it {pins:List (Addr×Obj)} {σ:St} {H:Hp} {s:Shared} {R:It→Hp→Prop} {E:Value→Shared→Prop} {lo hi:Int} {t u v:Tok} {tk:Nat} (I:Inv X pins σ H s) (h1:-(2 ^ 62)≤lo) (h2:lo<2 ^ 62) (h3:-(2 ^ 62)≤hi) (h4:hi<2 ^ 62)
  (q:R (Itr lo (hi - lo).toNat) H):wpAny (model X.prog X.w) X.A (pyIter (.ref s.heap.objs.size)) (PIE X pins σ tg R) E {s with heap:=s.heap.push {cls:=.type "range",data:=.fields #[.int lo t,.int hi u,.int 1 v]},toks:=tk}:=by
 refine wpAny_pyIter_range (IsRange.new ..) (small_one h1 h2 h3 h4) ?_
 have I1:Inv X pins σ H {s with heap:=s.heap.push {cls:=.type "range",data:=.fields #[.int lo t,.int hi u,.int 1 v]},toks:=tk}:=I.kept fun b o e=>Heap.get?_push_of_some _ e
 refine ⟨(s.heap.push {cls:=.type "range",data:=.fields #[.int lo t,.int hi u,.int 1 v]}).objs.size,[(s.heap.push {cls:=.type "range",data:=.fields #[.int lo t,.int hi u,.int 1 v]}).objs.size],_,_,H,rfl,
  I1.kept (t':=tk) fun b o e=>Heap.get?_push_of_some _ e,turn_range _ lo (hi - lo).toNat,?_,fun b hb=>?_,q⟩
 ·have e1:lo+((0:Nat):Int) * 1=lo:=by simp
  have e2:(((hi - lo).toNat:Nat):Int) - ((0:Nat):Int)=Builtin.Range.rangeSize lo hi 1:=by rw [rangeSize_one];split <;> omega
  show IsRangeIter _ _ (lo+((0:Nat):Int) * 1) ((((hi - lo).toNat:Nat):Int) - ((0:Nat):Int)) 1
  rw [e1,e2]
  exact Heap.get?_push_size _ rfl
 ·have e:b=(s.heap.push {cls:=.type "range",data:=.fields #[.int lo t,.int hi u,.int 1 v]}).objs.size:=by simpa using hb
  subst e
  exact I1.fpOk (Nat.le_refl _) (I1.hok.fresh (Nat.le_refl _))
noncomputable def iRng1 (ta:TA):TI:=fun σ H R=>ta σ H fun vs H1=>∃j:Int,vs=[.int j]∧-(2 ^ 62)≤j∧j<2 ^ 62∧R (Itr 0 j.toNat) H1
noncomputable def iRng2 (ta:TA):TI:=fun σ H R=>ta σ H fun vs H1=>∃i j:Int,vs=[.int i,.int j]∧(-(2 ^ 62)≤i∧i<2 ^ 62∧-(2 ^ 62)≤j∧j<2 ^ 62)∧R (Itr i (j - i).toNat) H1
theorem pi_range1 {a:Expr} {ta:TA} {p pos:Pos} (hg:Gl X "range") (hm:X.mg "range"=none) (ha:PA X [a] ta) (hs:starEach [a] X.env=[(false,eval a X.env)]:=by rfl):PI X tg (.Call (.Name "range" p) [a] [] pos) (iRng1 ta):=by
 intro pins s σ H R I h
 refine Call_ (ld_blt I hg hm boot_range (PyProof.Rows.callWith_type1 (thn (ha pos pins s σ H _ I h) fun us s1 ⟨vs,H1,I1,r1,q1⟩=>?_) hs rfl))
 obtain ⟨j,e,q1,q2,q⟩:=q1
 subst e
 cases r1 with
 | cons r rr=>
  cases rr
  obtain ⟨t,rfl⟩:=r
  exact call_range_1 (range_it I1 (by omega) (by omega) q1 q2 (by simpa using q))
theorem pi_range2 {a b:Expr} {ta:TA} {p pos:Pos} (hg:Gl X "range") (hm:X.mg "range"=none) (ha:PA X [a,b] ta) (hs:starEach [a,b] X.env=[(false,eval a X.env),(false,eval b X.env)]:=by rfl) (hs2:starEach [b] X.env=[(false,eval b X.env)]:=by rfl):
  PI X tg (.Call (.Name "range" p) [a,b] [] pos) (iRng2 ta):=by
 intro pins s σ H R I h
 refine Call_ (ld_blt I hg hm boot_range (PyProof.Rows.callWith_type1 (thn (ha pos pins s σ H _ I h) fun us s1 ⟨vs,H1,I1,r1,q1⟩=>?_) (by rw [hs,hs2]) (by rw [hs2];rfl)))
 obtain ⟨i,j,e,⟨q1,q2,q3,q4⟩,q⟩:=q1
 subst e
 cases r1 with
 | cons r rr=>
  cases rr with
  | cons r' rr=>
   cases rr
   obtain ⟨t,rfl⟩:=r
   obtain ⟨t',rfl⟩:=r'
   exact call_range_2 (range_it I1 q1 q2 q3 q4 q)
noncomputable def tFor (wi:TI) (g:TG) (tb:TS):TS:=fun D σ H=>wi σ H fun J H1=>∃W:Nat→Nat→St→Hp→Prop,(∃m,W 0 m σ H1)∧∀i m σ H,W i m σ H→
 (J.stop i H∧D.nx σ H)∨(J.go i H∧∃N:St→Hp→Prop,(∀σ' H',N σ' H'→∃m',m'<m∧W (i+1) m' σ' H')∧∀x H',J.yld i H x H'→g x σ H' fun σ2 H2=>tb {D with nx:=N,ct:=N,bk:=D.nx} σ2 H2)
noncomputable def pinsAt (fp:List Addr) (h:Heap):List (Addr×Obj):=fp.filterMap fun b=>(h.get? b).map fun o=>(b,o)
theorem mem_pinsAt {fp:List Addr} {h:Heap} {b:Addr} {o:Obj} (hb:b∈fp) (e:h.get? b=some o):(b,o)∈pinsAt fp h:=List.mem_filterMap.mpr ⟨b,hb,by rw [e];rfl⟩
theorem of_pinsAt {fp:List Addr} {h:Heap} {p:Addr×Obj} (hp:p∈pinsAt fp h):p.1∈fp∧h.get? p.1=some p.2:=by
 obtain ⟨b,hb,e⟩:=List.mem_filterMap.mp hp
 cases q:h.get? b with
 | none=>rw [q] at e;cases e
 | some o=>
  rw [q] at e
  have e':(b,o)=p:=Option.some.inj e
  subst e'
  exact ⟨hb,q⟩
theorem Inv.pinned {pins:List (Addr×Obj)} {σ:St} {H:Hp} {s:Shared} {fp:List Addr} (I:Inv X pins σ H s) (hf:∀b∈fp,FpOk X pins H b) (ho:∀b∈fp,∃o,s.heap.get? b=some o∧∀v,o.data≠.cell v):Inv X (pins++pinsAt fp s.heap) σ H s:=
 I.pins_of fun p hp=>(List.mem_append.mp hp).elim (fun z=>I.pin p (List.mem_append_right _ z)) fun z=>by
  obtain ⟨hb,e⟩:=of_pinsAt z
  obtain ⟨f0,f1,f2,_⟩:=hf p.1 hb
  obtain ⟨o,e',d⟩:=ho p.1 hb
  rw [e] at e';cases e'
  exact ⟨e,f0,f1,f2,d⟩
theorem Inv.unpinned {pins pl:List (Addr×Obj)} {σ:St} {H:Hp} {s:Shared} (I:Inv X (pins++pl) σ H s):Inv X pins σ H s:=I.pins_of fun p hp=>I.pin p (List.mem_append_right _ (List.mem_append_left _ hp))
theorem ps_for {iter:Expr} {body:List Stmt} {wi:TI} {g:TG} {tb:TS} {pos:Pos} (hp:PassesOwn (model X.prog X.w) X.A X.env X.xe) (hc:X.calm=true) (hi:PI X tg iter wi) (hg:PG X tg g) (hb:PSs X body tb)
  (hs:∀x,foldedSetIterable iter X.env x=pure x:=by intro _;rfl):PS X (.For tg iter body [] pos) (tFor wi g tb):=by
 intro pins s σ H D I h
 refine wpAny_For (thn (hi pins s σ H _ I h) fun v s1 h1=>thn h1 fun itv s2 h2=>?_) hs
 obtain ⟨it,fp,tn,J,H2,e,I2,T,st2,f2,W,⟨m0,w0⟩,turn⟩:=h2
 subst e
 have stat:∀{H':Hp},(∀b∈fp,H' b=none)→∀b∈fp,FpOk X pins H' b:=fun hn b hb=>⟨hn b hb,(f2 b hb).2⟩
 refine codeAny_forLoop_any (fun n s'=>∃i σ' H',Inv X pins σ' H' s'∧tn i s'.heap∧(∀b∈fp,H' b=none)∧W i n σ' H') ?_ m0 ⟨0,σ,H2,I2,st2,fun b hb=>(f2 b hb).1,w0⟩
 rintro n s3 ⟨i,σ3,H3,I3,st3,fr3,w3⟩
 rcases turn i n σ3 H3 w3 with ⟨stop,qn⟩ | ⟨go,N,hN,step⟩
 ·refine wpAny_passesOwn hp (thn (T.done X rfl rfl rfl hc i pins s3 σ3 H3 X.xe I3 (stat fr3) st3 stop) fun r s4 hpat=>?_)
  obtain ⟨hr,I4⟩:=hpat
  subst hr
  exact wpAny_execs_nil ⟨σ3,H3,I4,qn⟩
 ·refine wpAny_passesOwn hp (thn (T.item X rfl rfl rfl hc i pins s3 σ3 H3 X.xe I3 (stat fr3) st3 go) fun r s4 hpat=>?_)
  obtain ⟨u,hr,h4⟩:=hpat
  subst hr
  refine wpAny_passesOwn hp (thn h4 fun _ s5 hpat=>?_)
  obtain ⟨x,H5,I5,r5,y5,st5,fr5⟩:=hpat
  have I5':=I5.pinned (stat fr5) (T.obj _ _ st5)
  refine wpAny_passesOwn hp (thn (hg _ s5 σ3 H5 x u _ I5' r5 (step x H5 y5)) fun _ s6 hpat=>?_)
  obtain ⟨σ6,H6,I6,q6⟩:=hpat
  refine wpAny_passesOwn hp (thn (hb _ s6 σ6 H6 _ I6 q6) fun f s7 q7=>?_)
  have again:∀{σ7:St} {H7:Hp},Inv X (pins++pinsAt fp s5.heap) σ7 H7 s7→N σ7 H7→∃m,m<n∧∃i σ' H',Inv X pins σ' H' s7∧tn i s7.heap∧(∀b∈fp,H' b=none)∧W i m σ' H':=fun {σ7 H7} I7 n7=>by
   obtain ⟨m',hm,w7⟩:=hN σ7 H7 n7
   refine ⟨m',hm,i+1,σ7,H7,I7.unpinned,T.keep _ _ _ st5 fun b hb o e=>(I7.pin (b,o) (List.mem_append_right _ (List.mem_append_right _ (mem_pinsAt hb e)))).1,fun b hb=>?_,w7⟩
   obtain ⟨o,e,d⟩:=T.obj _ _ st5 b hb
   exact (I7.pin (b,o) (List.mem_append_right _ (List.mem_append_right _ (mem_pinsAt hb e)))).2.1
  cases f with
  | next=>obtain ⟨σ7,H7,I7,n7⟩:=q7;exact again I7 n7
  | cont=>obtain ⟨σ7,H7,I7,n7⟩:=q7;exact again I7 n7
  | brk=>obtain ⟨σ7,H7,I7,q7⟩:=q7;exact ⟨σ7,H7,I7.unpinned,q7⟩
  | ret v=>obtain ⟨x7,σ7,H7,I7,r7,q7⟩:=q7;exact ⟨x7,σ7,H7,I7.unpinned,r7,q7⟩
end
theorem for_list {K:PySem.W.Frag} {a:Addr} {xs:List V} {g:TG} {tb:TS} {D:Ends} {σ:St} {H:Hp} (Pv:Nat→St→Hp→Prop) (h0:Pv 0 σ H) (hl:∀i σ H,i≤xs.length→Pv i σ H→SqL K H a xs)
  (hs:∀i x σ H,xs[i]?=some x→Pv i σ H→g x σ H fun σ2 H2=>tb {D with nx:=Pv (i+1),ct:=Pv (i+1),bk:=D.nx} σ2 H2) (hd:∀σ H,Pv xs.length σ H→D.nx σ H):
  ∃W:Nat→Nat→St→Hp→Prop,(∃m,W 0 m σ H)∧∀i m σ H,W i m σ H→
   ((Itl K a).stop i H∧D.nx σ H)∨((Itl K a).go i H∧∃N:St→Hp→Prop,(∀σ' H',N σ' H'→∃m',m'<m∧W (i+1) m' σ' H')∧∀x H',(Itl K a).yld i H x H'→g x σ H' fun σ2 H2=>tb {D with nx:=N,ct:=N,bk:=D.nx} σ2 H2):=by
 refine ⟨fun i m σ H=>m=xs.length - i∧i≤xs.length∧Pv i σ H,⟨xs.length,by simp,Nat.zero_le _,h0⟩,?_⟩
 rintro i m σ H ⟨rfl,hi,p⟩
 have q:=hl i σ H hi p
 by_cases hlt:i<xs.length
 ·refine .inr ⟨⟨xs,xs[i],q,by simp [hlt]⟩,Pv (i+1),fun σ' H' p'=>⟨xs.length - (i+1),by omega,rfl,hlt,p'⟩,fun x H' y=>?_⟩
  obtain ⟨e,y⟩:=y
  subst e
  exact hs i x σ _ (y xs q) p
 ·have e:i=xs.length:=by omega
  subst e
  exact .inl ⟨⟨xs,q,Nat.le_refl _⟩,hd σ H p⟩
theorem for_tup {K:PySem.W.Frag} {a:Addr} {xs:List V} {g:TG} {tb:TS} {D:Ends} {σ:St} {H:Hp} (Pv:Nat→St→Hp→Prop) (h0:Pv 0 σ H) (hl:∀i σ H,i≤xs.length→Pv i σ H→SqT K H a xs)
  (hs:∀i x σ H,xs[i]?=some x→Pv i σ H→g x σ H fun σ2 H2=>tb {D with nx:=Pv (i+1),ct:=Pv (i+1),bk:=D.nx} σ2 H2) (hd:∀σ H,Pv xs.length σ H→D.nx σ H):
  ∃W:Nat→Nat→St→Hp→Prop,(∃m,W 0 m σ H)∧∀i m σ H,W i m σ H→
   ((Itt K a).stop i H∧D.nx σ H)∨((Itt K a).go i H∧∃N:St→Hp→Prop,(∀σ' H',N σ' H'→∃m',m'<m∧W (i+1) m' σ' H')∧∀x H',(Itt K a).yld i H x H'→g x σ H' fun σ2 H2=>tb {D with nx:=N,ct:=N,bk:=D.nx} σ2 H2):=by
 refine ⟨fun i m σ H=>m=xs.length - i∧i≤xs.length∧Pv i σ H,⟨xs.length,by simp,Nat.zero_le _,h0⟩,?_⟩
 rintro i m σ H ⟨rfl,hi,p⟩
 have q:=hl i σ H hi p
 by_cases hlt:i<xs.length
 ·refine .inr ⟨⟨xs,xs[i],q,by simp [hlt]⟩,Pv (i+1),fun σ' H' p'=>⟨xs.length - (i+1),by omega,rfl,hlt,p'⟩,fun x H' y=>?_⟩
  obtain ⟨e,y⟩:=y
  subst e
  exact hs i x σ _ (y xs q) p
 ·have e:i=xs.length:=by omega
  subst e
  exact .inl ⟨⟨xs,q,Nat.le_refl _⟩,hd σ H p⟩
theorem for_range {lo:Int} {n:Nat} {g:TG} {tb:TS} {D:Ends} {σ:St} {H:Hp} (Pv:Nat→St→Hp→Prop) (h0:Pv 0 σ H)
  (hs:∀i σ H,i<n→Pv i σ H→g (.int (lo+i)) σ H fun σ2 H2=>tb {D with nx:=Pv (i+1),ct:=Pv (i+1),bk:=D.nx} σ2 H2) (hd:∀σ H,Pv n σ H→D.nx σ H):
  ∃W:Nat→Nat→St→Hp→Prop,(∃m,W 0 m σ H)∧∀i m σ H,W i m σ H→
   ((Itr lo n).stop i H∧D.nx σ H)∨((Itr lo n).go i H∧∃N:St→Hp→Prop,(∀σ' H',N σ' H'→∃m',m'<m∧W (i+1) m' σ' H')∧∀x H',(Itr lo n).yld i H x H'→g x σ H' fun σ2 H2=>tb {D with nx:=N,ct:=N,bk:=D.nx} σ2 H2):=by
 refine ⟨fun i m σ H=>m=n - i∧i≤n∧Pv i σ H,⟨n,by simp,Nat.zero_le _,h0⟩,?_⟩
 rintro i m σ H ⟨rfl,hi,p⟩
 by_cases hlt:i<n
 ·refine .inr ⟨hlt,Pv (i+1),fun σ' H' p'=>⟨n - (i+1),by omega,rfl,hlt,p'⟩,fun x H' y=>?_⟩
  obtain ⟨e,y⟩:=y
  subst e y
  exact hs i σ _ hlt p
 ·have e:i=n:=by omega
  subst e
  exact .inl ⟨Nat.le_refl _,hd σ H p⟩
theorem while_by {c:TT} {tb:TS} {D:Ends} {σ:St} {H:Hp} (Pv:St→Hp→Prop) (μ:St→Hp→Nat) (h0:Pv σ H)
  (hs:∀σ H,Pv σ H→c σ H fun b H1=>if b=true then tb {D with nx:=fun σ' H'=>Pv σ' H'∧μ σ' H'<μ σ H,ct:=fun σ' H'=>Pv σ' H'∧μ σ' H'<μ σ H,bk:=D.nx} σ H1 else D.nx σ H1)
  (mono:∀σ H Q Q',(∀b H1,Q b H1→Q' b H1)→c σ H Q→c σ H Q'):tWhile c tb D σ H:=by
 refine ⟨fun m σ H=>m=μ σ H∧Pv σ H,⟨_,rfl,h0⟩,?_⟩
 rintro m σ H ⟨rfl,p⟩
 refine mono σ H _ _ (fun b H1 q=>?_) (hs σ H p)
 cases b with
 | true=>exact ⟨_,fun σ' H' ⟨p',l⟩=>⟨_,l,rfl,p'⟩,q⟩
 | false=>exact q
noncomputable abbrev R2:=V→V→Hp→VK→Prop
noncomputable def OpR (X:Cx) (f:Value→Value→Sem Value) (r:R2):Prop:=
 ∀(pins:List (Addr×Obj)) (s:Shared) (σ:St) (H:Hp) (x y:V) (v u:Value) (Q:VK),Inv X pins σ H s→RelV x v→RelV y u→r x y H Q→
  wpAny (model X.prog X.w) X.A (f v u) (EP X pins σ Q) X.xe s
noncomputable def UnR (X:Cx) (f:Value→Sem Value) (r:V→Hp→VK→Prop):Prop:=
 ∀(pins:List (Addr×Obj)) (s:Shared) (σ:St) (H:Hp) (x:V) (v:Value) (Q:VK),Inv X pins σ H s→RelV x v→r x H Q→
  wpAny (model X.prog X.w) X.A (f v) (EP X pins σ Q) X.xe s
noncomputable def CallR (X:Cx) (f:Value) (r:List V→Hp→VK→Prop):Prop:=
 ∀(pins:List (Addr×Obj)) (s:Shared) (σ:St) (H:Hp) (xs:List V) (us:List Value) (Q:VK),Inv X pins σ H s→Vals xs us→r xs H Q→
  wpAny (model X.prog X.w) X.A (call f us) (EP X pins σ Q) X.xe s
noncomputable def TruR (X:Cx) (r:V→Hp→(Bool→Hp→Prop)→Prop):Prop:=
 ∀(pins:List (Addr×Obj)) (s:Shared) (σ:St) (H:Hp) (x:V) (v:Value) (Q:Bool→Hp→Prop),Inv X pins σ H s→RelV x v→r x H Q→
  wpAny (model X.prog X.w) X.A (truthy v) (TP X pins σ Q) X.xe s
noncomputable def tOp (r:R2) (ta tb:TE):TE:=fun σ H Q=>ta σ H fun x H1=>tb σ H1 fun y H2=>r x y H2 Q
noncomputable def tUn (r:V→Hp→VK→Prop) (ta:TE):TE:=fun σ H Q=>ta σ H fun x H1=>r x H1 Q
noncomputable def rI (C:Int→Int→Prop) (g:Int→Int→V):R2:=fun x y H Q=>∃i j,x=.int i∧y=.int j∧C i j∧Q (g i j) H
noncomputable def rI0 (g:Int→Int→V):R2:=fun x y H Q=>∃i j,x=.int i∧y=.int j∧Q (g i j) H
noncomputable def rU (g:Int→V):V→Hp→VK→Prop:=fun x H Q=>∃i,x=.int i∧Q (g i) H
section
variable {X:Cx} {a b c:Expr} {ta tb tc:TE} {pos:Pos}
theorem binT (ha:PE X a ta) (hb:PE X b tb) {pins:List (Addr×Obj)} {s:Shared} {σ:St} {H:Hp} {R:V→V→Hp→Prop} (I:Inv X pins σ H s)
  (h:ta σ H fun x H1=>tb σ H1 fun y H2=>R x y H2) {Q:Value→Shared→Prop} {f:Value→Value→Sem Value}
  (hf:∀v u s2 x y H2,Inv X pins σ H2 s2→RelV x v→RelV y u→R x y H2→wpAny (model X.prog X.w) X.A (f v u) Q X.xe s2):
  wpAny (model X.prog X.w) X.A (eval a X.env) (fun v s₁=>wpAny (model X.prog X.w) X.A (eval b X.env) (fun u s₂=>wpAny (model X.prog X.w) X.A (f v u) Q X.xe s₂) X.xe s₁) X.xe s:=by
 refine thn (ha pins s σ H _ I h) fun v s1 hpat=>?_
 obtain ⟨x,H1,I1,r1,q1⟩:=hpat
 refine thn (hb pins s1 σ H1 _ I1 q1) fun u s2 hpat=>?_
 obtain ⟨y,H2,I2,r2,q2⟩:=hpat
 exact hf v u s2 x y H2 I2 r1 r2 q2
theorem pe_op {op:Operator} {r:R2} (ho:OpR X (binaryOp op) r) (ha:PE X a ta) (hb:PE X b tb):PE X (.BinOp a op b pos) (tOp r ta tb):=by
 intro pins s σ H Q I h
 exact wpAny_BinOp (binT ha hb I h fun v u s2 x y H2 I2 rx ry q=>ho pins s2 σ H2 x y v u Q I2 rx ry q)
theorem pe_un {op:UnaryOp} {r:V→Hp→VK→Prop} (ho:UnR X (unaryOp op) r) (ha:PE X a ta):PE X (.UnaryOp op a pos) (tUn r ta):=by
 intro pins s σ H Q I h
 exact UnaryOp_ (thn (ha pins s σ H _ I h) fun v s1 ⟨x,H1,I1,r1,q1⟩=>ho pins s1 σ H1 x v Q I1 r1 q1)
theorem opI {f:Value→Value→Sem Value} {C:Int→Int→Prop} {g:Int→Int→Int}
  (rule:∀(i j:Int) (t u:Tok) (s:Shared) (Q:Value→Shared→Prop) (E:Value→Shared→Prop),C i j→Q (.int (g i j) s.toks) {s with toks:=s.toks+1}→wpAny (model X.prog X.w) X.A (f (.int i t) (.int j u)) Q E s):
  OpR X f (rI C fun i j=>.int (g i j)):=by
 intro pins s σ H x y v u Q I rx ry h
 obtain ⟨i,j,rfl,rfl,hc,q⟩:=h
 obtain ⟨t,rfl⟩:=rx
 obtain ⟨t',rfl⟩:=ry
 exact rule i j t t' s _ _ hc ⟨.int (g i j),H,I.tok _,⟨_,rfl⟩,q⟩
theorem opI0 {f:Value→Value→Sem Value} {g:Int→Int→Int}
  (rule:∀(i j:Int) (t u:Tok) (s:Shared) (Q:Value→Shared→Prop) (E:Value→Shared→Prop),Q (.int (g i j) s.toks) {s with toks:=s.toks+1}→wpAny (model X.prog X.w) X.A (f (.int i t) (.int j u)) Q E s):
  OpR X f (rI0 fun i j=>.int (g i j)):=by
 intro pins s σ H x y v u Q I rx ry h
 obtain ⟨i,j,rfl,rfl,q⟩:=h
 obtain ⟨t,rfl⟩:=rx
 obtain ⟨t',rfl⟩:=ry
 exact rule i j t t' s _ _ ⟨.int (g i j),H,I.tok _,⟨_,rfl⟩,q⟩
theorem opB0 {f:Value→Value→Sem Value} {g:Int→Int→Bool}
  (rule:∀(i j:Int) (t u:Tok) (s:Shared) (Q:Value→Shared→Prop) (E:Value→Shared→Prop),Q (.bool (g i j)) s→wpAny (model X.prog X.w) X.A (f (.int i t) (.int j u)) Q E s):
  OpR X f (rI0 fun i j=>.bl (g i j)):=by
 intro pins s σ H x y v u Q I rx ry h
 obtain ⟨i,j,rfl,rfl,q⟩:=h
 obtain ⟨t,rfl⟩:=rx
 obtain ⟨t',rfl⟩:=ry
 exact rule i j t t' s _ _ ⟨.bl (g i j),H,I,rfl,q⟩
noncomputable def CDiv (i j:Int):Prop:=0<j∧j<1073741824
noncomputable def CDivN (i j:Int):Prop:=j≠0∧j.natAbs<1073741824
noncomputable def CPow (i j:Int):Prop:=0≤j∧j≤1000000∧i.natAbs<2 ^ 64
noncomputable def CMul (i j:Int):Prop:=(-(2 ^ 64)<i∧i<2 ^ 64)∨(-(2 ^ 64)<j∧j<2 ^ 64)
theorem CMul.ok {i j:Int} (h:CMul i j):IntMulOk i j:=by
 rcases h with ⟨h1,h2⟩ | ⟨h1,h2⟩
 ·exact .of_left (intBits_le_64 h1 h2)
 ·exact .of_right (intBits_le_64 h1 h2)
theorem op_add:OpR X (binaryOp .Add) (rI0 fun i j=>.int (i+j)):=opI0 fun _ _ _ _ _ _ _ q=>add_int q
theorem op_sub:OpR X (binaryOp .Sub) (rI0 fun i j=>.int (i - j)):=opI0 fun _ _ _ _ _ _ _ q=>sub_int q
theorem op_mul:OpR X (binaryOp .Mult) (rI CMul fun i j=>.int (i * j)):=opI fun _ _ _ _ _ _ _ hc q=>mul_int q hc.ok
theorem op_fdiv:OpR X (binaryOp .FloorDiv) (rI CDiv fun i j=>.int (i / j)):=opI fun i j _ _ _ _ _ hc q=>by
 have h1:(0:Int)<j:=hc.1
 have h2:j<1073741824:=hc.2
 exact floordiv_int (by omega) (by rw [Int.fdiv_eq_ediv_of_nonneg i (by omega)];exact q) (.inl (PyProof.noPylong_small (by omega)))
theorem op_mod:OpR X (binaryOp .Mod) (rI (fun _ j=>0<j) fun i j=>.int (i % j)):=opI fun i j _ _ _ _ _ hc q=>by
 have h1:(0:Int)<j:=hc
 exact mod_int' (by omega) (by rw [Int.fmod_eq_emod_of_nonneg i (by omega)];exact q)
theorem op_pow:OpR X (binaryOp .Pow) (rI CPow fun i j=>.int (i ^ j.toNat)):=opI fun _ _ _ _ _ _ _ hc q=>pow_int_small hc.1 hc.2.1 hc.2.2 q
theorem op_shl:OpR X (binaryOp .LShift) (rI CPow fun i j=>.int (i * 2 ^ j.toNat)):=opI fun _ _ _ _ _ _ _ hc q=>lshift_int_small hc.1 hc.2.1 hc.2.2 q
theorem unI {f:Value→Sem Value} {g:Int→Int}
  (rule:∀(i:Int) (t:Tok) (s:Shared) (Q:Value→Shared→Prop) (E:Value→Shared→Prop),Q (.int (g i) s.toks) {s with toks:=s.toks+1}→wpAny (model X.prog X.w) X.A (f (.int i t)) Q E s):
  UnR X f (rU fun i=>.int (g i)):=by
 intro pins s σ H x v Q I rx h
 obtain ⟨i,rfl,q⟩:=h
 obtain ⟨t,rfl⟩:=rx
 exact rule i t s _ _ ⟨.int (g i),H,I.tok _,⟨_,rfl⟩,q⟩
theorem un_neg:UnR X (unaryOp .USub) (rU fun i=>.int (-i)):=unI fun _ _ _ _ _ q=>neg_int q
end
noncomputable def scal:V→V→Bool
 | .non,.non=>true | .non,.int _=>true | .int _,.non=>true | .non,.bl _=>true | .bl _,.non=>true | .non,.str _=>true | .str _,.non=>true
 | .int _,.int _=>true | .bl _,.bl _=>true | .str _,.str _=>true | .byt _,.byt _=>true
 | .int _,.str _=>true | .str _,.int _=>true | .bl _,.str _=>true | .str _,.bl _=>true
 | _,_=>false
noncomputable def rEq:R2:=fun x y H Q=>scal x y=true∧Q (.bl (decide (x=y))) H
noncomputable def rNe:R2:=fun x y H Q=>scal x y=true∧Q (.bl (!decide (x=y))) H
theorem dec_int {i j:Int}:decide (V.int i=V.int j)=(i == j):=by
 rw [Bool.eq_iff_iff]
 simp
theorem dec_bl {i j:Bool}:decide (V.bl i=V.bl j)=(i == j):=by
 rw [Bool.eq_iff_iff]
 simp
theorem dec_str {i j:Str}:decide (V.str i=V.str j)=(i == j):=by
 rw [Bool.eq_iff_iff]
 simp
theorem dec_byt {i j:Array UInt8}:decide (V.byt i=V.byt j)=(i.toList == j.toList):=by
 rw [Bool.eq_iff_iff]
 cases i
 cases j
 simp
section
variable {X:Cx} {a b c:Expr} {ta tb tc:TE} {pos:Pos}
theorem fin_bl {pins:List (Addr×Obj)} {σ:St} {H:Hp} {s:Shared} {Q:VK} {k k':Bool} (I:Inv X pins σ H s) (q:Q (.bl k) H) (e:k=k'):EP X pins σ Q (.bool k') s:=by
 subst e
 exact ⟨.bl k,H,I,rfl,q⟩
theorem op_eq:OpR X (compareOp .Eq) rEq:=by
 intro pins s σ H x y v u Q I rx ry h
 obtain ⟨hs,q⟩:=h
 cases x with
 | non=>
  cases rx
  cases y with
  | non=>cases ry;exact PySem.EqNone.eq_none_none (fin_bl I q (by simp))
  | bl j=>cases ry;exact PySem.EqNone.eq_none_bool (fin_bl I q (by simp))
  | int j=>obtain ⟨t',rfl⟩:=ry;exact PySem.EqNone.eq_none_int (fin_bl I q (by simp))
  | str j=>obtain ⟨t',rfl⟩:=ry;exact PySem.EqNone.eq_none_str (fin_bl I q (by simp))
  | _=>exact absurd (show false=true from hs) Bool.false_ne_true
 | bl i=>
  cases rx
  cases y with
  | non=>cases ry;exact PySem.EqNone.eq_bool_none (fin_bl I q (by simp))
  | bl j=>cases ry;exact eq_bool (fin_bl I q dec_bl)
  | str j=>obtain ⟨t',rfl⟩:=ry;exact PySem.EqMixed.eq_bool_str (fin_bl I q (by simp))
  | _=>exact absurd (show false=true from hs) Bool.false_ne_true
 | int i=>
  obtain ⟨t,rfl⟩:=rx
  cases y with
  | non=>cases ry;exact PySem.EqNone.eq_int_none (fin_bl I q (by simp))
  | int j=>obtain ⟨t',rfl⟩:=ry;exact eq_int (fin_bl I q dec_int)
  | str j=>obtain ⟨t',rfl⟩:=ry;exact PySem.EqMixed.eq_int_str (fin_bl I q (by simp))
  | _=>exact absurd (show false=true from hs) Bool.false_ne_true
 | str i=>
  obtain ⟨t,rfl⟩:=rx
  cases y with
  | non=>cases ry;exact PySem.EqNone.eq_str_none (fin_bl I q (by simp))
  | bl j=>cases ry;exact PySem.EqMixed.eq_str_bool (fin_bl I q (by simp))
  | int j=>obtain ⟨t',rfl⟩:=ry;exact PySem.EqMixed.eq_str_int (fin_bl I q (by simp))
  | str j=>obtain ⟨t',rfl⟩:=ry;exact eq_str (fin_bl I q dec_str)
  | _=>exact absurd (show false=true from hs) Bool.false_ne_true
 | byt i=>
  obtain ⟨t,rfl⟩:=rx
  cases y with
  | byt j=>obtain ⟨t',rfl⟩:=ry;exact PySem.W.eq_bytes (fin_bl I q dec_byt)
  | _=>exact absurd (show false=true from hs) Bool.false_ne_true
 | _=>cases y <;> exact absurd (show false=true from hs) Bool.false_ne_true
theorem op_ne:OpR X (compareOp .NotEq) rNe:=by
 intro pins s σ H x y v u Q I rx ry h
 obtain ⟨hs,q⟩:=h
 cases x with
 | non=>
  cases rx
  cases y with
  | non=>cases ry;exact PySem.EqNone.ne_none_none (fin_bl I q (by simp))
  | bl j=>cases ry;exact PySem.EqNone.ne_none_bool (fin_bl I q (by simp))
  | int j=>obtain ⟨t',rfl⟩:=ry;exact PySem.EqNone.ne_none_int (fin_bl I q (by simp))
  | str j=>obtain ⟨t',rfl⟩:=ry;exact PySem.EqNone.ne_none_str (fin_bl I q (by simp))
  | _=>exact absurd (show false=true from hs) Bool.false_ne_true
 | bl i=>
  cases rx
  cases y with
  | non=>cases ry;exact PySem.EqNone.ne_bool_none (fin_bl I q (by simp))
  | bl j=>cases ry;exact ne_bool (fin_bl I q (congrArg not dec_bl))
  | str j=>obtain ⟨t',rfl⟩:=ry;exact PySem.EqMixed.ne_bool_str (fin_bl I q (by simp))
  | _=>exact absurd (show false=true from hs) Bool.false_ne_true
 | int i=>
  obtain ⟨t,rfl⟩:=rx
  cases y with
  | non=>cases ry;exact PySem.EqNone.ne_int_none (fin_bl I q (by simp))
  | int j=>obtain ⟨t',rfl⟩:=ry;exact ne_int (fin_bl I q (congrArg not dec_int))
  | str j=>obtain ⟨t',rfl⟩:=ry;exact PySem.EqMixed.ne_int_str (fin_bl I q (by simp))
  | _=>exact absurd (show false=true from hs) Bool.false_ne_true
 | str i=>
  obtain ⟨t,rfl⟩:=rx
  cases y with
  | non=>cases ry;exact PySem.EqNone.ne_str_none (fin_bl I q (by simp))
  | bl j=>cases ry;exact PySem.EqMixed.ne_str_bool (fin_bl I q (by simp))
  | int j=>obtain ⟨t',rfl⟩:=ry;exact PySem.EqMixed.ne_str_int (fin_bl I q (by simp))
  | str j=>obtain ⟨t',rfl⟩:=ry;exact ne_str (fin_bl I q (congrArg not dec_str))
  | _=>exact absurd (show false=true from hs) Bool.false_ne_true
 | byt i=>
  obtain ⟨t,rfl⟩:=rx
  cases y with
  | byt j=>obtain ⟨t',rfl⟩:=ry;exact PySem.W.ne_bytes (fin_bl I q (congrArg not dec_byt))
  | _=>exact absurd (show false=true from hs) Bool.false_ne_true
 | _=>cases y <;> exact absurd (show false=true from hs) Bool.false_ne_true
theorem op_lt:OpR X (compareOp .Lt) (rI0 fun i j=>.bl (decide (i<j))):=opB0 fun _ _ _ _ _ _ _ q=>lt_int q
theorem op_le:OpR X (compareOp .LtE) (rI0 fun i j=>.bl (decide (i≤j))):=opB0 fun _ _ _ _ _ _ _ q=>le_int q
theorem op_gt:OpR X (compareOp .Gt) (rI0 fun i j=>.bl (decide (j<i))):=opB0 fun _ _ _ _ _ _ _ q=>gt_int q
theorem op_ge:OpR X (compareOp .GtE) (rI0 fun i j=>.bl (decide (j≤i))):=opB0 fun _ _ _ _ _ _ _ q=>ge_int q
theorem op_notN:OpR X (compareOp .IsNot) (fun x y H Q=>y=.non∧Q (.bl (!decide (x=.non))) H):=by
 intro pins s σ H x y v u Q I rx ry h
 obtain ⟨rfl,q⟩:=h
 cases ry
 refine isnot_none_gen (fin_bl I q ?_)
 cases x <;> first
  | (cases rx;rfl)
  | (obtain ⟨t,rfl⟩:=rx;rfl)
noncomputable def isObj:HO→Bool
 | .lst _=>true
 | .ins _ _ _=>true
 | _=>false
theorem nomark (b:Expr) {op:CmpOp} (h:op≠.In:=by decide) (h2:op≠.NotIn:=by decide):behindInMarks op b=false:=by
 have e1:(op == CmpOp.In)=false:=by cases op <;> first | rfl | exact absurd rfl h
 have e2:(op == CmpOp.NotIn)=false:=by cases op <;> first | rfl | exact absurd rfl h2
 cases b <;> simp [behindInMarks,e1,e2]
theorem pe_cmpR {op:CmpOp} {r:R2} (ho:OpR X (compareOp op) r) (ha:PE X a ta) (hb:PE X b tb) (hm:behindInMarks op b=false):PE X (.Compare a [op] [b] pos) (tOp r ta tb):=by
 intro pins s σ H Q I h
 exact wpAny_Compare1 (binT ha hb I h fun v u s2 x y H2 I2 rx ry q=>ho pins s2 σ H2 x y v u Q I2 rx ry q) hm
noncomputable def tTest (t:TE):TT:=fun σ H Q=>t σ H fun x H'=>∃k,x=.bl k∧Q k H'
theorem pt_cmpR {op:CmpOp} {r:R2} (ho:OpR X (compareOp op) r) (ha:PE X a ta) (hb:PE X b tb) (hm:behindInMarks op b=false):PT X (.Compare a [op] [b] pos) (tTest (tOp r ta tb)):=by
 intro pins s σ H Q I h
 refine wpAny_isTrue_Compare1 (thn (ha pins s σ H _ I h) fun v s1 ⟨x,H1,I1,r1,q1⟩=>thn (hb pins s1 σ H1 _ I1 q1) fun u s2 ⟨y,H2,I2,r2,q2⟩=>
  thn (ho pins s2 σ H2 x y v u _ I2 r1 r2 q2) fun c s3 ⟨z,H3,I3,r3,k,e,q3⟩=>?_) hm
 subst e
 cases r3
 exact wpAny_truthy_bool ⟨H3,I3,q3⟩
noncomputable def tChain (r r':R2) (ta tb tc:TE):TE:=fun σ H Q=>ta σ H fun x H1=>tb σ H1 fun y H2=>r x y H2 fun z H3=>∃k,z=.bl k∧
 (if k=true then tc σ H3 fun w' H4=>r' y w' H4 Q else Q (.bl false) H3)
theorem pt_chain {op op':CmpOp} {r r':R2} (ho:OpR X (compareOp op) r) (ho':OpR X (compareOp op') r') (ha:PE X a ta) (hb:PE X b tb) (hc:PE X c tc)
  (hm:lastMarks [op,op'] [b,c]=false:=by with_unfolding_all rfl):PT X (.Compare a [op,op'] [b,c] pos) (tTest (tChain r r' ta tb tc)):=by
 intro pins s σ H Q I h
 refine isTrue_chain (thn (ha pins s σ H _ I h) fun v s1 ⟨x,H1,I1,r1,q1⟩=>test_link (thn (hb pins s1 σ H1 _ I1 q1) fun u s2 ⟨y,H2,I2,r2,q2⟩=>
  thn (ho pins s2 σ H2 x y v u _ I2 r1 r2 q2) fun d s3 ⟨z,H3,I3,r3,k,e,q3⟩=>?_)) hm
 subst e
 cases r3
 refine wpAny_truthy_bool ?_
 cases k with
 | false=>
  obtain ⟨k',e',q'⟩:=q3
  cases e'
  exact ite_ff ⟨H3,I3,q'⟩
 | true=>
  refine ite_tt (test_last (thn (hc pins s3 σ H3 _ I3 q3) fun w' s4 ⟨z',H4,I4,r4,q4⟩=>thn (ho' pins s4 σ H4 y z' u w' _ I4 r2 r4 q4) fun d' s5 hpat=>?_))
  obtain ⟨z2,H5,I5,r5,k2,e2,q5⟩:=hpat
  subst e2
  cases r5
  exact wpAny_truthy_bool ⟨H5,I5,q5⟩
noncomputable def TruV (K:PySem.W.Frag) (x:V) (H:Hp) (k:Bool):Prop:=
 match x with
 | .non=>k=false
 | .bl b=>k=b
 | .int i=>k=(i != 0)
 | .str y=>y.length≤sizeLine∧k=((y.length:Int) != 0)
 | .byt y=>y.size≤sizeLine∧k=((y.size:Int) != 0)
 | .ref p=>(∃xs,SqL K H p xs∧k=!xs.isEmpty)∨(∃xs,SqT K H p xs∧k=!xs.isEmpty)∨∃kvs,H p=some (.dK kvs)∧k=!kvs.isEmpty
 | _=>False
theorem line63:(sizeLine:Nat)<2 ^ 63:=by rw [sizeLine_eq];decide
theorem op_add_str:OpR X (binaryOp .Add) (fun x y H Q=>∃i j,x=.str i∧y=.str j∧i.length+j.length≤sizeLine∧Q (.str (i++j)) H):=by
 intro pins s σ H x y v u Q I rx ry h
 obtain ⟨i,j,rfl,rfl,hz,q⟩:=h
 obtain ⟨t,rfl⟩:=rx
 obtain ⟨t',rfl⟩:=ry
 exact add_str (fun t' tk=>⟨.str (i++j),H,I.tok _,⟨_,rfl⟩,q⟩) hz
noncomputable def PlainIxT (b:Expr):Prop:=∀o i,subscripted b false o i=operate [o,i] (getItem o i)
theorem vals1 {x:V} {us:List Value} (r:Vals [x] us):∃u,us=[u]∧RelV x u:=by
 cases r with
 | cons r1 r2=>cases r2;exact ⟨_,rfl,r1⟩
theorem vals2 {x y:V} {us:List Value} (r:Vals [x,y] us):∃u w',us=[u,w']∧RelV x u∧RelV y w':=by
 cases r with
 | cons r1 r2=>
  cases r2 with
  | cons r3 r4=>cases r4;exact ⟨_,_,rfl,r1,r3⟩
theorem call_int1:CallR X (.type "int") (fun xs H Q=>(∃i,xs=[.int i]∧Q (.int i) H)∨∃k,xs=[.bl k]∧Q (.int (if k then 1 else 0)) H):=by
 intro pins s σ H xs us Q I r h
 rcases h with ⟨i,rfl,q⟩ | ⟨k,rfl,q⟩
 ·obtain ⟨u,rfl,t,rfl⟩:=vals1 r
  exact call_int_int ⟨.int i,H,I,⟨_,rfl⟩,q⟩
 ·obtain ⟨u,rfl,r1⟩:=vals1 r
  cases r1
  exact call_int_bool ⟨.int (if k then 1 else 0),H,I.tok _,⟨_,rfl⟩,q⟩
noncomputable def LenV (K:PySem.W.Frag) (x:V) (H:Hp) (n:Nat):Prop:=
 match x with
 | .str y=>y.length≤sizeLine∧n=y.length
 | .byt y=>y.size≤sizeLine∧n=y.size
 | .ref p=>(∃xs,SqL K H p xs∧n=xs.length)∨∃xs,SqT K H p xs∧n=xs.length
 | _=>False
end
structure ObjM (h:Heap) (x dx C:Addr) (mA:Str→Option Value):Prop where
 obj:h.get? x=some (PySem.W.instObj C dx)
 ns:h.Ns1 dx mA
 ne:dx≠x
theorem lookIn_ns {h:Heap} {dx:Addr} {mA:Str→Option Value} (n:h.Ns1 dx mA):∃od,h.get? dx=some od∧∀name,PySem.W.lookIn name od=some (mA name):=by
 obtain ⟨o,es,ep,ho,hd,hk,_,hm⟩:=n
 refine ⟨o,ho,fun name=>?_⟩
 have e:=hm name
 unfold nsFind findBy at e
 rw [←Array.find?_toList] at e
 unfold PySem.W.lookIn
 rw [hd]
 dsimp only
 split
 ·rename_i y q
  rw [q] at e
  exact congrArg some e
 ·rename_i q
  rw [q] at e
  have a:es.toList.any (·.refKey)=false:=by
   rw [List.any_eq_false]
   intro y hy
   obtain ⟨z,t,hkey⟩:=hk y (Array.mem_toList_iff.mp hy)
   simp [DictEntry.refKey,hkey]
  have a':¬es.toList.any (·.refKey)=true:=by rw [a];exact Bool.false_ne_true
  rw [if_neg a']
  exact congrArg some e
theorem ObjM.look {h:Heap} {x dx C:Addr} {mA:Str→Option Value} (I:ObjM h x dx C mA):∃od,PySem.W.InstAt h x (PySem.W.instObj C dx) C (some od)∧∀name,PySem.W.lookIn name od=some (mA name):=
 let ⟨od,ho,hl⟩:=lookIn_ns I.ns
 ⟨od,⟨I.obj,rfl,rfl,ho⟩,hl⟩
section
variable {prog:Program} {w:World} {A:Around} {E:Value→Shared→Prop} {s:Shared} {K:PySem.W.Frag} {x dx C f:Addr} {mA:Str→Option Value} {name:Str} {v:Value}
end
noncomputable def putF (f:Str) (v:V):List (Str×V)→List (Str×V)
 | []=>[(f,v)]
 | (g,x)::r=>if g=f then (g,v)::r else (g,x)::putF f v r
theorem RelO.some_of {v:V} {o:Option Value} (r:RelO (some v) o):∃u,o=some u∧RelV v u:=by
 cases o with
 | none=>exact (show False from r).elim
 | some u=>exact ⟨u,rfl,r⟩
section
variable {P:Program} {w:World} {H H':Hp} {h h':Heap} {a C dx:Addr} {fs fs':List (Str×V)}
theorem ins_get (hok:HOk P w H h) (e:H a=some (.ins C dx fs)):∃mA,ObjM h a dx C mA∧(∀f,RelO (fs.lookup f) (mA f))∧PySem.Within mA (fs.map (·.1))∧fs.length≤1000∧H dx=some (.own a):=by
 obtain ⟨d,z,ne,ob,mA,n,r,q⟩:=(show ObjOk P w H h a (.ins C dx fs) from hok a _ e)
 exact ⟨mA,⟨ob,n,ne⟩,r,q,z,d⟩
end
structure Cls (K:PySem.W.Frag) (C:Addr):Prop where
 pg:PySem.W.plainGet K C Str.empty=true
 hd:PySem.W.hasDictIn K C=true
 po:PySem.W.plainOver K C=true
 sa:PySem.W.findIn K (.ref C) "__setattr__"=some (some (.builtin "object.__setattr__"))
theorem Cls.get {K:PySem.W.Frag} {C:Addr} (c:Cls K C) (f:Str):PySem.W.plainGet K C f=true:=c.pg
noncomputable def NoAttr (K:PySem.W.Frag) (C:Addr) (f:Str):Prop:=PySem.W.findIn K (.ref C) f=some none
structure Con (K:PySem.W.Frag) (C:Addr) (f:Str) (v:V) (u:Value):Prop where
 at_:PySem.W.findIn K (.ref C) f=some (some u)
 rel:RelV v u
 get:PySem.W.specialIn K u "__get__"=some none
 cp:PySem.W.copiedNames.contains f=false
structure Meth (K:PySem.W.Frag) (C:Addr) (m:Str) (f:Addr):Prop where
 at_:PySem.W.findIn K (.ref C) m=some (some (.ref f))
 fn:PySem.W.isFn K (.ref f)=true
 kp:PySem.W.keepIn K (.ref f)=true
section
variable {X:Cx} {pins:List (Addr×Obj)} {σ:St} {H:Hp} {s:Shared} {a C dx:Addr} {fs:List (Str×V)} {f:Str} {v:V} {A:Around} {E:Value→Shared→Prop}
end
noncomputable def tFld (K:PySem.W.Frag) (ta:TE) (f:Str):TE:=fun σ H Q=>ta σ H fun x H1=>∃a C dx fs v,x=.ref a∧H1 a=some (.ins C dx fs)∧Cls K C∧NoAttr K C f∧fs.lookup f=some v∧Q v H1
noncomputable def tCon (K:PySem.W.Frag) (ta:TE) (f:Str):TE:=fun σ H Q=>ta σ H fun x H1=>∃a C dx fs v u,x=.ref a∧H1 a=some (.ins C dx fs)∧Cls K C∧Con K C f v u∧fs.lookup f=none∧Q v H1
noncomputable def sFld (K:PySem.W.Frag) (ta tv:TE) (f:Str):TS:=fun D σ H=>tv σ H fun y H1=>ta σ H1 fun x H2=>∃a C dx fs,x=.ref a∧H2 a=some (.ins C dx fs)∧Cls K C∧NoAttr K C f∧fs.length<1000∧
 D.nx σ (upd H2 a (.ins C dx (putF f y fs)))
noncomputable def InOp (X:Cx) (op:Operator) (rd:V→V→Hp→VK→Prop):Prop:=
 ∀(pins:List (Addr×Obj)) (s:Shared) (σ:St) (H:Hp) (x y:V) (u v:Value) (Q:VK),Inv X pins σ H s→RelV x u→RelV y v→rd x y H Q→wpAny (model X.prog X.w) X.A (inplaceOp op u v) (EP X pins σ Q) X.xe s
noncomputable def sFldAug (K:PySem.W.Frag) (ta tv:TE) (rd:V→V→Hp→VK→Prop) (f:Str):TS:=fun D σ H=>ta σ H fun x H1=>∃a C dx fs v,x=.ref a∧H1 a=some (.ins C dx fs)∧Cls K C∧NoAttr K C f∧fs.lookup f=some v∧
 tv σ H1 fun y H2=>rd v y H2 fun z H3=>∃dx' fs',H3 a=some (.ins C dx' fs')∧fs'.length<1000∧D.nx σ (upd H3 a (.ins C dx' (putF f z fs')))
section
variable {X:Cx} {o e value:Expr} {f:Str} {pos pos' tpos:Pos} {ta tv:TE}
noncomputable def rAdd:V→V→Hp→VK→Prop:=fun x y H Q=>∃i j,x=.int i∧y=.int j∧Q (.int (i+j)) H
noncomputable def rSub:V→V→Hp→VK→Prop:=fun x y H Q=>∃i j,x=.int i∧y=.int j∧Q (.int (i - j)) H
end
section
variable {X:Cx} {pins:List (Addr×Obj)} {σ:St} {H:Hp} {s:Shared} {A:Around} {E:Value→Shared→Prop} {Q:Value→Shared→Prop} {c:Value} {b:Bool}
inductive TyOf (K:PySem.W.Frag) (H:Hp):V→Value→Prop where
 | non:TyOf K H .non (.type "NoneType")
 | bl (x:Bool):TyOf K H (.bl x) (.type "bool")
 | int (i:Int):TyOf K H (.int i) (.type "int")
 | str (x:Str):TyOf K H (.str x) (.type "str")
 | flt (x:UInt64):TyOf K H (.flt x) (.type "float")
 | lst {a:Addr} {xs:List V} (e:H a=some (.lst xs)):TyOf K H (.ref a) (.type "list")
 | frz {a:Addr} {o:Obj} {xs:List V} (e:H a=some (.frz o (.lst xs))):TyOf K H (.ref a) (.type "list")
 | tup {a:Addr} {xs:List V} (e:H a=some (.tup xs)):TyOf K H (.ref a) (.type "tuple")
 | dK {a:Addr} {kvs:List (Key×V)} (e:H a=some (.dK kvs)):TyOf K H (.ref a) (.type "dict")
 | dT {a:Addr} {kvs:List (List Key×V)} (e:H a=some (.dT kvs)):TyOf K H (.ref a) (.type "dict")
 | ins {a C dx:Addr} {fs:List (Str×V)} (e:H a=some (.ins C dx fs)) (cl:Cls K C) (ha:PySem.W.findIn K (.ref C) "__class__"=some (some (.builtin "object.__class__")))
   (hn:PySem.W.specialIn K (.builtin "object.__class__") "__get__"=some (some (.builtin "getset_descriptor.__get__"))) (htk:PySem.W.takesIn K (.builtin "object.__class__")=some true)
   (hm:PySem.W.mroIn K C (.type "object")=some true):TyOf K H (.ref a) (.ref C)
theorem isinst_ok {x:V} {u t:Value} (I:Inv X pins σ H s) (rx:RelV x u) (ty:TyOf X.K H x t) (e:PySem.W.kitOne X.K t c=some b) (h:∀tk,Q (.bool b) {s with toks:=tk}):
  wpAny (model X.prog X.w) A (call (.builtin "isinstance") [u,c]) Q E s:=by
 cases ty with
 | non=>cases (show u=Value.none from rx);exact PySem.W.kia_one PySem.W.kitx_none I.kIn True.intro e (fun z=>nomatch z) h
 | bl y=>cases (show u=Value.bool y from rx);exact PySem.W.kia_one PySem.W.kitx_bool I.kIn True.intro e (fun z=>nomatch z) h
 | int i=>obtain ⟨t,q⟩:=(show ∃t,u=Value.int i t from rx);cases q;exact PySem.W.kia_one PySem.W.kitx_int I.kIn True.intro e (fun z=>nomatch z) h
 | str y=>obtain ⟨t,q⟩:=(show ∃t,u=Value.str y t from rx);cases q;exact PySem.W.kia_one PySem.W.kitx_str I.kIn True.intro e (fun z=>nomatch z) h
 | flt y=>obtain ⟨t,q⟩:=(show ∃t,u=Value.float y t from rx);cases q;exact PySem.W.kia_one PySem.W.kitx_float I.kIn True.intro e (fun z=>nomatch z) h
 | @lst a xs ea=>
  cases (show u=Value.ref a from rx)
  obtain ⟨_,_,n,_,h1⟩:=(show ObjOk X.prog X.w H s.heap a (.lst xs) from I.hok a _ ea)
  exact PySem.W.kia_one PySem.W.kitx_list I.kIn ⟨_,h1,rfl⟩ e (fun z=>nomatch z) h
 | @frz a ob xs ea=>
  cases (show u=Value.ref a from rx)
  obtain ⟨_,_,_,n,_,h1⟩:=(show ObjOk X.prog X.w H s.heap a (.frz ob (.lst xs)) from I.hok a _ ea)
  exact PySem.W.kia_one PySem.W.kitx_list I.kIn ⟨_,h1,rfl⟩ e (fun z=>nomatch z) h
 | @tup a xs ea=>
  cases (show u=Value.ref a from rx)
  obtain ⟨_,_,_,p⟩:=(show ObjOk X.prog X.w H s.heap a (.tup xs) from I.hok a _ ea)
  obtain ⟨o,h1,h2,_⟩:=p
  exact PySem.W.kia_one PySem.W.kitx_tuple I.kIn ⟨o,h1,h2.1⟩ e (fun z=>nomatch z) h
 | @dK a kvs ea=>
  cases (show u=Value.ref a from rx)
  obtain ⟨_,_,vs,_,p⟩:=(show ObjOk X.prog X.w H s.heap a (.dK kvs) from I.hok a _ ea)
  obtain ⟨o,es,ep,h1,h2,_⟩:=p
  exact PySem.W.kia_one PySem.W.kitx_dict I.kIn ⟨o,h1,h2.1⟩ e (fun z=>nomatch z) h
 | @dT a kvs ea=>
  cases (show u=Value.ref a from rx)
  obtain ⟨_,_,xs,_,o,es,ep,h1,h2,_⟩:=(show ObjOk X.prog X.w H s.heap a (.dT kvs) from I.hok a _ ea)
  exact PySem.W.kia_one PySem.W.kitx_dict I.kIn ⟨o,h1,h2.1⟩ e (fun z=>nomatch z) h
 | @ins a C dx fs ea cl ha hn htk hm=>
  cases (show u=Value.ref a from rx)
  obtain ⟨mA,O,_⟩:=ins_get I.hok ea
  obtain ⟨od,J,_⟩:=O.look
  exact PySem.W.kia_one (PySem.W.kitx_own (cl.get _) cl.hd ha hn htk hm) I.kIn J e (fun z=>nomatch z) h
end
structure Room (k:Nat) (A:Around):Prop where
 hd:A.handled=none
 dp:A.depth+3 * k+5<recursionLimit
 un:A.units+16 * k+200<cLine
theorem Room.mono {j k:Nat} {A:Around} (r:Room k A) (h:j≤k):Room j A:=⟨r.hd,by have:=r.dp;omega,by have:=r.un;omega⟩
theorem Room.deeper {k:Nat} {A:Around} (r:Room (k+1) A) (env:Env):Room k (A.deeper env):=
 ⟨r.hd,by have:=r.dp;show A.depth+1+3 * k+5<_;omega,by have:=r.un;show A.units+3+16 * k+200<_;omega⟩
theorem Room.depth {k:Nat} {A:Around} (r:Room k A):A.depth<recursionLimit:=by have:=r.dp;omega
theorem Room.units {k:Nat} {A:Around} (r:Room k A):A.units+64<cLine:=by have:=r.un;omega
noncomputable def tNil:TA:=fun _ H Q=>Q [] H
noncomputable def tCons (ta:TE) (tr:TA):TA:=fun σ H Q=>ta σ H fun x H1=>tr σ H1 fun xs H2=>Q (x::xs) H2
section
variable {X:Cx} {e:Expr} {es:List Expr} {te:TE} {t:TA} {pos:Pos}
theorem pa_nil:PA X [] tNil:=fun _ _ _ _ H Q I h=>Calls.spliced_nil ⟨[],H,I,.nil,h⟩
theorem pa_cons (ha:PE X e te) (hr:PA X es t) (hs:starEach (e::es) X.env=(false,eval e X.env)::starEach es X.env:=by rfl):PA X (e::es) (tCons te t):=by
 intro pos pins s σ H Q I h
 rw [hs]
 show wpAny _ _ (spliced ((false,eval e X.env)::backTo pos (starEach es X.env))) _ _ s
 refine Calls.spliced_cons (thn (ha pins s σ H _ I h) fun u s1 hpat=>?_)
 obtain ⟨x,H1,I1,r1,q1⟩:=hpat
 exact thn (hr pos pins s1 σ H1 _ I1 q1) fun us s2 ⟨xs,H2,I2,r2,q2⟩=>⟨x::xs,H2,I2,.cons r1 r2,q2⟩
noncomputable def tTup (t:TA):TE:=fun σ H Q=>t σ H fun xs H1=>xs.length≤sizeLine∧∀p,H1 p=none→Q (.ref p) (upd H1 p (.tup xs))
noncomputable def tLst (t:TA):TE:=fun σ H Q=>t σ H fun xs H1=>xs.length≤sizeLine∧∀p,H1 p=none→Q (.ref p) (upd H1 p (.lst xs))
theorem pe_tup {x1} (h:PA X es t):PE X (.Tuple es x1 pos) (tTup t):=by
 intro pins s σ H Q I hq
 refine wpAny_Tuple_spliced (thn (h pos pins s σ H _ I hq) fun us s1 ⟨xs,H1,I1,r,z,q⟩=>⟨by rw [←r.length];exact z,?_⟩)
 have hf:H1 s1.heap.objs.size=none:=I1.hok.fresh (Nat.le_refl _)
 refine ⟨.ref s1.heap.objs.size,upd H1 s1.heap.objs.size (.tup xs),I1.laid (t':=s1.toks) (fun b u e=>Heap.get?_push_of_some _ e) (Nat.le_refl _) ?_,rfl,q _ hf⟩
 exact ⟨z,us,r,TupN.new _ _⟩
theorem pe_lst (h:PA X es t):PE X (.List es pos) (tLst t):=by
 intro pins s σ H Q I hq
 refine wpAny_List_spliced (thn (h pos pins s σ H _ I hq) fun us s1 ⟨xs,H1,I1,r,z,q⟩=>⟨by rw [←r.length];exact z,?_⟩)
 have hf:H1 s1.heap.objs.size=none:=I1.hok.fresh (Nat.le_refl _)
 refine ⟨.ref s1.heap.objs.size,upd H1 s1.heap.objs.size (.lst xs),I1.laid (t':=s1.toks) (fun b u e=>Heap.get?_push_of_some _ e) (Nat.le_refl _) ?_,rfl,q _ hf⟩
 exact ⟨z,us,0,r,Heap.get?_push_size _ rfl⟩
end
noncomputable abbrev Sp:=List V→Hp→VK→XK→Prop
noncomputable abbrev CXT:=List Env→Hp→Shared→XK→Value→Shared→Prop
structure Env0 (P:Program) (w:World) (K:PySem.W.Frag) (mg:Str→Option Value) (base:Heap) (A:Around) (outer:List Env) (s:Shared) (H:Hp):Prop where
 frames:A.frames=some outer
 mod:Mod K mg base
 bs:∀b o,base.get? b=some o→s.heap.get? b=some o∧H b=none
 bsz:base.objs.size≤s.heap.objs.size
 funs:s.heap.FunFrames base outer
 frf:∀b∈frs outer,H b=none
 hok:HOk P w H s.heap
 bare:AllBare s.gens
noncomputable def CE (outer:List Env) (P:Program) (w:World) (H:Hp) (s:Shared) (Q:VK) (u:Value) (s':Shared):Prop:=
 ∃v H',s'.os=s.os∧AllBare s'.gens∧Un (frs outer) [] H H' s.heap s'.heap∧HOk P w H' s'.heap∧RelV v u∧Q v H'
noncomputable def CR (CX:CXT) (outer:List Env) (P:Program) (w:World) (H:Hp) (s:Shared) (Q:VK) (E:XK) (r:Result) (s':Shared):Prop:=
 match r with
 | .ok (.ret u)=>CE outer P w H s Q u s'
 | .ok _=>False
 | .error e=>CX outer H s E e s'
structure FnOk (P:Program) (w:World) (K:PySem.W.Frag) (mg:Str→Option Value) (base:Heap) (CX:CXT) (k:Nat) (f:Addr) (fd:FuncData) (ps:List Str) (sp:Sp):Prop where
 len:∀vs H Q E,sp vs H Q E→vs.length=ps.length
 run:∀(A:Around) (outer:List Env) (s:Shared) (H:Hp) (args:Args) (us:List Value) (vs:List V) (Q:VK) (E:XK),Room k A→Env0 P w K mg base A outer s H→BindsTo s fd args (ps.zip us)→Vals vs us→sp vs H Q E→
  codeAny (model P w) A (.call (.ref f) args) (CR CX outer P w H s Q E) s
theorem FnOk.mono {P:Program} {w:World} {K:PySem.W.Frag} {mg:Str→Option Value} {base:Heap} {CX:CXT} {j k:Nat} {f:Addr} {fd:FuncData} {ps:List Str} {sp:Sp} (F:FnOk P w K mg base CX j f fd ps sp) (h:j≤k):
  FnOk P w K mg base CX k f fd ps sp:=⟨F.len,fun A outer s H args us vs Q E hr=>F.run A outer s H args us vs Q E (hr.mono h)⟩
section
variable {X:Cx} {pins:List (Addr×Obj)} {σ:St} {H:Hp} {s s':Shared}
theorem Inv.env0 (I:Inv X pins σ H s):Env0 X.prog X.w X.K X.mg X.base X.A X.stack s H:=
 ⟨I.ok.frames,I.ok.mod,I.bs,Nat.le_trans I.ok.bsz I.sz,I.stack,I.stkFree,I.hok,I.bare⟩
theorem Inv.after {Q:VK} {u:Value} (I:Inv X pins σ H s) (h:CE X.stack X.prog X.w H s Q u s'):EP X pins σ Q u s':=by
 obtain ⟨v,H',os,bare,un,hok,r,q⟩:=h
 obtain ⟨hh,g,d,t,os'⟩:=s'
 obtain rfl:os'=s.os:=os
 exact ⟨v,H',I.call (h':=hh) (g':=g) (d':=d) (t':=t) (ch:=[]) un hok bare (fun b z=>absurd z (by simp)),r,q⟩
end
noncomputable def tCall (sp:Sp) (dvs:List V) (E:XK) (t:TA):TE:=fun σ H Q=>t σ H fun vs H1=>sp (vs++dvs) H1 Q E
noncomputable def tMeth (C:Addr) (m:Str) (sp:Sp) (dvs:List V) (E:XK) (ta:TE) (t:TA):TE:=fun σ H Q=>ta σ H fun x H1=>∃a dx fs,x=.ref a∧H1 a=some (.ins C dx fs)∧fs.lookup m=none∧
 t σ H1 fun vs H2=>sp (x::(vs++dvs)) H2 Q E
noncomputable def tMake (C:Addr) (sp:Sp) (dvs:List V) (E:XK) (t:TA):TE:=fun σ H Q=>t σ H fun vs H1=>∀x dx,H1 x=none→H1 dx=none→dx≠x→
 sp (.ref x::(vs++dvs)) (upd (upd H1 dx (.own x)) x (.ins C dx [])) (fun v H2=>v=.non∧Q (.ref x) H2) E
noncomputable def Binds (K:PySem.W.Frag) (fd:FuncData) (ps:List Str) (ds:List Value):Prop:=
 ∀(s:Shared) (us:List Value),K.In s.heap→(us++ds).length=ps.length→BindsTo s fd ⟨us,[]⟩ (ps.zip (us++ds))
theorem Binds.all {K:PySem.W.Frag} {fd:FuncData} {ps:List Str} (h:∀us:List Value,us.length=ps.length→bindArgs fd ⟨us,[]⟩=pure (ps.zip us)):Binds K fd ps []:=fun s us _ hl=>by
 rw [List.append_nil] at hl ⊢
 exact .of_eq (h us hl)
noncomputable def Passes (CX:CXT) (X:Cx) (E:XK):Prop:=∀(pins:List (Addr×Obj)) (σ:St) (H:Hp) (s:Shared) (e:Value) (s':Shared),Inv X pins σ H s→CX X.stack H s E e s'→X.xe e s'
section
variable {X:Cx} {CX:CXT} {k:Nat} {f C:Addr} {fd:FuncData} {ps:List Str} {sp:Sp} {dvs:List V} {ds:List Value} {E:XK} {x m:Str} {p pos apos:Pos} {e o:Expr} {es:List Expr} {ta:TE} {t:TA}
theorem run_fn {pins:List (Addr×Obj)} {σ:St} {H:Hp} {s:Shared} {Q:VK} {us:List Value} {vs:List V} (F:FnOk X.prog X.w X.K X.mg X.base CX k f fd ps sp) (hr:Room k X.A) (hb:Binds X.K fd ps ds) (hd:Vals dvs ds) (hx:Passes CX X E)
  (I:Inv X pins σ H s) (r:Vals vs us) (h:sp (vs++dvs) H Q E):wpAny (model X.prog X.w) X.A (call (.ref f) us) (EP X pins σ Q) X.xe s:=by
 have r2:Vals (vs++dvs) (us++ds):=r.append hd
 have hl:(us++ds).length=ps.length:=by rw [←r2.length];exact F.len _ _ _ _ h
 refine wpAny_call (codeAny_mono (F.run X.A X.stack s H ⟨us,[]⟩ (us++ds) (vs++dvs) Q E hr I.env0 (hb s us I.kIn hl) r2 h) fun r s' hq=>?_)
 cases r with
 | error e=>exact hx pins σ H s e s' I hq
 | ok fl=>
  cases fl with
  | ret u=>exact I.after hq
  | next=>exact False.elim hq
  | brk=>exact False.elim hq
  | cont=>exact False.elim hq
theorem pe_call (F:FnOk X.prog X.w X.K X.mg X.base CX k f fd ps sp) (hr:Room k X.A) (hg:Gl X x) (hm:X.mg x=some (.ref f)) (hk:PySem.W.keepIn X.K (.ref f)=true) (hb:Binds X.K fd ps ds) (hd:Vals dvs ds) (hx:Passes CX X E)
  (ha:PA X (e::es) t) (hdb:(x == ("__debug__":Str))=false:=by decide) (he:starEach (e::es) X.env=(false,eval e X.env)::starEach es X.env:=by rfl) (hpl:(backTo pos (starEach es X.env)).any (·.1)=false:=by rfl):
  PE X (.Call (.Name x p) (e::es) [] pos) (tCall sp dvs E t):=by
 intro pins s σ H Q I h
 refine wpAny_Call_Name_kw (ld_glob I hg hm ?_ hdb)
 refine PySem.W.callWith_K (h₀:=X.base) I.ok.mod.kin hk (thn (ha pos pins s σ H _ I h) fun us s1 ⟨vs,H1,I1,r,q⟩=>⟨I1.kIn,?_⟩) he hpl
 exact run_fn F hr hb hd hx I1 r q
structure Mk (K:PySem.W.Frag) (C f:Addr):Prop where
 makes:PySem.W.makesIn K C=true
 init:PySem.W.findIn K (.ref C) "__init__"=some (some (.ref f))
 fn:PySem.W.isFn K (.ref f)=true
 kp:PySem.W.keepIn K (.ref C)=true
end
noncomputable def PK (X:Cx) (kws:List Keyword) (t:TA):Prop:=
 ∀(pos:Pos) (pins:List (Addr×Obj)) (s:Shared) (σ:St) (H:Hp) (Q:List V→Hp→Prop),Inv X pins σ H s→t σ H Q→wpAny (model X.prog X.w) X.A (evalAll ((backToKw pos (keywordEach kws X.env)).map (·.2))) (AP X pins σ Q) X.xe s
section
variable {X:Cx} {CX:CXT} {k:Nat} {f C:Addr} {fd:FuncData} {ps ks:List Str} {sp:Sp} {E:XK} {x m:Str} {p pos apos kpos:Pos} {e o:Expr} {es:List Expr} {kws:List Keyword} {te ta:TE} {t tk:TA} {nm:Option Str}
structure KBinds (K:PySem.W.Frag) (fd:FuncData) (ps ks:List Str) (g:List Value→List Value→List Value) (gV:List V→List V→List V):Prop where
 to:∀(s:Shared) (us ws:List Value),K.In s.heap→(g us ws).length=ps.length→BindsTo s fd ⟨us,ks.zip ws⟩ (ps.zip (g us ws))
 rel:∀{vs:List V} {us:List Value} {zs:List V} {ws:List Value},Vals vs us→Vals zs ws→Vals (gV vs zs) (g us ws)
noncomputable def tCallK (sp:Sp) (gV:List V→List V→List V) (E:XK) (t tk:TA):TE:=fun σ H Q=>t σ H fun vs H1=>tk σ H1 fun zs H2=>sp (gV vs zs) H2 Q E
variable {g:List Value→List Value→List Value} {gV:List V→List V→List V}
end
structure FnScope (N P:List Str) (sc:Scope):Prop where
 kind:sc.kind=.function
 co:sc.isCoroutine=false
 gen:sc.isGenerator=false
 nd:N.Nodup
 pre:N.take P.length=P
 par:∀x∈P,sc.names.lookup x=some .local∨sc.names.lookup x=some .cell
 nofree:∀y∈sc.names,y.2≠.free
theorem bindL_out {kindOf:Str→Option NameKind} {x:Str}:∀{binds:List (Str×Value)} {m:Str→Option Value},(∀v,(x,v)∉binds)→bindL kindOf binds m x=m x
 | [],_,_=>rfl
 | (n,v)::r,m,h=>by
  unfold bindL
  rw [bindL_out fun w hw=>h w (List.mem_cons_of_mem _ hw)]
  split
  ·have:x≠n:=by rintro rfl;exact h v List.mem_cons_self
   simp [this]
  ·rfl
theorem bindC_out {kindOf:Str→Option NameKind} {x:Str}:∀{binds:List (Str×Value)} {m:Str→Option Value},(∀v,(x,v)∉binds)→bindC kindOf binds m x=m x
 | [],_,_=>rfl
 | (n,v)::r,m,h=>by
  unfold bindC
  rw [bindC_out fun w hw=>h w (List.mem_cons_of_mem _ hw)]
  split
  ·rfl
  ·have:x≠n:=by rintro rfl;exact h v List.mem_cons_self
   simp [this]
theorem bindL_get {kindOf:Str→Option NameKind} {x:Str} {v:Value}:∀{P:List Str} {vs:List Value} {i:Nat} {m:Str→Option Value},P.Nodup→P[i]?=some x→vs[i]?=some v→kindOf x=some .local→
  bindL kindOf (P.zip vs) m x=some v
 | [],_,_,_,_,h,_,_=>by simp at h
 | _::_,[],_,_,_,_,h,_=>by simp at h
 | p::P,w::vs,0,m,nd,h1,h2,hk=>by
  simp at h1 h2;subst h1;subst h2
  show bindL kindOf ((p,w)::P.zip vs) m p=_
  unfold bindL
  rw [bindL_out fun v hv=>(List.nodup_cons.mp nd).1 (List.of_mem_zip hv).1,if_pos hk]
  simp
 | p::P,w::vs,i+1,m,nd,h1,h2,hk=>by
  show bindL kindOf ((p,w)::P.zip vs) m x=_
  unfold bindL
  exact bindL_get (i:=i) (List.nodup_cons.mp nd).2 (by simpa using h1) (by simpa using h2) hk
theorem bindC_get {kindOf:Str→Option NameKind} {x:Str} {v:Value}:∀{P:List Str} {vs:List Value} {i:Nat} {m:Str→Option Value},P.Nodup→P[i]?=some x→vs[i]?=some v→kindOf x≠some .local→
  bindC kindOf (P.zip vs) m x=some v
 | [],_,_,_,_,h,_,_=>by simp at h
 | _::_,[],_,_,_,_,h,_=>by simp at h
 | p::P,w::vs,0,m,nd,h1,h2,hk=>by
  simp at h1 h2;subst h1;subst h2
  show bindC kindOf ((p,w)::P.zip vs) m p=_
  unfold bindC
  rw [bindC_out fun v hv=>(List.nodup_cons.mp nd).1 (List.of_mem_zip hv).1,if_neg hk]
  simp
 | p::P,w::vs,i+1,m,nd,h1,h2,hk=>by
  show bindC kindOf ((p,w)::P.zip vs) m x=_
  unfold bindC
  exact bindC_get (i:=i) (List.nodup_cons.mp nd).2 (by simpa using h1) (by simpa using h2) hk
noncomputable def start (N:List Str) (vs:List V):St:=vs.map some++List.replicate (N.length - vs.length) none
noncomputable def cxOf (CX:CXT) (P:Program) (w:World) (K:PySem.W.Frag) (mg:Str→Option Value) (base:Heap) (N:List Str) (qual:Str) (scope:Scope) (f:Addr) (cd:Value) (A:Around) (outer:List Env) (s:Shared) (H:Hp) (E:XK):Cx where
 prog:=P
 w:=w
 K:=K
 mg:=mg
 base:=base
 A:=A.deeper (envOfC qual scope s.heap.objs.size f cd)
 N:=N
 s₀:=s
 H₀:=H
 env:=envOfC qual scope s.heap.objs.size f cd
 outer:=outer
 stack:=envOfC qual scope s.heap.objs.size f cd::outer
 ex:=[]
 calm:=true
 fn:=fun _=>true
 pn:=[]
 xe:=fun e s'=>wpAny (model P w) (A.deeper (envOfC qual scope s.heap.objs.size f cd)) (leaving (envOfC qual scope s.heap.objs.size f cd) e) (fun _ s''=>CX outer H s E e s'') (fun e' s''=>CX outer H s E e' s'') s'
theorem cell_has {sc:Scope} {n:Nat} {x:Str} (h:sc.names.lookup x=some .cell):∃c,(cellsFrom n sc.names []).lookup x=some c:=by
 have q:=PySem.W.cellsFrom_some sc.names n [] (.inl h)
 exact Option.isSome_iff_exists.mp q
theorem inv_start {CX:CXT} {P:Program} {w:World} {K:PySem.W.Frag} {mg:Str→Option Value} {base:Heap} {N ps:List Str} {qual:Str} {scope:Scope} {f:Addr} {cd:Value} {A:Around} {outer:List Env} {s s1:Shared} {H:Hp} {E:XK} {us:List Value} {vs:List V}
  (S:FnScope N ps scope) (hd:A.handled=none) (e0:Env0 P w K mg base A outer s H) (hl:vs.length=ps.length) (r:Vals vs us)
  (x:InCallC s s.heap.objs.size (bindL (envOfC qual scope s.heap.objs.size f cd).kindOf (ps.zip us) fun _=>none) (cellsFrom (s.heap.objs.size+1) scope.names []) (bindC (envOfC qual scope s.heap.objs.size f cd).kindOf (ps.zip us) fun _=>none) s1):
  Inv (cxOf CX P w K mg base N qual scope f cd A outer s H E) [] (start N vs) H s1:=by
 have hpl:ps.length≤N.length:=by have:=congrArg List.length S.pre;rw [List.length_take] at this;omega
 obtain ⟨h1,tk,rfl,hk⟩:=x.done
 have noA:∀b:Addr,b∉(cxOf CX P w K mg base N qual scope f cd A outer s H E).ex:=fun b z=>absurd (show b∈([]:List Addr) from z) (by simp)
 refine ⟨⟨e0.mod,S.kind,rfl,rfl,Nat.le_refl _,fun y z c h1 h2=>?_,fun y hy=>?_,fun y c _ h=>?_,fun _=>hd,Around.frames_deeper e0.frames,.inr ⟨rfl,rfl⟩,fun b z=>absurd z (noA b),e0.bs,e0.bsz,fun b _ _=>noA b,fun b z=>absurd z (noA b),e0.funs,e0.frf⟩,
  rfl,e0.bare,Un.kept hk,⟨_,x.toInCall.ns,fun i y v h1 h2 h3=>?_⟩,fun y c h=>⟨_,x.cell y c h⟩,e0.hok.fresh (Nat.le_refl _),fun y c h=>?_,fun p hp=>absurd (show p∈([]:List (Addr×Obj)) from hp) (by simp),e0.hok.kept hk,?_⟩
 ·exact name_of_addr x.apart (PySem.mem_of_lookup h1) (PySem.mem_of_lookup h2)
 ·have hy:scope.names.lookup y=some .cell∨scope.names.lookup y=some .free:=hy
  rcases hy with hy | hy
  ·exact cell_has hy
  ·exact absurd rfl (S.nofree _ (PySem.mem_of_lookup hy))
 ·exact Nat.le_of_lt (x.above y c (PySem.mem_of_lookup h))
 ·have hi:i<vs.length:=by
   unfold start at h2
   by_cases hi:i<vs.length
   ·exact hi
   ·rw [List.getElem?_append_right (by simpa using hi)] at h2
    rw [List.getElem?_replicate] at h2
    split at h2 <;> cases h2
  have ha:vs[i]?=some v:=by
   unfold start at h2
   rw [List.getElem?_append_left (by simpa using hi),List.getElem?_map] at h2
   cases e:vs[i]? with
   | none=>rw [e] at h2;cases h2
   | some a=>rw [e] at h2;cases h2;rfl
  obtain ⟨u,hu,rv⟩:=r.get ha
  have hp:ps[i]?=some y:=by
   rw [←S.pre,List.getElem?_take_of_lt (by omega)];exact h1
  have ndP:ps.Nodup:=by rw [←S.pre];exact S.nd.sublist (List.take_sublist _ _)
  refine ⟨u,rv,?_⟩
  rcases S.par y (List.mem_of_getElem? hp) with k | k
  ·exact .inl ⟨k,bindL_get ndP hp hu k⟩
  ·obtain ⟨c,e⟩:=cell_has (n:=s.heap.objs.size+1) k
   refine .inr ⟨.inl k,c,e,?_⟩
   have q:=x.cell y c e
   rw [bindC_get ndP hp hu (by show scope.names.lookup y≠_;rw [k];decide)] at q
   exact q
 ·exact e0.hok.fresh (Nat.le_of_lt (x.above y c (PySem.mem_of_lookup h)))
 ·unfold start
  show _=N.length
  rw [List.length_append,List.length_map,List.length_replicate]
  omega
theorem fn_of {CX:CXT} {P:Program} {w:World} {K:PySem.W.Frag} {mg:Str→Option Value} {base:Heap} {k:Nat} {f:Addr} {name qual:Str} {params:Arguments} {body:List Stmt} {scope:Scope} {dV kV doc pm cdv ct oc:Value} {an od:Option Addr}
  {osl:Array (Option Value)} {N ps:List Str} {sp:Sp} (lk:K.lookup f=some ⟨oc,od,.func (PySem.W.fnOf name qual params body scope dV kV doc pm an cdv ct),osl⟩) (hcd:PySem.W.codeIn K cdv qual=true) (S:FnScope N ps scope)
  (len:∀vs H Q E,sp vs H Q E→vs.length=ps.length)
  (hbody:∀(A:Around) (outer:List Env) (s:Shared) (H:Hp) (vs:List V) (Q:VK) (E:XK),Room k (A.deeper (envOfC qual scope s.heap.objs.size f cdv))→sp vs H Q E→
   ∃t,PSs (cxOf CX P w K mg base N qual scope f cdv A outer s H E) body t∧t {nx:=fun _ H'=>Q .non H',rt:=Q} (start N vs) H):
  FnOk P w K mg base CX (k+1) f (PySem.W.fnOf name qual params body scope dV kV doc pm an cdv ct) ps sp:=by
 refine ⟨len,fun A outer s H args us vs Q E hr e0 hb r hsp=>?_⟩
 have hl:=len _ _ _ _ hsp
 have KX:K.In s.heap:=e0.mod.kin.keeps fun b o e=>(e0.bs b o e).1
 have lim:s.heap.NoLimit:=e0.mod.nolimit.keeps fun b o e=>(e0.bs b o e).1
 have hkind:∀y∈ps.zip us,scope.names.lookup y.1=some .local∨(scope.names.lookup y.1=some .cell∧((cellsFrom (s.heap.objs.size+1) scope.names []).lookup y.1).isSome=true):=fun ⟨n,v⟩ hy=>by
  rcases S.par n (List.of_mem_zip hy).1 with q | q
  ·exact .inl q
  ·exact .inr ⟨q,PySem.W.cellsFrom_some _ _ _ (.inl q)⟩
 refine codeAny_call_function hr.depth (KX _ _ lk) rfl S.co S.gen rfl (PySem.W.codeRec_of KX hcd) (hb _ _ _ _ ?_)
 refine wpAny_newFunctionEnv_cells S.kind hkind fun env he s1 x=>?_
 subst he
 refine ⟨lim.keeps x.toInCall.keep,codeAny_func ?_⟩
 obtain ⟨t,ht,hq⟩:=hbody A outer s H vs Q E (hr.deeper _) hsp
 have I:Inv (cxOf CX P w K mg base N qual scope f cdv A outer s H E) [] (start N vs) H s1:=inv_start S hr.hd e0 hl r x
 refine wpAny_mono (ht [] s1 (start N vs) H _ I hq) (fun fl s' hs=>?_) fun e s' hs=>hs
 have fin:∀{σ':St} {H':Hp} {v:V} {u:Value},Inv (cxOf CX P w K mg base N qual scope f cdv A outer s H E) [] σ' H' s'→RelV v u→Q v H'→CE outer P w H s Q u s':=
  fun {σ' H' v u} J rv q=>⟨v,H',J.os,J.bare,J.base,J.hok,rv,q⟩
 cases fl with
 | ret u=>
  obtain ⟨v,σ',H',J,rv,q⟩:=hs
  exact fin J rv q
 | next=>
  obtain ⟨σ',H',J,q⟩:=hs
  exact fin (v:=V.non) (u:=Value.none) J rfl q
 | brk=>
  obtain ⟨_,_,_,q⟩:=hs
  exact False.elim q
 | cont=>
  obtain ⟨_,_,_,q⟩:=hs
  exact False.elim q
section
variable {X:Cx} {x:Str} {p pos:Pos} {e:Expr} {es:List Expr} {t:TA} {id T:String} {r:List V→Hp→VK→Prop}
noncomputable def tCB (r:List V→Hp→VK→Prop) (t:TA):TE:=fun σ H Q=>t σ H fun vs H1=>r vs H1 Q
theorem pe_callB (hc:CallR X (.builtin id) r) (hg:Gl X x) (hm:X.mg x=none) (hv:bootBuiltins x=some (.builtin id)) (ha:PA X (e::es) t) (hn:x≠"__name__":=by decide) (hdb:(x == ("__debug__":Str))=false:=by decide)
  (he:starEach (e::es) X.env=(false,eval e X.env)::starEach es X.env:=by rfl) (hpl:(backTo pos (starEach es X.env)).any (·.1)=false:=by rfl):PE X (.Call (.Name x p) (e::es) [] pos) (tCB r t):=by
 intro pins s σ H Q I h
 refine wpAny_Call_Name_kw (ld_blt I hg hm hv ?_ hn hdb)
 exact PyProof.Rows.callWith_builtin1 (thn (ha pos pins s σ H _ I h) fun us s1 ⟨vs,H1,I1,r1,q1⟩=>hc pins s1 σ H1 vs us Q I1 r1 q1) he hpl
theorem pe_callTy (hc:CallR X (.type T) r) (hg:Gl X x) (hm:X.mg x=none) (hv:bootBuiltins x=some (.type T)) (ha:PA X (e::es) t) (hn:x≠"__name__":=by decide) (hdb:(x == ("__debug__":Str))=false:=by decide)
  (he:starEach (e::es) X.env=(false,eval e X.env)::starEach es X.env:=by rfl) (hpl:(backTo pos (starEach es X.env)).any (·.1)=false:=by rfl):PE X (.Call (.Name x p) (e::es) [] pos) (tCB r t):=by
 intro pins s σ H Q I h
 refine wpAny_Call_Name_kw (ld_blt I hg hm hv ?_ hn hdb)
 exact PyProof.Rows.callWith_type1 (thn (ha pos pins s σ H _ I h) fun us s1 ⟨vs,H1,I1,r1,q1⟩=>hc pins s1 σ H1 vs us Q I1 r1 q1) he hpl
end
end L2
namespace HT
open PySem PyProof.Rows
noncomputable def lexLt:List Int→List Int→Bool
 | [],[]=>false
 | [],_::_=>true
 | _::_,[]=>false
 | x::xs,y::ys=>if x=y then lexLt xs ys else decide (x<y)
theorem lexLt_cons (x y:Int) (xs ys:List Int):lexLt (x::xs) (y::ys)=if x=y then lexLt xs ys else decide (x<y):=rfl
theorem lexLt_nil_nil:lexLt [] []=false:=rfl
theorem lexLt_nil_cons (y:Int) (ys:List Int):lexLt [] (y::ys)=true:=rfl
theorem lexLt_cons_nil (x:Int) (xs:List Int):lexLt (x::xs) []=false:=rfl
theorem eqAt_int (A:Around) (s:Shared) (a:Int) (t:Tok) (c:Int) (u:Tok):∃e,SeqAt.EqAt A s (.int a t) (.int c u) e∧(e=true↔a=c):=
 ⟨(a == c),SeqAt.EqAt.int_int a t c u,by simp⟩
theorem rcLt_int (A:Around) (s:Shared) (a:Int) (t:Tok) (c:Int) (u:Tok) (prog:Program) (w:World) (E:Value→Shared→Prop) (Q:Value→Shared→Prop) (h:Q (.bool (decide (a<c))) s):
  wpAny (model prog w) A (richCompare .Lt (.int a t) (.int c u)) Q E s:=
 (PyProof.Rows.lt_int h:wpAny (model prog w) A (compareOp .Lt (.int a t) (.int c u)) Q E s)
section
open PySem.SeqAt
open PySem.AutoSeq1 (wpAny_loadPart')
open PySem.MeetsSeq PySem.MeetsSeq2 PySem.MeetsSeq3
theorem tuple_lt_ints (l b:Addr) (items items2:Array Value) (n n2:Nat) (dd dd2:Option Addr) (sl sl2:Array (Option Value)) (ns ms:List Int) (hi:IntsAre items.toList ns) (hj:IntsAre items2.toList ms):
  Meets (Builtin.«tuple.__lt__» ⟨[.ref l,.ref b],[]⟩)
   (fun _ R s=>s.heap.get? l=some {cls:=.type "tuple",dict:=dd,data:=.seq items n,slots:=sl}∧s.heap.get? b=some {cls:=.type "tuple",dict:=dd2,data:=.seq items2 n2,slots:=sl2}∧
    R (.ok (.ret (.bool (lexLt ns ms)))) s):=
 .of_wp fun prog w A R s h=>by
  obtain ⟨hp,g,d,tk,os⟩:=s;obtain ⟨hl,hb,h⟩:=h
  have f2:=AutoSeq1.sub_tuple_tuple
  have z1:items.size=ns.length:=by rw [←hi.length];simp
  have z2:items2.size=ms.length:=by rw [←hj.length];simp
  wp_walk using wpAny_loadPart' hl,wpAny_loadPart' hb,wpAny_forIn_list _ (fun rest b s'=>b.1=none∧s'=⟨hp,g,d,tk,os⟩∧∃(vs ws:List Value) (ns' ms':List Int),rest=vs.zip ws∧
   IntsAre vs ns'∧IntsAre ws ms'∧ns'.length+items2.size=ms'.length+items.size∧R (.ok (.ret (.bool (lexLt ns' ms')))) ⟨hp,g,d,tk,os⟩) _
  case turn=>
   rintro ⟨y,x⟩ rest b s' ⟨hb',rfl,vs,ws,ns',ms',hz,hvi,hwi,hlen,hR⟩
   cases hvi with
   | nil=>rw [List.zip_nil_left] at hz;cases hz
   | cons a t hvi'=>
    cases hwi with
    | nil=>rw [List.zip_nil_right] at hz;cases hz
    | cons c u hwi'=>
     rw [List.zip_cons_cons] at hz
     injection hz with hyx hrest
     injection hyx with hy hx
     subst hy hx
     rw [lexLt_cons] at hR
     simp only [List.length_cons] at hlen
     obtain ⟨e,he,hiff⟩:=eqAt_int A.in1 ⟨hp,g,d,tk,os⟩ a t c u
     refine wpAny_bind (he prog w _ _ ?_)
     cases e with
     | true=>
      rw [if_pos (hiff.mp rfl)] at hR
      wp_walk
      exact ⟨rfl,rfl,_,_,_,_,hrest,hvi',hwi',by omega,hR⟩
     | false=>
      rw [if_neg (fun q=>absurd (hiff.mpr q) Bool.false_ne_true)] at hR
      have hri:=rcLt_int A.in1 ⟨hp,g,d,tk,os⟩ a t c u prog w
      wp_walk using hri
      exact ⟨_,rfl,by simpa using hR⟩
  case fin=>
   rintro ⟨b1,b2⟩ s' ⟨hb',rfl,vs,ws,ns',ms',hz,hvi,hwi,hlen,hR⟩
   simp only at hb'
   subst hb'
   have hv:lexLt ns' ms'=decide (items.size<items2.size):=by
    cases hvi with
    | nil=>
     cases hwi with
     | nil=>
      simp only [List.length_nil] at hlen
      rw [lexLt_nil_nil]
      exact (decide_eq_false (by omega)).symm
     | cons c u hw=>
      simp only [List.length_nil,List.length_cons] at hlen
      rw [lexLt_nil_cons]
      exact (decide_eq_true (by omega)).symm
    | cons a t hv=>
     cases hwi with
     | nil=>
      simp only [List.length_nil,List.length_cons] at hlen
      rw [lexLt_cons_nil]
      exact (decide_eq_false (by omega)).symm
     | cons c u hw=>
      rw [List.zip_cons_cons] at hz
      cases hz
   rw [hv] at hR
   wp_walk
   exact ⟨_,rfl,by simpa [Builtin.Tuple.tupleCompareSizes] using hR⟩
  case h=>
   exact ⟨rfl,rfl,items.toList,items2.toList,ns,ms,rfl,hi,hj,by omega,h⟩
end
section
variable {prog:Program} {w:World} {A:Around} {E:Value→Shared→Prop} {s:Shared}
theorem lt_tupInts {l b:Addr} {items items2:Array Value} {ns ms:List Int} {Q:Value→Shared→Prop} (hl:IsTup s.heap l items) (hb:IsTup s.heap b items2) (hi:IntsAre items.toList ns) (hj:IntsAre items2.toList ms)
  (hu:A.units<cLine) (h:Q (.bool (lexLt ns ms)) s):wpAny (model prog w) A (compareOp .Lt (.ref l) (.ref b)) Q E s:=by
 obtain ⟨⟨cls,dd,data,sl⟩,ho,hc,n,hd⟩:=id hl
 obtain ⟨⟨cls2,dd2,data2,sl2⟩,ho2,hc2,n2,hd2⟩:=id hb
 simp only at hc hd hc2 hd2
 subst hc hd hc2 hd2
 exact richCompare_meets_room (op:=.Lt) ⟨_,ho,rfl⟩ ⟨_,ho2,rfl⟩ PySem.F.slot_tuple_lt PySem.F.entry_tuple_lt (PySem.F.args_tuple_lt_2 _ _) (tuple_lt_ints l b items items2 n n2 dd dd2 sl sl2 ns ms hi hj)
  ⟨ho,ho2,show Value.bool (lexLt ns ms)≠Value.notImplemented∧Q (.bool (lexLt ns ms)) s from ⟨(fun x=>nomatch x),h⟩⟩ hu
theorem cat_tup {t b:Addr} {vs ws:List Value} {Q:Value→Shared→Prop} (ht:IsTup s.heap t vs.toArray) (hb:IsTup s.heap b ws.toArray) (hv:vs≠[])
  (h1:ws=[]→Q (.ref t) s) (h2:ws≠[]→Q (.ref s.heap.objs.size) {s with heap:=s.heap.push {cls:=.type "tuple",data:=.seq (vs++ws).toArray}})
  (hsz:vs.length+ws.length≤sizeLine):wpAny (model prog w) A (binaryOp .Add (.ref t) (.ref b)) Q E s:=by
 obtain ⟨⟨cls,dd,data,sl⟩,ho,hc,n,hd⟩:=id ht
 obtain ⟨⟨cls2,dd2,data2,sl2⟩,ho2,hc2,n2,hd2⟩:=id hb
 simp only at hc hd hc2 hd2
 subst hc hd hc2 hd2
 have e:vs.toArray++ws.toArray=(vs++ws).toArray:=by simp
 by_cases hw:ws=[]
 ·exact concat_meets ⟨_,ho,rfl⟩ ⟨_,ho2,rfl⟩ noFill_tuple_add seq_tuple_add PySem.F.slot_tuple_add PySem.F.entry_tuple_add (PySem.F.args_tuple_add_2 _ _)
   (tuple_addW1 t b vs.toArray ws.toArray n n2 dd dd2 sl sl2 (by simpa using hv) (by simp [hw])) ⟨ho,ho2,h1 hw⟩
 ·refine concat_meets ⟨_,ho,rfl⟩ ⟨_,ho2,rfl⟩ noFill_tuple_add seq_tuple_add PySem.F.slot_tuple_add PySem.F.entry_tuple_add (PySem.F.args_tuple_add_2 _ _)
   (tuple_addW2 t b vs.toArray ws.toArray n n2 dd dd2 sl sl2 (by simpa using hv) (by simpa using hw) (by rw [List.size_toArray,List.size_toArray];exact hsz)) ⟨ho,ho2,?_⟩
  rw [e]
  exact h2 hw
noncomputable def sIx (n d:Nat):Option Int→Nat
 | none=>d
 | some v=>if v<0 then (v+(n:Int)).toNat else min v.toNat n
theorem sIx_none (n d:Nat):sIx n d none=d:=rfl
theorem sIx_nat (n d k:Nat):sIx n d (some (k:Int))=min k n:=by
 show (if (k:Int)<0 then ((k:Int)+(n:Int)).toNat else min (k:Int).toNat n)=min k n
 rw [if_neg (by omega),Int.toNat_natCast]
theorem sIx_le (n d:Nat) (hd:d≤n) (o:Option Int):sIx n d o≤n:=by
 cases o with
 | none=>exact hd
 | some v=>
  show (if v<0 then (v+(n:Int)).toNat else min v.toNat n)≤n
  by_cases hv:v<0
  ·rw [if_pos hv];omega
  ·rw [if_neg hv];exact Nat.min_le_right _ _
theorem clip_eq (v:Int) (n d:Nat):(if v<0 then max (v+(n:Int)) 0 else min v (n:Int))=((sIx n d (some v):Nat):Int):=by
 show (if v<0 then max (v+(n:Int)) 0 else min v (n:Int))=(((if v<0 then (v+(n:Int)).toNat else min v.toNat n):Nat):Int)
 by_cases hv:v<0
 ·simp only [if_pos hv];omega
 ·simp only [if_neg hv];omega
theorem adjust_gen (lo hi:Option Int) (n:Nat):Builtin.Slice.sliceAdjust lo hi 1 (n:Int)=(((sIx n 0 lo:Nat):Int),((sIx n n hi:Nat):Int)):=by
 have h1:¬((1:Int)<0):=by omega
 unfold Builtin.Slice.sliceAdjust
 simp only [h1,if_false]
 refine Prod.ext ?_ ?_
 ·cases lo with
  | none=>rfl
  | some v=>exact clip_eq v n 0
 ·cases hi with
  | none=>rfl
  | some v=>exact clip_eq v n n
theorem places_gen (i j:Nat):Builtin.Slice.slicePlaces (i:Int) (j:Int) 1=j - i:=by
 unfold Builtin.Slice.slicePlaces
 have h1:(1:Int) > 0:=by omega
 simp only [h1,if_true,Int.ediv_one]
 split <;> omega
theorem slicePart_ {v:Value} {o:Option Int} {Q:Option Int→Shared→Prop} (p:IsPart v o) (h:Q o s):wpAny (model prog w) A (Builtin.Slice.slicePartIndex v) Q E s:=by
 cases p with
 | none=>exact slicePart_none h
 | int i t=>exact slicePart_int h
theorem sliceApplied_gen {sl:Addr} {vl vu:Value} {lo hi:Option Int} {n:Nat} {Q:Int×Int×Nat→Shared→Prop} (hs:s.heap.IsSliceOf sl vl vu .none) (pl:IsPart vl lo) (pu:IsPart vu hi)
  (h:Q (((sIx n 0 lo:Nat):Int),1,sIx n n hi - sIx n 0 lo) s):wpAny (model prog w) A (Builtin.Slice.sliceApplied (.ref sl) (pure (n:Int))) Q E s:=by
 obtain ⟨os,hos,hcs,hds⟩:=id hs
 unfold Builtin.Slice.sliceApplied Builtin.Slice.sliceFields
 refine wpAny_bind (wpAny_bind (wpAny_field hos hds (x:=vl) rfl (wpAny_bind (wpAny_field hos hds (x:=vu) rfl (wpAny_bind (wpAny_field hos hds (x:=.none) rfl (wpAny_pure ?_)))))))
 refine wpAny_bind (slicePart_none ?_)
 show wpAny _ _ (if ((1:Int) == 0)=true then _ else _) _ _ s
 rw [if_neg (by decide)]
 refine wpAny_bind (slicePart_ pl (wpAny_bind (slicePart_ pu (wpAny_bind (wpAny_pure ?_)))))
 show wpAny _ _ (match Builtin.Slice.sliceAdjust lo hi 1 (n:Int) with | (lo,hi)=>pure (lo,(1:Int),Builtin.Slice.slicePlaces lo hi 1)) _ _ s
 rw [adjust_gen lo hi n]
 show wpAny _ _ (pure (((sIx n 0 lo:Nat):Int),(1:Int),Builtin.Slice.slicePlaces ((sIx n 0 lo:Nat):Int) ((sIx n n hi:Nat):Int) 1)) _ _ s
 rw [places_gen]
 exact wpAny_pure h
theorem pick_gen (xs:Array Value) (i k:Nat):((List.range k).filterMap fun (m:Nat)=>xs[((i:Int)+(m:Int) * 1).toNat]?).toArray=((xs.toList.drop i).take k).toArray:=by
 have e:(fun (m:Nat)=>xs[((i:Int)+(m:Int) * 1).toNat]?)=fun m=>xs[i+m]?:=by
  funext m
  have:((i:Int)+(m:Int) * 1).toNat=i+m:=by omega
  rw [this]
 rw [e]
 have:=pick_run xs i k
 rw [List.filterMap_map] at this
 have e2:((fun x=>xs[x]?)∘fun x=>i+x)=fun m=>xs[i+m]?:=rfl
 rw [e2] at this
 rw [this]
theorem getItem_tuple_cut {t sl:Addr} {items:Array Value} {vl vu:Value} {lo hi:Option Int} {Q:Value→Shared→Prop} (ht:IsTup s.heap t items) (hs:s.heap.IsSliceOf sl vl vu .none) (pl:IsPart vl lo) (pu:IsPart vu hi)
  (hw:¬(sIx items.size 0 lo=0∧sIx items.size items.size hi=items.size))
  (h:Q (.ref s.heap.objs.size) {s with heap:=s.heap.push {cls:=.type "tuple",data:=.seq ((items.toList.drop (sIx items.size 0 lo)).take (sIx items.size items.size hi - sIx items.size 0 lo)).toArray}})
  (hsz:items.size≤sizeLine):wpAny (model prog w) A (getItem (.ref t) (.ref sl)) Q E s:=by
 have htake:sizeOk (.seq ((items.toList.drop (sIx items.size 0 lo)).take (sIx items.size items.size hi - sIx items.size 0 lo)).toArray):=by
  show ((items.toList.drop (sIx items.size 0 lo)).take (sIx items.size items.size hi - sIx items.size 0 lo)).toArray.size≤sizeLine
  rw [List.size_toArray,List.length_take,List.length_drop,Array.length_toList]
  omega
 have hj:sIx items.size items.size hi≤items.size:=sIx_le _ _ (Nat.le_refl _) hi
 obtain ⟨os,hos,hcs,hds⟩:=id hs
 have hTs:s.TypeIs (.ref sl) "slice":=⟨os,hos,hcs⟩
 unfold getItem
 try with_reducible refine wpAny_holding ?_
 first | refine wpAny_bind (wpAny_pure ?_) | skip
 refine wpAny_bind (wpAny_sequenceKey ht.typeIs (by decide) ?_)
 refine wpAny_bind (wpAny_callSpecial?_slot (name:=Str.ofString "__getitem__") ht.typeIs PyProof.Rows.slot_tuple_getitem
  (wpAny_call_entry PyProof.Rows.slot_tuple_getitem ht.typeIs entry_tuple_getitem ?_ (args_tuple_getitem _ _)))
 show wpAny _ _ (Builtin.Tuple.tupleItemsOf (.ref t) >>= _) _ _ s
 refine wpAny_bind (tupleItemsOf_ ht ?_)
 refine wpAny_bind (wpAny_typeOf hTs ?_)
 rw [if_pos (by decide)]
 refine wpAny_bind (sliceApplied_gen hs pl pu ?_)
 have hno:¬((((sIx items.size 0 lo:Nat):Int) == 0 && (1:Int) == 1 && (sIx items.size items.size hi - sIx items.size 0 lo) == items.size)=true):=by
  intro q
  rw [Bool.and_eq_true,Bool.and_eq_true] at q
  have q1:((sIx items.size 0 lo:Nat):Int)=0:=eq_of_beq q.1.1
  have q2:sIx items.size items.size hi - sIx items.size 0 lo=items.size:=eq_of_beq q.2
  exact hw ⟨by omega,by omega⟩
 show wpAny _ _ (if (((sIx items.size 0 lo:Nat):Int) == 0 && (1:Int) == 1 && (sIx items.size items.size hi - sIx items.size 0 lo) == items.size)=true then _ else _) _ _ s
 rw [if_neg hno,pick_gen]
 first
  | exact wpAny_bind (m:=Builtin.Tuple.tupleExact _) (wpAny_newObj_type (wpAny_pure ⟨_,rfl,wpAny_pure h⟩) htake)
  | exact wpAny_bind (m:=Builtin.Tuple.tupleExact _) (wpAny_newObj_type (wpAny_bind (wpAny_pure (wpAny_pure ⟨_,rfl,wpAny_pure h⟩))) htake)
  | exact wpAny_bind (wpAny_bind (m:=Builtin.Tuple.tupleExact _) (wpAny_newObj_type (wpAny_pure (wpAny_pure ⟨_,rfl,wpAny_pure h⟩)) htake))
  | exact wpAny_bind (wpAny_bind (m:=Builtin.Tuple.tupleExact _) (wpAny_newObj_type (wpAny_pure ⟨_,rfl,wpAny_pure h⟩) htake))
end
end HT
namespace L2
open PySem PySem.Spec PyProof.Rows
noncomputable abbrev TO:=St→Hp→(Option Int→Hp→Prop)→Prop
noncomputable def PO (X:Cx) (e:Option Expr) (t:TO):Prop:=
 ∀(pins:List (Addr×Obj)) (s:Shared) (σ:St) (H:Hp) (Q:Option Int→Hp→Prop),Inv X pins σ H s→t σ H Q→
  wpAny (model X.prog X.w) X.A (evalPart e X.env) (fun u s'=>∃o H',Inv X pins σ H' s'∧IsPart u o∧Q o H') X.xe s
noncomputable def tNoPart:TO:=fun _ H Q=>Q none H
noncomputable def tPart (t:TE):TO:=fun σ H Q=>t σ H fun x H1=>∃i,x=.int i∧Q (some i) H1
theorem intsAre_of {ns:List Int}:∀{us:List Value},Vals (ns.map V.int) us→IntsAre us ns:=by
 induction ns with
 | nil=>intro us r;rw [List.map_nil] at r;cases r;exact .nil
 | cons n ns ih=>
  intro us r
  rw [List.map_cons] at r
  cases r with
  | cons r1 r2=>
   obtain ⟨t,e⟩:=r1
   subst e
   exact .cons n t (ih r2)
section
variable {X:Cx} {e:Expr} {te:TE} {lo hi:Option Expr} {tl th:TO} {pos p2:Pos}
theorem po_none:PO X none tNoPart:=by
 intro pins s σ H Q I h
 rw [evalPart_none]
 exact wpAny_pure ⟨none,H,I,.none,h⟩
theorem po_some (h:PE X e te):PO X (some e) (tPart te):=by
 intro pins s σ H Q I hw
 rw [evalPart_some]
 refine thn (h pins s σ H _ I hw) fun u s1 hpat=>?_
 obtain ⟨x,H1,I1,r1,q1⟩:=hpat
 obtain ⟨i,rfl,q⟩:=q1
 obtain ⟨t,rfl⟩:=r1
 exact ⟨some i,H1,I1,.int i t,q⟩
noncomputable def SlR (X:Cx) (r:V→Option Int→Option Int→Hp→VK→Prop):Prop:=
 ∀(pins:List (Addr×Obj)) (s:Shared) (σ:St) (H:Hp) (x:V) (v vl vu:Value) (lo hi:Option Int) (sl:Addr) (Q:VK),Inv X pins σ H s→RelV x v→s.heap.IsSliceOf sl vl vu .none→IsPart vl lo→IsPart vu hi→r x lo hi H Q→
  ∃T id,typeLookup (.type T) "__getitem__"=pure (some (.builtin id))∧s.TypeIs v T∧wpAny (model X.prog X.w) X.A (getItem v (.ref sl)) (EP X pins σ Q) X.xe s
noncomputable def tSl (r:V→Option Int→Option Int→Hp→VK→Prop) (te:TE) (tl th:TO):TE:=fun σ H Q=>te σ H fun x H1=>tl σ H1 fun l H2=>th σ H2 fun u H3=>r x l u H3 Q
theorem pe_slice {r:V→Option Int→Option Int→Hp→VK→Prop} (hr:SlR X r) (he:PE X e te) (hl:PO X lo tl) (hu:PO X hi th):PE X (.Subscript e (.Slice lo hi none p2) pos) (tSl r te tl th):=by
 intro pins s σ H Q I h
 refine Subscript_ (thn (he pins s σ H _ I h) fun v s1 hpat=>?_)
 obtain ⟨x,H1,I1,r1,q1⟩:=hpat
 refine wpAny_Slice (thn (hl pins s1 σ H1 _ I1 q1) fun vl s2 ⟨l,H2,I2,pl,q2⟩=>thn (hu pins s2 σ H2 _ I2 q2) fun vu s3 hpat=>?_)
 obtain ⟨u,H3,I3,pu,q3⟩:=hpat
 rw [evalPart_none]
 refine wpAny_pure ?_
 have I4:Inv X pins σ H3 {s3 with heap:=s3.heap.push {cls:=.type "slice",data:=.fields #[vl,vu,.none]}}:=I3.kept (t':=s3.toks) fun b ob q=>Heap.get?_push_of_some _ q
 obtain ⟨T,id,hT,ht,hg⟩:=hr pins {s3 with heap:=s3.heap.push {cls:=.type "slice",data:=.fields #[vl,vu,.none]}} σ H3 x v vl vu l u s3.heap.objs.size Q I4 r1 (Heap.IsSliceOf.new ..) pl pu q3
 show wpAny (model X.prog X.w) X.A (subscriptTail e (.Slice lo hi none p2) v (.ref s3.heap.objs.size)) (EP X pins σ Q) X.xe {s3 with heap:=s3.heap.push {cls:=.type "slice",data:=.fields #[vl,vu,.none]}}
 exact tail_any (ops:=[.ref s3.heap.objs.size,v]) ht hT hg (by with_unfolding_all rfl)
noncomputable def cutV (xs:List V) (lo hi:Option Int):List V:=(xs.drop (HT.sIx xs.length 0 lo)).take (HT.sIx xs.length xs.length hi - HT.sIx xs.length 0 lo)
theorem cutV_length (xs:List V) (lo hi:Option Int):(cutV xs lo hi).length≤xs.length:=by
 unfold cutV
 rw [List.length_take,List.length_drop]
 omega
noncomputable def rSlT (K:PySem.W.Frag):V→Option Int→Option Int→Hp→VK→Prop:=fun x lo hi H Q=>∃a xs,x=.ref a∧SqT K H a xs∧
 ¬(HT.sIx xs.length 0 lo=0∧HT.sIx xs.length xs.length hi=xs.length)∧∀p,H p=none→Q (.ref p) (upd H p (.tup (cutV xs lo hi)))
theorem sl_tup:SlR X (rSlT X.K):=by
 intro pins s σ H x v vl vu lo hi sl Q I rx hs pl pu h
 obtain ⟨a,xs,rfl,hx,hw,q⟩:=h
 cases rx
 obtain ⟨its,r,ht,hz⟩:=I.tuple hx
 have hlen:its.toArray.size=xs.length:=by rw [List.size_toArray];exact r.length.symm
 refine ⟨"tuple",_,PyProof.Rows.slot_tuple_getitem.lookup,ht.typeIs,?_⟩
 refine HT.getItem_tuple_cut ht hs pl pu (by rw [hlen];exact hw) ?_ (by rw [hlen];exact hz)
 rw [hlen]
 refine ⟨.ref s.heap.objs.size,_,I.laid (t':=s.toks) (o:=.tup (cutV xs lo hi)) (fun b ob q=>Heap.get?_push_of_some _ q) (Nat.le_refl _) ?_,rfl,q _ (I.hok.fresh (Nat.le_refl _))⟩
 exact ⟨Nat.le_trans (cutV_length xs lo hi) hz,_,(r.drop (HT.sIx xs.length 0 lo)).take (HT.sIx xs.length xs.length hi - HT.sIx xs.length 0 lo),TupN.new _ _⟩
noncomputable def rLtT (K:PySem.W.Frag):R2:=fun x y H Q=>∃a b ns ms,x=.ref a∧y=.ref b∧SqT K H a (ns.map V.int)∧SqT K H b (ms.map V.int)∧Q (.bl (HT.lexLt ns ms)) H
noncomputable def rCatT (K:PySem.W.Frag):R2:=fun x y H Q=>∃a b xs ys,x=.ref a∧y=.ref b∧SqT K H a xs∧SqT K H b ys∧xs≠[]∧xs.length+ys.length≤sizeLine∧
 (ys=[]→Q (.ref a) H)∧(ys≠[]→∀p,H p=none→Q (.ref p) (upd H p (.tup (xs++ys))))
theorem Vals.nil_iff {xs:List V} {us:List Value} (r:Vals xs us):us=[]↔xs=[]:=by
 cases r with
 | nil=>simp
 | cons _ _=>simp
theorem op_catT:OpR X (binaryOp .Add) (rCatT X.K):=by
 intro pins s σ H x y v u Q I rx ry h
 obtain ⟨a,b,xs,ys,rfl,rfl,ha,hb,hx,hz,q1,q2⟩:=h
 cases rx
 cases ry
 obtain ⟨its,r1,p1,_⟩:=I.tuple ha
 obtain ⟨its2,r2,p2,_⟩:=I.tuple hb
 refine HT.cat_tup p1 p2 (fun z=>hx (r1.nil_iff.mp z)) (fun z=>⟨.ref a,H,I,rfl,q1 (r2.nil_iff.mp z)⟩) (fun z=>?_) (by rw [←r1.length,←r2.length];exact hz)
 refine ⟨.ref s.heap.objs.size,_,I.laid (t':=s.toks) (o:=.tup (xs++ys)) (fun b ob q=>Heap.get?_push_of_some _ q) (Nat.le_refl _) ?_,rfl,q2 (fun w=>z (r2.nil_iff.mpr w)) _ (I.hok.fresh (Nat.le_refl _))⟩
 exact ⟨by rw [List.length_append];exact hz,_,r1.append r2,TupN.new _ _⟩
end
noncomputable def ixN (n:Nat) (i:Int):Option Nat:=if 0≤i then (if i<n then some i.toNat else none) else if -(n:Int)≤i then some (i+n).toNat else none
noncomputable def atI {α:Type} (xs:List α) (i:Int):Option α:=(ixN xs.length i).bind fun j=>xs[j]?
theorem ixN_seq {n:Nat} {i:Int} {j:Nat} (h:ixN n i=some j):seqIndex? i n=some j∧j<n∧-(n:Int)≤i∧i<n:=by
 unfold ixN at h
 by_cases h0:0≤i
 ·rw [if_pos h0] at h
  by_cases h1:i<n
  ·rw [if_pos h1] at h
   have e:i.toNat=j:=Option.some.inj h
   exact ⟨by rw [seqIndex_of h0 h1,e],by omega,by omega,h1⟩
  ·rw [if_neg h1] at h;cases h
 ·rw [if_neg h0] at h
  by_cases h1:-(n:Int)≤i
  ·rw [if_pos h1] at h
   have e:(i+n).toNat=j:=Option.some.inj h
   exact ⟨by rw [seqIndex_neg (by omega) h1,e],by omega,h1,by omega⟩
  ·rw [if_neg h1] at h;cases h
theorem atI_get {α:Type} {xs:List α} {i:Int} {v:α} (h:atI xs i=some v):∃j,seqIndex? i xs.length=some j∧xs[j]?=some v∧j<xs.length∧-(xs.length:Int)≤i∧i<xs.length:=by
 unfold atI at h
 cases e:ixN xs.length i with
 | none=>rw [e] at h;cases h
 | some j=>
  rw [e] at h
  obtain ⟨h1,h2,h3,h4⟩:=ixN_seq e
  exact ⟨j,h1,h,h2,h3,h4⟩
theorem atI_nat {α:Type} {xs:List α} {j:Nat} {v:α} (h:xs[j]?=some v):atI xs (j:Int)=some v:=by
 have hj:j<xs.length:=(List.getElem?_eq_some_iff.mp h).1
 have e:ixN xs.length (j:Int)=some j:=by
  unfold ixN
  rw [if_pos (by omega),if_pos (by omega)];simp
 unfold atI;rw [e];exact h
noncomputable def PlainIx (b:Expr):Prop:=∀o i,subscripted b false o i=operate [o,i] (getItem o i)
noncomputable def IxR (X:Cx) (r:R2):Prop:=
 ∀(value slice:Expr) (pins:List (Addr×Obj)) (s:Shared) (σ:St) (H:Hp) (x y:V) (v u:Value) (Q:VK),Inv X pins σ H s→RelV x v→RelV y u→r x y H Q→
  subscripted slice false v u=operate [v,u] (getItem v u)→wpAny (model X.prog X.w) X.A (subscriptTail value slice v u) (EP X pins σ Q) X.xe s
noncomputable def MtR (X:Cx) (id:String) (r:V→List V→Hp→VK→Prop):Prop:=
 ∀(pins:List (Addr×Obj)) (s:Shared) (σ:St) (H:Hp) (x:V) (xs:List V) (v:Value) (us:List Value) (Q:VK),Inv X pins σ H s→RelV x v→Vals xs us→r x xs H Q→
  wpAny (model X.prog X.w) X.A (call (.builtin id) (v::us)) (EP X pins σ Q) X.xe s
section
variable {X:Cx} {a b:Expr} {ta tb:TE} {pos:Pos}
theorem pe_ix {r:R2} (hr:IxR X r) (ha:PE X a ta) (hb:PE X b tb) (hs:PlainIx b):PE X (.Subscript a b pos) (tOp r ta tb):=by
 intro pins s σ H Q I h
 exact Subscript_ (binT ha hb I h fun v u s2 x y H2 I2 rx ry q=>hr a b pins s2 σ H2 x y v u Q I2 rx ry q (hs _ _))
noncomputable def rIxL (K:PySem.W.Frag):R2:=fun x y H Q=>∃p xs i v,x=.ref p∧y=.int i∧SqL K H p xs∧atI xs i=some v∧Q v H
noncomputable def rIxT (K:PySem.W.Frag):R2:=fun x y H Q=>∃p xs i v,x=.ref p∧y=.int i∧SqT K H p xs∧atI xs i=some v∧Q v H
noncomputable def rIxS:R2:=fun x y H Q=>∃z i c,x=.str z∧y=.int i∧z.length≤sizeLine∧atI z.cps.toList i=some c∧Q (.str ⟨#[c]⟩) H
theorem ix_list:IxR X (rIxL X.K):=by
 intro value slice pins s σ H x y v u Q I rx ry h hs
 obtain ⟨p,xs,i,z,rfl,rfl,hq,he,q⟩:=h
 cases rx
 obtain ⟨t,rfl⟩:=ry
 obtain ⟨its,r,pl,hz⟩:=I.list hq
 obtain ⟨j,h1,h2,h3,h4,h5⟩:=atI_get he
 obtain ⟨w,ew,rw'⟩:=r.get h2
 have hl:=r.length
 have hn:=line63
 have fin:EP X pins σ Q w s:=⟨z,H,I,rw',q⟩
 by_cases h0:0≤i
 ·have hj:i.toNat=j:=by
   rw [seqIndex_of h0 h5] at h1
   exact Option.some.inj h1
  exact item_listR pl.isList h0 (by omega) (by rw [hj];simpa using ew) fin hs
 ·have hj:(i+(its.toArray.size:Int)).toNat=j:=by
   rw [seqIndex_neg (by omega) h4] at h1
   rw [List.size_toArray,←hl]
   exact Option.some.inj h1
  exact subscriptTail_builtinR (x:=w) pl.isList.typeIs slot_list_getitem.lookup
   (wpAny_getItem_list_neg (Q:=fun r s'=>r=w∧EP X pins σ Q r s') pl.isList (by omega) (by rw [List.size_toArray] <;> omega) (by omega) (by rw [hj];simpa using ew) ⟨rfl,fin⟩) hs
theorem ix_tup:IxR X (rIxT X.K):=by
 intro value slice pins s σ H x y v u Q I rx ry h hs
 obtain ⟨p,xs,i,z,rfl,rfl,hq,he,q⟩:=h
 cases rx
 obtain ⟨t,rfl⟩:=ry
 obtain ⟨its,r,pl,hz⟩:=I.tuple hq
 obtain ⟨j,h1,h2,h3,h4,h5⟩:=atI_get he
 obtain ⟨w,ew,rw'⟩:=r.get h2
 have hl:=r.length
 have hn:=line63
 have fin:EP X pins σ Q w s:=⟨z,H,I,rw',q⟩
 exact subscriptTail_builtinR (x:=w) pl.typeIs slot_tuple_getitem.lookup
  (getItem_tuple (j:=j) (Q:=fun r s'=>r=w∧EP X pins σ Q r s') pl (by omega) (by omega) (by rw [List.size_toArray,←hl];exact h1) (by simpa using ew) ⟨rfl,fin⟩) hs
noncomputable def rIx (K:PySem.W.Frag):R2:=fun x y H Q=>rIxL K x y H Q∨rIxT K x y H Q∨rIxS x y H Q
theorem mapSeq_set (its:List Value) (n j:Nat) (u:Value):Obj.mapSeq (·.setIfInBounds j u) {cls:=.type "list",data:=.seq its.toArray n}={cls:=.type "list",data:=.seq (its.set j u).toArray n}:=by
 simp [Obj.mapSeq]
theorem Inv.lst {pins:List (Addr×Obj)} {σ:St} {H:Hp} {s:Shared} {p:Addr} {xs:List V} (I:Inv X pins σ H s) (h:H p=some (.lst xs)):
  ∃(its:List Value) (n:Nat),Vals xs its∧s.heap.get? p=some {cls:=.type "list",data:=.seq its.toArray n}∧xs.length≤sizeLine:=by
 obtain ⟨z,its,n,r,e⟩:=I.hok p _ h
 exact ⟨its,n,r,e,z⟩
theorem Inv.lstUpd {pins:List (Addr×Obj)} {σ:St} {H:Hp} {s:Shared} {p:Addr} {xs ys:List V} {its its':List Value} {n n':Nat} {f:Obj→Obj} (I:Inv X pins σ H s) (h:H p=some (.lst xs))
  (ho:s.heap.get? p=some {cls:=.type "list",data:=.seq its.toArray n}) (hf:f {cls:=.type "list",data:=.seq its.toArray n}={cls:=.type "list",data:=.seq its'.toArray n'}) (r:Vals ys its') (hz:ys.length≤sizeLine) (t:Nat):
  Inv X pins σ (upd H p (.lst ys)) {s with heap:=s.heap.update p f,toks:=t}:=by
 have e:(s.heap.update p f).get? p=some {cls:=.type "list",data:=.seq its'.toArray n'}:=by
  rw [Heap.get?_update_self f ho (by rw [hf] <;> rfl),hf]
 refine I.write (x:=p) (e:=p) (by rw [h];trivial) (.inl rfl) (fun b u hb q=>(Heap.get?_update_other _ _ (Ne.symm hb)).trans q) ⟨_,e⟩ ?_
 exact ⟨hz,its',n',r,e⟩
noncomputable def rSetL:V→V→V→Hp→(Hp→Prop)→Prop:=fun o i v H Q=>∃p xs k j,o=.ref p∧i=.int k∧H p=some (.lst xs)∧ixN xs.length k=some j∧Q (upd H p (.lst (xs.set j v)))
theorem set_list:PSet X rSetL:=by
 intro pins s σ H o i v ov iv u Q I ro ri rv h
 obtain ⟨p,xs,k,j,rfl,rfl,hp,hj,q⟩:=h
 cases ro
 obtain ⟨t,rfl⟩:=ri
 obtain ⟨its,n,r,ho,hz⟩:=I.lst hp
 obtain ⟨h1,h2,h3,h4⟩:=ixN_seq hj
 have hl:=r.length
 have hn:=line63
 have I':Inv X pins σ (upd H p (.lst (xs.set j v))) {s with heap:=s.heap.update p (Obj.mapSeq (·.setIfInBounds j u))}:=
  I.lstUpd hp ho (mapSeq_set its n j u) (r.set rv j) (by rw [List.length_set];exact hz) s.toks
 by_cases h0:0≤k
 ·have hk:k.toNat=j:=by
   rw [seqIndex_of h0 h4] at h1
   exact Option.some.inj h1
  exact PySem.W.ki_setAt ho h0 (by omega) (by rw [List.size_toArray,←hl];exact h4) (by rw [hk];exact ⟨_,I',q⟩)
 ·have hk:(k+(its.toArray.size:Int)).toNat=j:=by
   rw [seqIndex_neg (by omega) h3] at h1
   rw [List.size_toArray,←hl]
   exact Option.some.inj h1
  exact PySem.W.ki_setBack ho (by omega) (by rw [List.size_toArray,←hl];exact h3) (by omega) (by rw [hk];exact ⟨_,I',q⟩)
theorem slice_bounds (lo hi:Option Int) (n:Nat):(sliceBounds lo hi none n).1=((HT.sIx n 0 lo:Nat):Int)∧(sliceBounds lo hi none n).2.1=((HT.sIx n n hi:Nat):Int)∧(sliceBounds lo hi none n).2.2=1:=by
 refine ⟨?_,?_,rfl⟩
 ·cases lo with
  | none=>simp [sliceBounds,HT.sIx]
  | some i=>
   simp only [sliceBounds,HT.sIx,Option.getD_none,show (1:Int) > 0 by decide,if_true]
   by_cases h:i<0
   ·simp only [h,if_true] <;> omega
   ·simp only [h,if_false] <;> omega
 ·cases hi with
  | none=>simp [sliceBounds,HT.sIx]
  | some i=>
   simp only [sliceBounds,HT.sIx,Option.getD_none,show (1:Int) > 0 by decide,if_true]
   by_cases h:i<0
   ·simp only [h,if_true] <;> omega
   ·simp only [h,if_false] <;> omega
theorem slicePick_cut (its:List Value) (lo hi:Option Int):slicePick its.toArray lo hi none=((its.drop (HT.sIx its.length 0 lo)).take (HT.sIx its.length its.length hi - HT.sIx its.length 0 lo)).toArray:=by
 obtain ⟨h1,h2,h3⟩:=slice_bounds lo hi its.toArray.size
 unfold slicePick
 rw [h1,h2,h3]
 simp only [sliceRange_one,pick_run,List.size_toArray] <;> rfl
noncomputable def rSlL (K:PySem.W.Frag):V→Option Int→Option Int→Hp→VK→Prop:=fun x lo hi H Q=>∃a xs,x=.ref a∧SqL K H a xs∧∀p,H p=none→Q (.ref p) (upd H p (.lst (cutV xs lo hi)))
theorem sl_list:SlR X (rSlL X.K):=by
 intro pins s σ H x v vl vu lo hi sl Q I rx hs pl pu h
 obtain ⟨a,xs,rfl,hx,q⟩:=h
 cases rx
 obtain ⟨its,r,ht,hz⟩:=I.list hx
 have hlen:=r.length
 refine ⟨"list",_,slot_list_getitem.lookup,ht.isList.typeIs,?_⟩
 refine wpAny_getItem_list_slice ht.isList hs pl pu .none (by simp) ?_ (by rw [List.size_toArray] <;> omega)
 rw [slicePick_cut,←hlen]
 refine ⟨.ref s.heap.objs.size,_,I.laid (t':=s.toks) (o:=.lst (cutV xs lo hi)) (fun b ob q=>Heap.get?_push_of_some _ q) (Nat.le_refl _) ?_,rfl,q _ (I.hok.fresh (Nat.le_refl _))⟩
 exact ⟨Nat.le_trans (cutV_length xs lo hi) hz,_,0,(r.drop (HT.sIx xs.length 0 lo)).take (HT.sIx xs.length xs.length hi - HT.sIx xs.length 0 lo),Heap.get?_push_size _ rfl⟩
noncomputable def flatV:V→Bool
 | .non=>true
 | .bl _=>true
 | .int _=>true
 | .str _=>true
 | _=>false
noncomputable def eqV:V→V→Bool
 | .non,.non=>true
 | .bl a,.bl b=>a == b
 | .bl a,.int b=>(if a then 1 else 0) == b
 | .int a,.bl b=>a == (if b then 1 else 0)
 | .int a,.int b=>a == b
 | .str a,.str b=>a == b
 | _,_=>false
noncomputable def eqU (x:V) (u:Value):Bool:=match u with
 | .none=>eqV .non x
 | .bool b=>eqV (.bl b) x
 | .int i _=>eqV (.int i) x
 | .str z _=>eqV (.str z) x
 | _=>false
noncomputable def inV (x:V) (xs:List V):Bool:=xs.any fun y=>eqV y x
noncomputable def rIn (K:PySem.W.Frag) (neg:Bool):R2:=fun x y H Q=>∃p xs,y=.ref p∧(SqL K H p xs∨SqT K H p xs)∧flatV x=true∧xs.all flatV=true∧Q (.bl (if neg then !inV x xs else inV x xs)) H
theorem call_len_seq:CallR X (.builtin "len") (fun xs H Q=>∃p ys,xs=[.ref p]∧(SqL X.K H p ys∨SqT X.K H p ys)∧Q (.int ys.length) H):=by
 intro pins s σ H xs us Q I r h
 obtain ⟨p,ys,rfl,hq,q⟩:=h
 obtain ⟨u,rfl,rx⟩:=vals1 r
 cases rx
 have hn:=line63
 rcases hq with hq | hq
 ·obtain ⟨its,r',pl,hz⟩:=I.list hq
  have hlen:=r'.length
  exact Calls.call_len_list pl.isList (by simp only [List.size_toArray] <;> omega) ⟨.int ys.length,H,I.tok _,⟨s.toks+1,by rw [List.size_toArray,hlen]⟩,q⟩
 ·obtain ⟨its,r',pl,hz⟩:=I.tuple hq
  have hlen:=r'.length
  exact len_tuple pl (by simp only [List.size_toArray] <;> omega) ⟨.int ys.length,H,I.tok _,⟨s.toks+1,by rw [List.size_toArray,hlen]⟩,q⟩
theorem call_list_of:CallR X (.type "list") (fun xs H Q=>∃p ys,xs=[.ref p]∧(SqL X.K H p ys∨SqT X.K H p ys)∧∀l,H l=none→Q (.ref l) (upd H l (.lst ys))):=by
 intro pins s σ H xs us Q I r h
 obtain ⟨p,ys,rfl,hq,q⟩:=h
 obtain ⟨u,rfl,rx⟩:=vals1 r
 cases rx
 have fin:∀(its:List Value),Vals ys its→ys.length≤sizeLine→∀(h':Heap) (c':Nat),(∀b o',s.heap.get? b=some o'→h'.get? b=some o')→
   h'.get? s.heap.objs.size=some {cls:=.type "list",dict:=none,data:=.seq its.toArray c',slots:=#[]}→EP X pins σ Q (.ref s.heap.objs.size) {s with heap:=h'}:=fun its r' hz h' c' kp e=>
  ⟨.ref s.heap.objs.size,_,I.laid (t':=s.toks) kp (Nat.le_refl _) (show ObjOk X.prog X.w _ h' _ (.lst ys) from ⟨hz,its,c',r',e⟩),rfl,q _ (I.hok.fresh (Nat.le_refl _))⟩
 rcases hq with hq | hq
 ·obtain ⟨its,r',pl,hz⟩:=I.list hq
  have hlen:=r'.length
  obtain ⟨o,ho,hc,n,hd⟩:=pl.isList
  exact call_list_seq p (.inl rfl) ho hc hd (fun h' c' kp e=>fin its r' hz h' c' kp e) (by simp only [List.size_toArray] <;> omega)
 ·obtain ⟨its,r',pl,hz⟩:=I.tuple hq
  have hlen:=r'.length
  obtain ⟨o,ho,hc,n,hd⟩:=pl
  exact call_list_seq p (.inr rfl) ho hc hd (fun h' c' kp e=>fin its r' hz h' c' kp e) (by simp only [List.size_toArray] <;> omega)
theorem call_tuple_of:CallR X (.type "tuple") (fun xs H Q=>∃p ys,xs=[.ref p]∧((SqL X.K H p ys∧∀l,H l=none→Q (.ref l) (upd H l (.tup ys)))∨(SqT X.K H p ys∧Q (.ref p) H))):=by
 intro pins s σ H xs us Q I r h
 obtain ⟨p,ys,rfl,h⟩:=h
 obtain ⟨u,rfl,rx⟩:=vals1 r
 cases rx
 rcases h with ⟨hq,q⟩ | ⟨hq,q⟩
 ·obtain ⟨its,r',pl,hz⟩:=I.list hq
  have hlen:=r'.length
  refine call_tuple_list pl.isList (fun h' kp=>?_) (by simp only [List.size_toArray] <;> omega)
  have I1:Inv X pins σ H {s with heap:=h'}:=I.kept (t':=s.toks) kp
  have I2:Inv X pins σ (upd H h'.objs.size (.tup ys)) {s with heap:=h'.push {cls:=.type "tuple",data:=.seq its.toArray}}:=
   I1.laid (t':=s.toks) (fun b o e=>Heap.get?_push_of_some _ e) (Nat.le_refl _) (show ObjOk X.prog X.w _ _ _ (.tup ys) from ⟨hz,its,r',TupN.new _ _⟩)
  exact ⟨.ref h'.objs.size,_,I2,rfl,q _ (I1.hok.fresh (Nat.le_refl _))⟩
 ·obtain ⟨its,r',pl,hz⟩:=I.tuple hq
  exact call_tuple_same pl ⟨.ref p,H,I,rfl,q⟩
noncomputable def tyV (K:PySem.W.Frag) (T:String) (x:V) (H:Hp):Prop:=match x with
 | .str _=>T="str"
 | .int _=>T="int"
 | .ref p=>(T="list"∧∃xs,SqL K H p xs)∨(T="tuple"∧∃o,K.lookup p=some o∧o.cls=.type "tuple"∧o.dict=none)∨
   (T="dict"∧((∃kvs,H p=some (.dK kvs))∨∃kvs,H p=some (.dT kvs)))∨(T="set"∧∃S n,H p=some (.set S n))
 | _=>False
theorem tyV_is {pins:List (Addr×Obj)} {σ:St} {H:Hp} {s:Shared} {T:String} {x:V} {v:Value} (I:Inv X pins σ H s) (r:RelV x v) (ty:tyV X.K T x H):
  s.TypeIs v T∧∀a,v=.ref a→∃ob,s.heap.get? a=some ob∧ob.dict=none:=by
 cases x with
 | str z=>
  obtain ⟨t,rfl⟩:=r
  cases (show T="str" from ty)
  exact ⟨typeIs_str s z t,fun _ e=>nomatch e⟩
 | int i=>
  obtain ⟨t,rfl⟩:=r
  cases (show T="int" from ty)
  exact ⟨typeIs_int s i t,fun _ e=>nomatch e⟩
 | ref p=>
  cases r
  rcases ty with ⟨rfl,xs,hq⟩ | ⟨rfl,o,hk,hc,hd⟩ | ⟨rfl,hk⟩ | ⟨rfl,S,n,hk⟩
  ·obtain ⟨its,_,pl,_⟩:=I.list hq
   refine ⟨pl.isList.typeIs,fun a e=>?_⟩
   cases e
   obtain ⟨o,n,e,c,hd,_⟩:=pl
   exact ⟨o,e,hd⟩
  ·refine ⟨⟨o,I.kIn p o hk,hc⟩,fun a e=>?_⟩
   cases e
   exact ⟨o,I.kIn _ o hk,hd⟩
  ·have z:∃o,s.heap.get? p=some o∧o.ExactDict:=by
    rcases hk with ⟨kvs,hk⟩ | ⟨kvs,hk⟩
    ·obtain ⟨_,_,_,_,o,_,_,e,ex,_⟩:=I.hok p _ hk
     exact ⟨o,e,ex⟩
    ·obtain ⟨_,_,_,_,o,_,_,e,ex,_⟩:=I.hok p _ hk
     exact ⟨o,e,ex⟩
   obtain ⟨o,e,ex⟩:=z
   refine ⟨⟨o,e,ex.1⟩,fun a e2=>?_⟩
   cases e2
   exact ⟨o,e,ex.2.1⟩
  ·obtain ⟨o,_,_,_,e,ex,_⟩:=I.hok p _ hk
   refine ⟨⟨o,e,ex.1⟩,fun a e2=>?_⟩
   cases e2
   exact ⟨o,e,ex.2.1⟩
 | _=>exact False.elim ty
noncomputable def tBM0 (K:PySem.W.Frag) (T:String) (r:V→List V→Hp→VK→Prop) (to:TE):TE:=fun σ H Q=>to σ H fun x H1=>tyV K T x H1∧r x [] H1 Q
noncomputable def tBM (K:PySem.W.Frag) (T:String) (r:V→List V→Hp→VK→Prop) (to:TE) (t:TA):TE:=fun σ H Q=>to σ H fun x H1=>tyV K T x H1∧t σ H1 fun xs H2=>r x xs H2 Q
variable {o e:Expr} {es:List Expr} {to:TE} {t:TA} {name:Str} {apos cpos:Pos} {T id:String} {r:V→List V→Hp→VK→Prop}
theorem pe_bm0 (pa:PlainAttrs T) (slot:Slot T name id) (hty:typeOf (.builtin id)=pure (.type "method_descriptor")) (hm:MtR X id r) (ho:PE X o to)
  (hbase:attributeBase o name X.env (eval o X.env)=eval o X.env:=by rfl) (hline:(apos.endLine == cpos.line)=true:=by rfl):PE X (.Call (.Attribute o name apos) [] [] cpos) (tBM0 X.K T r to):=by
 intro pins s σ H Q I h
 refine wpAny_Call_method0_late hbase hline (thn (ho pins s σ H _ I h) fun v s1 hpat=>?_)
 obtain ⟨x,H1,I1,r1,ty,q1⟩:=hpat
 obtain ⟨h1,h2⟩:=tyV_is I1 r1 ty
 exact ⟨T,id,pa,slot,hty,h1,h2,Calls.callWith_builtin rfl (PySem.evalArgs_none (hm pins s1 σ H1 x [] v [] Q I1 r1 .nil q1))⟩
theorem pe_bm (pa:PlainAttrs T) (slot:Slot T name id) (hty:typeOf (.builtin id)=pure (.type "method_descriptor")) (hm:MtR X id r) (ho:PE X o to) (ha:PA X (e::es) t)
  (hbase:attributeBase o name X.env (eval o X.env)=eval o X.env:=by rfl)
  (hfew:((backTo cpos (starEach (e::es) X.env)).all (fun x=>!x.1) && (backToKw cpos (keywordEach [] X.env)).all (fun x=>x.1.isSome)
   && decide ((e::es).length+([]:List Keyword).length+(if ([]:List Keyword).isEmpty then 0 else 1)<30))=true:=by rfl)
  (hline:(apos.endLine == cpos.line)=true:=by rfl) (hs:starEach (e::es) X.env=(false,eval e X.env)::starEach es X.env:=by rfl) (hplain:(backTo cpos (starEach es X.env)).any (·.1)=false:=by rfl):
  PE X (.Call (.Attribute o name apos) (e::es) [] cpos) (tBM X.K T r to t):=by
 intro pins s σ H Q I h
 refine wpAny_Call_method_late hbase hfew hline rfl (thn (ho pins s σ H _ I h) fun v s1 hpat=>?_)
 obtain ⟨x,H1,I1,r1,ty,q1⟩:=hpat
 obtain ⟨h1,h2⟩:=tyV_is I1 r1 ty
 refine ⟨T,id,pa,slot,hty,h1,h2,?_⟩
 have hA:=ha cpos pins s1 σ H1 _ I1 q1
 rw [hs] at hA ⊢
 refine Calls.callWith_builtin (by show (false || (backTo cpos (starEach es X.env)).any (·.1))=false;rw [hplain] <;> rfl) (Calls.evalArgs_plain ?_)
 exact thn hA fun us s2 ⟨vs,H2,I2,r2,q2⟩=>hm pins s2 σ H2 x vs v us Q I2 r1 r2 q2
end
noncomputable def MtM (X:Cx) (id:String) (r:V→List V→Hp→VK→Prop):Prop:=
 ∀(pins:List (Addr×Obj)) (s:Shared) (σ:St) (H:Hp) (x:V) (xs:List V) (v:Value) (us:List Value) (Q:VK),Inv X pins σ H s→RelV x v→Vals xs us→r x xs H Q→
  wpAny (model X.prog X.w) X.A (call (.builtin id) (v::us)) (EP X pins σ Q) X.xe s
theorem Vals.one {x:V} {us:List Value} (h:Vals [x] us):∃u,us=[u]∧RelV x u:=by
 cases h with
 | cons r t=>
  cases t
  exact ⟨_,rfl,r⟩
theorem Vals.reverse {xs:List V} {us:List Value} (h:Vals xs us):Vals xs.reverse us.reverse:=by
 induction h with
 | nil=>exact .nil
 | cons r t ih=>rw [List.reverse_cons,List.reverse_cons];exact Vals.append ih (.cons r .nil)
theorem Vals.rep {xs:List V} {us:List Value} (h:Vals xs us):∀k:Nat,Vals (List.replicate k xs).flatten (List.replicate k us).flatten
 | 0=>.nil
 | k+1=>by
  rw [List.replicate_succ,List.replicate_succ,List.flatten_cons,List.flatten_cons]
  exact Vals.append h (Vals.rep h k)
theorem foldl_rep (its:List Value):∀(k:Nat) (acc:List Value),
  List.foldl (fun x1 x2=>x1++x2) acc.toArray (List.replicate k its.toArray)=(acc++(List.replicate k its).flatten).toArray
 | 0,acc=>by simp
 | k+1,acc=>by
  have e:acc.toArray++its.toArray=(acc++its).toArray:=by simp
  have e2:(acc++its)++(List.replicate k its).flatten=acc++(List.replicate (k+1) its).flatten:=by
   rw [List.replicate_succ,List.flatten_cons,List.append_assoc]
  rw [←e2,←foldl_rep its k (acc++its),←e,List.replicate_succ,List.foldl_cons]
section
variable {X:Cx} {pins:List (Addr×Obj)} {σ:St} {H:Hp} {s:Shared} {l b:Addr} {xs ys zs:List V}
theorem Inv.lset {its its':List Value} {n:Nat} {f:Array Value→Array Value} {t':Nat} (I:Inv X pins σ H s) (hH:H l=some (.lst xs))
  (e:s.heap.get? l=some {cls:=.type "list",data:=.seq its.toArray n}) (hf:f its.toArray=its'.toArray) (hv:Vals ys its') (hz:ys.length≤sizeLine):
  Inv X pins σ (upd H l (.lst ys)) {s with heap:=s.heap.update l (Obj.mapSeq f),toks:=t'}:=by
 have q:=PySem.IsL.update e f
 rw [hf] at q
 refine I.write (x:=l) (e:=l) (by rw [hH];exact trivial) (.inl rfl) (fun b' u hb hu=>(Heap.get?_update_other s.heap (Obj.mapSeq f) (Ne.symm hb)).trans hu) ⟨_,q⟩ ?_
 exact ⟨hz,its',_,hv,q⟩
theorem Inv.lnew {its:List Value} {t':Nat} (I:Inv X pins σ H s) (hv:Vals ys its) (hz:ys.length≤sizeLine):
  Inv X pins σ (upd H s.heap.objs.size (.lst ys)) {s with heap:=s.heap.push {cls:=.type "list",data:=.seq its.toArray},toks:=t'}:=
 I.laid (fun _ _ q=>Heap.get?_push_of_some _ q) (Nat.le_refl _) ⟨hz,its,0,hv,Heap.get?_push_size _ rfl⟩
theorem Inv.fresh (I:Inv X pins σ H s):H s.heap.objs.size=none:=I.hok.fresh (Nat.le_refl _)
theorem Inv.lstM (I:Inv X pins σ H s) (hH:H l=some (.lst xs)):xs.length≤sizeLine∧∃(its:List Value) (n:Nat),Vals xs its∧xs.length=its.length∧s.heap.get? l=some {cls:=.type "list",data:=.seq its.toArray n}:=by
 obtain ⟨z,its,n,r,e⟩:=I.hok l _ hH
 exact ⟨z,its,n,r,r.length,e⟩
theorem notLongL {n:Nat} (h:n≤sizeLine):Builtin.List.listTooLong n=false:=by
 unfold Builtin.List.listTooLong
 exact decide_eq_false (by omega)
end
section
variable {X:Cx}
noncomputable def rAppend:V→List V→Hp→VK→Prop:=fun x vs H Q=>∃l xs y,x=.ref l∧vs=[y]∧H l=some (.lst xs)∧xs.length<sizeLine∧Q .non (upd H l (.lst (xs++[y])))
theorem mt_append:MtM X "list.append" rAppend:=by
 intro pins s σ H x vs v us Q I rx rv h
 obtain ⟨l,xs,y,rfl,rfl,hH,hz,q⟩:=h
 cases rx
 obtain ⟨u,rfl,ru⟩:=rv.one
 obtain ⟨z,its,n,r,hl,e⟩:=I.lstM hH
 refine call_meets F.slot_list_append ⟨_,e,rfl⟩ F.entry_list_append (F.args_list_append_2 _ _) (PySem.list_append l its.toArray n u (by rw [List.size_toArray];omega)) ⟨e,?_⟩
 refine ⟨.non,_,I.lset (its':=its++[u]) hH e (by simp) (r.append (.cons ru .nil)) ?_,rfl,q⟩
 rw [List.length_append,List.length_singleton]
 omega
noncomputable def rExtend:V→List V→Hp→VK→Prop:=fun x vs H Q=>∃l b xs zs,x=.ref l∧vs=[.ref b]∧H l=some (.lst xs)∧H b=some (.lst zs)∧xs.length+zs.length≤sizeLine∧Q .non (upd H l (.lst (xs++zs)))
noncomputable def rPop:V→List V→Hp→VK→Prop:=fun x vs H Q=>∃l xs y,x=.ref l∧vs=[]∧H l=some (.lst xs)∧xs[xs.length - 1]?=some y∧Q y (upd H l (.lst xs.dropLast))
noncomputable def rPopAt:V→List V→Hp→VK→Prop:=fun x vs H Q=>∃l xs i k y,x=.ref l∧vs=[.int i]∧H l=some (.lst xs)∧-(2 ^ 63)≤i∧i<2 ^ 63∧seqIndex? i xs.length=some k∧xs[k]?=some y∧Q y (upd H l (.lst (xs.eraseIdx k)))
noncomputable def rReverse:V→List V→Hp→VK→Prop:=fun x vs H Q=>∃l xs,x=.ref l∧vs=[]∧H l=some (.lst xs)∧Q .non (upd H l (.lst xs.reverse))
noncomputable def rClear:V→List V→Hp→VK→Prop:=fun x vs H Q=>∃l xs,x=.ref l∧vs=[]∧H l=some (.lst xs)∧Q .non (upd H l (.lst []))
noncomputable def rCat:R2:=fun x y H Q=>∃l b xs zs,x=.ref l∧y=.ref b∧H l=some (.lst xs)∧H b=some (.lst zs)∧xs.length+zs.length≤sizeLine∧∀p,H p=none→Q (.ref p) (upd H p (.lst (xs++zs)))
theorem op_cat:OpR X (binaryOp .Add) rCat:=by
 intro pins s σ H x y v u Q I rx ry h
 obtain ⟨l,b,xs,zs,rfl,rfl,hH,hB,hz,q⟩:=h
 cases rx
 cases ry
 obtain ⟨z,its,n,r,hl,e⟩:=I.lstM hH
 obtain ⟨z2,its2,n2,r2,hl2,e2⟩:=I.lstM hB
 refine PySem.P.add_list e e2 ?_ (by rw [List.size_toArray,List.size_toArray];omega)
 have ea:its.toArray++its2.toArray=(its++its2).toArray:=by simp
 rw [ea]
 exact ⟨.ref _,_,I.lnew (t':=s.toks) (r.append r2) (by rw [List.length_append];omega),rfl,q _ I.fresh⟩
noncomputable def rRep:R2:=fun x y H Q=>∃l k xs,x=.ref l∧y=.int k∧H l=some (.lst xs)∧-(2 ^ 63)≤k∧k<2 ^ 63∧xs.length * k.toNat≤sizeLine∧
 ∀p,H p=none→Q (.ref p) (upd H p (.lst (List.replicate k.toNat xs).flatten))
theorem len_rep {α:Type} (xs:List α) (k:Nat):(List.replicate k xs).flatten.length=k * xs.length:=by
 induction k with
 | zero=>simp
 | succ k ih=>rw [List.replicate_succ,List.flatten_cons,List.length_append,ih,Nat.succ_mul,Nat.add_comm]
theorem op_rep:OpR X (binaryOp .Mult) rRep:=by
 intro pins s σ H x y v u Q I rx ry h
 obtain ⟨l,k,xs,rfl,rfl,hH,h1,h2,hz,q⟩:=h
 cases rx
 obtain ⟨t,rfl⟩:=ry
 obtain ⟨z,its,n,r,hl,e⟩:=I.lstM hH
 have hlen:its.toArray.size * k.toNat≤sizeLine:=by rw [List.size_toArray,←hl];exact hz
 have hcap:¬its.toArray.size * k.toNat > (2 ^ 63 - 1) / 8:=by
  have:(sizeLine:Nat)≤(2 ^ 63 - 1) / 8:=by decide
  omega
 have hfit:¬(!Builtin.List.listFitsIndex k)=true:=by
  rw [fitsIndex_both h1 h2]
  exact Bool.false_ne_true
 have hlong:¬Builtin.List.listTooLong (its.toArray.size * k.toNat)=true:=by
  rw [notLongL hlen]
  exact Bool.false_ne_true
 have hnew:List.foldl (fun x1 x2=>x1++x2) #[] (List.replicate (if its.toArray.isEmpty=true then 0 else k.toNat) its.toArray)=(List.replicate k.toNat its).flatten.toArray:=by
  have f0:∀m:Nat,List.foldl (fun x1 x2=>x1++x2) #[] (List.replicate m its.toArray)=(List.replicate m its).flatten.toArray:=fun m=>by
   have:=foldl_rep its m []
   rw [List.nil_append] at this
   exact this
  rw [f0]
  cases its with
  | nil=>simp
  | cons a r'=>rw [if_neg (by simp)]
 refine wpAny_binaryOp_repeat_ref (T:="list") (U:="int") (by decide) ⟨_,e,rfl⟩ (fun s'=>typeIs_int s' k t) noFill_list_mul F.fills_int_mul F.slot_int_rmul repeat_list F.slot_int_index.lookup
  (call_meets F.slot_int_rmul (typeIs_int s k t) F.entry_int_rmul (F.args_int_rmul_2 _ _) (int___rmul___int_list k t l its.toArray n)
   ⟨e,rfl,⟨_,e,rfl⟩,call_meets F.slot_list_mul ⟨_,e,rfl⟩ F.entry_list_mul (F.args_list_mul_2 _ _) (AutoListH.list___mul___list_int_3 l its.toArray n k t hfit hcap hlong) ⟨e,?_⟩⟩)
 rw [hnew]
 exact ⟨.ref _,_,I.lnew (t':=s.toks) (r.rep k.toNat) (by rw [len_rep,Nat.mul_comm];exact hz),rfl,q _ I.fresh⟩
end
section
variable {prog:Program} {w:World} {A:Around} {E:Value→Shared→Prop} {s:Shared}
end
section
variable {X:Cx}
end
end L2
namespace Att
open PySem PySem.W PySem.Calls PyProof.Rows
theorem ints_of_wellAll {P:Params} {h:Heap}:∀(ns:List Int) (vs:List Value),WellAll P h vs (ns.map WData.int)→IntsAre vs ns:=by
 intro ns
 induction ns with
 | nil=>
  intro vs w
  rw [List.map_nil] at w
  cases w
  exact .nil
 | cons n ns ih=>
  intro vs w
  rw [List.map_cons] at w
  cases w with
  | cons a b=>
   cases a
   exact .cons _ _ (ih _ b)
theorem script_of {l:OpenLaw} {n:Nat} (hn:l.most=some n) {P:Params} {h:Heap} {args:List WData} {vals:List Value}
  (hpre:l.row.toRowW.claim.pre args=true) (hwl:WellAll P h vals args):
  ∃a vs ns,vals=[Value.ref a]∧args=[WData.list (ns.map WData.int)]∧h.get? a=some {cls:=.type "list",data:=.seq vs.toArray}∧IntsAre vs ns∧ns.length≤n:=by
 have hsh:WShape.hasAll [] args [.list .int]=true:=(pre_splitW hpre).1
 have hc:l.pre.holds [] {args:=args}=true:=(pre_splitW hpre).2
 obtain ⟨d,r,rfl,h1,h2⟩:=hasAllW_cons hsh
 obtain rfl:=hasAllW_nil h2
 obtain ⟨xs,rfl,h3⟩:=hasW_list h1
 obtain ⟨ns,rfl⟩:=items_int h3
 have hlen:ns.length≤n:=by
  unfold OpenLaw.pre at hc
  have h4:(WTm.not (.lt (.lit (.int (n:Int))) (.len (.arg 0)))).holds [] {args:=[.list (ns.map .int)]}=true:=by
   have h4:=(holds_andW hc).1
   rw [hn] at h4
   exact h4
  have h5:=condW_of h4 (w_not (w_lt w_lit (w_len_list (w_arg rfl))))
  rw [List.length_map] at h5
  refine Nat.le_of_not_lt fun q=>?_
  have q':(n:Int)<((ns.length:Nat):Int):=by omega
  first
   | (rw [decide_eq_true q'] at h5;exact absurd h5 (by decide))
   | (simp at h5;omega)
 cases hwl with
 | cons w1 w2=>
  cases w2
  cases w1 with
  | list ho hall=>exact ⟨_,_,ns,rfl,rfl,ho,ints_of_wellAll ns _ hall,hlen⟩
theorem post_true (l:OpenLaw) (args:List WData):l.row.toRowW.claim.post args (.bool true) args=true:=
 postW_of (r:=l.row.toRowW) (X:=(true == true))
  (show WShape.has [] (.bool true) .bool=true by first | rfl | decide | simp [WShape.has,WShape.arms,WShape.armsAll])
  (show (WTm.eq .res (.lit (.bool true))).value [] {args:=args,res:=some (.bool true),after:=args}=some (.bool (true == true)) from w_eq_bool (w_res rfl) w_lit) rfl
theorem attach_call {l:OpenLaw} {n:Nat} {q:Program} {loose:List Str} {XP:(Str→Option Value)→Heap→Prop} {YP:World→Heap→Prop} {d:DefRec}
  (hn:l.most=some n) (hdf:d.params.defaults=[])
  (call:∀(w:World) (s₀ s₁:Shared) (mg mb:Str→Option Value) (fa:Addr) (o:Obj) (pm cd doc:Value) (a:Addr) (vs:List Value) (ns:List Int),
   Ground q loose [] XP w s₀ mg mb s₁.heap→YP w s₁.heap→
   s₁.heap.get? fa=some o→o.data=.func (docDef d.name d.params d.body d.scope pm cd doc)→s₁.heap.CodeRec cd d.name→mg d.name=some (.ref fa)→
   s₁.heap.get? a=some {cls:=.type "list",data:=.seq vs.toArray}→IntsAre vs ns→ns.length≤n→s₁.gens=#[]→
   codeAny (model l.prog w) callerA (.call (.ref fa) ⟨[.ref a],[]⟩) (fun r s'=>r=.ok (.ret (.bool true))∧OldK s₁.heap s'.heap∧s'.os=s₁.os∧AllBare s'.gens) s₁):
  WalkO q loose XP YP l.row.toRowW d [] (fun f vs=>PySem.call f vs):=by
 intro w s₀ s₁ mg mb G Y fa o pm cd doc dV kV ho hd hcd hD hmg hg args vals as hpre hlay hrd hwl hlo
 obtain rfl:dV=.none:=Dflts.none hD hdf
 obtain rfl:kV=.none:=Dflts.noKw hD
 obtain ⟨a,vs,ns,rfl,rfl,hobj,hints,hlen⟩:=script_of hn hpre hwl
 refine enter_call (codeAny_mono (call w s₀ s₁ mg mb fa o pm cd doc a vs ns G Y ho (fd_plain hd) hcd hmg hobj hints hlen hg) fun r s' hq=>?_)
 obtain ⟨rfl,h2,h3,h4⟩:=hq
 exact ⟨.inl ⟨.bool true,.bool true,[],rfl,fun _=>rfl,.bool true,post_true l _,fun _=>⟨List.Pairwise.nil,fun _ hm=>(nomatch hm)⟩⟩,h2,h3,h4⟩
section
variable {prog:Program} {w:World} {A:Around} {E:Value→Shared→Prop} {s:Shared} {K:Frag}
noncomputable def noObjs (h:Heap):Heap:={h with objs:=#[]}
noncomputable def ledger (h:Heap) (L d:Addr):List (Addr×Obj):=(List.range h.objs.size).filterMap fun a=>if a=L∨a=d then none else (h.get? a).map fun o=>(a,o)
end
end Att
namespace L2
open PySem PySem.Spec PyProof.Rows
theorem vals_ints:∀{vs:List Value} {ns:List Int},IntsAre vs ns→Vals (ns.map V.int) vs
 | _,_,.nil=>.nil
 | _,_,.cons n t h=>.cons ⟨t,rfl⟩ (vals_ints h)
noncomputable def Only (H:Hp):Prop:=∀b,H b=none∨∃o xs,H b=some (.frz o (.lst xs))
theorem law_call {P:Program} {w:World} {K:PySem.W.Frag} {mg mb:Str→Option Value} {CX:CXT} {k:Nat} {fa a:Addr} {fd:FuncData} {x:Str} {sp:Sp} {s₁:Shared} {vs:List Value} {ns:List Int}
  (KX:K.In s₁.heap) (hns:s₁.heap.Ns mainGlobals mg) (hb:s₁.heap.Ns builtinsNs mb) (hbb:∀x:Str,x≠"__name__"→mb x=bootBuiltins x) (hlim:s₁.heap.NoLimit) (hg:s₁.gens=#[])
  (ha:s₁.heap.get? a=some {cls:=.type "list",data:=.seq vs.toArray}) (hi:IntsAre vs ns) (hl:ns.length≤sizeLine) (hr:Room k callerA)
  (F:∀base:Heap,K.In base→base.Ns mainGlobals mg→FnOk P w K mg base CX k fa fd [x] sp) (hbind:∀(s:Shared) (u:Value),BindsTo s fd ⟨[u],[]⟩ [(x,u)])
  (hsp:∀H:Hp,Only H→SqL K H a (ns.map V.int)→sp [.ref a] H (fun v _=>v=.bl true) fun _ _ _=>False)
  (hCX:∀H e s',CX [] H s₁ (fun _ _ _=>False) e s'→False):
  codeAny (model P w) callerA (.call (.ref fa) ⟨[.ref a],[]⟩) (fun r s'=>r=.ok (.ret (.bool true))∧OldK s₁.heap s'.heap∧s'.os=s₁.os∧AllBare s'.gens) s₁:=by
 have rv:=vals_ints hi
 have lenV:=hi.length
 have core:∀H:Hp,Only H→SqL K H a (ns.map V.int)→HOk P w H s₁.heap→(∀b,H b≠none→b=a)→(H a≠none→K.lookup a=none)→
   codeAny (model P w) callerA (.call (.ref fa) ⟨[.ref a],[]⟩) (fun r s'=>r=.ok (.ret (.bool true))∧OldK s₁.heap s'.heap∧s'.os=s₁.os∧AllBare s'.gens) s₁:=by
  intro H hO hS hok hA hK
  have base_of:∀{b:Addr} {o:Obj},s₁.heap.get? b=some o→H b=none→(hidT s₁.heap H).get? b=some o:=fun e n=>hidT_get e n
  have noA:∀{b:Addr} {o:Obj} {es:Array DictEntry} {ep:Nat},s₁.heap.get? b=some o→o.data=.dict es ep→H b=none:=fun {b o es ep} e d=>by
   cases q:H b with
   | none=>rfl
   | some u=>
    have e':b=a:=hA b (by rw [q];simp)
    subst e'
    rw [ha] at e;cases e
    have d':Data.seq vs.toArray _=Data.dict es ep:=d
    cases d'
  have nsK:∀{b:Addr} {m:Str→Option Value},s₁.heap.Ns b m→(hidT s₁.heap H).Ns b m:=fun {b m} ⟨o,es,ep,e,d,r⟩=>⟨o,es,ep,base_of e (noA e d),d,r⟩
  have hKb:K.In (hidT s₁.heap H):=fun b o e=>base_of (KX b o e) (by
   cases q:H b with
   | none=>rfl
   | some u=>
    have e':b=a:=hA b (by rw [q];simp)
    subst e'
    rw [hK (by rw [q];simp)] at e;cases e)
  have hM:Mod K mg (hidT s₁.heap H):=⟨hKb,nsK hns,⟨mb,nsK hb,hbb⟩,let ⟨mc,h1,h2⟩:=hlim;⟨mc,nsK h1,h2⟩⟩
  have e0:Env0 P w K mg (hidT s₁.heap H) callerA [] s₁ H:=⟨rfl,hM,fun b o e=>of_hidT e,Nat.le_of_eq (hidT_size _ _),trivial,fun b hb=>absurd (show b∈([]:List Addr) from hb) (by simp),hok,.of_eq hg⟩
  refine codeAny_mono ((F _ hKb (nsK hns)).run callerA [] s₁ H ⟨[.ref a],[]⟩ [.ref a] [.ref a] _ _ hr e0 (hbind s₁ (.ref a)) (.cons rfl .nil) (hsp H hO hS)) fun r s' h=>?_
  cases r with
  | error e=>exact (hCX H e s' h).elim
  | ok fl=>
   cases fl with
   | next=>exact False.elim h
   | brk=>exact False.elim h
   | cont=>exact False.elim h
   | ret u=>
    obtain ⟨v,H',os,bare,un,hok',r',q⟩:=h
    have q':v=.bl true:=q
    subst q'
    obtain rfl:u=Value.bool true:=r'
    refine ⟨rfl,OldK.of_keep fun b o e=>?_,os,bare⟩
    cases q:H b with
    | none=>exact un.keep b o e q (by intro z;exact absurd (show b∈([]:List Addr) from z) (by simp)) (by simp)
    | some u=>
     rcases hO b with z | ⟨ob,xs,z⟩
     ·rw [q] at z;cases z
     ·have z2:=un.frzs b ob _ z
      obtain ⟨e1,_⟩:=hok b _ z
      obtain ⟨e2,_⟩:=hok' b _ z2
      rw [e] at e1;cases e1
      exact e2
 cases hk:K.lookup a with
 | some o=>
  have e:=KX a o hk
  rw [ha] at e
  cases e
  refine core (fun _=>none) (fun _=>.inl rfl) (.inr ⟨_,vs.toArray,_,hk,rfl,rfl,rfl,by rw [List.size_toArray,lenV];exact hl,by simpa using rv⟩) (fun b u z=>by have z':(none:Option HO)=some u:=z;cases z') (fun b z=>absurd rfl z) fun z=>absurd rfl z
 | none=>
  refine core (fun b=>if b=a then some (.frz {cls:=.type "list",data:=.seq vs.toArray} (.lst (ns.map V.int))) else none) (fun b=>?_) (.inl (.inr ⟨{cls:=.type "list",data:=.seq vs.toArray},if_pos rfl⟩)) (fun b u z=>?_) (fun b z=>?_) fun _=>hk
  ·by_cases hb:b=a
   ·exact .inr ⟨_,_,if_pos hb⟩
   ·exact .inl (if_neg hb)
  ·by_cases hb:b=a
   ·have z':=(if_pos hb).symm.trans z
    cases z'
    subst hb
    exact ⟨ha,by rw [List.length_map];exact hl,vs,_,rv,ha⟩
   ·have z':=(if_neg hb).symm.trans z
    cases z'
  ·by_cases hb:b=a
   ·exact hb
   ·exact absurd (if_neg hb) z
noncomputable abbrev KOf {K:PySem.W.Frag} {h:Heap} (_:K.In h):PySem.W.Frag:=K
theorem walk_of {l:PySem.W.OpenLaw} {n k:Nat} {q:Program} {loose:List Str} {XP:(Str→Option Value)→Heap→Prop} {YP:World→Heap→Prop} {d:DefRec} {K:Params→PySem.W.Frag} {CX:World→CXT} {sp:World→Sp} {x:Str}
  (hn:l.most=some n) (hn2:n≤sizeLine) (hdf:d.params.defaults=[]) (hr:Room k callerA)
  (hY:∀(w:World) (h:Heap),YP w h→(K w.params).In h)
  (F:∀(w:World) (mg:Str→Option Value) (fa:Addr) (h:Heap),(K w.params).In h→h.Ns mainGlobals mg→mg d.name=some (.ref fa)→
   ∃fd:FuncData,(∀(s:Shared) (u:Value),BindsTo s fd ⟨[u],[]⟩ [(x,u)])∧
    ∀base:Heap,(K w.params).In base→base.Ns mainGlobals mg→FnOk l.prog w (K w.params) mg base (CX w) k fa fd [x] (sp w))
  (hsp:∀(w:World) (H:Hp) (a:Addr) (ns:List Int),ns.length≤n→Only H→SqL (K w.params) H a (ns.map V.int)→sp w [.ref a] H (fun v _=>v=.bl true) fun _ _ _=>False)
  (hCX:∀(w:World) (H:Hp) (s:Shared) (e:Value) (s':Shared),CX w [] H s (fun _ _ _=>False) e s'→False):
  PySem.W.WalkO q loose XP YP l.row.toRowW d [] (fun f vs=>PySem.call f vs):=by
 refine Att.attach_call hn hdf fun w s₀ s₁ mg mb fa o pm cd doc a vs ns G Y ho hd hcd hmg hobj hints hlen hg=>?_
 have KX:=hY w _ Y
 obtain ⟨fd,hb,hF⟩:=F w mg fa _ KX G.T.g hmg
 exact law_call KX G.T.g G.T.b G.T.builtins G.T.nolimit hg hobj hints (Nat.le_trans hlen hn2) hr hF hb (fun H hO hS=>hsp w H a ns hlen hO hS) fun H e s'=>hCX w H s₁ e s'
noncomputable def inClass (s:Stmt) (j:Nat):Stmt:=match s with
 | .ClassDef _ _ _ body _ _ _ _ _ _ _=>body.getD j (.Pass ⟨0,0,0,0⟩)
 | _=>.Pass ⟨0,0,0,0⟩
noncomputable def defArgs (s:Stmt):Arguments:=match s with
 | .FunctionDef _ a _ _ _ _ _ _ _ _=>a
 | _=>{posonlyargs:=[],args:=[],vararg:=none,kwonlyargs:=[],kw_defaults:=[],kwarg:=none,defaults:=[]}
noncomputable def defBody (s:Stmt):List Stmt:=match s with
 | .FunctionDef _ _ b _ _ _ _ _ _ _=>b
 | _=>[]
noncomputable def defScope (s:Stmt):Scope:=match s with
 | .FunctionDef _ _ _ _ _ _ sc _ _ _=>sc
 | _=>{kind:=.function,names:=[],isGenerator:=false,isCoroutine:=false}
noncomputable abbrev CX0:CXT:=fun _ _ _ _ _ _=>False
noncomputable abbrev E0:XK:=fun _ _ _=>False
structure Fun (K:PySem.W.Frag) (x qual:Str) (st:Stmt) (f:Addr) (fd:FuncData):Prop where
 ex:∃(oc:Value) (od:Option Addr) (kV doc pm:Value) (an:Option Addr) (cdv ct:Value) (osl:Array (Option Value)),
  fd=PySem.W.fnOf x qual (defArgs st) (defBody st) (defScope st) .none kV doc pm an cdv ct∧K.lookup f=some ⟨oc,od,.func fd,osl⟩∧PySem.W.codeIn K cdv qual=true
 kp:PySem.W.keepIn K (.ref f)=true
section
variable {P:Program} {w:World} {K:PySem.W.Frag} {mg:Str→Option Value} {base:Heap}
theorem Fun.ok {x qual:Str} {st:Stmt} {f:Addr} {fd:FuncData} {N ps:List Str} {k:Nat} {sp:Sp} (F:Fun K x qual st f fd) (S:FnScope N ps (defScope st)) (len:∀vs H Q E,sp vs H Q E→vs.length=ps.length)
  (hbody:∀(cdv:Value) (A:Around) (outer:List Env) (s:Shared) (H:Hp) (vs:List V) (Q:VK) (E:XK),Room k (A.deeper (envOfC qual (defScope st) s.heap.objs.size f cdv))→sp vs H Q E→
   ∃t,PSs (cxOf CX0 P w K mg base N qual (defScope st) f cdv A outer s H E).nox (defBody st) t∧t {nx:=fun _ H'=>Q .non H',rt:=Q} (start N vs) H):FnOk P w K mg base CX0 (k+1) f fd ps sp:=by
 obtain ⟨oc,od,kV,doc,pm,an,cdv,ct,osl,rfl,lk,hcd⟩:=F.ex
 refine fn_of lk hcd S len fun A outer s H vs Q E hr hsp=>?_
 obtain ⟨t,h,q⟩:=hbody cdv A outer s H vs Q E hr hsp
 exact ⟨t,h.nox,q⟩
theorem Fun.binds {x qual:Str} {st:Stmt} {f:Addr} {fd:FuncData} {ps:List Str} (F:Fun K x qual st f fd)
  (h:∀(kV doc pm:Value) (an:Option Addr) (cdv ct:Value) (us:List Value),us.length=ps.length→bindArgs (PySem.W.fnOf x qual (defArgs st) (defBody st) (defScope st) .none kV doc pm an cdv ct) ⟨us,[]⟩=pure (ps.zip us)):Binds K fd ps []:=by
 obtain ⟨oc,od,kV,doc,pm,an,cdv,ct,osl,rfl,lk,hcd⟩:=F.ex
 exact .all (h kV doc pm an cdv ct)
theorem fun_mk {x qual:Str} {st:Stmt} {f:Addr} {oc:Value} {od an:Option Addr} {osl:Array (Option Value)} {kV doc pm cdv ct:Value} (l:K.lookup f=some ⟨oc,od,.func (PySem.W.fnOf x qual (defArgs st) (defBody st) (defScope st) .none kV doc pm an cdv ct),osl⟩)
  (c:PySem.W.codeIn K cdv qual=true) (k:PySem.W.keepIn K (.ref f)=true):Fun K x qual st f (PySem.W.fnOf x qual (defArgs st) (defBody st) (defScope st) .none kV doc pm an cdv ct):=⟨⟨oc,od,kV,doc,pm,an,cdv,ct,osl,rfl,l,c⟩,k⟩
end
theorem hu_of {A:Around} {k:Nat} (hr:Room k A):A.units+1<cLine:=Nat.lt_of_le_of_lt (Nat.add_le_add_left (by decide:1≤64) _) hr.units
section
variable {X:Cx}
theorem pv (i:Nat) {x:Str} {pos:Pos} (hN:X.N[i]?=some x:=by rfl) (hv:Vis X.env.scope x:=by first | exact Or.inl rfl | exact Or.inr (Or.inl rfl) | exact Or.inr (Or.inr rfl)) (hd:(x == ("__debug__":Str))=false:=by decide)
  (hcd:(x == ("__classdict__":Str))=false:=by decide):PE X (.Name x pos) (tVar i):=pe_var hN hv hd hcd
end
theorem iteF {A B:Prop} (h:B):if false=true then A else B:=by
 rw [if_neg Bool.false_ne_true]
 exact h
theorem iteT {A B:Prop} (h:A):if true=true then A else B:=by
 rw [if_pos rfl]
 exact h
theorem ite2 {c A B:Prop} [Decidable c] (h1:c→A) (h2:¬c→B):if c then A else B:=by
 by_cases h:c
 ·rw [if_pos h]
  exact h1 h
 ·rw [if_neg h]
  exact h2 h
noncomputable def Same (H H':Hp):Prop:=∀b o,H b=some o→H' b=some o
theorem Same.refl (H:Hp):Same H H:=fun _ _ h=>h
theorem Same.trans {H H1 H2:Hp} (a:Same H H1) (b:Same H1 H2):Same H H2:=fun c o h=>b c o (a c o h)
theorem Same.free {H H':Hp} (e:Same H H') {l:Addr} (h:H' l=Option.none):H l=Option.none:=by
 cases q:H l with
 | none=>rfl
 | some o=>
  rw [e l o q] at h
  cases h
end L2
set_option maxHeartbeats 4000000
set_option bootstrap.genMatcherCode false
set_option genInjectivity false
set_option genSizeOf false
namespace L2
open PySem PySem.Spec PyProof.Rows
theorem forIn_pure {α β:Type} {f:α→β→Sem (ForInStep β)} {g:β→α→β}:∀(l:List α) (c:β),(∀x∈l,∀c,f x c=pure (.yield (g c x)))→forIn l c f=pure (l.foldl g c)
 | [],_,_=>rfl
 | x::l,c,h=>by
  rw [List.forIn_cons,h x List.mem_cons_self,pure_bind]
  exact forIn_pure l (g c x) fun y hy=>h y (List.mem_cons_of_mem _ hy)
noncomputable def closStep (env:Env) (acc:List (Str×Addr)) (x:Str×NameKind):List (Str×Addr):=if x.2 == .free then (x.1,(env.cells.lookup x.1).getD 0)::acc else acc
noncomputable def closL (env:Env) (names:List (Str×NameKind)):List (Str×Addr):=names.foldl (closStep env) []
theorem closureFor_eq {scope:Scope} {env:Env} (h:∀x∈scope.names,x.2=.free→∃c,env.cells.lookup x.1=some c):closureFor scope env=pure (closL env scope.names):=by
 simp only [closureFor]
 rw [forIn_pure (g:=closStep env) scope.names [] (fun x hx c=>by
  obtain ⟨n,kind⟩:=x
  by_cases hk:kind=.free
  ·subst hk
   obtain ⟨a,ha⟩:=h _ hx rfl
   have ha':env.cells.lookup n=some a:=ha
   simp [closStep,cellOf,ha']
  ·have hb:(kind == NameKind.free)=false:=by simpa using hk
   simp [closStep,hb])]
 rfl
theorem closL_mem {env:Env}:∀(names:List (Str×NameKind)) (acc:List (Str×Addr)),(∀x∈names,x.2=.free→∃c,env.cells.lookup x.1=some c)→(∀p∈acc,env.cells.lookup p.1=some p.2)→
  ∀p∈names.foldl (closStep env) acc,env.cells.lookup p.1=some p.2
 | [],_,_,h=>h
 | x::r,acc,hn,h=>by
  refine closL_mem r _ (fun y hy=>hn y (List.mem_cons_of_mem _ hy)) ?_
  intro p hp
  unfold closStep at hp
  split at hp
  ·rename_i hk
   rcases List.mem_cons.mp hp with e | e
   ·subst e
    obtain ⟨c,hc⟩:=hn x List.mem_cons_self (by simpa using hk)
    show env.cells.lookup x.1=some ((env.cells.lookup x.1).getD 0)
    rw [hc]
    rfl
   ·exact h p e
  ·exact h p hp
theorem closL_sub {env:Env}:∀(names:List (Str×NameKind)) (acc:List (Str×Addr)) (p:Str×Addr),p∈acc→p∈names.foldl (closStep env) acc
 | [],_,_,h=>h
 | x::r,acc,p,h=>by
  refine closL_sub r _ p ?_
  unfold closStep
  split
  ·exact List.mem_cons_of_mem _ h
  ·exact h
theorem closL_has {env:Env}:∀(names:List (Str×NameKind)) (acc:List (Str×Addr)) (x:Str),(x,NameKind.free)∈names→∃c,(x,c)∈names.foldl (closStep env) acc
 | y::r,acc,x,h=>by
  rcases List.mem_cons.mp h with e | e
  ·subst e
   exact ⟨_,closL_sub r _ _ (by unfold closStep;rw [if_pos (by rfl)];exact List.mem_cons_self)⟩
  ·exact closL_has r _ x e
theorem lookup_of_mem {α:Type}:∀{l:List (Str×α)} {x:Str} {c:α},(x,c)∈l→∃d,l.lookup x=some d
 | (y,d)::r,x,c,h=>by
  rw [List.lookup_cons]
  cases e:x == y with
  | true=>exact ⟨d,rfl⟩
  | false=>
   rcases List.mem_cons.mp h with q | q
   ·cases q
    rw [beq_self_eq_true] at e
    cases e
   ·exact lookup_of_mem q
theorem lookup_relabel (env:Env):∀(names:List (Str×NameKind)) (x:Str),(names.map fun (n,k)=>if (k == NameKind.free && env.scope.kind == .function && env.kindOf n == some .cell) then (n,NameKind.cell) else (n,k)).lookup x =
  (names.lookup x).map fun k=>if (k == NameKind.free && env.scope.kind == .function && env.kindOf x == some .cell) then NameKind.cell else k
 | [],_=>rfl
 | (n,k)::r,x=>by
  have ih:=lookup_relabel env r x
  show List.lookup x ((if (k == NameKind.free && env.scope.kind == .function && env.kindOf n == some .cell)=true then (n,NameKind.cell) else (n,k))::_)=_
  have hr:((n,k)::r).lookup x=(match x == n with | true=>some k | false=>r.lookup x):=List.lookup_cons ..
  rw [hr]
  by_cases hc:(k == NameKind.free && env.scope.kind == .function && env.kindOf n == some .cell)=true
  ·rw [if_pos hc,List.lookup_cons]
   cases hx:x == n with
   | true=>
    have e:x=n:=eq_of_beq hx
    subst e
    show some NameKind.cell=some (if (k == NameKind.free && env.scope.kind == .function && env.kindOf x == some .cell)=true then NameKind.cell else k)
    rw [if_pos hc]
   | false=>exact ih
  ·rw [if_neg hc,List.lookup_cons]
   cases hx:x == n with
   | true=>
    have e:x=n:=eq_of_beq hx
    subst e
    show some k=some (if (k == NameKind.free && env.scope.kind == .function && env.kindOf x == some .cell)=true then NameKind.cell else k)
    rw [if_neg hc]
   | false=>exact ih
noncomputable def cxC (X:Cx) (own:List Str) (scope:Scope) (cl:List (Str×Addr)) (C:Addr) (s:Shared) (H:Hp) (fp:List Addr):Cx:=
 {X with N:=own++X.N,s₀:=s,H₀:=H,env:=compEnvC scope cl C X.env,outer:=X.stack,stack:=X.stack,ex:=fp,fn:=fun _=>false,xe:=fun _ _=>False}
noncomputable def PTs (X:Cx) (ifs:List Expr) (t:TT):Prop:=
 ∀(pins:List (Addr×Obj)) (s:Shared) (σ:St) (H:Hp) (Q:Bool→Hp→Prop),Inv X pins σ H s→t σ H Q→
  wpAny (model X.prog X.w) X.A (forIn ifs true fun c r=>if r=true then do let ok ←isTrue c X.env (eval c X.env);pure (ForInStep.yield ok) else pure (ForInStep.yield r)) (TP X pins σ Q) X.xe s
noncomputable def tAll:TT:=fun _ H Q=>Q true H
theorem pts_nil {X:Cx}:PTs X [] tAll:=fun _ _ _ H _ I h=>wpAny_tests_nil ⟨H,I,h⟩
theorem pts_one {X:Cx} {c:Expr} {t:TT} (h:PT X c t):PTs X [c] t:=fun pins s σ H Q I q=>wpAny_tests_one (h pins s σ H Q I q)
noncomputable def Wk:St→St→Prop
 | [],[]=>True
 | _::r,none::t=>Wk r t
 | a::r,some v::t=>a=some v∧Wk r t
 | _,_=>False
theorem Wk.len:∀{a b:St},Wk a b→b.length=a.length
 | [],[],_=>rfl
 | _::r,none::t,h=>congrArg (·+1) (Wk.len (a:=r) (b:=t) h)
 | _::r,some _::t,h=>congrArg (·+1) (Wk.len (a:=r) (b:=t) h.2)
 | [],none::_,h=>h.elim
 | [],some _::_,h=>h.elim
 | _::_,[],h=>h.elim
theorem Wk.get:∀{a b:St} (i:Nat) (v:V),Wk a b→b[i]?=some (some v)→a[i]?=some (some v)
 | _::_,none::_,0,v,_,e=>by simp at e
 | _::_,some _::_,0,v,h,e=>by simp at e ⊢;rw [h.1,e]
 | _::r,none::t,i+1,v,h,e=>by simp at e ⊢;exact Wk.get (a:=r) (b:=t) i v h e
 | _::r,some _::t,i+1,v,h,e=>by simp at e ⊢;exact Wk.get (a:=r) (b:=t) i v h.2 e
 | [],[],i,v,h,e=>by simp at e
 | [],none::_,_,_,h,_=>h.elim
 | [],some _::_,_,_,h,_=>h.elim
 | _::_,[],_,_,h,_=>h.elim
theorem Wk.refl:∀(a:St),Wk a a
 | []=>trivial
 | none::r=>Wk.refl r
 | some _::r=>⟨rfl,Wk.refl r⟩
noncomputable def CompR (J:It) (H:Hp) (k:Nat) (g:TG) (tt:TT) (te:TE) (σ:St) (Q:VK):Prop:=∃W:Nat→Nat→List V→Hp→Prop,(∃m,W 0 m [] H)∧∀i m ys H,W i m ys H→
 (J.stop i H∧ys.length≤sizeLine∧∀p,H p=none→Q (.ref p) (upd H p (.lst ys)))∨
 (J.go i H∧ys.length<sizeLine∧∀x H',J.yld i H x H'→g x (List.replicate k none++σ) H' fun σ2 H2=>Wk σ2 (List.replicate k none++σ)∧tt σ2 H2 fun ok H3=>
  if ok=true then te σ2 H3 fun y H4=>∃m',m'<m∧W (i+1) m' (ys++[y]) H4 else ∃m',m'<m∧W (i+1) m' ys H3)
noncomputable def tComp (wi:TI) (g:TG) (tt:TT) (te:TE) (k:Nat):TE:=fun σ H Q=>wi σ H fun J H1=>CompR J H1 k g tt te σ Q
theorem compLoop_go {prog:Program} {w:World} {A:Around} {R:Result→Shared→Prop} {s:Shared} {elt target iter:Expr} {ifs:List Expr} {scope:Scope} {pos:Pos} {it acc:Value} {env:Env} (I:Nat→Shared→Prop)
  (turn:∀n s,I n s→wpAny (model prog w) A (pyNext it) (fun r s₁=>match r with
   | none=>R (.ok .next) s₁
   | some v=>wpAny (model prog w) A (letOwnedTupleGo target it v) (fun _ s₁'=>wpAny (model prog w) A (assign target env v) (fun _ s₂=>
     wpAny (model prog w) A (forIn ifs true fun c r=>if r=true then do let ok ←isTrue c env (eval c env);pure (ForInStep.yield ok) else pure (ForInStep.yield r)) (fun ok s₃=>
      if ok=true then wpAny (model prog w) A (eval elt env) (fun x s₄=>
       wpAny (model prog w) A (call (.builtin "list.append") [acc,x]) (fun _ s₅=>∃m,m<n∧I m s₅) (fun _ _=>False) s₄) (fun _ _=>False) s₃
      else ∃m,m<n∧I m s₃) (fun _ _=>False) s₂) (fun _ _=>False) s₁') (fun _ _=>False) s₁) (fun _ _=>False) s)
  (n:Nat) (h:I n s):
  codeAny (model prog w) A (.compLoop (.ListComp elt [⟨target,iter,ifs,0⟩] scope pos) 0 it acc env) R s:=by
 refine codeAny_loop rfl I (fun n s hI=>?_) n h
 show wpAny _ A ((compTurn (.ListComp elt [⟨target,iter,ifs,0⟩] scope pos) 0 it acc env).onRaise (fun x=>do noteFrame x env;theTreesLotGoes x)) _ _ s
 refine wpAny_noted ?_
 rw [compTurn_list]
 refine wpAny_bind (wpAny_standAt (wpAny_bind (wpAny_mono (turn n s hI) (fun r s₁ h₁=>?_) fun _ _ h'=>h'.elim)))
 cases r with
 | none=>exact wpAny_pure h₁
 | some v=>
  refine wpAny_bind (wpAny_mono h₁ (fun _ s₁' h₁'=>?_) fun _ _ h'=>h'.elim)
  refine wpAny_bind (wpAny_mono h₁' (fun _ s₂ h₂=>wpAny_bind (wpAny_mono h₂ (fun ok s₃ h₃=>?_) fun _ _ h'=>h'.elim)) fun _ _ h'=>h'.elim)
  cases ok with
  | false=>exact wpAny_pure ⟨rfl,h₃⟩
  | true=>
   exact wpAny_bind (wpAny_bind (wpAny_mono h₃ (fun x s₄ h₄=>wpAny_bind (wpAny_mono h₄ (fun _ s₅ h₅=>wpAny_pure (wpAny_pure ⟨rfl,h₅⟩)) fun _ _ h'=>h'.elim)) fun _ _ h'=>h'.elim))
noncomputable abbrev lo (its:List Value) (n:Nat):Obj:={cls:=.type "list",data:=.seq its.toArray n}
structure CompOk (X:Cx) (own:List Str) (scope:Scope):Prop where
 calm:X.calm=true
 cell:∀y∈scope.names,y.2≠.cell
 kind:scope.kind=.function
 names:∀y∈scope.names,y.2=.local→scope.names.lookup y.1=some .local
 fr:∀y∈scope.names,y.2=.free→X.env.scope.names.lookup y.1=some .cell∨X.env.scope.names.lookup y.1=some .free
 loc:∀y∈X.N,scope.names.lookup y≠some .local
noncomputable def compT1 (names:List (Str×NameKind)):Bool:=names.all fun y=>(y.2 != .cell) && (y.2 != .local || names.lookup y.1 == some .local)
noncomputable def compT2 (outer names:List (Str×NameKind)):Bool:=names.all fun y=>y.2 != .free || outer.lookup y.1 == some .cell || outer.lookup y.1 == some .free
noncomputable def compT3 (N:List Str) (names:List (Str×NameKind)):Bool:=N.all fun y=>names.lookup y != some .local
theorem CompOk.of {X:Cx} {own:List Str} {scope:Scope} (hc:X.calm=true) (hk:scope.kind=.function) (h1:compT1 scope.names=true) (h2:compT2 X.env.scope.names scope.names=true) (h3:compT3 X.N scope.names=true):CompOk X own scope:=by
 unfold compT1 at h1
 unfold compT2 at h2
 unfold compT3 at h3
 rw [List.all_eq_true] at h1 h2 h3
 refine ⟨hc,fun y hy=>?_,hk,fun y hy hl=>?_,fun y hy hf=>?_,fun y hy=>?_⟩
 ·have:=h1 y hy
  rw [Bool.and_eq_true] at this
  exact bne_iff_ne.mp this.1
 ·have:=h1 y hy
  rw [Bool.and_eq_true,hl] at this
  simpa using this.2
 ·have:=h2 y hy
  rw [hf] at this
  simpa using this
 ·exact bne_iff_ne.mp (h3 y hy)
section
variable {X:Cx} {own:List Str} {scope:Scope} {pins:List (Addr×Obj)} {σ:St} {H:Hp} {s:Shared} {fp:List Addr}
theorem CompOk.cells (O:CompOk X own scope) (ok:X.Ok):∀x∈scope.names,x.2=.free→∃c,X.env.cells.lookup x.1=some c:=fun x hx hk=>ok.has x.1 (O.fr x hx hk)
theorem CompOk.sub (O:CompOk X own scope) (ok:X.Ok):∀x c,(closL X.env scope.names).lookup x=some c→X.env.cells.lookup x=some c:=fun x c e=>
 closL_mem scope.names [] (O.cells ok) (fun _ h=>nomatch h) (x,c) (PySem.mem_of_lookup e)
theorem CompOk.free_of (O:CompOk X own scope) {cl:List (Str×Addr)} {C:Addr} {x:Str} (h:(compEnvC scope cl C X.env).kindOf x=some .cell∨(compEnvC scope cl C X.env).kindOf x=some .free):scope.names.lookup x=some .free:=by
 have e:(compEnvC scope cl C X.env).kindOf x=(scope.names.lookup x).map fun k=>if (k == NameKind.free && X.env.scope.kind == .function && X.env.kindOf x == some .cell) then NameKind.cell else k:=lookup_relabel X.env scope.names x
 rw [e] at h
 cases q:scope.names.lookup x with
 | none=>rw [q] at h;simp at h
 | some k=>
  rw [q] at h
  by_cases hk:k=.free
  ·rw [hk]
  ·have hc:k≠.cell:=O.cell (x,k) (PySem.mem_of_lookup q)
   have hb:(k == NameKind.free)=false:=by simpa using hk
   have hr:¬((k == NameKind.free && X.env.scope.kind == .function && X.env.kindOf x == some .cell)=true):=by rw [hb];exact Bool.false_ne_true
   have h:some (if (k == NameKind.free && X.env.scope.kind == .function && X.env.kindOf x == some .cell)=true then NameKind.cell else k)=some NameKind.cell∨some (if (k == NameKind.free && X.env.scope.kind == .function && X.env.kindOf x == some .cell)=true then NameKind.cell else k)=some NameKind.free:=h
   rw [if_neg hr] at h
   rcases h with h | h
   ·exact absurd (Option.some.inj h) hc
   ·exact absurd (Option.some.inj h) hk
theorem CompOk.look (O:CompOk X own scope) (ok:X.Ok) {x:Str} (h:scope.names.lookup x=some .free):∃c,(closL X.env scope.names).lookup x=some c∧X.env.cells.lookup x=some c:=by
 obtain ⟨c,hc⟩:=closL_has scope.names [] (env:=X.env) x (PySem.mem_of_lookup h)
 obtain ⟨d,hd⟩:=lookup_of_mem hc
 exact ⟨d,hd,O.sub ok x d hd⟩
theorem stk_of (I:Inv X pins σ H s) {b:Addr} (h1:b≠X.env.locals) (h2:b∉X.fs):b∉frs X.stack:=fun z=>(List.mem_cons.mp (I.stkSub b z)).elim h1 h2
theorem comp_inv (O:CompOk X own scope) (I:Inv X pins σ H s) (hf:∀b∈fp,FpOk X pins H b) (ho:∀b∈fp,∃o,s.heap.get? b=some o) {h₁:Heap} {C:Addr} {tk:Nat} {m:Str→Option Value}
  (hC:s.heap.objs.size<C) (hD:h₁.get? s.heap.objs.size=some (lo [] 0)) (old:∀b o,s.heap.get? b=some o→h₁.get? b=some o) (hns:h₁.Ns C m):
  Inv (cxC X own scope (closL X.env scope.names) C s H fp) (pins++[(s.heap.objs.size,lo [] 0)]) (List.replicate own.length none++σ) H {s with heap:=h₁,toks:=tk}:=by
 have ltD:∀{b:Addr} {o:Obj},s.heap.get? b=some o→b<s.heap.objs.size:=fun e=>Heap.lt_size e
 have nC:∀{b:Addr} {o:Obj},s.heap.get? b=some o→b≠C:=fun e=>Nat.ne_of_lt (Nat.lt_trans (ltD e) hC)
 have hsub:=O.sub I.ok
 refine ⟨⟨I.ok.mod,by show (relabel scope X.env).kind=_;exact O.kind,I.ok.glob,I.ok.blt,Nat.le_of_lt hC,fun x y c h1 h2=>I.ok.inj x y c (hsub x c h1) (hsub y c h2),fun x hx=>?_,fun x c hx _=>absurd (show false=true from hx) Bool.false_ne_true,I.ok.hd,I.ok.frames,.inl rfl,fun b hb=>⟨?_,fun x c e=>?_⟩,I.bs,Nat.le_trans I.ok.bsz I.sz,fun b o e hb=>?_,fun b hb=>stk_of I (hf b hb).2.1 (hf b hb).2.2.1,I.stack,I.stkFree⟩,
  rfl,I.bare,Un.kept old,⟨m,hns,fun i x v e1 e2 e3=>?_⟩,fun x c e=>?_,I.hok.fresh (Nat.le_of_lt hC),fun x c e=>I.freeC x c (hsub x c e),fun p hp=>?_,I.hok.kept old,?_⟩
 ·obtain ⟨c,hc,_⟩:=O.look I.ok (O.free_of hx)
  exact ⟨c,hc⟩
 ·obtain ⟨o,e⟩:=ho b hb
  exact nC e
 ·exact (hf b hb).2.2.2.2.1 x c (hsub x c e)
 ·rcases (hf b hb).2.2.2.1 with z | z
  ·exact I.ok.noex b o e z
  ·exact absurd (Nat.lt_of_lt_of_le (Heap.lt_size e) (Nat.le_trans I.ok.bsz z)) (Nat.lt_irrefl _)
 ·have e1:(own++X.N)[i]?=some x:=e1
  by_cases hi:i<own.length
  ·rw [List.getElem?_append_left (by simpa using hi),List.getElem?_replicate,if_pos hi] at e2
   cases e2
  ·rw [List.getElem?_append_right (by simpa using hi),List.length_replicate] at e2
   rw [List.getElem?_append_right (by simpa using hi)] at e1
   have nl:(compEnvC scope (closL X.env scope.names) C X.env).kindOf x≠some .local:=by
    have e:(compEnvC scope (closL X.env scope.names) C X.env).kindOf x=(scope.names.lookup x).map fun k=>if (k == NameKind.free && X.env.scope.kind == .function && X.env.kindOf x == some .cell) then NameKind.cell else k:=lookup_relabel X.env scope.names x
    rw [e]
    intro z
    cases q:scope.names.lookup x with
    | none=>rw [q] at z;simp at z
    | some k=>
     rw [q] at z
     by_cases hk:k=.local
     ·exact O.loc x (List.mem_of_getElem? e1) (by rw [q,hk])
     ·have z:some (if (k == NameKind.free && X.env.scope.kind == .function && X.env.kindOf x == some .cell)=true then NameKind.cell else k)=some NameKind.local:=z
      by_cases hc:(k == NameKind.free && X.env.scope.kind == .function && X.env.kindOf x == some .cell)=true
      ·rw [if_pos hc] at z
       cases z
      ·rw [if_neg hc] at z
       exact hk (Option.some.inj z)
   have hv:(compEnvC scope (closL X.env scope.names) C X.env).kindOf x=some .cell∨(compEnvC scope (closL X.env scope.names) C X.env).kindOf x=some .free:=by
    rcases e3 with z | z | z
    ·exact absurd z nl
    ·exact .inl z
    ·exact .inr z
   have hfree:=O.free_of hv
   have hout:=O.fr (x,.free) (PySem.mem_of_lookup hfree) rfl
   obtain ⟨m0,hn0,hl0⟩:=I.loc
   obtain ⟨u,r,l⟩:=hl0 _ x v e1 e2 (hout.elim (fun z=>.inr (.inl z)) fun z=>.inr (.inr z))
   refine ⟨u,r,.inr ⟨hv,?_⟩⟩
   rcases l with ⟨k,_⟩ | ⟨_,c,ec,z⟩
   ·have k':X.env.scope.names.lookup x=some .local:=k
    rcases hout with q | q
    ·rw [q] at k';cases k'
    ·rw [q] at k';cases k'
   ·obtain ⟨d,hd1,hd2⟩:=O.look I.ok hfree
    rw [ec] at hd2
    cases hd2
    obtain ⟨oc,hoc,hdc⟩:=z
    exact ⟨c,hd1,oc,old _ _ hoc,hdc⟩
 ·obtain ⟨v,o,hoc,hdc⟩:=I.cell x c (hsub x c e)
  exact ⟨v,o,old _ _ hoc,hdc⟩
 ·have hp:p∈X.pn++(pins++[(s.heap.objs.size,lo [] 0)]):=hp
  rw [←List.append_assoc] at hp
  rcases List.mem_append.mp hp with hp | hp
  ·obtain ⟨e,n,ne,nf,d⟩:=I.pin p hp
   exact ⟨old _ _ e,n,nC e,stk_of I ne nf,d⟩
  ·cases List.mem_singleton.mp hp
   refine ⟨hD,I.hok.fresh (Nat.le_refl _),Nat.ne_of_lt hC,fun z=>?_,fun v z=>by cases z⟩
   have z:=I.stkSub _ z
   rcases List.mem_cons.mp z with z | z
   ·exact absurd z (Nat.ne_of_gt I.lt)
   ·exact I.nofs (Nat.le_refl _) z
 ·show (List.replicate own.length none++σ).length=(own++X.N).length
  rw [List.length_append,List.length_append,List.length_replicate,I.len]
theorem comp_exit {cl:List (Str×Addr)} {C:Addr} {its:List Value} {n:Nat} {σ':St} {H':Hp} {s':Shared} {ys:List V} {h':Heap} (I:Inv X pins σ H s) (hf:∀b∈fp,FpOk X pins H b) (hC:s.heap.objs.size<C)
  (I':Inv (cxC X own scope cl C s H fp) (pins++[(s.heap.objs.size,lo its n)]) σ' H' s') (hv:Vals ys its) (hz:ys.length≤sizeLine) (hs:Heap.SameBut C s'.heap h'):
  Inv X pins σ (upd H' s.heap.objs.size (.lst ys)) {s' with heap:=h'}:=by
 obtain ⟨eD,nD,neD,_,_⟩:=I'.pin (s.heap.objs.size,lo its n) (List.mem_append_right _ (List.mem_append_right _ List.mem_cons_self))
 have nC:∀{b:Addr} {o:Obj},s.heap.get? b=some o→b≠C:=fun e=>Nat.ne_of_lt (Nat.lt_trans (Heap.lt_size e) hC)
 have nDD:∀{b:Addr} {o:Obj},s.heap.get? b=some o→b≠s.heap.objs.size:=fun e=>Nat.ne_of_lt (Heap.lt_size e)
 have same:∀{b:Addr} {o:Obj},b≠C→s'.heap.get? b=some o→h'.get? b=some o:=fun hb e=>(hs.2 _ hb).trans e
 have fC:H' C=none:=I'.free
 have hb:Un (frs X.stack) fp H H' s.heap s'.heap:=I'.base
 have hot:∀{b:Addr} {u:HO},H b=some u→b≠s.heap.objs.size:=fun e=>Nat.ne_of_lt (I.hok.lt e)
 refine I.call' (s':={s' with heap:=h'}) (ch:=fp) I'.os ⟨fun b o e q n1 n2=>same (nC e) (hb.keep b o e q n1 n2),fun b o e q n1 n2=>?_,fun b o e q n2=>?_,fun b o e n2=>?_,fun b xs e=>?_,fun b o u e=>?_,fun b ps e=>?_⟩ ?_ I'.bare fun b hb'=>?_
 ·obtain ⟨sl,q2⟩:=hb.slot b o e q n1 n2
  exact ⟨sl,same (nC e) q2⟩
 ·rw [upd_ne (nDD e)]
  exact hb.free b o e q n2
 ·obtain ⟨o',q2⟩:=hb.there b o e n2
  exact ⟨o',same (nC e) q2⟩
 ·rw [upd_ne (hot e)]
  exact hb.tups b xs e
 ·rw [upd_ne (hot e)]
  exact hb.frzs b o u e
 ·obtain ⟨more,q2⟩:=hb.tbls b ps e
  exact ⟨more,by rw [upd_ne (hot e)];exact q2⟩
 ·intro b u e
  by_cases hbD:b=s.heap.objs.size
  ·subst hbD
   rw [upd_same] at e
   cases e
   exact ⟨hz,its,n,hv,same neD eD⟩
  ·rw [upd_ne hbD] at e
   have nD':∀{c:Addr} {w:HO},H' c=some w→c≠s.heap.objs.size:=fun q z=>by
    rw [z] at q
    have z2:H' s.heap.objs.size=none:=nD
    rw [z2] at q
    cases q
   refine (I'.hok b u e).stay (fun c v hc q=>same ?_ q) (fun c q=>by rw [upd_ne (nD' q)];exact q) fun c xs q=>by rw [upd_ne (nD' q)];exact q
   rintro rfl
   rcases hc with z | z
   ·rw [←z,fC] at e;cases e
   ·rw [fC] at z;cases z
 ·obtain ⟨_,f1,_,f3,f4,f5⟩:=hf b hb'
  exact ⟨f3,f1,f4,f5⟩
theorem append_at' {prog:Program} {w:World} {A:Around} {E:Value→Shared→Prop} {s:Shared} {l:Addr} {its:List Value} {n:Nat} {u:Value} {Q:Value→Shared→Prop} (e:s.heap.get? l=some (lo its n)) (hz:its.length≤sizeLine)
  (h:Q .none {s with heap:=s.heap.update l (Obj.mapSeq (·.push u))}):wpAny (model prog w) A (call (.builtin "list.append") [.ref l,u]) Q E s:=
 call_meets F.slot_list_append ⟨_,e,rfl⟩ F.entry_list_append (F.args_list_append_2 _ _) (PySem.list_append l its.toArray n u (by rw [List.size_toArray];omega)) ⟨e,h⟩
theorem comp_core {tg iter elt:Expr} {ifs:List Expr} {pos pos0:Pos} {wi:TI} {g:TG} {tt:TT} {te:TE} {use:Option (Value→Sem Unit)} {Qp:Value→Shared→Prop} (O:CompOk X own scope) (hi:PI X tg iter wi)
  (hg:∀cl C s H fp,PG (cxC X own scope cl C s H fp) tg g) (ht:∀cl C s H fp,PTs (cxC X own scope cl C s H fp) ifs tt) (he:∀cl C s H fp,PE (cxC X own scope cl C s H fp) elt te)
  (hs:∀x,foldedSetIterable iter X.env x=pure x) {pins:List (Addr×Obj)} {s:Shared} {σ:St} {H:Hp} {Q:VK} (I:Inv X pins σ H s) (h:tComp wi g tt te own.length σ H Q)
  (fin:∀(s2:Shared) (H2:Hp) (fp:List Addr) (C:Addr) (cl:List (Str×Addr)) (its:List Value) (nn:Nat) (σ':St) (H':Hp) (s5:Shared) (ys:List V),Inv X pins σ H2 s2→(∀b∈fp,FpOk X pins H2 b)→s2.heap.objs.size<C→
   Inv (cxC X own scope cl C s2 H2 fp) (pins++[(s2.heap.objs.size,lo its nn)]) σ' H' s5→Vals ys its→ys.length≤sizeLine→(∀p,H' p=none→Q (.ref p) (upd H' p (.lst ys)))→
   compPost (model X.prog X.w) X.A X.xe use Qp (.ref s2.heap.objs.size) C (.ok .next) s5):
  wpAny (model X.prog X.w) X.A (comprehension (.ListComp elt [⟨tg,iter,ifs,0⟩] scope pos) scope X.env pos0 (newList []) false (eval iter X.env) use) Qp X.xe s:=by
 refine wpAny_comprehension_free (use:=use) rfl hs (closureFor_eq (O.cells I.ok)) O.kind O.names (thn (hi pins s σ H _ I h) fun v s1 h1=>thn h1 fun itv s2 h2=>?_)
 obtain ⟨it,fp,tn,J,H2,rfl,I2,T,st2,f2,W,⟨m0,w0⟩,turn⟩:=h2
 refine wpAny_newObj_type (wpAny_newFunctionEnv O.cell (by intro y hy;simp at hy) (fun h₁ hns₁ hsb₁=>?_) O.kind)
 dsimp only at hns₁ hsb₁ ⊢
 generalize hH2:s2.heap.push {cls:=.type "list",dict:=none,data:=.seq ([]:List Value).toArray}=Hh at hns₁ hsb₁ ⊢
 have hCs:Hh.objs.size=s2.heap.objs.size+1:=by rw [←hH2,Heap.size_push]
 have hC:s2.heap.objs.size<Hh.objs.size:=by rw [hCs];exact Nat.lt_succ_self _
 have old:∀b o,s2.heap.get? b=some o→h₁.get? b=some o:=fun b o e=>hsb₁.extBut b o (Nat.ne_of_lt (Nat.lt_trans (Heap.lt_size e) hC)) (Heap.get?_push_of_some _ (hH2 ▸ Heap.get?_push_of_some _ e))
 have hacc:h₁.get? s2.heap.objs.size=some (lo [] 0):=hsb₁.extBut _ _ (Nat.ne_of_lt hC) (Heap.get?_push_of_some _ (hH2 ▸ Heap.get?_push_size _ rfl))
 have hob:∀b∈fp,∃o,s2.heap.get? b=some o:=fun b hb=>let ⟨o,e,_⟩:=T.obj _ _ st2 b hb;⟨o,e⟩
 have st3:tn 0 h₁:=T.keep _ _ _ st2 fun b _ o e=>old b o e
 have pinlt:∀p∈X.pn++pins,p.1<s2.heap.objs.size:=fun p hp=>Heap.lt_size (I2.pin p hp).1
 have loop:∀s₃:Shared,s₃={s2 with heap:=h₁,toks:=s2.toks+([]:List (Str×Value)).length}→
   codeAny (model X.prog X.w) X.A (.compLoop (.ListComp elt [⟨tg,iter,ifs,0⟩] scope pos) 0 (.ref it) (.ref s2.heap.objs.size) (compEnvC scope (closL X.env scope.names) Hh.objs.size X.env))
    (compPost (model X.prog X.w) X.A X.xe use Qp (.ref s2.heap.objs.size) Hh.objs.size) s₃:=by
  rintro s₃ rfl
  have I3:=comp_inv (tk:=s2.toks+([]:List (Str×Value)).length) O I2 f2 hob hC hacc old hns₁
  have stat:∀{o:Obj} {H':Hp},(∀b∈fp,H' b=none)→∀b∈fp,FpOk (cxC X own scope (closL X.env scope.names) Hh.objs.size s2 H2 fp) (pins++[(s2.heap.objs.size,o)]) H' b:=fun {o H'} hn b hb=>by
   obtain ⟨o',eo⟩:=hob b hb
   refine ⟨hn b hb,Nat.ne_of_lt (Nat.lt_trans (Heap.lt_size eo) hC),stk_of I2 (f2 b hb).2.1 (f2 b hb).2.2.1,.inl hb,fun x c e=>(f2 b hb).2.2.2.2.1 x c (O.sub I2.ok x c e),fun p hp=>?_⟩
   have hp:p∈X.pn++(pins++[(s2.heap.objs.size,o)]):=hp
   rw [←List.append_assoc] at hp
   rcases List.mem_append.mp hp with hp | hp
   ·exact (f2 b hb).2.2.2.2.2 p hp
   ·cases List.mem_singleton.mp hp
    exact Nat.ne_of_gt (Heap.lt_size eo)
  refine compLoop_go (fun n s'=>∃i ys its nn σ' H',Inv (cxC X own scope (closL X.env scope.names) Hh.objs.size s2 H2 fp) (pins++[(s2.heap.objs.size,lo its nn)]) σ' H' s'∧Wk σ' (List.replicate own.length none++σ)∧tn i s'.heap∧(∀b∈fp,H' b=none)∧Vals ys its∧W i n ys H')
   ?_ m0 ⟨0,[],[],0,_,H2,I3,Wk.refl _,st3,fun b hb=>(f2 b hb).1,.nil,w0⟩
  rintro n s4 ⟨i,ys,its,nn,σ4,H4,I4',wk4,st4,fr4,vs4,w4⟩
  have I4:=I4'.weak (σ':=List.replicate own.length none++σ) wk4.len (fun i v=>wk4.get i v)
  rcases turn i n ys H4 w4 with ⟨stop,hz,qn⟩ | ⟨go,hz,step⟩
  ·refine thn (T.done (cxC X own scope (closL X.env scope.names) Hh.objs.size s2 H2 fp) rfl rfl rfl O.calm i _ s4 _ H4 (fun _ _=>False) I4 (stat fr4) st4 stop) fun r s5 hpat=>?_
   obtain ⟨hr,I5⟩:=hpat
   subst hr
   exact fin s2 H2 fp Hh.objs.size _ its nn _ H4 s5 ys I2 f2 hC I5 vs4 hz qn
  ·refine thn (T.item (cxC X own scope (closL X.env scope.names) Hh.objs.size s2 H2 fp) rfl rfl rfl O.calm i _ s4 _ H4 (fun _ _=>False) I4 (stat fr4) st4 go) fun r s5 hpat=>?_
   obtain ⟨u,hr,h5⟩:=hpat
   subst hr
   refine thn h5 fun _ s6 hpat=>?_
   obtain ⟨x,H6,I6,r6,y6,st6,fr6⟩:=hpat
   have I6':=I6.pinned (stat fr6) (T.obj _ _ st6)
   refine thn (hg _ _ _ _ _ _ s6 _ H6 x u _ I6' r6 (step x H6 y6)) fun _ s7 hpat=>?_
   obtain ⟨σ7,H7,I7,wk7,q7⟩:=hpat
   refine thn (ht _ _ _ _ _ _ s7 σ7 H7 _ I7 q7) fun ok s8 hpat=>?_
   obtain ⟨H8,I8,q8⟩:=hpat
   have again:∀{σ9:St} {H9:Hp} {s9:Shared},Inv (cxC X own scope (closL X.env scope.names) Hh.objs.size s2 H2 fp) ((pins++[(s2.heap.objs.size,lo its nn)])++pinsAt fp s6.heap) σ9 H9 s9→tn (i+1) s9.heap∧∀b∈fp,H9 b=none:=fun {σ9 H9 s9} I9=>
    ⟨T.keep _ _ _ st6 fun b hb o e=>(I9.pin (b,o) (List.mem_append_right _ (List.mem_append_right _ (mem_pinsAt hb e)))).1,fun b hb=>by
     obtain ⟨o,e,d⟩:=T.obj _ _ st6 b hb
     exact (I9.pin (b,o) (List.mem_append_right _ (List.mem_append_right _ (mem_pinsAt hb e)))).2.1⟩
   cases ok with
   | false=>
    rw [if_neg Bool.false_ne_true] at q8 ⊢
    obtain ⟨m',hm,w8⟩:=q8
    obtain ⟨a1,a2⟩:=again I8
    exact ⟨m',hm,i+1,ys,its,nn,σ7,H8,I8.unpinned,wk7,a1,a2,vs4,w8⟩
   | true=>
    rw [if_pos rfl] at q8 ⊢
    refine thn (he _ _ _ _ _ _ s8 σ7 H8 _ I8 q8) fun yv s9 hpat=>?_
    obtain ⟨y,H9,I9,r9,m',hm,w9⟩:=hpat
    obtain ⟨a1,a2⟩:=again I9
    obtain ⟨eD,nD,neD,nfD,_⟩:=I9.pin (s2.heap.objs.size,lo its nn) (List.mem_append_right _ (List.mem_append_left _ (List.mem_append_right _ List.mem_cons_self)))
    have hlen:=vs4.length
    refine append_at' eD (by omega) ?_
    have upd9:=PySem.IsL.update (l:=s2.heap.objs.size) eD (·.push yv)
    have uother:∀b o,b≠s2.heap.objs.size→s9.heap.get? b=some o→(s9.heap.update s2.heap.objs.size (Obj.mapSeq (·.push yv))).get? b=some o:=fun b o hb e=>(Heap.get?_update_other s9.heap (Obj.mapSeq (·.push yv)) (Ne.symm hb)).trans e
    have I9a:Inv (cxC X own scope (closL X.env scope.names) Hh.objs.size s2 H2 fp) pins σ7 H9 s9:=I9.unpinned.unpinned
    have I9b:Inv (cxC X own scope (closL X.env scope.names) Hh.objs.size s2 H2 fp) pins σ7 H9 {s9 with heap:=s9.heap.update s2.heap.objs.size (Obj.mapSeq (·.push yv))}:=
     I9a.turned (t':=s9.toks) uother nD neD (.inr (Nat.le_refl _)) (fun x c e z=>by
      obtain ⟨v,o,hoc,_⟩:=I2.cell x c (O.sub I2.ok x c e)
      exact absurd z (Nat.ne_of_lt (Heap.lt_size hoc))) fun p hp=>Nat.ne_of_lt (pinlt p hp)
    have e2:(its.toArray.push yv)=(its++[yv]).toArray:=by simp
    have upd9':∃n2,(s9.heap.update s2.heap.objs.size (Obj.mapSeq (·.push yv))).get? s2.heap.objs.size=some (lo (its++[yv]) n2):=⟨_,by rw [upd9,e2]⟩
    obtain ⟨n2,upd9'⟩:=upd9'
    have I9c:=I9b.pins_of (pins':=pins++[(s2.heap.objs.size,lo (its++[yv]) n2)]) fun p hp=>by
     rcases List.mem_append.mp hp with hp | hp
     ·exact I9b.pin p (List.mem_append_right _ hp)
     ·cases List.mem_singleton.mp hp
      exact ⟨upd9',nD,neD,nfD,fun v z=>by cases z⟩
    refine ⟨m',hm,i+1,ys++[y],its++[yv],n2,σ7,H9,I9c,wk7,T.keep _ _ _ a1 fun b hb o e=>uother b o ?_ e,a2,vs4.append (.cons r9 .nil),w9⟩
    obtain ⟨o',eo⟩:=hob b hb
    exact Nat.ne_of_lt (Heap.lt_size eo)
 exact codeAny_compStart_list (loop _ rfl) (T.self _ 0 _ _ _ st3 (loop _ rfl))
theorem pe_comp {tg iter elt:Expr} {ifs:List Expr} {pos:Pos} {wi:TI} {g:TG} {tt:TT} {te:TE} (O:CompOk X own scope) (hi:PI X tg iter wi)
  (hg:∀cl C s H fp,PG (cxC X own scope cl C s H fp) tg g) (ht:∀cl C s H fp,PTs (cxC X own scope cl C s H fp) ifs tt) (he:∀cl C s H fp,PE (cxC X own scope cl C s H fp) elt te)
  (hs:∀x,foldedSetIterable iter X.env x=pure x:=by intro _;rfl):
  PE X (.ListComp elt [⟨tg,iter,ifs,0⟩] scope pos) (tComp wi g tt te own.length):=by
 intro pins s σ H Q I h
 rw [eval_ListComp]
 refine comp_core O hi hg ht he hs I h fun s2 H2 fp C cl its nn σ' H' s5 ys I2 f2 hC I5 vs hz qn=>?_
 obtain ⟨mm,hnm,_⟩:=I5.loc
 exact ⟨mm,hnm,fun h' hs'=>⟨.ref s2.heap.objs.size,_,comp_exit I2 f2 hC I5 vs hz hs',rfl,qn _ (I5.pin (s2.heap.objs.size,lo its nn) (List.mem_append_right _ (List.mem_append_right _ List.mem_cons_self))).2.1⟩⟩
end
section
variable {X:Cx} {pos:Pos}
theorem pg_tupK (K:PySem.W.Frag) (n:Nat) {es:List Expr} {k:Nat} {t:TGs} (hK:X.K=K) (hc:X.calm=true) (h:PGs X es t)
  (hn:(assignEach es X.env).length=n:=by rfl) (hst:(assignEach es X.env).findIdx? (·.1)=none:=by rfl):PG X (.Tuple es k pos) (gTup K n t):=by
 subst hK
 exact pg_tup hc h hn hst
theorem ix_tupK (K:PySem.W.Frag) (hK:X.K=K):IxR X (rIxT K):=by subst hK;exact ix_tup
end
mutual
inductive DV (H:Hp):V→PyData→Prop
 | non:DV H .non .none
 | bl (b:Bool):DV H (.bl b) (.bool b)
 | int (i:Int):DV H (.int i) (.int i)
 | str (x:Str):DV H (.str x) (.str x)
 | lst {a:Addr} {xs:List V} {ds:List PyData}:H a=some (.lst xs)→DVs H xs ds→DV H (.ref a) (.list ds)
 | tup {a:Addr} {xs:List V} {ds:List PyData}:H a=some (.tup xs)→DVs H xs ds→DV H (.ref a) (.tuple ds)
inductive DVs (H:Hp):List V→List PyData→Prop
 | nil:DVs H [] []
 | cons {v:V} {vs:List V} {d:PyData} {ds:List PyData}:DV H v d→DVs H vs ds→DVs H (v::vs) (d::ds)
end
mutual
theorem DV.mono {H H':Hp} (g:Same H H'):∀{v:V} {d:PyData},DV H v d→DV H' v d
 | _,_,.non=>.non
 | _,_,.bl b=>.bl b
 | _,_,.int i=>.int i
 | _,_,.str x=>.str x
 | _,_,.lst e r=>.lst (g _ _ e) (DVs.mono g r)
 | _,_,.tup e r=>.tup (g _ _ e) (DVs.mono g r)
theorem DVs.mono {H H':Hp} (g:Same H H'):∀{vs:List V} {ds:List PyData},DVs H vs ds→DVs H' vs ds
 | _,_,.nil=>.nil
 | _,_,.cons h r=>.cons (DV.mono g h) (DVs.mono g r)
end
theorem DVs.length {H:Hp}:∀{vs:List V} {ds:List PyData},DVs H vs ds→vs.length=ds.length
 | _,_,.nil=>rfl
 | _,_,.cons _ r=>congrArg (·+1) r.length
theorem DVs.append {H:Hp}:∀{vs ws:List V} {ds es:List PyData},DVs H vs ds→DVs H ws es→DVs H (vs++ws) (ds++es)
 | _,_,_,_,.nil,s=>s
 | _,_,_,_,.cons h r,s=>.cons h (DVs.append r s)
theorem DVs.getV {H:Hp}:∀{vs:List V} {ds:List PyData} {i:Nat} {v:V},DVs H vs ds→vs[i]?=some v→∃d,ds[i]?=some d∧DV H v d
 | _,_,_,_,.nil,e=>by simp at e
 | _,_,0,_,.cons h _,e=>by simp at e;subst e;exact ⟨_,rfl,h⟩
 | _,_,i+1,d,.cons _ r,e=>by
  obtain ⟨v,h1,h2⟩:=DVs.getV (i:=i) (v:=d) r (by simpa using e)
  exact ⟨v,by simpa using h1,h2⟩
section
variable {X:Cx} {pins:List (Addr×Obj)} {σ:St} {H:Hp} {s:Shared}
mutual
theorem DV.reads (I:Inv X pins σ H s):∀{v:V} {d:PyData} {u:Value},DV H v d→RelV v u→∃as,Reads s.heap u d as
 | _,_,_,.non,r=>by cases r;exact ⟨_,Reads.none⟩
 | _,_,_,.bl b,r=>by cases r;exact ⟨_,Reads.bool b⟩
 | _,_,_,.int i,r=>by obtain ⟨t,rfl⟩:=r;exact ⟨_,Reads.int i t⟩
 | _,_,_,.str x,r=>by obtain ⟨t,rfl⟩:=r;exact ⟨_,Reads.str x t⟩
 | _,_,_,.lst e q,r=>by
  cases r
  obtain ⟨its,n,rv,ho,_⟩:=I.lst e
  obtain ⟨as,p⟩:=DVs.reads I q rv
  exact ⟨_,reads_list_at ho rfl rfl (by simpa using p)⟩
 | _,_,_,.tup e q,r=>by
  cases r
  obtain ⟨its,rv,⟨o,ho,hc,n,hd⟩,_⟩:=I.tuple (SqT.of e)
  obtain ⟨as,p⟩:=DVs.reads I q rv
  exact ⟨_,reads_tuple_at ho hc hd (by simpa using p)⟩
theorem DVs.reads (I:Inv X pins σ H s):∀{vs:List V} {ds:List PyData} {us:List Value},DVs H vs ds→Vals vs us→∃as,ReadsAll s.heap us ds as
 | _,_,_,.nil,r=>by cases r;exact ⟨_,ReadsAll.nil⟩
 | _,_,_,.cons h t,r=>by
  cases r with
  | cons r1 r2=>
   obtain ⟨as,p⟩:=DV.reads I h r1
   obtain ⟨bs,q⟩:=DVs.reads I t r2
   exact ⟨_,ReadsAll.cons p q⟩
end
end
noncomputable def rEqD:R2:=fun x y H Q=>∃d e,DV H x d∧DV H y e∧SeqAt.shaped d=true∧SeqAt.shaped e=true∧Q (.bl (PyData.eqv d e)) H
noncomputable def rNeD:R2:=fun x y H Q=>∃d e,DV H x d∧DV H y e∧SeqAt.shaped d=true∧SeqAt.shaped e=true∧Q (.bl (!PyData.eqv d e)) H
section
variable {X:Cx}
theorem op_eqD (hu:X.A.units+64<cLine):OpR X (compareOp .Eq) rEqD:=by
 intro pins s σ H x y v u Q I rx ry h
 obtain ⟨d,e,h1,h2,s1,s2,q⟩:=h
 obtain ⟨as,p1⟩:=h1.reads I rx
 obtain ⟨bs,p2⟩:=h2.reads I ry
 exact eq_dataH p1 p2 s1 s2 hu ⟨.bl _,H,I,rfl,q⟩
theorem op_neD (hu:X.A.units+64<cLine):OpR X (compareOp .NotEq) rNeD:=by
 intro pins s σ H x y v u Q I rx ry h
 obtain ⟨d,e,h1,h2,s1,s2,q⟩:=h
 obtain ⟨as,p1⟩:=h1.reads I rx
 obtain ⟨bs,p2⟩:=h2.reads I ry
 exact ne_dataH p1 p2 s1 s2 hu ⟨.bl _,H,I,rfl,q⟩
noncomputable def rIs (K:PySem.W.Frag):List V→Hp→VK→Prop:=fun xs H Q=>∃x t T b,xs=[x,.ty T]∧TyOf K H x t∧PySem.W.kitOne K t (.type T)=some b∧Q (.bl b) H
theorem call_is:CallR X (.builtin "isinstance") (rIs X.K):=by
 intro pins s σ H xs us Q I r h
 obtain ⟨x,t,T,b,rfl,ty,e,q⟩:=h
 obtain ⟨u,w',rfl,ru,rt⟩:=vals2 r
 cases (show w'=Value.type T from rt)
 exact isinst_ok I ru ty e fun tk=>⟨.bl b,H,I.tok _,rfl,q⟩
noncomputable def rSplit:V→List V→Hp→VK→Prop:=fun x vs H Q=>∃z y ps,x=.str z∧vs=[.str y]∧(decide (z.length<y.length) || decide (Builtin.Str.strKind z<Builtin.Str.strKind y))=false∧(y.length == 0)=false∧
 (Builtin.Str.occurrences z y 0 z.length (z.length+1)).isEmpty=false∧z.length≤sizeLine∧Builtin.Str.partsBetween z (Builtin.Str.occurrences z y 0 z.length (z.length+1)) y.length=ps∧ps.length≤sizeLine∧∀l,H l=none→Q (.ref l) (upd H l (.lst (ps.map V.str)))
theorem strs_vals:∀(ps:List Str) (k:Nat),Vals (ps.map V.str) (strsFrom k ps)
 | [],_=>.nil
 | p::ps,k=>.cons ⟨_,rfl⟩ (strs_vals ps _)
theorem mt_split:MtR X "str.split" rSplit:=by
 intro pins s σ H x vs v us Q I rx rv h
 obtain ⟨z,y,ps,rfl,rfl,h1,h2,h3,h4,rfl,h5,q⟩:=h
 obtain ⟨t,rfl⟩:=rx
 obtain ⟨u,rfl,t',rfl⟩:=vals1 rv
 refine call_meets F.slot_str_split (typeIs_str s z t) F.entry_str_split (F.args_str_split_2 _ _) (meets_str_split_sep z y t t' h1 h2 h3 h4 h5) ?_
 refine ⟨.ref s.heap.objs.size,_,I.laid (o:=.lst (_:List V)) (fun b ob q=>Heap.get?_push_of_some _ q) (Nat.le_refl _) ⟨?_,_,0,strs_vals _ _,Heap.get?_push_size _ rfl⟩,rfl,q _ (I.hok.fresh (Nat.le_refl _))⟩
 rw [List.length_map]
 exact h5
end
structure Has (P:Program) (w:World) (K:PySem.W.Frag) (mg:Str→Option Value) (base:Heap) (x:Str) (k:Nat) (ps:List Str) (sp:Sp):Prop where
 ex:∃f fd,FnOk P w K mg base CX0 k f fd ps sp∧Binds K fd ps []∧PySem.W.keepIn K (.ref f)=true∧mg x=some (.ref f)
section
variable {X:Cx} {j k:Nat} {ps:List Str} {sp:Sp} {x:Str} {p pos:Pos} {e:Expr} {es:List Expr} {t:TA}
theorem pe_callH (h:Has X.prog X.w X.K X.mg X.base x j ps sp) (hr:Room k X.A) (ha:PA X (e::es) t) (hg:Gl X x:=by rfl) (hj:j≤k:=by first | decide | omega)
  (hdb:(x == ("__debug__":Str))=false:=by decide) (he:starEach (e::es) X.env=(false,eval e X.env)::starEach es X.env:=by rfl) (hpl:(backTo pos (starEach es X.env)).any (·.1)=false:=by rfl):
  PE X (.Call (.Name x p) (e::es) [] pos) (tCall sp [] E0 t):=by
 intro pins s σ H Q I q
 obtain ⟨f,fd,F,b,kp,m⟩:=h.ex
 refine pe_call (CX:=CX0) (E:=E0) (dvs:=[]) (F.mono hj) hr hg m kp b .nil ?_ ha hdb he hpl pins s σ H Q I q
 exact fun _ _ _ _ _ _ _ z=>z.elim
end
noncomputable def hide (a:Addr) (H:Hp):Hp:=fun b=>if b=a then none else H b
theorem hide_ne {a b:Addr} {H:Hp} (h:b≠a):hide a H b=H b:=by unfold hide;rw [if_neg h]
theorem hide_some {a b:Addr} {H:Hp} {o:HO} (h:hide a H b=some o):b≠a∧H b=some o:=by
 unfold hide at h
 by_cases e:b=a
 ·rw [if_pos e] at h;cases h
 ·rw [if_neg e] at h;exact ⟨e,h⟩
theorem hide_sub {a:Addr} {H:Hp}:Same (hide a H) H:=fun _ _ h=>(hide_some h).2
theorem same_laid {H:Hp} {p:Addr} (h:H p=none) (o:HO):Same H (upd H p o):=fun b u q=>by rw [upd_ne (ne_of_none q h)];exact q
noncomputable abbrev Grw (a:Addr) (H H':Hp):Prop:=Same (hide a H) (hide a H')
theorem grw_same {a:Addr} {H H':Hp} {o:HO} (ha:H a=some o) (g:Same H H'):Grw a H H':=fun b u q=>by
 obtain ⟨h1,h2⟩:=hide_some q
 rw [hide_ne h1];exact g b u h2
theorem grw_upd {a:Addr} {H:Hp} {o:HO}:Grw a H (upd H a o):=fun b u q=>by
 obtain ⟨h1,h2⟩:=hide_some q
 rw [hide_ne h1,upd_ne h1];exact h2
theorem grw_laid {a p:Addr} {H:Hp} {o:HO} (h:H p=none):Grw a H (upd H p o):=fun b u q=>by
 obtain ⟨h1,h2⟩:=hide_some q
 rw [hide_ne h1,upd_ne (ne_of_none h2 h)];exact h2
noncomputable def PenAt (H:Hp) (a:Addr):Prop:=∃p q r:Int,H a=some (.lst [.int p,.int q,.int r])
theorem PenAt.same {H H':Hp} {a:Addr} (h:PenAt H a) (g:Same H H'):PenAt H' a:=by
 obtain ⟨p,q,r,e⟩:=h
 exact ⟨p,q,r,g _ _ e⟩
theorem PenAt.laid {H:Hp} {a p:Addr} {o:HO} (h:PenAt H a) (hp:H p=none):PenAt (upd H p o) a:=h.same (same_laid hp o)
theorem PenAt.ne {H:Hp} {a p:Addr} (h:PenAt H a) (hp:H p=none):p≠a:=by
 obtain ⟨x,y,z,e⟩:=h
 exact fun q=>by rw [q,e] at hp;cases hp
theorem posI {j:Int} (h:decide (0<j)=true):0<j:=of_decide_eq_true h
theorem ltI {i j:Int} (h:decide (i<j)=true):i<j:=of_decide_eq_true h
theorem leI {i j:Int} (h:decide (i≤j)=true):i≤j:=of_decide_eq_true h
theorem leN {i j:Nat} (h:decide (i≤j)=true):i≤j:=of_decide_eq_true h
theorem cdivI {i j:Int} (h1:decide (0<j)=true) (h2:decide (j<1073741824)=true):CDiv i j:=⟨of_decide_eq_true h1,of_decide_eq_true h2⟩
theorem powI {i j:Int} (h1:decide (0≤j)=true) (h2:decide (j≤1000000)=true) (h3:decide (i.natAbs<2 ^ 64)=true):CPow i j:=⟨of_decide_eq_true h1,of_decide_eq_true h2,of_decide_eq_true h3⟩
theorem mulL {i j:Int} (h1:decide (-(2 ^ 64)<i)=true) (h2:decide (i<2 ^ 64)=true):CMul i j:=Or.inl ⟨of_decide_eq_true h1,of_decide_eq_true h2⟩
theorem mulR {i j:Int} (h1:decide (-(2 ^ 64)<j)=true) (h2:decide (j<2 ^ 64)=true):CMul i j:=Or.inr ⟨of_decide_eq_true h1,of_decide_eq_true h2⟩
theorem mulM (x m y:Int) (h0:decide (0<m)=true) (h1:decide (m<4294967296)=true):CMul (x % m) y:=by
 have h0:=of_decide_eq_true h0
 have h1:=of_decide_eq_true h1
 exact Or.inl ⟨by have:=Int.emod_nonneg x (show m≠0 by omega);omega,by have:=Int.emod_lt_of_pos x h0;omega⟩
theorem at3_0 (a b c:V):atI [a,b,c] 0=some a:=rfl
theorem at3_1 (a b c:V):atI [a,b,c] 1=some b:=rfl
theorem at3_2 (a b c:V):atI [a,b,c] 2=some c:=rfl
theorem atI_in {α:Type} {xs:List α} {i:Int} (h0:0≤i) (h1:i<xs.length):∃v,atI xs i=some v∧v∈xs:=by
 have hi:i.toNat<xs.length:=by omega
 have e:((i.toNat:Nat):Int)=i:=by omega
 refine ⟨xs[i.toNat],?_,List.getElem_mem hi⟩
 have q:=atI_nat (xs:=xs) (j:=i.toNat) (v:=xs[i.toNat]) (List.getElem?_eq_getElem hi)
 rw [e] at q
 exact q
theorem at3 {x y z:V} {d:Int} (h0:0≤d) (h1:d<3):∃v,atI [x,y,z] d=some v∧(v=x∨v=y∨v=z):=by
 obtain ⟨v,h,m⟩:=atI_in (xs:=[x,y,z]) h0 h1
 exact ⟨v,h,by simpa using m⟩
theorem grw_get {a b:Addr} {H H':Hp} {o:HO} (g:Grw a H H') (hb:b≠a) (h:H b=some o):H' b=some o:=by
 have q:=g b o (by rw [hide_ne hb];exact h)
 exact (hide_some q).2
theorem small_le {n:Nat} (h:n≤1000000):n≤sizeLine:=Nat.le_trans h (by decide)
theorem small_lt {n:Nat} (h:n<1000000):n<sizeLine:=Nat.lt_of_lt_of_le h (by decide)
theorem comp_range {lo:Int} {n k:Nat} {g:TG} {tt:TT} {te:TE} {σ:St} {H:Hp} {Q:VK} (Pv:Nat→List V→Hp→Prop) (h0:Pv 0 [] H)
  (hs:∀i ys H (C:List V→Hp→Prop),i<n→Pv i ys H→(∀ys' H',Pv (i+1) ys' H'→C ys' H')→ys.length<sizeLine∧g (.int (lo+i)) (List.replicate k none++σ) H fun σ2 H2=>Wk σ2 (List.replicate k none++σ)∧tt σ2 H2 fun ok H3=>
   if ok=true then te σ2 H3 fun y H4=>C (ys++[y]) H4 else C ys H3)
  (hd:∀ys H,Pv n ys H→ys.length≤sizeLine∧∀p,H p=none→Q (.ref p) (upd H p (.lst ys))):
  CompR (Itr lo n) H k g tt te σ Q:=by
 refine ⟨fun i m ys H=>m=n - i∧i≤n∧Pv i ys H,⟨n,by simp,Nat.zero_le _,h0⟩,?_⟩
 rintro i m ys H ⟨rfl,hi,p⟩
 by_cases hlt:i<n
 ·have q:=hs i ys H (fun ys' H'=>∃m',m'<n - i∧m'=n - (i+1)∧i+1≤n∧Pv (i+1) ys' H') hlt p fun ys' H' p'=>⟨_,by omega,rfl,hlt,p'⟩
  refine .inr ⟨hlt,q.1,fun x H' y=>?_⟩
  obtain ⟨e,y⟩:=y
  subst e y
  exact q.2
 ·have e:i=n:=by omega
  subst e
  exact .inl ⟨Nat.le_refl _,hd ys H p⟩
theorem comp_list {K:PySem.W.Frag} {a:Addr} {xs:List V} {k:Nat} {g:TG} {tt:TT} {te:TE} {σ:St} {H:Hp} {Q:VK} (Pv:Nat→List V→Hp→Prop) (h0:Pv 0 [] H) (hl:∀i ys H,i≤xs.length→Pv i ys H→SqL K H a xs)
  (hs:∀i x ys H (C:List V→Hp→Prop),xs[i]?=some x→Pv i ys H→(∀ys' H',Pv (i+1) ys' H'→C ys' H')→ys.length<sizeLine∧g x (List.replicate k none++σ) H fun σ2 H2=>Wk σ2 (List.replicate k none++σ)∧tt σ2 H2 fun ok H3=>
   if ok=true then te σ2 H3 fun y H4=>C (ys++[y]) H4 else C ys H3)
  (hd:∀ys H,Pv xs.length ys H→ys.length≤sizeLine∧∀p,H p=none→Q (.ref p) (upd H p (.lst ys))):
  CompR (Itl K a) H k g tt te σ Q:=by
 refine ⟨fun i m ys H=>m=xs.length - i∧i≤xs.length∧Pv i ys H,⟨xs.length,by simp,Nat.zero_le _,h0⟩,?_⟩
 rintro i m ys H ⟨rfl,hi,p⟩
 have q:=hl i ys H hi p
 by_cases hlt:i<xs.length
 ·have r:=hs i xs[i] ys H (fun ys' H'=>∃m',m'<xs.length - i∧m'=xs.length - (i+1)∧i+1≤xs.length∧Pv (i+1) ys' H') (by simp [hlt]) p fun ys' H' p'=>⟨_,by omega,rfl,hlt,p'⟩
  refine .inr ⟨⟨xs,xs[i],q,by simp [hlt]⟩,r.1,fun x H' y=>?_⟩
  obtain ⟨e,y⟩:=y
  subst e
  have ex:xs[i]?=some x:=y xs q
  have ex2:xs[i]=x:=by simpa [hlt] using ex
  rw [←ex2]
  exact r.2
 ·have e:i=xs.length:=by omega
  subst e
  exact .inl ⟨⟨xs,q,Nat.le_refl _⟩,hd ys H p⟩
noncomputable def wordA:Str:="q abcdefgh aq qa abcdefgi ea zz eaq abd abc e bcdefgh za "
noncomputable def wordB:Str:="qae acb ae abcdefg z qq aea az abcd xabcd eae abce eq"
noncomputable def words:List Str:=["q","abcdefgh","aq","qa","abcdefgi","ea","zz","eaq","abd","abc","e","bcdefgh","za","qae","acb","ae","abcdefg","z","qq","aea","az","abcd","xabcd","eae","abce","eq"]
theorem word_parts:Builtin.Str.partsBetween (wordA++wordB) (Builtin.Str.occurrences (wordA++wordB) " " 0 (wordA++wordB).length ((wordA++wordB).length+1)) (" ":Str).length=words:=by decide +kernel
theorem word_k:(decide ((wordA++wordB).length<(" ":Str).length) || decide (Builtin.Str.strKind (wordA++wordB)<Builtin.Str.strKind " "))=false:=by decide +kernel
theorem word_e:(((" ":Str).length == 0)=false):=by decide +kernel
theorem word_o:(Builtin.Str.occurrences (wordA++wordB) " " 0 (wordA++wordB).length ((wordA++wordB).length+1)).isEmpty=false:=by decide +kernel
theorem word_l:(wordA++wordB).length≤sizeLine:=by decide +kernel
theorem word_ab:wordA.length+wordB.length≤sizeLine:=by decide +kernel
theorem words_ok:∀x∈words,PyData.strOk x=true:=by decide +kernel
structure Th where
 day:Int
 word:Str
 num:Int
 many:Int
noncomputable def Th.D (t:Th):PyData:=.tuple [.int t.day,.str t.word,.int t.num,.int t.many]
noncomputable def Th.vs (t:Th):List V:=[.int t.day,.str t.word,.int t.num,.int t.many]
structure Th.Ok (t:Th):Prop where
 day:0≤t.day
 word:t.word∈words
 num:0≤t.num
 many:1≤t.many
 numU:t.num<1073741824
 manyU:t.many≤1000000000
theorem Th.dv {H:Hp} {r:Addr} {t:Th} (h:H r=some (.tup t.vs)):DV H (.ref r) t.D:=.tup h (.cons (.int _) (.cons (.str _) (.cons (.int _) (.cons (.int _) .nil))))
inductive Tr where
 | leaf (ts:List Th)
 | node (l r:Tr)
noncomputable abbrev strD (ts:List Th):PyData:=.list (ts.map Th.D)
noncomputable def Tr.D:Tr→PyData
 | .leaf ts=>strD ts
 | .node l r=>.tuple [.str "merged",l.D,r.D]
noncomputable def Tr.streams:Tr→List (List Th)
 | .leaf ts=>[ts]
 | .node l r=>l.streams++r.streams
noncomputable def Tr.size:Tr→Nat
 | .leaf _=>1
 | .node l r=>l.size+r.size+1
noncomputable def Tr.ht:Tr→Nat
 | .leaf _=>0
 | .node l r=>max l.ht r.ht+1
noncomputable def Tr.all:Tr→List Th
 | .leaf ts=>ts
 | .node l r=>l.all++r.all
noncomputable def Tr.Ok:Tr→Prop
 | .leaf ts=>∀t∈ts,t.Ok
 | .node l r=>l.Ok∧r.Ok
theorem lay_all {α:Type} {f:α→PyData} {n:Nat}:∀(xs:List α),(∀x∈xs,(f x).canLay0=true∧(f x).depth≤n)→PyData.canLayAll0 (xs.map f)=true∧PyData.depthAll (xs.map f)≤n
 | [],_=>by simp [PyData.canLayAll0,PyData.depthAll]
 | x::xs,h=>by
  have h1:=h x List.mem_cons_self
  have h2:=lay_all xs fun y hy=>h y (List.mem_cons_of_mem _ hy)
  rw [List.map_cons,PyData.canLayAll0,PyData.depthAll,h1.1,h2.1]
  exact ⟨rfl,Nat.max_le.mpr ⟨h1.2,h2.2⟩⟩
theorem lay_list {α:Type} {f:α→PyData} {n:Nat} (xs:List α) (h:∀x∈xs,(f x).canLay0=true∧(f x).depth≤n):(PyData.list (xs.map f)).canLay0=true∧(PyData.list (xs.map f)).depth≤n+1:=by
 have q:=lay_all xs h
 rw [PyData.canLay0,PyData.depth]
 exact ⟨q.1,Nat.succ_le_succ q.2⟩
theorem shaped_of {d:PyData} {n:Nat} (h:d.canLay0=true∧d.depth≤n) (hn:n≤64):SeqAt.shaped d=true:=by
 unfold SeqAt.shaped
 rw [h.1,Bool.true_and]
 exact decide_eq_true (Nat.le_trans h.2 hn)
theorem eqv_self {d:PyData} {n:Nat} (h:d.canLay0=true∧d.depth≤n):PyData.eqv d d=true:=SeqAt.eqv_refl d h.1
theorem eqv_nil (ds:List PyData):PyData.eqv (.list ds) (.list [])=ds.isEmpty:=by
 cases ds <;> simp [PyData.eqv,PyData.eqvAll]
theorem DV.list_inv {H:Hp} {v:V} {ds:List PyData} (h:DV H v (.list ds)):∃a xs,v=.ref a∧H a=some (.lst xs)∧DVs H xs ds:=by
 cases h with
 | lst e r=>exact ⟨_,_,rfl,e,r⟩
theorem DV.tup_inv {H:Hp} {v:V} {ds:List PyData} (h:DV H v (.tuple ds)):∃a xs,v=.ref a∧H a=some (.tup xs)∧DVs H xs ds:=by
 cases h with
 | tup e r=>exact ⟨_,_,rfl,e,r⟩
theorem DVs.cons_inv {H:Hp} {vs:List V} {d:PyData} {ds:List PyData} (h:DVs H vs (d::ds)):∃x r,vs=x::r∧DV H x d∧DVs H r ds:=by
 cases h with
 | cons a b=>exact ⟨_,_,rfl,a,b⟩
theorem DVs.nil_inv {H:Hp} {vs:List V} (h:DVs H vs []):vs=[]:=by
 cases h with
 | nil=>rfl
theorem DV.node_inv {H:Hp} {v:V} {l r:Tr} (h:DV H v (Tr.node l r).D):∃a m x y,v=.ref a∧H a=some (.tup [m,x,y])∧DV H x l.D∧DV H y r.D:=by
 obtain ⟨a,xs,rfl,e,q⟩:=DV.tup_inv h
 obtain ⟨m,r1,rfl,_,q1⟩:=q.cons_inv
 obtain ⟨x,r2,rfl,hx,q2⟩:=q1.cons_inv
 obtain ⟨y,r3,rfl,hy,q3⟩:=q2.cons_inv
 have:=q3.nil_inv
 subst this
 exact ⟨a,m,x,y,rfl,e,hx,hy⟩
noncomputable abbrev hide2 (a b:Addr) (H:Hp):Hp:=hide a (hide b H)
theorem Has.of {P:Program} {w:World} {K:PySem.W.Frag} {mg:Str→Option Value} {base:Heap} {x:Str} {k:Nat} {ps:List Str} {sp:Sp} {f:Addr} {fd:FuncData} (F:FnOk P w K mg base CX0 k f fd ps sp) (b:Binds K fd ps []) (kp:PySem.W.keepIn K (.ref f)=true) (m:mg x=some (.ref f)):
  Has P w K mg base x k ps sp:=⟨f,fd,F,b,kp,m⟩
theorem no_call {P:Program} {w:World} {K:PySem.W.Frag} {mg:Str→Option Value} {base:Heap} {k:Nat} {ps:List Str} {sp:Sp} {f:Addr} {fd:FuncData} (no:∀vs H Q E,¬sp vs H Q E):FnOk P w K mg base CX0 k f fd ps sp:=
 ⟨fun vs H Q E h=>absurd h (no vs H Q E),fun A outer s H args us vs Q E _ _ _ _ h=>absurd h (no vs H Q E)⟩
noncomputable def kitT (t T:String):Option Bool:=if (Value.type t == Value.type T)=true then some true else if PySem.W.kitMeta T=true then (PySem.fastBuiltinMro t).map (·.contains (.type T)) else none
theorem kit_t {K:PySem.W.Frag} {t T:String} {b:Bool} (h:kitT t T=some b):PySem.W.kitOne K (.type t) (.type T)=some b:=h
theorem kit_ll {K:PySem.W.Frag}:PySem.W.kitOne K (.type "list") (.type "list")=some true:=kit_t (by decide +kernel)
theorem kit_tl {K:PySem.W.Frag}:PySem.W.kitOne K (.type "tuple") (.type "list")=some false:=kit_t (by decide +kernel)
section
variable {X:Cx}
theorem ints_at {ns:List Int} {us:List Value} (r:Vals (ns.map V.int) us) {i:Nat} {u:Value} (h:us[i]?=some u):∃t,u=.int (ns.getD i 0) t:=IntsAre.int_at (intsAre_of r) i u h
theorem call_sum (hc:X.calm=true):CallR X (.builtin "sum") (fun xs H Q=>∃(p:Addr) (ns:List Int),xs=[.ref p]∧SqL X.K H p (ns.map V.int)∧Q (.int ns.sum) H):=by
 intro pins s σ H xs us Q I r h
 obtain ⟨p,ns,rfl,hq,q⟩:=h
 obtain ⟨u,rfl,ru⟩:=vals1 r
 cases ru
 obtain ⟨its,rv,pl,hz⟩:=I.list hq
 have hl:=rv.length
 rw [List.length_map] at hl
 have hlt:p<s.heap.objs.size:=by
  obtain ⟨o,n,e,_⟩:=pl
  exact Heap.lt_size e
 refine call_sum_walkG (wpAny_pyIter_list pl.isList ?_)
 have hh:X.A.in1.handled=none:=by simpa using I.ok.hd hc
 refine ⟨s.heap.objs.size,_,_,_,_,_,fun i=>ns.getD i 0,rfl,Walks.list hh _ p (Nat.ne_of_lt hlt) its.toArray,⟨⟨_,Heap.get?_push_size _ rfl,rfl,rfl⟩,pl.isList.push _⟩,fun b hb=>?_,fun i v hv=>?_,fun h' tk t' kp=>?_⟩
 ·rw [Heap.size_push]
  rcases List.mem_cons.mp hb with e | e
  ·rw [e];exact Nat.lt_succ_self _
  ·rw [List.mem_singleton.mp e];exact Nat.lt_succ_of_lt hlt
 ·exact ints_at rv (by simpa using hv)
 ·have e:preSum (fun i=>ns.getD i 0) its.toArray.size=ns.sum:=by
   rw [PyProof.Rows.preSum_getD,List.size_toArray,←hl,List.take_length]
  rw [e]
  refine ⟨.int ns.sum,H,I.kept fun b o eb=>kp b o ?_ (Heap.get?_push_of_some _ eb),⟨_,rfl⟩,q⟩
  intro hb
  rw [List.mem_singleton.mp hb] at eb
  exact absurd (Heap.lt_size eb) (Nat.lt_irrefl _)
end
noncomputable def dd:List Str→List Str→List Str
 | acc,[]=>acc
 | acc,z::r=>dd (if z∈acc then acc else acc++[z]) r
noncomputable def inF (l:List Str) (k:Key):Bool:=l.any fun z=>decide (k=(Sum.inr z:Key))
section
variable {prog:Program} {w:World} {A:Around} {R:Result→Shared→Prop} {I:Addr} {fp wr:List Addr} {n:Nat} {P:Nat→Value→Prop} {St:Nat→Heap→Prop}
end
section
variable {prog:Program} {w:World} {A:Around} {E:Value→Shared→Prop} {s:Shared}
noncomputable abbrev bareSet (led:Bool):Obj:={cls:=.type "set",dict:=none,data:=.set #[] 0 (.fresh 0 0 led)}
end
noncomputable def txtSet (prog:Program) (w:World) (a:Addr) (n:Nat):HO:=.ext fun h=>∃F,h.SetOf (mixKind prog w) a F n
section
variable {X:Cx}
end
theorem DV.th_inv {H:Hp} {v:V} {t:Th} (h:DV H v t.D):∃c,v=.ref c∧H c=some (.tup t.vs):=by
 obtain ⟨c,xs,rfl,e,q⟩:=DV.tup_inv h
 obtain ⟨_,_,rfl,k1,q⟩:=q.cons_inv
 obtain ⟨_,_,rfl,k2,q⟩:=q.cons_inv
 obtain ⟨_,_,rfl,k3,q⟩:=q.cons_inv
 obtain ⟨_,_,rfl,k4,q⟩:=q.cons_inv
 have:=q.nil_inv
 subst this
 cases k1
 cases k2
 cases k3
 cases k4
 exact ⟨c,rfl,e⟩
theorem DVs.th_at {H:Hp} {xs:List V} {ts:List Th} {i:Nat} {x:V} (h:DVs H xs (ts.map Th.D)) (hx:xs[i]?=some x):∃t c,ts[i]?=some t∧x=.ref c∧H c=some (.tup t.vs)∧t∈ts:=by
 obtain ⟨d,hd,dv⟩:=DVs.getV h hx
 rw [List.getElem?_map] at hd
 obtain ⟨t,ht,rfl⟩:=Option.map_eq_some_iff.mp hd
 obtain ⟨c,rfl,e⟩:=DV.th_inv dv
 exact ⟨t,c,ht,rfl,e,List.mem_of_getElem? ht⟩
theorem take_one {α:Type} {l:List α} {i:Nat} {x:α} (h:l[i]?=some x):l.take (i+1)=l.take i++[x]:=by rw [List.take_add_one,h];rfl
theorem comp_stream {K:PySem.W.Frag} {a:Addr} {xs:List V} {ts:List Th} {k:Nat} {g:TG} {tt:TT} {te:TE} {σ:St} {H:Hp} {Q:VK} (p:Th→Bool) (f:Th→V) (e:H a=some (.lst xs)) (dv:DVs H xs (ts.map Th.D)) (hl:ts.length≤100000)
  (hs:∀(t:Th) (c:Addr) (ys:List V) (C:List V→Hp→Prop),t∈ts→H c=some (.tup t.vs)→(p t=true→C (ys++[f t]) H)→(p t=false→C ys H)→g (.ref c) (List.replicate k none++σ) H fun σ2 H2=>Wk σ2 (List.replicate k none++σ)∧tt σ2 H2 fun ok H3=>
   if ok=true then te σ2 H3 fun y H4=>C (ys++[y]) H4 else C ys H3)
  (hd:∀q,H q=none→Q (.ref q) (upd H q (.lst ((ts.filter p).map f)))):
  CompR (Itl K a) H k g tt te σ Q:=by
 have dl:=dv.length
 rw [List.length_map] at dl
 have le:∀i,(((ts.take i).filter p).map f).length≤100000:=fun i=>by
  rw [List.length_map]
  have h1:=List.length_filter_le p (ts.take i)
  rw [List.length_take] at h1
  omega
 refine comp_list (xs:=xs) (fun i ys H'=>H'=H∧ys=((ts.take i).filter p).map f) ⟨rfl,rfl⟩ ?_ ?_ ?_
 ·rintro i ys H' _ ⟨rfl,_⟩
  exact SqL.of e
 ·rintro i x ys H' C hx ⟨rfl,rfl⟩ hC
  obtain ⟨t,c,ht,rfl,ec,hm⟩:=DVs.th_at dv hx
  refine ⟨small_lt (by have:=le i;omega),hs t c _ C hm ec (fun hp=>hC _ _ ⟨rfl,?_⟩) (fun hp=>hC _ _ ⟨rfl,?_⟩)⟩
  ·rw [take_one ht,List.filter_append,List.map_append,List.filter_cons,hp]
   rfl
  ·rw [take_one ht,List.filter_append,List.filter_cons,hp]
   simp
 ·rintro ys H' ⟨rfl,rfl⟩
  rw [dl,List.take_length]
  refine ⟨small_le (by have:=le ts.length;rw [List.take_length] at this;omega),hd⟩
section
variable {κ:Type} [DecidableEq κ]
noncomputable def valV (kvs:List (κ×V)) (k:κ):Option V:=(kvs.find? fun kv=>decide (kv.1=k)).map (·.2)
noncomputable def putK (kvs:List (κ×V)) (k:κ) (v:V):List (κ×V):=
 if (kvs.any fun kv=>decide (kv.1=k))=true then kvs.map (fun kv=>if kv.1=k then (kv.1,v) else kv) else kvs++[(k,v)]
noncomputable def dropK (kvs:List (κ×V)) (k:κ):List (κ×V):=kvs.filter fun kv=>decide (kv.1≠k)
theorem valV_pos {p:κ×V} {r:List (κ×V)} {k:κ} (e:p.1=k):valV (p::r) k=some p.2:=by simp [valV,List.find?_cons,e]
theorem valV_neg {p:κ×V} {r:List (κ×V)} {k:κ} (e:¬p.1=k):valV (p::r) k=valV r k:=by simp [valV,List.find?_cons,e]
theorem valV_any (k:κ):∀kvs:List (κ×V),(kvs.any fun kv=>decide (kv.1=k))=(valV kvs k).isSome
 | []=>rfl
 | p::r=>by
  rw [List.any_cons]
  by_cases e:p.1=k
  ·simp only [valV_pos e,decide_eq_true e,Bool.true_or,Option.isSome_some]
  ·rw [valV_neg e,decide_eq_false e,Bool.false_or];exact valV_any k r
theorem valV_map (k j:κ) (y:V):∀kvs:List (κ×V),valV (kvs.map fun kv=>if kv.1=k then (kv.1,y) else kv) j=(valV kvs j).map fun x=>if j=k then y else x
 | []=>rfl
 | p::r=>by
  have ih:=valV_map k j y r
  rw [List.map_cons]
  by_cases h:p.1=k
  ·rw [if_pos h]
   by_cases e:p.1=j
   ·rw [valV_pos (p:=(p.1,y)) e,valV_pos e,Option.map_some,if_pos (e.symm.trans h)]
   ·rw [valV_neg (p:=(p.1,y)) e,valV_neg e,ih]
  ·rw [if_neg h]
   by_cases e:p.1=j
   ·rw [valV_pos (p:=p) e,valV_pos e,Option.map_some,if_neg (fun z=>h (e.trans z))]
   ·rw [valV_neg (p:=p) e,valV_neg e,ih]
theorem valV_snoc (k j:κ) (y:V):∀kvs:List (κ×V),valV kvs k=none→valV (kvs++[(k,y)]) j=if j=k then some y else valV kvs j
 | [],_=>by
  by_cases e:k=j
  ·rw [if_pos e.symm];exact valV_pos (p:=(k,y)) e
  ·rw [if_neg (fun z=>e z.symm)];exact valV_neg (p:=(k,y)) e
 | p::r,hn=>by
  rw [List.cons_append]
  have hk:¬p.1=k:=fun z=>by rw [valV_pos z] at hn;cases hn
  rw [valV_neg hk] at hn
  have ih:=valV_snoc k j y r hn
  by_cases e:p.1=j
  ·rw [valV_pos e,valV_pos e,if_neg (fun z=>hk (e.trans z))]
  ·rw [valV_neg e,valV_neg e,ih]
theorem valV_put (kvs:List (κ×V)) (k j:κ) (y:V):valV (putK kvs k y) j=if j=k then some y else valV kvs j:=by
 unfold putK
 by_cases a:(kvs.any fun kv=>decide (kv.1=k))=true
 ·rw [if_pos a,valV_map]
  rw [valV_any] at a
  by_cases e:j=k
  ·obtain ⟨x,hx⟩:=Option.isSome_iff_exists.mp a
   rw [if_pos e,e,hx,Option.map_some,if_pos rfl]
  ·rw [if_neg e]
   cases valV kvs j with
   | none=>rfl
   | some x=>rw [Option.map_some,if_neg e]
 ·rw [if_neg a]
  refine valV_snoc k j y kvs ?_
  rw [valV_any] at a
  cases q:valV kvs k with
  | none=>rfl
  | some x=>rw [q] at a;exact (a rfl).elim
theorem length_putK (kvs:List (κ×V)) (k:κ) (v:V):(putK kvs k v).length≤kvs.length+1:=by
 unfold putK
 split
 ·rw [List.length_map];omega
 ·rw [List.length_append,List.length_cons,List.length_nil];omega
theorem putK_new {kvs:List (κ×V)} {k:κ} (v:V) (h:valV kvs k=none):putK kvs k v=kvs++[(k,v)]:=by
 unfold putK
 rw [valV_any,h]
 exact if_neg (by decide)
theorem RelO.isSome_eq {o:Option V} {u:Option Value} (r:RelO o u):o.isSome=u.isSome:=by
 cases o with
 | none=>cases u with
  | none=>rfl
  | some _=>exact (show False from r).elim
 | some _=>cases u with
  | none=>exact (show False from r).elim
  | some _=>rfl
theorem RelO.getD {o:Option V} {u:Option Value} {d:V} {d':Value} (r:RelO o u) (rd:RelV d d'):RelV (o.getD d) (u.getD d'):=by
 cases o with
 | none=>cases u with
  | none=>exact rd
  | some _=>exact (show False from r).elim
 | some _=>cases u with
  | none=>exact (show False from r).elim
  | some _=>exact r
theorem KV.val {kvs:List (κ×V)} {vs:List (κ×Value)} (r:KV kvs vs) (k:κ):RelO (valV kvs k) (valueAt vs k):=by
 unfold KV at r
 induction r with
 | nil=>exact True.intro
 | @cons p q ps qs h t ih=>
  obtain ⟨h1,h2⟩:=h
  by_cases e:p.1=k
  ·have e':q.1=k:=h1.symm.trans e
   have b:valueAt (q::qs) k=some q.2:=by simp [valueAt,List.find?_cons,e']
   rw [valV_pos e,b];exact h2
  ·have e':¬q.1=k:=fun z=>e (h1.trans z)
   have b:valueAt (q::qs) k=valueAt qs k:=by simp [valueAt,List.find?_cons,e']
   rw [valV_neg e,b];exact ih
theorem KV.any {kvs:List (κ×V)} {vs:List (κ×Value)} (r:KV kvs vs) (k:κ):(kvs.any fun kv=>decide (kv.1=k))=vs.any fun kv=>decide (kv.1=k):=by
 unfold KV at r
 induction r with
 | nil=>rfl
 | cons h t ih=>rw [List.any_cons,List.any_cons,ih,h.1]
theorem KV.repl {kvs:List (κ×V)} {vs:List (κ×Value)} (r:KV kvs vs) (k:κ) {y:V} {u:Value} (ry:RelV y u):
  KV (kvs.map fun kv=>if kv.1=k then (kv.1,y) else kv) (vs.map fun kv=>if kv.1=k then (kv.1,u) else kv):=by
 unfold KV at r ⊢
 induction r with
 | nil=>exact .nil
 | @cons p q ps qs h t ih=>
  rw [List.map_cons,List.map_cons]
  refine .cons ?_ ih
  obtain ⟨h1,h2⟩:=h
  by_cases e:p.1=k
  ·rw [if_pos e,if_pos (h1.symm.trans e)];exact ⟨h1,ry⟩
  ·rw [if_neg e,if_neg (fun z=>e (h1.trans z))];exact ⟨h1,h2⟩
theorem KV.put {kvs:List (κ×V)} {vs:List (κ×Value)} (r:KV kvs vs) (k:κ) {y:V} {u:Value} (ry:RelV y u):KV (putK kvs k y) (stored vs k u):=by
 unfold putK stored
 rw [r.any k]
 by_cases e:(vs.any fun kv=>decide (kv.1=k))=true
 ·rw [if_pos e,if_pos e];exact r.repl k ry
 ·rw [if_neg e,if_neg e];exact Paired.snoc r ⟨rfl,ry⟩
theorem KV.length {kvs:List (κ×V)} {vs:List (κ×Value)} (r:KV kvs vs):kvs.length=vs.length:=Paired.length r
end
theorem kV_is {P:Program} {w:World} {k:Key} {u:Value} (r:RelV (kV k) u):(mixKind P w).is k u=true:=by
 cases k with
 | inl i=>obtain ⟨t,e⟩:=(show ∃t,u=Value.int i t from r);subst e;exact mixKind_int P w i t
 | inr x=>obtain ⟨t,e⟩:=(show ∃t,u=Value.str x t from r);subst e;exact mixKind_str P w x t
theorem items_are {P:Program} {w:World}:∀{ks:List Key} {us:List Value},Vals (ks.map kV) us→ItemsAre (mixKind P w) ks us
 | [],_,r=>by rw [List.map_nil] at r;cases r;exact .nil
 | k::ks,_,r=>by
  rw [List.map_cons] at r
  cases r with
  | cons h t=>exact .cons (kV_is h) (items_are t)
noncomputable abbrev KT (H:Hp):List (List Key×V)→List (List Key×Addr×Value)→Prop:=Paired fun p q=>p.1=q.1∧H q.2.1=some (.tup (p.1.map kV))∧RelV p.2 q.2.2
theorem KT.val {H:Hp} {kvs:List (List Key×V)} {xs:List (List Key×Addr×Value)} (r:KT H kvs xs) (k:List Key):RelO (valV kvs k) ((atKey xs k).map (·.2)):=by
 induction r with
 | nil=>exact True.intro
 | @cons p q ps qs h t ih=>
  obtain ⟨h1,_,h2⟩:=h
  by_cases e:p.1=k
  ·have e':q.1=k:=h1.symm.trans e
   have b:atKey (q::qs) k=some q.2:=by simp [atKey,List.find?_cons,e']
   rw [valV_pos e,b];exact h2
  ·have e':¬q.1=k:=fun z=>e (h1.trans z)
   have b:atKey (q::qs) k=atKey qs k:=by simp [atKey,List.find?_cons,e']
   rw [valV_neg e,b];exact ih
theorem KT.repl {H:Hp} {kvs:List (List Key×V)} {xs:List (List Key×Addr×Value)} (r:KT H kvs xs) (k:List Key) {y:V} {u:Value} (ry:RelV y u):
  KT H (kvs.map fun kv=>if kv.1=k then (kv.1,y) else kv) (xs.map (putAt k u)):=by
 induction r with
 | nil=>exact .nil
 | @cons p q ps qs h t ih=>
  rw [List.map_cons,List.map_cons]
  refine .cons ?_ ih
  obtain ⟨h1,h2,h3⟩:=h
  unfold putAt
  by_cases e:p.1=k
  ·rw [if_pos e,if_pos (h1.symm.trans e)];exact ⟨h1,h2,ry⟩
  ·rw [if_neg e,if_neg (fun z=>e (h1.trans z))];exact ⟨h1,h2,h3⟩
theorem KT.put {H:Hp} {kvs:List (List Key×V)} {xs:List (List Key×Addr×Value)} (r:KT H kvs xs) (k:List Key) {b:Addr} {y:V} {u:Value} (hb:H b=some (.tup (k.map kV))) (ry:RelV y u):
  KT H (putK kvs k y) (storedH xs k b u):=by
 have e:(kvs.any fun kv=>decide (kv.1=k))=(atKey xs k).isSome:=by
  rw [valV_any,(r.val k).isSome_eq,Option.isSome_map]
 unfold putK storedH
 rw [e]
 by_cases q:(atKey xs k).isSome=true
 ·rw [if_pos q,if_pos q];exact r.repl k ry
 ·rw [if_neg q,if_neg q];exact Paired.snoc r ⟨rfl,hb,ry⟩
theorem KT.keeps {H H':Hp} {kvs:List (List Key×V)} {xs:List (List Key×Addr×Value)} (r:KT H kvs xs) (ht:∀b ys,H b=some (.tup ys)→H' b=some (.tup ys)):KT H' kvs xs:=
 Paired.mapP r fun _ _ z=>⟨z.1,ht _ _ z.2.1,z.2.2⟩
section
variable {P:Program} {w:World} {H:Hp} {h:Heap} {a:Addr}
theorem rd_of {u:HO} (ok:HOk P w H h) (e:Rd H a u):ObjOk P w H h a u:=e.ok ok
theorem dk_rd {kvs:List (Key×V)} (ok:HOk P w H h) (e:Rd H a (.dK kvs)):kvs.length≤sizeLine∧(a == sysModules)=false∧∃vs,KV kvs vs∧h.DictOf (mixKind P w) a vs:=
 show ObjOk P w H h a (.dK kvs) from rd_of ok e
theorem dk_of {kvs:List (Key×V)} (ok:HOk P w H h) (e:H a=some (.dK kvs)):kvs.length≤sizeLine∧(a == sysModules)=false∧∃vs,KV kvs vs∧h.DictOf (mixKind P w) a vs:=dk_rd ok (.inl e)
theorem key_of {ks:List Key} (ok:HOk P w H h) (e:H a=some (.tup (ks.map kV))):(tupleKind (mixKind P w)).is h ks a:=by
 obtain ⟨_,its,r,o,h1,h2,n,h3⟩:=(show ObjOk P w H h a (.tup (ks.map kV)) from ok a _ e)
 exact ⟨o,its.toArray,n,h1,h2.1,h3,by simpa using items_are r⟩
theorem dt_rd {kvs:List (List Key×V)} (ok:HOk P w H h) (e:Rd H a (.dT kvs)):kvs.length≤sizeLine∧(a == sysModules)=false∧
  ∃xs,KT H kvs xs∧h.DictOfH (tupleKind (mixKind P w)) a xs:=by
 obtain ⟨z,y,xs,r,o,es,ep,h1,h2,h3,h4,h5⟩:=(show ObjOk P w H h a (.dT kvs) from rd_of ok e)
 refine ⟨z,y,xs,r,o,es,ep,h1,h2,h3,h4,fun x hx=>?_,h5⟩
 have all:∀{l:List (List Key×V)} {m:List (List Key×Addr×Value)},KT H l m→∀x∈m,(tupleKind (mixKind P w)).is h x.1 x.2.1:=by
  intro l m q
  induction q with
  | nil=>intro x hx;exact nomatch hx
  | @cons p q ps qs hq t ih=>
   intro x hx
   rcases List.mem_cons.mp hx with e | hx
   ·subst e
    exact key_of ok (by rw [←hq.1];exact hq.2.1)
   ·exact ih x hx
 exact all r x hx
theorem dt_of {kvs:List (List Key×V)} (ok:HOk P w H h) (e:H a=some (.dT kvs)):kvs.length≤sizeLine∧(a == sysModules)=false∧
  ∃xs,KT H kvs xs∧h.DictOfH (tupleKind (mixKind P w)) a xs:=dt_rd ok (.inl e)
end
noncomputable def DGet (H:Hp) (a:Addr) (y:V) (r:Option V):Prop:=
 (∃kvs k,Rd H a (.dK kvs)∧y=kV k∧r=valV kvs k)∨∃kvs k b,Rd H a (.dT kvs)∧y=.ref b∧H b=some (.tup (k.map kV))∧r=valV kvs k
noncomputable def DPut (H:Hp) (a:Addr) (y v:V) (H':Hp):Prop:=
 (∃kvs k,H a=some (.dK kvs)∧y=kV k∧kvs.length<sizeLine∧H'=upd H a (.dK (putK kvs k v)))∨
 ∃kvs k b,H a=some (.dT kvs)∧y=.ref b∧H b=some (.tup (k.map kV))∧kvs.length<sizeLine∧H'=upd H a (.dT (putK kvs k v))
theorem DGet.t {H:Hp} {a b:Addr} {kvs:List (List Key×V)} {k:List Key} (e:H a=some (.dT kvs)) (eb:H b=some (.tup (k.map kV))):DGet H a (.ref b) (valV kvs k):=.inr ⟨kvs,k,b,.inl e,rfl,eb,rfl⟩
theorem DPut.t {H:Hp} {a b:Addr} {kvs:List (List Key×V)} {k:List Key} {v:V} (e:H a=some (.dT kvs)) (eb:H b=some (.tup (k.map kV))) (hl:kvs.length<sizeLine):
  DPut H a (.ref b) v (upd H a (.dT (putK kvs k v))):=.inr ⟨kvs,k,b,e,rfl,eb,hl,rfl⟩
section
variable {X:Cx} {pins:List (Addr×Obj)} {σ:St} {H:Hp} {s:Shared} {a:Addr} {y v:V} {u r:Value} {o:Option V} {A:Around} {E:Value→Shared→Prop}
theorem Inv.big (I:Inv X pins σ H s):sysModules<s.heap.objs.size:=by
 have h:mainGlobals<s.heap.objs.size:=(I.mod.glob.keeps I.bk).lt
 exact Nat.lt_trans (by decide) h
theorem d_getItem {Q:Value→Shared→Prop} (hu:A.units+1<cLine) (I:Inv X pins σ H s) (g:DGet H a y (some v)) (ry:RelV y u) (h:∀w' s',Inv X pins σ H s'→RelV v w'→Q w' s'):
  wpAny (model X.prog X.w) A (getItem (.ref a) u) Q E s:=by
 rcases g with ⟨kvs,k,e,ey,l⟩ | ⟨kvs,k,b,e,ey,eb,l⟩
 ·subst ey
  obtain ⟨z,hd,vs,rel,dd⟩:=dk_rd I.hok e
  obtain ⟨w',hw,rw'⟩:=RelO.some_of (v:=v) (o:=valueAt vs k) (by rw [l];exact rel.val k)
  exact wpAny_getItem_of (kV_is ry) dd.mapOf hw (h w' _ (I.tok _) rw')
 ·subst ey
  cases (show u=Value.ref b from ry)
  obtain ⟨z,hd,xs,rel,dd⟩:=dt_rd I.hok e
  obtain ⟨w',hw,rw'⟩:=RelO.some_of (v:=v) (o:=(atKey xs k).map (·.2)) (by rw [l];exact rel.val k)
  obtain ⟨p,hp,hp2⟩:=Option.map_eq_some_iff.mp hw
  refine wpAny_getItem_heap (tupleKind_room_in1 hu) (key_of I.hok eb) dd hp ?_
  rw [hp2]
  exact h w' _ (I.tok _) rw'
theorem d_in {Q:Value→Shared→Prop} (hu:A.units+1<cLine) (I:Inv X pins σ H s) (g:DGet H a y o) (ry:RelV y u) (h:∀s',Inv X pins σ H s'→Q (.bool o.isSome) s'):
  wpAny (model X.prog X.w) A (compareOp .In u (.ref a)) Q E s:=by
 rcases g with ⟨kvs,k,e,ey,l⟩ | ⟨kvs,k,b,e,ey,eb,l⟩
 ·subst ey
  obtain ⟨z,hd,vs,rel,dd⟩:=dk_rd I.hok e
  refine wpAny_in_of (kV_is ry) hd dd.mapOf ?_
  rw [←(rel.val k).isSome_eq,←l]
  exact h _ (I.tok _)
 ·subst ey
  cases (show u=Value.ref b from ry)
  obtain ⟨z,hd,xs,rel,dd⟩:=dt_rd I.hok e
  refine wpAny_in_heap (tupleKind_room_in1 hu) (key_of I.hok eb) hd dd ?_
  have q:=(rel.val k).isSome_eq
  rw [Option.isSome_map] at q
  rw [←q,←l]
  exact h _ (I.tok _)
theorem d_write {h':Heap} {t':Nat} {ob:HO} (I:Inv X pins σ H s) (mu:Mut (H a)) (hs:Heap.SameBut a s.heap h') (he:∃q,h'.get? a=some q) (new:ObjOk X.prog X.w (upd H a ob) h' a ob):
  Inv X pins σ (upd H a ob) {s with heap:=h',toks:=t'}:=
 I.write (x:=a) (e:=a) mu (.inl rfl) (fun b q hb z=>(hs.2 b hb).trans z) he new
theorem dk_new {P:Program} {w:World} {H':Hp} {h':Heap} {kvs:List (Key×V)} {vs:List (Key×Value)} (z:kvs.length≤sizeLine) (hd:(a == sysModules)=false) (rel:KV kvs vs) (dd:h'.DictOf (mixKind P w) a vs):
  ObjOk P w H' h' a (.dK kvs):=⟨z,hd,vs,rel,dd⟩
theorem d_setItem {H':Hp} {Q:Unit→Shared→Prop} (hu:A.units+1<cLine) (I:Inv X pins σ H s) (g:DPut H a y v H') (ry:RelV y u) (rv:RelV v r) (h:∀s',Inv X pins σ H' s'→Q () s'):
  wpAny (model X.prog X.w) A (setItem (.ref a) u r) Q E s:=by
 rcases g with ⟨kvs,k,e,ey,l,eH⟩ | ⟨kvs,k,b,e,ey,eb,l,eH⟩
 ·subst ey eH
  obtain ⟨z,hd,vs,rel,dd⟩:=dk_of I.hok e
  have hz:vs.length≤sizeLine:=by rw [←rel.length];exact z
  have hl:(putK kvs k v).length≤sizeLine:=by have:=length_putK kvs k v;omega
  refine wpAny_setItem_pairs (hsz:=hz) (kV_is ry) dd fun h' dd' hs=>h _ ?_
  have he:∃q,h'.get? a=some q:=let ⟨q,_,_,hq,_⟩:=dd';⟨q,hq⟩
  exact d_write I (by rw [e];exact True.intro) hs he (dk_new hl hd (rel.put k rv) dd')
 ·subst ey eH
  cases (show u=Value.ref b from ry)
  obtain ⟨z,hd,xs,rel,dd⟩:=dt_of I.hok e
  have hz:xs.length≤sizeLine:=by rw [←Paired.length rel];exact z
  have hl:(putK kvs k v).length≤sizeLine:=by have:=length_putK kvs k v;omega
  refine wpAny_setItem_heap (hsz:=hz) (tupleKind_room_in1 hu) (key_of I.hok eb) dd fun h' dd' hs=>h _ ?_
  obtain ⟨q,es,ep,hq,h2,h3,h4,_,h5⟩:=dd'
  refine d_write I (by rw [e];exact True.intro) hs ⟨q,hq⟩ ⟨hl,hd,_,(rel.put k eb rv).keeps fun c ys ec=>?_,q,es,ep,hq,h2,h3,h4,h5⟩
  rw [upd_ne (ne_of ec e (fun z=>nomatch z))]
  exact ec
end
section
variable {X:Cx} {pins:List (Addr×Obj)} {σ:St} {H:Hp} {s:Shared} {a:Addr} {kvs:List (Key×V)} {k:Key} {u:Value} {A:Around} {E:Value→Shared→Prop}
end
noncomputable def NoSl (i:Expr):Prop:=∀ov iv,subscripted i false ov iv=operate [ov,iv] (getItem ov iv)
theorem subD_of {prog:Program} {w:World} {A:Around} {E:Value→Shared→Prop} {s:Shared} {env:Env} {value slice:Expr} {pos:Pos} {T id:String} {Q:Value→Shared→Prop}
  (hl:typeLookup (.type T) "__getitem__"=pure (some (.builtin id))) (hs:NoSl slice)
  (h:wpAny (model prog w) A (eval value env) (fun o s₁=>wpAny (model prog w) A (eval slice env) (fun i s₂=>s₂.TypeIs o T∧wpAny (model prog w) A (getItem o i) Q E s₂) E s₁) E s):
  wpAny (model prog w) A (eval (.Subscript value slice pos) env) Q E s:=by
 refine Subscript_ (wpAny_mono h (fun o s₁ h₁=>wpAny_mono h₁ (fun i s₂ h₂=>?_) fun _ _ x=>x) fun _ _ x=>x)
 obtain ⟨hT,h₂⟩:=h₂
 unfold subscriptTail
 refine wpAny_bind ?_
 rw [getitemInPython_of_ne hT.not_modules]
 refine wpAny_bind (wpAny_specialOf hT hl ?_)
 have fin:wpAny (model prog w) A (subscripted slice false o i) (fun r s₃=>wpAny (model prog w) A (letTemporaryGo value o r >>= fun _=>pure r) Q E s₃) E s₂:=by
  rw [hs o i]
  exact wpAny_operating (wpAny_mono h₂ (fun r s₃ h₃=>wpAny_bind (wpAny_letTemporaryGo (wpAny_pure h₃))) fun _ _ x=>x)
 first
  | exact wpAny_pure (wpAny_bind fin)
  | exact wpAny_bind (wpAny_pure (wpAny_bind fin))
  | exact wpAny_bind fin
theorem dict_typeIs {X:Cx} {pins:List (Addr×Obj)} {σ:St} {H:Hp} {s:Shared} {a:Addr} {y:V} {o:Option V} (I:Inv X pins σ H s) (g:DGet H a y o):s.TypeIs (.ref a) "dict":=by
 rcases g with ⟨kvs,k,e,_,_⟩ | ⟨kvs,k,b,e,_,_,_⟩
 ·obtain ⟨_,_,vs,_,dd⟩:=dk_rd I.hok e
  exact dd.typeIs
 ·obtain ⟨_,_,xs,_,dd⟩:=dt_rd I.hok e
  exact dd.typeIs
noncomputable def tDGet (td ty:TE):TE:=fun σ H Q=>td σ H fun x H1=>ty σ H1 fun y H2=>∃a v,x=.ref a∧DGet H2 a y (some v)∧Q v H2
noncomputable def tDIn (ty td:TE):TE:=fun σ H Q=>ty σ H fun y H1=>td σ H1 fun x H2=>∃a o,x=.ref a∧DGet H2 a y o∧Q (.bl o.isSome) H2
noncomputable def tDNotIn (ty td:TE):TE:=fun σ H Q=>ty σ H fun y H1=>td σ H1 fun x H2=>∃a o,x=.ref a∧DGet H2 a y o∧Q (.bl (!o.isSome)) H2
noncomputable def sDPut (td ty tv:TE):TS:=fun D σ H=>tv σ H fun v H1=>td σ H1 fun x H2=>ty σ H2 fun y H3=>∃a H4,x=.ref a∧DPut H3 a y v H4∧D.nx σ H4
noncomputable def sDAug (td ty tv:TE) (rd:V→V→Hp→VK→Prop):TS:=fun D σ H=>td σ H fun x H1=>ty σ H1 fun y H2=>∃a v,x=.ref a∧DGet H2 a y (some v)∧
 tv σ H2 fun y2 H3=>rd v y2 H3 fun z H4=>∃H5,DPut H4 a y z H5∧D.nx σ H5
noncomputable def sDDel (td ty:TE):TS:=fun D σ H=>td σ H fun x H1=>ty σ H1 fun y H2=>∃a kvs k,x=.ref a∧H2 a=some (.dK kvs)∧y=kV k∧(valV kvs k).isSome=true∧D.nx σ (upd H2 a (.dK (dropK kvs k)))
section
variable {X:Cx} {o i e value:Expr} {pos pos' tpos:Pos} {td ty tv:TE}
theorem pe_dget (hu:X.A.units+1<cLine) (ho:PE X o td) (hi:PE X i ty) (hs:NoSl i):PE X (.Subscript o i pos) (tDGet td ty):=by
 intro pins s σ H Q I h
 refine subD_of PySem.F.slot_dict_getitem.lookup hs (thn (ho pins s σ H _ I h) fun u s1 ⟨x,H1,I1,rx,q1⟩=>thn (hi pins s1 σ H1 _ I1 q1) fun iv s2 hpat=>?_)
 obtain ⟨y,H2,I2,ry,a,v,ex,g,q2⟩:=hpat
 subst ex
 obtain rfl:u=Value.ref a:=rx
 exact ⟨dict_typeIs I2 g,d_getItem hu I2 g ry fun w' s3 I3 rw'=>⟨v,H2,I3,rw',q2⟩⟩
theorem ps_dput (hu:X.A.units+1<cLine) (ho:PE X o td) (hi:PE X i ty) (hv:PE X value tv) (hs:swapsWith value (some (.Subscript o i pos')) pos.line X.env=pure false):
  PS X (.Assign [.Subscript o i pos'] value pos) (sDPut td ty tv):=by
 intro pins s σ H D I h
 refine wpAny_Assign_Subscript (thn (hv pins s σ H _ I h) fun r s1 ⟨v,H1,I1,rv,q1⟩=>thn (ho pins s1 σ H1 _ I1 q1) fun u s2 ⟨x,H2,I2,rx,q2⟩=>thn (hi pins s2 σ H2 _ I2 q2) fun iv s3 hpat=>?_) hs
 obtain ⟨y,H3,I3,ry,a,H4,ex,g,q3⟩:=hpat
 subst ex
 obtain rfl:u=Value.ref a:=rx
 exact d_setItem hu I3 g ry rv fun s4 I4=>⟨σ,H4,I4,q3⟩
end
theorem dt_empty {P:Program} {w:World} {H:Hp} (h:Heap) (hb:sysModules<h.objs.size):ObjOk P w H (h.push {cls:=.type "dict",data:=.dict #[]}) h.objs.size (.dT []):=
 ⟨Nat.zero_le _,beq_eq_false_iff_ne.mpr (Ne.symm (Nat.ne_of_lt hb)),[],.nil,_,#[],0,Heap.get?_push_size _ rfl,⟨rfl,rfl,rfl⟩,rfl,rfl,List.nodup_nil⟩
noncomputable def tDNewK:TE:=fun _ H Q=>∀p,H p=none→Q (.ref p) (upd H p (.dK []))
noncomputable def tDNewT:TE:=fun _ H Q=>∀p,H p=none→Q (.ref p) (upd H p (.dT []))
section
variable {X:Cx} {pos:Pos}
theorem pe_dnewT:PE X (.Dict [] [] pos) tDNewT:=fun pins s σ H Q I h=>
 wpAny_Dict_empty ⟨.ref s.heap.objs.size,_,I.laid (a:=s.heap.objs.size) (o:=.dT []) (t':=s.toks) (fun _ _ q=>Heap.get?_push_of_some _ q) (Nat.le_refl _) (dt_empty s.heap I.big),rfl,h _ (I.hok.fresh (Nat.le_refl _))⟩
end
noncomputable def tPairs:List (TE×TE)→St→Hp→(List (V×V)→Hp→Prop)→Prop
 | [],_,H,Q=>Q [] H
 | (tk,tv)::r,σ,H,Q=>tk σ H fun x H1=>tv σ H1 fun y H2=>tPairs r σ H2 fun ps H3=>Q ((x,y)::ps) H3
noncomputable abbrev VV:List (V×V)→List (Value×Value)→Prop:=Paired fun p q=>RelV p.1 q.1∧RelV p.2 q.2
noncomputable def PPs (X:Cx) (pos:Pos) (keys:List (Option Expr)) (values:List Expr) (trs:List (TE×TE)):Prop:=
 ∀(pins:List (Addr×Obj)) (s:Shared) (σ:St) (H:Hp) (Q:List (V×V)→Hp→Prop),Inv X pins σ H s→tPairs trs σ H Q→
  wpAny (model X.prog X.w) X.A (evalPairs (pairTrees keys values X.env pos)) (fun vs s'=>∃ps H',Inv X pins σ H' s'∧VV ps vs∧Q ps H') X.xe s
noncomputable def mergeK (kvs more:List (Key×V)):List (Key×V):=more.foldl (fun acc kv=>putK acc kv.1 kv.2) kvs
noncomputable def tDisp (trs:List (TE×TE)):TE:=fun σ H Q=>∀p,H p=none→tPairs trs σ (upd H p (.dK [])) fun ps H2=>H2 p=some (.dK [])∧∃kvs:List (Key×V),ps=kvs.map (fun kv=>(kV kv.1,kv.2))∧kvs.length≤15∧Q (.ref p) (upd H2 p (.dK (mergeK [] kvs)))
structure M1 (X:Cx) (o:Expr) (m:Str) (apos:Pos) (e:Expr) (cpos:Pos):Prop where
 base:attributeBase o m X.env (eval o X.env)=eval o X.env
 few:((backTo cpos (starEach [e] X.env)).all (fun x=>!x.1) && (backToKw cpos (keywordEach [] X.env)).all (fun x=>x.1.isSome)
  && decide (([e]:List Expr).length+([]:List Keyword).length+(if ([]:List Keyword).isEmpty then 0 else 1)<30))=true
 line:(apos.endLine == cpos.line)=true
 trees:backTo cpos (starEach [e] X.env)=[(false,eval e X.env)]
structure M2 (X:Cx) (o:Expr) (m:Str) (apos:Pos) (e f:Expr) (cpos:Pos):Prop where
 base:attributeBase o m X.env (eval o X.env)=eval o X.env
 few:((backTo cpos (starEach [e,f] X.env)).all (fun x=>!x.1) && (backToKw cpos (keywordEach [] X.env)).all (fun x=>x.1.isSome)
  && decide (([e,f]:List Expr).length+([]:List Keyword).length+(if ([]:List Keyword).isEmpty then 0 else 1)<30))=true
 line:(apos.endLine == cpos.line)=true
 trees:backTo cpos (starEach [e,f] X.env)=[(false,eval e X.env),(false,eval f X.env)]
noncomputable def IsD (H:Hp) (a:Addr):Prop:=(∃kvs,Rd H a (.dK kvs))∨∃kvs,Rd H a (.dT kvs)
theorem isD_at {X:Cx} {pins:List (Addr×Obj)} {σ:St} {H:Hp} {s:Shared} {a:Addr} (I:Inv X pins σ H s) (d:IsD H a):
  s.TypeIs (.ref a) "dict"∧(∀b,Value.ref a=.ref b→∃ob,s.heap.get? b=some ob∧ob.dict=none)∧(a == sysModules)=false:=by
 rcases d with ⟨kvs,e⟩ | ⟨kvs,e⟩
 ·obtain ⟨_,hd,vs,_,dd⟩:=dk_rd I.hok e
  refine ⟨dd.typeIs,fun b q=>?_,hd⟩
  cases q
  obtain ⟨ob,_,_,h1,h2,_⟩:=dd
  exact ⟨ob,h1,h2.2.1⟩
 ·obtain ⟨_,hd,xs,_,dd⟩:=dt_rd I.hok e
  refine ⟨dd.typeIs,fun b q=>?_,hd⟩
  cases q
  obtain ⟨ob,_,_,h1,h2,_⟩:=dd
  exact ⟨ob,h1,h2.2.1⟩
section
variable {X:Cx} {pins:List (Addr×Obj)} {σ:St} {H:Hp} {s:Shared} {a:Addr} {y d:V} {u r:Value} {o:Option V} {A:Around} {E:Value→Shared→Prop}
theorem d_get2 {Q:Value→Shared→Prop} (hu:A.units+1<cLine) (I:Inv X pins σ H s) (g:DGet H a y o) (ry:RelV y u) (rd:RelV d r) (h:∀w' s',Inv X pins σ H s'→RelV (o.getD d) w'→Q w' s'):
  wpAny (model X.prog X.w) A (call (.builtin "dict.get") [.ref a,u,r]) Q E s:=by
 rcases g with ⟨kvs,k,e,ey,l⟩ | ⟨kvs,k,b,e,ey,eb,l⟩
 ·subst ey
  obtain ⟨z,hd,vs,rel,dd⟩:=dk_rd I.hok e
  refine call_meetsIn PySem.F.slot_dict_get dd.typeIs PySem.F.entry_dict_get (PySem.F.args_dict_get_3 _ _ _) (meets_dict_get_default (mixKind X.prog X.w) a (kV_is ry) hd r) ⟨_,dd.mapOf,h _ _ (I.tok _) ?_⟩
  rw [l]
  exact (rel.val k).getD rd
 ·subst ey
  cases (show u=Value.ref b from ry)
  obtain ⟨z,hd,xs,rel,dd⟩:=dt_rd I.hok e
  refine call_meetsIn PySem.F.slot_dict_get dd.typeIs PySem.F.entry_dict_get (PySem.F.args_dict_get_3 _ _ _) (meetsH_dict_get_default (tupleKind (mixKind X.prog X.w)) a b hd r) ⟨tupleKind_room_in1 hu,k,xs,key_of I.hok eb,dd,h _ _ (I.tok _) ?_⟩
  rw [l]
  exact (rel.val k).getD rd
end
noncomputable def tDGet1 (td ty:TE):TE:=fun σ H Q=>td σ H fun x H1=>∃a,x=.ref a∧IsD H1 a∧ty σ H1 fun y H2=>∃o,DGet H2 a y o∧Q (o.getD .non) H2
noncomputable def tDGet2 (td ty tx:TE):TE:=fun σ H Q=>td σ H fun x H1=>∃a,x=.ref a∧IsD H1 a∧ty σ H1 fun y H2=>tx σ H2 fun z H3=>∃o,DGet H3 a y o∧Q (o.getD z) H3
noncomputable def tDPop1 (td ty:TE):TE:=fun σ H Q=>td σ H fun x H1=>∃a,x=.ref a∧IsD H1 a∧ty σ H1 fun y H2=>∃kvs k v,H2 a=some (.dK kvs)∧y=kV k∧valV kvs k=some v∧Q v (upd H2 a (.dK (dropK kvs k)))
noncomputable def tDPop2 (td ty tx:TE):TE:=fun σ H Q=>td σ H fun x H1=>∃a,x=.ref a∧IsD H1 a∧ty σ H1 fun y H2=>tx σ H2 fun z H3=>∃kvs k,H3 a=some (.dK kvs)∧y=kV k∧
 (∀v,valV kvs k=some v→Q v (upd H3 a (.dK (dropK kvs k))))∧(valV kvs k=none→Q z H3)
section
variable {X:Cx} {o e f:Expr} {apos cpos:Pos} {td ty tx:TE}
theorem pe_dget2 (hu:X.A.units+1<cLine) (ho:PE X o td) (he:PE X e ty) (hf:PE X f tx) (m:M2 X o "get" apos e f cpos):PE X (.Call (.Attribute o "get" apos) [e,f] [] cpos) (tDGet2 td ty tx):=by
 intro pins s σ H Q I h
 refine wpAny_Call_method m.base m.few m.line PySem.F.plainAttrs_dict PySem.F.slot_dict_get PySem.F.type_dict_get (thn (ho pins s σ H _ I h) fun u s1 hpat=>?_)
 obtain ⟨x,H1,I1,rx,a,ex,d,q1⟩:=hpat
 subst ex
 obtain rfl:u=Value.ref a:=rx
 obtain ⟨t1,t2,_⟩:=isD_at I1 d
 refine ⟨t1,t2,?_⟩
 rw [m.trees]
 refine Calls.callWith_builtin rfl (Calls.evalArgs_plain (Calls.spliced_cons (thn (he pins s1 σ H1 _ I1 q1) fun iv s2 ⟨y,H2,I2,ry,q2⟩=>
  Calls.spliced_cons (thn (hf pins s2 σ H2 _ I2 q2) fun fv s3 ⟨z,H3,I3,rz,ov,g,q3⟩=>Calls.spliced_nil ?_))))
 exact d_get2 hu I3 g ry rz fun w' s4 I4 rw'=>⟨_,H3,I4,rw',q3⟩
end
section
variable {X:Cx} {pins:List (Addr×Obj)} {σ:St} {H:Hp} {s:Shared} {a:Addr} {kvs:List (Key×V)} {A:Around} {E:Value→Shared→Prop}
end
section
variable {X:Cx} {pins:List (Addr×Obj)} {σ:St} {H:Hp} {s:Shared} {a:Addr} {y:V} {u:Value} {A:Around} {E:Value→Shared→Prop}
end
section
variable {X:Cx}
end
section
variable {κ:Type} [DecidableEq κ]
end
noncomputable def Its (x:Str):It:=⟨fun i _=>i<x.cps.size,fun i H v H'=>H'=H∧∃c,x.cps[i]?=some c∧v=.str ⟨#[c]⟩,fun i _=>x.cps.size≤i⟩
noncomputable def iStr (tl:TE):TI:=fun σ H R=>tl σ H fun v H1=>∃x,v=.str x∧R (Its x) H1
section
variable {X:Cx} {tg:Expr}
theorem all_range {bs:List Bool}:(List.range bs.length).all (fun i=>bs.getD i true)=bs.all id:=by
 rw [Bool.eq_iff_iff,List.all_eq_true,List.all_eq_true]
 constructor
 ·intro h b hb
  obtain ⟨i,hi,rfl⟩:=List.mem_iff_getElem.mp hb
  have q:=h i (List.mem_range.mpr hi)
  rw [List.getD_eq_getElem?_getD,List.getElem?_eq_getElem hi] at q
  exact q
 ·intro h i hi
  have hi:=List.mem_range.mp hi
  have q:=h bs[i] (List.getElem_mem hi)
  rw [List.getD_eq_getElem?_getD,List.getElem?_eq_getElem hi]
  exact q
theorem call_all (hc:X.calm=true):CallR X (.builtin "all") (fun xs H Q=>∃(p:Addr) (bs:List Bool),xs=[.ref p]∧SqL X.K H p (bs.map V.bl)∧Q (.bl (bs.all id)) H):=by
 intro pins s σ H xs us Q I r h
 obtain ⟨p,bs,rfl,hq,q⟩:=h
 obtain ⟨u,rfl,ru⟩:=vals1 r
 cases ru
 obtain ⟨its,rv,pl,hz⟩:=I.list hq
 have hl:=rv.length
 rw [List.length_map] at hl
 have hlt:p<s.heap.objs.size:=by
  obtain ⟨o,n,e,_⟩:=pl
  exact Heap.lt_size e
 have hh:X.A.in1.handled=none:=by simpa using I.ok.hd hc
 refine call_all_walk (wpAny_pyIter_list pl.isList ⟨s.heap.objs.size,_,_,_,_,_,fun i=>bs.getD i true,rfl,Walks.list hh _ p (Nat.ne_of_lt hlt) its.toArray,⟨⟨_,Heap.get?_push_size _ rfl,rfl,rfl⟩,pl.isList.push _⟩,fun i v s' Q' E' hv hQ=>?_,fun h' tk kp=>?_⟩)
 ·have hv':its[i]?=some v:=by simpa using hv
  have hi:i<bs.length:=by rw [hl];exact (List.getElem?_eq_some_iff.mp hv').1
  obtain ⟨u,hu,ru⟩:=rv.get (i:=i) (x:=.bl bs[i]) (by rw [List.getElem?_map,List.getElem?_eq_getElem hi];rfl)
  rw [hv'] at hu
  cases hu
  cases (show v=Value.bool bs[i] from ru)
  have e:bs.getD i true=bs[i]:=by rw [List.getD_eq_getElem?_getD,List.getElem?_eq_getElem hi];rfl
  simp only [e] at hQ
  exact wpAny_truthy_bool hQ
 ·have e:(List.range its.toArray.size).all (fun i=>bs.getD i true)=bs.all id:=by
   rw [List.size_toArray,←hl]
   exact all_range
  simp only [e]
  refine ⟨.bl (bs.all id),H,I.kept fun b o eb=>kp b o ?_ (Heap.get?_push_of_some _ eb),rfl,q⟩
  intro hb
  rw [List.mem_singleton.mp hb] at eb
  exact absurd (Heap.lt_size eb) (Nat.lt_irrefl _)
noncomputable def rJoin (K:PySem.W.Frag):V→List V→Hp→VK→Prop:=fun x vs H Q=>∃(z:Str) (p:Addr) (ys:List Str),x=.str z∧vs=[.ref p]∧SqL K H p (ys.map V.str)∧(ys.map (·.length)).sum+ys.length * z.length≤16777216∧Q (.str (Txt.join z ys)) H
noncomputable def okV:V→Bool
 | .flt _=>false
 | .byt _=>false
 | .ty _=>false
 | _=>true
end
section
variable {X:Cx}
noncomputable def rNeSame (K:PySem.W.Frag):R2:=fun x y H Q=>∃a b xs,x=.ref a∧y=.ref b∧SqL K H a xs∧SqL K H b xs∧xs.all okV=true∧Q (.bl false) H
end
section
variable {prog:Program} {w:World} {A:Around} {E:Value→Shared→Prop} {s:Shared}
end
section
variable {X:Cx} {o e:Expr} {to te:TE} {lo hi:Option Expr} {tl th:TO} {pos p2:Pos}
noncomputable def gSlc (to:TE) (tl th:TO):TG:=fun v σ H Q=>to σ H fun ov H1=>tl σ H1 fun l H2=>th σ H2 fun u H3=>∃(p b:Addr) (xs ys:List V) (a c:Nat),ov=.ref p∧v=.ref b∧l=some (a:Int)∧u=some (c:Int)∧H3 p=some (.lst xs)∧H3 b=some (.lst ys)∧p≠b∧a≤c∧a≤xs.length∧
 xs.length+ys.length≤sizeLine∧Q σ (upd H3 p (.lst (xs.take a++ys++xs.drop (min c xs.length))))
end
section
open PySem.AutoSeq1 (wpAny_loadPart')
open PySem.MeetsSeq PySem.MeetsSeq2 PySem.MeetsSeq3
end
section
variable {X:Cx}
noncomputable def rRepT (K:PySem.W.Frag):R2:=fun x y H Q=>∃(a:Addr) (xs:List V),x=.ref a∧y=.int 4∧SqT K H a xs∧xs≠[]∧xs.length≤10∧∀p,H p=none→Q (.ref p) (upd H p (.tup (xs++xs++xs++xs)))
end
theorem laid_same {H H1:Hp} {p:Addr} {o:HO} (h:upd H p o=H1) (n:H p=none):Same H H1:=h ▸ same_laid n o
theorem laid_at {H H1:Hp} {p:Addr} {o:HO} (h:upd H p o=H1):H1 p=some o:=h ▸ upd_same
theorem laid_pen {H H1:Hp} {p a:Addr} {o:HO} (h:upd H p o=H1) (n:H p=none) (hp:PenAt H a):PenAt H1 a∧Grw a H H1∧p≠a∧hide a H1 p=some o:=by
 subst h
 exact ⟨hp.laid n,grw_laid n,hp.ne n,by rw [hide_ne (hp.ne n)];exact upd_same⟩
theorem PenAt.grw {H H':Hp} {a:Addr} (h:PenAt H a) (g:Same H H'):Grw a H H':=by
 obtain ⟨p,q,r,e⟩:=h
 exact grw_same e g
inductive Kd (H:Hp):V→String→Prop
 | non:Kd H .non "NoneType"
 | bl (b:Bool):Kd H (.bl b) "bool"
 | int (i:Int):Kd H (.int i) "int"
 | str (z:Str):Kd H (.str z) "str"
 | lst {a:Addr} {xs:List V} (e:H a=some (.lst xs)):Kd H (.ref a) "list"
 | tup {a:Addr} {xs:List V} (e:H a=some (.tup xs)):Kd H (.ref a) "tuple"
 | dK {a:Addr} {kvs:List (Key×V)} (e:H a=some (.dK kvs)):Kd H (.ref a) "dict"
theorem Kd.ty {K:PySem.W.Frag} {H:Hp} {x:V} {T:String} (h:Kd H x T):TyOf K H x (.type T):=by
 cases h with
 | non=>exact .non
 | bl b=>exact .bl b
 | int i=>exact .int i
 | str z=>exact .str z
 | lst e=>exact .lst e
 | tup e=>exact .tup e
 | dK e=>exact .dK e
noncomputable def kds:List String:=["NoneType","bool","int","str","list","tuple","dict"]
noncomputable def kus:List String:=["int","bool","str","list","tuple"]
noncomputable def isKd (T U:String):Bool:=(T == U) || (T == "bool" && U == "int")
theorem kit_all:∀T∈kds,∀U∈kus,kitT T U=some (isKd T U):=by decide +kernel
theorem Kd.mem {H:Hp} {x:V} {T:String} (h:Kd H x T):T∈kds:=by cases h <;> decide
theorem Kd.kit {K:PySem.W.Frag} {H:Hp} {x:V} {T U:String} {b:Bool} (h:Kd H x T) (hU:U∈kus) (e:isKd T U=b):PySem.W.kitOne K (.type T) (.type U)=some b:=by
 subst e
 exact kit_t (kit_all T h.mem U hU)
noncomputable def whV:V→Bool
 | .int _=>true
 | _=>false
noncomputable def wF:V→Int→Bool
 | .int i,l=>decide (l≤i)
 | _,_=>false
theorem Kd.wh {H:Hp} {x:V} {T:String} (h:Kd H x T):(isKd T "int" && !isKd T "bool")=whV x:=by
 cases h <;> (first | rfl | (simp [isKd,whV]))
noncomputable def letters:Str:="abcdefghijklmnopqrstuvwxyz"
noncomputable def sgB (c:Nat):Bool:=!(Builtin.Str.occurrences letters ⟨#[c]⟩ 0 letters.length 1).isEmpty
noncomputable def mkS (z:Str):Bool:=decide (1≤z.length) && decide (z.length≤8) && z.cps.toList.all sgB
noncomputable def mkB:V→Bool
 | .str z=>mkS z
 | _=>false
inductive ThB (H:Hp):V→Bool→Prop
 | no {x:V} {T:String} (h:Kd H x T) (e:isKd T "tuple"=false):ThB H x false
 | len {a:Addr} {xs:List V} (h:H a=some (.tup xs)) (e:xs.length≠4):ThB H (.ref a) false
 | four {a:Addr} {d m n k:V} {T1 T2 T3 T4:String} {b:Bool} (h:H a=some (.tup [d,m,n,k])) (h1:Kd H d T1) (h2:Kd H m T2) (h3:Kd H n T3) (h4:Kd H k T4) (hm:∀z,m=.str z→z.length≤1000)
   (e:(wF d 0 && (mkB m && (wF n 0 && wF k 1)))=b):ThB H (.ref a) b
inductive ThBs (H:Hp):List V→List Bool→Prop
 | nil:ThBs H [] []
 | cons {x:V} {xs:List V} {b:Bool} {bs:List Bool}:ThB H x b→ThBs H xs bs→ThBs H (x::xs) (b::bs)
inductive StB (H:Hp):V→Bool→Prop
 | no {x:V} {T:String} (h:Kd H x T) (e:isKd T "list"=false):StB H x false
 | lst {a:Addr} {xs:List V} {bs:List Bool} {b:Bool} (h:H a=some (.lst xs)) (t:ThBs H xs bs) (l:xs.length≤1000) (e:bs.all id=b):StB H (.ref a) b
theorem pick {H:Hp} {p:Addr} {xs:List V} {d:Int} (e:H p=some (.lst xs)) (h0:0≤d) (h1:d<xs.length):∃v,atI xs d=some v∧v∈xs:=atI_in h0 h1
theorem hSqT {K:PySem.W.Frag} {H:Hp} {a c:Addr} {xs:List V} (h:hide a H c=some (.tup xs)):SqT K H c xs:=SqT.of (hide_some h).2
theorem hSqL {K:PySem.W.Frag} {H:Hp} {a c:Addr} {xs:List V} (h:hide a H c=some (.lst xs)):SqL K H c xs:=SqL.of (hide_some h).2
noncomputable def CallKR (X:Cx) (f:Value) (ks:List Str) (r:List V→List V→Hp→VK→Prop):Prop:=
 ∀(pins:List (Addr×Obj)) (s:Shared) (σ:St) (H:Hp) (xs zs:List V) (us ws:List Value) (Q:VK),Inv X pins σ H s→Vals xs us→Vals zs ws→r xs zs H Q→
  wpAny (model X.prog X.w) X.A (call f us (ks.zip ws)) (EP X pins σ Q) X.xe s
noncomputable def tCBK (r:List V→List V→Hp→VK→Prop) (t tk:TA):TE:=fun σ H Q=>t σ H fun vs H1=>tk σ H1 fun zs H2=>r vs zs H2 Q
section
variable {X:Cx} {x:Str} {p pos:Pos} {e:Expr} {es:List Expr} {kws:List Keyword} {ks:List Str} {t tk:TA} {id:String} {r:List V→List V→Hp→VK→Prop}
end
section
variable {prog:Program} {w:World} {A:Around} {E:Value→Shared→Prop} {s:Shared} {T:String} {r d:Addr} {n:Nat} {P:Nat→Value→Prop} {OK:Heap→Prop}
noncomputable def ColEnd (s:Shared) (P:Nat→Value→Prop) (n:Nat) (q:Result) (s':Shared):Prop:=
 ∃(g:Heap) (tk c:Nat) (xs:Array Value),q=.ok (.ret (.ref s.heap.objs.size))∧s'={s with heap:=g,toks:=tk}∧(∀b o,s.heap.get? b=some o→g.get? b=some o)∧g.get? s.heap.objs.size=some {cls:=.type "list",dict:=none,data:=.seq xs c,slots:=#[]}∧ItemsOf P xs n
theorem collect_src {R:List Value→Shared→Prop} (K:PySem.W.KdlSrc prog w T r d n P OK) (hh:A.handled=none) (hok:OK s.heap) (hn:n≤sizeLine)
  (h:∀(g:Heap) (tk:Nat) (xs:Array Value),(∀b o,s.heap.get? b=some o→g.get? b=some o)→s.heap.objs.size<g.objs.size→ItemsOf P xs n→R xs.toList {s with heap:=g,toks:=tk}):wpAny (model prog w) A (collect (.ref r)) R E s:=by
 obtain ⟨lt1,lt2⟩:=K.there _ hok
 unfold collect
 refine wpAny_bind (wpAny_runValue (codeAny_builtin entry_proto_collect' ?_));rw [Around.under_plainId PySem.F.plain_proto_collect _]
 refine wpAny_bind (m:=newList []) (wpAny_newObj_type (wpAny_pure ⟨plainId_quiet PySem.F.plain_list_iadd _,codeAny_builtin entry_list_iadd' ?_⟩));rw [Around.under_plainId PySem.F.plain_list_iadd _]
 have own:(s.heap.push {cls:=.type "list",data:=.seq ([]:List Value).toArray}).get? s.heap.objs.size=some {cls:=.type "list",data:=.seq #[]}:=Heap.get?_push_size _ rfl
 have run:=PySem.W.kdl_extend (A:=A) (s:={s with heap:=s.heap.push {cls:=.type "list",data:=.seq ([]:List Value).toArray}}) (R:=ColEnd s P n) K hh (K.keep _ _ hok fun _ _ _ e=>Heap.get?_push_of_some _ e) s.heap.objs.size (Nat.ne_of_gt lt1) (Nat.ne_of_gt lt2) (.ref s.heap.objs.size) 0 own
  (fun g tk xs c hk hS hx=>⟨g,tk,c,xs,rfl,rfl,fun b o e=>hk b o (Nat.ne_of_lt (Heap.lt_size e)) (Heap.get?_push_of_some _ e),hS,hx⟩) hn
 refine wpAny_mono run (fun fin s' y=>?_) (fun _ _ y=>by obtain ⟨_,_,_,_,e,_⟩:=y;cases e)
 cases fin with
 | done f=>
  obtain ⟨g,tk,c,xs,e,rfl,hk,hS,hx⟩:=y
  cases e
  exact wpAny_bind (m:=load s.heap.objs.size) (wpAny_load hS (wpAny_pure (h g tk xs hk (Heap.lt_size hS) hx)))
 | again c1=>
  refine ⟨y.1,codeAny_mono y.2 fun q s2 z=>?_⟩
  obtain ⟨g,tk,c,xs,rfl,rfl,hk,hS,hx⟩:=z
  exact wpAny_bind (m:=load s.heap.objs.size) (wpAny_load hS (wpAny_pure (h g tk xs hk (Heap.lt_size hS) hx)))
end
noncomputable def vView (a d:Addr):HO:=.ext fun h=>h.IsValuesView a d
noncomputable def iView (a d:Addr):HO:=.ext fun h=>h.IsItemsView a d
section
variable {X:Cx} {pins:List (Addr×Obj)} {σ:St} {H:Hp} {s:Shared}
noncomputable def rView (w:Addr→Addr→HO):V→List V→Hp→VK→Prop:=fun x vs H Q=>∃d kvs,x=.ref d∧vs=[]∧H d=some (.dK kvs)∧∀a,H a=none→Q (.ref a) (upd H a (w a d))
noncomputable def rSortRV:List V→List V→Hp→VK→Prop:=fun xs zs H Q=>∃(v d:Addr) (kvs:List (Key×V)) (ns:List Int),xs=[.ref v]∧zs=[.bl true]∧H v=some (vView v d)∧H d=some (.dK kvs)∧kvs.map (·.2)=ns.map V.int∧ns.length<64∧
 ∀(p:Addr) (ms:List Int),H p=none→ms.Perm ns→ms.Pairwise (· ≥ ·)→Q (.ref p) (upd H p (.lst (ms.map V.int)))
inductive PairsAt (H:Hp):List V→List (Key×V)→Prop
 | nil:PairsAt H [] []
 | cons {a:Addr} {xs:List V} {k:Key} {v:V} {kvs:List (Key×V)} (h:H a=some (.tup [kV k,v])) (r:PairsAt H xs kvs):PairsAt H (.ref a::xs) ((k,v)::kvs)
noncomputable def over (H:Hp) (n:Nat) (L:Hp):Hp:=fun b=>if b<n then H b else L b
theorem over_old {H L:Hp} {n:Nat} {b:Addr} (h:b<n):over H n L b=H b:=if_pos h
theorem over_new {H L:Hp} {n:Nat} {b:Addr} (h:n≤b):over H n L b=L b:=if_neg (Nat.not_lt.mpr h)
theorem Inv.over {L:Hp} {g:Heap} {t':Nat} (I:Inv X pins σ H s) (k:∀b u,s.heap.get? b=some u→g.get? b=some u) (new:∀b o,s.heap.objs.size≤b→L b=some o→ObjOk X.prog X.w (over H s.heap.objs.size L) g b o):
  Inv X pins σ (L2.over H s.heap.objs.size L) {s with heap:=g,toks:=t'}∧Same H (L2.over H s.heap.objs.size L):=by
 have old:∀b o,H b=some o→L2.over H s.heap.objs.size L b=some o:=fun b o e=>by rw [over_old (I.hok b o e).lt];exact e
 have fre:∀b u,s.heap.get? b=some u→H b=none→L2.over H s.heap.objs.size L b=none:=fun b u e n=>by rw [over_old (Heap.lt_size e)];exact n
 refine ⟨I.un ⟨fun b u e _ _ _=>k b u e,fun b u e _ _ _=>⟨u.slots,k b u e⟩,fun b u e n _=>fre b u e n,fun b u e _=>⟨u,k b u e⟩,fun b xs e=>old b _ e,fun b o u e=>old b _ e,fun b ps e=>⟨#[],by rw [old b _ e];simp⟩⟩ ?_,old⟩
 intro b o e
 by_cases hb:b<s.heap.objs.size
 ·rw [over_old hb] at e
  exact (I.hok b o e).stay (fun c u _ q=>k c u q) (fun c q=>old c _ q) fun c xs q=>old c _ q
 ·have hb:=Nat.not_lt.mp hb
  rw [over_new hb] at e
  exact new b o hb e
theorem refs_vals:∀as:List Addr,Vals (as.map V.ref) (as.map Value.ref)
 | []=>.nil
 | _::as=>.cons rfl (refs_vals as)
noncomputable def rListI:List V→Hp→VK→Prop:=fun xs H Q=>∃(v d:Addr) (kvs:List (Key×V)),xs=[.ref v]∧H v=some (iView v d)∧H d=some (.dK kvs)∧kvs.length≤1000∧∀(H':Hp) (p:Addr) (ys:List V),Same H H'→H p=none→H' p=some (.lst ys)→PairsAt H' ys kvs→Q (.ref p) H'
noncomputable def tRev (K:PySem.W.Frag) (te ts:TE):TE:=fun σ H Q=>te σ H fun x H1=>ts σ H1 fun y H2=>∃(a:Addr) (xs:List V),x=.ref a∧y=.int (-1)∧SqL K H2 a xs∧∀p,H2 p=none→Q (.ref p) (upd H2 p (.lst xs.reverse))
theorem pe_rev {e st:Expr} {te ts:TE} {pos p2:Pos} (he:PE X e te) (hs:PE X st ts):PE X (.Subscript e (.Slice none none (some st) p2) pos) (tRev X.K te ts):=by
 intro pins s σ H Q I h
 refine Subscript_ (thn (he pins s σ H _ I h) fun v s1 hpat=>?_)
 obtain ⟨x,H1,I1,r1,q1⟩:=hpat
 refine wpAny_Slice ?_
 rw [evalPart_none]
 refine wpAny_pure (wpAny_pure ?_)
 rw [evalPart_some]
 refine thn (hs pins s1 σ H1 _ I1 q1) fun vk s2 hpat=>?_
 obtain ⟨y,H2,I2,r2,q2⟩:=hpat
 obtain ⟨a,xs,rfl,rfl,hx,q⟩:=q2
 cases r1
 obtain ⟨t,rfl⟩:=r2
 have I4:Inv X pins σ H2 {s2 with heap:=s2.heap.push {cls:=.type "slice",data:=.fields #[.none,.none,.int (-1) t]}}:=I2.kept (t':=s2.toks) fun b ob q=>Heap.get?_push_of_some _ q
 obtain ⟨its,r,ht,hz⟩:=I4.list hx
 have hlen:=r.length
 show wpAny (model X.prog X.w) X.A (subscriptTail e (.Slice none none (some st) p2) (.ref a) (.ref s2.heap.objs.size)) (EP X pins σ Q) X.xe {s2 with heap:=s2.heap.push {cls:=.type "slice",data:=.fields #[.none,.none,.int (-1) t]}}
 refine tail_any (ops:=[.ref a,.ref s2.heap.objs.size]) ht.isList.typeIs slot_list_getitem.lookup ?_ (by with_unfolding_all rfl)
 refine wpAny_getItem_list_slice ht.isList (Heap.IsSliceOf.new ..) .none .none (.int (-1) t) (by decide) ?_ (by rw [List.size_toArray];omega)
 rw [PySem.W.krv_pick]
 refine ⟨.ref _,_,I4.laid (t':=s2.toks) (o:=.lst xs.reverse) (fun b ob q=>Heap.get?_push_of_some _ q) (Nat.le_refl _) ?_,rfl,q _ (I4.hok.fresh (Nat.le_refl _))⟩
 exact ⟨by rw [List.length_reverse];exact hz,its.reverse,0,r.reverse,Heap.get?_push_size _ rfl⟩
noncomputable def tFrz (t:TE):TE:=fun σ H Q=>∃(d:Addr) (kvs:List (Key×V)),H d=some (.dK kvs)∧∀o,t σ (upd H d (.frz o (.dK kvs))) fun v H2=>H2 d=some (.frz o (.dK kvs))∧Q v (upd H2 d (.dK kvs))
noncomputable def frzE (D:Ends) (d:Addr) (kvs:List (Key×V)) (o:Obj):Ends where
 nx:=fun σ2 H2=>H2 d=some (.frz o (.dK kvs))∧D.nx σ2 (upd H2 d (.dK kvs))
 rt:=fun v H2=>H2 d=some (.frz o (.dK kvs))∧D.rt v (upd H2 d (.dK kvs))
 bk:=fun σ2 H2=>H2 d=some (.frz o (.dK kvs))∧D.bk σ2 (upd H2 d (.dK kvs))
 ct:=fun σ2 H2=>H2 d=some (.frz o (.dK kvs))∧D.ct σ2 (upd H2 d (.dK kvs))
noncomputable def sFrz (t:TS):TS:=fun D σ H=>∃(d:Addr) (kvs:List (Key×V)),H d=some (.dK kvs)∧∀o,t (frzE D d kvs o) σ (upd H d (.frz o (.dK kvs)))
noncomputable def Itd (d:Addr) (kvs:List (Key×V)) (o:Obj):It:=⟨fun i H=>i<kvs.length∧H d=some (.frz o (.dK kvs)),fun i H x H'=>H'=H∧∃p,kvs[i]?=some p∧x=kV p.1,fun i H=>kvs.length≤i∧H d=some (.frz o (.dK kvs))⟩
noncomputable def iDict (tl:TE):TI:=fun σ H R=>tl σ H fun x H1=>∃(d:Addr) (o:Obj) (kvs:List (Key×V)),x=.ref d∧H1 d=some (.frz o (.dK kvs))∧R (Itd d kvs o) H1
noncomputable def rCount (K:PySem.W.Frag):V→List V→Hp→VK→Prop:=fun x vs H Q=>∃(p:Addr) (ns:List Int) (n:Int),x=.ref p∧vs=[.int n]∧SqL K H p (ns.map V.int)∧Q (.int (ns.count n:Nat)) H
end
noncomputable def CDivB (i j:Int):Prop:=0<j∧j<1000000000000000000000000000000000000000000000000000000000000
theorem op_fdivB {X:Cx}:OpR X (binaryOp .FloorDiv) (rI CDivB fun i j=>.int (i / j)):=opI fun i j _ _ _ _ _ hc q=>by
 have h1:(0:Int)<j:=hc.1
 have h2:j<1000000000000000000000000000000000000000000000000000000000000:=hc.2
 refine floordiv_int (by omega) (by rw [Int.fdiv_eq_ediv_of_nonneg i (by omega)];exact q) (.inl (PyProof.noPylong_of_log2 ?_))
 have hn:j.natAbs≠0:=by omega
 have hl:j.natAbs<2 ^ 400:=Nat.lt_of_lt_of_le (show j.natAbs<1000000000000000000000000000000000000000000000000000000000000 by omega) (by decide +kernel)
 exact Nat.lt_trans ((Nat.log2_lt hn).mpr hl) (by decide)
noncomputable def leS (a b:Str):Bool:=!decide (b.cps.toList<a.cps.toList)
noncomputable def srtS (zs:List Str):List Str:=zs.mergeSort leS
section
variable {X:Cx}
noncomputable def rSortD:List V→Hp→VK→Prop:=fun xs H Q=>∃(d:Addr) (kvs:List (Key×V)) (zs:List Str),xs=[.ref d]∧H d=some (.dK kvs)∧kvs.map (·.1)=zs.map Sum.inr∧zs.length<64∧∀p,H p=none→Q (.ref p) (upd H p (.lst ((srtS zs).map V.str)))
end
noncomputable def srtI (ns:List Int):List Int:=ns.mergeSort fun a b=>decide (a≤b)
section
variable {X:Cx}
noncomputable def rSortI (K:PySem.W.Frag):List V→Hp→VK→Prop:=fun xs H Q=>∃(p:Addr) (ns:List Int),xs=[.ref p]∧SqL K H p (ns.map V.int)∧ns.length<64∧∀q,H q=none→Q (.ref q) (upd H q (.lst ((srtI ns).map V.int)))
noncomputable def rSortS (K:PySem.W.Frag):List V→Hp→VK→Prop:=fun xs H Q=>∃(p:Addr) (zs:List Str),xs=[.ref p]∧SqL K H p (zs.map V.str)∧zs.length<64∧∀q,H q=none→Q (.ref q) (upd H q (.lst ((srtS zs).map V.str)))
end
theorem no_keys_list:typeLookup (.type "list") "keys"=pure none:=am_miss_of_fast (by decide +kernel)
theorem no_keys_tuple:typeLookup (.type "tuple") "keys"=pure none:=am_miss_of_fast (by decide +kernel)
theorem entry_dloop:entryFor table "dict.update.loop"=some Builtin.«dict.update.loop»:=entryFor_of_tree (by kernel_rfl)
theorem plain_dloop:plainId "dict.update.loop"=true:=by decide +kernel
section
variable {prog:Program} {w:World} {A:Around} {E:Value→Shared→Prop} {s:Shared}
theorem keysT {a:Addr} {xs:Array Value} {k:Nat} {sl:Array (Option Value)} {Q:Option Value→Shared→Prop} (hx:s.heap.get? a=some {cls:=.type "tuple",dict:=none,data:=.seq xs k,slots:=sl}) (hA:A.handled=none)
  (h:∀g tk,(∀b o,s.heap.get? b=some o→g.get? b=some o)→Q none {s with heap:=g,toks:=tk}):wpAny (model prog w) A (getAttr? (.ref a) "keys") Q E s:=by
 obtain ⟨hp,g,d,tk,os⟩:=s
 have hT:∀tk',(⟨hp,g,d,tk',os⟩:Shared).TypeIs (.ref a) "tuple":=fun _=>⟨_,hx,rfl⟩
 have f1:=sub_AttributeError
 have f3:=F.slot_tuple_getattribute.lookup
 have f4:=F.slot_tuple_getattribute.bind (.ref a)
 have f5:=am_tuple_getattr_none
 unfold getAttr? getAttrBy? getAttrBy
 repeat (any_goals (first | assumption | exact hT _ | ((with_reducible show wpAny _ _ (call (Value.builtin "tuple.__getattribute__") _ _) _ _ _);refine call_meets F.slot_tuple_getattribute (hT _) am_entry_tuple_getattribute (F.args_tuple_getattribute_2 _ _) (meets_getattribute_miss_tuple a xs k sl "keys" _ no_keys_tuple (by decide +kernel) (by decide +kernel)) ⟨hx,by simpa using hA,fun h' tk' e hx'=>?_⟩) | wp_step))
 obtain ⟨t',u',he⟩:=hx'.there
 show wpAny _ _ (getattributeRaised _ _ _ _ _ _ _) _ _ _
 unfold getattributeRaised
 repeat (any_goals (first | assumption | wp_step))
 exact h _ _ hx'.keeps
theorem keysL {a:Addr} {xs:Array Value} {k:Nat} {sl:Array (Option Value)} {Q:Option Value→Shared→Prop} (hx:s.heap.get? a=some {cls:=.type "list",dict:=none,data:=.seq xs k,slots:=sl}) (hA:A.handled=none)
  (h:∀g tk,(∀b o,s.heap.get? b=some o→g.get? b=some o)→Q none {s with heap:=g,toks:=tk}):wpAny (model prog w) A (getAttr? (.ref a) "keys") Q E s:=by
 obtain ⟨hp,g,d,tk,os⟩:=s
 have hT:∀tk',(⟨hp,g,d,tk',os⟩:Shared).TypeIs (.ref a) "list":=fun _=>⟨_,hx,rfl⟩
 have f1:=sub_AttributeError
 have f3:=F.slot_list_getattribute.lookup
 have f4:=F.slot_list_getattribute.bind (.ref a)
 have f5:=am_list_getattr_none
 unfold getAttr? getAttrBy? getAttrBy
 repeat (any_goals (first | assumption | exact hT _ | ((with_reducible show wpAny _ _ (call (Value.builtin "list.__getattribute__") _ _) _ _ _);refine call_meets F.slot_list_getattribute (hT _) am_entry_list_getattribute (F.args_list_getattribute_2 _ _) (meets_getattribute_miss_list a xs k sl "keys" _ no_keys_list (by decide +kernel) (by decide +kernel)) ⟨hx,by simpa using hA,fun h' tk' e hx'=>?_⟩) | wp_step))
 obtain ⟨t',u',he⟩:=hx'.there
 show wpAny _ _ (getattributeRaised _ _ _ _ _ _ _) _ _ _
 unfold getattributeRaised
 repeat (any_goals (first | assumption | wp_step))
 exact h _ _ hx'.keeps
noncomputable def PairT {κ:Type} [DecidableEq κ] (knd:PySem.KeyKind prog w κ) (h:Heap) (p:κ×Value) (v:Value) (no:List Addr):Prop:=
 ∃a o key n,v=.ref a∧a∉no∧h.get? a=some o∧o.cls=.type "tuple"∧o.data=.seq #[key,p.2] n∧knd.is p.1 key=true
end
section
variable {X:Cx} {pins:List (Addr×Obj)} {σ:St} {H:Hp} {s:Shared}
noncomputable def rDictL (K:PySem.W.Frag):List V→Hp→VK→Prop:=fun xs H Q=>∃(l:Addr) (ys:List V) (kvs:List (Key×V)),xs=[.ref l]∧SqL K H l ys∧PairsAt H ys kvs∧kvs.length≤1000∧∀p,H p=none→Q (.ref p) (upd H p (.dK (mergeK [] kvs)))
end
noncomputable abbrev Ps:=List (Str×Int)
noncomputable def kvOf (ps:Ps):List (Key×V):=ps.map fun p=>(Sum.inr p.1,V.int p.2)
noncomputable def nsOf (ps:Ps):List Int:=ps.map (·.2)
structure PsOk (ps:Ps):Prop where
 nd:(ps.map (·.1)).Nodup
 ok:∀p∈ps,PyData.strOk p.1=true
 len:ps.length≤50
noncomputable def pD (p:Str×Int):PyData:=.tuple [.str p.1,.int p.2]
structure Ty where
 room:Int
 cs:Ps
 lt:Int
 total:Int
noncomputable def Ty.D (t:Ty):PyData:=.tuple [.int t.room,.tuple (t.cs.map pD),.int t.lt,.int t.total]
noncomputable def Ty.sum (t:Ty):Int:=(nsOf t.cs).sum
structure Ty.Ok (t:Ty):Prop where
 room1:1≤t.room
 room2:t.room≤20
 nd:(t.cs.map (·.1)).Nodup
 rise:(t.cs.map (·.1)).Pairwise (fun a b=>leS a b=true)
 word:∀p∈t.cs,p.1∈words
 pos:∀p∈t.cs,1≤p.2
 len:(t.cs.length:Int)≤t.room
 lt0:0≤t.lt
 lo:(t.room+1) * t.lt≤t.total - t.sum
 hi:t.total - t.sum≤2 * t.room * t.lt
noncomputable def look (ps:Ps) (z:Str):Int:=match ps with
 | []=>0
 | p::r=>if p.1=z then p.2 else look r z
noncomputable def srtP (ps:Ps):Ps:=(srtS (ps.map (·.1))).map fun z=>(z,look ps z)
theorem perm_sum {l m:List Int} (p:l.Perm m):l.sum=m.sum:=by
 induction p with
 | nil=>rfl
 | cons x _ ih=>rw [List.sum_cons,List.sum_cons,ih]
 | swap x y l=>simp only [List.sum_cons];omega
 | trans _ _ a b=>exact a.trans b
theorem PenAt.tup {H:Hp} {a p:Addr} {xs:List V} (h:PenAt H a) (e:H p=some (.tup xs)):hide a H p=some (.tup xs):=by
 have ne:p≠a:=fun q=>by
  subst q
  obtain ⟨_,_,_,e'⟩:=h
  rw [e] at e'
  cases e'
 rw [hide_ne ne]
 exact e
noncomputable def rSlS:V→Option Int→Option Int→Hp→VK→Prop:=fun x lo hi H Q=>∃z,x=.str z∧z.length≤sizeLine∧Q (.str (Txt.slice z lo hi)) H
section
variable {X:Cx}
noncomputable def rDictT:List V→Hp→VK→Prop:=fun xs H Q=>∃(l:Addr) (ys:List V) (kvs:List (Key×V)),xs=[.ref l]∧H l=some (.tup ys)∧PairsAt H ys kvs∧kvs.length≤1000∧∀p,H p=none→Q (.ref p) (upd H p (.dK (mergeK [] kvs)))
end
noncomputable def srt (ns:List Int):List Int:=ns.mergeSort fun a b=>decide (b≤a)
noncomputable def cutM (room:Int) (ns:List Int):Int:=if (ns.length:Int)≤room then 0 else (srt ns).getD room.toNat 0
noncomputable def keysM (ps qs:Ps):List Str:=ps.map (·.1)++(qs.map (·.1)).filter fun z=>decide (z∉ps.map (·.1))
noncomputable def sumM (ps qs:Ps) (z:Str):Int:=look ps z+look qs z
noncomputable def cutT (room:Int) (ps qs:Ps):Int:=cutM room ((keysM ps qs).map (sumM ps qs))
noncomputable def csM (room:Int) (ps qs:Ps):Ps:=((srtS (keysM ps qs)).filter fun z=>decide (cutT room ps qs<sumM ps qs z)).map fun z=>(z,sumM ps qs z - cutT room ps qs)
noncomputable def mergeT (a b:Ty):Ty:=⟨a.room,csM a.room a.cs b.cs,a.lt+b.lt+cutT a.room a.cs b.cs,a.total+b.total⟩
noncomputable def Cx.ren (X:Cx) (N':List Str):Cx:={X with N:=N'}
noncomputable def Hid:List Str→List Str→St→Prop
 | [],[],[]=>True
 | a::N,b::N',o::σ=>(a=b∨o=none)∧Hid N N' σ
 | _,_,_=>False
section
variable {X:Cx} {N':List Str} {pins:List (Addr×Obj)} {σ:St} {H:Hp} {s:Shared}
noncomputable def tRen (N N':List Str) (t:TE):TE:=fun σ H Q=>Hid N N' σ∧t σ H Q
noncomputable def tForget (i:Nat) (t:TS):TS:=fun D σ H=>t D (σ.set i none) H
end
noncomputable def mrgP (ps qs:Ps):Ps:=(keysM ps qs).map fun z=>(z,sumM ps qs z)
theorem seq_post {t u:TS} {D:Ends} {σ:St} {H:Hp} (R:St→Hp→Prop) (main:∀nx:St→Hp→Prop,(∀σ' H',R σ' H'→nx σ' H')→t {D with nx:=nx} σ H) (fin:∀σ' H',R σ' H'→u D σ' H'):tSeq t u D σ H:=main _ fin
structure Fly (l:List Env) (a T:Addr) (cls:Value) (h:Heap):Prop where
 fr:∃B,h.FunFrames B l
 ne:T≠a
 ex:∃oe vs oT ts a0,h.get? a=some oe∧(oe.cls=cls∧vs[0]?=some a0)∧oe.data=.fields vs∧vs[1]?=some (.ref T)∧h.get? T=some oT∧oT.data=.fields ts∧ts[3]?=some .none
structure Kp (l:List Env) (a T:Addr) (h h':Heap):Prop where
 keep:∀b o,h.get? b=some o→b≠a→b≠T→b∉frs l→h'.get? b=some o
 slot:∀b o,h.get? b=some o→b∈frs l→∃sl,h'.get? b=some {o with slots:=sl}
noncomputable abbrev fb (l:List Env) (a T:Addr) (h:Heap):Heap:=PySem.W.hideAll h (a::T::frs l)
section
variable {M:Model} {A:Around} {E:Value→Shared→Prop} {s:Shared} {env:Env} {outer:List Env} {L a T:Addr} {cls:Value} {Q:Unit→Shared→Prop}
end
noncomputable def CX1 (P:Program) (w:World):CXT:=fun outer H s E e s'=>∃(a T C:Addr) (H':Hp),e=.ref a∧s'.os=s.os∧AllBare s'.gens∧Un (frs outer) [] H H' s.heap s'.heap∧HOk P w H' s'.heap∧
 Fly outer a T (.ref C) s'.heap∧s.heap.get? a=none∧s.heap.get? T=none∧H' a=none∧H' T=none∧E (.ref C) none H'
section
variable {P:Program} {w:World} {K:PySem.W.Frag} {mg:Str→Option Value} {base:Heap} {N:List Str} {qual:Str} {scope:Scope} {f:Addr} {cd:Value} {A:Around} {outer:List Env} {s:Shared} {H:Hp} {E:XK}
noncomputable abbrev cx1 (P:Program) (w:World) (K:PySem.W.Frag) (mg:Str→Option Value) (base:Heap) (N:List Str) (qual:Str) (scope:Scope) (f:Addr) (cd:Value) (A:Around) (outer:List Env) (s:Shared) (H:Hp) (E:XK):Cx:=cxOf (CX1 P w) P w K mg base N qual scope f cd A outer s H E
noncomputable def tRaise (C:Addr) (E:XK) (ta:TA):TS:=fun _ σ H=>ta σ H fun vs H1=>vs.length≤1000∧E (.ref C) none H1
end
structure HasX (P:Program) (w:World) (K:PySem.W.Frag) (mg:Str→Option Value) (base:Heap) (x:Str) (k:Nat) (ps:List Str) (sp:Sp):Prop where
 ex:∃f fd,FnOk P w K mg base (CX1 P w) k f fd ps sp∧Binds K fd ps []∧PySem.W.keepIn K (.ref f)=true∧mg x=some (.ref f)
section
variable {P:Program} {w:World} {K:PySem.W.Frag} {mg:Str→Option Value} {base:Heap} {N:List Str} {qual:Str} {scope:Scope} {f:Addr} {cd:Value} {A:Around} {outer:List Env} {s:Shared} {H:Hp} {E:XK}
variable {j k:Nat} {ps:List Str} {sp:Sp} {x:Str} {p pos:Pos} {e:Expr} {es:List Expr} {t:TA}
end
structure ExcK (K:PySem.W.Frag) (C:Addr):Prop where
 ga:PySem.W.findIn K (.ref C) "__getattribute__"=some (some (.builtin "BaseException.__getattribute__"))
 gr:PySem.W.findIn K (.ref C) "__getattr__"=some none
 cl:PySem.W.findIn K (.ref C) "__class__"=some (some (.builtin "object.__class__"))
 sb:PySem.W.subIn K (.ref C) (.type "BaseException")=some true
 so:PySem.W.subIn K (.ref C) (.type "object")=some true
 ob:∃oc od cdt sl,K.lookup C=some ⟨oc,od,.cls cdt,sl⟩
section
variable {prog:Program} {w:World} {A:Around} {E:Value→Shared→Prop} {h:Heap} {g:Array GenState} {d:Drawn} {t:Nat} {os:OsState} {a C:Addr} {o:Obj} {K:PySem.W.Frag}
end
noncomputable def xo (C a:Addr):HO:=.ext fun h=>∃o,h.get? a=some o∧o.cls=.ref C
noncomputable abbrev Cx.held (X:Cx) (a:Addr) (E:Value→Shared→Prop):Cx:={X with A:=X.A.mark (some (.ref a)),calm:=false,xe:=E}
section
variable {X:Cx} {pins:List (Addr×Obj)} {σ:St} {H:Hp} {s:Shared}
end
noncomputable def tTry (K:PySem.W.Frag) (S:Addr) (sp:Sp) (i:Nat) (ta:TA) (tb:TS):TS:=fun D σ H=>ta σ H fun vs H1=>sp vs H1 (fun _ H2=>D.nx σ H2) (fun cv _ H2=>∃C,cv=.ref C∧PySem.W.exmOne K (.ref C) (.ref S)=some true∧
 ∀a,H2 a=none→tb {nx:=fun σ' H3=>(∃v,σ'[i]?=some (some v))∧D.nx (σ'.set i none) H3,rt:=fun _ _=>False} (σ.set i (some (.ref a))) (upd H2 a (xo C a)))
section
variable {X:Cx} {x c n:Str} {p pos cpos epos np hpos:Pos} {e:Expr} {es:List Expr} {ta:TA} {tb:TS} {b₀:Stmt} {suite:List Stmt} {j k i:Nat} {ps:List Str} {sp:Sp} {S:Addr}
end
noncomputable def cVal:V→Value
 | .ref D=>.ref D
 | .ty T=>.type T
 | _=>.none
noncomputable def isCl:V→Bool
 | .ref _=>true
 | .ty _=>true
 | _=>false
inductive TyX (K:PySem.W.Frag) (H:Hp):V→Value→Prop
 | non:TyX K H .non (.type "NoneType")
 | exc {a C:Addr} (k:ExcK K C) (e:H a=some (xo C a)):TyX K H (.ref a) (.ref C)
noncomputable def rIsX (K:PySem.W.Frag):List V→Hp→VK→Prop:=fun xs H Q=>∃x c t b,xs=[x,c]∧TyX K H x t∧((isCl c=true∧PySem.W.kitOne K t (cVal c)=some b)∨∃tp cs,c=.ref tp∧H tp=some (.tup cs)∧cs.all isCl=true∧PySem.W.kitAny K t (cs.map cVal)=some b)∧Q (.bl b) H
noncomputable def Ty.zero (room:Int):Ty:=⟨room,[],0,0⟩
noncomputable def big:Int:=1000000000000000000000000000000000000000000000000000000000000000000000000000000
noncomputable def CMulB (i j:Int):Prop:=(-big<i∧i<big)∧-big<j∧j<big
theorem comp_tup {K:PySem.W.Frag} {a:Addr} {xs:List V} {k:Nat} {g:TG} {tt:TT} {te:TE} {σ:St} {H:Hp} {Q:VK} (Pv:Nat→List V→Hp→Prop) (h0:Pv 0 [] H) (hl:∀i ys H,i≤xs.length→Pv i ys H→SqT K H a xs)
  (hs:∀i x ys H (C:List V→Hp→Prop),xs[i]?=some x→Pv i ys H→(∀ys' H',Pv (i+1) ys' H'→C ys' H')→ys.length<sizeLine∧g x (List.replicate k none++σ) H fun σ2 H2=>Wk σ2 (List.replicate k none++σ)∧tt σ2 H2 fun ok H3=>
   if ok=true then te σ2 H3 fun y H4=>C (ys++[y]) H4 else C ys H3)
  (hd:∀ys H,Pv xs.length ys H→ys.length≤sizeLine∧∀p,H p=none→Q (.ref p) (upd H p (.lst ys))):
  CompR (Itt K a) H k g tt te σ Q:=by
 refine ⟨fun i m ys H=>m=xs.length - i∧i≤xs.length∧Pv i ys H,⟨xs.length,by simp,Nat.zero_le _,h0⟩,?_⟩
 rintro i m ys H ⟨rfl,hi,p⟩
 have q:=hl i ys H hi p
 by_cases hlt:i<xs.length
 ·have r:=hs i xs[i] ys H (fun ys' H'=>∃m',m'<xs.length - i∧m'=xs.length - (i+1)∧i+1≤xs.length∧Pv (i+1) ys' H') (by simp [hlt]) p fun ys' H' p'=>⟨_,by omega,rfl,hlt,p'⟩
  refine .inr ⟨⟨xs,xs[i],q,by simp [hlt]⟩,r.1,fun x H' y=>?_⟩
  obtain ⟨e,y⟩:=y
  subst e
  have ex:xs[i]?=some x:=y xs q
  have ex2:xs[i]=x:=by simpa [hlt] using ex
  rw [←ex2]
  exact r.2
 ·have e:i=xs.length:=by omega
  subst e
  exact .inl ⟨⟨xs,q,Nat.le_refl _⟩,hd ys H p⟩
section
variable {P:Program} {w:World} {K:PySem.W.Frag} {mg:Str→Option Value} {base:Heap} {CX:CXT} {k:Nat} {f:Addr} {fd:FuncData} {ps:List Str} {sp sp':Sp}
end
noncomputable def Cal (base:Heap) (f:Addr):Prop:=∃oc od fd sl,base.get? f=some ⟨oc,od,.func fd,sl⟩
noncomputable def tCallV (P:Program) (w:World) (K:PySem.W.Frag) (mg:Str→Option Value) (base:Heap) (k i:Nat) (t:TA):TE:=fun σ H Q=>∃(f:Addr) (fd:FuncData) (ps:List Str) (sp:Sp),σ[i]?=some (some (.ref f))∧FnOk P w K mg base CX0 k f fd ps sp∧Binds K fd ps []∧Cal base f∧
 t σ H fun vs H1=>sp vs H1 Q E0
section
variable {X:Cx} {k i:Nat} {x:Str} {p pos:Pos} {e:Expr} {es:List Expr} {t:TA}
end
noncomputable def crO (q:Str) (c:Addr):HO:=.ext fun h=>h.CodeRec (.ref c) q
structure LamAt (T:Addr) (pos:Pos) (q:Str) (H:Hp):Prop where
 tab:H T=some (.tbl #[])∨∃c,H T=some (.tbl #[rawInt pos.line,rawInt pos.col,.ref c])∧H c=some (crO q c)
noncomputable def lamCx (P:Program) (w:World) (K:PySem.W.Frag) (mg:Str→Option Value) (base:Heap) (N:List Str) (qual:Str) (sc:Scope) (f:Addr) (cd:Value) (cl:List (Str×Addr)) (A:Around) (outer:List Env) (s:Shared) (H:Hp):Cx where
 prog:=P
 w:=w
 K:=K
 mg:=mg
 base:=base
 A:=A.deeper (PySem.W.envX qual sc s.heap.objs.size f cd cl)
 N:=N
 s₀:=s
 H₀:=H
 env:=PySem.W.envX qual sc s.heap.objs.size f cd cl
 outer:=outer
 stack:=PySem.W.envX qual sc s.heap.objs.size f cd cl::outer
 ex:=[]
 calm:=true
 fn:=fun _=>false
 pn:=[]
 xe:=fun _ _=>False
structure LamScope (ps fr:List Str) (sc:Scope):Prop where
 kind:sc.kind=.function
 co:sc.isCoroutine=false
 gen:sc.isGenerator=false
 cell:∀x∈sc.names,x.2≠.cell
 par:∀x∈ps,sc.names.lookup x=some .local
 free:∀x,sc.names.lookup x=some .free→x∈fr
 fre:∀x∈fr,sc.names.lookup x=some .free
 nd:(ps++fr).Nodup
noncomputable def foO (ob:Obj) (a:Addr):HO:=.ext fun h=>h.get? a=some ob
noncomputable def tLam (T:Addr) (pos:Pos) (q:Str) (mk:Value→Addr→Value→Obj):TE:=fun σ H Q=>LamAt T pos q H∧∀(a c:Addr) (pm ctv:Value) (H':Hp),Same (hide T H) (hide T H')→H a=none→a≠c→H' T=some (.tbl #[rawInt pos.line,rawInt pos.col,.ref c])→H' c=some (crO q c)→
 H' a=some (foO (mk pm c ctv) a)→Q (.ref a) H'
section
variable {X:Cx} {params:Arguments} {body:Expr} {sc:Scope} {pos:Pos} {c T:Addr}
end
noncomputable def addB (base h:Heap) (as:List Addr):Heap:=PySem.W.hideAll h ((List.range h.objs.size).filter fun b=>(base.get? b).isNone && !decide (b∈as))
structure HasB (P:Program) (w:World) (K:PySem.W.Frag) (mg:Str→Option Value) (x:Str) (k:Nat) (ps:List Str) (sp:Heap→Sp):Prop where
 ex:∃f fd,(∀base:Heap,K.In base→base.Ns mainGlobals mg→FnOk P w K mg base CX0 k f fd ps (sp base))∧Binds K fd ps []∧PySem.W.keepIn K (.ref f)=true∧mg x=some (.ref f)
structure Wid (X:Cx) (σ:St) (a:Addr) (ob:Obj) (B:Heap):Prop where
 kin:X.K.In B
 glb:B.Ns mainGlobals X.mg
 sub:∀b o,X.base.get? b=some o→B.get? b=some o
 fn:B.get? a=some ob
 cell:∀(i:Nat) x v,X.N[i]?=some x→σ[i]?=some (some v)→X.env.scope.names.lookup x=some .cell→∃c u,X.env.cells.lookup x=some c∧B.IsCell c (some u)∧RelV v u
 cells:∀x c,X.env.cells.lookup x=some c→∃v,B.IsCell c v
 inj:∀x y c,X.env.cells.lookup x=some c→X.env.cells.lookup y=some c→x=y
noncomputable def tCallL (X:Cx) (sp:Heap→Sp) (t:TA):TE:=fun σ H Q=>t σ H fun vs H1=>∃a ob,H1 a=some (foO ob a)∧∀B,Wid X σ a ob B→sp B vs (hide a H1) Q E0
section
variable {X:Cx} {j k:Nat} {ps:List Str} {sp:Heap→Sp} {x:Str} {p pos:Pos} {e:Expr} {es:List Expr} {t:TA}
end
noncomputable def entH (Ts:List Addr) (s:Hp):Hp:=fun b=>if b∈Ts then some (.tbl #[]) else s b
noncomputable def rListK (K:PySem.W.Frag):List V→Hp→VK→Prop:=fun xs H Q=>∃p ys,xs=[.ref p]∧(SqL K H p ys∨SqT K H p ys)∧∀l,H l=none→Q (.ref l) (upd H l (.lst ys))
noncomputable def Itz (K:PySem.W.Frag) (a b:Addr):It:=
 ⟨fun i H=>∃xs ys x y,SqL K H a xs∧SqL K H b ys∧xs[i]?=some x∧ys[i]?=some y,
  fun i H u H'=>∃T x y,u=.ref T∧H T=none∧H'=upd H T (.tup [x,y])∧∀xs ys,SqL K H a xs→SqL K H b ys→xs[i]?=some x∧ys[i]?=some y,
  fun i H=>∃xs ys,SqL K H a xs∧SqL K H b ys∧(xs.length≤i∨ys.length≤i)⟩
section
variable {X:Cx} {pins:List (Addr×Obj)} {σ:St} {H:Hp} {s:Shared} {h':Heap}
theorem Inv.zipped {t':Nat} {ch:List Addr} {T:Addr} {o:HO} (I:Inv X pins σ H s) (k:∀b o,b∉ch→s.heap.get? b=some o→h'.get? b=some o) (hc:∀b∈ch,FpOk X pins H b) (hT:s.heap.objs.size≤T) (new:ObjOk X.prog X.w (upd H T o) h' T o):Inv X pins σ (upd H T o) {s with heap:=h',toks:=t'}:=by
 have hn:=I.hok.fresh hT
 have nit:∀b u,H b=some u→b∉ch:=fun b u e z=>by rw [(hc b z).1] at e;cases e
 have up:∀{b:Addr} {u:HO},H b=some u→upd H T o b=some u:=fun {b u} e=>by rw [upd_ne (ne_of_none e hn)];exact e
 refine I.step (g':=s.gens) (d':=s.drawn) (ch:=ch) (fun b hb=>?_) (fun b o _ _ hc e _=>k b o hc e) (fun b o _ _ hc e _=>⟨o.slots,k b o hc e⟩) (fun b o' _ e n=>?_) (fun b o hc e=>⟨o,k b o hc e⟩) (fun _ _ e=>up e) (fun _ _ _ e=>up e) (fun b ps e=>⟨#[],by rw [up e];simp⟩) (fun m hm=>?_) (fun b u e=>?_) I.bare
 ·obtain ⟨f0,f1,f2,f3,f4,f5⟩:=hc b hb
  exact ⟨f3,f1,f4,f5⟩
 ·rw [upd_ne (Nat.ne_of_lt (Nat.lt_of_lt_of_le (Heap.lt_size e) hT))]
  exact n
 ·obtain ⟨o,es,ep,ho,r⟩:=hm
  exact ⟨o,es,ep,k _ o (fun z=>(hc _ z).2.1 rfl) ho,r⟩
 ·by_cases hb:b=T
  ·subst hb
   rw [upd_same] at e
   cases e
   exact new
  ·rw [upd_ne hb] at e
   refine (I.hok b u e).stay (fun c v hc q=>k c v ?_ q) (fun _ q=>up q) fun _ _ q=>up q
   rcases hc with z | z
   ·rw [z];exact nit b u e
   ·exact nit c _ z
end
noncomputable abbrev zipTn (z TI TO i1 i2 l1 l2:Addr):Nat→Heap→Prop:=fun i h=>IsZip h z TI TO .none∧IsPair h TI (.ref i1) (.ref i2)∧(∃a b,IsPair h TO a b)∧h.IsListIter i1 l1 i∧h.IsListIter i2 l2 i
noncomputable def iZip (K:PySem.W.Frag) (ta:TA):TI:=fun σ H R=>ta σ H fun vs H1=>∃a b,vs=[.ref a,.ref b]∧(∃xs,SqL K H1 a xs)∧(∃ys,SqL K H1 b ys)∧R (Itz K a b) H1
end L2
namespace L2
open PySem PySem.Spec PyProof.Rows
noncomputable def sRen (N N':List Str) (t:TS):TS:=fun D σ H=>Hid N N' σ∧t {nx:=fun σ' H'=>Hid N N' σ'∧D.nx σ' H',rt:=fun _ _=>False} σ H
noncomputable def insSpec (l:Addr) (items:Array Value) (n:Nat) (x:Int) (y:Value):PySem.Spec:=fun _ R s=>s.heap.get? l=some {cls:=.type "list",dict:=none,data:=.seq items n,slots:=#[]}∧R (.ok (.ret Value.none)) {s with heap:=s.heap.update l (Obj.mapSeq fun xs=>have k:=if x<0 then (x+(xs.size:Int)).toNat else min x.toNat xs.size;(xs.extract 0 k).push y++xs.extract k),toks:=s.toks}
theorem insM (l:Addr) (items:Array Value) (n:Nat) (x:Int) (u:Tok) (y:Value) (hc0:¬(!Builtin.List.listFitsIndex x)=true) (hs1:items.size≤sizeLine):Meets (Builtin.«list.insert» ⟨[.ref l,.int x u,y],[]⟩) (insSpec l items n x y):=@AutoSeq1.list_insert_list_int_val_1 l items n x u y hc0 hs1
theorem insC {prog:Program} {w:World} {A:Around} {E:Value→Shared→Prop} {s:Shared} {Q:Value→Shared→Prop} (l:Addr) (items:Array Value) (n:Nat) (x:Int) (u:Tok) (y:Value) (hc0:¬(!Builtin.List.listFitsIndex x)=true) (hs1:items.size≤sizeLine)
  (e:s.heap.get? l=some {cls:=.type "list",dict:=none,data:=.seq items n,slots:=#[]}) (h:insSpec l items n x y A (wants Q E) s):wpAny (model prog w) A (call (Value.builtin "list.insert") [.ref l,.int x u,y]) Q E s:=
 @call_meets prog w A E s "list" _ "list.insert" _ (.ref l) [.int x u,y] (insSpec l items n x y) Q F.slot_list_insert ⟨_,e,rfl⟩ F.entry_list_insert (F.args_list_insert_3 _ _ _) (insM l items n x u y hc0 hs1) h
section
variable {X:Cx}
noncomputable def rInsert:V→List V→Hp→VK→Prop:=fun x vs H Q=>∃(l:Addr) (xs:List V) (i:Nat) (y:V),x=.ref l∧vs=[.int i,y]∧H l=some (.lst xs)∧i≤xs.length∧xs.length<sizeLine∧i<1000000∧Q .non (upd H l (.lst (xs.take i++y::xs.drop i)))
theorem vals_take:∀{xs:List V} {us:List Value} (n:Nat),Vals xs us→Vals (xs.take n) (us.take n)
 | _,_,0,_=>.nil
 | _,_,_+1,.nil=>.nil
 | _,_,n+1,.cons a r=>.cons a (vals_take n r)
theorem vals_drop:∀{xs:List V} {us:List Value} (n:Nat),Vals xs us→Vals (xs.drop n) (us.drop n)
 | _,_,0,h=>h
 | _,_,_+1,.nil=>.nil
 | _,_,n+1,.cons a r=>vals_drop n r
theorem mt_insert:MtM X "list.insert" rInsert:=by
 intro pins s σ H x vs v us Q I rx rv h
 obtain ⟨l,xs,i,y,rfl,rfl,hH,hi,hz,hs,q⟩:=h
 cases rx
 obtain ⟨u1,u,rfl,r1,r2⟩:∃u1 u2,us=[u1,u2]∧RelV (.int i) u1∧RelV y u2:=by
  cases rv with
  | cons r1 rv=>
   cases rv with
   | cons r2 rv=>
    cases rv
    exact ⟨_,_,rfl,r1,r2⟩
 obtain ⟨t,rfl⟩:=r1
 obtain ⟨z,its,n,r,hl,e⟩:=I.lstM hH
 have hc0:¬(!Builtin.List.listFitsIndex ((i:Nat):Int))=true:=by
  rw [fitsIndex_both (by omega) (by omega)]
  exact Bool.false_ne_true
 have hsz:its.toArray.size≤sizeLine:=by rw [List.size_toArray];omega
 refine insC l its.toArray n ((i:Nat):Int) t u hc0 hsz e ⟨e,?_⟩
 refine ⟨.non,_,I.lset (its':=its.take i++u::its.drop i) hH e ?_ ((vals_take i r).append (.cons r2 (vals_drop i r))) ?_,rfl,q⟩
 ·have hk:(if (i:Int)<0 then ((i:Int)+(its.toArray.size:Int)).toNat else min (i:Int).toNat its.toArray.size)=i:=by
   rw [if_neg (by omega),List.size_toArray,Int.toNat_natCast]
   omega
  show (its.toArray.extract 0 (if (i:Int)<0 then ((i:Int)+(its.toArray.size:Int)).toNat else min (i:Int).toNat its.toArray.size)).push u++its.toArray.extract (if (i:Int)<0 then ((i:Int)+(its.toArray.size:Int)).toNat else min (i:Int).toNat its.toArray.size)=_
  rw [hk]
  simp
  exact List.take_of_length_le (by rw [List.length_drop];exact Nat.le_refl _)
 ·rw [List.length_append,List.length_take,List.length_cons,List.length_drop]
  omega
end
structure Pn (K:PySem.W.Frag) (S:Addr) (ns:List Int) (H:Hp) (a:Addr):Prop where
 at_:∃i r:Int,H a=some (.lst [.ref S,.int i,.int r])
 scr:SqL K H S (ns.map V.int)
 few:ns.length≤63
section
variable {K:PySem.W.Frag} {S:Addr} {ns:List Int} {H H':Hp} {a p:Addr}
end
noncomputable abbrev Ris (ps:Array Nat):Prop:=ps.toList.Pairwise (·<·)
structure Cut (ps:Array Nat) (j b:Nat):Prop where
 le:b≤ps.size
 lo:∀i (h:i<ps.size),i<b→ps[i]<j
 hi:∀i (h:i<ps.size),b≤i→j≤ps[i]
structure Gd (t:SetTable) (b:Bool):Prop where
 ris:Ris t.place
 dum:t.dummies=#[]
 led:t.led=b
instance decMemKey (k:Key) (ks:List Key):Decidable (k∈ks):=@List.instDecidableMemOfLawfulBEq Key instBEqOfDecidableEq inferInstance k ks
noncomputable def KeyE (P:Program) (w:World) (e:Int×Value) (k:Key):Prop:=(mixKind P w).is k e.2=true∧e.1=(mixKind P w).hash k∧e.2.scannable=true
noncomputable def SetG (P:Program) (w:World) (h:Heap) (a:Addr) (ks:List Key):Prop:=
 ∃o es ep t,h.get? a=some o∧o.ExactSet∧o.data=.set es ep t∧(∃fs,es.toList.Perm fs∧Paired (KeyE P w) fs ks)∧t.fits es.size=true∧Gd t (!w.params.followText "set-order")∧ks.Nodup
section
variable {prog:Program} {w:World} {A:Around} {E:Value→Shared→Prop} {s:Shared} {a:Addr} {ks:List Key}
end
noncomputable def ddK:List Key→List Key→List Key
 | acc,[]=>acc
 | acc,k::r=>ddK (if k∈acc then acc else acc++[k]) r
section
variable {prog:Program} {w:World} {A:Around} {E:Value→Shared→Prop} {s:Shared}
noncomputable abbrev bareSetG (w:World):Obj:={cls:=.type "set",dict:=none,data:=.set #[] 0 (.fresh 0 0 (!w.params.followText "set-order"))}
end
section
variable {prog:Program} {w:World} {A:Around} {R:Result→Shared→Prop} {I:Addr} {fp wr:List Addr} {n:Nat} {P:Nat→Value→Prop} {St:Nat→Heap→Prop}
end
section
variable {prog:Program} {w:World} {A:Around} {E:Value→Shared→Prop} {s:Shared}
end
noncomputable def keySet (prog:Program) (w:World) (a:Addr) (ks:List Key):HO:=.ext fun h=>SetG prog w h a ks
section
variable {X:Cx}
end
theorem first_stop:firstArgMember (.type "StopIteration") []=pure .none:=by kernel_rfl
theorem own_stop:ownMembersOf (.type "StopIteration") []=#[]:=by kernel_rfl
section
variable {prog:Program} {w:World} {A:Around} {E:Value→Shared→Prop} {s:Shared}
theorem raise_stop {α:Type} {Q:α→Shared→Prop} (hh:A.handled=none) (k:∀h' e,(∀b o,s.heap.get? b=some o→h'.get? b=some o)→Shared.TypeIs {s with heap:=h'} (.ref e) "StopIteration"→E (.ref e) {s with heap:=h'}):
  wpAny (model prog w) A (do
   let x ←newExc (.type "StopIteration") []
   raiseNew x:Sem α) Q E s:=by
 refine wpAny_bind ?_
 unfold newExc
 refine wpAny_bind (wpAny_newTuple ?_ (Nat.zero_le _))
 rw [first_stop,own_stop]
 refine wpAny_bind (wpAny_pure (wpAny_newObj_type (wpAny_raiseNew_none hh (k _ _ (fun b o e=>Heap.get?_push_of_some _ (Heap.get?_push_of_some _ e)) ⟨_,Heap.get?_push_size _ rfl,rfl⟩))))
noncomputable abbrev sitO (first:Value) (i:Nat) (a:Addr) (n ep:Nat):Obj:={cls:=.type "set_iterator",data:=.fields #[first,.int i 0,.ref a,.int n 0,.int ep 0]}
variable {a:Addr} {o:Obj} {es:Array (Int×Value)} {ep:Nat} {t:SetTable}
end
section
variable {prog:Program} {w:World} {A:Around} {E:Value→Shared→Prop} {s:Shared}
end
noncomputable def slotAt (ps:Array Nat):Nat→Nat
 | 0=>0
 | i+1=>ps.getD i 0+1
section
variable {prog:Program} {w:World} {A:Around} {a it:Addr} {o:Obj} {es:Array (Int×Value)} {ep:Nat} {t:SetTable}
noncomputable abbrev plO (ord:List Nat):Obj:={cls:=.type "tuple",data:=.seq (ord.map fun i=>rawInt (i:Nat)).toArray}
end
noncomputable def IsK (P:Program) (w:World) (v:Value) (k:Key):Prop:=(mixKind P w).is k v=true
section
variable {prog:Program} {w:World} {A:Around} {E:Value→Shared→Prop} {s:Shared} {a:Addr} {ks:List Key}
theorem wp_ite_pos {α:Type} {M:Model} {c:Bool} {X Y:Sem α} {Q:α→Shared→Prop} (h:c=true) (q:wpAny M A X Q E s):wpAny M A (if c=true then X else Y) Q E s:=by
 rw [if_pos h];exact q
noncomputable def ColSet (P:Program) (w:World) (s:Shared) (ks:List Key) (q:Result) (s':Shared):Prop:=
 ∃(g:Heap) (tk c:Nat) (d:Drawn) (xs:Array Value),q=.ok (.ret (.ref s.heap.objs.size))∧s'={s with heap:=g,toks:=tk,drawn:=d}∧(∀b o,s.heap.get? b=some o→g.get? b=some o)∧g.get? s.heap.objs.size=some {cls:=.type "list",dict:=none,data:=.seq xs c,slots:=#[]}∧(∃ks',ks'.Perm ks∧Paired (IsK P w) xs.toList ks')
end
section
variable {X:Cx}
noncomputable def rSortSS (P:Program) (w:World):List V→Hp→VK→Prop:=fun xs H Q=>∃(d:Addr) (zs:List Str),xs=[.ref d]∧H d=some (keySet P w d (zs.map Sum.inr))∧zs.length<64∧∀p,H p=none→Q (.ref p) (upd H p (.lst ((srtS zs).map V.str)))
noncomputable def rSortSI (P:Program) (w:World):List V→Hp→VK→Prop:=fun xs H Q=>∃(d:Addr) (ns:List Int),xs=[.ref d]∧H d=some (keySet P w d (ns.map Sum.inl))∧ns.length<64∧∀p,H p=none→Q (.ref p) (upd H p (.lst ((srtI ns).map V.int)))
end
noncomputable def uniS (zs:List Str):List Str:=(ddK [] (zs.map Sum.inr)).filterMap Sum.getRight?
noncomputable def uniI (ns:List Int):List Int:=(ddK [] (ns.map Sum.inl)).filterMap Sum.getLeft?
section
variable {X:Cx}
end
section
variable {prog:Program} {w:World} {A:Around} {E:Value→Shared→Prop} {s:Shared}
end
noncomputable def rngO (a:Addr) (n:Int):HO:=.ext fun h=>∃t u v,IsRange h a 0 n 1 t u v
section
variable {X:Cx}
noncomputable def rCatG:R2:=fun x y H Q=>∃a b xs ys,x=.ref a∧y=.ref b∧H a=some (.tup xs)∧H b=some (.tup ys)∧xs.length+ys.length≤1000000∧∀(c:Addr) (H':Hp),Same H H'→H' c=some (.tup (xs++ys))→Q (.ref c) H'
theorem op_catG:OpR X (binaryOp .Add) rCatG:=by
 intro pins s σ H x y v u Q I rx ry h
 obtain ⟨a,b,xs,ys,rfl,rfl,ha,hb,hz,q⟩:=h
 by_cases hx:xs=[]
 ·subst hx
  cases rx
  cases ry
  obtain ⟨its,r1,p1,_⟩:=I.tuple (SqT.of ha)
  obtain ⟨its2,r2,p2,_⟩:=I.tuple (SqT.of hb)
  obtain ⟨⟨cls,dd,data,sl⟩,ho,hc,n,hd⟩:=id p1
  obtain ⟨⟨cls2,dd2,data2,sl2⟩,ho2,hc2,n2,hd2⟩:=id p2
  simp only at hc hd hc2 hd2
  subst hc hd hc2 hd2
  have e0:its=[]:=r1.nil_iff.mpr rfl
  exact concat_meets ⟨_,ho,rfl⟩ ⟨_,ho2,rfl⟩ noFill_tuple_add seq_tuple_add PySem.F.slot_tuple_add PySem.F.entry_tuple_add (PySem.F.args_tuple_add_2 _ _)
   (tuple_addW0 a b its.toArray its2.toArray n n2 dd dd2 sl sl2 (by rw [e0];rfl)) ⟨ho,ho2,.ref b,H,I,rfl,q b H (Same.refl _) hb⟩
 ·refine op_catT pins s σ H _ _ v u Q I rx ry ⟨a,b,xs,ys,rfl,rfl,SqT.of ha,SqT.of hb,hx,small_le hz,fun e=>?_,fun _ p np=>q p _ (same_laid np _) upd_same⟩
  refine q a H (Same.refl _) ?_
  rw [e,List.append_nil]
  exact ha
end
section
variable {X:Cx} {pins:List (Addr×Obj)} {σ:St} {H:Hp} {s:Shared}
noncomputable def rViewR (w:Addr→Addr→HO):V→List V→Hp→VK→Prop:=fun x vs H Q=>∃d kvs,x=.ref d∧vs=[]∧Rd H d (.dK kvs)∧∀a,H a=none→Q (.ref a) (upd H a (w a d))
noncomputable def tVals (to:TE):TE:=fun σ H Q=>to σ H fun x H1=>∃d kvs,x=.ref d∧Rd H1 d (.dK kvs)∧∀a,H1 a=none→Q (.ref a) (upd H1 a (vView a d))
noncomputable def Itv (d:Addr) (kvs:List (Key×V)) (o:Obj):It:=⟨fun i H=>i<kvs.length∧H d=some (.frz o (.dK kvs)),fun i H x H'=>H'=H∧∃p,kvs[i]?=some p∧x=p.2,fun i H=>kvs.length≤i∧H d=some (.frz o (.dK kvs))⟩
noncomputable def iVals (tl:TE):TI:=fun σ H R=>tl σ H fun x H1=>∃(v d:Addr) (o:Obj) (kvs:List (Key×V)),x=.ref v∧H1 v=some (vView v d)∧H1 d=some (.frz o (.dK kvs))∧R (Itv d kvs o) H1
noncomputable def rSortV:List V→Hp→VK→Prop:=fun xs H Q=>∃(v d:Addr) (kvs:List (Key×V)) (ns:List Int),xs=[.ref v]∧H v=some (vView v d)∧H d=some (.dK kvs)∧kvs.map (·.2)=ns.map V.int∧ns.length<64∧∀p,H p=none→Q (.ref p) (upd H p (.lst ((srtI ns).map V.int)))
end
noncomputable abbrev Bn:=List Str×Int
noncomputable def bnD (b:Bn):PyData:=.tuple [.tuple (b.1.map PyData.str),.int b.2]
noncomputable def papD (bs:List Bn):PyData:=.list (bs.map bnD)
noncomputable def lvls (room:Int) (ps qs:Ps):List Int:=srtI (uniI ((keysM ps qs).map fun z=>min (sumM ps qs z) (cutT room ps qs)))
noncomputable def marksAt (ps qs:Ps) (v:Int):List Str:=(srtS (keysM ps qs)).filter fun z=>decide (v≤sumM ps qs z)
noncomputable def bunI (ps qs:Ps) (l:List Int) (i:Nat):Bn:=(marksAt ps qs (l.getD i 0),l.getD i 0 - (0::l).getD i 0)
noncomputable def bunL (ps qs:Ps) (l:List Int) (n:Nat):List Bn:=(List.range n).map (bunI ps qs l)
noncomputable def bunsT (a b:Ty):List Bn:=if cutT a.room a.cs b.cs=0 then [] else bunL a.cs b.cs (lvls a.room a.cs b.cs) (lvls a.room a.cs b.cs).length
noncomputable def BnW (b:Bn):Prop:=(∀z∈b.1,z∈words)∧b.1.length≤40
inductive BnsAt (H:Hp):List V→List Bn→Prop
 | nil:BnsAt H [] []
 | cons {a c:Addr} {xs:List V} {b:Bn} {bs:List Bn} (h:H a=some (.tup [.ref c,.int b.2])) (e:H c=some (.tup (b.1.map V.str))) (r:BnsAt H xs bs):BnsAt H (.ref a::xs) (b::bs)
noncomputable def PapAt (H:Hp) (p:Addr) (bs:List Bn):Prop:=∃xs,H p=some (.lst xs)∧BnsAt H xs bs
inductive TpsAt (H:Hp):List V→List (List V)→Prop
 | nil:TpsAt H [] []
 | cons {a:Addr} {xs row:List V} {rows:List (List V)} (h:H a=some (.tup row)) (r:TpsAt H xs rows):TpsAt H (.ref a::xs) (row::rows)
section
variable {α:Type} {K:PySem.W.Frag} {a:Addr} {xs:List V} {ks:List α} {k:Nat} {g:TG} {tt:TT} {te:TE} {σ:St} {H:Hp} {Q:VK}
end
structure Kn where
 mark:Str
 row:Int
 col:Int
noncomputable def Kn.vs (k:Kn):List V:=[.str k.mark,.int k.row,.int k.col]
noncomputable def Kn.D (k:Kn):PyData:=.tuple [.str k.mark,.int k.row,.int k.col]
noncomputable def NetAt (H:Hp) (a:Addr) (ks:List Kn):Prop:=∃xs,H a=some (.tup xs)∧TpsAt H xs (ks.map Kn.vs)
structure Mrk (z:Str):Prop where
 lo:1≤z.cps.size
 hi:z.cps.size≤8
 ab:∀c∈z.cps.toList,97≤c∧c≤122
structure NetOk (ks:List Kn):Prop where
 mw:∀k∈ks,Mrk k.mark
 row:∀k∈ks,0≤k.row∧k.row≤30
 col:∀k∈ks,0≤k.col∧k.col≤30
 len:ks.length≤60
 nd:(ks.map Kn.mark).Nodup
 rise:(ks.map Kn.mark).Pairwise (fun a b=>leS a b=true)
noncomputable def CelAt (H:Hp) (c:Addr) (rs cs:List Int):Prop:=∃a b,H c=some (.tup [.ref a,.ref b])∧H a=some (.tup (rs.map V.int))∧H b=some (.tup (cs.map V.int))
noncomputable def celD (rs cs:List Int):PyData:=.tuple [.tuple (rs.map PyData.int),.tuple (cs.map PyData.int)]
noncomputable def Asc (ns:List Int):Prop:=ns.Pairwise (·<·)
noncomputable def uni (ns:List Int):List Int:=srtI (uniI ns)
end L2
namespace L2
open PySem PySem.Spec PyProof.Rows PySem.Builtin PySem.Builtin.Str
noncomputable def Ltr (z:Str):Prop:=∀c∈z.cps.toList,97≤c∧c≤122
noncomputable def abc:Str:="abcdefghijklmnopqrstuvwxyz"
theorem PenAt.put {H:Hp} {a l:Addr} {o:HO} (h:PenAt H a) (n:l≠a):PenAt (upd H l o) a:=by
 obtain ⟨p,q,r,e⟩:=h
 exact ⟨p,q,r,by rw [upd_ne (Ne.symm n)];exact e⟩
theorem grw_none {H H':Hp} {a l:Addr} (g:Grw a H H') (n:H' l=none):hide a H l=none:=by
 cases e:hide a H l with
 | none=>rfl
 | some o=>
  have:=(hide_some (g _ _ e)).2
  rw [n] at this
  cases this
theorem grw_put {H H':Hp} {a l:Addr} {o:HO} (g:Grw a H H') (n:hide a H l=none):Grw a H (upd H' l o):=fun b u e=>by
 have hb:b≠l:=fun q=>by rw [q,n] at e;cases e
 have e2:=g b u e
 obtain ⟨h1,h2⟩:=hide_some e2
 rw [hide_ne h1,upd_ne hb]
 exact h2
theorem hide_put {H:Hp} {a l:Addr} {o:HO} (n:l≠a):hide a (upd H l o) l=some o:=by rw [hide_ne n];exact upd_same
noncomputable def StAt (H:Hp) (r:Addr) (ts:List Th):Prop:=∃xs,H r=some (.lst xs)∧TpsAt H xs (ts.map Th.vs)
noncomputable def metP (ts:List Th) (k:Kn):Bool:=decide (k.mark∈ts.map Th.word)
noncomputable def metR (ks:List Kn) (ts:List Th):List Int:=uni ((ks.filter (metP ts)).map Kn.row)
noncomputable def metC (ks:List Kn) (ts:List Th):List Int:=uni ((ks.filter (metP ts)).map Kn.col)
structure CelOk (rs cs:List Int):Prop where
 r:Asc rs
 c:Asc cs
 rl:rs.length≤62
 cl:cs.length≤62
inductive CelsAt (H:Hp):List V→List (List Int×List Int)→Prop
 | nil:CelsAt H [] []
 | cons {a:Addr} {xs:List V} {c:List Int×List Int} {cs:List (List Int×List Int)} (h:CelAt H a c.1 c.2) (r:CelsAt H xs cs):CelsAt H (.ref a::xs) (c::cs)
end L2
namespace HT
open PySem PySem.Spec PyProof.Rows
section
variable {prog:Program} {w:World} {A:Around} {E:Value→Shared→Prop} {s:Shared}
theorem getItem_tuple_whole {t sl:Addr} {items:Array Value} {vl vu:Value} {lo hi:Option Int} {Q:Value→Shared→Prop} (ht:IsTup s.heap t items) (hs:s.heap.IsSliceOf sl vl vu .none) (pl:IsPart vl lo) (pu:IsPart vu hi)
  (hw:sIx items.size 0 lo=0∧sIx items.size items.size hi=items.size) (h:Q (.ref t) s):wpAny (model prog w) A (getItem (.ref t) (.ref sl)) Q E s:=by
 obtain ⟨os,hos,hcs,hds⟩:=id hs
 have hTs:s.TypeIs (.ref sl) "slice":=⟨os,hos,hcs⟩
 have ty:=ht.typeIs
 unfold getItem
 try with_reducible refine wpAny_holding ?_
 first | refine wpAny_bind (wpAny_pure ?_) | skip
 refine wpAny_bind (wpAny_sequenceKey ht.typeIs (by decide) ?_)
 refine wpAny_bind (wpAny_callSpecial?_slot (name:=Str.ofString "__getitem__") ht.typeIs PyProof.Rows.slot_tuple_getitem
  (wpAny_call_entry PyProof.Rows.slot_tuple_getitem ht.typeIs entry_tuple_getitem ?_ (args_tuple_getitem _ _)))
 show wpAny _ _ (Builtin.Tuple.tupleItemsOf (.ref t) >>= _) _ _ s
 refine wpAny_bind (tupleItemsOf_ ht ?_)
 refine wpAny_bind (wpAny_typeOf hTs ?_)
 rw [if_pos (by decide)]
 refine wpAny_bind (sliceApplied_gen hs pl pu ?_)
 have hyes:(((sIx items.size 0 lo:Nat):Int) == 0 && (1:Int) == 1 && (sIx items.size items.size hi - sIx items.size 0 lo) == items.size)=true:=by
  rw [hw.1,hw.2];simp
 show wpAny _ _ (if (((sIx items.size 0 lo:Nat):Int) == 0 && (1:Int) == 1 && (sIx items.size items.size hi - sIx items.size 0 lo) == items.size)=true then _ else _) _ _ s
 rw [if_pos hyes]
 refine wpAny_bind (m:=Builtin.Tuple.tupleIsExact (.ref t)) ?_
 refine wpAny_bind (wpAny_typeOf ty (wpAny_pure ?_))
 rw [if_pos (by decide)]
 refine wpAny_bind (m:=rule _) (wpAny_rule ?_)
 exact wpAny_pure ⟨_,rfl,wpAny_pure h⟩
end
end HT
namespace L2
open PySem PySem.Spec PyProof.Rows
section
variable {X:Cx}
noncomputable def rSlG:V→Option Int→Option Int→Hp→VK→Prop:=fun x lo hi H Q=>∃a xs,x=.ref a∧H a=some (.tup xs)∧∀(c:Addr) (H':Hp),Same H H'→H' c=some (.tup (cutV xs lo hi))→Q (.ref c) H'
theorem sl_tupG:SlR X rSlG:=by
 intro pins s σ H x v vl vu lo hi sl Q I rx hs pl pu h
 obtain ⟨a,xs,rfl,hx,q⟩:=h
 by_cases hw:HT.sIx xs.length 0 lo=0∧HT.sIx xs.length xs.length hi=xs.length
 ·cases rx
  obtain ⟨its,r,ht,hz⟩:=I.tuple (SqT.of hx)
  have hlen:its.toArray.size=xs.length:=by rw [List.size_toArray];exact r.length.symm
  refine ⟨"tuple",_,PyProof.Rows.slot_tuple_getitem.lookup,ht.typeIs,?_⟩
  refine HT.getItem_tuple_whole ht hs pl pu (by rw [hlen];exact hw) ⟨.ref a,H,I,rfl,q a H (Same.refl _) ?_⟩
  unfold cutV
  rw [hw.1,hw.2,List.drop_zero,Nat.sub_zero,List.take_length]
  exact hx
 ·exact sl_tup pins s σ H _ v vl vu lo hi sl Q I rx hs pl pu ⟨a,xs,rfl,SqT.of hx,hw,fun p np=>q p _ (same_laid np _) upd_same⟩
end
theorem cut_to {xs:List V} {k:Nat}:cutV xs none (some (k:Int))=xs.take k:=by
 unfold cutV
 rw [HT.sIx_none,List.drop_zero,Nat.sub_zero,HT.sIx_nat]
 rcases Nat.le_total k xs.length with h | h
 ·rw [Nat.min_eq_left h]
 ·rw [Nat.min_eq_right h,List.take_of_length_le (Nat.le_refl _),List.take_of_length_le h]
theorem cut_from {xs:List V} {k:Nat}:cutV xs (some (k:Int)) none=xs.drop k:=by
 unfold cutV
 rw [HT.sIx_none,HT.sIx_nat]
 rcases Nat.le_total k xs.length with h | h
 ·rw [Nat.min_eq_left h,List.take_of_length_le (by rw [List.length_drop];omega)]
 ·rw [Nat.min_eq_right h,List.drop_of_length_le h,List.drop_of_length_le (Nat.le_refl _),List.take_nil]
section
variable {X:Cx}
end
structure DF (a l d:Addr) (fz:HO) (Hf:Hp) (xs:List V) (ts:List Th) (H':Hp):Prop where
 el:hide a H' l=some (.lst xs)
 tl:TpsAt (hide a H') xs (ts.map Th.vs)
 ed:hide a H' d=some fz
 hp:PenAt H' a
 gg:Grw a Hf H'
section
variable {a l d:Addr} {fz:HO} {Hf H' H'':Hp} {xs:List V} {ts:List Th}
end
end L2
namespace HT
open PySem PySem.Spec PyProof.Rows
section
variable {prog:Program} {w:World} {A:Around} {E:Value→Shared→Prop} {s:Shared}
end
end HT
namespace L2
open PySem PySem.Spec PyProof.Rows
section
variable {X:Cx}
noncomputable def tRevT (K:PySem.W.Frag) (te ts:TE):TE:=fun σ H Q=>te σ H fun x H1=>ts σ H1 fun y H2=>∃(a:Addr) (xs:List V),x=.ref a∧y=.int (-1)∧SqT K H2 a xs∧∀p,H2 p=none→Q (.ref p) (upd H2 p (.tup xs.reverse))
end
noncomputable def CmpAt (prog:Program) (w:World) (A:Around) (s:Shared) (κ:KeyKind) (kd:SortKind):Prop:=
 ∀(E:Value→Shared→Prop) (x y:Value) (a b:κ.α) (Q:Bool→Shared→Prop),κ.keyOf x=some a→κ.keyOf y=some b→Q (κ.blt a b) s→wpAny (model prog w) A (keyLt' kd x y) Q E s
structure Sst (kd:SortKind) (xs0:Array Keyed) (st:SortSt):Prop where
 pm:(arrOf st).Perm xs0
 kn:kindOf st=kd
 pd:pendingOf st=#[]
 fl:failedOf st=none
noncomputable def Rz (κ:KeyKind) (xs:Array Keyed) (n:Nat):Prop:=∀i j,i≤j→j<n→κ.blt (KK κ xs j) (KK κ xs i)=false
noncomputable def Fz (κ:KeyKind) (xs:Array Keyed) (n:Nat):Prop:=∀i j,i≤j→j<n→κ.blt (KK κ xs i) (KK κ xs j)=false
section
variable {prog:Program} {w:World} {A:Around} {E:Value→Shared→Prop} {s:Shared} {κ:KeyKind} {kd:SortKind} {xs0:Array Keyed} {st:SortSt}
theorem Sst.sz (b:Sst kd xs0 st):(arrOf st).size=xs0.size:=b.pm.size_eq
theorem Sst.put (b:Sst kd xs0 st) {ys:Array Keyed} (p:ys.Perm (arrOf st)):Sst kd xs0 (setArr st ys):=⟨p.trans b.pm,b.kn,b.pd,b.fl⟩
theorem ltF {a b c:κ.α} (h:κ.blt b a=false) (g:κ.blt c b=false):κ.blt c a=false:=by
 rcases e:κ.blt c a with _ | _
 ·rfl
 ·rcases κ.negTrans c b a e with q | q
  ·rw [g] at q;exact q.symm
  ·rw [h] at q;exact q.symm
theorem ltA {a b:κ.α} (h:κ.blt a b=true):κ.blt b a=false:=by
 rcases e:κ.blt b a with _ | _
 ·rfl
 ·have q:=κ.trans a b a h e
  rw [κ.irrefl] at q
  exact q.symm
theorem Rz.snoc {xs:Array Keyed} {m:Nat} (r:Rz κ xs m) (h1:1≤m) (h:κ.blt (KK κ xs m) (KK κ xs (m - 1))=false):Rz κ xs (m+1):=by
 intro i j hij hj
 rcases Nat.lt_or_ge j m with l | l
 ·exact r i j hij l
 obtain rfl:j=m:=by omega
 rcases Nat.lt_or_ge i j with l2 | l2
 ·exact ltF (r i (j - 1) (by omega) (by omega)) h
 ·obtain rfl:i=j:=by omega
  exact κ.irrefl _
theorem Fz.snoc {xs:Array Keyed} {m:Nat} (r:Fz κ xs m) (h1:1≤m) (h:κ.blt (KK κ xs (m - 1)) (KK κ xs m)=false):Fz κ xs (m+1):=by
 intro i j hij hj
 rcases Nat.lt_or_ge j m with l | l
 ·exact r i j hij l
 obtain rfl:j=m:=by omega
 rcases Nat.lt_or_ge i j with l2 | l2
 ·exact ltF h (r i (j - 1) (by omega) (by omega))
 ·obtain rfl:i=j:=by omega
  exact κ.irrefl _
theorem one_Rz {xs:Array Keyed}:Rz κ xs 1:=fun i j hij hj=>by
 obtain rfl:i=j:=by omega
 exact κ.irrefl _
theorem one_Fz {xs:Array Keyed}:Fz κ xs 1:=fun i j hij hj=>by
 obtain rfl:i=j:=by omega
 exact κ.irrefl _
theorem Fz.same {xs ys:Array Keyed} {m:Nat} (r:Fz κ xs m) (h:∀k,KK κ ys k=KK κ xs k):Fz κ ys m:=fun i j hij hj=>by
 rw [h,h];exact r i j hij hj
theorem cmp_two {i j:Nat} {Q:Option Bool→SortSt→Prop} (hc:CmpAt prog w A s κ kd) (hk:KeysOf κ xs0) (b:Sst kd xs0 st) (hi:i<xs0.size) (hj:j<xs0.size)
  (q:Q (some (κ.blt (KK κ (arrOf st) i) (KK κ (arrOf st) j))) st):wpS (model prog w) A E s (ltAt' i j) Q st:=by
 have look:∀{i:Nat},i<xs0.size→∃p a,(arrOf st)[i]?=some p∧κ.keyOf p.1=some a∧KK κ (arrOf st) i=a:=by
  intro i hi
  have hl:i<(arrOf st).size:=by rw [b.sz];exact hi
  have e:(arrOf st)[i]?=some (arrOf st)[i]:=Array.getElem?_eq_getElem hl
  obtain ⟨a,ha⟩:=hk (arrOf st)[i] ((Array.perm_iff_toList_perm.mp b.pm).mem_iff.mp (Array.mem_toList_iff.mpr (Array.getElem_mem hl)))
  refine ⟨_,a,e,ha,?_⟩
  unfold KK
  rw [e]
  show (κ.keyOf _).getD _=a
  rw [ha]
  rfl
 obtain ⟨⟨x,x'⟩,a,e1,k1,g1⟩:=look hi
 obtain ⟨⟨y,y'⟩,a',e2,k2,g2⟩:=look hj
 rw [g1,g2] at q
 rw [ltAt'_eq]
 refine wpS_bind (wpS_get ?_)
 show wpS (model prog w) A E s (elem' (arrOf st) i >>= fun u=>elem' (arrOf st) j >>= fun v=>lt' u v) Q st
 rw [elem'_eq,elem'_eq,e1,e2]
 refine wpS_bind (wpS_pure ?_)
 refine wpS_bind (wpS_pure ?_)
 rw [lt'_eq]
 refine wpS_bind (wpS_get ?_)
 rw [b.kn]
 exact wpS_bind (wpS_lift (wpAny_attempt (hc _ x y a a' _ k1 k2 ⟨rfl,wpS_pure q⟩)))
theorem up_loop {a n:Nat} {Q:AscSt→SortSt→Prop} (hc:CmpAt prog w A s κ kd) (hk:KeysOf κ xs0) (hn:n≤xs0.size) (h1:1≤a) (h2:a≤n) (b:Sst kd xs0 st) (r:Rz κ (arrOf st) a)
  (fin:∀m,a≤m→m≤n→Rz κ (arrOf st) m→(m<n→κ.blt (KK κ (arrOf st) m) (KK κ (arrOf st) (m - 1))=true)→Q (none,m) st):wpS (model prog w) A E s (ascLoop a n) Q st:=by
 unfold ascLoop
 refine wpS_forRange (fun i c u=>u=st∧c=(none,i)∧Rz κ (arrOf st) i) ?_ ?_ ⟨rfl,rfl,r⟩
 ·rintro i _ _ h3 h4 ⟨rfl,rfl,r'⟩
  refine wpS_bind (cmp_two hc hk b (by omega) (by omega) ?_)
  rcases e:κ.blt (KK κ (arrOf _) i) (KK κ (arrOf _) (i - 1)) with _ | _
  ·exact wpS_pure ⟨rfl,rfl,r'.snoc (by omega) e⟩
  ·exact wpS_pure (fin i h3 (by omega) r' fun _=>e)
 ·rintro _ _ ⟨rfl,rfl,r'⟩
  rw [Nat.max_eq_right h2] at r' ⊢
  exact fin n h2 (Nat.le_refl _) r' fun q=>absurd q (Nat.lt_irrefl _)
theorem wp_turn {i j:Nat} {Q:Unit→SortSt→Prop} (q:Q () (setArr st (mirror (arrOf st) i j ((j - i) / 2)))):wpS (model prog w) A E s (reverseSlice' i j) Q st:=by
 rw [reverseSlice'_eq]
 exact wpS_modify q
theorem tail_up {m n:Nat} {Q:Option Nat→SortSt→Prop} (hc:CmpAt prog w A s κ kd) (hk:KeysOf κ xs0) (hn:n≤xs0.size) (h1:1≤m) (h2:m≤n) (b:Sst kd xs0 st) (r:Fz κ (arrOf st) m)
  (fin:∀l u,Sst kd xs0 u→1≤l→l≤n→Rz κ (arrOf u) l→Q (some l) u):wpS (model prog w) A E s (tail3 m n) Q st:=by
 unfold tail3
 refine wpS_bind (wp_turn ?_)
 have b':=b.put (mirror_perm (arrOf st) 0 m ((m - 0) / 2))
 have ml:m≤(arrOf st).size:=by rw [b.sz];omega
 refine wpS_bind (up_loop hc hk hn h1 h2 b' (fun i j hij hj=>?_) fun l h3 h4 r' _=>wpS_pure (fin l _ b' (by omega) h4 r'))
 show κ.blt (KK κ (mirror (arrOf st) 0 m ((m - 0) / 2)) j) (KK κ (mirror (arrOf st) 0 m ((m - 0) / 2)) i)=false
 rw [KK_mirror ml,KK_mirror ml,if_pos ⟨Nat.zero_le _,hj⟩,if_pos ⟨Nat.zero_le _,by omega⟩]
 exact r _ _ (by omega) (by omega)
theorem down_loop {m n:Nat} {Q:DescSt→SortSt→Prop} (hc:CmpAt prog w A s κ kd) (hk:KeysOf κ xs0) (hn:n≤xs0.size) (h1:1≤m) (h2:m≤n) (b:Sst kd xs0 st) (r:Fz κ (arrOf st) m)
  (fin:∀l e u,Sst kd xs0 u→m≤l→l≤n→Fz κ (arrOf u) l→e+1≤l→(∀i,l - (e+1)≤i→i<l→KK κ (arrOf u) i=KK κ (arrOf u) (l - 1))→Q (none,l,e) u):
  wpS (model prog w) A E s (descLoop m n) Q st:=by
 unfold descLoop
 refine wpS_forRange (fun i c u=>∃e,c=(none,i,e)∧Sst kd xs0 u∧Fz κ (arrOf u) i∧e+1≤i∧∀k,i - (e+1)≤k→k<i→KK κ (arrOf u) k=KK κ (arrOf u) (i - 1)) ?_ ?_ ⟨0,rfl,b,r,h1,fun k h3 h4=>by rw [show k=m - 1 by omega]⟩
 ·rintro i _ u h3 h4 ⟨e,rfl,b',r',he,al⟩
  have il:i≤(arrOf u).size:=by rw [b'.sz];omega
  dsimp only
  refine wpS_bind (cmp_two hc hk b' (by omega) (by omega) ?_)
  rcases e1:κ.blt (KK κ (arrOf u) i) (KK κ (arrOf u) (i - 1)) with _ | _
  ·show wpS (model prog w) A E s (ltAt' (i - 1) i >>= _) _ u
   refine wpS_bind (cmp_two hc hk b' (by omega) (by omega) ?_)
   rcases e2:κ.blt (KK κ (arrOf u) (i - 1)) (KK κ (arrOf u) i) with _ | _
   ·have eq:KK κ (arrOf u) i=KK κ (arrOf u) (i - 1):=κ.total _ _ e1 e2
    refine wpS_pure ⟨e+1,rfl,b',r'.snoc (by omega) e2,by omega,fun k h5 h6=>?_⟩
    show KK κ (arrOf u) k=KK κ (arrOf u) i
    rcases Nat.lt_or_ge k i with l | l
    ·rw [eq];exact al k (by omega) l
    ·rw [show k=i by omega]
   ·exact wpS_pure (fin i e u b' h3 (by omega) r' he al)
  ·have up:=r'.snoc (by omega) (ltA e1)
   show wpS (model prog w) A E s (if e > 0 then _ else _) _ u
   by_cases c:e > 0
   ·rw [if_pos c]
    refine wpS_bind (wp_turn ?_)
    exact wpS_pure ⟨0,rfl,b'.put (mirror_perm _ _ _ _),up.same (KK_mirror_equal il al),by omega,fun k h5 h6=>by rw [show k=i+1 - 1 by omega]⟩
   ·rw [if_neg c]
    exact wpS_pure ⟨0,rfl,b',up,by omega,fun k h5 h6=>by rw [show k=i+1 - 1 by omega]⟩
 ·rintro _ u ⟨e,rfl,b',r',he,al⟩
  rw [Nat.max_eq_right h2] at r' he al ⊢
  exact fin n e u b' h2 (Nat.le_refl _) r' he al
theorem down_part {m n:Nat} {Q:Option Nat→SortSt→Prop} (hc:CmpAt prog w A s κ kd) (hk:KeysOf κ xs0) (hn:n≤xs0.size) (h2:m+1≤n) (b:Sst kd xs0 st) (r:Fz κ (arrOf st) (m+1))
  (fin:∀l u,Sst kd xs0 u→1≤l→l≤n→Rz κ (arrOf u) l→Q (some l) u):wpS (model prog w) A E s (descPart m n) Q st:=by
 unfold descPart
 refine wpS_bind (m:=liftM (rule _)) (wpS_lift (wpAny_rule ⟨rfl,?_⟩))
 refine wpS_bind (down_loop hc hk hn (by omega) h2 b r fun l e u b' h3 h4 r' he al=>?_)
 have ll:l≤(arrOf u).size:=by rw [b'.sz];omega
 show wpS (model prog w) A E s (if e > 0 then _ else _) _ u
 by_cases c:e > 0
 ·rw [if_pos c]
  refine wpS_bind (wp_turn ?_)
  exact tail_up (m:=l) hc hk hn (by omega) h4 (b'.put (mirror_perm _ _ _ _)) (r'.same (KK_mirror_equal ll al)) fin
 ·rw [if_neg c]
  exact tail_up (m:=l) hc hk hn (by omega) h4 b' r' fin
theorem count_up {n:Nat} {Q:Option Nat→SortSt→Prop} (hc:CmpAt prog w A s κ kd) (hk:KeysOf κ xs0) (hn:n≤xs0.size) (h1:1≤n) (b:Sst kd xs0 st)
  (fin:∀l u,Sst kd xs0 u→1≤l→l≤n→Rz κ (arrOf u) l→Q (some l) u):wpS (model prog w) A E s (countRun' 0 n) Q st:=by
 rw [countRun0_eq]
 refine wpS_bind (up_loop hc hk hn (Nat.le_refl 1) h1 b one_Rz fun m h3 h4 r lt=>?_)
 show wpS (model prog w) A E s (if (m == n)=true then _ else _) _ st
 rcases Nat.lt_or_ge m n with c | c
 ·rw [if_neg (by rw [beq_iff_eq];omega)]
  have lt:=lt c
  by_cases c2:m > 1
  ·rw [if_pos c2]
   refine wpS_bind (cmp_two hc hk b (by omega) (by omega) ?_)
   rcases e:κ.blt (KK κ (arrOf st) 0) (KK κ (arrOf st) (m - 1)) with _ | _
   ·have ml:m≤(arrOf st).size:=by rw [b.sz];omega
    have al:∀k,0≤k→k<m→KK κ (arrOf st) k=KK κ (arrOf st) (m - 1):=fun k _ h=>
     κ.total _ _ (ltF e (r 0 k (Nat.zero_le _) h)) (r k (m - 1) (by omega) (by omega))
    refine wpS_bind (wp_turn (down_part hc hk hn (by omega) (b.put (mirror_perm _ _ _ _)) ?_ fin))
    refine Fz.same (xs:=arrOf st) (Fz.snoc (fun i j hij hj=>?_) (by omega) (ltA lt)) (KK_mirror_equal ml al)
    rw [al i (Nat.zero_le _) (by omega),al j (Nat.zero_le _) hj]
    exact κ.irrefl _
   ·exact wpS_pure (fin m st b h3 h4 r)
  ·rw [if_neg c2]
   obtain rfl:m=1:=by omega
   exact down_part hc hk hn (by omega) b (one_Fz.snoc (by omega) (ltA lt)) fin
 ·obtain rfl:m=n:=by omega
  rw [if_pos (by rw [beq_iff_eq])]
  exact wpS_pure (fin m st b h3 h4 r)
theorem ins_sort {n ok:Nat} {Q:Bool→SortSt→Prop} (hc:CmpAt prog w A s κ kd) (hk:KeysOf κ xs0) (hn:n≤xs0.size) (h2:ok≤n) (b:Sst kd xs0 st) (r:Rz κ (arrOf st) ok)
  (fin:∀u,Sst kd xs0 u→Rz κ (arrOf u) n→Q true u):wpS (model prog w) A E s (binarySort' 0 n ok) Q st:=by
 rw [binarySort'_eq]
 simp only [Nat.zero_add]
 have start:Rz κ (arrOf st) (min (max ok 1) n):=fun i j hij hj=>by
  rcases Nat.lt_or_ge j ok with l | l
  ·exact r i j hij l
  ·obtain rfl:i=j:=by omega
   exact κ.irrefl _
 refine wpS_bind (wpS_mono (wpS_forRange (Q:=fun c u=>c=(none,())∧Sst kd xs0 u∧Rz κ (arrOf u) n) (fun k c u=>c=(none,())∧Sst kd xs0 u∧Rz κ (arrOf u) (min k n)) ?_ ?_ ⟨rfl,b,start⟩) ?_)
 ·rintro k _ u h3 h4 ⟨rfl,b',r'⟩
  rw [Nat.min_eq_left (Nat.le_of_lt h4)] at r'
  have kl:k<xs0.size:=by omega
  have ks:k<(arrOf u).size:=by rw [b'.sz];exact kl
  refine wpS_bind (wpS_mono (wpS_forRange (Q:=fun c v=>v=u∧∃p,c=(none,p,p)∧p≤k∧(∀i,i<p→κ.blt (KK κ (arrOf u) k) (KK κ (arrOf u) i)=false)∧∀i,p≤i→i<k→κ.blt (KK κ (arrOf u) k) (KK κ (arrOf u) i)=true)
   (fun x c v=>v=u∧∃p q,c=(none,p,q)∧p≤q∧q≤k∧q+x≤k+p∧(∀i,i<p→κ.blt (KK κ (arrOf u) k) (KK κ (arrOf u) i)=false)∧∀i,q≤i→i<k→κ.blt (KK κ (arrOf u) k) (KK κ (arrOf u) i)=true) ?_ ?_
   ⟨rfl,0,k,rfl,Nat.zero_le _,Nat.le_refl _,by omega,fun i h=>absurd h (Nat.not_lt_zero i),fun i h h'=>absurd h' (by omega)⟩) ?_)
  ·rintro x _ _ h5 h6 ⟨rfl,p,q,rfl,pq,qk,qx,lo,hi⟩
   dsimp only
   rcases Nat.lt_or_ge p q with c | c
   ·rw [if_neg (by omega)]
    refine wpS_bind (cmp_two hc hk b' kl (by omega) ?_)
    rcases e:κ.blt (KK κ (arrOf _) k) (KK κ (arrOf _) ((p+q) / 2)) with _ | _
    ·refine wpS_pure ⟨rfl,(p+q) / 2+1,q,rfl,by omega,qk,by omega,fun i h=>?_,hi⟩
     exact ltF (r' i ((p+q) / 2) (by omega) (by omega)) e
    ·refine wpS_pure ⟨rfl,p,(p+q) / 2,rfl,by omega,by omega,by omega,lo,fun i h h'=>?_⟩
     rcases κ.negTrans _ (KK κ (arrOf _) i) _ e with z | z
     ·exact z
     ·rw [r' _ i h h'] at z
      cases z
   ·rw [if_pos c]
    obtain rfl:p=q:=by omega
    exact wpS_pure ⟨rfl,p,rfl,qk,lo,hi⟩
  ·rintro _ _ ⟨rfl,p,q,rfl,pq,qk,qx,lo,hi⟩
   obtain rfl:p=q:=by omega
   exact ⟨rfl,p,rfl,qk,lo,hi⟩
  ·rintro _ _ ⟨rfl,p,rfl,pk,lo,hi⟩
   show wpS (model prog w) A E s (moveDown' k p >>= fun _=>pure (ForInStep.yield (none,()))) _ _
   rw [moveDown'_eq]
   refine wpS_bind (wpS_modify (wpS_pure ⟨rfl,b'.put (bubble_perm _ _ _),?_⟩))
   rw [Nat.min_eq_left h4]
   intro i j hij hj
   show κ.blt (KK κ (bubble (arrOf _) k (k - p)) j) (KK κ (bubble (arrOf _) k (k - p)) i)=false
   have at_:∀i,KK κ (bubble (arrOf _) k (k - p)) i=if i=p then KK κ (arrOf _) k else if p<i∧i≤k then KK κ (arrOf _) (i - 1) else KK κ (arrOf _) i:=fun i=>by
    rw [KK_bubble ks (Nat.sub_le _ _),show k - (k - p)=p by omega]
   rw [at_,at_]
   rcases Nat.lt_trichotomy j p with c | c | c
   ·rw [if_neg (by omega),if_neg (by omega),if_neg (by omega),if_neg (by omega)]
    exact r' i j hij (by omega)
   ·rw [if_pos c]
    rcases Nat.lt_or_ge i p with d | d
    ·rw [if_neg (by omega),if_neg (by omega)]
     exact lo i d
    ·rw [if_pos (by omega)]
     exact κ.irrefl _
   ·rw [if_neg (by omega),if_pos (by omega)]
    rcases Nat.lt_trichotomy i p with d | d | d
    ·rw [if_neg (by omega),if_neg (by omega)]
     exact r' i (j - 1) (by omega) (by omega)
    ·rw [if_pos d]
     exact ltA (hi (j - 1) (by omega) (by omega))
    ·rw [if_neg (by omega),if_pos (by omega)]
     exact r' (i - 1) (j - 1) (by omega) (by omega)
 ·rintro _ u ⟨h,b',r'⟩
  refine ⟨h,b',?_⟩
  rw [show min (max (max ok 1) n) n=n by omega] at r'
  exact r'
 ·rintro _ u ⟨rfl,b',r'⟩
  exact wpS_pure (fin u b' r')
theorem runs_up {Q:Unit→SortSt→Prop} (hc:CmpAt prog w A s κ kd) (hk:KeysOf κ xs0) (b:Sst kd xs0 st) (h2:2≤xs0.size) (h64:xs0.size<64)
  (fin:∀u,(arrOf u).Perm xs0→failedOf u=none→Rz κ (arrOf u) xs0.size→Q () u):wpS (model prog w) A E s sortRuns' Q st:=by
 have mr:minRun' xs0.size xs0.size 0=xs0.size:=by
  have e:∀f,minRun' (f+1) xs0.size 0=xs0.size:=fun f=>by rw [minRun'_succ,if_pos h64];rfl
  have:=e (xs0.size - 1)
  rwa [show xs0.size - 1+1=xs0.size by omega] at this
 rw [sortRuns'_eq]
 refine wpS_bind (wpS_get ?_)
 simp only [b.sz,mr]
 have done:∀{u:SortSt},Sst kd xs0 u→Rz κ (arrOf u) xs0.size→(arrOf (setPending u ((pendingOf u).push (0,xs0.size,0)))).Perm xs0∧failedOf (setPending u ((pendingOf u).push (0,xs0.size,0)))=none∧pendingOf (setPending u ((pendingOf u).push (0,xs0.size,0)))=#[(0,xs0.size,0)]∧Rz κ (arrOf (setPending u ((pendingOf u).push (0,xs0.size,0)))) xs0.size:=fun {u} b r=>⟨b.pm,b.fl,by show (pendingOf u).push _=_;rw [b.pd];rfl,r⟩
 refine wpS_bind (wpS_mono (wpS_forRange (Q:=fun c u=>c=(none,xs0.size)∧(arrOf u).Perm xs0∧failedOf u=none∧pendingOf u=#[(0,xs0.size,0)]∧Rz κ (arrOf u) xs0.size)
  (fun x c u=>(x=0→c=(none,0)∧Sst kd xs0 u)∧(1≤x→c=(none,xs0.size)∧(arrOf u).Perm xs0∧failedOf u=none∧pendingOf u=#[(0,xs0.size,0)]∧Rz κ (arrOf u) xs0.size)) ?_ ?_ ⟨fun _=>⟨rfl,b⟩,fun h=>absurd h (by decide)⟩) ?_)
 ·rintro x c u _ hx ⟨g0,g1⟩
  cases x with
  | succ x=>
   obtain ⟨rfl,g2⟩:=g1 (by omega)
   dsimp only
   rw [if_pos (Nat.le_refl _)]
   exact wpS_pure ⟨rfl,g2⟩
  | zero=>
   obtain ⟨rfl,b'⟩:=g0 rfl
   dsimp only
   rw [if_neg (by omega)]
   simp only [Nat.min_self,Nat.zero_add,Nat.sub_zero]
   refine wpS_bind (count_up hc hk (Nat.le_refl _) (by omega) b' fun l v bv l1 l2 r=>?_)
   dsimp only
   rcases Nat.lt_or_ge l xs0.size with c | c
   ·rw [if_pos c]
    refine wpS_bind (m:=liftM (rule _)) (wpS_lift (wpAny_rule ⟨rfl,?_⟩))
    refine wpS_bind (ins_sort hc hk (Nat.le_refl _) l2 bv r fun y b3 r3=>?_)
    rw [Bool.not_true,if_neg Bool.false_ne_true]
    refine wpS_bind (wpS_get ?_)
    rw [show (pendingOf y).back?=none by rw [b3.pd];rfl]
    exact wpS_bind (wpS_modify (wpS_pure ⟨fun h=>absurd h (by decide),fun _=>⟨rfl,done b3 r3⟩⟩))
   ·rw [if_neg (by omega)]
    obtain rfl:l=xs0.size:=by omega
    refine wpS_bind (wpS_get ?_)
    rw [show (pendingOf v).back?=none by rw [bv.pd];rfl]
    exact wpS_bind (wpS_modify (wpS_pure ⟨fun h=>absurd h (by decide),fun _=>⟨rfl,done bv r⟩⟩))
 ·rintro c u ⟨_,g1⟩
  exact g1 (by omega)
 ·rintro _ u ⟨rfl,g1,g2,g3,g4⟩
  dsimp only
  refine wpS_bind (wpS_mono (wpS_forRange (Q:=fun c v=>v=u∧c=(none,())) (fun _ c v=>v=u∧c=(none,())) ?_ (fun _ _ h=>h) ⟨rfl,rfl⟩) ?_)
  ·rintro x _ _ _ _ ⟨rfl,rfl⟩
   refine wpS_bind (wpS_get ?_)
   rw [if_pos (by rw [g3];exact Nat.le_refl 1)]
   exact wpS_pure ⟨rfl,rfl⟩
  ·rintro _ _ ⟨rfl,rfl⟩
   exact wpS_pure (fin _ g1 g2 g4)
end
noncomputable def intO:KeyOrd where
 α:=Int
 blt a b:=decide (a<b)
 irrefl a:=decide_eq_false (Int.lt_irrefl a)
 trans a b c h g:=decide_eq_true (Int.lt_trans (of_decide_eq_true h) (of_decide_eq_true g))
 negTrans a b c h:=by
  have h:=of_decide_eq_true h
  rcases Int.lt_or_le a b with q | q
  ·exact .inl (decide_eq_true q)
  ·exact .inr (decide_eq_true (by omega))
 total a b h g:=by
  have h:=of_decide_eq_false h
  have g:=of_decide_eq_false g
  omega
noncomputable def lexB (O U:KeyOrd) (a b:O.α×U.α):Bool:=O.blt a.1 b.1 || (!O.blt b.1 a.1 && U.blt a.2 b.2)
theorem lex_iff {O U:KeyOrd} {a b:O.α×U.α}:lexB O U a b=true↔O.blt a.1 b.1=true∨(a.1=b.1∧U.blt a.2 b.2=true):=by
 unfold lexB
 constructor
 ·intro h
  rcases e:O.blt a.1 b.1 with _ | _
  ·rw [e,Bool.false_or,Bool.and_eq_true,Bool.not_eq_true'] at h
   exact .inr ⟨O.total _ _ e h.1,h.2⟩
  ·exact .inl rfl
 ·rintro (h | ⟨e,h⟩)
  ·rw [h,Bool.true_or]
  ·rw [e,O.irrefl,Bool.false_or,h]
   rfl
noncomputable def lexO (O U:KeyOrd):KeyOrd where
 α:=O.α×U.α
 blt:=lexB O U
 irrefl a:=by
  rcases e:lexB O U a a with _ | _
  ·rfl
  ·rcases lex_iff.mp e with h | ⟨_,h⟩
   ·rw [O.irrefl] at h;exact h.symm
   ·rw [U.irrefl] at h;exact h.symm
 trans a b c h g:=by
  rw [lex_iff] at *
  rcases h with h | ⟨e,h⟩
  ·rcases g with g | ⟨e',g⟩
   ·exact .inl (O.trans _ _ _ h g)
   ·exact .inl (e' ▸ h)
  ·rcases g with g | ⟨e',g⟩
   ·exact .inl (e ▸ g)
   ·exact .inr ⟨e.trans e',U.trans _ _ _ h g⟩
 negTrans a b c h:=by
  rw [lex_iff] at *
  rw [lex_iff]
  rcases h with h | ⟨e,h⟩
  ·rcases O.negTrans _ b.1 _ h with q | q
   ·exact .inl (.inl q)
   ·exact .inr (.inl q)
  ·rcases e1:O.blt a.1 b.1 with _ | _
   ·rcases e2:O.blt b.1 a.1 with _ | _
    ·have ab:=O.total _ _ e1 e2
     rcases U.negTrans _ b.2 _ h with q | q
     ·exact .inl (.inr ⟨ab,q⟩)
     ·exact .inr (.inr ⟨ab.symm.trans e,q⟩)
    ·exact .inr (.inl (e ▸ e2))
   ·exact .inl (.inl rfl)
 total a b h g:=by
  have n1:∀{a b:O.α×U.α},lexB O U a b=false→O.blt a.1 b.1=false:=fun {a b} h=>by
   rcases e:O.blt a.1 b.1 with _ | _
   ·rfl
   ·rw [lex_iff.mpr (.inl e)] at h;exact h
  have e:=O.total _ _ (n1 h) (n1 g)
  have n2:∀{a b:O.α×U.α},a.1=b.1→lexB O U a b=false→U.blt a.2 b.2=false:=fun {a b} e h=>by
   rcases q:U.blt a.2 b.2 with _ | _
   ·rfl
   ·rw [lex_iff.mpr (.inr ⟨e,q⟩)] at h;exact h
  exact Prod.ext e (U.total _ _ (n2 e h) (n2 e.symm g))
noncomputable def relK (O:KeyOrd) (R:Value→O.α→Prop) (d:O.α):KeyKind:={O with keyOf:=fun v=>open Classical in if h:∃a,R v a then some h.choose else none,dflt:=d}
theorem relK_of {O:KeyOrd} {R:Value→O.α→Prop} {d:O.α} {v:Value} {a:O.α} (h:(relK O R d).keyOf v=some a):R v a:=by
 unfold relK at h
 simp only at h
 split at h
 ·rename_i q
  cases h
  exact q.choose_spec
 ·cases h
theorem relK_at {O:KeyOrd} {R:Value→O.α→Prop} {d:O.α} {v:Value} {a:O.α} (h:R v a):∃b,(relK O R d).keyOf v=some b:=by
 refine ⟨(⟨a,h⟩:∃a,R v a).choose,?_⟩
 unfold relK
 simp only
 rw [dif_pos ⟨a,h⟩]
noncomputable def eqO (O:KeyOrd) (a b:O.α):Bool:=!O.blt a b && !O.blt b a
theorem eqO_iff {O:KeyOrd} {a b:O.α}:eqO O a b=true↔a=b:=by
 unfold eqO
 constructor
 ·intro h
  rw [Bool.and_eq_true,Bool.not_eq_true',Bool.not_eq_true'] at h
  exact O.total _ _ h.1 h.2
 ·rintro rfl
  rw [O.irrefl]
  rfl
noncomputable def TupsStay (h h':Heap):Prop:=∀b o,h.get? b=some o→o.cls=.type "tuple"→h'.get? b=some o
structure El (prog:Program) (w:World) (O:KeyOrd) (R:Heap→Value→O.α→Prop) (T:String):Prop where
 mono:∀{h h':Heap} {v:Value} {a:O.α},TupsStay h h'→R h v a→R h' v a
 fn:∀{h:Heap} {v:Value} {a b:O.α},R h v a→R h v b→a=b
 ty:∀{s:Shared} {v:Value} {a:O.α},R s.heap v a→s.TypeIs v T
 eq:∀{A:Around} {E:Value→Shared→Prop} {s:Shared} {u v:Value} {a b:O.α} {Q:Bool→Shared→Prop},A.units+8<cLine→R s.heap u a→R s.heap v b→Q (eqO O a b) s→wpAny (model prog w) A (eqBool u v) Q E s
 lt:∀{A:Around} {E:Value→Shared→Prop} {s:Shared} {u v:Value} {a b:O.α} {Q:Bool→Shared→Prop} (f:Bool),(f=true→T≠"tuple")→A.units+8<cLine→R s.heap u a→R s.heap v b→Q (O.blt a b) s→wpAny (model prog w) A (oneLt' f u v) Q E s
theorem eqI (a b:Int):(a == b)=eqO intO a b:=by
 rw [Bool.eq_iff_iff,beq_iff_eq]
 exact (eqO_iff (O:=intO)).symm
noncomputable def IntR (_:Heap) (v:Value) (a:intO.α):Prop:=∃t,v=.int a t
theorem el_int {prog:Program} {w:World}:El prog w intO IntR "int" where
 mono _ h:=h
 fn h g:=by
  obtain ⟨t,rfl⟩:=h
  obtain ⟨u,e⟩:=g
  cases e
  rfl
 ty h:=by
  obtain ⟨t,rfl⟩:=h
  exact typeIs_int _ _ _
 eq {A E s u v a b Q} _ h g q:=by
  obtain ⟨t,rfl⟩:=h
  obtain ⟨u,rfl⟩:=g
  refine wpAny_eqBool_int ?_
  exact (eqI a b) ▸ q
 lt {A E s u v a b Q} f _ _ h g q:=by
  obtain ⟨t,rfl⟩:=h
  obtain ⟨u,rfl⟩:=g
  cases f with
  | true=>exact oneLt_int q
  | false=>
   rw [oneLt'_eq]
   rw [if_neg Bool.false_ne_true]
   exact wpAny_bind (wpAny_richCompare_same (op:=.Lt) (typeIs_int _ _ _) (typeIs_int _ _ _) slot_int_lt (call_int_lt ⟨(fun x=>nomatch x),wpAny_truthy_bool q⟩))
noncomputable def strO:KeyOrd:=strKind.toKeyOrd
noncomputable def StrR (_:Heap) (v:Value) (a:strO.α):Prop:=∃z t,v=.str z t∧z.cps.toList=a
noncomputable def PairR {O U:KeyOrd} (R:Heap→Value→O.α→Prop) (S:Heap→Value→U.α→Prop) (h:Heap) (v:Value) (a:O.α×U.α):Prop:=
 ∃c o n x y,v=.ref c∧h.get? c=some o∧o.cls=.type "tuple"∧o.data=.seq #[x,y] n∧R h x a.1∧S h y a.2
section
variable {prog:Program} {w:World} {O U:KeyOrd} {R:Heap→Value→O.α→Prop} {S:Heap→Value→U.α→Prop} {T V:String}
theorem pair_mono (e:El prog w O R T) (f:El prog w U S V) {h h':Heap} {v:Value} {a:O.α×U.α} (st:TupsStay h h') (p:PairR R S h v a):PairR R S h' v a:=by
 obtain ⟨c,o,n,x,y,rfl,ho,hc,hd,h1,h2⟩:=p
 exact ⟨c,o,n,x,y,rfl,st _ _ ho hc,hc,hd,e.mono st h1,f.mono st h2⟩
theorem pair_fn (e:El prog w O R T) (f:El prog w U S V) {h:Heap} {v:Value} {a b:O.α×U.α} (p:PairR R S h v a) (q:PairR R S h v b):a=b:=by
 obtain ⟨c,o,n,x,y,rfl,ho,hc,hd,h1,h2⟩:=p
 obtain ⟨c',o',n',x',y',e1,ho',hc',hd',g1,g2⟩:=q
 cases e1
 rw [ho] at ho'
 cases ho'
 rw [hd] at hd'
 cases hd'
 exact Prod.ext (e.fn h1 g1) (f.fn h2 g2)
theorem keyLt_tup (b:Bool) (x y:Value):keyLt' (tuples' b) x y=(do
  let xs ←Builtin.List.listItems x
  let ys ←Builtin.List.listItems y
  for ((p,q),i) in (xs.toList.zip ys.toList).zipIdx do
   if !(←eqBool p q) then return ←oneLt' (b && i == 0) p q
  return decide (xs.size<ys.size)):=rfl
theorem lt_pair (e:El prog w O R T) (f:El prog w U S V) {A:Around} {E:Value→Shared→Prop} {s:Shared} {x y:Value} {a b:O.α×U.α} {Q:Bool→Shared→Prop} (hu:A.units+8<cLine) (bb:Bool) (hb:bb=true→T≠"tuple")
  (ha:PairR R S s.heap x a) (hb':PairR R S s.heap y b) (q:Q (lexB O U a b) s):wpAny (model prog w) A (keyLt' (tuples' bb) x y) Q E s:=by
 obtain ⟨c,o,n,x1,x2,rfl,ho,hc,hd,h1,h2⟩:=ha
 obtain ⟨c',o',n',y1,y2,rfl,ho',hc',hd',g1,g2⟩:=hb'
 rw [keyLt_tup]
 refine wpAny_bind (listItems_at ho hd ?_)
 refine wpAny_bind (listItems_at ho' hd' ?_)
 show wpAny _ _ (forIn [((x1,y1),0),((x2,y2),1)] _ _ >>= _) _ _ s
 rw [List.forIn_cons]
 refine wpAny_bind (wpAny_bind (wpAny_bind (e.eq hu h1 g1 ?_)))
 rcases e1:eqO O a.1 b.1 with _ | _
 ·rw [Bool.not_false,if_pos rfl]
  have ne:a.1≠b.1:=fun z=>by rw [eqO_iff.mpr z] at e1;cases e1
  have q:Q (O.blt a.1 b.1) s:=by
   have z:lexB O U a b=O.blt a.1 b.1:=by
    rw [Bool.eq_iff_iff,lex_iff]
    exact ⟨fun h=>h.elim id fun h=>absurd h.1 ne,.inl⟩
   rw [z] at q
   exact q
  exact wpAny_bind (e.lt _ (fun z=>hb (by rw [Bool.and_eq_true] at z;exact z.1)) hu h1 g1 (wpAny_pure (wpAny_pure (wpAny_pure q))))
 ·rw [Bool.not_true,if_neg Bool.false_ne_true]
  have ea:=eqO_iff.mp e1
  refine wpAny_pure ?_
  show wpAny _ _ (forIn [((x2,y2),1)] _ _) _ _ s
  rw [List.forIn_cons]
  refine wpAny_bind (wpAny_bind (f.eq hu h2 g2 ?_))
  rcases e2:eqO U a.2 b.2 with _ | _
  ·rw [Bool.not_false,if_pos rfl]
   have q:Q (U.blt a.2 b.2) s:=by
    have z:lexB O U a b=U.blt a.2 b.2:=by
     rw [Bool.eq_iff_iff,lex_iff]
     constructor
     ·rintro (h | h)
      ·rw [ea,O.irrefl] at h;cases h
      ·exact h.2
     ·exact fun h=>.inr ⟨ea,h⟩
    rw [z] at q
    exact q
   exact wpAny_bind (f.lt _ (fun z=>by rw [Bool.and_eq_true] at z;exact absurd z.2 (by decide)) hu h2 g2 (wpAny_pure (wpAny_pure (wpAny_pure q))))
  ·rw [Bool.not_true,if_neg Bool.false_ne_true]
   have eb:=eqO_iff.mp e2
   have q:Q false s:=by
    have z:lexB O U a b=false:=by
     rcases y:lexB O U a b with _ | _
     ·rfl
     ·rcases lex_iff.mp y with h | h
      ·rw [ea,O.irrefl] at h;exact h.symm
      ·rw [eb,U.irrefl] at h;exact h.2.symm
    rw [z] at q
    exact q
   refine wpAny_pure ?_
   show wpAny _ _ (forIn [] _ _) _ _ s
   rw [List.forIn_nil]
   exact wpAny_pure (wpAny_pure q)
theorem cmp_pair (e:El prog w O R T) (f:El prog w U S V) {A:Around} {s:Shared} (hu:A.units+8<cLine) (d:O.α×U.α) (bb:Bool) (hb:bb=true→T≠"tuple"):CmpAt prog w A s (relK (lexO O U) (PairR R S s.heap) d) (tuples' bb):=
 fun E x y a b Q ha hb' q=>lt_pair e f hu bb hb (relK_of ha) (relK_of hb') q
theorem lexLt_two (a b:Int×Int):HT.lexLt [a.1,a.2] [b.1,b.2]=lexB intO intO a b:=by
 rw [Bool.eq_iff_iff]
 refine Iff.trans ?_ (lex_iff (O:=intO) (U:=intO) (a:=a) (b:=b)).symm
 rw [HT.lexLt_cons,HT.lexLt_cons,HT.lexLt_nil_nil]
 show _↔decide (a.1<b.1)=true∨(a.1=b.1∧decide (a.2<b.2)=true)
 rw [decide_eq_true_iff,decide_eq_true_iff]
 by_cases c:a.1=b.1
 ·rw [if_pos c]
  by_cases c2:a.2=b.2
  ·rw [if_pos c2]
   exact ⟨fun h=>(by cases h),fun h=>by omega⟩
  ·rw [if_neg c2,decide_eq_true_iff]
   exact ⟨fun h=>.inr ⟨c,h⟩,fun h=>by omega⟩
 ·rw [if_neg c,decide_eq_true_iff]
  exact ⟨.inl,fun h=>by omega⟩
noncomputable def TwoR:Heap→Value→(lexO intO intO).α→Prop:=PairR IntR IntR
theorem two_ints {h:Heap} {v:Value} {a:Int×Int} (p:TwoR h v a):∃c its,v=.ref c∧IsTup h c its∧IntsAre its.toList [a.1,a.2]:=by
 obtain ⟨c,o,n,x,y,rfl,ho,hc,hd,⟨t,rfl⟩,⟨u,rfl⟩⟩:=p
 exact ⟨c,_,rfl,⟨o,ho,hc,n,hd⟩,.cons _ _ (.cons _ _ .nil)⟩
theorem two_key {h:Heap} {v:Value} {a:Int×Int} (p:TwoR h v a):∃c,v=.ref c∧IsTupleKey (mixKind prog w) h [.inl a.1,.inl a.2] c:=by
 obtain ⟨c,o,n,x,y,rfl,ho,hc,hd,⟨t,rfl⟩,⟨u,rfl⟩⟩:=p
 exact ⟨c,rfl,o,_,n,ho,hc,hd,.cons (mixKind_int prog w _ _) (.cons (mixKind_int prog w _ _) .nil)⟩
theorem el_two:El prog w (lexO intO intO) TwoR "tuple" where
 mono st p:=pair_mono (prog:=prog) (w:=w) el_int el_int st p
 fn p q:=pair_fn (prog:=prog) (w:=w) el_int el_int p q
 ty p:=by
  obtain ⟨c,its,rfl,t,_⟩:=two_ints p
  exact t.typeIs
 eq {A E s u v a b Q} hu p p' q:=by
  obtain ⟨c,rfl,k⟩:=two_key (prog:=prog) (w:=w) p
  obtain ⟨c',rfl,k'⟩:=two_key (prog:=prog) (w:=w) p'
  refine wpAny_eqBool_tuple (Nat.lt_of_le_of_lt (Nat.le_add_right _ 8) hu) k k' ?_
  have z:decide (([.inl a.1,.inl a.2]:List Key)=[.inl b.1,.inl b.2])=eqO (lexO intO intO) a b:=by
   rw [Bool.eq_iff_iff,decide_eq_true_iff,eqO_iff]
   constructor
   ·intro h
    injection h with h1 h2
    injection h2 with h2 _
    exact Prod.ext (Sum.inl.inj h1) (Sum.inl.inj h2)
   ·rintro rfl
    rfl
  rw [z]
  exact q
 lt {A E s u v a b Q} f hf hu p p' q:=by
  obtain ⟨c,its,rfl,t,i⟩:=two_ints p
  obtain ⟨c',its',rfl,t',i'⟩:=two_ints p'
  cases f with
  | true=>exact absurd rfl (hf rfl)
  | false=>
   rw [oneLt'_eq]
   rw [if_neg Bool.false_ne_true]
   refine wpAny_bind (HT.lt_tupInts t t' i i' (Nat.lt_of_le_of_lt (Nat.le_add_right _ 8) hu) (wpAny_truthy_bool ?_))
   exact (lexLt_two a b) ▸ q
end
section
variable {prog:Program} {w:World} {A:Around} {E:Value→Shared→Prop} {s:Shared}
theorem wp_mapM {M:Model} {β:Type} {f:Value→Sem β} (F:β→Prop):∀(vs:List Value),(∀v∈vs,∃y,F y∧∀Q:β→Shared→Prop,Q y s→wpAny M A (f v) Q E s)→∃ys:List β,ys.length=vs.length∧(∀y∈ys,F y)∧∀Q:List β→Shared→Prop,Q ys s→wpAny M A (vs.mapM f) Q E s
 | [],_=>⟨[],rfl,(fun _ h=>nomatch h),fun Q q=>by rw [List.mapM_nil];exact wpAny_pure q⟩
 | v::vs,h=>by
  obtain ⟨y,fy,hy⟩:=h v (.head _)
  obtain ⟨ys,l,fys,hys⟩:=wp_mapM F vs fun x hx=>h x (.tail _ hx)
  refine ⟨y::ys,by rw [List.length_cons,List.length_cons,l],fun z hz=>?_,fun Q q=>?_⟩
  ·rcases List.mem_cons.mp hz with e | e
   ·rw [e];exact fy
   ·exact fys z e
  ·rw [List.mapM_cons]
   exact wpAny_bind (hy _ (wpAny_bind (hys _ (wpAny_pure q))))
theorem first_eq (v:Value):firstOfTuple' v=(do
  if (←typeOf v) != .type "tuple" then return none
  return (←Builtin.List.listItems v)[0]?):=rfl
variable {O U:KeyOrd} {R:Heap→Value→O.α→Prop} {S:Heap→Value→U.α→Prop} {T V:String}
theorem kind_pair (e:El prog w O R T) {vs:List Value} (h:∀v∈vs,∃a,PairR R S s.heap v a) (hn:vs≠[]) {Q:SortKind→Shared→Prop} (q:Q (tuples' (decide (T≠"tuple"))) s):wpAny (model prog w) A (keyKind' vs.toArray) Q E s:=by
 rw [keyKind'_eq,List.mapM_toArray]
 obtain ⟨ys,yl,yf,hy⟩:=wp_mapM (M:=model prog w) (A:=A) (E:=E) (s:=s) (f:=firstOfTuple') (fun y=>∃x,y=some x∧s.TypeIs x T) vs fun v hv=>by
  obtain ⟨a,c,o,n,x,y,rfl,ho,hc,hd,h1,h2⟩:=h v hv
  refine ⟨some x,⟨x,rfl,e.ty h1⟩,fun Q q=>?_⟩
  rw [first_eq]
  refine wpAny_bind (wpAny_typeOf (T:="tuple") ⟨o,ho,hc⟩ ?_)
  rw [if_neg (by decide)]
  exact wpAny_bind (listItems_at ho hd (wpAny_pure q))
 refine wpAny_bind (wpAny_map ?_)
 refine hy _ ?_
 have al:ys.toArray.all (·.isSome)=true:=by
  rw [List.all_toArray,List.all_eq_true]
  intro y hy
  obtain ⟨x,rfl,_⟩:=yf y hy
  rfl
 rw [if_pos al]
 refine wpAny_bind (wpAny_rule ?_)
 rw [oneTypeOnly'_eq,List.filterMap_toArray,List.mapM_toArray]
 have ht:∀x∈ys.filterMap id,s.TypeIs x T:=fun x hx=>by
  obtain ⟨y,hy,ey⟩:=List.mem_filterMap.mp hx
  obtain ⟨x',rfl,t⟩:=yf y hy
  cases (show x'=x from Option.some.inj ey)
  exact t
 obtain ⟨ts,tl,tf,htt⟩:=wp_mapM (M:=model prog w) (A:=A) (E:=E) (s:=s) (f:=typeOf) (fun y=>y=.type T) (ys.filterMap id) fun v hv=>⟨_,rfl,fun Q q=>wpAny_typeOf (ht v hv) q⟩
 refine wpAny_bind (wpAny_bind (wpAny_map ?_))
 refine htt _ ?_
 have fl:(ys.filterMap id).length=ys.length:=by
  clear hy al ht htt tl tf yl
  induction ys with
  | nil=>rfl
  | cons y ys ih=>
   obtain ⟨x,rfl,_⟩:=yf y (.head _)
   rw [show List.filterMap id (some x::ys)=x::ys.filterMap id from rfl,List.length_cons,List.length_cons,ih fun z hz=>yf z (.tail _ hz)]
 cases ts with
 | nil=>
  rw [List.length_nil,fl,yl] at tl
  exact absurd (List.eq_nil_of_length_eq_zero tl.symm) hn
 | cons t ts=>
  have t0:t=.type T:=tf t (.head _)
  subst t0
  show wpAny _ _ (pure (if ((Value.type T::ts).toArray.all (· == Value.type T))=true then some (Value.type T) else none)) _ _ s
  rw [if_pos (by
   rw [List.all_toArray,List.all_eq_true]
   intro y hy
   rw [tf y hy]
   exact beq_self_eq_true _)]
  refine wpAny_pure (wpAny_pure ?_)
  have z:(some (Value.type T)).any (· != Value.type "tuple")=decide (T≠"tuple"):=by
   show (Value.type T != Value.type "tuple")=_
   rw [Bool.eq_iff_iff,bne_iff_ne,decide_eq_true_iff]
   exact ⟨fun h e=>h (by rw [e]),fun h e=>h (by injection e)⟩
  rw [z]
  exact q
noncomputable def RisR {O:KeyOrd} (R:Value→O.α→Prop) (vs:List Value):Prop:=vs.Pairwise fun x y=>∀a b,R x a→R y b→O.blt b a=false
theorem zip_self {vs:List Value} {p:Value×Value} (h:p∈vs.zip vs):p.1=p.2∧p.1∈vs:=mem_zip_self h
theorem out_sorted {O:KeyOrd} {R:Value→O.α→Prop} (fn:∀{v a b},R v a→R v b→a=b) {d:O.α} {vs:List Value} (hk:∀v∈vs,∃a,R v a) {xs:Array Keyed} (pm:xs.Perm (pairsOf vs)) (r:Rz (relK O R d) xs (pairsOf vs).size):
  (xs.map (·.2)).toList.Perm vs∧RisR R (xs.map (·.2)).toList:=by
 have pl:xs.toList.Perm (vs.zip vs):=by rw [←pairsOf_toList];exact Array.perm_iff_toList_perm.mp pm
 have both:∀p∈xs.toList,p.1=p.2∧p.1∈vs:=fun p hp=>zip_self (pl.mem_iff.mp hp)
 rw [Array.toList_map]
 constructor
 ·have q:=pl.map Prod.snd
  rw [List.map_snd_zip (Nat.le_refl _)] at q
  exact q
 ·unfold RisR
  rw [List.pairwise_iff_getElem]
  intro i j hi hj hij a b ha hb
  rw [List.length_map] at hi hj
  have hi':i<xs.size:=by rw [←Array.length_toList];exact hi
  have hj':j<xs.size:=by rw [←Array.length_toList];exact hj
  have key:∀{k:Nat} (hk':k<xs.size) {c:O.α},R xs[k].2 c→KK (relK O R d) xs k=c:=by
   intro k hk' c hc
   have e:=(both xs[k] (Array.mem_toList_iff.mpr (Array.getElem_mem hk'))).1
   rw [←e] at hc
   obtain ⟨c',h'⟩:=relK_at (d:=d) hc
   have:c'=c:=fn (relK_of h') hc
   unfold KK
   rw [Array.getElem?_eq_getElem hk']
   show ((relK O R d).keyOf xs[k].1).getD _=c
   rw [h',this]
   rfl
  rw [List.getElem_map,Array.getElem_toList] at ha hb
  have q:=r i j (Nat.le_of_lt hij) (by rw [←pm.size_eq];exact hj')
  rw [key hi' ha,key hj' hb] at q
  exact q
theorem far_push {h:Heap} {l b:Addr} {g:Obj→Obj} {o1 o2:Obj} (lt:b<h.objs.size):(((h.update l g).push o1).push o2).get? b=(h.update l g).get? b:=by
 have l1:b<(h.update l g).objs.size:=by rw [Heap.size_update];exact lt
 rw [Heap.get?_push_ne _ _ _ (Nat.ne_of_lt (by rw [size_push'];exact Nat.lt_succ_of_lt l1)),Heap.get?_push_ne _ _ _ (Nat.ne_of_lt l1)]
theorem stay_sort {h:Heap} {l:Addr} {vs:List Value} {n:Nat} (ho:h.get? l=some (seqObj "list" vs.toArray n)) (o1 o2:Obj):TupsStay h (((h.update l (Obj.mapSeq fun _=>#[])).push o1).push o2):=by
 intro b o hb hc
 have ne:b≠l:=fun z=>by
  rw [z,ho] at hb
  cases hb
  exact absurd hc (by show ¬Value.type "list"=Value.type "tuple";intro z;injection z with z;exact absurd z (by decide))
 have lt:=Heap.lt_size hb
 rw [far_push lt,Heap.get?_update_ne _ _ _ _ ne]
 exact hb
theorem sort_pairs (e:El prog w O R T) (f:El prog w U S V) {l:Addr} {vs:List Value} {n:Nat} {P:Fin→Shared→Prop} (ho:s.heap.get? l=some (seqObj "list" vs.toArray n)) (hk:∀v∈vs,∃a,PairR R S s.heap v a) (h64:vs.length<64) (hu:A.units+8<cLine) (d:O.α×U.α)
  (fin:∀out:Array Value,out.toList.Perm vs→RisR (O:=lexO O U) (PairR R S s.heap) out.toList→P (.done (.ret .none)) {s with heap:=sortedHeap s.heap l vs out}):wpAny (model prog w) A (Builtin.«list.sort» ⟨[.ref l],[]⟩) P E s:=by
 rw [list_sort_plain]
 refine wpAny_bind (listItems_at ho rfl ?_)
 refine wpAny_bind (listUpdate_at ho rfl ?_)
 obtain ⟨e1,ho1⟩:∃m,(s.heap.update l (Obj.mapSeq fun _=>#[])).get? l=some (seqObj "list" #[] m):=⟨_,get?_update_seq ho fun _=>#[]⟩
 refine wpAny_bind (seqEpoch_at ho1 rfl ?_)
 refine wpAny_bind (wpAny_newTuple ?_)
 refine wpAny_bind (wpAny_newList ?_)
 refine wpAny_holding ?_
 have ll:=Heap.lt_size ho
 have ho2:(((s.heap.update l (Obj.mapSeq fun _=>#[])).push (seqObj "tuple" vs.toArray 0)).push (seqObj "list" #[] 0)).get? l=some (seqObj "list" #[] e1):=by
  rw [far_push ll]
  exact ho1
 have st:=stay_sort ho (seqObj "tuple" vs.toArray 0) (seqObj "list" #[] 0)
 have hk':∀v∈vs,∃a,PairR R S (((s.heap.update l (Obj.mapSeq fun _=>#[])).push (seqObj "tuple" vs.toArray 0)).push (seqObj "list" #[] 0)) v a:=fun v hv=>let ⟨a,h⟩:=hk v hv;⟨a,pair_mono e f st h⟩
 have back:∀{v a},v∈vs→PairR R S s.heap v a→PairR R S (((s.heap.update l (Obj.mapSeq fun _=>#[])).push (seqObj "tuple" vs.toArray 0)).push (seqObj "list" #[] 0)) v a:=fun _ h=>pair_mono e f st h
 show wpAny (model prog w) A _ P E {s with heap:=((s.heap.update l (Obj.mapSeq fun _=>#[])).push (seqObj "tuple" vs.toArray 0)).push (seqObj "list" #[] 0)}
 dsimp only
 have vsz:vs.toArray.size=vs.length:=List.size_toArray
 have finish:∀u:SortSt,(arrOf u).Perm (pairsOf vs)→failedOf u=none→Rz (relK (lexO O U) (PairR R S (((s.heap.update l (Obj.mapSeq fun _=>#[])).push (seqObj "tuple" vs.toArray 0)).push (seqObj "list" #[] 0))) d) (arrOf u) (pairsOf vs).size→
   P (.done (.ret .none)) {s with heap:=sortedHeap s.heap l vs ((arrOf u).map (·.2))}:=fun u pm _ r=>by
  obtain ⟨p1,p2⟩:=out_sorted (O:=lexO O U) (R:=PairR R S (((s.heap.update l (Obj.mapSeq fun _=>#[])).push (seqObj "tuple" vs.toArray 0)).push (seqObj "list" #[] 0))) (fun h g=>pair_fn e f h g) hk' pm r
  exact fin _ p1 (p2.imp_of_mem fun {x y} hx hy h a b ha hb=>h a b (back (p1.mem_iff.mp hx) ha) (back (p1.mem_iff.mp hy) hb))
 by_cases c:vs.toArray.size<2
 ·rw [if_pos c,if_pos c]
  refine wpAny_bind (wpAny_pure ?_)
  rw [StateT.run_pure]
  refine wpAny_bind (wpAny_pure ?_)
  dsimp only
  refine wpAny_bind (seqEpoch_at ho2 rfl ?_)
  refine wpAny_bind (listUpdate_at ho2 rfl ?_ (hsz2:=by rw [Array.size_map];show (pairsOf vs).size≤_;rw [pairsOf_size];exact Nat.le_trans (Nat.le_of_lt h64) (by decide)))
  rw [show (e1 != e1)=false from bne_self_eq_false e1]
  rw [if_neg Bool.false_ne_true]
  refine wpAny_pure (finish (SortSt.mk' general' (vs.toArray.zip vs.toArray) #[] 7 none) (Array.Perm.refl _) rfl fun i j hij hj=>?_)
  obtain rfl:i=j:=by rw [pairsOf_size] at hj;omega
  exact (relK (lexO O U) _ d).irrefl _
 ·rw [if_neg c,if_neg c]
  have vn:vs≠[]:=fun z=>by rw [z] at c;exact c (by decide)
  refine wpAny_bind (kind_pair (O:=O) (U:=U) e hk' vn ?_)
  have hc:=cmp_pair (A:=A) (s:={s with heap:=((s.heap.update l (Obj.mapSeq fun _=>#[])).push (seqObj "tuple" vs.toArray 0)).push (seqObj "list" #[] 0)}) e f hu d (decide (T≠"tuple")) (fun z=>of_decide_eq_true z)
  refine wpAny_bind (wpAny_mono (runs_up (E:=E) (xs0:=pairsOf vs) (st:=SortSt.mk' (tuples' (decide (T≠"tuple"))) (vs.toArray.zip vs.toArray) #[] 7 none) (Q:=fun _ u=>(arrOf u).Perm (pairsOf vs)∧failedOf u=none∧Rz _ (arrOf u) (pairsOf vs).size) hc
   (fun p hp=>?_) ⟨Array.Perm.refl _,rfl,rfl,rfl⟩ (by rw [pairsOf_size];omega) (by rw [pairsOf_size];exact h64) fun u a1 a2 a3=>⟨a1,a2,a3⟩) ?_ fun _ _ z=>z)
  ·rw [pairsOf_toList] at hp
   obtain ⟨a,ha⟩:=hk' p.1 (zip_self hp).2
   exact relK_at ha
  rintro ⟨⟨⟩,u⟩ s2 ⟨rfl,pm,fl,r⟩
  dsimp only
  refine wpAny_bind (seqEpoch_at ho2 rfl ?_)
  refine wpAny_bind (listUpdate_at ho2 rfl ?_ (hsz2:=by rw [Array.size_map];exact Nat.le_trans (Nat.le_of_eq (pm.size_eq.trans (pairsOf_size _))) (Nat.le_trans (Nat.le_of_lt h64) (by decide))))
  rw [fl]
  rw [show (e1 != e1)=false from bne_self_eq_false e1]
  rw [if_neg Bool.false_ne_true]
  exact wpAny_pure (finish u pm fl r)
end
section
variable {prog:Program} {w:World} {A:Around} {E:Value→Shared→Prop} {s:Shared}
end
section
variable {X:Cx}
theorem perm_refs {as:List Addr} {out:List Value} (h:out.Perm (as.map Value.ref)):∃bs:List Addr,bs.Perm as∧out=bs.map Value.ref:=by
 let g:Value→Addr:=fun v=>match v with | .ref a=>a | _=>0
 refine ⟨out.map g,?_,?_⟩
 ·have q:=h.map g
  rw [List.map_map] at q
  rw [show (g∘Value.ref)=id from rfl,List.map_id] at q
  exact q
 ·rw [List.map_map]
  have e:∀l:List Value,(∀v∈l,∃a,v=.ref a)→l=l.map (Value.ref∘g):=fun l hl=>by
   induction l with
   | nil=>rfl
   | cons v l ih=>
    obtain ⟨a,rfl⟩:=hl v (.head _)
    rw [List.map_cons,←ih fun x hx=>hl x (.tail _ hx)]
    rfl
  exact e out fun v hv=>by
   obtain ⟨a,_,rfl⟩:=List.mem_map.mp (h.mem_iff.mp hv)
   exact ⟨a,rfl⟩
noncomputable def rSortG {O:KeyOrd} (F:Hp→Addr→O.α→Prop):List V→Hp→VK→Prop:=fun xs H Q=>∃(p:Addr) (as:List Addr),xs=[.ref p]∧(H p=some (.lst (as.map V.ref))∨H p=some (.tup (as.map V.ref)))∧as.length<64∧(∀a∈as,∃k,F H a k)∧
 ∀bs:List Addr,bs.Perm as→(bs.Pairwise fun a b=>∀k l,F H a k→F H b l→O.blt l k=false)→∀q,H q=none→Q (.ref q) (upd H q (.lst (bs.map V.ref)))
theorem tup_at {pins:List (Addr×Obj)} {σ:St} {H:Hp} {s:Shared} {a:Addr} {x y:V} (I:Inv X pins σ H s) (h:H a=some (.tup [x,y])):∃o n u v,s.heap.get? a=some o∧o.cls=.type "tuple"∧o.data=.seq #[u,v] n∧RelV x u∧RelV y v:=by
 obtain ⟨_,its,r,o,e1,e2,n,e3⟩:=(show ObjOk X.prog X.w H s.heap a (.tup [x,y]) from I.hok a _ h)
 obtain ⟨u,v,rfl,ru,rv⟩:=vals2 r
 exact ⟨o,n,u,v,e1,e2.1,e3,ru,rv⟩
noncomputable def FSI (H:Hp) (a:Addr) (k:(lexO strO intO).α):Prop:=∃(z:Str) (n:Int),H a=some (.tup [.str z,.int n])∧k=(z.cps.toList,n)
noncomputable def FII (H:Hp) (a:Addr) (k:(lexO intO intO).α):Prop:=∃(i j:Int),H a=some (.tup [.int i,.int j])∧k=(i,j)
noncomputable def FTI (H:Hp) (a:Addr) (k:(lexO (lexO intO intO) intO).α):Prop:=∃(b:Addr) (i j n:Int),H a=some (.tup [.ref b,.int n])∧H b=some (.tup [.int i,.int j])∧k=((i,j),n)
end
noncomputable def RwD (h:Heap) (d:Addr) (es:Array DictEntry) (ep:Nat):Prop:=∃o,h.get? d=some o∧o.ExactDict∧o.data=.dict es ep
theorem RwD.typeIs {s:Shared} {d:Addr} {es:Array DictEntry} {ep:Nat} (x:RwD s.heap d es ep):s.TypeIs (.ref d) "dict":=let ⟨o,h,c,_⟩:=x;⟨o,h,c.1⟩
theorem RwD.at {h g:Heap} {d:Addr} {es:Array DictEntry} {ep:Nat} (x:RwD h d es ep) (k:∀o,h.get? d=some o→g.get? d=some o):RwD g d es ep:=let ⟨o,h,r⟩:=x;⟨o,k _ h,r⟩
theorem RwD.lt {h:Heap} {d:Addr} {es:Array DictEntry} {ep:Nat} (x:RwD h d es ep):d<h.objs.size:=let ⟨_,h,_⟩:=x;Heap.lt_size h
theorem own_no:Builtin.Dict_items.ownsTuple "dict_keyiterator"=false∧Builtin.Dict_items.ownsTuple "dict_valueiterator"=false∧Builtin.Dict_items.ownsTuple "dict_itemiterator"=true:=by decide
theorem ref_some (d:Addr):¬((Value.ref d == Value.none)=true):=Bool.false_ne_true
section
variable {prog:Program} {w:World} {A:Around} {E:Value→Shared→Prop} {s:Shared} {it d:Addr} {i ep:Nat} {es:Array DictEntry}
theorem bP {α β:Type} {M:Model} {a:α} {k:α→Sem β} {Q:β→Shared→Prop} (h:wpAny M A (k a) Q E s):wpAny M A (pure a >>= k) Q E s:=wpAny_bind (wpAny_pure h)
theorem next_at {T id:String} {B:Builtin} {Q:Option Value→Shared→Prop} (ty:s.TypeIs (.ref it) T) (sl:Slot T (Str.ofString "__next__") id) (en:entryFor table id=some B) (ar:argsOk id {pos:=[.ref it]})
  (h:wpAny (model prog w) A.in1 (B ⟨[.ref it],[]⟩) (fun fin s'=>∃v,fin=.done (.ret v)∧Q (some v) s') (fun e s'=>s'.TypeIs e "StopIteration"∧Q none s') s):wpAny (model prog w) A (pyNext (.ref it)) Q E s:=by
 unfold pyNext
 refine wpAny_bind (wpAny_attempt (wpAny_callSpecial?_slotG ty sl.toG (wpAny_mono (wpAny_call_entry sl ty en (Q:=fun v s'=>Q (some v) s') h ar) (fun v s' q=>wpAny_pure q) (fun e s' q=>?_))))
 exact wpAny_bind (wpAny_isInstance q.1 isSubtype_stop (by rw [if_pos rfl];exact wpAny_pure q.2))
theorem rk_item {Q:Option Value→Shared→Prop} (zi:s.heap.IsKeyIter it d i es.size ep) (zm:RwD s.heap d es ep) (zx:i<es.size)
  (zq:∀g:Heap,g.IsKeyIter it d (i+1) es.size ep→Heap.SameBut it s.heap g→Q (some es[i].key) {s with heap:=g}):wpAny (model prog w) A (pyNext (.ref it)) Q E s:=by
 obtain ⟨o,go,co,fo⟩:=id zi
 obtain ⟨od,yo,_,yd⟩:=zm
 refine next_at zi.typeIs PySem.F.slot_dict_keyiterator_next PySem.F.entry_dict_keyiterator_next (PySem.F.args_dict_keyiterator_next_1 _) (bP (wpAny_bind (wpAny_bind (wpAny_bind (wpAny_typeNameOfWhole_keyiter zi.typeIs (wpAny_pure (wpAny_bind (wpAny_fieldsOf go fo ?_))))))))
 simp only [own_no.1,Bool.false_eq_true,if_false]
 show wpAny (model prog w) _ (if (Value.ref d == Value.none)=true then _ else _) _ _ s
 rw [if_neg (ref_some d)];refine bP (wpAny_bind (wpAny_dictEntries yo yd ?_))
 rw [if_neg (by simp)];refine bP (wpAny_bind (wpAny_dictEpoch yo yd ?_))
 rw [if_neg (by simp)];refine wpAny_pure ?_
 simp only [show ¬((i:Int)<0) from by omega,if_false,Int.toNat_natCast,Array.getElem?_eq_getElem zx]
 refine wpAny_bind (wpAny_bind (wpAny_typeNameOfWhole_keyiter zi.typeIs (wpAny_pure (wpAny_bind (wpAny_isOneOf_keyiter zi.typeIs ?_)))))
 show wpAny _ _ (setField (.ref it) 1 (rawInt ((i:Int)+1)) >>= fun _=>_) _ _ s
 refine wpAny_bind (wpAny_setField go fo (by simp) ?_)
 have zj:(s.heap.update it (Obj.mapFields (·.setIfInBounds 1 (rawInt ((i:Int)+1))))).IsKeyIter it d (i+1) es.size ep:=⟨_,Heap.get?_update_self _ go (Obj.isFreed_of_fields (Obj.data_mapFields fo _)),(Obj.cls_mapFields ..).trans co,by rw [Obj.data_mapFields fo];simp [rawInt]⟩
 have ty:Shared.TypeIs {s with heap:=s.heap.update it (Obj.mapFields (·.setIfInBounds 1 (rawInt ((i:Int)+1))))} (.ref it) "dict_keyiterator":=zj.typeIs
 refine wpAny_bind (wpAny_holding (wpAny_bind (wpAny_isOneOf_keyiter ty ?_)))
 show wpAny _ _ (pure es[i].key) _ _ {s with heap:=_}
 exact wpAny_pure (wpAny_pure ⟨_,rfl,zq _ zj (Heap.SameBut.update ..)⟩)
theorem rk_done {Q:Option Value→Shared→Prop} (zh:A.handled=none) (zi:s.heap.IsKeyIter it d i es.size ep) (zm:RwD s.heap d es ep) (zx:es.size≤i) (zq:∀g:Heap,Heap.ExtBut it s.heap g→Q none {s with heap:=g}):wpAny (model prog w) A (pyNext (.ref it)) Q E s:=by
 obtain ⟨o,go,co,fo⟩:=id zi
 obtain ⟨od,yo,_,yd⟩:=zm
 refine next_at zi.typeIs PySem.F.slot_dict_keyiterator_next PySem.F.entry_dict_keyiterator_next (PySem.F.args_dict_keyiterator_next_1 _) (bP (wpAny_bind (wpAny_bind (wpAny_bind (wpAny_typeNameOfWhole_keyiter zi.typeIs (wpAny_pure (wpAny_bind (wpAny_fieldsOf go fo ?_))))))))
 simp only [own_no.1,Bool.false_eq_true,if_false]
 show wpAny (model prog w) _ (if (Value.ref d == Value.none)=true then _ else _) _ _ s
 rw [if_neg (ref_some d)];refine bP (wpAny_bind (wpAny_dictEntries yo yd ?_))
 rw [if_neg (by simp)];refine bP (wpAny_bind (wpAny_dictEpoch yo yd ?_))
 rw [if_neg (by simp)];refine wpAny_pure ?_
 simp only [show ¬((i:Int)<0) from by omega,if_false,Int.toNat_natCast,Array.getElem?_eq_none zx]
 refine wpAny_bind (wpAny_bind (wpAny_typeNameOfWhole_keyiter zi.typeIs (wpAny_pure ?_)))
 show wpAny _ _ (setField (.ref it) 0 .none >>= fun _=>_) _ _ s
 refine wpAny_bind (wpAny_setField go fo (by simp) (raise_stop (by simpa using zh) fun g e k ty=>⟨ty,zq g fun b u nb eb=>k b u ?_⟩))
 exact (Heap.get?_update_other _ _ (Ne.symm nb)).trans eb
theorem rv_item {Q:Option Value→Shared→Prop} (zi:s.heap.IsValIter it d i es.size ep) (zm:RwD s.heap d es ep) (zx:i<es.size)
  (zq:∀g:Heap,g.IsValIter it d (i+1) es.size ep→Heap.SameBut it s.heap g→Q (some es[i].val) {s with heap:=g}):wpAny (model prog w) A (pyNext (.ref it)) Q E s:=by
 obtain ⟨o,go,co,fo⟩:=id zi
 obtain ⟨od,yo,_,yd⟩:=zm
 refine next_at zi.typeIs PySem.F.slot_dict_valueiterator_next PySem.F.entry_dict_valueiterator_next (PySem.F.args_dict_valueiterator_next_1 _) (bP (wpAny_bind (wpAny_bind (wpAny_bind (wpAny_typeNameOfWhole_valiter zi.typeIs (wpAny_pure (wpAny_bind (wpAny_fieldsOf go fo ?_))))))))
 simp only [own_no.2.1,Bool.false_eq_true,if_false]
 show wpAny (model prog w) _ (if (Value.ref d == Value.none)=true then _ else _) _ _ s
 rw [if_neg (ref_some d)];refine bP (wpAny_bind (wpAny_dictEntries yo yd ?_))
 rw [if_neg (by simp)];refine bP (wpAny_bind (wpAny_dictEpoch yo yd ?_))
 rw [if_neg (by simp)];refine wpAny_pure ?_
 simp only [show ¬((i:Int)<0) from by omega,if_false,Int.toNat_natCast,Array.getElem?_eq_getElem zx]
 refine wpAny_bind (wpAny_bind (wpAny_typeNameOfWhole_valiter zi.typeIs (wpAny_pure (wpAny_bind (wpAny_isOneOf_valiter zi.typeIs ?_)))))
 show wpAny _ _ (setField (.ref it) 1 (rawInt ((i:Int)+1)) >>= fun _=>_) _ _ s
 refine wpAny_bind (wpAny_setField go fo (by simp) ?_)
 have zj:(s.heap.update it (Obj.mapFields (·.setIfInBounds 1 (rawInt ((i:Int)+1))))).IsValIter it d (i+1) es.size ep:=⟨_,Heap.get?_update_self _ go (Obj.isFreed_of_fields (Obj.data_mapFields fo _)),(Obj.cls_mapFields ..).trans co,by rw [Obj.data_mapFields fo];simp [rawInt]⟩
 have ty:Shared.TypeIs {s with heap:=s.heap.update it (Obj.mapFields (·.setIfInBounds 1 (rawInt ((i:Int)+1))))} (.ref it) "dict_valueiterator":=zj.typeIs
 refine wpAny_bind (wpAny_holding (wpAny_bind (wpAny_isOneOf_valiter ty ?_)))
 refine wpAny_bind (wpAny_isOneOf_valiter ty ?_)
 show wpAny _ _ (pure es[i].val) _ _ {s with heap:=_}
 exact wpAny_pure (wpAny_pure ⟨_,rfl,zq _ zj (Heap.SameBut.update ..)⟩)
theorem rv_done {Q:Option Value→Shared→Prop} (zh:A.handled=none) (zi:s.heap.IsValIter it d i es.size ep) (zm:RwD s.heap d es ep) (zx:es.size≤i) (zq:∀g:Heap,Heap.ExtBut it s.heap g→Q none {s with heap:=g}):wpAny (model prog w) A (pyNext (.ref it)) Q E s:=by
 obtain ⟨o,go,co,fo⟩:=id zi
 obtain ⟨od,yo,_,yd⟩:=zm
 refine next_at zi.typeIs PySem.F.slot_dict_valueiterator_next PySem.F.entry_dict_valueiterator_next (PySem.F.args_dict_valueiterator_next_1 _) (bP (wpAny_bind (wpAny_bind (wpAny_bind (wpAny_typeNameOfWhole_valiter zi.typeIs (wpAny_pure (wpAny_bind (wpAny_fieldsOf go fo ?_))))))))
 simp only [own_no.2.1,Bool.false_eq_true,if_false]
 show wpAny (model prog w) _ (if (Value.ref d == Value.none)=true then _ else _) _ _ s
 rw [if_neg (ref_some d)];refine bP (wpAny_bind (wpAny_dictEntries yo yd ?_))
 rw [if_neg (by simp)];refine bP (wpAny_bind (wpAny_dictEpoch yo yd ?_))
 rw [if_neg (by simp)];refine wpAny_pure ?_
 simp only [show ¬((i:Int)<0) from by omega,if_false,Int.toNat_natCast,Array.getElem?_eq_none zx]
 refine wpAny_bind (wpAny_bind (wpAny_typeNameOfWhole_valiter zi.typeIs (wpAny_pure ?_)))
 show wpAny _ _ (setField (.ref it) 0 .none >>= fun _=>_) _ _ s
 refine wpAny_bind (wpAny_setField go fo (by simp) (raise_stop (by simpa using zh) fun g e k ty=>⟨ty,zq g fun b u nb eb=>k b u ?_⟩))
 exact (Heap.get?_update_other _ _ (Ne.symm nb)).trans eb
theorem rk_iter {Q:Value→Shared→Prop} (lo:(d == sysModules)=false) (zm:RwD s.heap d es ep)
  (zq:Q (.ref s.heap.objs.size) {s with heap:=s.heap.push {cls:=.type "dict_keyiterator",data:=.fields #[.ref d,.int 0 0,.int es.size 0,.int ep 0]}}):wpAny (model prog w) A (pyIter (.ref d)) Q E s:=by
 obtain ⟨o,yo,_,yd⟩:=id zm
 refine wpAny_pyIter_slot zm.typeIs PySem.F.slot_dict_iter (wpAny_call_entry PySem.F.slot_dict_iter zm.typeIs PySem.F.entry_dict_iter (wpAny_bind (wpAny_bind (wpAny_notOrdered_dict zm.typeIs ?_))) (PySem.F.args_dict_iter_1 _))
 show wpAny (model prog w) _ (pure (Value.ref d)) _ _ s
 refine wpAny_pure (show wpAny (model prog w) _ (Builtin.Dict.showsAll d >>= fun _=>_) _ _ s from wpAny_bind ?_)
 unfold Builtin.Dict.showsAll;rw [lo,if_neg (by decide)]
 refine wpAny_pure (wpAny_bind (wpAny_dictEntries yo yd (wpAny_bind (wpAny_dictEpoch yo yd (wpAny_bind (wpAny_newObj_type (wpAny_pure ⟨_,rfl,"dict_keyiterator",_,⟨_,Heap.get?_push_size _ rfl,rfl⟩,PySem.F.slot_dict_keyiterator_next.lookup,?_⟩)))))))
 simpa [rawInt] using zq
theorem rv_iter {v:Addr} {Q:Value→Shared→Prop} (zv:s.heap.IsValuesView v d) (zm:RwD s.heap d es ep)
  (zq:Q (.ref s.heap.objs.size) {s with heap:=s.heap.push {cls:=.type "dict_valueiterator",data:=.fields #[.ref d,.int 0 0,.int es.size 0,.int ep 0]}}):wpAny (model prog w) A (pyIter (.ref v)) Q E s:=by
 obtain ⟨ov,vo,_,vd⟩:=id zv
 obtain ⟨o,yo,_,yd⟩:=id zm
 refine wpAny_pyIter_slot zv.typeIs PySem.F.slot_dict_values_iter (wpAny_call_entry PySem.F.slot_dict_values_iter zv.typeIs PySem.F.entry_dict_values_iter (bP (wpAny_bind (wpAny_bind (wpAny_field vo vd (x:=.ref d) rfl (wpAny_pure (wpAny_bind ?_)))))) (PySem.F.args_dict_values_iter_1 _))
 unfold Builtin.Dict_items.newIterator;skip
 refine wpAny_bind (wpAny_dictEntries yo yd (wpAny_bind (wpAny_dictEpoch yo yd ?_)))
 simp only [own_no.2.1,Bool.false_eq_true,if_false]
 refine wpAny_newObj_type (wpAny_pure ⟨_,rfl,"dict_valueiterator",_,⟨_,Heap.get?_push_size _ rfl,rfl⟩,PySem.F.slot_dict_valueiterator_next.lookup,by simpa [rawInt] using zq⟩)
theorem rk_walks (zh:A.handled=none) (I d:Addr) (ne:d≠I) (es:Array DictEntry) (ep:Nat):Walks prog w A I [I,d] [I] es.size (fun i v=>∃e,es[i]?=some e∧v=e.key) (fun i h=>h.IsKeyIter I d i es.size ep∧RwD h d es ep) where
 sub:=fun b zb=>by rw [List.mem_singleton.mp zb];exact .head _
 frame:=fun _ _ _ st k=>⟨st.1.at fun o e=>k I (.head _) o e,st.2.at fun o e=>k d (.tail _ (.head _)) o e⟩
 item:=fun i s Q E zi st q=>rk_item st.1 st.2 zi fun g z sb=>q _ g s.toks ⟨_,Array.getElem?_eq_getElem zi,rfl⟩ ⟨z,st.2.at fun o e=>sb.extBut d o ne e⟩ fun b o nb e=>sb.extBut b o (fun z=>nb (by rw [z];exact .head _)) e
 done:=fun s Q E st q=>rk_done zh st.1 st.2 (Nat.le_refl _) fun g x=>q g s.toks fun b o nb e=>x b o (fun z=>nb (by rw [z];exact .head _)) e
 self:=fun _ _ _ _ st q=>wpAny_pyIter_keyiter st.1 q
theorem rv_walks (zh:A.handled=none) (I d:Addr) (ne:d≠I) (es:Array DictEntry) (ep:Nat):Walks prog w A I [I,d] [I] es.size (fun i v=>∃e,es[i]?=some e∧v=e.val) (fun i h=>h.IsValIter I d i es.size ep∧RwD h d es ep) where
 sub:=fun b zb=>by rw [List.mem_singleton.mp zb];exact .head _
 frame:=fun _ _ _ st k=>⟨st.1.at fun o e=>k I (.head _) o e,st.2.at fun o e=>k d (.tail _ (.head _)) o e⟩
 item:=fun i s Q E zi st q=>rv_item st.1 st.2 zi fun g z sb=>q _ g s.toks ⟨_,Array.getElem?_eq_getElem zi,rfl⟩ ⟨z,st.2.at fun o e=>sb.extBut d o ne e⟩ fun b o nb e=>sb.extBut b o (fun z=>nb (by rw [z];exact .head _)) e
 done:=fun s Q E st q=>rv_done zh st.1 st.2 (Nat.le_refl _) fun g x=>q g s.toks fun b o nb e=>x b o (fun z=>nb (by rw [z];exact .head _)) e
 self:=fun _ _ _ _ st q=>wpAny_pyIter_valiter st.1 q
theorem rk_src (lo:(d == sysModules)=false):PySem.W.KdlSrc prog w "dict" d d es.size (fun i v=>∃e,es[i]?=some e∧v=e.key) (fun h=>RwD h d es ep) where
 type:=fun _ z=>z.typeIs
 there:=fun _ z=>⟨z.lt,z.lt⟩
 keep:=fun _ _ z k=>z.at fun o e=>k d (.inl rfl) o e
 notList:=by decide
 notTuple:=by decide
 hint:=fun _ _ _ _ z q=>PySem.W.kdl_hint_dict z.typeIs q
 iter:=fun _ _ zh z=>⟨_,_,(fun _ _ q=>rk_iter lo z q),rk_walks zh _ d (Nat.ne_of_lt z.lt) es ep,⟨⟨_,Heap.get?_push_size _ rfl,rfl,rfl⟩,z.at fun o e=>Heap.get?_push_of_some _ e⟩⟩
theorem src_list {f:DictEntry→Value} {xs:Array Value} (h:ItemsOf (fun i v=>∃e,es[i]?=some e∧v=f e) xs es.size):xs.toList=es.toList.map f:=by
 obtain ⟨sz,at_⟩:=h
 refine List.ext_getElem? fun j=>?_
 rw [Array.getElem?_toList,List.getElem?_map,Array.getElem?_toList]
 by_cases hj:j<xs.size
 ·obtain ⟨e,h1,h2⟩:=at_ j xs[j] (Array.getElem?_eq_getElem hj)
  rw [Array.getElem?_eq_getElem hj,h1,h2]
  rfl
 ·rw [Array.getElem?_eq_none (by omega),Array.getElem?_eq_none (by omega)]
  rfl
end
noncomputable abbrev Sps:=List ((Int×Int)×Int)
noncomputable def kk (p:Int×Int):List Key:=[.inl p.1,.inl p.2]
noncomputable def tvOf (ps:Sps):List (List Key×V):=ps.map fun p=>(kk p.1,.int p.2)
theorem kk_inj {p q:Int×Int} (e:kk p=kk q):p=q:=by
 unfold kk at e
 injection e with e1 e2
 injection e2 with e2 _
 exact Prod.ext (Sum.inl.inj e1) (Sum.inl.inj e2)
theorem tvOf_len (ps:Sps):(tvOf ps).length=ps.length:=List.length_map _
theorem tvOf_keys (ps:Sps):(tvOf ps).map (·.1)=(ps.map (·.1)).map kk:=by
 unfold tvOf
 rw [List.map_map,List.map_map]
 rfl
noncomputable def KsAt (H:Hp):List Addr→List (Int×Int)→Prop:=Paired fun b k=>H b=some (.tup [.int k.1,.int k.2])
theorem KsAt.mono {H H':Hp} {bs:List Addr} {ks:List (Int×Int)} (h:KsAt H bs ks) (g:∀b xs,H b=some (.tup xs)→H' b=some (.tup xs)):KsAt H' bs ks:=Paired.mapP h fun _ _ e=>g _ _ e
noncomputable def leK (a b:Int×Int):Bool:=decide (a.1<b.1) || (decide (a.1=b.1) && decide (a.2≤b.2))
theorem leK_iff {a b:Int×Int}:leK a b=true↔a.1<b.1∨(a.1=b.1∧a.2≤b.2):=by
 unfold leK
 simp only [Bool.or_eq_true,Bool.and_eq_true,decide_eq_true_iff]
theorem leK_total (a b:Int×Int):(leK a b || leK b a)=true:=by
 rw [Bool.or_eq_true,leK_iff,leK_iff]
 omega
theorem leK_trans (a b c:Int×Int) (h1:leK a b=true) (h2:leK b c=true):leK a c=true:=by
 rw [leK_iff] at *
 omega
theorem leK_anti {a b:Int×Int} (h1:leK a b=true) (h2:leK b a=true):a=b:=by
 rw [leK_iff] at h1 h2
 exact Prod.ext (by omega) (by omega)
noncomputable def srtK (ks:List (Int×Int)):List (Int×Int):=ks.mergeSort leK
theorem srtK_perm (ks:List (Int×Int)):(srtK ks).Perm ks:=List.mergeSort_perm _ _
theorem srtK_pw (ks:List (Int×Int)):(srtK ks).Pairwise (fun a b=>leK a b=true):=List.pairwise_mergeSort leK_trans leK_total ks
theorem riseK_eq:∀{l m:List (Int×Int)},l.Perm m→l.Pairwise (fun a b=>leK a b=true)→m.Pairwise (fun a b=>leK a b=true)→l=m
 | [],m,p,_,_=>List.Perm.nil_eq p
 | a::l,[],p,_,_=>absurd p.length_eq (by simp)
 | a::l,b::m,p,h1,h2=>by
  have e:a=b:=by
   rcases List.mem_cons.mp (p.mem_iff.mp List.mem_cons_self) with q | q
   ·exact q
   ·rcases List.mem_cons.mp (p.mem_iff.mpr List.mem_cons_self) with r | r
    ·exact r.symm
    ·exact leK_anti ((List.pairwise_cons.mp h1).1 b r) ((List.pairwise_cons.mp h2).1 a q)
  subst e
  rw [riseK_eq ((List.perm_cons a).mp p) (List.pairwise_cons.mp h1).2 (List.pairwise_cons.mp h2).2]
theorem ks_sorted {H:Hp} {as bs:List Addr} {ks:List (Int×Int)} (h:KsAt H as ks) (p:bs.Perm as) (pw:bs.Pairwise fun a b=>∀k l,FII H a k→FII H b l→(lexO intO intO).blt l k=false):KsAt H bs (srtK ks):=by
 let key:Addr→Int×Int:=fun b=>match H b with
  | some (.tup [.int i,.int j])=>(i,j)
  | _=>(0,0)
 have kat:∀{b:Addr} {k:Int×Int},H b=some (.tup [.int k.1,.int k.2])→key b=k:=fun {b k} e=>by
  show (match H b with | some (.tup [.int i,.int j])=>(i,j) | _=>(0,0))=k
  rw [e]
 have all:∀{l:List Addr} {m:List (Int×Int)},KsAt H l m→l.map key=m∧∀b∈l,H b=some (.tup [.int (key b).1,.int (key b).2]):=fun {l m} r=>by
  induction r with
  | nil=>exact ⟨rfl,fun _ h=>nomatch h⟩
  | @cons b k l m e _ ih=>
   have kb:=kat e
   refine ⟨by rw [List.map_cons,kb,ih.1],fun c hc=>?_⟩
   rcases List.mem_cons.mp hc with rfl | hc
   ·rw [kb];exact e
   ·exact ih.2 c hc
 obtain ⟨e1,e2⟩:=all h
 have atb:∀b∈bs,H b=some (.tup [.int (key b).1,.int (key b).2]):=fun b hb=>e2 b (p.mem_iff.mp hb)
 have back:∀{l:List Addr},(∀b∈l,H b=some (.tup [.int (key b).1,.int (key b).2]))→KsAt H l (l.map key):=fun {l} hl=>by
  induction l with
  | nil=>exact .nil
  | cons b l ih=>exact .cons (hl b (.head _)) (ih fun c hc=>hl c (.tail _ hc))
 have eq:bs.map key=srtK ks:=by
  refine riseK_eq ((p.map key).trans (by rw [e1];exact (srtK_perm ks).symm)) (List.pairwise_map.mpr (pw.imp_of_mem fun {a b} ha hb q=>?_)) (srtK_pw ks)
  have q:=q (key a) (key b) ⟨_,_,atb a ha,rfl⟩ ⟨_,_,atb b hb,rfl⟩
  rw [leK_iff]
  by_cases c:(key a).1<(key b).1
  ·exact .inl c
  ·by_cases c2:(key b).1<(key a).1
   ·exact absurd (lex_iff (O:=intO) (U:=intO) (a:=key b) (b:=key a) |>.mpr (.inl (decide_eq_true c2))) (by rw [show lexB intO intO (key b) (key a)=false from q];decide)
   ·have e:(key b).1=(key a).1:=by omega
    by_cases c3:(key b).2<(key a).2
    ·exact absurd (lex_iff (O:=intO) (U:=intO) (a:=key b) (b:=key a) |>.mpr (.inr ⟨e,decide_eq_true c3⟩)) (by rw [show lexB intO intO (key b) (key a)=false from q];decide)
    ·exact .inr ⟨e.symm,by omega⟩
 rw [←eq]
 exact back atb
section
variable {X:Cx}
theorem sort_core {O U:KeyOrd} {R:Heap→Value→O.α→Prop} {S:Heap→Value→U.α→Prop} {T W:String} (e:El X.prog X.w O R T) (f:El X.prog X.w U S W) (F:Hp→Addr→(lexO O U).α→Prop)
  (br:∀{pins:List (Addr×Obj)} {σ:St} {H:Hp} {s:Shared} {a:Addr} {k:O.α×U.α},Inv X pins σ H s→F H a k→PairR R S s.heap (.ref a) k) (d:O.α×U.α) (hu:X.A.units+64<cLine)
  {pins:List (Addr×Obj)} {s:Shared} {σ:St} {p:Addr} {Q:VK}
  (src:∀{E:Value→Shared→Prop} {C:List Value→Shared→Prop},(∀(g:Heap) (tk:Nat) (H:Hp) (as:List Addr),Inv X pins σ H {s with heap:=g,toks:=tk}→as.length<64→(∀a∈as,∃k,F H a k)→
   (∀bs:List Addr,bs.Perm as→(bs.Pairwise fun a b=>∀k l,F H a k→F H b l→(lexO O U).blt l k=false)→∀q,H q=none→Q (.ref q) (upd H q (.lst (bs.map V.ref))))→C (as.map Value.ref) {s with heap:=g,toks:=tk})→wpAny (model X.prog X.w) X.A.in1 (collect (.ref p)) C E s):
  wpAny (model X.prog X.w) X.A (call (.builtin "sorted") [.ref p]) (EP X pins σ Q) X.xe s:=by
 refine Calls.call_function_entry kind_sorted plain_sorted entry_sorted (args_sorted1 _) ?_
 unfold Builtin.«sorted»
 refine wpAny_bind (m:=checkCount "sorted" 1 1 _) (wpAny_pure (wpAny_bind (src fun g tk H as I h64 hk q=>wpAny_bind (wpAny_newList ?_ (by rw [List.length_map];exact small_le (by omega))))))
 have hoL:(g.push (seqObj "list" (as.map Value.ref).toArray 0)).get? g.objs.size=some (seqObj "list" (as.map Value.ref).toArray 0):=Heap.get?_push_size _ rfl
 have st:TupsStay g (g.push (seqObj "list" (as.map Value.ref).toArray 0)):=fun b ob e _=>Heap.get?_push_of_some _ e
 refine wpAny_bind (wpAny_holding (wpAny_call_entry slot_list_sort ⟨_,hoL,rfl⟩ entry_list_sort (sort_pairs e f hoL (fun v hv=>?_) (by rw [List.length_map];exact h64) (by show X.A.units+1+1+8<_;omega) d fun out op os=>⟨_,rfl,?_⟩) (args_list_sort _)))
 ·obtain ⟨a,ha,rfl⟩:=List.mem_map.mp hv
  obtain ⟨k,fk⟩:=hk a ha
  exact ⟨k,pair_mono e f st (br I fk)⟩
 refine wpAny_pure ⟨_,rfl,?_⟩
 obtain ⟨bs,bp,be⟩:=perm_refs op
 obtain ⟨e2,he2⟩:=sortedHeap_at (vs:=as.map Value.ref) (out:=out) hoL
 refine ⟨.ref g.objs.size,_,I.laid (t':=tk) (o:=.lst (bs.map V.ref)) (fun b ob e=>?_) (Nat.le_refl _) ?_,rfl,q bs bp ?_ _ (I.hok.fresh (Nat.le_refl _))⟩
 ·have hlt:=Heap.lt_size e
  rw [sortedHeap_old (Nat.ne_of_lt hlt) (by rw [size_push'];exact Nat.lt_succ_of_lt hlt)]
  exact Heap.get?_push_of_some _ e
 ·refine ⟨by rw [List.length_map,bp.length_eq];exact small_le (by omega),bs.map Value.ref,e2,refs_vals bs,?_⟩
  rw [←be,Array.toArray_toList]
  exact he2
 ·rw [be] at os
  exact (List.pairwise_map.mp os).imp_of_mem fun {a b} ha hb h k l fk fl=>h k l (pair_mono e f st (br I fk)) (pair_mono e f st (br I fl))
theorem dt_raw {P:Program} {w:World} {H:Hp} {h:Heap} {d:Addr} {kvs:List (List Key×V)} (ok:HOk P w H h) (e:Rd H d (.dT kvs)):kvs.length≤sizeLine∧(d == sysModules)=false∧∃(xs:List (List Key×Addr×Value)) (es:Array DictEntry) (ep:Nat),KT H kvs xs∧RwD h d es ep∧
  es.toList.map DictEntry.key=(xs.map fun x=>x.2.1).map Value.ref∧es.toList.map DictEntry.val=xs.map (fun x=>x.2.2)∧es.size=kvs.length:=by
 obtain ⟨z,lo,xs,r,o,es,ep,h1,h2,h3,h4,_⟩:=(show ObjOk P w H h d (.dT kvs) from rd_of ok e)
 refine ⟨z,lo,xs,es,ep,r,⟨o,h1,h2,h3⟩,?_,?_,?_⟩
 ·rw [h4,List.map_map,List.map_map]
  rfl
 ·rw [h4,List.map_map]
  rfl
 ·rw [←Array.length_toList,h4,List.length_map,←Paired.length r]
theorem kt_at {H:Hp}:∀{ps:Sps} {xs:List (List Key×Addr×Value)},KT H (tvOf ps) xs→KsAt H (xs.map fun x=>x.2.1) (ps.map (·.1))
 | [],xs,r=>by
  cases (show KT H [] xs from r)
  exact .nil
 | p::ps,xs,r=>by
  cases (show KT H ((kk p.1,.int p.2)::tvOf ps) xs from r) with
  | cons h t=>exact .cons h.2.1 (kt_at t)
noncomputable def rSortDT:List V→Hp→VK→Prop:=fun xs H Q=>∃(d:Addr) (ps:Sps),xs=[.ref d]∧H d=some (.dT (tvOf ps))∧ps.length<64∧∀bs:List Addr,KsAt H bs (srtK (ps.map (·.1)))→∀q,H q=none→Q (.ref q) (upd H q (.lst (bs.map V.ref)))
theorem ks_fii {H:Hp} {as:List Addr} {ks:List (Int×Int)} (h:KsAt H as ks):∀a∈as,∃k,FII H a k:=by
 induction h with
 | nil=>exact fun _ h=>nomatch h
 | cons e r ih=>exact fun b h=>(List.mem_cons.mp h).elim (fun z=>by rw [z];exact ⟨_,_,_,e,rfl⟩) (ih b)
theorem call_sortDT (hc:X.calm=true) (hu:X.A.units+64<cLine):CallR X (.builtin "sorted") rSortDT:=by
 intro pins s σ H xs us Q I rx h
 obtain ⟨d,ps,rfl,hd,h64,q⟩:=h
 obtain ⟨u,rfl,ru⟩:=vals1 rx
 cases ru
 obtain ⟨_,lo,es0,es,ep,kt,raw,ek,_,sz⟩:=dt_raw I.hok (.inl hd)
 rw [tvOf_len] at sz
 have ka:=kt_at kt
 have al:(es0.map fun x=>x.2.1).length<64:=by rw [List.length_map,←Paired.length kt,tvOf_len];exact h64
 refine sort_core (el_int (prog:=X.prog) (w:=X.w)) (el_int (prog:=X.prog) (w:=X.w)) FII (fun {pins σ H s a k} I h=>?_) ((0:Int),(0:Int)) hu (fun {E C} hC=>?_)
 ·obtain ⟨i,j,h,rfl⟩:=h
  obtain ⟨o,m,u,v,e1,e2,e3,⟨t,ru⟩,⟨t',rv⟩⟩:=tup_at I h
  exact ⟨a,o,m,u,v,rfl,e1,e2,e3,⟨t,ru⟩,⟨t',rv⟩⟩
 ·refine collect_src (A:=X.A.in1) (rk_src lo) (by simpa using I.ok.hd hc) raw (small_le (by omega)) fun g tk acc kp lt it=>?_
  rw [src_list it,ek]
  exact hC g tk H _ (I.kept kp) al (ks_fii ka) fun bs bp pw=>q bs (ks_sorted ka bp pw)
end
section
variable {X:Cx}
theorem tyV_dT {K:PySem.W.Frag} {H:Hp} {d:Addr} {kvs:List (List Key×V)} (h:H d=some (.dT kvs)):tyV K "dict" (.ref d) H:=.inr (.inr (.inl ⟨rfl,.inr ⟨kvs,h⟩⟩))
theorem vals_meets {prog:Program} {w:World} (d:Addr) (lo:(d == sysModules)=false):MeetsIn prog w (Builtin.«dict.values» ⟨[.ref d],[]⟩) (fun _ R s=>s.TypeIs (.ref d) "dict"∧R (.ok (.ret (.ref s.heap.objs.size))) {s with heap:=s.heap.push {cls:=.type "dict_values",data:=.fields #[.ref d]}}):=
 .of_wp fun A R s ⟨ty,h⟩=>by
  refine wpAny_bind (wpAny_bind (wpAny_notOrdered_dict ty (show wpAny (model prog w) _ (pure d) _ _ s from wpAny_pure (wpAny_bind ?_))))
  unfold Builtin.Dict.showsAll;rw [lo,if_neg (by decide)]
  exact wpAny_pure (wpAny_bind (wpAny_newObj_type (wpAny_pure ⟨_,rfl,h⟩)))
theorem items_meets {prog:Program} {w:World} (d:Addr) (lo:(d == sysModules)=false):MeetsIn prog w (Builtin.«dict.items» ⟨[.ref d],[]⟩) (fun _ R s=>s.TypeIs (.ref d) "dict"∧R (.ok (.ret (.ref s.heap.objs.size))) {s with heap:=s.heap.push {cls:=.type "dict_items",data:=.fields #[.ref d]}}):=
 .of_wp fun A R s ⟨ty,h⟩=>by
  unfold Builtin.«dict.items»
  refine wpAny_bind (wpAny_bind (wpAny_notOrdered_dict ty (show wpAny (model prog w) _ (pure d) _ _ s from wpAny_pure (wpAny_bind ?_))))
  unfold Builtin.Dict.showsAll;rw [lo,if_neg (by decide)]
  exact wpAny_pure (wpAny_bind (wpAny_newObj_type (wpAny_pure ⟨_,rfl,h⟩)))
noncomputable def rViewT (w:Addr→Addr→HO):V→List V→Hp→VK→Prop:=fun x vs H Q=>∃d kvs,x=.ref d∧vs=[]∧H d=some (.dT kvs)∧∀a,H a=none→Q (.ref a) (upd H a (w a d))
theorem mt_valuesT:MtR X "dict.values" (rViewT vView):=by
 intro pins s σ H x vs v us Q I rx rv h
 obtain ⟨d,kvs,rfl,rfl,hd,q⟩:=h
 cases rx
 cases rv
 obtain ⟨_,lo,_,es,ep,_,raw,_⟩:=dt_raw I.hok (.inl hd)
 refine call_meetsIn PySem.F.slot_dict_values raw.typeIs PySem.F.entry_dict_values (PySem.F.args_dict_values_1 _) (vals_meets d lo) ⟨raw.typeIs,.ref s.heap.objs.size,_,I.laid (t':=s.toks) (o:=vView s.heap.objs.size d) (fun b o e=>Heap.get?_push_of_some _ e) (Nat.le_refl _) ?_,rfl,q _ (I.hok.fresh (Nat.le_refl _))⟩
 exact ⟨⟨_,Heap.get?_push_size _ rfl,rfl,rfl⟩,⟨_,Heap.get?_push_size _ rfl⟩,fun h1 h2 x k=>let ⟨o,ho,r⟩:=x;⟨o,k o ho,r⟩⟩
theorem mt_itemsT:MtR X "dict.items" (rViewT iView):=by
 intro pins s σ H x vs v us Q I rx rv h
 obtain ⟨d,kvs,rfl,rfl,hd,q⟩:=h
 cases rx
 cases rv
 obtain ⟨_,lo,_,es,ep,_,raw,_⟩:=dt_raw I.hok (.inl hd)
 refine call_meetsIn PySem.F.slot_dict_items raw.typeIs PySem.F.entry_dict_items (PySem.F.args_dict_items_1 _) (items_meets d lo) ⟨raw.typeIs,.ref s.heap.objs.size,_,I.laid (t':=s.toks) (o:=iView s.heap.objs.size d) (fun b o e=>Heap.get?_push_of_some _ e) (Nat.le_refl _) ?_,rfl,q _ (I.hok.fresh (Nat.le_refl _))⟩
 exact ⟨⟨_,Heap.get?_push_size _ rfl,rfl,rfl⟩,⟨_,Heap.get?_push_size _ rfl⟩,fun h1 h2 x k=>let ⟨o,ho,r⟩:=x;⟨o,k o ho,r⟩⟩
theorem kt_vals {H:Hp} {kvs:List (List Key×V)} {xs:List (List Key×Addr×Value)} (h:KT H kvs xs):Vals (kvs.map (·.2)) (xs.map fun x=>x.2.2):=by
 induction h with
 | nil=>exact .nil
 | cons h t ih=>exact .cons h.2.2 ih
noncomputable def rListVT:List V→Hp→VK→Prop:=fun xs H Q=>∃(v d:Addr) (kvs:List (List Key×V)),xs=[.ref v]∧H v=some (vView v d)∧H d=some (.dT kvs)∧∀p,H p=none→Q (.ref p) (upd H p (.lst (kvs.map (·.2))))
end
section
variable {X:Cx} {pins:List (Addr×Obj)} {σ:St} {H:Hp} {s:Shared}
theorem kt_get {H:Hp}:∀{kvs:List (List Key×V)} {xs:List (List Key×Addr×Value)} {i:Nat} {p:List Key×V},KT H kvs xs→kvs[i]?=some p→∃x,xs[i]?=some x∧H x.2.1=some (.tup (p.1.map kV))∧RelV p.2 x.2.2
 | _,_,_,_,.nil,e=>by simp at e
 | _,_,0,_,.cons h _,e=>by
  rw [List.getElem?_cons_zero] at e
  cases e
  exact ⟨_,rfl,h.2.1,h.2.2⟩
 | _,_,i+1,_,.cons _ r,e=>kt_get (i:=i) r (by simpa using e)
theorem Inv.thawT {d:Addr} {o:Obj} {kvs:List (List Key×V)} (nf:∀o u,X.H₀ d≠some (.frz o u)) (I:Inv X pins σ H s) (h:H d=some (.frz o (.dT kvs))):Inv X pins σ (upd H d (.dT kvs)) s:=by
 have nd:∀b,H b=none→upd H d (.dT kvs) b=none:=fun b e=>by rw [upd_ne (Ne.symm (ne_of_none h e))];exact e
 have ot:∀b u,H b=some u→u≠.frz o (.dT kvs)→upd H d (.dT kvs) b=some u:=fun b u e n=>by rw [upd_ne (ne_of e h n)];exact e
 have tu:∀b xs,H b=some (.tup xs)→upd H d (.dT kvs) b=some (.tup xs):=fun b xs e=>ot b _ e (by intro z;cases z)
 refine ⟨I.ok,I.os,I.bare,⟨I.base.keep,I.base.slot,fun b ob q n hx=>nd b (I.base.free b ob q n hx),I.base.there,fun b xs e=>tu b _ (I.base.tups b xs e),fun b ob u e=>?_,fun b ps e=>?_⟩,I.loc,I.cell,nd _ I.free,fun x c e=>nd c (I.freeC x c e),fun p hp=>?_,fun b u e=>?_,I.len⟩
 ·rw [upd_ne (fun z=>nf ob u (by rw [←z];exact e))]
  exact I.base.frzs b ob u e
 ·obtain ⟨m,q⟩:=I.base.tbls b ps e
  exact ⟨m,ot b _ q (by intro z;cases z)⟩
 ·obtain ⟨h1,h2,h3⟩:=I.pin p hp
  exact ⟨h1,nd _ h2,h3⟩
 ·by_cases hb:b=d
  ·subst hb
   rw [upd_same] at e
   cases e
   obtain ⟨z,lo,xs,kt,r⟩:=(show ObjOk X.prog X.w H s.heap b (.dT kvs) from (I.hok b _ h).2)
   exact ⟨z,lo,xs,KT.keeps kt tu,r⟩
  ·rw [upd_ne hb] at e
   exact (I.hok b u e).stay (fun _ _ _ q=>q) (fun c q=>ot c _ q (by intro z;cases z)) fun c xs q=>tu c xs q
theorem Inv.freezeT {d:Addr} {kvs:List (List Key×V)} (I:Inv X pins σ H s) (h:H d=some (.dT kvs)):∃o,Inv X pins σ (upd H d (.frz o (.dT kvs))) s∧∀o u,X.H₀ d≠some (.frz o u):=by
 obtain ⟨z,lo,xs,kt,o,es,ep,ho,r⟩:=(show ObjOk X.prog X.w H s.heap d (.dT kvs) from I.hok d _ h)
 have tu:∀b ys,H b=some (.tup ys)→upd H d (.frz o (.dT kvs)) b=some (.tup ys):=fun b ys e=>by rw [upd_ne (ne_of e h (by intro z;cases z))];exact e
 refine ⟨o,I.write (x:=d) (e:=d) (t':=s.toks) (h':=s.heap) (by rw [h];exact trivial) (.inl rfl) (fun _ _ _ q=>q) ⟨o,ho⟩ ⟨ho,z,lo,xs,KT.keeps kt tu,o,es,ep,ho,r⟩,fun o' u e=>?_⟩
 have q:=I.base.frzs d o' u e
 rw [h] at q
 cases q
noncomputable def tFrzT (t:TE):TE:=fun σ H Q=>∃(d:Addr) (kvs:List (List Key×V)),H d=some (.dT kvs)∧∀o,t σ (upd H d (.frz o (.dT kvs))) fun v H2=>H2 d=some (.frz o (.dT kvs))∧Q v (upd H2 d (.dT kvs))
theorem pe_frzT {e:Expr} {t:TE} (h:PE X e t):PE X e (tFrzT t):=by
 intro pins s σ H Q I hw
 obtain ⟨d,kvs,hd,q⟩:=hw
 obtain ⟨o,I1,nf⟩:=I.freezeT hd
 exact thn (h pins s σ _ _ I1 (q o)) fun v s1 ⟨x,H1,I2,r,hd2,q2⟩=>⟨x,_,I2.thawT nf hd2,r,q2⟩
noncomputable def Itdt (d:Addr) (kvs:List (List Key×V)) (o:Obj):It:=⟨fun i H=>i<kvs.length∧H d=some (.frz o (.dT kvs)),fun i H x H'=>H'=H∧∃p b,kvs[i]?=some p∧x=.ref b∧H b=some (.tup (p.1.map kV)),fun i H=>kvs.length≤i∧H d=some (.frz o (.dT kvs))⟩
theorem turn_dT {P:Program} {w:World} {K:PySem.W.Frag} {tg:Expr} {d it:Addr} {kvs:List (List Key×V)} {o:Obj} {es:Array DictEntry} {ep:Nat} (ex:o.ExactDict) (od:o.data=.dict es ep) (sz:es.size=kvs.length):
  Turn P w K tg (Itdt d kvs o) [it] it (fun i h=>h.IsKeyIter it d i es.size ep) where
 mem:=by simp
 obj:=fun i h st b hb=>by
  obtain ⟨q,e,c,dd⟩:=st
  rw [List.mem_singleton.mp hb]
  exact ⟨q,e,fun v z=>by rw [dd] at z;cases z⟩
 keep:=fun i h h' st k=>st.at fun q e=>k it (.head _) q e
 item:=by
  intro X hP hw hK hc i pins s σ H E I hf st hg
  subst hP hw hK
  obtain ⟨hi,hd⟩:=hg
  obtain ⟨ho,z,lo,xs,kt,o',es',ep',h1,_,h3,h4,_⟩:=(show ObjOk X.prog X.w H s.heap d (.frz o (.dT kvs)) from I.hok d _ hd)
  rw [ho] at h1
  cases h1
  rw [od] at h3
  cases h3
  obtain ⟨f0,f1,f2,f3,f4,f5⟩:=hf it (.head _)
  have e1:kvs[i]?=some kvs[i]:=by simp [hi]
  obtain ⟨x,ex1,hx,_⟩:=kt_get kt e1
  have ek:es[i].key=.ref x.2.1:=by
   have q:es.toList[i]?=some es[i]:=by rw [Array.getElem?_toList];exact Array.getElem?_eq_getElem (by omega)
   rw [h4,List.getElem?_map,ex1] at q
   rw [←Option.some.inj q]
   rfl
  refine rk_item st ⟨o,ho,ex,od⟩ (by omega) fun g st' sb=>?_
  obtain ⟨q,e,c,dd⟩:=id st'
  have I1:Inv X pins σ H {s with heap:=g}:=I.turned (t':=s.toks) (fun b ob hb eb=>(sb.2 b hb).trans eb) f0 f1 f3 f4 f5
  exact ⟨_,rfl,go_of (s:={s with heap:=g}) e c dd (by decide) ⟨.ref x.2.1,H,I1,ek,⟨rfl,_,_,e1,rfl,hx⟩,st',fun b hb=>(hf b hb).1⟩⟩
 done:=by
  intro X hP hw hK hc i pins s σ H E I hf st hg
  subst hP hw hK
  obtain ⟨hi,hd⟩:=hg
  obtain ⟨ho,_⟩:=I.hok d _ hd
  obtain ⟨f0,f1,f2,f3,f4,f5⟩:=hf it (.head _)
  exact rk_done (I.ok.hd hc) st ⟨o,ho,ex,od⟩ (by omega) fun g eb=>⟨rfl,I.turned (t':=s.toks) (fun b ob hb e=>eb b ob hb e) f0 f1 f3 f4 f5⟩
 self:=fun _ _ _ _ _ st h=>wpAny_pyIter_keyiter st h
noncomputable def iDictT (tl:TE):TI:=fun σ H R=>tl σ H fun x H1=>∃(d:Addr) (o:Obj) (kvs:List (List Key×V)),x=.ref d∧H1 d=some (.frz o (.dT kvs))∧R (Itdt d kvs o) H1
theorem pi_dictT {tg l:Expr} {tl:TE} (hl:PE X l tl):PI X tg l (iDictT tl):=by
 intro pins s σ H R I h
 refine thn (hl pins s σ H _ I h) fun v s1 hpat=>?_
 obtain ⟨x,H1,I1,r1,q1⟩:=hpat
 obtain ⟨d,o,kvs,rfl,hd,q⟩:=q1
 cases r1
 obtain ⟨ho,z,lo,xs,kt,o',es,ep,h1,h2,h3,h4,_⟩:=(show ObjOk X.prog X.w H1 s1.heap d (.frz o (.dT kvs)) from I1.hok d _ hd)
 rw [ho] at h1
 cases h1
 have sz:es.size=kvs.length:=by rw [←Array.length_toList,h4,List.length_map,←Paired.length kt]
 refine rk_iter lo ⟨o,ho,h2,h3⟩ ⟨s1.heap.objs.size,[s1.heap.objs.size],_,_,H1,rfl,I1.kept (t':=s1.toks) (fun b ob e=>Heap.get?_push_of_some _ e),turn_dT h2 h3 sz,⟨_,Heap.get?_push_size _ rfl,rfl,rfl⟩,fun b hb=>?_,q⟩
 rw [List.mem_singleton.mp hb]
 exact I1.fpOk (Nat.le_refl _) (I1.hok.fresh (Nat.le_refl _))
theorem comp_dictT {d:Addr} {o:Obj} {kvs:List (List Key×V)} {k:Nat} {g:TG} {tt:TT} {te:TE} {σ:St} {H:Hp} {Q:VK} (Pv:Nat→List V→Hp→Prop) (h0:Pv 0 [] H) (hl:∀i ys H,Pv i ys H→H d=some (.frz o (.dT kvs)))
  (hs:∀i p b ys H (C:List V→Hp→Prop),kvs[i]?=some p→H b=some (.tup (p.1.map kV))→Pv i ys H→(∀ys' H',Pv (i+1) ys' H'→C ys' H')→ys.length<sizeLine∧g (.ref b) (List.replicate k none++σ) H fun σ2 H2=>Wk σ2 (List.replicate k none++σ)∧tt σ2 H2 fun ok H3=>
   if ok=true then te σ2 H3 fun y H4=>C (ys++[y]) H4 else C ys H3)
  (hz:∀i ys H,Pv i ys H→ys.length<sizeLine)
  (hd:∀ys H,Pv kvs.length ys H→ys.length≤sizeLine∧∀p,H p=none→Q (.ref p) (upd H p (.lst ys))):CompR (Itdt d kvs o) H k g tt te σ Q:=by
 refine ⟨fun i m ys H=>m=kvs.length - i∧i≤kvs.length∧Pv i ys H,⟨kvs.length,by simp,Nat.zero_le _,h0⟩,?_⟩
 rintro i m ys H ⟨rfl,hi,p⟩
 have q:=hl i ys H p
 by_cases hlt:i<kvs.length
 ·refine .inr ⟨⟨hlt,q⟩,hz i ys H p,fun v H' y=>?_⟩
  obtain ⟨e,p',b,hp',rfl,hb⟩:=y
  subst e
  exact (hs i p' b ys H' (fun ys' H'=>∃m',m'<kvs.length - i∧m'=kvs.length - (i+1)∧i+1≤kvs.length∧Pv (i+1) ys' H') hp' hb p fun ys' H' p'=>⟨_,by omega,rfl,hlt,p'⟩).2
 ·have e:i=kvs.length:=by omega
  subst e
  exact .inl ⟨⟨Nat.le_refl _,q⟩,hd ys H p⟩
end
noncomputable abbrev TKv:=List Key×Addr×Value
noncomputable def mrgH (xs:List TKv):List TKv:=xs.foldl (fun acc x=>storedH acc x.1 x.2.1 x.2.2) []
noncomputable def mrgTV (kvs:List (List Key×V)):List (List Key×V):=kvs.foldl (fun acc kv=>putK acc kv.1 kv.2) []
theorem mrgH_snoc (xs:List TKv) (x:TKv):mrgH (xs++[x])=storedH (mrgH xs) x.1 x.2.1 x.2.2:=by
 unfold mrgH
 rw [List.foldl_append]
 rfl
theorem storedH_len (xs:List TKv) (k:List Key) (a:Addr) (v:Value):(storedH xs k a v).length≤xs.length+1:=by
 unfold storedH
 split
 ·rw [List.length_map];omega
 ·rw [List.length_append];exact Nat.le_refl _
theorem foldH_len:∀(ys xs:List TKv),(ys.foldl (fun acc x=>storedH acc x.1 x.2.1 x.2.2) xs).length≤xs.length+ys.length
 | [],xs=>Nat.le_refl _
 | y::ys,xs=>by
  have q:=foldH_len ys (storedH xs y.1 y.2.1 y.2.2)
  have l:=storedH_len xs y.1 y.2.1 y.2.2
  rw [List.foldl_cons,List.length_cons]
  omega
theorem mrgH_len (xs:List TKv):(mrgH xs).length≤xs.length:=by
 have q:=foldH_len xs []
 rw [List.length_nil,Nat.zero_add] at q
 exact q
theorem storedH_mem {xs:List TKv} {k:List Key} {a:Addr} {v:Value} {x:TKv} (h:x∈storedH xs k a v):(∃y∈xs,x.1=y.1∧x.2.1=y.2.1)∨(x.1=k∧x.2.1=a):=by
 unfold storedH at h
 split at h
 ·obtain ⟨y,hy,rfl⟩:=List.mem_map.mp h
  refine .inl ⟨y,hy,?_⟩
  unfold putAt
  split <;> exact ⟨rfl,rfl⟩
 ·rcases List.mem_append.mp h with q | q
  ·exact .inl ⟨x,q,rfl,rfl⟩
  ·rw [List.mem_singleton.mp q]
   exact .inr ⟨rfl,rfl⟩
theorem foldH_mem:∀{ys xs:List TKv} {x:TKv},x∈ys.foldl (fun acc x=>storedH acc x.1 x.2.1 x.2.2) xs→∃y,(y∈xs∨y∈ys)∧x.1=y.1∧x.2.1=y.2.1
 | [],xs,x,h=>⟨x,.inl h,rfl,rfl⟩
 | z::ys,xs,x,h=>by
  obtain ⟨y,hy,e1,e2⟩:=foldH_mem (ys:=ys) h
  rcases hy with hy | hy
  ·rcases storedH_mem hy with ⟨u,hu,f1,f2⟩ | ⟨f1,f2⟩
   ·exact ⟨u,.inl hu,e1.trans f1,e2.trans f2⟩
   ·exact ⟨z,.inr (.head _),e1.trans f1,e2.trans f2⟩
  ·exact ⟨y,.inr (.tail _ hy),e1,e2⟩
theorem mrgH_mem {ys:List TKv} {x:TKv} (h:x∈mrgH ys):∃y∈ys,x.1=y.1∧x.2.1=y.2.1:=by
 obtain ⟨y,hy,e⟩:=foldH_mem h
 rcases hy with hy | hy
 ·exact nomatch hy
 ·exact ⟨y,hy,e⟩
theorem foldKT {H:Hp} {more:List (List Key×V)} {rs:List TKv} {kvs:List (List Key×V)} {xs:List TKv} (a:KT H more rs) (b:KT H kvs xs):KT H (more.foldl (fun acc kv=>putK acc kv.1 kv.2) kvs) (rs.foldl (fun acc x=>storedH acc x.1 x.2.1 x.2.2) xs):=by
 induction a generalizing kvs xs with
 | nil=>exact b
 | @cons p q more rs h t ih=>
  have e:=KT.put b p.1 h.2.1 h.2.2
  have e2:KT H (putK kvs p.1 p.2) (storedH xs q.1 q.2.1 q.2.2):=by
   rw [show storedH xs q.1 q.2.1 q.2.2=storedH xs p.1 q.2.1 q.2.2 by rw [h.1]]
   exact e
  exact ih e2
theorem mrgKT {H:Hp} {kvs:List (List Key×V)} {xs:List TKv} (h:KT H kvs xs):KT H (mrgTV kvs) (mrgH xs):=foldKT h .nil
theorem mrgTV_go:∀(kvs acc:List (List Key×V)),((acc++kvs).map (·.1)).Nodup→kvs.foldl (fun acc kv=>putK acc kv.1 kv.2) acc=acc++kvs
 | [],acc,_=>(List.append_nil acc).symm
 | p::kvs,acc,h=>by
  have e:valV acc p.1=none:=by
   rw [List.map_append,List.map_cons] at h
   have nin:p.1∉acc.map (·.1):=fun q=>(List.nodup_append.mp h).2.2 p.1 q p.1 (.head _) rfl
   have:∀l:List (List Key×V),p.1∉l.map (·.1)→valV l p.1=none:=fun l=>by
    induction l with
    | nil=>intro _;rfl
    | cons y l ih=>
     intro hl
     rw [List.map_cons,List.mem_cons,not_or] at hl
     rw [valV_neg (fun z=>hl.1 z.symm)]
     exact ih hl.2
   exact this acc nin
  rw [List.foldl_cons,putK_new p.2 e,mrgTV_go kvs _ (by rw [List.append_assoc];exact h),List.append_assoc]
  rfl
theorem mrgTV_nd {kvs:List (List Key×V)} (h:(kvs.map (·.1)).Nodup):mrgTV kvs=kvs:=mrgTV_go kvs [] h
section
variable {prog:Program} {w:World} {A:Around} {E:Value→Shared→Prop} {s:Shared}
theorem tk_mono {h g:Heap} {ks:List Key} {a:Addr} (x:(tupleKind (mixKind prog w)).is h ks a) (k:∀o,h.get? a=some o→g.get? a=some o):(tupleKind (mixKind prog w)).is g ks a:=by
 obtain ⟨o,its,n,h1,r⟩:=x
 exact ⟨o,its,n,k o h1,r⟩
noncomputable def RawH (prog:Program) (w:World) (h:Heap) (D:Addr) (xs:List TKv):Prop:=∃o es ep,h.get? D=some o∧o.ExactDict∧o.data=.dict es ep∧es.toList=xs.map (entryOfKey (tupleKind (mixKind prog w)))∧(xs.map (·.1)).Nodup
noncomputable def PairH (prog:Program) (w:World) (h:Heap) (p:TKv) (v:Value) (no:List Addr):Prop:=∃a o n,v=.ref a∧a∉no∧p.2.1∉no∧h.get? a=some o∧o.cls=.type "tuple"∧o.data=.seq #[.ref p.2.1,p.2.2] n∧(tupleKind (mixKind prog w)).is h p.1 p.2.1
theorem dict_loopT {R:Result→Shared→Prop} {I:Addr} {fp wr:List Addr} {n:Nat} {P:Nat→Value→Prop} {St:Nat→Heap→Prop} (W:Walks prog w A.in1 I fp wr n P St) (hu:A.units+1<cLine) (D:Addr) (hD:D∉fp) (ps:List TKv) (hpn:ps.length=n) (its:List Value)
  (hP:∀i v,P i v→its[i]?=some v) (hb:n≤100000):
  ∀(k i:Nat) (s:Shared),n - i=k→i≤n→St i s.heap→RawH prog w s.heap D (mrgH (ps.take i))→(∀(j:Nat) p,ps[j]?=some p→∃v,its[j]?=some v∧PairH prog w s.heap p v (D::wr))→
   (∀g tk,(∀b o,b∉D::wr→s.heap.get? b=some o→g.get? b=some o)→RawH prog w g D (mrgH ps)→R (.ok (.ret .none)) {s with heap:=g,toks:=tk})→
   codeAny (model prog w) A (.builtin "dict.update.loop" ⟨[.ref D,.ref I,rawInt i,.none],[]⟩) R s:=by
 have hDw:D∉wr:=fun q=>hD (W.sub _ q)
 intro k
 induction k with
 | zero=>
  intro i s hk hi st so tp fin
  obtain rfl:i=n:=by omega
  refine codeAny_builtin entry_dloop ?_;rw [Around.under_plainId plain_dloop _]
  refine wpAny_bind (m:=pyNext (.ref I)) (W.done s _ _ st fun h' tk kp=>wpAny_bind (m:=Builtin.Dict.addKeywords D []) (wpAny_pure (wpAny_pure (fin h' tk (fun b o nb e=>kp b o (fun q=>nb (List.mem_cons_of_mem _ q)) e) ?_))))
  rw [←hpn,List.take_length] at so
  obtain ⟨o,es,ep,ho,r⟩:=so
  exact ⟨o,es,ep,kp D o hDw ho,r⟩
 | succ k ih=>
  intro i s hk hi st so tp fin
  have hlt:i<n:=by omega
  refine codeAny_builtin entry_dloop ?_;rw [Around.under_plainId plain_dloop _]
  refine wpAny_bind (m:=pyNext (.ref I)) (W.item i s _ _ hlt st fun v h1 tk1 pv st1 kp1=>?_)
  obtain ⟨p,hp⟩:∃p,ps[i]?=some p:=⟨ps[i],List.getElem?_eq_getElem (by omega)⟩
  have kw:∀b o,b∉D::wr→s.heap.get? b=some o→h1.get? b=some o:=fun b o nb e=>kp1 b o (fun q=>nb (List.mem_cons_of_mem _ q)) e
  have tp1:∀(j:Nat) p,ps[j]?=some p→∃v,its[j]?=some v∧PairH prog w h1 p v (D::wr):=fun j p e=>by
   obtain ⟨v,hv,a,o,m,rfl,na,nk,ha,r1,r2,r3⟩:=tp j p e
   exact ⟨_,hv,a,o,m,rfl,na,nk,kw a o na ha,r1,r2,tk_mono r3 fun o e=>kw _ o nk e⟩
  obtain ⟨v',hv',a,o,m,rfl,na,nk,ha,hc,hd,hkey⟩:=tp1 i p hp
  obtain rfl:v=.ref a:=Option.some.inj ((hP i v pv).symm.trans hv')
  have so1:h1.DictOfH (tupleKind (mixKind prog w)) D (mrgH (ps.take i)):=by
   obtain ⟨o,es,ep,ho,r1,r2,r3,r4⟩:=so
   refine ⟨o,es,ep,kp1 D o hDw ho,r1,r2,r3,fun x hx=>?_,r4⟩
   obtain ⟨y,hy,e1,e2⟩:=mrgH_mem hx
   obtain ⟨j,hj⟩:=List.getElem?_of_mem (List.mem_of_mem_take hy)
   obtain ⟨_,_,_,_,_,_,_,_,_,_,_,q⟩:=tp1 j y hj
   rw [e1,e2]
   exact q
  refine wpAny_bind (wpAny_holding (wpAny_bind (wpAny_tryCatch ?_)))
  unfold Builtin.Dict.pairItems
  refine wpAny_bind (wpAny_typeOf (T:="tuple") ⟨o,ha,hc⟩ ?_)
  rw [if_pos (by decide)]
  refine wpAny_bind (m:=seqItems? (.ref a)) ?_
  unfold seqItems?
  refine wpAny_bind (wpAny_load ha ?_)
  rw [hd]
  refine wpAny_pure (wpAny_pure ?_)
  show wpAny _ _ (holding [Value.ref p.2.1,p.2.2] (dictSet D (.ref p.2.1) p.2.2)) _ _ _
  have eb:=mrgH_len (ps.take i)
  rw [List.length_take] at eb
  refine wpAny_holding (wpAny_dictSet_heap (s:={s with heap:=h1,toks:=tk1}) (tupleKind_room_in1 hu) hkey so1 (fun g so2 sb=>?_) (by
   have:(100000:Nat)≤sizeLine:=by decide
   omega))
  have so3:RawH prog w g D (mrgH (ps.take (i+1))):=by
   rw [take_one hp,mrgH_snoc]
   obtain ⟨o,es,ep,ho,r1,r2,r3,_,r4⟩:=so2
   exact ⟨o,es,ep,ho,r1,r2,r3,r4⟩
  have ks:∀b o,b≠D→h1.get? b=some o→g.get? b=some o:=fun b o nb e=>(sb.2 b nb).trans e
  refine wpAny_pure ⟨plainId_quiet plain_dloop _,ih (i+1) _ (by omega) hlt (W.frame _ _ _ st1 fun b hb o e=>ks b o (fun q=>hD (by rw [←q];exact hb)) e) so3 (fun j p e=>?_) fun g' tk kp so'=>fin g' tk (fun b o nb e=>kp b o nb ?_) so'⟩
  ·obtain ⟨v,hv,a,o,m,rfl,na,nk,ha,r1,r2,r3⟩:=tp1 j p e
   have nD:∀{b:Addr},b∉D::wr→b≠D:=fun h z=>h (by rw [z];exact .head _)
   exact ⟨_,hv,a,o,m,rfl,na,nk,ks a o (nD na) ha,r1,r2,tk_mono r3 fun o e=>ks _ o (nD nk) e⟩
  ·exact ks b o (fun z=>nb (by rw [z];exact .head _)) (kw b o nb e)
end
inductive TPsAt (H:Hp):List V→List (List Key×V)→Prop
 | nil:TPsAt H [] []
 | cons {c b:Addr} {xs:List V} {k:List Key} {v:V} {kvs:List (List Key×V)} (h:H c=some (.tup [.ref b,v])) (g:H b=some (.tup (k.map kV))) (r:TPsAt H xs kvs):TPsAt H (.ref c::xs) ((k,v)::kvs)
section
variable {prog:Program} {w:World} {A:Around} {E:Value→Shared→Prop} {s:Shared}
theorem call_dict_raw {l:Addr} {its:List Value} {k:Nat} {sl:Array (Option Value)} {ps:List TKv} {Q:Value→Shared→Prop} (hh:A.handled=none) (hu:A.units+3<cLine)
  (hl:s.heap.get? l=some {cls:=.type "tuple",dict:=none,data:=.seq its.toArray k,slots:=sl}) (hlen:its.length=ps.length) (hb:ps.length≤100000) (hp:∀(j:Nat) p,ps[j]?=some p→∃v,its[j]?=some v∧PairH prog w s.heap p v [])
  (h:∀g tk,(∀b o,s.heap.get? b=some o→g.get? b=some o)→RawH prog w g s.heap.objs.size (mrgH ps)→Q (.ref s.heap.objs.size) {s with heap:=g,toks:=tk}):wpAny (model prog w) A (call (.type "dict") [.ref l]) Q E s:=by
 refine callType_codes (Q₁:=fun obj s₁=>obj=.ref s.heap.objs.size∧s₁={s with heap:=s.heap.push {cls:=.type "dict",data:=.dict #[]}}) F.kt_called_dict (F.kt_typeCall_dict_1 _) F.entry_dict_init (kt_code_dict_new _ ⟨rfl,rfl⟩) ?_
 rintro obj s₁ ⟨rfl,rfl⟩
 have gD:(s.heap.push {cls:=.type "dict",data:=.dict #[]}).get? s.heap.objs.size=some {cls:=.type "dict",data:=.dict #[]}:=Heap.get?_push_size _ rfl
 have hl1:(s.heap.push {cls:=.type "dict",data:=.dict #[]}).get? l=some {cls:=.type "tuple",dict:=none,data:=.seq its.toArray k,slots:=sl}:=Heap.get?_push_of_some _ hl
 refine ⟨⟨_,gD,rfl⟩,F.args_dict_init_2 _ _,?_⟩
 unfold Builtin.«dict.__init__»
 refine wpAny_bind ?_
 unfold Builtin.Dict.selfAndRest
 refine wpAny_bind (wpAny_notOrdered_dict ⟨_,gD,rfl⟩ (wpAny_pure (a:=(s.heap.objs.size,[Value.ref l])) ?_))
 show wpAny (model prog w) _ (Builtin.Dict.updateFrom "dict.__init__" s.heap.objs.size (.ref l) [] .none) _ _ _
 unfold Builtin.Dict.updateFrom
 refine wpAny_bind (wpAny_typeOf (T:="tuple") ⟨_,hl1,rfl⟩ ?_)
 rw [if_pos (by decide)]
 refine wpAny_bind (keysT hl1 (by simpa using hh) fun g tk kp=>?_)
 rw [if_pos (by rfl)]
 have ltD:s.heap.objs.size<g.objs.size:=Heap.lt_size (kp _ _ gD)
 have ltl:l<s.heap.objs.size:=Heap.lt_size hl
 have hl2:g.IsTuple l its.toArray:=⟨_,kp _ _ hl1,rfl,k,rfl⟩
 refine wpAny_bind (wpAny_rule (wpAny_bind (wpAny_pyIter_tuple hl2 (wpAny_pure ⟨plainId_quiet plain_dloop _,?_⟩))))
 have hne:l≠g.objs.size:=Nat.ne_of_lt (Nat.lt_trans ltl ltD)
 have nin:s.heap.objs.size∉[g.objs.size,l]:=fun q=>by
  rcases List.mem_cons.mp q with q | q
  ·exact Nat.ne_of_lt ltD q
  ·exact Nat.ne_of_gt ltl (List.mem_singleton.mp q)
 have nout:∀{b:Addr},b<s.heap.objs.size→b∉[s.heap.objs.size,g.objs.size]:=fun {b} lt q=>by
  rcases List.mem_cons.mp q with q | q
  ·exact Nat.ne_of_lt lt q
  ·exact Nat.ne_of_lt (Nat.lt_trans lt ltD) (List.mem_singleton.mp q)
 have keep:∀b o,s.heap.get? b=some o→(g.push {cls:=.type "tuple_iterator",data:=.fields #[.ref l,.int 0 0]}).get? b=some o:=fun b o e=>Heap.get?_push_of_some _ (kp _ _ (Heap.get?_push_of_some _ e))
 refine dict_loopT (A:=A.in1) (Walks.tuple (by simpa using hh) g.objs.size l hne its.toArray) (by show A.units+1+1<cLine;omega) s.heap.objs.size nin ps (by rw [List.size_toArray];omega) its (fun i v e=>by simpa using e) (by rw [List.size_toArray];omega) its.toArray.size 0 _ (Nat.sub_zero _) (Nat.zero_le _) ⟨⟨_,Heap.get?_push_size _ rfl,rfl,rfl⟩,hl2.push _⟩ ⟨_,#[],0,Heap.get?_push_of_some _ (kp _ _ gD),⟨rfl,rfl,rfl⟩,rfl,rfl,List.nodup_nil⟩ (fun j p e=>?_) fun g' tk' kp' so'=>⟨rfl,h g' tk' (fun b o e=>kp' b o (nout (Heap.lt_size e)) ?_) so'⟩
 ·obtain ⟨v,hv,a,o,m,rfl,_,_,ha,r1,r2,r3⟩:=hp j p e
  have la:=Heap.lt_size ha
  have lk:p.2.1<s.heap.objs.size:=by
   obtain ⟨_,_,_,h1,_⟩:=r3
   exact Heap.lt_size h1
  exact ⟨_,hv,a,o,m,rfl,nout la,nout lk,Heap.get?_push_of_some _ (kp _ _ (Heap.get?_push_of_some _ ha)),r1,r2,tk_mono r3 fun o e=>Heap.get?_push_of_some _ (kp _ _ (Heap.get?_push_of_some _ e))⟩
 ·exact Heap.get?_push_of_some _ (kp _ _ (Heap.get?_push_of_some _ e))
end
section
variable {X:Cx}
theorem tps_real {pins:List (Addr×Obj)} {s:Shared} {σ:St} {H:Hp} (I:Inv X pins σ H s):∀{ys:List V} {kvs:List (List Key×V)} {its:List Value},TPsAt H ys kvs→Vals ys its→∃ps:List TKv,KT H kvs ps∧its.length=ps.length∧∀(j:Nat) p,ps[j]?=some p→∃v,its[j]?=some v∧PairH X.prog X.w s.heap p v []
 | _,_,_,.nil,.nil=>⟨[],.nil,rfl,fun j p e=>by simp at e⟩
 | _,_,_,.cons (c:=c) (b:=b) (k:=k) (v:=v) h g r,.cons r1 t=>by
  obtain ⟨ps,kt,le,at_⟩:=tps_real I r t
  obtain ⟨_,its,rv,o,e1,e2,n,e3⟩:=(show ObjOk X.prog X.w H s.heap c (.tup [.ref b,v]) from I.hok c _ h)
  obtain ⟨u,x,rfl,ru,rx⟩:=vals2 rv
  cases ru
  cases r1
  refine ⟨(k,b,x)::ps,.cons ⟨rfl,g,rx⟩ kt,by rw [List.length_cons,List.length_cons,le],fun j p e=>?_⟩
  cases j with
  | zero=>
   rw [List.getElem?_cons_zero] at e
   cases e
   exact ⟨_,rfl,c,o,n,rfl,List.not_mem_nil,List.not_mem_nil,e1,e2.1,e3,key_of I.hok g⟩
  | succ j=>exact at_ j p (by simpa using e)
noncomputable def rDictTT:List V→Hp→VK→Prop:=fun xs H Q=>∃(l:Addr) (ys:List V) (kvs:List (List Key×V)),xs=[.ref l]∧H l=some (.tup ys)∧TPsAt H ys kvs∧kvs.length≤1000∧∀p,H p=none→Q (.ref p) (upd H p (.dT (mrgTV kvs)))
theorem call_dictTT (hc:X.calm=true) (hu:X.A.units+64<cLine):CallR X (.type "dict") rDictTT:=by
 intro pins s σ H xs us Q I rx h
 obtain ⟨l,ys,kvs,rfl,hq,pa,hlen,q⟩:=h
 obtain ⟨u,rfl,ru⟩:=vals1 rx
 cases ru
 obtain ⟨_,its,rv,⟨⟨c0,d0,dt0,sl0⟩,ho,hcl,m,hs⟩⟩:=(show ObjOk X.prog X.w H s.heap l (.tup ys) from I.hok l _ hq)
 simp only at hcl hs
 obtain ⟨hcl,hdn⟩:=hcl
 subst hcl hdn hs
 obtain ⟨ps,kt,hl,hp⟩:=tps_real I pa rv
 have kl:=Paired.length kt
 refine call_dict_raw (I.ok.hd hc) (by omega) ho hl (by omega) hp fun g tk kp hD=>?_
 have km:=mrgKT kt
 have ml:=mrgH_len ps
 refine ⟨.ref s.heap.objs.size,_,I.laid (t':=tk) (o:=.dT (mrgTV kvs)) kp (Nat.le_refl _) ⟨small_le (by rw [Paired.length km];omega),beq_eq_false_iff_ne.mpr (Nat.ne_of_gt I.big),mrgH ps,?_,hD⟩,rfl,q _ (I.hok.fresh (Nat.le_refl _))⟩
 exact KT.keeps km fun b ys e=>by rw [upd_ne (ne_of_none e (I.hok.fresh (Nat.le_refl _)))];exact e
end
theorem drop_out {kvs:List (List Key×V)} {k:List Key} (h:k∉kvs.map (·.1)):dropK kvs k=kvs:=by
 unfold dropK
 refine List.filter_eq_self.mpr fun p hp=>decide_eq_true fun e=>h (List.mem_map.mpr ⟨p,hp,e⟩)
theorem kt_drop {H:Hp}:∀{kvs:List (List Key×V)} {xs:List TKv} {k:List Key} {j:Nat} {q:Addr×Value},KT H kvs xs→(xs.map (·.1)).Nodup→xs[j]?=some (k,q)→KT H (dropK kvs k) (xs.eraseIdx j)
 | _,_,_,_,_,.nil,_,e=>by simp at e
 | p::kvs,x::xs,k,0,q,.cons h t,nd,e=>by
  rw [List.getElem?_cons_zero] at e
  cases e
  rw [List.map_cons,List.nodup_cons] at nd
  have ke:kvs.map (·.1)=xs.map (·.1):=by
   clear nd h
   induction t with
   | nil=>rfl
   | cons a _ ih=>rw [List.map_cons,List.map_cons,ih,a.1]
  have e1:dropK (p::kvs) k=kvs:=by
   have o:=drop_out (kvs:=kvs) (k:=k) (by rw [ke];exact nd.1)
   unfold dropK at o ⊢
   rw [List.filter_cons,if_neg (by simp [show p.1=k from h.1])]
   exact o
  rw [e1]
  exact t
 | p::kvs,x::xs,k,j+1,q,.cons h t,nd,e=>by
  rw [List.map_cons,List.nodup_cons] at nd
  have e:xs[j]?=some (k,q):=by simpa using e
  have ne:p.1≠k:=fun z=>nd.1 (List.mem_map.mpr ⟨(k,q),List.mem_of_getElem? e,by rw [←h.1,z]⟩)
  have e1:dropK (p::kvs) k=p::dropK kvs k:=by
   unfold dropK
   rw [List.filter_cons,if_pos (decide_eq_true ne)]
  rw [e1,List.eraseIdx_cons_succ]
  exact .cons h (kt_drop t nd.2 e)
theorem map_erase {α β:Type} (f:α→β):∀(l:List α) (j:Nat),(l.map f).eraseIdx j=(l.eraseIdx j).map f
 | [],_=>rfl
 | _::_,0=>rfl
 | a::l,j+1=>by rw [List.map_cons,List.eraseIdx_cons_succ,List.eraseIdx_cons_succ,List.map_cons,map_erase f l j]
theorem nd_erase {xs:List TKv} (nd:(xs.map (·.1)).Nodup) (j:Nat):((xs.eraseIdx j).map (·.1)).Nodup:=nd.sublist ((List.eraseIdx_sublist xs j).map _)
section
variable {prog:Program} {w:World} {A:Around} {E:Value→Shared→Prop} {s:Shared}
theorem pop_raw {d a:Addr} {xs:List TKv} {k:List Key} {j:Nat} {q:Addr×Value} (hu:A.units+1<cLine) (hkey:(tupleKind (mixKind prog w)).is s.heap k a) (hm:s.heap.DictOfH (tupleKind (mixKind prog w)) d xs) (hz:xs.length≤sizeLine) (hj:xs[j]?=some (k,q)) {Q:Fin→Shared→Prop}
  (h:∀g tk,RawH prog w g d (xs.eraseIdx j)→Heap.SameBut d s.heap g→Q (.done (.ret q.2)) {s with heap:=g,toks:=tk}):wpAny (model prog w) A.in1 (Builtin.«dict.pop» ⟨[.ref d,.ref a],[]⟩) Q E s:=by
 obtain ⟨o,es,ep,ho,ex,hd,he,his,hn⟩:=id hm
 have ty:s.TypeIs (.ref d) "dict":=hm.typeIs
 unfold Builtin.«dict.pop»
 refine wpAny_bind ?_
 unfold Builtin.Dict.keyAndDefault
 refine wpAny_bind (wpAny_notOrdered_dict ty (show wpAny (model prog w) _ (pure (d,Value.ref a,none)) _ _ s from wpAny_pure ?_))
 have jl:j<xs.length:=(List.getElem?_eq_some_iff.mp hj).1
 have sz:es.size=xs.length:=by rw [←Array.length_toList,he,List.length_map]
 have ne:es.isEmpty=false:=by
  rcases z:es.isEmpty with _ | _
  ·rfl
  ·have:=Array.isEmpty_iff_size_eq_zero.mp z
   omega
 have ej:es[j]?=some (entryOfKey (tupleKind (mixKind prog w)) (k,q)):=by rw [←Array.getElem?_toList,he,List.getElem?_map,hj];rfl
 have kp:¬((keyPart (Value.ref a)).isSome=true):=Bool.false_ne_true
 simp only [kp,if_false]
 refine wpAny_bind (wpAny_dictEntries ho hd (bP ?_))
 simp only [ne,Bool.false_eq_true,if_false]
 refine wpAny_bind ?_
 unfold Builtin.Dict.takeOut
 refine wpAny_holding (wpAny_bind ((tupleKind (mixKind prog w)).pyHash (tupleKind_room_in1 hu) hkey (wpAny_bind (wpAny_dictFind_heap (tupleKind_room_in1 hu) hkey ho hd he his hn (fun hno=>absurd hj (hno j q)) fun i p hi=>?_))))
 have ij:i=j:=idxH_unique hn hi hj
 subst ij
 show wpAny (model prog w) _ (dictEntries d (keyPart (.ref a)) >>= fun l=>_) _ _ _
 refine wpAny_bind (wpAny_dictEntries ho hd ?_)
 rw [ej]
 refine wpAny_bind (wpAny_updateDictKeys (hz:=?_) ho hd (wpAny_pure ?_))
 ·rw [if_neg (by exact Bool.false_ne_true)]
  refine wpAny_bind (wpAny_letGo (wpAny_pure (h _ _ ⟨_,_,ep+1,Heap.get?_update_self _ ho (Obj.isFreed_of_dict (Obj.data_mapDictKeys hd _)),ex.mapDictKeys _,Obj.data_mapDictKeys hd _,?_,nd_erase hn i⟩ (Heap.SameBut.update ..))))
  rw [Array.eraseIdxIfInBounds,dif_pos (by omega:i<es.size),Array.toList_eraseIdx,he]
  exact map_erase _ _ _
 ·omega
end
section
variable {X:Cx}
noncomputable def rPopT:V→List V→Hp→VK→Prop:=fun x vs H Q=>∃(d a:Addr) (kvs:List (List Key×V)) (k:List Key) (v:V),x=.ref d∧vs=[.ref a]∧H d=some (.dT kvs)∧H a=some (.tup (k.map kV))∧valV kvs k=some v∧Q v (upd H d (.dT (dropK kvs k)))
theorem kt_find {H:Hp} {kvs:List (List Key×V)} {xs:List TKv} {k:List Key} {v:V} (kt:KT H kvs xs):valV kvs k=some v→∃(j:Nat) (q:Addr×Value),xs[j]?=some (k,q)∧RelV v q.2:=by
 induction kt with
 | nil=>intro e;simp [valV] at e
 | @cons p x kvs xs h t ih=>
  intro e
  by_cases z:p.1=k
  ·rw [valV_pos z] at e
   cases e
   exact ⟨0,x.2,by rw [List.getElem?_cons_zero,←z,h.1],h.2.2⟩
  ·rw [valV_neg z] at e
   obtain ⟨j,q,e1,e2⟩:=ih e
   exact ⟨j+1,q,by simpa using e1,e2⟩
theorem mt_popT (hu:X.A.units+64<cLine):MtR X "dict.pop" rPopT:=by
 intro pins s σ H x vs v us Q I rx rv h
 obtain ⟨d,a,kvs,k,y,rfl,rfl,hd,ha,hv,q⟩:=h
 cases rx
 obtain ⟨u,rfl,ru⟩:=vals1 rv
 cases ru
 obtain ⟨z,lo,xs,kt,dd⟩:=dt_of I.hok hd
 obtain ⟨j,p,hj,rp⟩:=kt_find kt hv
 have hn:(xs.map (·.1)).Nodup:=by obtain ⟨_,_,_,_,_,_,_,_,hn⟩:=dd;exact hn
 have tu:∀b ys,H b=some (.tup ys)→upd H d (.dT (dropK kvs k)) b=some (.tup ys):=fun b ys e=>by rw [upd_ne (ne_of e hd (by intro z;cases z))];exact e
 refine wpAny_call_entry PySem.F.slot_dict_pop dd.typeIs PySem.F.entry_dict_pop (pop_raw (by omega) (key_of I.hok ha) dd (by rw [←Paired.length kt];exact z) hj fun g tk raw sb=>⟨_,rfl,y,_,?_,rp,q⟩) (PySem.F.args_dict_pop_2 _ _)
 have hg:∃o,g.get? d=some o:=let ⟨o,_,_,e,_⟩:=raw;⟨o,e⟩
 exact I.write (x:=d) (e:=d) (t':=tk) (by rw [hd];exact trivial) (.inl rfl) (fun b u nb e=>(sb.2 b nb).trans e) hg ⟨Nat.le_trans (List.length_filter_le _ _) z,lo,xs.eraseIdx j,KT.keeps (kt_drop kt hn hj) tu,raw⟩
end
noncomputable abbrev ItI (h:Heap) (it d:Addr) (i n ep:Nat) (f0 f1 ok ov:Value):Prop:=h.get? it=some {cls:=.type "dict_itemiterator",dict:=none,data:=.fields #[f0,f1,.ref d,.int i 0,.int n 0,.int ep 0,ok,ov],slots:=#[]}
noncomputable abbrev duo (x y:Value):Obj:={cls:=.type "tuple",data:=.seq #[x,y]}
section
variable {prog:Program} {w:World} {A:Around} {E:Value→Shared→Prop} {s:Shared} {it d:Addr} {i ep:Nat} {es:Array DictEntry} {f0 f1 ok ov:Value}
theorem ri_iter {v:Addr} {Q:Value→Shared→Prop} (zv:s.heap.IsItemsView v d) (zm:RwD s.heap d es ep)
  (zq:∀g:Heap,ItI g s.heap.objs.size d 0 es.size ep .none (.bool false) .none .none→g.objs.size=s.heap.objs.size+1→(∀b o,s.heap.get? b=some o→g.get? b=some o)→Q (.ref s.heap.objs.size) {s with heap:=g}):wpAny (model prog w) A (pyIter (.ref v)) Q E s:=by
 obtain ⟨ou,vo,_,vd⟩:=id zv
 obtain ⟨o,yo,_,yd⟩:=id zm
 refine wpAny_pyIter_slot zv.typeIs PySem.F.slot_dict_items_iter (wpAny_call_entry PySem.F.slot_dict_items_iter zv.typeIs PySem.F.entry_dict_items_iter (bP (wpAny_bind (wpAny_bind (wpAny_field vo vd (x:=.ref d) rfl (wpAny_pure (wpAny_bind ?_)))))) (PySem.F.args_dict_items_iter_1 _))
 unfold Builtin.Dict_items.newIterator;skip
 refine wpAny_bind (wpAny_dictEntries yo yd (wpAny_bind (wpAny_dictEpoch yo yd ?_)))
 simp only [own_no.2.2,if_true]
 refine wpAny_newObj_type (wpAny_pure ⟨_,rfl,"dict_itemiterator",_,⟨_,Heap.get?_push_size _ rfl,rfl⟩,PySem.F.slot_dict_itemiterator_next.lookup,?_⟩) (by simp only [sizeOk,Builtin.Dict_items.ownedTupleFields,List.size_toArray,List.length_append,List.length_cons,List.length_nil,sizeLine_eq];omega)
 refine zq _ ?_ (size_push' _ _) fun b o e=>Heap.get?_push_of_some _ e
 unfold ItI
 rw [Heap.get?_push_size _ rfl]
 simp [rawInt,Builtin.Dict_items.ownedTupleFields]
theorem alive_none {a:Addr} {Q:Option Obj→Shared→Prop} (ho:s.heap.get? a=none) (h:Q none s):wpAny (model prog w) A (loadIfAlive a) Q E s:=by
 have h':Q (s.heap.get? a) s:=by rw [ho];exact h
 exact fun _ _ _=>h'
theorem ri_item {Q:Option Value→Shared→Prop} (zi:ItI s.heap it d i es.size ep f0 f1 ok ov) (alt:f0=.none∨∃(a:Addr) (b:Bool),f0=rawInt a∧f1=.bool b) (zm:RwD s.heap d es ep) (zx:i<es.size)
  (zq:∀(g:Heap) (e0 e1 x y:Value),ItI g it d (i+1) es.size ep e0 e1 x y→(∃(a:Addr) (b:Bool),e0=rawInt a∧e1=.bool b)→g.get? s.heap.objs.size=some (duo es[i].key es[i].val)→g.objs.size=s.heap.objs.size+1→
   (∀b o,b≠it→s.heap.get? b=some o→g.get? b=some o)→Q (some (.ref s.heap.objs.size)) {s with heap:=g}):wpAny (model prog w) A (pyNext (.ref it)) Q E s:=by
 obtain ⟨hp,gs,dr,tk,os⟩:=s
 obtain ⟨od,yo,_,yd⟩:=zm
 have ty:Shared.TypeIs ⟨hp,gs,dr,tk,os⟩ (.ref it) "dict_itemiterator":=⟨_,zi,rfl⟩
 refine next_at ty PySem.F.slot_dict_itemiterator_next PySem.F.entry_dict_itemiterator_next (PySem.F.args_dict_itemiterator_next_1 _) (bP (wpAny_bind (wpAny_bind (wpAny_bind (wpAny_typeNameOfWhole_itemiter ty (wpAny_pure (wpAny_bind (wpAny_fieldsOf zi rfl ?_))))))))
 simp only [own_no.2.2,if_true]
 show wpAny (model prog w) _ (if (Value.ref d == Value.none)=true then _ else _) _ _ _
 rw [if_neg (ref_some d)];refine bP (wpAny_bind (wpAny_dictEntries yo yd ?_))
 rw [if_neg (by simp)];refine bP (wpAny_bind (wpAny_dictEpoch yo yd ?_))
 rw [if_neg (by simp)];refine wpAny_pure ?_
 simp only [show ¬((i:Int)<0) from by omega,if_false,Int.toNat_natCast,Array.getElem?_eq_getElem zx]
 refine wpAny_bind (wpAny_bind (wpAny_typeNameOfWhole_itemiter ty (wpAny_pure (wpAny_bind (wpAny_isOneOf_itemiter ty ?_)))))
 show wpAny (model prog w) _ (setField (.ref it) 3 (rawInt ((i:Int)+1)) >>= fun _=>_) _ _ ⟨hp,gs,dr,tk,os⟩
 refine wpAny_bind (wpAny_setField_rec zi (by simp) fun g1 e1 s1=>?_)
 have s1:Heap.SameBut it hp g1:=s1
 have e1:ItI g1 it d (i+1) es.size ep f0 f1 ok ov:=by
  have q:((i+1:Nat):Int)=(i:Int)+1:=by omega
  unfold ItI;rw [q];simpa [rawInt] using e1
 have ty1:Shared.TypeIs ⟨g1,gs,dr,tk,os⟩ (.ref it) "dict_itemiterator":=⟨_,e1,rfl⟩
 refine wpAny_bind (wpAny_holding (wpAny_bind (wpAny_isOneOf_itemiter ty1 (wpAny_bind (wpAny_isOneOf_itemiter ty1 ?_)))))
 show wpAny (model prog w) _ (Builtin.Dict_items.pairFromOwner (.ref it) 6 es[i].key es[i].val) _ _ ⟨g1,gs,dr,tk,os⟩
 unfold Builtin.Dict_items.pairFromOwner;refine wpAny_bind (wpAny_newTuple ?_)
 have e2:ItI (g1.push (duo es[i].key es[i].val)) it d (i+1) es.size ep f0 f1 ok ov:=Heap.get?_push_of_some _ e1
 generalize hz:g1.push (duo es[i].key es[i].val)=g2 at e2
 have z1:g1.objs.size=hp.objs.size:=s1.1
 have il:it<hp.objs.size:=Heap.lt_size zi
 have t2:g2.get? hp.objs.size=some (duo es[i].key es[i].val):=by rw [←hz,←z1];exact Heap.get?_push_size _ rfl
 have z2:g2.objs.size=hp.objs.size+1:=by rw [←hz,Heap.size_push,z1]
 have k2:∀b o,b≠it→hp.get? b=some o→g2.get? b=some o:=fun b o nb e=>by rw [←hz];exact Heap.get?_push_of_some _ (s1.extBut b o nb e)
 have fin:∀(g:Heap) (x0 x1 x y:Value),ItI g it d (i+1) es.size ep x0 x1 x y→(∃(a:Addr) (b:Bool),x0=rawInt a∧x1=.bool b)→Heap.SameBut it g2 g→Q (some (.ref hp.objs.size)) ⟨g,gs,dr,tk,os⟩:=fun g x0 x1 x y h1 h2 sb=>
  zq g x0 x1 x y h1 h2 (sb.extBut _ _ (Nat.ne_of_gt il) t2) (by show g.objs.size=hp.objs.size+1;rw [sb.1,z2]) fun b o nb e=>sb.extBut b o nb (k2 b o nb e)
 show wpAny (model prog w) _ (Builtin.Dict_items.ownedTupleIsFree (.ref it) >>= fun _=>_) _ _ ⟨g2,gs,dr,tk,os⟩
 rw [z1]
 unfold Builtin.Dict_items.ownedTupleIsFree
 rcases alt with rfl | ⟨a,b,rfl,rfl⟩
 ·refine wpAny_bind (wpAny_bind (wpAny_field e2 rfl (x:=.none) rfl (wpAny_pure ?_)))
  simp only [if_true]
  refine wpAny_bind (wpAny_field e2 rfl (x:=ok) rfl (wpAny_bind (wpAny_field e2 rfl (x:=ov) rfl (wpAny_bind (wpAny_setField_rec e2 (by simp) fun g3 e3 s3=>wpAny_bind (wpAny_setField_rec e3 (by simp) fun g4 e4 s4=>wpAny_bind (wpAny_setField_rec e4 (by simp) fun g5 e5 s5=>wpAny_bind (wpAny_setField_rec e5 (by simp) fun g6 e6 s6=>?_))))))))
  refine wpAny_bind (wpAny_letGo (wpAny_pure (wpAny_pure ⟨_,rfl,fin g6 _ _ _ _ e6 ⟨_,_,rfl,rfl⟩ ?_⟩)))
  have s3:Heap.SameBut it g2 g3:=s3
  have s4:Heap.SameBut it g3 g4:=s4
  have s5:Heap.SameBut it g4 g5:=s5
  have s6:Heap.SameBut it g5 g6:=s6
  exact ⟨by rw [s6.1,s5.1,s4.1,s3.1],fun c nc=>(s6.2 c nc).trans ((s5.2 c nc).trans ((s4.2 c nc).trans (s3.2 c nc)))⟩
 ·refine wpAny_bind (wpAny_bind (wpAny_field e2 rfl (x:=rawInt a) rfl ?_))
  show wpAny (model prog w) _ (loadIfAlive ((a:Int).toNat) >>= fun _=>_) _ _ _
  rw [Int.toNat_natCast]
  cases a2:g2.get? a with
  | none=>
   refine wpAny_bind (alive_none a2 ?_)
   simp only [Option.isNone_none,if_true]
   refine wpAny_pure ?_
   simp only [if_true]
   refine wpAny_bind (wpAny_field e2 rfl (x:=ok) rfl (wpAny_bind (wpAny_field e2 rfl (x:=ov) rfl (wpAny_bind (wpAny_setField_rec e2 (by simp) fun g3 e3 s3=>wpAny_bind (wpAny_setField_rec e3 (by simp) fun g4 e4 s4=>wpAny_bind (wpAny_setField_rec e4 (by simp) fun g5 e5 s5=>wpAny_bind (wpAny_setField_rec e5 (by simp) fun g6 e6 s6=>?_))))))))
   refine wpAny_bind (wpAny_letGo (wpAny_pure (wpAny_pure ⟨_,rfl,fin g6 _ _ _ _ e6 ⟨_,_,rfl,rfl⟩ ?_⟩)))
   have s3:Heap.SameBut it g2 g3:=s3
   have s4:Heap.SameBut it g3 g4:=s4
   have s5:Heap.SameBut it g4 g5:=s5
   have s6:Heap.SameBut it g5 g6:=s6
   exact ⟨by rw [s6.1,s5.1,s4.1,s3.1],fun c nc=>(s6.2 c nc).trans ((s5.2 c nc).trans ((s4.2 c nc).trans (s3.2 c nc)))⟩
  | some o=>
   refine wpAny_bind (PySem.W.kdx_alive a2 ?_)
   simp only [Option.isNone_some,Bool.false_eq_true,if_false]
   refine wpAny_bind (wpAny_field e2 rfl (x:=.bool b) rfl ?_)
   cases b with
   | true=>
    rw [if_neg (show ¬((Value.bool true != Value.bool true)=true) from Bool.false_ne_true)];refine wpAny_pure ?_
    simp only [Bool.false_eq_true,if_false]
    exact wpAny_pure (wpAny_pure ⟨_,rfl,fin g2 _ _ _ _ e2 ⟨_,_,rfl,rfl⟩ (Heap.SameBut.refl _ _)⟩)
   | false=>
    rw [if_pos (show (Value.bool false != Value.bool true)=true from rfl)]
    refine wpAny_bind (wpAny_setField_rec e2 (by simp) fun g3 e3 s3=>wpAny_pure ?_)
    simp only [Bool.false_eq_true,if_false]
    exact wpAny_pure (wpAny_pure ⟨_,rfl,fin g3 _ _ _ _ e3 ⟨_,_,rfl,rfl⟩ s3⟩)
theorem ri_done {Q:Option Value→Shared→Prop} (zh:A.handled=none) (zi:ItI s.heap it d i es.size ep f0 f1 ok ov) (zm:RwD s.heap d es ep) (zx:es.size≤i) (zq:∀g:Heap,Heap.ExtBut it s.heap g→Q none {s with heap:=g}):wpAny (model prog w) A (pyNext (.ref it)) Q E s:=by
 obtain ⟨od,yo,_,yd⟩:=zm
 have ty:s.TypeIs (.ref it) "dict_itemiterator":=⟨_,zi,rfl⟩
 refine next_at ty PySem.F.slot_dict_itemiterator_next PySem.F.entry_dict_itemiterator_next (PySem.F.args_dict_itemiterator_next_1 _) (bP (wpAny_bind (wpAny_bind (wpAny_bind (wpAny_typeNameOfWhole_itemiter ty (wpAny_pure (wpAny_bind (wpAny_fieldsOf zi rfl ?_))))))))
 simp only [own_no.2.2,if_true]
 show wpAny (model prog w) _ (if (Value.ref d == Value.none)=true then _ else _) _ _ s
 rw [if_neg (ref_some d)];refine bP (wpAny_bind (wpAny_dictEntries yo yd ?_))
 rw [if_neg (by simp)];refine bP (wpAny_bind (wpAny_dictEpoch yo yd ?_))
 rw [if_neg (by simp)];refine wpAny_pure ?_
 simp only [show ¬((i:Int)<0) from by omega,if_false,Int.toNat_natCast,Array.getElem?_eq_none zx]
 refine wpAny_bind (wpAny_bind (wpAny_typeNameOfWhole_itemiter ty (wpAny_pure ?_)))
 show wpAny (model prog w) _ (setField (.ref it) 2 .none >>= fun _=>_) _ _ s
 refine wpAny_bind (wpAny_setField zi rfl (by simp) (raise_stop (by simpa using zh) fun g e k ty=>⟨ty,zq g fun b u nb eb=>k b u ?_⟩))
 exact (Heap.get?_update_other _ _ (Ne.symm nb)).trans eb
end
noncomputable def beh (I n:Nat):List Addr:=(List.range n).map fun j=>I+1+j
theorem beh_succ (I n:Nat):beh I (n+1)=beh I n++[I+1+n]:=by
 unfold beh
 rw [List.range_succ,List.map_append]
 rfl
theorem beh_len (I n:Nat):(beh I n).length=n:=by
 unfold beh
 rw [List.length_map,List.length_range]
theorem beh_ne (I j:Nat):I+1+j≠I:=by omega
noncomputable abbrev lsO (xs:Array Value) (c:Nat):Obj:={cls:=.type "list",data:=.seq xs c}
section
variable {prog:Program} {w:World} {A:Around} {E:Value→Shared→Prop} {s:Shared} {d:Addr} {ep:Nat} {es:Array DictEntry} {R:Result→Shared→Prop}
theorem items_loop {S I:Addr} (zh:A.handled=none) (hSI:S<I) (hSd:d≠S) (hId:d≠I) (hn:es.size≤sizeLine) (res:Value) {h0:Heap}
  (fin:∀(h:Heap) (tk c:Nat),(∀b o,b≠S→b≠I→h0.get? b=some o→h.get? b=some o)→h.get? S=some (lsO ((beh I es.size).map Value.ref).toArray c)→(∀(j:Nat) (hj:j<es.size),h.get? (I+1+j)=some (duo es[j].key es[j].val))→R (.ok (.ret res)) {s with heap:=h,toks:=tk}):
  ∀(k i:Nat) (h:Heap) (tk c:Nat) (f0 f1 ok ov:Value),es.size - i=k→i≤es.size→ItI h I d i es.size ep f0 f1 ok ov→(f0=.none∨∃(a:Addr) (b:Bool),f0=rawInt a∧f1=.bool b)→RwD h d es ep→(∀b o,b≠S→b≠I→h0.get? b=some o→h.get? b=some o)→
   h.get? S=some (lsO ((beh I i).map Value.ref).toArray c)→(∀(j:Nat) (hj:j<es.size),j<i→h.get? (I+1+j)=some (duo es[j].key es[j].val))→h.objs.size=I+1+i→
   codeAny (model prog w) A (.builtin "list.extend.loop" ⟨[.ref S,.ref I,res],[]⟩) R {s with heap:=h,toks:=tk}:=by
 have ne:S≠I:=Nat.ne_of_lt hSI
 intro k
 induction k with
 | zero=>
  intro i h tk c f0 f1 ok ov hk hi st alt hD keep hS tp hz
  obtain rfl:i=es.size:=by omega
  refine codeAny_builtin PySem.F.entry_extend_loop ?_;rw [Around.under_plainId PySem.F.plain_extend_loop _]
  refine wpAny_bind (m:=pyNext (.ref I)) (ri_done (s:={s with heap:=h,toks:=tk}) (A:=A.in1) (by simpa using zh) st hD (Nat.le_refl _) fun g x=>wpAny_pure (fin g tk c (fun b o h1 h2 e=>x b o h2 (keep b o h1 h2 e)) (x S _ ne hS) fun j hj=>x _ _ (beh_ne I j) (tp j hj hj)))
 | succ k ih=>
  intro i h tk c f0 f1 ok ov hk hi st alt hD keep hS tp hz
  have hlt:i<es.size:=by omega
  refine codeAny_builtin PySem.F.entry_extend_loop ?_;rw [Around.under_plainId PySem.F.plain_extend_loop _]
  refine wpAny_bind (m:=pyNext (.ref I)) (ri_item (s:={s with heap:=h,toks:=tk}) (A:=A.in1) st alt hD hlt fun g x0 x1 x y st' al tg zg kp=>?_)
  dsimp only at tg zg kp al ⊢
  rw [hz] at tg zg ⊢
  have hSl:S<h.objs.size:=Heap.lt_size hS
  have hS':=kp S _ ne hS
  have up:∀b o,b≠S→g.get? b=some o→(g.update S (Obj.mapSeq (·.push (Value.ref (I+1+i))))).get? b=some o:=fun b o nb e=>(Heap.get?_update_other _ _ (Ne.symm nb)).trans e
  have hl:((beh I i).map Value.ref).toArray.size=i:=by rw [List.size_toArray,List.length_map,beh_len]
  obtain ⟨c2,u2⟩:∃c2,(g.update S (Obj.mapSeq (·.push (Value.ref (I+1+i))))).get? S=some (lsO ((beh I (i+1)).map Value.ref).toArray c2):=by
   have u:=get?_update_seq (c:="list") hS' (fun x=>x.push (Value.ref (I+1+i)))
   rw [List.push_toArray] at u
   rw [beh_succ,List.map_append]
   exact ⟨_,u⟩
  show wpAny (model prog w) A.in1 (updateSeq S (·.push (Value.ref (I+1+i))) >>= fun _=>_) _ _ _
  refine wpAny_bind (wpAny_updateSeq hS' rfl (wpAny_pure ⟨plainId_quiet PySem.F.plain_extend_loop _,ih (i+1) _ tk c2 x0 x1 x y (by omega) hlt (up I _ (Ne.symm ne) st') (.inr al) (hD.at fun o e=>up d o hSd (kp d o hId e)) (fun b o h1 h2 e=>up b o h1 (kp b o h2 (keep b o h1 h2 e))) u2 (fun j hj ji=>?_) ?_⟩) (by rw [hl];omega) (by rw [Array.size_push,hl];omega))
  ·by_cases z:j=i
   ·subst z
    exact up _ _ (Nat.ne_of_gt (Nat.lt_of_lt_of_le hSI (by omega))) tg
   ·exact up _ _ (Nat.ne_of_gt (Nat.lt_of_lt_of_le hSI (by omega))) (kp _ _ (beh_ne I j) (tp j hj (by omega)))
  ·rw [Heap.size_update,zg]
   omega
theorem ne_it:(Value.type "dict_items" == Value.type "list")=false∧(Value.type "dict_items" == Value.type "tuple")=false:=by decide
theorem items_extend {S r:Addr} (zh:A.handled=none) (zv:s.heap.IsItemsView r d) (zm:RwD s.heap d es ep) (hSr:S≠r) (hSd:d≠S) (hn:es.size≤sizeLine) (res:Value) {c0:Nat} (eS:s.heap.get? S=some (lsO #[] c0))
  (fin:∀(h:Heap) (tk c:Nat),(∀b o,b≠S→s.heap.get? b=some o→h.get? b=some o)→h.get? S=some (lsO ((beh s.heap.objs.size es.size).map Value.ref).toArray c)→(∀(j:Nat) (hj:j<es.size),h.get? (s.heap.objs.size+1+j)=some (duo es[j].key es[j].val))→R (.ok (.ret res)) {s with heap:=h,toks:=tk}):
  wpAny (model prog w) A.in1 (Builtin.List.listExtendWith (.ref S) (.ref r) res) (fun fin s'=>match fin with
   | .done f=>R (.ok f) s'
   | .again c'=>c'.quiet=true∧codeAny (model prog w) A c' R s') (fun e s'=>R (.error e) s') s:=by
 have lS:S<s.heap.objs.size:=Heap.lt_size eS
 unfold Builtin.List.listExtendWith
 refine wpAny_bind (wpAny_typeOf zv.typeIs ?_)
 have sm:Builtin.List.listSameRef (.ref S) (.ref r)=false:=by
  unfold Builtin.List.listSameRef
  simpa using hSr
 rw [sm,ne_it.1,ne_it.2,if_neg (by decide)]
 refine wpAny_bind (ri_iter zv zm fun g1 st z1 kp=>?_)
 refine wpAny_bind (wpAny_holding (PySem.W.kdx_hint (s:={s with heap:=g1}) (let ⟨o,ho,hc,_⟩:=zv;⟨o,kp _ _ ho,hc⟩) ?_))
 refine wp_ite_pos (by kernel_rfl) (wpAny_bind (wpAny_rule ?_))
 unfold Builtin.List.listTouch;skip
 have u1:=get?_update_seq (c:="list") (kp _ _ eS) (fun x=>x.push Value.none)
 have u2:=get?_update_seq (c:="list") u1 (fun x=>x.pop)
 refine wpAny_bind (wpAny_bind (listUpdate_at (kp _ _ eS) rfl (listUpdate_at u1 rfl ?_ (by simp [sizeLine_eq]) (by simp)) (by simp) (by simp [sizeLine_eq])))
 obtain ⟨c2,u3⟩:∃c2,((g1.update S (Obj.mapSeq fun x=>x.push Value.none)).update S (Obj.mapSeq fun x=>x.pop)).get? S=some (lsO #[] c2):=⟨_,u2⟩
 have k2:∀b o,b≠S→g1.get? b=some o→((g1.update S (Obj.mapSeq fun x=>x.push Value.none)).update S (Obj.mapSeq fun x=>x.pop)).get? b=some o:=fun b o nb e=>by
  rw [Heap.get?_update_ne _ _ _ _ nb,Heap.get?_update_ne _ _ _ _ nb]
  exact e
 have z2:((g1.update S (Obj.mapSeq fun x=>x.push Value.none)).update S (Obj.mapSeq fun x=>x.pop)).objs.size=s.heap.objs.size+1:=by rw [Heap.size_update,Heap.size_update,z1]
 generalize (g1.update S (Obj.mapSeq fun x=>x.push Value.none)).update S (Obj.mapSeq fun x=>x.pop)=g2 at u3 k2 z2
 refine wpAny_pure ⟨plainId_quiet PySem.F.plain_extend_loop _,items_loop (s:=s) (es:=es) (ep:=ep) (h0:=s.heap) zh lS hSd (Nat.ne_of_lt zm.lt) hn res (fun h tk c kh hS tp=>fin h tk c (fun b o nb e=>kh b o nb (Nat.ne_of_lt (Heap.lt_size e)) e) hS tp) es.size 0 g2 s.toks c2 .none (.bool false) .none .none (Nat.sub_zero _) (Nat.zero_le _) (k2 _ _ (Nat.ne_of_gt lS) st) (.inl rfl) (zm.at fun o e=>k2 d o hSd (kp d o e)) (fun b o nb _ e=>k2 b o nb (kp b o e)) u3 (fun j hj ji=>absurd ji (Nat.not_lt_zero j)) z2⟩
noncomputable def ColI (s:Shared) (es:Array DictEntry) (q:Result) (s':Shared):Prop:=∃(g:Heap) (tk c:Nat),q=.ok (.ret (.ref s.heap.objs.size))∧s'={s with heap:=g,toks:=tk}∧(∀b o,s.heap.get? b=some o→g.get? b=some o)∧
 g.get? s.heap.objs.size=some (lsO ((beh (s.heap.objs.size+1) es.size).map Value.ref).toArray c)∧∀(j:Nat) (hj:j<es.size),g.get? (s.heap.objs.size+1+1+j)=some (duo es[j].key es[j].val)
theorem items_collect {r:Addr} {C:List Value→Shared→Prop} (zh:A.handled=none) (zv:s.heap.IsItemsView r d) (zm:RwD s.heap d es ep) (hn:es.size≤sizeLine)
  (h:∀(g:Heap) (tk:Nat),(∀b o,s.heap.get? b=some o→g.get? b=some o)→(∀(j:Nat) (hj:j<es.size),g.get? (s.heap.objs.size+1+1+j)=some (duo es[j].key es[j].val))→C ((beh (s.heap.objs.size+1) es.size).map Value.ref) {s with heap:=g,toks:=tk}):wpAny (model prog w) A (collect (.ref r)) C E s:=by
 have lr:r<s.heap.objs.size:=let ⟨_,e,_⟩:=zv;Heap.lt_size e
 unfold collect
 refine wpAny_bind (wpAny_runValue (codeAny_builtin entry_proto_collect' ?_));rw [Around.under_plainId PySem.F.plain_proto_collect _]
 refine wpAny_bind (m:=newList []) (wpAny_newObj_type (wpAny_pure ⟨plainId_quiet PySem.F.plain_list_iadd _,codeAny_builtin entry_list_iadd' ?_⟩));rw [Around.under_plainId PySem.F.plain_list_iadd _]
 have own:(s.heap.push {cls:=.type "list",data:=.seq ([]:List Value).toArray}).get? s.heap.objs.size=some (lsO #[] 0):=Heap.get?_push_size _ rfl
 have sz:(s.heap.push {cls:=.type "list",data:=.seq ([]:List Value).toArray}).objs.size=s.heap.objs.size+1:=size_push' _ _
 have run:=items_extend (prog:=prog) (w:=w) (A:=A) (s:={s with heap:=s.heap.push {cls:=.type "list",data:=.seq ([]:List Value).toArray}}) (R:=ColI s es) (es:=es) (ep:=ep) (r:=r) zh (let ⟨o,e,x⟩:=zv;⟨o,Heap.get?_push_of_some _ e,x⟩) (zm.at fun o e=>Heap.get?_push_of_some _ e) (Nat.ne_of_gt lr) (Nat.ne_of_lt zm.lt) hn (.ref s.heap.objs.size) own
  (fun g tk c hk hS tp=>⟨g,tk,c,rfl,rfl,fun b o e=>hk b o (Nat.ne_of_lt (Heap.lt_size e)) (Heap.get?_push_of_some _ e),by rw [←sz];exact hS,fun j hj=>by rw [←sz];exact tp j hj⟩)
 refine wpAny_mono run (fun fin s' y=>?_) (fun _ _ y=>by obtain ⟨_,_,_,e,_⟩:=y;cases e)
 have last:∀{g:Heap} {tk c:Nat},(∀b o,s.heap.get? b=some o→g.get? b=some o)→g.get? s.heap.objs.size=some (lsO ((beh (s.heap.objs.size+1) es.size).map Value.ref).toArray c)→(∀(j:Nat) (hj:j<es.size),g.get? (s.heap.objs.size+1+1+j)=some (duo es[j].key es[j].val))→
   wpAny (model prog w) A (load s.heap.objs.size >>= fun u=>match u.data with
    | .seq xs _=>pure xs.toList
    | _=>unsupported "internal:collect") C E {s with heap:=g,toks:=tk}:=fun {g tk c} hk hS tp=>wpAny_bind (wpAny_load hS (wpAny_pure (by rw [List.toList_toArray];exact h g tk hk tp)))
 cases fin with
 | done f=>
  obtain ⟨g,tk,c,e,rfl,hk,hS,tp⟩:=y
  cases e
  exact last hk hS tp
 | again c1=>
  refine ⟨y.1,codeAny_mono y.2 fun q s2 z=>?_⟩
  obtain ⟨g,tk,c,rfl,rfl,hk,hS,tp⟩:=z
  exact last hk hS tp
end
noncomputable def leP (a b:(Int×Int)×Int):Bool:=decide (a.1.1<b.1.1) || (decide (a.1.1=b.1.1) && (decide (a.1.2<b.1.2) || (decide (a.1.2=b.1.2) && decide (a.2≤b.2))))
theorem leP_iff {a b:(Int×Int)×Int}:leP a b=true↔a.1.1<b.1.1∨(a.1.1=b.1.1∧(a.1.2<b.1.2∨(a.1.2=b.1.2∧a.2≤b.2))):=by
 unfold leP
 simp only [Bool.or_eq_true,Bool.and_eq_true,decide_eq_true_iff]
theorem leP_total (a b:(Int×Int)×Int):(leP a b || leP b a)=true:=by
 rw [Bool.or_eq_true,leP_iff,leP_iff]
 omega
theorem leP_trans (a b c:(Int×Int)×Int) (h1:leP a b=true) (h2:leP b c=true):leP a c=true:=by
 rw [leP_iff] at *
 omega
theorem leP_anti {a b:(Int×Int)×Int} (h1:leP a b=true) (h2:leP b a=true):a=b:=by
 rw [leP_iff] at h1 h2
 exact Prod.ext (Prod.ext (by omega) (by omega)) (by omega)
noncomputable def srtP2 (ps:Sps):Sps:=ps.mergeSort leP
theorem srtP2_perm (ps:Sps):(srtP2 ps).Perm ps:=List.mergeSort_perm _ _
theorem srtP2_pw (ps:Sps):(srtP2 ps).Pairwise (fun a b=>leP a b=true):=List.pairwise_mergeSort leP_trans leP_total ps
theorem rise_eq {α:Type} {le:α→α→Bool} (anti:∀{a b},le a b=true→le b a=true→a=b):∀{l m:List α},l.Perm m→l.Pairwise (fun a b=>le a b=true)→m.Pairwise (fun a b=>le a b=true)→l=m
 | [],m,p,_,_=>List.Perm.nil_eq p
 | a::l,[],p,_,_=>absurd p.length_eq (by simp)
 | a::l,b::m,p,h1,h2=>by
  have e:a=b:=by
   rcases List.mem_cons.mp (p.mem_iff.mp List.mem_cons_self) with q | q
   ·exact q
   ·rcases List.mem_cons.mp (p.mem_iff.mpr List.mem_cons_self) with r | r
    ·exact r.symm
    ·exact anti ((List.pairwise_cons.mp h1).1 b r) ((List.pairwise_cons.mp h2).1 a q)
  subst e
  rw [rise_eq anti ((List.perm_cons a).mp p) (List.pairwise_cons.mp h1).2 (List.pairwise_cons.mp h2).2]
theorem refs_sorted {α:Type} (F:Addr→α→Prop) (fu:∀{a k l},F a k→F a l→k=l) {le:α→α→Bool} (anti:∀{a b},le a b=true→le b a=true→a=b) {as bs:List Addr} {ks srt:List α} (h:Paired F as ks) (p:bs.Perm as) (pw:bs.Pairwise fun a b=>∀k l,F a k→F b l→le k l=true) (sp:srt.Perm ks) (sw:srt.Pairwise fun a b=>le a b=true):Paired F bs srt:=by
 classical
 cases ks with
 | nil=>
  cases h
  rw [p.eq_nil,sp.eq_nil]
  exact .nil
 | cons k0 ks0=>
  let key:Addr→α:=fun a=>if h:∃k,F a k then Classical.choose h else k0
  have kat:∀{a k},F a k→key a=k:=fun {a k} f=>by
   have ex:∃k,F a k:=⟨k,f⟩
   show (if h:∃k,F a k then Classical.choose h else k0)=k
   rw [dif_pos ex]
   exact fu (Classical.choose_spec ex) f
  have all:∀{l:List Addr} {m:List α},Paired F l m→l.map key=m∧∀a∈l,F a (key a):=fun {l m} r=>by
   induction r with
   | nil=>exact ⟨rfl,fun _ h=>nomatch h⟩
   | @cons b k l m e _ ih=>
    have kb:=kat e
    refine ⟨by rw [List.map_cons,kb,ih.1],fun c hc=>?_⟩
    rcases List.mem_cons.mp hc with z | hc
    ·rw [z,kb];exact e
    ·exact ih.2 c hc
  obtain ⟨e1,e2⟩:=all h
  have atb:∀b∈bs,F b (key b):=fun b hb=>e2 b (p.mem_iff.mp hb)
  have back:∀{l:List Addr},(∀b∈l,F b (key b))→Paired F l (l.map key):=fun {l} hl=>by
   induction l with
   | nil=>exact .nil
   | cons b l ih=>exact .cons (hl b (.head _)) (ih fun c hc=>hl c (.tail _ hc))
  have eq:bs.map key=srt:=rise_eq anti ((p.map key).trans (by rw [e1];exact sp.symm)) (List.pairwise_map.mpr (pw.imp_of_mem fun {a b} ha hb q=>q _ _ (atb a ha) (atb b hb))) sw
  rw [←eq]
  exact back atb
noncomputable def FT (H:Hp) (a:Addr) (p:(Int×Int)×Int):Prop:=∃b:Addr,H a=some (.tup [.ref b,.int p.2])∧H b=some (.tup [.int p.1.1,.int p.1.2])
theorem FT.fu {H:Hp} {a:Addr} {p q:(Int×Int)×Int} (h:FT H a p) (g:FT H a q):p=q:=by
 obtain ⟨b,e1,e2⟩:=h
 obtain ⟨c,f1,f2⟩:=g
 rw [e1] at f1
 injection f1 with f1
 injection f1 with f1
 injection f1 with g1 g2
 injection g1 with g1
 injection g2 with g2 _
 injection g2 with g2
 subst g1
 rw [e2] at f2
 injection f2 with f2
 injection f2 with f2
 injection f2 with k1 k2
 injection k1 with k1
 injection k2 with k2 _
 injection k2 with k2
 exact Prod.ext (Prod.ext k1 k2) g2
theorem ft_tps {H:Hp} {as:List Addr} {ps:Sps} (h:Paired (FT H) as ps):TPsAt H (as.map V.ref) (tvOf ps):=by
 induction h with
 | nil=>exact .nil
 | cons h r ih=>
  obtain ⟨_,e1,e2⟩:=h
  exact .cons e1 e2 ih
theorem lt_le {p q:(Int×Int)×Int} (h:(lexO (lexO intO intO) intO).blt q p=false):leP p q=true:=by
 rw [leP_iff]
 have h:lexB (lexO intO intO) intO q p=false:=h
 by_cases c:p.1.1<q.1.1
 ·exact .inl c
 have no:∀{z:Bool},z=true→z=false→False:=fun a b=>by rw [a] at b;cases b
 have n1:¬q.1.1<p.1.1:=fun c=>no (lex_iff.mpr (.inl (lex_iff (O:=intO) (U:=intO).mpr (.inl (decide_eq_true c))))) h
 have e1:p.1.1=q.1.1:=by omega
 refine .inr ⟨e1,?_⟩
 have n2:¬q.1.2<p.1.2:=fun c=>no (lex_iff.mpr (.inl (lex_iff (O:=intO) (U:=intO).mpr (.inr ⟨e1.symm,decide_eq_true c⟩)))) h
 by_cases c2:p.1.2<q.1.2
 ·exact .inl c2
 have e2:p.1.2=q.1.2:=by omega
 refine .inr ⟨e2,?_⟩
 have n3:¬q.2<p.2:=fun c=>no (lex_iff.mpr (.inr ⟨Prod.ext e1.symm e2.symm,decide_eq_true c⟩)) h
 omega
section
variable {X:Cx}
noncomputable def rSortIT:List V→Hp→VK→Prop:=fun xs H Q=>∃(v d:Addr) (ps:Sps),xs=[.ref v]∧H v=some (iView v d)∧H d=some (.dT (tvOf ps))∧ps.length<64∧
 ∀(H1:Hp) (as:List Addr),Same H H1→Paired (FT H1) as (srtP2 ps)→∀q,H1 q=none→H q=none→Q (.ref q) (upd H1 q (.lst (as.map V.ref)))
theorem kt_sps {H:Hp}:∀{ps:Sps} {xs:List TKv} {j:Nat} {p:(Int×Int)×Int},KT H (tvOf ps) xs→ps[j]?=some p→∃x,xs[j]?=some x∧H x.2.1=some (.tup [.int p.1.1,.int p.1.2])∧∃t,x.2.2=.int p.2 t:=fun {ps xs j p} kt e=>by
 have e2:(tvOf ps)[j]?=some (kk p.1,.int p.2):=by unfold tvOf;rw [List.getElem?_map,e];rfl
 obtain ⟨x,h1,h2,t,h3⟩:=kt_get kt e2
 exact ⟨x,h1,h2,t,h3⟩
theorem call_sortIT (hc:X.calm=true) (hu:X.A.units+64<cLine):CallR X (.builtin "sorted") rSortIT:=by
 intro pins s σ H xs us Q I rx h
 obtain ⟨v,d,ps,rfl,hv,hd,h64,q⟩:=h
 obtain ⟨u,rfl,ru⟩:=vals1 rx
 cases ru
 obtain ⟨_,lo,ks,es,ep,kt,raw,ek,ev,sz⟩:=dt_raw I.hok (.inl hd)
 obtain ⟨view,_⟩:=(show ObjOk X.prog X.w H s.heap v (iView v d) from I.hok v _ hv)
 rw [tvOf_len] at sz
 have kl:ks.length=ps.length:=by rw [←Paired.length kt,tvOf_len]
 let n:=s.heap.objs.size
 let L:Hp:=fun b=>if n+2≤b then (match ks[b - (n+2)]?,ps[b - (n+2)]? with
  | some x,some p=>some (.tup [.ref x.2.1,.int p.2])
  | _,_=>none) else none
 have Lat:∀(j:Nat) (x:TKv) (p:(Int×Int)×Int),ks[j]?=some x→ps[j]?=some p→L (n+1+1+j)=some (.tup [.ref x.2.1,.int p.2]):=fun j x p h1 h2=>by
  show (if n+2≤n+1+1+j then _ else none)=_
  rw [if_pos (by omega),show n+1+1+j - (n+2)=j by omega,h1,h2]
 refine sort_core (el_two (prog:=X.prog) (w:=X.w)) (el_int (prog:=X.prog) (w:=X.w)) FTI (fun {pins σ H s a k} I h=>?_) (((0:Int),(0:Int)),(0:Int)) hu (fun {E C} hC=>items_collect (A:=X.A.in1) (by simpa using I.ok.hd hc) view raw (small_le (by omega)) fun g tk kp tp=>?_)
 ·obtain ⟨b,i,j,n,h,hb,rfl⟩:=h
  obtain ⟨o,m,u,v,e1,e2,e3,ru,⟨t',rv⟩⟩:=tup_at I h
  obtain ⟨o2,m2,u2,v2,g1,g2,g3,⟨t2,ru2⟩,⟨t3,rv2⟩⟩:=tup_at I hb
  exact ⟨a,o,m,u,v,rfl,e1,e2,e3,⟨b,o2,m2,u2,v2,ru,g1,g2,g3,⟨t2,ru2⟩,⟨t3,rv2⟩⟩,⟨t',rv⟩⟩
 have ent:∀(j:Nat) (hj:j<es.size) (x:TKv),ks[j]?=some x→es[j].key=.ref x.2.1∧es[j].val=x.2.2:=fun j hj x hx=>by
  have q1:(es.toList.map DictEntry.key)[j]?=some es[j].key:=by rw [List.getElem?_map,Array.getElem?_toList,Array.getElem?_eq_getElem hj];rfl
  have q2:(es.toList.map DictEntry.val)[j]?=some es[j].val:=by rw [List.getElem?_map,Array.getElem?_toList,Array.getElem?_eq_getElem hj];rfl
  rw [ek,List.getElem?_map,List.getElem?_map,hx] at q1
  rw [ev,List.getElem?_map,hx] at q2
  exact ⟨(Option.some.inj q1).symm,(Option.some.inj q2).symm⟩
 have nw:∀b o,n≤b→L b=some o→ObjOk X.prog X.w (over H n L) g b o:=fun b o hb e=>by
  have e:(if n+2≤b then (match ks[b - (n+2)]?,ps[b - (n+2)]? with
   | some x,some p=>some (HO.tup [.ref x.2.1,.int p.2])
   | _,_=>none) else none)=some o:=e
  by_cases hb2:n+2≤b
  ·rw [if_pos hb2] at e
   have hj:b - (n+2)<ps.length:=by
    by_cases z:b - (n+2)<ps.length
    ·exact z
    ·rw [List.getElem?_eq_none (Nat.not_lt.mp z)] at e
     cases z2:ks[b - (n+2)]? <;> rw [z2] at e <;> cases e
   have hp:ps[b - (n+2)]?=some ps[b - (n+2)]:=List.getElem?_eq_getElem hj
   obtain ⟨x,hx,_,t,hv⟩:=kt_sps kt hp
   rw [hx,hp] at e
   cases e
   have hje:b - (n+2)<es.size:=by omega
   obtain ⟨k1,k2⟩:=ent _ hje x hx
   have tb:=tp _ hje
   rw [k1,k2,hv,show s.heap.objs.size+1+1+(b - (n+2))=b by show n+1+1+(b - (n+2))=b;omega] at tb
   exact ⟨small_le (leN rfl),[.ref x.2.1,.int _ t],.cons rfl (.cons ⟨t,rfl⟩ .nil),⟨_,tb,⟨rfl,rfl⟩,_,rfl⟩⟩
  ·rw [if_neg hb2] at e
   cases e
 obtain ⟨I',sm⟩:=I.over (t':=tk) kp nw
 have pr:Paired (FT (over H n L)) (beh (n+1) es.size) ps:=by
  have go:∀(l:Sps) (m:Nat),(∀j p,l[j]?=some p→ps[m+j]?=some p)→m+l.length=ps.length→Paired (FT (over H n L)) ((List.range l.length).map fun j=>n+1+1+(m+j)) l:=fun l=>by
   induction l with
   | nil=>intro m _ _;exact .nil
   | cons p l ih=>
    intro m hl hm
    have e0:=hl 0 p rfl
    obtain ⟨x,hx,hb,_⟩:=kt_sps kt e0
    have q:=ih (m+1) (fun j p e=>by have:=hl (j+1) p (by simpa using e);rwa [show m+(j+1)=m+1+j by omega] at this) (by rw [List.length_cons] at hm;omega)
    rw [List.length_cons,List.range_succ_eq_map,List.map_cons,List.map_map]
    refine .cons ⟨x.2.1,?_,sm _ _ hb⟩ ?_
    ·rw [over_new (by omega)]
     exact Lat (m+0) x p hx e0
    ·have ef:((fun j=>n+1+1+(m+j))∘Nat.succ)=fun j=>n+1+1+(m+1+j):=by
      funext j
      show n+1+1+(m+(j+1))=_
      omega
     rw [ef]
     exact q
  have:=go ps 0 (fun j p e=>by rwa [Nat.zero_add]) (by omega)
  rw [sz]
  unfold beh
  simpa using this
 refine hC g tk (over H n L) (beh (n+1) es.size) I' (by rw [beh_len];omega) (fun a ha=>?_) fun bs bp pw q0 nq=>?_
 ·have:∀{l:List Addr} {m:Sps},Paired (FT (over H n L)) l m→a∈l→∃k,FTI (over H n L) a k:=fun {l m} r=>by
   induction r with
   | nil=>intro h;exact nomatch h
   | cons e _ ih=>
    intro h
    rcases List.mem_cons.mp h with z | h
    ·obtain ⟨b,e1,e2⟩:=e
     rw [z]
     exact ⟨_,b,_,_,_,e1,e2,rfl⟩
    ·exact ih h
  exact this pr ha
 ·refine q (over H n L) bs sm (refs_sorted (FT (over H n L)) (fun f g=>f.fu g) (fun a b=>leP_anti a b) pr bp (pw.imp fun {a b} h k l fk fl=>?_) (srtP2_perm ps) (srtP2_pw ps)) q0 nq ?_
  ·obtain ⟨b1,e1,e2⟩:=fk
   obtain ⟨b2,f1,f2⟩:=fl
   exact lt_le (h k l ⟨b1,_,_,_,e1,e2,rfl⟩ ⟨b2,_,_,_,f1,f2,rfl⟩)
  ·by_cases z:H q0=none
   ·exact z
   ·obtain ⟨u,hu⟩:=Option.ne_none_iff_exists'.mp z
    rw [sm _ _ hu] at nq
    cases nq
end
section
variable {P:Program} {w:World} {A:Around} {E:Value→Shared→Prop} {s:Shared} {a b:Addr} {es:Array DictEntry} {ep e2:Nat}
end
theorem op_inDG {X:Cx} (hu:X.A.units+64<cLine):OpR X (compareOp .In) (fun x y H Q=>∃(a:Addr) (o:Option V),y=.ref a∧DGet H a x o∧Q (.bl o.isSome) H):=by
 intro pins s σ H x y v u Q I rx ry h
 obtain ⟨a,o,rfl,g,q⟩:=h
 cases ry
 exact d_in (by omega) I g rx fun s' I'=>⟨.bl _,H,I',rfl,q⟩
section
variable {prog:Program} {w:World} {A:Around} {E:Value→Shared→Prop} {s:Shared}
end
section
variable {X:Cx} {pos:Pos}
noncomputable def gLst (K:PySem.W.Frag) (n:Nat) (t:TGs):TG:=fun v σ H Q=>∃a xs,v=.ref a∧SqL K H a xs∧xs.length=n∧t xs σ H Q
end
section
variable {X:Cx}
noncomputable def qVar (i:Nat):TE:=fun σ H Q=>match List.getD σ i none with
 | some v=>Q v H
 | none=>False
theorem qv {e:Expr} {i:Nat} (h:PE X e (tVar i)):PE X e (qVar i):=fun pins s σ H Q I q=>h pins s σ H Q I (by
 unfold qVar at q
 cases e1:List.getD σ i none with
 | none=>rw [e1] at q;exact q.elim
 | some v=>
  rw [e1] at q
  refine ⟨v,?_,q⟩
  unfold List.getD at e1
  cases e2:σ[i]? with
  | none=>rw [e2] at e1;cases e1
  | some o=>rw [e2] at e1;exact congrArg some e1)
noncomputable def qI (C:Int→Int→Prop) (g:Int→Int→V):R2:=fun x y H Q=>match x,y with
 | .int i,.int j=>C i j∧Q (g i j) H
 | _,_=>False
noncomputable def qI0 (g:Int→Int→V):R2:=fun x y H Q=>match x,y with
 | .int i,.int j=>Q (g i j) H
 | _,_=>False
theorem qi {C:Int→Int→Prop} {g:Int→Int→V} {f:Value→Value→Sem Value} (h:OpR X f (rI C g)):OpR X f (qI C g):=fun pins s σ H x y v u Q I rx ry q=>h pins s σ H x y v u Q I rx ry (by
 cases x <;> cases y <;> first | exact q.elim | exact ⟨_,_,rfl,rfl,q.1,q.2⟩)
theorem qi0 {g:Int→Int→V} {f:Value→Value→Sem Value} (h:OpR X f (rI0 g)):OpR X f (qI0 g):=fun pins s σ H x y v u Q I rx ry q=>h pins s σ H x y v u Q I rx ry (by
 cases x <;> cases y <;> first | exact q.elim | exact ⟨_,_,rfl,rfl,q⟩)
noncomputable def qEq:R2:=fun x y H Q=>match x,y with
 | .int i,.int j=>Q (.bl (decide (i=j))) H
 | _,_=>False
noncomputable def qNe:R2:=fun x y H Q=>match x,y with
 | .int i,.int j=>Q (.bl (!decide (i=j))) H
 | _,_=>False
theorem int_dec (i j:Int):decide (V.int i=V.int j)=decide (i=j):=decide_eq_decide.mpr ⟨fun h=>V.int.inj h,fun h=>by rw [h]⟩
theorem qeq {f:Value→Value→Sem Value} (h:OpR X f rEq):OpR X f qEq:=fun pins s σ H x y v u Q I rx ry q=>h pins s σ H x y v u Q I rx ry (by
 cases x <;> cases y <;> first | exact q.elim | exact ⟨rfl,by rw [int_dec];exact q⟩)
noncomputable def qIx (A:Hp→Addr→List V→Prop):R2:=fun x y H Q=>match x,y with
 | .ref p,.int i=>∃xs v,A H p xs∧atI xs i=some v∧Q v H
 | _,_=>False
theorem qix_list:IxR X (qIx (SqL X.K)):=fun a b pins s σ H x y v u Q I rx ry q=>ix_list a b pins s σ H x y v u Q I rx ry (by
 cases x <;> cases y <;> first | exact q.elim | exact ⟨_,q.choose,_,q.choose_spec.choose,rfl,rfl,q.choose_spec.choose_spec⟩)
noncomputable def qK (Q:Bool→Hp→Prop):VK:=fun x H=>match x with
 | .bl k=>Q k H
 | _=>False
noncomputable def qTest (t:TE):TT:=fun σ H Q=>t σ H (qK Q)
theorem qt_cmp {op:CmpOp} {a b:Expr} {pos:Pos} {ta tb:TE} {r:R2} (ho:OpR X (compareOp op) r) (ha:PE X a ta) (hb:PE X b tb) (hm:behindInMarks op b=false):PT X (.Compare a [op] [b] pos) (qTest (tOp r ta tb)):=by
 intro pins s σ H Q I h
 refine wpAny_isTrue_Compare1 (thn (ha pins s σ H _ I h) fun v s1 ⟨x,H1,I1,r1,q1⟩=>thn (hb pins s1 σ H1 _ I1 q1) fun u s2 ⟨y,H2,I2,r2,q2⟩=>
  thn (ho pins s2 σ H2 x y v u _ I2 r1 r2 q2) fun c s3 ⟨z,H3,I3,r3,q3⟩=>?_) hm
 cases z <;> first | exact q3.elim | skip
 cases r3
 exact wpAny_truthy_bool ⟨H3,I3,q3⟩
end
theorem cat_of {l b:Addr} {xs zs:List V} {H:Hp} {Q:VK} (h1:H l=some (.lst xs)) (h2:H b=some (.lst zs)) (h3:xs.length+zs.length≤sizeLine) (h4:∀p,H p=none→Q (.ref p) (upd H p (.lst (xs++zs)))):rCat (.ref l) (.ref b) H Q:=⟨l,b,xs,zs,rfl,rfl,h1,h2,h3,h4⟩
theorem sl_of {K:PySem.W.Frag} {a:Addr} {xs:List V} {lo hi:Option Int} {H:Hp} {Q:VK} (h1:SqL K H a xs) (h2:∀p,H p=none→Q (.ref p) (upd H p (.lst (cutV xs lo hi)))):rSlL K (.ref a) lo hi H Q:=⟨a,xs,rfl,h1,h2⟩
theorem blk {p:Prop} (h:p):p:=h
theorem sA {te:TE} {g:TG} {u:TS} {D:Ends} {σ:St} {H:Hp} (h:∀C:VK,(∀x H1,g x σ H1 (u D)→C x H1)→te σ H C):tSeq (tAsg te g) u D σ H:=h _ fun _ _ q=>q
theorem sE {te:TE} {u:TS} {D:Ends} {σ:St} {H:Hp} (h:∀C:VK,(∀x H1,u D σ H1→C x H1)→te σ H C):tSeq (tDrop te) u D σ H:=h _ fun _ _ q=>q
theorem rA {te:TE} {D:Ends} {σ:St} {H:Hp} (h:∀C:VK,(∀x H1,D.rt x H1→C x H1)→te σ H C):tRet te D σ H:=h _ fun _ _ q=>q
theorem oA {te:TE} {g:TG} {D:Ends} {σ:St} {H:Hp} (h:∀C:VK,(∀x H1,g x σ H1 D.nx→C x H1)→te σ H C):tAsg te g D σ H:=h _ fun _ _ q=>q
theorem oE {te:TE} {D:Ends} {σ:St} {H:Hp} (h:∀C:VK,(∀x H1,D.nx σ H1→C x H1)→te σ H C):tDrop te D σ H:=h _ fun _ _ q=>q
theorem slN_of {K:PySem.W.Frag} {a:Addr} {xs:List V} {lo:Option Int} {σ:St} {H:Hp} {Q:VK} (h1:SqL K H a xs) (h2:∀p,H p=none→Q (.ref p) (upd H p (.lst (cutV xs lo none)))):tNoPart σ H fun u H3=>rSlL K (.ref a) lo u H3 Q:=⟨a,xs,rfl,h1,h2⟩
end L2
namespace K33
open PySem L2
noncomputable def top (i:Nat):Stmt:=PySem.Challenge.pw_sumshare_k33_folds_looked_at.main.body.getD i (.Pass ⟨0,0,0,0⟩)
noncomputable abbrev s_is_whole:Stmt:=top 1
theorem sc_is_whole:FnScope ["thing"] ["thing"] (defScope s_is_whole):=⟨rfl,rfl,rfl,by decide +kernel,rfl,by decide +kernel,by decide +kernel⟩
noncomputable abbrev s_is_whole_from:Stmt:=top 2
theorem sc_is_whole_from:FnScope ["thing","least"] ["thing","least"] (defScope s_is_whole_from):=⟨rfl,rfl,rfl,by decide +kernel,rfl,by decide +kernel,by decide +kernel⟩
noncomputable abbrev s_is_whole_within:Stmt:=top 3
theorem sc_is_whole_within:FnScope ["thing","least","most"] ["thing","least","most"] (defScope s_is_whole_within):=⟨rfl,rfl,rfl,by decide +kernel,rfl,by decide +kernel,by decide +kernel⟩
noncomputable abbrev s_added_counts:Stmt:=top 4
theorem sc_added_counts:FnScope ["one","other","sums","key","count"] ["one","other"] (defScope s_added_counts):=⟨rfl,rfl,rfl,by decide +kernel,rfl,by decide +kernel,by decide +kernel⟩
noncomputable abbrev s_first_of:Stmt:=top 6
theorem sc_first_of:FnScope ["stretch","height","index"] ["stretch"] (defScope s_first_of):=⟨rfl,rfl,rfl,by decide +kernel,rfl,by decide +kernel,by decide +kernel⟩
noncomputable abbrev s_last_of:Stmt:=top 7
theorem sc_last_of:FnScope ["stretch","height","index"] ["stretch"] (defScope s_last_of):=⟨rfl,rfl,rfl,by decide +kernel,rfl,by decide +kernel,by decide +kernel⟩
noncomputable abbrev s_parent_of:Stmt:=top 8
theorem sc_parent_of:FnScope ["stretch","height","index"] ["stretch"] (defScope s_parent_of):=⟨rfl,rfl,rfl,by decide +kernel,rfl,by decide +kernel,by decide +kernel⟩
noncomputable abbrev s_is_stretch:Stmt:=top 9
theorem sc_is_stretch:FnScope ["thing","deep","height","index"] ["thing","deep"] (defScope s_is_stretch):=⟨rfl,rfl,rfl,by decide +kernel,rfl,by decide +kernel,by decide +kernel⟩
noncomputable abbrev s_fold_up:Stmt:=top 11
theorem sc_fold_up:FnScope ["counts","stretch","many","parent"] ["counts","stretch","many"] (defScope s_fold_up):=⟨rfl,rfl,rfl,by decide +kernel,rfl,by decide +kernel,by decide +kernel⟩
noncomputable abbrev s_things_in:Stmt:=top 13
theorem sc_things_in:FnScope ["stream"] ["stream"] (defScope s_things_in):=⟨rfl,rfl,rfl,by decide +kernel,rfl,by decide +kernel,by decide +kernel⟩
theorem nd_things_in_37_15:(["day","mark","number","many","stream"]:List Str).Nodup:=by decide +kernel
noncomputable abbrev s_standing_of:Stmt:=top 15
theorem sc_standing_of:FnScope ["stream"] ["stream"] (defScope s_standing_of):=⟨rfl,rfl,rfl,by decide +kernel,rfl,by decide +kernel,by decide +kernel⟩
theorem nd_standing_of_40_28:(["day","mark","number","many","stream"]:List Str).Nodup:=by decide +kernel
noncomputable abbrev s_is_folded:Stmt:=top 16
theorem sc_is_folded:FnScope ["stream","ladder","paper","room","deep","counts","total","standing","stretch","many"] ["stream","ladder","paper"] (defScope s_is_folded):=⟨rfl,rfl,rfl,by decide +kernel,rfl,by decide +kernel,by decide +kernel⟩
theorem nd_is_folded_44_45:(["one","stream","ladder","paper","room","deep","counts","total","standing","stretch","many"]:List Str).Nodup:=by decide +kernel
noncomputable abbrev s_l_pen:Stmt:=top 18
theorem sc_l_pen:FnScope ["_law_script","_law_k","_law_cell"] ["_law_script","_law_k"] (defScope s_l_pen):=⟨rfl,rfl,rfl,by decide +kernel,rfl,by decide +kernel,by decide +kernel⟩
noncomputable abbrev s_l_draw:Stmt:=top 19
theorem sc_l_draw:FnScope ["_law_pen_here","_law_size","_law_drawn","_law_number"] ["_law_pen_here","_law_size"] (defScope s_l_draw):=⟨rfl,rfl,rfl,by decide +kernel,rfl,by decide +kernel,by decide +kernel⟩
noncomputable abbrev s_l_word:Stmt:=top 20
theorem sc_l_word:FnScope ["_law_pen_here","_law_k","_law_some"] ["_law_pen_here","_law_k"] (defScope s_l_word):=⟨rfl,rfl,rfl,by decide +kernel,rfl,by decide +kernel,by decide +kernel⟩
noncomputable abbrev s_l_many:Stmt:=top 21
theorem sc_l_many:FnScope ["_law_pen_here"] ["_law_pen_here"] (defScope s_l_many):=⟨rfl,rfl,rfl,by decide +kernel,rfl,by decide +kernel,by decide +kernel⟩
noncomputable abbrev s_l_thing:Stmt:=top 22
theorem sc_l_thing:FnScope ["_law_pen_here","_law_marks","_law_deep","_law_day","_law_number"] ["_law_pen_here","_law_marks","_law_deep"] (defScope s_l_thing):=⟨rfl,rfl,rfl,by decide +kernel,rfl,by decide +kernel,by decide +kernel⟩
noncomputable abbrev s_l_stream:Stmt:=top 23
theorem sc_l_stream:FnScope ["_law_pen_here","_law_marks","_law_deep","_law_most"] ["_law_pen_here","_law_marks","_law_deep","_law_most"] (defScope s_l_stream):=⟨rfl,rfl,rfl,by decide +kernel,rfl,by decide +kernel,by decide +kernel⟩
theorem nd_l_stream_85_11:(["_law_k","_law_pen_here","_law_marks","_law_deep","_law_most"]:List Str).Nodup:=by decide +kernel
noncomputable abbrev s_l_tree:Stmt:=top 24
theorem sc_l_tree:FnScope ["_law_pen_here","_law_marks","_law_deep","_law_most","_law_parts","_law_left","_law_one"] ["_law_pen_here","_law_marks","_law_deep","_law_most","_law_parts"] (defScope s_l_tree):=⟨rfl,rfl,rfl,by decide +kernel,rfl,by decide +kernel,by decide +kernel⟩
noncomputable abbrev s_l_stream_of:Stmt:=top 25
theorem sc_l_stream_of:FnScope ["_law_tree_here"] ["_law_tree_here"] (defScope s_l_stream_of):=⟨rfl,rfl,rfl,by decide +kernel,rfl,by decide +kernel,by decide +kernel⟩
noncomputable abbrev s_l_room:Stmt:=top 26
theorem sc_l_room:FnScope ["_law_pen_here"] ["_law_pen_here"] (defScope s_l_room):=⟨rfl,rfl,rfl,by decide +kernel,rfl,by decide +kernel,by decide +kernel⟩
noncomputable abbrev s_l_first:Stmt:=top 27
theorem sc_l_first:FnScope ["_law_now","_law_deep","_law_bar","_law_height","_law_index","_law_both"] ["_law_now","_law_deep","_law_bar"] (defScope s_l_first):=⟨rfl,rfl,rfl,by decide +kernel,rfl,by decide +kernel,by decide +kernel⟩
noncomputable abbrev s_l_settled:Stmt:=top 28
theorem sc_l_settled:FnScope ["_law_ladder","_law_room_here","_law_deep","_law_counts","_law_total","_law_now","_law_folds","_law_at","_law_parent","_law_stretch","_law_many_here"] ["_law_ladder"] (defScope s_l_settled):=⟨rfl,rfl,rfl,by decide +kernel,rfl,by decide +kernel,by decide +kernel⟩
noncomputable abbrev s_l_added:Stmt:=top 29
theorem sc_l_added:FnScope ["_law_one","_law_other","_law_counts","_law_stretch","_law_count"] ["_law_one","_law_other"] (defScope s_l_added):=⟨rfl,rfl,rfl,by decide +kernel,rfl,by decide +kernel,by decide +kernel⟩
noncomputable abbrev s_l_laddered:Stmt:=top 30
theorem sc_l_laddered:FnScope ["_law_room_here","_law_deep","_law_tree_here","_law_one","_law_paper","_law_other","_law_behind","_law_ladder","_law_folds","_law_day","_law_mark","_law_number","_law_many_here","_law_own"] ["_law_room_here","_law_deep","_law_tree_here"] (defScope s_l_laddered):=⟨rfl,rfl,rfl,by decide +kernel,rfl,by decide +kernel,by decide +kernel⟩
noncomputable abbrev s_l_due:Stmt:=top 31
theorem sc_l_due:FnScope ["_law_stream_here","_law_ladder","_law_paper","_law_room_here","_law_deep","_law_counts","_law_total","_law_standing","_law_day","_law_mark","_law_number","_law_many_here","_law_stretch","_law_parent"] ["_law_stream_here","_law_ladder","_law_paper"] (defScope s_l_due):=⟨rfl,rfl,rfl,by decide +kernel,rfl,by decide +kernel,by decide +kernel⟩
theorem nd_l_due_151_37:(["_law_one","_law_stream_here","_law_ladder","_law_paper","_law_room_here","_law_deep","_law_counts","_law_total","_law_standing","_law_day","_law_mark","_law_number","_law_many_here","_law_stretch","_law_parent"]:List Str).Nodup:=by decide +kernel
noncomputable abbrev s_l_bent_paper:Stmt:=top 32
theorem sc_l_bent_paper:FnScope ["_law_pen_here","_law_deep","_law_paper","_law_way","_law_at","_law_height","_law_index","_law_many_here","_law_ahead","_law_behind","_law_part","_law_left","_law_some"] ["_law_pen_here","_law_deep","_law_paper"] (defScope s_l_bent_paper):=⟨rfl,rfl,rfl,by decide +kernel,rfl,by decide +kernel,by decide +kernel⟩
noncomputable abbrev s_l_bent_ladder:Stmt:=top 33
theorem sc_l_bent_ladder:FnScope ["_law_pen_here","_law_ladder","_law_room_here","_law_deep","_law_counts","_law_total","_law_at","_law_stretch","_law_many_here","_law_way","_law_other"] ["_law_pen_here","_law_ladder"] (defScope s_l_bent_ladder):=⟨rfl,rfl,rfl,by decide +kernel,rfl,by decide +kernel,by decide +kernel⟩
theorem nd_l_bent_ladder_188_55:(["_law_one","_law_pen_here","_law_ladder","_law_room_here","_law_deep","_law_counts","_law_total","_law_at","_law_stretch","_law_many_here","_law_way","_law_other"]:List Str).Nodup:=by decide +kernel
noncomputable abbrev s_l_bent_stream:Stmt:=top 34
theorem sc_l_bent_stream:FnScope ["_law_pen_here","_law_deep","_law_stream_here","_law_at","_law_day","_law_mark","_law_number","_law_many_here","_law_others","_law_some"] ["_law_pen_here","_law_deep","_law_stream_here"] (defScope s_l_bent_stream):=⟨rfl,rfl,rfl,by decide +kernel,rfl,by decide +kernel,by decide +kernel⟩
noncomputable abbrev s_l_forged:Stmt:=top 35
theorem sc_l_forged:FnScope ["_law_pen_here","_law_stream_here","_law_paper","_law_at","_law_made","_law_day","_law_mark","_law_number","_law_many_here","_law_one","_law_other","_law_height","_law_index","_law_left"] ["_law_pen_here","_law_stream_here","_law_paper"] (defScope s_l_forged):=⟨rfl,rfl,rfl,by decide +kernel,rfl,by decide +kernel,by decide +kernel⟩
noncomputable abbrev s_l_said:Stmt:=top 36
theorem sc_l_said:FnScope ["_law_stream_here","_law_ladder","_law_paper","_law_handed","_law_found"] ["_law_stream_here","_law_ladder","_law_paper"] (defScope s_l_said):=⟨rfl,rfl,rfl,by decide +kernel,rfl,by decide +kernel,by decide +kernel⟩
noncomputable abbrev s_law:Stmt:=top 37
theorem sc_law:FnScope ["_law_script","_law_pen_here","_law_deep","_law_room_here","_law_tree_here","_law_stream_here","_law_ladder","_law_paper","_law_k","_law_way","_law_given","_law_some"] ["_law_script"] (defScope s_law):=⟨rfl,rfl,rfl,by decide +kernel,rfl,by decide +kernel,by decide +kernel⟩
noncomputable def spDraw:Sp:=fun vs H Q _=>∃(a:Addr) (n:Int),vs=[.ref a,.int n]∧PenAt H a∧0<n∧n<1000000000000000000000000000000000000000000000000000000000000∧
 ∀(d:Int) (H':Hp),0≤d→d<n→PenAt H' a→Grw a H H'→Q (.int d) H'
noncomputable def spPen (K:PySem.W.Frag):Sp:=fun vs H Q _=>∃(a:Addr) (ns:List Int) (k:Int),vs=[.ref a,.int k]∧SqL K H a (ns.map V.int)∧0≤k∧
 ∀(p:Addr) (H':Hp),H p=none→Same H H'→PenAt H' p→Q (.ref p) H'
noncomputable def spWord:Sp:=fun vs H Q _=>∃(x:V) (k:Int),vs=[x,.int k]∧∀(z:Str) (H':Hp),z∈words→Same H H'→Q (.str z) H'
noncomputable def spMany:Sp:=fun vs H Q _=>∃(a:Addr),vs=[.ref a]∧PenAt H a∧∀(m:Int) (H':Hp),1≤m→m≤1000000000→PenAt H' a→Grw a H H'→Q (.int m) H'
noncomputable def spThing:Sp:=fun vs H Q _=>∃(a:Addr) (n k:Int),vs=[.ref a,.int n,.int k]∧PenAt H a∧0<n∧n<1073741824∧0≤k∧k<30∧
 ∀(r:Addr) (t:Th) (H':Hp),t.Ok→t.num<2 ^ k.toNat→hide a H' r=some (.tup t.vs)→PenAt H' a→Grw a H H'→Q (.ref r) H'
noncomputable def spStream:Sp:=fun vs H Q _=>∃(a:Addr) (n k l:Int),vs=[.ref a,.int n,.int k,.int l]∧PenAt H a∧0<n∧n<1073741824∧0≤k∧k<30∧0≤l∧l<1000∧
 ∀(r:Addr) (ts:List Th) (H':Hp),(∀t∈ts,t.Ok)→(∀t∈ts,t.num<2 ^ k.toNat)→(ts.length:Int)≤l→DV (hide a H') (.ref r) (.list (ts.map Th.D))→PenAt H' a→Grw a H H'→Q (.ref r) H'
section
variable {P:Program} {w:World} {K:PySem.W.Frag} {mg:Str→Option Value} {base:Heap} {f:Addr} {fd:FuncData}
theorem ok_draw (F:Fun K "_law_draw" "_law_draw" s_l_draw f fd):FnOk P w K mg base CX0 1 f fd ["_law_pen_here","_law_size"] spDraw:=by
 refine F.ok sc_l_draw (fun vs H Q E h=>?_) (fun cdv A outer s H vs Q E hr h=>?_)
 ·obtain ⟨a,n,rfl,_⟩:=h
  rfl
 obtain ⟨a,n,rfl,⟨p,q,r,e⟩,h0,h1,hq⟩:=h
 refine ⟨_,(@pss_cons _ _ _ _ _ (ps_asg (@pe_op _ _ _ _ _ _ _ _ (qi0 op_add) (@pe_ix _ _ _ _ _ _ _ qix_list (qv (pv 0)) pe_int (fun _ _=>rfl)) pe_int) (pg_sub (qv (pv 0)) pe_int set_list))
 (@pss_cons _ _ _ _ _ (@ps_if _ _ _ _ _ _ _ _ (qt_cmp (qi0 op_gt) (@pe_ix _ _ _ _ _ _ _ qix_list (qv (pv 0)) pe_int (fun _ _=>rfl)) pe_int (nomark _)) (@pss_cons _ _ _ _ _ (@ps_set _ _ 2 _ _ _ _ sc_l_draw.nd rfl (Or.inl rfl) (@pe_op _ _ _ _ _ _ _ _ (qi op_mod) (@pe_ix _ _ _ _ _ _ _ qix_list (qv (pv 0)) pe_int (fun _ _=>rfl)) (qv (pv 1))) (by rfl) (by first | exact .inl rfl | exact .inr rfl))
 (@pss_cons _ _ _ _ _ (ps_asg (@pe_op _ _ _ _ _ _ _ _ op_fdivB (@pe_ix _ _ _ _ _ _ _ qix_list (qv (pv 0)) pe_int (fun _ _=>rfl)) (qv (pv 1))) (pg_sub (qv (pv 0)) pe_int set_list))
 (@pss_one _ _ _ (@ps_ret _ _ _ _ (qv (pv 2)))))) pss_nil)
 (@pss_cons _ _ _ _ _ (@ps_set _ _ 3 _ _ _ _ sc_l_draw.nd rfl (Or.inl rfl) (@pe_op _ _ _ _ _ _ _ _ (qi op_mod) (@pe_op _ _ _ _ _ _ _ _ (qi op_mul) (@pe_op _ _ _ _ _ _ _ _ (qi0 op_add) (@pe_op _ _ _ _ _ _ _ _ (qi0 op_add) (@pe_ix _ _ _ _ _ _ _ qix_list (qv (pv 0)) pe_int (fun _ _=>rfl)) (@pe_op _ _ _ _ _ _ _ _ (qi op_mul) pe_int (@pe_ix _ _ _ _ _ _ _ qix_list (qv (pv 0)) pe_int (fun _ _=>rfl)))) pe_int) pe_int) pe_int) (by rfl) (by first | exact .inl rfl | exact .inr rfl))
 (@pss_cons _ _ _ _ _ (@ps_set _ _ 3 _ _ _ _ sc_l_draw.nd rfl (Or.inl rfl) (@pe_op _ _ _ _ _ _ _ _ (qi op_mod) (@pe_op _ _ _ _ _ _ _ _ (qi op_mul) (qv (pv 3)) (@pe_op _ _ _ _ _ _ _ _ (qi0 op_add) (@pe_op _ _ _ _ _ _ _ _ (qi0 op_add) (@pe_op _ _ _ _ _ _ _ _ (qi op_mod) (qv (pv 3)) pe_int) (@pe_ix _ _ _ _ _ _ _ qix_list (qv (pv 0)) pe_int (fun _ _=>rfl))) pe_int)) pe_int) (by rfl) (by first | exact .inl rfl | exact .inr rfl))
 (@pss_one _ _ _ (@ps_ret _ _ _ _ (@pe_op _ _ _ _ _ _ _ _ (qi op_mod) (@pe_op _ _ _ _ _ _ _ _ (qi op_fdiv) (@pe_op _ _ _ _ _ _ _ _ (qi op_mod) (@pe_op _ _ _ _ _ _ _ _ (qi op_mul) (qv (pv 3)) (@pe_op _ _ _ _ _ _ _ _ (qi0 op_add) (@pe_op _ _ _ _ _ _ _ _ (qi op_mod) (qv (pv 3)) pe_int) pe_int)) pe_int) pe_int) (qv (pv 1))))))))),?_⟩
 refine ⟨_,_,SqL.of e,at3_2 _ _ _,a,_,2,_,rfl,rfl,e,rfl,?_⟩
 have e1:upd H a (.lst [.int p,.int q,.int (r+1)]) a=some (.lst [.int p,.int q,.int (r+1)]):=upd_same
 refine ⟨_,_,SqL.of e1,at3_0 _ _ _,?_⟩
 refine ite2 (fun c=>?_) (fun c=>?_)
 ·refine ⟨_,_,SqL.of e1,at3_0 _ _ _,h0,?_⟩
  refine ⟨_,_,SqL.of e1,at3_0 _ _ _,_,_,rfl,rfl,⟨h0,h1⟩,a,_,0,_,rfl,rfl,e1,rfl,?_⟩
  refine hq (p % n) _ (Int.emod_nonneg _ (by omega)) (Int.emod_lt_of_pos _ h0) ⟨_,_,_,upd_same⟩ ?_
  rw [upd_upd]
  exact grw_upd
 ·refine ⟨_,_,SqL.of e1,at3_1 _ _ _,_,_,SqL.of e1,at3_2 _ _ _,mulL rfl rfl,mulR rfl rfl,posI rfl,?_⟩
  refine ⟨posI rfl,_,_,SqL.of e1,at3_2 _ _ _,mulM _ _ _ rfl rfl,posI rfl,?_⟩
  refine ⟨posI rfl,mulM _ _ _ rfl rfl,posI rfl,cdivI rfl rfl,h0,?_⟩
  exact hq _ _ (Int.emod_nonneg _ (by omega)) (Int.emod_lt_of_pos _ h0) ⟨_,_,_,e1⟩ grw_upd
theorem ok_pen (F:Fun K "_law_pen" "_law_pen" s_l_pen f fd) (z_len:mg "len"=none):FnOk P w K mg base CX0 1 f fd ["_law_script","_law_k"] (spPen K):=by
 refine F.ok sc_l_pen (fun vs H Q E h=>?_) (fun cdv A outer s H vs Q E hr h=>?_)
 ·obtain ⟨a,ns,k,rfl,_⟩:=h
  rfl
 obtain ⟨a,ns,k,rfl,hS,h0,hq⟩:=h
 have hl:(ns.map V.int).length=ns.length:=List.length_map _
 refine ⟨_,(@pss_cons _ _ _ _ _ (@ps_set _ _ 2 _ _ _ _ sc_l_pen.nd rfl (Or.inl rfl) (@pe_op _ _ _ _ _ _ _ _ (qi0 op_add) (@pe_op _ _ _ _ _ _ _ _ (qi op_mul) pe_int (qv (pv 1))) pe_int) (by rfl) (by first | exact .inl rfl | exact .inr rfl))
 (@pss_cons _ _ _ _ _ (@ps_if _ _ _ _ _ _ _ _ (qt_cmp (qi0 op_lt) (qv (pv 1)) (pe_callB call_len_seq rfl z_len PySem.boot_len (@pa_cons _ _ _ _ _ (qv (pv 0)) pa_nil (by rfl))) (nomark _)) (@pss_one _ _ _ (@ps_set _ _ 2 _ _ _ _ sc_l_pen.nd rfl (Or.inl rfl) (@pe_ix _ _ _ _ _ _ _ qix_list (qv (pv 0)) (qv (pv 1)) (fun _ _=>rfl)) (by rfl) (by first | exact .inl rfl | exact .inr rfl))) (@pss_one _ _ _ (@ps_if _ _ _ _ _ _ _ _ (qt_cmp (qi0 op_gt) (pe_callB call_len_seq rfl z_len PySem.boot_len (@pa_cons _ _ _ _ _ (qv (pv 0)) pa_nil (by rfl))) pe_int (nomark _)) (@pss_one _ _ _ (@ps_set _ _ 2 _ _ _ _ sc_l_pen.nd rfl (Or.inl rfl) (@pe_op _ _ _ _ _ _ _ _ (qi0 op_add) (@pe_ix _ _ _ _ _ _ _ qix_list (qv (pv 0)) (@pe_op _ _ _ _ _ _ _ _ (qi op_mod) (qv (pv 1)) (pe_callB call_len_seq rfl z_len PySem.boot_len (@pa_cons _ _ _ _ _ (qv (pv 0)) pa_nil (by rfl)))) (fun _ _=>rfl)) (@pe_op _ _ _ _ _ _ _ _ (qi op_mul) pe_int (qv (pv 1)))) (by rfl) (by first | exact .inl rfl | exact .inr rfl))) pss_nil)))
 (@pss_cons _ _ _ _ _ (@ps_if _ _ _ _ _ _ _ _ (qt_cmp (qi0 op_ge) (qv (pv 2)) (@pe_op _ _ _ _ _ _ _ _ (qi op_pow) pe_int pe_int) (nomark _)) (@pss_one _ _ _ (@ps_ret _ _ _ _ (@pe_lst _ _ _ _ (@pa_cons _ _ _ _ _ (@pe_op _ _ _ _ _ _ _ _ (qi0 op_sub) (qv (pv 2)) (@pe_op _ _ _ _ _ _ _ _ (qi op_pow) pe_int pe_int)) (@pa_cons _ _ _ _ _ (@pe_op _ _ _ _ _ _ _ _ (qi op_mod) (qv (pv 2)) pe_int) (@pa_cons _ _ _ _ _ pe_int pa_nil (by rfl)) (by rfl)) (by rfl))))) pss_nil)
 (@pss_one _ _ _ (@ps_ret _ _ _ _ (@pe_lst _ _ _ _ (@pa_cons _ _ _ _ _ pe_int (@pa_cons _ _ _ _ _ (@pe_op _ _ _ _ _ _ _ _ (qi0 op_add) (@pe_op _ _ _ _ _ _ _ _ (qi op_mod) (qv (pv 2)) pe_int) (@pe_op _ _ _ _ _ _ _ _ (qi op_mul) pe_int (qv (pv 1)))) (@pa_cons _ _ _ _ _ pe_int pa_nil (by rfl)) (by rfl)) (by rfl)))))))),?_⟩
 refine ⟨mulL rfl rfl,?_⟩
 refine ⟨a,_,rfl,.inl hS,?_⟩
 have atn:∀i:Int,0≤i→i<ns.length→∃v:Int,atI (ns.map V.int) i=some (.int v):=fun i h1 h2=>by
  obtain ⟨v,hv,hm⟩:=atI_in (xs:=ns.map V.int) h1 (by rw [hl];exact h2)
  obtain ⟨n,_,rfl⟩:=List.mem_map.mp hm
  exact ⟨n,hv⟩
 have fin:∀x y z:Int,∀p,H p=none→Q (.ref p) (upd H p (.lst [.int x,.int y,.int z])):=fun x y z p hp=>hq p _ hp (same_laid hp _) ⟨x,y,z,upd_same⟩
 refine ite2 (fun c=>?_) (fun c=>?_)
 ·have c:=of_decide_eq_true c
  rw [hl] at c
  obtain ⟨v,hv⟩:=atn k h0 c
  refine ⟨_,_,hS,hv,?_⟩
  refine ⟨powI rfl rfl rfl,?_⟩
  refine ite2 (fun c=>?_) (fun c=>?_)
  ·refine ⟨powI rfl rfl rfl,posI rfl,leN rfl,fin _ _ _⟩
  ·refine ⟨posI rfl,mulL rfl rfl,leN rfl,fin _ _ _⟩
 ·refine ⟨a,_,rfl,.inl hS,?_⟩
  refine ite2 (fun c=>?_) (fun c=>?_)
  ·have c:=of_decide_eq_true c
   rw [hl] at c
   have hm:=Int.emod_nonneg k (show (ns.length:Int)≠0 by omega)
   have hm2:=Int.emod_lt_of_pos k c
   obtain ⟨v,hv⟩:=atn (k % (ns.length:Int)) hm hm2
   refine ⟨a,_,rfl,.inl hS,by rw [hl];exact c,_,_,hS,by rw [hl];exact hv,mulL rfl rfl,?_⟩
   refine ⟨powI rfl rfl rfl,?_⟩
   refine ite2 (fun c=>?_) (fun c=>?_)
   ·refine ⟨powI rfl rfl rfl,posI rfl,leN rfl,fin _ _ _⟩
   ·refine ⟨posI rfl,mulL rfl rfl,leN rfl,fin _ _ _⟩
  ·refine ⟨powI rfl rfl rfl,?_⟩
   refine ite2 (fun c=>?_) (fun c=>?_)
   ·refine ⟨powI rfl rfl rfl,posI rfl,leN rfl,fin _ _ _⟩
   ·refine ⟨posI rfl,mulL rfl rfl,leN rfl,fin _ _ _⟩
theorem ok_word (F:Fun K "_law_word" "_law_word" s_l_word f fd):FnOk P w K mg base CX0 1 f fd ["_law_pen_here","_law_k"] spWord:=by
 refine F.ok sc_l_word (fun vs H Q E h=>?_) (fun cdv A outer s H vs Q E hr h=>?_)
 ·obtain ⟨x,k,rfl,_⟩:=h
  rfl
 obtain ⟨x,k,rfl,hq⟩:=h
 refine ⟨_,(@pss_cons _ _ _ _ _ (@ps_set _ _ 2 _ _ _ _ sc_l_word.nd rfl (Or.inl rfl) pe_str (by rfl) (by first | exact .inl rfl | exact .inr rfl))
 (@pss_cons _ _ _ _ _ (@ps_set _ _ 2 _ _ _ _ sc_l_word.nd rfl (Or.inl rfl) (@pe_op _ _ _ _ _ _ _ _ op_add_str (pv 2) pe_str) (by rfl) (by first | exact .inl rfl | exact .inr rfl))
 (@pss_one _ _ _ (@ps_ret _ _ _ _ (@pe_ix _ _ _ _ _ _ _ ix_list (pe_bm PySem.F.plainAttrs_str PySem.F.slot_str_split PySem.F.type_str_split mt_split (pv 2) (@pa_cons _ _ _ _ _ pe_str pa_nil (by rfl))) (@pe_op _ _ _ _ _ _ _ _ op_mod (pv 1) pe_int) (fun _ _=>rfl)))))),?_⟩
 refine ⟨_,rfl,wordA,wordB,rfl,rfl,word_ab,?_⟩
 refine ⟨_,rfl,rfl,wordA++wordB," ",words,rfl,rfl,word_k,word_e,word_o,word_l,word_parts,by decide,fun l hl=>?_⟩
 obtain ⟨v,hv,hm⟩:=atI_in (xs:=words.map V.str) (i:=k % 26) (Int.emod_nonneg _ (by decide)) (by rw [List.length_map];exact Int.emod_lt_of_pos _ (by decide))
 obtain ⟨z,hz,rfl⟩:=List.mem_map.mp hm
 refine ⟨_,rfl,_,_,rfl,rfl,posI rfl,l,_,_,_,rfl,rfl,SqL.of upd_same,hv,?_⟩
 exact hq z _ hz (same_laid hl _)
theorem ok_many (h_l_draw:Has P w K mg base "_law_draw" 1 ["_law_pen_here","_law_size"] spDraw) (F:Fun K "_law_many" "_law_many" s_l_many f fd):FnOk P w K mg base CX0 2 f fd ["_law_pen_here"] spMany:=by
 refine F.ok sc_l_many (fun vs H Q E h=>?_) (fun cdv A outer s H vs Q E hr h=>?_)
 ·obtain ⟨a,rfl,_⟩:=h
  rfl
 obtain ⟨a,rfl,hp,hq⟩:=h
 refine ⟨_,(@pss_cons _ _ _ _ _ (@ps_if _ _ _ _ _ _ _ _ (qt_cmp (qeq op_eq) (pe_callH h_l_draw hr (@pa_cons _ _ _ _ _ (qv (pv 0)) (@pa_cons _ _ _ _ _ pe_int pa_nil (by rfl)) (by rfl))) pe_int (nomark _)) (@pss_one _ _ _ (@ps_ret _ _ _ _ (@pe_op _ _ _ _ _ _ _ _ (qi0 op_add) pe_int (pe_callH h_l_draw hr (@pa_cons _ _ _ _ _ (qv (pv 0)) (@pa_cons _ _ _ _ _ (@pe_op _ _ _ _ _ _ _ _ (qi0 op_sub) (@pe_op _ _ _ _ _ _ _ _ (qi op_pow) pe_int pe_int) pe_int) pa_nil (by rfl)) (by rfl)))))) pss_nil)
 (@pss_one _ _ _ (@ps_ret _ _ _ _ (@pe_op _ _ _ _ _ _ _ _ (qi0 op_add) pe_int (pe_callH h_l_draw hr (@pa_cons _ _ _ _ _ (qv (pv 0)) (@pa_cons _ _ _ _ _ (@pe_ix _ _ _ _ _ _ _ qix_list (@pe_lst _ _ _ _ (@pa_cons _ _ _ _ _ pe_int (@pa_cons _ _ _ _ _ pe_int (@pa_cons _ _ _ _ _ pe_int pa_nil (by rfl)) (by rfl)) (by rfl))) (pe_callH h_l_draw hr (@pa_cons _ _ _ _ _ (qv (pv 0)) (@pa_cons _ _ _ _ _ pe_int pa_nil (by rfl)) (by rfl))) (fun _ _=>rfl)) pa_nil (by rfl)) (by rfl))))))),?_⟩
 refine ⟨a,6,rfl,hp,posI rfl,ltI rfl,fun d1 H1 _ _ hp1 g1=>?_⟩
 refine ite2 (fun c=>?_) (fun c=>?_)
 ·refine ⟨powI rfl rfl rfl,a,_,rfl,hp1,posI rfl,ltI rfl,fun d2 H2 x0 x1 hp2 g2=>?_⟩
  have x1:d2<999999999:=x1
  exact hq _ _ (by omega) (by omega) hp2 (g1.trans g2)
 ·refine ⟨leN rfl,fun p hn=>⟨a,3,rfl,hp1.laid hn,posI rfl,ltI rfl,fun d2 H2 x0 x1 hp2 g2=>?_⟩⟩
  obtain ⟨v,hv,hm⟩:=at3 (x:=.int 1) (y:=.int 2) (z:=.int 9) x0 x1
  have hpa:=hp1.ne hn
  have e2:H2 p=some (.lst [.int 1,.int 2,.int 9]):=grw_get g2 hpa upd_same
  refine ⟨_,v,SqL.of e2,hv,?_⟩
  obtain ⟨n,rfl,n0,n1⟩:∃n:Int,v=.int n∧0<n∧n<10:=by
   rcases hm with rfl | rfl | rfl
   ·exact ⟨_,rfl,by decide,by decide⟩
   ·exact ⟨_,rfl,by decide,by decide⟩
   ·exact ⟨_,rfl,by decide,by decide⟩
  refine ⟨a,n,rfl,hp2,n0,by omega,fun d3 H3 y0 y1 hp3 g3=>?_⟩
  exact hq _ _ (by omega) (by omega) hp3 (g1.trans ((grw_laid hn).trans (g2.trans g3)))
theorem ok_thing (h_l_draw:Has P w K mg base "_law_draw" 1 ["_law_pen_here","_law_size"] spDraw) (h_l_word:Has P w K mg base "_law_word" 1 ["_law_pen_here","_law_k"] spWord) (h_l_many:Has P w K mg base "_law_many" 2 ["_law_pen_here"] spMany)
  (F:Fun K "_law_thing" "_law_thing" s_l_thing f fd):FnOk P w K mg base CX0 3 f fd ["_law_pen_here","_law_marks","_law_deep"] spThing:=by
 refine F.ok sc_l_thing (fun vs H Q E h=>?_) (fun cdv A outer s H vs Q E hr h=>?_)
 ·obtain ⟨a,n,k,rfl,_⟩:=h
  rfl
 obtain ⟨a,n,k,rfl,hp,n0,n1,k0,k1,hq⟩:=h
 refine ⟨_,(@pss_cons _ _ _ _ _ (@ps_set _ _ 3 _ _ _ _ sc_l_thing.nd rfl (Or.inl rfl) (@pe_op _ _ _ _ _ _ _ _ (qi op_mul) (pe_callH h_l_draw hr (@pa_cons _ _ _ _ _ (qv (pv 0)) (@pa_cons _ _ _ _ _ pe_int pa_nil (by rfl)) (by rfl))) (@pe_ix _ _ _ _ _ _ _ qix_list (@pe_lst _ _ _ _ (@pa_cons _ _ _ _ _ pe_int (@pa_cons _ _ _ _ _ pe_int (@pa_cons _ _ _ _ _ pe_int pa_nil (by rfl)) (by rfl)) (by rfl))) (pe_callH h_l_draw hr (@pa_cons _ _ _ _ _ (qv (pv 0)) (@pa_cons _ _ _ _ _ pe_int pa_nil (by rfl)) (by rfl))) (fun _ _=>rfl))) (by rfl) (by first | exact .inl rfl | exact .inr rfl))
 (@pss_cons _ _ _ _ _ (@ps_set _ _ 4 _ _ _ _ sc_l_thing.nd rfl (Or.inl rfl) (pe_callH h_l_draw hr (@pa_cons _ _ _ _ _ (qv (pv 0)) (@pa_cons _ _ _ _ _ (@pe_op _ _ _ _ _ _ _ _ (qi op_shl) pe_int (qv (pv 2))) pa_nil (by rfl)) (by rfl))) (by rfl) (by first | exact .inl rfl | exact .inr rfl))
 (@pss_cons _ _ _ _ _ (@ps_if _ _ _ _ _ _ _ _ (qt_cmp (qeq op_eq) (pe_callH h_l_draw hr (@pa_cons _ _ _ _ _ (qv (pv 0)) (@pa_cons _ _ _ _ _ pe_int pa_nil (by rfl)) (by rfl))) pe_int (nomark _)) (@pss_one _ _ _ (@ps_set _ _ 4 _ _ _ _ sc_l_thing.nd rfl (Or.inl rfl) (@pe_op _ _ _ _ _ _ _ _ (qi op_fdiv) (qv (pv 4)) pe_int) (by rfl) (by first | exact .inl rfl | exact .inr rfl))) pss_nil)
 (@pss_one _ _ _ (@ps_ret _ _ _ _ (@pe_tup _ _ _ _ _ (@pa_cons _ _ _ _ _ (qv (pv 3)) (@pa_cons _ _ _ _ _ (pe_callH h_l_word hr (@pa_cons _ _ _ _ _ (qv (pv 0)) (@pa_cons _ _ _ _ _ (pe_callH h_l_draw hr (@pa_cons _ _ _ _ _ (qv (pv 0)) (@pa_cons _ _ _ _ _ (qv (pv 1)) pa_nil (by rfl)) (by rfl))) pa_nil (by rfl)) (by rfl))) (@pa_cons _ _ _ _ _ (qv (pv 4)) (@pa_cons _ _ _ _ _ (pe_callH h_l_many hr (@pa_cons _ _ _ _ _ (qv (pv 0)) pa_nil (by rfl))) pa_nil (by rfl)) (by rfl)) (by rfl)) (by rfl)))))))),?_⟩
 refine ⟨a,9,rfl,hp,posI rfl,ltI rfl,fun d1 H1 x0 x1 hp1 g1=>⟨leN rfl,fun p hn=>⟨a,3,rfl,hp1.laid hn,posI rfl,ltI rfl,fun d2 H2 y0 y1 hp2 g2=>?_⟩⟩⟩
 obtain ⟨v,hv,hm⟩:=at3 (x:=.int 1) (y:=.int 1) (z:=.int 1000) y0 y1
 have e2:H2 p=some (.lst [.int 1,.int 1,.int 1000]):=grw_get g2 (hp1.ne hn) upd_same
 have gg:=g1.trans ((grw_laid hn).trans g2)
 obtain ⟨m,rfl,m0⟩:∃m:Int,v=.int m∧0<m:=by
  rcases hm with rfl | rfl | rfl
  ·exact ⟨_,rfl,by decide⟩
  ·exact ⟨_,rfl,by decide⟩
  ·exact ⟨_,rfl,by decide⟩
 refine ⟨_,_,SqL.of e2,hv,Or.inl ⟨by omega,by omega⟩,?_⟩
 have day0:0≤d1 * m:=Int.mul_nonneg x0 (by omega)
 obtain ⟨kn,rfl⟩:=Int.eq_ofNat_of_zero_le k0
 have hsh:(1:Int) * 2 ^ kn≤536870912∧0<(1:Int) * 2 ^ kn:=by
  have a1:(2:Nat) ^ kn≤2 ^ 29:=Nat.pow_le_pow_right (by decide) (by omega)
  have a2:0<(2:Nat) ^ kn:=Nat.pow_pos (by decide)
  have a3:((2 ^ kn:Nat):Int)=(2:Int) ^ kn:=by push_cast;rfl
  rw [Int.one_mul,←a3]
  have a4:(2:Nat) ^ 29=536870912:=by decide
  omega
 refine ⟨⟨by omega,by omega,by decide⟩,a,_,rfl,hp2,hsh.2,by show (1:Int) * 2 ^ kn<_;omega,fun d3 H3 z0 z1 hp3 g3=>?_⟩
 have z1:d3<(1:Int) * 2 ^ kn:=z1
 have z2:d3<(2:Int) ^ kn:=by rw [←Int.one_mul ((2:Int) ^ kn)];exact z1
 refine ⟨a,3,rfl,hp3,posI rfl,ltI rfl,fun d4 H4 _ _ hp4 g4=>?_⟩
 have g5:=gg.trans (g3.trans g4)
 refine ite2 (fun c=>?_) (fun c=>?_)
 ·refine ⟨cdivI rfl rfl,?_⟩
  refine ⟨a,_,rfl,hp4,n0,by omega,fun d5 H5 _ _ hp5 g6=>⟨_,_,rfl,fun z H6 hz g7=>⟨a,rfl,hp5.same g7,fun mm H7 q0 q1 hp7 g8=>⟨leN rfl,fun r hr7=>?_⟩⟩⟩⟩
  refine hq r ⟨d1 * m,z,d3 / 4,mm⟩ _ ⟨day0,hz,Int.ediv_nonneg z0 (by decide),q0,by have:=Int.ediv_le_self 4 z0;show d3 / 4<_;omega,q1⟩ (by have:=Int.ediv_le_self 4 z0;show d3 / 4<2 ^ kn;omega) (by rw [hide_ne (hp7.ne hr7)];exact upd_same) (hp7.laid hr7) ?_
  obtain ⟨_,_,_,e5⟩:=hp5
  exact g5.trans (g6.trans ((grw_same e5 g7).trans (g8.trans (grw_laid hr7))))
 ·refine ⟨a,_,rfl,hp4,n0,by omega,fun d5 H5 _ _ hp5 g6=>⟨_,_,rfl,fun z H6 hz g7=>⟨a,rfl,hp5.same g7,fun mm H7 q0 q1 hp7 g8=>⟨leN rfl,fun r hr7=>?_⟩⟩⟩⟩
  refine hq r ⟨d1 * m,z,d3,mm⟩ _ ⟨day0,hz,z0,q0,by show d3<_;omega,q1⟩ (by show d3<2 ^ kn;omega) (by rw [hide_ne (hp7.ne hr7)];exact upd_same) (hp7.laid hr7) ?_
  obtain ⟨_,_,_,e5⟩:=hp5
  exact g5.trans (g6.trans ((grw_same e5 g7).trans (g8.trans (grw_laid hr7))))
theorem ok_stream (h_l_draw:Has P w K mg base "_law_draw" 1 ["_law_pen_here","_law_size"] spDraw) (h_l_thing:Has P w K mg base "_law_thing" 3 ["_law_pen_here","_law_marks","_law_deep"] spThing) (z_range:mg "range"=none)
  (F:Fun K "_law_stream" "_law_stream" s_l_stream f fd):FnOk P w K mg base CX0 4 f fd ["_law_pen_here","_law_marks","_law_deep","_law_most"] spStream:=by
 refine F.ok sc_l_stream (fun vs H Q E h=>?_) (fun cdv A outer s H vs Q E hr h=>?_)
 ·obtain ⟨a,n,k,l,rfl,_⟩:=h
  rfl
 obtain ⟨a,n,k,l,rfl,hp,n0,n1,k0,k1,l0,l1,hq⟩:=h
 refine ⟨_,(@pss_one _ _ _ (@ps_ret _ _ _ _ (pe_comp (own:=["_law_k"]) (CompOk.of rfl rfl (by rfl) (by rfl) (by rfl)) (pi_range1 rfl z_range (@pa_cons _ _ _ _ _ (pe_callH h_l_draw hr (@pa_cons _ _ _ _ _ (qv (pv 0)) (@pa_cons _ _ _ _ _ (@pe_op _ _ _ _ _ _ _ _ (qi0 op_add) (qv (pv 3)) pe_int) pa_nil (by rfl)) (by rfl))) pa_nil (by rfl)))
  (fun _ _ _ _ _=>(pg_name (i:=0) nd_l_stream_85_11 rfl (Or.inl rfl) (Or.inr rfl))) (fun _ _ _ _ _=>pts_nil)
  (fun _ _ _ _ _=>(pe_callH h_l_thing hr (@pa_cons _ _ _ _ _ (pv 1) (@pa_cons _ _ _ _ _ (pv 2) (@pa_cons _ _ _ _ _ (pv 3) pa_nil (by rfl)) (by rfl)) (by rfl))))))),?_⟩
 refine ⟨a,_,rfl,hp,by omega,by omega,fun d H1 x0 x1 hp1 g1=>⟨d,rfl,by omega,by omega,?_⟩⟩
 refine comp_range (fun i ys H'=>PenAt H' a∧Grw a H H'∧∃ts:List Th,ts.length=i∧(∀t∈ts,t.Ok)∧(∀t∈ts,t.num<2 ^ k.toNat)∧DVs (hide a H') ys (ts.map Th.D)) ⟨hp1,g1,[],rfl,(fun _ h=>nomatch h),(fun _ h=>nomatch h),DVs.nil⟩ ?_ ?_
 ·rintro i ys H2 C hi ⟨hp2,g2,ts,hl,hok,hkk,dv⟩ hC
  have hyl:=dv.length
  rw [List.length_map] at hyl
  refine ⟨small_lt (by omega),Wk.refl _,_,rfl,_,rfl,_,rfl,a,n,k,rfl,hp2,n0,n1,k0,k1,fun r t H3 ht hkt hr3 hp3 g3=>hC _ _ ⟨hp3,g2.trans g3,ts++[t],by rw [List.length_append,hl];rfl,?_,?_,?_⟩⟩
  ·intro t' ht'
   rcases List.mem_append.mp ht' with h | h
   ·exact hok t' h
   ·rw [List.mem_singleton.mp h];exact ht
  ·intro t' ht'
   rcases List.mem_append.mp ht' with h | h
   ·exact hkk t' h
   ·rw [List.mem_singleton.mp h];exact hkt
  ·rw [List.map_append]
   exact (dv.mono g3).append (.cons (Th.dv hr3) .nil)
 ·rintro ys H2 ⟨hp2,g2,ts,hl,hok,hkk,dv⟩
  have hyl:=dv.length
  rw [List.length_map] at hyl
  refine ⟨small_le (by omega),fun p hn=>hq p ts _ hok hkk (by omega) ?_ (hp2.laid hn) (g2.trans (grw_laid hn))⟩
  have e:hide a (upd H2 p (.lst ys)) p=some (.lst ys):=by rw [hide_ne (hp2.ne hn)];exact upd_same
  exact .lst e (dv.mono (grw_laid hn))
end
noncomputable def spTree (m:Nat):Sp:=fun vs H Q _=>∃(a:Addr) (n k l p:Int),vs=[.ref a,.int n,.int k,.int l,.int p]∧PenAt H a∧0<n∧n<1073741824∧0≤k∧k<30∧0≤l∧l<1000∧1≤p∧p≤m∧m≤1000∧
 ∀(v:V) (t:Tr) (H':Hp),t.Ok→(∀x∈t.all,x.num<2 ^ k.toNat)→(t.size:Int)≤2 * p - 1→(t.ht:Int)<p→(t.all.length:Int)≤l * p→DV (hide a H') v t.D→PenAt H' a→Grw a H H'→Q v H'
noncomputable def spLSO (m:Nat):Sp:=fun vs H Q _=>∃(v:V) (t:Tr),vs=[v]∧DV H v t.D∧t.ht<m∧t.all.length≤100000∧∀(r:Addr) (H':Hp),Same H H'→H r=none→DV H' (.ref r) (strD t.all)→Q (.ref r) H'
section
variable {P:Program} {w:World} {K:PySem.W.Frag} {mg:Str→Option Value} {base:Heap} {f:Addr} {fd:FuncData}
theorem ok_tree1 {m:Nat} (h_l_draw:Has P w K mg base "_law_draw" 1 ["_law_pen_here","_law_size"] spDraw) (h_l_stream:Has P w K mg base "_law_stream" 4 ["_law_pen_here","_law_marks","_law_deep","_law_most"] spStream)
  (h_l_tree:Has P w K mg base "_law_tree" (4+m) ["_law_pen_here","_law_marks","_law_deep","_law_most","_law_parts"] (spTree m))
  (F:Fun K "_law_tree" "_law_tree" s_l_tree f fd):FnOk P w K mg base CX0 (4+m+1) f fd ["_law_pen_here","_law_marks","_law_deep","_law_most","_law_parts"] (spTree (m+1)):=by
 refine F.ok sc_l_tree (fun vs H Q E h=>?_) (fun cdv A outer s H vs Q E hr h=>?_)
 ·obtain ⟨a,n,k,l,p,rfl,_⟩:=h
  rfl
 obtain ⟨a,n,k,l,p,rfl,hp,n0,n1,k0,k1,l0,l1,p0,p1,pm,hq⟩:=h
 refine ⟨_,(@pss_cons _ _ _ _ _ (@ps_if _ _ _ _ _ _ _ _ (PW.pt (@pw_or _ _ _ _ _ _ _ (qt_cmp (qi0 op_lt) (qv (pv 4)) pe_int (nomark _)) (@pw_or1 _ _ _ _ (qt_cmp (qeq op_eq) (pe_callH h_l_draw hr (@pa_cons _ _ _ _ _ (qv (pv 0)) (@pa_cons _ _ _ _ _ pe_int pa_nil (by rfl)) (by rfl))) pe_int (nomark _))))) (@pss_one _ _ _ (@ps_ret _ _ _ _ (pe_callH h_l_stream hr (@pa_cons _ _ _ _ _ (qv (pv 0)) (@pa_cons _ _ _ _ _ (qv (pv 1)) (@pa_cons _ _ _ _ _ (qv (pv 2)) (@pa_cons _ _ _ _ _ (qv (pv 3)) pa_nil (by rfl)) (by rfl)) (by rfl)) (by rfl))))) pss_nil)
 (@pss_cons _ _ _ _ _ (@ps_set _ _ 5 _ _ _ _ sc_l_tree.nd rfl (Or.inl rfl) (@pe_op _ _ _ _ _ _ _ _ (qi0 op_add) pe_int (pe_callH h_l_draw hr (@pa_cons _ _ _ _ _ (qv (pv 0)) (@pa_cons _ _ _ _ _ (@pe_op _ _ _ _ _ _ _ _ (qi0 op_sub) (qv (pv 4)) pe_int) pa_nil (by rfl)) (by rfl)))) (by rfl) (by first | exact .inl rfl | exact .inr rfl))
 (@pss_cons _ _ _ _ _ (@ps_set _ _ 6 _ _ _ _ sc_l_tree.nd rfl (Or.inl rfl) (pe_callH h_l_tree hr (@pa_cons _ _ _ _ _ (qv (pv 0)) (@pa_cons _ _ _ _ _ (qv (pv 1)) (@pa_cons _ _ _ _ _ (qv (pv 2)) (@pa_cons _ _ _ _ _ (qv (pv 3)) (@pa_cons _ _ _ _ _ (qv (pv 5)) pa_nil (by rfl)) (by rfl)) (by rfl)) (by rfl)) (by rfl))) (by rfl) (by first | exact .inl rfl | exact .inr rfl))
 (@pss_one _ _ _ (@ps_ret _ _ _ _ (@pe_tup _ _ _ _ _ (@pa_cons _ _ _ _ _ pe_str (@pa_cons _ _ _ _ _ (qv (pv 6)) (@pa_cons _ _ _ _ _ (pe_callH h_l_tree hr (@pa_cons _ _ _ _ _ (qv (pv 0)) (@pa_cons _ _ _ _ _ (qv (pv 1)) (@pa_cons _ _ _ _ _ (qv (pv 2)) (@pa_cons _ _ _ _ _ (qv (pv 3)) (@pa_cons _ _ _ _ _ (@pe_op _ _ _ _ _ _ _ _ (qi0 op_sub) (qv (pv 4)) (qv (pv 5))) pa_nil (by rfl)) (by rfl)) (by rfl)) (by rfl)) (by rfl))) pa_nil (by rfl)) (by rfl)) (by rfl)))))))),?_⟩
 have leaf:∀(r:Addr) (ts:List Th) (H':Hp),(∀t∈ts,t.Ok)→(∀t∈ts,t.num<2 ^ k.toNat)→(ts.length:Int)≤l→DV (hide a H') (.ref r) (.list (ts.map Th.D))→PenAt H' a→Grw a H H'→Q (.ref r) H':=fun r ts H' hok hkk hlen dv hp' g'=>by
  refine hq (.ref r) (.leaf ts) H' hok hkk ?_ ?_ ?_ dv hp' g'
  ·show ((1:Nat):Int)≤_
   omega
  ·show ((0:Nat):Int)<_
   omega
  ·show (ts.length:Int)≤l * p
   have q:l * 1≤l * p:=Int.mul_le_mul_of_nonneg_left p0 l0
   omega
 refine ite2 (fun c=>iteT ?_) (fun c=>?_)
 ·exact ⟨a,n,k,l,rfl,hp,n0,n1,k0,k1,l0,l1,leaf⟩
 ·have c:=of_decide_eq_false (Bool.eq_false_iff.mpr c)
  refine ⟨a,5,rfl,hp,posI rfl,ltI rfl,fun d H1 _ _ hp1 g1=>?_⟩
  refine ite2 (fun c=>?_) (fun c=>?_)
  ·exact ⟨a,n,k,l,rfl,hp1,n0,n1,k0,k1,l0,l1,fun r ts H' hok hkk hlen dv hp' g'=>leaf r ts H' hok hkk hlen dv hp' (g1.trans g')⟩
  ·refine ⟨a,p - 1,rfl,hp1,by omega,by omega,fun d2 H2 x0 x1 hp2 g2=>?_⟩
   refine ⟨a,n,k,l,_,rfl,hp2,n0,n1,k0,k1,l0,l1,by omega,by omega,by omega,fun v1 t1 H3 ok1 kk1 sz1 ht1 al1 dv1 hp3 g3=>?_⟩
   refine ⟨a,n,k,l,_,rfl,hp3,n0,n1,k0,k1,l0,l1,by omega,by omega,by omega,fun v2 t2 H4 ok2 kk2 sz2 ht2 al2 dv2 hp4 g4=>⟨leN rfl,fun r hn=>?_⟩⟩
   refine hq (.ref r) (.node t1 t2) _ ⟨ok1,ok2⟩ (fun x hx=>(List.mem_append.mp hx).elim (kk1 x) (kk2 x)) ?_ ?_ ?_ ?_ (hp4.laid hn) (g1.trans (g2.trans (g3.trans (g4.trans (grw_laid hn)))))
   ·show ((t1.size+t2.size+1:Nat):Int)≤_
    omega
   ·show ((max t1.ht t2.ht+1:Nat):Int)<_
    omega
   ·show ((t1.all++t2.all).length:Int)≤_
    have q:l * (1+d2)+l * (p - (1+d2))=l * p:=by
     rw [←Int.mul_add]
     congr 1
     omega
    rw [List.length_append]
    omega
   ·have e:hide a (upd H4 r (.tup [.str "merged",v1,v2])) r=some (.tup [.str "merged",v1,v2]):=by rw [hide_ne (hp4.ne hn)];exact upd_same
    exact .tup e (.cons (.str _) (.cons (dv1.mono (g4.trans (grw_laid hn))) (.cons (dv2.mono (grw_laid hn)) .nil)))
theorem ok_tree (h_l_draw:Has P w K mg base "_law_draw" 1 ["_law_pen_here","_law_size"] spDraw) (h_l_stream:Has P w K mg base "_law_stream" 4 ["_law_pen_here","_law_marks","_law_deep","_law_most"] spStream)
  (F:Fun K "_law_tree" "_law_tree" s_l_tree f fd) (b:Binds K fd ["_law_pen_here","_law_marks","_law_deep","_law_most","_law_parts"] []) (hm:mg "_law_tree"=some (.ref f)):
  ∀m:Nat,Has P w K mg base "_law_tree" (4+m) ["_law_pen_here","_law_marks","_law_deep","_law_most","_law_parts"] (spTree m)
 | 0=>Has.of (no_call fun vs H Q E h=>by
   obtain ⟨a,n,k,l,p,_,_,_,_,_,_,_,_,h1,h2,_⟩:=h
   omega) b F.kp hm
 | m+1=>Has.of (ok_tree1 h_l_draw h_l_stream (ok_tree h_l_draw h_l_stream F b hm m) F) b F.kp hm
theorem ok_lso1 {m:Nat} (h_l_stream_of:Has P w K mg base "_law_stream_of" m ["_law_tree_here"] (spLSO m)) (z_isinstance:mg "isinstance"=none) (z_list:mg "list"=none)
  (F:Fun K "_law_stream_of" "_law_stream_of" s_l_stream_of f fd):FnOk P w K mg base CX0 (m+1) f fd ["_law_tree_here"] (spLSO (m+1)):=by
 refine F.ok sc_l_stream_of (fun vs H Q E h=>?_) (fun cdv A outer s H vs Q E hr h=>?_)
 ·obtain ⟨v,t,rfl,_⟩:=h
  rfl
 obtain ⟨v,t,rfl,dv,ht,hl,hq⟩:=h
 refine ⟨_,(@pss_cons _ _ _ _ _ (@ps_if _ _ _ _ _ _ _ _ (pt_val (pe_callB call_is rfl z_isinstance PyProof.Rows.boot_isinstance (@pa_cons _ _ _ _ _ (pv 0) (@pa_cons _ _ _ _ _ (pe_bltn (v:=.ty "list") rfl z_list PyProof.Rows.boot_list rfl) pa_nil (by rfl)) (by rfl)))) (@pss_one _ _ _ (@ps_ret _ _ _ _ (pe_callTy call_list_of rfl z_list PyProof.Rows.boot_list (@pa_cons _ _ _ _ _ (pv 0) pa_nil (by rfl))))) pss_nil)
 (@pss_one _ _ _ (@ps_ret _ _ _ _ (@pe_op _ _ _ _ _ _ _ _ op_cat (pe_callH h_l_stream_of hr (@pa_cons _ _ _ _ _ (@pe_ix _ _ _ _ _ _ _ ix_tup (pv 0) pe_int (fun _ _=>rfl)) pa_nil (by rfl))) (pe_callH h_l_stream_of hr (@pa_cons _ _ _ _ _ (@pe_ix _ _ _ _ _ _ _ ix_tup (pv 0) pe_int (fun _ _=>rfl)) pa_nil (by rfl))))))),?_⟩
 cases t with
 | leaf ts=>
  obtain ⟨a,xs,rfl,e,q⟩:=DV.list_inv dv
  refine ⟨_,rfl,_,_,"list",_,rfl,TyOf.lst e,kit_ll,_,rfl,iteT ?_⟩
  refine ⟨_,rfl,a,xs,rfl,.inl (SqL.of e),fun r hn=>?_⟩
  exact hq r _ (same_laid hn _) hn (.lst upd_same (q.mono (same_laid hn _)))
 | node l r=>
  obtain ⟨a,mm,x,y,rfl,e,hx,hy⟩:=DV.node_inv dv
  have ht:max l.ht r.ht+1<m+1:=ht
  have hl:(l.all++r.all).length≤100000:=hl
  rw [List.length_append] at hl
  refine ⟨_,rfl,_,_,"list",_,rfl,TyOf.tup e,kit_tl,_,rfl,iteF ?_⟩
  refine ⟨_,rfl,a,_,1,_,rfl,rfl,SqT.of e,at3_1 _ _ _,x,l,rfl,hx,by omega,by omega,fun r1 H1 g1 _ dv1=>?_⟩
  refine ⟨_,rfl,a,_,2,_,rfl,rfl,SqT.of (g1 _ _ e),at3_2 _ _ _,y,r,rfl,hy.mono g1,by omega,by omega,fun r2 H2 g2 _ dv2=>?_⟩
  obtain ⟨a1,xs1,e1,f1,q1⟩:=DV.list_inv dv1
  obtain ⟨a2,xs2,e2,f2,q2⟩:=DV.list_inv dv2
  cases e1
  cases e2
  have l1:=q1.length
  have l2:=q2.length
  rw [List.length_map] at l1 l2
  refine ⟨r1,r2,xs1,xs2,rfl,rfl,g2 _ _ f1,f2,small_le (by omega),fun p hn=>?_⟩
  refine hq p _ (g1.trans (g2.trans (same_laid hn _))) (g1.free (g2.free hn)) (.lst upd_same ?_)
  show DVs _ (xs1++xs2) ((l.all++r.all).map Th.D)
  rw [List.map_append]
  exact (q1.mono (g2.trans (same_laid hn _))).append (q2.mono (same_laid hn _))
theorem ok_lso (z_isinstance:mg "isinstance"=none) (z_list:mg "list"=none) (F:Fun K "_law_stream_of" "_law_stream_of" s_l_stream_of f fd) (b:Binds K fd ["_law_tree_here"] []) (hm:mg "_law_stream_of"=some (.ref f)):
  ∀m:Nat,Has P w K mg base "_law_stream_of" m ["_law_tree_here"] (spLSO m)
 | 0=>Has.of (no_call fun vs H Q E h=>by
   obtain ⟨v,t,_,_,h1,_⟩:=h
   omega) b F.kp hm
 | m+1=>Has.of (ok_lso1 (ok_lso z_isinstance z_list F b hm m) z_isinstance z_list F) b F.kp hm
end
end K33
namespace L2
open PySem PySem.Spec PyProof.Rows
section
variable {prog:Program} {w:World} {A:Around} {E:Value→Shared→Prop} {s:Shared}
theorem call_dict_rawL {l:Addr} {its:List Value} {k:Nat} {sl:Array (Option Value)} {ps:List TKv} {Q:Value→Shared→Prop} (hh:A.handled=none) (hu:A.units+3<cLine)
  (hl:s.heap.get? l=some {cls:=.type "list",dict:=none,data:=.seq its.toArray k,slots:=sl}) (hlen:its.length=ps.length) (hb:ps.length≤100000) (hp:∀(j:Nat) p,ps[j]?=some p→∃v,its[j]?=some v∧PairH prog w s.heap p v [])
  (h:∀g tk,(∀b o,s.heap.get? b=some o→g.get? b=some o)→RawH prog w g s.heap.objs.size (mrgH ps)→Q (.ref s.heap.objs.size) {s with heap:=g,toks:=tk}):wpAny (model prog w) A (call (.type "dict") [.ref l]) Q E s:=by
 refine callType_codes (Q₁:=fun obj s₁=>obj=.ref s.heap.objs.size∧s₁={s with heap:=s.heap.push {cls:=.type "dict",data:=.dict #[]}}) F.kt_called_dict (F.kt_typeCall_dict_1 _) F.entry_dict_init (kt_code_dict_new _ ⟨rfl,rfl⟩) ?_
 rintro obj s₁ ⟨rfl,rfl⟩
 have gD:(s.heap.push {cls:=.type "dict",data:=.dict #[]}).get? s.heap.objs.size=some {cls:=.type "dict",data:=.dict #[]}:=Heap.get?_push_size _ rfl
 have hl1:(s.heap.push {cls:=.type "dict",data:=.dict #[]}).get? l=some {cls:=.type "list",dict:=none,data:=.seq its.toArray k,slots:=sl}:=Heap.get?_push_of_some _ hl
 refine ⟨⟨_,gD,rfl⟩,F.args_dict_init_2 _ _,?_⟩
 unfold Builtin.«dict.__init__»
 refine wpAny_bind ?_
 unfold Builtin.Dict.selfAndRest
 refine wpAny_bind (wpAny_notOrdered_dict ⟨_,gD,rfl⟩ (wpAny_pure (a:=(s.heap.objs.size,[Value.ref l])) ?_))
 show wpAny (model prog w) _ (Builtin.Dict.updateFrom "dict.__init__" s.heap.objs.size (.ref l) [] .none) _ _ _
 unfold Builtin.Dict.updateFrom
 refine wpAny_bind (wpAny_typeOf (T:="list") ⟨_,hl1,rfl⟩ ?_)
 rw [if_pos (by decide)]
 refine wpAny_bind (keysL hl1 (by simpa using hh) fun g tk kp=>?_)
 rw [if_pos (by rfl)]
 have ltD:s.heap.objs.size<g.objs.size:=Heap.lt_size (kp _ _ gD)
 have ltl:l<s.heap.objs.size:=Heap.lt_size hl
 have hl2:g.IsList l its.toArray:=⟨_,kp _ _ hl1,rfl,k,rfl⟩
 refine wpAny_bind (wpAny_rule (wpAny_bind (wpAny_pyIter_list hl2 (wpAny_pure ⟨plainId_quiet plain_dloop _,?_⟩))))
 have hne:l≠g.objs.size:=Nat.ne_of_lt (Nat.lt_trans ltl ltD)
 have nin:s.heap.objs.size∉[g.objs.size,l]:=fun q=>by
  rcases List.mem_cons.mp q with q | q
  ·exact Nat.ne_of_lt ltD q
  ·exact Nat.ne_of_gt ltl (List.mem_singleton.mp q)
 have nout:∀{b:Addr},b<s.heap.objs.size→b∉[s.heap.objs.size,g.objs.size]:=fun {b} lt q=>by
  rcases List.mem_cons.mp q with q | q
  ·exact Nat.ne_of_lt lt q
  ·exact Nat.ne_of_lt (Nat.lt_trans lt ltD) (List.mem_singleton.mp q)
 have keep:∀b o,s.heap.get? b=some o→(g.push {cls:=.type "list_iterator",data:=.fields #[.ref l,.int 0 0]}).get? b=some o:=fun b o e=>Heap.get?_push_of_some _ (kp _ _ (Heap.get?_push_of_some _ e))
 refine dict_loopT (A:=A.in1) (Walks.list (by simpa using hh) g.objs.size l hne its.toArray) (by show A.units+1+1<cLine;omega) s.heap.objs.size nin ps (by rw [List.size_toArray];omega) its (fun i v e=>by simpa using e) (by rw [List.size_toArray];omega) its.toArray.size 0 _ (Nat.sub_zero _) (Nat.zero_le _) ⟨⟨_,Heap.get?_push_size _ rfl,rfl,rfl⟩,hl2.push _⟩ ⟨_,#[],0,Heap.get?_push_of_some _ (kp _ _ gD),⟨rfl,rfl,rfl⟩,rfl,rfl,List.nodup_nil⟩ (fun j p e=>?_) fun g' tk' kp' so'=>⟨rfl,h g' tk' (fun b o e=>kp' b o (nout (Heap.lt_size e)) ?_) so'⟩
 ·obtain ⟨v,hv,a,o,m,rfl,_,_,ha,r1,r2,r3⟩:=hp j p e
  have la:=Heap.lt_size ha
  have lk:p.2.1<s.heap.objs.size:=by
   obtain ⟨_,_,_,h1,_⟩:=r3
   exact Heap.lt_size h1
  exact ⟨_,hv,a,o,m,rfl,nout la,nout lk,Heap.get?_push_of_some _ (kp _ _ (Heap.get?_push_of_some _ ha)),r1,r2,tk_mono r3 fun o e=>Heap.get?_push_of_some _ (kp _ _ (Heap.get?_push_of_some _ e))⟩
 ·exact Heap.get?_push_of_some _ (kp _ _ (Heap.get?_push_of_some _ e))
end
section
variable {X:Cx}
noncomputable def rDictLT (K:PySem.W.Frag):List V→Hp→VK→Prop:=fun xs H Q=>∃(l:Addr) (ys:List V) (kvs:List (List Key×V)),xs=[.ref l]∧SqL K H l ys∧TPsAt H ys kvs∧kvs.length≤1000∧∀p,H p=none→Q (.ref p) (upd H p (.dT (mrgTV kvs)))
theorem call_dictLT (hc:X.calm=true) (hu:X.A.units+64<cLine):CallR X (.type "dict") (rDictLT X.K):=by
 intro pins s σ H xs us Q I rx h
 obtain ⟨l,ys,kvs,rfl,hq,pa,hlen,q⟩:=h
 obtain ⟨u,rfl,ru⟩:=vals1 rx
 cases ru
 obtain ⟨its,rv,⟨⟨c0,d0,dt0,sl0⟩,m,ho,hcl,hdn,hs⟩,_⟩:=I.list hq
 simp only at hcl hdn hs
 subst hcl hdn hs
 obtain ⟨ps,kt,hl,hp⟩:=tps_real I pa rv
 have kl:=Paired.length kt
 refine call_dict_rawL (I.ok.hd hc) (by omega) ho hl (by omega) hp fun g tk kp hD=>?_
 have km:=mrgKT kt
 have ml:=mrgH_len ps
 refine ⟨.ref s.heap.objs.size,_,I.laid (t':=tk) (o:=.dT (mrgTV kvs)) kp (Nat.le_refl _) ⟨small_le (by rw [Paired.length km];omega),beq_eq_false_iff_ne.mpr (Nat.ne_of_gt I.big),mrgH ps,?_,hD⟩,rfl,q _ (I.hok.fresh (Nat.le_refl _))⟩
 exact KT.keeps km fun b ys e=>by rw [upd_ne (ne_of_none e (I.hok.fresh (Nat.le_refl _)))];exact e
end
noncomputable def tTryA (K:PySem.W.Frag) (S:Addr) (sp:Sp) (i:Nat) (ta:TA) (tb:TS):TS:=fun D σ H=>ta σ H fun vs H1=>sp vs H1 (fun v H2=>D.nx (σ.set i (some v)) H2) (fun cv _ H2=>∃C,cv=.ref C∧PySem.W.exmOne K (.ref C) (.ref S)=some true∧
 ∀a,H2 a=none→tb {nx:=D.nx,rt:=fun _ _=>False} σ (upd H2 a (xo C a)))
section
variable {X:Cx} {x c n:Str} {p pos cpos epos np ap hpos:Pos} {e:Expr} {es:List Expr} {ta:TA} {tb:TS} {b₀:Stmt} {suite:List Stmt} {j k i:Nat} {ps:List Str} {sp:Sp} {S:Addr}
end
section
variable {P:Program} {w:World} {A:Around} {E:Value→Shared→Prop} {s:Shared} {a b:Addr} {va vb:List (Key×Value)}
noncomputable def intV:Value→Option Int
 | .int n _=>some n
 | _=>none
noncomputable def hasP (vb:List (Key×Value)) (p:Key×Value):Bool:=decide ((valueAt vb p.1).bind intV=intV p.2)
noncomputable def rEqDS:R2:=fun x y H Q=>∃a b ps qs,x=.ref a∧y=.ref b∧H a=some (.dK (kvOf ps))∧H b=some (.dK (kvOf qs))∧Q (.bl (decide (ps.length=qs.length) && ps.all fun p=>decide (p∈qs))) H
end
section
variable {prog:Program} {w:World} {A:Around} {E:Value→Shared→Prop} {s:Shared}
end
section
variable {X:Cx}
noncomputable def rDictDT (P:Program) (w:World):List V→Hp→VK→Prop:=fun xs H Q=>∃(l:Addr) (kvs:List (List Key×V)),xs=[.ref l]∧H l=some (.dT kvs)∧(kvs.map fun kv=>(tupleKind (mixKind P w)).hash kv.1).Nodup∧∀p,H p=none→Q (.ref p) (upd H p (.dT kvs))
theorem kt_keys {H:Hp} {kvs:List (List Key×V)} {xs:List TKv} (h:KT H kvs xs):xs.map (·.1)=kvs.map (·.1):=by
 induction h with
 | nil=>rfl
 | cons h r ih=>rw [List.map_cons,List.map_cons,ih,h.1]
noncomputable def tDisp1 (tk tv:TE):TE:=fun σ H Q=>∀p,H p=none→tk σ (upd H p (.dT [])) fun x H1=>tv σ H1 fun v H2=>∃(b:Addr) (k:List Key),x=.ref b∧H2 p=some (.dT [])∧H2 b=some (.tup (k.map kV))∧Q (.ref p) (upd H2 p (.dT [(k,v)]))
noncomputable def frzET (D:Ends) (d:Addr) (kvs:List (List Key×V)) (o:Obj):Ends where
 nx:=fun σ2 H2=>H2 d=some (.frz o (.dT kvs))∧D.nx σ2 (upd H2 d (.dT kvs))
 rt:=fun v H2=>H2 d=some (.frz o (.dT kvs))∧D.rt v (upd H2 d (.dT kvs))
 bk:=fun σ2 H2=>H2 d=some (.frz o (.dT kvs))∧D.bk σ2 (upd H2 d (.dT kvs))
 ct:=fun σ2 H2=>H2 d=some (.frz o (.dT kvs))∧D.ct σ2 (upd H2 d (.dT kvs))
noncomputable def sFrzT (t:TS):TS:=fun D σ H=>∃(d:Addr) (kvs:List (List Key×V)),H d=some (.dT kvs)∧∀o,t (frzET D d kvs o) σ (upd H d (.frz o (.dT kvs)))
end
section
variable {P:Program} {w:World} {A:Around} {E:Value→Shared→Prop} {s:Shared} {a b:Addr} {xa xb:List TKv} {H:Hp} {ps qs:Sps}
theorem paired_get {α β:Type} {F:α→β→Prop}:∀{xs:List α} {ys:List β} {i:Nat} {x:α},Paired F xs ys→xs[i]?=some x→∃y,ys[i]?=some y∧F x y
 | _,_,_,_,.nil,e=>by simp at e
 | _,_,0,_,.cons a _,e=>by simp at e;subst e;exact ⟨_,rfl,a⟩
 | _,_,i+1,x,.cons _ r,e=>by
  obtain ⟨y,h1,h2⟩:=paired_get (i:=i) r (by simpa using e)
  exact ⟨y,by simpa using h1,h2⟩
theorem inj_nd {α β:Type} {f:α→β}:∀{l:List α},(l.map f).Nodup→∀{a b:α},a∈l→b∈l→f a=f b→a=b
 | x::l,nd,a,b,ha,hb,e=>by
  rw [List.map_cons,List.nodup_cons] at nd
  rcases List.mem_cons.mp ha with ha | ha
  ·rcases List.mem_cons.mp hb with hb | hb
   ·rw [ha,hb]
   ·exact absurd (List.mem_map.mpr ⟨b,hb,by rw [←e,ha]⟩) nd.1
  ·rcases List.mem_cons.mp hb with hb | hb
   ·exact absurd (List.mem_map.mpr ⟨a,ha,by rw [e,hb]⟩) nd.1
   ·exact inj_nd nd.2 ha hb e
theorem tv_at {ps:Sps} {xs:List TKv} (r:KT H (tvOf ps) xs) {j:Nat} {x:TKv} (h:xs[j]?=some x):∃p t,ps[j]?=some p∧x.1=kk p.1∧x.2.2=.int p.2 t:=by
 have kl:=Paired.length r
 rw [tvOf_len] at kl
 have hj:j<ps.length:=by rw [kl];exact (List.getElem?_eq_some_iff.mp h).1
 obtain ⟨p,hp⟩:∃p,ps[j]?=some p:=⟨ps[j],List.getElem?_eq_getElem hj⟩
 have e2:(tvOf ps)[j]?=some (kk p.1,.int p.2):=by unfold tvOf;rw [List.getElem?_map,hp];rfl
 obtain ⟨y,hy,f⟩:=paired_get r e2
 rw [h] at hy
 cases hy
 obtain ⟨f1,_,t,f3⟩:=f
 exact ⟨p,t,hp,f1.symm,f3⟩
theorem wp_sameT {nm:String} {Q:Bool→Shared→Prop} (hu:A.units<cLine) (ha:(a == sysModules)=false) (hb:(b == sysModules)=false) (da:s.heap.DictOfH (tupleKind (mixKind P w)) a xa) (db:s.heap.DictOfH (tupleKind (mixKind P w)) b xb)
  (ra:KT H (tvOf ps) xa) (rb:KT H (tvOf qs) xb) (h:Q (decide (ps.length=qs.length) && ps.all fun p=>decide (p∈qs)) s):
  wpAny (model P w) A (Builtin.Dict.samePairs nm a b) Q E s:=by
 obtain ⟨oa,ea,pa,ga,xca,qa,ta,ka,na⟩:=da
 obtain ⟨ob,eb,pb,gb,xcb,qb,tb,kb,nb⟩:=db
 have la:ea.size=ps.length:=by rw [←Array.length_toList,ta,List.length_map,←Paired.length ra,tvOf_len]
 have lb:eb.size=qs.length:=by rw [←Array.length_toList,tb,List.length_map,←Paired.length rb,tvOf_len]
 have sh:∀{d:Addr} {R:Unit→Shared→Prop},(d == sysModules)=false→R () s→wpAny (model P w) A (Builtin.Dict.showsAll d) R E s:=fun {d R} hd hr=>by
  unfold Builtin.Dict.showsAll
  rw [if_neg (by rw [hd];decide)]
  exact wpAny_pure hr
 unfold Builtin.Dict.samePairs
 refine wpAny_bind (sh ha (wpAny_bind (sh hb (wpAny_bind (wpAny_dictEntries ga qa (wpAny_bind (wpAny_dictEntries gb qb ?_)))))))
 by_cases hl:ps.length=qs.length
 ·rw [if_neg (by rw [la,lb,hl];simp)]
  refine wpAny_bind (wpAny_dictEpoch ga qa (wpAny_bind ?_))
  rw [Std.Legacy.Range.forIn_eq_forIn_range']
  refine wpAny_mono (wpAny_forIn_list _ (fun rest r s'=>∃i,rest=List.range' i (ea.size - i)∧i≤ea.size∧r=(none,())∧s=s'∧∀p∈ps.take i,p∈qs)
   (fun r s'=>s=s'∧((r=(none,())∧(ps.all fun p=>decide (p∈qs))=true)∨(r=(some false,())∧(ps.all fun p=>decide (p∈qs))=false))) ?_ ?_ _ _ ⟨0,?_,Nat.zero_le _,rfl,rfl,?_⟩) ?_ (fun _ _ z=>z)
  ·rintro x rest r s' ⟨i,he,hi,rfl,rfl,hp⟩
   have hin:i<ea.size:=by
    rcases Nat.lt_or_ge i ea.size with z | z
    ·exact z
    ·rw [Nat.sub_eq_zero_of_le z] at he;cases he
   rw [show ea.size - i=(ea.size - (i+1))+1 by omega,List.range'_succ] at he
   obtain ⟨rfl,rfl⟩:=List.cons.inj he.symm
   have hge:ea[i]?=some ea[i]:=Array.getElem?_eq_getElem hin
   have hx:(xa.map (entryOfKey (tupleKind (mixKind P w))))[i]?=some ea[i]:=by rw [←ta,Array.getElem?_toList];exact hge
   rw [List.getElem?_map] at hx
   obtain ⟨x,hxi,hxe⟩:=Option.map_eq_some_iff.mp hx
   obtain ⟨p,t,hpi,e1,e2⟩:=tv_at ra hxi
   have tk:ps.take (i+1)=ps.take i++[p]:=take_one hpi
   have fF:p∉qs→(ps.all fun p=>decide (p∈qs))=false:=fun hs=>List.all_eq_false.mpr ⟨p,List.mem_of_getElem? hpi,by rw [decide_eq_false hs];decide⟩
   have fT:p∈qs→∀q∈ps.take (i+1),q∈qs:=fun hs q hq=>by
    rw [tk] at hq
    rcases List.mem_append.mp hq with z | z
    ·exact hp q z
    ·rw [List.mem_singleton.mp z];exact hs
   have kx:ea[i].key=.ref x.2.1:=by rw [←hxe];rfl
   have hv:ea[i].val=.int p.2 t:=by rw [←hxe];exact e2
   have hh:ea[i].hash=(tupleKind (mixKind P w)).hash x.1:=by rw [←hxe];rfl
   refine wpAny_bind (wpAny_dictEntries ga qa ?_)
   rw [hge]
   refine wpAny_bind (wpAny_holding (wpAny_bind ?_))
   rw [kx,hh]
   refine wpAny_dictFind_heap (show A.units<cLine from hu) (ka x (List.mem_of_getElem? hxi)) gb qb tb kb nb (fun no=>?_) (fun j q hj=>?_)
   ·refine wpAny_pure ?_
    rw [if_pos (by decide)]
    refine wpAny_pure ⟨rfl,.inr ⟨rfl,fF fun hm=>?_⟩⟩
    obtain ⟨j,hj⟩:=List.getElem?_of_mem hm
    have e3:(tvOf qs)[j]?=some (kk p.1,.int p.2):=by unfold tvOf;rw [List.getElem?_map,hj];rfl
    obtain ⟨y,hy,f⟩:=paired_get rb e3
    refine no j y.2 ?_
    rw [hy,e1]
    exact congrArg some (Prod.ext f.1.symm rfl)
   ·obtain ⟨p2,t2,hp2,e3,e4⟩:=tv_at rb hj
    have e3:x.1=kk p2.1:=e3
    have ke:p.1=p2.1:=kk_inj (e1.symm.trans e3)
    have hbj:eb[j]?=some (entryOfKey (tupleKind (mixKind P w)) (x.1,q)):=by
     rw [←Array.getElem?_toList,tb,List.getElem?_map,hj]
     rfl
    refine wpAny_bind (wpAny_dictEntries gb qb ?_)
    rw [hbj]
    refine wpAny_holding ?_
    rw [hv,show (entryOfKey (tupleKind (mixKind P w)) (x.1,q)).val=.int p2.2 t2 from e4]
    refine wpAny_eqBool_int ?_
    by_cases z:p.2=p2.2
    ·rw [if_neg (by simp [z])]
     refine wpAny_bind (wpAny_dictEpoch ga qa ?_)
     rw [if_neg (by simp)]
     refine wpAny_pure ⟨i+1,rfl,by omega,rfl,rfl,fT ?_⟩
     rw [show p=p2 from Prod.ext ke z]
     exact List.mem_of_getElem? hp2
    ·rw [if_pos (by simp [z])]
     refine wpAny_pure ⟨rfl,.inr ⟨rfl,fF fun hm=>z ?_⟩⟩
     have nq:(qs.map (·.1)).Nodup:=by
      have:(xb.map (·.1))=(tvOf qs).map (·.1):=kt_keys rb
      rw [this,tvOf_keys] at nb
      exact (List.pairwise_map.mp nb).imp fun h e=>h (by rw [e])
     have:=inj_nd nq hm (List.mem_of_getElem? hp2) ke
     rw [this]
  ·rintro r s' ⟨i,he,hi,rfl,rfl,hp⟩
   refine ⟨rfl,.inl ⟨rfl,?_⟩⟩
   have hz:ea.size - i=0:=by
    cases hq:ea.size - i with
    | zero=>rfl
    | succ q=>rw [hq,List.range'_succ] at he;cases he
   rw [List.take_of_length_le (by omega)] at hp
   exact List.all_eq_true.mpr fun p hm=>decide_eq_true (hp p hm)
  ·simp
  ·intro p hp;simp at hp
  ·rintro r s' ⟨rfl,⟨rfl,hv⟩ | ⟨rfl,hv⟩⟩
   ·rw [hv,decide_eq_true hl] at h
    exact wpAny_pure h
   ·rw [hv,Bool.and_false] at h
    exact wpAny_pure h
 ·rw [if_pos (by rw [la,lb];simpa using hl)]
  rw [decide_eq_false hl,Bool.false_and] at h
  exact wpAny_bind (wpAny_rule (wpAny_pure h))
end
section
variable {P:Program} {w:World} {A:Around} {E:Value→Shared→Prop} {s:Shared} {a b:Addr} {xa xb:List TKv} {ps qs:Sps}
theorem meets_dict_eqT (H:Hp) (ha:(a == sysModules)=false) (hb:(b == sysModules)=false):MeetsIn P w (Builtin.«dict.__eq__» ⟨[.ref a,.ref b],[]⟩) (fun A R s=>A.in1.units<cLine∧s.heap.DictOfH (tupleKind (mixKind P w)) a xa∧s.heap.DictOfH (tupleKind (mixKind P w)) b xb∧
  KT H (tvOf ps) xa∧KT H (tvOf qs) xb∧R (.ok (.ret (.bool (decide (ps.length=qs.length) && ps.all fun p=>decide (p∈qs))))) s):=
 .of_wp fun A R s ⟨hu,da,db,ra,rb,h⟩=>by
  show wpAny _ _ (Builtin.Dict.dictSlotArgs "__eq__" ⟨[.ref a,.ref b],[]⟩ >>= _) _ _ s
  refine wpAny_bind ?_
  unfold Builtin.Dict.dictSlotArgs
  refine wpAny_bind (wpAny_notOrdered_dict da.typeIs ?_)
  show wpAny _ _ (pure (Value.ref a,Value.ref b)) _ _ s
  refine wpAny_pure ?_
  refine wpAny_bind (wpAny_isInstance db.typeIs isSubtype_dict_dict ?_)
  rw [if_neg (by decide)]
  show wpAny _ _ (Builtin.Dict.samePairs _ a b >>= _) _ _ s
  refine wpAny_bind (wp_sameT (show A.in1.units<cLine from hu) ha hb da db ra rb ?_)
  have bt:∀c:Bool,(c == true)=c:=fun c=>by cases c <;> rfl
  rw [bt]
  exact wpAny_pure ⟨_,rfl,h⟩
noncomputable def rEqDT:R2:=fun x y H Q=>∃a b ps qs,x=.ref a∧y=.ref b∧H a=some (.dT (tvOf ps))∧H b=some (.dT (tvOf qs))∧Q (.bl (decide (ps.length=qs.length) && ps.all fun p=>decide (p∈qs))) H
theorem op_eqDT {X:Cx} (hu:X.A.units+64<cLine):OpR X (compareOp .Eq) rEqDT:=by
 intro pins s σ H x y v u Q I rx ry h
 obtain ⟨a,b,ps,qs,rfl,rfl,ea,eb,q⟩:=h
 cases rx
 cases ry
 obtain ⟨za,ha,va,ra,da⟩:=dt_of I.hok ea
 obtain ⟨zb,hb,vb,rb,db⟩:=dt_of I.hok eb
 refine wpAny_richCompare_same_room (op:=.Eq) da.typeIs db.typeIs PySem.F.slot_dict_eq (call_meetsIn PySem.F.slot_dict_eq da.typeIs PySem.F.entry_dict_eq (PySem.F.args_dict_eq_2 _ _) (meets_dict_eqT H ha hb) ⟨?_,da,db,ra,rb,?_⟩) (by omega)
 ·exact (show X.A.units+1<cLine by omega)
 ·exact ⟨(fun z=>nomatch z),.bl _,H,I,rfl,q⟩
end
end L2
namespace L2
open PySem
noncomputable def tRun (X:Cx) (ss:List Stmt):TS:=fun D σ H=>∃t:TS,PSs X ss t∧t D σ H
theorem pss_run {X:Cx} {ss:List Stmt}:PSs X ss (tRun X ss):=fun pins s σ H D I ⟨_,h,q⟩=>h pins s σ H D I q
section
variable {K:PySem.W.Frag} {a:Addr} {xs:List V} {g:TG} {tb:TS} {D:Ends} {σ:St} {H:Hp}
theorem for_listH (Pv:Nat→St→Hp→Prop) (h0:Pv 0 σ H) (hl:∀i σ H,i≤xs.length→Pv i σ H→SqL K H a xs)
  (hs:∀i x σ H (N B:St→Hp→Prop) (R:VK),(∀σ' H',Pv (i+1) σ' H'→N σ' H')→(∀v H',D.rt v H'→R v H')→xs[i]?=some x→Pv i σ H→g x σ H fun σ2 H2=>tb {nx:=N,rt:=R,bk:=B,ct:=N} σ2 H2) (hd:∀σ H,Pv xs.length σ H→D.nx σ H):
  ∃W:Nat→Nat→St→Hp→Prop,(∃m,W 0 m σ H)∧∀i m σ H,W i m σ H→
   ((Itl K a).stop i H∧D.nx σ H)∨((Itl K a).go i H∧∃N:St→Hp→Prop,(∀σ' H',N σ' H'→∃m',m'<m∧W (i+1) m' σ' H')∧∀x H',(Itl K a).yld i H x H'→g x σ H' fun σ2 H2=>tb {D with nx:=N,ct:=N,bk:=D.nx} σ2 H2):=
 for_list Pv h0 hl (fun i x σ H hx p=>hs i x σ H _ _ _ (fun _ _ q=>q) (fun _ _ q=>q) hx p) hd
theorem for_tupH (Pv:Nat→St→Hp→Prop) (h0:Pv 0 σ H) (hl:∀i σ H,i≤xs.length→Pv i σ H→SqT K H a xs)
  (hs:∀i x σ H (N B:St→Hp→Prop) (R:VK),(∀σ' H',Pv (i+1) σ' H'→N σ' H')→(∀v H',D.rt v H'→R v H')→xs[i]?=some x→Pv i σ H→g x σ H fun σ2 H2=>tb {nx:=N,rt:=R,bk:=B,ct:=N} σ2 H2) (hd:∀σ H,Pv xs.length σ H→D.nx σ H):
  ∃W:Nat→Nat→St→Hp→Prop,(∃m,W 0 m σ H)∧∀i m σ H,W i m σ H→
   ((Itt K a).stop i H∧D.nx σ H)∨((Itt K a).go i H∧∃N:St→Hp→Prop,(∀σ' H',N σ' H'→∃m',m'<m∧W (i+1) m' σ' H')∧∀x H',(Itt K a).yld i H x H'→g x σ H' fun σ2 H2=>tb {D with nx:=N,ct:=N,bk:=D.nx} σ2 H2):=
 for_tup Pv h0 hl (fun i x σ H hx p=>hs i x σ H _ _ _ (fun _ _ q=>q) (fun _ _ q=>q) hx p) hd
theorem for_rangeH {lo:Int} {n:Nat} (Pv:Nat→St→Hp→Prop) (h0:Pv 0 σ H)
  (hs:∀i σ H (N B:St→Hp→Prop) (R:VK),(∀σ' H',Pv (i+1) σ' H'→N σ' H')→(∀v H',D.rt v H'→R v H')→i<n→Pv i σ H→g (.int (lo+i)) σ H fun σ2 H2=>tb {nx:=N,rt:=R,bk:=B,ct:=N} σ2 H2) (hd:∀σ H,Pv n σ H→D.nx σ H):
  ∃W:Nat→Nat→St→Hp→Prop,(∃m,W 0 m σ H)∧∀i m σ H,W i m σ H→
   ((Itr lo n).stop i H∧D.nx σ H)∨((Itr lo n).go i H∧∃N:St→Hp→Prop,(∀σ' H',N σ' H'→∃m',m'<m∧W (i+1) m' σ' H')∧∀x H',(Itr lo n).yld i H x H'→g x σ H' fun σ2 H2=>tb {D with nx:=N,ct:=N,bk:=D.nx} σ2 H2):=
 for_range Pv h0 (fun i σ H hi p=>hs i σ H _ _ _ (fun _ _ q=>q) (fun _ _ q=>q) hi p) hd
end
theorem len_cons {α:Type} {n:Nat} {P:List α→Prop} (h:∀a r,r.length=n→P (a::r)):∀us:List α,us.length=n+1→P us:=fun us e=>by
 cases us with
 | nil=>cases e
 | cons a r=>exact h a r (Nat.succ.inj e)
theorem len_nil {α:Type} {P:List α→Prop} (h:P []):∀us:List α,us.length=0→P us:=fun us e=>by
 cases us with
 | nil=>exact h
 | cons a r=>cases e
theorem Fun.b1 {K:PySem.W.Frag} {x qual:Str} {st:Stmt} {f:Addr} {fd:FuncData} {p0:Str} (F:Fun K x qual st f fd) (h:∀(kV doc pm:Value) (an:Option Addr) (cdv ct u0:Value),bindArgs (PySem.W.fnOf x qual (defArgs st) (defBody st) (defScope st) .none kV doc pm an cdv ct) ⟨[u0],[]⟩=pure [(p0,u0)]):Binds K fd [p0] []:=F.binds fun kV doc pm an cdv ct=>len_cons fun u0=>len_nil (h kV doc pm an cdv ct u0)
theorem Fun.b2 {K:PySem.W.Frag} {x qual:Str} {st:Stmt} {f:Addr} {fd:FuncData} {p0 p1:Str} (F:Fun K x qual st f fd) (h:∀(kV doc pm:Value) (an:Option Addr) (cdv ct u0 u1:Value),bindArgs (PySem.W.fnOf x qual (defArgs st) (defBody st) (defScope st) .none kV doc pm an cdv ct) ⟨[u0,u1],[]⟩=pure [(p0,u0),(p1,u1)]):Binds K fd [p0,p1] []:=F.binds fun kV doc pm an cdv ct=>len_cons fun u0=>len_cons fun u1=>len_nil (h kV doc pm an cdv ct u0 u1)
theorem Fun.b3 {K:PySem.W.Frag} {x qual:Str} {st:Stmt} {f:Addr} {fd:FuncData} {p0 p1 p2:Str} (F:Fun K x qual st f fd) (h:∀(kV doc pm:Value) (an:Option Addr) (cdv ct u0 u1 u2:Value),bindArgs (PySem.W.fnOf x qual (defArgs st) (defBody st) (defScope st) .none kV doc pm an cdv ct) ⟨[u0,u1,u2],[]⟩=pure [(p0,u0),(p1,u1),(p2,u2)]):Binds K fd [p0,p1,p2] []:=F.binds fun kV doc pm an cdv ct=>len_cons fun u0=>len_cons fun u1=>len_cons fun u2=>len_nil (h kV doc pm an cdv ct u0 u1 u2)
theorem Fun.b4 {K:PySem.W.Frag} {x qual:Str} {st:Stmt} {f:Addr} {fd:FuncData} {p0 p1 p2 p3:Str} (F:Fun K x qual st f fd) (h:∀(kV doc pm:Value) (an:Option Addr) (cdv ct u0 u1 u2 u3:Value),bindArgs (PySem.W.fnOf x qual (defArgs st) (defBody st) (defScope st) .none kV doc pm an cdv ct) ⟨[u0,u1,u2,u3],[]⟩=pure [(p0,u0),(p1,u1),(p2,u2),(p3,u3)]):Binds K fd [p0,p1,p2,p3] []:=F.binds fun kV doc pm an cdv ct=>len_cons fun u0=>len_cons fun u1=>len_cons fun u2=>len_cons fun u3=>len_nil (h kV doc pm an cdv ct u0 u1 u2 u3)
theorem Fun.b5 {K:PySem.W.Frag} {x qual:Str} {st:Stmt} {f:Addr} {fd:FuncData} {p0 p1 p2 p3 p4:Str} (F:Fun K x qual st f fd) (h:∀(kV doc pm:Value) (an:Option Addr) (cdv ct u0 u1 u2 u3 u4:Value),bindArgs (PySem.W.fnOf x qual (defArgs st) (defBody st) (defScope st) .none kV doc pm an cdv ct) ⟨[u0,u1,u2,u3,u4],[]⟩=pure [(p0,u0),(p1,u1),(p2,u2),(p3,u3),(p4,u4)]):Binds K fd [p0,p1,p2,p3,p4] []:=F.binds fun kV doc pm an cdv ct=>len_cons fun u0=>len_cons fun u1=>len_cons fun u2=>len_cons fun u3=>len_cons fun u4=>len_nil (h kV doc pm an cdv ct u0 u1 u2 u3 u4)
end L2
namespace Ld
open PySem L2
noncomputable def par1 (k:Int×Int):Int×Int:=(k.1+1,k.2 / 2)
noncomputable def lookO (ps:Sps) (k:Int×Int):Option V:=valV (tvOf ps) (kk k)
theorem look_int:∀(ps:Sps) (k:Int×Int),lookO ps k=none∨∃n,lookO ps k=some (.int n)
 | [],k=>.inl rfl
 | p::ps,k=>by
  unfold lookO tvOf
  rw [List.map_cons]
  by_cases e:kk p.1=kk k
  ·rw [valV_pos e]
   exact .inr ⟨_,rfl⟩
  ·rw [valV_neg e]
   exact look_int ps k
noncomputable def putS (ps:Sps) (k:Int×Int) (n:Int):Sps:=if (ps.any fun p=>decide (p.1=k))=true then ps.map (fun p=>if p.1=k then (p.1,n) else p) else ps++[(k,n)]
noncomputable def dropS (ps:Sps) (k:Int×Int):Sps:=ps.filter fun p=>decide (p.1≠k)
theorem kk_iff {p q:Int×Int}:kk p=kk q↔p=q:=⟨kk_inj,fun e=>by rw [e]⟩
theorem put_tv (ps:Sps) (k:Int×Int) (n:Int):putK (tvOf ps) (kk k) (.int n)=tvOf (putS ps k n):=by
 have ea:((tvOf ps).any fun kv=>decide (kv.1=kk k))=ps.any fun p=>decide (p.1=k):=by
  unfold tvOf
  rw [List.any_map]
  congr 1
  funext p
  exact decide_eq_decide.mpr kk_iff
 unfold putK putS
 rw [ea]
 split
 ·unfold tvOf
  rw [List.map_map,List.map_map]
  congr 1
  funext p
  show (if kk p.1=kk k then (kk p.1,V.int n) else (kk p.1,V.int p.2))=_
  by_cases e:p.1=k
  ·rw [if_pos (kk_iff.mpr e)]
   show _=(kk (if p.1=k then (p.1,n) else p).1,V.int (if p.1=k then (p.1,n) else p).2)
   rw [if_pos e]
  ·rw [if_neg (fun z=>e (kk_inj z))]
   show _=(kk (if p.1=k then (p.1,n) else p).1,V.int (if p.1=k then (p.1,n) else p).2)
   rw [if_neg e]
 ·unfold tvOf
  rw [List.map_append]
  rfl
theorem drop_tv (ps:Sps) (k:Int×Int):dropK (tvOf ps) (kk k)=tvOf (dropS ps k):=by
 unfold dropK dropS tvOf
 rw [List.filter_map]
 congr 1
 refine List.filter_congr fun p _=>?_
 exact decide_eq_decide.mpr (not_congr kk_iff)
theorem any_mem {ps:Sps} {k:Int×Int}:(ps.any fun p=>decide (p.1=k))=true↔k∈ps.map (·.1):=by
 rw [List.any_eq_true,List.mem_map]
 exact ⟨fun ⟨p,h,e⟩=>⟨p,h,of_decide_eq_true e⟩,fun ⟨p,h,e⟩=>⟨p,h,decide_eq_true e⟩⟩
theorem put_keys (ps:Sps) (k:Int×Int) (n:Int):(putS ps k n).map (·.1)=if k∈ps.map (·.1) then ps.map (·.1) else ps.map (·.1)++[k]:=by
 unfold putS
 by_cases h:k∈ps.map (·.1)
 ·rw [if_pos (any_mem.mpr h),if_pos h,List.map_map]
  congr 1
  funext p
  show (if p.1=k then (p.1,n) else p).1=p.1
  split <;> rfl
 ·rw [if_neg (fun z=>h (any_mem.mp z)),if_neg h,List.map_append]
  rfl
theorem drop_keys (ps:Sps) (k:Int×Int):(dropS ps k).map (·.1)=(ps.map (·.1)).filter fun x=>decide (x≠k):=by
 unfold dropS
 rw [List.filter_map]
 rfl
theorem put_len (ps:Sps) (k:Int×Int) (n:Int):(putS ps k n).length≤ps.length+1:=by
 unfold putS
 split
 ·rw [List.length_map];omega
 ·rw [List.length_append];exact Nat.le_refl _
theorem drop_len (ps:Sps) (k:Int×Int):(dropS ps k).length≤ps.length:=List.length_filter_le _ _
theorem look_put (ps:Sps) (k j:Int×Int) (n:Int):lookO (putS ps k n) j=if j=k then some (.int n) else lookO ps j:=by
 unfold lookO
 rw [←put_tv,valV_put]
 by_cases e:j=k
 ·rw [if_pos (kk_iff.mpr e),if_pos e]
 ·rw [if_neg (fun z=>e (kk_inj z)),if_neg e]
theorem look_cons (p:(Int×Int)×Int) (ps:Sps) (j:Int×Int):lookO (p::ps) j=if p.1=j then some (.int p.2) else lookO ps j:=by
 unfold lookO tvOf
 rw [List.map_cons]
 by_cases e:p.1=j
 ·rw [if_pos e,valV_pos (by show kk p.1=kk j;rw [e])]
 ·rw [if_neg e,valV_neg (fun z=>e (kk_inj z))]
theorem look_drop:∀(ps:Sps) (k j:Int×Int),lookO (dropS ps k) j=if j=k then none else lookO ps j
 | [],k,j=>by
  show none=if j=k then none else none
  split <;> rfl
 | p::ps,k,j=>by
  have ih:=look_drop ps k j
  unfold dropS at ih ⊢
  by_cases e:p.1=k
  ·rw [List.filter_cons,if_neg (by simpa using e),ih,look_cons]
   by_cases z:j=k
   ·rw [if_pos z,if_pos z]
   ·rw [if_neg z,if_neg z,if_neg (fun q=>z (by rw [←q,e]))]
  ·rw [List.filter_cons,if_pos (decide_eq_true e),look_cons,ih,look_cons]
   by_cases z:j=k
   ·rw [if_pos z,if_pos z,if_neg (fun q=>e (by rw [q,z]))]
   ·rw [if_neg z,if_neg z]
theorem par_ne (k:Int×Int):k≠par1 k:=fun e=>by
 have:k.1=k.1+1:=congrArg (·.1) e
 omega
theorem look_mem {ps:Sps} {k:Int×Int}:(lookO ps k).isSome=true↔k∈ps.map (·.1):=by
 unfold lookO
 rw [←valV_any,←any_mem]
 have ea:((tvOf ps).any fun kv=>decide (kv.1=kk k))=ps.any fun p=>decide (p.1=k):=by
  unfold tvOf
  rw [List.any_map]
  congr 1
  funext p
  exact decide_eq_decide.mpr kk_iff
 rw [ea]
theorem look_some {ps:Sps} {k:Int×Int} (h:(lookO ps k).isSome=true):∃m,lookO ps k=some (.int m):=by
 rcases look_int ps k with z | z
 ·rw [z] at h;cases h
 ·exact z
noncomputable def cnt (ps:Sps) (k:Int×Int):Int:=match lookO ps k with
 | some (.int n)=>n
 | _=>0
theorem look_at:∀{ps:Sps} {p:(Int×Int)×Int},(ps.map (·.1)).Nodup→p∈ps→lookO ps p.1=some (.int p.2)
 | q::ps,p,nd,h=>by
  rw [List.map_cons,List.nodup_cons] at nd
  rw [look_cons]
  rcases List.mem_cons.mp h with e | h
  ·rw [e,if_pos rfl]
  ·rw [if_neg (fun z=>nd.1 (by rw [z];exact List.mem_map.mpr ⟨p,h,rfl⟩))]
   exact look_at nd.2 h
theorem look_key {ps:Sps} {k:Int×Int} (h:k∈ps.map (·.1)):lookO ps k=some (.int (cnt ps k)):=by
 obtain ⟨m,e⟩:=look_some (look_mem.mpr h)
 unfold cnt
 rw [e]
theorem lookO_out {ps:Sps} {k:Int×Int} (h:k∉ps.map (·.1)):lookO ps k=none:=by
 rcases look_int ps k with z | ⟨n,z⟩
 ·exact z
 ·exact absurd (look_mem.mp (by rw [z];rfl)) h
theorem cnt_at {ps:Sps} {p:(Int×Int)×Int} (nd:(ps.map (·.1)).Nodup) (h:p∈ps):cnt ps p.1=p.2:=by
 unfold cnt
 rw [look_at nd h]
theorem cnt_out {ps:Sps} {k:Int×Int} (h:k∉ps.map (·.1)):cnt ps k=0:=by
 unfold cnt
 rw [lookO_out h]
theorem cnt_look (ps:Sps) (k:Int×Int):(lookO ps k).getD (.int 0)=.int (cnt ps k):=by
 unfold cnt
 rcases look_int ps k with z | ⟨n,z⟩ <;> rw [z] <;> rfl
theorem cnt_eq {ps qs:Sps} {j k:Int×Int} (h:lookO ps j=lookO qs k):cnt ps j=cnt qs k:=by
 unfold cnt
 rw [h]
theorem cnt_put (ps:Sps) (k j:Int×Int) (n:Int):cnt (putS ps k n) j=if j=k then n else cnt ps j:=by
 unfold cnt
 rw [look_put]
 by_cases e:j=k
 ·rw [if_pos e,if_pos e]
 ·rw [if_neg e,if_neg e]
theorem cnt_drop (ps:Sps) (k j:Int×Int):cnt (dropS ps k) j=if j=k then 0 else cnt ps j:=by
 unfold cnt
 rw [look_drop]
 by_cases e:j=k
 ·rw [if_pos e,if_pos e]
 ·rw [if_neg e,if_neg e]
theorem mem_look {ps:Sps} {p:(Int×Int)×Int} (nd:(ps.map (·.1)).Nodup):p∈ps↔lookO ps p.1=some (.int p.2):=by
 refine ⟨look_at nd,fun h=>?_⟩
 have hk:p.1∈ps.map (·.1):=look_mem.mp (by rw [h];rfl)
 obtain ⟨q,hq,e⟩:=List.mem_map.mp hk
 have hq2:=look_at nd hq
 rw [e,h] at hq2
 injection hq2 with hq2
 injection hq2 with hq2
 have:q=p:=Prod.ext e hq2.symm
 rw [←this]
 exact hq
theorem nd_of {α β:Type} {f:α→β} {l:List α} (h:(l.map f).Nodup):l.Nodup:=(List.pairwise_map.mp h).imp fun h e=>h (by rw [e])
theorem perm_nd {α:Type} [DecidableEq α]:∀{l m:List α},l.Nodup→m.Nodup→(∀a,a∈l↔a∈m)→l.Perm m
 | [],m,_,_,h=>by
  cases m with
  | nil=>exact .refl _
  | cons b m=>exact absurd ((h b).mpr (.head _)) List.not_mem_nil
 | a::l,m,nl,nm,h=>by
  rw [List.nodup_cons] at nl
  have ha:=(h a).mp (.head _)
  refine .trans (List.Perm.cons a (perm_nd nl.2 (nm.erase a) fun b=>?_)) (List.perm_cons_erase ha).symm
  rw [nm.mem_erase_iff]
  refine ⟨fun hb=>⟨fun e=>nl.1 (by rw [←e];exact hb),(h b).mp (.tail _ hb)⟩,fun ⟨ne,hb⟩=>((List.mem_cons.mp ((h b).mpr hb)).resolve_left ne)⟩
theorem perm_look {ps qs:Sps} (np:(ps.map (·.1)).Nodup) (nq:(qs.map (·.1)).Nodup) (h:∀k,lookO ps k=lookO qs k):ps.Perm qs:=
 perm_nd (nd_of np) (nd_of nq) fun p=>by rw [mem_look np,mem_look nq,h]
theorem look_perm {ps qs:Sps} (h:ps.Perm qs) (np:(ps.map (·.1)).Nodup) (k:Int×Int):lookO ps k=lookO qs k:=by
 have nq:(qs.map (·.1)).Nodup:=(h.map _).nodup_iff.mp np
 by_cases hk:k∈ps.map (·.1)
 ·obtain ⟨p,hp,rfl⟩:=List.mem_map.mp hk
  rw [look_at np hp,look_at nq (h.mem_iff.mp hp)]
 ·rw [lookO_out hk,lookO_out fun z=>hk ((h.map _).mem_iff.mpr z)]
noncomputable def sumS (ps:Sps):Int:=(ps.map (·.2)).sum
theorem sum_drop:∀{ps:Sps} {k:Int×Int},(ps.map (·.1)).Nodup→sumS (dropS ps k)=sumS ps - cnt ps k
 | [],k,_=>by
  show (0:Int)=0 - cnt [] k
  rfl
 | p::ps,k,nd=>by
  rw [List.map_cons,List.nodup_cons] at nd
  have ih:=sum_drop (k:=k) nd.2
  unfold sumS dropS at ih ⊢
  by_cases e:p.1=k
  ·have o:cnt ps k=0:=cnt_out (by rw [←e];exact nd.1)
   have c:cnt (p::ps) k=p.2:=by unfold cnt;rw [look_cons,if_pos e]
   rw [List.filter_cons,if_neg (by simpa using e),ih,o,c,List.map_cons,List.sum_cons]
   omega
  ·have c:cnt (p::ps) k=cnt ps k:=by unfold cnt;rw [look_cons,if_neg e]
   rw [List.filter_cons,if_pos (decide_eq_true e),List.map_cons,List.sum_cons,ih,c,List.map_cons,List.sum_cons]
   omega
theorem put_nd {ps:Sps} {k:Int×Int} {n:Int} (nd:(ps.map (·.1)).Nodup):((putS ps k n).map (·.1)).Nodup:=by
 rw [put_keys]
 split
 ·exact nd
 ·rename_i h
  exact List.nodup_append.mpr ⟨nd,List.nodup_cons.mpr ⟨List.not_mem_nil,List.nodup_nil⟩,fun x hx y hy e=>h (by rw [List.mem_singleton.mp hy] at e;rw [←e];exact hx)⟩
theorem drop_nd {ps:Sps} {k:Int×Int} (nd:(ps.map (·.1)).Nodup):((dropS ps k).map (·.1)).Nodup:=by
 rw [drop_keys]
 exact nd.filter _
theorem sum_perm {ps qs:Sps} (h:ps.Perm qs):sumS ps=sumS qs:=perm_sum (h.map _)
theorem sum_put {ps:Sps} {k:Int×Int} {n:Int} (nd:(ps.map (·.1)).Nodup):sumS (putS ps k n)=sumS ps - cnt ps k+n:=by
 have h:(putS ps k n).Perm ((k,n)::dropS ps k):=by
  have hk:k∉(dropS ps k).map (·.1):=by
   rw [drop_keys]
   intro z
   have:=(List.mem_filter.mp z).2
   simp at this
  refine perm_look (put_nd nd) (by rw [List.map_cons];exact List.nodup_cons.mpr ⟨hk,drop_nd nd⟩) fun j=>?_
  rw [look_put,look_cons,look_drop]
  by_cases e:j=k
  ·rw [if_pos e,if_pos e.symm]
  ·rw [if_neg e,if_neg (Ne.symm e),if_neg e]
 rw [sum_perm h]
 have:=sum_drop (k:=k) nd
 unfold sumS at this ⊢
 rw [List.map_cons,List.sum_cons,this]
 omega
end Ld
namespace Ld
open PySem L2
noncomputable def foldS (ps:Sps) (k:Int×Int) (m n:Int):Sps:=dropS (putS (putS ps (par1 k) n) k (m - m)) k
theorem fold_keys {ps:Sps} {k:Int×Int} {m n:Int} (hk:k∈ps.map (·.1)):(foldS ps k m n).map (·.1)=if par1 k∈ps.map (·.1) then (ps.map (·.1)).filter (fun x=>decide (x≠k)) else (ps.map (·.1)).filter (fun x=>decide (x≠k))++[par1 k]:=by
 unfold foldS
 have k2:k∈(putS ps (par1 k) n).map (·.1):=by
  rw [put_keys]
  split
  ·exact hk
  ·exact List.mem_append_left _ hk
 rw [drop_keys,put_keys,if_pos k2,put_keys]
 split
 ·rfl
 ·rw [List.filter_append,List.filter_cons,if_pos (decide_eq_true (Ne.symm (par_ne k)))]
  rfl
noncomputable def mea (deep:Int) (ks:List (Int×Int)):Nat:=(ks.map fun k=>(deep+1 - k.1).toNat).sum
theorem mea_filter {deep:Int} {k:Int×Int}:∀{ks:List (Int×Int)},ks.Nodup→k∈ks→mea deep (ks.filter fun x=>decide (x≠k))+(deep+1 - k.1).toNat=mea deep ks
 | [],_,h=>nomatch h
 | x::ks,nd,h=>by
  rw [List.nodup_cons] at nd
  by_cases e:x=k
  ·subst e
   have o:ks.filter (fun y=>decide (y≠x))=ks:=List.filter_eq_self.mpr fun y hy=>decide_eq_true fun z=>nd.1 (by rw [←z];exact hy)
   rw [List.filter_cons,if_neg (by simp),o]
   unfold mea
   rw [List.map_cons,List.sum_cons]
   omega
  ·have hk:k∈ks:=(List.mem_cons.mp h).resolve_left (Ne.symm e)
   have ih:=mea_filter (deep:=deep) nd.2 hk
   rw [List.filter_cons,if_pos (decide_eq_true e)]
   unfold mea at ih ⊢
   rw [List.map_cons,List.sum_cons,List.map_cons,List.sum_cons]
   omega
theorem mea_perm {deep:Int} {ks ls:List (Int×Int)} (h:ks.Perm ls):mea deep ks=mea deep ls:=(h.map _).sum_nat
theorem mea_le {deep:Int} (h:deep≤20):∀{ks:List (Int×Int)},(∀k∈ks,0≤k.1)→mea deep ks≤21 * ks.length
 | [],_=>Nat.zero_le _
 | k::ks,hk=>by
  have ih:=mea_le h fun x hx=>hk x (.tail _ hx)
  have h0:=hk k (.head _)
  unfold mea at ih ⊢
  rw [List.map_cons,List.sum_cons,List.length_cons]
  omega
structure Kok (deep:Int) (ks:List (Int×Int)):Prop where
 nd:ks.Nodup
 st:∀k∈ks,0≤k.1∧k.1≤deep∧0≤k.2∧k.2<2 ^ (deep - k.1).toNat
theorem Kok.perm {deep:Int} {ks ls:List (Int×Int)} (h:Kok deep ks) (p:ls.Perm ks):Kok deep ls:=⟨p.nodup_iff.mpr h.nd,fun k hk=>h.st k (p.mem_iff.mp hk)⟩
theorem two_small {m:Int} (h:m≤10):(1:Int)≤2 ^ m.toNat∧(2:Int) ^ m.toNat≤1024:=by
 have a1:(2:Nat) ^ m.toNat≤2 ^ 10:=Nat.pow_le_pow_right (by decide) (by omega)
 have a2:0<(2:Nat) ^ m.toNat:=Nat.pow_pos (by decide)
 have a3:((2 ^ m.toNat:Nat):Int)=(2:Int) ^ m.toNat:=by push_cast;rfl
 have a4:(2:Nat) ^ 10=1024:=by decide
 rw [←a3]
 omega
theorem half_pow {h deep i:Int} (hd:h<deep) (i1:i<2 ^ (deep - h).toNat):i / 2<2 ^ (deep - (h+1)).toNat:=by
 have e:(deep - h).toNat=(deep - (h+1)).toNat+1:=by omega
 rw [e,Int.pow_succ] at i1
 omega
theorem par_in {deep:Int} {k:Int×Int} (hd:k.1<deep) (s:0≤k.1∧k.1≤deep∧0≤k.2∧k.2<2 ^ (deep - k.1).toNat):0≤(par1 k).1∧(par1 k).1≤deep∧0≤(par1 k).2∧(par1 k).2<2 ^ (deep - (par1 k).1).toNat:=by
 have:=half_pow hd s.2.2.2
 show 0≤k.1+1∧k.1+1≤deep∧0≤k.2 / 2∧k.2 / 2<2 ^ (deep - (k.1+1)).toNat
 exact ⟨by omega,by omega,by omega,this⟩
theorem fold_ok {deep:Int} {ps:Sps} {k:Int×Int} {m n:Int} (h:Kok deep (ps.map (·.1))) (hk:k∈ps.map (·.1)) (hd:k.1<deep):Kok deep ((foldS ps k m n).map (·.1))∧mea deep ((foldS ps k m n).map (·.1))<mea deep (ps.map (·.1))∧(foldS ps k m n).length≤ps.length:=by
 rw [←List.length_map (f:=(·.1)),←List.length_map (as:=ps) (f:=(·.1)),fold_keys hk]
 have mf:=mea_filter (deep:=deep) h.nd hk
 have sk:=h.st k hk
 have lf:((ps.map (·.1)).filter fun x=>decide (x≠k)).length<(ps.map (·.1)).length:=by
  refine Nat.lt_of_le_of_ne (List.length_filter_le _ _) fun e=>?_
  have:=List.length_filter_eq_length_iff.mp e k hk
  simp at this
 have ndf:((ps.map (·.1)).filter fun x=>decide (x≠k)).Nodup:=h.nd.filter _
 have stf:∀x∈(ps.map (·.1)).filter fun x=>decide (x≠k),0≤x.1∧x.1≤deep∧0≤x.2∧x.2<2 ^ (deep - x.1).toNat:=fun x hx=>h.st x (List.mem_filter.mp hx).1
 split
 ·exact ⟨⟨ndf,stf⟩,by omega,by omega⟩
 ·rename_i np
  refine ⟨⟨?_,fun x hx=>?_⟩,?_,by rw [List.length_append];exact lf⟩
  ·refine List.nodup_append.mpr ⟨ndf,List.nodup_cons.mpr ⟨List.not_mem_nil,List.nodup_nil⟩,fun x hx y hy e=>?_⟩
   rw [List.mem_singleton.mp hy] at e
   exact np (by rw [←e];exact (List.mem_filter.mp hx).1)
  ·rcases List.mem_append.mp hx with hx | hx
   ·exact stf x hx
   ·rw [List.mem_singleton.mp hx]
    exact par_in hd sk
  ·have e1:mea deep ((ps.map (·.1)).filter (fun x=>decide (x≠k))++[par1 k])=mea deep ((ps.map (·.1)).filter fun x=>decide (x≠k))+(deep+1 - (k.1+1)).toNat:=by
    unfold mea
    rw [List.map_append,List.sum_append]
    rfl
   rw [e1]
   omega
noncomputable def loK (h j:Int):Int×Int:=(h,2 * j)
noncomputable def hiK (h j:Int):Int×Int:=(h,2 * j+1)
noncomputable def upK (h j:Int):Int×Int:=(h+1,j)
noncomputable def jn (ps:Sps) (h j:Int):Int:=cnt ps (loK h j)+cnt ps (hiK h j)+cnt ps (upK h j)
theorem par_lo (h j:Int):par1 (loK h j)=upK h j:=Prod.ext rfl (show 2 * j / 2=j by omega)
theorem par_hi (h j:Int):par1 (hiK h j)=upK h j:=Prod.ext rfl (show (2 * j+1) / 2=j by omega)
theorem lo_hi (h j:Int):loK h j≠hiK h j:=fun e=>by
 have:2 * j=2 * j+1:=congrArg (·.2) e
 omega
theorem lo_up (h j:Int):loK h j≠upK h j:=fun e=>by
 have:h=h+1:=congrArg (·.1) e
 omega
theorem hi_up (h j:Int):hiK h j≠upK h j:=fun e=>by
 have:h=h+1:=congrArg (·.1) e
 omega
theorem in_pair (k:Int×Int):k=loK k.1 (k.2 / 2)∨k=hiK k.1 (k.2 / 2):=by
 rcases Int.emod_two_eq k.2 with e | e
 ·exact .inl (Prod.ext rfl (show k.2=2 * (k.2 / 2) by omega))
 ·exact .inr (Prod.ext rfl (show k.2=2 * (k.2 / 2)+1 by omega))
noncomputable def fold1 (ps:Sps) (k:Int×Int):Sps:=foldS ps k (cnt ps k) (cnt ps (par1 k)+cnt ps k)
noncomputable def foldI (ps:Sps) (k:Int×Int):Sps:=if k∈ps.map (·.1) then fold1 ps k else ps
noncomputable def told1 (ps:Sps) (k:Int×Int):Sps:=if k∈ps.map (·.1) then [(k,cnt ps k)] else []
noncomputable def stepP (ps:Sps) (h j:Int):Sps:=foldI (foldI ps (loK h j)) (hiK h j)
noncomputable def flP (ps:Sps) (h j:Int):Sps:=told1 ps (loK h j)++told1 ps (hiK h j)
noncomputable def stepL (ps:Sps) (h j:Int):Sps:=putS (dropS (dropS ps (loK h j)) (hiK h j)) (upK h j) (jn ps h j)
theorem look_fold1 (ps:Sps) (k x:Int×Int):lookO (fold1 ps k) x=if x=k then none else if x=par1 k then some (.int (cnt ps (par1 k)+cnt ps k)) else lookO ps x:=by
 unfold fold1 foldS
 rw [look_drop,look_put,look_put]
 by_cases e:x=k
 ·rw [if_pos e,if_pos e]
 ·rw [if_neg e,if_neg e,if_neg e]
theorem cnt_fold1 (ps:Sps) (k x:Int×Int):cnt (fold1 ps k) x=if x=k then 0 else if x=par1 k then cnt ps (par1 k)+cnt ps k else cnt ps x:=by
 unfold cnt
 rw [look_fold1]
 by_cases e:x=k
 ·rw [if_pos e,if_pos e]
 ·rw [if_neg e,if_neg e]
  by_cases z:x=par1 k
  ·rw [if_pos z,if_pos z]
   rfl
  ·rw [if_neg z,if_neg z]
theorem look_foldI (ps:Sps) (k x:Int×Int):lookO (foldI ps k) x=if x=k then none else if x=par1 k∧k∈ps.map (·.1) then some (.int (cnt ps (par1 k)+cnt ps k)) else lookO ps x:=by
 unfold foldI
 by_cases hk:k∈ps.map (·.1)
 ·rw [if_pos hk,look_fold1]
  by_cases e:x=k
  ·rw [if_pos e,if_pos e]
  ·rw [if_neg e,if_neg e]
   by_cases z:x=par1 k
   ·rw [if_pos z,if_pos ⟨z,hk⟩]
   ·rw [if_neg z,if_neg fun q=>z q.1]
 ·rw [if_neg hk]
  by_cases e:x=k
  ·rw [if_pos e,e,lookO_out hk]
  ·rw [if_neg e,if_neg fun q=>hk q.2]
theorem cnt_foldI (ps:Sps) (k x:Int×Int):cnt (foldI ps k) x=if x=k then 0 else if x=par1 k then cnt ps (par1 k)+cnt ps k else cnt ps x:=by
 unfold foldI
 by_cases hk:k∈ps.map (·.1)
 ·rw [if_pos hk,cnt_fold1]
 ·rw [if_neg hk]
  by_cases e:x=k
  ·rw [if_pos e,e,cnt_out hk]
  ·rw [if_neg e]
   by_cases z:x=par1 k
   ·rw [if_pos z,z,cnt_out hk,Int.add_zero]
   ·rw [if_neg z]
theorem hi_in {ps:Sps} {h j:Int}:hiK h j∈(foldI ps (loK h j)).map (·.1)↔hiK h j∈ps.map (·.1):=by
 rw [←look_mem,←look_mem,look_foldI,if_neg (Ne.symm (lo_hi h j)),par_lo,if_neg fun q=>hi_up h j q.1]
theorem told_hi (ps:Sps) (h j:Int):told1 (foldI ps (loK h j)) (hiK h j)=told1 ps (hiK h j):=by
 unfold told1
 rw [cnt_foldI,if_neg (Ne.symm (lo_hi h j)),par_lo,if_neg (hi_up h j)]
 by_cases e:hiK h j∈ps.map (·.1)
 ·rw [if_pos e,if_pos (hi_in.mpr e)]
 ·rw [if_neg e,if_neg fun q=>e (hi_in.mp q)]
theorem look_stepP {ps:Sps} {h j:Int} (i:loK h j∈ps.map (·.1)∨hiK h j∈ps.map (·.1)) (x:Int×Int):lookO (stepP ps h j) x=if x=loK h j∨x=hiK h j then none else if x=upK h j then some (.int (jn ps h j)) else lookO ps x:=by
 unfold stepP
 rw [look_foldI]
 have p1:cnt (foldI ps (loK h j)) (par1 (hiK h j))=cnt ps (upK h j)+cnt ps (loK h j):=by rw [par_hi,cnt_foldI,if_neg (Ne.symm (lo_up h j)),par_lo,if_pos rfl]
 have p2:cnt (foldI ps (loK h j)) (hiK h j)=cnt ps (hiK h j):=by rw [cnt_foldI,if_neg (Ne.symm (lo_hi h j)),par_lo,if_neg (hi_up h j)]
 rw [p1,p2]
 by_cases e1:x=hiK h j
 ·rw [if_pos e1,if_pos (.inr e1)]
 ·rw [if_neg e1,look_foldI]
  by_cases e2:x=loK h j
  ·rw [if_pos (c:=x=loK h j∨x=hiK h j) (Or.inl e2),if_neg (c:=x=par1 (hiK h j)∧_) fun q=>lo_up h j (by rw [←e2,←par_hi];exact q.1),if_pos e2]
  ·rw [if_neg (c:=x=loK h j∨x=hiK h j) fun q=>q.elim e2 e1,if_neg (c:=x=loK h j) e2]
   by_cases e3:x=upK h j
   ·rw [if_pos e3]
    unfold jn
    by_cases i2:hiK h j∈ps.map (·.1)
    ·rw [if_pos ⟨by rw [par_hi];exact e3,hi_in.mpr i2⟩]
     congr 2
     omega
    ·have i1:=i.resolve_right i2
     rw [if_neg fun q=>i2 (hi_in.mp q.2),if_pos ⟨by rw [par_lo];exact e3,i1⟩,cnt_out i2,par_lo]
     congr 2
     omega
   ·rw [if_neg e3,if_neg fun q=>e3 (by rw [←par_hi];exact q.1),if_neg fun q=>e3 (by rw [←par_lo];exact q.1)]
theorem foldI_nd {ps:Sps} {k:Int×Int} (nd:(ps.map (·.1)).Nodup):((foldI ps k).map (·.1)).Nodup:=by
 unfold foldI
 split
 ·exact drop_nd (put_nd (put_nd nd))
 ·exact nd
theorem stepP_nd {ps:Sps} {h j:Int} (nd:(ps.map (·.1)).Nodup):((stepP ps h j).map (·.1)).Nodup:=foldI_nd (foldI_nd nd)
theorem jn_perm {ps qs:Sps} (p:ps.Perm qs) (nd:(ps.map (·.1)).Nodup) (h j:Int):jn ps h j=jn qs h j:=by
 unfold jn
 rw [cnt_eq (look_perm p nd _),cnt_eq (look_perm p nd (hiK h j)),cnt_eq (look_perm p nd (upK h j))]
theorem step_perm {ps qs:Sps} {h j:Int} (p:ps.Perm qs) (nd:(ps.map (·.1)).Nodup) (i:loK h j∈ps.map (·.1)∨hiK h j∈ps.map (·.1)):(stepP ps h j).Perm (stepP qs h j):=by
 have pk:=p.map (·.1)
 refine perm_look (stepP_nd nd) (stepP_nd (pk.nodup_iff.mp nd)) fun k=>?_
 rw [look_stepP i,look_stepP (i.imp pk.mem_iff.mp pk.mem_iff.mp),jn_perm p nd,look_perm p nd]
theorem told_perm {ps qs:Sps} (p:ps.Perm qs) (nd:(ps.map (·.1)).Nodup) (k:Int×Int):told1 ps k=told1 qs k:=by
 have pk:=p.map (·.1)
 unfold told1
 rw [cnt_eq (look_perm p nd k)]
 by_cases e:k∈ps.map (·.1)
 ·rw [if_pos e,if_pos (pk.mem_iff.mp e)]
 ·rw [if_neg e,if_neg fun q=>e (pk.mem_iff.mpr q)]
theorem fl_perm {ps qs:Sps} (p:ps.Perm qs) (nd:(ps.map (·.1)).Nodup) (h j:Int):flP ps h j=flP qs h j:=by
 unfold flP
 rw [told_perm p nd,told_perm p nd]
theorem foldI_ok {deep:Int} {ps:Sps} {k:Int×Int} (o:Kok deep (ps.map (·.1))) (hd:k.1<deep):Kok deep ((foldI ps k).map (·.1))∧mea deep ((foldI ps k).map (·.1))+(told1 ps k).length≤mea deep (ps.map (·.1))∧(foldI ps k).length≤ps.length:=by
 unfold foldI told1
 by_cases hk:k∈ps.map (·.1)
 ·rw [if_pos hk,if_pos hk]
  have:=fold_ok (m:=cnt ps k) (n:=cnt ps (par1 k)+cnt ps k) o hk hd
  exact ⟨this.1,this.2.1,this.2.2⟩
 ·rw [if_neg hk,if_neg hk]
  exact ⟨o,Nat.le_refl _,Nat.le_refl _⟩
theorem stepP_ok {deep:Int} {ps:Sps} {h j:Int} (o:Kok deep (ps.map (·.1))) (hd:h<deep):Kok deep ((stepP ps h j).map (·.1))∧mea deep ((stepP ps h j).map (·.1))+(flP ps h j).length≤mea deep (ps.map (·.1))∧(stepP ps h j).length≤ps.length:=by
 have a:=foldI_ok (k:=loK h j) o hd
 have b:=foldI_ok (k:=hiK h j) a.1 hd
 rw [told_hi] at b
 unfold flP stepP
 rw [List.length_append]
 have:=a.2
 have:=b.2
 exact ⟨b.1,by omega,by omega⟩
theorem fl_pos {ps:Sps} {h j:Int} (i:loK h j∈ps.map (·.1)∨hiK h j∈ps.map (·.1)):0<(flP ps h j).length:=by
 unfold flP told1
 rw [List.length_append]
 rcases i with i | i
 ·rw [if_pos i];simp;omega
 ·rw [if_pos i];simp
theorem sum_foldI {ps:Sps} {k:Int×Int} (nd:(ps.map (·.1)).Nodup):sumS (foldI ps k)=sumS ps:=by
 unfold foldI
 split
 ·unfold fold1 foldS
  have c1:cnt (putS (putS ps (par1 k) (cnt ps (par1 k)+cnt ps k)) k (cnt ps k - cnt ps k)) k=cnt ps k - cnt ps k:=by rw [cnt_put,if_pos rfl]
  have c2:cnt (putS ps (par1 k) (cnt ps (par1 k)+cnt ps k)) k=cnt ps k:=by rw [cnt_put,if_neg (par_ne k)]
  rw [sum_drop (put_nd (put_nd nd)),sum_put (put_nd nd),sum_put nd,c1,c2]
  omega
 ·rfl
theorem sum_stepP {ps:Sps} {h j:Int} (nd:(ps.map (·.1)).Nodup):sumS (stepP ps h j)=sumS ps:=by
 unfold stepP
 rw [sum_foldI (foldI_nd nd),sum_foldI nd]
structure Fst (deep bar:Int) (ps:Sps) (h j:Int):Prop where
 in_:loK h j∈ps.map (·.1)∨hiK h j∈ps.map (·.1)
 hd:h<deep
 le:jn ps h j≤bar
 first:∀k∈ps.map (·.1),k.1<deep→jn ps k.1 (k.2 / 2)≤bar→h<k.1∨(h=k.1∧j≤k.2 / 2)
noncomputable def Nof (deep bar:Int) (ps:Sps):Prop:=∀k∈ps.map (·.1),k.1<deep→bar<jn ps k.1 (k.2 / 2)
theorem Fst.key {deep bar h j:Int} {ps:Sps} (f:Fst deep bar ps h j):∃k∈ps.map (·.1),k.1=h∧k.2 / 2=j:=by
 rcases f.in_ with i | i
 ·exact ⟨_,i,rfl,show 2 * j / 2=j by omega⟩
 ·exact ⟨_,i,rfl,show (2 * j+1) / 2=j by omega⟩
theorem Fst.not {deep bar h j:Int} {ps:Sps} (f:Fst deep bar ps h j) (n:Nof deep bar ps):False:=by
 obtain ⟨k,hk,e1,e2⟩:=f.key
 have:=n k hk (by rw [e1];exact f.hd)
 rw [e1,e2] at this
 have:=f.le
 omega
theorem Fst.uniq {deep bar h j h' j':Int} {ps:Sps} (f:Fst deep bar ps h j) (g:Fst deep bar ps h' j'):h=h'∧j=j':=by
 obtain ⟨k,hk,e1,e2⟩:=f.key
 obtain ⟨l,hl,d1,d2⟩:=g.key
 have a:=f.first l hl (by rw [d1];exact g.hd) (by rw [d1,d2];exact g.le)
 have b:=g.first k hk (by rw [e1];exact f.hd) (by rw [e1,e2];exact f.le)
 rw [d1,d2] at a
 rw [e1,e2] at b
 omega
theorem Fst.perm {deep bar h j:Int} {ps qs:Sps} (f:Fst deep bar ps h j) (p:ps.Perm qs) (nd:(ps.map (·.1)).Nodup):Fst deep bar qs h j:=by
 have pk:=p.map (·.1)
 refine ⟨f.in_.imp pk.mem_iff.mp pk.mem_iff.mp,f.hd,by rw [←jn_perm p nd];exact f.le,fun k hk h1 h2=>f.first k (pk.mem_iff.mpr hk) h1 (by rw [jn_perm p nd];exact h2)⟩
theorem nof_perm {deep bar:Int} {ps qs:Sps} (n:Nof deep bar ps) (p:ps.Perm qs) (nd:(ps.map (·.1)).Nodup):Nof deep bar qs:=fun k hk h1=>by
 rw [←jn_perm p nd]
 exact n k ((p.map (·.1)).mem_iff.mpr hk) h1
inductive Stl (deep bar:Int):Sps→Sps→Sps→Prop
 | done {ps:Sps}:Nof deep bar ps→Stl deep bar ps [] ps
 | step {ps ps1 fs ps':Sps} {h j:Int}:Fst deep bar ps h j→ps1.Perm (stepP ps h j)→Stl deep bar ps1 fs ps'→Stl deep bar ps (flP ps h j++fs) ps'
theorem stl_det {deep bar:Int} {ps fs ps':Sps} (s:Stl deep bar ps fs ps'):∀{qs gs qs':Sps},Stl deep bar qs gs qs'→ps.Perm qs→(ps.map (·.1)).Nodup→fs=gs∧ps'.Perm qs':=by
 induction s with
 | done n=>
  intro qs gs qs' t p nd
  cases t with
  | done _=>exact ⟨rfl,p⟩
  | step f _ _=>exact (f.not (nof_perm n p nd)).elim
 | step f p1 s ih=>
  intro qs gs qs' t p nd
  cases t with
  | done n=>exact ((f.perm p nd).not n).elim
  | step g q1 t=>
   obtain ⟨rfl,rfl⟩:=(f.perm p nd).uniq g
   obtain ⟨e,r⟩:=ih t (p1.trans ((step_perm p nd f.in_).trans q1.symm)) ((p1.map _).nodup_iff.mpr (stepP_nd nd))
   exact ⟨by rw [fl_perm p nd,e],r⟩
theorem stl_end {deep bar:Int} {ps fs ps':Sps} (s:Stl deep bar ps fs ps'):(ps.map (·.1)).Nodup→(ps'.map (·.1)).Nodup∧Nof deep bar ps'∧sumS ps'=sumS ps:=by
 induction s with
 | done n=>exact fun nd=>⟨nd,n,rfl⟩
 | step f p1 s ih=>
  intro nd
  obtain ⟨a,b,c⟩:=ih ((p1.map _).nodup_iff.mpr (stepP_nd nd))
  exact ⟨a,b,by rw [c,sum_perm p1,sum_stepP nd]⟩
noncomputable def Way (deep bar:Int) (ps fs qs:Sps):Prop:=∀gs ps',Stl deep bar qs gs ps'→Stl deep bar ps (fs++gs) ps'
theorem Way.refl {deep bar:Int} {ps:Sps}:Way deep bar ps [] ps:=fun _ _ s=>s
theorem Way.snoc {deep bar h j:Int} {ps fs qs qs1:Sps} (w:Way deep bar ps fs qs) (f:Fst deep bar qs h j) (p:qs1.Perm (stepP qs h j)):Way deep bar ps (fs++flP qs h j) qs1:=fun gs ps' s=>by
 rw [List.append_assoc]
 exact w _ _ (.step f p s)
theorem Way.done {deep bar:Int} {ps fs qs:Sps} (w:Way deep bar ps fs qs) (n:Nof deep bar qs):Stl deep bar ps fs qs:=by
 have:=w [] qs (.done n)
 rwa [List.append_nil] at this
theorem srtP2_eq {ps qs:Sps} (p:ps.Perm qs):srtP2 ps=srtP2 qs:=rise_eq leP_anti ((srtP2_perm ps).trans (p.trans (srtP2_perm qs).symm)) (srtP2_pw ps) (srtP2_pw qs)
end Ld
namespace Ld
open PySem L2
structure Pok (deep:Int) (ps:Sps):Prop where
 kok:Kok deep (ps.map (·.1))
 pos:∀p∈ps,1≤p.2
theorem Pok.perm {deep:Int} {ps qs:Sps} (h:Pok deep ps) (p:qs.Perm ps):Pok deep qs:=⟨h.kok.perm (p.map _),fun x hx=>h.pos x (p.mem_iff.mp hx)⟩
theorem pok_nil {deep:Int}:Pok deep []:=⟨⟨List.nodup_nil,fun _ h=>nomatch h⟩,fun _ h=>nomatch h⟩
theorem cnt_pos {deep:Int} {ps:Sps} (h:Pok deep ps) (k:Int×Int):0≤cnt ps k:=by
 by_cases hk:k∈ps.map (·.1)
 ·obtain ⟨p,hp,rfl⟩:=List.mem_map.mp hk
  rw [cnt_at h.kok.nd hp]
  have:=h.pos p hp
  omega
 ·rw [cnt_out hk]
  exact Int.le_refl _
theorem cnt_one {deep:Int} {ps:Sps} (h:Pok deep ps) {k:Int×Int} (hk:k∈ps.map (·.1)):1≤cnt ps k:=by
 obtain ⟨p,hp,rfl⟩:=List.mem_map.mp hk
 rw [cnt_at h.kok.nd hp]
 exact h.pos p hp
theorem pok_put {deep:Int} {ps:Sps} {k:Int×Int} {n:Int} (h:Pok deep ps) (hk:0≤k.1∧k.1≤deep∧0≤k.2∧k.2<2 ^ (deep - k.1).toNat) (hn:1≤n):Pok deep (putS ps k n):=by
 refine ⟨⟨put_nd h.kok.nd,fun x hx=>?_⟩,fun p hp=>?_⟩
 ·rw [put_keys] at hx
  split at hx
  ·exact h.kok.st x hx
  ·rcases List.mem_append.mp hx with hx | hx
   ·exact h.kok.st x hx
   ·rw [List.mem_singleton.mp hx];exact hk
 ·unfold putS at hp
  split at hp
  ·obtain ⟨q,hq,rfl⟩:=List.mem_map.mp hp
   split
   ·exact hn
   ·exact h.pos q hq
  ·rcases List.mem_append.mp hp with hp | hp
   ·exact h.pos p hp
   ·rw [List.mem_singleton.mp hp];exact hn
theorem step_pok {deep:Int} {ps:Sps} {h j:Int} (o:Pok deep ps) (i:loK h j∈ps.map (·.1)∨hiK h j∈ps.map (·.1)) (hd:h<deep):Pok deep (stepP ps h j):=by
 have so:=stepP_ok (j:=j) o.kok hd
 refine ⟨so.1,fun p hp=>?_⟩
 have e:=look_at so.1.nd hp
 rw [look_stepP i] at e
 split at e
 ·cases e
 ·split at e
  ·injection e with e
   injection e with e
   rw [←e]
   unfold jn
   have a:=cnt_pos o (loK h j)
   have b:=cnt_pos o (hiK h j)
   have c:=cnt_pos o (upK h j)
   rcases i with i | i
   ·have:=cnt_one o i
    omega
   ·have:=cnt_one o i
    omega
  ·exact o.pos p ((mem_look o.kok.nd).mpr e)
theorem stl_pok {deep bar:Int} {ps fs ps':Sps} (s:Stl deep bar ps fs ps'):Pok deep ps→Pok deep ps'∧ps'.length≤ps.length:=by
 induction s with
 | done n=>exact fun o=>⟨o,Nat.le_refl _⟩
 | step f p1 s ih=>
  intro o
  have q:=step_pok o f.in_ f.hd
  have z:=ih (q.perm p1)
  exact ⟨z.1,Nat.le_trans z.2 (by rw [p1.length_eq];exact (stepP_ok o.kok f.hd).2.2)⟩
theorem stl_perm {deep bar:Int} {ps fs ps' qs:Sps} (s:Stl deep bar ps fs ps') (p:ps.Perm qs) (nd:(ps.map (·.1)).Nodup):∃qs',Stl deep bar qs fs qs'∧qs'.Perm ps':=by
 cases s with
 | done n=>exact ⟨qs,.done (nof_perm n p nd),p.symm⟩
 | step f p1 s=>exact ⟨ps',by rw [fl_perm p nd];exact .step (f.perm p nd) (p1.trans (step_perm p nd f.in_)) s,.refl _⟩
theorem first_or {deep bar:Int} {ps:Sps}:Nof deep bar ps∨∃h j,Fst deep bar ps h j:=by
 by_cases n:Nof deep bar ps
 ·exact .inl n
 refine .inr ?_
 have go:∀l:List (Int×Int),l.Pairwise (fun a b=>leK a b=true)→(∀k∈l,k∈ps.map (·.1))→(∃k∈l,k.1<deep∧jn ps k.1 (k.2 / 2)≤bar)→∃k∈l,k.1<deep∧jn ps k.1 (k.2 / 2)≤bar∧∀k'∈l,k'.1<deep→jn ps k'.1 (k'.2 / 2)≤bar→k.1<k'.1∨(k.1=k'.1∧k.2 / 2≤k'.2 / 2):=by
  intro l
  induction l with
  | nil=>rintro _ _ ⟨k,hk,_⟩;cases hk
  | cons x l ih=>
   intro pw sub ex
   rw [List.pairwise_cons] at pw
   by_cases c:x.1<deep∧jn ps x.1 (x.2 / 2)≤bar
   ·refine ⟨x,.head _,c.1,c.2,fun k' hk' _ _=>?_⟩
    rcases List.mem_cons.mp hk' with e | hk'
    ·rw [e];exact .inr ⟨rfl,Int.le_refl _⟩
    ·rcases leK_iff.mp (pw.1 k' hk') with h | ⟨h,g⟩
     ·exact .inl h
     ·exact .inr ⟨h,by omega⟩
   ·obtain ⟨k,hk,h1,h2⟩:=ex
    have hk:k∈l:=(List.mem_cons.mp hk).resolve_left fun e=>c (by rw [←e];exact ⟨h1,h2⟩)
    obtain ⟨k0,m,a1,a2,a3⟩:=ih pw.2 (fun z hz=>sub z (.tail _ hz)) ⟨k,hk,h1,h2⟩
    refine ⟨k0,.tail _ m,a1,a2,fun k' hk' b1 b2=>?_⟩
    rcases List.mem_cons.mp hk' with e | hk'
    ·exact absurd (by rw [←e];exact ⟨b1,b2⟩) c
    ·exact a3 k' hk' b1 b2
 have mk:∀k,k∈srtK (ps.map (·.1))↔k∈ps.map (·.1):=fun k=>(srtK_perm _).mem_iff
 obtain ⟨k,hk⟩:=Classical.not_forall.mp n
 obtain ⟨hk1,hk⟩:=Classical.not_imp.mp hk
 obtain ⟨hk2,hk⟩:=Classical.not_imp.mp hk
 obtain ⟨k0,m,a1,a2,a3⟩:=go (srtK (ps.map (·.1))) (srtK_pw _) (fun k h=>(mk k).mp h) ⟨k,(mk k).mpr hk1,hk2,by omega⟩
 refine ⟨k0.1,k0.2 / 2,?_,a1,a2,fun k' h1 h2 h3=>a3 k' ((mk k').mpr h1) h2 h3⟩
 rcases in_pair k0 with e | e
 ·exact .inl (by rw [←e];exact (mk k0).mp m)
 ·exact .inr (by rw [←e];exact (mk k0).mp m)
theorem stl_ex {deep bar:Int}:∀(n:Nat) (ps:Sps),mea deep (ps.map (·.1))≤n→Kok deep (ps.map (·.1))→∃fs ps',Stl deep bar ps fs ps'
 | n,ps,hn,o=>by
  rcases first_or (deep:=deep) (bar:=bar) (ps:=ps) with z | ⟨h,j,f⟩
  ·exact ⟨[],ps,.done z⟩
  ·have so:=stepP_ok (j:=j) o f.hd
   have fp:=fl_pos f.in_
   match n,hn with
   | 0,hn=>omega
   | n+1,hn=>
    obtain ⟨fs,ps',s⟩:=stl_ex n (stepP ps h j) (by omega) so.1
    exact ⟨_,_,.step f (.refl _) s⟩
noncomputable def setl (deep bar:Int) (ps:Sps):Sps:=srtP2 (Classical.epsilon fun ps'=>∃fs,Stl deep bar ps fs ps')
noncomputable def flds (deep bar:Int) (ps:Sps):Sps:=Classical.epsilon fun fs=>∃ps',Stl deep bar ps fs ps'
theorem setl_eq {deep bar:Int} {ps fs ps':Sps} (s:Stl deep bar ps fs ps') (nd:(ps.map (·.1)).Nodup):setl deep bar ps=srtP2 ps'∧flds deep bar ps=fs:=by
 refine ⟨?_,?_⟩
 ·obtain ⟨gs,t⟩:=Classical.epsilon_spec (p:=fun ps'=>∃fs,Stl deep bar ps fs ps') ⟨ps',fs,s⟩
  exact srtP2_eq (stl_det t s (.refl _) nd).2
 ·obtain ⟨qs,t⟩:=Classical.epsilon_spec (p:=fun fs=>∃ps',Stl deep bar ps fs ps') ⟨fs,ps',s⟩
  exact (stl_det t s (.refl _) nd).1
theorem setl_of {deep bar:Int} {ps qs fs qs':Sps} (s:Stl deep bar qs fs qs') (p:qs.Perm ps) (nd:(qs.map (·.1)).Nodup):setl deep bar ps=srtP2 qs'∧flds deep bar ps=fs:=by
 obtain ⟨ps',t,p'⟩:=stl_perm s p nd
 have:=setl_eq t ((p.map _).nodup_iff.mp nd)
 exact ⟨this.1.trans (srtP2_eq p'),this.2⟩
theorem setl_perm {deep bar:Int} {ps qs:Sps} (o:Kok deep (ps.map (·.1))) (p:ps.Perm qs):setl deep bar ps=setl deep bar qs∧flds deep bar ps=flds deep bar qs:=by
 obtain ⟨fs,ps',s⟩:=stl_ex (deep:=deep) (bar:=bar) _ ps (Nat.le_refl _) o
 have a:=setl_eq s o.nd
 have b:=setl_of s p o.nd
 exact ⟨a.1.trans b.1.symm,a.2.trans b.2.symm⟩
theorem srtP2_idem (ps:Sps):srtP2 (srtP2 ps)=srtP2 ps:=srtP2_eq (srtP2_perm ps)
theorem setl_facts {deep bar:Int} {ps:Sps} (o:Pok deep ps):Pok deep (setl deep bar ps)∧srtP2 (setl deep bar ps)=setl deep bar ps∧Nof deep bar (setl deep bar ps)∧sumS (setl deep bar ps)=sumS ps∧(setl deep bar ps).length≤ps.length:=by
 obtain ⟨fs,ps',s⟩:=stl_ex (deep:=deep) (bar:=bar) _ ps (Nat.le_refl _) o.kok
 have e:=(setl_eq s o.kok.nd).1
 have f:=stl_end s o.kok.nd
 have g:=stl_pok s o
 rw [e]
 refine ⟨g.1.perm (srtP2_perm ps'),srtP2_idem ps',nof_perm f.2.1 (srtP2_perm ps').symm f.1,by rw [sum_perm (srtP2_perm ps')];exact f.2.2,by rw [(srtP2_perm ps').length_eq];exact g.2⟩
noncomputable def addS (xs ys:Sps):Sps:=ys.foldl (fun a p=>putS a p.1 (cnt a p.1+p.2)) xs
theorem add_snoc (xs ys:Sps) (p:(Int×Int)×Int):addS xs (ys++[p])=putS (addS xs ys) p.1 (cnt (addS xs ys) p.1+p.2):=by
 unfold addS
 rw [List.foldl_append]
 rfl
theorem add_cons (xs ys:Sps) (p:(Int×Int)×Int):addS xs (p::ys)=addS (putS xs p.1 (cnt xs p.1+p.2)) ys:=rfl
theorem add_nd:∀{ys xs:Sps},(xs.map (·.1)).Nodup→((addS xs ys).map (·.1)).Nodup
 | [],_,h=>h
 | _::ys,_,h=>add_nd (ys:=ys) (put_nd h)
theorem add_len:∀(ys xs:Sps),(addS xs ys).length≤xs.length+ys.length
 | [],xs=>Nat.le_refl _
 | p::ys,xs=>by
  have a:=add_len ys (putS xs p.1 (cnt xs p.1+p.2))
  have b:=put_len xs p.1 (cnt xs p.1+p.2)
  rw [add_cons,List.length_cons]
  omega
theorem add_sum:∀{ys xs:Sps},(xs.map (·.1)).Nodup→sumS (addS xs ys)=sumS xs+sumS ys
 | [],xs,_=>by
  show sumS xs=sumS xs+0
  omega
 | p::ys,xs,h=>by
  rw [add_cons,add_sum (put_nd h),sum_put h]
  unfold sumS
  rw [List.map_cons,List.sum_cons]
  omega
theorem add_pok {deep:Int}:∀{ys xs:Sps},Pok deep xs→(∀p∈ys,1≤p.2∧0≤p.1.1∧p.1.1≤deep∧0≤p.1.2∧p.1.2<2 ^ (deep - p.1.1).toNat)→Pok deep (addS xs ys)
 | [],_,h,_=>h
 | p::ys,xs,h,g=>by
  have gp:=g p (.head _)
  have:=cnt_pos h p.1
  exact add_pok (ys:=ys) (pok_put h gp.2 (by omega)) fun q hq=>g q (.tail _ hq)
theorem Pok.each {deep:Int} {ys:Sps} (h:Pok deep ys):∀p∈ys,1≤p.2∧0≤p.1.1∧p.1.1≤deep∧0≤p.1.2∧p.1.2<2 ^ (deep - p.1.1).toNat:=fun p hp=>⟨h.pos p hp,h.kok.st p.1 (List.mem_map.mpr ⟨p,hp,rfl⟩)⟩
theorem look_add:∀{ys xs:Sps} (k:Int×Int),(ys.map (·.1)).Nodup→lookO (addS xs ys) k=if k∈ys.map (·.1) then some (.int (cnt xs k+cnt ys k)) else lookO xs k
 | [],xs,k,_=>by
  rw [List.map_nil,if_neg List.not_mem_nil]
  rfl
 | p::ys,xs,k,nd=>by
  rw [List.map_cons,List.nodup_cons] at nd
  rw [add_cons,look_add k nd.2,List.map_cons]
  have cp:cnt (p::ys) k=if p.1=k then p.2 else cnt ys k:=by
   unfold cnt
   rw [look_cons]
   split <;> rename_i e
   ·split at e <;> rename_i z
    ·rw [if_pos z];injection e with e;injection e with e;exact e.symm
    ·rw [if_neg z,e]
   ·split at e <;> rename_i z
    ·exact absurd rfl (e p.2)
    ·rw [if_neg z]
     split
     ·rename_i n q;exact absurd q (e n)
     ·rfl
  by_cases e:p.1=k
  ·have hk:k∉ys.map (·.1):=by rw [←e];exact nd.1
   rw [if_neg hk,look_put,if_pos e.symm,if_pos (show k∈p.1::ys.map (·.1) by rw [e];exact .head _),cp,if_pos e,e]
  ·rw [cp,if_neg e]
   by_cases hk:k∈ys.map (·.1)
   ·rw [if_pos hk,if_pos (List.mem_cons_of_mem _ hk),cnt_put,if_neg (Ne.symm e)]
   ·rw [if_neg hk,if_neg (fun q=>(List.mem_cons.mp q).elim (fun z=>e z.symm) hk),look_put,if_neg (Ne.symm e)]
noncomputable def mrgL (room deep:Int) (xs ys:Sps):Sps:=setl deep (sumS (addS xs ys) / room) (addS xs ys)
structure Lok (room deep:Int) (xs:Sps):Prop where
 pok:Pok deep xs
 srt:srtP2 xs=xs
 nof:Nof deep (sumS xs / room) xs
theorem lok_nil {room deep:Int}:Lok room deep []:=⟨pok_nil,by unfold srtP2;simp,fun _ h=>nomatch h⟩
theorem lok_setl {room deep:Int} {ps:Sps} (o:Pok deep ps):Lok room deep (setl deep (sumS ps / room) ps):=by
 obtain ⟨a,b,c,d,_⟩:=setl_facts (bar:=sumS ps / room) o
 exact ⟨a,b,by rw [d];exact c⟩
theorem mrgL_ok {room deep:Int} {xs ys:Sps} (hx:Pok deep xs) (hy:Pok deep ys):Lok room deep (mrgL room deep xs ys)∧sumS (mrgL room deep xs ys)=sumS xs+sumS ys∧(mrgL room deep xs ys).length≤xs.length+ys.length:=by
 have o:=add_pok hx hy.each
 obtain ⟨a,b,c,d,e⟩:=setl_facts (bar:=sumS (addS xs ys) / room) o
 exact ⟨lok_setl o,by unfold mrgL;rw [d,add_sum hx.kok.nd],Nat.le_trans e (add_len ys xs)⟩
noncomputable def thL (room deep:Int) (t:Th):Sps:=setl deep (t.many / room) [((0,t.num),t.many)]
noncomputable def ladS (room deep:Int) (ts:List Th):Sps:=ts.foldl (fun a t=>mrgL room deep a (thL room deep t)) []
noncomputable def ThL (deep:Int) (t:Th):Prop:=0≤t.num∧t.num<2 ^ deep.toNat∧1≤t.many
theorem one_pok {deep:Int} {t:Th} (d0:0≤deep) (h:ThL deep t):Pok deep [((0,t.num),t.many)]:=by
 refine ⟨⟨List.nodup_cons.mpr ⟨List.not_mem_nil,List.nodup_nil⟩,fun k hk=>?_⟩,fun p hp=>?_⟩
 ·have e:k=(0,t.num):=List.mem_singleton.mp hk
  rw [e]
  refine ⟨Int.le_refl _,d0,h.1,?_⟩
  show t.num<2 ^ (deep - 0).toNat
  rw [Int.sub_zero]
  exact h.2.1
 ·rw [List.mem_singleton.mp hp]
  exact h.2.2
theorem sum_one (t:Th):sumS [((0,t.num),t.many)]=t.many:=by
 show t.many+0=t.many
 omega
theorem thL_ok {room deep:Int} {t:Th} (d0:0≤deep) (h:ThL deep t):Lok room deep (thL room deep t)∧sumS (thL room deep t)=t.many∧(thL room deep t).length≤1:=by
 have o:=one_pok d0 h
 have l:=lok_setl (room:=room) o
 obtain ⟨a,b,c,d,e⟩:=setl_facts (bar:=t.many / room) o
 rw [sum_one] at l d
 exact ⟨l,d,e⟩
noncomputable def manyS (ts:List Th):Int:=(ts.map (·.many)).sum
end Ld
namespace K33
open PySem L2 Ld
noncomputable def KAt (H:Hp) (p:Addr) (k:Int×Int):Prop:=H p=some (.tup [.int k.1,.int k.2])
noncomputable def NsAt (H:Hp):List V→List (Int×Int)→Prop:=Paired fun x p=>∃c:Addr,x=.ref c∧KAt H c p
structure LadAt (H:Hp) (q:Addr) (room deep total:Int) (ps:Sps):Prop where
 at_:∃(c:Addr) (as:List Addr),H q=some (.tup [.int room,.int deep,.ref c,.int total])∧H c=some (.tup (as.map V.ref))∧Paired (FT H) as ps
theorem ft_mono {H H':Hp} (g:Same H H') {a:Addr} {p:(Int×Int)×Int} (h:FT H a p):FT H' a p:=let ⟨b,e1,e2⟩:=h;⟨b,g _ _ e1,g _ _ e2⟩
theorem LadAt.mono {H H':Hp} (g:Same H H') {q:Addr} {room deep total:Int} {ps:Sps} (h:LadAt H q room deep total ps):LadAt H' q room deep total ps:=let ⟨c,as,e1,e2,r⟩:=h.at_;⟨c,as,g _ _ e1,g _ _ e2,Paired.mapP r fun _ _ f=>ft_mono g f⟩
theorem ft_get {H:Hp}:∀{as:List Addr} {ps:Sps} {j:Nat} {x:V},Paired (FT H) as ps→(as.map V.ref)[j]?=some x→∃a p,x=.ref a∧ps[j]?=some p∧FT H a p
 | _,_,_,_,.nil,e=>by simp at e
 | _,_,0,_,.cons h _,e=>by
  rw [List.map_cons,List.getElem?_cons_zero] at e
  cases e
  exact ⟨_,_,rfl,rfl,h⟩
 | _,_,j+1,_,.cons _ r,e=>ft_get (j:=j) r (by simpa using e)
theorem get_int {H:Hp} {d b:Addr} {ps:Sps} {k:Int×Int} (e:H d=some (.dT (tvOf ps))) (eb:KAt H b k):DGet H d (.ref b) (lookO ps k):=DGet.t e eb
theorem ks_get {H:Hp}:∀{bs:List Addr} {ks:List (Int×Int)} {j:Nat} {x:V},KsAt H bs ks→(bs.map V.ref)[j]?=some x→∃b k,x=.ref b∧ks[j]?=some k∧KAt H b k
 | _,_,_,_,.nil,e=>by simp at e
 | _,_,0,_,.cons h _,e=>by
  rw [List.map_cons,List.getElem?_cons_zero] at e
  cases e
  exact ⟨_,_,rfl,rfl,h⟩
 | _,_,j+1,_,.cons _ r,e=>ks_get (j:=j) r (by simpa using e)
theorem grw_laidD {H:Hp} {d q:Addr} {o u:HO} (e:H d=some u) (n:H q=none):Grw d H (upd H q o):=fun b w h=>by
 obtain ⟨h1,h2⟩:=hide_some h
 rw [hide_ne h1,upd_ne (ne_of_none h2 n)]
 exact h2
noncomputable def spParent:Sp:=fun vs H Q _=>∃(p:Addr) (k:Int×Int),vs=[.ref p]∧KAt H p k∧∀q,H q=none→Q (.ref q) (upd H q (.tup [.int (par1 k).1,.int (par1 k).2]))
theorem even_of (i:Int):i - i % 2=2 * (i / 2):=by omega
theorem lex_half {a b:Int×Int} (h:leK a b=true):a.1<b.1∨(a.1=b.1∧a.2 / 2≤b.2 / 2):=by
 rcases leK_iff.mp h with h | ⟨h,g⟩
 ·exact .inl h
 ·exact .inr ⟨h,by omega⟩
theorem pw_at {α:Type} {R:α→α→Prop} {l:List α} (h:l.Pairwise R) {i j:Nat} {a b:α} (ha:l[i]?=some a) (hb:l[j]?=some b) (ij:i<j):R a b:=by
 obtain ⟨hi,rfl⟩:=List.getElem?_eq_some_iff.mp ha
 obtain ⟨hj,rfl⟩:=List.getElem?_eq_some_iff.mp hb
 exact List.pairwise_iff_getElem.mp h i j hi hj ij
noncomputable def fst1 (k:Int×Int):Int:=k.2 * 2 ^ k.1.toNat
noncomputable def lst1 (k:Int×Int):Int:=(k.2+1) * 2 ^ k.1.toNat - 1
noncomputable def spFirst:Sp:=fun vs H Q _=>∃(p:Addr) (k:Int×Int),vs=[.ref p]∧KAt H p k∧0≤k.1∧k.1≤20∧0≤k.2∧k.2≤1000001∧Q (.int (fst1 k)) H
noncomputable def spLast:Sp:=fun vs H Q _=>∃(p:Addr) (k:Int×Int),vs=[.ref p]∧KAt H p k∧0≤k.1∧k.1≤20∧0≤k.2∧k.2≤1000000∧∀H',Same H H'→Q (.int (lst1 k)) H'
noncomputable def spIsWhole:Sp:=fun vs H Q _=>∃(x:V) (T:String),vs=[x]∧Kd H x T∧Q (.bl (whV x)) H
noncomputable def spWF:Sp:=fun vs H Q _=>∃(x:V) (T:String) (l:Int),vs=[x,.int l]∧Kd H x T∧Q (.bl (wF x l)) H
noncomputable def spWW:Sp:=fun vs H Q _=>∃(i l m:Int),vs=[.int i,.int l,.int m]∧Q (.bl (decide (l≤i) && decide (i≤m))) H
section
variable {P:Program} {w:World} {K:PySem.W.Frag} {mg:Str→Option Value} {base:Heap} {f:Addr} {fd:FuncData}
theorem ok_parent (F:Fun K "parent_of" "parent_of" s_parent_of f fd):FnOk P w K mg base CX0 1 f fd ["stretch"] spParent:=by
 refine F.ok sc_parent_of (fun vs H Q E h=>?_) (fun cdv A outer s H vs Q E hr h=>?_)
 ·obtain ⟨p,k,rfl,_⟩:=h
  rfl
 obtain ⟨p,k,rfl,e,hq⟩:=h
 refine ⟨_,(@pss_cons _ _ _ _ _ (ps_asg (pv 0) (pg_tup rfl (pgs_cons (pg_name (i:=1) sc_parent_of.nd rfl (Or.inl rfl)) (pgs_cons (pg_name (i:=2) sc_parent_of.nd rfl (Or.inl rfl)) pgs_nil))))
 (@pss_one _ _ _ (@ps_ret _ _ _ _ (@pe_tup _ _ _ _ _ (@pa_cons _ _ _ _ _ (@pe_op _ _ _ _ _ _ _ _ op_add (pv 1) pe_int) (@pa_cons _ _ _ _ _ (@pe_op _ _ _ _ _ _ _ _ op_fdiv (pv 2) pe_int) pa_nil (by rfl)) (by rfl)))))),?_⟩
 exact ⟨_,rfl,p,_,rfl,SqT.of e,rfl,_,_,rfl,_,_,rfl,rfl,_,rfl,_,_,rfl,rfl,_,rfl,_,_,rfl,rfl,⟨by decide,by decide⟩,leN rfl,hq⟩
theorem ok_first (F:Fun K "first_of" "first_of" s_first_of f fd):FnOk P w K mg base CX0 1 f fd ["stretch"] spFirst:=by
 refine F.ok sc_first_of (fun vs H Q E h=>?_) (fun cdv A outer s H vs Q E hr h=>?_)
 ·obtain ⟨p,k,rfl,_⟩:=h
  rfl
 obtain ⟨p,k,rfl,e,h0,h1,i0,i1,hq⟩:=h
 refine ⟨_,(@pss_cons _ _ _ _ _ (ps_asg (pv 0) (pg_tup rfl (pgs_cons (pg_name (i:=1) sc_first_of.nd rfl (Or.inl rfl)) (pgs_cons (pg_name (i:=2) sc_first_of.nd rfl (Or.inl rfl)) pgs_nil))))
 (@pss_one _ _ _ (@ps_ret _ _ _ _ (@pe_op _ _ _ _ _ _ _ _ op_shl (pv 2) (pv 1))))),?_⟩
 exact ⟨_,rfl,p,_,rfl,SqT.of e,rfl,_,_,rfl,_,_,rfl,rfl,_,rfl,_,rfl,_,_,rfl,rfl,⟨by omega,by omega,by omega⟩,hq⟩
theorem ok_last (h_first_of:Has P w K mg base "first_of" 1 ["stretch"] spFirst) (F:Fun K "last_of" "last_of" s_last_of f fd):FnOk P w K mg base CX0 2 f fd ["stretch"] spLast:=by
 refine F.ok sc_last_of (fun vs H Q E h=>?_) (fun cdv A outer s H vs Q E hr h=>?_)
 ·obtain ⟨p,k,rfl,_⟩:=h
  rfl
 obtain ⟨p,k,rfl,e,h0,h1,i0,i1,hq⟩:=h
 refine ⟨_,(@pss_cons _ _ _ _ _ (ps_asg (pv 0) (pg_tup rfl (pgs_cons (pg_name (i:=1) sc_last_of.nd rfl (Or.inl rfl)) (pgs_cons (pg_name (i:=2) sc_last_of.nd rfl (Or.inl rfl)) pgs_nil))))
 (@pss_one _ _ _ (@ps_ret _ _ _ _ (@pe_op _ _ _ _ _ _ _ _ op_sub (pe_callH h_first_of hr (@pa_cons _ _ _ _ _ (@pe_tup _ _ _ _ _ (@pa_cons _ _ _ _ _ (pv 1) (@pa_cons _ _ _ _ _ (@pe_op _ _ _ _ _ _ _ _ op_add (pv 2) pe_int) pa_nil (by rfl)) (by rfl))) pa_nil (by rfl))) pe_int)))),?_⟩
 exact ⟨_,rfl,p,_,rfl,SqT.of e,rfl,_,_,rfl,_,_,rfl,rfl,_,rfl,_,rfl,_,_,rfl,rfl,leN rfl,fun q nq=>⟨q,(k.1,k.2+1),rfl,upd_same,h0,h1,by show 0≤k.2+1;omega,by show k.2+1≤_;omega,_,_,rfl,rfl,hq _ (same_laid nq _)⟩⟩
theorem ok_is_whole (z_isinstance:mg "isinstance"=none) (z_int:mg "int"=none) (z_bool:mg "bool"=none) (F:Fun K "is_whole" "is_whole" s_is_whole f fd):FnOk P w K mg base CX0 1 f fd ["thing"] spIsWhole:=by
 refine F.ok sc_is_whole (fun vs H Q E h=>?_) (fun cdv A outer s H vs Q E hr h=>?_)
 ·obtain ⟨x,T,rfl,_⟩:=h
  rfl
 obtain ⟨x,T,rfl,hk,hq⟩:=h
 refine ⟨_,(@pss_one _ _ _ (@ps_ret _ _ _ _ (@pe_and _ _ _ _ _ _ _ (pe_callB call_is rfl z_isinstance PyProof.Rows.boot_isinstance (@pa_cons _ _ _ _ _ (pv 0) (@pa_cons _ _ _ _ _ (pe_bltn (v:=.ty "int") rfl z_int PyProof.Rows.boot_int rfl) pa_nil (by rfl)) (by rfl))) (@pe_one _ _ _ _ _ (@pe_not _ _ _ _ (pe_callB call_is rfl z_isinstance PyProof.Rows.boot_isinstance (@pa_cons _ _ _ _ _ (pv 0) (@pa_cons _ _ _ _ _ (pe_bltn (v:=.ty "bool") rfl z_bool PyProof.Rows.boot_bool rfl) pa_nil (by rfl)) (by rfl)))))))),?_⟩
 rw [←hk.wh] at hq
 refine ⟨_,rfl,_,_,"int",_,rfl,hk.ty,hk.kit (by decide) rfl,_,rfl,?_⟩
 refine ite2 (fun c=>?_) (fun c=>?_)
 ·refine ⟨_,rfl,_,_,"bool",_,rfl,hk.ty,hk.kit (by decide) rfl,_,rfl,?_⟩
  rw [c,Bool.true_and] at hq
  exact hq
 ·rw [Bool.eq_false_iff.mpr c,Bool.false_and] at hq
  exact hq
theorem ok_is_whole_from (h_is_whole:Has P w K mg base "is_whole" 1 ["thing"] spIsWhole) (F:Fun K "is_whole_from" "is_whole_from" s_is_whole_from f fd):FnOk P w K mg base CX0 2 f fd ["thing","least"] spWF:=by
 refine F.ok sc_is_whole_from (fun vs H Q E h=>?_) (fun cdv A outer s H vs Q E hr h=>?_)
 ·obtain ⟨x,T,l,rfl,_⟩:=h
  rfl
 obtain ⟨x,T,l,rfl,hk,hq⟩:=h
 refine ⟨_,(@pss_one _ _ _ (@ps_ret _ _ _ _ (@pe_and _ _ _ _ _ _ _ (pe_callH h_is_whole hr (@pa_cons _ _ _ _ _ (pv 0) pa_nil (by rfl))) (@pe_one _ _ _ _ _ (@pe_cmpR _ _ _ _ _ _ _ _ op_ge (pv 0) (pv 1) (nomark _)))))),?_⟩
 refine ⟨_,rfl,x,T,rfl,hk,_,rfl,?_⟩
 cases x with
 | int i=>exact iteT ⟨_,rfl,_,rfl,_,_,rfl,rfl,hq⟩
 | _=>exact iteF hq
theorem ok_is_whole_within (h_is_whole_from:Has P w K mg base "is_whole_from" 2 ["thing","least"] spWF) (F:Fun K "is_whole_within" "is_whole_within" s_is_whole_within f fd):FnOk P w K mg base CX0 3 f fd ["thing","least","most"] spWW:=by
 refine F.ok sc_is_whole_within (fun vs H Q E h=>?_) (fun cdv A outer s H vs Q E hr h=>?_)
 ·obtain ⟨i,l,m,rfl,_⟩:=h
  rfl
 obtain ⟨i,l,m,rfl,hq⟩:=h
 refine ⟨_,(@pss_one _ _ _ (@ps_ret _ _ _ _ (@pe_and _ _ _ _ _ _ _ (pe_callH h_is_whole_from hr (@pa_cons _ _ _ _ _ (pv 0) (@pa_cons _ _ _ _ _ (pv 1) pa_nil (by rfl)) (by rfl))) (@pe_one _ _ _ _ _ (@pe_cmpR _ _ _ _ _ _ _ _ op_le (pv 0) (pv 2) (nomark _)))))),?_⟩
 refine ⟨_,rfl,_,rfl,.int i,"int",l,rfl,.int _,_,rfl,?_⟩
 refine ite2 (fun c=>?_) (fun c=>?_)
 ·have c:decide (l≤i)=true:=c
  rw [c,Bool.true_and] at hq
  exact ⟨_,rfl,_,rfl,_,_,rfl,rfl,hq⟩
 ·have c:decide (l≤i)=false:=Bool.eq_false_iff.mpr c
  rw [c,Bool.false_and] at hq
  exact hq
end
end K33
namespace K33
open PySem L2 Ld
noncomputable def foldG (ps:Sps) (k:Int×Int) (m:Int):Sps:=if cnt ps k - m=0 then dropS (putS (putS ps (par1 k) (cnt ps (par1 k)+m)) k (cnt ps k - m)) k else putS (putS ps (par1 k) (cnt ps (par1 k)+m)) k (cnt ps k - m)
noncomputable def stdR (ts:List Th):Sps:=ts.map fun t=>((0,t.num),t.many)
noncomputable def stdS (ts:List Th):Sps:=addS [] (stdR ts)
noncomputable def PprAt (H:Hp) (p:Addr) (ps:Sps):Prop:=∃as:List Addr,H p=some (.lst (as.map V.ref))∧Paired (FT H) as ps
theorem PprAt.mono {H H':Hp} {p:Addr} {ps:Sps} (g:Same H H') (h:PprAt H p ps):PprAt H' p ps:=let ⟨as,e,r⟩:=h;⟨as,g _ _ e,Paired.mapP r fun _ _ f=>ft_mono g f⟩
noncomputable def eqB (ps qs:Sps):Bool:=decide (ps.length=qs.length) && ps.all fun p=>decide (p∈qs)
noncomputable def chkP (deep:Int) (qs:Sps):Sps→Sps→Bool
 | ps,[]=>eqB ps qs
 | ps,(k,m)::r=>if m<1∨deep≤k.1∨cnt ps k<m then false else chkP deep qs (foldG ps k m) r
noncomputable def inB (deep:Int) (k:Int×Int):Bool:=decide (0≤k.2) && decide (k.2≤2 ^ deep.toNat - 1)
noncomputable def fldB (deep total:Int) (ts:List Th) (qs paper:Sps):Bool:=decide (manyS ts=total) && ((stdS ts).all fun e=>inB deep e.1) && chkP deep qs (stdS ts) paper
noncomputable def spFoldG:Sp:=fun vs H Q _=>∃(d p:Addr) (ps:Sps) (k:Int×Int) (m:Int),vs=[.ref d,.ref p,.int m]∧H d=some (.dT (tvOf ps))∧KAt H p k∧k∈ps.map (·.1)∧ps.length<100000∧∀(H':Hp),Grw d H H'→H' d=some (.dT (tvOf (foldG ps k m)))→Q .non H'
noncomputable def spAddL:Sp:=fun vs H Q _=>∃(c1 c2:Addr) (bs:List Addr) (ys:Sps),vs=[.ref c1,.ref c2]∧H c1=some (.tup [])∧H c2=some (.lst (bs.map V.ref))∧Paired (FT H) bs ys∧ys.length≤1000∧∀(d:Addr) (H':Hp),H d=none→Same H H'→H' d=some (.dT (tvOf (addS [] ys)))→Q (.ref d) H'
noncomputable def spThs:Sp:=fun vs H Q _=>∃(r:Addr) (ts:List Th),vs=[.ref r]∧DV H (.ref r) (strD ts)∧ts.length≤1000∧∀H',Same H H'→Q (.int (manyS ts)) H'
noncomputable def spStd:Sp:=fun vs H Q _=>∃(r:Addr) (ts:List Th),vs=[.ref r]∧DV H (.ref r) (strD ts)∧ts.length≤1000∧∀(d:Addr) (H':Hp),H d=none→Same H H'→H' d=some (.dT (tvOf (stdS ts)))→Q (.ref d) H'
noncomputable def spStr:Sp:=fun vs H Q _=>∃(p:Addr) (n deep:Int),vs=[.ref p,.int deep]∧KAt H p (0,n)∧0≤deep∧deep≤20∧∀H',Same H H'→Q (.bl (inB deep (0,n))) H'
noncomputable def spFolded:Sp:=fun vs H Q _=>∃(r q p:Addr) (ts:List Th) (room deep total:Int) (qs paper:Sps),vs=[.ref r,.ref q,.ref p]∧DV H (.ref r) (strD ts)∧ts.length≤1000∧LadAt H q room deep total qs∧(qs.map (·.1)).Nodup∧qs.length≤400∧0≤deep∧deep≤20∧PprAt H p paper∧paper.length≤20000∧∀H',Same H H'→Q (.bl (fldB deep total ts qs paper)) H'
theorem fresh_grw {p:Addr} {H0 H1 H2:Hp} (n:H0 p=none) (s:Same H0 H1) (g:Grw p H1 H2):Same H0 H2:=fun b u e=>(hide_some (g b u (by rw [hide_ne (ne_of_none e n)];exact s b u e))).2
theorem foldG_len (ps:Sps) (k:Int×Int) (m:Int):(foldG ps k m).length≤ps.length+2:=by
 have a:=put_len ps (par1 k) (cnt ps (par1 k)+m)
 have b:=put_len (putS ps (par1 k) (cnt ps (par1 k)+m)) k (cnt ps k - m)
 unfold foldG
 split
 ·have:=drop_len (putS (putS ps (par1 k) (cnt ps (par1 k)+m)) k (cnt ps k - m)) k
  omega
 ·omega
theorem nd_tv {ps:Sps} (nd:(ps.map (·.1)).Nodup):((tvOf ps).map (·.1)).Nodup:=by
 rw [tvOf_keys]
 exact List.pairwise_map.mpr (nd.imp fun h e=>h (kk_inj e))
section
variable {P:Program} {w:World} {K:PySem.W.Frag} {mg:Str→Option Value} {base:Heap} {f:Addr} {fd:FuncData}
theorem ok_foldG (h_parent_of:Has P w K mg base "parent_of" 1 ["stretch"] spParent) (F:Fun K "fold_up" "fold_up" s_fold_up f fd):FnOk P w K mg base CX0 2 f fd ["counts","stretch","many"] spFoldG:=by
 refine F.ok sc_fold_up (fun vs H Q E h=>?_) (fun cdv A outer s H vs Q E hr h=>?_)
 ·obtain ⟨d,p,ps,k,m,rfl,_⟩:=h
  rfl
 obtain ⟨d,p,ps,k,m,rfl,e_d,e_p,hk,pl,hq⟩:=h
 have lk:=look_key hk
 obtain ⟨c,hc⟩:∃c,c=cnt ps k:=⟨_,rfl⟩
 rw [←hc] at lk
 unfold foldG at hq
 rw [←hc] at hq
 refine ⟨_,(@pss_cons _ _ _ _ _ (@ps_set _ _ 3 _ _ _ _ sc_fold_up.nd rfl (Or.inl rfl) (pe_callH h_parent_of hr (@pa_cons _ _ _ _ _ (pv 1) pa_nil (by rfl))) (by rfl) (by first | exact .inl rfl | exact .inr rfl)) pss_run),?_⟩
 refine ⟨_,rfl,p,k,rfl,e_p,fun q nq=>?_⟩
 have g1:=grw_laidD (o:=.tup [.int (par1 k).1,.int (par1 k).2]) e_d nq
 have s1:=same_laid nq (.tup [.int (par1 k).1,.int (par1 k).2])
 have e_q:KAt (upd H q (.tup [.int (par1 k).1,.int (par1 k).2])) q (par1 k):=upd_same
 have e_d:=s1 _ _ e_d
 have e_p:KAt _ p k:=s1 _ _ e_p
 generalize upd H q (.tup [.int (par1 k).1,.int (par1 k).2])=H1 at g1 e_q e_d e_p ⊢
 have tupd:∀{H:Hp} {b:Addr} {j:Int×Int} {kvs:List (List Key×V)} {o:HO},H d=some (.dT kvs)→KAt H b j→KAt (upd H d o) b j:=fun {H b j kvs o} e eb=>by
  show upd H d o b=_
  rw [upd_ne (ne_of eb e (by intro z;cases z))]
  exact eb
 refine ⟨_,(@pss_cons _ _ _ _ _ (ps_dput (hu_of hr) (pv 0) (pv 3) (@pe_op _ _ _ _ _ _ _ _ op_add (pe_dget2 (hu_of hr) (pv 0) (pv 3) pe_int ⟨rfl,rfl,rfl,rfl⟩) (pv 2)) rfl) pss_run),?_⟩
 obtain ⟨n0,hn0,h0⟩:∃n,n=cnt ps (par1 k)∧(lookO ps (par1 k)).getD (.int 0)=.int n:=⟨_,rfl,cnt_look _ _⟩
 rw [←hn0] at hq
 have l1:=put_len ps (par1 k) (n0+m)
 refine ⟨_,rfl,d,rfl,.inr ⟨_,.inl e_d⟩,_,rfl,_,get_int e_d e_q,_,rfl,n0,m,h0,rfl,_,rfl,_,rfl,d,_,rfl,DPut.t (k:=kk (par1 k)) e_d e_q (small_lt (by rw [tvOf_len];omega)),?_⟩
 have g2:Grw d H (upd H1 d (.dT (putK (tvOf ps) (kk (par1 k)) (.int (n0+m))))):=g1.trans grw_upd
 have e_p2:=tupd (o:=.dT (putK (tvOf ps) (kk (par1 k)) (.int (n0+m)))) e_d e_p
 have e_d2:(upd H1 d (.dT (putK (tvOf ps) (kk (par1 k)) (.int (n0+m))))) d=some (.dT (tvOf (putS ps (par1 k) (n0+m)))):=by rw [←put_tv];exact upd_same
 generalize upd H1 d (.dT (putK (tvOf ps) (kk (par1 k)) (.int (n0+m))))=H2 at g2 e_p2 e_d2 ⊢
 refine ⟨_,(@pss_cons _ _ _ _ _ (ps_dput (hu_of hr) (pv 0) (pv 1) (@pe_op _ _ _ _ _ _ _ _ op_sub (pe_dget (hu_of hr) (pv 0) (pv 1) (fun _ _=>rfl)) (pv 2)) rfl) pss_run),?_⟩
 have lk2:lookO (putS ps (par1 k) (n0+m)) k=some (.int c):=by rw [look_put,if_neg (par_ne k)];exact lk
 generalize putS ps (par1 k) (n0+m)=qs at hq e_d2 lk2 l1
 have l2:=put_len qs k (c - m)
 refine ⟨_,rfl,_,rfl,d,.int c,rfl,by rw [←lk2];exact get_int e_d2 e_p2,_,rfl,_,_,rfl,rfl,_,rfl,_,rfl,d,_,rfl,DPut.t (k:=kk k) e_d2 e_p2 (small_lt (by rw [tvOf_len];omega)),?_⟩
 have g3:Grw d H (upd H2 d (.dT (putK (tvOf qs) (kk k) (.int (c - m))))):=g2.trans grw_upd
 have e_p3:=tupd (o:=.dT (putK (tvOf qs) (kk k) (.int (c - m)))) e_d2 e_p2
 have e_d3:(upd H2 d (.dT (putK (tvOf qs) (kk k) (.int (c - m))))) d=some (.dT (tvOf (putS qs k (c - m)))):=by rw [show tvOf (putS qs k (c - m))=putK (tvOf qs) (kk k) (.int (c - m)) from (put_tv _ _ _).symm];exact upd_same
 generalize upd H2 d (.dT (putK (tvOf qs) (kk k) (.int (c - m))))=H3 at g3 e_p3 e_d3 ⊢
 refine ⟨_,(@pss_one _ _ _ (@ps_if _ _ _ _ _ _ _ _ (@pt_cmpR _ _ _ _ _ _ _ _ op_eq (pe_dget (hu_of hr) (pv 0) (pv 1) (fun _ _=>rfl)) pe_int (nomark _)) (@pss_one _ _ _ (ps_expr (pe_bm PySem.F.plainAttrs_dict PySem.F.slot_dict_pop PySem.F.type_dict_pop (mt_popT hr.units) (pv 0) (@pa_cons _ _ _ _ _ (pv 1) pa_nil (by rfl))))) pss_nil)),?_⟩
 have lk3:lookO (putS qs k (c - m)) k=some (.int (c - m)):=by rw [look_put,if_pos rfl]
 generalize putS qs k (c - m)=rs at hq e_d3 lk3 l2
 refine ⟨_,rfl,_,rfl,d,.int (c - m),rfl,by rw [←lk3];exact get_int e_d3 e_p3,rfl,_,rfl,ite2 (fun z=>?_) (fun z=>?_)⟩
 ·have z:c - m=0:=by simpa using z
  rw [if_pos z] at hq
  refine ⟨_,rfl,tyV_dT e_d3,_,rfl,d,p,_,kk k,_,rfl,rfl,e_d3,e_p3,lk3,?_⟩
  refine hq _ (g3.trans grw_upd) ?_
  rw [←drop_tv]
  exact upd_same
 ·have z:¬(c - m=0):=by simpa using z
  rw [if_neg z] at hq
  exact hq _ g3 e_d3
theorem ok_addL (z_dict:mg "dict"=none) (F:Fun K "added_counts" "added_counts" s_added_counts f fd):FnOk P w K mg base CX0 1 f fd ["one","other"] spAddL:=by
 refine F.ok sc_added_counts (fun vs H Q E h=>?_) (fun cdv A outer s H vs Q E hr h=>?_)
 ·obtain ⟨c1,c2,bs,ys,rfl,_⟩:=h
  rfl
 obtain ⟨c1,c2,bs,ys,rfl,e1,e2,p2,xl,hq⟩:=h
 refine ⟨_,(@pss_cons _ _ _ _ _ (@ps_set _ _ 2 _ _ _ _ sc_added_counts.nd rfl (Or.inl rfl) (pe_callTy (call_dictTT rfl hr.units) rfl z_dict PyProof.Rows.boot_dict (@pa_cons _ _ _ _ _ (pv 0) pa_nil (by rfl))) (by rfl) (by first | exact .inl rfl | exact .inr rfl)) pss_run),?_⟩
 have nd:((tvOf []).map (·.1)).Nodup:=List.nodup_nil
 refine ⟨_,rfl,c1,_,tvOf [],rfl,e1,ft_tps (as:=[]) .nil,by rw [tvOf_len];exact Nat.zero_le _,fun d n_d=>?_⟩
 rw [mrgTV_nd nd]
 have sm:=same_laid n_d (.dT (tvOf []))
 have ed:(upd H d (.dT (tvOf []))) d=some (.dT (tvOf [])):=upd_same
 generalize upd H d (.dT (tvOf []))=H1 at sm ed ⊢
 have bl:=Paired.length p2
 refine ⟨_,(@pss_cons _ _ _ _ _ (ps_for PassesOwn.never rfl (pi_list (pv 1)) (pg_tup rfl (pgs_cons (pg_name (i:=3) sc_added_counts.nd rfl (Or.inl rfl)) (pgs_cons (pg_name (i:=4) sc_added_counts.nd rfl (Or.inl rfl)) pgs_nil)))
 (@pss_one _ _ _ (ps_dput (hu_of hr) (pv 2) (pv 3) (@pe_op _ _ _ _ _ _ _ _ op_add (pe_dget2 (hu_of hr) (pv 2) (pv 3) pe_int ⟨rfl,rfl,rfl,rfl⟩) (pv 4)) rfl))) pss_run),?_⟩
 refine ⟨_,rfl,c2,rfl,⟨_,SqL.of (sm _ _ e2)⟩,?_⟩
 refine for_listH (xs:=bs.map V.ref) (fun i σ H'=>∃(o3 o4:Option V),σ=[some (.ref c1),some (.ref c2),some (.ref d),o3,o4]∧Same H H'∧H' d=some (.dT (tvOf (addS [] (ys.take i))))∧(addS [] (ys.take i)).length≤i) ⟨_,_,rfl,sm,ed,Nat.le_refl _⟩ ?_ ?_ ?_
 ·rintro i σ H' _ ⟨_,_,_,g,_⟩
  exact SqL.of (g _ _ e2)
 ·rintro i x σ H' N B1 R hN hR hx ⟨o3,o4,rfl,g,ed,al⟩
  obtain ⟨a,p,rfl,hp,b,e_a,e_b⟩:=ft_get p2 hx
  have il:i<ys.length:=(List.getElem?_eq_some_iff.mp hp).1
  have e_a:=g _ _ e_a
  have e_b:KAt H' b p.1:=g _ _ e_b
  have st:addS [] (ys.take (i+1))=putS (addS [] (ys.take i)) p.1 (cnt (addS [] (ys.take i)) p.1+p.2):=by rw [take_one hp,add_snoc]
  rw [st] at hN
  generalize addS [] (ys.take i)=zs at ed al hN
  have l1:=put_len zs p.1 (cnt zs p.1+p.2)
  refine ⟨a,_,rfl,SqT.of e_a,rfl,_,_,rfl,_,_,rfl,rfl,?_⟩
  refine ⟨_,rfl,d,rfl,.inr ⟨_,.inl ed⟩,_,rfl,_,get_int ed e_b,_,rfl,_,p.2,cnt_look _ _,rfl,_,rfl,_,rfl,d,_,rfl,DPut.t (k:=kk p.1) ed e_b (small_lt (by rw [tvOf_len];omega)),?_⟩
  refine hN _ _ ⟨_,_,rfl,fun x w e=>?_,by rw [←put_tv];exact upd_same,by omega⟩
  rw [upd_ne (ne_of_none e n_d)]
  exact g _ _ e
 ·rintro σ H' ⟨o3,o4,rfl,g,ed,_⟩
  rw [List.length_map,bl,List.take_length] at ed
  exact ⟨_,(@pss_one _ _ _ (@ps_ret _ _ _ _ (pv 2))),_,rfl,hq d _ n_d g ed⟩
theorem ok_ths (z_sum:mg "sum"=none) (F:Fun K "things_in" "things_in" s_things_in f fd):FnOk P w K mg base CX0 1 f fd ["stream"] spThs:=by
 refine F.ok sc_things_in (fun vs H Q E h=>?_) (fun cdv A outer s H vs Q E hr h=>?_)
 ·obtain ⟨r,ts,rfl,_⟩:=h
  rfl
 obtain ⟨r,ts,rfl,hd,tl,hq⟩:=h
 refine ⟨_,(@pss_one _ _ _ (@ps_ret _ _ _ _ (pe_callB (call_sum rfl) rfl z_sum PyProof.Rows.boot_sum (@pa_cons _ _ _ _ _ (pe_comp (own:=["day","mark","number","many"]) (CompOk.of rfl rfl (by rfl) (by rfl) (by rfl)) (pi_list (pv 0))
  (fun _ _ _ _ _=>(pg_tupK K 4 rfl rfl (pgs_cons (pg_name (i:=0) nd_things_in_37_15 rfl (Or.inl rfl) (Or.inr rfl)) (pgs_cons (pg_name (i:=1) nd_things_in_37_15 rfl (Or.inl rfl) (Or.inr rfl)) (pgs_cons (pg_name (i:=2) nd_things_in_37_15 rfl (Or.inl rfl) (Or.inr rfl)) (pgs_cons (pg_name (i:=3) nd_things_in_37_15 rfl (Or.inl rfl) (Or.inr rfl)) pgs_nil)))))) (fun _ _ _ _ _=>pts_nil)
  (fun _ _ _ _ _=>(pv 3))) pa_nil (by rfl))))),?_⟩
 obtain ⟨_,xs,e0,e_r,ds⟩:=DV.list_inv hd
 cases e0
 refine ⟨_,rfl,r,rfl,⟨_,SqL.of e_r⟩,comp_stream (fun _=>true) (fun t=>.int t.many) e_r ds (by omega) ?_ ?_⟩
 ·rintro t c ys C mt ec h1 _
  exact ⟨c,_,rfl,SqT.of ec,rfl,_,_,rfl,_,_,rfl,_,_,rfl,_,_,rfl,rfl,Wk.refl _,_,rfl,h1 rfl⟩
 intro q nq
 refine ⟨q,ts.map Th.many,rfl,SqL.of ?_,hq _ (same_laid nq _)⟩
 rw [upd_same,List.filter_eq_self.mpr (fun _ _=>rfl),List.map_map]
 rfl
theorem ok_std (h_added_counts:Has P w K mg base "added_counts" 1 ["one","other"] spAddL) (F:Fun K "standing_of" "standing_of" s_standing_of f fd):FnOk P w K mg base CX0 2 f fd ["stream"] spStd:=by
 refine F.ok sc_standing_of (fun vs H Q E h=>?_) (fun cdv A outer s H vs Q E hr h=>?_)
 ·obtain ⟨r,ts,rfl,_⟩:=h
  rfl
 obtain ⟨r,ts,rfl,hd,tl,hq⟩:=h
 refine ⟨_,(@pss_one _ _ _ (@ps_ret _ _ _ _ (pe_callH h_added_counts hr (@pa_cons _ _ _ _ _ (@pe_tup _ _ _ _ _ pa_nil) (@pa_cons _ _ _ _ _ (pe_comp (own:=["day","mark","number","many"]) (CompOk.of rfl rfl (by rfl) (by rfl) (by rfl)) (pi_list (pv 0))
  (fun _ _ _ _ _=>(pg_tupK K 4 rfl rfl (pgs_cons (pg_name (i:=0) nd_standing_of_40_28 rfl (Or.inl rfl) (Or.inr rfl)) (pgs_cons (pg_name (i:=1) nd_standing_of_40_28 rfl (Or.inl rfl) (Or.inr rfl)) (pgs_cons (pg_name (i:=2) nd_standing_of_40_28 rfl (Or.inl rfl) (Or.inr rfl)) (pgs_cons (pg_name (i:=3) nd_standing_of_40_28 rfl (Or.inl rfl) (Or.inr rfl)) pgs_nil)))))) (fun _ _ _ _ _=>pts_nil)
  (fun _ _ _ _ _=>(@pe_tup _ _ _ _ _ (@pa_cons _ _ _ _ _ (@pe_tup _ _ _ _ _ (@pa_cons _ _ _ _ _ pe_int (@pa_cons _ _ _ _ _ (pv 2) pa_nil (by rfl)) (by rfl))) (@pa_cons _ _ _ _ _ (pv 3) pa_nil (by rfl)) (by rfl))))) pa_nil (by rfl)) (by rfl))))),?_⟩
 obtain ⟨_,xs,e0,e_r,ds⟩:=DV.list_inv hd
 cases e0
 have xl:=ds.length
 rw [List.length_map] at xl
 refine ⟨leN rfl,fun c n_c=>?_⟩
 have s1:=same_laid n_c (.tup [])
 have e_c:(upd H c (.tup [])) c=some (.tup []):=upd_same
 generalize upd H c (.tup [])=H1 at s1 e_c ⊢
 have e_r1:=s1 _ _ e_r
 refine ⟨_,rfl,r,rfl,⟨_,SqL.of e_r1⟩,?_⟩
 refine comp_list (xs:=xs) (fun n ys H'=>∃bs:List Addr,Same H1 H'∧ys=bs.map V.ref∧Paired (FT H') bs ((stdR ts).take n)) ⟨[],Same.refl _,rfl,.nil⟩ ?_ ?_ ?_
 ·rintro n ys H' _ ⟨_,g,_⟩
  exact SqL.of (g _ _ e_r1)
 ·rintro n x ys H' C hx ⟨bs,g,rfl,pr⟩ hC
  have nl:=(List.getElem?_eq_some_iff.mp hx).1
  obtain ⟨t,c',ht,rfl,ec,mt⟩:=DVs.th_at ds hx
  have ec:=g _ _ (s1 _ _ ec)
  have bl:=Paired.length pr
  rw [List.length_take] at bl
  refine ⟨small_lt (by rw [List.length_map];omega),c',_,rfl,SqT.of ec,rfl,_,_,rfl,_,_,rfl,_,_,rfl,_,_,rfl,rfl,Wk.refl _,_,rfl,leN rfl,fun a na=>?_⟩
  have g1:=same_laid na (.tup [.int 0,.int t.num])
  have e_a:KAt (upd H' a (.tup [.int 0,.int t.num])) a (0,t.num):=upd_same
  generalize upd H' a (.tup [.int 0,.int t.num])=H2 at g1 e_a ⊢
  refine ⟨_,rfl,leN rfl,fun b nb=>?_⟩
  have g2:=same_laid nb (.tup [.ref a,.int t.many])
  have e_b:(upd H2 b (.tup [.ref a,.int t.many])) b=some (.tup [.ref a,.int t.many]):=upd_same
  have e_a:KAt _ a (0,t.num):=g2 _ _ e_a
  generalize upd H2 b (.tup [.ref a,.int t.many])=H3 at g2 e_a e_b ⊢
  refine hC _ _ ⟨bs++[b],g.trans (g1.trans g2),by rw [List.map_append];rfl,?_⟩
  have h2:(stdR ts)[n]?=some ((0,t.num),t.many):=by
   unfold stdR
   rw [List.getElem?_map,ht]
   rfl
  rw [take_one h2]
  exact Paired.snoc (Paired.mapP pr fun _ _ f=>ft_mono (g1.trans g2) f) ⟨a,e_b,e_a⟩
 rintro ys H' ⟨bs,g,rfl,pr⟩
 have sl:(stdR ts).length=ts.length:=List.length_map _
 rw [xl,←sl,List.take_length] at pr
 have bl:=Paired.length pr
 refine ⟨small_le (by rw [List.length_map];omega),fun l nl=>?_⟩
 have g2:=same_laid nl (.lst (bs.map V.ref))
 refine ⟨c,l,bs,stdR ts,rfl,g2 _ _ (g _ _ e_c),upd_same,Paired.mapP pr fun _ _ f=>ft_mono g2 f,by omega,fun d H3 nd g3 ed=>?_⟩
 exact hq d _ (s1.free (g.free (g2.free nd))) (s1.trans (g.trans (g2.trans g3))) ed
theorem ok_is_stretch (z_isinstance:mg "isinstance"=none) (z_tuple:mg "tuple"=none) (z_len:mg "len"=none) (h_is_whole_within:Has P w K mg base "is_whole_within" 3 ["thing","least","most"] spWW) (h_last_of:Has P w K mg base "last_of" 2 ["stretch"] spLast) (F:Fun K "is_stretch" "is_stretch" s_is_stretch f fd):FnOk P w K mg base CX0 4 f fd ["thing","deep"] spStr:=by
 refine F.ok sc_is_stretch (fun vs H Q E h=>?_) (fun cdv A outer s H vs Q E hr h=>?_)
 ·obtain ⟨p,n,deep,rfl,_⟩:=h
  rfl
 obtain ⟨p,n,deep,rfl,e,d0,d1,hq⟩:=h
 refine ⟨_,(@pss_cons _ _ _ _ _ (@ps_if _ _ _ _ _ _ _ _ (PW.pt (@pw_or _ _ _ _ _ _ _ (@pt_not _ _ _ _ (pt_val (pe_callB call_is rfl z_isinstance PyProof.Rows.boot_isinstance (@pa_cons _ _ _ _ _ (pv 0) (@pa_cons _ _ _ _ _ (pe_bltn (v:=.ty "tuple") rfl z_tuple PyProof.Rows.boot_tuple rfl) pa_nil (by rfl)) (by rfl))))) (@pw_or1 _ _ _ _ (@pt_cmpR _ _ _ _ _ _ _ _ op_ne (pe_callB call_len_seq rfl z_len PySem.boot_len (@pa_cons _ _ _ _ _ (pv 0) pa_nil (by rfl))) pe_int (nomark _))))) (@pss_one _ _ _ (@ps_ret _ _ _ _ pe_bl)) pss_nil)
 (@pss_cons _ _ _ _ _ (ps_asg (pv 0) (pg_tup rfl (pgs_cons (pg_name (i:=2) sc_is_stretch.nd rfl (Or.inl rfl)) (pgs_cons (pg_name (i:=3) sc_is_stretch.nd rfl (Or.inl rfl)) pgs_nil))))
 (@pss_one _ _ _ (@ps_ret _ _ _ _ (@pe_and _ _ _ _ _ _ _ (pe_callH h_is_whole_within hr (@pa_cons _ _ _ _ _ (pv 2) (@pa_cons _ _ _ _ _ pe_int (@pa_cons _ _ _ _ _ (pv 1) pa_nil (by rfl)) (by rfl)) (by rfl))) (@pe_one _ _ _ _ _ (pe_callH h_is_whole_within hr (@pa_cons _ _ _ _ _ (pv 3) (@pa_cons _ _ _ _ _ pe_int (@pa_cons _ _ _ _ _ (pe_callH h_last_of hr (@pa_cons _ _ _ _ _ (@pe_tup _ _ _ _ _ (@pa_cons _ _ _ _ _ (@pe_op _ _ _ _ _ _ _ _ op_sub (pv 1) (pv 2)) (@pa_cons _ _ _ _ _ pe_int pa_nil (by rfl)) (by rfl))) pa_nil (by rfl))) pa_nil (by rfl)) (by rfl)) (by rfl))))))))),?_⟩
 have kp:Kd H (.ref p) "tuple":=.tup e
 refine ⟨_,rfl,_,_,"tuple",_,rfl,kp.ty,kp.kit (by decide) rfl,_,rfl,iteF ?_⟩
 refine ⟨_,rfl,p,_,rfl,.inr (SqT.of e),rfl,_,rfl,iteF ?_⟩
 refine ⟨_,rfl,p,_,rfl,SqT.of e,rfl,_,_,rfl,_,_,rfl,rfl,?_⟩
 refine ⟨_,rfl,_,rfl,0,0,deep,rfl,_,rfl,?_⟩
 rw [decide_eq_true (Int.le_refl 0),decide_eq_true d0]
 refine iteT ⟨_,rfl,_,rfl,_,rfl,_,_,rfl,rfl,leN rfl,fun r nr=>⟨r,(deep - 0,0),rfl,upd_same,by show 0≤deep - 0;omega,by show deep - 0≤20;omega,Int.le_refl _,by show (0:Int)≤_;decide,fun H' g=>⟨n,0,_,rfl,?_⟩⟩⟩
 have e2:lst1 (deep - 0,0)=2 ^ deep.toNat - 1:=by
  unfold lst1
  show (0+1) * (2:Int) ^ (deep - 0).toNat - 1=_
  rw [Int.sub_zero,Int.zero_add,Int.one_mul]
 rw [e2]
 exact hq _ ((same_laid nr _).trans g)
end
end K33
namespace K33
open PySem L2 Ld
theorem add_mem:∀{ys xs:Sps} {k:Int×Int},k∈(addS xs ys).map (·.1)→k∈xs.map (·.1)∨k∈ys.map (·.1)
 | [],_,_,h=>.inl h
 | p::ys,xs,k,h=>by
  rw [add_cons] at h
  rcases add_mem h with h | h
  ·rw [put_keys] at h
   split at h
   ·exact .inl h
   ·rcases List.mem_append.mp h with h | h
    ·exact .inl h
    ·rw [List.mem_singleton.mp h]
     exact .inr (.head _)
  ·exact .inr (.tail _ h)
theorem std_zero {ts:List Th} {e:(Int×Int)×Int} (h:e∈stdS ts):∃n,e.1=(0,n):=by
 rcases add_mem (List.mem_map.mpr ⟨e,h,rfl⟩) with h | h
 ·exact absurd h List.not_mem_nil
 ·unfold stdR at h
  rw [List.map_map] at h
  obtain ⟨t,_,e⟩:=List.mem_map.mp h
  exact ⟨t.num,e.symm⟩
theorem std_len (ts:List Th):(stdS ts).length≤ts.length:=by
 have:=add_len (stdR ts) []
 rw [List.length_nil,Nat.zero_add,show (stdR ts).length=ts.length from List.length_map _] at this
 exact this
theorem tv_get {ps:Sps} {i:Nat} {p:List Key×V} (h:(tvOf ps)[i]?=some p):∃q,ps[i]?=some q∧p=(kk q.1,.int q.2):=by
 unfold tvOf at h
 rw [List.getElem?_map] at h
 cases e:ps[i]? with
 | none=>rw [e] at h;cases h
 | some q=>rw [e] at h;cases h;exact ⟨q,rfl,rfl⟩
theorem thaw_same {H H':Hp} {d:Addr} {o:Obj} {kvs:List (List Key×V)} (e:H d=some (.dT kvs)) (g:Same (upd H d (.frz o (.dT kvs))) H'):Same H (upd H' d (.dT kvs)):=fun b u h=>by
 by_cases z:b=d
 ·rw [z] at h ⊢
  rw [e] at h
  rw [←h]
  exact upd_same
 ·rw [upd_ne z]
  exact g b u (by rw [upd_ne z];exact h)
theorem drop_one {α:Type} {l:List α} {i:Nat} {x:α} (h:l[i]?=some x):l.drop i=x::l.drop (i+1):=by
 obtain ⟨hi,e⟩:=List.getElem?_eq_some_iff.mp h
 rw [List.drop_eq_getElem_cons hi,e]
theorem cnt_in {ps:Sps} {k:Int×Int} (h:1≤cnt ps k):k∈ps.map (·.1):=Classical.byContradiction fun n=>by
 rw [cnt_out n] at h
 omega
section
variable {P:Program} {w:World} {K:PySem.W.Frag} {mg:Str→Option Value} {base:Heap} {f:Addr} {fd:FuncData}
theorem ok_folded (z_all:mg "all"=none) (z_dict:mg "dict"=none) (h_standing_of:Has P w K mg base "standing_of" 2 ["stream"] spStd) (h_things_in:Has P w K mg base "things_in" 1 ["stream"] spThs) (h_is_stretch:Has P w K mg base "is_stretch" 4 ["thing","deep"] spStr) (h_fold_up:Has P w K mg base "fold_up" 2 ["counts","stretch","many"] spFoldG) (F:Fun K "is_folded" "is_folded" s_is_folded f fd):FnOk P w K mg base CX0 5 f fd ["stream","ladder","paper"] spFolded:=by
 refine F.ok sc_is_folded (fun vs H Q E h=>?_) (fun cdv A outer s H vs Q E hr h=>?_)
 ·obtain ⟨r,q,p,ts,room,deep,total,qs,paper,rfl,_⟩:=h
  rfl
 obtain ⟨r,q,p,ts,room,deep,total,qs,paper,rfl,k_r,tl,lad,nq,ql,d0,d1,⟨bs,e_p,pb⟩,pl,hq⟩:=h
 obtain ⟨c,as,e_q,e_c,pr⟩:=lad.at_
 have sl:=std_len ts
 have hF:manyS ts≠total∨((stdS ts).all fun e=>inB deep e.1)=false→fldB deep total ts qs paper=false:=fun h=>by
  unfold fldB
  rcases h with h | h
  ·rw [decide_eq_false h,Bool.false_and,Bool.false_and]
  ·rw [h,Bool.and_false,Bool.false_and]
 have hT:manyS ts=total→((stdS ts).all fun e=>inB deep e.1)=true→fldB deep total ts qs paper=chkP deep qs (stdS ts) paper:=fun h1 h2=>by
  unfold fldB
  rw [decide_eq_true h1,h2,Bool.true_and,Bool.true_and]
 generalize fldB deep total ts qs paper=B at hq hF hT
 refine ⟨_,(@pss_cons _ _ _ _ _ (ps_asg (pv 1) (pg_tup rfl (pgs_cons (pg_name (i:=3) sc_is_folded.nd rfl (Or.inl rfl)) (pgs_cons (pg_name (i:=4) sc_is_folded.nd rfl (Or.inr rfl)) (pgs_cons (pg_name (i:=5) sc_is_folded.nd rfl (Or.inl rfl)) (pgs_cons (pg_name (i:=6) sc_is_folded.nd rfl (Or.inl rfl)) pgs_nil)))))) pss_run),?_⟩
 refine ⟨_,rfl,q,_,rfl,SqT.of e_q,rfl,_,_,rfl,_,_,rfl,_,_,rfl,_,_,rfl,rfl,?_⟩
 refine ⟨_,(@pss_cons _ _ _ _ _ (@ps_set _ _ 7 _ _ _ _ sc_is_folded.nd rfl (Or.inl rfl) (pe_callH h_standing_of hr (@pa_cons _ _ _ _ _ (pv 0) pa_nil (by rfl))) (by rfl) (by first | exact .inl rfl | exact .inr rfl)) pss_run),?_⟩
 refine ⟨_,rfl,r,ts,rfl,k_r,tl,fun d H1 n_d g1 e_d=>?_⟩
 refine ⟨_,(@pss_cons _ _ _ _ _ (@ps_if _ _ _ _ _ _ _ _ (PW.pt (@pw_or _ _ _ _ _ _ _ (@pt_cmpR _ _ _ _ _ _ _ _ op_ne (pe_callH h_things_in hr (@pa_cons _ _ _ _ _ (pv 0) pa_nil (by rfl))) (pv 6) (nomark _)) (@pw_or1 _ _ _ _ (@pt_not _ _ _ _ (pt_val (pe_callB (call_all rfl) rfl z_all PyProof.Rows.boot_all (@pa_cons _ _ _ _ _ (pe_frzT (pe_comp (own:=["one"]) (CompOk.of rfl rfl (by rfl) (by rfl) (by rfl)) (pi_dictT (pv 7))
  (fun _ _ _ _ _=>(pg_name (i:=0) nd_is_folded_44_45 rfl (Or.inl rfl) (Or.inr rfl))) (fun _ _ _ _ _=>pts_nil)
  (fun _ _ _ _ _=>(pe_callH h_is_stretch hr (@pa_cons _ _ _ _ _ (pv 0) (@pa_cons _ _ _ _ _ (pv 5) pa_nil (by rfl)) (by rfl)))))) pa_nil (by rfl)))))))) (@pss_one _ _ _ (@ps_ret _ _ _ _ pe_bl)) pss_nil) pss_run),?_⟩
 refine ⟨_,rfl,r,ts,rfl,k_r.mono g1,tl,fun H2 g2=>⟨_,rfl,rfl,_,rfl,ite2 (fun c1=>iteT ?_) (fun c1=>?_)⟩⟩
 ·have c1:manyS ts≠total:=by simpa using c1
  rw [hF (.inl c1)] at hq
  exact hq _ (g1.trans g2)
 have c1:manyS ts=total:=by simpa using c1
 have hF2:=fun h=>hF (.inr h)
 have hT:=hT c1
 clear hF
 have e_d:=g2 _ _ e_d
 have gg:=g1.trans g2
 clear g1 g2
 have nS:∀e∈stdS ts,∃n,e.1=(0,n):=fun e h=>std_zero h
 generalize stdS ts=S at e_d sl hF2 hT nS
 refine ⟨d,_,e_d,fun o=>⟨_,rfl,d,o,_,rfl,upd_same,?_⟩⟩
 refine comp_dictT (fun i ys H'=>Same (upd H2 d (.frz o (.dT (tvOf S)))) H'∧ys=((S.take i).map fun e=>inB deep e.1).map V.bl) ⟨Same.refl _,rfl⟩ ?_ ?_ ?_ ?_
 ·rintro i ys H' ⟨g5,_⟩
  exact g5 _ _ upd_same
 ·rintro i p0 b ys H5 C hp0 e_b ⟨g5,rfl⟩ hC
  obtain ⟨e,he,rfl⟩:=tv_get hp0
  have em:=List.mem_of_getElem? he
  obtain ⟨n,hn⟩:=nS e em
  have e_b:KAt H5 b e.1:=e_b
  rw [hn] at e_b
  refine ⟨small_lt (by rw [List.length_map,List.length_map,List.length_take];omega),Wk.refl _,_,rfl,_,rfl,b,n,deep,rfl,e_b,d0,d1,fun H6 g6=>hC _ _ ⟨g5.trans g6,?_⟩⟩
  rw [take_one he,List.map_append,List.map_append]
  show _=_++[V.bl (inB deep e.1)]
  rw [hn]
 ·rintro i ys H' ⟨_,rfl⟩
  exact small_lt (by rw [List.length_map,List.length_map,List.length_take];omega)
 rintro ys H5 ⟨g5,rfl⟩
 rw [tvOf_len,List.take_length]
 refine ⟨small_le (by rw [List.length_map,List.length_map];omega),fun l n_l=>?_⟩
 have ld:l≠d:=fun z=>by rw [z,g5 _ _ upd_same] at n_l;cases n_l
 have g6:=g5.trans (same_laid n_l (.lst ((S.map fun e=>inB deep e.1).map V.bl)))
 have sz:=thaw_same e_d g6
 have gg:=gg.trans sz
 have e_d3:=sz _ _ e_d
 refine ⟨g6 _ _ upd_same,l,_,rfl,SqL.of (by rw [upd_ne ld];exact upd_same),?_⟩
 rw [List.all_map]
 generalize upd (upd H5 l (.lst ((S.map fun e=>inB deep e.1).map V.bl))) d (.dT (tvOf S))=H6 at gg e_d3 ⊢
 clear sz g6 g5 e_d
 refine ⟨_,rfl,ite2 (fun c2=>?_) (fun c2=>?_)⟩
 ·have c2:(S.all fun e=>inB deep e.1)=false:=by simpa using c2
  rw [hF2 c2] at hq
  exact hq _ gg
 have c2:(S.all fun e=>inB deep e.1)=true:=by simpa using c2
 rw [hT c2] at hq
 clear hT hF2 c1 c2 nS
 refine ⟨_,(@pss_cons _ _ _ _ _ (ps_for PassesOwn.never rfl (pi_list (pv 2)) (pg_tup rfl (pgs_cons (pg_name (i:=8) sc_is_folded.nd rfl (Or.inl rfl)) (pgs_cons (pg_name (i:=9) sc_is_folded.nd rfl (Or.inl rfl)) pgs_nil)))
 (@pss_cons _ _ _ _ _ (@ps_if _ _ _ _ _ _ _ _ (PW.pt (@pw_or _ _ _ _ _ _ _ (@pt_cmpR _ _ _ _ _ _ _ _ op_lt (pv 9) pe_int (nomark _)) (@pw_or _ _ _ _ _ _ _ (@pt_cmpR _ _ _ _ _ _ _ _ op_ge (@pe_ix _ _ _ _ _ _ _ ix_tup (pv 8) pe_int (fun _ _=>rfl)) (pv 4) (nomark _)) (@pw_or1 _ _ _ _ (@pt_cmpR _ _ _ _ _ _ _ _ op_gt (pv 9) (pe_dget2 (hu_of hr) (pv 7) (pv 8) pe_int ⟨rfl,rfl,rfl,rfl⟩) (nomark _)))))) (@pss_one _ _ _ (@ps_ret _ _ _ _ pe_bl)) pss_nil)
 (@pss_one _ _ _ (ps_expr (pe_callH h_fold_up hr (@pa_cons _ _ _ _ _ (pv 7) (@pa_cons _ _ _ _ _ (pv 8) (@pa_cons _ _ _ _ _ (pv 9) pa_nil (by rfl)) (by rfl)) (by rfl))))))) pss_run),?_⟩
 refine ⟨_,rfl,p,rfl,⟨_,SqL.of (gg _ _ e_p)⟩,?_⟩
 have bl:=Paired.length pb
 refine for_listH (xs:=bs.map V.ref) (fun i σ H'=>∃(o8 o9:Option V) (ps:Sps),σ=[some (.ref r),some (.ref q),some (.ref p),some (.int room),some (.int deep),some (.ref c),some (.int total),some (.ref d),o8,o9]∧Same H H'∧H' d=some (.dT (tvOf ps))∧ps.length≤1000+2 * i∧chkP deep qs ps (paper.drop i)=chkP deep qs S paper) ⟨_,_,S,rfl,gg,e_d3,by omega,rfl⟩ ?_ ?_ ?_
 ·rintro i σ H' _ ⟨_,_,_,_,g,_⟩
  exact SqL.of (g _ _ e_p)
 ·rintro i x σ H' N B1 R hN hR hx ⟨o8,o9,ps,rfl,g,ed,al,key⟩
  obtain ⟨a,⟨k,m⟩,rfl,hp,b,e_a,e_b⟩:=ft_get pb hx
  have il:i<paper.length:=(List.getElem?_eq_some_iff.mp hp).1
  have e_a:=g _ _ e_a
  have e_b:KAt H' b k:=g _ _ e_b
  rw [drop_one hp] at key
  have key:(if m<1∨deep≤k.1∨cnt ps k<m then false else chkP deep qs (foldG ps k m) (paper.drop (i+1)))=chkP deep qs S paper:=key
  refine ⟨a,_,rfl,SqT.of e_a,rfl,_,_,rfl,_,_,rfl,rfl,?_⟩
  refine ⟨_,rfl,_,_,rfl,rfl,_,rfl,ite2 (fun c1=>iteT ?_) (fun c1=>?_)⟩
  ·rw [if_pos (.inl (of_decide_eq_true c1))] at key
   rw [←key] at hq
   exact hR _ _ (hq _ g)
  have c1:¬m<1:=of_decide_eq_false (Bool.eq_false_iff.mpr c1)
  refine ⟨_,rfl,b,_,0,_,rfl,rfl,SqT.of e_b,rfl,_,rfl,_,_,rfl,rfl,_,rfl,ite2 (fun c2=>iteT ?_) (fun c2=>?_)⟩
  ·rw [if_pos (.inr (.inl (of_decide_eq_true c2)))] at key
   rw [←key] at hq
   exact hR _ _ (hq _ g)
  have c2:¬deep≤k.1:=of_decide_eq_false (Bool.eq_false_iff.mpr c2)
  refine ⟨_,rfl,_,rfl,d,rfl,.inr ⟨_,.inl ed⟩,_,rfl,_,get_int ed e_b,_,_,rfl,cnt_look _ _,_,rfl,ite2 (fun c3=>?_) (fun c3=>?_)⟩
  ·rw [if_pos (.inr (.inr (of_decide_eq_true c3)))] at key
   rw [←key] at hq
   exact hR _ _ (hq _ g)
  have c3:¬cnt ps k<m:=of_decide_eq_false (Bool.eq_false_iff.mpr c3)
  rw [if_neg fun h=>h.elim c1 fun h=>h.elim c2 c3] at key
  have l1:=foldG_len ps k m
  refine ⟨_,rfl,_,rfl,_,rfl,d,b,ps,k,m,rfl,ed,e_b,cnt_in (by omega),by omega,fun H3 g3 e3=>?_⟩
  exact hN _ _ ⟨_,_,_,rfl,fresh_grw n_d g g3,e3,by omega,key⟩
 ·rintro σ H' ⟨o8,o9,ps,rfl,g,ed,al,key⟩
  rw [List.length_map,bl,List.drop_length] at key
  have key:eqB ps qs=chkP deep qs S paper:=key
  rw [←key] at hq
  refine ⟨_,(@pss_one _ _ _ (@ps_ret _ _ _ _ (@pe_cmpR _ _ _ _ _ _ _ _ (op_eqDT hr.units) (pv 7) (pe_callTy (call_dictTT rfl hr.units) rfl z_dict PyProof.Rows.boot_dict (@pa_cons _ _ _ _ _ (pv 5) pa_nil (by rfl))) (nomark _)))),?_⟩
  refine ⟨_,rfl,_,rfl,c,_,_,rfl,g _ _ e_c,ft_tps (Paired.mapP pr fun _ _ f=>ft_mono g f),by rw [tvOf_len];omega,fun z nz=>?_⟩
  rw [mrgTV_nd (nd_tv nq)]
  have g4:=same_laid nz (.dT (tvOf qs))
  exact ⟨d,z,ps,qs,rfl,rfl,g4 _ _ ed,upd_same,hq _ (g.trans g4)⟩
end
end K33
namespace K33
open PySem L2 Ld
theorem mem_put {ps:Sps} {k:Int×Int} {n:Int} {p:(Int×Int)×Int} (h:p∈putS ps k n):p=(k,n)∨(p∈ps∧p.1≠k):=by
 unfold putS at h
 split at h
 ·obtain ⟨q,hq,rfl⟩:=List.mem_map.mp h
  split
  ·rename_i e
   exact .inl (by rw [e])
  ·rename_i e
   exact .inr ⟨hq,e⟩
 ·rename_i na
  rcases List.mem_append.mp h with h | h
  ·exact .inr ⟨h,fun e=>na (any_mem.mpr (List.mem_map.mpr ⟨p,h,e⟩))⟩
  ·exact .inl (List.mem_singleton.mp h)
theorem cnt_nn {ps:Sps} (nn:∀p∈ps,0≤p.2) (nd:(ps.map (·.1)).Nodup) (k:Int×Int):0≤cnt ps k:=by
 by_cases hk:k∈ps.map (·.1)
 ·obtain ⟨p,hp,rfl⟩:=List.mem_map.mp hk
  rw [cnt_at nd hp]
  exact nn p hp
 ·rw [cnt_out hk]
  exact Int.le_refl _
noncomputable def mv (f:Int×Int→Int) (k:Int×Int) (m:Int):Int×Int→Int:=fun x=>if x=k then f k - m else if x=par1 k then f x+m else f x
theorem cnt_foldG (ps:Sps) (k:Int×Int) (m:Int) (x:Int×Int):cnt (foldG ps k m) x=mv (cnt ps) k m x:=by
 unfold foldG mv
 split
 ·rename_i z
  rw [cnt_drop]
  by_cases e:x=k
  ·rw [if_pos e,if_pos e,z]
  ·rw [if_neg e,if_neg e,cnt_put,if_neg e,cnt_put]
   by_cases q:x=par1 k
   ·rw [if_pos q,if_pos q,q]
   ·rw [if_neg q,if_neg q]
 ·rw [cnt_put]
  by_cases e:x=k
  ·rw [if_pos e,if_pos e]
  ·rw [if_neg e,if_neg e,cnt_put]
   by_cases q:x=par1 k
   ·rw [if_pos q,if_pos q,q]
   ·rw [if_neg q,if_neg q]
noncomputable def moveL (ls:Sps) (k:Int×Int) (m:Int):Sps:=putS (putS ls k (cnt ls k - m)) (par1 k) (cnt (putS ls k (cnt ls k - m)) (par1 k)+m)
theorem cnt_moveL (ls:Sps) (k:Int×Int) (m:Int) (x:Int×Int):cnt (moveL ls k m) x=mv (cnt ls) k m x:=by
 unfold moveL mv
 rw [cnt_put,cnt_put,cnt_put,if_neg (Ne.symm (par_ne k))]
 by_cases e:x=k
 ·rw [if_pos e,if_neg (by rw [e];exact par_ne k),if_pos e]
 ·by_cases q:x=par1 k
  ·rw [if_pos q,if_neg e,if_pos q,q]
  ·rw [if_neg q,if_neg e,if_neg e,if_neg q]
noncomputable def chkL (deep:Int) (qs:Sps):Sps→Sps→Bool
 | ls,[]=>eqB qs (ls.filter fun p=>decide (0<p.2))
 | ls,(k,m)::r=>if m<1∨¬(0≤k.1∧k.1<deep)∨cnt ls k<m then false else chkL deep qs (moveL ls k m) r
structure Tab (ls:Sps):Prop where
 nd:(ls.map (·.1)).Nodup
 nn:∀p∈ls,0≤p.2
 ht:∀p∈ls,0≤p.1.1
structure Pos (ps:Sps):Prop where
 nd:(ps.map (·.1)).Nodup
 pos:∀p∈ps,0<p.2
theorem tab_move {ls:Sps} {k:Int×Int} {m:Int} (t:Tab ls) (m1:1≤m) (k0:0≤k.1) (c:m≤cnt ls k):Tab (moveL ls k m):=by
 have a:=cnt_nn t.nn t.nd
 unfold moveL
 rw [cnt_put,if_neg (Ne.symm (par_ne k))]
 refine ⟨put_nd (put_nd t.nd),fun p hp=>?_,fun p hp=>?_⟩
 ·rcases mem_put hp with rfl | ⟨hp,_⟩
  ·have:=a (par1 k)
   show 0≤cnt ls (par1 k)+m
   omega
  ·rcases mem_put hp with rfl | ⟨hp,_⟩
   ·show 0≤cnt ls k - m
    omega
   ·exact t.nn p hp
 ·rcases mem_put hp with rfl | ⟨hp,_⟩
  ·show 0≤k.1+1
   omega
  ·rcases mem_put hp with rfl | ⟨hp,_⟩
   ·exact k0
   ·exact t.ht p hp
theorem pos_fold {ps:Sps} {k:Int×Int} {m:Int} (t:Pos ps) (m1:1≤m) (c:m≤cnt ps k):Pos (foldG ps k m):=by
 have a:=cnt_nn (fun p hp=>Int.le_of_lt (t.pos p hp)) t.nd
 have core:∀p∈putS (putS ps (par1 k) (cnt ps (par1 k)+m)) k (cnt ps k - m),p.1≠k→0<p.2:=fun p hp n=>by
  rcases mem_put hp with rfl | ⟨hp,_⟩
  ·exact absurd rfl n
  ·rcases mem_put hp with rfl | ⟨hp,_⟩
   ·have:=a (par1 k)
    show 0<cnt ps (par1 k)+m
    omega
   ·exact t.pos p hp
 unfold foldG
 split
 ·refine ⟨drop_nd (put_nd (put_nd t.nd)),fun p hp=>?_⟩
  obtain ⟨h1,h2⟩:=List.mem_filter.mp hp
  exact core p h1 (of_decide_eq_true h2)
 ·rename_i z
  refine ⟨put_nd (put_nd t.nd),fun p hp=>?_⟩
  by_cases e:p.1=k
  ·rcases mem_put hp with rfl | ⟨_,n⟩
   ·show 0<cnt ps k - m
    omega
   ·exact absurd e n
  ·exact core p hp e
theorem sub_of_len {α:Type} [DecidableEq α]:∀{l m:List α},l.Nodup→(∀a∈l,a∈m)→m.length≤l.length→∀a∈m,a∈l
 | [],m,_,_,h,a,ha=>by
  rw [List.length_nil] at h
  rw [List.length_eq_zero_iff.mp (Nat.le_zero.mp h)] at ha
  exact ha
 | x::l,m,nd,s,h,a,ha=>by
  rw [List.nodup_cons] at nd
  have hx:=s x (.head _)
  have le:=List.length_erase_of_mem hx
  have lp:=List.length_pos_of_mem hx
  rw [List.length_cons] at h
  by_cases e:a=x
  ·rw [e]
   exact .head _
  ·refine .tail _ (sub_of_len (m:=m.erase x) nd.2 (fun y hy=>?_) (by omega) a ((List.mem_erase_of_ne e).mpr ha))
   exact (List.mem_erase_of_ne fun (z:y=x)=>nd.1 (by rw [←z];exact hy)).mpr (s y (.tail _ hy))
theorem eqB_perm {ps qs:Sps} (np:ps.Nodup) (nq:qs.Nodup):eqB ps qs=true↔ps.Perm qs:=by
 unfold eqB
 rw [Bool.and_eq_true]
 refine ⟨fun ⟨h1,h2⟩=>?_,fun h=>⟨decide_eq_true h.length_eq,List.all_eq_true.mpr fun p hp=>decide_eq_true (h.mem_iff.mp hp)⟩⟩
 have h1:=of_decide_eq_true h1
 have s:∀a∈ps,a∈qs:=fun a ha=>of_decide_eq_true (List.all_eq_true.mp h2 a ha)
 exact perm_nd np nq fun a=>⟨s a,sub_of_len np s (by omega) a⟩
theorem twin_perm {ps ls:Sps} (t:Pos ps) (u:Tab ls) (e:∀k,cnt ps k=cnt ls k):ps.Perm (ls.filter fun p=>decide (0<p.2)):=by
 refine perm_nd (nd_of t.nd) ((nd_of u.nd).filter _) fun p=>⟨fun hp=>?_,fun hp=>?_⟩
 ·have h1:=cnt_at t.nd hp
  have h2:=t.pos p hp
  rw [e] at h1
  have hk:p.1∈ls.map (·.1):=cnt_in (by omega)
  obtain ⟨q,hq,eq⟩:=List.mem_map.mp hk
  have h3:=cnt_at u.nd hq
  have:q=p:=Prod.ext eq (by rw [←h3,←h1,eq])
  rw [←this]
  refine List.mem_filter.mpr ⟨hq,decide_eq_true ?_⟩
  rw [this]
  exact h2
 ·obtain ⟨hq,h2⟩:=List.mem_filter.mp hp
  have h2:=of_decide_eq_true h2
  have h1:=cnt_at u.nd hq
  rw [←e] at h1
  have hk:p.1∈ps.map (·.1):=cnt_in (by omega)
  obtain ⟨q,hq,eq⟩:=List.mem_map.mp hk
  have h3:=cnt_at t.nd hq
  have:q=p:=Prod.ext eq (by rw [←h3,←h1,eq])
  rw [←this]
  exact hq
theorem chk_eq {deep:Int} {qs:Sps} (nq:(qs.map (·.1)).Nodup):∀(r:Sps) {ps ls:Sps},Pos ps→Tab ls→(∀k,cnt ps k=cnt ls k)→chkP deep qs ps r=chkL deep qs ls r
 | [],ps,ls,t,u,e=>by
  have w:=twin_perm t u e
  have n1:=nd_of t.nd
  have n2:=nd_of nq
  have n3:=(nd_of u.nd).filter (fun p=>decide (0<p.2))
  show eqB ps qs=eqB qs _
  refine Bool.eq_iff_iff.mpr ⟨fun h=>?_,fun h=>?_⟩
  ·exact (eqB_perm n2 n3).mpr (((eqB_perm n1 n2).mp h).symm.trans w)
  ·exact (eqB_perm n1 n2).mpr (w.trans ((eqB_perm n2 n3).mp h).symm)
 | (k,m)::r,ps,ls,t,u,e=>by
  show (if m<1∨deep≤k.1∨cnt ps k<m then false else chkP deep qs (foldG ps k m) r)=(if m<1∨¬(0≤k.1∧k.1<deep)∨cnt ls k<m then false else chkL deep qs (moveL ls k m) r)
  have ek:=e k
  by_cases h1:m<1
  ·rw [if_pos (.inl h1),if_pos (.inl h1)]
  ·by_cases h2:cnt ps k<m
   ·rw [if_pos (.inr (.inr h2)),if_pos (.inr (.inr (by omega)))]
   ·have hk:k∈ls.map (·.1):=cnt_in (by omega)
    obtain ⟨q,hq,eq⟩:=List.mem_map.mp hk
    have h0:=u.ht q hq
    rw [eq] at h0
    by_cases h3:deep≤k.1
    ·rw [if_pos (.inr (.inl h3)),if_pos (.inr (.inl fun z=>by omega))]
    ·rw [if_neg fun h=>h.elim h1 fun h=>h.elim h3 h2,if_neg fun h=>h.elim h1 fun h=>h.elim (fun z=>z ⟨h0,by omega⟩) fun z=>by omega]
     refine chk_eq nq r (pos_fold t (by omega) (by omega)) (tab_move u (by omega) h0 (by omega)) fun x=>?_
     rw [cnt_foldG,cnt_moveL]
     unfold mv
     rw [e k,e x]
theorem mem_add:∀{ys xs:Sps} {k:Int×Int},k∈xs.map (·.1)∨k∈ys.map (·.1)→k∈(addS xs ys).map (·.1)
 | [],_,_,h=>h.elim id fun h=>nomatch h
 | p::ys,xs,k,h=>by
  rw [add_cons]
  have kp:k∈xs.map (·.1)∨k=p.1→k∈(putS xs p.1 (cnt xs p.1+p.2)).map (·.1):=fun h=>by
   rw [put_keys]
   split
   ·rename_i z
    rcases h with h | h
    ·exact h
    ·rw [h];exact z
   ·rcases h with h | h
    ·exact List.mem_append_left _ h
    ·rw [h];exact List.mem_append_right _ (.head _)
  rcases h with h | h
  ·exact mem_add (.inl (kp (.inl h)))
  ·rw [List.map_cons] at h
   rcases List.mem_cons.mp h with h | h
   ·exact mem_add (.inl (kp (.inr h)))
   ·exact mem_add (.inr h)
theorem add_pos:∀{ys xs:Sps},Pos xs→(∀p∈ys,0<p.2)→Pos (addS xs ys)
 | [],_,h,_=>h
 | p::ys,xs,h,g=>by
  refine add_pos (ys:=ys) ⟨put_nd h.nd,fun q hq=>?_⟩ fun q hq=>g q (.tail _ hq)
  rcases mem_put hq with rfl | ⟨hq,_⟩
  ·have:=cnt_nn (fun p hp=>Int.le_of_lt (h.pos p hp)) h.nd p.1
   have:=g p (.head _)
   show 0<cnt xs p.1+p.2
   omega
  ·exact h.pos q hq
theorem std_pos {ts:List Th} (h:∀t∈ts,1≤t.many):Pos (stdS ts):=by
 refine add_pos ⟨List.nodup_nil,fun _ h=>nomatch h⟩ fun p hp=>?_
 obtain ⟨t,ht,rfl⟩:=List.mem_map.mp hp
 exact h t ht
theorem std_tab {ts:List Th} (h:∀t∈ts,1≤t.many):Tab (stdS ts):=by
 have p:=std_pos h
 refine ⟨p.nd,fun q hq=>Int.le_of_lt (p.pos q hq),fun q hq=>?_⟩
 obtain ⟨n,e⟩:=std_zero hq
 rw [e]
 exact Int.le_refl _
theorem std_sum (ts:List Th):sumS (stdS ts)=manyS ts:=by
 unfold stdS
 rw [add_sum (xs:=[]) List.nodup_nil]
 unfold sumS manyS stdR
 rw [List.map_map]
 show (0:Int)+_=_
 rw [Int.zero_add]
 rfl
noncomputable def dueB (deep total:Int) (ts:List Th) (qs paper:Sps):Bool:=(ts.all fun t=>decide (t.num<2 ^ deep.toNat)) && (decide (sumS (stdS ts)=total) && chkL deep qs (stdS ts) paper)
theorem fld_due {deep total:Int} {ts:List Th} {qs paper:Sps} (h:∀t∈ts,0≤t.num∧1≤t.many) (nq:(qs.map (·.1)).Nodup):fldB deep total ts qs paper=dueB deep total ts qs paper:=by
 have hm:=fun t ht=>(h t ht).2
 unfold fldB dueB
 rw [std_sum,chk_eq nq paper (std_pos hm) (std_tab hm) fun _=>rfl]
 have al:((stdS ts).all fun e=>inB deep e.1)=ts.all fun t=>decide (t.num<2 ^ deep.toNat):=by
  refine Bool.eq_iff_iff.mpr ⟨fun z=>?_,fun z=>?_⟩
  ·refine List.all_eq_true.mpr fun t ht=>decide_eq_true ?_
   have hk:(0,t.num)∈(stdS ts).map (·.1):=mem_add (.inr (List.mem_map.mpr ⟨((0,t.num),t.many),List.mem_map.mpr ⟨t,ht,rfl⟩,rfl⟩))
   obtain ⟨e,he,ee⟩:=List.mem_map.mp hk
   have:=List.all_eq_true.mp z e he
   unfold inB at this
   rw [ee,Bool.and_eq_true] at this
   have:=of_decide_eq_true this.2
   have:t.num≤2 ^ deep.toNat - 1:=this
   omega
  ·refine List.all_eq_true.mpr fun e he=>?_
   rcases add_mem (List.mem_map.mpr ⟨e,he,rfl⟩) with q | q
   ·exact absurd q List.not_mem_nil
   ·unfold stdR at q
    rw [List.map_map] at q
    obtain ⟨t,ht,ee⟩:=List.mem_map.mp q
    have:=of_decide_eq_true (List.all_eq_true.mp z t ht)
    have t0:=(h t ht).1
    unfold inB
    rw [←ee,Bool.and_eq_true]
    exact ⟨decide_eq_true t0,decide_eq_true (show t.num≤2 ^ deep.toNat - 1 by omega)⟩
 rw [al]
 cases decide (manyS ts=total) <;> cases (ts.all fun t=>decide (t.num<2 ^ deep.toNat)) <;> rfl
inductive Run (deep:Int):(Int×Int→Int)→Sps→(Int×Int→Int)→Prop
 | nil (f:Int×Int→Int):Run deep f [] f
 | cons {f g:Int×Int→Int} {k:Int×Int} {m:Int} {r:Sps}:1≤m→0≤k.1→k.1<deep→m≤f k→Run deep (mv f k m) r g→Run deep f ((k,m)::r) g
theorem Run.app {deep:Int} {f g h:Int×Int→Int} {r s:Sps} (a:Run deep f r g) (b:Run deep g s h):Run deep f (r++s) h:=by
 induction a with
 | nil _=>exact b
 | cons h1 h2 h3 h4 _ ih=>exact .cons h1 h2 h3 h4 (ih b)
theorem Run.add {deep:Int} {f g x:Int×Int→Int} {r:Sps} (hx:∀k,0≤x k) (a:Run deep f r g):Run deep (fun k=>f k+x k) r (fun k=>g k+x k):=by
 induction a with
 | nil _=>exact .nil _
 | @cons f g k m r h1 h2 h3 h4 _ ih=>
  have e:mv (fun k=>f k+x k) k m=fun y=>mv f k m y+x y:=funext fun y=>by
   unfold mv
   split
   ·rename_i e
    show f k+x k - m=f k - m+x y
    rw [e]
    omega
   ·split
    ·show f y+x y+m=f y+m+x y
     omega
    ·rfl
  refine .cons h1 h2 h3 (by have:=hx k;show m≤f k+x k;omega) ?_
  rw [e]
  exact ih
theorem Run.addL {deep:Int} {f g x:Int×Int→Int} {r:Sps} (hx:∀k,0≤x k) (a:Run deep f r g):Run deep (fun k=>x k+f k) r (fun k=>x k+g k):=by
 have:=a.add hx
 have e1:(fun k=>x k+f k)=fun k=>f k+x k:=funext fun k=>Int.add_comm _ _
 have e2:(fun k=>x k+g k)=fun k=>g k+x k:=funext fun k=>Int.add_comm _ _
 rw [e1,e2]
 exact this
theorem Run.chk {deep:Int} {qs:Sps} {f g:Int×Int→Int} {r:Sps} (a:Run deep f r g) (pq:Pos qs) (eq:∀k,cnt qs k=g k):∀{ls:Sps},Tab ls→(∀k,cnt ls k=f k)→chkL deep qs ls r=true:=by
 induction a with
 | nil f=>
  intro ls t e
  exact (eqB_perm (nd_of pq.nd) ((nd_of t.nd).filter _)).mpr (twin_perm pq t fun k=>by rw [eq,e])
 | @cons f g k m r h1 h2 h3 h4 _ ih=>
  intro ls t e
  have ek:=e k
  show (if m<1∨¬(0≤k.1∧k.1<deep)∨cnt ls k<m then false else chkL deep qs (moveL ls k m) r)=true
  rw [if_neg fun z=>z.elim (fun z=>by omega) fun z=>z.elim (fun z=>z ⟨h2,h3⟩) fun z=>by omega]
  refine ih eq (tab_move t h1 h2 (by omega)) fun x=>?_
  rw [cnt_moveL]
  unfold mv
  rw [e k,e x]
theorem run_foldI {deep:Int} {ps:Sps} {k:Int×Int} (h0:0≤k.1) (hd:k.1<deep) (c1:k∈ps.map (·.1)→1≤cnt ps k):Run deep (cnt ps) (told1 ps k) (cnt (foldI ps k)):=by
 unfold told1
 split
 ·rename_i hk
  refine .cons (c1 hk) h0 hd (Int.le_refl _) ?_
  have e:mv (cnt ps) k (cnt ps k)=cnt (foldI ps k):=funext fun x=>by
   rw [cnt_foldI]
   unfold mv
   split
   ·omega
   ·split
    ·rename_i q
     rw [q]
    ·rfl
  rw [e]
  exact .nil _
 ·rename_i hk
  have e:foldI ps k=ps:=by unfold foldI;rw [if_neg hk]
  rw [e]
  exact .nil _
theorem run_step {deep h j:Int} {ps:Sps} (o:Pok deep ps) (h0:0≤h) (hd:h<deep):Run deep (cnt ps) (flP ps h j) (cnt (stepP ps h j)):=by
 unfold flP stepP
 refine (run_foldI (k:=loK h j) h0 hd fun hk=>cnt_one o hk).app ?_
 rw [←told_hi]
 refine run_foldI (k:=hiK h j) h0 hd fun hk=>?_
 rw [cnt_foldI,if_neg (Ne.symm (lo_hi h j)),par_lo,if_neg (hi_up h j)]
 exact cnt_one o (hi_in.mp hk)
theorem cnt_perm {ps qs:Sps} (p:ps.Perm qs) (nd:(ps.map (·.1)).Nodup):cnt ps=cnt qs:=funext fun k=>cnt_eq (look_perm p nd k)
theorem stl_run {deep bar:Int} {ps fs ps':Sps} (s:Stl deep bar ps fs ps'):Pok deep ps→Run deep (cnt ps) fs (cnt ps'):=by
 induction s with
 | done n=>exact fun _=>.nil _
 | step f p1 s ih=>
  intro o
  have q:=step_pok o f.in_ f.hd
  have q1:=q.perm p1
  obtain ⟨k,hk,e,_⟩:=f.key
  have h0:=(o.kok.st k hk).1
  rw [e] at h0
  refine (run_step o h0 f.hd).app ?_
  rw [←cnt_perm p1 q1.kok.nd]
  exact ih q1
theorem stl_len {deep bar:Int} {ps fs ps':Sps} (s:Stl deep bar ps fs ps'):Kok deep (ps.map (·.1))→fs.length+mea deep (ps'.map (·.1))≤mea deep (ps.map (·.1)):=by
 induction s with
 | done n=>exact fun _=>by simp
 | @step ps ps1 fs ps' h j f p1 s ih=>
  intro o
  have so:=stepP_ok (j:=j) o f.hd
  have:=ih (so.1.perm (p1.map _))
  rw [mea_perm (p1.map _)] at this
  rw [List.length_append]
  have:=so.2.1
  omega
theorem set_run {deep bar:Int} {ps:Sps} (o:Pok deep ps):Run deep (cnt ps) (flds deep bar ps) (cnt (setl deep bar ps)):=by
 obtain ⟨fs,ps',s⟩:=stl_ex (deep:=deep) (bar:=bar) _ ps (Nat.le_refl _) o.kok
 have e:=setl_eq s o.kok.nd
 rw [e.1,e.2,←cnt_perm (srtP2_perm ps').symm (stl_pok s o).1.kok.nd]
 exact stl_run s o
theorem set_len {deep bar:Int} {ps:Sps} (o:Pok deep ps):(flds deep bar ps).length+mea deep ((setl deep bar ps).map (·.1))≤mea deep (ps.map (·.1)):=by
 obtain ⟨fs,ps',s⟩:=stl_ex (deep:=deep) (bar:=bar) _ ps (Nat.le_refl _) o.kok
 have e:=setl_eq s o.kok.nd
 rw [e.1,e.2,mea_perm ((srtP2_perm ps').map _)]
 exact stl_len s o.kok
theorem mea_put (deep:Int) (ps:Sps) (k:Int×Int) (n:Int):mea deep ((putS ps k n).map (·.1))≤mea deep (ps.map (·.1))+(deep+1 - k.1).toNat:=by
 rw [put_keys]
 split
 ·omega
 ·unfold mea
  rw [List.map_append,List.sum_append]
  exact Nat.le_refl _
theorem mea_add (deep:Int):∀(ys xs:Sps),mea deep ((addS xs ys).map (·.1))≤mea deep (xs.map (·.1))+mea deep (ys.map (·.1))
 | [],xs=>Nat.le_refl _
 | p::ys,xs=>by
  have a:=mea_add deep ys (putS xs p.1 (cnt xs p.1+p.2))
  have b:=mea_put deep xs p.1 (cnt xs p.1+p.2)
  have c:mea deep ((p::ys).map (·.1))=(deep+1 - p.1.1).toNat+mea deep (ys.map (·.1)):=by
   unfold mea
   rw [List.map_cons,List.map_cons,List.sum_cons]
  rw [add_cons]
  omega
theorem cnt_add {xs ys:Sps} (ny:(ys.map (·.1)).Nodup):cnt (addS xs ys)=fun k=>cnt xs k+cnt ys k:=funext fun k=>by
 have e:=look_add (xs:=xs) k ny
 by_cases hk:k∈ys.map (·.1)
 ·rw [if_pos hk] at e
  unfold cnt at e ⊢
  rw [e]
 ·rw [if_neg hk] at e
  rw [cnt_eq e,cnt_out hk,Int.add_zero]
end K33
namespace L2
open PySem PySem.Spec PyProof.Rows
section
variable {prog:Program} {w:World} {A:Around} {E:Value→Shared→Prop} {s:Shared} {it d:Addr} {i ep:Nat} {es:Array DictEntry} {f0 f1 ok ov:Value}
theorem item_self {n:Nat} {Q:Value→Shared→Prop} (hit:ItI s.heap it d i n ep f0 f1 ok ov) (h:Q (.ref it) s):wpAny (model prog w) A (pyIter (.ref it)) Q E s:=by
 have hT:s.TypeIs (.ref it) "dict_itemiterator":=⟨_,hit,rfl⟩
 refine wpAny_pyIter_slot hT PySem.F.slot_dict_itemiterator_iter (wpAny_call_entry PySem.F.slot_dict_itemiterator_iter hT PySem.W.kcp_entry ?_ (PySem.F.args_dict_itemiterator_iter_1 _))
 show wpAny _ _ (ret (.ref it)) _ _ s
 exact wpAny_pure ⟨_,rfl,"dict_itemiterator",_,hT,PySem.F.slot_dict_itemiterator_next.lookup,h⟩
end
noncomputable def ItSt (it d:Addr) (n ep:Nat) (i:Nat) (h:Heap):Prop:=∃f0 f1 ok ov,ItI h it d i n ep f0 f1 ok ov∧(f0=.none∨∃(a:Addr) (b:Bool),f0=rawInt a∧f1=.bool b)
section
variable {X:Cx} {pins:List (Addr×Obj)} {σ:St} {H:Hp} {s:Shared}
theorem call_sumVT (hc:X.calm=true):CallR X (.builtin "sum") (fun xs H Q=>∃(v d:Addr) (kvs:List (List Key×V)) (ns:List Int),xs=[.ref v]∧H v=some (vView v d)∧H d=some (.dT kvs)∧kvs.map (·.2)=ns.map V.int∧Q (.int ns.sum) H):=by
 intro pins s σ H xs us Q I rx h
 obtain ⟨v,d,kvs,ns,rfl,hv,hd,hns,q⟩:=h
 obtain ⟨u,rfl,ru⟩:=vals1 rx
 cases ru
 obtain ⟨z,lo,xs,es,ep,kt,raw,_,ev,sz⟩:=dt_raw I.hok (.inl hd)
 obtain ⟨view,_⟩:=(show ObjOk X.prog X.w H s.heap v (vView v d) from I.hok v _ hv)
 have hI:IntsAre (xs.map fun x=>x.2.2) ns:=intsAre_of (by rw [←hns];exact kt_vals kt)
 have hV:Vals (ns.map V.int) (xs.map fun x=>x.2.2):=vals_ints hI
 have hl:es.size=ns.length:=by
  have e1:=hI.length
  rw [←ev,List.length_map,Array.length_toList] at e1
  exact e1
 have hlt:d<s.heap.objs.size:=raw.lt
 refine call_sum_walkG (rv_iter view raw ?_)
 have hh:X.A.in1.handled=none:=by simpa using I.ok.hd hc
 refine ⟨s.heap.objs.size,_,_,_,_,_,fun i=>ns.getD i 0,rfl,rv_walks hh _ d (Nat.ne_of_lt hlt) es ep,⟨⟨_,Heap.get?_push_size _ rfl,rfl,rfl⟩,raw.at fun o e=>Heap.get?_push_of_some _ e⟩,fun b hb=>?_,fun i v hv=>?_,fun h' tk t' kp=>?_⟩
 ·rw [Heap.size_push]
  rcases List.mem_cons.mp hb with e | e
  ·rw [e];exact Nat.lt_succ_self _
  ·rw [List.mem_singleton.mp e];exact Nat.lt_succ_of_lt hlt
 ·obtain ⟨e,he,rfl⟩:=hv
  exact ints_at hV (by rw [←ev,List.getElem?_map,Array.getElem?_toList,he];rfl)
 ·have e:preSum (fun i=>ns.getD i 0) es.size=ns.sum:=by
   rw [PyProof.Rows.preSum_getD,hl,List.take_length]
  rw [e]
  refine ⟨.int ns.sum,H,I.kept fun b o eb=>kp b o ?_ (Heap.get?_push_of_some _ eb),⟨_,rfl⟩,q⟩
  intro hb
  rw [List.mem_singleton.mp hb] at eb
  exact absurd (Heap.lt_size eb) (Nat.lt_irrefl _)
noncomputable def Itit (d:Addr) (kvs:List (List Key×V)) (o:Obj):It:=⟨fun i H=>i<kvs.length∧H d=some (.frz o (.dT kvs)),fun i H x H'=>∃T p b,kvs[i]?=some p∧x=.ref T∧H b=some (.tup (p.1.map kV))∧H T=none∧H'=upd H T (.tup [.ref b,p.2]),fun i H=>kvs.length≤i∧H d=some (.frz o (.dT kvs))⟩
theorem turn_iT {P:Program} {w:World} {K:PySem.W.Frag} {nm:Str} {np:Pos} {d it:Addr} {kvs:List (List Key×V)} {o:Obj} {es:Array DictEntry} {ep:Nat} (ex:o.ExactDict) (od:o.data=.dict es ep) (sz:es.size=kvs.length):
  Turn P w K (.Name nm np) (Itit d kvs o) [it] it (ItSt it d es.size ep) where
 mem:=by simp
 obj:=fun i h st b hb=>by
  obtain ⟨f0,f1,ok,ov,q,_⟩:=st
  rw [List.mem_singleton.mp hb]
  exact ⟨_,q,fun v z=>(nomatch z)⟩
 keep:=fun i h h' st k=>by
  obtain ⟨f0,f1,ok,ov,q,r⟩:=st
  exact ⟨f0,f1,ok,ov,k it (.head _) _ q,r⟩
 item:=by
  intro X hP hw hK hc i pins s σ H E I hf st hg
  subst hP hw hK
  obtain ⟨hi,hd⟩:=hg
  obtain ⟨ho,z,lo,xs,kt,o',es',ep',h1,_,h3,h4,_⟩:=(show ObjOk X.prog X.w H s.heap d (.frz o (.dT kvs)) from I.hok d _ hd)
  rw [ho] at h1
  cases h1
  rw [od] at h3
  cases h3
  have e1:kvs[i]?=some kvs[i]:=by simp [hi]
  obtain ⟨x,ex1,hx,rx⟩:=kt_get kt e1
  have eq:es[i]=⟨es[i].hash,.ref x.2.1,x.2.2⟩:=by
   have q:es.toList[i]?=some es[i]:=by rw [Array.getElem?_toList];exact Array.getElem?_eq_getElem (by omega)
   rw [h4,List.getElem?_map,ex1] at q
   rw [←Option.some.inj q]
   rfl
  have ek:es[i].key=.ref x.2.1:=by rw [eq]
  have ev:es[i].val=x.2.2:=by rw [eq]
  obtain ⟨f0,f1,ok,ov,q,alt⟩:=st
  refine ri_item q alt ⟨o,ho,ex,od⟩ (by omega) fun g e0 e1' a b st' al tg zg kp=>⟨_,rfl,?_⟩
  show wpAny (model X.prog X.w) X.A (pure ()) _ E _
  have itl:it≠s.heap.objs.size:=Nat.ne_of_lt (Heap.lt_size q)
  have ni:H it=none:=(hf it (.head _)).1
  refine wpAny_pure ⟨.ref s.heap.objs.size,upd H s.heap.objs.size (.tup [.ref x.2.1,kvs[i].2]),?_,rfl,⟨_,_,_,e1,rfl,hx,I.hok.fresh (Nat.le_refl _),rfl⟩,⟨e0,e1',a,b,st',.inr al⟩,fun c hc=>?_⟩
  ·refine I.zipped (t':=s.toks) (ch:=[it]) (fun c v hc e=>kp c v (fun z=>hc (by rw [z];exact .head _)) e) hf (Nat.le_refl _) ⟨by show (2:Nat)≤sizeLine;decide,[.ref x.2.1,x.2.2],.cons rfl (.cons rx .nil),?_⟩
   rw [ek,ev] at tg
   exact ⟨_,tg,⟨rfl,rfl⟩,_,rfl⟩
  ·rw [List.mem_singleton.mp hc,upd_ne itl]
   exact ni
 done:=by
  intro X hP hw hK hc i pins s σ H E I hf st hg
  subst hP hw hK
  obtain ⟨hi,hd⟩:=hg
  obtain ⟨ho,_⟩:=I.hok d _ hd
  obtain ⟨f0,f1,f2,f3,f4,f5⟩:=hf it (.head _)
  obtain ⟨_,_,_,_,q,_⟩:=st
  exact ri_done (I.ok.hd hc) q ⟨o,ho,ex,od⟩ (by omega) fun g eb=>⟨rfl,I.turned (t':=s.toks) (fun b ob hb e=>eb b ob hb e) f0 f1 f3 f4 f5⟩
 self:=fun _ _ _ _ _ st h=>by
  obtain ⟨_,_,_,_,q,_⟩:=st
  exact item_self q h
noncomputable def iItemsT (tl:TE):TI:=fun σ H R=>tl σ H fun x H1=>∃(v d:Addr) (kvs:List (List Key×V)),x=.ref v∧H1 v=some (iView v d)∧H1 d=some (.dT kvs)∧∀o,R (Itit d kvs o) (upd H1 d (.frz o (.dT kvs)))
theorem pi_itemsT {nm:Str} {np:Pos} {l:Expr} {tl:TE} (hl:PE X l tl):PI X (.Name nm np) l (iItemsT tl):=by
 intro pins s σ H R I h
 refine thn (hl pins s σ H _ I h) fun v s1 hpat=>?_
 obtain ⟨x,H1,I1,r1,q1⟩:=hpat
 obtain ⟨v,d,kvs,rfl,hv,hd,q⟩:=q1
 cases r1
 obtain ⟨view,_⟩:=(show ObjOk X.prog X.w H1 s1.heap v (iView v d) from I1.hok v _ hv)
 obtain ⟨o,I2,_⟩:=I1.freezeT hd
 obtain ⟨ho,z,lo,xs,kt,o',es,ep,h1,h2,h3,h4,_⟩:=(show ObjOk X.prog X.w _ s1.heap d (.frz o (.dT kvs)) from I2.hok d _ upd_same)
 rw [ho] at h1
 cases h1
 have sz:es.size=kvs.length:=by rw [←Array.length_toList,h4,List.length_map,←Paired.length kt]
 refine ri_iter view ⟨o,ho,h2,h3⟩ fun g st zg kp=>⟨s1.heap.objs.size,[s1.heap.objs.size],_,_,_,rfl,I2.kept (t':=s1.toks) kp,turn_iT h2 h3 sz,⟨_,_,_,_,st,.inl rfl⟩,fun b hb=>?_,q o⟩
 rw [List.mem_singleton.mp hb]
 exact I2.fpOk (Nat.le_refl _) (I2.hok.fresh (Nat.le_refl _))
noncomputable def tThw (t:TE):TE:=fun σ H Q=>∃(d:Addr) (kvs:List (List Key×V)),H d=some (.dT kvs)∧t σ H fun v H2=>∃o,H2 d=some (.frz o (.dT kvs))∧Q v (upd H2 d (.dT kvs))
theorem pe_thwT {e:Expr} {t:TE} (h:PE X e t):PE X e (tThw t):=by
 intro pins s σ H Q I hw
 obtain ⟨d,kvs,hd,q⟩:=hw
 obtain ⟨_,_,nf⟩:=I.freezeT hd
 exact thn (h pins s σ _ _ I q) fun v s1 ⟨x,H1,I2,r,o,hd2,q2⟩=>⟨x,_,I2.thawT nf hd2,r,q2⟩
theorem comp_itemsT {d:Addr} {o:Obj} {kvs:List (List Key×V)} {k:Nat} {g:TG} {tt:TT} {te:TE} {σ:St} {H:Hp} {Q:VK} (Pv:Nat→List V→Hp→Prop) (h0:Pv 0 [] H) (hl:∀i ys H,Pv i ys H→H d=some (.frz o (.dT kvs))∧ys.length<sizeLine)
  (hs:∀i p b T ys H (C:List V→Hp→Prop),kvs[i]?=some p→H b=some (.tup (p.1.map kV))→H T=none→Pv i ys H→(∀ys' H',Pv (i+1) ys' H'→C ys' H')→g (.ref T) (List.replicate k none++σ) (upd H T (.tup [.ref b,p.2])) fun σ2 H2=>Wk σ2 (List.replicate k none++σ)∧tt σ2 H2 fun ok H3=>
   if ok=true then te σ2 H3 fun y H4=>C (ys++[y]) H4 else C ys H3)
  (hd:∀ys H,Pv kvs.length ys H→ys.length≤sizeLine∧∀p,H p=none→Q (.ref p) (upd H p (.lst ys))):CompR (Itit d kvs o) H k g tt te σ Q:=by
 refine ⟨fun i m ys H=>m=kvs.length - i∧i≤kvs.length∧Pv i ys H,⟨kvs.length,by simp,Nat.zero_le _,h0⟩,?_⟩
 rintro i m ys H ⟨rfl,hi,p⟩
 have q:=hl i ys H p
 by_cases hlt:i<kvs.length
 ·refine .inr ⟨⟨hlt,q.1⟩,q.2,fun v H' y=>?_⟩
  obtain ⟨T,p',b,hp',rfl,hb,nT,rfl⟩:=y
  exact hs i p' b T ys H (fun ys' H'=>∃m',m'<kvs.length - i∧m'=kvs.length - (i+1)∧i+1≤kvs.length∧Pv (i+1) ys' H') hp' hb nT p fun ys' H' p'=>⟨_,by omega,rfl,hlt,p'⟩
 ·have e:i=kvs.length:=by omega
  subst e
  exact .inl ⟨⟨Nat.le_refl _,q.1⟩,hd ys H p⟩
end
end L2
namespace K33
open PySem L2 Ld
noncomputable def spDue33:Sp:=fun vs H Q _=>∃(r q p:Addr) (ts:List Th) (room deep total:Int) (qs paper:Sps),vs=[.ref r,.ref q,.ref p]∧DV H (.ref r) (strD ts)∧ts.length≤200∧LadAt H q room deep total qs∧(qs.map (·.1)).Nodup∧qs.length≤400∧0≤deep∧deep≤20∧PprAt H p paper∧paper.length≤700∧∀H',Same H H'→Q (.bl (dueB deep total ts qs paper)) H'
theorem std_snoc {ts:List Th} {i:Nat} {t:Th} (h:ts[i]?=some t):stdS (ts.take (i+1))=putS (stdS (ts.take i)) (0,t.num) (cnt (stdS (ts.take i)) (0,t.num)+t.many):=by
 unfold stdS stdR
 rw [take_one h,List.map_append,List.map_cons,List.map_nil,add_snoc]
theorem put_len_in {ps:Sps} {k:Int×Int} {n:Int} (h:k∈ps.map (·.1)):(putS ps k n).length=ps.length:=by
 have:=congrArg List.length (put_keys ps k n)
 rw [if_pos h,List.length_map,List.length_map] at this
 exact this
theorem moveL_len {ls:Sps} {k:Int×Int} {m:Int} (h:k∈ls.map (·.1)):(moveL ls k m).length≤ls.length+1:=by
 have a:=put_len_in (n:=cnt ls k - m) h
 have b:=put_len (putS ls k (cnt ls k - m)) (par1 k) (cnt (putS ls k (cnt ls k - m)) (par1 k)+m)
 unfold moveL
 omega
theorem moveL_nd {ls:Sps} {k:Int×Int} {m:Int} (h:(ls.map (·.1)).Nodup):((moveL ls k m).map (·.1)).Nodup:=put_nd (put_nd h)
theorem filter_one {α:Type} {l:List α} {f:α→Bool} {i:Nat} {x:α} (h:l[i]?=some x):(l.take (i+1)).filter f=(l.take i).filter f++(if f x=true then [x] else []):=by
 rw [take_one h,List.filter_append,List.filter_cons,List.filter_nil]
theorem tv_vals (ps:Sps):(tvOf ps).map (·.2)=(ps.map (·.2)).map V.int:=by
 unfold tvOf
 rw [List.map_map,List.map_map]
 rfl
section
variable {P:Program} {w:World} {K:PySem.W.Frag} {mg:Str→Option Value} {base:Heap} {f:Addr} {fd:FuncData}
theorem ok_due (z_sum:mg "sum"=none) (z_dict:mg "dict"=none) (F:Fun K "_law_due" "_law_due" s_l_due f fd):FnOk P w K mg base CX0 1 f fd ["_law_stream_here","_law_ladder","_law_paper"] spDue33:=by
 refine F.ok sc_l_due (fun vs H Q E h=>?_) (fun cdv A outer s H vs Q E hr h=>?_)
 ·obtain ⟨r,q,p,ts,room,deep,total,qs,paper,rfl,_⟩:=h
  rfl
 obtain ⟨r,q,p,ts,room,deep,total,qs,paper,rfl,k_r,tl,lad,nq,ql,d0,d1,⟨bs,e_p,pb⟩,pl,hq⟩:=h
 obtain ⟨c,as,e_q,e_c,pr⟩:=lad.at_
 obtain ⟨_,xs,e0,e_r,dx⟩:=DV.list_inv k_r
 cases e0
 have xl:=dx.length
 rw [List.length_map] at xl
 have hF1:(∃t∈ts,¬t.num<2 ^ deep.toNat)→dueB deep total ts qs paper=false:=fun ⟨t,ht,z⟩=>by
  have e:(ts.all fun t=>decide (t.num<2 ^ deep.toNat))=false:=Bool.eq_false_iff.mpr fun y=>z (of_decide_eq_true (List.all_eq_true.mp y t ht))
  unfold dueB
  rw [e,Bool.false_and]
 have hF2:sumS (stdS ts)≠total→dueB deep total ts qs paper=false:=fun h=>by
  unfold dueB
  rw [decide_eq_false h,Bool.false_and,Bool.and_false]
 have hT:(∀t∈ts,t.num<2 ^ deep.toNat)→sumS (stdS ts)=total→dueB deep total ts qs paper=chkL deep qs (stdS ts) paper:=fun h1 h2=>by
  unfold dueB
  rw [decide_eq_true h2,List.all_eq_true.mpr fun t ht=>decide_eq_true (h1 t ht),Bool.true_and,Bool.true_and]
 generalize dueB deep total ts qs paper=B at hq hF1 hF2 hT
 refine ⟨_,(@pss_cons _ _ _ _ _ (ps_asg (pv 1) (pg_tup rfl (pgs_cons (pg_name (i:=3) sc_l_due.nd rfl (Or.inl rfl)) (pgs_cons (pg_name (i:=4) sc_l_due.nd rfl (Or.inl rfl)) (pgs_cons (pg_name (i:=5) sc_l_due.nd rfl (Or.inl rfl)) (pgs_cons (pg_name (i:=6) sc_l_due.nd rfl (Or.inl rfl)) pgs_nil)))))) pss_run),?_⟩
 refine ⟨_,rfl,q,_,rfl,SqT.of e_q,rfl,_,_,rfl,_,_,rfl,_,_,rfl,_,_,rfl,rfl,?_⟩
 refine ⟨_,(@pss_cons _ _ _ _ _ (@ps_set _ _ 7 _ _ _ _ sc_l_due.nd rfl (Or.inl rfl) pe_dnewT (by rfl) (by first | exact .inl rfl | exact .inr rfl)) pss_run),fun d n_d=>?_⟩
 have g1:=same_laid n_d (.dT [])
 have e_d:(upd H d (.dT [])) d=some (.dT (tvOf (stdS (ts.take 0)))):=upd_same
 generalize upd H d (.dT [])=H1 at g1 e_d ⊢
 refine ⟨_,(@pss_cons _ _ _ _ _ (ps_for PassesOwn.never rfl (pi_list (pv 0)) (pg_tup rfl (pgs_cons (pg_name (i:=8) sc_l_due.nd rfl (Or.inl rfl)) (pgs_cons (pg_name (i:=9) sc_l_due.nd rfl (Or.inl rfl)) (pgs_cons (pg_name (i:=10) sc_l_due.nd rfl (Or.inl rfl)) (pgs_cons (pg_name (i:=11) sc_l_due.nd rfl (Or.inl rfl)) pgs_nil)))))
 (@pss_cons _ _ _ _ _ (@ps_if _ _ _ _ _ _ _ _ (@pt_cmpR _ _ _ _ _ _ _ _ op_ge (pv 10) (@pe_op _ _ _ _ _ _ _ _ op_shl pe_int (pv 4)) (nomark _)) (@pss_one _ _ _ (@ps_ret _ _ _ _ pe_bl)) pss_nil)
 (@pss_one _ _ _ (ps_dput (hu_of hr) (pv 7) (@pe_tup _ _ _ _ _ (@pa_cons _ _ _ _ _ pe_int (@pa_cons _ _ _ _ _ (pv 10) pa_nil (by rfl)) (by rfl))) (@pe_op _ _ _ _ _ _ _ _ op_add (pe_dget2 (hu_of hr) (pv 7) (@pe_tup _ _ _ _ _ (@pa_cons _ _ _ _ _ pe_int (@pa_cons _ _ _ _ _ (pv 10) pa_nil (by rfl)) (by rfl))) pe_int ⟨rfl,rfl,rfl,rfl⟩) (pv 11)) rfl)))) pss_run),?_⟩
 refine ⟨_,rfl,r,rfl,⟨_,SqL.of (g1 _ _ e_r)⟩,?_⟩
 refine for_listH (xs:=xs) (fun i σ H'=>∃(o8 o9 o10 o11:Option V),σ=[some (.ref r),some (.ref q),some (.ref p),some (.int room),some (.int deep),some (.ref c),some (.int total),some (.ref d),o8,o9,o10,o11,none,none]∧Same H H'∧H' d=some (.dT (tvOf (stdS (ts.take i))))∧∀t∈ts.take i,t.num<2 ^ deep.toNat) ⟨_,_,_,_,rfl,g1,e_d,fun _ h=>absurd h List.not_mem_nil⟩ ?_ ?_ ?_
 ·rintro i σ H' _ ⟨_,_,_,_,_,g,_⟩
  exact SqL.of (g _ _ e_r)
 ·rintro i x σ H' N B1 R hN hR hx ⟨o8,o9,o10,o11,rfl,g,ed,al⟩
  obtain ⟨t,c',ht,rfl,ec,mt⟩:=DVs.th_at dx hx
  have ec:=g _ _ ec
  have il:i<ts.length:=(List.getElem?_eq_some_iff.mp ht).1
  refine ⟨c',_,rfl,SqT.of ec,rfl,_,_,rfl,_,_,rfl,_,_,rfl,_,_,rfl,rfl,?_⟩
  refine ⟨_,rfl,_,rfl,_,_,rfl,rfl,⟨by omega,by omega,by decide⟩,_,_,rfl,rfl,_,rfl,?_⟩
  have e1:(1:Int) * 2 ^ deep.toNat=2 ^ deep.toNat:=Int.one_mul _
  refine ite2 (fun c1=>?_) (fun c1=>?_)
  ·have c1:(1:Int) * 2 ^ deep.toNat≤t.num:=of_decide_eq_true c1
   rw [hF1 ⟨t,mt,by omega⟩] at hq
   exact hR _ _ (hq _ g)
  have c1:¬(1:Int) * 2 ^ deep.toNat≤t.num:=of_decide_eq_false (Bool.eq_false_iff.mpr c1)
  have st:=std_snoc ht
  have sl:=std_len (ts.take i)
  rw [List.length_take] at sl
  have al2:∀t∈ts.take (i+1),t.num<2 ^ deep.toNat:=fun y hy=>by
   rw [take_one ht] at hy
   rcases List.mem_append.mp hy with hy | hy
   ·exact al y hy
   ·rw [List.mem_singleton.mp hy]
    omega
  have hN:∀(H':Hp),Same H H'→H' d=some (.dT (tvOf (putS (stdS (ts.take i)) (0,t.num) (cnt (stdS (ts.take i)) (0,t.num)+t.many))))→N [some (.ref r),some (.ref q),some (.ref p),some (.int room),some (.int deep),some (.ref c),some (.int total),some (.ref d),some (.int t.day),some (.str t.word),some (.int t.num),some (.int t.many),none,none] H':=fun H' g e=>hN _ _ ⟨_,_,_,_,rfl,g,by rw [st];exact e,al2⟩
  generalize stdS (ts.take i)=zs at ed sl hN
  refine ⟨_,rfl,d,rfl,.inr ⟨_,.inl ed⟩,_,rfl,leN rfl,fun a na=>?_⟩
  have s2:=same_laid na (.tup [.int 0,.int t.num])
  have e_a:KAt (upd H' a (.tup [.int 0,.int t.num])) a (0,t.num):=upd_same
  have g2:=g.trans s2
  have ed2:=s2 _ _ ed
  generalize upd H' a (.tup [.int 0,.int t.num])=H2 at g2 e_a ed2 ⊢
  refine ⟨_,get_int ed2 e_a,_,rfl,_,_,cnt_look _ _,rfl,_,rfl,_,rfl,leN rfl,fun b nb=>?_⟩
  have s3:=same_laid nb (.tup [.int 0,.int t.num])
  have e_b:KAt (upd H2 b (.tup [.int 0,.int t.num])) b (0,t.num):=upd_same
  have g3:=g2.trans s3
  have ed3:=s3 _ _ ed2
  generalize upd H2 b (.tup [.int 0,.int t.num])=H3 at g3 e_b ed3 ⊢
  refine ⟨d,_,rfl,DPut.t (k:=kk (0,t.num)) ed3 e_b (small_lt (by rw [tvOf_len];omega)),?_⟩
  refine hN _ (fun x w e=>?_) (by rw [←put_tv];exact upd_same)
  rw [upd_ne (ne_of_none e n_d)]
  exact g3 _ _ e
 rintro σ H2 ⟨o8,o9,o10,o11,rfl,gg,ed,al⟩
 rw [xl,List.take_length] at ed al
 have hT:=hT al
 have sl:=std_len ts
 have nS:((stdS ts).map (·.1)).Nodup:=add_nd List.nodup_nil
 clear hF1 al
 generalize stdS ts=S at ed hF2 hT sl nS
 refine ⟨_,(@pss_cons _ _ _ _ _ (@ps_if _ _ _ _ _ _ _ _ (@pt_cmpR _ _ _ _ _ _ _ _ op_ne (pe_callB (call_sumVT rfl) rfl z_sum PyProof.Rows.boot_sum (@pa_cons _ _ _ _ _ (pe_bm0 PySem.F.plainAttrs_dict PySem.F.slot_dict_values PySem.F.type_dict_values mt_valuesT (pv 7)) pa_nil (by rfl))) (pv 6) (nomark _)) (@pss_one _ _ _ (@ps_ret _ _ _ _ pe_bl)) pss_nil) pss_run),?_⟩
 refine ⟨_,rfl,tyV_dT ed,d,_,rfl,rfl,ed,fun v nv=>?_⟩
 have s3:=same_laid nv (vView v d)
 refine ⟨v,d,_,S.map (·.2),rfl,upd_same,s3 _ _ ed,tv_vals S,?_⟩
 have gg:=gg.trans s3
 have ed:=s3 _ _ ed
 generalize upd H2 v (vView v d)=H3 at gg ed ⊢
 refine ⟨_,rfl,rfl,_,rfl,ite2 (fun c1=>?_) (fun c1=>?_)⟩
 ·have c1:sumS S≠total:=by
   intro z
   have:¬(S.map (·.2)).sum=total:=by simpa using c1
   exact this z
  rw [hF2 c1] at hq
  exact hq _ gg
 have c1:sumS S=total:=by
  have:(S.map (·.2)).sum=total:=by simpa using c1
  exact this
 rw [hT c1] at hq
 clear hF2 hT c1
 refine ⟨_,(@pss_cons _ _ _ _ _ (ps_for PassesOwn.never rfl (pi_list (pv 2)) (pg_tup rfl (pgs_cons (pg_name (i:=12) sc_l_due.nd rfl (Or.inl rfl)) (pgs_cons (pg_name (i:=11) sc_l_due.nd rfl (Or.inl rfl)) pgs_nil)))
 (@pss_cons _ _ _ _ _ (@ps_if _ _ _ _ _ _ _ _ (PW.pt (@pw_or _ _ _ _ _ _ _ (@pt_cmpR _ _ _ _ _ _ _ _ op_lt (pv 11) pe_int (nomark _)) (@pw_or _ _ _ _ _ _ _ (@pt_not _ _ _ _ (pt_chain op_le op_lt pe_int (@pe_ix _ _ _ _ _ _ _ ix_tup (pv 12) pe_int (fun _ _=>rfl)) (pv 4))) (@pw_or1 _ _ _ _ (@pt_cmpR _ _ _ _ _ _ _ _ op_lt (pe_dget2 (hu_of hr) (pv 7) (pv 12) pe_int ⟨rfl,rfl,rfl,rfl⟩) (pv 11) (nomark _)))))) (@pss_one _ _ _ (@ps_ret _ _ _ _ pe_bl)) pss_nil)
 (@pss_cons _ _ _ _ _ (@ps_set _ _ 13 _ _ _ _ sc_l_due.nd rfl (Or.inl rfl) (@pe_tup _ _ _ _ _ (@pa_cons _ _ _ _ _ (@pe_op _ _ _ _ _ _ _ _ op_add (@pe_ix _ _ _ _ _ _ _ ix_tup (pv 12) pe_int (fun _ _=>rfl)) pe_int) (@pa_cons _ _ _ _ _ (@pe_op _ _ _ _ _ _ _ _ op_fdiv (@pe_ix _ _ _ _ _ _ _ ix_tup (pv 12) pe_int (fun _ _=>rfl)) pe_int) pa_nil (by rfl)) (by rfl))) (by rfl) (by first | exact .inl rfl | exact .inr rfl))
 (@pss_cons _ _ _ _ _ (ps_dput (hu_of hr) (pv 7) (pv 12) (@pe_op _ _ _ _ _ _ _ _ op_sub (pe_dget (hu_of hr) (pv 7) (pv 12) (fun _ _=>rfl)) (pv 11)) rfl)
 (@pss_one _ _ _ (ps_dput (hu_of hr) (pv 7) (pv 13) (@pe_op _ _ _ _ _ _ _ _ op_add (pe_dget2 (hu_of hr) (pv 7) (pv 13) pe_int ⟨rfl,rfl,rfl,rfl⟩) (pv 11)) rfl)))))) pss_run),?_⟩
 refine ⟨_,rfl,p,rfl,⟨_,SqL.of (gg _ _ e_p)⟩,?_⟩
 have bl:=Paired.length pb
 refine for_listH (xs:=bs.map V.ref) (fun i σ H'=>∃(o11 o12 o13:Option V) (ls:Sps),σ=[some (.ref r),some (.ref q),some (.ref p),some (.int room),some (.int deep),some (.ref c),some (.int total),some (.ref d),o8,o9,o10,o11,o12,o13]∧Same H H'∧H' d=some (.dT (tvOf ls))∧ls.length≤200+i∧(ls.map (·.1)).Nodup∧chkL deep qs ls (paper.drop i)=chkL deep qs S paper) ⟨_,_,_,S,rfl,gg,ed,by omega,nS,rfl⟩ ?_ ?_ ?_
 ·rintro i σ H' _ ⟨_,_,_,_,_,g,_⟩
  exact SqL.of (g _ _ e_p)
 ·rintro i x σ H' N B1 R hN hR hx ⟨o11,o12,o13,ls,rfl,g,ed,al,nl,key⟩
  obtain ⟨a,⟨k,m⟩,rfl,hp,b,e_a,e_b⟩:=ft_get pb hx
  have il:i<paper.length:=(List.getElem?_eq_some_iff.mp hp).1
  have e_a:=g _ _ e_a
  have e_b:KAt H' b k:=g _ _ e_b
  rw [drop_one hp] at key
  have key:(if m<1∨¬(0≤k.1∧k.1<deep)∨cnt ls k<m then false else chkL deep qs (moveL ls k m) (paper.drop (i+1)))=chkL deep qs S paper:=key
  refine ⟨a,_,rfl,SqT.of e_a,rfl,_,_,rfl,_,_,rfl,rfl,?_⟩
  refine ⟨_,rfl,_,_,rfl,rfl,_,rfl,ite2 (fun c1=>iteT ?_) (fun c1=>?_)⟩
  ·rw [if_pos (.inl (of_decide_eq_true c1))] at key
   rw [←key] at hq
   exact hR _ _ (hq _ g)
  have c1:¬m<1:=of_decide_eq_false (Bool.eq_false_iff.mpr c1)
  refine ⟨_,rfl,b,_,0,_,rfl,rfl,SqT.of e_b,rfl,_,_,rfl,rfl,_,rfl,ite2 (fun c2=>?_) (fun c2=>?_)⟩
  case refine_2=>
   have c2:¬0≤k.1:=of_decide_eq_false (Bool.eq_false_iff.mpr c2)
   rw [if_pos (.inr (.inl fun z=>c2 z.1))] at key
   rw [←key] at hq
   exact ⟨_,rfl,iteT (iteT (hR _ _ (hq _ g)))⟩
  have c2:0≤k.1:=of_decide_eq_true c2
  refine ⟨_,rfl,_,_,rfl,rfl,_,rfl,?_⟩
  by_cases c3:k.1<deep
  case neg=>
   rw [if_pos (.inr (.inl fun z=>c3 z.2))] at key
   rw [←key] at hq
   rw [decide_eq_false c3]
   exact iteT (iteT (hR _ _ (hq _ g)))
  rw [decide_eq_true c3]
  refine iteF ⟨_,rfl,d,rfl,.inr ⟨_,.inl ed⟩,_,rfl,_,get_int ed e_b,_,rfl,_,_,cnt_look _ _,rfl,_,rfl,ite2 (fun c4=>?_) (fun c4=>?_)⟩
  ·rw [if_pos (.inr (.inr (of_decide_eq_true c4)))] at key
   rw [←key] at hq
   exact hR _ _ (hq _ g)
  have c4:¬cnt ls k<m:=of_decide_eq_false (Bool.eq_false_iff.mpr c4)
  rw [if_neg fun h=>h.elim c1 fun h=>h.elim (fun z=>z ⟨c2,c3⟩) c4] at key
  have hk:k∈ls.map (·.1):=cnt_in (by omega)
  have lk:=look_key hk
  have l1:=moveL_len (m:=m) hk
  have l0:=put_len_in (n:=cnt ls k - m) hk
  have n1:=moveL_nd (k:=k) (m:=m) nl
  refine ⟨_,rfl,b,_,0,_,rfl,rfl,SqT.of e_b,rfl,_,_,rfl,rfl,_,rfl,b,_,1,_,rfl,rfl,SqT.of e_b,rfl,_,_,rfl,rfl,⟨by decide,by decide⟩,leN rfl,fun u nu=>?_⟩
  have s4:=same_laid nu (.tup [.int (k.1+1),.int (k.2 / 2)])
  have e_u:KAt (upd H' u (.tup [.int (k.1+1),.int (k.2 / 2)])) u (par1 k):=upd_same
  have g4:=g.trans s4
  have ed4:=s4 _ _ ed
  have e_b4:KAt _ b k:=s4 _ _ e_b
  generalize upd H' u (.tup [.int (k.1+1),.int (k.2 / 2)])=H4 at g4 e_u ed4 e_b4 ⊢
  refine ⟨_,rfl,_,rfl,d,.int (cnt ls k),rfl,by rw [←lk];exact get_int ed4 e_b4,_,rfl,_,_,rfl,rfl,_,rfl,_,rfl,d,_,rfl,DPut.t (k:=kk k) ed4 e_b4 (small_lt (by rw [tvOf_len];omega)),?_⟩
  have tupd:∀{H:Hp} {b:Addr} {j:Int×Int} {kvs:List (List Key×V)} {o:HO},H d=some (.dT kvs)→KAt H b j→KAt (upd H d o) b j:=fun {H b j kvs o} e eb=>by
   show upd H d o b=_
   rw [upd_ne (ne_of eb e (by intro z;cases z))]
   exact eb
  have sm5:∀{H0:Hp} {o:HO},Same H H0→Same H (upd H0 d o):=fun g x w e=>by
   rw [upd_ne (ne_of_none e n_d)]
   exact g _ _ e
  have g5:=sm5 (o:=.dT (putK (tvOf ls) (kk k) (.int (cnt ls k - m)))) g4
  have e_u5:=tupd (o:=.dT (putK (tvOf ls) (kk k) (.int (cnt ls k - m)))) ed4 e_u
  have ed5:(upd H4 d (.dT (putK (tvOf ls) (kk k) (.int (cnt ls k - m))))) d=some (.dT (tvOf (putS ls k (cnt ls k - m)))):=by rw [←put_tv];exact upd_same
  generalize upd H4 d (.dT (putK (tvOf ls) (kk k) (.int (cnt ls k - m))))=H5 at g5 e_u5 ed5 ⊢
  refine ⟨_,rfl,d,rfl,.inr ⟨_,.inl ed5⟩,_,rfl,_,get_int ed5 e_u5,_,rfl,_,_,cnt_look _ _,rfl,_,rfl,_,rfl,d,_,rfl,DPut.t (k:=kk (par1 k)) ed5 e_u5 (small_lt (by rw [tvOf_len];omega)),?_⟩
  exact hN _ _ ⟨_,_,_,moveL ls k m,rfl,sm5 g5,by unfold moveL;rw [←put_tv (putS ls k (cnt ls k - m))];exact upd_same,by omega,n1,key⟩
 ·rintro σ H' ⟨o11,o12,o13,ls,rfl,g,ed,al,nl,key⟩
  rw [List.length_map,bl] at al
  rw [List.length_map,bl,List.drop_length] at key
  have key:eqB qs (ls.filter fun p=>decide (0<p.2))=chkL deep qs S paper:=key
  rw [←key] at hq
  refine ⟨_,(@pss_one _ _ _ (@ps_ret _ _ _ _ (@pe_cmpR _ _ _ _ _ _ _ _ (op_eqDT hr.units) (pe_callTy (call_dictTT rfl hr.units) rfl z_dict PyProof.Rows.boot_dict (@pa_cons _ _ _ _ _ (pv 5) pa_nil (by rfl))) (pe_callTy (call_dictLT rfl hr.units) rfl z_dict PyProof.Rows.boot_dict (@pa_cons _ _ _ _ _ (pe_thwT (pe_comp (own:=["_law_one"]) (CompOk.of rfl rfl (by rfl) (by rfl) (by rfl)) (pi_itemsT (pe_bm0 PySem.F.plainAttrs_dict PySem.F.slot_dict_items PySem.F.type_dict_items mt_itemsT (pv 7)))
  (fun _ _ _ _ _=>(pg_name (i:=0) nd_l_due_151_37 rfl (Or.inl rfl) (Or.inr rfl))) (fun _ _ _ _ _=>(pts_one (@pt_cmpR _ _ _ _ _ _ _ _ op_gt (@pe_ix _ _ _ _ _ _ _ (ix_tupK K rfl) (pv 0) pe_int (fun _ _=>rfl)) pe_int (nomark _))))
  (fun _ _ _ _ _=>(pv 0)))) pa_nil (by rfl))) (nomark _)))),?_⟩
  refine ⟨_,rfl,c,_,_,rfl,g _ _ e_c,ft_tps (Paired.mapP pr fun _ _ f=>ft_mono g f),by rw [tvOf_len];omega,fun z nz=>?_⟩
  rw [mrgTV_nd (nd_tv nq)]
  have s4:=same_laid nz (.dT (tvOf qs))
  have g4:=g.trans s4
  have e_z:(upd H' z (.dT (tvOf qs))) z=some (.dT (tvOf qs)):=upd_same
  have ed:=s4 _ _ ed
  generalize upd H' z (.dT (tvOf qs))=H4 at g4 e_z ed ⊢
  refine ⟨d,_,ed,_,rfl,tyV_dT ed,d,_,rfl,rfl,ed,fun v nv=>?_⟩
  have s5:=same_laid nv (iView v d)
  have g5:=g4.trans s5
  have e_z:=s5 _ _ e_z
  have ed5:=s5 _ _ ed
  have e_v:(upd H4 v (iView v d)) v=some (iView v d):=upd_same
  generalize upd H4 v (iView v d)=H5 at g5 e_z ed5 e_v ⊢
  refine ⟨v,d,_,rfl,e_v,ed5,fun o=>?_⟩
  refine comp_itemsT (fun i ys H'=>Same (upd H5 d (.frz o (.dT (tvOf ls)))) H'∧∃as:List Addr,ys=as.map V.ref∧Paired (FT H') as ((ls.take i).filter fun p=>decide (0<p.2))) ⟨Same.refl _,[],rfl,.nil⟩ ?_ ?_ ?_
  ·rintro i ys H' ⟨g6,as,rfl,pa⟩
   refine ⟨g6 _ _ upd_same,small_lt ?_⟩
   have:=Paired.length pa
   have l2:=List.length_filter_le (fun p:(Int×Int)×Int=>decide (0<p.2)) (ls.take i)
   rw [List.length_take] at l2
   rw [List.length_map]
   omega
  ·rintro i p0 b T ys H6 C hp0 e_b nT ⟨g6,as,rfl,pa⟩ hC
   obtain ⟨e,he,rfl⟩:=tv_get hp0
   have e_b:KAt H6 b e.1:=e_b
   have s7:=same_laid nT (.tup [.ref b,.int e.2])
   have e_T:(upd H6 T (.tup [.ref b,.int e.2])) T=some (.tup [.ref b,.int e.2]):=upd_same
   have e_b:KAt (upd H6 T (.tup [.ref b,.int e.2])) b e.1:=s7 _ _ e_b
   have g7:=g6.trans s7
   have pa:=Paired.mapP pa fun _ _ f=>ft_mono s7 f
   generalize upd H6 T (.tup [.ref b,.int e.2])=H7 at g7 e_T e_b pa ⊢
   refine ⟨Wk.refl _,_,rfl,T,_,1,_,rfl,rfl,SqT.of e_T,rfl,_,_,rfl,rfl,_,rfl,ite2 (fun c1=>?_) (fun c1=>?_)⟩
   ·refine ⟨_,rfl,hC _ _ ⟨g7,as++[T],by rw [List.map_append];rfl,?_⟩⟩
    rw [filter_one he,if_pos c1]
    exact Paired.snoc pa ⟨b,e_T,e_b⟩
   ·refine hC _ _ ⟨g7,as,rfl,?_⟩
    rw [filter_one he,if_neg c1,List.append_nil]
    exact pa
  rintro ys H6 ⟨g6,as,rfl,pa⟩
  rw [tvOf_len,List.take_length] at pa
  have fl:=List.length_filter_le (fun p:(Int×Int)×Int=>decide (0<p.2)) ls
  have nf:((ls.filter fun p=>decide (0<p.2)).map (·.1)).Nodup:=List.Sublist.nodup (List.filter_sublist.map _) nl
  generalize (ls.filter fun p=>decide (0<p.2))=fs at hq pa fl nf
  have al2:=Paired.length pa
  refine ⟨small_le (by rw [List.length_map];omega),fun l n_l=>?_⟩
  have ld:l≠d:=fun z=>by rw [z,g6 _ _ upd_same] at n_l;cases n_l
  have s7:=same_laid n_l (.lst (as.map V.ref))
  have g7:=g6.trans s7
  have sz:=thaw_same ed5 g7
  refine ⟨o,g7 _ _ upd_same,?_⟩
  have pa:Paired (FT (upd (upd H6 l (.lst (as.map V.ref))) d (.dT (tvOf ls)))) as fs:=Paired.mapP pa fun x y fx=>by
   obtain ⟨b,f1,f2⟩:=ft_mono s7 fx
   have k1:=g7 d _ upd_same
   exact ⟨b,by rw [upd_ne (ne_of f1 k1 (by intro z;cases z))];exact f1,by rw [upd_ne (ne_of f2 k1 (by intro z;cases z))];exact f2⟩
  have e_l:(upd (upd H6 l (.lst (as.map V.ref))) d (.dT (tvOf ls))) l=some (.lst (as.map V.ref)):=by rw [upd_ne ld];exact upd_same
  generalize upd (upd H6 l (.lst (as.map V.ref))) d (.dT (tvOf ls))=H7 at sz pa e_l ⊢
  refine ⟨l,_,_,rfl,SqL.of e_l,ft_tps pa,by rw [tvOf_len];omega,fun y ny=>?_⟩
  rw [mrgTV_nd (nd_tv nf)]
  have s8:=same_laid ny (.dT (tvOf fs))
  exact ⟨z,y,qs,fs,rfl,rfl,s8 _ _ (sz _ _ e_z),upd_same,hq _ (g5.trans (sz.trans s8))⟩
end
end K33
namespace K33
open PySem L2 Ld
noncomputable def hgt:List Key→Int
 | .inl h::_=>h
 | _=>0
noncomputable def meaT (deep:Int) (kvs:List (List Key×V)):Nat:=(kvs.map fun kv=>(deep+1 - hgt kv.1).toNat).sum
theorem meaT_tv (deep:Int) (ps:Sps):meaT deep (tvOf ps)=mea deep (ps.map (·.1)):=by
 unfold meaT mea tvOf
 rw [List.map_map,List.map_map]
 rfl
noncomputable def muD (deep:Int) (d:Addr) (H:Hp):Nat:=match H d with
 | some (.dT kvs)=>meaT deep kvs
 | _=>0
theorem muD_at {deep:Int} {d:Addr} {H:Hp} {ps:Sps} (e:H d=some (.dT (tvOf ps))):muD deep d H=mea deep (ps.map (·.1)):=by
 unfold muD
 rw [e]
 exact meaT_tv deep ps
noncomputable def pjs (ps:Sps) (h j:Int):Nat→Sps
 | 0=>ps
 | 1=>foldI ps (loK h j)
 | _=>stepP ps h j
noncomputable def tjs (ps:Sps) (h j:Int):Nat→Sps
 | 0=>[]
 | 1=>told1 ps (loK h j)
 | _=>flP ps h j
noncomputable def kjs (h j:Int):Nat→Int×Int
 | 0=>loK h j
 | _=>hiK h j
theorem pjs_succ (ps:Sps) (h j:Int) {i:Nat} (hi:i<2):pjs ps h j (i+1)=foldI (pjs ps h j i) (kjs h j i)∧tjs ps h j (i+1)=tjs ps h j i++told1 (pjs ps h j i) (kjs h j i):=by
 match i,hi with
 | 0,_=>exact ⟨rfl,rfl⟩
 | 1,_=>exact ⟨rfl,by show told1 ps _++told1 ps _=told1 ps _++told1 (foldI ps (loK h j)) (hiK h j);rw [told_hi]⟩
noncomputable def spLF:Sp:=fun vs H Q _=>∃(deep bar:Int) (d:Addr) (ps:Sps),vs=[.ref d,.int deep,.int bar]∧H d=some (.dT (tvOf ps))∧ps.length<64∧(∀H',Same H H'→Nof deep bar ps→Q .non H')∧∀(p:Addr) (h j:Int) (H':Hp),Same H H'→KAt H' p (loK h j)→Fst deep bar ps h j→Q (.ref p) H'
noncomputable def spSet33:Sp:=fun vs H Q _=>∃(q:Addr) (room deep total:Int) (ps:Sps),vs=[.ref q]∧LadAt H q room deep total ps∧1≤room∧room≤20∧deep≤20∧Kok deep (ps.map (·.1))∧ps.length<64∧
 ∀(t r l:Addr) (H':Hp),Same H H'→H' t=some (.tup [.ref r,.ref l])→LadAt H' r room deep total (setl deep (total / room) ps)→PprAt H' l (flds deep (total / room) ps)→(flds deep (total / room) ps).length≤1400→Q (.ref t) H'
noncomputable def popF (ps:Sps) (k:Int×Int):Sps:=putS (dropS ps k) (par1 k) (cnt (dropS ps k) (par1 k)+cnt ps k)
theorem popF_nd {ps:Sps} {k:Int×Int} (nd:(ps.map (·.1)).Nodup):((popF ps k).map (·.1)).Nodup:=put_nd (drop_nd nd)
theorem popF_perm {qs ps:Sps} {k:Int×Int} (p:qs.Perm ps) (nq:(qs.map (·.1)).Nodup) (hk:k∈qs.map (·.1)):(popF qs k).Perm (foldI ps k):=by
 have np:=(p.map (·.1)).nodup_iff.mp nq
 have hk':=(p.map (·.1)).mem_iff.mp hk
 refine perm_look (popF_nd nq) (foldI_nd np) fun x=>?_
 unfold popF
 rw [look_foldI,look_put,look_drop,cnt_drop,if_neg (Ne.symm (par_ne k)),cnt_perm p nq,look_perm p nq]
 by_cases e:x=k
 ·rw [if_pos e,if_pos e,if_neg (by rw [e];exact par_ne k)]
 ·rw [if_neg e,if_neg e]
  by_cases z:x=par1 k
  ·rw [if_pos z,if_pos ⟨z,hk'⟩]
  ·rw [if_neg z,if_neg fun q=>z q.1]
structure Stg (H H':Hp) (d L:Addr) (deep:Int) (n0 M:Nat) (ps qs fs:Sps):Prop where
 sm:Same H H'
 ed:H' d=some (.dT (tvOf qs))
 pm:qs.Perm ps
 eL:PprAt H' L fs
 ok:Kok deep (ps.map (·.1))
 le:ps.length≤n0
 few:fs.length+mea deep (ps.map (·.1))≤M
theorem Stg.same {H H1 H2:Hp} {d L:Addr} {deep:Int} {n0 M:Nat} {ps qs fs:Sps} (s:Stg H H1 d L deep n0 M ps qs fs) (g:Same H1 H2):Stg H H2 d L deep n0 M ps qs fs:=⟨s.sm.trans g,g _ _ s.ed,s.pm,s.eL.mono g,s.ok,s.le,s.few⟩
theorem Stg.nq {H H1:Hp} {d L:Addr} {deep:Int} {n0 M:Nat} {ps qs fs:Sps} (s:Stg H H1 d L deep n0 M ps qs fs):(qs.map (·.1)).Nodup:=(s.pm.map _).nodup_iff.mpr s.ok.nd
section
variable {P:Program} {w:World} {K:PySem.W.Frag} {mg:Str→Option Value} {base:Heap} {f:Addr} {fd:FuncData}
theorem ok_lf (z_sorted:mg "sorted"=none) (F:Fun K "_law_first" "_law_first" s_l_first f fd):FnOk P w K mg base CX0 1 f fd ["_law_now","_law_deep","_law_bar"] spLF:=by
 refine F.ok sc_l_first (fun vs H Q E h=>?_) (fun cdv A outer s H vs Q E hr h=>?_)
 ·obtain ⟨deep,bar,d,ps,rfl,_⟩:=h
  rfl
 obtain ⟨deep,bar,d,ps,rfl,e_d,h64,hq0,hq1⟩:=h
 refine ⟨_,(@pss_cons _ _ _ _ _ (ps_for PassesOwn.never rfl (pi_list (pe_callB (call_sortDT rfl hr.units) rfl z_sorted PyProof.Rows.boot_sorted (@pa_cons _ _ _ _ _ (pv 0) pa_nil (by rfl)))) (pg_tup rfl (pgs_cons (pg_name (i:=3) sc_l_first.nd rfl (Or.inl rfl)) (pgs_cons (pg_name (i:=4) sc_l_first.nd rfl (Or.inl rfl)) pgs_nil)))
 (@pss_cons _ _ _ _ _ (@ps_set _ _ 5 _ _ _ _ sc_l_first.nd rfl (Or.inl rfl) (@pe_op _ _ _ _ _ _ _ _ op_add (pe_dget2 (hu_of hr) (pv 0) (@pe_tup _ _ _ _ _ (@pa_cons _ _ _ _ _ (pv 3) (@pa_cons _ _ _ _ _ (@pe_op _ _ _ _ _ _ _ _ op_sub (pv 4) (@pe_op _ _ _ _ _ _ _ _ op_mod (pv 4) pe_int)) pa_nil (by rfl)) (by rfl))) pe_int ⟨rfl,rfl,rfl,rfl⟩) (pe_dget2 (hu_of hr) (pv 0) (@pe_tup _ _ _ _ _ (@pa_cons _ _ _ _ _ (pv 3) (@pa_cons _ _ _ _ _ (@pe_op _ _ _ _ _ _ _ _ op_add (@pe_op _ _ _ _ _ _ _ _ op_sub (pv 4) (@pe_op _ _ _ _ _ _ _ _ op_mod (pv 4) pe_int)) pe_int) pa_nil (by rfl)) (by rfl))) pe_int ⟨rfl,rfl,rfl,rfl⟩)) (by rfl) (by first | exact .inl rfl | exact .inr rfl))
 (@pss_one _ _ _ (@ps_if _ _ _ _ _ _ _ _ (PW.pt (@pw_and _ _ _ _ _ _ _ (@pt_cmpR _ _ _ _ _ _ _ _ op_lt (pv 3) (pv 1) (nomark _)) (@pw_and1 _ _ _ _ (@pt_cmpR _ _ _ _ _ _ _ _ op_le (@pe_op _ _ _ _ _ _ _ _ op_add (pv 5) (pe_dget2 (hu_of hr) (pv 0) (@pe_tup _ _ _ _ _ (@pa_cons _ _ _ _ _ (@pe_op _ _ _ _ _ _ _ _ op_add (pv 3) pe_int) (@pa_cons _ _ _ _ _ (@pe_op _ _ _ _ _ _ _ _ op_fdiv (pv 4) pe_int) pa_nil (by rfl)) (by rfl))) pe_int ⟨rfl,rfl,rfl,rfl⟩)) (pv 2) (nomark _))))) (@pss_one _ _ _ (@ps_ret _ _ _ _ (@pe_tup _ _ _ _ _ (@pa_cons _ _ _ _ _ (pv 3) (@pa_cons _ _ _ _ _ (@pe_op _ _ _ _ _ _ _ _ op_sub (pv 4) (@pe_op _ _ _ _ _ _ _ _ op_mod (pv 4) pe_int)) pa_nil (by rfl)) (by rfl))))) pss_nil))))
 (@pss_one _ _ _ (@ps_ret _ _ _ _ pe_non))),?_⟩
 have gg:Same H H:=Same.refl _
 refine ⟨_,rfl,d,ps,rfl,e_d,h64,fun bs ka=>?_⟩
 intro l n_l
 generalize hz:upd _ l _=H1
 revert H1
 refine blk ?_
 intro H1 hz
 have gz:=laid_same hz n_l
 have e_l:=laid_at hz
 clear hz
 have gg:=gg.trans gz
 have ka:=ka.mono fun b xs e=>gg b _ e
 have bl:=Paired.length ka
 have mk:∀k,k∈srtK (ps.map (·.1))↔k∈ps.map (·.1):=fun k=>(srtK_perm _).mem_iff
 refine ⟨l,rfl,⟨_,SqL.of e_l⟩,?_⟩
 refine for_listH (xs:=bs.map V.ref) (fun i σ H'=>∃o3 o4 o5:Option V,σ=[some (.ref d),some (.int deep),some (.int bar),o3,o4,o5]∧Same H1 H'∧∀(n:Nat) (k:Int×Int),n<i→(srtK (ps.map (·.1)))[n]?=some k→k.1<deep→bar<jn ps k.1 (k.2 / 2)) ⟨_,_,_,rfl,Same.refl _,fun n _ hn=>absurd hn (Nat.not_lt_zero n)⟩ ?_ ?_ ?_
 ·rintro i σ H' _ ⟨_,_,_,_,g,_⟩
  exact SqL.of (g _ _ e_l)
 ·rintro i x σ H2 N B1 R hN hR hx ⟨o3,o4,o5,rfl,g2,bef⟩
  obtain ⟨b,k,rfl,hk,e_b⟩:=ks_get ka hx
  have e_b:=g2 _ _ e_b
  have e_d2:=g2 _ _ (gg _ _ e_d)
  have km:k∈ps.map (·.1):=(mk k).mp (List.mem_of_getElem? hk)
  have nxt:(k.1<deep→bar<jn ps k.1 (k.2 / 2))→∀(n:Nat) (k:Int×Int),n<i+1→(srtK (ps.map (·.1)))[n]?=some k→k.1<deep→bar<jn ps k.1 (k.2 / 2):=fun c n k' hn e=>by
   rcases Nat.lt_succ_iff_lt_or_eq.mp hn with z | z
   ·exact bef n k' z e
   ·rw [z,hk] at e
    cases e
    exact c
  refine ⟨b,_,rfl,SqT.of e_b,rfl,_,_,rfl,_,_,rfl,rfl,?_⟩
  refine ⟨_,rfl,d,rfl,.inr ⟨_,.inl e_d2⟩,_,rfl,_,rfl,_,rfl,_,_,rfl,rfl,posI rfl,_,_,rfl,rfl,leN rfl,fun a na=>?_⟩
  have s3:=same_laid na (.tup [.int k.1,.int (k.2 - k.2 % 2)])
  have e_a:KAt (upd H2 a (.tup [.int k.1,.int (k.2 - k.2 % 2)])) a (loK k.1 (k.2 / 2)):=by show _=some (HO.tup [V.int k.1,V.int (2 * (k.2 / 2))]);rw [←even_of];exact upd_same
  have g3:=g2.trans s3
  have e_d3:=s3 _ _ e_d2
  generalize upd H2 a (.tup [.int k.1,.int (k.2 - k.2 % 2)])=H3 at g3 e_a e_d3 ⊢
  refine ⟨_,get_int e_d3 e_a,?_⟩
  refine ⟨_,rfl,d,rfl,.inr ⟨_,.inl e_d3⟩,_,rfl,_,rfl,_,rfl,_,_,rfl,rfl,posI rfl,_,_,rfl,rfl,_,_,rfl,rfl,leN rfl,fun c na=>?_⟩
  have s4:=same_laid na (.tup [.int k.1,.int (k.2 - k.2 % 2+1)])
  have e_c:KAt (upd H3 c (.tup [.int k.1,.int (k.2 - k.2 % 2+1)])) c (hiK k.1 (k.2 / 2)):=by show _=some (HO.tup [V.int k.1,V.int (2 * (k.2 / 2)+1)]);rw [←even_of];exact upd_same
  have g4:=g3.trans s4
  have e_d4:=s4 _ _ e_d3
  generalize upd H3 c (.tup [.int k.1,.int (k.2 - k.2 % 2+1)])=H4 at g4 e_c e_d4 ⊢
  refine ⟨_,get_int e_d4 e_c,_,_,cnt_look _ _,cnt_look _ _,?_⟩
  refine ⟨_,rfl,_,rfl,_,_,rfl,rfl,_,rfl,ite2 (fun c1=>?_) (fun c1=>iteF ?_)⟩
  ·refine ⟨_,rfl,_,rfl,d,rfl,.inr ⟨_,.inl e_d4⟩,_,rfl,_,_,rfl,rfl,_,rfl,_,_,rfl,rfl,⟨by decide,by decide⟩,leN rfl,fun u na=>?_⟩
   have s5:=same_laid na (.tup [.int (k.1+1),.int (k.2 / 2)])
   have e_u:KAt (upd H4 u (.tup [.int (k.1+1),.int (k.2 / 2)])) u (upK k.1 (k.2 / 2)):=upd_same
   have g5:=g4.trans s5
   have e_d5:=s5 _ _ e_d4
   generalize upd H4 u (.tup [.int (k.1+1),.int (k.2 / 2)])=H5 at g5 e_u e_d5 ⊢
   refine ⟨_,get_int e_d5 e_u,_,_,rfl,cnt_look _ _,_,rfl,_,_,rfl,rfl,_,rfl,ite2 (fun c2=>?_) (fun c2=>?_)⟩
   ·refine ⟨_,rfl,_,rfl,_,rfl,_,_,rfl,rfl,posI rfl,_,_,rfl,rfl,leN rfl,fun v nv=>?_⟩
    have s6:=same_laid nv (.tup [.int k.1,.int (k.2 - k.2 % 2)])
    have e_v:KAt (upd H5 v (.tup [.int k.1,.int (k.2 - k.2 % 2)])) v (loK k.1 (k.2 / 2)):=by show _=some (HO.tup [V.int k.1,V.int (2 * (k.2 / 2))]);rw [←even_of];exact upd_same
    refine hR _ _ (hq1 v k.1 (k.2 / 2) _ (gg.trans (g5.trans s6)) e_v ⟨?_,of_decide_eq_true c1,of_decide_eq_true c2,fun k' hk' h1 h2=>?_⟩)
    ·rcases in_pair k with e | e
     ·exact .inl (by rw [←e];exact km)
     ·exact .inr (by rw [←e];exact km)
    ·obtain ⟨n,hn⟩:=List.getElem?_of_mem ((mk k').mpr hk')
     rcases Nat.lt_or_ge n i with z | z
     ·have:=bef n k' z hn h1
      omega
     ·rcases Nat.lt_or_eq_of_le z with z | z
      ·exact lex_half (pw_at (srtK_pw _) hk hn z)
      ·rw [←z,hk] at hn
       cases hn
       exact .inr ⟨rfl,Int.le_refl _⟩
   ·refine hN _ _ ⟨_,_,_,rfl,g5,nxt fun _=>?_⟩
    have:¬(jn ps k.1 (k.2 / 2)≤bar):=of_decide_eq_false (Bool.eq_false_iff.mpr c2)
    omega
  ·exact hN _ _ ⟨_,_,_,rfl,g4,nxt fun z=>absurd (decide_eq_true z) c1⟩
 ·rintro σ H2 ⟨_,_,_,rfl,g2,all⟩
  refine hq0 _ (gg.trans g2) fun k hk h1=>?_
  obtain ⟨n,hn⟩:=List.getElem?_of_mem ((mk k).mpr hk)
  refine all n k ?_ hn h1
  rw [List.length_map,bl]
  exact (List.getElem?_eq_some_iff.mp hn).1
end
end K33
namespace K33
open PySem L2 Ld
section
variable {P:Program} {w:World} {K:PySem.W.Frag} {mg:Str→Option Value} {base:Heap} {f:Addr} {fd:FuncData}
theorem ok_set33 (z_dict:mg "dict"=none) (z_sorted:mg "sorted"=none) (z_tuple:mg "tuple"=none) (h_l_first:Has P w K mg base "_law_first" 1 ["_law_now","_law_deep","_law_bar"] spLF) (F:Fun K "_law_settled" "_law_settled" s_l_settled f fd):FnOk P w K mg base CX0 2 f fd ["_law_ladder"] spSet33:=by
 refine F.ok sc_l_settled (fun vs H Q E h=>?_) (fun cdv A outer s H vs Q E hr h=>?_)
 ·obtain ⟨q,room,deep,total,ps,rfl,_⟩:=h
  rfl
 obtain ⟨q,room,deep,total,ps,rfl,lad,r0,r1,d1,kok,pl,hq⟩:=h
 obtain ⟨c,as,e_q,e_c,pr⟩:=lad.at_
 refine ⟨_,(@pss_cons _ _ _ _ _ (ps_asg (pv 0) (pg_tup rfl (pgs_cons (pg_name (i:=1) sc_l_settled.nd rfl (Or.inl rfl)) (pgs_cons (pg_name (i:=2) sc_l_settled.nd rfl (Or.inl rfl)) (pgs_cons (pg_name (i:=3) sc_l_settled.nd rfl (Or.inl rfl)) (pgs_cons (pg_name (i:=4) sc_l_settled.nd rfl (Or.inl rfl)) pgs_nil)))))) pss_run),?_⟩
 refine ⟨_,rfl,q,_,rfl,SqT.of e_q,rfl,_,_,rfl,_,_,rfl,_,_,rfl,_,_,rfl,rfl,?_⟩
 refine ⟨_,(@pss_cons _ _ _ _ _ (@ps_set _ _ 5 _ _ _ _ sc_l_settled.nd rfl (Or.inl rfl) (pe_callTy (call_dictTT rfl hr.units) rfl z_dict PyProof.Rows.boot_dict (@pa_cons _ _ _ _ _ (pv 3) pa_nil (by rfl))) (by rfl) (by first | exact .inl rfl | exact .inr rfl)) pss_run),?_⟩
 refine ⟨_,rfl,c,_,_,rfl,e_c,ft_tps pr,by rw [tvOf_len];omega,fun d n_d=>?_⟩
 rw [mrgTV_nd (nd_tv kok.nd)]
 have sm0:=same_laid n_d (.dT (tvOf ps))
 have ed0:(upd H d (.dT (tvOf ps))) d=some (.dT (tvOf ps)):=upd_same
 generalize upd H d (.dT (tvOf ps))=H1 at sm0 ed0 ⊢
 refine ⟨_,(@pss_cons _ _ _ _ _ (@ps_set _ _ 6 _ _ _ _ sc_l_settled.nd rfl (Or.inl rfl) (@pe_lst _ _ _ _ pa_nil) (by rfl) (by first | exact .inl rfl | exact .inr rfl)) pss_run),?_⟩
 refine ⟨leN rfl,fun L n_L=>?_⟩
 have sm1:=same_laid n_L (.lst [])
 have eL0:(upd H1 L (.lst [])) L=some (.lst []):=upd_same
 generalize upd H1 L (.lst [])=H2 at sm1 eL0 ⊢
 have nHL:H L=none:=sm0.free n_L
 have m0:mea deep (ps.map (·.1))≤21 * ps.length:=by
  have:=mea_le d1 (ks:=ps.map (·.1)) fun k hk=>(kok.st k hk).1
  rwa [List.length_map] at this
 have sg:Stg H H2 d L deep ps.length (mea deep (ps.map (·.1))) ps ps []:=⟨sm0.trans sm1,sm1 _ _ ed0,.refl _,⟨[],eL0,.nil⟩,kok,Nat.le_refl _,by rw [List.length_nil];omega⟩
 have dL:d≠L:=ne_of_none ed0 n_L
 have hqq:∀(fs ps':Sps),Stl deep (total / room) ps fs ps'→fs.length≤1400→∀(t r l:Addr) (H':Hp),Same H H'→H' t=some (.tup [.ref r,.ref l])→LadAt H' r room deep total (srtP2 ps')→PprAt H' l fs→Q (.ref t) H':=fun fs ps' st fl t r l H' g e1 e2 e3=>by
  obtain ⟨x1,x2⟩:=setl_eq st kok.nd
  rw [x1,x2] at hq
  exact hq t r l H' g e1 e2 e3 fl
 clear hq
 generalize hbar:total / room=bar at hqq
 generalize mea deep (ps.map (·.1))=M at m0 sg
 refine ⟨_,(@pss_cons _ _ _ _ _ (@ps_set _ _ 7 _ _ _ _ sc_l_settled.nd rfl (Or.inl rfl) (pe_callH h_l_first hr (@pa_cons _ _ _ _ _ (pv 5) (@pa_cons _ _ _ _ _ (pv 2) (@pa_cons _ _ _ _ _ (@pe_op _ _ _ _ _ _ _ _ op_fdiv (pv 4) (pv 1)) pa_nil (by rfl)) (by rfl)) (by rfl))) (by rfl) (by first | exact .inl rfl | exact .inr rfl)) pss_run),?_⟩
 refine seq_post (fun σ' H'=>∃(o7:V) (ps':Sps) (fs:Sps),σ'=[some (.ref q),some (.int room),some (.int deep),some (.ref c),some (.int total),some (.ref d),some (.ref L),some o7,none,none,none]∧Stg H H' d L deep ps.length M ps' ps' fs∧Way deep bar ps fs ps'∧((o7=.non∧Nof deep bar ps')∨∃(p:Addr) (h j:Int),o7=.ref p∧KAt H' p (loK h j)∧Fst deep bar ps' h j)) ?_ ?_
 ·intro nx hnx
  exact ⟨_,rfl,_,rfl,_,rfl,_,rfl,_,_,rfl,rfl,⟨by omega,by omega⟩,deep,_,d,ps,rfl,sg.ed,pl,fun H' g n=>hnx _ _ ⟨.non,ps,[],rfl,sg.same g,Way.refl,.inl ⟨rfl,by rw [←hbar];exact n⟩⟩,fun p h j H' g ek ft=>hnx _ _ ⟨.ref p,ps,[],rfl,sg.same g,Way.refl,.inr ⟨p,h,j,rfl,ek,by rw [←hbar];exact ft⟩⟩⟩
 rintro σ' H3 ⟨o7,ps1,fs,rfl,sg,way,alt⟩
 refine ⟨_,(@pss_cons _ _ _ _ _ (ps_while PassesOwn.never (@pt_cmpR _ _ _ _ _ _ _ _ op_notN (pv 7) pe_non (nomark _)) (@pss_cons _ _ _ _ _ (@ps_set _ _ 8 _ _ _ _ sc_l_settled.nd rfl (Or.inl rfl) (@pe_tup _ _ _ _ _ (@pa_cons _ _ _ _ _ (@pe_op _ _ _ _ _ _ _ _ op_add (@pe_ix _ _ _ _ _ _ _ ix_tup (pv 7) pe_int (fun _ _=>rfl)) pe_int) (@pa_cons _ _ _ _ _ (@pe_op _ _ _ _ _ _ _ _ op_fdiv (@pe_ix _ _ _ _ _ _ _ ix_tup (pv 7) pe_int (fun _ _=>rfl)) pe_int) pa_nil (by rfl)) (by rfl))) (by rfl) (by first | exact .inl rfl | exact .inr rfl))
 (@pss_cons _ _ _ _ _ (ps_for PassesOwn.never rfl (pi_list (@pe_lst _ _ _ _ (@pa_cons _ _ _ _ _ (pv 7) (@pa_cons _ _ _ _ _ (@pe_tup _ _ _ _ _ (@pa_cons _ _ _ _ _ (@pe_ix _ _ _ _ _ _ _ ix_tup (pv 7) pe_int (fun _ _=>rfl)) (@pa_cons _ _ _ _ _ (@pe_op _ _ _ _ _ _ _ _ op_add (@pe_ix _ _ _ _ _ _ _ ix_tup (pv 7) pe_int (fun _ _=>rfl)) pe_int) pa_nil (by rfl)) (by rfl))) pa_nil (by rfl)) (by rfl)))) (pg_name (i:=9) sc_l_settled.nd rfl (Or.inl rfl))
 (@pss_one _ _ _ (@ps_if _ _ _ _ _ _ _ _ (@pt_cmpR _ _ _ _ _ _ _ _ (op_inDG hr.units) (pv 9) (pv 5) (by with_unfolding_all rfl)) (@pss_cons _ _ _ _ _ (@ps_set _ _ 10 _ _ _ _ sc_l_settled.nd rfl (Or.inl rfl) (pe_bm PySem.F.plainAttrs_dict PySem.F.slot_dict_pop PySem.F.type_dict_pop (mt_popT hr.units) (pv 5) (@pa_cons _ _ _ _ _ (pv 9) pa_nil (by rfl))) (by rfl) (by first | exact .inl rfl | exact .inr rfl))
 (@pss_cons _ _ _ _ _ (ps_dput (hu_of hr) (pv 5) (pv 8) (@pe_op _ _ _ _ _ _ _ _ op_add (pe_dget2 (hu_of hr) (pv 5) (pv 8) pe_int ⟨rfl,rfl,rfl,rfl⟩) (pv 10)) rfl)
 (@pss_one _ _ _ (ps_expr (pe_bm PySem.F.plainAttrs_list PySem.F.slot_list_append PySem.F.type_list_append mt_append (pv 6) (@pa_cons _ _ _ _ _ (@pe_tup _ _ _ _ _ (@pa_cons _ _ _ _ _ (pv 9) (@pa_cons _ _ _ _ _ (pv 10) pa_nil (by rfl)) (by rfl))) pa_nil (by rfl))))))) pss_nil)))
 (@pss_one _ _ _ (@ps_set _ _ 7 _ _ _ _ sc_l_settled.nd rfl (Or.inl rfl) (pe_callH h_l_first hr (@pa_cons _ _ _ _ _ (pv 5) (@pa_cons _ _ _ _ _ (pv 2) (@pa_cons _ _ _ _ _ (@pe_op _ _ _ _ _ _ _ _ op_fdiv (pv 4) (pv 1)) pa_nil (by rfl)) (by rfl)) (by rfl))) (by rfl) (by first | exact .inl rfl | exact .inr rfl)))))) pss_run),?_⟩
 refine while_by (fun σ H'=>∃(o7:V) (o8 o9 o10:Option V) (ps':Sps) (fs:Sps),σ=[some (.ref q),some (.int room),some (.int deep),some (.ref c),some (.int total),some (.ref d),some (.ref L),some o7,o8,o9,o10]∧Stg H H' d L deep ps.length M ps' ps' fs∧Way deep bar ps fs ps'∧((o7=.non∧Nof deep bar ps')∨∃(p:Addr) (h j:Int),o7=.ref p∧KAt H' p (loK h j)∧Fst deep bar ps' h j)) (fun _ H'=>muD deep d H') ⟨o7,none,none,none,ps1,fs,rfl,sg,way,alt⟩ ?_ ?_
 ·rintro σ H4 ⟨o7,o8,o9,o10,ps2,fs,rfl,sg,way,alt⟩
  refine ⟨_,rfl,rfl,_,rfl,?_⟩
  rcases alt with ⟨rfl,nof⟩ | ⟨p,h,jj,rfl,e_p,ft⟩
  ·rw [decide_eq_true rfl]
   refine iteF ⟨_,(@pss_one _ _ _ (@ps_ret _ _ _ _ (@pe_tup _ _ _ _ _ (@pa_cons _ _ _ _ _ (@pe_tup _ _ _ _ _ (@pa_cons _ _ _ _ _ (pv 1) (@pa_cons _ _ _ _ _ (pv 2) (@pa_cons _ _ _ _ _ (pe_callTy call_tuple_of rfl z_tuple PyProof.Rows.boot_tuple (@pa_cons _ _ _ _ _ (pe_callB (call_sortIT rfl hr.units) rfl z_sorted PyProof.Rows.boot_sorted (@pa_cons _ _ _ _ _ (pe_bm0 PySem.F.plainAttrs_dict PySem.F.slot_dict_items PySem.F.type_dict_items mt_itemsT (pv 5)) pa_nil (by rfl))) pa_nil (by rfl))) (@pa_cons _ _ _ _ _ (pv 4) pa_nil (by rfl)) (by rfl)) (by rfl)) (by rfl))) (@pa_cons _ _ _ _ _ (pv 6) pa_nil (by rfl)) (by rfl))))),?_⟩
   refine ⟨_,rfl,_,rfl,_,rfl,tyV_dT sg.ed,d,_,rfl,rfl,sg.ed,fun v nv=>?_⟩
   have g1:=same_laid nv (iView v d)
   have e_v:(upd H4 v (iView v d)) v=some (iView v d):=upd_same
   have sg:=sg.same g1
   generalize upd H4 v (iView v d)=H5 at e_v sg ⊢
   have pl2:=sg.le
   refine ⟨v,d,ps2,rfl,e_v,sg.ed,by omega,fun H6 bs g6 pr6 l nl _=>?_⟩
   have sg:=sg.same g6
   have gg:Same H6 H6:=Same.refl _
   have gz:=same_laid nl (.lst (bs.map V.ref))
   have e_l:(upd H6 l (.lst (bs.map V.ref))) l=some (.lst (bs.map V.ref)):=upd_same
   have sg:=sg.same gz
   have gg:=gg.trans gz
   generalize upd H6 l (.lst (bs.map V.ref))=H7 at e_l sg gg gz ⊢
   refine ⟨l,_,rfl,.inl ⟨SqL.of e_l,?_⟩⟩
   intro u n_u
   generalize hz:upd _ u _=H8
   revert H8
   refine blk ?_
   intro H8 hz
   have gz:=laid_same hz n_u
   have e_u:=laid_at hz
   clear hz
   have gg:=gg.trans gz
   have sg:=sg.same gz
   refine ⟨_,rfl,leN rfl,?_⟩
   intro r n_r
   generalize hz:upd _ r _=H9
   revert H9
   refine blk ?_
   intro H9 hz
   have gz:=laid_same hz n_r
   have e_r:=laid_at hz
   clear hz
   have gg:=gg.trans gz
   have e_u:=gz _ _ e_u
   have sg:=sg.same gz
   refine ⟨_,rfl,leN rfl,?_⟩
   intro t n_t
   generalize hz:upd _ t _=H10
   revert H10
   refine blk ?_
   intro H10 hz
   have gz:=laid_same hz n_t
   have e_t:=laid_at hz
   clear hz
   have gg:=gg.trans gz
   have e_u:=gz _ _ e_u
   have e_r:=gz _ _ e_r
   have sg:=sg.same gz
   have few:=sg.few
   exact hqq fs ps2 (way.done nof) (by omega) t r L _ sg.sm e_t ⟨u,bs,e_r,e_u,Paired.mapP pr6 fun _ _ f=>ft_mono gg f⟩ sg.eL
  ·rw [decide_eq_false (fun z=>by cases z)]
   have mu4:muD deep d H4=mea deep (ps2.map (·.1)):=muD_at sg.ed
   rw [mu4]
   have hd:=ft.hd
   have e_p:H4 p=some (.tup [.int h,.int (2 * jj)]):=e_p
   refine iteT ⟨_,rfl,p,_,0,_,rfl,rfl,SqT.of e_p,rfl,_,_,rfl,rfl,_,rfl,p,_,1,_,rfl,rfl,SqT.of e_p,rfl,_,_,rfl,rfl,⟨by decide,by decide⟩,leN rfl,fun u nu=>?_⟩
   have s5:=same_laid nu (.tup [.int (h+1),.int (2 * jj / 2)])
   have e_u:KAt (upd H4 u (.tup [.int (h+1),.int (2 * jj / 2)])) u (upK h jj):=by
    have e:2 * jj / 2=jj:=by omega
    show _=some (HO.tup [V.int (h+1),V.int jj])
    rw [e]
    exact upd_same
   have sg:=sg.same s5
   have e_p:=s5 _ _ e_p
   generalize upd H4 u (.tup [.int (h+1),.int (2 * jj / 2)])=H5 at e_u sg e_p ⊢
   refine ⟨_,rfl,_,rfl,p,_,0,_,rfl,rfl,SqT.of e_p,rfl,_,rfl,p,_,1,_,rfl,rfl,SqT.of e_p,rfl,_,_,rfl,rfl,leN rfl,fun b nb=>?_⟩
   have s6:=same_laid nb (.tup [.int h,.int (2 * jj+1)])
   have e_b:KAt (upd H5 b (.tup [.int h,.int (2 * jj+1)])) b (hiK h jj):=upd_same
   have sg:=sg.same s6
   have e_p:KAt _ p (loK h jj):=s6 _ _ e_p
   have e_u:KAt _ u _:=s6 _ _ e_u
   generalize upd H5 b (.tup [.int h,.int (2 * jj+1)])=H6 at e_u e_b sg e_p ⊢
   refine ⟨leN rfl,fun t nt=>?_⟩
   have s7:=same_laid nt (.lst [.ref p,.ref b])
   have e_t:(upd H6 t (.lst [.ref p,.ref b])) t=some (.lst [.ref p,.ref b]):=upd_same
   have td:t≠d:=fun z=>by rw [z,sg.ed] at nt;cases nt
   have tL:t≠L:=fun z=>by obtain ⟨_,e,_⟩:=sg.eL;rw [z,e] at nt;cases nt
   have sg:=sg.same s7
   have e_p:KAt _ p _:=s7 _ _ e_p
   have e_u:KAt _ u _:=s7 _ _ e_u
   have e_b:KAt _ b _:=s7 _ _ e_b
   generalize upd H6 t (.lst [.ref p,.ref b])=H7 at e_u e_b sg e_p e_t ⊢
   refine ⟨t,rfl,⟨_,SqL.of e_t⟩,?_⟩
   have sg7:=sg
   refine for_listH (xs:=[.ref p,.ref b]) (fun j σ H'=>∃(o9 o10:Option V) (qs:Sps),σ=[some (.ref q),some (.int room),some (.int deep),some (.ref c),some (.int total),some (.ref d),some (.ref L),some (.ref p),some (.ref u),o9,o10]∧Stg H H' d L deep ps.length M (pjs ps2 h jj j) qs (fs++tjs ps2 h jj j)∧H' t=some (.lst [.ref p,.ref b])∧KAt H' p (loK h jj)∧KAt H' b (hiK h jj)∧KAt H' u (upK h jj)) ⟨_,_,ps2,rfl,by rw [show fs++tjs ps2 h jj 0=fs from List.append_nil fs];exact sg,e_t,e_p,e_b,e_u⟩ ?_ ?_ ?_
   ·rintro j σ H' _ ⟨_,_,_,_,_,e,_⟩
    exact SqL.of e
   ·clear sg e_t e_p e_b e_u
    rintro j x σ H8 N B1 R hN hR hx ⟨o9,o10,qs,rfl,sg,e_t,e_p,e_b,e_u⟩
    obtain ⟨o,rfl,e_o,j2⟩:∃(o:Addr),x=.ref o∧KAt H8 o (kjs h jj j)∧j<2:=by
     rcases j with _ | _ | j
     ·cases hx
      exact ⟨p,rfl,e_p,by decide⟩
     ·cases hx
      exact ⟨b,rfl,e_b,by decide⟩
     ·simp at hx
    obtain ⟨nx1,nx2⟩:=pjs_succ ps2 h jj j2
    rw [nx1,nx2,←List.append_assoc] at hN
    have kh:(kjs h jj j).1=h∧par1 (kjs h jj j)=upK h jj:=by
     rcases j with _ | j
     ·exact ⟨rfl,par_lo h jj⟩
     ·exact ⟨rfl,par_hi h jj⟩
    rw [←kh.2] at e_u hN
    generalize pjs ps2 h jj j=ps3 at sg hN
    generalize fs++tjs ps2 h jj j=fs3 at sg hN
    generalize kjs h jj j=ko at e_o e_u hN kh
    have nq:=sg.nq
    have cq:=cnt_perm sg.pm nq
    refine ⟨_,rfl,_,rfl,d,_,rfl,get_int sg.ed e_o,_,rfl,ite2 (fun cc=>?_) (fun cc=>?_)⟩
    ·have kin:=look_mem.mp cc
     have kin3:=(sg.pm.map (·.1)).mem_iff.mp kin
     have hm:=look_key kin
     have nxo:=foldI_ok (k:=ko) sg.ok (by rw [kh.1];exact hd)
     have pmo:=popF_perm sg.pm nq kin
     have et:told1 ps3 ko=[(ko,cnt qs ko)]:=by unfold told1;rw [if_pos kin3,cq]
     unfold popF at pmo
     rw [et] at hN nxo
     generalize cnt qs ko=m at hm hN pmo
     refine sA fun C hC=>?_
     refine ⟨_,rfl,tyV_dT sg.ed,_,rfl,d,o,_,kk ko,_,rfl,rfl,sg.ed,e_o,hm,?_⟩
     refine hC _ _ ?_
     have tt:∀{G:Hp} {kvs:List (List Key×V)} {x:Addr} {xs:List V} {y:HO},G d=some (.dT kvs)→G x=some (.tup xs)→upd G d y x=some (.tup xs):=fun {G kvs x xs y} e1 e2=>by rw [upd_ne (ne_of e2 e1 (by intro z;cases z))];exact e2
     have sd:∀{G:Hp} {y:HO},Same H G→Same H (upd G d y):=fun {G y} g x w e=>by rw [upd_ne (ne_of_none e n_d)];exact g _ _ e
     have pd:∀{G:Hp} {kvs:List (List Key×V)} {y:HO},G d=some (.dT kvs)→PprAt G L fs3→PprAt (upd G d y) L fs3:=fun {G kvs y} e1 ⟨as,f1,f2⟩=>⟨as,by rw [upd_ne (Ne.symm dL)];exact f1,Paired.mapP f2 fun _ _ ⟨y,z1,z2⟩=>⟨y,tt e1 z1,tt e1 z2⟩⟩
     have sm9:=sd (y:=.dT (dropK (tvOf qs) (kk ko))) sg.sm
     have eL9:=pd (y:=.dT (dropK (tvOf qs) (kk ko))) sg.ed sg.eL
     have e_t9:(upd H8 d (.dT (dropK (tvOf qs) (kk ko)))) t=some (.lst [.ref p,.ref b]):=by rw [upd_ne td];exact e_t
     have e_p9:KAt (upd H8 d (.dT (dropK (tvOf qs) (kk ko)))) p _:=tt sg.ed e_p
     have e_b9:KAt (upd H8 d (.dT (dropK (tvOf qs) (kk ko)))) b _:=tt sg.ed e_b
     have e_u9:KAt (upd H8 d (.dT (dropK (tvOf qs) (kk ko)))) u _:=tt sg.ed e_u
     have e_o9:KAt (upd H8 d (.dT (dropK (tvOf qs) (kk ko)))) o _:=tt sg.ed e_o
     have ed9:(upd H8 d (.dT (dropK (tvOf qs) (kk ko)))) d=some (.dT (tvOf (dropS qs ko))):=by rw [←drop_tv];exact upd_same
     generalize upd H8 d (.dT (dropK (tvOf qs) (kk ko)))=H9 at sm9 eL9 e_t9 e_p9 e_b9 e_u9 e_o9 ed9 ⊢
     have ql:qs.length≤ps.length:=by rw [sg.pm.length_eq];exact sg.le
     have dl:=drop_len qs ko
     obtain ⟨n0,hn0,h0⟩:∃n,n=cnt (dropS qs ko) (par1 ko)∧(lookO (dropS qs ko) (par1 ko)).getD (.int 0)=.int n:=⟨_,rfl,cnt_look _ _⟩
     rw [←hn0] at pmo
     refine ⟨_,rfl,d,rfl,.inr ⟨_,.inl ed9⟩,_,rfl,_,get_int ed9 e_u9,_,rfl,n0,m,h0,rfl,_,rfl,_,rfl,d,_,rfl,DPut.t (k:=kk (par1 ko)) ed9 e_u9 (small_lt (by rw [tvOf_len];omega)),?_⟩
     have sm8:=sd (y:=.dT (putK (tvOf (dropS qs ko)) (kk (par1 ko)) (.int (n0+m)))) sm9
     have eL8:=pd (y:=.dT (putK (tvOf (dropS qs ko)) (kk (par1 ko)) (.int (n0+m)))) ed9 eL9
     have e_t8:(upd H9 d (.dT (putK (tvOf (dropS qs ko)) (kk (par1 ko)) (.int (n0+m))))) t=some (.lst [.ref p,.ref b]):=by rw [upd_ne td];exact e_t9
     have e_p8:KAt (upd H9 d (.dT (putK (tvOf (dropS qs ko)) (kk (par1 ko)) (.int (n0+m))))) p _:=tt ed9 e_p9
     have e_b8:KAt (upd H9 d (.dT (putK (tvOf (dropS qs ko)) (kk (par1 ko)) (.int (n0+m))))) b _:=tt ed9 e_b9
     have e_u8:KAt (upd H9 d (.dT (putK (tvOf (dropS qs ko)) (kk (par1 ko)) (.int (n0+m))))) u _:=tt ed9 e_u9
     have e_o8:KAt (upd H9 d (.dT (putK (tvOf (dropS qs ko)) (kk (par1 ko)) (.int (n0+m))))) o _:=tt ed9 e_o9
     have ed8:(upd H9 d (.dT (putK (tvOf (dropS qs ko)) (kk (par1 ko)) (.int (n0+m))))) d=some (.dT (tvOf (putS (dropS qs ko) (par1 ko) (n0+m)))):=by rw [←put_tv];exact upd_same
     generalize upd H9 d (.dT (putK (tvOf (dropS qs ko)) (kk (par1 ko)) (.int (n0+m))))=G8 at sm8 eL8 e_t8 e_p8 e_b8 e_u8 e_o8 ed8 ⊢
     generalize putS (dropS qs ko) (par1 ko) (n0+m)=qs' at ed8 pmo
     obtain ⟨fas,eL,pF⟩:=eL8
     refine ⟨_,rfl,.inl ⟨rfl,_,SqL.of eL⟩,_,rfl,_,rfl,leN rfl,fun y ny=>?_⟩
     have s7:=same_laid ny (.tup [.ref o,.int m])
     have sm8:=sm8.trans s7
     have ed8:=s7 _ _ ed8
     have e_t8:=s7 _ _ e_t8
     have e_p8:KAt _ p _:=s7 _ _ e_p8
     have e_b8:KAt _ b _:=s7 _ _ e_b8
     have e_u8:KAt _ u _:=s7 _ _ e_u8
     have e_o8:KAt _ o _:=s7 _ _ e_o8
     have eL:=s7 _ _ eL
     have pF:=Paired.mapP pF fun _ _ f=>ft_mono s7 f
     have fu:FT (upd G8 y (.tup [.ref o,.int m])) y (ko,m):=⟨o,upd_same,e_o8⟩
     generalize upd G8 y (.tup [.ref o,.int m])=G9 at sm8 ed8 e_t8 e_p8 e_b8 e_u8 e_o8 eL pF fu ⊢
     have few:=sg.few
     have fal:=Paired.length pF
     have lt:∀{x:Addr} {xs:List V} {o:HO},G9 x=some (.tup xs)→upd G9 L o x=some (.tup xs):=fun {x xs o} e=>by rw [upd_ne (ne_of e eL (by intro z;cases z))];exact e
     refine ⟨L,_,_,rfl,rfl,eL,small_lt (by rw [List.length_map];omega),?_⟩
     have nx2:=nxo.2.1
     have nx3:=nxo.2.2
     have le3:=sg.le
     rw [List.length_singleton] at nx2
     exact hN _ _ ⟨_,_,qs',rfl,⟨fun x w e=>by rw [upd_ne (ne_of_none e nHL)];exact sm8 _ _ e,by rw [upd_ne dL];exact ed8,pmo,⟨fas++[y],by rw [List.map_append];exact upd_same,Paired.snoc (Paired.mapP pF fun _ _ ⟨z,e1,e2⟩=>⟨z,lt e1,lt e2⟩) (let ⟨z,e1,e2⟩:=fu;⟨z,lt e1,lt e2⟩)⟩,nxo.1,by omega,by rw [List.length_append,List.length_singleton];omega⟩,by rw [upd_ne tL];exact e_t8,lt e_p8,lt e_b8,lt e_u8⟩
    ·have kin:ko∉ps3.map (·.1):=fun z=>cc (look_mem.mpr ((sg.pm.map (·.1)).mem_iff.mpr z))
     have ef:foldI ps3 ko=ps3:=by unfold foldI;rw [if_neg kin]
     have et:told1 ps3 ko=[]:=by unfold told1;rw [if_neg kin]
     rw [ef,et,List.append_nil] at hN
     exact hN _ _ ⟨_,_,qs,rfl,sg,e_t,e_p,e_b,e_u⟩
   ·rintro σ G6 ⟨o9,o10,qs,rfl,sg,_,_,_,_⟩
    have sg:Stg H G6 d L deep ps.length M (stepP ps2 h jj) qs (fs++flP ps2 h jj):=sg
    have way:=way.snoc ft sg.pm
    have so:=stepP_ok (j:=jj) sg7.ok hd
    have fp:=fl_pos ft.in_
    have le3:=sg.le
    have ok3:=sg.ok.perm (sg.pm.map _)
    have me:=mea_perm (deep:=deep) (sg.pm.map (·.1))
    have few:=sg.few
    have le4:qs.length≤ps.length:=by rw [sg.pm.length_eq];exact sg.le
    have sg:Stg H G6 d L deep ps.length M qs qs (fs++flP ps2 h jj):=⟨sg.sm,sg.ed,.refl _,sg.eL,ok3,le4,by omega⟩
    generalize fs++flP ps2 h jj=fs3 at sg way
    have less:mea deep (qs.map (·.1))<mea deep (ps2.map (·.1)):=by omega
    refine ⟨_,rfl,_,rfl,_,rfl,_,rfl,_,_,rfl,rfl,⟨by omega,by omega⟩,deep,_,d,qs,rfl,sg.ed,by omega,fun H' g n=>⟨⟨.non,_,_,_,qs,fs3,rfl,sg.same g,way,.inl ⟨rfl,by rw [←hbar];exact n⟩⟩,?_⟩,fun p' h' j' H' g ek ft'=>⟨⟨.ref p',_,_,_,qs,fs3,rfl,sg.same g,way,.inr ⟨p',h',j',rfl,ek,by rw [←hbar];exact ft'⟩⟩,?_⟩⟩
    ·rw [muD_at (sg.same g).ed];exact less
    ·rw [muD_at (sg.same g).ed];exact less
 ·rintro σ H' Q1 Q2 m ⟨v,e,e2,b,e3,r⟩
  exact ⟨v,e,e2,b,e3,m _ _ r⟩
end
end K33
namespace K33
open PySem L2 Ld
noncomputable def tot (ys:Sps) (k:Int×Int):Int:=(ys.map fun p=>if p.1=k then p.2 else 0).sum
theorem tot_app (xs ys:Sps) (k:Int×Int):tot (xs++ys) k=tot xs k+tot ys k:=by
 unfold tot
 rw [List.map_append,List.sum_append]
theorem cnt_addT:∀(ys xs:Sps) (k:Int×Int),cnt (addS xs ys) k=cnt xs k+tot ys k
 | [],xs,k=>by
  show cnt xs k=cnt xs k+0
  omega
 | p::ys,xs,k=>by
  rw [add_cons,cnt_addT ys,cnt_put]
  unfold tot
  rw [List.map_cons,List.sum_cons]
  by_cases e:k=p.1
  ·rw [if_pos e,if_pos e.symm,e]
   omega
  ·rw [if_neg e,if_neg (Ne.symm e)]
   omega
theorem cnt_std (ts:List Th) (k:Int×Int):cnt (stdS ts) k=tot (stdR ts) k:=by
 unfold stdS
 rw [cnt_addT]
 show (0:Int)+_=_
 omega
theorem std_app (ts us:List Th) (k:Int×Int):cnt (stdS (ts++us)) k=cnt (stdS ts) k+cnt (stdS us) k:=by
 rw [cnt_std,cnt_std,cnt_std]
 unfold stdR
 rw [List.map_append,tot_app]
noncomputable def mrgF (room deep:Int) (xs ys:Sps):Sps:=flds deep (sumS (addS xs ys) / room) (addS xs ys)
noncomputable def thP (room deep:Int) (t:Th):Sps:=flds deep (t.many / room) [((0,t.num),t.many)]
noncomputable def lstp (room deep:Int) (a:Sps×Sps) (t:Th):Sps×Sps:=(mrgL room deep a.1 (thL room deep t),a.2++thP room deep t++mrgF room deep a.1 (thL room deep t))
noncomputable def lfP (room deep:Int) (ts:List Th):Sps×Sps:=ts.foldl (lstp room deep) ([],[])
noncomputable def ldT (room deep:Int):Tr→Sps×Sps
 | .leaf ts=>lfP room deep ts
 | .node l r=>(mrgL room deep (ldT room deep l).1 (ldT room deep r).1,(ldT room deep l).2++(ldT room deep r).2++mrgF room deep (ldT room deep l).1 (ldT room deep r).1)
theorem lfP_snoc (room deep:Int) (ts:List Th) (t:Th):lfP room deep (ts++[t])=lstp room deep (lfP room deep ts) t:=by
 unfold lfP
 rw [List.foldl_append]
 rfl
structure LdOk (room deep:Int) (ts:List Th) (a:Sps×Sps):Prop where
 lok:Lok room deep a.1
 sum:sumS a.1=manyS ts
 len:a.1.length≤ts.length
 run:Run deep (cnt (stdS ts)) a.2 (cnt a.1)
 few:a.2.length+mea deep (a.1.map (·.1))≤21 * ts.length
 mn:∀t∈ts,ThL deep t
 bnd:∀p∈a.2,1≤p.2∧p.2≤manyS ts
theorem sum_nn:∀{ps:Sps},(∀p∈ps,0≤p.2)→0≤sumS ps
 | [],_=>Int.le_refl _
 | p::ps,h=>by
  have a:=sum_nn fun q hq=>h q (.tail _ hq)
  have b:=h p (.head _)
  unfold sumS at a ⊢
  rw [List.map_cons,List.sum_cons]
  omega
theorem many_nn {deep:Int}:∀{ts:List Th},(∀t∈ts,ThL deep t)→0≤manyS ts
 | [],_=>Int.le_refl _
 | t::ts,h=>by
  have a:=many_nn fun q hq=>h q (.tail _ hq)
  have b:=(h t (.head _)).2.2
  unfold manyS at a ⊢
  rw [List.map_cons,List.sum_cons]
  omega
theorem cnt_le {deep:Int} {ps:Sps} (o:Pok deep ps) (k:Int×Int):cnt ps k≤sumS ps:=by
 have a:=sum_drop (k:=k) o.kok.nd
 have b:=sum_nn (ps:=dropS ps k) fun p hp=>by
  have:=o.pos p (List.mem_filter.mp hp).1
  omega
 omega
theorem told_bnd {deep:Int} {ps:Sps} (o:Pok deep ps) {k:Int×Int} {p:(Int×Int)×Int} (h:p∈told1 ps k):1≤p.2∧p.2≤sumS ps:=by
 unfold told1 at h
 split at h
 ·rename_i hk
  rw [List.mem_singleton.mp h]
  exact ⟨cnt_one o hk,cnt_le o k⟩
 ·exact absurd h List.not_mem_nil
theorem stl_bnd {deep bar:Int} {ps fs ps':Sps} (s:Stl deep bar ps fs ps'):Pok deep ps→∀p∈fs,1≤p.2∧p.2≤sumS ps:=by
 induction s with
 | done n=>exact fun _ _ h=>nomatch h
 | step f p1 s ih=>
  intro o p hp
  rcases List.mem_append.mp hp with hp | hp
  ·rcases List.mem_append.mp hp with hp | hp
   ·exact told_bnd o hp
   ·exact told_bnd o hp
  ·have:=ih ((step_pok o f.in_ f.hd).perm p1) p hp
   rw [sum_perm p1,sum_stepP o.kok.nd] at this
   exact this
theorem set_bnd {deep bar:Int} {ps:Sps} (o:Pok deep ps):∀p∈flds deep bar ps,1≤p.2∧p.2≤sumS ps:=by
 obtain ⟨fs,ps',s⟩:=stl_ex (deep:=deep) (bar:=bar) _ ps (Nat.le_refl _) o.kok
 have e:=setl_eq s o.kok.nd
 rw [e.2]
 exact stl_bnd s o
theorem mrg_eq {room deep:Int} {xs ys:Sps} (hx:Pok deep xs) (hy:Pok deep ys):setl deep ((sumS xs+sumS ys) / room) (srtP2 (addS xs ys))=mrgL room deep xs ys∧flds deep ((sumS xs+sumS ys) / room) (srtP2 (addS xs ys))=mrgF room deep xs ys∧sumS xs+sumS ys=sumS (mrgL room deep xs ys):=by
 have o:=add_pok hx hy.each
 have e:=setl_perm (bar:=(sumS xs+sumS ys) / room) o.kok (srtP2_perm (addS xs ys)).symm
 rw [←e.1,←e.2]
 unfold mrgL mrgF
 rw [add_sum hx.kok.nd]
 refine ⟨rfl,rfl,?_⟩
 have m:=mrgL_ok (room:=room) hx hy
 unfold mrgL at m
 rw [add_sum hx.kok.nd] at m
 exact m.2.1.symm
theorem ld_mrg {room deep:Int} {ts us:List Th} {a b:Sps×Sps} (ha:LdOk room deep ts a) (hb:LdOk room deep us b):LdOk room deep (ts++us) (mrgL room deep a.1 b.1,a.2++b.2++mrgF room deep a.1 b.1):=by
 have m:=mrgL_ok (room:=room) ha.lok.pok hb.lok.pok
 have o:=add_pok ha.lok.pok hb.lok.pok.each
 have l1:=ha.len
 have l2:=hb.len
 have f1:=ha.few
 have f2:=hb.few
 refine ⟨m.1,?_,?_,?_,?_,fun t ht=>(List.mem_append.mp ht).elim (ha.mn t) (hb.mn t),fun p hp=>?_⟩
 ·show sumS (mrgL room deep a.1 b.1)=_
  rw [m.2.1,ha.sum,hb.sum]
  unfold manyS
  rw [List.map_append,List.sum_append]
 ·rw [List.length_append]
  have:=m.2.2
  show (mrgL room deep a.1 b.1).length≤_
  omega
 ·have e0:cnt (stdS (ts++us))=fun k=>cnt (stdS ts) k+cnt (stdS us) k:=funext fun k=>std_app ts us k
  have tb:=std_tab (ts:=us) fun t ht=>(hb.mn t ht).2.2
  have r1:=ha.run.add (x:=cnt (stdS us)) (cnt_nn tb.nn tb.nd)
  have r2:=hb.run.addL (x:=cnt a.1) (cnt_pos ha.lok.pok)
  have r3:=set_run (bar:=sumS (addS a.1 b.1) / room) o
  rw [e0]
  refine (r1.app r2).app ?_
  rw [←cnt_add hb.lok.pok.kok.nd]
  exact r3
 ·have r3:=set_len (bar:=sumS (addS a.1 b.1) / room) o
  have r4:=mea_add deep b.1 a.1
  show (a.2++b.2++flds deep (sumS (addS a.1 b.1) / room) (addS a.1 b.1)).length+mea deep ((setl deep (sumS (addS a.1 b.1) / room) (addS a.1 b.1)).map (·.1))≤_
  rw [List.length_append,List.length_append,List.length_append]
  omega
 ·have z1:=many_nn ha.mn
  have z2:=many_nn hb.mn
  have ms:manyS (ts++us)=manyS ts+manyS us:=by
   unfold manyS
   rw [List.map_append,List.sum_append]
  rw [ms]
  rcases List.mem_append.mp hp with hp | hp
  ·rcases List.mem_append.mp hp with hp | hp
   ·have:=ha.bnd p hp
    omega
   ·have:=hb.bnd p hp
    omega
  ·have:=set_bnd o p hp
   rw [add_sum ha.lok.pok.kok.nd,ha.sum,hb.sum] at this
   exact this
theorem ld_nil {room deep:Int}:LdOk room deep [] ([],[]):=⟨lok_nil,rfl,Nat.le_refl _,.nil _,Nat.le_refl _,(fun _ h=>nomatch h),fun _ h=>nomatch h⟩
theorem ld_th {room deep:Int} {t:Th} (d0:0≤deep) (d1:deep≤20) (h:ThL deep t):LdOk room deep [t] (thL room deep t,thP room deep t):=by
 have o:=one_pok d0 h
 have a:=thL_ok (room:=room) d0 h
 have r:=set_run (bar:=t.many / room) o
 have l:=set_len (bar:=t.many / room) o
 have e:stdS [t]=[((0,t.num),0+t.many)]:=rfl
 refine ⟨a.1,?_,a.2.2,?_,?_,fun x hx=>by rw [List.mem_singleton.mp hx];exact h,fun p hp=>?_⟩
 ·show sumS (thL room deep t)=t.many+0
  rw [a.2.1,Int.add_zero]
 ·rw [e,Int.zero_add]
  exact r
 ·have m:mea deep ([((0,t.num),t.many)].map (·.1))=(deep+1 - 0).toNat+0:=rfl
  show (flds deep (t.many / room) [((0,t.num),t.many)]).length+mea deep ((setl deep (t.many / room) [((0,t.num),t.many)]).map (·.1))≤21 * 1
  omega
 ·have:=set_bnd o p hp
  rw [sum_one] at this
  show 1≤p.2∧p.2≤t.many+0
  omega
theorem ld_snoc {room deep:Int} {ts:List Th} {t:Th} {a:Sps×Sps} (d0:0≤deep) (d1:deep≤20) (ha:LdOk room deep ts a) (h:ThL deep t):LdOk room deep (ts++[t]) (lstp room deep a t):=ld_mrg ha (ld_th d0 d1 h)
theorem ld_leaf {room deep:Int} (d0:0≤deep) (d1:deep≤20):∀(us ts:List Th) (a:Sps×Sps),LdOk room deep ts a→(∀t∈us,ThL deep t)→LdOk room deep (ts++us) (us.foldl (lstp room deep) a)
 | [],ts,a,ha,_=>by rw [List.append_nil];exact ha
 | u::us,ts,a,ha,h=>by
  have:=ld_leaf d0 d1 us (ts++[u]) (lstp room deep a u) (ld_snoc d0 d1 ha (h u (.head _))) fun t ht=>h t (.tail _ ht)
  rw [List.append_assoc] at this
  exact this
theorem ld_ok {room deep:Int} (d0:0≤deep) (d1:deep≤20):∀{t:Tr},(∀x∈t.all,ThL deep x)→LdOk room deep t.all (ldT room deep t)
 | .leaf ts,h=>ld_leaf d0 d1 ts [] ([],[]) ld_nil h
 | .node l r,h=>ld_mrg (ld_ok d0 d1 fun x hx=>h x (List.mem_append_left _ hx)) (ld_ok d0 d1 fun x hx=>h x (List.mem_append_right _ hx))
theorem ld_due {room deep:Int} {ts:List Th} {a:Sps×Sps} (h:LdOk room deep ts a):dueB deep (sumS a.1) ts a.1 a.2=true:=by
 have hm:∀t∈ts,1≤t.many:=fun t ht=>(h.mn t ht).2.2
 unfold dueB
 rw [std_sum,h.sum,decide_eq_true rfl,h.run.chk ⟨h.lok.pok.kok.nd,fun p hp=>by have:=h.lok.pok.pos p hp;omega⟩ (fun _=>rfl) (std_tab hm) fun _=>rfl,List.all_eq_true.mpr fun t ht=>decide_eq_true (h.mn t ht).2.1]
 rfl
noncomputable def spAdd33:Sp:=fun vs H Q _=>∃(q1 q2:Addr) (room deep s1 s2:Int) (xs ys:Sps),vs=[.ref q1,.ref q2]∧LadAt H q1 room deep s1 xs∧LadAt H q2 room deep s2 ys∧(xs.map (·.1)).Nodup∧xs.length+ys.length<64∧∀(q:Addr) (H':Hp),Same H H'→LadAt H' q room deep (s1+s2) (srtP2 (addS xs ys))→Q (.ref q) H'
section
variable {P:Program} {w:World} {K:PySem.W.Frag} {mg:Str→Option Value} {base:Heap} {f:Addr} {fd:FuncData}
theorem ok_add33 (z_dict:mg "dict"=none) (z_sorted:mg "sorted"=none) (z_tuple:mg "tuple"=none) (F:Fun K "_law_added" "_law_added" s_l_added f fd):FnOk P w K mg base CX0 1 f fd ["_law_one","_law_other"] spAdd33:=by
 refine F.ok sc_l_added (fun vs H Q E h=>?_) (fun cdv A outer s H vs Q E hr h=>?_)
 ·obtain ⟨q1,q2,room,deep,s1,s2,xs,ys,rfl,_⟩:=h
  rfl
 obtain ⟨q1,q2,room,deep,s1,s2,xs,ys,rfl,l1,l2,nx,xl,hq⟩:=h
 obtain ⟨c1,as,e_1,e1,p1⟩:=l1.at_
 obtain ⟨c2,bs,e_2,e2,p2⟩:=l2.at_
 refine ⟨_,(@pss_cons _ _ _ _ _ (@ps_set _ _ 2 _ _ _ _ sc_l_added.nd rfl (Or.inl rfl) (pe_callTy (call_dictTT rfl hr.units) rfl z_dict PyProof.Rows.boot_dict (@pa_cons _ _ _ _ _ (@pe_ix _ _ _ _ _ _ _ ix_tup (pv 0) pe_int (fun _ _=>rfl)) pa_nil (by rfl))) (by rfl) (by first | exact .inl rfl | exact .inr rfl)) pss_run),?_⟩
 refine ⟨_,rfl,q1,_,2,_,rfl,rfl,SqT.of e_1,rfl,c1,_,_,rfl,e1,ft_tps p1,by rw [tvOf_len];omega,fun d n_d=>?_⟩
 rw [mrgTV_nd (nd_tv nx)]
 have sm:=same_laid n_d (.dT (tvOf xs))
 have ed:(upd H d (.dT (tvOf xs))) d=some (.dT (tvOf xs)):=upd_same
 generalize upd H d (.dT (tvOf xs))=H1 at sm ed ⊢
 have bl:=Paired.length p2
 refine ⟨_,(@pss_cons _ _ _ _ _ (ps_for PassesOwn.never rfl (pi_tup (@pe_ix _ _ _ _ _ _ _ ix_tup (pv 1) pe_int (fun _ _=>rfl))) (pg_tup rfl (pgs_cons (pg_name (i:=3) sc_l_added.nd rfl (Or.inl rfl)) (pgs_cons (pg_name (i:=4) sc_l_added.nd rfl (Or.inl rfl)) pgs_nil)))
 (@pss_one _ _ _ (ps_dput (hu_of hr) (pv 2) (pv 3) (@pe_op _ _ _ _ _ _ _ _ op_add (pe_dget2 (hu_of hr) (pv 2) (pv 3) pe_int ⟨rfl,rfl,rfl,rfl⟩) (pv 4)) rfl))) pss_run),?_⟩
 refine ⟨_,rfl,q2,_,2,_,rfl,rfl,SqT.of (sm _ _ e_2),rfl,c2,rfl,⟨_,SqT.of (sm _ _ e2)⟩,?_⟩
 refine for_tupH (xs:=bs.map V.ref) (fun i σ H'=>∃(o3 o4:Option V),σ=[some (.ref q1),some (.ref q2),some (.ref d),o3,o4]∧Same H H'∧H' d=some (.dT (tvOf (addS xs (ys.take i))))∧(addS xs (ys.take i)).length≤xs.length+i) ⟨_,_,rfl,sm,ed,Nat.le_refl _⟩ ?_ ?_ ?_
 ·rintro i σ H' _ ⟨_,_,_,g,_⟩
  exact SqT.of (g _ _ e2)
 ·rintro i x σ H' N B1 R hN hR hx ⟨o3,o4,rfl,g,ed,al⟩
  obtain ⟨a,p,rfl,hp,b,e_a,e_b⟩:=ft_get p2 hx
  have il:i<ys.length:=(List.getElem?_eq_some_iff.mp hp).1
  have e_a:=g _ _ e_a
  have e_b:KAt H' b p.1:=g _ _ e_b
  have st:addS xs (ys.take (i+1))=putS (addS xs (ys.take i)) p.1 (cnt (addS xs (ys.take i)) p.1+p.2):=by rw [take_one hp,add_snoc]
  rw [st] at hN
  generalize addS xs (ys.take i)=zs at ed al hN
  have l1:=put_len zs p.1 (cnt zs p.1+p.2)
  refine ⟨a,_,rfl,SqT.of e_a,rfl,_,_,rfl,_,_,rfl,rfl,?_⟩
  refine ⟨_,rfl,d,rfl,.inr ⟨_,.inl ed⟩,_,rfl,_,get_int ed e_b,_,rfl,_,p.2,cnt_look _ _,rfl,_,rfl,_,rfl,d,_,rfl,DPut.t (k:=kk p.1) ed e_b (small_lt (by rw [tvOf_len];omega)),?_⟩
  refine hN _ _ ⟨_,_,rfl,fun x w e=>?_,by rw [←put_tv];exact upd_same,by omega⟩
  rw [upd_ne (ne_of_none e n_d)]
  exact g _ _ e
 ·rintro σ H' ⟨o3,o4,rfl,g,ed,_⟩
  rw [List.length_map,bl,List.take_length] at ed
  have al:=add_len ys xs
  refine ⟨_,(@pss_one _ _ _ (@ps_ret _ _ _ _ (@pe_tup _ _ _ _ _ (@pa_cons _ _ _ _ _ (@pe_ix _ _ _ _ _ _ _ ix_tup (pv 0) pe_int (fun _ _=>rfl)) (@pa_cons _ _ _ _ _ (@pe_ix _ _ _ _ _ _ _ ix_tup (pv 0) pe_int (fun _ _=>rfl)) (@pa_cons _ _ _ _ _ (pe_callTy call_tuple_of rfl z_tuple PyProof.Rows.boot_tuple (@pa_cons _ _ _ _ _ (pe_callB (call_sortIT rfl hr.units) rfl z_sorted PyProof.Rows.boot_sorted (@pa_cons _ _ _ _ _ (pe_bm0 PySem.F.plainAttrs_dict PySem.F.slot_dict_items PySem.F.type_dict_items mt_itemsT (pv 2)) pa_nil (by rfl))) pa_nil (by rfl))) (@pa_cons _ _ _ _ _ (@pe_op _ _ _ _ _ _ _ _ op_add (@pe_ix _ _ _ _ _ _ _ ix_tup (pv 0) pe_int (fun _ _=>rfl)) (@pe_ix _ _ _ _ _ _ _ ix_tup (pv 1) pe_int (fun _ _=>rfl))) pa_nil (by rfl)) (by rfl)) (by rfl)) (by rfl))))),?_⟩
  refine ⟨_,rfl,q1,_,0,_,rfl,rfl,SqT.of (g _ _ e_1),rfl,_,rfl,q1,_,1,_,rfl,rfl,SqT.of (g _ _ e_1),rfl,_,rfl,tyV_dT ed,d,_,rfl,rfl,ed,fun v nv=>?_⟩
  have g1:=same_laid nv (iView v d)
  have e_v:(upd H' v (iView v d)) v=some (iView v d):=upd_same
  have gg:=g.trans g1
  have ed:=g1 _ _ ed
  generalize upd H' v (iView v d)=H5 at e_v gg ed ⊢
  refine ⟨v,d,_,rfl,e_v,ed,by omega,fun H6 bs g6 pr6 l nl _=>?_⟩
  have gg:=gg.trans g6
  have gz:=same_laid nl (.lst (bs.map V.ref))
  have e_l:(upd H6 l (.lst (bs.map V.ref))) l=some (.lst (bs.map V.ref)):=upd_same
  have gg:=gg.trans gz
  have pr6:=Paired.mapP pr6 fun _ _ f=>ft_mono gz f
  generalize upd H6 l (.lst (bs.map V.ref))=H7 at e_l gg pr6 ⊢
  refine ⟨l,_,rfl,.inl ⟨SqL.of e_l,?_⟩⟩
  intro u n_u
  generalize hz:upd _ u _=H8
  revert H8
  refine blk ?_
  intro H8 hz
  have gz:=laid_same hz n_u
  have e_u:=laid_at hz
  clear hz
  have gg:=gg.trans gz
  have pr6:=Paired.mapP pr6 fun _ _ f=>ft_mono gz f
  refine ⟨_,rfl,q1,_,3,_,rfl,rfl,SqT.of (gg _ _ e_1),rfl,_,rfl,q2,_,3,_,rfl,rfl,SqT.of (gg _ _ e_2),rfl,_,_,rfl,rfl,leN rfl,?_⟩
  intro r n_r
  generalize hz:upd _ r _=H9
  revert H9
  refine blk ?_
  intro H9 hz
  have gz:=laid_same hz n_r
  have e_r:=laid_at hz
  clear hz
  have gg:=gg.trans gz
  have e_u:=gz _ _ e_u
  have pr6:=Paired.mapP pr6 fun _ _ f=>ft_mono gz f
  exact hq r _ gg ⟨u,bs,e_r,e_u,pr6⟩
end
end K33
namespace K33
open PySem L2 Ld
noncomputable def spLad33 (m:Nat):Sp:=fun vs H Q _=>∃(v:V) (t:Tr) (room deep:Int),vs=[.int room,.int deep,v]∧DV H v t.D∧t.ht<m∧(∀x∈t.all,ThL deep x)∧1≤room∧room≤20∧0≤deep∧deep≤20∧t.all.length<60∧∀(w q l:Addr) (H':Hp),Same H H'→H' w=some (.tup [.ref q,.ref l])→LadAt H' q room deep (sumS (ldT room deep t).1) (ldT room deep t).1→PprAt H' l (ldT room deep t).2→Q (.ref w) H'
theorem prd_app {α β:Type} {R:α→β→Prop} {xs:List α} {ys:List β} {us:List α} {vs:List β} (h:Paired R xs ys) (g:Paired R us vs):Paired R (xs++us) (ys++vs):=by
 induction h with
 | nil=>exact g
 | cons a r ih=>exact .cons a ih
theorem ppr_cat {H:Hp} {p q r:Addr} {as bs:List Addr} {xs ys:Sps} (pa:Paired (FT H) as xs) (pb:Paired (FT H) bs ys) (nr:H r=none):PprAt (upd H r (.lst (as.map V.ref++bs.map V.ref))) r (xs++ys):=
 ⟨as++bs,by rw [List.map_append];exact upd_same,prd_app (Paired.mapP pa fun _ _ f=>ft_mono (same_laid nr _) f) (Paired.mapP pb fun _ _ f=>ft_mono (same_laid nr _) f)⟩
theorem mrg_facts {room deep:Int} {ts us:List Th} {a b:Sps×Sps} (o1:LdOk room deep ts a) (o2:LdOk room deep us b) (tl:ts.length+us.length<60):(a.1.map (·.1)).Nodup∧a.1.length+b.1.length<64∧Kok deep ((srtP2 (addS a.1 b.1)).map (·.1))∧(srtP2 (addS a.1 b.1)).length<64:=by
 have n1:=o1.len
 have n2:=o2.len
 have al:=add_len b.1 a.1
 have sl:=(srtP2_perm (addS a.1 b.1)).length_eq
 exact ⟨o1.lok.pok.kok.nd,by omega,(add_pok o1.lok.pok o2.lok.pok.each).kok.perm ((srtP2_perm (addS a.1 b.1)).map _),by omega⟩
section
variable {P:Program} {w:World} {K:PySem.W.Frag} {mg:Str→Option Value} {base:Heap} {f:Addr} {fd:FuncData}
theorem ok_lad1 {m:Nat} (z_isinstance:mg "isinstance"=none) (z_tuple:mg "tuple"=none) (h_l_settled:Has P w K mg base "_law_settled" 2 ["_law_ladder"] spSet33) (h_l_added:Has P w K mg base "_law_added" 1 ["_law_one","_law_other"] spAdd33) (h_l_laddered:Has P w K mg base "_law_laddered" (2+m) ["_law_room_here","_law_deep","_law_tree_here"] (spLad33 m))
  (F:Fun K "_law_laddered" "_law_laddered" s_l_laddered f fd):FnOk P w K mg base CX0 (2+m+1) f fd ["_law_room_here","_law_deep","_law_tree_here"] (spLad33 (m+1)):=by
 refine F.ok sc_l_laddered (fun vs H Q E h=>?_) (fun cdv A outer s H vs Q E hr h=>?_)
 ·obtain ⟨v,t,room,deep,rfl,_⟩:=h
  rfl
 obtain ⟨v,t,room,deep,rfl,dv,ht,tk,r0,r1,d0,d1,tl,hq⟩:=h
 cases t with
 | node l r=>
  obtain ⟨a,mm,x,y,rfl,e,hx,hy⟩:=DV.node_inv dv
  have ht:max l.ht r.ht+1<m+1:=ht
  have tl:(l.all++r.all).length<60:=tl
  rw [List.length_append] at tl
  have k1:∀x∈l.all,ThL deep x:=fun x hx=>tk x (List.mem_append_left _ hx)
  have k2:∀x∈r.all,ThL deep x:=fun x hx=>tk x (List.mem_append_right _ hx)
  have o1:=ld_ok (room:=room) d0 d1 k1
  have o2:=ld_ok (room:=room) d0 d1 k2
  have f1:=o1.few
  have f2:=o2.few
  have hq:∀(w q l':Addr) (H':Hp),Same H H'→H' w=some (.tup [.ref q,.ref l'])→LadAt H' q room deep (sumS (mrgL room deep (ldT room deep l).1 (ldT room deep r).1)) (mrgL room deep (ldT room deep l).1 (ldT room deep r).1)→PprAt H' l' ((ldT room deep l).2++(ldT room deep r).2++mrgF room deep (ldT room deep l).1 (ldT room deep r).1)→Q (.ref w) H':=hq
  refine ⟨_,(@pss_cons _ _ _ _ _ (@ps_if _ _ _ _ _ _ _ _ (pt_val (pe_callB call_is rfl z_isinstance PyProof.Rows.boot_isinstance (@pa_cons _ _ _ _ _ (pv 2) (@pa_cons _ _ _ _ _ (pe_bltn (v:=.ty "tuple") rfl z_tuple PyProof.Rows.boot_tuple rfl) pa_nil (by rfl)) (by rfl)))) (@pss_cons _ _ _ _ _ (ps_asg (pe_callH h_l_laddered hr (@pa_cons _ _ _ _ _ (pv 0) (@pa_cons _ _ _ _ _ (pv 1) (@pa_cons _ _ _ _ _ (@pe_ix _ _ _ _ _ _ _ ix_tup (pv 2) pe_int (fun _ _=>rfl)) pa_nil (by rfl)) (by rfl)) (by rfl))) (pg_tup rfl (pgs_cons (pg_name (i:=3) sc_l_laddered.nd rfl (Or.inl rfl)) (pgs_cons (pg_name (i:=4) sc_l_laddered.nd rfl (Or.inl rfl)) pgs_nil))))
 (@pss_cons _ _ _ _ _ (ps_asg (pe_callH h_l_laddered hr (@pa_cons _ _ _ _ _ (pv 0) (@pa_cons _ _ _ _ _ (pv 1) (@pa_cons _ _ _ _ _ (@pe_ix _ _ _ _ _ _ _ ix_tup (pv 2) pe_int (fun _ _=>rfl)) pa_nil (by rfl)) (by rfl)) (by rfl))) (pg_tup rfl (pgs_cons (pg_name (i:=5) sc_l_laddered.nd rfl (Or.inl rfl)) (pgs_cons (pg_name (i:=6) sc_l_laddered.nd rfl (Or.inl rfl)) pgs_nil))))
 (@pss_cons _ _ _ _ _ (ps_asg (pe_callH h_l_settled hr (@pa_cons _ _ _ _ _ (pe_callH h_l_added hr (@pa_cons _ _ _ _ _ (pv 3) (@pa_cons _ _ _ _ _ (pv 5) pa_nil (by rfl)) (by rfl))) pa_nil (by rfl))) (pg_tup rfl (pgs_cons (pg_name (i:=7) sc_l_laddered.nd rfl (Or.inl rfl)) (pgs_cons (pg_name (i:=8) sc_l_laddered.nd rfl (Or.inl rfl)) pgs_nil))))
 (@pss_one _ _ _ (@ps_ret _ _ _ _ (@pe_tup _ _ _ _ _ (@pa_cons _ _ _ _ _ (pv 7) (@pa_cons _ _ _ _ _ (@pe_op _ _ _ _ _ _ _ _ op_cat (@pe_op _ _ _ _ _ _ _ _ op_cat (pv 4) (pv 6)) (pv 8)) pa_nil (by rfl)) (by rfl)))))))) pss_nil) pss_run),?_⟩
  refine ⟨_,rfl,_,_,"tuple",_,rfl,TyOf.tup e,kit_t (by decide +kernel),_,rfl,iteT ?_⟩
  refine sA fun C hC=>?_
  refine ⟨_,rfl,_,rfl,_,rfl,a,_,1,_,rfl,rfl,SqT.of e,at3_1 _ _ _,x,l,room,deep,rfl,hx,by omega,k1,r0,r1,d0,d1,by omega,fun w1 q1 l1 H1 g1 e1 lad1 pp1=>?_⟩
  refine hC _ _ ⟨w1,_,rfl,SqT.of e1,rfl,_,_,rfl,_,_,rfl,rfl,sA fun C hC=>?_⟩
  refine ⟨_,rfl,_,rfl,_,rfl,a,_,2,_,rfl,rfl,SqT.of (g1 _ _ e),at3_2 _ _ _,y,r,room,deep,rfl,hy.mono g1,by omega,k2,r0,r1,d0,d1,by omega,fun w2 q2 l2 H2 g2 e2 lad2 pp2=>?_⟩
  refine hC _ _ ⟨w2,_,rfl,SqT.of e2,rfl,_,_,rfl,_,_,rfl,rfl,sA fun C hC=>?_⟩
  generalize ldT room deep l=A at o1 f1 hq lad1 pp1
  generalize ldT room deep r=B at o2 f2 hq lad2 pp2
  have mf:=mrg_facts o1 o2 (by omega)
  have me:=mrg_eq (room:=room) o1.lok.pok o2.lok.pok
  refine ⟨_,rfl,_,rfl,q1,q2,room,deep,_,_,A.1,B.1,rfl,lad1.mono g2,lad2,mf.1,mf.2.1,fun q G1 g0 l3=>⟨q,room,deep,_,_,rfl,l3,r0,r1,d1,mf.2.2.1,mf.2.2.2,fun t r l H3 g3 e3 lad3 pp3 fl=>?_⟩⟩
  rw [me.1,me.2.2] at lad3
  rw [me.2.1] at pp3 fl
  have g3:=g0.trans g3
  refine hC _ _ ⟨t,_,rfl,SqT.of e3,rfl,_,_,rfl,_,_,rfl,rfl,rA fun C hC=>?_⟩
  obtain ⟨as,b1,c1⟩:=(pp1.mono g2).mono g3
  obtain ⟨bs,b2,c2⟩:=pp2.mono g3
  obtain ⟨cs,b3,c3⟩:=pp3
  have n1:=Paired.length c1
  have n2:=Paired.length c2
  have n3:=Paired.length c3
  refine ⟨_,rfl,_,rfl,_,rfl,l1,l2,_,_,rfl,rfl,b1,b2,small_le (by rw [List.length_map,List.length_map];omega),fun u nu=>?_⟩
  have g4:=same_laid nu (.lst (as.map V.ref++bs.map V.ref))
  have pu:=ppr_cat (p:=l1) (q:=l2) c1 c2 nu
  have b3:=g4 _ _ b3
  have c3:=Paired.mapP c3 fun _ _ f=>ft_mono g4 f
  have lad4:=lad3.mono g4
  have gg:=g1.trans (g2.trans (g3.trans g4))
  generalize upd H3 u (.lst (as.map V.ref++bs.map V.ref))=H4 at pu b3 c3 lad4 gg ⊢
  obtain ⟨us,bu,cu⟩:=pu
  have nu2:=Paired.length cu
  rw [List.length_append] at nu2
  refine ⟨_,rfl,u,l,_,_,rfl,rfl,bu,b3,small_le (by rw [List.length_map,List.length_map];omega),fun z nz=>?_⟩
  have g5:=same_laid nz (.lst (us.map V.ref++cs.map V.ref))
  have pz:=ppr_cat (p:=u) (q:=l) cu c3 nz
  have lad5:=lad4.mono g5
  have gg:=gg.trans g5
  generalize upd H4 z (.lst (us.map V.ref++cs.map V.ref))=H5 at pz lad5 gg ⊢
  refine ⟨leN rfl,fun w nw=>?_⟩
  have g6:=same_laid nw (.tup [.ref r,.ref z])
  exact hC _ _ (hq w r z _ (gg.trans g6) upd_same (lad5.mono g6) (pz.mono g6))
 | leaf ts=>
  obtain ⟨a,xs,rfl,e,dx⟩:=DV.list_inv dv
  have tl:ts.length<60:=tl
  have xl:=dx.length
  rw [List.length_map] at xl
  have tk:∀x∈ts,ThL deep x:=tk
  have hq:∀(w q l':Addr) (H':Hp),Same H H'→H' w=some (.tup [.ref q,.ref l'])→LadAt H' q room deep (sumS (lfP room deep ts).1) (lfP room deep ts).1→PprAt H' l' (lfP room deep ts).2→Q (.ref w) H':=hq
  refine ⟨_,(@pss_cons _ _ _ _ _ (@ps_if _ _ _ _ _ _ _ _ (pt_val (pe_callB call_is rfl z_isinstance PyProof.Rows.boot_isinstance (@pa_cons _ _ _ _ _ (pv 2) (@pa_cons _ _ _ _ _ (pe_bltn (v:=.ty "tuple") rfl z_tuple PyProof.Rows.boot_tuple rfl) pa_nil (by rfl)) (by rfl)))) (@pss_cons _ _ _ _ _ (ps_asg (pe_callH h_l_laddered hr (@pa_cons _ _ _ _ _ (pv 0) (@pa_cons _ _ _ _ _ (pv 1) (@pa_cons _ _ _ _ _ (@pe_ix _ _ _ _ _ _ _ ix_tup (pv 2) pe_int (fun _ _=>rfl)) pa_nil (by rfl)) (by rfl)) (by rfl))) (pg_tup rfl (pgs_cons (pg_name (i:=3) sc_l_laddered.nd rfl (Or.inl rfl)) (pgs_cons (pg_name (i:=4) sc_l_laddered.nd rfl (Or.inl rfl)) pgs_nil))))
 (@pss_cons _ _ _ _ _ (ps_asg (pe_callH h_l_laddered hr (@pa_cons _ _ _ _ _ (pv 0) (@pa_cons _ _ _ _ _ (pv 1) (@pa_cons _ _ _ _ _ (@pe_ix _ _ _ _ _ _ _ ix_tup (pv 2) pe_int (fun _ _=>rfl)) pa_nil (by rfl)) (by rfl)) (by rfl))) (pg_tup rfl (pgs_cons (pg_name (i:=5) sc_l_laddered.nd rfl (Or.inl rfl)) (pgs_cons (pg_name (i:=6) sc_l_laddered.nd rfl (Or.inl rfl)) pgs_nil))))
 (@pss_cons _ _ _ _ _ (ps_asg (pe_callH h_l_settled hr (@pa_cons _ _ _ _ _ (pe_callH h_l_added hr (@pa_cons _ _ _ _ _ (pv 3) (@pa_cons _ _ _ _ _ (pv 5) pa_nil (by rfl)) (by rfl))) pa_nil (by rfl))) (pg_tup rfl (pgs_cons (pg_name (i:=7) sc_l_laddered.nd rfl (Or.inl rfl)) (pgs_cons (pg_name (i:=8) sc_l_laddered.nd rfl (Or.inl rfl)) pgs_nil))))
 (@pss_one _ _ _ (@ps_ret _ _ _ _ (@pe_tup _ _ _ _ _ (@pa_cons _ _ _ _ _ (pv 7) (@pa_cons _ _ _ _ _ (@pe_op _ _ _ _ _ _ _ _ op_cat (@pe_op _ _ _ _ _ _ _ _ op_cat (pv 4) (pv 6)) (pv 8)) pa_nil (by rfl)) (by rfl)))))))) pss_nil) pss_run),?_⟩
  refine ⟨_,rfl,_,_,"tuple",_,rfl,TyOf.lst e,kit_t (by decide +kernel),_,rfl,iteF ?_⟩
  refine ⟨_,(@pss_cons _ _ _ _ _ (@ps_set _ _ 7 _ _ _ _ sc_l_laddered.nd rfl (Or.inl rfl) (@pe_tup _ _ _ _ _ (@pa_cons _ _ _ _ _ (pv 0) (@pa_cons _ _ _ _ _ (pv 1) (@pa_cons _ _ _ _ _ (@pe_tup _ _ _ _ _ pa_nil) (@pa_cons _ _ _ _ _ pe_int pa_nil (by rfl)) (by rfl)) (by rfl)) (by rfl))) (by rfl) (by first | exact .inl rfl | exact .inr rfl)) pss_run),?_⟩
  have gg:Same H H:=Same.refl _
  refine ⟨_,rfl,_,rfl,leN rfl,?_⟩
  intro c n_c
  generalize hz:upd _ c _=H1
  revert H1
  refine blk ?_
  intro H1 hz
  have gz:=laid_same hz n_c
  have e_c:=laid_at hz
  clear hz
  have gg:=gg.trans gz
  refine ⟨leN rfl,?_⟩
  intro q n_q
  generalize hz:upd _ q _=H2
  revert H2
  refine blk ?_
  intro H2 hz
  have gz:=laid_same hz n_q
  have e_q:=laid_at hz
  clear hz
  have gg:=gg.trans gz
  have e_c:=gz _ _ e_c
  refine ⟨_,(@pss_cons _ _ _ _ _ (@ps_set _ _ 4 _ _ _ _ sc_l_laddered.nd rfl (Or.inl rfl) (@pe_lst _ _ _ _ pa_nil) (by rfl) (by first | exact .inl rfl | exact .inr rfl)) pss_run),leN rfl,?_⟩
  intro l n_l
  generalize hz:upd _ l _=H3
  revert H3
  refine blk ?_
  intro H3 hz
  have gz:=laid_same hz n_l
  have e_l:=laid_at hz
  clear hz
  have gg:=gg.trans gz
  have e_c:=gz _ _ e_c
  have e_q:=gz _ _ e_q
  have lad:LadAt H3 q room deep (sumS (lfP room deep (ts.take 0)).1) (lfP room deep (ts.take 0)).1:=⟨c,[],e_q,e_c,.nil⟩
  have pp:PprAt H3 l (lfP room deep (ts.take 0)).2:=⟨[],e_l,.nil⟩
  refine ⟨_,(@pss_cons _ _ _ _ _ (ps_for PassesOwn.never rfl (pi_list (pv 2)) (pg_tup rfl (pgs_cons (pg_name (i:=9) sc_l_laddered.nd rfl (Or.inl rfl)) (pgs_cons (pg_name (i:=10) sc_l_laddered.nd rfl (Or.inl rfl)) (pgs_cons (pg_name (i:=11) sc_l_laddered.nd rfl (Or.inl rfl)) (pgs_cons (pg_name (i:=12) sc_l_laddered.nd rfl (Or.inl rfl)) pgs_nil)))))
 (@pss_cons _ _ _ _ _ (ps_asg (pe_callH h_l_settled hr (@pa_cons _ _ _ _ _ (@pe_tup _ _ _ _ _ (@pa_cons _ _ _ _ _ (pv 0) (@pa_cons _ _ _ _ _ (pv 1) (@pa_cons _ _ _ _ _ (@pe_tup _ _ _ _ _ (@pa_cons _ _ _ _ _ (@pe_tup _ _ _ _ _ (@pa_cons _ _ _ _ _ (@pe_tup _ _ _ _ _ (@pa_cons _ _ _ _ _ pe_int (@pa_cons _ _ _ _ _ (pv 11) pa_nil (by rfl)) (by rfl))) (@pa_cons _ _ _ _ _ (pv 12) pa_nil (by rfl)) (by rfl))) pa_nil (by rfl))) (@pa_cons _ _ _ _ _ (pv 12) pa_nil (by rfl)) (by rfl)) (by rfl)) (by rfl))) pa_nil (by rfl))) (pg_tup rfl (pgs_cons (pg_name (i:=3) sc_l_laddered.nd rfl (Or.inl rfl)) (pgs_cons (pg_name (i:=13) sc_l_laddered.nd rfl (Or.inl rfl)) pgs_nil))))
 (@pss_cons _ _ _ _ _ (ps_asg (pe_callH h_l_settled hr (@pa_cons _ _ _ _ _ (pe_callH h_l_added hr (@pa_cons _ _ _ _ _ (pv 7) (@pa_cons _ _ _ _ _ (pv 3) pa_nil (by rfl)) (by rfl))) pa_nil (by rfl))) (pg_tup rfl (pgs_cons (pg_name (i:=7) sc_l_laddered.nd rfl (Or.inl rfl)) (pgs_cons (pg_name (i:=8) sc_l_laddered.nd rfl (Or.inl rfl)) pgs_nil))))
 (@pss_one _ _ _ (@ps_set _ _ 4 _ _ _ _ sc_l_laddered.nd rfl (Or.inl rfl) (@pe_op _ _ _ _ _ _ _ _ op_cat (@pe_op _ _ _ _ _ _ _ _ op_cat (pv 4) (pv 13)) (pv 8)) (by rfl) (by first | exact .inl rfl | exact .inr rfl)))))) pss_run),?_⟩
  refine ⟨_,rfl,a,rfl,⟨_,SqL.of (gg _ _ e)⟩,?_⟩
  refine for_listH (xs:=xs) (fun i σ H'=>∃(q l:Addr) (o3 o8 o9 o10 o11 o12 o13:Option V),σ=[some (.int room),some (.int deep),some (.ref a),o3,some (.ref l),none,none,some (.ref q),o8,o9,o10,o11,o12,o13]∧Same H H'∧LadAt H' q room deep (sumS (lfP room deep (ts.take i)).1) (lfP room deep (ts.take i)).1∧PprAt H' l (lfP room deep (ts.take i)).2) ⟨q,l,_,_,_,_,_,_,_,rfl,gg,lad,pp⟩ ?_ ?_ ?_
  ·rintro i σ H' _ ⟨_,_,_,_,_,_,_,_,_,_,g,_⟩
   exact SqL.of (g _ _ e)
  ·clear lad pp e_c e_q e_l gg
   rintro i x σ H4 N B1 R hN hR hx ⟨q,l,o3,o8,o9,o10,o11,o12,o13,rfl,gg,lad,pp⟩
   obtain ⟨t,c',ht,rfl,ec,mt⟩:=DVs.th_at dx hx
   have ec:=gg _ _ ec
   have il:i<ts.length:=(List.getElem?_eq_some_iff.mp ht).1
   have o1:LdOk room deep (ts.take i) (lfP room deep (ts.take i)):=ld_leaf d0 d1 (ts.take i) [] ([],[]) ld_nil fun t ht=>tk t (List.mem_of_mem_take ht)
   have o2:=ld_th (room:=room) d0 d1 (tk t mt)
   rw [take_one ht,lfP_snoc] at hN
   have f1:=o1.few
   have f2:=o2.few
   have tkl:(ts.take i).length≤i:=by rw [List.length_take];omega
   have ok1:=(one_pok d0 (tk t mt)).kok
   generalize lfP room deep (ts.take i)=A at o1 f1 hN lad pp
   refine ⟨c',_,rfl,SqT.of ec,rfl,_,_,rfl,_,_,rfl,_,_,rfl,_,_,rfl,rfl,?_⟩
   refine sA fun C hC=>?_
   refine ⟨_,rfl,_,rfl,_,rfl,leN rfl,?_⟩
   intro k1 n_k1
   generalize hz:upd _ k1 _=G1
   revert G1
   refine blk ?_
   intro G1 hz
   have gz:=laid_same hz n_k1
   have e_k1:=laid_at hz
   clear hz
   have gg:=gg.trans gz
   have lad:=lad.mono gz
   have pp:=pp.mono gz
   refine ⟨_,rfl,leN rfl,?_⟩
   intro k2 n_k2
   generalize hz:upd _ k2 _=G2
   revert G2
   refine blk ?_
   intro G2 hz
   have gz:=laid_same hz n_k2
   have e_k2:=laid_at hz
   clear hz
   have gg:=gg.trans gz
   have e_k1:=gz _ _ e_k1
   have lad:=lad.mono gz
   have pp:=pp.mono gz
   refine ⟨leN rfl,?_⟩
   intro k3 n_k3
   generalize hz:upd _ k3 _=G3
   revert G3
   refine blk ?_
   intro G3 hz
   have gz:=laid_same hz n_k3
   have e_k3:=laid_at hz
   clear hz
   have gg:=gg.trans gz
   have e_k1:=gz _ _ e_k1
   have e_k2:=gz _ _ e_k2
   have lad:=lad.mono gz
   have pp:=pp.mono gz
   refine ⟨_,rfl,leN rfl,?_⟩
   intro k4 n_k4
   generalize hz:upd _ k4 _=G4
   revert G4
   refine blk ?_
   intro G4 hz
   have gz:=laid_same hz n_k4
   have e_k4:=laid_at hz
   clear hz
   have gg:=gg.trans gz
   have e_k1:=gz _ _ e_k1
   have e_k2:=gz _ _ e_k2
   have e_k3:=gz _ _ e_k3
   have lad:=lad.mono gz
   have pp:=pp.mono gz
   refine ⟨k4,room,deep,t.many,[((0,t.num),t.many)],rfl,⟨k3,[k2],e_k4,e_k3,.cons ⟨k1,e_k2,e_k1⟩ .nil⟩,r0,r1,d1,ok1,(show (1:Nat)<64 by decide),fun w1 q1 l1 G5 g5 e5 lad1 pp1 fl1=>?_⟩
   have es:t.many=sumS (thL room deep t):=((thL_ok (room:=room) d0 (tk t mt)).2.1).symm
   have lad1:LadAt G5 q1 room deep (sumS (thL room deep t)) (thL room deep t):=by rw [←es];exact lad1
   refine hC _ _ ⟨w1,_,rfl,SqT.of e5,rfl,_,_,rfl,_,_,rfl,rfl,sA fun C hC=>?_⟩
   have mf:=mrg_facts o1 o2 (by rw [List.length_singleton];omega)
   have me:=mrg_eq (room:=room) o1.lok.pok o2.lok.pok
   refine ⟨_,rfl,_,rfl,q,q1,room,deep,_,_,A.1,thL room deep t,rfl,lad.mono g5,lad1,mf.1,mf.2.1,fun q' G0 g0 l3=>⟨q',room,deep,_,_,rfl,l3,r0,r1,d1,mf.2.2.1,mf.2.2.2,fun w2 q2 l2 G6 g6 e6 lad2 pp2 fl2=>?_⟩⟩
   rw [me.1,me.2.2] at lad2
   rw [me.2.1] at pp2 fl2
   have g6:=g0.trans g6
   refine hC _ _ ⟨w2,_,rfl,SqT.of e6,rfl,_,_,rfl,_,_,rfl,rfl,oA fun C hC=>?_⟩
   obtain ⟨as,b1,c1⟩:=(pp.mono g5).mono g6
   obtain ⟨bs,b2,c2⟩:=pp1.mono g6
   obtain ⟨cs,b3,c3⟩:=pp2
   have n1:=Paired.length c1
   have n2:=Paired.length c2
   have n3:=Paired.length c3
   have gg:=gg.trans (g5.trans g6)
   refine ⟨_,rfl,_,rfl,l,l1,_,_,rfl,rfl,b1,b2,small_le (by rw [List.length_map,List.length_map];omega),fun u nu=>?_⟩
   have g7:=same_laid nu (.lst (as.map V.ref++bs.map V.ref))
   have pu:=ppr_cat (p:=l) (q:=l1) c1 c2 nu
   have b3:=g7 _ _ b3
   have c3:=Paired.mapP c3 fun _ _ f=>ft_mono g7 f
   have lad4:=lad2.mono g7
   have gg:=gg.trans g7
   generalize upd G6 u (.lst (as.map V.ref++bs.map V.ref))=G7 at pu b3 c3 lad4 gg ⊢
   obtain ⟨us,bu,cu⟩:=pu
   have nu2:=Paired.length cu
   rw [List.length_append] at nu2
   refine ⟨_,rfl,u,l2,_,_,rfl,rfl,bu,b3,small_le (by rw [List.length_map,List.length_map];omega),fun z nz=>?_⟩
   have g8:=same_laid nz (.lst (us.map V.ref++cs.map V.ref))
   have pz:=ppr_cat (p:=u) (q:=l2) cu c3 nz
   have lad5:=lad4.mono g8
   exact hC _ _ (hN _ _ ⟨q2,z,_,_,_,_,_,_,_,rfl,gg.trans g8,lad5,pz⟩)
  ·rintro σ H4 ⟨q,l,o3,o8,o9,o10,o11,o12,o13,rfl,gg,lad,pp⟩
   rw [xl,List.take_length] at lad pp
   refine ⟨_,(@pss_one _ _ _ (@ps_ret _ _ _ _ (@pe_tup _ _ _ _ _ (@pa_cons _ _ _ _ _ (pv 7) (@pa_cons _ _ _ _ _ (pv 4) pa_nil (by rfl)) (by rfl))))),?_⟩
   refine ⟨_,rfl,_,rfl,leN rfl,fun w nw=>?_⟩
   have g6:=same_laid nw (.tup [.ref q,.ref l])
   exact hq w q l _ (gg.trans g6) upd_same (lad.mono g6) (pp.mono g6)
theorem ok_lad (z_isinstance:mg "isinstance"=none) (z_tuple:mg "tuple"=none) (h_l_settled:Has P w K mg base "_law_settled" 2 ["_law_ladder"] spSet33) (h_l_added:Has P w K mg base "_law_added" 1 ["_law_one","_law_other"] spAdd33)
  (F:Fun K "_law_laddered" "_law_laddered" s_l_laddered f fd) (b:Binds K fd ["_law_room_here","_law_deep","_law_tree_here"] []) (hm:mg "_law_laddered"=some (.ref f)):
  ∀m:Nat,Has P w K mg base "_law_laddered" (2+m) ["_law_room_here","_law_deep","_law_tree_here"] (spLad33 m)
 | 0=>Has.of (no_call fun vs H Q E h=>by
   obtain ⟨v,t,_,_,_,_,h1,_⟩:=h
   omega) b F.kp hm
 | m+1=>Has.of (ok_lad1 z_isinstance z_tuple h_l_settled h_l_added (ok_lad z_isinstance z_tuple h_l_settled h_l_added F b hm m) F) b F.kp hm
end
end K33
namespace K33
open PySem L2 Ld
noncomputable def TSt (H H':Hp):Prop:=∀b xs,H b=some (.tup xs)→H' b=some (.tup xs)
theorem tst {H H':Hp} (g:Same H H'):TSt H H':=fun b xs e=>g b _ e
noncomputable def TE (H:Hp) (x:V):Prop:=∃c th,x=.ref c∧H c=some (.tup (Th.vs th))∧PyData.strOk th.word=true∧0≤th.num∧1≤th.many
noncomputable def PE (H:Hp) (x:V):Prop:=∃c p,x=.ref c∧FT H c p
noncomputable def P0 (H:Hp) (x:V):Prop:=∃c p,x=.ref c∧FT H c p∧1≤p.2∧p.2<100000000000000000000
noncomputable def All (P:Hp→V→Prop) (H:Hp) (xs:List V):Prop:=∀x∈xs,P H x
class Stays (P:Hp→V→Prop):Prop where
 st:∀{H H':Hp} {x:V},TSt H H'→P H x→P H' x
theorem ft_st {H H':Hp} (g:TSt H H') {a:Addr} {p:(Int×Int)×Int} (h:FT H a p):FT H' a p:=let ⟨b,e1,e2⟩:=h;⟨b,g _ _ e1,g _ _ e2⟩
instance:Stays TE:=⟨fun g ⟨c,th,e,h,w⟩=>⟨c,th,e,g _ _ h,w⟩⟩
instance:Stays PE:=⟨fun g ⟨c,p,e,h⟩=>⟨c,p,e,ft_st g h⟩⟩
instance:Stays P0:=⟨fun g ⟨c,p,e,h,w⟩=>⟨c,p,e,ft_st g h,w⟩⟩
theorem P0.pe {H:Hp} {x:V} (h:P0 H x):PE H x:=let ⟨c,p,e,h,_⟩:=h;⟨c,p,e,h⟩
section
variable {P:Hp→V→Prop} {H H':Hp} {xs ys:List V}
theorem All.st [Stays P] (h:All P H xs) (g:TSt H H'):All P H' xs:=fun x hx=>Stays.st g (h x hx)
theorem All.mono [Stays P] (h:All P H xs) (g:Same H H'):All P H' xs:=h.st (tst g)
theorem All.app (h:All P H xs) (g:All P H ys):All P H (xs++ys):=fun x hx=>(List.mem_append.mp hx).elim (h x) (g x)
theorem cutV_mem {xs:List V} {lo hi:Option Int} {x:V} (h:x∈cutV xs lo hi):x∈xs:=List.mem_of_mem_drop (List.mem_of_mem_take h)
theorem All.cut (h:All P H xs) (lo hi:Option Int):All P H (cutV xs lo hi):=fun x hx=>h x (cutV_mem hx)
theorem All.rev (h:All P H xs):All P H xs.reverse:=fun x hx=>h x (List.mem_reverse.mp hx)
theorem All.one {x:V} (h:P H x):All P H [x]:=fun y hy=>by rw [List.mem_singleton.mp hy];exact h
theorem All.nil:All P H []:=fun _ h=>nomatch h
theorem All.cons {x:V} (h:P H x) (r:All P H xs):All P H (x::xs):=fun y hy=>(List.mem_cons.mp hy).elim (fun e=>by rw [e];exact h) (r y)
end
theorem All.pe {H:Hp} {xs:List V} (h:All P0 H xs):All PE H xs:=fun x hx=>(h x hx).pe
noncomputable def ThOk (t:Th):Prop:=PyData.strOk t.word=true∧0≤t.num∧1≤t.many
theorem st_of {H:Hp}:∀{xs:List V},All TE H xs→∃ts:List Th,DVs H xs (ts.map Th.D)∧ts.length=xs.length∧∀x∈ts,ThOk x
 | [],_=>⟨[],.nil,rfl,(fun _ h=>nomatch h)⟩
 | x::xs,h=>by
  obtain ⟨c,th,rfl,e,w⟩:=h x (.head _)
  obtain ⟨ts,d,l,g⟩:=st_of fun y hy=>h y (.tail _ hy)
  exact ⟨th::ts,.cons (Th.dv e) d,by rw [List.length_cons,List.length_cons,l],fun y hy=>(List.mem_cons.mp hy).elim (fun e=>by rw [e];exact w) (g y)⟩
theorem ps_of {H:Hp}:∀{xs:List V},All PE H xs→∃(as:List Addr) (ps:Sps),xs=as.map V.ref∧Paired (FT H) as ps∧ps.length=xs.length
 | [],_=>⟨[],[],rfl,.nil,rfl⟩
 | x::xs,h=>by
  obtain ⟨c,p,rfl,e⟩:=h x (.head _)
  obtain ⟨as,ps,rfl,d,l⟩:=ps_of fun y hy=>h y (.tail _ hy)
  exact ⟨c::as,p::ps,rfl,.cons e d,by rw [List.length_cons,List.length_cons,l]⟩
theorem p0_of {H:Hp} {as:List Addr} {ps:Sps} (h:Paired (FT H) as ps) (g:∀p∈ps,1≤p.2∧p.2<100000000000000000000):All P0 H (as.map V.ref):=by
 induction h with
 | nil=>exact All.nil
 | cons h r ih=>exact All.cons ⟨_,_,rfl,h,g _ (.head _)⟩ (ih fun p hp=>g p (.tail _ hp))
theorem te_of {H:Hp} {xs:List V} {ts:List Th} (d:DVs H xs (ts.map Th.D)) (w:∀t∈ts,ThOk t):All TE H xs:=fun x hx=>by
 obtain ⟨i,hi⟩:=List.getElem?_of_mem hx
 obtain ⟨t,c,_,rfl,e,m⟩:=DVs.th_at d hi
 exact ⟨c,t,rfl,e,w t m⟩
theorem cut_len (xs:List V) (lo hi:Option Int):(cutV xs lo hi).length≤xs.length:=cutV_length xs lo hi
theorem cut_two (xs:List V) {k:Nat} (h:k<xs.length):(cutV xs none (some (k:Int))).length+(cutV xs (some ((k:Int)+1)) none).length+1=xs.length:=by
 rw [cut_to,show ((k:Int)+1)=((k+1:Nat):Int) by omega,cut_from,List.length_take,List.length_drop]
 omega
noncomputable def SG (n:Nat) (H:Hp) (r:Addr):Prop:=∃xs,H r=some (.lst xs)∧All TE H xs∧xs.length≤n
noncomputable def PG (n:Nat) (H:Hp) (p:Addr):Prop:=∃xs,H p=some (.lst xs)∧All PE H xs∧xs.length≤n
noncomputable def LG (deep:Int) (H:Hp) (q:Addr):Prop:=∃(room total:Int) (qs:Sps),LadAt H q room deep total qs∧(qs.map (·.1)).Nodup∧qs.length≤60
theorem SG.mono {n:Nat} {H H':Hp} {r:Addr} (h:SG n H r) (g:Same H H'):SG n H' r:=let ⟨xs,e,a,l⟩:=h;⟨xs,g _ _ e,a.mono g,l⟩
theorem PG.mono {n:Nat} {H H':Hp} {r:Addr} (h:PG n H r) (g:Same H H'):PG n H' r:=let ⟨xs,e,a,l⟩:=h;⟨xs,g _ _ e,a.mono g,l⟩
theorem LG.mono {deep:Int} {H H':Hp} {q:Addr} (h:LG deep H q) (g:Same H H'):LG deep H' q:=let ⟨room,total,qs,l,n,k⟩:=h;⟨room,total,qs,l.mono g,n,k⟩
theorem SG.dv {n:Nat} {H:Hp} {r:Addr} (h:SG n H r):∃ts,DV H (.ref r) (strD ts)∧ts.length≤n∧∀t∈ts,ThOk t:=by
 obtain ⟨xs,e,a,k⟩:=h
 obtain ⟨ts,d,l2,w⟩:=st_of a
 exact ⟨ts,.lst e d,by omega,w⟩
theorem PG.at {n:Nat} {H:Hp} {p:Addr} (h:PG n H p):∃ps,PprAt H p ps∧ps.length≤n:=by
 obtain ⟨xs,e,a,k⟩:=h
 obtain ⟨as,ps,rfl,d,l2⟩:=ps_of a
 exact ⟨ps,⟨as,e,d⟩,by omega⟩
noncomputable def pD (p:(Int×Int)×Int):PyData:=.tuple [.tuple [.int p.1.1,.int p.1.2],.int p.2]
noncomputable def ppD (ps:Sps):PyData:=.list (ps.map pD)
theorem ft_dvs {H:Hp} {as:List Addr} {ps:Sps} (h:Paired (FT H) as ps):DVs H (as.map V.ref) (ps.map pD):=by
 induction h with
 | nil=>exact .nil
 | cons f r ih=>
  obtain ⟨b,e1,e2⟩:=f
  exact .cons (.tup e1 (.cons (.tup e2 (.cons (.int _) (.cons (.int _) .nil))) (.cons (.int _) .nil))) ih
theorem PprAt.dv {H:Hp} {p:Addr} {ps:Sps} (h:PprAt H p ps):DV H (.ref p) (ppD ps):=let ⟨_,e,r⟩:=h;.lst e (ft_dvs r)
theorem pd_lay (p:(Int×Int)×Int):(pD p).canLay0=true∧(pD p).depth≤2:=by
 unfold pD
 simp [PyData.canLay0,PyData.canLayAll0,PyData.depth,PyData.depthAll]
theorem ppd_lay (ps:Sps):(ppD ps).canLay0=true∧(ppD ps).depth≤3:=lay_list ps fun p _=>pd_lay p
theorem th_lay33 {t:Th} (h:PyData.strOk t.word=true):t.D.canLay0=true∧t.D.depth≤1:=by
 unfold Th.D
 simp [PyData.canLay0,PyData.canLayAll0,PyData.depth,PyData.depthAll,h]
theorem str_lay33 {ts:List Th} (h:∀t∈ts,ThOk t):(strD ts).canLay0=true∧(strD ts).depth≤2:=lay_list ts fun t ht=>th_lay33 (h t ht).1
theorem two_lay {d e:PyData} {n:Nat} (h:d.canLay0=true∧d.depth≤n) (g:e.canLay0=true∧e.depth≤n):(PyData.tuple [d,e]).canLay0=true∧(PyData.tuple [d,e]).depth≤n+1:=by
 simp only [PyData.canLay0,PyData.depth,PyData.canLayAll0,PyData.depthAll]
 refine ⟨by rw [h.1,g.1];rfl,?_⟩
 have:=h.2
 have:=g.2
 omega
noncomputable def spSaid33:Sp:=fun vs H Q _=>∃(r q p:Addr) (deep:Int),vs=[.ref r,.ref q,.ref p]∧0≤deep∧deep≤20∧SG 200 H r∧LG deep H q∧PG 700 H p∧∀H',Same H H'→Q (.bl true) H'
section
variable {P:Program} {w:World} {K:PySem.W.Frag} {mg:Str→Option Value} {base:Heap} {f:Addr} {fd:FuncData}
theorem ok_said (z_isinstance:mg "isinstance"=none) (z_bool:mg "bool"=none) (z_list:mg "list"=none) (h_is_folded:Has P w K mg base "is_folded" 5 ["stream","ladder","paper"] spFolded) (h_l_due:Has P w K mg base "_law_due" 1 ["_law_stream_here","_law_ladder","_law_paper"] spDue33)
  (F:Fun K "_law_said" "_law_said" s_l_said f fd):FnOk P w K mg base CX0 6 f fd ["_law_stream_here","_law_ladder","_law_paper"] spSaid33:=by
 refine F.ok sc_l_said (fun vs H Q E h=>?_) (fun cdv A outer s H vs Q E hr h=>?_)
 ·obtain ⟨r,q,p,deep,rfl,_⟩:=h
  rfl
 obtain ⟨r,q,p,deep,rfl,d0,d1,sg,⟨room,total,qs,lad,nq,ql⟩,pg,hq⟩:=h
 obtain ⟨ts,k_r,tl,tw⟩:=sg.dv
 obtain ⟨ps,k_p,pl⟩:=pg.at
 refine ⟨_,(@pss_cons _ _ _ _ _ (@ps_set _ _ 3 _ _ _ _ sc_l_said.nd rfl (Or.inl rfl) (@pe_tup _ _ _ _ _ (@pa_cons _ _ _ _ _ (pe_callTy call_list_of rfl z_list PyProof.Rows.boot_list (@pa_cons _ _ _ _ _ (pv 0) pa_nil (by rfl))) (@pa_cons _ _ _ _ _ (pe_callTy call_list_of rfl z_list PyProof.Rows.boot_list (@pa_cons _ _ _ _ _ (pv 2) pa_nil (by rfl))) pa_nil (by rfl)) (by rfl))) (by rfl) (by first | exact .inl rfl | exact .inr rfl))
 (@pss_cons _ _ _ _ _ (@ps_set _ _ 4 _ _ _ _ sc_l_said.nd rfl (Or.inl rfl) (pe_callH h_is_folded hr (@pa_cons _ _ _ _ _ (@pe_ix _ _ _ _ _ _ _ ix_tup (pv 3) pe_int (fun _ _=>rfl)) (@pa_cons _ _ _ _ _ (pv 1) (@pa_cons _ _ _ _ _ (@pe_ix _ _ _ _ _ _ _ ix_tup (pv 3) pe_int (fun _ _=>rfl)) pa_nil (by rfl)) (by rfl)) (by rfl))) (by rfl) (by first | exact .inl rfl | exact .inr rfl))
 (@pss_one _ _ _ (@ps_ret _ _ _ _ (@pe_and _ _ _ _ _ _ _ (pe_callB call_is rfl z_isinstance PyProof.Rows.boot_isinstance (@pa_cons _ _ _ _ _ (pv 4) (@pa_cons _ _ _ _ _ (pe_bltn (v:=.ty "bool") rfl z_bool PyProof.Rows.boot_bool rfl) pa_nil (by rfl)) (by rfl))) (@pe_and _ _ _ _ _ _ _ (@pe_cmpR _ _ _ _ _ _ _ _ op_eq (pv 4) (pe_callH h_l_due hr (@pa_cons _ _ _ _ _ (pv 0) (@pa_cons _ _ _ _ _ (pv 1) (@pa_cons _ _ _ _ _ (pv 2) pa_nil (by rfl)) (by rfl)) (by rfl))) (nomark _)) (@pe_one _ _ _ _ _ (@pe_cmpR _ _ _ _ _ _ _ _ (op_eqD hr.units) (pv 3) (@pe_tup _ _ _ _ _ (@pa_cons _ _ _ _ _ (pv 0) (@pa_cons _ _ _ _ _ (pv 2) pa_nil (by rfl)) (by rfl))) (nomark _))))))))),?_⟩
 have gg:Same H H:=Same.refl _
 obtain ⟨_,xs,e0,e_r,dx⟩:=DV.list_inv k_r
 cases e0
 obtain ⟨as,e_p,kb⟩:=id k_p
 refine ⟨_,rfl,r,xs,rfl,.inl (SqL.of e_r),?_⟩
 intro a n_a
 generalize hz:upd _ a _=H1
 revert H1
 refine blk ?_
 intro H1 hz
 have gz:=laid_same hz n_a
 have e_a:=laid_at hz
 clear hz
 have gg:=gg.trans gz
 refine ⟨_,rfl,p,_,rfl,.inl (SqL.of (gg _ _ e_p)),?_⟩
 intro b n_b
 generalize hz:upd _ b _=H2
 revert H2
 refine blk ?_
 intro H2 hz
 have gz:=laid_same hz n_b
 have e_b:=laid_at hz
 clear hz
 have gg:=gg.trans gz
 have e_a:=gz _ _ e_a
 refine ⟨leN rfl,?_⟩
 intro c n_c
 generalize hz:upd _ c _=H3
 revert H3
 refine blk ?_
 intro H3 hz
 have gz:=laid_same hz n_c
 have e_c:=laid_at hz
 clear hz
 have gg:=gg.trans gz
 have e_a:=gz _ _ e_a
 have e_b:=gz _ _ e_b
 dsimp only
 have k_a:DV H3 (.ref a) (strD ts):=.lst e_a (dx.mono gg)
 have k_b:PprAt H3 b ps:=⟨as,e_b,Paired.mapP kb fun _ _ f=>ft_mono gg f⟩
 refine ⟨_,rfl,c,_,_,_,rfl,rfl,SqT.of e_c,rfl,_,rfl,_,rfl,c,_,_,_,rfl,rfl,SqT.of e_c,rfl,?_⟩
 refine ⟨a,q,b,ts,room,deep,total,qs,ps,rfl,k_a,by omega,lad.mono gg,nq,by omega,d0,d1,k_b,by omega,fun H4 g4=>?_⟩
 have gg4:=gg.trans g4
 dsimp only
 refine ⟨_,rfl,_,_,"bool",_,rfl,TyOf.bl _,kit_t (by decide +kernel),_,rfl,iteT ?_⟩
 refine ⟨_,rfl,_,rfl,_,rfl,_,rfl,r,q,p,ts,room,deep,total,qs,ps,rfl,k_r.mono gg4,tl,lad.mono gg4,nq,by omega,d0,d1,k_p.mono gg4,pl,fun H5 g5=>⟨rfl,_,rfl,?_⟩⟩
 rw [fld_due (fun t ht=>(tw t ht).2) nq,decide_eq_true rfl]
 have gg5:=gg4.trans g5
 refine iteT ⟨_,rfl,_,rfl,_,rfl,leN rfl,?_⟩
 have gg:=gg5
 intro d n_d
 generalize hz:upd _ d _=H6
 revert H6
 refine blk ?_
 intro H6 hz
 have gz:=laid_same hz n_d
 have e_d:=laid_at hz
 clear hz
 have gg:=gg.trans gz
 have g6:=(g4.trans g5).trans gz
 have d1:DV H6 (.ref c) (.tuple [strD ts,ppD ps]):=.tup (g6 _ _ e_c) (.cons (k_a.mono g6) (.cons ((k_b.mono g6).dv) .nil))
 have d2:DV H6 (.ref d) (.tuple [strD ts,ppD ps]):=.tup e_d (.cons (k_r.mono gg) (.cons ((k_p.mono gg).dv) .nil))
 have ly:=two_lay (n:=3) (let ⟨x,y⟩:=str_lay33 tw;⟨x,by omega⟩) (ppd_lay ps)
 refine ⟨_,_,d1,d2,shaped_of ly (by decide),shaped_of ly (by decide),?_⟩
 rw [eqv_self ly]
 exact hq _ gg
end
end K33
namespace K33
open PySem L2 Ld
noncomputable def spBS33:Sp:=fun vs H Q _=>∃(a r:Addr) (deep:Int),vs=[.ref a,.int deep,.ref r]∧PenAt H a∧0≤deep∧deep≤10∧SG 100 (hide a H) r∧∀(l:Addr) (H':Hp),SG 200 (hide a H') l→PenAt H' a→Grw a H H'→Q (.ref l) H'
noncomputable def spBP33:Sp:=fun vs H Q _=>∃(a p:Addr) (deep:Int) (xs:List V),vs=[.ref a,.int deep,.ref p]∧PenAt H a∧hide a H p=some (.lst xs)∧All P0 (hide a H) xs∧0<xs.length∧xs.length≤600∧∀(l:Addr) (H':Hp),PG 700 (hide a H') l→PenAt H' a→Grw a H H'→Q (.ref l) H'
theorem a_ok:PyData.strOk "a"=true:=by decide +kernel
theorem hide_upd_ne {H:Hp} {a l x:Addr} {o:HO} (n:x≠l):hide a (upd H l o) x=hide a H x:=by
 by_cases e:x=a
 ·subst e
  unfold hide
  rw [if_pos rfl,if_pos rfl]
 ·rw [hide_ne e,hide_ne e,upd_ne n]
theorem tst_put {H:Hp} {a l:Addr} {ys:List V} {o:HO} (e:hide a H l=some (.lst ys)):TSt (hide a H) (hide a (upd H l o)):=fun b xs h=>by
 have n:b≠l:=fun z=>by rw [z,e] at h;cases h
 rw [hide_upd_ne n]
 exact h
section
variable {P:Program} {w:World} {K:PySem.W.Frag} {mg:Str→Option Value} {base:Heap} {f:Addr} {fd:FuncData}
theorem ok_bs (z_len:mg "len"=none) (h_l_draw:Has P w K mg base "_law_draw" 1 ["_law_pen_here","_law_size"] spDraw)
  (F:Fun K "_law_bent_stream" "_law_bent_stream" s_l_bent_stream f fd):FnOk P w K mg base CX0 2 f fd ["_law_pen_here","_law_deep","_law_stream_here"] spBS33:=by
 refine F.ok sc_l_bent_stream (fun vs H Q E h=>?_) (fun cdv A outer s H vs Q E hr h=>?_)
 ·obtain ⟨a,r,deep,rfl,_⟩:=h
  rfl
 obtain ⟨a,r,deep,rfl,hp,dd0,dd1,k_s,hq⟩:=h
 have gg:Grw a H H:=Same.refl _
 have tw:=two_small (m:=deep) dd1
 obtain ⟨ts,d_s,_,gs⟩:=k_s.dv
 obtain ⟨xs,e_r,k_x,xl⟩:=k_s
 refine ⟨_,(@pss_cons _ _ _ _ _ (@ps_if _ _ _ _ _ _ _ _ (@pt_cmpR _ _ _ _ _ _ _ _ (op_eqD hr.units) (pv 2) (@pe_lst _ _ _ _ pa_nil) (nomark _)) (@pss_one _ _ _ (@ps_ret _ _ _ _ (@pe_lst _ _ _ _ (@pa_cons _ _ _ _ _ (@pe_tup _ _ _ _ _ (@pa_cons _ _ _ _ _ pe_int (@pa_cons _ _ _ _ _ pe_str (@pa_cons _ _ _ _ _ pe_int (@pa_cons _ _ _ _ _ pe_int pa_nil (by rfl)) (by rfl)) (by rfl)) (by rfl))) pa_nil (by rfl))))) pss_nil) pss_run),?_⟩
 refine ⟨_,rfl,leN rfl,?_⟩
 skip
 intro z0 n_z0
 generalize hz:upd _ z0 _=H1
 revert H1
 refine blk ?_
 intro H1 hz
 have hw:=laid_pen hz n_z0 hp
 have hp:=hw.1
 have gz:=hw.2.1
 have ne_z0:=hw.2.2.1
 have e_z0:=hw.2.2.2
 clear hw hz
 have gg:=gg.trans gz
 have e_r:=gz _ _ e_r
 have k_x:=k_x.mono gz
 have d_s:=d_s.mono gz
 refine ⟨_,_,d_s.mono hide_sub,.lst (hide_some e_z0).2 .nil,shaped_of (str_lay33 gs) (by decide),by decide,_,rfl,?_⟩
 rw [eqv_nil]
 have emp:(ts.map Th.D).isEmpty=xs.isEmpty:=by
  obtain ⟨_,ys,e0,ey,dy⟩:=DV.list_inv d_s
  cases e0
  rw [e_r] at ey
  cases ey
  have:=dy.length
  cases ts <;> cases xs <;> first | rfl | (simp at this)
 rw [emp]
 refine ite2 (fun c=>rA fun C hC=>?_) (fun c=>?_)
 ·refine ⟨leN rfl,?_⟩
  intro q1 n_q1
  generalize hz:upd _ q1 _=H2
  revert H2
  refine blk ?_
  intro H2 hz
  have hw:=laid_pen hz n_q1 hp
  have hp:=hw.1
  have gz:=hw.2.1
  have ne_q1:=hw.2.2.1
  have e_q1:=hw.2.2.2
  clear hw hz
  have gg:=gg.trans gz
  have e_r:=gz _ _ e_r
  have k_x:=k_x.mono gz
  have d_s:=d_s.mono gz
  have e_z0:=gz _ _ e_z0
  refine ⟨leN rfl,?_⟩
  skip
  intro q2 n_q2
  generalize hz:upd _ q2 _=H3
  revert H3
  refine blk ?_
  intro H3 hz
  have hw:=laid_pen hz n_q2 hp
  have hp:=hw.1
  have gz:=hw.2.1
  have ne_q2:=hw.2.2.1
  have e_q2:=hw.2.2.2
  clear hw hz
  have gg:=gg.trans gz
  have e_q1:=gz _ _ e_q1
  exact hC _ _ (hq q2 _ ⟨_,e_q2,All.one ⟨q1,⟨0,"a",0,1⟩,rfl,e_q1,a_ok,by decide,by decide⟩,leN rfl⟩ hp gg)
 have xpos:0<xs.length:=by
  cases xs with
  | nil=>exact absurd rfl c
  | cons _ _=>simp
 refine ⟨_,(@pss_cons _ _ _ _ _ (@ps_set _ _ 3 _ _ _ _ sc_l_bent_stream.nd rfl (Or.inl rfl) (pe_callH h_l_draw hr (@pa_cons _ _ _ _ _ (pv 0) (@pa_cons _ _ _ _ _ (pe_callB call_len_seq rfl z_len PySem.boot_len (@pa_cons _ _ _ _ _ (pv 2) pa_nil (by rfl))) pa_nil (by rfl)) (by rfl))) (by rfl) (by first | exact .inl rfl | exact .inr rfl)) pss_run),sA fun C hC=>?_⟩
 refine ⟨_,rfl,_,rfl,r,xs,rfl,.inl (hSqL e_r),a,_,rfl,hp,by omega,by omega,fun at1 H2 x0 x1 hp gz=>?_⟩
 skip
 have gg:=gg.trans gz
 have e_r:=gz _ _ e_r
 have k_x:=k_x.mono gz
 obtain ⟨k,rfl⟩:=Int.eq_ofNat_of_zero_le x0
 have kl:k<xs.length:=by have x1:(k:Int)<(xs.length:Int):=x1;omega
 obtain ⟨v,hv⟩:∃v,xs[k]?=some v:=⟨xs[k],List.getElem?_eq_getElem kl⟩
 obtain ⟨c,th,rfl,e_c,w1,w2,w3⟩:=k_x v (List.mem_of_getElem? hv)
 refine hC _ _ ⟨_,(@pss_cons _ _ _ _ _ (ps_asg (@pe_ix _ _ _ _ _ _ _ ix_list (pv 2) (pv 3) (fun _ _=>rfl)) (pg_tup rfl (pgs_cons (pg_name (i:=4) sc_l_bent_stream.nd rfl (Or.inl rfl)) (pgs_cons (pg_name (i:=5) sc_l_bent_stream.nd rfl (Or.inl rfl)) (pgs_cons (pg_name (i:=6) sc_l_bent_stream.nd rfl (Or.inl rfl)) (pgs_cons (pg_name (i:=7) sc_l_bent_stream.nd rfl (Or.inl rfl)) pgs_nil)))))) pss_run),?_⟩
 refine ⟨_,rfl,_,rfl,r,_,_,_,rfl,rfl,hSqL e_r,atI_nat hv,c,_,rfl,hSqT e_c,rfl,_,_,rfl,_,_,rfl,_,_,rfl,_,_,rfl,rfl,?_⟩
 have cl:=fun lo hi=>cut_len xs lo hi
 refine ⟨_,(@pss_cons _ _ _ _ _ (@ps_set _ _ 8 _ _ _ _ sc_l_bent_stream.nd rfl (Or.inl rfl) (@pe_lst _ _ _ _ (@pa_cons _ _ _ _ _ (@pe_op _ _ _ _ _ _ _ _ op_add (pv 6) pe_int) (@pa_cons _ _ _ _ _ (@pe_op _ _ _ _ _ _ _ _ op_fdiv (pv 6) pe_int) (@pa_cons _ _ _ _ _ (pv 6) (@pa_cons _ _ _ _ _ (@pe_op _ _ _ _ _ _ _ _ op_shl pe_int (pv 1)) (@pa_cons _ _ _ _ _ (@pe_op _ _ _ _ _ _ _ _ op_add (@pe_op _ _ _ _ _ _ _ _ op_shl pe_int (pv 1)) (@pe_op _ _ _ _ _ _ _ _ op_pow pe_int pe_int)) pa_nil (by rfl)) (by rfl)) (by rfl)) (by rfl)) (by rfl))) (by rfl) (by first | exact .inl rfl | exact .inr rfl)) pss_run),sA fun C hC=>?_⟩
 refine ⟨_,rfl,_,_,rfl,rfl,_,rfl,_,_,rfl,rfl,⟨by decide,by decide⟩,_,rfl,_,rfl,_,_,rfl,rfl,⟨by omega,by omega,by decide⟩,_,rfl,_,_,rfl,rfl,⟨by omega,by omega,by decide⟩,_,_,rfl,rfl,powI rfl rfl rfl,_,_,rfl,rfl,leN rfl,?_⟩
 intro l1 n_l1
 generalize hz:upd _ l1 _=H3
 revert H3
 refine blk ?_
 intro H3 hz
 have hw:=laid_pen hz n_l1 hp
 have hp:=hw.1
 have gz:=hw.2.1
 have ne_l1:=hw.2.2.1
 have e_l1:=hw.2.2.2
 clear hw hz
 have gg:=gg.trans gz
 have e_r:=gz _ _ e_r
 have k_x:=k_x.mono gz
 refine hC _ _ ⟨_,(@pss_cons _ _ _ _ _ (@ps_set _ _ 9 _ _ _ _ sc_l_bent_stream.nd rfl (Or.inl rfl) (@pe_lst _ _ _ _ (@pa_cons _ _ _ _ _ (@pe_tup _ _ _ _ _ (@pa_cons _ _ _ _ _ (pv 4) (@pa_cons _ _ _ _ _ (pv 5) (@pa_cons _ _ _ _ _ (@pe_ix _ _ _ _ _ _ _ ix_list (pv 8) (pe_callH h_l_draw hr (@pa_cons _ _ _ _ _ (pv 0) (@pa_cons _ _ _ _ _ pe_int pa_nil (by rfl)) (by rfl))) (fun _ _=>rfl)) (@pa_cons _ _ _ _ _ (pv 7) pa_nil (by rfl)) (by rfl)) (by rfl)) (by rfl))) pa_nil (by rfl))) (by rfl) (by first | exact .inl rfl | exact .inr rfl)) pss_run),sA fun C hC=>?_⟩
 refine ⟨_,rfl,_,rfl,_,rfl,?_⟩
 refine ⟨_,rfl,a,5,rfl,hp,posI rfl,ltI rfl,fun d H4 d0 d1 hp gz=>?_⟩
 have gg:=gg.trans gz
 have e_r:=gz _ _ e_r
 have k_x:=k_x.mono gz
 have e_l1:=gz _ _ e_l1
 obtain ⟨v,hv2,mv⟩:=pick e_l1 d0 d1
 obtain ⟨n,rfl,n0⟩:∃n:Int,v=.int n∧0≤n:=by
  simp only [List.mem_cons,List.not_mem_nil,or_false] at mv
  rcases mv with rfl | rfl | rfl | rfl | rfl
  ·exact ⟨_,rfl,by show 0≤th.num+1;omega⟩
  ·exact ⟨_,rfl,by show 0≤th.num / 2;omega⟩
  ·exact ⟨_,rfl,w2⟩
  ·exact ⟨_,rfl,by show 0≤1 * (2:Int) ^ deep.toNat;omega⟩
  ·exact ⟨_,rfl,by show 0≤1 * (2:Int) ^ deep.toNat+_;refine Int.add_nonneg (by omega) (by decide)⟩
 refine ⟨l1,_,_,_,rfl,rfl,hSqL e_l1,hv2,_,rfl,leN rfl,?_⟩
 skip
 intro t1 n_t1
 generalize hz:upd _ t1 _=H5
 revert H5
 refine blk ?_
 intro H5 hz
 have hw:=laid_pen hz n_t1 hp
 have hp:=hw.1
 have gz:=hw.2.1
 have ne_t1:=hw.2.2.1
 have e_t1:=hw.2.2.2
 clear hw hz
 have gg:=gg.trans gz
 have e_r:=gz _ _ e_r
 have k_x:=k_x.mono gz
 refine ⟨leN rfl,?_⟩
 intro s0 n_s0
 generalize hz:upd _ s0 _=H6
 revert H6
 refine blk ?_
 intro H6 hz
 have hw:=laid_pen hz n_s0 hp
 have hp:=hw.1
 have gz:=hw.2.1
 have ne_s0:=hw.2.2.1
 have e_s0:=hw.2.2.2
 clear hw hz
 have gg:=gg.trans gz
 have e_r:=gz _ _ e_r
 have k_x:=k_x.mono gz
 have e_t1:=gz _ _ e_t1
 refine hC _ _ ⟨_,(@pss_one _ _ _ (@ps_ret _ _ _ _ (@pe_ix _ _ _ _ _ _ _ ix_list (@pe_lst _ _ _ _ (@pa_cons _ _ _ _ _ (@pe_op _ _ _ _ _ _ _ _ op_cat (@pe_op _ _ _ _ _ _ _ _ op_cat (pe_slice sl_list (pv 2) po_none (po_some (pv 3))) (pv 9)) (pe_slice sl_list (pv 2) (po_some (@pe_op _ _ _ _ _ _ _ _ op_add (pv 3) pe_int)) po_none)) (@pa_cons _ _ _ _ _ (@pe_op _ _ _ _ _ _ _ _ op_cat (pe_slice sl_list (pv 2) po_none (po_some (pv 3))) (pe_slice sl_list (pv 2) (po_some (@pe_op _ _ _ _ _ _ _ _ op_add (pv 3) pe_int)) po_none)) (@pa_cons _ _ _ _ _ (pe_rev (pv 2) (@pe_un _ _ _ _ _ _ un_neg pe_int)) pa_nil (by rfl)) (by rfl)) (by rfl))) (pe_callH h_l_draw hr (@pa_cons _ _ _ _ _ (pv 0) (@pa_cons _ _ _ _ _ pe_int pa_nil (by rfl)) (by rfl))) (fun _ _=>rfl)))),rA fun C hC=>?_⟩
 refine ⟨_,rfl,_,rfl,_,rfl,r,xs,rfl,hSqL e_r,?_⟩
 intro p1 n_p1
 generalize hz:upd _ p1 _=H7
 revert H7
 refine blk ?_
 intro H7 hz
 have hw:=laid_pen hz n_p1 hp
 have hp:=hw.1
 have gz:=hw.2.1
 have ne_p1:=hw.2.2.1
 have e_p1:=hw.2.2.2
 clear hw hz
 have gg:=gg.trans gz
 have e_r:=gz _ _ e_r
 have k_x:=k_x.mono gz
 have e_t1:=gz _ _ e_t1
 have e_s0:=gz _ _ e_s0
 refine ⟨_,rfl,p1,s0,_,_,rfl,rfl,(hide_some e_p1).2,(hide_some e_s0).2,small_le (Nat.le_trans (Nat.add_le_add_right (cl _ _) _) (by show _+1≤_;omega)),?_⟩
 intro p2 n_p2
 generalize hz:upd _ p2 _=H8
 revert H8
 refine blk ?_
 intro H8 hz
 have hw:=laid_pen hz n_p2 hp
 have hp:=hw.1
 have gz:=hw.2.1
 have ne_p2:=hw.2.2.1
 have e_p2:=hw.2.2.2
 clear hw hz
 have gg:=gg.trans gz
 have e_r:=gz _ _ e_r
 have k_x:=k_x.mono gz
 have e_t1:=gz _ _ e_t1
 have e_s0:=gz _ _ e_s0
 have e_p1:=gz _ _ e_p1
 refine ⟨_,rfl,_,rfl,_,_,rfl,rfl,_,rfl,r,xs,rfl,hSqL e_r,?_⟩
 intro p3 n_p3
 generalize hz:upd _ p3 _=H9
 revert H9
 refine blk ?_
 intro H9 hz
 have hw:=laid_pen hz n_p3 hp
 have hp:=hw.1
 have gz:=hw.2.1
 have ne_p3:=hw.2.2.1
 have e_p3:=hw.2.2.2
 clear hw hz
 have gg:=gg.trans gz
 have e_r:=gz _ _ e_r
 have k_x:=k_x.mono gz
 have e_t1:=gz _ _ e_t1
 have e_s0:=gz _ _ e_s0
 have e_p1:=gz _ _ e_p1
 have e_p2:=gz _ _ e_p2
 refine ⟨p2,p3,_,_,rfl,rfl,(hide_some e_p2).2,(hide_some e_p3).2,small_le (by rw [List.length_append];exact Nat.le_trans (Nat.add_le_add (Nat.add_le_add_right (cl _ _) _) (cl _ _)) (by show _+1+_≤_;omega)),?_⟩
 skip
 intro s1 n_s1
 generalize hz:upd _ s1 _=H10
 revert H10
 refine blk ?_
 intro H10 hz
 have hw:=laid_pen hz n_s1 hp
 have hp:=hw.1
 have gz:=hw.2.1
 have ne_s1:=hw.2.2.1
 have e_s1:=hw.2.2.2
 clear hw hz
 have gg:=gg.trans gz
 have e_r:=gz _ _ e_r
 have k_x:=k_x.mono gz
 have e_t1:=gz _ _ e_t1
 refine ⟨_,rfl,_,rfl,_,rfl,r,xs,rfl,hSqL e_r,?_⟩
 intro p1 n_p1
 generalize hz:upd _ p1 _=H11
 revert H11
 refine blk ?_
 intro H11 hz
 have hw:=laid_pen hz n_p1 hp
 have hp:=hw.1
 have gz:=hw.2.1
 have ne_p1:=hw.2.2.1
 have e_p1:=hw.2.2.2
 clear hw hz
 have gg:=gg.trans gz
 have e_r:=gz _ _ e_r
 have k_x:=k_x.mono gz
 have e_t1:=gz _ _ e_t1
 have e_s1:=gz _ _ e_s1
 refine ⟨_,rfl,_,rfl,_,_,rfl,rfl,_,rfl,r,xs,rfl,hSqL e_r,?_⟩
 intro p2 n_p2
 generalize hz:upd _ p2 _=H12
 revert H12
 refine blk ?_
 intro H12 hz
 have hw:=laid_pen hz n_p2 hp
 have hp:=hw.1
 have gz:=hw.2.1
 have ne_p2:=hw.2.2.1
 have e_p2:=hw.2.2.2
 clear hw hz
 have gg:=gg.trans gz
 have e_r:=gz _ _ e_r
 have k_x:=k_x.mono gz
 have e_t1:=gz _ _ e_t1
 have e_s1:=gz _ _ e_s1
 have e_p1:=gz _ _ e_p1
 refine ⟨p1,p2,_,_,rfl,rfl,(hide_some e_p1).2,(hide_some e_p2).2,small_le (Nat.le_trans (Nat.add_le_add (cl _ _) (cl _ _)) (by omega)),?_⟩
 skip
 intro s2 n_s2
 generalize hz:upd _ s2 _=H13
 revert H13
 refine blk ?_
 intro H13 hz
 have hw:=laid_pen hz n_s2 hp
 have hp:=hw.1
 have gz:=hw.2.1
 have ne_s2:=hw.2.2.1
 have e_s2:=hw.2.2.2
 clear hw hz
 have gg:=gg.trans gz
 have e_r:=gz _ _ e_r
 have k_x:=k_x.mono gz
 have e_t1:=gz _ _ e_t1
 have e_s1:=gz _ _ e_s1
 refine ⟨_,rfl,_,rfl,r,xs,rfl,rfl,hSqL e_r,?_⟩
 intro s3 n_s3
 generalize hz:upd _ s3 _=H14
 revert H14
 refine blk ?_
 intro H14 hz
 have hw:=laid_pen hz n_s3 hp
 have hp:=hw.1
 have gz:=hw.2.1
 have ne_s3:=hw.2.2.1
 have e_s3:=hw.2.2.2
 clear hw hz
 have gg:=gg.trans gz
 have e_r:=gz _ _ e_r
 have k_x:=k_x.mono gz
 have e_t1:=gz _ _ e_t1
 have e_s1:=gz _ _ e_s1
 have e_s2:=gz _ _ e_s2
 refine ⟨leN rfl,?_⟩
 intro N n_N
 generalize hz:upd _ N _=H15
 revert H15
 refine blk ?_
 intro H15 hz
 have hw:=laid_pen hz n_N hp
 have hp:=hw.1
 have gz:=hw.2.1
 have ne_N:=hw.2.2.1
 have e_N:=hw.2.2.2
 clear hw hz
 have gg:=gg.trans gz
 have e_r:=gz _ _ e_r
 have k_x:=k_x.mono gz
 have e_t1:=gz _ _ e_t1
 have e_s1:=gz _ _ e_s1
 have e_s2:=gz _ _ e_s2
 have e_s3:=gz _ _ e_s3
 refine ⟨_,rfl,a,3,rfl,hp,posI rfl,ltI rfl,fun dd H16 dd0 dd1 hp gz=>?_⟩
 have gg:=gg.trans gz
 have e_r:=gz _ _ e_r
 have k_x:=k_x.mono gz
 have e_t1:=gz _ _ e_t1
 have e_s1:=gz _ _ e_s1
 have e_s2:=gz _ _ e_s2
 have e_s3:=gz _ _ e_s3
 have e_N:=gz _ _ e_N
 obtain ⟨v,hv,mv⟩:=pick e_N dd0 dd1
 refine ⟨N,_,_,v,rfl,rfl,hSqL e_N,hv,?_⟩
 have T1:TE (hide a H16) (.ref t1):=⟨t1,⟨th.day,th.word,n,th.many⟩,rfl,e_t1,w1,n0,w3⟩
 have fin:∀{l:Addr} {ys:List V},hide a H16 l=some (.lst ys)→All TE (hide a H16) ys→ys.length≤200→C (.ref l) H16:=fun e al le=>hC _ _ (hq _ _ ⟨_,e,al,le⟩ hp gg)
 have h1:=cut_two xs (k:=k) kl
 simp only [List.mem_cons,List.not_mem_nil,or_false] at mv
 rcases mv with rfl | rfl | rfl
 ·exact fin e_s1 (((k_x.cut _ _).app (All.one T1)).app (k_x.cut _ _)) (by
   rw [List.length_append,List.length_append]
   show _+1+_≤200
   omega)
 ·exact fin e_s2 ((k_x.cut _ _).app (k_x.cut _ _)) (by rw [List.length_append];omega)
 ·exact fin e_s3 k_x.rev (by rw [List.length_reverse];omega)
end
end K33
namespace K33
open PySem L2 Ld
theorem mem_ins {α:Type} {t x:α} {ts:List α} {i:Nat} (h:x∈ts.take i++t::ts.drop i):x=t∨x∈ts:=by
 rcases List.mem_append.mp h with h | h
 ·exact .inr (List.mem_of_mem_take h)
 ·rcases List.mem_cons.mp h with h | h
  ·exact .inl h
  ·exact .inr (List.mem_of_mem_drop h)
theorem len_ins {α:Type} (t:α) (ts:List α) (i:Nat):(ts.take i++t::ts.drop i).length=ts.length+1:=by
 rw [List.length_append,List.length_cons,List.length_take,List.length_drop]
 omega
section
variable {P:Program} {w:World} {K:PySem.W.Frag} {mg:Str→Option Value} {base:Heap} {f:Addr} {fd:FuncData}
theorem ok_bp (z_len:mg "len"=none) (z_int:mg "int"=none) (h_l_draw:Has P w K mg base "_law_draw" 1 ["_law_pen_here","_law_size"] spDraw)
  (F:Fun K "_law_bent_paper" "_law_bent_paper" s_l_bent_paper f fd):FnOk P w K mg base CX0 2 f fd ["_law_pen_here","_law_deep","_law_paper"] spBP33:=by
 refine F.ok sc_l_bent_paper (fun vs H Q E h=>?_) (fun cdv A outer s H vs Q E hr h=>?_)
 ·obtain ⟨a,p,deep,xs,rfl,_⟩:=h
  rfl
 obtain ⟨a,p,deep,xs,rfl,hp,e_p,k_x,x1,xl,hq⟩:=h
 have gg:Grw a H H:=Same.refl _
 refine ⟨_,(@pss_cons _ _ _ _ _ (@ps_set _ _ 3 _ _ _ _ sc_l_bent_paper.nd rfl (Or.inl rfl) (pe_callH h_l_draw hr (@pa_cons _ _ _ _ _ (qv (pv 0)) (@pa_cons _ _ _ _ _ pe_int pa_nil (by rfl)) (by rfl))) (by rfl) (by first | exact .inl rfl | exact .inr rfl)) pss_run),sA fun C hC=>?_⟩
 refine ⟨a,7,rfl,hp,posI rfl,ltI rfl,fun way H1 _ _ hp gz=>?_⟩
 skip
 have gg:=gg.trans gz
 have e_p:=gz _ _ e_p
 have k_x:=k_x.mono gz
 refine hC _ _ ⟨_,(@pss_cons _ _ _ _ _ (@ps_set _ _ 4 _ _ _ _ sc_l_bent_paper.nd rfl (Or.inl rfl) (pe_callH h_l_draw hr (@pa_cons _ _ _ _ _ (qv (pv 0)) (@pa_cons _ _ _ _ _ (pe_callB call_len_seq rfl z_len PySem.boot_len (@pa_cons _ _ _ _ _ (qv (pv 2)) pa_nil (by rfl))) pa_nil (by rfl)) (by rfl))) (by rfl) (by first | exact .inl rfl | exact .inr rfl)) pss_run),sA fun C hC=>?_⟩
 refine ⟨p,xs,rfl,.inl (hSqL e_p),a,_,rfl,hp,by omega,by omega,fun at1 H2 y0 y1 hp gz=>?_⟩
 have gg:=gg.trans gz
 have e_p:=gz _ _ e_p
 have k_x:=k_x.mono gz
 obtain ⟨k,rfl⟩:=Int.eq_ofNat_of_zero_le y0
 have kl:k<xs.length:=by have y1:(k:Int)<(xs.length:Int):=y1;omega
 obtain ⟨v,hv⟩:∃v,xs[k]?=some v:=⟨xs[k],List.getElem?_eq_getElem kl⟩
 obtain ⟨c,⟨⟨h,i⟩,n⟩,rfl,⟨b,e_c,e_b⟩,n1,n2⟩:=k_x v (List.mem_of_getElem? hv)
 have k_v:=(k_x _ (List.mem_of_getElem? hv)).pe
 have n1:1≤n:=n1
 have n2:n<100000000000000000000:=n2
 have e_c:hide a H2 c=some (.tup [.ref b,.int n]):=e_c
 have e_b:hide a H2 b=some (.tup [.int h,.int i]):=e_b
 have k_x:=k_x.pe
 refine hC _ _ ⟨_,(@pss_cons _ _ _ _ _ (ps_asg (@pe_ix _ _ _ _ _ _ _ qix_list (qv (pv 2)) (qv (pv 4)) (fun _ _=>rfl)) (pg_tup rfl (pgs_cons (pg_tup rfl (pgs_cons (pg_name (i:=5) sc_l_bent_paper.nd rfl (Or.inl rfl)) (pgs_cons (pg_name (i:=6) sc_l_bent_paper.nd rfl (Or.inl rfl)) pgs_nil))) (pgs_cons (pg_name (i:=7) sc_l_bent_paper.nd rfl (Or.inl rfl)) pgs_nil)))) pss_run),?_⟩
 refine ⟨_,_,hSqL e_p,atI_nat hv,c,_,rfl,hSqT e_c,rfl,_,_,rfl,b,_,rfl,hSqT e_b,rfl,_,_,rfl,_,_,rfl,rfl,_,_,rfl,rfl,?_⟩
 have cl:=fun lo hi=>cut_len xs lo hi
 have c2:=cut_two xs (k:=k) kl
 refine ⟨_,(@pss_cons _ _ _ _ _ (@ps_set _ _ 8 _ _ _ _ sc_l_bent_paper.nd rfl (Or.inl rfl) (pe_slice sl_list (qv (pv 2)) po_none (po_some (qv (pv 4)))) (by rfl) (by first | exact .inl rfl | exact .inr rfl)) pss_run),sA fun C hC=>?_⟩
 refine ⟨_,rfl,p,xs,rfl,hSqL e_p,?_⟩
 intro p8 n_p8
 generalize hz:upd _ p8 _=H3
 revert H3
 refine blk ?_
 intro H3 hz
 have hw:=laid_pen hz n_p8 hp
 have hp:=hw.1
 have gz:=hw.2.1
 have ne_p8:=hw.2.2.1
 have e_p8:=hw.2.2.2
 clear hw hz
 have gg:=gg.trans gz
 have e_p:=gz _ _ e_p
 have k_x:=k_x.mono gz
 refine hC _ _ ⟨_,(@pss_cons _ _ _ _ _ (@ps_set _ _ 9 _ _ _ _ sc_l_bent_paper.nd rfl (Or.inl rfl) (pe_slice sl_list (qv (pv 2)) (po_some (@pe_op _ _ _ _ _ _ _ _ (qi0 op_add) (qv (pv 4)) pe_int)) po_none) (by rfl) (by first | exact .inl rfl | exact .inr rfl)) pss_run),sA fun C hC=>?_⟩
 refine ⟨_,rfl,p,xs,rfl,hSqL e_p,?_⟩
 intro p9 n_p9
 generalize hz:upd _ p9 _=H4
 revert H4
 refine blk ?_
 intro H4 hz
 have hw:=laid_pen hz n_p9 hp
 have hp:=hw.1
 have gz:=hw.2.1
 have ne_p9:=hw.2.2.1
 have e_p9:=hw.2.2.2
 clear hw hz
 have gg:=gg.trans gz
 have e_p:=gz _ _ e_p
 have k_x:=k_x.mono gz
 have e_p8:=gz _ _ e_p8
 have k_v:PE (hide a H4) (.ref c):=k_x _ (List.mem_of_getElem? hv)
 have k_8:All PE (hide a H4) (cutV xs none (some (k:Int))):=k_x.cut _ _
 have k_9:All PE (hide a H4) (cutV xs (some ((k:Int)+1)) none):=k_x.cut _ _
 generalize cutV xs none (some (k:Int))=y8 at e_p8 k_8 c2
 have e_p9:hide a H4 p9=some (.lst (cutV xs (some ((k:Int)+1)) none)):=e_p9
 generalize cutV xs (some ((k:Int)+1)) none=y9 at e_p9 k_9 c2
 have fin:∀{l:Addr} {ys:List V} {H':Hp},hide a H' l=some (.lst ys)→All PE (hide a H') ys→ys.length≤700→PenAt H' a→Grw a H H'→Q (.ref l) H':=fun e al le hp gg=>hq _ _ ⟨_,e,al,le⟩ hp gg
 refine hC _ _ ⟨_,(@pss_cons _ _ _ _ _ (@ps_if _ _ _ _ _ _ _ _ (qt_cmp (qeq op_eq) (qv (pv 3)) pe_int (nomark _)) (@pss_one _ _ _ (@ps_ret _ _ _ _ (@pe_op _ _ _ _ _ _ _ _ op_cat (@pe_op _ _ _ _ _ _ _ _ op_cat (qv (pv 8)) (@pe_lst _ _ _ _ (@pa_cons _ _ _ _ _ (@pe_tup _ _ _ _ _ (@pa_cons _ _ _ _ _ (@pe_tup _ _ _ _ _ (@pa_cons _ _ _ _ _ (qv (pv 5)) (@pa_cons _ _ _ _ _ (qv (pv 6)) pa_nil (by rfl)) (by rfl))) (@pa_cons _ _ _ _ _ (@pe_op _ _ _ _ _ _ _ _ (qi0 op_add) (qv (pv 7)) (@pe_ix _ _ _ _ _ _ _ qix_list (@pe_lst _ _ _ _ (@pa_cons _ _ _ _ _ pe_int (@pa_cons _ _ _ _ _ (@pe_un _ _ _ _ _ _ un_neg pe_int) (@pa_cons _ _ _ _ _ (@pe_op _ _ _ _ _ _ _ _ (qi0 op_sub) pe_int (qv (pv 7))) (@pa_cons _ _ _ _ _ (@pe_op _ _ _ _ _ _ _ _ (qi op_mul) (@pe_un _ _ _ _ _ _ un_neg pe_int) (qv (pv 7))) pa_nil (by rfl)) (by rfl)) (by rfl)) (by rfl))) (pe_callH h_l_draw hr (@pa_cons _ _ _ _ _ (qv (pv 0)) (@pa_cons _ _ _ _ _ pe_int pa_nil (by rfl)) (by rfl))) (fun _ _=>rfl))) pa_nil (by rfl)) (by rfl))) pa_nil (by rfl)))) (qv (pv 9))))) pss_nil) pss_run),?_⟩
 refine ite2 (fun _=>rA fun C hC=>?_) (fun _=>?_)
 ·refine ⟨leN rfl,?_⟩
  skip
  intro k1 n_k1
  generalize hz:upd _ k1 _=J1
  revert J1
  refine blk ?_
  intro J1 hz
  have hw:=laid_pen hz n_k1 hp
  have hp:=hw.1
  have gz:=hw.2.1
  have ne_k1:=hw.2.2.1
  have e_k1:=hw.2.2.2
  clear hw hz
  have gg:=gg.trans gz
  have e_p8:=gz _ _ e_p8
  have e_p9:=gz _ _ e_p9
  have k_8:=k_8.mono gz
  have k_9:=k_9.mono gz
  refine ⟨_,rfl,_,rfl,mulL rfl rfl,leN rfl,?_⟩
  intro l1 n_l1
  generalize hz:upd _ l1 _=J2
  revert J2
  refine blk ?_
  intro J2 hz
  have hw:=laid_pen hz n_l1 hp
  have hp:=hw.1
  have gz:=hw.2.1
  have ne_l1:=hw.2.2.1
  have e_l1:=hw.2.2.2
  clear hw hz
  have gg:=gg.trans gz
  have e_p8:=gz _ _ e_p8
  have e_p9:=gz _ _ e_p9
  have k_8:=k_8.mono gz
  have k_9:=k_9.mono gz
  have e_k1:=gz _ _ e_k1
  refine ⟨a,4,rfl,hp,posI rfl,ltI rfl,fun d J3 d0 d1 hp gz=>?_⟩
  have gg:=gg.trans gz
  have e_p8:=gz _ _ e_p8
  have e_p9:=gz _ _ e_p9
  have k_8:=k_8.mono gz
  have k_9:=k_9.mono gz
  have e_k1:=gz _ _ e_k1
  have e_l1:=gz _ _ e_l1
  obtain ⟨u,hu,mu⟩:=pick e_l1 d0 d1
  obtain ⟨m,rfl⟩:∃m:Int,u=.int m:=by
   simp only [List.mem_cons,List.not_mem_nil,or_false] at mu
   rcases mu with rfl | rfl | rfl | rfl <;> exact ⟨_,rfl⟩
  refine ⟨_,_,hSqL e_l1,hu,leN rfl,?_⟩
  skip
  intro k2 n_k2
  generalize hz:upd _ k2 _=J4
  revert J4
  refine blk ?_
  intro J4 hz
  have hw:=laid_pen hz n_k2 hp
  have hp:=hw.1
  have gz:=hw.2.1
  have ne_k2:=hw.2.2.1
  have e_k2:=hw.2.2.2
  clear hw hz
  have gg:=gg.trans gz
  have e_p8:=gz _ _ e_p8
  have e_p9:=gz _ _ e_p9
  have k_8:=k_8.mono gz
  have k_9:=k_9.mono gz
  have e_k1:=gz _ _ e_k1
  refine ⟨leN rfl,?_⟩
  intro l2 n_l2
  generalize hz:upd _ l2 _=J5
  revert J5
  refine blk ?_
  intro J5 hz
  have hw:=laid_pen hz n_l2 hp
  have hp:=hw.1
  have gz:=hw.2.1
  have ne_l2:=hw.2.2.1
  have e_l2:=hw.2.2.2
  clear hw hz
  have gg:=gg.trans gz
  have e_p8:=gz _ _ e_p8
  have e_p9:=gz _ _ e_p9
  have k_8:=k_8.mono gz
  have k_9:=k_9.mono gz
  have e_k1:=gz _ _ e_k1
  have e_k2:=gz _ _ e_k2
  refine ⟨p8,l2,_,_,rfl,rfl,(hide_some e_p8).2,(hide_some e_l2).2,small_le (by show _+1≤_;omega),?_⟩
  intro l3 n_l3
  generalize hz:upd _ l3 _=J6
  revert J6
  refine blk ?_
  intro J6 hz
  have hw:=laid_pen hz n_l3 hp
  have hp:=hw.1
  have gz:=hw.2.1
  have ne_l3:=hw.2.2.1
  have e_l3:=hw.2.2.2
  clear hw hz
  have gg:=gg.trans gz
  have e_p8:=gz _ _ e_p8
  have e_p9:=gz _ _ e_p9
  have k_8:=k_8.mono gz
  have k_9:=k_9.mono gz
  have e_k1:=gz _ _ e_k1
  have e_k2:=gz _ _ e_k2
  have e_l2:=gz _ _ e_l2
  refine ⟨l3,p9,_,_,rfl,rfl,(hide_some e_l3).2,(hide_some e_p9).2,small_le (by rw [List.length_append];show _+1+_≤_;omega),?_⟩
  intro l4 n_l4
  generalize hz:upd _ l4 _=J7
  revert J7
  refine blk ?_
  intro J7 hz
  have hw:=laid_pen hz n_l4 hp
  have hp:=hw.1
  have gz:=hw.2.1
  have ne_l4:=hw.2.2.1
  have e_l4:=hw.2.2.2
  clear hw hz
  have gg:=gg.trans gz
  have e_p8:=gz _ _ e_p8
  have e_p9:=gz _ _ e_p9
  have k_8:=k_8.mono gz
  have k_9:=k_9.mono gz
  have e_k1:=gz _ _ e_k1
  have e_k2:=gz _ _ e_k2
  have e_l2:=gz _ _ e_l2
  have e_l3:=gz _ _ e_l3
  exact hC _ _ (fin e_l4 ((k_8.app (All.one ⟨k2,((h,i),n+m),rfl,k1,e_k2,e_k1⟩)).app k_9) (by rw [List.length_append,List.length_append];show _+1+_≤_;omega) hp gg)
 refine ⟨_,(@pss_cons _ _ _ _ _ (@ps_if _ _ _ _ _ _ _ _ (qt_cmp (qeq op_eq) (qv (pv 3)) pe_int (nomark _)) (@pss_one _ _ _ (@ps_ret _ _ _ _ (@pe_op _ _ _ _ _ _ _ _ op_cat (qv (pv 8)) (qv (pv 9))))) pss_nil) pss_run),?_⟩
 refine ite2 (fun _=>rA fun C hC=>?_) (fun _=>?_)
 ·refine ⟨p8,p9,_,_,rfl,rfl,(hide_some e_p8).2,(hide_some e_p9).2,small_le (by omega),?_⟩
  skip
  intro l4 n_l4
  generalize hz:upd _ l4 _=J1
  revert J1
  refine blk ?_
  intro J1 hz
  have hw:=laid_pen hz n_l4 hp
  have hp:=hw.1
  have gz:=hw.2.1
  have ne_l4:=hw.2.2.1
  have e_l4:=hw.2.2.2
  clear hw hz
  have gg:=gg.trans gz
  have k_8:=k_8.mono gz
  have k_9:=k_9.mono gz
  exact hC _ _ (fin e_l4 (k_8.app k_9) (by rw [List.length_append];omega) hp gg)
 refine ⟨_,(@pss_cons _ _ _ _ _ (@ps_if _ _ _ _ _ _ _ _ (qt_cmp (qeq op_eq) (qv (pv 3)) pe_int (nomark _)) (@pss_one _ _ _ (@ps_ret _ _ _ _ (@pe_op _ _ _ _ _ _ _ _ op_cat (@pe_op _ _ _ _ _ _ _ _ op_cat (qv (pv 8)) (@pe_lst _ _ _ _ (@pa_cons _ _ _ _ _ (@pe_ix _ _ _ _ _ _ _ qix_list (qv (pv 2)) (qv (pv 4)) (fun _ _=>rfl)) (@pa_cons _ _ _ _ _ (@pe_ix _ _ _ _ _ _ _ qix_list (qv (pv 2)) (qv (pv 4)) (fun _ _=>rfl)) pa_nil (by rfl)) (by rfl)))) (qv (pv 9))))) pss_nil) pss_run),?_⟩
 refine ite2 (fun _=>rA fun C hC=>?_) (fun _=>?_)
 ·refine ⟨_,_,hSqL e_p,atI_nat hv,_,_,hSqL e_p,atI_nat hv,leN rfl,?_⟩
  skip
  intro l2 n_l2
  generalize hz:upd _ l2 _=J1
  revert J1
  refine blk ?_
  intro J1 hz
  have hw:=laid_pen hz n_l2 hp
  have hp:=hw.1
  have gz:=hw.2.1
  have ne_l2:=hw.2.2.1
  have e_l2:=hw.2.2.2
  clear hw hz
  have gg:=gg.trans gz
  have e_p8:=gz _ _ e_p8
  have e_p9:=gz _ _ e_p9
  have k_8:=k_8.mono gz
  have k_9:=k_9.mono gz
  have e_p:=gz _ _ e_p
  have k_x:=k_x.mono gz
  refine ⟨p8,l2,_,_,rfl,rfl,(hide_some e_p8).2,(hide_some e_l2).2,small_le (by show _+2≤_;omega),?_⟩
  intro l3 n_l3
  generalize hz:upd _ l3 _=J2
  revert J2
  refine blk ?_
  intro J2 hz
  have hw:=laid_pen hz n_l3 hp
  have hp:=hw.1
  have gz:=hw.2.1
  have ne_l3:=hw.2.2.1
  have e_l3:=hw.2.2.2
  clear hw hz
  have gg:=gg.trans gz
  have e_p8:=gz _ _ e_p8
  have e_p9:=gz _ _ e_p9
  have k_8:=k_8.mono gz
  have k_9:=k_9.mono gz
  have e_p:=gz _ _ e_p
  have k_x:=k_x.mono gz
  have e_l2:=gz _ _ e_l2
  refine ⟨l3,p9,_,_,rfl,rfl,(hide_some e_l3).2,(hide_some e_p9).2,small_le (by rw [List.length_append];show _+2+_≤_;omega),?_⟩
  intro l4 n_l4
  generalize hz:upd _ l4 _=J3
  revert J3
  refine blk ?_
  intro J3 hz
  have hw:=laid_pen hz n_l4 hp
  have hp:=hw.1
  have gz:=hw.2.1
  have ne_l4:=hw.2.2.1
  have e_l4:=hw.2.2.2
  clear hw hz
  have gg:=gg.trans gz
  have e_p8:=gz _ _ e_p8
  have e_p9:=gz _ _ e_p9
  have k_8:=k_8.mono gz
  have k_9:=k_9.mono gz
  have e_p:=gz _ _ e_p
  have k_x:=k_x.mono gz
  have e_l2:=gz _ _ e_l2
  have e_l3:=gz _ _ e_l3
  have k_v:PE (hide a J3) (.ref c):=k_x _ (List.mem_of_getElem? hv)
  exact hC _ _ (fin e_l4 ((k_8.app (All.cons k_v (All.one k_v))).app k_9) (by rw [List.length_append,List.length_append];show _+2+_≤_;omega) hp gg)
 refine ⟨_,(@pss_cons _ _ _ _ _ (@ps_if _ _ _ _ _ _ _ _ (qt_cmp (qeq op_eq) (qv (pv 3)) pe_int (nomark _)) (@pss_cons _ _ _ _ _ (@ps_set _ _ 10 _ _ _ _ sc_l_bent_paper.nd rfl (Or.inl rfl) (@pe_op _ _ _ _ _ _ _ _ (qi0 op_add) pe_int (pe_callH h_l_draw hr (@pa_cons _ _ _ _ _ (qv (pv 0)) (@pa_cons _ _ _ _ _ (qv (pv 7)) pa_nil (by rfl)) (by rfl)))) (by rfl) (by first | exact .inl rfl | exact .inr rfl))
 (@pss_cons _ _ _ _ _ (@ps_set _ _ 11 _ _ _ _ sc_l_bent_paper.nd rfl (Or.inl rfl) (@pe_op _ _ _ _ _ _ _ _ op_rep (@pe_lst _ _ _ _ (@pa_cons _ _ _ _ _ (@pe_tup _ _ _ _ _ (@pa_cons _ _ _ _ _ (@pe_tup _ _ _ _ _ (@pa_cons _ _ _ _ _ (qv (pv 5)) (@pa_cons _ _ _ _ _ (qv (pv 6)) pa_nil (by rfl)) (by rfl))) (@pa_cons _ _ _ _ _ (@pe_op _ _ _ _ _ _ _ _ (qi0 op_sub) (qv (pv 7)) (qv (pv 10))) pa_nil (by rfl)) (by rfl))) pa_nil (by rfl))) (pe_callTy call_int1 rfl z_int PyProof.Rows.boot_int (@pa_cons _ _ _ _ _ (@pe_cmpR _ _ _ _ _ _ _ _ (qi0 op_lt) (qv (pv 10)) (qv (pv 7)) (nomark _)) pa_nil (by rfl)))) (by rfl) (by first | exact .inl rfl | exact .inr rfl))
 (@pss_one _ _ _ (@ps_ret _ _ _ _ (@pe_op _ _ _ _ _ _ _ _ op_cat (@pe_op _ _ _ _ _ _ _ _ op_cat (@pe_op _ _ _ _ _ _ _ _ op_cat (qv (pv 8)) (@pe_lst _ _ _ _ (@pa_cons _ _ _ _ _ (@pe_tup _ _ _ _ _ (@pa_cons _ _ _ _ _ (@pe_tup _ _ _ _ _ (@pa_cons _ _ _ _ _ (qv (pv 5)) (@pa_cons _ _ _ _ _ (qv (pv 6)) pa_nil (by rfl)) (by rfl))) (@pa_cons _ _ _ _ _ (qv (pv 10)) pa_nil (by rfl)) (by rfl))) pa_nil (by rfl)))) (qv (pv 11))) (qv (pv 9))))))) pss_nil) pss_run),?_⟩
 refine ite2 (fun _=>sA fun C hC=>?_) (fun _=>?_)
 ·refine ⟨a,n,rfl,hp,by omega,by omega,fun d J1 d0 d1 hp gz=>?_⟩
  skip
  have gg:=gg.trans gz
  have e_p8:=gz _ _ e_p8
  have e_p9:=gz _ _ e_p9
  have k_8:=k_8.mono gz
  have k_9:=k_9.mono gz
  refine hC _ _ (sA fun C hC=>?_)
  refine ⟨leN rfl,?_⟩
  intro k1 n_k1
  generalize hz:upd _ k1 _=J2
  revert J2
  refine blk ?_
  intro J2 hz
  have hw:=laid_pen hz n_k1 hp
  have hp:=hw.1
  have gz:=hw.2.1
  have ne_k1:=hw.2.2.1
  have e_k1:=hw.2.2.2
  clear hw hz
  have gg:=gg.trans gz
  have e_p8:=gz _ _ e_p8
  have e_p9:=gz _ _ e_p9
  have k_8:=k_8.mono gz
  have k_9:=k_9.mono gz
  refine ⟨leN rfl,?_⟩
  intro k2 n_k2
  generalize hz:upd _ k2 _=J3
  revert J3
  refine blk ?_
  intro J3 hz
  have hw:=laid_pen hz n_k2 hp
  have hp:=hw.1
  have gz:=hw.2.1
  have ne_k2:=hw.2.2.1
  have e_k2:=hw.2.2.2
  clear hw hz
  have gg:=gg.trans gz
  have e_p8:=gz _ _ e_p8
  have e_p9:=gz _ _ e_p9
  have k_8:=k_8.mono gz
  have k_9:=k_9.mono gz
  have e_k1:=gz _ _ e_k1
  refine ⟨leN rfl,?_⟩
  intro l1 n_l1
  generalize hz:upd _ l1 _=J4
  revert J4
  refine blk ?_
  intro J4 hz
  have hw:=laid_pen hz n_l1 hp
  have hp:=hw.1
  have gz:=hw.2.1
  have ne_l1:=hw.2.2.1
  have e_l1:=hw.2.2.2
  clear hw hz
  have gg:=gg.trans gz
  have e_p8:=gz _ _ e_p8
  have e_p9:=gz _ _ e_p9
  have k_8:=k_8.mono gz
  have k_9:=k_9.mono gz
  have e_k1:=gz _ _ e_k1
  have e_k2:=gz _ _ e_k2
  refine .inr ⟨_,rfl,?_⟩
  have K2:PE (hide a J4) (.ref k2):=⟨k2,((h,i),n - (1+d)),rfl,k1,e_k2,e_k1⟩
  obtain ⟨z,hzz,z0,z1⟩:∃z:Int,(if decide (1+d<n)=true then (1:Int) else 0)=z∧0≤z∧z≤1:=by
   by_cases q:decide (1+d<n)=true
   ·exact ⟨1,if_pos q,by decide,by decide⟩
   ·exact ⟨0,if_neg q,by decide,by decide⟩
  have kz:All PE (hide a J4) (List.replicate z.toNat [V.ref k2]).flatten∧(List.replicate z.toNat [V.ref k2]).flatten.length≤1:=by
   rcases (show z=0∨z=1 by omega) with rfl | rfl
   ·exact ⟨All.nil,Nat.zero_le _⟩
   ·exact ⟨All.one K2,Nat.le_refl _⟩
  refine ⟨l1,z,_,rfl,congrArg V.int hzz,(hide_some e_l1).2,by omega,by omega,by show 1 * z.toNat≤sizeLine;exact small_le (by omega),?_⟩
  obtain ⟨kz,zl⟩:=kz
  generalize (List.replicate z.toNat [V.ref k2]).flatten=zs at kz zl ⊢
  skip
  intro l2 n_l2
  generalize hz:upd _ l2 _=J5
  revert J5
  refine blk ?_
  intro J5 hz
  have hw:=laid_pen hz n_l2 hp
  have hp:=hw.1
  have gz:=hw.2.1
  have ne_l2:=hw.2.2.1
  have e_l2:=hw.2.2.2
  clear hw hz
  have gg:=gg.trans gz
  have e_p8:=gz _ _ e_p8
  have e_p9:=gz _ _ e_p9
  have k_8:=k_8.mono gz
  have k_9:=k_9.mono gz
  have kz:=kz.mono gz
  refine hC _ _ (rA fun C hC=>?_)
  refine ⟨leN rfl,?_⟩
  intro k3 n_k3
  generalize hz:upd _ k3 _=J6
  revert J6
  refine blk ?_
  intro J6 hz
  have hw:=laid_pen hz n_k3 hp
  have hp:=hw.1
  have gz:=hw.2.1
  have ne_k3:=hw.2.2.1
  have e_k3:=hw.2.2.2
  clear hw hz
  have gg:=gg.trans gz
  have e_p8:=gz _ _ e_p8
  have e_p9:=gz _ _ e_p9
  have k_8:=k_8.mono gz
  have k_9:=k_9.mono gz
  have kz:=kz.mono gz
  have e_l2:=gz _ _ e_l2
  refine ⟨leN rfl,?_⟩
  intro k4 n_k4
  generalize hz:upd _ k4 _=J7
  revert J7
  refine blk ?_
  intro J7 hz
  have hw:=laid_pen hz n_k4 hp
  have hp:=hw.1
  have gz:=hw.2.1
  have ne_k4:=hw.2.2.1
  have e_k4:=hw.2.2.2
  clear hw hz
  have gg:=gg.trans gz
  have e_p8:=gz _ _ e_p8
  have e_p9:=gz _ _ e_p9
  have k_8:=k_8.mono gz
  have k_9:=k_9.mono gz
  have kz:=kz.mono gz
  have e_l2:=gz _ _ e_l2
  have e_k3:=gz _ _ e_k3
  refine ⟨leN rfl,?_⟩
  intro l3 n_l3
  generalize hz:upd _ l3 _=J8
  revert J8
  refine blk ?_
  intro J8 hz
  have hw:=laid_pen hz n_l3 hp
  have hp:=hw.1
  have gz:=hw.2.1
  have ne_l3:=hw.2.2.1
  have e_l3:=hw.2.2.2
  clear hw hz
  have gg:=gg.trans gz
  have e_p8:=gz _ _ e_p8
  have e_p9:=gz _ _ e_p9
  have k_8:=k_8.mono gz
  have k_9:=k_9.mono gz
  have kz:=kz.mono gz
  have e_l2:=gz _ _ e_l2
  have e_k3:=gz _ _ e_k3
  have e_k4:=gz _ _ e_k4
  refine ⟨p8,l3,_,_,rfl,rfl,(hide_some e_p8).2,(hide_some e_l3).2,small_le (by show _+1≤_;omega),?_⟩
  intro l4 n_l4
  generalize hz:upd _ l4 _=J9
  revert J9
  refine blk ?_
  intro J9 hz
  have hw:=laid_pen hz n_l4 hp
  have hp:=hw.1
  have gz:=hw.2.1
  have ne_l4:=hw.2.2.1
  have e_l4:=hw.2.2.2
  clear hw hz
  have gg:=gg.trans gz
  have e_p8:=gz _ _ e_p8
  have e_p9:=gz _ _ e_p9
  have k_8:=k_8.mono gz
  have k_9:=k_9.mono gz
  have kz:=kz.mono gz
  have e_l2:=gz _ _ e_l2
  have e_k3:=gz _ _ e_k3
  have e_k4:=gz _ _ e_k4
  have e_l3:=gz _ _ e_l3
  refine ⟨l4,l2,_,_,rfl,rfl,(hide_some e_l4).2,(hide_some e_l2).2,small_le (by rw [List.length_append];show _+1+_≤_;omega),?_⟩
  intro l5 n_l5
  generalize hz:upd _ l5 _=J10
  revert J10
  refine blk ?_
  intro J10 hz
  have hw:=laid_pen hz n_l5 hp
  have hp:=hw.1
  have gz:=hw.2.1
  have ne_l5:=hw.2.2.1
  have e_l5:=hw.2.2.2
  clear hw hz
  have gg:=gg.trans gz
  have e_p8:=gz _ _ e_p8
  have e_p9:=gz _ _ e_p9
  have k_8:=k_8.mono gz
  have k_9:=k_9.mono gz
  have kz:=kz.mono gz
  have e_l2:=gz _ _ e_l2
  have e_k3:=gz _ _ e_k3
  have e_k4:=gz _ _ e_k4
  have e_l3:=gz _ _ e_l3
  have e_l4:=gz _ _ e_l4
  refine ⟨l5,p9,_,_,rfl,rfl,(hide_some e_l5).2,(hide_some e_p9).2,small_le (by rw [List.length_append,List.length_append];show _+1+_+_≤_;omega),?_⟩
  intro l6 n_l6
  generalize hz:upd _ l6 _=J11
  revert J11
  refine blk ?_
  intro J11 hz
  have hw:=laid_pen hz n_l6 hp
  have hp:=hw.1
  have gz:=hw.2.1
  have ne_l6:=hw.2.2.1
  have e_l6:=hw.2.2.2
  clear hw hz
  have gg:=gg.trans gz
  have e_p8:=gz _ _ e_p8
  have e_p9:=gz _ _ e_p9
  have k_8:=k_8.mono gz
  have k_9:=k_9.mono gz
  have kz:=kz.mono gz
  have e_l2:=gz _ _ e_l2
  have e_k3:=gz _ _ e_k3
  have e_k4:=gz _ _ e_k4
  have e_l3:=gz _ _ e_l3
  have e_l4:=gz _ _ e_l4
  have e_l5:=gz _ _ e_l5
  exact hC _ _ (fin e_l6 (((k_8.app (All.one ⟨k4,((h,i),1+d),rfl,k3,e_k4,e_k3⟩)).app kz).app k_9) (by rw [List.length_append,List.length_append,List.length_append];show _+1+_+_≤_;omega) hp gg)
 refine ⟨_,(@pss_cons _ _ _ _ _ (@ps_if _ _ _ _ _ _ _ _ (qt_cmp (qeq op_eq) (qv (pv 3)) pe_int (nomark _)) (@pss_cons _ _ _ _ _ (@ps_set _ _ 11 _ _ _ _ sc_l_bent_paper.nd rfl (Or.inl rfl) (@pe_op _ _ _ _ _ _ _ _ op_cat (qv (pv 8)) (qv (pv 9))) (by rfl) (by first | exact .inl rfl | exact .inr rfl))
 (@pss_cons _ _ _ _ _ (ps_expr (pe_bm PySem.F.plainAttrs_list PySem.F.slot_list_insert PySem.F.type_list_insert mt_insert (qv (pv 11)) (@pa_cons _ _ _ _ _ (pe_callH h_l_draw hr (@pa_cons _ _ _ _ _ (qv (pv 0)) (@pa_cons _ _ _ _ _ (@pe_op _ _ _ _ _ _ _ _ (qi0 op_add) (pe_callB call_len_seq rfl z_len PySem.boot_len (@pa_cons _ _ _ _ _ (qv (pv 11)) pa_nil (by rfl))) pe_int) pa_nil (by rfl)) (by rfl))) (@pa_cons _ _ _ _ _ (@pe_ix _ _ _ _ _ _ _ qix_list (qv (pv 2)) (qv (pv 4)) (fun _ _=>rfl)) pa_nil (by rfl)) (by rfl))))
 (@pss_one _ _ _ (@ps_ret _ _ _ _ (qv (pv 11)))))) pss_nil) pss_run),?_⟩
 refine ite2 (fun _=>sA fun C hC=>?_) (fun _=>?_)
 ·refine ⟨p8,p9,_,_,rfl,rfl,(hide_some e_p8).2,(hide_some e_p9).2,small_le (by omega),?_⟩
  skip
  have gg0:=gg
  have p4:=e_p
  intro L n_L
  generalize hz:upd _ L _=J1
  revert J1
  refine blk ?_
  intro J1 hz
  have hw:=laid_pen hz n_L hp
  have hp:=hw.1
  have gz:=hw.2.1
  have ne_L:=hw.2.2.1
  have e_L:=hw.2.2.2
  clear hw hz
  have gg:=gg.trans gz
  have k_8:=k_8.mono gz
  have k_9:=k_9.mono gz
  have e_p:=gz _ _ e_p
  have k_x:=k_x.mono gz
  have neL:p≠L:=ne_of_none (hide_some p4).2 n_L
  have nL:hide a H L=none:=grw_none gg0 n_L
  refine hC _ _ (sE fun C hC=>?_)
  have ly:(y8++y9).length≤600:=by rw [List.length_append];omega
  have k_y:=k_8.app k_9
  generalize y8++y9=yy at e_L ly k_y
  refine ⟨.inl ⟨rfl,_,hSqL e_L⟩,L,_,rfl,.inl (hSqL e_L),a,_,rfl,hp,by omega,by omega,fun d J2 d0 d1 hp gz=>?_⟩
  skip
  have gg:=gg.trans gz
  have e_p:=gz _ _ e_p
  have k_x:=k_x.mono gz
  have e_L:=gz _ _ e_L
  have k_y:=k_y.mono gz
  obtain ⟨j,rfl⟩:=Int.eq_ofNat_of_zero_le d0
  have d1:(j:Int)<(yy.length:Int)+1:=d1
  refine ⟨_,_,hSqL e_p,atI_nat hv,L,_,j,_,rfl,rfl,(hide_some e_L).2,by omega,small_lt (by omega),by omega,?_⟩
  have LA:=(hide_some e_L).1
  have gg:=grw_put (o:=.lst (yy.take j++.ref c::yy.drop j)) gg nL
  have hp:=hp.put (o:=.lst (yy.take j++.ref c::yy.drop j)) LA
  have ts0:=tst_put (o:=.lst (yy.take j++.ref c::yy.drop j)) e_L
  have k_v:PE (hide a (upd J2 L (.lst (yy.take j++.ref c::yy.drop j)))) (.ref c):=(k_x.st ts0) _ (List.mem_of_getElem? hv)
  have k_y:=k_y.st ts0
  have e_L:hide a (upd J2 L (.lst (yy.take j++.ref c::yy.drop j))) L=some (.lst (yy.take j++.ref c::yy.drop j)):=hide_put LA
  refine hC _ _ (fin e_L (fun x hx=>?_) (by rw [len_ins];omega) hp gg)
  rcases mem_ins hx with rfl | hx
  ·exact k_v
  ·exact k_y x hx
 refine ⟨_,(@pss_cons _ _ _ _ _ (@ps_if _ _ _ _ _ _ _ _ (qt_cmp (qeq op_eq) (qv (pv 3)) pe_int (nomark _)) (@pss_one _ _ _ (@ps_ret _ _ _ _ (pe_rev (qv (pv 2)) (@pe_un _ _ _ _ _ _ un_neg pe_int)))) pss_nil) pss_run),?_⟩
 refine ite2 (fun _=>rA fun C hC=>?_) (fun _=>?_)
 ·refine ⟨_,rfl,p,xs,rfl,rfl,hSqL e_p,?_⟩
  skip
  intro l4 n_l4
  generalize hz:upd _ l4 _=J1
  revert J1
  refine blk ?_
  intro J1 hz
  have hw:=laid_pen hz n_l4 hp
  have hp:=hw.1
  have gz:=hw.2.1
  have ne_l4:=hw.2.2.1
  have e_l4:=hw.2.2.2
  clear hw hz
  have gg:=gg.trans gz
  have k_x:=k_x.mono gz
  exact hC _ _ (fin e_l4 k_x.rev (by rw [List.length_reverse];omega) hp gg)
 refine ⟨_,(@pss_cons _ _ _ _ _ (@ps_set _ _ 12 _ _ _ _ sc_l_bent_paper.nd rfl (Or.inl rfl) (@pe_lst _ _ _ _ (@pa_cons _ _ _ _ _ (@pe_tup _ _ _ _ _ (@pa_cons _ _ _ _ _ (qv (pv 5)) (@pa_cons _ _ _ _ _ (@pe_op _ _ _ _ _ _ _ _ (qi0 op_add) (qv (pv 6)) pe_int) pa_nil (by rfl)) (by rfl))) (@pa_cons _ _ _ _ _ (@pe_tup _ _ _ _ _ (@pa_cons _ _ _ _ _ (@pe_op _ _ _ _ _ _ _ _ (qi0 op_add) (qv (pv 5)) pe_int) (@pa_cons _ _ _ _ _ (@pe_op _ _ _ _ _ _ _ _ (qi op_fdiv) (qv (pv 6)) pe_int) pa_nil (by rfl)) (by rfl))) (@pa_cons _ _ _ _ _ (@pe_tup _ _ _ _ _ (@pa_cons _ _ _ _ _ (qv (pv 1)) (@pa_cons _ _ _ _ _ pe_int pa_nil (by rfl)) (by rfl))) (@pa_cons _ _ _ _ _ (@pe_tup _ _ _ _ _ (@pa_cons _ _ _ _ _ (qv (pv 5)) (@pa_cons _ _ _ _ _ (@pe_un _ _ _ _ _ _ un_neg pe_int) pa_nil (by rfl)) (by rfl))) (@pa_cons _ _ _ _ _ (@pe_tup _ _ _ _ _ (@pa_cons _ _ _ _ _ (@pe_un _ _ _ _ _ _ un_neg pe_int) (@pa_cons _ _ _ _ _ (qv (pv 6)) pa_nil (by rfl)) (by rfl))) (@pa_cons _ _ _ _ _ (@pe_tup _ _ _ _ _ (@pa_cons _ _ _ _ _ (qv (pv 5)) (@pa_cons _ _ _ _ _ (@pe_op _ _ _ _ _ _ _ _ (qi op_pow) pe_int pe_int) pa_nil (by rfl)) (by rfl))) pa_nil (by rfl)) (by rfl)) (by rfl)) (by rfl)) (by rfl)) (by rfl))) (by rfl) (by first | exact .inl rfl | exact .inr rfl)) pss_run),sA fun C hC=>?_⟩
 refine ⟨leN rfl,?_⟩
 skip
 intro k1 n_k1
 generalize hz:upd _ k1 _=J1
 revert J1
 refine blk ?_
 intro J1 hz
 have hw:=laid_pen hz n_k1 hp
 have hp:=hw.1
 have gz:=hw.2.1
 have ne_k1:=hw.2.2.1
 have e_k1:=hw.2.2.2
 clear hw hz
 have gg:=gg.trans gz
 have e_p8:=gz _ _ e_p8
 have e_p9:=gz _ _ e_p9
 have k_8:=k_8.mono gz
 have k_9:=k_9.mono gz
 refine ⟨⟨by decide,by decide⟩,leN rfl,?_⟩
 intro k2 n_k2
 generalize hz:upd _ k2 _=J2
 revert J2
 refine blk ?_
 intro J2 hz
 have hw:=laid_pen hz n_k2 hp
 have hp:=hw.1
 have gz:=hw.2.1
 have ne_k2:=hw.2.2.1
 have e_k2:=hw.2.2.2
 clear hw hz
 have gg:=gg.trans gz
 have e_p8:=gz _ _ e_p8
 have e_p9:=gz _ _ e_p9
 have k_8:=k_8.mono gz
 have k_9:=k_9.mono gz
 have e_k1:=gz _ _ e_k1
 refine ⟨leN rfl,?_⟩
 intro k3 n_k3
 generalize hz:upd _ k3 _=J3
 revert J3
 refine blk ?_
 intro J3 hz
 have hw:=laid_pen hz n_k3 hp
 have hp:=hw.1
 have gz:=hw.2.1
 have ne_k3:=hw.2.2.1
 have e_k3:=hw.2.2.2
 clear hw hz
 have gg:=gg.trans gz
 have e_p8:=gz _ _ e_p8
 have e_p9:=gz _ _ e_p9
 have k_8:=k_8.mono gz
 have k_9:=k_9.mono gz
 have e_k1:=gz _ _ e_k1
 have e_k2:=gz _ _ e_k2
 refine ⟨_,rfl,leN rfl,?_⟩
 intro k4 n_k4
 generalize hz:upd _ k4 _=J4
 revert J4
 refine blk ?_
 intro J4 hz
 have hw:=laid_pen hz n_k4 hp
 have hp:=hw.1
 have gz:=hw.2.1
 have ne_k4:=hw.2.2.1
 have e_k4:=hw.2.2.2
 clear hw hz
 have gg:=gg.trans gz
 have e_p8:=gz _ _ e_p8
 have e_p9:=gz _ _ e_p9
 have k_8:=k_8.mono gz
 have k_9:=k_9.mono gz
 have e_k1:=gz _ _ e_k1
 have e_k2:=gz _ _ e_k2
 have e_k3:=gz _ _ e_k3
 refine ⟨_,rfl,leN rfl,?_⟩
 intro k5 n_k5
 generalize hz:upd _ k5 _=J5
 revert J5
 refine blk ?_
 intro J5 hz
 have hw:=laid_pen hz n_k5 hp
 have hp:=hw.1
 have gz:=hw.2.1
 have ne_k5:=hw.2.2.1
 have e_k5:=hw.2.2.2
 clear hw hz
 have gg:=gg.trans gz
 have e_p8:=gz _ _ e_p8
 have e_p9:=gz _ _ e_p9
 have k_8:=k_8.mono gz
 have k_9:=k_9.mono gz
 have e_k1:=gz _ _ e_k1
 have e_k2:=gz _ _ e_k2
 have e_k3:=gz _ _ e_k3
 have e_k4:=gz _ _ e_k4
 refine ⟨powI rfl rfl rfl,leN rfl,?_⟩
 intro k6 n_k6
 generalize hz:upd _ k6 _=J6
 revert J6
 refine blk ?_
 intro J6 hz
 have hw:=laid_pen hz n_k6 hp
 have hp:=hw.1
 have gz:=hw.2.1
 have ne_k6:=hw.2.2.1
 have e_k6:=hw.2.2.2
 clear hw hz
 have gg:=gg.trans gz
 have e_p8:=gz _ _ e_p8
 have e_p9:=gz _ _ e_p9
 have k_8:=k_8.mono gz
 have k_9:=k_9.mono gz
 have e_k1:=gz _ _ e_k1
 have e_k2:=gz _ _ e_k2
 have e_k3:=gz _ _ e_k3
 have e_k4:=gz _ _ e_k4
 have e_k5:=gz _ _ e_k5
 refine ⟨leN rfl,?_⟩
 intro S n_S
 generalize hz:upd _ S _=J7
 revert J7
 refine blk ?_
 intro J7 hz
 have hw:=laid_pen hz n_S hp
 have hp:=hw.1
 have gz:=hw.2.1
 have ne_S:=hw.2.2.1
 have e_S:=hw.2.2.2
 clear hw hz
 have gg:=gg.trans gz
 have e_p8:=gz _ _ e_p8
 have e_p9:=gz _ _ e_p9
 have k_8:=k_8.mono gz
 have k_9:=k_9.mono gz
 have e_k1:=gz _ _ e_k1
 have e_k2:=gz _ _ e_k2
 have e_k3:=gz _ _ e_k3
 have e_k4:=gz _ _ e_k4
 have e_k5:=gz _ _ e_k5
 have e_k6:=gz _ _ e_k6
 refine hC _ _ ⟨_,(@pss_one _ _ _ (@ps_ret _ _ _ _ (@pe_op _ _ _ _ _ _ _ _ op_cat (@pe_op _ _ _ _ _ _ _ _ op_cat (qv (pv 8)) (@pe_lst _ _ _ _ (@pa_cons _ _ _ _ _ (@pe_tup _ _ _ _ _ (@pa_cons _ _ _ _ _ (@pe_ix _ _ _ _ _ _ _ qix_list (qv (pv 12)) (pe_callH h_l_draw hr (@pa_cons _ _ _ _ _ (qv (pv 0)) (@pa_cons _ _ _ _ _ pe_int pa_nil (by rfl)) (by rfl))) (fun _ _=>rfl)) (@pa_cons _ _ _ _ _ (qv (pv 7)) pa_nil (by rfl)) (by rfl))) pa_nil (by rfl)))) (qv (pv 9))))),rA fun C hC=>?_⟩
 skip
 refine ⟨a,6,rfl,hp,posI rfl,ltI rfl,fun d J8 d0 d1 hp gz=>?_⟩
 have gg:=gg.trans gz
 have e_p8:=gz _ _ e_p8
 have e_p9:=gz _ _ e_p9
 have k_8:=k_8.mono gz
 have k_9:=k_9.mono gz
 have e_k1:=gz _ _ e_k1
 have e_k2:=gz _ _ e_k2
 have e_k3:=gz _ _ e_k3
 have e_k4:=gz _ _ e_k4
 have e_k5:=gz _ _ e_k5
 have e_k6:=gz _ _ e_k6
 have e_S:=gz _ _ e_S
 obtain ⟨u,hu,mu⟩:=pick e_S d0 d1
 obtain ⟨g,rfl,kg,e_g⟩:∃(g:Addr),u=.ref g∧∃kg:Int×Int,hide a J8 g=some (.tup [.int kg.1,.int kg.2]):=by
  simp only [List.mem_cons,List.not_mem_nil,or_false] at mu
  rcases mu with rfl | rfl | rfl | rfl | rfl | rfl
  ·exact ⟨_,rfl,(_,_),e_k1⟩
  ·exact ⟨_,rfl,(_,_),e_k2⟩
  ·exact ⟨_,rfl,(_,_),e_k3⟩
  ·exact ⟨_,rfl,(_,_),e_k4⟩
  ·exact ⟨_,rfl,(_,_),e_k5⟩
  ·exact ⟨_,rfl,(_,_),e_k6⟩
 refine ⟨_,_,hSqL e_S,hu,leN rfl,?_⟩
 skip
 intro g2 n_g2
 generalize hz:upd _ g2 _=J9
 revert J9
 refine blk ?_
 intro J9 hz
 have hw:=laid_pen hz n_g2 hp
 have hp:=hw.1
 have gz:=hw.2.1
 have ne_g2:=hw.2.2.1
 have e_g2:=hw.2.2.2
 clear hw hz
 have gg:=gg.trans gz
 have e_p8:=gz _ _ e_p8
 have e_p9:=gz _ _ e_p9
 have k_8:=k_8.mono gz
 have k_9:=k_9.mono gz
 have e_g:=gz _ _ e_g
 refine ⟨leN rfl,?_⟩
 intro l1 n_l1
 generalize hz:upd _ l1 _=J10
 revert J10
 refine blk ?_
 intro J10 hz
 have hw:=laid_pen hz n_l1 hp
 have hp:=hw.1
 have gz:=hw.2.1
 have ne_l1:=hw.2.2.1
 have e_l1:=hw.2.2.2
 clear hw hz
 have gg:=gg.trans gz
 have e_p8:=gz _ _ e_p8
 have e_p9:=gz _ _ e_p9
 have k_8:=k_8.mono gz
 have k_9:=k_9.mono gz
 have e_g:=gz _ _ e_g
 have e_g2:=gz _ _ e_g2
 refine ⟨p8,l1,_,_,rfl,rfl,(hide_some e_p8).2,(hide_some e_l1).2,small_le (by show _+1≤_;omega),?_⟩
 intro l3 n_l3
 generalize hz:upd _ l3 _=J11
 revert J11
 refine blk ?_
 intro J11 hz
 have hw:=laid_pen hz n_l3 hp
 have hp:=hw.1
 have gz:=hw.2.1
 have ne_l3:=hw.2.2.1
 have e_l3:=hw.2.2.2
 clear hw hz
 have gg:=gg.trans gz
 have e_p8:=gz _ _ e_p8
 have e_p9:=gz _ _ e_p9
 have k_8:=k_8.mono gz
 have k_9:=k_9.mono gz
 have e_g:=gz _ _ e_g
 have e_g2:=gz _ _ e_g2
 have e_l1:=gz _ _ e_l1
 refine ⟨l3,p9,_,_,rfl,rfl,(hide_some e_l3).2,(hide_some e_p9).2,small_le (by rw [List.length_append];show _+1+_≤_;omega),?_⟩
 intro l4 n_l4
 generalize hz:upd _ l4 _=J12
 revert J12
 refine blk ?_
 intro J12 hz
 have hw:=laid_pen hz n_l4 hp
 have hp:=hw.1
 have gz:=hw.2.1
 have ne_l4:=hw.2.2.1
 have e_l4:=hw.2.2.2
 clear hw hz
 have gg:=gg.trans gz
 have e_p8:=gz _ _ e_p8
 have e_p9:=gz _ _ e_p9
 have k_8:=k_8.mono gz
 have k_9:=k_9.mono gz
 have e_g:=gz _ _ e_g
 have e_g2:=gz _ _ e_g2
 have e_l1:=gz _ _ e_l1
 have e_l3:=gz _ _ e_l3
 exact hC _ _ (fin e_l4 ((k_8.app (All.one ⟨g2,(kg,n),rfl,g,e_g2,e_g⟩)).app k_9) (by rw [List.length_append,List.length_append];show _+1+_≤_;omega) hp gg)
end
end K33
namespace K33
open PySem L2 Ld
noncomputable def LR (H:Hp) (c:Addr):Prop:=∃(as:List Addr) (qs:Sps),H c=some (.tup (as.map V.ref))∧Paired (FT H) as qs∧(qs.map (·.1)).Nodup∧qs.length≤60
theorem LR.mono {H H':Hp} {c:Addr} (h:LR H c) (g:Same H H'):LR H' c:=let ⟨as,qs,e,r,n,l⟩:=h;⟨as,qs,g _ _ e,Paired.mapP r fun _ _ f=>ft_mono g f,n,l⟩
theorem prd_take {α β:Type} {R:α→β→Prop}:∀{xs:List α} {ys:List β} (n:Nat),Paired R xs ys→Paired R (xs.take n) (ys.take n)
 | _,_,0,_=>.nil
 | _,_,_+1,.nil=>.nil
 | _,_,n+1,.cons a r=>.cons a (prd_take n r)
theorem prd_drop {α β:Type} {R:α→β→Prop}:∀{xs:List α} {ys:List β} (n:Nat),Paired R xs ys→Paired R (xs.drop n) (ys.drop n)
 | _,_,0,h=>h
 | _,_,_+1,.nil=>.nil
 | _,_,n+1,.cons a r=>prd_drop n r
theorem map_cut_to (as:List Addr) (k:Nat):cutV (as.map V.ref) none (some (k:Int))=(as.take k).map V.ref:=by rw [cut_to,List.map_take]
theorem map_cut_from (as:List Addr) (k:Nat):cutV (as.map V.ref) (some ((k:Int)+1)) none=(as.drop (k+1)).map V.ref:=by
 rw [show ((k:Int)+1)=((k+1:Nat):Int) by omega,cut_from,List.map_drop]
noncomputable def mrgS (ps:Sps):Sps:=ps.foldl (fun a p=>putS a p.1 p.2) []
theorem mrgS_go:∀(ps a:Sps),(tvOf ps).foldl (fun acc kv=>putK acc kv.1 kv.2) (tvOf a)=tvOf (ps.foldl (fun a p=>putS a p.1 p.2) a)
 | [],_=>rfl
 | p::ps,a=>by
  have e:tvOf (p::ps)=(kk p.1,.int p.2)::tvOf ps:=rfl
  rw [e,List.foldl_cons,List.foldl_cons,put_tv]
  exact mrgS_go ps _
theorem mrgS_tv (ps:Sps):mrgTV (tvOf ps)=tvOf (mrgS ps):=mrgS_go ps []
theorem mrgS_ok:∀(ps a:Sps),(a.map (·.1)).Nodup→((ps.foldl (fun a p=>putS a p.1 p.2) a).map (·.1)).Nodup∧(ps.foldl (fun a p=>putS a p.1 p.2) a).length≤a.length+ps.length
 | [],a,h=>⟨h,Nat.le_refl _⟩
 | p::ps,a,h=>by
  have a1:=mrgS_ok ps (putS a p.1 p.2) (put_nd h)
  have a2:=put_len a p.1 p.2
  have a3:=a1.2
  rw [List.foldl_cons,List.length_cons]
  exact ⟨a1.1,by omega⟩
theorem csd_lay (ps:Sps):(PyData.tuple (ps.map pD)).canLay0=true∧(PyData.tuple (ps.map pD)).depth≤3:=by
 have q:=ppd_lay ps
 unfold ppD at q
 simp only [PyData.canLay0,PyData.depth] at q ⊢
 exact q
noncomputable def spBL33:Sp:=fun vs H Q _=>∃(a q:Addr) (room deep total:Int) (qs:Sps),vs=[.ref a,.ref q]∧PenAt H a∧LadAt (hide a H) q room deep total qs∧(qs.map (·.1)).Nodup∧qs.length≤40∧∀(l:Addr) (H':Hp),LG deep (hide a H') l→PenAt H' a→Grw a H H'→Q (.ref l) H'
section
variable {P:Program} {w:World} {K:PySem.W.Frag} {mg:Str→Option Value} {base:Heap} {f:Addr} {fd:FuncData}
theorem ok_bl (z_len:mg "len"=none) (z_tuple:mg "tuple"=none) (z_sorted:mg "sorted"=none) (z_dict:mg "dict"=none) (z_list:mg "list"=none) (z_sum:mg "sum"=none) (h_l_draw:Has P w K mg base "_law_draw" 1 ["_law_pen_here","_law_size"] spDraw)
  (F:Fun K "_law_bent_ladder" "_law_bent_ladder" s_l_bent_ladder f fd):FnOk P w K mg base CX0 2 f fd ["_law_pen_here","_law_ladder"] spBL33:=by
 refine F.ok sc_l_bent_ladder (fun vs H Q E h=>?_) (fun cdv A outer s H vs Q E hr h=>?_)
 ·obtain ⟨a,q,room,deep,total,qs,rfl,_⟩:=h
  rfl
 obtain ⟨a,q,room,deep,total,qs,rfl,hp,⟨cb,as,e_q,e_b,pr⟩,nq,ql,hq⟩:=h
 have gg:Grw a H H:=Same.refl _
 refine ⟨_,(@pss_cons _ _ _ _ _ (ps_asg (pv 1) (pg_tup rfl (pgs_cons (pg_name (i:=2) sc_l_bent_ladder.nd rfl (Or.inl rfl)) (pgs_cons (pg_name (i:=3) sc_l_bent_ladder.nd rfl (Or.inl rfl)) (pgs_cons (pg_name (i:=4) sc_l_bent_ladder.nd rfl (Or.inl rfl)) (pgs_cons (pg_name (i:=5) sc_l_bent_ladder.nd rfl (Or.inl rfl)) pgs_nil)))))) pss_run),?_⟩
 refine ⟨_,rfl,q,_,rfl,hSqT e_q,rfl,_,_,rfl,_,_,rfl,_,_,rfl,_,_,rfl,rfl,?_⟩
 have k_b:LR (hide a H) cb:=⟨as,qs,e_b,pr,nq,by omega⟩
 refine ⟨_,(@pss_cons _ _ _ _ _ (@ps_if _ _ _ _ _ _ _ _ (@pt_cmpR _ _ _ _ _ _ _ _ (op_eqD hr.units) (pv 4) (@pe_tup _ _ _ _ _ pa_nil) (nomark _)) (@pss_one _ _ _ (@ps_ret _ _ _ _ (@pe_tup _ _ _ _ _ (@pa_cons _ _ _ _ _ (pv 2) (@pa_cons _ _ _ _ _ (pv 3) (@pa_cons _ _ _ _ _ (@pe_tup _ _ _ _ _ (@pa_cons _ _ _ _ _ (@pe_tup _ _ _ _ _ (@pa_cons _ _ _ _ _ (@pe_tup _ _ _ _ _ (@pa_cons _ _ _ _ _ (pv 3) (@pa_cons _ _ _ _ _ pe_int pa_nil (by rfl)) (by rfl))) (@pa_cons _ _ _ _ _ pe_int pa_nil (by rfl)) (by rfl))) pa_nil (by rfl))) (@pa_cons _ _ _ _ _ pe_int pa_nil (by rfl)) (by rfl)) (by rfl)) (by rfl))))) pss_nil) pss_run),?_⟩
 refine ⟨_,rfl,leN rfl,?_⟩
 have pf:∀{G G':Hp},Grw a G G'→Paired (FT (hide a G)) as qs→Paired (FT (hide a G')) as qs:=fun g r=>Paired.mapP r fun _ _ f=>ft_mono g f
 skip
 intro z0 n_z0
 generalize hz:upd _ z0 _=H1
 revert H1
 refine blk ?_
 intro H1 hz
 have hw:=laid_pen hz n_z0 hp
 have hp:=hw.1
 have gz:=hw.2.1
 have ne_z0:=hw.2.2.1
 have e_z0:=hw.2.2.2
 clear hw hz
 have gg:=gg.trans gz
 have e_b:=gz _ _ e_b
 have k_b:=k_b.mono gz
 have pr:=pf gz pr
 have dvb:DV H1 (.ref cb) (.tuple (qs.map pD)):=.tup (hide_some e_b).2 (ft_dvs (Paired.mapP pr fun _ _ f=>ft_mono hide_sub f))
 refine ⟨_,_,dvb,.tup (hide_some e_z0).2 .nil,shaped_of (csd_lay qs) (by decide),by decide,_,rfl,?_⟩
 rw [show PyData.eqv (.tuple (qs.map pD)) (.tuple [])=qs.isEmpty by cases qs <;> rfl]
 refine ite2 (fun c0=>rA fun C hC=>?_) (fun c0=>?_)
 ·refine ⟨_,rfl,_,rfl,_,rfl,leN rfl,?_⟩
  skip
  intro k1 n_k1
  generalize hz:upd _ k1 _=J1
  revert J1
  refine blk ?_
  intro J1 hz
  have hw:=laid_pen hz n_k1 hp
  have hp:=hw.1
  have gz:=hw.2.1
  have ne_k1:=hw.2.2.1
  have e_k1:=hw.2.2.2
  clear hw hz
  have gg:=gg.trans gz
  refine ⟨leN rfl,?_⟩
  intro k2 n_k2
  generalize hz:upd _ k2 _=J2
  revert J2
  refine blk ?_
  intro J2 hz
  have hw:=laid_pen hz n_k2 hp
  have hp:=hw.1
  have gz:=hw.2.1
  have ne_k2:=hw.2.2.1
  have e_k2:=hw.2.2.2
  clear hw hz
  have gg:=gg.trans gz
  have e_k1:=gz _ _ e_k1
  refine ⟨leN rfl,?_⟩
  intro k3 n_k3
  generalize hz:upd _ k3 _=J3
  revert J3
  refine blk ?_
  intro J3 hz
  have hw:=laid_pen hz n_k3 hp
  have hp:=hw.1
  have gz:=hw.2.1
  have ne_k3:=hw.2.2.1
  have e_k3:=hw.2.2.2
  clear hw hz
  have gg:=gg.trans gz
  have e_k1:=gz _ _ e_k1
  have e_k2:=gz _ _ e_k2
  refine ⟨leN rfl,?_⟩
  intro l n_l
  generalize hz:upd _ l _=J4
  revert J4
  refine blk ?_
  intro J4 hz
  have hw:=laid_pen hz n_l hp
  have hp:=hw.1
  have gz:=hw.2.1
  have ne_l:=hw.2.2.1
  have e_l:=hw.2.2.2
  clear hw hz
  have gg:=gg.trans gz
  have e_k1:=gz _ _ e_k1
  have e_k2:=gz _ _ e_k2
  have e_k3:=gz _ _ e_k3
  exact hC _ _ (hq l _ ⟨room,1,[((deep,0),1)],⟨k3,[k2],e_l,e_k3,.cons ⟨k1,e_k2,e_k1⟩ .nil⟩,List.nodup_cons.mpr ⟨List.not_mem_nil,List.nodup_nil⟩,by show (1:Nat)≤60;decide⟩ hp gg)
 have al:=Paired.length pr
 have qpos:0<as.length:=by
  rw [al]
  cases qs with
  | nil=>exact absurd rfl c0
  | cons _ _=>simp
 clear dvb
 have ml:(as.map V.ref).length=as.length:=List.length_map _
 refine ⟨_,(@pss_cons _ _ _ _ _ (@ps_set _ _ 6 _ _ _ _ sc_l_bent_ladder.nd rfl (Or.inl rfl) (pe_callH h_l_draw hr (@pa_cons _ _ _ _ _ (pv 0) (@pa_cons _ _ _ _ _ (pe_callB call_len_seq rfl z_len PySem.boot_len (@pa_cons _ _ _ _ _ (pv 4) pa_nil (by rfl))) pa_nil (by rfl)) (by rfl))) (by rfl) (by first | exact .inl rfl | exact .inr rfl)) pss_run),sA fun C hC=>?_⟩
 refine ⟨_,rfl,_,rfl,cb,_,rfl,.inr (hSqT e_b),a,_,rfl,hp,by omega,by omega,fun at1 H2 x0 x1 hp gz=>?_⟩
 have pr:=pf gz pr
 skip
 have gg:=gg.trans gz
 have e_b:=gz _ _ e_b
 have k_b:=k_b.mono gz
 obtain ⟨k,rfl⟩:=Int.eq_ofNat_of_zero_le x0
 have kl:k<as.length:=by have x1:(k:Int)<((as.map V.ref).length:Int):=x1;omega
 obtain ⟨v,hv⟩:∃v,(as.map V.ref)[k]?=some v:=⟨(as.map V.ref)[k]'(by omega),List.getElem?_eq_getElem (by omega)⟩
 obtain ⟨c1,⟨k0,n⟩,rfl,hq0,b1,e_c1,e_b1⟩:=ft_get pr hv
 have e_c1:hide a H2 c1=some (.tup [.ref b1,.int n]):=e_c1
 have e_b1:hide a H2 b1=some (.tup [.int k0.1,.int k0.2]):=e_b1
 refine hC _ _ ⟨_,(@pss_cons _ _ _ _ _ (ps_asg (@pe_ix _ _ _ _ _ _ _ ix_tup (pv 4) (pv 6) (fun _ _=>rfl)) (pg_tup rfl (pgs_cons (pg_name (i:=7) sc_l_bent_ladder.nd rfl (Or.inl rfl)) (pgs_cons (pg_name (i:=8) sc_l_bent_ladder.nd rfl (Or.inl rfl)) pgs_nil)))) pss_run),?_⟩
 refine ⟨_,rfl,_,rfl,cb,_,_,_,rfl,rfl,hSqT e_b,atI_nat hv,c1,_,rfl,hSqT e_c1,rfl,_,_,rfl,_,_,rfl,rfl,?_⟩
 refine ⟨_,(@pss_cons _ _ _ _ _ (@ps_set _ _ 9 _ _ _ _ sc_l_bent_ladder.nd rfl (Or.inl rfl) (pe_callH h_l_draw hr (@pa_cons _ _ _ _ _ (pv 0) (@pa_cons _ _ _ _ _ pe_int pa_nil (by rfl)) (by rfl))) (by rfl) (by first | exact .inl rfl | exact .inr rfl)) pss_run),sA fun C hC=>?_⟩
 refine ⟨_,rfl,a,3,rfl,hp,posI rfl,ltI rfl,fun way H3 _ _ hp gz=>?_⟩
 have pr:=pf gz pr
 skip
 have gg:=gg.trans gz
 have e_b:=gz _ _ e_b
 have k_b:=k_b.mono gz
 have e_b1:=gz _ _ e_b1
 have tk:(qs.take k).length≤qs.length:=by rw [List.length_take];omega
 have dk:(qs.drop (k+1)).length≤qs.length:=by rw [List.length_drop];omega
 have tka:(as.take k).length≤40:=by rw [List.length_take];omega
 have dka:(as.drop (k+1)).length≤40:=by rw [List.length_drop];omega
 have c40:∀lo hi,(cutV (as.map V.ref) lo hi).length≤40:=fun lo hi=>Nat.le_trans (cut_len _ lo hi) (by omega)
 have split:qs=qs.take k++(k0,n)::qs.drop (k+1):=by
  obtain ⟨hk,e⟩:=List.getElem?_eq_some_iff.mp hq0
  rw [←e,←List.drop_eq_getElem_cons hk,List.take_append_drop]
 have nd1:((qs.take k++[(k0,n+1)]++qs.drop (k+1)).map (·.1)).Nodup:=by
  have e:(qs.take k++[(k0,n+1)]++qs.drop (k+1)).map (·.1)=qs.map (·.1):=by
   conv=>rhs;rw [split]
   simp
  rw [e]
  exact nq
 have nd2:((qs.take k++qs.drop (k+1)).map (·.1)).Nodup:=by
  have s:(qs.take k++qs.drop (k+1)).Sublist qs:=by
   conv=>rhs;rw [split]
   exact List.Sublist.append_left (List.sublist_cons_self _ _) _
  exact (s.map _).nodup nq
 refine hC _ _ ⟨_,(@pss_cons _ _ _ _ _ (@ps_set _ _ 10 _ _ _ _ sc_l_bent_ladder.nd rfl (Or.inl rfl) (@pe_op _ _ _ _ _ _ _ _ op_catG (@pe_op _ _ _ _ _ _ _ _ op_catG (pe_slice sl_tupG (pv 4) po_none (po_some (pv 6))) (@pe_tup _ _ _ _ _ (@pa_cons _ _ _ _ _ (@pe_tup _ _ _ _ _ (@pa_cons _ _ _ _ _ (pv 7) (@pa_cons _ _ _ _ _ (@pe_op _ _ _ _ _ _ _ _ op_add (pv 8) pe_int) pa_nil (by rfl)) (by rfl))) pa_nil (by rfl)))) (pe_slice sl_tupG (pv 4) (po_some (@pe_op _ _ _ _ _ _ _ _ op_add (pv 6) pe_int)) po_none)) (by rfl) (by first | exact .inl rfl | exact .inr rfl)) pss_run),sA fun C hC=>?_⟩
 refine ⟨_,rfl,_,rfl,_,rfl,cb,_,rfl,(hide_some e_b).2,?_⟩
 intro t1 J1 gs ez
 have gz:=hp.grw gs
 have hp:=hp.same gs
 have e_t1:=hp.tup ez
 have gg:=gg.trans gz
 clear gs ez
 have e_b:=gz _ _ e_b
 have k_b:=k_b.mono gz
 have e_b1:=gz _ _ e_b1
 have pr:=pf gz pr
 refine ⟨_,rfl,_,rfl,_,_,rfl,rfl,leN rfl,?_⟩
 intro q1 n_q1
 generalize hz:upd _ q1 _=J2
 revert J2
 refine blk ?_
 intro J2 hz
 have hw:=laid_pen hz n_q1 hp
 have hp:=hw.1
 have gz:=hw.2.1
 have ne_q1:=hw.2.2.1
 have e_q1:=hw.2.2.2
 clear hw hz
 have gg:=gg.trans gz
 have e_b:=gz _ _ e_b
 have k_b:=k_b.mono gz
 have e_b1:=gz _ _ e_b1
 have e_t1:=gz _ _ e_t1
 have pr:=pf gz pr
 refine ⟨leN rfl,?_⟩
 intro q2 n_q2
 generalize hz:upd _ q2 _=J3
 revert J3
 refine blk ?_
 intro J3 hz
 have hw:=laid_pen hz n_q2 hp
 have hp:=hw.1
 have gz:=hw.2.1
 have ne_q2:=hw.2.2.1
 have e_q2:=hw.2.2.2
 clear hw hz
 have gg:=gg.trans gz
 have e_b:=gz _ _ e_b
 have k_b:=k_b.mono gz
 have e_b1:=gz _ _ e_b1
 have e_t1:=gz _ _ e_t1
 have e_q1:=gz _ _ e_q1
 have pr:=pf gz pr
 refine ⟨t1,q2,_,_,rfl,rfl,(hide_some e_t1).2,(hide_some e_q2).2,Nat.le_trans (Nat.add_le_add_right (c40 _ _) _) (leN rfl),?_⟩
 skip
 intro t2 J4 gs ez
 have gz:=hp.grw gs
 have hp:=hp.same gs
 have e_t2:=hp.tup ez
 have gg:=gg.trans gz
 clear gs ez
 have e_b:=gz _ _ e_b
 have k_b:=k_b.mono gz
 have e_b1:=gz _ _ e_b1
 have e_q1:=gz _ _ e_q1
 have pr:=pf gz pr
 refine ⟨_,rfl,_,rfl,_,_,rfl,rfl,_,rfl,cb,_,rfl,(hide_some e_b).2,?_⟩
 intro t3 J5 gs ez
 have gz:=hp.grw gs
 have hp:=hp.same gs
 have e_t3:=hp.tup ez
 have gg:=gg.trans gz
 clear gs ez
 have e_b:=gz _ _ e_b
 have k_b:=k_b.mono gz
 have e_b1:=gz _ _ e_b1
 have e_q1:=gz _ _ e_q1
 have e_t2:=gz _ _ e_t2
 have pr:=pf gz pr
 have l41:(cutV (as.map V.ref) none (some (k:Int))++[V.ref q1]).length≤41:=by rw [List.length_append];exact Nat.add_le_add_right (c40 _ _) 1
 refine ⟨t2,t3,_,_,rfl,rfl,(hide_some e_t2).2,(hide_some e_t3).2,Nat.le_trans (Nat.add_le_add l41 (c40 _ _)) (leN rfl),?_⟩
 skip
 intro s1 J6 gs ez
 have gz:=hp.grw gs
 have hp:=hp.same gs
 have e_s1:=hp.tup ez
 have gg:=gg.trans gz
 clear gs ez
 have e_b:=gz _ _ e_b
 have k_b:=k_b.mono gz
 have e_b1:=gz _ _ e_b1
 have e_q1:=gz _ _ e_q1
 have pr:=pf gz pr
 have k_s:LR (hide a J6) s1:=⟨as.take k++[q1]++as.drop (k+1),qs.take k++[(k0,n+1)]++qs.drop (k+1),by rw [List.map_append,List.map_append,←map_cut_to,←map_cut_from];exact e_s1,prd_app (prd_app (prd_take k pr) (.cons ⟨b1,e_q1,e_b1⟩ .nil)) (prd_drop (k+1) pr),nd1,by rw [List.length_append,List.length_append,List.length_take,List.length_drop];show _+1+_≤_;omega⟩
 clear e_s1 nd1
 refine hC _ _ ⟨_,(@pss_cons _ _ _ _ _ (@ps_if _ _ _ _ _ _ _ _ (@pt_cmpR _ _ _ _ _ _ _ _ op_eq (pv 9) pe_int (nomark _)) (@pss_one _ _ _ (@ps_set _ _ 10 _ _ _ _ sc_l_bent_ladder.nd rfl (Or.inl rfl) (@pe_op _ _ _ _ _ _ _ _ op_catG (pe_slice sl_tupG (pv 4) po_none (po_some (pv 6))) (pe_slice sl_tupG (pv 4) (po_some (@pe_op _ _ _ _ _ _ _ _ op_add (pv 6) pe_int)) po_none)) (by rfl) (by first | exact .inl rfl | exact .inr rfl))) pss_nil) pss_run),?_⟩
 refine seq_post (fun σ' H'=>∃c':Addr,σ'=[some (.ref a),some (.ref q),some (.int room),some (.int deep),some (.ref cb),some (.int total),some (.int (k:Int)),some (.ref b1),some (.int n),some (.int way),some (.ref c')]∧PenAt H' a∧Grw a H H'∧LR (hide a H') c'∧hide a H' cb=some (.tup (as.map V.ref))∧Paired (FT (hide a H')) as qs) ?_ ?_
 ·intro nx hnx
  refine ⟨_,rfl,rfl,_,rfl,ite2 (fun _=>oA fun C hC=>?_) (fun _=>hnx _ _ ⟨s1,rfl,hp,gg,k_s,e_b,pr⟩)⟩
  refine ⟨_,rfl,_,rfl,_,rfl,cb,_,rfl,(hide_some e_b).2,?_⟩
  skip
  intro t1 G1 gs ez
  have gz:=hp.grw gs
  have hp:=hp.same gs
  have e_t1:=hp.tup ez
  have gg:=gg.trans gz
  clear gs ez
  have e_b:=gz _ _ e_b
  have pr:=pf gz pr
  refine ⟨_,rfl,_,rfl,_,_,rfl,rfl,_,rfl,cb,_,rfl,(hide_some e_b).2,?_⟩
  intro t2 G2 gs ez
  have gz:=hp.grw gs
  have hp:=hp.same gs
  have e_t2:=hp.tup ez
  have gg:=gg.trans gz
  clear gs ez
  have e_b:=gz _ _ e_b
  have e_t1:=gz _ _ e_t1
  have pr:=pf gz pr
  refine ⟨t1,t2,_,_,rfl,rfl,(hide_some e_t1).2,(hide_some e_t2).2,Nat.le_trans (Nat.add_le_add (c40 _ _) (c40 _ _)) (leN rfl),?_⟩
  skip
  intro s2 G3 gs ez
  have gz:=hp.grw gs
  have hp:=hp.same gs
  have e_s2:=hp.tup ez
  have gg:=gg.trans gz
  clear gs ez
  have e_b:=gz _ _ e_b
  have pr:=pf gz pr
  exact hC _ _ (hnx _ _ ⟨s2,rfl,hp,gg,⟨as.take k++as.drop (k+1),qs.take k++qs.drop (k+1),by rw [List.map_append,←map_cut_to,←map_cut_from];exact e_s2,prd_app (prd_take k pr) (prd_drop (k+1) pr),nd2,by rw [List.length_append];rw [List.length_take,List.length_drop];omega⟩,e_b,pr⟩)
 clear hp gg k_s e_b pr k_b e_b1 e_q1 nd2
 rintro _ J7 ⟨c',rfl,hp,gg,k_s,e_b,pr⟩
 refine ⟨_,(@pss_cons _ _ _ _ _ (@ps_if _ _ _ _ _ _ _ _ (@pt_cmpR _ _ _ _ _ _ _ _ op_eq (pv 9) pe_int (nomark _)) (@pss_one _ _ _ (@ps_set _ _ 10 _ _ _ _ sc_l_bent_ladder.nd rfl (Or.inl rfl) (pe_callTy call_tuple_of rfl z_tuple PyProof.Rows.boot_tuple (@pa_cons _ _ _ _ _ (pe_callB (call_sortIT rfl hr.units) rfl z_sorted PyProof.Rows.boot_sorted (@pa_cons _ _ _ _ _ (pe_bm0 PySem.F.plainAttrs_dict PySem.F.slot_dict_items PySem.F.type_dict_items mt_itemsT (pe_callTy (call_dictLT rfl hr.units) rfl z_dict PyProof.Rows.boot_dict (@pa_cons _ _ _ _ _ (@pe_op _ _ _ _ _ _ _ _ op_cat (pe_callTy call_list_of rfl z_list PyProof.Rows.boot_list (@pa_cons _ _ _ _ _ (@pe_op _ _ _ _ _ _ _ _ op_catG (pe_slice sl_tupG (pv 4) po_none (po_some (pv 6))) (pe_slice sl_tupG (pv 4) (po_some (@pe_op _ _ _ _ _ _ _ _ op_add (pv 6) pe_int)) po_none)) pa_nil (by rfl))) (@pe_lst _ _ _ _ (@pa_cons _ _ _ _ _ (@pe_tup _ _ _ _ _ (@pa_cons _ _ _ _ _ (@pe_tup _ _ _ _ _ (@pa_cons _ _ _ _ _ pe_int (@pa_cons _ _ _ _ _ pe_int pa_nil (by rfl)) (by rfl))) (@pa_cons _ _ _ _ _ (pv 8) pa_nil (by rfl)) (by rfl))) pa_nil (by rfl)))) pa_nil (by rfl)))) pa_nil (by rfl))) pa_nil (by rfl))) (by rfl) (by first | exact .inl rfl | exact .inr rfl))) pss_nil) pss_run),?_⟩
 refine seq_post (fun σ' H'=>∃c':Addr,σ'=[some (.ref a),some (.ref q),some (.int room),some (.int deep),some (.ref cb),some (.int total),some (.int (k:Int)),some (.ref b1),some (.int n),some (.int way),some (.ref c')]∧PenAt H' a∧Grw a H H'∧LR (hide a H') c') ?_ ?_
 ·intro nx hnx
  refine ⟨_,rfl,rfl,_,rfl,ite2 (fun _=>oA fun C hC=>?_) (fun _=>hnx _ _ ⟨c',rfl,hp,gg,k_s⟩)⟩
  refine ⟨_,rfl,_,rfl,_,rfl,cb,_,rfl,(hide_some e_b).2,?_⟩
  skip
  intro t1 G1 gs ez
  have gz:=hp.grw gs
  have hp:=hp.same gs
  have e_t1:=hp.tup ez
  have gg:=gg.trans gz
  clear gs ez
  have e_b:=gz _ _ e_b
  have pr:=pf gz pr
  refine ⟨_,rfl,_,rfl,_,_,rfl,rfl,_,rfl,cb,_,rfl,(hide_some e_b).2,?_⟩
  intro t2 G2 gs ez
  have gz:=hp.grw gs
  have hp:=hp.same gs
  have e_t2:=hp.tup ez
  have gg:=gg.trans gz
  clear gs ez
  have e_b:=gz _ _ e_b
  have e_t1:=gz _ _ e_t1
  have pr:=pf gz pr
  refine ⟨t1,t2,_,_,rfl,rfl,(hide_some e_t1).2,(hide_some e_t2).2,Nat.le_trans (Nat.add_le_add (c40 _ _) (c40 _ _)) (leN rfl),?_⟩
  skip
  intro s2 G3 gs ez
  have gz:=hp.grw gs
  have hp:=hp.same gs
  have e_s2:=hp.tup ez
  have gg:=gg.trans gz
  clear gs ez
  have pr:=pf gz pr
  refine ⟨s2,_,rfl,.inr (hSqT e_s2),?_⟩
  skip
  intro l1 n_l1
  generalize hz:upd _ l1 _=G4
  revert G4
  refine blk ?_
  intro G4 hz
  have hw:=laid_pen hz n_l1 hp
  have hp:=hw.1
  have gz:=hw.2.1
  have ne_l1:=hw.2.2.1
  have e_l1:=hw.2.2.2
  clear hw hz
  have gg:=gg.trans gz
  have pr:=pf gz pr
  refine ⟨leN rfl,?_⟩
  intro k1 n_k1
  generalize hz:upd _ k1 _=G5
  revert G5
  refine blk ?_
  intro G5 hz
  have hw:=laid_pen hz n_k1 hp
  have hp:=hw.1
  have gz:=hw.2.1
  have ne_k1:=hw.2.2.1
  have e_k1:=hw.2.2.2
  clear hw hz
  have gg:=gg.trans gz
  have e_l1:=gz _ _ e_l1
  have pr:=pf gz pr
  refine ⟨_,rfl,leN rfl,?_⟩
  intro k2 n_k2
  generalize hz:upd _ k2 _=G6
  revert G6
  refine blk ?_
  intro G6 hz
  have hw:=laid_pen hz n_k2 hp
  have hp:=hw.1
  have gz:=hw.2.1
  have ne_k2:=hw.2.2.1
  have e_k2:=hw.2.2.2
  clear hw hz
  have gg:=gg.trans gz
  have e_l1:=gz _ _ e_l1
  have e_k1:=gz _ _ e_k1
  have pr:=pf gz pr
  refine ⟨leN rfl,?_⟩
  intro l2 n_l2
  generalize hz:upd _ l2 _=G7
  revert G7
  refine blk ?_
  intro G7 hz
  have hw:=laid_pen hz n_l2 hp
  have hp:=hw.1
  have gz:=hw.2.1
  have ne_l2:=hw.2.2.1
  have e_l2:=hw.2.2.2
  clear hw hz
  have gg:=gg.trans gz
  have e_l1:=gz _ _ e_l1
  have e_k1:=gz _ _ e_k1
  have e_k2:=gz _ _ e_k2
  have pr:=pf gz pr
  refine ⟨l1,l2,_,_,rfl,rfl,(hide_some e_l1).2,(hide_some e_l2).2,small_le (by rw [List.length_append];exact Nat.le_trans (Nat.add_le_add_right (Nat.add_le_add (c40 _ _) (c40 _ _)) _) (by show 40+40+1≤1000000;decide)),?_⟩
  skip
  intro l3 n_l3
  generalize hz:upd _ l3 _=G8
  revert G8
  refine blk ?_
  intro G8 hz
  have hw:=laid_pen hz n_l3 hp
  have hp:=hw.1
  have gz:=hw.2.1
  have ne_l3:=hw.2.2.1
  have e_l3:=hw.2.2.2
  clear hw hz
  have gg:=gg.trans gz
  have e_k1:=gz _ _ e_k1
  have e_k2:=gz _ _ e_k2
  have pr:=pf gz pr
  have pz:Paired (FT (hide a G8)) (as.take k++as.drop (k+1)++[k2]) (qs.take k++qs.drop (k+1)++[((0,0),n)]):=prd_app (prd_app (prd_take k pr) (prd_drop (k+1) pr)) (.cons ⟨k1,e_k2,e_k1⟩ .nil)
  have e_l3:hide a G8 l3=some (.lst ((as.take k++as.drop (k+1)++[k2]).map V.ref)):=by rw [List.map_append,List.map_append,←map_cut_to,←map_cut_from];exact e_l3
  have zl:(qs.take k++qs.drop (k+1)++[((0,0),n)]).length≤41:=by rw [List.length_append,List.length_append,List.length_take,List.length_drop];show _+_+1≤41;omega
  generalize as.take k++as.drop (k+1)++[k2]=zs at pz e_l3
  generalize qs.take k++qs.drop (k+1)++[((0,0),n)]=ws at pz zl
  refine ⟨l3,_,_,rfl,hSqL e_l3,ft_tps (Paired.mapP pz fun _ _ f=>ft_mono hide_sub f),by rw [tvOf_len];omega,?_⟩
  rw [mrgS_tv]
  have mo:=mrgS_ok ws [] List.nodup_nil
  have mo1:((mrgS ws).map (·.1)).Nodup:=mo.1
  have mo2:(mrgS ws).length≤0+ws.length:=mo.2
  generalize mrgS ws=ms at mo1 mo2 ⊢
  skip
  intro d n_d
  generalize hz:upd _ d _=G9
  revert G9
  refine blk ?_
  intro G9 hz
  have hw:=laid_pen hz n_d hp
  have hp:=hw.1
  have gz:=hw.2.1
  have ne_d:=hw.2.2.1
  have e_d:=hw.2.2.2
  clear hw hz
  have gg:=gg.trans gz
  refine ⟨tyV_dT (hide_some e_d).2,d,_,rfl,rfl,(hide_some e_d).2,?_⟩
  intro v n_v
  generalize hz:upd _ v _=G10
  revert G10
  refine blk ?_
  intro G10 hz
  have hw:=laid_pen hz n_v hp
  have hp:=hw.1
  have gz:=hw.2.1
  have ne_v:=hw.2.2.1
  have e_v:=hw.2.2.2
  clear hw hz
  have gg:=gg.trans gz
  have e_d:=gz _ _ e_d
  refine ⟨v,d,ms,rfl,(hide_some e_v).2,(hide_some e_d).2,by omega,fun G11 bs g6 pr6 l n_l _=>?_⟩
  have gz:=hp.grw g6
  have gg:=gg.trans gz
  have hp:=hp.same g6
  have pr6:Paired (FT (hide a G11)) bs (srtP2 ms):=Paired.mapP pr6 fun _ _ ⟨y,f1,f2⟩=>⟨y,hp.tup f1,hp.tup f2⟩
  generalize hz:upd _ l _=G12
  revert G12
  refine blk ?_
  intro G12 hz
  have hw:=laid_pen hz n_l hp
  have hp:=hw.1
  have gz:=hw.2.1
  have e_l:=hw.2.2.2
  clear hw hz
  have gg:=gg.trans gz
  have pr6:=Paired.mapP pr6 fun _ _ f=>ft_mono gz f
  refine ⟨l,_,rfl,.inl ⟨hSqL e_l,?_⟩⟩
  skip
  intro u n_u
  generalize hz:upd _ u _=G13
  revert G13
  refine blk ?_
  intro G13 hz
  have hw:=laid_pen hz n_u hp
  have hp:=hw.1
  have gz:=hw.2.1
  have ne_u:=hw.2.2.1
  have e_u:=hw.2.2.2
  clear hw hz
  have gg:=gg.trans gz
  have pr6:=Paired.mapP pr6 fun _ _ f=>ft_mono gz f
  exact hC _ _ (hnx _ _ ⟨u,rfl,hp,gg,bs,_,e_u,pr6,((srtP2_perm ms).map (·.1)).nodup_iff.mpr mo1,by rw [(srtP2_perm ms).length_eq];omega⟩)
 clear hp gg k_s e_b pr
 rintro _ J8 ⟨c',rfl,hp,gg,as',qs',e_c',pr,nq',ql'⟩
 have al':=Paired.length pr
 have pf':∀{G G':Hp},Grw a G G'→Paired (FT (hide a G)) as' qs'→Paired (FT (hide a G')) as' qs':=fun g r=>Paired.mapP r fun _ _ f=>ft_mono g f
 refine ⟨_,(@pss_one _ _ _ (@ps_ret _ _ _ _ (@pe_tup _ _ _ _ _ (@pa_cons _ _ _ _ _ (pv 2) (@pa_cons _ _ _ _ _ (pv 3) (@pa_cons _ _ _ _ _ (pv 10) (@pa_cons _ _ _ _ _ (pe_callB (call_sum rfl) rfl z_sum PyProof.Rows.boot_sum (@pa_cons _ _ _ _ _ (pe_comp (own:=["_law_one"]) (CompOk.of rfl rfl (by rfl) (by rfl) (by rfl)) (pi_tup (pv 10))
  (fun _ _ _ _ _=>(pg_name (i:=0) nd_l_bent_ladder_188_55 rfl (Or.inl rfl) (Or.inr rfl))) (fun _ _ _ _ _=>pts_nil)
  (fun _ _ _ _ _=>(@pe_ix _ _ _ _ _ _ _ (ix_tupK K rfl) (pv 0) pe_int (fun _ _=>rfl)))) pa_nil (by rfl))) pa_nil (by rfl)) (by rfl)) (by rfl)) (by rfl))))),rA fun C hC=>?_⟩
 refine ⟨_,rfl,_,rfl,_,rfl,_,rfl,c',rfl,⟨_,hSqT e_c'⟩,?_⟩
 refine comp_tup (xs:=as'.map V.ref) (fun i ys H'=>H'=J8∧ys=((qs'.take i).map (·.2)).map V.int) ⟨rfl,rfl⟩ ?_ ?_ ?_
 ·rintro i ys H' _ ⟨rfl,_⟩
  exact hSqT e_c'
 ·rintro i x ys H' C hx ⟨rfl,rfl⟩ hC
  obtain ⟨c2,p2,rfl,hp2,b2,f1,f2⟩:=ft_get pr hx
  refine ⟨small_lt (by rw [List.length_map,List.length_map,List.length_take];omega),Wk.refl _,_,rfl,c2,_,1,_,rfl,rfl,hSqT f1,rfl,hC _ _ ⟨rfl,?_⟩⟩
  rw [take_one hp2,List.map_append,List.map_append]
  rfl
 rintro ys H' ⟨rfl,rfl⟩
 have ml':(as'.map V.ref).length=qs'.length:=by rw [List.length_map,al']
 rw [ml',List.take_length]
 refine ⟨small_le (by rw [List.length_map,List.length_map];omega),?_⟩
 skip
 intro y n_y
 generalize hz:upd _ y _=J9
 revert J9
 refine blk ?_
 intro J9 hz
 have hw:=laid_pen hz n_y hp
 have hp:=hw.1
 have gz:=hw.2.1
 have ne_y:=hw.2.2.1
 have e_y:=hw.2.2.2
 clear hw hz
 have gg:=gg.trans gz
 have e_c':=gz _ _ e_c'
 have pr:=pf' gz pr
 refine ⟨y,qs'.map (·.2),rfl,hSqL e_y,leN rfl,?_⟩
 intro l n_l
 generalize hz:upd _ l _=J10
 revert J10
 refine blk ?_
 intro J10 hz
 have hw:=laid_pen hz n_l hp
 have hp:=hw.1
 have gz:=hw.2.1
 have ne_l:=hw.2.2.1
 have e_l:=hw.2.2.2
 clear hw hz
 have gg:=gg.trans gz
 have e_c':=gz _ _ e_c'
 have e_y:=gz _ _ e_y
 have pr:=pf' gz pr
 exact hC _ _ (hq l _ ⟨room,_,qs',⟨c',as',e_l,e_c',pr⟩,nq',ql'⟩ hp gg)
end
end K33
namespace K33
open PySem L2 Ld
noncomputable def h2 (a L:Addr) (H:Hp):Hp:=fun x=>if x=L then none else hide a H x
section
variable {H H1:Hp} {a L b p:Addr} {o u:HO} {xs ms:List V}
theorem h2_ne (n:b≠L):h2 a L H b=hide a H b:=if_neg n
theorem h2_some (h:h2 a L H b=some o):b≠L∧hide a H b=some o:=by
 by_cases z:b=L
 ·unfold h2 at h
  rw [if_pos z] at h
  cases h
 ·exact ⟨z,by rw [h2_ne z] at h;exact h⟩
theorem h2_sub:Same (h2 a L H) (hide a H):=fun _ _ e=>(h2_some e).2
theorem h2_at (h:h2 a L H b=some o):H b=some o:=(hide_some (h2_some h).2).2
theorem tSqT {K:PySem.W.Frag} (h:h2 a L H b=some (.tup xs)):SqT K H b xs:=SqT.of (h2_at h)
theorem tSqL {K:PySem.W.Frag} (h:h2 a L H b=some (.lst xs)):SqL K H b xs:=SqL.of (h2_at h)
theorem two_grw (g:Grw a H H1):Same (h2 a L H) (h2 a L H1):=fun b w hb=>by
 obtain ⟨bL,hb⟩:=h2_some hb
 rw [h2_ne bL]
 exact g _ _ hb
theorem two_new (h:upd H L o=H1) (n:H L=none) (hp:PenAt H a):PenAt H1 a∧H1 L=some o∧L≠a∧Same (hide a H) (h2 a L H1):=by
 obtain ⟨hp1,gz,ne,e⟩:=laid_pen h n hp
 refine ⟨hp1,(hide_some e).2,ne,fun b w hb=>?_⟩
 rw [h2_ne (ne_of_none (hide_some hb).2 n)]
 exact gz _ _ hb
theorem laid_two (h:upd H p o=H1) (n:H p=none) (hp:PenAt H a) (eL:H L=some u):PenAt H1 a∧H1 L=some u∧Same (h2 a L H) (h2 a L H1)∧h2 a L H1 p=some o:=by
 obtain ⟨hp1,gz,ne,e⟩:=laid_pen h n hp
 refine ⟨hp1,laid_same h n _ _ eL,two_grw gz,?_⟩
 rw [h2_ne (ne_of_none eL n).symm]
 exact e
theorem put_two (o:HO) (hp:PenAt H a) (LA:L≠a):PenAt (upd H L o) a∧(upd H L o) L=some o∧Same (h2 a L H) (h2 a L (upd H L o)):=by
 refine ⟨hp.put LA,upd_same,fun b w hb=>?_⟩
 obtain ⟨bL,hb⟩:=h2_some hb
 rw [h2_ne bL,hide_upd_ne bL]
 exact hb
end
theorem put_twoE {H H1:Hp} {a L:Addr} {o:HO} (h:upd H L o=H1) (hp:PenAt H a) (LA:L≠a):PenAt H1 a∧H1 L=some o∧Same (h2 a L H) (h2 a L H1):=by
 subst h
 exact put_two o hp LA
noncomputable def GE (H:Hp) (x:V):Prop:=∃p,x=.ref p∧PG 700 H p
noncomputable def AllG (H:Hp) (xs:List V):Prop:=∀x∈xs,GE H x
theorem GE.mono {H H':Hp} {x:V} (h:GE H x) (g:Same H H'):GE H' x:=let ⟨p,e,h⟩:=h;⟨p,e,h.mono g⟩
theorem AllG.mono {H H':Hp} {xs:List V} (h:AllG H xs) (g:Same H H'):AllG H' xs:=fun x hx=>(h x hx).mono g
theorem AllG.snoc {H:Hp} {xs:List V} {x:V} (h:AllG H xs) (k:GE H x):AllG H (xs++[x]):=fun y hy=>(List.mem_append.mp hy).elim (h y) fun q=>by rw [List.mem_singleton.mp q];exact k
theorem AllG.one {H:Hp} {x:V} (k:GE H x):AllG H [x]:=fun y hy=>by rw [List.mem_singleton.mp hy];exact k
noncomputable def spForg33:Sp:=fun vs H Q _=>∃(a r p:Addr) (xs ys:List V),vs=[.ref a,.ref r,.ref p]∧PenAt H a∧hide a H r=some (.lst xs)∧All TE (hide a H) xs∧xs.length≤100∧hide a H p=some (.lst ys)∧All PE (hide a H) ys∧ys.length≤600∧
 ∀(l:Addr) (H':Hp) (zs:List V),hide a H' l=some (.lst zs)→AllG (hide a H') zs→zs.length≤12→PenAt H' a→Grw a H H'→Q (.ref l) H'
theorem cut_2 {xs:List V}:(cutV xs none (some 2)).length≤2:=by
 have e:(2:Int)=((2:Nat):Int):=rfl
 rw [e,cut_to,List.length_take]
 omega
theorem cut_mid {xs:List V} {i o:Nat} (h:i≤o) (g:o≤xs.length):(cutV xs (some (i:Int)) (some (o:Int))).length≤o - i:=by
 unfold cutV
 rw [HT.sIx_nat,HT.sIx_nat,List.length_take]
 omega
theorem kt_lay (x y:Int):(PyData.tuple [.int x,.int y]).canLay0=true∧(PyData.tuple [.int x,.int y]).depth≤3:=by
 simp [PyData.canLay0,PyData.canLayAll0,PyData.depth,PyData.depthAll]
structure Fg (H H':Hp) (a L:Addr) (n:Nat) (ms:List V):Prop where
 hp:PenAt H' a
 gT:Same (hide a H) (h2 a L H')
 eL:H' L=some (.lst ms)
 am:AllG (h2 a L H') ms
 ml:ms.length≤n
section
variable {P:Program} {w:World} {K:PySem.W.Frag} {mg:Str→Option Value} {base:Heap} {f:Addr} {fd:FuncData}
theorem ok_forg (z_len:mg "len"=none) (z_range:mg "range"=none) (h_l_draw:Has P w K mg base "_law_draw" 1 ["_law_pen_here","_law_size"] spDraw)
  (F:Fun K "_law_forged" "_law_forged" s_l_forged f fd):FnOk P w K mg base CX0 2 f fd ["_law_pen_here","_law_stream_here","_law_paper"] spForg33:=by
 refine F.ok sc_l_forged (fun vs H Q E h=>?_) (fun cdv A outer s H vs Q E hr h=>?_)
 ·obtain ⟨a,r,p,xs,ys,rfl,_⟩:=h
  rfl
 obtain ⟨a,r,p,xs,ys,rfl,hp,e_r0,k_x0,xl,e_p0,k_p0,pl,hq⟩:=h
 have gg:Grw a H H:=Same.refl _
 have e_r:=e_r0
 have e_p:=e_p0
 have k_p:=k_p0
 have cl:=fun lo hi=>cut_len ys lo hi
 refine ⟨_,(@pss_cons _ _ _ _ _ (@ps_set _ _ 3 _ _ _ _ sc_l_forged.nd rfl (Or.inl rfl) (pe_callH h_l_draw hr (@pa_cons _ _ _ _ _ (pv 0) (@pa_cons _ _ _ _ _ (@pe_op _ _ _ _ _ _ _ _ op_add (pe_callB call_len_seq rfl z_len PySem.boot_len (@pa_cons _ _ _ _ _ (pv 2) pa_nil (by rfl))) pe_int) pa_nil (by rfl)) (by rfl))) (by rfl) (by first | exact .inl rfl | exact .inr rfl)) pss_run),sA fun C hC=>?_⟩
 refine ⟨_,rfl,_,rfl,p,ys,rfl,.inl (hSqL e_p),_,_,rfl,rfl,a,_,rfl,hp,by omega,by omega,fun at1 H1 y0 y1 hp gz=>?_⟩
 skip
 have gg:=gg.trans gz
 have e_r:=gz _ _ e_r
 have e_p:=gz _ _ e_p
 have k_p:=k_p.mono gz
 obtain ⟨k,rfl⟩:=Int.eq_ofNat_of_zero_le y0
 refine hC _ _ ⟨_,(@pss_cons _ _ _ _ _ (@ps_set _ _ 4 _ _ _ _ sc_l_forged.nd rfl (Or.inl rfl) (@pe_lst _ _ _ _ (@pa_cons _ _ _ _ _ (@pe_op _ _ _ _ _ _ _ _ op_cat (@pe_op _ _ _ _ _ _ _ _ op_cat (pe_slice sl_list (pv 2) po_none (po_some (pv 3))) (@pe_lst _ _ _ _ (@pa_cons _ _ _ _ _ (@pe_tup _ _ _ _ _ (@pa_cons _ _ _ _ _ (@pe_tup _ _ _ _ _ (@pa_cons _ _ _ _ _ pe_int (@pa_cons _ _ _ _ _ pe_int pa_nil (by rfl)) (by rfl))) (@pa_cons _ _ _ _ _ pe_int pa_nil (by rfl)) (by rfl))) pa_nil (by rfl)))) (pe_slice sl_list (pv 2) (po_some (pv 3)) po_none)) pa_nil (by rfl))) (by rfl) (by first | exact .inl rfl | exact .inr rfl)) pss_run),sA fun C hC=>?_⟩
 refine ⟨_,rfl,_,rfl,_,rfl,sl_of (hSqL e_p) ?_⟩
 intro p1 n_p1
 generalize hz:upd _ p1 _=H2
 revert H2
 refine blk ?_
 intro H2 hz
 have hw:=laid_pen hz n_p1 hp
 have hp:=hw.1
 have gz:=hw.2.1
 have ne_p1:=hw.2.2.1
 have e_p1:=hw.2.2.2
 clear hw hz
 have gg:=gg.trans gz
 have e_r:=gz _ _ e_r
 have e_p:=gz _ _ e_p
 have k_p:=k_p.mono gz
 refine ⟨leN rfl,?_⟩
 intro k1 n_k1
 generalize hz:upd _ k1 _=H3
 revert H3
 refine blk ?_
 intro H3 hz
 have hw:=laid_pen hz n_k1 hp
 have hp:=hw.1
 have gz:=hw.2.1
 have ne_k1:=hw.2.2.1
 have e_k1:=hw.2.2.2
 clear hw hz
 have gg:=gg.trans gz
 have e_r:=gz _ _ e_r
 have e_p:=gz _ _ e_p
 have k_p:=k_p.mono gz
 have e_p1:=gz _ _ e_p1
 refine ⟨leN rfl,?_⟩
 intro k2 n_k2
 generalize hz:upd _ k2 _=H4
 revert H4
 refine blk ?_
 intro H4 hz
 have hw:=laid_pen hz n_k2 hp
 have hp:=hw.1
 have gz:=hw.2.1
 have ne_k2:=hw.2.2.1
 have e_k2:=hw.2.2.2
 clear hw hz
 have gg:=gg.trans gz
 have e_r:=gz _ _ e_r
 have e_p:=gz _ _ e_p
 have k_p:=k_p.mono gz
 have e_p1:=gz _ _ e_p1
 have e_k1:=gz _ _ e_k1
 refine ⟨leN rfl,?_⟩
 intro l1 n_l1
 generalize hz:upd _ l1 _=H5
 revert H5
 refine blk ?_
 intro H5 hz
 have hw:=laid_pen hz n_l1 hp
 have hp:=hw.1
 have gz:=hw.2.1
 have ne_l1:=hw.2.2.1
 have e_l1:=hw.2.2.2
 clear hw hz
 have gg:=gg.trans gz
 have e_r:=gz _ _ e_r
 have e_p:=gz _ _ e_p
 have k_p:=k_p.mono gz
 have e_p1:=gz _ _ e_p1
 have e_k1:=gz _ _ e_k1
 have e_k2:=gz _ _ e_k2
 refine cat_of ((hide_some e_p1).2) ((hide_some e_l1).2) (small_le (Nat.le_trans (Nat.add_le_add_right (cl _ _) _) (by show _+1≤_;omega))) ?_
 intro l2 n_l2
 generalize hz:upd _ l2 _=H6
 revert H6
 refine blk ?_
 intro H6 hz
 have hw:=laid_pen hz n_l2 hp
 have hp:=hw.1
 have gz:=hw.2.1
 have ne_l2:=hw.2.2.1
 have e_l2:=hw.2.2.2
 clear hw hz
 have gg:=gg.trans gz
 have e_r:=gz _ _ e_r
 have e_p:=gz _ _ e_p
 have k_p:=k_p.mono gz
 have e_p1:=gz _ _ e_p1
 have e_k1:=gz _ _ e_k1
 have e_k2:=gz _ _ e_k2
 have e_l1:=gz _ _ e_l1
 refine ⟨_,rfl,_,rfl,_,rfl,slN_of (hSqL e_p) ?_⟩
 intro p2 n_p2
 generalize hz:upd _ p2 _=H7
 revert H7
 refine blk ?_
 intro H7 hz
 have hw:=laid_pen hz n_p2 hp
 have hp:=hw.1
 have gz:=hw.2.1
 have ne_p2:=hw.2.2.1
 have e_p2:=hw.2.2.2
 clear hw hz
 have gg:=gg.trans gz
 have e_r:=gz _ _ e_r
 have e_p:=gz _ _ e_p
 have k_p:=k_p.mono gz
 have e_p1:=gz _ _ e_p1
 have e_k1:=gz _ _ e_k1
 have e_k2:=gz _ _ e_k2
 have e_l1:=gz _ _ e_l1
 have e_l2:=gz _ _ e_l2
 refine cat_of ((hide_some e_l2).2) ((hide_some e_p2).2) (small_le (by rw [List.length_append];exact Nat.le_trans (Nat.add_le_add (Nat.add_le_add_right (cl _ _) _) (cl _ _)) (by show _+1+_≤_;omega))) ?_
 skip
 intro l3 n_l3
 generalize hz:upd _ l3 _=H8
 revert H8
 refine blk ?_
 intro H8 hz
 have hw:=laid_pen hz n_l3 hp
 have hp:=hw.1
 have gz:=hw.2.1
 have ne_l3:=hw.2.2.1
 have e_l3:=hw.2.2.2
 clear hw hz
 have gg:=gg.trans gz
 have e_r:=gz _ _ e_r
 have e_p:=gz _ _ e_p
 have k_p:=k_p.mono gz
 have e_k1:=gz _ _ e_k1
 have e_k2:=gz _ _ e_k2
 have G1:GE (hide a H8) (.ref l3):=⟨l3,rfl,_,e_l3,((k_p.cut _ _).app (All.one ⟨k2,((0,0),0),rfl,k1,e_k2,e_k1⟩)).app (k_p.cut _ _),by
  rw [cut_to,cut_from,List.length_append,List.length_append,List.length_take,List.length_drop]
  show _+1+_≤700
  omega⟩
 refine ⟨leN rfl,fun L n_L=>?_⟩
 generalize hz:upd _ L _=H9
 revert H9
 refine blk ?_
 intro H9 hz
 have hw:=two_new hz n_L hp
 have fg:Fg H H9 a L 1 [.ref l3]:=⟨hw.1,gg.trans hw.2.2.2,hw.2.1,AllG.one (G1.mono hw.2.2.2),Nat.le_refl _⟩
 have LA:=hw.2.2.1
 clear hw hz G1 e_k1 e_k2 e_l3 e_r e_p k_p gg hp n_L gz
 refine hC _ _ ⟨_,(@pss_cons _ _ _ _ _ (ps_for PassesOwn.never rfl (pi_list (pe_slice sl_list (pv 1) po_none (po_some pe_int))) (pg_tup rfl (pgs_cons (pg_name (i:=5) sc_l_forged.nd rfl (Or.inl rfl)) (pgs_cons (pg_name (i:=6) sc_l_forged.nd rfl (Or.inl rfl)) (pgs_cons (pg_name (i:=7) sc_l_forged.nd rfl (Or.inl rfl)) (pgs_cons (pg_name (i:=8) sc_l_forged.nd rfl (Or.inl rfl)) pgs_nil)))))
 (@pss_cons _ _ _ _ _ (ps_expr (pe_bm PySem.F.plainAttrs_list PySem.F.slot_list_append PySem.F.type_list_append mt_append (pv 4) (@pa_cons _ _ _ _ _ (@pe_op _ _ _ _ _ _ _ _ op_cat (@pe_lst _ _ _ _ (@pa_cons _ _ _ _ _ (@pe_tup _ _ _ _ _ (@pa_cons _ _ _ _ _ (@pe_tup _ _ _ _ _ (@pa_cons _ _ _ _ _ pe_int (@pa_cons _ _ _ _ _ (pv 7) pa_nil (by rfl)) (by rfl))) (@pa_cons _ _ _ _ _ pe_int pa_nil (by rfl)) (by rfl))) (@pa_cons _ _ _ _ _ (@pe_tup _ _ _ _ _ (@pa_cons _ _ _ _ _ (@pe_tup _ _ _ _ _ (@pa_cons _ _ _ _ _ pe_int (@pa_cons _ _ _ _ _ (pv 7) pa_nil (by rfl)) (by rfl))) (@pa_cons _ _ _ _ _ (@pe_un _ _ _ _ _ _ un_neg pe_int) pa_nil (by rfl)) (by rfl))) pa_nil (by rfl)) (by rfl))) (pv 2)) pa_nil (by rfl))))
 (@pss_one _ _ _ (ps_expr (pe_bm PySem.F.plainAttrs_list PySem.F.slot_list_append PySem.F.type_list_append mt_append (pv 4) (@pa_cons _ _ _ _ _ (@pe_op _ _ _ _ _ _ _ _ op_cat (@pe_lst _ _ _ _ (@pa_cons _ _ _ _ _ (@pe_tup _ _ _ _ _ (@pa_cons _ _ _ _ _ (@pe_tup _ _ _ _ _ (@pa_cons _ _ _ _ _ pe_int (@pa_cons _ _ _ _ _ (pv 7) pa_nil (by rfl)) (by rfl))) (@pa_cons _ _ _ _ _ (@pe_un _ _ _ _ _ _ un_neg pe_int) pa_nil (by rfl)) (by rfl))) (@pa_cons _ _ _ _ _ (@pe_tup _ _ _ _ _ (@pa_cons _ _ _ _ _ (@pe_tup _ _ _ _ _ (@pa_cons _ _ _ _ _ pe_int (@pa_cons _ _ _ _ _ (pv 7) pa_nil (by rfl)) (by rfl))) (@pa_cons _ _ _ _ _ pe_int pa_nil (by rfl)) (by rfl))) pa_nil (by rfl)) (by rfl))) (pv 2)) pa_nil (by rfl))))))) pss_run),?_⟩
 have e_r:=fg.gT _ _ e_r0
 refine ⟨_,rfl,_,rfl,sl_of (tSqL e_r) (fun c n_c=>?_)⟩
 generalize hz:upd _ c _=H10
 revert H10
 refine blk ?_
 intro H10 hz
 have hw:=laid_two hz n_c fg.hp fg.eL
 have fg:Fg H H10 a L 1 [.ref l3]:=⟨hw.1,fg.gT.trans hw.2.2.1,hw.2.1,fg.am.mono hw.2.2.1,fg.ml⟩
 have e_c:=hw.2.2.2
 have k_c:All TE (hide a H) (cutV xs none (some 2)):=k_x0.cut _ _
 have ccl:=cut_2 (xs:=xs)
 clear hw hz n_c e_r
 generalize cutV xs none (some 2)=cs at e_c k_c ccl
 refine ⟨c,rfl,⟨_,tSqL e_c⟩,?_⟩
 refine for_listH (xs:=cs) (fun i σ H'=>∃(o5 o6 o7 o8:Option V) (ms:List V),σ=[some (.ref a),some (.ref r),some (.ref p),some (.int (k:Int)),some (.ref L),o5,o6,o7,o8,none,none,none,none,none]∧Fg H H' a L (1+2 * i) ms∧h2 a L H' c=some (.lst cs)) ⟨_,_,_,_,_,rfl,fg,e_c⟩ ?_ ?_ ?_
 ·rintro i σ H' _ ⟨_,_,_,_,_,_,_,e⟩
  exact tSqL e
 ·clear fg e_c
  rintro i x σ G1 N B1 R hN hR hx ⟨o5,o6,o7,o8,ms,rfl,⟨hp,gT,eL,am,ml⟩,e_c⟩
  have il:i<cs.length:=(List.getElem?_eq_some_iff.mp hx).1
  obtain ⟨c1,th,rfl,e_c1,_⟩:=k_c x (List.mem_of_getElem? hx)
  have e_c1:=gT _ _ e_c1
  have e_p:=gT _ _ e_p0
  have k_p:=k_p0.mono gT
  refine ⟨c1,_,rfl,tSqT e_c1,rfl,_,_,rfl,_,_,rfl,_,_,rfl,_,_,rfl,rfl,?_⟩
  refine sE fun C hC=>?_
  refine ⟨_,rfl,.inl ⟨rfl,_,SqL.of eL⟩,_,rfl,leN rfl,?_⟩
  skip
  intro u1 n_u1
  generalize hz:upd _ u1 _=M1
  revert M1
  refine blk ?_
  intro M1 hz
  have hw:=laid_two hz n_u1 hp eL
  have hp:=hw.1
  have eL:=hw.2.1
  have gz:=hw.2.2.1
  have e_u1:=hw.2.2.2
  clear hw hz
  have gT:=gT.trans gz
  have e_c:=gz _ _ e_c
  have e_p:=gz _ _ e_p
  have k_p:=k_p.mono gz
  have am:=am.mono gz
  refine ⟨leN rfl,?_⟩
  intro u2 n_u2
  generalize hz:upd _ u2 _=M2
  revert M2
  refine blk ?_
  intro M2 hz
  have hw:=laid_two hz n_u2 hp eL
  have hp:=hw.1
  have eL:=hw.2.1
  have gz:=hw.2.2.1
  have e_u2:=hw.2.2.2
  clear hw hz
  have gT:=gT.trans gz
  have e_c:=gz _ _ e_c
  have e_p:=gz _ _ e_p
  have k_p:=k_p.mono gz
  have am:=am.mono gz
  have e_u1:=gz _ _ e_u1
  refine ⟨_,rfl,leN rfl,?_⟩
  intro u3 n_u3
  generalize hz:upd _ u3 _=M3
  revert M3
  refine blk ?_
  intro M3 hz
  have hw:=laid_two hz n_u3 hp eL
  have hp:=hw.1
  have eL:=hw.2.1
  have gz:=hw.2.2.1
  have e_u3:=hw.2.2.2
  clear hw hz
  have gT:=gT.trans gz
  have e_c:=gz _ _ e_c
  have e_p:=gz _ _ e_p
  have k_p:=k_p.mono gz
  have am:=am.mono gz
  have e_u1:=gz _ _ e_u1
  have e_u2:=gz _ _ e_u2
  refine ⟨_,rfl,leN rfl,?_⟩
  intro u4 n_u4
  generalize hz:upd _ u4 _=M4
  revert M4
  refine blk ?_
  intro M4 hz
  have hw:=laid_two hz n_u4 hp eL
  have hp:=hw.1
  have eL:=hw.2.1
  have gz:=hw.2.2.1
  have e_u4:=hw.2.2.2
  clear hw hz
  have gT:=gT.trans gz
  have e_c:=gz _ _ e_c
  have e_p:=gz _ _ e_p
  have k_p:=k_p.mono gz
  have am:=am.mono gz
  have e_u1:=gz _ _ e_u1
  have e_u2:=gz _ _ e_u2
  have e_u3:=gz _ _ e_u3
  refine ⟨leN rfl,?_⟩
  intro l1 n_l1
  generalize hz:upd _ l1 _=M5
  revert M5
  refine blk ?_
  intro M5 hz
  have hw:=laid_two hz n_l1 hp eL
  have hp:=hw.1
  have eL:=hw.2.1
  have gz:=hw.2.2.1
  have e_l1:=hw.2.2.2
  clear hw hz
  have gT:=gT.trans gz
  have e_c:=gz _ _ e_c
  have e_p:=gz _ _ e_p
  have k_p:=k_p.mono gz
  have am:=am.mono gz
  have e_u1:=gz _ _ e_u1
  have e_u2:=gz _ _ e_u2
  have e_u3:=gz _ _ e_u3
  have e_u4:=gz _ _ e_u4
  refine ⟨_,rfl,cat_of (h2_at e_l1) (h2_at e_p) (small_le (by show 2+_≤_;omega)) ?_⟩
  intro t1 n_t1
  generalize hz:upd _ t1 _=M6
  revert M6
  refine blk ?_
  intro M6 hz
  have hw:=laid_two hz n_t1 hp eL
  have hp:=hw.1
  have eL:=hw.2.1
  have gz:=hw.2.2.1
  have e_t1:=hw.2.2.2
  clear hw hz
  have gT:=gT.trans gz
  have e_c:=gz _ _ e_c
  have e_p:=gz _ _ e_p
  have k_p:=k_p.mono gz
  have am:=am.mono gz
  have e_u1:=gz _ _ e_u1
  have e_u2:=gz _ _ e_u2
  have e_u3:=gz _ _ e_u3
  have e_u4:=gz _ _ e_u4
  have e_l1:=gz _ _ e_l1
  have ge:GE (h2 a L M6) (.ref t1):=⟨t1,rfl,_,e_t1,(All.cons ⟨u2,((0,th.num),1),rfl,u1,e_u2,e_u1⟩ (All.one ⟨u4,((0,th.num),-1),rfl,u3,e_u4,e_u3⟩)).app k_p,by rw [List.length_append];show 2+_≤_;omega⟩
  skip
  refine ⟨L,ms,_,rfl,rfl,eL,small_lt (by omega),?_⟩
  generalize hz:upd _ L _=M7
  revert M7
  refine blk ?_
  intro M7 hz
  have hw:=put_twoE hz hp LA
  have hp:=hw.1
  have eL:=hw.2.1
  have gz:=hw.2.2
  clear hw hz
  have am:=(am.snoc ge).mono gz
  clear ge
  have ml:(ms++[V.ref t1]).length≤1+2*i+1:=by rw [List.length_append];exact Nat.add_le_add_right ml 1
  generalize ms++[V.ref t1]=ms at eL am ml
  have gT:=gT.trans gz
  have e_c:=gz _ _ e_c
  have e_p:=gz _ _ e_p
  have k_p:=k_p.mono gz
  refine hC _ _ (oE fun C hC=>?_)
  refine ⟨_,rfl,.inl ⟨rfl,_,SqL.of eL⟩,_,rfl,leN rfl,?_⟩
  skip
  intro u1 n_u1
  generalize hz:upd _ u1 _=M8
  revert M8
  refine blk ?_
  intro M8 hz
  have hw:=laid_two hz n_u1 hp eL
  have hp:=hw.1
  have eL:=hw.2.1
  have gz:=hw.2.2.1
  have e_u1:=hw.2.2.2
  clear hw hz
  have gT:=gT.trans gz
  have e_c:=gz _ _ e_c
  have e_p:=gz _ _ e_p
  have k_p:=k_p.mono gz
  have am:=am.mono gz
  refine ⟨_,rfl,leN rfl,?_⟩
  intro u2 n_u2
  generalize hz:upd _ u2 _=M9
  revert M9
  refine blk ?_
  intro M9 hz
  have hw:=laid_two hz n_u2 hp eL
  have hp:=hw.1
  have eL:=hw.2.1
  have gz:=hw.2.2.1
  have e_u2:=hw.2.2.2
  clear hw hz
  have gT:=gT.trans gz
  have e_c:=gz _ _ e_c
  have e_p:=gz _ _ e_p
  have k_p:=k_p.mono gz
  have am:=am.mono gz
  have e_u1:=gz _ _ e_u1
  refine ⟨_,rfl,leN rfl,?_⟩
  intro u3 n_u3
  generalize hz:upd _ u3 _=M10
  revert M10
  refine blk ?_
  intro M10 hz
  have hw:=laid_two hz n_u3 hp eL
  have hp:=hw.1
  have eL:=hw.2.1
  have gz:=hw.2.2.1
  have e_u3:=hw.2.2.2
  clear hw hz
  have gT:=gT.trans gz
  have e_c:=gz _ _ e_c
  have e_p:=gz _ _ e_p
  have k_p:=k_p.mono gz
  have am:=am.mono gz
  have e_u1:=gz _ _ e_u1
  have e_u2:=gz _ _ e_u2
  refine ⟨leN rfl,?_⟩
  intro u4 n_u4
  generalize hz:upd _ u4 _=M11
  revert M11
  refine blk ?_
  intro M11 hz
  have hw:=laid_two hz n_u4 hp eL
  have hp:=hw.1
  have eL:=hw.2.1
  have gz:=hw.2.2.1
  have e_u4:=hw.2.2.2
  clear hw hz
  have gT:=gT.trans gz
  have e_c:=gz _ _ e_c
  have e_p:=gz _ _ e_p
  have k_p:=k_p.mono gz
  have am:=am.mono gz
  have e_u1:=gz _ _ e_u1
  have e_u2:=gz _ _ e_u2
  have e_u3:=gz _ _ e_u3
  refine ⟨leN rfl,?_⟩
  intro l1 n_l1
  generalize hz:upd _ l1 _=M12
  revert M12
  refine blk ?_
  intro M12 hz
  have hw:=laid_two hz n_l1 hp eL
  have hp:=hw.1
  have eL:=hw.2.1
  have gz:=hw.2.2.1
  have e_l1:=hw.2.2.2
  clear hw hz
  have gT:=gT.trans gz
  have e_c:=gz _ _ e_c
  have e_p:=gz _ _ e_p
  have k_p:=k_p.mono gz
  have am:=am.mono gz
  have e_u1:=gz _ _ e_u1
  have e_u2:=gz _ _ e_u2
  have e_u3:=gz _ _ e_u3
  have e_u4:=gz _ _ e_u4
  refine ⟨_,rfl,cat_of (h2_at e_l1) (h2_at e_p) (small_le (by show 2+_≤_;omega)) ?_⟩
  intro t1 n_t1
  generalize hz:upd _ t1 _=M13
  revert M13
  refine blk ?_
  intro M13 hz
  have hw:=laid_two hz n_t1 hp eL
  have hp:=hw.1
  have eL:=hw.2.1
  have gz:=hw.2.2.1
  have e_t1:=hw.2.2.2
  clear hw hz
  have gT:=gT.trans gz
  have e_c:=gz _ _ e_c
  have e_p:=gz _ _ e_p
  have k_p:=k_p.mono gz
  have am:=am.mono gz
  have e_u1:=gz _ _ e_u1
  have e_u2:=gz _ _ e_u2
  have e_u3:=gz _ _ e_u3
  have e_u4:=gz _ _ e_u4
  have e_l1:=gz _ _ e_l1
  have ge:GE (h2 a L M13) (.ref t1):=⟨t1,rfl,_,e_t1,(All.cons ⟨u2,((0,th.num),-1),rfl,u1,e_u2,e_u1⟩ (All.one ⟨u4,((0,th.num),1),rfl,u3,e_u4,e_u3⟩)).app k_p,by rw [List.length_append];show 2+_≤_;omega⟩
  skip
  refine ⟨L,ms,_,rfl,rfl,eL,small_lt (by omega),?_⟩
  generalize hz:upd _ L _=M14
  revert M14
  refine blk ?_
  intro M14 hz
  have hw:=put_twoE hz hp LA
  have hp:=hw.1
  have eL:=hw.2.1
  have gz:=hw.2.2
  clear hw hz
  have am:=(am.snoc ge).mono gz
  clear ge
  have ml:(ms++[V.ref t1]).length≤1+2*i+1+1:=by rw [List.length_append];exact Nat.add_le_add_right ml 1
  generalize ms++[V.ref t1]=ms at eL am ml
  have gT:=gT.trans gz
  have e_c:=gz _ _ e_c
  exact hC _ _ (hN _ _ ⟨_,_,_,_,ms,rfl,⟨hp,gT,eL,am,by omega⟩,e_c⟩)
 clear fg e_c k_c
 rintro σ G0 ⟨o5,o6,o7,o8,ms,rfl,fg,_⟩
 have fg:Fg H G0 a L 12 ms:=⟨fg.hp,fg.gT,fg.eL,fg.am,by have:=fg.ml;omega⟩
 refine ⟨_,(@pss_cons _ _ _ _ _ (ps_for PassesOwn.never rfl (pi_range1 rfl z_range (@pa_cons _ _ _ _ _ (pe_callB call_len_seq rfl z_len PySem.boot_len (@pa_cons _ _ _ _ _ (pv 2) pa_nil (by rfl))) pa_nil (by rfl))) (pg_name (i:=9) sc_l_forged.nd rfl (Or.inl rfl))
 (@pss_one _ _ _ (ps_for PassesOwn.never rfl (pi_range2 rfl z_range (@pa_cons _ _ _ _ _ (@pe_op _ _ _ _ _ _ _ _ op_add (pv 9) pe_int) (@pa_cons _ _ _ _ _ (pe_callB call_len_seq rfl z_len PySem.boot_len (@pa_cons _ _ _ _ _ (pv 2) pa_nil (by rfl))) pa_nil (by rfl)) (by rfl))) (pg_name (i:=10) sc_l_forged.nd rfl (Or.inl rfl))
 (@pss_cons _ _ _ _ _ (ps_asg (@pe_ix _ _ _ _ _ _ _ ix_list (pv 2) (pv 9) (fun _ _=>rfl)) (pg_tup rfl (pgs_cons (pg_tup rfl (pgs_cons (pg_name (i:=11) sc_l_forged.nd rfl (Or.inl rfl)) (pgs_cons (pg_name (i:=12) sc_l_forged.nd rfl (Or.inl rfl)) pgs_nil))) (pgs_cons (pg_name (i:=8) sc_l_forged.nd rfl (Or.inl rfl)) pgs_nil))))
 (@pss_one _ _ _ (@ps_if _ _ _ _ _ _ _ _ (PW.pt (@pw_and _ _ _ _ _ _ _ (@pt_cmpR _ _ _ _ _ _ _ _ op_lt (pe_callB call_len_seq rfl z_len PySem.boot_len (@pa_cons _ _ _ _ _ (pv 4) pa_nil (by rfl))) pe_int (nomark _)) (@pw_and1 _ _ _ _ (@pt_cmpR _ _ _ _ _ _ _ _ (op_eqD hr.units) (@pe_ix _ _ _ _ _ _ _ ix_tup (@pe_ix _ _ _ _ _ _ _ ix_list (pv 2) (pv 10) (fun _ _=>rfl)) pe_int (fun _ _=>rfl)) (@pe_tup _ _ _ _ _ (@pa_cons _ _ _ _ _ (@pe_op _ _ _ _ _ _ _ _ op_add (pv 11) pe_int) (@pa_cons _ _ _ _ _ (@pe_op _ _ _ _ _ _ _ _ op_fdiv (pv 12) pe_int) pa_nil (by rfl)) (by rfl))) (nomark _))))) (@pss_cons _ _ _ _ _ (@ps_set _ _ 13 _ _ _ _ sc_l_forged.nd rfl (Or.inl rfl) (@pe_op _ _ _ _ _ _ _ _ op_cat (pe_slice sl_list (pv 2) (po_some (pv 9)) (po_some (pv 10))) (pe_slice sl_list (pv 2) (po_some (@pe_op _ _ _ _ _ _ _ _ op_add (pv 10) pe_int)) po_none)) (by rfl) (by first | exact .inl rfl | exact .inr rfl))
 (@pss_one _ _ _ (ps_expr (pe_bm PySem.F.plainAttrs_list PySem.F.slot_list_append PySem.F.type_list_append mt_append (pv 4) (@pa_cons _ _ _ _ _ (@pe_op _ _ _ _ _ _ _ _ op_cat (@pe_op _ _ _ _ _ _ _ _ op_cat (pe_slice sl_list (pv 2) po_none (po_some (pv 9))) (@pe_lst _ _ _ _ (@pa_cons _ _ _ _ _ (@pe_ix _ _ _ _ _ _ _ ix_list (pv 2) (pv 10) (fun _ _=>rfl)) pa_nil (by rfl)))) (pv 13)) pa_nil (by rfl)))))) pss_nil)))))) pss_run),?_⟩
 refine ⟨_,rfl,p,ys,rfl,.inl (tSqL (fg.gT _ _ e_p0)),_,rfl,by omega,by omega,?_⟩
 refine for_rangeH (lo:=0) (n:=(ys.length:Int).toNat) (fun i σ H'=>∃(o8 o9 o10 o11 o12 o13:Option V) (ms:List V),σ=[some (.ref a),some (.ref r),some (.ref p),some (.int (k:Int)),some (.ref L),o5,o6,o7,o8,o9,o10,o11,o12,o13]∧Fg H H' a L 12 ms) ⟨_,_,_,_,_,_,_,rfl,fg⟩ ?_ ?_
 ·clear fg
  rintro i σ G1 N B1 R hN hR hi ⟨o8,o9,o10,o11,o12,o13,ms,rfl,fg⟩
  have il:i<ys.length:=by omega
  rw [Int.zero_add]
  refine ⟨_,rfl,_,_,rfl,rfl,_,rfl,p,ys,rfl,.inl (tSqL (fg.gT _ _ e_p0)),_,_,rfl,⟨by omega,by omega,by omega,by omega⟩,?_⟩
  refine for_rangeH (lo:=(i:Int)+1) (n:=((ys.length:Int) - ((i:Int)+1)).toNat) (fun j σ H'=>∃(o8 o10 o11 o12 o13:Option V) (ms:List V),σ=[some (.ref a),some (.ref r),some (.ref p),some (.int (k:Int)),some (.ref L),o5,o6,o7,o8,some (.int (i:Int)),o10,o11,o12,o13]∧Fg H H' a L 12 ms) ⟨_,_,_,_,_,_,rfl,fg⟩ ?_ ?_
  ·clear fg hN
   rintro j σ G2 N2 B2 R2 hN hR hj ⟨o8,o10,o11,o12,o13,ms,rfl,fg⟩
   have eo:(i:Int)+1+(j:Int)=((i+1+j:Nat):Int):=by omega
   rw [eo]
   have io:i<i+1+j:=by omega
   have ol:i+1+j<ys.length:=by omega
   generalize i+1+j=o at io ol
   have fg0:=fg
   obtain ⟨hp,gT,eL,am,ml⟩:=fg
   have e_p:=gT _ _ e_p0
   have k_p:=k_p0.mono gT
   obtain ⟨v,hv⟩:∃v,ys[i]?=some v:=⟨ys[i],List.getElem?_eq_getElem il⟩
   obtain ⟨u,hu⟩:∃u,ys[o]?=some u:=⟨ys[o],List.getElem?_eq_getElem ol⟩
   obtain ⟨c1,⟨⟨hh,ii⟩,nn⟩,rfl,b1,e_c1,e_b1⟩:=k_p v (List.mem_of_getElem? hv)
   have kp_u:=k_p u (List.mem_of_getElem? hu)
   obtain ⟨c2,⟨⟨h3,i3⟩,n3⟩,rfl,b2,e_c2,e_b2⟩:=k_p u (List.mem_of_getElem? hu)
   have e_c1:h2 a L G2 c1=some (.tup [.ref b1,.int nn]):=e_c1
   have e_b1:h2 a L G2 b1=some (.tup [.int hh,.int ii]):=e_b1
   have e_c2:h2 a L G2 c2=some (.tup [.ref b2,.int n3]):=e_c2
   have e_b2:h2 a L G2 b2=some (.tup [.int h3,.int i3]):=e_b2
   refine ⟨_,rfl,_,rfl,p,ys,_,_,rfl,rfl,tSqL e_p,atI_nat hv,c1,_,rfl,tSqT e_c1,rfl,_,_,rfl,b1,_,rfl,tSqT e_b1,rfl,_,_,rfl,_,_,rfl,rfl,_,_,rfl,rfl,?_⟩
   refine ⟨_,rfl,L,_,rfl,.inl (SqL.of eL),_,_,rfl,rfl,_,rfl,ite2 (fun m12=>?_) (fun _=>iteF (hN _ _ ⟨_,_,_,_,_,ms,rfl,fg0⟩))⟩
   have m12:(ms.length:Int)<12:=of_decide_eq_true m12
   clear fg0
   refine ⟨_,rfl,_,rfl,p,ys,_,_,rfl,rfl,tSqL e_p,atI_nat hu,c2,_,0,_,rfl,rfl,tSqT e_c2,rfl,_,rfl,_,_,rfl,rfl,_,rfl,_,_,rfl,rfl,⟨by decide,by decide⟩,leN rfl,?_⟩
   skip
   intro z1 n_z1
   generalize hz:upd _ z1 _=M1
   revert M1
   refine blk ?_
   intro M1 hz
   have hw:=laid_two hz n_z1 hp eL
   have hp:=hw.1
   have eL:=hw.2.1
   have gz:=hw.2.2.1
   have e_z1:=hw.2.2.2
   clear hw hz
   have gT:=gT.trans gz
   have e_p:=gz _ _ e_p
   have k_p:=k_p.mono gz
   have am:=am.mono gz
   have e_b2:=gz _ _ e_b2
   refine ⟨_,_,.tup (h2_at e_b2) (.cons (.int _) (.cons (.int _) .nil)),.tup (h2_at e_z1) (.cons (.int _) (.cons (.int _) .nil)),shaped_of (kt_lay _ _) (by decide),shaped_of (kt_lay _ _) (by decide),_,rfl,ite2 (fun _=>sA fun C hC=>?_) (fun _=>hN _ _ ⟨_,_,_,_,_,ms,rfl,⟨hp,gT,eL,am,ml⟩⟩)⟩
   have cl:=fun lo hi=>cut_len ys lo hi
   have q1:=cut_mid (xs:=ys) (Nat.le_of_lt io) (Nat.le_of_lt ol)
   refine ⟨_,rfl,_,rfl,_,rfl,_,rfl,_,rfl,sl_of (tSqL e_p) ?_⟩
   skip
   intro s1 n_s1
   generalize hz:upd _ s1 _=M2
   revert M2
   refine blk ?_
   intro M2 hz
   have hw:=laid_two hz n_s1 hp eL
   have hp:=hw.1
   have eL:=hw.2.1
   have gz:=hw.2.2.1
   have e_s1:=hw.2.2.2
   clear hw hz
   have gT:=gT.trans gz
   have e_p:=gz _ _ e_p
   have k_p:=k_p.mono gz
   have am:=am.mono gz
   refine ⟨_,rfl,_,rfl,_,_,rfl,rfl,_,rfl,slN_of (tSqL e_p) ?_⟩
   intro s2 n_s2
   generalize hz:upd _ s2 _=M3
   revert M3
   refine blk ?_
   intro M3 hz
   have hw:=laid_two hz n_s2 hp eL
   have hp:=hw.1
   have eL:=hw.2.1
   have gz:=hw.2.2.1
   have e_s2:=hw.2.2.2
   clear hw hz
   have gT:=gT.trans gz
   have e_p:=gz _ _ e_p
   have k_p:=k_p.mono gz
   have am:=am.mono gz
   have e_s1:=gz _ _ e_s1
   refine cat_of (h2_at e_s1) (h2_at e_s2) (small_le (Nat.le_trans (Nat.add_le_add (cl _ _) (cl _ _)) (by omega))) ?_
   skip
   intro lf n_lf
   generalize hz:upd _ lf _=M4
   revert M4
   refine blk ?_
   intro M4 hz
   have hw:=laid_two hz n_lf hp eL
   have hp:=hw.1
   have eL:=hw.2.1
   have gz:=hw.2.2.1
   have e_lf:=hw.2.2.2
   clear hw hz
   have gT:=gT.trans gz
   have e_p:=gz _ _ e_p
   have k_p:=k_p.mono gz
   have am:=am.mono gz
   refine hC _ _ (oE fun C hC=>?_)
   refine ⟨_,rfl,.inl ⟨rfl,_,SqL.of eL⟩,_,rfl,_,rfl,_,rfl,sl_of (tSqL e_p) ?_⟩
   intro s3 n_s3
   generalize hz:upd _ s3 _=M5
   revert M5
   refine blk ?_
   intro M5 hz
   have hw:=laid_two hz n_s3 hp eL
   have hp:=hw.1
   have eL:=hw.2.1
   have gz:=hw.2.2.1
   have e_s3:=hw.2.2.2
   clear hw hz
   have gT:=gT.trans gz
   have e_p:=gz _ _ e_p
   have k_p:=k_p.mono gz
   have am:=am.mono gz
   have e_lf:=gz _ _ e_lf
   refine ⟨_,rfl,_,rfl,p,ys,_,_,rfl,rfl,tSqL e_p,atI_nat hu,leN rfl,?_⟩
   intro s4 n_s4
   generalize hz:upd _ s4 _=M6
   revert M6
   refine blk ?_
   intro M6 hz
   have hw:=laid_two hz n_s4 hp eL
   have hp:=hw.1
   have eL:=hw.2.1
   have gz:=hw.2.2.1
   have e_s4:=hw.2.2.2
   clear hw hz
   have gT:=gT.trans gz
   have e_p:=gz _ _ e_p
   have k_p:=k_p.mono gz
   have am:=am.mono gz
   have e_lf:=gz _ _ e_lf
   have e_s3:=gz _ _ e_s3
   refine cat_of (h2_at e_s3) (h2_at e_s4) (small_le (Nat.le_trans (Nat.add_le_add_right (cl _ _) _) (by show _+1≤_;omega))) ?_
   intro s5 n_s5
   generalize hz:upd _ s5 _=M7
   revert M7
   refine blk ?_
   intro M7 hz
   have hw:=laid_two hz n_s5 hp eL
   have hp:=hw.1
   have eL:=hw.2.1
   have gz:=hw.2.2.1
   have e_s5:=hw.2.2.2
   clear hw hz
   have gT:=gT.trans gz
   have e_p:=gz _ _ e_p
   have k_p:=k_p.mono gz
   have am:=am.mono gz
   have e_lf:=gz _ _ e_lf
   have e_s3:=gz _ _ e_s3
   have e_s4:=gz _ _ e_s4
   have l5:(cutV ys none (some (i:Int))++[V.ref c2]).length=i+1:=by
    rw [cut_to,List.length_append,List.length_take]
    show _+1=_
    omega
   have l6:(cutV ys (some (i:Int)) (some (o:Int))++cutV ys (some ((o:Int)+1)) none).length≤ys.length - i:=by
    rw [List.length_append,show ((o:Int)+1)=((o+1:Nat):Int) by omega,cut_from,List.length_drop]
    omega
   refine ⟨_,rfl,cat_of (h2_at e_s5) (h2_at e_lf) (small_le (by rw [l5];exact Nat.le_trans (Nat.add_le_add_left l6 _) (by omega))) ?_⟩
   intro t1 n_t1
   generalize hz:upd _ t1 _=M8
   revert M8
   refine blk ?_
   intro M8 hz
   have hw:=laid_two hz n_t1 hp eL
   have hp:=hw.1
   have eL:=hw.2.1
   have gz:=hw.2.2.1
   have e_t1:=hw.2.2.2
   clear hw hz
   have gT:=gT.trans gz
   have e_p:=gz _ _ e_p
   have k_p:=k_p.mono gz
   have am:=am.mono gz
   have e_lf:=gz _ _ e_lf
   have e_s3:=gz _ _ e_s3
   have e_s4:=gz _ _ e_s4
   have e_s5:=gz _ _ e_s5
   have ge:GE (h2 a L M8) (.ref t1):=⟨t1,rfl,_,e_t1,((k_p.cut _ _).app (All.one (k_p _ (List.mem_of_getElem? hu)))).app ((k_p.cut _ _).app (k_p.cut _ _)),by rw [List.length_append,l5];exact Nat.le_trans (Nat.add_le_add_left l6 _) (by omega)⟩
   have ml:ms.length≤11:=by omega
   skip
   refine ⟨L,ms,_,rfl,rfl,eL,small_lt (by omega),?_⟩
   generalize hz:upd _ L _=M9
   revert M9
   refine blk ?_
   intro M9 hz
   have hw:=put_twoE hz hp LA
   have hp:=hw.1
   have eL:=hw.2.1
   have gz:=hw.2.2
   clear hw hz
   have am:=(am.snoc ge).mono gz
   clear ge
   have ml:(ms++[V.ref t1]).length≤12:=by rw [List.length_append];exact Nat.add_le_add_right ml 1
   generalize ms++[V.ref t1]=ms at eL am ml
   have gT:=gT.trans gz
   exact hC _ _ (hN _ _ ⟨_,_,_,_,_,ms,rfl,⟨hp,gT,eL,am,ml⟩⟩)
  ·rintro σ G2 ⟨o8,o10,o11,o12,o13,ms,rfl,fg⟩
   exact hN _ _ ⟨_,_,_,_,_,_,ms,rfl,fg⟩
 ·rintro σ G1 ⟨o8,o9,o10,o11,o12,o13,ms,rfl,fg⟩
  refine ⟨_,(@pss_one _ _ _ (@ps_ret _ _ _ _ (pv 4))),_,rfl,?_⟩
  exact hq L _ ms (by rw [hide_ne LA];exact fg.eL) (fg.am.mono h2_sub) fg.ml fg.hp (fg.gT.trans h2_sub)
end
end K33
namespace K33
open PySem L2 Ld
noncomputable def spRoom:Sp:=fun vs H Q _=>∃(a:Addr),vs=[.ref a]∧PenAt H a∧∀(m:Int) (H':Hp),1≤m→m≤20→PenAt H' a→Grw a H H'→Q (.int m) H'
noncomputable def spLaw (K:PySem.W.Frag):Sp:=fun vs H Q _=>∃(a:Addr) (ns:List Int),vs=[.ref a]∧SqL K H a (ns.map V.int)∧ns.length≤63∧∀H',Q (.bl true) H'
theorem fresh_hide {p:Addr} {H0 H1:Hp} (n:H0 p=none) (s:Same H0 H1):Same H0 (hide p H1):=fun b u e=>by rw [hide_ne (ne_of_none e n)];exact s b u e
theorem sqL_same {K:PySem.W.Frag} {H H':Hp} {a:Addr} {xs:List V} (s:Same H H') (h:SqL K H a xs):SqL K H' a xs:=by
 rcases h with h | h
 ·rcases h with h | ⟨o,h⟩
  ·exact .inl (.inl (s _ _ h))
  ·exact .inl (.inr ⟨o,s _ _ h⟩)
 ·exact .inr h
theorem all_ok:∀{t:Tr},t.Ok→∀x∈t.all,x.Ok
 | .leaf _,h,x,hx=>h x hx
 | .node _ _,h,x,hx=>(List.mem_append.mp hx).elim (all_ok h.1 x) (all_ok h.2 x)
theorem many_le:∀{ts:List Th},(∀t∈ts,t.many≤1000000000)→manyS ts≤1000000000 * ts.length
 | [],_=>Int.le_refl _
 | t::ts,h=>by
  have a:=many_le fun x hx=>h x (.tail _ hx)
  have b:=h t (.head _)
  unfold manyS at a ⊢
  rw [List.map_cons,List.sum_cons,List.length_cons]
  omega
theorem pp_nil (ps:Sps):PyData.eqv (ppD ps) (.list [])=ps.isEmpty:=by
 unfold ppD
 rw [eqv_nil]
 cases ps <;> rfl
structure LF (K:PySem.W.Frag) (s0 r q p:Addr) (ns:List Int) (xs ys:List V) (room deep total:Int) (qs:Sps) (H:Hp):Prop where
 scr:SqL K H s0 (ns.map V.int)
 e_r:H r=some (.lst xs)
 k_x:All TE H xs
 lad:LadAt H q room deep total qs
 e_p:H p=some (.lst ys)
 k_p:All P0 H ys
section
variable {K:PySem.W.Frag} {s0 r q p:Addr} {ns:List Int} {xs ys:List V} {room deep total:Int} {qs:Sps} {H H':Hp}
theorem LF.mono (h:LF K s0 r q p ns xs ys room deep total qs H) (g:Same H H'):LF K s0 r q p ns xs ys room deep total qs H':=
 ⟨sqL_same g h.scr,g _ _ h.e_r,h.k_x.mono g,h.lad.mono g,g _ _ h.e_p,h.k_p.mono g⟩
theorem LF.sg (h:LF K s0 r q p ns xs ys room deep total qs H) (l:xs.length≤100):SG 200 H r:=⟨xs,h.e_r,h.k_x,by omega⟩
theorem LF.lg (h:LF K s0 r q p ns xs ys room deep total qs H) (n:(qs.map (·.1)).Nodup) (l:qs.length≤40):LG deep H q:=⟨room,total,qs,h.lad,n,by omega⟩
theorem LF.pg (h:LF K s0 r q p ns xs ys room deep total qs H) (l:ys.length≤600):PG 700 H p:=⟨ys,h.e_p,h.k_p.pe,by omega⟩
end
section
variable {P:Program} {w:World} {K:PySem.W.Frag} {mg:Str→Option Value} {base:Heap} {f:Addr} {fd:FuncData}
theorem ok_room (h_l_draw:Has P w K mg base "_law_draw" 1 ["_law_pen_here","_law_size"] spDraw) (F:Fun K "_law_room" "_law_room" s_l_room f fd):FnOk P w K mg base CX0 2 f fd ["_law_pen_here"] spRoom:=by
 refine F.ok sc_l_room (fun vs H Q E h=>?_) (fun cdv A outer s H vs Q E hr h=>?_)
 ·obtain ⟨a,rfl,_⟩:=h
  rfl
 obtain ⟨a,rfl,hp,hq⟩:=h
 refine ⟨_,(@pss_one _ _ _ (@ps_ret _ _ _ _ (@pe_ix _ _ _ _ _ _ _ ix_list (@pe_lst _ _ _ _ (@pa_cons _ _ _ _ _ pe_int (@pa_cons _ _ _ _ _ pe_int (@pa_cons _ _ _ _ _ pe_int (@pa_cons _ _ _ _ _ (@pe_op _ _ _ _ _ _ _ _ op_add pe_int (pe_callH h_l_draw hr (@pa_cons _ _ _ _ _ (pv 0) (@pa_cons _ _ _ _ _ pe_int pa_nil (by rfl)) (by rfl)))) pa_nil (by rfl)) (by rfl)) (by rfl)) (by rfl))) (pe_callH h_l_draw hr (@pa_cons _ _ _ _ _ (pv 0) (@pa_cons _ _ _ _ _ pe_int pa_nil (by rfl)) (by rfl))) (fun _ _=>rfl)))),?_⟩
 refine ⟨_,rfl,a,20,rfl,hp,posI rfl,ltI rfl,fun d1 H1 x0 x1 hp1 g1=>⟨_,_,rfl,rfl,?_⟩⟩
 have x1:d1<20:=x1
 refine ⟨leN rfl,fun p hn=>⟨_,rfl,a,4,rfl,hp1.laid hn,posI rfl,ltI rfl,fun d2 H2 y0 y1 hp2 g2=>?_⟩⟩
 have hpa:=hp1.ne hn
 have e2:H2 p=some (.lst [.int 1,.int 2,.int 3,.int (1+d1)]):=grw_get g2 hpa upd_same
 obtain ⟨v,hv,hm⟩:=atI_in (xs:=[V.int 1,.int 2,.int 3,.int (1+d1)]) y0 y1
 refine ⟨p,_,_,v,rfl,rfl,SqL.of e2,hv,?_⟩
 have gg:=g1.trans ((grw_laid hn).trans g2)
 simp only [List.mem_cons,List.not_mem_nil,or_false] at hm
 rcases hm with rfl | rfl | rfl | rfl
 ·exact hq _ _ (by decide) (by decide) hp2 gg
 ·exact hq _ _ (by decide) (by decide) hp2 gg
 ·exact hq _ _ (by decide) (by decide) hp2 gg
 ·exact hq _ _ (by omega) (by omega) hp2 gg
theorem ok_law (h_l_pen:Has P w K mg base "_law_pen" 1 ["_law_script","_law_k"] (spPen K)) (h_l_draw:Has P w K mg base "_law_draw" 1 ["_law_pen_here","_law_size"] spDraw) (h_l_room:Has P w K mg base "_law_room" 2 ["_law_pen_here"] spRoom)
  (h_l_tree:Has P w K mg base "_law_tree" 9 ["_law_pen_here","_law_marks","_law_deep","_law_most","_law_parts"] (spTree 5)) (h_l_stream_of:Has P w K mg base "_law_stream_of" 5 ["_law_tree_here"] (spLSO 5)) (h_l_laddered:Has P w K mg base "_law_laddered" 7 ["_law_room_here","_law_deep","_law_tree_here"] (spLad33 5))
  (h_l_due:Has P w K mg base "_law_due" 1 ["_law_stream_here","_law_ladder","_law_paper"] spDue33) (h_l_said:Has P w K mg base "_law_said" 6 ["_law_stream_here","_law_ladder","_law_paper"] spSaid33)
  (h_l_bent_paper:Has P w K mg base "_law_bent_paper" 2 ["_law_pen_here","_law_deep","_law_paper"] spBP33) (h_l_bent_ladder:Has P w K mg base "_law_bent_ladder" 2 ["_law_pen_here","_law_ladder"] spBL33) (h_l_bent_stream:Has P w K mg base "_law_bent_stream" 2 ["_law_pen_here","_law_deep","_law_stream_here"] spBS33)
  (h_l_forged:Has P w K mg base "_law_forged" 2 ["_law_pen_here","_law_stream_here","_law_paper"] spForg33)
  (z_range:mg "range"=none) (z_int:mg "int"=none) (F:Fun K "law" "law" s_law f fd):FnOk P w K mg base CX0 10 f fd ["_law_script"] (spLaw K):=by
 refine F.ok sc_law (fun vs H Q E h=>?_) (fun cdv A outer s H vs Q E hr h=>?_)
 ·obtain ⟨a,ns,rfl,_⟩:=h
  rfl
 obtain ⟨s0,ns,rfl,hS,_,hq⟩:=h
 refine ⟨_,(@pss_cons _ _ _ _ _ (@ps_set _ _ 1 _ _ _ _ sc_law.nd rfl (Or.inl rfl) (pe_callH h_l_pen hr (@pa_cons _ _ _ _ _ (pv 0) (@pa_cons _ _ _ _ _ pe_int pa_nil (by rfl)) (by rfl))) (by rfl) (by first | exact .inl rfl | exact .inr rfl)) pss_run),?_⟩
 refine ⟨_,rfl,s0,ns,0,rfl,hS,by omega,fun a H1 na s1 hp=>?_⟩
 have gg:Grw a H1 H1:=Same.refl _
 refine ⟨_,(@pss_cons _ _ _ _ _ (@ps_set _ _ 2 _ _ _ _ sc_law.nd rfl (Or.inl rfl) (@pe_ix _ _ _ _ _ _ _ ix_list (@pe_lst _ _ _ _ (@pa_cons _ _ _ _ _ (@pe_op _ _ _ _ _ _ _ _ op_add pe_int (pe_callH h_l_draw hr (@pa_cons _ _ _ _ _ (pv 1) (@pa_cons _ _ _ _ _ pe_int pa_nil (by rfl)) (by rfl)))) (@pa_cons _ _ _ _ _ pe_int pa_nil (by rfl)) (by rfl))) (pe_callTy call_int1 rfl z_int PyProof.Rows.boot_int (@pa_cons _ _ _ _ _ (@pe_cmpR _ _ _ _ _ _ _ _ op_eq (pe_callH h_l_draw hr (@pa_cons _ _ _ _ _ (pv 1) (@pa_cons _ _ _ _ _ pe_int pa_nil (by rfl)) (by rfl))) pe_int (nomark _)) pa_nil (by rfl))) (fun _ _=>rfl)) (by rfl) (by first | exact .inl rfl | exact .inr rfl)) pss_run),?_⟩
 refine ⟨_,rfl,a,5,rfl,hp,posI rfl,ltI rfl,fun x1 H2 x10 x11 hp g2=>⟨_,_,rfl,rfl,leN rfl,?_⟩⟩
 have gg:=gg.trans g2
 intro dl n_dl
 generalize hz:upd _ dl _=H3
 revert H3
 refine blk ?_
 intro H3 hz
 have hw:=laid_pen hz n_dl hp
 have hp:=hw.1
 have gz:=hw.2.1
 have ne_dl:=hw.2.2.1
 have e_dl:=hw.2.2.2
 clear hw hz
 have gg:=gg.trans gz
 refine ⟨_,rfl,a,8,rfl,hp,posI rfl,ltI rfl,fun x2 H4 x20 x21 hp g4=>⟨rfl,.inr ⟨_,rfl,?_⟩⟩⟩
 have gg:=gg.trans g4
 have e_dl:=g4 _ _ e_dl
 have x11:x1<5:=x11
 obtain ⟨deep,hdp,d0,d1⟩:∃deep:Int,atI [V.int (1+x1),.int 10] (if decide (V.int x2=V.int 3)=true then (1:Int) else 0)=some (.int deep)∧1≤deep∧deep≤10:=by
  by_cases q:decide (V.int x2=V.int 3)=true
  ·exact ⟨10,by rw [if_pos q];rfl,by decide,by decide⟩
  ·exact ⟨1+x1,by rw [if_neg q];rfl,by omega,by omega⟩
 refine ⟨dl,_,_,_,rfl,rfl,hSqL e_dl,hdp,?_⟩
 refine ⟨_,(@pss_cons _ _ _ _ _ (@ps_set _ _ 3 _ _ _ _ sc_law.nd rfl (Or.inl rfl) (pe_callH h_l_room hr (@pa_cons _ _ _ _ _ (pv 1) pa_nil (by rfl))) (by rfl) (by first | exact .inl rfl | exact .inr rfl)) pss_run),?_⟩
 refine ⟨_,rfl,a,rfl,hp,fun room H5 r0 r1 hp g5=>?_⟩
 have gg:=gg.trans g5
 have sm5:Same H H5:=fresh_grw na s1 gg
 have hS:=sqL_same sm5 hS
 clear e_dl hdp
 refine ⟨_,(@pss_cons _ _ _ _ _ (@ps_set _ _ 4 _ _ _ _ sc_law.nd rfl (Or.inl rfl) (pe_callH h_l_tree hr (@pa_cons _ _ _ _ _ (pe_callH h_l_pen hr (@pa_cons _ _ _ _ _ (pv 0) (@pa_cons _ _ _ _ _ pe_int pa_nil (by rfl)) (by rfl))) (@pa_cons _ _ _ _ _ pe_int (@pa_cons _ _ _ _ _ (pv 2) (@pa_cons _ _ _ _ _ pe_int (@pa_cons _ _ _ _ _ pe_int pa_nil (by rfl)) (by rfl)) (by rfl)) (by rfl)) (by rfl))) (by rfl) (by first | exact .inl rfl | exact .inr rfl)) pss_run),?_⟩
 refine ⟨_,rfl,s0,ns,1,rfl,hS,by omega,fun b H6 nb s6 hpb=>?_⟩
 refine ⟨_,rfl,b,4,deep,7,4,rfl,hpb,by decide,by decide,by omega,by omega,by decide,by decide,by decide,by decide,by decide,fun v t H7 tok tkk tsz tht tal dv _ g7=>?_⟩
 have s7:Same H5 H7:=fresh_grw nb s6 g7
 have dv:=dv.mono hide_sub
 have ta:=all_ok tok
 have tl:t.all.length≤28:=by omega
 have tk:∀x∈t.all,ThL deep x:=fun x hx=>⟨(ta x hx).num,tkk x hx,(ta x hx).many⟩
 have to:∀x∈t.all,ThOk x:=fun x hx=>⟨words_ok _ (ta x hx).word,(ta x hx).num,(ta x hx).many⟩
 refine ⟨_,(@pss_cons _ _ _ _ _ (@ps_set _ _ 5 _ _ _ _ sc_law.nd rfl (Or.inl rfl) (pe_callH h_l_stream_of hr (@pa_cons _ _ _ _ _ (pv 4) pa_nil (by rfl))) (by rfl) (by first | exact .inl rfl | exact .inr rfl)) pss_run),?_⟩
 refine ⟨_,rfl,v,t,rfl,dv,by omega,by omega,fun r H8 s8 _ dr=>?_⟩
 refine ⟨_,(@pss_cons _ _ _ _ _ (ps_asg (pe_callH h_l_laddered hr (@pa_cons _ _ _ _ _ (pv 3) (@pa_cons _ _ _ _ _ (pv 2) (@pa_cons _ _ _ _ _ (pv 4) pa_nil (by rfl)) (by rfl)) (by rfl))) (pg_tup rfl (pgs_cons (pg_name (i:=6) sc_law.nd rfl (Or.inl rfl)) (pgs_cons (pg_name (i:=7) sc_law.nd rfl (Or.inl rfl)) pgs_nil)))) pss_run),?_⟩
 refine ⟨_,rfl,_,rfl,_,rfl,v,t,room,deep,rfl,dv.mono s8,by omega,tk,r0,r1,by omega,by omega,by omega,fun gp q p H9 s9 e9 lad pp=>?_⟩
 refine ⟨gp,_,rfl,SqT.of e9,rfl,_,_,rfl,_,_,rfl,rfl,?_⟩
 have dr:=dr.mono s9
 have ok:=ld_ok (room:=room) (by omega) (by omega) tk
 have due:=ld_due ok
 have nq:=ok.lok.pok.kok.nd
 have ql:(ldT room deep t).1.length≤40:=by have:=ok.len;omega
 have pl:(ldT room deep t).2.length≤600:=by have:=ok.few;omega
 have pb:∀x∈(ldT room deep t).2,1≤x.2∧x.2<100000000000000000000:=fun x hx=>by
  have a1:=ok.bnd x hx
  have a2:=many_le (ts:=t.all) fun y hy=>(ta y hy).manyU
  omega
 generalize (ldT room deep t).1=qs at lad due nq ql
 generalize (ldT room deep t).2=ps at pp due pl pb
 clear ok
 generalize sumS qs=total at lad due
 obtain ⟨_,xs,e0,e_r,dx⟩:=DV.list_inv dr
 cases e0
 obtain ⟨as,e_p,kb⟩:=id pp
 have xl:xs.length≤100:=by have:=dx.length;rw [List.length_map] at this;omega
 have yl:(as.map V.ref).length≤600:=by have:=Paired.length kb;rw [List.length_map];omega
 have k_l:LF K s0 r q p ns xs (as.map V.ref) room deep total qs H9:=⟨sqL_same (s7.trans (s8.trans s9)) hS,e_r,te_of dx to,lad,e_p,p0_of kb pb⟩
 generalize as.map V.ref=ys at k_l yl
 clear e_p e_r
 refine ⟨_,(@pss_cons _ _ _ _ _ (@ps_if _ _ _ _ _ _ _ _ (PW.pt (@pw_or _ _ _ _ _ _ _ (@pt_not _ _ _ _ (pt_val (pe_callH h_l_due hr (@pa_cons _ _ _ _ _ (pv 5) (@pa_cons _ _ _ _ _ (pv 6) (@pa_cons _ _ _ _ _ (pv 7) pa_nil (by rfl)) (by rfl)) (by rfl))))) (@pw_or1 _ _ _ _ (@pt_not _ _ _ _ (pt_val (pe_callH h_l_said hr (@pa_cons _ _ _ _ _ (pv 5) (@pa_cons _ _ _ _ _ (pv 6) (@pa_cons _ _ _ _ _ (pv 7) pa_nil (by rfl)) (by rfl)) (by rfl)))))))) (@pss_one _ _ _ (@ps_ret _ _ _ _ pe_bl)) pss_nil) pss_run),?_⟩
 refine ⟨_,rfl,_,rfl,_,rfl,r,q,p,t.all,room,deep,total,qs,ps,rfl,dr,by omega,lad,nq,by omega,by omega,by omega,pp,by omega,fun H10 s10=>?_⟩
 rw [due]
 have k_l:=k_l.mono s10
 refine ⟨_,rfl,iteF ⟨_,rfl,_,rfl,_,rfl,r,q,p,deep,rfl,by omega,by omega,k_l.sg xl,k_l.lg nq ql,k_l.pg yl,fun H11 s11=>⟨_,rfl,iteF ?_⟩⟩⟩
 have k_l:=k_l.mono s11
 clear dr lad pp due dv kb pb
 refine ⟨_,(@pss_cons _ _ _ _ _ (ps_for PassesOwn.never rfl (pi_range1 rfl z_range (@pa_cons _ _ _ _ _ pe_int pa_nil (by rfl))) (pg_name (i:=8) sc_law.nd rfl (Or.inl rfl))
 (@pss_cons _ _ _ _ _ (@ps_set _ _ 1 _ _ _ _ sc_law.nd rfl (Or.inl rfl) (pe_callH h_l_pen hr (@pa_cons _ _ _ _ _ (pv 0) (@pa_cons _ _ _ _ _ (@pe_op _ _ _ _ _ _ _ _ op_add pe_int (pv 8)) pa_nil (by rfl)) (by rfl))) (by rfl) (by first | exact .inl rfl | exact .inr rfl))
 (@pss_cons _ _ _ _ _ (@ps_set _ _ 9 _ _ _ _ sc_law.nd rfl (Or.inl rfl) (pe_callH h_l_draw hr (@pa_cons _ _ _ _ _ (pv 1) (@pa_cons _ _ _ _ _ pe_int pa_nil (by rfl)) (by rfl))) (by rfl) (by first | exact .inl rfl | exact .inr rfl))
 (@pss_cons _ _ _ _ _ (@ps_set _ _ 10 _ _ _ _ sc_law.nd rfl (Or.inl rfl) (@pe_tup _ _ _ _ _ (@pa_cons _ _ _ _ _ (pv 5) (@pa_cons _ _ _ _ _ (pv 6) (@pa_cons _ _ _ _ _ (pv 7) pa_nil (by rfl)) (by rfl)) (by rfl))) (by rfl) (by first | exact .inl rfl | exact .inr rfl))
 (@pss_cons _ _ _ _ _ (@ps_if _ _ _ _ _ _ _ _ (PW.pt (@pw_and _ _ _ _ _ _ _ (@pt_cmpR _ _ _ _ _ _ _ _ op_lt (pv 9) pe_int (nomark _)) (@pw_and1 _ _ _ _ (@pt_cmpR _ _ _ _ _ _ _ _ (op_neD hr.units) (pv 7) (@pe_lst _ _ _ _ pa_nil) (nomark _))))) (@pss_one _ _ _ (@ps_set _ _ 10 _ _ _ _ sc_law.nd rfl (Or.inl rfl) (@pe_tup _ _ _ _ _ (@pa_cons _ _ _ _ _ (pv 5) (@pa_cons _ _ _ _ _ (pv 6) (@pa_cons _ _ _ _ _ (pe_callH h_l_bent_paper hr (@pa_cons _ _ _ _ _ (pv 1) (@pa_cons _ _ _ _ _ (pv 2) (@pa_cons _ _ _ _ _ (pv 7) pa_nil (by rfl)) (by rfl)) (by rfl))) pa_nil (by rfl)) (by rfl)) (by rfl))) (by rfl) (by first | exact .inl rfl | exact .inr rfl))) (@pss_one _ _ _ (@ps_if _ _ _ _ _ _ _ _ (@pt_cmpR _ _ _ _ _ _ _ _ op_lt (pv 9) pe_int (nomark _)) (@pss_one _ _ _ (@ps_set _ _ 10 _ _ _ _ sc_law.nd rfl (Or.inl rfl) (@pe_tup _ _ _ _ _ (@pa_cons _ _ _ _ _ (pv 5) (@pa_cons _ _ _ _ _ (pe_callH h_l_bent_ladder hr (@pa_cons _ _ _ _ _ (pv 1) (@pa_cons _ _ _ _ _ (pv 6) pa_nil (by rfl)) (by rfl))) (@pa_cons _ _ _ _ _ (pv 7) pa_nil (by rfl)) (by rfl)) (by rfl))) (by rfl) (by first | exact .inl rfl | exact .inr rfl))) (@pss_one _ _ _ (@ps_set _ _ 10 _ _ _ _ sc_law.nd rfl (Or.inl rfl) (@pe_tup _ _ _ _ _ (@pa_cons _ _ _ _ _ (pe_callH h_l_bent_stream hr (@pa_cons _ _ _ _ _ (pv 1) (@pa_cons _ _ _ _ _ (pv 2) (@pa_cons _ _ _ _ _ (pv 5) pa_nil (by rfl)) (by rfl)) (by rfl))) (@pa_cons _ _ _ _ _ (pv 6) (@pa_cons _ _ _ _ _ (pv 7) pa_nil (by rfl)) (by rfl)) (by rfl))) (by rfl) (by first | exact .inl rfl | exact .inr rfl))))))
 (@pss_one _ _ _ (@ps_if _ _ _ _ _ _ _ _ (@pt_not _ _ _ _ (pt_val (pe_callH h_l_said hr (@pa_cons _ _ _ _ _ (@pe_ix _ _ _ _ _ _ _ ix_tup (pv 10) pe_int (fun _ _=>rfl)) (@pa_cons _ _ _ _ _ (@pe_ix _ _ _ _ _ _ _ ix_tup (pv 10) pe_int (fun _ _=>rfl)) (@pa_cons _ _ _ _ _ (@pe_ix _ _ _ _ _ _ _ ix_tup (pv 10) pe_int (fun _ _=>rfl)) pa_nil (by rfl)) (by rfl)) (by rfl))))) (@pss_one _ _ _ (@ps_ret _ _ _ _ pe_bl)) pss_nil))))))) pss_run),?_⟩
 refine ⟨8,rfl,leI rfl,ltI rfl,?_⟩
 refine for_rangeH (lo:=0) (n:=8) (fun i σ H'=>∃(o1 o8 o9 o10:Option V),σ=[some (.ref s0),o1,some (.int deep),some (.int room),some v,some (.ref r),some (.ref q),some (.ref p),o8,o9,o10,none]∧LF K s0 r q p ns xs ys room deep total qs H') ⟨_,_,_,_,rfl,k_l⟩ ?_ ?_
 ·rintro i σ H0 N B1 R hN hR hi ⟨o1,o8,o9,o10,rfl,k_l⟩
  refine ⟨_,rfl,_,rfl,_,_,rfl,rfl,s0,ns,_,rfl,k_l.scr,by omega,fun a H1 na s1 hp=>?_⟩
  have gg:Grw a H1 H1:=Same.refl _
  have k_a:=k_l.mono (fresh_hide na s1)
  refine ⟨_,rfl,a,4,rfl,hp,posI rfl,ltI rfl,fun way H2 w0 w1 hp gz=>?_⟩
  have gg:=gg.trans gz
  have k_a:=k_a.mono gz
  refine ⟨_,rfl,_,rfl,_,rfl,leN rfl,?_⟩
  intro g1 n_g1
  generalize hz:upd _ g1 _=H3
  revert H3
  refine blk ?_
  intro H3 hz
  have hw:=laid_pen hz n_g1 hp
  have hp:=hw.1
  have gz:=hw.2.1
  have ne_g1:=hw.2.2.1
  have e_g1:=hw.2.2.2
  clear hw hz
  have gg:=gg.trans gz
  have k_a:=k_a.mono gz
  dsimp only
  refine seq_post (fun σ' H'=>∃(o1 o8 o9:Option V) (g x1 x2 x3:Addr),σ'=[some (.ref s0),o1,some (.int deep),some (.int room),some v,some (.ref r),some (.ref q),some (.ref p),o8,o9,some (.ref g),none]∧H' g=some (.tup [.ref x1,.ref x2,.ref x3])∧SG 200 H' x1∧LG deep H' x2∧PG 700 H' x3∧LF K s0 r q p ns xs ys room deep total qs H') ?_ ?_
  ·intro nx hnx
   refine ⟨_,rfl,_,_,rfl,rfl,_,rfl,ite2 (fun c0=>?_) (fun c0=>iteF ?_)⟩
   ·refine ⟨_,rfl,leN rfl,?_⟩
    intro z1 n_z1
    generalize hz:upd _ z1 _=H4
    revert H4
    refine blk ?_
    intro H4 hz
    have hw:=laid_pen hz n_z1 hp
    have hp:=hw.1
    have gz:=hw.2.1
    have ne_z1:=hw.2.2.1
    have e_z1:=hw.2.2.2
    clear hw hz
    have gg:=gg.trans gz
    have k_a:=k_a.mono gz
    obtain ⟨bs2,pp2,bl2⟩:=(k_a.mono hide_sub).pg yl |>.at
    obtain ⟨as2,e_p2,kb2⟩:=id pp2
    have bl3:bs2.length=ys.length:=by
     have:=(k_a.mono hide_sub).e_p
     rw [e_p2] at this
     cases this
     rw [List.length_map,Paired.length kb2]
    refine ⟨_,_,pp2.dv,.lst (hide_some e_z1).2 .nil,shaped_of (ppd_lay bs2) (by decide),by decide,_,rfl,?_⟩
    rw [pp_nil]
    refine ite2 (fun c1=>oA fun C hC=>?_) (fun c1=>?_)
    ·have ypos:0<ys.length:=by
      rw [←bl3]
      cases bs2 with
      | nil=>exact absurd c1 (by decide)
      | cons _ _=>simp
     refine ⟨_,rfl,_,rfl,_,rfl,_,rfl,_,rfl,a,p,deep,ys,rfl,hp,k_a.e_p,k_a.k_p,ypos,yl,fun l J k_g hp gz=>?_⟩
     have gg:=gg.trans gz
     have k_a:=k_a.mono gz
     refine ⟨leN rfl,?_⟩
     intro g2 n_g2
     generalize hz:upd _ g2 _=J1
     revert J1
     refine blk ?_
     intro J1 hz
     have hw:=laid_pen hz n_g2 hp
     have hp:=hw.1
     have gz:=hw.2.1
     have ne_g2:=hw.2.2.1
     have e_g2:=hw.2.2.2
     clear hw hz
     have gg:=gg.trans gz
     have k_a:=k_a.mono gz
     have k_g:=k_g.mono gz
     exact hC _ _ (hnx _ _ ⟨_,_,_,g2,r,q,l,rfl,(hide_some e_g2).2,(k_a.sg xl).mono hide_sub,(k_a.lg nq ql).mono hide_sub,k_g.mono hide_sub,k_l.mono (fresh_grw na s1 gg)⟩)
    ·skip
     refine ⟨_,rfl,_,_,rfl,rfl,_,rfl,ite2 (fun c2=>oA fun C hC=>?_) (fun c2=>oA fun C hC=>?_)⟩
     ·refine ⟨_,rfl,_,rfl,_,rfl,a,q,room,deep,total,qs,rfl,hp,k_a.lad,nq,ql,fun l J k_g hp gz=>?_⟩
      have gg:=gg.trans gz
      have k_a:=k_a.mono gz
      refine ⟨_,rfl,leN rfl,?_⟩
      intro g2 n_g2
      generalize hz:upd _ g2 _=J1
      revert J1
      refine blk ?_
      intro J1 hz
      have hw:=laid_pen hz n_g2 hp
      have hp:=hw.1
      have gz:=hw.2.1
      have ne_g2:=hw.2.2.1
      have e_g2:=hw.2.2.2
      clear hw hz
      have gg:=gg.trans gz
      have k_a:=k_a.mono gz
      have k_g:=k_g.mono gz
      exact hC _ _ (hnx _ _ ⟨_,_,_,g2,r,l,p,rfl,(hide_some e_g2).2,(k_a.sg xl).mono hide_sub,k_g.mono hide_sub,(k_a.pg yl).mono hide_sub,k_l.mono (fresh_grw na s1 gg)⟩)
     ·refine ⟨_,rfl,_,rfl,_,rfl,a,r,deep,rfl,hp,by omega,d1,⟨xs,k_a.e_r,k_a.k_x,by omega⟩,fun l J k_g hp gz=>?_⟩
      have gg:=gg.trans gz
      have k_a:=k_a.mono gz
      refine ⟨_,rfl,_,rfl,leN rfl,?_⟩
      intro g2 n_g2
      generalize hz:upd _ g2 _=J1
      revert J1
      refine blk ?_
      intro J1 hz
      have hw:=laid_pen hz n_g2 hp
      have hp:=hw.1
      have gz:=hw.2.1
      have ne_g2:=hw.2.2.1
      have e_g2:=hw.2.2.2
      clear hw hz
      have gg:=gg.trans gz
      have k_a:=k_a.mono gz
      have k_g:=k_g.mono gz
      exact hC _ _ (hnx _ _ ⟨_,_,_,g2,l,q,p,rfl,(hide_some e_g2).2,k_g.mono hide_sub,(k_a.lg nq ql).mono hide_sub,(k_a.pg yl).mono hide_sub,k_l.mono (fresh_grw na s1 gg)⟩)
   ·skip
    refine ⟨_,rfl,_,_,rfl,rfl,_,rfl,ite2 (fun c2=>oA fun C hC=>?_) (fun c2=>oA fun C hC=>?_)⟩
    ·refine ⟨_,rfl,_,rfl,_,rfl,a,q,room,deep,total,qs,rfl,hp,k_a.lad,nq,ql,fun l J k_g hp gz=>?_⟩
     have gg:=gg.trans gz
     have k_a:=k_a.mono gz
     refine ⟨_,rfl,leN rfl,?_⟩
     intro g2 n_g2
     generalize hz:upd _ g2 _=J1
     revert J1
     refine blk ?_
     intro J1 hz
     have hw:=laid_pen hz n_g2 hp
     have hp:=hw.1
     have gz:=hw.2.1
     have ne_g2:=hw.2.2.1
     have e_g2:=hw.2.2.2
     clear hw hz
     have gg:=gg.trans gz
     have k_a:=k_a.mono gz
     have k_g:=k_g.mono gz
     exact hC _ _ (hnx _ _ ⟨_,_,_,g2,r,l,p,rfl,(hide_some e_g2).2,(k_a.sg xl).mono hide_sub,k_g.mono hide_sub,(k_a.pg yl).mono hide_sub,k_l.mono (fresh_grw na s1 gg)⟩)
    ·refine ⟨_,rfl,_,rfl,_,rfl,a,r,deep,rfl,hp,by omega,d1,⟨xs,k_a.e_r,k_a.k_x,by omega⟩,fun l J k_g hp gz=>?_⟩
     have gg:=gg.trans gz
     have k_a:=k_a.mono gz
     refine ⟨_,rfl,_,rfl,leN rfl,?_⟩
     intro g2 n_g2
     generalize hz:upd _ g2 _=J1
     revert J1
     refine blk ?_
     intro J1 hz
     have hw:=laid_pen hz n_g2 hp
     have hp:=hw.1
     have gz:=hw.2.1
     have ne_g2:=hw.2.2.1
     have e_g2:=hw.2.2.2
     clear hw hz
     have gg:=gg.trans gz
     have k_a:=k_a.mono gz
     have k_g:=k_g.mono gz
     exact hC _ _ (hnx _ _ ⟨_,_,_,g2,l,q,p,rfl,(hide_some e_g2).2,k_g.mono hide_sub,(k_a.lg nq ql).mono hide_sub,(k_a.pg yl).mono hide_sub,k_l.mono (fresh_grw na s1 gg)⟩)
  rintro σ' H' ⟨o1,o8,o9,g,x1,x2,x3,rfl,e_g,sg,lg,pg,k_l⟩
  refine ⟨_,rfl,g,_,_,_,rfl,rfl,SqT.of e_g,rfl,_,rfl,g,_,_,_,rfl,rfl,SqT.of e_g,rfl,_,rfl,g,_,_,_,rfl,rfl,SqT.of e_g,rfl,x1,x2,x3,deep,rfl,by omega,by omega,sg,lg,pg,fun H'' s'=>⟨_,rfl,iteF (hN _ _ ⟨_,_,_,_,rfl,k_l.mono s'⟩)⟩⟩
 rintro σ H0 ⟨o1,o8,o9,o10,rfl,k_l⟩
 refine ⟨_,(@pss_cons _ _ _ _ _ (ps_for PassesOwn.never rfl (pi_list (pe_callH h_l_forged hr (@pa_cons _ _ _ _ _ (pe_callH h_l_pen hr (@pa_cons _ _ _ _ _ (pv 0) (@pa_cons _ _ _ _ _ pe_int pa_nil (by rfl)) (by rfl))) (@pa_cons _ _ _ _ _ (pv 5) (@pa_cons _ _ _ _ _ (pv 7) pa_nil (by rfl)) (by rfl)) (by rfl)))) (pg_name (i:=11) sc_law.nd rfl (Or.inl rfl))
 (@pss_one _ _ _ (@ps_if _ _ _ _ _ _ _ _ (@pt_not _ _ _ _ (pt_val (pe_callH h_l_said hr (@pa_cons _ _ _ _ _ (pv 5) (@pa_cons _ _ _ _ _ (pv 6) (@pa_cons _ _ _ _ _ (pv 11) pa_nil (by rfl)) (by rfl)) (by rfl))))) (@pss_one _ _ _ (@ps_ret _ _ _ _ pe_bl)) pss_nil))) pss_run),?_⟩
 refine ⟨_,rfl,s0,ns,10,rfl,k_l.scr,by omega,fun a H1 na s1 hp=>?_⟩
 have k_a:=k_l.mono (fresh_hide na s1)
 refine ⟨_,rfl,_,rfl,a,r,p,xs,ys,rfl,hp,k_a.e_r,k_a.k_x,xl,k_a.e_p,k_a.k_p.pe,yl,fun l J zs e_l al zl hp gz=>?_⟩
 have k_j:=(k_a.mono gz).mono hide_sub
 refine ⟨l,rfl,⟨_,hSqL e_l⟩,?_⟩
 refine for_listH (xs:=zs) (fun i σ H'=>∃(o11:Option V),σ=[some (.ref s0),o1,some (.int deep),some (.int room),some v,some (.ref r),some (.ref q),some (.ref p),o8,o9,o10,o11]∧Same J H') ⟨_,rfl,Same.refl _⟩ ?_ ?_ ?_
 ·rintro i σ H' _ ⟨_,_,g⟩
  exact SqL.of (g _ _ (hide_some e_l).2)
 ·rintro i x σ H' N B1 R hN hR hx ⟨o11,rfl,gs⟩
  obtain ⟨x3,rfl,pg⟩:=((al x (List.mem_of_getElem? hx)).mono hide_sub).mono gs
  have k_j:=k_j.mono gs
  exact ⟨_,rfl,_,rfl,_,rfl,r,q,x3,deep,rfl,by omega,by omega,k_j.sg xl,k_j.lg nq ql,pg,fun H'' s'=>⟨_,rfl,iteF (hN _ _ ⟨_,rfl,gs.trans s'⟩)⟩⟩
 rintro σ H' _
 exact ⟨_,(@pss_one _ _ _ (@ps_ret _ _ _ _ pe_bl)),hq H'⟩
end
theorem all_mk {l:PySem.W.OpenLaw} {w:World} {K:PySem.W.Frag} {h:Heap} {mg:Str→Option Value} {fa f0 f1 f2 f3 f4 f5 f6 f7 f8 f9 f10 f11 f12 f13 f14 f15 f16 f17 f18 f19 f20 f21 f22 f23 f24 f25 f26 f27 f28 f29 f30 f31:Addr} (X:K.In h) (G:h.Ns mainGlobals mg) (hfa:mg "law"=some (.ref fa))
  {od0 an0 od1 an1 od2 an2 od3 an3 od4 an4 od5 an5 od6 an6 od7 an7 od8 an8 od9 an9 od10 an10 od11 an11 od12 an12 od13 an13 od14 an14 od15 an15 od16 an16 od17 an17 od18 an18 od19 an19 od20 an20 od21 an21 od22 an22 od23 an23 od24 an24 od25 an25 od26 an26 od27 an27 od28 an28 od29 an29 od30 an30 od31 an31:Option Addr} {sl0 sl1 sl2 sl3 sl4 sl5 sl6 sl7 sl8 sl9 sl10 sl11 sl12 sl13 sl14 sl15 sl16 sl17 sl18 sl19 sl20 sl21 sl22 sl23 sl24 sl25 sl26 sl27 sl28 sl29 sl30 sl31:Array (Option Value)} {oc0 kV0 dc0 pm0 cd0 ct0 oc1 kV1 dc1 pm1 cd1 ct1 oc2 kV2 dc2 pm2 cd2 ct2 oc3 kV3 dc3 pm3 cd3 ct3 oc4 kV4 dc4 pm4 cd4 ct4 oc5 kV5 dc5 pm5 cd5 ct5 oc6 kV6 dc6 pm6 cd6 ct6 oc7 kV7 dc7 pm7 cd7 ct7 oc8 kV8 dc8 pm8 cd8 ct8 oc9 kV9 dc9 pm9 cd9 ct9 oc10 kV10 dc10 pm10 cd10 ct10 oc11 kV11 dc11 pm11 cd11 ct11 oc12 kV12 dc12 pm12 cd12 ct12 oc13 kV13 dc13 pm13 cd13 ct13 oc14 kV14 dc14 pm14 cd14 ct14 oc15 kV15 dc15 pm15 cd15 ct15 oc16 kV16 dc16 pm16 cd16 ct16 oc17 kV17 dc17 pm17 cd17 ct17 oc18 kV18 dc18 pm18 cd18 ct18 oc19 kV19 dc19 pm19 cd19 ct19 oc20 kV20 dc20 pm20 cd20 ct20 oc21 kV21 dc21 pm21 cd21 ct21 oc22 kV22 dc22 pm22 cd22 ct22 oc23 kV23 dc23 pm23 cd23 ct23 oc24 kV24 dc24 pm24 cd24 ct24 oc25 kV25 dc25 pm25 cd25 ct25 oc26 kV26 dc26 pm26 cd26 ct26 oc27 kV27 dc27 pm27 cd27 ct27 oc28 kV28 dc28 pm28 cd28 ct28 oc29 kV29 dc29 pm29 cd29 ct29 oc30 kV30 dc30 pm30 cd30 ct30 oc31 kV31 dc31 pm31 cd31 ct31:Value}
  (a0:PySem.W.nsIn K mainGlobals "is_whole"=some (some (.ref f0))) (l0:K.lookup f0=some ⟨oc0,od0,.func (PySem.W.fnOf "is_whole" "is_whole" (defArgs s_is_whole) (defBody s_is_whole) (defScope s_is_whole) .none kV0 dc0 pm0 an0 cd0 ct0),sl0⟩) (c0:PySem.W.codeIn K cd0 "is_whole"=true) (k0:PySem.W.keepIn K (.ref f0)=true)
  (a1:PySem.W.nsIn K mainGlobals "is_whole_from"=some (some (.ref f1))) (l1:K.lookup f1=some ⟨oc1,od1,.func (PySem.W.fnOf "is_whole_from" "is_whole_from" (defArgs s_is_whole_from) (defBody s_is_whole_from) (defScope s_is_whole_from) .none kV1 dc1 pm1 an1 cd1 ct1),sl1⟩) (c1:PySem.W.codeIn K cd1 "is_whole_from"=true) (k1:PySem.W.keepIn K (.ref f1)=true)
  (a2:PySem.W.nsIn K mainGlobals "is_whole_within"=some (some (.ref f2))) (l2:K.lookup f2=some ⟨oc2,od2,.func (PySem.W.fnOf "is_whole_within" "is_whole_within" (defArgs s_is_whole_within) (defBody s_is_whole_within) (defScope s_is_whole_within) .none kV2 dc2 pm2 an2 cd2 ct2),sl2⟩) (c2:PySem.W.codeIn K cd2 "is_whole_within"=true) (k2:PySem.W.keepIn K (.ref f2)=true)
  (a3:PySem.W.nsIn K mainGlobals "added_counts"=some (some (.ref f3))) (l3:K.lookup f3=some ⟨oc3,od3,.func (PySem.W.fnOf "added_counts" "added_counts" (defArgs s_added_counts) (defBody s_added_counts) (defScope s_added_counts) .none kV3 dc3 pm3 an3 cd3 ct3),sl3⟩) (c3:PySem.W.codeIn K cd3 "added_counts"=true) (k3:PySem.W.keepIn K (.ref f3)=true)
  (a4:PySem.W.nsIn K mainGlobals "first_of"=some (some (.ref f4))) (l4:K.lookup f4=some ⟨oc4,od4,.func (PySem.W.fnOf "first_of" "first_of" (defArgs s_first_of) (defBody s_first_of) (defScope s_first_of) .none kV4 dc4 pm4 an4 cd4 ct4),sl4⟩) (c4:PySem.W.codeIn K cd4 "first_of"=true) (k4:PySem.W.keepIn K (.ref f4)=true)
  (a5:PySem.W.nsIn K mainGlobals "last_of"=some (some (.ref f5))) (l5:K.lookup f5=some ⟨oc5,od5,.func (PySem.W.fnOf "last_of" "last_of" (defArgs s_last_of) (defBody s_last_of) (defScope s_last_of) .none kV5 dc5 pm5 an5 cd5 ct5),sl5⟩) (c5:PySem.W.codeIn K cd5 "last_of"=true) (k5:PySem.W.keepIn K (.ref f5)=true)
  (a6:PySem.W.nsIn K mainGlobals "parent_of"=some (some (.ref f6))) (l6:K.lookup f6=some ⟨oc6,od6,.func (PySem.W.fnOf "parent_of" "parent_of" (defArgs s_parent_of) (defBody s_parent_of) (defScope s_parent_of) .none kV6 dc6 pm6 an6 cd6 ct6),sl6⟩) (c6:PySem.W.codeIn K cd6 "parent_of"=true) (k6:PySem.W.keepIn K (.ref f6)=true)
  (a7:PySem.W.nsIn K mainGlobals "is_stretch"=some (some (.ref f7))) (l7:K.lookup f7=some ⟨oc7,od7,.func (PySem.W.fnOf "is_stretch" "is_stretch" (defArgs s_is_stretch) (defBody s_is_stretch) (defScope s_is_stretch) .none kV7 dc7 pm7 an7 cd7 ct7),sl7⟩) (c7:PySem.W.codeIn K cd7 "is_stretch"=true) (k7:PySem.W.keepIn K (.ref f7)=true)
  (a8:PySem.W.nsIn K mainGlobals "fold_up"=some (some (.ref f8))) (l8:K.lookup f8=some ⟨oc8,od8,.func (PySem.W.fnOf "fold_up" "fold_up" (defArgs s_fold_up) (defBody s_fold_up) (defScope s_fold_up) .none kV8 dc8 pm8 an8 cd8 ct8),sl8⟩) (c8:PySem.W.codeIn K cd8 "fold_up"=true) (k8:PySem.W.keepIn K (.ref f8)=true)
  (a9:PySem.W.nsIn K mainGlobals "things_in"=some (some (.ref f9))) (l9:K.lookup f9=some ⟨oc9,od9,.func (PySem.W.fnOf "things_in" "things_in" (defArgs s_things_in) (defBody s_things_in) (defScope s_things_in) .none kV9 dc9 pm9 an9 cd9 ct9),sl9⟩) (c9:PySem.W.codeIn K cd9 "things_in"=true) (k9:PySem.W.keepIn K (.ref f9)=true)
  (a10:PySem.W.nsIn K mainGlobals "standing_of"=some (some (.ref f10))) (l10:K.lookup f10=some ⟨oc10,od10,.func (PySem.W.fnOf "standing_of" "standing_of" (defArgs s_standing_of) (defBody s_standing_of) (defScope s_standing_of) .none kV10 dc10 pm10 an10 cd10 ct10),sl10⟩) (c10:PySem.W.codeIn K cd10 "standing_of"=true) (k10:PySem.W.keepIn K (.ref f10)=true)
  (a11:PySem.W.nsIn K mainGlobals "is_folded"=some (some (.ref f11))) (l11:K.lookup f11=some ⟨oc11,od11,.func (PySem.W.fnOf "is_folded" "is_folded" (defArgs s_is_folded) (defBody s_is_folded) (defScope s_is_folded) .none kV11 dc11 pm11 an11 cd11 ct11),sl11⟩) (c11:PySem.W.codeIn K cd11 "is_folded"=true) (k11:PySem.W.keepIn K (.ref f11)=true)
  (a12:PySem.W.nsIn K mainGlobals "_law_pen"=some (some (.ref f12))) (l12:K.lookup f12=some ⟨oc12,od12,.func (PySem.W.fnOf "_law_pen" "_law_pen" (defArgs s_l_pen) (defBody s_l_pen) (defScope s_l_pen) .none kV12 dc12 pm12 an12 cd12 ct12),sl12⟩) (c12:PySem.W.codeIn K cd12 "_law_pen"=true) (k12:PySem.W.keepIn K (.ref f12)=true)
  (a13:PySem.W.nsIn K mainGlobals "_law_draw"=some (some (.ref f13))) (l13:K.lookup f13=some ⟨oc13,od13,.func (PySem.W.fnOf "_law_draw" "_law_draw" (defArgs s_l_draw) (defBody s_l_draw) (defScope s_l_draw) .none kV13 dc13 pm13 an13 cd13 ct13),sl13⟩) (c13:PySem.W.codeIn K cd13 "_law_draw"=true) (k13:PySem.W.keepIn K (.ref f13)=true)
  (a14:PySem.W.nsIn K mainGlobals "_law_word"=some (some (.ref f14))) (l14:K.lookup f14=some ⟨oc14,od14,.func (PySem.W.fnOf "_law_word" "_law_word" (defArgs s_l_word) (defBody s_l_word) (defScope s_l_word) .none kV14 dc14 pm14 an14 cd14 ct14),sl14⟩) (c14:PySem.W.codeIn K cd14 "_law_word"=true) (k14:PySem.W.keepIn K (.ref f14)=true)
  (a15:PySem.W.nsIn K mainGlobals "_law_many"=some (some (.ref f15))) (l15:K.lookup f15=some ⟨oc15,od15,.func (PySem.W.fnOf "_law_many" "_law_many" (defArgs s_l_many) (defBody s_l_many) (defScope s_l_many) .none kV15 dc15 pm15 an15 cd15 ct15),sl15⟩) (c15:PySem.W.codeIn K cd15 "_law_many"=true) (k15:PySem.W.keepIn K (.ref f15)=true)
  (a16:PySem.W.nsIn K mainGlobals "_law_thing"=some (some (.ref f16))) (l16:K.lookup f16=some ⟨oc16,od16,.func (PySem.W.fnOf "_law_thing" "_law_thing" (defArgs s_l_thing) (defBody s_l_thing) (defScope s_l_thing) .none kV16 dc16 pm16 an16 cd16 ct16),sl16⟩) (c16:PySem.W.codeIn K cd16 "_law_thing"=true) (k16:PySem.W.keepIn K (.ref f16)=true)
  (a17:PySem.W.nsIn K mainGlobals "_law_stream"=some (some (.ref f17))) (l17:K.lookup f17=some ⟨oc17,od17,.func (PySem.W.fnOf "_law_stream" "_law_stream" (defArgs s_l_stream) (defBody s_l_stream) (defScope s_l_stream) .none kV17 dc17 pm17 an17 cd17 ct17),sl17⟩) (c17:PySem.W.codeIn K cd17 "_law_stream"=true) (k17:PySem.W.keepIn K (.ref f17)=true)
  (a18:PySem.W.nsIn K mainGlobals "_law_tree"=some (some (.ref f18))) (l18:K.lookup f18=some ⟨oc18,od18,.func (PySem.W.fnOf "_law_tree" "_law_tree" (defArgs s_l_tree) (defBody s_l_tree) (defScope s_l_tree) .none kV18 dc18 pm18 an18 cd18 ct18),sl18⟩) (c18:PySem.W.codeIn K cd18 "_law_tree"=true) (k18:PySem.W.keepIn K (.ref f18)=true)
  (a19:PySem.W.nsIn K mainGlobals "_law_stream_of"=some (some (.ref f19))) (l19:K.lookup f19=some ⟨oc19,od19,.func (PySem.W.fnOf "_law_stream_of" "_law_stream_of" (defArgs s_l_stream_of) (defBody s_l_stream_of) (defScope s_l_stream_of) .none kV19 dc19 pm19 an19 cd19 ct19),sl19⟩) (c19:PySem.W.codeIn K cd19 "_law_stream_of"=true) (k19:PySem.W.keepIn K (.ref f19)=true)
  (a20:PySem.W.nsIn K mainGlobals "_law_room"=some (some (.ref f20))) (l20:K.lookup f20=some ⟨oc20,od20,.func (PySem.W.fnOf "_law_room" "_law_room" (defArgs s_l_room) (defBody s_l_room) (defScope s_l_room) .none kV20 dc20 pm20 an20 cd20 ct20),sl20⟩) (c20:PySem.W.codeIn K cd20 "_law_room"=true) (k20:PySem.W.keepIn K (.ref f20)=true)
  (a21:PySem.W.nsIn K mainGlobals "_law_first"=some (some (.ref f21))) (l21:K.lookup f21=some ⟨oc21,od21,.func (PySem.W.fnOf "_law_first" "_law_first" (defArgs s_l_first) (defBody s_l_first) (defScope s_l_first) .none kV21 dc21 pm21 an21 cd21 ct21),sl21⟩) (c21:PySem.W.codeIn K cd21 "_law_first"=true) (k21:PySem.W.keepIn K (.ref f21)=true)
  (a22:PySem.W.nsIn K mainGlobals "_law_settled"=some (some (.ref f22))) (l22:K.lookup f22=some ⟨oc22,od22,.func (PySem.W.fnOf "_law_settled" "_law_settled" (defArgs s_l_settled) (defBody s_l_settled) (defScope s_l_settled) .none kV22 dc22 pm22 an22 cd22 ct22),sl22⟩) (c22:PySem.W.codeIn K cd22 "_law_settled"=true) (k22:PySem.W.keepIn K (.ref f22)=true)
  (a23:PySem.W.nsIn K mainGlobals "_law_added"=some (some (.ref f23))) (l23:K.lookup f23=some ⟨oc23,od23,.func (PySem.W.fnOf "_law_added" "_law_added" (defArgs s_l_added) (defBody s_l_added) (defScope s_l_added) .none kV23 dc23 pm23 an23 cd23 ct23),sl23⟩) (c23:PySem.W.codeIn K cd23 "_law_added"=true) (k23:PySem.W.keepIn K (.ref f23)=true)
  (a24:PySem.W.nsIn K mainGlobals "_law_laddered"=some (some (.ref f24))) (l24:K.lookup f24=some ⟨oc24,od24,.func (PySem.W.fnOf "_law_laddered" "_law_laddered" (defArgs s_l_laddered) (defBody s_l_laddered) (defScope s_l_laddered) .none kV24 dc24 pm24 an24 cd24 ct24),sl24⟩) (c24:PySem.W.codeIn K cd24 "_law_laddered"=true) (k24:PySem.W.keepIn K (.ref f24)=true)
  (a25:PySem.W.nsIn K mainGlobals "_law_due"=some (some (.ref f25))) (l25:K.lookup f25=some ⟨oc25,od25,.func (PySem.W.fnOf "_law_due" "_law_due" (defArgs s_l_due) (defBody s_l_due) (defScope s_l_due) .none kV25 dc25 pm25 an25 cd25 ct25),sl25⟩) (c25:PySem.W.codeIn K cd25 "_law_due"=true) (k25:PySem.W.keepIn K (.ref f25)=true)
  (a26:PySem.W.nsIn K mainGlobals "_law_bent_paper"=some (some (.ref f26))) (l26:K.lookup f26=some ⟨oc26,od26,.func (PySem.W.fnOf "_law_bent_paper" "_law_bent_paper" (defArgs s_l_bent_paper) (defBody s_l_bent_paper) (defScope s_l_bent_paper) .none kV26 dc26 pm26 an26 cd26 ct26),sl26⟩) (c26:PySem.W.codeIn K cd26 "_law_bent_paper"=true) (k26:PySem.W.keepIn K (.ref f26)=true)
  (a27:PySem.W.nsIn K mainGlobals "_law_bent_ladder"=some (some (.ref f27))) (l27:K.lookup f27=some ⟨oc27,od27,.func (PySem.W.fnOf "_law_bent_ladder" "_law_bent_ladder" (defArgs s_l_bent_ladder) (defBody s_l_bent_ladder) (defScope s_l_bent_ladder) .none kV27 dc27 pm27 an27 cd27 ct27),sl27⟩) (c27:PySem.W.codeIn K cd27 "_law_bent_ladder"=true) (k27:PySem.W.keepIn K (.ref f27)=true)
  (a28:PySem.W.nsIn K mainGlobals "_law_bent_stream"=some (some (.ref f28))) (l28:K.lookup f28=some ⟨oc28,od28,.func (PySem.W.fnOf "_law_bent_stream" "_law_bent_stream" (defArgs s_l_bent_stream) (defBody s_l_bent_stream) (defScope s_l_bent_stream) .none kV28 dc28 pm28 an28 cd28 ct28),sl28⟩) (c28:PySem.W.codeIn K cd28 "_law_bent_stream"=true) (k28:PySem.W.keepIn K (.ref f28)=true)
  (a29:PySem.W.nsIn K mainGlobals "_law_forged"=some (some (.ref f29))) (l29:K.lookup f29=some ⟨oc29,od29,.func (PySem.W.fnOf "_law_forged" "_law_forged" (defArgs s_l_forged) (defBody s_l_forged) (defScope s_l_forged) .none kV29 dc29 pm29 an29 cd29 ct29),sl29⟩) (c29:PySem.W.codeIn K cd29 "_law_forged"=true) (k29:PySem.W.keepIn K (.ref f29)=true)
  (a30:PySem.W.nsIn K mainGlobals "_law_said"=some (some (.ref f30))) (l30:K.lookup f30=some ⟨oc30,od30,.func (PySem.W.fnOf "_law_said" "_law_said" (defArgs s_l_said) (defBody s_l_said) (defScope s_l_said) .none kV30 dc30 pm30 an30 cd30 ct30),sl30⟩) (c30:PySem.W.codeIn K cd30 "_law_said"=true) (k30:PySem.W.keepIn K (.ref f30)=true)
  (a31:PySem.W.nsIn K mainGlobals "law"=some (some (.ref f31))) (l31:K.lookup f31=some ⟨oc31,od31,.func (PySem.W.fnOf "law" "law" (defArgs s_law) (defBody s_law) (defScope s_law) .none kV31 dc31 pm31 an31 cd31 ct31),sl31⟩) (c31:PySem.W.codeIn K cd31 "law"=true) (k31:PySem.W.keepIn K (.ref f31)=true)
  (y_len:PySem.W.nsIn K mainGlobals "len"=some none)
  (y_isinstance:PySem.W.nsIn K mainGlobals "isinstance"=some none)
  (y_range:PySem.W.nsIn K mainGlobals "range"=some none)
  (y_list:PySem.W.nsIn K mainGlobals "list"=some none)
  (y_sorted:PySem.W.nsIn K mainGlobals "sorted"=some none)
  (y_tuple:PySem.W.nsIn K mainGlobals "tuple"=some none)
  (y_int:PySem.W.nsIn K mainGlobals "int"=some none)
  (y_bool:PySem.W.nsIn K mainGlobals "bool"=some none)
  (y_dict:PySem.W.nsIn K mainGlobals "dict"=some none)
  (y_all:PySem.W.nsIn K mainGlobals "all"=some none)
  (y_sum:PySem.W.nsIn K mainGlobals "sum"=some none)
  :∃fd:FuncData,(∀(s:Shared) (v:Value),BindsTo s fd ⟨[v],[]⟩ [("_law_script",v)])∧∀base:Heap,K.In base→base.Ns mainGlobals mg→FnOk l.prog w K mg base CX0 10 fa fd ["_law_script"] (spLaw K):=by
 have e:=hfa.symm.trans (PySem.W.mg_of X G a31)
 cases e
 have F0:=fun_mk (st:=s_is_whole) l0 c0 k0
 have b0:Binds K _ ["thing"] []:=F0.b1 fun _ _ _ _ _ _ _=>rfl
 have m0:=PySem.W.mg_of X G a0
 have F1:=fun_mk (st:=s_is_whole_from) l1 c1 k1
 have b1:Binds K _ ["thing","least"] []:=F1.b2 fun _ _ _ _ _ _ _ _=>rfl
 have m1:=PySem.W.mg_of X G a1
 have F2:=fun_mk (st:=s_is_whole_within) l2 c2 k2
 have b2:Binds K _ ["thing","least","most"] []:=F2.b3 fun _ _ _ _ _ _ _ _ _=>rfl
 have m2:=PySem.W.mg_of X G a2
 have F3:=fun_mk (st:=s_added_counts) l3 c3 k3
 have b3:Binds K _ ["one","other"] []:=F3.b2 fun _ _ _ _ _ _ _ _=>rfl
 have m3:=PySem.W.mg_of X G a3
 have F4:=fun_mk (st:=s_first_of) l4 c4 k4
 have b4:Binds K _ ["stretch"] []:=F4.b1 fun _ _ _ _ _ _ _=>rfl
 have m4:=PySem.W.mg_of X G a4
 have F5:=fun_mk (st:=s_last_of) l5 c5 k5
 have b5:Binds K _ ["stretch"] []:=F5.b1 fun _ _ _ _ _ _ _=>rfl
 have m5:=PySem.W.mg_of X G a5
 have F6:=fun_mk (st:=s_parent_of) l6 c6 k6
 have b6:Binds K _ ["stretch"] []:=F6.b1 fun _ _ _ _ _ _ _=>rfl
 have m6:=PySem.W.mg_of X G a6
 have F7:=fun_mk (st:=s_is_stretch) l7 c7 k7
 have b7:Binds K _ ["thing","deep"] []:=F7.b2 fun _ _ _ _ _ _ _ _=>rfl
 have m7:=PySem.W.mg_of X G a7
 have F8:=fun_mk (st:=s_fold_up) l8 c8 k8
 have b8:Binds K _ ["counts","stretch","many"] []:=F8.b3 fun _ _ _ _ _ _ _ _ _=>rfl
 have m8:=PySem.W.mg_of X G a8
 have F9:=fun_mk (st:=s_things_in) l9 c9 k9
 have b9:Binds K _ ["stream"] []:=F9.b1 fun _ _ _ _ _ _ _=>rfl
 have m9:=PySem.W.mg_of X G a9
 have F10:=fun_mk (st:=s_standing_of) l10 c10 k10
 have b10:Binds K _ ["stream"] []:=F10.b1 fun _ _ _ _ _ _ _=>rfl
 have m10:=PySem.W.mg_of X G a10
 have F11:=fun_mk (st:=s_is_folded) l11 c11 k11
 have b11:Binds K _ ["stream","ladder","paper"] []:=F11.b3 fun _ _ _ _ _ _ _ _ _=>rfl
 have m11:=PySem.W.mg_of X G a11
 have F12:=fun_mk (st:=s_l_pen) l12 c12 k12
 have b12:Binds K _ ["_law_script","_law_k"] []:=F12.b2 fun _ _ _ _ _ _ _ _=>rfl
 have m12:=PySem.W.mg_of X G a12
 have F13:=fun_mk (st:=s_l_draw) l13 c13 k13
 have b13:Binds K _ ["_law_pen_here","_law_size"] []:=F13.b2 fun _ _ _ _ _ _ _ _=>rfl
 have m13:=PySem.W.mg_of X G a13
 have F14:=fun_mk (st:=s_l_word) l14 c14 k14
 have b14:Binds K _ ["_law_pen_here","_law_k"] []:=F14.b2 fun _ _ _ _ _ _ _ _=>rfl
 have m14:=PySem.W.mg_of X G a14
 have F15:=fun_mk (st:=s_l_many) l15 c15 k15
 have b15:Binds K _ ["_law_pen_here"] []:=F15.b1 fun _ _ _ _ _ _ _=>rfl
 have m15:=PySem.W.mg_of X G a15
 have F16:=fun_mk (st:=s_l_thing) l16 c16 k16
 have b16:Binds K _ ["_law_pen_here","_law_marks","_law_deep"] []:=F16.b3 fun _ _ _ _ _ _ _ _ _=>rfl
 have m16:=PySem.W.mg_of X G a16
 have F17:=fun_mk (st:=s_l_stream) l17 c17 k17
 have b17:Binds K _ ["_law_pen_here","_law_marks","_law_deep","_law_most"] []:=F17.b4 fun _ _ _ _ _ _ _ _ _ _=>rfl
 have m17:=PySem.W.mg_of X G a17
 have F18:=fun_mk (st:=s_l_tree) l18 c18 k18
 have b18:Binds K _ ["_law_pen_here","_law_marks","_law_deep","_law_most","_law_parts"] []:=F18.b5 fun _ _ _ _ _ _ _ _ _ _ _=>rfl
 have m18:=PySem.W.mg_of X G a18
 have F19:=fun_mk (st:=s_l_stream_of) l19 c19 k19
 have b19:Binds K _ ["_law_tree_here"] []:=F19.b1 fun _ _ _ _ _ _ _=>rfl
 have m19:=PySem.W.mg_of X G a19
 have F20:=fun_mk (st:=s_l_room) l20 c20 k20
 have b20:Binds K _ ["_law_pen_here"] []:=F20.b1 fun _ _ _ _ _ _ _=>rfl
 have m20:=PySem.W.mg_of X G a20
 have F21:=fun_mk (st:=s_l_first) l21 c21 k21
 have b21:Binds K _ ["_law_now","_law_deep","_law_bar"] []:=F21.b3 fun _ _ _ _ _ _ _ _ _=>rfl
 have m21:=PySem.W.mg_of X G a21
 have F22:=fun_mk (st:=s_l_settled) l22 c22 k22
 have b22:Binds K _ ["_law_ladder"] []:=F22.b1 fun _ _ _ _ _ _ _=>rfl
 have m22:=PySem.W.mg_of X G a22
 have F23:=fun_mk (st:=s_l_added) l23 c23 k23
 have b23:Binds K _ ["_law_one","_law_other"] []:=F23.b2 fun _ _ _ _ _ _ _ _=>rfl
 have m23:=PySem.W.mg_of X G a23
 have F24:=fun_mk (st:=s_l_laddered) l24 c24 k24
 have b24:Binds K _ ["_law_room_here","_law_deep","_law_tree_here"] []:=F24.b3 fun _ _ _ _ _ _ _ _ _=>rfl
 have m24:=PySem.W.mg_of X G a24
 have F25:=fun_mk (st:=s_l_due) l25 c25 k25
 have b25:Binds K _ ["_law_stream_here","_law_ladder","_law_paper"] []:=F25.b3 fun _ _ _ _ _ _ _ _ _=>rfl
 have m25:=PySem.W.mg_of X G a25
 have F26:=fun_mk (st:=s_l_bent_paper) l26 c26 k26
 have b26:Binds K _ ["_law_pen_here","_law_deep","_law_paper"] []:=F26.b3 fun _ _ _ _ _ _ _ _ _=>rfl
 have m26:=PySem.W.mg_of X G a26
 have F27:=fun_mk (st:=s_l_bent_ladder) l27 c27 k27
 have b27:Binds K _ ["_law_pen_here","_law_ladder"] []:=F27.b2 fun _ _ _ _ _ _ _ _=>rfl
 have m27:=PySem.W.mg_of X G a27
 have F28:=fun_mk (st:=s_l_bent_stream) l28 c28 k28
 have b28:Binds K _ ["_law_pen_here","_law_deep","_law_stream_here"] []:=F28.b3 fun _ _ _ _ _ _ _ _ _=>rfl
 have m28:=PySem.W.mg_of X G a28
 have F29:=fun_mk (st:=s_l_forged) l29 c29 k29
 have b29:Binds K _ ["_law_pen_here","_law_stream_here","_law_paper"] []:=F29.b3 fun _ _ _ _ _ _ _ _ _=>rfl
 have m29:=PySem.W.mg_of X G a29
 have F30:=fun_mk (st:=s_l_said) l30 c30 k30
 have b30:Binds K _ ["_law_stream_here","_law_ladder","_law_paper"] []:=F30.b3 fun _ _ _ _ _ _ _ _ _=>rfl
 have m30:=PySem.W.mg_of X G a30
 have F31:=fun_mk (st:=s_law) l31 c31 k31
 have z_len:=PySem.W.mg_none_of X G y_len
 have z_isinstance:=PySem.W.mg_none_of X G y_isinstance
 have z_range:=PySem.W.mg_none_of X G y_range
 have z_list:=PySem.W.mg_none_of X G y_list
 have z_sorted:=PySem.W.mg_none_of X G y_sorted
 have z_tuple:=PySem.W.mg_none_of X G y_tuple
 have z_int:=PySem.W.mg_none_of X G y_int
 have z_bool:=PySem.W.mg_none_of X G y_bool
 have z_dict:=PySem.W.mg_none_of X G y_dict
 have z_all:=PySem.W.mg_none_of X G y_all
 have z_sum:=PySem.W.mg_none_of X G y_sum
 refine ⟨PySem.W.fnOf "law" "law" (defArgs s_law) (defBody s_law) (defScope s_law) .none kV31 dc31 pm31 an31 cd31 ct31,fun s v=>.of_eq rfl,fun base kb nb=>?_⟩
 have h_draw:=Has.of (ok_draw (P:=l.prog) (w:=w) (mg:=mg) (base:=base) F13) b13 F13.kp m13
 have h_pen:=Has.of (ok_pen (P:=l.prog) (w:=w) (mg:=mg) (base:=base) F12 z_len) b12 F12.kp m12
 have h_word:=Has.of (ok_word (P:=l.prog) (w:=w) (mg:=mg) (base:=base) F14) b14 F14.kp m14
 have h_many:=Has.of (ok_many h_draw F15) b15 F15.kp m15
 have h_thing:=Has.of (ok_thing h_draw h_word h_many F16) b16 F16.kp m16
 have h_stream:=Has.of (ok_stream h_draw h_thing z_range F17) b17 F17.kp m17
 have h_room:=Has.of (ok_room h_draw F20) b20 F20.kp m20
 have h_tree:=ok_tree h_draw h_stream F18 b18 m18 5
 have h_so:=ok_lso (P:=l.prog) (w:=w) (mg:=mg) (base:=base) z_isinstance z_list F19 b19 m19 5
 have h1:=Has.of (ok_is_whole (P:=l.prog) (w:=w) (mg:=mg) (base:=base) z_isinstance z_int z_bool F0) b0 F0.kp m0
 have h2:=Has.of (ok_is_whole_from h1 F1) b1 F1.kp m1
 have h3:=Has.of (ok_is_whole_within h2 F2) b2 F2.kp m2
 have h4:=Has.of (ok_first (P:=l.prog) (w:=w) (mg:=mg) (base:=base) F4) b4 F4.kp m4
 have h5:=Has.of (ok_last h4 F5) b5 F5.kp m5
 have h6:=Has.of (ok_parent (P:=l.prog) (w:=w) (mg:=mg) (base:=base) F6) b6 F6.kp m6
 have h7:=Has.of (ok_foldG h6 F8) b8 F8.kp m8
 have h8:=Has.of (ok_addL (P:=l.prog) (w:=w) (mg:=mg) (base:=base) z_dict F3) b3 F3.kp m3
 have h9:=Has.of (ok_ths (P:=l.prog) (w:=w) (mg:=mg) (base:=base) z_sum F9) b9 F9.kp m9
 have h10:=Has.of (ok_std h8 F10) b10 F10.kp m10
 have h11:=Has.of (ok_is_stretch z_isinstance z_tuple z_len h3 h5 F7) b7 F7.kp m7
 have h12:=Has.of (ok_folded z_all z_dict h10 h9 h11 h7 F11) b11 F11.kp m11
 have h13:=Has.of (ok_due (P:=l.prog) (w:=w) (mg:=mg) (base:=base) z_sum z_dict F25) b25 F25.kp m25
 have h14:=Has.of (ok_lf (P:=l.prog) (w:=w) (mg:=mg) (base:=base) z_sorted F21) b21 F21.kp m21
 have h15:=Has.of (ok_set33 z_dict z_sorted z_tuple h14 F22) b22 F22.kp m22
 have h16:=Has.of (ok_add33 (P:=l.prog) (w:=w) (mg:=mg) (base:=base) z_dict z_sorted z_tuple F23) b23 F23.kp m23
 have h17:=ok_lad z_isinstance z_tuple h15 h16 F24 b24 m24 5
 have h18:=Has.of (ok_said z_isinstance z_bool z_list h12 h13 F30) b30 F30.kp m30
 have h19:=Has.of (ok_bp z_len z_int h_draw F26) b26 F26.kp m26
 have h20:=Has.of (ok_bl z_len z_tuple z_sorted z_dict z_list z_sum h_draw F27) b27 F27.kp m27
 have h21:=Has.of (ok_bs z_len h_draw F28) b28 F28.kp m28
 have h22:=Has.of (ok_forg z_len z_range h_draw F29) b29 F29.kp m29
 exact ok_law h_pen h_draw h_room h_tree h_so h17 h13 h18 h19 h20 h21 h22 z_range z_int F31
theorem walk {l:PySem.W.OpenLaw} {q:Program} {loose:List Str} {XP:(Str→Option Value)→Heap→Prop} {YP:World→Heap→Prop} {d:DefRec} {K:Params→PySem.W.Frag} (hn:l.most=some 63) (hdf:d.params.defaults=[])
  (hY:∀(w:World) (h:Heap),YP w h→(K w.params).In h)
  (F:∀(w:World) (mg:Str→Option Value) (fa:Addr) (h:Heap),(K w.params).In h→h.Ns mainGlobals mg→mg d.name=some (.ref fa)→
   ∃fd:FuncData,(∀(s:Shared) (u:Value),BindsTo s fd ⟨[u],[]⟩ [("_law_script",u)])∧∀base:Heap,(K w.params).In base→base.Ns mainGlobals mg→FnOk l.prog w (K w.params) mg base CX0 10 fa fd ["_law_script"] (spLaw (K w.params))):
  PySem.W.WalkO q loose XP YP l.row.toRowW d [] (fun f vs=>PySem.call f vs):=
 L2.walk_of (n:=63) (k:=10) (x:="_law_script") (CX:=fun _=>CX0) (sp:=fun w=>spLaw (K w.params)) hn (by decide) hdf ⟨rfl,by decide,by decide⟩ hY F (fun _ _ a ns hl _ hS=>⟨a,ns,rfl,hS,hl,fun _=>rfl⟩) fun _ _ _ _ _ z=>z
end K33
open PySem PySem.W PyProof.Rows
set_option maxRecDepth 100000 in
set_option maxHeartbeats 0 in
theorem PySem.Challenge.cw_sumshare_k33_folds_looked_at_holds : PySem.Challenge.rw_sumshare_k33_folds_looked_at.Holds := by
 w_on;o_law;k_head;(case hw=>w_witness2)
 k_fill
 refine K33.walk (l:=PySem.Challenge.rw_sumshare_k33_folds_looked_at) rfl rfl (fun w h Y=>PySem.W.kIn_of Y) ?F
 case F=>
  intro w mg fa h KX G hmg
  refine' K33.all_mk KX G hmg ?a0 ?l0 ?c0 ?k0 ?a1 ?l1 ?c1 ?k1 ?a2 ?l2 ?c2 ?k2 ?a3 ?l3 ?c3 ?k3 ?a4 ?l4 ?c4 ?k4 ?a5 ?l5 ?c5 ?k5 ?a6 ?l6 ?c6 ?k6 ?a7 ?l7 ?c7 ?k7 ?a8 ?l8 ?c8 ?k8 ?a9 ?l9 ?c9 ?k9 ?a10 ?l10 ?c10 ?k10 ?a11 ?l11 ?c11 ?k11 ?a12 ?l12 ?c12 ?k12 ?a13 ?l13 ?c13 ?k13 ?a14 ?l14 ?c14 ?k14 ?a15 ?l15 ?c15 ?k15 ?a16 ?l16 ?c16 ?k16 ?a17 ?l17 ?c17 ?k17 ?a18 ?l18 ?c18 ?k18 ?a19 ?l19 ?c19 ?k19 ?a20 ?l20 ?c20 ?k20 ?a21 ?l21 ?c21 ?k21 ?a22 ?l22 ?c22 ?k22 ?a23 ?l23 ?c23 ?k23 ?a24 ?l24 ?c24 ?k24 ?a25 ?l25 ?c25 ?k25 ?a26 ?l26 ?c26 ?k26 ?a27 ?l27 ?c27 ?k27 ?a28 ?l28 ?c28 ?k28 ?a29 ?l29 ?c29 ?k29 ?a30 ?l30 ?c30 ?k30 ?a31 ?l31 ?c31 ?k31 ?y_len ?y_isinstance ?y_range ?y_list ?y_sorted ?y_tuple ?y_int ?y_bool ?y_dict ?y_all ?y_sum
  (case a0=>k_is);(case l0=>k_is);(case c0=>k_is);(case k0=>k_is)
  (case a1=>k_is);(case l1=>k_is);(case c1=>k_is);(case k1=>k_is)
  (case a2=>k_is);(case l2=>k_is);(case c2=>k_is);(case k2=>k_is)
  (case a3=>k_is);(case l3=>k_is);(case c3=>k_is);(case k3=>k_is)
  (case a4=>k_is);(case l4=>k_is);(case c4=>k_is);(case k4=>k_is)
  (case a5=>k_is);(case l5=>k_is);(case c5=>k_is);(case k5=>k_is)
  (case a6=>k_is);(case l6=>k_is);(case c6=>k_is);(case k6=>k_is)
  (case a7=>k_is);(case l7=>k_is);(case c7=>k_is);(case k7=>k_is)
  (case a8=>k_is);(case l8=>k_is);(case c8=>k_is);(case k8=>k_is)
  (case a9=>k_is);(case l9=>k_is);(case c9=>k_is);(case k9=>k_is)
  (case a10=>k_is);(case l10=>k_is);(case c10=>k_is);(case k10=>k_is)
  (case a11=>k_is);(case l11=>k_is);(case c11=>k_is);(case k11=>k_is)
  (case a12=>k_is);(case l12=>k_is);(case c12=>k_is);(case k12=>k_is)
  (case a13=>k_is);(case l13=>k_is);(case c13=>k_is);(case k13=>k_is)
  (case a14=>k_is);(case l14=>k_is);(case c14=>k_is);(case k14=>k_is)
  (case a15=>k_is);(case l15=>k_is);(case c15=>k_is);(case k15=>k_is)
  (case a16=>k_is);(case l16=>k_is);(case c16=>k_is);(case k16=>k_is)
  (case a17=>k_is);(case l17=>k_is);(case c17=>k_is);(case k17=>k_is)
  (case a18=>k_is);(case l18=>k_is);(case c18=>k_is);(case k18=>k_is)
  (case a19=>k_is);(case l19=>k_is);(case c19=>k_is);(case k19=>k_is)
  (case a20=>k_is);(case l20=>k_is);(case c20=>k_is);(case k20=>k_is)
  (case a21=>k_is);(case l21=>k_is);(case c21=>k_is);(case k21=>k_is)
  (case a22=>k_is);(case l22=>k_is);(case c22=>k_is);(case k22=>k_is)
  (case a23=>k_is);(case l23=>k_is);(case c23=>k_is);(case k23=>k_is)
  (case a24=>k_is);(case l24=>k_is);(case c24=>k_is);(case k24=>k_is)
  (case a25=>k_is);(case l25=>k_is);(case c25=>k_is);(case k25=>k_is)
  (case a26=>k_is);(case l26=>k_is);(case c26=>k_is);(case k26=>k_is)
  (case a27=>k_is);(case l27=>k_is);(case c27=>k_is);(case k27=>k_is)
  (case a28=>k_is);(case l28=>k_is);(case c28=>k_is);(case k28=>k_is)
  (case a29=>k_is);(case l29=>k_is);(case c29=>k_is);(case k29=>k_is)
  (case a30=>k_is);(case l30=>k_is);(case c30=>k_is);(case k30=>k_is)
  (case a31=>k_is);(case l31=>k_is);(case c31=>k_is);(case k31=>k_is)
  (case y_len=>k_is)
  (case y_isinstance=>k_is)
  (case y_range=>k_is)
  (case y_list=>k_is)
  (case y_sorted=>k_is)
  (case y_tuple=>k_is)
  (case y_int=>k_is)
  (case y_bool=>k_is)
  (case y_dict=>k_is)
  (case y_all=>k_is)
  (case y_sum=>k_is)
