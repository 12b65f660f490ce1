import PyProof.Rows.All
import Wide.All
import OpenK.AllK
import Wide.FinOn
import Lean
import PyProof.EqAt
import PyProof.EqKinds
import PyProof.TupleCall
import PySem.Challenge.RW_sumshare_k31_whole_bounds_of_all_that_fi
set_option Elab.async false
set_option linter.all false
set_option maxRecDepth 100000
section
open PySem PySem.Spec PyProof.Rows
theorem io:type_of% @PySem.wpAny_bind:=@PySem.wpAny_bind
theorem pi.{u0,u1}:type_of% @List.length_map.{u0,u1}:=@List.length_map.{u0,u1}
theorem yy.{u0}:type_of% @if_neg.{u0}:=@if_neg.{u0}
theorem yA:type_of% @PySem.Heap.get?_push_of_some:=@PySem.Heap.get?_push_of_some
theorem yB:type_of% @PySem.wpAny_pure:=@PySem.wpAny_pure
theorem yC.{u0}:type_of% @if_pos.{u0}:=@if_pos.{u0}
theorem yD.{u0,u1}:type_of% @List.mem_map.{u0,u1}:=@List.mem_map.{u0,u1}
theorem yE.{u0,u1}:type_of% @List.map_cons.{u0,u1}:=@List.map_cons.{u0,u1}
theorem yF:type_of% @Nat.le_refl:=@Nat.le_refl
theorem yG:type_of% @decide_eq_true:=@decide_eq_true
theorem yH.{u0}:type_of% @Array.getElem?_eq_getElem.{u0}:=@Array.getElem?_eq_getElem.{u0}
theorem yI.{u0}:type_of% @Array.getElem?_toList.{u0}:=@Array.getElem?_toList.{u0}
theorem yJ.{u0}:type_of% @List.length_append.{u0}:=@List.length_append.{u0}
theorem yK.{u0}:type_of% @List.getElem?_eq_some_iff.{u0}:=@List.getElem?_eq_some_iff.{u0}
theorem yL:type_of% @Bool.false_ne_true:=@Bool.false_ne_true
theorem yM:type_of% @PySem.Heap.lt_size:=@PySem.Heap.lt_size
theorem yN.{u0}:type_of% @List.mem_singleton.{u0}:=@List.mem_singleton.{u0}
theorem yO:type_of% @of_decide_eq_true:=@of_decide_eq_true
theorem yP.{u0}:type_of% @List.mem_append_right.{u0}:=@List.mem_append_right.{u0}
theorem yQ:type_of% @PyProof.Rows.wpS_pure:=@PyProof.Rows.wpS_pure
theorem yR:type_of% @PyProof.Rows.wpS_bind:=@PyProof.Rows.wpS_bind
theorem yS.{u0}:type_of% @Array.length_toList.{u0}:=@Array.length_toList.{u0}
theorem yT:type_of% @PySem.Paired.length:=@PySem.Paired.length
theorem yU.{u0}:type_of% @List.mem_cons.{u0}:=@List.mem_cons.{u0}
theorem yV.{u0,u1}:type_of% @List.map_append.{u0,u1}:=@List.map_append.{u0,u1}
theorem yW:type_of% @Nat.ne_of_lt:=@Nat.ne_of_lt
theorem yX:type_of% @PySem.Heap.get?_push_size:=@PySem.Heap.get?_push_size
theorem yY.{u0}:type_of% @List.mem_append.{u0}:=@List.mem_append.{u0}
theorem yZ.{u0}:type_of% @List.sum_cons.{u0}:=@List.sum_cons.{u0}
theorem y3.{u0}:type_of% @List.mem_of_getElem?.{u0}:=@List.mem_of_getElem?.{u0}
theorem y4:type_of% @Nat.lt_of_lt_of_le:=@Nat.lt_of_lt_of_le
theorem y7.{u0}:type_of% @List.length_take.{u0}:=@List.length_take.{u0}
theorem y8:type_of% @Int.le_refl:=@Int.le_refl
theorem y9.{u0,u1}:type_of% @List.getElem?_map.{u0,u1}:=@List.getElem?_map.{u0,u1}
theorem zd.{u0}:type_of% @List.length_cons.{u0}:=@List.length_cons.{u0}
theorem ze:type_of% @decide_eq_false:=@decide_eq_false
theorem zf.{u0,u1,u2}:type_of% @List.map_map.{u0,u1,u2}:=@List.map_map.{u0,u1,u2}
theorem zk.{u0}:type_of% @beq_iff_eq.{u0}:=@beq_iff_eq.{u0}
theorem zl.{u0}:type_of% @List.nodup_cons.{u0}:=@List.nodup_cons.{u0}
theorem zn.{u0}:type_of% @List.take_length.{u0}:=@List.take_length.{u0}
theorem zo.{u0}:type_of% @List.size_toArray.{u0}:=@List.size_toArray.{u0}
theorem zt.{u0}:type_of% @Option.some.inj.{u0}:=@Option.some.inj.{u0}
theorem zu.{u0}:type_of% @List.mem_filter.{u0}:=@List.mem_filter.{u0}
theorem zw.{u0}:type_of% @List.mem_append_left.{u0}:=@List.mem_append_left.{u0}
theorem zy:type_of% @PySem.PassesOwn.never:=@PySem.PassesOwn.never
theorem zA.{u0}:type_of% @List.append_assoc.{u0}:=@List.append_assoc.{u0}
theorem zB.{u0}:type_of% @List.pairwise_append.{u0}:=@List.pairwise_append.{u0}
theorem zC:type_of% @PySem.mem_of_lookup:=@PySem.mem_of_lookup
theorem zD.{u0}:type_of% @List.filter_cons.{u0}:=@List.filter_cons.{u0}
theorem zE.{u0}:type_of% @List.not_mem_nil.{u0}:=@List.not_mem_nil.{u0}
theorem zF:type_of% @PySem.F.plainAttrs_list:=@PySem.F.plainAttrs_list
theorem zG:type_of% @Nat.le_trans:=@Nat.le_trans
theorem zH.{u0}:type_of% @List.mem_cons_self.{u0}:=@List.mem_cons_self.{u0}
theorem zI:type_of% @Bool.and_eq_true:=@Bool.and_eq_true
theorem zJ:type_of% @PySem.wpAny_holding:=@PySem.wpAny_holding
theorem zK.{u0}:type_of% @List.getElem?_eq_getElem.{u0}:=@List.getElem?_eq_getElem.{u0}
theorem zL:type_of% @Nat.lt_or_ge:=@Nat.lt_or_ge
theorem zM.{u0}:type_of% @List.take_append_drop.{u0}:=@List.take_append_drop.{u0}
theorem zN.{u0}:type_of% @Array.toList_append.{u0}:=@Array.toList_append.{u0}
theorem zO.{u0,u1}:type_of% @Option.map_eq_some_iff.{u0,u1}:=@Option.map_eq_some_iff.{u0,u1}
theorem zP.{u0}:type_of% @List.mem_cons_of_mem.{u0}:=@List.mem_cons_of_mem.{u0}
theorem zQ.{u0}:type_of% @List.all_eq_true.{u0}:=@List.all_eq_true.{u0}
theorem zR.{u0}:type_of% @List.pairwise_cons.{u0}:=@List.pairwise_cons.{u0}
theorem zS:type_of% @PySem.W.mg_none_of:=@PySem.W.mg_none_of
theorem zT.{u0,u1}:type_of% @List.map_congr_left.{u0,u1}:=@List.map_congr_left.{u0,u1}
theorem zU:type_of% @PySem.wpAny_dictEntries:=@PySem.wpAny_dictEntries
theorem zV.{u0}:type_of% @List.nodup_nil.{u0}:=@List.nodup_nil.{u0}
theorem zW.{u0}:type_of% @List.getElem?_take.{u0}:=@List.getElem?_take.{u0}
theorem zX.{u0}:type_of% @List.length_filter_le.{u0}:=@List.length_filter_le.{u0}
theorem zY:type_of% @Nat.ne_of_gt:=@Nat.ne_of_gt
theorem zZ:type_of% @Bool.eq_iff_iff:=@Bool.eq_iff_iff
theorem z5:type_of% @PySem.wpAny_mono:=@PySem.wpAny_mono
theorem z6.{u0,u1}:type_of% @Prod.ext.{u0,u1}:=@Prod.ext.{u0,u1}
theorem z7.{u0}:type_of% @List.getElem?_cons_zero.{u0}:=@List.getElem?_cons_zero.{u0}
theorem z8:type_of% @of_decide_eq_false:=@of_decide_eq_false
theorem z9:type_of% @PyProof.Rows.wpS_forRange:=@PyProof.Rows.wpS_forRange
theorem Aa:type_of% @Int.le_trans:=@Int.le_trans
theorem Ab.{u0}:type_of% @List.append_nil.{u0}:=@List.append_nil.{u0}
theorem Ac.{u0}:type_of% @List.length_singleton.{u0}:=@List.length_singleton.{u0}
theorem Ad.{u0,u1}:type_of% @congrArg.{u0,u1}:=@congrArg.{u0,u1}
theorem Ae.{u0,u1}:type_of% @List.pairwise_map.{u0,u1}:=@List.pairwise_map.{u0,u1}
theorem Af:type_of% @Bool.eq_false_iff:=@Bool.eq_false_iff
theorem Ag:type_of% @PySem.Around.under_plainId:=@PySem.Around.under_plainId
theorem Ah.{u0}:type_of% @List.getElem?_drop.{u0}:=@List.getElem?_drop.{u0}
theorem Ai:type_of% @Int.one_mul:=@Int.one_mul
theorem Aj.{u0}:type_of% @List.length_nil.{u0}:=@List.length_nil.{u0}
theorem Ak:type_of% @PySem.Heap.get?_update_other:=@PySem.Heap.get?_update_other
theorem Al:type_of% @PySem.wpAny_truthy_bool:=@PySem.wpAny_truthy_bool
theorem Am:type_of% @PySem.wpAny_newObj_type:=@PySem.wpAny_newObj_type
theorem An.{u0}:type_of% @List.mem_iff_getElem?.{u0}:=@List.mem_iff_getElem?.{u0}
theorem Ao:type_of% @PySem.F.slot_list_append:=@PySem.F.slot_list_append
theorem Ap:type_of% @PySem.F.type_list_append:=@PySem.F.type_list_append
theorem Aq:type_of% @PySem.codeAny_builtin:=@PySem.codeAny_builtin
theorem Ar:type_of% @PyProof.Rows.boot_isinstance:=@PyProof.Rows.boot_isinstance
theorem As:type_of% @PySem.wpAny_call_entry:=@PySem.wpAny_call_entry
theorem At:type_of% @PySem.F.plainAttrs_dict:=@PySem.F.plainAttrs_dict
theorem Au.{u0}:type_of% @List.mem_of_mem_take.{u0}:=@List.mem_of_mem_take.{u0}
theorem Av:type_of% @Int.mul_assoc:=@Int.mul_assoc
theorem Aw:type_of% @Nat.le_of_lt:=@Nat.le_of_lt
theorem Ax:type_of% @PySem.boot_len:=@PySem.boot_len
theorem Ay:type_of% @PyProof.Rows.wpS_mono:=@PyProof.Rows.wpS_mono
theorem Az.{u0}:type_of% @List.take_of_length_le.{u0}:=@List.take_of_length_le.{u0}
theorem AA.{u0}:type_of% @List.filter_eq_self.{u0}:=@List.filter_eq_self.{u0}
theorem AB:type_of% @Int.mul_one:=@Int.mul_one
theorem AC.{u0}:type_of% @Array.size_push.{u0}:=@Array.size_push.{u0}
theorem AD.{u0}:type_of% @List.sum_append.{u0}:=@List.sum_append.{u0}
theorem AE:type_of% @PyProof.Rows.boot_sum:=@PyProof.Rows.boot_sum
theorem AF.{u0,u1}:type_of% @List.mem_filterMap.{u0,u1}:=@List.mem_filterMap.{u0,u1}
theorem AG:type_of% @Int.emod_lt_of_pos:=@Int.emod_lt_of_pos
theorem AH.{u0}:type_of% @List.filter_append.{u0}:=@List.filter_append.{u0}
theorem AI:type_of% @PySem.tupleKind_room_in1:=@PySem.tupleKind_room_in1
theorem AJ:type_of% @Nat.lt_irrefl:=@Nat.lt_irrefl
theorem AK:type_of% @Nat.zero_add:=@Nat.zero_add
theorem AL:type_of% @Int.mul_comm:=@Int.mul_comm
theorem AM:type_of% @Int.le_of_lt:=@Int.le_of_lt
theorem AN:type_of% @Int.add_mul:=@Int.add_mul
theorem AO:type_of% @Nat.lt_trans:=@Nat.lt_trans
theorem AQ:type_of% @Nat.zero_le:=@Nat.zero_le
theorem AR:type_of% @PySem.wpAny_rule:=@PySem.wpAny_rule
theorem AS:type_of% @PySem.Paired.snoc:=@PySem.Paired.snoc
end
namespace L2
open PySem PySem.Spec PyProof.Rows
abbrev Key:=Sum Int Str
def eR:Key→Value→Bool
 | .inl k,v=>Value.isInt k v
 | .inr x,v=>Value.isStrOf x v
def keyH(w:World):Key→Int
 | .inl k=>hashInt k
 | .inr x=>hashStr w x
theorem Yt:∀{k:Key}{v:Value},eR k v=true→(∃i t,k=Sum.inl i∧v=Value.int i t)∨(∃x t,k=Sum.inr x∧v=Value.str x t)
 | .inl i,v,h=>by
  obtain⟨t,e⟩:=Value.isInt_shape (k:=i) (v:=v) h
  exact .inl ⟨i,t,rfl,e⟩
 | .inr x,v,h=>by
  obtain⟨t,e⟩:=Value.isStrOf_shape (x:=x) (v:=v) h
  exact .inr ⟨x,t,rfl,e⟩
theorem m4(i:Int)(t:Tok):eR (.inl i) (.int i t)=true:=by simp[eR,Value.isInt]
theorem mP(x:Str)(t:Tok):eR (.inr x) (.str x t)=true:=by simp[eR,Value.isStrOf]
theorem vL(a b:Int):decide ((Sum.inl a:Key)=Sum.inl b)=(a == b):=by
 by_cases e:a=b
 ·subst e;simp
 ·have h:¬(Sum.inl a:Key)=Sum.inl b:=fun q=>e (Sum.inl.inj q)
  rw[ze h]
  exact(beq_eq_false_iff_ne.mpr e).symm
theorem vT(a b:Str):decide ((Sum.inr a:Key)=Sum.inr b)=decide (a=b):=by
 by_cases e:a=b
 ·subst e;simp
 ·have h:¬(Sum.inr a:Key)=Sum.inr b:=fun q=>e (Sum.inr.inj q)
  rw[ze h,ze e]
theorem vU(a:Int)(b:Str):decide ((Sum.inl a:Key)=Sum.inr b)=false:=ze (fun q=>nomatch q)
theorem vZ(a:Str)(b:Int):decide ((Sum.inr a:Key)=Sum.inl b)=false:=ze (fun q=>nomatch q)
def aj(prog:Program)(w:World):PySem.KeyKind prog w Key where
 is:=eR
 hash:=keyH w
 inj:=fun v a b ha hb=>by
  rcases Yt ha with⟨i,t,rfl,rfl⟩|⟨x,t,rfl,rfl⟩
  ·rcases Yt hb with⟨j,u,rfl,e⟩|⟨y,u,rfl,e⟩
   ·injection e with e1 _;rw[e1]
   ·exact nomatch e
  ·rcases Yt hb with⟨j,u,rfl,e⟩|⟨y,u,rfl,e⟩
   ·exact nomatch e
   ·injection e with e1 _;rw[e1]
 byValue:=fun k v h=>by
  rcases Yt h with⟨i,t,rfl,rfl⟩|⟨x,t,rfl,rfl⟩ <;> rfl
 pyHash:=fun hv h=>by
  rcases Yt hv with⟨i,t,rfl,rfl⟩|⟨x,t,rfl,rfl⟩
  ·exact wpAny_pyHash_int h
  ·exact wpAny_pyHash_str h
 eqBool:=fun hu hv h=>by
  rcases Yt hu with⟨i,t,rfl,rfl⟩|⟨x,t,rfl,rfl⟩
  ·rcases Yt hv with⟨j,u,rfl,rfl⟩|⟨y,u,rfl,rfl⟩
   ·rw[vL]at h;exact wpAny_eqBool_int h
   ·rw[vU]at h;exact SeqAt.EqAt.int_str i t y u _ _ _ _ h
  ·rcases Yt hv with⟨j,u,rfl,rfl⟩|⟨y,u,rfl,rfl⟩
   ·rw[vZ]at h;exact SeqAt.EqAt.str_int x t j u _ _ _ _ h
   ·rw[vT]at h;exact wpAny_eqBool_str h
 «strs»:=fun k x t v h=>by
  rcases Yt h with⟨i,u,rfl,e⟩|⟨y,u,rfl,e⟩
  ·exact nomatch e
  ·injection e with e1 _
   subst e1
   cases v <;> rfl
theorem Ue(prog:Program)(w:World)(i:Int)(t:Tok):(aj prog w).is (.inl i) (.int i t)=true:=m4 i t
theorem iu(prog:Program)(w:World)(x:Str)(t:Tok):(aj prog w).is (.inr x) (.str x t)=true:=mP x t
inductive V where
 | non | bl (b:Bool) | int (i:Int) | str (x:Str) | byt (b:Array UInt8) | flt (b:UInt64) | ref (a:Addr) | ty (n:String)
 deriving DecidableEq
def RelV:V→Value→Prop
 | .non,u=>u=Value.none
 | .bl b,u=>u=Value.bool b
 | .int i,u=>∃t,u=Value.int i t
 | .str x,u=>∃t,u=Value.str x t
 | .byt b,u=>∃t,u=Value.bytes b t
 | .flt b,u=>∃t,u=Value.float b t
 | .ref a,u=>u=Value.ref a
 | .ty n,u=>u=Value.type n
abbrev Vals:List V→List Value→Prop:=Paired RelV
theorem Vals.length{xs:List V}{us:List Value}(r:Vals xs us):xs.length=us.length:=yT r
theorem Vals.get:∀{xs:List V}{us:List Value}{i:Nat}{x:V},Vals xs us→xs[i]?=some x→∃u,us[i]?=some u∧RelV x u
 | _,_,_,_,.nil,e=>by simp at e
 | _,_,0,_,.cons r _,e=>by simp at e;subst e;exact⟨_,rfl,r⟩
 | _,_,i+1,x,.cons _ t,e=>by
  obtain⟨u,h1,h2⟩:=Vals.get (i:=i) (x:=x) t (by simpa using e)
  exact⟨u,by simpa using h1,h2⟩
theorem Vals.set{x:V}{u:Value}(r:RelV x u):∀{xs:List V}{us:List Value}(i:Nat),Vals xs us→Vals (xs.set i x) (us.set i u)
 | _,_,_,.nil=>.nil
 | _,_,0,.cons _ t=>.cons r t
 | _,_,i+1,.cons q t=>.cons q (Vals.set r i t)
theorem Vals.append{xs ys:List V}{us ws:List Value}(h:Vals xs us)(s:Vals ys ws):Vals (xs++ys) (us++ws):=by
 induction h with
 | nil=>exact s
 | cons r t ih=>exact .cons r ih
theorem Vals.take:∀{xs:List V}{us:List Value}(n:Nat),Vals xs us→Vals (xs.take n) (us.take n)
 | _,_,0,_=>.nil
 | _,_,_+1,.nil=>.nil
 | _,_,n+1,.cons r t=>.cons r (Vals.take n t)
theorem Vals.drop:∀{xs:List V}{us:List Value}(n:Nat),Vals xs us→Vals (xs.drop n) (us.drop n)
 | _,_,0,r=>r
 | _,_,_+1,.nil=>.nil
 | _,_,n+1,.cons _ t=>Vals.drop n t
def RelO:Option V→Option Value→Prop
 | some v,some u=>RelV v u
 | none,none=>True
 | _,_=>False
def KV{κ:Type}:List (κ×V)→List (κ×Value)→Prop:=Paired fun(p:κ×V)(q:κ×Value)=>p.1=q.1∧RelV p.2 q.2
def kV:Key→V
 | .inl i=>.int i
 | .inr x=>.str x
inductive HO where
 | lst (xs:List V)
 | tup (xs:List V)
 | dK (kvs:List (Key×V)) | dT (kvs:List (List Key×V))
 | set (S:Int→Bool) (n:Nat)
 | ins (C dx:Addr) (fs:List (Str×V))
 | own (x:Addr)
 | xd (fs:List (Str×V))
 | met (f x:Addr)
 | rng (lo hi:Int)
 | frz (o:Obj) (u:HO)
 | tbl (ps:Array Value)
 | ext (φ:Heap→Prop)
abbrev Hp:=Addr→Option HO
def upd(H:Hp)(a:Addr)(o:HO):Hp:=fun b=>if b=a then some o else H b
theorem Z5{H:Hp}{a:Addr}{o:HO}:upd H a o a=some o:=by unfold upd;rw[yC rfl]
theorem Za{H:Hp}{a b:Addr}{o:HO}(h:b≠a):upd H a o b=H b:=by unfold upd;rw[yy h]
theorem rh{H:Hp}{a:Addr}{o u:HO}:upd (upd H a o) a u=upd H a u:=by
 funext b;unfold upd;split <;> rfl
theorem Ta{H:Hp}{a b:Addr}{o u:HO}(h:H a=some o)(h':H b=some u)(d:o≠u):a≠b:=by
 intro e;subst e;rw[h]at h';exact d (zt h')
theorem Zf{H:Hp}{a b:Addr}{o:HO}(h:H a=some o)(h':H b=none):a≠b:=by
 intro e;subst e;rw[h]at h';cases h'
def TupN(h:Heap)(a:Addr)(items:Array Value):Prop:=∃o,h.get? a=some o∧(o.cls=.type "tuple"∧o.dict=none)∧∃n,o.data=.seq items n
theorem TupN.tup{h:Heap}{a:Addr}{items:Array Value}(x:TupN h a items):IsTup h a items:=let ⟨o,e,c,n,d⟩:=x;⟨o,e,c.1,n,d⟩
theorem TupN.new(h:Heap)(items:Array Value):TupN (h.push {cls:=.type "tuple",data:=.seq items}) h.objs.size items:=⟨_,yX _ rfl,⟨rfl,rfl⟩,_,rfl⟩
section
variable(P:Program)(w:World)
def ObjOk(H:Hp)(h:Heap)(a:Addr):HO→Prop
 | .lst xs=>xs.length≤sizeLine∧∃(its:List Value)(n:Nat),Vals xs its∧h.get? a=some {cls:=.type "list",data:=.seq its.toArray n}
 | .tup xs=>xs.length≤sizeLine∧∃its:List Value,Vals xs its∧TupN h a its.toArray
 | .dK kvs=>kvs.length≤sizeLine∧(a == sysModules)=false∧∃vs,KV kvs vs∧h.DictOf (aj P w) a vs
 | .dT kvs=>kvs.length≤sizeLine∧(a == sysModules)=false∧∃xs:List (List Key×Addr×Value),
   Paired (fun(p:List Key×V)(q:List Key×Addr×Value)=>p.1=q.1∧H q.2.1=some (.tup (p.1.map kV))∧RelV p.2 q.2.2) kvs xs∧
   ∃o es ep,h.get? a=some o∧o.ExactDict∧o.data=.dict es ep∧es.toList=xs.map (entryOfKey (tupleKind (aj P w)))∧(xs.map (·.1)).Nodup
 | .set S n=>h.SetOf (intKind P w) a S n
 | .ins C dx fs=>H dx=some (.own a)∧fs.length≤1000∧dx≠a∧h.get? a=some (W.instObj C dx)∧
   ∃mA,h.Ns1 dx mA∧(∀f,RelO (fs.lookup f) (mA f))∧PySem.Within mA (fs.map (·.1))
 | .own _=>∃o,h.get? a=some o
 | .xd fs=>∃mA,h.Ns1 a mA∧∀f,RelO (fs.lookup f) (mA f)
 | .rng lo hi=>∃t u v,h.get? a=some {cls:=.type "range",data:=.fields #[.int lo t,.int hi u,.int 1 v]}
 | .frz o u=>h.get? a=some o∧ObjOk H h a u
 | .tbl ps=>h.get? a=some {cls:=.none,data:=.fields ps}
 | .met f x=>h.get? a=some (W.methodObj (.ref f) (.ref x))
 | .ext φ=>φ h∧(∃o,h.get? a=some o)∧∀h1 h2:Heap,φ h1→(∀o,h1.get? a=some o→h2.get? a=some o)→φ h2
def HOk(H:Hp)(h:Heap):Prop:=∀a o,H a=some o→ObjOk P w H h a o
end
section
variable{P:Program}{w:World}{H H':Hp}{h h':Heap}{a:Addr}{o:HO}
theorem ObjOk.lt(x:ObjOk P w H h a o):a<h.objs.size:=by
 cases o with
 | lst xs=>obtain⟨_,_,_,_,e⟩:=x;exact yM e
 | tup xs=>obtain⟨_,_,_,p⟩:=x;exact p.tup.lt
 | dK kvs=>obtain⟨_,_,_,_,o,_,_,e,_⟩:=x;exact yM e
 | dT kvs=>obtain⟨_,_,_,_,o,_,_,e,_⟩:=x;exact yM e
 | set S n=>obtain⟨o,_,_,_,e,_⟩:=x;exact yM e
 | ins C dx fs=>obtain⟨_,_,_,e,_⟩:=x;exact yM e
 | own y=>obtain⟨_,e⟩:=x;exact yM e
 | xd fs=>obtain⟨_,⟨_,_,_,e,_⟩,_⟩:=x;exact yM e
 | rng lo hi=>obtain⟨_,_,_,e⟩:=x;exact yM e
 | frz ob u=>obtain⟨e,_⟩:=x;exact yM e
 | tbl ps=>exact yM (show h.get? a=some _ from x)
 | met f y=>exact yM (show h.get? a=some _ from x)
 | ext φ=>obtain⟨_,⟨_,e⟩,_⟩:=x;exact yM e
theorem Paired.mapP{α β:Type}{F G:α→β→Prop}{l₁:List α}{l₂:List β}(h:Paired F l₁ l₂)(f:∀a b,F a b→G a b):Paired G l₁ l₂:=by
 induction h with
 | nil=>exact .nil
 | cons r t ih=>exact .cons (f _ _ r) ih
theorem ObjOk.stay(x:ObjOk P w H h a o)(k:∀b u,(b=a∨H b=some (.own a))→h.get? b=some u→h'.get? b=some u)(ho:∀b,H b=some (.own a)→H' b=some (.own a))(ht:∀b xs,H b=some (.tup xs)→H' b=some (.tup xs)):ObjOk P w H' h' a o:=by
 induction o with
 | lst xs=>obtain⟨z,its,n,r,e⟩:=x;exact⟨z,its,n,r,k _ _ (.inl rfl) e⟩
 | tup xs=>obtain⟨z,its,r,ob,e,c⟩:=x;exact⟨z,its,r,ob,k _ _ (.inl rfl) e,c⟩
 | dK kvs=>obtain⟨z,y,vs,r,ob,es,ep,e,c⟩:=x;exact⟨z,y,vs,r,ob,es,ep,k _ _ (.inl rfl) e,c⟩
 | dT kvs=>
  obtain⟨z,y,xs,r,ob,es,ep,e,c⟩:=x
  exact⟨z,y,xs,Paired.mapP r fun p q z=>⟨z.1,ht _ _ z.2.1,z.2.2⟩,ob,es,ep,k _ _ (.inl rfl) e,c⟩
 | set S n=>obtain⟨ob,es,ep,t,e,c⟩:=x;exact⟨ob,es,ep,t,k _ _ (.inl rfl) e,c⟩
 | ins C dx fs=>
  obtain⟨d,z,ne,e,mA,⟨od,es,ep,e2,c⟩,r⟩:=x
  exact⟨ho _ d,z,ne,k _ _ (.inl rfl) e,mA,⟨od,es,ep,k _ _ (.inr d) e2,c⟩,r⟩
 | own y=>obtain⟨ob,e⟩:=x;exact⟨ob,k _ _ (.inl rfl) e⟩
 | xd fs=>obtain⟨mA,⟨od,es,ep,e,c⟩,r⟩:=x;exact⟨mA,⟨od,es,ep,k _ _ (.inl rfl) e,c⟩,r⟩
 | rng lo hi=>obtain⟨t,u,v,e⟩:=x;exact⟨t,u,v,k _ _ (.inl rfl) e⟩
 | frz ob u ih=>obtain⟨e,q⟩:=x;exact⟨k _ _ (.inl rfl) e,ih q⟩
 | tbl ps=>
  have e:h.get? a=some {cls:=.none,data:=.fields ps}:=x
  show h'.get? a=some {cls:=.none,data:=.fields ps}
  exact k a _ (.inl rfl) e
 | met f y=>
  have e:h.get? a=some (W.methodObj (.ref f) (.ref y)):=x
  show h'.get? a=some (W.methodObj (.ref f) (.ref y))
  exact k a _ (.inl rfl) e
 | ext φ=>obtain⟨p,⟨o,e⟩,st⟩:=x;exact⟨st _ _ p fun o q=>k _ _ (.inl rfl) q,⟨o,k _ _ (.inl rfl) e⟩,st⟩
theorem HOk.lt(x:HOk P w H h)(e:H a=some o):a<h.objs.size:=(x a o e).lt
theorem HOk.fresh(x:HOk P w H h)(e:h.objs.size≤a):H a=none:=by
 cases q:H a with
 | none=>rfl
 | some u=>exact absurd (y4 (x.lt q) e) (AJ _)
theorem HOk.kept(x:HOk P w H h)(k:∀b u,h.get? b=some u→h'.get? b=some u):HOk P w H h':=fun a o e=>
 (x a o e).stay (fun b u _ q=>k b u q) (fun _ q=>q) fun _ _ q=>q
theorem HOk.laid(x:HOk P w H h)(k:∀b u,h.get? b=some u→h'.get? b=some u)(hp:h.objs.size≤a)(new:ObjOk P w (upd H a o) h' a o):HOk P w (upd H a o) h':=fun b u e=>by
 have hn:=x.fresh hp
 by_cases hb:b=a
 ·subst hb;rw[Z5]at e;cases e;exact new
 ·rw[Za hb]at e
  exact(x b u e).stay (fun c v _ q=>k c v q) (fun c q=>by rw[Za (Zf q hn)];exact q) fun c xs q=>by rw[Za (Zf q hn)];exact q
end
def Rd(H:Hp)(a:Addr)(u:HO):Prop:=H a=some u∨∃o,H a=some (.frz o u)
theorem Rd.ok{P:Program}{w:World}{H:Hp}{h:Heap}{a:Addr}{u:HO}(r:Rd H a u)(x:HOk P w H h):ObjOk P w H h a u:=by
 rcases r with r | ⟨o,r⟩
 ·exact x a u r
 ·obtain⟨_,q⟩:=x a _ r
  exact q
def Mut:Option HO→Prop
 | some (.lst _)=>True
 | some (.dK _)=>True
 | some (.dT _)=>True
 | some (.set _ _)=>True
 | some (.ins _ _ _)=>True
 | some (.ext _)=>True
 | _=>False
section
variable{P:Program}{w:World}{H:Hp}{h h':Heap}{x e:Addr}{o':HO}
theorem HOk.write(ok:HOk P w H h)(mu:Mut (H x))(he:e=x∨H e=some (.own x))(k:∀b u,b≠e→h.get? b=some u→h'.get? b=some u)(heo:∃u,h'.get? e=some u)(new:ObjOk P w (upd H x o') h' x o'):HOk P w (upd H x o') h':=fun b u q=>by
 have nown:∀c y,H c=some (.own y)→c≠x:=fun c y r z=>by subst z;rw[r]at mu;exact mu
 have ntup:∀c xs,H c=some (.tup xs)→c≠x:=fun c xs r z=>by subst z;rw[r]at mu;exact mu
 by_cases hb:b=x
 ·subst hb;rw[Z5]at q;cases q;exact new
 ·rw[Za hb]at q
  by_cases hbe:b=e
  ·have q':H b=some (.own x):=by
    rcases he with z | z
    ·exact absurd (hbe.trans z) hb
    ·rw[hbe];exact z
   rw[q]at q';cases q'
   obtain⟨v,hv⟩:=heo
   exact⟨v,by rw[hbe];exact hv⟩
  ·refine(ok b u q).stay (fun c v hc r=>k c v ?_ r) (fun c r=>by rw[Za (nown c b r)];exact r) fun c xs r=>by rw[Za (ntup c xs r)];exact r
   rcases hc with rfl | hc
   ·exact hbe
   ·rintro rfl
    rcases he with z | z
    ·exact nown c b hc z
    ·rw[hc]at z;cases z;exact hb rfl
end
structure Un(fs ex:List Addr)(H H':Hp)(h h':Heap):Prop where
 keep:∀b o,h.get? b=some o→H b=none→b∉fs→b∉ex→h'.get? b=some o
 slot:∀b o,h.get? b=some o→H b=none→b∈fs→b∉ex→∃sl,h'.get? b=some {o with slots:=sl}
 free:∀b o,h.get? b=some o→H b=none→b∉ex→H' b=none
 there:∀b o,h.get? b=some o→b∉ex→∃o',h'.get? b=some o'
 tups:∀b xs,H b=some (.tup xs)→H' b=some (.tup xs)
 frzs:∀b o u,H b=some (.frz o u)→H' b=some (.frz o u)
 tbls:∀b ps,H b=some (.tbl ps)→∃more,H' b=some (.tbl (ps++more))
section
variable{fs fs' ex ex':List Addr}{H H1 H2:Hp}{h h1 h2 h':Heap}{a x e:Addr}{o:HO}
theorem Un.any(u:Un fs ex H H1 h h1){b:Addr}{ob:Obj}(q:h.get? b=some ob)(n:H b=none)(hx:b∉ex):∃sl,h1.get? b=some {ob with slots:=sl}:=by
 by_cases hb:b∈fs
 ·exact u.slot b ob q n hb hx
 ·exact⟨ob.slots,u.keep b ob q n hb hx⟩
theorem Un.kept(k:∀b u,h.get? b=some u→h'.get? b=some u):Un fs ex H H h h':=
 ⟨fun b ob q _ _ _=>k b ob q,fun b ob q _ _ _=>⟨ob.slots,k b ob q⟩,fun _ _ _ n _=>n,fun b ob q _=>⟨ob,k b ob q⟩,fun _ _ q=>q,fun _ _ _ q=>q,fun _ ps q=>⟨#[],by rw[q];simp⟩⟩
theorem Un.refl:Un fs ex H H h h:=Un.kept fun _ _ q=>q
theorem Un.laid(k:∀b u,h.get? b=some u→h'.get? b=some u)(hp:h.objs.size≤a)(hn:H a=none):Un fs ex H (upd H a o) h h' where
 keep:=fun b u q _ _ _=>k b u q
 slot:=fun b u q _ _ _=>⟨u.slots,k b u q⟩
 free:=fun b u q n _=>by rw[Za (yW (y4 (yM q) hp))];exact n
 there:=fun b u q _=>⟨u,k b u q⟩
 tups:=fun b xs q=>by rw[Za (Zf q hn)];exact q
 frzs:=fun b u xs q=>by rw[Za (Zf q hn)];exact q
 tbls:=fun b ps q=>⟨#[],by rw[Za (Zf q hn),q];simp⟩
theorem Un.write(mu:Mut (H x))(he:e=x∨H e=some (.own x))(k:∀b u,b≠e→h.get? b=some u→h'.get? b=some u)(heo:∃u,h'.get? e=some u):Un fs ex H (upd H x o) h h':=by
 have hx:∀b,H b=none→b≠x:=fun b n z=>by subst z;rw[n]at mu;exact mu
 have hb:∀b,H b=none→b≠e:=fun b n z=>by
  subst z
  rcases he with r | r
  ·exact hx b n r
  ·rw[n]at r;cases r
 have hm:∀b u,H b=some u→¬Mut (some u)→b≠x:=fun b u q nm z=>by subst z;rw[q]at mu;exact nm mu
 refine⟨fun b u q n _ _=>k b u (hb b n) q,fun b u q n _ _=>⟨u.slots,k b u (hb b n) q⟩,fun b u q n _=>by rw[Za (hx b n)];exact n,fun b u q _=>?_,
  fun b xs q=>by rw[Za (hm b _ q fun z=>z)];exact q,fun b u xs q=>by rw[Za (hm b _ q fun z=>z)];exact q,fun b ps q=>⟨#[],by rw[Za (hm b _ q fun z=>z),q];simp⟩⟩
 by_cases hbe:b=e
 ·subst hbe;exact heo
 ·exact⟨u,k b u hbe q⟩
end
def trk(h:Heap)(H:Hp):List Addr:=(List.range h.objs.size).filter fun a=>(H a).isSome
def eJ(h:Heap)(H:Hp):Heap:=W.hideAll h (trk h H)
theorem mB(h:Heap)(H:Hp):(eJ h H).objs.size=h.objs.size:=W.hideAll_size _ _
theorem nY{h:Heap}{H:Hp}{b:Addr}{o:Obj}(e:h.get? b=some o)(n:H b=none):(eJ h H).get? b=some o:=
 W.hideAll_get _ e fun hm=>by
  have q:(H b).isSome=true:=(zu.mp hm).2
  rw[n]at q;simp at q
theorem tD{h:Heap}{H:Hp}{b:Addr}{o:Obj}(e:(eJ h H).get? b=some o):h.get? b=some o∧H b=none:=by
 have e':h.get? b=some o:=W.of_hideAll (trk h H) e
 refine⟨e',?_⟩
 cases q:H b with
 | none=>rfl
 | some x=>
  have hm:b∈trk h H:=List.mem_filter.mpr ⟨List.mem_range.mpr (Heap.lt_size e'),by simp[q]⟩
  have z:(eJ h H).get? b=none:=W.hideAll_none (trk h H) hm
  rw[z]at e;cases e
structure Mod(K:W.Frag)(mg:Str→Option Value)(base:Heap):Prop where
 kin:K.In base
 glob:base.Ns mainGlobals mg
 blt:∃mb,base.Ns builtinsNs mb∧∀x:Str,x≠"__name__"→mb x=bootBuiltins x
 nolimit:base.NoLimit
structure Cx where
 prog:Program
 w:World
 K:W.Frag
 mg:Str→Option Value
 base:Heap
 A:Around
 N:List Str
 s₀:Shared
 H₀:Hp
 env:Env
 outer:List Env
 stack:List Env
 ex:List Addr
 fn:Str→Bool
 calm:Bool
 pn:List (Addr×Obj)
 xe:Value→Shared→Prop
def frs(l:List Env):List Addr:=l.filterMap (·.frame)
abbrev Cx.fs(X:Cx):List Addr:=frs X.outer
def Vis(sc:Scope)(x:Str):Prop:=sc.names.lookup x=some .local∨sc.names.lookup x=some .cell∨sc.names.lookup x=some .free
def Loc(sc:Scope)(x:Str):Prop:=sc.names.lookup x=some .local∨sc.names.lookup x=some .cell
def Look(env:Env)(h:Heap)(m:Str→Option Value)(x:Str)(u:Value):Prop:=
 (env.kindOf x=some .local∧m x=some u)∨((env.kindOf x=some .cell∨env.kindOf x=some .free)∧∃c,env.cells.lookup x=some c∧h.IsCell c (some u))
structure Cx.Ok(X:Cx):Prop where
 mod:Mod X.K X.mg X.base
 kind:X.env.scope.kind=.function
 glob:X.env.globals=mainGlobals
 blt:X.env.builtins=builtinsNs
 above:X.s₀.heap.objs.size≤X.env.locals
 inj:∀x y c,X.env.cells.lookup x=some c→X.env.cells.lookup y=some c→x=y
 has:∀x,(X.env.kindOf x=some .cell∨X.env.kindOf x=some .free)→∃c,X.env.cells.lookup x=some c
 cab:∀x c,X.fn x=true→X.env.cells.lookup x=some c→X.s₀.heap.objs.size≤c
 hd:X.calm=true→X.A.handled=none
 frames:X.A.frames=some X.stack
 stk:X.stack=X.outer∨(X.stack=X.env::X.outer∧X.env.frame=some X.env.locals)
 exf:∀b∈X.ex,b≠X.env.locals∧∀x c,X.env.cells.lookup x=some c→c≠b
 bs:∀b o,X.base.get? b=some o→X.s₀.heap.get? b=some o∧X.H₀ b=none
 bsz:X.base.objs.size≤X.s₀.heap.objs.size
 noex:∀b o,X.base.get? b=some o→b∉X.ex
 exfs:∀b∈X.ex,b∉X.fs
 funs:X.s₀.heap.FunFrames X.base X.outer
 frf:∀b∈X.fs,X.H₀ b=none
structure Inv(X:Cx)(AU:List (Addr×Obj))(σ:List (Option V))(H:Hp)(s:Shared):Prop where
 ok:X.Ok
 os:s.os=X.s₀.os
 bare:AllBare s.gens
 base:Un X.fs X.ex X.H₀ H X.s₀.heap s.heap
 loc:∃m,s.heap.Ns X.env.locals m∧∀(i:Nat)(x:Str)(v:V),X.N[i]?=some x→σ[i]?=some (some v)→Vis X.env.scope x→∃u,RelV v u∧Look X.env s.heap m x u
 cell:∀x c,X.env.cells.lookup x=some c→∃v,s.heap.IsCell c v
 free:H X.env.locals=none
 freeC:∀x c,X.env.cells.lookup x=some c→H c=none
 pin:∀p∈X.pn++AU,s.heap.get? p.1=some p.2∧H p.1=none∧p.1≠X.env.locals∧p.1∉X.fs∧∀v,p.2.data≠.cell v
 hok:HOk X.prog X.w H s.heap
 len:σ.length=X.N.length
section
variable{X:Cx}{AU:List (Addr×Obj)}{σ:List (Option V)}{H H':Hp}{s:Shared}{h':Heap}
theorem Cx.Ok.nofr(ok:X.Ok){b:Addr}{o:Obj}(e:X.base.get? b=some o):b∉X.fs:=fun hb=>by
 have:=(ok.funs.mem hb).1
 rw[e]at this;cases this
theorem Inv.bs(I:Inv X AU σ H s):∀b o,X.base.get? b=some o→s.heap.get? b=some o∧H b=none:=fun b o e=>
 ⟨I.base.keep b o (I.ok.bs b o e).1 (I.ok.bs b o e).2 (I.ok.nofr e) (I.ok.noex b o e),I.base.free b o (I.ok.bs b o e).1 (I.ok.bs b o e).2 (I.ok.noex b o e)⟩
theorem Inv.bk(I:Inv X AU σ H s):∀b o,X.base.get? b=some o→s.heap.get? b=some o:=fun b o e=>(I.bs b o e).1
theorem Inv.mod(I:Inv X AU σ H s):Mod X.K X.mg X.base:=I.ok.mod
theorem Inv.kIn(I:Inv X AU σ H s):X.K.In s.heap:=I.ok.mod.kin.keeps I.bk
theorem Inv.lt(I:Inv X AU σ H s):X.env.locals<s.heap.objs.size:=let ⟨_,hn,_⟩:=I.loc;hn.lt
theorem Inv.sz(I:Inv X AU σ H s):X.s₀.heap.objs.size≤s.heap.objs.size:=zG I.ok.above (Aw I.lt)
theorem Inv.nofs(I:Inv X AU σ H s){a:Addr}(h:s.heap.objs.size≤a):a∉X.fs:=fun hb=>by
 obtain⟨_,o,ho,_⟩:=I.ok.funs.mem hb
 exact absurd (y4 (yM ho) (zG I.sz h)) (AJ _)
theorem Inv.cne(I:Inv X AU σ H s):∀x c,X.env.cells.lookup x=some c→c≠X.env.locals:=fun x c e z=>by
 obtain⟨v,o,ho,hd⟩:=I.cell x c e
 obtain⟨m,⟨o',es,ep,ho',hd',_⟩,_⟩:=I.loc
 rw[z,ho']at ho;cases ho;rw[hd']at hd;cases hd
theorem Inv.funs(I:Inv X AU σ H s):s.heap.FunFrames X.base X.outer:=by
 have all:∀(l:List Env),(∀b∈frs l,b∈X.fs)→X.s₀.heap.FunFrames X.base l→s.heap.FunFrames X.base l:=by
  intro l
  induction l with
  | nil=>intro _ _;trivial
  | cons env r ih=>
   intro hs hl
   obtain⟨hk,⟨L,o,hf,hn,ho,hd⟩,hr⟩:=hl
   have hL:L∈X.fs:=hs L (by unfold frs;rw[List.filterMap_cons,hf];exact zH)
   obtain⟨sl,e⟩:=I.base.slot L o ho (I.ok.frf L hL) hL fun z=>I.ok.exfs L z hL
   exact⟨hk,⟨L,_,hf,hn,e,hd⟩,ih (fun b hb=>hs b (by unfold frs;rw[List.filterMap_cons,hf];exact zP _ hb)) hr⟩
 exact all X.outer (fun _ hb=>hb) I.ok.funs
theorem Inv.stack(I:Inv X AU σ H s):s.heap.FunFrames X.base X.stack:=by
 rcases I.ok.stk with e | ⟨e,hf⟩
 ·rw[e];exact I.funs
 ·rw[e]
  obtain⟨m,hn,_⟩:=I.loc
  refine .cons (by rw[I.ok.kind];decide) hf hn ?_ I.funs
  exact Heap.get?_none_of_le (zG I.ok.bsz I.ok.above)
theorem Inv.stkSub(I:Inv X AU σ H s):∀b∈frs X.stack,b∈X.env.locals::X.fs:=fun b hb=>by
 rcases I.ok.stk with e | ⟨e,hf⟩
 ·rw[e]at hb;exact zP _ hb
 ·rw[e]at hb
  unfold frs at hb
  rw[List.filterMap_cons,hf]at hb
  exact hb
theorem Inv.stkFree(I:Inv X AU σ H s):∀b∈frs X.stack,H b=none:=fun b hb=>by
 rcases yU.mp (I.stkSub b hb)with e | hb
 ·rw[e];exact I.free
 ·obtain⟨_,o,ho,_⟩:=I.ok.funs.mem hb
  exact I.base.free b o ho (I.ok.frf b hb) fun z=>I.ok.exfs b z hb
theorem Inv.step{g':Array GenState}{t':Nat}{d':Drawn}{ch:List Addr}(I:Inv X AU σ H s)(hch:∀b∈ch,(b∈X.ex∨X.s₀.heap.objs.size≤b)∧b≠X.env.locals∧(∀x c,X.env.cells.lookup x=some c→c≠b)∧∀p∈X.pn++AU,p.1≠b)(keep:∀b o,b≠X.env.locals→b∉X.fs→b∉ch→s.heap.get? b=some o→H b=none→h'.get? b=some o)(slot:∀b o,b≠X.env.locals→b∈X.fs→b∉ch→s.heap.get? b=some o→H b=none→∃sl,h'.get? b=some {o with slots:=sl})(free:∀b o,b∉ch→s.heap.get? b=some o→H b=none→H' b=none)(there:∀b o,b∉ch→s.heap.get? b=some o→∃o',h'.get? b=some o')(tups:∀b xs,H b=some (.tup xs)→H' b=some (.tup xs))(frzs:∀b o u,H b=some (.frz o u)→H' b=some (.frz o u))(tbls:∀b ps,H b=some (.tbl ps)→∃more,H' b=some (.tbl (ps++more)))(ns:∀m,s.heap.Ns X.env.locals m→h'.Ns X.env.locals m)(hok:HOk X.prog X.w H' h')(hg:AllBare g'):
  Inv X AU σ H' {s with heap:=h',gens:=g',drawn:=d',toks:=t'}:=by
 have neL:∀b o,X.s₀.heap.get? b=some o→b≠X.env.locals:=fun b o e=>yW (y4 (yM e) I.ok.above)
 have neC:∀b o,X.s₀.heap.get? b=some o→b∉X.ex→b∉ch:=fun b o e hx hb=>by
  rcases(hch b hb).1 with z | z
  ·exact hx z
  ·exact absurd (y4 (yM e) z) (AJ _)
 have cellK:∀x c,X.env.cells.lookup x=some c→∀v,s.heap.IsCell c v→h'.IsCell c v:=fun x c e v ⟨o,ho,hd⟩=>by
  have nch:c∉ch:=fun z=>(hch c z).2.2.1 x c e rfl
  by_cases hc:c∈X.fs
  ·obtain⟨sl,q⟩:=slot c o (I.cne x c e) hc nch ho (I.freeC x c e)
   exact⟨_,q,hd⟩
  ·exact⟨o,keep c o (I.cne x c e) hc nch ho (I.freeC x c e),hd⟩
 refine⟨I.ok,I.os,hg,⟨fun b o e n hb hx=>?_,fun b o e n hb hx=>?_,fun b o e n hx=>?_,fun b o e hx=>?_,fun b xs e=>tups b xs (I.base.tups b xs e),fun b o xs e=>frzs b o xs (I.base.frzs b o xs e),fun b ps e=>?_⟩,?_,fun x c e=>?_,?_,fun x c e=>?_,fun p hp=>?_,hok,I.len⟩
 ·exact keep b o (neL b o e) hb (neC b o e hx) (I.base.keep b o e n hb hx) (I.base.free b o e n hx)
 ·obtain⟨sl,e1⟩:=I.base.slot b o e n hb hx
  obtain⟨sl',e2⟩:=slot b _ (neL b o e) hb (neC b o e hx) e1 (I.base.free b o e n hx)
  exact⟨sl',e2⟩
 ·obtain⟨o',e1⟩:=I.base.there b o e hx
  exact free b o' (neC b o e hx) e1 (I.base.free b o e n hx)
 ·obtain⟨o',e1⟩:=I.base.there b o e hx
  exact there b o' (neC b o e hx) e1
 ·obtain⟨m1,e1⟩:=I.base.tbls b ps e
  obtain⟨m2,e2⟩:=tbls b _ e1
  exact⟨m1++m2,by rw[e2,Array.append_assoc]⟩
 ·obtain⟨m,hn,hl⟩:=I.loc
  refine⟨m,ns m hn,fun i x v e1 e2 e3=>?_⟩
  obtain⟨u,r,l⟩:=hl i x v e1 e2 e3
  refine⟨u,r,?_⟩
  rcases l with l | ⟨k,c,e,z⟩
  ·exact .inl l
  ·exact .inr ⟨k,c,e,cellK x c e _ z⟩
 ·obtain⟨v,z⟩:=I.cell x c e
  exact⟨v,cellK x c e v z⟩
 ·obtain⟨m,⟨o,_,_,ho,_⟩,_⟩:=I.loc
  exact free _ o (fun z=>(hch _ z).2.1 rfl) ho I.free
 ·obtain⟨v,o,ho,hd⟩:=I.cell x c e
  exact free c o (fun z=>(hch c z).2.2.1 x c e rfl) ho (I.freeC x c e)
 ·obtain⟨e,n,ne,nf,d⟩:=I.pin p hp
  have nch:p.1∉ch:=fun z=>(hch p.1 z).2.2.2 p hp rfl
  exact⟨keep p.1 p.2 ne nf nch e n,free p.1 p.2 nch e n,ne,nf,d⟩
theorem Inv.un{t':Nat}(I:Inv X AU σ H s)(u:Un X.fs [] H H' s.heap h')(hok:HOk X.prog X.w H' h'):Inv X AU σ H' {s with heap:=h',toks:=t'}:=by
 obtain⟨m,⟨o,es,ep,ho,r⟩,_⟩:=id I.loc
 obtain⟨sl,hL⟩:=u.any ho I.free (by simp)
 exact I.step (g':=s.gens) (d':=s.drawn) (ch:=[]) (fun _ z=>nomatch z) (fun b o _ hb _ e n=>u.keep b o e n hb (by simp)) (fun b o _ hb _ e n=>u.slot b o e n hb (by simp)) (fun b o _ e n=>u.free b o e n (by simp)) (fun b o _ e=>u.there b o e (by simp)) u.tups u.frzs u.tbls (fun m' hm=>by
  obtain⟨o',es',ep',ho',r'⟩:=hm
  rw[ho]at ho';cases ho'
  exact⟨_,es',ep',hL,r'⟩) hok I.bare
theorem Inv.call{g':Array GenState}{t':Nat}{d':Drawn}{ch:List Addr}(I:Inv X AU σ H s)(u:Un (frs X.stack) ch H H' s.heap h')(hok:HOk X.prog X.w H' h')(hg:AllBare g')(hch:∀b∈ch,(b∈X.ex∨X.s₀.heap.objs.size≤b)∧b≠X.env.locals∧(∀x c,X.env.cells.lookup x=some c→c≠b)∧∀p∈X.pn++AU,p.1≠b):
  Inv X AU σ H' {s with heap:=h',gens:=g',drawn:=d',toks:=t'}:=by
 obtain⟨m,⟨o,es,ep,ho,r⟩,_⟩:=id I.loc
 obtain⟨sl,hL⟩:=u.any ho I.free fun z=>(hch _ z).2.1 rfl
 exact I.step (ch:=ch) hch (fun b o hL hb hc e n=>u.keep b o e n (fun z=>(yU.mp (I.stkSub b z)).elim hL hb) hc) (fun b o _ _ hc e n=>u.any e n hc) (fun b o hc e n=>u.free b o e n hc) (fun b o hc e=>u.there b o e hc) u.tups u.frzs u.tbls (fun m' hm=>by
  obtain⟨o',es',ep',ho',r'⟩:=hm
  rw[ho]at ho';cases ho'
  exact⟨_,es',ep',hL,r'⟩) hok hg
theorem Inv.turned{t':Nat}{it:Addr}(I:Inv X AU σ H s)(k:∀b o,b≠it→s.heap.get? b=some o→h'.get? b=some o)(hn:H it=none)(hL:it≠X.env.locals)(h1:it∈X.ex∨X.s₀.heap.objs.size≤it)(h2:∀x c,X.env.cells.lookup x=some c→c≠it)(h3:∀p∈X.pn++AU,p.1≠it):Inv X AU σ H {s with heap:=h',toks:=t'}:=by
 have nit:∀b u,H b=some u→b≠it:=fun b u e z=>by rw[z,hn]at e;cases e
 refine I.step (g':=s.gens) (d':=s.drawn) (ch:=[it]) (fun b hb=>?_) (fun b o _ _ hc e _=>k b o (fun z=>hc (by simp[z])) e) (fun b o _ _ hc e _=>⟨o.slots,k b o (fun z=>hc (by simp[z])) e⟩) (fun _ _ _ _ n=>n)
  (fun b o hc e=>⟨o,k b o (fun z=>hc (by simp[z])) e⟩) (fun _ _ e=>e) (fun _ _ _ e=>e) (fun b ps e=>⟨#[],by rw[e];simp⟩) (fun m hm=>?_) (fun b u e=>?_) I.bare
 ·have e:b=it:=by simpa using hb
  subst e
  exact⟨h1,hL,h2,h3⟩
 ·obtain⟨o,es,ep,ho,r⟩:=hm
  exact⟨o,es,ep,k _ o (Ne.symm hL) ho,r⟩
 ·refine(I.hok b u e).stay (fun c v hc q=>k c v ?_ q) (fun _ q=>q) fun _ _ q=>q
  rcases hc with z | z
  ·rw[z];exact nit b u e
  ·exact nit c _ z
theorem Inv.tok(I:Inv X AU σ H s)(t:Nat):Inv X AU σ H {s with toks:=t}:=I.un (h':=s.heap) (t':=t) Un.refl I.hok
theorem Inv.kept{t':Nat}(I:Inv X AU σ H s)(k:∀b u,s.heap.get? b=some u→h'.get? b=some u):Inv X AU σ H {s with heap:=h',toks:=t'}:=I.un (Un.kept k) (I.hok.kept k)
theorem Inv.laid{a:Addr}{o:HO}{t':Nat}(I:Inv X AU σ H s)(k:∀b u,s.heap.get? b=some u→h'.get? b=some u)(hp:s.heap.objs.size≤a)(new:ObjOk X.prog X.w (upd H a o) h' a o):
  Inv X AU σ (upd H a o) {s with heap:=h',toks:=t'}:=I.un (Un.laid k hp (I.hok.fresh hp)) (I.hok.laid k hp new)
theorem Inv.write{x e:Addr}{o:HO}{t':Nat}(I:Inv X AU σ H s)(mu:Mut (H x))(he:e=x∨H e=some (.own x))(k:∀b u,b≠e→s.heap.get? b=some u→h'.get? b=some u)(heo:∃u,h'.get? e=some u)(new:ObjOk X.prog X.w (upd H x o) h' x o):Inv X AU σ (upd H x o) {s with heap:=h',toks:=t'}:=I.un (Un.write mu he k heo) (I.hok.write mu he k heo new)
theorem Inv.weak{σ':List (Option V)}(I:Inv X AU σ H s)(hl:σ'.length=σ.length)(w:∀(i:Nat) v,σ'[i]?=some (some v)→σ[i]?=some (some v)):Inv X AU σ' H s:=
 ⟨I.ok,I.os,I.bare,I.base,let ⟨m,hn,hl'⟩:=I.loc;⟨m,hn,fun i x v e1 e2 e3=>hl' i x v e1 (w i v e2) e3⟩,I.cell,I.free,I.freeC,I.pin,I.hok,hl.trans I.len⟩
theorem Inv.pins_of{pins':List (Addr×Obj)}(I:Inv X AU σ H s)(h:∀p∈pins',s.heap.get? p.1=some p.2∧H p.1=none∧p.1≠X.env.locals∧p.1∉X.fs∧∀v,p.2.data≠.cell v):Inv X pins' σ H s:=
 ⟨I.ok,I.os,I.bare,I.base,I.loc,I.cell,I.free,I.freeC,fun p hp=>(yY.mp hp).elim (fun z=>I.pin p (zw _ z)) (h p),I.hok,I.len⟩
theorem iE{N:List Str}(hN:N.Nodup){i j:Nat}{x:Str}(a:N[i]?=some x)(b:N[j]?=some x):i=j:=by
 obtain⟨h1,e1⟩:=yK.mp a
 obtain⟨h2,e2⟩:=yK.mp b
 exact(List.getElem_inj hN).mp (e1.trans e2.symm)
theorem O9{M:Model}{A:Around}{E:Value→Shared→Prop}{i:Nat}{x:Str}{v:V}{u:Value}{Q:Unit→Shared→Prop}(I:Inv X AU σ H s)(hN:X.N.Nodup)(hi:X.N[i]?=some x)(hx:Loc X.env.scope x)(r:RelV v u)(h:∀s',Inv X AU (σ.set i (some v)) H s'→(∃a,Heap.SameBut a s.heap s'.heap∧(a=X.env.locals∨X.env.cells.lookup x=some a))→Q () s')(hf:X.fn x=true∨X.env.scope.names.lookup x=some .local:=by first | exact .inl rfl | exact .inr rfl | assumption):wpAny M A (storeName X.env x u) Q E s:=by
 obtain⟨m,hn,hl⟩:=id I.loc
 have hcls:(X.env.scope.kind == .class || (X.env.scope.kind == .module && X.env.locals != X.env.globals))=false:=by rw[I.ok.kind];rfl
 have hiσ:i<σ.length:=by rw[I.len];exact(yK.mp hi).1
 have cne:=I.cne
 have tracked:∀{a:Addr}{h':Heap},(∃o,s.heap.get? a=some o∧H a=none)→Heap.SameBut a s.heap h'→HOk X.prog X.w H h':=fun{a h'} ha hs b ob e=>by
  obtain⟨_,_,hfree⟩:=ha
  refine(I.hok b ob e).stay (fun c w' hc q=>(hs.2 c ?_).trans q) (fun _ q=>q) fun _ _ q=>q
  rintro rfl
  rcases hc with rfl | hc
  ·rw[hfree]at e;cases e
  ·rw[hfree]at hc;cases hc
 rcases hx with hk | hk
 ·refine wpAny_storeName_local hk hn (fun h' hn' hs=>?_) hcls
  obtain⟨oL,_,_,hoL,_⟩:=id hn
  refine h _ ⟨I.ok,I.os,I.bare,⟨fun b o e n hb hx=>?_,fun b o e n hb hx=>?_,I.base.free,fun b o e hx=>?_,I.base.tups,I.base.frzs,I.base.tbls⟩,⟨_,hn',fun j y v' e1 e2 e3=>?_⟩,fun y c e=>?_,I.free,I.freeC,fun p hp=>?_,tracked ⟨oL,hoL,I.free⟩ hs,by simpa using I.len⟩ ⟨_,hs,.inl rfl⟩
  ·exact(hs.2 b (yW (y4 (yM e) I.ok.above))).trans (I.base.keep b o e n hb hx)
  ·obtain⟨sl,e1⟩:=I.base.slot b o e n hb hx
   exact⟨sl,(hs.2 b (yW (y4 (yM e) I.ok.above))).trans e1⟩
  ·obtain⟨o',e1⟩:=I.base.there b o e hx
   exact⟨o',(hs.2 b (yW (y4 (yM e) I.ok.above))).trans e1⟩
  ·by_cases hj:j=i
   ·subst hj
    rw[hi]at e1;cases e1
    rw[List.getElem?_set_self hiσ]at e2
    cases e2
    exact⟨u,r,.inl ⟨hk,by simp⟩⟩
   ·rw[List.getElem?_set_ne (Ne.symm hj)]at e2
    obtain⟨u',r',q⟩:=hl j y v' e1 e2 e3
    refine⟨u',r',?_⟩
    rcases q with⟨k,e⟩|⟨k,c,e,z⟩
    ·refine .inl ⟨k,?_⟩
     have:y≠x:=fun e=>hj (iE hN e1 (e ▸ hi))
     simp[this,e]
    ·exact .inr ⟨k,c,e,z.sameBut hs (cne y c e)⟩
  ·obtain⟨w',z⟩:=I.cell y c e
   exact⟨w',z.sameBut hs (cne y c e)⟩
  ·obtain⟨e,n,ne,nf,d⟩:=I.pin p hp
   exact⟨(hs.2 p.1 ne).trans e,n,ne,nf,d⟩
 ·have hfn:X.fn x=true:=by
   rcases hf with z | z
   ·exact z
   ·rw[z]at hk;cases hk
  obtain⟨c,hc⟩:=I.ok.has x (.inl hk)
  obtain⟨w',z⟩:=I.cell x c hc
  refine wpAny_storeName_cell I.ok.kind hk hc z (fun h' hc' hs=>?_)
  obtain⟨oc,hoc,hocd⟩:=id z
  refine h {s with heap:=h'} ⟨I.ok,I.os,I.bare,⟨fun b o e n hb hx=>?_,fun b o e n hb hx=>?_,I.base.free,fun b o e hx=>?_,I.base.tups,I.base.frzs,I.base.tbls⟩,⟨m,hn.sameBut hs (Ne.symm (cne x c hc)),fun j y v' e1 e2 e3=>?_⟩,fun y c' e=>?_,I.free,I.freeC,fun p hp=>?_,tracked ⟨oc,hoc,I.freeC x c hc⟩ hs,by simpa using I.len⟩ ⟨c,hs,.inr hc⟩
  ·exact(hs.2 b (yW (y4 (yM e) (I.ok.cab x c hfn hc)))).trans (I.base.keep b o e n hb hx)
  ·obtain⟨sl,e1⟩:=I.base.slot b o e n hb hx
   exact⟨sl,(hs.2 b (yW (y4 (yM e) (I.ok.cab x c hfn hc)))).trans e1⟩
  ·obtain⟨o',e1⟩:=I.base.there b o e hx
   exact⟨o',(hs.2 b (yW (y4 (yM e) (I.ok.cab x c hfn hc)))).trans e1⟩
  ·by_cases hj:j=i
   ·subst hj
    rw[hi]at e1;cases e1
    rw[List.getElem?_set_self hiσ]at e2
    cases e2
    exact⟨u,r,.inr ⟨.inl hk,c,hc,hc'⟩⟩
   ·rw[List.getElem?_set_ne (Ne.symm hj)]at e2
    obtain⟨u',r',q⟩:=hl j y v' e1 e2 e3
    refine⟨u',r',?_⟩
    rcases q with q | ⟨k,c',e,z'⟩
    ·exact .inl q
    ·refine .inr ⟨k,c',e,z'.sameBut hs ?_⟩
     rintro rfl
     exact hj (iE hN e1 (I.ok.inj _ _ _ e hc ▸ hi))
  ·by_cases hcc:c'=c
   ·subst hcc;exact⟨_,hc'⟩
   ·obtain⟨w2,z2⟩:=I.cell y c' e
    exact⟨w2,z2.sameBut hs hcc⟩
  ·obtain⟨e,n,ne,nf,d⟩:=I.pin p hp
   refine⟨(hs.2 p.1 ?_).trans e,n,ne,nf,d⟩
   intro q
   rw[q,hoc]at e
   have q':oc=p.2:=zt e
   exact d w' (by rw[←q'];exact hocd)
theorem ie{M:Model}{A:Around}{E:Value→Shared→Prop}{i:Nat}{x:Str}{v:V}{u:Value}{Q:Unit→Shared→Prop}(I:Inv X AU σ H s)(hN:X.N.Nodup)(hi:X.N[i]?=some x)(hx:Loc X.env.scope x)(r:RelV v u)(h:∀s',Inv X AU (σ.set i (some v)) H s'→Q () s')(hf:X.fn x=true∨X.env.scope.names.lookup x=some .local:=by first | exact .inl rfl | exact .inr rfl | assumption):wpAny M A (storeName X.env x u) Q E s:=
 O9 I hN hi hx r (fun s' I' _=>h s' I') hf
theorem Inv.call'{s':Shared}{ch:List Addr}(I:Inv X AU σ H s)(ho:s'.os=s.os)(u:Un (frs X.stack) ch H H' s.heap s'.heap)(hok:HOk X.prog X.w H' s'.heap)(hg:AllBare s'.gens)(hch:∀b∈ch,(b∈X.ex∨X.s₀.heap.objs.size≤b)∧b≠X.env.locals∧(∀x c,X.env.cells.lookup x=some c→c≠b)∧∀p∈X.pn++AU,p.1≠b):Inv X AU σ H' s':=by
 obtain⟨h',g',d',t',o'⟩:=s'
 have e:o'=s.os:=ho
 subst e
 exact I.call (g':=g') (t':=t') (d':=d') u hok hg hch
end
abbrev XK:=Value→Option Addr→Hp→Prop
abbrev St:=List (Option V)
abbrev VK:=V→Hp→Prop
abbrev TE:=St→Hp→VK→Prop
abbrev TT:=St→Hp→(Bool→Hp→Prop)→Prop
abbrev TA:=St→Hp→(List V→Hp→Prop)→Prop
structure Ends where
 nx:St→Hp→Prop
 rt:VK
 bk:St→Hp→Prop:=fun _ _=>False
 ct:St→Hp→Prop:=fun _ _=>False
abbrev TS:=Ends→St→Hp→Prop
def EP(X:Cx)(AU:List (Addr×Obj))(σ:St)(Q:VK)(u:Value)(s':Shared):Prop:=∃v H',Inv X AU σ H' s'∧RelV v u∧Q v H'
def TP(X:Cx)(AU:List (Addr×Obj))(σ:St)(Q:Bool→Hp→Prop)(b:Bool)(s':Shared):Prop:=∃H',Inv X AU σ H' s'∧Q b H'
def AP(X:Cx)(AU:List (Addr×Obj))(σ:St)(Q:List V→Hp→Prop)(us:List Value)(s':Shared):Prop:=∃vs H',Inv X AU σ H' s'∧Vals vs us∧Q vs H'
def SP(X:Cx)(AU:List (Addr×Obj))(D:Ends)(f:Flow)(s':Shared):Prop:=
 match f with
 | .next=>∃σ' H',Inv X AU σ' H' s'∧D.nx σ' H'
 | .brk=>∃σ' H',Inv X AU σ' H' s'∧D.bk σ' H'
 | .cont=>∃σ' H',Inv X AU σ' H' s'∧D.ct σ' H'
 | .ret u=>∃v σ' H',Inv X AU σ' H' s'∧RelV v u∧D.rt v H'
def PE(X:Cx)(e:Expr)(t:TE):Prop:=
 ∀(AU:List (Addr×Obj))(s:Shared)(σ:St)(H:Hp)(Q:VK),Inv X AU σ H s→t σ H Q→wpAny (model X.prog X.w) X.A (eval e X.env) (EP X AU σ Q) X.xe s
def PT(X:Cx)(e:Expr)(t:TT):Prop:=
 ∀(AU:List (Addr×Obj))(s:Shared)(σ:St)(H:Hp)(Q:Bool→Hp→Prop),Inv X AU σ H s→t σ H Q→wpAny (model X.prog X.w) X.A (isTrue e X.env (eval e X.env)) (TP X AU σ Q) X.xe s
def PW(X:Cx)(e:Expr)(t:TT):Prop:=
 ∀(whole:Sem Value)(AU:List (Addr×Obj))(s:Shared)(σ:St)(H:Hp)(Q:Bool→Hp→Prop),Inv X AU σ H s→t σ H Q→wpAny (model X.prog X.w) X.A (isTrue e X.env whole) (TP X AU σ Q) X.xe s
theorem PW.pt{X:Cx}{e:Expr}{t:TT}(h:PW X e t):PT X e t:=h _
def PA(X:Cx)(es:List Expr)(t:TA):Prop:=
 ∀(pos:Pos)(AU:List (Addr×Obj))(s:Shared)(σ:St)(H:Hp)(Q:List V→Hp→Prop),Inv X AU σ H s→t σ H Q→wpAny (model X.prog X.w) X.A (spliced (backTo pos (starEach es X.env))) (AP X AU σ Q) X.xe s
def PS(X:Cx)(st:Stmt)(t:TS):Prop:=
 ∀(AU:List (Addr×Obj))(s:Shared)(σ:St)(H:Hp)(D:Ends),Inv X AU σ H s→t D σ H→wpAny (model X.prog X.w) X.A (exec st X.env) (SP X AU D) X.xe s
def PSs(X:Cx)(st:List Stmt)(t:TS):Prop:=
 ∀(AU:List (Addr×Obj))(s:Shared)(σ:St)(H:Hp)(D:Ends),Inv X AU σ H s→t D σ H→wpAny (model X.prog X.w) X.A (execs st X.env) (SP X AU D) X.xe s
theorem thn{α:Type}{t:Sem α}{Q Q':α→Shared→Prop}{M:Model}{A:Around}{E:Value→Shared→Prop}{s:Shared}(h:wpAny M A t Q E s)(hQ:∀a s,Q a s→Q' a s):wpAny M A t Q' E s:=z5 h hQ fun _ _ x=>x
section
variable{X:Cx}
def wL(i:Nat):TE:=fun σ H Q=>∃v,σ[i]?=some (some v)∧Q v H
def tC(v:V):TE:=fun _ H Q=>Q v H
theorem qi{i:Nat}{x:Str}{pos:Pos}(hN:X.N[i]?=some x)(hv:Vis X.env.scope x)(hd:(x == ("__debug__":Str))=false:=by decide)(hcd:(x == ("__classdict__":Str))=false:=by decide):PE X (.Name x pos) (wL i):=by
 intro AU s σ H Q I h
 obtain⟨v,e,h⟩:=h
 obtain⟨m,hn,hl⟩:=I.loc
 obtain⟨u,r,l⟩:=hl i x v hN e hv
 have fin:EP X AU σ Q u s:=⟨v,H,I,r,h⟩
 rcases l with⟨hk,hm⟩|⟨hk,c,hc,hcell⟩
 ·exact wpAny_Name (wpAny_loadName_local I.ok.kind hk hn hm fin) hd
 ·rcases hk with hk | hk
  ·exact wpAny_Name (wpAny_loadName_cell I.ok.kind hk hc hcell fin) hd
  ·exact wpAny_Name (wpAny_loadName_free I.ok.kind hk hc hcell fin hcd) hd
theorem Z3{i j pos}:PE X (.Constant (.int i) j pos) (tC (.int i)):=fun _ _ _ H _ I h=>wpAny_Constant_int ⟨.int i,H,I.tok _,⟨_,rfl⟩,h⟩
theorem Va{b j pos}:PE X (.Constant (.bool b) j pos) (tC (.bl b)):=fun _ _ _ H _ I h=>Constant_bool ⟨.bl b,H,I,rfl,h⟩
theorem Ua{j pos}:PE X (.Constant .none j pos) (tC .non):=fun _ _ _ H _ I h=>Constant_none ⟨.non,H,I,rfl,h⟩
theorem Tk{x j pos}:PE X (.Constant (.str x) j pos) (tC (.str x)):=fun _ _ _ H _ I h=>Calls.Constant_str ⟨.str x,H,I.tok _,⟨_,rfl⟩,h⟩
def Gl(X:Cx)(x:Str):Prop:=X.env.kindOf x=some .globalImplicit
theorem ge{E:Value→Shared→Prop}{AU:List (Addr×Obj)}{s:Shared}{σ:St}{H:Hp}{x:Str}{u:Value}{pos:Pos}{Q:Value→Shared→Prop}(I:Inv X AU σ H s)(hg:Gl X x)(hm:X.mg x=some u)(h:Q u s)(hd:(x == ("__debug__":Str))=false:=by decide):wpAny (model X.prog X.w) X.A (eval (.Name x pos) X.env) Q E s:=
 Calls.Name_function_global I.ok.kind hg (Calls.loadGlobal_global (by rw[I.ok.glob];exact I.mod.glob.keeps I.bk) hm h) hd
theorem fe{E:Value→Shared→Prop}{AU:List (Addr×Obj)}{s:Shared}{σ:St}{H:Hp}{x:Str}{u:Value}{pos:Pos}{Q:Value→Shared→Prop}(I:Inv X AU σ H s)(hg:Gl X x)(hm:X.mg x=none)(hv:bootBuiltins x=some u)(h:Q u s)(hn:x≠"__name__":=by decide)(hd:(x == ("__debug__":Str))=false:=by decide):wpAny (model X.prog X.w) X.A (eval (.Name x pos) X.env) Q E s:=by
 obtain⟨mb,h1,h2⟩:=I.mod.blt
 exact Calls.Name_function_global I.ok.kind hg (Calls.loadGlobal_builtin (by rw[I.ok.glob];exact I.mod.glob.keeps I.bk) hm (by rw[I.ok.blt];exact h1.keeps I.bk) ((h2 x hn).trans hv) h) hd
theorem sW{x:Str}{v:V}{u:Value}{pos:Pos}(hg:Gl X x)(hm:X.mg x=some u)(r:RelV v u)(hd:(x == ("__debug__":Str))=false:=by decide):PE X (.Name x pos) (tC v):=
 fun _ _ _ H _ I h=>ge I hg hm ⟨v,H,I,r,h⟩ hd
theorem Sb{x:Str}{v:V}{u:Value}{pos:Pos}(hg:Gl X x)(hm:X.mg x=none)(hv:bootBuiltins x=some u)(r:RelV v u)(hn:x≠"__name__":=by decide)(hd:(x == ("__debug__":Str))=false:=by decide):PE X (.Name x pos) (tC v):=
 fun _ _ _ H _ I h=>fe I hg hm hv ⟨v,H,I,r,h⟩ hn hd
variable{a b:Expr}{ta tb:TE}{pos:Pos}
def tB(t:TE):TT:=fun σ H Q=>t σ H fun x H1=>∃c,x=.bl c∧Q c H1
theorem U6{e:Expr}{t:TE}(h:PE X e t)(he:∀whole,isTrue e X.env whole=(do let v ←whole;standAt e.pos;holding [v] (truthy v)):=by intro _;rfl):PT X e (tB t):=by
 intro AU s σ H Q I hw
 refine isTrue_plain (thn (h AU s σ H _ I hw) fun v s1 ⟨x,H1,I1,r1,q1⟩=>?_) (he _)
 obtain⟨d,rfl,q⟩:=q1
 cases r1
 exact Al ⟨H1,I1,q⟩
variable{tA tB':TT}{rest:List Expr}
def tAnd(t u:TT):TT:=fun σ H Q=>t σ H fun c H1=>if c=true then u σ H1 Q else Q false H1
def tOr(t u:TT):TT:=fun σ H Q=>t σ H fun c H1=>if c=true then Q true H1 else u σ H1 Q
def tNot(t:TT):TT:=fun σ H Q=>t σ H fun c H1=>Q (!c) H1
theorem S3(ha:PT X a tA):PW X (.BoolOp .And [a] pos) tA:=by
 intro wh AU s σ H Q I h
 refine isTrue_and (thn (ha AU s σ H Q I h) fun c s1 e=>?_)
 cases c with
 | true=>exact isTrue_and_nil e
 | false=>exact e
theorem Ti(ha:PT X a tA):PW X (.BoolOp .Or [a] pos) tA:=by
 intro wh AU s σ H Q I h
 refine isTrue_or (thn (ha AU s σ H Q I h) fun c s1 e=>?_)
 cases c with
 | false=>exact isTrue_or_nil e
 | true=>exact e
theorem Qu(ha:PT X a tA)(hb:PW X (.BoolOp .And (b::rest) pos) tB'):PW X (.BoolOp .And (a::b::rest) pos) (tAnd tA tB'):=by
 intro wh AU s σ H Q I h
 refine isTrue_and (thn (ha AU s σ H _ I h) fun c s1 AV=>?_)
 obtain⟨H1,I1,q1⟩:=AV
 cases c with
 | true=>exact hb wh AU s1 σ H1 Q I1 q1
 | false=>exact⟨H1,I1,q1⟩
theorem R9(ha:PT X a tA)(hb:PW X (.BoolOp .Or (b::rest) pos) tB'):PW X (.BoolOp .Or (a::b::rest) pos) (tOr tA tB'):=by
 intro wh AU s σ H Q I h
 refine isTrue_or (thn (ha AU s σ H _ I h) fun c s1 AV=>?_)
 obtain⟨H1,I1,q1⟩:=AV
 cases c with
 | true=>exact⟨H1,I1,q1⟩
 | false=>exact hb wh AU s1 σ H1 Q I1 q1
theorem Sx(ha:PT X a tA):PT X (.UnaryOp .Not a pos) (tNot tA):=by
 intro AU s σ H Q I h
 exact isTrue_not (ha AU s σ H (fun c H1=>Q (!c) H1) I h)
def xy(ta tb:TE):TE:=fun σ H Q=>ta σ H fun x H1=>∃c,x=.bl c∧if c=true then tb σ H1 Q else Q (.bl false) H1
def xD(ta:TE):TE:=fun σ H Q=>ta σ H fun x H1=>∃c,x=.bl c∧Q (.bl (!c)) H1
theorem fQ{op}{t:TE}(h:PE X a t):PE X (.BoolOp op [a] pos) t:=fun AU s σ H Q I hw=>BoolOp_one (h AU s σ H Q I hw)
theorem gt(ha:PE X a ta)(hb:PE X (.BoolOp .And (b::rest) pos) tb):PE X (.BoolOp .And (a::b::rest) pos) (xy ta tb):=by
 intro AU s σ H Q I h
 refine BoolOp_and (thn (ha AU s σ H _ I h) fun v s1 AV=>?_)
 obtain⟨x,H1,I1,r1,q1⟩:=AV
 obtain⟨c,rfl,q1⟩:=q1
 cases r1
 refine Al ?_
 cases c with
 | true=>exact hb AU s1 σ H1 Q I1 q1
 | false=>exact⟨.bl false,H1,I1,rfl,q1⟩
theorem vI(ha:PE X a ta):PE X (.UnaryOp .Not a pos) (xD ta):=by
 intro AU s σ H Q I h
 refine UnaryOp_ (thn (ha AU s σ H _ I h) fun v s1 AV=>?_)
 obtain⟨x,H1,I1,r1,q1⟩:=AV
 obtain⟨c,rfl,q1⟩:=q1
 cases r1
 exact not_of (Al ⟨.bl (!c),H1,I1,rfl,q1⟩)
def tIf(t:TT)(ta tb:TE):TE:=fun σ H Q=>t σ H fun c H1=>if c=true then ta σ H1 Q else tb σ H1 Q
theorem oS{c:Expr}(hc:PT X c tA)(ha:PE X a ta)(hb:PE X b tb):PE X (.IfExp c a b pos) (tIf tA ta tb):=by
 intro AU s σ H Q I h
 refine wpAny_IfExp (thn (hc AU s σ H _ I h) fun d s1 AV=>?_)
 obtain⟨H1,I1,q1⟩:=AV
 cases d with
 | true=>exact ha AU s1 σ H1 Q I1 q1
 | false=>exact hb AU s1 σ H1 Q I1 q1
end
def SqL(K:W.Frag)(H:Hp)(a:Addr)(xs:List V):Prop:=
 Rd H a (.lst xs)∨
  ∃(o:Obj)(its:Array Value)(n:Nat),K.lookup a=some o∧o.cls=.type "list"∧o.dict=none∧o.data=.seq its n∧its.size≤sizeLine∧Vals xs its.toList
def SqT(K:W.Frag)(H:Hp)(a:Addr)(xs:List V):Prop:=
 Rd H a (.tup xs)∨
  ∃(o:Obj)(its:Array Value)(n:Nat),K.lookup a=some o∧o.cls=.type "tuple"∧o.data=.seq its n∧its.size≤sizeLine∧Vals xs its.toList
def absV:Value→Option V
 | .none=>some .non
 | .bool b=>some (.bl b)
 | .int i _=>some (.int i)
 | .str x _=>some (.str x)
 | .bytes b _=>some (.byt b)
 | .float b _=>some (.flt b)
 | .ref a=>some (.ref a)
 | .type n=>some (.ty n)
 | _=>none
theorem RelV.abs{x:V}{u:Value}(r:RelV x u):absV u=some x:=by
 cases x with
 | non=>cases r;rfl
 | bl _=>cases r;rfl
 | int _=>obtain⟨t,rfl⟩:=r;rfl
 | str _=>obtain⟨t,rfl⟩:=r;rfl
 | byt _=>obtain⟨t,rfl⟩:=r;rfl
 | flt _=>obtain⟨t,rfl⟩:=r;rfl
 | ref _=>cases r;rfl
 | ty _=>cases r;rfl
theorem RelV.inj{x y:V}{u:Value}(r:RelV x u)(q:RelV y u):x=y:=zt (r.abs.symm.trans q.abs)
theorem Vals.inj{xs ys:List V}{us:List Value}(h:Vals xs us)(g:Vals ys us):xs=ys:=by
 induction h generalizing ys with
 | nil=>cases g;rfl
 | cons r t ih=>
  cases g with
  | cons r' t'=>rw[r.inj r',ih t']
section
variable{X:Cx}{AU:List (Addr×Obj)}{σ:St}{H:Hp}{s:Shared}{a:Addr}{xs ys:List V}
theorem SqL.of{K:W.Frag}(h:H a=some (.lst xs)):SqL K H a xs:=.inl (.inl h)
theorem SqT.of{K:W.Frag}(h:H a=some (.tup xs)):SqT K H a xs:=.inl (.inl h)
theorem Inv.list(I:Inv X AU σ H s)(h:SqL X.K H a xs):∃its:List Value,Vals xs its∧PlainL s.heap a its.toArray∧xs.length≤sizeLine:=by
 rcases h with h | ⟨o,its,n,hk,hc,hd,hs,hz,r⟩
 ·obtain⟨z,its,n,r,e⟩:=h.ok I.hok
  exact⟨its,r,⟨_,n,e,rfl,rfl,rfl⟩,z⟩
 ·refine⟨its.toList,r,⟨o,n,I.kIn a o hk,hc,hd,by simpa using hs⟩,?_⟩
  have e:=r.length
  simp only[Array.length_toList]at e
  omega
theorem Inv.tuple(I:Inv X AU σ H s)(h:SqT X.K H a xs):∃its:List Value,Vals xs its∧IsTup s.heap a its.toArray∧xs.length≤sizeLine:=by
 rcases h with h | ⟨o,its,n,hk,hc,hs,hz,r⟩
 ·obtain⟨z,its,r,p⟩:=h.ok I.hok
  exact⟨its,r,p.tup,z⟩
 ·refine⟨its.toList,r,⟨o,I.kIn a o hk,hc,n,by simpa using hs⟩,?_⟩
  have e:=r.length
  simp only[Array.length_toList]at e
  omega
theorem Inv.list_inj(I:Inv X AU σ H s)(h:SqL X.K H a xs)(h':SqL X.K H a ys):xs=ys:=by
 obtain⟨its,r,⟨o,n,e,_,_,d⟩,_⟩:=I.list h
 obtain⟨its',r',⟨o',n',e',_,_,d'⟩,_⟩:=I.list h'
 rw[e]at e';cases e'
 rw[d]at d'
 injection d' with d1 _
 have:its=its':=by simpa using congrArg Array.toList d1
 subst this
 exact r.inj r'
theorem Inv.tuple_inj(I:Inv X AU σ H s)(h:SqT X.K H a xs)(h':SqT X.K H a ys):xs=ys:=by
 obtain⟨its,r,⟨o,e,_,n,d⟩,_⟩:=I.tuple h
 obtain⟨its',r',⟨o',e',_,n',d'⟩,_⟩:=I.tuple h'
 rw[e]at e';cases e'
 rw[d]at d'
 injection d' with d1 _
 have:its=its':=by simpa using congrArg Array.toList d1
 subst this
 exact r.inj r'
end
abbrev Cx.wish(X:Cx)(E:Value→Shared→Prop):Cx:={X with xe:=E}
abbrev Cx.nox(X:Cx):Cx:=X.wish fun _ _=>False
theorem Cx.Ok.wish{X:Cx}(ok:X.Ok)(E:Value→Shared→Prop):(X.wish E).Ok:=
 ⟨ok.mod,ok.kind,ok.glob,ok.blt,ok.above,ok.inj,ok.has,ok.cab,ok.hd,ok.frames,ok.stk,ok.exf,ok.bs,ok.bsz,ok.noex,ok.exfs,ok.funs,ok.frf⟩
theorem Cx.Ok.unwish{X:Cx}{E:Value→Shared→Prop}(ok:(X.wish E).Ok):X.Ok:=
 ⟨ok.mod,ok.kind,ok.glob,ok.blt,ok.above,ok.inj,ok.has,ok.cab,ok.hd,ok.frames,ok.stk,ok.exf,ok.bs,ok.bsz,ok.noex,ok.exfs,ok.funs,ok.frf⟩
section
variable{X:Cx}{AU:List (Addr×Obj)}{σ:St}{H:Hp}{s:Shared}{E:Value→Shared→Prop}
theorem Inv.wish(I:Inv X AU σ H s)(E:Value→Shared→Prop):Inv (X.wish E) AU σ H s:=⟨I.ok.wish E,I.os,I.bare,I.base,I.loc,I.cell,I.free,I.freeC,I.pin,I.hok,I.len⟩
theorem Inv.unwish(I:Inv (X.wish E) AU σ H s):Inv X AU σ H s:=⟨I.ok.unwish,I.os,I.bare,I.base,I.loc,I.cell,I.free,I.freeC,I.pin,I.hok,I.len⟩
theorem SP.unwish{D:Ends}{f:Flow}{s':Shared}(h:SP (X.wish E) AU D f s'):SP X AU D f s':=by
 cases f with
 | next=>obtain⟨σ',H',I,q⟩:=h;exact⟨σ',H',I.unwish,q⟩
 | brk=>obtain⟨σ',H',I,q⟩:=h;exact⟨σ',H',I.unwish,q⟩
 | cont=>obtain⟨σ',H',I,q⟩:=h;exact⟨σ',H',I.unwish,q⟩
 | ret u=>obtain⟨v,σ',H',I,r,q⟩:=h;exact⟨v,σ',H',I.unwish,r,q⟩
theorem PSs.nox{st:List Stmt}{t:TS}(h:PSs X.nox st t):PSs X st t:=fun AU s σ H D I hw=>
 z5 (h AU s σ H D (I.wish _) hw) (fun _ _ q=>q.unwish) fun _ _ z=>False.elim z
end
section
variable{X:Cx}{st:Stmt}{rest:List Stmt}{t u:TS}{e:Expr}{te:TE}{pos:Pos}
def xR:TS:=fun D σ H=>D.nx σ H
def wP(t u:TS):TS:=fun D σ H=>t {D with nx:=u D} σ H
theorem Zu:PSs X [] xR:=fun _ _ σ H _ I h=>wpAny_execs_nil ⟨σ,H,I,h⟩
theorem Z2(h1:PS X st t)(h2:PSs X rest u):PSs X (st::rest) (wP t u):=by
 intro AU s σ H D I h
 refine wpAny_execs_cons (thn (h1 AU s σ H {D with nx:=u D} I h) fun f s1 q=>?_)
 cases f with
 | next=>
  obtain⟨σ',H',I',q⟩:=q
  exact h2 AU s1 σ' H' D I' q
 | ret v=>exact q
 | brk=>exact q
 | cont=>exact q
theorem Z7(h1:PS X st t):PSs X [st] t:=by
 intro AU s σ H D I h
 refine wpAny_execs_cons (thn (h1 AU s σ H D I h) fun f s1 q=>?_)
 cases f with
 | next=>exact wpAny_execs_nil q
 | ret v=>exact q
 | brk=>exact q
 | cont=>exact q
theorem Inv.quiet{AU:List (Addr×Obj)}{σ:St}{H:Hp}{s:Shared}(I:Inv X AU σ H s):interactive X.env=false:=by simp[interactive,I.ok.kind]
def ww(te:TE):TS:=fun D σ H=>te σ H fun _ H1=>D.nx σ H1
theorem Xj(he:PE X e te)(hs:swapsWith e none pos.line X.env=pure false:=by rfl):PS X (.Expr e pos) (ww te):=by
 intro AU s σ H D I h
 exact wpAny_Expr_any (thn (he AU s σ H _ I h) fun v s1 ⟨x,H1,I1,r1,q1⟩=>⟨σ,H1,I1,q1⟩) I.quiet hs
def tRet(te:TE):TS:=fun D σ H=>te σ H D.rt
theorem Ze(he:PE X e te):PS X (.Return (some e) pos) (tRet te):=by
 intro AU s σ H D I h
 exact wpAny_Return_some (thn (he AU s σ H _ I h) fun v s1 ⟨x,H1,I1,r1,q1⟩=>⟨x,σ,H1,I1,r1,q1⟩)
def tIfS(c:TT)(t u:TS):TS:=fun D σ H=>c σ H fun b H1=>if b=true then t D σ H1 else u D σ H1
theorem Yl{c:Expr}{a b:List Stmt}{tc:TT}(hc:PT X c tc)(ha:PSs X a t)(hb:PSs X b u):PS X (.If c a b pos) (tIfS tc t u):=by
 intro AU s σ H D I h
 refine wpAny_If (thn (hc AU s σ H _ I h) fun d s1 AV=>?_)
 obtain⟨H1,I1,q1⟩:=AV
 cases d with
 | true=>exact ha AU s1 σ H1 D I1 q1
 | false=>exact hb AU s1 σ H1 D I1 q1
def vV:TS:=fun _ _ _=>False
theorem Qv:PS X st vV:=fun _ _ _ _ _ _ h=>h.elim
end
abbrev TG:=V→St→Hp→(St→Hp→Prop)→Prop
abbrev TGs:=List V→St→Hp→(St→Hp→Prop)→Prop
def PG(X:Cx)(target:Expr)(t:TG):Prop:=
 ∀(AU:List (Addr×Obj))(s:Shared)(σ:St)(H:Hp)(v:V)(u:Value)(Q:St→Hp→Prop),Inv X AU σ H s→RelV v u→t v σ H Q→
  wpAny (model X.prog X.w) X.A (assign target X.env u) (fun _ s'=>∃σ' H',Inv X AU σ' H' s'∧Q σ' H') X.xe s
def PGs(X:Cx)(ts:List Expr)(t:TGs):Prop:=
 ∀(AU:List (Addr×Obj))(s:Shared)(σ:St)(H:Hp)(vs:List V)(us:List Value)(Q:St→Hp→Prop),Inv X AU σ H s→Vals vs us→t vs σ H Q→
  wpAny (model X.prog X.w) X.A (assignInOrder ((assignEach ts X.env).map (·.2)) us) (fun _ s'=>∃σ' H',Inv X AU σ' H' s'∧Q σ' H') X.xe s
abbrev v7:=V→V→V→Hp→(Hp→Prop)→Prop
def wY(X:Cx)(t:v7):Prop:=
 ∀(AU:List (Addr×Obj))(s:Shared)(σ:St)(H:Hp)(o i v:V)(ov iv u:Value)(Q:Hp→Prop),Inv X AU σ H s→RelV o ov→RelV i iv→RelV v u→t o i v H Q→
  wpAny (model X.prog X.w) X.A (setItem ov iv u) (fun _ s'=>∃H',Inv X AU σ H' s'∧Q H') X.xe s
section
variable{X:Cx}{pos:Pos}
def iA(i:Nat):TG:=fun v σ H Q=>Q (σ.set i (some v)) H
theorem Z8{i:Nat}{x:Str}(hN:X.N.Nodup)(hi:X.N[i]?=some x)(hx:Loc X.env.scope x)(hf:X.fn x=true∨X.env.scope.names.lookup x=some .local:=by first | exact .inl rfl | exact .inr rfl | assumption):PG X (.Name x pos) (iA i):=by
 intro AU s σ H v u Q I r h
 exact wpAny_assign_Name (ie I hN hi hx r (fun s' I'=>⟨_,H,I',h⟩) hf)
def gNil:TGs:=fun vs σ H Q=>vs=[]∧Q σ H
def wI(t:TG)(u:TGs):TGs:=fun vs σ H Q=>∃v r,vs=v::r∧t v σ H fun σ' H'=>u r σ' H' Q
theorem Zp:PGs X [] gNil:=by
 intro AU s σ H vs us Q I r h
 obtain⟨e,h⟩:=h
 subst e
 cases r
 exact assignInOrder_nil ⟨σ,H,I,h⟩
theorem Z9{e:Expr}{es:List Expr}{t:TG}{u:TGs}(h1:PG X e t)(h2:PGs X es u)(hs:(assignEach (e::es) X.env).map (·.2)=assign e X.env::(assignEach es X.env).map (·.2):=by rfl):PGs X (e::es) (wI t u):=by
 intro AU s σ H vs us Q I r h
 obtain⟨v,vr,e1,h⟩:=h
 subst e1
 cases r with
 | cons r rr=>
  rw[hs]
  refine assignInOrder_cons (thn (h1 AU s σ H _ _ _ I r h) fun _ s1 AV=>?_)
  obtain⟨σ1,H1,I1,q1⟩:=AV
  exact h2 AU s1 σ1 H1 _ _ Q I1 rr q1
def xK(K:W.Frag)(n:Nat)(t:TGs):TG:=fun v σ H Q=>∃a xs,v=.ref a∧SqT K H a xs∧xs.length=n∧t xs σ H Q
theorem Yn{es:List Expr}{k:Nat}{t:TGs}{n:Nat}(hc:X.calm=true)(h:PGs X es t)(hn:(assignEach es X.env).length=n:=by rfl)(hst:(assignEach es X.env).findIdx? (·.1)=none:=by rfl):PG X (.Tuple es k pos) (xK X.K n t):=by
 intro AU s σ H v u Q I r hw
 obtain⟨a,xs,e1,hq,hl,hw⟩:=hw
 subst e1
 cases r
 obtain⟨its,rv,ht,hz⟩:=I.tuple hq
 refine assign_Tuple_tuple (I.ok.hd hc) ht (by simp[hn,←hl,rv.length]) hst fun h' hx=>?_
 have I1:Inv X AU σ H {s with heap:=h'}:=I.kept (t':=s.toks) fun b o e=>hx b o (yW (yM e)) e
 exact h AU _ σ H xs _ Q I1 (by simpa using rv) hw
def gSub(to ti:TE)(t:v7):TG:=fun v σ H Q=>to σ H fun o H1=>ti σ H1 fun i H2=>t o i v H2 fun H3=>Q σ H3
theorem jZ{o i:Expr}{to ti:TE}{t:v7}(ho:PE X o to)(hi:PE X i ti)(hs:wY X t)(ha:∀v,assign (.Subscript o i pos) X.env v=(do
   let ov ←holding [v] (eval o X.env)
   let iv ←holding [v,ov] (eval i X.env)
   standAt pos
   holding [v,ov,iv] (setItem ov iv v)
   release [v,ov,iv] []):=by intro _;rfl):PG X (.Subscript o i pos) (gSub to ti t):=by
 intro AU s σ H v u Q I r h
 rw[ha]
 refine io (zJ (thn (ho AU s σ H _ I h) fun ov s1 AV=>?_))
 obtain⟨x,H1,I1,r1,q1⟩:=AV
 refine io (zJ (thn (hi AU s1 σ H1 _ I1 q1) fun iv s2 AV=>?_))
 obtain⟨y,H2,I2,r2,q2⟩:=AV
 refine io (wpAny_standAt (io (zJ (thn (hs AU s2 σ H2 x y v ov iv u _ I2 r1 r2 r q2) fun _ s3 AV=>?_))))
 obtain⟨H3,I3,q3⟩:=AV
 exact wpAny_release ⟨σ,H3,I3,q3⟩
def pB(te:TE)(g:TG):TS:=fun D σ H=>te σ H fun x H1=>g x σ H1 D.nx
theorem Yy{tg e:Expr}{te:TE}{g:TG}(he:PE X e te)(hg:PG X tg g)(hs:swapsWithSole [tg] e pos.line X.env=pure false:=by rfl)(hw:swappedStores [tg] e X.env=pure none:=by rfl)(h1:(assignEach [tg] X.env).map (·.2)=[assign tg X.env]:=by rfl):PS X (.Assign [tg] e pos) (pB te g):=by
 intro AU s σ H D I h
 refine wpAny_Assign_stores (thn (he AU s σ H _ I h) fun v s1 ⟨x,H1,I1,r1,q1⟩=>?_) hs hw
 rw[h1]
 exact thn (hg AU s1 σ H1 x v _ I1 r1 q1) fun _ s2 q=>q
theorem vP{i:Nat}{x:Str}{e:Expr}{te:TE}{pos':Pos}(hN:X.N.Nodup)(hi:X.N[i]?=some x)(hx:Loc X.env.scope x)(he:PE X e te)(hs:swapsWith e (some (.Name x pos')) pos.line X.env=pure false:=by rfl)(hf:X.fn x=true∨X.env.scope.names.lookup x=some .local:=by first | exact .inl rfl | exact .inr rfl | assumption):
  PS X (.Assign [.Name x pos'] e pos) (pB te (iA i)):=by
 intro AU s σ H D I h
 refine wpAny_Assign_Name (thn (he AU s σ H _ I h) fun v s1 AV=>?_) hs
 obtain⟨y,H1,I1,r1,q1⟩:=AV
 exact ie I1 hN hi hx r1 (fun s2 I2=>⟨_,H1,I2,q1⟩) hf
end
section
variable{X:Cx}{pos:Pos}
def pH(c:TT)(tb:TS):TS:=fun D σ H=>∃W:Nat→St→Hp→Prop,(∃m,W m σ H)∧∀m σ H,W m σ H→
 c σ H fun b H1=>if b=true then ∃N:St→Hp→Prop,(∀σ' H',N σ' H'→∃m',m'<m∧W m' σ' H')∧tb {D with nx:=N,ct:=N,bk:=D.nx} σ H1 else D.nx σ H1
theorem U7{c:Expr}{body:List Stmt}{tc:TT}{tb:TS}(hp:PassesOwn (model X.prog X.w) X.A X.env X.xe)(hc:PT X c tc)(hb:PSs X body tb):PS X (.While c body [] pos) (pH tc tb):=by
 intro AU s σ H D I h
 obtain⟨W,⟨m0,w0⟩,turn⟩:=h
 refine wpAny_While (codeAny_whileLoop (fun n s'=>∃σ' H',Inv X AU σ' H' s'∧W n σ' H') ?_ m0 ⟨σ,H,I,w0⟩)
 rintro n s1 ⟨σ1,H1,I1,w1⟩
 refine wpAny_passesOwn hp (thn (hc AU s1 σ1 H1 _ I1 (turn n σ1 H1 w1)) fun b s2 AV=>?_)
 obtain⟨H2,I2,q2⟩:=AV
 cases b with
 | true=>
  obtain⟨N,hN,q2⟩:=q2
  rw[yC rfl]
  refine wpAny_passesOwn hp (thn (hb AU s2 σ1 H2 _ I2 q2) fun f s3 q3=>?_)
  cases f with
  | next=>
   obtain⟨σ3,H3,I3,n3⟩:=q3
   obtain⟨m',hm,w3⟩:=hN σ3 H3 n3
   exact⟨m',hm,σ3,H3,I3,w3⟩
  | cont=>
   obtain⟨σ3,H3,I3,n3⟩:=q3
   obtain⟨m',hm,w3⟩:=hN σ3 H3 n3
   exact⟨m',hm,σ3,H3,I3,w3⟩
  | brk=>exact q3
  | ret v=>exact q3
 | false=>
  rw[yy yL]
  exact wpAny_execs_nil ⟨σ1,H2,I2,q2⟩
end
structure It where
 go:Nat→Hp→Prop
 yld:Nat→Hp→V→Hp→Prop
 stop:Nat→Hp→Prop
def cS(X:Cx)(AU:List (Addr×Obj))(H:Hp)(b:Addr):Prop:=
 H b=none∧b≠X.env.locals∧b∉X.fs∧(b∈X.ex∨X.s₀.heap.objs.size≤b)∧(∀x c,X.env.cells.lookup x=some c→c≠b)∧∀p∈X.pn++AU,p.1≠b
theorem Inv.fpOk{X:Cx}{AU:List (Addr×Obj)}{σ:St}{H H':Hp}{s:Shared}{b:Addr}(I:Inv X AU σ H s)(hb:s.heap.objs.size≤b)(hn:H' b=none):cS X AU H' b:=by
 refine⟨hn,zY (y4 I.lt hb),I.nofs hb,.inr (zG I.sz hb),fun x c e z=>?_,fun p hp z=>?_⟩
 ·obtain⟨v,q⟩:=I.cell x c e
  exact absurd (y4 q.lt (by rw[z];exact hb)) (AJ _)
 ·exact absurd (y4 (yM (I.pin p hp).1) (by rw[z];exact hb)) (AJ _)
structure Turn(P:Program)(w:World)(K:W.Frag)(tg:Expr)(J:It)(fp:List Addr)(it:Addr)(tn:Nat→Heap→Prop):Prop where
 mem:it∈fp
 obj:∀i h,tn i h→∀b∈fp,∃o,h.get? b=some o∧∀v,o.data≠.cell v
 keep:∀i h h',tn i h→(∀b∈fp,∀o,h.get? b=some o→h'.get? b=some o)→tn i h'
 item:∀(X:Cx),X.prog=P→X.w=w→X.K=K→X.calm=true→∀(i:Nat)(AU:List (Addr×Obj))(s:Shared)(σ:St)(H:Hp)(E:Value→Shared→Prop),Inv X AU σ H s→(∀b∈fp,cS X AU H b)→tn i s.heap→J.go i H→
  wpAny (model P w) X.A (pyNext (.ref it)) (fun r s1=>∃u,r=some u∧
   wpAny (model P w) X.A (letOwnedTupleGo tg (.ref it) u) (fun _ s2=>∃x H',Inv X AU σ H' s2∧RelV x u∧J.yld i H x H'∧tn (i+1) s2.heap∧∀b∈fp,H' b=none) E s1) E s
 done:∀(X:Cx),X.prog=P→X.w=w→X.K=K→X.calm=true→∀(i:Nat)(AU:List (Addr×Obj))(s:Shared)(σ:St)(H:Hp)(E:Value→Shared→Prop),Inv X AU σ H s→(∀b∈fp,cS X AU H b)→tn i s.heap→J.stop i H→
  wpAny (model P w) X.A (pyNext (.ref it)) (fun r s1=>r=none∧Inv X AU σ H s1) E s
 self:∀(A:Around)(i:Nat)(s:Shared)(Q:Value→Shared→Prop)(E:Value→Shared→Prop),tn i s.heap→Q (.ref it) s→wpAny (model P w) A (pyIter (.ref it)) Q E s
abbrev TI:=St→Hp→(It→Hp→Prop)→Prop
def PIE(X:Cx)(AU:List (Addr×Obj))(σ:St)(tg:Expr)(R:It→Hp→Prop)(itv:Value)(s2:Shared):Prop:=
 ∃(it:Addr)(fp:List Addr)(tn:Nat→Heap→Prop)(J:It)(H':Hp),itv=.ref it∧Inv X AU σ H' s2∧Turn X.prog X.w X.K tg J fp it tn∧tn 0 s2.heap∧(∀b∈fp,cS X AU H' b)∧R J H'
def PI(X:Cx)(tg iter:Expr)(wi:TI):Prop:=
 ∀(AU:List (Addr×Obj))(s:Shared)(σ:St)(H:Hp)(R:It→Hp→Prop),Inv X AU σ H s→wi σ H R→
  wpAny (model X.prog X.w) X.A (eval iter X.env) (fun v s1=>wpAny (model X.prog X.w) X.A (pyIter v) (PIE X AU σ tg R) X.xe s1) X.xe s
theorem kR{M:Model}{A:Around}{E:Value→Shared→Prop}{s:Shared}{tg:Expr}{it:Addr}{u:Value}{o:Obj}{n:String}{vs:Array Value}{Q:Unit→Shared→Prop}(ho:s.heap.get? it=some o)(hc:o.cls=.type n)(hd:o.data=.fields vs)(hn:["enumerate","zip","dict_itemiterator","dict_reverseitemiterator","odict_iterator","itertools.zip_longest","itertools.pairwise"].contains n=false)(hQ:Q () s):wpAny M A (letOwnedTupleGo tg (.ref it) u) Q E s:=by
 unfold letOwnedTupleGo
 cases tg <;> first
  | exact yB hQ
  | (cases u <;> first
    | exact yB hQ
    | (refine io (wpAny_load ho ?_)
       rw[hc,hd]
       show wpAny M A (if (["enumerate","zip","dict_itemiterator","dict_reverseitemiterator","odict_iterator","itertools.zip_longest","itertools.pairwise"].contains n && vs[0]? == some (rawInt _))=true then _ else _) Q E s
       rw[yy (by intro h;rw[hn,Bool.false_and]at h;cases h)]
       exact yB hQ))
def Itl(K:W.Frag)(a:Addr):It:=
 ⟨fun i H=>∃xs x,SqL K H a xs∧xs[i]?=some x,fun i H x H'=>H'=H∧∀xs,SqL K H a xs→xs[i]?=some x,fun i H=>∃xs,SqL K H a xs∧xs.length≤i⟩
def Itt(K:W.Frag)(a:Addr):It:=
 ⟨fun i H=>∃xs x,SqT K H a xs∧xs[i]?=some x,fun i H x H'=>H'=H∧∀xs,SqT K H a xs→xs[i]?=some x,fun i H=>∃xs,SqT K H a xs∧xs.length≤i⟩
def Itr(lo:Int)(n:Nat):It:=⟨fun i _=>i<n,fun i H x H'=>H'=H∧x=.int (lo+i),fun i _=>n≤i⟩
theorem mF{P:Program}{w:World}{K:W.Frag}{tg:Expr}(a it:Addr):Turn P w K tg (Itl K a) [it] it (fun i h=>h.IsListIter it a i) where
 mem:=by simp
 obj:=fun i h st b hb=>by
  have e:b=it:=by simpa using hb
  subst e
  obtain⟨o,e,c,d⟩:=st
  exact⟨o,e,fun v z=>by rw[d]at z;cases z⟩
 keep:=fun i h h' st k=>st.at fun o e=>k it (by simp) o e
 item:=by
  intro X hP hw hK hc i AU s σ H E I hf st hg
  subst hP hw hK
  obtain⟨xs,x,hq,hx⟩:=hg
  obtain⟨its,rv,p,hz⟩:=I.list hq
  obtain⟨u,hu,ru⟩:=rv.get hx
  obtain⟨f0,f1,f2,f3,f4,f5⟩:=hf it (by simp)
  refine wpAny_pyNext_list_item st p.isList (x:=u) (by simpa using hu) fun h' A9 sb=>?_
  have I1:Inv X AU σ H {s with heap:=h'}:=I.turned (t':=s.toks) (fun b o hb e=>(sb.2 b hb).trans e) f0 f1 f3 f4 f5
  obtain⟨o,e,c,d⟩:=id A9
  exact⟨u,rfl,kR (s:={s with heap:=h'}) e c d (by decide) ⟨x,H,I1,ru,⟨rfl,fun ys hy=>by rw[I.list_inj hy hq];exact hx⟩,A9,fun b hb=>(hf b hb).1⟩⟩
 done:=by
  intro X hP hw hK hc i AU s σ H E I hf st hg
  subst hP hw hK
  obtain⟨xs,hq,hx⟩:=hg
  obtain⟨its,rv,p,hz⟩:=I.list hq
  obtain⟨f0,f1,f2,f3,f4,f5⟩:=hf it (by simp)
  have hl:=rv.length
  exact wpAny_pyNext_list_end (I.ok.hd hc) st p.isList (by simp;omega) fun h' eb=>⟨rfl,I.turned (t':=s.toks) (fun b o hb e=>eb b o hb e) f0 f1 f3 f4 f5⟩
 self:=fun _ _ _ _ _ st h=>wpAny_pyIter_listiter st h
theorem jN{P:Program}{w:World}{K:W.Frag}{tg:Expr}(a it:Addr):Turn P w K tg (Itt K a) [it] it (fun i h=>h.IsTupleIter it a i) where
 mem:=by simp
 obj:=fun i h st b hb=>by
  have e:b=it:=by simpa using hb
  subst e
  obtain⟨o,e,c,d⟩:=st
  exact⟨o,e,fun v z=>by rw[d]at z;cases z⟩
 keep:=fun i h h' st k=>st.at fun o e=>k it (by simp) o e
 item:=by
  intro X hP hw hK hc i AU s σ H E I hf st hg
  subst hP hw hK
  obtain⟨xs,x,hq,hx⟩:=hg
  obtain⟨its,rv,p,hz⟩:=I.tuple hq
  obtain⟨u,hu,ru⟩:=rv.get hx
  obtain⟨f0,f1,f2,f3,f4,f5⟩:=hf it (by simp)
  refine wpAny_pyNext_tuple_item st (show s.heap.IsTuple a its.toArray from p) (x:=u) (by simpa using hu) fun h' A9 sb=>?_
  have I1:Inv X AU σ H {s with heap:=h'}:=I.turned (t':=s.toks) (fun b o hb e=>(sb.2 b hb).trans e) f0 f1 f3 f4 f5
  obtain⟨o,e,c,d⟩:=id A9
  exact⟨u,rfl,kR (s:={s with heap:=h'}) e c d (by decide) ⟨x,H,I1,ru,⟨rfl,fun ys hy=>by rw[I.tuple_inj hy hq];exact hx⟩,A9,fun b hb=>(hf b hb).1⟩⟩
 done:=by
  intro X hP hw hK hc i AU s σ H E I hf st hg
  subst hP hw hK
  obtain⟨xs,hq,hx⟩:=hg
  obtain⟨its,rv,p,hz⟩:=I.tuple hq
  obtain⟨f0,f1,f2,f3,f4,f5⟩:=hf it (by simp)
  have hl:=rv.length
  exact wpAny_pyNext_tuple_end (I.ok.hd hc) st (show s.heap.IsTuple a its.toArray from p) (by simp;omega) fun h' eb=>⟨rfl,I.turned (t':=s.toks) (fun b o hb e=>eb b o hb e) f0 f1 f3 f4 f5⟩
 self:=fun _ _ _ _ _ st h=>wpAny_pyIter_tupleiter st h
theorem ja{P:Program}{w:World}{K:PySem.W.Frag}{tg:Expr}(it:Addr)(lo:Int)(n:Nat):Turn P w K tg (Itr lo n) [it] it (fun i h=>IsRangeIter h it (lo+(i:Nat) * 1) ((n:Int) - (i:Nat)) 1) where
 mem:=by simp
 obj:=fun i h st b hb=>by
  have e:b=it:=by simpa using hb
  subst e
  exact⟨_,st,fun v z=>by
   have z':Data.fields _=Data.cell v:=z
   cases z'⟩
 keep:=fun i h h' st k=>k it (by simp) _ st
 item:=by
  intro X hP hw hK hc i AU s σ H E I hf st hg
  subst hP hw hK
  obtain⟨f0,f1,f2,f3,f4,f5⟩:=hf it (by simp)
  have W:=Walks.range (prog:=X.prog) (w:=X.w) (I.ok.hd hc) it lo 1 n
  refine W.item i s _ _ hg st fun v h' tk hv A9 kk=>?_
  obtain⟨t,rfl⟩:=hv
  have I1:Inv X AU σ H {s with heap:=h',toks:=tk}:=I.turned (fun b o hb e=>kk b o (by simpa using hb) e) f0 f1 f3 f4 f5
  refine⟨_,rfl,kR (s:={s with heap:=h',toks:=tk}) (n:="range_iterator") A9 rfl rfl (by decide) ⟨.int (lo+i),H,I1,⟨t,?_⟩,⟨rfl,rfl⟩,A9,fun b hb=>(hf b hb).1⟩⟩
  rw[AB]
 done:=by
  intro X hP hw hK hc i AU s σ H E I hf st hg
  subst hP hw hK
  obtain⟨f0,f1,f2,f3,f4,f5⟩:=hf it (by simp)
  exact wpAny_pyNext_range_end (I.ok.hd hc) st (by have:n≤i:=hg;omega) fun h' eb=>⟨rfl,I.turned (t':=s.toks) (fun b o hb e=>eb b o hb e) f0 f1 f3 f4 f5⟩
 self:=fun _ _ _ _ _ st h=>wpAny_pyIter_rangeiter st h
section
variable{X:Cx}{tg:Expr}
def ui(K:W.Frag)(tl:TE):TI:=fun σ H R=>tl σ H fun x H1=>∃a,x=.ref a∧(∃xs,SqL K H1 a xs)∧R (Itl K a) H1
def iTup(K:W.Frag)(tl:TE):TI:=fun σ H R=>tl σ H fun x H1=>∃a,x=.ref a∧(∃xs,SqT K H1 a xs)∧R (Itt K a) H1
theorem Y4{l:Expr}{tl:TE}(hl:PE X l tl):PI X tg l (ui X.K tl):=by
 intro AU s σ H R I h
 refine thn (hl AU s σ H _ I h) fun v s1 AV=>?_
 obtain⟨x,H1,I1,r1,q1⟩:=AV
 obtain⟨a,e,⟨xs,hq⟩,q⟩:=q1
 subst e
 cases r1
 obtain⟨its,rv,p,hz⟩:=I1.list hq
 refine wpAny_pyIter_list p.isList ?_
 refine⟨s1.heap.objs.size,[s1.heap.objs.size],_,_,H1,rfl,I1.kept (t':=s1.toks) fun b o e=>yA _ e,mF a _,⟨_,yX _ rfl,rfl,rfl⟩,fun b hb=>?_,q⟩
 have e:b=s1.heap.objs.size:=by simpa using hb
 subst e
 exact I1.fpOk (yF _) (I1.hok.fresh (yF _))
theorem Qx{l:Expr}{tl:TE}(hl:PE X l tl):PI X tg l (iTup X.K tl):=by
 intro AU s σ H R I h
 refine thn (hl AU s σ H _ I h) fun v s1 AV=>?_
 obtain⟨x,H1,I1,r1,q1⟩:=AV
 obtain⟨a,e,⟨xs,hq⟩,q⟩:=q1
 subst e
 cases r1
 obtain⟨its,rv,p,hz⟩:=I1.tuple hq
 refine wpAny_pyIter_tuple (show s1.heap.IsTuple a its.toArray from p) ?_
 refine⟨s1.heap.objs.size,[s1.heap.objs.size],_,_,H1,rfl,I1.kept (t':=s1.toks) fun b o e=>yA _ e,jN a _,⟨_,yX _ rfl,rfl,rfl⟩,fun b hb=>?_,q⟩
 have e:b=s1.heap.objs.size:=by simpa using hb
 subst e
 exact I1.fpOk (yF _) (I1.hok.fresh (yF _))
theorem qd{AU:List (Addr×Obj)}{σ:St}{H:Hp}{s:Shared}{R:It→Hp→Prop}{E:Value→Shared→Prop}{lo hi:Int}{t u v:Tok}{tk:Nat}(I:Inv X AU σ H s)(h1:-(2 ^ 62)≤lo)(h2:lo<2 ^ 62)(h3:-(2 ^ 62)≤hi)(h4:hi<2 ^ 62)(q:R (Itr lo (hi - lo).toNat) H):wpAny (model X.prog X.w) X.A (pyIter (.ref s.heap.objs.size)) (PIE X AU σ tg R) E {s with heap:=s.heap.push {cls:=.type "range",data:=.fields #[.int lo t,.int hi u,.int 1 v]},toks:=tk}:=by
 refine wpAny_pyIter_range (IsRange.new ..) (small_one h1 h2 h3 h4) ?_
 have I1:Inv X AU σ H {s with heap:=s.heap.push {cls:=.type "range",data:=.fields #[.int lo t,.int hi u,.int 1 v]},toks:=tk}:=I.kept fun b o e=>yA _ e
 refine⟨(s.heap.push {cls:=.type "range",data:=.fields #[.int lo t,.int hi u,.int 1 v]}).objs.size,[(s.heap.push {cls:=.type "range",data:=.fields #[.int lo t,.int hi u,.int 1 v]}).objs.size],_,_,H,rfl,
  I1.kept (t':=tk) fun b o e=>yA _ e,ja _ lo (hi - lo).toNat,?_,fun b hb=>?_,q⟩
 ·have e1:lo+((0:Nat):Int) * 1=lo:=by simp
  have e2:(((hi - lo).toNat:Nat):Int) - ((0:Nat):Int)=Builtin.Range.rangeSize lo hi 1:=by rw[rangeSize_one];split <;> omega
  show IsRangeIter _ _ (lo+((0:Nat):Int) * 1) ((((hi - lo).toNat:Nat):Int) - ((0:Nat):Int)) 1
  rw[e1,e2]
  exact yX _ rfl
 ·have e:b=(s.heap.push {cls:=.type "range",data:=.fields #[.int lo t,.int hi u,.int 1 v]}).objs.size:=by simpa using hb
  subst e
  exact I1.fpOk (yF _) (I1.hok.fresh (yF _))
def wz(ta:TA):TI:=fun σ H R=>ta σ H fun vs H1=>∃j:Int,vs=[.int j]∧-(2 ^ 62)≤j∧j<2 ^ 62∧R (Itr 0 j.toNat) H1
theorem Wb{a:Expr}{ta:TA}{p pos:Pos}(hg:Gl X "range")(hm:X.mg "range"=none)(ha:PA X [a] ta)(hs:starEach [a] X.env=[(false,eval a X.env)]:=by rfl):PI X tg (.Call (.Name "range" p) [a] [] pos) (wz ta):=by
 intro AU s σ H R I h
 refine Call_ (fe I hg hm boot_range (PyProof.Rows.callWith_type1 (thn (ha pos AU s σ H _ I h) fun us s1 ⟨vs,H1,I1,r1,q1⟩=>?_) hs rfl))
 obtain⟨j,e,q1,q2,q⟩:=q1
 subst e
 cases r1 with
 | cons r rr=>
  cases rr
  obtain⟨t,rfl⟩:=r
  exact call_range_1 (qd I1 (by omega) (by omega) q1 q2 (by simpa using q))
def tFor(wi:TI)(g:TG)(tb:TS):TS:=fun D σ H=>wi σ H fun J H1=>∃W:Nat→Nat→St→Hp→Prop,(∃m,W 0 m σ H1)∧∀i m σ H,W i m σ H→
 (J.stop i H∧D.nx σ H)∨(J.go i H∧∃N:St→Hp→Prop,(∀σ' H',N σ' H'→∃m',m'<m∧W (i+1) m' σ' H')∧∀x H',J.yld i H x H'→g x σ H' fun σ2 H2=>tb {D with nx:=N,ct:=N,bk:=D.nx} σ2 H2)
def dS(fp:List Addr)(h:Heap):List (Addr×Obj):=fp.filterMap fun b=>(h.get? b).map fun o=>(b,o)
theorem Vu{fp:List Addr}{h:Heap}{b:Addr}{o:Obj}(hb:b∈fp)(e:h.get? b=some o):(b,o)∈dS fp h:=AF.mpr ⟨b,hb,by rw[e];rfl⟩
theorem nG{fp:List Addr}{h:Heap}{p:Addr×Obj}(hp:p∈dS fp h):p.1∈fp∧h.get? p.1=some p.2:=by
 obtain⟨b,hb,e⟩:=AF.mp hp
 cases q:h.get? b with
 | none=>rw[q]at e;cases e
 | some o=>
  rw[q]at e
  have e':(b,o)=p:=zt e
  subst e'
  exact⟨hb,q⟩
theorem Inv.pinned{AU:List (Addr×Obj)}{σ:St}{H:Hp}{s:Shared}{fp:List Addr}(I:Inv X AU σ H s)(hf:∀b∈fp,cS X AU H b)(ho:∀b∈fp,∃o,s.heap.get? b=some o∧∀v,o.data≠.cell v):Inv X (AU++dS fp s.heap) σ H s:=
 I.pins_of fun p hp=>(yY.mp hp).elim (fun z=>I.pin p (yP _ z)) fun z=>by
  obtain⟨hb,e⟩:=nG z
  obtain⟨f0,f1,f2,_⟩:=hf p.1 hb
  obtain⟨o,e',d⟩:=ho p.1 hb
  rw[e]at e';cases e'
  exact⟨e,f0,f1,f2,d⟩
theorem Inv.unpinned{AU pl:List (Addr×Obj)}{σ:St}{H:Hp}{s:Shared}(I:Inv X (AU++pl) σ H s):Inv X AU σ H s:=I.pins_of fun p hp=>I.pin p (yP _ (zw _ hp))
theorem Xe{iter:Expr}{body:List Stmt}{wi:TI}{g:TG}{tb:TS}{pos:Pos}(hp:PassesOwn (model X.prog X.w) X.A X.env X.xe)(hc:X.calm=true)(hi:PI X tg iter wi)(hg:PG X tg g)(hb:PSs X body tb)(hs:∀x,foldedSetIterable iter X.env x=pure x:=by intro _;rfl):PS X (.For tg iter body [] pos) (tFor wi g tb):=by
 intro AU s σ H D I h
 refine wpAny_For (thn (hi AU s σ H _ I h) fun v s1 h1=>thn h1 fun itv s2 h2=>?_) hs
 obtain⟨it,fp,tn,J,H2,e,I2,T,st2,f2,W,⟨m0,w0⟩,turn⟩:=h2
 subst e
 have stat:∀{H':Hp},(∀b∈fp,H' b=none)→∀b∈fp,cS X AU H' b:=fun hn b hb=>⟨hn b hb,(f2 b hb).2⟩
 refine codeAny_forLoop_any (fun n s'=>∃i σ' H',Inv X AU σ' H' s'∧tn i s'.heap∧(∀b∈fp,H' b=none)∧W i n σ' H') ?_ m0 ⟨0,σ,H2,I2,st2,fun b hb=>(f2 b hb).1,w0⟩
 rintro n s3 ⟨i,σ3,H3,I3,st3,fr3,w3⟩
 rcases turn i n σ3 H3 w3 with⟨stop,qn⟩|⟨go,N,hN,step⟩
 ·refine wpAny_passesOwn hp (thn (T.done X rfl rfl rfl hc i AU s3 σ3 H3 X.xe I3 (stat fr3) st3 stop) fun r s4 AV=>?_)
  obtain⟨hr,I4⟩:=AV
  subst hr
  exact wpAny_execs_nil ⟨σ3,H3,I4,qn⟩
 ·refine wpAny_passesOwn hp (thn (T.item X rfl rfl rfl hc i AU s3 σ3 H3 X.xe I3 (stat fr3) st3 go) fun r s4 AV=>?_)
  obtain⟨u,hr,h4⟩:=AV
  subst hr
  refine wpAny_passesOwn hp (thn h4 fun _ s5 AV=>?_)
  obtain⟨x,H5,I5,r5,y5,st5,fr5⟩:=AV
  have I5':=I5.pinned (stat fr5) (T.obj _ _ st5)
  refine wpAny_passesOwn hp (thn (hg _ s5 σ3 H5 x u _ I5' r5 (step x H5 y5)) fun _ s6 AV=>?_)
  obtain⟨σ6,H6,I6,q6⟩:=AV
  refine wpAny_passesOwn hp (thn (hb _ s6 σ6 H6 _ I6 q6) fun f s7 q7=>?_)
  have again:∀{σ7:St}{H7:Hp},Inv X (AU++dS fp s5.heap) σ7 H7 s7→N σ7 H7→∃m,m<n∧∃i σ' H',Inv X AU σ' H' s7∧tn i s7.heap∧(∀b∈fp,H' b=none)∧W i m σ' H':=fun{σ7 H7} I7 n7=>by
   obtain⟨m',hm,w7⟩:=hN σ7 H7 n7
   refine⟨m',hm,i+1,σ7,H7,I7.unpinned,T.keep _ _ _ st5 fun b hb o e=>(I7.pin (b,o) (yP _ (yP _ (Vu hb e)))).1,fun b hb=>?_,w7⟩
   obtain⟨o,e,d⟩:=T.obj _ _ st5 b hb
   exact(I7.pin (b,o) (yP _ (yP _ (Vu hb e)))).2.1
  cases f with
  | next=>obtain⟨σ7,H7,I7,n7⟩:=q7;exact again I7 n7
  | cont=>obtain⟨σ7,H7,I7,n7⟩:=q7;exact again I7 n7
  | brk=>obtain⟨σ7,H7,I7,q7⟩:=q7;exact⟨σ7,H7,I7.unpinned,q7⟩
  | ret v=>obtain⟨x7,σ7,H7,I7,r7,q7⟩:=q7;exact⟨x7,σ7,H7,I7.unpinned,r7,q7⟩
end
theorem iR{K:PySem.W.Frag}{a:Addr}{xs:List V}{g:TG}{tb:TS}{D:Ends}{σ:St}{H:Hp}(Pv:Nat→St→Hp→Prop)(h0:Pv 0 σ H)(hl:∀i σ H,i≤xs.length→Pv i σ H→SqL K H a xs)(hs:∀i x σ H,xs[i]?=some x→Pv i σ H→g x σ H fun σ2 H2=>tb {D with nx:=Pv (i+1),ct:=Pv (i+1),bk:=D.nx} σ2 H2)(hd:∀σ H,Pv xs.length σ H→D.nx σ H):
  ∃W:Nat→Nat→St→Hp→Prop,(∃m,W 0 m σ H)∧∀i m σ H,W i m σ H→
   ((Itl K a).stop i H∧D.nx σ H)∨((Itl K a).go i H∧∃N:St→Hp→Prop,(∀σ' H',N σ' H'→∃m',m'<m∧W (i+1) m' σ' H')∧∀x H',(Itl K a).yld i H x H'→g x σ H' fun σ2 H2=>tb {D with nx:=N,ct:=N,bk:=D.nx} σ2 H2):=by
 refine⟨fun i m σ H=>m=xs.length - i∧i≤xs.length∧Pv i σ H,⟨xs.length,by simp,Nat.zero_le _,h0⟩,?_⟩
 rintro i m σ H ⟨rfl,hi,p⟩
 have q:=hl i σ H hi p
 by_cases A1:i<xs.length
 ·refine .inr ⟨⟨xs,xs[i],q,by simp[A1]⟩,Pv (i+1),fun σ' H' p'=>⟨xs.length - (i+1),by omega,rfl,A1,p'⟩,fun x H' y=>?_⟩
  obtain⟨e,y⟩:=y
  subst e
  exact hs i x σ _ (y xs q) p
 ·have e:i=xs.length:=by omega
  subst e
  exact .inl ⟨⟨xs,q,yF _⟩,hd σ H p⟩
theorem rT{K:PySem.W.Frag}{a:Addr}{xs:List V}{g:TG}{tb:TS}{D:Ends}{σ:St}{H:Hp}(Pv:Nat→St→Hp→Prop)(h0:Pv 0 σ H)(hl:∀i σ H,i≤xs.length→Pv i σ H→SqT K H a xs)(hs:∀i x σ H,xs[i]?=some x→Pv i σ H→g x σ H fun σ2 H2=>tb {D with nx:=Pv (i+1),ct:=Pv (i+1),bk:=D.nx} σ2 H2)(hd:∀σ H,Pv xs.length σ H→D.nx σ H):
  ∃W:Nat→Nat→St→Hp→Prop,(∃m,W 0 m σ H)∧∀i m σ H,W i m σ H→
   ((Itt K a).stop i H∧D.nx σ H)∨((Itt K a).go i H∧∃N:St→Hp→Prop,(∀σ' H',N σ' H'→∃m',m'<m∧W (i+1) m' σ' H')∧∀x H',(Itt K a).yld i H x H'→g x σ H' fun σ2 H2=>tb {D with nx:=N,ct:=N,bk:=D.nx} σ2 H2):=by
 refine⟨fun i m σ H=>m=xs.length - i∧i≤xs.length∧Pv i σ H,⟨xs.length,by simp,Nat.zero_le _,h0⟩,?_⟩
 rintro i m σ H ⟨rfl,hi,p⟩
 have q:=hl i σ H hi p
 by_cases A1:i<xs.length
 ·refine .inr ⟨⟨xs,xs[i],q,by simp[A1]⟩,Pv (i+1),fun σ' H' p'=>⟨xs.length - (i+1),by omega,rfl,A1,p'⟩,fun x H' y=>?_⟩
  obtain⟨e,y⟩:=y
  subst e
  exact hs i x σ _ (y xs q) p
 ·have e:i=xs.length:=by omega
  subst e
  exact .inl ⟨⟨xs,q,yF _⟩,hd σ H p⟩
theorem mK{lo:Int}{n:Nat}{g:TG}{tb:TS}{D:Ends}{σ:St}{H:Hp}(Pv:Nat→St→Hp→Prop)(h0:Pv 0 σ H)(hs:∀i σ H,i<n→Pv i σ H→g (.int (lo+i)) σ H fun σ2 H2=>tb {D with nx:=Pv (i+1),ct:=Pv (i+1),bk:=D.nx} σ2 H2)(hd:∀σ H,Pv n σ H→D.nx σ H):
  ∃W:Nat→Nat→St→Hp→Prop,(∃m,W 0 m σ H)∧∀i m σ H,W i m σ H→
   ((Itr lo n).stop i H∧D.nx σ H)∨((Itr lo n).go i H∧∃N:St→Hp→Prop,(∀σ' H',N σ' H'→∃m',m'<m∧W (i+1) m' σ' H')∧∀x H',(Itr lo n).yld i H x H'→g x σ H' fun σ2 H2=>tb {D with nx:=N,ct:=N,bk:=D.nx} σ2 H2):=by
 refine⟨fun i m σ H=>m=n - i∧i≤n∧Pv i σ H,⟨n,by simp,Nat.zero_le _,h0⟩,?_⟩
 rintro i m σ H ⟨rfl,hi,p⟩
 by_cases A1:i<n
 ·refine .inr ⟨A1,Pv (i+1),fun σ' H' p'=>⟨n - (i+1),by omega,rfl,A1,p'⟩,fun x H' y=>?_⟩
  obtain⟨e,y⟩:=y
  subst e y
  exact hs i σ _ A1 p
 ·have e:i=n:=by omega
  subst e
  exact .inl ⟨yF _,hd σ H p⟩
theorem Tt{c:TT}{tb:TS}{D:Ends}{σ:St}{H:Hp}(Pv:St→Hp→Prop)(μ:St→Hp→Nat)(h0:Pv σ H)(hs:∀σ H,Pv σ H→c σ H fun b H1=>if b=true then tb {D with nx:=fun σ' H'=>Pv σ' H'∧μ σ' H'<μ σ H,ct:=fun σ' H'=>Pv σ' H'∧μ σ' H'<μ σ H,bk:=D.nx} σ H1 else D.nx σ H1)(mono:∀σ H Q Q',(∀b H1,Q b H1→Q' b H1)→c σ H Q→c σ H Q'):pH c tb D σ H:=by
 refine⟨fun m σ H=>m=μ σ H∧Pv σ H,⟨_,rfl,h0⟩,?_⟩
 rintro m σ H ⟨rfl,p⟩
 refine mono σ H _ _ (fun b H1 q=>?_) (hs σ H p)
 cases b with
 | true=>exact⟨_,fun σ' H' ⟨p',l⟩=>⟨_,l,rfl,p'⟩,q⟩
 | false=>exact q
abbrev R2:=V→V→Hp→VK→Prop
def OpR(X:Cx)(f:Value→Value→Sem Value)(r:R2):Prop:=
 ∀(AU:List (Addr×Obj))(s:Shared)(σ:St)(H:Hp)(x y:V)(v u:Value)(Q:VK),Inv X AU σ H s→RelV x v→RelV y u→r x y H Q→
  wpAny (model X.prog X.w) X.A (f v u) (EP X AU σ Q) X.xe s
def bH(X:Cx)(f:Value)(r:List V→Hp→VK→Prop):Prop:=
 ∀(AU:List (Addr×Obj))(s:Shared)(σ:St)(H:Hp)(xs:List V)(us:List Value)(Q:VK),Inv X AU σ H s→Vals xs us→r xs H Q→
  wpAny (model X.prog X.w) X.A (call f us) (EP X AU σ Q) X.xe s
def tOp(r:R2)(ta tb:TE):TE:=fun σ H Q=>ta σ H fun x H1=>tb σ H1 fun y H2=>r x y H2 Q
def rI(C:Int→Int→Prop)(g:Int→Int→V):R2:=fun x y H Q=>∃i j,x=.int i∧y=.int j∧C i j∧Q (g i j) H
def rI0(g:Int→Int→V):R2:=fun x y H Q=>∃i j,x=.int i∧y=.int j∧Q (g i j) H
section
variable{X:Cx}{a b c:Expr}{ta tb tc:TE}{pos:Pos}
theorem uR(ha:PE X a ta)(hb:PE X b tb){AU:List (Addr×Obj)}{s:Shared}{σ:St}{H:Hp}{R:V→V→Hp→Prop}(I:Inv X AU σ H s)(h:ta σ H fun x H1=>tb σ H1 fun y H2=>R x y H2){Q:Value→Shared→Prop}{f:Value→Value→Sem Value}(hf:∀v u s2 x y H2,Inv X AU σ H2 s2→RelV x v→RelV y u→R x y H2→wpAny (model X.prog X.w) X.A (f v u) Q X.xe s2):
  wpAny (model X.prog X.w) X.A (eval a X.env) (fun v s₁=>wpAny (model X.prog X.w) X.A (eval b X.env) (fun u s₂=>wpAny (model X.prog X.w) X.A (f v u) Q X.xe s₂) X.xe s₁) X.xe s:=by
 refine thn (ha AU s σ H _ I h) fun v s1 AV=>?_
 obtain⟨x,H1,I1,r1,q1⟩:=AV
 refine thn (hb AU s1 σ H1 _ I1 q1) fun u s2 AV=>?_
 obtain⟨y,H2,I2,r2,q2⟩:=AV
 exact hf v u s2 x y H2 I2 r1 r2 q2
theorem Zb{op:Operator}{r:R2}(ho:OpR X (binaryOp op) r)(ha:PE X a ta)(hb:PE X b tb):PE X (.BinOp a op b pos) (tOp r ta tb):=by
 intro AU s σ H Q I h
 exact wpAny_BinOp (uR ha hb I h fun v u s2 x y H2 I2 rx ry q=>ho AU s2 σ H2 x y v u Q I2 rx ry q)
theorem opI{f:Value→Value→Sem Value}{C:Int→Int→Prop}{g:Int→Int→Int}(rule:∀(i j:Int) (t u:Tok) (s:Shared) (Q:Value→Shared→Prop) (E:Value→Shared→Prop),C i j→Q (.int (g i j) s.toks) {s with toks:=s.toks+1}→wpAny (model X.prog X.w) X.A (f (.int i t) (.int j u)) Q E s):
  OpR X f (rI C fun i j=>.int (g i j)):=by
 intro AU s σ H x y v u Q I rx ry h
 obtain⟨i,j,rfl,rfl,hc,q⟩:=h
 obtain⟨t,rfl⟩:=rx
 obtain⟨t',rfl⟩:=ry
 exact rule i j t t' s _ _ hc ⟨.int (g i j),H,I.tok _,⟨_,rfl⟩,q⟩
theorem yc{f:Value→Value→Sem Value}{g:Int→Int→Int}(rule:∀(i j:Int) (t u:Tok) (s:Shared) (Q:Value→Shared→Prop) (E:Value→Shared→Prop),Q (.int (g i j) s.toks) {s with toks:=s.toks+1}→wpAny (model X.prog X.w) X.A (f (.int i t) (.int j u)) Q E s):
  OpR X f (rI0 fun i j=>.int (g i j)):=by
 intro AU s σ H x y v u Q I rx ry h
 obtain⟨i,j,rfl,rfl,q⟩:=h
 obtain⟨t,rfl⟩:=rx
 obtain⟨t',rfl⟩:=ry
 exact rule i j t t' s _ _ ⟨.int (g i j),H,I.tok _,⟨_,rfl⟩,q⟩
theorem rB{f:Value→Value→Sem Value}{g:Int→Int→Bool}(rule:∀(i j:Int) (t u:Tok) (s:Shared) (Q:Value→Shared→Prop) (E:Value→Shared→Prop),Q (.bool (g i j)) s→wpAny (model X.prog X.w) X.A (f (.int i t) (.int j u)) Q E s):
  OpR X f (rI0 fun i j=>.bl (g i j)):=by
 intro AU s σ H x y v u Q I rx ry h
 obtain⟨i,j,rfl,rfl,q⟩:=h
 obtain⟨t,rfl⟩:=rx
 obtain⟨t',rfl⟩:=ry
 exact rule i j t t' s _ _ ⟨.bl (g i j),H,I,rfl,q⟩
def xH(i j:Int):Prop:=0<j∧j<1073741824
def uD(i j:Int):Prop:=0≤j∧j≤1000000∧i.natAbs<2 ^ 64
def CMul(i j:Int):Prop:=(-(2 ^ 64)<i∧i<2 ^ 64)∨(-(2 ^ 64)<j∧j<2 ^ 64)
theorem CMul.ok{i j:Int}(h:CMul i j):IntMulOk i j:=by
 rcases h with⟨h1,h2⟩|⟨h1,h2⟩
 ·exact .of_left (intBits_le_64 h1 h2)
 ·exact .of_right (intBits_le_64 h1 h2)
theorem Zs:OpR X (binaryOp .Add) (rI0 fun i j=>.int (i+j)):=yc fun _ _ _ _ _ _ _ q=>add_int q
theorem Xv:OpR X (binaryOp .Sub) (rI0 fun i j=>.int (i - j)):=yc fun _ _ _ _ _ _ _ q=>sub_int q
theorem X7:OpR X (binaryOp .Mult) (rI CMul fun i j=>.int (i * j)):=opI fun _ _ _ _ _ _ _ hc q=>mul_int q hc.ok
theorem Xy:OpR X (binaryOp .FloorDiv) (rI xH fun i j=>.int (i / j)):=opI fun i j _ _ _ _ _ hc q=>by
 have h1:(0:Int)<j:=hc.1
 have h2:j<1073741824:=hc.2
 exact floordiv_int (by omega) (by rw[Int.fdiv_eq_ediv_of_nonneg i (by omega)];exact q) (.inl (PyProof.noPylong_small (by omega)))
theorem Wj:OpR X (binaryOp .Mod) (rI (fun _ j=>0<j) fun i j=>.int (i % j)):=opI fun i j _ _ _ _ _ hc q=>by
 have h1:(0:Int)<j:=hc
 exact mod_int' (by omega) (by rw[Int.fmod_eq_emod_of_nonneg i (by omega)];exact q)
theorem Ub:OpR X (binaryOp .Pow) (rI uD fun i j=>.int (i ^ j.toNat)):=opI fun _ _ _ _ _ _ _ hc q=>pow_int_small hc.1 hc.2.1 hc.2.2 q
theorem P1:OpR X (binaryOp .LShift) (rI uD fun i j=>.int (i * 2 ^ j.toNat)):=opI fun _ _ _ _ _ _ _ hc q=>lshift_int_small hc.1 hc.2.1 hc.2.2 q
end
def ye:V→V→Bool
 | .non,.non=>true | .non,.int _=>true | .int _,.non=>true | .non,.bl _=>true | .bl _,.non=>true | .non,.str _=>true | .str _,.non=>true
 | .int _,.int _=>true | .bl _,.bl _=>true | .str _,.str _=>true | .byt _,.byt _=>true
 | .int _,.str _=>true | .str _,.int _=>true | .bl _,.str _=>true | .str _,.bl _=>true
 | _,_=>false
def rEq:R2:=fun x y H Q=>ye x y=true∧Q (.bl (decide (x=y))) H
def rNe:R2:=fun x y H Q=>ye x y=true∧Q (.bl (!decide (x=y))) H
theorem kj{i j:Int}:decide (V.int i=V.int j)=(i == j):=by
 rw[zZ]
 simp
theorem oH{i j:Bool}:decide (V.bl i=V.bl j)=(i == j):=by
 rw[zZ]
 simp
theorem k8{i j:Str}:decide (V.str i=V.str j)=(i == j):=by
 rw[zZ]
 simp
theorem kI{i j:Array UInt8}:decide (V.byt i=V.byt j)=(i.toList == j.toList):=by
 rw[zZ]
 cases i
 cases j
 simp
section
variable{X:Cx}{a b c:Expr}{ta tb tc:TE}{pos:Pos}
theorem Zy{AU:List (Addr×Obj)}{σ:St}{H:Hp}{s:Shared}{Q:VK}{k k':Bool}(I:Inv X AU σ H s)(q:Q (.bl k) H)(e:k=k'):EP X AU σ Q (.bool k') s:=by
 subst e
 exact⟨.bl k,H,I,rfl,q⟩
theorem Og:OpR X (compareOp .Eq) rEq:=by
 intro AU s σ H x y v u Q I rx ry h
 obtain⟨hs,q⟩:=h
 cases x with
 | non=>
  cases rx
  cases y with
  | non=>cases ry;exact PySem.EqNone.eq_none_none (Zy I q (by simp))
  | bl j=>cases ry;exact PySem.EqNone.eq_none_bool (Zy I q (by simp))
  | int j=>obtain⟨t',rfl⟩:=ry;exact PySem.EqNone.eq_none_int (Zy I q (by simp))
  | str j=>obtain⟨t',rfl⟩:=ry;exact PySem.EqNone.eq_none_str (Zy I q (by simp))
  | _=>exact absurd (show false=true from hs) yL
 | bl i=>
  cases rx
  cases y with
  | non=>cases ry;exact PySem.EqNone.eq_bool_none (Zy I q (by simp))
  | bl j=>cases ry;exact eq_bool (Zy I q oH)
  | str j=>obtain⟨t',rfl⟩:=ry;exact PySem.EqMixed.eq_bool_str (Zy I q (by simp))
  | _=>exact absurd (show false=true from hs) yL
 | int i=>
  obtain⟨t,rfl⟩:=rx
  cases y with
  | non=>cases ry;exact PySem.EqNone.eq_int_none (Zy I q (by simp))
  | int j=>obtain⟨t',rfl⟩:=ry;exact eq_int (Zy I q kj)
  | str j=>obtain⟨t',rfl⟩:=ry;exact PySem.EqMixed.eq_int_str (Zy I q (by simp))
  | _=>exact absurd (show false=true from hs) yL
 | str i=>
  obtain⟨t,rfl⟩:=rx
  cases y with
  | non=>cases ry;exact PySem.EqNone.eq_str_none (Zy I q (by simp))
  | bl j=>cases ry;exact PySem.EqMixed.eq_str_bool (Zy I q (by simp))
  | int j=>obtain⟨t',rfl⟩:=ry;exact PySem.EqMixed.eq_str_int (Zy I q (by simp))
  | str j=>obtain⟨t',rfl⟩:=ry;exact eq_str (Zy I q k8)
  | _=>exact absurd (show false=true from hs) yL
 | byt i=>
  obtain⟨t,rfl⟩:=rx
  cases y with
  | byt j=>obtain⟨t',rfl⟩:=ry;exact W.eq_bytes (Zy I q kI)
  | _=>exact absurd (show false=true from hs) yL
 | _=>cases y <;> exact absurd (show false=true from hs) yL
theorem uc:OpR X (compareOp .NotEq) rNe:=by
 intro AU s σ H x y v u Q I rx ry h
 obtain⟨hs,q⟩:=h
 cases x with
 | non=>
  cases rx
  cases y with
  | non=>cases ry;exact PySem.EqNone.ne_none_none (Zy I q (by simp))
  | bl j=>cases ry;exact PySem.EqNone.ne_none_bool (Zy I q (by simp))
  | int j=>obtain⟨t',rfl⟩:=ry;exact PySem.EqNone.ne_none_int (Zy I q (by simp))
  | str j=>obtain⟨t',rfl⟩:=ry;exact PySem.EqNone.ne_none_str (Zy I q (by simp))
  | _=>exact absurd (show false=true from hs) yL
 | bl i=>
  cases rx
  cases y with
  | non=>cases ry;exact PySem.EqNone.ne_bool_none (Zy I q (by simp))
  | bl j=>cases ry;exact ne_bool (Zy I q (Ad not oH))
  | str j=>obtain⟨t',rfl⟩:=ry;exact PySem.EqMixed.ne_bool_str (Zy I q (by simp))
  | _=>exact absurd (show false=true from hs) yL
 | int i=>
  obtain⟨t,rfl⟩:=rx
  cases y with
  | non=>cases ry;exact PySem.EqNone.ne_int_none (Zy I q (by simp))
  | int j=>obtain⟨t',rfl⟩:=ry;exact ne_int (Zy I q (Ad not kj))
  | str j=>obtain⟨t',rfl⟩:=ry;exact PySem.EqMixed.ne_int_str (Zy I q (by simp))
  | _=>exact absurd (show false=true from hs) yL
 | str i=>
  obtain⟨t,rfl⟩:=rx
  cases y with
  | non=>cases ry;exact PySem.EqNone.ne_str_none (Zy I q (by simp))
  | bl j=>cases ry;exact PySem.EqMixed.ne_str_bool (Zy I q (by simp))
  | int j=>obtain⟨t',rfl⟩:=ry;exact PySem.EqMixed.ne_str_int (Zy I q (by simp))
  | str j=>obtain⟨t',rfl⟩:=ry;exact ne_str (Zy I q (Ad not k8))
  | _=>exact absurd (show false=true from hs) yL
 | byt i=>
  obtain⟨t,rfl⟩:=rx
  cases y with
  | byt j=>obtain⟨t',rfl⟩:=ry;exact W.ne_bytes (Zy I q (Ad not kI))
  | _=>exact absurd (show false=true from hs) yL
 | _=>cases y <;> exact absurd (show false=true from hs) yL
theorem lz:OpR X (compareOp .Lt) (rI0 fun i j=>.bl (decide (i<j))):=rB fun _ _ _ _ _ _ _ q=>lt_int q
theorem Vb:OpR X (compareOp .LtE) (rI0 fun i j=>.bl (decide (i≤j))):=rB fun _ _ _ _ _ _ _ q=>le_int q
theorem U1:OpR X (compareOp .Gt) (rI0 fun i j=>.bl (decide (j<i))):=rB fun _ _ _ _ _ _ _ q=>gt_int q
theorem lx:OpR X (compareOp .GtE) (rI0 fun i j=>.bl (decide (j≤i))):=rB fun _ _ _ _ _ _ _ q=>ge_int q
theorem nQ:OpR X (compareOp .Is) (fun x y H Q=>y=.non∧Q (.bl (decide (x=.non))) H):=by
 intro AU s σ H x y v u Q I rx ry h
 obtain⟨rfl,q⟩:=h
 cases ry
 refine is_none_gen (Zy I q ?_)
 cases x <;> first
  | (cases rx;rfl)
  | (obtain⟨t,rfl⟩:=rx;rfl)
theorem lT:OpR X (compareOp .IsNot) (fun x y H Q=>y=.non∧Q (.bl (!decide (x=.non))) H):=by
 intro AU s σ H x y v u Q I rx ry h
 obtain⟨rfl,q⟩:=h
 cases ry
 refine isnot_none_gen (Zy I q ?_)
 cases x <;> first
  | (cases rx;rfl)
  | (obtain⟨t,rfl⟩:=rx;rfl)
theorem Zk(b:Expr){op:CmpOp}(h:op≠.In:=by decide)(h2:op≠.NotIn:=by decide):behindInMarks op b=false:=by
 have e1:(op == CmpOp.In)=false:=by cases op <;> first | rfl | exact absurd rfl h
 have e2:(op == CmpOp.NotIn)=false:=by cases op <;> first | rfl | exact absurd rfl h2
 cases b <;> simp[behindInMarks,e1,e2]
theorem Sa{op:CmpOp}{r:R2}(ho:OpR X (compareOp op) r)(ha:PE X a ta)(hb:PE X b tb)(hm:behindInMarks op b=false):PE X (.Compare a [op] [b] pos) (tOp r ta tb):=by
 intro AU s σ H Q I h
 exact wpAny_Compare1 (uR ha hb I h fun v u s2 x y H2 I2 rx ry q=>ho AU s2 σ H2 x y v u Q I2 rx ry q) hm
def uq(t:TE):TT:=fun σ H Q=>t σ H fun x H'=>∃k,x=.bl k∧Q k H'
theorem Zi{op:CmpOp}{r:R2}(ho:OpR X (compareOp op) r)(ha:PE X a ta)(hb:PE X b tb)(hm:behindInMarks op b=false):PT X (.Compare a [op] [b] pos) (uq (tOp r ta tb)):=by
 intro AU s σ H Q I h
 refine wpAny_isTrue_Compare1 (thn (ha AU s σ H _ I h) fun v s1 ⟨x,H1,I1,r1,q1⟩=>thn (hb AU s1 σ H1 _ I1 q1) fun u s2 ⟨y,H2,I2,r2,q2⟩=>
  thn (ho AU s2 σ H2 x y v u _ I2 r1 r2 q2) fun c s3 ⟨z,H3,I3,r3,k,e,q3⟩=>?_) hm
 subst e
 cases r3
 exact Al ⟨H3,I3,q3⟩
def vW(r r':R2)(ta tb tc:TE):TE:=fun σ H Q=>ta σ H fun x H1=>tb σ H1 fun y H2=>r x y H2 fun z H3=>∃k,z=.bl k∧
 (if k=true then tc σ H3 fun w' H4=>r' y w' H4 Q else Q (.bl false) H3)
theorem S4{op op':CmpOp}{r r':R2}(ho:OpR X (compareOp op) r)(ho':OpR X (compareOp op') r')(ha:PE X a ta)(hb:PE X b tb)(hc:PE X c tc)(hm:lastMarks [op,op'] [b,c]=false:=by with_unfolding_all rfl):PT X (.Compare a [op,op'] [b,c] pos) (uq (vW r r' ta tb tc)):=by
 intro AU s σ H Q I h
 refine isTrue_chain (thn (ha AU s σ H _ I h) fun v s1 ⟨x,H1,I1,r1,q1⟩=>test_link (thn (hb AU s1 σ H1 _ I1 q1) fun u s2 ⟨y,H2,I2,r2,q2⟩=>
  thn (ho AU s2 σ H2 x y v u _ I2 r1 r2 q2) fun d s3 ⟨z,H3,I3,r3,k,e,q3⟩=>?_)) hm
 subst e
 cases r3
 refine Al ?_
 cases k with
 | false=>
  obtain⟨k',e',q'⟩:=q3
  cases e'
  exact ite_ff ⟨H3,I3,q'⟩
 | true=>
  refine ite_tt (test_last (thn (hc AU s3 σ H3 _ I3 q3) fun w' s4 ⟨z',H4,I4,r4,q4⟩=>thn (ho' AU s4 σ H4 y z' u w' _ I4 r2 r4 q4) fun d' s5 AV=>?_))
  obtain⟨z2,H5,I5,r5,k2,e2,q5⟩:=AV
  subst e2
  cases r5
  exact Al ⟨H5,I5,q5⟩
theorem fj:(sizeLine:Nat)<2 ^ 63:=by rw[sizeLine_eq];decide
theorem T8{x:V}{us:List Value}(r:Vals [x] us):∃u,us=[u]∧RelV x u:=by
 cases r with
 | cons r1 r2=>cases r2;exact⟨_,rfl,r1⟩
theorem kJ{x y:V}{us:List Value}(r:Vals [x,y] us):∃u w',us=[u,w']∧RelV x u∧RelV y w':=by
 cases r with
 | cons r1 r2=>
  cases r2 with
  | cons r3 r4=>cases r4;exact⟨_,_,rfl,r1,r3⟩
theorem mD(hc:X.calm=true):bH X (.builtin "min") (fun xs H Q=>∃i j,xs=[.int i,.int j]∧Q (.int (if j<i then j else i)) H):=by
 intro AU s σ H xs us Q I r h
 obtain⟨i,j,rfl,q⟩:=h
 obtain⟨u,w',rfl,⟨t,rfl⟩,⟨t',rfl⟩⟩:=kJ r
 refine min_two_ints (I.ok.hd hc) fun h' tk k=>⟨_,H,I.kept k,?_,q⟩
 by_cases hj:j<i
 ·rw[yC hj,yC hj];exact⟨_,rfl⟩
 ·rw[yy hj,yy hj];exact⟨_,rfl⟩
end
structure ObjM(h:Heap)(x dx C:Addr)(mA:Str→Option Value):Prop where
 obj:h.get? x=some (W.instObj C dx)
 ns:h.Ns1 dx mA
 ne:dx≠x
theorem l9{h:Heap}{dx:Addr}{mA:Str→Option Value}(n:h.Ns1 dx mA):∃od,h.get? dx=some od∧∀name,W.lookIn name od=some (mA name):=by
 obtain⟨o,es,ep,ho,hd,hk,_,hm⟩:=n
 refine⟨o,ho,fun name=>?_⟩
 have e:=hm name
 unfold nsFind findBy at e
 rw[←Array.find?_toList]at e
 unfold W.lookIn
 rw[hd]
 dsimp only
 split
 ·rename_i y q
  rw[q]at e
  exact Ad some e
 ·rename_i q
  rw[q]at e
  have a:es.toList.any (·.refKey)=false:=by
   rw[List.any_eq_false]
   intro y hy
   obtain⟨z,t,hkey⟩:=hk y (Array.mem_toList_iff.mp hy)
   simp[DictEntry.refKey,hkey]
  have a':¬es.toList.any (·.refKey)=true:=by rw[a];exact yL
  rw[yy a']
  exact Ad some e
theorem ObjM.look{h:Heap}{x dx C:Addr}{mA:Str→Option Value}(I:ObjM h x dx C mA):∃od,W.InstAt h x (W.instObj C dx) C (some od)∧∀name,W.lookIn name od=some (mA name):=
 let ⟨od,ho,hl⟩:=l9 I.ns
 ⟨od,⟨I.obj,rfl,rfl,ho⟩,hl⟩
section
variable{prog:Program}{w:World}{A:Around}{E:Value→Shared→Prop}{s:Shared}{K:W.Frag}{x dx C f:Addr}{mA:Str→Option Value}{name:Str}{v:Value}
end
theorem RelO.some_of{v:V}{o:Option Value}(r:RelO (some v) o):∃u,o=some u∧RelV v u:=by
 cases o with
 | none=>exact(show False from r).elim
 | some u=>exact⟨u,rfl,r⟩
section
variable{P:Program}{w:World}{H H':Hp}{h h':Heap}{a C dx:Addr}{fs fs':List (Str×V)}
theorem rn(hok:HOk P w H h)(e:H a=some (.ins C dx fs)):∃mA,ObjM h a dx C mA∧(∀f,RelO (fs.lookup f) (mA f))∧PySem.Within mA (fs.map (·.1))∧fs.length≤1000∧H dx=some (.own a):=by
 obtain⟨d,z,ne,ob,mA,n,r,q⟩:=(show ObjOk P w H h a (.ins C dx fs)from hok a _ e)
 exact⟨mA,⟨ob,n,ne⟩,r,q,z,d⟩
end
structure Cls(K:W.Frag)(C:Addr):Prop where
 pg:W.plainGet K C Str.empty=true
 hd:W.hasDictIn K C=true
 po:W.plainOver K C=true
 sa:W.findIn K (.ref C) "__setattr__"=some (some (.builtin "object.__setattr__"))
theorem Cls.get{K:W.Frag}{C:Addr}(c:Cls K C)(f:Str):W.plainGet K C f=true:=c.pg
section
variable{X:Cx}{AU:List (Addr×Obj)}{σ:St}{H:Hp}{s:Shared}{a C dx:Addr}{fs:List (Str×V)}{f:Str}{v:V}{A:Around}{E:Value→Shared→Prop}
end
section
variable{X:Cx}{o e value:Expr}{f:Str}{pos pos' tpos:Pos}{ta tv:TE}
end
section
variable{X:Cx}{AU:List (Addr×Obj)}{σ:St}{H:Hp}{s:Shared}{A:Around}{E:Value→Shared→Prop}{Q:Value→Shared→Prop}{c:Value}{b:Bool}
inductive TyOf(K:W.Frag)(H:Hp):V→Value→Prop where
 | non:TyOf K H .non (.type "NoneType")
 | bl (x:Bool):TyOf K H (.bl x) (.type "bool")
 | int (i:Int):TyOf K H (.int i) (.type "int")
 | str (x:Str):TyOf K H (.str x) (.type "str")
 | flt (x:UInt64):TyOf K H (.flt x) (.type "float")
 | lst {a:Addr} {xs:List V} (e:H a=some (.lst xs)):TyOf K H (.ref a) (.type "list")
 | frz {a:Addr} {o:Obj} {xs:List V} (e:H a=some (.frz o (.lst xs))):TyOf K H (.ref a) (.type "list")
 | tup {a:Addr} {xs:List V} (e:H a=some (.tup xs)):TyOf K H (.ref a) (.type "tuple")
 | dK {a:Addr} {kvs:List (Key×V)} (e:H a=some (.dK kvs)):TyOf K H (.ref a) (.type "dict")
 | dT {a:Addr} {kvs:List (List Key×V)} (e:H a=some (.dT kvs)):TyOf K H (.ref a) (.type "dict")
 | ins {a C dx:Addr} {fs:List (Str×V)} (e:H a=some (.ins C dx fs)) (cl:Cls K C) (ha:W.findIn K (.ref C) "__class__"=some (some (.builtin "object.__class__")))
   (hn:W.specialIn K (.builtin "object.__class__") "__get__"=some (some (.builtin "getset_descriptor.__get__"))) (htk:W.takesIn K (.builtin "object.__class__")=some true)
   (hm:W.mroIn K C (.type "object")=some true):TyOf K H (.ref a) (.ref C)
theorem ma{x:V}{u t:Value}(I:Inv X AU σ H s)(rx:RelV x u)(ty:TyOf X.K H x t)(e:W.kitOne X.K t c=some b)(h:∀tk,Q (.bool b) {s with toks:=tk}):
  wpAny (model X.prog X.w) A (call (.builtin "isinstance") [u,c]) Q E s:=by
 cases ty with
 | non=>cases (show u=Value.none from rx);exact W.kia_one W.kitx_none I.kIn True.intro e (fun z=>nomatch z) h
 | bl y=>cases (show u=Value.bool y from rx);exact W.kia_one W.kitx_bool I.kIn True.intro e (fun z=>nomatch z) h
 | int i=>obtain⟨t,q⟩:=(show ∃t,u=Value.int i t from rx);cases q;exact W.kia_one W.kitx_int I.kIn True.intro e (fun z=>nomatch z) h
 | str y=>obtain⟨t,q⟩:=(show ∃t,u=Value.str y t from rx);cases q;exact W.kia_one W.kitx_str I.kIn True.intro e (fun z=>nomatch z) h
 | flt y=>obtain⟨t,q⟩:=(show ∃t,u=Value.float y t from rx);cases q;exact W.kia_one W.kitx_float I.kIn True.intro e (fun z=>nomatch z) h
 | @lst a xs ea=>
  cases (show u=Value.ref a from rx)
  obtain⟨_,_,n,_,h1⟩:=(show ObjOk X.prog X.w H s.heap a (.lst xs)from I.hok a _ ea)
  exact W.kia_one W.kitx_list I.kIn ⟨_,h1,rfl⟩ e (fun z=>nomatch z) h
 | @frz a ob xs ea=>
  cases (show u=Value.ref a from rx)
  obtain⟨_,_,_,n,_,h1⟩:=(show ObjOk X.prog X.w H s.heap a (.frz ob (.lst xs))from I.hok a _ ea)
  exact W.kia_one W.kitx_list I.kIn ⟨_,h1,rfl⟩ e (fun z=>nomatch z) h
 | @tup a xs ea=>
  cases (show u=Value.ref a from rx)
  obtain⟨_,_,_,p⟩:=(show ObjOk X.prog X.w H s.heap a (.tup xs)from I.hok a _ ea)
  obtain⟨o,h1,h2,_⟩:=p
  exact W.kia_one W.kitx_tuple I.kIn ⟨o,h1,h2.1⟩ e (fun z=>nomatch z) h
 | @dK a kvs ea=>
  cases (show u=Value.ref a from rx)
  obtain⟨_,_,vs,_,p⟩:=(show ObjOk X.prog X.w H s.heap a (.dK kvs)from I.hok a _ ea)
  obtain⟨o,es,ep,h1,h2,_⟩:=p
  exact W.kia_one W.kitx_dict I.kIn ⟨o,h1,h2.1⟩ e (fun z=>nomatch z) h
 | @dT a kvs ea=>
  cases (show u=Value.ref a from rx)
  obtain⟨_,_,xs,_,o,es,ep,h1,h2,_⟩:=(show ObjOk X.prog X.w H s.heap a (.dT kvs)from I.hok a _ ea)
  exact W.kia_one W.kitx_dict I.kIn ⟨o,h1,h2.1⟩ e (fun z=>nomatch z) h
 | @ins a C dx fs ea cl ha hn htk hm=>
  cases (show u=Value.ref a from rx)
  obtain⟨mA,O,_⟩:=rn I.hok ea
  obtain⟨od,J,_⟩:=O.look
  exact W.kia_one (W.kitx_own (cl.get _) cl.hd ha hn htk hm) I.kIn J e (fun z=>nomatch z) h
end
structure Room(k:Nat)(A:Around):Prop where
 hd:A.handled=none
 dp:A.depth+3 * k+5<recursionLimit
 un:A.units+16 * k+200<cLine
theorem Room.mono{j k:Nat}{A:Around}(r:Room k A)(h:j≤k):Room j A:=⟨r.hd,by have:=r.dp;omega,by have:=r.un;omega⟩
theorem Room.deeper{k:Nat}{A:Around}(r:Room (k+1) A)(env:Env):Room k (A.deeper env):=
 ⟨r.hd,by have:=r.dp;show A.depth+1+3 * k+5<_;omega,by have:=r.un;show A.units+3+16 * k+200<_;omega⟩
theorem Room.depth{k:Nat}{A:Around}(r:Room k A):A.depth<recursionLimit:=by have:=r.dp;omega
theorem Room.units{k:Nat}{A:Around}(r:Room k A):A.units+64<cLine:=by have:=r.un;omega
def tNil:TA:=fun _ H Q=>Q [] H
def uk(ta:TE)(tr:TA):TA:=fun σ H Q=>ta σ H fun x H1=>tr σ H1 fun xs H2=>Q (x::xs) H2
section
variable{X:Cx}{e:Expr}{es:List Expr}{te:TE}{t:TA}{pos:Pos}
theorem Z0:PA X [] tNil:=fun _ _ _ _ H Q I h=>Calls.spliced_nil ⟨[],H,I,.nil,h⟩
theorem su(ha:PE X e te)(hr:PA X es t)(hs:starEach (e::es) X.env=(false,eval e X.env)::starEach es X.env:=by rfl):PA X (e::es) (uk te t):=by
 intro pos AU s σ H Q I h
 rw[hs]
 show wpAny _ _ (spliced ((false,eval e X.env)::backTo pos (starEach es X.env))) _ _ s
 refine Calls.spliced_cons (thn (ha AU s σ H _ I h) fun u s1 AV=>?_)
 obtain⟨x,H1,I1,r1,q1⟩:=AV
 exact thn (hr pos AU s1 σ H1 _ I1 q1) fun us s2 ⟨xs,H2,I2,r2,q2⟩=>⟨x::xs,H2,I2,.cons r1 r2,q2⟩
def tTup(t:TA):TE:=fun σ H Q=>t σ H fun xs H1=>xs.length≤sizeLine∧∀p,H1 p=none→Q (.ref p) (upd H1 p (.tup xs))
def tLst(t:TA):TE:=fun σ H Q=>t σ H fun xs H1=>xs.length≤sizeLine∧∀p,H1 p=none→Q (.ref p) (upd H1 p (.lst xs))
theorem Zr{x1}(h:PA X es t):PE X (.Tuple es x1 pos) (tTup t):=by
 intro AU s σ H Q I hq
 refine wpAny_Tuple_spliced (thn (h pos AU s σ H _ I hq) fun us s1 ⟨xs,H1,I1,r,z,q⟩=>⟨by rw[←r.length];exact z,?_⟩)
 have hf:H1 s1.heap.objs.size=none:=I1.hok.fresh (yF _)
 refine⟨.ref s1.heap.objs.size,upd H1 s1.heap.objs.size (.tup xs),I1.laid (t':=s1.toks) (fun b u e=>yA _ e) (yF _) ?_,rfl,q _ hf⟩
 exact⟨z,us,r,TupN.new _ _⟩
theorem Yh(h:PA X es t):PE X (.List es pos) (tLst t):=by
 intro AU s σ H Q I hq
 refine wpAny_List_spliced (thn (h pos AU s σ H _ I hq) fun us s1 ⟨xs,H1,I1,r,z,q⟩=>⟨by rw[←r.length];exact z,?_⟩)
 have hf:H1 s1.heap.objs.size=none:=I1.hok.fresh (yF _)
 refine⟨.ref s1.heap.objs.size,upd H1 s1.heap.objs.size (.lst xs),I1.laid (t':=s1.toks) (fun b u e=>yA _ e) (yF _) ?_,rfl,q _ hf⟩
 exact⟨z,us,0,r,yX _ rfl⟩
end
abbrev Sp:=List V→Hp→VK→XK→Prop
abbrev CXT:=List Env→Hp→Shared→XK→Value→Shared→Prop
structure Env0(P:Program)(w:World)(K:W.Frag)(mg:Str→Option Value)(base:Heap)(A:Around)(outer:List Env)(s:Shared)(H:Hp):Prop where
 frames:A.frames=some outer
 mod:Mod K mg base
 bs:∀b o,base.get? b=some o→s.heap.get? b=some o∧H b=none
 bsz:base.objs.size≤s.heap.objs.size
 funs:s.heap.FunFrames base outer
 frf:∀b∈frs outer,H b=none
 hok:HOk P w H s.heap
 bare:AllBare s.gens
def CE(outer:List Env)(P:Program)(w:World)(H:Hp)(s:Shared)(Q:VK)(u:Value)(s':Shared):Prop:=
 ∃v H',s'.os=s.os∧AllBare s'.gens∧Un (frs outer) [] H H' s.heap s'.heap∧HOk P w H' s'.heap∧RelV v u∧Q v H'
def CR(CX:CXT)(outer:List Env)(P:Program)(w:World)(H:Hp)(s:Shared)(Q:VK)(E:XK)(r:Result)(s':Shared):Prop:=
 match r with
 | .ok (.ret u)=>CE outer P w H s Q u s'
 | .ok _=>False
 | .error e=>CX outer H s E e s'
structure FnOk(P:Program)(w:World)(K:W.Frag)(mg:Str→Option Value)(base:Heap)(CX:CXT)(k:Nat)(f:Addr)(fd:FuncData)(ps:List Str)(sp:Sp):Prop where
 len:∀vs H Q E,sp vs H Q E→vs.length=ps.length
 run:∀(A:Around)(outer:List Env)(s:Shared)(H:Hp)(args:Args)(us:List Value)(vs:List V)(Q:VK)(E:XK),Room k A→Env0 P w K mg base A outer s H→BindsTo s fd args (ps.zip us)→Vals vs us→sp vs H Q E→
  codeAny (model P w) A (.call (.ref f) args) (CR CX outer P w H s Q E) s
theorem FnOk.mono{P:Program}{w:World}{K:W.Frag}{mg:Str→Option Value}{base:Heap}{CX:CXT}{j k:Nat}{f:Addr}{fd:FuncData}{ps:List Str}{sp:Sp}(F:FnOk P w K mg base CX j f fd ps sp)(h:j≤k):
  FnOk P w K mg base CX k f fd ps sp:=⟨F.len,fun A outer s H args us vs Q E hr=>F.run A outer s H args us vs Q E (hr.mono h)⟩
theorem FnOk.imp{P:Program}{w:World}{K:W.Frag}{mg:Str→Option Value}{base:Heap}{CX:CXT}{k:Nat}{f:Addr}{fd:FuncData}{ps:List Str}{sp sp':Sp}(F:FnOk P w K mg base CX k f fd ps sp)(h:∀vs H Q E,sp' vs H Q E→sp vs H Q E):FnOk P w K mg base CX k f fd ps sp':=
 ⟨fun vs H Q E q=>F.len vs H Q E (h _ _ _ _ q),fun A outer s H args us vs Q E hr he hb hv hs=>F.run A outer s H args us vs Q E hr he hb hv (h _ _ _ _ hs)⟩
section
variable{X:Cx}{AU:List (Addr×Obj)}{σ:St}{H:Hp}{s s':Shared}
theorem Inv.env0(I:Inv X AU σ H s):Env0 X.prog X.w X.K X.mg X.base X.A X.stack s H:=
 ⟨I.ok.frames,I.ok.mod,I.bs,zG I.ok.bsz I.sz,I.stack,I.stkFree,I.hok,I.bare⟩
theorem Inv.after{Q:VK}{u:Value}(I:Inv X AU σ H s)(h:CE X.stack X.prog X.w H s Q u s'):EP X AU σ Q u s':=by
 obtain⟨v,H',os,bare,un,hok,r,q⟩:=h
 obtain⟨hh,g,d,t,os'⟩:=s'
 obtain rfl:os'=s.os:=os
 exact⟨v,H',I.call (h':=hh) (g':=g) (d':=d) (t':=t) (ch:=[]) un hok bare (fun b z=>absurd z (by simp)),r,q⟩
end
def t8(sp:Sp)(dvs:List V)(E:XK)(t:TA):TE:=fun σ H Q=>t σ H fun vs H1=>sp (vs++dvs) H1 Q E
def Binds(K:W.Frag)(fd:FuncData)(ps:List Str)(ds:List Value):Prop:=
 ∀(s:Shared)(us:List Value),K.In s.heap→(us++ds).length=ps.length→BindsTo s fd ⟨us,[]⟩ (ps.zip (us++ds))
theorem Binds.all{K:W.Frag}{fd:FuncData}{ps:List Str}(h:∀us:List Value,us.length=ps.length→bindArgs fd ⟨us,[]⟩=pure (ps.zip us)):Binds K fd ps []:=fun s us _ hl=>by
 rw[Ab]at hl⊢
 exact .of_eq (h us hl)
def jM(CX:CXT)(X:Cx)(E:XK):Prop:=∀(AU:List (Addr×Obj))(σ:St)(H:Hp)(s:Shared)(e:Value)(s':Shared),Inv X AU σ H s→CX X.stack H s E e s'→X.xe e s'
section
variable{X:Cx}{CX:CXT}{k:Nat}{f C:Addr}{fd:FuncData}{ps:List Str}{sp:Sp}{dvs:List V}{ds:List Value}{E:XK}{x m:Str}{p pos apos:Pos}{e o:Expr}{es:List Expr}{ta:TE}{t:TA}
theorem pY{AU:List (Addr×Obj)}{σ:St}{H:Hp}{s:Shared}{Q:VK}{us:List Value}{vs:List V}(F:FnOk X.prog X.w X.K X.mg X.base CX k f fd ps sp)(hr:Room k X.A)(hb:Binds X.K fd ps ds)(hd:Vals dvs ds)(hx:jM CX X E)(I:Inv X AU σ H s)(r:Vals vs us)(h:sp (vs++dvs) H Q E):wpAny (model X.prog X.w) X.A (call (.ref f) us) (EP X AU σ Q) X.xe s:=by
 have r2:Vals (vs++dvs) (us++ds):=r.append hd
 have hl:(us++ds).length=ps.length:=by rw[←r2.length];exact F.len _ _ _ _ h
 refine wpAny_call (codeAny_mono (F.run X.A X.stack s H ⟨us,[]⟩ (us++ds) (vs++dvs) Q E hr I.env0 (hb s us I.kIn hl) r2 h) fun r s' hq=>?_)
 cases r with
 | error e=>exact hx AU σ H s e s' I hq
 | ok fl=>
  cases fl with
  | ret u=>exact I.after hq
  | next=>exact False.elim hq
  | brk=>exact False.elim hq
  | cont=>exact False.elim hq
theorem sr(F:FnOk X.prog X.w X.K X.mg X.base CX k f fd ps sp)(hr:Room k X.A)(hg:Gl X x)(hm:X.mg x=some (.ref f))(hk:W.keepIn X.K (.ref f)=true)(hb:Binds X.K fd ps ds)(hd:Vals dvs ds)(hx:jM CX X E)(ha:PA X (e::es) t)(hdb:(x == ("__debug__":Str))=false:=by decide)(he:starEach (e::es) X.env=(false,eval e X.env)::starEach es X.env:=by rfl)(hpl:(backTo pos (starEach es X.env)).any (·.1)=false:=by rfl):
  PE X (.Call (.Name x p) (e::es) [] pos) (t8 sp dvs E t):=by
 intro AU s σ H Q I h
 refine wpAny_Call_Name_kw (ge I hg hm ?_ hdb)
 refine W.callWith_K (h₀:=X.base) I.ok.mod.kin hk (thn (ha pos AU s σ H _ I h) fun us s1 ⟨vs,H1,I1,r,q⟩=>⟨I1.kIn,?_⟩) he hpl
 exact pY F hr hb hd hx I1 r q
end
section
variable{X:Cx}{CX:CXT}{k:Nat}{f C:Addr}{fd:FuncData}{ps ks:List Str}{sp:Sp}{E:XK}{x m:Str}{p pos apos kpos:Pos}{e o:Expr}{es:List Expr}{kws:List Keyword}{te ta:TE}{t tk:TA}{nm:Option Str}
variable{g:List Value→List Value→List Value}{gV:List V→List V→List V}
end
structure FnScope(N P:List Str)(sc:Scope):Prop where
 kind:sc.kind=.function
 co:sc.isCoroutine=false
 gen:sc.isGenerator=false
 nd:N.Nodup
 pre:N.take P.length=P
 par:∀x∈P,sc.names.lookup x=some .local∨sc.names.lookup x=some .cell
 nofree:∀y∈sc.names,y.2≠.free
theorem Ox{kindOf:Str→Option NameKind}{x:Str}:∀{binds:List (Str×Value)}{m:Str→Option Value},(∀v,(x,v)∉binds)→bindL kindOf binds m x=m x
 | [],_,_=>rfl
 | (n,v)::r,m,h=>by
  unfold bindL
  rw[Ox fun w hw=>h w (zP _ hw)]
  split
  ·have:x≠n:=by rintro rfl;exact h v zH
   simp[this]
  ·rfl
theorem Oz{kindOf:Str→Option NameKind}{x:Str}:∀{binds:List (Str×Value)}{m:Str→Option Value},(∀v,(x,v)∉binds)→bindC kindOf binds m x=m x
 | [],_,_=>rfl
 | (n,v)::r,m,h=>by
  unfold bindC
  rw[Oz fun w hw=>h w (zP _ hw)]
  split
  ·rfl
  ·have:x≠n:=by rintro rfl;exact h v zH
   simp[this]
theorem Oy{kindOf:Str→Option NameKind}{x:Str}{v:Value}:∀{P:List Str}{vs:List Value}{i:Nat}{m:Str→Option Value},P.Nodup→P[i]?=some x→vs[i]?=some v→kindOf x=some .local→
  bindL kindOf (P.zip vs) m x=some v
 | [],_,_,_,_,h,_,_=>by simp at h
 | _::_,[],_,_,_,_,h,_=>by simp at h
 | p::P,w::vs,0,m,nd,h1,h2,hk=>by
  simp at h1 h2;subst h1;subst h2
  show bindL kindOf ((p,w)::P.zip vs) m p=_
  unfold bindL
  rw[Ox fun v hv=>(zl.mp nd).1 (List.of_mem_zip hv).1,yC hk]
  simp
 | p::P,w::vs,i+1,m,nd,h1,h2,hk=>by
  show bindL kindOf ((p,w)::P.zip vs) m x=_
  unfold bindL
  exact Oy (i:=i) (List.nodup_cons.mp nd).2 (by simpa using h1) (by simpa using h2) hk
theorem N0{kindOf:Str→Option NameKind}{x:Str}{v:Value}:∀{P:List Str}{vs:List Value}{i:Nat}{m:Str→Option Value},P.Nodup→P[i]?=some x→vs[i]?=some v→kindOf x≠some .local→
  bindC kindOf (P.zip vs) m x=some v
 | [],_,_,_,_,h,_,_=>by simp at h
 | _::_,[],_,_,_,_,h,_=>by simp at h
 | p::P,w::vs,0,m,nd,h1,h2,hk=>by
  simp at h1 h2;subst h1;subst h2
  show bindC kindOf ((p,w)::P.zip vs) m p=_
  unfold bindC
  rw[Oz fun v hv=>(zl.mp nd).1 (List.of_mem_zip hv).1,yy hk]
  simp
 | p::P,w::vs,i+1,m,nd,h1,h2,hk=>by
  show bindC kindOf ((p,w)::P.zip vs) m x=_
  unfold bindC
  exact N0 (i:=i) (List.nodup_cons.mp nd).2 (by simpa using h1) (by simpa using h2) hk
def cE(N:List Str)(vs:List V):St:=vs.map some++List.replicate (N.length - vs.length) none
def nJ(CX:CXT)(P:Program)(w:World)(K:W.Frag)(mg:Str→Option Value)(base:Heap)(N:List Str)(qual:Str)(scope:Scope)(f:Addr)(cd:Value)(A:Around)(outer:List Env)(s:Shared)(H:Hp)(E:XK):Cx where
 prog:=P
 w:=w
 K:=K
 mg:=mg
 base:=base
 A:=A.deeper (envOfC qual scope s.heap.objs.size f cd)
 N:=N
 s₀:=s
 H₀:=H
 env:=envOfC qual scope s.heap.objs.size f cd
 outer:=outer
 stack:=envOfC qual scope s.heap.objs.size f cd::outer
 ex:=[]
 calm:=true
 fn:=fun _=>true
 pn:=[]
 xe:=fun e s'=>wpAny (model P w) (A.deeper (envOfC qual scope s.heap.objs.size f cd)) (leaving (envOfC qual scope s.heap.objs.size f cd) e) (fun _ s''=>CX outer H s E e s'') (fun e' s''=>CX outer H s E e' s'') s'
theorem Ps{sc:Scope}{n:Nat}{x:Str}(h:sc.names.lookup x=some .cell):∃c,(cellsFrom n sc.names []).lookup x=some c:=by
 have q:=W.cellsFrom_some sc.names n [] (.inl h)
 exact Option.isSome_iff_exists.mp q
theorem me{CX:CXT}{P:Program}{w:World}{K:W.Frag}{mg:Str→Option Value}{base:Heap}{N ps:List Str}{qual:Str}{scope:Scope}{f:Addr}{cd:Value}{A:Around}{outer:List Env}{s s1:Shared}{H:Hp}{E:XK}{us:List Value}{vs:List V}(S:FnScope N ps scope)(hd:A.handled=none)(e0:Env0 P w K mg base A outer s H)(hl:vs.length=ps.length)(r:Vals vs us)(x:InCallC s s.heap.objs.size (bindL (envOfC qual scope s.heap.objs.size f cd).kindOf (ps.zip us) fun _=>none) (cellsFrom (s.heap.objs.size+1) scope.names []) (bindC (envOfC qual scope s.heap.objs.size f cd).kindOf (ps.zip us) fun _=>none) s1):
  Inv (nJ CX P w K mg base N qual scope f cd A outer s H E) [] (cE N vs) H s1:=by
 have hpl:ps.length≤N.length:=by have:=Ad List.length S.pre;rw[y7]at this;omega
 obtain⟨h1,tk,rfl,hk⟩:=x.done
 have noA:∀b:Addr,b∉(nJ CX P w K mg base N qual scope f cd A outer s H E).ex:=fun b z=>absurd (show b∈([]:List Addr)from z) (by simp)
 refine⟨⟨e0.mod,S.kind,rfl,rfl,yF _,fun y z c h1 h2=>?_,fun y hy=>?_,fun y c _ h=>?_,fun _=>hd,Around.frames_deeper e0.frames,.inr ⟨rfl,rfl⟩,fun b z=>absurd z (noA b),e0.bs,e0.bsz,fun b _ _=>noA b,fun b z=>absurd z (noA b),e0.funs,e0.frf⟩,
  rfl,e0.bare,Un.kept hk,⟨_,x.toInCall.ns,fun i y v h1 h2 h3=>?_⟩,fun y c h=>⟨_,x.cell y c h⟩,e0.hok.fresh (Nat.le_refl _),fun y c h=>?_,fun p hp=>absurd (show p∈([]:List (Addr×Obj))from hp) (by simp),e0.hok.kept hk,?_⟩
 ·exact name_of_addr x.apart (zC h1) (zC h2)
 ·have hy:scope.names.lookup y=some .cell∨scope.names.lookup y=some .free:=hy
  rcases hy with hy | hy
  ·exact Ps hy
  ·exact absurd rfl (S.nofree _ (zC hy))
 ·exact Aw (x.above y c (zC h))
 ·have hi:i<vs.length:=by
   unfold cE at h2
   by_cases hi:i<vs.length
   ·exact hi
   ·rw[List.getElem?_append_right (by simpa using hi)]at h2
    rw[List.getElem?_replicate]at h2
    split at h2 <;> cases h2
  have ha:vs[i]?=some v:=by
   unfold cE at h2
   rw[List.getElem?_append_left (by simpa using hi),List.getElem?_map]at h2
   cases e:vs[i]? with
   | none=>rw[e]at h2;cases h2
   | some a=>rw[e]at h2;cases h2;rfl
  obtain⟨u,hu,rv⟩:=r.get ha
  have hp:ps[i]?=some y:=by
   rw[←S.pre,List.getElem?_take_of_lt (by omega)];exact h1
  have ndP:ps.Nodup:=by rw[←S.pre];exact S.nd.sublist (List.take_sublist _ _)
  refine⟨u,rv,?_⟩
  rcases S.par y (y3 hp)with k | k
  ·exact .inl ⟨k,Oy ndP hp hu k⟩
  ·obtain⟨c,e⟩:=Ps (n:=s.heap.objs.size+1) k
   refine .inr ⟨.inl k,c,e,?_⟩
   have q:=x.cell y c e
   rw[N0 ndP hp hu (by show scope.names.lookup y≠_;rw[k];decide)]at q
   exact q
 ·exact e0.hok.fresh (Aw (x.above y c (zC h)))
 ·unfold cE
  show _=N.length
  rw[yJ,pi,List.length_replicate]
  omega
theorem uu{CX:CXT}{P:Program}{w:World}{K:W.Frag}{mg:Str→Option Value}{base:Heap}{k:Nat}{f:Addr}{name qual:Str}{params:Arguments}{body:List Stmt}{scope:Scope}{dV kV doc pm cdv ct oc:Value}{an od:Option Addr}{osl:Array (Option Value)}{N ps:List Str}{sp:Sp}(lk:K.lookup f=some ⟨oc,od,.func (W.fnOf name qual params body scope dV kV doc pm an cdv ct),osl⟩)(hcd:W.codeIn K cdv qual=true)(S:FnScope N ps scope)(len:∀vs H Q E,sp vs H Q E→vs.length=ps.length)(hbody:∀(A:Around) (outer:List Env) (s:Shared) (H:Hp) (vs:List V) (Q:VK) (E:XK),Room k (A.deeper (envOfC qual scope s.heap.objs.size f cdv))→sp vs H Q E→
   ∃t,PSs (nJ CX P w K mg base N qual scope f cdv A outer s H E) body t∧t {nx:=fun _ H'=>Q .non H',rt:=Q} (cE N vs) H):
  FnOk P w K mg base CX (k+1) f (W.fnOf name qual params body scope dV kV doc pm an cdv ct) ps sp:=by
 refine⟨len,fun A outer s H args us vs Q E hr e0 hb r hsp=>?_⟩
 have hl:=len _ _ _ _ hsp
 have KX:K.In s.heap:=e0.mod.kin.keeps fun b o e=>(e0.bs b o e).1
 have lim:s.heap.NoLimit:=e0.mod.nolimit.keeps fun b o e=>(e0.bs b o e).1
 have hkind:∀y∈ps.zip us,scope.names.lookup y.1=some .local∨(scope.names.lookup y.1=some .cell∧((cellsFrom (s.heap.objs.size+1) scope.names []).lookup y.1).isSome=true):=fun⟨n,v⟩ hy=>by
  rcases S.par n (List.of_mem_zip hy).1 with q | q
  ·exact .inl q
  ·exact .inr ⟨q,W.cellsFrom_some _ _ _ (.inl q)⟩
 refine codeAny_call_function hr.depth (KX _ _ lk) rfl S.co S.gen rfl (W.codeRec_of KX hcd) (hb _ _ _ _ ?_)
 refine wpAny_newFunctionEnv_cells S.kind hkind fun env he s1 x=>?_
 subst he
 refine⟨lim.keeps x.toInCall.keep,codeAny_func ?_⟩
 obtain⟨t,ht,hq⟩:=hbody A outer s H vs Q E (hr.deeper _) hsp
 have I:Inv (nJ CX P w K mg base N qual scope f cdv A outer s H E) [] (cE N vs) H s1:=me S hr.hd e0 hl r x
 refine z5 (ht [] s1 (cE N vs) H _ I hq) (fun fl s' hs=>?_) fun e s' hs=>hs
 have fin:∀{σ':St}{H':Hp}{v:V}{u:Value},Inv (nJ CX P w K mg base N qual scope f cdv A outer s H E) [] σ' H' s'→RelV v u→Q v H'→CE outer P w H s Q u s':=
  fun{σ' H' v u} J rv q=>⟨v,H',J.os,J.bare,J.base,J.hok,rv,q⟩
 cases fl with
 | ret u=>
  obtain⟨v,σ',H',J,rv,q⟩:=hs
  exact fin J rv q
 | next=>
  obtain⟨σ',H',J,q⟩:=hs
  exact fin (v:=V.non) (u:=Value.none) J rfl q
 | brk=>
  obtain⟨_,_,_,q⟩:=hs
  exact False.elim q
 | cont=>
  obtain⟨_,_,_,q⟩:=hs
  exact False.elim q
section
variable{X:Cx}{x:Str}{p pos:Pos}{e:Expr}{es:List Expr}{t:TA}{id T:String}{r:List V→Hp→VK→Prop}
def tCB(r:List V→Hp→VK→Prop)(t:TA):TE:=fun σ H Q=>t σ H fun vs H1=>r vs H1 Q
theorem Zo(hc:bH X (.builtin id) r)(hg:Gl X x)(hm:X.mg x=none)(hv:bootBuiltins x=some (.builtin id))(ha:PA X (e::es) t)(hn:x≠"__name__":=by decide)(hdb:(x == ("__debug__":Str))=false:=by decide)(he:starEach (e::es) X.env=(false,eval e X.env)::starEach es X.env:=by rfl)(hpl:(backTo pos (starEach es X.env)).any (·.1)=false:=by rfl):PE X (.Call (.Name x p) (e::es) [] pos) (tCB r t):=by
 intro AU s σ H Q I h
 refine wpAny_Call_Name_kw (fe I hg hm hv ?_ hn hdb)
 exact PyProof.Rows.callWith_builtin1 (thn (ha pos AU s σ H _ I h) fun us s1 ⟨vs,H1,I1,r1,q1⟩=>hc AU s1 σ H1 vs us Q I1 r1 q1) he hpl
theorem Xl(hc:bH X (.type T) r)(hg:Gl X x)(hm:X.mg x=none)(hv:bootBuiltins x=some (.type T))(ha:PA X (e::es) t)(hn:x≠"__name__":=by decide)(hdb:(x == ("__debug__":Str))=false:=by decide)(he:starEach (e::es) X.env=(false,eval e X.env)::starEach es X.env:=by rfl)(hpl:(backTo pos (starEach es X.env)).any (·.1)=false:=by rfl):PE X (.Call (.Name x p) (e::es) [] pos) (tCB r t):=by
 intro AU s σ H Q I h
 refine wpAny_Call_Name_kw (fe I hg hm hv ?_ hn hdb)
 exact PyProof.Rows.callWith_type1 (thn (ha pos AU s σ H _ I h) fun us s1 ⟨vs,H1,I1,r1,q1⟩=>hc AU s1 σ H1 vs us Q I1 r1 q1) he hpl
end
end L2
namespace HT
open PySem PyProof.Rows
def lexLt:List Int→List Int→Bool
 | [],[]=>false
 | [],_::_=>true
 | _::_,[]=>false
 | x::xs,y::ys=>if x=y then lexLt xs ys else decide (x<y)
theorem lexLt_cons(x y:Int)(xs ys:List Int):lexLt (x::xs) (y::ys)=if x=y then lexLt xs ys else decide (x<y):=rfl
theorem lexLt_nil_nil:lexLt [] []=false:=rfl
theorem P9(y:Int)(ys:List Int):lexLt [] (y::ys)=true:=rfl
theorem Pa(x:Int)(xs:List Int):lexLt (x::xs) []=false:=rfl
theorem oX(A:Around)(s:Shared)(a:Int)(t:Tok)(c:Int)(u:Tok):∃e,SeqAt.EqAt A s (.int a t) (.int c u) e∧(e=true↔a=c):=
 ⟨(a == c),SeqAt.EqAt.int_int a t c u,by simp⟩
theorem oQ(A:Around)(s:Shared)(a:Int)(t:Tok)(c:Int)(u:Tok)(prog:Program)(w:World)(E:Value→Shared→Prop)(Q:Value→Shared→Prop)(h:Q (.bool (decide (a<c))) s):
  wpAny (model prog w) A (richCompare .Lt (.int a t) (.int c u)) Q E s:=
 (PyProof.Rows.lt_int h:wpAny (model prog w) A (compareOp .Lt (.int a t) (.int c u)) Q E s)
section
open PySem.SeqAt
open PySem.AutoSeq1 (wpAny_loadPart')
open PySem.MeetsSeq PySem.MeetsSeq2 PySem.MeetsSeq3
theorem Pu(l b:Addr)(items items2:Array Value)(n n2:Nat)(dd dd2:Option Addr)(sl sl2:Array (Option Value))(ns ms:List Int)(hi:IntsAre items.toList ns)(hj:IntsAre items2.toList ms):
  Meets (Builtin.«tuple.__lt__» ⟨[.ref l,.ref b],[]⟩)
   (fun _ R s=>s.heap.get? l=some {cls:=.type "tuple",dict:=dd,data:=.seq items n,slots:=sl}∧s.heap.get? b=some {cls:=.type "tuple",dict:=dd2,data:=.seq items2 n2,slots:=sl2}∧
    R (.ok (.ret (.bool (lexLt ns ms)))) s):=
 .of_wp fun prog w A R s h=>by
  obtain⟨hp,g,d,tk,os⟩:=s;obtain⟨hl,hb,h⟩:=h
  have f2:=AutoSeq1.sub_tuple_tuple
  have z1:items.size=ns.length:=by rw[←hi.length];simp
  have z2:items2.size=ms.length:=by rw[←hj.length];simp
  wp_walk using wpAny_loadPart' hl,wpAny_loadPart' hb,wpAny_forIn_list _ (fun rest b s'=>b.1=none∧s'=⟨hp,g,d,tk,os⟩∧∃(vs ws:List Value)(ns' ms':List Int),rest=vs.zip ws∧
   IntsAre vs ns'∧IntsAre ws ms'∧ns'.length+items2.size=ms'.length+items.size∧R (.ok (.ret (.bool (lexLt ns' ms')))) ⟨hp,g,d,tk,os⟩) _
  case turn=>
   rintro⟨y,x⟩ rest b s' ⟨hb',rfl,vs,ws,ns',ms',hz,hvi,hwi,Bb,hR⟩
   cases hvi with
   | nil=>rw[List.zip_nil_left]at hz;cases hz
   | cons a t hvi'=>
    cases hwi with
    | nil=>rw[List.zip_nil_right]at hz;cases hz
    | cons c u hwi'=>
     rw[List.zip_cons_cons]at hz
     injection hz with hyx hrest
     injection hyx with hy hx
     subst hy hx
     rw[lexLt_cons]at hR
     simp only[List.length_cons]at Bb
     obtain⟨e,he,hiff⟩:=oX A.in1 ⟨hp,g,d,tk,os⟩ a t c u
     refine io (he prog w _ _ ?_)
     cases e with
     | true=>
      rw[yC (hiff.mp rfl)]at hR
      wp_walk
      exact⟨rfl,rfl,_,_,_,_,hrest,hvi',hwi',by omega,hR⟩
     | false=>
      rw[yy (fun q=>absurd (hiff.mpr q) yL)]at hR
      have hri:=oQ A.in1 ⟨hp,g,d,tk,os⟩ a t c u prog w
      wp_walk using hri
      exact⟨_,rfl,by simpa using hR⟩
  case fin=>
   rintro⟨b1,b2⟩ s' ⟨hb',rfl,vs,ws,ns',ms',hz,hvi,hwi,Bb,hR⟩
   simp only at hb'
   subst hb'
   have hv:lexLt ns' ms'=decide (items.size<items2.size):=by
    cases hvi with
    | nil=>
     cases hwi with
     | nil=>
      simp only[List.length_nil]at Bb
      rw[lexLt_nil_nil]
      exact(ze (by omega)).symm
     | cons c u hw=>
      simp only[List.length_nil,List.length_cons]at Bb
      rw[P9]
      exact(yG (by omega)).symm
    | cons a t hv=>
     cases hwi with
     | nil=>
      simp only[List.length_nil,List.length_cons]at Bb
      rw[Pa]
      exact(ze (by omega)).symm
     | cons c u hw=>
      rw[List.zip_cons_cons]at hz
      cases hz
   rw[hv]at hR
   wp_walk
   exact⟨_,rfl,by simpa [Builtin.Tuple.tupleCompareSizes] using hR⟩
  case h=>
   exact⟨rfl,rfl,items.toList,items2.toList,ns,ms,rfl,hi,hj,by omega,h⟩
end
section
variable{prog:Program}{w:World}{A:Around}{E:Value→Shared→Prop}{s:Shared}
theorem lt_tupInts{l b:Addr}{items items2:Array Value}{ns ms:List Int}{Q:Value→Shared→Prop}(hl:IsTup s.heap l items)(hb:IsTup s.heap b items2)(hi:IntsAre items.toList ns)(hj:IntsAre items2.toList ms)(hu:A.units<cLine)(h:Q (.bool (lexLt ns ms)) s):wpAny (model prog w) A (compareOp .Lt (.ref l) (.ref b)) Q E s:=by
 obtain⟨⟨cls,dd,data,sl⟩,ho,hc,n,hd⟩:=id hl
 obtain⟨⟨cls2,dd2,data2,sl2⟩,ho2,hc2,n2,hd2⟩:=id hb
 simp only at hc hd hc2 hd2
 subst hc hd hc2 hd2
 exact richCompare_meets_room (op:=.Lt) ⟨_,ho,rfl⟩ ⟨_,ho2,rfl⟩ PySem.F.slot_tuple_lt PySem.F.entry_tuple_lt (PySem.F.args_tuple_lt_2 _ _) (Pu l b items items2 n n2 dd dd2 sl sl2 ns ms hi hj)
  ⟨ho,ho2,show Value.bool (lexLt ns ms)≠Value.notImplemented∧Q (.bool (lexLt ns ms)) s from⟨(fun x=>nomatch x),h⟩⟩ hu
def sIx(n d:Nat):Option Int→Nat
 | none=>d
 | some v=>if v<0 then(v+(n:Int)).toNat else min v.toNat n
theorem sIx_none(n d:Nat):sIx n d none=d:=rfl
theorem sIx_nat(n d k:Nat):sIx n d (some (k:Int))=min k n:=by
 show(if (k:Int)<0 then((k:Int)+(n:Int)).toNat else min (k:Int).toNat n)=min k n
 rw[yy (by omega),Int.toNat_natCast]
theorem vc(n d:Nat)(hd:d≤n)(o:Option Int):sIx n d o≤n:=by
 cases o with
 | none=>exact hd
 | some v=>
  show(if v<0 then(v+(n:Int)).toNat else min v.toNat n)≤n
  by_cases hv:v<0
  ·rw[yC hv];omega
  ·rw[yy hv];exact Nat.min_le_right _ _
theorem k5(v:Int)(n d:Nat):(if v<0 then max (v+(n:Int)) 0 else min v (n:Int))=((sIx n d (some v):Nat):Int):=by
 show(if v<0 then max (v+(n:Int)) 0 else min v (n:Int))=(((if v<0 then(v+(n:Int)).toNat else min v.toNat n):Nat):Int)
 by_cases hv:v<0
 ·simp only[if_pos hv];omega
 ·simp only[if_neg hv];omega
theorem jf(lo hi:Option Int)(n:Nat):Builtin.Slice.sliceAdjust lo hi 1 (n:Int)=(((sIx n 0 lo:Nat):Int),((sIx n n hi:Nat):Int)):=by
 have h1:¬((1:Int)<0):=by omega
 unfold Builtin.Slice.sliceAdjust
 simp only[h1,if_false]
 refine z6 ?_ ?_
 ·cases lo with
  | none=>rfl
  | some v=>exact k5 v n 0
 ·cases hi with
  | none=>rfl
  | some v=>exact k5 v n n
theorem jJ(i j:Nat):Builtin.Slice.slicePlaces (i:Int) (j:Int) 1=j - i:=by
 unfold Builtin.Slice.slicePlaces
 have h1:(1:Int) > 0:=by omega
 simp only[h1,if_true,Int.ediv_one]
 split <;> omega
theorem Qo{v:Value}{o:Option Int}{Q:Option Int→Shared→Prop}(p:IsPart v o)(h:Q o s):wpAny (model prog w) A (Builtin.Slice.slicePartIndex v) Q E s:=by
 cases p with
 | none=>exact slicePart_none h
 | int i t=>exact slicePart_int h
theorem V6{sl:Addr}{vl vu:Value}{lo hi:Option Int}{n:Nat}{Q:Int×Int×Nat→Shared→Prop}(hs:s.heap.IsSliceOf sl vl vu .none)(pl:IsPart vl lo)(pu:IsPart vu hi)(h:Q (((sIx n 0 lo:Nat):Int),1,sIx n n hi - sIx n 0 lo) s):wpAny (model prog w) A (Builtin.Slice.sliceApplied (.ref sl) (pure (n:Int))) Q E s:=by
 obtain⟨os,hos,hcs,hds⟩:=id hs
 unfold Builtin.Slice.sliceApplied Builtin.Slice.sliceFields
 refine io (io (wpAny_field hos hds (x:=vl) rfl (io (wpAny_field hos hds (x:=vu) rfl (io (wpAny_field hos hds (x:=.none) rfl (yB ?_)))))))
 refine io (slicePart_none ?_)
 show wpAny _ _ (if ((1:Int) == 0)=true then _ else _) _ _ s
 rw[yy (by decide)]
 refine io (Qo pl (io (Qo pu (io (yB ?_)))))
 show wpAny _ _ (match Builtin.Slice.sliceAdjust lo hi 1 (n:Int)with | (lo,hi)=>pure (lo,(1:Int),Builtin.Slice.slicePlaces lo hi 1)) _ _ s
 rw[jf lo hi n]
 show wpAny _ _ (pure (((sIx n 0 lo:Nat):Int),(1:Int),Builtin.Slice.slicePlaces ((sIx n 0 lo:Nat):Int) ((sIx n n hi:Nat):Int) 1)) _ _ s
 rw[jJ]
 exact yB h
theorem qN(xs:Array Value)(i k:Nat):((List.range k).filterMap fun(m:Nat)=>xs[((i:Int)+(m:Int) * 1).toNat]?).toArray=((xs.toList.drop i).take k).toArray:=by
 have e:(fun(m:Nat)=>xs[((i:Int)+(m:Int) * 1).toNat]?)=fun m=>xs[i+m]?:=by
  funext m
  have:((i:Int)+(m:Int) * 1).toNat=i+m:=by omega
  rw[this]
 rw[e]
 have:=pick_run xs i k
 rw[List.filterMap_map]at this
 have e2:((fun x=>xs[x]?)∘fun x=>i+x)=fun m=>xs[i+m]?:=rfl
 rw[e2]at this
 rw[this]
theorem getItem_tuple_cut{t sl:Addr}{items:Array Value}{vl vu:Value}{lo hi:Option Int}{Q:Value→Shared→Prop}(ht:IsTup s.heap t items)(hs:s.heap.IsSliceOf sl vl vu .none)(pl:IsPart vl lo)(pu:IsPart vu hi)(hw:¬(sIx items.size 0 lo=0∧sIx items.size items.size hi=items.size))(h:Q (.ref s.heap.objs.size) {s with heap:=s.heap.push {cls:=.type "tuple",data:=.seq ((items.toList.drop (sIx items.size 0 lo)).take (sIx items.size items.size hi - sIx items.size 0 lo)).toArray}})(hsz:items.size≤sizeLine):wpAny (model prog w) A (getItem (.ref t) (.ref sl)) Q E s:=by
 have htake:sizeOk (.seq ((items.toList.drop (sIx items.size 0 lo)).take (sIx items.size items.size hi - sIx items.size 0 lo)).toArray):=by
  show((items.toList.drop (sIx items.size 0 lo)).take (sIx items.size items.size hi - sIx items.size 0 lo)).toArray.size≤sizeLine
  rw[zo,y7,List.length_drop,yS]
  omega
 have hj:sIx items.size items.size hi≤items.size:=vc _ _ (yF _) hi
 obtain⟨os,hos,hcs,hds⟩:=id hs
 have hTs:s.TypeIs (.ref sl) "slice":=⟨os,hos,hcs⟩
 unfold getItem
 try with_reducible refine zJ ?_
 first | refine io (yB ?_) | skip
 refine io (wpAny_sequenceKey ht.typeIs (by decide) ?_)
 refine io (wpAny_callSpecial?_slot (name:=Str.ofString "__getitem__") ht.typeIs PyProof.Rows.slot_tuple_getitem
  (As PyProof.Rows.slot_tuple_getitem ht.typeIs entry_tuple_getitem ?_ (args_tuple_getitem _ _)))
 show wpAny _ _ (Builtin.Tuple.tupleItemsOf (.ref t) >>= _) _ _ s
 refine io (tupleItemsOf_ ht ?_)
 refine io (wpAny_typeOf hTs ?_)
 rw[yC (by decide)]
 refine io (V6 hs pl pu ?_)
 have hno:¬((((sIx items.size 0 lo:Nat):Int) == 0 && (1:Int) == 1 && (sIx items.size items.size hi - sIx items.size 0 lo) == items.size)=true):=by
  intro q
  rw[zI,zI]at q
  have q1:((sIx items.size 0 lo:Nat):Int)=0:=eq_of_beq q.1.1
  have q2:sIx items.size items.size hi - sIx items.size 0 lo=items.size:=eq_of_beq q.2
  exact hw ⟨by omega,by omega⟩
 show wpAny _ _ (if (((sIx items.size 0 lo:Nat):Int) == 0 && (1:Int) == 1 && (sIx items.size items.size hi - sIx items.size 0 lo) == items.size)=true then _ else _) _ _ s
 rw[yy hno,qN]
 first
  | exact io (m:=Builtin.Tuple.tupleExact _) (Am (yB ⟨_,rfl,yB h⟩) htake)
  | exact io (m:=Builtin.Tuple.tupleExact _) (Am (io (yB (yB ⟨_,rfl,yB h⟩))) htake)
  | exact io (io (m:=Builtin.Tuple.tupleExact _) (Am (yB (yB ⟨_,rfl,yB h⟩)) htake))
  | exact io (io (m:=Builtin.Tuple.tupleExact _) (Am (yB ⟨_,rfl,yB h⟩) htake))
end
end HT
namespace L2
open PySem PySem.Spec PyProof.Rows
abbrev TO:=St→Hp→(Option Int→Hp→Prop)→Prop
def PO(X:Cx)(e:Option Expr)(t:TO):Prop:=
 ∀(AU:List (Addr×Obj))(s:Shared)(σ:St)(H:Hp)(Q:Option Int→Hp→Prop),Inv X AU σ H s→t σ H Q→
  wpAny (model X.prog X.w) X.A (evalPart e X.env) (fun u s'=>∃o H',Inv X AU σ H' s'∧IsPart u o∧Q o H') X.xe s
def rg:TO:=fun _ H Q=>Q none H
def xf(t:TE):TO:=fun σ H Q=>t σ H fun x H1=>∃i,x=.int i∧Q (some i) H1
theorem jg{ns:List Int}:∀{us:List Value},Vals (ns.map V.int) us→IntsAre us ns:=by
 induction ns with
 | nil=>intro us r;rw[List.map_nil]at r;cases r;exact .nil
 | cons n ns ih=>
  intro us r
  rw[yE]at r
  cases r with
  | cons r1 r2=>
   obtain⟨t,e⟩:=r1
   subst e
   exact .cons n t (ih r2)
section
variable{X:Cx}{e:Expr}{te:TE}{lo hi:Option Expr}{tl th:TO}{pos p2:Pos}
theorem S8:PO X none rg:=by
 intro AU s σ H Q I h
 rw[evalPart_none]
 exact yB ⟨none,H,I,.none,h⟩
theorem S7(h:PE X e te):PO X (some e) (xf te):=by
 intro AU s σ H Q I hw
 rw[evalPart_some]
 refine thn (h AU s σ H _ I hw) fun u s1 AV=>?_
 obtain⟨x,H1,I1,r1,q1⟩:=AV
 obtain⟨i,rfl,q⟩:=q1
 obtain⟨t,rfl⟩:=r1
 exact⟨some i,H1,I1,.int i t,q⟩
def SlR(X:Cx)(r:V→Option Int→Option Int→Hp→VK→Prop):Prop:=
 ∀(AU:List (Addr×Obj))(s:Shared)(σ:St)(H:Hp)(x:V)(v vl vu:Value)(lo hi:Option Int)(sl:Addr)(Q:VK),Inv X AU σ H s→RelV x v→s.heap.IsSliceOf sl vl vu .none→IsPart vl lo→IsPart vu hi→r x lo hi H Q→
  ∃T id,typeLookup (.type T) "__getitem__"=pure (some (.builtin id))∧s.TypeIs v T∧wpAny (model X.prog X.w) X.A (getItem v (.ref sl)) (EP X AU σ Q) X.xe s
def tSl(r:V→Option Int→Option Int→Hp→VK→Prop)(te:TE)(tl th:TO):TE:=fun σ H Q=>te σ H fun x H1=>tl σ H1 fun l H2=>th σ H2 fun u H3=>r x l u H3 Q
theorem U9{r:V→Option Int→Option Int→Hp→VK→Prop}(hr:SlR X r)(he:PE X e te)(hl:PO X lo tl)(hu:PO X hi th):PE X (.Subscript e (.Slice lo hi none p2) pos) (tSl r te tl th):=by
 intro AU s σ H Q I h
 refine Subscript_ (thn (he AU s σ H _ I h) fun v s1 AV=>?_)
 obtain⟨x,H1,I1,r1,q1⟩:=AV
 refine wpAny_Slice (thn (hl AU s1 σ H1 _ I1 q1) fun vl s2 ⟨l,H2,I2,pl,q2⟩=>thn (hu AU s2 σ H2 _ I2 q2) fun vu s3 AV=>?_)
 obtain⟨u,H3,I3,pu,q3⟩:=AV
 rw[evalPart_none]
 refine yB ?_
 have I4:Inv X AU σ H3 {s3 with heap:=s3.heap.push {cls:=.type "slice",data:=.fields #[vl,vu,.none]}}:=I3.kept (t':=s3.toks) fun b ob q=>yA _ q
 obtain⟨T,id,hT,ht,hg⟩:=hr AU {s3 with heap:=s3.heap.push {cls:=.type "slice",data:=.fields #[vl,vu,.none]}} σ H3 x v vl vu l u s3.heap.objs.size Q I4 r1 (Heap.IsSliceOf.new ..) pl pu q3
 show wpAny (model X.prog X.w) X.A (subscriptTail e (.Slice lo hi none p2) v (.ref s3.heap.objs.size)) (EP X AU σ Q) X.xe {s3 with heap:=s3.heap.push {cls:=.type "slice",data:=.fields #[vl,vu,.none]}}
 exact tail_any (ops:=[.ref s3.heap.objs.size,v]) ht hT hg (by with_unfolding_all rfl)
def cU(xs:List V)(lo hi:Option Int):List V:=(xs.drop (HT.sIx xs.length 0 lo)).take (HT.sIx xs.length xs.length hi - HT.sIx xs.length 0 lo)
theorem Re(xs:List V)(lo hi:Option Int):(cU xs lo hi).length≤xs.length:=by
 unfold cU
 rw[y7,List.length_drop]
 omega
def rSlT(K:W.Frag):V→Option Int→Option Int→Hp→VK→Prop:=fun x lo hi H Q=>∃a xs,x=.ref a∧SqT K H a xs∧
 ¬(HT.sIx xs.length 0 lo=0∧HT.sIx xs.length xs.length hi=xs.length)∧∀p,H p=none→Q (.ref p) (upd H p (.tup (cU xs lo hi)))
theorem v9:SlR X (rSlT X.K):=by
 intro AU s σ H x v vl vu lo hi sl Q I rx hs pl pu h
 obtain⟨a,xs,rfl,hx,hw,q⟩:=h
 cases rx
 obtain⟨its,r,ht,hz⟩:=I.tuple hx
 have Bb:its.toArray.size=xs.length:=by rw[zo];exact r.length.symm
 refine⟨"tuple",_,PyProof.Rows.slot_tuple_getitem.lookup,ht.typeIs,?_⟩
 refine HT.getItem_tuple_cut ht hs pl pu (by rw[Bb];exact hw) ?_ (by rw[Bb];exact hz)
 rw[Bb]
 refine⟨.ref s.heap.objs.size,_,I.laid (t':=s.toks) (o:=.tup (cU xs lo hi)) (fun b ob q=>yA _ q) (yF _) ?_,rfl,q _ (I.hok.fresh (yF _))⟩
 exact⟨zG (Re xs lo hi) hz,_,(r.drop (HT.sIx xs.length 0 lo)).take (HT.sIx xs.length xs.length hi - HT.sIx xs.length 0 lo),TupN.new _ _⟩
end
def ixN(n:Nat)(i:Int):Option Nat:=if 0≤i then(if i<n then some i.toNat else none)else if -(n:Int)≤i then some (i+n).toNat else none
def atI{α:Type}(xs:List α)(i:Int):Option α:=(ixN xs.length i).bind fun j=>xs[j]?
theorem lG{n:Nat}{i:Int}{j:Nat}(h:ixN n i=some j):seqIndex? i n=some j∧j<n∧-(n:Int)≤i∧i<n:=by
 unfold ixN at h
 by_cases h0:0≤i
 ·rw[yC h0]at h
  by_cases h1:i<n
  ·rw[yC h1]at h
   have e:i.toNat=j:=zt h
   exact⟨by rw[seqIndex_of h0 h1,e],by omega,by omega,h1⟩
  ·rw[yy h1]at h;cases h
 ·rw[yy h0]at h
  by_cases h1:-(n:Int)≤i
  ·rw[yC h1]at h
   have e:(i+n).toNat=j:=zt h
   exact⟨by rw[seqIndex_neg (by omega) h1,e],by omega,h1,by omega⟩
  ·rw[yy h1]at h;cases h
theorem kf{α:Type}{xs:List α}{i:Int}{v:α}(h:atI xs i=some v):∃j,seqIndex? i xs.length=some j∧xs[j]?=some v∧j<xs.length∧-(xs.length:Int)≤i∧i<xs.length:=by
 unfold atI at h
 cases e:ixN xs.length i with
 | none=>rw[e]at h;cases h
 | some j=>
  rw[e]at h
  obtain⟨h1,h2,h3,h4⟩:=lG e
  exact⟨j,h1,h,h2,h3,h4⟩
theorem Q9{α:Type}{xs:List α}{j:Nat}{v:α}(h:xs[j]?=some v):atI xs (j:Int)=some v:=by
 have hj:j<xs.length:=(yK.mp h).1
 have e:ixN xs.length (j:Int)=some j:=by
  unfold ixN
  rw[if_pos (by omega),if_pos (by omega)];simp
 unfold atI;rw[e];exact h
def sj(b:Expr):Prop:=∀o i,subscripted b false o i=operate [o,i] (getItem o i)
def IxR(X:Cx)(r:R2):Prop:=
 ∀(value slice:Expr)(AU:List (Addr×Obj))(s:Shared)(σ:St)(H:Hp)(x y:V)(v u:Value)(Q:VK),Inv X AU σ H s→RelV x v→RelV y u→r x y H Q→
  subscripted slice false v u=operate [v,u] (getItem v u)→wpAny (model X.prog X.w) X.A (subscriptTail value slice v u) (EP X AU σ Q) X.xe s
def MtR(X:Cx)(id:String)(r:V→List V→Hp→VK→Prop):Prop:=
 ∀(AU:List (Addr×Obj))(s:Shared)(σ:St)(H:Hp)(x:V)(xs:List V)(v:Value)(us:List Value)(Q:VK),Inv X AU σ H s→RelV x v→Vals xs us→r x xs H Q→
  wpAny (model X.prog X.w) X.A (call (.builtin id) (v::us)) (EP X AU σ Q) X.xe s
section
variable{X:Cx}{a b:Expr}{ta tb:TE}{pos:Pos}
theorem Zt{r:R2}(hr:IxR X r)(ha:PE X a ta)(hb:PE X b tb)(hs:sj b):PE X (.Subscript a b pos) (tOp r ta tb):=by
 intro AU s σ H Q I h
 exact Subscript_ (uR ha hb I h fun v u s2 x y H2 I2 rx ry q=>hr a b AU s2 σ H2 x y v u Q I2 rx ry q (hs _ _))
def rIxL(K:W.Frag):R2:=fun x y H Q=>∃p xs i v,x=.ref p∧y=.int i∧SqL K H p xs∧atI xs i=some v∧Q v H
def xJ(K:W.Frag):R2:=fun x y H Q=>∃p xs i v,x=.ref p∧y=.int i∧SqT K H p xs∧atI xs i=some v∧Q v H
theorem Y7:IxR X (rIxL X.K):=by
 intro value slice AU s σ H x y v u Q I rx ry h hs
 obtain⟨p,xs,i,z,rfl,rfl,hq,he,q⟩:=h
 cases rx
 obtain⟨t,rfl⟩:=ry
 obtain⟨its,r,pl,hz⟩:=I.list hq
 obtain⟨j,h1,h2,h3,h4,h5⟩:=kf he
 obtain⟨w,ew,rw'⟩:=r.get h2
 have hl:=r.length
 have hn:=fj
 have fin:EP X AU σ Q w s:=⟨z,H,I,rw',q⟩
 by_cases h0:0≤i
 ·have hj:i.toNat=j:=by
   rw[seqIndex_of h0 h5]at h1
   exact zt h1
  exact item_listR pl.isList h0 (by omega) (by rw[hj];simpa using ew) fin hs
 ·have hj:(i+(its.toArray.size:Int)).toNat=j:=by
   rw[seqIndex_neg (by omega) h4]at h1
   rw[zo,←hl]
   exact zt h1
  exact subscriptTail_builtinR (x:=w) pl.isList.typeIs slot_list_getitem.lookup
   (wpAny_getItem_list_neg (Q:=fun r s'=>r=w∧EP X AU σ Q r s') pl.isList (by omega) (by rw[List.size_toArray] <;> omega) (by omega) (by rw[hj];simpa using ew) ⟨rfl,fin⟩) hs
theorem Y6:IxR X (xJ X.K):=by
 intro value slice AU s σ H x y v u Q I rx ry h hs
 obtain⟨p,xs,i,z,rfl,rfl,hq,he,q⟩:=h
 cases rx
 obtain⟨t,rfl⟩:=ry
 obtain⟨its,r,pl,hz⟩:=I.tuple hq
 obtain⟨j,h1,h2,h3,h4,h5⟩:=kf he
 obtain⟨w,ew,rw'⟩:=r.get h2
 have hl:=r.length
 have hn:=fj
 have fin:EP X AU σ Q w s:=⟨z,H,I,rw',q⟩
 exact subscriptTail_builtinR (x:=w) pl.typeIs slot_tuple_getitem.lookup
  (getItem_tuple (j:=j) (Q:=fun r s'=>r=w∧EP X AU σ Q r s') pl (by omega) (by omega) (by rw[List.size_toArray,←hl];exact h1) (by simpa using ew) ⟨rfl,fin⟩) hs
theorem js(its:List Value)(n j:Nat)(u:Value):Obj.mapSeq (·.setIfInBounds j u) {cls:=.type "list",data:=.seq its.toArray n}={cls:=.type "list",data:=.seq (its.set j u).toArray n}:=by
 simp[Obj.mapSeq]
theorem Inv.lst{AU:List (Addr×Obj)}{σ:St}{H:Hp}{s:Shared}{p:Addr}{xs:List V}(I:Inv X AU σ H s)(h:H p=some (.lst xs)):
  ∃(its:List Value)(n:Nat),Vals xs its∧s.heap.get? p=some {cls:=.type "list",data:=.seq its.toArray n}∧xs.length≤sizeLine:=by
 obtain⟨z,its,n,r,e⟩:=I.hok p _ h
 exact⟨its,n,r,e,z⟩
theorem Inv.lstUpd{AU:List (Addr×Obj)}{σ:St}{H:Hp}{s:Shared}{p:Addr}{xs ys:List V}{its its':List Value}{n n':Nat}{f:Obj→Obj}(I:Inv X AU σ H s)(h:H p=some (.lst xs))(ho:s.heap.get? p=some {cls:=.type "list",data:=.seq its.toArray n})(hf:f {cls:=.type "list",data:=.seq its.toArray n}={cls:=.type "list",data:=.seq its'.toArray n'})(r:Vals ys its')(hz:ys.length≤sizeLine)(t:Nat):
  Inv X AU σ (upd H p (.lst ys)) {s with heap:=s.heap.update p f,toks:=t}:=by
 have e:(s.heap.update p f).get? p=some {cls:=.type "list",data:=.seq its'.toArray n'}:=by
  rw[Heap.get?_update_self f ho (by rw[hf] <;> rfl),hf]
 refine I.write (x:=p) (e:=p) (by rw[h];trivial) (.inl rfl) (fun b u hb q=>(Ak _ _ (Ne.symm hb)).trans q) ⟨_,e⟩ ?_
 exact⟨hz,its',n',r,e⟩
def wH:V→V→V→Hp→(Hp→Prop)→Prop:=fun o i v H Q=>∃p xs k j,o=.ref p∧i=.int k∧H p=some (.lst xs)∧ixN xs.length k=some j∧Q (upd H p (.lst (xs.set j v)))
theorem Qq:wY X wH:=by
 intro AU s σ H o i v ov iv u Q I ro ri rv h
 obtain⟨p,xs,k,j,rfl,rfl,hp,hj,q⟩:=h
 cases ro
 obtain⟨t,rfl⟩:=ri
 obtain⟨its,n,r,ho,hz⟩:=I.lst hp
 obtain⟨h1,h2,h3,h4⟩:=lG hj
 have hl:=r.length
 have hn:=fj
 have I':Inv X AU σ (upd H p (.lst (xs.set j v))) {s with heap:=s.heap.update p (Obj.mapSeq (·.setIfInBounds j u))}:=
  I.lstUpd hp ho (js its n j u) (r.set rv j) (by rw[List.length_set];exact hz) s.toks
 by_cases h0:0≤k
 ·have hk:k.toNat=j:=by
   rw[seqIndex_of h0 h4]at h1
   exact zt h1
  exact W.ki_setAt ho h0 (by omega) (by rw[zo,←hl];exact h4) (by rw[hk];exact⟨_,I',q⟩)
 ·have hk:(k+(its.toArray.size:Int)).toNat=j:=by
   rw[seqIndex_neg (by omega) h3]at h1
   rw[zo,←hl]
   exact zt h1
  exact W.ki_setBack ho (by omega) (by rw[zo,←hl];exact h3) (by omega) (by rw[hk];exact⟨_,I',q⟩)
theorem fZ(lo hi:Option Int)(n:Nat):(sliceBounds lo hi none n).1=((HT.sIx n 0 lo:Nat):Int)∧(sliceBounds lo hi none n).2.1=((HT.sIx n n hi:Nat):Int)∧(sliceBounds lo hi none n).2.2=1:=by
 refine⟨?_,?_,rfl⟩
 ·cases lo with
  | none=>simp[sliceBounds,HT.sIx]
  | some i=>
   simp only[sliceBounds,HT.sIx,Option.getD_none,show(1:Int) > 0 by decide,if_true]
   by_cases h:i<0
   ·simp only[h,if_true] <;> omega
   ·simp only[h,if_false] <;> omega
 ·cases hi with
  | none=>simp[sliceBounds,HT.sIx]
  | some i=>
   simp only[sliceBounds,HT.sIx,Option.getD_none,show(1:Int) > 0 by decide,if_true]
   by_cases h:i<0
   ·simp only[h,if_true] <;> omega
   ·simp only[h,if_false] <;> omega
theorem Pw(its:List Value)(lo hi:Option Int):slicePick its.toArray lo hi none=((its.drop (HT.sIx its.length 0 lo)).take (HT.sIx its.length its.length hi - HT.sIx its.length 0 lo)).toArray:=by
 obtain⟨h1,h2,h3⟩:=fZ lo hi its.toArray.size
 unfold slicePick
 rw[h1,h2,h3]
 simp only[sliceRange_one,pick_run,List.size_toArray] <;> rfl
def rSlL(K:W.Frag):V→Option Int→Option Int→Hp→VK→Prop:=fun x lo hi H Q=>∃a xs,x=.ref a∧SqL K H a xs∧∀p,H p=none→Q (.ref p) (upd H p (.lst (cU xs lo hi)))
theorem e7:SlR X (rSlL X.K):=by
 intro AU s σ H x v vl vu lo hi sl Q I rx hs pl pu h
 obtain⟨a,xs,rfl,hx,q⟩:=h
 cases rx
 obtain⟨its,r,ht,hz⟩:=I.list hx
 have Bb:=r.length
 refine⟨"list",_,slot_list_getitem.lookup,ht.isList.typeIs,?_⟩
 refine wpAny_getItem_list_slice ht.isList hs pl pu .none (by simp) ?_ (by rw[List.size_toArray] <;> omega)
 rw[Pw,←Bb]
 refine⟨.ref s.heap.objs.size,_,I.laid (t':=s.toks) (o:=.lst (cU xs lo hi)) (fun b ob q=>yA _ q) (yF _) ?_,rfl,q _ (I.hok.fresh (yF _))⟩
 exact⟨zG (Re xs lo hi) hz,_,0,(r.drop (HT.sIx xs.length 0 lo)).take (HT.sIx xs.length xs.length hi - HT.sIx xs.length 0 lo),yX _ rfl⟩
theorem Y5:bH X (.builtin "len") (fun xs H Q=>∃p ys,xs=[.ref p]∧(SqL X.K H p ys∨SqT X.K H p ys)∧Q (.int ys.length) H):=by
 intro AU s σ H xs us Q I r h
 obtain⟨p,ys,rfl,hq,q⟩:=h
 obtain⟨u,rfl,rx⟩:=T8 r
 cases rx
 have hn:=fj
 rcases hq with hq | hq
 ·obtain⟨its,r',pl,hz⟩:=I.list hq
  have Bb:=r'.length
  exact Calls.call_len_list pl.isList (by simp only[List.size_toArray] <;> omega) ⟨.int ys.length,H,I.tok _,⟨s.toks+1,by rw[List.size_toArray,Bb]⟩,q⟩
 ·obtain⟨its,r',pl,hz⟩:=I.tuple hq
  have Bb:=r'.length
  exact len_tuple pl (by simp only[List.size_toArray] <;> omega) ⟨.int ys.length,H,I.tok _,⟨s.toks+1,by rw[List.size_toArray,Bb]⟩,q⟩
theorem f6:bH X (.type "list") (fun xs H Q=>∃p ys,xs=[.ref p]∧(SqL X.K H p ys∨SqT X.K H p ys)∧∀l,H l=none→Q (.ref l) (upd H l (.lst ys))):=by
 intro AU s σ H xs us Q I r h
 obtain⟨p,ys,rfl,hq,q⟩:=h
 obtain⟨u,rfl,rx⟩:=T8 r
 cases rx
 have fin:∀(its:List Value),Vals ys its→ys.length≤sizeLine→∀(h':Heap)(c':Nat),(∀b o',s.heap.get? b=some o'→h'.get? b=some o')→
   h'.get? s.heap.objs.size=some {cls:=.type "list",dict:=none,data:=.seq its.toArray c',slots:=#[]}→EP X AU σ Q (.ref s.heap.objs.size) {s with heap:=h'}:=fun its r' hz h' c' kp e=>
  ⟨.ref s.heap.objs.size,_,I.laid (t':=s.toks) kp (yF _) (show ObjOk X.prog X.w _ h' _ (.lst ys) from⟨hz,its,c',r',e⟩),rfl,q _ (I.hok.fresh (yF _))⟩
 rcases hq with hq | hq
 ·obtain⟨its,r',pl,hz⟩:=I.list hq
  have Bb:=r'.length
  obtain⟨o,ho,hc,n,hd⟩:=pl.isList
  exact call_list_seq p (.inl rfl) ho hc hd (fun h' c' kp e=>fin its r' hz h' c' kp e) (by simp only[List.size_toArray] <;> omega)
 ·obtain⟨its,r',pl,hz⟩:=I.tuple hq
  have Bb:=r'.length
  obtain⟨o,ho,hc,n,hd⟩:=pl
  exact call_list_seq p (.inr rfl) ho hc hd (fun h' c' kp e=>fin its r' hz h' c' kp e) (by simp only[List.size_toArray] <;> omega)
theorem Td:bH X (.type "tuple") (fun xs H Q=>∃p ys,xs=[.ref p]∧((SqL X.K H p ys∧∀l,H l=none→Q (.ref l) (upd H l (.tup ys)))∨(SqT X.K H p ys∧Q (.ref p) H))):=by
 intro AU s σ H xs us Q I r h
 obtain⟨p,ys,rfl,h⟩:=h
 obtain⟨u,rfl,rx⟩:=T8 r
 cases rx
 rcases h with⟨hq,q⟩|⟨hq,q⟩
 ·obtain⟨its,r',pl,hz⟩:=I.list hq
  have Bb:=r'.length
  refine call_tuple_list pl.isList (fun h' kp=>?_) (by simp only[List.size_toArray] <;> omega)
  have I1:Inv X AU σ H {s with heap:=h'}:=I.kept (t':=s.toks) kp
  have I2:Inv X AU σ (upd H h'.objs.size (.tup ys)) {s with heap:=h'.push {cls:=.type "tuple",data:=.seq its.toArray}}:=
   I1.laid (t':=s.toks) (fun b o e=>yA _ e) (yF _) (show ObjOk X.prog X.w _ _ _ (.tup ys) from⟨hz,its,r',TupN.new _ _⟩)
  exact⟨.ref h'.objs.size,_,I2,rfl,q _ (I1.hok.fresh (yF _))⟩
 ·obtain⟨its,r',pl,hz⟩:=I.tuple hq
  exact call_tuple_same pl ⟨.ref p,H,I,rfl,q⟩
def tyV(K:W.Frag)(T:String)(x:V)(H:Hp):Prop:=match x with
 | .str _=>T="str"
 | .int _=>T="int"
 | .ref p=>(T="list"∧∃xs,SqL K H p xs)∨(T="tuple"∧∃o,K.lookup p=some o∧o.cls=.type "tuple"∧o.dict=none)∨
   (T="dict"∧((∃kvs,H p=some (.dK kvs))∨∃kvs,H p=some (.dT kvs)))∨(T="set"∧∃S n,H p=some (.set S n))
 | _=>False
theorem og{AU:List (Addr×Obj)}{σ:St}{H:Hp}{s:Shared}{T:String}{x:V}{v:Value}(I:Inv X AU σ H s)(r:RelV x v)(ty:tyV X.K T x H):
  s.TypeIs v T∧∀a,v=.ref a→∃ob,s.heap.get? a=some ob∧ob.dict=none:=by
 cases x with
 | str z=>
  obtain⟨t,rfl⟩:=r
  cases (show T="str" from ty)
  exact⟨typeIs_str s z t,fun _ e=>nomatch e⟩
 | int i=>
  obtain⟨t,rfl⟩:=r
  cases (show T="int" from ty)
  exact⟨typeIs_int s i t,fun _ e=>nomatch e⟩
 | ref p=>
  cases r
  rcases ty with⟨rfl,xs,hq⟩|⟨rfl,o,hk,hc,hd⟩|⟨rfl,hk⟩|⟨rfl,S,n,hk⟩
  ·obtain⟨its,_,pl,_⟩:=I.list hq
   refine⟨pl.isList.typeIs,fun a e=>?_⟩
   cases e
   obtain⟨o,n,e,c,hd,_⟩:=pl
   exact⟨o,e,hd⟩
  ·refine⟨⟨o,I.kIn p o hk,hc⟩,fun a e=>?_⟩
   cases e
   exact⟨o,I.kIn _ o hk,hd⟩
  ·have z:∃o,s.heap.get? p=some o∧o.ExactDict:=by
    rcases hk with⟨kvs,hk⟩|⟨kvs,hk⟩
    ·obtain⟨_,_,_,_,o,_,_,e,ex,_⟩:=I.hok p _ hk
     exact⟨o,e,ex⟩
    ·obtain⟨_,_,_,_,o,_,_,e,ex,_⟩:=I.hok p _ hk
     exact⟨o,e,ex⟩
   obtain⟨o,e,ex⟩:=z
   refine⟨⟨o,e,ex.1⟩,fun a e2=>?_⟩
   cases e2
   exact⟨o,e,ex.2.1⟩
  ·obtain⟨o,_,_,_,e,ex,_⟩:=I.hok p _ hk
   refine⟨⟨o,e,ex.1⟩,fun a e2=>?_⟩
   cases e2
   exact⟨o,e,ex.2.1⟩
 | _=>exact False.elim ty
def tBM0(K:W.Frag)(T:String)(r:V→List V→Hp→VK→Prop)(to:TE):TE:=fun σ H Q=>to σ H fun x H1=>tyV K T x H1∧r x [] H1 Q
def tBM(K:W.Frag)(T:String)(r:V→List V→Hp→VK→Prop)(to:TE)(t:TA):TE:=fun σ H Q=>to σ H fun x H1=>tyV K T x H1∧t σ H1 fun xs H2=>r x xs H2 Q
variable{o e:Expr}{es:List Expr}{to:TE}{t:TA}{name:Str}{apos cpos:Pos}{T id:String}{r:V→List V→Hp→VK→Prop}
theorem Tl(pa:PlainAttrs T)(slot:Slot T name id)(hty:typeOf (.builtin id)=pure (.type "method_descriptor"))(hm:MtR X id r)(ho:PE X o to)(hbase:attributeBase o name X.env (eval o X.env)=eval o X.env:=by rfl)(hline:(apos.endLine == cpos.line)=true:=by rfl):PE X (.Call (.Attribute o name apos) [] [] cpos) (tBM0 X.K T r to):=by
 intro AU s σ H Q I h
 refine wpAny_Call_method0_late hbase hline (thn (ho AU s σ H _ I h) fun v s1 AV=>?_)
 obtain⟨x,H1,I1,r1,ty,q1⟩:=AV
 obtain⟨h1,h2⟩:=og I1 r1 ty
 exact⟨T,id,pa,slot,hty,h1,h2,Calls.callWith_builtin rfl (PySem.evalArgs_none (hm AU s1 σ H1 x [] v [] Q I1 r1 .nil q1))⟩
theorem T9(pa:PlainAttrs T)(slot:Slot T name id)(hty:typeOf (.builtin id)=pure (.type "method_descriptor"))(hm:MtR X id r)(ho:PE X o to)(ha:PA X (e::es) t)(hbase:attributeBase o name X.env (eval o X.env)=eval o X.env:=by rfl)(hfew:((backTo cpos (starEach (e::es) X.env)).all (fun x=>!x.1) && (backToKw cpos (keywordEach [] X.env)).all (fun x=>x.1.isSome)
   && decide ((e::es).length+([]:List Keyword).length+(if ([]:List Keyword).isEmpty then 0 else 1)<30))=true:=by rfl)(hline:(apos.endLine == cpos.line)=true:=by rfl)(hs:starEach (e::es) X.env=(false,eval e X.env)::starEach es X.env:=by rfl)(hplain:(backTo cpos (starEach es X.env)).any (·.1)=false:=by rfl):
  PE X (.Call (.Attribute o name apos) (e::es) [] cpos) (tBM X.K T r to t):=by
 intro AU s σ H Q I h
 refine wpAny_Call_method_late hbase hfew hline rfl (thn (ho AU s σ H _ I h) fun v s1 AV=>?_)
 obtain⟨x,H1,I1,r1,ty,q1⟩:=AV
 obtain⟨h1,h2⟩:=og I1 r1 ty
 refine⟨T,id,pa,slot,hty,h1,h2,?_⟩
 have hA:=ha cpos AU s1 σ H1 _ I1 q1
 rw[hs]at hA⊢
 refine Calls.callWith_builtin (by show(false || (backTo cpos (starEach es X.env)).any (·.1))=false;rw[hplain] <;> rfl) (Calls.evalArgs_plain ?_)
 exact thn hA fun us s2 ⟨vs,H2,I2,r2,q2⟩=>hm AU s2 σ H2 x vs v us Q I2 r1 r2 q2
end
def MtM(X:Cx)(id:String)(r:V→List V→Hp→VK→Prop):Prop:=
 ∀(AU:List (Addr×Obj))(s:Shared)(σ:St)(H:Hp)(x:V)(xs:List V)(v:Value)(us:List Value)(Q:VK),Inv X AU σ H s→RelV x v→Vals xs us→r x xs H Q→
  wpAny (model X.prog X.w) X.A (call (.builtin id) (v::us)) (EP X AU σ Q) X.xe s
theorem Vals.one{x:V}{us:List Value}(h:Vals [x] us):∃u,us=[u]∧RelV x u:=by
 cases h with
 | cons r t=>
  cases t
  exact⟨_,rfl,r⟩
theorem Vals.zero:∀{us:List Value},Vals [] us→us=[]
 | _,.nil=>rfl
theorem Vals.dropLast{xs:List V}{us:List Value}(h:Vals xs us):Vals xs.dropLast us.dropLast:=by
 induction h with
 | nil=>exact .nil
 | cons r t ih=>
  cases t with
  | nil=>exact .nil
  | cons q t'=>exact .cons r ih
theorem jT{α:Type}(l:List α):l.eraseIdx (l.length - 1)=l.dropLast:=by
 induction l with
 | nil=>rfl
 | cons a r ih=>
  cases r with
  | nil=>rfl
  | cons b r=>
   have e:(a::b::r).length - 1=((b::r).length - 1)+1:=by
    have h1:(a::b::r).length=r.length+2:=rfl
    have h2:(b::r).length=r.length+1:=rfl
    omega
   rw[e,List.eraseIdx_cons_succ,ih]
   all_goals rfl
section
variable{X:Cx}{AU:List (Addr×Obj)}{σ:St}{H:Hp}{s:Shared}{l b:Addr}{xs ys zs:List V}
theorem Inv.lset{its its':List Value}{n:Nat}{f:Array Value→Array Value}{t':Nat}(I:Inv X AU σ H s)(hH:H l=some (.lst xs))(e:s.heap.get? l=some {cls:=.type "list",data:=.seq its.toArray n})(hf:f its.toArray=its'.toArray)(hv:Vals ys its')(hz:ys.length≤sizeLine):
  Inv X AU σ (upd H l (.lst ys)) {s with heap:=s.heap.update l (Obj.mapSeq f),toks:=t'}:=by
 have q:=PySem.IsL.update e f
 rw[hf]at q
 refine I.write (x:=l) (e:=l) (by rw[hH];exact trivial) (.inl rfl) (fun b' u hb hu=>(Ak s.heap (Obj.mapSeq f) (Ne.symm hb)).trans hu) ⟨_,q⟩ ?_
 exact⟨hz,its',_,hv,q⟩
theorem Inv.lnew{its:List Value}{t':Nat}(I:Inv X AU σ H s)(hv:Vals ys its)(hz:ys.length≤sizeLine):
  Inv X AU σ (upd H s.heap.objs.size (.lst ys)) {s with heap:=s.heap.push {cls:=.type "list",data:=.seq its.toArray},toks:=t'}:=
 I.laid (fun _ _ q=>yA _ q) (yF _) ⟨hz,its,0,hv,yX _ rfl⟩
theorem Inv.fresh(I:Inv X AU σ H s):H s.heap.objs.size=none:=I.hok.fresh (yF _)
theorem Inv.lstM(I:Inv X AU σ H s)(hH:H l=some (.lst xs)):xs.length≤sizeLine∧∃(its:List Value)(n:Nat),Vals xs its∧xs.length=its.length∧s.heap.get? l=some {cls:=.type "list",data:=.seq its.toArray n}:=by
 obtain⟨z,its,n,r,e⟩:=I.hok l _ hH
 exact⟨z,its,n,r,r.length,e⟩
theorem n9{n:Nat}(h:n≤sizeLine):Builtin.List.listTooLong n=false:=by
 unfold Builtin.List.listTooLong
 exact ze (by omega)
end
section
variable{X:Cx}
def rR:V→List V→Hp→VK→Prop:=fun x vs H Q=>∃l xs y,x=.ref l∧vs=[y]∧H l=some (.lst xs)∧xs.length<sizeLine∧Q .non (upd H l (.lst (xs++[y])))
theorem Wc:MtM X "list.append" rR:=by
 intro AU s σ H x vs v us Q I rx rv h
 obtain⟨l,xs,y,rfl,rfl,hH,hz,q⟩:=h
 cases rx
 obtain⟨u,rfl,ru⟩:=rv.one
 obtain⟨z,its,n,r,hl,e⟩:=I.lstM hH
 refine call_meets F.slot_list_append ⟨_,e,rfl⟩ F.entry_list_append (F.args_list_append_2 _ _) (PySem.list_append l its.toArray n u (by rw[zo];omega)) ⟨e,?_⟩
 refine⟨.non,_,I.lset (its':=its++[u]) hH e (by simp) (r.append (.cons ru .nil)) ?_,rfl,q⟩
 rw[yJ,Ac]
 omega
def sx:V→List V→Hp→VK→Prop:=fun x vs H Q=>∃l b xs zs,x=.ref l∧vs=[.ref b]∧H l=some (.lst xs)∧H b=some (.lst zs)∧xs.length+zs.length≤sizeLine∧Q .non (upd H l (.lst (xs++zs)))
theorem Oh:MtM X "list.extend" sx:=by
 intro AU s σ H x vs v us Q I rx rv h
 obtain⟨l,b,xs,zs,rfl,rfl,hH,hB,hz,q⟩:=h
 cases rx
 obtain⟨u,rfl,ru⟩:=rv.one
 cases ru
 obtain⟨z,its,n,r,hl,e⟩:=I.lstM hH
 obtain⟨z2,its2,n2,r2,hl2,e2⟩:=I.lstM hB
 have hsz:its.toArray.size+its2.toArray.size≤sizeLine:=by rw[zo,zo];omega
 have hlong:¬(!its.toArray.isEmpty && Builtin.List.listTooLong (its.toArray.size+its2.toArray.size))=true:=by
  rw[n9 hsz,Bool.and_false]
  exact yL
 refine call_meets F.slot_list_extend ⟨_,e,rfl⟩ F.entry_list_extend (F.args_list_extend_2 _ _)
  (AutoSeq1.list_extend_list_list_0 l its.toArray n b its2.toArray n2 hlong (by rw[zo];omega) (by omega)) ⟨e,e2,?_⟩
 refine⟨.non,_,I.lset (its':=its++its2) hH e (by simp) (r.append r2) ?_,rfl,q⟩
 rw[yJ]
 omega
def rPop:V→List V→Hp→VK→Prop:=fun x vs H Q=>∃l xs y,x=.ref l∧vs=[]∧H l=some (.lst xs)∧xs[xs.length - 1]?=some y∧Q y (upd H l (.lst xs.dropLast))
theorem gh:MtM X "list.pop" rPop:=by
 intro AU s σ H x vs v us Q I rx rv h
 obtain⟨l,xs,y,rfl,rfl,hH,hy,q⟩:=h
 cases rx
 have hus:=rv.zero
 subst hus
 obtain⟨z,its,n,r,hl,e⟩:=I.lstM hH
 obtain⟨u,hu,ru⟩:=r.get hy
 have hy':its.toArray[its.toArray.size - 1]?=some u:=by
  show its.toArray[its.length - 1]?=some u
  rw[←yI,←hl]
  exact hu
 refine call_meets F.slot_list_pop ⟨_,e,rfl⟩ F.entry_list_pop (F.args_list_pop_1 _) (MeetsSeq.list_pop_last l its.toArray n u hy' (by rw[zo];omega)) ⟨e,?_⟩
 refine⟨y,_,I.lset (its':=its.dropLast) hH e ?_ r.dropLast ?_,ru,q⟩
 ·show its.toArray.eraseIdxIfInBounds (its.toArray.size - 1)=its.dropLast.toArray
  rw[zo,List.eraseIdxIfInBounds_toArray,jT]
 ·rw[List.length_dropLast]
  omega
def rCat:R2:=fun x y H Q=>∃l b xs zs,x=.ref l∧y=.ref b∧H l=some (.lst xs)∧H b=some (.lst zs)∧xs.length+zs.length≤sizeLine∧∀p,H p=none→Q (.ref p) (upd H p (.lst (xs++zs)))
theorem P3:OpR X (binaryOp .Add) rCat:=by
 intro AU s σ H x y v u Q I rx ry h
 obtain⟨l,b,xs,zs,rfl,rfl,hH,hB,hz,q⟩:=h
 cases rx
 cases ry
 obtain⟨z,its,n,r,hl,e⟩:=I.lstM hH
 obtain⟨z2,its2,n2,r2,hl2,e2⟩:=I.lstM hB
 refine PySem.P.add_list e e2 ?_ (by rw[zo,zo];omega)
 have ea:its.toArray++its2.toArray=(its++its2).toArray:=by simp
 rw[ea]
 exact⟨.ref _,_,I.lnew (t':=s.toks) (r.append r2) (by rw[yJ];omega),rfl,q _ I.fresh⟩
end
section
variable{prog:Program}{w:World}{A:Around}{E:Value→Shared→Prop}{s:Shared}
end
section
variable{X:Cx}
end
end L2
namespace Att
open PySem PySem.W PySem.Calls PyProof.Rows
theorem Rk{P:Params}{h:Heap}:∀(ns:List Int)(vs:List Value),WellAll P h vs (ns.map WData.int)→IntsAre vs ns:=by
 intro ns
 induction ns with
 | nil=>
  intro vs w
  rw[List.map_nil]at w
  cases w
  exact .nil
 | cons n ns ih=>
  intro vs w
  rw[yE]at w
  cases w with
  | cons a b=>
   cases a
   exact .cons _ _ (ih _ b)
theorem mY{l:OpenLaw}{n:Nat}(hn:l.most=some n){P:Params}{h:Heap}{args:List WData}{vals:List Value}(hpre:l.row.toRowW.claim.pre args=true)(hwl:WellAll P h vals args):
  ∃a vs ns,vals=[Value.ref a]∧args=[WData.list (ns.map WData.int)]∧h.get? a=some {cls:=.type "list",data:=.seq vs.toArray}∧IntsAre vs ns∧ns.length≤n:=by
 have hsh:WShape.hasAll [] args [.list .int]=true:=(pre_splitW hpre).1
 have hc:l.pre.holds [] {args:=args}=true:=(pre_splitW hpre).2
 obtain⟨d,r,rfl,h1,h2⟩:=hasAllW_cons hsh
 obtain rfl:=hasAllW_nil h2
 obtain⟨xs,rfl,h3⟩:=hasW_list h1
 obtain⟨ns,rfl⟩:=items_int h3
 have Bb:ns.length≤n:=by
  unfold OpenLaw.pre at hc
  have h4:(WTm.not (.lt (.lit (.int (n:Int))) (.len (.arg 0)))).holds [] {args:=[.list (ns.map .int)]}=true:=by
   have h4:=(holds_andW hc).1
   rw[hn]at h4
   exact h4
  have h5:=condW_of h4 (w_not (w_lt w_lit (w_len_list (w_arg rfl))))
  rw[pi]at h5
  refine Nat.le_of_not_lt fun q=>?_
  have q':(n:Int)<((ns.length:Nat):Int):=by omega
  first
   | (rw[yG q']at h5;exact absurd h5 (by decide))
   | (simp at h5;omega)
 cases hwl with
 | cons w1 w2=>
  cases w2
  cases w1 with
  | list ho hall=>exact⟨_,_,ns,rfl,rfl,ho,Rk ns _ hall,Bb⟩
theorem mS(l:OpenLaw)(args:List WData):l.row.toRowW.claim.post args (.bool true) args=true:=
 postW_of (r:=l.row.toRowW) (X:=(true == true))
  (show WShape.has [] (.bool true) .bool=true by first | rfl | decide | simp[WShape.has,WShape.arms,WShape.armsAll])
  (show(WTm.eq .res (.lit (.bool true))).value [] {args:=args,res:=some (.bool true),after:=args}=some (.bool (true == true))from w_eq_bool (w_res rfl) w_lit) rfl
theorem attach_call{l:OpenLaw}{n:Nat}{q:Program}{loose:List Str}{XP:(Str→Option Value)→Heap→Prop}{YP:World→Heap→Prop}{d:DefRec}(hn:l.most=some n)(hdf:d.params.defaults=[])(call:∀(w:World) (s₀ s₁:Shared) (mg mb:Str→Option Value) (fa:Addr) (o:Obj) (pm cd doc:Value) (a:Addr) (vs:List Value) (ns:List Int),
   Ground q loose [] XP w s₀ mg mb s₁.heap→YP w s₁.heap→
   s₁.heap.get? fa=some o→o.data=.func (docDef d.name d.params d.body d.scope pm cd doc)→s₁.heap.CodeRec cd d.name→mg d.name=some (.ref fa)→
   s₁.heap.get? a=some {cls:=.type "list",data:=.seq vs.toArray}→IntsAre vs ns→ns.length≤n→s₁.gens=#[]→
   codeAny (model l.prog w) callerA (.call (.ref fa) ⟨[.ref a],[]⟩) (fun r s'=>r=.ok (.ret (.bool true))∧OldK s₁.heap s'.heap∧s'.os=s₁.os∧AllBare s'.gens) s₁):
  WalkO q loose XP YP l.row.toRowW d [] (fun f vs=>PySem.call f vs):=by
 intro w s₀ s₁ mg mb G Y fa o pm cd doc dV kV ho hd hcd hD hmg hg args vals as hpre hlay hrd hwl hlo
 obtain rfl:dV=.none:=Dflts.none hD hdf
 obtain rfl:kV=.none:=Dflts.noKw hD
 obtain⟨a,vs,ns,rfl,rfl,hobj,hints,Bb⟩:=mY hn hpre hwl
 refine enter_call (codeAny_mono (call w s₀ s₁ mg mb fa o pm cd doc a vs ns G Y ho (fd_plain hd) hcd hmg hobj hints Bb hg) fun r s' hq=>?_)
 obtain⟨rfl,h2,h3,h4⟩:=hq
 exact⟨.inl ⟨.bool true,.bool true,[],rfl,fun _=>rfl,.bool true,mS l _,fun _=>⟨List.Pairwise.nil,fun _ hm=>(nomatch hm)⟩⟩,h2,h3,h4⟩
section
variable{prog:Program}{w:World}{A:Around}{E:Value→Shared→Prop}{s:Shared}{K:Frag}
end
end Att
namespace L2
open PySem PySem.Spec PyProof.Rows
theorem O3:∀{vs:List Value}{ns:List Int},IntsAre vs ns→Vals (ns.map V.int) vs
 | _,_,.nil=>.nil
 | _,_,.cons n t h=>.cons ⟨t,rfl⟩ (O3 h)
end L2
namespace L2
open PySem PySem.Spec PyProof.Rows
def aD(s:Stmt):Arguments:=match s with
 | .FunctionDef _ a _ _ _ _ _ _ _ _=>a
 | _=>{posonlyargs:=[],args:=[],vararg:=none,kwonlyargs:=[],kw_defaults:=[],kwarg:=none,defaults:=[]}
def ay(s:Stmt):List Stmt:=match s with
 | .FunctionDef _ _ b _ _ _ _ _ _ _=>b
 | _=>[]
def aa(s:Stmt):Scope:=match s with
 | .FunctionDef _ _ _ _ _ _ sc _ _ _=>sc
 | _=>{kind:=.function,names:=[],isGenerator:=false,isCoroutine:=false}
abbrev CX0:CXT:=fun _ _ _ _ _ _=>False
abbrev E0:XK:=fun _ _ _=>False
theorem xS{X:Cx}:jM CX0 X E0:=fun _ _ _ _ _ _ _ h=>h.elim
structure Fun(K:W.Frag)(x qual:Str)(st:Stmt)(f:Addr)(fd:FuncData):Prop where
 ex:∃(oc:Value)(od:Option Addr)(kV doc pm:Value)(an:Option Addr)(cdv ct:Value)(osl:Array (Option Value)),
  fd=W.fnOf x qual (aD st) (ay st) (aa st) .none kV doc pm an cdv ct∧K.lookup f=some ⟨oc,od,.func fd,osl⟩∧W.codeIn K cdv qual=true
 kp:W.keepIn K (.ref f)=true
section
variable{P:Program}{w:World}{K:W.Frag}{mg:Str→Option Value}{base:Heap}
theorem Fun.ok{x qual:Str}{st:Stmt}{f:Addr}{fd:FuncData}{N ps:List Str}{k:Nat}{sp:Sp}(F:Fun K x qual st f fd)(S:FnScope N ps (aa st))(len:∀vs H Q E,sp vs H Q E→vs.length=ps.length)(hbody:∀(cdv:Value) (A:Around) (outer:List Env) (s:Shared) (H:Hp) (vs:List V) (Q:VK) (E:XK),Room k (A.deeper (envOfC qual (aa st) s.heap.objs.size f cdv))→sp vs H Q E→
   ∃t,PSs (nJ CX0 P w K mg base N qual (aa st) f cdv A outer s H E).nox (ay st) t∧t {nx:=fun _ H'=>Q .non H',rt:=Q} (cE N vs) H):FnOk P w K mg base CX0 (k+1) f fd ps sp:=by
 obtain⟨oc,od,kV,doc,pm,an,cdv,ct,osl,rfl,lk,hcd⟩:=F.ex
 refine uu lk hcd S len fun A outer s H vs Q E hr hsp=>?_
 obtain⟨t,h,q⟩:=hbody cdv A outer s H vs Q E hr hsp
 exact⟨t,h.nox,q⟩
theorem Fun.binds{x qual:Str}{st:Stmt}{f:Addr}{fd:FuncData}{ps:List Str}(F:Fun K x qual st f fd)(h:∀(kV doc pm:Value) (an:Option Addr) (cdv ct:Value) (us:List Value),us.length=ps.length→bindArgs (W.fnOf x qual (aD st) (ay st) (aa st) .none kV doc pm an cdv ct) ⟨us,[]⟩=pure (ps.zip us)):Binds K fd ps []:=by
 obtain⟨oc,od,kV,doc,pm,an,cdv,ct,osl,rfl,lk,hcd⟩:=F.ex
 exact .all (h kV doc pm an cdv ct)
theorem jc{x qual:Str}{st:Stmt}{f:Addr}{oc:Value}{od an:Option Addr}{osl:Array (Option Value)}{kV doc pm cdv ct:Value}(l:K.lookup f=some ⟨oc,od,.func (W.fnOf x qual (aD st) (ay st) (aa st) .none kV doc pm an cdv ct),osl⟩)(c:W.codeIn K cdv qual=true)(k:W.keepIn K (.ref f)=true):Fun K x qual st f (W.fnOf x qual (aD st) (ay st) (aa st) .none kV doc pm an cdv ct):=⟨⟨oc,od,kV,doc,pm,an,cdv,ct,osl,rfl,l,c⟩,k⟩
end
theorem Xh{A:Around}{k:Nat}(hr:Room k A):A.units+1<cLine:=Nat.lt_of_le_of_lt (Nat.add_le_add_left (by decide:1≤64) _) hr.units
section
variable{X:Cx}
theorem pv(i:Nat){x:Str}{pos:Pos}(hN:X.N[i]?=some x:=by rfl)(hv:Vis X.env.scope x:=by first | exact Or.inl rfl | exact Or.inr (Or.inl rfl) | exact Or.inr (Or.inr rfl))(hd:(x == ("__debug__":Str))=false:=by decide)(hcd:(x == ("__classdict__":Str))=false:=by decide):PE X (.Name x pos) (wL i):=qi hN hv hd hcd
end
theorem Xd{A B:Prop}(h:B):if false=true then A else B:=by
 rw[yy yL]
 exact h
theorem W3{A B:Prop}(h:A):if true=true then A else B:=by
 rw[yC rfl]
 exact h
theorem W7{c A B:Prop}[Decidable c](h1:c→A)(h2:¬c→B):if c then A else B:=by
 by_cases h:c
 ·rw[yC h]
  exact h1 h
 ·rw[yy h]
  exact h2 h
def Same(H H':Hp):Prop:=∀b o,H b=some o→H' b=some o
theorem Same.refl(H:Hp):Same H H:=fun _ _ h=>h
theorem Same.trans{H H1 H2:Hp}(a:Same H H1)(b:Same H1 H2):Same H H2:=fun c o h=>b c o (a c o h)
theorem Same.free{H H':Hp}(e:Same H H'){l:Addr}(h:H' l=Option.none):H l=Option.none:=by
 cases q:H l with
 | none=>rfl
 | some o=>
  rw[e l o q]at h
  cases h
end L2
set_option maxHeartbeats 4000000
set_option bootstrap.genMatcherCode false
set_option genInjectivity false
set_option genSizeOf false
noncomputable section
namespace L2
open PySem PySem.Spec PyProof.Rows
theorem Pl{α β:Type}{f:α→β→Sem (ForInStep β)}{g:β→α→β}:∀(l:List α)(c:β),(∀x∈l,∀c,f x c=pure (.yield (g c x)))→forIn l c f=pure (l.foldl g c)
 | [],_,_=>rfl
 | x::l,c,h=>by
  rw[List.forIn_cons,h x zH,pure_bind]
  exact Pl l (g c x) fun y hy=>h y (zP _ hy)
def aU(env:Env)(A8:List (Str×Addr))(x:Str×NameKind):List (Str×Addr):=if x.2 == .free then(x.1,(env.cells.lookup x.1).getD 0)::A8 else A8
def aJ(env:Env)(names:List (Str×NameKind)):List (Str×Addr):=names.foldl (aU env) []
theorem Tc{scope:Scope}{env:Env}(h:∀x∈scope.names,x.2=.free→∃c,env.cells.lookup x.1=some c):closureFor scope env=pure (aJ env scope.names):=by
 simp only[closureFor]
 rw[Pl (g:=aU env) scope.names [] (fun x hx c=>by
  obtain⟨n,kind⟩:=x
  by_cases hk:kind=.free
  ·subst hk
   obtain⟨a,ha⟩:=h _ hx rfl
   have ha':env.cells.lookup n=some a:=ha
   simp[aU,cellOf,ha']
  ·have hb:(kind == NameKind.free)=false:=by simpa using hk
   simp[aU,hb])]
 rfl
theorem R8{env:Env}:∀(names:List (Str×NameKind))(A8:List (Str×Addr)),(∀x∈names,x.2=.free→∃c,env.cells.lookup x.1=some c)→(∀p∈A8,env.cells.lookup p.1=some p.2)→
  ∀p∈names.foldl (aU env) A8,env.cells.lookup p.1=some p.2
 | [],_,_,h=>h
 | x::r,A8,hn,h=>by
  refine R8 r _ (fun y hy=>hn y (zP _ hy)) ?_
  intro p hp
  unfold aU at hp
  split at hp
  ·rename_i hk
   rcases yU.mp hp with e | e
   ·subst e
    obtain⟨c,hc⟩:=hn x List.mem_cons_self (by simpa using hk)
    show env.cells.lookup x.1=some ((env.cells.lookup x.1).getD 0)
    rw[hc]
    rfl
   ·exact h p e
  ·exact h p hp
theorem Ow{env:Env}:∀(names:List (Str×NameKind))(A8:List (Str×Addr))(p:Str×Addr),p∈A8→p∈names.foldl (aU env) A8
 | [],_,_,h=>h
 | x::r,A8,p,h=>by
  refine Ow r _ p ?_
  unfold aU
  split
  ·exact zP _ h
  ·exact h
theorem Uz{env:Env}:∀(names:List (Str×NameKind))(A8:List (Str×Addr))(x:Str),(x,NameKind.free)∈names→∃c,(x,c)∈names.foldl (aU env) A8
 | y::r,A8,x,h=>by
  rcases yU.mp h with e | e
  ·subst e
   exact⟨_,Ow r _ _ (by unfold aU;rw[yC (by rfl)];exact zH)⟩
  ·exact Uz r _ x e
theorem W0{α:Type}:∀{l:List (Str×α)}{x:Str}{c:α},(x,c)∈l→∃d,l.lookup x=some d
 | (y,d)::r,x,c,h=>by
  rw[List.lookup_cons]
  cases e:x == y with
  | true=>exact⟨d,rfl⟩
  | false=>
   rcases yU.mp h with q | q
   ·cases q
    rw[beq_self_eq_true]at e
    cases e
   ·exact W0 q
theorem Wl(env:Env):∀(names:List (Str×NameKind))(x:Str),(names.map fun(n,k)=>if (k == NameKind.free && env.scope.kind == .function && env.kindOf n == some .cell) then(n,NameKind.cell) else(n,k)).lookup x =
  (names.lookup x).map fun k=>if (k == NameKind.free && env.scope.kind == .function && env.kindOf x == some .cell)then NameKind.cell else k
 | [],_=>rfl
 | (n,k)::r,x=>by
  have ih:=Wl env r x
  show List.lookup x ((if (k == NameKind.free && env.scope.kind == .function && env.kindOf n == some .cell)=true then(n,NameKind.cell) else(n,k))::_)=_
  have hr:((n,k)::r).lookup x=(match x == n with | true=>some k | false=>r.lookup x):=List.lookup_cons ..
  rw[hr]
  by_cases hc:(k == NameKind.free && env.scope.kind == .function && env.kindOf n == some .cell)=true
  ·rw[yC hc,List.lookup_cons]
   cases hx:x == n with
   | true=>
    have e:x=n:=eq_of_beq hx
    subst e
    show some NameKind.cell=some (if (k == NameKind.free && env.scope.kind == .function && env.kindOf x == some .cell)=true then NameKind.cell else k)
    rw[yC hc]
   | false=>exact ih
  ·rw[yy hc,List.lookup_cons]
   cases hx:x == n with
   | true=>
    have e:x=n:=eq_of_beq hx
    subst e
    show some k=some (if (k == NameKind.free && env.scope.kind == .function && env.kindOf x == some .cell)=true then NameKind.cell else k)
    rw[yy hc]
   | false=>exact ih
def cxC(X:Cx)(own:List Str)(scope:Scope)(cl:List (Str×Addr))(C:Addr)(s:Shared)(H:Hp)(fp:List Addr):Cx:=
 {X with N:=own++X.N,s₀:=s,H₀:=H,env:=compEnvC scope cl C X.env,outer:=X.stack,stack:=X.stack,ex:=fp,fn:=fun _=>false,xe:=fun _ _=>False}
def PTs(X:Cx)(ifs:List Expr)(t:TT):Prop:=
 ∀(AU:List (Addr×Obj))(s:Shared)(σ:St)(H:Hp)(Q:Bool→Hp→Prop),Inv X AU σ H s→t σ H Q→
  wpAny (model X.prog X.w) X.A (forIn ifs true fun c r=>if r=true then do let ok ←isTrue c X.env (eval c X.env);pure (ForInStep.yield ok)else pure (ForInStep.yield r)) (TP X AU σ Q) X.xe s
def tAll:TT:=fun _ H Q=>Q true H
theorem X5{X:Cx}:PTs X [] tAll:=fun _ _ _ H _ I h=>wpAny_tests_nil ⟨H,I,h⟩
theorem Rq{X:Cx}{c:Expr}{t:TT}(h:PT X c t):PTs X [c] t:=fun AU s σ H Q I q=>wpAny_tests_one (h AU s σ H Q I q)
def Wk:St→St→Prop
 | [],[]=>True
 | _::r,none::t=>Wk r t
 | a::r,some v::t=>a=some v∧Wk r t
 | _,_=>False
theorem Wk.len:∀{a b:St},Wk a b→b.length=a.length
 | [],[],_=>rfl
 | _::r,none::t,h=>Ad (·+1) (Wk.len (a:=r) (b:=t) h)
 | _::r,some _::t,h=>Ad (·+1) (Wk.len (a:=r) (b:=t) h.2)
 | [],none::_,h=>h.elim
 | [],some _::_,h=>h.elim
 | _::_,[],h=>h.elim
theorem Wk.get:∀{a b:St}(i:Nat)(v:V),Wk a b→b[i]?=some (some v)→a[i]?=some (some v)
 | _::_,none::_,0,v,_,e=>by simp at e
 | _::_,some _::_,0,v,h,e=>by simp at e⊢;rw[h.1,e]
 | _::r,none::t,i+1,v,h,e=>by simp at e⊢;exact Wk.get (a:=r) (b:=t) i v h e
 | _::r,some _::t,i+1,v,h,e=>by simp at e⊢;exact Wk.get (a:=r) (b:=t) i v h.2 e
 | [],[],i,v,h,e=>by simp at e
 | [],none::_,_,_,h,_=>h.elim
 | [],some _::_,_,_,h,_=>h.elim
 | _::_,[],_,_,h,_=>h.elim
theorem Wk.refl:∀(a:St),Wk a a
 | []=>trivial
 | none::r=>Wk.refl r
 | some _::r=>⟨rfl,Wk.refl r⟩
def CompR(J:It)(H:Hp)(k:Nat)(g:TG)(tt:TT)(te:TE)(σ:St)(Q:VK):Prop:=∃W:Nat→Nat→List V→Hp→Prop,(∃m,W 0 m [] H)∧∀i m ys H,W i m ys H→
 (J.stop i H∧ys.length≤sizeLine∧∀p,H p=none→Q (.ref p) (upd H p (.lst ys)))∨
 (J.go i H∧ys.length<sizeLine∧∀x H',J.yld i H x H'→g x (List.replicate k none++σ) H' fun σ2 H2=>Wk σ2 (List.replicate k none++σ)∧tt σ2 H2 fun ok H3=>
  if ok=true then te σ2 H3 fun y H4=>∃m',m'<m∧W (i+1) m' (ys++[y]) H4 else ∃m',m'<m∧W (i+1) m' ys H3)
def ip(wi:TI)(g:TG)(tt:TT)(te:TE)(k:Nat):TE:=fun σ H Q=>wi σ H fun J H1=>CompR J H1 k g tt te σ Q
theorem iL{prog:Program}{w:World}{A:Around}{R:Result→Shared→Prop}{s:Shared}{elt target iter:Expr}{ifs:List Expr}{scope:Scope}{pos:Pos}{it A8:Value}{env:Env}(I:Nat→Shared→Prop)(turn:∀n s,I n s→wpAny (model prog w) A (pyNext it) (fun r s₁=>match r with
   | none=>R (.ok .next) s₁
   | some v=>wpAny (model prog w) A (letOwnedTupleGo target it v) (fun _ s₁'=>wpAny (model prog w) A (assign target env v) (fun _ s₂=>
     wpAny (model prog w) A (forIn ifs true fun c r=>if r=true then do let ok ←isTrue c env (eval c env);pure (ForInStep.yield ok)else pure (ForInStep.yield r)) (fun ok s₃=>
      if ok=true then wpAny (model prog w) A (eval elt env) (fun x s₄=>
       wpAny (model prog w) A (call (.builtin "list.append") [A8,x]) (fun _ s₅=>∃m,m<n∧I m s₅) (fun _ _=>False) s₄) (fun _ _=>False) s₃
      else ∃m,m<n∧I m s₃) (fun _ _=>False) s₂) (fun _ _=>False) s₁') (fun _ _=>False) s₁) (fun _ _=>False) s)(n:Nat)(h:I n s):
  codeAny (model prog w) A (.compLoop (.ListComp elt [⟨target,iter,ifs,0⟩] scope pos) 0 it A8 env) R s:=by
 refine codeAny_loop rfl I (fun n s hI=>?_) n h
 show wpAny _ A ((compTurn (.ListComp elt [⟨target,iter,ifs,0⟩] scope pos) 0 it A8 env).onRaise (fun x=>do noteFrame x env;theTreesLotGoes x)) _ _ s
 refine wpAny_noted ?_
 rw[compTurn_list]
 refine io (wpAny_standAt (io (z5 (turn n s hI) (fun r s₁ h₁=>?_) fun _ _ h'=>h'.elim)))
 cases r with
 | none=>exact yB h₁
 | some v=>
  refine io (z5 h₁ (fun _ s₁' h₁'=>?_) fun _ _ h'=>h'.elim)
  refine io (z5 h₁' (fun _ s₂ h₂=>io (z5 h₂ (fun ok s₃ h₃=>?_) fun _ _ h'=>h'.elim)) fun _ _ h'=>h'.elim)
  cases ok with
  | false=>exact yB ⟨rfl,h₃⟩
  | true=>
   exact io (io (z5 h₃ (fun x s₄ h₄=>io (z5 h₄ (fun _ s₅ h₅=>yB (yB ⟨rfl,h₅⟩)) fun _ _ h'=>h'.elim)) fun _ _ h'=>h'.elim))
abbrev lo(its:List Value)(n:Nat):Obj:={cls:=.type "list",data:=.seq its.toArray n}
structure TurnP(Pc:Cx→Prop)(P:Program)(w:World)(K:W.Frag)(tg:Expr)(J:It)(fp:List Addr)(it:Addr)(tn:Nat→Heap→Prop):Prop where
 obj:∀i h,tn i h→∀b∈fp,∃o,h.get? b=some o∧∀v,o.data≠.cell v
 keep:∀i h h',tn i h→(∀b∈fp,∀o,h.get? b=some o→h'.get? b=some o)→tn i h'
 item:∀(X:Cx),X.prog=P→X.w=w→X.K=K→Pc X→∀(i:Nat)(AU:List (Addr×Obj))(s:Shared)(σ:St)(H:Hp)(E:Value→Shared→Prop),Inv X AU σ H s→(∀b∈fp,cS X AU H b)→tn i s.heap→J.go i H→
  wpAny (model P w) X.A (pyNext (.ref it)) (fun r s1=>∃u,r=some u∧
   wpAny (model P w) X.A (letOwnedTupleGo tg (.ref it) u) (fun _ s2=>∃x H',Inv X AU σ H' s2∧RelV x u∧J.yld i H x H'∧tn (i+1) s2.heap∧∀b∈fp,H' b=none) E s1) E s
 done:∀(X:Cx),X.prog=P→X.w=w→X.K=K→Pc X→∀(i:Nat)(AU:List (Addr×Obj))(s:Shared)(σ:St)(H:Hp)(E:Value→Shared→Prop),Inv X AU σ H s→(∀b∈fp,cS X AU H b)→tn i s.heap→J.stop i H→
  wpAny (model P w) X.A (pyNext (.ref it)) (fun r s1=>r=none∧Inv X AU σ H s1) E s
 self:∀(A:Around)(i:Nat)(s:Shared)(Q:Value→Shared→Prop)(E:Value→Shared→Prop),tn i s.heap→Q (.ref it) s→wpAny (model P w) A (pyIter (.ref it)) Q E s
def PIP(Pc:Cx→Prop)(X:Cx)(tg iter:Expr)(wi:TI):Prop:=
 ∀(AU:List (Addr×Obj))(s:Shared)(σ:St)(H:Hp)(R:It→Hp→Prop),Inv X AU σ H s→wi σ H R→
  wpAny (model X.prog X.w) X.A (eval iter X.env) (fun v s1=>wpAny (model X.prog X.w) X.A (pyIter v) (fun itv s2=>∃(it:Addr)(fp:List Addr)(tn:Nat→Heap→Prop)(J:It)(H':Hp),itv=.ref it∧Inv X AU σ H' s2∧TurnP Pc X.prog X.w X.K tg J fp it tn∧tn 0 s2.heap∧(∀b∈fp,cS X AU H' b)∧R J H') X.xe s1) X.xe s
theorem PI.p{X:Cx}{tg iter:Expr}{wi:TI}(h:PI X tg iter wi):PIP (fun X=>X.calm=true) X tg iter wi:=fun AU s σ H R I q=>z5 (h AU s σ H R I q) (fun v s1 h1=>z5 h1 (fun itv s2 ⟨it,fp,tn,J,H',e,I',T,t0,f,r⟩=>⟨it,fp,tn,J,H',e,I',⟨T.obj,T.keep,T.item,T.done,T.self⟩,t0,f,r⟩) fun _ _ z=>z) fun _ _ z=>z
structure CompOk(X:Cx)(own:List Str)(scope:Scope):Prop where
 cell:∀y∈scope.names,y.2≠.cell
 kind:scope.kind=.function
 names:∀y∈scope.names,y.2=.local→scope.names.lookup y.1=some .local
 fr:∀y∈scope.names,y.2=.free→X.env.scope.names.lookup y.1=some .cell∨X.env.scope.names.lookup y.1=some .free
 loc:∀y∈X.N,scope.names.lookup y≠some .local
def qw(names:List (Str×NameKind)):Bool:=names.all fun y=>(y.2 != .cell) && (y.2 != .local || names.lookup y.1 == some .local)
def n5(outer names:List (Str×NameKind)):Bool:=names.all fun y=>y.2 != .free || outer.lookup y.1 == some .cell || outer.lookup y.1 == some .free
def oz(N:List Str)(names:List (Str×NameKind)):Bool:=N.all fun y=>names.lookup y != some .local
theorem CompOk.of{X:Cx}{own:List Str}{scope:Scope}(hc:X.calm=X.calm)(hk:scope.kind=.function)(h1:qw scope.names=true)(h2:n5 X.env.scope.names scope.names=true)(h3:oz X.N scope.names=true):CompOk X own scope:=by
 unfold qw at h1
 unfold n5 at h2
 unfold oz at h3
 rw[zQ]at h1 h2 h3
 refine⟨fun y hy=>?_,hk,fun y hy hl=>?_,fun y hy hf=>?_,fun y hy=>?_⟩
 ·have:=h1 y hy
  rw[zI]at this
  exact bne_iff_ne.mp this.1
 ·have:=h1 y hy
  rw[zI,hl]at this
  simpa using this.2
 ·have:=h2 y hy
  rw[hf]at this
  simpa using this
 ·exact bne_iff_ne.mp (h3 y hy)
section
variable{X:Cx}{own:List Str}{scope:Scope}{AU:List (Addr×Obj)}{σ:St}{H:Hp}{s:Shared}{fp:List Addr}
theorem CompOk.cells(O:CompOk X own scope)(ok:X.Ok):∀x∈scope.names,x.2=.free→∃c,X.env.cells.lookup x.1=some c:=fun x hx hk=>ok.has x.1 (O.fr x hx hk)
theorem CompOk.sub(O:CompOk X own scope)(ok:X.Ok):∀x c,(aJ X.env scope.names).lookup x=some c→X.env.cells.lookup x=some c:=fun x c e=>
 R8 scope.names [] (O.cells ok) (fun _ h=>nomatch h) (x,c) (zC e)
theorem CompOk.free_of(O:CompOk X own scope){cl:List (Str×Addr)}{C:Addr}{x:Str}(h:(compEnvC scope cl C X.env).kindOf x=some .cell∨(compEnvC scope cl C X.env).kindOf x=some .free):scope.names.lookup x=some .free:=by
 have e:(compEnvC scope cl C X.env).kindOf x=(scope.names.lookup x).map fun k=>if (k == NameKind.free && X.env.scope.kind == .function && X.env.kindOf x == some .cell)then NameKind.cell else k:=Wl X.env scope.names x
 rw[e]at h
 cases q:scope.names.lookup x with
 | none=>rw[q]at h;simp at h
 | some k=>
  rw[q]at h
  by_cases hk:k=.free
  ·rw[hk]
  ·have hc:k≠.cell:=O.cell (x,k) (zC q)
   have hb:(k == NameKind.free)=false:=by simpa using hk
   have hr:¬((k == NameKind.free && X.env.scope.kind == .function && X.env.kindOf x == some .cell)=true):=by rw[hb];exact yL
   have h:some (if (k == NameKind.free && X.env.scope.kind == .function && X.env.kindOf x == some .cell)=true then NameKind.cell else k)=some NameKind.cell∨some (if (k == NameKind.free && X.env.scope.kind == .function && X.env.kindOf x == some .cell)=true then NameKind.cell else k)=some NameKind.free:=h
   rw[yy hr]at h
   rcases h with h | h
   ·exact absurd (zt h) hc
   ·exact absurd (zt h) hk
theorem CompOk.look(O:CompOk X own scope)(ok:X.Ok){x:Str}(h:scope.names.lookup x=some .free):∃c,(aJ X.env scope.names).lookup x=some c∧X.env.cells.lookup x=some c:=by
 obtain⟨c,hc⟩:=Uz scope.names [] (env:=X.env) x (zC h)
 obtain⟨d,hd⟩:=W0 hc
 exact⟨d,hd,O.sub ok x d hd⟩
theorem jp(I:Inv X AU σ H s){b:Addr}(h1:b≠X.env.locals)(h2:b∉X.fs):b∉frs X.stack:=fun z=>(yU.mp (I.stkSub b z)).elim h1 h2
theorem qX(O:CompOk X own scope)(I:Inv X AU σ H s)(hf:∀b∈fp,cS X AU H b)(ho:∀b∈fp,∃o,s.heap.get? b=some o){h₁:Heap}{C:Addr}{tk:Nat}{m:Str→Option Value}(hC:s.heap.objs.size<C)(hD:h₁.get? s.heap.objs.size=some (lo [] 0))(old:∀b o,s.heap.get? b=some o→h₁.get? b=some o)(hns:h₁.Ns C m):
  Inv (cxC X own scope (aJ X.env scope.names) C s H fp) (AU++[(s.heap.objs.size,lo [] 0)]) (List.replicate own.length none++σ) H {s with heap:=h₁,toks:=tk}:=by
 have ltD:∀{b:Addr}{o:Obj},s.heap.get? b=some o→b<s.heap.objs.size:=fun e=>yM e
 have nC:∀{b:Addr}{o:Obj},s.heap.get? b=some o→b≠C:=fun e=>yW (AO (ltD e) hC)
 have hsub:=O.sub I.ok
 refine⟨⟨I.ok.mod,by show(relabel scope X.env).kind=_;exact O.kind,I.ok.glob,I.ok.blt,Aw hC,fun x y c h1 h2=>I.ok.inj x y c (hsub x c h1) (hsub y c h2),fun x hx=>?_,fun x c hx _=>absurd (show false=true from hx) yL,I.ok.hd,I.ok.frames,.inl rfl,fun b hb=>⟨?_,fun x c e=>?_⟩,I.bs,zG I.ok.bsz I.sz,fun b o e hb=>?_,fun b hb=>jp I (hf b hb).2.1 (hf b hb).2.2.1,I.stack,I.stkFree⟩,
  rfl,I.bare,Un.kept old,⟨m,hns,fun i x v e1 e2 e3=>?_⟩,fun x c e=>?_,I.hok.fresh (Aw hC),fun x c e=>I.freeC x c (hsub x c e),fun p hp=>?_,I.hok.kept old,?_⟩
 ·obtain⟨c,hc,_⟩:=O.look I.ok (O.free_of hx)
  exact⟨c,hc⟩
 ·obtain⟨o,e⟩:=ho b hb
  exact nC e
 ·exact(hf b hb).2.2.2.2.1 x c (hsub x c e)
 ·rcases(hf b hb).2.2.2.1 with z | z
  ·exact I.ok.noex b o e z
  ·exact absurd (y4 (yM e) (zG I.ok.bsz z)) (AJ _)
 ·have e1:(own++X.N)[i]?=some x:=e1
  by_cases hi:i<own.length
  ·rw[List.getElem?_append_left (by simpa using hi),List.getElem?_replicate,if_pos hi]at e2
   cases e2
  ·rw[List.getElem?_append_right (by simpa using hi),List.length_replicate]at e2
   rw[List.getElem?_append_right (by simpa using hi)]at e1
   have nl:(compEnvC scope (aJ X.env scope.names) C X.env).kindOf x≠some .local:=by
    have e:(compEnvC scope (aJ X.env scope.names) C X.env).kindOf x=(scope.names.lookup x).map fun k=>if (k == NameKind.free && X.env.scope.kind == .function && X.env.kindOf x == some .cell)then NameKind.cell else k:=Wl X.env scope.names x
    rw[e]
    intro z
    cases q:scope.names.lookup x with
    | none=>rw[q]at z;simp at z
    | some k=>
     rw[q]at z
     by_cases hk:k=.local
     ·exact O.loc x (y3 e1) (by rw[q,hk])
     ·have z:some (if (k == NameKind.free && X.env.scope.kind == .function && X.env.kindOf x == some .cell)=true then NameKind.cell else k)=some NameKind.local:=z
      by_cases hc:(k == NameKind.free && X.env.scope.kind == .function && X.env.kindOf x == some .cell)=true
      ·rw[yC hc]at z
       cases z
      ·rw[yy hc]at z
       exact hk (zt z)
   have hv:(compEnvC scope (aJ X.env scope.names) C X.env).kindOf x=some .cell∨(compEnvC scope (aJ X.env scope.names) C X.env).kindOf x=some .free:=by
    rcases e3 with z | z | z
    ·exact absurd z nl
    ·exact .inl z
    ·exact .inr z
   have hfree:=O.free_of hv
   have hout:=O.fr (x,.free) (zC hfree) rfl
   obtain⟨m0,hn0,hl0⟩:=I.loc
   obtain⟨u,r,l⟩:=hl0 _ x v e1 e2 (hout.elim (fun z=>.inr (.inl z)) fun z=>.inr (.inr z))
   refine⟨u,r,.inr ⟨hv,?_⟩⟩
   rcases l with⟨k,_⟩|⟨_,c,ec,z⟩
   ·have k':X.env.scope.names.lookup x=some .local:=k
    rcases hout with q | q
    ·rw[q]at k';cases k'
    ·rw[q]at k';cases k'
   ·obtain⟨d,hd1,hd2⟩:=O.look I.ok hfree
    rw[ec]at hd2
    cases hd2
    obtain⟨oc,hoc,hdc⟩:=z
    exact⟨c,hd1,oc,old _ _ hoc,hdc⟩
 ·obtain⟨v,o,hoc,hdc⟩:=I.cell x c (hsub x c e)
  exact⟨v,o,old _ _ hoc,hdc⟩
 ·have hp:p∈X.pn++(AU++[(s.heap.objs.size,lo [] 0)]):=hp
  rw[←zA]at hp
  rcases yY.mp hp with hp | hp
  ·obtain⟨e,n,ne,nf,d⟩:=I.pin p hp
   exact⟨old _ _ e,n,nC e,jp I ne nf,d⟩
  ·cases yN.mp hp
   refine⟨hD,I.hok.fresh (yF _),yW hC,fun z=>?_,fun v z=>by cases z⟩
   have z:=I.stkSub _ z
   rcases yU.mp z with z | z
   ·exact absurd z (zY I.lt)
   ·exact I.nofs (yF _) z
 ·show(List.replicate own.length none++σ).length=(own++X.N).length
  rw[yJ,yJ,List.length_replicate,I.len]
theorem Ot{cl:List (Str×Addr)}{C:Addr}{its:List Value}{n:Nat}{σ':St}{H':Hp}{s':Shared}{ys:List V}{h':Heap}(I:Inv X AU σ H s)(hf:∀b∈fp,cS X AU H b)(hC:s.heap.objs.size<C)(I':Inv (cxC X own scope cl C s H fp) (AU++[(s.heap.objs.size,lo its n)]) σ' H' s')(hv:Vals ys its)(hz:ys.length≤sizeLine)(hs:Heap.SameBut C s'.heap h'):
  Inv X AU σ (upd H' s.heap.objs.size (.lst ys)) {s' with heap:=h'}:=by
 obtain⟨eD,nD,neD,_,_⟩:=I'.pin (s.heap.objs.size,lo its n) (yP _ (yP _ zH))
 have nC:∀{b:Addr}{o:Obj},s.heap.get? b=some o→b≠C:=fun e=>yW (AO (yM e) hC)
 have nDD:∀{b:Addr}{o:Obj},s.heap.get? b=some o→b≠s.heap.objs.size:=fun e=>yW (yM e)
 have same:∀{b:Addr}{o:Obj},b≠C→s'.heap.get? b=some o→h'.get? b=some o:=fun hb e=>(hs.2 _ hb).trans e
 have fC:H' C=none:=I'.free
 have hb:Un (frs X.stack) fp H H' s.heap s'.heap:=I'.base
 have hot:∀{b:Addr}{u:HO},H b=some u→b≠s.heap.objs.size:=fun e=>yW (I.hok.lt e)
 refine I.call' (s':={s' with heap:=h'}) (ch:=fp) I'.os ⟨fun b o e q n1 n2=>same (nC e) (hb.keep b o e q n1 n2),fun b o e q n1 n2=>?_,fun b o e q n2=>?_,fun b o e n2=>?_,fun b xs e=>?_,fun b o u e=>?_,fun b ps e=>?_⟩ ?_ I'.bare fun b hb'=>?_
 ·obtain⟨sl,q2⟩:=hb.slot b o e q n1 n2
  exact⟨sl,same (nC e) q2⟩
 ·rw[Za (nDD e)]
  exact hb.free b o e q n2
 ·obtain⟨o',q2⟩:=hb.there b o e n2
  exact⟨o',same (nC e) q2⟩
 ·rw[Za (hot e)]
  exact hb.tups b xs e
 ·rw[Za (hot e)]
  exact hb.frzs b o u e
 ·obtain⟨more,q2⟩:=hb.tbls b ps e
  exact⟨more,by rw[Za (hot e)];exact q2⟩
 ·intro b u e
  by_cases hbD:b=s.heap.objs.size
  ·subst hbD
   rw[Z5]at e
   cases e
   exact⟨hz,its,n,hv,same neD eD⟩
  ·rw[Za hbD]at e
   have nD':∀{c:Addr}{w:HO},H' c=some w→c≠s.heap.objs.size:=fun q z=>by
    rw[z]at q
    have z2:H' s.heap.objs.size=none:=nD
    rw[z2]at q
    cases q
   refine(I'.hok b u e).stay (fun c v hc q=>same ?_ q) (fun c q=>by rw[Za (nD' q)];exact q) fun c xs q=>by rw[Za (nD' q)];exact q
   rintro rfl
   rcases hc with z | z
   ·rw[←z,fC]at e;cases e
   ·rw[fC]at z;cases z
 ·obtain⟨_,f1,_,f3,f4,f5⟩:=hf b hb'
  exact⟨f3,f1,f4,f5⟩
theorem jY{prog:Program}{w:World}{A:Around}{E:Value→Shared→Prop}{s:Shared}{l:Addr}{its:List Value}{n:Nat}{u:Value}{Q:Value→Shared→Prop}(e:s.heap.get? l=some (lo its n))(hz:its.length≤sizeLine)(h:Q .none {s with heap:=s.heap.update l (Obj.mapSeq (·.push u))}):wpAny (model prog w) A (call (.builtin "list.append") [.ref l,u]) Q E s:=
 call_meets F.slot_list_append ⟨_,e,rfl⟩ F.entry_list_append (F.args_list_append_2 _ _) (PySem.list_append l its.toArray n u (by rw[zo];omega)) ⟨e,h⟩
theorem Ou{tg iter elt:Expr}{ifs:List Expr}{pos pos0:Pos}{wi:TI}{g:TG}{tt:TT}{te:TE}{use:Option (Value→Sem Unit)}{Qp:Value→Shared→Prop}{Pc:Cx→Prop}(hpc:∀cl C s H fp,Pc (cxC X own scope cl C s H fp))(O:CompOk X own scope)(hi:PIP Pc X tg iter wi)(hg:∀cl C s H fp,PG (cxC X own scope cl C s H fp) tg g)(ht:∀cl C s H fp,PTs (cxC X own scope cl C s H fp) ifs tt)(he:∀cl C s H fp,PE (cxC X own scope cl C s H fp) elt te)(hs:∀x,foldedSetIterable iter X.env x=pure x){AU:List (Addr×Obj)}{s:Shared}{σ:St}{H:Hp}{Q:VK}(I:Inv X AU σ H s)(h:ip wi g tt te own.length σ H Q)(fin:∀(s2:Shared) (H2:Hp) (fp:List Addr) (C:Addr) (cl:List (Str×Addr)) (its:List Value) (nn:Nat) (σ':St) (H':Hp) (s5:Shared) (ys:List V),Inv X AU σ H2 s2→(∀b∈fp,cS X AU H2 b)→s2.heap.objs.size<C→
   Inv (cxC X own scope cl C s2 H2 fp) (AU++[(s2.heap.objs.size,lo its nn)]) σ' H' s5→Vals ys its→ys.length≤sizeLine→(∀p,H' p=none→Q (.ref p) (upd H' p (.lst ys)))→
   compPost (model X.prog X.w) X.A X.xe use Qp (.ref s2.heap.objs.size) C (.ok .next) s5):
  wpAny (model X.prog X.w) X.A (comprehension (.ListComp elt [⟨tg,iter,ifs,0⟩] scope pos) scope X.env pos0 (newList []) false (eval iter X.env) use) Qp X.xe s:=by
 refine wpAny_comprehension_free (use:=use) rfl hs (Tc (O.cells I.ok)) O.kind O.names (thn (hi AU s σ H _ I h) fun v s1 h1=>thn h1 fun itv s2 h2=>?_)
 obtain⟨it,fp,tn,J,H2,rfl,I2,T,st2,f2,W,⟨m0,w0⟩,turn⟩:=h2
 refine wpAny_newObj_type (wpAny_newFunctionEnv O.cell (by intro y hy;simp at hy) (fun h₁ hns₁ hsb₁=>?_) O.kind)
 dsimp only at hns₁ hsb₁ ⊢
 generalize hH2:s2.heap.push {cls:=.type "list",dict:=none,data:=.seq ([]:List Value).toArray}=Hh at hns₁ hsb₁ ⊢
 have hCs:Hh.objs.size=s2.heap.objs.size+1:=by rw[←hH2,Heap.size_push]
 have hC:s2.heap.objs.size<Hh.objs.size:=by rw[hCs];exact Nat.lt_succ_self _
 have old:∀b o,s2.heap.get? b=some o→h₁.get? b=some o:=fun b o e=>hsb₁.extBut b o (yW (AO (yM e) hC)) (yA _ (hH2 ▸ yA _ e))
 have hacc:h₁.get? s2.heap.objs.size=some (lo [] 0):=hsb₁.extBut _ _ (yW hC) (yA _ (hH2 ▸ yX _ rfl))
 have hob:∀b∈fp,∃o,s2.heap.get? b=some o:=fun b hb=>let ⟨o,e,_⟩:=T.obj _ _ st2 b hb;⟨o,e⟩
 have st3:tn 0 h₁:=T.keep _ _ _ st2 fun b _ o e=>old b o e
 have pinlt:∀p∈X.pn++AU,p.1<s2.heap.objs.size:=fun p hp=>yM (I2.pin p hp).1
 have loop:∀s₃:Shared,s₃={s2 with heap:=h₁,toks:=s2.toks+([]:List (Str×Value)).length}→
   codeAny (model X.prog X.w) X.A (.compLoop (.ListComp elt [⟨tg,iter,ifs,0⟩] scope pos) 0 (.ref it) (.ref s2.heap.objs.size) (compEnvC scope (aJ X.env scope.names) Hh.objs.size X.env))
    (compPost (model X.prog X.w) X.A X.xe use Qp (.ref s2.heap.objs.size) Hh.objs.size) s₃:=by
  rintro s₃ rfl
  have I3:=qX (tk:=s2.toks+([]:List (Str×Value)).length) O I2 f2 hob hC hacc old hns₁
  have stat:∀{o:Obj}{H':Hp},(∀b∈fp,H' b=none)→∀b∈fp,cS (cxC X own scope (aJ X.env scope.names) Hh.objs.size s2 H2 fp) (AU++[(s2.heap.objs.size,o)]) H' b:=fun{o H'} hn b hb=>by
   obtain⟨o',eo⟩:=hob b hb
   refine⟨hn b hb,yW (AO (yM eo) hC),jp I2 (f2 b hb).2.1 (f2 b hb).2.2.1,.inl hb,fun x c e=>(f2 b hb).2.2.2.2.1 x c (O.sub I2.ok x c e),fun p hp=>?_⟩
   have hp:p∈X.pn++(AU++[(s2.heap.objs.size,o)]):=hp
   rw[←zA]at hp
   rcases yY.mp hp with hp | hp
   ·exact(f2 b hb).2.2.2.2.2 p hp
   ·cases yN.mp hp
    exact zY (yM eo)
  refine iL (fun n s'=>∃i ys its nn σ' H',Inv (cxC X own scope (aJ X.env scope.names) Hh.objs.size s2 H2 fp) (AU++[(s2.heap.objs.size,lo its nn)]) σ' H' s'∧Wk σ' (List.replicate own.length none++σ)∧tn i s'.heap∧(∀b∈fp,H' b=none)∧Vals ys its∧W i n ys H')
   ?_ m0 ⟨0,[],[],0,_,H2,I3,Wk.refl _,st3,fun b hb=>(f2 b hb).1,.nil,w0⟩
  rintro n s4 ⟨i,ys,its,nn,σ4,H4,I4',wk4,st4,fr4,vs4,w4⟩
  have I4:=I4'.weak (σ':=List.replicate own.length none++σ) wk4.len (fun i v=>wk4.get i v)
  rcases turn i n ys H4 w4 with⟨stop,hz,qn⟩|⟨go,hz,step⟩
  ·refine thn (T.done (cxC X own scope (aJ X.env scope.names) Hh.objs.size s2 H2 fp) rfl rfl rfl (hpc _ _ _ _ _) i _ s4 _ H4 (fun _ _=>False) I4 (stat fr4) st4 stop) fun r s5 AV=>?_
   obtain⟨hr,I5⟩:=AV
   subst hr
   exact fin s2 H2 fp Hh.objs.size _ its nn _ H4 s5 ys I2 f2 hC I5 vs4 hz qn
  ·refine thn (T.item (cxC X own scope (aJ X.env scope.names) Hh.objs.size s2 H2 fp) rfl rfl rfl (hpc _ _ _ _ _) i _ s4 _ H4 (fun _ _=>False) I4 (stat fr4) st4 go) fun r s5 AV=>?_
   obtain⟨u,hr,h5⟩:=AV
   subst hr
   refine thn h5 fun _ s6 AV=>?_
   obtain⟨x,H6,I6,r6,y6,st6,fr6⟩:=AV
   have I6':=I6.pinned (stat fr6) (T.obj _ _ st6)
   refine thn (hg _ _ _ _ _ _ s6 _ H6 x u _ I6' r6 (step x H6 y6)) fun _ s7 AV=>?_
   obtain⟨σ7,H7,I7,wk7,q7⟩:=AV
   refine thn (ht _ _ _ _ _ _ s7 σ7 H7 _ I7 q7) fun ok s8 AV=>?_
   obtain⟨H8,I8,q8⟩:=AV
   have again:∀{σ9:St}{H9:Hp}{s9:Shared},Inv (cxC X own scope (aJ X.env scope.names) Hh.objs.size s2 H2 fp) ((AU++[(s2.heap.objs.size,lo its nn)])++dS fp s6.heap) σ9 H9 s9→tn (i+1) s9.heap∧∀b∈fp,H9 b=none:=fun{σ9 H9 s9} I9=>
    ⟨T.keep _ _ _ st6 fun b hb o e=>(I9.pin (b,o) (yP _ (yP _ (Vu hb e)))).1,fun b hb=>by
     obtain⟨o,e,d⟩:=T.obj _ _ st6 b hb
     exact(I9.pin (b,o) (yP _ (yP _ (Vu hb e)))).2.1⟩
   cases ok with
   | false=>
    rw[yy yL]at q8⊢
    obtain⟨m',hm,w8⟩:=q8
    obtain⟨a1,a2⟩:=again I8
    exact⟨m',hm,i+1,ys,its,nn,σ7,H8,I8.unpinned,wk7,a1,a2,vs4,w8⟩
   | true=>
    rw[yC rfl]at q8⊢
    refine thn (he _ _ _ _ _ _ s8 σ7 H8 _ I8 q8) fun yv s9 AV=>?_
    obtain⟨y,H9,I9,r9,m',hm,w9⟩:=AV
    obtain⟨a1,a2⟩:=again I9
    obtain⟨eD,nD,neD,nfD,_⟩:=I9.pin (s2.heap.objs.size,lo its nn) (yP _ (zw _ (yP _ zH)))
    have Bb:=vs4.length
    refine jY eD (by omega) ?_
    have upd9:=PySem.IsL.update (l:=s2.heap.objs.size) eD (·.push yv)
    have uother:∀b o,b≠s2.heap.objs.size→s9.heap.get? b=some o→(s9.heap.update s2.heap.objs.size (Obj.mapSeq (·.push yv))).get? b=some o:=fun b o hb e=>(Ak s9.heap (Obj.mapSeq (·.push yv)) (Ne.symm hb)).trans e
    have I9a:Inv (cxC X own scope (aJ X.env scope.names) Hh.objs.size s2 H2 fp) AU σ7 H9 s9:=I9.unpinned.unpinned
    have I9b:Inv (cxC X own scope (aJ X.env scope.names) Hh.objs.size s2 H2 fp) AU σ7 H9 {s9 with heap:=s9.heap.update s2.heap.objs.size (Obj.mapSeq (·.push yv))}:=
     I9a.turned (t':=s9.toks) uother nD neD (.inr (yF _)) (fun x c e z=>by
      obtain⟨v,o,hoc,_⟩:=I2.cell x c (O.sub I2.ok x c e)
      exact absurd z (yW (yM hoc))) fun p hp=>yW (pinlt p hp)
    have e2:(its.toArray.push yv)=(its++[yv]).toArray:=by simp
    have upd9':∃n2,(s9.heap.update s2.heap.objs.size (Obj.mapSeq (·.push yv))).get? s2.heap.objs.size=some (lo (its++[yv]) n2):=⟨_,by rw[upd9,e2]⟩
    obtain⟨n2,upd9'⟩:=upd9'
    have I9c:=I9b.pins_of (pins':=AU++[(s2.heap.objs.size,lo (its++[yv]) n2)]) fun p hp=>by
     rcases yY.mp hp with hp | hp
     ·exact I9b.pin p (yP _ hp)
     ·cases yN.mp hp
      exact⟨upd9',nD,neD,nfD,fun v z=>by cases z⟩
    refine⟨m',hm,i+1,ys++[y],its++[yv],n2,σ7,H9,I9c,wk7,T.keep _ _ _ a1 fun b hb o e=>uother b o ?_ e,a2,vs4.append (.cons r9 .nil),w9⟩
    obtain⟨o',eo⟩:=hob b hb
    exact yW (yM eo)
 exact codeAny_compStart_list (loop _ rfl) (T.self _ 0 _ _ _ st3 (loop _ rfl))
theorem pe_compP{Pc:Cx→Prop}{tg iter elt:Expr}{ifs:List Expr}{pos:Pos}{wi:TI}{g:TG}{tt:TT}{te:TE}(hpc:∀cl C s H fp,Pc (cxC X own scope cl C s H fp))(O:CompOk X own scope)(hi:PIP Pc X tg iter wi)(hg:∀cl C s H fp,PG (cxC X own scope cl C s H fp) tg g)(ht:∀cl C s H fp,PTs (cxC X own scope cl C s H fp) ifs tt)(he:∀cl C s H fp,PE (cxC X own scope cl C s H fp) elt te)(hs:∀x,foldedSetIterable iter X.env x=pure x:=by intro _;rfl):
  PE X (.ListComp elt [⟨tg,iter,ifs,0⟩] scope pos) (ip wi g tt te own.length):=by
 intro AU s σ H Q I h
 rw[eval_ListComp]
 refine Ou hpc O hi hg ht he hs I h fun s2 H2 fp C cl its nn σ' H' s5 ys I2 f2 hC I5 vs hz qn=>?_
 obtain⟨mm,hnm,_⟩:=I5.loc
 exact⟨mm,hnm,fun h' hs'=>⟨.ref s2.heap.objs.size,_,Ot I2 f2 hC I5 vs hz hs',rfl,qn _ (I5.pin (s2.heap.objs.size,lo its nn) (yP _ (yP _ zH))).2.1⟩⟩
theorem X6{tg iter elt:Expr}{ifs:List Expr}{pos:Pos}{wi:TI}{g:TG}{tt:TT}{te:TE}(O:CompOk X own scope)(hi:PI X tg iter wi)(hg:∀cl C s H fp,PG (cxC X own scope cl C s H fp) tg g)(ht:∀cl C s H fp,PTs (cxC X own scope cl C s H fp) ifs tt)(he:∀cl C s H fp,PE (cxC X own scope cl C s H fp) elt te)(hs:∀x,foldedSetIterable iter X.env x=pure x:=by intro _;rfl)(hc:X.calm=true:=by rfl):
  PE X (.ListComp elt [⟨tg,iter,ifs,0⟩] scope pos) (ip wi g tt te own.length):=
 pe_compP (Pc:=fun X=>X.calm=true) (fun _ _ _ _ _=>hc) O hi.p hg ht he hs
theorem ps_setCP{Pc:Cx→Prop}{i:Nat}{x:Str}{tg iter elt:Expr}{ifs:List Expr}{pos pos' cpos:Pos}{wi:TI}{g:TG}{tt:TT}{te:TE}(hN:X.N.Nodup)(hix:X.N[i]?=some x)(hl:X.env.scope.names.lookup x=some .local)(hpc:∀cl C s H fp,Pc (cxC X own scope cl C s H fp))(O:CompOk X own scope)(hi:PIP Pc X tg iter wi)(hg:∀cl C s H fp,PG (cxC X own scope cl C s H fp) tg g)(ht:∀cl C s H fp,PTs (cxC X own scope cl C s H fp) ifs tt)(he:∀cl C s H fp,PE (cxC X own scope cl C s H fp) elt te)(hs:∀x,foldedSetIterable iter X.env x=pure x:=by intro _;rfl)(hsw:swapsWith (.ListComp elt [⟨tg,iter,ifs,0⟩] scope cpos) (some (.Name x pos')) pos.line X.env=pure true:=by rfl):
  PS X (.Assign [.Name x pos'] (.ListComp elt [⟨tg,iter,ifs,0⟩] scope cpos) pos) (pB (ip wi g tt te own.length) (iA i)):=by
 intro AU s σ H D I h
 rw[exec_Assign_Name_used _ _ _ _ hsw]
 refine io (wpAny_standAt (io (m:=evalThenUse _ X.env _) ?_))
 show wpAny _ _ (comprehension (.ListComp elt [⟨tg,iter,ifs,0⟩] scope cpos) scope X.env _ (newList []) false (eval iter X.env) (some (assign (.Name x pos') X.env)) >>= fun _=>_) _ _ s
 refine io (thn (Ou (Qp:=fun _ s'=>SP X AU D .next s') hpc O hi hg ht he hs I h fun s2 H2 fp C cl its nn σ' H' s5 ys I2 f2 hC I5 vs hz qn=>?_) fun _ s' hq=>yB (yB hq))
 have Ix:Inv X AU σ (upd H' s2.heap.objs.size (.lst ys)) s5:=Ot I2 f2 hC I5 vs hz (Heap.SameBut.refl _ _)
 obtain⟨mm,hnm,_⟩:=I5.loc
 have fC:H' C=none:=I5.free
 have nCD:C≠s2.heap.objs.size:=zY hC
 refine wpAny_assign_Name (O9 (v:=.ref s2.heap.objs.size) Ix hN hix (.inl hl) rfl (fun s6 I6 sb=>?_) (.inr hl))
 obtain⟨a,sb,ha⟩:=sb
 have nLC:X.env.locals≠C:=yW (AO I2.lt hC)
 have cC:∀y c,X.env.cells.lookup y=some c→c≠C:=fun y c e=>by
  obtain⟨v,o,ho,_⟩:=I2.cell y c e
  exact yW (AO (yM ho) hC)
 have naC:C≠a:=by
  rcases ha with rfl | ha
  ·exact Ne.symm nLC
  ·exact Ne.symm (cC x a ha)
 refine⟨mm,hnm.sameBut sb naC,fun h' hs'=>⟨_,_,I6.turned (t':=s6.toks) (fun b o hb e=>(hs'.2 b hb).trans e) (by rw[Za nCD];exact fC) (Ne.symm nLC) (.inr (zG I2.sz (Aw hC))) cC (fun p hp=>yW (AO (yM (I2.pin p hp).1) hC)),qn _ (I5.pin (s2.heap.objs.size,lo its nn) (yP _ (yP _ zH))).2.1⟩⟩
theorem Rr{i:Nat}{x:Str}{tg iter elt:Expr}{ifs:List Expr}{pos pos' cpos:Pos}{wi:TI}{g:TG}{tt:TT}{te:TE}(hN:X.N.Nodup)(hix:X.N[i]?=some x)(hl:X.env.scope.names.lookup x=some .local)(O:CompOk X own scope)(hi:PI X tg iter wi)(hg:∀cl C s H fp,PG (cxC X own scope cl C s H fp) tg g)(ht:∀cl C s H fp,PTs (cxC X own scope cl C s H fp) ifs tt)(he:∀cl C s H fp,PE (cxC X own scope cl C s H fp) elt te)(hs:∀x,foldedSetIterable iter X.env x=pure x:=by intro _;rfl)(hsw:swapsWith (.ListComp elt [⟨tg,iter,ifs,0⟩] scope cpos) (some (.Name x pos')) pos.line X.env=pure true:=by rfl)(hc:X.calm=true:=by rfl):
  PS X (.Assign [.Name x pos'] (.ListComp elt [⟨tg,iter,ifs,0⟩] scope cpos) pos) (pB (ip wi g tt te own.length) (iA i)):=
 ps_setCP (Pc:=fun X=>X.calm=true) hN hix hl (fun _ _ _ _ _=>hc) O hi.p hg ht he hs hsw
end
section
variable{X:Cx}{pos:Pos}
theorem Xq(K:W.Frag)(n:Nat){es:List Expr}{k:Nat}{t:TGs}(hK:X.K=K)(hc:X.calm=true)(h:PGs X es t)(hn:(assignEach es X.env).length=n:=by rfl)(hst:(assignEach es X.env).findIdx? (·.1)=none:=by rfl):PG X (.Tuple es k pos) (xK K n t):=by
 subst hK
 exact Yn hc h hn hst
theorem Ut(K:W.Frag)(hK:X.K=K):IxR X (xJ K):=by subst hK;exact Y6
end
mutual
inductive DV(H:Hp):V→PyData→Prop
 | non:DV H .non .none
 | bl (b:Bool):DV H (.bl b) (.bool b)
 | int (i:Int):DV H (.int i) (.int i)
 | str (x:Str):DV H (.str x) (.str x)
 | lst {a:Addr} {xs:List V} {ds:List PyData}:H a=some (.lst xs)→DVs H xs ds→DV H (.ref a) (.list ds)
 | tup {a:Addr} {xs:List V} {ds:List PyData}:H a=some (.tup xs)→DVs H xs ds→DV H (.ref a) (.tuple ds)
inductive DVs(H:Hp):List V→List PyData→Prop
 | nil:DVs H [] []
 | cons {v:V} {vs:List V} {d:PyData} {ds:List PyData}:DV H v d→DVs H vs ds→DVs H (v::vs) (d::ds)
end
mutual
theorem DV.mono{H H':Hp}(g:Same H H'):∀{v:V}{d:PyData},DV H v d→DV H' v d
 | _,_,.non=>.non
 | _,_,.bl b=>.bl b
 | _,_,.int i=>.int i
 | _,_,.str x=>.str x
 | _,_,.lst e r=>.lst (g _ _ e) (DVs.mono g r)
 | _,_,.tup e r=>.tup (g _ _ e) (DVs.mono g r)
theorem DVs.mono{H H':Hp}(g:Same H H'):∀{vs:List V}{ds:List PyData},DVs H vs ds→DVs H' vs ds
 | _,_,.nil=>.nil
 | _,_,.cons h r=>.cons (DV.mono g h) (DVs.mono g r)
end
theorem DVs.length{H:Hp}:∀{vs:List V}{ds:List PyData},DVs H vs ds→vs.length=ds.length
 | _,_,.nil=>rfl
 | _,_,.cons _ r=>Ad (·+1) r.length
theorem DVs.append{H:Hp}:∀{vs ws:List V}{ds es:List PyData},DVs H vs ds→DVs H ws es→DVs H (vs++ws) (ds++es)
 | _,_,_,_,.nil,s=>s
 | _,_,_,_,.cons h r,s=>.cons h (DVs.append r s)
theorem DVs.getV{H:Hp}:∀{vs:List V}{ds:List PyData}{i:Nat}{v:V},DVs H vs ds→vs[i]?=some v→∃d,ds[i]?=some d∧DV H v d
 | _,_,_,_,.nil,e=>by simp at e
 | _,_,0,_,.cons h _,e=>by simp at e;subst e;exact⟨_,rfl,h⟩
 | _,_,i+1,d,.cons _ r,e=>by
  obtain⟨v,h1,h2⟩:=DVs.getV (i:=i) (v:=d) r (by simpa using e)
  exact⟨v,by simpa using h1,h2⟩
section
variable{X:Cx}{AU:List (Addr×Obj)}{σ:St}{H:Hp}{s:Shared}
mutual
theorem DV.reads(I:Inv X AU σ H s):∀{v:V}{d:PyData}{u:Value},DV H v d→RelV v u→∃as,Reads s.heap u d as
 | _,_,_,.non,r=>by cases r;exact⟨_,Reads.none⟩
 | _,_,_,.bl b,r=>by cases r;exact⟨_,Reads.bool b⟩
 | _,_,_,.int i,r=>by obtain⟨t,rfl⟩:=r;exact⟨_,Reads.int i t⟩
 | _,_,_,.str x,r=>by obtain⟨t,rfl⟩:=r;exact⟨_,Reads.str x t⟩
 | _,_,_,.lst e q,r=>by
  cases r
  obtain⟨its,n,rv,ho,_⟩:=I.lst e
  obtain⟨as,p⟩:=DVs.reads I q rv
  exact⟨_,reads_list_at ho rfl rfl (by simpa using p)⟩
 | _,_,_,.tup e q,r=>by
  cases r
  obtain⟨its,rv,⟨o,ho,hc,n,hd⟩,_⟩:=I.tuple (SqT.of e)
  obtain⟨as,p⟩:=DVs.reads I q rv
  exact⟨_,reads_tuple_at ho hc hd (by simpa using p)⟩
theorem DVs.reads(I:Inv X AU σ H s):∀{vs:List V}{ds:List PyData}{us:List Value},DVs H vs ds→Vals vs us→∃as,ReadsAll s.heap us ds as
 | _,_,_,.nil,r=>by cases r;exact⟨_,ReadsAll.nil⟩
 | _,_,_,.cons h t,r=>by
  cases r with
  | cons r1 r2=>
   obtain⟨as,p⟩:=DV.reads I h r1
   obtain⟨bs,q⟩:=DVs.reads I t r2
   exact⟨_,ReadsAll.cons p q⟩
end
end
def rEqD:R2:=fun x y H Q=>∃d e,DV H x d∧DV H y e∧SeqAt.shaped d=true∧SeqAt.shaped e=true∧Q (.bl (PyData.eqv d e)) H
def rNeD:R2:=fun x y H Q=>∃d e,DV H x d∧DV H y e∧SeqAt.shaped d=true∧SeqAt.shaped e=true∧Q (.bl (!PyData.eqv d e)) H
section
variable{X:Cx}
theorem u_(hu:X.A.units+64<cLine):OpR X (compareOp .Eq) rEqD:=by
 intro AU s σ H x y v u Q I rx ry h
 obtain⟨d,e,h1,h2,s1,s2,q⟩:=h
 obtain⟨as,p1⟩:=h1.reads I rx
 obtain⟨bs,p2⟩:=h2.reads I ry
 exact eq_dataH p1 p2 s1 s2 hu ⟨.bl _,H,I,rfl,q⟩
theorem P2(hu:X.A.units+64<cLine):OpR X (compareOp .NotEq) rNeD:=by
 intro AU s σ H x y v u Q I rx ry h
 obtain⟨d,e,h1,h2,s1,s2,q⟩:=h
 obtain⟨as,p1⟩:=h1.reads I rx
 obtain⟨bs,p2⟩:=h2.reads I ry
 exact ne_dataH p1 p2 s1 s2 hu ⟨.bl _,H,I,rfl,q⟩
def rIs(K:W.Frag):List V→Hp→VK→Prop:=fun xs H Q=>∃x t T b,xs=[x,.ty T]∧TyOf K H x t∧W.kitOne K t (.type T)=some b∧Q (.bl b) H
theorem Sk:bH X (.builtin "isinstance") (rIs X.K):=by
 intro AU s σ H xs us Q I r h
 obtain⟨x,t,T,b,rfl,ty,e,q⟩:=h
 obtain⟨u,w',rfl,ru,rt⟩:=kJ r
 cases (show w'=Value.type T from rt)
 exact ma I ru ty e fun tk=>⟨.bl b,H,I.tok _,rfl,q⟩
end
structure Has(P:Program)(w:World)(K:W.Frag)(mg:Str→Option Value)(base:Heap)(x:Str)(k:Nat)(ps:List Str)(sp:Sp):Prop where
 ex:∃f fd,FnOk P w K mg base CX0 k f fd ps sp∧Binds K fd ps []∧W.keepIn K (.ref f)=true∧mg x=some (.ref f)
section
variable{X:Cx}{j k:Nat}{ps:List Str}{sp:Sp}{x:Str}{p pos:Pos}{e:Expr}{es:List Expr}{t:TA}
theorem Z4(h:Has X.prog X.w X.K X.mg X.base x j ps sp)(hr:Room k X.A)(ha:PA X (e::es) t)(hg:Gl X x:=by rfl)(hj:j≤k:=by first | decide | omega)(hdb:(x == ("__debug__":Str))=false:=by decide)(he:starEach (e::es) X.env=(false,eval e X.env)::starEach es X.env:=by rfl)(hpl:(backTo pos (starEach es X.env)).any (·.1)=false:=by rfl):
  PE X (.Call (.Name x p) (e::es) [] pos) (t8 sp [] E0 t):=by
 intro AU s σ H Q I q
 obtain⟨f,fd,F,b,kp,m⟩:=h.ex
 refine sr (CX:=CX0) (E:=E0) (dvs:=[]) (F.mono hj) hr hg m kp b .nil ?_ ha hdb he hpl AU s σ H Q I q
 exact fun _ _ _ _ _ _ _ z=>z.elim
end
def av(a:Addr)(H:Hp):Hp:=fun b=>if b=a then none else H b
theorem Ol{a:Addr}{H:Hp}:av a H a=none:=by unfold av;rw[yC rfl]
theorem Zh{a b:Addr}{H:Hp}(h:b≠a):av a H b=H b:=by unfold av;rw[yy h]
theorem Zc{a b:Addr}{H:Hp}{o:HO}(h:av a H b=some o):b≠a∧H b=some o:=by
 unfold av at h
 by_cases e:b=a
 ·rw[yC e]at h;cases h
 ·rw[yy e]at h;exact⟨e,h⟩
theorem Yc{a:Addr}{H:Hp}:Same (av a H) H:=fun _ _ h=>(Zc h).2
theorem Z6{H:Hp}{p:Addr}(h:H p=none)(o:HO):Same H (upd H p o):=fun b u q=>by rw[Za (Zf q h)];exact q
abbrev Grw(a:Addr)(H H':Hp):Prop:=Same (av a H) (av a H')
theorem Sg{a:Addr}{H H':Hp}{o:HO}(ha:H a=some o)(g:Same H H'):Grw a H H':=fun b u q=>by
 obtain⟨h1,h2⟩:=Zc q
 rw[Zh h1];exact g b u h2
theorem Yw{a:Addr}{H:Hp}{o:HO}:Grw a H (upd H a o):=fun b u q=>by
 obtain⟨h1,h2⟩:=Zc q
 rw[Zh h1,Za h1];exact h2
theorem pT{a p:Addr}{H:Hp}{o:HO}(h:H p=none):Grw a H (upd H p o):=fun b u q=>by
 obtain⟨h1,h2⟩:=Zc q
 rw[Zh h1,Za (Zf h2 h)];exact h2
theorem Wz{j:Int}(h:decide (0<j)=true):0<j:=yO h
theorem ltI{i j:Int}(h:decide (i<j)=true):i<j:=yO h
theorem leI{i j:Int}(h:decide (i≤j)=true):i≤j:=yO h
theorem leN{i j:Nat}(h:decide (i≤j)=true):i≤j:=yO h
theorem qz{i j:Int}(h1:decide (0<j)=true)(h2:decide (j<1073741824)=true):xH i j:=⟨yO h1,yO h2⟩
theorem gE{i j:Int}(h1:decide (0≤j)=true)(h2:decide (j≤1000000)=true)(h3:decide (i.natAbs<2 ^ 64)=true):uD i j:=⟨yO h1,yO h2,yO h3⟩
theorem m_{i j:Int}(h1:decide (-(2 ^ 64)<i)=true)(h2:decide (i<2 ^ 64)=true):CMul i j:=Or.inl ⟨yO h1,yO h2⟩
theorem mulR{i j:Int}(h1:decide (-(2 ^ 64)<j)=true)(h2:decide (j<2 ^ 64)=true):CMul i j:=Or.inr ⟨yO h1,yO h2⟩
theorem wx(x m y:Int)(h0:decide (0<m)=true)(h1:decide (m<4294967296)=true):CMul (x % m) y:=by
 have h0:=yO h0
 have h1:=yO h1
 exact Or.inl ⟨by have:=Int.emod_nonneg x (show m≠0 by omega);omega,by have:=AG x h0;omega⟩
theorem xn(a b c:V):atI [a,b,c] 0=some a:=rfl
theorem pE(a b c:V):atI [a,b,c] 1=some b:=rfl
theorem hW(a b c:V):atI [a,b,c] 2=some c:=rfl
theorem qU{α:Type}{xs:List α}{i:Int}(h0:0≤i)(h1:i<xs.length):∃v,atI xs i=some v∧v∈xs:=by
 have hi:i.toNat<xs.length:=by omega
 have e:((i.toNat:Nat):Int)=i:=by omega
 refine⟨xs[i.toNat],?_,List.getElem_mem hi⟩
 have q:=Q9 (xs:=xs) (j:=i.toNat) (v:=xs[i.toNat]) (zK hi)
 rw[e]at q
 exact q
theorem Zn{n:Nat}(h:n≤1000000):n≤sizeLine:=zG h (by decide)
theorem Zm{n:Nat}(h:n<1000000):n<sizeLine:=y4 h (by decide)
theorem jC{lo:Int}{n k:Nat}{g:TG}{tt:TT}{te:TE}{σ:St}{H:Hp}{Q:VK}(Pv:Nat→List V→Hp→Prop)(h0:Pv 0 [] H)(hs:∀i ys H (C:List V→Hp→Prop),i<n→Pv i ys H→(∀ys' H',Pv (i+1) ys' H'→C ys' H')→ys.length<sizeLine∧g (.int (lo+i)) (List.replicate k none++σ) H fun σ2 H2=>Wk σ2 (List.replicate k none++σ)∧tt σ2 H2 fun ok H3=>
   if ok=true then te σ2 H3 fun y H4=>C (ys++[y]) H4 else C ys H3)(hd:∀ys H,Pv n ys H→ys.length≤sizeLine∧∀p,H p=none→Q (.ref p) (upd H p (.lst ys))):
  CompR (Itr lo n) H k g tt te σ Q:=by
 refine⟨fun i m ys H=>m=n - i∧i≤n∧Pv i ys H,⟨n,by simp,Nat.zero_le _,h0⟩,?_⟩
 rintro i m ys H ⟨rfl,hi,p⟩
 by_cases A1:i<n
 ·have q:=hs i ys H (fun ys' H'=>∃m',m'<n - i∧m'=n - (i+1)∧i+1≤n∧Pv (i+1) ys' H') A1 p fun ys' H' p'=>⟨_,by omega,rfl,A1,p'⟩
  refine .inr ⟨A1,q.1,fun x H' y=>?_⟩
  obtain⟨e,y⟩:=y
  subst e y
  exact q.2
 ·have e:i=n:=by omega
  subst e
  exact .inl ⟨yF _,hd ys H p⟩
theorem X4{K:W.Frag}{a:Addr}{xs:List V}{k:Nat}{g:TG}{tt:TT}{te:TE}{σ:St}{H:Hp}{Q:VK}(Pv:Nat→List V→Hp→Prop)(h0:Pv 0 [] H)(hl:∀i ys H,i≤xs.length→Pv i ys H→SqL K H a xs)(hs:∀i x ys H (C:List V→Hp→Prop),xs[i]?=some x→Pv i ys H→(∀ys' H',Pv (i+1) ys' H'→C ys' H')→ys.length<sizeLine∧g x (List.replicate k none++σ) H fun σ2 H2=>Wk σ2 (List.replicate k none++σ)∧tt σ2 H2 fun ok H3=>
   if ok=true then te σ2 H3 fun y H4=>C (ys++[y]) H4 else C ys H3)(hd:∀ys H,Pv xs.length ys H→ys.length≤sizeLine∧∀p,H p=none→Q (.ref p) (upd H p (.lst ys))):
  CompR (Itl K a) H k g tt te σ Q:=by
 refine⟨fun i m ys H=>m=xs.length - i∧i≤xs.length∧Pv i ys H,⟨xs.length,by simp,Nat.zero_le _,h0⟩,?_⟩
 rintro i m ys H ⟨rfl,hi,p⟩
 have q:=hl i ys H hi p
 by_cases A1:i<xs.length
 ·have r:=hs i xs[i] ys H (fun ys' H'=>∃m',m'<xs.length - i∧m'=xs.length - (i+1)∧i+1≤xs.length∧Pv (i+1) ys' H') (by simp[A1]) p fun ys' H' p'=>⟨_,by omega,rfl,A1,p'⟩
  refine .inr ⟨⟨xs,xs[i],q,by simp[A1]⟩,r.1,fun x H' y=>?_⟩
  obtain⟨e,y⟩:=y
  subst e
  have ex:xs[i]?=some x:=y xs q
  have ex2:xs[i]=x:=by simpa [A1] using ex
  rw[←ex2]
  exact r.2
 ·have e:i=xs.length:=by omega
  subst e
  exact .inl ⟨⟨xs,q,yF _⟩,hd ys H p⟩
structure Th where
 day:Int
 word:Str
 num:Int
 many:Int
def Th.D(t:Th):PyData:=.tuple [.int t.day,.str t.word,.int t.num,.int t.many]
def Th.vs(t:Th):List V:=[.int t.day,.str t.word,.int t.num,.int t.many]
theorem Th.dv{H:Hp}{r:Addr}{t:Th}(h:H r=some (.tup t.vs)):DV H (.ref r) t.D:=.tup h (.cons (.int _) (.cons (.str _) (.cons (.int _) (.cons (.int _) .nil))))
inductive Tr where
 | leaf (ts:List Th)
 | node (l r:Tr)
abbrev aP(ts:List Th):PyData:=.list (ts.map Th.D)
def Tr.D:Tr→PyData
 | .leaf ts=>aP ts
 | .node l r=>.tuple [.str "merged",l.D,r.D]
def Tr.streams:Tr→List (List Th)
 | .leaf ts=>[ts]
 | .node l r=>l.streams++r.streams
def Tr.size:Tr→Nat
 | .leaf _=>1
 | .node l r=>l.size+r.size+1
def Tr.ht:Tr→Nat
 | .leaf _=>0
 | .node l r=>max l.ht r.ht+1
def Tr.all:Tr→List Th
 | .leaf ts=>ts
 | .node l r=>l.all++r.all
theorem Tr.size_pos:∀t:Tr,0<t.size
 | .leaf _=>Nat.zero_lt_one
 | .node _ _=>Nat.succ_pos _
theorem Tr.all_eq:∀t:Tr,t.all=t.streams.flatten
 | .leaf ts=>by simp[Tr.all,Tr.streams]
 | .node l r=>by
  show l.all++r.all=(l.streams++r.streams).flatten
  rw[List.flatten_append,all_eq l,all_eq r]
theorem lC{α:Type}{f:α→PyData}{n:Nat}:∀(xs:List α),(∀x∈xs,(f x).canLay0=true∧(f x).depth≤n)→PyData.canLayAll0 (xs.map f)=true∧PyData.depthAll (xs.map f)≤n
 | [],_=>by simp[PyData.canLayAll0,PyData.depthAll]
 | x::xs,h=>by
  have h1:=h x zH
  have h2:=lC xs fun y hy=>h y (zP _ hy)
  rw[yE,PyData.canLayAll0,PyData.depthAll,h1.1,h2.1]
  exact⟨rfl,Nat.max_le.mpr ⟨h1.2,h2.2⟩⟩
theorem pZ{α:Type}{f:α→PyData}{n:Nat}(xs:List α)(h:∀x∈xs,(f x).canLay0=true∧(f x).depth≤n):(PyData.list (xs.map f)).canLay0=true∧(PyData.list (xs.map f)).depth≤n+1:=by
 have q:=lC xs h
 rw[PyData.canLay0,PyData.depth]
 exact⟨q.1,Nat.succ_le_succ q.2⟩
theorem Yo{d:PyData}{n:Nat}(h:d.canLay0=true∧d.depth≤n)(hn:n≤64):SeqAt.shaped d=true:=by
 unfold SeqAt.shaped
 rw[h.1,Bool.true_and]
 exact yG (zG h.2 hn)
theorem Si{d:PyData}{n:Nat}(h:d.canLay0=true∧d.depth≤n):PyData.eqv d d=true:=SeqAt.eqv_refl d h.1
theorem kL(ds:List PyData):PyData.eqv (.list ds) (.list [])=ds.isEmpty:=by
 cases ds <;> simp[PyData.eqv,PyData.eqvAll]
theorem DV.list_inv{H:Hp}{v:V}{ds:List PyData}(h:DV H v (.list ds)):∃a xs,v=.ref a∧H a=some (.lst xs)∧DVs H xs ds:=by
 cases h with
 | lst e r=>exact⟨_,_,rfl,e,r⟩
theorem DV.tup_inv{H:Hp}{v:V}{ds:List PyData}(h:DV H v (.tuple ds)):∃a xs,v=.ref a∧H a=some (.tup xs)∧DVs H xs ds:=by
 cases h with
 | tup e r=>exact⟨_,_,rfl,e,r⟩
theorem DVs.cons_inv{H:Hp}{vs:List V}{d:PyData}{ds:List PyData}(h:DVs H vs (d::ds)):∃x r,vs=x::r∧DV H x d∧DVs H r ds:=by
 cases h with
 | cons a b=>exact⟨_,_,rfl,a,b⟩
theorem DVs.nil_inv{H:Hp}{vs:List V}(h:DVs H vs []):vs=[]:=by
 cases h with
 | nil=>rfl
theorem DV.node_inv{H:Hp}{v:V}{l r:Tr}(h:DV H v (Tr.node l r).D):∃a m x y,v=.ref a∧H a=some (.tup [m,x,y])∧DV H x l.D∧DV H y r.D:=by
 obtain⟨a,xs,rfl,e,q⟩:=DV.tup_inv h
 obtain⟨m,r1,rfl,_,q1⟩:=q.cons_inv
 obtain⟨x,r2,rfl,hx,q2⟩:=q1.cons_inv
 obtain⟨y,r3,rfl,hy,q3⟩:=q2.cons_inv
 have:=q3.nil_inv
 subst this
 exact⟨a,m,x,y,rfl,e,hx,hy⟩
theorem Xu{H H':Hp}{a:Addr}{o:HO}(g:Same H H')(h:H a=none):Same H (upd H' a o):=fun b u q=>by rw[Za (Zf q h)];exact g b u q
theorem Has.of{P:Program}{w:World}{K:W.Frag}{mg:Str→Option Value}{base:Heap}{x:Str}{k:Nat}{ps:List Str}{sp:Sp}{f:Addr}{fd:FuncData}(F:FnOk P w K mg base CX0 k f fd ps sp)(b:Binds K fd ps [])(kp:W.keepIn K (.ref f)=true)(m:mg x=some (.ref f)):
  Has P w K mg base x k ps sp:=⟨f,fd,F,b,kp,m⟩
theorem rY{P:Program}{w:World}{K:W.Frag}{mg:Str→Option Value}{base:Heap}{k:Nat}{ps:List Str}{sp:Sp}{f:Addr}{fd:FuncData}(no:∀vs H Q E,¬sp vs H Q E):FnOk P w K mg base CX0 k f fd ps sp:=
 ⟨fun vs H Q E h=>absurd h (no vs H Q E),fun A outer s H args us vs Q E _ _ _ _ h=>absurd h (no vs H Q E)⟩
def yk(t T:String):Option Bool:=if (Value.type t == Value.type T)=true then some true else if W.kitMeta T=true then(PySem.fastBuiltinMro t).map (·.contains (.type T))else none
theorem qS{K:W.Frag}{t T:String}{b:Bool}(h:yk t T=some b):W.kitOne K (.type t) (.type T)=some b:=h
theorem oV{K:W.Frag}:W.kitOne K (.type "list") (.type "list")=some true:=qS (by decide +kernel)
theorem o0{K:W.Frag}:W.kitOne K (.type "tuple") (.type "list")=some false:=qS (by decide +kernel)
section
variable{X:Cx}
theorem sF{ns:List Int}{us:List Value}(r:Vals (ns.map V.int) us){i:Nat}{u:Value}(h:us[i]?=some u):∃t,u=.int (ns.getD i 0) t:=IntsAre.int_at (jg r) i u h
theorem Vj(hc:X.calm=true):bH X (.builtin "sum") (fun xs H Q=>∃(p:Addr)(ns:List Int),xs=[.ref p]∧SqL X.K H p (ns.map V.int)∧Q (.int ns.sum) H):=by
 intro AU s σ H xs us Q I r h
 obtain⟨p,ns,rfl,hq,q⟩:=h
 obtain⟨u,rfl,ru⟩:=T8 r
 cases ru
 obtain⟨its,rv,pl,hz⟩:=I.list hq
 have hl:=rv.length
 rw[pi]at hl
 have A1:p<s.heap.objs.size:=by
  obtain⟨o,n,e,_⟩:=pl
  exact yM e
 refine call_sum_walkG (wpAny_pyIter_list pl.isList ?_)
 have hh:X.A.in1.handled=none:=by simpa using I.ok.hd hc
 refine⟨s.heap.objs.size,_,_,_,_,_,fun i=>ns.getD i 0,rfl,Walks.list hh _ p (yW A1) its.toArray,⟨⟨_,yX _ rfl,rfl,rfl⟩,pl.isList.push _⟩,fun b hb=>?_,fun i v hv=>?_,fun h' tk t' kp=>?_⟩
 ·rw[Heap.size_push]
  rcases yU.mp hb with e | e
  ·rw[e];exact Nat.lt_succ_self _
  ·rw[yN.mp e];exact Nat.lt_succ_of_lt A1
 ·exact sF rv (by simpa using hv)
 ·have e:preSum (fun i=>ns.getD i 0) its.toArray.size=ns.sum:=by
   rw[PyProof.Rows.preSum_getD,zo,←hl,zn]
  rw[e]
  refine⟨.int ns.sum,H,I.kept fun b o eb=>kp b o ?_ (yA _ eb),⟨_,rfl⟩,q⟩
  intro hb
  rw[yN.mp hb]at eb
  exact absurd (yM eb) (AJ _)
end
section
variable{prog:Program}{w:World}{A:Around}{R:Result→Shared→Prop}{I:Addr}{fp wr:List Addr}{n:Nat}{P:Nat→Value→Prop}{St:Nat→Heap→Prop}
end
section
variable{prog:Program}{w:World}{A:Around}{E:Value→Shared→Prop}{s:Shared}
end
section
variable{X:Cx}
end
theorem DV.th_inv{H:Hp}{v:V}{t:Th}(h:DV H v t.D):∃c,v=.ref c∧H c=some (.tup t.vs):=by
 obtain⟨c,xs,rfl,e,q⟩:=DV.tup_inv h
 obtain⟨_,_,rfl,k1,q⟩:=q.cons_inv
 obtain⟨_,_,rfl,k2,q⟩:=q.cons_inv
 obtain⟨_,_,rfl,k3,q⟩:=q.cons_inv
 obtain⟨_,_,rfl,k4,q⟩:=q.cons_inv
 have:=q.nil_inv
 subst this
 cases k1
 cases k2
 cases k3
 cases k4
 exact⟨c,rfl,e⟩
theorem DVs.th_at{H:Hp}{xs:List V}{ts:List Th}{i:Nat}{x:V}(h:DVs H xs (ts.map Th.D))(hx:xs[i]?=some x):∃t c,ts[i]?=some t∧x=.ref c∧H c=some (.tup t.vs)∧t∈ts:=by
 obtain⟨d,hd,dv⟩:=DVs.getV h hx
 rw[y9]at hd
 obtain⟨t,ht,rfl⟩:=zO.mp hd
 obtain⟨c,rfl,e⟩:=DV.th_inv dv
 exact⟨t,c,ht,rfl,e,y3 ht⟩
theorem Zz{α:Type}{l:List α}{i:Nat}{x:α}(h:l[i]?=some x):l.take (i+1)=l.take i++[x]:=by rw[List.take_add_one,h];rfl
theorem Wt{K:W.Frag}{a:Addr}{xs:List V}{ts:List Th}{k:Nat}{g:TG}{tt:TT}{te:TE}{σ:St}{H:Hp}{Q:VK}(p:Th→Bool)(f:Th→V)(e:H a=some (.lst xs))(dv:DVs H xs (ts.map Th.D))(hl:ts.length≤100000)(hs:∀(t:Th) (c:Addr) (ys:List V) (C:List V→Hp→Prop),t∈ts→H c=some (.tup t.vs)→(p t=true→C (ys++[f t]) H)→(p t=false→C ys H)→g (.ref c) (List.replicate k none++σ) H fun σ2 H2=>Wk σ2 (List.replicate k none++σ)∧tt σ2 H2 fun ok H3=>
   if ok=true then te σ2 H3 fun y H4=>C (ys++[y]) H4 else C ys H3)(hd:∀q,H q=none→Q (.ref q) (upd H q (.lst ((ts.filter p).map f)))):
  CompR (Itl K a) H k g tt te σ Q:=by
 have dl:=dv.length
 rw[pi]at dl
 have le:∀i,(((ts.take i).filter p).map f).length≤100000:=fun i=>by
  rw[pi]
  have h1:=zX p (ts.take i)
  rw[y7]at h1
  omega
 refine X4 (xs:=xs) (fun i ys H'=>H'=H∧ys=((ts.take i).filter p).map f) ⟨rfl,rfl⟩ ?_ ?_ ?_
 ·rintro i ys H' _ ⟨rfl,_⟩
  exact SqL.of e
 ·rintro i x ys H' C hx ⟨rfl,rfl⟩ hC
  obtain⟨t,c,ht,rfl,ec,hm⟩:=DVs.th_at dv hx
  refine⟨Zm (by have:=le i;omega),hs t c _ C hm ec (fun hp=>hC _ _ ⟨rfl,?_⟩) (fun hp=>hC _ _ ⟨rfl,?_⟩)⟩
  ·rw[Zz ht,AH,yV,zD,hp]
   rfl
  ·rw[Zz ht,AH,zD,hp]
   simp
 ·rintro ys H' ⟨rfl,rfl⟩
  rw[dl,zn]
  refine⟨Zn (by have:=le ts.length;rw[zn]at this;omega),hd⟩
section
variable{κ:Type}[DecidableEq κ]
def bi(kvs:List (κ×V))(k:κ):Option V:=(kvs.find? fun kv=>decide (kv.1=k)).map (·.2)
def aK(kvs:List (κ×V))(k:κ)(v:V):List (κ×V):=
 if (kvs.any fun kv=>decide (kv.1=k))=true then kvs.map (fun kv=>if kv.1=k then(kv.1,v)else kv)else kvs++[(k,v)]
def ce(kvs:List (κ×V))(k:κ):List (κ×V):=kvs.filter fun kv=>decide (kv.1≠k)
theorem Yq{p:κ×V}{r:List (κ×V)}{k:κ}(e:p.1=k):bi (p::r) k=some p.2:=by simp[bi,List.find?_cons,e]
theorem Yb{p:κ×V}{r:List (κ×V)}{k:κ}(e:¬p.1=k):bi (p::r) k=bi r k:=by simp[bi,List.find?_cons,e]
theorem V2(k:κ):∀kvs:List (κ×V),(kvs.any fun kv=>decide (kv.1=k))=(bi kvs k).isSome
 | []=>rfl
 | p::r=>by
  rw[List.any_cons]
  by_cases e:p.1=k
  ·simp only[Yq e,decide_eq_true e,Bool.true_or,Option.isSome_some]
  ·rw[Yb e,ze e,Bool.false_or];exact V2 k r
theorem gA(k j:κ)(y:V):∀kvs:List (κ×V),bi (kvs.map fun kv=>if kv.1=k then(kv.1,y)else kv) j=(bi kvs j).map fun x=>if j=k then y else x
 | []=>rfl
 | p::r=>by
  have ih:=gA k j y r
  rw[yE]
  by_cases h:p.1=k
  ·rw[yC h]
   by_cases e:p.1=j
   ·rw[Yq (p:=(p.1,y)) e,Yq e,Option.map_some,yC (e.symm.trans h)]
   ·rw[Yb (p:=(p.1,y)) e,Yb e,ih]
  ·rw[yy h]
   by_cases e:p.1=j
   ·rw[Yq (p:=p) e,Yq e,Option.map_some,yy (fun z=>h (e.trans z))]
   ·rw[Yb (p:=p) e,Yb e,ih]
theorem O4(k j:κ)(y:V):∀kvs:List (κ×V),bi kvs k=none→bi (kvs++[(k,y)]) j=if j=k then some y else bi kvs j
 | [],_=>by
  by_cases e:k=j
  ·rw[yC e.symm];exact Yq (p:=(k,y)) e
  ·rw[yy (fun z=>e z.symm)];exact Yb (p:=(k,y)) e
 | p::r,hn=>by
  rw[List.cons_append]
  have hk:¬p.1=k:=fun z=>by rw[Yq z]at hn;cases hn
  rw[Yb hk]at hn
  have ih:=O4 k j y r hn
  by_cases e:p.1=j
  ·rw[Yq e,Yq e,yy (fun z=>hk (e.trans z))]
  ·rw[Yb e,Yb e,ih]
theorem qo(kvs:List (κ×V))(k j:κ)(y:V):bi (aK kvs k y) j=if j=k then some y else bi kvs j:=by
 unfold aK
 by_cases a:(kvs.any fun kv=>decide (kv.1=k))=true
 ·rw[yC a,gA]
  rw[V2]at a
  by_cases e:j=k
  ·obtain⟨x,hx⟩:=Option.isSome_iff_exists.mp a
   rw[yC e,e,hx,Option.map_some,yC rfl]
  ·rw[yy e]
   cases bi kvs j with
   | none=>rfl
   | some x=>rw[Option.map_some,yy e]
 ·rw[yy a]
  refine O4 k j y kvs ?_
  rw[V2]at a
  cases q:bi kvs k with
  | none=>rfl
  | some x=>rw[q]at a;exact(a rfl).elim
theorem Ra(kvs:List (κ×V))(k:κ)(v:V):(aK kvs k v).length≤kvs.length+1:=by
 unfold aK
 split
 ·rw[pi];omega
 ·rw[yJ,zd,Aj];omega
theorem qV{kvs:List (κ×V)}{k:κ}(v:V)(h:bi kvs k=none):aK kvs k v=kvs++[(k,v)]:=by
 unfold aK
 rw[V2,h]
 exact yy (by decide)
theorem RelO.isSome_eq{o:Option V}{u:Option Value}(r:RelO o u):o.isSome=u.isSome:=by
 cases o with
 | none=>cases u with
  | none=>rfl
  | some _=>exact(show False from r).elim
 | some _=>cases u with
  | none=>exact(show False from r).elim
  | some _=>rfl
theorem RelO.getD{o:Option V}{u:Option Value}{d:V}{d':Value}(r:RelO o u)(rd:RelV d d'):RelV (o.getD d) (u.getD d'):=by
 cases o with
 | none=>cases u with
  | none=>exact rd
  | some _=>exact(show False from r).elim
 | some _=>cases u with
  | none=>exact(show False from r).elim
  | some _=>exact r
theorem KV.val{kvs:List (κ×V)}{vs:List (κ×Value)}(r:KV kvs vs)(k:κ):RelO (bi kvs k) (valueAt vs k):=by
 unfold KV at r
 induction r with
 | nil=>exact True.intro
 | @cons p q ps qs h t ih=>
  obtain⟨h1,h2⟩:=h
  by_cases e:p.1=k
  ·have e':q.1=k:=h1.symm.trans e
   have b:valueAt (q::qs) k=some q.2:=by simp[valueAt,List.find?_cons,e']
   rw[Yq e,b];exact h2
  ·have e':¬q.1=k:=fun z=>e (h1.trans z)
   have b:valueAt (q::qs) k=valueAt qs k:=by simp[valueAt,List.find?_cons,e']
   rw[Yb e,b];exact ih
theorem KV.any{kvs:List (κ×V)}{vs:List (κ×Value)}(r:KV kvs vs)(k:κ):(kvs.any fun kv=>decide (kv.1=k))=vs.any fun kv=>decide (kv.1=k):=by
 unfold KV at r
 induction r with
 | nil=>rfl
 | cons h t ih=>rw[List.any_cons,List.any_cons,ih,h.1]
theorem KV.repl{kvs:List (κ×V)}{vs:List (κ×Value)}(r:KV kvs vs)(k:κ){y:V}{u:Value}(ry:RelV y u):
  KV (kvs.map fun kv=>if kv.1=k then(kv.1,y)else kv) (vs.map fun kv=>if kv.1=k then(kv.1,u)else kv):=by
 unfold KV at r⊢
 induction r with
 | nil=>exact .nil
 | @cons p q ps qs h t ih=>
  rw[yE,yE]
  refine .cons ?_ ih
  obtain⟨h1,h2⟩:=h
  by_cases e:p.1=k
  ·rw[yC e,yC (h1.symm.trans e)];exact⟨h1,ry⟩
  ·rw[yy e,yy (fun z=>e (h1.trans z))];exact⟨h1,h2⟩
theorem KV.put{kvs:List (κ×V)}{vs:List (κ×Value)}(r:KV kvs vs)(k:κ){y:V}{u:Value}(ry:RelV y u):KV (aK kvs k y) (stored vs k u):=by
 unfold aK stored
 rw[r.any k]
 by_cases e:(vs.any fun kv=>decide (kv.1=k))=true
 ·rw[yC e,yC e];exact r.repl k ry
 ·rw[yy e,yy e];exact AS r ⟨rfl,ry⟩
theorem KV.length{kvs:List (κ×V)}{vs:List (κ×Value)}(r:KV kvs vs):kvs.length=vs.length:=yT r
end
theorem gK{P:Program}{w:World}{k:Key}{u:Value}(r:RelV (kV k) u):(aj P w).is k u=true:=by
 cases k with
 | inl i=>obtain⟨t,e⟩:=(show ∃t,u=Value.int i t from r);subst e;exact Ue P w i t
 | inr x=>obtain⟨t,e⟩:=(show ∃t,u=Value.str x t from r);subst e;exact iu P w x t
theorem Oj{P:Program}{w:World}:∀{ks:List Key}{us:List Value},Vals (ks.map kV) us→ItemsAre (aj P w) ks us
 | [],_,r=>by rw[List.map_nil]at r;cases r;exact .nil
 | k::ks,_,r=>by
  rw[yE]at r
  cases r with
  | cons h t=>exact .cons (gK h) (Oj t)
abbrev KT(H:Hp):List (List Key×V)→List (List Key×Addr×Value)→Prop:=Paired fun p q=>p.1=q.1∧H q.2.1=some (.tup (p.1.map kV))∧RelV p.2 q.2.2
theorem KT.val{H:Hp}{kvs:List (List Key×V)}{xs:List (List Key×Addr×Value)}(r:KT H kvs xs)(k:List Key):RelO (bi kvs k) ((atKey xs k).map (·.2)):=by
 induction r with
 | nil=>exact True.intro
 | @cons p q ps qs h t ih=>
  obtain⟨h1,_,h2⟩:=h
  by_cases e:p.1=k
  ·have e':q.1=k:=h1.symm.trans e
   have b:atKey (q::qs) k=some q.2:=by simp[atKey,List.find?_cons,e']
   rw[Yq e,b];exact h2
  ·have e':¬q.1=k:=fun z=>e (h1.trans z)
   have b:atKey (q::qs) k=atKey qs k:=by simp[atKey,List.find?_cons,e']
   rw[Yb e,b];exact ih
theorem KT.repl{H:Hp}{kvs:List (List Key×V)}{xs:List (List Key×Addr×Value)}(r:KT H kvs xs)(k:List Key){y:V}{u:Value}(ry:RelV y u):
  KT H (kvs.map fun kv=>if kv.1=k then(kv.1,y)else kv) (xs.map (putAt k u)):=by
 induction r with
 | nil=>exact .nil
 | @cons p q ps qs h t ih=>
  rw[yE,yE]
  refine .cons ?_ ih
  obtain⟨h1,h2,h3⟩:=h
  unfold putAt
  by_cases e:p.1=k
  ·rw[yC e,yC (h1.symm.trans e)];exact⟨h1,h2,ry⟩
  ·rw[yy e,yy (fun z=>e (h1.trans z))];exact⟨h1,h2,h3⟩
theorem KT.put{H:Hp}{kvs:List (List Key×V)}{xs:List (List Key×Addr×Value)}(r:KT H kvs xs)(k:List Key){b:Addr}{y:V}{u:Value}(hb:H b=some (.tup (k.map kV)))(ry:RelV y u):
  KT H (aK kvs k y) (storedH xs k b u):=by
 have e:(kvs.any fun kv=>decide (kv.1=k))=(atKey xs k).isSome:=by
  rw[V2,(r.val k).isSome_eq,Option.isSome_map]
 unfold aK storedH
 rw[e]
 by_cases q:(atKey xs k).isSome=true
 ·rw[yC q,yC q];exact r.repl k ry
 ·rw[yy q,yy q];exact AS r ⟨rfl,hb,ry⟩
theorem KT.keeps{H H':Hp}{kvs:List (List Key×V)}{xs:List (List Key×Addr×Value)}(r:KT H kvs xs)(ht:∀b ys,H b=some (.tup ys)→H' b=some (.tup ys)):KT H' kvs xs:=
 Paired.mapP r fun _ _ z=>⟨z.1,ht _ _ z.2.1,z.2.2⟩
section
variable{P:Program}{w:World}{H:Hp}{h:Heap}{a:Addr}
theorem pP{u:HO}(ok:HOk P w H h)(e:Rd H a u):ObjOk P w H h a u:=e.ok ok
theorem Os{kvs:List (Key×V)}(ok:HOk P w H h)(e:Rd H a (.dK kvs)):kvs.length≤sizeLine∧(a == sysModules)=false∧∃vs,KV kvs vs∧h.DictOf (aj P w) a vs:=
 show ObjOk P w H h a (.dK kvs)from pP ok e
theorem wM{kvs:List (Key×V)}(ok:HOk P w H h)(e:H a=some (.dK kvs)):kvs.length≤sizeLine∧(a == sysModules)=false∧∃vs,KV kvs vs∧h.DictOf (aj P w) a vs:=Os ok (.inl e)
theorem Tp{ks:List Key}(ok:HOk P w H h)(e:H a=some (.tup (ks.map kV))):(tupleKind (aj P w)).is h ks a:=by
 obtain⟨_,its,r,o,h1,h2,n,h3⟩:=(show ObjOk P w H h a (.tup (ks.map kV))from ok a _ e)
 exact⟨o,its.toArray,n,h1,h2.1,h3,by simpa using Oj r⟩
theorem Op{kvs:List (List Key×V)}(ok:HOk P w H h)(e:Rd H a (.dT kvs)):kvs.length≤sizeLine∧(a == sysModules)=false∧
  ∃xs,KT H kvs xs∧h.DictOfH (tupleKind (aj P w)) a xs:=by
 obtain⟨z,y,xs,r,o,es,ep,h1,h2,h3,h4,h5⟩:=(show ObjOk P w H h a (.dT kvs)from pP ok e)
 refine⟨z,y,xs,r,o,es,ep,h1,h2,h3,h4,fun x hx=>?_,h5⟩
 have all:∀{l:List (List Key×V)}{m:List (List Key×Addr×Value)},KT H l m→∀x∈m,(tupleKind (aj P w)).is h x.1 x.2.1:=by
  intro l m q
  induction q with
  | nil=>intro x hx;exact nomatch hx
  | @cons p q ps qs hq t ih=>
   intro x hx
   rcases yU.mp hx with e | hx
   ·subst e
    exact Tp ok (by rw[←hq.1];exact hq.2.1)
   ·exact ih x hx
 exact all r x hx
theorem kW{kvs:List (List Key×V)}(ok:HOk P w H h)(e:H a=some (.dT kvs)):kvs.length≤sizeLine∧(a == sysModules)=false∧
  ∃xs,KT H kvs xs∧h.DictOfH (tupleKind (aj P w)) a xs:=Op ok (.inl e)
end
def DGet(H:Hp)(a:Addr)(y:V)(r:Option V):Prop:=
 (∃kvs k,Rd H a (.dK kvs)∧y=kV k∧r=bi kvs k)∨∃kvs k b,Rd H a (.dT kvs)∧y=.ref b∧H b=some (.tup (k.map kV))∧r=bi kvs k
def DPut(H:Hp)(a:Addr)(y v:V)(H':Hp):Prop:=
 (∃kvs k,H a=some (.dK kvs)∧y=kV k∧kvs.length<sizeLine∧H'=upd H a (.dK (aK kvs k v)))∨
 ∃kvs k b,H a=some (.dT kvs)∧y=.ref b∧H b=some (.tup (k.map kV))∧kvs.length<sizeLine∧H'=upd H a (.dT (aK kvs k v))
theorem DGet.t{H:Hp}{a b:Addr}{kvs:List (List Key×V)}{k:List Key}(e:H a=some (.dT kvs))(eb:H b=some (.tup (k.map kV))):DGet H a (.ref b) (bi kvs k):=.inr ⟨kvs,k,b,.inl e,rfl,eb,rfl⟩
theorem DPut.t{H:Hp}{a b:Addr}{kvs:List (List Key×V)}{k:List Key}{v:V}(e:H a=some (.dT kvs))(eb:H b=some (.tup (k.map kV)))(hl:kvs.length<sizeLine):
  DPut H a (.ref b) v (upd H a (.dT (aK kvs k v))):=.inr ⟨kvs,k,b,e,rfl,eb,hl,rfl⟩
section
variable{X:Cx}{AU:List (Addr×Obj)}{σ:St}{H:Hp}{s:Shared}{a:Addr}{y v:V}{u r:Value}{o:Option V}{A:Around}{E:Value→Shared→Prop}
theorem Inv.big(I:Inv X AU σ H s):sysModules<s.heap.objs.size:=by
 have h:mainGlobals<s.heap.objs.size:=(I.mod.glob.keeps I.bk).lt
 exact AO (by decide) h
theorem mZ{Q:Value→Shared→Prop}(hu:A.units+1<cLine)(I:Inv X AU σ H s)(g:DGet H a y (some v))(ry:RelV y u)(h:∀w' s',Inv X AU σ H s'→RelV v w'→Q w' s'):
  wpAny (model X.prog X.w) A (getItem (.ref a) u) Q E s:=by
 rcases g with⟨kvs,k,e,ey,l⟩|⟨kvs,k,b,e,ey,eb,l⟩
 ·subst ey
  obtain⟨z,hd,vs,rel,dd⟩:=Os I.hok e
  obtain⟨w',hw,rw'⟩:=RelO.some_of (v:=v) (o:=valueAt vs k) (by rw[l];exact rel.val k)
  exact wpAny_getItem_of (gK ry) dd.mapOf hw (h w' _ (I.tok _) rw')
 ·subst ey
  cases (show u=Value.ref b from ry)
  obtain⟨z,hd,xs,rel,dd⟩:=Op I.hok e
  obtain⟨w',hw,rw'⟩:=RelO.some_of (v:=v) (o:=(atKey xs k).map (·.2)) (by rw[l];exact rel.val k)
  obtain⟨p,hp,hp2⟩:=zO.mp hw
  refine wpAny_getItem_heap (AI hu) (Tp I.hok eb) dd hp ?_
  rw[hp2]
  exact h w' _ (I.tok _) rw'
theorem d_in{Q:Value→Shared→Prop}(hu:A.units+1<cLine)(I:Inv X AU σ H s)(g:DGet H a y o)(ry:RelV y u)(h:∀s',Inv X AU σ H s'→Q (.bool o.isSome) s'):
  wpAny (model X.prog X.w) A (compareOp .In u (.ref a)) Q E s:=by
 rcases g with⟨kvs,k,e,ey,l⟩|⟨kvs,k,b,e,ey,eb,l⟩
 ·subst ey
  obtain⟨z,hd,vs,rel,dd⟩:=Os I.hok e
  refine wpAny_in_of (gK ry) hd dd.mapOf ?_
  rw[←(rel.val k).isSome_eq,←l]
  exact h _ (I.tok _)
 ·subst ey
  cases (show u=Value.ref b from ry)
  obtain⟨z,hd,xs,rel,dd⟩:=Op I.hok e
  refine wpAny_in_heap (AI hu) (Tp I.hok eb) hd dd ?_
  have q:=(rel.val k).isSome_eq
  rw[Option.isSome_map]at q
  rw[←q,←l]
  exact h _ (I.tok _)
theorem lV{h':Heap}{t':Nat}{ob:HO}(I:Inv X AU σ H s)(mu:Mut (H a))(hs:Heap.SameBut a s.heap h')(he:∃q,h'.get? a=some q)(new:ObjOk X.prog X.w (upd H a ob) h' a ob):
  Inv X AU σ (upd H a ob) {s with heap:=h',toks:=t'}:=
 I.write (x:=a) (e:=a) mu (.inl rfl) (fun b q hb z=>(hs.2 b hb).trans z) he new
theorem vj{P:Program}{w:World}{H':Hp}{h':Heap}{kvs:List (Key×V)}{vs:List (Key×Value)}(z:kvs.length≤sizeLine)(hd:(a == sysModules)=false)(rel:KV kvs vs)(dd:h'.DictOf (aj P w) a vs):
  ObjOk P w H' h' a (.dK kvs):=⟨z,hd,vs,rel,dd⟩
theorem l8{H':Hp}{Q:Unit→Shared→Prop}(hu:A.units+1<cLine)(I:Inv X AU σ H s)(g:DPut H a y v H')(ry:RelV y u)(rv:RelV v r)(h:∀s',Inv X AU σ H' s'→Q () s'):
  wpAny (model X.prog X.w) A (setItem (.ref a) u r) Q E s:=by
 rcases g with⟨kvs,k,e,ey,l,eH⟩|⟨kvs,k,b,e,ey,eb,l,eH⟩
 ·subst ey eH
  obtain⟨z,hd,vs,rel,dd⟩:=wM I.hok e
  have hz:vs.length≤sizeLine:=by rw[←rel.length];exact z
  have hl:(aK kvs k v).length≤sizeLine:=by have:=Ra kvs k v;omega
  refine wpAny_setItem_pairs (hsz:=hz) (gK ry) dd fun h' dd' hs=>h _ ?_
  have he:∃q,h'.get? a=some q:=let ⟨q,_,_,hq,_⟩:=dd';⟨q,hq⟩
  exact lV I (by rw[e];exact True.intro) hs he (vj hl hd (rel.put k rv) dd')
 ·subst ey eH
  cases (show u=Value.ref b from ry)
  obtain⟨z,hd,xs,rel,dd⟩:=kW I.hok e
  have hz:xs.length≤sizeLine:=by rw[←yT rel];exact z
  have hl:(aK kvs k v).length≤sizeLine:=by have:=Ra kvs k v;omega
  refine wpAny_setItem_heap (hsz:=hz) (AI hu) (Tp I.hok eb) dd fun h' dd' hs=>h _ ?_
  obtain⟨q,es,ep,hq,h2,h3,h4,_,h5⟩:=dd'
  refine lV I (by rw[e];exact True.intro) hs ⟨q,hq⟩ ⟨hl,hd,_,(rel.put k eb rv).keeps fun c ys ec=>?_,q,es,ep,hq,h2,h3,h4,h5⟩
  rw[Za (Ta ec e (fun z=>nomatch z))]
  exact ec
end
section
variable{X:Cx}{AU:List (Addr×Obj)}{σ:St}{H:Hp}{s:Shared}{a:Addr}{kvs:List (Key×V)}{k:Key}{u:Value}{A:Around}{E:Value→Shared→Prop}
end
def xQ(i:Expr):Prop:=∀ov iv,subscripted i false ov iv=operate [ov,iv] (getItem ov iv)
theorem tK{prog:Program}{w:World}{A:Around}{E:Value→Shared→Prop}{s:Shared}{env:Env}{value slice:Expr}{pos:Pos}{T id:String}{Q:Value→Shared→Prop}(hl:typeLookup (.type T) "__getitem__"=pure (some (.builtin id)))(hs:xQ slice)(h:wpAny (model prog w) A (eval value env) (fun o s₁=>wpAny (model prog w) A (eval slice env) (fun i s₂=>s₂.TypeIs o T∧wpAny (model prog w) A (getItem o i) Q E s₂) E s₁) E s):
  wpAny (model prog w) A (eval (.Subscript value slice pos) env) Q E s:=by
 refine Subscript_ (z5 h (fun o s₁ h₁=>z5 h₁ (fun i s₂ h₂=>?_) fun _ _ x=>x) fun _ _ x=>x)
 obtain⟨hT,h₂⟩:=h₂
 unfold subscriptTail
 refine io ?_
 rw[getitemInPython_of_ne hT.not_modules]
 refine io (wpAny_specialOf hT hl ?_)
 have fin:wpAny (model prog w) A (subscripted slice false o i) (fun r s₃=>wpAny (model prog w) A (letTemporaryGo value o r >>= fun _=>pure r) Q E s₃) E s₂:=by
  rw[hs o i]
  exact wpAny_operating (z5 h₂ (fun r s₃ h₃=>io (wpAny_letTemporaryGo (yB h₃))) fun _ _ x=>x)
 first
  | exact yB (io fin)
  | exact io (yB (io fin))
  | exact io fin
theorem hV{X:Cx}{AU:List (Addr×Obj)}{σ:St}{H:Hp}{s:Shared}{a:Addr}{y:V}{o:Option V}(I:Inv X AU σ H s)(g:DGet H a y o):s.TypeIs (.ref a) "dict":=by
 rcases g with⟨kvs,k,e,_,_⟩|⟨kvs,k,b,e,_,_,_⟩
 ·obtain⟨_,_,vs,_,dd⟩:=Os I.hok e
  exact dd.typeIs
 ·obtain⟨_,_,xs,_,dd⟩:=Op I.hok e
  exact dd.typeIs
def xu(td ty:TE):TE:=fun σ H Q=>td σ H fun x H1=>ty σ H1 fun y H2=>∃a v,x=.ref a∧DGet H2 a y (some v)∧Q v H2
def wO(td ty tv:TE):TS:=fun D σ H=>tv σ H fun v H1=>td σ H1 fun x H2=>ty σ H2 fun y H3=>∃a H4,x=.ref a∧DPut H3 a y v H4∧D.nx σ H4
section
variable{X:Cx}{o i e value:Expr}{pos pos' tpos:Pos}{td ty tv:TE}
theorem Um(hu:X.A.units+1<cLine)(ho:PE X o td)(hi:PE X i ty)(hs:xQ i):PE X (.Subscript o i pos) (xu td ty):=by
 intro AU s σ H Q I h
 refine tK PySem.F.slot_dict_getitem.lookup hs (thn (ho AU s σ H _ I h) fun u s1 ⟨x,H1,I1,rx,q1⟩=>thn (hi AU s1 σ H1 _ I1 q1) fun iv s2 AV=>?_)
 obtain⟨y,H2,I2,ry,a,v,ex,g,q2⟩:=AV
 subst ex
 obtain rfl:u=Value.ref a:=rx
 exact⟨hV I2 g,mZ hu I2 g ry fun w' s3 I3 rw'=>⟨v,H2,I3,rw',q2⟩⟩
theorem Uj(hu:X.A.units+1<cLine)(ho:PE X o td)(hi:PE X i ty)(hv:PE X value tv)(hs:swapsWith value (some (.Subscript o i pos')) pos.line X.env=pure false):
  PS X (.Assign [.Subscript o i pos'] value pos) (wO td ty tv):=by
 intro AU s σ H D I h
 refine wpAny_Assign_Subscript (thn (hv AU s σ H _ I h) fun r s1 ⟨v,H1,I1,rv,q1⟩=>thn (ho AU s1 σ H1 _ I1 q1) fun u s2 ⟨x,H2,I2,rx,q2⟩=>thn (hi AU s2 σ H2 _ I2 q2) fun iv s3 AV=>?_) hs
 obtain⟨y,H3,I3,ry,a,H4,ex,g,q3⟩:=AV
 subst ex
 obtain rfl:u=Value.ref a:=rx
 exact l8 hu I3 g ry rv fun s4 I4=>⟨σ,H4,I4,q3⟩
end
section
variable{X:Cx}{pos:Pos}
end
structure M2(X:Cx)(o:Expr)(m:Str)(apos:Pos)(e f:Expr)(cpos:Pos):Prop where
 base:attributeBase o m X.env (eval o X.env)=eval o X.env
 few:((backTo cpos (starEach [e,f] X.env)).all (fun x=>!x.1) && (backToKw cpos (keywordEach [] X.env)).all (fun x=>x.1.isSome)
  && decide (([e,f]:List Expr).length+([]:List Keyword).length+(if ([]:List Keyword).isEmpty then 0 else 1)<30))=true
 line:(apos.endLine == cpos.line)=true
 trees:backTo cpos (starEach [e,f] X.env)=[(false,eval e X.env),(false,eval f X.env)]
def IsD(H:Hp)(a:Addr):Prop:=(∃kvs,Rd H a (.dK kvs))∨∃kvs,Rd H a (.dT kvs)
theorem vw{X:Cx}{AU:List (Addr×Obj)}{σ:St}{H:Hp}{s:Shared}{a:Addr}(I:Inv X AU σ H s)(d:IsD H a):
  s.TypeIs (.ref a) "dict"∧(∀b,Value.ref a=.ref b→∃ob,s.heap.get? b=some ob∧ob.dict=none)∧(a == sysModules)=false:=by
 rcases d with⟨kvs,e⟩|⟨kvs,e⟩
 ·obtain⟨_,hd,vs,_,dd⟩:=Os I.hok e
  refine⟨dd.typeIs,fun b q=>?_,hd⟩
  cases q
  obtain⟨ob,_,_,h1,h2,_⟩:=dd
  exact⟨ob,h1,h2.2.1⟩
 ·obtain⟨_,hd,xs,_,dd⟩:=Op I.hok e
  refine⟨dd.typeIs,fun b q=>?_,hd⟩
  cases q
  obtain⟨ob,_,_,h1,h2,_⟩:=dd
  exact⟨ob,h1,h2.2.1⟩
section
variable{X:Cx}{AU:List (Addr×Obj)}{σ:St}{H:Hp}{s:Shared}{a:Addr}{y d:V}{u r:Value}{o:Option V}{A:Around}{E:Value→Shared→Prop}
theorem vt{Q:Value→Shared→Prop}(hu:A.units+1<cLine)(I:Inv X AU σ H s)(g:DGet H a y o)(ry:RelV y u)(rd:RelV d r)(h:∀w' s',Inv X AU σ H s'→RelV (o.getD d) w'→Q w' s'):
  wpAny (model X.prog X.w) A (call (.builtin "dict.get") [.ref a,u,r]) Q E s:=by
 rcases g with⟨kvs,k,e,ey,l⟩|⟨kvs,k,b,e,ey,eb,l⟩
 ·subst ey
  obtain⟨z,hd,vs,rel,dd⟩:=Os I.hok e
  refine call_meetsIn PySem.F.slot_dict_get dd.typeIs PySem.F.entry_dict_get (PySem.F.args_dict_get_3 _ _ _) (meets_dict_get_default (aj X.prog X.w) a (gK ry) hd r) ⟨_,dd.mapOf,h _ _ (I.tok _) ?_⟩
  rw[l]
  exact(rel.val k).getD rd
 ·subst ey
  cases (show u=Value.ref b from ry)
  obtain⟨z,hd,xs,rel,dd⟩:=Op I.hok e
  refine call_meetsIn PySem.F.slot_dict_get dd.typeIs PySem.F.entry_dict_get (PySem.F.args_dict_get_3 _ _ _) (meetsH_dict_get_default (tupleKind (aj X.prog X.w)) a b hd r) ⟨AI hu,k,xs,Tp I.hok eb,dd,h _ _ (I.tok _) ?_⟩
  rw[l]
  exact(rel.val k).getD rd
end
def u6(td ty tx:TE):TE:=fun σ H Q=>td σ H fun x H1=>∃a,x=.ref a∧IsD H1 a∧ty σ H1 fun y H2=>tx σ H2 fun z H3=>∃o,DGet H3 a y o∧Q (o.getD z) H3
section
variable{X:Cx}{o e f:Expr}{apos cpos:Pos}{td ty tx:TE}
theorem Xr(hu:X.A.units+1<cLine)(ho:PE X o td)(he:PE X e ty)(hf:PE X f tx)(m:M2 X o "get" apos e f cpos):PE X (.Call (.Attribute o "get" apos) [e,f] [] cpos) (u6 td ty tx):=by
 intro AU s σ H Q I h
 refine wpAny_Call_method m.base m.few m.line At PySem.F.slot_dict_get PySem.F.type_dict_get (thn (ho AU s σ H _ I h) fun u s1 AV=>?_)
 obtain⟨x,H1,I1,rx,a,ex,d,q1⟩:=AV
 subst ex
 obtain rfl:u=Value.ref a:=rx
 obtain⟨t1,t2,_⟩:=vw I1 d
 refine⟨t1,t2,?_⟩
 rw[m.trees]
 refine Calls.callWith_builtin rfl (Calls.evalArgs_plain (Calls.spliced_cons (thn (he AU s1 σ H1 _ I1 q1) fun iv s2 ⟨y,H2,I2,ry,q2⟩=>
  Calls.spliced_cons (thn (hf AU s2 σ H2 _ I2 q2) fun fv s3 ⟨z,H3,I3,rz,ov,g,q3⟩=>Calls.spliced_nil ?_))))
 exact vt hu I3 g ry rz fun w' s4 I4 rw'=>⟨_,H3,I4,rw',q3⟩
end
section
variable{X:Cx}{AU:List (Addr×Obj)}{σ:St}{H:Hp}{s:Shared}{a:Addr}{kvs:List (Key×V)}{A:Around}{E:Value→Shared→Prop}
end
section
variable{X:Cx}{AU:List (Addr×Obj)}{σ:St}{H:Hp}{s:Shared}{a:Addr}{y:V}{u:Value}{A:Around}{E:Value→Shared→Prop}
end
section
variable{X:Cx}
end
section
variable{κ:Type}[DecidableEq κ]
end
section
variable{X:Cx}{tg:Expr}
theorem nj{bs:List Bool}:(List.range bs.length).all (fun i=>bs.getD i true)=bs.all id:=by
 rw[zZ,zQ,zQ]
 constructor
 ·intro h b hb
  obtain⟨i,hi,rfl⟩:=List.mem_iff_getElem.mp hb
  have q:=h i (List.mem_range.mpr hi)
  rw[List.getD_eq_getElem?_getD,zK hi]at q
  exact q
 ·intro h i hi
  have hi:=List.mem_range.mp hi
  have q:=h bs[i] (List.getElem_mem hi)
  rw[List.getD_eq_getElem?_getD,zK hi]
  exact q
theorem qO(hc:X.calm=true):bH X (.builtin "all") (fun xs H Q=>∃(p:Addr)(bs:List Bool),xs=[.ref p]∧SqL X.K H p (bs.map V.bl)∧Q (.bl (bs.all id)) H):=by
 intro AU s σ H xs us Q I r h
 obtain⟨p,bs,rfl,hq,q⟩:=h
 obtain⟨u,rfl,ru⟩:=T8 r
 cases ru
 obtain⟨its,rv,pl,hz⟩:=I.list hq
 have hl:=rv.length
 rw[pi]at hl
 have A1:p<s.heap.objs.size:=by
  obtain⟨o,n,e,_⟩:=pl
  exact yM e
 have hh:X.A.in1.handled=none:=by simpa using I.ok.hd hc
 refine call_all_walk (wpAny_pyIter_list pl.isList ⟨s.heap.objs.size,_,_,_,_,_,fun i=>bs.getD i true,rfl,Walks.list hh _ p (yW A1) its.toArray,⟨⟨_,yX _ rfl,rfl,rfl⟩,pl.isList.push _⟩,fun i v s' Q' E' hv hQ=>?_,fun h' tk kp=>?_⟩)
 ·have hv':its[i]?=some v:=by simpa using hv
  have hi:i<bs.length:=by rw[hl];exact(yK.mp hv').1
  obtain⟨u,hu,ru⟩:=rv.get (i:=i) (x:=.bl bs[i]) (by rw[y9,zK hi];rfl)
  rw[hv']at hu
  cases hu
  cases (show v=Value.bool bs[i]from ru)
  have e:bs.getD i true=bs[i]:=by rw[List.getD_eq_getElem?_getD,zK hi];rfl
  simp only[e]at hQ
  exact Al hQ
 ·have e:(List.range its.toArray.size).all (fun i=>bs.getD i true)=bs.all id:=by
   rw[zo,←hl]
   exact nj
  simp only[e]
  refine⟨.bl (bs.all id),H,I.kept fun b o eb=>kp b o ?_ (yA _ eb),rfl,q⟩
  intro hb
  rw[yN.mp hb]at eb
  exact absurd (yM eb) (AJ _)
end
section
variable{X:Cx}
end
section
variable{prog:Program}{w:World}{A:Around}{E:Value→Shared→Prop}{s:Shared}
end
section
variable{X:Cx}{o e:Expr}{to te:TE}{lo hi:Option Expr}{tl th:TO}{pos p2:Pos}
end
section
open PySem.AutoSeq1 (wpAny_loadPart')
open PySem.MeetsSeq PySem.MeetsSeq2 PySem.MeetsSeq3
end
section
variable{X:Cx}
end
theorem Zj{H H1:Hp}{p:Addr}{o:HO}(h:upd H p o=H1)(n:H p=none):Same H H1:=h ▸ Z6 n o
theorem Zx{H H1:Hp}{p:Addr}{o:HO}(h:upd H p o=H1):H1 p=some o:=h ▸ Z5
inductive Kd(H:Hp):V→String→Prop
 | non:Kd H .non "NoneType"
 | bl (b:Bool):Kd H (.bl b) "bool"
 | int (i:Int):Kd H (.int i) "int"
 | str (z:Str):Kd H (.str z) "str"
 | lst {a:Addr} {xs:List V} (e:H a=some (.lst xs)):Kd H (.ref a) "list"
 | tup {a:Addr} {xs:List V} (e:H a=some (.tup xs)):Kd H (.ref a) "tuple"
 | dK {a:Addr} {kvs:List (Key×V)} (e:H a=some (.dK kvs)):Kd H (.ref a) "dict"
theorem Kd.ty{K:W.Frag}{H:Hp}{x:V}{T:String}(h:Kd H x T):TyOf K H x (.type T):=by
 cases h with
 | non=>exact .non
 | bl b=>exact .bl b
 | int i=>exact .int i
 | str z=>exact .str z
 | lst e=>exact .lst e
 | tup e=>exact .tup e
 | dK e=>exact .dK e
def kds:List String:=["NoneType","bool","int","str","list","tuple","dict"]
def kus:List String:=["int","bool","str","list","tuple"]
def oR(T U:String):Bool:=(T == U) || (T == "bool" && U == "int")
theorem rS:∀T∈kds,∀U∈kus,yk T U=some (oR T U):=by decide +kernel
theorem Kd.mem{H:Hp}{x:V}{T:String}(h:Kd H x T):T∈kds:=by cases h <;> decide
theorem Kd.kit{K:W.Frag}{H:Hp}{x:V}{T U:String}{b:Bool}(h:Kd H x T)(hU:U∈kus)(e:oR T U=b):W.kitOne K (.type T) (.type U)=some b:=by
 subst e
 exact qS (rS T h.mem U hU)
def whV:V→Bool
 | .int _=>true
 | _=>false
def wF:V→Int→Bool
 | .int i,l=>decide (l≤i)
 | _,_=>false
theorem Kd.wh{H:Hp}{x:V}{T:String}(h:Kd H x T):(oR T "int" && !oR T "bool")=whV x:=by
 cases h <;> (first | rfl | (simp[oR,whV]))
theorem qt{X:Cx}{x:Str}{v:V}{pos:Pos}(hg:Gl X x)(h:∃u,X.mg x=some u∧RelV v u)(hd:(x == ("__debug__":Str))=false:=by decide):PE X (.Name x pos) (tC v):=by
 obtain⟨u,hm,r⟩:=h
 exact sW hg hm r hd
theorem oK{H:Hp}{p:Addr}{xs:List V}{d:Int}(e:H p=some (.lst xs))(h0:0≤d)(h1:d<xs.length):∃v,atI xs d=some v∧v∈xs:=qU h0 h1
theorem Pe{K:W.Frag}{H:Hp}{a c:Addr}{xs:List V}(h:av a H c=some (.lst xs)):SqL K H c xs:=SqL.of (Zc h).2
section
variable{X:Cx}{x:Str}{p pos:Pos}{e:Expr}{es:List Expr}{kws:List Keyword}{ks:List Str}{t tk:TA}{id:String}{r:List V→List V→Hp→VK→Prop}
end
section
variable{prog:Program}{w:World}{A:Around}{E:Value→Shared→Prop}{s:Shared}{T:String}{r d:Addr}{n:Nat}{P:Nat→Value→Prop}{OK:Heap→Prop}
def uW(s:Shared)(P:Nat→Value→Prop)(n:Nat)(q:Result)(s':Shared):Prop:=
 ∃(g:Heap)(tk c:Nat)(xs:Array Value),q=.ok (.ret (.ref s.heap.objs.size))∧s'={s with heap:=g,toks:=tk}∧(∀b o,s.heap.get? b=some o→g.get? b=some o)∧g.get? s.heap.objs.size=some {cls:=.type "list",dict:=none,data:=.seq xs c,slots:=#[]}∧ItemsOf P xs n
theorem gJ{R:List Value→Shared→Prop}(K:W.KdlSrc prog w T r d n P OK)(hh:A.handled=none)(hok:OK s.heap)(hn:n≤sizeLine)(h:∀(g:Heap) (tk:Nat) (xs:Array Value),(∀b o,s.heap.get? b=some o→g.get? b=some o)→s.heap.objs.size<g.objs.size→ItemsOf P xs n→R xs.toList {s with heap:=g,toks:=tk}):wpAny (model prog w) A (collect (.ref r)) R E s:=by
 obtain⟨lt1,lt2⟩:=K.there _ hok
 unfold collect
 refine io (wpAny_runValue (Aq entry_proto_collect' ?_));rw[Ag PySem.F.plain_proto_collect _]
 refine io (m:=newList []) (Am (yB ⟨plainId_quiet PySem.F.plain_list_iadd _,Aq entry_list_iadd' ?_⟩));rw[Ag PySem.F.plain_list_iadd _]
 have own:(s.heap.push {cls:=.type "list",data:=.seq ([]:List Value).toArray}).get? s.heap.objs.size=some {cls:=.type "list",data:=.seq #[]}:=yX _ rfl
 have run:=W.kdl_extend (A:=A) (s:={s with heap:=s.heap.push {cls:=.type "list",data:=.seq ([]:List Value).toArray}}) (R:=uW s P n) K hh (K.keep _ _ hok fun _ _ _ e=>yA _ e) s.heap.objs.size (zY lt1) (zY lt2) (.ref s.heap.objs.size) 0 own
  (fun g tk xs c hk hS hx=>⟨g,tk,c,xs,rfl,rfl,fun b o e=>hk b o (yW (yM e)) (yA _ e),hS,hx⟩) hn
 refine z5 run (fun fin s' y=>?_) (fun _ _ y=>by obtain⟨_,_,_,_,e,_⟩:=y;cases e)
 cases fin with
 | done f=>
  obtain⟨g,tk,c,xs,e,rfl,hk,hS,hx⟩:=y
  cases e
  exact io (m:=load s.heap.objs.size) (wpAny_load hS (yB (h g tk xs hk (yM hS) hx)))
 | again c1=>
  refine⟨y.1,codeAny_mono y.2 fun q s2 z=>?_⟩
  obtain⟨g,tk,c,xs,rfl,rfl,hk,hS,hx⟩:=z
  exact io (m:=load s.heap.objs.size) (wpAny_load hS (yB (h g tk xs hk (yM hS) hx)))
end
def bK(a d:Addr):HO:=.ext fun h=>h.IsItemsView a d
section
variable{X:Cx}{AU:List (Addr×Obj)}{σ:St}{H:Hp}{s:Shared}
def over(H:Hp)(n:Nat)(L:Hp):Hp:=fun b=>if b<n then H b else L b
theorem P0{H L:Hp}{n:Nat}{b:Addr}(h:b<n):over H n L b=H b:=yC h
theorem iC{H L:Hp}{n:Nat}{b:Addr}(h:n≤b):over H n L b=L b:=yy (Nat.not_lt.mpr h)
theorem Inv.over{L:Hp}{g:Heap}{t':Nat}(I:Inv X AU σ H s)(k:∀b u,s.heap.get? b=some u→g.get? b=some u)(new:∀b o,s.heap.objs.size≤b→L b=some o→ObjOk X.prog X.w (over H s.heap.objs.size L) g b o):
  Inv X AU σ (L2.over H s.heap.objs.size L) {s with heap:=g,toks:=t'}∧Same H (L2.over H s.heap.objs.size L):=by
 have old:∀b o,H b=some o→L2.over H s.heap.objs.size L b=some o:=fun b o e=>by rw[P0 (I.hok b o e).lt];exact e
 have fre:∀b u,s.heap.get? b=some u→H b=none→L2.over H s.heap.objs.size L b=none:=fun b u e n=>by rw[P0 (yM e)];exact n
 refine⟨I.un ⟨fun b u e _ _ _=>k b u e,fun b u e _ _ _=>⟨u.slots,k b u e⟩,fun b u e n _=>fre b u e n,fun b u e _=>⟨u,k b u e⟩,fun b xs e=>old b _ e,fun b o u e=>old b _ e,fun b ps e=>⟨#[],by rw[old b _ e];simp⟩⟩ ?_,old⟩
 intro b o e
 by_cases hb:b<s.heap.objs.size
 ·rw[P0 hb]at e
  exact(I.hok b o e).stay (fun c u _ q=>k c u q) (fun c q=>old c _ q) fun c xs q=>old c _ q
 ·have hb:=Nat.not_lt.mp hb
  rw[iC hb]at e
  exact new b o hb e
theorem Sw:∀as:List Addr,Vals (as.map V.ref) (as.map Value.ref)
 | []=>.nil
 | _::as=>.cons rfl (Sw as)
end
section
variable{X:Cx}
end
section
variable{X:Cx}
end
theorem Pz:typeLookup (.type "tuple") "keys"=pure none:=am_miss_of_fast (by decide +kernel)
theorem Rc:entryFor table "dict.update.loop"=some Builtin.«dict.update.loop»:=entryFor_of_tree (by kernel_rfl)
theorem Ws:plainId "dict.update.loop"=true:=by decide +kernel
section
variable{prog:Program}{w:World}{A:Around}{E:Value→Shared→Prop}{s:Shared}
theorem xC{a:Addr}{xs:Array Value}{k:Nat}{sl:Array (Option Value)}{Q:Option Value→Shared→Prop}(hx:s.heap.get? a=some {cls:=.type "tuple",dict:=none,data:=.seq xs k,slots:=sl})(hA:A.handled=none)(h:∀g tk,(∀b o,s.heap.get? b=some o→g.get? b=some o)→Q none {s with heap:=g,toks:=tk}):wpAny (model prog w) A (getAttr? (.ref a) "keys") Q E s:=by
 obtain⟨hp,g,d,tk,os⟩:=s
 have hT:∀tk',(⟨hp,g,d,tk',os⟩:Shared).TypeIs (.ref a) "tuple":=fun _=>⟨_,hx,rfl⟩
 have f1:=sub_AttributeError
 have f3:=F.slot_tuple_getattribute.lookup
 have f4:=F.slot_tuple_getattribute.bind (.ref a)
 have f5:=am_tuple_getattr_none
 unfold getAttr? getAttrBy? getAttrBy
 repeat (any_goals (first | assumption | exact hT _ | ((with_reducible show wpAny _ _ (call (Value.builtin "tuple.__getattribute__") _ _) _ _ _);refine call_meets F.slot_tuple_getattribute (hT _) am_entry_tuple_getattribute (F.args_tuple_getattribute_2 _ _) (meets_getattribute_miss_tuple a xs k sl "keys" _ Pz (by decide +kernel) (by decide +kernel)) ⟨hx,by simpa using hA,fun h' tk' e hx'=>?_⟩) | wp_step))
 obtain⟨t',u',he⟩:=hx'.there
 show wpAny _ _ (getattributeRaised _ _ _ _ _ _ _) _ _ _
 unfold getattributeRaised
 repeat (any_goals (first | assumption | wp_step))
 exact h _ _ hx'.keeps
end
section
variable{X:Cx}{AU:List (Addr×Obj)}{σ:St}{H:Hp}{s:Shared}
end
theorem U8{l m:List Int}(p:l.Perm m):l.sum=m.sum:=by
 induction p with
 | nil=>rfl
 | cons x _ ih=>rw[yZ,yZ,ih]
 | swap x y l=>simp only[List.sum_cons];omega
 | trans _ _ a b=>exact a.trans b
section
variable{X:Cx}
end
end L2
namespace L2
open PySem PySem.Spec PyProof.Rows
def Cx.ren(X:Cx)(N':List Str):Cx:={X with N:=N'}
theorem Cx.Ok.ren{X:Cx}{N':List Str}(o:X.Ok):(X.ren N').Ok:=⟨o.mod,o.kind,o.glob,o.blt,o.above,o.inj,o.has,o.cab,o.hd,o.frames,o.stk,o.exf,o.bs,o.bsz,o.noex,o.exfs,o.funs,o.frf⟩
theorem Cx.Ok.unren{X:Cx}{N':List Str}(o:(X.ren N').Ok):X.Ok:=⟨o.mod,o.kind,o.glob,o.blt,o.above,o.inj,o.has,o.cab,o.hd,o.frames,o.stk,o.exf,o.bs,o.bsz,o.noex,o.exfs,o.funs,o.frf⟩
def Hid:List Str→List Str→St→Prop
 | [],[],[]=>True
 | a::N,b::N',o::σ=>(a=b∨o=none)∧Hid N N' σ
 | _,_,_=>False
theorem Hid.at:∀{N N':List Str}{σ:St},Hid N N' σ→∀i:Nat,N[i]?=N'[i]?∨σ[i]?=some none
 | [],[],[],_,i=>.inl rfl
 | a::N,b::N',o::σ,h,0=>by
  rcases h.1 with q | q
  ·exact .inl (by rw[q];rfl)
  ·exact .inr (by rw[q];rfl)
 | a::N,b::N',o::σ,h,i+1=>by
  simpa using Hid.at (N:=N) (N':=N') (σ:=σ) h.2 i
section
variable{X:Cx}{N':List Str}{AU:List (Addr×Obj)}{σ:St}{H:Hp}{s:Shared}
theorem Inv.ren(I:Inv X AU σ H s)(hl:N'.length=X.N.length)(h:Hid X.N N' σ):Inv (X.ren N') AU σ H s:=by
 refine⟨I.ok.ren,I.os,I.bare,I.base,?_,I.cell,I.free,I.freeC,I.pin,I.hok,I.len.trans hl.symm⟩
 obtain⟨m,hn,hm⟩:=I.loc
 refine⟨m,hn,fun i x v e1 e2 e3=>hm i x v ?_ e2 e3⟩
 rcases h.at i with q | q
 ·exact q.trans e1
 ·rw[e2]at q;cases q
theorem Inv.unren(I:Inv (X.ren N') AU σ H s)(hl:N'.length=X.N.length)(h:Hid X.N N' σ):Inv X AU σ H s:=by
 refine⟨I.ok.unren,I.os,I.bare,I.base,?_,I.cell,I.free,I.freeC,I.pin,I.hok,I.len.trans hl⟩
 obtain⟨m,hn,hm⟩:=I.loc
 refine⟨m,hn,fun i x v e1 e2 e3=>hm i x v ?_ e2 e3⟩
 rcases h.at i with q | q
 ·exact q.symm.trans e1
 ·rw[e2]at q;cases q
def tRen(N N':List Str)(t:TE):TE:=fun σ H Q=>Hid N N' σ∧t σ H Q
theorem v6{e:Expr}{t:TE}(N':List Str)(h:PE (X.ren N') e t)(hl:N'.length=X.N.length:=by rfl):PE X e (tRen X.N N' t):=by
 intro AU s σ H Q I q
 exact thn (h AU s σ H Q (I.ren hl q.1) q.2) fun u s1 ⟨x,H1,I1,r1,q1⟩=>⟨x,H1,I1.unren hl q.1,r1,q1⟩
theorem Inv.forget(I:Inv X AU σ H s)(i:Nat):Inv X AU (σ.set i none) H s:=by
 refine⟨I.ok,I.os,I.bare,I.base,?_,I.cell,I.free,I.freeC,I.pin,I.hok,by rw[List.length_set];exact I.len⟩
 obtain⟨m,hn,hm⟩:=I.loc
 refine⟨m,hn,fun j x v e1 e2 e3=>hm j x v e1 ?_ e3⟩
 by_cases e:i=j
 ·subst e
  rw[List.getElem?_set_self']at e2
  cases q:σ[i]? with
  | none=>rw[q]at e2;cases e2
  | some o=>rw[q]at e2;cases e2
 ·rw[List.getElem?_set_ne e]at e2
  exact e2
def tI(i:Nat)(t:TS):TS:=fun D σ H=>t D (σ.set i none) H
theorem jE{ss:List Stmt}{t:TS}(i:Nat)(h:PSs X ss t):PSs X ss (tI i t):=by
 intro AU s σ H D I q
 exact h AU s _ H D (I.forget i) q
end
theorem We{t u:TS}{D:Ends}{σ:St}{H:Hp}(R:St→Hp→Prop)(main:∀nx:St→Hp→Prop,(∀σ' H',R σ' H'→nx σ' H')→t {D with nx:=nx} σ H)(fin:∀σ' H',R σ' H'→u D σ' H'):wP t u D σ H:=main _ fin
section
variable{M:Model}{A:Around}{E:Value→Shared→Prop}{s:Shared}{env:Env}{outer l:List Env}{L e:Addr}{base:Heap}{cls a0 fl:Value}{Q:Unit→Shared→Prop}
end
theorem kB{l:List Env}{env:Env}{b:Addr}(h:env∈l)(e:env.frame=some b):b∈frs l:=AF.mpr ⟨env,h,e⟩
section
variable{M:Model}{A:Around}{E:Value→Shared→Prop}{s:Shared}{env:Env}{outer:List Env}{L a T:Addr}{cls:Value}{Q:Unit→Shared→Prop}
end
section
variable{P:Program}{w:World}{K:W.Frag}{mg:Str→Option Value}{base:Heap}{N:List Str}{qual:Str}{scope:Scope}{f:Addr}{cd:Value}{A:Around}{outer:List Env}{s:Shared}{H:Hp}{E:XK}
end
section
variable{P:Program}{w:World}{K:W.Frag}{mg:Str→Option Value}{base:Heap}{N:List Str}{qual:Str}{scope:Scope}{f:Addr}{cd:Value}{A:Around}{outer:List Env}{s:Shared}{H:Hp}{E:XK}
variable{j k:Nat}{ps:List Str}{sp:Sp}{x:Str}{p pos:Pos}{e:Expr}{es:List Expr}{t:TA}
end
section
variable{prog:Program}{w:World}{A:Around}{E:Value→Shared→Prop}{h:Heap}{g:Array GenState}{d:Drawn}{t:Nat}{os:OsState}{a C:Addr}{o:Obj}{K:W.Frag}
end
section
variable{X:Cx}{AU:List (Addr×Obj)}{σ:St}{H:Hp}{s:Shared}
end
section
variable{X:Cx}{x c n:Str}{p pos cpos epos np hpos:Pos}{e:Expr}{es:List Expr}{ta:TA}{tb:TS}{b₀:Stmt}{suite:List Stmt}{j k i:Nat}{ps:List Str}{sp:Sp}{S:Addr}
end
end L2
namespace L2
open PySem PySem.Spec PyProof.Rows
theorem gI{K:W.Frag}{a:Addr}{xs:List V}{k:Nat}{g:TG}{tt:TT}{te:TE}{σ:St}{H:Hp}{Q:VK}(Pv:Nat→List V→Hp→Prop)(h0:Pv 0 [] H)(hl:∀i ys H,i≤xs.length→Pv i ys H→SqT K H a xs)(hs:∀i x ys H (C:List V→Hp→Prop),xs[i]?=some x→Pv i ys H→(∀ys' H',Pv (i+1) ys' H'→C ys' H')→ys.length<sizeLine∧g x (List.replicate k none++σ) H fun σ2 H2=>Wk σ2 (List.replicate k none++σ)∧tt σ2 H2 fun ok H3=>
   if ok=true then te σ2 H3 fun y H4=>C (ys++[y]) H4 else C ys H3)(hd:∀ys H,Pv xs.length ys H→ys.length≤sizeLine∧∀p,H p=none→Q (.ref p) (upd H p (.lst ys))):
  CompR (Itt K a) H k g tt te σ Q:=by
 refine⟨fun i m ys H=>m=xs.length - i∧i≤xs.length∧Pv i ys H,⟨xs.length,by simp,Nat.zero_le _,h0⟩,?_⟩
 rintro i m ys H ⟨rfl,hi,p⟩
 have q:=hl i ys H hi p
 by_cases A1:i<xs.length
 ·have r:=hs i xs[i] ys H (fun ys' H'=>∃m',m'<xs.length - i∧m'=xs.length - (i+1)∧i+1≤xs.length∧Pv (i+1) ys' H') (by simp[A1]) p fun ys' H' p'=>⟨_,by omega,rfl,A1,p'⟩
  refine .inr ⟨⟨xs,xs[i],q,by simp[A1]⟩,r.1,fun x H' y=>?_⟩
  obtain⟨e,y⟩:=y
  subst e
  have ex:xs[i]?=some x:=y xs q
  have ex2:xs[i]=x:=by simpa [A1] using ex
  rw[←ex2]
  exact r.2
 ·have e:i=xs.length:=by omega
  subst e
  exact .inl ⟨⟨xs,q,yF _⟩,hd ys H p⟩
section
variable{P:Program}{w:World}{K:W.Frag}{mg:Str→Option Value}{base:Heap}{CX:CXT}{k:Nat}{f:Addr}{fd:FuncData}{ps:List Str}{sp sp':Sp}
end
def Cal(base:Heap)(f:Addr):Prop:=∃oc od fd sl,base.get? f=some ⟨oc,od,.func fd,sl⟩
theorem mN{M:Model}{f:Addr}{base:Heap}(c:Cal base f)(h:Heap)(k:∀b o,base.get? b=some o→h.get? b=some o):∃q,(q=Keeper.frame∨q=Keeper.machine∨q=Keeper.boundFrame)∧W.Looks M h (keeperOf (.ref f)) q:=by
 obtain⟨oc,od,fd,sl,e⟩:=c
 refine⟨.frame,.inl rfl,fun A Q E s kk q=>?_⟩
 exact io (wpAny_load (kk _ _ (k _ _ e)) (yB q))
def v8(P:Program)(w:World)(K:W.Frag)(mg:Str→Option Value)(base:Heap)(k i:Nat)(t:TA):TE:=fun σ H Q=>∃(f:Addr)(fd:FuncData)(ps:List Str)(sp:Sp),σ[i]?=some (some (.ref f))∧FnOk P w K mg base CX0 k f fd ps sp∧Binds K fd ps []∧Cal base f∧
 t σ H fun vs H1=>sp vs H1 Q E0
section
variable{X:Cx}{k i:Nat}{x:Str}{p pos:Pos}{e:Expr}{es:List Expr}{t:TA}
theorem iq(hr:Room k X.A)(ha:PA X (e::es) t)(hN:X.N[i]?=some x:=by rfl)(hv:Vis X.env.scope x:=by first | exact Or.inl rfl | exact Or.inr (Or.inl rfl) | exact Or.inr (Or.inr rfl))(hd:(x == ("__debug__":Str))=false:=by decide)(hcd:(x == ("__classdict__":Str))=false:=by decide)(he:starEach (e::es) X.env=(false,eval e X.env)::starEach es X.env:=by rfl)(hpl:(backTo pos (starEach es X.env)).any (·.1)=false:=by rfl):
  PE X (.Call (.Name x p) (e::es) [] pos) (v8 X.prog X.w X.K X.mg X.base k i t):=by
 intro AU s σ H Q I h
 obtain⟨f,fd,ps,sp,hs,F,b,c,q⟩:=h
 refine wpAny_Call_Name_kw (thn (qi hN hv hd hcd AU s σ H (fun v H'=>v=.ref f∧H'=H) I ⟨_,hs,rfl,rfl⟩) fun u s1 z=>?_)
 obtain⟨v,H',I1,r,rfl,rfl⟩:=z
 cases (show u=Value.ref f from r)
 have hh:=ha pos AU s1 σ H' _ I1 q
 show wpAny _ _ (callWith pos (.ref f) [] (backTo pos (starEach (e::es) X.env)) []) _ _ _
 rw[he]at hh⊢
 refine W.callWith_of (P:=fun h=>∀b o,X.base.get? b=some o→h.get? b=some o) (by show((false || (backTo pos (starEach es X.env)).any (·.1)) || false)=false;rw[hpl];rfl) (fun h k=>mN c h k) (Calls.evalArgs_plain (thn hh fun us s2 z=>?_))
 obtain⟨vs,H2,I2,r2,q2⟩:=z
 exact⟨I2.bk,pY (dvs:=[]) (ds:=[]) F hr b .nil xS I2 r2 (by rw[Ab];exact q2)⟩
end
def crO(q:Str)(c:Addr):HO:=.ext fun h=>h.CodeRec (.ref c) q
structure LamAt(T:Addr)(pos:Pos)(q:Str)(H:Hp):Prop where
 tab:H T=some (.tbl #[])∨∃c,H T=some (.tbl #[rawInt pos.line,rawInt pos.col,.ref c])∧H c=some (crO q c)
theorem LamAt.mono{T:Addr}{pos:Pos}{q:Str}{H H':Hp}(h:LamAt T pos q H)(g:Same H H'):LamAt T pos q H':=by
 rcases h.tab with e | ⟨c,e,ec⟩
 ·exact⟨.inl (g _ _ e)⟩
 ·exact⟨.inr ⟨c,g _ _ e,g _ _ ec⟩⟩
def pK(P:Program)(w:World)(K:W.Frag)(mg:Str→Option Value)(base:Heap)(N:List Str)(qual:Str)(sc:Scope)(f:Addr)(cd:Value)(cl:List (Str×Addr))(A:Around)(outer:List Env)(s:Shared)(H:Hp):Cx where
 prog:=P
 w:=w
 K:=K
 mg:=mg
 base:=base
 A:=A.deeper (W.envX qual sc s.heap.objs.size f cd cl)
 N:=N
 s₀:=s
 H₀:=H
 env:=W.envX qual sc s.heap.objs.size f cd cl
 outer:=outer
 stack:=W.envX qual sc s.heap.objs.size f cd cl::outer
 ex:=[]
 calm:=true
 fn:=fun _=>false
 pn:=[]
 xe:=fun _ _=>False
structure LamScope(ps fr:List Str)(sc:Scope):Prop where
 kind:sc.kind=.function
 co:sc.isCoroutine=false
 gen:sc.isGenerator=false
 cell:∀x∈sc.names,x.2≠.cell
 par:∀x∈ps,sc.names.lookup x=some .local
 free:∀x,sc.names.lookup x=some .free→x∈fr
 fre:∀x∈fr,sc.names.lookup x=some .free
 nd:(ps++fr).Nodup
theorem ii{x:Str}:∀{ps:List Str}{us:List Value}{i:Nat}{u:Value},ps.Nodup→ps[i]?=some x→us[i]?=some u→(ps.zip us).reverse.lookup x=some u:=by
 intro ps us i u nd h1 h2
 have hm:(x,u)∈(ps.zip us).reverse:=List.mem_reverse.mpr (y3 (i:=i) (by rw[List.getElem?_zip_eq_some];exact⟨h1,h2⟩))
 have ndz:((ps.zip us).reverse.map (·.1)).Nodup:=by
  rw[List.map_reverse]
  refine(List.reverse_perm _).nodup_iff.mpr (nd.sublist ?_)
  exact(by
   clear hm h1 h2
   induction ps generalizing us with
   | nil=>exact List.nil_sublist _
   | cons p ps ih=>
    cases us with
    | nil=>exact List.nil_sublist _
    | cons v us=>exact(ih (zl.mp nd).2).cons₂ _)
 revert hm ndz
 generalize (ps.zip us).reverse=l
 intro hm ndz
 induction l with
 | nil=>exact nomatch hm
 | cons q l ih=>
  rw[yE,zl]at ndz
  rcases yU.mp hm with e | e
  ·rw[←e,List.lookup_cons,beq_self_eq_true]
  ·have ne:(x == q.1)=false:=by
    refine beq_eq_false_iff_ne.mpr fun z=>ndz.1 (yD.mpr ⟨(x,u),e,z⟩)
   obtain⟨q1,q2⟩:=q
   rw[List.lookup_cons]
   dsimp only at ne⊢
   rw[ne]
   exact ih e ndz.2
theorem u9{P:Program}{w:World}{K:W.Frag}{mg:Str→Option Value}{B:Heap}{k:Nat}{a c':Addr}{qual:Str}{params:Arguments}{body:Expr}{sc:Scope}{cl:List (Str×Addr)}{pm ctv:Value}{ps fr:List Str}{us:List V}{sp:Sp}(ha:B.get? a=some (W.kla_obj "<lambda>" qual params body sc cl pm c' ctv))(S:LamScope ps fr sc)(hul:us.length=fr.length)(hcl:∀(i:Nat) x v,fr[i]?=some x→us[i]?=some v→∃c u,cl.lookup x=some c∧B.IsCell c (some u)∧RelV v u)(inj:∀x y c,cl.lookup x=some c→cl.lookup y=some c→x=y)(call:∀x c,cl.lookup x=some c→∃v,B.IsCell c v)(rec:∀vs H Q E,sp vs H Q E→H c'=some (crO qual c'))(len:∀vs H Q E,sp vs H Q E→vs.length=ps.length)(hbody:∀(A:Around) (outer:List Env) (s:Shared) (H:Hp) (vs:List V) (Q:VK) (E:XK),Room k (A.deeper (W.envX qual sc s.heap.objs.size a (.ref c') cl))→sp vs H Q E→
   ∃t,PE (pK P w K mg B (ps++fr) qual sc a (.ref c') cl A outer s H) body t∧t (vs.map some++us.map some) H Q):
  FnOk P w K mg B CX0 (k+1) a (W.kla_fn "<lambda>" qual params body sc cl pm (.ref c') ctv) ps sp:=by
 refine⟨len,fun A outer s H args ws vs Q E hr e0 hb r hsp=>?_⟩
 have hl:=len _ _ _ _ hsp
 have keep:=fun b o e=>(e0.bs b o e).1
 have lim:s.heap.NoLimit:=e0.mod.nolimit.keeps keep
 obtain⟨crec,_⟩:=(show ObjOk P w H s.heap c' (crO qual c')from e0.hok c' _ (rec _ _ _ _ hsp))
 have npS:ps.Nodup:=(List.nodup_append.mp S.nd).1
 refine W.kla_callFunE hr.depth (keep _ _ ha) rfl S.co S.gen rfl crec (hb _ _ _ _ ?_)
 refine wpAny_newFunctionEnv S.cell (fun y hy=>S.par y.1 (List.of_mem_zip hy).1) (fun h₁ hns hsb=>⟨lim.fresh _ hsb,?_⟩) S.kind
 show codeAny _ _ (.expr body (W.envX qual sc s.heap.objs.size a (.ref c') cl)) _ _
 have hk₁:∀b o,s.heap.get? b=some o→h₁.get? b=some o:=fun b o e=>hsb.extBut b o (yW (yM e)) (yA _ e)
 obtain⟨t,ht,hq⟩:=hbody A outer s H vs Q E (hr.deeper _) hsp
 have cellK:∀c v,B.IsCell c v→h₁.IsCell c v:=fun c v ⟨o,e,d⟩=>⟨o,hk₁ _ _ (keep _ _ e),d⟩
 have I:Inv (pK P w K mg B (ps++fr) qual sc a (.ref c') cl A outer s H) [] (vs.map some++us.map some) H {s with heap:=h₁,toks:=s.toks+(ps.zip ws).length}:=by
  have noA:∀b:Addr,b∉(pK P w K mg B (ps++fr) qual sc a (.ref c') cl A outer s H).ex:=fun b z=>absurd (show b∈([]:List Addr)from z) (by simp)
  refine⟨⟨e0.mod,S.kind,rfl,rfl,yF _,inj,fun x hx=>?_,(fun x c h _=>Bool.noConfusion h),fun _=>hr.hd,Around.frames_deeper e0.frames,.inr ⟨rfl,rfl⟩,fun b z=>absurd z (noA b),e0.bs,e0.bsz,fun b _ _=>noA b,fun b z=>absurd z (noA b),e0.funs,e0.frf⟩,
   rfl,e0.bare,Un.kept hk₁,⟨_,hns,fun i y v h1 h2 h3=>?_⟩,fun x c e=>?_,e0.hok.fresh (Nat.le_refl _),fun x c e=>?_,fun p hp=>absurd (show p∈([]:List (Addr×Obj))from hp) (by simp),e0.hok.kept hk₁,?_⟩
  ·have hx:sc.names.lookup x=some .cell∨sc.names.lookup x=some .free:=hx
   rcases hx with hx | hx
   ·exact absurd rfl (S.cell _ (zC hx))
   ·obtain⟨i,hi⟩:=An.mp (S.free x hx)
    have A1:i<us.length:=by rw[hul];exact(yK.mp hi).1
    obtain⟨c,u,e,_⟩:=hcl i x us[i] hi (by simp[A1])
    exact⟨c,e⟩
  ·have h1:(ps++fr)[i]?=some y:=h1
   by_cases hi:i<vs.length
   ·rw[List.getElem?_append_left (by rw[←hl];exact hi)]at h1
    rw[List.getElem?_append_left (by simpa using hi),List.getElem?_map]at h2
    obtain⟨v',hv,e⟩:=zO.mp h2
    cases e
    obtain⟨u,hu,rv⟩:=r.get hv
    exact⟨u,rv,.inl ⟨S.par y (y3 h1),ii npS h1 hu⟩⟩
   ·have hi:vs.length≤i:=by omega
    rw[List.getElem?_append_right (by rw[←hl];exact hi)]at h1
    rw[List.getElem?_append_right (by simpa using hi),List.getElem?_map,List.length_map]at h2
    obtain⟨v',hv,e⟩:=zO.mp h2
    cases e
    rw[hl]at hv
    obtain⟨c,u,e1,e2,rv⟩:=hcl _ y v h1 hv
    exact⟨u,rv,.inr ⟨.inr (S.fre y (y3 h1)),c,e1,cellK _ _ e2⟩⟩
  ·obtain⟨v,z⟩:=call x c e
   exact⟨v,cellK _ _ z⟩
  ·obtain⟨v,o,z,_⟩:=call x c e
   exact(e0.bs c o z).2
  ·show _=(ps++fr).length
   rw[yJ,pi,pi,yJ,hl,hul]
 refine W.kla_codeExpr (z5 (ht [] _ _ H Q I hq) (fun v s' hs=>?_) fun _ _ z=>False.elim z)
 obtain⟨v',H',J,rv,q⟩:=hs
 exact⟨v',H',J.os,J.bare,J.base,J.hok,rv,q⟩
def foO(ob:Obj)(a:Addr):HO:=.ext fun h=>h.get? a=some ob
theorem uJ{P:Program}{w:World}{H:Hp}{h:Heap}{q:Str}{c:Addr}(r:h.CodeRec (.ref c) q):ObjOk P w H h c (crO q c):=by
 refine⟨r,?_,fun h1 h2 z k=>?_⟩
 ·obtain⟨c2,oc,vs,tq,e,ho,_⟩:=r
  cases e
  exact⟨oc,ho⟩
 ·obtain⟨c2,oc,vs,tq,e,ho,r⟩:=z
  cases e
  exact⟨c,oc,vs,tq,rfl,k _ ho,r⟩
theorem qg{P:Program}{w:World}{H:Hp}{h:Heap}{ob:Obj}{a:Addr}(e:h.get? a=some ob):ObjOk P w H h a (foO ob a):=⟨e,⟨ob,e⟩,fun _ _ z k=>k _ z⟩
def tLam(T:Addr)(pos:Pos)(q:Str)(mk:Value→Addr→Value→Obj):TE:=fun σ H Q=>LamAt T pos q H∧∀(a c:Addr)(pm ctv:Value)(H':Hp),Same (av T H) (av T H')→H a=none→a≠c→H' T=some (.tbl #[rawInt pos.line,rawInt pos.col,.ref c])→H' c=some (crO q c)→
 H' a=some (foO (mk pm c ctv) a)→Q (.ref a) H'
theorem uO(pos:Pos)(c:Value):codeAmong pos [rawInt pos.line,rawInt pos.col,c]=some c:=codeAmong_snoc [] trivial rfl
section
variable{X:Cx}{params:Arguments}{body:Expr}{sc:Scope}{pos:Pos}{c T:Addr}
theorem uU(hc:X.env.code=.ref c)(C:W.CodeHd X.base c T)(hgP:mainGlobals≠T)(hB:X.base.BuiltinsAt X.mg T)(hf:∀x∈sc.names,x.2=.free→∃c,X.env.cells.lookup x.1=some c)(hdef:defaultsOf params X.env=([],[]):=by rfl):
  PE X (.Lambda params body sc pos) (tLam T pos (X.env.qual++"<lambda>") fun pm c' ctv=>W.kla_obj "<lambda>" (X.env.qual++"<lambda>") params body sc (aJ X.env sc.names) pm c' ctv):=by
 intro AU s σ H Q I h
 obtain⟨L,q⟩:=h
 refine W.kla_eval hdef ?_
 have hcl:=Tc hf
 have tl:H T≠none:=by
  rcases L.tab with e | ⟨_,e,_⟩ <;> (rw[e];exact fun z=>nomatch z)
 have fresh:∀b,s.heap.objs.size≤b→H b=none:=fun b hb=>I.hok.fresh hb
 rcases L.tab with e | ⟨c',e,ec⟩
 ·have hP:s.heap.get? T=some (W.tabObj #[]):=I.hok T _ e
  refine W.kla_makeFunction hcl I.ok.glob (I.mod.glob.keeps I.bk) hc (C.keeps I.bk) hP trivial rfl hgP (hB.keeps I.bk) fun c' ctv h' tk hx hge A1 hrec hT=>?_
  have hT:h'.get? T=some (W.tabObj #[rawInt pos.line,rawInt pos.col,.ref c']):=hT
  have Tlt:T<s.heap.objs.size:=yM hP
  have sz:s.heap.objs.size≤h'.objs.size:=Aw (Nat.lt_of_le_of_lt hge A1)
  have na:H h'.objs.size=none:=fresh _ sz
  have nc:H c'=none:=fresh _ hge
  have cT:c'≠T:=zY (y4 Tlt hge)
  have aT:h'.objs.size≠T:=zY (y4 Tlt sz)
  have ac:h'.objs.size≠c':=zY A1
  have kp:∀b o,b≠T→s.heap.get? b=some o→(h'.push (W.kla_obj "<lambda>" (X.env.qual++"<lambda>") params body sc (aJ X.env sc.names) ((X.mg "__name__").getD .none) c' ctv)).get? b=some o:=fun b o nb e=>yA _ (hx b o nb e)
  have eT:=yA (W.kla_obj "<lambda>" (X.env.qual++"<lambda>") params body sc (aJ X.env sc.names) ((X.mg "__name__").getD .none) c' ctv) hT
  have ea:(h'.push (W.kla_obj "<lambda>" (X.env.qual++"<lambda>") params body sc (aJ X.env sc.names) ((X.mg "__name__").getD .none) c' ctv)).get? h'.objs.size=some (W.kla_obj "<lambda>" (X.env.qual++"<lambda>") params body sc (aJ X.env sc.names) ((X.mg "__name__").getD .none) c' ctv):=yX _ rfl
  have er:(h'.push (W.kla_obj "<lambda>" (X.env.qual++"<lambda>") params body sc (aJ X.env sc.names) ((X.mg "__name__").getD .none) c' ctv)).CodeRec (.ref c') (X.env.qual++"<lambda>"):=by
   obtain⟨c2,oc,vs,tq,e,ho,r⟩:=hrec
   exact⟨c2,oc,vs,tq,e,yA _ ho,r⟩
  generalize (h'.push (W.kla_obj "<lambda>" (X.env.qual++"<lambda>") params body sc (aJ X.env sc.names) ((X.mg "__name__").getD .none) c' ctv))=g at kp eT ea er⊢
  generalize hHn:upd (upd (upd H T (.tbl #[rawInt pos.line,rawInt pos.col,.ref c'])) c' (crO (X.env.qual++"<lambda>") c')) h'.objs.size (foO (W.kla_obj "<lambda>" (X.env.qual++"<lambda>") params body sc (aJ X.env sc.names) ((X.mg "__name__").getD .none) c' ctv) h'.objs.size)=Hn
  have at_a:Hn h'.objs.size=some (foO (W.kla_obj "<lambda>" (X.env.qual++"<lambda>") params body sc (aJ X.env sc.names) ((X.mg "__name__").getD .none) c' ctv) h'.objs.size):=by rw[←hHn];exact Z5
  have at_c:Hn c'=some (crO (X.env.qual++"<lambda>") c'):=by rw[←hHn,Za (Ne.symm ac)];exact Z5
  have at_T:Hn T=some (.tbl #[rawInt pos.line,rawInt pos.col,.ref c']):=by rw[←hHn,Za (Ne.symm aT),Za (Ne.symm cT)];exact Z5
  have at_o:∀b,b≠h'.objs.size→b≠c'→b≠T→Hn b=H b:=fun b n1 n2 n3=>by rw[←hHn,Za n1,Za n2,Za n3]
  have at_s:∀b u,H b=some u→b≠T→Hn b=some u:=fun b u e nT=>by rw[at_o b (Zf e na) (Zf e nc) nT];exact e
  have un:Un X.fs [] H Hn s.heap g:=by
   have nT:∀b,H b=none→b≠T:=fun b n z=>by rw[z]at n;exact tl n
   refine⟨fun b o e n _ _=>kp b o (nT b n) e,fun b o e n _ _=>⟨o.slots,kp b o (nT b n) e⟩,fun b o e n _=>?_,fun b o e _=>?_,fun b xs e'=>at_s b _ e' (fun z=>by rw[z,e]at e';cases e'),fun b o xs e'=>at_s b _ e' (fun z=>by rw[z,e]at e';cases e'),fun b ps e'=>?_⟩
   ·have lt:=yM e
    rw[at_o b (yW (y4 lt sz)) (yW (y4 lt hge)) (nT b n)]
    exact n
   ·by_cases z:b=T
    ·subst z;exact⟨_,eT⟩
    ·exact⟨o,kp b o z e⟩
   ·by_cases z:b=T
    ·subst z
     rw[e]at e'
     cases e'
     exact⟨#[rawInt pos.line,rawInt pos.col,.ref c'],at_T⟩
    ·exact⟨#[],by rw[at_s b _ e' z];simp⟩
  have hok:HOk X.prog X.w Hn g:=fun b u eb=>by
   by_cases h1:b=h'.objs.size
   ·subst h1;rw[at_a]at eb;cases eb;exact qg ea
   by_cases h2:b=c'
   ·subst h2;rw[at_c]at eb;cases eb;exact uJ er
   by_cases h3:b=T
   ·subst h3;rw[at_T]at eb;cases eb;exact eT
   rw[at_o b h1 h2 h3]at eb
   refine(I.hok b u eb).stay (fun d v hd qq=>kp d v (fun z=>?_) qq) (fun d qq=>at_s d _ qq (fun z=>by rw[z,e]at qq;cases qq)) fun d xs qq=>at_s d _ qq (fun z=>by rw[z,e]at qq;cases qq)
   rcases hd with y | y
   ·exact h3 (y.symm.trans z)
   ·rw[z,e]at y;cases y
  refine⟨.ref h'.objs.size,Hn,I.un (h':=g) (t':=tk) un hok,rfl,q _ c' _ ctv Hn (fun b u eb=>?_) na ac at_T at_c at_a⟩
  obtain⟨b1,b2⟩:=Zc eb
  rw[Zh b1]
  exact at_s b u b2 b1
 ·have hP:s.heap.get? T=some (W.tabObj #[rawInt pos.line,rawInt pos.col,.ref c']):=I.hok T _ e
  refine W.kla_makeFunctionHit (cv:=.ref c') hcl I.ok.glob (I.mod.glob.keeps I.bk) hc (C.keeps I.bk) hP trivial (uO pos _) (hB.keeps I.bk) fun ctv h' tk hk hz=>?_
  have na:H h'.objs.size=none:=fresh _ hz
  have ac:h'.objs.size≠c':=fun z=>by rw[z,ec]at na;cases na
  have aT:h'.objs.size≠T:=fun z=>by rw[z,e]at na;cases na
  refine⟨.ref h'.objs.size,_,I.laid (t':=tk) (a:=h'.objs.size) (o:=foO (W.kla_obj "<lambda>" (X.env.qual++"<lambda>") params body sc (aJ X.env sc.names) ((X.mg "__name__").getD .none) c' ctv) h'.objs.size) (fun b u eb=>yA _ (hk b u eb)) hz (qg (yX _ rfl)),rfl,?_⟩
  refine q _ c' _ ctv _ (fun b u eb=>?_) na ac (by rw[Za (Ne.symm aT)];exact e) (by rw[Za (Ne.symm ac)];exact ec) Z5
  obtain⟨b1,b2⟩:=Zc eb
  rw[Zh b1,Za (Zf b2 na)]
  exact b2
end
def r_(base h:Heap)(as:List Addr):Heap:=W.hideAll h ((List.range h.objs.size).filter fun b=>(base.get? b).isNone && !decide (b∈as))
theorem Pt{base h:Heap}{as:List Addr}{b:Addr}{o:Obj}(e:h.get? b=some o)(k:(∃u,base.get? b=some u)∨b∈as):(r_ base h as).get? b=some o:=W.hideAll_get _ e fun z=>by
 have z2:=(zu.mp z).2
 rw[zI]at z2
 rcases k with⟨u,k⟩ | k
 ·rw[k]at z2;exact Bool.noConfusion z2.1
 ·rw[yG k]at z2;exact Bool.noConfusion z2.2
theorem ly{base h:Heap}{as:List Addr}{b:Addr}{o:Obj}(e:(r_ base h as).get? b=some o):h.get? b=some o∧((∃u,base.get? b=some u)∨b∈as):=by
 have e1:=W.of_hideAll _ e
 refine⟨e1,?_⟩
 cases k:base.get? b with
 | some u=>exact .inl ⟨u,rfl⟩
 | none=>
  by_cases m:b∈as
  ·exact .inr m
  ·have:(r_ base h as).get? b=none:=W.hideAll_none _ (zu.mpr ⟨List.mem_range.mpr (yM e1),by rw[k,ze m];rfl⟩)
   rw[e]at this
   cases this
theorem Uf{base B h:Heap}:∀{l:List Env},h.FunFrames base l→(∀L∈frs l,B.get? L=none)→h.FunFrames B l
 | [],_,_=>trivial
 | env::l,⟨hk,⟨L,o,hf,_,ho,hd⟩,hr⟩,hn=>⟨hk,⟨L,o,hf,hn L (kB (.head _) hf),ho,hd⟩,Uf hr fun L' hL=>hn L' (by
  obtain⟨e,he,q⟩:=AF.mp hL
  exact kB (.tail _ he) q)⟩
theorem Inv.drop{X:Cx}{AU:List (Addr×Obj)}{σ:St}{H:Hp}{s:Shared}{a:Addr}{φ:Heap→Prop}(I:Inv X AU σ H s)(ea:H a=some (.ext φ)):Inv X AU σ (av a H) s:=by
 have nn:∀b,H b=none→av a H b=none:=fun b n=>by
  by_cases z:b=a
  ·rw[z];exact Ol
  ·rw[Zh z];exact n
 have ne:∀b u,H b=some u→(∀ψ,u≠.ext ψ)→av a H b=some u:=fun b u e n=>by
  rw[Zh (fun z=>by rw[z,ea]at e;exact n φ (zt e).symm)]
  exact e
 refine⟨I.ok,I.os,I.bare,⟨I.base.keep,I.base.slot,fun b o e n hx=>nn b (I.base.free b o e n hx),I.base.there,fun b xs e=>ne b _ (I.base.tups b xs e) (fun _ z=>nomatch z),fun b o xs e=>ne b _ (I.base.frzs b o xs e) (fun _ z=>nomatch z),fun b ps e=>?_⟩,I.loc,I.cell,nn _ I.free,fun x c e=>nn c (I.freeC x c e),fun p hp=>?_,fun b u e=>?_,I.len⟩
 ·obtain⟨m,z⟩:=I.base.tbls b ps e
  exact⟨m,ne b _ z (fun _ z=>nomatch z)⟩
 ·obtain⟨z1,z2,z3⟩:=I.pin p hp
  exact⟨z1,nn _ z2,z3⟩
 ·obtain⟨b1,b2⟩:=Zc e
  exact(I.hok b u b2).stay (fun _ _ _ q=>q) (fun c q=>ne c _ q (fun _ z=>nomatch z)) fun c xs q=>ne c _ q (fun _ z=>nomatch z)
structure HasB(P:Program)(w:World)(K:W.Frag)(mg:Str→Option Value)(x:Str)(k:Nat)(ps:List Str)(sp:Heap→Sp):Prop where
 ex:∃f fd,(∀base:Heap,K.In base→base.Ns mainGlobals mg→FnOk P w K mg base CX0 k f fd ps (sp base))∧Binds K fd ps []∧W.keepIn K (.ref f)=true∧mg x=some (.ref f)
structure Wid(X:Cx)(σ:St)(a:Addr)(ob:Obj)(B:Heap):Prop where
 kin:X.K.In B
 glb:B.Ns mainGlobals X.mg
 sub:∀b o,X.base.get? b=some o→B.get? b=some o
 fn:B.get? a=some ob
 cell:∀(i:Nat) x v,X.N[i]?=some x→σ[i]?=some (some v)→X.env.scope.names.lookup x=some .cell→∃c u,X.env.cells.lookup x=some c∧B.IsCell c (some u)∧RelV v u
 cells:∀x c,X.env.cells.lookup x=some c→∃v,B.IsCell c v
 inj:∀x y c,X.env.cells.lookup x=some c→X.env.cells.lookup y=some c→x=y
def uC(X:Cx)(sp:Heap→Sp)(t:TA):TE:=fun σ H Q=>t σ H fun vs H1=>∃a ob,H1 a=some (foO ob a)∧∀B,Wid X σ a ob B→sp B vs (av a H1) Q E0
section
variable{X:Cx}{j k:Nat}{ps:List Str}{sp:Heap→Sp}{x:Str}{p pos:Pos}{e:Expr}{es:List Expr}{t:TA}
theorem pS(h:HasB X.prog X.w X.K X.mg x j ps sp)(hfn:∀x,X.fn x=true)(hst:X.stack=X.env::X.outer)(hfr:X.env.frame=some X.env.locals)(hr:Room k X.A)(ha:PA X (e::es) t)(hg:Gl X x:=by rfl)(hj:j≤k:=by first | decide | omega)(hdb:(x == ("__debug__":Str))=false:=by decide)(he:starEach (e::es) X.env=(false,eval e X.env)::starEach es X.env:=by rfl)(hpl:(backTo pos (starEach es X.env)).any (·.1)=false:=by rfl):
  PE X (.Call (.Name x p) (e::es) [] pos) (uC X sp t):=by
 intro AU s σ H Q I q
 obtain⟨f,fd,F,b,kp,m⟩:=h.ex
 refine wpAny_Call_Name_kw (ge I hg m ?_ hdb)
 refine W.callWith_K (h₀:=X.base) I.ok.mod.kin kp (thn (ha pos AU s σ H _ I q) fun us s1 z=>?_) he hpl
 obtain⟨vs,H1,I1,r,a,ob,ea,q⟩:=z
 refine⟨I1.kIn,?_⟩
 have I2:Inv X AU σ (av a H1) s1:=I1.drop ea
 have oa:s1.heap.get? a=some ob:=(show ObjOk X.prog X.w H1 s1.heap a (foO ob a)from I1.hok a _ ea).1
 generalize hB:r_ X.base s1.heap (a::X.env.cells.filterMap fun d=>X.env.cells.lookup d.1)=B
 have cin:∀y c,X.env.cells.lookup y=some c→c∈a::X.env.cells.filterMap fun d=>X.env.cells.lookup d.1:=fun y c z=>.tail _ (AF.mpr ⟨(y,c),zC z,z⟩)
 have cou:∀b,b∈a::X.env.cells.filterMap (fun d=>X.env.cells.lookup d.1)→b=a∨∃y,X.env.cells.lookup y=some b:=fun b hb=>by
  rcases yU.mp hb with z | z
  ·exact .inl z
  ·obtain⟨d,_,e⟩:=AF.mp z
   exact .inr ⟨d.1,e⟩
 have sub:∀b o,X.base.get? b=some o→B.get? b=some o:=fun b o z=>hB ▸ Pt (I1.bk b o z) (.inl ⟨o,z⟩)
 have up:∀b o,B.get? b=some o→s1.heap.get? b=some o∧av a H1 b=none:=fun b o z=>by
  rw[←hB]at z
  obtain⟨z1,z2⟩:=ly z
  refine⟨z1,?_⟩
  rcases z2 with⟨u,z2⟩ | z2
  ·exact(I2.bs b u z2).2
  ·rcases cou b z2 with z3 | ⟨y,z3⟩
   ·rw[z3];exact Ol
   ·exact I2.freeC y b z3
 have clB:∀y c v,X.env.cells.lookup y=some c→s1.heap.IsCell c v→B.IsCell c v:=fun y c v e ⟨o,z,d⟩=>⟨o,hB ▸ Pt z (.inr (cin y c e)),d⟩
 have nB:∀L∈frs X.stack,B.get? L=none:=fun L hL=>by
  cases z:B.get? L with
  | none=>rfl
  | some o=>
   exfalso
   rw[←hB]at z
   obtain⟨z1,z2⟩:=ly z
   rcases z2 with⟨u,z2⟩ | z2
   ·have:=(I1.stack.mem hL).1
    rw[z2]at this
    cases this
   ·rcases cou L z2 with z3 | ⟨y,z3⟩
    ·have:=I1.stkFree L hL
     rw[z3,ea]at this
     cases this
    ·rcases yU.mp (I1.stkSub L hL)with z4 | z4
     ·exact I1.cne y L z3 z4
     ·obtain⟨_,o',ho',_⟩:=I1.ok.funs.mem z4
      exact absurd (y4 (yM ho') (I1.ok.cab y L (hfn y) z3)) (AJ _)
 have md:=I1.ok.mod
 have kinB:X.K.In B:=fun b o z=>sub b o (md.kin b o z)
 have glbB:B.Ns mainGlobals X.mg:=md.glob.keeps sub
 have modB:Mod X.K X.mg B:=⟨kinB,glbB,let ⟨mb,h1,h2⟩:=md.blt;⟨mb,h1.keeps sub,h2⟩,md.nolimit.keeps sub⟩
 have szB:B.objs.size≤s1.heap.objs.size:=by rw[←hB];exact Nat.le_of_eq (W.hideAll_size _ _)
 have e0:Env0 X.prog X.w X.K X.mg B X.A X.stack s1 (av a H1):=⟨I2.ok.frames,modB,up,szB,Uf I1.stack nB,I2.stkFree,I2.hok,I2.bare⟩
 have wid:Wid X σ a ob B:=by
  refine⟨kinB,glbB,sub,hB ▸ Pt oa (.inr (.head _)),fun i y v h1 h2 h3=>?_,fun y c z=>?_,I1.ok.inj⟩
  ·obtain⟨mm,_,hl⟩:=I1.loc
   obtain⟨u,rv,lk⟩:=hl i y v h1 h2 (.inr (.inl h3))
   rcases lk with⟨h4,_⟩|⟨_,c,h5,h6⟩
   ·have h4:X.env.scope.names.lookup y=some .local:=h4
    rw[h3]at h4
    cases h4
   ·exact⟨c,u,h5,clB y c _ h5 h6,rv⟩
  ·obtain⟨v,h6⟩:=I1.cell y c z
   exact⟨v,clB y c v z h6⟩
 have hsp:=q B wid
 have FB:=(F B kinB glbB).mono hj
 have hl:us.length=ps.length:=by rw[←r.length];exact FB.len _ _ _ _ hsp
 have hbi:=b s1 us I1.kIn (by rw[Ab];exact hl)
 rw[Ab]at hbi
 refine wpAny_call (codeAny_mono (FB.run X.A X.stack s1 (av a H1) ⟨us,[]⟩ us vs Q E0 hr e0 hbi r hsp) fun r s' hq=>?_)
 cases r with
 | error e=>exact False.elim hq
 | ok fl=>
  cases fl with
  | ret u=>exact I2.after hq
  | next=>exact False.elim hq
  | brk=>exact False.elim hq
  | cont=>exact False.elim hq
end
def entH(Ts:List Addr)(s:Hp):Hp:=fun b=>if b∈Ts then some (.tbl #[])else s b
theorem ng{P:Program}{w:World}{K:W.Frag}{mg mb:Str→Option Value}{k:Nat}{fa a:Addr}{fd:FuncData}{x:Str}{sp:Sp}{s₁:Shared}{vs:List Value}{ns:List Int}{tabs:List (Addr×Addr)}(KX:K.In s₁.heap)(hns:s₁.heap.Ns mainGlobals mg)(hb:s₁.heap.Ns builtinsNs mb)(hbb:∀x:Str,x≠"__name__"→mb x=bootBuiltins x)(hlim:s₁.heap.NoLimit)(hg:s₁.gens=#[])(hbm:∃bm ob,mg "__builtins__"=some (.ref bm)∧bm≠builtinsNs∧s₁.heap.get? bm=some ob∧ob.cls=.type "module"∧ob.dict=some builtinsNs∧ob.data=.plain)(hT:W.TabsAt tabs s₁.heap)(hKT:∀T∈tabs.map (·.2),K.lookup T=none)(ha:s₁.heap.get? a=some {cls:=.type "list",data:=.seq vs.toArray})(hi:IntsAre vs ns)(hl:ns.length≤sizeLine)(hr:Room k callerA)(F:∀base:Heap,K.In base→base.Ns mainGlobals mg→(∀T∈tabs.map (·.2),base.BuiltinsAt mg T)→FnOk P w K mg base CX0 k fa fd [x] sp)(hbind:∀(s:Shared) (u:Value),BindsTo s fd ⟨[u],[]⟩ [(x,u)])(hsp:∀H:Hp,SqL K H a (ns.map V.int)→(∀T∈tabs.map (·.2),H T=some (.tbl #[]))→sp [.ref a] H (fun v _=>v=.bl true) fun _ _ _=>False):
  codeAny (model P w) callerA (.call (.ref fa) ⟨[.ref a],[]⟩) (fun r s'=>r=.ok (.ret (.bool true))∧OldK s₁.heap s'.heap∧s'.os=s₁.os∧AllBare s'.gens) s₁:=by
 have rv:=O3 hi
 have lenV:=hi.length
 have tabO:∀T∈tabs.map (·.2),s₁.heap.get? T=some (W.tabObj #[]):=fun T h=>by
  obtain⟨q,hq,rfl⟩:=yD.mp h
  exact(hT q hq).2
 have aT:a∉tabs.map (·.2):=fun z=>by
  have:=tabO a z
  rw[ha]at this
  cases this
 have core:∀S:Hp,SqL K S a (ns.map V.int)→HOk P w S s₁.heap→(∀b,S b≠none→b=a)→(S a≠none→K.lookup a=none)→(∀b u,S b=some u→∃o xs,u=.frz o (.lst xs))→
   codeAny (model P w) callerA (.call (.ref fa) ⟨[.ref a],[]⟩) (fun r s'=>r=.ok (.ret (.bool true))∧OldK s₁.heap s'.heap∧s'.os=s₁.os∧AllBare s'.gens) s₁:=by
  intro S hS hokS hA hK hfrz
  generalize hHd:entH (tabs.map (·.2)) S=H
  have HT:∀b,b∈tabs.map (·.2)→H b=some (.tbl #[]):=fun b h=>by rw[←hHd];exact yC h
  have HS:∀b,b∉tabs.map (·.2)→H b=S b:=fun b h=>by rw[←hHd];exact yy h
  have hok:HOk P w H s₁.heap:=fun b u e=>by
   by_cases m:b∈tabs.map (·.2)
   ·rw[HT b m]at e
    cases e
    exact tabO b m
   ·rw[HS b m]at e
    obtain⟨o,xs,rfl⟩:=hfrz b u e
    exact hokS b _ e
  have noN:∀{b:Addr}{o:Obj},s₁.heap.get? b=some o→(∀ps,o≠W.tabObj ps)→(∀xs n,o.data≠.seq xs n)→H b=none:=fun{b o} e n1 n2=>by
   by_cases m:b∈tabs.map (·.2)
   ·exact absurd (zt (e.symm.trans (tabO b m))) (n1 #[])
   ·rw[HS b m]
    cases q:S b with
    | none=>rfl
    | some u=>
     have e':b=a:=hA b (by rw[q];exact fun z=>nomatch z)
     subst e'
     rw[ha]at e
     cases e
     exact absurd rfl (n2 _ _)
  have base_of:∀{b:Addr}{o:Obj},s₁.heap.get? b=some o→H b=none→(eJ s₁.heap H).get? b=some o:=fun e n=>nY e n
  have nsK:∀{b:Addr}{m:Str→Option Value},s₁.heap.Ns b m→(eJ s₁.heap H).Ns b m:=fun{b m} ⟨o,es,ep,e,d,r⟩=>⟨o,es,ep,base_of e (noN e (fun ps z=>by rw[z]at d;cases d) fun xs n z=>by rw[z]at d;cases d),d,r⟩
  have hKb:K.In (eJ s₁.heap H):=fun b o e=>base_of (KX b o e) (by
   by_cases m:b∈tabs.map (·.2)
   ·rw[hKT b m]at e;cases e
   ·rw[HS b m]
    cases q:S b with
    | none=>rfl
    | some u=>
     have e':b=a:=hA b (by rw[q];exact fun z=>nomatch z)
     subst e'
     rw[hK (by rw[q];exact fun z=>nomatch z)]at e
     cases e)
  have hM:Mod K mg (eJ s₁.heap H):=⟨hKb,nsK hns,⟨mb,nsK hb,hbb⟩,let ⟨mc,h1,h2⟩:=hlim;⟨mc,nsK h1,h2⟩⟩
  have hBt:∀T∈tabs.map (·.2),(eJ s₁.heap H).BuiltinsAt mg T:=fun T m=>by
   obtain⟨bm,ob,b1,b2,b3,b4,b5,b6⟩:=hbm
   refine⟨bm,ob,b1,b2,fun z=>?_,fun z=>?_,base_of b3 (noN b3 (fun ps z=>by rw[z]at b6;cases b6) fun xs n z=>by rw[z]at b6;cases b6),b4,b5,b6⟩
   ·obtain⟨o,es,ep,e,d,_⟩:=hns
    rw[z,e]at b3
    cases b3
    rw[b6]at d
    cases d
   ·rw[z,tabO T m]at b3
    cases b3
    cases b6
  have e0:Env0 P w K mg (eJ s₁.heap H) callerA [] s₁ H:=⟨rfl,hM,fun b o e=>tD e,Nat.le_of_eq (mB _ _),trivial,fun b hb=>absurd (show b∈([]:List Addr)from hb) (by simp),hok,.of_eq hg⟩
  have hS':SqL K H a (ns.map V.int):=by
   rcases hS with(h | ⟨o,h⟩) | h
   ·exact .inl (.inl (by rw[HS a aT];exact h))
   ·exact .inl (.inr ⟨o,by rw[HS a aT];exact h⟩)
   ·exact .inr h
  refine codeAny_mono ((F _ hKb (nsK hns) hBt).run callerA [] s₁ H ⟨[.ref a],[]⟩ [.ref a] [.ref a] _ _ hr e0 (hbind s₁ (.ref a)) (.cons rfl .nil) (hsp H hS' HT)) fun r s' h=>?_
  cases r with
  | error e=>exact False.elim h
  | ok fl=>
   cases fl with
   | next=>exact False.elim h
   | brk=>exact False.elim h
   | cont=>exact False.elim h
   | ret u=>
    obtain⟨v,H',os,bare,un,hok',r',q⟩:=h
    have q':v=.bl true:=q
    subst q'
    obtain rfl:u=Value.bool true:=r'
    have oth:∀b o,s₁.heap.get? b=some o→b∉tabs.map (·.2)→s'.heap.get? b=some o:=fun b o e m=>by
     cases q:H b with
     | none=>exact un.keep b o e q (by intro z;exact absurd (show b∈([]:List Addr)from z) (by simp)) (by simp)
     | some u=>
      obtain⟨ob,xs,rfl⟩:=hfrz b u (by rw[←HS b m];exact q)
      have z2:=un.frzs b ob _ q
      obtain⟨e1,_⟩:=hok b _ q
      obtain⟨e2,_⟩:=hok' b _ z2
      rw[e]at e1
      cases e1
      exact e2
    have tab:∀b,b∈tabs.map (·.2)→∃more,s'.heap.get? b=some (W.tabObj more):=fun b m=>by
     obtain⟨more,z⟩:=un.tbls b #[] (HT b m)
     exact⟨_,hok' b _ z⟩
    refine⟨rfl,⟨fun b o e=>?_,fun b o e=>?_⟩,os,bare⟩
    ·by_cases m:b∈tabs.map (·.2)
     ·obtain⟨more,z⟩:=tab b m
      obtain⟨t,ht,rfl⟩:=yD.mp m
      rw[tabO _ m]at e
      cases e
      refine .inr (.inl ⟨((hT t ht).1.tab (hT t ht).2).isCodeTable,rfl,#[],more,rfl,?_⟩)
      rw[z]
      simp
     ·exact .inl (oth b o e m)
    ·by_cases m:b∈tabs.map (·.2)
     ·obtain⟨more,z⟩:=tab b m
      exact⟨_,z⟩
     ·exact⟨o,oth b o e m⟩
 cases hk:K.lookup a with
 | some o=>
  have e:=KX a o hk
  rw[ha]at e
  cases e
  refine core (fun _=>none) (.inr ⟨_,vs.toArray,_,hk,rfl,rfl,rfl,by rw[List.size_toArray,lenV];exact hl,by simpa using rv⟩) (fun b u z=>by have z':(none:Option HO)=some u:=z;cases z') (fun b z=>absurd rfl z) (fun z=>absurd rfl z) (fun b u z=>by have z':(none:Option HO)=some u:=z;cases z')
 | none=>
  refine core (fun b=>if b=a then some (.frz {cls:=.type "list",data:=.seq vs.toArray} (.lst (ns.map V.int)))else none) (.inl (.inr ⟨{cls:=.type "list",data:=.seq vs.toArray},yC rfl⟩)) (fun b u z=>?_) (fun b z=>?_) (fun _=>hk) fun b u z=>?_
  ·by_cases hb:b=a
   ·have z':=(yC hb).symm.trans z
    cases z'
    subst hb
    exact⟨ha,by rw[pi];exact hl,vs,_,rv,ha⟩
   ·have z':=(yy hb).symm.trans z
    cases z'
  ·by_cases hb:b=a
   ·exact hb
   ·exact absurd (yy hb) z
  ·by_cases hb:b=a
   ·have z':=(yC hb).symm.trans z
    cases z'
    exact⟨_,_,rfl⟩
   ·have z':=(yy hb).symm.trans z
    cases z'
theorem walk_T{l:W.OpenLaw}{n k:Nat}{q:Program}{loose:List Str}{XP:(Str→Option Value)→Heap→Prop}{YP:World→Heap→Prop}{d:DefRec}{K:Params→W.Frag}{sp:World→Sp}{x:Str}{tabs:List (Addr×Addr)}(hn:l.most=some n)(hn2:n≤sizeLine)(hdf:d.params.defaults=[])(hr:Room k callerA)(hY:∀(w:World) (h:Heap),YP w h→(K w.params).In h)(hT:∀(w:World) (mg mb:Str→Option Value) (loose':List Str) (mean:ExcName→Option Value) (h:Heap),Top q loose' mean mg mb h→(K w.params).In h→W.TabsAt tabs h)(hKT:∀(w:World),∀T∈tabs.map (·.2),(K w.params).lookup T=none)(F:∀(w:World) (mg:Str→Option Value) (fa:Addr) (h:Heap),(K w.params).In h→h.Ns mainGlobals mg→mg d.name=some (.ref fa)→
   ∃fd:FuncData,(∀(s:Shared) (u:Value),BindsTo s fd ⟨[u],[]⟩ [(x,u)])∧
    ∀base:Heap,(K w.params).In base→base.Ns mainGlobals mg→(∀T∈tabs.map (·.2),base.BuiltinsAt mg T)→FnOk l.prog w (K w.params) mg base CX0 k fa fd [x] (sp w))(hsp:∀(w:World) (H:Hp) (a:Addr) (ns:List Int),ns.length≤n→SqL (K w.params) H a (ns.map V.int)→(∀T∈tabs.map (·.2),H T=some (.tbl #[]))→sp w [.ref a] H (fun v _=>v=.bl true) fun _ _ _=>False):
  W.WalkO q loose XP YP l.row.toRowW d [] (fun f vs=>PySem.call f vs):=by
 refine Att.attach_call hn hdf fun w s₀ s₁ mg mb fa o pm cd doc a vs ns G Y ho hd hcd hmg hobj hints Bb hg=>?_
 have KX:=hY w _ Y
 obtain⟨fd,hb,hF⟩:=F w mg fa _ KX G.T.g hmg
 exact ng KX G.T.g G.T.b G.T.builtins G.T.nolimit hg G.T.bmain (hT w mg mb _ _ _ G.T KX) (hKT w) hobj hints (zG Bb hn2) hr hF hb (fun H hS hTT=>hsp w H a ns Bb hS hTT)
end L2
namespace L2
open PySem PySem.Spec PyProof.Rows
section
variable{X:Cx}{AU:List (Addr×Obj)}{σ:St}{H:Hp}{s:Shared}{h':Heap}
theorem Inv.zipped{t':Nat}{ch:List Addr}{T:Addr}{o:HO}(I:Inv X AU σ H s)(k:∀b o,b∉ch→s.heap.get? b=some o→h'.get? b=some o)(hc:∀b∈ch,cS X AU H b)(hT:s.heap.objs.size≤T)(new:ObjOk X.prog X.w (upd H T o) h' T o):Inv X AU σ (upd H T o) {s with heap:=h',toks:=t'}:=by
 have hn:=I.hok.fresh hT
 have nit:∀b u,H b=some u→b∉ch:=fun b u e z=>by rw[(hc b z).1]at e;cases e
 have up:∀{b:Addr}{u:HO},H b=some u→upd H T o b=some u:=fun{b u} e=>by rw[Za (Zf e hn)];exact e
 refine I.step (g':=s.gens) (d':=s.drawn) (ch:=ch) (fun b hb=>?_) (fun b o _ _ hc e _=>k b o hc e) (fun b o _ _ hc e _=>⟨o.slots,k b o hc e⟩) (fun b o' _ e n=>?_) (fun b o hc e=>⟨o,k b o hc e⟩) (fun _ _ e=>up e) (fun _ _ _ e=>up e) (fun b ps e=>⟨#[],by rw[up e];simp⟩) (fun m hm=>?_) (fun b u e=>?_) I.bare
 ·obtain⟨f0,f1,f2,f3,f4,f5⟩:=hc b hb
  exact⟨f3,f1,f4,f5⟩
 ·rw[Za (yW (y4 (yM e) hT))]
  exact n
 ·obtain⟨o,es,ep,ho,r⟩:=hm
  exact⟨o,es,ep,k _ o (fun z=>(hc _ z).2.1 rfl) ho,r⟩
 ·by_cases hb:b=T
  ·subst hb
   rw[Z5]at e
   cases e
   exact new
  ·rw[Za hb]at e
   refine(I.hok b u e).stay (fun c v hc q=>k c v ?_ q) (fun _ q=>up q) fun _ _ q=>up q
   rcases hc with z | z
   ·rw[z];exact nit b u e
   ·exact nit c _ z
end
theorem rK{X:Cx}:OpR X (compareOp .IsNot) (fun x y H Q=>∃k:Bool,x=.bl k∧y=.bl true∧Q (.bl (!k)) H):=by
 intro AU s σ H x y v u Q I rx ry h
 obtain⟨k,rfl,rfl,q⟩:=h
 cases rx
 cases ry
 exact wpAny_isNot_plain (by cases k <;> rfl) (Zy I q (by cases k <;> rfl))
end L2
namespace L2
open PySem PySem.Spec PyProof.Rows
section
variable{X:Cx}
end
theorem kS{K:W.Frag}{H H':Hp}{a:Addr}{xs:List V}(s:Same H H')(h:SqL K H a xs):SqL K H' a xs:=by
 rcases h with h | h
 ·rcases h with h | ⟨o,h⟩
  ·exact .inl (.inl (s _ _ h))
  ·exact .inl (.inr ⟨o,s _ _ h⟩)
 ·exact .inr h
structure Pn(K:W.Frag)(S:Addr)(ns:List Int)(H:Hp)(a:Addr):Prop where
 at_:∃i r:Int,H a=some (.lst [.ref S,.int i,.int r])
 scr:SqL K H S (ns.map V.int)
 few:ns.length≤63
section
variable{K:W.Frag}{S:Addr}{ns:List Int}{H H':Hp}{a p:Addr}
theorem Pn.same(h:Pn K S ns H a)(g:Same H H'):Pn K S ns H' a:=by
 obtain⟨⟨i,r,e⟩,s,f⟩:=h
 exact⟨⟨i,r,g _ _ e⟩,kS g s,f⟩
theorem Pn.laid{o:HO}(h:Pn K S ns H a)(hp:H p=none):Pn K S ns (upd H p o) a:=h.same (Z6 hp o)
theorem Pn.ne(h:Pn K S ns H a)(hp:H p=none):p≠a:=by
 obtain⟨⟨i,r,e⟩,_⟩:=h
 exact fun q=>by rw[q,e]at hp;cases hp
theorem Pn.grw(h:Pn K S ns H a)(g:Same H H'):Grw a H H':=by
 obtain⟨⟨i,r,e⟩,_⟩:=h
 exact Sg e g
theorem Pn.upd(h:Pn K S ns H a)(i r:Int):Pn K S ns (upd H a (.lst [.ref S,.int i,.int r])) a:=by
 obtain⟨⟨i0,r0,e⟩,s,f⟩:=h
 refine⟨⟨i,r,Z5⟩,?_,f⟩
 rcases s with(s | ⟨o,s⟩) | s
 ·refine .inl (.inl ?_)
  rw[Za ?_]
  ·exact s
  ·intro z
   rw[z,e]at s
   cases ns with
   | nil=>cases s
   | cons n ns=>cases s
 ·refine .inl (.inr ⟨o,?_⟩)
  rw[Za ?_]
  ·exact s
  ·intro z
   rw[z,e]at s
   cases s
 ·exact .inr s
theorem Us{H1:Hp}{o:HO}(h:L2.upd H p o=H1)(n:H p=none)(hp:Pn K S ns H a):Pn K S ns H1 a∧Grw a H H1∧p≠a∧av a H1 p=some o:=by
 subst h
 exact⟨hp.laid n,pT n,hp.ne n,by rw[Zh (hp.ne n)];exact Z5⟩
theorem Pn.tup{xs:List V}(h:Pn K S ns H a)(e:H p=some (.tup xs)):av a H p=some (.tup xs):=by
 obtain⟨⟨i,r,e0⟩,_⟩:=h
 rw[Zh (fun z=>by rw[z,e0]at e;cases e)]
 exact e
end
theorem Z1{X:Cx}{e:Expr}{es:List Expr}{te:TE}{t:TA}(ha:PE X e te)(hr:PA X es t)(hs:starEach (e::es) X.env=(false,eval e X.env)::starEach es X.env):PA X (e::es) (uk te t):=@su _ _ _ _ _ ha hr hs
theorem Zw{X:Cx}{pos:Pos}(i:Nat){x:Str}{e:Expr}{te:TE}{pos':Pos}(hN:X.N.Nodup)(hi:X.N[i]?=some x)(hx:Loc X.env.scope x)(he:PE X e te)(hs:swapsWith e (some (.Name x pos')) pos.line X.env=pure false)(hf:X.fn x=true):PS X (.Assign [.Name x pos'] e pos) (pB te (iA i)):=@vP _ _ i _ _ _ _ hN hi hx he hs (.inl hf)
theorem Zq{N P:List Str}{sc:Scope}(a:sc.kind=.function)(b:sc.isCoroutine=false)(c:sc.isGenerator=false)(d:N.take P.length=P)(h:N.Nodup∧(∀x∈P,sc.names.lookup x=some .local∨sc.names.lookup x=some .cell)∧∀y∈sc.names,y.2≠.free):FnScope N P sc:=⟨a,b,c,h.1,d,h.2.1,h.2.2⟩
end L2
namespace K31
open PySem L2
def top(i:Nat):Stmt:=PySem.Challenge.pw_sumshare_k31_whole_bounds_of_all_that_fi.main.body.getD i (.Pass ⟨0,0,0,0⟩)
abbrev cO:Stmt:=top 1
theorem iD:FnScope ["thing"] ["thing"] (aa cO):=Zq rfl rfl rfl rfl (by decide +kernel)
abbrev bo:Stmt:=top 2
theorem Sv:FnScope ["thing","least"] ["thing","least"] (aa bo):=Zq rfl rfl rfl rfl (by decide +kernel)
abbrev a9:Stmt:=top 3
theorem Tg:FnScope ["thing","least","most"] ["thing","least","most"] (aa a9):=Zq rfl rfl rfl rfl (by decide +kernel)
abbrev a8:Stmt:=top 4
theorem Y3:FnScope ["one","other","sums","key","count"] ["one","other"] (aa a8):=Zq rfl rfl rfl rfl (by decide +kernel)
abbrev cN:Stmt:=top 11
theorem U5:FnScope ["stretch","height","index"] ["stretch"] (aa cN):=Zq rfl rfl rfl rfl (by decide +kernel)
abbrev dj:Stmt:=top 12
theorem Tf:FnScope ["stretch","height","index"] ["stretch"] (aa dj):=Zq rfl rfl rfl rfl (by decide +kernel)
abbrev cu:Stmt:=top 13
theorem Vn:FnScope ["stretch","height","index"] ["stretch"] (aa cu):=Zq rfl rfl rfl rfl (by decide +kernel)
abbrev de:Stmt:=top 14
theorem Vo:FnScope ["stretch","height","index","lesser"] ["stretch"] (aa de):=Zq rfl rfl rfl rfl (by decide +kernel)
abbrev bV:Stmt:=top 15
theorem Wx:FnScope ["thing","deep","height","index"] ["thing","deep"] (aa bV):=Zq rfl rfl rfl rfl (by decide +kernel)
abbrev eB:Stmt:=top 17
theorem V9:FnScope ["ladder","room","deep","counts","total"] ["ladder"] (aa eB):=Zq rfl rfl rfl rfl (by decide +kernel)
abbrev bR:Stmt:=top 18
theorem Wf:FnScope ["counts","stretch","one","other"] ["counts","stretch"] (aa bR):=Zq rfl rfl rfl rfl (by decide +kernel)
abbrev bq:Stmt:=top 19
theorem V8:FnScope ["deep","bar","counts","stretch"] ["deep","bar","counts"] (aa bq):=Zq rfl rfl rfl rfl (by decide +kernel)
abbrev cD:Stmt:=top 20
theorem Vq:FnScope ["counts","stretch","many","parent"] ["counts","stretch","many"] (aa cD):=Zq rfl rfl rfl rfl (by decide +kernel)
abbrev bQ:Stmt:=top 21
theorem Zv:FnScope ["ladder","room","deep","pairs","total","bar","counts","folds","stretch","one"] ["ladder"] (aa bQ):=Zq rfl rfl rfl rfl (by decide +kernel)
abbrev c8:Stmt:=top 22
theorem i9:FnScope ["ladder"] ["ladder"] (aa c8):=Zq rfl rfl rfl rfl (by decide +kernel)
abbrev cP:Stmt:=top 24
theorem Wr:FnScope ["tree","steps","waiting","here"] ["tree"] (aa cP):=Zq rfl rfl rfl rfl (by decide +kernel)
abbrev fc:Stmt:=top 25
theorem U4:FnScope ["tree","of_stream","of_two","kept","step","other","one"] ["tree","of_stream","of_two"] (aa fc):=Zq rfl rfl rfl rfl (by decide +kernel)
abbrev bC:Stmt:=top 27
theorem Rj:FnScope ["room","deep"] ["room","deep"] (aa bC):=Zq rfl rfl rfl rfl (by decide +kernel)
abbrev bE:Stmt:=top 28
theorem X2:FnScope ["room","deep","thing","day","mark","number","many"] ["room","deep","thing"] (aa bE):=Zq rfl rfl rfl rfl (by decide +kernel)
abbrev bG:Stmt:=top 29
theorem Yp:FnScope ["one","other","room","deep","counts","total","sums"] ["one","other"] (aa bG):=Zq rfl rfl rfl rfl (by decide +kernel)
abbrev aW:Stmt:=top 30
theorem Ss:FnScope ["one","other"] ["one","other"] (aa aW):=Zq rfl rfl rfl rfl (by decide +kernel)
abbrev cg:Stmt:=top 31
theorem W5:FnScope ["room","deep","stream","ladder","thing"] ["room","deep","stream"] (aa cg):=Zq rfl rfl rfl rfl (by decide +kernel)
abbrev af:Stmt:=top 32
theorem Ri:FnScope ["room","deep","tree"] ["room","deep","tree"] (aa af):=Zq rfl rfl rfl rfl (by decide +kernel)
abbrev cx:Stmt:=top 34
theorem fw:FnScope ["stream"] ["stream"] (aa cx):=Zq rfl rfl rfl rfl (by decide +kernel)
theorem Yu:(["day","mark","number","many","stream"]:List Str).Nodup:=by decide +kernel
abbrev bS:Stmt:=top 36
theorem Qr:FnScope ["stream"] ["stream"] (aa bS):=Zq rfl rfl rfl rfl (by decide +kernel)
theorem Yi:(["day","mark","number","many","stream"]:List Str).Nodup:=by decide +kernel
abbrev cB:Stmt:=top 37
theorem Ys:FnScope ["stream","ladder","paper","room","deep","counts","total","standing","stretch","many"] ["stream","ladder","paper"] (aa cB):=Zq rfl rfl rfl rfl (by decide +kernel)
theorem T7:(["one","stream","ladder","paper","room","deep","counts","total","standing","stretch","many"]:List Str).Nodup:=by decide +kernel
abbrev bx:Stmt:=top 38
theorem Zl:FnScope ["stream","ladder","room","deep","pairs","total","counts","folds","standing","height","rests","rising"] ["stream","ladder"] (aa bx):=Zq rfl rfl rfl rfl (by decide +kernel)
theorem Xp:(["stretch","many","stream","ladder","room","deep","pairs","total","counts","folds","standing","height","rests","rising"]:List Str).Nodup:=by decide +kernel
theorem Xo:(["stretch","many","stream","ladder","room","deep","pairs","total","counts","folds","standing","height","rests","rising"]:List Str).Nodup:=by decide +kernel
theorem Xn:(["stretch","many","stream","ladder","room","deep","pairs","total","counts","folds","standing","height","rests","rising"]:List Str).Nodup:=by decide +kernel
abbrev cA:Stmt:=top 39
theorem S0:FnScope ["stream","ladder","paper"] ["stream","ladder"] (aa cA):=Zq rfl rfl rfl rfl (by decide +kernel)
abbrev bn:Stmt:=top 41
theorem Su:FnScope ["ladder"] ["ladder"] (aa bn):=Zq rfl rfl rfl rfl (by decide +kernel)
theorem Xm:(["stretch","count","ladder"]:List Str).Nodup:=by decide +kernel
abbrev bh:Stmt:=top 42
theorem S1:FnScope ["ladder"] ["ladder"] (aa bh):=Zq rfl rfl rfl rfl (by decide +kernel)
theorem Xf:(["stretch","count","ladder"]:List Str).Nodup:=by decide +kernel
abbrev bD:Stmt:=top 43
theorem Rh:FnScope ["places","x"] ["places","x"] (aa bD):=Zq rfl rfl rfl rfl (by decide +kernel)
theorem Xs:(["number","count","places","x"]:List Str).Nodup:=by decide +kernel
abbrev d_:Stmt:=top 44
theorem mj:FnScope ["places"] ["places"] (aa d_):=Zq rfl rfl rfl rfl (by decide +kernel)
theorem Vc:(["number","count","places"]:List Str).Nodup:=by decide +kernel
abbrev ba:Stmt:=top 45
theorem Ye:FnScope ["places","many","rising","at"] ["places","many"] (aa ba):=Zq rfl rfl rfl rfl (by decide +kernel)
abbrev bW:Stmt:=top 46
theorem Px:FnScope ["ladder","x"] ["ladder","x"] (aa bW):=Zq rfl rfl rfl rfl (by decide +kernel)
abbrev dN:Stmt:=top 47
theorem nM:FnScope ["ladder"] ["ladder"] (aa dN):=Zq rfl rfl rfl rfl (by decide +kernel)
abbrev cI:Stmt:=top 48
theorem gW:FnScope ["ladder","number"] ["ladder","number"] (aa cI):=Zq rfl rfl rfl rfl (by decide +kernel)
abbrev jo:Stmt:=top 50
theorem rf:FnScope ["stream","ladder"] ["stream","ladder"] (aa jo):=Zq rfl rfl rfl rfl (by decide +kernel)
abbrev cm:Stmt:=top 51
theorem fY:FnScope ["places"] ["places"] (aa cm):=Zq rfl rfl rfl rfl (by decide +kernel)
theorem W4:(["number","count","places"]:List Str).Nodup:=by decide +kernel
abbrev eA:Stmt:=top 52
theorem mR:FnScope ["ladder"] ["ladder"] (aa eA):=Zq rfl rfl rfl rfl (by decide +kernel)
abbrev c_:Stmt:=top 53
theorem jG:FnScope ["ladder"] ["ladder"] (aa c_):=Zq rfl rfl rfl rfl (by decide +kernel)
abbrev gi:Stmt:=top 55
theorem oY:FnScope ["_law_script"] ["_law_script"] (aa gi):=Zq rfl rfl rfl rfl (by decide +kernel)
abbrev dO:Stmt:=top 56
theorem Xk:FnScope ["_law_pen_here","_law_most","_law_found","_law_script","_law_at","_law_cell","_law_mixed"] ["_law_pen_here","_law_most"] (aa dO):=Zq rfl rfl rfl rfl (by decide +kernel)
abbrev dZ:Stmt:=top 57
theorem Od:FnScope ["_law_pen_here","_law_way"] ["_law_pen_here"] (aa dZ):=Zq rfl rfl rfl rfl (by decide +kernel)
abbrev cK:Stmt:=top 58
theorem Yr:FnScope ["_law_pen_here","_law_deep","_law_most","_law_found","_law_top","_law_middle","_law_k","_law_way","_law_number"] ["_law_pen_here","_law_deep","_law_most"] (aa cK):=Zq rfl rfl rfl rfl (by decide +kernel)
abbrev dH:Stmt:=top 59
theorem Ui:FnScope ["_law_pen_here","_law_deep","_law_most","_law_trees","_law_at"] ["_law_pen_here","_law_deep","_law_most"] (aa dH):=Zq rfl rfl rfl rfl (by decide +kernel)
theorem R1:(["_law_k","_law_pen_here","_law_deep","_law_most","_law_trees","_law_at"]:List Str).Nodup:=by decide +kernel
abbrev bX:Stmt:=top 60
theorem iB:FnScope ["_law_tree_here"] ["_law_tree_here"] (aa bX):=Zq rfl rfl rfl rfl (by decide +kernel)
abbrev cY:Stmt:=top 61
theorem Qs:FnScope ["_law_pen_here","_law_room"] ["_law_pen_here"] (aa cY):=Zq rfl rfl rfl rfl (by decide +kernel)
abbrev c5:Stmt:=top 63
theorem Vp:FnScope ["_law_stretch","_law_found","_law_k"] ["_law_stretch"] (aa c5):=Zq rfl rfl rfl rfl (by decide +kernel)
abbrev ei:Stmt:=top 64
theorem m8:FnScope ["_law_stretch"] ["_law_stretch"] (aa ei):=Zq rfl rfl rfl rfl (by decide +kernel)
abbrev cq:Stmt:=top 65
theorem gf:FnScope ["_law_things_here","_law_x"] ["_law_things_here","_law_x"] (aa cq):=Zq rfl rfl rfl rfl (by decide +kernel)
theorem Yv:(["_law_day","_law_mark","_law_number","_law_many_here","_law_things_here","_law_x"]:List Str).Nodup:=by decide +kernel
abbrev bF:Stmt:=top 66
theorem X3:FnScope ["_law_things_here","_law_number","_law_seen","_law_x","_law_many_here"] ["_law_things_here","_law_number"] (aa bF):=Zq rfl rfl rfl rfl (by decide +kernel)
theorem Vt:(["_law_thing","_law_things_here","_law_number","_law_seen","_law_x","_law_many_here"]:List Str).Nodup:=by decide +kernel
abbrev bw:Stmt:=top 67
theorem Zg:FnScope ["_law_pen_here","_law_ladder","_law_things_here","_law_room","_law_deep","_law_counts_here","_law_total","_law_k","_law_x","_law_least","_law_most","_law_some","_law_number","_law_low","_law_high"] ["_law_pen_here","_law_ladder","_law_things_here"] (aa bw):=Zq rfl rfl rfl rfl (by decide +kernel)
theorem Ve:(["_law_thing","_law_pen_here","_law_ladder","_law_things_here","_law_room","_law_deep","_law_counts_here","_law_total","_law_k","_law_x","_law_least","_law_most","_law_some","_law_number","_law_low","_law_high"]:List Str).Nodup:=by decide +kernel
theorem Vd:(["_law_number","_law_pen_here","_law_ladder","_law_things_here","_law_room","_law_deep","_law_counts_here","_law_total","_law_k","_law_x","_law_least","_law_most","_law_some","#12","_law_low","_law_high"]:List Str).Nodup:=by decide +kernel
abbrev cX:Stmt:=top 68
theorem Y9:FnScope ["_law_pen_here","_law_counts_here","_law_way","_law_found","_law_stretch","_law_count","_law_left","_law_many_here","_law_low","_law_high","_law_number"] ["_law_pen_here","_law_counts_here","_law_way"] (aa cX):=Zq rfl rfl rfl rfl (by decide +kernel)
abbrev cz:Stmt:=top 69
theorem Xb:FnScope ["_law_pen_here","_law_ladder","_law_low","_law_high","_law_k","_law_x","_law_number","_law_due","_law_sums"] ["_law_pen_here","_law_ladder","_law_low","_law_high"] (aa cz):=Zq rfl rfl rfl rfl (by decide +kernel)
theorem T6:(["_law_things_here","_law_pen_here","_law_ladder","_law_low","_law_high","_law_k","_law_x","_law_number","_law_due","_law_sums"]:List Str).Nodup:=by decide +kernel
theorem T5:(["_law_thing","_law_things_here","_law_pen_here","_law_ladder","_law_low","_law_high","_law_k","_law_x","_law_number","_law_due","_law_sums"]:List Str).Nodup:=by decide +kernel
abbrev cV:Stmt:=top 70
theorem Ww:FnScope ["_law_script","_law_pen_here","_law_room","_law_deep","_law_tree_here","_law_ladder","_law_streams","_law_low","_law_high","_law_things_here"] ["_law_script"] (aa cV):=Zq rfl rfl rfl rfl (by decide +kernel)
def bY(K:W.Frag):Sp:=fun vs H Q _=>∃(a S:Addr)(ns:List Int)(n:Int),vs=[.ref a,.int n]∧Pn K S ns H a∧0<n∧n<1073741824∧
 ∀(d:Int)(H':Hp),0≤d→d<n→Pn K S ns H' a→Grw a H H'→Q (.int d) H'
def tW(K:W.Frag):Sp:=fun vs H Q _=>∃(S:Addr)(ns:List Int),vs=[.ref S]∧SqL K H S (ns.map V.int)∧ns.length≤63∧
 ∀(p:Addr)(H':Hp),H p=none→Same H H'→Pn K S ns H' p→Q (.ref p) H'
variable{P:Program}{w:World}{K:W.Frag}{mg:Str→Option Value}{base:Heap}{f:Addr}{fd:FuncData}
theorem vJ(F:Fun K "_law_pen" "_law_pen" gi f fd):FnOk P w K mg base CX0 1 f fd ["_law_script"] (tW K):=by
 refine F.ok oY (fun vs H Q E h=>?_) (fun cdv A outer s H vs Q E hr h=>?_)
 ·obtain⟨a,ns,rfl,_⟩:=h
  rfl
 obtain⟨S,ns,rfl,hS,h63,hq⟩:=h
 refine⟨_,(Z7 (Ze (Yh (Z1 (pv 0) (Z1 Z3 (Z1 Z3 Z0 (by rfl)) (by rfl)) (by rfl))))),?_⟩
 refine⟨_,rfl,leN rfl,fun p np=>?_⟩
 exact hq p _ np (Z6 np _) ⟨⟨0,0,Z5⟩,kS (Z6 np _) hS,h63⟩
theorem rF(aM:mg "len"=none)(F:Fun K "_law_take" "_law_take" dO f fd):FnOk P w K mg base CX0 1 f fd ["_law_pen_here","_law_most"] (bY K):=by
 refine F.ok Xk (fun vs H Q E h=>?_) (fun cdv A outer s H vs Q E hr h=>?_)
 ·obtain⟨a,S,ns,n,rfl,_⟩:=h
  rfl
 obtain⟨a,S,ns,n,rfl,hp,h0,h1,hq⟩:=h
 refine⟨_,(Z2 (Yl (Zi U1 (Zt Y7 (pv 0) Z3 (fun _ _=>rfl)) Z3 (Zk _)) (Z2 (Zw 2 Xk.nd rfl (Or.inl rfl) (Zb Wj (Zt Y7 (pv 0) Z3 (fun _ _=>rfl)) (pv 1)) (by rfl) (by rfl))
 (Z2 (Yy (Zb Xy (Zt Y7 (pv 0) Z3 (fun _ _=>rfl)) (pv 1)) (jZ (pv 0) Z3 Qq))
 (Z7 (Ze (pv 2))))) Zu)
 (Z2 (Zw 3 Xk.nd rfl (Or.inl rfl) (Zt Y7 (pv 0) Z3 (fun _ _=>rfl)) (by rfl) (by rfl))
 (Z2 (Zw 4 Xk.nd rfl (Or.inl rfl) (Zt Y7 (pv 0) Z3 (fun _ _=>rfl)) (by rfl) (by rfl))
 (Z2 (Yy (Zb Zs (pv 4) Z3) (jZ (pv 0) Z3 Qq))
 (Z2 (Zw 5 Xk.nd rfl (Or.inl rfl) (Zb Zs (Zb X7 Z3 (pv 4)) Z3) (by rfl) (by rfl))
 (Z2 (Yl (Zi U1 (Zo Y5 rfl aM Ax (Z1 (pv 3) Z0 (by rfl))) Z3 (Zk _)) (Z7 (Zw 5 Xk.nd rfl (Or.inl rfl) (Zb Zs (Zt Y7 (pv 3) (Zb Wj (pv 4) (Zo Y5 rfl aM Ax (Z1 (pv 3) Z0 (by rfl)))) (fun _ _=>rfl)) (Zb X7 Z3 (Zb Xy (pv 4) (Zo Y5 rfl aM Ax (Z1 (pv 3) Z0 (by rfl)))))) (by rfl) (by rfl))) Zu)
 (Z2 (Yl (PW.pt (Qu (Zi lz (pv 4) (Zo Y5 rfl aM Ax (Z1 (pv 3) Z0 (by rfl))) (Zk _)) (S3 (Zi lx (pv 5) (Zb Ub Z3 Z3) (Zk _))))) (Z2 (Yy (Zb Xy (pv 5) (pv 1)) (jZ (pv 0) Z3 Qq))
 (Z7 (Ze (Zb Wj (pv 5) (pv 1))))) Zu)
 (Z2 (Zw 6 Xk.nd rfl (Or.inl rfl) (Zb Wj (Zb X7 (Zb Zs (Zb Zs (Zb Wj (pv 5) Z3) (Zb X7 Z3 (pv 4))) Z3) Z3) Z3) (by rfl) (by rfl))
 (Z2 (Zw 6 Xk.nd rfl (Or.inl rfl) (Zb Wj (Zb Zs (Zb Zs (Zb X7 (pv 6) (pv 6)) (Zb X7 Z3 (pv 6))) (pv 4)) Z3) (by rfl) (by rfl))
 (Z7 (Ze (Zb Wj (Zb Xy (Zb Wj (Zb Zs (Zb Zs (Zb X7 (pv 6) (pv 6)) (Zb X7 Z3 (pv 6))) (Zb X7 Z3 (pv 4))) Z3) Z3) (pv 1))))))))))))),?_⟩
 obtain⟨i,r,e⟩:=hp.at_
 have hl:(ns.map V.int).length=ns.length:=pi _
 have few:=hp.few
 refine⟨_,rfl,a,_,2,_,rfl,rfl,SqL.of e,hW _ _ _,_,_,rfl,rfl,_,rfl,?_⟩
 refine W7 (fun c=>?_) (fun c=>?_)
 ·refine⟨_,rfl,a,_,2,_,rfl,rfl,SqL.of e,hW _ _ _,_,rfl,_,_,rfl,rfl,h0,?_⟩
  refine⟨_,rfl,a,_,2,_,rfl,rfl,SqL.of e,hW _ _ _,_,rfl,_,_,rfl,rfl,⟨h0,h1⟩,_,rfl,a,_,2,_,rfl,rfl,e,rfl,?_⟩
  exact⟨_,rfl,hq _ _ (Int.emod_nonneg _ (by omega)) (AG _ h0) (hp.upd _ _) Yw⟩
 refine⟨_,rfl,a,_,0,_,rfl,rfl,SqL.of e,xn _ _ _,?_⟩
 refine⟨_,rfl,a,_,1,_,rfl,rfl,SqL.of e,pE _ _ _,?_⟩
 refine⟨_,rfl,_,_,rfl,rfl,_,rfl,a,_,1,_,rfl,rfl,e,rfl,?_⟩
 have hp1:=hp.upd (i+1) r
 have g1:Grw a H (upd H a (.lst [.ref S,.int (i+1),.int r])):=Yw
 show _
 have e1:(upd H a (.lst [.ref S,.int (i+1),.int r])) a=some (.lst [.ref S,.int (i+1),.int r]):=Z5
 have hS:=hp1.scr
 refine⟨_,rfl,_,_,rfl,rfl,m_ rfl rfl,_,_,rfl,rfl,?_⟩
 refine⟨_,rfl,S,_,rfl,.inl hS,_,_,rfl,rfl,_,rfl,?_⟩
 refine W7 (fun c=>?_) (fun c=>?_)
 focus
  have c:=yO c
  rw[hl]at c
  have hm:=Int.emod_nonneg i (show(ns.length:Int)≠0 by omega)
  have hm2:=AG i c
  obtain⟨v,hv,hmem⟩:=qU (xs:=ns.map V.int) hm (by rw[hl];exact hm2)
  obtain⟨n1,_,rfl⟩:=yD.mp hmem
  refine⟨_,rfl,_,rfl,_,rfl,S,_,rfl,.inl hS,_,_,rfl,rfl,by rw[hl];exact c,S,_,_,_,rfl,rfl,hS,by rw[hl];exact hv,?_⟩
  refine⟨_,rfl,_,rfl,S,_,rfl,.inl hS,_,_,rfl,rfl,⟨by rw[hl];exact c,by rw[hl];omega⟩,_,_,rfl,rfl,m_ rfl rfl,_,_,rfl,rfl,?_⟩
 all_goals
  refine⟨_,rfl,_,rfl,S,_,rfl,.inl hS,_,_,rfl,rfl,_,rfl,?_⟩
  refine W7 (fun c1=>?_) (fun c1=>?_)
  focus
   refine⟨_,rfl,_,_,rfl,rfl,gE rfl rfl rfl,_,_,rfl,rfl,_,rfl,?_⟩
   refine W7 (fun c2=>?_) (fun c2=>?_)
   focus
    refine⟨_,rfl,_,rfl,_,_,rfl,rfl,⟨h0,h1⟩,_,rfl,a,_,2,_,rfl,rfl,e1,rfl,?_⟩
    refine⟨_,rfl,_,rfl,_,_,rfl,rfl,h0,?_⟩
    exact hq _ _ (Int.emod_nonneg _ (by omega)) (AG _ h0) (hp1.upd _ _) (g1.trans Yw)
  all_goals
   refine⟨_,rfl,_,_,rfl,rfl,Wz rfl,_,rfl,_,_,rfl,rfl,m_ rfl rfl,_,_,rfl,rfl,_,_,rfl,rfl,_,_,rfl,rfl,mulR rfl rfl,_,_,rfl,rfl,Wz rfl,?_⟩
   refine⟨_,rfl,_,rfl,_,_,rfl,rfl,wx _ _ _ rfl rfl,_,rfl,_,_,rfl,rfl,m_ rfl rfl,_,_,rfl,rfl,_,rfl,_,_,rfl,rfl,_,_,rfl,rfl,Wz rfl,?_⟩
   refine⟨_,rfl,_,rfl,_,_,rfl,rfl,wx _ _ _ rfl rfl,_,rfl,_,_,rfl,rfl,m_ rfl rfl,_,_,rfl,rfl,_,rfl,_,_,rfl,rfl,m_ rfl rfl,_,_,rfl,rfl,_,_,rfl,rfl,Wz rfl,_,_,rfl,rfl,qz rfl rfl,_,rfl,_,_,rfl,rfl,h0,?_⟩
   exact hq _ _ (Int.emod_nonneg _ (by omega)) (AG _ h0) hp1 g1
end K31
namespace L2
open PySem PySem.Spec PyProof.Rows
theorem Paired.mem1{α β:Type}{F:α→β→Prop}:∀{xs:List α}{ys:List β},Paired F xs ys→∀x∈xs,∃y∈ys,F x y
 | _,_,.nil,_,h=>nomatch h
 | _,_,.cons f r,x,h=>by
  rcases yU.mp h with rfl | h
  ·exact⟨_,.head _,f⟩
  ·obtain⟨y,hy,q⟩:=Paired.mem1 r x h
   exact⟨y,.tail _ hy,q⟩
theorem Paired.mem2{α β:Type}{F:α→β→Prop}:∀{xs:List α}{ys:List β},Paired F xs ys→∀y∈ys,∃x∈xs,F x y
 | _,_,.nil,_,h=>nomatch h
 | _,_,.cons f r,y,h=>by
  rcases yU.mp h with rfl | h
  ·exact⟨_,.head _,f⟩
  ·obtain⟨x,hx,q⟩:=Paired.mem2 r y h
   exact⟨x,.tail _ hx,q⟩
section
variable{prog:Program}{w:World}{A:Around}{E:Value→Shared→Prop}{s:Shared}{a:Addr}{ks:List Key}
end
section
variable{prog:Program}{w:World}{A:Around}{E:Value→Shared→Prop}{s:Shared}
end
section
variable{prog:Program}{w:World}{A:Around}{R:Result→Shared→Prop}{I:Addr}{fp wr:List Addr}{n:Nat}{P:Nat→Value→Prop}{St:Nat→Heap→Prop}
end
section
variable{prog:Program}{w:World}{A:Around}{E:Value→Shared→Prop}{s:Shared}
end
section
variable{X:Cx}
end
theorem jv:firstArgMember (.type "StopIteration") []=pure .none:=by kernel_rfl
theorem nN:ownMembersOf (.type "StopIteration") []=#[]:=by kernel_rfl
section
variable{prog:Program}{w:World}{A:Around}{E:Value→Shared→Prop}{s:Shared}
theorem Qt{α:Type}{Q:α→Shared→Prop}(hh:A.handled=none)(k:∀h' e,(∀b o,s.heap.get? b=some o→h'.get? b=some o)→Shared.TypeIs {s with heap:=h'} (.ref e) "StopIteration"→E (.ref e) {s with heap:=h'}):
  wpAny (model prog w) A (do
   let x ←newExc (.type "StopIteration") []
   raiseNew x:Sem α) Q E s:=by
 refine io ?_
 unfold newExc
 refine io (wpAny_newTuple ?_ (AQ _))
 rw[jv,nN]
 refine io (yB (Am (wpAny_raiseNew_none hh (k _ _ (fun b o e=>yA _ (yA _ e)) ⟨_,yX _ rfl,rfl⟩))))
variable{a:Addr}{o:Obj}{es:Array (Int×Value)}{ep:Nat}{t:SetTable}
end
section
variable{prog:Program}{w:World}{A:Around}{E:Value→Shared→Prop}{s:Shared}
end
section
variable{prog:Program}{w:World}{A:Around}{a it:Addr}{o:Obj}{es:Array (Int×Value)}{ep:Nat}{t:SetTable}
end
section
variable{prog:Program}{w:World}{A:Around}{E:Value→Shared→Prop}{s:Shared}{a:Addr}{ks:List Key}
theorem jR{α:Type}{M:Model}{c:Bool}{X Y:Sem α}{Q:α→Shared→Prop}(h:c=true)(q:wpAny M A X Q E s):wpAny M A (if c=true then X else Y) Q E s:=by
 rw[yC h];exact q
end
section
variable{X:Cx}
end
section
variable{X:Cx}
end
section
variable{prog:Program}{w:World}{A:Around}{E:Value→Shared→Prop}{s:Shared}
end
section
variable{X:Cx}
end
section
variable{X:Cx}{AU:List (Addr×Obj)}{σ:St}{H:Hp}{s:Shared}
end
end L2
namespace L2
open PySem PySem.Spec PyProof.Rows
section
variable{α:Type}{K:W.Frag}{a:Addr}{xs:List V}{ks:List α}{k:Nat}{g:TG}{tt:TT}{te:TE}{σ:St}{H:Hp}{Q:VK}
end
end L2
namespace L2
open PySem PySem.Spec PyProof.Rows PySem.Builtin PySem.Builtin.Str
theorem sK{H H':Hp}{a l:Addr}{o:HO}(g:Grw a H H')(n:av a H l=none):Grw a H (upd H' l o):=fun b u e=>by
 have hb:b≠l:=fun q=>by rw[q,n]at e;cases e
 have e2:=g b u e
 obtain⟨h1,h2⟩:=Zc e2
 rw[Zh h1,Za hb]
 exact h2
theorem pC(K:W.Frag){X:Cx}{tg l:Expr}{tl:TE}(h:X.K=K)(hl:PE X l tl):PI X tg l (ui K tl):=h ▸ Y4 hl
end L2
namespace HT
open PySem PySem.Spec PyProof.Rows
section
variable{prog:Program}{w:World}{A:Around}{E:Value→Shared→Prop}{s:Shared}
theorem getItem_tuple_whole{t sl:Addr}{items:Array Value}{vl vu:Value}{lo hi:Option Int}{Q:Value→Shared→Prop}(ht:IsTup s.heap t items)(hs:s.heap.IsSliceOf sl vl vu .none)(pl:IsPart vl lo)(pu:IsPart vu hi)(hw:sIx items.size 0 lo=0∧sIx items.size items.size hi=items.size)(h:Q (.ref t) s):wpAny (model prog w) A (getItem (.ref t) (.ref sl)) Q E s:=by
 obtain⟨os,hos,hcs,hds⟩:=id hs
 have hTs:s.TypeIs (.ref sl) "slice":=⟨os,hos,hcs⟩
 have ty:=ht.typeIs
 unfold getItem
 try with_reducible refine zJ ?_
 first | refine io (yB ?_) | skip
 refine io (wpAny_sequenceKey ht.typeIs (by decide) ?_)
 refine io (wpAny_callSpecial?_slot (name:=Str.ofString "__getitem__") ht.typeIs PyProof.Rows.slot_tuple_getitem
  (As PyProof.Rows.slot_tuple_getitem ht.typeIs entry_tuple_getitem ?_ (args_tuple_getitem _ _)))
 show wpAny _ _ (Builtin.Tuple.tupleItemsOf (.ref t) >>= _) _ _ s
 refine io (tupleItemsOf_ ht ?_)
 refine io (wpAny_typeOf hTs ?_)
 rw[yC (by decide)]
 refine io (V6 hs pl pu ?_)
 have hyes:(((sIx items.size 0 lo:Nat):Int) == 0 && (1:Int) == 1 && (sIx items.size items.size hi - sIx items.size 0 lo) == items.size)=true:=by
  rw[hw.1,hw.2];simp
 show wpAny _ _ (if (((sIx items.size 0 lo:Nat):Int) == 0 && (1:Int) == 1 && (sIx items.size items.size hi - sIx items.size 0 lo) == items.size)=true then _ else _) _ _ s
 rw[yC hyes]
 refine io (m:=Builtin.Tuple.tupleIsExact (.ref t)) ?_
 refine io (wpAny_typeOf ty (yB ?_))
 rw[yC (by decide)]
 refine io (m:=rule _) (AR ?_)
 exact yB ⟨_,rfl,yB h⟩
end
end HT
namespace L2
open PySem PySem.Spec PyProof.Rows
section
variable{X:Cx}
def rSlG:V→Option Int→Option Int→Hp→VK→Prop:=fun x lo hi H Q=>∃a xs,x=.ref a∧H a=some (.tup xs)∧∀(c:Addr)(H':Hp),Same H H'→H' c=some (.tup (cU xs lo hi))→Q (.ref c) H'
theorem kF:SlR X rSlG:=by
 intro AU s σ H x v vl vu lo hi sl Q I rx hs pl pu h
 obtain⟨a,xs,rfl,hx,q⟩:=h
 by_cases hw:HT.sIx xs.length 0 lo=0∧HT.sIx xs.length xs.length hi=xs.length
 ·cases rx
  obtain⟨its,r,ht,hz⟩:=I.tuple (SqT.of hx)
  have Bb:its.toArray.size=xs.length:=by rw[zo];exact r.length.symm
  refine⟨"tuple",_,PyProof.Rows.slot_tuple_getitem.lookup,ht.typeIs,?_⟩
  refine HT.getItem_tuple_whole ht hs pl pu (by rw[Bb];exact hw) ⟨.ref a,H,I,rfl,q a H (Same.refl _) ?_⟩
  unfold cU
  rw[hw.1,hw.2,List.drop_zero,Nat.sub_zero,zn]
  exact hx
 ·exact v9 AU s σ H _ v vl vu lo hi sl Q I rx hs pl pu ⟨a,xs,rfl,SqT.of hx,hw,fun p np=>q p _ (Z6 np _) Z5⟩
end
section
variable{X:Cx}
end
section
variable{a l d:Addr}{fz:HO}{Hf H' H'':Hp}{xs:List V}{ts:List Th}
end
end L2
namespace HT
open PySem PySem.Spec PyProof.Rows
section
variable{prog:Program}{w:World}{A:Around}{E:Value→Shared→Prop}{s:Shared}
end
end HT
namespace L2
open PySem PySem.Spec PyProof.Rows
section
variable{X:Cx}
end
def aQ(prog:Program)(w:World)(A:Around)(s:Shared)(κ:KeyKind)(kd:SortKind):Prop:=
 ∀(E:Value→Shared→Prop)(x y:Value)(a b:κ.α)(Q:Bool→Shared→Prop),κ.keyOf x=some a→κ.keyOf y=some b→Q (κ.blt a b) s→wpAny (model prog w) A (keyLt' kd x y) Q E s
structure Sst(kd:SortKind)(xs0:Array Keyed)(st:SortSt):Prop where
 pm:(arrOf st).Perm xs0
 kn:kindOf st=kd
 pd:pendingOf st=#[]
 fl:failedOf st=none
def Rz(κ:KeyKind)(xs:Array Keyed)(n:Nat):Prop:=∀i j,i≤j→j<n→κ.blt (KK κ xs j) (KK κ xs i)=false
section
variable{prog:Program}{w:World}{A:Around}{E:Value→Shared→Prop}{s:Shared}{κ:KeyKind}{kd:SortKind}{xs0:Array Keyed}{st:SortSt}
theorem Sst.sz(b:Sst kd xs0 st):(arrOf st).size=xs0.size:=b.pm.size_eq
theorem ltF{a b c:κ.α}(h:κ.blt b a=false)(g:κ.blt c b=false):κ.blt c a=false:=by
 rcases e:κ.blt c a with _ | _
 ·rfl
 ·rcases κ.negTrans c b a e with q | q
  ·rw[g]at q;exact q.symm
  ·rw[h]at q;exact q.symm
theorem ltA{a b:κ.α}(h:κ.blt a b=true):κ.blt b a=false:=by
 rcases e:κ.blt b a with _ | _
 ·rfl
 ·have q:=κ.trans a b a h e
  rw[κ.irrefl]at q
  exact q.symm
theorem Rm{i j:Nat}{Q:Unit→SortSt→Prop}(q:Q () (setArr st (mirror (arrOf st) i j ((j - i) / 2)))):wpS (model prog w) A E s (reverseSlice' i j) Q st:=by
 rw[reverseSlice'_eq]
 exact wpS_modify q
end
def aC:KeyOrd where
 α:=Int
 blt a b:=decide (a<b)
 irrefl a:=ze (Int.lt_irrefl a)
 trans a b c h g:=yG (Int.lt_trans (yO h) (yO g))
 negTrans a b c h:=by
  have h:=yO h
  rcases Int.lt_or_le a b with q | q
  ·exact .inl (yG q)
  ·exact .inr (yG (by omega))
 total a b h g:=by
  have h:=z8 h
  have g:=z8 g
  omega
def cQ(O U:KeyOrd)(a b:O.α×U.α):Bool:=O.blt a.1 b.1 || (!O.blt b.1 a.1 && U.blt a.2 b.2)
theorem Yj{O U:KeyOrd}{a b:O.α×U.α}:cQ O U a b=true↔O.blt a.1 b.1=true∨(a.1=b.1∧U.blt a.2 b.2=true):=by
 unfold cQ
 constructor
 ·intro h
  rcases e:O.blt a.1 b.1 with _ | _
  ·rw[e,Bool.false_or,zI,Bool.not_eq_true']at h
   exact .inr ⟨O.total _ _ e h.1,h.2⟩
  ·exact .inl rfl
 ·rintro(h | ⟨e,h⟩)
  ·rw[h,Bool.true_or]
  ·rw[e,O.irrefl,Bool.false_or,h]
   rfl
def bI(O U:KeyOrd):KeyOrd where
 α:=O.α×U.α
 blt:=cQ O U
 irrefl a:=by
  rcases e:cQ O U a a with _ | _
  ·rfl
  ·rcases Yj.mp e with h | ⟨_,h⟩
   ·rw[O.irrefl]at h;exact h.symm
   ·rw[U.irrefl]at h;exact h.symm
 trans a b c h g:=by
  rw[Yj]at *
  rcases h with h | ⟨e,h⟩
  ·rcases g with g | ⟨e',g⟩
   ·exact .inl (O.trans _ _ _ h g)
   ·exact .inl (e' ▸ h)
  ·rcases g with g | ⟨e',g⟩
   ·exact .inl (e ▸ g)
   ·exact .inr ⟨e.trans e',U.trans _ _ _ h g⟩
 negTrans a b c h:=by
  rw[Yj]at *
  rw[Yj]
  rcases h with h | ⟨e,h⟩
  ·rcases O.negTrans _ b.1 _ h with q | q
   ·exact .inl (.inl q)
   ·exact .inr (.inl q)
  ·rcases e1:O.blt a.1 b.1 with _ | _
   ·rcases e2:O.blt b.1 a.1 with _ | _
    ·have ab:=O.total _ _ e1 e2
     rcases U.negTrans _ b.2 _ h with q | q
     ·exact .inl (.inr ⟨ab,q⟩)
     ·exact .inr (.inr ⟨ab.symm.trans e,q⟩)
    ·exact .inr (.inl (e ▸ e2))
   ·exact .inl (.inl rfl)
 total a b h g:=by
  have n1:∀{a b:O.α×U.α},cQ O U a b=false→O.blt a.1 b.1=false:=fun{a b} h=>by
   rcases e:O.blt a.1 b.1 with _ | _
   ·rfl
   ·rw[Yj.mpr (.inl e)]at h;exact h
  have e:=O.total _ _ (n1 h) (n1 g)
  have n2:∀{a b:O.α×U.α},a.1=b.1→cQ O U a b=false→U.blt a.2 b.2=false:=fun{a b} e h=>by
   rcases q:U.blt a.2 b.2 with _ | _
   ·rfl
   ·rw[Yj.mpr (.inr ⟨e,q⟩)]at h;exact h
  exact z6 e (U.total _ _ (n2 e h) (n2 e.symm g))
def eM(O:KeyOrd)(R:Value→O.α→Prop)(d:O.α):KeyKind:={O with keyOf:=fun v=>open Classical in if h:∃a,R v a then some h.choose else none,dflt:=d}
theorem eU{O:KeyOrd}{R:Value→O.α→Prop}{d:O.α}{v:Value}{a:O.α}(h:(eM O R d).keyOf v=some a):R v a:=by
 unfold eM at h
 simp only at h
 split at h
 ·rename_i q
  cases h
  exact q.choose_spec
 ·cases h
theorem kg{O:KeyOrd}{R:Value→O.α→Prop}{d:O.α}{v:Value}{a:O.α}(h:R v a):∃b,(eM O R d).keyOf v=some b:=by
 refine⟨(⟨a,h⟩:∃a,R v a).choose,?_⟩
 unfold eM
 simp only
 rw[dif_pos ⟨a,h⟩]
def eqO(O:KeyOrd)(a b:O.α):Bool:=!O.blt a b && !O.blt b a
theorem Sj{O:KeyOrd}{a b:O.α}:eqO O a b=true↔a=b:=by
 unfold eqO
 constructor
 ·intro h
  rw[zI,Bool.not_eq_true',Bool.not_eq_true']at h
  exact O.total _ _ h.1 h.2
 ·rintro rfl
  rw[O.irrefl]
  rfl
def cy(h h':Heap):Prop:=∀b o,h.get? b=some o→o.cls=.type "tuple"→h'.get? b=some o
structure El(prog:Program)(w:World)(O:KeyOrd)(R:Heap→Value→O.α→Prop)(T:String):Prop where
 mono:∀{h h':Heap}{v:Value}{a:O.α},cy h h'→R h v a→R h' v a
 fn:∀{h:Heap}{v:Value}{a b:O.α},R h v a→R h v b→a=b
 ty:∀{s:Shared}{v:Value}{a:O.α},R s.heap v a→s.TypeIs v T
 eq:∀{A:Around}{E:Value→Shared→Prop}{s:Shared}{u v:Value}{a b:O.α}{Q:Bool→Shared→Prop},A.units+8<cLine→R s.heap u a→R s.heap v b→Q (eqO O a b) s→wpAny (model prog w) A (eqBool u v) Q E s
 lt:∀{A:Around}{E:Value→Shared→Prop}{s:Shared}{u v:Value}{a b:O.α}{Q:Bool→Shared→Prop}(f:Bool),(f=true→T≠"tuple")→A.units+8<cLine→R s.heap u a→R s.heap v b→Q (O.blt a b) s→wpAny (model prog w) A (oneLt' f u v) Q E s
theorem eqI(a b:Int):(a == b)=eqO aC a b:=by
 rw[zZ,zk]
 exact(Sj (O:=aC)).symm
def we(_:Heap)(v:Value)(a:aC.α):Prop:=∃t,v=.int a t
theorem U0{prog:Program}{w:World}:El prog w aC we "int" where
 mono _ h:=h
 fn h g:=by
  obtain⟨t,rfl⟩:=h
  obtain⟨u,e⟩:=g
  cases e
  rfl
 ty h:=by
  obtain⟨t,rfl⟩:=h
  exact typeIs_int _ _ _
 eq {A E s u v a b Q} _ h g q:=by
  obtain⟨t,rfl⟩:=h
  obtain⟨u,rfl⟩:=g
  refine wpAny_eqBool_int ?_
  exact(eqI a b) ▸ q
 lt {A E s u v a b Q} f _ _ h g q:=by
  obtain⟨t,rfl⟩:=h
  obtain⟨u,rfl⟩:=g
  cases f with
  | true=>exact oneLt_int q
  | false=>
   rw[oneLt'_eq]
   rw[yy yL]
   exact io (wpAny_richCompare_same (op:=.Lt) (typeIs_int _ _ _) (typeIs_int _ _ _) slot_int_lt (call_int_lt ⟨(fun x=>nomatch x),Al q⟩))
def bf{O U:KeyOrd}(R:Heap→Value→O.α→Prop)(S:Heap→Value→U.α→Prop)(h:Heap)(v:Value)(a:O.α×U.α):Prop:=
 ∃c o n x y,v=.ref c∧h.get? c=some o∧o.cls=.type "tuple"∧o.data=.seq #[x,y] n∧R h x a.1∧S h y a.2
section
variable{prog:Program}{w:World}{O U:KeyOrd}{R:Heap→Value→O.α→Prop}{S:Heap→Value→U.α→Prop}{T V:String}
theorem Xc(e:El prog w O R T)(f:El prog w U S V){h h':Heap}{v:Value}{a:O.α×U.α}(st:cy h h')(p:bf R S h v a):bf R S h' v a:=by
 obtain⟨c,o,n,x,y,rfl,ho,hc,hd,h1,h2⟩:=p
 exact⟨c,o,n,x,y,rfl,st _ _ ho hc,hc,hd,e.mono st h1,f.mono st h2⟩
theorem lO(e:El prog w O R T)(f:El prog w U S V){h:Heap}{v:Value}{a b:O.α×U.α}(p:bf R S h v a)(q:bf R S h v b):a=b:=by
 obtain⟨c,o,n,x,y,rfl,ho,hc,hd,h1,h2⟩:=p
 obtain⟨c',o',n',x',y',e1,ho',hc',hd',g1,g2⟩:=q
 cases e1
 rw[ho]at ho'
 cases ho'
 rw[hd]at hd'
 cases hd'
 exact z6 (e.fn h1 g1) (f.fn h2 g2)
theorem mT(b:Bool)(x y:Value):keyLt' (tuples' b) x y=(do
  let xs ←Builtin.List.listItems x
  let ys ←Builtin.List.listItems y
  for ((p,q),i) in (xs.toList.zip ys.toList).zipIdx do
   if !(←eqBool p q)then return ←oneLt' (b && i == 0) p q
  return decide (xs.size<ys.size)):=rfl
theorem tM(e:El prog w O R T)(f:El prog w U S V){A:Around}{E:Value→Shared→Prop}{s:Shared}{x y:Value}{a b:O.α×U.α}{Q:Bool→Shared→Prop}(hu:A.units+8<cLine)(bb:Bool)(hb:bb=true→T≠"tuple")(ha:bf R S s.heap x a)(hb':bf R S s.heap y b)(q:Q (cQ O U a b) s):wpAny (model prog w) A (keyLt' (tuples' bb) x y) Q E s:=by
 obtain⟨c,o,n,x1,x2,rfl,ho,hc,hd,h1,h2⟩:=ha
 obtain⟨c',o',n',y1,y2,rfl,ho',hc',hd',g1,g2⟩:=hb'
 rw[mT]
 refine io (listItems_at ho hd ?_)
 refine io (listItems_at ho' hd' ?_)
 show wpAny _ _ (forIn [((x1,y1),0),((x2,y2),1)] _ _ >>= _) _ _ s
 rw[List.forIn_cons]
 refine io (io (io (e.eq hu h1 g1 ?_)))
 rcases e1:eqO O a.1 b.1 with _ | _
 ·rw[Bool.not_false,yC rfl]
  have ne:a.1≠b.1:=fun z=>by rw[Sj.mpr z]at e1;cases e1
  have q:Q (O.blt a.1 b.1) s:=by
   have z:cQ O U a b=O.blt a.1 b.1:=by
    rw[zZ,Yj]
    exact⟨fun h=>h.elim id fun h=>absurd h.1 ne,.inl⟩
   rw[z]at q
   exact q
  exact io (e.lt _ (fun z=>hb (by rw[zI]at z;exact z.1)) hu h1 g1 (yB (yB (yB q))))
 ·rw[Bool.not_true,yy yL]
  have ea:=Sj.mp e1
  refine yB ?_
  show wpAny _ _ (forIn [((x2,y2),1)] _ _) _ _ s
  rw[List.forIn_cons]
  refine io (io (f.eq hu h2 g2 ?_))
  rcases e2:eqO U a.2 b.2 with _ | _
  ·rw[Bool.not_false,yC rfl]
   have q:Q (U.blt a.2 b.2) s:=by
    have z:cQ O U a b=U.blt a.2 b.2:=by
     rw[zZ,Yj]
     constructor
     ·rintro(h | h)
      ·rw[ea,O.irrefl]at h;cases h
      ·exact h.2
     ·exact fun h=>.inr ⟨ea,h⟩
    rw[z]at q
    exact q
   exact io (f.lt _ (fun z=>by rw[zI]at z;exact absurd z.2 (by decide)) hu h2 g2 (yB (yB (yB q))))
  ·rw[Bool.not_true,yy yL]
   have eb:=Sj.mp e2
   have q:Q false s:=by
    have z:cQ O U a b=false:=by
     rcases y:cQ O U a b with _ | _
     ·rfl
     ·rcases Yj.mp y with h | h
      ·rw[ea,O.irrefl]at h;exact h.symm
      ·rw[eb,U.irrefl]at h;exact h.2.symm
    rw[z]at q
    exact q
   refine yB ?_
   show wpAny _ _ (forIn [] _ _) _ _ s
   rw[List.forIn_nil]
   exact yB (yB q)
theorem qy(e:El prog w O R T)(f:El prog w U S V){A:Around}{s:Shared}(hu:A.units+8<cLine)(d:O.α×U.α)(bb:Bool)(hb:bb=true→T≠"tuple"):aQ prog w A s (eM (bI O U) (bf R S s.heap) d) (tuples' bb):=
 fun E x y a b Q ha hb' q=>tM e f hu bb hb (eU ha) (eU hb') q
theorem mW(a b:Int×Int):HT.lexLt [a.1,a.2] [b.1,b.2]=cQ aC aC a b:=by
 rw[zZ]
 refine Iff.trans ?_ (Yj (O:=aC) (U:=aC) (a:=a) (b:=b)).symm
 rw[HT.lexLt_cons,HT.lexLt_cons,HT.lexLt_nil_nil]
 show _↔decide (a.1<b.1)=true∨(a.1=b.1∧decide (a.2<b.2)=true)
 rw[decide_eq_true_iff,decide_eq_true_iff]
 by_cases c:a.1=b.1
 ·rw[yC c]
  by_cases c2:a.2=b.2
  ·rw[yC c2]
   exact⟨fun h=>(by cases h),fun h=>by omega⟩
  ·rw[yy c2,decide_eq_true_iff]
   exact⟨fun h=>.inr ⟨c,h⟩,fun h=>by omega⟩
 ·rw[yy c,decide_eq_true_iff]
  exact⟨.inl,fun h=>by omega⟩
def uQ:Heap→Value→(bI aC aC).α→Prop:=bf we we
theorem Qf{h:Heap}{v:Value}{a:Int×Int}(p:uQ h v a):∃c its,v=.ref c∧IsTup h c its∧IntsAre its.toList [a.1,a.2]:=by
 obtain⟨c,o,n,x,y,rfl,ho,hc,hd,⟨t,rfl⟩,⟨u,rfl⟩⟩:=p
 exact⟨c,_,rfl,⟨o,ho,hc,n,hd⟩,.cons _ _ (.cons _ _ .nil)⟩
theorem j_{h:Heap}{v:Value}{a:Int×Int}(p:uQ h v a):∃c,v=.ref c∧IsTupleKey (aj prog w) h [.inl a.1,.inl a.2] c:=by
 obtain⟨c,o,n,x,y,rfl,ho,hc,hd,⟨t,rfl⟩,⟨u,rfl⟩⟩:=p
 exact⟨c,rfl,o,_,n,ho,hc,hd,.cons (Ue prog w _ _) (.cons (Ue prog w _ _) .nil)⟩
theorem vq:El prog w (bI aC aC) uQ "tuple" where
 mono st p:=Xc (prog:=prog) (w:=w) U0 U0 st p
 fn p q:=lO (prog:=prog) (w:=w) U0 U0 p q
 ty p:=by
  obtain⟨c,its,rfl,t,_⟩:=Qf p
  exact t.typeIs
 eq {A E s u v a b Q} hu p p' q:=by
  obtain⟨c,rfl,k⟩:=j_ (prog:=prog) (w:=w) p
  obtain⟨c',rfl,k'⟩:=j_ (prog:=prog) (w:=w) p'
  refine wpAny_eqBool_tuple (Nat.lt_of_le_of_lt (Nat.le_add_right _ 8) hu) k k' ?_
  have z:decide (([.inl a.1,.inl a.2]:List Key)=[.inl b.1,.inl b.2])=eqO (bI aC aC) a b:=by
   rw[zZ,decide_eq_true_iff,Sj]
   constructor
   ·intro h
    injection h with h1 h2
    injection h2 with h2 _
    exact z6 (Sum.inl.inj h1) (Sum.inl.inj h2)
   ·rintro rfl
    rfl
  rw[z]
  exact q
 lt {A E s u v a b Q} f hf hu p p' q:=by
  obtain⟨c,its,rfl,t,i⟩:=Qf p
  obtain⟨c',its',rfl,t',i'⟩:=Qf p'
  cases f with
  | true=>exact absurd rfl (hf rfl)
  | false=>
   rw[oneLt'_eq]
   rw[yy yL]
   refine io (HT.lt_tupInts t t' i i' (Nat.lt_of_le_of_lt (Nat.le_add_right _ 8) hu) (Al ?_))
   exact(mW a b) ▸ q
end
end L2
namespace L2T
open PySem PySem.Spec PyProof.Rows L2
def ky(κ:KeyKind)(p:Keyed):κ.α:=(κ.keyOf p.1).getD κ.dflt
def leK(κ:KeyKind)(p q:Keyed):Prop:=κ.blt (ky κ q) (ky κ p)=false
def Srt(κ:KeyKind)(l:List Keyed):Prop:=l.Pairwise (leK κ)
section
variable{κ:KeyKind}
theorem leK.refl(p:Keyed):leK κ p p:=κ.irrefl _
theorem leK.trans{p q r:Keyed}(h:leK κ p q)(g:leK κ q r):leK κ p r:=ltF h g
theorem leK.of{p q:Keyed}(h:κ.blt (ky κ p) (ky κ q)=true):leK κ p q:=ltA h
structure Mi(κ:KeyKind)(W out A B:List Keyed):Prop where
 pm:(out++(A++B)).Perm W
 so:Srt κ out
 sa:Srt κ A
 sb:Srt κ B
 le:∀x∈out,∀y∈A++B,leK κ x y
theorem Mi.a{W out X A B:List Keyed}(h:Mi κ W out (X++A) B)(hl:∀x∈X,∀y∈B,leK κ x y):Mi κ W (out++X) A B:=by
 have sa:=zB.mp h.sa
 refine⟨?_,zB.mpr ⟨h.so,sa.1,fun x hx y hy=>h.le x hx y (zw _ (zw _ hy))⟩,sa.2.1,h.sb,?_⟩
 ·have:=h.pm
  simpa [List.append_assoc] using this
 ·intro x hx y hy
  rcases yY.mp hx with hx | hx
  ·refine h.le x hx y ?_
   rcases yY.mp hy with hy | hy
   ·exact zw _ (yP _ hy)
   ·exact yP _ hy
  ·rcases yY.mp hy with hy | hy
   ·exact sa.2.2 x hx y hy
   ·exact hl x hx y hy
theorem Mi.sw{W out A B:List Keyed}(h:Mi κ W out A B):Mi κ W out B A:=
 ⟨((List.perm_append_comm).append_left out).trans h.pm,h.so,h.sb,h.sa,fun x hx y hy=>h.le x hx y (yY.mpr (Or.symm (yY.mp hy)))⟩
theorem Mi.b{W out X A B:List Keyed}(h:Mi κ W out A (X++B))(hl:∀x∈X,∀y∈A,leK κ x y):Mi κ W (out++X) A B:=(h.sw.a hl).sw
theorem Mi.fin{W out A B:List Keyed}(h:Mi κ W out A B)(hl:∀x∈A,∀y∈B,leK κ x y):(out++A++B).Perm W∧Srt κ (out++A++B):=by
 refine⟨by rw[zA];exact h.pm,?_⟩
 rw[zA]
 exact zB.mpr ⟨h.so,zB.mpr ⟨h.sa,h.sb,hl⟩,h.le⟩
structure Mh(κ:KeyKind)(W out A B:List Keyed):Prop where
 pm:((A++B)++out).Perm W
 so:Srt κ out
 sa:Srt κ A
 sb:Srt κ B
 le:∀x∈A++B,∀y∈out,leK κ x y
theorem Mh.b{W out X A B:List Keyed}(h:Mh κ W out A (B++X))(hl:∀x∈X,∀y∈A,leK κ y x):Mh κ W (X++out) A B:=by
 have sb:=zB.mp h.sb
 refine⟨?_,zB.mpr ⟨sb.2.1,h.so,fun x hx y hy=>h.le x (yP _ (yP _ hx)) y hy⟩,h.sa,sb.1,?_⟩
 ·have:=h.pm
  simpa [List.append_assoc] using this
 ·intro x hx y hy
  rcases yY.mp hy with hy | hy
  ·rcases yY.mp hx with hx | hx
   ·exact hl y hy x hx
   ·exact sb.2.2 x hx y hy
  ·refine h.le x ?_ y hy
   rcases yY.mp hx with hx | hx
   ·exact zw _ hx
   ·exact yP _ (zw _ hx)
theorem Mh.sw{W out A B:List Keyed}(h:Mh κ W out A B):Mh κ W out B A:=
 ⟨((List.perm_append_comm).append_right out).trans h.pm,h.so,h.sb,h.sa,fun x hx y hy=>h.le x (yY.mpr (Or.symm (yY.mp hx))) y hy⟩
theorem Mh.a{W out X A B:List Keyed}(h:Mh κ W out (A++X) B)(hl:∀x∈X,∀y∈B,leK κ y x):Mh κ W (X++out) A B:=(h.sw.b hl).sw
theorem Mh.fin{W out A B:List Keyed}(h:Mh κ W out A B)(hl:∀x∈A,∀y∈B,leK κ x y):(A++B++out).Perm W∧Srt κ (A++B++out):=
 ⟨h.pm,zB.mpr ⟨zB.mpr ⟨h.sa,h.sb,hl⟩,h.so,h.le⟩⟩
theorem Srt.at{l:List Keyed}(h:Srt κ l){i j:Nat}{x y:Keyed}(hij:i≤j)(hx:l[i]?=some x)(hy:l[j]?=some y):leK κ x y:=by
 rcases zL i j with c | c
 ·obtain⟨hi,rfl⟩:=yK.mp hx
  obtain⟨hj,rfl⟩:=yK.mp hy
  exact List.pairwise_iff_getElem.mp h i j hi hj c
 ·obtain rfl:i=j:=by omega
  rw[hx]at hy
  cases hy
  exact leK.refl _
theorem N2{xs:Array Keyed}{i:Nat}{p:Keyed}(h:xs[i]?=some p):KK κ xs i=ky κ p:=by
 unfold KK ky
 rw[h]
end
def aX:Bool→Keyed→Array Keyed→Nat→Nat→Nat→StateT SortSt Sem (Option Nat):=sortPriv% PySem.Builtin.gallop
def b8(aF:Bool)(key:Keyed)(arr:Array Keyed)(base i:Nat):StateT SortSt Sem (Option Bool):=do
 let x ←elem' arr (base+i)
 if aF then lt' x key else return (←lt' key x).map (!·)
theorem jF(aF:Bool)(key:Keyed)(arr:Array Keyed)(base n hint:Nat):aX aF key arr base n hint=(do
 let mut lastofs:=0
 let mut ofs:=1
 let mut lo:=0
 let mut hi:=0
 let some right ←b8 aF key arr base hint | return none
 if right then
  let maxofs:=n - hint
  for _ in [0:n] do
   if ofs ≥ maxofs then break
   let some more ←b8 aF key arr base (hint+ofs) | return none
   if !more then break
   lastofs:=ofs
   ofs:=2 * ofs+1
  lo:=hint+lastofs+1
  hi:=hint+min ofs maxofs
 else
  let maxofs:=hint+1
  for _ in [0:n] do
   if ofs ≥ maxofs then break
   let some found ←b8 aF key arr base (hint - ofs) | return none
   if found then break
   lastofs:=ofs
   ofs:=2 * ofs+1
  lo:=hint+1 - min ofs maxofs
  hi:=hint - lastofs
 for _ in [0:n] do
  if lo ≥ hi then break
  let m:=lo+(hi - lo) / 2
  let some more ←b8 aF key arr base m | return none
  if more then lo:=m+1 else hi:=m
 return some hi):=rfl
section
variable{prog:Program}{w:World}{A:Around}{E:Value→Shared→Prop}{s:Shared}{κ:KeyKind}{kd:SortKind}{st:SortSt}
theorem Pr{x y:Keyed}{Q:Option Bool→SortSt→Prop}(hc:aQ prog w A s κ kd)(kn:kindOf st=kd)(hx:∃a,κ.keyOf x.1=some a)(hy:∃a,κ.keyOf y.1=some a)(q:Q (some (κ.blt (ky κ x) (ky κ y))) st):wpS (model prog w) A E s (lt' x y) Q st:=by
 obtain⟨a,ha⟩:=hx
 obtain⟨b,hb⟩:=hy
 have e1:ky κ x=a:=by unfold ky;rw[ha];rfl
 have e2:ky κ y=b:=by unfold ky;rw[hb];rfl
 rw[e1,e2]at q
 rw[lt'_eq]
 refine yR (wpS_get ?_)
 rw[kn]
 exact yR (wpS_lift (wpAny_attempt (hc _ x.1 y.1 a b _ ha hb ⟨rfl,yQ q⟩)))
def bey(κ:KeyKind)(aF:Bool)(key:Keyed)(p:Keyed):Bool:=if aF then κ.blt (ky κ p) (ky κ key)else !κ.blt (ky κ key) (ky κ p)
theorem Vk{aF:Bool}{key p q:Keyed}(h:leK κ p q)(g:bey κ aF key q=true):bey κ aF key p=true:=by
 unfold bey at g⊢
 cases aF with
 | true=>
  simp only[if_true]at g⊢
  rcases κ.negTrans _ (ky κ p) _ g with z | z
  ·rw[h]at z
   cases z
  ·exact z
 | false=>
  simp only[Bool.false_eq_true,if_false,Bool.not_eq_true']at g⊢
  exact ltF h g
theorem N7{aF:Bool}{key:Keyed}{arr:Array Keyed}{base i:Nat}{p:Keyed}{Q:Option Bool→SortSt→Prop}(hc:aQ prog w A s κ kd)(kn:kindOf st=kd)(hk:KeysOf κ arr)(hy:∃a,κ.keyOf key.1=some a)(e:arr[base+i]?=some p)(q:Q (some (bey κ aF key p)) st):wpS (model prog w) A E s (b8 aF key arr base i) Q st:=by
 unfold b8
 rw[elem'_eq,e]
 have hx:∃a,κ.keyOf p.1=some a:=hk p (Array.mem_toList_iff.mpr (Array.mem_of_getElem? e))
 refine yR (yQ ?_)
 cases aF with
 | true=>exact Pr hc kn hx hy q
 | false=>exact yR (Pr hc kn hy hx (yQ q))
def tX(aF:Bool)(key:Keyed)(arr:Array Keyed)(base n lo0 hi0:Nat):StateT SortSt Sem (Option Nat):=do
 let mut lo:=lo0
 let mut hi:=hi0
 for _ in [0:n] do
  if lo ≥ hi then break
  let m:=lo+(hi - lo) / 2
  let some more ←b8 aF key arr base m | return none
  if more then lo:=m+1 else hi:=m
 return some hi
theorem W8{aF:Bool}{key:Keyed}{arr:Array Keyed}{base n hint:Nat}{Q:Option Nat→SortSt→Prop}(hc:aQ prog w A s κ kd)(kn:kindOf st=kd)(hk:KeysOf κ arr)(hy:∃a,κ.keyOf key.1=some a)(hn:hint<n)(hs:base+n≤arr.size)(so:Srt κ ((arr.toList.drop base).take n))(fin:∀m,m≤n→(∀i p,i<m→arr[base+i]?=some p→bey κ aF key p=true)→(∀i p,m≤i→i<n→arr[base+i]?=some p→bey κ aF key p=false)→Q (some m) st):wpS (model prog w) A E s (aX aF key arr base n hint) Q st:=by
 have at_:∀i,i<n→∃p,arr[base+i]?=some p∧((arr.toList.drop base).take n)[i]?=some p:=fun i hi=>by
  have hb:base+i<arr.size:=by omega
  refine⟨arr[base+i],yH hb,?_⟩
  rw[zW,yC hi,Ah,yI]
  exact yH hb
 have up:∀{i j p q},i≤j→j<n→arr[base+i]?=some p→arr[base+j]?=some q→leK κ p q:=fun{i j p q} hij hj hp hq=>by
  obtain⟨p',e1,e2⟩:=at_ i (by omega)
  obtain⟨q',e3,e4⟩:=at_ j hj
  rw[hp]at e1
  rw[hq]at e3
  cases e1
  cases e3
  exact so.at hij e2 e4
 rw[jF]
 obtain⟨ph,eh,_⟩:=at_ hint hn
 refine yR (N7 hc kn hk hy eh ?_)
 dsimp only
 have last:∀lo hi,lo≤hi→hi≤n→(∀i p,i<lo→arr[base+i]?=some p→bey κ aF key p=true)→(∀i p,hi≤i→i<n→arr[base+i]?=some p→bey κ aF key p=false)→wpS (model prog w) A E s (tX aF key arr base n lo hi) Q st:=by
  intro lo hi lh hn' g1 g2
  unfold tX
  refine yR (Ay (z9 (Q:=fun c u=>u=st∧∃m,c=(none,m,m)∧m≤n∧(∀i p,i<m→arr[base+i]?=some p→bey κ aF key p=true)∧(∀i p,m≤i→i<n→arr[base+i]?=some p→bey κ aF key p=false))
   (fun x c u=>u=st∧∃lo hi,c=(none,lo,hi)∧lo≤hi∧hi≤n∧hi+x≤n+lo∧(∀i p,i<lo→arr[base+i]?=some p→bey κ aF key p=true)∧(∀i p,hi≤i→i<n→arr[base+i]?=some p→bey κ aF key p=false)) ?_ ?_ ⟨rfl,lo,hi,rfl,lh,hn',by omega,g1,g2⟩) ?_)
  ·rintro x _ _ _ hx ⟨rfl,lo,hi,rfl,lh,hn',hh,g1,g2⟩
   dsimp only
   rcases zL lo hi with c | c
   ·rw[yy (by omega)]
    obtain⟨p,e,_⟩:=at_ (lo+(hi - lo) / 2) (by omega)
    refine yR (N7 hc kn hk hy e ?_)
    dsimp only
    rcases b:bey κ aF key p with _ | _
    ·rw[yy yL]
     refine yQ ⟨rfl,lo,lo+(hi - lo) / 2,rfl,by omega,by omega,by omega,g1,fun i q h1 h2 hq=>?_⟩
     rcases z:bey κ aF key q with _ | _
     ·rfl
     ·rw[Vk (up h1 h2 e hq) z]at b
      cases b
    ·rw[yC rfl]
     refine yQ ⟨rfl,lo+(hi - lo) / 2+1,hi,rfl,by omega,by omega,by omega,fun i q h1 hq=>?_,g2⟩
     exact Vk (up (show i≤lo+(hi - lo) / 2 by omega) (by omega) hq e) b
   ·rw[yC c]
    obtain rfl:lo=hi:=by omega
    exact yQ ⟨rfl,lo,rfl,hn',g1,g2⟩
  ·rintro _ _ ⟨rfl,lo,hi,rfl,lh,hn',hh,g1,g2⟩
   obtain rfl:lo=hi:=by omega
   exact⟨rfl,lo,rfl,hn',g1,g2⟩
  ·rintro _ _ ⟨rfl,m,rfl,hm,g1,g2⟩
   exact yQ (fin m hm g1 g2)
 rcases b:bey κ aF key ph with _ | _
 ·rw[yy yL]
  refine yR (Ay (z9 (Q:=fun c u=>u=st∧∃l o,c=(none,l,o)∧l<o∧l≤hint∧(∀p,arr[base+(hint - l)]?=some p→bey κ aF key p=false)∧(hint+1≤o∨∀p,arr[base+(hint - o)]?=some p→bey κ aF key p=true))
   (fun x c u=>u=st∧∃l o,c=(none,l,o)∧l<o∧l≤hint∧x<o∧(∀p,arr[base+(hint - l)]?=some p→bey κ aF key p=false)) ?_ ?_ ⟨rfl,0,1,rfl,by omega,by omega,by omega,fun p hp=>by rw[Nat.sub_zero,eh]at hp;cases hp;exact b⟩) ?_)
  ·rintro x _ _ _ hx ⟨rfl,l,o,rfl,lo,lh,xo,g⟩
   dsimp only
   rcases zL o (hint+1)with c | c
   ·rw[yy (by omega)]
    obtain⟨p,e,_⟩:=at_ (hint - o) (by omega)
    refine yR (N7 hc kn hk hy e ?_)
    dsimp only
    rcases z:bey κ aF key p with _ | _
    ·rw[yy yL]
     exact yQ ⟨rfl,o,2 * o+1,rfl,by omega,by omega,by omega,fun q hq=>by rw[e]at hq;cases hq;exact z⟩
    ·rw[yC rfl]
     exact yQ ⟨rfl,l,o,rfl,lo,lh,g,.inr fun q hq=>by rw[e]at hq;cases hq;exact z⟩
   ·rw[yC c]
    exact yQ ⟨rfl,l,o,rfl,lo,lh,g,.inl c⟩
  ·rintro _ _ ⟨rfl,l,o,rfl,lo,lh,xo,g⟩
   exact⟨rfl,l,o,rfl,lo,lh,g,.inl (by omega)⟩
  ·rintro _ _ ⟨rfl,l,o,rfl,lo,lh,g,h⟩
   refine last (hint+1 - min o (hint+1)) (hint - l) (by omega) (by omega) (fun i p hi hp=>?_) fun i p h1 h2 hp=>?_
   ·rcases h with h | h
    ·omega
    ·rcases zL hint o with c | c
     ·omega
     ·obtain⟨q,e,_⟩:=at_ (hint - o) (by omega)
      exact Vk (up (show i≤hint - o by omega) (by omega) hp e) (h q e)
   ·obtain⟨q,e,_⟩:=at_ (hint - l) (by omega)
    rcases z:bey κ aF key p with _ | _
    ·rfl
    ·have:=Vk (up h1 h2 e hp) z
     rw[g q e]at this
     cases this
 ·rw[yC rfl]
  refine yR (Ay (z9 (Q:=fun c u=>u=st∧∃l o,c=(none,l,o)∧l<o∧hint+l<n∧(∀p,arr[base+(hint+l)]?=some p→bey κ aF key p=true)∧(n - hint≤o∨∀p,arr[base+(hint+o)]?=some p→bey κ aF key p=false))
   (fun x c u=>u=st∧∃l o,c=(none,l,o)∧l<o∧hint+l<n∧x<o∧(∀p,arr[base+(hint+l)]?=some p→bey κ aF key p=true)) ?_ ?_ ⟨rfl,0,1,rfl,by omega,by omega,by omega,fun p hp=>by rw[Nat.add_zero,eh]at hp;cases hp;exact b⟩) ?_)
  ·rintro x _ _ _ hx ⟨rfl,l,o,rfl,lo,lh,xo,g⟩
   dsimp only
   rcases zL o (n - hint)with c | c
   ·rw[yy (by omega)]
    obtain⟨p,e,_⟩:=at_ (hint+o) (by omega)
    refine yR (N7 hc kn hk hy e ?_)
    dsimp only
    rcases z:bey κ aF key p with _ | _
    ·rw[yC (by rfl)]
     exact yQ ⟨rfl,l,o,rfl,lo,lh,g,.inr fun q hq=>by rw[e]at hq;cases hq;exact z⟩
    ·rw[yy (by decide)]
     exact yQ ⟨rfl,o,2 * o+1,rfl,by omega,by omega,by omega,fun q hq=>by rw[e]at hq;cases hq;exact z⟩
   ·rw[yC c]
    exact yQ ⟨rfl,l,o,rfl,lo,lh,g,.inl c⟩
  ·rintro _ _ ⟨rfl,l,o,rfl,lo,lh,xo,g⟩
   exact⟨rfl,l,o,rfl,lo,lh,g,.inl (by omega)⟩
  ·rintro _ _ ⟨rfl,l,o,rfl,lo,lh,g,h⟩
   refine last (hint+l+1) (hint+min o (n - hint)) (by omega) (by omega) (fun i p hi hp=>?_) fun i p h1 h2 hp=>?_
   ·obtain⟨q,e,_⟩:=at_ (hint+l) (by omega)
    exact Vk (up (show i≤hint+l by omega) (by omega) hp e) (g q e)
   ·rcases h with h | h
    ·omega
    ·rcases zL o (n - hint)with c | c
     ·obtain⟨q,e,_⟩:=at_ (hint+o) (by omega)
      rcases z:bey κ aF key p with _ | _
      ·rfl
      ·have:=Vk (up (show hint+o≤i by omega) h2 e hp) z
       rw[h q e]at this
       cases this
     ·omega
end
end L2T
namespace L2T
open PySem PySem.Spec PyProof.Rows L2
def aH:Nat→StateT SortSt Sem Unit:=sortPriv% PySem.Builtin.setMinGallop
abbrev eE(st:SortSt)(g:Nat):SortSt:=SortSt.mk' (kindOf st) (arrOf st) (pendingOf st) g (failedOf st)
theorem Xa(g:Nat):aH g=modify fun s=>eE s g:=rfl
def dP:Array Keyed→Array Keyed→StateT SortSt Sem (Array Keyed):=sortPriv% PySem.Builtin.mergeLo
theorem iQ(a b:Array Keyed):dP a b=(do
 rule "list.sort.merge-lo"
 let total:=a.size+b.size
 let done (out:Array Keyed) (ia ib:Nat):=out++a.extract ia a.size++b.extract ib b.size
 let lastOfA (out:Array Keyed) (ia ib:Nat):=out++b.extract ib b.size++a.extract ia a.size
 let mut out:Array Keyed:=#[←elem' b 0]
 let mut ia:=0
 let mut ib:=1
 if ib == b.size then return done out ia ib
 if ia+1 == a.size then return lastOfA out ia ib
 let mut Bc:=gallopOf (←get)
 for _ in [0:total] do
  let mut acount:=0
  let mut bcount:=0
  for _ in [0:total] do
   let some bWins ←lt' (←elem' b ib) (←elem' a ia) | return done out ia ib
   if bWins then
    out:=out.push (←elem' b ib);ib:=ib+1;bcount:=bcount+1;acount:=0
    if ib == b.size then return done out ia ib
    if bcount ≥ Bc then break
   else
    out:=out.push (←elem' a ia);ia:=ia+1;acount:=acount+1;bcount:=0
    if ia+1 == a.size then return lastOfA out ia ib
    if acount ≥ Bc then break
  rule "list.sort.gallop"
  Bc:=Bc+1
  for _ in [0:total] do
   if Bc > 1 then Bc:=Bc - 1
   aH Bc
   let some k ←aX false (←elem' b ib) a ia (a.size - ia) 0 | return done out ia ib
   acount:=k
   if k > 0 then
    out:=out++a.extract ia (ia+k);ia:=ia+k
    if ia+1 == a.size then return lastOfA out ia ib
    if ia == a.size then return done out ia ib
   out:=out.push (←elem' b ib);ib:=ib+1
   if ib == b.size then return done out ia ib
   let some k ←aX true (←elem' a ia) b ib (b.size - ib) 0 | return done out ia ib
   bcount:=k
   if k > 0 then
    out:=out++b.extract ib (ib+k);ib:=ib+k
    if ib == b.size then return done out ia ib
   out:=out.push (←elem' a ia);ia:=ia+1
   if ia+1 == a.size then return lastOfA out ia ib
   if acount<7 && bcount<7 then break
  Bc:=Bc+1
  aH Bc
 unsupported "internal:list.sort.merge-bound"):=rfl
section
variable{prog:Program}{w:World}{A:Around}{E:Value→Shared→Prop}{s:Shared}{κ:KeyKind}{kd:SortKind}{st:SortSt}
def GalS(st u:SortSt):Prop:=∃g,u=eE st g
theorem GalS.refl:GalS st st:=⟨gallopOf st,rfl⟩
theorem GalS.set{u:SortSt}(h:GalS st u)(g:Nat):GalS st (eE u g):=by
 obtain⟨_,rfl⟩:=h
 exact⟨g,rfl⟩
theorem GalS.kn{u:SortSt}(h:GalS st u):kindOf u=kindOf st:=by
 obtain⟨_,rfl⟩:=h
 rfl
theorem Q7(xs:Array Keyed)(i:Nat):(xs.extract i xs.size).toList=xs.toList.drop i:=by
 rw[Array.toList_extract,List.extract_eq_take_drop,Az]
 rw[List.length_drop,yS]
 exact yF _
theorem iU(xs:Array Keyed)(i k:Nat):(xs.extract i (i+k)).toList=(xs.toList.drop i).take k:=by
 rw[Array.toList_extract,List.extract_eq_take_drop,Nat.add_sub_cancel_left]
theorem Uw{xs:Array Keyed}{i:Nat}(h:i<xs.size):xs.toList.drop i=[xs[i]]++xs.toList.drop (i+1):=by
 rw[List.drop_eq_getElem_cons (by rw[yS];exact h)]
 rfl
theorem Pp(l:List Keyed)(i k:Nat):l.drop i=(l.drop i).take k++l.drop (i+k):=by
 rw[←List.drop_drop,zM]
theorem Yk{xs:Array Keyed}{i:Nat}(h:i<xs.size):elem' xs i=pure xs[i]:=by rw[elem'_eq,yH h]
theorem Vi{xs:Array Keyed}{i:Nat}{y:Keyed}(h:y∈xs.toList.drop i):∃j,xs[i+j]?=some y∧i+j<xs.size:=by
 obtain⟨j,hj⟩:=An.mp h
 rw[Ah,yI]at hj
 exact⟨j,hj,(Array.getElem?_eq_some_iff.mp hj).1⟩
theorem V4{xs:Array Keyed}{i k:Nat}{y:Keyed}(h:y∈(xs.toList.drop i).take k):∃j,xs[i+j]?=some y∧j<k∧i+j<xs.size:=by
 obtain⟨j,hj⟩:=An.mp h
 rw[zW]at hj
 split at hj
 ·next c=>
  rw[Ah,yI]at hj
  exact⟨j,hj,c,(Array.getElem?_eq_some_iff.mp hj).1⟩
 ·cases hj
theorem W2{xs:Array Keyed}(hk:KeysOf κ xs){i:Nat}(h:i<xs.size):∃a,κ.keyOf xs[i].1=some a:=hk _ (Array.mem_toList_iff.mpr (Array.getElem_mem h))
abbrev dn(a b out:Array Keyed)(ia ib:Nat):Array Keyed:=out++a.extract ia a.size++b.extract ib b.size
abbrev la(a b out:Array Keyed)(ia ib:Nat):Array Keyed:=out++b.extract ib b.size++a.extract ia a.size
abbrev T2:Type:=Option (Array Keyed)×Array Keyed×Nat×Nat×Nat×Nat×Nat
def lo3(a b out:Array Keyed)(ia ib mg k1 k2:Nat):StateT SortSt Sem (ForInStep T2):=do
 let x ←elem' a ia
 if (ia+1+1 == a.size)=true then pure (.done (some (la a b (out.push x) (ia+1) ib),out.push x,ia+1,ib,mg,k1,k2))
 else if (decide (k1<7) && decide (k2<7))=true then pure (.done (none,out.push x,ia+1,ib,mg,k1,k2))
 else pure (.yield (none,out.push x,ia+1,ib,mg,k1,k2))
def lo2(a b out:Array Keyed)(ia ib mg k1 k20:Nat):StateT SortSt Sem (ForInStep T2):=do
 let x ←elem' b ib
 if (ib+1 == b.size)=true then pure (.done (some (dn a b (out.push x) ia (ib+1)),out.push x,ia,ib+1,mg,k1,k20))
 else do
  let y ←elem' a ia
  let r ←aX true y b (ib+1) (b.size - (ib+1)) 0
  match r with
  | some k=>
   if k > 0 then
    if (ib+1+k == b.size)=true then pure (.done (some (dn a b (out.push x++b.extract (ib+1) (ib+1+k)) ia (ib+1+k)),out.push x++b.extract (ib+1) (ib+1+k),ia,ib+1+k,mg,k1,k))
    else lo3 a b (out.push x++b.extract (ib+1) (ib+1+k)) ia (ib+1+k) mg k1 k
   else lo3 a b (out.push x) ia (ib+1) mg k1 k
  | _=>pure (.done (some (dn a b (out.push x) ia (ib+1)),out.push x,ia,ib+1,mg,k1,k20))
def lo1(a b out:Array Keyed)(ia ib mg k10 k20:Nat):StateT SortSt Sem (ForInStep T2):=do
 aH mg
 let x ←elem' b ib
 let r ←aX false x a ia (a.size - ia) 0
 match r with
 | some k=>
  if k > 0 then
   if (ia+k+1 == a.size)=true then pure (.done (some (la a b (out++a.extract ia (ia+k)) (ia+k) ib),out++a.extract ia (ia+k),ia+k,ib,mg,k,k20))
   else if (ia+k == a.size)=true then pure (.done (some (dn a b (out++a.extract ia (ia+k)) (ia+k) ib),out++a.extract ia (ia+k),ia+k,ib,mg,k,k20))
   else lo2 a b (out++a.extract ia (ia+k)) (ia+k) ib mg k k20
  else lo2 a b out ia ib mg k k20
 | _=>pure (.done (some (dn a b out ia ib),out,ia,ib,mg,k10,k20))
structure LoC(κ:KeyKind)(a b:Array Keyed):Prop where
 ha:KeysOf κ a
 hb:KeysOf κ b
 sa:Srt κ a.toList
 sb:Srt κ b.toList
 h1:∀x∈b.toList,∀y∈a.toList.drop (a.size - 1),leK κ x y
structure Jl(κ:KeyKind)(a b out:Array Keyed)(ia ib:Nat):Prop where
 mi:Mi κ (a.toList++b.toList) out.toList (a.toList.drop ia) (b.toList.drop ib)
 ia1:ia+1<a.size
 ib1:ib<b.size
 sz:out.size=ia+ib
def Mgd(κ:KeyKind)(a b r:Array Keyed):Prop:=r.toList.Perm (a.toList++b.toList)∧Srt κ r.toList
def Rs(κ:KeyKind)(a b:Array Keyed)(N:Nat)(c:T2):Prop:=(∃r,c.1=some r∧Mgd κ a b r)∨(c.1=none∧Jl κ a b c.2.1 c.2.2.1 c.2.2.2.1∧N<c.2.1.size)
def Ps2(κ:KeyKind)(a b:Array Keyed)(st:SortSt)(N:Nat):ForInStep T2→SortSt→Prop:=fun r u=>GalS st u∧match r with
 | .done c=>Rs κ a b N c
 | .yield c=>c.1=none∧Jl κ a b c.2.1 c.2.2.1 c.2.2.2.1∧N<c.2.1.size
theorem gQ{a b out:Array Keyed}{ia ib:Nat}(h:Mi κ (a.toList++b.toList) out.toList (a.toList.drop ia) (b.toList.drop ib))(e:ia=a.size∨ib=b.size):Mgd κ a b (dn a b out ia ib):=by
 have q:=h.fin fun x hx y hy=>by
  rcases e with rfl | rfl
  ·rw[List.drop_of_length_le (by rw[yS];exact yF _)]at hx
   cases hx
  ·rw[List.drop_of_length_le (by rw[yS];exact yF _)]at hy
   cases hy
 unfold Mgd dn
 rw[zN,zN,Q7,Q7]
 exact q
theorem lW{a b out:Array Keyed}{ia ib:Nat}(C:LoC κ a b)(h:Mi κ (a.toList++b.toList) out.toList (a.toList.drop ia) (b.toList.drop ib))(e:ia+1=a.size):Mgd κ a b (la a b out ia ib):=by
 have q:=h.sw.fin fun x hx y hy=>C.h1 x (List.mem_of_mem_drop hx) y (by rw[show a.size - 1=ia by omega];exact hy)
 unfold Mgd la
 rw[zN,zN,Q7,Q7]
 exact q
theorem qT{a b out:Array Keyed}{ia ib:Nat}(h:Mi κ (a.toList++b.toList) out.toList (a.toList.drop ia) (b.toList.drop ib))(hb:ib<b.size)(hl:∀y∈a.toList.drop ia,leK κ b[ib] y):Mi κ (a.toList++b.toList) (out.push b[ib]).toList (a.toList.drop ia) (b.toList.drop (ib+1)):=by
 rw[Uw hb]at h
 rw[Array.toList_push]
 exact h.b fun x hx y hy=>by rw[yN.mp hx];exact hl y hy
theorem ug{a b out:Array Keyed}{ia ib:Nat}(h:Mi κ (a.toList++b.toList) out.toList (a.toList.drop ia) (b.toList.drop ib))(ha:ia<a.size)(hl:∀y∈b.toList.drop ib,leK κ a[ia] y):Mi κ (a.toList++b.toList) (out.push a[ia]).toList (a.toList.drop (ia+1)) (b.toList.drop ib):=by
 rw[Uw ha]at h
 rw[Array.toList_push]
 exact h.a fun x hx y hy=>by rw[yN.mp hx];exact hl y hy
theorem q9{a b out:Array Keyed}{ia ib mg k1 k2 N:Nat}{u:SortSt}(C:LoC κ a b)(gu:GalS st u)(j:Jl κ a b out ia ib)(hN:N≤out.size)(hl:∀y∈b.toList.drop ib,leK κ (a[ia]'(by have:=j.ia1;omega)) y):wpS (model prog w) A E s (lo3 a b out ia ib mg k1 k2) (Ps2 κ a b st N) u:=by
 have i1:=j.ia1
 unfold lo3
 rw[Yk (show ia<a.size by omega)]
 refine yR (yQ ?_)
 have m:=ug j.mi (show ia<a.size by omega) hl
 have sz:=j.sz
 have zz:(out.push (a[ia]'(by omega))).size=out.size+1:=AC _
 by_cases c:ia+1+1=a.size
 ·rw[yC (by rw[zk];exact c)]
  exact yQ ⟨gu,.inl ⟨_,rfl,lW C m c⟩⟩
 ·rw[yy (by rw[zk];exact c)]
  have j2:Jl κ a b (out.push (a[ia]'(by omega))) (ia+1) ib:=⟨m,by omega,j.ib1,by rw[zz];omega⟩
  split
  ·exact yQ ⟨gu,.inr ⟨rfl,j2,by show N<(out.push _).size;omega⟩⟩
  ·exact yQ ⟨gu,rfl,j2,by show N<(out.push _).size;omega⟩
theorem oI{a b out:Array Keyed}{ia ib mg k1 k2 N:Nat}{u:SortSt}(hc:aQ prog w A s κ kd)(kn:kindOf st=kd)(C:LoC κ a b)(gu:GalS st u)(j:Jl κ a b out ia ib)(hN:N≤out.size)(hl:∀y∈a.toList.drop ia,leK κ (b[ib]'j.ib1) y):wpS (model prog w) A E s (lo2 a b out ia ib mg k1 k2) (Ps2 κ a b st N) u:=by
 have i1:=j.ia1
 have i2:=j.ib1
 unfold lo2
 rw[Yk i2]
 refine yR (yQ ?_)
 have m:=qT j.mi i2 hl
 have sz:=j.sz
 have zz:(out.push b[ib]).size=out.size+1:=AC _
 by_cases c:ib+1=b.size
 ·rw[yC (by rw[zk];exact c)]
  exact yQ ⟨gu,.inl ⟨_,rfl,gQ m (.inr c)⟩⟩
 rw[yy (by rw[zk];exact c),Yk (show ia<a.size by omega)]
 refine yR (yQ ?_)
 have kl:ib+1+(b.size - (ib+1))=b.size:=by omega
 refine yR (W8 hc (gu.kn.trans kn) C.hb (W2 C.ha (show ia<a.size by omega)) (by omega) (by omega) (C.sb.sublist ((List.take_sublist _ _).trans (List.drop_sublist _ _))) fun k hk g1 g2=>?_)
 have lta:∀x,(∃i,i<k∧b[ib+1+i]?=some x)→∀y∈a.toList.drop ia,leK κ x y:=by
  rintro x ⟨i,hi,hx⟩ y hy
  have q:κ.blt (ky κ x) (ky κ a[ia])=true:=g1 i x hi hx
  obtain⟨n,hn,_⟩:=Vi hy
  refine(leK.of q).trans (C.sa.at (i:=ia) (j:=ia+n) (by omega) ?_ ?_)
  ·rw[yI];exact yH _
  ·rw[yI];exact hn
 have nlt:∀y∈b.toList.drop (ib+1+k),leK κ a[ia] y:=by
  intro y hy
  obtain⟨n,hn,hs⟩:=Vi hy
  have q:κ.blt (ky κ y) (ky κ a[ia])=false:=g2 (k+n) y (by omega) (by omega) (by rw[←Nat.add_assoc];exact hn)
  exact q
 dsimp only
 have m2:Mi κ (a.toList++b.toList) (out.push b[ib]++b.extract (ib+1) (ib+1+k)).toList (a.toList.drop ia) (b.toList.drop (ib+1+k)):=by
  rw[zN,iU]
  rw[Pp b.toList (ib+1) k]at m
  refine m.b fun x hx y hy=>?_
  obtain⟨i,hi,ik,_⟩:=V4 hx
  exact lta x ⟨i,ik,hi⟩ y hy
 have z2:(out.push b[ib]++b.extract (ib+1) (ib+1+k)).size=out.size+1+k:=by
  rw[Array.size_append,Array.size_extract,zz]
  omega
 by_cases k0:k > 0
 ·rw[yC k0]
  by_cases c2:ib+1+k=b.size
  ·rw[yC (by rw[zk];exact c2)]
   exact yQ ⟨gu,.inl ⟨_,rfl,gQ m2 (.inr c2)⟩⟩
  ·rw[yy (by rw[zk];exact c2)]
   exact q9 C gu ⟨m2,i1,by omega,by rw[z2];omega⟩ (by omega) nlt
 ·rw[yy k0]
  obtain rfl:k=0:=by omega
  exact q9 C gu ⟨m,i1,by omega,by rw[zz];omega⟩ (by omega) nlt
theorem oe{a b out:Array Keyed}{ia ib mg k1 k2 N:Nat}{u:SortSt}(hc:aQ prog w A s κ kd)(kn:kindOf st=kd)(C:LoC κ a b)(gu:GalS st u)(j:Jl κ a b out ia ib)(hN:N≤out.size):wpS (model prog w) A E s (lo1 a b out ia ib mg k1 k2) (Ps2 κ a b st N) u:=by
 have i1:=j.ia1
 have i2:=j.ib1
 have sz:=j.sz
 have m:=j.mi
 unfold lo1
 rw[Xa]
 refine yR (wpS_modify ?_)
 have gu:=gu.set mg
 rw[Yk i2]
 refine yR (yQ ?_)
 refine yR (W8 hc (gu.kn.trans kn) C.ha (W2 C.hb i2) (by omega) (by omega) (C.sa.sublist ((List.take_sublist _ _).trans (List.drop_sublist _ _))) fun k hk g1 g2=>?_)
 have lea:∀x,(∃i,i<k∧a[ia+i]?=some x)→∀y∈b.toList.drop ib,leK κ x y:=by
  rintro x ⟨i,hi,hx⟩ y hy
  have q:=g1 i x hi hx
  unfold bey at q
  rw[yy yL,Bool.not_eq_true']at q
  have q:leK κ x b[ib]:=q
  obtain⟨n,hn,_⟩:=Vi hy
  refine q.trans (C.sb.at (i:=ib) (j:=ib+n) (by omega) ?_ ?_)
  ·rw[yI];exact yH _
  ·rw[yI];exact hn
 have ltb:∀y∈a.toList.drop (ia+k),leK κ b[ib] y:=by
  intro y hy
  obtain⟨n,hn,hs⟩:=Vi hy
  have q:=g2 (k+n) y (by omega) (by omega) (by rw[←Nat.add_assoc];exact hn)
  unfold bey at q
  rw[yy yL,Bool.not_eq_false']at q
  exact leK.of q
 dsimp only
 have m2:Mi κ (a.toList++b.toList) (out++a.extract ia (ia+k)).toList (a.toList.drop (ia+k)) (b.toList.drop ib):=by
  rw[zN,iU]
  rw[Pp a.toList ia k]at m
  refine m.a fun x hx y hy=>?_
  obtain⟨i,hi,ik,_⟩:=V4 hx
  exact lea x ⟨i,ik,hi⟩ y hy
 have z2:(out++a.extract ia (ia+k)).size=out.size+k:=by
  rw[Array.size_append,Array.size_extract]
  omega
 by_cases k0:k > 0
 ·rw[yC k0]
  by_cases c2:ia+k+1=a.size
  ·rw[yC (by rw[zk];exact c2)]
   exact yQ ⟨gu,.inl ⟨_,rfl,lW C m2 c2⟩⟩
  rw[yy (by rw[zk];exact c2)]
  by_cases c3:ia+k=a.size
  ·rw[yC (by rw[zk];exact c3)]
   exact yQ ⟨gu,.inl ⟨_,rfl,gQ m2 (.inl c3)⟩⟩
  ·rw[yy (by rw[zk];exact c3)]
   exact oI hc kn C gu ⟨m2,by omega,i2,by rw[z2];omega⟩ (by omega) ltb
 ·rw[yy k0]
  obtain rfl:k=0:=by omega
  exact oI hc kn C gu j hN ltb
abbrev T1:Type:=Option (Array Keyed)×Array Keyed×Nat×Nat×Nat×Nat
abbrev T0:Type:=Option (Array Keyed)×Array Keyed×Nat×Nat×Nat
theorem jQ{a b:Array Keyed}{Q:Array Keyed→SortSt→Prop}(hc:aQ prog w A s κ kd)(kn:kindOf st=kd)(C:LoC κ a b)(a1:0<a.size)(b1:0<b.size)(h0:∀y∈a.toList,leK κ b[0] y)(fin:∀(m:Array Keyed) (u:SortSt),GalS st u→Mgd κ a b m→Q m u):wpS (model prog w) A E s (dP a b) Q st:=by
 rw[iQ]
 refine yR (m:=liftM (rule _)) (wpS_lift (AR ⟨rfl,?_⟩))
 rw[Yk b1]
 refine yR (yQ ?_)
 dsimp only
 have m0:Mi κ (a.toList++b.toList) (#[]:Array Keyed).toList (a.toList.drop 0) (b.toList.drop 0):=⟨List.Perm.refl _,List.Pairwise.nil,C.sa,C.sb,fun _ h=>nomatch h⟩
 have m1:Mi κ (a.toList++b.toList) #[b[0]].toList (a.toList.drop 0) (b.toList.drop 1):=qT m0 b1 h0
 by_cases c:1=b.size
 ·rw[yC (by rw[zk];exact c)]
  exact yQ (fin _ _ .refl (gQ m1 (.inr c)))
 rw[yy (by rw[zk];exact c)]
 by_cases c2:0+1=a.size
 ·rw[yC (by rw[zk];exact c2)]
  exact yQ (fin _ _ .refl (lW C m1 c2))
 rw[yy (by rw[zk];exact c2)]
 refine yR (wpS_get ?_)
 have j1:Jl κ a b #[b[0]] 0 1:=⟨m1,by omega,by omega,rfl⟩
 refine yR (Ay (z9 (β:=T0) (Q:=fun c u=>GalS st u∧∃r,c.1=some r∧Mgd κ a b r)
  (fun x c u=>GalS st u∧c.1=none∧Jl κ a b c.2.1 c.2.2.1 c.2.2.2.1∧x<c.2.1.size) ?_ ?_ ⟨.refl,rfl,j1,Nat.zero_lt_one⟩) ?_)
 ·rintro x ⟨_,out,ia,ib,mg⟩ u _ hx ⟨gu,rfl,j,hN⟩
  dsimp only
  have hN:x<out.size:=hN
  refine yR (Ay (z9 (β:=T1) (Q:=fun c v=>GalS st v∧((∃r,c.1=some r∧Mgd κ a b r)∨(c.1=none∧Jl κ a b c.2.1 c.2.2.1 c.2.2.2.1∧out.size<c.2.1.size)))
   (fun y c v=>GalS st v∧c.1=none∧Jl κ a b c.2.1 c.2.2.1 c.2.2.2.1∧out.size+y≤c.2.1.size) ?_ ?_ ⟨gu,rfl,j,yF _⟩) ?_)
  ·rintro y ⟨_,AW,ia2,ib2,ac,bc⟩ v _ hy ⟨gv,rfl,j2,hM⟩
   dsimp only
   have hM:out.size+y≤AW.size:=hM
   have i1:ia2+1<a.size:=j2.ia1
   have i2:ib2<b.size:=j2.ib1
   have sz:AW.size=ia2+ib2:=j2.sz
   rw[Yk i2,Yk (show ia2<a.size by omega)]
   refine yR (yQ (yR (yQ (yR (Pr hc (gv.kn.trans kn) (W2 C.hb i2) (W2 C.ha (show ia2<a.size by omega)) ?_)))))
   dsimp only
   rcases bl:κ.blt (ky κ b[ib2]) (ky κ a[ia2])with _ | _
   ·rw[yy yL]
    refine yR (yQ ?_)
    have m:=ug j2.mi (show ia2<a.size by omega) fun z hz=>by
     obtain⟨n,hn,_⟩:=Vi hz
     have q:leK κ a[ia2] b[ib2]:=bl
     refine q.trans (C.sb.at (i:=ib2) (j:=ib2+n) (by omega) ?_ ?_)
     ·rw[yI];exact yH _
     ·rw[yI];exact hn
    have zz:(AW.push (a[ia2]'(by omega))).size=AW.size+1:=AC _
    by_cases d:ia2+1+1=a.size
    ·rw[yC (by rw[zk];exact d)]
     exact yQ ⟨gv,.inl ⟨_,rfl,lW C m d⟩⟩
    ·rw[yy (by rw[zk];exact d)]
     have j3:Jl κ a b (AW.push (a[ia2]'(by omega))) (ia2+1) ib2:=⟨m,by omega,i2,by rw[zz];omega⟩
     split
     ·exact yQ ⟨gv,.inr ⟨rfl,j3,by show _<(AW.push _).size;omega⟩⟩
     ·exact yQ ⟨gv,rfl,j3,by show _≤(AW.push _).size;omega⟩
   ·rw[yC rfl]
    refine yR (yQ ?_)
    have m:=qT j2.mi i2 fun z hz=>by
     obtain⟨n,hn,_⟩:=Vi hz
     have q:leK κ b[ib2] a[ia2]:=leK.of bl
     refine q.trans (C.sa.at (i:=ia2) (j:=ia2+n) (by omega) ?_ ?_)
     ·rw[yI];exact yH _
     ·rw[yI];exact hn
    have zz:(AW.push b[ib2]).size=AW.size+1:=AC _
    by_cases d:ib2+1=b.size
    ·rw[yC (by rw[zk];exact d)]
     exact yQ ⟨gv,.inl ⟨_,rfl,gQ m (.inr d)⟩⟩
    ·rw[yy (by rw[zk];exact d)]
     have j3:Jl κ a b (AW.push b[ib2]) ia2 (ib2+1):=⟨m,i1,by omega,by rw[zz];omega⟩
     split
     ·exact yQ ⟨gv,.inr ⟨rfl,j3,by show _<(AW.push _).size;omega⟩⟩
     ·exact yQ ⟨gv,rfl,j3,by show _≤(AW.push _).size;omega⟩
  ·rintro⟨_,AW,ia2,ib2,ac,bc⟩ v ⟨gv,rfl,j2,hM⟩
   have hM:out.size+max 0 (a.size+b.size)≤AW.size:=hM
   have i1:ia2+1<a.size:=j2.ia1
   have i2:ib2<b.size:=j2.ib1
   have sz:AW.size=ia2+ib2:=j2.sz
   omega
  ·rintro⟨r,AW,ia2,ib2,ac,bc⟩ v ⟨gv,h⟩
   rcases h with⟨m,e,gm⟩|⟨e,j2,hM⟩
   ·have e:r=some m:=e
    subst e
    exact yQ ⟨gv,m,rfl,gm⟩
   have e:r=none:=e
   subst e
   have hM:out.size<AW.size:=hM
   refine yR (m:=liftM (rule _)) (wpS_lift (AR ⟨rfl,?_⟩))
   refine yR (Ay (z9 (β:=T2) (Q:=fun c v=>GalS st v∧Rs κ a b out.size c)
    (fun y c v=>GalS st v∧c.1=none∧Jl κ a b c.2.1 c.2.2.1 c.2.2.2.1∧out.size+y<c.2.1.size) ?_ ?_ ⟨gv,rfl,j2,hM⟩) ?_)
   ·rintro y ⟨_,out3,ia3,ib3,mg3,k1,k2⟩ v3 _ hy ⟨g3,rfl,j3,h3⟩
    have h3:out.size+y<out3.size:=h3
    have upD:∀{c:T2}{v:SortSt},Ps2 κ a b st (out.size+(y+1)) (.done c) v→GalS st v∧Rs κ a b out.size c:=by
     rintro c v ⟨g,h⟩
     refine⟨g,?_⟩
     rcases h with h | ⟨h1,h2,h3⟩
     ·exact .inl h
     ·exact .inr ⟨h1,h2,by omega⟩
    show wpS (model prog w) A E s (if mg3 > 1 then lo1 a b out3 ia3 ib3 (mg3 - 1) k1 k2 else lo1 a b out3 ia3 ib3 mg3 k1 k2) _ v3
    split
    ·refine Ay (oe (N:=out.size+(y+1)) hc kn C g3 j3 (by omega)) fun r v h=>?_
     cases r with
     | done c=>exact upD h
     | yield c=>exact h
    ·refine Ay (oe (N:=out.size+(y+1)) hc kn C g3 j3 (by omega)) fun r v h=>?_
     cases r with
     | done c=>exact upD h
     | yield c=>exact h
   ·rintro⟨_,out3,ia3,ib3,mg3,k1,k2⟩ v3 ⟨g3,rfl,j3,h3⟩
    have h3:out.size+max 0 (a.size+b.size)<out3.size:=h3
    have i1:ia3+1<a.size:=j3.ia1
    have i2:ib3<b.size:=j3.ib1
    have sz:out3.size=ia3+ib3:=j3.sz
    omega
   ·rintro⟨r,out3,ia3,ib3,mg3,k1,k2⟩ v3 ⟨g3,h⟩
    rcases h with⟨m,e,gm⟩|⟨e,j3,h3⟩
    ·have e:r=some m:=e
     subst e
     exact yQ ⟨g3,m,rfl,gm⟩
    ·have e:r=none:=e
     subst e
     have h3:out.size<out3.size:=h3
     dsimp only
     rw[Xa]
     exact yR (wpS_modify (yQ ⟨g3.set _,rfl,j3,by show x+1<out3.size;omega⟩))
 ·rintro⟨_,AW,ia2,ib2,mg⟩ v ⟨gv,rfl,j2,hM⟩
  have hM:max 0 (a.size+b.size)<AW.size:=hM
  have i1:ia2+1<a.size:=j2.ia1
  have i2:ib2<b.size:=j2.ib1
  have sz:AW.size=ia2+ib2:=j2.sz
  omega
 ·rintro⟨r,AW,ia2,ib2,mg⟩ v ⟨gv,m,e,gm⟩
  have e:r=some m:=e
  subst e
  exact yQ (fin m v gv gm)
end
end L2T
namespace L2T
open PySem PySem.Spec PyProof.Rows L2
def dI:Array Keyed→Array Keyed→StateT SortSt Sem (Array Keyed):=sortPriv% PySem.Builtin.mergeHi
theorem gM(a b:Array Keyed):dI a b=(do
 rule "list.sort.merge-hi"
 let total:=a.size+b.size
 let done (out:Array Keyed) (na nb:Nat):=a.extract 0 na++b.extract 0 nb++out.reverse
 let firstOfB (out:Array Keyed) (na nb:Nat):=b.extract 0 nb++a.extract 0 na++out.reverse
 let mut na:=a.size - 1
 let mut nb:=b.size
 let mut out:Array Keyed:=#[←elem' a na]
 if na == 0 then return done out na nb
 if nb == 1 then return firstOfB out na nb
 let mut Bc:=gallopOf (←get)
 for _ in [0:total] do
  let mut acount:=0
  let mut bcount:=0
  for _ in [0:total] do
   let some aWins ←lt' (←elem' b (nb - 1)) (←elem' a (na - 1)) | return done out na nb
   if aWins then
    na:=na - 1;out:=out.push (←elem' a na);acount:=acount+1;bcount:=0
    if na == 0 then return done out na nb
    if acount ≥ Bc then break
   else
    nb:=nb - 1;out:=out.push (←elem' b nb);bcount:=bcount+1;acount:=0
    if nb == 1 then return firstOfB out na nb
    if bcount ≥ Bc then break
  rule "list.sort.gallop"
  Bc:=Bc+1
  for _ in [0:total] do
   if Bc > 1 then Bc:=Bc - 1
   aH Bc
   let some at_ ←aX false (←elem' b (nb - 1)) a 0 na (na - 1) | return done out na nb
   let k:=na - at_
   acount:=k
   if k > 0 then
    out:=out++(a.extract at_ na).reverse;na:=at_
    if na == 0 then return done out na nb
   nb:=nb - 1;out:=out.push (←elem' b nb)
   if nb == 1 then return firstOfB out na nb
   let some at_ ←aX true (←elem' a (na - 1)) b 0 nb (nb - 1) | return done out na nb
   let k:=nb - at_
   bcount:=k
   if k > 0 then
    out:=out++(b.extract at_ nb).reverse;nb:=at_
    if nb == 1 then return firstOfB out na nb
    if nb == 0 then return done out na nb
   na:=na - 1;out:=out.push (←elem' a na)
   if na == 0 then return done out na nb
   if acount<7 && bcount<7 then break
  Bc:=Bc+1
  aH Bc
 unsupported "internal:list.sort.merge-bound"):=rfl
section
variable{prog:Program}{w:World}{A:Around}{E:Value→Shared→Prop}{s:Shared}{κ:KeyKind}{kd:SortKind}{st:SortSt}
theorem Nh{xs:Array Keyed}{i:Nat}(h:i<xs.size):xs.toList.take (i+1)=xs.toList.take i++[xs[i]]:=by
 rw[List.take_add_one,yI,yH h]
 rfl
theorem S5(xs:Array Keyed)(n:Nat):(xs.extract 0 n).toList=xs.toList.take n:=by
 rw[Array.toList_extract,List.extract_eq_take_drop]
 rfl
theorem iM(xs:Array Keyed)(i n:Nat):(xs.extract i n).toList=(xs.toList.take n).drop i:=by
 rw[Array.toList_extract,List.extract_eq_take_drop,List.drop_take]
theorem Qg{l:List Keyed}{i n:Nat}(h:i≤n):l.take n=l.take i++(l.take n).drop i:=by
 have e:=zM i (l.take n)
 rw[List.take_take,Nat.min_eq_left h]at e
 exact e.symm
theorem Uk{xs:Array Keyed}{n:Nat}{y:Keyed}(h:y∈xs.toList.take n):∃j,xs[j]?=some y∧j<n∧j<xs.size:=by
 obtain⟨j,hj⟩:=An.mp h
 rw[zW]at hj
 split at hj
 ·next c=>
  rw[yI]at hj
  exact⟨j,hj,c,(Array.getElem?_eq_some_iff.mp hj).1⟩
 ·cases hj
theorem kY{xs:Array Keyed}{i n:Nat}{y:Keyed}(h:y∈(xs.toList.take n).drop i):∃j,xs[j]?=some y∧i≤j∧j<n∧j<xs.size:=by
 obtain⟨j,hj⟩:=An.mp h
 rw[Ah,zW]at hj
 split at hj
 ·next c=>
  rw[yI]at hj
  exact⟨i+j,hj,by omega,c,(Array.getElem?_eq_some_iff.mp hj).1⟩
 ·cases hj
abbrev dnH(a b out:Array Keyed)(na nb:Nat):Array Keyed:=a.extract 0 na++b.extract 0 nb++out.reverse
abbrev fbH(a b out:Array Keyed)(na nb:Nat):Array Keyed:=b.extract 0 nb++a.extract 0 na++out.reverse
abbrev H2:Type:=Option (Array Keyed)×Nat×Nat×Array Keyed×Nat×Nat×Nat
abbrev H1:Type:=Option (Array Keyed)×Nat×Nat×Array Keyed×Nat×Nat
abbrev H0:Type:=Option (Array Keyed)×Nat×Nat×Array Keyed×Nat
def hi3(a b out:Array Keyed)(na nb mg k1 k2:Nat):StateT SortSt Sem (ForInStep H2):=do
 let x ←elem' a (na - 1)
 if (na - 1 == 0)=true then pure (.done (some (dnH a b (out.push x) (na - 1) nb),na - 1,nb,out.push x,mg,k1,k2))
 else if (decide (k1<7) && decide (k2<7))=true then pure (.done (none,na - 1,nb,out.push x,mg,k1,k2))
 else pure (.yield (none,na - 1,nb,out.push x,mg,k1,k2))
def hi2(a b out:Array Keyed)(na nb mg k1 k20:Nat):StateT SortSt Sem (ForInStep H2):=do
 let x ←elem' b (nb - 1)
 if (nb - 1 == 1)=true then pure (.done (some (fbH a b (out.push x) na (nb - 1)),na,nb - 1,out.push x,mg,k1,k20))
 else do
  let y ←elem' a (na - 1)
  let r ←aX true y b 0 (nb - 1) (nb - 1 - 1)
  match r with
  | some k=>
   if nb - 1 - k > 0 then
    if (k == 1)=true then pure (.done (some (fbH a b (out.push x++(b.extract k (nb - 1)).reverse) na k),na,k,out.push x++(b.extract k (nb - 1)).reverse,mg,k1,nb - 1 - k))
    else if (k == 0)=true then pure (.done (some (dnH a b (out.push x++(b.extract k (nb - 1)).reverse) na k),na,k,out.push x++(b.extract k (nb - 1)).reverse,mg,k1,nb - 1 - k))
    else hi3 a b (out.push x++(b.extract k (nb - 1)).reverse) na k mg k1 (nb - 1 - k)
   else hi3 a b (out.push x) na (nb - 1) mg k1 (nb - 1 - k)
  | _=>pure (.done (some (dnH a b (out.push x) na (nb - 1)),na,nb - 1,out.push x,mg,k1,k20))
def hi1(a b out:Array Keyed)(na nb mg k10 k20:Nat):StateT SortSt Sem (ForInStep H2):=do
 aH mg
 let x ←elem' b (nb - 1)
 let r ←aX false x a 0 na (na - 1)
 match r with
 | some k=>
  if na - k > 0 then
   if (k == 0)=true then pure (.done (some (dnH a b (out++(a.extract k na).reverse) k nb),k,nb,out++(a.extract k na).reverse,mg,na - k,k20))
   else hi2 a b (out++(a.extract k na).reverse) k nb mg (na - k) k20
  else hi2 a b out na nb mg (na - k) k20
 | _=>pure (.done (some (dnH a b out na nb),na,nb,out,mg,k10,k20))
structure HiC(κ:KeyKind)(a b:Array Keyed):Prop where
 ha:KeysOf κ a
 hb:KeysOf κ b
 sa:Srt κ a.toList
 sb:Srt κ b.toList
 h0:∀x∈b.toList.take 1,∀y∈a.toList,leK κ x y
structure Jh(κ:KeyKind)(a b out:Array Keyed)(na nb:Nat):Prop where
 mi:Mh κ (a.toList++b.toList) out.toList.reverse (a.toList.take na) (b.toList.take nb)
 na1:0<na
 na2:na<a.size
 nb1:1<nb
 nb2:nb≤b.size
 sz:out.size+na+nb=a.size+b.size
def RsH(κ:KeyKind)(a b:Array Keyed)(N:Nat)(c:H2):Prop:=(∃r,c.1=some r∧Mgd κ a b r)∨(c.1=none∧Jh κ a b c.2.2.2.1 c.2.1 c.2.2.1∧N<c.2.2.2.1.size)
def PsH(κ:KeyKind)(a b:Array Keyed)(st:SortSt)(N:Nat):ForInStep H2→SortSt→Prop:=fun r u=>GalS st u∧match r with
 | .done c=>RsH κ a b N c
 | .yield c=>c.1=none∧Jh κ a b c.2.2.2.1 c.2.1 c.2.2.1∧N<c.2.2.2.1.size
theorem Pf{a b out:Array Keyed}{na nb:Nat}(h:Mh κ (a.toList++b.toList) out.toList.reverse (a.toList.take na) (b.toList.take nb))(e:na=0∨nb=0):Mgd κ a b (dnH a b out na nb):=by
 have q:=h.fin fun x hx y hy=>by
  rcases e with rfl | rfl
  ·rw[List.take_zero]at hx
   cases hx
  ·rw[List.take_zero]at hy
   cases hy
 unfold Mgd dnH
 rw[zN,zN,S5,S5,Array.toList_reverse]
 exact q
theorem ff{a b out:Array Keyed}{na nb:Nat}(C:HiC κ a b)(h:Mh κ (a.toList++b.toList) out.toList.reverse (a.toList.take na) (b.toList.take nb))(e:nb=1):Mgd κ a b (fbH a b out na nb):=by
 subst e
 have q:=h.sw.fin fun x hx y hy=>C.h0 x hx y (Au hy)
 unfold Mgd fbH
 rw[zN,zN,S5,S5,Array.toList_reverse]
 exact q
theorem um{a b out:Array Keyed}{na nb:Nat}(h:Mh κ (a.toList++b.toList) out.toList.reverse (a.toList.take na) (b.toList.take nb))(h0:0<nb)(hb:nb≤b.size)(hl:∀y∈a.toList.take na,leK κ y (b[nb - 1]'(by omega))):Mh κ (a.toList++b.toList) (out.push (b[nb - 1]'(by omega))).toList.reverse (a.toList.take na) (b.toList.take (nb - 1)):=by
 have e:=Nh (xs:=b) (i:=nb - 1) (by omega)
 rw[show nb - 1+1=nb by omega]at e
 rw[e]at h
 rw[Array.toList_push,List.reverse_append]
 exact h.b fun x hx y hy=>by rw[yN.mp hx];exact hl y hy
theorem qK{a b out:Array Keyed}{na nb:Nat}(h:Mh κ (a.toList++b.toList) out.toList.reverse (a.toList.take na) (b.toList.take nb))(h0:0<na)(ha:na≤a.size)(hl:∀y∈b.toList.take nb,leK κ y (a[na - 1]'(by omega))):Mh κ (a.toList++b.toList) (out.push (a[na - 1]'(by omega))).toList.reverse (a.toList.take (na - 1)) (b.toList.take nb):=by
 have e:=Nh (xs:=a) (i:=na - 1) (by omega)
 rw[show na - 1+1=na by omega]at e
 rw[e]at h
 rw[Array.toList_push,List.reverse_append]
 exact h.a fun x hx y hy=>by rw[yN.mp hx];exact hl y hy
theorem oJ{a b out:Array Keyed}{na nb mg k1 k2 N:Nat}{u:SortSt}(C:HiC κ a b)(gu:GalS st u)(j:Jh κ a b out na nb)(hN:N≤out.size)(hl:∀y∈b.toList.take nb,leK κ y (a[na - 1]'(by have:=j.na1;have:=j.na2;omega))):wpS (model prog w) A E s (hi3 a b out na nb mg k1 k2) (PsH κ a b st N) u:=by
 have i1:=j.na1
 have i2:=j.na2
 unfold hi3
 rw[Yk (show na - 1<a.size by omega)]
 refine yR (yQ ?_)
 have m:=qK j.mi i1 (by omega) hl
 have sz:=j.sz
 have zz:(out.push (a[na - 1]'(by omega))).size=out.size+1:=AC _
 by_cases c:na - 1=0
 ·rw[yC (by rw[zk];exact c)]
  exact yQ ⟨gu,.inl ⟨_,rfl,Pf m (.inl c)⟩⟩
 ·rw[yy (by rw[zk];exact c)]
  have j2:Jh κ a b (out.push (a[na - 1]'(by omega))) (na - 1) nb:=⟨m,by omega,by omega,j.nb1,j.nb2,by rw[zz];omega⟩
  split
  ·exact yQ ⟨gu,.inr ⟨rfl,j2,by show N<(out.push _).size;omega⟩⟩
  ·exact yQ ⟨gu,rfl,j2,by show N<(out.push _).size;omega⟩
theorem pf{a b out:Array Keyed}{na nb mg k1 k2 N:Nat}{u:SortSt}(hc:aQ prog w A s κ kd)(kn:kindOf st=kd)(C:HiC κ a b)(gu:GalS st u)(j:Jh κ a b out na nb)(hN:N≤out.size)(hl:∀y∈a.toList.take na,leK κ y (b[nb - 1]'(by have:=j.nb1;have:=j.nb2;omega))):wpS (model prog w) A E s (hi2 a b out na nb mg k1 k2) (PsH κ a b st N) u:=by
 have i1:=j.na1
 have i2:=j.na2
 have i3:=j.nb1
 have i4:=j.nb2
 unfold hi2
 rw[Yk (show nb - 1<b.size by omega)]
 refine yR (yQ ?_)
 have m:=um j.mi (by omega) i4 hl
 have sz:=j.sz
 have zz:(out.push (b[nb - 1]'(by omega))).size=out.size+1:=AC _
 by_cases c:nb - 1=1
 ·rw[yC (by rw[zk];exact c)]
  exact yQ ⟨gu,.inl ⟨_,rfl,ff C m c⟩⟩
 rw[yy (by rw[zk];exact c),Yk (show na - 1<a.size by omega)]
 refine yR (yQ ?_)
 refine yR (W8 hc (gu.kn.trans kn) C.hb (W2 C.ha (show na - 1<a.size by omega)) (by omega) (by omega) (C.sb.sublist ((List.take_sublist _ _).trans (List.drop_sublist _ _))) fun k hk g1 g2=>?_)
 have gea:∀x∈(b.toList.take (nb - 1)).drop k,∀y∈a.toList.take na,leK κ y x:=by
  intro x hx y hy
  obtain⟨i,hi,ki,ib,_⟩:=kY hx
  have q:κ.blt (ky κ x) (ky κ a[na - 1])=false:=g2 i x ki ib (by rw[AK];exact hi)
  obtain⟨n,hn,nn,_⟩:=Uk hy
  have q2:leK κ a[na - 1] x:=q
  refine leK.trans (C.sa.at (i:=n) (j:=na - 1) (by omega) ?_ ?_) q2
  ·rw[yI];exact hn
  ·rw[yI];exact yH _
 have lta:∀y∈b.toList.take k,leK κ y a[na - 1]:=by
  intro y hy
  obtain⟨n,hn,nn,_⟩:=Uk hy
  have q:κ.blt (ky κ y) (ky κ a[na - 1])=true:=g1 n y nn (by rw[AK];exact hn)
  exact leK.of q
 dsimp only
 have m2:Mh κ (a.toList++b.toList) (out.push (b[nb - 1]'(by omega))++(b.extract k (nb - 1)).reverse).toList.reverse (a.toList.take na) (b.toList.take k):=by
  rw[zN,List.reverse_append,Array.toList_reverse,List.reverse_reverse,iM]
  rw[Qg (l:=b.toList) hk]at m
  exact m.b gea
 have z2:(out.push (b[nb - 1]'(by omega))++(b.extract k (nb - 1)).reverse).size=out.size+1+(nb - 1 - k):=by
  rw[Array.size_append,Array.size_reverse,Array.size_extract,zz]
  omega
 by_cases k0:nb - 1 - k > 0
 ·rw[yC k0]
  by_cases c2:k=1
  ·rw[yC (by rw[zk];exact c2)]
   exact yQ ⟨gu,.inl ⟨_,rfl,ff C m2 c2⟩⟩
  rw[yy (by rw[zk];exact c2)]
  by_cases c3:k=0
  ·rw[yC (by rw[zk];exact c3)]
   exact yQ ⟨gu,.inl ⟨_,rfl,Pf m2 (.inr c3)⟩⟩
  ·rw[yy (by rw[zk];exact c3)]
   exact oJ C gu ⟨m2,i1,i2,by omega,by omega,by rw[z2];omega⟩ (by omega) lta
 ·rw[yy k0]
  obtain rfl:k=nb - 1:=by omega
  exact oJ C gu ⟨m,i1,i2,by omega,by omega,by rw[zz];omega⟩ (by omega) lta
theorem qr{a b out:Array Keyed}{na nb mg k1 k2 N:Nat}{u:SortSt}(hc:aQ prog w A s κ kd)(kn:kindOf st=kd)(C:HiC κ a b)(gu:GalS st u)(j:Jh κ a b out na nb)(hN:N≤out.size):wpS (model prog w) A E s (hi1 a b out na nb mg k1 k2) (PsH κ a b st N) u:=by
 have i1:=j.na1
 have i2:=j.na2
 have i3:=j.nb1
 have i4:=j.nb2
 have sz:=j.sz
 have m:=j.mi
 unfold hi1
 rw[Xa]
 refine yR (wpS_modify ?_)
 have gu:=gu.set mg
 rw[Yk (show nb - 1<b.size by omega)]
 refine yR (yQ ?_)
 refine yR (W8 hc (gu.kn.trans kn) C.ha (W2 C.hb (show nb - 1<b.size by omega)) (by omega) (by omega) (C.sa.sublist ((List.take_sublist _ _).trans (List.drop_sublist _ _))) fun k hk g1 g2=>?_)
 have gtb:∀x∈(a.toList.take na).drop k,∀y∈b.toList.take nb,leK κ y x:=by
  intro x hx y hy
  obtain⟨i,hi,ki,ib,_⟩:=kY hx
  have q:=g2 i x ki ib (by rw[AK];exact hi)
  unfold bey at q
  rw[yy yL,Bool.not_eq_false']at q
  obtain⟨n,hn,nn,_⟩:=Uk hy
  refine leK.trans (C.sb.at (i:=n) (j:=nb - 1) (by omega) ?_ ?_) (leK.of q)
  ·rw[yI];exact hn
  ·rw[yI];exact yH _
 have leb:∀y∈a.toList.take k,leK κ y b[nb - 1]:=by
  intro y hy
  obtain⟨n,hn,nn,_⟩:=Uk hy
  have q:=g1 n y nn (by rw[AK];exact hn)
  unfold bey at q
  rw[yy yL,Bool.not_eq_true']at q
  exact q
 dsimp only
 have m2:Mh κ (a.toList++b.toList) (out++(a.extract k na).reverse).toList.reverse (a.toList.take k) (b.toList.take nb):=by
  rw[zN,List.reverse_append,Array.toList_reverse,List.reverse_reverse,iM]
  rw[Qg (l:=a.toList) hk]at m
  exact m.a gtb
 have z2:(out++(a.extract k na).reverse).size=out.size+(na - k):=by
  rw[Array.size_append,Array.size_reverse,Array.size_extract]
  omega
 by_cases k0:na - k > 0
 ·rw[yC k0]
  by_cases c2:k=0
  ·rw[yC (by rw[zk];exact c2)]
   exact yQ ⟨gu,.inl ⟨_,rfl,Pf m2 (.inl c2)⟩⟩
  ·rw[yy (by rw[zk];exact c2)]
   exact pf hc kn C gu ⟨m2,by omega,by omega,i3,i4,by rw[z2];omega⟩ (by omega) leb
 ·rw[yy k0]
  obtain rfl:k=na:=by omega
  exact pf hc kn C gu j hN leb
theorem ju{a b:Array Keyed}{Q:Array Keyed→SortSt→Prop}(hc:aQ prog w A s κ kd)(kn:kindOf st=kd)(C:HiC κ a b)(a1:0<a.size)(b1:0<b.size)(h1:∀y∈b.toList,leK κ y (a[a.size - 1]'(by omega)))(fin:∀(m:Array Keyed) (u:SortSt),GalS st u→Mgd κ a b m→Q m u):wpS (model prog w) A E s (dI a b) Q st:=by
 rw[gM]
 refine yR (m:=liftM (rule _)) (wpS_lift (AR ⟨rfl,?_⟩))
 dsimp only
 rw[Yk (show a.size - 1<a.size by omega)]
 refine yR (yQ ?_)
 have m0:Mh κ (a.toList++b.toList) (#[]:Array Keyed).toList.reverse (a.toList.take a.size) (b.toList.take b.size):=by
  rw[Az (by rw[yS];exact yF _),Az (by rw[yS];exact yF _)]
  exact⟨by rw[List.reverse_nil,Ab],List.Pairwise.nil,C.sa,C.sb,fun _ _ _ h=>nomatch h⟩
 have m1:Mh κ (a.toList++b.toList) #[a[a.size - 1]].toList.reverse (a.toList.take (a.size - 1)) (b.toList.take b.size):=qK m0 a1 (yF _) fun y hy=>h1 y (Au hy)
 by_cases c:a.size - 1=0
 ·rw[yC (by rw[zk];exact c)]
  exact yQ (fin _ _ .refl (Pf m1 (.inl c)))
 rw[yy (by rw[zk];exact c)]
 by_cases c2:b.size=1
 ·rw[yC (by rw[zk];exact c2)]
  exact yQ (fin _ _ .refl (ff C m1 c2))
 rw[yy (by rw[zk];exact c2)]
 refine yR (wpS_get ?_)
 have j1:Jh κ a b #[a[a.size - 1]] (a.size - 1) b.size:=⟨m1,by omega,by omega,by omega,by omega,by show 1+(a.size - 1)+b.size=_;omega⟩
 refine yR (Ay (z9 (β:=H0) (Q:=fun c u=>GalS st u∧∃r,c.1=some r∧Mgd κ a b r)
  (fun x c u=>GalS st u∧c.1=none∧Jh κ a b c.2.2.2.1 c.2.1 c.2.2.1∧x<c.2.2.2.1.size) ?_ ?_ ⟨.refl,rfl,j1,Nat.zero_lt_one⟩) ?_)
 ·rintro x ⟨_,na,nb,out,mg⟩ u _ hx ⟨gu,rfl,j,hN⟩
  dsimp only
  have hN:x<out.size:=hN
  refine yR (Ay (z9 (β:=H1) (Q:=fun c v=>GalS st v∧((∃r,c.1=some r∧Mgd κ a b r)∨(c.1=none∧Jh κ a b c.2.2.2.1 c.2.1 c.2.2.1∧out.size<c.2.2.2.1.size)))
   (fun y c v=>GalS st v∧c.1=none∧Jh κ a b c.2.2.2.1 c.2.1 c.2.2.1∧out.size+y≤c.2.2.2.1.size) ?_ ?_ ⟨gu,rfl,j,yF _⟩) ?_)
  ·rintro y ⟨_,na2,nb2,AW,ac,bc⟩ v _ hy ⟨gv,rfl,j2,hM⟩
   dsimp only
   have hM:out.size+y≤AW.size:=hM
   have i1:0<na2:=j2.na1
   have i2:na2<a.size:=j2.na2
   have i3:1<nb2:=j2.nb1
   have i4:nb2≤b.size:=j2.nb2
   have sz:AW.size+na2+nb2=a.size+b.size:=j2.sz
   have mi2:Mh κ (a.toList++b.toList) AW.toList.reverse (a.toList.take na2) (b.toList.take nb2):=j2.mi
   rw[Yk (show nb2 - 1<b.size by omega),Yk (show na2 - 1<a.size by omega)]
   refine yR (yQ (yR (yQ (yR (Pr hc (gv.kn.trans kn) (W2 C.hb (show nb2 - 1<b.size by omega)) (W2 C.ha (show na2 - 1<a.size by omega)) ?_)))))
   dsimp only
   rcases bl:κ.blt (ky κ b[nb2 - 1]) (ky κ a[na2 - 1])with _ | _
   ·rw[yy yL]
    refine yR (yQ ?_)
    have m:=um mi2 (by omega) i4 fun z hz=>by
     obtain⟨n,hn,nn,_⟩:=Uk hz
     have q:leK κ a[na2 - 1] b[nb2 - 1]:=bl
     refine leK.trans (C.sa.at (i:=n) (j:=na2 - 1) (by omega) ?_ ?_) q
     ·rw[yI];exact hn
     ·rw[yI];exact yH _
    have zz:(AW.push (b[nb2 - 1]'(by omega))).size=AW.size+1:=AC _
    by_cases d:nb2 - 1=1
    ·rw[yC (by rw[zk];exact d)]
     exact yQ ⟨gv,.inl ⟨_,rfl,ff C m d⟩⟩
    ·rw[yy (by rw[zk];exact d)]
     have j3:Jh κ a b (AW.push (b[nb2 - 1]'(by omega))) na2 (nb2 - 1):=⟨m,i1,i2,by omega,by omega,by rw[zz];omega⟩
     split
     ·exact yQ ⟨gv,.inr ⟨rfl,j3,by show _<(AW.push _).size;omega⟩⟩
     ·exact yQ ⟨gv,rfl,j3,by show _≤(AW.push _).size;omega⟩
   ·rw[yC rfl]
    refine yR (yQ ?_)
    have m:=qK mi2 i1 (by omega) fun z hz=>by
     obtain⟨n,hn,nn,_⟩:=Uk hz
     have q:leK κ b[nb2 - 1] a[na2 - 1]:=leK.of bl
     refine leK.trans (C.sb.at (i:=n) (j:=nb2 - 1) (by omega) ?_ ?_) q
     ·rw[yI];exact hn
     ·rw[yI];exact yH _
    have zz:(AW.push (a[na2 - 1]'(by omega))).size=AW.size+1:=AC _
    by_cases d:na2 - 1=0
    ·rw[yC (by rw[zk];exact d)]
     exact yQ ⟨gv,.inl ⟨_,rfl,Pf m (.inl d)⟩⟩
    ·rw[yy (by rw[zk];exact d)]
     have j3:Jh κ a b (AW.push (a[na2 - 1]'(by omega))) (na2 - 1) nb2:=⟨m,by omega,by omega,i3,i4,by rw[zz];omega⟩
     split
     ·exact yQ ⟨gv,.inr ⟨rfl,j3,by show _<(AW.push _).size;omega⟩⟩
     ·exact yQ ⟨gv,rfl,j3,by show _≤(AW.push _).size;omega⟩
  ·rintro⟨_,na2,nb2,AW,ac,bc⟩ v ⟨gv,rfl,j2,hM⟩
   have hM:out.size+max 0 (a.size+b.size)≤AW.size:=hM
   have i1:0<na2:=j2.na1
   have sz:AW.size+na2+nb2=a.size+b.size:=j2.sz
   omega
  ·rintro⟨r,na2,nb2,AW,ac,bc⟩ v ⟨gv,h⟩
   rcases h with⟨m,e,gm⟩|⟨e,j2,hM⟩
   ·have e:r=some m:=e
    subst e
    exact yQ ⟨gv,m,rfl,gm⟩
   have e:r=none:=e
   subst e
   have hM:out.size<AW.size:=hM
   refine yR (m:=liftM (rule _)) (wpS_lift (AR ⟨rfl,?_⟩))
   refine yR (Ay (z9 (β:=H2) (Q:=fun c v=>GalS st v∧RsH κ a b out.size c)
    (fun y c v=>GalS st v∧c.1=none∧Jh κ a b c.2.2.2.1 c.2.1 c.2.2.1∧out.size+y<c.2.2.2.1.size) ?_ ?_ ⟨gv,rfl,j2,hM⟩) ?_)
   ·rintro y ⟨_,na3,nb3,out3,mg3,k1,k2⟩ v3 _ hy ⟨g3,rfl,j3,h3⟩
    have h3:out.size+y<out3.size:=h3
    have upD:∀{c:H2}{v:SortSt},PsH κ a b st (out.size+(y+1)) (.done c) v→GalS st v∧RsH κ a b out.size c:=by
     rintro c v ⟨g,h⟩
     refine⟨g,?_⟩
     rcases h with h | ⟨h1,h2,h3⟩
     ·exact .inl h
     ·exact .inr ⟨h1,h2,by omega⟩
    show wpS (model prog w) A E s (if mg3 > 1 then hi1 a b out3 na3 nb3 (mg3 - 1) k1 k2 else hi1 a b out3 na3 nb3 mg3 k1 k2) _ v3
    split
    ·refine Ay (qr (N:=out.size+(y+1)) hc kn C g3 j3 (by omega)) fun r v h=>?_
     cases r with
     | done c=>exact upD h
     | yield c=>exact h
    ·refine Ay (qr (N:=out.size+(y+1)) hc kn C g3 j3 (by omega)) fun r v h=>?_
     cases r with
     | done c=>exact upD h
     | yield c=>exact h
   ·rintro⟨_,na3,nb3,out3,mg3,k1,k2⟩ v3 ⟨g3,rfl,j3,h3⟩
    have h3:out.size+max 0 (a.size+b.size)<out3.size:=h3
    have sz:out3.size+na3+nb3=a.size+b.size:=j3.sz
    omega
   ·rintro⟨r,na3,nb3,out3,mg3,k1,k2⟩ v3 ⟨g3,h⟩
    rcases h with⟨m,e,gm⟩|⟨e,j3,h3⟩
    ·have e:r=some m:=e
     subst e
     exact yQ ⟨g3,m,rfl,gm⟩
    ·have e:r=none:=e
     subst e
     have h3:out.size<out3.size:=h3
     dsimp only
     rw[Xa]
     exact yR (wpS_modify (yQ ⟨g3.set _,rfl,j3,by show x+1<out3.size;omega⟩))
 ·rintro⟨_,na2,nb2,AW,mg⟩ v ⟨gv,rfl,j2,hM⟩
  have hM:max 0 (a.size+b.size)<AW.size:=hM
  have sz:AW.size+na2+nb2=a.size+b.size:=j2.sz
  omega
 ·rintro⟨r,na2,nb2,AW,mg⟩ v ⟨gv,m,e,gm⟩
  have e:r=some m:=e
  subst e
  exact yQ (fin m v gv gm)
end
end L2T
namespace L2T
open PySem PySem.Spec PyProof.Rows L2
theorem rW(off:Nat):∀(m:List Keyed)(n:Nat)(arr:Array Keyed),off+n+m.length≤arr.size→
  ((m.zipIdx n).foldl (fun a (x:Keyed×Nat)=>a.setIfInBounds (off+x.2) x.1) arr).toList=arr.toList.take (off+n)++m++arr.toList.drop (off+n+m.length):=by
 intro m
 induction m with
 | nil=>
  intro n arr h
  rw[List.zipIdx_nil,List.foldl_nil,Ab,Aj,Nat.add_zero,zM]
 | cons p m ih=>
  intro n arr h
  rw[zd]at h
  rw[List.zipIdx_cons,List.foldl_cons,ih (n+1) _ (by rw[Array.size_setIfInBounds];omega),Array.toList_setIfInBounds]
  have e1:(arr.toList.set (off+n) p).take (off+(n+1))=arr.toList.take (off+n)++[p]:=by
   rw[←Nat.add_assoc,List.take_add_one,List.getElem?_set_self (by rw[yS];omega),List.take_set_of_le (yF _)]
   rfl
  have e2:(arr.toList.set (off+n) p).drop (off+(n+1)+m.length)=arr.toList.drop (off+n+(p::m).length):=by
   rw[List.drop_set_of_lt (by omega),zd]
   congr 1
   omega
  rw[e1,e2,zA (arr.toList.take (off+n)) [p] m]
  rfl
theorem V7(l:List Keyed)(i k m:Nat):(l.drop i).take (k+m)=(l.drop i).take k++(l.drop (i+k)).take m:=by
 rw[List.take_add,List.drop_drop]
theorem qD{arr:Array Keyed}{i n j:Nat}(hj:j<n)(h:i+j<arr.size):((arr.toList.drop i).take n)[j]?=some arr[i+j]:=by
 rw[zW,yC hj,Ah,yI]
 exact yH h
theorem eX(xs:Array Keyed)(i j:Nat):(xs.extract i j).toList=(xs.toList.drop i).take (j - i):=by
 rw[Array.toList_extract,List.extract_eq_take_drop]
def iX(i:Nat):StateT SortSt Sem Bool:=do
 let s ←get
 let (some (sa,na,power),some (sb,nb,_)):=((pendingOf s)[i]?,(pendingOf s)[i+1]?) | unsupported "internal:list.sort.pending"
 set (setPending s (((pendingOf s).setIfInBounds i (sa,na+nb,power)).eraseIdxIfInBounds (i+1)))
 let some k ←aX false (←elem' (arrOf s) sb) (arrOf s) sa na 0 | return false
 let (sa,na):=(sa+k,na - k)
 if na == 0 then return true
 let some nb ←aX true (←elem' (arrOf s) (sa+na - 1)) (arrOf s) sb nb (nb - 1) | return false
 if nb == 0 then return true
 let x:=(arrOf s).extract sa sb
 let y:=(arrOf s).extract sb (sb+nb)
 let merged ←if na≤nb then dP x y else dI x y
 modify fun s=>setArr s (merged.toList.zipIdx.foldl (fun a (p,j)=>a.setIfInBounds (sa+j) p) (arrOf s))
 return (failedOf (←get)).isNone
theorem gO(i:Nat):mergeAt' i=iX i:=rfl
section
variable{prog:Program}{w:World}{A:Around}{E:Value→Shared→Prop}{s:Shared}{κ:KeyKind}{kd:SortKind}{st:SortSt}
theorem tz{σ:Type}{M:Model}{x:σ}{Q:PUnit→σ→Prop}{u:σ}(h:Q ⟨⟩ x):wpS M A E s (set x:StateT σ Sem PUnit) Q u:=by
 unfold wpS
 rw[StateT.run_set]
 exact yB ⟨rfl,h⟩
theorem Sf{xs:Array Keyed}(h:KeysOf κ xs)(i j:Nat):KeysOf κ (xs.extract i j):=fun p hp=>by
 rw[eX]at hp
 exact h p (List.mem_of_mem_drop (Au hp))
structure MAt(κ:KeyKind)(st u:SortSt)(i sa na nb pw:Nat):Prop where
 kn:kindOf u=kindOf st
 fl:failedOf u=none
 pd:pendingOf u=((pendingOf st).setIfInBounds i (sa,na+nb,pw)).eraseIdxIfInBounds (i+1)
 arr:∃M,(arrOf u).toList=(arrOf st).toList.take sa++M++(arrOf st).toList.drop (sa+na+nb)∧M.Perm (((arrOf st).toList.drop sa).take (na+nb))∧Srt κ M
theorem jA{i sa na nb pw pw2:Nat}{Q:Bool→SortSt→Prop}(hc:aQ prog w A s κ kd)(kn:kindOf st=kd)(fl:failedOf st=none)(hk:KeysOf κ (arrOf st))(p1:(pendingOf st)[i]?=some (sa,na,pw))(p2:(pendingOf st)[i+1]?=some (sa+na,nb,pw2))(na1:0<na)(nb1:0<nb)(hs:sa+na+nb≤(arrOf st).size)(so1:Srt κ (((arrOf st).toList.drop sa).take na))(so2:Srt κ (((arrOf st).toList.drop (sa+na)).take nb))(fin:∀u,MAt κ st u i sa na nb pw→Q true u):wpS (model prog w) A E s (mergeAt' i) Q st:=by
 rw[gO]
 unfold iX
 refine yR (wpS_get ?_)
 rw[p1,p2]
 dsimp only
 refine yR (tz ?_)
 generalize hst':setPending st (((pendingOf st).setIfInBounds i (sa,na+nb,pw)).eraseIdxIfInBounds (i+1))=A9
 have kn':kindOf A9=kd:=by rw[←hst'];exact kn
 have ar':arrOf A9=arrOf st:=by rw[←hst']
 have fl':failedOf A9=none:=by rw[←hst'];exact fl
 have pd':pendingOf A9=((pendingOf st).setIfInBounds i (sa,na+nb,pw)).eraseIdxIfInBounds (i+1):=by rw[←hst']
 generalize hx:arrOf st=xs at hk hs so1 so2 ar'⊢
 have done:∀(u:SortSt)(M:List Keyed),kindOf u=kd→failedOf u=none→pendingOf u=pendingOf A9→(arrOf u).toList=xs.toList.take sa++M++xs.toList.drop (sa+na+nb)→M.Perm ((xs.toList.drop sa).take (na+nb))→Srt κ M→Q true u:=fun u M a1 a2 a3 a4 a5 a6=>
  fin u ⟨a1.trans kn.symm,a2,a3.trans pd',M,by rw[hx];exact a4,by rw[hx];exact a5,a6⟩
 have whole:xs.toList=xs.toList.take sa++((xs.toList.drop sa).take na++(xs.toList.drop (sa+na)).take nb)++xs.toList.drop (sa+na+nb):=by
  rw[←V7,Nat.add_assoc,←List.drop_drop,zA,zM,zM]
 have asis:Srt κ ((xs.toList.drop sa).take na++(xs.toList.drop (sa+na)).take nb)→Q true A9:=fun h=>
  done A9 _ kn' fl' rfl (by rw[ar'];exact whole) (by rw[V7]) h
 have sb:sa+na<xs.size:=by omega
 rw[Yk sb]
 refine yR (yQ ?_)
 have b0le:∀y∈(xs.toList.drop (sa+na)).take nb,leK κ xs[sa+na] y:=fun y hy=>by
  obtain⟨j,hj⟩:=An.mp hy
  exact so2.at (i:=0) (j:=j) (AQ _) (qD nb1 sb) hj
 refine yR (W8 hc kn' hk (W2 hk sb) na1 (by omega) so1 fun k hkn g1 g2=>?_)
 dsimp only
 have f1:∀x∈(xs.toList.drop sa).take k,leK κ x xs[sa+na]:=fun x hx=>by
  obtain⟨j,hj,jk,_⟩:=V4 hx
  have q:=g1 j x jk hj
  unfold bey at q
  rw[yy yL,Bool.not_eq_true']at q
  exact q
 have f2:∀x∈(xs.toList.drop (sa+k)).take (na - k),leK κ xs[sa+na] x:=fun x hx=>by
  obtain⟨j,hj,jk,_⟩:=V4 hx
  have q:=g2 (k+j) x (by omega) (by omega) (by rw[←Nat.add_assoc];exact hj)
  unfold bey at q
  rw[yy yL,Bool.not_eq_false']at q
  exact leK.of q
 by_cases c:na - k=0
 ·rw[yC (by rw[zk];exact c)]
  obtain rfl:k=na:=by omega
  exact yQ (asis (zB.mpr ⟨so1,so2,fun x hx y hy=>(f1 x hx).trans (b0le y hy)⟩))
 rw[yy (by rw[zk];exact c)]
 have el:sa+k+(na - k) - 1=sa+na - 1:=by omega
 have lt:sa+na - 1<xs.size:=by omega
 rw[el,Yk lt]
 refine yR (yQ ?_)
 have lale:∀x∈(xs.toList.drop sa).take na,leK κ x xs[sa+na - 1]:=fun x hx=>by
  obtain⟨j,hj⟩:=An.mp hx
  have jl:=(yK.mp hj).1
  rw[y7]at jl
  refine so1.at (i:=j) (j:=na - 1) (by omega) hj ?_
  rw[qD (show na - 1<na by omega) (show sa+(na - 1)<xs.size by omega)]
  congr 1
  congr 1
  omega
 refine yR (W8 hc kn' hk (W2 hk lt) (by omega) (by omega) so2 fun m hm g3 g4=>?_)
 dsimp only
 have f3:∀x∈(xs.toList.drop (sa+na)).take m,leK κ x xs[sa+na - 1]:=fun x hx=>by
  obtain⟨j,hj,jk,_⟩:=V4 hx
  have q:κ.blt (ky κ x) (ky κ xs[sa+na - 1])=true:=g3 j x jk hj
  exact leK.of q
 have f4:∀x∈(xs.toList.drop (sa+na+m)).take (nb - m),leK κ xs[sa+na - 1] x:=fun x hx=>by
  obtain⟨j,hj,jk,_⟩:=V4 hx
  have q:κ.blt (ky κ x) (ky κ xs[sa+na - 1])=false:=g4 (m+j) x (by omega) (by omega) (by rw[←Nat.add_assoc];exact hj)
  exact q
 by_cases c2:m=0
 ·rw[yC (by rw[zk];exact c2)]
  subst c2
  refine yQ (asis (zB.mpr ⟨so1,so2,fun x hx y hy=>(lale x hx).trans (f4 y ?_)⟩))
  exact hy
 rw[yy (by rw[zk];exact c2)]
 have e1:(xs.toList.drop sa).take na=(xs.toList.drop sa).take k++(xs.toList.drop (sa+k)).take (na - k):=by
  rw[←V7,Nat.add_sub_cancel' hkn]
 have e2:(xs.toList.drop (sa+na)).take nb=(xs.toList.drop (sa+na)).take m++(xs.toList.drop (sa+na+m)).take (nb - m):=by
  rw[←V7,Nat.add_sub_cancel' hm]
 have x1:(xs.extract (sa+k) (sa+na)).toList=(xs.toList.drop (sa+k)).take (na - k):=by
  rw[eX,show sa+na - (sa+k)=na - k by omega]
 have y1:(xs.extract (sa+na) (sa+na+m)).toList=(xs.toList.drop (sa+na)).take m:=by
  rw[eX,Nat.add_sub_cancel_left]
 have xz:(xs.extract (sa+k) (sa+na)).size=na - k:=by rw[Array.size_extract];omega
 have yz:(xs.extract (sa+na) (sa+na+m)).size=m:=by rw[Array.size_extract];omega
 rw[e1]at so1
 rw[e2]at so2
 have q1:=zB.mp so1
 have q2:=zB.mp so2
 have last:∀(mg:Array Keyed)(u:SortSt),GalS A9 u→Mgd κ (xs.extract (sa+k) (sa+na)) (xs.extract (sa+na) (sa+na+m)) mg→
   Q (failedOf (setArr u (mg.toList.zipIdx.foldl (fun a (x:Keyed×Nat)=>a.setIfInBounds (sa+k+x.2) x.1) (arrOf u)))).isNone (setArr u (mg.toList.zipIdx.foldl (fun a (x:Keyed×Nat)=>a.setIfInBounds (sa+k+x.2) x.1) (arrOf u))):=by
  rintro mg _ ⟨g,rfl⟩ ⟨pm,sm⟩
  rw[x1,y1]at pm
  have ml:mg.toList.length=na - k+m:=by
   have:=pm.length_eq
   rw[yJ,←x1,←y1,yS (xs:=xs.extract (sa+k) (sa+na)),yS (xs:=xs.extract (sa+na) (sa+na+m)),xz,yz]at this
   exact this
  have e0:(failedOf (setArr (eE A9 g) (mg.toList.zipIdx.foldl (fun a (x:Keyed×Nat)=>a.setIfInBounds (sa+k+x.2) x.1) (arrOf (eE A9 g))))).isNone=true:=by
   show(failedOf A9).isNone=true
   rw[fl']
   rfl
  rw[e0]
  have put:=rW (sa+k) mg.toList 0 xs (by rw[ml];omega)
  rw[ml,Nat.add_zero,show sa+k+(na - k+m)=sa+na+m by omega]at put
  refine done _ ((xs.toList.drop sa).take k++mg.toList++(xs.toList.drop (sa+na+m)).take (nb - m)) kn' fl' rfl ?_ ?_ ?_
  ·show(mg.toList.zipIdx.foldl (fun a (x:Keyed×Nat)=>a.setIfInBounds (sa+k+x.2) x.1) (arrOf A9)).toList=_
   rw[ar',put,List.take_add,show sa+na+nb=sa+na+m+(nb - m) by omega,←List.drop_drop (i:=nb - m) (j:=sa+na+m)]
   simp only[List.append_assoc]
   rw[zM]
  ·rw[V7,e1,e2]
   simp only[List.append_assoc]
   refine List.Perm.append_left _ ?_
   rw[←zA]
   exact pm.append_right _
  ·have inm:∀x,x∈mg.toList→x∈(xs.toList.drop (sa+k)).take (na - k)∨x∈(xs.toList.drop (sa+na)).take m:=fun x hx=>yY.mp (pm.mem_iff.mp hx)
   have ins:∀x,x∈(xs.toList.drop (sa+k)).take (na - k)→x∈(xs.toList.drop sa).take na:=fun x hx=>by rw[e1];exact yP _ hx
   have ink:∀x,x∈(xs.toList.drop sa).take k→x∈(xs.toList.drop sa).take na:=fun x hx=>by rw[e1];exact zw _ hx
   refine zB.mpr ⟨zB.mpr ⟨q1.1,sm,fun x hx y hy=>?_⟩,q2.2.1,fun x hx y hy=>?_⟩
   ·rcases inm y hy with h | h
    ·exact q1.2.2 x hx y h
    ·exact(f1 x hx).trans (b0le y (by rw[e2];exact zw _ h))
   ·rcases yY.mp hx with h | h
    ·exact(lale x (ink x h)).trans (f4 y hy)
    ·rcases inm x h with h | h
     ·exact(lale x (ins x h)).trans (f4 y hy)
     ·exact q2.2.2 x h y hy
 have fin2:∀(mg:Array Keyed)(u:SortSt),GalS A9 u→Mgd κ (xs.extract (sa+k) (sa+na)) (xs.extract (sa+na) (sa+na+m)) mg→
   wpS (model prog w) A E s (do
    modify fun s=>setArr s (mg.toList.zipIdx.foldl (fun a (x:Keyed×Nat)=>a.setIfInBounds (sa+k+x.2) x.1) (arrOf s))
    return (failedOf (←get)).isNone) Q u:=fun mg u gu gm=>yR (wpS_modify (yR (wpS_get (yQ (last mg u gu gm)))))
 have y0:(xs.extract (sa+na) (sa+na+m))[0]'(by omega)=xs[sa+na]:=by
  rw[Array.getElem_extract]
  rfl
 have xl:(xs.extract (sa+k) (sa+na))[(xs.extract (sa+k) (sa+na)).size - 1]'(by omega)=xs[sa+na - 1]:=by
  rw[Array.getElem_extract]
  congr 1
  omega
 by_cases c3:na - k≤m
 ·rw[yC c3]
  refine yR (jQ hc kn' ⟨Sf hk _ _,Sf hk _ _,by rw[x1];exact q1.2.1,by rw[y1];exact q2.1,fun x hx y hy=>?_⟩ (by omega) (by omega) (fun y hy=>?_) fun mg u gu gm=>fin2 mg u gu gm)
  ·rw[Uw (by omega),List.drop_of_length_le (by rw[yS];omega),Ab]at hy
   rw[yN.mp hy,xl]
   rw[y1]at hx
   exact f3 x hx
  ·rw[y0]
   rw[x1]at hy
   exact f2 y hy
 ·rw[yy c3]
  refine yR (ju hc kn' ⟨Sf hk _ _,Sf hk _ _,by rw[x1];exact q1.2.1,by rw[y1];exact q2.1,fun x hx y hy=>?_⟩ (by omega) (by omega) (fun y hy=>?_) fun mg u gu gm=>fin2 mg u gu gm)
  ·rw[show(1:Nat)=0+1 from rfl,Nh (by omega),List.take_zero,List.nil_append]at hx
   rw[yN.mp hx,y0]
   rw[x1]at hy
   exact f2 y hy
  ·rw[xl]
   rw[y1]at hy
   exact f3 y hy
end
end L2T
namespace L2T
open PySem PySem.Spec PyProof.Rows L2
def pG(lo a n:Nat):StateT SortSt Sem AscSt:=forIn [a:n] ((none,a):AscSt) fun _ c=>do
 match ←ltAt' (lo+c.2) (lo+c.2 - 1) with
 | some b=>if b=true then pure (.done (none,c.2))else pure (.yield (none,c.2+1))
 | _=>pure (.done (some none,c.2))
def gN(lo m n:Nat):StateT SortSt Sem (Option Nat):=do
 reverseSlice' lo (lo+m)
 let c ←pG lo m n
 match c.1 with
 | some r=>pure r
 | none=>pure (some c.2)
def lN(lo m n:Nat):StateT SortSt Sem DescSt:=forIn [m:n] ((none,m,0):DescSt) fun _ c=>do
 match ←ltAt' (lo+c.2.1) (lo+c.2.1 - 1) with
 | some b=>
  if b=true then
   if c.2.2 > 0 then do
    reverseSlice' (lo+c.2.1 - (c.2.2+1)) (lo+c.2.1)
    pure (.yield (none,c.2.1+1,0))
   else pure (.yield (none,c.2.1+1,0))
  else do
   match ←ltAt' (lo+c.2.1 - 1) (lo+c.2.1) with
   | some g=>if g=true then pure (.done (none,c.2.1,c.2.2))else pure (.yield (none,c.2.1+1,c.2.2+1))
   | _=>pure (.done (some none,c.2.1,c.2.2))
 | _=>pure (.done (some none,c.2.1,c.2.2))
def dU(lo m n:Nat):StateT SortSt Sem (Option Nat):=do
 liftM (rule "list.sort.descending-run")
 let c ←lN lo (m+1) n
 match c.1 with
 | some r=>pure r
 | none=>
  if c.2.2 > 0 then do
   reverseSlice' (lo+c.2.1 - (c.2.2+1)) (lo+c.2.1)
   gN lo c.2.1 n
  else gN lo c.2.1 n
theorem bnd{σ α β:Type}{m m':StateT σ Sem α}{f g:α→StateT σ Sem β}(h:m=m')(h2:∀a,f a=g a):m >>= f=m' >>= g:=by
 subst h
 rw[show f=g from funext h2]
theorem mG(lo n:Nat):countRun' lo n=(do
  let c ←pG lo 1 n
  match c.1 with
  | some r=>pure r
  | none=>
   if (c.2 == n)=true then pure (some c.2)
   else if c.2 > 1 then do
    match ←ltAt' lo (lo+c.2 - 1) with
    | some b=>if b=true then pure (some c.2)else do
      reverseSlice' lo (lo+c.2)
      dU lo c.2 n
    | _=>pure none
   else dU lo c.2 n):=by
 rw[countRun'_eq]
 unfold dU gN lN pG
 refine bnd rfl fun c=>?_
 obtain⟨r,m⟩:=c
 cases r with
 | some r=>rfl
 | none=>
  dsimp only
  split
  ·rfl
  ·split
   ·refine bnd rfl fun x=>?_
    cases x with
    | none=>rfl
    | some b=>
     dsimp only
     split
     ·rfl
     ·refine bnd rfl fun _=>?_
      refine bnd rfl fun _=>bnd rfl fun c2=>?_
      obtain⟨r2,m2,q2⟩:=c2
      cases r2 with
      | some r2=>rfl
      | none=>
       dsimp only
       split
       ·refine bnd rfl fun _=>?_
        refine bnd rfl fun _=>bnd rfl fun c3=>?_
        obtain⟨r3,m3⟩:=c3
        cases r3 <;> rfl
       ·refine bnd rfl fun _=>bnd rfl fun c3=>?_
        obtain⟨r3,m3⟩:=c3
        cases r3 <;> rfl
   ·refine bnd rfl fun _=>bnd rfl fun c2=>?_
    obtain⟨r2,m2,q2⟩:=c2
    cases r2 with
    | some r2=>rfl
    | none=>
     dsimp only
     split
     ·refine bnd rfl fun _=>?_
      refine bnd rfl fun _=>bnd rfl fun c3=>?_
      obtain⟨r3,m3⟩:=c3
      cases r3 <;> rfl
     ·refine bnd rfl fun _=>bnd rfl fun c3=>?_
      obtain⟨r3,m3⟩:=c3
      cases r3 <;> rfl
structure Sl(kd:SortKind)(Ba:SortSt)(lo:Nat)(u:SortSt):Prop where
 pm:(arrOf u).Perm (arrOf Ba)
 kn:kindOf u=kd
 pd:pendingOf u=pendingOf Ba
 fl:failedOf u=none
 lw:∀k,k<lo→(arrOf u)[k]?=(arrOf Ba)[k]?
def Rl(κ:KeyKind)(xs:Array Keyed)(lo n:Nat):Prop:=∀i j,i≤j→j<n→κ.blt (KK κ xs (lo+j)) (KK κ xs (lo+i))=false
def Fl'(κ:KeyKind)(xs:Array Keyed)(lo n:Nat):Prop:=∀i j,i≤j→j<n→κ.blt (KK κ xs (lo+i)) (KK κ xs (lo+j))=false
section
variable{prog:Program}{w:World}{A:Around}{E:Value→Shared→Prop}{s:Shared}{κ:KeyKind}{kd:SortKind}{Ba st:SortSt}{lo:Nat}
theorem Sl.sz(b:Sl kd Ba lo st):(arrOf st).size=(arrOf Ba).size:=b.pm.size_eq
theorem Sl.put(b:Sl kd Ba lo st){ys:Array Keyed}(p:ys.Perm (arrOf st))(h:∀k,k<lo→ys[k]?=(arrOf st)[k]?):Sl kd Ba lo (setArr st ys):=⟨p.trans b.pm,b.kn,b.pd,b.fl,fun k hk=>(h k hk).trans (b.lw k hk)⟩
theorem Sl.turn(b:Sl kd Ba lo st){i j:Nat}(hi:lo≤i)(hj:j≤(arrOf st).size):Sl kd Ba lo (setArr st (mirror (arrOf st) i j ((j - i) / 2))):=b.put (mirror_perm _ _ _ _) fun k hk=>by rw[getElem?_mirror_all hj,yy (by omega)]
theorem Rl.snoc{xs:Array Keyed}{m:Nat}(r:Rl κ xs lo m)(h1:1≤m)(h:κ.blt (KK κ xs (lo+m)) (KK κ xs (lo+m - 1))=false):Rl κ xs lo (m+1):=by
 intro i j hij hj
 rcases zL j m with l | l
 ·exact r i j hij l
 obtain rfl:j=m:=by omega
 rcases zL i j with l2 | l2
 ·rw[show lo+j - 1=lo+(j - 1) by omega]at h
  exact ltF (r i (j - 1) (by omega) (by omega)) h
 ·obtain rfl:i=j:=by omega
  exact κ.irrefl _
theorem Fl'.snoc{xs:Array Keyed}{m:Nat}(r:Fl' κ xs lo m)(h1:1≤m)(h:κ.blt (KK κ xs (lo+m - 1)) (KK κ xs (lo+m))=false):Fl' κ xs lo (m+1):=by
 intro i j hij hj
 rcases zL j m with l | l
 ·exact r i j hij l
 obtain rfl:j=m:=by omega
 rcases zL i j with l2 | l2
 ·rw[show lo+j - 1=lo+(j - 1) by omega]at h
  exact ltF h (r i (j - 1) (by omega) (by omega))
 ·obtain rfl:i=j:=by omega
  exact κ.irrefl _
theorem uV{xs:Array Keyed}:Rl κ xs lo 1:=fun i j hij hj=>by
 obtain rfl:i=j:=by omega
 exact κ.irrefl _
theorem one_Fl{xs:Array Keyed}:Fl' κ xs lo 1:=fun i j hij hj=>by
 obtain rfl:i=j:=by omega
 exact κ.irrefl _
theorem Fl'.same{xs ys:Array Keyed}{m:Nat}(r:Fl' κ xs lo m)(h:∀k,KK κ ys k=KK κ xs k):Fl' κ ys lo m:=fun i j hij hj=>by
 rw[h,h];exact r i j hij hj
theorem hZ{i j:Nat}{Q:Option Bool→SortSt→Prop}(hc:aQ prog w A s κ kd)(hk:KeysOf κ (arrOf Ba))(b:Sl kd Ba lo st)(hi:i<(arrOf Ba).size)(hj:j<(arrOf Ba).size)(q:Q (some (κ.blt (KK κ (arrOf st) i) (KK κ (arrOf st) j))) st):wpS (model prog w) A E s (ltAt' i j) Q st:=by
 have hk':KeysOf κ (arrOf st):=fun p hp=>hk p ((Array.perm_iff_toList_perm.mp b.pm).mem_iff.mp hp)
 have hi':i<(arrOf st).size:=by rw[b.sz];exact hi
 have hj':j<(arrOf st).size:=by rw[b.sz];exact hj
 rw[N2 (yH hi'),N2 (yH hj')]at q
 rw[ltAt'_eq]
 refine yR (wpS_get ?_)
 show wpS (model prog w) A E s (elem' (arrOf st) i >>= fun u=>elem' (arrOf st) j >>= fun v=>lt' u v) Q st
 rw[Yk hi',Yk hj']
 exact yR (yQ (yR (yQ (Pr hc b.kn (W2 hk' hi') (W2 hk' hj') q))))
theorem xj{a n:Nat}{Q:AscSt→SortSt→Prop}(hc:aQ prog w A s κ kd)(hk:KeysOf κ (arrOf Ba))(hn:lo+n≤(arrOf Ba).size)(h1:1≤a)(h2:a≤n)(b:Sl kd Ba lo st)(r:Rl κ (arrOf st) lo a)(fin:∀m,a≤m→m≤n→Rl κ (arrOf st) lo m→(m<n→κ.blt (KK κ (arrOf st) (lo+m)) (KK κ (arrOf st) (lo+m - 1))=true)→Q (none,m) st):wpS (model prog w) A E s (pG lo a n) Q st:=by
 unfold pG
 refine z9 (fun i c u=>u=st∧c=(none,i)∧Rl κ (arrOf st) lo i) ?_ ?_ ⟨rfl,rfl,r⟩
 ·rintro i _ _ h3 h4 ⟨rfl,rfl,r'⟩
  refine yR (hZ hc hk b (by show lo+i<_;omega) (by show lo+i - 1<_;omega) ?_)
  dsimp only
  rcases e:κ.blt (KK κ (arrOf _) (lo+i)) (KK κ (arrOf _) (lo+i - 1))with _ | _
  ·exact yQ ⟨rfl,rfl,r'.snoc (by omega) e⟩
  ·exact yQ (fin i h3 (by omega) r' fun _=>e)
 ·rintro _ _ ⟨rfl,rfl,r'⟩
  rw[Nat.max_eq_right h2]at r'⊢
  exact fin n h2 (yF _) r' fun q=>absurd q (AJ _)
theorem qQ{m n:Nat}{Q:Option Nat→SortSt→Prop}(hc:aQ prog w A s κ kd)(hk:KeysOf κ (arrOf Ba))(hn:lo+n≤(arrOf Ba).size)(h1:1≤m)(h2:m≤n)(b:Sl kd Ba lo st)(r:Fl' κ (arrOf st) lo m)(fin:∀l u,Sl kd Ba lo u→1≤l→l≤n→Rl κ (arrOf u) lo l→Q (some l) u):wpS (model prog w) A E s (gN lo m n) Q st:=by
 unfold gN
 have ml:lo+m≤(arrOf st).size:=by rw[b.sz];omega
 refine yR (Rm ?_)
 have b':=b.turn (i:=lo) (yF _) ml
 refine yR (xj hc hk hn h1 h2 b' (fun i j hij hj=>?_) fun l h3 h4 r' _=>yQ (fin l _ b' (by omega) h4 r'))
 show κ.blt (KK κ (mirror (arrOf st) lo (lo+m) ((lo+m - lo) / 2)) (lo+j)) (KK κ (mirror (arrOf st) lo (lo+m) ((lo+m - lo) / 2)) (lo+i))=false
 rw[KK_mirror ml,KK_mirror ml,yC ⟨by omega,by omega⟩,yC ⟨by omega,by omega⟩,show lo+(lo+m) - 1 - (lo+j)=lo+(m - 1 - j) by omega,show lo+(lo+m) - 1 - (lo+i)=lo+(m - 1 - i) by omega]
 exact r _ _ (by omega) (by omega)
theorem uP{m n:Nat}{Q:DescSt→SortSt→Prop}(hc:aQ prog w A s κ kd)(hk:KeysOf κ (arrOf Ba))(hn:lo+n≤(arrOf Ba).size)(h1:1≤m)(h2:m≤n)(b:Sl kd Ba lo st)(r:Fl' κ (arrOf st) lo m)(fin:∀l e u,Sl kd Ba lo u→m≤l→l≤n→Fl' κ (arrOf u) lo l→e+1≤l→(∀i,lo+l - (e+1)≤i→i<lo+l→KK κ (arrOf u) i=KK κ (arrOf u) (lo+l - 1))→Q (none,l,e) u):
  wpS (model prog w) A E s (lN lo m n) Q st:=by
 unfold lN
 refine z9 (fun i c u=>∃e,c=(none,i,e)∧Sl kd Ba lo u∧Fl' κ (arrOf u) lo i∧e+1≤i∧∀k,lo+i - (e+1)≤k→k<lo+i→KK κ (arrOf u) k=KK κ (arrOf u) (lo+i - 1)) ?_ ?_ ⟨0,rfl,b,r,h1,fun k h3 h4=>by rw[show k=lo+m - 1 by omega]⟩
 ·rintro i _ u h3 h4 ⟨e,rfl,b',r',he,al⟩
  have il:lo+i≤(arrOf u).size:=by rw[b'.sz];omega
  dsimp only
  refine yR (hZ hc hk b' (by omega) (by omega) ?_)
  dsimp only
  rcases e1:κ.blt (KK κ (arrOf u) (lo+i)) (KK κ (arrOf u) (lo+i - 1))with _ | _
  ·rw[yy yL]
   refine yR (hZ hc hk b' (by omega) (by omega) ?_)
   dsimp only
   rcases e2:κ.blt (KK κ (arrOf u) (lo+i - 1)) (KK κ (arrOf u) (lo+i))with _ | _
   ·have eq:KK κ (arrOf u) (lo+i)=KK κ (arrOf u) (lo+i - 1):=κ.total _ _ e1 e2
    refine yQ ⟨e+1,rfl,b',r'.snoc (by omega) e2,by omega,fun k h5 h6=>?_⟩
    rw[show lo+(i+1) - 1=lo+i by omega]
    rcases zL k (lo+i)with l | l
    ·rw[eq];exact al k (by omega) l
    ·rw[show k=lo+i by omega]
   ·exact yQ (fin i e u b' h3 (by omega) r' he al)
  ·have up:=r'.snoc (by omega) (ltA e1)
   rw[yC rfl]
   by_cases c:e > 0
   ·rw[yC c]
    refine yR (Rm ?_)
    exact yQ ⟨0,rfl,b'.turn (by omega) il,up.same (KK_mirror_equal il al),by omega,fun k h5 h6=>by rw[show k=lo+(i+1) - 1 by omega]⟩
   ·rw[yy c]
    exact yQ ⟨0,rfl,b',up,by omega,fun k h5 h6=>by rw[show k=lo+(i+1) - 1 by omega]⟩
 ·rintro _ u ⟨e,rfl,b',r',he,al⟩
  rw[Nat.max_eq_right h2]at r' he al⊢
  exact fin n e u b' h2 (yF _) r' he al
theorem lR{m n:Nat}{Q:Option Nat→SortSt→Prop}(hc:aQ prog w A s κ kd)(hk:KeysOf κ (arrOf Ba))(hn:lo+n≤(arrOf Ba).size)(h2:m+1≤n)(b:Sl kd Ba lo st)(r:Fl' κ (arrOf st) lo (m+1))(fin:∀l u,Sl kd Ba lo u→1≤l→l≤n→Rl κ (arrOf u) lo l→Q (some l) u):wpS (model prog w) A E s (dU lo m n) Q st:=by
 unfold dU
 refine yR (m:=liftM (rule _)) (wpS_lift (AR ⟨rfl,?_⟩))
 refine yR (uP hc hk hn (by omega) h2 b r fun l e u b' h3 h4 r' he al=>?_)
 have ll:lo+l≤(arrOf u).size:=by rw[b'.sz];omega
 dsimp only
 by_cases c:e > 0
 ·rw[yC c]
  refine yR (Rm ?_)
  exact qQ (m:=l) hc hk hn (by omega) h4 (b'.turn (by omega) ll) (r'.same (KK_mirror_equal ll al)) fin
 ·rw[yy c]
  exact qQ (m:=l) hc hk hn (by omega) h4 b' r' fin
theorem sD{n:Nat}{Q:Option Nat→SortSt→Prop}(hc:aQ prog w A s κ kd)(hk:KeysOf κ (arrOf Ba))(hn:lo+n≤(arrOf Ba).size)(h1:1≤n)(b:Sl kd Ba lo st)(fin:∀l u,Sl kd Ba lo u→1≤l→l≤n→Rl κ (arrOf u) lo l→Q (some l) u):wpS (model prog w) A E s (countRun' lo n) Q st:=by
 rw[mG]
 refine yR (xj hc hk hn (yF 1) h1 b uV fun m h3 h4 r lt=>?_)
 dsimp only
 rcases zL m n with c | c
 ·rw[yy (by rw[zk];omega)]
  have lt:=lt c
  by_cases c2:m > 1
  ·rw[yC c2]
   refine yR (hZ hc hk b (by omega) (by omega) ?_)
   dsimp only
   rcases e:κ.blt (KK κ (arrOf st) lo) (KK κ (arrOf st) (lo+m - 1))with _ | _
   ·rw[yy yL]
    have ml:lo+m≤(arrOf st).size:=by rw[b.sz];omega
    have al:∀k,lo≤k→k<lo+m→KK κ (arrOf st) k=KK κ (arrOf st) (lo+m - 1):=fun k hk h=>by
     have q1:=r 0 (k - lo) (AQ _) (by omega)
     have q2:=r (k - lo) (m - 1) (by omega) (by omega)
     rw[show lo+(k - lo)=k by omega,Nat.add_zero]at q1
     rw[show lo+(k - lo)=k by omega,show lo+(m - 1)=lo+m - 1 by omega]at q2
     exact κ.total _ _ (ltF e q1) q2
    refine yR (Rm (lR hc hk hn (by omega) (b.turn (yF _) ml) ?_ fin))
    refine Fl'.same (xs:=arrOf st) (Fl'.snoc (fun i j hij hj=>?_) (by omega) (ltA lt)) (KK_mirror_equal ml al)
    rw[al (lo+i) (by omega) (by omega),al (lo+j) (by omega) (by omega)]
    exact κ.irrefl _
   ·rw[yC rfl]
    exact yQ (fin m st b h3 h4 r)
  ·rw[yy c2]
   obtain rfl:m=1:=by omega
   exact lR hc hk hn (by omega) b (one_Fl.snoc (by omega) (ltA lt)) fin
 ·obtain rfl:m=n:=by omega
  rw[yC (by rw[zk])]
  exact yQ (fin m st b h3 h4 r)
theorem xh{n ok:Nat}{Q:Bool→SortSt→Prop}(hc:aQ prog w A s κ kd)(hk:KeysOf κ (arrOf Ba))(hn:lo+n≤(arrOf Ba).size)(h2:ok≤n)(b:Sl kd Ba lo st)(r:Rl κ (arrOf st) lo ok)(fin:∀u,Sl kd Ba lo u→Rl κ (arrOf u) lo n→Q true u):wpS (model prog w) A E s (binarySort' lo n ok) Q st:=by
 rw[binarySort'_eq]
 have cE:Rl κ (arrOf st) lo (min (max ok 1) n):=fun i j hij hj=>by
  rcases zL j ok with l | l
  ·exact r i j hij l
  ·obtain rfl:i=j:=by omega
   exact κ.irrefl _
 refine yR (Ay (z9 (Q:=fun c u=>c=(none,())∧Sl kd Ba lo u∧Rl κ (arrOf u) lo n) (fun k c u=>c=(none,())∧Sl kd Ba lo u∧Rl κ (arrOf u) lo (min k n)) ?_ ?_ ⟨rfl,b,cE⟩) ?_)
 ·rintro k _ u h3 h4 ⟨rfl,b',r'⟩
  rw[Nat.min_eq_left (Aw h4)]at r'
  have kl:lo+k<(arrOf Ba).size:=by omega
  have ks:lo+k<(arrOf u).size:=by rw[b'.sz];exact kl
  refine yR (Ay (z9 (Q:=fun c v=>v=u∧∃p,c=(none,p,p)∧p≤k∧(∀i,i<p→κ.blt (KK κ (arrOf u) (lo+k)) (KK κ (arrOf u) (lo+i))=false)∧∀i,p≤i→i<k→κ.blt (KK κ (arrOf u) (lo+k)) (KK κ (arrOf u) (lo+i))=true)
   (fun x c v=>v=u∧∃p q,c=(none,p,q)∧p≤q∧q≤k∧q+x≤k+p∧(∀i,i<p→κ.blt (KK κ (arrOf u) (lo+k)) (KK κ (arrOf u) (lo+i))=false)∧∀i,q≤i→i<k→κ.blt (KK κ (arrOf u) (lo+k)) (KK κ (arrOf u) (lo+i))=true) ?_ ?_
   ⟨rfl,0,k,rfl,AQ _,yF _,by omega,fun i h=>absurd h (Nat.not_lt_zero i),fun i h h'=>absurd h' (by omega)⟩) ?_)
  ·rintro x _ _ h5 h6 ⟨rfl,p,q,rfl,pq,qk,qx,lw,hi⟩
   dsimp only
   rcases zL p q with c | c
   ·rw[yy (by omega)]
    refine yR (hZ hc hk b' kl (by omega) ?_)
    dsimp only
    rcases e:κ.blt (KK κ (arrOf _) (lo+k)) (KK κ (arrOf _) (lo+(p+q) / 2))with _ | _
    ·refine yQ ⟨rfl,(p+q) / 2+1,q,rfl,by omega,qk,by omega,fun i h=>?_,hi⟩
     exact ltF (r' i ((p+q) / 2) (by omega) (by omega)) e
    ·refine yQ ⟨rfl,p,(p+q) / 2,rfl,by omega,by omega,by omega,lw,fun i h h'=>?_⟩
     rcases κ.negTrans _ (KK κ (arrOf _) (lo+i)) _ e with z | z
     ·exact z
     ·rw[r' _ i h h']at z
      cases z
   ·rw[yC c]
    obtain rfl:p=q:=by omega
    exact yQ ⟨rfl,p,rfl,qk,lw,hi⟩
  ·rintro _ _ ⟨rfl,p,q,rfl,pq,qk,qx,lw,hi⟩
   obtain rfl:p=q:=by omega
   exact⟨rfl,p,rfl,qk,lw,hi⟩
  ·rintro _ _ ⟨rfl,p,rfl,pk,lw,hi⟩
   show wpS (model prog w) A E s (moveDown' (lo+k) (lo+p) >>= fun _=>pure (ForInStep.yield (none,()))) _ _
   rw[moveDown'_eq]
   refine yR (wpS_modify (yQ ⟨rfl,b'.put (bubble_perm _ _ _) (fun i hi=>?_),?_⟩))
   ·rw[getElem?_bubble ks _ (by omega),yy (by omega),yy (by omega)]
   rw[Nat.min_eq_left h4]
   intro i j hij hj
   show κ.blt (KK κ (bubble (arrOf _) (lo+k) (lo+k - (lo+p))) (lo+j)) (KK κ (bubble (arrOf _) (lo+k) (lo+k - (lo+p))) (lo+i))=false
   have at_:∀i,KK κ (bubble (arrOf _) (lo+k) (lo+k - (lo+p))) (lo+i)=if i=p then KK κ (arrOf _) (lo+k)else if p<i∧i≤k then KK κ (arrOf _) (lo+(i - 1))else KK κ (arrOf _) (lo+i):=fun i=>by
    rw[KK_bubble ks (Nat.sub_le _ _),show lo+k - (lo+k - (lo+p))=lo+p by omega]
    by_cases c1:i=p
    ·rw[yC c1,yC (by omega)]
    ·rw[yy c1,yy (by omega)]
     by_cases c2:p<i∧i≤k
     ·rw[yC c2,yC (by omega),show lo+i - 1=lo+(i - 1) by omega]
     ·rw[yy c2,yy (by omega)]
   rw[at_,at_]
   rcases Nat.lt_trichotomy j p with c | c | c
   ·rw[yy (by omega),yy (by omega),yy (by omega),yy (by omega)]
    exact r' i j hij (by omega)
   ·rw[yC c]
    rcases zL i p with d | d
    ·rw[yy (by omega),yy (by omega)]
     exact lw i d
    ·rw[yC (by omega)]
     exact κ.irrefl _
   ·rw[yy (by omega),yC (by omega)]
    rcases Nat.lt_trichotomy i p with d | d | d
    ·rw[yy (by omega),yy (by omega)]
     exact r' i (j - 1) (by omega) (by omega)
    ·rw[yC d]
     exact ltA (hi (j - 1) (by omega) (by omega))
    ·rw[yy (by omega),yC (by omega)]
     exact r' (i - 1) (j - 1) (by omega) (by omega)
 ·rintro _ u ⟨h,b',r'⟩
  refine⟨h,b',?_⟩
  rw[show min (max (max ok 1) n) n=n by omega]at r'
  exact r'
 ·rintro _ u ⟨rfl,b',r'⟩
  exact yQ (fin u b' r')
end
end L2T
namespace L2T
open PySem PySem.Spec PyProof.Rows L2
abbrev seg(L:List Keyed)(i n:Nat):List Keyed:=(L.drop i).take n
def Tile(κ:KeyKind)(L:List Keyed):Nat→List (Nat×Nat)→Nat→Prop
 | a,[],e=>a=e
 | a,(s,n)::ps,e=>s=a∧0<n∧Srt κ (seg L s n)∧Tile κ L (a+n) ps e
section
variable{κ:KeyKind}{L L':List Keyed}
theorem Tile.le{ps:List (Nat×Nat)}:∀{a e:Nat},Tile κ L a ps e→a+ps.length≤e:=by
 induction ps with
 | nil=>intro a e h;exact Nat.le_of_eq h
 | cons p ps ih=>
  intro a e h
  have:=ih h.2.2.2
  have:=h.2.1
  rw[zd]
  omega
theorem Tile.hi{ps:List (Nat×Nat)}:∀{a e:Nat},Tile κ L a ps e→(∀s n,a≤s→s+n≤e→seg L' s n=seg L s n)→Tile κ L' a ps e:=by
 induction ps with
 | nil=>intro a e h _;exact h
 | cons p ps ih=>
  intro a e h g
  obtain⟨h1,h2,h3,h4⟩:=h
  have le:=h4.le
  exact⟨h1,h2,by rw[g p.1 p.2 (by omega) (by omega)];exact h3,ih h4 fun s n hs=>g s n (by omega)⟩
theorem Tile.snoc{ps:List (Nat×Nat)}{n:Nat}:∀{a e:Nat},Tile κ L a ps e→0<n→Srt κ (seg L e n)→Tile κ L a (ps++[(e,n)]) (e+n):=by
 induction ps with
 | nil=>intro a e h h0 hs;cases h;exact⟨rfl,h0,hs,rfl⟩
 | cons p ps ih=>intro a e h h0 hs;exact⟨h.1,h.2.1,h.2.2.1,ih h.2.2.2 h0 hs⟩
theorem Tile.two{ps:List (Nat×Nat)}:∀{a e i sa na sb nb:Nat},Tile κ L a ps e→ps[i]?=some (sa,na)→ps[i+1]?=some (sb,nb)→sb=sa+na∧0<na∧0<nb∧a≤sa∧sa+na+nb≤e∧Srt κ (seg L sa na)∧Srt κ (seg L sb nb):=by
 induction ps with
 | nil=>intro a e i sa na sb nb _ h;cases h
 | cons p ps ih=>
  intro a e i sa na sb nb h g1 g2
  cases i with
  | zero=>
   cases g1
   cases ps with
   | nil=>cases g2
   | cons q ps=>
    cases g2
    obtain⟨rfl,h2,h3,h4,h5,h6,h7⟩:=h
    have:=h7.le
    exact⟨h4,h2,h5,yF _,by omega,h3,h6⟩
  | succ i=>
   obtain⟨b1,b2,b3,b4,b5⟩:=ih h.2.2.2 g1 g2
   exact⟨b1,b2,b3,by omega,b5⟩
theorem Tile.mrg{ps:List (Nat×Nat)}{sa na nb e:Nat}:∀{a i sb:Nat},Tile κ L a ps e→ps[i]?=some (sa,na)→ps[i+1]?=some (sb,nb)→
  Srt κ (seg L' sa (na+nb))→(∀s n,s+n≤sa→seg L' s n=seg L s n)→(∀s n,sa+na+nb≤s→seg L' s n=seg L s n)→Tile κ L' a ((ps.set i (sa,na+nb)).eraseIdx (i+1)) e:=by
 induction ps with
 | nil=>intro a i sb _ h;cases h
 | cons p ps ih=>
  intro a i sb h g1 g2 so lw hi
  cases i with
  | zero=>
   cases g1
   cases ps with
   | nil=>cases g2
   | cons q ps=>
    cases g2
    obtain⟨rfl,h2,h3,h4,h5,h6,h7⟩:=h
    refine⟨rfl,by omega,so,?_⟩
    rw[←Nat.add_assoc]
    exact h7.hi fun s n hs _=>hi s n hs
  | succ i=>
   obtain⟨b1,b2,b3,b4,b5⟩:=h.2.2.2.two g1 g2
   obtain⟨h1,h2,h3,h4⟩:=h
   exact⟨h1,h2,by rw[lw p.1 p.2 (by omega)];exact h3,ih h4 g1 g2 so lw hi⟩
theorem rq{X M S:List Keyed}{s n sa:Nat}(hX:X=L.take sa)(hs:s+n≤sa)(hl:sa≤L.length):seg (X++M++S) s n=seg L s n:=by
 subst hX
 refine List.ext_getElem? fun j=>?_
 rw[zW,zW]
 split
 ·rw[Ah,Ah,zA,List.getElem?_append_left (by rw[y7];omega),zW,yC (by omega)]
 ·rfl
theorem hO{X S:List Keyed}{s n t:Nat}(hX:X.length=t)(hS:S=L.drop t)(hs:t≤s):seg (X++S) s n=seg L s n:=by
 subst hS
 unfold seg
 rw[List.drop_append,List.drop_of_length_le (by omega),List.nil_append,List.drop_drop,hX,show t+(s - t)=s by omega]
theorem Uq{α β:Type}(f:α→β):∀(l:List α)(i:Nat),(l.eraseIdx i).map f=(l.map f).eraseIdx i:=by
 intro l
 induction l with
 | nil=>intro i;rfl
 | cons x l ih=>
  intro i
  cases i with
  | zero=>rfl
  | succ i=>
   show f x::(l.eraseIdx i).map f=f x::(l.map f).eraseIdx i
   rw[ih]
abbrev pr(p:Nat×Nat×Nat):Nat×Nat:=(p.1,p.2.1)
abbrev pq(st:SortSt):List (Nat×Nat):=(pendingOf st).toList.map pr
structure SR(κ:KeyKind)(kd:SortKind)(xs0:Array Keyed)(e:Nat)(u:SortSt):Prop where
 pm:(arrOf u).Perm xs0
 kn:kindOf u=kd
 fl:failedOf u=none
 til:Tile κ (arrOf u).toList 0 (pq u) e
 le:e≤xs0.size
variable{prog:Program}{w:World}{A:Around}{E:Value→Shared→Prop}{s:Shared}{kd:SortKind}{xs0:Array Keyed}{st:SortSt}
theorem SR.keys{e:Nat}(hk:KeysOf κ xs0)(b:SR κ kd xs0 e st):KeysOf κ (arrOf st):=fun p hp=>hk p ((Array.perm_iff_toList_perm.mp b.pm).mem_iff.mp hp)
theorem SR.sz{e:Nat}(b:SR κ kd xs0 e st):(arrOf st).size=xs0.size:=b.pm.size_eq
theorem SR.pend{e:Nat}(b:SR κ kd xs0 e st){ps:Array (Nat×Nat×Nat)}(h:ps.toList.map pr=pq st):SR κ kd xs0 e (setPending st ps):=⟨b.pm,b.kn,b.fl,by
 show Tile κ (arrOf st).toList 0 (ps.toList.map pr) e
 rw[h]
 exact b.til,b.le⟩
theorem iH{e i:Nat}{Q:Bool→SortSt→Prop}(hc:aQ prog w A s κ kd)(hk:KeysOf κ xs0)(b:SR κ kd xs0 e st)(hi:i+1<(pendingOf st).size)(fin:∀v,SR κ kd xs0 e v→(pendingOf v).size+1=(pendingOf st).size→(∀s n,e≤s→seg (arrOf v).toList s n=seg (arrOf st).toList s n)→Q true v):wpS (model prog w) A E s (mergeAt' i) Q st:=by
 obtain⟨⟨sa,na,pw⟩,p1⟩:∃p,(pendingOf st)[i]?=some p:=⟨_,yH (by omega)⟩
 obtain⟨⟨sb,nb,pw2⟩,p2⟩:∃p,(pendingOf st)[i+1]?=some p:=⟨_,yH hi⟩
 have q1:(pq st)[i]?=some (sa,na):=by
  rw[y9,yI,p1]
  rfl
 have q2:(pq st)[i+1]?=some (sb,nb):=by
  rw[y9,yI,p2]
  rfl
 obtain⟨rfl,t1,t2,t3,t4,t5,t6⟩:=b.til.two q1 q2
 have le:=b.le
 have sz:=b.sz
 refine jA hc b.kn b.fl (b.keys hk) p1 p2 t1 t2 (by omega) t5 t6 fun u m=>?_
 obtain⟨M,a1,a2,a3⟩:=m.arr
 have ML:M.length=na+nb:=by
  rw[a2.length_eq,y7,List.length_drop,yS]
  omega
 have TL:((arrOf st).toList.take sa++M).length=sa+na+nb:=by
  rw[yJ,y7,yS,ML]
  omega
 have pl:(pendingOf u).toList=((pendingOf st).toList.set i (sa,na+nb,pw)).eraseIdx (i+1):=by
  rw[m.pd,Array.toList_eraseIdxIfInBounds,Array.toList_setIfInBounds]
 refine fin u ⟨?_,m.kn.trans b.kn,m.fl,?_,b.le⟩ ?_ fun s n hs=>by rw[a1];exact hO TL rfl (by omega)
 ·refine Array.Perm.trans (Array.perm_iff_toList_perm.mpr ?_) b.pm
  rw[a1]
  have e:(arrOf st).toList=(arrOf st).toList.take sa++((arrOf st).toList.drop sa).take (na+nb)++(arrOf st).toList.drop (sa+na+nb):=by
   rw[Nat.add_assoc,←List.drop_drop,zA,zM,zM]
  rw[zA]
  refine List.Perm.trans (List.Perm.append_left _ (a2.append_right _)) (List.Perm.of_eq ?_)
  rw[←zA]
  exact e.symm
 ·have e:pq u=((pq st).set i (sa,na+nb)).eraseIdx (i+1):=by
   show(pendingOf u).toList.map pr=_
   rw[pl,Uq,List.map_set]
  rw[e]
  refine b.til.mrg q1 q2 ?_ ?_ ?_
  ·have e2:seg (arrOf u).toList sa (na+nb)=M:=by
    unfold seg
    rw[a1,zA,List.drop_append,List.drop_of_length_le (by rw[y7,yS];omega),List.nil_append,y7,yS,show sa - min sa (arrOf st).size=0 by omega,List.drop_zero,List.take_append_of_le_length (by omega),Az (by omega)]
   rw[e2]
   exact a3
  ·intro s n hs
   rw[a1]
   exact rq rfl hs (by rw[yS];omega)
  ·intro s n hs
   rw[a1]
   exact hO TL rfl hs
 ·rw[←yS (xs:=pendingOf u),pl,List.length_eraseIdx,List.length_set,yS,yC hi]
  omega
theorem ue{e:Nat}{v:SortSt}(b:SR κ kd xs0 e st)(h:Sl kd st e v):SR κ kd xs0 e v:=by
 have le:=b.le
 refine⟨h.pm.trans b.pm,h.kn,h.fl,?_,b.le⟩
 have e1:pq v=pq st:=by unfold pq;rw[h.pd]
 rw[e1]
 refine b.til.hi fun s n _ hs=>?_
 refine List.ext_getElem? fun j=>?_
 rw[zW,zW]
 split
 ·rw[Ah,Ah,yI,yI]
  exact h.lw _ (by omega)
 ·rfl
theorem kO{xs:Array Keyed}{lo n:Nat}(r:Rl κ xs lo n):Srt κ (seg xs.toList lo n):=by
 refine List.pairwise_iff_getElem.mpr fun i j hi hj hij=>?_
 rw[y7,List.length_drop,yS]at hi hj
 have e1:xs[lo+i]?=some ((seg xs.toList lo n)[i]):=by
  rw[List.getElem_take,List.getElem_drop,Array.getElem_toList]
  exact yH _
 have e2:xs[lo+j]?=some ((seg xs.toList lo n)[j]):=by
  rw[List.getElem_take,List.getElem_drop,Array.getElem_toList]
  exact yH _
 have:=r i j (by omega) (by omega)
 rw[N2 e1,N2 e2]at this
 exact this
def mgl(size pw:Nat):StateT SortSt Sem (Option Unit×Unit):=forIn [0:size] ((none,()):Option Unit×Unit) fun _ _=>do
 let u ←get
 match (if (pendingOf u).size > 1 then(pendingOf u)[(pendingOf u).size - 2]? else none) with
 | some (_,_,older)=>
  if older≤pw then pure (.done (none,()))else do
   let r ←mergeAt' ((pendingOf u).size - 2)
   if (!r)=true then pure (.done (some (),()))else pure (.yield (none,()))
 | _=>pure (.done (none,()))
def eN(size lo n:Nat):StateT SortSt Sem (ForInStep (Option Unit×Nat)):=do
 let u ←get
 match (pendingOf u).back? with
 | some (s1,n1,_)=>do
  let c ←mgl size (power' size (2 * s1+n1) (2 * s1+n1+n1+n) size)
  match c.1 with
  | some r=>pure (.done (some r,lo))
  | none=>do
   modify fun s=>setPending s ((pendingOf s).modify ((pendingOf s).size - 1) fun x=>(x.1,x.2.1,power' size (2 * s1+n1) (2 * s1+n1+n1+n) size))
   modify fun s=>setPending s ((pendingOf s).push (lo,n,0))
   pure (.yield (none,lo+n))
 | _=>do
  modify fun s=>setPending s ((pendingOf s).push (lo,n,0))
  pure (.yield (none,lo+n))
theorem uH{e size pw:Nat}{Q:Option Unit×Unit→SortSt→Prop}(hc:aQ prog w A s κ kd)(hk:KeysOf κ xs0)(b:SR κ kd xs0 e st)(fin:∀v,SR κ kd xs0 e v→(∀s n,e≤s→seg (arrOf v).toList s n=seg (arrOf st).toList s n)→Q (none,()) v):wpS (model prog w) A E s (mgl size pw) Q st:=by
 unfold mgl
 refine z9 (fun _ c v=>c=(none,())∧SR κ kd xs0 e v∧∀s n,e≤s→seg (arrOf v).toList s n=seg (arrOf st).toList s n) ?_ ?_ ⟨rfl,b,fun _ _ _=>rfl⟩
 ·rintro _ _ u _ _ ⟨rfl,b',g⟩
  refine yR (wpS_get ?_)
  by_cases c:(pendingOf u).size > 1
  ·rw[yC c]
   obtain⟨⟨p1,p2,p3⟩,hp⟩:∃p,(pendingOf u)[(pendingOf u).size - 2]?=some p:=⟨_,yH (by omega)⟩
   rw[hp]
   dsimp only
   split
   ·exact yQ (fin u b' g)
   ·exact yR (iH hc hk b' (by omega) fun v bv _ gv=>yQ ⟨rfl,bv,fun s n hs=>(gv s n hs).trans (g s n hs)⟩)
  ·rw[yy c]
   exact yQ (fin u b' g)
 ·rintro _ u ⟨rfl,b',g⟩
  exact fin u b' g
theorem SR.run{lo n:Nat}(b:SR κ kd xs0 lo st)(n1:0<n)(hn:lo+n≤xs0.size)(so:Srt κ (seg (arrOf st).toList lo n)):SR κ kd xs0 (lo+n) (setPending st ((pendingOf st).push (lo,n,0))):=by
 refine⟨b.pm,b.kn,b.fl,?_,hn⟩
 show Tile κ (arrOf st).toList 0 (((pendingOf st).push (lo,n,0)).toList.map pr) (lo+n)
 rw[Array.toList_push,yV]
 exact b.til.snoc n1 so
theorem rV(f:Nat×Nat×Nat→Nat×Nat×Nat)(hf:∀x,pr (f x)=pr x):∀(l:List (Nat×Nat×Nat))(i:Nat),(l.modify i f).map pr=l.map pr:=by
 intro l
 induction l with
 | nil=>intro i;cases i <;> rfl
 | cons x l ih=>
  intro i
  cases i with
  | zero=>
   show pr (f x)::l.map pr=pr x::l.map pr
   rw[hf]
  | succ i=>
   show pr x::(l.modify i f).map pr=pr x::l.map pr
   rw[ih]
theorem i5{lo n size:Nat}{Q:ForInStep (Option Unit×Nat)→SortSt→Prop}(hc:aQ prog w A s κ kd)(hk:KeysOf κ xs0)(b:SR κ kd xs0 lo st)(n1:0<n)(hn:lo+n≤xs0.size)(so:Srt κ (seg (arrOf st).toList lo n))(fin:∀v,SR κ kd xs0 (lo+n) v→Q (.yield (none,lo+n)) v):wpS (model prog w) A E s (eN size lo n) Q st:=by
 unfold eN
 refine yR (wpS_get ?_)
 cases hb:(pendingOf st).back? with
 | none=>exact yR (wpS_modify (yQ (fin _ (b.run n1 hn so))))
 | some p=>
  obtain⟨s1,m1,pw⟩:=p
  dsimp only
  refine yR (uH hc hk b fun v bv gv=>?_)
  dsimp only
  refine yR (wpS_modify (yR (wpS_modify (yQ (fin _ ?_)))))
  refine SR.run (st:=setPending v _) (bv.pend ?_) n1 hn ?_
  ·rw[Array.toList_modify]
   exact rV (fun x=>(x.1,x.2.1,power' size (2 * s1+m1) (2 * s1+m1+m1+n) size)) (fun _=>rfl) _ _
  ·show Srt κ (seg (arrOf v).toList lo n)
   rw[gv lo n (yF _)]
   exact so
theorem Rz.of_srt{xs:Array Keyed}{n:Nat}(h:Srt κ (seg xs.toList 0 n))(hn:n≤xs.size):Rz κ xs n:=fun i j hij hj=>by
 have at_:∀k (hk:k<n),(seg xs.toList 0 n)[k]?=some (xs[k]'(by omega)):=fun k hk=>by
  rw[zW,yC hk,List.drop_zero,yI]
  exact yH _
 have q:=h.at hij (at_ i (by omega)) (at_ j hj)
 rw[N2 (yH (show i<xs.size by omega)),N2 (yH (show j<xs.size by omega))]
 exact q
theorem rN:∀(f n r:Nat),0<n→0<minRun' f n r:=by
 intro f
 induction f with
 | zero=>
  intro n r h
  show 0<n+r
  omega
 | succ f ih=>
  intro n r h
  rw[minRun'_succ]
  split
  ·omega
  ·exact ih _ _ (by omega)
theorem eqp{α:Type}{p p':StateT SortSt Sem α}{Q:α→SortSt→Prop}(h:p=p')(g:wpS (model prog w) A E s p' Q st):wpS (model prog w) A E s p Q st:=by
 rw[h]
 exact g
theorem runs_all{Q:Unit→SortSt→Prop}(hc:aQ prog w A s κ kd)(hk:KeysOf κ xs0)(b:Sst kd xs0 st)(h1:1≤xs0.size)(fin:∀u,(arrOf u).Perm xs0→failedOf u=none→Rz κ (arrOf u) xs0.size→Q () u):wpS (model prog w) A E s sortRuns' Q st:=by
 rw[sortRuns'_eq]
 refine yR (wpS_get ?_)
 simp only[b.sz]
 have s0:SR κ kd xs0 0 st:=⟨b.pm,b.kn,b.fl,by show Tile κ _ 0 ((pendingOf st).toList.map pr) 0;rw[b.pd];rfl,AQ _⟩
 have mp:=rN xs0.size xs0.size 0 (by omega)
 generalize minRun' xs0.size xs0.size 0=mr at mp⊢
 refine yR (Ay (z9 (β:=Option Unit×Nat) (Q:=fun c u=>c=(none,xs0.size)∧SR κ kd xs0 xs0.size u) (fun x c u=>∃lo,c=(none,lo)∧x≤lo∧SR κ kd xs0 lo u) ?_ ?_ ⟨0,rfl,yF _,s0⟩) ?_)
 ·rintro x _ u _ hx ⟨lo,rfl,xl,bu⟩
  have le:=bu.le
  have sz:=bu.sz
  dsimp only
  rcases zL lo xs0.size with c | c
  ·rw[yy (by omega)]
   have sl:Sl kd u lo u:=⟨Array.Perm.refl _,bu.kn,rfl,bu.fl,fun _ _=>rfl⟩
   refine yR (sD hc (bu.keys hk) (by omega) (by omega) sl fun l v bv l1 l2 r=>?_)
   dsimp only
   have fin2:∀n v,0<n→SR κ kd xs0 (lo+n) v→∃lo',((none:Option Unit),lo+n)=(none,lo')∧x+1≤lo'∧SR κ kd xs0 lo' v:=fun n v hn h=>⟨lo+n,rfl,by omega,h⟩
   rcases zL l mr with d | d
   ·rw[yC d]
    refine yR (m:=liftM (rule _)) (wpS_lift (AR ⟨rfl,?_⟩))
    refine yR (xh hc (bu.keys hk) (n:=min (xs0.size - lo) mr) (by omega) (by omega) bv r fun y by' r3=>?_)
    rw[Bool.not_true,yy yL]
    refine eqp (p':=eN xs0.size lo (min (xs0.size - lo) mr)) ?_ ?_
    ·unfold eN mgl
     refine bnd rfl fun u2=>?_
     cases hb:(pendingOf u2).back? with
     | none=>rfl
     | some p=>
      obtain⟨s1,m1,pw⟩:=p
      dsimp only
      refine bnd ?_ fun c=>?_
      ·congr 1
      ·obtain⟨r4,u4⟩:=c
       cases r4 <;> rfl
    refine Ay (i5 (size:=xs0.size) (Q:=fun r v=>r=.yield (none,lo+min (xs0.size - lo) mr)∧SR κ kd xs0 (lo+min (xs0.size - lo) mr) v) hc hk (ue bu by') (by omega) (by omega) (kO r3) fun v hv=>⟨rfl,hv⟩) ?_
    rintro _ v ⟨rfl,hv⟩
    exact fin2 _ v (by omega) hv
   ·rw[yy (by omega)]
    refine eqp (p':=eN xs0.size lo (l)) ?_ ?_
    ·unfold eN mgl
     refine bnd rfl fun u2=>?_
     cases hb:(pendingOf u2).back? with
     | none=>rfl
     | some p=>
      obtain⟨s1,m1,pw⟩:=p
      dsimp only
      refine bnd ?_ fun c=>?_
      ·congr 1
      ·obtain⟨r4,u4⟩:=c
       cases r4 <;> rfl
    refine Ay (i5 (size:=xs0.size) (Q:=fun r v=>r=.yield (none,lo+l)∧SR κ kd xs0 (lo+l) v) hc hk (ue bu bv) (by omega) (by omega) (kO r) fun v hv=>⟨rfl,hv⟩) ?_
    rintro _ v ⟨rfl,hv⟩
    exact fin2 _ v (by omega) hv
  ·rw[yC c]
   obtain rfl:lo=xs0.size:=by omega
   exact yQ ⟨rfl,bu⟩
 ·rintro _ u ⟨lo,rfl,xl,bu⟩
  have le:=bu.le
  obtain rfl:lo=xs0.size:=by omega
  exact⟨rfl,bu⟩
 ·rintro _ u ⟨rfl,bu⟩
  dsimp only
  have pl:=bu.til.le
  rw[pi,yS]at pl
  refine yR (Ay (z9 (Q:=fun c v=>c=(none,())∧SR κ kd xs0 xs0.size v∧(pendingOf v).size≤1) (fun x c v=>c=(none,())∧SR κ kd xs0 xs0.size v∧((pendingOf v).size≤1∨(pendingOf v).size+x≤xs0.size)) ?_ ?_ ⟨rfl,bu,.inr (by omega)⟩) ?_)
  ·rintro x _ v _ hx ⟨rfl,bv,h⟩
   refine yR (wpS_get ?_)
   rcases zL 1 (pendingOf v).size with c | c
   ·rw[yy (by omega)]
    have next:∀i,i+1<(pendingOf v).size→wpS (model prog w) A E s (do
      let r ←mergeAt' i
      if (!r)=true then pure (ForInStep.done (some (),()))else pure (ForInStep.yield ((none:Option Unit),()))) (fun r A9=>match r with
       | .done c'=>c'=(none,())∧SR κ kd xs0 xs0.size A9∧(pendingOf A9).size≤1
       | .yield c'=>c'=(none,())∧SR κ kd xs0 xs0.size A9∧((pendingOf A9).size≤1∨(pendingOf A9).size+(x+1)≤xs0.size)) v:=fun i hi=>
     yR (iH hc hk bv hi fun z bz hz _=>yQ ⟨rfl,bz,by omega⟩)
    refine Ay (next _ ?_) fun r z hz=>?_
    ·repeat' split
     all_goals omega
    ·cases r with
     | done c'=>exact hz
     | yield c'=>exact hz
   ·rw[yC c]
    exact yQ ⟨rfl,bv,c⟩
  ·rintro _ v ⟨rfl,bv,h⟩
   have:=bv.til.le
   rw[pi,yS]at this
   exact⟨rfl,bv,by omega⟩
  ·rintro _ v ⟨rfl,bv,h⟩
   refine yQ (fin v bv.pm bv.fl ?_)
   have t:=bv.til
   have sz:=bv.sz
   cases hq:pq v with
   | nil=>
    rw[hq]at t
    have t:0=xs0.size:=t
    omega
   | cons p ps=>
    have pz:(pq v).length≤1:=by rw[pi,yS];exact h
    rw[hq]at t pz
    rw[zd]at pz
    obtain rfl:ps=[]:=List.length_eq_zero_iff.mp (by omega)
    obtain⟨t1,t2,t3,t4⟩:=t
    have t4:0+p.2=xs0.size:=t4
    rw[AK]at t4
    have t1:p.1=0:=t1
    rw[t1,t4]at t3
    exact Rz.of_srt t3 (by omega)
end
end L2T
namespace L2
open PySem PySem.Spec PyProof.Rows
section
variable{prog:Program}{w:World}{A:Around}{E:Value→Shared→Prop}{s:Shared}
theorem N6{M:Model}{β:Type}{f:Value→Sem β}(F:β→Prop):∀(vs:List Value),(∀v∈vs,∃y,F y∧∀Q:β→Shared→Prop,Q y s→wpAny M A (f v) Q E s)→∃ys:List β,ys.length=vs.length∧(∀y∈ys,F y)∧∀Q:List β→Shared→Prop,Q ys s→wpAny M A (vs.mapM f) Q E s
 | [],_=>⟨[],rfl,(fun _ h=>nomatch h),fun Q q=>by rw[List.mapM_nil];exact yB q⟩
 | v::vs,h=>by
  obtain⟨y,fy,hy⟩:=h v (.head _)
  obtain⟨ys,l,fys,hys⟩:=N6 F vs fun x hx=>h x (.tail _ hx)
  refine⟨y::ys,by rw[zd,zd,l],fun z hz=>?_,fun Q q=>?_⟩
  ·rcases yU.mp hz with e | e
   ·rw[e];exact fy
   ·exact fys z e
  ·rw[List.mapM_cons]
   exact io (hy _ (io (hys _ (yB q))))
theorem oM(v:Value):firstOfTuple' v=(do
  if (←typeOf v) != .type "tuple" then return none
  return (←Builtin.List.listItems v)[0]?):=rfl
variable{O U:KeyOrd}{R:Heap→Value→O.α→Prop}{S:Heap→Value→U.α→Prop}{T V:String}
theorem mx(e:El prog w O R T){vs:List Value}(h:∀v∈vs,∃a,bf R S s.heap v a)(hn:vs≠[]){Q:SortKind→Shared→Prop}(q:Q (tuples' (decide (T≠"tuple"))) s):wpAny (model prog w) A (keyKind' vs.toArray) Q E s:=by
 rw[keyKind'_eq,List.mapM_toArray]
 obtain⟨ys,yl,yf,hy⟩:=N6 (M:=model prog w) (A:=A) (E:=E) (s:=s) (f:=firstOfTuple') (fun y=>∃x,y=some x∧s.TypeIs x T) vs fun v hv=>by
  obtain⟨a,c,o,n,x,y,rfl,ho,hc,hd,h1,h2⟩:=h v hv
  refine⟨some x,⟨x,rfl,e.ty h1⟩,fun Q q=>?_⟩
  rw[oM]
  refine io (wpAny_typeOf (T:="tuple") ⟨o,ho,hc⟩ ?_)
  rw[yy (by decide)]
  exact io (listItems_at ho hd (yB q))
 refine io (wpAny_map ?_)
 refine hy _ ?_
 have al:ys.toArray.all (·.isSome)=true:=by
  rw[List.all_toArray,zQ]
  intro y hy
  obtain⟨x,rfl,_⟩:=yf y hy
  rfl
 rw[yC al]
 refine io (AR ?_)
 rw[oneTypeOnly'_eq,List.filterMap_toArray,List.mapM_toArray]
 have ht:∀x∈ys.filterMap id,s.TypeIs x T:=fun x hx=>by
  obtain⟨y,hy,ey⟩:=AF.mp hx
  obtain⟨x',rfl,t⟩:=yf y hy
  cases (show x'=x from zt ey)
  exact t
 obtain⟨ts,tl,tf,htt⟩:=N6 (M:=model prog w) (A:=A) (E:=E) (s:=s) (f:=typeOf) (fun y=>y=.type T) (ys.filterMap id) fun v hv=>⟨_,rfl,fun Q q=>wpAny_typeOf (ht v hv) q⟩
 refine io (io (wpAny_map ?_))
 refine htt _ ?_
 have fl:(ys.filterMap id).length=ys.length:=by
  clear hy al ht htt tl tf yl
  induction ys with
  | nil=>rfl
  | cons y ys ih=>
   obtain⟨x,rfl,_⟩:=yf y (.head _)
   rw[show List.filterMap id (some x::ys)=x::ys.filterMap id from rfl,zd,zd,ih fun z hz=>yf z (.tail _ hz)]
 cases ts with
 | nil=>
  rw[Aj,fl,yl]at tl
  exact absurd (List.eq_nil_of_length_eq_zero tl.symm) hn
 | cons t ts=>
  have t0:t=.type T:=tf t (.head _)
  subst t0
  show wpAny _ _ (pure (if ((Value.type T::ts).toArray.all (· == Value.type T))=true then some (Value.type T)else none)) _ _ s
  rw[yC (by
   rw[List.all_toArray,zQ]
   intro y hy
   rw[tf y hy]
   exact beq_self_eq_true _)]
  refine yB (yB ?_)
  have z:(some (Value.type T)).any (· != Value.type "tuple")=decide (T≠"tuple"):=by
   show(Value.type T != Value.type "tuple")=_
   rw[zZ,bne_iff_ne,decide_eq_true_iff]
   exact⟨fun h e=>h (by rw[e]),fun h e=>h (by injection e)⟩
  rw[z]
  exact q
def uY{O:KeyOrd}(R:Value→O.α→Prop)(vs:List Value):Prop:=vs.Pairwise fun x y=>∀a b,R x a→R y b→O.blt b a=false
theorem gX{vs:List Value}{p:Value×Value}(h:p∈vs.zip vs):p.1=p.2∧p.1∈vs:=mem_zip_self h
theorem jU{O:KeyOrd}{R:Value→O.α→Prop}(fn:∀{v a b},R v a→R v b→a=b){d:O.α}{vs:List Value}(hk:∀v∈vs,∃a,R v a){xs:Array Keyed}(pm:xs.Perm (pairsOf vs))(r:Rz (eM O R d) xs (pairsOf vs).size):
  (xs.map (·.2)).toList.Perm vs∧uY R (xs.map (·.2)).toList:=by
 have pl:xs.toList.Perm (vs.zip vs):=by rw[←pairsOf_toList];exact Array.perm_iff_toList_perm.mp pm
 have both:∀p∈xs.toList,p.1=p.2∧p.1∈vs:=fun p hp=>gX (pl.mem_iff.mp hp)
 rw[Array.toList_map]
 constructor
 ·have q:=pl.map Prod.snd
  rw[List.map_snd_zip (yF _)]at q
  exact q
 ·unfold uY
  rw[List.pairwise_iff_getElem]
  intro i j hi hj hij a b ha hb
  rw[pi]at hi hj
  have hi':i<xs.size:=by rw[←yS];exact hi
  have hj':j<xs.size:=by rw[←yS];exact hj
  have key:∀{k:Nat}(hk':k<xs.size){c:O.α},R xs[k].2 c→KK (eM O R d) xs k=c:=by
   intro k hk' c hc
   have e:=(both xs[k] (Array.mem_toList_iff.mpr (Array.getElem_mem hk'))).1
   rw[←e]at hc
   obtain⟨c',h'⟩:=kg (d:=d) hc
   have:c'=c:=fn (eU h') hc
   unfold KK
   rw[yH hk']
   show((eM O R d).keyOf xs[k].1).getD _=c
   rw[h',this]
   rfl
  rw[List.getElem_map,Array.getElem_toList]at ha hb
  have q:=r i j (Aw hij) (by rw[←pm.size_eq];exact hj')
  rw[key hi' ha,key hj' hb]at q
  exact q
theorem gL{h:Heap}{l b:Addr}{g:Obj→Obj}{o1 o2:Obj}(lt:b<h.objs.size):(((h.update l g).push o1).push o2).get? b=(h.update l g).get? b:=by
 have l1:b<(h.update l g).objs.size:=by rw[Heap.size_update];exact lt
 rw[Heap.get?_push_ne _ _ _ (yW (by rw[size_push'];exact Nat.lt_succ_of_lt l1)),Heap.get?_push_ne _ _ _ (yW l1)]
theorem mo{h:Heap}{l:Addr}{vs:List Value}{n:Nat}(ho:h.get? l=some (seqObj "list" vs.toArray n))(o1 o2:Obj):cy h (((h.update l (Obj.mapSeq fun _=>#[])).push o1).push o2):=by
 intro b o hb hc
 have ne:b≠l:=fun z=>by
  rw[z,ho]at hb
  cases hb
  exact absurd hc (by show ¬Value.type "list"=Value.type "tuple";intro z;injection z with z;exact absurd z (by decide))
 have lt:=yM hb
 rw[gL lt,Heap.get?_update_ne _ _ _ _ ne]
 exact hb
theorem Qn(e:El prog w O R T)(f:El prog w U S V){l:Addr}{vs:List Value}{n:Nat}{P:Fin→Shared→Prop}(ho:s.heap.get? l=some (seqObj "list" vs.toArray n))(hk:∀v∈vs,∃a,bf R S s.heap v a)(h64:vs.length<1000)(hu:A.units+8<cLine)(d:O.α×U.α)(fin:∀out:Array Value,out.toList.Perm vs→uY (O:=bI O U) (bf R S s.heap) out.toList→P (.done (.ret .none)) {s with heap:=sortedHeap s.heap l vs out}):wpAny (model prog w) A (Builtin.«list.sort» ⟨[.ref l],[]⟩) P E s:=by
 rw[list_sort_plain]
 refine io (listItems_at ho rfl ?_)
 refine io (listUpdate_at ho rfl ?_)
 obtain⟨e1,ho1⟩:∃m,(s.heap.update l (Obj.mapSeq fun _=>#[])).get? l=some (seqObj "list" #[] m):=⟨_,get?_update_seq ho fun _=>#[]⟩
 refine io (seqEpoch_at ho1 rfl ?_)
 refine io (wpAny_newTuple ?_)
 refine io (wpAny_newList ?_)
 refine zJ ?_
 have ll:=yM ho
 have ho2:(((s.heap.update l (Obj.mapSeq fun _=>#[])).push (seqObj "tuple" vs.toArray 0)).push (seqObj "list" #[] 0)).get? l=some (seqObj "list" #[] e1):=by
  rw[gL ll]
  exact ho1
 have st:=mo ho (seqObj "tuple" vs.toArray 0) (seqObj "list" #[] 0)
 have hk':∀v∈vs,∃a,bf R S (((s.heap.update l (Obj.mapSeq fun _=>#[])).push (seqObj "tuple" vs.toArray 0)).push (seqObj "list" #[] 0)) v a:=fun v hv=>let ⟨a,h⟩:=hk v hv;⟨a,Xc e f st h⟩
 have back:∀{v a},v∈vs→bf R S s.heap v a→bf R S (((s.heap.update l (Obj.mapSeq fun _=>#[])).push (seqObj "tuple" vs.toArray 0)).push (seqObj "list" #[] 0)) v a:=fun _ h=>Xc e f st h
 show wpAny (model prog w) A _ P E {s with heap:=((s.heap.update l (Obj.mapSeq fun _=>#[])).push (seqObj "tuple" vs.toArray 0)).push (seqObj "list" #[] 0)}
 dsimp only
 have vsz:vs.toArray.size=vs.length:=zo
 have finish:∀u:SortSt,(arrOf u).Perm (pairsOf vs)→failedOf u=none→Rz (eM (bI O U) (bf R S (((s.heap.update l (Obj.mapSeq fun _=>#[])).push (seqObj "tuple" vs.toArray 0)).push (seqObj "list" #[] 0))) d) (arrOf u) (pairsOf vs).size→
   P (.done (.ret .none)) {s with heap:=sortedHeap s.heap l vs ((arrOf u).map (·.2))}:=fun u pm _ r=>by
  obtain⟨p1,p2⟩:=jU (O:=bI O U) (R:=bf R S (((s.heap.update l (Obj.mapSeq fun _=>#[])).push (seqObj "tuple" vs.toArray 0)).push (seqObj "list" #[] 0))) (fun h g=>lO e f h g) hk' pm r
  exact fin _ p1 (p2.imp_of_mem fun{x y} hx hy h a b ha hb=>h a b (back (p1.mem_iff.mp hx) ha) (back (p1.mem_iff.mp hy) hb))
 by_cases c:vs.toArray.size<2
 ·rw[yC c,yC c]
  refine io (yB ?_)
  rw[StateT.run_pure]
  refine io (yB ?_)
  dsimp only
  refine io (seqEpoch_at ho2 rfl ?_)
  refine io (listUpdate_at ho2 rfl ?_ (hsz2:=by rw[Array.size_map];show(pairsOf vs).size≤_;rw[pairsOf_size];exact zG (Aw h64) (by decide)))
  rw[show(e1 != e1)=false from bne_self_eq_false e1]
  rw[yy yL]
  refine yB (finish (SortSt.mk' general' (vs.toArray.zip vs.toArray) #[] 7 none) (Array.Perm.refl _) rfl fun i j hij hj=>?_)
  obtain rfl:i=j:=by rw[pairsOf_size]at hj;omega
  exact(eM (bI O U) _ d).irrefl _
 ·rw[yy c,yy c]
  have vn:vs≠[]:=fun z=>by rw[z]at c;exact c (by decide)
  refine io (mx (O:=O) (U:=U) e hk' vn ?_)
  have hc:=qy (A:=A) (s:={s with heap:=((s.heap.update l (Obj.mapSeq fun _=>#[])).push (seqObj "tuple" vs.toArray 0)).push (seqObj "list" #[] 0)}) e f hu d (decide (T≠"tuple")) (fun z=>yO z)
  refine io (z5 (L2T.runs_all (E:=E) (xs0:=pairsOf vs) (st:=SortSt.mk' (tuples' (decide (T≠"tuple"))) (vs.toArray.zip vs.toArray) #[] 7 none) (Q:=fun _ u=>(arrOf u).Perm (pairsOf vs)∧failedOf u=none∧Rz _ (arrOf u) (pairsOf vs).size) hc
   (fun p hp=>?_) ⟨Array.Perm.refl _,rfl,rfl,rfl⟩ (by rw[pairsOf_size];omega) fun u a1 a2 a3=>⟨a1,a2,a3⟩) ?_ fun _ _ z=>z)
  ·rw[pairsOf_toList]at hp
   obtain⟨a,ha⟩:=hk' p.1 (gX hp).2
   exact kg ha
  rintro⟨⟨⟩,u⟩ s2 ⟨rfl,pm,fl,r⟩
  dsimp only
  refine io (seqEpoch_at ho2 rfl ?_)
  refine io (listUpdate_at ho2 rfl ?_ (hsz2:=by rw[Array.size_map];exact zG (Nat.le_of_eq (pm.size_eq.trans (pairsOf_size _))) (zG (Aw h64) (by decide))))
  rw[fl]
  rw[show(e1 != e1)=false from bne_self_eq_false e1]
  rw[yy yL]
  exact yB (finish u pm fl r)
end
section
variable{prog:Program}{w:World}{A:Around}{E:Value→Shared→Prop}{s:Shared}
theorem gU{Q:List Value→Shared→Prop}(it:Addr){T:String}{o:Obj}{items:Array Value}{n:Nat}(hT:T="list"∨T="tuple")(ho:s.heap.get? it=some o)(hc:o.cls=.type T)(hd:o.data=.seq items n)(hz:items.size≤sizeLine)(q:∀g:Heap,(∀b u,s.heap.get? b=some u→g.get? b=some u)→s.heap.objs.size<g.objs.size→Q items.toList {s with heap:=g}):wpAny (model prog w) A (collect (.ref it)) Q E s:=by
 let g:Heap:=(s.heap.push (seqObj "list" #[] 0)).update s.heap.objs.size (Obj.mapSeq (·++items))
 have at1:(s.heap.push (seqObj "list" #[] 0)).get? s.heap.objs.size=some (seqObj "list" #[] 0):=yX _ rfl
 have kp:∀b u,s.heap.get? b=some u→g.get? b=some u:=fun b u h=>(Ak _ _ (zY (yM h))).trans (yA _ h)
 have gs:s.heap.objs.size<g.objs.size:=by
  show s.heap.objs.size<((s.heap.push (seqObj "list" #[] 0)).update s.heap.objs.size (Obj.mapSeq (·++items))).objs.size
  rw[Heap.size_update,size_push']
  exact Nat.lt_succ_self _
 have last:wpAny (model prog w) A (load s.heap.objs.size >>= fun u=>match u.data with
   | .seq xs _=>pure xs.toList
   | _=>unsupported "internal:collect") Q E {s with heap:=g}:=by
  refine io (wpAny_load (get?_update_seq at1 _) ?_)
  show wpAny _ _ (pure ((#[]:Array Value)++items).toList) Q E _
  rw[show((#[]:Array Value)++items).toList=items.toList by simp]
  exact yB (q g kp gs)
 unfold collect
 refine io (wpAny_runValue (Aq entry_proto_collect' ?_))
 show wpAny _ _ (newList [] >>= fun l=>again (.builtin "list.__iadd__" ⟨[l,.ref it],[]⟩)) _ _ s
 refine io (wpAny_newList (yB ⟨Code.quiet_builtin _ (by decide +kernel),Aq entry_list_iadd' ?_⟩))
 refine z5 (wpAny_extend_seq (hsz:=hz) (R:=fun r s'=>r=.ok (.ret (.ref s.heap.objs.size))∧s'={s with heap:=g}) (s:={s with heap:=s.heap.push (seqObj "list" #[] 0)}) _ it _ 0 hT at1 (yA _ ho) hc hd ⟨rfl,rfl⟩) (fun fin s' h=>?_) (fun x s' h=>?_)
 ·cases fin with
  | done y=>
   obtain⟨z,rfl⟩:=h
   cases z
   exact last
  | again c=>exact⟨h.1,codeAny_mono h.2 fun r s2 hr=>by obtain⟨rfl,rfl⟩:=hr;exact last⟩
 ·exact absurd h.1 (by simp)
end
section
variable{X:Cx}
theorem Of{as:List Addr}{out:List Value}(h:out.Perm (as.map Value.ref)):∃bs:List Addr,bs.Perm as∧out=bs.map Value.ref:=by
 let g:Value→Addr:=fun v=>match v with | .ref a=>a | _=>0
 refine⟨out.map g,?_,?_⟩
 ·have q:=h.map g
  rw[zf]at q
  rw[show(g∘Value.ref)=id from rfl,List.map_id]at q
  exact q
 ·rw[zf]
  have e:∀l:List Value,(∀v∈l,∃a,v=.ref a)→l=l.map (Value.ref∘g):=fun l hl=>by
   induction l with
   | nil=>rfl
   | cons v l ih=>
    obtain⟨a,rfl⟩:=hl v (.head _)
    rw[yE,←ih fun x hx=>hl x (.tail _ hx)]
    rfl
  exact e out fun v hv=>by
   obtain⟨a,_,rfl⟩:=yD.mp (h.mem_iff.mp hv)
   exact⟨a,rfl⟩
theorem Sq:∀{as:List Addr}{us:List Value},Vals (as.map V.ref) us→us=as.map Value.ref
 | [],_,h=>by cases h;rfl
 | a::as,_,h=>by
  rw[yE]at h
  cases h with
  | cons r t=>rw[Sq t,show _=Value.ref a from r];rfl
def nX{O:KeyOrd}(F:Hp→Addr→O.α→Prop):List V→Hp→VK→Prop:=fun xs H Q=>∃(p:Addr)(as:List Addr),xs=[.ref p]∧(H p=some (.lst (as.map V.ref))∨H p=some (.tup (as.map V.ref)))∧as.length<1000∧(∀a∈as,∃k,F H a k)∧
 ∀bs:List Addr,bs.Perm as→(bs.Pairwise fun a b=>∀k l,F H a k→F H b l→O.blt l k=false)→∀q,H q=none→Q (.ref q) (upd H q (.lst (bs.map V.ref)))
theorem call_sortG{O U:KeyOrd}{R:Heap→Value→O.α→Prop}{S:Heap→Value→U.α→Prop}{T W:String}(e:El X.prog X.w O R T)(f:El X.prog X.w U S W)(F:Hp→Addr→(bI O U).α→Prop)(br:∀{AU:List (Addr×Obj)} {σ:St} {H:Hp} {s:Shared} {a:Addr} {k:O.α×U.α},Inv X AU σ H s→F H a k→bf R S s.heap (.ref a) k)(d:O.α×U.α)(hu:X.A.units+64<cLine):bH X (.builtin "sorted") (nX (O:=bI O U) F):=by
 intro AU s σ H xs us Q I rx h
 obtain⟨p,as,rfl,hp,h64,hk,q⟩:=h
 obtain⟨u,rfl,ru⟩:=T8 rx
 cases ru
 obtain⟨o,n,T',ho,hT,hc,hd⟩:∃o n T',s.heap.get? p=some o∧(T'="list"∨T'="tuple")∧o.cls=.type T'∧o.data=.seq (as.map Value.ref).toArray n:=by
  rcases hp with hp | hp
  ·obtain⟨_,its,n,r,e1⟩:=(show ObjOk X.prog X.w H s.heap p (.lst (as.map V.ref))from I.hok p _ hp)
   rw[Sq r]at e1
   exact⟨_,n,"list",e1,.inl rfl,rfl,rfl⟩
  ·obtain⟨_,its,r,o,e1,e2,n,e3⟩:=(show ObjOk X.prog X.w H s.heap p (.tup (as.map V.ref))from I.hok p _ hp)
   rw[Sq r]at e3
   exact⟨o,n,"tuple",e1,.inr rfl,e2.1,e3⟩
 refine Calls.call_function_entry kind_sorted plain_sorted entry_sorted (args_sorted1 _) ?_
 unfold Builtin.«sorted»
 refine io (m:=checkCount "sorted" 1 1 _) (yB ?_)
 refine io (gU p hT ho hc hd (by rw[zo,pi];exact Zn (by omega)) fun g kp gl0=>?_)
 have tl:(as.map Value.ref).toArray.toList=as.map Value.ref:=List.toList_toArray
 rw[tl]
 refine io (wpAny_newList ?_ (by rw[pi];exact Zn (by omega)))
 have gl:s.heap.objs.size≤g.objs.size:=Aw gl0
 have hoL:(g.push (seqObj "list" (as.map Value.ref).toArray 0)).get? g.objs.size=some (seqObj "list" (as.map Value.ref).toArray 0):=yX _ rfl
 have kp2:∀b ob,s.heap.get? b=some ob→(g.push (seqObj "list" (as.map Value.ref).toArray 0)).get? b=some ob:=fun b ob e=>yA _ (kp b ob e)
 have st:cy s.heap (g.push (seqObj "list" (as.map Value.ref).toArray 0)):=fun b ob e _=>kp2 b ob e
 refine io (zJ (As slot_list_sort ⟨_,hoL,rfl⟩ entry_list_sort (Qn e f hoL (fun v hv=>?_) (by rw[pi];exact h64) (by show X.A.units+1+1+8<_;omega) d fun out op os=>⟨_,rfl,?_⟩) (args_list_sort _)))
 ·obtain⟨a,ha,rfl⟩:=yD.mp hv
  obtain⟨k,fk⟩:=hk a ha
  exact⟨k,Xc e f st (br I fk)⟩
 refine yB ⟨_,rfl,?_⟩
 obtain⟨bs,bp,be⟩:=Of op
 obtain⟨e2,he2⟩:=sortedHeap_at (vs:=as.map Value.ref) (out:=out) hoL
 refine⟨.ref g.objs.size,_,I.laid (t':=s.toks) (o:=.lst (bs.map V.ref)) (fun b ob e=>?_) gl ?_,rfl,q bs bp ?_ _ (I.hok.fresh gl)⟩
 ·have e':=kp b ob e
  have A1:=yM e'
  rw[sortedHeap_old (yW A1) (by rw[size_push'];exact Nat.lt_succ_of_lt A1)]
  exact yA _ e'
 ·refine⟨by rw[pi,bp.length_eq];exact Zn (by omega),bs.map Value.ref,e2,Sw bs,?_⟩
  rw[←be,Array.toArray_toList]
  exact he2
 ·rw[be]at os
  refine(Ae.mp os).imp_of_mem fun{a b} ha hb h k l fk fl=>h k l (Xc e f st (br I fk)) (Xc e f st (br I fl))
theorem Nd{AU:List (Addr×Obj)}{σ:St}{H:Hp}{s:Shared}{a:Addr}{x y:V}(I:Inv X AU σ H s)(h:H a=some (.tup [x,y])):∃o n u v,s.heap.get? a=some o∧o.cls=.type "tuple"∧o.data=.seq #[u,v] n∧RelV x u∧RelV y v:=by
 obtain⟨_,its,r,o,e1,e2,n,e3⟩:=(show ObjOk X.prog X.w H s.heap a (.tup [x,y])from I.hok a _ h)
 obtain⟨u,v,rfl,ru,rv⟩:=kJ r
 exact⟨o,n,u,v,e1,e2.1,e3,ru,rv⟩
def FII(H:Hp)(a:Addr)(k:(bI aC aC).α):Prop:=∃(i j:Int),H a=some (.tup [.int i,.int j])∧k=(i,j)
theorem Rg(hu:X.A.units+64<cLine):bH X (.builtin "sorted") (nX (O:=bI aC aC) FII):=
 call_sortG (U0 (prog:=X.prog) (w:=X.w)) (U0 (prog:=X.prog) (w:=X.w)) FII (fun{AU σ H s a k} I h=>by
  obtain⟨i,j,h,rfl⟩:=h
  obtain⟨o,m,u,v,e1,e2,e3,⟨t,ru⟩,⟨t',rv⟩⟩:=Nd I h
  exact⟨a,o,m,u,v,rfl,e1,e2,e3,⟨t,ru⟩,⟨t',rv⟩⟩) ((0:Int),(0:Int)) hu
def FTI(H:Hp)(a:Addr)(k:(bI (bI aC aC) aC).α):Prop:=∃(b:Addr)(i j n:Int),H a=some (.tup [.ref b,.int n])∧H b=some (.tup [.int i,.int j])∧k=((i,j),n)
end
def RwD(h:Heap)(d:Addr)(es:Array DictEntry)(ep:Nat):Prop:=∃o,h.get? d=some o∧o.ExactDict∧o.data=.dict es ep
theorem RwD.typeIs{s:Shared}{d:Addr}{es:Array DictEntry}{ep:Nat}(x:RwD s.heap d es ep):s.TypeIs (.ref d) "dict":=let ⟨o,h,c,_⟩:=x;⟨o,h,c.1⟩
theorem RwD.at{h g:Heap}{d:Addr}{es:Array DictEntry}{ep:Nat}(x:RwD h d es ep)(k:∀o,h.get? d=some o→g.get? d=some o):RwD g d es ep:=let ⟨o,h,r⟩:=x;⟨o,k _ h,r⟩
theorem RwD.lt{h:Heap}{d:Addr}{es:Array DictEntry}{ep:Nat}(x:RwD h d es ep):d<h.objs.size:=let ⟨_,h,_⟩:=x;yM h
theorem Qz:Builtin.Dict_items.ownsTuple "dict_keyiterator"=false∧Builtin.Dict_items.ownsTuple "dict_valueiterator"=false∧Builtin.Dict_items.ownsTuple "dict_itemiterator"=true:=by decide
theorem S2(d:Addr):¬((Value.ref d == Value.none)=true):=yL
section
variable{prog:Program}{w:World}{A:Around}{E:Value→Shared→Prop}{s:Shared}{it d:Addr}{i ep:Nat}{es:Array DictEntry}
theorem bP{α β:Type}{M:Model}{a:α}{k:α→Sem β}{Q:β→Shared→Prop}(h:wpAny M A (k a) Q E s):wpAny M A (pure a >>= k) Q E s:=io (yB h)
theorem Rv{T id:String}{B:Builtin}{Q:Option Value→Shared→Prop}(ty:s.TypeIs (.ref it) T)(sl:Slot T (Str.ofString "__next__") id)(en:entryFor table id=some B)(ar:argsOk id {pos:=[.ref it]})(h:wpAny (model prog w) A.in1 (B ⟨[.ref it],[]⟩) (fun fin s'=>∃v,fin=.done (.ret v)∧Q (some v) s') (fun e s'=>s'.TypeIs e "StopIteration"∧Q none s') s):wpAny (model prog w) A (pyNext (.ref it)) Q E s:=by
 unfold pyNext
 refine io (wpAny_attempt (wpAny_callSpecial?_slotG ty sl.toG (z5 (As sl ty en (Q:=fun v s'=>Q (some v) s') h ar) (fun v s' q=>yB q) (fun e s' q=>?_))))
 exact io (wpAny_isInstance q.1 isSubtype_stop (by rw[yC rfl];exact yB q.2))
theorem lE{Q:Option Value→Shared→Prop}(zi:s.heap.IsKeyIter it d i es.size ep)(zm:RwD s.heap d es ep)(zx:i<es.size)(zq:∀g:Heap,g.IsKeyIter it d (i+1) es.size ep→Heap.SameBut it s.heap g→Q (some es[i].key) {s with heap:=g}):wpAny (model prog w) A (pyNext (.ref it)) Q E s:=by
 obtain⟨o,go,co,fo⟩:=id zi
 obtain⟨od,yo,_,yd⟩:=zm
 refine Rv zi.typeIs PySem.F.slot_dict_keyiterator_next PySem.F.entry_dict_keyiterator_next (PySem.F.args_dict_keyiterator_next_1 _) (bP (io (io (io (wpAny_typeNameOfWhole_keyiter zi.typeIs (yB (io (wpAny_fieldsOf go fo ?_))))))))
 simp only[Qz.1,Bool.false_eq_true,if_false]
 show wpAny (model prog w) _ (if (Value.ref d == Value.none)=true then _ else _) _ _ s
 rw[yy (S2 d)];refine bP (io (zU yo yd ?_))
 rw[if_neg (by simp)];refine bP (wpAny_bind (wpAny_dictEpoch yo yd ?_))
 rw[if_neg (by simp)];refine wpAny_pure ?_
 simp only[show ¬((i:Int)<0)from by omega,if_false,Int.toNat_natCast,Array.getElem?_eq_getElem zx]
 refine io (io (wpAny_typeNameOfWhole_keyiter zi.typeIs (yB (io (wpAny_isOneOf_keyiter zi.typeIs ?_)))))
 show wpAny _ _ (setField (.ref it) 1 (rawInt ((i:Int)+1)) >>= fun _=>_) _ _ s
 refine wpAny_bind (wpAny_setField go fo (by simp) ?_)
 have zj:(s.heap.update it (Obj.mapFields (·.setIfInBounds 1 (rawInt ((i:Int)+1))))).IsKeyIter it d (i+1) es.size ep:=⟨_,Heap.get?_update_self _ go (Obj.isFreed_of_fields (Obj.data_mapFields fo _)),(Obj.cls_mapFields ..).trans co,by rw[Obj.data_mapFields fo];simp[rawInt]⟩
 have ty:Shared.TypeIs {s with heap:=s.heap.update it (Obj.mapFields (·.setIfInBounds 1 (rawInt ((i:Int)+1))))} (.ref it) "dict_keyiterator":=zj.typeIs
 refine io (zJ (io (wpAny_isOneOf_keyiter ty ?_)))
 show wpAny _ _ (pure es[i].key) _ _ {s with heap:=_}
 exact yB (yB ⟨_,rfl,zq _ zj (Heap.SameBut.update ..)⟩)
theorem lq{Q:Option Value→Shared→Prop}(zh:A.handled=none)(zi:s.heap.IsKeyIter it d i es.size ep)(zm:RwD s.heap d es ep)(zx:es.size≤i)(zq:∀g:Heap,Heap.ExtBut it s.heap g→Q none {s with heap:=g}):wpAny (model prog w) A (pyNext (.ref it)) Q E s:=by
 obtain⟨o,go,co,fo⟩:=id zi
 obtain⟨od,yo,_,yd⟩:=zm
 refine Rv zi.typeIs PySem.F.slot_dict_keyiterator_next PySem.F.entry_dict_keyiterator_next (PySem.F.args_dict_keyiterator_next_1 _) (bP (io (io (io (wpAny_typeNameOfWhole_keyiter zi.typeIs (yB (io (wpAny_fieldsOf go fo ?_))))))))
 simp only[Qz.1,Bool.false_eq_true,if_false]
 show wpAny (model prog w) _ (if (Value.ref d == Value.none)=true then _ else _) _ _ s
 rw[yy (S2 d)];refine bP (io (zU yo yd ?_))
 rw[if_neg (by simp)];refine bP (wpAny_bind (wpAny_dictEpoch yo yd ?_))
 rw[if_neg (by simp)];refine wpAny_pure ?_
 simp only[show ¬((i:Int)<0)from by omega,if_false,Int.toNat_natCast,Array.getElem?_eq_none zx]
 refine io (io (wpAny_typeNameOfWhole_keyiter zi.typeIs (yB ?_)))
 show wpAny _ _ (setField (.ref it) 0 .none >>= fun _=>_) _ _ s
 refine wpAny_bind (wpAny_setField go fo (by simp) (Qt (by simpa using zh) fun g e k ty=>⟨ty,zq g fun b u nb eb=>k b u ?_⟩))
 exact(Ak _ _ (Ne.symm nb)).trans eb
theorem lv{Q:Value→Shared→Prop}(lo:(d == sysModules)=false)(zm:RwD s.heap d es ep)(zq:Q (.ref s.heap.objs.size) {s with heap:=s.heap.push {cls:=.type "dict_keyiterator",data:=.fields #[.ref d,.int 0 0,.int es.size 0,.int ep 0]}}):wpAny (model prog w) A (pyIter (.ref d)) Q E s:=by
 obtain⟨o,yo,_,yd⟩:=id zm
 refine wpAny_pyIter_slot zm.typeIs PySem.F.slot_dict_iter (As PySem.F.slot_dict_iter zm.typeIs PySem.F.entry_dict_iter (io (io (wpAny_notOrdered_dict zm.typeIs ?_))) (PySem.F.args_dict_iter_1 _))
 show wpAny (model prog w) _ (pure (Value.ref d)) _ _ s
 refine yB (show wpAny (model prog w) _ (Builtin.Dict.showsAll d >>= fun _=>_) _ _ s from io ?_)
 unfold Builtin.Dict.showsAll;rw[lo,yy (by decide)]
 refine yB (io (zU yo yd (io (wpAny_dictEpoch yo yd (io (Am (yB ⟨_,rfl,"dict_keyiterator",_,⟨_,yX _ rfl,rfl⟩,PySem.F.slot_dict_keyiterator_next.lookup,?_⟩)))))))
 simpa [rawInt] using zq
theorem nO(zh:A.handled=none)(I d:Addr)(ne:d≠I)(es:Array DictEntry)(ep:Nat):Walks prog w A I [I,d] [I] es.size (fun i v=>∃e,es[i]?=some e∧v=e.key) (fun i h=>h.IsKeyIter I d i es.size ep∧RwD h d es ep) where
 sub:=fun b zb=>by rw[yN.mp zb];exact .head _
 frame:=fun _ _ _ st k=>⟨st.1.at fun o e=>k I (.head _) o e,st.2.at fun o e=>k d (.tail _ (.head _)) o e⟩
 item:=fun i s Q E zi st q=>lE st.1 st.2 zi fun g z sb=>q _ g s.toks ⟨_,yH zi,rfl⟩ ⟨z,st.2.at fun o e=>sb.extBut d o ne e⟩ fun b o nb e=>sb.extBut b o (fun z=>nb (by rw[z];exact .head _)) e
 done:=fun s Q E st q=>lq zh st.1 st.2 (yF _) fun g x=>q g s.toks fun b o nb e=>x b o (fun z=>nb (by rw[z];exact .head _)) e
 self:=fun _ _ _ _ st q=>wpAny_pyIter_keyiter st.1 q
theorem uF(lo:(d == sysModules)=false):W.KdlSrc prog w "dict" d d es.size (fun i v=>∃e,es[i]?=some e∧v=e.key) (fun h=>RwD h d es ep) where
 type:=fun _ z=>z.typeIs
 there:=fun _ z=>⟨z.lt,z.lt⟩
 keep:=fun _ _ z k=>z.at fun o e=>k d (.inl rfl) o e
 notList:=by decide
 notTuple:=by decide
 hint:=fun _ _ _ _ z q=>W.kdl_hint_dict z.typeIs q
 iter:=fun _ _ zh z=>⟨_,_,(fun _ _ q=>lv lo z q),nO zh _ d (yW z.lt) es ep,⟨⟨_,yX _ rfl,rfl,rfl⟩,z.at fun o e=>yA _ e⟩⟩
theorem nR{f:DictEntry→Value}{xs:Array Value}(h:ItemsOf (fun i v=>∃e,es[i]?=some e∧v=f e) xs es.size):xs.toList=es.toList.map f:=by
 obtain⟨sz,at_⟩:=h
 refine List.ext_getElem? fun j=>?_
 rw[yI,y9,yI]
 by_cases hj:j<xs.size
 ·obtain⟨e,h1,h2⟩:=at_ j xs[j] (yH hj)
  rw[yH hj,h1,h2]
  rfl
 ·rw[Array.getElem?_eq_none (by omega),Array.getElem?_eq_none (by omega)]
  rfl
end
abbrev Sps:=List ((Int×Int)×Int)
def kk(p:Int×Int):List Key:=[.inl p.1,.inl p.2]
def ae(ps:Sps):List (List Key×V):=ps.map fun p=>(kk p.1,.int p.2)
theorem V1{p q:Int×Int}(e:kk p=kk q):p=q:=by
 unfold kk at e
 injection e with e1 e2
 injection e2 with e2 _
 exact z6 (Sum.inl.inj e1) (Sum.inl.inj e2)
theorem Y0(ps:Sps):(ae ps).length=ps.length:=pi _
theorem V3(ps:Sps):(ae ps).map (·.1)=(ps.map (·.1)).map kk:=by
 unfold ae
 rw[zf,zf]
 rfl
def KsAt(H:Hp):List Addr→List (Int×Int)→Prop:=Paired fun b k=>H b=some (.tup [.int k.1,.int k.2])
theorem KsAt.mono{H H':Hp}{bs:List Addr}{ks:List (Int×Int)}(h:KsAt H bs ks)(g:∀b xs,H b=some (.tup xs)→H' b=some (.tup xs)):KsAt H' bs ks:=Paired.mapP h fun _ _ e=>g _ _ e
def leK(a b:Int×Int):Bool:=decide (a.1<b.1) || (decide (a.1=b.1) && decide (a.2≤b.2))
theorem Vx{a b:Int×Int}:leK a b=true↔a.1<b.1∨(a.1=b.1∧a.2≤b.2):=by
 unfold leK
 simp only[Bool.or_eq_true,Bool.and_eq_true,decide_eq_true_iff]
theorem nH(a b:Int×Int):(leK a b || leK b a)=true:=by
 rw[Bool.or_eq_true,Vx,Vx]
 omega
theorem mX(a b c:Int×Int)(h1:leK a b=true)(h2:leK b c=true):leK a c=true:=by
 rw[Vx]at *
 omega
theorem nU{a b:Int×Int}(h1:leK a b=true)(h2:leK b a=true):a=b:=by
 rw[Vx]at h1 h2
 exact z6 (by omega) (by omega)
def eI(ks:List (Int×Int)):List (Int×Int):=ks.mergeSort leK
theorem Sr(ks:List (Int×Int)):(eI ks).Perm ks:=List.mergeSort_perm _ _
theorem gj(ks:List (Int×Int)):(eI ks).Pairwise (fun a b=>leK a b=true):=List.pairwise_mergeSort mX nH ks
theorem iz:∀{l m:List (Int×Int)},l.Perm m→l.Pairwise (fun a b=>leK a b=true)→m.Pairwise (fun a b=>leK a b=true)→l=m
 | [],m,p,_,_=>List.Perm.nil_eq p
 | a::l,[],p,_,_=>absurd p.length_eq (by simp)
 | a::l,b::m,p,h1,h2=>by
  have e:a=b:=by
   rcases yU.mp (p.mem_iff.mp zH)with q | q
   ·exact q
   ·rcases yU.mp (p.mem_iff.mpr zH)with r | r
    ·exact r.symm
    ·exact nU ((zR.mp h1).1 b r) ((zR.mp h2).1 a q)
  subst e
  rw[iz ((List.perm_cons a).mp p) (zR.mp h1).2 (zR.mp h2).2]
theorem m6{H:Hp}{as bs:List Addr}{ks:List (Int×Int)}(h:KsAt H as ks)(p:bs.Perm as)(pw:bs.Pairwise fun a b=>∀k l,FII H a k→FII H b l→(bI aC aC).blt l k=false):KsAt H bs (eI ks):=by
 let key:Addr→Int×Int:=fun b=>match H b with
  | some (.tup [.int i,.int j])=>(i,j)
  | _=>(0,0)
 have kat:∀{b:Addr}{k:Int×Int},H b=some (.tup [.int k.1,.int k.2])→key b=k:=fun{b k} e=>by
  show(match H b with | some (.tup [.int i,.int j])=>(i,j) | _=>(0,0))=k
  rw[e]
 have all:∀{l:List Addr}{m:List (Int×Int)},KsAt H l m→l.map key=m∧∀b∈l,H b=some (.tup [.int (key b).1,.int (key b).2]):=fun{l m} r=>by
  induction r with
  | nil=>exact⟨rfl,fun _ h=>nomatch h⟩
  | @cons b k l m e _ ih=>
   have kb:=kat e
   refine⟨by rw[yE,kb,ih.1],fun c hc=>?_⟩
   rcases yU.mp hc with rfl | hc
   ·rw[kb];exact e
   ·exact ih.2 c hc
 obtain⟨e1,e2⟩:=all h
 have atb:∀b∈bs,H b=some (.tup [.int (key b).1,.int (key b).2]):=fun b hb=>e2 b (p.mem_iff.mp hb)
 have back:∀{l:List Addr},(∀b∈l,H b=some (.tup [.int (key b).1,.int (key b).2]))→KsAt H l (l.map key):=fun{l} hl=>by
  induction l with
  | nil=>exact .nil
  | cons b l ih=>exact .cons (hl b (.head _)) (ih fun c hc=>hl c (.tail _ hc))
 have eq:bs.map key=eI ks:=by
  refine iz ((p.map key).trans (by rw[e1];exact(Sr ks).symm)) (Ae.mpr (pw.imp_of_mem fun{a b} ha hb q=>?_)) (gj ks)
  have q:=q (key a) (key b) ⟨_,_,atb a ha,rfl⟩ ⟨_,_,atb b hb,rfl⟩
  rw[Vx]
  by_cases c:(key a).1<(key b).1
  ·exact .inl c
  ·by_cases c2:(key b).1<(key a).1
   ·exact absurd (Yj (O:=aC) (U:=aC) (a:=key b) (b:=key a) |>.mpr (.inl (yG c2))) (by rw[show cQ aC aC (key b) (key a)=false from q];decide)
   ·have e:(key b).1=(key a).1:=by omega
    by_cases c3:(key b).2<(key a).2
    ·exact absurd (Yj (O:=aC) (U:=aC) (a:=key b) (b:=key a) |>.mpr (.inr ⟨e,yG c3⟩)) (by rw[show cQ aC aC (key b) (key a)=false from q];decide)
    ·exact .inr ⟨e.symm,by omega⟩
 rw[←eq]
 exact back atb
section
variable{X:Cx}
theorem Oc{O U:KeyOrd}{R:Heap→Value→O.α→Prop}{S:Heap→Value→U.α→Prop}{T W:String}(e:El X.prog X.w O R T)(f:El X.prog X.w U S W)(F:Hp→Addr→(bI O U).α→Prop)(br:∀{AU:List (Addr×Obj)} {σ:St} {H:Hp} {s:Shared} {a:Addr} {k:O.α×U.α},Inv X AU σ H s→F H a k→bf R S s.heap (.ref a) k)(d:O.α×U.α)(hu:X.A.units+64<cLine){AU:List (Addr×Obj)}{s:Shared}{σ:St}{p:Addr}{Q:VK}(src:∀{E:Value→Shared→Prop} {C:List Value→Shared→Prop},(∀(g:Heap) (tk:Nat) (H:Hp) (as:List Addr),Inv X AU σ H {s with heap:=g,toks:=tk}→as.length<1000→(∀a∈as,∃k,F H a k)→
   (∀bs:List Addr,bs.Perm as→(bs.Pairwise fun a b=>∀k l,F H a k→F H b l→(bI O U).blt l k=false)→∀q,H q=none→Q (.ref q) (upd H q (.lst (bs.map V.ref))))→C (as.map Value.ref) {s with heap:=g,toks:=tk})→wpAny (model X.prog X.w) X.A.in1 (collect (.ref p)) C E s):
  wpAny (model X.prog X.w) X.A (call (.builtin "sorted") [.ref p]) (EP X AU σ Q) X.xe s:=by
 refine Calls.call_function_entry kind_sorted plain_sorted entry_sorted (args_sorted1 _) ?_
 unfold Builtin.«sorted»
 refine io (m:=checkCount "sorted" 1 1 _) (yB (io (src fun g tk H as I h64 hk q=>io (wpAny_newList ?_ (by rw[pi];exact Zn (by omega))))))
 have hoL:(g.push (seqObj "list" (as.map Value.ref).toArray 0)).get? g.objs.size=some (seqObj "list" (as.map Value.ref).toArray 0):=yX _ rfl
 have st:cy g (g.push (seqObj "list" (as.map Value.ref).toArray 0)):=fun b ob e _=>yA _ e
 refine io (zJ (As slot_list_sort ⟨_,hoL,rfl⟩ entry_list_sort (Qn e f hoL (fun v hv=>?_) (by rw[pi];exact h64) (by show X.A.units+1+1+8<_;omega) d fun out op os=>⟨_,rfl,?_⟩) (args_list_sort _)))
 ·obtain⟨a,ha,rfl⟩:=yD.mp hv
  obtain⟨k,fk⟩:=hk a ha
  exact⟨k,Xc e f st (br I fk)⟩
 refine yB ⟨_,rfl,?_⟩
 obtain⟨bs,bp,be⟩:=Of op
 obtain⟨e2,he2⟩:=sortedHeap_at (vs:=as.map Value.ref) (out:=out) hoL
 refine⟨.ref g.objs.size,_,I.laid (t':=tk) (o:=.lst (bs.map V.ref)) (fun b ob e=>?_) (yF _) ?_,rfl,q bs bp ?_ _ (I.hok.fresh (yF _))⟩
 ·have A1:=yM e
  rw[sortedHeap_old (yW A1) (by rw[size_push'];exact Nat.lt_succ_of_lt A1)]
  exact yA _ e
 ·refine⟨by rw[pi,bp.length_eq];exact Zn (by omega),bs.map Value.ref,e2,Sw bs,?_⟩
  rw[←be,Array.toArray_toList]
  exact he2
 ·rw[be]at os
  exact(Ae.mp os).imp_of_mem fun{a b} ha hb h k l fk fl=>h k l (Xc e f st (br I fk)) (Xc e f st (br I fl))
theorem jq{P:Program}{w:World}{H:Hp}{h:Heap}{d:Addr}{kvs:List (List Key×V)}(ok:HOk P w H h)(e:Rd H d (.dT kvs)):kvs.length≤sizeLine∧(d == sysModules)=false∧∃(xs:List (List Key×Addr×Value))(es:Array DictEntry)(ep:Nat),KT H kvs xs∧RwD h d es ep∧
  es.toList.map DictEntry.key=(xs.map fun x=>x.2.1).map Value.ref∧es.toList.map DictEntry.val=xs.map (fun x=>x.2.2)∧es.size=kvs.length:=by
 obtain⟨z,lo,xs,r,o,es,ep,h1,h2,h3,h4,_⟩:=(show ObjOk P w H h d (.dT kvs)from pP ok e)
 refine⟨z,lo,xs,es,ep,r,⟨o,h1,h2,h3⟩,?_,?_,?_⟩
 ·rw[h4,zf,zf]
  rfl
 ·rw[h4,zf]
  rfl
 ·rw[←yS,h4,pi,←yT r]
theorem ub{H:Hp}:∀{ps:Sps}{xs:List (List Key×Addr×Value)},KT H (ae ps) xs→KsAt H (xs.map fun x=>x.2.1) (ps.map (·.1))
 | [],xs,r=>by
  cases (show KT H [] xs from r)
  exact .nil
 | p::ps,xs,r=>by
  cases (show KT H ((kk p.1,.int p.2)::ae ps) xs from r) with
  | cons h t=>exact .cons h.2.1 (ub t)
def rU:List V→Hp→VK→Prop:=fun xs H Q=>∃(d:Addr)(ps:Sps),xs=[.ref d]∧H d=some (.dT (ae ps))∧ps.length<1000∧∀bs:List Addr,KsAt H bs (eI (ps.map (·.1)))→∀q,H q=none→Q (.ref q) (upd H q (.lst (bs.map V.ref)))
theorem vQ{H:Hp}{as:List Addr}{ks:List (Int×Int)}(h:KsAt H as ks):∀a∈as,∃k,FII H a k:=by
 induction h with
 | nil=>exact fun _ h=>nomatch h
 | cons e r ih=>exact fun b h=>(yU.mp h).elim (fun z=>by rw[z];exact⟨_,_,_,e,rfl⟩) (ih b)
theorem iO(hc:X.calm=true)(hu:X.A.units+64<cLine):bH X (.builtin "sorted") rU:=by
 intro AU s σ H xs us Q I rx h
 obtain⟨d,ps,rfl,hd,h64,q⟩:=h
 obtain⟨u,rfl,ru⟩:=T8 rx
 cases ru
 obtain⟨_,lo,es0,es,ep,kt,raw,ek,_,sz⟩:=jq I.hok (.inl hd)
 rw[Y0]at sz
 have ka:=ub kt
 have al:(es0.map fun x=>x.2.1).length<1000:=by rw[pi,←yT kt,Y0];exact h64
 refine Oc (U0 (prog:=X.prog) (w:=X.w)) (U0 (prog:=X.prog) (w:=X.w)) FII (fun{AU σ H s a k} I h=>?_) ((0:Int),(0:Int)) hu (fun{E C} hC=>?_)
 ·obtain⟨i,j,h,rfl⟩:=h
  obtain⟨o,m,u,v,e1,e2,e3,⟨t,ru⟩,⟨t',rv⟩⟩:=Nd I h
  exact⟨a,o,m,u,v,rfl,e1,e2,e3,⟨t,ru⟩,⟨t',rv⟩⟩
 ·refine gJ (A:=X.A.in1) (uF lo) (by simpa using I.ok.hd hc) raw (Zn (by omega)) fun g tk A8 kp lt it=>?_
  rw[nR it,ek]
  exact hC g tk H _ (I.kept kp) al (vQ ka) fun bs bp pw=>q bs (m6 ka bp pw)
end
section
variable{X:Cx}
theorem Qe{K:W.Frag}{H:Hp}{d:Addr}{kvs:List (List Key×V)}(h:H d=some (.dT kvs)):tyV K "dict" (.ref d) H:=.inr (.inr (.inl ⟨rfl,.inr ⟨kvs,h⟩⟩))
theorem gZ{prog:Program}{w:World}(d:Addr)(lo:(d == sysModules)=false):MeetsIn prog w (Builtin.«dict.items» ⟨[.ref d],[]⟩) (fun _ R s=>s.TypeIs (.ref d) "dict"∧R (.ok (.ret (.ref s.heap.objs.size))) {s with heap:=s.heap.push {cls:=.type "dict_items",data:=.fields #[.ref d]}}):=
 .of_wp fun A R s ⟨ty,h⟩=>by
  unfold Builtin.«dict.items»
  refine io (io (wpAny_notOrdered_dict ty (show wpAny (model prog w) _ (pure d) _ _ s from yB (io ?_))))
  unfold Builtin.Dict.showsAll;rw[lo,yy (by decide)]
  exact yB (io (Am (yB ⟨_,rfl,h⟩)))
def vx(w:Addr→Addr→HO):V→List V→Hp→VK→Prop:=fun x vs H Q=>∃d kvs,x=.ref d∧vs=[]∧H d=some (.dT kvs)∧∀a,H a=none→Q (.ref a) (upd H a (w a d))
theorem R3:MtR X "dict.items" (vx bK):=by
 intro AU s σ H x vs v us Q I rx rv h
 obtain⟨d,kvs,rfl,rfl,hd,q⟩:=h
 cases rx
 cases rv
 obtain⟨_,lo,_,es,ep,_,raw,_⟩:=jq I.hok (.inl hd)
 refine call_meetsIn PySem.F.slot_dict_items raw.typeIs PySem.F.entry_dict_items (PySem.F.args_dict_items_1 _) (gZ d lo) ⟨raw.typeIs,.ref s.heap.objs.size,_,I.laid (t':=s.toks) (o:=bK s.heap.objs.size d) (fun b o e=>yA _ e) (yF _) ?_,rfl,q _ (I.hok.fresh (yF _))⟩
 exact⟨⟨_,yX _ rfl,rfl,rfl⟩,⟨_,yX _ rfl⟩,fun h1 h2 x k=>let ⟨o,ho,r⟩:=x;⟨o,k o ho,r⟩⟩
end
section
variable{X:Cx}{AU:List (Addr×Obj)}{σ:St}{H:Hp}{s:Shared}
theorem fX{H:Hp}:∀{kvs:List (List Key×V)}{xs:List (List Key×Addr×Value)}{i:Nat}{p:List Key×V},KT H kvs xs→kvs[i]?=some p→∃x,xs[i]?=some x∧H x.2.1=some (.tup (p.1.map kV))∧RelV p.2 x.2.2
 | _,_,_,_,.nil,e=>by simp at e
 | _,_,0,_,.cons h _,e=>by
  rw[z7]at e
  cases e
  exact⟨_,rfl,h.2.1,h.2.2⟩
 | _,_,i+1,_,.cons _ r,e=>fX (i:=i) r (by simpa using e)
theorem Inv.thawT{d:Addr}{o:Obj}{kvs:List (List Key×V)}(nf:∀o u,X.H₀ d≠some (.frz o u))(I:Inv X AU σ H s)(h:H d=some (.frz o (.dT kvs))):Inv X AU σ (upd H d (.dT kvs)) s:=by
 have nd:∀b,H b=none→upd H d (.dT kvs) b=none:=fun b e=>by rw[Za (Ne.symm (Zf h e))];exact e
 have ot:∀b u,H b=some u→u≠.frz o (.dT kvs)→upd H d (.dT kvs) b=some u:=fun b u e n=>by rw[Za (Ta e h n)];exact e
 have tu:∀b xs,H b=some (.tup xs)→upd H d (.dT kvs) b=some (.tup xs):=fun b xs e=>ot b _ e (by intro z;cases z)
 refine⟨I.ok,I.os,I.bare,⟨I.base.keep,I.base.slot,fun b ob q n hx=>nd b (I.base.free b ob q n hx),I.base.there,fun b xs e=>tu b _ (I.base.tups b xs e),fun b ob u e=>?_,fun b ps e=>?_⟩,I.loc,I.cell,nd _ I.free,fun x c e=>nd c (I.freeC x c e),fun p hp=>?_,fun b u e=>?_,I.len⟩
 ·rw[Za (fun z=>nf ob u (by rw[←z];exact e))]
  exact I.base.frzs b ob u e
 ·obtain⟨m,q⟩:=I.base.tbls b ps e
  exact⟨m,ot b _ q (by intro z;cases z)⟩
 ·obtain⟨h1,h2,h3⟩:=I.pin p hp
  exact⟨h1,nd _ h2,h3⟩
 ·by_cases hb:b=d
  ·subst hb
   rw[Z5]at e
   cases e
   obtain⟨z,lo,xs,kt,r⟩:=(show ObjOk X.prog X.w H s.heap b (.dT kvs) from(I.hok b _ h).2)
   exact⟨z,lo,xs,KT.keeps kt tu,r⟩
  ·rw[Za hb]at e
   exact(I.hok b u e).stay (fun _ _ _ q=>q) (fun c q=>ot c _ q (by intro z;cases z)) fun c xs q=>tu c xs q
theorem Inv.freezeT{d:Addr}{kvs:List (List Key×V)}(I:Inv X AU σ H s)(h:H d=some (.dT kvs)):∃o,Inv X AU σ (upd H d (.frz o (.dT kvs))) s∧∀o u,X.H₀ d≠some (.frz o u):=by
 obtain⟨z,lo,xs,kt,o,es,ep,ho,r⟩:=(show ObjOk X.prog X.w H s.heap d (.dT kvs)from I.hok d _ h)
 have tu:∀b ys,H b=some (.tup ys)→upd H d (.frz o (.dT kvs)) b=some (.tup ys):=fun b ys e=>by rw[Za (Ta e h (by intro z;cases z))];exact e
 refine⟨o,I.write (x:=d) (e:=d) (t':=s.toks) (h':=s.heap) (by rw[h];exact trivial) (.inl rfl) (fun _ _ _ q=>q) ⟨o,ho⟩ ⟨ho,z,lo,xs,KT.keeps kt tu,o,es,ep,ho,r⟩,fun o' u e=>?_⟩
 have q:=I.base.frzs d o' u e
 rw[h]at q
 cases q
def wk(t:TE):TE:=fun σ H Q=>∃(d:Addr)(kvs:List (List Key×V)),H d=some (.dT kvs)∧∀o,t σ (upd H d (.frz o (.dT kvs))) fun v H2=>H2 d=some (.frz o (.dT kvs))∧Q v (upd H2 d (.dT kvs))
theorem sX{e:Expr}{t:TE}(h:PE X e t):PE X e (wk t):=by
 intro AU s σ H Q I hw
 obtain⟨d,kvs,hd,q⟩:=hw
 obtain⟨o,I1,nf⟩:=I.freezeT hd
 exact thn (h AU s σ _ _ I1 (q o)) fun v s1 ⟨x,H1,I2,r,hd2,q2⟩=>⟨x,_,I2.thawT nf hd2,r,q2⟩
def u8(d:Addr)(kvs:List (List Key×V))(o:Obj):It:=⟨fun i H=>i<kvs.length∧H d=some (.frz o (.dT kvs)),fun i H x H'=>H'=H∧∃p b,kvs[i]?=some p∧x=.ref b∧H b=some (.tup (p.1.map kV)),fun i H=>kvs.length≤i∧H d=some (.frz o (.dT kvs))⟩
theorem rZ{P:Program}{w:World}{K:W.Frag}{tg:Expr}{d it:Addr}{kvs:List (List Key×V)}{o:Obj}{es:Array DictEntry}{ep:Nat}(ex:o.ExactDict)(od:o.data=.dict es ep)(sz:es.size=kvs.length):
  Turn P w K tg (u8 d kvs o) [it] it (fun i h=>h.IsKeyIter it d i es.size ep) where
 mem:=by simp
 obj:=fun i h st b hb=>by
  obtain⟨q,e,c,dd⟩:=st
  rw[yN.mp hb]
  exact⟨q,e,fun v z=>by rw[dd]at z;cases z⟩
 keep:=fun i h h' st k=>st.at fun q e=>k it (.head _) q e
 item:=by
  intro X hP hw hK hc i AU s σ H E I hf st hg
  subst hP hw hK
  obtain⟨hi,hd⟩:=hg
  obtain⟨ho,z,lo,xs,kt,o',es',ep',h1,_,h3,h4,_⟩:=(show ObjOk X.prog X.w H s.heap d (.frz o (.dT kvs))from I.hok d _ hd)
  rw[ho]at h1
  cases h1
  rw[od]at h3
  cases h3
  obtain⟨f0,f1,f2,f3,f4,f5⟩:=hf it (.head _)
  have e1:kvs[i]?=some kvs[i]:=by simp[hi]
  obtain⟨x,ex1,hx,_⟩:=fX kt e1
  have ek:es[i].key=.ref x.2.1:=by
   have q:es.toList[i]?=some es[i]:=by rw[yI];exact yH (by omega)
   rw[h4,y9,ex1]at q
   rw[←zt q]
   rfl
  refine lE st ⟨o,ho,ex,od⟩ (by omega) fun g A9 sb=>?_
  obtain⟨q,e,c,dd⟩:=id A9
  have I1:Inv X AU σ H {s with heap:=g}:=I.turned (t':=s.toks) (fun b ob hb eb=>(sb.2 b hb).trans eb) f0 f1 f3 f4 f5
  exact⟨_,rfl,kR (s:={s with heap:=g}) e c dd (by decide) ⟨.ref x.2.1,H,I1,ek,⟨rfl,_,_,e1,rfl,hx⟩,A9,fun b hb=>(hf b hb).1⟩⟩
 done:=by
  intro X hP hw hK hc i AU s σ H E I hf st hg
  subst hP hw hK
  obtain⟨hi,hd⟩:=hg
  obtain⟨ho,_⟩:=I.hok d _ hd
  obtain⟨f0,f1,f2,f3,f4,f5⟩:=hf it (.head _)
  exact lq (I.ok.hd hc) st ⟨o,ho,ex,od⟩ (by omega) fun g eb=>⟨rfl,I.turned (t':=s.toks) (fun b ob hb e=>eb b ob hb e) f0 f1 f3 f4 f5⟩
 self:=fun _ _ _ _ _ st h=>wpAny_pyIter_keyiter st h
def u7(tl:TE):TI:=fun σ H R=>tl σ H fun x H1=>∃(d:Addr)(o:Obj)(kvs:List (List Key×V)),x=.ref d∧H1 d=some (.frz o (.dT kvs))∧R (u8 d kvs o) H1
theorem qA{tg l:Expr}{tl:TE}(hl:PE X l tl):PI X tg l (u7 tl):=by
 intro AU s σ H R I h
 refine thn (hl AU s σ H _ I h) fun v s1 AV=>?_
 obtain⟨x,H1,I1,r1,q1⟩:=AV
 obtain⟨d,o,kvs,rfl,hd,q⟩:=q1
 cases r1
 obtain⟨ho,z,lo,xs,kt,o',es,ep,h1,h2,h3,h4,_⟩:=(show ObjOk X.prog X.w H1 s1.heap d (.frz o (.dT kvs))from I1.hok d _ hd)
 rw[ho]at h1
 cases h1
 have sz:es.size=kvs.length:=by rw[←yS,h4,pi,←yT kt]
 refine lv lo ⟨o,ho,h2,h3⟩ ⟨s1.heap.objs.size,[s1.heap.objs.size],_,_,H1,rfl,I1.kept (t':=s1.toks) (fun b ob e=>yA _ e),rZ h2 h3 sz,⟨_,yX _ rfl,rfl,rfl⟩,fun b hb=>?_,q⟩
 rw[yN.mp hb]
 exact I1.fpOk (yF _) (I1.hok.fresh (yF _))
theorem jb{d:Addr}{o:Obj}{kvs:List (List Key×V)}{k:Nat}{g:TG}{tt:TT}{te:TE}{σ:St}{H:Hp}{Q:VK}(Pv:Nat→List V→Hp→Prop)(h0:Pv 0 [] H)(hl:∀i ys H,Pv i ys H→H d=some (.frz o (.dT kvs)))(hs:∀i p b ys H (C:List V→Hp→Prop),kvs[i]?=some p→H b=some (.tup (p.1.map kV))→Pv i ys H→(∀ys' H',Pv (i+1) ys' H'→C ys' H')→ys.length<sizeLine∧g (.ref b) (List.replicate k none++σ) H fun σ2 H2=>Wk σ2 (List.replicate k none++σ)∧tt σ2 H2 fun ok H3=>
   if ok=true then te σ2 H3 fun y H4=>C (ys++[y]) H4 else C ys H3)(hz:∀i ys H,Pv i ys H→ys.length<sizeLine)(hd:∀ys H,Pv kvs.length ys H→ys.length≤sizeLine∧∀p,H p=none→Q (.ref p) (upd H p (.lst ys))):CompR (u8 d kvs o) H k g tt te σ Q:=by
 refine⟨fun i m ys H=>m=kvs.length - i∧i≤kvs.length∧Pv i ys H,⟨kvs.length,by simp,Nat.zero_le _,h0⟩,?_⟩
 rintro i m ys H ⟨rfl,hi,p⟩
 have q:=hl i ys H p
 by_cases A1:i<kvs.length
 ·refine .inr ⟨⟨A1,q⟩,hz i ys H p,fun v H' y=>?_⟩
  obtain⟨e,p',b,hp',rfl,hb⟩:=y
  subst e
  exact(hs i p' b ys H' (fun ys' H'=>∃m',m'<kvs.length - i∧m'=kvs.length - (i+1)∧i+1≤kvs.length∧Pv (i+1) ys' H') hp' hb p fun ys' H' p'=>⟨_,by omega,rfl,A1,p'⟩).2
 ·have e:i=kvs.length:=by omega
  subst e
  exact .inl ⟨⟨yF _,q⟩,hd ys H p⟩
end
abbrev TKv:=List Key×Addr×Value
def dA(xs:List TKv):List TKv:=xs.foldl (fun A8 x=>storedH A8 x.1 x.2.1 x.2.2) []
def lI(kvs:List (List Key×V)):List (List Key×V):=kvs.foldl (fun A8 kv=>aK A8 kv.1 kv.2) []
theorem mH(xs:List TKv)(x:TKv):dA (xs++[x])=storedH (dA xs) x.1 x.2.1 x.2.2:=by
 unfold dA
 rw[List.foldl_append]
 rfl
theorem ig(xs:List TKv)(k:List Key)(a:Addr)(v:Value):(storedH xs k a v).length≤xs.length+1:=by
 unfold storedH
 split
 ·rw[pi];omega
 ·rw[yJ];exact yF _
theorem Oo:∀(ys xs:List TKv),(ys.foldl (fun A8 x=>storedH A8 x.1 x.2.1 x.2.2) xs).length≤xs.length+ys.length
 | [],xs=>yF _
 | y::ys,xs=>by
  have q:=Oo ys (storedH xs y.1 y.2.1 y.2.2)
  have l:=ig xs y.1 y.2.1 y.2.2
  rw[List.foldl_cons,zd]
  omega
theorem gR(xs:List TKv):(dA xs).length≤xs.length:=by
 have q:=Oo xs []
 rw[Aj,AK]at q
 exact q
theorem gw{xs:List TKv}{k:List Key}{a:Addr}{v:Value}{x:TKv}(h:x∈storedH xs k a v):(∃y∈xs,x.1=y.1∧x.2.1=y.2.1)∨(x.1=k∧x.2.1=a):=by
 unfold storedH at h
 split at h
 ·obtain⟨y,hy,rfl⟩:=yD.mp h
  refine .inl ⟨y,hy,?_⟩
  unfold putAt
  split <;> exact⟨rfl,rfl⟩
 ·rcases yY.mp h with q | q
  ·exact .inl ⟨x,q,rfl,rfl⟩
  ·rw[yN.mp q]
   exact .inr ⟨rfl,rfl⟩
theorem On:∀{ys xs:List TKv}{x:TKv},x∈ys.foldl (fun A8 x=>storedH A8 x.1 x.2.1 x.2.2) xs→∃y,(y∈xs∨y∈ys)∧x.1=y.1∧x.2.1=y.2.1
 | [],xs,x,h=>⟨x,.inl h,rfl,rfl⟩
 | z::ys,xs,x,h=>by
  obtain⟨y,hy,e1,e2⟩:=On (ys:=ys) h
  rcases hy with hy | hy
  ·rcases gw hy with⟨u,hu,f1,f2⟩|⟨f1,f2⟩
   ·exact⟨u,.inl hu,e1.trans f1,e2.trans f2⟩
   ·exact⟨z,.inr (.head _),e1.trans f1,e2.trans f2⟩
  ·exact⟨y,.inr (.tail _ hy),e1,e2⟩
theorem o_{ys:List TKv}{x:TKv}(h:x∈dA ys):∃y∈ys,x.1=y.1∧x.2.1=y.2.1:=by
 obtain⟨y,hy,e⟩:=On h
 rcases hy with hy | hy
 ·exact nomatch hy
 ·exact⟨y,hy,e⟩
theorem uX{H:Hp}{more:List (List Key×V)}{rs:List TKv}{kvs:List (List Key×V)}{xs:List TKv}(a:KT H more rs)(b:KT H kvs xs):KT H (more.foldl (fun A8 kv=>aK A8 kv.1 kv.2) kvs) (rs.foldl (fun A8 x=>storedH A8 x.1 x.2.1 x.2.2) xs):=by
 induction a generalizing kvs xs with
 | nil=>exact b
 | @cons p q more rs h t ih=>
  have e:=KT.put b p.1 h.2.1 h.2.2
  have e2:KT H (aK kvs p.1 p.2) (storedH xs q.1 q.2.1 q.2.2):=by
   rw[show storedH xs q.1 q.2.1 q.2.2=storedH xs p.1 q.2.1 q.2.2 by rw[h.1]]
   exact e
  exact ih e2
theorem w_{H:Hp}{kvs:List (List Key×V)}{xs:List TKv}(h:KT H kvs xs):KT H (lI kvs) (dA xs):=uX h .nil
theorem im:∀(kvs A8:List (List Key×V)),((A8++kvs).map (·.1)).Nodup→kvs.foldl (fun A8 kv=>aK A8 kv.1 kv.2) A8=A8++kvs
 | [],A8,_=>(Ab A8).symm
 | p::kvs,A8,h=>by
  have e:bi A8 p.1=none:=by
   rw[yV,yE]at h
   have nin:p.1∉A8.map (·.1):=fun q=>(List.nodup_append.mp h).2.2 p.1 q p.1 (.head _) rfl
   have:∀l:List (List Key×V),p.1∉l.map (·.1)→bi l p.1=none:=fun l=>by
    induction l with
    | nil=>intro _;rfl
    | cons y l ih=>
     intro hl
     rw[yE,yU,not_or]at hl
     rw[Yb (fun z=>hl.1 z.symm)]
     exact ih hl.2
   exact this A8 nin
  rw[List.foldl_cons,qV p.2 e,im kvs _ (by rw[zA];exact h),zA]
  rfl
theorem Ud{kvs:List (List Key×V)}(h:(kvs.map (·.1)).Nodup):lI kvs=kvs:=im kvs [] h
section
variable{prog:Program}{w:World}{A:Around}{E:Value→Shared→Prop}{s:Shared}
theorem Nf{h g:Heap}{ks:List Key}{a:Addr}(x:(tupleKind (aj prog w)).is h ks a)(k:∀o,h.get? a=some o→g.get? a=some o):(tupleKind (aj prog w)).is g ks a:=by
 obtain⟨o,its,n,h1,r⟩:=x
 exact⟨o,its,n,k o h1,r⟩
def oW(prog:Program)(w:World)(h:Heap)(D:Addr)(xs:List TKv):Prop:=∃o es ep,h.get? D=some o∧o.ExactDict∧o.data=.dict es ep∧es.toList=xs.map (entryOfKey (tupleKind (aj prog w)))∧(xs.map (·.1)).Nodup
def li(prog:Program)(w:World)(h:Heap)(p:TKv)(v:Value)(no:List Addr):Prop:=∃a o n,v=.ref a∧a∉no∧p.2.1∉no∧h.get? a=some o∧o.cls=.type "tuple"∧o.data=.seq #[.ref p.2.1,p.2.2] n∧(tupleKind (aj prog w)).is h p.1 p.2.1
theorem jL{R:Result→Shared→Prop}{I:Addr}{fp wr:List Addr}{n:Nat}{P:Nat→Value→Prop}{St:Nat→Heap→Prop}(W:Walks prog w A.in1 I fp wr n P St)(hu:A.units+1<cLine)(D:Addr)(hD:D∉fp)(ps:List TKv)(hpn:ps.length=n)(its:List Value)(hP:∀i v,P i v→its[i]?=some v)(hb:n≤100000):
  ∀(k i:Nat)(s:Shared),n - i=k→i≤n→St i s.heap→oW prog w s.heap D (dA (ps.take i))→(∀(j:Nat) p,ps[j]?=some p→∃v,its[j]?=some v∧li prog w s.heap p v (D::wr))→
   (∀g tk,(∀b o,b∉D::wr→s.heap.get? b=some o→g.get? b=some o)→oW prog w g D (dA ps)→R (.ok (.ret .none)) {s with heap:=g,toks:=tk})→
   codeAny (model prog w) A (.builtin "dict.update.loop" ⟨[.ref D,.ref I,rawInt i,.none],[]⟩) R s:=by
 have hDw:D∉wr:=fun q=>hD (W.sub _ q)
 intro k
 induction k with
 | zero=>
  intro i s hk hi st so tp fin
  obtain rfl:i=n:=by omega
  refine Aq Rc ?_;rw[Ag Ws _]
  refine io (m:=pyNext (.ref I)) (W.done s _ _ st fun h' tk kp=>io (m:=Builtin.Dict.addKeywords D []) (yB (yB (fin h' tk (fun b o nb e=>kp b o (fun q=>nb (zP _ q)) e) ?_))))
  rw[←hpn,zn]at so
  obtain⟨o,es,ep,ho,r⟩:=so
  exact⟨o,es,ep,kp D o hDw ho,r⟩
 | succ k ih=>
  intro i s hk hi st so tp fin
  have A1:i<n:=by omega
  refine Aq Rc ?_;rw[Ag Ws _]
  refine io (m:=pyNext (.ref I)) (W.item i s _ _ A1 st fun v h1 tk1 pv st1 kp1=>?_)
  obtain⟨p,hp⟩:∃p,ps[i]?=some p:=⟨ps[i],zK (by omega)⟩
  have kw:∀b o,b∉D::wr→s.heap.get? b=some o→h1.get? b=some o:=fun b o nb e=>kp1 b o (fun q=>nb (zP _ q)) e
  have tp1:∀(j:Nat) p,ps[j]?=some p→∃v,its[j]?=some v∧li prog w h1 p v (D::wr):=fun j p e=>by
   obtain⟨v,hv,a,o,m,rfl,na,nk,ha,r1,r2,r3⟩:=tp j p e
   exact⟨_,hv,a,o,m,rfl,na,nk,kw a o na ha,r1,r2,Nf r3 fun o e=>kw _ o nk e⟩
  obtain⟨v',hv',a,o,m,rfl,na,nk,ha,hc,hd,hkey⟩:=tp1 i p hp
  obtain rfl:v=.ref a:=zt ((hP i v pv).symm.trans hv')
  have so1:h1.DictOfH (tupleKind (aj prog w)) D (dA (ps.take i)):=by
   obtain⟨o,es,ep,ho,r1,r2,r3,r4⟩:=so
   refine⟨o,es,ep,kp1 D o hDw ho,r1,r2,r3,fun x hx=>?_,r4⟩
   obtain⟨y,hy,e1,e2⟩:=o_ hx
   obtain⟨j,hj⟩:=List.getElem?_of_mem (Au hy)
   obtain⟨_,_,_,_,_,_,_,_,_,_,_,q⟩:=tp1 j y hj
   rw[e1,e2]
   exact q
  refine io (zJ (io (wpAny_tryCatch ?_)))
  unfold Builtin.Dict.pairItems
  refine io (wpAny_typeOf (T:="tuple") ⟨o,ha,hc⟩ ?_)
  rw[yC (by decide)]
  refine io (m:=seqItems? (.ref a)) ?_
  unfold seqItems?
  refine io (wpAny_load ha ?_)
  rw[hd]
  refine yB (yB ?_)
  show wpAny _ _ (holding [Value.ref p.2.1,p.2.2] (dictSet D (.ref p.2.1) p.2.2)) _ _ _
  have eb:=gR (ps.take i)
  rw[y7]at eb
  refine zJ (wpAny_dictSet_heap (s:={s with heap:=h1,toks:=tk1}) (AI hu) hkey so1 (fun g so2 sb=>?_) (by
   have:(100000:Nat)≤sizeLine:=by decide
   omega))
  have so3:oW prog w g D (dA (ps.take (i+1))):=by
   rw[Zz hp,mH]
   obtain⟨o,es,ep,ho,r1,r2,r3,_,r4⟩:=so2
   exact⟨o,es,ep,ho,r1,r2,r3,r4⟩
  have ks:∀b o,b≠D→h1.get? b=some o→g.get? b=some o:=fun b o nb e=>(sb.2 b nb).trans e
  refine yB ⟨plainId_quiet Ws _,ih (i+1) _ (by omega) A1 (W.frame _ _ _ st1 fun b hb o e=>ks b o (fun q=>hD (by rw[←q];exact hb)) e) so3 (fun j p e=>?_) fun g' tk kp so'=>fin g' tk (fun b o nb e=>kp b o nb ?_) so'⟩
  ·obtain⟨v,hv,a,o,m,rfl,na,nk,ha,r1,r2,r3⟩:=tp1 j p e
   have nD:∀{b:Addr},b∉D::wr→b≠D:=fun h z=>h (by rw[z];exact .head _)
   exact⟨_,hv,a,o,m,rfl,na,nk,ks a o (nD na) ha,r1,r2,Nf r3 fun o e=>ks _ o (nD nk) e⟩
  ·exact ks b o (fun z=>nb (by rw[z];exact .head _)) (kw b o nb e)
end
inductive TPsAt(H:Hp):List V→List (List Key×V)→Prop
 | nil:TPsAt H [] []
 | cons {c b:Addr} {xs:List V} {k:List Key} {v:V} {kvs:List (List Key×V)} (h:H c=some (.tup [.ref b,v])) (g:H b=some (.tup (k.map kV))) (r:TPsAt H xs kvs):TPsAt H (.ref c::xs) ((k,v)::kvs)
section
variable{prog:Program}{w:World}{A:Around}{E:Value→Shared→Prop}{s:Shared}
theorem O1{l:Addr}{its:List Value}{k:Nat}{sl:Array (Option Value)}{ps:List TKv}{Q:Value→Shared→Prop}(hh:A.handled=none)(hu:A.units+3<cLine)(hl:s.heap.get? l=some {cls:=.type "tuple",dict:=none,data:=.seq its.toArray k,slots:=sl})(Bb:its.length=ps.length)(hb:ps.length≤100000)(hp:∀(j:Nat) p,ps[j]?=some p→∃v,its[j]?=some v∧li prog w s.heap p v [])(h:∀g tk,(∀b o,s.heap.get? b=some o→g.get? b=some o)→oW prog w g s.heap.objs.size (dA ps)→Q (.ref s.heap.objs.size) {s with heap:=g,toks:=tk}):wpAny (model prog w) A (call (.type "dict") [.ref l]) Q E s:=by
 refine callType_codes (Q₁:=fun obj s₁=>obj=.ref s.heap.objs.size∧s₁={s with heap:=s.heap.push {cls:=.type "dict",data:=.dict #[]}}) F.kt_called_dict (F.kt_typeCall_dict_1 _) F.entry_dict_init (kt_code_dict_new _ ⟨rfl,rfl⟩) ?_
 rintro obj s₁ ⟨rfl,rfl⟩
 have gD:(s.heap.push {cls:=.type "dict",data:=.dict #[]}).get? s.heap.objs.size=some {cls:=.type "dict",data:=.dict #[]}:=yX _ rfl
 have hl1:(s.heap.push {cls:=.type "dict",data:=.dict #[]}).get? l=some {cls:=.type "tuple",dict:=none,data:=.seq its.toArray k,slots:=sl}:=yA _ hl
 refine⟨⟨_,gD,rfl⟩,F.args_dict_init_2 _ _,?_⟩
 unfold Builtin.«dict.__init__»
 refine io ?_
 unfold Builtin.Dict.selfAndRest
 refine io (wpAny_notOrdered_dict ⟨_,gD,rfl⟩ (yB (a:=(s.heap.objs.size,[Value.ref l])) ?_))
 show wpAny (model prog w) _ (Builtin.Dict.updateFrom "dict.__init__" s.heap.objs.size (.ref l) [] .none) _ _ _
 unfold Builtin.Dict.updateFrom
 refine io (wpAny_typeOf (T:="tuple") ⟨_,hl1,rfl⟩ ?_)
 rw[yC (by decide)]
 refine wpAny_bind (xC hl1 (by simpa using hh) fun g tk kp=>?_)
 rw[yC (by rfl)]
 have ltD:s.heap.objs.size<g.objs.size:=yM (kp _ _ gD)
 have ltl:l<s.heap.objs.size:=yM hl
 have hl2:g.IsTuple l its.toArray:=⟨_,kp _ _ hl1,rfl,k,rfl⟩
 refine io (AR (io (wpAny_pyIter_tuple hl2 (yB ⟨plainId_quiet Ws _,?_⟩))))
 have hne:l≠g.objs.size:=yW (AO ltl ltD)
 have nin:s.heap.objs.size∉[g.objs.size,l]:=fun q=>by
  rcases yU.mp q with q | q
  ·exact yW ltD q
  ·exact zY ltl (yN.mp q)
 have nout:∀{b:Addr},b<s.heap.objs.size→b∉[s.heap.objs.size,g.objs.size]:=fun{b} lt q=>by
  rcases yU.mp q with q | q
  ·exact yW lt q
  ·exact yW (AO lt ltD) (yN.mp q)
 have keep:∀b o,s.heap.get? b=some o→(g.push {cls:=.type "tuple_iterator",data:=.fields #[.ref l,.int 0 0]}).get? b=some o:=fun b o e=>yA _ (kp _ _ (yA _ e))
 refine jL (A:=A.in1) (Walks.tuple (by simpa using hh) g.objs.size l hne its.toArray) (by show A.units+1+1<cLine;omega) s.heap.objs.size nin ps (by rw[List.size_toArray];omega) its (fun i v e=>by simpa using e) (by rw[List.size_toArray];omega) its.toArray.size 0 _ (Nat.sub_zero _) (Nat.zero_le _) ⟨⟨_,Heap.get?_push_size _ rfl,rfl,rfl⟩,hl2.push _⟩ ⟨_,#[],0,Heap.get?_push_of_some _ (kp _ _ gD),⟨rfl,rfl,rfl⟩,rfl,rfl,List.nodup_nil⟩ (fun j p e=>?_) fun g' tk' kp' so'=>⟨rfl,h g' tk' (fun b o e=>kp' b o (nout (Heap.lt_size e)) ?_) so'⟩
 ·obtain⟨v,hv,a,o,m,rfl,_,_,ha,r1,r2,r3⟩:=hp j p e
  have la:=yM ha
  have lk:p.2.1<s.heap.objs.size:=by
   obtain⟨_,_,_,h1,_⟩:=r3
   exact yM h1
  exact⟨_,hv,a,o,m,rfl,nout la,nout lk,yA _ (kp _ _ (yA _ ha)),r1,r2,Nf r3 fun o e=>yA _ (kp _ _ (yA _ e))⟩
 ·exact yA _ (kp _ _ (yA _ e))
end
section
variable{X:Cx}
theorem i7{AU:List (Addr×Obj)}{s:Shared}{σ:St}{H:Hp}(I:Inv X AU σ H s):∀{ys:List V}{kvs:List (List Key×V)}{its:List Value},TPsAt H ys kvs→Vals ys its→∃ps:List TKv,KT H kvs ps∧its.length=ps.length∧∀(j:Nat) p,ps[j]?=some p→∃v,its[j]?=some v∧li X.prog X.w s.heap p v []
 | _,_,_,.nil,.nil=>⟨[],.nil,rfl,fun j p e=>by simp at e⟩
 | _,_,_,.cons (c:=c) (b:=b) (k:=k) (v:=v) h g r,.cons r1 t=>by
  obtain⟨ps,kt,le,at_⟩:=i7 I r t
  obtain⟨_,its,rv,o,e1,e2,n,e3⟩:=(show ObjOk X.prog X.w H s.heap c (.tup [.ref b,v])from I.hok c _ h)
  obtain⟨u,x,rfl,ru,rx⟩:=kJ rv
  cases ru
  cases r1
  refine⟨(k,b,x)::ps,.cons ⟨rfl,g,rx⟩ kt,by rw[zd,zd,le],fun j p e=>?_⟩
  cases j with
  | zero=>
   rw[z7]at e
   cases e
   exact⟨_,rfl,c,o,n,rfl,zE,zE,e1,e2.1,e3,Tp I.hok g⟩
  | succ j=>exact at_ j p (by simpa using e)
def s_:List V→Hp→VK→Prop:=fun xs H Q=>∃(l:Addr)(ys:List V)(kvs:List (List Key×V)),xs=[.ref l]∧H l=some (.tup ys)∧TPsAt H ys kvs∧kvs.length≤1000∧∀p,H p=none→Q (.ref p) (upd H p (.dT (lI kvs)))
theorem W1(hc:X.calm=true)(hu:X.A.units+64<cLine):bH X (.type "dict") s_:=by
 intro AU s σ H xs us Q I rx h
 obtain⟨l,ys,kvs,rfl,hq,pa,Bb,q⟩:=h
 obtain⟨u,rfl,ru⟩:=T8 rx
 cases ru
 obtain⟨_,its,rv,⟨⟨c0,d0,dt0,sl0⟩,ho,hcl,m,hs⟩⟩:=(show ObjOk X.prog X.w H s.heap l (.tup ys)from I.hok l _ hq)
 simp only at hcl hs
 obtain⟨hcl,hdn⟩:=hcl
 subst hcl hdn hs
 obtain⟨ps,kt,hl,hp⟩:=i7 I pa rv
 have kl:=yT kt
 refine O1 (I.ok.hd hc) (by omega) ho hl (by omega) hp fun g tk kp hD=>?_
 have km:=w_ kt
 have ml:=gR ps
 refine⟨.ref s.heap.objs.size,_,I.laid (t':=tk) (o:=.dT (lI kvs)) kp (yF _) ⟨Zn (by rw[yT km];omega),beq_eq_false_iff_ne.mpr (zY I.big),dA ps,?_,hD⟩,rfl,q _ (I.hok.fresh (yF _))⟩
 exact KT.keeps km fun b ys e=>by rw[Za (Zf e (I.hok.fresh (yF _)))];exact e
end
theorem p7{kvs:List (List Key×V)}{k:List Key}(h:k∉kvs.map (·.1)):ce kvs k=kvs:=by
 unfold ce
 refine AA.mpr fun p hp=>yG fun e=>h (yD.mpr ⟨p,hp,e⟩)
theorem lB{H:Hp}:∀{kvs:List (List Key×V)}{xs:List TKv}{k:List Key}{j:Nat}{q:Addr×Value},KT H kvs xs→(xs.map (·.1)).Nodup→xs[j]?=some (k,q)→KT H (ce kvs k) (xs.eraseIdx j)
 | _,_,_,_,_,.nil,_,e=>by simp at e
 | p::kvs,x::xs,k,0,q,.cons h t,nd,e=>by
  rw[z7]at e
  cases e
  rw[yE,zl]at nd
  have ke:kvs.map (·.1)=xs.map (·.1):=by
   clear nd h
   induction t with
   | nil=>rfl
   | cons a _ ih=>rw[yE,yE,ih,a.1]
  have e1:ce (p::kvs) k=kvs:=by
   have o:=p7 (kvs:=kvs) (k:=k) (by rw[ke];exact nd.1)
   unfold ce at o⊢
   rw[List.filter_cons,if_neg (by simp[show p.1=k from h.1])]
   exact o
  rw[e1]
  exact t
 | p::kvs,x::xs,k,j+1,q,.cons h t,nd,e=>by
  rw[yE,zl]at nd
  have e:xs[j]?=some (k,q):=by simpa using e
  have ne:p.1≠k:=fun z=>nd.1 (yD.mpr ⟨(k,q),y3 e,by rw[←h.1,z]⟩)
  have e1:ce (p::kvs) k=p::ce kvs k:=by
   unfold ce
   rw[zD,yC (yG ne)]
  rw[e1,List.eraseIdx_cons_succ]
  exact .cons h (lB t nd.2 e)
theorem Uq{α β:Type}(f:α→β):∀(l:List α)(j:Nat),(l.map f).eraseIdx j=(l.eraseIdx j).map f
 | [],_=>rfl
 | _::_,0=>rfl
 | a::l,j+1=>by rw[yE,List.eraseIdx_cons_succ,List.eraseIdx_cons_succ,yE,Uq f l j]
theorem pQ{xs:List TKv}(nd:(xs.map (·.1)).Nodup)(j:Nat):((xs.eraseIdx j).map (·.1)).Nodup:=nd.sublist ((List.eraseIdx_sublist xs j).map _)
section
variable{prog:Program}{w:World}{A:Around}{E:Value→Shared→Prop}{s:Shared}
theorem sR{d a:Addr}{xs:List TKv}{k:List Key}{j:Nat}{q:Addr×Value}(hu:A.units+1<cLine)(hkey:(tupleKind (aj prog w)).is s.heap k a)(hm:s.heap.DictOfH (tupleKind (aj prog w)) d xs)(hz:xs.length≤sizeLine)(hj:xs[j]?=some (k,q)){Q:Fin→Shared→Prop}(h:∀g tk,oW prog w g d (xs.eraseIdx j)→Heap.SameBut d s.heap g→Q (.done (.ret q.2)) {s with heap:=g,toks:=tk}):wpAny (model prog w) A.in1 (Builtin.«dict.pop» ⟨[.ref d,.ref a],[]⟩) Q E s:=by
 obtain⟨o,es,ep,ho,ex,hd,he,his,hn⟩:=id hm
 have ty:s.TypeIs (.ref d) "dict":=hm.typeIs
 unfold Builtin.«dict.pop»
 refine io ?_
 unfold Builtin.Dict.keyAndDefault
 refine io (wpAny_notOrdered_dict ty (show wpAny (model prog w) _ (pure (d,Value.ref a,none)) _ _ s from yB ?_))
 have jl:j<xs.length:=(yK.mp hj).1
 have sz:es.size=xs.length:=by rw[←yS,he,pi]
 have ne:es.isEmpty=false:=by
  rcases z:es.isEmpty with _ | _
  ·rfl
  ·have:=Array.isEmpty_iff_size_eq_zero.mp z
   omega
 have ej:es[j]?=some (entryOfKey (tupleKind (aj prog w)) (k,q)):=by rw[←yI,he,y9,hj];rfl
 have kp:¬((keyPart (Value.ref a)).isSome=true):=yL
 simp only[kp,if_false]
 refine io (zU ho hd (bP ?_))
 simp only[ne,Bool.false_eq_true,if_false]
 refine io ?_
 unfold Builtin.Dict.takeOut
 refine zJ (io ((tupleKind (aj prog w)).pyHash (AI hu) hkey (io (wpAny_dictFind_heap (AI hu) hkey ho hd he his hn (fun hno=>absurd hj (hno j q)) fun i p hi=>?_))))
 have ij:i=j:=idxH_unique hn hi hj
 subst ij
 show wpAny (model prog w) _ (dictEntries d (keyPart (.ref a)) >>= fun l=>_) _ _ _
 refine io (zU ho hd ?_)
 rw[ej]
 refine io (wpAny_updateDictKeys (hz:=?_) ho hd (yB ?_))
 ·rw[yy (by exact yL)]
  refine io (wpAny_letGo (yB (h _ _ ⟨_,_,ep+1,Heap.get?_update_self _ ho (Obj.isFreed_of_dict (Obj.data_mapDictKeys hd _)),ex.mapDictKeys _,Obj.data_mapDictKeys hd _,?_,pQ hn i⟩ (Heap.SameBut.update ..))))
  rw[Array.eraseIdxIfInBounds,dif_pos (by omega:i<es.size),Array.toList_eraseIdx,he]
  exact Uq _ _ _
 ·omega
end
section
variable{X:Cx}
def xx:V→List V→Hp→VK→Prop:=fun x vs H Q=>∃(d a:Addr)(kvs:List (List Key×V))(k:List Key)(v:V),x=.ref d∧vs=[.ref a]∧H d=some (.dT kvs)∧H a=some (.tup (k.map kV))∧bi kvs k=some v∧Q v (upd H d (.dT (ce kvs k)))
theorem tO{H:Hp}{kvs:List (List Key×V)}{xs:List TKv}{k:List Key}{v:V}(kt:KT H kvs xs):bi kvs k=some v→∃(j:Nat)(q:Addr×Value),xs[j]?=some (k,q)∧RelV v q.2:=by
 induction kt with
 | nil=>intro e;simp[bi]at e
 | @cons p x kvs xs h t ih=>
  intro e
  by_cases z:p.1=k
  ·rw[Yq z]at e
   cases e
   exact⟨0,x.2,by rw[z7,←z,h.1],h.2.2⟩
  ·rw[Yb z]at e
   obtain⟨j,q,e1,e2⟩:=ih e
   exact⟨j+1,q,by simpa using e1,e2⟩
theorem kD(hu:X.A.units+64<cLine):MtR X "dict.pop" xx:=by
 intro AU s σ H x vs v us Q I rx rv h
 obtain⟨d,a,kvs,k,y,rfl,rfl,hd,ha,hv,q⟩:=h
 cases rx
 obtain⟨u,rfl,ru⟩:=T8 rv
 cases ru
 obtain⟨z,lo,xs,kt,dd⟩:=kW I.hok hd
 obtain⟨j,p,hj,rp⟩:=tO kt hv
 have hn:(xs.map (·.1)).Nodup:=by obtain⟨_,_,_,_,_,_,_,_,hn⟩:=dd;exact hn
 have tu:∀b ys,H b=some (.tup ys)→upd H d (.dT (ce kvs k)) b=some (.tup ys):=fun b ys e=>by rw[Za (Ta e hd (by intro z;cases z))];exact e
 refine As PySem.F.slot_dict_pop dd.typeIs PySem.F.entry_dict_pop (sR (by omega) (Tp I.hok ha) dd (by rw[←yT kt];exact z) hj fun g tk raw sb=>⟨_,rfl,y,_,?_,rp,q⟩) (PySem.F.args_dict_pop_2 _ _)
 have hg:∃o,g.get? d=some o:=let ⟨o,_,_,e,_⟩:=raw;⟨o,e⟩
 exact I.write (x:=d) (e:=d) (t':=tk) (by rw[hd];exact trivial) (.inl rfl) (fun b u nb e=>(sb.2 b nb).trans e) hg ⟨zG (zX _ _) z,lo,xs.eraseIdx j,KT.keeps (lB kt hn hj) tu,raw⟩
end
abbrev ItI(h:Heap)(it d:Addr)(i n ep:Nat)(f0 f1 ok ov:Value):Prop:=h.get? it=some {cls:=.type "dict_itemiterator",dict:=none,data:=.fields #[f0,f1,.ref d,.int i 0,.int n 0,.int ep 0,ok,ov],slots:=#[]}
abbrev duo(x y:Value):Obj:={cls:=.type "tuple",data:=.seq #[x,y]}
section
variable{prog:Program}{w:World}{A:Around}{E:Value→Shared→Prop}{s:Shared}{it d:Addr}{i ep:Nat}{es:Array DictEntry}{f0 f1 ok ov:Value}
theorem lU{v:Addr}{Q:Value→Shared→Prop}(zv:s.heap.IsItemsView v d)(zm:RwD s.heap d es ep)(zq:∀g:Heap,ItI g s.heap.objs.size d 0 es.size ep .none (.bool false) .none .none→g.objs.size=s.heap.objs.size+1→(∀b o,s.heap.get? b=some o→g.get? b=some o)→Q (.ref s.heap.objs.size) {s with heap:=g}):wpAny (model prog w) A (pyIter (.ref v)) Q E s:=by
 obtain⟨ou,vo,_,vd⟩:=id zv
 obtain⟨o,yo,_,yd⟩:=id zm
 refine wpAny_pyIter_slot zv.typeIs PySem.F.slot_dict_items_iter (As PySem.F.slot_dict_items_iter zv.typeIs PySem.F.entry_dict_items_iter (bP (io (io (wpAny_field vo vd (x:=.ref d) rfl (yB (io ?_)))))) (PySem.F.args_dict_items_iter_1 _))
 unfold Builtin.Dict_items.newIterator;skip
 refine io (zU yo yd (io (wpAny_dictEpoch yo yd ?_)))
 simp only[Qz.2.2,if_true]
 refine wpAny_newObj_type (wpAny_pure ⟨_,rfl,"dict_itemiterator",_,⟨_,Heap.get?_push_size _ rfl,rfl⟩,PySem.F.slot_dict_itemiterator_next.lookup,?_⟩) (by simp only[sizeOk,Builtin.Dict_items.ownedTupleFields,List.size_toArray,List.length_append,List.length_cons,List.length_nil,sizeLine_eq];omega)
 refine zq _ ?_ (size_push' _ _) fun b o e=>yA _ e
 unfold ItI
 rw[yX _ rfl]
 simp[rawInt,Builtin.Dict_items.ownedTupleFields]
theorem jz{a:Addr}{Q:Option Obj→Shared→Prop}(ho:s.heap.get? a=none)(h:Q none s):wpAny (model prog w) A (loadIfAlive a) Q E s:=by
 have h':Q (s.heap.get? a) s:=by rw[ho];exact h
 exact fun _ _ _=>h'
theorem kQ{Q:Option Value→Shared→Prop}(zi:ItI s.heap it d i es.size ep f0 f1 ok ov)(alt:f0=.none∨∃(a:Addr) (b:Bool),f0=rawInt a∧f1=.bool b)(zm:RwD s.heap d es ep)(zx:i<es.size)(zq:∀(g:Heap) (e0 e1 x y:Value),ItI g it d (i+1) es.size ep e0 e1 x y→(∃(a:Addr) (b:Bool),e0=rawInt a∧e1=.bool b)→g.get? s.heap.objs.size=some (duo es[i].key es[i].val)→g.objs.size=s.heap.objs.size+1→
   (∀b o,b≠it→s.heap.get? b=some o→g.get? b=some o)→Q (some (.ref s.heap.objs.size)) {s with heap:=g}):wpAny (model prog w) A (pyNext (.ref it)) Q E s:=by
 obtain⟨hp,gs,dr,tk,os⟩:=s
 obtain⟨od,yo,_,yd⟩:=zm
 have ty:Shared.TypeIs ⟨hp,gs,dr,tk,os⟩ (.ref it) "dict_itemiterator":=⟨_,zi,rfl⟩
 refine Rv ty PySem.F.slot_dict_itemiterator_next PySem.F.entry_dict_itemiterator_next (PySem.F.args_dict_itemiterator_next_1 _) (bP (io (io (io (wpAny_typeNameOfWhole_itemiter ty (yB (io (wpAny_fieldsOf zi rfl ?_))))))))
 simp only[Qz.2.2,if_true]
 show wpAny (model prog w) _ (if (Value.ref d == Value.none)=true then _ else _) _ _ _
 rw[yy (S2 d)];refine bP (io (zU yo yd ?_))
 rw[if_neg (by simp)];refine bP (wpAny_bind (wpAny_dictEpoch yo yd ?_))
 rw[if_neg (by simp)];refine wpAny_pure ?_
 simp only[show ¬((i:Int)<0)from by omega,if_false,Int.toNat_natCast,Array.getElem?_eq_getElem zx]
 refine io (io (wpAny_typeNameOfWhole_itemiter ty (yB (io (wpAny_isOneOf_itemiter ty ?_)))))
 show wpAny (model prog w) _ (setField (.ref it) 3 (rawInt ((i:Int)+1)) >>= fun _=>_) _ _ ⟨hp,gs,dr,tk,os⟩
 refine wpAny_bind (wpAny_setField_rec zi (by simp) fun g1 e1 s1=>?_)
 have s1:Heap.SameBut it hp g1:=s1
 have e1:ItI g1 it d (i+1) es.size ep f0 f1 ok ov:=by
  have q:((i+1:Nat):Int)=(i:Int)+1:=by omega
  unfold ItI;rw[q];simpa [rawInt] using e1
 have ty1:Shared.TypeIs ⟨g1,gs,dr,tk,os⟩ (.ref it) "dict_itemiterator":=⟨_,e1,rfl⟩
 refine io (zJ (io (wpAny_isOneOf_itemiter ty1 (io (wpAny_isOneOf_itemiter ty1 ?_)))))
 show wpAny (model prog w) _ (Builtin.Dict_items.pairFromOwner (.ref it) 6 es[i].key es[i].val) _ _ ⟨g1,gs,dr,tk,os⟩
 unfold Builtin.Dict_items.pairFromOwner;refine io (wpAny_newTuple ?_)
 have e2:ItI (g1.push (duo es[i].key es[i].val)) it d (i+1) es.size ep f0 f1 ok ov:=yA _ e1
 generalize hz:g1.push (duo es[i].key es[i].val)=g2 at e2
 have z1:g1.objs.size=hp.objs.size:=s1.1
 have il:it<hp.objs.size:=yM zi
 have t2:g2.get? hp.objs.size=some (duo es[i].key es[i].val):=by rw[←hz,←z1];exact yX _ rfl
 have z2:g2.objs.size=hp.objs.size+1:=by rw[←hz,Heap.size_push,z1]
 have k2:∀b o,b≠it→hp.get? b=some o→g2.get? b=some o:=fun b o nb e=>by rw[←hz];exact yA _ (s1.extBut b o nb e)
 have fin:∀(g:Heap)(x0 x1 x y:Value),ItI g it d (i+1) es.size ep x0 x1 x y→(∃(a:Addr)(b:Bool),x0=rawInt a∧x1=.bool b)→Heap.SameBut it g2 g→Q (some (.ref hp.objs.size)) ⟨g,gs,dr,tk,os⟩:=fun g x0 x1 x y h1 h2 sb=>
  zq g x0 x1 x y h1 h2 (sb.extBut _ _ (zY il) t2) (by show g.objs.size=hp.objs.size+1;rw[sb.1,z2]) fun b o nb e=>sb.extBut b o nb (k2 b o nb e)
 show wpAny (model prog w) _ (Builtin.Dict_items.ownedTupleIsFree (.ref it) >>= fun _=>_) _ _ ⟨g2,gs,dr,tk,os⟩
 rw[z1]
 unfold Builtin.Dict_items.ownedTupleIsFree
 rcases alt with rfl | ⟨a,b,rfl,rfl⟩
 ·refine io (io (wpAny_field e2 rfl (x:=.none) rfl (yB ?_)))
  simp only[if_true]
  refine wpAny_bind (wpAny_field e2 rfl (x:=ok) rfl (wpAny_bind (wpAny_field e2 rfl (x:=ov) rfl (wpAny_bind (wpAny_setField_rec e2 (by simp) fun g3 e3 s3=>wpAny_bind (wpAny_setField_rec e3 (by simp) fun g4 e4 s4=>wpAny_bind (wpAny_setField_rec e4 (by simp) fun g5 e5 s5=>wpAny_bind (wpAny_setField_rec e5 (by simp) fun g6 e6 s6=>?_))))))))
  refine io (wpAny_letGo (yB (yB ⟨_,rfl,fin g6 _ _ _ _ e6 ⟨_,_,rfl,rfl⟩ ?_⟩)))
  have s3:Heap.SameBut it g2 g3:=s3
  have s4:Heap.SameBut it g3 g4:=s4
  have s5:Heap.SameBut it g4 g5:=s5
  have s6:Heap.SameBut it g5 g6:=s6
  exact⟨by rw[s6.1,s5.1,s4.1,s3.1],fun c nc=>(s6.2 c nc).trans ((s5.2 c nc).trans ((s4.2 c nc).trans (s3.2 c nc)))⟩
 ·refine io (io (wpAny_field e2 rfl (x:=rawInt a) rfl ?_))
  show wpAny (model prog w) _ (loadIfAlive ((a:Int).toNat) >>= fun _=>_) _ _ _
  rw[Int.toNat_natCast]
  cases a2:g2.get? a with
  | none=>
   refine io (jz a2 ?_)
   simp only[Option.isNone_none,if_true]
   refine yB ?_
   simp only[if_true]
   refine wpAny_bind (wpAny_field e2 rfl (x:=ok) rfl (wpAny_bind (wpAny_field e2 rfl (x:=ov) rfl (wpAny_bind (wpAny_setField_rec e2 (by simp) fun g3 e3 s3=>wpAny_bind (wpAny_setField_rec e3 (by simp) fun g4 e4 s4=>wpAny_bind (wpAny_setField_rec e4 (by simp) fun g5 e5 s5=>wpAny_bind (wpAny_setField_rec e5 (by simp) fun g6 e6 s6=>?_))))))))
   refine io (wpAny_letGo (yB (yB ⟨_,rfl,fin g6 _ _ _ _ e6 ⟨_,_,rfl,rfl⟩ ?_⟩)))
   have s3:Heap.SameBut it g2 g3:=s3
   have s4:Heap.SameBut it g3 g4:=s4
   have s5:Heap.SameBut it g4 g5:=s5
   have s6:Heap.SameBut it g5 g6:=s6
   exact⟨by rw[s6.1,s5.1,s4.1,s3.1],fun c nc=>(s6.2 c nc).trans ((s5.2 c nc).trans ((s4.2 c nc).trans (s3.2 c nc)))⟩
  | some o=>
   refine io (W.kdx_alive a2 ?_)
   simp only[Option.isNone_some,Bool.false_eq_true,if_false]
   refine io (wpAny_field e2 rfl (x:=.bool b) rfl ?_)
   cases b with
   | true=>
    rw[yy (show ¬((Value.bool true != Value.bool true)=true)from yL)];refine yB ?_
    simp only[Bool.false_eq_true,if_false]
    exact yB (yB ⟨_,rfl,fin g2 _ _ _ _ e2 ⟨_,_,rfl,rfl⟩ (Heap.SameBut.refl _ _)⟩)
   | false=>
    rw[yC (show(Value.bool false != Value.bool true)=true from rfl)]
    refine wpAny_bind (wpAny_setField_rec e2 (by simp) fun g3 e3 s3=>wpAny_pure ?_)
    simp only[Bool.false_eq_true,if_false]
    exact yB (yB ⟨_,rfl,fin g3 _ _ _ _ e3 ⟨_,_,rfl,rfl⟩ s3⟩)
theorem kT{Q:Option Value→Shared→Prop}(zh:A.handled=none)(zi:ItI s.heap it d i es.size ep f0 f1 ok ov)(zm:RwD s.heap d es ep)(zx:es.size≤i)(zq:∀g:Heap,Heap.ExtBut it s.heap g→Q none {s with heap:=g}):wpAny (model prog w) A (pyNext (.ref it)) Q E s:=by
 obtain⟨od,yo,_,yd⟩:=zm
 have ty:s.TypeIs (.ref it) "dict_itemiterator":=⟨_,zi,rfl⟩
 refine Rv ty PySem.F.slot_dict_itemiterator_next PySem.F.entry_dict_itemiterator_next (PySem.F.args_dict_itemiterator_next_1 _) (bP (io (io (io (wpAny_typeNameOfWhole_itemiter ty (yB (io (wpAny_fieldsOf zi rfl ?_))))))))
 simp only[Qz.2.2,if_true]
 show wpAny (model prog w) _ (if (Value.ref d == Value.none)=true then _ else _) _ _ s
 rw[yy (S2 d)];refine bP (io (zU yo yd ?_))
 rw[if_neg (by simp)];refine bP (wpAny_bind (wpAny_dictEpoch yo yd ?_))
 rw[if_neg (by simp)];refine wpAny_pure ?_
 simp only[show ¬((i:Int)<0)from by omega,if_false,Int.toNat_natCast,Array.getElem?_eq_none zx]
 refine io (io (wpAny_typeNameOfWhole_itemiter ty (yB ?_)))
 show wpAny (model prog w) _ (setField (.ref it) 2 .none >>= fun _=>_) _ _ s
 refine wpAny_bind (wpAny_setField zi rfl (by simp) (Qt (by simpa using zh) fun g e k ty=>⟨ty,zq g fun b u nb eb=>k b u ?_⟩))
 exact(Ak _ _ (Ne.symm nb)).trans eb
end
def beh(I n:Nat):List Addr:=(List.range n).map fun j=>I+1+j
theorem qp(I n:Nat):beh I (n+1)=beh I n++[I+1+n]:=by
 unfold beh
 rw[List.range_succ,yV]
 rfl
theorem lg(I n:Nat):(beh I n).length=n:=by
 unfold beh
 rw[pi,List.length_range]
theorem om(I j:Nat):I+1+j≠I:=by omega
abbrev lsO(xs:Array Value)(c:Nat):Obj:={cls:=.type "list",data:=.seq xs c}
section
variable{prog:Program}{w:World}{A:Around}{E:Value→Shared→Prop}{s:Shared}{d:Addr}{ep:Nat}{es:Array DictEntry}{R:Result→Shared→Prop}
theorem jH{S I:Addr}(zh:A.handled=none)(hSI:S<I)(hSd:d≠S)(hId:d≠I)(hn:es.size≤sizeLine)(res:Value){h0:Heap}(fin:∀(h:Heap) (tk c:Nat),(∀b o,b≠S→b≠I→h0.get? b=some o→h.get? b=some o)→h.get? S=some (lsO ((beh I es.size).map Value.ref).toArray c)→(∀(j:Nat) (hj:j<es.size),h.get? (I+1+j)=some (duo es[j].key es[j].val))→R (.ok (.ret res)) {s with heap:=h,toks:=tk}):
  ∀(k i:Nat)(h:Heap)(tk c:Nat)(f0 f1 ok ov:Value),es.size - i=k→i≤es.size→ItI h I d i es.size ep f0 f1 ok ov→(f0=.none∨∃(a:Addr)(b:Bool),f0=rawInt a∧f1=.bool b)→RwD h d es ep→(∀b o,b≠S→b≠I→h0.get? b=some o→h.get? b=some o)→
   h.get? S=some (lsO ((beh I i).map Value.ref).toArray c)→(∀(j:Nat)(hj:j<es.size),j<i→h.get? (I+1+j)=some (duo es[j].key es[j].val))→h.objs.size=I+1+i→
   codeAny (model prog w) A (.builtin "list.extend.loop" ⟨[.ref S,.ref I,res],[]⟩) R {s with heap:=h,toks:=tk}:=by
 have ne:S≠I:=yW hSI
 intro k
 induction k with
 | zero=>
  intro i h tk c f0 f1 ok ov hk hi st alt hD keep hS tp hz
  obtain rfl:i=es.size:=by omega
  refine Aq PySem.F.entry_extend_loop ?_;rw[Ag PySem.F.plain_extend_loop _]
  refine wpAny_bind (m:=pyNext (.ref I)) (kT (s:={s with heap:=h,toks:=tk}) (A:=A.in1) (by simpa using zh) st hD (Nat.le_refl _) fun g x=>wpAny_pure (fin g tk c (fun b o h1 h2 e=>x b o h2 (keep b o h1 h2 e)) (x S _ ne hS) fun j hj=>x _ _ (om I j) (tp j hj hj)))
 | succ k ih=>
  intro i h tk c f0 f1 ok ov hk hi st alt hD keep hS tp hz
  have A1:i<es.size:=by omega
  refine Aq PySem.F.entry_extend_loop ?_;rw[Ag PySem.F.plain_extend_loop _]
  refine io (m:=pyNext (.ref I)) (kQ (s:={s with heap:=h,toks:=tk}) (A:=A.in1) st alt hD A1 fun g x0 x1 x y A9 al tg zg kp=>?_)
  dsimp only at tg zg kp al⊢
  rw[hz]at tg zg⊢
  have hSl:S<h.objs.size:=yM hS
  have hS':=kp S _ ne hS
  have up:∀b o,b≠S→g.get? b=some o→(g.update S (Obj.mapSeq (·.push (Value.ref (I+1+i))))).get? b=some o:=fun b o nb e=>(Ak _ _ (Ne.symm nb)).trans e
  have hl:((beh I i).map Value.ref).toArray.size=i:=by rw[zo,pi,lg]
  obtain⟨c2,u2⟩:∃c2,(g.update S (Obj.mapSeq (·.push (Value.ref (I+1+i))))).get? S=some (lsO ((beh I (i+1)).map Value.ref).toArray c2):=by
   have u:=get?_update_seq (c:="list") hS' (fun x=>x.push (Value.ref (I+1+i)))
   rw[List.push_toArray]at u
   rw[qp,yV]
   exact⟨_,u⟩
  show wpAny (model prog w) A.in1 (updateSeq S (·.push (Value.ref (I+1+i))) >>= fun _=>_) _ _ _
  refine io (wpAny_updateSeq hS' rfl (yB ⟨plainId_quiet PySem.F.plain_extend_loop _,ih (i+1) _ tk c2 x0 x1 x y (by omega) A1 (up I _ (Ne.symm ne) A9) (.inr al) (hD.at fun o e=>up d o hSd (kp d o hId e)) (fun b o h1 h2 e=>up b o h1 (kp b o h2 (keep b o h1 h2 e))) u2 (fun j hj ji=>?_) ?_⟩) (by rw[hl];omega) (by rw[AC,hl];omega))
  ·by_cases z:j=i
   ·subst z
    exact up _ _ (zY (y4 hSI (by omega))) tg
   ·exact up _ _ (zY (y4 hSI (by omega))) (kp _ _ (om I j) (tp j hj (by omega)))
  ·rw[Heap.size_update,zg]
   omega
theorem t9:(Value.type "dict_items" == Value.type "list")=false∧(Value.type "dict_items" == Value.type "tuple")=false:=by decide
theorem fW{S r:Addr}(zh:A.handled=none)(zv:s.heap.IsItemsView r d)(zm:RwD s.heap d es ep)(hSr:S≠r)(hSd:d≠S)(hn:es.size≤sizeLine)(res:Value){c0:Nat}(eS:s.heap.get? S=some (lsO #[] c0))(fin:∀(h:Heap) (tk c:Nat),(∀b o,b≠S→s.heap.get? b=some o→h.get? b=some o)→h.get? S=some (lsO ((beh s.heap.objs.size es.size).map Value.ref).toArray c)→(∀(j:Nat) (hj:j<es.size),h.get? (s.heap.objs.size+1+j)=some (duo es[j].key es[j].val))→R (.ok (.ret res)) {s with heap:=h,toks:=tk}):
  wpAny (model prog w) A.in1 (Builtin.List.listExtendWith (.ref S) (.ref r) res) (fun fin s'=>match fin with
   | .done f=>R (.ok f) s'
   | .again c'=>c'.quiet=true∧codeAny (model prog w) A c' R s') (fun e s'=>R (.error e) s') s:=by
 have lS:S<s.heap.objs.size:=yM eS
 unfold Builtin.List.listExtendWith
 refine io (wpAny_typeOf zv.typeIs ?_)
 have sm:Builtin.List.listSameRef (.ref S) (.ref r)=false:=by
  unfold Builtin.List.listSameRef
  simpa using hSr
 rw[sm,t9.1,t9.2,yy (by decide)]
 refine io (lU zv zm fun g1 st z1 kp=>?_)
 refine io (zJ (W.kdx_hint (s:={s with heap:=g1}) (let ⟨o,ho,hc,_⟩:=zv;⟨o,kp _ _ ho,hc⟩) ?_))
 refine jR (by kernel_rfl) (io (AR ?_))
 unfold Builtin.List.listTouch;skip
 have u1:=get?_update_seq (c:="list") (kp _ _ eS) (fun x=>x.push Value.none)
 have u2:=get?_update_seq (c:="list") u1 (fun x=>x.pop)
 refine wpAny_bind (wpAny_bind (listUpdate_at (kp _ _ eS) rfl (listUpdate_at u1 rfl ?_ (by simp[sizeLine_eq]) (by simp)) (by simp) (by simp[sizeLine_eq])))
 obtain⟨c2,u3⟩:∃c2,((g1.update S (Obj.mapSeq fun x=>x.push Value.none)).update S (Obj.mapSeq fun x=>x.pop)).get? S=some (lsO #[] c2):=⟨_,u2⟩
 have k2:∀b o,b≠S→g1.get? b=some o→((g1.update S (Obj.mapSeq fun x=>x.push Value.none)).update S (Obj.mapSeq fun x=>x.pop)).get? b=some o:=fun b o nb e=>by
  rw[Heap.get?_update_ne _ _ _ _ nb,Heap.get?_update_ne _ _ _ _ nb]
  exact e
 have z2:((g1.update S (Obj.mapSeq fun x=>x.push Value.none)).update S (Obj.mapSeq fun x=>x.pop)).objs.size=s.heap.objs.size+1:=by rw[Heap.size_update,Heap.size_update,z1]
 generalize (g1.update S (Obj.mapSeq fun x=>x.push Value.none)).update S (Obj.mapSeq fun x=>x.pop)=g2 at u3 k2 z2
 refine yB ⟨plainId_quiet PySem.F.plain_extend_loop _,jH (s:=s) (es:=es) (ep:=ep) (h0:=s.heap) zh lS hSd (yW zm.lt) hn res (fun h tk c kh hS tp=>fin h tk c (fun b o nb e=>kh b o nb (yW (yM e)) e) hS tp) es.size 0 g2 s.toks c2 .none (.bool false) .none .none (Nat.sub_zero _) (AQ _) (k2 _ _ (zY lS) st) (.inl rfl) (zm.at fun o e=>k2 d o hSd (kp d o e)) (fun b o nb _ e=>k2 b o nb (kp b o e)) u3 (fun j hj ji=>absurd ji (Nat.not_lt_zero j)) z2⟩
def ColI(s:Shared)(es:Array DictEntry)(q:Result)(s':Shared):Prop:=∃(g:Heap)(tk c:Nat),q=.ok (.ret (.ref s.heap.objs.size))∧s'={s with heap:=g,toks:=tk}∧(∀b o,s.heap.get? b=some o→g.get? b=some o)∧
 g.get? s.heap.objs.size=some (lsO ((beh (s.heap.objs.size+1) es.size).map Value.ref).toArray c)∧∀(j:Nat)(hj:j<es.size),g.get? (s.heap.objs.size+1+1+j)=some (duo es[j].key es[j].val)
theorem O0{r:Addr}{C:List Value→Shared→Prop}(zh:A.handled=none)(zv:s.heap.IsItemsView r d)(zm:RwD s.heap d es ep)(hn:es.size≤sizeLine)(h:∀(g:Heap) (tk:Nat),(∀b o,s.heap.get? b=some o→g.get? b=some o)→(∀(j:Nat) (hj:j<es.size),g.get? (s.heap.objs.size+1+1+j)=some (duo es[j].key es[j].val))→C ((beh (s.heap.objs.size+1) es.size).map Value.ref) {s with heap:=g,toks:=tk}):wpAny (model prog w) A (collect (.ref r)) C E s:=by
 have lr:r<s.heap.objs.size:=let ⟨_,e,_⟩:=zv;yM e
 unfold collect
 refine io (wpAny_runValue (Aq entry_proto_collect' ?_));rw[Ag PySem.F.plain_proto_collect _]
 refine io (m:=newList []) (Am (yB ⟨plainId_quiet PySem.F.plain_list_iadd _,Aq entry_list_iadd' ?_⟩));rw[Ag PySem.F.plain_list_iadd _]
 have own:(s.heap.push {cls:=.type "list",data:=.seq ([]:List Value).toArray}).get? s.heap.objs.size=some (lsO #[] 0):=yX _ rfl
 have sz:(s.heap.push {cls:=.type "list",data:=.seq ([]:List Value).toArray}).objs.size=s.heap.objs.size+1:=size_push' _ _
 have run:=fW (prog:=prog) (w:=w) (A:=A) (s:={s with heap:=s.heap.push {cls:=.type "list",data:=.seq ([]:List Value).toArray}}) (R:=ColI s es) (es:=es) (ep:=ep) (r:=r) zh (let ⟨o,e,x⟩:=zv;⟨o,yA _ e,x⟩) (zm.at fun o e=>yA _ e) (zY lr) (yW zm.lt) hn (.ref s.heap.objs.size) own
  (fun g tk c hk hS tp=>⟨g,tk,c,rfl,rfl,fun b o e=>hk b o (yW (yM e)) (yA _ e),by rw[←sz];exact hS,fun j hj=>by rw[←sz];exact tp j hj⟩)
 refine z5 run (fun fin s' y=>?_) (fun _ _ y=>by obtain⟨_,_,_,e,_⟩:=y;cases e)
 have last:∀{g:Heap}{tk c:Nat},(∀b o,s.heap.get? b=some o→g.get? b=some o)→g.get? s.heap.objs.size=some (lsO ((beh (s.heap.objs.size+1) es.size).map Value.ref).toArray c)→(∀(j:Nat)(hj:j<es.size),g.get? (s.heap.objs.size+1+1+j)=some (duo es[j].key es[j].val))→
   wpAny (model prog w) A (load s.heap.objs.size >>= fun u=>match u.data with
    | .seq xs _=>pure xs.toList
    | _=>unsupported "internal:collect") C E {s with heap:=g,toks:=tk}:=fun{g tk c} hk hS tp=>io (wpAny_load hS (yB (by rw[List.toList_toArray];exact h g tk hk tp)))
 cases fin with
 | done f=>
  obtain⟨g,tk,c,e,rfl,hk,hS,tp⟩:=y
  cases e
  exact last hk hS tp
 | again c1=>
  refine⟨y.1,codeAny_mono y.2 fun q s2 z=>?_⟩
  obtain⟨g,tk,c,rfl,rfl,hk,hS,tp⟩:=z
  exact last hk hS tp
end
def leP(a b:(Int×Int)×Int):Bool:=decide (a.1.1<b.1.1) || (decide (a.1.1=b.1.1) && (decide (a.1.2<b.1.2) || (decide (a.1.2=b.1.2) && decide (a.2≤b.2))))
theorem Se{a b:(Int×Int)×Int}:leP a b=true↔a.1.1<b.1.1∨(a.1.1=b.1.1∧(a.1.2<b.1.2∨(a.1.2=b.1.2∧a.2≤b.2))):=by
 unfold leP
 simp only[Bool.or_eq_true,Bool.and_eq_true,decide_eq_true_iff]
theorem m7(a b:(Int×Int)×Int):(leP a b || leP b a)=true:=by
 rw[Bool.or_eq_true,Se,Se]
 omega
theorem mh(a b c:(Int×Int)×Int)(h1:leP a b=true)(h2:leP b c=true):leP a c=true:=by
 rw[Se]at *
 omega
theorem gB{a b:(Int×Int)×Int}(h1:leP a b=true)(h2:leP b a=true):a=b:=by
 rw[Se]at h1 h2
 exact z6 (z6 (by omega) (by omega)) (by omega)
def aZ(ps:Sps):Sps:=ps.mergeSort leP
theorem Y8(ps:Sps):(aZ ps).Perm ps:=List.mergeSort_perm _ _
theorem Ql(ps:Sps):(aZ ps).Pairwise (fun a b=>leP a b=true):=List.pairwise_mergeSort mh m7 ps
theorem gn{α:Type}{le:α→α→Bool}(anti:∀{a b},le a b=true→le b a=true→a=b):∀{l m:List α},l.Perm m→l.Pairwise (fun a b=>le a b=true)→m.Pairwise (fun a b=>le a b=true)→l=m
 | [],m,p,_,_=>List.Perm.nil_eq p
 | a::l,[],p,_,_=>absurd p.length_eq (by simp)
 | a::l,b::m,p,h1,h2=>by
  have e:a=b:=by
   rcases yU.mp (p.mem_iff.mp zH)with q | q
   ·exact q
   ·rcases yU.mp (p.mem_iff.mpr zH)with r | r
    ·exact r.symm
    ·exact anti ((zR.mp h1).1 b r) ((zR.mp h2).1 a q)
  subst e
  rw[gn anti ((List.perm_cons a).mp p) (zR.mp h1).2 (zR.mp h2).2]
theorem i6{α:Type}(F:Addr→α→Prop)(fu:∀{a k l},F a k→F a l→k=l){le:α→α→Bool}(anti:∀{a b},le a b=true→le b a=true→a=b){as bs:List Addr}{ks srt:List α}(h:Paired F as ks)(p:bs.Perm as)(pw:bs.Pairwise fun a b=>∀k l,F a k→F b l→le k l=true)(sp:srt.Perm ks)(sw:srt.Pairwise fun a b=>le a b=true):Paired F bs srt:=by
 classical
 cases ks with
 | nil=>
  cases h
  rw[p.eq_nil,sp.eq_nil]
  exact .nil
 | cons k0 ks0=>
  let key:Addr→α:=fun a=>if h:∃k,F a k then Classical.choose h else k0
  have kat:∀{a k},F a k→key a=k:=fun{a k} f=>by
   have ex:∃k,F a k:=⟨k,f⟩
   show(if h:∃k,F a k then Classical.choose h else k0)=k
   rw[dif_pos ex]
   exact fu (Classical.choose_spec ex) f
  have all:∀{l:List Addr}{m:List α},Paired F l m→l.map key=m∧∀a∈l,F a (key a):=fun{l m} r=>by
   induction r with
   | nil=>exact⟨rfl,fun _ h=>nomatch h⟩
   | @cons b k l m e _ ih=>
    have kb:=kat e
    refine⟨by rw[yE,kb,ih.1],fun c hc=>?_⟩
    rcases yU.mp hc with z | hc
    ·rw[z,kb];exact e
    ·exact ih.2 c hc
  obtain⟨e1,e2⟩:=all h
  have atb:∀b∈bs,F b (key b):=fun b hb=>e2 b (p.mem_iff.mp hb)
  have back:∀{l:List Addr},(∀b∈l,F b (key b))→Paired F l (l.map key):=fun{l} hl=>by
   induction l with
   | nil=>exact .nil
   | cons b l ih=>exact .cons (hl b (.head _)) (ih fun c hc=>hl c (.tail _ hc))
  have eq:bs.map key=srt:=gn anti ((p.map key).trans (by rw[e1];exact sp.symm)) (Ae.mpr (pw.imp_of_mem fun{a b} ha hb q=>q _ _ (atb a ha) (atb b hb))) sw
  rw[←eq]
  exact back atb
def FT(H:Hp)(a:Addr)(p:(Int×Int)×Int):Prop:=∃b:Addr,H a=some (.tup [.ref b,.int p.2])∧H b=some (.tup [.int p.1.1,.int p.1.2])
theorem FT.fu{H:Hp}{a:Addr}{p q:(Int×Int)×Int}(h:FT H a p)(g:FT H a q):p=q:=by
 obtain⟨b,e1,e2⟩:=h
 obtain⟨c,f1,f2⟩:=g
 rw[e1]at f1
 injection f1 with f1
 injection f1 with f1
 injection f1 with g1 g2
 injection g1 with g1
 injection g2 with g2 _
 injection g2 with g2
 subst g1
 rw[e2]at f2
 injection f2 with f2
 injection f2 with f2
 injection f2 with k1 k2
 injection k1 with k1
 injection k2 with k2 _
 injection k2 with k2
 exact z6 (z6 k1 k2) g2
theorem Pg{H:Hp}{as:List Addr}{ps:Sps}(h:Paired (FT H) as ps):TPsAt H (as.map V.ref) (ae ps):=by
 induction h with
 | nil=>exact .nil
 | cons h r ih=>
  obtain⟨_,e1,e2⟩:=h
  exact .cons e1 e2 ih
theorem xm{p q:(Int×Int)×Int}(h:(bI (bI aC aC) aC).blt q p=false):leP p q=true:=by
 rw[Se]
 have h:cQ (bI aC aC) aC q p=false:=h
 by_cases c:p.1.1<q.1.1
 ·exact .inl c
 have no:∀{z:Bool},z=true→z=false→False:=fun a b=>by rw[a]at b;cases b
 have n1:¬q.1.1<p.1.1:=fun c=>no (Yj.mpr (.inl (Yj (O:=aC) (U:=aC).mpr (.inl (yG c))))) h
 have e1:p.1.1=q.1.1:=by omega
 refine .inr ⟨e1,?_⟩
 have n2:¬q.1.2<p.1.2:=fun c=>no (Yj.mpr (.inl (Yj (O:=aC) (U:=aC).mpr (.inr ⟨e1.symm,yG c⟩)))) h
 by_cases c2:p.1.2<q.1.2
 ·exact .inl c2
 have e2:p.1.2=q.1.2:=by omega
 refine .inr ⟨e2,?_⟩
 have n3:¬q.2<p.2:=fun c=>no (Yj.mpr (.inr ⟨z6 e1.symm e2.symm,yG c⟩)) h
 omega
section
variable{X:Cx}
def rM:List V→Hp→VK→Prop:=fun xs H Q=>∃(v d:Addr)(ps:Sps),xs=[.ref v]∧H v=some (bK v d)∧H d=some (.dT (ae ps))∧ps.length<1000∧
 ∀(H1:Hp)(as:List Addr),Same H H1→Paired (FT H1) as (aZ ps)→∀q,H1 q=none→H q=none→Q (.ref q) (upd H1 q (.lst (as.map V.ref)))
theorem q_{H:Hp}:∀{ps:Sps}{xs:List TKv}{j:Nat}{p:(Int×Int)×Int},KT H (ae ps) xs→ps[j]?=some p→∃x,xs[j]?=some x∧H x.2.1=some (.tup [.int p.1.1,.int p.1.2])∧∃t,x.2.2=.int p.2 t:=fun{ps xs j p} kt e=>by
 have e2:(ae ps)[j]?=some (kk p.1,.int p.2):=by unfold ae;rw[y9,e];rfl
 obtain⟨x,h1,h2,t,h3⟩:=fX kt e2
 exact⟨x,h1,h2,t,h3⟩
theorem Rf(hc:X.calm=true)(hu:X.A.units+64<cLine):bH X (.builtin "sorted") rM:=by
 intro AU s σ H xs us Q I rx h
 obtain⟨v,d,ps,rfl,hv,hd,h64,q⟩:=h
 obtain⟨u,rfl,ru⟩:=T8 rx
 cases ru
 obtain⟨_,lo,ks,es,ep,kt,raw,ek,ev,sz⟩:=jq I.hok (.inl hd)
 obtain⟨view,_⟩:=(show ObjOk X.prog X.w H s.heap v (bK v d)from I.hok v _ hv)
 rw[Y0]at sz
 have kl:ks.length=ps.length:=by rw[←yT kt,Y0]
 let n:=s.heap.objs.size
 let L:Hp:=fun b=>if n+2≤b then(match ks[b - (n+2)]?,ps[b - (n+2)]? with
  | some x,some p=>some (.tup [.ref x.2.1,.int p.2])
  | _,_=>none)else none
 have Lat:∀(j:Nat)(x:TKv)(p:(Int×Int)×Int),ks[j]?=some x→ps[j]?=some p→L (n+1+1+j)=some (.tup [.ref x.2.1,.int p.2]):=fun j x p h1 h2=>by
  show(if n+2≤n+1+1+j then _ else none)=_
  rw[yC (by omega),show n+1+1+j - (n+2)=j by omega,h1,h2]
 refine Oc (vq (prog:=X.prog) (w:=X.w)) (U0 (prog:=X.prog) (w:=X.w)) FTI (fun{AU σ H s a k} I h=>?_) (((0:Int),(0:Int)),(0:Int)) hu (fun{E C} hC=>O0 (A:=X.A.in1) (by simpa using I.ok.hd hc) view raw (Zn (by omega)) fun g tk kp tp=>?_)
 ·obtain⟨b,i,j,n,h,hb,rfl⟩:=h
  obtain⟨o,m,u,v,e1,e2,e3,ru,⟨t',rv⟩⟩:=Nd I h
  obtain⟨o2,m2,u2,v2,g1,g2,g3,⟨t2,ru2⟩,⟨t3,rv2⟩⟩:=Nd I hb
  exact⟨a,o,m,u,v,rfl,e1,e2,e3,⟨b,o2,m2,u2,v2,ru,g1,g2,g3,⟨t2,ru2⟩,⟨t3,rv2⟩⟩,⟨t',rv⟩⟩
 have ent:∀(j:Nat)(hj:j<es.size)(x:TKv),ks[j]?=some x→es[j].key=.ref x.2.1∧es[j].val=x.2.2:=fun j hj x hx=>by
  have q1:(es.toList.map DictEntry.key)[j]?=some es[j].key:=by rw[y9,yI,yH hj];rfl
  have q2:(es.toList.map DictEntry.val)[j]?=some es[j].val:=by rw[y9,yI,yH hj];rfl
  rw[ek,y9,y9,hx]at q1
  rw[ev,y9,hx]at q2
  exact⟨(zt q1).symm,(zt q2).symm⟩
 have nw:∀b o,n≤b→L b=some o→ObjOk X.prog X.w (over H n L) g b o:=fun b o hb e=>by
  have e:(if n+2≤b then(match ks[b - (n+2)]?,ps[b - (n+2)]? with
   | some x,some p=>some (HO.tup [.ref x.2.1,.int p.2])
   | _,_=>none)else none)=some o:=e
  by_cases hb2:n+2≤b
  ·rw[yC hb2]at e
   have hj:b - (n+2)<ps.length:=by
    by_cases z:b - (n+2)<ps.length
    ·exact z
    ·rw[List.getElem?_eq_none (Nat.not_lt.mp z)]at e
     cases z2:ks[b - (n+2)]? <;> rw[z2]at e <;> cases e
   have hp:ps[b - (n+2)]?=some ps[b - (n+2)]:=zK hj
   obtain⟨x,hx,_,t,hv⟩:=q_ kt hp
   rw[hx,hp]at e
   cases e
   have hje:b - (n+2)<es.size:=by omega
   obtain⟨k1,k2⟩:=ent _ hje x hx
   have tb:=tp _ hje
   rw[k1,k2,hv,show s.heap.objs.size+1+1+(b - (n+2))=b by show n+1+1+(b - (n+2))=b;omega]at tb
   exact⟨Zn (leN rfl),[.ref x.2.1,.int _ t],.cons rfl (.cons ⟨t,rfl⟩ .nil),⟨_,tb,⟨rfl,rfl⟩,_,rfl⟩⟩
  ·rw[yy hb2]at e
   cases e
 obtain⟨I',sm⟩:=I.over (t':=tk) kp nw
 have pr:Paired (FT (over H n L)) (beh (n+1) es.size) ps:=by
  have go:∀(l:Sps)(m:Nat),(∀j p,l[j]?=some p→ps[m+j]?=some p)→m+l.length=ps.length→Paired (FT (over H n L)) ((List.range l.length).map fun j=>n+1+1+(m+j)) l:=fun l=>by
   induction l with
   | nil=>intro m _ _;exact .nil
   | cons p l ih=>
    intro m hl hm
    have e0:=hl 0 p rfl
    obtain⟨x,hx,hb,_⟩:=q_ kt e0
    have q:=ih (m+1) (fun j p e=>by have:=hl (j+1) p (by simpa using e);rwa [show m+(j+1)=m+1+j by omega]at this) (by rw[List.length_cons]at hm;omega)
    rw[zd,List.range_succ_eq_map,yE,zf]
    refine .cons ⟨x.2.1,?_,sm _ _ hb⟩ ?_
    ·rw[iC (by omega)]
     exact Lat (m+0) x p hx e0
    ·have ef:((fun j=>n+1+1+(m+j))∘Nat.succ)=fun j=>n+1+1+(m+1+j):=by
      funext j
      show n+1+1+(m+(j+1))=_
      omega
     rw[ef]
     exact q
  have:=go ps 0 (fun j p e=>by rwa [AK]) (by omega)
  rw[sz]
  unfold beh
  simpa using this
 refine hC g tk (over H n L) (beh (n+1) es.size) I' (by rw[lg];omega) (fun a ha=>?_) fun bs bp pw q0 nq=>?_
 ·have:∀{l:List Addr}{m:Sps},Paired (FT (over H n L)) l m→a∈l→∃k,FTI (over H n L) a k:=fun{l m} r=>by
   induction r with
   | nil=>intro h;exact nomatch h
   | cons e _ ih=>
    intro h
    rcases yU.mp h with z | h
    ·obtain⟨b,e1,e2⟩:=e
     rw[z]
     exact⟨_,b,_,_,_,e1,e2,rfl⟩
    ·exact ih h
  exact this pr ha
 ·refine q (over H n L) bs sm (i6 (FT (over H n L)) (fun f g=>f.fu g) (fun a b=>gB a b) pr bp (pw.imp fun{a b} h k l fk fl=>?_) (Y8 ps) (Ql ps)) q0 nq ?_
  ·obtain⟨b1,e1,e2⟩:=fk
   obtain⟨b2,f1,f2⟩:=fl
   exact xm (h k l ⟨b1,_,_,_,e1,e2,rfl⟩ ⟨b2,_,_,_,f1,f2,rfl⟩)
  ·by_cases z:H q0=none
   ·exact z
   ·obtain⟨u,hu⟩:=Option.ne_none_iff_exists'.mp z
    rw[sm _ _ hu]at nq
    cases nq
end
section
variable{P:Program}{w:World}{A:Around}{E:Value→Shared→Prop}{s:Shared}{a b:Addr}{es:Array DictEntry}{ep e2:Nat}
end
theorem rG{X:Cx}(hu:X.A.units+64<cLine):OpR X (compareOp .In) (fun x y H Q=>∃(a:Addr)(o:Option V),y=.ref a∧DGet H a x o∧Q (.bl o.isSome) H):=by
 intro AU s σ H x y v u Q I rx ry h
 obtain⟨a,o,rfl,g,q⟩:=h
 cases ry
 exact d_in (by omega) I g rx fun s' I'=>⟨.bl _,H,I',rfl,q⟩
end L2
namespace L2
open PySem
def vh(X:Cx)(ss:List Stmt):TS:=fun D σ H=>∃t:TS,PSs X ss t∧t D σ H
theorem Zd{X:Cx}{ss:List Stmt}:PSs X ss (vh X ss):=fun AU s σ H D I ⟨_,h,q⟩=>h AU s σ H D I q
section
variable{K:W.Frag}{a:Addr}{xs:List V}{g:TG}{tb:TS}{D:Ends}{σ:St}{H:Hp}
theorem Xw(Pv:Nat→St→Hp→Prop)(h0:Pv 0 σ H)(hl:∀i σ H,i≤xs.length→Pv i σ H→SqL K H a xs)(hs:∀i x σ H (N B:St→Hp→Prop) (R:VK),(∀σ' H',Pv (i+1) σ' H'→N σ' H')→(∀v H',D.rt v H'→R v H')→xs[i]?=some x→Pv i σ H→g x σ H fun σ2 H2=>tb {nx:=N,rt:=R,bk:=B,ct:=N} σ2 H2)(hd:∀σ H,Pv xs.length σ H→D.nx σ H):
  ∃W:Nat→Nat→St→Hp→Prop,(∃m,W 0 m σ H)∧∀i m σ H,W i m σ H→
   ((Itl K a).stop i H∧D.nx σ H)∨((Itl K a).go i H∧∃N:St→Hp→Prop,(∀σ' H',N σ' H'→∃m',m'<m∧W (i+1) m' σ' H')∧∀x H',(Itl K a).yld i H x H'→g x σ H' fun σ2 H2=>tb {D with nx:=N,ct:=N,bk:=D.nx} σ2 H2):=
 iR Pv h0 hl (fun i x σ H hx p=>hs i x σ H _ _ _ (fun _ _ q=>q) (fun _ _ q=>q) hx p) hd
theorem Pk(Pv:Nat→St→Hp→Prop)(h0:Pv 0 σ H)(hl:∀i σ H,i≤xs.length→Pv i σ H→SqT K H a xs)(hs:∀i x σ H (N B:St→Hp→Prop) (R:VK),(∀σ' H',Pv (i+1) σ' H'→N σ' H')→(∀v H',D.rt v H'→R v H')→xs[i]?=some x→Pv i σ H→g x σ H fun σ2 H2=>tb {nx:=N,rt:=R,bk:=B,ct:=N} σ2 H2)(hd:∀σ H,Pv xs.length σ H→D.nx σ H):
  ∃W:Nat→Nat→St→Hp→Prop,(∃m,W 0 m σ H)∧∀i m σ H,W i m σ H→
   ((Itt K a).stop i H∧D.nx σ H)∨((Itt K a).go i H∧∃N:St→Hp→Prop,(∀σ' H',N σ' H'→∃m',m'<m∧W (i+1) m' σ' H')∧∀x H',(Itt K a).yld i H x H'→g x σ H' fun σ2 H2=>tb {D with nx:=N,ct:=N,bk:=D.nx} σ2 H2):=
 rT Pv h0 hl (fun i x σ H hx p=>hs i x σ H _ _ _ (fun _ _ q=>q) (fun _ _ q=>q) hx p) hd
theorem Wp{lo:Int}{n:Nat}(Pv:Nat→St→Hp→Prop)(h0:Pv 0 σ H)(hs:∀i σ H (N B:St→Hp→Prop) (R:VK),(∀σ' H',Pv (i+1) σ' H'→N σ' H')→(∀v H',D.rt v H'→R v H')→i<n→Pv i σ H→g (.int (lo+i)) σ H fun σ2 H2=>tb {nx:=N,rt:=R,bk:=B,ct:=N} σ2 H2)(hd:∀σ H,Pv n σ H→D.nx σ H):
  ∃W:Nat→Nat→St→Hp→Prop,(∃m,W 0 m σ H)∧∀i m σ H,W i m σ H→
   ((Itr lo n).stop i H∧D.nx σ H)∨((Itr lo n).go i H∧∃N:St→Hp→Prop,(∀σ' H',N σ' H'→∃m',m'<m∧W (i+1) m' σ' H')∧∀x H',(Itr lo n).yld i H x H'→g x σ H' fun σ2 H2=>tb {D with nx:=N,ct:=N,bk:=D.nx} σ2 H2):=
 mK Pv h0 (fun i σ H hi p=>hs i σ H _ _ _ (fun _ _ q=>q) (fun _ _ q=>q) hi p) hd
end
theorem Xg{α:Type}{n:Nat}{P:List α→Prop}(h:∀a r,r.length=n→P (a::r)):∀us:List α,us.length=n+1→P us:=fun us e=>by
 cases us with
 | nil=>cases e
 | cons a r=>exact h a r (Nat.succ.inj e)
theorem Ry{α:Type}{P:List α→Prop}(h:P []):∀us:List α,us.length=0→P us:=fun us e=>by
 cases us with
 | nil=>exact h
 | cons a r=>cases e
theorem Fun.b1{K:W.Frag}{x qual:Str}{st:Stmt}{f:Addr}{fd:FuncData}{p0:Str}(F:Fun K x qual st f fd)(h:∀(kV doc pm:Value) (an:Option Addr) (cdv ct u0:Value),bindArgs (W.fnOf x qual (aD st) (ay st) (aa st) .none kV doc pm an cdv ct) ⟨[u0],[]⟩=pure [(p0,u0)]):Binds K fd [p0] []:=F.binds fun kV doc pm an cdv ct=>Xg fun u0=>Ry (h kV doc pm an cdv ct u0)
theorem Fun.b2{K:W.Frag}{x qual:Str}{st:Stmt}{f:Addr}{fd:FuncData}{p0 p1:Str}(F:Fun K x qual st f fd)(h:∀(kV doc pm:Value) (an:Option Addr) (cdv ct u0 u1:Value),bindArgs (W.fnOf x qual (aD st) (ay st) (aa st) .none kV doc pm an cdv ct) ⟨[u0,u1],[]⟩=pure [(p0,u0),(p1,u1)]):Binds K fd [p0,p1] []:=F.binds fun kV doc pm an cdv ct=>Xg fun u0=>Xg fun u1=>Ry (h kV doc pm an cdv ct u0 u1)
theorem Fun.b3{K:W.Frag}{x qual:Str}{st:Stmt}{f:Addr}{fd:FuncData}{p0 p1 p2:Str}(F:Fun K x qual st f fd)(h:∀(kV doc pm:Value) (an:Option Addr) (cdv ct u0 u1 u2:Value),bindArgs (W.fnOf x qual (aD st) (ay st) (aa st) .none kV doc pm an cdv ct) ⟨[u0,u1,u2],[]⟩=pure [(p0,u0),(p1,u1),(p2,u2)]):Binds K fd [p0,p1,p2] []:=F.binds fun kV doc pm an cdv ct=>Xg fun u0=>Xg fun u1=>Xg fun u2=>Ry (h kV doc pm an cdv ct u0 u1 u2)
theorem Fun.b4{K:W.Frag}{x qual:Str}{st:Stmt}{f:Addr}{fd:FuncData}{p0 p1 p2 p3:Str}(F:Fun K x qual st f fd)(h:∀(kV doc pm:Value) (an:Option Addr) (cdv ct u0 u1 u2 u3:Value),bindArgs (W.fnOf x qual (aD st) (ay st) (aa st) .none kV doc pm an cdv ct) ⟨[u0,u1,u2,u3],[]⟩=pure [(p0,u0),(p1,u1),(p2,u2),(p3,u3)]):Binds K fd [p0,p1,p2,p3] []:=F.binds fun kV doc pm an cdv ct=>Xg fun u0=>Xg fun u1=>Xg fun u2=>Xg fun u3=>Ry (h kV doc pm an cdv ct u0 u1 u2 u3)
end L2
namespace Ld
open PySem L2
def ad(k:Int×Int):Int×Int:=(k.1+1,k.2 / 2)
def au(ps:Sps)(k:Int×Int):Option V:=bi (ae ps) (kk k)
theorem Sd:∀(ps:Sps)(k:Int×Int),au ps k=none∨∃n,au ps k=some (.int n)
 | [],k=>.inl rfl
 | p::ps,k=>by
  unfold au ae
  rw[yE]
  by_cases e:kk p.1=kk k
  ·rw[Yq e]
   exact .inr ⟨_,rfl⟩
  ·rw[Yb e]
   exact Sd ps k
def ao(ps:Sps)(k:Int×Int)(n:Int):Sps:=if (ps.any fun p=>decide (p.1=k))=true then ps.map (fun p=>if p.1=k then(p.1,n)else p)else ps++[(k,n)]
def aR(ps:Sps)(k:Int×Int):Sps:=ps.filter fun p=>decide (p.1≠k)
theorem Pb{p q:Int×Int}:kk p=kk q↔p=q:=⟨V1,fun e=>by rw[e]⟩
theorem Tj(ps:Sps)(k:Int×Int)(n:Int):aK (ae ps) (kk k) (.int n)=ae (ao ps k n):=by
 have ea:((ae ps).any fun kv=>decide (kv.1=kk k))=ps.any fun p=>decide (p.1=k):=by
  unfold ae
  rw[List.any_map]
  congr 1
  funext p
  exact decide_eq_decide.mpr Pb
 unfold aK ao
 rw[ea]
 split
 ·unfold ae
  rw[zf,zf]
  congr 1
  funext p
  show(if kk p.1=kk k then(kk p.1,V.int n) else(kk p.1,V.int p.2))=_
  by_cases e:p.1=k
  ·rw[yC (Pb.mpr e)]
   show _=(kk (if p.1=k then(p.1,n)else p).1,V.int (if p.1=k then(p.1,n)else p).2)
   rw[yC e]
  ·rw[yy (fun z=>e (V1 z))]
   show _=(kk (if p.1=k then(p.1,n)else p).1,V.int (if p.1=k then(p.1,n)else p).2)
   rw[yy e]
 ·unfold ae
  rw[yV]
  rfl
theorem lj(ps:Sps)(k:Int×Int):ce (ae ps) (kk k)=ae (aR ps k):=by
 unfold ce aR ae
 rw[List.filter_map]
 congr 1
 refine List.filter_congr fun p _=>?_
 exact decide_eq_decide.mpr (not_congr Pb)
theorem Qa{ps:Sps}{k:Int×Int}:(ps.any fun p=>decide (p.1=k))=true↔k∈ps.map (·.1):=by
 rw[List.any_eq_true,yD]
 exact⟨fun⟨p,h,e⟩=>⟨p,h,yO e⟩,fun⟨p,h,e⟩=>⟨p,h,yG e⟩⟩
theorem Wg(ps:Sps)(k:Int×Int)(n:Int):(ao ps k n).map (·.1)=if k∈ps.map (·.1)then ps.map (·.1)else ps.map (·.1)++[k]:=by
 unfold ao
 by_cases h:k∈ps.map (·.1)
 ·rw[yC (Qa.mpr h),yC h,zf]
  congr 1
  funext p
  show(if p.1=k then(p.1,n)else p).1=p.1
  split <;> rfl
 ·rw[yy (fun z=>h (Qa.mp z)),yy h,yV]
  rfl
theorem Uv(ps:Sps)(k:Int×Int):(aR ps k).map (·.1)=(ps.map (·.1)).filter fun x=>decide (x≠k):=by
 unfold aR
 rw[List.filter_map]
 rfl
theorem W6(ps:Sps)(k:Int×Int)(n:Int):(ao ps k n).length≤ps.length+1:=by
 unfold ao
 split
 ·rw[pi];omega
 ·rw[yJ];exact yF _
theorem qm(ps:Sps)(k:Int×Int):(aR ps k).length≤ps.length:=zX _ _
theorem X8(ps:Sps)(k j:Int×Int)(n:Int):au (ao ps k n) j=if j=k then some (.int n)else au ps j:=by
 unfold au
 rw[←Tj,qo]
 by_cases e:j=k
 ·rw[yC (Pb.mpr e),yC e]
 ·rw[yy (fun z=>e (V1 z)),yy e]
theorem Yz(p:(Int×Int)×Int)(ps:Sps)(j:Int×Int):au (p::ps) j=if p.1=j then some (.int p.2)else au ps j:=by
 unfold au ae
 rw[yE]
 by_cases e:p.1=j
 ·rw[yC e,Yq (by show kk p.1=kk j;rw[e])]
 ·rw[yy e,Yb (fun z=>e (V1 z))]
theorem Vf:∀(ps:Sps)(k j:Int×Int),au (aR ps k) j=if j=k then none else au ps j
 | [],k,j=>by
  show none=if j=k then none else none
  split <;> rfl
 | p::ps,k,j=>by
  have ih:=Vf ps k j
  unfold aR at ih⊢
  by_cases e:p.1=k
  ·rw[List.filter_cons,if_neg (by simpa using e),ih,Yz]
   by_cases z:j=k
   ·rw[yC z,yC z]
   ·rw[yy z,yy z,yy (fun q=>z (by rw[←q,e]))]
  ·rw[zD,yC (yG e),Yz,ih,Yz]
   by_cases z:j=k
   ·rw[yC z,yC z,yy (fun q=>e (by rw[q,z]))]
   ·rw[yy z,yy z]
theorem V0(k:Int×Int):k≠ad k:=fun e=>by
 have:k.1=k.1+1:=Ad (·.1) e
 omega
theorem Wn{ps:Sps}{k:Int×Int}:(au ps k).isSome=true↔k∈ps.map (·.1):=by
 unfold au
 rw[←V2,←Qa]
 have ea:((ae ps).any fun kv=>decide (kv.1=kk k))=ps.any fun p=>decide (p.1=k):=by
  unfold ae
  rw[List.any_map]
  congr 1
  funext p
  exact decide_eq_decide.mpr Pb
 rw[ea]
theorem mq{ps:Sps}{k:Int×Int}(h:(au ps k).isSome=true):∃m,au ps k=some (.int m):=by
 rcases Sd ps k with z | z
 ·rw[z]at h;cases h
 ·exact z
def cnt(ps:Sps)(k:Int×Int):Int:=match au ps k with
 | some (.int n)=>n
 | _=>0
theorem Vw:∀{ps:Sps}{p:(Int×Int)×Int},(ps.map (·.1)).Nodup→p∈ps→au ps p.1=some (.int p.2)
 | q::ps,p,nd,h=>by
  rw[yE,zl]at nd
  rw[Yz]
  rcases yU.mp h with e | h
  ·rw[e,yC rfl]
  ·rw[yy (fun z=>nd.1 (by rw[z];exact yD.mpr ⟨p,h,rfl⟩))]
   exact Vw nd.2 h
theorem iS{ps:Sps}{k:Int×Int}(h:k∈ps.map (·.1)):au ps k=some (.int (cnt ps k)):=by
 obtain⟨m,e⟩:=mq (Wn.mpr h)
 unfold cnt
 rw[e]
theorem Ur{ps:Sps}{k:Int×Int}(h:k∉ps.map (·.1)):au ps k=none:=by
 rcases Sd ps k with z | ⟨n,z⟩
 ·exact z
 ·exact absurd (Wn.mp (by rw[z];rfl)) h
theorem X1{ps:Sps}{p:(Int×Int)×Int}(nd:(ps.map (·.1)).Nodup)(h:p∈ps):cnt ps p.1=p.2:=by
 unfold cnt
 rw[Vw nd h]
theorem Y1{ps:Sps}{k:Int×Int}(h:k∉ps.map (·.1)):cnt ps k=0:=by
 unfold cnt
 rw[Ur h]
theorem Xi(ps:Sps)(k:Int×Int):(au ps k).getD (.int 0)=.int (cnt ps k):=by
 unfold cnt
 rcases Sd ps k with z | ⟨n,z⟩ <;> rw[z] <;> rfl
theorem R7{ps qs:Sps}{j k:Int×Int}(h:au ps j=au qs k):cnt ps j=cnt qs k:=by
 unfold cnt
 rw[h]
theorem X0(ps:Sps)(k j:Int×Int)(n:Int):cnt (ao ps k n) j=if j=k then n else cnt ps j:=by
 unfold cnt
 rw[X8]
 by_cases e:j=k
 ·rw[yC e,yC e]
 ·rw[yy e,yy e]
theorem Pq(ps:Sps)(k j:Int×Int):cnt (aR ps k) j=if j=k then 0 else cnt ps j:=by
 unfold cnt
 rw[Vf]
 by_cases e:j=k
 ·rw[yC e,yC e]
 ·rw[yy e,yy e]
theorem P5{ps:Sps}{p:(Int×Int)×Int}(nd:(ps.map (·.1)).Nodup):p∈ps↔au ps p.1=some (.int p.2):=by
 refine⟨Vw nd,fun h=>?_⟩
 have hk:p.1∈ps.map (·.1):=Wn.mp (by rw[h];rfl)
 obtain⟨q,hq,e⟩:=yD.mp hk
 have hq2:=Vw nd hq
 rw[e,h]at hq2
 injection hq2 with hq2
 injection hq2 with hq2
 have:q=p:=z6 e hq2.symm
 rw[←this]
 exact hq
theorem Uc{α β:Type}{f:α→β}{l:List α}(h:(l.map f).Nodup):l.Nodup:=(Ae.mp h).imp fun h e=>h (by rw[e])
theorem Rt{α:Type}[DecidableEq α]:∀{l m:List α},l.Nodup→m.Nodup→(∀a,a∈l↔a∈m)→l.Perm m
 | [],m,_,_,h=>by
  cases m with
  | nil=>exact .refl _
  | cons b m=>exact absurd ((h b).mpr (.head _)) zE
 | a::l,m,nl,nm,h=>by
  rw[zl]at nl
  have ha:=(h a).mp (.head _)
  refine .trans (List.Perm.cons a (Rt nl.2 (nm.erase a) fun b=>?_)) (List.perm_cons_erase ha).symm
  rw[nm.mem_erase_iff]
  refine⟨fun hb=>⟨fun e=>nl.1 (by rw[←e];exact hb),(h b).mp (.tail _ hb)⟩,fun⟨ne,hb⟩=>((yU.mp ((h b).mpr hb)).resolve_left ne)⟩
theorem Sy{ps qs:Sps}(np:(ps.map (·.1)).Nodup)(nq:(qs.map (·.1)).Nodup)(h:∀k,au ps k=au qs k):ps.Perm qs:=
 Rt (Uc np) (Uc nq) fun p=>by rw[P5 np,P5 nq,h]
theorem Wd{ps qs:Sps}(h:ps.Perm qs)(np:(ps.map (·.1)).Nodup)(k:Int×Int):au ps k=au qs k:=by
 have nq:(qs.map (·.1)).Nodup:=(h.map _).nodup_iff.mp np
 by_cases hk:k∈ps.map (·.1)
 ·obtain⟨p,hp,rfl⟩:=yD.mp hk
  rw[Vw np hp,Vw nq (h.mem_iff.mp hp)]
 ·rw[Ur hk,Ur fun z=>hk ((h.map _).mem_iff.mpr z)]
def ag(ps:Sps):Int:=(ps.map (·.2)).sum
theorem Qj:∀{ps:Sps}{k:Int×Int},(ps.map (·.1)).Nodup→ag (aR ps k)=ag ps - cnt ps k
 | [],k,_=>by
  show(0:Int)=0 - cnt [] k
  rfl
 | p::ps,k,nd=>by
  rw[yE,zl]at nd
  have ih:=Qj (k:=k) nd.2
  unfold ag aR at ih⊢
  by_cases e:p.1=k
  ·have o:cnt ps k=0:=Y1 (by rw[←e];exact nd.1)
   have c:cnt (p::ps) k=p.2:=by unfold cnt;rw[Yz,yC e]
   rw[List.filter_cons,if_neg (by simpa using e),ih,o,c,List.map_cons,List.sum_cons]
   omega
  ·have c:cnt (p::ps) k=cnt ps k:=by unfold cnt;rw[Yz,yy e]
   rw[zD,yC (yG e),yE,yZ,ih,c,yE,yZ]
   omega
theorem Ym{ps:Sps}{k:Int×Int}{n:Int}(nd:(ps.map (·.1)).Nodup):((ao ps k n).map (·.1)).Nodup:=by
 rw[Wg]
 split
 ·exact nd
 ·rename_i h
  exact List.nodup_append.mpr ⟨nd,zl.mpr ⟨zE,zV⟩,fun x hx y hy e=>h (by rw[yN.mp hy]at e;rw[←e];exact hx)⟩
theorem Uu{ps:Sps}{k:Int×Int}(nd:(ps.map (·.1)).Nodup):((aR ps k).map (·.1)).Nodup:=by
 rw[Uv]
 exact nd.filter _
theorem U3{ps qs:Sps}(h:ps.Perm qs):ag ps=ag qs:=U8 (h.map _)
theorem Ni{ps:Sps}{k:Int×Int}{n:Int}(nd:(ps.map (·.1)).Nodup):ag (ao ps k n)=ag ps - cnt ps k+n:=by
 have h:(ao ps k n).Perm ((k,n)::aR ps k):=by
  have hk:k∉(aR ps k).map (·.1):=by
   rw[Uv]
   intro z
   have:=(zu.mp z).2
   simp at this
  refine Sy (Ym nd) (by rw[yE];exact zl.mpr ⟨hk,Uu nd⟩) fun j=>?_
  rw[X8,Yz,Vf]
  by_cases e:j=k
  ·rw[yC e,yC e.symm]
  ·rw[yy e,yy (Ne.symm e),yy e]
 rw[U3 h]
 have:=Qj (k:=k) nd
 unfold ag at this⊢
 rw[yE,yZ,this]
 omega
end Ld
namespace Ld
open PySem L2
def b_(ps:Sps)(k:Int×Int)(m n:Int):Sps:=aR (ao (ao ps (ad k) n) k (m - m)) k
theorem my{ps:Sps}{k:Int×Int}{m n:Int}(hk:k∈ps.map (·.1)):(b_ ps k m n).map (·.1)=if ad k∈ps.map (·.1) then(ps.map (·.1)).filter (fun x=>decide (x≠k)) else(ps.map (·.1)).filter (fun x=>decide (x≠k))++[ad k]:=by
 unfold b_
 have k2:k∈(ao ps (ad k) n).map (·.1):=by
  rw[Wg]
  split
  ·exact hk
  ·exact zw _ hk
 rw[Uv,Wg,yC k2,Wg]
 split
 ·rfl
 ·rw[AH,zD,yC (yG (Ne.symm (V0 k)))]
  rfl
def mea(or:Int)(ks:List (Int×Int)):Nat:=(ks.map fun k=>(or+1 - k.1).toNat).sum
theorem P7{or:Int}{k:Int×Int}:∀{ks:List (Int×Int)},ks.Nodup→k∈ks→mea or (ks.filter fun x=>decide (x≠k))+(or+1 - k.1).toNat=mea or ks
 | [],_,h=>nomatch h
 | x::ks,nd,h=>by
  rw[zl]at nd
  by_cases e:x=k
  ·subst e
   have o:ks.filter (fun y=>decide (y≠x))=ks:=AA.mpr fun y hy=>yG fun z=>nd.1 (by rw[←z];exact hy)
   rw[List.filter_cons,if_neg (by simp),o]
   unfold mea
   rw[yE,yZ]
   omega
  ·have hk:k∈ks:=(yU.mp h).resolve_left (Ne.symm e)
   have ih:=P7 (or:=or) nd.2 hk
   rw[zD,yC (yG e)]
   unfold mea at ih⊢
   rw[yE,yZ,yE,yZ]
   omega
theorem oN{or:Int}(h:or≤20):∀{ks:List (Int×Int)},(∀k∈ks,0≤k.1)→mea or ks≤21 * ks.length
 | [],_=>AQ _
 | k::ks,hk=>by
  have ih:=oN h fun x hx=>hk x (.tail _ hx)
  have h0:=hk k (.head _)
  unfold mea at ih⊢
  rw[yE,yZ,zd]
  omega
structure Kok(or:Int)(ks:List (Int×Int)):Prop where
 nd:ks.Nodup
 st:∀k∈ks,0≤k.1∧k.1≤or∧0≤k.2∧k.2<2 ^ (or - k.1).toNat
theorem Kok.perm{or:Int}{ks ls:List (Int×Int)}(h:Kok or ks)(p:ls.Perm ks):Kok or ls:=⟨p.nodup_iff.mpr h.nd,fun k hk=>h.st k (p.mem_iff.mp hk)⟩
theorem W9{m:Int}(h:m≤10):(1:Int)≤2 ^ m.toNat∧(2:Int) ^ m.toNat≤1024:=by
 have a1:(2:Nat) ^ m.toNat≤2 ^ 10:=Nat.pow_le_pow_right (by decide) (by omega)
 have a2:0<(2:Nat) ^ m.toNat:=Nat.pow_pos (by decide)
 have a3:((2 ^ m.toNat:Nat):Int)=(2:Int) ^ m.toNat:=by push_cast;rfl
 have a4:(2:Nat) ^ 10=1024:=by decide
 rw[←a3]
 omega
theorem p6{h or i:Int}(hd:h<or)(i1:i<2 ^ (or - h).toNat):i / 2<2 ^ (or - (h+1)).toNat:=by
 have e:(or - h).toNat=(or - (h+1)).toNat+1:=by omega
 rw[e,Int.pow_succ]at i1
 omega
theorem wb{or:Int}{k:Int×Int}(hd:k.1<or)(s:0≤k.1∧k.1≤or∧0≤k.2∧k.2<2 ^ (or - k.1).toNat):0≤(ad k).1∧(ad k).1≤or∧0≤(ad k).2∧(ad k).2<2 ^ (or - (ad k).1).toNat:=by
 have:=p6 hd s.2.2.2
 show 0≤k.1+1∧k.1+1≤or∧0≤k.2 / 2∧k.2 / 2<2 ^ (or - (k.1+1)).toNat
 exact⟨by omega,by omega,by omega,this⟩
theorem si{or:Int}{ps:Sps}{k:Int×Int}{m n:Int}(h:Kok or (ps.map (·.1)))(hk:k∈ps.map (·.1))(hd:k.1<or):Kok or ((b_ ps k m n).map (·.1))∧mea or ((b_ ps k m n).map (·.1))<mea or (ps.map (·.1))∧(b_ ps k m n).length≤ps.length:=by
 rw[←pi (f:=(·.1)),←pi (as:=ps) (f:=(·.1)),my hk]
 have mf:=P7 (or:=or) h.nd hk
 have sk:=h.st k hk
 have lf:((ps.map (·.1)).filter fun x=>decide (x≠k)).length<(ps.map (·.1)).length:=by
  refine Nat.lt_of_le_of_ne (zX _ _) fun e=>?_
  have:=List.length_filter_eq_length_iff.mp e k hk
  simp at this
 have ndf:((ps.map (·.1)).filter fun x=>decide (x≠k)).Nodup:=h.nd.filter _
 have stf:∀x∈(ps.map (·.1)).filter fun x=>decide (x≠k),0≤x.1∧x.1≤or∧0≤x.2∧x.2<2 ^ (or - x.1).toNat:=fun x hx=>h.st x (zu.mp hx).1
 split
 ·exact⟨⟨ndf,stf⟩,by omega,by omega⟩
 ·rename_i np
  refine⟨⟨?_,fun x hx=>?_⟩,?_,by rw[yJ];exact lf⟩
  ·refine List.nodup_append.mpr ⟨ndf,zl.mpr ⟨zE,zV⟩,fun x hx y hy e=>?_⟩
   rw[yN.mp hy]at e
   exact np (by rw[←e];exact(zu.mp hx).1)
  ·rcases yY.mp hx with hx | hx
   ·exact stf x hx
   ·rw[yN.mp hx]
    exact wb hd sk
  ·have e1:mea or ((ps.map (·.1)).filter (fun x=>decide (x≠k))++[ad k])=mea or ((ps.map (·.1)).filter fun x=>decide (x≠k))+(or+1 - (k.1+1)).toNat:=by
    unfold mea
    rw[yV,AD]
    rfl
   rw[e1]
   omega
def loK(h j:Int):Int×Int:=(h,2 * j)
def hiK(h j:Int):Int×Int:=(h,2 * j+1)
def upK(h j:Int):Int×Int:=(h+1,j)
def jn(ps:Sps)(h j:Int):Int:=cnt ps (loK h j)+cnt ps (hiK h j)+cnt ps (upK h j)
theorem Vs(h j:Int):ad (loK h j)=upK h j:=z6 rfl (show 2 * j / 2=j by omega)
theorem Qy(h j:Int):ad (hiK h j)=upK h j:=z6 rfl (show(2 * j+1) / 2=j by omega)
theorem j7(h j:Int):loK h j≠hiK h j:=fun e=>by
 have:2 * j=2 * j+1:=Ad (·.2) e
 omega
theorem ur(h j:Int):loK h j≠upK h j:=fun e=>by
 have:h=h+1:=Ad (·.1) e
 omega
theorem j6(h j:Int):hiK h j≠upK h j:=fun e=>by
 have:h=h+1:=Ad (·.1) e
 omega
theorem Q6(k:Int×Int):k=loK k.1 (k.2 / 2)∨k=hiK k.1 (k.2 / 2):=by
 rcases Int.emod_two_eq k.2 with e | e
 ·exact .inl (z6 rfl (show k.2=2 * (k.2 / 2) by omega))
 ·exact .inr (z6 rfl (show k.2=2 * (k.2 / 2)+1 by omega))
def eO(ps:Sps)(k:Int×Int):Sps:=b_ ps k (cnt ps k) (cnt ps (ad k)+cnt ps k)
def aI(ps:Sps)(k:Int×Int):Sps:=if k∈ps.map (·.1)then eO ps k else ps
def aV(ps:Sps)(k:Int×Int):Sps:=if k∈ps.map (·.1) then[(k,cnt ps k)] else[]
def aS(ps:Sps)(h j:Int):Sps:=aI (aI ps (loK h j)) (hiK h j)
def flP(ps:Sps)(h j:Int):Sps:=aV ps (loK h j)++aV ps (hiK h j)
theorem P8(ps:Sps)(k x:Int×Int):au (eO ps k) x=if x=k then none else if x=ad k then some (.int (cnt ps (ad k)+cnt ps k))else au ps x:=by
 unfold eO b_
 rw[Vf,X8,X8]
 by_cases e:x=k
 ·rw[yC e,yC e]
 ·rw[yy e,yy e,yy e]
theorem mV(ps:Sps)(k x:Int×Int):cnt (eO ps k) x=if x=k then 0 else if x=ad k then cnt ps (ad k)+cnt ps k else cnt ps x:=by
 unfold cnt
 rw[P8]
 by_cases e:x=k
 ·rw[yC e,yC e]
 ·rw[yy e,yy e]
  by_cases z:x=ad k
  ·rw[yC z,yC z]
   rfl
  ·rw[yy z,yy z]
theorem Tn(ps:Sps)(k x:Int×Int):au (aI ps k) x=if x=k then none else if x=ad k∧k∈ps.map (·.1)then some (.int (cnt ps (ad k)+cnt ps k))else au ps x:=by
 unfold aI
 by_cases hk:k∈ps.map (·.1)
 ·rw[yC hk,P8]
  by_cases e:x=k
  ·rw[yC e,yC e]
  ·rw[yy e,yy e]
   by_cases z:x=ad k
   ·rw[yC z,yC ⟨z,hk⟩]
   ·rw[yy z,yy fun q=>z q.1]
 ·rw[yy hk]
  by_cases e:x=k
  ·rw[yC e,e,Ur hk]
  ·rw[yy e,yy fun q=>hk q.2]
theorem Uy(ps:Sps)(k x:Int×Int):cnt (aI ps k) x=if x=k then 0 else if x=ad k then cnt ps (ad k)+cnt ps k else cnt ps x:=by
 unfold aI
 by_cases hk:k∈ps.map (·.1)
 ·rw[yC hk,mV]
 ·rw[yy hk]
  by_cases e:x=k
  ·rw[yC e,e,Y1 hk]
  ·rw[yy e]
   by_cases z:x=ad k
   ·rw[yC z,z,Y1 hk,Int.add_zero]
   ·rw[yy z]
theorem hi_in{ps:Sps}{h j:Int}:hiK h j∈(aI ps (loK h j)).map (·.1)↔hiK h j∈ps.map (·.1):=by
 rw[←Wn,←Wn,Tn,yy (Ne.symm (j7 h j)),Vs,yy fun q=>j6 h j q.1]
theorem kK(ps:Sps)(h j:Int):aV (aI ps (loK h j)) (hiK h j)=aV ps (hiK h j):=by
 unfold aV
 rw[Uy,yy (Ne.symm (j7 h j)),Vs,yy (j6 h j)]
 by_cases e:hiK h j∈ps.map (·.1)
 ·rw[yC e,yC (hi_in.mpr e)]
 ·rw[yy e,yy fun q=>e (hi_in.mp q)]
theorem Vv{ps:Sps}{h j:Int}(i:loK h j∈ps.map (·.1)∨hiK h j∈ps.map (·.1))(x:Int×Int):au (aS ps h j) x=if x=loK h j∨x=hiK h j then none else if x=upK h j then some (.int (jn ps h j))else au ps x:=by
 unfold aS
 rw[Tn]
 have p1:cnt (aI ps (loK h j)) (ad (hiK h j))=cnt ps (upK h j)+cnt ps (loK h j):=by rw[Qy,Uy,yy (Ne.symm (ur h j)),Vs,yC rfl]
 have p2:cnt (aI ps (loK h j)) (hiK h j)=cnt ps (hiK h j):=by rw[Uy,yy (Ne.symm (j7 h j)),Vs,yy (j6 h j)]
 rw[p1,p2]
 by_cases e1:x=hiK h j
 ·rw[yC e1,yC (.inr e1)]
 ·rw[yy e1,Tn]
  by_cases e2:x=loK h j
  ·rw[yC (c:=x=loK h j∨x=hiK h j) (Or.inl e2),yy (c:=x=ad (hiK h j)∧_) fun q=>ur h j (by rw[←e2,←Qy];exact q.1),yC e2]
  ·rw[yy (c:=x=loK h j∨x=hiK h j) fun q=>q.elim e2 e1,yy (c:=x=loK h j) e2]
   by_cases e3:x=upK h j
   ·rw[yC e3]
    unfold jn
    by_cases i2:hiK h j∈ps.map (·.1)
    ·rw[yC ⟨by rw[Qy];exact e3,hi_in.mpr i2⟩]
     congr 2
     omega
    ·have i1:=i.resolve_right i2
     rw[yy fun q=>i2 (hi_in.mp q.2),yC ⟨by rw[Vs];exact e3,i1⟩,Y1 i2,Vs]
     congr 2
     omega
   ·rw[yy e3,yy fun q=>e3 (by rw[←Qy];exact q.1),yy fun q=>e3 (by rw[←Vs];exact q.1)]
theorem Sh{ps:Sps}{k:Int×Int}(nd:(ps.map (·.1)).Nodup):((aI ps k).map (·.1)).Nodup:=by
 unfold aI
 split
 ·exact Uu (Ym (Ym nd))
 ·exact nd
theorem V5{ps:Sps}{h j:Int}(nd:(ps.map (·.1)).Nodup):((aS ps h j).map (·.1)).Nodup:=Sh (Sh nd)
theorem Q3{ps qs:Sps}(p:ps.Perm qs)(nd:(ps.map (·.1)).Nodup)(h j:Int):jn ps h j=jn qs h j:=by
 unfold jn
 rw[R7 (Wd p nd _),R7 (Wd p nd (hiK h j)),R7 (Wd p nd (upK h j))]
theorem Oa{ps qs:Sps}{h j:Int}(p:ps.Perm qs)(nd:(ps.map (·.1)).Nodup)(i:loK h j∈ps.map (·.1)∨hiK h j∈ps.map (·.1)):(aS ps h j).Perm (aS qs h j):=by
 have pk:=p.map (·.1)
 refine Sy (V5 nd) (V5 (pk.nodup_iff.mp nd)) fun k=>?_
 rw[Vv i,Vv (i.imp pk.mem_iff.mp pk.mem_iff.mp),Q3 p nd,Wd p nd]
theorem O6{ps qs:Sps}(p:ps.Perm qs)(nd:(ps.map (·.1)).Nodup)(k:Int×Int):aV ps k=aV qs k:=by
 have pk:=p.map (·.1)
 unfold aV
 rw[R7 (Wd p nd k)]
 by_cases e:k∈ps.map (·.1)
 ·rw[yC e,yC (pk.mem_iff.mp e)]
 ·rw[yy e,yy fun q=>e (pk.mem_iff.mpr q)]
theorem kZ{ps qs:Sps}(p:ps.Perm qs)(nd:(ps.map (·.1)).Nodup)(h j:Int):flP ps h j=flP qs h j:=by
 unfold flP
 rw[O6 p nd,O6 p nd]
theorem Pm{or:Int}{ps:Sps}{k:Int×Int}(o:Kok or (ps.map (·.1)))(hd:k.1<or):Kok or ((aI ps k).map (·.1))∧mea or ((aI ps k).map (·.1))+(aV ps k).length≤mea or (ps.map (·.1))∧(aI ps k).length≤ps.length:=by
 unfold aI aV
 by_cases hk:k∈ps.map (·.1)
 ·rw[yC hk,yC hk]
  have:=si (m:=cnt ps k) (n:=cnt ps (ad k)+cnt ps k) o hk hd
  exact⟨this.1,this.2.1,this.2.2⟩
 ·rw[yy hk,yy hk]
  exact⟨o,yF _,yF _⟩
theorem Tx{or:Int}{ps:Sps}{h j:Int}(o:Kok or (ps.map (·.1)))(hd:h<or):Kok or ((aS ps h j).map (·.1))∧mea or ((aS ps h j).map (·.1))+(flP ps h j).length≤mea or (ps.map (·.1))∧(aS ps h j).length≤ps.length:=by
 have a:=Pm (k:=loK h j) o hd
 have b:=Pm (k:=hiK h j) a.1 hd
 rw[kK]at b
 unfold flP aS
 rw[yJ]
 have:=a.2
 have:=b.2
 exact⟨b.1,by omega,by omega⟩
theorem qP{ps:Sps}{h j:Int}(i:loK h j∈ps.map (·.1)∨hiK h j∈ps.map (·.1)):0<(flP ps h j).length:=by
 unfold flP aV
 rw[yJ]
 rcases i with i | i
 ·rw[if_pos i];simp;omega
 ·rw[if_pos i];simp
theorem O8{ps:Sps}{k:Int×Int}(nd:(ps.map (·.1)).Nodup):ag (aI ps k)=ag ps:=by
 unfold aI
 split
 ·unfold eO b_
  have c1:cnt (ao (ao ps (ad k) (cnt ps (ad k)+cnt ps k)) k (cnt ps k - cnt ps k)) k=cnt ps k - cnt ps k:=by rw[X0,yC rfl]
  have c2:cnt (ao ps (ad k) (cnt ps (ad k)+cnt ps k)) k=cnt ps k:=by rw[X0,yy (V0 k)]
  rw[Qj (Ym (Ym nd)),Ni (Ym nd),Ni nd,c1,c2]
  omega
 ·rfl
theorem mw{ps:Sps}{h j:Int}(nd:(ps.map (·.1)).Nodup):ag (aS ps h j)=ag ps:=by
 unfold aS
 rw[O8 (Sh nd),O8 nd]
structure Fst(or bar:Int)(ps:Sps)(h j:Int):Prop where
 in_:loK h j∈ps.map (·.1)∨hiK h j∈ps.map (·.1)
 hd:h<or
 le:jn ps h j≤bar
 first:∀k∈ps.map (·.1),k.1<or→jn ps k.1 (k.2 / 2)≤bar→h<k.1∨(h=k.1∧j≤k.2 / 2)
def Nof(or bar:Int)(ps:Sps):Prop:=∀k∈ps.map (·.1),k.1<or→bar<jn ps k.1 (k.2 / 2)
theorem Fst.key{or bar h j:Int}{ps:Sps}(f:Fst or bar ps h j):∃k∈ps.map (·.1),k.1=h∧k.2 / 2=j:=by
 rcases f.in_ with i | i
 ·exact⟨_,i,rfl,show 2 * j / 2=j by omega⟩
 ·exact⟨_,i,rfl,show(2 * j+1) / 2=j by omega⟩
theorem Fst.not{or bar h j:Int}{ps:Sps}(f:Fst or bar ps h j)(n:Nof or bar ps):False:=by
 obtain⟨k,hk,e1,e2⟩:=f.key
 have:=n k hk (by rw[e1];exact f.hd)
 rw[e1,e2]at this
 have:=f.le
 omega
theorem Fst.uniq{or bar h j h' j':Int}{ps:Sps}(f:Fst or bar ps h j)(g:Fst or bar ps h' j'):h=h'∧j=j':=by
 obtain⟨k,hk,e1,e2⟩:=f.key
 obtain⟨l,hl,d1,d2⟩:=g.key
 have a:=f.first l hl (by rw[d1];exact g.hd) (by rw[d1,d2];exact g.le)
 have b:=g.first k hk (by rw[e1];exact f.hd) (by rw[e1,e2];exact f.le)
 rw[d1,d2]at a
 rw[e1,e2]at b
 omega
theorem Fst.perm{or bar h j:Int}{ps qs:Sps}(f:Fst or bar ps h j)(p:ps.Perm qs)(nd:(ps.map (·.1)).Nodup):Fst or bar qs h j:=by
 have pk:=p.map (·.1)
 refine⟨f.in_.imp pk.mem_iff.mp pk.mem_iff.mp,f.hd,by rw[←Q3 p nd];exact f.le,fun k hk h1 h2=>f.first k (pk.mem_iff.mpr hk) h1 (by rw[Q3 p nd];exact h2)⟩
theorem P4{or bar:Int}{ps qs:Sps}(n:Nof or bar ps)(p:ps.Perm qs)(nd:(ps.map (·.1)).Nodup):Nof or bar qs:=fun k hk h1=>by
 rw[←Q3 p nd]
 exact n k ((p.map (·.1)).mem_iff.mpr hk) h1
inductive Stl(or bar:Int):Sps→Sps→Sps→Prop
 | done {ps:Sps}:Nof or bar ps→Stl or bar ps [] ps
 | step {ps ps1 fs AX:Sps} {h j:Int}:Fst or bar ps h j→ps1.Perm (aS ps h j)→Stl or bar ps1 fs AX→Stl or bar ps (flP ps h j++fs) AX
theorem kP{or bar:Int}{ps fs AX:Sps}(s:Stl or bar ps fs AX):∀{qs gs qs':Sps},Stl or bar qs gs qs'→ps.Perm qs→(ps.map (·.1)).Nodup→fs=gs∧AX.Perm qs':=by
 induction s with
 | done n=>
  intro qs gs qs' t p nd
  cases t with
  | done _=>exact⟨rfl,p⟩
  | step f _ _=>exact(f.not (P4 n p nd)).elim
 | step f p1 s ih=>
  intro qs gs qs' t p nd
  cases t with
  | done n=>exact((f.perm p nd).not n).elim
  | step g q1 t=>
   obtain⟨rfl,rfl⟩:=(f.perm p nd).uniq g
   obtain⟨e,r⟩:=ih t (p1.trans ((Oa p nd f.in_).trans q1.symm)) ((p1.map _).nodup_iff.mpr (V5 nd))
   exact⟨by rw[kZ p nd,e],r⟩
theorem Nl{or bar:Int}{ps fs AX:Sps}(s:Stl or bar ps fs AX):(ps.map (·.1)).Nodup→(AX.map (·.1)).Nodup∧Nof or bar AX∧ag AX=ag ps:=by
 induction s with
 | done n=>exact fun nd=>⟨nd,n,rfl⟩
 | step f p1 s ih=>
  intro nd
  obtain⟨a,b,c⟩:=ih ((p1.map _).nodup_iff.mpr (V5 nd))
  exact⟨a,b,by rw[c,U3 p1,mw nd]⟩
def Way(or bar:Int)(ps fs qs:Sps):Prop:=∀gs AX,Stl or bar qs gs AX→Stl or bar ps (fs++gs) AX
theorem Way.refl{or bar:Int}{ps:Sps}:Way or bar ps [] ps:=fun _ _ s=>s
theorem Way.snoc{or bar h j:Int}{ps fs qs qs1:Sps}(w:Way or bar ps fs qs)(f:Fst or bar qs h j)(p:qs1.Perm (aS qs h j)):Way or bar ps (fs++flP qs h j) qs1:=fun gs AX s=>by
 rw[zA]
 exact w _ _ (.step f p s)
theorem Way.done{or bar:Int}{ps fs qs:Sps}(w:Way or bar ps fs qs)(n:Nof or bar qs):Stl or bar ps fs qs:=by
 have:=w [] qs (.done n)
 rwa [Ab]at this
theorem Qm{ps qs:Sps}(p:ps.Perm qs):aZ ps=aZ qs:=gn gB ((Y8 ps).trans (p.trans (Y8 qs).symm)) (Ql ps) (Ql qs)
end Ld
namespace L2
open PySem PySem.Spec PyProof.Rows
section
variable{prog:Program}{w:World}{A:Around}{E:Value→Shared→Prop}{s:Shared}
theorem Oq{it t:Addr}{items:Array Value}(hne:t≠it):∀(n i:Nat)(s:Shared)(Q:List Value→Shared→Prop),s.heap.IsListIter it t i→s.heap.IsList t items→i+n≤items.size→
  (∀h',h'.IsListIter it t (i+n)→Heap.SameBut it s.heap h'→Q ((items.toList.drop i).take n) {s with heap:=h'})→wpAny (model prog w) A (draw (.ref it) n) Q E s
 | 0,i,s,Q,hit,_,_,hQ=>by
  show wpAny _ _ (pure []) Q E s
  exact wpAny_pure (by simpa using hQ s.heap hit (Heap.SameBut.refl ..))
 | n+1,i,s,Q,hit,ht,hle,hQ=>by
  have A1:i<items.size:=by omega
  show wpAny _ _ (pyNext (.ref it) >>= _) Q E s
  refine wpAny_bind (wpAny_pyNext_list_item hit ht (x:=items[i]) (by simp[A1]) fun h1 hit1 hs1=>?_)
  refine io (zJ (Oq hne n (i+1) _ _ hit1 (ht.extBut hs1.extBut hne) (by omega) fun h2 hit2 hs2=>yB ?_))
  have hd:items.toList.drop i=items[i]::items.toList.drop (i+1):=by simp[List.drop_eq_getElem_cons,A1]
  have:=hQ h2 (by rw[show i+(n+1)=i+1+n by omega];exact hit2) (hs1.trans hs2)
  rw[hd,List.take_succ_cons]at this
  exact this
theorem Sm{env:Env}{elts:List Expr}{x1}{pos:Pos}{t:Addr}{items:Array Value}{Q:Unit→Shared→Prop}(hh:A.handled=none)(ht:s.heap.IsList t items)(hn:(assignEach elts env).length=items.size)(hstar:(assignEach elts env).findIdx? (·.1)=none)(h:∀h',Heap.ExtBut s.heap.objs.size s.heap h'→wpAny (model prog w) A (assignInOrder ((assignEach elts env).map (·.2)) items.toList) Q E {s with heap:=h'}):
  wpAny (model prog w) A (assign (.Tuple elts x1 pos) env (.ref t)) Q E s:=by
 rw[assign_Tuple]
 refine io (wpAny_standAt ?_)
 unfold unpack
 rw[hn,hstar]
 refine io (zJ ?_)
 have A1:t≠s.heap.objs.size:=by obtain⟨o,ho,_⟩:=ht;exact yW (yM ho)
 unfold unpackItems
 refine io ?_
 unfold notIterableAtAll
 refine io (wpAny_specialOf ht.typeIs slot_list_iter.lookup ?_)
 refine yB ?_
 simp only[Bool.false_eq_true,if_false]
 refine io (zJ (wpAny_pyIter_list ht ?_))
 have htp:(s.heap.push {cls:=.type "list_iterator",data:=.fields #[.ref t,.int 0 0]}).IsList t items:=by
  obtain⟨o,ho,r⟩:=ht
  exact⟨o,yA _ ho,r⟩
 refine io (zJ (Oq A1 items.size 0 _ _ ⟨_,yX _ rfl,rfl,rfl⟩ htp (by omega) fun h1 hit1 hs1=>?_))
 have hall:List.take items.size (List.drop 0 items.toList)=items.toList:=by
  rw[List.drop_zero];exact List.take_of_length_le (by simp)
 rw[hall]
 rw[if_neg (by simp)]
 have ht1:h1.IsList t items:=htp.extBut hs1.extBut A1
 refine wpAny_bind (wpAny_holding (wpAny_pyNext_list_end hh hit1 ht1 (by simp) fun h2 he2=>?_))
 simp only[Option.isSome_none,Bool.false_eq_true,if_false]
 exact yB (h h2 fun b o hb e=>he2 b o hb (hs1.extBut b o hb (yA _ e)))
end
section
variable{X:Cx}{pos:Pos}
def gLst(K:W.Frag)(n:Nat)(t:TGs):TG:=fun v σ H Q=>∃a xs,v=.ref a∧SqL K H a xs∧xs.length=n∧t xs σ H Q
theorem vB{es:List Expr}{k:Nat}{t:TGs}{n:Nat}(hc:X.calm=true)(h:PGs X es t)(hn:(assignEach es X.env).length=n:=by rfl)(hst:(assignEach es X.env).findIdx? (·.1)=none:=by rfl):PG X (.Tuple es k pos) (gLst X.K n t):=by
 intro AU s σ H v u Q I r hw
 obtain⟨a,xs,e1,hq,hl,hw⟩:=hw
 subst e1
 cases r
 obtain⟨its,rv,p,hz⟩:=I.list hq
 refine Sm (I.ok.hd hc) p.isList (by simp[hn,←hl,rv.length]) hst fun h' hx=>?_
 have I1:Inv X AU σ H {s with heap:=h'}:=I.kept (t':=s.toks) fun b o e=>hx b o (yW (yM e)) e
 exact h AU _ σ H xs _ Q I1 (by simpa using rv) hw
end
end L2
namespace K31
open PySem L2 Ld
def KAt(H:Hp)(p:Addr)(k:Int×Int):Prop:=H p=some (.tup [.int k.1,.int k.2])
def NsAt(H:Hp):List V→List (Int×Int)→Prop:=Paired fun x p=>∃c:Addr,x=.ref c∧KAt H c p
theorem NsAt.mono{H H':Hp}(g:Same H H'){xs:List V}{ps:List (Int×Int)}(h:NsAt H xs ps):NsAt H' xs ps:=Paired.mapP h fun _ _ ⟨c,e,q⟩=>⟨c,e,g _ _ q⟩
theorem NsAt.len{H:Hp}{xs:List V}{ps:List (Int×Int)}(h:NsAt H xs ps):xs.length=ps.length:=yT h
theorem NsAt.get{H:Hp}:∀{xs:List V}{ps:List (Int×Int)}{j:Nat}{x:V},NsAt H xs ps→xs[j]?=some x→∃c p,x=.ref c∧ps[j]?=some p∧KAt H c p
 | _,_,_,_,.nil,e=>by simp at e
 | _,_,0,_,.cons h _,e=>by
  rw[z7]at e
  cases e
  obtain⟨c,e,q⟩:=h
  exact⟨c,_,e,rfl,q⟩
 | _,_,j+1,_,.cons _ r,e=>NsAt.get (j:=j) r (by simpa using e)
theorem NsAt.snoc{H:Hp}{xs:List V}{ps:List (Int×Int)}{c:Addr}{p:Int×Int}(h:NsAt H xs ps)(e:KAt H c p):NsAt H (xs++[.ref c]) (ps++[p]):=AS h ⟨c,rfl,e⟩
structure LadAt(H:Hp)(q:Addr)(AT or total:Int)(ps:Sps):Prop where
 at_:∃(c:Addr)(as:List Addr),H q=some (.tup [.int AT,.int or,.ref c,.int total])∧H c=some (.tup (as.map V.ref))∧Paired (FT H) as ps
theorem Y2{H H':Hp}(g:Same H H'){a:Addr}{p:(Int×Int)×Int}(h:FT H a p):FT H' a p:=let ⟨b,e1,e2⟩:=h;⟨b,g _ _ e1,g _ _ e2⟩
theorem LadAt.mono{H H':Hp}(g:Same H H'){q:Addr}{AT or total:Int}{ps:Sps}(h:LadAt H q AT or total ps):LadAt H' q AT or total ps:=let ⟨c,as,e1,e2,r⟩:=h.at_;⟨c,as,g _ _ e1,g _ _ e2,Paired.mapP r fun _ _ f=>Y2 g f⟩
theorem Vy{H:Hp}:∀{as:List Addr}{ps:Sps}{j:Nat}{x:V},Paired (FT H) as ps→(as.map V.ref)[j]?=some x→∃a p,x=.ref a∧ps[j]?=some p∧FT H a p
 | _,_,_,_,.nil,e=>by simp at e
 | _,_,0,_,.cons h _,e=>by
  rw[yE,z7]at e
  cases e
  exact⟨_,_,rfl,rfl,h⟩
 | _,_,j+1,_,.cons _ r,e=>Vy (j:=j) r (by simpa using e)
theorem Yx{H:Hp}{d b:Addr}{ps:Sps}{k:Int×Int}(e:H d=some (.dT (ae ps)))(eb:KAt H b k):DGet H d (.ref b) (au ps k):=DGet.t e eb
theorem pI{H:Hp}:∀{bs:List Addr}{ks:List (Int×Int)}{j:Nat}{x:V},KsAt H bs ks→(bs.map V.ref)[j]?=some x→∃b k,x=.ref b∧ks[j]?=some k∧KAt H b k
 | _,_,_,_,.nil,e=>by simp at e
 | _,_,0,_,.cons h _,e=>by
  rw[yE,z7]at e
  cases e
  exact⟨_,_,rfl,rfl,h⟩
 | _,_,j+1,_,.cons _ r,e=>pI (j:=j) r (by simpa using e)
theorem Om{H:Hp}{d q:Addr}{o u:HO}(e:H d=some u)(n:H q=none):Grw d H (upd H q o):=fun b w h=>by
 obtain⟨h1,h2⟩:=Zc h
 rw[Zh h1,Za (Zf h2 n)]
 exact h2
def cj:Sp:=fun vs H Q _=>∃(p:Addr)(k:Int×Int),vs=[.ref p]∧KAt H p k∧∀q,H q=none→Q (.ref q) (upd H q (.tup [.int (ad k).1,.int (ad k).2]))
def jW:Sp:=fun vs H Q _=>∃(p:Addr)(k:Int×Int),vs=[.ref p]∧KAt H p k∧∀(q a b:Addr)(H':Hp),Same H H'→H' q=some (.tup [.ref a,.ref b])→KAt H' a (loK k.1 (k.2 / 2))→KAt H' b (hiK k.1 (k.2 / 2))→Q (.ref q) H'
def ux:Sp:=fun vs H Q _=>∃(q:Addr)(AT or total:Int)(ps:Sps),vs=[.ref q]∧LadAt H q AT or total ps∧1≤AT∧AT≤20∧Q (.int (total / AT)) H
def lD:Sp:=fun vs H Q _=>∃(d p:Addr)(ps:Sps)(k:Int×Int),vs=[.ref d,.ref p]∧H d=some (.dT (ae ps))∧KAt H p k∧∀(H':Hp),Same H H'→Q (.int (jn ps k.1 (k.2 / 2))) H'
def xY:Sp:=fun vs H Q _=>∃(or bar:Int)(d:Addr)(ps:Sps),vs=[.int or,.int bar,.ref d]∧H d=some (.dT (ae ps))∧ps.length<200∧(∀H',Same H H'→Nof or bar ps→Q .non H')∧∀(p:Addr)(k:Int×Int)(H':Hp),Same H H'→KAt H' p k→Fst or bar ps k.1 (k.2 / 2)→Q (.ref p) H'
def oC:Sp:=fun vs H Q _=>∃(d p:Addr)(ps:Sps)(k:Int×Int)(m:Int),vs=[.ref d,.ref p,.int m]∧H d=some (.dT (ae ps))∧KAt H p k∧au ps k=some (.int m)∧ps.length<1000∧∀(H':Hp),Grw d H H'→H' d=some (.dT (ae (b_ ps k m (cnt ps (ad k)+m))))→Q .non H'
theorem lK(i:Int):i - i % 2=2 * (i / 2):=by omega
theorem ow{a b:Int×Int}(h:leK a b=true):a.1<b.1∨(a.1=b.1∧a.2 / 2≤b.2 / 2):=by
 rcases Vx.mp h with h | ⟨h,g⟩
 ·exact .inl h
 ·exact .inr ⟨h,by omega⟩
theorem xt{α:Type}{R:α→α→Prop}{l:List α}(h:l.Pairwise R){i j:Nat}{a b:α}(ha:l[i]?=some a)(hb:l[j]?=some b)(ij:i<j):R a b:=by
 obtain⟨hi,rfl⟩:=yK.mp ha
 obtain⟨hj,rfl⟩:=yK.mp hb
 exact List.pairwise_iff_getElem.mp h i j hi hj ij
variable{P:Program}{w:World}{K:W.Frag}{mg:Str→Option Value}{base:Heap}{f:Addr}{fd:FuncData}
theorem Sz(F:Fun K "parent_of" "parent_of" cu f fd):FnOk P w K mg base CX0 1 f fd ["stretch"] cj:=by
 refine F.ok Vn (fun vs H Q E h=>?_) (fun cdv A outer s H vs Q E hr h=>?_)
 ·obtain⟨p,k,rfl,_⟩:=h
  rfl
 obtain⟨p,k,rfl,e,hq⟩:=h
 refine⟨_,(Z2 (Yy (pv 0) (Yn rfl (Z9 (Z8 (i:=1) Vn.nd rfl (Or.inl rfl)) (Z9 (Z8 (i:=2) Vn.nd rfl (Or.inl rfl)) Zp))))
 (Z7 (Ze (Zr (Z1 (Zb Zs (pv 1) Z3) (Z1 (Zb Xy (pv 2) Z3) Z0 (by rfl)) (by rfl)))))),?_⟩
 exact⟨_,rfl,p,_,rfl,SqT.of e,rfl,_,_,rfl,_,_,rfl,rfl,_,rfl,_,_,rfl,rfl,_,rfl,_,_,rfl,rfl,⟨by decide,by decide⟩,leN rfl,hq⟩
theorem lA(F:Fun K "pair_of" "pair_of" de f fd):FnOk P w K mg base CX0 1 f fd ["stretch"] jW:=by
 refine F.ok Vo (fun vs H Q E h=>?_) (fun cdv A outer s H vs Q E hr h=>?_)
 ·obtain⟨p,k,rfl,_⟩:=h
  rfl
 obtain⟨p,k,rfl,e,hq⟩:=h
 refine⟨_,(Z2 (Yy (pv 0) (Yn rfl (Z9 (Z8 (i:=1) Vo.nd rfl (Or.inl rfl)) (Z9 (Z8 (i:=2) Vo.nd rfl (Or.inl rfl)) Zp))))
 (Z2 (Zw 3 Vo.nd rfl (Or.inl rfl) (Zb Xv (pv 2) (Zb Wj (pv 2) Z3)) (by rfl) (by rfl))
 (Z7 (Ze (Zr (Z1 (Zr (Z1 (pv 1) (Z1 (pv 3) Z0 (by rfl)) (by rfl))) (Z1 (Zr (Z1 (pv 1) (Z1 (Zb Zs (pv 3) Z3) Z0 (by rfl)) (by rfl))) Z0 (by rfl)) (by rfl))))))),?_⟩
 have gg:Same H H:=Same.refl _
 refine⟨_,rfl,p,_,rfl,SqT.of e,rfl,_,_,rfl,_,_,rfl,rfl,_,rfl,_,rfl,_,_,rfl,rfl,Wz rfl,_,_,rfl,rfl,_,rfl,_,rfl,leN rfl,?_⟩
 intro a n_a
 generalize hz:upd _ a _=H1
 have gz:=Zj hz n_a
 have A5:=Zx hz
 clear hz
 have gg:=gg.trans gz
 refine⟨_,rfl,_,rfl,_,_,rfl,rfl,leN rfl,?_⟩
 intro b n_b
 generalize hz:upd _ b _=H2
 have gz:=Zj hz n_b
 have AZ:=Zx hz
 clear hz
 have gg:=gg.trans gz
 have A5:=gz _ _ A5
 refine⟨leN rfl,?_⟩
 intro q n_q
 generalize hz:upd _ q _=H3
 have gz:=Zj hz n_q
 have A6:=Zx hz
 clear hz
 have gg:=gg.trans gz
 have A5:=gz _ _ A5
 have AZ:=gz _ _ AZ
 exact hq q a b _ gg A6 (by show _=some (HO.tup [V.int k.1,V.int (2 * (k.2 / 2))]);rw[←lK];exact A5) (by show _=some (HO.tup [V.int k.1,V.int (2 * (k.2 / 2)+1)]);rw[←lK];exact AZ)
theorem vM(F:Fun K "bar_of" "bar_of" eB f fd):FnOk P w K mg base CX0 1 f fd ["ladder"] ux:=by
 refine F.ok V9 (fun vs H Q E h=>?_) (fun cdv A outer s H vs Q E hr h=>?_)
 ·obtain⟨q,AT,or,total,ps,rfl,_⟩:=h
  rfl
 obtain⟨q,AT,or,total,ps,rfl,lad,r0,r1,hq⟩:=h
 refine⟨_,(Z2 (Yy (pv 0) (Yn rfl (Z9 (Z8 (i:=1) V9.nd rfl (Or.inl rfl)) (Z9 (Z8 (i:=2) V9.nd rfl (Or.inl rfl)) (Z9 (Z8 (i:=3) V9.nd rfl (Or.inl rfl)) (Z9 (Z8 (i:=4) V9.nd rfl (Or.inl rfl)) Zp))))))
 (Z7 (Ze (Zb Xy (pv 4) (pv 1))))),?_⟩
 obtain⟨c,as,A6,A2,pr⟩:=lad.at_
 exact⟨_,rfl,q,_,rfl,SqT.of A6,rfl,_,_,rfl,_,_,rfl,_,_,rfl,_,_,rfl,rfl,_,rfl,_,rfl,_,_,rfl,rfl,⟨by omega,by omega⟩,hq⟩
theorem qY(c9:Has P w K mg base "pair_of" 1 ["stretch"] jW)(aO:Has P w K mg base "parent_of" 1 ["stretch"] cj)(F:Fun K "joint_count" "joint_count" bR f fd):FnOk P w K mg base CX0 2 f fd ["counts","stretch"] lD:=by
 refine F.ok Wf (fun vs H Q E h=>?_) (fun cdv A outer s H vs Q E hr h=>?_)
 ·obtain⟨d,p,ps,k,rfl,_⟩:=h
  rfl
 obtain⟨d,p,ps,k,rfl,e_d,A0,hq⟩:=h
 refine⟨_,(Z2 (Yy (Z4 c9 hr (Z1 (pv 1) Z0 (by rfl))) (Yn rfl (Z9 (Z8 (i:=2) Wf.nd rfl (Or.inl rfl)) (Z9 (Z8 (i:=3) Wf.nd rfl (Or.inl rfl)) Zp))))
 (Z7 (Ze (Zb Zs (Zb Zs (Xr (Xh hr) (pv 0) (pv 2) Z3 ⟨rfl,rfl,rfl,rfl⟩) (Xr (Xh hr) (pv 0) (pv 3) Z3 ⟨rfl,rfl,rfl,rfl⟩)) (Xr (Xh hr) (pv 0) (Z4 aO hr (Z1 (pv 1) Z0 (by rfl))) Z3 ⟨rfl,rfl,rfl,rfl⟩))))),?_⟩
 refine⟨_,rfl,p,k,rfl,A0,fun q a b H1 g1 A6 A5 AZ=>⟨q,_,rfl,SqT.of A6,rfl,_,_,rfl,_,_,rfl,rfl,?_⟩⟩
 have e_d:=g1 _ _ e_d
 refine⟨_,rfl,d,rfl,.inr ⟨_,.inl e_d⟩,_,rfl,_,Yx e_d A5,?_⟩
 refine⟨_,rfl,d,rfl,.inr ⟨_,.inl e_d⟩,_,rfl,_,Yx e_d AZ,_,_,Xi _ _,Xi _ _,?_⟩
 refine⟨_,rfl,d,rfl,.inr ⟨_,.inl e_d⟩,_,rfl,p,k,rfl,g1 _ _ A0,fun r nr=>?_⟩
 have g2:=Z6 nr (.tup [.int (ad k).1,.int (ad k).2])
 exact⟨_,Yx (g2 _ _ e_d) Z5,_,_,rfl,Xi _ (ad k),hq _ (g1.trans g2)⟩
theorem xv(aA:mg "sorted"=none)(eK:Has P w K mg base "joint_count" 2 ["counts","stretch"] lD)(F:Fun K "first_folding" "first_folding" bq f fd):FnOk P w K mg base CX0 3 f fd ["deep","bar","counts"] xY:=by
 refine F.ok V8 (fun vs H Q E h=>?_) (fun cdv A outer s H vs Q E hr h=>?_)
 ·obtain⟨or,bar,d,ps,rfl,_⟩:=h
  rfl
 obtain⟨or,bar,d,ps,rfl,e_d,h64,hq0,hq1⟩:=h
 refine⟨_,(Z2 (Xe zy rfl (Y4 (Zo (iO rfl hr.units) rfl aA PyProof.Rows.boot_sorted (Z1 (pv 2) Z0 (by rfl)))) (Z8 (i:=3) V8.nd rfl (Or.inl rfl))
 (Z7 (Yl (PW.pt (Qu (Zi lz (Zt Y6 (pv 3) Z3 (fun _ _=>rfl)) (pv 0) (Zk _)) (S3 (Zi Vb (Z4 eK hr (Z1 (pv 2) (Z1 (pv 3) Z0 (by rfl)) (by rfl))) (pv 1) (Zk _))))) (Z7 (Ze (pv 3))) Zu)))
 (Z7 (Ze Ua))),?_⟩
 have gg:Same H H:=Same.refl _
 refine⟨_,rfl,d,ps,rfl,e_d,by omega,fun bs ka=>?_⟩
 intro l n_l
 generalize hz:upd _ l _=H1
 have gz:=Zj hz n_l
 have A3:=Zx hz
 clear hz
 have gg:=gg.trans gz
 have ka:=ka.mono fun b xs e=>gg b _ e
 have bl:=yT ka
 have mk:∀k,k∈eI (ps.map (·.1))↔k∈ps.map (·.1):=fun k=>(Sr _).mem_iff
 refine⟨l,rfl,⟨_,SqL.of A3⟩,?_⟩
 refine Xw (xs:=bs.map V.ref) (fun i σ H'=>∃o3:Option V,σ=[some (.int or),some (.int bar),some (.ref d),o3]∧Same H1 H'∧∀(n:Nat)(k:Int×Int),n<i→(eI (ps.map (·.1)))[n]?=some k→k.1<or→bar<jn ps k.1 (k.2 / 2)) ⟨_,rfl,Same.refl _,fun n _ hn=>absurd hn (Nat.not_lt_zero n)⟩ ?_ ?_ ?_
 ·rintro i σ H' _ ⟨_,_,g,_⟩
  exact SqL.of (g _ _ A3)
 ·rintro i x σ H2 N B1 R hN hR hx ⟨o3,rfl,g2,bef⟩
  obtain⟨b,k,rfl,hk,AZ⟩:=pI ka hx
  have AZ:=g2 _ _ AZ
  have dw:=g2 _ _ (gg _ _ e_d)
  have km:k∈ps.map (·.1):=(mk k).mp (y3 hk)
  have nxt:(k.1<or→bar<jn ps k.1 (k.2 / 2))→∀(n:Nat)(k:Int×Int),n<i+1→(eI (ps.map (·.1)))[n]?=some k→k.1<or→bar<jn ps k.1 (k.2 / 2):=fun c n k' hn e=>by
   rcases Nat.lt_succ_iff_lt_or_eq.mp hn with z | z
   ·exact bef n k' z e
   ·rw[z,hk]at e
    cases e
    exact c
  refine⟨_,rfl,b,_,0,_,rfl,rfl,SqT.of AZ,rfl,_,rfl,_,_,rfl,rfl,_,rfl,W7 (fun c=>?_) (fun c=>?_)⟩
  ·refine⟨_,rfl,_,rfl,d,b,ps,k,rfl,dw,AZ,fun H3 g3=>⟨_,rfl,_,_,rfl,rfl,_,rfl,W7 (fun c2=>?_) (fun c2=>?_)⟩⟩
   ·refine⟨_,rfl,hR _ _ (hq1 b k _ (gg.trans (g2.trans g3)) (g3 _ _ AZ) ⟨?_,yO c,yO c2,fun k' hk' h1 h2=>?_⟩)⟩
    ·rcases Q6 k with e | e
     ·exact .inl (by rw[←e];exact km)
     ·exact .inr (by rw[←e];exact km)
    ·obtain⟨n,hn⟩:=List.getElem?_of_mem ((mk k').mpr hk')
     rcases zL n i with z | z
     ·have:=bef n k' z hn h1
      omega
     ·rcases Nat.lt_or_eq_of_le z with z | z
      ·exact ow (xt (gj _) hk hn z)
      ·rw[←z,hk]at hn
       cases hn
       exact .inr ⟨rfl,y8 _⟩
   ·exact hN _ _ ⟨_,rfl,g2.trans g3,nxt fun _=>by have:=z8 (Af.mpr c2);omega⟩
  ·exact hN _ _ ⟨_,rfl,g2,nxt fun z=>absurd (yG z) c⟩
 ·rintro σ H2 ⟨_,rfl,g2,all⟩
  refine hq0 _ (gg.trans g2) fun k hk h1=>?_
  obtain⟨n,hn⟩:=List.getElem?_of_mem ((mk k).mpr hk)
  refine all n k ?_ hn h1
  rw[pi,bl]
  exact(yK.mp hn).1
theorem r8(aO:Has P w K mg base "parent_of" 1 ["stretch"] cj)(F:Fun K "fold_up" "fold_up" cD f fd):FnOk P w K mg base CX0 2 f fd ["counts","stretch","many"] oC:=by
 refine F.ok Vq (fun vs H Q E h=>?_) (fun cdv A outer s H vs Q E hr h=>?_)
 ·obtain⟨d,p,ps,k,m,rfl,_⟩:=h
  rfl
 obtain⟨d,p,ps,k,m,rfl,e_d,A0,lk,pl,hq⟩:=h
 refine⟨_,(Z2 (Zw 3 Vq.nd rfl (Or.inl rfl) (Z4 aO hr (Z1 (pv 1) Z0 (by rfl))) (by rfl) (by rfl)) Zd),?_⟩
 refine⟨_,rfl,p,k,rfl,A0,fun q nq=>?_⟩
 have g1:=Om (o:=.tup [.int (ad k).1,.int (ad k).2]) e_d nq
 have s1:=Z6 nq (.tup [.int (ad k).1,.int (ad k).2])
 have A6:KAt (upd H q (.tup [.int (ad k).1,.int (ad k).2])) q (ad k):=Z5
 have e_d:=s1 _ _ e_d
 have A0:KAt _ p k:=s1 _ _ A0
 generalize upd H q (.tup [.int (ad k).1,.int (ad k).2])=H1 at g1 A6 e_d A0⊢
 have tupd:∀{H:Hp}{b:Addr}{j:Int×Int}{kvs:List (List Key×V)}{o:HO},H d=some (.dT kvs)→KAt H b j→KAt (upd H d o) b j:=fun{H b j kvs o} e eb=>by
  show upd H d o b=_
  rw[Za (Ta eb e (by intro z;cases z))]
  exact eb
 refine⟨_,(Z2 (Uj (Xh hr) (pv 0) (pv 3) (Zb Zs (Xr (Xh hr) (pv 0) (pv 3) Z3 ⟨rfl,rfl,rfl,rfl⟩) (pv 2)) rfl) Zd),?_⟩
 obtain⟨n0,hn0,h0⟩:∃n,n=cnt ps (ad k)∧(au ps (ad k)).getD (.int 0)=.int n:=⟨_,rfl,Xi _ _⟩
 have l1:=W6 ps (ad k) (n0+m)
 refine⟨_,rfl,d,rfl,.inr ⟨_,.inl e_d⟩,_,rfl,_,Yx e_d A6,_,rfl,n0,m,h0,rfl,_,rfl,_,rfl,d,_,rfl,DPut.t (k:=kk (ad k)) e_d A6 (Zm (by rw[Y0];omega)),?_⟩
 have g2:Grw d H (upd H1 d (.dT (aK (ae ps) (kk (ad k)) (.int (n0+m))))):=g1.trans Yw
 have dY:=tupd (o:=.dT (aK (ae ps) (kk (ad k)) (.int (n0+m)))) e_d A0
 have dw:(upd H1 d (.dT (aK (ae ps) (kk (ad k)) (.int (n0+m))))) d=some (.dT (ae (ao ps (ad k) (n0+m)))):=by rw[←Tj];exact Z5
 generalize upd H1 d (.dT (aK (ae ps) (kk (ad k)) (.int (n0+m))))=H2 at g2 dY dw⊢
 refine⟨_,(Z2 (Uj (Xh hr) (pv 0) (pv 1) (Zb Xv (Um (Xh hr) (pv 0) (pv 1) (fun _ _=>rfl)) (pv 2)) rfl) Zd),?_⟩
 have lk2:au (ao ps (ad k) (n0+m)) k=some (.int m):=by rw[X8,yy (V0 k)];exact lk
 have l2:=W6 (ao ps (ad k) (n0+m)) k (m - m)
 refine⟨_,rfl,_,rfl,d,.int m,rfl,by rw[←lk2];exact Yx dw dY,_,rfl,_,_,rfl,rfl,_,rfl,_,rfl,d,_,rfl,DPut.t (k:=kk k) dw dY (Zm (by rw[Y0];omega)),?_⟩
 have g3:Grw d H (upd H2 d (.dT (aK (ae (ao ps (ad k) (n0+m))) (kk k) (.int (m - m))))):=g2.trans Yw
 have dR:=tupd (o:=.dT (aK (ae (ao ps (ad k) (n0+m))) (kk k) (.int (m - m)))) dw dY
 have cW:(upd H2 d (.dT (aK (ae (ao ps (ad k) (n0+m))) (kk k) (.int (m - m))))) d=some (.dT (ae (ao (ao ps (ad k) (n0+m)) k (m - m)))):=by rw[show ae (ao (ao ps (ad k) (n0+m)) k (m - m))=aK (ae (ao ps (ad k) (n0+m))) (kk k) (.int (m - m)) from(Tj _ _ _).symm];exact Z5
 generalize upd H2 d (.dT (aK (ae (ao ps (ad k) (n0+m))) (kk k) (.int (m - m))))=H3 at g3 dR cW⊢
 refine⟨_,(Z7 (Yl (Zi Og (Um (Xh hr) (pv 0) (pv 1) (fun _ _=>rfl)) Z3 (Zk _)) (Z7 (Xj (T9 At PySem.F.slot_dict_pop PySem.F.type_dict_pop (kD hr.units) (pv 0) (Z1 (pv 1) Z0 (by rfl))))) Zu)),?_⟩
 have lk3:au (ao (ao ps (ad k) (n0+m)) k (m - m)) k=some (.int (m - m)):=by rw[X8,yC rfl]
 refine⟨_,rfl,_,rfl,d,.int (m - m),rfl,by rw[←lk3];exact Yx cW dR,rfl,_,rfl,?_⟩
 rw[yG (by rw[Int.sub_self])]
 refine W3 ⟨_,rfl,Qe cW,_,rfl,d,p,_,kk k,_,rfl,rfl,cW,dR,lk3,?_⟩
 refine hq _ (g3.trans Yw) ?_
 rw[←hn0]
 unfold b_
 rw[←lj]
 exact Z5
def hgt:List Key→Int
 | .inl h::_=>h
 | _=>0
def vD(or:Int)(kvs:List (List Key×V)):Nat:=(kvs.map fun kv=>(or+1 - hgt kv.1).toNat).sum
theorem rA(or:Int)(ps:Sps):vD or (ae ps)=mea or (ps.map (·.1)):=by
 unfold vD mea ae
 rw[zf,zf]
 rfl
def muD(or:Int)(d:Addr)(H:Hp):Nat:=match H d with
 | some (.dT kvs)=>vD or kvs
 | _=>0
theorem jI{or:Int}{d:Addr}{H:Hp}{ps:Sps}(e:H d=some (.dT (ae ps))):muD or d H=mea or (ps.map (·.1)):=by
 unfold muD
 rw[e]
 exact rA or ps
def FsAt(H:Hp)(l:Addr)(fs:Sps):Prop:=∃as:List Addr,H l=some (.lst (as.map V.ref))∧Paired (FT H) as fs
def t_:Sp:=fun vs H Q _=>∃(q:Addr)(AT or total:Int)(ps:Sps),vs=[.ref q]∧LadAt H q AT or total ps∧1≤AT∧AT≤20∧or≤20∧Kok or (ps.map (·.1))∧ps.length<200∧
 ∀(t r l:Addr)(H':Hp)(fs AX:Sps),Same H H'→H' t=some (.tup [.ref r,.ref l])→H l=none→LadAt H' r AT or total (aZ AX)→FsAt H' l fs→fs.length≤4300→Stl or (total / AT) ps fs AX→Kok or (AX.map (·.1))→AX.length≤ps.length→Q (.ref t) H'
def pjs(ps:Sps)(h j:Int):Nat→Sps
 | 0=>ps
 | 1=>aI ps (loK h j)
 | _=>aS ps h j
def tjs(ps:Sps)(h j:Int):Nat→Sps
 | 0=>[]
 | 1=>aV ps (loK h j)
 | _=>flP ps h j
def kjs(h j:Int):Nat→Int×Int
 | 0=>loK h j
 | _=>hiK h j
theorem n4(ps:Sps)(h j:Int){i:Nat}(hi:i<2):pjs ps h j (i+1)=aI (pjs ps h j i) (kjs h j i)∧tjs ps h j (i+1)=tjs ps h j i++aV (pjs ps h j i) (kjs h j i):=by
 match i,hi with
 | 0,_=>exact⟨rfl,rfl⟩
 | 1,_=>exact⟨rfl,by show aV ps _++aV ps _=aV ps _++aV (aI ps (loK h j)) (hiK h j);rw[kK]⟩
structure Stg(H H':Hp)(d L:Addr)(or bar:Int)(n0 M:Nat)(ps0 ps fs:Sps):Prop where
 sm:Same H H'
 ed:H' d=some (.dT (ae ps))
 eL:FsAt H' L fs
 ok:Kok or (ps.map (·.1))
 le:ps.length≤n0
 few:fs.length+mea or (ps.map (·.1))≤M
theorem FsAt.same{H H':Hp}{l:Addr}{fs:Sps}(h:FsAt H l fs)(g:Same H H'):FsAt H' l fs:=let ⟨as,e,p⟩:=h;⟨as,g _ _ e,Paired.mapP p fun _ _ f=>Y2 g f⟩
theorem Stg.same{H H1 H2:Hp}{d L:Addr}{or bar:Int}{n0 M:Nat}{ps0 ps fs:Sps}(s:Stg H H1 d L or bar n0 M ps0 ps fs)(g:Same H1 H2):Stg H H2 d L or bar n0 M ps0 ps fs:=⟨s.sm.trans g,g _ _ s.ed,s.eL.same g,s.ok,s.le,s.few⟩
theorem uL(aY:mg "dict"=none)(aA:mg "sorted"=none)(bB:mg "tuple"=none)(oD:Has P w K mg base "bar_of" 1 ["ladder"] ux)(cf:Has P w K mg base "first_folding" 3 ["deep","bar","counts"] xY)(c9:Has P w K mg base "pair_of" 1 ["stretch"] jW)(dk:Has P w K mg base "fold_up" 2 ["counts","stretch","many"] oC)(F:Fun K "settling_of" "settling_of" bQ f fd):FnOk P w K mg base CX0 4 f fd ["ladder"] t_:=by
 refine F.ok Zv (fun vs H Q E h=>?_) (fun cdv A outer s H vs Q E hr h=>?_)
 ·obtain⟨q,AT,or,total,ps,rfl,_⟩:=h
  rfl
 obtain⟨q,AT,or,total,ps,rfl,lad,r0,r1,d1,kok,pl,hq⟩:=h
 obtain⟨c,as,A6,A2,pr⟩:=lad.at_
 refine⟨_,(Z2 (Yy (pv 0) (Yn rfl (Z9 (Z8 (i:=1) Zv.nd rfl (Or.inl rfl)) (Z9 (Z8 (i:=2) Zv.nd rfl (Or.inl rfl)) (Z9 (Z8 (i:=3) Zv.nd rfl (Or.inl rfl)) (Z9 (Z8 (i:=4) Zv.nd rfl (Or.inl rfl)) Zp)))))) Zd),?_⟩
 refine⟨_,rfl,q,_,rfl,SqT.of A6,rfl,_,_,rfl,_,_,rfl,_,_,rfl,_,_,rfl,rfl,?_⟩
 refine⟨_,(Z2 (Zw 5 Zv.nd rfl (Or.inl rfl) (Z4 oD hr (Z1 (pv 0) Z0 (by rfl))) (by rfl) (by rfl)) Zd),?_⟩
 refine⟨_,rfl,q,AT,or,total,ps,rfl,lad,r0,r1,?_⟩
 refine⟨_,(Z2 (Zw 6 Zv.nd rfl (Or.inl rfl) (Xl (W1 rfl hr.units) rfl aY PyProof.Rows.boot_dict (Z1 (pv 3) Z0 (by rfl))) (by rfl) (by rfl)) Zd),?_⟩
 have nd:((ae ps).map (·.1)).Nodup:=by
  rw[V3]
  exact Ae.mpr (kok.nd.imp fun h e=>h (V1 e))
 refine⟨_,rfl,c,_,_,rfl,A2,Pg pr,by rw[Y0];omega,fun d n_d=>?_⟩
 rw[Ud nd]
 have sm0:=Z6 n_d (.dT (ae ps))
 have ed0:(upd H d (.dT (ae ps))) d=some (.dT (ae ps)):=Z5
 generalize upd H d (.dT (ae ps))=H1 at sm0 ed0⊢
 refine⟨_,(Z2 (Zw 7 Zv.nd rfl (Or.inl rfl) (Yh Z0) (by rfl) (by rfl)) Zd),?_⟩
 refine⟨leN rfl,fun L n_L=>?_⟩
 have sm1:=Z6 n_L (.lst [])
 have eL0:(upd H1 L (.lst [])) L=some (.lst []):=Z5
 generalize upd H1 L (.lst [])=H2 at sm1 eL0⊢
 have nHL:H L=none:=sm0.free n_L
 have m0:mea or (ps.map (·.1))≤21 * ps.length:=by
  have:=oN d1 (ks:=ps.map (·.1)) fun k hk=>(kok.st k hk).1
  rwa [pi]at this
 have sg:Stg H H2 d L or (total / AT) ps.length (mea or (ps.map (·.1))) ps ps []:=⟨sm0.trans sm1,sm1 _ _ ed0,⟨[],eL0,.nil⟩,kok,yF _,by rw[Aj];omega⟩
 have dL:d≠L:=Zf ed0 n_L
 generalize hbar:total / AT=bar at sg hq⊢
 generalize mea or (ps.map (·.1))=M at m0 sg
 refine⟨_,(Z2 (Zw 8 Zv.nd rfl (Or.inl rfl) (Z4 cf hr (Z1 (pv 2) (Z1 (pv 5) (Z1 (pv 6) Z0 (by rfl)) (by rfl)) (by rfl))) (by rfl) (by rfl)) Zd),?_⟩
 refine We (fun σ' H'=>∃(o8:V)(AX:Sps)(fs:Sps),σ'=[some (.ref q),some (.int AT),some (.int or),some (.ref c),some (.int total),some (.int bar),some (.ref d),some (.ref L),some o8,none]∧Stg H H' d L or bar ps.length M ps AX fs∧Way or bar ps fs AX∧((o8=.non∧Nof or bar AX)∨∃(p:Addr)(k:Int×Int),o8=.ref p∧KAt H' p k∧Fst or bar AX k.1 (k.2 / 2))) ?_ ?_
 ·intro nx hnx
  exact⟨_,rfl,_,rfl,_,rfl,or,_,d,ps,rfl,sg.ed,pl,fun H' g n=>hnx _ _ ⟨.non,ps,[],rfl,sg.same g,Way.refl,.inl ⟨rfl,n⟩⟩,fun p k H' g ek ft=>hnx _ _ ⟨.ref p,ps,[],rfl,sg.same g,Way.refl,.inr ⟨p,k,rfl,ek,ft⟩⟩⟩
 rintro σ' H3 ⟨o8,ps1,fs,rfl,sg,way,alt⟩
 refine⟨_,(Z2 (U7 zy (Zi lT (pv 8) Ua (Zk _)) (Z2 (Xe zy rfl (Qx (Z4 c9 hr (Z1 (pv 8) Z0 (by rfl)))) (Z8 (i:=9) Zv.nd rfl (Or.inl rfl))
 (Z7 (Yl (Zi (rG hr.units) (pv 9) (pv 6) (by with_unfolding_all rfl)) (Z2 (Xj (T9 zF Ao Ap Wc (pv 7) (Z1 (Zr (Z1 (pv 9) (Z1 (Um (Xh hr) (pv 6) (pv 9) (fun _ _=>rfl)) Z0 (by rfl)) (by rfl))) Z0 (by rfl))))
 (Z7 (Xj (Z4 dk hr (Z1 (pv 6) (Z1 (pv 9) (Z1 (Um (Xh hr) (pv 6) (pv 9) (fun _ _=>rfl)) Z0 (by rfl)) (by rfl)) (by rfl)))))) Zu)))
 (Z7 (Zw 8 Zv.nd rfl (Or.inl rfl) (Z4 cf hr (Z1 (pv 2) (Z1 (pv 5) (Z1 (pv 6) Z0 (by rfl)) (by rfl)) (by rfl))) (by rfl) (by rfl))))) Zd),?_⟩
 refine Tt (fun σ H'=>∃(o8:V)(o9:Option V)(AX:Sps)(fs:Sps),σ=[some (.ref q),some (.int AT),some (.int or),some (.ref c),some (.int total),some (.int bar),some (.ref d),some (.ref L),some o8,o9]∧Stg H H' d L or bar ps.length M ps AX fs∧Way or bar ps fs AX∧((o8=.non∧Nof or bar AX)∨∃(p:Addr)(k:Int×Int),o8=.ref p∧KAt H' p k∧Fst or bar AX k.1 (k.2 / 2))) (fun _ H'=>muD or d H') ⟨o8,none,ps1,fs,rfl,sg,way,alt⟩ ?_ ?_
 ·rintro σ H4 ⟨o8,o9,ps2,fs,rfl,sg,way,alt⟩
  refine⟨_,rfl,rfl,_,rfl,?_⟩
  rcases alt with⟨rfl,nof⟩|⟨p,k,rfl,A0,ft⟩
  ·rw[yG rfl]
   refine Xd ⟨_,(Z7 (Ze (Zr (Z1 (Zr (Z1 (pv 1) (Z1 (pv 2) (Z1 (Xl Td rfl bB PyProof.Rows.boot_tuple (Z1 (Zo (Rf rfl hr.units) rfl aA PyProof.Rows.boot_sorted (Z1 (Tl At PySem.F.slot_dict_items PySem.F.type_dict_items R3 (pv 6)) Z0 (by rfl))) Z0 (by rfl))) (Z1 (pv 4) Z0 (by rfl)) (by rfl)) (by rfl)) (by rfl))) (Z1 (pv 7) Z0 (by rfl)) (by rfl))))),?_⟩
   refine⟨_,rfl,_,rfl,_,rfl,Qe sg.ed,d,_,rfl,rfl,sg.ed,fun v nv=>?_⟩
   have g1:=Z6 nv (bK v d)
   have e_v:(upd H4 v (bK v d)) v=some (bK v d):=Z5
   have sg:=sg.same g1
   generalize upd H4 v (bK v d)=H5 at e_v sg⊢
   have pl2:=sg.le
   refine⟨v,d,ps2,rfl,e_v,sg.ed,by omega,fun H6 bs g6 pr6 l nl _=>?_⟩
   have sg:=sg.same g6
   have gg:Same H6 H6:=Same.refl _
   have gz:=Z6 nl (.lst (bs.map V.ref))
   have A3:(upd H6 l (.lst (bs.map V.ref))) l=some (.lst (bs.map V.ref)):=Z5
   have sg:=sg.same gz
   have gg:=gg.trans gz
   generalize upd H6 l (.lst (bs.map V.ref))=H7 at A3 sg gg gz⊢
   refine⟨l,_,rfl,.inl ⟨SqL.of A3,?_⟩⟩
   intro u n_u
   generalize hz:upd _ u _=H8
   have gz:=Zj hz n_u
   have e_u:=Zx hz
   clear hz
   have gg:=gg.trans gz
   have sg:=sg.same gz
   refine⟨_,rfl,leN rfl,?_⟩
   intro r n_r
   generalize hz:upd _ r _=H9
   have gz:=Zj hz n_r
   have e_r:=Zx hz
   clear hz
   have gg:=gg.trans gz
   have e_u:=gz _ _ e_u
   have sg:=sg.same gz
   refine⟨_,rfl,leN rfl,?_⟩
   intro t n_t
   generalize hz:upd _ t _=H10
   have gz:=Zj hz n_t
   have A7:=Zx hz
   clear hz
   have gg:=gg.trans gz
   have e_u:=gz _ _ e_u
   have e_r:=gz _ _ e_r
   have sg:=sg.same gz
   have few:=sg.few
   exact hq t r L _ fs ps2 sg.sm A7 nHL ⟨u,bs,e_r,e_u,Paired.mapP pr6 fun _ _ f=>Y2 gg f⟩ sg.eL (by omega) (way.done nof) sg.ok sg.le
  ·rw[ze (fun z=>by cases z)]
   refine W3 ⟨_,rfl,p,k,rfl,A0,fun t a b H5 g5 A7 A5 AZ=>⟨t,rfl,⟨_,SqT.of A7⟩,?_⟩⟩
   have mu4:muD or d H4=mea or (ps2.map (·.1)):=jI sg.ed
   rw[mu4]
   have sg5:=sg.same g5
   generalize k.1=h at ft A5 AZ
   generalize k.2 / 2=jj at ft A5 AZ
   have hd:=ft.hd
   refine Pk (xs:=[.ref a,.ref b]) (fun j σ H'=>∃(o9:Option V),σ=[some (.ref q),some (.int AT),some (.int or),some (.ref c),some (.int total),some (.int bar),some (.ref d),some (.ref L),some (.ref p),o9]∧Stg H H' d L or bar ps.length M ps (pjs ps2 h jj j) (fs++tjs ps2 h jj j)∧H' t=some (.tup [.ref a,.ref b])∧KAt H' a (loK h jj)∧KAt H' b (hiK h jj)) ⟨_,rfl,by rw[show fs++tjs ps2 h jj 0=fs from Ab fs];exact sg5,A7,A5,AZ⟩ ?_ ?_ ?_
   ·rintro j σ H' _ ⟨_,_,_,e,_⟩
    exact SqT.of e
   ·rintro j x σ H6 N B1 R hN hR hx ⟨o9,rfl,sg,A7,A5,AZ⟩
    obtain⟨o,rfl,e_o,j2⟩:∃(o:Addr),x=.ref o∧KAt H6 o (kjs h jj j)∧j<2:=by
     match j,hx with
     | 0,hx=>
      cases hx
      exact⟨a,rfl,A5,by decide⟩
     | 1,hx=>
      cases hx
      exact⟨b,rfl,AZ,by decide⟩
     | j+2,hx=>simp at hx
    obtain⟨nx1,nx2⟩:=n4 ps2 h jj j2
    rw[nx1,nx2,←zA]at hN
    have kh:(kjs h jj j).1=h:=by
     match j with
     | 0=>rfl
     | _+1=>rfl
    generalize pjs ps2 h jj j=ps3 at sg hN
    generalize fs++tjs ps2 h jj j=fs3 at sg hN
    generalize kjs h jj j=ko at e_o hN kh
    refine⟨_,rfl,_,rfl,d,_,rfl,Yx sg.ed e_o,_,rfl,W7 (fun cc=>?_) (fun cc=>?_)⟩
    ·have kin:=Wn.mp cc
     have hm:=iS kin
     have nxo:=Pm (k:=ko) sg.ok (by rw[kh];exact hd)
     have ef:aI ps3 ko=b_ ps3 ko (cnt ps3 ko) (cnt ps3 (ad ko)+cnt ps3 ko):=by unfold aI;rw[yC kin];rfl
     have et:aV ps3 ko=[(ko,cnt ps3 ko)]:=by unfold aV;rw[yC kin]
     rw[et]at hN nxo
     generalize cnt ps3 ko=m at hm ef hN
     have gm:DGet H6 d (.ref o) (some (.int m)):=by rw[←hm];exact Yx sg.ed e_o
     obtain⟨fas,eL,pF⟩:=sg.eL
     refine⟨_,rfl,.inl ⟨rfl,_,SqL.of eL⟩,_,rfl,_,rfl,_,rfl,d,_,rfl,gm,leN rfl,fun u nu=>?_⟩
     have s7:=Z6 nu (.tup [.ref o,.int m])
     have sg:=sg.same s7
     have A7:=s7 _ _ A7
     have A5:KAt _ a _:=s7 _ _ A5
     have AZ:KAt _ b _:=s7 _ _ AZ
     have e_o:KAt _ o _:=s7 _ _ e_o
     have eL:=s7 _ _ eL
     have pF:=Paired.mapP pF fun _ _ f=>Y2 s7 f
     have fu:FT (upd H6 u (.tup [.ref o,.int m])) u (ko,m):=⟨o,Z5,e_o⟩
     generalize upd H6 u (.tup [.ref o,.int m])=H7 at sg A7 A5 AZ e_o eL pF fu⊢
     have few:=sg.few
     have fal:=yT pF
     have tL:∀{x:Addr}{xs:List V}{o:HO},H7 x=some (.tup xs)→upd H7 L o x=some (.tup xs):=fun{x xs o} e=>by rw[Za (Ta e eL (by intro z;cases z))];exact e
     refine⟨L,_,_,rfl,rfl,eL,Zm (by rw[pi];omega),?_⟩
     have sm8:Same H (upd H7 L (.lst (fas.map V.ref++[.ref u]))):=fun x w e=>by rw[Za (Zf e nHL)];exact sg.sm _ _ e
     have ed8:(upd H7 L (.lst (fas.map V.ref++[.ref u]))) d=some (.dT (ae ps3)):=by rw[Za dL];exact sg.ed
     have eL8:(upd H7 L (.lst (fas.map V.ref++[.ref u]))) L=some (.lst ((fas++[u]).map V.ref)):=by rw[yV];exact Z5
     have tF:∀{x:Addr}{p:(Int×Int)×Int},FT H7 x p→FT (upd H7 L (.lst (fas.map V.ref++[.ref u]))) x p:=fun{x p} ⟨y,e1,e2⟩=>⟨y,tL e1,tL e2⟩
     have pF8:Paired (FT (upd H7 L (.lst (fas.map V.ref++[.ref u])))) (fas++[u]) (fs3++[(ko,m)]):=AS (Paired.mapP pF fun _ _ f=>tF f) (tF fu)
     have A7:=tL (o:=.lst (fas.map V.ref++[.ref u])) A7
     have A5:KAt _ a _:=tL (o:=.lst (fas.map V.ref++[.ref u])) A5
     have AZ:KAt _ b _:=tL (o:=.lst (fas.map V.ref++[.ref u])) AZ
     have e_o:KAt _ o _:=tL (o:=.lst (fas.map V.ref++[.ref u])) e_o
     generalize upd H7 L (.lst (fas.map V.ref++[.ref u]))=H8 at sm8 ed8 eL8 A7 A5 AZ e_o pF8⊢
     have gm8:DGet H8 d (.ref o) (some (.int m)):=by rw[←hm];exact Yx ed8 e_o
     have le3:=sg.le
     refine⟨_,rfl,_,rfl,_,rfl,_,rfl,d,_,rfl,gm8,d,o,ps3,ko,m,rfl,ed8,e_o,hm,by omega,fun H9 g9 e9=>?_⟩
     rw[←ef]at e9
     have nx2:=nxo.2.1
     have nx3:=nxo.2.2
     rw[Ac]at nx2
     have td:∀{x:Addr}{xs:List V},H8 x=some (.tup xs)→H9 x=some (.tup xs):=fun{x xs} e=>(Zc (g9 x _ (by rw[Zh (Ta e ed8 (by intro z;cases z))];exact e))).2
     refine hN _ _ ⟨_,rfl,⟨fun x w e=>(Zc (g9 x _ (by rw[Zh (Zf e n_d)];exact sm8 _ _ e))).2,e9,⟨fas++[u],(Zc (g9 L _ (by rw[Zh (Ne.symm dL)];exact eL8))).2,Paired.mapP pF8 fun _ _ ⟨y,e1,e2⟩=>⟨y,td e1,td e2⟩⟩,nxo.1,by omega,by rw[yJ,Ac];omega⟩,td A7,td A5,td AZ⟩
    ·have kin:ko∉ps3.map (·.1):=fun z=>cc (Wn.mpr z)
     have ef:aI ps3 ko=ps3:=by unfold aI;rw[yy kin]
     have et:aV ps3 ko=[]:=by unfold aV;rw[yy kin]
     rw[ef,et,Ab]at hN
     exact hN _ _ ⟨_,rfl,sg,A7,A5,AZ⟩
   ·rintro σ H6 ⟨o9,rfl,sg,_,_,_⟩
    have sg:Stg H H6 d L or bar ps.length M ps (aS ps2 h jj) (fs++flP ps2 h jj):=sg
    have way:=way.snoc ft (.refl _)
    have so:=Tx (j:=jj) sg5.ok hd
    have fp:=qP ft.in_
    have le3:=sg.le
    generalize aS ps2 h jj=ps3 at sg way so le3
    generalize fs++flP ps2 h jj=fs3 at sg way
    have less:mea or (ps3.map (·.1))<mea or (ps2.map (·.1)):=by omega
    refine⟨_,rfl,_,rfl,_,rfl,or,_,d,ps3,rfl,sg.ed,by omega,fun H' g n=>⟨⟨.non,o9,ps3,fs3,rfl,sg.same g,way,.inl ⟨rfl,n⟩⟩,?_⟩,fun p' k' H' g ek ft'=>⟨⟨.ref p',o9,ps3,fs3,rfl,sg.same g,way,.inr ⟨p',k',rfl,ek,ft'⟩⟩,?_⟩⟩
    ·rw[jI (sg.same g).ed];exact less
    ·rw[jI (sg.same g).ed];exact less
 ·rintro σ H' Q1 Q2 m ⟨v,e,e2,b,e3,r⟩
  exact⟨v,e,e2,b,e3,m _ _ r⟩
end K31
namespace Ld
open PySem L2
structure Pok(or:Int)(ps:Sps):Prop where
 kok:Kok or (ps.map (·.1))
 pos:∀p∈ps,1≤p.2
theorem Pok.perm{or:Int}{ps qs:Sps}(h:Pok or ps)(p:qs.Perm ps):Pok or qs:=⟨h.kok.perm (p.map _),fun x hx=>h.pos x (p.mem_iff.mp hx)⟩
theorem f9{or:Int}:Pok or []:=⟨⟨zV,fun _ h=>nomatch h⟩,fun _ h=>nomatch h⟩
theorem Ux{or:Int}{ps:Sps}(h:Pok or ps)(k:Int×Int):0≤cnt ps k:=by
 by_cases hk:k∈ps.map (·.1)
 ·obtain⟨p,hp,rfl⟩:=yD.mp hk
  rw[X1 h.kok.nd hp]
  have:=h.pos p hp
  omega
 ·rw[Y1 hk]
  exact y8 _
theorem j9{or:Int}{ps:Sps}(h:Pok or ps){k:Int×Int}(hk:k∈ps.map (·.1)):1≤cnt ps k:=by
 obtain⟨p,hp,rfl⟩:=yD.mp hk
 rw[X1 h.kok.nd hp]
 exact h.pos p hp
theorem tP{or:Int}{ps:Sps}{k:Int×Int}{n:Int}(h:Pok or ps)(hk:0≤k.1∧k.1≤or∧0≤k.2∧k.2<2 ^ (or - k.1).toNat)(hn:1≤n):Pok or (ao ps k n):=by
 refine⟨⟨Ym h.kok.nd,fun x hx=>?_⟩,fun p hp=>?_⟩
 ·rw[Wg]at hx
  split at hx
  ·exact h.kok.st x hx
  ·rcases yY.mp hx with hx | hx
   ·exact h.kok.st x hx
   ·rw[yN.mp hx];exact hk
 ·unfold ao at hp
  split at hp
  ·obtain⟨q,hq,rfl⟩:=yD.mp hp
   split
   ·exact hn
   ·exact h.pos q hq
  ·rcases yY.mp hp with hp | hp
   ·exact h.pos p hp
   ·rw[yN.mp hp];exact hn
theorem iW{or:Int}{ps:Sps}{h j:Int}(o:Pok or ps)(i:loK h j∈ps.map (·.1)∨hiK h j∈ps.map (·.1))(hd:h<or):Pok or (aS ps h j):=by
 have so:=Tx (j:=j) o.kok hd
 refine⟨so.1,fun p hp=>?_⟩
 have e:=Vw so.1.nd hp
 rw[Vv i]at e
 split at e
 ·cases e
 ·split at e
  ·injection e with e
   injection e with e
   rw[←e]
   unfold jn
   have a:=Ux o (loK h j)
   have b:=Ux o (hiK h j)
   have c:=Ux o (upK h j)
   rcases i with i | i
   ·have:=j9 o i
    omega
   ·have:=j9 o i
    omega
  ·exact o.pos p ((P5 o.kok.nd).mpr e)
theorem sI{or bar:Int}{ps fs AX:Sps}(s:Stl or bar ps fs AX):Pok or ps→Pok or AX∧AX.length≤ps.length:=by
 induction s with
 | done n=>exact fun o=>⟨o,yF _⟩
 | step f p1 s ih=>
  intro o
  have q:=iW o f.in_ f.hd
  have z:=ih (q.perm p1)
  exact⟨z.1,zG z.2 (by rw[p1.length_eq];exact(Tx o.kok f.hd).2.2)⟩
theorem pe{or bar:Int}{ps fs AX qs:Sps}(s:Stl or bar ps fs AX)(p:ps.Perm qs)(nd:(ps.map (·.1)).Nodup):∃qs',Stl or bar qs fs qs'∧qs'.Perm AX:=by
 cases s with
 | done n=>exact⟨qs,.done (P4 n p nd),p.symm⟩
 | step f p1 s=>exact⟨AX,by rw[kZ p nd];exact .step (f.perm p nd) (p1.trans (Oa p nd f.in_)) s,.refl _⟩
theorem qG{or bar:Int}{ps:Sps}:Nof or bar ps∨∃h j,Fst or bar ps h j:=by
 by_cases n:Nof or bar ps
 ·exact .inl n
 refine .inr ?_
 have go:∀l:List (Int×Int),l.Pairwise (fun a b=>leK a b=true)→(∀k∈l,k∈ps.map (·.1))→(∃k∈l,k.1<or∧jn ps k.1 (k.2 / 2)≤bar)→∃k∈l,k.1<or∧jn ps k.1 (k.2 / 2)≤bar∧∀k'∈l,k'.1<or→jn ps k'.1 (k'.2 / 2)≤bar→k.1<k'.1∨(k.1=k'.1∧k.2 / 2≤k'.2 / 2):=by
  intro l
  induction l with
  | nil=>rintro _ _ ⟨k,hk,_⟩;cases hk
  | cons x l ih=>
   intro pw sub ex
   rw[zR]at pw
   by_cases c:x.1<or∧jn ps x.1 (x.2 / 2)≤bar
   ·refine⟨x,.head _,c.1,c.2,fun k' hk' _ _=>?_⟩
    rcases yU.mp hk' with e | hk'
    ·rw[e];exact .inr ⟨rfl,y8 _⟩
    ·rcases Vx.mp (pw.1 k' hk')with h | ⟨h,g⟩
     ·exact .inl h
     ·exact .inr ⟨h,by omega⟩
   ·obtain⟨k,hk,h1,h2⟩:=ex
    have hk:k∈l:=(yU.mp hk).resolve_left fun e=>c (by rw[←e];exact⟨h1,h2⟩)
    obtain⟨k0,m,a1,a2,a3⟩:=ih pw.2 (fun z hz=>sub z (.tail _ hz)) ⟨k,hk,h1,h2⟩
    refine⟨k0,.tail _ m,a1,a2,fun k' hk' b1 b2=>?_⟩
    rcases yU.mp hk' with e | hk'
    ·exact absurd (by rw[←e];exact⟨b1,b2⟩) c
    ·exact a3 k' hk' b1 b2
 have mk:∀k,k∈eI (ps.map (·.1))↔k∈ps.map (·.1):=fun k=>(Sr _).mem_iff
 obtain⟨k,hk⟩:=Classical.not_forall.mp n
 obtain⟨hk1,hk⟩:=Classical.not_imp.mp hk
 obtain⟨hk2,hk⟩:=Classical.not_imp.mp hk
 obtain⟨k0,m,a1,a2,a3⟩:=go (eI (ps.map (·.1))) (gj _) (fun k h=>(mk k).mp h) ⟨k,(mk k).mpr hk1,hk2,by omega⟩
 refine⟨k0.1,k0.2 / 2,?_,a1,a2,fun k' h1 h2 h3=>a3 k' ((mk k').mpr h1) h2 h3⟩
 rcases Q6 k0 with e | e
 ·exact .inl (by rw[←e];exact(mk k0).mp m)
 ·exact .inr (by rw[←e];exact(mk k0).mp m)
theorem Nk{or bar:Int}:∀(n:Nat)(ps:Sps),mea or (ps.map (·.1))≤n→Kok or (ps.map (·.1))→∃fs AX,Stl or bar ps fs AX
 | n,ps,hn,o=>by
  rcases qG (or:=or) (bar:=bar) (ps:=ps)with z | ⟨h,j,f⟩
  ·exact⟨[],ps,.done z⟩
  ·have so:=Tx (j:=j) o f.hd
   have fp:=qP f.in_
   match n,hn with
   | 0,hn=>omega
   | n+1,hn=>
    obtain⟨fs,AX,s⟩:=Nk n (aS ps h j) (by omega) so.1
    exact⟨_,_,.step f (.refl _) s⟩
def cZ(or bar:Int)(ps:Sps):Sps:=aZ (Classical.epsilon fun AX=>∃fs,Stl or bar ps fs AX)
def xi(or bar:Int)(ps:Sps):Sps:=Classical.epsilon fun fs=>∃AX,Stl or bar ps fs AX
theorem Tz{or bar:Int}{ps fs AX:Sps}(s:Stl or bar ps fs AX)(nd:(ps.map (·.1)).Nodup):cZ or bar ps=aZ AX∧xi or bar ps=fs:=by
 refine⟨?_,?_⟩
 ·obtain⟨gs,t⟩:=Classical.epsilon_spec (p:=fun AX=>∃fs,Stl or bar ps fs AX) ⟨AX,fs,s⟩
  exact Qm (kP t s (.refl _) nd).2
 ·obtain⟨qs,t⟩:=Classical.epsilon_spec (p:=fun fs=>∃AX,Stl or bar ps fs AX) ⟨fs,AX,s⟩
  exact(kP t s (.refl _) nd).1
theorem sV{or bar:Int}{ps qs fs qs':Sps}(s:Stl or bar qs fs qs')(p:qs.Perm ps)(nd:(qs.map (·.1)).Nodup):cZ or bar ps=aZ qs'∧xi or bar ps=fs:=by
 obtain⟨AX,t,p'⟩:=pe s p nd
 have:=Tz t ((p.map _).nodup_iff.mp nd)
 exact⟨this.1.trans (Qm p'),this.2⟩
theorem jB(ps:Sps):aZ (aZ ps)=aZ ps:=Qm (Y8 ps)
theorem Te{or bar:Int}{ps:Sps}(o:Pok or ps):Pok or (cZ or bar ps)∧aZ (cZ or bar ps)=cZ or bar ps∧Nof or bar (cZ or bar ps)∧ag (cZ or bar ps)=ag ps∧(cZ or bar ps).length≤ps.length:=by
 obtain⟨fs,AX,s⟩:=Nk (or:=or) (bar:=bar) _ ps (yF _) o.kok
 have e:=(Tz s o.kok.nd).1
 have f:=Nl s o.kok.nd
 have g:=sI s o
 rw[e]
 refine⟨g.1.perm (Y8 AX),jB AX,P4 f.2.1 (Y8 AX).symm f.1,by rw[U3 (Y8 AX)];exact f.2.2,by rw[(Y8 AX).length_eq];exact g.2⟩
def aG(xs ys:Sps):Sps:=ys.foldl (fun a p=>ao a p.1 (cnt a p.1+p.2)) xs
theorem iJ(xs ys:Sps)(p:(Int×Int)×Int):aG xs (ys++[p])=ao (aG xs ys) p.1 (cnt (aG xs ys) p.1+p.2):=by
 unfold aG
 rw[List.foldl_append]
 rfl
theorem Vl(xs ys:Sps)(p:(Int×Int)×Int):aG xs (p::ys)=aG (ao xs p.1 (cnt xs p.1+p.2)) ys:=rfl
theorem i_:∀{ys xs:Sps},(xs.map (·.1)).Nodup→((aG xs ys).map (·.1)).Nodup
 | [],_,h=>h
 | _::ys,_,h=>i_ (ys:=ys) (Ym h)
theorem T4:∀(ys xs:Sps),(aG xs ys).length≤xs.length+ys.length
 | [],xs=>yF _
 | p::ys,xs=>by
  have a:=T4 ys (ao xs p.1 (cnt xs p.1+p.2))
  have b:=W6 xs p.1 (cnt xs p.1+p.2)
  rw[Vl,zd]
  omega
theorem Sn:∀{ys xs:Sps},(xs.map (·.1)).Nodup→ag (aG xs ys)=ag xs+ag ys
 | [],xs,_=>by
  show ag xs=ag xs+0
  omega
 | p::ys,xs,h=>by
  rw[Vl,Sn (Ym h),Ni h]
  unfold ag
  rw[yE,yZ]
  omega
theorem So{or:Int}:∀{ys xs:Sps},Pok or xs→(∀p∈ys,1≤p.2∧0≤p.1.1∧p.1.1≤or∧0≤p.1.2∧p.1.2<2 ^ (or - p.1.1).toNat)→Pok or (aG xs ys)
 | [],_,h,_=>h
 | p::ys,xs,h,g=>by
  have gp:=g p (.head _)
  have:=Ux h p.1
  exact So (ys:=ys) (tP h gp.2 (by omega)) fun q hq=>g q (.tail _ hq)
theorem Pok.each{or:Int}{ys:Sps}(h:Pok or ys):∀p∈ys,1≤p.2∧0≤p.1.1∧p.1.1≤or∧0≤p.1.2∧p.1.2<2 ^ (or - p.1.1).toNat:=fun p hp=>⟨h.pos p hp,h.kok.st p.1 (yD.mpr ⟨p,hp,rfl⟩)⟩
theorem gy:∀{ys xs:Sps}(k:Int×Int),(ys.map (·.1)).Nodup→au (aG xs ys) k=if k∈ys.map (·.1)then some (.int (cnt xs k+cnt ys k))else au xs k
 | [],xs,k,_=>by
  rw[List.map_nil,yy zE]
  rfl
 | p::ys,xs,k,nd=>by
  rw[yE,zl]at nd
  rw[Vl,gy k nd.2,yE]
  have cp:cnt (p::ys) k=if p.1=k then p.2 else cnt ys k:=by
   unfold cnt
   rw[Yz]
   split <;> rename_i e
   ·split at e <;> rename_i z
    ·rw[yC z];injection e with e;injection e with e;exact e.symm
    ·rw[yy z,e]
   ·split at e <;> rename_i z
    ·exact absurd rfl (e p.2)
    ·rw[yy z]
     split
     ·rename_i n q;exact absurd q (e n)
     ·rfl
  by_cases e:p.1=k
  ·have hk:k∉ys.map (·.1):=by rw[←e];exact nd.1
   rw[yy hk,X8,yC e.symm,yC (show k∈p.1::ys.map (·.1) by rw[e];exact .head _),cp,yC e,e]
  ·rw[cp,yy e]
   by_cases hk:k∈ys.map (·.1)
   ·rw[yC hk,yC (zP _ hk),X0,yy (Ne.symm e)]
   ·rw[yy hk,yy (fun q=>(yU.mp q).elim (fun z=>e z.symm) hk),X8,yy (Ne.symm e)]
def bj(AT or:Int)(xs ys:Sps):Sps:=cZ or (ag (aG xs ys) / AT) (aG xs ys)
structure Lok(AT or:Int)(xs:Sps):Prop where
 pok:Pok or xs
 srt:aZ xs=xs
 nof:Nof or (ag xs / AT) xs
theorem sB{AT or:Int}:Lok AT or []:=⟨f9,by unfold aZ;simp,fun _ h=>nomatch h⟩
theorem hE{AT or:Int}{ps:Sps}(o:Pok or ps):Lok AT or (cZ or (ag ps / AT) ps):=by
 obtain⟨a,b,c,d,_⟩:=Te (bar:=ag ps / AT) o
 exact⟨a,b,by rw[d];exact c⟩
theorem Up{AT or:Int}{xs ys:Sps}(hx:Pok or xs)(hy:Pok or ys):Lok AT or (bj AT or xs ys)∧ag (bj AT or xs ys)=ag xs+ag ys∧(bj AT or xs ys).length≤xs.length+ys.length:=by
 have o:=So hx hy.each
 obtain⟨a,b,c,d,e⟩:=Te (bar:=ag (aG xs ys) / AT) o
 exact⟨hE o,by unfold bj;rw[d,Sn hx.kok.nd],zG e (T4 ys xs)⟩
def thL(AT or:Int)(t:Th):Sps:=cZ or (t.many / AT) [((0,t.num),t.many)]
def bZ(AT or:Int)(ts:List Th):Sps:=ts.foldl (fun a t=>bj AT or a (thL AT or t)) []
def ThL(or:Int)(t:Th):Prop:=0≤t.num∧t.num<2 ^ or.toNat∧1≤t.many
theorem Ru{or:Int}{t:Th}(d0:0≤or)(h:ThL or t):Pok or [((0,t.num),t.many)]:=by
 refine⟨⟨zl.mpr ⟨zE,zV⟩,fun k hk=>?_⟩,fun p hp=>?_⟩
 ·have e:k=(0,t.num):=yN.mp hk
  rw[e]
  refine⟨y8 _,d0,h.1,?_⟩
  show t.num<2 ^ (or - 0).toNat
  rw[Int.sub_zero]
  exact h.2.1
 ·rw[yN.mp hp]
  exact h.2.2
theorem sn(t:Th):ag [((0,t.num),t.many)]=t.many:=by
 show t.many+0=t.many
 omega
theorem Ng{AT or:Int}{t:Th}(d0:0≤or)(h:ThL or t):Lok AT or (thL AT or t)∧ag (thL AT or t)=t.many∧(thL AT or t).length≤1:=by
 have o:=Ru d0 h
 have l:=hE (AT:=AT) o
 obtain⟨a,b,c,d,e⟩:=Te (bar:=t.many / AT) o
 rw[sn]at l d
 exact⟨l,d,e⟩
theorem nt(AT or:Int)(ts:List Th)(t:Th):bZ AT or (ts++[t])=bj AT or (bZ AT or ts) (thL AT or t):=by
 unfold bZ
 rw[List.foldl_append]
 rfl
def bg(ts:List Th):Int:=(ts.map (·.many)).sum
theorem j5{AT or:Int}(d0:0≤or):∀(ts:List Th)(a:Sps),Lok AT or a→(∀t∈ts,ThL or t)→Lok AT or (ts.foldl (fun a t=>bj AT or a (thL AT or t)) a)∧ag (ts.foldl (fun a t=>bj AT or a (thL AT or t)) a)=ag a+bg ts∧(ts.foldl (fun a t=>bj AT or a (thL AT or t)) a).length≤a.length+ts.length
 | [],a,ha,_=>⟨ha,by show ag a=ag a+0;omega,yF _⟩
 | t::ts,a,ha,h=>by
  have ht:=Ng (AT:=AT) d0 (h t (.head _))
  have m:=Up (AT:=AT) ha.pok ht.1.pok
  obtain⟨i1,i2,i3⟩:=j5 d0 ts _ m.1 fun x hx=>h x (.tail _ hx)
  refine⟨i1,?_,?_⟩
  ·rw[List.foldl_cons,i2,m.2.1,ht.2.1]
   unfold bg
   rw[yE,yZ]
   omega
  ·rw[List.foldl_cons,zd]
   have:=m.2.2
   have:=ht.2.2
   omega
theorem Q0{AT or:Int}(d0:0≤or){ts:List Th}(h:∀t∈ts,ThL or t):Lok AT or (bZ AT or ts)∧ag (bZ AT or ts)=bg ts∧(bZ AT or ts).length≤ts.length:=by
 obtain⟨a,b,c⟩:=j5 (AT:=AT) d0 ts [] sB h
 refine⟨a,?_,?_⟩
 ·show ag (ts.foldl _ [])=_
  rw[b]
  show(0:Int)+bg ts=bg ts
  omega
 ·show(ts.foldl _ []).length≤_
  rw[Aj,AK]at c
  exact c
end Ld
namespace K31
open PySem L2 Ld
def jP(K:W.Frag):Sp:=fun vs H Q _=>∃(a S:Addr)(ns:List Int),vs=[.ref a]∧Pn K S ns H a∧∀(n:Int)(H':Hp),1≤n→Pn K S ns H' a→Grw a H H'→Q (.int n) H'
def ku(K:W.Frag):Sp:=fun vs H Q _=>∃(a S:Addr)(ns:List Int),vs=[.ref a]∧Pn K S ns H a∧∀(l:Addr)(AT or:Int)(H':Hp),av a H' l=some (.lst [.int AT,.int or])→1≤AT→AT≤20→1≤or→or≤10→Pn K S ns H' a→Grw a H H'→Q (.ref l) H'
variable{P:Program}{w:World}{K:W.Frag}{mg:Str→Option Value}{base:Heap}{f:Addr}{fd:FuncData}
theorem pX(ah:Has P w K mg base "_law_take" 1 ["_law_pen_here","_law_most"] (bY K))(F:Fun K "_law_sizes" "_law_sizes" cY f fd):FnOk P w K mg base CX0 2 f fd ["_law_pen_here"] (ku K):=by
 refine F.ok Qs (fun vs H Q E h=>?_) (fun cdv A outer s H vs Q E hr h=>?_)
 ·obtain⟨a,S,ns,rfl,_⟩:=h
  rfl
 obtain⟨a,S,ns,rfl,hp,hq⟩:=h
 refine⟨_,(Z2 (Zw 1 Qs.nd rfl (Or.inl rfl) (Zt Y7 (Yh (Z1 Z3 (Z1 Z3 (Z1 Z3 (Z1 Z3 (Z1 Z3 (Z1 Z3 (Z1 Z3 (Z1 (Zb Zs Z3 (Z4 ah hr (Z1 (pv 0) (Z1 Z3 Z0 (by rfl)) (by rfl)))) Z0 (by rfl)) (by rfl)) (by rfl)) (by rfl)) (by rfl)) (by rfl)) (by rfl)) (by rfl))) (Z4 ah hr (Z1 (pv 0) (Z1 Z3 Z0 (by rfl)) (by rfl))) (fun _ _=>rfl)) (by rfl) (by rfl))
 (Z7 (Ze (Yh (Z1 (pv 1) (Z1 (Zb Zs Z3 (Z4 ah hr (Z1 (pv 0) (Z1 (Zt Y7 (Yh (Z1 Z3 (Z1 Z3 (Z1 Z3 Z0 (by rfl)) (by rfl)) (by rfl))) (Z4 ah hr (Z1 (pv 0) (Z1 Z3 Z0 (by rfl)) (by rfl))) (fun _ _=>rfl)) Z0 (by rfl)) (by rfl)))) Z0 (by rfl)) (by rfl)))))),?_⟩
 refine⟨_,rfl,a,S,ns,20,rfl,hp,Wz rfl,ltI rfl,fun d1 H1 x0 x1 hp1 g1=>⟨_,_,rfl,rfl,leN rfl,fun p np=>?_⟩⟩
 have x1:d1<20:=x1
 have g2:=hp1.grw (Z6 np (.lst [.int 1,.int 2,.int 3,.int 4,.int 5,.int 8,.int 20,.int (1+d1)]))
 have pa:=hp1.ne np
 have hp2:=hp1.laid (o:=.lst [.int 1,.int 2,.int 3,.int 4,.int 5,.int 8,.int 20,.int (1+d1)]) np
 have A0:av a (upd H1 p (.lst [.int 1,.int 2,.int 3,.int 4,.int 5,.int 8,.int 20,.int (1+d1)])) p=some (.lst [.int 1,.int 2,.int 3,.int 4,.int 5,.int 8,.int 20,.int (1+d1)]):=by rw[Zh pa];exact Z5
 refine⟨_,rfl,a,S,ns,8,rfl,hp2,Wz rfl,ltI rfl,fun d2 H3 y0 y1 hp3 g3=>?_⟩
 have A0:=g3 _ _ A0
 obtain⟨v,hv,mv⟩:=oK (d:=d2) (Zc A0).2 y0 y1
 obtain⟨AT,rfl,r0,r1⟩:∃z:Int,v=.int z∧1≤z∧z≤20:=by
  simp only[List.mem_cons,List.not_mem_nil,or_false]at mv
  rcases mv with rfl | rfl | rfl | rfl | rfl | rfl | rfl | rfl
  all_goals first | exact⟨_,rfl,by decide,by decide⟩ | exact⟨_,rfl,by omega,by omega⟩
 refine⟨p,_,_,_,rfl,rfl,Pe A0,hv,?_⟩
 refine⟨_,rfl,_,rfl,leN rfl,fun u nu=>?_⟩
 have ua:=hp3.ne nu
 have e_u:av a (upd H3 u (.lst [.int 3,.int 5,.int 10])) u=some (.lst [.int 3,.int 5,.int 10]):=by rw[Zh ua];exact Z5
 refine⟨_,rfl,a,S,ns,3,rfl,hp3.laid nu,Wz rfl,ltI rfl,fun d3 H4 z0 z1 hp4 g4=>?_⟩
 have e_u:=g4 _ _ e_u
 obtain⟨v,hv,mv⟩:=oK (d:=d3) (Zc e_u).2 z0 z1
 obtain⟨z,rfl,q0,q1⟩:∃z:Int,v=.int z∧0<z∧z≤10:=by
  simp only[List.mem_cons,List.not_mem_nil,or_false]at mv
  rcases mv with rfl | rfl | rfl <;> exact⟨_,rfl,by decide,by decide⟩
 refine⟨u,_,_,_,rfl,rfl,Pe e_u,hv,a,S,ns,z,rfl,hp4,q0,by omega,fun d4 H5 w0 w1 hp5 g5=>⟨_,_,rfl,rfl,leN rfl,fun l nl=>?_⟩⟩
 exact hq l AT (1+d4) _ (by rw[Zh (hp5.ne nl)];exact Z5) r0 r1 (by omega) (by omega) (hp5.laid nl) (g1.trans (g2.trans (g3.trans ((hp3.grw (Z6 nu _)).trans (g4.trans (g5.trans (hp5.grw (Z6 nl _))))))))
theorem tN(ah:Has P w K mg base "_law_take" 1 ["_law_pen_here","_law_most"] (bY K))(F:Fun K "_law_many" "_law_many" dZ f fd):FnOk P w K mg base CX0 2 f fd ["_law_pen_here"] (jP K):=by
 refine F.ok Od (fun vs H Q E h=>?_) (fun cdv A outer s H vs Q E hr h=>?_)
 ·obtain⟨a,S,ns,rfl,_⟩:=h
  rfl
 obtain⟨a,S,ns,rfl,hp,hq⟩:=h
 refine⟨_,(Z2 (Zw 1 Od.nd rfl (Or.inl rfl) (Z4 ah hr (Z1 (pv 0) (Z1 Z3 Z0 (by rfl)) (by rfl))) (by rfl) (by rfl))
 (Z2 (Yl (Zi Og (pv 1) Z3 (Zk _)) (Z7 (Ze (Zb Zs (Zb Zs Z3 (Zb X7 (Z4 ah hr (Z1 (pv 0) (Z1 (Zb Ub Z3 Z3) Z0 (by rfl)) (by rfl))) (Zb Ub Z3 Z3))) (Z4 ah hr (Z1 (pv 0) (Z1 (Zb Ub Z3 Z3) Z0 (by rfl)) (by rfl)))))) Zu)
 (Z7 (Ze (Zb Zs Z3 (Z4 ah hr (Z1 (pv 0) (Z1 (Zt Y7 (Yh (Z1 Z3 (Z1 Z3 (Z1 Z3 (Z1 Z3 Z0 (by rfl)) (by rfl)) (by rfl)) (by rfl))) (Zb Wj (pv 1) Z3) (fun _ _=>rfl)) Z0 (by rfl)) (by rfl)))))))),?_⟩
 refine⟨_,rfl,a,S,ns,8,rfl,hp,Wz rfl,ltI rfl,fun way H1 w0 w1 hp1 g1=>?_⟩
 refine⟨_,rfl,rfl,_,rfl,W7 (fun c=>?_) (fun c=>?_)⟩
 ·refine⟨_,rfl,_,_,rfl,rfl,gE rfl rfl rfl,a,S,ns,_,rfl,hp1,Wz rfl,ltI rfl,fun d1 H2 x0 x1 hp2 g2=>⟨_,_,rfl,rfl,gE rfl rfl rfl,?_⟩⟩
  have x1:d1<1000000:=x1
  refine⟨_,_,rfl,rfl,Or.inl ⟨by omega,by omega⟩,_,_,rfl,rfl,_,rfl,_,_,rfl,rfl,gE rfl rfl rfl,a,S,ns,_,rfl,hp2,Wz rfl,ltI rfl,fun d2 H3 y0 y1 hp3 g3=>⟨_,_,rfl,rfl,hq _ _ (by show 1≤1+d1 * 1000000+d2;omega) hp3 (g1.trans (g2.trans g3))⟩⟩
 ·refine⟨_,rfl,leN rfl,fun p np=>⟨_,rfl,_,_,rfl,rfl,Wz rfl,?_⟩⟩
  have A0:(upd H1 p (.lst [.int 1,.int 3,.int 3,.int 9])) p=some (.lst [.int 1,.int 3,.int 3,.int 9]):=Z5
  have m0:=Int.emod_nonneg way (show(4:Int)≠0 by decide)
  have m1:=AG way (show(0:Int)<4 by decide)
  obtain⟨v,hv,mv⟩:=oK (d:=way % 4) A0 m0 m1
  obtain⟨z,rfl,z0,z1⟩:∃z:Int,v=.int z∧0<z∧z<10:=by
   simp only[List.mem_cons,List.not_mem_nil,or_false]at mv
   rcases mv with rfl | rfl | rfl | rfl <;> exact⟨_,rfl,by decide,by decide⟩
  refine⟨p,_,_,_,rfl,rfl,SqL.of A0,hv,a,S,ns,z,rfl,hp1.laid np,z0,by omega,fun d H3 y0 y1 hp3 g3=>⟨_,_,rfl,rfl,hq _ _ (by omega) hp3 (g1.trans ((hp1.grw (Z6 np _)).trans g3))⟩⟩
def l4:Sp:=fun vs H Q _=>∃(q:Addr)(AT or total:Int)(ps:Sps),vs=[.ref q]∧LadAt H q AT or total ps∧1≤AT∧AT≤20∧or≤20∧Kok or (ps.map (·.1))∧ps.length<200∧
 ∀(r:Addr)(H':Hp)(fs AX:Sps),Same H H'→LadAt H' r AT or total (aZ AX)→Stl or (total / AT) ps fs AX→Kok or (AX.map (·.1))→AX.length≤ps.length→Q (.ref r) H'
theorem ve(eG:Has P w K mg base "settling_of" 4 ["ladder"] t_)(F:Fun K "settled" "settled" c8 f fd):FnOk P w K mg base CX0 5 f fd ["ladder"] l4:=by
 refine F.ok i9 (fun vs H Q E h=>?_) (fun cdv A outer s H vs Q E hr h=>?_)
 ·obtain⟨q,AT,or,total,ps,rfl,_⟩:=h
  rfl
 obtain⟨q,AT,or,total,ps,rfl,lad,r0,r1,d1,kok,pl,hq⟩:=h
 refine⟨_,(Z7 (Ze (Zt Y6 (Z4 eG hr (Z1 (pv 0) Z0 (by rfl))) Z3 (fun _ _=>rfl)))),?_⟩
 exact⟨_,rfl,q,AT,or,total,ps,rfl,lad,r0,r1,d1,kok,pl,fun t r l H' fs AX g A7 nl lad' fa f1 st ok' pl'=>⟨t,_,0,_,rfl,rfl,SqT.of A7,rfl,hq r H' fs AX g lad' st ok' pl'⟩⟩
def aq(k:Int×Int):Int:=k.2 * 2 ^ k.1.toNat
def am(k:Int×Int):Int:=(k.2+1) * 2 ^ k.1.toNat - 1
def eY:Sp:=fun vs H Q _=>∃(p:Addr)(k:Int×Int),vs=[.ref p]∧KAt H p k∧0≤k.1∧k.1≤20∧0≤k.2∧k.2≤1000001∧Q (.int (aq k)) H
def fM:Sp:=fun vs H Q _=>∃(p:Addr)(k:Int×Int),vs=[.ref p]∧KAt H p k∧0≤k.1∧k.1≤20∧0≤k.2∧k.2≤1000000∧∀H',Same H H'→Q (.int (am k)) H'
def wB:Sp:=fun vs H Q _=>∃(AT or:Int),vs=[.int AT,.int or]∧∀(q:Addr)(H':Hp),Same H H'→LadAt H' q AT or 0 []→Q (.ref q) H'
def xL:Sp:=fun vs H Q _=>∃(r:Addr)(AT or:Int)(t:Th),vs=[.int AT,.int or,.ref r]∧H r=some (.tup t.vs)∧ThL or t∧0≤or∧or≤20∧∀(q:Addr)(H':Hp),Same H H'→LadAt H' q AT or t.many [((0,t.num),t.many)]→Q (.ref q) H'
def xB:Sp:=fun vs H Q _=>∃(c1 c2:Addr)(as bs:List Addr)(xs ys:Sps),vs=[.ref c1,.ref c2]∧H c1=some (.tup (as.map V.ref))∧Paired (FT H) as xs∧H c2=some (.tup (bs.map V.ref))∧Paired (FT H) bs ys∧(xs.map (·.1)).Nodup∧xs.length+ys.length≤500∧∀(d:Addr)(H':Hp),Same H H'→H' d=some (.dT (ae (aG xs ys)))→Q (.ref d) H'
def ym:Sp:=fun vs H Q _=>∃(q1 q2:Addr)(AT or s1 s2:Int)(xs ys:Sps),vs=[.ref q1,.ref q2]∧LadAt H q1 AT or s1 xs∧LadAt H q2 AT or s2 ys∧(xs.map (·.1)).Nodup∧xs.length+ys.length<200∧∀(q:Addr)(H':Hp),Same H H'→LadAt H' q AT or (s1+s2) (aZ (aG xs ys))→Q (.ref q) H'
def oU:Sp:=fun vs H Q _=>∃(q1 q2:Addr)(AT or:Int)(xs ys:Sps),vs=[.ref q1,.ref q2]∧LadAt H q1 AT or (ag xs) xs∧LadAt H q2 AT or (ag ys) ys∧Pok or xs∧Pok or ys∧1≤AT∧AT≤20∧or≤20∧xs.length+ys.length<200∧∀(q:Addr)(H':Hp),Same H H'→LadAt H' q AT or (ag (bj AT or xs ys)) (bj AT or xs ys)→Q (.ref q) H'
def vG:Sp:=fun vs H Q _=>∃(v:V)(AT or:Int)(ts:List Th),vs=[.int AT,.int or,v]∧DV H v (aP ts)∧(∀t∈ts,ThL or t)∧1≤AT∧AT≤20∧0≤or∧or≤20∧ts.length<151∧∀(q:Addr)(H':Hp),Same H H'→LadAt H' q AT or (ag (bZ AT or ts)) (bZ AT or ts)→Q (.ref q) H'
theorem Wy(a b:Int):(PyData.tuple [.int a,.int b]).canLay0=true∧(PyData.tuple [.int a,.int b]).depth≤3:=by
 refine⟨?_,?_⟩
 ·simp[PyData.canLay0,PyData.canLayAll0]
 ·simp[PyData.depth,PyData.depthAll]
theorem iw(F:Fun K "first_of" "first_of" cN f fd):FnOk P w K mg base CX0 1 f fd ["stretch"] eY:=by
 refine F.ok U5 (fun vs H Q E h=>?_) (fun cdv A outer s H vs Q E hr h=>?_)
 ·obtain⟨p,k,rfl,_⟩:=h
  rfl
 obtain⟨p,k,rfl,e,h0,h1,i0,i1,hq⟩:=h
 refine⟨_,(Z2 (Yy (pv 0) (Yn rfl (Z9 (Z8 (i:=1) U5.nd rfl (Or.inl rfl)) (Z9 (Z8 (i:=2) U5.nd rfl (Or.inl rfl)) Zp))))
 (Z7 (Ze (Zb P1 (pv 2) (pv 1))))),?_⟩
 exact⟨_,rfl,p,_,rfl,SqT.of e,rfl,_,_,rfl,_,_,rfl,rfl,_,rfl,_,rfl,_,_,rfl,rfl,⟨by omega,by omega,by omega⟩,hq⟩
theorem kN(cJ:Has P w K mg base "first_of" 1 ["stretch"] eY)(F:Fun K "last_of" "last_of" dj f fd):FnOk P w K mg base CX0 2 f fd ["stretch"] fM:=by
 refine F.ok Tf (fun vs H Q E h=>?_) (fun cdv A outer s H vs Q E hr h=>?_)
 ·obtain⟨p,k,rfl,_⟩:=h
  rfl
 obtain⟨p,k,rfl,e,h0,h1,i0,i1,hq⟩:=h
 refine⟨_,(Z2 (Yy (pv 0) (Yn rfl (Z9 (Z8 (i:=1) Tf.nd rfl (Or.inl rfl)) (Z9 (Z8 (i:=2) Tf.nd rfl (Or.inl rfl)) Zp))))
 (Z7 (Ze (Zb Xv (Z4 cJ hr (Z1 (Zr (Z1 (pv 1) (Z1 (Zb Zs (pv 2) Z3) Z0 (by rfl)) (by rfl))) Z0 (by rfl))) Z3)))),?_⟩
 exact⟨_,rfl,p,_,rfl,SqT.of e,rfl,_,_,rfl,_,_,rfl,rfl,_,rfl,_,rfl,_,_,rfl,rfl,leN rfl,fun q nq=>⟨q,(k.1,k.2+1),rfl,Z5,h0,h1,by show 0≤k.2+1;omega,by show k.2+1≤_;omega,_,_,rfl,rfl,hq _ (Z6 nq _)⟩⟩
theorem yq(F:Fun K "empty_ladder" "empty_ladder" bC f fd):FnOk P w K mg base CX0 1 f fd ["room","deep"] wB:=by
 refine F.ok Rj (fun vs H Q E h=>?_) (fun cdv A outer s H vs Q E hr h=>?_)
 ·obtain⟨AT,or,rfl,_⟩:=h
  rfl
 obtain⟨AT,or,rfl,hq⟩:=h
 refine⟨_,(Z7 (Ze (Zr (Z1 (pv 0) (Z1 (pv 1) (Z1 (Zr Z0) (Z1 Z3 Z0 (by rfl)) (by rfl)) (by rfl)) (by rfl))))),?_⟩
 have gg:Same H H:=Same.refl _
 refine⟨_,rfl,_,rfl,leN rfl,?_⟩
 intro c n_c
 generalize hz:upd _ c _=H1
 have gz:=Zj hz n_c
 have A2:=Zx hz
 clear hz
 have gg:=gg.trans gz
 refine⟨leN rfl,?_⟩
 intro q n_q
 generalize hz:upd _ q _=H2
 have gz:=Zj hz n_q
 have A6:=Zx hz
 clear hz
 have gg:=gg.trans gz
 have A2:=gz _ _ A2
 exact hq q _ gg ⟨c,[],A6,A2,.nil⟩
theorem x3(bU:Has P w K mg base "last_of" 2 ["stretch"] fM)(F:Fun K "thing_ladder" "thing_ladder" bE f fd):FnOk P w K mg base CX0 3 f fd ["room","deep","thing"] xL:=by
 refine F.ok X2 (fun vs H Q E h=>?_) (fun cdv A outer s H vs Q E hr h=>?_)
 ·obtain⟨r,AT,or,t,rfl,_⟩:=h
  rfl
 obtain⟨r,AT,or,t,rfl,e_r,ok,d0,d1,hq⟩:=h
 refine⟨_,(Z2 (Yy (pv 2) (Yn rfl (Z9 (Z8 (i:=3) X2.nd rfl (Or.inl rfl)) (Z9 (Z8 (i:=4) X2.nd rfl (Or.inl rfl)) (Z9 (Z8 (i:=5) X2.nd rfl (Or.inl rfl)) (Z9 (Z8 (i:=6) X2.nd rfl (Or.inl rfl)) Zp))))))
 (Z2 (Yl (Zi U1 (pv 5) (Z4 bU hr (Z1 (Zr (Z1 (pv 1) (Z1 Z3 Z0 (by rfl)) (by rfl))) Z0 (by rfl))) (Zk _)) (Z7 Qv) Zu)
 (Z7 (Ze (Zr (Z1 (pv 0) (Z1 (pv 1) (Z1 (Zr (Z1 (Zr (Z1 (Zr (Z1 Z3 (Z1 (pv 5) Z0 (by rfl)) (by rfl))) (Z1 (pv 6) Z0 (by rfl)) (by rfl))) Z0 (by rfl))) (Z1 (pv 6) Z0 (by rfl)) (by rfl)) (by rfl)) (by rfl))))))),?_⟩
 have gg:Same H H:=Same.refl _
 refine⟨_,rfl,r,_,rfl,SqT.of e_r,rfl,_,_,rfl,_,_,rfl,_,_,rfl,_,_,rfl,rfl,?_⟩
 refine⟨_,rfl,_,rfl,leN rfl,?_⟩
 intro k n_k
 generalize hz:upd _ k _=H1
 have gz:=Zj hz n_k
 have e_k:=Zx hz
 clear hz
 have gg:=gg.trans gz
 refine⟨k,(or,0),rfl,e_k,d0,d1,y8 _,by show(0:Int)≤_;omega,fun H2 g2=>⟨_,_,rfl,rfl,_,rfl,?_⟩⟩
 have gg:=gg.trans g2
 have lt:¬t.num > am (or,0):=by
  have:=ok.2.1
  show ¬(t.num > (0+1) * 2 ^ or.toNat - 1)
  rw[Int.zero_add,Ai]
  omega
 rw[ze lt]
 refine Xd ?_
 refine⟨_,rfl,_,rfl,_,rfl,leN rfl,?_⟩
 intro a n_a
 generalize hz:upd _ a _=G1
 have gz:=Zj hz n_a
 have A5:=Zx hz
 clear hz
 have gg:=gg.trans gz
 refine⟨_,rfl,leN rfl,?_⟩
 intro b n_b
 generalize hz:upd _ b _=G2
 have gz:=Zj hz n_b
 have AZ:=Zx hz
 clear hz
 have gg:=gg.trans gz
 have A5:=gz _ _ A5
 refine⟨leN rfl,?_⟩
 intro c n_c
 generalize hz:upd _ c _=G3
 have gz:=Zj hz n_c
 have A2:=Zx hz
 clear hz
 have gg:=gg.trans gz
 have A5:=gz _ _ A5
 have AZ:=gz _ _ AZ
 refine⟨_,rfl,leN rfl,?_⟩
 intro q n_q
 generalize hz:upd _ q _=G4
 have gz:=Zj hz n_q
 have A6:=Zx hz
 clear hz
 have gg:=gg.trans gz
 have A5:=gz _ _ A5
 have AZ:=gz _ _ AZ
 have A2:=gz _ _ A2
 exact hq q _ gg ⟨c,[b],A6,A2,.cons ⟨a,AZ,A5⟩ .nil⟩
theorem wj(aY:mg "dict"=none)(F:Fun K "added_counts" "added_counts" a8 f fd):FnOk P w K mg base CX0 1 f fd ["one","other"] xB:=by
 refine F.ok Y3 (fun vs H Q E h=>?_) (fun cdv A outer s H vs Q E hr h=>?_)
 ·obtain⟨c1,c2,as,bs,xs,ys,rfl,_⟩:=h
  rfl
 obtain⟨c1,c2,as,bs,xs,ys,rfl,e1,p1,e2,p2,nx,xl,hq⟩:=h
 refine⟨_,(Z2 (Zw 2 Y3.nd rfl (Or.inl rfl) (Xl (W1 rfl hr.units) rfl aY PyProof.Rows.boot_dict (Z1 (pv 0) Z0 (by rfl))) (by rfl) (by rfl)) Zd),?_⟩
 have nd:((ae xs).map (·.1)).Nodup:=by
  rw[V3]
  exact Ae.mpr (nx.imp fun h e=>h (V1 e))
 refine⟨_,rfl,c1,_,_,rfl,e1,Pg p1,by rw[Y0];omega,fun d n_d=>?_⟩
 rw[Ud nd]
 have sm:=Z6 n_d (.dT (ae xs))
 have ed:(upd H d (.dT (ae xs))) d=some (.dT (ae xs)):=Z5
 generalize upd H d (.dT (ae xs))=H1 at sm ed⊢
 have bl:=yT p2
 refine⟨_,(Z2 (Xe zy rfl (Qx (pv 1)) (Yn rfl (Z9 (Z8 (i:=3) Y3.nd rfl (Or.inl rfl)) (Z9 (Z8 (i:=4) Y3.nd rfl (Or.inl rfl)) Zp)))
 (Z7 (Uj (Xh hr) (pv 2) (pv 3) (Zb Zs (Xr (Xh hr) (pv 2) (pv 3) Z3 ⟨rfl,rfl,rfl,rfl⟩) (pv 4)) rfl))) Zd),?_⟩
 refine⟨_,rfl,c2,rfl,⟨_,SqT.of (sm _ _ e2)⟩,?_⟩
 refine Pk (xs:=bs.map V.ref) (fun i σ H'=>∃(o3 o4:Option V),σ=[some (.ref c1),some (.ref c2),some (.ref d),o3,o4]∧Same H H'∧H' d=some (.dT (ae (aG xs (ys.take i))))∧(aG xs (ys.take i)).length≤xs.length+i) ⟨_,_,rfl,sm,ed,yF _⟩ ?_ ?_ ?_
 ·rintro i σ H' _ ⟨_,_,_,g,_⟩
  exact SqT.of (g _ _ e2)
 ·rintro i x σ H' N B1 R hN hR hx ⟨o3,o4,rfl,g,ed,al⟩
  obtain⟨a,p,rfl,hp,b,A5,AZ⟩:=Vy p2 hx
  have il:i<ys.length:=(yK.mp hp).1
  have A5:=g _ _ A5
  have AZ:KAt H' b p.1:=g _ _ AZ
  have st:aG xs (ys.take (i+1))=ao (aG xs (ys.take i)) p.1 (cnt (aG xs (ys.take i)) p.1+p.2):=by rw[Zz hp,iJ]
  rw[st]at hN
  generalize aG xs (ys.take i)=zs at ed al hN
  have l1:=W6 zs p.1 (cnt zs p.1+p.2)
  refine⟨a,_,rfl,SqT.of A5,rfl,_,_,rfl,_,_,rfl,rfl,?_⟩
  refine⟨_,rfl,d,rfl,.inr ⟨_,.inl ed⟩,_,rfl,_,Yx ed AZ,_,rfl,_,p.2,Xi _ _,rfl,_,rfl,_,rfl,d,_,rfl,DPut.t (k:=kk p.1) ed AZ (Zm (by rw[Y0];omega)),?_⟩
  refine hN _ _ ⟨_,_,rfl,fun x w e=>?_,by rw[←Tj];exact Z5,by omega⟩
  rw[Za (Zf e n_d)]
  exact g _ _ e
 ·rintro σ H' ⟨o3,o4,rfl,g,ed,_⟩
  rw[pi,bl,zn]at ed
  exact⟨_,(Z7 (Ze (pv 2))),_,rfl,hq d _ g ed⟩
theorem xZ(aA:mg "sorted"=none)(bB:mg "tuple"=none)(aN:Has P w K mg base "added_counts" 1 ["one","other"] xB)(F:Fun K "added_ladder" "added_ladder" bG f fd):FnOk P w K mg base CX0 2 f fd ["one","other"] ym:=by
 refine F.ok Yp (fun vs H Q E h=>?_) (fun cdv A outer s H vs Q E hr h=>?_)
 ·obtain⟨q1,q2,AT,or,s1,s2,xs,ys,rfl,_⟩:=h
  rfl
 obtain⟨q1,q2,AT,or,s1,s2,xs,ys,rfl,l1,l2,nx,xl,hq⟩:=h
 obtain⟨c1,as,e1,f1,p1⟩:=l1.at_
 obtain⟨c2,bs,e2,f2,p2⟩:=l2.at_
 refine⟨_,(Z2 (Yl (Zi (P2 hr.units) (U9 kF (pv 0) S8 (S7 Z3)) (U9 kF (pv 1) S8 (S7 Z3)) (Zk _)) (Z7 Qv) Zu) Zd),?_⟩
 refine⟨_,rfl,_,rfl,q1,_,rfl,e1,fun u1 H1 g1 d1=>⟨_,rfl,_,rfl,q2,_,rfl,g1 _ _ e2,fun u2 H2 g2 d2=>?_⟩⟩
 have ll:=Wy AT or
 have x1:DV H2 (.ref u1) (.tuple [.int AT,.int or]):=.tup (g2 _ _ d1) (.cons (.int _) (.cons (.int _) .nil))
 have x2:DV H2 (.ref u2) (.tuple [.int AT,.int or]):=.tup d2 (.cons (.int _) (.cons (.int _) .nil))
 refine⟨_,_,x1,x2,Yo ll (by decide),Yo ll (by decide),_,rfl,?_⟩
 rw[Si ll]
 have gg:=g1.trans g2
 refine Xd ⟨_,(Z2 (Yy (pv 0) (Yn rfl (Z9 (Z8 (i:=2) Yp.nd rfl (Or.inl rfl)) (Z9 (Z8 (i:=3) Yp.nd rfl (Or.inl rfl)) (Z9 (Z8 (i:=4) Yp.nd rfl (Or.inl rfl)) (Z9 (Z8 (i:=5) Yp.nd rfl (Or.inl rfl)) Zp)))))) Zd),?_⟩
 refine⟨_,rfl,q1,_,rfl,SqT.of (gg _ _ e1),rfl,_,_,rfl,_,_,rfl,_,_,rfl,_,_,rfl,rfl,?_⟩
 refine⟨_,(Z2 (Zw 6 Yp.nd rfl (Or.inl rfl) (Z4 aN hr (Z1 (pv 4) (Z1 (Zt Y6 (pv 1) Z3 (fun _ _=>rfl)) Z0 (by rfl)) (by rfl))) (by rfl) (by rfl)) Zd),?_⟩
 refine⟨_,rfl,_,rfl,q2,_,2,_,rfl,rfl,SqT.of (gg _ _ e2),rfl,c1,c2,as,bs,xs,ys,rfl,gg _ _ f1,Paired.mapP p1 fun _ _ f=>Y2 gg f,gg _ _ f2,Paired.mapP p2 fun _ _ f=>Y2 gg f,nx,by omega,fun d H3 g3 ed=>?_⟩
 have gg:=gg.trans g3
 have al:=T4 ys xs
 refine⟨_,(Z7 (Ze (Zr (Z1 (pv 2) (Z1 (pv 3) (Z1 (Xl Td rfl bB PyProof.Rows.boot_tuple (Z1 (Zo (Rf rfl hr.units) rfl aA PyProof.Rows.boot_sorted (Z1 (Tl At PySem.F.slot_dict_items PySem.F.type_dict_items R3 (pv 6)) Z0 (by rfl))) Z0 (by rfl))) (Z1 (Zb Zs (pv 5) (Zt Y6 (pv 1) Z3 (fun _ _=>rfl))) Z0 (by rfl)) (by rfl)) (by rfl)) (by rfl))))),?_⟩
 refine⟨_,rfl,_,rfl,_,rfl,Qe ed,d,_,rfl,rfl,ed,?_⟩
 intro v n_v
 generalize hz:upd _ v _=H4
 have gz:=Zj hz n_v
 have e_v:=Zx hz
 clear hz
 have gg:=gg.trans gz
 have ed:=gz _ _ ed
 refine⟨v,d,_,rfl,e_v,ed,by omega,fun H6 ds g6 pr6 l nl _=>?_⟩
 have gz:=Z6 nl (.lst (ds.map V.ref))
 have A3:(upd H6 l (.lst (ds.map V.ref))) l=some (.lst (ds.map V.ref)):=Z5
 have gg:=gg.trans (g6.trans gz)
 have pr6:=Paired.mapP pr6 fun _ _ f=>Y2 gz f
 generalize upd H6 l (.lst (ds.map V.ref))=H7 at A3 gg pr6⊢
 refine⟨l,_,rfl,.inl ⟨SqL.of A3,?_⟩⟩
 intro c n_c
 generalize hz:upd _ c _=H8
 have gz:=Zj hz n_c
 have A2:=Zx hz
 clear hz
 have gg:=gg.trans gz
 have pr6:=Paired.mapP pr6 fun _ _ f=>Y2 gz f
 refine⟨_,rfl,_,rfl,q2,_,3,_,rfl,rfl,SqT.of (gg _ _ e2),rfl,_,_,rfl,rfl,leN rfl,?_⟩
 intro q n_q
 generalize hz:upd _ q _=H9
 have gz:=Zj hz n_q
 have A6:=Zx hz
 clear hz
 have gg:=gg.trans gz
 have A2:=gz _ _ A2
 exact hq q _ gg ⟨c,ds,A6,A2,Paired.mapP pr6 fun _ _ f=>Y2 gz f⟩
theorem wp(eg:Has P w K mg base "added_ladder" 2 ["one","other"] ym)(di:Has P w K mg base "settled" 5 ["ladder"] l4)(F:Fun K "merged_ladder" "merged_ladder" aW f fd):FnOk P w K mg base CX0 6 f fd ["one","other"] oU:=by
 refine F.ok Ss (fun vs H Q E h=>?_) (fun cdv A outer s H vs Q E hr h=>?_)
 ·obtain⟨q1,q2,AT,or,xs,ys,rfl,_⟩:=h
  rfl
 obtain⟨q1,q2,AT,or,xs,ys,rfl,l1,l2,ox,oy,r0,r1,d1,xl,hq⟩:=h
 refine⟨_,(Z7 (Ze (Z4 di hr (Z1 (Z4 eg hr (Z1 (pv 0) (Z1 (pv 1) Z0 (by rfl)) (by rfl))) Z0 (by rfl))))),?_⟩
 have al:=T4 ys xs
 have po:=So ox oy.each
 have pm:=Y8 (aG xs ys)
 refine⟨_,rfl,_,rfl,q1,q2,AT,or,_,_,xs,ys,rfl,l1,l2,ox.kok.nd,xl,fun q H1 g1 lad=>?_⟩
 refine⟨q,AT,or,_,_,rfl,lad,r0,r1,d1,po.kok.perm (pm.map _),by rw[pm.length_eq];omega,fun r H2 fs AX g2 lad2 st _ _=>hq r _ (g1.trans g2) ?_⟩
 have es:ag xs+ag ys=ag (aG xs ys):=(Sn ox.kok.nd).symm
 rw[es]at st lad2
 have e:=(sV st pm (po.perm pm).kok.nd).1
 have e2:bj AT or xs ys=aZ AX:=e
 have e3:ag (aZ AX)=ag (aG xs ys):=by
  rw[U3 (Y8 AX),(Nl st (po.perm pm).kok.nd).2.2,U3 pm]
 rw[e2,e3]
 exact lad2
theorem yu(dX:Has P w K mg base "empty_ladder" 1 ["room","deep"] wB)(dD:Has P w K mg base "merged_ladder" 6 ["one","other"] oU)(di:Has P w K mg base "settled" 5 ["ladder"] l4)(dM:Has P w K mg base "thing_ladder" 3 ["room","deep","thing"] xL)(F:Fun K "ladder_of" "ladder_of" cg f fd):FnOk P w K mg base CX0 7 f fd ["room","deep","stream"] vG:=by
 refine F.ok W5 (fun vs H Q E h=>?_) (fun cdv A outer s H vs Q E hr h=>?_)
 ·obtain⟨v,AT,or,ts,rfl,_⟩:=h
  rfl
 obtain⟨v,AT,or,ts,rfl,dv,tw,r0,r1,d0,d1,tl,hq⟩:=h
 obtain⟨b,xs,rfl,eb,qb⟩:=DV.list_inv dv
 have xl:=qb.length
 rw[pi]at xl
 refine⟨_,(Z2 (Zw 3 W5.nd rfl (Or.inl rfl) (Z4 dX hr (Z1 (pv 0) (Z1 (pv 1) Z0 (by rfl)) (by rfl))) (by rfl) (by rfl)) Zd),?_⟩
 refine⟨_,rfl,_,rfl,AT,or,rfl,fun p0 H0 s0 l0=>?_⟩
 refine⟨_,(Z2 (Xe zy rfl (Y4 (pv 2)) (Z8 (i:=4) W5.nd rfl (Or.inl rfl))
 (Z7 (Zw 3 W5.nd rfl (Or.inl rfl) (Z4 dD hr (Z1 (pv 3) (Z1 (Z4 di hr (Z1 (Z4 dM hr (Z1 (pv 0) (Z1 (pv 1) (Z1 (pv 4) Z0 (by rfl)) (by rfl)) (by rfl))) Z0 (by rfl))) Z0 (by rfl)) (by rfl))) (by rfl) (by rfl)))) Zd),?_⟩
 refine⟨_,rfl,b,rfl,⟨_,SqL.of (s0 _ _ eb)⟩,?_⟩
 refine Xw (xs:=xs) (fun n σ H'=>∃(o4:Option V)(p:Addr),σ=[some (.int AT),some (.int or),some (.ref b),some (.ref p),o4]∧Same H H'∧LadAt H' p AT or (ag (bZ AT or (ts.take n))) (bZ AT or (ts.take n))) ⟨_,p0,rfl,s0,l0⟩ ?_ ?_ ?_
 ·rintro n σ H' _ ⟨_,_,_,g,_⟩
  exact SqL.of (g _ _ eb)
 ·rintro n x σ H' N B1 R hN hR hx ⟨o4,p,rfl,g,dp⟩
  obtain⟨t,c,ht,rfl,ec,hm⟩:=DVs.th_at qb hx
  have nl:n<ts.length:=(yK.mp ht).1
  have twn:∀u∈ts.take n,ThL or u:=fun u hu=>tw u (Au hu)
  obtain⟨oka,_,len⟩:=Q0 (AT:=AT) d0 twn
  rw[y7]at len
  have e:bZ AT or (ts.take (n+1))=bj AT or (bZ AT or (ts.take n)) (thL AT or t):=by rw[Zz ht,nt]
  rw[e]at hN
  generalize bZ AT or (ts.take n)=la at dp oka len hN
  have ot:=Ru d0 (tw t hm)
  obtain⟨okt,sut,lent⟩:=Ng (AT:=AT) d0 (tw t hm)
  refine⟨_,rfl,_,rfl,_,rfl,_,rfl,c,AT,or,t,rfl,g _ _ ec,tw t hm,d0,d1,fun q1 H1 s1 l1=>?_⟩
  refine⟨q1,AT,or,t.many,_,rfl,l1,r0,r1,d1,ot.kok,by show 1<200;omega,fun r H2 fs AX s2 l2 st _ _=>?_⟩
  have e2:thL AT or t=aZ AX:=(Tz st ot.kok.nd).1
  rw[←e2]at l2
  rw[←sut]at l2
  refine⟨p,r,AT,or,la,thL AT or t,rfl,dp.mono (s1.trans s2),l2,oka.pok,okt.pok,r0,r1,d1,by omega,fun q H3 s3 l3=>?_⟩
  exact hN _ _ ⟨_,q,rfl,g.trans (s1.trans (s2.trans s3)),l3⟩
 ·rintro σ H' ⟨o4,p,rfl,g,dp⟩
  rw[xl,zn]at dp
  exact⟨_,(Z7 (Ze (pv 3))),_,rfl,hq p _ g dp⟩
def aw:Tr→List (Option (List Th))
 | .leaf ts=>[some ts]
 | .node l r=>aw l++aw r++[none]
def eC:Option Tr→List (Option (List Th))
 | none=>[none]
 | some t=>aw t
theorem Uh:∀t:Tr,(aw t).length=t.size
 | .leaf ts=>rfl
 | .node l r=>by
  show(aw l++aw r++[none]).length=l.size+r.size+1
  rw[yJ,yJ,Uh l,Uh r]
  rfl
def wtO:Option Tr→Nat
 | none=>1
 | some t=>2 * t.size
abbrev wsz(tk:List (Option Tr)):Nat:=(tk.map wtO).sum
theorem N5:∀tk:List (Option Tr),tk.length≤wsz tk
 | []=>yF _
 | none::r=>by
  have:=N5 r
  simp only[wsz,List.map_cons,List.sum_cons,List.length_cons,wtO]at *
  omega
 | some t::r=>by
  have:=N5 r
  have:=t.size_pos
  simp only[wsz,List.map_cons,List.sum_cons,List.length_cons,wtO]at *
  omega
def WV(H:Hp)(v:V):Option Tr→Prop
 | none=>v=.non
 | some t=>DV H v t.D
def SV(H:Hp)(v:V):Option (List Th)→Prop
 | none=>v=.non
 | some ts=>DV H v (aP ts)
theorem Qw{α:Type}{R:Hp→V→α→Prop}(hm:∀{H H':Hp},Same H H'→∀{v x},R H v x→R H' v x){H H':Hp}(g:Same H H'):∀{vs:List V}{xs:List α},Paired (R H) vs xs→Paired (R H') vs xs
 | _,_,.nil=>.nil
 | _,_,.cons h r=>.cons (hm g h) (Qw hm g r)
theorem Xx{α β:Type}{R:α→β→Prop}:∀{xs us:List α}{ys ws:List β},Paired R xs ys→Paired R us ws→Paired R (xs++us) (ys++ws)
 | _,_,_,_,.nil,h=>h
 | _,_,_,_,.cons a r,h=>.cons a (Xx r h)
theorem S6{α β:Type}{R:α→β→Prop}:∀{ys:List β}{xs:List α}{y:β},Paired R xs (ys++[y])→∃xs' x,xs=xs'++[x]∧Paired R xs' ys∧R x y
 | [],_,_,.cons a .nil=>⟨[],_,rfl,.nil,a⟩
 | _::_,_,_,.cons a r=>by
  obtain⟨xs',x,e,r',h⟩:=S6 r
  exact⟨_::xs',x,by rw[e];rfl,.cons a r',h⟩
theorem Ul{α β:Type}{R:α→β→Prop}:∀{xs:List α}{ys:List β},Paired R xs ys→xs.length=ys.length
 | _,_,.nil=>rfl
 | _,_,.cons _ r=>Ad (·+1) (Ul r)
theorem kA{α β:Type}{R:α→β→Prop}:∀{xs:List α}{ys:List β}{i:Nat}{x:α},Paired R xs ys→xs[i]?=some x→∃y,ys[i]?=some y∧R x y
 | _,_,_,_,.nil,e=>by simp at e
 | _,_,0,_,.cons a _,e=>by simp at e;subst e;exact⟨_,rfl,a⟩
 | _,_,i+1,x,.cons _ r,e=>by
  obtain⟨y,h1,h2⟩:=kA (i:=i) r (by simpa using e)
  exact⟨y,by simpa using h1,h2⟩
def k7:Sp:=fun vs H Q _=>∃(v:V)(t:Tr)(G:Hp),vs=[v]∧Same G H∧DV G v t.D∧t.size≤1000∧
 ∀(r:Addr)(ls:List V)(H':Hp),Same H H'→H r=none→H' r=some (.lst ls)→Paired (SV G) ls (aw t)→Q (.ref r) H'
theorem iP(ai:mg "isinstance"=none)(bJ:mg "list"=none)(aM:mg "len"=none)(F:Fun K "steps_in" "steps_in" cP f fd):FnOk P w K mg base CX0 1 f fd ["tree"] k7:=by
 refine F.ok Wr (fun vs H Q E h=>?_) (fun cdv A outer s H vs Q E hr h=>?_)
 ·obtain⟨v,t,G,rfl,_⟩:=h
  rfl
 obtain⟨v,t,G,rfl,gG,dv,hsz,hq⟩:=h
 refine⟨_,(Z2 (Zw 1 Wr.nd rfl (Or.inl rfl) (Yh Z0) (by rfl) (by rfl))
 (Z2 (Zw 2 Wr.nd rfl (Or.inl rfl) (Yh (Z1 (pv 0) Z0 (by rfl))) (by rfl) (by rfl))
 (Z2 (U7 zy (Zi U1 (Zo Y5 rfl aM Ax (Z1 (pv 2) Z0 (by rfl))) Z3 (Zk _)) (Z2 (Zw 3 Wr.nd rfl (Or.inl rfl) (Tl zF PySem.F.slot_list_pop PySem.F.type_list_pop gh (pv 2)) (by rfl) (by rfl))
 (Z7 (Yl (PW.pt (R9 (Zi nQ (pv 3) Ua (Zk _)) (Ti (U6 (Zo Sk rfl ai Ar (Z1 (pv 3) (Z1 (Sb (v:=.ty "list") rfl bJ PyProof.Rows.boot_list rfl) Z0 (by rfl)) (by rfl))))))) (Z7 (Xj (T9 zF Ao Ap Wc (pv 1) (Z1 (pv 3) Z0 (by rfl))))) (Z7 (Xj (T9 zF PySem.F.slot_list_extend PySem.F.type_list_extend Oh (pv 2) (Z1 (Yh (Z1 Ua (Z1 (Zt Y6 (pv 3) Z3 (fun _ _=>rfl)) (Z1 (Zt Y6 (pv 3) Z3 (fun _ _=>rfl)) Z0 (by rfl)) (by rfl)) (by rfl))) Z0 (by rfl)))))))))
 (Z7 (Ze (pv 1)))))),?_⟩
 refine⟨leN rfl,fun Fa hFa=>?_⟩
 refine⟨_,rfl,leN rfl,fun Wa hWa=>?_⟩
 have hne:Wa≠Fa:=fun e=>by rw[e,Z5]at hWa;cases hWa
 have hWa0:H Wa=none:=by rw[Za hne]at hWa;exact hWa
 refine⟨fun m σ H1=>∃(ws ls:List V)(tk:List (Option Tr))(dn:List (Option (List Th)))(o:Option V),σ=[some v,some (.ref Fa),some (.ref Wa),o]∧Same H H1∧H1 Wa=some (.lst ws)∧H1 Fa=some (.lst ls)∧
   Paired (WV G) ws tk∧Paired (SV G) ls dn∧dn++tk.reverse.flatMap eC=aw t∧wsz tk+dn.length≤3000∧m=wsz tk,
  ⟨2 * t.size,[v],[],[some t],[],none,rfl,(Z6 hFa _).trans (Z6 hWa _),Z5,by rw[Za (Ne.symm hne)];exact Z5,.cons dv .nil,.nil,by simp[eC],by simp[wsz,wtO];omega,by simp[wsz,wtO]⟩,?_⟩
 rintro m σ H1 ⟨ws,ls,tk,dn,o,rfl,g1,eW,eF,dW,dF,hsum,Bb,rfl⟩
 have dl:=Ul dW
 refine⟨_,rfl,Wa,ws,rfl,.inl (SqL.of eW),_,_,rfl,rfl,_,rfl,?_⟩
 refine W7 (fun c=>?_) (fun c=>?_)
 ·have c:(0:Int)<(ws.length:Int):=yO c
  obtain⟨tk',t1,rfl⟩:∃tk' t1,tk=tk'++[t1]:=by
   have:tk≠[]:=fun e=>by rw[e,Aj]at dl;omega
   exact⟨tk.dropLast,tk.getLast this,(List.dropLast_concat_getLast this).symm⟩
  refine⟨fun σ' H'=>∃m',m'<wsz (tk'++[t1])∧_,fun _ _ h=>h,?_⟩
  obtain⟨ws',y,rfl,dW',dy⟩:=S6 dW
  refine⟨_,rfl,.inl ⟨rfl,_,SqL.of eW⟩,Wa,_,y,rfl,rfl,eW,by simp,?_⟩
  rw[List.dropLast_concat]
  have g4:Same H (upd H1 Wa (.lst ws')):=Xu g1 hWa0
  have eW4:upd H1 Wa (.lst ws') Wa=some (.lst ws'):=Z5
  have eF4:upd H1 Wa (.lst ws') Fa=some (.lst ls):=by rw[Za (Ne.symm hne)];exact eF
  revert g4 eW4 eF4
  generalize upd H1 Wa (.lst ws')=H4
  intro g4 eW4 eF4
  have hts:wsz (tk'++[t1])=wsz tk'+wtO t1:=by simp[wsz]
  rw[hts]at Bb
  have tl:=N5 tk'
  have dl:=Ul dW'
  have dl2:=Ul dF
  cases t1 with
  | none=>
   cases (show y=V.non from dy)
   have hlen2:wsz tk'+1+dn.length≤3000:=Bb
   refine⟨_,rfl,rfl,_,rfl,W3 (W3 ?_)⟩
   refine⟨_,rfl,.inl ⟨rfl,_,SqL.of eF4⟩,_,rfl,Fa,ls,_,rfl,rfl,eF4,Zm (by omega),?_⟩
   refine⟨wsz tk',by rw[hts];show wsz tk'<wsz tk'+1;omega,ws',ls++[.non],tk',dn++[none],_,rfl,Xu g4 hFa,by rw[Za hne];exact eW4,Z5,dW',Xx dF (.cons (show SV G .non none from rfl) .nil),?_,by rw[yJ];show wsz tk'+(dn.length+1)≤3000;omega,rfl⟩
   rw[←hsum]
   simp[eC]
  | some t1=>
  have hpos:=t1.size_pos
  have dy:DV G y t1.D:=dy
  cases t1 with
  | leaf ts=>
   obtain⟨b,xs,rfl,eb,qb⟩:=DV.list_inv dy
   have hlen2:wsz tk'+2 * 1+dn.length≤3000:=Bb
   refine⟨_,rfl,rfl,_,rfl,Xd ?_⟩
   refine⟨_,rfl,_,_,"list",_,rfl,TyOf.lst (g4 _ _ (gG _ _ eb)),oV,_,rfl,W3 ?_⟩
   refine⟨_,rfl,.inl ⟨rfl,_,SqL.of eF4⟩,_,rfl,Fa,ls,_,rfl,rfl,eF4,Zm (by omega),?_⟩
   refine⟨wsz tk',by rw[hts];show wsz tk'<wsz tk'+2 * 1;omega,ws',ls++[.ref b],tk',dn++[some ts],_,rfl,Xu g4 hFa,by rw[Za hne];exact eW4,Z5,dW',Xx dF (.cons (show SV G (.ref b) (some ts)from dy) .nil),?_,by rw[yJ];show wsz tk'+(dn.length+1)≤3000;omega,rfl⟩
   rw[←hsum]
   simp[eC,aw]
  | node l r=>
   obtain⟨b,mm,x,y,rfl,eb,dx,dy2⟩:=DV.node_inv dy
   have eb4:=g4 _ _ (gG _ _ eb)
   have hlen2:wsz tk'+2 * (l.size+r.size+1)+dn.length≤3000:=Bb
   refine⟨_,rfl,rfl,_,rfl,Xd ?_⟩
   refine⟨_,rfl,_,_,"list",_,rfl,TyOf.tup eb4,o0,_,rfl,Xd ?_⟩
   refine⟨_,rfl,.inl ⟨rfl,_,SqL.of eW4⟩,_,rfl,b,_,2,_,rfl,rfl,SqT.of eb4,hW _ _ _,_,rfl,b,_,1,_,rfl,rfl,SqT.of eb4,pE _ _ _,leN rfl,fun q nq=>?_⟩
   have g5:=g4.trans (Z6 nq (.lst [.non,y,x]))
   have eW5:upd H4 q (.lst [.non,y,x]) Wa=some (.lst ws'):=by rw[Za (Zf eW4 nq)];exact eW4
   have eF5:upd H4 q (.lst [.non,y,x]) Fa=some (.lst ls):=by rw[Za (Zf eF4 nq)];exact eF4
   have eq5:upd H4 q (.lst [.non,y,x]) q=some (.lst [.non,y,x]):=Z5
   refine⟨Wa,q,ws',[.non,y,x],rfl,rfl,eW5,eq5,Zn (by show ws'.length+3≤_;omega),?_⟩
   have nw:wsz (tk'++[none,some r,some l])=wsz tk'+(1+2 * r.size+2 * l.size):=by simp[wsz,wtO];omega
   refine⟨wsz (tk'++[none,some r,some l]),?_,ws'++[.non,y,x],ls,tk'++[none,some r,some l],dn,_,rfl,Xu g5 hWa0,Z5,by rw[Za (Ne.symm hne)];exact eF5,?_,dF,?_,?_,rfl⟩
   ·rw[hts,nw]
    show _<wsz tk'+2 * (l.size+r.size+1)
    omega
   ·exact Xx dW' (.cons (show WV G .non none from rfl) (.cons (show WV G y (some r)from dy2) (.cons (show WV G x (some l)from dx) .nil)))
   ·rw[←hsum]
    simp[eC,aw]
   ·rw[nw]
    omega
 ·have c:¬((0:Int)<(ws.length:Int)):=z8 (Af.mpr c)
  have e:tk=[]:=List.eq_nil_of_length_eq_zero (by omega)
  subst e
  refine⟨_,rfl,?_⟩
  have e:dn=aw t:=by simpa using hsum
  subst e
  exact hq Fa ls _ g1 hFa eF dF
section
variable{α:Type}
def evT(fs:List Th→α)(fm:α→α→α):Tr→α
 | .leaf ts=>fs ts
 | .node l r=>fm (evT fs fm l) (evT fs fm r)
def nK(fs:List Th→α)(fm:α→α→α):List (Option (List Th))→List α→Option (List α)
 | [],st=>some st
 | some ts::r,st=>nK fs fm r (fs ts::st)
 | none::r,y::x::st=>nK fs fm r (fm x y::st)
 | none::_,_=>none
theorem R4(fs:List Th→α)(fm:α→α→α):∀(t:Tr)(r:List (Option (List Th)))(st:List α),nK fs fm (aw t++r) st=nK fs fm r (evT fs fm t::st)
 | .leaf ts,r,st=>rfl
 | .node a b,r,st=>by
  show nK fs fm (aw a++aw b++[none]++r) st=_
  rw[zA,zA,R4 fs fm a,R4 fs fm b]
  rfl
def wgt(ss:List (Option (List Th))):Nat:=(ss.map fun o=>match o with
 | some ts=>ts.length
 | none=>0).sum
theorem pN(o:Option (List Th))(ss:List (Option (List Th))):wgt (o::ss)=(match o with
 | some ts=>ts.length
 | none=>0)+wgt ss:=by
 unfold wgt
 rw[yE,yZ]
theorem Qc:∀t:Tr,wgt (aw t)=t.all.length
 | .leaf ts=>by show ts.length+0=ts.length;omega
 | .node a b=>by
  have h:∀xs ys,wgt (xs++ys)=wgt xs+wgt ys:=fun xs ys=>by unfold wgt;rw[yV,AD]
  show wgt (aw a++aw b++[none])=(a.all++b.all).length
  rw[h,h,Qc a,Qc b,yJ]
  rfl
def isFs(P:Program)(w:World)(K:W.Frag)(mg:Str→Option Value)(base:Heap)(k:Nat)(Rep:Hp→V→α→Prop)(fs:List Th→α)(Hh:Hp)(f:Addr)(OkS:List Th→Prop):Prop:=∃(fd:FuncData)(ps:List Str)(sp:Sp),FnOk P w K mg base CX0 k f fd ps sp∧Binds K fd ps []∧Cal base f∧
 ∀(H:Hp)(v:V)(ts:List Th)(Q:VK),Same Hh H→DV H v (aP ts)→OkS ts→(∀(p:V)(H':Hp),Same H H'→Rep H' p (fs ts)→Q p H')→sp [v] H Q E0
def isFm(P:Program)(w:World)(K:W.Frag)(mg:Str→Option Value)(base:Heap)(k:Nat)(Rep:Hp→V→α→Prop)(fm:α→α→α)(Hh:Hp)(f:Addr)(I:α→Prop)(wt:α→Nat)(NN:Nat):Prop:=∃(fd:FuncData)(ps:List Str)(sp:Sp),FnOk P w K mg base CX0 k f fd ps sp∧Binds K fd ps []∧Cal base f∧
 ∀(H:Hp)(u v:V)(x y:α)(Q:VK),Same Hh H→Rep H u x→Rep H v y→I x→I y→wt x+wt y≤NN→(∀(p:V)(H':Hp),Same H H'→Rep H' p (fm x y)→Q p H')→sp [u,v] H Q E0
def gd(P:Program)(w:World)(K:W.Frag)(mg:Str→Option Value)(k:Nat)(base:Heap):Sp:=fun vs H Q _=>∃(α:Type)(Rep:Hp→V→α→Prop)(fs:List Th→α)(fm:α→α→α)(I:α→Prop)(wt:α→Nat)(NN:Nat)(OkS:List Th→Prop)(v:V)(f1 f2:Addr)(t:Tr),
 vs=[v,.ref f1,.ref f2]∧DV H v t.D∧t.size≤1000∧(∀s∈t.streams,OkS s)∧isFs P w K mg base k Rep fs H f1 OkS∧isFm P w K mg base k Rep fm H f2 I wt NN∧(∀ts,OkS ts→I (fs ts)∧wt (fs ts)=ts.length)∧(∀x y,I x→I y→wt x+wt y≤NN→I (fm x y)∧wt (fm x y)=wt x+wt y)∧wgt (aw t)≤NN∧
 (∀{H H':Hp},Same H H'→∀{v x},Rep H v x→Rep H' v x)∧(∀{H:Hp}{a:Addr}{xs:List V},H a=some (.lst xs)→∀{v x},Rep H v x→Rep (av a H) v x)∧∀(p:V)(H':Hp),Same H H'→Rep H' p (evT fs fm t)→Q p H'
end
theorem Wu:∀(t:Tr)(ts:List Th),some ts∈aw t→ts∈t.streams
 | .leaf s,ts,h=>by
  have:=yN.mp h
  cases this
  exact .head _
 | .node a b,ts,h=>by
  show ts∈a.streams++b.streams
  rcases yY.mp (show some ts∈aw a++aw b++[none]from h)with h | h
  ·rcases yY.mp h with h | h
   ·exact zw _ (Wu a ts h)
   ·exact yP _ (Wu b ts h)
  ·exact nomatch yN.mp h
theorem Tq{p:Addr}{H0 H1 H2:Hp}(n:H0 p=none)(s:Same H0 H1)(g:Grw p H1 H2):Same H0 H2:=fun b u e=>(Zc (g b u (by rw[Zh (Zf e n)];exact s b u e))).2
theorem rl{a:Addr}{H:Hp}{o:HO}:Same (av a H) (upd H a o):=fun b u q=>by
 obtain⟨h1,h2⟩:=Zc q
 rw[Za h1]
 exact h2
theorem oA{k:Nat}(hk:1≤k)(jX:Has P w K mg base "steps_in" 1 ["tree"] k7)(F:Fun K "grown" "grown" fc f fd):FnOk P w K mg base CX0 (k+1) f fd ["tree","of_stream","of_two"] (gd P w K mg k base):=by
 refine F.ok U4 (fun vs H Q E h=>?_) (fun cdv A outer s H vs Q E hr h=>?_)
 ·obtain⟨_,_,_,_,_,_,_,_,v,f1,f2,t,rfl,_⟩:=h
  rfl
 obtain⟨α,Rep,fs,fm,I,wt,NN,OkS,v,f1,f2,t,rfl,dv,hsz,hok,⟨fd1,ps1,sp1,F1,B1,C1,u1⟩,⟨fd2,ps2,sp2,F2,B2,C2,u2⟩,I1,I2,wN,mono,lst,hq⟩:=h
 refine⟨_,(Z2 (Zw 3 U4.nd rfl (Or.inl rfl) (Yh Z0) (by rfl) (by rfl))
 (Z2 (Xe zy rfl (Y4 (Z4 jX hr (Z1 (pv 0) Z0 (by rfl)))) (Z8 (i:=4) U4.nd rfl (Or.inl rfl))
 (Z7 (Yl (Zi nQ (pv 4) Ua (Zk _)) (Z2 (Zw 5 U4.nd rfl (Or.inl rfl) (Tl zF PySem.F.slot_list_pop PySem.F.type_list_pop gh (pv 3)) (by rfl) (by rfl))
 (Z2 (Zw 6 U4.nd rfl (Or.inl rfl) (Tl zF PySem.F.slot_list_pop PySem.F.type_list_pop gh (pv 3)) (by rfl) (by rfl))
 (Z7 (Xj (T9 zF Ao Ap Wc (pv 3) (Z1 (iq (i:=2) hr (Z1 (pv 6) (Z1 (pv 5) Z0 (by rfl)) (by rfl))) Z0 (by rfl))))))) (Z7 (Xj (T9 zF Ao Ap Wc (pv 3) (Z1 (iq (i:=1) hr (Z1 (pv 4) Z0 (by rfl))) Z0 (by rfl))))))))
 (Z7 (Ze (Tl zF PySem.F.slot_list_pop PySem.F.type_list_pop gh (pv 3)))))),?_⟩
 refine⟨leN rfl,fun kp nkp=>?_⟩
 refine⟨_,rfl,v,t,H,rfl,Z6 nkp _,dv,hsz,fun r ls H2 s2 nr er pr=>?_⟩
 have ekp:H2 kp=some (.lst []):=s2 _ _ Z5
 have sH:Same H H2:=(Z6 nkp _).trans s2
 have krne:r≠kp:=fun z=>by rw[z,Z5]at nr;cases nr
 have lsl:=Ul pr
 rw[Uh]at lsl
 refine⟨r,rfl,⟨_,SqL.of er⟩,?_⟩
 refine iR (xs:=ls) (fun i σ H'=>∃(o4 o5 o6:Option V)(vs:List V)(st:List α),σ=[some v,some (.ref f1),some (.ref f2),some (.ref kp),o4,o5,o6]∧Grw kp H2 H'∧H' kp=some (.lst vs)∧Paired (Rep (av kp H')) vs st.reverse∧(∀x∈st,I x)∧(st.map wt).sum+wgt ((aw t).drop i)≤NN∧st.length≤i∧nK fs fm ((aw t).drop i) st=some [evT fs fm t])
  ⟨_,_,_,[],[],rfl,Same.refl _,ekp,.nil,(fun _ h=>nomatch h),by show 0+wgt (aw t)≤NN;omega,yF _,?_⟩ ?_ ?_ ?_
 ·have:=R4 fs fm t [] []
  rw[Ab]at this
  exact this
 ·rintro i σ H' _ ⟨_,_,_,_,_,_,g,_⟩
  exact SqL.of (Zc (g _ _ (by rw[Zh krne];exact er))).2
 ·rintro i x σ H' hx ⟨o4,o5,o6,vs,st,rfl,g,ek,pst,ist,wst,stl,hm⟩
  obtain⟨o,ho,sv⟩:=kA pr hx
  have hd:(aw t).drop i=o::(aw t).drop (i+1):=by
   have A1:=(yK.mp ho).1
   rw[List.drop_eq_getElem_cons A1]
   congr 1
   exact(yK.mp ho).2
  rw[hd]at hm wst
  rw[pN]at wst
  have ilt:i<ls.length:=(yK.mp hx).1
  have vl:=Ul pst
  rw[List.length_reverse]at vl
  cases o with
  | none=>
   cases (show x=V.non from sv)
   refine⟨_,rfl,rfl,_,rfl,W3 ?_⟩
   match st,hm,ist,wst,stl,pst,vl with
   | y::x::A9,hm,ist,wst,stl,pst,vl=>
   have wst:wt y+(wt x+(A9.map wt).sum)+(0+wgt ((aw t).drop (i+1)))≤NN:=wst
   have wxy:wt x+wt y≤NN:=by omega
   have e:(y::x::A9).reverse=A9.reverse++[x]++[y]:=by simp
   rw[e]at pst
   obtain⟨vs1,b,rfl,pst1,rb⟩:=S6 pst
   obtain⟨vs2,a,rfl,pst2,ra⟩:=S6 pst1
   refine⟨_,rfl,.inl ⟨rfl,_,SqL.of ek⟩,kp,_,b,rfl,rfl,ek,by simp,?_⟩
   rw[List.dropLast_concat]
   refine⟨_,rfl,.inl ⟨rfl,_,SqL.of Z5⟩,kp,_,a,rfl,rfl,Z5,by simp,?_⟩
   rw[List.dropLast_concat,rh]
   have gc:Grw kp H' (upd H' kp (.lst vs2)):=Yw
   have ec:upd H' kp (.lst vs2) kp=some (.lst vs2):=Z5
   generalize upd H' kp (.lst vs2)=Hc at gc ec⊢
   have sc:Same H Hc:=Tq nkp sH (g.trans gc)
   refine⟨_,rfl,.inl ⟨rfl,_,SqL.of ec⟩,f2,fd2,ps2,sp2,rfl,F2,B2,C2,_,rfl,_,rfl,?_⟩
   refine u2 Hc a b x y _ sc (mono Yc (mono gc ra)) (mono Yc (mono gc rb)) (ist x (.tail _ (.head _))) (ist y (.head _)) wxy fun p H3 s3 rp=>?_
   have ek3:=s3 _ _ ec
   have g3:Grw kp Hc H3:=Sg ec s3
   refine⟨kp,vs2,p,rfl,rfl,ek3,Zm (by rw[List.length_append,List.length_append]at vl;simp at vl;simp at stl;omega),?_⟩
   refine⟨_,_,_,vs2++[p],fm x y::A9,rfl,g.trans (gc.trans (g3.trans Yw)),Z5,?_,fun z hz=>?_,by show wt (fm x y)+(A9.map wt).sum+wgt ((aw t).drop (i+1))≤NN;rw[(I2 _ _ (ist x (.tail _ (.head _))) (ist y (.head _)) wxy).2];omega,by simp at stl⊢;omega,hm⟩
   ·rw[List.reverse_cons]
    refine Xx (Qw (R:=Rep) mono (gc.trans (g3.trans Yw)) pst2) (.cons ?_ .nil)
    exact mono Yw (lst ek3 rp)
   ·rcases yU.mp hz with rfl | hz
    ·exact(I2 _ _ (ist x (.tail _ (.head _))) (ist y (.head _)) wxy).1
    ·exact ist z (.tail _ (.tail _ hz))
  | some ts=>
   have sv:DV H x (aP ts):=sv
   obtain⟨b,xs,rfl,eb,qb⟩:=DV.list_inv sv
   refine⟨_,rfl,rfl,_,rfl,Xd ?_⟩
   have oks:=hok ts (Wu t ts (y3 ho))
   have sc:Same H H':=Tq nkp sH g
   have dvx:DV H' (.ref b) (aP ts):=sv.mono sc
   refine⟨_,rfl,.inl ⟨rfl,_,SqL.of ek⟩,f1,fd1,ps1,sp1,rfl,F1,B1,C1,_,rfl,?_⟩
   refine u1 H' (.ref b) ts _ sc dvx oks fun p H3 s3 rp=>?_
   have ek3:=s3 _ _ ek
   have g3:Grw kp H' H3:=Sg ek s3
   refine⟨kp,vs,p,rfl,rfl,ek3,Zm (by omega),?_⟩
   refine⟨_,_,_,vs++[p],fs ts::st,rfl,g.trans (g3.trans Yw),Z5,?_,fun z hz=>?_,by show wt (fs ts)+(st.map wt).sum+wgt ((aw t).drop (i+1))≤NN;rw[(I1 _ oks).2];have wst:(st.map wt).sum+(ts.length+wgt ((aw t).drop (i+1)))≤NN:=wst;omega,by simp;omega,hm⟩
   ·rw[List.reverse_cons]
    refine Xx (Qw (R:=Rep) mono (g3.trans Yw) pst) (.cons ?_ .nil)
    exact mono Yw (lst ek3 rp)
   ·rcases yU.mp hz with rfl | hz
    ·exact(I1 _ oks).1
    ·exact ist z hz
 ·rintro σ H' ⟨o4,o5,o6,vs,st,rfl,g,ek,pst,ist,wst,stl,hm⟩
  rw[lsl,←Uh,List.drop_length]at hm
  have hst:st=[evT fs fm t]:=zt hm
  subst hst
  match vs,pst with
  | [p],.cons rp .nil=>
  refine⟨_,rfl,.inl ⟨rfl,_,SqL.of ek⟩,kp,_,p,rfl,rfl,ek,rfl,?_⟩
  exact hq p _ (Xu (Tq nkp sH g) nkp) (mono rl rp)
def lamE(st:Stmt):Expr:=match ay st with
 | [.Return (some (.Call _ (_::e::_) _ _)) _]=>e
 | _=>.Constant .none 0 ⟨0,0,0,0⟩
def jd(e:Expr):Pos:=match e with
 | .Lambda _ _ _ p=>p
 | _=>⟨0,0,0,0⟩
def dq(e:Expr):Scope:=match e with
 | .Lambda _ _ sc _=>sc
 | _=>{kind:=.function,names:=[],isGenerator:=false,isCoroutine:=false}
abbrev ck:Expr:=lamE af
abbrev qGT:Str:=("grown_ladder":Str)++".<locals>."++"<lambda>"
theorem scL:LamScope ["stream"] ["room","deep"] (dq ck):=⟨rfl,rfl,rfl,by decide +kernel,by decide +kernel,fun x h=>by
  have:∀y∈(dq ck).names,y.2=.free→y.1="room"∨y.1="deep":=by decide +kernel
  rcases this (x,.free) (zC h) rfl with e | e
  ·have e:x="room":=e
   rw[e]
   exact .head _
  ·have e:x="deep":=e
   rw[e]
   exact .tail _ (.head _),by decide +kernel,by decide +kernel⟩
mutual
theorem Q8{H:Hp}{a:Addr}(n1:∀xs,H a≠some (.lst xs))(n2:∀xs,H a≠some (.tup xs)):∀{v:V}{d:PyData},DV H v d→DV (av a H) v d
 | _,_,.non=>.non
 | _,_,.bl b=>.bl b
 | _,_,.int i=>.int i
 | _,_,.str x=>.str x
 | _,_,.lst e r=>.lst (by rw[Zh (fun z=>n1 _ (z ▸ e))];exact e) (Po n1 n2 r)
 | _,_,.tup e r=>.tup (by rw[Zh (fun z=>n2 _ (z ▸ e))];exact e) (Po n1 n2 r)
theorem Po{H:Hp}{a:Addr}(n1:∀xs,H a≠some (.lst xs))(n2:∀xs,H a≠some (.tup xs)):∀{vs:List V}{ds:List PyData},DVs H vs ds→DVs (av a H) vs ds
 | _,_,.nil=>.nil
 | _,_,.cons h r=>.cons (Q8 n1 n2 h) (Po n1 n2 r)
end
theorem nA{H:Hp}{a:Addr}{xs:List V}(e:H a=some (.lst xs)){q:Addr}{AT or total:Int}{ps:Sps}(h:LadAt H q AT or total ps):LadAt (av a H) q AT or total ps:=by
 have tp:∀{b:Addr}{ys:List V},H b=some (.tup ys)→av a H b=some (.tup ys):=fun{b ys} h=>by
  rw[Zh (fun z=>by rw[z,e]at h;cases h)]
  exact h
 obtain⟨c,as,e1,e2,r⟩:=h.at_
 exact⟨c,as,tp e1,tp e2,Paired.mapP r fun _ _ ⟨y,f1,f2⟩=>⟨y,tp f1,tp f2⟩⟩
def glT(AT or:Int)(t:Tr):Sps:=evT (bZ AT or) (bj AT or) t
def fsL(AT or:Int)(ts:List Th):Sps×Nat:=(bZ AT or ts,ts.length)
def fmL(AT or:Int)(x y:Sps×Nat):Sps×Nat:=(bj AT or x.1 y.1,x.2+y.2)
theorem jh(AT or:Int):∀t:Tr,(evT (fsL AT or) (fmL AT or) t).1=glT AT or t
 | .leaf ts=>rfl
 | .node a b=>by
  show bj AT or (evT (fsL AT or) (fmL AT or) a).1 (evT (fsL AT or) (fmL AT or) b).1=bj AT or (glT AT or a) (glT AT or b)
  rw[jh AT or a,jh AT or b]
def RepL(AT or:Int)(H:Hp)(v:V)(x:Sps×Nat):Prop:=∃p:Addr,v=.ref p∧LadAt H p AT or (ag x.1) x.1
def wv(T:Addr):Sp:=fun vs H Q _=>∃(v:V)(AT or:Int)(t:Tr),vs=[.int AT,.int or,v]∧1≤AT∧AT≤20∧0≤or∧or≤20∧DV H v t.D∧t.size≤1000∧(∀s∈t.streams,∀x∈s,ThL or x)∧t.all.length≤150∧LamAt T (jd ck) qGT H∧
 ∀(p:Addr) H',Same (av T H) (av T H')→LamAt T (jd ck) qGT H'→LadAt H' p AT or (ag (glT AT or t)) (glT AT or t)→Q (.ref p) H'
def vR(c:Addr)(AT or:Int):Sp:=fun vs H Q _=>∃(v:V)(ts:List Th),vs=[v]∧H c=some (crO qGT c)∧DV H v (aP ts)∧(∀t∈ts,ThL or t)∧ts.length≤150∧∀(p:Addr) H',Same H H'→LadAt H' p AT or (ag (bZ AT or ts)) (bZ AT or ts)→Q (.ref p) H'
theorem fK:∀(t:Tr)(s:List Th),s∈t.streams→s.length≤t.all.length
 | .leaf ts,s,h=>by rw[yN.mp h];exact yF _
 | .node a b,s,h=>by
  show s.length≤(a.all++b.all).length
  rw[yJ]
  rcases yY.mp h with h | h
  ·have:=fK a s h;omega
  ·have:=fK b s h;omega
theorem wQ{c T f2:Addr}{oc:Value}{od an:Option Addr}{osl:Array (Option Value)}{kV doc pm ct:Value}{fd2:FuncData}(lk:K.lookup f=some ⟨oc,od,.func (W.fnOf "grown_ladder" "grown_ladder" (aD af) (ay af) (aa af) .none kV doc pm an (.ref c) ct),osl⟩)(hcd:W.codeIn K (.ref c) "grown_ladder"=true)(C:W.CodeHd base c T)(hgP:mainGlobals≠T)(hB:base.BuiltinsAt mg T)(hb_grown:HasB P w K mg "grown" 9 ["tree","of_stream","of_two"] (gd P w K mg 8))(hT:∀base:Heap,K.In base→base.Ns mainGlobals mg→Has P w K mg base "ladder_of" 7 ["room","deep","stream"] vG)(hM:∀base:Heap,K.In base→base.Ns mainGlobals mg→Has P w K mg base "merged_ladder" 6 ["one","other"] oU)(m2:mg "merged_ladder"=some (.ref f2))(F2:Fun K "merged_ladder" "merged_ladder" aW f2 fd2):
  FnOk P w K mg base CX0 10 f (W.fnOf "grown_ladder" "grown_ladder" (aD af) (ay af) (aa af) .none kV doc pm an (.ref c) ct) ["room","deep","tree"] (wv T):=by
 refine uu (k:=9) lk hcd Ri (fun vs H Q E h=>?_) (fun A outer s H vs Q E hr h=>?_)
 ·obtain⟨v,AT,or,t,rfl,_⟩:=h
  rfl
 obtain⟨v,AT,or,t,rfl,r0,r1,d0,d1,dv,hsz,tw,tal,lam,hq⟩:=h
 have g_mt:∃u,mg "merged_ladder"=some u∧RelV (.ref f2) u:=⟨_,m2,rfl⟩
 have hf:∀x∈(dq ck).names,x.2=.free→∃c',(PyProof.Rows.envOfC "grown_ladder" (aa af) s.heap.objs.size f (.ref c)).cells.lookup x.1=some c':=fun x hx hk=>by
  have:∀y∈(dq ck).names,y.2=.free→(aa af).names.lookup y.1=some .cell:=by decide +kernel
  exact Ps (this x hx hk)
 refine⟨_,Z7 (Ze (pS hb_grown (fun _=>rfl) rfl rfl hr (Z1 (pv 2) (Z1 (uU (c:=c) (T:=T) (sc:=dq ck) rfl C hgP hB hf) (Z1 (qt rfl g_mt) Z0 (by rfl)) (by rfl)) (by rfl)))),?_⟩
 refine⟨_,rfl,lam,fun a c' pm2 ctv H1 g1 na nac eT ec ea=>?_⟩
 have tT:H T≠none:=by
  rcases lam.tab with e | ⟨_,e,_⟩ <;> (rw[e];exact fun z=>nomatch z)
 have nT1:∀xs,H T≠some (.lst xs):=by
  rcases lam.tab with e | ⟨_,e,_⟩ <;> (rw[e];exact fun _ z=>nomatch z)
 have nT2:∀xs,H T≠some (.tup xs):=by
  rcases lam.tab with e | ⟨_,e,_⟩ <;> (rw[e];exact fun _ z=>nomatch z)
 have aT:a≠T:=fun z=>tT (z ▸ na)
 have dv1:DV H1 v t.D:=((Q8 nT1 nT2 dv).mono g1).mono Yc
 have dva:DV (av a H1) v t.D:=Q8 (by rw[ea];exact fun _ z=>nomatch z) (by rw[ea];exact fun _ z=>nomatch z) dv1
 refine⟨a,_,ea,fun B wid=>?_⟩
 have wfn:=wid.fn
 have ec2:av a H1 c'=some (crO qGT c'):=by rw[Zh (Ne.symm nac)];exact ec
 have cls:∀x d,(aJ (PyProof.Rows.envOfC "grown_ladder" (aa af) s.heap.objs.size f (.ref c)) (dq ck).names).lookup x=some d→(PyProof.Rows.envOfC "grown_ladder" (aa af) s.heap.objs.size f (.ref c)).cells.lookup x=some d:=fun x d e=>R8 _ [] hf (fun _ h=>nomatch h) (x,d) (zC e)
 refine⟨Sps×Nat,RepL AT or,fsL AT or,fmL AT or,fun x=>Pok or x.1∧x.1.length≤x.2,fun x=>x.2,150,fun ts=>(∀x∈ts,ThL or x)∧ts.length≤150,v,a,f2,t,rfl,dva,hsz,fun s hs=>⟨tw s hs,zG (fK t s hs) tal⟩,?_,?_,fun ts h=>?_,fun x y h1 h2 h3=>?_,by rw[Qc];exact tal,?_,?_,?_⟩
 ·refine⟨_,["stream"],vR c' AT or,u9 (k:=7) (us:=[.int AT,.int or]) (fr:=["room","deep"]) wfn scL rfl ?_ (fun x y d e1 e2=>wid.inj x y d (cls x d e1) (cls y d e2)) (fun x d e=>wid.cells x d (cls x d e)) (fun vs H Q E h=>?_) (fun vs H Q E h=>?_) (fun A outer s H vs Q E hr h=>?_),?_,⟨_,_,_,_,wfn⟩,?_⟩
  ·intro i x u h1 h2
   match i,h1,h2 with
   | 0,h1,h2=>
    cases h1
    cases h2
    obtain⟨c2,u2,e1,e2,rv⟩:=wid.cell 0 "room" (.int AT) rfl rfl rfl
    obtain⟨c3,hc3⟩:=Uz (dq ck).names [] (env:=PyProof.Rows.envOfC "grown_ladder" (aa af) s.heap.objs.size f (.ref c)) "room" (zC (scL.fre "room" (.head _)))
    obtain⟨c4,hc4⟩:=W0 hc3
    have e3:=cls _ _ hc4
    have e4:c4=c2:=zt (e3.symm.trans e1)
    subst e4
    exact⟨c4,u2,hc4,e2,rv⟩
   | 1,h1,h2=>
    cases h1
    cases h2
    obtain⟨c2,u2,e1,e2,rv⟩:=wid.cell 1 "deep" (.int or) rfl rfl rfl
    obtain⟨c3,hc3⟩:=Uz (dq ck).names [] (env:=PyProof.Rows.envOfC "grown_ladder" (aa af) s.heap.objs.size f (.ref c)) "deep" (zC (scL.fre "deep" (.tail _ (.head _))))
    obtain⟨c4,hc4⟩:=W0 hc3
    have e3:=cls _ _ hc4
    have e4:c4=c2:=zt (e3.symm.trans e1)
    subst e4
    exact⟨c4,u2,hc4,e2,rv⟩
  ·obtain⟨_,_,_,e,_⟩:=h
   exact e
  ·obtain⟨_,_,rfl,_⟩:=h
   rfl
  ·obtain⟨u,ts,rfl,e,d,ok,tl,hq2⟩:=h
   have gH:=hT B wid.kin wid.glb
   refine⟨_,Z4 gH hr (Z1 (pv 1) (Z1 (pv 2) (Z1 (pv 0) Z0 (by rfl)) (by rfl)) (by rfl)),?_⟩
   exact⟨_,rfl,_,rfl,_,rfl,u,AT,or,ts,rfl,d,ok,r0,r1,d0,d1,by omega,hq2⟩
  ·exact .all fun us hl=>match us,hl with | [_],_=>rfl
  ·exact fun H u ts Q s d ok hq2=>⟨u,ts,rfl,s _ _ ec2,d,ok.1,ok.2,fun p H' s' d'=>hq2 (.ref p) H' s' ⟨p,rfl,d'⟩⟩
 ·obtain⟨f',fd',FM,bM,kM,mM⟩:=(hM B wid.kin wid.glb).ex
  have e:f'=f2:=by
   rw[m2]at mM
   cases mM
   rfl
  subst e
  obtain⟨oc2,od2,kV2,doc2,pm3,an2,cdv2,ct2,osl2,_,lk2,_⟩:=F2.ex
  refine⟨fd',["one","other"],oU,FM.mono (by decide),bM,⟨_,_,_,_,wid.kin _ _ lk2⟩,?_⟩
  rintro H u u' x y Q s ⟨p,rfl,d⟩ ⟨q,rfl,d2⟩ ix iy wxy hq2
  have a1:x.1.length≤x.2:=ix.2
  have a2:y.1.length≤y.2:=iy.2
  have wxy:x.2+y.2≤150:=wxy
  exact⟨p,q,AT,or,x.1,y.1,rfl,d,d2,ix.1,iy.1,r0,r1,d1,by omega,fun p' H' s' d'=>hq2 (.ref p') H' s' ⟨p',rfl,d'⟩⟩
 ·obtain⟨o,_,l⟩:=Q0 (AT:=AT) d0 h.1
  exact⟨⟨o.pok,l⟩,rfl⟩
 ·obtain⟨o,_,l⟩:=Up (AT:=AT) h1.1 h2.1
  have a1:x.1.length≤x.2:=h1.2
  have a2:y.1.length≤y.2:=h2.2
  exact⟨⟨o.pok,by show(bj AT or x.1 y.1).length≤x.2+y.2;omega⟩,rfl⟩
 ·rintro H H' g v x ⟨p,rfl,d⟩
  exact⟨p,rfl,d.mono g⟩
 ·rintro H b xs e v x ⟨p,rfl,d⟩
  exact⟨p,rfl,nA e d⟩
 ·rintro p H' g ⟨p,rfl,d⟩
  rw[jh]at d
  refine hq p H' ?_ ?_ d
  ·intro b u e
   obtain⟨b1,b2⟩:=Zc e
   have:=g1 b u e
   obtain⟨_,e3⟩:=Zc this
   rw[Zh b1]
   exact g b u (by rw[Zh (Zf b2 na)];exact e3)
  ·exact⟨.inr ⟨c',g _ _ (by rw[Zh (Ne.symm aT)];exact eT),g _ _ ec2⟩⟩
theorem kH:(PyData.list []).canLay0=true∧(PyData.list []).depth≤5:=⟨rfl,by decide⟩
def ThK(or:Int)(t:Th):Prop:=ThL or t∧PyData.strOk t.word=true
theorem rm{or:Int}{t:Th}(h:ThK or t):t.D.canLay0=true∧t.D.depth≤1:=by
 refine⟨?_,?_⟩
 ·simp[Th.D,PyData.canLay0,PyData.canLayAll0,h.2]
 ·simp[Th.D,PyData.depth,PyData.depthAll]
theorem gY{or:Int}{ts:List Th}(h:∀t∈ts,ThK or t):(aP ts).canLay0=true∧(aP ts).depth≤2:=pZ ts fun t ht=>rm (h t ht)
theorem sZ{K:W.Frag}{S:Addr}{ns:List Int}{H0 H:Hp}{a L:Addr}{o:HO}(h0:Pn K S ns H0 a)(n:H0 L=none)(h:Pn K S ns H a)(la:L≠a):Pn K S ns (upd H L o) a:=by
 obtain⟨⟨i,r,ea⟩,s,f⟩:=h
 refine⟨⟨i,r,by rw[Za (Ne.symm la)];exact ea⟩,?_,f⟩
 obtain⟨_,s0,_⟩:=h0
 rcases s0 with s0 | s0
 ·have ne:S≠L:=by
   rcases s0 with s0 | ⟨u,s0⟩
   ·exact Zf s0 n
   ·exact Zf s0 n
  rcases s with(s | ⟨u,s⟩) | s
  ·exact .inl (.inl (by rw[Za ne];exact s))
  ·exact .inl (.inr ⟨u,by rw[Za ne];exact s⟩)
  ·exact .inr s
 ·exact .inr s0
def TsAt(H:Hp):List V→List Th→Prop:=Paired fun x t=>∃c:Addr,x=.ref c∧H c=some (.tup t.vs)
theorem TsAt.get{H:Hp}:∀{xs:List V}{ts:List Th}{j:Nat}{x:V},TsAt H xs ts→xs[j]?=some x→∃c t,x=.ref c∧ts[j]?=some t∧H c=some (.tup t.vs)
 | _,_,_,_,.nil,e=>by simp at e
 | _,_,0,_,.cons h _,e=>by
  rw[z7]at e
  cases e
  obtain⟨c,e,q⟩:=h
  exact⟨c,_,e,rfl,q⟩
 | _,_,j+1,_,.cons _ r,e=>TsAt.get (j:=j) r (by simpa using e)
theorem TsAt.dvs{H:Hp}:∀{xs:List V}{ts:List Th},TsAt H xs ts→DVs H xs (ts.map Th.D)
 | _,_,.nil=>.nil
 | _,_,.cons ⟨c,e,h⟩ r=>by
  rw[e]
  exact .cons (Th.dv h) (TsAt.dvs r)
theorem TsAt.tup{H H':Hp}(g:∀c xs,H c=some (.tup xs)→H' c=some (.tup xs)){xs:List V}{ts:List Th}(h:TsAt H xs ts):TsAt H' xs ts:=Paired.mapP h fun _ _ ⟨c,e,q⟩=>⟨c,e,g _ _ q⟩
structure StrS(K:W.Frag)(S:Addr)(ns:List Int)(H0:Hp)(a L:Addr)(or:Int)(H:Hp)(xs:List V)(ts:List Th):Prop where
 pn:Pn K S ns H a
 g:Grw a H0 H
 eL:H L=some (.lst xs)
 ta:TsAt H xs ts
 ok:∀t∈ts,ThK or t
section
variable{K:W.Frag}{S a L:Addr}{ns:List Int}{H0 H H':Hp}{or:Int}{xs:List V}{ts:List Th}
theorem Vr{c:Addr}{ys:List V}(hp:Pn K S ns H a)(g:Grw a H H')(e:H c=some (.tup ys)):H' c=some (.tup ys):=(Zc (g _ _ (hp.tup e))).2
theorem StrS.grw(s:StrS K S ns H0 a L or H xs ts)(La:L≠a)(hp:Pn K S ns H' a)(g:Grw a H H'):StrS K S ns H0 a L or H' xs ts:=⟨hp,s.g.trans g,(Zc (g L _ (by rw[Zh La];exact s.eL))).2,s.ta.tup fun c ys e=>Vr s.pn g e,s.ok⟩
theorem StrS.laid{p:Addr}{o:HO}(s:StrS K S ns H0 a L or H xs ts)(La:L≠a)(n:H p=none):StrS K S ns H0 a L or (upd H p o) xs ts:=s.grw La (s.pn.laid n) (s.pn.grw (Z6 n o))
theorem StrS.put(s:StrS K S ns H0 a L or H xs ts)(La:L≠a){H1:Hp}(hp1:Pn K S ns H1 a)(n1:H1 L=none)(n0:av a H0 L=none){c:Addr}{t:Th}(ec:H c=some (.tup t.vs))(ht:ThK or t):StrS K S ns H0 a L or (upd H L (.lst (xs++[.ref c]))) (xs++[.ref c]) (ts++[t]):=by
 have tp:∀(b:Addr)(ys:List V),H b=some (.tup ys)→upd H L (.lst (xs++[.ref c])) b=some (.tup ys):=fun b ys e=>by rw[Za (Ta e s.eL (by intro z;cases z))];exact e
 refine⟨sZ hp1 n1 s.pn La,sK s.g n0,Z5,AS (s.ta.tup tp) ⟨c,rfl,tp _ _ ec⟩,fun x hx=>?_⟩
 rcases yY.mp hx with hx | hx
 ·exact s.ok x hx
 ·rw[yN.mp hx];exact ht
end
def t7(K:W.Frag):Sp:=fun vs H Q _=>∃(a S:Addr)(ns:List Int)(or most:Int),vs=[.ref a,.int or,.int most]∧Pn K S ns H a∧1≤or∧or≤10∧0≤most∧most≤60∧∀(L:Addr)(ts:List Th)(H':Hp),H L=none→(∀t∈ts,ThK or t)→(ts.length:Int)≤most→DV (av a H') (.ref L) (aP ts)→Pn K S ns H' a→Grw a H H'→Q (.ref L) H'
theorem N8:PyData.strOk "a"=true∧PyData.strOk "b"=true∧PyData.strOk "cd"=true:=by decide +kernel
theorem vE(aE:mg "range"=none)(aM:mg "len"=none)(ah:Has P w K mg base "_law_take" 1 ["_law_pen_here","_law_most"] (bY K))(dQ:Has P w K mg base "_law_many" 2 ["_law_pen_here"] (jP K))(F:Fun K "_law_stream" "_law_stream" cK f fd):FnOk P w K mg base CX0 3 f fd ["_law_pen_here","_law_deep","_law_most"] (t7 K):=by
 refine F.ok Yr (fun vs H Q E h=>?_) (fun cdv A outer s H vs Q E hr h=>?_)
 ·obtain⟨a,S,ns,or,most,rfl,_⟩:=h
  rfl
 obtain⟨a,S,ns,or,most,rfl,hp,d0,d1,m0,m1,hq⟩:=h
 have tw:=W9 (m:=or) d1
 have hpH:=hp
 refine⟨_,(Z2 (Zw 3 Yr.nd rfl (Or.inl rfl) (Yh Z0) (by rfl) (by rfl)) Zd),leN rfl,fun L n_L=>?_⟩
 have La:=hp.ne n_L
 have nHL:av a H L=none:=by rw[Zh La];exact n_L
 have ss:StrS K S ns H a L or (upd H L (.lst [])) [] []:=⟨hp.laid n_L,hp.grw (Z6 n_L _),Z5,.nil,fun _ h=>absurd h zE⟩
 generalize upd H L (.lst [])=H1 at ss⊢
 clear hp
 refine⟨_,(Z2 (Zw 4 Yr.nd rfl (Or.inl rfl) (Zb P1 Z3 (pv 1)) (by rfl) (by rfl)) Zd),_,rfl,_,_,rfl,rfl,⟨by omega,by omega,by decide⟩,?_⟩
 show vh _ _ _ [_,_,_,_,some (V.int (1 * 2 ^ or.toNat)),_,_,_,_] _
 rw[Ai]
 obtain⟨top,htop⟩:∃top:Int,(2:Int) ^ or.toNat=top:=⟨_,rfl⟩
 rw[htop]at tw⊢
 refine⟨_,(Z2 (Zw 5 Yr.nd rfl (Or.inl rfl) (Z4 ah hr (Z1 (pv 0) (Z1 (pv 4) Z0 (by rfl)) (by rfl))) (by rfl) (by rfl)) Zd),_,rfl,_,rfl,a,S,ns,top,rfl,ss.pn,by omega,by omega,fun mid H2 x0 x1 hp g2=>?_⟩
 have ss:=ss.grw La hp g2
 refine⟨_,(Z2 (Xe zy rfl (Wb rfl aE (Z1 (Z4 ah hr (Z1 (pv 0) (Z1 (Zb Zs (pv 2) Z3) Z0 (by rfl)) (by rfl))) Z0 (by rfl))) (Z8 (i:=6) Yr.nd rfl (Or.inl rfl))
 (Z2 (Zw 7 Yr.nd rfl (Or.inl rfl) (Z4 ah hr (Z1 (pv 0) (Z1 Z3 Z0 (by rfl)) (by rfl))) (by rfl) (by rfl))
 (Z2 (Zw 8 Yr.nd rfl (Or.inl rfl) (Z4 ah hr (Z1 (pv 0) (Z1 (pv 4) Z0 (by rfl)) (by rfl))) (by rfl) (by rfl))
 (Z2 (Yl (PW.pt (Qu (Zi Og (pv 7) Z3 (Zk _)) (S3 (Zi (P2 hr.units) (pv 3) (Yh Z0) (Zk _))))) (Z7 (Zw 8 Yr.nd rfl (Or.inl rfl) (Zt Y6 (Zt Y7 (pv 3) (Z4 ah hr (Z1 (pv 0) (Z1 (Zo Y5 rfl aM Ax (Z1 (pv 3) Z0 (by rfl))) Z0 (by rfl)) (by rfl))) (fun _ _=>rfl)) Z3 (fun _ _=>rfl)) (by rfl) (by rfl))) Zu)
 (Z2 (Yl (Zi Og (pv 7) Z3 (Zk _)) (Z7 (Zw 8 Yr.nd rfl (Or.inl rfl) (Zb Wj (Zb Zs (pv 5) (Z4 ah hr (Z1 (pv 0) (Z1 Z3 Z0 (by rfl)) (by rfl)))) (pv 4)) (by rfl) (by rfl))) Zu)
 (Z7 (Xj (T9 zF Ao Ap Wc (pv 3) (Z1 (Zr (Z1 (Z4 ah hr (Z1 (pv 0) (Z1 Z3 Z0 (by rfl)) (by rfl))) (Z1 (Zt Y7 (Yh (Z1 Tk (Z1 Tk (Z1 Tk Z0 (by rfl)) (by rfl)) (by rfl))) (Z4 ah hr (Z1 (pv 0) (Z1 Z3 Z0 (by rfl)) (by rfl))) (fun _ _=>rfl)) (Z1 (pv 8) (Z1 (Z4 dQ hr (Z1 (pv 0) Z0 (by rfl))) Z0 (by rfl)) (by rfl)) (by rfl)) (by rfl))) Z0 (by rfl)))))))))) Zd),?_⟩
 refine⟨_,rfl,_,rfl,_,_,rfl,rfl,a,S,ns,_,rfl,ss.pn,by omega,by omega,fun t H3 t0 t1 hp g3=>⟨t,rfl,by omega,by omega,?_⟩⟩
 have ss:=ss.grw La hp g3
 clear hp g3 g2
 refine Wp (lo:=0) (n:=t.toNat) (fun i σ H'=>∃(o6 o7 o8:Option V)(xs:List V)(ts:List Th),σ=[some (.ref a),some (.int or),some (.int most),some (.ref L),some (.int top),some (.int mid),o6,o7,o8]∧StrS K S ns H a L or H' xs ts∧ts.length=i) ⟨_,_,_,_,_,rfl,ss,rfl⟩ ?_ ?_
 ·clear ss
  rintro i σ H4 N B1 R hN hR hi ⟨o6,o7,o8,xs,ts,rfl,ss,tl⟩
  have xl:=yT ss.ta
  refine⟨_,rfl,a,S,ns,4,rfl,ss.pn,Wz rfl,ltI rfl,fun way H5 _ _ hp g=>?_⟩
  have ss:=ss.grw La hp g
  refine⟨_,rfl,_,rfl,a,S,ns,top,rfl,ss.pn,by omega,by omega,fun num H6 n0 n1 hp g=>?_⟩
  have ss:=ss.grw La hp g
  clear hp g
  dsimp only
  refine We (fun σ' H'=>∃(num:Int),σ'=[some (.ref a),some (.int or),some (.int most),some (.ref L),some (.int top),some (.int mid),some (.int (0+(i:Int))),some (.int way),some (.int num)]∧StrS K S ns H a L or H' xs ts∧0≤num∧num<top) ?_ ?_
  ·intro nx hnx
   refine⟨_,rfl,rfl,_,rfl,W7 (fun c=>?_) (fun c=>?_)⟩
   ·refine⟨_,rfl,leN rfl,fun p np=>?_⟩
    have s7:=ss.laid (o:=.lst []) La np
    have A0:(upd H6 p (.lst [])) p=some (.lst []):=Z5
    generalize upd H6 p (.lst [])=H7 at s7 A0⊢
    refine⟨_,_,.lst s7.eL s7.ta.dvs,.lst A0 .nil,Yo (gY s7.ok) (by decide),Yo kH (by decide),_,rfl,?_⟩
    rw[kL]
    by_cases hts:ts=[]
    ·have em:(ts.map Th.D).isEmpty=true:=by rw[hts];rfl
     rw[em]
     exact Xd (hnx _ _ ⟨num,rfl,s7,n0,n1⟩)
    ·have em:(ts.map Th.D).isEmpty=false:=by
      cases ts with
      | nil=>exact absurd rfl hts
      | cons _ _=>rfl
     rw[em]
     have tp:0<ts.length:=List.length_pos_iff.mpr hts
     refine W3 ?_
     refine⟨_,rfl,_,rfl,_,rfl,L,_,rfl,.inl (SqL.of s7.eL),a,S,ns,_,rfl,s7.pn,by omega,by omega,fun d H8 y0 y1 hp g=>?_⟩
     have s8:=s7.grw La hp g
     obtain⟨v,hv,mv⟩:=oK (d:=d) s8.eL y0 y1
     obtain⟨jx,hj⟩:=List.getElem?_of_mem mv
     obtain⟨c,t,rfl,ht,A2⟩:=s8.ta.get hj
     have ok:=s8.ok t (y3 ht)
     refine⟨L,_,_,_,rfl,rfl,SqL.of s8.eL,hv,c,_,2,_,rfl,rfl,SqT.of A2,rfl,?_⟩
     exact hnx _ _ ⟨t.num,rfl,s8,ok.1.1,by rw[←htop];exact ok.1.2.1⟩
   ·exact hnx _ _ ⟨num,rfl,ss,n0,n1⟩
  clear ss n0 n1
  rintro σ' H7 ⟨num,rfl,ss,n0,n1⟩
  refine We (fun σ' H'=>∃(num:Int),σ'=[some (.ref a),some (.int or),some (.int most),some (.ref L),some (.int top),some (.int mid),some (.int (0+(i:Int))),some (.int way),some (.int num)]∧StrS K S ns H a L or H' xs ts∧0≤num∧num<top) ?_ ?_
  ·intro nx hnx
   refine⟨_,rfl,rfl,_,rfl,W7 (fun c=>?_) (fun c=>?_)⟩
   ·refine⟨_,rfl,_,rfl,a,S,ns,4,rfl,ss.pn,Wz rfl,ltI rfl,fun d H8 _ _ hp g=>?_⟩
    have s8:=ss.grw La hp g
    refine⟨_,_,rfl,rfl,_,rfl,_,_,rfl,rfl,by omega,?_⟩
    exact hnx _ _ ⟨(mid+d) % top,rfl,s8,Int.emod_nonneg _ (by omega),AG _ (by omega)⟩
   ·exact hnx _ _ ⟨num,rfl,ss,n0,n1⟩
  clear ss n0 n1
  rintro σ' H8 ⟨num,rfl,ss,n0,n1⟩
  refine⟨_,rfl,.inl ⟨rfl,_,SqL.of ss.eL⟩,_,rfl,a,S,ns,9,rfl,ss.pn,Wz rfl,ltI rfl,fun day H9 _ _ hp g=>?_⟩
  have ss:=ss.grw La hp g
  refine⟨leN rfl,fun p np=>?_⟩
  have pa:=ss.pn.ne np
  have gp:=ss.pn.grw (Z6 np (.lst [.str "a",.str "b",.str "cd"]))
  have ss:=ss.laid (o:=.lst [.str "a",.str "b",.str "cd"]) La np
  have A0:av a (upd H9 p (.lst [.str "a",.str "b",.str "cd"])) p=some (.lst [.str "a",.str "b",.str "cd"]):=by rw[Zh pa];exact Z5
  generalize upd H9 p (.lst [.str "a",.str "b",.str "cd"])=H10 at ss A0⊢
  refine⟨_,rfl,a,S,ns,3,rfl,ss.pn,Wz rfl,ltI rfl,fun d H11 y0 y1 hp g=>?_⟩
  have A0:=g _ _ A0
  have ss:=ss.grw La hp g
  obtain⟨v,hv,mv⟩:=oK (d:=d) (Zc A0).2 y0 y1
  obtain⟨wd,rfl,wok⟩:∃z:Str,v=.str z∧PyData.strOk z=true:=by
   simp only[List.mem_cons,List.not_mem_nil,or_false]at mv
   rcases mv with rfl | rfl | rfl
   ·exact⟨_,rfl,N8.1⟩
   ·exact⟨_,rfl,N8.2.1⟩
   ·exact⟨_,rfl,N8.2.2⟩
  refine⟨p,_,_,_,rfl,rfl,Pe A0,hv,_,rfl,_,rfl,a,S,ns,rfl,ss.pn,fun many H12 mn hp g=>⟨leN rfl,fun c nc=>?_⟩⟩
  have ss:=ss.grw La hp g
  have ss:=ss.laid (o:=.tup [.int day,.str wd,.int num,.int many]) La nc
  have A2:(upd H12 c (.tup [.int day,.str wd,.int num,.int many])) c=some (.tup (Th.mk day wd num many).vs):=Z5
  generalize upd H12 c (.tup [.int day,.str wd,.int num,.int many])=H13 at ss A2⊢
  have tk:ThK or ⟨day,wd,num,many⟩:=⟨⟨n0,by rw[htop];exact n1,mn⟩,wok⟩
  refine⟨L,xs,_,rfl,rfl,ss.eL,Zm (by omega),?_⟩
  exact hN _ _ ⟨_,_,_,_,_,rfl,ss.put La hpH n_L nHL A2 tk,by rw[yJ,tl];rfl⟩
 ·rintro σ H4 ⟨o6,o7,o8,xs,ts,rfl,ss,tl⟩
  refine⟨_,(Z7 (Ze (pv 3))),_,rfl,hq L ts _ n_L ss.ok (by omega) (.lst (by rw[Zh La];exact ss.eL) (ss.ta.tup fun c ys e=>ss.pn.tup e).dvs) ss.pn ss.g⟩
theorem Ob{α β:Type}{R:α→β→Prop}:∀{xs:List α}{ys:List β}(k:Nat),Paired R xs ys→k+1<xs.length→∃(xa:List α)(x1 x2:α)(xb:List α)(ya:List β)(y1 y2:β)(yb:List β),xs=xa++x1::x2::xb∧ys=ya++y1::y2::yb∧xa.length=k∧Paired R xa ya∧R x1 y1∧R x2 y2∧Paired R xb yb
 | _,_,k,.nil,h=>by simp at h
 | _,_,0,.cons h1 .nil,h=>by simp at h
 | _,_,0,.cons h1 (.cons h2 r),_=>⟨[],_,_,_,[],_,_,_,rfl,rfl,rfl,.nil,h1,h2,r⟩
 | _,_,k+1,.cons h1 r,h=>by
  obtain⟨xa,x1,x2,xb,ya,y1,y2,yb,e1,e2,e3,p1,r1,r2,p2⟩:=Ob k r (by simpa using h)
  exact⟨_::xa,x1,x2,xb,_::ya,y1,y2,yb,by rw[e1];rfl,by rw[e2];rfl,by rw[zd,e3],.cons h1 p1,r1,r2,p2⟩
theorem qf{xa xb:List V}{d:Int}(h:(xa.length:Int)=d):cU (xa++xb) none (some d)=xa:=by
 unfold cU
 rw[←h,HT.sIx_none,HT.sIx_nat,List.drop_zero,Nat.sub_zero,yJ,Nat.min_eq_left (Nat.le_add_right _ _),List.take_left]
theorem i8{xa xb:List V}{x1 x2:V}{d:Int}(h:(xa.length:Int)=d):cU (xa++x1::x2::xb) (some (d+2)) none=xb:=by
 have e:d+2=((xa.length+2:Nat):Int):=by omega
 have e2:xa++x1::x2::xb=(xa++[x1,x2])++xb:=by simp
 have e3:(xa++[x1,x2]).length=xa.length+2:=by simp
 unfold cU
 rw[e,HT.sIx_none,HT.sIx_nat,e2,Nat.min_eq_left (by rw[yJ,e3];omega),←e3,List.drop_left,yJ,Nat.add_sub_cancel_left,zn]
theorem sy{xa xb:List V}{x1:V}{d:Int}(h:(xa.length:Int)=d):atI (xa++x1::xb) d=some x1:=by
 rw[←h]
 exact Q9 (by simp)
theorem sQ{xa xb:List V}{x1 x2:V}{d:Int}(h:(xa.length:Int)=d):atI (xa++x1::x2::xb) (d+1)=some x2:=by
 rw[←h]
 exact Q9 (j:=xa.length+1) (by simp)
def szs(ts:List Tr):Nat:=(ts.map fun t=>t.size+1).sum
def als(ts:List Tr):Nat:=(ts.map fun t=>t.all.length).sum
theorem Ro(xs ys:List Tr):szs (xs++ys)=szs xs+szs ys:=by unfold szs;rw[yV,AD]
theorem Qb(xs ys:List Tr):als (xs++ys)=als xs+als ys:=by unfold als;rw[yV,AD]
theorem U2(t:Tr)(ts:List Tr):szs (t::ts)=t.size+1+szs ts:=by unfold szs;rw[yE,yZ]
theorem Ug(t:Tr)(ts:List Tr):als (t::ts)=t.all.length+als ts:=by unfold als;rw[yE,yZ]
def Trk(or:Int)(t:Tr):Prop:=∀s∈t.streams,∀x∈s,ThK or x
theorem qJ:∀t:Tr,t.ht<t.size
 | .leaf _=>Nat.zero_lt_one
 | .node l r=>by
  have a:=qJ l
  have b:=qJ r
  show max l.ht r.ht+1<l.size+r.size+1
  omega
def muT(σ:St)(H:Hp):Nat:=match List.getD σ 3 none with
 | some (V.ref l)=>(match H l with
  | some (HO.lst xs)=>xs.length
  | _=>0)
 | _=>0
def xT(K:W.Frag):Sp:=fun vs H Q _=>∃(a S:Addr)(ns:List Int)(or most:Int),vs=[.ref a,.int or,.int most]∧Pn K S ns H a∧1≤or∧or≤10∧1≤most∧most≤20∧∀(v:V)(t:Tr)(H':Hp),Trk or t→(t.size:Int)+1≤2 * most→(t.all.length:Int)≤6 * most→DV (av a H') v t.D→Pn K S ns H' a→Grw a H H'→Q v H'
theorem xN(aE:mg "range"=none)(aM:mg "len"=none)(ah:Has P w K mg base "_law_take" 1 ["_law_pen_here","_law_most"] (bY K))(j4:Has P w K mg base "_law_stream" 3 ["_law_pen_here","_law_deep","_law_most"] (t7 K))(F:Fun K "_law_tree" "_law_tree" dH f fd):FnOk P w K mg base CX0 4 f fd ["_law_pen_here","_law_deep","_law_most"] (xT K):=by
 refine F.ok Ui (fun vs H Q E h=>?_) (fun cdv A outer s H vs Q E hr h=>?_)
 ·obtain⟨a,S,ns,or,most,rfl,_⟩:=h
  rfl
 obtain⟨a,S,ns,or,most,rfl,hp,d0,d1,m0,m1,hq⟩:=h
 refine⟨_,(Z2 (Rr (i:=3) Ui.nd rfl rfl (own:=["_law_k"]) (CompOk.of rfl rfl (by rfl) (by rfl) (by rfl)) (Wb rfl aE (Z1 (Zb Zs Z3 (Z4 ah hr (Z1 (pv 0) (Z1 (pv 2) Z0 (by rfl)) (by rfl)))) Z0 (by rfl)))
  (fun _ _ _ _ _=>(Z8 (i:=0) R1 rfl (Or.inl rfl) (Or.inr rfl))) (fun _ _ _ _ _=>X5)
  (fun _ _ _ _ _=>(Z4 j4 hr (Z1 (pv 1) (Z1 (pv 2) (Z1 Z3 Z0 (by rfl)) (by rfl)) (by rfl))))) Zd),?_⟩
 refine⟨_,rfl,_,rfl,a,S,ns,most,rfl,hp,by omega,by omega,fun d H1 x0 x1 hp1 g1=>⟨_,_,rfl,rfl,1+d,rfl,by omega,by omega,?_⟩⟩
 refine jC (fun i ys H'=>Pn K S ns H' a∧Grw a H H'∧∃trs:List Tr,trs.length=i∧(∀t∈trs,Trk or t)∧szs trs=2 * i∧als trs≤6 * i∧Paired (fun v t=>DV (av a H') v t.D) ys trs) ⟨hp1,g1,[],rfl,fun _ h=>absurd h zE,rfl,yF _,.nil⟩ ?_ ?_
 ·rintro i ys H2 C hi ⟨hp2,g2,trs,tl,ok,sz,al,pr⟩ hC
  have yl:=yT pr
  refine⟨Zm (by omega),Wk.refl _,_,rfl,_,rfl,a,S,ns,or,6,rfl,hp2,d0,d1,by decide,by decide,fun L ts H3 nL tk tsl dv hp3 g3=>hC _ _ ⟨hp3,g2.trans g3,trs++[.leaf ts],by rw[yJ,tl];rfl,fun t ht=>?_,?_,?_,?_⟩⟩
  ·rcases yY.mp ht with h | h
   ·exact ok t h
   ·rw[yN.mp h]
    intro s hs
    rw[yN.mp hs]
    exact tk
  ·rw[Ro,sz,U2]
   show 2 * i+(1+1+0)=2 * (i+1)
   omega
  ·rw[Qb,Ug]
   show als trs+(ts.length+0)≤6 * (i+1)
   omega
  ·exact Xx (Paired.mapP pr fun _ _ h=>h.mono g3) (.cons dv .nil)
 rintro ys H2 ⟨hp,gg,trs,tl,ok,sz,al,pr⟩
 have yl:=yT pr
 refine⟨Zn (by omega),fun l nl=>?_⟩
 have la:=hp.ne nl
 have gl:=hp.grw (Z6 nl (.lst ys))
 have A3:av a (upd H2 l (.lst ys)) l=some (.lst ys):=by rw[Zh la];exact Z5
 have hp:=hp.laid (o:=.lst ys) nl
 have gg:=gg.trans gl
 have pr:=Paired.mapP pr fun _ _ h=>h.mono gl
 generalize upd H2 l (.lst ys)=H3 at A3 hp gg pr⊢
 have tpos:1≤trs.length:=by omega
 have sz:(szs trs:Int)≤2 * most:=by omega
 have al:(als trs:Int)≤6 * most:=by omega
 have tsm:trs.length≤20:=by omega
 clear yl tl gl
 refine⟨_,(Z2 (U7 zy (Zi U1 (Zo Y5 rfl aM Ax (Z1 (pv 3) Z0 (by rfl))) Z3 (Zk _)) (Z2 (Zw 4 Ui.nd rfl (Or.inl rfl) (Z4 ah hr (Z1 (pv 0) (Z1 (Zb Xv (Zo Y5 rfl aM Ax (Z1 (pv 3) Z0 (by rfl))) Z3) Z0 (by rfl)) (by rfl))) (by rfl) (by rfl))
 (Z7 (Zw 3 Ui.nd rfl (Or.inl rfl) (Zb P3 (Zb P3 (U9 e7 (pv 3) S8 (S7 (pv 4))) (Yh (Z1 (Zr (Z1 Tk (Z1 (Zt Y7 (pv 3) (pv 4) (fun _ _=>rfl)) (Z1 (Zt Y7 (pv 3) (Zb Zs (pv 4) Z3) (fun _ _=>rfl)) Z0 (by rfl)) (by rfl)) (by rfl))) Z0 (by rfl)))) (U9 e7 (pv 3) (S7 (Zb Zs (pv 4) Z3)) S8)) (by rfl) (by rfl))))) Zd),?_⟩
 refine Tt (fun σ H'=>∃(l:Addr)(o4:Option V)(ys:List V)(trs:List Tr),σ=[some (.ref a),some (.int or),some (.int most),some (.ref l),o4]∧Pn K S ns H' a∧Grw a H H'∧av a H' l=some (.lst ys)∧Paired (fun v t=>DV (av a H') v t.D) ys trs∧(∀t∈trs,Trk or t)∧1≤trs.length∧trs.length≤20∧(szs trs:Int)≤2 * most∧(als trs:Int)≤6 * most) muT ⟨l,none,ys,trs,rfl,hp,gg,A3,pr,ok,tpos,tsm,sz,al⟩ ?_ ?_
 ·clear hp gg A3 pr ok tpos tsm sz al
  rintro σ H4 ⟨l,o4,ys,trs,rfl,hp,gg,A3,pr,ok,tpos,tsm,sz,al⟩
  have yl:=yT pr
  refine⟨_,rfl,l,_,rfl,.inl (Pe A3),_,_,rfl,rfl,_,rfl,W7 (fun c=>?_) (fun c=>?_)⟩
  ·have c:(1:Int)<(ys.length:Int):=yO c
   have mu4:muT [some (.ref a),some (.int or),some (.int most),some (.ref l),o4] H4=ys.length:=by
    unfold muT
    show(match H4 l with
     | some (HO.lst xs)=>xs.length
     | _=>0)=_
    rw[(Zc A3).2]
   rw[mu4]
   refine⟨_,rfl,_,rfl,l,_,rfl,.inl (Pe A3),_,_,rfl,rfl,a,S,ns,_,rfl,hp,by omega,by omega,fun d H5 y0 y1 hp g5=>?_⟩
   have gg:=gg.trans g5
   have A3:=g5 _ _ A3
   have pr:=Paired.mapP pr fun _ _ h=>h.mono g5
   obtain⟨xa,x1,x2,xb,ta,t1,t2,tb,rfl,rfl,xal,pa,r1,r2,pb⟩:=Ob d.toNat pr (by omega)
   have xd:(xa.length:Int)=d:=by omega
   have ca:=qf (xb:=x1::x2::xb) xd
   have cb:=i8 (xb:=xb) (x1:=x1) (x2:=x2) xd
   have a1:=sy (x1:=x1) (xb:=x2::xb) xd
   have a2:=sQ (x1:=x1) (x2:=x2) (xb:=xb) xd
   have pal:=yT pa
   have pbl:=yT pb
   rw[yJ,zd,zd]at tsm
   have gk:Grw a H5 H5:=fun _ _ e=>e
   refine⟨_,rfl,_,rfl,_,rfl,l,_,rfl,Pe A3,?_⟩
   rw[ca]
   intro p1 n_p1
   generalize hz:upd _ p1 _=G1
   have hw:=Us hz n_p1 hp
   have hp:=hw.1
   have gz:=hw.2.1
   have ne_p1:=hw.2.2.1
   have pW:=hw.2.2.2
   clear hw hz
   have gg:=gg.trans gz
   have A3:=gz _ _ A3
   have gk:=gk.trans gz
   refine⟨_,rfl,_,rfl,l,_,d,x1,rfl,rfl,Pe A3,a1,?_⟩
   refine⟨_,rfl,_,rfl,_,_,rfl,rfl,l,_,d+1,x2,rfl,rfl,Pe A3,a2,leN rfl,?_⟩
   intro c n_c
   generalize hz:upd _ c _=G2
   have hw:=Us hz n_c hp
   have hp:=hw.1
   have gz:=hw.2.1
   have ne_c:=hw.2.2.1
   have A2:=hw.2.2.2
   clear hw hz
   have gg:=gg.trans gz
   have A3:=gz _ _ A3
   have pW:=gz _ _ pW
   have gk:=gk.trans gz
   refine⟨leN rfl,?_⟩
   intro p2 n_p2
   generalize hz:upd _ p2 _=G3
   have hw:=Us hz n_p2 hp
   have hp:=hw.1
   have gz:=hw.2.1
   have ne_p2:=hw.2.2.1
   have dY:=hw.2.2.2
   clear hw hz
   have gg:=gg.trans gz
   have A3:=gz _ _ A3
   have pW:=gz _ _ pW
   have A2:=gz _ _ A2
   have gk:=gk.trans gz
   refine⟨p1,p2,_,_,rfl,rfl,(Zc pW).2,(Zc dY).2,Zn (by rw[Ac];omega),?_⟩
   intro p3 n_p3
   generalize hz:upd _ p3 _=G4
   have hw:=Us hz n_p3 hp
   have hp:=hw.1
   have gz:=hw.2.1
   have ne_p3:=hw.2.2.1
   have dR:=hw.2.2.2
   clear hw hz
   have gg:=gg.trans gz
   have A3:=gz _ _ A3
   have A2:=gz _ _ A2
   have gk:=gk.trans gz
   refine⟨_,rfl,_,rfl,_,_,rfl,rfl,_,rfl,l,_,rfl,Pe A3,?_⟩
   rw[cb]
   intro p4 n_p4
   generalize hz:upd _ p4 _=G5
   have hw:=Us hz n_p4 hp
   have hp:=hw.1
   have gz:=hw.2.1
   have ne_p4:=hw.2.2.1
   have e_p4:=hw.2.2.2
   clear hw hz
   have gg:=gg.trans gz
   have A2:=gz _ _ A2
   have dR:=gz _ _ dR
   have gk:=gk.trans gz
   refine⟨p3,p4,_,_,rfl,rfl,(Zc dR).2,(Zc e_p4).2,Zn (by rw[yJ,Ac];omega),?_⟩
   intro p5 n_p5
   generalize hz:upd _ p5 _=G6
   have hw:=Us hz n_p5 hp
   have hp:=hw.1
   have gz:=hw.2.1
   have ne_p5:=hw.2.2.1
   have w5:=hw.2.2.2
   clear hw hz
   have gg:=gg.trans gz
   have A2:=gz _ _ A2
   have gk:=gk.trans gz
   refine⟨⟨p5,_,_,ta++[.node t1 t2]++tb,rfl,hp,gg,w5,?_,?_,?_,?_,?_,?_⟩,?_⟩
   ·exact Xx (Xx (Paired.mapP pa fun _ _ h=>h.mono gk) (.cons (.tup A2 (.cons (.str _) (.cons (r1.mono gk) (.cons (r2.mono gk) .nil)))) .nil)) (Paired.mapP pb fun _ _ h=>h.mono gk)
   ·intro t ht
    rcases yY.mp ht with ht | ht
    ·rcases yY.mp ht with ht | ht
     ·exact ok t (zw _ ht)
     ·rw[yN.mp ht]
      intro s hs
      rcases yY.mp hs with hs | hs
      ·exact ok t1 (yP _ (.head _)) s hs
      ·exact ok t2 (yP _ (.tail _ (.head _))) s hs
    ·exact ok t (yP _ (.tail _ (.tail _ ht)))
   ·rw[yJ,yJ,Ac];omega
   ·rw[yJ,yJ,Ac];omega
   ·rw[Ro,U2,U2]at sz
    rw[Ro,Ro,U2]
    have:szs ([]:List Tr)=0:=rfl
    show((szs ta+(t1.size+t2.size+1+1+szs [])+szs tb:Nat):Int)≤_
    omega
   ·rw[Qb,Ug,Ug]at al
    rw[Qb,Qb,Ug]
    have:als ([]:List Tr)=0:=rfl
    show((als ta+((t1.all++t2.all).length+als [])+als tb:Nat):Int)≤_
    rw[yJ]
    omega
   ·unfold muT
    show(match G6 p5 with
     | some (HO.lst xs)=>xs.length
     | _=>0)<_
    rw[(Zc w5).2]
    show(xa++[V.ref c]++xb).length<_
    rw[yJ,yJ,Ac,yJ,zd,zd]
    omega
  ·have c:¬((1:Int)<(ys.length:Int)):=z8 (Af.mpr c)
   obtain⟨t,rfl⟩:∃t,trs=[t]:=List.length_eq_one_iff.mp (by omega)
   cases pr with
   | cons r1 r=>
   cases r
   refine⟨_,(Z7 (Ze (Zt Y7 (pv 3) Z3 (fun _ _=>rfl)))),_,rfl,l,_,0,_,rfl,rfl,Pe A3,rfl,?_⟩
   rw[U2]at sz
   rw[Ug]at al
   have s0:szs ([]:List Tr)=0:=rfl
   have l0:als ([]:List Tr)=0:=rfl
   exact hq _ t _ (ok t (.head _)) (by omega) (by omega) r1 hp gg
 ·rintro σ H' Q1 Q2 m ⟨v,e,p,ys,e1,e2,i,j,e3,e4,k,e5,r⟩
  exact⟨v,e,p,ys,e1,e2,i,j,e3,e4,k,e5,m _ _ r⟩
def l5(m:Nat):Sp:=fun vs H Q _=>∃(v:V)(t:Tr),vs=[v]∧DV H v t.D∧t.ht<m∧t.all.length≤100000∧∀(r:Addr)(H':Hp),Same H H'→H r=none→DV H' (.ref r) (aP t.all)→Q (.ref r) H'
theorem rO{m:Nat}(b7:Has P w K mg base "_law_things" m ["_law_tree_here"] (l5 m))(ai:mg "isinstance"=none)(bJ:mg "list"=none)(F:Fun K "_law_things" "_law_things" bX f fd):FnOk P w K mg base CX0 (m+1) f fd ["_law_tree_here"] (l5 (m+1)):=by
 refine F.ok iB (fun vs H Q E h=>?_) (fun cdv A outer s H vs Q E hr h=>?_)
 ·obtain⟨v,t,rfl,_⟩:=h
  rfl
 obtain⟨v,t,rfl,dv,ht,hl,hq⟩:=h
 refine⟨_,(Z2 (Yl (U6 (Zo Sk rfl ai Ar (Z1 (pv 0) (Z1 (Sb (v:=.ty "list") rfl bJ PyProof.Rows.boot_list rfl) Z0 (by rfl)) (by rfl)))) (Z7 (Ze (Xl f6 rfl bJ PyProof.Rows.boot_list (Z1 (pv 0) Z0 (by rfl))))) Zu)
 (Z7 (Ze (Zb P3 (Z4 b7 hr (Z1 (Zt Y6 (pv 0) Z3 (fun _ _=>rfl)) Z0 (by rfl))) (Z4 b7 hr (Z1 (Zt Y6 (pv 0) Z3 (fun _ _=>rfl)) Z0 (by rfl))))))),?_⟩
 cases t with
 | leaf ts=>
  obtain⟨a,xs,rfl,e,q⟩:=DV.list_inv dv
  refine⟨_,rfl,_,_,"list",_,rfl,TyOf.lst e,oV,_,rfl,W3 ?_⟩
  refine⟨_,rfl,a,xs,rfl,.inl (SqL.of e),fun r hn=>?_⟩
  exact hq r _ (Z6 hn _) hn (.lst Z5 (q.mono (Z6 hn _)))
 | node l r=>
  obtain⟨a,mm,x,y,rfl,e,hx,hy⟩:=DV.node_inv dv
  have ht:max l.ht r.ht+1<m+1:=ht
  have hl:(l.all++r.all).length≤100000:=hl
  rw[yJ]at hl
  refine⟨_,rfl,_,_,"list",_,rfl,TyOf.tup e,o0,_,rfl,Xd ?_⟩
  refine⟨_,rfl,a,_,1,_,rfl,rfl,SqT.of e,pE _ _ _,x,l,rfl,hx,by omega,by omega,fun r1 H1 g1 _ dv1=>?_⟩
  refine⟨_,rfl,a,_,2,_,rfl,rfl,SqT.of (g1 _ _ e),hW _ _ _,y,r,rfl,hy.mono g1,by omega,by omega,fun r2 H2 g2 _ dv2=>?_⟩
  obtain⟨a1,xs1,e1,f1,q1⟩:=DV.list_inv dv1
  obtain⟨a2,xs2,e2,f2,q2⟩:=DV.list_inv dv2
  cases e1
  cases e2
  have l1:=q1.length
  have l2:=q2.length
  rw[pi]at l1 l2
  refine⟨r1,r2,xs1,xs2,rfl,rfl,g2 _ _ f1,f2,Zn (by omega),fun p hn=>?_⟩
  refine hq p _ (g1.trans (g2.trans (Z6 hn _))) (g1.free (g2.free hn)) (.lst Z5 ?_)
  show DVs _ (xs1++xs2) ((l.all++r.all).map Th.D)
  rw[yV]
  exact(q1.mono (g2.trans (Z6 hn _))).append (q2.mono (Z6 hn _))
theorem oG(ai:mg "isinstance"=none)(bJ:mg "list"=none)(F:Fun K "_law_things" "_law_things" bX f fd)(b:Binds K fd ["_law_tree_here"] [])(hm:mg "_law_things"=some (.ref f)):
  ∀m:Nat,Has P w K mg base "_law_things" m ["_law_tree_here"] (l5 m)
 | 0=>Has.of (rY fun vs H Q E h=>by
   obtain⟨v,t,_,_,h1,_⟩:=h
   omega) b F.kp hm
 | m+1=>Has.of (rO (oG ai bJ F b hm m) ai bJ F) b F.kp hm
end K31
namespace L2
open PySem PySem.Spec PyProof.Rows
section
variable{prog:Program}{w:World}{A:Around}{E:Value→Shared→Prop}{s:Shared}
end
section
variable{X:Cx}
end
section
variable{X:Cx}{x c n:Str}{p pos cpos epos np ap hpos:Pos}{e:Expr}{es:List Expr}{ta:TA}{tb:TS}{b₀:Stmt}{suite:List Stmt}{j k i:Nat}{ps:List Str}{sp:Sp}{S:Addr}
end
section
variable{P:Program}{w:World}{A:Around}{E:Value→Shared→Prop}{s:Shared}{a b:Addr}{va vb:List (Key×Value)}
end
section
variable{prog:Program}{w:World}{A:Around}{E:Value→Shared→Prop}{s:Shared}
end
section
variable{X:Cx}
theorem sC{H:Hp}{kvs:List (List Key×V)}{xs:List TKv}(h:KT H kvs xs):xs.map (·.1)=kvs.map (·.1):=by
 induction h with
 | nil=>rfl
 | cons h r ih=>rw[yE,yE,ih,h.1]
end
section
variable{P:Program}{w:World}{A:Around}{E:Value→Shared→Prop}{s:Shared}{a b:Addr}{xa xb:List TKv}{H:Hp}{ps qs:Sps}
theorem Wi{α β:Type}{F:α→β→Prop}:∀{xs:List α}{ys:List β}{i:Nat}{x:α},Paired F xs ys→xs[i]?=some x→∃y,ys[i]?=some y∧F x y
 | _,_,_,_,.nil,e=>by simp at e
 | _,_,0,_,.cons a _,e=>by simp at e;subst e;exact⟨_,rfl,a⟩
 | _,_,i+1,x,.cons _ r,e=>by
  obtain⟨y,h1,h2⟩:=Wi (i:=i) r (by simpa using e)
  exact⟨y,by simpa using h1,h2⟩
theorem qE{α β:Type}{f:α→β}:∀{l:List α},(l.map f).Nodup→∀{a b:α},a∈l→b∈l→f a=f b→a=b
 | x::l,nd,a,b,ha,hb,e=>by
  rw[yE,zl]at nd
  rcases yU.mp ha with ha | ha
  ·rcases yU.mp hb with hb | hb
   ·rw[ha,hb]
   ·exact absurd (yD.mpr ⟨b,hb,by rw[←e,ha]⟩) nd.1
  ·rcases yU.mp hb with hb | hb
   ·exact absurd (yD.mpr ⟨a,ha,by rw[e,hb]⟩) nd.1
   ·exact qE nd.2 ha hb e
theorem tU{ps:Sps}{xs:List TKv}(r:KT H (ae ps) xs){j:Nat}{x:TKv}(h:xs[j]?=some x):∃p t,ps[j]?=some p∧x.1=kk p.1∧x.2.2=.int p.2 t:=by
 have kl:=yT r
 rw[Y0]at kl
 have hj:j<ps.length:=by rw[kl];exact(yK.mp h).1
 obtain⟨p,hp⟩:∃p,ps[j]?=some p:=⟨ps[j],zK hj⟩
 have e2:(ae ps)[j]?=some (kk p.1,.int p.2):=by unfold ae;rw[y9,hp];rfl
 obtain⟨y,hy,f⟩:=Wi r e2
 rw[h]at hy
 cases hy
 obtain⟨f1,_,t,f3⟩:=f
 exact⟨p,t,hp,f1.symm,f3⟩
theorem oF{nm:String}{Q:Bool→Shared→Prop}(hu:A.units<cLine)(ha:(a == sysModules)=false)(hb:(b == sysModules)=false)(da:s.heap.DictOfH (tupleKind (aj P w)) a xa)(db:s.heap.DictOfH (tupleKind (aj P w)) b xb)(ra:KT H (ae ps) xa)(rb:KT H (ae qs) xb)(h:Q (decide (ps.length=qs.length) && ps.all fun p=>decide (p∈qs)) s):
  wpAny (model P w) A (Builtin.Dict.samePairs nm a b) Q E s:=by
 obtain⟨oa,ea,pa,ga,xca,qa,ta,ka,na⟩:=da
 obtain⟨ob,eb,pb,gb,xcb,qb,tb,kb,nb⟩:=db
 have la:ea.size=ps.length:=by rw[←yS,ta,pi,←yT ra,Y0]
 have lb:eb.size=qs.length:=by rw[←yS,tb,pi,←yT rb,Y0]
 have sh:∀{d:Addr}{R:Unit→Shared→Prop},(d == sysModules)=false→R () s→wpAny (model P w) A (Builtin.Dict.showsAll d) R E s:=fun{d R} hd hr=>by
  unfold Builtin.Dict.showsAll
  rw[yy (by rw[hd];decide)]
  exact yB hr
 unfold Builtin.Dict.samePairs
 refine io (sh ha (io (sh hb (io (zU ga qa (io (zU gb qb ?_)))))))
 by_cases hl:ps.length=qs.length
 ·rw[if_neg (by rw[la,lb,hl];simp)]
  refine io (wpAny_dictEpoch ga qa (io ?_))
  rw[Std.Legacy.Range.forIn_eq_forIn_range']
  refine z5 (wpAny_forIn_list _ (fun rest r s'=>∃i,rest=List.range' i (ea.size - i)∧i≤ea.size∧r=(none,())∧s=s'∧∀p∈ps.take i,p∈qs)
   (fun r s'=>s=s'∧((r=(none,())∧(ps.all fun p=>decide (p∈qs))=true)∨(r=(some false,())∧(ps.all fun p=>decide (p∈qs))=false))) ?_ ?_ _ _ ⟨0,?_,AQ _,rfl,rfl,?_⟩) ?_ (fun _ _ z=>z)
  ·rintro x rest r s' ⟨i,he,hi,rfl,rfl,hp⟩
   have hin:i<ea.size:=by
    rcases zL i ea.size with z | z
    ·exact z
    ·rw[Nat.sub_eq_zero_of_le z]at he;cases he
   rw[show ea.size - i=(ea.size - (i+1))+1 by omega,List.range'_succ]at he
   obtain⟨rfl,rfl⟩:=List.cons.inj he.symm
   have hge:ea[i]?=some ea[i]:=yH hin
   have hx:(xa.map (entryOfKey (tupleKind (aj P w))))[i]?=some ea[i]:=by rw[←ta,yI];exact hge
   rw[y9]at hx
   obtain⟨x,hxi,hxe⟩:=zO.mp hx
   obtain⟨p,t,hpi,e1,e2⟩:=tU ra hxi
   have tk:ps.take (i+1)=ps.take i++[p]:=Zz hpi
   have fF:p∉qs→(ps.all fun p=>decide (p∈qs))=false:=fun hs=>List.all_eq_false.mpr ⟨p,y3 hpi,by rw[ze hs];decide⟩
   have fT:p∈qs→∀q∈ps.take (i+1),q∈qs:=fun hs q hq=>by
    rw[tk]at hq
    rcases yY.mp hq with z | z
    ·exact hp q z
    ·rw[yN.mp z];exact hs
   have kx:ea[i].key=.ref x.2.1:=by rw[←hxe];rfl
   have hv:ea[i].val=.int p.2 t:=by rw[←hxe];exact e2
   have hh:ea[i].hash=(tupleKind (aj P w)).hash x.1:=by rw[←hxe];rfl
   refine io (zU ga qa ?_)
   rw[hge]
   refine io (zJ (io ?_))
   rw[kx,hh]
   refine wpAny_dictFind_heap (show A.units<cLine from hu) (ka x (y3 hxi)) gb qb tb kb nb (fun no=>?_) (fun j q hj=>?_)
   ·refine yB ?_
    rw[yC (by decide)]
    refine yB ⟨rfl,.inr ⟨rfl,fF fun hm=>?_⟩⟩
    obtain⟨j,hj⟩:=List.getElem?_of_mem hm
    have e3:(ae qs)[j]?=some (kk p.1,.int p.2):=by unfold ae;rw[y9,hj];rfl
    obtain⟨y,hy,f⟩:=Wi rb e3
    refine no j y.2 ?_
    rw[hy,e1]
    exact Ad some (z6 f.1.symm rfl)
   ·obtain⟨p2,t2,hp2,e3,e4⟩:=tU rb hj
    have e3:x.1=kk p2.1:=e3
    have ke:p.1=p2.1:=V1 (e1.symm.trans e3)
    have hbj:eb[j]?=some (entryOfKey (tupleKind (aj P w)) (x.1,q)):=by
     rw[←yI,tb,y9,hj]
     rfl
    refine io (zU gb qb ?_)
    rw[hbj]
    refine zJ ?_
    rw[hv,show(entryOfKey (tupleKind (aj P w)) (x.1,q)).val=.int p2.2 t2 from e4]
    refine wpAny_eqBool_int ?_
    by_cases z:p.2=p2.2
    ·rw[if_neg (by simp[z])]
     refine io (wpAny_dictEpoch ga qa ?_)
     rw[if_neg (by simp)]
     refine yB ⟨i+1,rfl,by omega,rfl,rfl,fT ?_⟩
     rw[show p=p2 from z6 ke z]
     exact y3 hp2
    ·rw[if_pos (by simp[z])]
     refine yB ⟨rfl,.inr ⟨rfl,fF fun hm=>z ?_⟩⟩
     have nq:(qs.map (·.1)).Nodup:=by
      have:(xb.map (·.1))=(ae qs).map (·.1):=sC rb
      rw[this,V3]at nb
      exact(Ae.mp nb).imp fun h e=>h (by rw[e])
     have:=qE nq hm (y3 hp2) ke
     rw[this]
  ·rintro r s' ⟨i,he,hi,rfl,rfl,hp⟩
   refine⟨rfl,.inl ⟨rfl,?_⟩⟩
   have hz:ea.size - i=0:=by
    cases hq:ea.size - i with
    | zero=>rfl
    | succ q=>rw[hq,List.range'_succ]at he;cases he
   rw[Az (by omega)]at hp
   exact zQ.mpr fun p hm=>yG (hp p hm)
  ·simp
  ·intro p hp;simp at hp
  ·rintro r s' ⟨rfl,⟨rfl,hv⟩|⟨rfl,hv⟩⟩
   ·rw[hv,yG hl]at h
    exact yB h
   ·rw[hv,Bool.and_false]at h
    exact yB h
 ·rw[if_pos (by rw[la,lb];simpa using hl)]
  rw[ze hl,Bool.false_and]at h
  exact io (AR (yB h))
end
section
variable{X:Cx}{j k:Nat}{ps:List Str}{sp:Sp}{x:Str}{p pos:Pos}{e:Expr}{es:List Expr}{t:TA}
end
section
variable{X:Cx}{x c n n2:Str}{p pos cpos epos np ap hpos:Pos}{e:Expr}{es:List Expr}{ta:TA}{tb:TS}{b₀:Stmt}{suite:List Stmt}{j k i i2:Nat}{ps:List Str}{sp:Sp}{S:Addr}
end
end L2
namespace K31
open PySem L2 Ld
theorem Qh{α β:Type}(f:α→β){l:List α}{i:Nat}{a:α}(h:l[i]?=some a):(l.take (i+1)).map f=(l.take i).map f++[f a]:=by
 rw[Zz h,yV]
 rfl
def aB(ps:Sps):List (Int×Int):=ps.map fun p=>(aq p.1,p.2)
def ak(ps:Sps):List (Int×Int):=ps.map fun p=>(am p.1,p.2)
def mam(ns:List (Int×Int))(x:Int):Int:=((ns.filter fun p=>decide (p.1≤x)).map (·.2)).sum
def Stc(k:Int×Int):Prop:=0≤k.1∧k.1≤20∧0≤k.2∧k.2≤1000000
def Sts(ps:Sps):Prop:=∀p∈ps,Stc p.1
theorem Kok.sts{or:Int}{ps:Sps}(h:Kok or (ps.map (·.1)))(d1:or≤10):Sts ps:=fun p hp=>by
 obtain⟨a,b,c,d⟩:=h.st p.1 (yD.mpr ⟨p,hp,rfl⟩)
 have:=W9 (m:=or - p.1.1) (by omega)
 exact⟨a,by omega,c,by omega⟩
def cH(f:Sps→List (Int×Int)):Sp:=fun vs H Q _=>∃(q:Addr)(AT or total:Int)(ps:Sps),vs=[.ref q]∧LadAt H q AT or total ps∧Sts ps∧ps.length≤200∧∀(l:Addr)(xs:List V)(H':Hp),Same H H'→H' l=some (.lst xs)→NsAt H' xs (f ps)→Q (.ref l) H'
variable{P:Program}{w:World}{K:W.Frag}{mg:Str→Option Value}{base:Heap}{f:Addr}{fd:FuncData}
theorem tj(cJ:Has P w K mg base "first_of" 1 ["stretch"] eY)(F:Fun K "lowest_places" "lowest_places" bn f fd):FnOk P w K mg base CX0 3 f fd ["ladder"] (cH aB):=by
 refine F.ok Su (fun vs H Q E h=>?_) (fun cdv A outer s H vs Q E hr h=>?_)
 ·obtain⟨q,AT,or,total,ps,rfl,_⟩:=h
  rfl
 obtain⟨q,AT,or,total,ps,rfl,lad,st,pl,hq⟩:=h
 refine⟨_,(Z7 (Ze (X6 (own:=["stretch","count"]) (CompOk.of rfl rfl (by rfl) (by rfl) (by rfl)) (Qx (Zt Y6 (pv 0) Z3 (fun _ _=>rfl)))
  (fun _ _ _ _ _=>(Xq K 2 rfl rfl (Z9 (Z8 (i:=0) Xm rfl (Or.inl rfl) (Or.inr rfl)) (Z9 (Z8 (i:=1) Xm rfl (Or.inl rfl) (Or.inr rfl)) Zp)))) (fun _ _ _ _ _=>X5)
  (fun _ _ _ _ _=>(Zr (Z1 (Z4 cJ hr (Z1 (pv 0) Z0 (by rfl))) (Z1 (pv 1) Z0 (by rfl)) (by rfl))))))),?_⟩
 obtain⟨c,as,A6,A2,pr⟩:=lad.at_
 have al:=yT pr
 refine⟨_,rfl,q,_,2,_,rfl,rfl,SqT.of A6,rfl,c,rfl,⟨_,SqT.of A2⟩,?_⟩
 refine gI (xs:=as.map V.ref) (fun i ys H'=>Same H H'∧NsAt H' ys ((ps.take i).map fun p=>(aq p.1,p.2))) ⟨Same.refl _,.nil⟩ ?_ ?_ ?_
 ·rintro i ys H' _ ⟨g,_⟩
  exact SqT.of (g _ _ A2)
 ·rintro i x ys H1 C hx ⟨gg,na⟩ hC
  obtain⟨a,p,rfl,hp,b,A5,AZ⟩:=Vy pr hx
  have yl:=na.len
  rw[pi,y7]at yl
  obtain⟨h0,h1,i0,i1⟩:=st p (y3 hp)
  refine⟨Zm (by omega),a,_,rfl,SqT.of (gg _ _ A5),rfl,_,_,rfl,_,_,rfl,rfl,Wk.refl _,_,rfl,b,p.1,rfl,gg _ _ AZ,h0,h1,i0,by omega,_,rfl,leN rfl,?_⟩
  intro t n_t
  generalize hz:upd _ t _=H2
  have gz:=Zj hz n_t
  have A7:=Zx hz
  clear hz
  have gg:=gg.trans gz
  refine hC _ _ ⟨gg,?_⟩
  rw[Qh _ hp]
  exact(na.mono gz).snoc (p:=(aq p.1,p.2)) A7
 rintro ys H1 ⟨gg,na⟩
 have yl:=na.len
 rw[pi,pi,y7]at yl
 refine⟨Zn (by omega),?_⟩
 intro l n_l
 generalize hz:upd _ l _=H2
 have gz:=Zj hz n_l
 have A3:=Zx hz
 clear hz
 have gg:=gg.trans gz
 have na:=na.mono gz
 rw[pi,al,zn]at na
 exact hq l ys _ gg A3 na
theorem qe(bU:Has P w K mg base "last_of" 2 ["stretch"] fM)(F:Fun K "highest_places" "highest_places" bh f fd):FnOk P w K mg base CX0 3 f fd ["ladder"] (cH ak):=by
 refine F.ok S1 (fun vs H Q E h=>?_) (fun cdv A outer s H vs Q E hr h=>?_)
 ·obtain⟨q,AT,or,total,ps,rfl,_⟩:=h
  rfl
 obtain⟨q,AT,or,total,ps,rfl,lad,st,pl,hq⟩:=h
 refine⟨_,(Z7 (Ze (X6 (own:=["stretch","count"]) (CompOk.of rfl rfl (by rfl) (by rfl) (by rfl)) (Qx (Zt Y6 (pv 0) Z3 (fun _ _=>rfl)))
  (fun _ _ _ _ _=>(Xq K 2 rfl rfl (Z9 (Z8 (i:=0) Xf rfl (Or.inl rfl) (Or.inr rfl)) (Z9 (Z8 (i:=1) Xf rfl (Or.inl rfl) (Or.inr rfl)) Zp)))) (fun _ _ _ _ _=>X5)
  (fun _ _ _ _ _=>(Zr (Z1 (Z4 bU hr (Z1 (pv 0) Z0 (by rfl))) (Z1 (pv 1) Z0 (by rfl)) (by rfl))))))),?_⟩
 obtain⟨c,as,A6,A2,pr⟩:=lad.at_
 have al:=yT pr
 refine⟨_,rfl,q,_,2,_,rfl,rfl,SqT.of A6,rfl,c,rfl,⟨_,SqT.of A2⟩,?_⟩
 refine gI (xs:=as.map V.ref) (fun i ys H'=>Same H H'∧NsAt H' ys ((ps.take i).map fun p=>(am p.1,p.2))) ⟨Same.refl _,.nil⟩ ?_ ?_ ?_
 ·rintro i ys H' _ ⟨g,_⟩
  exact SqT.of (g _ _ A2)
 ·rintro i x ys H1 C hx ⟨gg,na⟩ hC
  obtain⟨a,p,rfl,hp,b,A5,AZ⟩:=Vy pr hx
  have yl:=na.len
  rw[pi,y7]at yl
  have s1:=st p (y3 hp)
  refine⟨Zm (by omega),a,_,rfl,SqT.of (gg _ _ A5),rfl,_,_,rfl,_,_,rfl,rfl,Wk.refl _,_,rfl,b,p.1,rfl,gg _ _ AZ,s1.1,s1.2.1,s1.2.2.1,s1.2.2.2,fun H2 g2=>⟨_,rfl,leN rfl,?_⟩⟩
  have gg:=gg.trans g2
  have na:=na.mono g2
  intro t n_t
  generalize hz:upd _ t _=H3
  have gz:=Zj hz n_t
  have A7:=Zx hz
  clear hz
  have gg:=gg.trans gz
  refine hC _ _ ⟨gg,?_⟩
  rw[Qh _ hp]
  exact(na.mono gz).snoc (p:=(am p.1,p.2)) A7
 rintro ys H1 ⟨gg,na⟩
 have yl:=na.len
 rw[pi,pi,y7]at yl
 refine⟨Zn (by omega),?_⟩
 intro l n_l
 generalize hz:upd _ l _=H2
 have gz:=Zj hz n_l
 have A3:=Zx hz
 clear hz
 have gg:=gg.trans gz
 have na:=na.mono gz
 rw[pi,al,zn]at na
 exact hq l ys _ gg A3 na
def sm2(ns:List (Int×Int)):Int:=(ns.map (·.2)).sum
def IsPl(ns:List (Int×Int))(m x:Int):Prop:=m≤mam ns x∧∀y,y<x→mam ns y<m
theorem IsPl.uniq{ns:List (Int×Int)}{m x y:Int}(h:IsPl ns m x)(g:IsPl ns m y):x=y:=by
 rcases Int.lt_trichotomy x y with z | z | z
 ·have:=g.2 x z;have:=h.1;omega
 ·exact z
 ·have:=h.2 y z;have:=g.1;omega
theorem Sc{l m:List (Int×Int)}(h:l.Perm m)(x:Int):mam l x=mam m x:=U8 ((h.filter _).map _)
theorem Rx(l m:List (Int×Int))(x:Int):mam (l++m) x=mam l x+mam m x:=by
 unfold mam
 rw[AH,yV,AD]
theorem kq:∀{l:List (Int×Int)}{x:Int},(∀p∈l,p.1≤x)→mam l x=sm2 l:=fun{l x} h=>by
 unfold mam sm2
 rw[AA.mpr fun p hp=>yG (h p hp)]
theorem qc:∀{l:List (Int×Int)}{x:Int},(∀p∈l,x<p.1)→mam l x=0:=fun{l x} h=>by
 unfold mam
 rw[List.filter_eq_nil_iff.mpr fun p hp=>by have:=h p hp;simp only[decide_eq_true_eq];omega]
 rfl
theorem Nj:∀{l:List Int},(∀p∈l,0≤p)→0≤l.sum
 | [],_=>y8 _
 | a::l,h=>by
  have h1:=h a (.head _)
  have h2:=Nj fun p hp=>h p (.tail _ hp)
  rw[yZ];omega
theorem uT{l:List (Int×Int)}(h:∀p∈l,0≤p.2)(x:Int):0≤mam l x:=by
 unfold mam
 refine Nj fun n hn=>?_
 obtain⟨p,hp,rfl⟩:=yD.mp hn
 exact h p (zu.mp hp).1
theorem qC:∀{l:List (Int×Int)},(∀p∈l,0≤p.2)→∀x,mam l x≤sm2 l
 | [],_,_=>y8 _
 | p::l,h,x=>by
  have h1:=h p (.head _)
  have h2:=qC (fun p hp=>h p (.tail _ hp)) x
  show mam ([p]++l) x≤sm2 ([p]++l)
  rw[Rx]
  have e:sm2 ([p]++l)=p.2+sm2 l:=by simp[sm2]
  have e2:mam [p] x≤p.2:=by
   unfold mam
   rw[zD]
   split
   ·simp
   ·simpa using h1
  omega
theorem tY{a b:List (Int×Int)}{p:Int×Int}{m:Int}(ha:∀q∈a,q.1≤p.1)(hb:∀q∈b,p.1≤q.1)(pos:∀q∈b,0≤q.2)(posa:∀q∈a,0≤q.2)(h1:sm2 a<m)(h2:m≤sm2 a+p.2):IsPl (a++p::b) m p.1:=by
 refine⟨?_,fun y hy=>?_⟩
 ·rw[Rx,show p::b=[p]++b from rfl,Rx,kq ha,kq (l:=[p]) fun q hq=>by rw[yN.mp hq];exact y8 _]
  have:=uT pos p.1
  have e:sm2 [p]=p.2:=by simp[sm2]
  omega
 ·rw[Rx,qc (l:=p::b) fun q hq=>by
   rcases yU.mp hq with e | e
   ·rw[e];exact hy
   ·have:=hb q e;omega]
  have:=qC posa y
  omega
def wZ:Sp:=fun vs H Q _=>∃(l:Addr)(xs:List V)(ns:List (Int×Int))(m:Int),vs=[.ref l,.int m]∧H l=some (.lst xs)∧NsAt H xs ns∧ns.length<200∧(∀p∈ns,1≤p.2)∧1≤m∧m≤sm2 ns∧∀(x:Int)(H':Hp),Same H H'→IsPl ns m x→Q (.int x) H'
theorem NsAt.refs{H:Hp}:∀{xs:List V}{ns:List (Int×Int)},NsAt H xs ns→∃as:List Addr,xs=as.map V.ref∧Paired (fun a p=>KAt H a p) as ns
 | _,_,.nil=>⟨[],rfl,.nil⟩
 | _,_,.cons h r=>by
  obtain⟨c,rfl,e⟩:=h
  obtain⟨as,rfl,q⟩:=NsAt.refs r
  exact⟨c::as,rfl,.cons e q⟩
theorem Oi{H:Hp}{as bs:List Addr}{ns:List (Int×Int)}(p:bs.Perm as)(h:Paired (fun a p=>KAt H a p) as ns):∃ms:List (Int×Int),ms.Perm ns∧Paired (fun a p=>KAt H a p) bs ms:=by
 induction p generalizing ns with
 | nil=>cases h;exact⟨[],.nil,.nil⟩
 | cons x _ ih=>
  cases h with
  | cons e r=>
   obtain⟨ms,q,g⟩:=ih r
   exact⟨_::ms,q.cons _,.cons e g⟩
 | swap x y l=>
  cases h with
  | cons e r=>
   cases r with
   | cons e2 r2=>exact⟨_::_::_,.swap _ _ _,.cons e2 (.cons e r2)⟩
 | trans _ _ ih1 ih2=>
  obtain⟨ms,q,g⟩:=ih2 h
  obtain⟨ms2,q2,g2⟩:=ih1 g
  exact⟨ms2,q2.trans q,g2⟩
theorem fU{H:Hp}:∀{bs:List Addr}{ms:List (Int×Int)},Paired (fun a p=>KAt H a p) bs ms→(bs.Pairwise fun a b=>∀(k l:(bI aC aC).α),FII H a k→FII H b l→(bI aC aC).blt l k=false)→ms.Pairwise fun p q=>p.1≤q.1
 | _,_,.nil,_=>.nil
 | _,_,@Paired.cons _ _ _ a p bs ms e r,pw=>by
  obtain⟨h1,h2⟩:=zR.mp pw
  refine zR.mpr ⟨fun q hq=>?_,fU r h2⟩
  obtain⟨b,hb,eb⟩:=Paired.mem2 r q hq
  have z:=h1 b hb (p.1,p.2) (q.1,q.2) ⟨_,_,e,rfl⟩ ⟨_,_,eb,rfl⟩
  by_cases c:q.1<p.1
  ·have y:(bI aC aC).blt (q.1,q.2) (p.1,p.2)=true:=Yj.mpr (.inl (yG c))
   exact absurd (y.symm.trans z) (by decide)
  ·omega
theorem gP{ms a b:List (Int×Int)}{p:Int×Int}(pw:ms.Pairwise fun p q=>p.1≤q.1)(e:ms=a++p::b):(∀q∈a,q.1≤p.1)∧∀q∈b,p.1≤q.1:=by
 rw[e]at pw
 obtain⟨_,h2,h3⟩:=zB.mp pw
 exact⟨fun q hq=>h3 q hq p (.head _),fun q hq=>(zR.mp h2).1 q hq⟩
theorem Rp(l m:List (Int×Int)):sm2 (l++m)=sm2 l+sm2 m:=by
 unfold sm2
 rw[yV,AD]
theorem Uw{α:Type}{l:List α}{i:Nat}{x:α}(h:l[i]?=some x):l.drop i=x::l.drop (i+1):=by
 obtain⟨hi,rfl⟩:=yK.mp h
 exact List.drop_eq_getElem_cons hi
theorem wA(aA:mg "sorted"=none)(F:Fun K "number_of_place" "number_of_place" ba f fd):FnOk P w K mg base CX0 1 f fd ["places","many"] wZ:=by
 refine F.ok Ye (fun vs H Q E h=>?_) (fun cdv A outer s H vs Q E hr h=>?_)
 ·obtain⟨l,xs,ns,m,rfl,_⟩:=h
  rfl
 obtain⟨l,xs,ns,m,rfl,A3,na,nl,pos,m0,m1,hq⟩:=h
 refine⟨_,(Z2 (Zw 2 Ye.nd rfl (Or.inl rfl) (Zo (Rg hr.units) rfl aA PyProof.Rows.boot_sorted (Z1 (pv 0) Z0 (by rfl))) (by rfl) (by rfl)) Zd),?_⟩
 obtain⟨as,rfl,ka⟩:=na.refs
 have al:=yT ka
 refine⟨_,rfl,l,as,rfl,.inl A3,by omega,fun a ha=>?_,fun bs pb pw=>?_⟩
 ·obtain⟨p,_,e⟩:=Paired.mem1 ka a ha
  exact⟨(p.1,p.2),_,_,e,rfl⟩
 obtain⟨ms,pm,kb⟩:=Oi pb ka
 have pw:=fU kb pw
 have gg:Same H H:=Same.refl _
 intro r n_r
 generalize hz:upd _ r _=H1
 have gz:=Zj hz n_r
 have e_r:=Zx hz
 clear hz
 have gg:=gg.trans gz
 have kb:=Paired.mapP kb fun _ _ e=>gg _ _ e
 have bl:=yT kb
 have pos:∀p∈ms,1≤p.2:=fun p hp=>pos p (pm.mem_iff.mp hp)
 have m1:m≤sm2 ms:=by
  have:sm2 ms=sm2 ns:=U8 (pm.map _)
  omega
 refine⟨_,(Z2 (Zw 3 Ye.nd rfl (Or.inl rfl) Z3 (by rfl) (by rfl)) Zd),?_⟩
 refine⟨_,(Z2 (U7 zy (Zi U1 (pv 1) (Zt Y6 (Zt Y7 (pv 2) (pv 3) (fun _ _=>rfl)) Z3 (fun _ _=>rfl)) (Zk _)) (Z2 (Zw 1 Ye.nd rfl (Or.inl rfl) (Zb Xv (pv 1) (Zt Y6 (Zt Y7 (pv 2) (pv 3) (fun _ _=>rfl)) Z3 (fun _ _=>rfl))) (by rfl) (by rfl))
 (Z7 (Zw 3 Ye.nd rfl (Or.inl rfl) (Zb Zs (pv 3) Z3) (by rfl) (by rfl))))) Zd),?_⟩
 refine Tt (fun σ H'=>H'=H1∧∃(j:Nat)(n:Int),σ=[some (.ref l),some (.int n),some (.ref r),some (.int (j:Int))]∧1≤n∧sm2 (ms.take j)+n=m∧n≤sm2 (ms.drop j)) (fun σ _=>match List.getD σ 1 none with
  | some (V.int n)=>n.toNat
  | _=>0) ⟨rfl,0,m,rfl,m0,by simp[sm2],m1⟩ ?_ ?_
 ·rintro σ H2 ⟨rfl,j,n,rfl,n0,e1,n1⟩
  have jl:j<ms.length:=by
   rcases zL j ms.length with z | z
   ·exact z
   ·rw[List.drop_eq_nil_of_le z]at n1
    have:sm2 []=0:=rfl
    omega
  obtain⟨p,hp⟩:∃p,ms[j]?=some p:=⟨_,zK jl⟩
  obtain⟨b,hb,AZ⟩:∃b,bs[j]?=some b∧KAt H2 b p:=by
   obtain⟨b,hb⟩:∃b,bs[j]?=some b:=⟨_,zK (by omega)⟩
   obtain⟨p',hp',e⟩:=Wi kb hb
   rw[hp]at hp'
   cases hp'
   exact⟨b,hb,e⟩
  have dp:=Uw hp
  have tk:=Zz hp
  have hv:atI (bs.map V.ref) (j:Int)=some (.ref b):=Q9 (by rw[y9,hb];rfl)
  refine⟨_,rfl,_,rfl,_,rfl,r,_,_,_,rfl,rfl,SqL.of e_r,hv,b,_,1,_,rfl,rfl,SqT.of AZ,rfl,_,_,rfl,rfl,_,rfl,W7 (fun c=>?_) (fun c=>?_)⟩
  ·have c:p.2<n:=yO c
   have pp:=pos p (y3 hp)
   have sd:sm2 (ms.drop j)=p.2+sm2 (ms.drop (j+1)):=by rw[dp];simp[sm2]
   have st:sm2 (ms.take (j+1))=sm2 (ms.take j)+p.2:=by rw[tk,Rp];simp[sm2]
   refine⟨_,rfl,_,rfl,_,rfl,r,_,_,_,rfl,rfl,SqL.of e_r,hv,b,_,1,_,rfl,rfl,SqT.of AZ,rfl,_,_,rfl,rfl,_,rfl,_,_,rfl,rfl,⟨rfl,j+1,n - p.2,rfl,by omega,by omega,by omega⟩,?_⟩
   show(n - p.2).toNat<n.toNat
   omega
  ·have c:¬p.2<n:=fun z=>c (yG z)
   refine⟨_,(Z7 (Ze (Zt Y6 (Zt Y7 (pv 2) (pv 3) (fun _ _=>rfl)) Z3 (fun _ _=>rfl)))),?_⟩
   refine⟨_,rfl,_,rfl,r,_,_,_,rfl,rfl,SqL.of e_r,hv,b,_,0,_,rfl,rfl,SqT.of AZ,rfl,hq p.1 _ gg ?_⟩
   have ems:ms=ms.take j++p::ms.drop (j+1):=by rw[←dp,zM]
   obtain⟨w1,w2⟩:=gP pw ems
   have q1:IsPl ms m p.1:=by
    rw[ems]
    refine tY w1 w2 (fun q hq=>?_) (fun q hq=>?_) (by omega) (by omega)
    ·have:=pos q (List.mem_of_mem_drop hq);omega
    ·have:=pos q (Au hq);omega
   exact⟨by rw[←Sc pm];exact q1.1,fun y hy=>by rw[←Sc pm];exact q1.2 y hy⟩
 ·rintro σ H' Q1 Q2 m ⟨a1,b1,a2,b2,a3,b3,p,xs,i,v,c1,c2,c3,c4,q,ys,j,u,d1,d2,d3,d4,n1,n2,f1,f2,t,g,r⟩
  exact⟨a1,b1,a2,b2,a3,b3,p,xs,i,v,c1,c2,c3,c4,q,ys,j,u,d1,d2,d3,d4,n1,n2,f1,f2,t,g,m _ _ r⟩
def pV(ps:Sps):Prop:=∀p∈ps,1≤p.2
theorem lc(ps:Sps):sm2 (aB ps)=ag ps:=by
 unfold sm2 aB ag
 rw[zf]
 rfl
theorem ic(ps:Sps):sm2 (ak ps)=ag ps:=by
 unfold sm2 ak ag
 rw[zf]
 rfl
def vf:Sp:=fun vs H Q _=>∃(q:Addr)(AT or:Int)(ps:Sps)(n:Int),vs=[.ref q,.int n]∧LadAt H q AT or (ag ps) ps∧Sts ps∧ps.length<200∧pV ps∧1≤n∧n≤ag ps∧∀(t:Addr)(x y:Int)(H':Hp),Same H H'→KAt H' t (x,y)→IsPl (aB ps) n x→IsPl (ak ps) n y→Q (.ref t) H'
theorem yi(az:Has P w K mg base "lowest_places" 3 ["ladder"] (cH aB))(ax:Has P w K mg base "highest_places" 3 ["ladder"] (cH ak))(bO:Has P w K mg base "number_of_place" 1 ["places","many"] wZ)(F:Fun K "place_in" "place_in" cI f fd):FnOk P w K mg base CX0 4 f fd ["ladder","number"] vf:=by
 refine F.ok gW (fun vs H Q E h=>?_) (fun cdv A outer s H vs Q E hr h=>?_)
 ·obtain⟨q,AT,or,ps,n,rfl,_⟩:=h
  rfl
 obtain⟨q,AT,or,ps,n,rfl,lad,st,pl,pos,n0,n1,hq⟩:=h
 refine⟨_,(Z2 (Yl (PW.pt (R9 (Zi lz (pv 1) Z3 (Zk _)) (Ti (Zi U1 (pv 1) (Zt Y6 (pv 0) Z3 (fun _ _=>rfl)) (Zk _))))) (Z7 Qv) Zu)
 (Z7 (Ze (Zr (Z1 (Z4 bO hr (Z1 (Z4 az hr (Z1 (pv 0) Z0 (by rfl))) (Z1 (pv 1) Z0 (by rfl)) (by rfl))) (Z1 (Z4 bO hr (Z1 (Z4 ax hr (Z1 (pv 0) Z0 (by rfl))) (Z1 (pv 1) Z0 (by rfl)) (by rfl))) Z0 (by rfl)) (by rfl)))))),?_⟩
 obtain⟨c,as,A6,A2,pr⟩:=lad.at_
 refine⟨_,rfl,_,_,rfl,rfl,_,rfl,?_⟩
 rw[ze (by omega)]
 refine Xd ?_
 refine⟨_,rfl,_,rfl,q,_,3,_,rfl,rfl,SqT.of A6,rfl,_,_,rfl,rfl,_,rfl,?_⟩
 rw[ze (by omega)]
 refine Xd ?_
 have gg:Same H H:=Same.refl _
 refine⟨_,rfl,q,AT,or,_,ps,rfl,lad,st,by omega,fun l xs H1 g1 A3 na=>⟨_,rfl,l,xs,_,n,rfl,A3,na,by unfold aB;rw[pi];omega,fun p hp=>?_,n0,by rw[lc];exact n1,fun x H2 g2 px=>?_⟩⟩
 ·obtain⟨p',hp',rfl⟩:=yD.mp hp
  exact pos p' hp'
 have gg:=(gg.trans g1).trans g2
 refine⟨_,rfl,q,AT,or,_,ps,rfl,lad.mono gg,st,by omega,fun l2 xs2 H3 g3 gF na2=>⟨_,rfl,l2,xs2,_,n,rfl,gF,na2,by unfold ak;rw[pi];omega,fun p hp=>?_,n0,by rw[ic];exact n1,fun y H4 g4 py=>?_⟩⟩
 ·obtain⟨p',hp',rfl⟩:=yD.mp hp
  exact pos p' hp'
 have gg:=(gg.trans g3).trans g4
 refine⟨leN rfl,?_⟩
 intro t n_t
 generalize hz:upd _ t _=H5
 have gz:=Zj hz n_t
 have A7:=Zx hz
 clear hz
 have gg:=gg.trans gz
 exact hq t x y _ gg A7 px py
def sma(ns:List (Int×Int)):Int:=(ns.map fun p=>p.1 * p.2).sum
def uA:Sp:=fun vs H Q _=>∃(l:Addr)(xs:List V)(ns:List (Int×Int))(x:Int),vs=[.ref l,.int x]∧H l=some (.lst xs)∧NsAt H xs ns∧ns.length≤200∧∀H',Same H H'→Q (.int (mam ns x)) H'
def Mdr(ns:List (Int×Int)):Prop:=∀p∈ns,-(2 ^ 64)<p.1∧p.1<2 ^ 64
def tZ:Sp:=fun vs H Q _=>∃(l:Addr)(xs:List V)(ns:List (Int×Int)),vs=[.ref l]∧H l=some (.lst xs)∧NsAt H xs ns∧Mdr ns∧ns.length≤200∧∀H',Same H H'→Q (.int (sma ns)) H'
theorem vv(bd:mg "sum"=none)(F:Fun K "many_at_most" "many_at_most" bD f fd):FnOk P w K mg base CX0 1 f fd ["places","x"] uA:=by
 refine F.ok Rh (fun vs H Q E h=>?_) (fun cdv A outer s H vs Q E hr h=>?_)
 ·obtain⟨l,xs,ns,x,rfl,_⟩:=h
  rfl
 obtain⟨l,xs,ns,x,rfl,A3,na,nl,hq⟩:=h
 refine⟨_,(Z7 (Ze (Zo (Vj rfl) rfl bd AE (Z1 (X6 (own:=["number","count"]) (CompOk.of rfl rfl (by rfl) (by rfl) (by rfl)) (Y4 (pv 0))
  (fun _ _ _ _ _=>(Xq K 2 rfl rfl (Z9 (Z8 (i:=0) Xs rfl (Or.inl rfl) (Or.inr rfl)) (Z9 (Z8 (i:=1) Xs rfl (Or.inl rfl) (Or.inr rfl)) Zp)))) (fun _ _ _ _ _=>(Rq (Zi Vb (pv 0) (pv 3) (Zk _))))
  (fun _ _ _ _ _=>(pv 1))) Z0 (by rfl))))),?_⟩
 have xl:=na.len
 refine⟨_,rfl,l,rfl,⟨_,SqL.of A3⟩,?_⟩
 refine X4 (xs:=xs) (fun i ys H'=>H'=H∧ys=((((ns.take i).filter fun p=>decide (p.1≤x)).map (·.2)).map V.int)) ⟨rfl,rfl⟩ ?_ ?_ ?_
 ·rintro i ys H' _ ⟨rfl,_⟩
  exact SqL.of A3
 ·rintro i y ys H1 C hy ⟨rfl,rfl⟩ hC
  obtain⟨c,p,rfl,hp,A2⟩:=na.get hy
  have il:i<ns.length:=(yK.mp hp).1
  have fl:=zX (fun p:Int×Int=>decide (p.1≤x)) (ns.take i)
  rw[y7]at fl
  refine⟨Zm (by rw[pi,pi];omega),c,_,rfl,SqT.of A2,rfl,_,_,rfl,_,_,rfl,rfl,Wk.refl _,_,rfl,_,rfl,_,_,rfl,rfl,_,rfl,?_⟩
  have tk:=Zz hp
  by_cases big:p.1≤x
  ·rw[yG big]
   refine W3 ⟨_,rfl,hC _ _ ⟨rfl,?_⟩⟩
   rw[tk,AH,zD,yC (yG big),yV,yV]
   rfl
  ·rw[ze big]
   refine Xd (hC _ _ ⟨rfl,?_⟩)
   rw[tk,List.filter_append,List.filter_cons,if_neg (by simpa using big),List.filter_nil,List.append_nil]
 rintro ys H1 ⟨rfl,rfl⟩
 rw[xl,zn]
 have fl:=zX (fun p:Int×Int=>decide (p.1≤x)) ns
 refine⟨Zn (by rw[pi,pi];omega),fun p np=>⟨p,_,rfl,SqL.of Z5,hq _ (Z6 np _)⟩⟩
theorem wg(bd:mg "sum"=none)(F:Fun K "sum_at" "sum_at" d_ f fd):FnOk P w K mg base CX0 1 f fd ["places"] tZ:=by
 refine F.ok mj (fun vs H Q E h=>?_) (fun cdv A outer s H vs Q E hr h=>?_)
 ·obtain⟨l,xs,ns,rfl,_⟩:=h
  rfl
 obtain⟨l,xs,ns,rfl,A3,na,md,nl,hq⟩:=h
 refine⟨_,(Z7 (Ze (Zo (Vj rfl) rfl bd AE (Z1 (X6 (own:=["number","count"]) (CompOk.of rfl rfl (by rfl) (by rfl) (by rfl)) (Y4 (pv 0))
  (fun _ _ _ _ _=>(Xq K 2 rfl rfl (Z9 (Z8 (i:=0) Vc rfl (Or.inl rfl) (Or.inr rfl)) (Z9 (Z8 (i:=1) Vc rfl (Or.inl rfl) (Or.inr rfl)) Zp)))) (fun _ _ _ _ _=>X5)
  (fun _ _ _ _ _=>(Zb X7 (pv 0) (pv 1)))) Z0 (by rfl))))),?_⟩
 have xl:=na.len
 refine⟨_,rfl,l,rfl,⟨_,SqL.of A3⟩,?_⟩
 refine X4 (xs:=xs) (fun i ys H'=>H'=H∧ys=(((ns.take i).map fun p=>p.1 * p.2).map V.int)) ⟨rfl,rfl⟩ ?_ ?_ ?_
 ·rintro i ys H' _ ⟨rfl,_⟩
  exact SqL.of A3
 ·rintro i y ys H1 C hy ⟨rfl,rfl⟩ hC
  obtain⟨c,p,rfl,hp,A2⟩:=na.get hy
  have il:i<ns.length:=(yK.mp hp).1
  refine⟨Zm (by rw[pi,pi,y7];omega),c,_,rfl,SqT.of A2,rfl,_,_,rfl,_,_,rfl,rfl,Wk.refl _,_,rfl,_,rfl,_,_,rfl,rfl,Or.inl (md p (y3 hp)),hC _ _ ⟨rfl,?_⟩⟩
  rw[Qh _ hp,yV]
  rfl
 rintro ys H1 ⟨rfl,rfl⟩
 rw[xl,zn]
 exact⟨Zn (by rw[pi,pi];omega),fun p np=>⟨p,_,rfl,SqL.of Z5,hq _ (Z6 np _)⟩⟩
theorem Oe{h:Int}(h1:h≤20):(1:Int)≤2 ^ h.toNat∧(2:Int) ^ h.toNat≤1048576:=by
 have a1:(2:Nat) ^ h.toNat≤2 ^ 20:=Nat.pow_le_pow_right (by decide) (by omega)
 have a2:0<(2:Nat) ^ h.toNat:=Nat.pow_pos (by decide)
 have a3:((2 ^ h.toNat:Nat):Int)=(2:Int) ^ h.toNat:=by push_cast;rfl
 have a4:(2:Nat) ^ 20=1048576:=by decide
 rw[←a3]
 omega
theorem mI{k:Int×Int}(s:Stc k):0≤aq k∧aq k≤1048576000000:=by
 obtain⟨p1,p2⟩:=Oe s.2.1
 have i0:=s.2.2.1
 have i1:=s.2.2.2
 unfold aq
 exact⟨Int.mul_nonneg i0 (by omega),Aa (Int.mul_le_mul i1 p2 (by omega) (by omega)) (by decide)⟩
theorem mQ{k:Int×Int}(s:Stc k):0≤am k∧am k≤1048577048576:=by
 obtain⟨p1,p2⟩:=Oe s.2.1
 have i0:=s.2.2.1
 have i1:=s.2.2.2
 unfold am
 have q1:1 * 1≤(k.2+1) * 2 ^ k.1.toNat:=Int.mul_le_mul (by omega) p1 (by decide) (by omega)
 have q2:(k.2+1) * 2 ^ k.1.toNat≤1000001 * 1048576:=Int.mul_le_mul (by omega) p2 (by omega) (by decide)
 omega
theorem rP{ps:Sps}(h:Sts ps):Mdr (aB ps):=fun p hp=>by
 obtain⟨q,hq,rfl⟩:=yD.mp hp
 have:=mI (h q hq)
 show -(2 ^ 64)<aq q.1∧aq q.1<2 ^ 64
 omega
theorem qH{ps:Sps}(h:Sts ps):Mdr (ak ps):=fun p hp=>by
 obtain⟨q,hq,rfl⟩:=yD.mp hp
 have:=mQ (h q hq)
 show -(2 ^ 64)<am q.1∧am q.1<2 ^ 64
 omega
def vm:Sp:=fun vs H Q _=>∃(q:Addr)(AT or total x:Int)(ps:Sps),vs=[.ref q,.int x]∧LadAt H q AT or total ps∧Sts ps∧ps.length≤200∧∀(t:Addr)(H':Hp),Same H H'→KAt H' t (mam (ak ps) x,mam (aB ps) x)→Q (.ref t) H'
def wc:Sp:=fun vs H Q _=>∃(q:Addr)(AT or total:Int)(ps:Sps),vs=[.ref q]∧LadAt H q AT or total ps∧Sts ps∧ps.length≤200∧∀(t:Addr)(H':Hp),Same H H'→KAt H' t (sma (aB ps),sma (ak ps))→Q (.ref t) H'
theorem yn(az:Has P w K mg base "lowest_places" 3 ["ladder"] (cH aB))(ax:Has P w K mg base "highest_places" 3 ["ladder"] (cH ak))(cr:Has P w K mg base "many_at_most" 1 ["places","x"] uA)(F:Fun K "at_most_in" "at_most_in" bW f fd):FnOk P w K mg base CX0 4 f fd ["ladder","x"] vm:=by
 refine F.ok Px (fun vs H Q E h=>?_) (fun cdv A outer s H vs Q E hr h=>?_)
 ·obtain⟨q,AT,or,total,x,ps,rfl,_⟩:=h
  rfl
 obtain⟨q,AT,or,total,x,ps,rfl,lad,st,pl,hq⟩:=h
 refine⟨_,(Z7 (Ze (Zr (Z1 (Z4 cr hr (Z1 (Z4 ax hr (Z1 (pv 0) Z0 (by rfl))) (Z1 (pv 1) Z0 (by rfl)) (by rfl))) (Z1 (Z4 cr hr (Z1 (Z4 az hr (Z1 (pv 0) Z0 (by rfl))) (Z1 (pv 1) Z0 (by rfl)) (by rfl))) Z0 (by rfl)) (by rfl))))),?_⟩
 refine⟨_,rfl,q,AT,or,total,ps,rfl,lad,st,pl,fun l xs H1 g1 e1 n1=>⟨_,rfl,l,xs,_,x,rfl,e1,n1,by unfold ak;rw[pi];exact pl,fun H2 g2=>?_⟩⟩
 refine⟨_,rfl,q,AT,or,total,ps,rfl,lad.mono (g1.trans g2),st,pl,fun l2 ys H3 g3 e3 n3=>⟨_,rfl,l2,ys,_,x,rfl,e3,n3,by unfold aB;rw[pi];exact pl,fun H4 g4=>⟨leN rfl,?_⟩⟩⟩
 have gg:=((g1.trans g2).trans g3).trans g4
 intro t n_t
 generalize hz:upd _ t _=H5
 have gz:=Zj hz n_t
 have A7:=Zx hz
 clear hz
 have gg:=gg.trans gz
 exact hq t _ gg A7
theorem x4(az:Has P w K mg base "lowest_places" 3 ["ladder"] (cH aB))(ax:Has P w K mg base "highest_places" 3 ["ladder"] (cH ak))(hG:Has P w K mg base "sum_at" 1 ["places"] tZ)(F:Fun K "sum_in" "sum_in" dN f fd):FnOk P w K mg base CX0 4 f fd ["ladder"] wc:=by
 refine F.ok nM (fun vs H Q E h=>?_) (fun cdv A outer s H vs Q E hr h=>?_)
 ·obtain⟨q,AT,or,total,ps,rfl,_⟩:=h
  rfl
 obtain⟨q,AT,or,total,ps,rfl,lad,st,pl,hq⟩:=h
 refine⟨_,(Z7 (Ze (Zr (Z1 (Z4 hG hr (Z1 (Z4 az hr (Z1 (pv 0) Z0 (by rfl))) Z0 (by rfl))) (Z1 (Z4 hG hr (Z1 (Z4 ax hr (Z1 (pv 0) Z0 (by rfl))) Z0 (by rfl))) Z0 (by rfl)) (by rfl))))),?_⟩
 refine⟨_,rfl,q,AT,or,total,ps,rfl,lad,st,pl,fun l xs H1 g1 e1 n1=>⟨l,xs,_,rfl,e1,n1,rP st,by unfold aB;rw[pi];exact pl,fun H2 g2=>?_⟩⟩
 refine⟨_,rfl,q,AT,or,total,ps,rfl,lad.mono (g1.trans g2),st,pl,fun l2 ys H3 g3 e3 n3=>⟨l2,ys,_,rfl,e3,n3,qH st,by unfold ak;rw[pi];exact pl,fun H4 g4=>⟨leN rfl,?_⟩⟩⟩
 have gg:=((g1.trans g2).trans g3).trans g4
 intro t n_t
 generalize hz:upd _ t _=H5
 have gz:=Zj hz n_t
 have A7:=Zx hz
 clear hz
 have gg:=gg.trans gz
 exact hq t _ gg A7
def iF(ts:List Th)(x:Int):Int:=((ts.filter fun t=>decide (t.num≤x)).map Th.many).sum
def oj:Sp:=fun vs H Q _=>∃(r:Addr)(ts:List Th)(x:Int),vs=[.ref r,.int x]∧DV H (.ref r) (aP ts)∧ts.length≤1000∧∀H',Same H H'→Q (.int (iF ts x)) H'
theorem vk(bd:mg "sum"=none)(F:Fun K "_law_counted" "_law_counted" cq f fd):FnOk P w K mg base CX0 1 f fd ["_law_things_here","_law_x"] oj:=by
 refine F.ok gf (fun vs H Q E h=>?_) (fun cdv A outer s H vs Q E hr h=>?_)
 ·obtain⟨r,ts,x,rfl,_⟩:=h
  rfl
 obtain⟨r,ts,x,rfl,hd,tl,hq⟩:=h
 refine⟨_,(Z7 (Ze (Zo (Vj rfl) rfl bd AE (Z1 (X6 (own:=["_law_day","_law_mark","_law_number","_law_many_here"]) (CompOk.of rfl rfl (by rfl) (by rfl) (by rfl)) (Y4 (pv 0))
  (fun _ _ _ _ _=>(Xq K 4 rfl rfl (Z9 (Z8 (i:=0) Yv rfl (Or.inl rfl) (Or.inr rfl)) (Z9 (Z8 (i:=1) Yv rfl (Or.inl rfl) (Or.inr rfl)) (Z9 (Z8 (i:=2) Yv rfl (Or.inl rfl) (Or.inr rfl)) (Z9 (Z8 (i:=3) Yv rfl (Or.inl rfl) (Or.inr rfl)) Zp)))))) (fun _ _ _ _ _=>(Rq (Zi Vb (pv 2) (pv 5) (Zk _))))
  (fun _ _ _ _ _=>(pv 3))) Z0 (by rfl))))),?_⟩
 obtain⟨_,xs,e0,e_r,ds⟩:=DV.list_inv hd
 cases e0
 refine⟨_,rfl,r,rfl,⟨_,SqL.of e_r⟩,?_⟩
 refine Wt (fun t=>decide (t.num≤x)) (fun t=>.int t.many) e_r ds (by omega) ?_ ?_
 ·rintro t c ys C mt ec h1 h2
  refine⟨c,_,rfl,SqT.of ec,rfl,_,_,rfl,_,_,rfl,_,_,rfl,_,_,rfl,rfl,Wk.refl _,_,rfl,_,rfl,_,_,rfl,rfl,_,rfl,?_⟩
  by_cases e:t.num≤x
  ·rw[yG e]
   exact W3 ⟨_,rfl,h1 (yG e)⟩
  ·rw[ze e]
   exact Xd (h2 (ze e))
 ·intro q nq
  refine⟨q,(ts.filter fun t:Th=>decide (t.num≤x)).map Th.many,rfl,SqL.of ?_,hq _ (Z6 nq _)⟩
  rw[Z5,zf]
  rfl
def plc(ts:List Th):List (Int×Int):=ts.map fun t=>(t.num,t.many)
theorem fg(ts:List Th)(x:Int):mam (plc ts) x=iF ts x:=by
 unfold mam plc iF
 rw[List.filter_map,zf]
 rfl
def uz:Sp:=fun vs H Q _=>∃(r:Addr)(ts:List Th)(n:Int),vs=[.ref r,.int n]∧DV H (.ref r) (aP ts)∧ts.length≤300∧(∀t∈ts,1≤t.many)∧1≤n∧n≤sm2 (plc ts)∧∀(x:Int)(H':Hp),Same H H'→IsPl (plc ts) n x→Q (.int x) H'
def wS(g:Int×Int→Int)(ps:Sps):Int:=(ps.map fun p=>p.2 * g p.1).sum
theorem Rn{g:Int×Int→Int}{ps qs:Sps}(h:ps.Perm qs):wS g ps=wS g qs:=U8 (h.map _)
theorem Tu{g:Int×Int→Int}{k:Int×Int}{ps:Sps}:(ps.map (·.1)).Nodup→wS g (aR ps k)=wS g ps - cnt ps k * g k:=by
 induction ps with
 | nil=>
  intro _
  show(0:Int)=0 - cnt [] k * g k
  rw[show cnt [] k=0 from rfl,Int.zero_mul]
  rfl
 | cons p ps ih=>
  intro nd
  rw[yE,zl]at nd
  have ih:=ih nd.2
  unfold wS aR at ih⊢
  by_cases e:p.1=k
  ·have o:cnt ps k=0:=Y1 (by rw[←e];exact nd.1)
   have c:cnt (p::ps) k=p.2:=by unfold cnt;rw[Yz,yC e]
   rw[List.filter_cons,if_neg (by simpa using e),ih,o,c,List.map_cons,List.sum_cons,e,Int.zero_mul]
   omega
  ·have c:cnt (p::ps) k=cnt ps k:=by unfold cnt;rw[Yz,yy e]
   rw[zD,yC (yG e),yE,yZ,ih,c,yE,yZ]
   omega
theorem Qd{g:Int×Int→Int}{ps:Sps}{k:Int×Int}{n:Int}(nd:(ps.map (·.1)).Nodup):wS g (ao ps k n)=wS g ps - cnt ps k * g k+n * g k:=by
 have h:(ao ps k n).Perm ((k,n)::aR ps k):=by
  have hk:k∉(aR ps k).map (·.1):=by
   rw[Uv]
   intro z
   have:=(zu.mp z).2
   simp at this
  refine Sy (Ym nd) (by rw[yE];exact zl.mpr ⟨hk,Uu nd⟩) fun j=>?_
  rw[X8,Yz,Vf]
  by_cases e:j=k
  ·rw[yC e,yC e.symm]
  ·rw[yy e,yy (Ne.symm e),yy e]
 rw[Rn h]
 have:=Tu (g:=g) (k:=k) nd
 unfold wS at this⊢
 rw[yE,yZ,this]
 show n * g k+_=_
 omega
theorem u5{ps:Sps}(nd:(ps.map (·.1)).Nodup)(pos:∀p∈ps,0≤p.2)(k:Int×Int):0≤cnt ps k:=by
 by_cases h:k∈ps.map (·.1)
 ·obtain⟨p,hp,rfl⟩:=yD.mp h
  rw[X1 nd hp]
  exact pos p hp
 ·rw[Y1 h]
  exact y8 _
theorem kG{g:Int×Int→Int}{ps:Sps}{k:Int×Int}(nd:(ps.map (·.1)).Nodup):wS g (aI ps k)=wS g ps+(if k∈ps.map (·.1)then cnt ps k * (g (ad k) - g k)else 0):=by
 unfold aI
 by_cases h:k∈ps.map (·.1)
 ·rw[yC h,yC h]
  unfold eO b_
  have n1:=Ym (k:=ad k) (n:=cnt ps (ad k)+cnt ps k) nd
  have n2:=Ym (k:=k) (n:=cnt ps k - cnt ps k) n1
  have c1:cnt (ao (ao ps (ad k) (cnt ps (ad k)+cnt ps k)) k (cnt ps k - cnt ps k)) k=0:=by rw[X0,yC rfl,Int.sub_self]
  have c2:cnt (ao ps (ad k) (cnt ps (ad k)+cnt ps k)) k=cnt ps k:=by rw[X0,yy (V0 k)]
  rw[Tu n2,c1,Qd n1,c2,Qd nd,Int.sub_self,Int.zero_mul,AN,Int.mul_sub]
  omega
 ·rw[yy h,yy h,Int.add_zero]
def dB(g:Int×Int→Int):Prop:=∀h j,0≤h→0≤j→g (upK h j)≤g (loK h j)∧g (upK h j)≤g (hiK h j)
theorem tH{g:Int×Int→Int}{or bar h j:Int}{ps:Sps}(G:dB g)(o:Pok or ps)(f:Fst or bar ps h j):wS g (aS ps h j)≤wS g ps:=by
 have hj:0≤h∧0≤j:=by
  rcases f.in_ with i | i
  ·obtain⟨a,_,b,_⟩:=o.kok.st _ i
   have a:0≤h:=a
   have b:0≤2 * j:=b
   omega
  ·obtain⟨a,_,b,_⟩:=o.kok.st _ i
   have a:0≤h:=a
   have b:0≤2 * j+1:=b
   omega
 obtain⟨g1,g2⟩:=G h j hj.1 hj.2
 have nd:=o.kok.nd
 have c0:=fun k=>u5 nd (fun p hp=>by have:=o.pos p hp;omega) k
 unfold aS
 rw[kG (Sh nd),kG nd,Vs,Qy,Uy,yy (Ne.symm (j7 h j)),Vs,yy (j6 h j)]
 have m1:cnt ps (loK h j) * (g (upK h j) - g (loK h j))≤0:=Int.mul_nonpos_of_nonneg_of_nonpos (c0 _) (by omega)
 have m2:cnt ps (hiK h j) * (g (upK h j) - g (hiK h j))≤0:=Int.mul_nonpos_of_nonneg_of_nonpos (c0 _) (by omega)
 split <;> split <;> omega
theorem uE{g:Int×Int→Int}{or bar:Int}(G:dB g){ps fs AX:Sps}(s:Stl or bar ps fs AX):Pok or ps→wS g AX≤wS g ps:=by
 induction s with
 | done n=>exact fun _=>y8 _
 | step f p1 s ih=>
  intro o
  have h:=ih ((iW o f.in_ f.hd).perm p1)
  rw[Rn p1]at h
  exact Aa h (tH G o f)
theorem Nc{g:Int×Int→Int}:∀{ys xs:Sps},(xs.map (·.1)).Nodup→wS g (aG xs ys)=wS g xs+wS g ys:=by
 intro ys
 induction ys with
 | nil=>
  intro xs _
  show wS g xs=wS g xs+0
  omega
 | cons p ys ih=>
  intro xs h
  rw[Vl,ih (Ym h),Qd h,AN]
  have e:wS g (p::ys)=p.2 * g p.1+wS g ys:=by
   unfold wS
   rw[yE,yZ]
  rw[e]
  omega
theorem kE{g:Int×Int→Int}{or bar:Int}{ps:Sps}(G:dB g)(o:Pok or ps):wS g (cZ or bar ps)≤wS g ps:=by
 obtain⟨fs,AX,s⟩:=Nk (or:=or) (bar:=bar) _ ps (yF _) o.kok
 rw[(Tz s o.kok.nd).1,Rn (Y8 AX)]
 exact uE G s o
theorem pJ{g:Int×Int→Int}{AT or:Int}{xs ys:Sps}(G:dB g)(hx:Pok or xs)(hy:Pok or ys):wS g (bj AT or xs ys)≤wS g xs+wS g ys:=by
 have h:=kE (bar:=ag (aG xs ys) / AT) G (So hx hy.each)
 rw[Nc hx.kok.nd]at h
 exact h
def wT(g:Int×Int→Int)(ts:List Th):Int:=(ts.map fun t=>t.many * g (0,t.num)).sum
theorem jO(g:Int×Int→Int)(a b:List Th):wT g (a++b)=wT g a+wT g b:=by
 unfold wT
 rw[yV,AD]
theorem xW{g:Int×Int→Int}{AT or:Int}{t:Th}(G:dB g)(d0:0≤or)(h:ThL or t):wS g (thL AT or t)≤t.many * g (0,t.num):=by
 have q:=kE (bar:=t.many / AT) G (Ru d0 h)
 have e:wS g [((0,t.num),t.many)]=t.many * g (0,t.num):=Int.add_zero _
 rw[e]at q
 exact q
theorem nF{g:Int×Int→Int}{AT or:Int}(G:dB g)(d0:0≤or):∀(ts:List Th)(a:Sps),Pok or a→(∀t∈ts,ThL or t)→wS g (ts.foldl (fun a t=>bj AT or a (thL AT or t)) a)≤wS g a+wT g ts:=by
 intro ts
 induction ts with
 | nil=>
  intro a _ _
  show wS g a≤wS g a+0
  omega
 | cons t ts ih=>
  intro a o h
  have ht:=h t (.head _)
  have ot:=(Ng (AT:=AT) d0 ht).1.pok
  have q:=ih (bj AT or a (thL AT or t)) (Up o ot).1.pok fun x hx=>h x (.tail _ hx)
  have m:=pJ (AT:=AT) G o ot
  have w:=xW (AT:=AT) G d0 ht
  have e:wT g (t::ts)=t.many * g (0,t.num)+wT g ts:=jO g [t] ts |>.trans (by unfold wT;simp)
  rw[e]
  show wS g (ts.foldl _ (bj AT or a (thL AT or t)))≤_
  omega
theorem vY{g:Int×Int→Int}{AT or:Int}{ts:List Th}(G:dB g)(d0:0≤or)(h:∀t∈ts,ThL or t):wS g (bZ AT or ts)≤wT g ts:=by
 have q:=nF (AT:=AT) G d0 ts [] f9 h
 have e:wS g []=0:=rfl
 rw[e,Int.zero_add]at q
 exact q
def Dom(ps:Sps)(ts:List Th):Prop:=∀g,dB g→wS g ps≤wT g ts
theorem sf{AT or:Int}{ts:List Th}(d0:0≤or)(h:∀t∈ts,ThL or t):Dom (bZ AT or ts) ts:=fun g G=>vY G d0 h
theorem sM{AT or:Int}{xs ys:Sps}{a b:List Th}(hx:Pok or xs)(hy:Pok or ys)(da:Dom xs a)(db:Dom ys b):Dom (bj AT or xs ys) (a++b):=fun g G=>by
 have m:=pJ (AT:=AT) G hx hy
 have:=da g G
 have:=db g G
 rw[jO]
 omega
theorem qM{h:Int}(h0:0≤h):(2:Int) ^ (h+1).toNat=2 ^ h.toNat * 2:=by
 rw[show(h+1).toNat=h.toNat+1 by omega,Int.pow_succ]
theorem Yg(n:Nat):(0:Int)<2 ^ n:=Int.pow_pos (by decide)
theorem Ph{h j:Int}(h0:0≤h):aq (upK h j)≤aq (loK h j)∧aq (upK h j)≤aq (hiK h j):=by
 have p:=Yg h.toNat
 have e:=qM h0
 unfold aq upK loK hiK
 show j * 2 ^ (h+1).toNat≤2 * j * 2 ^ h.toNat∧j * 2 ^ (h+1).toNat≤(2 * j+1) * 2 ^ h.toNat
 rw[e]
 generalize (2:Int) ^ h.toNat=q at p
 have e1:j * (q * 2)=2 * j * q:=by rw[←Av,AL (j * q) 2,Av]
 rw[e1,AN,Ai]
 omega
theorem R5{h j:Int}(h0:0≤h):am (loK h j)≤am (upK h j)∧am (hiK h j)≤am (upK h j):=by
 have p:=Yg h.toNat
 have e:=qM h0
 unfold am upK loK hiK
 show(2 * j+1) * 2 ^ h.toNat - 1≤(j+1) * 2 ^ (h+1).toNat - 1∧(2 * j+1+1) * 2 ^ h.toNat - 1≤(j+1) * 2 ^ (h+1).toNat - 1
 rw[e]
 generalize (2:Int) ^ h.toNat=q at p
 have e1:(j+1) * (q * 2)=2 * j * q+q+q:=by
  rw[AN,Ai,←Av,AL (j * q) 2,Av]
  omega
 have e2:(2 * j+1+1) * q=2 * j * q+q+q:=by rw[AN,AN,Ai]
 rw[e1,e2,AN,Ai]
 omega
theorem j8(n:Int):aq (0,n)=n:=by
 show n * 2 ^ (0:Int).toNat=n
 rw[show(0:Int).toNat=0 from rfl,Int.pow_zero,AB]
theorem lu(n:Int):am (0,n)=n:=by
 show(n+1) * 2 ^ (0:Int).toNat - 1=n
 rw[show(0:Int).toNat=0 from rfl,Int.pow_zero,AB]
 omega
def ind(b:Prop)[Decidable b]:Int:=if b then 1 else 0
theorem Vg{a b:Prop}[Decidable a][Decidable b](h:a→b):ind a≤ind b:=by
 unfold ind
 by_cases c:a
 ·rw[yC c,yC (h c)]
  exact y8 _
 ·rw[yy c]
  split <;> decide
theorem fh(f:Int×Int→Int)(ps:Sps)(x:Int):mam (ps.map fun p=>(f p.1,p.2)) x=wS (fun k=>ind (f k≤x)) ps:=by
 unfold mam wS
 induction ps with
 | nil=>rfl
 | cons p ps ih=>
  rw[yE,zD,yE,yZ,←ih]
  show _=p.2 * ind (f p.1≤x)+_
  unfold ind
  by_cases c:f p.1≤x
  ·rw[yC (yG c),yC c,yE,yZ,AB]
  ·rw[if_neg (by simpa using c),if_neg c,Int.mul_zero,Int.zero_add]
theorem pO(f:Int×Int→Int)(hf:∀n,f (0,n)=n)(ts:List Th)(x:Int):iF ts x=wT (fun k=>ind (f k≤x)) ts:=by
 unfold iF wT
 induction ts with
 | nil=>rfl
 | cons t ts ih=>
  rw[zD,yE,yZ,←ih]
  show _=t.many * ind (f (0,t.num)≤x)+_
  rw[hf]
  unfold ind
  by_cases c:t.num≤x
  ·rw[yC (yG c),yC c,yE,yZ,AB]
  ·rw[if_neg (by simpa using c),if_neg c,Int.mul_zero,Int.zero_add]
theorem Nb(g:Int×Int→Int)(ps:Sps):wS (fun k=>-g k) ps=-wS g ps:=by
 unfold wS
 induction ps with
 | nil=>rfl
 | cons p ps ih=>
  rw[yE,yZ,yE,yZ,ih,Int.mul_neg]
  omega
theorem N9(g:Int×Int→Int)(ts:List Th):wT (fun k=>-g k) ts=-wT g ts:=by
 unfold wT
 induction ts with
 | nil=>rfl
 | cons p ps ih=>
  rw[yE,yZ,yE,yZ,ih,Int.mul_neg]
  omega
theorem f8{ps:Sps}{ts:List Th}(h:Dom ps ts)(x:Int):mam (ak ps) x≤iF ts x∧iF ts x≤mam (aB ps) x:=by
 refine⟨?_,?_⟩
 ·have q:=h (fun k=>ind (am k≤x)) fun a b ha _=>⟨Vg fun z=>Aa (R5 ha).1 z,Vg fun z=>Aa (R5 ha).2 z⟩
  have e:=fh am ps x
  rw[pO am lu]
  unfold ak
  omega
 ·have q:=h (fun k=>-ind (aq k≤x)) fun a b ha _=>⟨Int.neg_le_neg (Vg fun z=>Aa (Ph ha).1 z),Int.neg_le_neg (Vg fun z=>Aa (Ph ha).2 z)⟩
  rw[Nb,N9]at q
  have e:=fh aq ps x
  rw[pO aq j8]
  unfold aB
  omega
theorem mC{ps:Sps}{ts:List Th}(h:Dom ps ts){n x y z:Int}(a:IsPl (aB ps) n x)(b:IsPl (ak ps) n y)(c:IsPl (plc ts) n z):x≤z∧z≤y:=by
 have hz:=c.1
 rw[fg]at hz
 refine⟨?_,?_⟩
 ·rcases Int.lt_or_le z x with q | q
  ·have:=a.2 z q
   have:=(f8 h z).2
   omega
  ·exact q
 ·rcases Int.lt_or_le y z with q | q
  ·have w:=c.2 y q
   rw[fg]at w
   have:=(f8 h y).1
   have:=b.1
   omega
  ·exact q
theorem oh(f:Int×Int→Int)(ps:Sps):sma (ps.map fun p=>(f p.1,p.2))=wS f ps:=by
 unfold sma wS
 rw[zf]
 congr 1
 exact zT fun p _=>AL _ _
def smT(ts:List Th):Int:=(ts.map fun t=>t.num * t.many).sum
theorem p8(f:Int×Int→Int)(hf:∀n,f (0,n)=n)(ts:List Th):smT ts=wT f ts:=by
 unfold smT wT
 congr 1
 exact zT fun t _=>by rw[hf,AL]
theorem sG{ps:Sps}{ts:List Th}(h:Dom ps ts):sma (aB ps)≤smT ts∧smT ts≤sma (ak ps):=by
 refine⟨?_,?_⟩
 ·have q:=h aq fun a b ha _=>Ph ha
  have e:=oh aq ps
  rw[p8 aq j8]
  unfold aB
  omega
 ·have q:=h (fun k=>-am k) fun a b ha _=>⟨Int.neg_le_neg (R5 ha).1,Int.neg_le_neg (R5 ha).2⟩
  rw[Nb,N9]at q
  have e:=oh am ps
  rw[p8 am lu]
  unfold ak
  omega
theorem vN{AT or:Int}(d0:0≤or){t:Tr}:(∀s∈t.streams,∀x∈s,ThL or x)→Dom (glT AT or t) t.all∧Pok or (glT AT or t):=by
 induction t with
 | leaf ts=>exact fun h=>⟨sf d0 (h ts (.head _)),(Q0 d0 (h ts (.head _))).1.pok⟩
 | node l r il ir=>
  intro h
  obtain⟨a1,a2⟩:=il fun s hs=>h s (zw _ hs)
  obtain⟨b1,b2⟩:=ir fun s hs=>h s (yP _ hs)
  exact⟨sM a2 b2 a1 b1,(Up a2 b2).1.pok⟩
def Hb(bar:Int)(ps:Sps):Prop:=∀k,1≤k.1→cnt ps k≤bar
theorem rX{or bar h j:Int}{ps:Sps}(f:Fst or bar ps h j)(b0:0≤bar)(hb:Hb bar ps):Hb bar (aS ps h j):=fun k hk=>by
 have e:=Vv f.in_ k
 unfold cnt
 rw[e]
 by_cases c1:k=loK h j∨k=hiK h j
 ·rw[yC c1]
  exact b0
 ·rw[yy c1]
  by_cases c2:k=upK h j
  ·rw[yC c2]
   exact f.le
  ·rw[yy c2]
   exact hb k hk
theorem lY{bar:Int}{ps qs:Sps}(p:ps.Perm qs)(nd:(ps.map (·.1)).Nodup)(h:Hb bar ps):Hb bar qs:=fun k hk=>by
 rw[←R7 (Wd p nd k)]
 exact h k hk
theorem uM{or bar:Int}(b0:0≤bar){ps fs AX:Sps}(s:Stl or bar ps fs AX):(ps.map (·.1)).Nodup→Hb bar ps→Hb bar AX:=by
 induction s with
 | done n=>exact fun _ h=>h
 | step f p1 s ih=>
  intro nd h
  exact ih ((p1.map _).nodup_iff.mpr (V5 nd)) (lY p1.symm (V5 nd) (rX f b0 h))
theorem kU{or bar:Int}{ps:Sps}(b0:0≤bar)(o:Pok or ps)(h:Hb bar ps):Hb bar (cZ or bar ps):=by
 obtain⟨fs,AX,s⟩:=Nk (or:=or) (bar:=bar) _ ps (yF _) o.kok
 have q:=uM b0 s o.kok.nd h
 rw[(Tz s o.kok.nd).1]
 exact lY (Y8 AX).symm (Nl s o.kok.nd).1 q
theorem rj{xs ys:Sps}(ny:(ys.map (·.1)).Nodup)(k:Int×Int):cnt (aG xs ys) k=cnt xs k+cnt ys k:=by
 have e:=gy (xs:=xs) k ny
 by_cases h:k∈ys.map (·.1)
 ·rw[yC h]at e
  unfold cnt at e⊢
  rw[e]
 ·rw[yy h]at e
  rw[R7 e,Y1 h,Int.add_zero]
theorem sJ{a b r:Int}(h:0<r):a / r+b / r≤(a+b) / r:=by
 have h1:=Int.mul_ediv_self_le (x:=a) (k:=r) (by omega)
 have h2:=Int.mul_ediv_self_le (x:=b) (k:=r) (by omega)
 rw[Int.le_ediv_iff_mul_le h,AN,AL (a / r),AL (b / r)]
 omega
structure Gl(AT or:Int)(ps:Sps):Prop where
 pok:Pok or ps
 hb:Hb (ag ps / AT) ps
theorem Qi{or:Int}{ps:Sps}(o:Pok or ps):0≤ag ps:=Nj fun n hn=>by
 obtain⟨p,hp,rfl⟩:=yD.mp hn
 have:=o.pos p hp
 omega
theorem nW{AT or:Int}{xs ys:Sps}(r1:1≤AT)(hx:Gl AT or xs)(hy:Gl AT or ys):Gl AT or (bj AT or xs ys):=by
 obtain⟨a,b,_⟩:=Up (AT:=AT) hx.pok hy.pok
 refine⟨a.pok,?_⟩
 rw[b]
 have o:=So hx.pok hy.pok.each
 have s:=Sn (ys:=ys) hx.pok.kok.nd
 have q:=kU (bar:=ag (aG xs ys) / AT) (Int.ediv_nonneg (Qi o) (by omega)) o fun k hk=>by
  rw[rj hy.pok.kok.nd,s]
  have:=hx.hb k hk
  have:=hy.hb k hk
  have:=sJ (a:=ag xs) (b:=ag ys) (r:=AT) (by omega)
  omega
 rw[←s]
 exact q
theorem xU{AT or:Int}{t:Th}(r1:1≤AT)(d0:0≤or)(h:ThL or t):Gl AT or (thL AT or t):=by
 obtain⟨a,b,_⟩:=Ng (AT:=AT) d0 h
 refine⟨a.pok,?_⟩
 rw[b]
 have m0:0≤t.many / AT:=Int.ediv_nonneg (by have:=h.2.2;omega) (by omega)
 refine kU m0 (Ru d0 h) fun k hk=>?_
 rw[Y1 fun z=>?_]
 ·exact m0
 ·have e:k=(0,t.num):=yN.mp z
  rw[e]at hk
  exact absurd hk (by show ¬(1:Int)≤0;decide)
theorem v4{AT or:Int}:Gl AT or []:=⟨f9,fun k _=>by
 show(0:Int)≤0 / AT
 rw[Int.zero_ediv]
 exact y8 _⟩
theorem uG{AT or:Int}(r1:1≤AT)(d0:0≤or):∀(ts:List Th)(a:Sps),Gl AT or a→(∀t∈ts,ThL or t)→Gl AT or (ts.foldl (fun a t=>bj AT or a (thL AT or t)) a):=by
 intro ts
 induction ts with
 | nil=>exact fun a h _=>h
 | cons t ts ih=>exact fun a h g=>ih _ (nW r1 h (xU r1 d0 (g t (.head _)))) fun x hx=>g x (.tail _ hx)
theorem xM{AT or:Int}(r1:1≤AT)(d0:0≤or){t:Tr}:(∀s∈t.streams,∀x∈s,ThL or x)→Gl AT or (glT AT or t):=by
 induction t with
 | leaf ts=>exact fun h=>uG r1 d0 ts [] v4 (h ts (.head _))
 | node l r il ir=>exact fun h=>nW r1 (il fun s hs=>h s (zw _ hs)) (ir fun s hs=>h s (yP _ hs))
theorem kz{α:Type}(l:List α):(l.map fun _=>(0:Int)).sum=0:=by
 induction l with
 | nil=>rfl
 | cons x l ih=>rw[yE,yZ,ih];rfl
theorem uS{bar x:Int}(b0:0≤bar){g:Int×Int→Int}(g01:∀k,g k=0∨g k=1)(gx:∀k,g k=1→k.2=x / 2 ^ k.1.toNat):∀(n:Nat)(ps:Sps),(ps.map (·.1)).Nodup→(∀p∈ps,g p.1=1→1≤p.1.1∧p.1.1≤n)→Hb bar ps→wS g ps≤n * bar:=by
 intro n
 induction n with
 | zero=>
  intro ps _ h _
  have e:wS g ps=0:=by
   unfold wS
   rw[zT (g:=fun _=>(0:Int)) fun p hp=>?_]
   ·exact kz ps
   ·rcases g01 p.1 with z | z
    ·rw[z,Int.mul_zero]
    ·have:=h p hp z
     omega
  rw[e]
  omega
 | succ n ih=>
  intro ps nd h hb
  have q:=ih (aR ps ((n:Int)+1,x / 2 ^ (n+1))) (Uu nd) (fun p hp z=>?_) (fun k hk=>?_)
  ·rw[Tu nd]at q
   have c:=hb ((n:Int)+1,x / 2 ^ (n+1)) (by show 1≤(n:Int)+1;omega)
   have e:((n+1:Nat):Int) * bar=n * bar+bar:=by rw[Int.natCast_add,Int.add_mul];simp
   rw[e]
   rcases g01 ((n:Int)+1,x / 2 ^ (n+1))with z | z
   ·rw[z,Int.mul_zero]at q
    omega
   ·rw[z,AB]at q
    omega
  ·obtain⟨m1,m2⟩:=zu.mp hp
   have m2:=yO m2
   obtain⟨a,b⟩:=h p m1 z
   refine⟨a,?_⟩
   rcases Int.lt_or_le (n:Int) p.1.1 with c | c
   ·have e1:p.1.1=(n:Int)+1:=by omega
    refine absurd (z6 e1 ?_) m2
    rw[gx p.1 z,e1,show((n:Int)+1).toNat=n+1 by omega]
   ·exact c
  ·rw[Pq]
   split
   ·exact b0
   ·exact hb k hk
theorem n8{k:Int×Int}:aq k≤am k:=by
 have p:=Yg k.1.toNat
 unfold aq am
 rw[AN,Ai]
 omega
theorem uI(f g:Int×Int→Int)(ps:Sps):wS (fun k=>f k - g k) ps=wS f ps - wS g ps:=by
 unfold wS
 induction ps with
 | nil=>rfl
 | cons p ps ih=>
  rw[yE,yZ,yE,yZ,yE,yZ,ih,Int.mul_sub]
  omega
theorem tG{AT or:Int}{ps:Sps}(r1:1≤AT)(d0:0≤or)(h:Gl AT or ps)(x:Int):mam (aB ps) x - mam (ak ps) x≤ag ps / AT * or:=by
 have e1:=fh aq ps x
 have e2:=fh am ps x
 have e3:=uI (fun k=>ind (aq k≤x)) (fun k=>ind (am k≤x)) ps
 have one:∀k:Int×Int,(ind (aq k≤x) - ind (am k≤x)=0∨ind (aq k≤x) - ind (am k≤x)=1)∧(ind (aq k≤x) - ind (am k≤x)=1→aq k≤x∧x<am k):=fun k=>by
  have le:=n8 (k:=k)
  unfold ind
  by_cases a:aq k≤x
  ·by_cases b:am k≤x
   ·rw[yC a,yC b]
    exact⟨.inl rfl,fun z=>absurd z (by decide)⟩
   ·rw[yC a,yy b]
    exact⟨.inr rfl,fun _=>⟨a,by omega⟩⟩
  ·rw[yy a,yy (by omega)]
   exact⟨.inl rfl,fun z=>absurd z (by decide)⟩
 have q:=uS (bar:=ag ps / AT) (x:=x) (Int.ediv_nonneg (Qi h.pok) (by omega)) (g:=fun k=>ind (aq k≤x) - ind (am k≤x)) (fun k=>(one k).1) (fun k z=>?_) or.toNat ps h.pok.kok.nd (fun p hp z=>?_) h.hb
 ·rw[e3]at q
  unfold aB ak
  rw[e1,e2,AL]
  have:((or.toNat:Nat):Int)=or:=Int.toNat_of_nonneg d0
  rw[this]at q
  exact q
 ·obtain⟨a,b⟩:=(one k).2 z
  have p:=Yg k.1.toNat
  unfold aq at a
  unfold am at b
  have l1:k.2≤x / 2 ^ k.1.toNat:=(Int.le_ediv_iff_mul_le p).mpr a
  have l2:x / 2 ^ k.1.toNat<k.2+1:=(Int.ediv_lt_iff_lt_mul p).mpr (by omega)
  omega
 ·obtain⟨a,b⟩:=(one p.1).2 z
  obtain⟨h0,h1,_⟩:=h.pok.kok.st p.1 (yD.mpr ⟨p,hp,rfl⟩)
  refine⟨?_,by omega⟩
  rcases Int.lt_or_le p.1.1 1 with c | c
  ·have e0:p.1.1=0:=by omega
   have e4:p.1=(0,p.1.2):=z6 e0 rfl
   rw[e4]at a b
   rw[j8]at a
   rw[lu]at b
   omega
  ·exact c
theorem kX{or:Int}{k:Int×Int}(h0:0≤k.1)(h1:k.1≤or)(h2:0≤k.2)(h3:k.2<2 ^ (or - k.1).toNat):am k≤2 ^ or.toNat - 1:=by
 unfold am
 have e:(2:Int) ^ or.toNat=2 ^ (or - k.1).toNat * 2 ^ k.1.toNat:=by
  rw[←Int.pow_add,show(or - k.1).toNat+k.1.toNat=or.toNat by omega]
 have p:=Yg k.1.toNat
 have q:(k.2+1) * 2 ^ k.1.toNat≤2 ^ (or - k.1).toNat * 2 ^ k.1.toNat:=Int.mul_le_mul_of_nonneg_right (by omega) (by omega)
 omega
structure Fine(AT or:Int)(ps:Sps)(ts:List Th):Prop where
 r0:1≤AT
 r1:AT≤20
 d0:1≤or
 d1:or≤10
 gl:Gl AT or ps
 dom:Dom ps ts
 len:ps.length<200
 tl:ts.length≤150
 tp:∀t∈ts,ThL or t
theorem vH(ps:Sps):wS (fun _=>1) ps=ag ps:=by
 unfold wS ag
 exact Ad List.sum (zT fun p _=>AB _)
theorem qF(ts:List Th):wT (fun _=>1) ts=sm2 (plc ts):=by
 unfold wT sm2 plc
 rw[zf]
 exact Ad List.sum (zT fun t _=>AB _)
theorem rk{ps:Sps}{ts:List Th}(h:Dom ps ts):sm2 (plc ts)=ag ps:=by
 have a:=h (fun _=>1) fun _ _ _ _=>⟨y8 _,y8 _⟩
 have b:=h (fun k=>-(fun _=>1) k) fun _ _ _ _=>⟨y8 _,y8 _⟩
 rw[Nb,N9]at b
 rw[vH,qF]at a b
 omega
section
variable{AT or:Int}{ps:Sps}{ts:List Th}
theorem Fine.tot(h:Fine AT or ps ts):sm2 (plc ts)=ag ps:=rk h.dom
theorem Fine.st(h:Fine AT or ps ts):Sts ps:=Kok.sts h.gl.pok.kok h.d1
theorem Fine.pos(h:Fine AT or ps ts):pV ps:=h.gl.pok.pos
theorem Fine.s0(h:Fine AT or ps ts):0≤ag ps:=Qi h.gl.pok
end
theorem k9{K:W.Frag}{S a:Addr}{ns:List Int}{H H':Hp}(hp:Pn K S ns H a)(g:Grw a H H'){q:Addr}{AT or total:Int}{ps:Sps}(h:LadAt H q AT or total ps):LadAt H' q AT or total ps:=let ⟨c,as,e1,e2,r⟩:=h.at_;⟨c,as,Vr hp g e1,Vr hp g e2,Paired.mapP r fun _ _ ⟨y,f1,f2⟩=>⟨y,Vr hp g f1,Vr hp g f2⟩⟩
structure Wh(K:W.Frag)(S:Addr)(ns:List Int)(a q r:Addr)(AT or:Int)(ps:Sps)(ts:List Th)(H0 H:Hp):Prop where
 pn:Pn K S ns H a
 lad:LadAt H q AT or (ag ps) ps
 dv:DV (av a H) (.ref r) (aP ts)
 gg:Grw a H0 H
section
variable{K:W.Frag}{S a q r:Addr}{ns:List Int}{AT or:Int}{ps:Sps}{ts:List Th}{H0 H H':Hp}
theorem Wh.step(h:Wh K S ns a q r AT or ps ts H0 H)(hp:Pn K S ns H' a)(g:Grw a H H'):Wh K S ns a q r AT or ps ts H0 H':=⟨hp,k9 h.pn g h.lad,h.dv.mono g,h.gg.trans g⟩
theorem Wh.same(h:Wh K S ns a q r AT or ps ts H0 H)(g:Same H H'):Wh K S ns a q r AT or ps ts H0 H':=h.step (h.pn.same g) (h.pn.grw g)
end
def xr(K:W.Frag):Sp:=fun vs H Q _=>∃(a S q r:Addr)(ns:List Int)(AT or:Int)(ps:Sps)(ts:List Th),vs=[.ref a,.ref q,.ref r]∧Pn K S ns H a∧LadAt H q AT or (ag ps) ps∧DV (av a H) (.ref r) (aP ts)∧Fine AT or ps ts∧∀H',Pn K S ns H' a→Grw a H H'→Q (.bl true) H'
theorem wn(aE:mg "range"=none)(bd:mg "sum"=none)(ah:Has P w K mg base "_law_take" 1 ["_law_pen_here","_law_most"] (bY K))(b9:Has P w K mg base "at_most_in" 4 ["ladder","x"] vm)(dG:Has P w K mg base "sum_in" 4 ["ladder"] wc)(cL:Has P w K mg base "place_in" 4 ["ladder","number"] vf)(bN:Has P w K mg base "_law_counted" 1 ["_law_things_here","_law_x"] oj)(a_:Has P w K mg base "_law_so_many_th" 1 ["_law_things_here","_law_number"] uz)(F:Fun K "_law_bounds_hold" "_law_bounds_hold" bw f fd):FnOk P w K mg base CX0 5 f fd ["_law_pen_here","_law_ladder","_law_things_here"] (xr K):=by
 refine F.ok Zg (fun vs H Q E h=>?_) (fun cdv A outer s H vs Q E hr h=>?_)
 ·obtain⟨a,S,q,r,ns,AT,or,ps,ts,rfl,_⟩:=h
  rfl
 obtain⟨a,S,q,r,ns,AT,or,ps,ts,rfl,hp,lad,dv,fi,hq⟩:=h
 have wh:Wh K S ns a q r AT or ps ts H H:=⟨hp,lad,dv,Same.refl _⟩
 clear hp dv
 have r0:=fi.r0
 have r1:=fi.r1
 have d0:=fi.d0
 have d1:=fi.d1
 have st:=fi.st
 have ln:=fi.len
 have tl:=fi.tl
 have s0:=fi.s0
 have tw:=W9 (m:=or) d1
 obtain⟨c,as,A6,_⟩:=lad.at_
 refine⟨_,(Z2 (Yy (pv 1) (Yn rfl (Z9 (Z8 (i:=3) Zg.nd rfl (Or.inl rfl)) (Z9 (Z8 (i:=4) Zg.nd rfl (Or.inl rfl)) (Z9 (Z8 (i:=5) Zg.nd rfl (Or.inl rfl)) (Z9 (Z8 (i:=6) Zg.nd rfl (Or.inr rfl)) Zp)))))) Zd),?_⟩
 refine⟨_,rfl,q,_,rfl,SqT.of A6,rfl,_,_,rfl,_,_,rfl,_,_,rfl,_,_,rfl,rfl,?_⟩
 refine⟨_,(Z2 (Xe zy rfl (Wb rfl aE (Z1 Z3 Z0 (by rfl))) (Z8 (i:=7) Zg.nd rfl (Or.inl rfl))
 (Z2 (Zw 8 Zg.nd rfl (Or.inl rfl) (Zb Xv (Z4 ah hr (Z1 (pv 0) (Z1 (Zb Zs (Zb P1 Z3 (pv 4)) Z3) Z0 (by rfl)) (by rfl))) Z3) (by rfl) (by rfl))
 (Z2 (Yy (Z4 b9 hr (Z1 (pv 1) (Z1 (pv 8) Z0 (by rfl)) (by rfl))) (Yn rfl (Z9 (Z8 (i:=9) Zg.nd rfl (Or.inl rfl)) (Z9 (Z8 (i:=10) Zg.nd rfl (Or.inl rfl)) Zp))))
 (Z7 (Yl (PW.pt (R9 (Sx (S4 Vb Vb (pv 9) (Z4 bN hr (Z1 (pv 2) (Z1 (pv 8) Z0 (by rfl)) (by rfl))) (pv 10))) (Ti (Zi U1 (Zb Xv (pv 10) (pv 9)) (Zb X7 (Zb Xy (pv 6) (pv 3)) (pv 4)) (Zk _))))) (Z7 (Ze Va)) Zu))))) Zd),?_⟩
 refine⟨8,rfl,leI rfl,ltI rfl,?_⟩
 refine Wp (lo:=0) (n:=8) (fun i σ H'=>∃(o7 o8 o9 o10:Option V),σ=[some (.ref a),some (.ref q),some (.ref r),some (.int AT),some (.int or),some (.ref c),some (.int (ag ps)),o7,o8,o9,o10,none,none,none,none]∧Wh K S ns a q r AT or ps ts H H') ⟨_,_,_,_,rfl,wh⟩ ?_ ?_
 ·clear wh lad A6
  rintro i σ H1 N B R hN hR hi ⟨o7,o8,o9,o10,rfl,wh⟩
  refine⟨_,rfl,_,rfl,_,_,rfl,rfl,⟨by omega,by omega,by decide⟩,_,_,rfl,rfl,a,S,ns,_,rfl,wh.pn,by rw[Ai];omega,by rw[Ai];omega,fun x H2 x0 x1 hp g2=>⟨_,_,rfl,rfl,?_⟩⟩
  have wh:=wh.step hp g2
  refine⟨_,rfl,_,rfl,q,AT,or,_,x - 1,ps,rfl,wh.lad,st,by omega,fun t H3 g3 A7=>⟨t,_,rfl,SqT.of A7,rfl,_,_,rfl,_,_,rfl,rfl,?_⟩⟩
  have wh:=wh.same g3
  obtain⟨b1,b2⟩:=f8 fi.dom (x - 1)
  have b3:=tG r0 (by omega) fi.gl (x - 1)
  refine⟨_,rfl,_,rfl,_,rfl,r,ts,x - 1,rfl,wh.dv.mono Yc,by omega,fun H4 g4=>⟨_,_,rfl,rfl,_,rfl,?_⟩⟩
  have wh:=wh.same g4
  rw[yG b1]
  refine W3 ⟨_,rfl,_,_,rfl,rfl,_,rfl,?_⟩
  rw[yG b2]
  refine Xd ?_
  refine⟨_,rfl,_,rfl,_,_,rfl,rfl,_,rfl,_,rfl,_,_,rfl,rfl,⟨by omega,by omega⟩,_,rfl,_,_,rfl,rfl,Or.inr ⟨by omega,by omega⟩,_,_,rfl,rfl,_,rfl,?_⟩
  rw[ze (by omega)]
  exact Xd (hN _ _ ⟨_,_,_,_,rfl,wh⟩)
 clear wh lad A6
 rintro σ H1 ⟨o7,o8,o9,o10,rfl,wh⟩
 refine⟨_,(Z2 (Yy (Z4 dG hr (Z1 (pv 1) Z0 (by rfl))) (Yn rfl (Z9 (Z8 (i:=9) Zg.nd rfl (Or.inl rfl)) (Z9 (Z8 (i:=10) Zg.nd rfl (Or.inl rfl)) Zp)))) Zd),?_⟩
 refine⟨_,rfl,q,AT,or,_,ps,rfl,wh.lad,st,by omega,fun t H2 g2 A7=>⟨t,_,rfl,SqT.of A7,rfl,_,_,rfl,_,_,rfl,rfl,?_⟩⟩
 have wh:=wh.same g2
 clear A7
 obtain⟨b1,b2⟩:=sG fi.dom
 refine⟨_,(Z2 (Yl (Sx (S4 Vb Vb (pv 9) (Zo (Vj rfl) rfl bd AE (Z1 (X6 (own:=["_law_thing"]) (CompOk.of rfl rfl (by rfl) (by rfl) (by rfl)) (Y4 (pv 2))
  (fun _ _ _ _ _=>(Z8 (i:=0) Ve rfl (Or.inl rfl) (Or.inr rfl))) (fun _ _ _ _ _=>X5)
  (fun _ _ _ _ _=>(Zb X7 (Zt (Ut K rfl) (pv 0) Z3 (fun _ _=>rfl)) (Zt (Ut K rfl) (pv 0) Z3 (fun _ _=>rfl))))) Z0 (by rfl))) (pv 10))) (Z7 (Ze Va)) Zu) Zd),?_⟩
 obtain⟨_,xs,e0,e_r,ds⟩:=DV.list_inv (wh.dv.mono Yc)
 cases e0
 refine⟨_,rfl,_,rfl,r,rfl,⟨_,SqL.of e_r⟩,?_⟩
 refine Wt (fun _=>true) (fun t=>.int (t.num * t.many)) e_r ds (by omega) ?_ ?_
 ·rintro t c ys C mt ec h1 _
  have tn:=fi.tp t mt
  have t0:=tn.1
  have t1:=tn.2.1
  exact⟨Wk.refl _,_,rfl,c,_,2,_,rfl,rfl,SqT.of ec,rfl,_,rfl,c,_,3,_,rfl,rfl,SqT.of ec,rfl,_,_,rfl,rfl,Or.inl ⟨by omega,by omega⟩,h1 rfl⟩
 intro p n_p
 have et:((ts.filter fun _=>true).map fun t=>V.int (t.num * t.many))=(ts.map fun t=>t.num * t.many).map V.int:=by
  rw[AA.mpr (fun _ _=>rfl),zf]
  rfl
 rw[et]
 have gz:=Z6 n_p (.lst ((ts.map fun t=>t.num * t.many).map V.int))
 have A0:(upd H2 p (.lst ((ts.map fun t=>t.num * t.many).map V.int))) p=_:=Z5
 generalize upd H2 p (.lst ((ts.map fun t=>t.num * t.many).map V.int))=H3 at gz A0⊢
 have wh:=wh.same gz
 refine⟨p,_,rfl,SqL.of A0,_,_,rfl,rfl,_,rfl,?_⟩
 rw[yG (show sma (aB ps)≤(ts.map fun t=>t.num * t.many).sum from b1)]
 refine W3 ⟨_,rfl,_,_,rfl,rfl,_,rfl,?_⟩
 rw[yG (show(ts.map fun t=>t.num * t.many).sum≤sma (ak ps)from b2)]
 refine Xd ?_
 clear A0 gz e_r ds et b1 b2
 refine⟨_,(Z2 (Zw 11 Zg.nd rfl (Or.inl rfl) (Yh (Z1 Z3 (Z1 (pv 6) (Z1 (Zb Zs (Zb Xy (pv 6) Z3) Z3) (Z1 (Zb Zs Z3 (Zb Xy (Zb X7 (Z4 ah hr (Z1 (pv 0) (Z1 (Zb Ub Z3 Z3) Z0 (by rfl)) (by rfl))) (pv 6)) (Zb Ub Z3 Z3))) (Z1 (Zb Zs Z3 (Z4 ah hr (Z1 (pv 0) (Z1 Z3 Z0 (by rfl)) (by rfl)))) Z0 (by rfl)) (by rfl)) (by rfl)) (by rfl)) (by rfl))) (by rfl) (by rfl)) Zd),?_⟩
 refine⟨_,rfl,_,rfl,_,_,rfl,rfl,⟨by decide,by decide⟩,_,_,rfl,rfl,?_⟩
 refine⟨_,rfl,_,_,rfl,rfl,gE rfl rfl rfl,a,S,ns,_,rfl,wh.pn,Wz rfl,ltI rfl,fun z1 H4 x0 x1 hp g4=>?_⟩
 have wh:=wh.step hp g4
 have x1:z1<1000000:=x1
 refine⟨_,rfl,_,_,rfl,rfl,Or.inl ⟨by omega,by omega⟩,_,_,rfl,rfl,gE rfl rfl rfl,_,_,rfl,rfl,qz rfl rfl,_,_,rfl,rfl,?_⟩
 refine⟨_,rfl,a,S,ns,_,rfl,wh.pn,Wz rfl,ltI rfl,fun z2 H5 y0 y1 hp g5=>⟨_,_,rfl,rfl,leN rfl,fun L n_L=>?_⟩⟩
 have wh:=wh.step hp g5
 obtain⟨us,hu⟩:∃us:List Int,[V.int 1,V.int (ag ps),V.int (ag ps / 2+1),V.int (1+z1 * ag ps / 10 ^ (6:Int).toNat),V.int (1+z2)]=us.map V.int∧us.length=5:=⟨[_,_,_,_,_],rfl,rfl⟩
 obtain⟨hu,ul⟩:=hu
 have gz:=Z6 n_L (.lst (us.map V.int))
 have e_L:(upd H5 L (.lst (us.map V.int))) L=some (.lst (us.map V.int)):=Z5
 rw[hu]
 generalize upd H5 L (.lst (us.map V.int))=H6 at gz e_L⊢
 have wh:=wh.same gz
 clear hu gz
 refine⟨_,(jE 12 (Z2 (Xe zy rfl (Y4 (v6 ["_law_pen_here","_law_ladder","_law_things_here","_law_room","_law_deep","_law_counts_here","_law_total","_law_k","_law_x","_law_least","_law_most","_law_some","#12","_law_low","_law_high"] (X6 (own:=["_law_number"]) (CompOk.of rfl rfl (by rfl) (by rfl) (by rfl)) (Y4 (pv 11))
  (fun _ _ _ _ _=>(Z8 (i:=0) Vd rfl (Or.inl rfl) (Or.inr rfl))) (fun _ _ _ _ _=>(Rq (S4 Vb Vb Z3 (pv 0) (pv 7))))
  (fun _ _ _ _ _=>(pv 0))))) (Z8 (i:=12) Zg.nd rfl (Or.inl rfl))
 (Z2 (Yy (Z4 cL hr (Z1 (pv 1) (Z1 (pv 12) Z0 (by rfl)) (by rfl))) (Yn rfl (Z9 (Z8 (i:=13) Zg.nd rfl (Or.inl rfl)) (Z9 (Z8 (i:=14) Zg.nd rfl (Or.inl rfl)) Zp))))
 (Z7 (Yl (Sx (S4 Vb Vb (pv 13) (Z4 a_ hr (Z1 (pv 2) (Z1 (pv 12) Z0 (by rfl)) (by rfl))) (pv 14))) (Z7 (Ze Va)) Zu)))) Zd)),?_⟩
 refine⟨⟨.inl rfl,.inl rfl,.inl rfl,.inl rfl,.inl rfl,.inl rfl,.inl rfl,.inl rfl,.inl rfl,.inl rfl,.inl rfl,.inl rfl,.inr rfl,.inl rfl,.inl rfl,trivial⟩,_,rfl,L,rfl,⟨_,SqL.of e_L⟩,?_⟩
 refine X4 (xs:=us.map V.int) (fun i ys H'=>H'=H6∧ys=(((us.take i).filter fun n=>decide (1≤n∧n≤ag ps)).map V.int)) ⟨rfl,rfl⟩ ?_ ?_ ?_
 ·rintro i ys H' _ ⟨rfl,_⟩
  exact SqL.of e_L
 ·rintro i y ys H' C hy ⟨rfl,rfl⟩ hC
  rw[y9]at hy
  obtain⟨n,hn,rfl⟩:=zO.mp hy
  have fl:=zX (fun n:Int=>decide (1≤n∧n≤ag ps)) (us.take i)
  rw[y7]at fl
  have tk:=Zz hn
  refine⟨Zm (by rw[pi];omega),Wk.refl _,_,rfl,_,_,rfl,rfl,_,rfl,?_⟩
  by_cases c1:1≤n
  ·rw[yG c1]
   refine W3 ⟨_,rfl,_,_,rfl,rfl,_,rfl,?_⟩
   by_cases c2:n≤ag ps
   ·rw[yG c2]
    refine W3 ⟨_,rfl,hC _ _ ⟨rfl,?_⟩⟩
    rw[tk,AH,zD,yC (yG ⟨c1,c2⟩),yV]
    rfl
   ·rw[ze c2]
    refine Xd (hC _ _ ⟨rfl,?_⟩)
    rw[tk,List.filter_append,List.filter_cons,if_neg (by simpa using fun _=>by omega),List.filter_nil,List.append_nil]
  ·rw[ze c1]
   refine Xd ⟨_,rfl,Xd (hC _ _ ⟨rfl,?_⟩)⟩
   rw[tk,List.filter_append,List.filter_cons,if_neg (by simpa using fun z=>absurd z c1),List.filter_nil,List.append_nil]
 rintro ys H' ⟨rfl,rfl⟩
 rw[show(us.map V.int).length=us.length from pi _,zn]
 have fl:=zX (fun n:Int=>decide (1≤n∧n≤ag ps)) us
 have fm:∀n∈us.filter (fun n=>decide (1≤n∧n≤ag ps)),1≤n∧n≤ag ps:=fun n hn=>yO (zu.mp hn).2
 generalize us.filter (fun n=>decide (1≤n∧n≤ag ps))=zs at fl fm⊢
 refine⟨Zn (by rw[pi];omega),fun p n_p=>?_⟩
 have gz:=Z6 n_p (.lst (zs.map V.int))
 have A0:(upd H' p (.lst (zs.map V.int))) p=some (.lst (zs.map V.int)):=Z5
 generalize upd H' p (.lst (zs.map V.int))=H7 at gz A0⊢
 have wh:=wh.same gz
 clear gz e_L
 refine⟨p,rfl,⟨_,SqL.of A0⟩,?_⟩
 refine Xw (xs:=zs.map V.int) (fun i σ H'=>∃(o7 o8 o9 o10 o12 o13 o14:Option V),σ=[some (.ref a),some (.ref q),some (.ref r),some (.int AT),some (.int or),some (.ref c),some (.int (ag ps)),o7,o8,o9,o10,some (.ref L),o12,o13,o14]∧Wh K S ns a q r AT or ps ts H H'∧H' p=some (.lst (zs.map V.int))) ⟨_,_,_,_,_,_,_,rfl,wh,A0⟩ ?_ ?_ ?_
 ·rintro i σ H' _ ⟨_,_,_,_,_,_,_,_,_,e⟩
  exact SqL.of e
 ·clear wh A0
  rintro i x σ H8 N B R hN hR hx ⟨o7,o8,o9,o10,o12,o13,o14,rfl,wh,A0⟩
  rw[y9]at hx
  obtain⟨n,hn,rfl⟩:=zO.mp hx
  obtain⟨n0,n1⟩:=fm n (y3 hn)
  refine⟨_,rfl,_,rfl,q,AT,or,ps,n,rfl,wh.lad,st,ln,fi.pos,n0,n1,fun t x y H9 g9 A7 px py=>⟨t,_,rfl,SqT.of A7,rfl,_,_,rfl,_,_,rfl,rfl,?_⟩⟩
  have wh:=wh.same g9
  have A0:=g9 _ _ A0
  refine⟨_,rfl,_,rfl,_,rfl,r,ts,n,rfl,wh.dv.mono Yc,by omega,fun t ht=>(fi.tp t ht).2.2,n0,by rw[fi.tot];exact n1,fun z H10 g10 pz=>⟨_,_,rfl,rfl,_,rfl,?_⟩⟩
  obtain⟨b1,b2⟩:=mC fi.dom px py pz
  rw[yG b1]
  refine W3 ⟨_,rfl,_,_,rfl,rfl,_,rfl,?_⟩
  rw[yG b2]
  exact Xd (hN _ _ ⟨_,_,_,_,_,_,_,rfl,wh.same g10,g10 _ _ A0⟩)
 ·rintro σ H8 ⟨o7,o8,o9,o10,o12,o13,o14,rfl,wh,A0⟩
  exact⟨_,(Z7 (Ze Va)),hq _ wh.pn wh.gg⟩
def wit(s k:Int×Int):Prop:=aq s≤aq k∧am k≤am s
instance (s k:Int×Int):Decidable (wit s k):=inferInstanceAs (Decidable (_∧_))
def gin(s k:Int×Int):Int:=ind (wit s k)
theorem pU{p:Prop}[Decidable p]:0≤ind p:=by
 unfold ind
 split <;> decide
theorem Q4{p:Prop}[Decidable p](h:p):ind p=1:=yC h
theorem Q5{p:Prop}[Decidable p](h:¬p):ind p=0:=yy h
theorem qL(s:Int×Int):dB (gin s):=fun h j h0 _=>by
 have a:=Ph (j:=j) h0
 have b:=R5 (j:=j) h0
 exact⟨Vg fun z=>⟨Aa z.1 a.1,Aa b.1 z.2⟩,Vg fun z=>⟨Aa z.1 a.2,Aa b.2 z.2⟩⟩
theorem Pi(k:Int×Int):am k=aq k+2 ^ k.1.toNat - 1:=by
 unfold aq am
 rw[AN,Ai]
theorem x_{s k:Int×Int}(s0:0≤s.1)(k0:0≤k.1)(h:wit s k):k.1≤s.1:=by
 rcases Int.lt_or_le s.1 k.1 with c | c
 ·have a:=Pi s
  have b:=Pi k
  have p:(2:Int) ^ k.1.toNat=2 ^ (k.1.toNat - s.1.toNat - 1) * 2 ^ s.1.toNat * 2:=by
   rw[Av,←Int.pow_succ,←Int.pow_add]
   congr 1
   omega
  have q:=Yg s.1.toNat
  have q2:1 * 2 ^ s.1.toNat≤(2:Int) ^ (k.1.toNat - s.1.toNat - 1) * 2 ^ s.1.toNat:=Int.mul_le_mul_of_nonneg_right (Yg _) (AM q)
  obtain⟨h1,h2⟩:=h
  omega
 ·exact c
theorem pM{s k:Int×Int}(k0:0≤k.1)(le:k.1≤s.1){n:Int}(a:aq k≤n)(b:n≤am k)(c:aq s≤n)(d:n≤am s):wit s k:=by
 unfold aq at a c
 unfold am at b d
 have pk:=Yg k.1.toNat
 have e:(2:Int) ^ s.1.toNat=2 ^ (s.1.toNat - k.1.toNat) * 2 ^ k.1.toNat:=by
  rw[←Int.pow_add]
  congr 1
  omega
 have pm:=Yg (s.1.toNat - k.1.toNat)
 unfold wit aq am
 rw[e]
 rw[e]at c d
 rw[←Av]at c d
 rw[←Av,←Av]
 generalize (2:Int) ^ (s.1.toNat - k.1.toNat)=m at c d pm⊢
 generalize (2:Int) ^ k.1.toNat=w at a b c d pk⊢
 have l1:s.2 * m<k.2+1:=by
  have:s.2 * m * w<(k.2+1) * w:=by omega
  exact Int.lt_of_mul_lt_mul_right this (AM pk)
 have l2:k.2<(s.2+1) * m:=by
  have:k.2 * w<(s.2+1) * m * w:=by omega
  exact Int.lt_of_mul_lt_mul_right this (AM pk)
 have m1:s.2 * m * w≤k.2 * w:=Int.mul_le_mul_of_nonneg_right (by omega) (AM pk)
 have m2:(k.2+1) * w≤(s.2+1) * m * w:=Int.mul_le_mul_of_nonneg_right (by omega) (AM pk)
 exact⟨m1,by omega⟩
theorem X9(g:Int×Int→Int)(p:(Int×Int)×Int)(ps:Sps):wS g (p::ps)=p.2 * g p.1+wS g ps:=by
 unfold wS
 rw[yE,yZ]
theorem yp{g:Int×Int→Int}(h:∀k,0≤g k){ps:Sps}:(∀p∈ps,0≤p.2)→0≤wS g ps:=by
 induction ps with
 | nil=>exact fun _=>y8 _
 | cons p ps ih=>
  intro pos
  rw[X9]
  have a:=Int.mul_nonneg (pos p (.head _)) (h p.1)
  have b:=ih fun x hx=>pos x (.tail _ hx)
  omega
theorem Na{g:Int×Int→Int}{ps:Sps}:(∀p∈ps,p.2=0∨g p.1=0)→wS g ps=0:=by
 induction ps with
 | nil=>exact fun _=>rfl
 | cons p ps ih=>
  intro h
  rw[X9,ih fun x hx=>h x (.tail _ hx)]
  rcases h p (.head _)with z | z
  ·rw[z,Int.zero_mul];rfl
  ·rw[z,Int.mul_zero];rfl
theorem Uo(ps:Sps):wS (fun _=>1) ps=ag ps:=by
 unfold wS ag
 exact Ad List.sum (zT fun p _=>AB _)
structure Can(ps ls:Sps):Prop where
 each:∀s:Int×Int,0≤s.1→wS (gin s) ps≤wS (gin s) ls
 all:ag ps=ag ls
section
variable{k:Int×Int}{c:Int}{rem ls ls':Sps}
end
def iZ(ts:List Th):Sps:=aG [] (ts.map fun t=>((0,t.num),t.many))
theorem lQ(g:Int×Int→Int)(ts:List Th):wS g (iZ ts)=wT g ts:=by
 unfold iZ
 rw[Nc (xs:=[]) zV]
 show 0+_=_
 rw[Int.zero_add]
 unfold wS wT
 rw[zf]
 rfl
theorem lP{ps:Sps}{ts:List Th}(h:Dom ps ts):Can ps (iZ ts):=by
 refine⟨fun s _=>?_,?_⟩
 ·rw[lQ]
  exact h _ (qL s)
 ·have a:=h (fun _=>1) fun _ _ _ _=>⟨y8 _,y8 _⟩
  have b:=h (fun k=>-(fun _=>1) k) fun _ _ _ _=>⟨y8 _,y8 _⟩
  rw[Nb,N9]at b
  rw[←Uo,←Uo,lQ]
  omega
def eP:Sp:=fun vs H Q _=>∃(x:V)(T:String),vs=[x]∧Kd H x T∧Q (.bl (whV x)) H
def xG:Sp:=fun vs H Q _=>∃(x:V)(T:String)(l:Int),vs=[x,.int l]∧Kd H x T∧Q (.bl (wF x l)) H
def yw:Sp:=fun vs H Q _=>∃(i l m:Int),vs=[.int i,.int l,.int m]∧Q (.bl (decide (l≤i) && decide (i≤m))) H
theorem hJ(ai:mg "isinstance"=none)(nP:mg "int"=none)(jD:mg "bool"=none)(F:Fun K "is_whole" "is_whole" cO f fd):FnOk P w K mg base CX0 1 f fd ["thing"] eP:=by
 refine F.ok iD (fun vs H Q E h=>?_) (fun cdv A outer s H vs Q E hr h=>?_)
 ·obtain⟨x,T,rfl,_⟩:=h
  rfl
 obtain⟨x,T,rfl,hk,hq⟩:=h
 refine⟨_,(Z7 (Ze (gt (Zo Sk rfl ai Ar (Z1 (pv 0) (Z1 (Sb (v:=.ty "int") rfl nP PyProof.Rows.boot_int rfl) Z0 (by rfl)) (by rfl))) (fQ (vI (Zo Sk rfl ai Ar (Z1 (pv 0) (Z1 (Sb (v:=.ty "bool") rfl jD PyProof.Rows.boot_bool rfl) Z0 (by rfl)) (by rfl)))))))),?_⟩
 rw[←hk.wh]at hq
 refine⟨_,rfl,_,_,"int",_,rfl,hk.ty,hk.kit (by decide) rfl,_,rfl,?_⟩
 refine W7 (fun c=>?_) (fun c=>?_)
 ·refine⟨_,rfl,_,_,"bool",_,rfl,hk.ty,hk.kit (by decide) rfl,_,rfl,?_⟩
  rw[c,Bool.true_and]at hq
  exact hq
 ·rw[Af.mpr c,Bool.false_and]at hq
  exact hq
theorem R0(jS:Has P w K mg base "is_whole" 1 ["thing"] eP)(F:Fun K "is_whole_from" "is_whole_from" bo f fd):FnOk P w K mg base CX0 2 f fd ["thing","least"] xG:=by
 refine F.ok Sv (fun vs H Q E h=>?_) (fun cdv A outer s H vs Q E hr h=>?_)
 ·obtain⟨x,T,l,rfl,_⟩:=h
  rfl
 obtain⟨x,T,l,rfl,hk,hq⟩:=h
 refine⟨_,(Z7 (Ze (gt (Z4 jS hr (Z1 (pv 0) Z0 (by rfl))) (fQ (Sa lx (pv 0) (pv 1) (Zk _)))))),?_⟩
 refine⟨_,rfl,x,T,rfl,hk,_,rfl,?_⟩
 cases x with
 | int i=>exact W3 ⟨_,rfl,_,rfl,_,_,rfl,rfl,hq⟩
 | _=>exact Xd hq
theorem Tm(du:Has P w K mg base "is_whole_from" 2 ["thing","least"] xG)(F:Fun K "is_whole_within" "is_whole_within" a9 f fd):FnOk P w K mg base CX0 3 f fd ["thing","least","most"] yw:=by
 refine F.ok Tg (fun vs H Q E h=>?_) (fun cdv A outer s H vs Q E hr h=>?_)
 ·obtain⟨i,l,m,rfl,_⟩:=h
  rfl
 obtain⟨i,l,m,rfl,hq⟩:=h
 refine⟨_,(Z7 (Ze (gt (Z4 du hr (Z1 (pv 0) (Z1 (pv 1) Z0 (by rfl)) (by rfl))) (fQ (Sa Vb (pv 0) (pv 2) (Zk _)))))),?_⟩
 refine⟨_,rfl,_,rfl,.int i,"int",l,rfl,.int _,_,rfl,?_⟩
 refine W7 (fun c=>?_) (fun c=>?_)
 ·have c:decide (l≤i)=true:=c
  rw[c,Bool.true_and]at hq
  exact⟨_,rfl,_,rfl,_,_,rfl,rfl,hq⟩
 ·have c:decide (l≤i)=false:=Af.mpr c
  rw[c,Bool.false_and]at hq
  exact hq
def bA(ps:Sps)(k:Int×Int)(m:Int):Sps:=if cnt ps k - m=0 then aR (ao (ao ps (ad k) (cnt ps (ad k)+m)) k (cnt ps k - m)) k else ao (ao ps (ad k) (cnt ps (ad k)+m)) k (cnt ps k - m)
def c7(ts:List Th):Sps:=ts.map fun t=>((0,t.num),t.many)
def aL(ts:List Th):Sps:=aG [] (c7 ts)
def PprAt(H:Hp)(p:Addr)(ps:Sps):Prop:=∃as:List Addr,H p=some (.lst (as.map V.ref))∧Paired (FT H) as ps
theorem PprAt.mono{H H':Hp}{p:Addr}{ps:Sps}(g:Same H H')(h:PprAt H p ps):PprAt H' p ps:=let ⟨as,e,r⟩:=h;⟨as,g _ _ e,Paired.mapP r fun _ _ f=>Y2 g f⟩
def eqB(ps qs:Sps):Bool:=decide (ps.length=qs.length) && ps.all fun p=>decide (p∈qs)
def dz(or:Int)(qs:Sps):Sps→Sps→Bool
 | ps,[]=>eqB ps qs
 | ps,(k,m)::r=>if m<1∨or≤k.1∨cnt ps k<m then false else dz or qs (bA ps k m) r
def inB(or:Int)(k:Int×Int):Bool:=decide (0≤k.2) && decide (k.2≤2 ^ or.toNat - 1)
def ez(or total:Int)(ts:List Th)(qs AY:Sps):Bool:=decide (bg ts=total) && ((aL ts).all fun e=>inB or e.1) && dz or qs (aL ts) AY
def lH:Sp:=fun vs H Q _=>∃(d p:Addr)(ps:Sps)(k:Int×Int)(m:Int),vs=[.ref d,.ref p,.int m]∧H d=some (.dT (ae ps))∧KAt H p k∧k∈ps.map (·.1)∧ps.length<100000∧∀(H':Hp),Grw d H H'→H' d=some (.dT (ae (bA ps k m)))→Q .non H'
def jK:Sp:=fun vs H Q _=>∃(c1 c2:Addr)(bs:List Addr)(ys:Sps),vs=[.ref c1,.ref c2]∧H c1=some (.tup [])∧H c2=some (.lst (bs.map V.ref))∧Paired (FT H) bs ys∧ys.length≤1000∧∀(d:Addr)(H':Hp),H d=none→Same H H'→H' d=some (.dT (ae (aG [] ys)))→Q (.ref d) H'
def ut:Sp:=fun vs H Q _=>∃(r:Addr)(ts:List Th),vs=[.ref r]∧DV H (.ref r) (aP ts)∧ts.length≤1000∧∀H',Same H H'→Q (.int (bg ts)) H'
def on:Sp:=fun vs H Q _=>∃(r:Addr)(ts:List Th),vs=[.ref r]∧DV H (.ref r) (aP ts)∧ts.length≤1000∧∀(d:Addr)(H':Hp),H d=none→Same H H'→H' d=some (.dT (ae (aL ts)))→Q (.ref d) H'
def qR:Sp:=fun vs H Q _=>∃(p:Addr)(n or:Int),vs=[.ref p,.int or]∧KAt H p (0,n)∧0≤or∧or≤20∧∀H',Same H H'→Q (.bl (inB or (0,n))) H'
def iT:Sp:=fun vs H Q _=>∃(r q p:Addr)(ts:List Th)(AT or total:Int)(qs AY:Sps),vs=[.ref r,.ref q,.ref p]∧DV H (.ref r) (aP ts)∧ts.length≤1000∧LadAt H q AT or total qs∧(qs.map (·.1)).Nodup∧qs.length≤400∧0≤or∧or≤20∧PprAt H p AY∧AY.length≤20000∧∀H',Same H H'→Q (.bl (ez or total ts qs AY)) H'
theorem mE{p:Addr}{H0 H1 H2:Hp}(n:H0 p=none)(s:Same H0 H1)(g:Grw p H1 H2):Same H0 H2:=fun b u e=>(Zc (g b u (by rw[Zh (Zf e n)];exact s b u e))).2
theorem mO(ps:Sps)(k:Int×Int)(m:Int):(bA ps k m).length≤ps.length+2:=by
 have a:=W6 ps (ad k) (cnt ps (ad k)+m)
 have b:=W6 (ao ps (ad k) (cnt ps (ad k)+m)) k (cnt ps k - m)
 unfold bA
 split
 ·have:=qm (ao (ao ps (ad k) (cnt ps (ad k)+m)) k (cnt ps k - m)) k
  omega
 ·omega
theorem wu{ps:Sps}(nd:(ps.map (·.1)).Nodup):((ae ps).map (·.1)).Nodup:=by
 rw[V3]
 exact Ae.mpr (nd.imp fun h e=>h (V1 e))
theorem qZ(aO:Has P w K mg base "parent_of" 1 ["stretch"] cj)(F:Fun K "fold_up" "fold_up" cD f fd):FnOk P w K mg base CX0 2 f fd ["counts","stretch","many"] lH:=by
 refine F.ok Vq (fun vs H Q E h=>?_) (fun cdv A outer s H vs Q E hr h=>?_)
 ·obtain⟨d,p,ps,k,m,rfl,_⟩:=h
  rfl
 obtain⟨d,p,ps,k,m,rfl,e_d,A0,hk,pl,hq⟩:=h
 have lk:=iS hk
 obtain⟨c,hc⟩:∃c,c=cnt ps k:=⟨_,rfl⟩
 rw[←hc]at lk
 unfold bA at hq
 rw[←hc]at hq
 refine⟨_,(Z2 (Zw 3 Vq.nd rfl (Or.inl rfl) (Z4 aO hr (Z1 (pv 1) Z0 (by rfl))) (by rfl) (by rfl)) Zd),?_⟩
 refine⟨_,rfl,p,k,rfl,A0,fun q nq=>?_⟩
 have g1:=Om (o:=.tup [.int (ad k).1,.int (ad k).2]) e_d nq
 have s1:=Z6 nq (.tup [.int (ad k).1,.int (ad k).2])
 have A6:KAt (upd H q (.tup [.int (ad k).1,.int (ad k).2])) q (ad k):=Z5
 have e_d:=s1 _ _ e_d
 have A0:KAt _ p k:=s1 _ _ A0
 generalize upd H q (.tup [.int (ad k).1,.int (ad k).2])=H1 at g1 A6 e_d A0⊢
 have tupd:∀{H:Hp}{b:Addr}{j:Int×Int}{kvs:List (List Key×V)}{o:HO},H d=some (.dT kvs)→KAt H b j→KAt (upd H d o) b j:=fun{H b j kvs o} e eb=>by
  show upd H d o b=_
  rw[Za (Ta eb e (by intro z;cases z))]
  exact eb
 refine⟨_,(Z2 (Uj (Xh hr) (pv 0) (pv 3) (Zb Zs (Xr (Xh hr) (pv 0) (pv 3) Z3 ⟨rfl,rfl,rfl,rfl⟩) (pv 2)) rfl) Zd),?_⟩
 obtain⟨n0,hn0,h0⟩:∃n,n=cnt ps (ad k)∧(au ps (ad k)).getD (.int 0)=.int n:=⟨_,rfl,Xi _ _⟩
 rw[←hn0]at hq
 have l1:=W6 ps (ad k) (n0+m)
 refine⟨_,rfl,d,rfl,.inr ⟨_,.inl e_d⟩,_,rfl,_,Yx e_d A6,_,rfl,n0,m,h0,rfl,_,rfl,_,rfl,d,_,rfl,DPut.t (k:=kk (ad k)) e_d A6 (Zm (by rw[Y0];omega)),?_⟩
 have g2:Grw d H (upd H1 d (.dT (aK (ae ps) (kk (ad k)) (.int (n0+m))))):=g1.trans Yw
 have dY:=tupd (o:=.dT (aK (ae ps) (kk (ad k)) (.int (n0+m)))) e_d A0
 have dw:(upd H1 d (.dT (aK (ae ps) (kk (ad k)) (.int (n0+m))))) d=some (.dT (ae (ao ps (ad k) (n0+m)))):=by rw[←Tj];exact Z5
 generalize upd H1 d (.dT (aK (ae ps) (kk (ad k)) (.int (n0+m))))=H2 at g2 dY dw⊢
 refine⟨_,(Z2 (Uj (Xh hr) (pv 0) (pv 1) (Zb Xv (Um (Xh hr) (pv 0) (pv 1) (fun _ _=>rfl)) (pv 2)) rfl) Zd),?_⟩
 have lk2:au (ao ps (ad k) (n0+m)) k=some (.int c):=by rw[X8,yy (V0 k)];exact lk
 generalize ao ps (ad k) (n0+m)=qs at hq dw lk2 l1
 have l2:=W6 qs k (c - m)
 refine⟨_,rfl,_,rfl,d,.int c,rfl,by rw[←lk2];exact Yx dw dY,_,rfl,_,_,rfl,rfl,_,rfl,_,rfl,d,_,rfl,DPut.t (k:=kk k) dw dY (Zm (by rw[Y0];omega)),?_⟩
 have g3:Grw d H (upd H2 d (.dT (aK (ae qs) (kk k) (.int (c - m))))):=g2.trans Yw
 have dR:=tupd (o:=.dT (aK (ae qs) (kk k) (.int (c - m)))) dw dY
 have cW:(upd H2 d (.dT (aK (ae qs) (kk k) (.int (c - m))))) d=some (.dT (ae (ao qs k (c - m)))):=by rw[show ae (ao qs k (c - m))=aK (ae qs) (kk k) (.int (c - m)) from(Tj _ _ _).symm];exact Z5
 generalize upd H2 d (.dT (aK (ae qs) (kk k) (.int (c - m))))=H3 at g3 dR cW⊢
 refine⟨_,(Z7 (Yl (Zi Og (Um (Xh hr) (pv 0) (pv 1) (fun _ _=>rfl)) Z3 (Zk _)) (Z7 (Xj (T9 At PySem.F.slot_dict_pop PySem.F.type_dict_pop (kD hr.units) (pv 0) (Z1 (pv 1) Z0 (by rfl))))) Zu)),?_⟩
 have lk3:au (ao qs k (c - m)) k=some (.int (c - m)):=by rw[X8,yC rfl]
 generalize ao qs k (c - m)=rs at hq cW lk3 l2
 refine⟨_,rfl,_,rfl,d,.int (c - m),rfl,by rw[←lk3];exact Yx cW dR,rfl,_,rfl,W7 (fun z=>?_) (fun z=>?_)⟩
 ·have z:c - m=0:=by simpa using z
  rw[yC z]at hq
  refine⟨_,rfl,Qe cW,_,rfl,d,p,_,kk k,_,rfl,rfl,cW,dR,lk3,?_⟩
  refine hq _ (g3.trans Yw) ?_
  rw[←lj]
  exact Z5
 ·have z:¬(c - m=0):=by simpa using z
  rw[yy z]at hq
  exact hq _ g3 cW
theorem sP(aY:mg "dict"=none)(F:Fun K "added_counts" "added_counts" a8 f fd):FnOk P w K mg base CX0 1 f fd ["one","other"] jK:=by
 refine F.ok Y3 (fun vs H Q E h=>?_) (fun cdv A outer s H vs Q E hr h=>?_)
 ·obtain⟨c1,c2,bs,ys,rfl,_⟩:=h
  rfl
 obtain⟨c1,c2,bs,ys,rfl,e1,e2,p2,xl,hq⟩:=h
 refine⟨_,(Z2 (Zw 2 Y3.nd rfl (Or.inl rfl) (Xl (W1 rfl hr.units) rfl aY PyProof.Rows.boot_dict (Z1 (pv 0) Z0 (by rfl))) (by rfl) (by rfl)) Zd),?_⟩
 have nd:((ae []).map (·.1)).Nodup:=zV
 refine⟨_,rfl,c1,_,ae [],rfl,e1,Pg (as:=[]) .nil,by rw[Y0];exact AQ _,fun d n_d=>?_⟩
 rw[Ud nd]
 have sm:=Z6 n_d (.dT (ae []))
 have ed:(upd H d (.dT (ae []))) d=some (.dT (ae [])):=Z5
 generalize upd H d (.dT (ae []))=H1 at sm ed⊢
 have bl:=yT p2
 refine⟨_,(Z2 (Xe zy rfl (Y4 (pv 1)) (Yn rfl (Z9 (Z8 (i:=3) Y3.nd rfl (Or.inl rfl)) (Z9 (Z8 (i:=4) Y3.nd rfl (Or.inl rfl)) Zp)))
 (Z7 (Uj (Xh hr) (pv 2) (pv 3) (Zb Zs (Xr (Xh hr) (pv 2) (pv 3) Z3 ⟨rfl,rfl,rfl,rfl⟩) (pv 4)) rfl))) Zd),?_⟩
 refine⟨_,rfl,c2,rfl,⟨_,SqL.of (sm _ _ e2)⟩,?_⟩
 refine Xw (xs:=bs.map V.ref) (fun i σ H'=>∃(o3 o4:Option V),σ=[some (.ref c1),some (.ref c2),some (.ref d),o3,o4]∧Same H H'∧H' d=some (.dT (ae (aG [] (ys.take i))))∧(aG [] (ys.take i)).length≤i) ⟨_,_,rfl,sm,ed,yF _⟩ ?_ ?_ ?_
 ·rintro i σ H' _ ⟨_,_,_,g,_⟩
  exact SqL.of (g _ _ e2)
 ·rintro i x σ H' N B1 R hN hR hx ⟨o3,o4,rfl,g,ed,al⟩
  obtain⟨a,p,rfl,hp,b,A5,AZ⟩:=Vy p2 hx
  have il:i<ys.length:=(yK.mp hp).1
  have A5:=g _ _ A5
  have AZ:KAt H' b p.1:=g _ _ AZ
  have st:aG [] (ys.take (i+1))=ao (aG [] (ys.take i)) p.1 (cnt (aG [] (ys.take i)) p.1+p.2):=by rw[Zz hp,iJ]
  rw[st]at hN
  generalize aG [] (ys.take i)=zs at ed al hN
  have l1:=W6 zs p.1 (cnt zs p.1+p.2)
  refine⟨a,_,rfl,SqT.of A5,rfl,_,_,rfl,_,_,rfl,rfl,?_⟩
  refine⟨_,rfl,d,rfl,.inr ⟨_,.inl ed⟩,_,rfl,_,Yx ed AZ,_,rfl,_,p.2,Xi _ _,rfl,_,rfl,_,rfl,d,_,rfl,DPut.t (k:=kk p.1) ed AZ (Zm (by rw[Y0];omega)),?_⟩
  refine hN _ _ ⟨_,_,rfl,fun x w e=>?_,by rw[←Tj];exact Z5,by omega⟩
  rw[Za (Zf e n_d)]
  exact g _ _ e
 ·rintro σ H' ⟨o3,o4,rfl,g,ed,_⟩
  rw[pi,bl,zn]at ed
  exact⟨_,(Z7 (Ze (pv 2))),_,rfl,hq d _ n_d g ed⟩
theorem vC(bd:mg "sum"=none)(F:Fun K "things_in" "things_in" cx f fd):FnOk P w K mg base CX0 1 f fd ["stream"] ut:=by
 refine F.ok fw (fun vs H Q E h=>?_) (fun cdv A outer s H vs Q E hr h=>?_)
 ·obtain⟨r,ts,rfl,_⟩:=h
  rfl
 obtain⟨r,ts,rfl,hd,tl,hq⟩:=h
 refine⟨_,(Z7 (Ze (Zo (Vj rfl) rfl bd AE (Z1 (X6 (own:=["day","mark","number","many"]) (CompOk.of rfl rfl (by rfl) (by rfl) (by rfl)) (Y4 (pv 0))
  (fun _ _ _ _ _=>(Xq K 4 rfl rfl (Z9 (Z8 (i:=0) Yu rfl (Or.inl rfl) (Or.inr rfl)) (Z9 (Z8 (i:=1) Yu rfl (Or.inl rfl) (Or.inr rfl)) (Z9 (Z8 (i:=2) Yu rfl (Or.inl rfl) (Or.inr rfl)) (Z9 (Z8 (i:=3) Yu rfl (Or.inl rfl) (Or.inr rfl)) Zp)))))) (fun _ _ _ _ _=>X5)
  (fun _ _ _ _ _=>(pv 3))) Z0 (by rfl))))),?_⟩
 obtain⟨_,xs,e0,e_r,ds⟩:=DV.list_inv hd
 cases e0
 refine⟨_,rfl,r,rfl,⟨_,SqL.of e_r⟩,Wt (fun _=>true) (fun t=>.int t.many) e_r ds (by omega) ?_ ?_⟩
 ·rintro t c ys C mt ec h1 _
  exact⟨c,_,rfl,SqT.of ec,rfl,_,_,rfl,_,_,rfl,_,_,rfl,_,_,rfl,rfl,Wk.refl _,_,rfl,h1 rfl⟩
 intro q nq
 refine⟨q,ts.map Th.many,rfl,SqL.of ?_,hq _ (Z6 nq _)⟩
 rw[Z5,AA.mpr (fun _ _=>rfl),zf]
 rfl
theorem v_(aN:Has P w K mg base "added_counts" 1 ["one","other"] jK)(F:Fun K "standing_of" "standing_of" bS f fd):FnOk P w K mg base CX0 2 f fd ["stream"] on:=by
 refine F.ok Qr (fun vs H Q E h=>?_) (fun cdv A outer s H vs Q E hr h=>?_)
 ·obtain⟨r,ts,rfl,_⟩:=h
  rfl
 obtain⟨r,ts,rfl,hd,tl,hq⟩:=h
 refine⟨_,(Z7 (Ze (Z4 aN hr (Z1 (Zr Z0) (Z1 (X6 (own:=["day","mark","number","many"]) (CompOk.of rfl rfl (by rfl) (by rfl) (by rfl)) (Y4 (pv 0))
  (fun _ _ _ _ _=>(Xq K 4 rfl rfl (Z9 (Z8 (i:=0) Yi rfl (Or.inl rfl) (Or.inr rfl)) (Z9 (Z8 (i:=1) Yi rfl (Or.inl rfl) (Or.inr rfl)) (Z9 (Z8 (i:=2) Yi rfl (Or.inl rfl) (Or.inr rfl)) (Z9 (Z8 (i:=3) Yi rfl (Or.inl rfl) (Or.inr rfl)) Zp)))))) (fun _ _ _ _ _=>X5)
  (fun _ _ _ _ _=>(Zr (Z1 (Zr (Z1 Z3 (Z1 (pv 2) Z0 (by rfl)) (by rfl))) (Z1 (pv 3) Z0 (by rfl)) (by rfl))))) Z0 (by rfl)) (by rfl))))),?_⟩
 obtain⟨_,xs,e0,e_r,ds⟩:=DV.list_inv hd
 cases e0
 have xl:=ds.length
 rw[pi]at xl
 refine⟨leN rfl,fun c n_c=>?_⟩
 have s1:=Z6 n_c (.tup [])
 have A2:(upd H c (.tup [])) c=some (.tup []):=Z5
 generalize upd H c (.tup [])=H1 at s1 A2⊢
 have xP:=s1 _ _ e_r
 refine⟨_,rfl,r,rfl,⟨_,SqL.of xP⟩,?_⟩
 refine X4 (xs:=xs) (fun n ys H'=>∃bs:List Addr,Same H1 H'∧ys=bs.map V.ref∧Paired (FT H') bs ((c7 ts).take n)) ⟨[],Same.refl _,rfl,.nil⟩ ?_ ?_ ?_
 ·rintro n ys H' _ ⟨_,g,_⟩
  exact SqL.of (g _ _ xP)
 ·rintro n x ys H' C hx ⟨bs,g,rfl,pr⟩ hC
  have nl:=(yK.mp hx).1
  obtain⟨t,c',ht,rfl,ec,mt⟩:=DVs.th_at ds hx
  have ec:=g _ _ (s1 _ _ ec)
  have bl:=yT pr
  rw[y7]at bl
  refine⟨Zm (by rw[pi];omega),c',_,rfl,SqT.of ec,rfl,_,_,rfl,_,_,rfl,_,_,rfl,_,_,rfl,rfl,Wk.refl _,_,rfl,leN rfl,fun a na=>?_⟩
  have g1:=Z6 na (.tup [.int 0,.int t.num])
  have A5:KAt (upd H' a (.tup [.int 0,.int t.num])) a (0,t.num):=Z5
  generalize upd H' a (.tup [.int 0,.int t.num])=H2 at g1 A5⊢
  refine⟨_,rfl,leN rfl,fun b nb=>?_⟩
  have g2:=Z6 nb (.tup [.ref a,.int t.many])
  have AZ:(upd H2 b (.tup [.ref a,.int t.many])) b=some (.tup [.ref a,.int t.many]):=Z5
  have A5:KAt _ a (0,t.num):=g2 _ _ A5
  generalize upd H2 b (.tup [.ref a,.int t.many])=H3 at g2 A5 AZ⊢
  refine hC _ _ ⟨bs++[b],g.trans (g1.trans g2),by rw[yV];rfl,?_⟩
  have h2:(c7 ts)[n]?=some ((0,t.num),t.many):=by
   unfold c7
   rw[y9,ht]
   rfl
  rw[Zz h2]
  exact AS (Paired.mapP pr fun _ _ f=>Y2 (g1.trans g2) f) ⟨a,AZ,A5⟩
 rintro ys H' ⟨bs,g,rfl,pr⟩
 have sl:(c7 ts).length=ts.length:=pi _
 rw[xl,←sl,zn]at pr
 have bl:=yT pr
 refine⟨Zn (by rw[pi];omega),fun l nl=>?_⟩
 have g2:=Z6 nl (.lst (bs.map V.ref))
 refine⟨c,l,bs,c7 ts,rfl,g2 _ _ (g _ _ A2),Z5,Paired.mapP pr fun _ _ f=>Y2 g2 f,by omega,fun d H3 nd g3 ed=>?_⟩
 exact hq d _ (s1.free (g.free (g2.free nd))) (s1.trans (g.trans (g2.trans g3))) ed
theorem Py(ai:mg "isinstance"=none)(bB:mg "tuple"=none)(aM:mg "len"=none)(bL:Has P w K mg base "is_whole_within" 3 ["thing","least","most"] yw)(bU:Has P w K mg base "last_of" 2 ["stretch"] fM)(F:Fun K "is_stretch" "is_stretch" bV f fd):FnOk P w K mg base CX0 4 f fd ["thing","deep"] qR:=by
 refine F.ok Wx (fun vs H Q E h=>?_) (fun cdv A outer s H vs Q E hr h=>?_)
 ·obtain⟨p,n,or,rfl,_⟩:=h
  rfl
 obtain⟨p,n,or,rfl,e,d0,d1,hq⟩:=h
 refine⟨_,(Z2 (Yl (PW.pt (R9 (Sx (U6 (Zo Sk rfl ai Ar (Z1 (pv 0) (Z1 (Sb (v:=.ty "tuple") rfl bB PyProof.Rows.boot_tuple rfl) Z0 (by rfl)) (by rfl))))) (Ti (Zi uc (Zo Y5 rfl aM Ax (Z1 (pv 0) Z0 (by rfl))) Z3 (Zk _))))) (Z7 (Ze Va)) Zu)
 (Z2 (Yy (pv 0) (Yn rfl (Z9 (Z8 (i:=2) Wx.nd rfl (Or.inl rfl)) (Z9 (Z8 (i:=3) Wx.nd rfl (Or.inl rfl)) Zp))))
 (Z7 (Ze (gt (Z4 bL hr (Z1 (pv 2) (Z1 Z3 (Z1 (pv 1) Z0 (by rfl)) (by rfl)) (by rfl))) (fQ (Z4 bL hr (Z1 (pv 3) (Z1 Z3 (Z1 (Z4 bU hr (Z1 (Zr (Z1 (Zb Xv (pv 1) (pv 2)) (Z1 Z3 Z0 (by rfl)) (by rfl))) Z0 (by rfl))) Z0 (by rfl)) (by rfl)) (by rfl))))))))),?_⟩
 have kp:Kd H (.ref p) "tuple":=.tup e
 refine⟨_,rfl,_,_,"tuple",_,rfl,kp.ty,kp.kit (by decide) rfl,_,rfl,Xd ?_⟩
 refine⟨_,rfl,p,_,rfl,.inr (SqT.of e),rfl,_,rfl,Xd ?_⟩
 refine⟨_,rfl,p,_,rfl,SqT.of e,rfl,_,_,rfl,_,_,rfl,rfl,?_⟩
 refine⟨_,rfl,_,rfl,0,0,or,rfl,_,rfl,?_⟩
 rw[yG (y8 0),yG d0]
 refine W3 ⟨_,rfl,_,rfl,_,rfl,_,_,rfl,rfl,leN rfl,fun r nr=>⟨r,(or - 0,0),rfl,Z5,by show 0≤or - 0;omega,by show or - 0≤20;omega,y8 _,by show(0:Int)≤_;decide,fun H' g=>⟨n,0,_,rfl,?_⟩⟩⟩
 have e2:am (or - 0,0)=2 ^ or.toNat - 1:=by
  unfold am
  show(0+1) * (2:Int) ^ (or - 0).toNat - 1=_
  rw[Int.sub_zero,Int.zero_add,Ai]
 rw[e2]
 exact hq _ ((Z6 nr _).trans g)
end K31
namespace L2
open PySem PySem.Spec PyProof.Rows
section
variable{P:Program}{w:World}{A:Around}{E:Value→Shared→Prop}{s:Shared}{a b:Addr}{xa xb:List TKv}{ps qs:Sps}
theorem P6(H:Hp)(ha:(a == sysModules)=false)(hb:(b == sysModules)=false):MeetsIn P w (Builtin.«dict.__eq__» ⟨[.ref a,.ref b],[]⟩) (fun A R s=>A.in1.units<cLine∧s.heap.DictOfH (tupleKind (aj P w)) a xa∧s.heap.DictOfH (tupleKind (aj P w)) b xb∧
  KT H (ae ps) xa∧KT H (ae qs) xb∧R (.ok (.ret (.bool (decide (ps.length=qs.length) && ps.all fun p=>decide (p∈qs))))) s):=
 .of_wp fun A R s ⟨hu,da,db,ra,rb,h⟩=>by
  show wpAny _ _ (Builtin.Dict.dictSlotArgs "__eq__" ⟨[.ref a,.ref b],[]⟩ >>= _) _ _ s
  refine io ?_
  unfold Builtin.Dict.dictSlotArgs
  refine io (wpAny_notOrdered_dict da.typeIs ?_)
  show wpAny _ _ (pure (Value.ref a,Value.ref b)) _ _ s
  refine yB ?_
  refine io (wpAny_isInstance db.typeIs isSubtype_dict_dict ?_)
  rw[yy (by decide)]
  show wpAny _ _ (Builtin.Dict.samePairs _ a b >>= _) _ _ s
  refine io (oF (show A.in1.units<cLine from hu) ha hb da db ra rb ?_)
  have bt:∀c:Bool,(c == true)=c:=fun c=>by cases c <;> rfl
  rw[bt]
  exact yB ⟨_,rfl,h⟩
def xp:R2:=fun x y H Q=>∃a b ps qs,x=.ref a∧y=.ref b∧H a=some (.dT (ae ps))∧H b=some (.dT (ae qs))∧Q (.bl (decide (ps.length=qs.length) && ps.all fun p=>decide (p∈qs))) H
theorem sT{X:Cx}(hu:X.A.units+64<cLine):OpR X (compareOp .Eq) xp:=by
 intro AU s σ H x y v u Q I rx ry h
 obtain⟨a,b,ps,qs,rfl,rfl,ea,eb,q⟩:=h
 cases rx
 cases ry
 obtain⟨za,ha,va,ra,da⟩:=kW I.hok ea
 obtain⟨zb,hb,vb,rb,db⟩:=kW I.hok eb
 refine wpAny_richCompare_same_room (op:=.Eq) da.typeIs db.typeIs PySem.F.slot_dict_eq (call_meetsIn PySem.F.slot_dict_eq da.typeIs PySem.F.entry_dict_eq (PySem.F.args_dict_eq_2 _ _) (P6 H ha hb) ⟨?_,da,db,ra,rb,?_⟩) (by omega)
 ·exact(show X.A.units+1<cLine by omega)
 ·exact⟨(fun z=>nomatch z),.bl _,H,I,rfl,q⟩
end
end L2
namespace K31
open PySem L2 Ld
theorem T3:∀{ys xs:Sps}{k:Int×Int},k∈(aG xs ys).map (·.1)→k∈xs.map (·.1)∨k∈ys.map (·.1)
 | [],_,_,h=>.inl h
 | p::ys,xs,k,h=>by
  rw[Vl]at h
  rcases T3 h with h | h
  ·rw[Wg]at h
   split at h
   ·exact .inl h
   ·rcases yY.mp h with h | h
    ·exact .inl h
    ·rw[yN.mp h]
     exact .inr (.head _)
  ·exact .inr (.tail _ h)
theorem g0{ts:List Th}{e:(Int×Int)×Int}(h:e∈aL ts):∃n,e.1=(0,n):=by
 rcases T3 (yD.mpr ⟨e,h,rfl⟩)with h | h
 ·exact absurd h zE
 ·unfold c7 at h
  rw[zf]at h
  obtain⟨t,_,e⟩:=yD.mp h
  exact⟨t.num,e.symm⟩
theorem e8(ts:List Th):(aL ts).length≤ts.length:=by
 have:=T4 (c7 ts) []
 rw[Aj,AK,show(c7 ts).length=ts.length from pi _]at this
 exact this
theorem uZ{ps:Sps}{i:Nat}{p:List Key×V}(h:(ae ps)[i]?=some p):∃q,ps[i]?=some q∧p=(kk q.1,.int q.2):=by
 unfold ae at h
 rw[y9]at h
 cases e:ps[i]? with
 | none=>rw[e]at h;cases h
 | some q=>rw[e]at h;cases h;exact⟨q,rfl,rfl⟩
theorem O7{H H':Hp}{d:Addr}{o:Obj}{kvs:List (List Key×V)}(e:H d=some (.dT kvs))(g:Same (upd H d (.frz o (.dT kvs))) H'):Same H (upd H' d (.dT kvs)):=fun b u h=>by
 by_cases z:b=d
 ·rw[z]at h⊢
  rw[e]at h
  rw[←h]
  exact Z5
 ·rw[Za z]
  exact g b u (by rw[Za z];exact h)
theorem qB{α:Type}{l:List α}{i:Nat}{x:α}(h:l[i]?=some x):l.drop i=x::l.drop (i+1):=by
 obtain⟨hi,e⟩:=yK.mp h
 rw[List.drop_eq_getElem_cons hi,e]
theorem R6{ps:Sps}{k:Int×Int}(h:1≤cnt ps k):k∈ps.map (·.1):=Classical.byContradiction fun n=>by
 rw[Y1 n]at h
 omega
variable{P:Program}{w:World}{K:W.Frag}{mg:Str→Option Value}{base:Heap}{f:Addr}{fd:FuncData}
theorem mU(qh:mg "all"=none)(aY:mg "dict"=none)(bT:Has P w K mg base "standing_of" 2 ["stream"] on)(iN:Has P w K mg base "things_in" 1 ["stream"] ut)(fG:Has P w K mg base "is_stretch" 4 ["thing","deep"] qR)(dk:Has P w K mg base "fold_up" 2 ["counts","stretch","many"] lH)(F:Fun K "is_folded" "is_folded" cB f fd):FnOk P w K mg base CX0 5 f fd ["stream","ladder","paper"] iT:=by
 refine F.ok Ys (fun vs H Q E h=>?_) (fun cdv A outer s H vs Q E hr h=>?_)
 ·obtain⟨r,q,p,ts,AT,or,total,qs,AY,rfl,_⟩:=h
  rfl
 obtain⟨r,q,p,ts,AT,or,total,qs,AY,rfl,k_r,tl,lad,nq,ql,d0,d1,⟨bs,A0,pb⟩,pl,hq⟩:=h
 obtain⟨c,as,A6,A2,pr⟩:=lad.at_
 have sl:=e8 ts
 have hF:bg ts≠total∨((aL ts).all fun e=>inB or e.1)=false→ez or total ts qs AY=false:=fun h=>by
  unfold ez
  rcases h with h | h
  ·rw[ze h,Bool.false_and,Bool.false_and]
  ·rw[h,Bool.and_false,Bool.false_and]
 have hT:bg ts=total→((aL ts).all fun e=>inB or e.1)=true→ez or total ts qs AY=dz or qs (aL ts) AY:=fun h1 h2=>by
  unfold ez
  rw[yG h1,h2,Bool.true_and,Bool.true_and]
 generalize ez or total ts qs AY=B at hq hF hT
 refine⟨_,(Z2 (Yy (pv 1) (Yn rfl (Z9 (Z8 (i:=3) Ys.nd rfl (Or.inl rfl)) (Z9 (Z8 (i:=4) Ys.nd rfl (Or.inr rfl)) (Z9 (Z8 (i:=5) Ys.nd rfl (Or.inl rfl)) (Z9 (Z8 (i:=6) Ys.nd rfl (Or.inl rfl)) Zp)))))) Zd),?_⟩
 refine⟨_,rfl,q,_,rfl,SqT.of A6,rfl,_,_,rfl,_,_,rfl,_,_,rfl,_,_,rfl,rfl,?_⟩
 refine⟨_,(Z2 (Zw 7 Ys.nd rfl (Or.inl rfl) (Z4 bT hr (Z1 (pv 0) Z0 (by rfl))) (by rfl) (by rfl)) Zd),?_⟩
 refine⟨_,rfl,r,ts,rfl,k_r,tl,fun d H1 n_d g1 e_d=>?_⟩
 refine⟨_,(Z2 (Yl (PW.pt (R9 (Zi uc (Z4 iN hr (Z1 (pv 0) Z0 (by rfl))) (pv 6) (Zk _)) (Ti (Sx (U6 (Zo (qO rfl) rfl qh PyProof.Rows.boot_all (Z1 (sX (X6 (own:=["one"]) (CompOk.of rfl rfl (by rfl) (by rfl) (by rfl)) (qA (pv 7))
  (fun _ _ _ _ _=>(Z8 (i:=0) T7 rfl (Or.inl rfl) (Or.inr rfl))) (fun _ _ _ _ _=>X5)
  (fun _ _ _ _ _=>(Z4 fG hr (Z1 (pv 0) (Z1 (pv 5) Z0 (by rfl)) (by rfl)))))) Z0 (by rfl)))))))) (Z7 (Ze Va)) Zu) Zd),?_⟩
 refine⟨_,rfl,r,ts,rfl,k_r.mono g1,tl,fun H2 g2=>⟨_,rfl,rfl,_,rfl,W7 (fun c1=>W3 ?_) (fun c1=>?_)⟩⟩
 ·have c1:bg ts≠total:=by simpa using c1
  rw[hF (.inl c1)]at hq
  exact hq _ (g1.trans g2)
 have c1:bg ts=total:=by simpa using c1
 have hF2:=fun h=>hF (.inr h)
 have hT:=hT c1
 clear hF
 have e_d:=g2 _ _ e_d
 have gg:=g1.trans g2
 clear g1 g2
 have nS:∀e∈aL ts,∃n,e.1=(0,n):=fun e h=>g0 h
 generalize aL ts=S at e_d sl hF2 hT nS
 refine⟨d,_,e_d,fun o=>⟨_,rfl,d,o,_,rfl,Z5,?_⟩⟩
 refine jb (fun i ys H'=>Same (upd H2 d (.frz o (.dT (ae S)))) H'∧ys=((S.take i).map fun e=>inB or e.1).map V.bl) ⟨Same.refl _,rfl⟩ ?_ ?_ ?_ ?_
 ·rintro i ys H' ⟨g5,_⟩
  exact g5 _ _ Z5
 ·rintro i p0 b ys H5 C hp0 AZ ⟨g5,rfl⟩ hC
  obtain⟨e,he,rfl⟩:=uZ hp0
  have em:=y3 he
  obtain⟨n,hn⟩:=nS e em
  have AZ:KAt H5 b e.1:=AZ
  rw[hn]at AZ
  refine⟨Zm (by rw[pi,pi,y7];omega),Wk.refl _,_,rfl,_,rfl,b,n,or,rfl,AZ,d0,d1,fun H6 g6=>hC _ _ ⟨g5.trans g6,?_⟩⟩
  rw[Zz he,yV,yV]
  show _=_++[V.bl (inB or e.1)]
  rw[hn]
 ·rintro i ys H' ⟨_,rfl⟩
  exact Zm (by rw[pi,pi,y7];omega)
 rintro ys H5 ⟨g5,rfl⟩
 rw[Y0,zn]
 refine⟨Zn (by rw[pi,pi];omega),fun l n_l=>?_⟩
 have ld:l≠d:=fun z=>by rw[z,g5 _ _ Z5]at n_l;cases n_l
 have g6:=g5.trans (Z6 n_l (.lst ((S.map fun e=>inB or e.1).map V.bl)))
 have sz:=O7 e_d g6
 have gg:=gg.trans sz
 have cW:=sz _ _ e_d
 refine⟨g6 _ _ Z5,l,_,rfl,SqL.of (by rw[Za ld];exact Z5),?_⟩
 rw[List.all_map]
 generalize upd (upd H5 l (.lst ((S.map fun e=>inB or e.1).map V.bl))) d (.dT (ae S))=H6 at gg cW⊢
 clear sz g6 g5 e_d
 refine⟨_,rfl,W7 (fun c2=>?_) (fun c2=>?_)⟩
 ·have c2:(S.all fun e=>inB or e.1)=false:=by simpa using c2
  rw[hF2 c2]at hq
  exact hq _ gg
 have c2:(S.all fun e=>inB or e.1)=true:=by simpa using c2
 rw[hT c2]at hq
 clear hT hF2 c1 c2 nS
 refine⟨_,(Z2 (Xe zy rfl (Y4 (pv 2)) (Yn rfl (Z9 (Z8 (i:=8) Ys.nd rfl (Or.inl rfl)) (Z9 (Z8 (i:=9) Ys.nd rfl (Or.inl rfl)) Zp)))
 (Z2 (Yl (PW.pt (R9 (Zi lz (pv 9) Z3 (Zk _)) (R9 (Zi lx (Zt Y6 (pv 8) Z3 (fun _ _=>rfl)) (pv 4) (Zk _)) (Ti (Zi U1 (pv 9) (Xr (Xh hr) (pv 7) (pv 8) Z3 ⟨rfl,rfl,rfl,rfl⟩) (Zk _)))))) (Z7 (Ze Va)) Zu)
 (Z7 (Xj (Z4 dk hr (Z1 (pv 7) (Z1 (pv 8) (Z1 (pv 9) Z0 (by rfl)) (by rfl)) (by rfl))))))) Zd),?_⟩
 refine⟨_,rfl,p,rfl,⟨_,SqL.of (gg _ _ A0)⟩,?_⟩
 have bl:=yT pb
 refine Xw (xs:=bs.map V.ref) (fun i σ H'=>∃(o8 o9:Option V)(ps:Sps),σ=[some (.ref r),some (.ref q),some (.ref p),some (.int AT),some (.int or),some (.ref c),some (.int total),some (.ref d),o8,o9]∧Same H H'∧H' d=some (.dT (ae ps))∧ps.length≤1000+2 * i∧dz or qs ps (AY.drop i)=dz or qs S AY) ⟨_,_,S,rfl,gg,cW,by omega,rfl⟩ ?_ ?_ ?_
 ·rintro i σ H' _ ⟨_,_,_,_,g,_⟩
  exact SqL.of (g _ _ A0)
 ·rintro i x σ H' N B1 R hN hR hx ⟨o8,o9,ps,rfl,g,ed,al,key⟩
  obtain⟨a,⟨k,m⟩,rfl,hp,b,A5,AZ⟩:=Vy pb hx
  have il:i<AY.length:=(yK.mp hp).1
  have A5:=g _ _ A5
  have AZ:KAt H' b k:=g _ _ AZ
  rw[qB hp]at key
  have key:(if m<1∨or≤k.1∨cnt ps k<m then false else dz or qs (bA ps k m) (AY.drop (i+1)))=dz or qs S AY:=key
  refine⟨a,_,rfl,SqT.of A5,rfl,_,_,rfl,_,_,rfl,rfl,?_⟩
  refine⟨_,rfl,_,_,rfl,rfl,_,rfl,W7 (fun c1=>W3 ?_) (fun c1=>?_)⟩
  ·rw[yC (.inl (yO c1))]at key
   rw[←key]at hq
   exact hR _ _ (hq _ g)
  have c1:¬m<1:=z8 (Af.mpr c1)
  refine⟨_,rfl,b,_,0,_,rfl,rfl,SqT.of AZ,rfl,_,rfl,_,_,rfl,rfl,_,rfl,W7 (fun c2=>W3 ?_) (fun c2=>?_)⟩
  ·rw[yC (.inr (.inl (yO c2)))]at key
   rw[←key]at hq
   exact hR _ _ (hq _ g)
  have c2:¬or≤k.1:=z8 (Af.mpr c2)
  refine⟨_,rfl,_,rfl,d,rfl,.inr ⟨_,.inl ed⟩,_,rfl,_,Yx ed AZ,_,_,rfl,Xi _ _,_,rfl,W7 (fun c3=>?_) (fun c3=>?_)⟩
  ·rw[yC (.inr (.inr (yO c3)))]at key
   rw[←key]at hq
   exact hR _ _ (hq _ g)
  have c3:¬cnt ps k<m:=z8 (Af.mpr c3)
  rw[yy fun h=>h.elim c1 fun h=>h.elim c2 c3]at key
  have l1:=mO ps k m
  refine⟨_,rfl,_,rfl,_,rfl,d,b,ps,k,m,rfl,ed,AZ,R6 (by omega),by omega,fun H3 g3 e3=>?_⟩
  exact hN _ _ ⟨_,_,_,rfl,mE n_d g g3,e3,by omega,key⟩
 ·rintro σ H' ⟨o8,o9,ps,rfl,g,ed,al,key⟩
  rw[pi,bl,List.drop_length]at key
  have key:eqB ps qs=dz or qs S AY:=key
  rw[←key]at hq
  refine⟨_,(Z7 (Ze (Sa (sT hr.units) (pv 7) (Xl (W1 rfl hr.units) rfl aY PyProof.Rows.boot_dict (Z1 (pv 5) Z0 (by rfl))) (Zk _)))),?_⟩
  refine⟨_,rfl,_,rfl,c,_,_,rfl,g _ _ A2,Pg (Paired.mapP pr fun _ _ f=>Y2 g f),by rw[Y0];omega,fun z nz=>?_⟩
  rw[Ud (wu nq)]
  have g4:=Z6 nz (.dT (ae qs))
  exact⟨d,z,ps,qs,rfl,rfl,g4 _ _ ed,Z5,hq _ (g.trans g4)⟩
theorem Xz{ps:Sps}{k:Int×Int}{n:Int}{p:(Int×Int)×Int}(h:p∈ao ps k n):p=(k,n)∨(p∈ps∧p.1≠k):=by
 unfold ao at h
 split at h
 ·obtain⟨q,hq,rfl⟩:=yD.mp h
  split
  ·rename_i e
   exact .inl (by rw[e])
  ·rename_i e
   exact .inr ⟨hq,e⟩
 ·rename_i na
  rcases yY.mp h with h | h
  ·exact .inr ⟨h,fun e=>na (Qa.mpr (yD.mpr ⟨p,h,e⟩))⟩
  ·exact .inl (yN.mp h)
theorem e_{ps:Sps}(nn:∀p∈ps,0≤p.2)(nd:(ps.map (·.1)).Nodup)(k:Int×Int):0≤cnt ps k:=by
 by_cases hk:k∈ps.map (·.1)
 ·obtain⟨p,hp,rfl⟩:=yD.mp hk
  rw[X1 nd hp]
  exact nn p hp
 ·rw[Y1 hk]
  exact y8 _
def mv(f:Int×Int→Int)(k:Int×Int)(m:Int):Int×Int→Int:=fun x=>if x=k then f k - m else if x=ad k then f x+m else f x
theorem nI(ps:Sps)(k:Int×Int)(m:Int)(x:Int×Int):cnt (bA ps k m) x=mv (cnt ps) k m x:=by
 unfold bA mv
 split
 ·rename_i z
  rw[Pq]
  by_cases e:x=k
  ·rw[yC e,yC e,z]
  ·rw[yy e,yy e,X0,yy e,X0]
   by_cases q:x=ad k
   ·rw[yC q,yC q,q]
   ·rw[yy q,yy q]
 ·rw[X0]
  by_cases e:x=k
  ·rw[yC e,yC e]
  ·rw[yy e,yy e,X0]
   by_cases q:x=ad k
   ·rw[yC q,yC q,q]
   ·rw[yy q,yy q]
def dJ(ls:Sps)(k:Int×Int)(m:Int):Sps:=ao (ao ls k (cnt ls k - m)) (ad k) (cnt (ao ls k (cnt ls k - m)) (ad k)+m)
theorem Ov(ls:Sps)(k:Int×Int)(m:Int)(x:Int×Int):cnt (dJ ls k m) x=mv (cnt ls) k m x:=by
 unfold dJ mv
 rw[X0,X0,X0,yy (Ne.symm (V0 k))]
 by_cases e:x=k
 ·rw[yC e,yy (by rw[e];exact V0 k),yC e]
 ·by_cases q:x=ad k
  ·rw[yC q,yy e,yC q,q]
  ·rw[yy q,yy e,yy e,yy q]
def mz(or:Int)(qs:Sps):Sps→Sps→Bool
 | ls,[]=>eqB qs (ls.filter fun p=>decide (0<p.2))
 | ls,(k,m)::r=>if m<1∨¬(0≤k.1∧k.1<or)∨cnt ls k<m then false else mz or qs (dJ ls k m) r
structure Tab(ls:Sps):Prop where
 nd:(ls.map (·.1)).Nodup
 nn:∀p∈ls,0≤p.2
 ht:∀p∈ls,0≤p.1.1
structure Pos(ps:Sps):Prop where
 nd:(ps.map (·.1)).Nodup
 pos:∀p∈ps,0<p.2
theorem iY{ls:Sps}{k:Int×Int}{m:Int}(t:Tab ls)(m1:1≤m)(k0:0≤k.1)(c:m≤cnt ls k):Tab (dJ ls k m):=by
 have a:=e_ t.nn t.nd
 unfold dJ
 rw[X0,yy (Ne.symm (V0 k))]
 refine⟨Ym (Ym t.nd),fun p hp=>?_,fun p hp=>?_⟩
 ·rcases Xz hp with rfl | ⟨hp,_⟩
  ·have:=a (ad k)
   show 0≤cnt ls (ad k)+m
   omega
  ·rcases Xz hp with rfl | ⟨hp,_⟩
   ·show 0≤cnt ls k - m
    omega
   ·exact t.nn p hp
 ·rcases Xz hp with rfl | ⟨hp,_⟩
  ·show 0≤k.1+1
   omega
  ·rcases Xz hp with rfl | ⟨hp,_⟩
   ·exact k0
   ·exact t.ht p hp
theorem h_{ps:Sps}{k:Int×Int}{m:Int}(t:Pos ps)(m1:1≤m)(c:m≤cnt ps k):Pos (bA ps k m):=by
 have a:=e_ (fun p hp=>AM (t.pos p hp)) t.nd
 have core:∀p∈ao (ao ps (ad k) (cnt ps (ad k)+m)) k (cnt ps k - m),p.1≠k→0<p.2:=fun p hp n=>by
  rcases Xz hp with rfl | ⟨hp,_⟩
  ·exact absurd rfl n
  ·rcases Xz hp with rfl | ⟨hp,_⟩
   ·have:=a (ad k)
    show 0<cnt ps (ad k)+m
    omega
   ·exact t.pos p hp
 unfold bA
 split
 ·refine⟨Uu (Ym (Ym t.nd)),fun p hp=>?_⟩
  obtain⟨h1,h2⟩:=zu.mp hp
  exact core p h1 (yO h2)
 ·rename_i z
  refine⟨Ym (Ym t.nd),fun p hp=>?_⟩
  by_cases e:p.1=k
  ·rcases Xz hp with rfl | ⟨_,n⟩
   ·show 0<cnt ps k - m
    omega
   ·exact absurd e n
  ·exact core p hp e
theorem Qk{α:Type}[DecidableEq α]:∀{l m:List α},l.Nodup→(∀a∈l,a∈m)→m.length≤l.length→∀a∈m,a∈l
 | [],m,_,_,h,a,ha=>by
  rw[Aj]at h
  rw[List.length_eq_zero_iff.mp (Nat.le_zero.mp h)]at ha
  exact ha
 | x::l,m,nd,s,h,a,ha=>by
  rw[zl]at nd
  have hx:=s x (.head _)
  have le:=List.length_erase_of_mem hx
  have lp:=List.length_pos_of_mem hx
  rw[zd]at h
  by_cases e:a=x
  ·rw[e]
   exact .head _
  ·refine .tail _ (Qk (m:=m.erase x) nd.2 (fun y hy=>?_) (by omega) a ((List.mem_erase_of_ne e).mpr ha))
   exact(List.mem_erase_of_ne fun(z:y=x)=>nd.1 (by rw[←z];exact hy)).mpr (s y (.tail _ hy))
theorem Vh{ps qs:Sps}(np:ps.Nodup)(nq:qs.Nodup):eqB ps qs=true↔ps.Perm qs:=by
 unfold eqB
 rw[zI]
 refine⟨fun⟨h1,h2⟩=>?_,fun h=>⟨yG h.length_eq,zQ.mpr fun p hp=>yG (h.mem_iff.mp hp)⟩⟩
 have h1:=yO h1
 have s:∀a∈ps,a∈qs:=fun a ha=>yO (zQ.mp h2 a ha)
 exact Rt np nq fun a=>⟨s a,Qk np s (by omega) a⟩
theorem O5{ps ls:Sps}(t:Pos ps)(u:Tab ls)(e:∀k,cnt ps k=cnt ls k):ps.Perm (ls.filter fun p=>decide (0<p.2)):=by
 refine Rt (Uc t.nd) ((Uc u.nd).filter _) fun p=>⟨fun hp=>?_,fun hp=>?_⟩
 ·have h1:=X1 t.nd hp
  have h2:=t.pos p hp
  rw[e]at h1
  have hk:p.1∈ls.map (·.1):=R6 (by omega)
  obtain⟨q,hq,eq⟩:=yD.mp hk
  have h3:=X1 u.nd hq
  have:q=p:=z6 eq (by rw[←h3,←h1,eq])
  rw[←this]
  refine zu.mpr ⟨hq,yG ?_⟩
  rw[this]
  exact h2
 ·obtain⟨hq,h2⟩:=zu.mp hp
  have h2:=yO h2
  have h1:=X1 u.nd hq
  rw[←e]at h1
  have hk:p.1∈ps.map (·.1):=R6 (by omega)
  obtain⟨q,hq,eq⟩:=yD.mp hk
  have h3:=X1 t.nd hq
  have:q=p:=z6 eq (by rw[←h3,←h1,eq])
  rw[←this]
  exact hq
theorem je{or:Int}{qs:Sps}(nq:(qs.map (·.1)).Nodup):∀(r:Sps){ps ls:Sps},Pos ps→Tab ls→(∀k,cnt ps k=cnt ls k)→dz or qs ps r=mz or qs ls r
 | [],ps,ls,t,u,e=>by
  have w:=O5 t u e
  have n1:=Uc t.nd
  have n2:=Uc nq
  have n3:=(Uc u.nd).filter (fun p=>decide (0<p.2))
  show eqB ps qs=eqB qs _
  refine zZ.mpr ⟨fun h=>?_,fun h=>?_⟩
  ·exact(Vh n2 n3).mpr (((Vh n1 n2).mp h).symm.trans w)
  ·exact(Vh n1 n2).mpr (w.trans ((Vh n2 n3).mp h).symm)
 | (k,m)::r,ps,ls,t,u,e=>by
  show(if m<1∨or≤k.1∨cnt ps k<m then false else dz or qs (bA ps k m) r)=(if m<1∨¬(0≤k.1∧k.1<or)∨cnt ls k<m then false else mz or qs (dJ ls k m) r)
  have ek:=e k
  by_cases h1:m<1
  ·rw[yC (.inl h1),yC (.inl h1)]
  ·by_cases h2:cnt ps k<m
   ·rw[yC (.inr (.inr h2)),yC (.inr (.inr (by omega)))]
   ·have hk:k∈ls.map (·.1):=R6 (by omega)
    obtain⟨q,hq,eq⟩:=yD.mp hk
    have h0:=u.ht q hq
    rw[eq]at h0
    by_cases h3:or≤k.1
    ·rw[yC (.inr (.inl h3)),yC (.inr (.inl fun z=>by omega))]
    ·rw[yy fun h=>h.elim h1 fun h=>h.elim h3 h2,yy fun h=>h.elim h1 fun h=>h.elim (fun z=>z ⟨h0,by omega⟩) fun z=>by omega]
     refine je nq r (h_ t (by omega) (by omega)) (iY u (by omega) h0 (by omega)) fun x=>?_
     rw[nI,Ov]
     unfold mv
     rw[e k,e x]
theorem Rw:∀{ys xs:Sps}{k:Int×Int},k∈xs.map (·.1)∨k∈ys.map (·.1)→k∈(aG xs ys).map (·.1)
 | [],_,_,h=>h.elim id fun h=>nomatch h
 | p::ys,xs,k,h=>by
  rw[Vl]
  have kp:k∈xs.map (·.1)∨k=p.1→k∈(ao xs p.1 (cnt xs p.1+p.2)).map (·.1):=fun h=>by
   rw[Wg]
   split
   ·rename_i z
    rcases h with h | h
    ·exact h
    ·rw[h];exact z
   ·rcases h with h | h
    ·exact zw _ h
    ·rw[h];exact yP _ (.head _)
  rcases h with h | h
  ·exact Rw (.inl (kp (.inl h)))
  ·rw[yE]at h
   rcases yU.mp h with h | h
   ·exact Rw (.inl (kp (.inr h)))
   ·exact Rw (.inr h)
theorem eV:∀{ys xs:Sps},Pos xs→(∀p∈ys,0<p.2)→Pos (aG xs ys)
 | [],_,h,_=>h
 | p::ys,xs,h,g=>by
  refine eV (ys:=ys) ⟨Ym h.nd,fun q hq=>?_⟩ fun q hq=>g q (.tail _ hq)
  rcases Xz hq with rfl | ⟨hq,_⟩
  ·have:=e_ (fun p hp=>AM (h.pos p hp)) h.nd p.1
   have:=g p (.head _)
   show 0<cnt xs p.1+p.2
   omega
  ·exact h.pos q hq
theorem Ty{ts:List Th}(h:∀t∈ts,1≤t.many):Pos (aL ts):=by
 refine eV ⟨zV,fun _ h=>nomatch h⟩ fun p hp=>?_
 obtain⟨t,ht,rfl⟩:=yD.mp hp
 exact h t ht
theorem fI{ts:List Th}(h:∀t∈ts,1≤t.many):Tab (aL ts):=by
 have p:=Ty h
 refine⟨p.nd,fun q hq=>AM (p.pos q hq),fun q hq=>?_⟩
 obtain⟨n,e⟩:=g0 hq
 rw[e]
 exact y8 _
theorem lM(ts:List Th):ag (aL ts)=bg ts:=by
 unfold aL
 rw[Sn (xs:=[]) zV]
 unfold ag bg c7
 rw[zf]
 show(0:Int)+_=_
 rw[Int.zero_add]
 rfl
def rD(or total:Int)(ts:List Th)(qs AY:Sps):Bool:=(ts.all fun t=>decide (t.num<2 ^ or.toNat)) && (decide (ag (aL ts)=total) && mz or qs (aL ts) AY)
theorem lZ{or total:Int}{ts:List Th}{qs AY:Sps}(h:∀t∈ts,0≤t.num∧1≤t.many)(nq:(qs.map (·.1)).Nodup):ez or total ts qs AY=rD or total ts qs AY:=by
 have hm:=fun t ht=>(h t ht).2
 unfold ez rD
 rw[lM,je nq AY (Ty hm) (fI hm) fun _=>rfl]
 have al:((aL ts).all fun e=>inB or e.1)=ts.all fun t=>decide (t.num<2 ^ or.toNat):=by
  refine zZ.mpr ⟨fun z=>?_,fun z=>?_⟩
  ·refine zQ.mpr fun t ht=>yG ?_
   have hk:(0,t.num)∈(aL ts).map (·.1):=Rw (.inr (yD.mpr ⟨((0,t.num),t.many),yD.mpr ⟨t,ht,rfl⟩,rfl⟩))
   obtain⟨e,he,ee⟩:=yD.mp hk
   have:=zQ.mp z e he
   unfold inB at this
   rw[ee,zI]at this
   have:=yO this.2
   have:t.num≤2 ^ or.toNat - 1:=this
   omega
  ·refine zQ.mpr fun e he=>?_
   rcases T3 (yD.mpr ⟨e,he,rfl⟩)with q | q
   ·exact absurd q zE
   ·unfold c7 at q
    rw[zf]at q
    obtain⟨t,ht,ee⟩:=yD.mp q
    have:=yO (zQ.mp z t ht)
    have t0:=(h t ht).1
    unfold inB
    rw[←ee,zI]
    exact⟨yG t0,yG (show t.num≤2 ^ or.toNat - 1 by omega)⟩
 rw[al]
 cases decide (bg ts=total) <;> cases (ts.all fun t=>decide (t.num<2 ^ or.toNat)) <;> rfl
inductive Run(or:Int):(Int×Int→Int)→Sps→(Int×Int→Int)→Prop
 | nil (f:Int×Int→Int):Run or f [] f
 | cons {f g:Int×Int→Int} {k:Int×Int} {m:Int} {r:Sps}:1≤m→0≤k.1→k.1<or→m≤f k→Run or (mv f k m) r g→Run or f ((k,m)::r) g
theorem Run.app{or:Int}{f g h:Int×Int→Int}{r s:Sps}(a:Run or f r g)(b:Run or g s h):Run or f (r++s) h:=by
 induction a with
 | nil _=>exact b
 | cons h1 h2 h3 h4 _ ih=>exact .cons h1 h2 h3 h4 (ih b)
theorem Run.chk{or:Int}{qs:Sps}{f g:Int×Int→Int}{r:Sps}(a:Run or f r g)(pq:Pos qs)(eq:∀k,cnt qs k=g k):∀{ls:Sps},Tab ls→(∀k,cnt ls k=f k)→mz or qs ls r=true:=by
 induction a with
 | nil f=>
  intro ls t e
  exact(Vh (Uc pq.nd) ((Uc t.nd).filter _)).mpr (O5 pq t fun k=>by rw[eq,e])
 | @cons f g k m r h1 h2 h3 h4 _ ih=>
  intro ls t e
  have ek:=e k
  show(if m<1∨¬(0≤k.1∧k.1<or)∨cnt ls k<m then false else mz or qs (dJ ls k m) r)=true
  rw[yy fun z=>z.elim (fun z=>by omega) fun z=>z.elim (fun z=>z ⟨h2,h3⟩) fun z=>by omega]
  refine ih eq (iY t h1 h2 (by omega)) fun x=>?_
  rw[Ov]
  unfold mv
  rw[e k,e x]
def exc(qs st:Sps):Sps:=(st.map fun p=>(p.1,p.2 - cnt qs p.1)).filter fun p=>decide (0<p.2)
def upS(fs:Sps):Sps:=aG [] (fs.map fun p=>(ad p.1,p.2))
def stn(qs st:Sps):Nat→Sps
 | 0=>st
 | n+1=>upS (exc qs (stn qs st n))
def cR(qs st:Sps):Nat→Sps
 | 0=>[]
 | n+1=>cR qs st n++exc qs (stn qs st n)
theorem eZ(qs st:Sps):(exc qs st).length≤st.length:=by
 unfold exc
 refine zG (zX _ _) ?_
 rw[pi]
 exact yF _
theorem rQ(fs:Sps):(upS fs).length≤fs.length:=by
 have:=T4 (fs.map fun p=>(ad p.1,p.2)) []
 rw[Aj,AK,pi]at this
 exact this
theorem kC(qs st:Sps)(n:Nat):(stn qs st n).length≤st.length:=by
 induction n with
 | zero=>exact yF _
 | succ n ih=>exact zG (rQ _) (zG (eZ _ _) ih)
theorem g_(qs st:Sps)(n:Nat):(cR qs st n).length≤n * st.length:=by
 induction n with
 | zero=>exact AQ _
 | succ n ih=>
  show(cR qs st n++exc qs (stn qs st n)).length≤_
  have a:=eZ qs (stn qs st n)
  have b:=kC qs st n
  rw[yJ,Nat.succ_mul]
  omega
theorem Vz{qs st:Sps}{p:(Int×Int)×Int}(h:p∈exc qs st):0<p.2∧∃q∈st,q.1=p.1∧p.2=q.2 - cnt qs q.1:=by
 obtain⟨h1,h2⟩:=zu.mp h
 obtain⟨q,hq,e⟩:=yD.mp h1
 exact⟨yO h2,q,hq,by rw[←e],by rw[←e]⟩
theorem oi{qs st:Sps}(nd:(st.map (·.1)).Nodup):((exc qs st).map (·.1)).Nodup:=by
 refine List.Sublist.nodup (List.Sublist.map _ List.filter_sublist) ?_
 rw[zf]
 exact nd
theorem rJ{qs st:Sps}(nd:(st.map (·.1)).Nodup){p:(Int×Int)×Int}(hp:p∈st)(h:cnt qs p.1≤p.2):cnt (exc qs st) p.1=p.2 - cnt qs p.1:=by
 by_cases c:0<p.2 - cnt qs p.1
 ·exact X1 (p:=(p.1,p.2 - cnt qs p.1)) (oi nd) (zu.mpr ⟨yD.mpr ⟨p,hp,rfl⟩,yG c⟩)
 ·rw[Y1 fun z=>?_]
  ·omega
  ·obtain⟨q,hq,e⟩:=yD.mp z
   obtain⟨h1,r,hr,e1,e2⟩:=Vz hq
   have er:r.1=p.1:=e1.trans e
   have:r=p:=by
    have a:=X1 nd hr
    have b:=X1 nd hp
    exact z6 er (by rw[←a,←b,er])
   rw[this]at e2
   omega
theorem swS{g:Int×Int→Int}{ks:List (Int×Int)}:∀{A:Sps},(A.map (·.1)).Nodup→ks.Nodup→(∀p∈A,p.1∈ks)→(ks.map fun k=>cnt A k * g k).sum=wS g A:=by
 induction ks with
 | nil=>
  intro A _ _ h
  cases A with
  | nil=>rfl
  | cons p A=>exact absurd (h p (.head _)) zE
 | cons k ks ih=>
  intro A nd nk h
  rw[zl]at nk
  have q:=ih (A:=aR A k) (Uu nd) nk.2 fun p hp=>by
   obtain⟨h1,h2⟩:=zu.mp hp
   rcases yU.mp (h p h1)with z | z
   ·exact absurd z (yO h2)
   ·exact z
  have e:(ks.map fun j=>cnt (aR A k) j * g j)=ks.map fun j=>cnt A j * g j:=zT fun j hj=>by
   rw[Pq,yy fun z:j=k=>nk.1 (by rw[←z];exact hj)]
  rw[e,Tu nd]at q
  rw[yE,yZ]
  omega
theorem jr{A:Sps}(nd:(A.map (·.1)).Nodup)(k:Int×Int):wS (fun x=>if x=k then 1 else 0) A=cnt A k:=by
 by_cases h:k∈A.map (·.1)
 ·have q:=swS (g:=fun x=>if x=k then 1 else 0) (ks:=A.map (·.1)) nd nd fun p hp=>yD.mpr ⟨p,hp,rfl⟩
  rw[←q]
  have main:∀(ks:List (Int×Int)),ks.Nodup→k∈ks→(ks.map fun j=>cnt A j * (if j=k then 1 else 0)).sum=cnt A k:=by
   intro ks
   induction ks with
   | nil=>exact fun _ h=>nomatch h
   | cons j ks ih=>
    intro nk hk
    rw[zl]at nk
    rw[yE,yZ]
    by_cases c:j=k
    ·have z:(ks.map fun j=>cnt A j * (if j=k then(1:Int)else 0)).sum=0:=by
      have e:(ks.map fun j=>cnt A j * (if j=k then(1:Int)else 0))=ks.map fun _=>(0:Int):=zT fun i hi=>by
       rw[yy fun z:i=k=>nk.1 (by rw[c,←z];exact hi),Int.mul_zero]
      rw[e]
      exact kz _
     rw[z,yC c,AB,c,Int.add_zero]
    ·rcases yU.mp hk with e | e
     ·exact absurd e.symm c
     ·rw[ih nk.2 e,yy c,Int.mul_zero,Int.zero_add]
  exact main _ nd h
 ·rw[Y1 h]
  refine Na fun p hp=>.inr (yy fun z=>h (by rw[←z];exact yD.mpr ⟨p,hp,rfl⟩))
theorem pj(ys:Sps)(k:Int×Int):cnt (aG [] ys) k=wS (fun x=>if x=k then 1 else 0) ys:=by
 rw[←jr (i_ (xs:=[]) zV),Nc (xs:=[]) zV]
 exact Int.zero_add _
def pin(l:Sps)(x:Int×Int):Int:=wS (fun k=>if ad k=x then 1 else 0) l
theorem rL(l:Sps)(x:Int×Int):cnt (upS l) x=pin l x:=by
 unfold upS pin
 rw[pj]
 unfold wS
 rw[zf]
 rfl
theorem pD(g:Int×Int→Int)(l:Sps):wS g (upS l)=wS (fun k=>g (ad k)) l:=by
 unfold upS
 rw[Nc (xs:=[]) zV]
 show 0+_=_
 rw[Int.zero_add]
 unfold wS
 rw[zf]
 rfl
theorem tm{or i:Int}(i0:0≤i)(i1:i<or):∀(l:Sps)(f:Int×Int→Int),(l.map (·.1)).Nodup→(∀p∈l,p.1.1=i∧1≤p.2∧p.2≤f p.1)→Run or f l fun x=>f x - cnt l x+pin l x:=by
 intro l
 induction l with
 | nil=>
  intro f _ _
  have e:(fun x=>f x - cnt [] x+pin [] x)=f:=funext fun x=>by
   show f x - 0+0=f x
   omega
  rw[e]
  exact .nil f
 | cons p l ih=>
  intro f nd h
  obtain⟨p1,p2,p3⟩:=h p (.head _)
  rw[yE,zl]at nd
  have q:=ih (mv f p.1 p.2) nd.2 fun r hr=>by
   obtain⟨a,b,c⟩:=h r (.tail _ hr)
   refine⟨a,b,?_⟩
   unfold mv
   rw[yy fun z=>nd.1 (by rw[←z];exact yD.mpr ⟨r,hr,rfl⟩),yy fun z=>?_]
   ·exact c
   ·have:r.1.1=p.1.1+1:=Ad (·.1) z
    omega
  have e:(fun x=>f x - cnt (p::l) x+pin (p::l) x)=fun x=>mv f p.1 p.2 x - cnt l x+pin l x:=funext fun x=>by
   unfold pin
   rw[X9]
   have cc:cnt (p::l) x=if x=p.1 then p.2 else cnt l x:=by
    by_cases z:x=p.1
    ·rw[yC z,z]
     exact X1 (by rw[yE,zl];exact nd) (.head _)
    ·rw[yy z]
     unfold cnt au ae
     rw[yE,Yb (p:=(kk p.1,V.int p.2)) fun y=>z (V1 y).symm]
   rw[cc]
   unfold mv
   by_cases z:x=p.1
   ·rw[yC z,yC z,yy (by rw[z];exact fun y=>V0 p.1 y.symm),Int.mul_zero,z,Y1 nd.1]
    omega
   ·rw[yy z,yy z]
    by_cases y:x=ad p.1
    ·rw[yC y,yC y.symm,AB]
     omega
    ·rw[yy y,yy fun w=>y w.symm,Int.mul_zero]
     omega
  have e2:p::l=(p.1,p.2)::l:=rfl
  rw[e,e2]
  exact .cons p2 (by rw[p1];exact i0) (by rw[p1];exact i1) p3 q
def cn(qs:Sps)(i:Int):Sps:=qs.filter fun p=>decide (i≤p.1.1)
def atH(qs:Sps)(i:Int):Sps:=qs.filter fun p=>decide (p.1.1=i)
theorem Pj(g:Int×Int→Int)(qs:Sps)(i:Int):wS g (cn qs i)=wS g (atH qs i)+wS g (cn qs (i+1)):=by
 induction qs with
 | nil=>rfl
 | cons p qs ih=>
  unfold cn atH at ih⊢
  rw[zD,zD,zD]
  rcases Int.lt_trichotomy p.1.1 i with c | c | c
  ·rw[if_neg (by simpa using c),if_neg (by simpa using (by omega:¬p.1.1=i)),if_neg (by simpa using (by omega:p.1.1<i+1))]
   exact ih
  ·rw[if_pos (decide_eq_true (by omega)),if_pos (decide_eq_true c),if_neg (by simpa using (by omega:p.1.1<i+1)),X9,X9,ih]
   omega
  ·rw[if_pos (decide_eq_true (by omega)),if_neg (by simpa using (by omega:¬p.1.1=i)),if_pos (decide_eq_true (by omega)),X9,X9,ih]
   omega
theorem f7{qs:Sps}{P:(Int×Int)×Int→Bool}(nd:(qs.map (·.1)).Nodup):((qs.filter P).map (·.1)).Nodup:=List.Sublist.nodup (List.Sublist.map _ List.filter_sublist) nd
theorem gq{qs:Sps}{P:(Int×Int)×Int→Bool}(nd:(qs.map (·.1)).Nodup){k:Int×Int}(h:∀p∈qs,p.1=k→P p=true):cnt (qs.filter P) k=cnt qs k:=by
 by_cases c:k∈qs.map (·.1)
 ·obtain⟨p,hp,e⟩:=yD.mp c
  rw[←e,X1 nd hp,X1 (f7 nd) (zu.mpr ⟨hp,h p hp e⟩)]
 ·rw[Y1 c,Y1 fun z=>?_]
  obtain⟨p,hp,e⟩:=yD.mp z
  exact c (by rw[←e];exact yD.mpr ⟨p,(zu.mp hp).1,rfl⟩)
structure Stq(or i:Int)(qs st:Sps):Prop where
 nd:(st.map (·.1)).Nodup
 pos:∀p∈st,0<p.2
 at_:∀p∈st,p.1.1=i∧0≤p.1.2∧p.1.2<2 ^ (or - i).toNat
 can:Can (cn qs i) st
theorem uN{s k:Int×Int}(h0:0≤s.1)(e:k.1=s.1)(w:wit s k):k=s:=by
 refine z6 e ?_
 obtain⟨a,b⟩:=w
 unfold aq at a
 unfold am at b
 rw[e]at a b
 have p:=Yg s.1.toNat
 have l1:s.2≤k.2:=Int.le_of_mul_le_mul_right a p
 have l2:k.2+1≤s.2+1:=Int.le_of_mul_le_mul_right (by omega) p
 omega
theorem Nm{or i:Int}{qs st:Sps}(i0:0≤i)(o:Pok or qs)(S:Stq or i qs st){k:Int×Int}(hk:k.1=i):cnt qs k≤cnt st k:=by
 have c:=S.can.each k (by omega)
 have e1:wS (gin k) st=cnt st k:=by
  rw[←jr S.nd k]
  unfold wS
  refine Ad List.sum (zT fun p hp=>?_)
  congr 1
  show gin k p.1=if p.1=k then 1 else 0
  by_cases z:p.1=k
  ·rw[yC z,z]
   exact Q4 ⟨y8 _,y8 _⟩
  ·rw[yy z]
   exact Q5 fun w=>z (uN (by omega) (by rw[(S.at_ p hp).1,hk]) w)
 have e2:cnt qs k≤wS (gin k) (cn qs i):=by
  rw[←gq (P:=fun p=>decide (i≤p.1.1)) o.kok.nd (k:=k) fun p _ e=>yG (by rw[e,hk];exact y8 _),←jr (f7 o.kok.nd) k]
  have main:∀l:Sps,(∀p∈l,0≤p.2)→wS (fun x=>if x=k then 1 else 0) l≤wS (gin k) l:=by
   intro l
   induction l with
   | nil=>exact fun _=>y8 _
   | cons p l ih=>
    intro h
    rw[X9,X9]
    have a:=ih fun q hq=>h q (.tail _ hq)
    have b:p.2 * (if p.1=k then 1 else 0)≤p.2 * gin k p.1:=Int.mul_le_mul_of_nonneg_left (by
     by_cases z:p.1=k
     ·rw[yC z,z]
      exact Int.le_of_eq (Q4 ⟨y8 _,y8 _⟩).symm
     ·rw[yy z]
      exact pU) (h p (.head _))
    omega
  exact main _ fun p hp=>by have:=o.pos p (zu.mp hp).1;omega
 omega
theorem sO{s k:Int×Int}(h0:0≤k.1)(lt:k.1<s.1)(k2:0≤k.2):gin s (ad k)=gin s k:=by
 have up:=Ph (h:=k.1) (j:=k.2 / 2) h0
 have dn:=R5 (h:=k.1) (j:=k.2 / 2) h0
 have ep:ad k=upK k.1 (k.2 / 2):=rfl
 have le:aq (ad k)≤aq k∧am k≤am (ad k):=by
  rw[ep]
  rcases Q6 k with e | e
  ·rw[←e]at up dn
   exact⟨up.1,dn.1⟩
  ·rw[←e]at up dn
   exact⟨up.2,dn.2⟩
 by_cases w:wit s k
 ·have f:=n8 (k:=k)
  have m:wit s (ad k):=pM (n:=aq k) (by show 0≤k.1+1;omega) (by show k.1+1≤s.1;omega) le.1 (Aa f le.2) w.1 (Aa f w.2)
  exact(Q4 m).trans (Q4 w).symm
 ·have m:¬wit s (ad k):=fun z=>w ⟨Aa z.1 le.1,Aa le.2 z.2⟩
  exact(Q5 m).trans (Q5 w).symm
theorem n6{qs st:Sps}(g:Int×Int→Int)(h:∀p∈st,cnt qs p.1≤p.2):wS g (exc qs st)=wS g st - (st.map fun p=>cnt qs p.1 * g p.1).sum:=by
 induction st with
 | nil=>rfl
 | cons p st ih=>
  have q:=ih fun x hx=>h x (.tail _ hx)
  have l:=h p (.head _)
  unfold exc at q⊢
  rw[yE,zD,X9,yE,yZ]
  by_cases c:0<p.2 - cnt qs p.1
  ·rw[yC (yG c),X9,q]
   show(p.2 - cnt qs p.1) * g p.1+_=_
   rw[Int.sub_mul]
   omega
  ·rw[if_neg (by simpa using (by omega:p.2≤cnt qs p.1)),q]
   have e:p.2=cnt qs p.1:=by omega
   rw[e]
   omega
theorem oq{or i:Int}{qs st:Sps}(i0:0≤i)(i1:i<or)(o:Pok or qs)(S:Stq or i qs st):Stq or (i+1) qs (upS (exc qs st)):=by
 have le:∀p∈st,cnt qs p.1≤p.2:=fun p hp=>by
  have:=Nm i0 o S (S.at_ p hp).1
  rw[X1 S.nd hp]at this
  exact this
 have key:∀g:Int×Int→Int,(st.map fun p=>cnt qs p.1 * g p.1).sum=wS g (atH qs i):=fun g=>by
  have q:=swS (g:=g) (A:=atH qs i) (ks:=st.map (·.1)) (f7 o.kok.nd) S.nd fun p hp=>by
   obtain⟨h1,h2⟩:=zu.mp hp
   have hh:=yO h2
   have a:=Nm i0 o S hh
   have b:=X1 o.kok.nd h1
   have c:=o.pos p h1
   exact R6 (by omega)
  rw[←q,zf]
  refine Ad List.sum (zT fun p hp=>?_)
  show cnt qs p.1 * g p.1=cnt (atH qs i) p.1 * g p.1
  unfold atH
  rw[gq o.kok.nd fun r _ e=>yG (by rw[e];exact(S.at_ p hp).1)]
 have exP:∀p∈exc qs st,p.1.1=i∧0≤p.1.2∧p.1.2<2 ^ (or - i).toNat:=fun p hp=>by
  obtain⟨_,q,hq,e,_⟩:=Vz hp
  rw[←e]
  exact S.at_ q hq
 have upos:∀p∈upS (exc qs st),0<p.2:=(eV (xs:=[]) ⟨zV,fun _ h=>nomatch h⟩ fun p hp=>by
  obtain⟨q,hq,rfl⟩:=yD.mp hp
  exact(Vz hq).1).pos
 refine⟨i_ (xs:=[]) zV,upos,fun p hp=>?_,⟨fun s s0=>?_,?_⟩⟩
 ·have h:=T3 (xs:=[]) (yD.mpr ⟨p,hp,rfl⟩)
  rcases h with h | h
  ·exact absurd h zE
  ·rw[zf]at h
   obtain⟨q,hq,e⟩:=yD.mp h
   obtain⟨a,b,c⟩:=exP q hq
   have e1:p.1=(q.1.1+1,q.1.2 / 2):=e.symm
   rw[e1]
   refine⟨by show q.1.1+1=i+1;omega,by show 0≤q.1.2 / 2;omega,?_⟩
   show q.1.2 / 2<2 ^ (or - (i+1)).toNat
   have pw:(2:Int) ^ (or - i).toNat=2 ^ (or - (i+1)).toNat * 2:=by
    rw[←Int.pow_succ]
    congr 1
    omega
   omega
 ·rcases Int.lt_or_le i s.1 with c | c
  ·rw[pD]
   have e:wS (fun k=>gin s (ad k)) (exc qs st)=wS (gin s) (exc qs st):=by
    unfold wS
    refine Ad List.sum (zT fun p hp=>?_)
    obtain⟨a,b,_⟩:=exP p hp
    show p.2 * gin s (ad p.1)=_
    rw[sO (by omega) (by omega) b]
   rw[e,n6 _ le,key]
   have:=S.can.each s s0
   rw[Pj]at this
   omega
  ·have z:wS (gin s) (cn qs (i+1))=0:=Na fun p hp=>.inr (Q5 fun w=>by
    obtain⟨h1,h2⟩:=zu.mp hp
    have:=yO h2
    have:=x_ s0 (by omega) w
    omega)
   rw[z]
   exact yp (fun _=>pU) fun p hp=>AM (upos p hp)
 ·have a:=S.can.all
  have b:=n6 (fun _=>1) le
  have c:=pD (fun _=>1) (exc qs st)
  have d:=Pj (fun _=>1) qs i
  have kk:(st.map fun p=>cnt qs p.1 * 1).sum=wS (fun _=>1) (atH qs i):=key fun _=>1
  rw[kk]at b
  rw[←Uo,←Uo]at a⊢
  rw[c]
  show wS (fun _=>1) (cn qs (i+1))=wS (fun _=>1) (exc qs st)
  omega
theorem sq{or:Int}{qs st:Sps}(o:Pok or qs)(S:Stq or 0 qs st):∀n:Nat,(n:Int)≤or→Stq or n qs (stn qs st n)∧Run or (cnt st) (cR qs st n) fun k=>if k.1<n then cnt qs k else cnt (stn qs st n) k:=by
 intro n
 induction n with
 | zero=>
  intro _
  refine⟨S,?_⟩
  have e:(fun k:Int×Int=>if k.1<((0:Nat):Int)then cnt qs k else cnt (stn qs st 0) k)=cnt st:=funext fun k=>by
   split
   ·rename_i h
    have h:k.1<0:=h
    rw[Y1 fun z=>?_,Y1 fun z=>?_]
    ·obtain⟨p,hp,e⟩:=yD.mp z
     have:=(S.at_ p hp).1
     rw[e]at this
     omega
    ·have:=(o.kok.st k z).1
     omega
   ·rfl
  rw[e]
  exact .nil _
 | succ n ih=>
  intro h
  obtain⟨S',R⟩:=ih (by omega)
  have i0:(0:Int)≤n:=by omega
  have i1:(n:Int)<or:=by omega
  refine⟨oq i0 i1 o S',?_⟩
  have le:∀p∈stn qs st n,cnt qs p.1≤p.2:=fun p hp=>by
   have:=Nm i0 o S' (S'.at_ p hp).1
   rw[X1 S'.nd hp]at this
   exact this
  show Run or (cnt st) (cR qs st n++exc qs (stn qs st n)) _
  refine R.app ?_
  have q:=tm i0 i1 (exc qs (stn qs st n)) (fun k=>if k.1<(n:Int)then cnt qs k else cnt (stn qs st n) k) (oi S'.nd) fun p hp=>by
   obtain⟨a,r,hr,e1,e2⟩:=Vz hp
   have ra:=(S'.at_ r hr).1
   rw[e1]at ra
   refine⟨ra,by omega,?_⟩
   rw[yy (by omega)]
   have c1:=X1 S'.nd hr
   rw[e1]at c1 e2
   have:=le r hr
   rw[e1]at this
   have c0:0≤cnt qs p.1:=Ux o p.1
   omega
  have e:(fun k:Int×Int=>if k.1<((n+1:Nat):Int)then cnt qs k else cnt (stn qs st (n+1)) k)=fun x=>(if x.1<(n:Int)then cnt qs x else cnt (stn qs st n) x) - cnt (exc qs (stn qs st n)) x+pin (exc qs (stn qs st n)) x:=funext fun x=>by
   have ex0:x.1≠n→cnt (exc qs (stn qs st n)) x=0:=fun z=>Y1 fun y=>by
    obtain⟨p,hp,e⟩:=yD.mp y
    obtain⟨_,r,hr,e1,_⟩:=Vz hp
    have:=(S'.at_ r hr).1
    rw[e1,e]at this
    exact z this
   have pn0:x.1≠n+1→pin (exc qs (stn qs st n)) x=0:=fun z=>Na fun p hp=>.inr (yy fun y=>by
    obtain⟨_,r,hr,e1,_⟩:=Vz hp
    have a:=(S'.at_ r hr).1
    rw[e1]at a
    have b:p.1.1+1=x.1:=Ad (·.1) y
    omega)
   rcases Int.lt_trichotomy x.1 n with c | c | c
   ·rw[yC (by omega),yC c,ex0 (by omega),pn0 (by omega)]
    omega
   ·rw[yC (by omega),yy (by omega),pn0 (by omega)]
    by_cases m:x∈(stn qs st n).map (·.1)
    ·obtain⟨p,hp,e⟩:=yD.mp m
     rw[←e,rJ S'.nd hp (le p hp),X1 S'.nd hp]
     omega
    ·have a:=Nm i0 o S' c
     have b:=Ux o x
     rw[Y1 m]at a⊢
     rw[Y1 (ps:=exc qs (stn qs st n)) fun y=>m ?_]
     ·omega
     ·obtain⟨p,hp,e⟩:=yD.mp y
      obtain⟨_,r,hr,e1,_⟩:=Vz hp
      rw[←e,←e1]
      exact yD.mpr ⟨r,hr,rfl⟩
   ·have s0:cnt (stn qs st n) x=0:=Y1 fun y=>by
     obtain⟨p,hp,e⟩:=yD.mp y
     have:=(S'.at_ p hp).1
     rw[e]at this
     omega
    rw[yy (by omega),yy (by omega),s0,ex0 (by omega)]
    show cnt (upS (exc qs (stn qs st n))) x=_
    rw[rL]
    omega
  rw[e]
  exact q
theorem rH{or:Int}{qs st:Sps}(d0:0≤or)(o:Pok or qs)(S:Stq or 0 qs st):Run or (cnt st) (cR qs st or.toNat) (cnt qs):=by
 obtain⟨S',R⟩:=sq o S or.toNat (by omega)
 have en:((or.toNat:Nat):Int)=or:=by omega
 rw[en]at S' R
 have e:(fun k:Int×Int=>if k.1<or then cnt qs k else cnt (stn qs st or.toNat) k)=cnt qs:=funext fun k=>by
  split
  ·rfl
  ·rename_i c
   have e2:(2:Int) ^ (or - or).toNat=1:=by rw[Int.sub_self];rfl
   have k1:∀p∈stn qs st or.toNat,p.1=(or,0):=fun p hp=>by
    obtain⟨a,b,d⟩:=S'.at_ p hp
    exact z6 a (by rw[e2]at d;show p.1.2=0;omega)
   have k2:∀p∈cn qs or,p.1=(or,0):=fun p hp=>by
    obtain⟨h1,h2⟩:=zu.mp hp
    have h2:=yO h2
    obtain⟨a,b,x,y⟩:=o.kok.st p.1 (yD.mpr ⟨p,h1,rfl⟩)
    have e3:p.1.1=or:=by omega
    rw[e3,e2]at y
    exact z6 e3 (by show p.1.2=0;omega)
   by_cases z:k=(or,0)
   ·have a:=swS (g:=fun _=>1) (ks:=[(or,0)]) S'.nd (zl.mpr ⟨zE,zV⟩) fun p hp=>by rw[k1 p hp];exact .head _
    have b:=swS (g:=fun _=>1) (ks:=[(or,0)]) (A:=cn qs or) (f7 o.kok.nd) (zl.mpr ⟨zE,zV⟩) fun p hp=>by rw[k2 p hp];exact .head _
    have t:=S'.can.all
    rw[Uo]at a b
    rw[yE,List.map_nil,yZ,List.sum_nil,AB]at a b
    have f:=gq (P:=fun p=>decide (or≤p.1.1)) o.kok.nd (k:=(or,0)) fun p _ e=>yG (by rw[e];exact y8 _)
    rw[z]
    unfold cn at b t
    omega
   ·rw[Y1 fun y=>?_,Y1 fun y=>?_]
    ·obtain⟨p,hp,e⟩:=yD.mp y
     have h1:or≤k.1:=by omega
     exact z (by rw[←e];exact k2 p (zu.mpr ⟨hp,yG (by rw[e];exact h1)⟩))
    ·obtain⟨p,hp,e⟩:=yD.mp y
     exact z (by rw[←e];exact k1 p hp)
 rw[e]at R
 exact R
theorem oP{g:Int×Int→Int}{ps:Sps}{k:Int×Int}{m:Int}(nd:(ps.map (·.1)).Nodup):wS g (bA ps k m)=wS g ps+m * (g (ad k) - g k):=by
 have n1:=Ym (k:=ad k) (n:=cnt ps (ad k)+m) nd
 have n2:=Ym (k:=k) (n:=cnt ps k - m) n1
 have a:=Qd (g:=g) (k:=ad k) (n:=cnt ps (ad k)+m) nd
 have b:=Qd (g:=g) (k:=k) (n:=cnt ps k - m) n1
 have c:cnt (ao ps (ad k) (cnt ps (ad k)+m)) k=cnt ps k:=by rw[X0,yy (V0 k)]
 rw[c,a]at b
 have w:wS g (ao (ao ps (ad k) (cnt ps (ad k)+m)) k (cnt ps k - m))=wS g ps+m * (g (ad k) - g k):=by
  rw[b,AN,Int.sub_mul,Int.mul_sub]
  omega
 unfold bA
 split
 ·rename_i z
  rw[Tu n2,X0,yC rfl,w,z,Int.zero_mul,Int.sub_zero]
 ·exact w
theorem sL{or:Int}{qs:Sps}(nq:(qs.map (·.1)).Nodup):∀(r:Sps){ps:Sps},Pos ps→(∀p∈ps,0≤p.1.1∧0≤p.1.2)→dz or qs ps r=true→∀g,dB g→wS g qs≤wS g ps:=by
 intro r
 induction r with
 | nil=>
  intro ps t _ h g G
  have p:=(Vh (Uc t.nd) (Uc nq)).mp h
  rw[Rn p]
  exact y8 _
 | cons p r ih=>
  intro ps t hn h g G
  obtain⟨k,m⟩:=p
  have h:(if m<1∨or≤k.1∨cnt ps k<m then false else dz or qs (bA ps k m) r)=true:=h
  by_cases c:m<1∨or≤k.1∨cnt ps k<m
  ·rw[yC c]at h
   cases h
  ·rw[yy c]at h
   have m1:1≤m:=by omega
   have mc:m≤cnt ps k:=by omega
   have hk:k∈ps.map (·.1):=R6 (by omega)
   obtain⟨q,hq,e⟩:=yD.mp hk
   obtain⟨a,b⟩:=hn q hq
   rw[e]at a b
   have st:=ih (h_ t m1 mc) (fun p hp=>by
    have kk:∀x∈(bA ps k m).map (·.1),x∈ps.map (·.1)∨x=ad k:=fun x hx=>by
     have hx:x∈(ao (ao ps (ad k) (cnt ps (ad k)+m)) k (cnt ps k - m)).map (·.1):=by
      unfold bA at hx
      split at hx
      ·obtain⟨y,hy,e⟩:=yD.mp hx
       exact yD.mpr ⟨y,(zu.mp hy).1,e⟩
      ·exact hx
     obtain⟨y,hy,e⟩:=yD.mp hx
     rcases Xz hy with z | ⟨z,_⟩
     ·rw[←e,z]
      exact .inl hk
     ·rcases Xz z with y2 | ⟨y2,_⟩
      ·rw[←e,y2]
       exact .inr rfl
      ·rw[←e]
       exact .inl (yD.mpr ⟨y,y2,rfl⟩)
    rcases kk p.1 (yD.mpr ⟨p,hp,rfl⟩)with z | z
    ·obtain⟨y,hy,e⟩:=yD.mp z
     rw[←e]
     exact hn y hy
    ·rw[z]
     exact⟨by show 0≤k.1+1;omega,by show 0≤k.2 / 2;omega⟩) h g G
   rw[oP t.nd]at st
   have fl:g (ad k)≤g k:=by
    have z:=G k.1 (k.2 / 2) a (by omega)
    rcases Q6 k with e | e
    ·rw[←e]at z
     exact z.1
    ·rw[←e]at z
     exact z.2
   have:m * (g (ad k) - g k)≤0:=by
    have:=Int.mul_nonneg (show 0≤m by omega) (show 0≤g k - g (ad k) by omega)
    rw[Int.mul_sub]at this⊢
    omega
   omega
theorem tR{or total:Int}{ts:List Th}{qs AY:Sps}(nq:(qs.map (·.1)).Nodup)(h:∀t∈ts,0≤t.num∧1≤t.many)(e:ez or total ts qs AY=true):Dom qs ts∧bg ts=total∧∀t∈ts,t.num<2 ^ or.toNat:=by
 have hm:=fun t ht=>(h t ht).2
 rw[lZ h nq]at e
 unfold rD at e
 rw[zI,zI]at e
 obtain⟨e1,e2,e3⟩:=e
 rw[←je nq AY (Ty hm) (fI hm) fun _=>rfl]at e3
 refine⟨fun g G=>?_,by rw[←lM];exact yO e2,fun t ht=>yO (zQ.mp e1 t ht)⟩
 have q:=sL nq AY (Ty hm) (fun p hp=>?_) e3 g G
 ·rw[←lQ]
  exact q
 ·rcases T3 (xs:=[]) (yD.mpr ⟨p,hp,rfl⟩)with z | z
  ·exact absurd z zE
  ·unfold c7 at z
   rw[zf]at z
   obtain⟨t,ht,e⟩:=yD.mp z
   rw[←e]
   exact⟨y8 _,(h t ht).1⟩
theorem vp{or:Int}{ts:List Th}{qs:Sps}(d0:0≤or)(o:Pok or qs)(h:∀t∈ts,0≤t.num∧1≤t.many):ez or (ag qs) ts qs (cR qs (aL ts) or.toNat)=true↔(∀t∈ts,t.num<2 ^ or.toNat)∧Can qs (iZ ts):=by
 have hm:=fun t ht=>(h t ht).2
 refine⟨fun e=>?_,fun⟨e1,C⟩=>?_⟩
 ·obtain⟨a,b,c⟩:=tR o.kok.nd h e
  exact⟨c,lP a⟩
 ·have pq:Pos qs:=⟨o.kok.nd,fun p hp=>by have:=o.pos p hp;omega⟩
  have sp:=Ty hm
  have S:Stq or 0 qs (aL ts):=by
   refine⟨sp.nd,sp.pos,fun p hp=>?_,?_⟩
   ·rcases T3 (xs:=[]) (yD.mpr ⟨p,hp,rfl⟩)with z | z
    ·exact absurd z zE
    ·unfold c7 at z
     rw[zf]at z
     obtain⟨t,ht,e⟩:=yD.mp z
     rw[←e]
     exact⟨rfl,(h t ht).1,by rw[Int.sub_zero];exact e1 t ht⟩
   ·have ef:cn qs 0=qs:=AA.mpr fun p hp=>yG (o.kok.st p.1 (yD.mpr ⟨p,hp,rfl⟩)).1
    rw[ef]
    exact C
  have R:=rH d0 o S
  rw[lZ h o.kok.nd]
  unfold rD
  rw[R.chk pq (fun _=>rfl) (fI hm) fun _=>rfl,zI,zI]
  exact⟨zQ.mpr fun t ht=>yG (e1 t ht),yG C.all.symm,rfl⟩
end K31
namespace L2
open PySem PySem.Spec PyProof.Rows
section
variable{prog:Program}{w:World}{A:Around}{E:Value→Shared→Prop}{s:Shared}{it d:Addr}{i ep:Nat}{es:Array DictEntry}{f0 f1 ok ov:Value}
theorem l_{n:Nat}{Q:Value→Shared→Prop}(hit:ItI s.heap it d i n ep f0 f1 ok ov)(h:Q (.ref it) s):wpAny (model prog w) A (pyIter (.ref it)) Q E s:=by
 have hT:s.TypeIs (.ref it) "dict_itemiterator":=⟨_,hit,rfl⟩
 refine wpAny_pyIter_slot hT PySem.F.slot_dict_itemiterator_iter (As PySem.F.slot_dict_itemiterator_iter hT W.kcp_entry ?_ (PySem.F.args_dict_itemiterator_iter_1 _))
 show wpAny _ _ (ret (.ref it)) _ _ s
 exact yB ⟨_,rfl,"dict_itemiterator",_,hT,PySem.F.slot_dict_itemiterator_next.lookup,h⟩
end
def yg(it d:Addr)(n ep:Nat)(i:Nat)(h:Heap):Prop:=∃f0 f1 ok ov,ItI h it d i n ep f0 f1 ok ov∧(f0=.none∨∃(a:Addr)(b:Bool),f0=rawInt a∧f1=.bool b)
section
variable{X:Cx}{AU:List (Addr×Obj)}{σ:St}{H:Hp}{s:Shared}
def vS(d:Addr)(kvs:List (List Key×V))(o:Obj):It:=⟨fun i H=>i<kvs.length∧H d=some (.frz o (.dT kvs)),fun i H x H'=>∃T p b,kvs[i]?=some p∧x=.ref T∧H b=some (.tup (p.1.map kV))∧H T=none∧H'=upd H T (.tup [.ref b,p.2]),fun i H=>kvs.length≤i∧H d=some (.frz o (.dT kvs))⟩
def sE(tl:TE):TI:=fun σ H R=>tl σ H fun x H1=>∃(v d:Addr)(kvs:List (List Key×V)),x=.ref v∧H1 v=some (bK v d)∧H1 d=some (.dT kvs)∧∀o,R (vS d kvs o) (upd H1 d (.frz o (.dT kvs)))
theorem iV{d:Addr}{o:Obj}{kvs:List (List Key×V)}{k:Nat}{g:TG}{tt:TT}{te:TE}{σ:St}{H:Hp}{Q:VK}(Pv:Nat→List V→Hp→Prop)(h0:Pv 0 [] H)(hl:∀i ys H,Pv i ys H→H d=some (.frz o (.dT kvs))∧ys.length<sizeLine)(hs:∀i p b T ys H (C:List V→Hp→Prop),kvs[i]?=some p→H b=some (.tup (p.1.map kV))→H T=none→Pv i ys H→(∀ys' H',Pv (i+1) ys' H'→C ys' H')→g (.ref T) (List.replicate k none++σ) (upd H T (.tup [.ref b,p.2])) fun σ2 H2=>Wk σ2 (List.replicate k none++σ)∧tt σ2 H2 fun ok H3=>
   if ok=true then te σ2 H3 fun y H4=>C (ys++[y]) H4 else C ys H3)(hd:∀ys H,Pv kvs.length ys H→ys.length≤sizeLine∧∀p,H p=none→Q (.ref p) (upd H p (.lst ys))):CompR (vS d kvs o) H k g tt te σ Q:=by
 refine⟨fun i m ys H=>m=kvs.length - i∧i≤kvs.length∧Pv i ys H,⟨kvs.length,by simp,Nat.zero_le _,h0⟩,?_⟩
 rintro i m ys H ⟨rfl,hi,p⟩
 have q:=hl i ys H p
 by_cases A1:i<kvs.length
 ·refine .inr ⟨⟨A1,q.1⟩,q.2,fun v H' y=>?_⟩
  obtain⟨T,p',b,hp',rfl,hb,nT,rfl⟩:=y
  exact hs i p' b T ys H (fun ys' H'=>∃m',m'<kvs.length - i∧m'=kvs.length - (i+1)∧i+1≤kvs.length∧Pv (i+1) ys' H') hp' hb nT p fun ys' H' p'=>⟨_,by omega,rfl,A1,p'⟩
 ·have e:i=kvs.length:=by omega
  subst e
  exact .inl ⟨⟨yF _,q.1⟩,hd ys H p⟩
end
section
variable{X:Cx}{AU:List (Addr×Obj)}{σ:St}{H:Hp}{s:Shared}
theorem v1{prog:Program}{w:World}{A:Around}{E:Value→Shared→Prop}{elts:List Expr}{k:Nat}{pos:Pos}{it d T:Addr}{i n ep:Nat}{f0 f1 ok ov:Value}{Q:Unit→Shared→Prop}(he:ItI s.heap it d i n ep f0 f1 ok ov)(alt:∃(a:Addr) (b:Bool),f0=rawInt a∧f1=.bool b)(hQ:∀h',yg it d n ep i h'→(∀b o,b≠it→s.heap.get? b=some o→h'.get? b=some o)→Q () {s with heap:=h'}):wpAny (model prog w) A (letOwnedTupleGo (.Tuple elts k pos) (.ref it) (.ref T)) Q E s:=by
 unfold letOwnedTupleGo
 refine io (wpAny_load he ?_)
 show wpAny _ _ (if (["enumerate","zip","dict_itemiterator","dict_reverseitemiterator","odict_iterator","itertools.zip_longest","itertools.pairwise"].contains "dict_itemiterator" && (#[f0,f1,.ref d,.int i 0,.int n 0,.int ep 0,ok,ov]:Array Value)[0]? == some (rawInt T))=true then _ else _) Q E s
 by_cases c:(["enumerate","zip","dict_itemiterator","dict_reverseitemiterator","odict_iterator","itertools.zip_longest","itertools.pairwise"].contains "dict_itemiterator" && (#[f0,f1,.ref d,.int i 0,.int n 0,.int ep 0,ok,ov]:Array Value)[0]? == some (rawInt T))=true
 ·rw[yC c]
  refine io (AR ?_)
  show wpAny _ _ (setField (.ref it) 0 .none) Q E s
  exact wpAny_setField_rec he (by simp) fun h' he' hs'=>hQ h' ⟨.none,f1,ok,ov,he',.inl rfl⟩ hs'.extBut
 ·rw[yy c]
  exact yB (hQ s.heap ⟨f0,f1,ok,ov,he,.inr alt⟩ fun _ _ _ e=>e)
theorem pA{P:Program}{w:World}{K:W.Frag}{elts:List Expr}{k:Nat}{np:Pos}{d it:Addr}{kvs:List (List Key×V)}{o:Obj}{es:Array DictEntry}{ep:Nat}(ex:o.ExactDict)(od:o.data=.dict es ep)(sz:es.size=kvs.length):
  Turn P w K (.Tuple elts k np) (vS d kvs o) [it] it (yg it d es.size ep) where
 mem:=by simp
 obj:=fun i h st b hb=>by
  obtain⟨f0,f1,ok,ov,q,_⟩:=st
  rw[yN.mp hb]
  exact⟨_,q,fun v z=>(nomatch z)⟩
 keep:=fun i h h' st k=>by
  obtain⟨f0,f1,ok,ov,q,r⟩:=st
  exact⟨f0,f1,ok,ov,k it (.head _) _ q,r⟩
 item:=by
  intro X hP hw hK hc i AU s σ H E I hf st hg
  subst hP hw hK
  obtain⟨hi,hd⟩:=hg
  obtain⟨ho,z,lo,xs,kt,o',es',ep',h1,_,h3,h4,_⟩:=(show ObjOk X.prog X.w H s.heap d (.frz o (.dT kvs))from I.hok d _ hd)
  rw[ho]at h1
  cases h1
  rw[od]at h3
  cases h3
  have e1:kvs[i]?=some kvs[i]:=by simp[hi]
  obtain⟨x,ex1,hx,rx⟩:=fX kt e1
  have eq:es[i]=⟨es[i].hash,.ref x.2.1,x.2.2⟩:=by
   have q:es.toList[i]?=some es[i]:=by rw[yI];exact yH (by omega)
   rw[h4,y9,ex1]at q
   rw[←zt q]
   rfl
  have ek:es[i].key=.ref x.2.1:=by rw[eq]
  have ev:es[i].val=x.2.2:=by rw[eq]
  obtain⟨f0,f1,ok,ov,q,alt⟩:=st
  refine kQ q alt ⟨o,ho,ex,od⟩ (by omega) fun g e0 e1' a b A9 al tg zg kp=>⟨_,rfl,?_⟩
  refine v1 (s:={s with heap:=g}) A9 al fun h' st2 kp2=>?_
  have itl:it≠s.heap.objs.size:=yW (yM q)
  have ni:H it=none:=(hf it (.head _)).1
  refine⟨.ref s.heap.objs.size,upd H s.heap.objs.size (.tup [.ref x.2.1,kvs[i].2]),?_,rfl,⟨_,_,_,e1,rfl,hx,I.hok.fresh (yF _),rfl⟩,st2,fun c hc=>?_⟩
  ·refine I.zipped (t':=s.toks) (ch:=[it]) (fun c v hc e=>kp2 c v (fun z=>hc (by rw[z];exact .head _)) (kp c v (fun z=>hc (by rw[z];exact .head _)) e)) hf (yF _) ⟨by show(2:Nat)≤sizeLine;decide,[.ref x.2.1,x.2.2],.cons rfl (.cons rx .nil),?_⟩
   rw[ek,ev]at tg
   exact⟨_,kp2 _ _ (Ne.symm itl) tg,⟨rfl,rfl⟩,_,rfl⟩
  ·rw[yN.mp hc,Za itl]
   exact ni
 done:=by
  intro X hP hw hK hc i AU s σ H E I hf st hg
  subst hP hw hK
  obtain⟨hi,hd⟩:=hg
  obtain⟨ho,_⟩:=I.hok d _ hd
  obtain⟨f0,f1,f2,f3,f4,f5⟩:=hf it (.head _)
  obtain⟨_,_,_,_,q,_⟩:=st
  exact kT (I.ok.hd hc) q ⟨o,ho,ex,od⟩ (by omega) fun g eb=>⟨rfl,I.turned (t':=s.toks) (fun b ob hb e=>eb b ob hb e) f0 f1 f3 f4 f5⟩
 self:=fun _ _ _ _ _ st h=>by
  obtain⟨_,_,_,_,q,_⟩:=st
  exact l_ q h
theorem jt{elts:List Expr}{k:Nat}{np:Pos}{l:Expr}{tl:TE}(hl:PE X l tl):PI X (.Tuple elts k np) l (sE tl):=by
 intro AU s σ H R I h
 refine thn (hl AU s σ H _ I h) fun v s1 AV=>?_
 obtain⟨x,H1,I1,r1,q1⟩:=AV
 obtain⟨v,d,kvs,rfl,hv,hd,q⟩:=q1
 cases r1
 obtain⟨view,_⟩:=(show ObjOk X.prog X.w H1 s1.heap v (bK v d)from I1.hok v _ hv)
 obtain⟨o,I2,_⟩:=I1.freezeT hd
 obtain⟨ho,z,lo,xs,kt,o',es,ep,h1,h2,h3,h4,_⟩:=(show ObjOk X.prog X.w _ s1.heap d (.frz o (.dT kvs))from I2.hok d _ Z5)
 rw[ho]at h1
 cases h1
 have sz:es.size=kvs.length:=by rw[←yS,h4,pi,←yT kt]
 refine lU view ⟨o,ho,h2,h3⟩ fun g st zg kp=>⟨s1.heap.objs.size,[s1.heap.objs.size],_,_,_,rfl,I2.kept (t':=s1.toks) kp,pA h2 h3 sz,⟨_,_,_,_,st,.inl rfl⟩,fun b hb=>?_,q o⟩
 rw[yN.mp hb]
 exact I2.fpOk (yF _) (I2.hok.fresh (yF _))
def thwE(D:Ends)(d:Addr)(kvs:List (List Key×V)):Ends where
 nx:=fun σ H2=>∃o,H2 d=some (.frz o (.dT kvs))∧D.nx σ (upd H2 d (.dT kvs))
 rt:=fun v H2=>∃o,H2 d=some (.frz o (.dT kvs))∧D.rt v (upd H2 d (.dT kvs))
 bk:=fun σ H2=>∃o,H2 d=some (.frz o (.dT kvs))∧D.bk σ (upd H2 d (.dT kvs))
 ct:=fun σ H2=>∃o,H2 d=some (.frz o (.dT kvs))∧D.ct σ (upd H2 d (.dT kvs))
def wG(t:TS):TS:=fun D σ H=>∃(d:Addr)(kvs:List (List Key×V)),H d=some (.dT kvs)∧t (thwE D d kvs) σ H
theorem tJ{st:Stmt}{t:TS}(h:PS X st t):PS X st (wG t):=by
 intro AU s σ H D I hw
 obtain⟨d,kvs,hd,q⟩:=hw
 obtain⟨_,_,nf⟩:=I.freezeT hd
 refine thn (h AU s σ H _ I q) fun f s1 hf=>?_
 cases f with
 | next=>
  obtain⟨σ2,H2,I2,o,hd2,q2⟩:=hf
  exact⟨σ2,_,I2.thawT nf hd2,q2⟩
 | brk=>
  obtain⟨σ2,H2,I2,o,hd2,q2⟩:=hf
  exact⟨σ2,_,I2.thawT nf hd2,q2⟩
 | cont=>
  obtain⟨σ2,H2,I2,o,hd2,q2⟩:=hf
  exact⟨σ2,_,I2.thawT nf hd2,q2⟩
 | ret u=>
  obtain⟨v,σ2,H2,I2,r,o,hd2,q2⟩:=hf
  exact⟨v,σ2,_,I2.thawT nf hd2,r,q2⟩
end
end L2
namespace K31
open PySem L2 Ld
theorem vi{ps:Sps}{i:Nat}{p0:List Key×V}(h:(ae ps)[i]?=some p0):∃p,ps[i]?=some p∧(kk p.1,V.int p.2)=p0:=by
 unfold ae at h
 rw[y9]at h
 obtain⟨p,hp,e⟩:=zO.mp h
 exact⟨p,hp,e⟩
structure Tw(H:Hp)(d L:Addr)(qs fs:Sps)(as:List Addr)(H':Hp):Prop where
 gS:Same H H'
 e_d:H' d=some (.dT (ae qs))
 e_L:H' L=some (.lst (as.map V.ref))
 pL:Paired (FT (av L H')) as fs
theorem Tw.same{H H1 H2:Hp}{d L:Addr}{qs fs:Sps}{as:List Addr}(h:Tw H d L qs fs as H1)(g:Same H1 H2):Tw H d L qs fs as H2:=
 ⟨h.gS.trans g,g _ _ h.e_d,g _ _ h.e_L,Paired.mapP h.pL fun _ _ f=>Y2 (Sg h.e_L g) f⟩
def uw:Sp:=fun vs H Q _=>∃(r q:Addr)(ts:List Th)(AT or total:Int)(qs:Sps),vs=[.ref r,.ref q]∧DV H (.ref r) (aP ts)∧ts.length≤500∧LadAt H q AT or total qs∧(qs.map (·.1)).Nodup∧qs.length≤400∧0≤or∧or≤20∧∀(p:Addr)(H':Hp),H p=none→Same H H'→PprAt H' p (cR qs (aL ts) or.toNat)→Q (.ref p) H'
variable{P:Program}{w:World}{K:W.Frag}{mg:Str→Option Value}{base:Heap}{f:Addr}{fd:FuncData}
theorem v5(aY:mg "dict"=none)(aE:mg "range"=none)(bT:Has P w K mg base "standing_of" 2 ["stream"] on)(aO:Has P w K mg base "parent_of" 1 ["stretch"] cj)(aN:Has P w K mg base "added_counts" 1 ["one","other"] jK)(F:Fun K "folds_towards" "folds_towards" bx f fd):FnOk P w K mg base CX0 3 f fd ["stream","ladder"] uw:=by
 refine F.ok Zl (fun vs H Q E h=>?_) (fun cdv A outer s H vs Q E hr h=>?_)
 ·obtain⟨r,q,ts,AT,or,total,qs,rfl,_⟩:=h
  rfl
 obtain⟨r,q,ts,AT,or,total,qs,rfl,dv,tl,lad,nq,ql,d0,d1,hq⟩:=h
 obtain⟨cc,cs,A6,A2,pr⟩:=lad.at_
 have cl:=yT pr
 have nd:((ae qs).map (·.1)).Nodup:=by
  rw[V3]
  exact Ae.mpr (nq.imp fun h e=>h (V1 e))
 refine⟨_,(Z2 (Yy (pv 1) (Yn rfl (Z9 (Z8 (i:=2) Zl.nd rfl (Or.inl rfl)) (Z9 (Z8 (i:=3) Zl.nd rfl (Or.inl rfl)) (Z9 (Z8 (i:=4) Zl.nd rfl (Or.inl rfl)) (Z9 (Z8 (i:=5) Zl.nd rfl (Or.inl rfl)) Zp)))))) Zd),?_⟩
 refine⟨_,rfl,q,_,rfl,SqT.of A6,rfl,_,_,rfl,_,_,rfl,_,_,rfl,_,_,rfl,rfl,?_⟩
 refine⟨_,(Z2 (Zw 6 Zl.nd rfl (Or.inr rfl) (Xl (W1 rfl hr.units) rfl aY PyProof.Rows.boot_dict (Z1 (pv 4) Z0 (by rfl))) (by rfl) (by rfl)) Zd),?_⟩
 refine⟨_,rfl,cc,_,_,rfl,A2,Pg pr,by rw[Y0];omega,fun d n_d=>?_⟩
 rw[Ud nd]
 have gg:=Z6 n_d (.dT (ae qs))
 have e_d:(upd H d (.dT (ae qs))) d=some (.dT (ae qs)):=Z5
 generalize upd H d (.dT (ae qs))=H1 at gg e_d⊢
 refine⟨_,(Z2 (Zw 7 Zl.nd rfl (Or.inl rfl) (Yh Z0) (by rfl) (by rfl)) Zd),?_⟩
 refine⟨leN rfl,fun L n_L=>?_⟩
 have xV:H L=none:=gg.free n_L
 have gz:=Z6 n_L (.lst [])
 have e_L:(upd H1 L (.lst [])) L=some (.lst (([]:List Addr).map V.ref)):=Z5
 have gg:=gg.trans gz
 have e_d:=gz _ _ e_d
 generalize upd H1 L (.lst [])=H2 at gg e_d e_L⊢
 have tw:Tw H d L qs [] [] H2:=⟨gg,e_d,e_L,.nil⟩
 clear e_d e_L gz gg n_d n_L
 refine⟨_,(Z2 (Zw 8 Zl.nd rfl (Or.inl rfl) (Z4 bT hr (Z1 (pv 0) Z0 (by rfl))) (by rfl) (by rfl)) Zd),?_⟩
 refine⟨_,rfl,r,ts,rfl,dv.mono tw.gS,by omega,fun sd H3 _ g3 e_s=>?_⟩
 have tw:=tw.same g3
 have sl:=e8 ts
 refine⟨_,(Z2 (Xe zy rfl (Wb rfl aE (Z1 (pv 3) Z0 (by rfl))) (Z8 (i:=9) Zl.nd rfl (Or.inl rfl))
 (Z2 (tJ (Rr (i:=10) Zl.nd rfl rfl (own:=["stretch","many"]) (CompOk.of rfl rfl (by rfl) (by rfl) (by rfl)) (jt (Tl At PySem.F.slot_dict_items PySem.F.type_dict_items R3 (pv 8)))
  (fun _ _ _ _ _=>(Xq K 2 rfl rfl (Z9 (Z8 (i:=0) Xp rfl (Or.inl rfl) (Or.inr rfl)) (Z9 (Z8 (i:=1) Xp rfl (Or.inl rfl) (Or.inr rfl)) Zp)))) (fun _ _ _ _ _=>X5)
  (fun _ _ _ _ _=>(Zr (Z1 (pv 0) (Z1 (Zb Xv (pv 1) (Xr (Xh hr) (pv 8) (pv 0) Z3 ⟨rfl,rfl,rfl,rfl⟩)) Z0 (by rfl)) (by rfl))))))
 (Z2 (Rr (i:=11) Zl.nd rfl rfl (own:=["stretch","many"]) (CompOk.of rfl rfl (by rfl) (by rfl) (by rfl)) (Y4 (pv 10))
  (fun _ _ _ _ _=>(Xq K 2 rfl rfl (Z9 (Z8 (i:=0) Xo rfl (Or.inl rfl) (Or.inr rfl)) (Z9 (Z8 (i:=1) Xo rfl (Or.inl rfl) (Or.inr rfl)) Zp)))) (fun _ _ _ _ _=>(Rq (Zi U1 (pv 1) Z3 (Zk _))))
  (fun _ _ _ _ _=>(Zr (Z1 (pv 0) (Z1 (pv 1) Z0 (by rfl)) (by rfl)))))
 (Z2 (Xj (T9 zF PySem.F.slot_list_extend PySem.F.type_list_extend Oh (pv 7) (Z1 (pv 11) Z0 (by rfl))))
 (Z7 (Zw 8 Zl.nd rfl (Or.inl rfl) (Z4 aN hr (Z1 (Zr Z0) (Z1 (X6 (own:=["stretch","many"]) (CompOk.of rfl rfl (by rfl) (by rfl) (by rfl)) (Y4 (pv 11))
  (fun _ _ _ _ _=>(Xq K 2 rfl rfl (Z9 (Z8 (i:=0) Xn rfl (Or.inl rfl) (Or.inr rfl)) (Z9 (Z8 (i:=1) Xn rfl (Or.inl rfl) (Or.inr rfl)) Zp)))) (fun _ _ _ _ _=>X5)
  (fun _ _ _ _ _=>(Zr (Z1 (Z4 aO hr (Z1 (pv 0) Z0 (by rfl))) (Z1 (pv 1) Z0 (by rfl)) (by rfl))))) Z0 (by rfl)) (by rfl))) (by rfl) (by rfl))))))) Zd),?_⟩
 refine⟨_,rfl,or,rfl,by omega,by omega,?_⟩
 refine Wp (lo:=0) (n:=or.toNat) (fun i σ H'=>∃(o9 o10 o11:Option V)(sd:Addr)(as:List Addr),σ=[some (.ref r),some (.ref q),some (.int AT),some (.int or),some (.ref cc),some (.int total),some (.ref d),some (.ref L),some (.ref sd),o9,o10,o11]∧Tw H d L qs (cR qs (aL ts) i) as H'∧H' sd=some (.dT (ae (stn qs (aL ts) i)))) ⟨_,_,_,sd,[],rfl,tw,e_s⟩ ?_ ?_
 ·clear tw e_s g3
  rintro i σ H4 N B1 R hN hR hi ⟨o9,o10,o11,sd,as,rfl,tw,e_s⟩
  have fl:=g_ qs (aL ts) i
  have stl:=kC qs (aL ts) i
  have asl:=yT tw.pL
  have fb:i * (aL ts).length≤20 * 500:=Nat.mul_le_mul (by omega) (by omega)
  have hF:cR qs (aL ts) (i+1)=cR qs (aL ts) i++exc qs (stn qs (aL ts) i):=rfl
  have hS:stn qs (aL ts) (i+1)=upS (exc qs (stn qs (aL ts) i)):=rfl
  rw[hF,hS]at hN
  generalize stn qs (aL ts) i=st at e_s stl hN
  refine⟨sd,_,e_s,?_⟩
  refine⟨_,rfl,Qe e_s,sd,_,rfl,rfl,e_s,fun v n_v=>?_⟩
  have gz:=Z6 n_v (bK v sd)
  have tw:=tw.same gz
  have e_s:=gz _ _ e_s
  have e_v:(upd H4 v (bK v sd)) v=some (bK v sd):=Z5
  generalize upd H4 v (bK v sd)=H5 at tw e_s e_v⊢
  refine⟨v,sd,_,rfl,e_v,e_s,fun o=>?_⟩
  have ds:d≠sd→(upd H5 sd (.frz o (.dT (ae st)))) d=some (.dT (ae qs)):=fun z=>by rw[Za z];exact tw.e_d
  refine iV (fun j ys H'=>Same (upd H5 sd (.frz o (.dT (ae st)))) H'∧∃bs:List Addr,ys=bs.map V.ref∧Paired (FT H') bs ((st.take j).map fun p=>(p.1,p.2 - cnt qs p.1))) ⟨Same.refl _,[],rfl,.nil⟩ ?_ ?_ ?_
  ·rintro j ys H' ⟨g,bs,rfl,pb⟩
   have bl:=yT pb
   rw[pi,y7]at bl
   exact⟨g _ _ Z5,Zm (by rw[pi];omega)⟩
  ·rintro j p0 b T ys H' C hp0 AZ n_T ⟨g,bs,rfl,pb⟩ hC
   obtain⟨p,hp,rfl⟩:=vi hp0
   have gT:=Z6 n_T (.tup [.ref b,.int p.2])
   have e_T:(upd H' T (.tup [.ref b,.int p.2])) T=some (.tup [.ref b,.int p.2]):=Z5
   have pb:=Paired.mapP pb fun _ _ f=>Y2 gT f
   have AZ:KAt (upd H' T (.tup [.ref b,.int p.2])) b p.1:=gT _ _ AZ
   have g:=g.trans gT
   generalize upd H' T (.tup [.ref b,.int p.2])=H6 at e_T pb AZ g⊢
   have dg:∃v0,DGet H6 d (.ref b) v0∧v0.getD (.int 0)=.int (cnt qs p.1):=by
    by_cases z:d=sd
    ·have a:=tw.e_d
     rw[z,e_s]at a
     injection a with a
     injection a with a
     rw[z]
     exact⟨_,.inr ⟨_,kk p.1,b,.inr ⟨o,g _ _ Z5⟩,rfl,AZ,rfl⟩,by rw[a];exact Xi _ _⟩
    ·exact⟨_,Yx (g _ _ (ds z)) AZ,Xi _ _⟩
   have isd:IsD H6 d:=by
    by_cases z:d=sd
    ·rw[z]
     exact .inr ⟨_,.inr ⟨o,g _ _ Z5⟩⟩
    ·exact .inr ⟨_,.inl (g _ _ (ds z))⟩
   obtain⟨v0,dg1,dg2⟩:=dg
   refine⟨T,_,rfl,SqT.of e_T,rfl,_,_,rfl,_,_,rfl,rfl,Wk.refl _,_,rfl,_,rfl,_,rfl,d,rfl,isd,_,rfl,v0,dg1,p.2,cnt qs p.1,rfl,dg2,leN rfl,fun u n_u=>hC _ _ ⟨g.trans (Z6 n_u _),bs++[u],by rw[yV];rfl,?_⟩⟩
   rw[Zz hp,yV]
   have gu:=Z6 n_u (.tup [.ref b,.int (p.2 - cnt qs p.1)])
   exact AS (Paired.mapP pb fun _ _ f=>Y2 gu f) ⟨b,Z5,gu _ _ AZ⟩
  rintro ys H6 ⟨g6,bs,rfl,pb⟩
  rw[Y0,zn]at pb
  have bl:=yT pb
  rw[pi]at bl
  refine⟨Zn (by rw[pi];omega),fun p n_p=>?_⟩
  have g7:=g6.trans (Z6 n_p (.lst (bs.map V.ref)))
  have pd:p≠sd:=fun z=>by rw[z,g6 _ _ Z5]at n_p;cases n_p
  have sz:=O7 e_s g7
  have A0:(upd (upd H6 p (.lst (bs.map V.ref))) sd (.dT (ae st))) p=some (.lst (bs.map V.ref)):=by rw[Za pd];exact Z5
  have tS:∀{x:Addr}{xs:List V},H6 x=some (.tup xs)→(upd (upd H6 p (.lst (bs.map V.ref))) sd (.dT (ae st))) x=some (.tup xs):=fun{x xs} e=>by
   rw[Za (fun z=>by rw[z,g6 _ _ Z5]at e;cases e),Za (Zf e n_p)]
   exact e
  have pb:=Paired.mapP pb fun _ _ ⟨y,f1,f2⟩=>(⟨y,tS f1,tS f2⟩:FT _ _ _)
  refine⟨o,g7 _ _ Z5,?_⟩
  have tw:=tw.same sz
  clear tS g6 g7 n_p sz e_v ds n_v
  generalize upd (upd H6 p (.lst (bs.map V.ref))) sd (.dT (ae st))=H7 at A0 pb tw⊢
  refine⟨_,rfl,p,rfl,⟨_,SqL.of A0⟩,?_⟩
  refine X4 (xs:=bs.map V.ref) (fun j ys H'=>Same H7 H'∧∃us:List Addr,ys=us.map V.ref∧us.length≤j∧Paired (FT H') us (((st.map fun p=>(p.1,p.2 - cnt qs p.1)).take j).filter fun p=>decide (0<p.2))) ⟨Same.refl _,[],rfl,yF _,.nil⟩ ?_ ?_ ?_
  ·rintro j ys H' _ ⟨g,_⟩
   exact SqL.of (g _ _ A0)
  ·rintro j x ys H' C hx ⟨g,us,rfl,ul,pu⟩ hC
   obtain⟨a,p1,rfl,hp1,b,e1,e2⟩:=Vy pb hx
   have jl:=(yK.mp hp1).1
   rw[pi]at jl
   refine⟨Zm (by rw[pi];omega),a,_,rfl,SqT.of (g _ _ e1),rfl,_,_,rfl,_,_,rfl,rfl,Wk.refl _,_,rfl,_,_,rfl,rfl,_,rfl,?_⟩
   by_cases c:p1.2 > 0
   ·rw[yG c]
    refine W3 ⟨_,rfl,_,rfl,leN rfl,fun u n_u=>hC _ _ ⟨g.trans (Z6 n_u _),us++[u],by rw[yV];rfl,by rw[yJ];show us.length+1≤_;omega,?_⟩⟩
    rw[Zz hp1,AH,zD,yC (yG c)]
    have gu:=Z6 n_u (.tup [.ref b,.int p1.2])
    exact AS (Paired.mapP pu fun _ _ f=>Y2 gu f) ⟨b,Z5,gu _ _ (g _ _ e2)⟩
   ·rw[ze c]
    refine Xd (hC _ _ ⟨g,us,rfl,by omega,?_⟩)
    rw[Zz hp1,List.filter_append,List.filter_cons,if_neg (by simpa using c),List.filter_nil,List.append_nil]
    exact pu
  rintro ys H8 ⟨g8,us,rfl,ul,pu⟩
  rw[show(bs.map V.ref).length=(st.map fun p=>(p.1,p.2 - cnt qs p.1)).length by rw[pi,pi,bl],zn]at pu
  rw[pi,bl]at ul
  have pu:Paired (FT H8) us (exc qs st):=pu
  refine⟨Zn (by rw[pi];omega),fun l n_l=>?_⟩
  have lL:l≠L:=fun z=>by rw[z,g8 _ _ tw.e_L]at n_l;cases n_l
  have gz:=g8.trans (Z6 n_l (.lst (us.map V.ref)))
  have tw:=tw.same gz
  have pu:=Paired.mapP pu fun _ _ f=>Y2 (Z6 n_l (.lst (us.map V.ref))) f
  have A3:(upd H8 l (.lst (us.map V.ref))) l=some (.lst (us.map V.ref)):=Z5
  clear gz g8 pb A0
  generalize upd H8 l (.lst (us.map V.ref))=H9 at tw pu A3⊢
  have exl:=eZ qs st
  have ull:=yT pu
  refine⟨_,rfl,.inl ⟨rfl,_,SqL.of tw.e_L⟩,_,rfl,L,l,_,_,rfl,rfl,tw.e_L,A3,Zn (by rw[pi,pi];omega),?_⟩
  have tL:∀{x:Addr}{xs:List V}{o:HO},H9 x=some (.tup xs)→(upd H9 L o) x=some (.tup xs):=fun{x xs o} e=>by
   rw[Za (fun z=>by rw[z,tw.e_L]at e;cases e)]
   exact e
  have hL:∀{x:Addr}{xs:List V}{o:HO},H9 x=some (.tup xs)→av L (upd H9 L o) x=some (.tup xs):=fun{x xs o} e=>by
   rw[Zh (fun z=>by rw[z,tw.e_L]at e;cases e)]
   exact tL e
  rw[←yV]
  have tw2:Tw H d L qs (cR qs (aL ts) i++exc qs st) (as++us) (upd H9 L (.lst ((as++us).map V.ref))):=by
   refine⟨Xu tw.gS xV,?_,Z5,Xx ?_ ?_⟩
   ·rw[Za (fun z=>by have:=tw.e_d;rw[z,tw.e_L]at this;cases this)]
    exact tw.e_d
   ·exact Paired.mapP tw.pL fun _ _ ⟨y,f1,f2⟩=>⟨y,hL (Zc f1).2,hL (Zc f2).2⟩
   ·exact Paired.mapP pu fun _ _ ⟨y,f1,f2⟩=>⟨y,hL f1,hL f2⟩
  have pu2:Paired (FT (upd H9 L (.lst ((as++us).map V.ref)))) us (exc qs st):=Paired.mapP pu fun _ _ ⟨y,f1,f2⟩=>⟨y,tL f1,tL f2⟩
  have gF:(upd H9 L (.lst ((as++us).map V.ref))) l=some (.lst (us.map V.ref)):=by rw[Za lL];exact A3
  clear tw pu A3 tL hL
  generalize upd H9 L (.lst ((as++us).map V.ref))=G1 at tw2 pu2 gF⊢
  refine⟨leN rfl,fun t n_t=>?_⟩
  have gz:=Z6 n_t (.tup [])
  have tw2:=tw2.same gz
  have pu2:=Paired.mapP pu2 fun _ _ f=>Y2 gz f
  have gF:=gz _ _ gF
  have A7:(upd G1 t (.tup [])) t=some (.tup []):=Z5
  clear gz n_t
  generalize upd G1 t (.tup [])=G2 at tw2 pu2 gF A7⊢
  refine⟨_,rfl,l,rfl,⟨_,SqL.of gF⟩,?_⟩
  refine X4 (xs:=us.map V.ref) (fun j ys H'=>Same G2 H'∧∃ws:List Addr,ys=ws.map V.ref∧Paired (FT H') ws (((exc qs st).take j).map fun p=>(ad p.1,p.2))) ⟨Same.refl _,[],rfl,.nil⟩ ?_ ?_ ?_
  ·rintro j ys H' _ ⟨g,_⟩
   exact SqL.of (g _ _ gF)
  ·rintro j x ys H' C hx ⟨g,ws,rfl,pw⟩ hC
   obtain⟨a,p1,rfl,hp1,b,e1,e2⟩:=Vy pu2 hx
   have jl:=(yK.mp hp1).1
   have wl:=yT pw
   rw[pi,y7]at wl
   refine⟨Zm (by rw[pi];omega),a,_,rfl,SqT.of (g _ _ e1),rfl,_,_,rfl,_,_,rfl,rfl,Wk.refl _,_,rfl,b,p1.1,rfl,g _ _ e2,fun y n_y=>?_⟩
   have g1:=Z6 n_y (.tup [.int (ad p1.1).1,.int (ad p1.1).2])
   have e_y:KAt (upd H' y (.tup [.int (ad p1.1).1,.int (ad p1.1).2])) y (ad p1.1):=Z5
   have pw:=Paired.mapP pw fun _ _ f=>Y2 g1 f
   have g:=g.trans g1
   generalize upd H' y (.tup [.int (ad p1.1).1,.int (ad p1.1).2])=G3 at e_y pw g⊢
   refine⟨_,rfl,leN rfl,fun u n_u=>hC _ _ ⟨g.trans (Z6 n_u _),ws++[u],by rw[yV];rfl,?_⟩⟩
   have gu:=Z6 n_u (.tup [.ref y,.int p1.2])
   rw[Zz hp1,yV]
   exact AS (Paired.mapP pw fun _ _ f=>Y2 gu f) ⟨y,Z5,gu _ _ e_y⟩
  rintro ys G3 ⟨g3,ws,rfl,pw⟩
  rw[pi,ull,zn]at pw
  have wl:=yT pw
  rw[pi]at wl
  refine⟨Zn (by rw[pi];omega),fun m n_m=>?_⟩
  have gz:=g3.trans (Z6 n_m (.lst (ws.map V.ref)))
  have tw2:=tw2.same gz
  have A7:=gz _ _ A7
  have pw:=Paired.mapP pw fun _ _ f=>Y2 (Z6 n_m (.lst (ws.map V.ref))) f
  have e_m:(upd G3 m (.lst (ws.map V.ref))) m=some (.lst (ws.map V.ref)):=Z5
  clear gz g3 n_m
  generalize upd G3 m (.lst (ws.map V.ref))=G4 at tw2 A7 pw e_m⊢
  refine⟨t,m,ws,_,rfl,A7,e_m,pw,by rw[pi];omega,fun sd2 G5 _ g5 e_s2=>?_⟩
  exact hN _ _ ⟨_,_,_,sd2,as++us,rfl,tw2.same g5,e_s2⟩
 ·rintro σ H4 ⟨o9,o10,o11,sd,as,rfl,tw,e_s⟩
  refine⟨_,(Z7 (Ze (pv 7))),?_⟩
  exact⟨_,rfl,hq L _ xV tw.gS ⟨as,tw.e_L,Paired.mapP tw.pL fun _ _ f=>Y2 Yc f⟩⟩
def yh:Sp:=fun vs H Q _=>∃(r q:Addr)(ts:List Th)(AT or:Int)(qs:Sps),vs=[.ref r,.ref q]∧DV H (.ref r) (aP ts)∧ts.length≤500∧LadAt H q AT or (ag qs) qs∧Pok or qs∧qs.length≤400∧0≤or∧or≤20∧(∀t∈ts,0≤t.num∧1≤t.many)∧(¬((∀t∈ts,t.num<2 ^ or.toNat)∧Can qs (iZ ts))→∀H',Same H H'→Q .non H')∧((∀t∈ts,t.num<2 ^ or.toNat)∧Can qs (iZ ts)→∀(p:Addr)(H':Hp),H p=none→Same H H'→PprAt H' p (cR qs (aL ts) or.toNat)→Q (.ref p) H')
def pR:Sp:=fun vs H Q _=>∃(r q:Addr)(ts:List Th)(AT or:Int)(qs:Sps),vs=[.ref r,.ref q]∧DV H (.ref r) (aP ts)∧ts.length≤500∧LadAt H q AT or (ag qs) qs∧Pok or qs∧qs.length≤400∧0≤or∧or≤20∧(∀t∈ts,0≤t.num∧1≤t.many)∧∀(b:Bool)(H':Hp),Same H H'→(b=true↔(∀t∈ts,t.num<2 ^ or.toNat)∧Can qs (iZ ts))→Q (.bl b) H'
theorem xE(dC:Has P w K mg base "folds_towards" 3 ["stream","ladder"] uw)(iG:Has P w K mg base "is_folded" 5 ["stream","ladder","paper"] iT)(F:Fun K "paper_for" "paper_for" cA f fd):FnOk P w K mg base CX0 6 f fd ["stream","ladder"] yh:=by
 refine F.ok S0 (fun vs H Q E h=>?_) (fun cdv A outer s H vs Q E hr h=>?_)
 ·obtain⟨r,q,ts,AT,or,qs,rfl,_⟩:=h
  rfl
 obtain⟨r,q,ts,AT,or,qs,rfl,dv,tl,lad,o,ql,d0,d1,th,hq0,hq1⟩:=h
 have sl:=e8 ts
 have fl:=g_ qs (aL ts) or.toNat
 have fb:or.toNat * (aL ts).length≤20 * 500:=Nat.mul_le_mul (by omega) (by omega)
 refine⟨_,(Z2 (Zw 2 S0.nd rfl (Or.inl rfl) (Z4 dC hr (Z1 (pv 0) (Z1 (pv 1) Z0 (by rfl)) (by rfl))) (by rfl) (by rfl)) Zd),?_⟩
 refine⟨_,rfl,_,rfl,r,q,ts,AT,or,_,qs,rfl,dv,tl,lad,o.kok.nd,ql,d0,d1,fun p H1 n_p g1 pp=>?_⟩
 refine⟨_,(Z7 (Ze (oS (U6 (Z4 iG hr (Z1 (pv 0) (Z1 (pv 1) (Z1 (pv 2) Z0 (by rfl)) (by rfl)) (by rfl)))) (pv 2) Ua))),?_⟩
 refine⟨_,rfl,_,rfl,_,rfl,r,q,p,ts,AT,or,_,qs,_,rfl,dv.mono g1,by omega,lad.mono g1,o.kok.nd,ql,d0,d1,pp,by omega,fun H2 g2=>?_⟩
 have ok:=vp d0 o th
 refine⟨_,rfl,?_⟩
 cases e:ez or (ag qs) ts qs (cR qs (aL ts) or.toNat) with
 | true=>
  refine W3 ⟨_,rfl,hq1 (ok.mp e) p H2 n_p (g1.trans g2) (pp.mono g2)⟩
 | false=>
  refine Xd (hq0 (fun z=>?_) H2 (g1.trans g2))
  rw[ok.mpr z]at e
  cases e
theorem sS(iK:Has P w K mg base "paper_for" 6 ["stream","ladder"] yh)(F:Fun K "fits" "fits" jo f fd):FnOk P w K mg base CX0 7 f fd ["stream","ladder"] pR:=by
 refine F.ok rf (fun vs H Q E h=>?_) (fun cdv A outer s H vs Q E hr h=>?_)
 ·obtain⟨r,q,ts,AT,or,qs,rfl,_⟩:=h
  rfl
 obtain⟨r,q,ts,AT,or,qs,rfl,dv,tl,lad,o,ql,d0,d1,th,hq⟩:=h
 refine⟨_,(Z7 (Ze (Sa lT (Z4 iK hr (Z1 (pv 0) (Z1 (pv 1) Z0 (by rfl)) (by rfl))) Ua (Zk _)))),?_⟩
 refine⟨_,rfl,_,rfl,r,q,ts,AT,or,qs,rfl,dv,tl,lad,o,ql,d0,d1,th,fun no H1 g1=>⟨rfl,?_⟩,fun yes p H1 _ g1 _=>⟨rfl,?_⟩⟩
 ·exact hq false _ g1 ⟨(fun z=>nomatch z),fun z=>absurd z no⟩
 ·exact hq true _ g1 ⟨fun _=>yes,fun _=>rfl⟩
theorem tQ{g:Int×Int→Int}(G:dB g):∀(h:Nat)(j n:Int),0≤j→aq ((h:Int),j)≤n→n≤am ((h:Int),j)→g ((h:Int),j)≤g (0,n):=by
 intro h
 induction h with
 | zero=>
  intro j n _ a b
  have e1:aq (((0:Nat):Int),j)=j:=j8 j
  have e2:am (((0:Nat):Int),j)=j:=lu j
  have e:j=n:=by omega
  rw[e]
  exact y8 _
 | succ h ih=>
  intro j n j0 a b
  have z:=G (h:Int) j (by omega) j0
  have e:(((h+1:Nat):Int),j)=upK h j:=z6 (by show((h+1:Nat):Int)=(h:Int)+1;omega) rfl
  rw[e]at a b⊢
  have p:=Yg h
  have pw:(2:Int) ^ (h+1)=2 ^ h * 2:=Int.pow_succ _ _
  have t1:((h:Int)+1).toNat=h+1:=by omega
  have t0:((h:Int)).toNat=h:=by omega
  have f1:aq (upK h j)=j * (2 ^ h * 2):=by show j * 2 ^ ((h:Int)+1).toNat=_;rw[t1,pw]
  have l1:am (upK h j)=(j+1) * (2 ^ h * 2) - 1:=by show(j+1) * 2 ^ ((h:Int)+1).toNat - 1=_;rw[t1,pw]
  have f2:aq ((h:Int),2 * j)=2 * j * 2 ^ h:=by show 2 * j * 2 ^ ((h:Int)).toNat=_;rw[t0]
  have l2:am ((h:Int),2 * j)=(2 * j+1) * 2 ^ h - 1:=by show(2 * j+1) * 2 ^ ((h:Int)).toNat - 1=_;rw[t0]
  have f3:aq ((h:Int),2 * j+1)=(2 * j+1) * 2 ^ h:=by show(2 * j+1) * 2 ^ ((h:Int)).toNat=_;rw[t0]
  have l3:am ((h:Int),2 * j+1)=(2 * j+1+1) * 2 ^ h - 1:=by show(2 * j+1+1) * 2 ^ ((h:Int)).toNat - 1=_;rw[t0]
  have q1:j * (2 ^ h * 2)=2 * j * 2 ^ h:=by rw[AL (2 ^ h) 2,←Av,AL j 2]
  have q2:(j+1) * (2 ^ h * 2)=(2 * j+1+1) * 2 ^ h:=by rw[AL (2 ^ h) 2,←Av];congr 1;omega
  rcases Int.lt_or_le n ((2 * j+1) * 2 ^ h)with c | c
  ·exact Aa z.1 (ih (2 * j) n (by omega) (by omega) (by omega))
  ·exact Aa z.2 (ih (2 * j+1) n (by omega) (by omega) (by omega))
theorem k_{g:Int×Int→Int}(G:dB g){k:Int×Int}(k0:0≤k.1)(k2:0≤k.2){n:Int}(a:aq k≤n)(b:n≤am k):g k≤g (0,n):=by
 have e:((k.1.toNat:Nat):Int)=k.1:=by omega
 have q:=tQ G k.1.toNat k.2 n k2
 rw[e]at q
 exact q a b
def a7(ns:List (Int×Int)):List Th:=ns.map fun p=>⟨0,"a",p.1,p.2⟩
theorem S9(ns:List (Int×Int)):plc (a7 ns)=ns:=by
 unfold plc a7
 rw[zf]
 exact List.map_id _
theorem rc{f:Int×Int→Int}{or:Int}{ps:Sps}(o:Pok or ps)(hf:∀p∈ps,aq p.1≤f p.1∧f p.1≤am p.1):Dom ps (a7 (ps.map fun p=>(f p.1,p.2))):=fun g G=>by
 have st:=o.kok.st
 have po:=o.pos
 clear o
 induction ps with
 | nil=>exact y8 _
 | cons p ps ih=>
  have q:=ih (fun x hx=>hf x (.tail _ hx)) (fun k hk=>st k (.tail _ hk)) fun x hx=>po x (.tail _ hx)
  obtain⟨a,_,c,_⟩:=st p.1 (.head _)
  obtain⟨x,y⟩:=hf p (.head _)
  have r:=k_ G a c x y
  have m:=Int.mul_le_mul_of_nonneg_left r (show 0≤p.2 by have:=po p (.head _);omega)
  rw[X9]
  show p.2 * g p.1+wS g ps≤p.2 * g (0,f p.1)+wT g (a7 (ps.map fun p=>(f p.1,p.2)))
  omega
theorem oE{f:Int×Int→Int}{or:Int}{ps:Sps}(o:Pok or ps)(hf:∀p∈ps,aq p.1≤f p.1∧f p.1≤am p.1):∀t∈a7 (ps.map fun p=>(f p.1,p.2)),ThK or t:=fun t ht=>by
 obtain⟨q,hq,rfl⟩:=yD.mp ht
 obtain⟨p,hp,rfl⟩:=yD.mp hq
 obtain⟨a,b,c,d⟩:=o.kok.st p.1 (yD.mpr ⟨p,hp,rfl⟩)
 obtain⟨x,y⟩:=hf p hp
 have l:=kX a b c d
 have z:0≤aq p.1:=Int.mul_nonneg c (AM (Yg _))
 exact⟨⟨by show 0≤f p.1;omega,by show f p.1<_;omega,o.pos p hp⟩,N8.1⟩
def uK:Sp:=fun vs H Q _=>∃(l:Addr)(xs:List V)(ns:List (Int×Int)),vs=[.ref l]∧H l=some (.lst xs)∧NsAt H xs ns∧ns.length≤300∧∀(r:Addr)(H':Hp),H r=none→Same H H'→DV H' (.ref r) (aP (a7 ns))→Q (.ref r) H'
def kc(F:Sps→List (Int×Int)):Sp:=fun vs H Q _=>∃(q:Addr)(AT or total:Int)(ps:Sps),vs=[.ref q]∧LadAt H q AT or total ps∧Sts ps∧ps.length≤200∧∀(r:Addr)(H':Hp),H r=none→Same H H'→DV H' (.ref r) (aP (a7 (F ps)))→Q (.ref r) H'
theorem wR(F:Fun K "stream_at" "stream_at" cm f fd):FnOk P w K mg base CX0 1 f fd ["places"] uK:=by
 refine F.ok fY (fun vs H Q E h=>?_) (fun cdv A outer s H vs Q E hr h=>?_)
 ·obtain⟨l,xs,ns,rfl,_⟩:=h
  rfl
 obtain⟨l,xs,ns,rfl,A3,na,nl,hq⟩:=h
 have xl:=na.len
 refine⟨_,(Z7 (Ze (X6 (own:=["number","count"]) (CompOk.of rfl rfl (by rfl) (by rfl) (by rfl)) (Y4 (pv 0))
  (fun _ _ _ _ _=>(Xq K 2 rfl rfl (Z9 (Z8 (i:=0) W4 rfl (Or.inl rfl) (Or.inr rfl)) (Z9 (Z8 (i:=1) W4 rfl (Or.inl rfl) (Or.inr rfl)) Zp)))) (fun _ _ _ _ _=>X5)
  (fun _ _ _ _ _=>(Zr (Z1 Z3 (Z1 Tk (Z1 (pv 0) (Z1 (pv 1) Z0 (by rfl)) (by rfl)) (by rfl)) (by rfl))))))),?_⟩
 refine⟨_,rfl,l,rfl,⟨_,SqL.of A3⟩,?_⟩
 refine X4 (xs:=xs) (fun i ys H'=>Same H H'∧TsAt H' ys (a7 (ns.take i))) ⟨Same.refl _,.nil⟩ (fun i ys H' _ h=>SqL.of (h.1 _ _ A3)) ?_ ?_
 ·rintro i x ys H' C hx ⟨g,ta⟩ hC
  obtain⟨c,p,rfl,hp,A2⟩:=na.get hx
  have il:=(yK.mp hp).1
  have yl:=yT ta
  unfold a7 at yl
  rw[pi,y7]at yl
  refine⟨Zm (by omega),c,_,rfl,SqT.of (g _ _ A2),rfl,_,_,rfl,_,_,rfl,rfl,Wk.refl _,_,rfl,_,rfl,leN rfl,fun u n_u=>hC _ _ ⟨g.trans (Z6 n_u _),?_⟩⟩
  unfold a7
  rw[Zz hp,yV]
  exact AS (ta.tup fun c ys e=>Z6 n_u _ _ _ e) ⟨u,rfl,Z5⟩
 ·rintro ys H' ⟨g,ta⟩
  rw[xl,zn]at ta
  have yl:=yT ta
  unfold a7 at yl
  rw[pi]at yl
  refine⟨Zn (by omega),fun r n_r=>hq r _ (g.free n_r) (g.trans (Z6 n_r _)) (.lst Z5 ?_)⟩
  exact(ta.tup fun c ys e=>Z6 n_r _ _ _ e).dvs
theorem mL(cw:Has P w K mg base "stream_at" 1 ["places"] uK)(az:Has P w K mg base "lowest_places" 3 ["ladder"] (cH aB))(F:Fun K "lowest" "lowest" eA f fd):FnOk P w K mg base CX0 4 f fd ["ladder"] (kc aB):=by
 refine F.ok mR (fun vs H Q E h=>?_) (fun cdv A outer s H vs Q E hr h=>?_)
 ·obtain⟨q,AT,or,total,ps,rfl,_⟩:=h
  rfl
 obtain⟨q,AT,or,total,ps,rfl,lad,st,pl,hq⟩:=h
 refine⟨_,(Z7 (Ze (Z4 cw hr (Z1 (Z4 az hr (Z1 (pv 0) Z0 (by rfl))) Z0 (by rfl))))),?_⟩
 exact⟨_,rfl,q,AT,or,total,ps,rfl,lad,st,pl,fun l xs H1 g1 e1 n1=>⟨l,xs,_,rfl,e1,n1,by unfold aB;rw[pi];omega,fun r H2 nr g2 d=>hq r H2 (g1.free nr) (g1.trans g2) d⟩⟩
theorem jw(cw:Has P w K mg base "stream_at" 1 ["places"] uK)(ax:Has P w K mg base "highest_places" 3 ["ladder"] (cH ak))(F:Fun K "highest" "highest" c_ f fd):FnOk P w K mg base CX0 4 f fd ["ladder"] (kc ak):=by
 refine F.ok jG (fun vs H Q E h=>?_) (fun cdv A outer s H vs Q E hr h=>?_)
 ·obtain⟨q,AT,or,total,ps,rfl,_⟩:=h
  rfl
 obtain⟨q,AT,or,total,ps,rfl,lad,st,pl,hq⟩:=h
 refine⟨_,(Z7 (Ze (Z4 cw hr (Z1 (Z4 ax hr (Z1 (pv 0) Z0 (by rfl))) Z0 (by rfl))))),?_⟩
 exact⟨_,rfl,q,AT,or,total,ps,rfl,lad,st,pl,fun l xs H1 g1 e1 n1=>⟨l,xs,_,rfl,e1,n1,by unfold ak;rw[pi];omega,fun r H2 nr g2 d=>hq r H2 (g1.free nr) (g1.trans g2) d⟩⟩
def vX:Sp:=fun vs H Q _=>∃(p:Addr)(k:Int×Int),vs=[.ref p]∧KAt H p k∧0≤k.1∧k.1≤20∧Q (.int (aq k)) H
def xw:Sp:=fun vs H Q _=>∃(p:Addr)(k:Int×Int),vs=[.ref p]∧KAt H p k∧0≤k.1∧k.1≤20∧∀H',Same H H'→Q (.int (am k)) H'
theorem wW(aE:mg "range"=none)(F:Fun K "_law_first" "_law_first" c5 f fd):FnOk P w K mg base CX0 1 f fd ["_law_stretch"] vX:=by
 refine F.ok Vp (fun vs H Q E h=>?_) (fun cdv A outer s H vs Q E hr h=>?_)
 ·obtain⟨p,k,rfl,_⟩:=h
  rfl
 obtain⟨p,k,rfl,e,h0,h1,hq⟩:=h
 refine⟨_,(Z2 (Zw 1 Vp.nd rfl (Or.inl rfl) (Zt Y6 (pv 0) Z3 (fun _ _=>rfl)) (by rfl) (by rfl))
 (Z2 (Xe zy rfl (Wb rfl aE (Z1 (Zt Y6 (pv 0) Z3 (fun _ _=>rfl)) Z0 (by rfl))) (Z8 (i:=2) Vp.nd rfl (Or.inl rfl))
 (Z7 (Zw 1 Vp.nd rfl (Or.inl rfl) (Zb X7 Z3 (pv 1)) (by rfl) (by rfl))))
 (Z7 (Ze (pv 1))))),?_⟩
 refine⟨_,rfl,p,_,1,_,rfl,rfl,SqT.of e,rfl,?_⟩
 refine⟨_,rfl,p,_,0,_,rfl,rfl,SqT.of e,rfl,k.1,rfl,by omega,by omega,?_⟩
 refine Wp (lo:=0) (n:=k.1.toNat) (fun i σ H'=>H'=H∧∃o2:Option V,σ=[some (.ref p),some (.int (k.2 * 2 ^ i)),o2]) ⟨rfl,none,by rw[Int.pow_zero,AB];rfl⟩ ?_ ?_
 ·rintro i σ H' N B1 R hN hR hi ⟨rfl,o2,rfl⟩
  refine⟨_,rfl,_,_,rfl,rfl,Or.inl ⟨by decide,by decide⟩,hN _ _ ⟨rfl,some (.int (0+(i:Int))),?_⟩⟩
  rw[Int.pow_succ,show k.2 * (2 ^ i * 2)=2 * (k.2 * 2 ^ i) by rw[←Av,AL]]
  rfl
 ·rintro σ H' ⟨rfl,o2,rfl⟩
  exact⟨_,rfl,hq⟩
theorem xk(c6:Has P w K mg base "_law_first" 1 ["_law_stretch"] vX)(F:Fun K "_law_last" "_law_last" ei f fd):FnOk P w K mg base CX0 2 f fd ["_law_stretch"] xw:=by
 refine F.ok m8 (fun vs H Q E h=>?_) (fun cdv A outer s H vs Q E hr h=>?_)
 ·obtain⟨p,k,rfl,_⟩:=h
  rfl
 obtain⟨p,k,rfl,e,h0,h1,hq⟩:=h
 refine⟨_,(Z7 (Ze (Zb Xv (Z4 c6 hr (Z1 (Zr (Z1 (Zt Y6 (pv 0) Z3 (fun _ _=>rfl)) (Z1 (Zb Zs (Zt Y6 (pv 0) Z3 (fun _ _=>rfl)) Z3) Z0 (by rfl)) (by rfl))) Z0 (by rfl))) Z3))),?_⟩
 exact⟨_,rfl,p,_,0,_,rfl,rfl,SqT.of e,rfl,_,rfl,p,_,1,_,rfl,rfl,SqT.of e,rfl,_,_,rfl,rfl,leN rfl,fun q nq=>⟨q,(k.1,k.2+1),rfl,Z5,h0,h1,_,_,rfl,rfl,hq _ (Z6 nq _)⟩⟩
theorem oT(g:Int×Int→Int)(a b:Sps):wS g (a++b)=wS g a+wS g b:=by
 unfold wS
 rw[yV,AD]
theorem pc(g:Int×Int→Int)(k:Int×Int)(n:Int):wS g [(k,n)]=n * g k:=by
 rw[X9]
 exact Int.add_zero _
theorem vA(g:Int×Int→Int)(t:Th):wT g [t]=t.many * g (0,t.num):=by
 unfold wT
 rw[yE,List.map_nil,yZ,List.sum_nil,Int.add_zero]
theorem sY{A:Sps}{k:Int×Int}{x m day n:Int}{wd:Str}{ts:List Th}(k0:0≤k.1)(k2:0≤k.2)(a:aq k≤n)(b:n≤am k)(m0:0≤m)(h:Dom (A++[(k,x)]) ts):Dom (A++[(k,x+m)]) (ts++[⟨day,wd,n,m⟩]):=fun g G=>by
 have q:=h g G
 have r:=Int.mul_le_mul_of_nonneg_left (k_ G k0 k2 a b) m0
 rw[oT,pc]at q⊢
 rw[jO,vA,AN]
 show wS g A+(x * g k+m * g k)≤wT g ts+m * g (0,n)
 omega
def muL1(σ:St)(_:Hp):Nat:=match List.getD σ 6 none with
 | some (.int n)=>n.toNat
 | _=>0
theorem w6:PyData.strOk "ab"=true:=by decide +kernel
def ud(K:W.Frag):Sp:=fun vs H Q _=>∃(a S c:Addr)(ns:List Int)(as:List Addr)(or way:Int)(ps:Sps),vs=[.ref a,.ref c,.int way]∧Pn K S ns H a∧H c=some (.tup (as.map V.ref))∧Paired (FT H) as ps∧Pok or ps∧1≤or∧or≤10∧ps.length≤100∧∀(L:Addr)(ts:List Th)(H':Hp),H L=none→(∀t∈ts,ThK or t)→ts.length≤41+ps.length→Dom ps ts→DV (av a H') (.ref L) (aP ts)→Pn K S ns H' a→Grw a H H'→Q (.ref L) H'
theorem wa(nV:mg "min"=none)(aM:mg "len"=none)(ah:Has P w K mg base "_law_take" 1 ["_law_pen_here","_law_most"] (bY K))(dQ:Has P w K mg base "_law_many" 2 ["_law_pen_here"] (jP K))(c6:Has P w K mg base "_law_first" 1 ["_law_stretch"] vX)(nZ:Has P w K mg base "_law_last" 2 ["_law_stretch"] xw)(F:Fun K "_law_dealt" "_law_dealt" cX f fd):FnOk P w K mg base CX0 4 f fd ["_law_pen_here","_law_counts_here","_law_way"] (ud K):=by
 refine F.ok Y9 (fun vs H Q E h=>?_) (fun cdv A outer s H vs Q E hr h=>?_)
 ·obtain⟨a,S,c,ns,as,or,way,ps,rfl,_⟩:=h
  rfl
 obtain⟨a,S,c,ns,as,or,way,ps,rfl,hp,A2,pr,o,d0,d1,pl,hq⟩:=h
 have hpH:=hp
 have al:=yT pr
 refine⟨_,(Z2 (Zw 3 Y9.nd rfl (Or.inl rfl) (Yh Z0) (by rfl) (by rfl)) Zd),leN rfl,fun L n_L=>?_⟩
 have La:=hp.ne n_L
 have nHL:av a H L=none:=by rw[Zh La];exact n_L
 have ss:StrS K S ns H a L or (upd H L (.lst [])) [] []:=⟨hp.laid n_L,hp.grw (Z6 n_L _),Z5,.nil,fun _ h=>absurd h zE⟩
 generalize upd H L (.lst [])=H1 at ss⊢
 clear hp
 refine⟨_,(Z2 (Xe zy rfl (Qx (pv 1)) (Yn rfl (Z9 (Z8 (i:=4) Y9.nd rfl (Or.inl rfl)) (Z9 (Z8 (i:=5) Y9.nd rfl (Or.inl rfl)) Zp)))
 (Z2 (Zw 6 Y9.nd rfl (Or.inl rfl) (pv 5) (by rfl) (by rfl))
 (Z7 (U7 zy (Zi U1 (pv 6) Z3 (Zk _)) (Z2 (Zw 7 Y9.nd rfl (Or.inl rfl) (Zo (mD rfl) rfl nV PyProof.Rows.boot_min (Z1 (pv 6) (Z1 (Z4 dQ hr (Z1 (pv 0) Z0 (by rfl))) Z0 (by rfl)) (by rfl))) (by rfl) (by rfl))
 (Z2 (Yl (Zi U1 (Zo Y5 rfl aM Ax (Z1 (pv 3) Z0 (by rfl))) Z3 (Zk _)) (Z7 (Zw 7 Y9.nd rfl (Or.inl rfl) (pv 6) (by rfl) (by rfl))) Zu)
 (Z2 (Zw 8 Y9.nd rfl (Or.inl rfl) (Z4 c6 hr (Z1 (pv 4) Z0 (by rfl))) (by rfl) (by rfl))
 (Z2 (Zw 9 Y9.nd rfl (Or.inl rfl) (Z4 nZ hr (Z1 (pv 4) Z0 (by rfl))) (by rfl) (by rfl))
 (Z2 (Zw 10 Y9.nd rfl (Or.inl rfl) (Zb Zs (pv 8) (Z4 ah hr (Z1 (pv 0) (Z1 (Zb Zs (Zb Xv (pv 9) (pv 8)) Z3) Z0 (by rfl)) (by rfl)))) (by rfl) (by rfl))
 (Z2 (Yl (Zi Og (pv 2) Z3 (Zk _)) (Z7 (Zw 10 Y9.nd rfl (Or.inl rfl) (Zt Y7 (Yh (Z1 (pv 8) (Z1 (pv 9) Z0 (by rfl)) (by rfl))) (Z4 ah hr (Z1 (pv 0) (Z1 Z3 Z0 (by rfl)) (by rfl))) (fun _ _=>rfl)) (by rfl) (by rfl))) Zu)
 (Z2 (Xj (T9 zF Ao Ap Wc (pv 3) (Z1 (Zr (Z1 (Z4 ah hr (Z1 (pv 0) (Z1 Z3 Z0 (by rfl)) (by rfl))) (Z1 Tk (Z1 (pv 10) (Z1 (pv 7) Z0 (by rfl)) (by rfl)) (by rfl)) (by rfl))) Z0 (by rfl))))
 (Z7 (Zw 6 Y9.nd rfl (Or.inl rfl) (Zb Xv (pv 6) (pv 7)) (by rfl) (by rfl)))))))))))))) Zd),?_⟩
 refine⟨_,rfl,c,rfl,⟨_,SqT.of (Vr hpH ss.g A2)⟩,?_⟩
 refine Pk (xs:=as.map V.ref) (fun i σ H'=>∃(o4 o5 o6 o7 o8 o9 o10:Option V)(xs:List V)(ts:List Th),σ=[some (.ref a),some (.ref c),some (.int way),some (.ref L),o4,o5,o6,o7,o8,o9,o10]∧StrS K S ns H a L or H' xs ts∧ts.length≤41+i∧Dom (ps.take i) ts) ⟨_,_,_,_,_,_,_,_,_,rfl,ss,AQ _,fun _ _=>y8 _⟩ ?_ ?_ ?_
 ·rintro i σ H' _ ⟨_,_,_,_,_,_,_,_,_,_,ss,_⟩
  exact SqT.of (Vr hpH ss.g A2)
 ·clear ss
  rintro i x σ H2 N B1 R hN hR hx ⟨o4,o5,o6,o7,o8,o9,o10,xs,ts,rfl,ss,tl,dm⟩
  obtain⟨b,p,rfl,hp,b',e1,e2⟩:=Vy pr hx
  have il:=(yK.mp hp).1
  obtain⟨k0,k1,k2,k3⟩:=o.kok.st p.1 (yD.mpr ⟨p,y3 hp,rfl⟩)
  have pp:=o.pos p (y3 hp)
  have lt:=kX k0 k1 k2 k3
  have z0:0≤aq p.1:=Int.mul_nonneg k2 (AM (Yg _))
  have fl:=Pi p.1
  have tw:=W9 (m:=p.1.1) (by omega)
  have kat:∀{H':Hp},Grw a H H'→KAt H' b' p.1:=fun g=>Vr hpH g e2
  refine⟨b,_,rfl,SqT.of (Vr hpH ss.g e1),rfl,_,_,rfl,_,_,rfl,rfl,?_⟩
  refine⟨_,rfl,?_⟩
  refine Tt (fun σ H'=>∃(o7 o8 o9 o10:Option V)(lf:Int)(xs:List V)(ts:List Th),σ=[some (.ref a),some (.ref c),some (.int way),some (.ref L),some (.ref b'),some (.int p.2),some (.int lf),o7,o8,o9,o10]∧StrS K S ns H a L or H' xs ts∧0≤lf∧(0<lf→ts.length≤41+i)∧ts.length≤42+i∧Dom (ps.take i++[(p.1,p.2 - lf)]) ts) muL1 ⟨_,_,_,_,p.2,xs,ts,rfl,ss,by omega,fun _=>tl,by omega,fun g G=>by
   rw[oT,pc,Int.sub_self,Int.zero_mul,Int.add_zero]
   exact dm g G⟩ ?_ ?_
  ·clear ss dm tl
   rintro σ H3 ⟨o7,o8,o9,o10,lf,xs,ts,rfl,ss,l0,tl1,tl2,dm⟩
   refine⟨_,rfl,_,_,rfl,rfl,_,rfl,W7 (fun cl=>?_) (fun cl=>?_)⟩
   ·have cl:lf > 0:=yO cl
    have tl:=tl1 cl
    have xl:=yT ss.ta
    refine⟨_,rfl,_,rfl,a,S,ns,rfl,ss.pn,fun n H4 n1 hp g=>⟨lf,n,rfl,?_⟩⟩
    have ss:=ss.grw La hp g
    obtain⟨m,hm,m1,m2⟩:∃m:Int,(if n<lf then n else lf)=m∧1≤m∧m≤lf:=⟨_,rfl,by split <;> omega,by split <;> omega⟩
    rw[hm]
    clear hm hp g
    dsimp only
    refine We (fun σ' H'=>∃m:Int,σ'=[some (.ref a),some (.ref c),some (.int way),some (.ref L),some (.ref b'),some (.int p.2),some (.int lf),some (.int m),o8,o9,o10]∧H'=H4∧1≤m∧m≤lf∧(40<ts.length→m=lf)) ?_ ?_
    ·intro nx hnx
     refine⟨_,rfl,L,_,rfl,.inl (SqL.of ss.eL),_,_,rfl,rfl,_,rfl,W7 (fun c2=>?_) (fun c2=>?_)⟩
     ·exact⟨_,rfl,hnx _ _ ⟨lf,rfl,rfl,by omega,y8 _,fun _=>rfl⟩⟩
     ·have c2:¬((xs.length:Int) > 40):=z8 (Af.mpr c2)
      exact hnx _ _ ⟨m,rfl,rfl,m1,m2,fun z=>by omega⟩
    rintro σ' H' ⟨m,rfl,rfl,m1,m2,m3⟩
    refine⟨_,rfl,b',p.1,rfl,kat ss.g,k0,by omega,?_⟩
    refine⟨_,rfl,b',p.1,rfl,kat ss.g,k0,by omega,fun H5 g5=>?_⟩
    have ss:=ss.grw La (ss.pn.same g5) (ss.pn.grw g5)
    clear g5
    refine⟨_,rfl,_,rfl,_,rfl,_,rfl,_,_,rfl,rfl,_,_,rfl,rfl,a,S,ns,_,rfl,ss.pn,by omega,by omega,fun dd H6 x0 x1 hp g=>⟨_,_,rfl,rfl,?_⟩⟩
    have ss:=ss.grw La hp g
    clear hp g
    dsimp only
    refine We (fun σ' H'=>∃num:Int,σ'=[some (.ref a),some (.ref c),some (.int way),some (.ref L),some (.ref b'),some (.int p.2),some (.int lf),some (.int m),some (.int (aq p.1)),some (.int (am p.1)),some (.int num)]∧StrS K S ns H a L or H' xs ts∧aq p.1≤num∧num≤am p.1) ?_ ?_
    ·intro nx hnx
     refine⟨_,rfl,rfl,_,rfl,W7 (fun c2=>?_) (fun c2=>?_)⟩
     ·refine⟨_,rfl,_,rfl,leN rfl,fun u n_u=>?_⟩
      have ua:=ss.pn.ne n_u
      have ss:=ss.laid (o:=.lst [.int (aq p.1),.int (am p.1)]) La n_u
      have e_u:av a (upd H6 u (.lst [.int (aq p.1),.int (am p.1)])) u=some (.lst [.int (aq p.1),.int (am p.1)]):=by rw[Zh ua];exact Z5
      generalize upd H6 u (.lst [.int (aq p.1),.int (am p.1)])=H7 at ss e_u⊢
      refine⟨_,rfl,a,S,ns,2,rfl,ss.pn,Wz rfl,ltI rfl,fun z H8 y0 y1 hp g=>?_⟩
      have ss:=ss.grw La hp g
      have e_u:=(Zc (g _ _ e_u)).2
      rcases(show z=0∨z=1 by omega)with rfl | rfl
      ·exact⟨u,_,0,_,rfl,rfl,SqL.of e_u,rfl,hnx _ _ ⟨aq p.1,rfl,ss,y8 _,by omega⟩⟩
      ·exact⟨u,_,1,_,rfl,rfl,SqL.of e_u,rfl,hnx _ _ ⟨am p.1,rfl,ss,by omega,y8 _⟩⟩
     ·exact hnx _ _ ⟨aq p.1+dd,rfl,ss,by omega,by omega⟩
    clear ss
    rintro σ' H7 ⟨num,rfl,ss,q0,q1⟩
    refine⟨_,rfl,.inl ⟨rfl,_,SqL.of ss.eL⟩,_,rfl,a,S,ns,5,rfl,ss.pn,Wz rfl,ltI rfl,fun day H8 _ _ hp g=>?_⟩
    have ss:=ss.grw La hp g
    clear hp g
    refine⟨_,rfl,_,rfl,leN rfl,fun u n_u=>?_⟩
    have ss:=ss.laid (o:=.tup [.int day,.str "ab",.int num,.int m]) La n_u
    have e_u:(upd H8 u (.tup [.int day,.str "ab",.int num,.int m])) u=some (.tup (Th.mk day "ab" num m).vs):=Z5
    generalize upd H8 u (.tup [.int day,.str "ab",.int num,.int m])=H9 at ss e_u⊢
    refine⟨L,xs,_,rfl,rfl,ss.eL,Zm (by omega),?_⟩
    have ss:=ss.put La hpH n_L nHL e_u ⟨⟨by show 0≤num;omega,by show num<_;omega,m1⟩,w6⟩
    refine⟨_,rfl,_,rfl,_,_,rfl,rfl,⟨_,_,_,_,lf - m,xs++[.ref u],ts++[⟨day,"ab",num,m⟩],rfl,ss,by omega,fun z=>?_,?_,?_⟩,?_⟩
    ·rw[yJ]
     show ts.length+1≤_
     by_cases y:40<ts.length
     ·have:=m3 y
      omega
     ·omega
    ·rw[yJ]
     show ts.length+1≤_
     omega
    ·have q:=sY (day:=day) (wd:="ab") k0 k2 q0 q1 (by omega:0≤m) dm
     rw[show p.2 - lf+m=p.2 - (lf - m) by omega]at q
     exact q
    ·show(lf - m).toNat<lf.toNat
     omega
   ·have cl:¬lf > 0:=z8 (Af.mpr cl)
    have e0:lf=0:=by omega
    refine hN _ _ ⟨_,_,_,_,_,_,_,xs,ts,rfl,ss,by omega,?_⟩
    rw[Zz hp]
    rw[e0,Int.sub_zero]at dm
    exact dm
  ·rintro σ H' Q1 Q2 m ⟨a1,b1,a2,b2,c1,c2,t,g,r⟩
   exact⟨a1,b1,a2,b2,c1,c2,t,g,m _ _ r⟩
 ·clear ss
  rintro σ H2 ⟨o4,o5,o6,o7,o8,o9,o10,xs,ts,rfl,ss,tl,dm⟩
  rw[pi,al]at tl dm
  rw[zn]at dm
  refine⟨_,(Z7 (Ze (pv 3))),_,rfl,hq L ts H2 n_L ss.ok tl dm (.lst (by rw[Zh La];exact ss.eL) (ss.ta.tup fun x ys e=>?_).dvs) ss.pn ss.g⟩
  exact ss.pn.tup e
def uo:Sp:=fun vs H Q _=>∃(r:Addr)(ts:List Th)(n:Int),vs=[.ref r,.int n]∧DV H (.ref r) (aP ts)∧ts.length≤300∧(∀t∈ts,1≤t.many)∧1≤n∧(n≤sm2 (plc ts)→∀(x:Int)(H':Hp),Same H H'→IsPl (plc ts) n x→Q (.int x) H')∧(sm2 (plc ts)<n→∀H',Same H H'→Q .non H')
theorem oo{ms:List (Int×Int)}(pos:∀p∈ms,1≤p.2)(j:Nat):sm2 (ms.take j)≤sm2 ms:=by
 have e:sm2 ms=sm2 (ms.take j)+sm2 (ms.drop j):=by rw[←Rp,zM]
 have n:0≤sm2 (ms.drop j):=Nj fun x hx=>by
  obtain⟨p,hp,rfl⟩:=yD.mp hx
  have:=pos p (List.mem_of_mem_drop hp)
  omega
 omega
theorem ol(aA:mg "sorted"=none)(F:Fun K "_law_so_many_th" "_law_so_many_th" bF f fd):FnOk P w K mg base CX0 1 f fd ["_law_things_here","_law_number"] uo:=by
 refine F.ok X3 (fun vs H Q E h=>?_) (fun cdv A outer s H vs Q E hr h=>?_)
 ·obtain⟨r,ts,n,rfl,_⟩:=h
  rfl
 obtain⟨r,ts,n,rfl,hd,tl,pos,n0,hq,hq0⟩:=h
 refine⟨_,(Z2 (Zw 2 X3.nd rfl (Or.inl rfl) Z3 (by rfl) (by rfl))
 (Z2 (Xe zy rfl (Y4 (Zo (Rg hr.units) rfl aA PyProof.Rows.boot_sorted (Z1 (X6 (own:=["_law_thing"]) (CompOk.of rfl rfl (by rfl) (by rfl) (by rfl)) (Y4 (pv 0))
  (fun _ _ _ _ _=>(Z8 (i:=0) Vt rfl (Or.inl rfl) (Or.inr rfl))) (fun _ _ _ _ _=>X5)
  (fun _ _ _ _ _=>(Zr (Z1 (Zt (Ut K rfl) (pv 0) Z3 (fun _ _=>rfl)) (Z1 (Zt (Ut K rfl) (pv 0) Z3 (fun _ _=>rfl)) Z0 (by rfl)) (by rfl))))) Z0 (by rfl)))) (Yn rfl (Z9 (Z8 (i:=3) X3.nd rfl (Or.inl rfl)) (Z9 (Z8 (i:=4) X3.nd rfl (Or.inl rfl)) Zp)))
 (Z2 (Zw 2 X3.nd rfl (Or.inl rfl) (Zb Zs (pv 2) (pv 4)) (by rfl) (by rfl))
 (Z7 (Yl (Zi lx (pv 2) (pv 1) (Zk _)) (Z7 (Ze (pv 3))) Zu))))
 (Z7 (Ze Ua)))),?_⟩
 obtain⟨_,xs,e0,e_r,ds⟩:=DV.list_inv hd
 cases e0
 have xl:=ds.length
 rw[pi]at xl
 refine⟨_,rfl,r,rfl,⟨_,SqL.of e_r⟩,?_⟩
 refine X4 (xs:=xs) (fun i ys H'=>Same H H'∧∃as:List Addr,ys=as.map V.ref∧Paired (fun a p=>KAt H' a p) as (plc (ts.take i))) ⟨Same.refl _,[],rfl,.nil⟩ (fun i ys H' _ q=>SqL.of (q.1 _ _ e_r)) ?_ ?_
 ·rintro i x ys H' C hx ⟨g,as,rfl,pa⟩ hC
  obtain⟨t,c,ht,rfl,ec,_⟩:=DVs.th_at ds hx
  have al:=yT pa
  have il:=(yK.mp ht).1
  unfold plc at al
  rw[pi,y7]at al
  refine⟨Zm (by rw[pi];omega),Wk.refl _,_,rfl,c,_,2,_,rfl,rfl,SqT.of (g _ _ ec),rfl,_,rfl,c,_,3,_,rfl,rfl,SqT.of (g _ _ ec),rfl,leN rfl,fun q nq=>hC _ _ ⟨g.trans (Z6 nq _),as++[q],by rw[yV];rfl,?_⟩⟩
  have e:plc (ts.take (i+1))=plc (ts.take i)++[(t.num,t.many)]:=by
   unfold plc
   rw[Zz ht,yV]
   rfl
  rw[e]
  have pa2:Paired (fun a p=>KAt (upd H' q (.tup [.int t.num,.int t.many])) a p) as (plc (ts.take i)):=Paired.mapP pa fun _ _ e=>Z6 nq _ _ _ e
  have fq:KAt (upd H' q (.tup [.int t.num,.int t.many])) q (t.num,t.many):=Z5
  exact pa2.snoc fq
 rintro ys H1 ⟨g1,as,rfl,pa⟩
 rw[xl,zn]at pa
 have al:=yT pa
 have pl:(plc ts).length=ts.length:=pi _
 have gg:=g1
 refine⟨Zn (by rw[pi];omega),?_⟩
 intro l n_l
 generalize hz:upd _ l _=H2
 have gz:=Zj hz n_l
 have A3:=Zx hz
 clear hz
 have gg:=gg.trans gz
 have pa:=Paired.mapP pa fun _ _ e=>gz _ _ e
 refine⟨l,as,rfl,.inl A3,by omega,fun a ha=>?_,fun bs pb pw=>?_⟩
 ·obtain⟨p,_,e⟩:=Paired.mem1 pa a ha
  exact⟨(p.1,p.2),_,_,e,rfl⟩
 obtain⟨ms,pm,kb⟩:=Oi pb pa
 have pw:=fU kb pw
 intro q n_q
 generalize hz:upd _ q _=H3
 have gz:=Zj hz n_q
 have A6:=Zx hz
 clear hz
 have gg:=gg.trans gz
 have kb:=Paired.mapP kb fun _ _ e=>gz _ _ e
 have bl:=yT kb
 have pos:∀p∈ms,1≤p.2:=fun p hp=>by
  obtain⟨t,ht,rfl⟩:=yD.mp (pm.mem_iff.mp hp)
  exact pos t ht
 have es:sm2 ms=sm2 (plc ts):=U8 (pm.map _)
 refine⟨q,rfl,⟨_,SqL.of A6⟩,?_⟩
 refine Xw (xs:=bs.map V.ref) (fun j σ H'=>H'=H3∧∃(o3 o4:Option V),σ=[some (.ref r),some (.int n),some (.int (sm2 (ms.take j))),o3,o4]∧sm2 (ms.take j)<n) ⟨rfl,_,_,rfl,by show(0:Int)<n;omega⟩ ?_ ?_ ?_
 ·rintro j σ H' _ ⟨rfl,_⟩
  exact SqL.of A6
 ·rintro j x σ H' N B1 R hN hR hx ⟨rfl,o3,o4,rfl,lt⟩
  rw[y9]at hx
  obtain⟨b,hb,rfl⟩:=zO.mp hx
  obtain⟨p,hp,AZ⟩:=Wi kb hb
  have dp:=Uw hp
  have st:sm2 (ms.take (j+1))=sm2 (ms.take j)+p.2:=by rw[Zz hp,Rp];simp[sm2]
  refine⟨b,_,rfl,SqT.of AZ,rfl,_,_,rfl,_,_,rfl,rfl,_,rfl,_,rfl,_,_,rfl,rfl,_,rfl,_,rfl,_,_,rfl,rfl,_,rfl,?_⟩
  by_cases c:sm2 (ms.take j)+p.2 ≥ n
  ·rw[yG c]
   have tk:=oo pos (j+1)
   refine W3 ⟨_,rfl,hR _ _ (hq (by omega) p.1 _ gg ?_)⟩
   have ems:ms=ms.take j++p::ms.drop (j+1):=by rw[←dp,zM]
   obtain⟨w1,w2⟩:=gP pw ems
   have q1:IsPl ms n p.1:=by
    rw[ems]
    refine tY w1 w2 (fun q hq=>?_) (fun q hq=>?_) (by omega) (by omega)
    ·have:=pos q (List.mem_of_mem_drop hq);omega
    ·have:=pos q (Au hq);omega
   exact⟨by rw[←Sc pm];exact q1.1,fun y hy=>by rw[←Sc pm];exact q1.2 y hy⟩
  ·rw[ze c]
   exact Xd (hN _ _ ⟨rfl,some (.int p.1),some (.int p.2),by rw[st];rfl,by omega⟩)
 ·rintro σ H' ⟨rfl,o3,o4,rfl,lt⟩
  rw[pi,bl,zn]at lt
  exact hq0 (by omega) _ gg
structure Wm(K:W.Frag)(S:Addr)(ns:List Int)(a q r1 r2:Addr)(AT or:Int)(ps:Sps)(H0 H:Hp):Prop where
 pn:Pn K S ns H a
 lad:LadAt H q AT or (ag ps) ps
 dl:DV (av a H) (.ref r1) (aP (a7 (aB ps)))
 dh:DV (av a H) (.ref r2) (aP (a7 (ak ps)))
 gg:Grw a H0 H
section
variable{K:W.Frag}{S a q r1 r2:Addr}{ns:List Int}{AT or:Int}{ps:Sps}{H0 H H':Hp}
theorem Wm.step(h:Wm K S ns a q r1 r2 AT or ps H0 H)(hp:Pn K S ns H' a)(g:Grw a H H'):Wm K S ns a q r1 r2 AT or ps H0 H':=⟨hp,k9 h.pn g h.lad,h.dl.mono g,h.dh.mono g,h.gg.trans g⟩
theorem Wm.same(h:Wm K S ns a q r1 r2 AT or ps H0 H)(g:Same H H'):Wm K S ns a q r1 r2 AT or ps H0 H':=h.step (h.pn.same g) (h.pn.grw g)
end
theorem m5{X:Cx}(K:W.Frag)(hK:X.K=K)(hc:X.calm=true):bH X (.builtin "sum") (fun xs H Q=>∃(p:Addr)(ns:List Int),xs=[.ref p]∧SqL K H p (ns.map V.int)∧Q (.int ns.sum) H):=by
 subst hK
 exact Vj hc
theorem kr(ns:List (Int×Int))(x:Int):iF (a7 ns) x=mam ns x:=by rw[←fg,S9]
theorem Tv(ns:List (Int×Int)):(a7 ns).length=ns.length:=pi _
theorem f_(ps:Sps):(aB ps).length=ps.length:=pi _
theorem Pd(ps:Sps):(ak ps).length=ps.length:=pi _
theorem rC(ns:List (Int×Int)):((a7 ns).map fun t=>t.num * t.many).sum=sma ns:=by
 unfold a7 sma
 rw[zf]
 rfl
theorem re{ps:Sps}(h:pV ps):∀t∈a7 (aB ps),1≤t.many:=fun t ht=>by
 obtain⟨p,hp,rfl⟩:=yD.mp ht
 obtain⟨z,hz,rfl⟩:=yD.mp hp
 exact h z hz
theorem iI{ps:Sps}(h:pV ps):∀t∈a7 (ak ps),1≤t.many:=fun t ht=>by
 obtain⟨p,hp,rfl⟩:=yD.mp ht
 obtain⟨z,hz,rfl⟩:=yD.mp hp
 exact h z hz
theorem dv2{H:Hp}{p:Addr}{x y:Int}(e:H p=some (.tup [.int x,.int y])):DV H (.ref p) (.tuple [.int x,.int y]):=.tup e (.cons (.int _) (.cons (.int _) .nil))
def uy(K:W.Frag):Sp:=fun vs H Q _=>∃(a S q r1 r2:Addr)(ns:List Int)(AT or:Int)(ps:Sps),vs=[.ref a,.ref q,.ref r1,.ref r2]∧Wm K S ns a q r1 r2 AT or ps H H∧Sts ps∧pV ps∧0≤ag ps∧(∀p∈aB ps,0≤p.1∧p.1<2 ^ or.toNat)∧(∀p∈ak ps,0≤p.1∧p.1<2 ^ or.toNat)∧1≤or∧or≤10∧ps.length<200∧∀H',Q (.bl true) H'
theorem vO(aE:mg "range"=none)(bd:mg "sum"=none)(ah:Has P w K mg base "_law_take" 1 ["_law_pen_here","_law_most"] (bY K))(b9:Has P w K mg base "at_most_in" 4 ["ladder","x"] vm)(dG:Has P w K mg base "sum_in" 4 ["ladder"] wc)(cL:Has P w K mg base "place_in" 4 ["ladder","number"] vf)(bN:Has P w K mg base "_law_counted" 1 ["_law_things_here","_law_x"] oj)(a_:Has P w K mg base "_law_so_many_th" 1 ["_law_things_here","_law_number"] uo)(F:Fun K "_law_are_met" "_law_are_met" cz f fd):FnOk P w K mg base CX0 5 f fd ["_law_pen_here","_law_ladder","_law_low","_law_high"] (uy K):=by
 refine F.ok Xb (fun vs H Q E h=>?_) (fun cdv A outer s H vs Q E hr h=>?_)
 ·obtain⟨a,S,q,r1,r2,ns,AT,or,ps,rfl,_⟩:=h
  rfl
 obtain⟨a,S,q,r1,r2,ns,AT,or,ps,rfl,wm,st,po,s0,nl,nh,d0,d1,ln,hq⟩:=h
 have tw:=W9 (m:=or) d1
 have tl:(a7 (aB ps)).length=ps.length:=by rw[Tv,f_]
 have th:(a7 (ak ps)).length=ps.length:=by rw[Tv,Pd]
 refine⟨_,(Z2 (Xe zy rfl (Wb rfl aE (Z1 Z3 Z0 (by rfl))) (Z8 (i:=4) Xb.nd rfl (Or.inl rfl))
 (Z2 (Zw 5 Xb.nd rfl (Or.inl rfl) (Z4 ah hr (Z1 (pv 0) (Z1 (Zb P1 Z3 (Zt Y6 (pv 1) Z3 (fun _ _=>rfl))) Z0 (by rfl)) (by rfl))) (by rfl) (by rfl))
 (Z7 (Yl (Zi (P2 hr.units) (Z4 b9 hr (Z1 (pv 1) (Z1 (pv 5) Z0 (by rfl)) (by rfl))) (Zr (Z1 (Z4 bN hr (Z1 (pv 3) (Z1 (pv 5) Z0 (by rfl)) (by rfl))) (Z1 (Z4 bN hr (Z1 (pv 2) (Z1 (pv 5) Z0 (by rfl)) (by rfl))) Z0 (by rfl)) (by rfl))) (Zk _)) (Z7 (Ze Va)) Zu)))) Zd),?_⟩
 refine⟨6,rfl,leI rfl,ltI rfl,?_⟩
 refine Wp (lo:=0) (n:=6) (fun i σ H'=>∃(o4 o5:Option V),σ=[some (.ref a),some (.ref q),some (.ref r1),some (.ref r2),o4,o5,none,none,none]∧Wm K S ns a q r1 r2 AT or ps H H') ⟨_,_,rfl,wm⟩ ?_ ?_
 ·clear wm
  rintro i σ H1 N B R hN hR hi ⟨o4,o5,rfl,wm⟩
  obtain⟨c,as,A6,_⟩:=wm.lad.at_
  refine⟨_,rfl,_,rfl,q,_,1,_,rfl,rfl,SqT.of A6,rfl,_,_,rfl,rfl,⟨by omega,by omega,by decide⟩,a,S,ns,_,rfl,wm.pn,by rw[Ai];omega,by rw[Ai];omega,fun x H2 x0 x1 hp g2=>?_⟩
  have wm:=wm.step hp g2
  refine⟨_,rfl,_,rfl,q,AT,or,_,x,ps,rfl,wm.lad,st,by omega,fun t H3 g3 A7=>?_⟩
  have wm:=wm.same g3
  refine⟨_,rfl,_,rfl,r2,_,x,rfl,wm.dh.mono Yc,by omega,fun H4 g4=>?_⟩
  have wm:=wm.same g4
  refine⟨_,rfl,_,rfl,r1,_,x,rfl,wm.dl.mono Yc,by omega,fun H5 g5=>⟨leN rfl,fun v n_v=>?_⟩⟩
  have wm:=wm.same g5
  rw[kr,kr]
  have gz:=Z6 n_v (.tup [.int (mam (ak ps) x),.int (mam (aB ps) x)])
  have e_v:(upd H5 v (.tup [.int (mam (ak ps) x),.int (mam (aB ps) x)])) v=some (.tup [.int (mam (ak ps) x),.int (mam (aB ps) x)]):=Z5
  have A7:=gz _ _ (g5 _ _ (g4 _ _ A7))
  have wm:=wm.same gz
  generalize upd H5 v (.tup [.int (mam (ak ps) x),.int (mam (aB ps) x)])=H6 at gz e_v A7 wm⊢
  refine⟨_,_,dv2 A7,dv2 e_v,Yo (Wy _ _) (by decide),Yo (Wy _ _) (by decide),_,rfl,?_⟩
  rw[Si (Wy _ _)]
  exact Xd (hN _ _ ⟨_,_,rfl,wm⟩)
 clear wm
 rintro σ H1 ⟨o4,o5,rfl,wm⟩
 refine⟨_,(Z2 (Zw 6 Xb.nd rfl (Or.inl rfl) (Zb Zs Z3 (Zb Xy (Zb X7 (Z4 ah hr (Z1 (pv 0) (Z1 (Zb Ub Z3 Z3) Z0 (by rfl)) (by rfl))) (Zt Y6 (pv 1) Z3 (fun _ _=>rfl))) (Zb Ub Z3 Z3))) (by rfl) (by rfl)) Zd),?_⟩
 refine⟨_,rfl,_,_,rfl,rfl,gE rfl rfl rfl,a,S,ns,_,rfl,wm.pn,Wz rfl,ltI rfl,fun z1 H2 x0 x1 hp g2=>?_⟩
 have wm:=wm.step hp g2
 have x1:z1<1000000:=x1
 obtain⟨c,as,A6,_⟩:=wm.lad.at_
 refine⟨_,rfl,q,_,3,_,rfl,rfl,SqT.of A6,rfl,_,_,rfl,rfl,Or.inl ⟨by omega,by omega⟩,_,_,rfl,rfl,gE rfl rfl rfl,_,_,rfl,rfl,qz rfl rfl,_,_,rfl,rfl,?_⟩
 have n0:1≤1+z1 * ag ps / 10 ^ (6:Int).toNat:=by
  have:=Int.ediv_nonneg (Int.mul_nonneg x0 s0) (show(0:Int)≤10 ^ (6:Int).toNat by decide)
  omega
 dsimp only
 generalize 1+z1 * ag ps / 10 ^ (6:Int).toNat=n at n0⊢
 clear x0 x1 hp g2 A6
 refine⟨_,(Z2 (Zw 7 Xb.nd rfl (Or.inl rfl) (Zr (Z1 (Z4 a_ hr (Z1 (pv 2) (Z1 (pv 6) Z0 (by rfl)) (by rfl))) (Z1 (Z4 a_ hr (Z1 (pv 3) (Z1 (pv 6) Z0 (by rfl)) (by rfl))) Z0 (by rfl)) (by rfl))) (by rfl) (by rfl)) Zd),?_⟩
 have el:sm2 (plc (a7 (aB ps)))=ag ps:=by rw[S9,lc]
 have eh:sm2 (plc (a7 (ak ps)))=ag ps:=by rw[S9,ic]
 refine We (fun σ' H'=>∃d:Addr,σ'=[some (.ref a),some (.ref q),some (.ref r1),some (.ref r2),o4,o5,some (.int n),some (.ref d),none]∧Wm K S ns a q r1 r2 AT or ps H H'∧(n≤ag ps→∃x y:Int,IsPl (aB ps) n x∧IsPl (ak ps) n y∧KAt H' d (x,y))) ?_ ?_
 ·intro nx hnx
  refine⟨_,rfl,_,rfl,r1,_,n,rfl,wm.dl.mono Yc,by omega,re po,n0,fun le x H3 g3 px=>?_,fun lt H3 g3=>?_⟩
  ·have wm:=wm.same g3
   refine⟨_,rfl,_,rfl,r2,_,n,rfl,wm.dh.mono Yc,by omega,iI po,n0,fun _ y H4 g4 py=>⟨leN rfl,fun v n_v=>hnx _ _ ⟨v,rfl,(wm.same g4).same (Z6 n_v _),fun _=>⟨x,y,?_,?_,Z5⟩⟩⟩,fun lt=>absurd lt (by omega)⟩
   ·rw[S9]at px
    exact px
   ·rw[S9]at py
    exact py
  ·have wm:=wm.same g3
   refine⟨_,rfl,_,rfl,r2,_,n,rfl,wm.dh.mono Yc,by omega,iI po,n0,fun le=>absurd le (by omega),fun _ H4 g4=>⟨leN rfl,fun v n_v=>hnx _ _ ⟨v,rfl,(wm.same g4).same (Z6 n_v _),fun z=>absurd z (by omega)⟩⟩⟩
 clear wm
 rintro σ H2 ⟨d,rfl,wm,due⟩
 refine⟨_,(Z2 (Yl (PW.pt (Qu (Zi Vb (pv 6) (Zt Y6 (pv 1) Z3 (fun _ _=>rfl)) (Zk _)) (S3 (Zi (P2 hr.units) (Z4 cL hr (Z1 (pv 1) (Z1 (pv 6) Z0 (by rfl)) (by rfl))) (pv 7) (Zk _))))) (Z7 (Ze Va)) Zu) Zd),?_⟩
 refine We (fun σ' H'=>σ'=[some (.ref a),some (.ref q),some (.ref r1),some (.ref r2),o4,o5,some (.int n),some (.ref d),none]∧Wm K S ns a q r1 r2 AT or ps H H') ?_ ?_
 ·intro nx hnx
  obtain⟨c,as,A6,_⟩:=wm.lad.at_
  refine⟨_,rfl,_,rfl,q,_,3,_,rfl,rfl,SqT.of A6,rfl,_,_,rfl,rfl,_,rfl,?_⟩
  by_cases le:n≤ag ps
  ·rw[yG le]
   obtain⟨x,y,px,py,k⟩:=due le
   refine W3 ⟨_,rfl,_,rfl,q,AT,or,ps,n,rfl,wm.lad,st,ln,po,n0,le,fun t x' y' H3 g3 A7 px' py'=>⟨_,rfl,?_⟩⟩
   cases px.uniq px'
   cases py.uniq py'
   refine⟨_,_,dv2 A7,dv2 (g3 _ _ k),Yo (Wy _ _) (by decide),Yo (Wy _ _) (by decide),_,rfl,?_⟩
   rw[Si (Wy _ _)]
   exact Xd (hnx _ _ ⟨rfl,wm.same g3⟩)
  ·rw[ze le]
   exact Xd (hnx _ _ ⟨rfl,wm⟩)
 clear wm due
 rintro σ H3 ⟨rfl,wm⟩
 refine⟨_,(Z2 (Rr (i:=8) Xb.nd rfl rfl (own:=["_law_things_here"]) (CompOk.of rfl rfl (by rfl) (by rfl) (by rfl)) (Y4 (Yh (Z1 (pv 2) (Z1 (pv 3) Z0 (by rfl)) (by rfl))))
  (fun _ _ _ _ _=>(Z8 (i:=0) T6 rfl (Or.inl rfl) (Or.inr rfl))) (fun _ _ _ _ _=>X5)
  (fun _ _ _ _ _=>(Zo (m5 K rfl rfl) rfl bd AE (Z1 (X6 (own:=["_law_thing"]) (CompOk.of rfl rfl (by rfl) (by rfl) (by rfl)) (pC K rfl (pv 0))
  (fun _ _ _ _ _=>(Z8 (i:=0) T5 rfl (Or.inl rfl) (Or.inr rfl))) (fun _ _ _ _ _=>X5)
  (fun _ _ _ _ _=>(Zb X7 (Zt (Ut K rfl) (pv 0) Z3 (fun _ _=>rfl)) (Zt (Ut K rfl) (pv 0) Z3 (fun _ _=>rfl))))) Z0 (by rfl))))) Zd),?_⟩
 refine⟨_,rfl,_,rfl,leN rfl,fun L n_L=>?_⟩
 have wm:=wm.same (Z6 n_L (.lst [.ref r1,.ref r2]))
 have e_L:(upd H3 L (.lst [.ref r1,.ref r2])) L=some (.lst [.ref r1,.ref r2]):=Z5
 generalize upd H3 L (.lst [.ref r1,.ref r2])=H4 at wm e_L⊢
 refine⟨L,rfl,⟨_,SqL.of e_L⟩,?_⟩
 refine X4 (xs:=[.ref r1,.ref r2]) (fun i ys H'=>Same H4 H'∧ys=([V.int (sma (aB ps)),V.int (sma (ak ps))]).take i) ⟨Same.refl _,rfl⟩ ?_ ?_ ?_
 ·rintro i ys H' _ ⟨g,_⟩
  exact SqL.of (g _ _ e_L)
 ·rintro i x ys H' C hx ⟨g,rfl⟩ hC
  have wm:=wm.same g
  obtain⟨r,ms,rfl,dv,hb,hl,hg⟩:∃(r:Addr)(ms:List (Int×Int)),x=.ref r∧DV H' (.ref r) (aP (a7 ms))∧(∀p∈ms,0≤p.1∧p.1<2 ^ or.toNat)∧ms.length<200∧([V.int (sma (aB ps)),V.int (sma (ak ps))]).take (i+1)=([V.int (sma (aB ps)),V.int (sma (ak ps))]).take i++[V.int (sma ms)]:=by
   rcases i with _ | _ | i
   ·cases hx
    exact⟨r1,aB ps,rfl,wm.dl.mono Yc,nl,by rw[f_];exact ln,rfl⟩
   ·cases hx
    exact⟨r2,ak ps,rfl,wm.dh.mono Yc,nh,by rw[Pd];exact ln,rfl⟩
   ·cases hx
  have tk:=List.length_take_le' i [V.int (sma (aB ps)),V.int (sma (ak ps))]
  refine⟨Zm (Nat.lt_of_le_of_lt tk (leN rfl)),Wk.refl _,?_⟩
  obtain⟨_,xs,e0,e_r,ds⟩:=DV.list_inv dv
  cases e0
  refine⟨_,rfl,r,rfl,⟨_,SqL.of e_r⟩,?_⟩
  refine Wt (fun _=>true) (fun t=>.int (t.num * t.many)) e_r ds (by rw[Tv];omega) ?_ ?_
  ·rintro t c ys C mt ec h1 _
   obtain⟨p,hp,rfl⟩:=yD.mp mt
   obtain⟨t0,t1⟩:=hb p hp
   exact⟨Wk.refl _,_,rfl,c,_,2,_,rfl,rfl,SqT.of ec,rfl,_,rfl,c,_,3,_,rfl,rfl,SqT.of ec,rfl,_,_,rfl,rfl,Or.inl ⟨by show _<p.1;omega,by show p.1<_;omega⟩,h1 rfl⟩
  intro p n_p
  have et:(((a7 ms).filter fun _=>true).map fun t=>V.int (t.num * t.many))=((a7 ms).map fun t=>t.num * t.many).map V.int:=by
   rw[AA.mpr (fun _ _=>rfl),zf]
   rfl
  rw[et]
  refine⟨p,_,rfl,SqL.of Z5,?_⟩
  rw[rC]
  exact hC _ _ ⟨g.trans (Z6 n_p _),hg.symm⟩
 rintro ys H5 ⟨g,rfl⟩
 have wm:=wm.same g
 refine⟨leN rfl,fun p n_p=>?_⟩
 have wm:=wm.same (Z6 n_p (.lst [.int (sma (aB ps)),.int (sma (ak ps))]))
 have A0:(upd H5 p (.lst [.int (sma (aB ps)),.int (sma (ak ps))])) p=some (.lst [.int (sma (aB ps)),.int (sma (ak ps))]):=Z5
 show vh _ _ _ _ (upd H5 p (.lst [.int (sma (aB ps)),.int (sma (ak ps))]))
 generalize upd H5 p (.lst [.int (sma (aB ps)),.int (sma (ak ps))])=H6 at wm A0⊢
 refine⟨_,(Z7 (Ze (Sa (u_ hr.units) (Z4 dG hr (Z1 (pv 1) Z0 (by rfl))) (Zr (Z1 (Zt Y7 (pv 8) Z3 (fun _ _=>rfl)) (Z1 (Zt Y7 (pv 8) Z3 (fun _ _=>rfl)) Z0 (by rfl)) (by rfl))) (Zk _)))),?_⟩
 refine⟨_,rfl,q,AT,or,_,ps,rfl,wm.lad,st,by omega,fun t H7 g7 A7=>?_⟩
 have A0:=g7 _ _ A0
 refine⟨_,rfl,p,_,0,_,rfl,rfl,SqL.of A0,rfl,_,rfl,p,_,1,_,rfl,rfl,SqL.of A0,rfl,leN rfl,fun v n_v=>?_⟩
 refine⟨_,_,dv2 (Z6 n_v _ _ _ A7),dv2 Z5,Yo (Wy _ _) (by decide),Yo (Wy _ _) (by decide),?_⟩
 rw[Si (Wy _ _)]
 exact hq _
theorem jy{AT or:Int}(d0:0≤or):∀{t:Tr},(∀s∈t.streams,∀x∈s,ThL or x)→Lok AT or (glT AT or t)∧ag (glT AT or t)=bg t.all∧(glT AT or t).length≤t.all.length
 | .leaf ts,h=>Q0 d0 (h ts (.head _))
 | .node l r,h=>by
  obtain⟨a1,a2,a3⟩:=jy (AT:=AT) d0 (t:=l) fun s hs=>h s (zw _ hs)
  obtain⟨b1,b2,b3⟩:=jy (AT:=AT) d0 (t:=r) fun s hs=>h s (yP _ hs)
  obtain⟨c1,c2,c3⟩:=Up (AT:=AT) a1.pok b1.pok
  refine⟨c1,?_,?_⟩
  ·show ag (bj AT or (glT AT or l) (glT AT or r))=bg (l.all++r.all)
   rw[c2,a2,b2]
   unfold bg
   rw[yV,AD]
  ·show(bj AT or (glT AT or l) (glT AT or r)).length≤(l.all++r.all).length
   rw[yJ]
   omega
abbrev sA(T:Addr)(H:Hp):Prop:=LamAt T (jd ck) qGT H
theorem To{T:Addr}{H:Hp}(h:sA T H):(∀xs,H T≠some (.lst xs))∧(∀xs,H T≠some (.tup xs))∧∀o u,H T≠some (.frz o u):=by
 rcases h.tab with e | ⟨_,e,_⟩ <;> (rw[e];exact⟨fun _ z=>(nomatch z),fun _ z=>(nomatch z),fun _ _ z=>(nomatch z)⟩)
def Wv(a T:Addr)(H:Hp):Hp:=av T (av a H)
structure Wo(K:W.Frag)(S:Addr)(ns:List Int)(a T:Addr)(H:Hp):Prop where
 pn:Pn K S ns H a
 lam:sA T H
section
variable{K:W.Frag}{S a T p:Addr}{ns:List Int}{H H' H1:Hp}
theorem Yd:Same (Wv a T H) H:=fun b u e=>(Zc (Zc e).2).2
theorem N3:Same (Wv a T H) (av a H):=fun b u e=>(Zc e).2
theorem O2{b:Addr}{u:HO}(e:H b=some u)(na:b≠a)(nT:b≠T):Wv a T H b=some u:=by
 unfold Wv
 rw[Zh nT,Zh na]
 exact e
theorem jV{b:Addr}{u:HO}(e:Wv a T H b=some u):b≠a∧b≠T∧H b=some u:=⟨(Zc (Zc e).2).1,(Zc e).1,Yd _ _ e⟩
theorem Vm(g:Same H H'):Same (Wv a T H) (Wv a T H'):=fun b u e=>by
 obtain⟨h1,h2,h3⟩:=jV e
 exact O2 (g _ _ h3) h1 h2
theorem N4(g:Grw a H H'):Same (Wv a T H) (Wv a T H'):=fun b u e=>by
 obtain⟨h1,h2,h3⟩:=jV e
 exact O2 (Zc (g b u (by rw[Zh h1];exact h3))).2 h1 h2
theorem wE(g:Same (av T H) (av T H')):Same (Wv a T H) (Wv a T H'):=fun b u e=>by
 obtain⟨h1,h2,h3⟩:=jV e
 exact O2 (Zc (g b u (by rw[Zh h2];exact h3))).2 h1 h2
theorem Wo.at_(h:Wo K S ns a T H):∃xs,H a=some (.lst xs):=let ⟨_,_,e⟩:=h.pn.at_;⟨_,e⟩
theorem Wo.tT(h:Wo K S ns a T H):H T≠none:=by
 rcases h.lam.tab with e | ⟨_,e,_⟩ <;> (rw[e];exact fun z=>nomatch z)
theorem Wo.same(h:Wo K S ns a T H)(g:Same H H'):Wo K S ns a T H':=⟨h.pn.same g,h.lam.mono g⟩
theorem Wo.grw(h:Wo K S ns a T H)(hp:Pn K S ns H' a)(g:Grw a H H'):Wo K S ns a T H':=by
 refine⟨hp,?_⟩
 obtain⟨xs,e⟩:=h.at_
 have step:∀{x:Addr}{o:HO},H x=some o→o≠.lst xs→H' x=some o:=fun{x o} ex no=>(Zc (g x _ (by rw[Zh (Ta ex e no)];exact ex))).2
 rcases h.lam.tab with z | ⟨c,z,zc⟩
 ·exact⟨.inl (step z (by intro q;cases q))⟩
 ·exact⟨.inr ⟨c,step z (by intro q;cases q),step zc (by intro q;cases q)⟩⟩
theorem Wo.tt(h:Wo K S ns a T H)(g:Same (av T H) (av T H'))(l:sA T H'):Wo K S ns a T H':=by
 refine⟨?_,l⟩
 obtain⟨⟨i,r,ea⟩,s,f⟩:=h.pn
 have step:∀{x:Addr}{o:HO},H x=some o→x≠T→H' x=some o:=fun{x o} ex no=>(Zc (g x _ (by rw[Zh no];exact ex))).2
 refine⟨⟨i,r,step ea fun z=>(To h.lam).1 _ (by rw[←z];exact ea)⟩,?_,f⟩
 rcases s with(s | ⟨u,s⟩) | s
 ·exact .inl (.inl (step s fun z=>(To h.lam).1 _ (by rw[←z];exact s)))
 ·exact .inl (.inr ⟨u,step s fun z=>(To h.lam).2.2 _ _ (by rw[←z];exact s)⟩)
 ·exact .inr s
theorem Wo.tup(h:Wo K S ns a T H){b:Addr}{xs:List V}(e:H b=some (.tup xs)):Wv a T H b=some (.tup xs):=by
 obtain⟨ys,ea⟩:=h.at_
 exact O2 e (fun z=>by rw[z,ea]at e;cases e) (fun z=>(To h.lam).2.1 _ (by rw[←z];exact e))
theorem Wo.lad(h:Wo K S ns a T H){q:Addr}{AT or total:Int}{ps:Sps}(l:LadAt H q AT or total ps):LadAt (Wv a T H) q AT or total ps:=let ⟨c,as,e1,e2,r⟩:=l.at_;⟨c,as,h.tup e1,h.tup e2,Paired.mapP r fun _ _ ⟨y,f1,f2⟩=>⟨y,h.tup f1,h.tup f2⟩⟩
theorem Wo.lst(h:Wo K S ns a T H){b:Addr}{xs:List V}(e:H b=some (.lst xs))(ne:b≠a):Wv a T H b=some (.lst xs):=O2 e ne (fun z=>(To h.lam).1 _ (by rw[←z];exact e))
theorem Wo.ths(h:Wo K S ns a T H):∀{xs:List V}{ts:List Th},DVs H xs (ts.map Th.D)→DVs (Wv a T H) xs (ts.map Th.D):=by
 intro xs
 induction xs with
 | nil=>
  intro ts d
  cases ts with
  | nil=>exact .nil
  | cons t ts=>obtain⟨_,_,e,_⟩:=DVs.cons_inv d;cases e
 | cons z zs ih2=>
  intro ts d
  cases ts with
  | nil=>have:=d.nil_inv;cases this
  | cons t ts=>
   obtain⟨z',zr,e,d4,d5⟩:=DVs.cons_inv d
   cases e
   refine .cons ?_ (ih2 d5)
   obtain⟨c,cs,rfl,ec,d6⟩:=DV.tup_inv d4
   refine .tup (h.tup ec) ?_
   obtain⟨_,_,rfl,k1,d6⟩:=d6.cons_inv
   obtain⟨_,_,rfl,k2,d6⟩:=d6.cons_inv
   obtain⟨_,_,rfl,k3,d6⟩:=d6.cons_inv
   obtain⟨_,_,rfl,k4,d6⟩:=d6.cons_inv
   have:=d6.nil_inv
   subst this
   cases k1
   cases k2
   cases k3
   cases k4
   exact .cons (.int _) (.cons (.str _) (.cons (.int _) (.cons (.int _) .nil)))
theorem Wo.str(h:Wo K S ns a T H){r:Addr}{ts:List Th}(ne:r≠a)(d:DV H (.ref r) (aP ts)):DV (Wv a T H) (.ref r) (aP ts):=by
 obtain⟨_,xs,e0,e,q⟩:=DV.list_inv d
 cases e0
 exact .lst (h.lst e ne) (h.ths q)
theorem Wq{o:HO}(hz:upd H p o=H1)(n:H p=none)(h:Wo K S ns a T H):Wo K S ns a T H1∧Same (Wv a T H) (Wv a T H1)∧Wv a T H1 p=some o:=by
 subst hz
 refine⟨h.same (Z6 n o),Vm (Z6 n o),O2 Z5 (h.pn.ne n) fun z=>h.tT (by rw[←z];exact n)⟩
end
def lF(K:W.Frag)(T:Addr):Sp:=fun vs H Q _=>∃(a:Addr)(ns:List Int),vs=[.ref a]∧SqL K H a (ns.map V.int)∧ns.length≤63∧sA T H∧∀H',Q (.bl true) H'
theorem wf{t:Tr}{or:Int}(h:Trk or t):∀x∈t.all,ThK or x:=fun x hx=>by
 rw[Tr.all_eq]at hx
 obtain⟨s,hs,hx⟩:=List.mem_flatten.mp hx
 exact h s hs x hx
theorem l7{ps:Sps}{us:List Th}(h:Can ps (iZ us)):sm2 (plc us)=ag ps:=by
 rw[h.all,←Uo,lQ,qF]
theorem qW(ts:List Th)(x:Th):sm2 (plc (ts++[x]))=sm2 (plc ts)+x.many:=by
 unfold plc
 rw[yV,Rp]
 simp[sm2]
theorem oO(x:Th)(ts:List Th):sm2 (plc (x::ts))=x.many+sm2 (plc ts):=by
 unfold plc sm2
 rw[yE,yE,yZ]
theorem cut1(xs:List V):cU xs (some 1) none=xs.drop 1:=by
 unfold cU
 have h:=HT.sIx_nat xs.length 0 1
 rw[show((1:Nat):Int)=1 from rfl]at h
 rw[h,HT.sIx_none]
 rcases xs with _ | ⟨z,zs⟩
 ·rfl
 ·rw[zd,Nat.min_eq_left (by omega)]
  exact Az (by rw[List.length_drop,zd];omega)
theorem p9{H:Hp}{xs:List V}{ds:List PyData}(h:DVs H xs ds):DVs H (xs.drop 1) (ds.drop 1):=by
 cases h with
 | nil=>exact .nil
 | cons _ t=>exact t
structure StAt(G:Hp)(AT or:Int)(ps:Sps)(x:V):Prop where
 at_:∃(r:Addr)(ts:List Th),x=.ref r∧DV G (.ref r) (aP ts)∧Fine AT or ps ts∧∀t∈ts,ThK or t
theorem StAt.mono{G G':Hp}{AT or:Int}{ps:Sps}{x:V}(h:StAt G AT or ps x)(g:Same G G'):StAt G' AT or ps x:=let ⟨r,ts,e,d,f⟩:=h.at_;⟨r,ts,e,d.mono g,f⟩
section
variable{P:Program}{w:World}{K:W.Frag}{mg:Str→Option Value}{base:Heap}{f T:Addr}{fd:FuncData}
theorem vF(rE:Has P w K mg base "_law_pen" 1 ["_law_script"] (tW K))(mJ:Has P w K mg base "_law_sizes" 2 ["_law_pen_here"] (ku K))(oZ:Has P w K mg base "_law_tree" 4 ["_law_pen_here","_law_deep","_law_most"] (xT K))(b7:Has P w K mg base "_law_things" 40 ["_law_tree_here"] (l5 40))(ah:Has P w K mg base "_law_take" 1 ["_law_pen_here","_law_most"] (bY K))(eu:Has P w K mg base "grown_ladder" 10 ["room","deep","tree"] (wv T))(eQ:Has P w K mg base "_law_dealt" 4 ["_law_pen_here","_law_counts_here","_law_way"] (ud K))(n_:Has P w K mg base "lowest" 4 ["ladder"] (kc aB))(nE:Has P w K mg base "highest" 4 ["ladder"] (kc ak))(jm:Has P w K mg base "fits" 7 ["stream","ladder"] pR)(dt:Has P w K mg base "_law_bounds_hold" 5 ["_law_pen_here","_law_ladder","_law_things_here"] (xr K))(gC:Has P w K mg base "_law_are_met" 5 ["_law_pen_here","_law_ladder","_law_low","_law_high"] (uy K))(F:Fun K "law" "law" cV f fd):FnOk P w K mg base CX0 41 f fd ["_law_script"] (lF K T):=by
 refine F.ok Ww (fun vs H Q E h=>?_) (fun cdv A outer s H vs Q E hr h=>?_)
 ·obtain⟨S,ns,rfl,_⟩:=h
  rfl
 obtain⟨S,ns,rfl,hS,h63,lam,hq⟩:=h
 refine⟨_,(Z2 (Zw 1 Ww.nd rfl (Or.inl rfl) (Z4 rE hr (Z1 (pv 0) Z0 (by rfl))) (by rfl) (by rfl)) Zd),?_⟩
 refine⟨_,rfl,S,ns,rfl,hS,h63,fun a H1 n_a g1 hp=>?_⟩
 have wo:Wo K S ns a T H1:=⟨hp,lam.mono g1⟩
 clear hS g1 n_a hp lam
 refine⟨_,(Z2 (Yy (Z4 mJ hr (Z1 (pv 1) Z0 (by rfl))) (vB rfl (Z9 (Z8 (i:=2) Ww.nd rfl (Or.inl rfl)) (Z9 (Z8 (i:=3) Ww.nd rfl (Or.inl rfl)) Zp)))) Zd),?_⟩
 refine⟨_,rfl,a,S,ns,rfl,wo.pn,fun l AT or H2 A3 r0 r1 d0 d1 hp g2=>⟨l,_,rfl,Pe A3,rfl,_,_,rfl,_,_,rfl,rfl,?_⟩⟩
 have wo:=wo.grw hp g2
 clear A3 hp g2
 refine⟨_,(Z2 (Zw 4 Ww.nd rfl (Or.inl rfl) (Z4 oZ hr (Z1 (pv 1) (Z1 (pv 3) (Z1 Z3 Z0 (by rfl)) (by rfl)) (by rfl))) (by rfl) (by rfl)) Zd),?_⟩
 refine⟨_,rfl,_,rfl,a,S,ns,or,4,rfl,wo.pn,d0,d1,by decide,by decide,fun v t H3 tk tsz tal k_v hp g3=>?_⟩
 have wo:=wo.grw hp g3
 have k_v:DV (Wv a T H3) v t.D:=Q8 (fun xs e=>(To wo.lam).1 xs (Zc e).2) (fun xs e=>(To wo.lam).2.1 xs (Zc e).2) k_v
 have hht:=qJ t
 have tal2:t.all.length≤24:=by omega
 have tw:∀s∈t.streams,∀x∈s,ThL or x:=fun s hs x hx=>(tk s hs x hx).1
 have ta:=wf tk
 clear hp g3
 have gg:Same (Wv a T H3) (Wv a T H3):=Same.refl _
 skip
 refine⟨_,(Z2 (Zw 5 Ww.nd rfl (Or.inl rfl) (Z4 eu hr (Z1 (pv 2) (Z1 (pv 3) (Z1 (pv 4) Z0 (by rfl)) (by rfl)) (by rfl))) (by rfl) (by rfl)) Zd),?_⟩
 refine⟨_,rfl,_,rfl,_,rfl,v,AT,or,t,rfl,r0,r1,by omega,by omega,k_v.mono Yd,by omega,tw,by omega,wo.lam,fun q H6 g6 l6 A4=>?_⟩
 have gz:=wE (a:=a) g6
 have wo:=wo.tt g6 l6
 have gg:=gg.trans gz
 have k_v:=k_v.mono gz
 have A4:=wo.lad A4
 skip
 have ql:=(jy (AT:=AT) (by omega) tw).2.2
 have gl:=xM r0 (by omega) tw
 have dm0:=(vN (AT:=AT) (by omega) tw).1
 generalize glT AT or t=ps at A4 ql gl dm0
 have fine:∀{ts:List Th},Dom ps ts→ts.length≤150→(∀x∈ts,ThK or x)→Fine AT or ps ts:=fun dm l h=>⟨r0,r1,d0,d1,gl,dm,by omega,l,fun x hx=>(h x hx).1⟩
 have st:=Kok.sts gl.pok.kok d1
 have inL:∀p∈ps,aq p.1≤aq p.1∧aq p.1≤am p.1:=fun p _=>⟨y8 _,by have:=Pi p.1;have:=Yg p.1.1.toNat;omega⟩
 have inH:∀p∈ps,aq p.1≤am p.1∧am p.1≤am p.1:=fun p _=>⟨by have:=Pi p.1;have:=Yg p.1.1.toNat;omega,y8 _⟩
 have okL:∀x∈a7 (aB ps),ThK or x:=oE (f:=aq) gl.pok inL
 have okH:∀x∈a7 (ak ps),ThK or x:=oE (f:=am) gl.pok inH
 have fL:Fine AT or ps (a7 (aB ps)):=fine (rc (f:=aq) gl.pok inL) (by rw[Tv,f_];omega) okL
 have fH:Fine AT or ps (a7 (ak ps)):=fine (rc (f:=am) gl.pok inH) (by rw[Tv,Pd];omega) okH
 refine⟨_,(Z2 (Zw 6 Ww.nd rfl (Or.inl rfl) (Yh (Z1 (Z4 b7 hr (Z1 (pv 4) Z0 (by rfl))) (Z1 (Z4 eQ hr (Z1 (pv 1) (Z1 (Zt Y6 (pv 5) Z3 (fun _ _=>rfl)) (Z1 Z3 Z0 (by rfl)) (by rfl)) (by rfl))) (Z1 (Z4 eQ hr (Z1 (pv 1) (Z1 (Zt Y6 (pv 5) Z3 (fun _ _=>rfl)) (Z1 Z3 Z0 (by rfl)) (by rfl)) (by rfl))) Z0 (by rfl)) (by rfl)) (by rfl))) (by rfl) (by rfl)) Zd),?_⟩
 refine⟨_,rfl,v,t,rfl,k_v.mono Yd,by omega,by omega,fun r2 H7 g7 n_2 d2=>?_⟩
 have ra:=wo.pn.ne n_2
 have gz:=Vm (a:=a) (T:=T) g7
 have wo:=wo.same g7
 have gg:=gg.trans gz
 have k_v:=k_v.mono gz
 have A4:=A4.mono gz
 have k_r:DV (Wv a T H7) (.ref r2) (aP t.all):=wo.str ra d2
 clear d2
 skip
 obtain⟨c,as,A6,A2,pr⟩:=(A4.mono Yd).at_
 refine⟨_,rfl,_,rfl,q,_,2,_,rfl,rfl,SqT.of A6,rfl,a,S,c,ns,as,or,0,ps,rfl,wo.pn,A2,pr,gl.pok,d0,d1,by omega,fun L1 t1 H8 n_L1 ok1 l1 dm1 k_1 hp g8=>?_⟩
 have La:=wo.pn.ne n_L1
 have gz:=N4 (T:=T) g8
 have wo:=wo.grw hp g8
 have gg:=gg.trans gz
 have k_v:=k_v.mono gz
 have A4:=A4.mono gz
 have k_r:=k_r.mono gz
 have k_1:=wo.str La (k_1.mono Yc)
 skip
 clear A6 A2 pr
 obtain⟨c,as,A6,A2,pr⟩:=(A4.mono Yd).at_
 refine⟨_,rfl,_,rfl,q,_,2,_,rfl,rfl,SqT.of A6,rfl,a,S,c,ns,as,or,1,ps,rfl,wo.pn,A2,pr,gl.pok,d0,d1,by omega,fun L2 t2 H9 n_L2 ok2 l2 dm2 k_2 hp g9=>⟨leN rfl,?_⟩⟩
 have La2:=wo.pn.ne n_L2
 have gz:=N4 (T:=T) g9
 have wo:=wo.grw hp g9
 have gg:=gg.trans gz
 have k_v:=k_v.mono gz
 have A4:=A4.mono gz
 have k_r:=k_r.mono gz
 have k_1:=k_1.mono gz
 have k_2:=wo.str La2 (k_2.mono Yc)
 skip
 clear A6 A2 pr
 intro L n_L
 generalize hz:upd _ L _=H10
 have hw:=Wq hz n_L wo
 have wo:=hw.1
 have gz:=hw.2.1
 have e_L:=hw.2.2
 clear hw hz
 have gg:=gg.trans gz
 have k_v:=k_v.mono gz
 have A4:=A4.mono gz
 have k_r:=k_r.mono gz
 have k_1:=k_1.mono gz
 have k_2:=k_2.mono gz
 refine⟨_,(Z2 (Zw 7 Ww.nd rfl (Or.inl rfl) (Z4 n_ hr (Z1 (pv 5) Z0 (by rfl))) (by rfl) (by rfl)) Zd),?_⟩
 refine⟨_,rfl,q,AT,or,_,ps,rfl,A4.mono Yd,st,by omega,fun lo H11 n_lo g11 k_lo=>?_⟩
 have la:=wo.pn.ne n_lo
 have gz:=Vm (a:=a) (T:=T) g11
 have wo:=wo.same g11
 have gg:=gg.trans gz
 have k_v:=k_v.mono gz
 have A4:=A4.mono gz
 have k_r:=k_r.mono gz
 have k_1:=k_1.mono gz
 have k_2:=k_2.mono gz
 have e_L:=gz _ _ e_L
 have k_lo:=wo.str la k_lo
 skip
 refine⟨_,(Z2 (Zw 8 Ww.nd rfl (Or.inl rfl) (Z4 nE hr (Z1 (pv 5) Z0 (by rfl))) (by rfl) (by rfl)) Zd),?_⟩
 refine⟨_,rfl,q,AT,or,_,ps,rfl,A4.mono Yd,st,by omega,fun hi H12 n_hi g12 k_hi=>?_⟩
 have ha:=wo.pn.ne n_hi
 have gz:=Vm (a:=a) (T:=T) g12
 have wo:=wo.same g12
 have gg:=gg.trans gz
 have k_v:=k_v.mono gz
 have A4:=A4.mono gz
 have k_r:=k_r.mono gz
 have k_1:=k_1.mono gz
 have k_2:=k_2.mono gz
 have e_L:=gz _ _ e_L
 have k_lo:=k_lo.mono gz
 have k_hi:=wo.str ha k_hi
 skip
 refine⟨_,(Z2 (Xe zy rfl (Y4 (Zb P3 (pv 6) (Yh (Z1 (pv 7) (Z1 (pv 8) Z0 (by rfl)) (by rfl))))) (Z8 (i:=9) Ww.nd rfl (Or.inl rfl))
 (Z2 (Yl (PW.pt (R9 (Zi rK (Z4 jm hr (Z1 (pv 9) (Z1 (pv 5) Z0 (by rfl)) (by rfl))) Va (Zk _)) (Ti (Sx (U6 (Z4 dt hr (Z1 (pv 1) (Z1 (pv 5) (Z1 (pv 9) Z0 (by rfl)) (by rfl)) (by rfl)))))))) (Z7 (Ze Va)) Zu)
 (Z2 (Yl (U6 (Z4 jm hr (Z1 (Zb P3 (pv 9) (Yh (Z1 (Zr (Z1 Z3 (Z1 Tk (Z1 (Z4 ah hr (Z1 (pv 1) (Z1 (Zb P1 Z3 (pv 3)) Z0 (by rfl)) (by rfl))) (Z1 Z3 Z0 (by rfl)) (by rfl)) (by rfl)) (by rfl))) Z0 (by rfl)))) (Z1 (pv 5) Z0 (by rfl)) (by rfl)))) (Z7 (Ze Va)) Zu)
 (Z7 (Yl (PW.pt (Qu (Zi (P2 hr.units) (pv 9) (Yh Z0) (Zk _)) (S3 (U6 (Z4 jm hr (Z1 (U9 e7 (pv 9) (S7 Z3) S8) (Z1 (pv 5) Z0 (by rfl)) (by rfl))))))) (Z7 (Ze Va)) Zu))))) Zd),?_⟩
 refine⟨_,rfl,_,rfl,_,rfl,leN rfl,?_⟩
 intro M n_M
 generalize hz:upd _ M _=H13
 have hw:=Wq hz n_M wo
 have wo:=hw.1
 have gz:=hw.2.1
 have e_M:=hw.2.2
 clear hw hz
 have gg:=gg.trans gz
 have k_v:=k_v.mono gz
 have A4:=A4.mono gz
 have k_r:=k_r.mono gz
 have k_1:=k_1.mono gz
 have k_2:=k_2.mono gz
 have e_L:=gz _ _ e_L
 have k_lo:=k_lo.mono gz
 have k_hi:=k_hi.mono gz
 refine⟨L,M,_,_,rfl,rfl,Yd _ _ e_L,Yd _ _ e_M,leN rfl,?_⟩
 intro L5 n_L5
 generalize hz:upd _ L5 _=H14
 have hw:=Wq hz n_L5 wo
 have wo:=hw.1
 have gz:=hw.2.1
 have vg:=hw.2.2
 clear hw hz
 have gg:=gg.trans gz
 have k_v:=k_v.mono gz
 have A4:=A4.mono gz
 have k_r:=k_r.mono gz
 have k_1:=k_1.mono gz
 have k_2:=k_2.mono gz
 have e_L:=gz _ _ e_L
 have k_lo:=k_lo.mono gz
 have k_hi:=k_hi.mono gz
 have e_M:=gz _ _ e_M
 have fx:∀x∈[V.ref r2,.ref L1,.ref L2]++[V.ref lo,.ref hi],StAt (Wv a T H14) AT or ps x:=fun x hx=>by
  rcases yU.mp hx with rfl | hx
  ·exact⟨r2,_,rfl,k_r,fine dm0 (by omega) ta,ta⟩
  rcases yU.mp hx with rfl | hx
  ·exact⟨L1,_,rfl,k_1,fine dm1 (by omega) ok1,ok1⟩
  rcases yU.mp hx with rfl | hx
  ·exact⟨L2,_,rfl,k_2,fine dm2 (by omega) ok2,ok2⟩
  rcases yU.mp hx with rfl | hx
  ·exact⟨lo,_,rfl,k_lo,fL,okL⟩
  rw[yN.mp hx]
  exact⟨hi,_,rfl,k_hi,fH,okH⟩
 generalize [V.ref r2,.ref L1,.ref L2]++[V.ref lo,.ref hi]=xs at fx vg
 refine⟨L5,rfl,⟨_,SqL.of (Yd _ _ vg)⟩,?_⟩
 clear gg gz k_r k_1 k_2 k_v e_L e_M
 refine Xw (xs:=xs) (fun i σ H'=>∃(o9:Option V),σ=[some (.ref S),some (.ref a),some (.int AT),some (.int or),some v,some (.ref q),some (.ref L),some (.ref lo),some (.ref hi),o9]∧Wo K S ns a T H'∧Same (Wv a T H14) (Wv a T H')) ⟨_,rfl,wo,Same.refl _⟩ ?_ ?_ ?_
 ·rintro i σ H' _ ⟨_,_,_,g⟩
  exact SqL.of (Yd _ _ (g _ _ vg))
 ·clear wo
  rintro i x σ H15 N B R hN hR hx ⟨o9,rfl,wo,gg⟩
  obtain⟨r,ts,rfl,k_r,fi,ok⟩:=((fx x (y3 hx)).mono gg).at_
  have A4:=A4.mono gg
  have tl:=fi.tl
  have pl:=fi.len
  have po:∀x∈ts,0≤x.num∧1≤x.many:=fun x hx=>⟨(ok x hx).1.1,(ok x hx).1.2.2⟩
  skip
  refine⟨_,rfl,_,rfl,r,q,ts,AT,or,ps,rfl,k_r.mono Yd,by omega,A4.mono Yd,gl.pok,by omega,by omega,by omega,po,fun b H16 g16 hb=>?_⟩
  have eb:b=true:=hb.mpr ⟨fun x hx=>(ok x hx).1.2.1,lP fi.dom⟩
  subst eb
  clear hb
  have gz:=Vm (a:=a) (T:=T) g16
  have wo:=wo.same g16
  have gg:=gg.trans gz
  have A4:=A4.mono gz
  have k_r:=k_r.mono gz
  refine⟨_,rfl,rfl,_,rfl,Xd ?_⟩
  refine⟨_,rfl,_,rfl,_,rfl,a,S,q,r,ns,AT,or,ps,ts,rfl,wo.pn,A4.mono Yd,k_r.mono N3,fi,fun H17 hp g17=>⟨_,rfl,Xd ?_⟩⟩
  have gz:=N4 (T:=T) g17
  have wo:=wo.grw hp g17
  have gg:=gg.trans gz
  have A4:=A4.mono gz
  have k_r:=k_r.mono gz
  have t2:=W9 (m:=or) d1
  refine⟨_,rfl,_,rfl,_,rfl,_,_,rfl,rfl,⟨by omega,by omega,by decide⟩,a,S,ns,_,rfl,wo.pn,by rw[Ai];omega,by rw[Ai];omega,fun x H18 x0 x1 hp g18=>⟨leN rfl,?_⟩⟩
  rw[Ai]at x1
  have gz:=N4 (T:=T) g18
  have wo:=wo.grw hp g18
  have gg:=gg.trans gz
  have A4:=A4.mono gz
  have k_r:=k_r.mono gz
  intro c1 n_c1
  generalize hz:upd _ c1 _=H19
  have hw:=Wq hz n_c1 wo
  have wo:=hw.1
  have gz:=hw.2.1
  have m9:=hw.2.2
  clear hw hz
  have gg:=gg.trans gz
  have A4:=A4.mono gz
  have k_r:=k_r.mono gz
  refine⟨leN rfl,?_⟩
  intro M1 n_M1
  generalize hz:upd _ M1 _=H20
  have hw:=Wq hz n_M1 wo
  have wo:=hw.1
  have gz:=hw.2.1
  have sU:=hw.2.2
  clear hw hz
  have gg:=gg.trans gz
  have A4:=A4.mono gz
  have k_r:=k_r.mono gz
  have m9:=gz _ _ m9
  obtain⟨_,ys,e0,e_r,ds⟩:=DV.list_inv k_r
  cases e0
  have yl:=ds.length
  rw[pi]at yl
  refine⟨r,M1,ys,_,rfl,rfl,Yd _ _ e_r,Yd _ _ sU,Zn (by show ys.length+1≤_;omega),?_⟩
  intro N1 n_N1
  generalize hz:upd _ N1 _=H21
  have hw:=Wq hz n_N1 wo
  have wo:=hw.1
  have gz:=hw.2.1
  have xc:=hw.2.2
  clear hw hz
  have gg:=gg.trans gz
  have A4:=A4.mono gz
  have k_r:=k_r.mono gz
  have m9:=gz _ _ m9
  have sU:=gz _ _ sU
  have k_N:DV (Wv a T H21) (.ref N1) (aP (ts++[⟨0,"b",x,1⟩])):=by
   refine .lst xc ?_
   rw[yV]
   exact(ds.mono gz).append (.cons (.tup m9 (.cons (.int _) (.cons (.str _) (.cons (.int _) (.cons (.int _) .nil))))) .nil)
  clear m9 sU xc e_r ds
  refine⟨_,rfl,N1,q,_,AT,or,ps,rfl,k_N.mono Yd,by rw[yJ];show ts.length+1≤_;omega,A4.mono Yd,gl.pok,by omega,by omega,by omega,fun y hy=>?_,fun b H22 g22 hb=>?_⟩
  ·rcases yY.mp hy with h | h
   ·exact po y h
   ·rw[yN.mp h]
    exact⟨x0,leI rfl⟩
  have eb:b=false:=by
   cases b with
   | false=>rfl
   | true=>
    have h:=l7 (hb.mp rfl).2
    rw[qW,fi.tot]at h
    have h:ag ps+1=ag ps:=h
    omega
  subst eb
  clear hb k_N
  skip
  have gz:=Vm (a:=a) (T:=T) g22
  have wo:=wo.same g22
  have gg:=gg.trans gz
  have A4:=A4.mono gz
  have k_r:=k_r.mono gz
  refine⟨_,rfl,Xd ?_⟩
  refine⟨_,rfl,leN rfl,?_⟩
  intro E1 n_E1
  generalize hz:upd _ E1 _=H23
  have hw:=Wq hz n_E1 wo
  have wo:=hw.1
  have gz:=hw.2.1
  have wU:=hw.2.2
  clear hw hz
  have gg:=gg.trans gz
  have A4:=A4.mono gz
  have k_r:=k_r.mono gz
  refine⟨_,_,k_r.mono Yd,.lst (Yd _ _ wU) .nil,Yo (gY ok) (by decide),Yo kH (by decide),_,rfl,?_⟩
  rw[kL]
  clear wU
  cases ts with
  | nil=>exact Xd (hN _ _ ⟨_,rfl,wo,gg⟩)
  | cons t1 us=>
   refine W3 ?_
   obtain⟨_,ys,e0,e_r,ds⟩:=DV.list_inv k_r
   cases e0
   refine⟨_,rfl,1,rfl,r,ys,rfl,SqL.of (Yd _ _ e_r),?_⟩
   rw[cut1]
   skip
   intro D1 n_D1
   generalize hz:upd _ D1 _=H24
   have hw:=Wq hz n_D1 wo
   have wo:=hw.1
   have gz:=hw.2.1
   have vz:=hw.2.2
   clear hw hz
   have gg:=gg.trans gz
   have A4:=A4.mono gz
   have k_D:DV (Wv a T H24) (.ref D1) (aP us):=.lst vz (p9 (ds.mono gz))
   refine⟨_,rfl,D1,q,us,AT,or,ps,rfl,k_D.mono Yd,by rw[zd]at tl;omega,A4.mono Yd,gl.pok,by omega,by omega,by omega,fun y hy=>po y (.tail _ hy),fun b H25 g25 hb=>?_⟩
   have eb:b=false:=by
    cases b with
    | false=>rfl
    | true=>
     have h:=l7 (hb.mp rfl).2
     have h2:=fi.tot
     rw[oO]at h2
     have:=(po t1 (.head _)).2
     omega
   subst eb
   clear hb
   have gz:=Vm (a:=a) (T:=T) g25
   have wo:=wo.same g25
   have gg:=gg.trans gz
   have A4:=A4.mono gz
   have vz:=gz _ _ vz
   exact⟨_,rfl,Xd (hN _ _ ⟨_,rfl,wo,gg⟩)⟩
 ·rintro σ H15 ⟨o9,rfl,wo,gg⟩
  have A4:=A4.mono gg
  have k_lo:=k_lo.mono gg
  have k_hi:=k_hi.mono gg
  refine⟨_,(Z7 (Ze (Z4 gC hr (Z1 (pv 1) (Z1 (pv 5) (Z1 (pv 7) (Z1 (pv 8) Z0 (by rfl)) (by rfl)) (by rfl)) (by rfl))))),?_⟩
  refine⟨_,rfl,_,rfl,_,rfl,_,rfl,a,S,q,lo,hi,ns,AT,or,ps,rfl,⟨wo.pn,A4.mono Yd,k_lo.mono N3,k_hi.mono N3,Same.refl _⟩,st,gl.pok.pos,fL.s0,fun p hp=>?_,fun p hp=>?_,d0,d1,by omega,hq⟩
  ·have h:=(okL _ (yD.mpr ⟨p,hp,rfl⟩)).1
   exact⟨h.1,h.2.1⟩
  ·have h:=(okH _ (yD.mpr ⟨p,hp,rfl⟩)).1
   exact⟨h.1,h.2.1⟩
end
end K31
namespace Hd
open PySem PySem.W
section
variable{α β:Type}
def fN(n:Nat)(k:Nat→α):α:=Nat.casesOn n (k 0) fun m=>k (Nat.succ m)
theorem Tb(n:Nat)(k:Nat→α):fN n k=k n:=by cases n <;> rfl
def fV(v:Value)(k:Value→α):α:=match v with
 | .ref a=>fN a fun a=>k (.ref a)
 | .str s t=>fN t fun t=>k (.str s t)
 | .int i t=>fN t fun t=>k (.int i t)
 | v=>k v
theorem Rb(v:Value)(k:Value→α):fV v k=k v:=by cases v <;> simp only[fV,Tb]
def fO(f:β→(β→α)→α)(o:Option β)(k:Option β→α):α:=match o with
 | none=>k none
 | some x=>f x fun x=>k (some x)
theorem lX{f:β→(β→α)→α}(hf:∀x k,f x k=k x)(o:Option β)(k:Option β→α):fO f o k=k o:=by cases o <;> simp only[fO,hf]
def fL(f:β→(β→α)→α)(l:List β):(List β→α)→α:=
 @List.rec β (fun _=>(List β→α)→α) (fun k=>k []) (fun x _ ih k=>f x fun x=>ih fun r=>k (x::r)) l
theorem tV{f:β→(β→α)→α}(hf:∀x k,f x k=k x)(l:List β):∀k:List β→α,fL f l k=k l:=by
 induction l with
 | nil=>intro k;rfl
 | cons x r ih=>
  intro k
  show f x (fun x=>fL f r fun r=>k (x::r))=_
  rw[hf,ih]
def fA(f:β→(β→α)→α)(l:Array β)(k:Array β→α):α:=match l with
 | ⟨l⟩=>fL f l fun l=>k ⟨l⟩
theorem lm{f:β→(β→α)→α}(hf:∀x k,f x k=k x)(l:Array β)(k:Array β→α):fA f l k=k l:=by
 cases l;simp only[fA,tV hf]
def fE(e:DictEntry)(k:DictEntry→α):α:=match e with
 | ⟨h,a,b⟩=>fV a fun a=>fV b fun b=>k ⟨h,a,b⟩
theorem yt(e:DictEntry)(k:DictEntry→α):fE e k=k e:=by cases e;simp only[fE,Rb]
def fF(e:FuncData)(k:FuncData→α):α:=match e with
 | ⟨a,b,c,d,e,g,cl,df,kd,dc,pm,an,cd,ct,bl⟩=>fN g fun g=>fV df fun df=>fV kd fun kd=>fV dc fun dc=>fV pm fun pm=>fO fN an fun an=>fV cd fun cd=>fV ct fun ct=>fN bl fun bl=>k ⟨a,b,c,d,e,g,cl,df,kd,dc,pm,an,cd,ct,bl⟩
theorem yr(e:FuncData)(k:FuncData→α):fF e k=k e:=by cases e;simp only[fF,Rb,Tb,lX Tb]
def fC(e:ClassData)(k:ClassData→α):α:=match e with
 | ⟨a,b,c,d,e,f,g,h,i,j,l⟩=>fL fV b fun b=>fL fV c fun c=>fN d fun d=>fL fV h fun h=>k ⟨a,b,c,d,e,f,g,h,i,j,l⟩
theorem wK(e:ClassData)(k:ClassData→α):fC e k=k e:=by cases e;simp only[fC,tV Rb,Tb]
def fD(d:Data)(k:Data→α):α:=match d with
 | .seq xs n=>fA fV xs fun xs=>fN n fun n=>k (.seq xs n)
 | .dict xs n=>fA fE xs fun xs=>fN n fun n=>k (.dict xs n)
 | .fields xs=>fA fV xs fun xs=>k (.fields xs)
 | .cell v=>fO fV v fun v=>k (.cell v)
 | .prim v=>fV v fun v=>k (.prim v)
 | .func f=>fF f fun f=>k (.func f)
 | .cls f=>fC f fun f=>k (.cls f)
 | d=>k d
theorem wC(d:Data)(k:Data→α):fD d k=k d:=by cases d <;> simp only[fD,lm Rb,lm yt,Tb,lX Rb,Rb,yr,wK]
def fJ(o:Obj)(k:Obj→α):α:=match o with
 | ⟨c,d,x,s⟩=>fV c fun c=>fO fN d fun d=>fD x fun x=>fA (fO fV) s fun s=>k ⟨c,d,x,s⟩
theorem uf(o:Obj)(k:Obj→α):fJ o k=k o:=by cases o;simp only[fJ,Rb,lX Tb,wC,lm (lX Rb)]
def fB(t:BT):(BT→α)→α:=
 @BT.rec (fun _=>(BT→α)→α) (fun k=>k .nil) (fun v _ _ il ir k=>fJ v fun v=>il fun l=>ir fun r=>k (.node v l r)) t
theorem xX(t:BT):∀k:BT→α,fB t k=k t:=by
 induction t with
 | nil=>intro k;rfl
 | node v l r il ir=>
  intro k
  show fJ v (fun v=>fB l fun l=>fB r fun r=>k (.node v l r))=_
  rw[uf,il,ir]
def fR(d:Drawn)(k:Drawn→α):α:=match d with
 | ⟨a,b,c,d⟩=>fN a fun a=>fN b fun b=>fN c fun c=>fN d fun d=>k ⟨a,b,c,d⟩
theorem uj(d:Drawn)(k:Drawn→α):fR d k=k d:=by cases d;simp only[fR,Tb]
def fS(s:SharedT)(k:SharedT→α):α:=match s with
 | ⟨t,n,life,g,d,tk,os⟩=>fB t fun t=>fN n fun n=>fR d fun d=>fN tk fun tk=>k ⟨t,n,life,g,d,tk,os⟩
theorem uv(s:SharedT)(k:SharedT→α):fS s k=k s:=by cases s;simp only[fS,xX,Tb,uj]
def fP(d:Pos)(k:Pos→α):α:=match d with
 | ⟨a,b,c,d⟩=>fN a fun a=>fN b fun b=>fN c fun c=>fN d fun d=>k ⟨a,b,c,d⟩
theorem xg(d:Pos)(k:Pos→α):fP d k=k d:=by cases d;simp only[fP,Tb]
def fH(s:Shared)(k:Shared→α):α:=match s with
 | ⟨⟨l,life⟩,g,d,tk,os⟩=>fA fJ l fun l=>fR d fun d=>fN tk fun tk=>k ⟨⟨l,life⟩,g,d,tk,os⟩
theorem wX(s:Shared)(k:Shared→α):fH s k=k s:=by obtain⟨⟨l,life⟩,g,d,tk,os⟩:=s;simp only[fH,lm uf,Tb,uj]
end
section
variable{α:Type}
def hd(tb:String→Option Builtin)(p:Program)(w:World)(m:Nat)(ann:Option Value)(env:Env)(q:Pos)(F:Nat)(fin:SharedT→Code→Pos→Option α)(l:List Stmt):SharedT→Code→Pos→Option α:=
 @List.rec Stmt (fun _=>SharedT→Code→Pos→Option α) fin (fun st _ ih s c pos=>match segRunT tb p w m ann 1 F s (pieceOf st env c pos [topFrame q]) with
  | some (.next,s',c',p')=>fS s' fun s'=>fP p' fun p'=>ih s' c' p'
  | _=>none) l
theorem sN{tb:String→Option Builtin}{p:Program}{w:World}{m:Nat}{ann:Option Value}{env:Env}{q:Pos}{F:Nat}{fin:SharedT→Code→Pos→Option α}{st:Stmt}{l:List Stmt}{s:SharedT}{c:Code}{pos:Pos}{r:α}(h:hd tb p w m ann env q F fin (st::l) s c pos=some r):∃s' c' p',segRunT tb p w m ann 1 F s (pieceOf st env c pos [topFrame q])=some (.next,s',c',p')∧hd tb p w m ann env q F fin l s' c' p'=some r:=by
 have h:(match segRunT tb p w m ann 1 F s (pieceOf st env c pos [topFrame q]) with
  | some (.next,s',c',p')=>fS s' fun s'=>fP p' fun p'=>hd tb p w m ann env q F fin l s' c' p'
  | _=>none)=some r:=h
 split at h
 ·rename_i s' c' p' e
  rw[uv,xg]at h
  exact⟨s',c',p',e,h⟩
 ·cases h
theorem vy{tb:String→Option Builtin}{p:Program}{w:World}{n₀:Nat}{ann:Option Value}{env:Env}{q:Pos}{n N:Nat}{s s' r:Shared}{st:Stmt}{rest:List Stmt}{c c':Code}{pos p':Pos}(h:segRun tb p w n₀ ann 1 n s (pieceOf st env c pos [topFrame q])=some (.next,s',c',p'))(k:topRun tb p w n₀ ann N s' (restOf rest env c' p' [topFrame q])=some r):topRun tb p w n₀ ann (n+N) s (restOf (st::rest) env c pos [topFrame q])=some r:=by
 obtain⟨a,ha,hN⟩:=seg_top (res:=id) (K':=fun f=>match f with | .next=>(execs rest env).wrap doneF (leaveH env) id id | f=>doneF f) (H':=leaveH env) (B:=[topFrame q]) rfl n s (pieceOf st env c pos [topFrame q])
  ⟨(exec st env).wrap (fun f=>match f with | .next=>(execs rest env).wrap doneF (leaveH env) id id | f=>doneF f) (leaveH env) id id,c,pos,[topFrame q]⟩ _ _ _ _ ⟨rfl,rfl,.inl ⟨rfl,rfl,_,rfl,rfl⟩⟩ h
 obtain rfl:a=.next:=ha
 have:=hN N r k
 unfold restOf
 rw[execs_cons_wrap]
 exact this
theorem qI{tb:String→Option Builtin}{p:Program}{w:World}{m:Nat}{ann:Option Value}{env:Env}{q:Pos}{F:Nat}{fin:SharedT→Code→Pos→Option α}{r:α}:∀(l:List Stmt)(s:SharedT)(c:Code)(pos:Pos),hd tb p w m ann env q F fin l s c pos=some r→
  ∃s' c' p',fin s' c' p'=some r∧∀N z,topRun tb p w m ann N s'.abs (restOf [] env c' p' [topFrame q])=some z→topRun tb p w m ann (l.length * F+N) s.abs (restOf l env c pos [topFrame q])=some z
 | [],s,c,pos,h=>⟨s,c,pos,h,fun N z hz=>by rw[Aj,Nat.zero_mul,AK];exact hz⟩
 | st::l,s,c,pos,h=>by
  obtain⟨s',c',p',e,h⟩:=sN h
  obtain⟨s2,c2,p2,hf,hN⟩:=qI l s' c' p' h
  refine⟨s2,c2,p2,hf,fun N z hz=>?_⟩
  have:=vy (segRun_of e) (hN N z hz)
  rw[zd,Nat.succ_mul,show l.length * F+F+N=F+(l.length * F+N) by omega]
  exact this
def x5{γ:Type}(tb:String→Option Builtin)(p:Program)(w:World)(m:Nat)(ann:Option Value)(env:Env)(q:Pos)(look:Shared→γ)(s:SharedT)(c:Code)(pos:Pos):Option γ:=
 match topRun tb p w m ann 50 s.abs (restOf [] env c pos [topFrame q]) with
 | some r=>fH r fun r=>some (look r)
 | none=>none
def ofL(l:List Obj):Nat→BT→BT:=@List.rec Obj (fun _=>Nat→BT→BT) (fun _ t=>t) (fun o _ ih i t=>ih (Nat.succ i) (t.ins i o)) l
def toT(s:Shared):SharedT:=match s with
 | ⟨⟨⟨l⟩,life⟩,g,d,tk,os⟩=>⟨ofL l 0 .nil,l.length,life,g,d,tk,os⟩
def pre(p:Program)(w:World)(os:OsState):Option (Shared×Thread):=topGo treeTable p w 11 (some (.ref 6)) 12 ⟨boot_heap w.params,⟨[]⟩,boot_drawn,boot_toks,os⟩ (topStub p)
def zp:Pos:=⟨0,0,0,0⟩
def se(p:Program):Env:={scope:=p.main.scope,locals:=mainNs,globals:=mainNs,cells:=[],code:=.ref 13,frame:=some 14}
def sa(p:Program)(w:World)(os:OsState):Shared:=match pre p w os with
 | some (s,_)=>s
 | none=>⟨{},#[],{},0,os⟩
def hc(p:Program):Code:=.body (behindTheImports p) (se p)
def blk(p:Program)(w:World)(os:OsState):Option (Flow×Shared×Code×Pos):=segRun treeTable p w 11 (some (.ref 6)) 1 1 (sa p w os) (blockOf (behindTheImports p) (se p) (hc p) zp [topFrame zp])
def chk{γ:Type}(p:Program)(look:Shared→γ)(w:World)(os:OsState):Option γ:=
 fS (toT (sa p w os)) fun s=>hd treeTable p w 11 (some (.ref 6)) (se p) zp 600 (x5 treeTable p w 11 (some (.ref 6)) (se p) zp look) (behindTheImports p) s (hc p) zp
end
theorem lJ{p q:Program}{loose:List Str}{Xt:Shared→Bool}{α:Type}{Yf:Shared→α}{Ya:World→α}(e:opening p=plainProg p.main.scope.names)(f:∀s,fenceModules? p s=some s)(hpre:∀(w:World) (os:OsState),pre p w os=some (sa p w os,⟨denote treeTable (hc p),hc p,zp,[topFrame zp]⟩))(hblk:∀(w:World) (os:OsState),blk p w os=some (.next,(toT (sa p w os)).abs,hc p,zp))(size:∀w:World,((boot_heap w.params).isNs mainGlobals && (Array.mk ([]:List GenState)).size == 0,(boot_heap w.params).objs.size,(boot_heap w.params).nsMap mainGlobals "__annotations__")=(true,11,some (.ref 6)))(len:Nat.ble (behindTheImports p).length 1600=true)(hchk:∀(w:World) (os:OsState),chk p (fun s=>((staticsOk (importedModules p.main.body) (boot_heap w.params) s.heap && namesBound p s.heap && gensDone s && laidKept (boot_heap w.params) s.heap),openSeen q loose (importedModules p.main.body) Xt true s,Yf s)) w os=some (true,openGood q loose,Ya w)):
  LeftO p q loose Xt Yf Ya 1000000 true:=fun w=>by
 obtain⟨⟨h,gs,d,k,os⟩,e1,e'⟩:=zO.mp (boot_open (p:=p) (N:=1000000) e rfl f w)
 obtain⟨rfl,rfl,rfl,rfl⟩:h=boot_heap w.params∧gs=⟨[]⟩∧d=boot_drawn∧k=boot_toks:=by simpa using e'
 obtain⟨z1,z2,z3⟩:_∧_∧_:=by simpa only[Prod.mk.injEq] using size w
 have hc1:=hchk w os
 unfold chk at hc1
 rw[uv]at hc1
 obtain⟨s2,c2,p2,hf,hN⟩:=qI _ _ _ _ hc1
 unfold x5 at hf
 split at hf
 case h_2=>cases hf
 rename_i r hr
 rw[wX]at hf
 obtain⟨l1,l2,l3⟩:_∧_∧_:=by simpa only[Option.some.injEq,Prod.mk.injEq] using hf
 have a1:=hN _ _ hr
 have a2:=piece_block (hblk w os) a1
 have a3:=go_top (hpre w os) a2
 have le:12+(1+((behindTheImports p).length * 600+50))≤1000000:=by
  have:=Nat.le_of_ble_eq_true len
  omega
 have a4:=topRun_mono (1000000 - (12+(1+((behindTheImports p).length * 600+50)))) _ _ _ _ a3
 rw[show 12+(1+((behindTheImports p).length * 600+50))+(1000000 - (12+(1+((behindTheImports p).length * 600+50))))=1000000 by omega]at a4
 have t:topFrom treeTable p w 1000000 ⟨boot_heap w.params,⟨[]⟩,boot_drawn,boot_toks,os⟩=some r:=by
  unfold topFrom
  dsimp only
  rw[z1,z2,z3,a4]
  show(match staticsOk (importedModules p.main.body) (boot_heap w.params) r.heap && namesBound p r.heap && gensDone r && laidKept (boot_heap w.params) r.heap with | true=>_ | false=>_)=_
  rw[l1]
 unfold openEnds
 rw[e1]
 show(topFrom treeTable p w 1000000 _).map _=_
 rw[t]
 exact Ad some (z6 l2 l3)
def cF(p q:Program)(as:List Addr)(w:World)(os:OsState):=
 chk p (fun s=>((staticsOk (importedModules p.main.body) (boot_heap w.params) s.heap && namesBound p s.heap && gensDone s && laidKept (boot_heap w.params) s.heap),openSeen q [] (importedModules p.main.body) (fun s=>xlAt q [] s && recOk [] s) true s,as.map s.heap.get?)) w os
def cM(p q:Program)(as ts:List Addr)(w:World)(os:OsState):=
 chk p (fun s=>((staticsOk (importedModules p.main.body) (boot_heap w.params) s.heap && namesBound p s.heap && gensDone s && laidKept (boot_heap w.params) s.heap),openSeen q [] (importedModules p.main.body) (fun s=>xlAt q [] s && recOk [] s) true s,(as.map s.heap.get?,ts.map s.heap.get?))) w os
def cG(q:Program):=openGood q []
theorem cF_:@cF=@cF:=rfl
theorem cM_:@cM=@cM:=rfl
theorem cG_:@cG=@cG:=rfl
end Hd
def PySem.W.Fast.tw14598715356260435866:PySem.Params→PySem.Obj:=PySem.W.boot_o_0
theorem PySem.W.Fast.te14598715356260435866:PySem.W.boot_o_0=PySem.W.Fast.tw14598715356260435866:=rfl
lay_quick Hd.cF Hd.cM Hd.cG
name_quick cFQ for Hd.cF by Hd.cF_
name_quick cMQ for Hd.cM by Hd.cM_
name_quick cGQ for Hd.cG by Hd.cG_
namespace Hd
open PySem PySem.W
theorem hS(w:World):((boot_heap w.params).isNs mainGlobals && (Array.mk ([]:List GenState)).size == 0,(boot_heap w.params).objs.size,(boot_heap w.params).nsMap mainGlobals "__annotations__")=(true,11,some (.ref 6)):=by kernel_rfl
theorem wV(p q:Program)(as:List Addr)(w:World)(os:OsState):cF p q as w os=W.Fast.cFQ p q as w os:=by rw[←W.Fast.cFQ_eq]
theorem yj(p q:Program)(as ts:List Addr)(w:World)(os:OsState):cM p q as ts w os=W.Fast.cMQ p q as ts w os:=by rw[←W.Fast.cMQ_eq]
theorem uB(q:Program):openGood q []=W.Fast.cGQ q:=by rw[←W.Fast.cGQ_eq];rfl
theorem aF{p q:Program}(e:opening p=plainProg p.main.scope.names)(f:∀s,fenceModules? p s=some s)(hpre:∀(w:World) (os:OsState),pre p w os=some (sa p w os,⟨denote treeTable (hc p),hc p,zp,[topFrame zp]⟩))(hblk:∀(w:World) (os:OsState),blk p w os=some (.next,(toT (sa p w os)).abs,hc p,zp))(len:Nat.ble (behindTheImports p).length 1600=true){K:Params→Frag}{as:List Addr}{ek:∀P,as=(K P).map (·.1)}(h:∀(w:World) (os:OsState),W.Fast.cFQ p q as w os=some (true,W.Fast.cGQ q,(K w.params).map fun p=>some p.2)):
  LeftO p q [] (fun s=>xlAt q [] s && recOk [] s) (Hook.obs (kHook K as ek)) (Hook.val (kHook K as ek)) 1000000 true:=
 lJ e f hpre hblk hS len fun w os=>(wV p q as w os).trans ((h w os).trans (by rw[uB];rfl))
theorem leftM{p q:Program}(e:opening p=plainProg p.main.scope.names)(f:∀s,fenceModules? p s=some s)(hpre:∀(w:World) (os:OsState),pre p w os=some (sa p w os,⟨denote treeTable (hc p),hc p,zp,[topFrame zp]⟩))(hblk:∀(w:World) (os:OsState),blk p w os=some (.next,(toT (sa p w os)).abs,hc p,zp))(len:Nat.ble (behindTheImports p).length 1600=true){K:Params→Frag}{as:List Addr}{ek:∀P,as=(K P).map (·.1)}{ts:List Addr}(h:∀(w:World) (os:OsState),W.Fast.cMQ p q as ts w os=some (true,W.Fast.cGQ q,((K w.params).map fun p=>some p.2),ts.map fun _=>some (tabObj #[]))):
  LeftO p q [] (fun s=>xlAt q [] s && recOk [] s) (Hook.obs (kmHook K as ek ts)) (Hook.val (kmHook K as ek ts)) 1000000 true:=
 lJ e f hpre hblk hS len fun w os=>(yj p q as ts w os).trans ((h w os).trans (by rw[uB];rfl))
end Hd
namespace L2
open PySem PyProof.Rows
structure Df(K:W.Frag)(mg:Str→Option Value)(x:Str)(st:Stmt):Prop where
 ex:∃(f:Addr)(fd:FuncData),Fun K x x st f fd∧mg x=some (.ref f)
section
variable{P:Program}{w:World}{K:W.Frag}{mg:Str→Option Value}{base h:Heap}{x:Str}{st:Stmt}{k:Nat}{ps:List Str}{sp:Sp}{p0 p1 p2 p3:Str}
theorem df_mk(X:K.In h)(G:h.Ns mainGlobals mg){f:Addr}{oc:Value}{od an:Option Addr}{osl:Array (Option Value)}{kV doc pm cdv ct:Value}(a:W.nsIn K mainGlobals x=some (some (.ref f)))(l:K.lookup f=some ⟨oc,od,.func (W.fnOf x x (aD st) (ay st) (aa st) .none kV doc pm an cdv ct),osl⟩)(c:W.codeIn K cdv x=true)(k:W.keepIn K (.ref f)=true):Df K mg x st:=⟨f,_,jc l c k,W.mg_of X G a⟩
theorem Df.has(d:Df K mg x st)(ok:∀{f:Addr} {fd:FuncData},Fun K x x st f fd→FnOk P w K mg base CX0 k f fd ps sp)(b:∀{f:Addr} {fd:FuncData},Fun K x x st f fd→Binds K fd ps []):Has P w K mg base x k ps sp:=let ⟨_,_,F,m⟩:=d.ex;Has.of (ok F) (b F) F.kp m
theorem Df.h1(d:Df K mg x st)(ok:∀{f:Addr} {fd:FuncData},Fun K x x st f fd→FnOk P w K mg base CX0 k f fd [p0] sp)(h:∀(kV doc pm:Value) (an:Option Addr) (cdv ct u0:Value),bindArgs (W.fnOf x x (aD st) (ay st) (aa st) .none kV doc pm an cdv ct) ⟨[u0],[]⟩=pure [(p0,u0)]):Has P w K mg base x k [p0] sp:=d.has ok fun F=>F.b1 h
theorem Df.h2(d:Df K mg x st)(ok:∀{f:Addr} {fd:FuncData},Fun K x x st f fd→FnOk P w K mg base CX0 k f fd [p0,p1] sp)(h:∀(kV doc pm:Value) (an:Option Addr) (cdv ct u0 u1:Value),bindArgs (W.fnOf x x (aD st) (ay st) (aa st) .none kV doc pm an cdv ct) ⟨[u0,u1],[]⟩=pure [(p0,u0),(p1,u1)]):Has P w K mg base x k [p0,p1] sp:=d.has ok fun F=>F.b2 h
theorem Df.h3(d:Df K mg x st)(ok:∀{f:Addr} {fd:FuncData},Fun K x x st f fd→FnOk P w K mg base CX0 k f fd [p0,p1,p2] sp)(h:∀(kV doc pm:Value) (an:Option Addr) (cdv ct u0 u1 u2:Value),bindArgs (W.fnOf x x (aD st) (ay st) (aa st) .none kV doc pm an cdv ct) ⟨[u0,u1,u2],[]⟩=pure [(p0,u0),(p1,u1),(p2,u2)]):Has P w K mg base x k [p0,p1,p2] sp:=d.has ok fun F=>F.b3 h
theorem Df.h4(d:Df K mg x st)(ok:∀{f:Addr} {fd:FuncData},Fun K x x st f fd→FnOk P w K mg base CX0 k f fd [p0,p1,p2,p3] sp)(h:∀(kV doc pm:Value) (an:Option Addr) (cdv ct u0 u1 u2 u3:Value),bindArgs (W.fnOf x x (aD st) (ay st) (aa st) .none kV doc pm an cdv ct) ⟨[u0,u1,u2,u3],[]⟩=pure [(p0,u0),(p1,u1),(p2,u2),(p3,u3)]):Has P w K mg base x k [p0,p1,p2,p3] sp:=d.has ok fun F=>F.b4 h
end
end L2
namespace K31
open PySem L2 Ld
theorem all_mk{c T:Addr}{l:W.OpenLaw}{w:World}{K:W.Frag}{h:Heap}{mg:Str→Option Value}{fa f22 f54:Addr}(X:K.In h)(G:h.Ns mainGlobals mg)(hfa:mg "law"=some (.ref fa)){od22 an22 od54 an54:Option Addr}{sl22 sl54:Array (Option Value)}{oc22 kV22 dc22 pm22 ct22 oc54 kV54 dc54 pm54 ct54 cd54:Value}(d0:Df K mg "is_whole" cO)(d1:Df K mg "is_whole_from" bo)(d2:Df K mg "is_whole_within" a9)(d3:Df K mg "added_counts" a8)(d4:Df K mg "first_of" cN)(d5:Df K mg "last_of" dj)(d6:Df K mg "parent_of" cu)(d7:Df K mg "pair_of" de)(d8:Df K mg "is_stretch" bV)(d9:Df K mg "bar_of" eB)(d10:Df K mg "joint_count" bR)(d11:Df K mg "first_folding" bq)(d12:Df K mg "fold_up" cD)(d13:Df K mg "settling_of" bQ)(d14:Df K mg "settled" c8)(d15:Df K mg "steps_in" cP)(d16:Df K mg "grown" fc)(d17:Df K mg "empty_ladder" bC)(d18:Df K mg "thing_ladder" bE)(d19:Df K mg "added_ladder" bG)(d20:Df K mg "merged_ladder" aW)(d21:Df K mg "ladder_of" cg)(a22:W.nsIn K mainGlobals "grown_ladder"=some (some (.ref f22)))(l22:K.lookup f22=some ⟨oc22,od22,.func (W.fnOf "grown_ladder" "grown_ladder" (aD af) (ay af) (aa af) .none kV22 dc22 pm22 an22 (.ref c) ct22),sl22⟩)(c22:W.codeIn K (.ref c) "grown_ladder"=true)(k22:W.keepIn K (.ref f22)=true)(d23:Df K mg "things_in" cx)(d24:Df K mg "standing_of" bS)(d25:Df K mg "is_folded" cB)(d26:Df K mg "folds_towards" bx)(d27:Df K mg "paper_for" cA)(d28:Df K mg "lowest_places" bn)(d29:Df K mg "highest_places" bh)(d30:Df K mg "many_at_most" bD)(d31:Df K mg "sum_at" d_)(d32:Df K mg "number_of_place" ba)(d33:Df K mg "at_most_in" bW)(d34:Df K mg "sum_in" dN)(d35:Df K mg "place_in" cI)(d36:Df K mg "fits" jo)(d37:Df K mg "stream_at" cm)(d38:Df K mg "lowest" eA)(d39:Df K mg "highest" c_)(d40:Df K mg "_law_pen" gi)(d41:Df K mg "_law_take" dO)(d42:Df K mg "_law_many" dZ)(d43:Df K mg "_law_stream" cK)(d44:Df K mg "_law_tree" dH)(d45:Df K mg "_law_things" bX)(d46:Df K mg "_law_sizes" cY)(d47:Df K mg "_law_first" c5)(d48:Df K mg "_law_last" ei)(d49:Df K mg "_law_counted" cq)(d50:Df K mg "_law_so_many_th" bF)(d51:Df K mg "_law_bounds_hold" bw)(d52:Df K mg "_law_dealt" cX)(d53:Df K mg "_law_are_met" cz)(a54:W.nsIn K mainGlobals "law"=some (some (.ref f54)))(l54:K.lookup f54=some ⟨oc54,od54,.func (W.fnOf "law" "law" (aD cV) (ay cV) (aa cV) .none kV54 dc54 pm54 an54 cd54 ct54),sl54⟩)(c54:W.codeIn K cd54 "law"=true)(k54:W.keepIn K (.ref f54)=true)(aM:mg "len"=none)(ai:mg "isinstance"=none)(aE:mg "range"=none)(bJ:mg "list"=none)(aA:mg "sorted"=none)(bB:mg "tuple"=none)(aY:mg "dict"=none)(bd:mg "sum"=none)(nP:mg "int"=none)(jD:mg "bool"=none)(qh:mg "all"=none)(nV:mg "min"=none)(hcT:W.codeHdIn K c T=true)(hgP:mainGlobals≠T)
  :∃fd:FuncData,(∀(s:Shared)(v:Value),BindsTo s fd ⟨[v],[]⟩ [("_law_script",v)])∧∀base:Heap,K.In base→base.Ns mainGlobals mg→(∀U∈([(c,T)]:List (Addr×Addr)).map (·.2),base.BuiltinsAt mg U)→FnOk l.prog w K mg base CX0 41 fa fd ["_law_script"] (lF K T):=by
 have e:=hfa.symm.trans (W.mg_of X G a54)
 cases e
 obtain⟨f16,v16,F16,m16⟩:=d16.ex
 have b16:Binds K _ ["tree","of_stream","of_two"] []:=F16.b3 fun _ _ _ _ _ _ _ _ _=>rfl
 obtain⟨f20,v20,F20,m20⟩:=d20.ex
 have F22:=jc (st:=af) l22 c22 k22
 have m22:=W.mg_of X G a22
 have b22:Binds K _ ["room","deep","tree"] []:=F22.b3 fun _ _ _ _ _ _ _ _ _=>rfl
 obtain⟨f45,v45,F45,m45⟩:=d45.ex
 have b45:Binds K _ ["_law_tree_here"] []:=F45.b1 fun _ _ _ _ _ _ _=>rfl
 have F54:=jc (st:=cV) l54 c54 k54
 refine⟨W.fnOf "law" "law" (aD cV) (ay cV) (aa cV) .none kV54 dc54 pm54 an54 cd54 ct54,fun s v=>.of_eq rfl,fun base kb nb hBt=>?_⟩
 have xO:=d40.h1 (vJ (P:=l.prog) (w:=w) (mg:=mg) (base:=base)) (by intros;rfl)
 have ci:=d41.h2 (rF (P:=l.prog) (w:=w) (mg:=mg) (base:=base) aM) (by intros;rfl)
 have p_:=d42.h1 (tN ci) (by intros;rfl)
 have tE:=d46.h1 (pX ci) (by intros;rfl)
 have qj:=d43.h3 (vE aE aM ci p_) (by intros;rfl)
 have vK:=d44.h3 (xN aE aM ci qj) (by intros;rfl)
 have oB:=oG (P:=l.prog) (w:=w) (mg:=mg) (base:=base) ai bJ F45 b45 m45 40
 have yx:=d15.h1 (iP (P:=l.prog) (w:=w) (mg:=mg) (base:=base) ai bJ aM) (by intros;rfl)
 have H_set:∀base:Heap,K.In base→base.Ns mainGlobals mg→Has l.prog w K mg base "settled" 5 ["ladder"] l4:=fun base _ _=>(d14.h1 (ve (d13.h1 (uL aY aA bB (d9.h1 (vM (base:=base)) (by intros;rfl)) (d11.h3 (xv aA (d10.h2 (qY (d7.h1 (lA (base:=base)) (by intros;rfl)) (d6.h1 (Sz (base:=base)) (by intros;rfl))) (by intros;rfl))) (by intros;rfl)) (d7.h1 (lA (base:=base)) (by intros;rfl)) (d12.h3 (r8 (d6.h1 (Sz (base:=base)) (by intros;rfl))) (by intros;rfl))) (by intros;rfl))) (by intros;rfl))
 have H_ml:∀base:Heap,K.In base→base.Ns mainGlobals mg→Has l.prog w K mg base "merged_ladder" 6 ["one","other"] oU:=fun base kb nb=>(d20.h2 (wp (d19.h2 (xZ aA bB (d3.h2 (wj (base:=base) aY) (by intros;rfl))) (by intros;rfl)) (H_set base kb nb)) (by intros;rfl))
 have H_lo:∀base:Heap,K.In base→base.Ns mainGlobals mg→Has l.prog w K mg base "ladder_of" 7 ["room","deep","stream"] vG:=fun base kb nb=>(d21.h3 (yu (d17.h2 (yq (base:=base)) (by intros;rfl)) (H_ml base kb nb) (H_set base kb nb) (d18.h3 (x3 (d5.h1 (kN (d4.h1 (iw (base:=base)) (by intros;rfl))) (by intros;rfl))) (by intros;rfl))) (by intros;rfl))
 have H_gr:HasB l.prog w K mg "grown" 9 ["tree","of_stream","of_two"] (gd l.prog w K mg 8):=⟨_,_,fun base _ _=>oA (k:=8) (by decide) (d15.h1 (iP (base:=base) ai bJ aM) (by intros;rfl)) F16,b16,F16.kp,m16⟩
 have h_gl:=Has.of (wQ (T:=T) l22 c22 (W.codeHd_of_K kb hcT) hgP (hBt T (.head _)) H_gr H_lo H_ml m20 F20) b22 F22.kp m22
 have k6:=d4.h1 (iw (P:=l.prog) (w:=w) (mg:=mg) (base:=base)) (by intros;rfl)
 have qu:=d5.h1 (kN k6) (by intros;rfl)
 have gr:=d28.h1 (tj k6) (by intros;rfl)
 have dE:=d29.h1 (qe qu) (by intros;rfl)
 have h_np:=d32.h2 (wA (P:=l.prog) (w:=w) (mg:=mg) (base:=base) aA) (by intros;rfl)
 have x8:=d35.h2 (yi gr dE h_np) (by intros;rfl)
 have xA:=d30.h2 (vv (P:=l.prog) (w:=w) (mg:=mg) (base:=base) bd) (by intros;rfl)
 have wJ:=d31.h1 (wg (P:=l.prog) (w:=w) (mg:=mg) (base:=base) bd) (by intros;rfl)
 have x9:=d33.h2 (yn gr dE xA) (by intros;rfl)
 have xI:=d34.h1 (x4 gr dE wJ) (by intros;rfl)
 have uh:=d49.h2 (vk (P:=l.prog) (w:=w) (mg:=mg) (base:=base) bd) (by intros;rfl)
 have wD:=d50.h2 (ol (P:=l.prog) (w:=w) (mg:=mg) (base:=base) aA) (by intros;rfl)
 have xF:=d50.h2 (sp:=uz) (fun F=>(ol (P:=l.prog) (w:=w) (mg:=mg) (base:=base) aA F).imp fun vs H Q E ⟨r,ts,n,e,d,l,p,n0,n1,k⟩=>⟨r,ts,n,e,d,l,p,n0,fun _=>k,fun h=>absurd h (Int.not_lt.mpr n1)⟩) (by intros;rfl)
 have h_bh:=d51.h3 (wn aE bd ci x9 xI x8 uh xF) (by intros;rfl)
 have wy:=d47.h1 (wW (P:=l.prog) (w:=w) (mg:=mg) (base:=base) aE) (by intros;rfl)
 have h_ll:=d48.h1 (xk wy) (by intros;rfl)
 have x6:=d52.h3 (wa nV aM ci p_ wy h_ll) (by intros;rfl)
 have wq:=d37.h1 (wR (P:=l.prog) (w:=w) (mg:=mg) (base:=base)) (by intros;rfl)
 have h_lo:=d38.h1 (mL wq gr) (by intros;rfl)
 have h_hi:=d39.h1 (jw wq dE) (by intros;rfl)
 have h1:=d0.h1 (hJ (P:=l.prog) (w:=w) (mg:=mg) (base:=base) ai nP jD) (by intros;rfl)
 have h2:=d1.h2 (R0 h1) (by intros;rfl)
 have h3:=d2.h3 (Tm h2) (by intros;rfl)
 have h6:=d6.h1 (Sz (P:=l.prog) (w:=w) (mg:=mg) (base:=base)) (by intros;rfl)
 have h7:=d12.h3 (qZ h6) (by intros;rfl)
 have h8:=d3.h2 (sP (P:=l.prog) (w:=w) (mg:=mg) (base:=base) aY) (by intros;rfl)
 have h9:=d23.h1 (vC (P:=l.prog) (w:=w) (mg:=mg) (base:=base) bd) (by intros;rfl)
 have h10:=d24.h1 (v_ h8) (by intros;rfl)
 have h11:=d8.h2 (Py ai bB aM h3 qu) (by intros;rfl)
 have h12:=d25.h3 (mU qh aY h10 h9 h11 h7) (by intros;rfl)
 have h13:=d26.h2 (v5 aY aE h10 h6 h8) (by intros;rfl)
 have h14:=d27.h2 (xE h13 h12) (by intros;rfl)
 have h15:=d36.h2 (sS h14) (by intros;rfl)
 have xq:=d53.h4 (vO aE bd ci x9 xI x8 uh wD) (by intros;rfl)
 exact vF xO tE vK oB ci h_gl x6 h_lo h_hi h15 h_bh xq F54
theorem walk{l:W.OpenLaw}{q:Program}{loose:List Str}{XP:(Str→Option Value)→Heap→Prop}{YP:World→Heap→Prop}{d:DefRec}{K:Params→W.Frag}{c T:Addr}(hn:l.most=some 63)(hdf:d.params.defaults=[])(hY:∀(w:World) (h:Heap),YP w h→(K w.params).In h)(hT:∀(w:World) (mg mb:Str→Option Value) (loose':List Str) (mean:ExcName→Option Value) (h:Heap),PyProof.Rows.Top q loose' mean mg mb h→(K w.params).In h→W.TabsAt [(c,T)] h)(hKT:∀(w:World),(K w.params).lookup T=none)(F:∀(w:World) (mg:Str→Option Value) (fa:Addr) (h:Heap),(K w.params).In h→h.Ns mainGlobals mg→mg d.name=some (.ref fa)→
   ∃fd:FuncData,(∀(s:Shared) (u:Value),BindsTo s fd ⟨[u],[]⟩ [("_law_script",u)])∧∀base:Heap,(K w.params).In base→base.Ns mainGlobals mg→(∀U∈([(c,T)]:List (Addr×Addr)).map (·.2),base.BuiltinsAt mg U)→FnOk l.prog w (K w.params) mg base CX0 41 fa fd ["_law_script"] (lF (K w.params) T)):
  W.WalkO q loose XP YP l.row.toRowW d [] (fun f vs=>PySem.call f vs):=
 L2.walk_T (n:=63) (k:=41) (x:="_law_script") (tabs:=[(c,T)]) (sp:=fun w=>lF (K w.params) T) hn (by decide) hdf ⟨rfl,by decide,by decide⟩ hY hT (fun w U h=>by rw[yN.mp h];exact hKT w) F (fun _ _ a ns hl hS hTT=>⟨a,ns,rfl,hS,hl,⟨.inl (hTT T (.head _))⟩,fun _=>rfl⟩)
end K31
def PySem.W.Fast.tw9830596983678779909:PySem.Program:=PySem.Challenge.pw_sumshare_k31_whole_bounds_of_all_that_fi
theorem PySem.W.Fast.te9830596983678779909:PySem.Challenge.pw_sumshare_k31_whole_bounds_of_all_that_fi=PySem.W.Fast.tw9830596983678779909:=rfl
def K31.qv:PySem.Program:=PySem.W.view PySem.Challenge.pw_sumshare_k31_whole_bounds_of_all_that_fi [1,2,3,4,6,7,8,9,11,12,13,14,15,17,18,19,20,21,22,24,25,27,28,29,30,31,32,34,36,37,38,39,41,42,43,44,45,46,47,48,50,51,52,53,55,56,57,58,59,60,61,62,63,64,65,66,67,68,69,70]
open PySem PySem.W PyProof.Rows
local macro_rules | `(tactic| o_head $H)=>`(tactic| (refine holds_open (q:=K31.qv) (loose:=[]) (Xt:=fun s=>xlAt K31.qv [] s && recOk [] s) (XP:=XL K31.qv []) (Yf:=Hook.obs $H) (Ya:=Hook.val $H) (YP:=Hook.says $H) (N:=1000000) ?hl (Hook.of $H) (Hook.keeps $H) (fun s e=>xl_of s (Bool.and_eq_true_iff.mp e).1) XL.keeps (by rfl) (by rfl) (by rfl) (fun s e=>recFacts_of (Bool.and_eq_true_iff.mp e).2) (by rfl) (by first | assumption | decide +kernel) (by decide +kernel) ⟨rfl,rfl,rfl,rfl,rfl,by decide +kernel⟩ ?hw ?hc;(case hl=>exact Hd.leftM (p:=PySem.Challenge.pw_sumshare_k31_whole_bounds_of_all_that_fi) rfl (fun _=>rfl) (fun w os=>by kernel_rfl) (fun w os=>by kernel_rfl) rfl fun w os=>by kernel_rfl)))
set_option maxRecDepth 100000 in
set_option maxHeartbeats 0 in
theorem PySem.Challenge.cw_sumshare_k31_whole_bounds_of_all_that_fi_holds : PySem.Challenge.rw_sumshare_k31_whole_bounds_of_all_that_fi.Holds := by
 w_on;o_law;k_head;(case hw=>w_witness2)
 k_fill
 refine K31.walk (l:=PySem.Challenge.rw_sumshare_k31_whole_bounds_of_all_that_fi) (c:=223) (T:=219) rfl rfl (fun w h Y=>PySem.W.km_in_of Y) (fun w mg mb lo mean h TT X=>List.forall_mem_cons.mpr ⟨PySem.W.tab_of (x:=PySem.Str.ofString "grown_ladder") (c:=223) (P:=219) TT X rfl (by kernel_rfl),fun _ h=>nomatch h⟩) (fun w=>by kernel_rfl) ?F
 case F=>
  intro w mg fa h KX G hmg
  refine' K31.all_mk (c:=223) (T:=219) KX G hmg (L2.df_mk KX G ?_ ?_ ?_ ?_) (L2.df_mk KX G ?_ ?_ ?_ ?_) (L2.df_mk KX G ?_ ?_ ?_ ?_) (L2.df_mk KX G ?_ ?_ ?_ ?_) (L2.df_mk KX G ?_ ?_ ?_ ?_) (L2.df_mk KX G ?_ ?_ ?_ ?_) (L2.df_mk KX G ?_ ?_ ?_ ?_) (L2.df_mk KX G ?_ ?_ ?_ ?_) (L2.df_mk KX G ?_ ?_ ?_ ?_) (L2.df_mk KX G ?_ ?_ ?_ ?_) (L2.df_mk KX G ?_ ?_ ?_ ?_) (L2.df_mk KX G ?_ ?_ ?_ ?_) (L2.df_mk KX G ?_ ?_ ?_ ?_) (L2.df_mk KX G ?_ ?_ ?_ ?_) (L2.df_mk KX G ?_ ?_ ?_ ?_) (L2.df_mk KX G ?_ ?_ ?_ ?_) (L2.df_mk KX G ?_ ?_ ?_ ?_) (L2.df_mk KX G ?_ ?_ ?_ ?_) (L2.df_mk KX G ?_ ?_ ?_ ?_) (L2.df_mk KX G ?_ ?_ ?_ ?_) (L2.df_mk KX G ?_ ?_ ?_ ?_) (L2.df_mk KX G ?_ ?_ ?_ ?_) ?a22 ?l22 ?c22 ?k22 (L2.df_mk KX G ?_ ?_ ?_ ?_) (L2.df_mk KX G ?_ ?_ ?_ ?_) (L2.df_mk KX G ?_ ?_ ?_ ?_) (L2.df_mk KX G ?_ ?_ ?_ ?_) (L2.df_mk KX G ?_ ?_ ?_ ?_) (L2.df_mk KX G ?_ ?_ ?_ ?_) (L2.df_mk KX G ?_ ?_ ?_ ?_) (L2.df_mk KX G ?_ ?_ ?_ ?_) (L2.df_mk KX G ?_ ?_ ?_ ?_) (L2.df_mk KX G ?_ ?_ ?_ ?_) (L2.df_mk KX G ?_ ?_ ?_ ?_) (L2.df_mk KX G ?_ ?_ ?_ ?_) (L2.df_mk KX G ?_ ?_ ?_ ?_) (L2.df_mk KX G ?_ ?_ ?_ ?_) (L2.df_mk KX G ?_ ?_ ?_ ?_) (L2.df_mk KX G ?_ ?_ ?_ ?_) (L2.df_mk KX G ?_ ?_ ?_ ?_) (L2.df_mk KX G ?_ ?_ ?_ ?_) (L2.df_mk KX G ?_ ?_ ?_ ?_) (L2.df_mk KX G ?_ ?_ ?_ ?_) (L2.df_mk KX G ?_ ?_ ?_ ?_) (L2.df_mk KX G ?_ ?_ ?_ ?_) (L2.df_mk KX G ?_ ?_ ?_ ?_) (L2.df_mk KX G ?_ ?_ ?_ ?_) (L2.df_mk KX G ?_ ?_ ?_ ?_) (L2.df_mk KX G ?_ ?_ ?_ ?_) (L2.df_mk KX G ?_ ?_ ?_ ?_) (L2.df_mk KX G ?_ ?_ ?_ ?_) (L2.df_mk KX G ?_ ?_ ?_ ?_) (L2.df_mk KX G ?_ ?_ ?_ ?_) (L2.df_mk KX G ?_ ?_ ?_ ?_) ?a54 ?l54 ?c54 ?k54 (zS KX G ?_) (zS KX G ?_) (zS KX G ?_) (zS KX G ?_) (zS KX G ?_) (zS KX G ?_) (zS KX G ?_) (zS KX G ?_) (zS KX G ?_) (zS KX G ?_) (zS KX G ?_) (zS KX G ?_) ?hcT ?hgP
  (case a22=>k_is);(case l22=>k_is);(case c22=>k_is);(case k22=>k_is)
  (case a54=>k_is);(case l54=>k_is);(case c54=>k_is);(case k54=>k_is)
  (case hcT=>kernel_rfl);(case hgP=>decide)
  any_goals k_is
