import PyProof.Rows.All
import Wide.All
import OpenK.AllK
import Wide.FinOn
import Lean
import PyProof.EqAt
import PyProof.EqKinds
import PyProof.TupleCall
import PySem.Challenge.RW_sumshare_k24_is_it_a_ladder
set_option Elab.async false
set_option linter.all false
set_option maxRecDepth 100000
section
open PySem PySem.Spec PyProof.Rows
theorem io:type_of%@PySem.wpAny_bind:=@PySem.wpAny_bind
theorem pi:type_of%@PySem.wpAny_pure:=@PySem.wpAny_pure
theorem xh.{u0,u1}:type_of%@List.length_map.{u0,u1}:=@List.length_map.{u0,u1}
theorem xi:type_of%@PySem.Heap.get?_push_of_some:=@PySem.Heap.get?_push_of_some
theorem xj:type_of%@Nat.le_refl:=@Nat.le_refl
theorem xk:type_of%@PySem.Heap.lt_size:=@PySem.Heap.lt_size
theorem xm.{u0}:type_of%@if_neg.{u0}:=@if_neg.{u0}
theorem xn.{u0}:type_of%@List.length_append.{u0}:=@List.length_append.{u0}
theorem xo.{u0}:type_of%@List.getElem?_eq_some_iff.{u0}:=@List.getElem?_eq_some_iff.{u0}
theorem xp.{u0}:type_of%@if_pos.{u0}:=@if_pos.{u0}
theorem xq.{u0}:type_of%@List.mem_singleton.{u0}:=@List.mem_singleton.{u0}
theorem xt:type_of%@PySem.Heap.get?_push_size:=@PySem.Heap.get?_push_size
theorem xu.{u0,u1}:type_of%@List.map_cons.{u0,u1}:=@List.map_cons.{u0,u1}
theorem xv.{u0}:type_of%@List.mem_cons.{u0}:=@List.mem_cons.{u0}
theorem xw:type_of%@Bool.false_ne_true:=@Bool.false_ne_true
theorem xx:type_of%@Nat.ne_of_lt:=@Nat.ne_of_lt
theorem xy:type_of%@of_decide_eq_true:=@of_decide_eq_true
theorem xz.{u0}:type_of%@List.getElem?_eq_getElem.{u0}:=@List.getElem?_eq_getElem.{u0}
theorem xA.{u0}:type_of%@List.mem_append_right.{u0}:=@List.mem_append_right.{u0}
theorem xB:type_of%@decide_eq_true:=@decide_eq_true
theorem xC.{u0}:type_of%@Array.getElem?_eq_getElem.{u0}:=@Array.getElem?_eq_getElem.{u0}
theorem xD.{u0}:type_of%@List.length_cons.{u0}:=@List.length_cons.{u0}
theorem xE.{u0,u1}:type_of%@List.getElem?_map.{u0,u1}:=@List.getElem?_map.{u0,u1}
theorem xF.{u0}:type_of%@Array.length_toList.{u0}:=@Array.length_toList.{u0}
theorem xG:type_of%@PySem.Paired.length:=@PySem.Paired.length
theorem xH:type_of%@Nat.lt_of_lt_of_le:=@Nat.lt_of_lt_of_le
theorem xI.{u0,u1}:type_of%@List.mem_map.{u0,u1}:=@List.mem_map.{u0,u1}
theorem xJ:type_of%@PyProof.Rows.boot_isinstance:=@PyProof.Rows.boot_isinstance
theorem xK.{u0}:type_of%@Option.some.inj.{u0}:=@Option.some.inj.{u0}
theorem xL.{u0}:type_of%@List.mem_of_getElem?.{u0}:=@List.mem_of_getElem?.{u0}
theorem xM.{u0}:type_of%@List.mem_append.{u0}:=@List.mem_append.{u0}
theorem xN.{u0,u1}:type_of%@List.map_append.{u0,u1}:=@List.map_append.{u0,u1}
theorem xO.{u0}:type_of%@List.size_toArray.{u0}:=@List.size_toArray.{u0}
theorem xP.{u0}:type_of%@List.mem_cons_self.{u0}:=@List.mem_cons_self.{u0}
theorem xQ:type_of%@PySem.wpAny_holding:=@PySem.wpAny_holding
theorem xR.{u0}:type_of%@List.pairwise_cons.{u0}:=@List.pairwise_cons.{u0}
theorem xS:type_of%@PySem.W.mg_none_of:=@PySem.W.mg_none_of
theorem xT:type_of%@PySem.wpAny_newObj_type:=@PySem.wpAny_newObj_type
theorem xU:type_of%@PySem.wpAny_dictEntries:=@PySem.wpAny_dictEntries
theorem xV.{u0}:type_of%@List.mem_cons_of_mem.{u0}:=@List.mem_cons_of_mem.{u0}
theorem xW.{u0}:type_of%@List.nodup_cons.{u0}:=@List.nodup_cons.{u0}
theorem xX:type_of%@PySem.mem_of_lookup:=@PySem.mem_of_lookup
theorem xY.{u0}:type_of%@List.sum_cons.{u0}:=@List.sum_cons.{u0}
theorem xZ:type_of%@Nat.le_trans:=@Nat.le_trans
theorem x9:type_of%@PySem.boot_len:=@PySem.boot_len
theorem yc.{u0}:type_of%@List.take_length.{u0}:=@List.take_length.{u0}
theorem yg.{u0,u1,u2}:type_of%@List.map_map.{u0,u1,u2}:=@List.map_map.{u0,u1,u2}
theorem yh:type_of%@Nat.zero_le:=@Nat.zero_le
theorem yi:type_of%@PySem.Around.under_plainId:=@PySem.Around.under_plainId
theorem yj:type_of%@Bool.eq_false_iff:=@Bool.eq_false_iff
theorem yk:type_of%@decide_eq_false:=@decide_eq_false
theorem ym:type_of%@Nat.ne_of_gt:=@Nat.ne_of_gt
theorem yn.{u0}:type_of%@List.length_take.{u0}:=@List.length_take.{u0}
theorem yp:type_of%@PyProof.Rows.wpS_bind:=@PyProof.Rows.wpS_bind
theorem yq.{u0}:type_of%@Array.getElem?_toList.{u0}:=@Array.getElem?_toList.{u0}
theorem yr:type_of%@PyProof.Rows.boot_tuple:=@PyProof.Rows.boot_tuple
theorem yt:type_of%@PySem.wpAny_call_entry:=@PySem.wpAny_call_entry
theorem yu:type_of%@Bool.and_eq_true:=@Bool.and_eq_true
theorem yw.{u0}:type_of%@List.not_mem_nil.{u0}:=@List.not_mem_nil.{u0}
theorem yx:type_of%@PySem.PassesOwn.never:=@PySem.PassesOwn.never
theorem yy.{u0}:type_of%@List.mem_append_left.{u0}:=@List.mem_append_left.{u0}
theorem yz:type_of%@PyProof.Rows.slot_tuple_getitem:=@PyProof.Rows.slot_tuple_getitem
theorem yA:type_of%@PySem.codeAny_builtin:=@PySem.codeAny_builtin
theorem yB:type_of%@PySem.wpAny_mono:=@PySem.wpAny_mono
theorem yC:type_of%@PySem.Heap.get?_update_other:=@PySem.Heap.get?_update_other
theorem yD.{u0,u1}:type_of%@Option.map_eq_some_iff.{u0,u1}:=@Option.map_eq_some_iff.{u0,u1}
theorem yE:type_of%@Bool.eq_iff_iff:=@Bool.eq_iff_iff
theorem yF.{u0}:type_of%@List.length_nil.{u0}:=@List.length_nil.{u0}
theorem yG.{u0}:type_of%@List.length_singleton.{u0}:=@List.length_singleton.{u0}
theorem yH.{u0}:type_of%@List.getElem?_cons_zero.{u0}:=@List.getElem?_cons_zero.{u0}
theorem yI.{u0}:type_of%@List.getElem?_of_mem.{u0}:=@List.getElem?_of_mem.{u0}
theorem yJ.{u0}:type_of%@List.mem_filter.{u0}:=@List.mem_filter.{u0}
theorem yK.{u0}:type_of%@List.length_drop.{u0}:=@List.length_drop.{u0}
theorem yL.{u0}:type_of%@List.all_eq_true.{u0}:=@List.all_eq_true.{u0}
theorem yM.{u0}:type_of%@beq_eq_false_iff_ne.{u0}:=@beq_eq_false_iff_ne.{u0}
theorem yN:type_of%@PySem.wpAny_truthy_bool:=@PySem.wpAny_truthy_bool
theorem yO:type_of%@PySem.wpAny_notOrdered_dict:=@PySem.wpAny_notOrdered_dict
theorem yP:type_of%@PyProof.Rows.wpS_pure:=@PyProof.Rows.wpS_pure
theorem yQ.{u0}:type_of%@List.append_nil.{u0}:=@List.append_nil.{u0}
theorem yR.{u0,u1}:type_of%@List.mem_filterMap.{u0,u1}:=@List.mem_filterMap.{u0,u1}
theorem yS:type_of%@Int.emod_lt_of_pos:=@Int.emod_lt_of_pos
theorem yT.{u0,u1}:type_of%@Prod.ext.{u0,u1}:=@Prod.ext.{u0,u1}
theorem yU:type_of%@PySem.F.plain_list_iadd:=@PySem.F.plain_list_iadd
theorem yV:type_of%@Nat.le_of_lt:=@Nat.le_of_lt
theorem yW:type_of%@PySem.wpAny_typeOf:=@PySem.wpAny_typeOf
theorem yX.{u0}:type_of%@Array.getElem?_eq_none.{u0}:=@Array.getElem?_eq_none.{u0}
theorem yY.{u0,u1}:type_of%@List.pairwise_map.{u0,u1}:=@List.pairwise_map.{u0,u1}
theorem yZ.{u0,u1}:type_of%@List.filterMap_cons.{u0,u1}:=@List.filterMap_cons.{u0,u1}
theorem za:type_of%@PySem.F.plain_extend_loop:=@PySem.F.plain_extend_loop
theorem zd.{u0}:type_of%@List.mem_iff_getElem?.{u0}:=@List.mem_iff_getElem?.{u0}
theorem ze:type_of%@PyProof.Rows.boot_sum:=@PyProof.Rows.boot_sum
theorem zf:type_of%@PySem.tupleKind_room_in1:=@PySem.tupleKind_room_in1
theorem zk:type_of%@Nat.le_add_right:=@Nat.le_add_right
theorem zn.{u0}:type_of%@List.filter_cons.{u0}:=@List.filter_cons.{u0}
theorem zo:type_of%@PySem.wpAny_typeNameOfWhole_itemiter:=@PySem.wpAny_typeNameOfWhole_itemiter
theorem zt:type_of%@Nat.lt_irrefl:=@Nat.lt_irrefl
theorem zu:type_of%@Nat.lt_trans:=@Nat.lt_trans
theorem zw:type_of%@Nat.lt_or_ge:=@Nat.lt_or_ge
theorem zy.{u0}:type_of%@List.nodup_nil.{u0}:=@List.nodup_nil.{u0}
theorem zz:type_of%@PySem.wpAny_typeNameOfWhole_keyiter:=@PySem.wpAny_typeNameOfWhole_keyiter
theorem zA:type_of%@PySem.wpAny_typeNameOfWhole_valiter:=@PySem.wpAny_typeNameOfWhole_valiter
theorem zB:type_of%@Int.le_refl:=@Int.le_refl
theorem zC:type_of%@Int.one_mul:=@Int.one_mul
theorem zD:type_of%@Nat.lt_succ_of_lt:=@Nat.lt_succ_of_lt
theorem zE:type_of%@PySem.F.plainAttrs_dict:=@PySem.F.plainAttrs_dict
theorem zF:type_of%@Int.emod_nonneg:=@Int.emod_nonneg
theorem zG.{u0,u1}:type_of%@congrArg.{u0,u1}:=@congrArg.{u0,u1}
theorem zH:type_of%@PySem.Heap.SameBut.update:=@PySem.Heap.SameBut.update
theorem zI:type_of%@PyProof.Rows.callWith_type1:=@PyProof.Rows.callWith_type1
theorem zJ:type_of%@PyProof.Rows.boot_list:=@PyProof.Rows.boot_list
theorem zK:type_of%@PySem.wpAny_field:=@PySem.wpAny_field
theorem zL:type_of%@PySem.plainId_quiet:=@PySem.plainId_quiet
theorem zM:type_of%@decide_eq_true_iff:=@decide_eq_true_iff
theorem zN:type_of%@PySem.wpAny_passesOwn:=@PySem.wpAny_passesOwn
theorem zO:type_of%@Nat.min_eq_left:=@Nat.min_eq_left
theorem zP.{u0}:type_of%@List.append_assoc.{u0}:=@List.append_assoc.{u0}
theorem zQ.{u0}:type_of%@List.mem_iff_getElem.{u0}:=@List.mem_iff_getElem.{u0}
theorem zR.{u0}:type_of%@List.nodup_append.{u0}:=@List.nodup_append.{u0}
theorem zS:type_of%@PySem.wpAny_setState_of:=@PySem.wpAny_setState_of
theorem zT:type_of%@List.length_range:=@List.length_range
theorem zU:type_of%@Bool.and_eq_true_iff:=@Bool.and_eq_true_iff
theorem zV:type_of%@PySem.wpAny_rule:=@PySem.wpAny_rule
theorem zW:type_of%@PyProof.Rows.boot_sorted:=@PyProof.Rows.boot_sorted
theorem zX:type_of%@PySem.Heap.get?_update_ne:=@PySem.Heap.get?_update_ne
theorem zY.{u0,u1}:type_of%@List.lookup_cons.{u0,u1}:=@List.lookup_cons.{u0,u1}
theorem zZ:type_of%@PySem.Heap.size_push:=@PySem.Heap.size_push
theorem z5:type_of%@Nat.lt_succ_self:=@Nat.lt_succ_self
theorem z6.{u0}:type_of%@List.getElem_mem.{u0}:=@List.getElem_mem.{u0}
theorem z7:type_of%@List.mem_range:=@List.mem_range
theorem z8:type_of%@PySem.wpAny_fieldsOf:=@PySem.wpAny_fieldsOf
theorem Aa:type_of%@PySem.codeAny_mono:=@PySem.codeAny_mono
theorem Ab:type_of%@PySem.wpAny_Call_Name_kw:=@PySem.wpAny_Call_Name_kw
theorem Ac:type_of%@Nat.lt_of_le_of_lt:=@Nat.lt_of_le_of_lt
theorem Ad.{u0}:type_of%@List.take_of_length_le.{u0}:=@List.take_of_length_le.{u0}
theorem Ae:type_of%@of_decide_eq_false:=@of_decide_eq_false
theorem Af:type_of%@PyProof.Rows.get?_update_seq:=@PyProof.Rows.get?_update_seq
theorem Ag:type_of%@PySem.W.kia_one:=@PySem.W.kia_one
theorem Ah:type_of%@PySem.Heap.get?_update_self:=@PySem.Heap.get?_update_self
theorem Ai.{u0}:type_of%@List.getElem?_eq_none.{u0}:=@List.getElem?_eq_none.{u0}
theorem Aj.{u0}:type_of%@List.length_filter_le.{u0}:=@List.length_filter_le.{u0}
theorem Ak:type_of%@PySem.wpAny_pyIter_list:=@PySem.wpAny_pyIter_list
theorem Al:type_of%@PySem.wpAny_pyIter_slot:=@PySem.wpAny_pyIter_slot
theorem Am.{u0}:type_of%@List.Perm.refl.{u0}:=@List.Perm.refl.{u0}
theorem An:type_of%@PySem.wpAny_isInstance:=@PySem.wpAny_isInstance
theorem Ao.{u0,u1,u2}:type_of%@List.forIn_cons.{u0,u1,u2}:=@List.forIn_cons.{u0,u1,u2}
theorem Ap:type_of%@PySem.wpAny_specialOf:=@PySem.wpAny_specialOf
theorem Aq:type_of%@Nat.not_lt_zero:=@Nat.not_lt_zero
theorem Ar:type_of%@PySem.wpAny_dictEpoch:=@PySem.wpAny_dictEpoch
theorem As:type_of%@PySem.wpAny_load:=@PySem.wpAny_load
theorem At:type_of%@PyProof.Rows.wpS_forRange:=@PyProof.Rows.wpS_forRange
end
namespace L2
open PySem PySem.Spec PyProof.Rows
abbrev Key:=Sum Int Str
def dg:Key→Value→Bool
 |.inl k,v=>Value.isInt k v
 |.inr x,v=>Value.isStrOf x v
def keyH(w:World):Key→Int
 |.inl k=>hashInt k
 |.inr x=>hashStr w x
theorem Yc:∀{k:Key}{v:Value},dg k v=true→(∃i t,k=Sum.inl i∧v=Value.int i t)∨(∃x t,k=Sum.inr x∧v=Value.str x t)
 |.inl i,v,h=>by
  obtain⟨t,e⟩:=Value.isInt_shape (k:=i) (v:=v) h;exact .inl ⟨i,t,rfl,e⟩
 |.inr x,v,h=>by
  obtain⟨t,e⟩:=Value.isStrOf_shape (x:=x) (v:=v) h;exact .inr ⟨x,t,rfl,e⟩
theorem jR(i:Int)(t:Tok):dg (.inl i) (.int i t)=true:=by simp[dg,Value.isInt]
theorem kg(x:Str)(t:Tok):dg (.inr x) (.str x t)=true:=by simp[dg,Value.isStrOf]
theorem tY(a b:Int):decide ((Sum.inl a:Key)=Sum.inl b)=(a==b):=by
 by_cases e:a=b
 ·subst e;simp
 ·have h:¬(Sum.inl a:Key)=Sum.inl b:=fun q=>e (Sum.inl.inj q);rw[yk h];exact(yM.mpr e).symm
theorem sy(a b:Str):decide ((Sum.inr a:Key)=Sum.inr b)=decide (a=b):=by
 by_cases e:a=b
 ·subst e;simp
 ·have h:¬(Sum.inr a:Key)=Sum.inr b:=fun q=>e (Sum.inr.inj q);rw[yk h,yk e]
theorem uk(a:Int)(b:Str):decide ((Sum.inl a:Key)=Sum.inr b)=false:=yk (fun q=>nomatch q)
theorem sR(a:Str)(b:Int):decide ((Sum.inr a:Key)=Sum.inl b)=false:=yk (fun q=>nomatch q)
def af(prog:Program)(w:World):PySem.KeyKind prog w Key where
 is:=dg
 hash:=keyH w
 inj:=fun v a b ha hb=>by
  rcases Yc ha with⟨i,t,rfl,rfl⟩|⟨x,t,rfl,rfl⟩
  ·rcases Yc hb with⟨j,u,rfl,e⟩|⟨y,u,rfl,e⟩
   ·injection e with e1 _;rw[e1]
   ·exact nomatch e
  ·rcases Yc hb with⟨j,u,rfl,e⟩|⟨y,u,rfl,e⟩
   ·exact nomatch e
   ·injection e with e1 _;rw[e1]
 byValue:=fun k v h=>by
  rcases Yc h with⟨i,t,rfl,rfl⟩|⟨x,t,rfl,rfl⟩ <;> rfl
 pyHash:=fun hv h=>by
  rcases Yc hv with⟨i,t,rfl,rfl⟩|⟨x,t,rfl,rfl⟩
  ·exact wpAny_pyHash_int h
  ·exact wpAny_pyHash_str h
 eqBool:=fun hu hv h=>by
  rcases Yc hu with⟨i,t,rfl,rfl⟩|⟨x,t,rfl,rfl⟩
  ·rcases Yc hv with⟨j,u,rfl,rfl⟩|⟨y,u,rfl,rfl⟩
   ·rw[tY]at h;exact wpAny_eqBool_int h
   ·rw[uk]at h;exact SeqAt.EqAt.int_str i t y u _ _ _ _ h
  ·rcases Yc hv with⟨j,u,rfl,rfl⟩|⟨y,u,rfl,rfl⟩
   ·rw[sR]at h;exact SeqAt.EqAt.str_int x t j u _ _ _ _ h
   ·rw[sy]at h;exact wpAny_eqBool_str h
 «strs»:=fun k x t v h=>by
  rcases Yc h with⟨i,u,rfl,e⟩|⟨y,u,rfl,e⟩
  ·exact nomatch e
  ·injection e with e1 _
   subst e1;cases v <;> rfl
theorem Wc(prog:Program)(w:World)(i:Int)(t:Tok):(af prog w).is (.inl i) (.int i t)=true:=jR i t
theorem Sg(prog:Program)(w:World)(x:Str)(t:Tok):(af prog w).is (.inr x) (.str x t)=true:=kg x t
inductive V where
 |non | bl (b:Bool) | int (i:Int) | str (x:Str) | byt (b:Array UInt8) | flt (b:UInt64) | ref (a:Addr) | ty (n:String)
 deriving DecidableEq
def RelV:V→Value→Prop
 |.non,u=>u=Value.none
 |.bl b,u=>u=Value.bool b
 |.int i,u=>∃t,u=Value.int i t
 |.str x,u=>∃t,u=Value.str x t
 |.byt b,u=>∃t,u=Value.bytes b t
 |.flt b,u=>∃t,u=Value.float b t
 |.ref a,u=>u=Value.ref a
 |.ty n,u=>u=Value.type n
abbrev Vals:List V→List Value→Prop:=Paired RelV
theorem Vals.length{xs:List V}{us:List Value}(r:Vals xs us):xs.length=us.length:=xG r
theorem Vals.get:∀{xs:List V}{us:List Value}{i:Nat}{x:V},Vals xs us→xs[i]?=some x→∃u,us[i]?=some u∧RelV x u
 |_,_,_,_,.nil,e=>by simp at e
 |_,_,0,_,.cons r _,e=>by simp at e;subst e;exact⟨_,rfl,r⟩
 |_,_,i+1,x,.cons _ t,e=>by
  obtain⟨u,h1,h2⟩:=Vals.get (i:=i) (x:=x) t (by simpa using e);exact⟨u,by simpa using h1,h2⟩
theorem Vals.set{x:V}{u:Value}(r:RelV x u):∀{xs:List V}{us:List Value}(i:Nat),Vals xs us→Vals (xs.set i x) (us.set i u)
 |_,_,_,.nil=>.nil
 |_,_,0,.cons _ t=>.cons r t
 |_,_,i+1,.cons q t=>.cons q (Vals.set r i t)
theorem Vals.append{xs ys:List V}{us ws:List Value}(h:Vals xs us)(s:Vals ys ws):Vals (xs++ys) (us++ws):=by
 induction h with
 |nil=>exact s
 |cons r t ih=>exact .cons r ih
theorem Vals.take:∀{xs:List V}{us:List Value}(n:Nat),Vals xs us→Vals (xs.take n) (us.take n)
 |_,_,0,_=>.nil
 |_,_,_+1,.nil=>.nil
 |_,_,n+1,.cons r t=>.cons r (Vals.take n t)
theorem Vals.drop:∀{xs:List V}{us:List Value}(n:Nat),Vals xs us→Vals (xs.drop n) (us.drop n)
 |_,_,0,r=>r
 |_,_,_+1,.nil=>.nil
 |_,_,n+1,.cons _ t=>Vals.drop n t
def RelO:Option V→Option Value→Prop
 |some v,some u=>RelV v u
 |none,none=>True
 |_,_=>False
def KV{κ:Type}:List (κ×V)→List (κ×Value)→Prop:=Paired fun(p:κ×V)(q:κ×Value)=>p.1=q.1∧RelV p.2 q.2
def kV:Key→V
 |.inl i=>.int i
 |.inr x=>.str x
inductive HO where
 |lst (xs:List V)
 |tup (xs:List V)
 |dK (kvs:List (Key×V)) | dT (kvs:List (List Key×V))
 |set (S:Int→Bool) (n:Nat)
 |ins (C dx:Addr) (fs:List (Str×V))
 |own (x:Addr)
 |xd (fs:List (Str×V))
 |met (f x:Addr)
 |rng (lo hi:Int)
 |frz (o:Obj) (u:HO)
 |tbl (ps:Array Value)
 |ext (φ:Heap→Prop)
abbrev Hp:=Addr→Option HO
def upd(H:Hp)(a:Addr)(o:HO):Hp:=fun b=>if b=a then some o else H b
theorem Z7{H:Hp}{a:Addr}{o:HO}:upd H a o a=some o:=by unfold upd;rw[xp rfl]
theorem Ze{H:Hp}{a b:Addr}{o:HO}(h:b≠a):upd H a o b=H b:=by unfold upd;rw[xm h]
theorem Vd{H:Hp}{a b:Addr}{o u:HO}(h:H a=some o)(h':H b=some u)(d:o≠u):a≠b:=by
 intro e;subst e;rw[h]at h';exact d (xK h')
theorem Zk{H:Hp}{a b:Addr}{o:HO}(h:H a=some o)(h':H b=none):a≠b:=by
 intro e;subst e;rw[h]at h';cases h'
def TupN(h:Heap)(a:Addr)(items:Array Value):Prop:=∃o,h.get? a=some o∧(o.cls=.type "tuple"∧o.dict=none)∧∃n,o.data=.seq items n
theorem TupN.tup{h:Heap}{a:Addr}{items:Array Value}(x:TupN h a items):IsTup h a items:=let ⟨o,e,c,n,d⟩:=x;⟨o,e,c.1,n,d⟩
theorem TupN.new(h:Heap)(items:Array Value):TupN (h.push {cls:=.type "tuple",data:=.seq items}) h.objs.size items:=⟨_,xt _ rfl,⟨rfl,rfl⟩,_,rfl⟩
section
variable(P:Program)(w:World)
def ObjOk(H:Hp)(h:Heap)(a:Addr):HO→Prop
 |.lst xs=>xs.length≤sizeLine∧∃(its:List Value)(n:Nat),Vals xs its∧h.get? a=some {cls:=.type "list",data:=.seq its.toArray n}
 |.tup xs=>xs.length≤sizeLine∧∃its:List Value,Vals xs its∧TupN h a its.toArray
 |.dK kvs=>kvs.length≤sizeLine∧(a==sysModules)=false∧∃vs,KV kvs vs∧h.DictOf (af P w) a vs
 |.dT kvs=>kvs.length≤sizeLine∧(a==sysModules)=false∧∃xs:List (List Key×Addr×Value),
   Paired (fun(p:List Key×V)(q:List Key×Addr×Value)=>p.1=q.1∧H q.2.1=some (.tup (p.1.map kV))∧RelV p.2 q.2.2) kvs xs∧
   ∃o es ep,h.get? a=some o∧o.ExactDict∧o.data=.dict es ep∧es.toList=xs.map (entryOfKey (tupleKind (af P w)))∧(xs.map (·.1)).Nodup
 |.set S n=>h.SetOf (intKind P w) a S n
 |.ins C dx fs=>H dx=some (.own a)∧fs.length≤1000∧dx≠a∧h.get? a=some (W.instObj C dx)∧
   ∃mA,h.Ns1 dx mA∧(∀f,RelO (fs.lookup f) (mA f))∧PySem.Within mA (fs.map (·.1))
 |.own _=>∃o,h.get? a=some o
 |.xd fs=>∃mA,h.Ns1 a mA∧∀f,RelO (fs.lookup f) (mA f)
 |.rng lo hi=>∃t u v,h.get? a=some {cls:=.type "range",data:=.fields #[.int lo t,.int hi u,.int 1 v]}
 |.frz o u=>h.get? a=some o∧ObjOk H h a u
 |.tbl ps=>h.get? a=some {cls:=.none,data:=.fields ps}
 |.met f x=>h.get? a=some (W.methodObj (.ref f) (.ref x))
 |.ext φ=>φ h∧(∃o,h.get? a=some o)∧∀h1 h2:Heap,φ h1→(∀o,h1.get? a=some o→h2.get? a=some o)→φ h2
def HOk(H:Hp)(h:Heap):Prop:=∀a o,H a=some o→ObjOk P w H h a o
end
section
variable{P:Program}{w:World}{H H':Hp}{h h':Heap}{a:Addr}{o:HO}
theorem ObjOk.lt(x:ObjOk P w H h a o):a<h.objs.size:=by
 cases o with
 |lst xs=>obtain⟨_,_,_,_,e⟩:=x;exact xk e
 |tup xs=>obtain⟨_,_,_,p⟩:=x;exact p.tup.lt
 |dK kvs=>obtain⟨_,_,_,_,o,_,_,e,_⟩:=x;exact xk e
 |dT kvs=>obtain⟨_,_,_,_,o,_,_,e,_⟩:=x;exact xk e
 |set S n=>obtain⟨o,_,_,_,e,_⟩:=x;exact xk e
 |ins C dx fs=>obtain⟨_,_,_,e,_⟩:=x;exact xk e
 |own y=>obtain⟨_,e⟩:=x;exact xk e
 |xd fs=>obtain⟨_,⟨_,_,_,e,_⟩,_⟩:=x;exact xk e
 |rng lo hi=>obtain⟨_,_,_,e⟩:=x;exact xk e
 |frz ob u=>obtain⟨e,_⟩:=x;exact xk e
 |tbl ps=>exact xk (show h.get? a=some _ from x)
 |met f y=>exact xk (show h.get? a=some _ from x)
 |ext φ=>obtain⟨_,⟨_,e⟩,_⟩:=x;exact xk e
theorem Paired.mapP{α β:Type}{F G:α→β→Prop}{l₁:List α}{l₂:List β}(h:Paired F l₁ l₂)(f:∀a b,F a b→G a b):Paired G l₁ l₂:=by
 induction h with
 |nil=>exact .nil
 |cons r t ih=>exact .cons (f _ _ r) ih
theorem ObjOk.stay(x:ObjOk P w H h a o)(k:∀b u,(b=a∨H b=some (.own a))→h.get? b=some u→h'.get? b=some u)(ho:∀b,H b=some (.own a)→H' b=some (.own a))(ht:∀b xs,H b=some (.tup xs)→H' b=some (.tup xs)):ObjOk P w H' h' a o:=by
 induction o with
 |lst xs=>obtain⟨z,its,n,r,e⟩:=x;exact⟨z,its,n,r,k _ _ (.inl rfl) e⟩
 |tup xs=>obtain⟨z,its,r,ob,e,c⟩:=x;exact⟨z,its,r,ob,k _ _ (.inl rfl) e,c⟩
 |dK kvs=>obtain⟨z,y,vs,r,ob,es,ep,e,c⟩:=x;exact⟨z,y,vs,r,ob,es,ep,k _ _ (.inl rfl) e,c⟩
 |dT kvs=>
  obtain⟨z,y,xs,r,ob,es,ep,e,c⟩:=x;exact⟨z,y,xs,Paired.mapP r fun p q z=>⟨z.1,ht _ _ z.2.1,z.2.2⟩,ob,es,ep,k _ _ (.inl rfl) e,c⟩
 |set S n=>obtain⟨ob,es,ep,t,e,c⟩:=x;exact⟨ob,es,ep,t,k _ _ (.inl rfl) e,c⟩
 |ins C dx fs=>
  obtain⟨d,z,ne,e,mA,⟨od,es,ep,e2,c⟩,r⟩:=x;exact⟨ho _ d,z,ne,k _ _ (.inl rfl) e,mA,⟨od,es,ep,k _ _ (.inr d) e2,c⟩,r⟩
 |own y=>obtain⟨ob,e⟩:=x;exact⟨ob,k _ _ (.inl rfl) e⟩
 |xd fs=>obtain⟨mA,⟨od,es,ep,e,c⟩,r⟩:=x;exact⟨mA,⟨od,es,ep,k _ _ (.inl rfl) e,c⟩,r⟩
 |rng lo hi=>obtain⟨t,u,v,e⟩:=x;exact⟨t,u,v,k _ _ (.inl rfl) e⟩
 |frz ob u ih=>obtain⟨e,q⟩:=x;exact⟨k _ _ (.inl rfl) e,ih q⟩
 |tbl ps=>
  have e:h.get? a=some {cls:=.none,data:=.fields ps}:=x;show h'.get? a=some {cls:=.none,data:=.fields ps};exact k a _ (.inl rfl) e
 |met f y=>
  have e:h.get? a=some (W.methodObj (.ref f) (.ref y)):=x;show h'.get? a=some (W.methodObj (.ref f) (.ref y));exact k a _ (.inl rfl) e
 |ext φ=>obtain⟨p,⟨o,e⟩,st⟩:=x;exact⟨st _ _ p fun o q=>k _ _ (.inl rfl) q,⟨o,k _ _ (.inl rfl) e⟩,st⟩
theorem HOk.lt(x:HOk P w H h)(e:H a=some o):a<h.objs.size:=(x a o e).lt
theorem HOk.fresh(x:HOk P w H h)(e:h.objs.size≤a):H a=none:=by
 cases q:H a with
 |none=>rfl
 |some u=>exact absurd (xH (x.lt q) e) (zt _)
theorem HOk.kept(x:HOk P w H h)(k:∀b u,h.get? b=some u→h'.get? b=some u):HOk P w H h':=fun a o e=>
 (x a o e).stay (fun b u _ q=>k b u q) (fun _ q=>q) fun _ _ q=>q
theorem HOk.laid(x:HOk P w H h)(k:∀b u,h.get? b=some u→h'.get? b=some u)(hp:h.objs.size≤a)(new:ObjOk P w (upd H a o) h' a o):HOk P w (upd H a o) h':=fun b u e=>by
 have hn:=x.fresh hp;by_cases hb:b=a
 ·subst hb;rw[Z7]at e;cases e;exact new
 ·rw[Ze hb]at e;exact(x b u e).stay (fun c v _ q=>k c v q) (fun c q=>by rw[Ze (Zk q hn)];exact q) fun c xs q=>by rw[Ze (Zk q hn)];exact q
end
def Rd(H:Hp)(a:Addr)(u:HO):Prop:=H a=some u∨∃o,H a=some (.frz o u)
theorem Rd.ok{P:Program}{w:World}{H:Hp}{h:Heap}{a:Addr}{u:HO}(r:Rd H a u)(x:HOk P w H h):ObjOk P w H h a u:=by
 rcases r with r | ⟨o,r⟩
 ·exact x a u r
 ·obtain⟨_,q⟩:=x a _ r;exact q
def Mut:Option HO→Prop
 |some (.lst _)=>True
 |some (.dK _)=>True
 |some (.dT _)=>True
 |some (.set _ _)=>True
 |some (.ins _ _ _)=>True
 |some (.ext _)=>True
 |_=>False
section
variable{P:Program}{w:World}{H:Hp}{h h':Heap}{x e:Addr}{o':HO}
theorem HOk.write(ok:HOk P w H h)(mu:Mut (H x))(he:e=x∨H e=some (.own x))(k:∀b u,b≠e→h.get? b=some u→h'.get? b=some u)(heo:∃u,h'.get? e=some u)(new:ObjOk P w (upd H x o') h' x o'):HOk P w (upd H x o') h':=fun b u q=>by
 have nown:∀c y,H c=some (.own y)→c≠x:=fun c y r z=>by subst z;rw[r]at mu;exact mu
 have ntup:∀c xs,H c=some (.tup xs)→c≠x:=fun c xs r z=>by subst z;rw[r]at mu;exact mu
 by_cases hb:b=x
 ·subst hb;rw[Z7]at q;cases q;exact new
 ·rw[Ze hb]at q;by_cases hbe:b=e
  ·have q':H b=some (.own x):=by
    rcases he with z | z
    ·exact absurd (hbe.trans z) hb
    ·rw[hbe];exact z
   rw[q]at q';cases q';obtain⟨v,hv⟩:=heo;exact⟨v,by rw[hbe];exact hv⟩
  ·refine(ok b u q).stay (fun c v hc r=>k c v ?_ r) (fun c r=>by rw[Ze (nown c b r)];exact r) fun c xs r=>by rw[Ze (ntup c xs r)];exact r
   rcases hc with rfl | hc
   ·exact hbe
   ·rintro rfl
    rcases he with z | z
    ·exact nown c b hc z
    ·rw[hc]at z;cases z;exact hb rfl
end
structure Un(fs ex:List Addr)(H H':Hp)(h h':Heap):Prop where
 keep:∀b o,h.get? b=some o→H b=none→b∉fs→b∉ex→h'.get? b=some o
 slot:∀b o,h.get? b=some o→H b=none→b∈fs→b∉ex→∃sl,h'.get? b=some {o with slots:=sl}
 free:∀b o,h.get? b=some o→H b=none→b∉ex→H' b=none
 there:∀b o,h.get? b=some o→b∉ex→∃o',h'.get? b=some o'
 tups:∀b xs,H b=some (.tup xs)→H' b=some (.tup xs)
 frzs:∀b o u,H b=some (.frz o u)→H' b=some (.frz o u)
 tbls:∀b ps,H b=some (.tbl ps)→∃more,H' b=some (.tbl (ps++more))
section
variable{fs fs' ex ex':List Addr}{H H1 H2:Hp}{h h1 h2 h':Heap}{a x e:Addr}{o:HO}
theorem Un.any(u:Un fs ex H H1 h h1){b:Addr}{ob:Obj}(q:h.get? b=some ob)(n:H b=none)(hx:b∉ex):∃sl,h1.get? b=some {ob with slots:=sl}:=by
 by_cases hb:b∈fs
 ·exact u.slot b ob q n hb hx
 ·exact⟨ob.slots,u.keep b ob q n hb hx⟩
theorem Un.kept(k:∀b u,h.get? b=some u→h'.get? b=some u):Un fs ex H H h h':=
 ⟨fun b ob q _ _ _=>k b ob q,fun b ob q _ _ _=>⟨ob.slots,k b ob q⟩,fun _ _ _ n _=>n,fun b ob q _=>⟨ob,k b ob q⟩,fun _ _ q=>q,fun _ _ _ q=>q,fun _ ps q=>⟨#[],by rw[q];simp⟩⟩
theorem Un.refl:Un fs ex H H h h:=Un.kept fun _ _ q=>q
theorem Un.laid(k:∀b u,h.get? b=some u→h'.get? b=some u)(hp:h.objs.size≤a)(hn:H a=none):Un fs ex H (upd H a o) h h' where
 keep:=fun b u q _ _ _=>k b u q
 slot:=fun b u q _ _ _=>⟨u.slots,k b u q⟩
 free:=fun b u q n _=>by rw[Ze (xx (xH (xk q) hp))];exact n
 there:=fun b u q _=>⟨u,k b u q⟩
 tups:=fun b xs q=>by rw[Ze (Zk q hn)];exact q
 frzs:=fun b u xs q=>by rw[Ze (Zk q hn)];exact q
 tbls:=fun b ps q=>⟨#[],by rw[Ze (Zk q hn),q];simp⟩
theorem Un.write(mu:Mut (H x))(he:e=x∨H e=some (.own x))(k:∀b u,b≠e→h.get? b=some u→h'.get? b=some u)(heo:∃u,h'.get? e=some u):Un fs ex H (upd H x o) h h':=by
 have hx:∀b,H b=none→b≠x:=fun b n z=>by subst z;rw[n]at mu;exact mu
 have hb:∀b,H b=none→b≠e:=fun b n z=>by
  subst z
  rcases he with r | r
  ·exact hx b n r
  ·rw[n]at r;cases r
 have hm:∀b u,H b=some u→¬Mut (some u)→b≠x:=fun b u q nm z=>by subst z;rw[q]at mu;exact nm mu
 refine⟨fun b u q n _ _=>k b u (hb b n) q,fun b u q n _ _=>⟨u.slots,k b u (hb b n) q⟩,fun b u q n _=>by rw[Ze (hx b n)];exact n,fun b u q _=>?_,
  fun b xs q=>by rw[Ze (hm b _ q fun z=>z)];exact q,fun b u xs q=>by rw[Ze (hm b _ q fun z=>z)];exact q,fun b ps q=>⟨#[],by rw[Ze (hm b _ q fun z=>z),q];simp⟩⟩
 by_cases hbe:b=e
 ·subst hbe;exact heo
 ·exact⟨u,k b u hbe q⟩
end
def trk(h:Heap)(H:Hp):List Addr:=(List.range h.objs.size).filter fun a=>(H a).isSome
def du(h:Heap)(H:Hp):Heap:=W.hideAll h (trk h H)
theorem kT(h:Heap)(H:Hp):(du h H).objs.size=h.objs.size:=W.hideAll_size _ _
theorem li{h:Heap}{H:Hp}{b:Addr}{o:Obj}(e:h.get? b=some o)(n:H b=none):(du h H).get? b=some o:=
 W.hideAll_get _ e fun hm=>by
  have q:(H b).isSome=true:=(yJ.mp hm).2;rw[n]at q;simp at q
theorem qR{h:Heap}{H:Hp}{b:Addr}{o:Obj}(e:(du h H).get? b=some o):h.get? b=some o∧H b=none:=by
 have e':h.get? b=some o:=W.of_hideAll (trk h H) e;refine⟨e',?_⟩;cases q:H b with
 |none=>rfl
 |some x=>
  have hm:b∈trk h H:=List.mem_filter.mpr ⟨List.mem_range.mpr (Heap.lt_size e'),by simp[q]⟩;have z:(du h H).get? b=none:=W.hideAll_none (trk h H) hm;rw[z]at e;cases e
structure Mod(K:W.Frag)(mg:Str→Option Value)(base:Heap):Prop where
 kin:K.In base
 glob:base.Ns mainGlobals mg
 blt:∃mb,base.Ns builtinsNs mb∧∀x:Str,x≠"__name__"→mb x=bootBuiltins x
 nolimit:base.NoLimit
structure Cx where
 prog:Program
 w:World
 K:W.Frag
 mg:Str→Option Value
 base:Heap
 A:Around
 N:List Str
 s₀:Shared
 H₀:Hp
 env:Env
 outer:List Env
 stack:List Env
 ex:List Addr
 fn:Str→Bool
 calm:Bool
 pn:List (Addr×Obj)
 xe:Value→Shared→Prop
def frs(l:List Env):List Addr:=l.filterMap (·.frame)
abbrev Cx.fs(X:Cx):List Addr:=frs X.outer
def Vis(sc:Scope)(x:Str):Prop:=sc.names.lookup x=some .local∨sc.names.lookup x=some .cell∨sc.names.lookup x=some .free
def Loc(sc:Scope)(x:Str):Prop:=sc.names.lookup x=some .local∨sc.names.lookup x=some .cell
def Look(env:Env)(h:Heap)(m:Str→Option Value)(x:Str)(u:Value):Prop:=
 (env.kindOf x=some .local∧m x=some u)∨((env.kindOf x=some .cell∨env.kindOf x=some .free)∧∃c,env.cells.lookup x=some c∧h.IsCell c (some u))
structure Cx.Ok(X:Cx):Prop where
 mod:Mod X.K X.mg X.base
 kind:X.env.scope.kind=.function
 glob:X.env.globals=mainGlobals
 blt:X.env.builtins=builtinsNs
 above:X.s₀.heap.objs.size≤X.env.locals
 inj:∀x y c,X.env.cells.lookup x=some c→X.env.cells.lookup y=some c→x=y
 has:∀x,(X.env.kindOf x=some .cell∨X.env.kindOf x=some .free)→∃c,X.env.cells.lookup x=some c
 cab:∀x c,X.fn x=true→X.env.cells.lookup x=some c→X.s₀.heap.objs.size≤c
 hd:X.calm=true→X.A.handled=none
 frames:X.A.frames=some X.stack
 stk:X.stack=X.outer∨(X.stack=X.env::X.outer∧X.env.frame=some X.env.locals)
 exf:∀b∈X.ex,b≠X.env.locals∧∀x c,X.env.cells.lookup x=some c→c≠b
 bs:∀b o,X.base.get? b=some o→X.s₀.heap.get? b=some o∧X.H₀ b=none
 bsz:X.base.objs.size≤X.s₀.heap.objs.size
 noex:∀b o,X.base.get? b=some o→b∉X.ex
 exfs:∀b∈X.ex,b∉X.fs
 funs:X.s₀.heap.FunFrames X.base X.outer
 frf:∀b∈X.fs,X.H₀ b=none
structure Inv(X:Cx)(Av:List (Addr×Obj))(σ:List (Option V))(H:Hp)(s:Shared):Prop where
 ok:X.Ok
 os:s.os=X.s₀.os
 bare:AllBare s.gens
 base:Un X.fs X.ex X.H₀ H X.s₀.heap s.heap
 loc:∃m,s.heap.Ns X.env.locals m∧∀(i:Nat)(x:Str)(v:V),X.N[i]?=some x→σ[i]?=some (some v)→Vis X.env.scope x→∃u,RelV v u∧Look X.env s.heap m x u
 cell:∀x c,X.env.cells.lookup x=some c→∃v,s.heap.IsCell c v
 free:H X.env.locals=none
 freeC:∀x c,X.env.cells.lookup x=some c→H c=none
 pin:∀p∈X.pn++Av,s.heap.get? p.1=some p.2∧H p.1=none∧p.1≠X.env.locals∧p.1∉X.fs∧∀v,p.2.data≠.cell v
 hok:HOk X.prog X.w H s.heap
 len:σ.length=X.N.length
section
variable{X:Cx}{Av:List (Addr×Obj)}{σ:List (Option V)}{H H':Hp}{s:Shared}{h':Heap}
theorem Cx.Ok.nofr(ok:X.Ok){b:Addr}{o:Obj}(e:X.base.get? b=some o):b∉X.fs:=fun hb=>by
 have:=(ok.funs.mem hb).1;rw[e]at this;cases this
theorem Inv.bs(I:Inv X Av σ H s):∀b o,X.base.get? b=some o→s.heap.get? b=some o∧H b=none:=fun b o e=>
 ⟨I.base.keep b o (I.ok.bs b o e).1 (I.ok.bs b o e).2 (I.ok.nofr e) (I.ok.noex b o e),I.base.free b o (I.ok.bs b o e).1 (I.ok.bs b o e).2 (I.ok.noex b o e)⟩
theorem Inv.bk(I:Inv X Av σ H s):∀b o,X.base.get? b=some o→s.heap.get? b=some o:=fun b o e=>(I.bs b o e).1
theorem Inv.mod(I:Inv X Av σ H s):Mod X.K X.mg X.base:=I.ok.mod
theorem Inv.kIn(I:Inv X Av σ H s):X.K.In s.heap:=I.ok.mod.kin.keeps I.bk
theorem Inv.lt(I:Inv X Av σ H s):X.env.locals<s.heap.objs.size:=let ⟨_,hn,_⟩:=I.loc;hn.lt
theorem Inv.sz(I:Inv X Av σ H s):X.s₀.heap.objs.size≤s.heap.objs.size:=xZ I.ok.above (yV I.lt)
theorem Inv.nofs(I:Inv X Av σ H s){a:Addr}(h:s.heap.objs.size≤a):a∉X.fs:=fun hb=>by
 obtain⟨_,o,ho,_⟩:=I.ok.funs.mem hb;exact absurd (xH (xk ho) (xZ I.sz h)) (zt _)
theorem Inv.cne(I:Inv X Av σ H s):∀x c,X.env.cells.lookup x=some c→c≠X.env.locals:=fun x c e z=>by
 obtain⟨v,o,ho,hd⟩:=I.cell x c e;obtain⟨m,⟨o',es,ep,ho',hd',_⟩,_⟩:=I.loc;rw[z,ho']at ho;cases ho;rw[hd']at hd;cases hd
theorem Inv.funs(I:Inv X Av σ H s):s.heap.FunFrames X.base X.outer:=by
 have all:∀(l:List Env),(∀b∈frs l,b∈X.fs)→X.s₀.heap.FunFrames X.base l→s.heap.FunFrames X.base l:=by
  intro l
  induction l with
  |nil=>intro _ _;trivial
  |cons env r ih=>
   intro hs hl;obtain⟨hk,⟨L,o,hf,hn,ho,hd⟩,hr⟩:=hl;have hL:L∈X.fs:=hs L (by unfold frs;rw[yZ,hf];exact xP);obtain⟨sl,e⟩:=I.base.slot L o ho (I.ok.frf L hL) hL fun z=>I.ok.exfs L z hL;exact⟨hk,⟨L,_,hf,hn,e,hd⟩,ih (fun b hb=>hs b (by unfold frs;rw[yZ,hf];exact xV _ hb)) hr⟩
 exact all X.outer (fun _ hb=>hb) I.ok.funs
theorem Inv.stack(I:Inv X Av σ H s):s.heap.FunFrames X.base X.stack:=by
 rcases I.ok.stk with e | ⟨e,hf⟩
 ·rw[e];exact I.funs
 ·rw[e];obtain⟨m,hn,_⟩:=I.loc;refine .cons (by rw[I.ok.kind];decide) hf hn ?_ I.funs;exact Heap.get?_none_of_le (xZ I.ok.bsz I.ok.above)
theorem Inv.stkSub(I:Inv X Av σ H s):∀b∈frs X.stack,b∈X.env.locals::X.fs:=fun b hb=>by
 rcases I.ok.stk with e | ⟨e,hf⟩
 ·rw[e]at hb;exact xV _ hb
 ·rw[e]at hb;unfold frs at hb;rw[yZ,hf]at hb;exact hb
theorem Inv.stkFree(I:Inv X Av σ H s):∀b∈frs X.stack,H b=none:=fun b hb=>by
 rcases xv.mp (I.stkSub b hb)with e | hb
 ·rw[e];exact I.free
 ·obtain⟨_,o,ho,_⟩:=I.ok.funs.mem hb;exact I.base.free b o ho (I.ok.frf b hb) fun z=>I.ok.exfs b z hb
theorem Inv.step{g':Array GenState}{t':Nat}{d':Drawn}{ch:List Addr}(I:Inv X Av σ H s)(hch:∀b∈ch,(b∈X.ex∨X.s₀.heap.objs.size≤b)∧b≠X.env.locals∧(∀x c,X.env.cells.lookup x=some c→c≠b)∧∀p∈X.pn++Av,p.1≠b)(keep:∀b o,b≠X.env.locals→b∉X.fs→b∉ch→s.heap.get? b=some o→H b=none→h'.get? b=some o)(slot:∀b o,b≠X.env.locals→b∈X.fs→b∉ch→s.heap.get? b=some o→H b=none→∃sl,h'.get? b=some {o with slots:=sl})(free:∀b o,b∉ch→s.heap.get? b=some o→H b=none→H' b=none)(there:∀b o,b∉ch→s.heap.get? b=some o→∃o',h'.get? b=some o')(tups:∀b xs,H b=some (.tup xs)→H' b=some (.tup xs))(frzs:∀b o u,H b=some (.frz o u)→H' b=some (.frz o u))(tbls:∀b ps,H b=some (.tbl ps)→∃more,H' b=some (.tbl (ps++more)))(ns:∀m,s.heap.Ns X.env.locals m→h'.Ns X.env.locals m)(hok:HOk X.prog X.w H' h')(hg:AllBare g'):
  Inv X Av σ H' {s with heap:=h',gens:=g',drawn:=d',toks:=t'}:=by
 have neL:∀b o,X.s₀.heap.get? b=some o→b≠X.env.locals:=fun b o e=>xx (xH (xk e) I.ok.above);have neC:∀b o,X.s₀.heap.get? b=some o→b∉X.ex→b∉ch:=fun b o e hx hb=>by
  rcases(hch b hb).1 with z | z
  ·exact hx z
  ·exact absurd (xH (xk e) z) (zt _)
 have cellK:∀x c,X.env.cells.lookup x=some c→∀v,s.heap.IsCell c v→h'.IsCell c v:=fun x c e v ⟨o,ho,hd⟩=>by
  have nch:c∉ch:=fun z=>(hch c z).2.2.1 x c e rfl;by_cases hc:c∈X.fs
  ·obtain⟨sl,q⟩:=slot c o (I.cne x c e) hc nch ho (I.freeC x c e);exact⟨_,q,hd⟩
  ·exact⟨o,keep c o (I.cne x c e) hc nch ho (I.freeC x c e),hd⟩
 refine⟨I.ok,I.os,hg,⟨fun b o e n hb hx=>?_,fun b o e n hb hx=>?_,fun b o e n hx=>?_,fun b o e hx=>?_,fun b xs e=>tups b xs (I.base.tups b xs e),fun b o xs e=>frzs b o xs (I.base.frzs b o xs e),fun b ps e=>?_⟩,?_,fun x c e=>?_,?_,fun x c e=>?_,fun p hp=>?_,hok,I.len⟩
 ·exact keep b o (neL b o e) hb (neC b o e hx) (I.base.keep b o e n hb hx) (I.base.free b o e n hx)
 ·obtain⟨sl,e1⟩:=I.base.slot b o e n hb hx;obtain⟨sl',e2⟩:=slot b _ (neL b o e) hb (neC b o e hx) e1 (I.base.free b o e n hx);exact⟨sl',e2⟩
 ·obtain⟨o',e1⟩:=I.base.there b o e hx;exact free b o' (neC b o e hx) e1 (I.base.free b o e n hx)
 ·obtain⟨o',e1⟩:=I.base.there b o e hx;exact there b o' (neC b o e hx) e1
 ·obtain⟨m1,e1⟩:=I.base.tbls b ps e;obtain⟨m2,e2⟩:=tbls b _ e1;exact⟨m1++m2,by rw[e2,Array.append_assoc]⟩
 ·obtain⟨m,hn,hl⟩:=I.loc;refine⟨m,ns m hn,fun i x v e1 e2 e3=>?_⟩;obtain⟨u,r,l⟩:=hl i x v e1 e2 e3;refine⟨u,r,?_⟩
  rcases l with l | ⟨k,c,e,z⟩
  ·exact .inl l
  ·exact .inr ⟨k,c,e,cellK x c e _ z⟩
 ·obtain⟨v,z⟩:=I.cell x c e;exact⟨v,cellK x c e v z⟩
 ·obtain⟨m,⟨o,_,_,ho,_⟩,_⟩:=I.loc;exact free _ o (fun z=>(hch _ z).2.1 rfl) ho I.free
 ·obtain⟨v,o,ho,hd⟩:=I.cell x c e;exact free c o (fun z=>(hch c z).2.2.1 x c e rfl) ho (I.freeC x c e)
 ·obtain⟨e,n,ne,nf,d⟩:=I.pin p hp;have nch:p.1∉ch:=fun z=>(hch p.1 z).2.2.2 p hp rfl;exact⟨keep p.1 p.2 ne nf nch e n,free p.1 p.2 nch e n,ne,nf,d⟩
theorem Inv.un{t':Nat}(I:Inv X Av σ H s)(u:Un X.fs [] H H' s.heap h')(hok:HOk X.prog X.w H' h'):Inv X Av σ H' {s with heap:=h',toks:=t'}:=by
 obtain⟨m,⟨o,es,ep,ho,r⟩,_⟩:=id I.loc;obtain⟨sl,hL⟩:=u.any ho I.free (by simp);exact I.step (g':=s.gens) (d':=s.drawn) (ch:=[]) (fun _ z=>nomatch z) (fun b o _ hb _ e n=>u.keep b o e n hb (by simp)) (fun b o _ hb _ e n=>u.slot b o e n hb (by simp)) (fun b o _ e n=>u.free b o e n (by simp)) (fun b o _ e=>u.there b o e (by simp)) u.tups u.frzs u.tbls (fun m' hm=>by
  obtain⟨o',es',ep',ho',r'⟩:=hm;rw[ho]at ho';cases ho';exact⟨_,es',ep',hL,r'⟩) hok I.bare
theorem Inv.call{g':Array GenState}{t':Nat}{d':Drawn}{ch:List Addr}(I:Inv X Av σ H s)(u:Un (frs X.stack) ch H H' s.heap h')(hok:HOk X.prog X.w H' h')(hg:AllBare g')(hch:∀b∈ch,(b∈X.ex∨X.s₀.heap.objs.size≤b)∧b≠X.env.locals∧(∀x c,X.env.cells.lookup x=some c→c≠b)∧∀p∈X.pn++Av,p.1≠b):
  Inv X Av σ H' {s with heap:=h',gens:=g',drawn:=d',toks:=t'}:=by
 obtain⟨m,⟨o,es,ep,ho,r⟩,_⟩:=id I.loc;obtain⟨sl,hL⟩:=u.any ho I.free fun z=>(hch _ z).2.1 rfl;exact I.step (ch:=ch) hch (fun b o hL hb hc e n=>u.keep b o e n (fun z=>(xv.mp (I.stkSub b z)).elim hL hb) hc) (fun b o _ _ hc e n=>u.any e n hc) (fun b o hc e n=>u.free b o e n hc) (fun b o hc e=>u.there b o e hc) u.tups u.frzs u.tbls (fun m' hm=>by
  obtain⟨o',es',ep',ho',r'⟩:=hm;rw[ho]at ho';cases ho';exact⟨_,es',ep',hL,r'⟩) hok hg
theorem Inv.turned{t':Nat}{it:Addr}(I:Inv X Av σ H s)(k:∀b o,b≠it→s.heap.get? b=some o→h'.get? b=some o)(hn:H it=none)(hL:it≠X.env.locals)(h1:it∈X.ex∨X.s₀.heap.objs.size≤it)(h2:∀x c,X.env.cells.lookup x=some c→c≠it)(h3:∀p∈X.pn++Av,p.1≠it):Inv X Av σ H {s with heap:=h',toks:=t'}:=by
 have nit:∀b u,H b=some u→b≠it:=fun b u e z=>by rw[z,hn]at e;cases e
 refine I.step (g':=s.gens) (d':=s.drawn) (ch:=[it]) (fun b hb=>?_) (fun b o _ _ hc e _=>k b o (fun z=>hc (by simp[z])) e) (fun b o _ _ hc e _=>⟨o.slots,k b o (fun z=>hc (by simp[z])) e⟩) (fun _ _ _ _ n=>n)
  (fun b o hc e=>⟨o,k b o (fun z=>hc (by simp[z])) e⟩) (fun _ _ e=>e) (fun _ _ _ e=>e) (fun b ps e=>⟨#[],by rw[e];simp⟩) (fun m hm=>?_) (fun b u e=>?_) I.bare
 ·have e:b=it:=by simpa using hb
  subst e;exact⟨h1,hL,h2,h3⟩
 ·obtain⟨o,es,ep,ho,r⟩:=hm;exact⟨o,es,ep,k _ o (Ne.symm hL) ho,r⟩
 ·refine(I.hok b u e).stay (fun c v hc q=>k c v ?_ q) (fun _ q=>q) fun _ _ q=>q
  rcases hc with z | z
  ·rw[z];exact nit b u e
  ·exact nit c _ z
theorem Inv.tok(I:Inv X Av σ H s)(t:Nat):Inv X Av σ H {s with toks:=t}:=I.un (h':=s.heap) (t':=t) Un.refl I.hok
theorem Inv.kept{t':Nat}(I:Inv X Av σ H s)(k:∀b u,s.heap.get? b=some u→h'.get? b=some u):Inv X Av σ H {s with heap:=h',toks:=t'}:=I.un (Un.kept k) (I.hok.kept k)
theorem Inv.laid{a:Addr}{o:HO}{t':Nat}(I:Inv X Av σ H s)(k:∀b u,s.heap.get? b=some u→h'.get? b=some u)(hp:s.heap.objs.size≤a)(new:ObjOk X.prog X.w (upd H a o) h' a o):
  Inv X Av σ (upd H a o) {s with heap:=h',toks:=t'}:=I.un (Un.laid k hp (I.hok.fresh hp)) (I.hok.laid k hp new)
theorem Inv.write{x e:Addr}{o:HO}{t':Nat}(I:Inv X Av σ H s)(mu:Mut (H x))(he:e=x∨H e=some (.own x))(k:∀b u,b≠e→s.heap.get? b=some u→h'.get? b=some u)(heo:∃u,h'.get? e=some u)(new:ObjOk X.prog X.w (upd H x o) h' x o):Inv X Av σ (upd H x o) {s with heap:=h',toks:=t'}:=I.un (Un.write mu he k heo) (I.hok.write mu he k heo new)
theorem Inv.weak{σ':List (Option V)}(I:Inv X Av σ H s)(hl:σ'.length=σ.length)(w:∀(i:Nat) v,σ'[i]?=some (some v)→σ[i]?=some (some v)):Inv X Av σ' H s:=
 ⟨I.ok,I.os,I.bare,I.base,let ⟨m,hn,hl'⟩:=I.loc;⟨m,hn,fun i x v e1 e2 e3=>hl' i x v e1 (w i v e2) e3⟩,I.cell,I.free,I.freeC,I.pin,I.hok,hl.trans I.len⟩
theorem Inv.pins_of{pins':List (Addr×Obj)}(I:Inv X Av σ H s)(h:∀p∈pins',s.heap.get? p.1=some p.2∧H p.1=none∧p.1≠X.env.locals∧p.1∉X.fs∧∀v,p.2.data≠.cell v):Inv X pins' σ H s:=
 ⟨I.ok,I.os,I.bare,I.base,I.loc,I.cell,I.free,I.freeC,fun p hp=>(xM.mp hp).elim (fun z=>I.pin p (yy _ z)) (h p),I.hok,I.len⟩
theorem eR{N:List Str}(hN:N.Nodup){i j:Nat}{x:Str}(a:N[i]?=some x)(b:N[j]?=some x):i=j:=by
 obtain⟨h1,e1⟩:=xo.mp a;obtain⟨h2,e2⟩:=xo.mp b;exact(List.getElem_inj hN).mp (e1.trans e2.symm)
theorem P1{M:Model}{A:Around}{E:Value→Shared→Prop}{i:Nat}{x:Str}{v:V}{u:Value}{Q:Unit→Shared→Prop}(I:Inv X Av σ H s)(hN:X.N.Nodup)(hi:X.N[i]?=some x)(hx:Loc X.env.scope x)(r:RelV v u)(h:∀s',Inv X Av (σ.set i (some v)) H s'→(∃a,Heap.SameBut a s.heap s'.heap∧(a=X.env.locals∨X.env.cells.lookup x=some a))→Q () s')(hf:X.fn x=true∨X.env.scope.names.lookup x=some .local:=by first | exact .inl rfl | exact .inr rfl | assumption):wpAny M A (storeName X.env x u) Q E s:=by
 obtain⟨m,hn,hl⟩:=id I.loc;have hcls:(X.env.scope.kind==.class || (X.env.scope.kind==.module && X.env.locals != X.env.globals))=false:=by rw[I.ok.kind];rfl
 have hiσ:i<σ.length:=by rw[I.len];exact(xo.mp hi).1
 have cne:=I.cne;have tracked:∀{a:Addr}{h':Heap},(∃o,s.heap.get? a=some o∧H a=none)→Heap.SameBut a s.heap h'→HOk X.prog X.w H h':=fun{a h'} ha hs b ob e=>by
  obtain⟨_,_,hfree⟩:=ha;refine(I.hok b ob e).stay (fun c w' hc q=>(hs.2 c ?_).trans q) (fun _ q=>q) fun _ _ q=>q;rintro rfl
  rcases hc with rfl | hc
  ·rw[hfree]at e;cases e
  ·rw[hfree]at hc;cases hc
 rcases hx with hk | hk
 ·refine wpAny_storeName_local hk hn (fun h' hn' hs=>?_) hcls;obtain⟨oL,_,_,hoL,_⟩:=id hn;refine h _ ⟨I.ok,I.os,I.bare,⟨fun b o e n hb hx=>?_,fun b o e n hb hx=>?_,I.base.free,fun b o e hx=>?_,I.base.tups,I.base.frzs,I.base.tbls⟩,⟨_,hn',fun j y v' e1 e2 e3=>?_⟩,fun y c e=>?_,I.free,I.freeC,fun p hp=>?_,tracked ⟨oL,hoL,I.free⟩ hs,by simpa using I.len⟩ ⟨_,hs,.inl rfl⟩
  ·exact(hs.2 b (xx (xH (xk e) I.ok.above))).trans (I.base.keep b o e n hb hx)
  ·obtain⟨sl,e1⟩:=I.base.slot b o e n hb hx;exact⟨sl,(hs.2 b (xx (xH (xk e) I.ok.above))).trans e1⟩
  ·obtain⟨o',e1⟩:=I.base.there b o e hx;exact⟨o',(hs.2 b (xx (xH (xk e) I.ok.above))).trans e1⟩
  ·by_cases hj:j=i
   ·subst hj;rw[hi]at e1;cases e1;rw[List.getElem?_set_self hiσ]at e2;cases e2;exact⟨u,r,.inl ⟨hk,by simp⟩⟩
   ·rw[List.getElem?_set_ne (Ne.symm hj)]at e2;obtain⟨u',r',q⟩:=hl j y v' e1 e2 e3;refine⟨u',r',?_⟩
    rcases q with⟨k,e⟩|⟨k,c,e,z⟩
    ·refine .inl ⟨k,?_⟩;have:y≠x:=fun e=>hj (eR hN e1 (e ▸ hi));simp[this,e]
    ·exact .inr ⟨k,c,e,z.sameBut hs (cne y c e)⟩
  ·obtain⟨w',z⟩:=I.cell y c e;exact⟨w',z.sameBut hs (cne y c e)⟩
  ·obtain⟨e,n,ne,nf,d⟩:=I.pin p hp;exact⟨(hs.2 p.1 ne).trans e,n,ne,nf,d⟩
 ·have hfn:X.fn x=true:=by
   rcases hf with z | z
   ·exact z
   ·rw[z]at hk;cases hk
  obtain⟨c,hc⟩:=I.ok.has x (.inl hk);obtain⟨w',z⟩:=I.cell x c hc;refine wpAny_storeName_cell I.ok.kind hk hc z (fun h' hc' hs=>?_);obtain⟨oc,hoc,hocd⟩:=id z;refine h {s with heap:=h'} ⟨I.ok,I.os,I.bare,⟨fun b o e n hb hx=>?_,fun b o e n hb hx=>?_,I.base.free,fun b o e hx=>?_,I.base.tups,I.base.frzs,I.base.tbls⟩,⟨m,hn.sameBut hs (Ne.symm (cne x c hc)),fun j y v' e1 e2 e3=>?_⟩,fun y c' e=>?_,I.free,I.freeC,fun p hp=>?_,tracked ⟨oc,hoc,I.freeC x c hc⟩ hs,by simpa using I.len⟩ ⟨c,hs,.inr hc⟩
  ·exact(hs.2 b (xx (xH (xk e) (I.ok.cab x c hfn hc)))).trans (I.base.keep b o e n hb hx)
  ·obtain⟨sl,e1⟩:=I.base.slot b o e n hb hx;exact⟨sl,(hs.2 b (xx (xH (xk e) (I.ok.cab x c hfn hc)))).trans e1⟩
  ·obtain⟨o',e1⟩:=I.base.there b o e hx;exact⟨o',(hs.2 b (xx (xH (xk e) (I.ok.cab x c hfn hc)))).trans e1⟩
  ·by_cases hj:j=i
   ·subst hj;rw[hi]at e1;cases e1;rw[List.getElem?_set_self hiσ]at e2;cases e2;exact⟨u,r,.inr ⟨.inl hk,c,hc,hc'⟩⟩
   ·rw[List.getElem?_set_ne (Ne.symm hj)]at e2;obtain⟨u',r',q⟩:=hl j y v' e1 e2 e3;refine⟨u',r',?_⟩
    rcases q with q | ⟨k,c',e,z'⟩
    ·exact .inl q
    ·refine .inr ⟨k,c',e,z'.sameBut hs ?_⟩;rintro rfl;exact hj (eR hN e1 (I.ok.inj _ _ _ e hc ▸ hi))
  ·by_cases hcc:c'=c
   ·subst hcc;exact⟨_,hc'⟩
   ·obtain⟨w2,z2⟩:=I.cell y c' e;exact⟨w2,z2.sameBut hs hcc⟩
  ·obtain⟨e,n,ne,nf,d⟩:=I.pin p hp;refine⟨(hs.2 p.1 ?_).trans e,n,ne,nf,d⟩;intro q;rw[q,hoc]at e;have q':oc=p.2:=xK e;exact d w' (by rw[←q'];exact hocd)
theorem Nc{M:Model}{A:Around}{E:Value→Shared→Prop}{i:Nat}{x:Str}{v:V}{u:Value}{Q:Unit→Shared→Prop}(I:Inv X Av σ H s)(hN:X.N.Nodup)(hi:X.N[i]?=some x)(hx:Loc X.env.scope x)(r:RelV v u)(h:∀s',Inv X Av (σ.set i (some v)) H s'→Q () s')(hf:X.fn x=true∨X.env.scope.names.lookup x=some .local:=by first | exact .inl rfl | exact .inr rfl | assumption):wpAny M A (storeName X.env x u) Q E s:=
 P1 I hN hi hx r (fun s' I' _=>h s' I') hf
theorem Inv.call'{s':Shared}{ch:List Addr}(I:Inv X Av σ H s)(ho:s'.os=s.os)(u:Un (frs X.stack) ch H H' s.heap s'.heap)(hok:HOk X.prog X.w H' s'.heap)(hg:AllBare s'.gens)(hch:∀b∈ch,(b∈X.ex∨X.s₀.heap.objs.size≤b)∧b≠X.env.locals∧(∀x c,X.env.cells.lookup x=some c→c≠b)∧∀p∈X.pn++Av,p.1≠b):Inv X Av σ H' s':=by
 obtain⟨h',g',d',t',o'⟩:=s';have e:o'=s.os:=ho;subst e;exact I.call (g':=g') (t':=t') (d':=d') u hok hg hch
end
abbrev XK:=Value→Option Addr→Hp→Prop
abbrev St:=List (Option V)
abbrev VK:=V→Hp→Prop
abbrev TE:=St→Hp→VK→Prop
abbrev TT:=St→Hp→(Bool→Hp→Prop)→Prop
abbrev TA:=St→Hp→(List V→Hp→Prop)→Prop
structure Ends where
 nx:St→Hp→Prop
 rt:VK
 bk:St→Hp→Prop:=fun _ _=>False
 ct:St→Hp→Prop:=fun _ _=>False
abbrev TS:=Ends→St→Hp→Prop
def EP(X:Cx)(Av:List (Addr×Obj))(σ:St)(Q:VK)(u:Value)(s':Shared):Prop:=∃v H',Inv X Av σ H' s'∧RelV v u∧Q v H'
def TP(X:Cx)(Av:List (Addr×Obj))(σ:St)(Q:Bool→Hp→Prop)(b:Bool)(s':Shared):Prop:=∃H',Inv X Av σ H' s'∧Q b H'
def AP(X:Cx)(Av:List (Addr×Obj))(σ:St)(Q:List V→Hp→Prop)(us:List Value)(s':Shared):Prop:=∃vs H',Inv X Av σ H' s'∧Vals vs us∧Q vs H'
def SP(X:Cx)(Av:List (Addr×Obj))(D:Ends)(f:Flow)(s':Shared):Prop:=
 match f with
 |.next=>∃σ' H',Inv X Av σ' H' s'∧D.nx σ' H'
 |.brk=>∃σ' H',Inv X Av σ' H' s'∧D.bk σ' H'
 |.cont=>∃σ' H',Inv X Av σ' H' s'∧D.ct σ' H'
 |.ret u=>∃v σ' H',Inv X Av σ' H' s'∧RelV v u∧D.rt v H'
def PE(X:Cx)(e:Expr)(t:TE):Prop:=
 ∀(Av:List (Addr×Obj))(s:Shared)(σ:St)(H:Hp)(Q:VK),Inv X Av σ H s→t σ H Q→wpAny (model X.prog X.w) X.A (eval e X.env) (EP X Av σ Q) X.xe s
def PT(X:Cx)(e:Expr)(t:TT):Prop:=
 ∀(Av:List (Addr×Obj))(s:Shared)(σ:St)(H:Hp)(Q:Bool→Hp→Prop),Inv X Av σ H s→t σ H Q→wpAny (model X.prog X.w) X.A (isTrue e X.env (eval e X.env)) (TP X Av σ Q) X.xe s
def PW(X:Cx)(e:Expr)(t:TT):Prop:=
 ∀(whole:Sem Value)(Av:List (Addr×Obj))(s:Shared)(σ:St)(H:Hp)(Q:Bool→Hp→Prop),Inv X Av σ H s→t σ H Q→wpAny (model X.prog X.w) X.A (isTrue e X.env whole) (TP X Av σ Q) X.xe s
theorem PW.pt{X:Cx}{e:Expr}{t:TT}(h:PW X e t):PT X e t:=h _
def PA(X:Cx)(es:List Expr)(t:TA):Prop:=
 ∀(pos:Pos)(Av:List (Addr×Obj))(s:Shared)(σ:St)(H:Hp)(Q:List V→Hp→Prop),Inv X Av σ H s→t σ H Q→wpAny (model X.prog X.w) X.A (spliced (backTo pos (starEach es X.env))) (AP X Av σ Q) X.xe s
def PS(X:Cx)(st:Stmt)(t:TS):Prop:=
 ∀(Av:List (Addr×Obj))(s:Shared)(σ:St)(H:Hp)(D:Ends),Inv X Av σ H s→t D σ H→wpAny (model X.prog X.w) X.A (exec st X.env) (SP X Av D) X.xe s
def PSs(X:Cx)(st:List Stmt)(t:TS):Prop:=
 ∀(Av:List (Addr×Obj))(s:Shared)(σ:St)(H:Hp)(D:Ends),Inv X Av σ H s→t D σ H→wpAny (model X.prog X.w) X.A (execs st X.env) (SP X Av D) X.xe s
theorem thn{α:Type}{t:Sem α}{Q Q':α→Shared→Prop}{M:Model}{A:Around}{E:Value→Shared→Prop}{s:Shared}(h:wpAny M A t Q E s)(hQ:∀a s,Q a s→Q' a s):wpAny M A t Q' E s:=yB h hQ fun _ _ x=>x
section
variable{X:Cx}
def uu(i:Nat):TE:=fun σ H Q=>∃v,σ[i]?=some (some v)∧Q v H
def tC(v:V):TE:=fun _ H Q=>Q v H
theorem nX{i:Nat}{x:Str}{pos:Pos}(hN:X.N[i]?=some x)(hv:Vis X.env.scope x)(hd:(x==("__debug__":Str))=false:=by decide)(hcd:(x==("__classdict__":Str))=false:=by decide):PE X (.Name x pos) (uu i):=by
 intro Av s σ H Q I h;obtain⟨v,e,h⟩:=h;obtain⟨m,hn,hl⟩:=I.loc;obtain⟨u,r,l⟩:=hl i x v hN e hv;have fin:EP X Av σ Q u s:=⟨v,H,I,r,h⟩
 rcases l with⟨hk,hm⟩|⟨hk,c,hc,hcell⟩
 ·exact wpAny_Name (wpAny_loadName_local I.ok.kind hk hn hm fin) hd
 ·rcases hk with hk | hk
  ·exact wpAny_Name (wpAny_loadName_cell I.ok.kind hk hc hcell fin) hd
  ·exact wpAny_Name (wpAny_loadName_free I.ok.kind hk hc hcell fin hcd) hd
theorem Z2{i j pos}:PE X (.Constant (.int i) j pos) (tC (.int i)):=fun _ _ _ H _ I h=>wpAny_Constant_int ⟨.int i,H,I.tok _,⟨_,rfl⟩,h⟩
theorem Yw{b j pos}:PE X (.Constant (.bool b) j pos) (tC (.bl b)):=fun _ _ _ H _ I h=>Constant_bool ⟨.bl b,H,I,rfl,h⟩
theorem Rl{j pos}:PE X (.Constant .none j pos) (tC .non):=fun _ _ _ H _ I h=>Constant_none ⟨.non,H,I,rfl,h⟩
theorem Ty{x j pos}:PE X (.Constant (.str x) j pos) (tC (.str x)):=fun _ _ _ H _ I h=>Calls.Constant_str ⟨.str x,H,I.tok _,⟨_,rfl⟩,h⟩
def Gl(X:Cx)(x:Str):Prop:=X.env.kindOf x=some .globalImplicit
theorem Op{E:Value→Shared→Prop}{Av:List (Addr×Obj)}{s:Shared}{σ:St}{H:Hp}{x:Str}{u:Value}{pos:Pos}{Q:Value→Shared→Prop}(I:Inv X Av σ H s)(hg:Gl X x)(hm:X.mg x=some u)(h:Q u s)(hd:(x==("__debug__":Str))=false:=by decide):wpAny (model X.prog X.w) X.A (eval (.Name x pos) X.env) Q E s:=
 Calls.Name_function_global I.ok.kind hg (Calls.loadGlobal_global (by rw[I.ok.glob];exact I.mod.glob.keeps I.bk) hm h) hd
theorem S3{E:Value→Shared→Prop}{Av:List (Addr×Obj)}{s:Shared}{σ:St}{H:Hp}{x:Str}{u:Value}{pos:Pos}{Q:Value→Shared→Prop}(I:Inv X Av σ H s)(hg:Gl X x)(hm:X.mg x=none)(hv:bootBuiltins x=some u)(h:Q u s)(hn:x≠"__name__":=by decide)(hd:(x==("__debug__":Str))=false:=by decide):wpAny (model X.prog X.w) X.A (eval (.Name x pos) X.env) Q E s:=by
 obtain⟨mb,h1,h2⟩:=I.mod.blt;exact Calls.Name_function_global I.ok.kind hg (Calls.loadGlobal_builtin (by rw[I.ok.glob];exact I.mod.glob.keeps I.bk) hm (by rw[I.ok.blt];exact h1.keeps I.bk) ((h2 x hn).trans hv) h) hd
theorem pW{x:Str}{v:V}{u:Value}{pos:Pos}(hg:Gl X x)(hm:X.mg x=some u)(r:RelV v u)(hd:(x==("__debug__":Str))=false:=by decide):PE X (.Name x pos) (tC v):=
 fun _ _ _ H _ I h=>Op I hg hm ⟨v,H,I,r,h⟩ hd
theorem Yr{x:Str}{v:V}{u:Value}{pos:Pos}(hg:Gl X x)(hm:X.mg x=none)(hv:bootBuiltins x=some u)(r:RelV v u)(hn:x≠"__name__":=by decide)(hd:(x==("__debug__":Str))=false:=by decide):PE X (.Name x pos) (tC v):=
 fun _ _ _ H _ I h=>S3 I hg hm hv ⟨v,H,I,r,h⟩ hn hd
variable{a b:Expr}{ta tb:TE}{pos:Pos}
def tB(t:TE):TT:=fun σ H Q=>t σ H fun x H1=>∃c,x=.bl c∧Q c H1
theorem Y6{e:Expr}{t:TE}(h:PE X e t)(he:∀whole,isTrue e X.env whole=(do let v ←whole;standAt e.pos;holding [v] (truthy v)):=by intro _;rfl):PT X e (tB t):=by
 intro Av s σ H Q I hw;refine isTrue_plain (thn (h Av s σ H _ I hw) fun v s1 ⟨x,H1,I1,r1,q1⟩=>?_) (he _);obtain⟨d,rfl,q⟩:=q1;cases r1;exact yN ⟨H1,I1,q⟩
variable{tA tB':TT}{rest:List Expr}
def tAnd(t u:TT):TT:=fun σ H Q=>t σ H fun c H1=>if c=true then u σ H1 Q else Q false H1
def tOr(t u:TT):TT:=fun σ H Q=>t σ H fun c H1=>if c=true then Q true H1 else u σ H1 Q
def tNot(t:TT):TT:=fun σ H Q=>t σ H fun c H1=>Q (!c) H1
theorem Td(ha:PT X a tA):PW X (.BoolOp .And [a] pos) tA:=by
 intro wh Av s σ H Q I h;refine isTrue_and (thn (ha Av s σ H Q I h) fun c s1 e=>?_);cases c with
 |true=>exact isTrue_and_nil e
 |false=>exact e
theorem Xk(ha:PT X a tA):PW X (.BoolOp .Or [a] pos) tA:=by
 intro wh Av s σ H Q I h;refine isTrue_or (thn (ha Av s σ H Q I h) fun c s1 e=>?_);cases c with
 |false=>exact isTrue_or_nil e
 |true=>exact e
theorem Rj(ha:PT X a tA)(hb:PW X (.BoolOp .And (b::rest) pos) tB'):PW X (.BoolOp .And (a::b::rest) pos) (tAnd tA tB'):=by
 intro wh Av s σ H Q I h;refine isTrue_and (thn (ha Av s σ H _ I h) fun c s1 Aw=>?_);obtain⟨H1,I1,q1⟩:=Aw;cases c with
 |true=>exact hb wh Av s1 σ H1 Q I1 q1
 |false=>exact⟨H1,I1,q1⟩
theorem Xo(ha:PT X a tA)(hb:PW X (.BoolOp .Or (b::rest) pos) tB'):PW X (.BoolOp .Or (a::b::rest) pos) (tOr tA tB'):=by
 intro wh Av s σ H Q I h;refine isTrue_or (thn (ha Av s σ H _ I h) fun c s1 Aw=>?_);obtain⟨H1,I1,q1⟩:=Aw;cases c with
 |true=>exact⟨H1,I1,q1⟩
 |false=>exact hb wh Av s1 σ H1 Q I1 q1
theorem Y7(ha:PT X a tA):PT X (.UnaryOp .Not a pos) (tNot tA):=by
 intro Av s σ H Q I h;exact isTrue_not (ha Av s σ H (fun c H1=>Q (!c) H1) I h)
def u7(ta tb:TE):TE:=fun σ H Q=>ta σ H fun x H1=>∃c,x=.bl c∧if c=true then tb σ H1 Q else Q (.bl false) H1
def vY(ta:TE):TE:=fun σ H Q=>ta σ H fun x H1=>∃c,x=.bl c∧Q (.bl (!c)) H1
theorem Vp{op}{t:TE}(h:PE X a t):PE X (.BoolOp op [a] pos) t:=fun Av s σ H Q I hw=>BoolOp_one (h Av s σ H Q I hw)
theorem V6(ha:PE X a ta)(hb:PE X (.BoolOp .And (b::rest) pos) tb):PE X (.BoolOp .And (a::b::rest) pos) (u7 ta tb):=by
 intro Av s σ H Q I h;refine BoolOp_and (thn (ha Av s σ H _ I h) fun v s1 Aw=>?_);obtain⟨x,H1,I1,r1,q1⟩:=Aw;obtain⟨c,rfl,q1⟩:=q1;cases r1;refine yN ?_;cases c with
 |true=>exact hb Av s1 σ H1 Q I1 q1
 |false=>exact⟨.bl false,H1,I1,rfl,q1⟩
theorem oE(ha:PE X a ta):PE X (.UnaryOp .Not a pos) (vY ta):=by
 intro Av s σ H Q I h;refine UnaryOp_ (thn (ha Av s σ H _ I h) fun v s1 Aw=>?_);obtain⟨x,H1,I1,r1,q1⟩:=Aw;obtain⟨c,rfl,q1⟩:=q1;cases r1;exact not_of (yN ⟨.bl (!c),H1,I1,rfl,q1⟩)
end
def SqL(K:W.Frag)(H:Hp)(a:Addr)(xs:List V):Prop:=
 Rd H a (.lst xs)∨
  ∃(o:Obj)(its:Array Value)(n:Nat),K.lookup a=some o∧o.cls=.type "list"∧o.dict=none∧o.data=.seq its n∧its.size≤sizeLine∧Vals xs its.toList
def SqT(K:W.Frag)(H:Hp)(a:Addr)(xs:List V):Prop:=
 Rd H a (.tup xs)∨
  ∃(o:Obj)(its:Array Value)(n:Nat),K.lookup a=some o∧o.cls=.type "tuple"∧o.data=.seq its n∧its.size≤sizeLine∧Vals xs its.toList
def absV:Value→Option V
 |.none=>some .non
 |.bool b=>some (.bl b)
 |.int i _=>some (.int i)
 |.str x _=>some (.str x)
 |.bytes b _=>some (.byt b)
 |.float b _=>some (.flt b)
 |.ref a=>some (.ref a)
 |.type n=>some (.ty n)
 |_=>none
theorem RelV.abs{x:V}{u:Value}(r:RelV x u):absV u=some x:=by
 cases x with
 |non=>cases r;rfl
 |bl _=>cases r;rfl
 |int _=>obtain⟨t,rfl⟩:=r;rfl
 |str _=>obtain⟨t,rfl⟩:=r;rfl
 |byt _=>obtain⟨t,rfl⟩:=r;rfl
 |flt _=>obtain⟨t,rfl⟩:=r;rfl
 |ref _=>cases r;rfl
 |ty _=>cases r;rfl
theorem RelV.inj{x y:V}{u:Value}(r:RelV x u)(q:RelV y u):x=y:=xK (r.abs.symm.trans q.abs)
theorem Vals.inj{xs ys:List V}{us:List Value}(h:Vals xs us)(g:Vals ys us):xs=ys:=by
 induction h generalizing ys with
 |nil=>cases g;rfl
 |cons r t ih=>
  cases g with
  |cons r' t'=>rw[r.inj r',ih t']
section
variable{X:Cx}{Av:List (Addr×Obj)}{σ:St}{H:Hp}{s:Shared}{a:Addr}{xs ys:List V}
theorem SqL.of{K:W.Frag}(h:H a=some (.lst xs)):SqL K H a xs:=.inl (.inl h)
theorem SqT.of{K:W.Frag}(h:H a=some (.tup xs)):SqT K H a xs:=.inl (.inl h)
theorem Inv.list(I:Inv X Av σ H s)(h:SqL X.K H a xs):∃its:List Value,Vals xs its∧PlainL s.heap a its.toArray∧xs.length≤sizeLine:=by
 rcases h with h | ⟨o,its,n,hk,hc,hd,hs,hz,r⟩
 ·obtain⟨z,its,n,r,e⟩:=h.ok I.hok;exact⟨its,r,⟨_,n,e,rfl,rfl,rfl⟩,z⟩
 ·refine⟨its.toList,r,⟨o,n,I.kIn a o hk,hc,hd,by simpa using hs⟩,?_⟩;have e:=r.length;simp only[Array.length_toList]at e;omega
theorem Inv.tuple(I:Inv X Av σ H s)(h:SqT X.K H a xs):∃its:List Value,Vals xs its∧IsTup s.heap a its.toArray∧xs.length≤sizeLine:=by
 rcases h with h | ⟨o,its,n,hk,hc,hs,hz,r⟩
 ·obtain⟨z,its,r,p⟩:=h.ok I.hok;exact⟨its,r,p.tup,z⟩
 ·refine⟨its.toList,r,⟨o,I.kIn a o hk,hc,n,by simpa using hs⟩,?_⟩;have e:=r.length;simp only[Array.length_toList]at e;omega
theorem Inv.list_inj(I:Inv X Av σ H s)(h:SqL X.K H a xs)(h':SqL X.K H a ys):xs=ys:=by
 obtain⟨its,r,⟨o,n,e,_,_,d⟩,_⟩:=I.list h;obtain⟨its',r',⟨o',n',e',_,_,d'⟩,_⟩:=I.list h';rw[e]at e';cases e';rw[d]at d';injection d' with d1 _
 have:its=its':=by simpa using congrArg Array.toList d1
 subst this;exact r.inj r'
theorem Inv.tuple_inj(I:Inv X Av σ H s)(h:SqT X.K H a xs)(h':SqT X.K H a ys):xs=ys:=by
 obtain⟨its,r,⟨o,e,_,n,d⟩,_⟩:=I.tuple h;obtain⟨its',r',⟨o',e',_,n',d'⟩,_⟩:=I.tuple h';rw[e]at e';cases e';rw[d]at d';injection d' with d1 _
 have:its=its':=by simpa using congrArg Array.toList d1
 subst this;exact r.inj r'
end
abbrev Cx.wish(X:Cx)(E:Value→Shared→Prop):Cx:={X with xe:=E}
abbrev Cx.nox(X:Cx):Cx:=X.wish fun _ _=>False
theorem Cx.Ok.wish{X:Cx}(ok:X.Ok)(E:Value→Shared→Prop):(X.wish E).Ok:=
 ⟨ok.mod,ok.kind,ok.glob,ok.blt,ok.above,ok.inj,ok.has,ok.cab,ok.hd,ok.frames,ok.stk,ok.exf,ok.bs,ok.bsz,ok.noex,ok.exfs,ok.funs,ok.frf⟩
theorem Cx.Ok.unwish{X:Cx}{E:Value→Shared→Prop}(ok:(X.wish E).Ok):X.Ok:=
 ⟨ok.mod,ok.kind,ok.glob,ok.blt,ok.above,ok.inj,ok.has,ok.cab,ok.hd,ok.frames,ok.stk,ok.exf,ok.bs,ok.bsz,ok.noex,ok.exfs,ok.funs,ok.frf⟩
section
variable{X:Cx}{Av:List (Addr×Obj)}{σ:St}{H:Hp}{s:Shared}{E:Value→Shared→Prop}
theorem Inv.wish(I:Inv X Av σ H s)(E:Value→Shared→Prop):Inv (X.wish E) Av σ H s:=⟨I.ok.wish E,I.os,I.bare,I.base,I.loc,I.cell,I.free,I.freeC,I.pin,I.hok,I.len⟩
theorem Inv.unwish(I:Inv (X.wish E) Av σ H s):Inv X Av σ H s:=⟨I.ok.unwish,I.os,I.bare,I.base,I.loc,I.cell,I.free,I.freeC,I.pin,I.hok,I.len⟩
theorem SP.unwish{D:Ends}{f:Flow}{s':Shared}(h:SP (X.wish E) Av D f s'):SP X Av D f s':=by
 cases f with
 |next=>obtain⟨σ',H',I,q⟩:=h;exact⟨σ',H',I.unwish,q⟩
 |brk=>obtain⟨σ',H',I,q⟩:=h;exact⟨σ',H',I.unwish,q⟩
 |cont=>obtain⟨σ',H',I,q⟩:=h;exact⟨σ',H',I.unwish,q⟩
 |ret u=>obtain⟨v,σ',H',I,r,q⟩:=h;exact⟨v,σ',H',I.unwish,r,q⟩
theorem PSs.nox{st:List Stmt}{t:TS}(h:PSs X.nox st t):PSs X st t:=fun Av s σ H D I hw=>
 yB (h Av s σ H D (I.wish _) hw) (fun _ _ q=>q.unwish) fun _ _ z=>False.elim z
end
section
variable{X:Cx}{st:Stmt}{rest:List Stmt}{t u:TS}{e:Expr}{te:TE}{pos:Pos}
def v_:TS:=fun D σ H=>D.nx σ H
def vE(t u:TS):TS:=fun D σ H=>t {D with nx:=u D} σ H
theorem Zn:PSs X [] v_:=fun _ _ σ H _ I h=>wpAny_execs_nil ⟨σ,H,I,h⟩
theorem Z4(h1:PS X st t)(h2:PSs X rest u):PSs X (st::rest) (vE t u):=by
 intro Av s σ H D I h;refine wpAny_execs_cons (thn (h1 Av s σ H {D with nx:=u D} I h) fun f s1 q=>?_);cases f with
 |next=>
  obtain⟨σ',H',I',q⟩:=q;exact h2 Av s1 σ' H' D I' q
 |ret v=>exact q
 |brk=>exact q
 |cont=>exact q
theorem Z8(h1:PS X st t):PSs X [st] t:=by
 intro Av s σ H D I h;refine wpAny_execs_cons (thn (h1 Av s σ H D I h) fun f s1 q=>?_);cases f with
 |next=>exact wpAny_execs_nil q
 |ret v=>exact q
 |brk=>exact q
 |cont=>exact q
theorem Inv.quiet{Av:List (Addr×Obj)}{σ:St}{H:Hp}{s:Shared}(I:Inv X Av σ H s):interactive X.env=false:=by simp[interactive,I.ok.kind]
def uY(te:TE):TS:=fun D σ H=>te σ H fun _ H1=>D.nx σ H1
theorem Te(he:PE X e te)(hs:swapsWith e none pos.line X.env=pure false:=by rfl):PS X (.Expr e pos) (uY te):=by
 intro Av s σ H D I h;exact wpAny_Expr_any (thn (he Av s σ H _ I h) fun v s1 ⟨x,H1,I1,r1,q1⟩=>⟨σ,H1,I1,q1⟩) I.quiet hs
def tRet(te:TE):TS:=fun D σ H=>te σ H D.rt
theorem Zh(he:PE X e te):PS X (.Return (some e) pos) (tRet te):=by
 intro Av s σ H D I h;exact wpAny_Return_some (thn (he Av s σ H _ I h) fun v s1 ⟨x,H1,I1,r1,q1⟩=>⟨x,σ,H1,I1,r1,q1⟩)
def tIfS(c:TT)(t u:TS):TS:=fun D σ H=>c σ H fun b H1=>if b=true then t D σ H1 else u D σ H1
theorem Y4{c:Expr}{a b:List Stmt}{tc:TT}(hc:PT X c tc)(ha:PSs X a t)(hb:PSs X b u):PS X (.If c a b pos) (tIfS tc t u):=by
 intro Av s σ H D I h;refine wpAny_If (thn (hc Av s σ H _ I h) fun d s1 Aw=>?_);obtain⟨H1,I1,q1⟩:=Aw;cases d with
 |true=>exact ha Av s1 σ H1 D I1 q1
 |false=>exact hb Av s1 σ H1 D I1 q1
end
abbrev TG:=V→St→Hp→(St→Hp→Prop)→Prop
abbrev TGs:=List V→St→Hp→(St→Hp→Prop)→Prop
def PG(X:Cx)(target:Expr)(t:TG):Prop:=
 ∀(Av:List (Addr×Obj))(s:Shared)(σ:St)(H:Hp)(v:V)(u:Value)(Q:St→Hp→Prop),Inv X Av σ H s→RelV v u→t v σ H Q→
  wpAny (model X.prog X.w) X.A (assign target X.env u) (fun _ s'=>∃σ' H',Inv X Av σ' H' s'∧Q σ' H') X.xe s
def PGs(X:Cx)(ts:List Expr)(t:TGs):Prop:=
 ∀(Av:List (Addr×Obj))(s:Shared)(σ:St)(H:Hp)(vs:List V)(us:List Value)(Q:St→Hp→Prop),Inv X Av σ H s→Vals vs us→t vs σ H Q→
  wpAny (model X.prog X.w) X.A (assignInOrder ((assignEach ts X.env).map (·.2)) us) (fun _ s'=>∃σ' H',Inv X Av σ' H' s'∧Q σ' H') X.xe s
abbrev uA:=V→V→V→Hp→(Hp→Prop)→Prop
def v8(X:Cx)(t:uA):Prop:=
 ∀(Av:List (Addr×Obj))(s:Shared)(σ:St)(H:Hp)(o i v:V)(ov iv u:Value)(Q:Hp→Prop),Inv X Av σ H s→RelV o ov→RelV i iv→RelV v u→t o i v H Q→
  wpAny (model X.prog X.w) X.A (setItem ov iv u) (fun _ s'=>∃H',Inv X Av σ H' s'∧Q H') X.xe s
section
variable{X:Cx}{pos:Pos}
def eX(i:Nat):TG:=fun v σ H Q=>Q (σ.set i (some v)) H
theorem Za{i:Nat}{x:Str}(hN:X.N.Nodup)(hi:X.N[i]?=some x)(hx:Loc X.env.scope x)(hf:X.fn x=true∨X.env.scope.names.lookup x=some .local:=by first | exact .inl rfl | exact .inr rfl | assumption):PG X (.Name x pos) (eX i):=by
 intro Av s σ H v u Q I r h;exact wpAny_assign_Name (Nc I hN hi hx r (fun s' I'=>⟨_,H,I',h⟩) hf)
def gNil:TGs:=fun vs σ H Q=>vs=[]∧Q σ H
def wJ(t:TG)(u:TGs):TGs:=fun vs σ H Q=>∃v r,vs=v::r∧t v σ H fun σ' H'=>u r σ' H' Q
theorem Zu:PGs X [] gNil:=by
 intro Av s σ H vs us Q I r h;obtain⟨e,h⟩:=h;subst e;cases r;exact assignInOrder_nil ⟨σ,H,I,h⟩
theorem Zb{e:Expr}{es:List Expr}{t:TG}{u:TGs}(h1:PG X e t)(h2:PGs X es u)(hs:(assignEach (e::es) X.env).map (·.2)=assign e X.env::(assignEach es X.env).map (·.2):=by rfl):PGs X (e::es) (wJ t u):=by
 intro Av s σ H vs us Q I r h;obtain⟨v,vr,e1,h⟩:=h;subst e1;cases r with
 |cons r rr=>
  rw[hs];refine assignInOrder_cons (thn (h1 Av s σ H _ _ _ I r h) fun _ s1 Aw=>?_);obtain⟨σ1,H1,I1,q1⟩:=Aw;exact h2 Av s1 σ1 H1 _ _ Q I1 rr q1
def uX(K:W.Frag)(n:Nat)(t:TGs):TG:=fun v σ H Q=>∃a xs,v=.ref a∧SqT K H a xs∧xs.length=n∧t xs σ H Q
theorem Yv{es:List Expr}{k:Nat}{t:TGs}{n:Nat}(hc:X.calm=true)(h:PGs X es t)(hn:(assignEach es X.env).length=n:=by rfl)(hst:(assignEach es X.env).findIdx? (·.1)=none:=by rfl):PG X (.Tuple es k pos) (uX X.K n t):=by
 intro Av s σ H v u Q I r hw;obtain⟨a,xs,e1,hq,hl,hw⟩:=hw;subst e1;cases r;obtain⟨its,rv,ht,hz⟩:=I.tuple hq;refine assign_Tuple_tuple (I.ok.hd hc) ht (by simp[hn,←hl,rv.length]) hst fun h' hx=>?_;have I1:Inv X Av σ H {s with heap:=h'}:=I.kept (t':=s.toks) fun b o e=>hx b o (xx (xk e)) e;exact h Av _ σ H xs _ Q I1 (by simpa using rv) hw
def gSub(to ti:TE)(t:uA):TG:=fun v σ H Q=>to σ H fun o H1=>ti σ H1 fun i H2=>t o i v H2 fun H3=>Q σ H3
theorem gJ{o i:Expr}{to ti:TE}{t:uA}(ho:PE X o to)(hi:PE X i ti)(hs:v8 X t)(ha:∀v,assign (.Subscript o i pos) X.env v=(do
   let ov ←holding [v] (eval o X.env)
   let iv ←holding [v,ov] (eval i X.env)
   standAt pos
   holding [v,ov,iv] (setItem ov iv v)
   release [v,ov,iv] []):=by intro _;rfl):PG X (.Subscript o i pos) (gSub to ti t):=by
 intro Av s σ H v u Q I r h;rw[ha];refine io (xQ (thn (ho Av s σ H _ I h) fun ov s1 Aw=>?_));obtain⟨x,H1,I1,r1,q1⟩:=Aw;refine io (xQ (thn (hi Av s1 σ H1 _ I1 q1) fun iv s2 Aw=>?_));obtain⟨y,H2,I2,r2,q2⟩:=Aw;refine io (wpAny_standAt (io (xQ (thn (hs Av s2 σ H2 x y v ov iv u _ I2 r1 r2 r q2) fun _ s3 Aw=>?_))));obtain⟨H3,I3,q3⟩:=Aw;exact wpAny_release ⟨σ,H3,I3,q3⟩
def nG(te:TE)(g:TG):TS:=fun D σ H=>te σ H fun x H1=>g x σ H1 D.nx
theorem Yu{tg e:Expr}{te:TE}{g:TG}(he:PE X e te)(hg:PG X tg g)(hs:swapsWithSole [tg] e pos.line X.env=pure false:=by rfl)(hw:swappedStores [tg] e X.env=pure none:=by rfl)(h1:(assignEach [tg] X.env).map (·.2)=[assign tg X.env]:=by rfl):PS X (.Assign [tg] e pos) (nG te g):=by
 intro Av s σ H D I h;refine wpAny_Assign_stores (thn (he Av s σ H _ I h) fun v s1 ⟨x,H1,I1,r1,q1⟩=>?_) hs hw;rw[h1];exact thn (hg Av s1 σ H1 x v _ I1 r1 q1) fun _ s2 q=>q
theorem lO{i:Nat}{x:Str}{e:Expr}{te:TE}{pos':Pos}(hN:X.N.Nodup)(hi:X.N[i]?=some x)(hx:Loc X.env.scope x)(he:PE X e te)(hs:swapsWith e (some (.Name x pos')) pos.line X.env=pure false:=by rfl)(hf:X.fn x=true∨X.env.scope.names.lookup x=some .local:=by first | exact .inl rfl | exact .inr rfl | assumption):
  PS X (.Assign [.Name x pos'] e pos) (nG te (eX i)):=by
 intro Av s σ H D I h;refine wpAny_Assign_Name (thn (he Av s σ H _ I h) fun v s1 Aw=>?_) hs;obtain⟨y,H1,I1,r1,q1⟩:=Aw;exact Nc I1 hN hi hx r1 (fun s2 I2=>⟨_,H1,I2,q1⟩) hf
end
section
variable{X:Cx}{pos:Pos}
def nN(c:TT)(tb:TS):TS:=fun D σ H=>∃W:Nat→St→Hp→Prop,(∃m,W m σ H)∧∀m σ H,W m σ H→
 c σ H fun b H1=>if b=true then ∃N:St→Hp→Prop,(∀σ' H',N σ' H'→∃m',m'<m∧W m' σ' H')∧tb {D with nx:=N,ct:=N,bk:=D.nx} σ H1 else D.nx σ H1
theorem No{c:Expr}{body:List Stmt}{tc:TT}{tb:TS}(hp:PassesOwn (model X.prog X.w) X.A X.env X.xe)(hc:PT X c tc)(hb:PSs X body tb):PS X (.While c body [] pos) (nN tc tb):=by
 intro Av s σ H D I h;obtain⟨W,⟨m0,w0⟩,turn⟩:=h;refine wpAny_While (codeAny_whileLoop (fun n s'=>∃σ' H',Inv X Av σ' H' s'∧W n σ' H') ?_ m0 ⟨σ,H,I,w0⟩);rintro n s1 ⟨σ1,H1,I1,w1⟩;refine zN hp (thn (hc Av s1 σ1 H1 _ I1 (turn n σ1 H1 w1)) fun b s2 Aw=>?_);obtain⟨H2,I2,q2⟩:=Aw;cases b with
 |true=>
  obtain⟨N,hN,q2⟩:=q2;rw[xp rfl];refine zN hp (thn (hb Av s2 σ1 H2 _ I2 q2) fun f s3 q3=>?_);cases f with
  |next=>
   obtain⟨σ3,H3,I3,n3⟩:=q3;obtain⟨m',hm,w3⟩:=hN σ3 H3 n3;exact⟨m',hm,σ3,H3,I3,w3⟩
  |cont=>
   obtain⟨σ3,H3,I3,n3⟩:=q3;obtain⟨m',hm,w3⟩:=hN σ3 H3 n3;exact⟨m',hm,σ3,H3,I3,w3⟩
  |brk=>exact q3
  |ret v=>exact q3
 |false=>
  rw[xm xw];exact wpAny_execs_nil ⟨σ1,H2,I2,q2⟩
end
structure It where
 go:Nat→Hp→Prop
 yld:Nat→Hp→V→Hp→Prop
 stop:Nat→Hp→Prop
def cj(X:Cx)(Av:List (Addr×Obj))(H:Hp)(b:Addr):Prop:=
 H b=none∧b≠X.env.locals∧b∉X.fs∧(b∈X.ex∨X.s₀.heap.objs.size≤b)∧(∀x c,X.env.cells.lookup x=some c→c≠b)∧∀p∈X.pn++Av,p.1≠b
theorem Inv.fpOk{X:Cx}{Av:List (Addr×Obj)}{σ:St}{H H':Hp}{s:Shared}{b:Addr}(I:Inv X Av σ H s)(hb:s.heap.objs.size≤b)(hn:H' b=none):cj X Av H' b:=by
 refine⟨hn,ym (xH I.lt hb),I.nofs hb,.inr (xZ I.sz hb),fun x c e z=>?_,fun p hp z=>?_⟩
 ·obtain⟨v,q⟩:=I.cell x c e;exact absurd (xH q.lt (by rw[z];exact hb)) (zt _)
 ·exact absurd (xH (xk (I.pin p hp).1) (by rw[z];exact hb)) (zt _)
structure Turn(P:Program)(w:World)(K:W.Frag)(tg:Expr)(J:It)(fp:List Addr)(it:Addr)(tn:Nat→Heap→Prop):Prop where
 mem:it∈fp
 obj:∀i h,tn i h→∀b∈fp,∃o,h.get? b=some o∧∀v,o.data≠.cell v
 keep:∀i h h',tn i h→(∀b∈fp,∀o,h.get? b=some o→h'.get? b=some o)→tn i h'
 item:∀(X:Cx),X.prog=P→X.w=w→X.K=K→X.calm=true→∀(i:Nat)(Av:List (Addr×Obj))(s:Shared)(σ:St)(H:Hp)(E:Value→Shared→Prop),Inv X Av σ H s→(∀b∈fp,cj X Av H b)→tn i s.heap→J.go i H→
  wpAny (model P w) X.A (pyNext (.ref it)) (fun r s1=>∃u,r=some u∧
   wpAny (model P w) X.A (letOwnedTupleGo tg (.ref it) u) (fun _ s2=>∃x H',Inv X Av σ H' s2∧RelV x u∧J.yld i H x H'∧tn (i+1) s2.heap∧∀b∈fp,H' b=none) E s1) E s
 done:∀(X:Cx),X.prog=P→X.w=w→X.K=K→X.calm=true→∀(i:Nat)(Av:List (Addr×Obj))(s:Shared)(σ:St)(H:Hp)(E:Value→Shared→Prop),Inv X Av σ H s→(∀b∈fp,cj X Av H b)→tn i s.heap→J.stop i H→
  wpAny (model P w) X.A (pyNext (.ref it)) (fun r s1=>r=none∧Inv X Av σ H s1) E s
 self:∀(A:Around)(i:Nat)(s:Shared)(Q:Value→Shared→Prop)(E:Value→Shared→Prop),tn i s.heap→Q (.ref it) s→wpAny (model P w) A (pyIter (.ref it)) Q E s
abbrev TI:=St→Hp→(It→Hp→Prop)→Prop
def PIE(X:Cx)(Av:List (Addr×Obj))(σ:St)(tg:Expr)(R:It→Hp→Prop)(itv:Value)(s2:Shared):Prop:=
 ∃(it:Addr)(fp:List Addr)(tn:Nat→Heap→Prop)(J:It)(H':Hp),itv=.ref it∧Inv X Av σ H' s2∧Turn X.prog X.w X.K tg J fp it tn∧tn 0 s2.heap∧(∀b∈fp,cj X Av H' b)∧R J H'
def PI(X:Cx)(tg iter:Expr)(wi:TI):Prop:=
 ∀(Av:List (Addr×Obj))(s:Shared)(σ:St)(H:Hp)(R:It→Hp→Prop),Inv X Av σ H s→wi σ H R→
  wpAny (model X.prog X.w) X.A (eval iter X.env) (fun v s1=>wpAny (model X.prog X.w) X.A (pyIter v) (PIE X Av σ tg R) X.xe s1) X.xe s
theorem iP{M:Model}{A:Around}{E:Value→Shared→Prop}{s:Shared}{tg:Expr}{it:Addr}{u:Value}{o:Obj}{n:String}{vs:Array Value}{Q:Unit→Shared→Prop}(ho:s.heap.get? it=some o)(hc:o.cls=.type n)(hd:o.data=.fields vs)(hn:["enumerate","zip","dict_itemiterator","dict_reverseitemiterator","odict_iterator","itertools.zip_longest","itertools.pairwise"].contains n=false)(hQ:Q () s):wpAny M A (letOwnedTupleGo tg (.ref it) u) Q E s:=by
 unfold letOwnedTupleGo;cases tg <;> first
  |exact pi hQ
  | (cases u <;> first
    |exact pi hQ
    | (refine io (As ho ?_)
       rw[hc,hd];show wpAny M A (if (["enumerate","zip","dict_itemiterator","dict_reverseitemiterator","odict_iterator","itertools.zip_longest","itertools.pairwise"].contains n && vs[0]? == some (rawInt _))=true then _ else _) Q E s;rw[xm (by intro h;rw[hn,Bool.false_and]at h;cases h)];exact pi hQ))
def Itl(K:W.Frag)(a:Addr):It:=
 ⟨fun i H=>∃xs x,SqL K H a xs∧xs[i]?=some x,fun i H x H'=>H'=H∧∀xs,SqL K H a xs→xs[i]?=some x,fun i H=>∃xs,SqL K H a xs∧xs.length≤i⟩
def Itt(K:W.Frag)(a:Addr):It:=
 ⟨fun i H=>∃xs x,SqT K H a xs∧xs[i]?=some x,fun i H x H'=>H'=H∧∀xs,SqT K H a xs→xs[i]?=some x,fun i H=>∃xs,SqT K H a xs∧xs.length≤i⟩
def Itr(lo:Int)(n:Nat):It:=⟨fun i _=>i<n,fun i H x H'=>H'=H∧x=.int (lo+i),fun i _=>n≤i⟩
theorem jO{P:Program}{w:World}{K:W.Frag}{tg:Expr}(a it:Addr):Turn P w K tg (Itl K a) [it] it (fun i h=>h.IsListIter it a i) where
 mem:=by simp
 obj:=fun i h st b hb=>by
  have e:b=it:=by simpa using hb
  subst e;obtain⟨o,e,c,d⟩:=st;exact⟨o,e,fun v z=>by rw[d]at z;cases z⟩
 keep:=fun i h h' st k=>st.at fun o e=>k it (by simp) o e
 item:=by
  intro X hP hw hK hc i Av s σ H E I hf st hg;subst hP hw hK;obtain⟨xs,x,hq,hx⟩:=hg;obtain⟨its,rv,p,hz⟩:=I.list hq;obtain⟨u,hu,ru⟩:=rv.get hx;obtain⟨f0,f1,f2,f3,f4,f5⟩:=hf it (by simp);refine wpAny_pyNext_list_item st p.isList (x:=u) (by simpa using hu) fun h' AI sb=>?_;have I1:Inv X Av σ H {s with heap:=h'}:=I.turned (t':=s.toks) (fun b o hb e=>(sb.2 b hb).trans e) f0 f1 f3 f4 f5;obtain⟨o,e,c,d⟩:=id AI;exact⟨u,rfl,iP (s:={s with heap:=h'}) e c d (by decide) ⟨x,H,I1,ru,⟨rfl,fun ys hy=>by rw[I.list_inj hy hq];exact hx⟩,AI,fun b hb=>(hf b hb).1⟩⟩
 done:=by
  intro X hP hw hK hc i Av s σ H E I hf st hg;subst hP hw hK;obtain⟨xs,hq,hx⟩:=hg;obtain⟨its,rv,p,hz⟩:=I.list hq;obtain⟨f0,f1,f2,f3,f4,f5⟩:=hf it (by simp);have hl:=rv.length;exact wpAny_pyNext_list_end (I.ok.hd hc) st p.isList (by simp;omega) fun h' eb=>⟨rfl,I.turned (t':=s.toks) (fun b o hb e=>eb b o hb e) f0 f1 f3 f4 f5⟩
 self:=fun _ _ _ _ _ st h=>wpAny_pyIter_listiter st h
theorem h9{P:Program}{w:World}{K:W.Frag}{tg:Expr}(a it:Addr):Turn P w K tg (Itt K a) [it] it (fun i h=>h.IsTupleIter it a i) where
 mem:=by simp
 obj:=fun i h st b hb=>by
  have e:b=it:=by simpa using hb
  subst e;obtain⟨o,e,c,d⟩:=st;exact⟨o,e,fun v z=>by rw[d]at z;cases z⟩
 keep:=fun i h h' st k=>st.at fun o e=>k it (by simp) o e
 item:=by
  intro X hP hw hK hc i Av s σ H E I hf st hg;subst hP hw hK;obtain⟨xs,x,hq,hx⟩:=hg;obtain⟨its,rv,p,hz⟩:=I.tuple hq;obtain⟨u,hu,ru⟩:=rv.get hx;obtain⟨f0,f1,f2,f3,f4,f5⟩:=hf it (by simp);refine wpAny_pyNext_tuple_item st (show s.heap.IsTuple a its.toArray from p) (x:=u) (by simpa using hu) fun h' AI sb=>?_;have I1:Inv X Av σ H {s with heap:=h'}:=I.turned (t':=s.toks) (fun b o hb e=>(sb.2 b hb).trans e) f0 f1 f3 f4 f5;obtain⟨o,e,c,d⟩:=id AI;exact⟨u,rfl,iP (s:={s with heap:=h'}) e c d (by decide) ⟨x,H,I1,ru,⟨rfl,fun ys hy=>by rw[I.tuple_inj hy hq];exact hx⟩,AI,fun b hb=>(hf b hb).1⟩⟩
 done:=by
  intro X hP hw hK hc i Av s σ H E I hf st hg;subst hP hw hK;obtain⟨xs,hq,hx⟩:=hg;obtain⟨its,rv,p,hz⟩:=I.tuple hq;obtain⟨f0,f1,f2,f3,f4,f5⟩:=hf it (by simp);have hl:=rv.length;exact wpAny_pyNext_tuple_end (I.ok.hd hc) st (show s.heap.IsTuple a its.toArray from p) (by simp;omega) fun h' eb=>⟨rfl,I.turned (t':=s.toks) (fun b o hb e=>eb b o hb e) f0 f1 f3 f4 f5⟩
 self:=fun _ _ _ _ _ st h=>wpAny_pyIter_tupleiter st h
theorem hE{P:Program}{w:World}{K:PySem.W.Frag}{tg:Expr}(it:Addr)(lo:Int)(n:Nat):Turn P w K tg (Itr lo n) [it] it (fun i h=>IsRangeIter h it (lo+(i:Nat)*1) ((n:Int)-(i:Nat)) 1) where
 mem:=by simp
 obj:=fun i h st b hb=>by
  have e:b=it:=by simpa using hb
  subst e;exact⟨_,st,fun v z=>by
   have z':Data.fields _=Data.cell v:=z;cases z'⟩
 keep:=fun i h h' st k=>k it (by simp) _ st
 item:=by
  intro X hP hw hK hc i Av s σ H E I hf st hg;subst hP hw hK;obtain⟨f0,f1,f2,f3,f4,f5⟩:=hf it (by simp);have W:=Walks.range (prog:=X.prog) (w:=X.w) (I.ok.hd hc) it lo 1 n;refine W.item i s _ _ hg st fun v h' tk hv AI kk=>?_;obtain⟨t,rfl⟩:=hv;have I1:Inv X Av σ H {s with heap:=h',toks:=tk}:=I.turned (fun b o hb e=>kk b o (by simpa using hb) e) f0 f1 f3 f4 f5;refine⟨_,rfl,iP (s:={s with heap:=h',toks:=tk}) (n:="range_iterator") AI rfl rfl (by decide) ⟨.int (lo+i),H,I1,⟨t,?_⟩,⟨rfl,rfl⟩,AI,fun b hb=>(hf b hb).1⟩⟩;rw[Int.mul_one]
 done:=by
  intro X hP hw hK hc i Av s σ H E I hf st hg;subst hP hw hK;obtain⟨f0,f1,f2,f3,f4,f5⟩:=hf it (by simp);exact wpAny_pyNext_range_end (I.ok.hd hc) st (by have:n≤i:=hg;omega) fun h' eb=>⟨rfl,I.turned (t':=s.toks) (fun b o hb e=>eb b o hb e) f0 f1 f3 f4 f5⟩
 self:=fun _ _ _ _ _ st h=>wpAny_pyIter_rangeiter st h
section
variable{X:Cx}{tg:Expr}
def wL(K:W.Frag)(tl:TE):TI:=fun σ H R=>tl σ H fun x H1=>∃a,x=.ref a∧(∃xs,SqL K H1 a xs)∧R (Itl K a) H1
def iTup(K:W.Frag)(tl:TE):TI:=fun σ H R=>tl σ H fun x H1=>∃a,x=.ref a∧(∃xs,SqT K H1 a xs)∧R (Itt K a) H1
theorem U5{l:Expr}{tl:TE}(hl:PE X l tl):PI X tg l (wL X.K tl):=by
 intro Av s σ H R I h;refine thn (hl Av s σ H _ I h) fun v s1 Aw=>?_;obtain⟨x,H1,I1,r1,q1⟩:=Aw;obtain⟨a,e,⟨xs,hq⟩,q⟩:=q1;subst e;cases r1;obtain⟨its,rv,p,hz⟩:=I1.list hq;refine Ak p.isList ?_;refine⟨s1.heap.objs.size,[s1.heap.objs.size],_,_,H1,rfl,I1.kept (t':=s1.toks) fun b o e=>xi _ e,jO a _,⟨_,xt _ rfl,rfl,rfl⟩,fun b hb=>?_,q⟩;have e:b=s1.heap.objs.size:=by simpa using hb
 subst e;exact I1.fpOk (xj _) (I1.hok.fresh (xj _))
theorem Vo{l:Expr}{tl:TE}(hl:PE X l tl):PI X tg l (iTup X.K tl):=by
 intro Av s σ H R I h;refine thn (hl Av s σ H _ I h) fun v s1 Aw=>?_;obtain⟨x,H1,I1,r1,q1⟩:=Aw;obtain⟨a,e,⟨xs,hq⟩,q⟩:=q1;subst e;cases r1;obtain⟨its,rv,p,hz⟩:=I1.tuple hq;refine wpAny_pyIter_tuple (show s1.heap.IsTuple a its.toArray from p) ?_;refine⟨s1.heap.objs.size,[s1.heap.objs.size],_,_,H1,rfl,I1.kept (t':=s1.toks) fun b o e=>xi _ e,h9 a _,⟨_,xt _ rfl,rfl,rfl⟩,fun b hb=>?_,q⟩;have e:b=s1.heap.objs.size:=by simpa using hb
 subst e;exact I1.fpOk (xj _) (I1.hok.fresh (xj _))
theorem Nm{Av:List (Addr×Obj)}{σ:St}{H:Hp}{s:Shared}{R:It→Hp→Prop}{E:Value→Shared→Prop}{lo hi:Int}{t u v:Tok}{tk:Nat}(I:Inv X Av σ H s)(h1:-(2^62)≤lo)(h2:lo<2^62)(h3:-(2^62)≤hi)(h4:hi<2^62)(q:R (Itr lo (hi-lo).toNat) H):wpAny (model X.prog X.w) X.A (pyIter (.ref s.heap.objs.size)) (PIE X Av σ tg R) E {s with heap:=s.heap.push {cls:=.type "range",data:=.fields #[.int lo t,.int hi u,.int 1 v]},toks:=tk}:=by
 refine wpAny_pyIter_range (IsRange.new ..) (small_one h1 h2 h3 h4) ?_;have I1:Inv X Av σ H {s with heap:=s.heap.push {cls:=.type "range",data:=.fields #[.int lo t,.int hi u,.int 1 v]},toks:=tk}:=I.kept fun b o e=>xi _ e;refine⟨(s.heap.push {cls:=.type "range",data:=.fields #[.int lo t,.int hi u,.int 1 v]}).objs.size,[(s.heap.push {cls:=.type "range",data:=.fields #[.int lo t,.int hi u,.int 1 v]}).objs.size],_,_,H,rfl,
  I1.kept (t':=tk) fun b o e=>xi _ e,hE _ lo (hi-lo).toNat,?_,fun b hb=>?_,q⟩
 ·have e1:lo+((0:Nat):Int)*1=lo:=by simp
  have e2:(((hi-lo).toNat:Nat):Int)-((0:Nat):Int)=Builtin.Range.rangeSize lo hi 1:=by rw[rangeSize_one];split <;> omega
  show IsRangeIter _ _ (lo+((0:Nat):Int)*1) ((((hi-lo).toNat:Nat):Int)-((0:Nat):Int)) 1;rw[e1,e2];exact xt _ rfl
 ·have e:b=(s.heap.push {cls:=.type "range",data:=.fields #[.int lo t,.int hi u,.int 1 v]}).objs.size:=by simpa using hb
  subst e;exact I1.fpOk (xj _) (I1.hok.fresh (xj _))
def u8(ta:TA):TI:=fun σ H R=>ta σ H fun vs H1=>∃j:Int,vs=[.int j]∧-(2^62)≤j∧j<2^62∧R (Itr 0 j.toNat) H1
def wU(ta:TA):TI:=fun σ H R=>ta σ H fun vs H1=>∃i j:Int,vs=[.int i,.int j]∧(-(2^62)≤i∧i<2^62∧-(2^62)≤j∧j<2^62)∧R (Itr i (j-i).toNat) H1
theorem Xu{a:Expr}{ta:TA}{p pos:Pos}(hg:Gl X "range")(hm:X.mg "range"=none)(ha:PA X [a] ta)(hs:starEach [a] X.env=[(false,eval a X.env)]:=by rfl):PI X tg (.Call (.Name "range" p) [a] [] pos) (u8 ta):=by
 intro Av s σ H R I h;refine Call_ (S3 I hg hm boot_range (zI (thn (ha pos Av s σ H _ I h) fun us s1 ⟨vs,H1,I1,r1,q1⟩=>?_) hs rfl));obtain⟨j,e,q1,q2,q⟩:=q1;subst e;cases r1 with
 |cons r rr=>
  cases rr;obtain⟨t,rfl⟩:=r;exact call_range_1 (Nm I1 (by omega) (by omega) q1 q2 (by simpa using q))
theorem kj{a b:Expr}{ta:TA}{p pos:Pos}(hg:Gl X "range")(hm:X.mg "range"=none)(ha:PA X [a,b] ta)(hs:starEach [a,b] X.env=[(false,eval a X.env),(false,eval b X.env)]:=by rfl)(hs2:starEach [b] X.env=[(false,eval b X.env)]:=by rfl):
  PI X tg (.Call (.Name "range" p) [a,b] [] pos) (wU ta):=by
 intro Av s σ H R I h;refine Call_ (S3 I hg hm boot_range (zI (thn (ha pos Av s σ H _ I h) fun us s1 ⟨vs,H1,I1,r1,q1⟩=>?_) (by rw[hs,hs2]) (by rw[hs2];rfl)));obtain⟨i,j,e,⟨q1,q2,q3,q4⟩,q⟩:=q1;subst e;cases r1 with
 |cons r rr=>
  cases rr with
  |cons r' rr=>
   cases rr;obtain⟨t,rfl⟩:=r;obtain⟨t',rfl⟩:=r';exact call_range_2 (Nm I1 q1 q2 q3 q4 q)
def tFor(wi:TI)(g:TG)(tb:TS):TS:=fun D σ H=>wi σ H fun J H1=>∃W:Nat→Nat→St→Hp→Prop,(∃m,W 0 m σ H1)∧∀i m σ H,W i m σ H→
 (J.stop i H∧D.nx σ H)∨(J.go i H∧∃N:St→Hp→Prop,(∀σ' H',N σ' H'→∃m',m'<m∧W (i+1) m' σ' H')∧∀x H',J.yld i H x H'→g x σ H' fun σ2 H2=>tb {D with nx:=N,ct:=N,bk:=D.nx} σ2 H2)
def de(fp:List Addr)(h:Heap):List (Addr×Obj):=fp.filterMap fun b=>(h.get? b).map fun o=>(b,o)
theorem V7{fp:List Addr}{h:Heap}{b:Addr}{o:Obj}(hb:b∈fp)(e:h.get? b=some o):(b,o)∈de fp h:=yR.mpr ⟨b,hb,by rw[e];rfl⟩
theorem jX{fp:List Addr}{h:Heap}{p:Addr×Obj}(hp:p∈de fp h):p.1∈fp∧h.get? p.1=some p.2:=by
 obtain⟨b,hb,e⟩:=yR.mp hp;cases q:h.get? b with
 |none=>rw[q]at e;cases e
 |some o=>
  rw[q]at e;have e':(b,o)=p:=xK e;subst e';exact⟨hb,q⟩
theorem Inv.pinned{Av:List (Addr×Obj)}{σ:St}{H:Hp}{s:Shared}{fp:List Addr}(I:Inv X Av σ H s)(hf:∀b∈fp,cj X Av H b)(ho:∀b∈fp,∃o,s.heap.get? b=some o∧∀v,o.data≠.cell v):Inv X (Av++de fp s.heap) σ H s:=
 I.pins_of fun p hp=>(xM.mp hp).elim (fun z=>I.pin p (xA _ z)) fun z=>by
  obtain⟨hb,e⟩:=jX z;obtain⟨f0,f1,f2,_⟩:=hf p.1 hb;obtain⟨o,e',d⟩:=ho p.1 hb;rw[e]at e';cases e';exact⟨e,f0,f1,f2,d⟩
theorem Inv.unpinned{Av pl:List (Addr×Obj)}{σ:St}{H:Hp}{s:Shared}(I:Inv X (Av++pl) σ H s):Inv X Av σ H s:=I.pins_of fun p hp=>I.pin p (xA _ (yy _ hp))
theorem Xl{iter:Expr}{body:List Stmt}{wi:TI}{g:TG}{tb:TS}{pos:Pos}(hp:PassesOwn (model X.prog X.w) X.A X.env X.xe)(hc:X.calm=true)(hi:PI X tg iter wi)(hg:PG X tg g)(hb:PSs X body tb)(hs:∀x,foldedSetIterable iter X.env x=pure x:=by intro _;rfl):PS X (.For tg iter body [] pos) (tFor wi g tb):=by
 intro Av s σ H D I h;refine wpAny_For (thn (hi Av s σ H _ I h) fun v s1 h1=>thn h1 fun itv s2 h2=>?_) hs;obtain⟨it,fp,tn,J,H2,e,I2,T,st2,f2,W,⟨m0,w0⟩,turn⟩:=h2;subst e;have stat:∀{H':Hp},(∀b∈fp,H' b=none)→∀b∈fp,cj X Av H' b:=fun hn b hb=>⟨hn b hb,(f2 b hb).2⟩;refine codeAny_forLoop_any (fun n s'=>∃i σ' H',Inv X Av σ' H' s'∧tn i s'.heap∧(∀b∈fp,H' b=none)∧W i n σ' H') ?_ m0 ⟨0,σ,H2,I2,st2,fun b hb=>(f2 b hb).1,w0⟩;rintro n s3 ⟨i,σ3,H3,I3,st3,fr3,w3⟩
 rcases turn i n σ3 H3 w3 with⟨stop,qn⟩|⟨go,N,hN,step⟩
 ·refine zN hp (thn (T.done X rfl rfl rfl hc i Av s3 σ3 H3 X.xe I3 (stat fr3) st3 stop) fun r s4 Aw=>?_);obtain⟨hr,I4⟩:=Aw;subst hr;exact wpAny_execs_nil ⟨σ3,H3,I4,qn⟩
 ·refine zN hp (thn (T.item X rfl rfl rfl hc i Av s3 σ3 H3 X.xe I3 (stat fr3) st3 go) fun r s4 Aw=>?_);obtain⟨u,hr,h4⟩:=Aw;subst hr;refine zN hp (thn h4 fun _ s5 Aw=>?_);obtain⟨x,H5,I5,r5,y5,st5,fr5⟩:=Aw;have I5':=I5.pinned (stat fr5) (T.obj _ _ st5);refine zN hp (thn (hg _ s5 σ3 H5 x u _ I5' r5 (step x H5 y5)) fun _ s6 Aw=>?_);obtain⟨σ6,H6,I6,q6⟩:=Aw;refine zN hp (thn (hb _ s6 σ6 H6 _ I6 q6) fun f s7 q7=>?_);have again:∀{σ7:St}{H7:Hp},Inv X (Av++de fp s5.heap) σ7 H7 s7→N σ7 H7→∃m,m<n∧∃i σ' H',Inv X Av σ' H' s7∧tn i s7.heap∧(∀b∈fp,H' b=none)∧W i m σ' H':=fun{σ7 H7} I7 n7=>by
   obtain⟨m',hm,w7⟩:=hN σ7 H7 n7;refine⟨m',hm,i+1,σ7,H7,I7.unpinned,T.keep _ _ _ st5 fun b hb o e=>(I7.pin (b,o) (xA _ (xA _ (V7 hb e)))).1,fun b hb=>?_,w7⟩;obtain⟨o,e,d⟩:=T.obj _ _ st5 b hb;exact(I7.pin (b,o) (xA _ (xA _ (V7 hb e)))).2.1
  cases f with
  |next=>obtain⟨σ7,H7,I7,n7⟩:=q7;exact again I7 n7
  |cont=>obtain⟨σ7,H7,I7,n7⟩:=q7;exact again I7 n7
  |brk=>obtain⟨σ7,H7,I7,q7⟩:=q7;exact⟨σ7,H7,I7.unpinned,q7⟩
  |ret v=>obtain⟨x7,σ7,H7,I7,r7,q7⟩:=q7;exact⟨x7,σ7,H7,I7.unpinned,r7,q7⟩
end
theorem nP{K:PySem.W.Frag}{a:Addr}{xs:List V}{g:TG}{tb:TS}{D:Ends}{σ:St}{H:Hp}(Pv:Nat→St→Hp→Prop)(h0:Pv 0 σ H)(hl:∀i σ H,i≤xs.length→Pv i σ H→SqL K H a xs)(hs:∀i x σ H,xs[i]?=some x→Pv i σ H→g x σ H fun σ2 H2=>tb {D with nx:=Pv (i+1),ct:=Pv (i+1),bk:=D.nx} σ2 H2)(hd:∀σ H,Pv xs.length σ H→D.nx σ H):
  ∃W:Nat→Nat→St→Hp→Prop,(∃m,W 0 m σ H)∧∀i m σ H,W i m σ H→
   ((Itl K a).stop i H∧D.nx σ H)∨((Itl K a).go i H∧∃N:St→Hp→Prop,(∀σ' H',N σ' H'→∃m',m'<m∧W (i+1) m' σ' H')∧∀x H',(Itl K a).yld i H x H'→g x σ H' fun σ2 H2=>tb {D with nx:=N,ct:=N,bk:=D.nx} σ2 H2):=by
 refine⟨fun i m σ H=>m=xs.length-i∧i≤xs.length∧Pv i σ H,⟨xs.length,by simp,Nat.zero_le _,h0⟩,?_⟩;rintro i m σ H ⟨rfl,hi,p⟩;have q:=hl i σ H hi p;by_cases AA:i<xs.length
 ·refine .inr ⟨⟨xs,xs[i],q,by simp[AA]⟩,Pv (i+1),fun σ' H' p'=>⟨xs.length-(i+1),by omega,rfl,AA,p'⟩,fun x H' y=>?_⟩;obtain⟨e,y⟩:=y;subst e;exact hs i x σ _ (y xs q) p
 ·have e:i=xs.length:=by omega
  subst e;exact .inl ⟨⟨xs,q,xj _⟩,hd σ H p⟩
theorem qd{K:PySem.W.Frag}{a:Addr}{xs:List V}{g:TG}{tb:TS}{D:Ends}{σ:St}{H:Hp}(Pv:Nat→St→Hp→Prop)(h0:Pv 0 σ H)(hl:∀i σ H,i≤xs.length→Pv i σ H→SqT K H a xs)(hs:∀i x σ H,xs[i]?=some x→Pv i σ H→g x σ H fun σ2 H2=>tb {D with nx:=Pv (i+1),ct:=Pv (i+1),bk:=D.nx} σ2 H2)(hd:∀σ H,Pv xs.length σ H→D.nx σ H):
  ∃W:Nat→Nat→St→Hp→Prop,(∃m,W 0 m σ H)∧∀i m σ H,W i m σ H→
   ((Itt K a).stop i H∧D.nx σ H)∨((Itt K a).go i H∧∃N:St→Hp→Prop,(∀σ' H',N σ' H'→∃m',m'<m∧W (i+1) m' σ' H')∧∀x H',(Itt K a).yld i H x H'→g x σ H' fun σ2 H2=>tb {D with nx:=N,ct:=N,bk:=D.nx} σ2 H2):=by
 refine⟨fun i m σ H=>m=xs.length-i∧i≤xs.length∧Pv i σ H,⟨xs.length,by simp,Nat.zero_le _,h0⟩,?_⟩;rintro i m σ H ⟨rfl,hi,p⟩;have q:=hl i σ H hi p;by_cases AA:i<xs.length
 ·refine .inr ⟨⟨xs,xs[i],q,by simp[AA]⟩,Pv (i+1),fun σ' H' p'=>⟨xs.length-(i+1),by omega,rfl,AA,p'⟩,fun x H' y=>?_⟩;obtain⟨e,y⟩:=y;subst e;exact hs i x σ _ (y xs q) p
 ·have e:i=xs.length:=by omega
  subst e;exact .inl ⟨⟨xs,q,xj _⟩,hd σ H p⟩
theorem j9{lo:Int}{n:Nat}{g:TG}{tb:TS}{D:Ends}{σ:St}{H:Hp}(Pv:Nat→St→Hp→Prop)(h0:Pv 0 σ H)(hs:∀i σ H,i<n→Pv i σ H→g (.int (lo+i)) σ H fun σ2 H2=>tb {D with nx:=Pv (i+1),ct:=Pv (i+1),bk:=D.nx} σ2 H2)(hd:∀σ H,Pv n σ H→D.nx σ H):
  ∃W:Nat→Nat→St→Hp→Prop,(∃m,W 0 m σ H)∧∀i m σ H,W i m σ H→
   ((Itr lo n).stop i H∧D.nx σ H)∨((Itr lo n).go i H∧∃N:St→Hp→Prop,(∀σ' H',N σ' H'→∃m',m'<m∧W (i+1) m' σ' H')∧∀x H',(Itr lo n).yld i H x H'→g x σ H' fun σ2 H2=>tb {D with nx:=N,ct:=N,bk:=D.nx} σ2 H2):=by
 refine⟨fun i m σ H=>m=n-i∧i≤n∧Pv i σ H,⟨n,by simp,Nat.zero_le _,h0⟩,?_⟩;rintro i m σ H ⟨rfl,hi,p⟩;by_cases AA:i<n
 ·refine .inr ⟨AA,Pv (i+1),fun σ' H' p'=>⟨n-(i+1),by omega,rfl,AA,p'⟩,fun x H' y=>?_⟩;obtain⟨e,y⟩:=y;subst e y;exact hs i σ _ AA p
 ·have e:i=n:=by omega
  subst e;exact .inl ⟨xj _,hd σ H p⟩
theorem N7{c:TT}{tb:TS}{D:Ends}{σ:St}{H:Hp}(Pv:St→Hp→Prop)(μ:St→Hp→Nat)(h0:Pv σ H)(hs:∀σ H,Pv σ H→c σ H fun b H1=>if b=true then tb {D with nx:=fun σ' H'=>Pv σ' H'∧μ σ' H'<μ σ H,ct:=fun σ' H'=>Pv σ' H'∧μ σ' H'<μ σ H,bk:=D.nx} σ H1 else D.nx σ H1)(mono:∀σ H Q Q',(∀b H1,Q b H1→Q' b H1)→c σ H Q→c σ H Q'):nN c tb D σ H:=by
 refine⟨fun m σ H=>m=μ σ H∧Pv σ H,⟨_,rfl,h0⟩,?_⟩;rintro m σ H ⟨rfl,p⟩;refine mono σ H _ _ (fun b H1 q=>?_) (hs σ H p);cases b with
 |true=>exact⟨_,fun σ' H' ⟨p',l⟩=>⟨_,l,rfl,p'⟩,q⟩
 |false=>exact q
abbrev R2:=V→V→Hp→VK→Prop
def OpR(X:Cx)(f:Value→Value→Sem Value)(r:R2):Prop:=
 ∀(Av:List (Addr×Obj))(s:Shared)(σ:St)(H:Hp)(x y:V)(v u:Value)(Q:VK),Inv X Av σ H s→RelV x v→RelV y u→r x y H Q→
  wpAny (model X.prog X.w) X.A (f v u) (EP X Av σ Q) X.xe s
def UnR(X:Cx)(f:Value→Sem Value)(r:V→Hp→VK→Prop):Prop:=
 ∀(Av:List (Addr×Obj))(s:Shared)(σ:St)(H:Hp)(x:V)(v:Value)(Q:VK),Inv X Av σ H s→RelV x v→r x H Q→
  wpAny (model X.prog X.w) X.A (f v) (EP X Av σ Q) X.xe s
def aH(X:Cx)(f:Value)(r:List V→Hp→VK→Prop):Prop:=
 ∀(Av:List (Addr×Obj))(s:Shared)(σ:St)(H:Hp)(xs:List V)(us:List Value)(Q:VK),Inv X Av σ H s→Vals xs us→r xs H Q→
  wpAny (model X.prog X.w) X.A (call f us) (EP X Av σ Q) X.xe s
def tOp(r:R2)(ta tb:TE):TE:=fun σ H Q=>ta σ H fun x H1=>tb σ H1 fun y H2=>r x y H2 Q
def tUn(r:V→Hp→VK→Prop)(ta:TE):TE:=fun σ H Q=>ta σ H fun x H1=>r x H1 Q
def rI(C:Int→Int→Prop)(g:Int→Int→V):R2:=fun x y H Q=>∃i j,x=.int i∧y=.int j∧C i j∧Q (g i j) H
def rI0(g:Int→Int→V):R2:=fun x y H Q=>∃i j,x=.int i∧y=.int j∧Q (g i j) H
def rU(g:Int→V):V→Hp→VK→Prop:=fun x H Q=>∃i,x=.int i∧Q (g i) H
section
variable{X:Cx}{a b c:Expr}{ta tb tc:TE}{pos:Pos}
theorem sZ(ha:PE X a ta)(hb:PE X b tb){Av:List (Addr×Obj)}{s:Shared}{σ:St}{H:Hp}{R:V→V→Hp→Prop}(I:Inv X Av σ H s)(h:ta σ H fun x H1=>tb σ H1 fun y H2=>R x y H2){Q:Value→Shared→Prop}{f:Value→Value→Sem Value}(hf:∀v u s2 x y H2,Inv X Av σ H2 s2→RelV x v→RelV y u→R x y H2→wpAny (model X.prog X.w) X.A (f v u) Q X.xe s2):
  wpAny (model X.prog X.w) X.A (eval a X.env) (fun v s₁=>wpAny (model X.prog X.w) X.A (eval b X.env) (fun u s₂=>wpAny (model X.prog X.w) X.A (f v u) Q X.xe s₂) X.xe s₁) X.xe s:=by
 refine thn (ha Av s σ H _ I h) fun v s1 Aw=>?_;obtain⟨x,H1,I1,r1,q1⟩:=Aw;refine thn (hb Av s1 σ H1 _ I1 q1) fun u s2 Aw=>?_;obtain⟨y,H2,I2,r2,q2⟩:=Aw;exact hf v u s2 x y H2 I2 r1 r2 q2
theorem Zc{op:Operator}{r:R2}(ho:OpR X (binaryOp op) r)(ha:PE X a ta)(hb:PE X b tb):PE X (.BinOp a op b pos) (tOp r ta tb):=by
 intro Av s σ H Q I h;exact wpAny_BinOp (sZ ha hb I h fun v u s2 x y H2 I2 rx ry q=>ho Av s2 σ H2 x y v u Q I2 rx ry q)
theorem rA{op:UnaryOp}{r:V→Hp→VK→Prop}(ho:UnR X (unaryOp op) r)(ha:PE X a ta):PE X (.UnaryOp op a pos) (tUn r ta):=by
 intro Av s σ H Q I h;exact UnaryOp_ (thn (ha Av s σ H _ I h) fun v s1 ⟨x,H1,I1,r1,q1⟩=>ho Av s1 σ H1 x v Q I1 r1 q1)
theorem opI{f:Value→Value→Sem Value}{C:Int→Int→Prop}{g:Int→Int→Int}(rule:∀(i j:Int) (t u:Tok) (s:Shared) (Q:Value→Shared→Prop) (E:Value→Shared→Prop),C i j→Q (.int (g i j) s.toks) {s with toks:=s.toks+1}→wpAny (model X.prog X.w) X.A (f (.int i t) (.int j u)) Q E s):
  OpR X f (rI C fun i j=>.int (g i j)):=by
 intro Av s σ H x y v u Q I rx ry h;obtain⟨i,j,rfl,rfl,hc,q⟩:=h;obtain⟨t,rfl⟩:=rx;obtain⟨t',rfl⟩:=ry;exact rule i j t t' s _ _ hc ⟨.int (g i j),H,I.tok _,⟨_,rfl⟩,q⟩
theorem vF{f:Value→Value→Sem Value}{g:Int→Int→Int}(rule:∀(i j:Int) (t u:Tok) (s:Shared) (Q:Value→Shared→Prop) (E:Value→Shared→Prop),Q (.int (g i j) s.toks) {s with toks:=s.toks+1}→wpAny (model X.prog X.w) X.A (f (.int i t) (.int j u)) Q E s):
  OpR X f (rI0 fun i j=>.int (g i j)):=by
 intro Av s σ H x y v u Q I rx ry h;obtain⟨i,j,rfl,rfl,q⟩:=h;obtain⟨t,rfl⟩:=rx;obtain⟨t',rfl⟩:=ry;exact rule i j t t' s _ _ ⟨.int (g i j),H,I.tok _,⟨_,rfl⟩,q⟩
theorem pP{f:Value→Value→Sem Value}{g:Int→Int→Bool}(rule:∀(i j:Int) (t u:Tok) (s:Shared) (Q:Value→Shared→Prop) (E:Value→Shared→Prop),Q (.bool (g i j)) s→wpAny (model X.prog X.w) X.A (f (.int i t) (.int j u)) Q E s):
  OpR X f (rI0 fun i j=>.bl (g i j)):=by
 intro Av s σ H x y v u Q I rx ry h;obtain⟨i,j,rfl,rfl,q⟩:=h;obtain⟨t,rfl⟩:=rx;obtain⟨t',rfl⟩:=ry;exact rule i j t t' s _ _ ⟨.bl (g i j),H,I,rfl,q⟩
def xf(i j:Int):Prop:=0<j∧j<1073741824
def sI(i j:Int):Prop:=0≤j∧j≤1000000∧i.natAbs<2^64
def CMul(i j:Int):Prop:=(-(2^64)<i∧i<2^64)∨(-(2^64)<j∧j<2^64)
theorem CMul.ok{i j:Int}(h:CMul i j):IntMulOk i j:=by
 rcases h with⟨h1,h2⟩|⟨h1,h2⟩
 ·exact .of_left (intBits_le_64 h1 h2)
 ·exact .of_right (intBits_le_64 h1 h2)
theorem Zs:OpR X (binaryOp .Add) (rI0 fun i j=>.int (i+j)):=vF fun _ _ _ _ _ _ _ q=>add_int q
theorem Xm:OpR X (binaryOp .Sub) (rI0 fun i j=>.int (i-j)):=vF fun _ _ _ _ _ _ _ q=>sub_int q
theorem Xc:OpR X (binaryOp .Mult) (rI CMul fun i j=>.int (i*j)):=opI fun _ _ _ _ _ _ _ hc q=>mul_int q hc.ok
theorem Xr:OpR X (binaryOp .FloorDiv) (rI xf fun i j=>.int (i / j)):=opI fun i j _ _ _ _ _ hc q=>by
 have h1:(0:Int)<j:=hc.1;have h2:j<1073741824:=hc.2;exact floordiv_int (by omega) (by rw[Int.fdiv_eq_ediv_of_nonneg i (by omega)];exact q) (.inl (PyProof.noPylong_small (by omega)))
theorem Xn:OpR X (binaryOp .Mod) (rI (fun _ j=>0<j) fun i j=>.int (i % j)):=opI fun i j _ _ _ _ _ hc q=>by
 have h1:(0:Int)<j:=hc;exact mod_int' (by omega) (by rw[Int.fmod_eq_emod_of_nonneg i (by omega)];exact q)
theorem Vs:OpR X (binaryOp .Pow) (rI sI fun i j=>.int (i^j.toNat)):=opI fun _ _ _ _ _ _ _ hc q=>pow_int_small hc.1 hc.2.1 hc.2.2 q
theorem S0:OpR X (binaryOp .LShift) (rI sI fun i j=>.int (i*2^j.toNat)):=opI fun _ _ _ _ _ _ _ hc q=>lshift_int_small hc.1 hc.2.1 hc.2.2 q
theorem unI{f:Value→Sem Value}{g:Int→Int}(rule:∀(i:Int) (t:Tok) (s:Shared) (Q:Value→Shared→Prop) (E:Value→Shared→Prop),Q (.int (g i) s.toks) {s with toks:=s.toks+1}→wpAny (model X.prog X.w) X.A (f (.int i t)) Q E s):
  UnR X f (rU fun i=>.int (g i)):=by
 intro Av s σ H x v Q I rx h;obtain⟨i,rfl,q⟩:=h;obtain⟨t,rfl⟩:=rx;exact rule i t s _ _ ⟨.int (g i),H,I.tok _,⟨_,rfl⟩,q⟩
theorem m5:UnR X (unaryOp .USub) (rU fun i=>.int (-i)):=unI fun _ _ _ _ _ q=>neg_int q
end
def ve:V→V→Bool
 |.non,.non=>true | .non,.int _=>true | .int _,.non=>true | .non,.bl _=>true | .bl _,.non=>true | .non,.str _=>true | .str _,.non=>true
 |.int _,.int _=>true | .bl _,.bl _=>true | .str _,.str _=>true | .byt _,.byt _=>true
 |.int _,.str _=>true | .str _,.int _=>true | .bl _,.str _=>true | .str _,.bl _=>true
 |_,_=>false
def rEq:R2:=fun x y H Q=>ve x y=true∧Q (.bl (decide (x=y))) H
def rNe:R2:=fun x y H Q=>ve x y=true∧Q (.bl (!decide (x=y))) H
theorem i4{i j:Int}:decide (V.int i=V.int j)=(i==j):=by
 rw[yE];simp
theorem oo{i j:Bool}:decide (V.bl i=V.bl j)=(i==j):=by
 rw[yE];simp
theorem iG{i j:Str}:decide (V.str i=V.str j)=(i==j):=by
 rw[yE];simp
theorem jc{i j:Array UInt8}:decide (V.byt i=V.byt j)=(i.toList==j.toList):=by
 rw[yE];cases i;cases j;simp
section
variable{X:Cx}{a b c:Expr}{ta tb tc:TE}{pos:Pos}
theorem Zt{Av:List (Addr×Obj)}{σ:St}{H:Hp}{s:Shared}{Q:VK}{k k':Bool}(I:Inv X Av σ H s)(q:Q (.bl k) H)(e:k=k'):EP X Av σ Q (.bool k') s:=by
 subst e;exact⟨.bl k,H,I,rfl,q⟩
theorem Ul:OpR X (compareOp .Eq) rEq:=by
 intro Av s σ H x y v u Q I rx ry h;obtain⟨hs,q⟩:=h;cases x with
 |non=>
  cases rx;cases y with
  |non=>cases ry;exact PySem.EqNone.eq_none_none (Zt I q (by simp))
  |bl j=>cases ry;exact PySem.EqNone.eq_none_bool (Zt I q (by simp))
  |int j=>obtain⟨t',rfl⟩:=ry;exact PySem.EqNone.eq_none_int (Zt I q (by simp))
  |str j=>obtain⟨t',rfl⟩:=ry;exact PySem.EqNone.eq_none_str (Zt I q (by simp))
  |_=>exact absurd (show false=true from hs) xw
 |bl i=>
  cases rx;cases y with
  |non=>cases ry;exact PySem.EqNone.eq_bool_none (Zt I q (by simp))
  |bl j=>cases ry;exact eq_bool (Zt I q oo)
  |str j=>obtain⟨t',rfl⟩:=ry;exact PySem.EqMixed.eq_bool_str (Zt I q (by simp))
  |_=>exact absurd (show false=true from hs) xw
 |int i=>
  obtain⟨t,rfl⟩:=rx;cases y with
  |non=>cases ry;exact PySem.EqNone.eq_int_none (Zt I q (by simp))
  |int j=>obtain⟨t',rfl⟩:=ry;exact eq_int (Zt I q i4)
  |str j=>obtain⟨t',rfl⟩:=ry;exact PySem.EqMixed.eq_int_str (Zt I q (by simp))
  |_=>exact absurd (show false=true from hs) xw
 |str i=>
  obtain⟨t,rfl⟩:=rx;cases y with
  |non=>cases ry;exact PySem.EqNone.eq_str_none (Zt I q (by simp))
  |bl j=>cases ry;exact PySem.EqMixed.eq_str_bool (Zt I q (by simp))
  |int j=>obtain⟨t',rfl⟩:=ry;exact PySem.EqMixed.eq_str_int (Zt I q (by simp))
  |str j=>obtain⟨t',rfl⟩:=ry;exact eq_str (Zt I q iG)
  |_=>exact absurd (show false=true from hs) xw
 |byt i=>
  obtain⟨t,rfl⟩:=rx;cases y with
  |byt j=>obtain⟨t',rfl⟩:=ry;exact W.eq_bytes (Zt I q jc)
  |_=>exact absurd (show false=true from hs) xw
 |_=>cases y <;> exact absurd (show false=true from hs) xw
theorem Sf:OpR X (compareOp .NotEq) rNe:=by
 intro Av s σ H x y v u Q I rx ry h;obtain⟨hs,q⟩:=h;cases x with
 |non=>
  cases rx;cases y with
  |non=>cases ry;exact PySem.EqNone.ne_none_none (Zt I q (by simp))
  |bl j=>cases ry;exact PySem.EqNone.ne_none_bool (Zt I q (by simp))
  |int j=>obtain⟨t',rfl⟩:=ry;exact PySem.EqNone.ne_none_int (Zt I q (by simp))
  |str j=>obtain⟨t',rfl⟩:=ry;exact PySem.EqNone.ne_none_str (Zt I q (by simp))
  |_=>exact absurd (show false=true from hs) xw
 |bl i=>
  cases rx;cases y with
  |non=>cases ry;exact PySem.EqNone.ne_bool_none (Zt I q (by simp))
  |bl j=>cases ry;exact ne_bool (Zt I q (zG not oo))
  |str j=>obtain⟨t',rfl⟩:=ry;exact PySem.EqMixed.ne_bool_str (Zt I q (by simp))
  |_=>exact absurd (show false=true from hs) xw
 |int i=>
  obtain⟨t,rfl⟩:=rx;cases y with
  |non=>cases ry;exact PySem.EqNone.ne_int_none (Zt I q (by simp))
  |int j=>obtain⟨t',rfl⟩:=ry;exact ne_int (Zt I q (zG not i4))
  |str j=>obtain⟨t',rfl⟩:=ry;exact PySem.EqMixed.ne_int_str (Zt I q (by simp))
  |_=>exact absurd (show false=true from hs) xw
 |str i=>
  obtain⟨t,rfl⟩:=rx;cases y with
  |non=>cases ry;exact PySem.EqNone.ne_str_none (Zt I q (by simp))
  |bl j=>cases ry;exact PySem.EqMixed.ne_str_bool (Zt I q (by simp))
  |int j=>obtain⟨t',rfl⟩:=ry;exact PySem.EqMixed.ne_str_int (Zt I q (by simp))
  |str j=>obtain⟨t',rfl⟩:=ry;exact ne_str (Zt I q (zG not iG))
  |_=>exact absurd (show false=true from hs) xw
 |byt i=>
  obtain⟨t,rfl⟩:=rx;cases y with
  |byt j=>obtain⟨t',rfl⟩:=ry;exact W.ne_bytes (Zt I q (zG not jc))
  |_=>exact absurd (show false=true from hs) xw
 |_=>cases y <;> exact absurd (show false=true from hs) xw
theorem im:OpR X (compareOp .Lt) (rI0 fun i j=>.bl (decide (i<j))):=pP fun _ _ _ _ _ _ _ q=>lt_int q
theorem P7:OpR X (compareOp .LtE) (rI0 fun i j=>.bl (decide (i≤j))):=pP fun _ _ _ _ _ _ _ q=>le_int q
theorem Rp:OpR X (compareOp .Gt) (rI0 fun i j=>.bl (decide (j<i))):=pP fun _ _ _ _ _ _ _ q=>gt_int q
theorem rD:OpR X (compareOp .GtE) (rI0 fun i j=>.bl (decide (j≤i))):=pP fun _ _ _ _ _ _ _ q=>ge_int q
theorem tQ:OpR X (compareOp .Is) (fun x y H Q=>y=.non∧Q (.bl (decide (x=.non))) H):=by
 intro Av s σ H x y v u Q I rx ry h;obtain⟨rfl,q⟩:=h;cases ry;refine is_none_gen (Zt I q ?_);cases x <;> first
  | (cases rx;rfl)
  | (obtain⟨t,rfl⟩:=rx;rfl)
theorem Zl(b:Expr){op:CmpOp}(h:op≠.In:=by decide)(h2:op≠.NotIn:=by decide):behindInMarks op b=false:=by
 have e1:(op==CmpOp.In)=false:=by cases op <;> first | rfl | exact absurd rfl h
 have e2:(op==CmpOp.NotIn)=false:=by cases op <;> first | rfl | exact absurd rfl h2
 cases b <;> simp[behindInMarks,e1,e2]
theorem Xq{op:CmpOp}{r:R2}(ho:OpR X (compareOp op) r)(ha:PE X a ta)(hb:PE X b tb)(hm:behindInMarks op b=false):PE X (.Compare a [op] [b] pos) (tOp r ta tb):=by
 intro Av s σ H Q I h;exact wpAny_Compare1 (sZ ha hb I h fun v u s2 x y H2 I2 rx ry q=>ho Av s2 σ H2 x y v u Q I2 rx ry q) hm
def wG(t:TE):TT:=fun σ H Q=>t σ H fun x H'=>∃k,x=.bl k∧Q k H'
theorem Zo{op:CmpOp}{r:R2}(ho:OpR X (compareOp op) r)(ha:PE X a ta)(hb:PE X b tb)(hm:behindInMarks op b=false):PT X (.Compare a [op] [b] pos) (wG (tOp r ta tb)):=by
 intro Av s σ H Q I h;refine wpAny_isTrue_Compare1 (thn (ha Av s σ H _ I h) fun v s1 ⟨x,H1,I1,r1,q1⟩=>thn (hb Av s1 σ H1 _ I1 q1) fun u s2 ⟨y,H2,I2,r2,q2⟩=>
  thn (ho Av s2 σ H2 x y v u _ I2 r1 r2 q2) fun c s3 ⟨z,H3,I3,r3,k,e,q3⟩=>?_) hm
 subst e;cases r3;exact yN ⟨H3,I3,q3⟩
def sr(r r':R2)(ta tb tc:TE):TE:=fun σ H Q=>ta σ H fun x H1=>tb σ H1 fun y H2=>r x y H2 fun z H3=>∃k,z=.bl k∧
 (if k=true then tc σ H3 fun w' H4=>r' y w' H4 Q else Q (.bl false) H3)
theorem oy{op op':CmpOp}{r r':R2}(ho:OpR X (compareOp op) r)(ho':OpR X (compareOp op') r')(ha:PE X a ta)(hb:PE X b tb)(hc:PE X c tc)(hm:lastMarks [op,op'] [b,c]=false:=by with_unfolding_all rfl):PE X (.Compare a [op,op'] [b,c] pos) (sr r r' ta tb tc):=by
 intro Av s σ H Q I h;refine Compare_chain (thn (ha Av s σ H _ I h) fun v s1 ⟨x,H1,I1,r1,q1⟩=>chain_link (thn (hb Av s1 σ H1 _ I1 q1) fun u s2 ⟨y,H2,I2,r2,q2⟩=>
  thn (ho Av s2 σ H2 x y v u _ I2 r1 r2 q2) fun d s3 ⟨z,H3,I3,r3,k,e,q3⟩=>?_)) hm
 subst e;cases r3;refine yN ?_;cases k with
 |false=>exact ite_ff ⟨.bl false,H3,I3,rfl,q3⟩
 |true=>exact ite_tt (chain_last (thn (hc Av s3 σ H3 _ I3 q3) fun w' s4 ⟨z',H4,I4,r4,q4⟩=>ho' Av s4 σ H4 y z' u w' Q I4 r2 r4 q4))
theorem Om:(sizeLine:Nat)<2^63:=by rw[sizeLine_eq];decide
theorem X6{x:V}{us:List Value}(r:Vals [x] us):∃u,us=[u]∧RelV x u:=by
 cases r with
 |cons r1 r2=>cases r2;exact⟨_,rfl,r1⟩
theorem iI{x y:V}{us:List Value}(r:Vals [x,y] us):∃u w',us=[u,w']∧RelV x u∧RelV y w':=by
 cases r with
 |cons r1 r2=>
  cases r2 with
  |cons r3 r4=>cases r4;exact⟨_,_,rfl,r1,r3⟩
theorem j_(hc:X.calm=true):aH X (.builtin "min") (fun xs H Q=>∃i j,xs=[.int i,.int j]∧Q (.int (if j<i then j else i)) H):=by
 intro Av s σ H xs us Q I r h;obtain⟨i,j,rfl,q⟩:=h;obtain⟨u,w',rfl,⟨t,rfl⟩,⟨t',rfl⟩⟩:=iI r;refine min_two_ints (I.ok.hd hc) fun h' tk k=>⟨_,H,I.kept k,?_,q⟩;by_cases hj:j<i
 ·rw[xp hj,xp hj];exact⟨_,rfl⟩
 ·rw[xm hj,xm hj];exact⟨_,rfl⟩
theorem jS:aH X (.type "int") (fun xs H Q=>(∃i,xs=[.int i]∧Q (.int i) H)∨∃k,xs=[.bl k]∧Q (.int (if k then 1 else 0)) H):=by
 intro Av s σ H xs us Q I r h
 rcases h with⟨i,rfl,q⟩|⟨k,rfl,q⟩
 ·obtain⟨u,rfl,t,rfl⟩:=X6 r;exact call_int_int ⟨.int i,H,I,⟨_,rfl⟩,q⟩
 ·obtain⟨u,rfl,r1⟩:=X6 r;cases r1;exact call_int_bool ⟨.int (if k then 1 else 0),H,I.tok _,⟨_,rfl⟩,q⟩
end
structure ObjM(h:Heap)(x dx C:Addr)(mA:Str→Option Value):Prop where
 obj:h.get? x=some (W.instObj C dx)
 ns:h.Ns1 dx mA
 ne:dx≠x
theorem j7{h:Heap}{dx:Addr}{mA:Str→Option Value}(n:h.Ns1 dx mA):∃od,h.get? dx=some od∧∀name,W.lookIn name od=some (mA name):=by
 obtain⟨o,es,ep,ho,hd,hk,_,hm⟩:=n;refine⟨o,ho,fun name=>?_⟩;have e:=hm name;unfold nsFind findBy at e;rw[←Array.find?_toList]at e;unfold W.lookIn;rw[hd];dsimp only
 split
 ·rename_i y q;rw[q]at e;exact zG some e
 ·rename_i q;rw[q]at e;have a:es.toList.any (·.refKey)=false:=by
   rw[List.any_eq_false];intro y hy;obtain⟨z,t,hkey⟩:=hk y (Array.mem_toList_iff.mp hy);simp[DictEntry.refKey,hkey]
  have a':¬es.toList.any (·.refKey)=true:=by rw[a];exact xw
  rw[xm a'];exact zG some e
theorem ObjM.look{h:Heap}{x dx C:Addr}{mA:Str→Option Value}(I:ObjM h x dx C mA):∃od,W.InstAt h x (W.instObj C dx) C (some od)∧∀name,W.lookIn name od=some (mA name):=
 let ⟨od,ho,hl⟩:=j7 I.ns
 ⟨od,⟨I.obj,rfl,rfl,ho⟩,hl⟩
section
variable{prog:Program}{w:World}{A:Around}{E:Value→Shared→Prop}{s:Shared}{K:W.Frag}{x dx C f:Addr}{mA:Str→Option Value}{name:Str}{v:Value}
end
theorem RelO.some_of{v:V}{o:Option Value}(r:RelO (some v) o):∃u,o=some u∧RelV v u:=by
 cases o with
 |none=>exact(show False from r).elim
 |some u=>exact⟨u,rfl,r⟩
section
variable{P:Program}{w:World}{H H':Hp}{h h':Heap}{a C dx:Addr}{fs fs':List (Str×V)}
theorem p8(hok:HOk P w H h)(e:H a=some (.ins C dx fs)):∃mA,ObjM h a dx C mA∧(∀f,RelO (fs.lookup f) (mA f))∧PySem.Within mA (fs.map (·.1))∧fs.length≤1000∧H dx=some (.own a):=by
 obtain⟨d,z,ne,ob,mA,n,r,q⟩:=(show ObjOk P w H h a (.ins C dx fs)from hok a _ e);exact⟨mA,⟨ob,n,ne⟩,r,q,z,d⟩
end
structure Cls(K:W.Frag)(C:Addr):Prop where
 pg:W.plainGet K C Str.empty=true
 hd:W.hasDictIn K C=true
 po:W.plainOver K C=true
 sa:W.findIn K (.ref C) "__setattr__"=some (some (.builtin "object.__setattr__"))
theorem Cls.get{K:W.Frag}{C:Addr}(c:Cls K C)(f:Str):W.plainGet K C f=true:=c.pg
section
variable{X:Cx}{Av:List (Addr×Obj)}{σ:St}{H:Hp}{s:Shared}{a C dx:Addr}{fs:List (Str×V)}{f:Str}{v:V}{A:Around}{E:Value→Shared→Prop}
end
section
variable{X:Cx}{o e value:Expr}{f:Str}{pos pos' tpos:Pos}{ta tv:TE}
end
section
variable{X:Cx}{Av:List (Addr×Obj)}{σ:St}{H:Hp}{s:Shared}{A:Around}{E:Value→Shared→Prop}{Q:Value→Shared→Prop}{c:Value}{b:Bool}
inductive TyOf(K:W.Frag)(H:Hp):V→Value→Prop where
 |non:TyOf K H .non (.type "NoneType")
 |bl (x:Bool):TyOf K H (.bl x) (.type "bool")
 |int (i:Int):TyOf K H (.int i) (.type "int")
 |str (x:Str):TyOf K H (.str x) (.type "str")
 |flt (x:UInt64):TyOf K H (.flt x) (.type "float")
 |lst {a:Addr} {xs:List V} (e:H a=some (.lst xs)):TyOf K H (.ref a) (.type "list")
 |frz {a:Addr} {o:Obj} {xs:List V} (e:H a=some (.frz o (.lst xs))):TyOf K H (.ref a) (.type "list")
 |tup {a:Addr} {xs:List V} (e:H a=some (.tup xs)):TyOf K H (.ref a) (.type "tuple")
 |dK {a:Addr} {kvs:List (Key×V)} (e:H a=some (.dK kvs)):TyOf K H (.ref a) (.type "dict")
 |dT {a:Addr} {kvs:List (List Key×V)} (e:H a=some (.dT kvs)):TyOf K H (.ref a) (.type "dict")
 |ins {a C dx:Addr} {fs:List (Str×V)} (e:H a=some (.ins C dx fs)) (cl:Cls K C) (ha:W.findIn K (.ref C) "__class__"=some (some (.builtin "object.__class__")))
   (hn:W.specialIn K (.builtin "object.__class__") "__get__"=some (some (.builtin "getset_descriptor.__get__"))) (htk:W.takesIn K (.builtin "object.__class__")=some true)
   (hm:W.mroIn K C (.type "object")=some true):TyOf K H (.ref a) (.ref C)
theorem jE{x:V}{u t:Value}(I:Inv X Av σ H s)(rx:RelV x u)(ty:TyOf X.K H x t)(e:W.kitOne X.K t c=some b)(h:∀tk,Q (.bool b) {s with toks:=tk}):
  wpAny (model X.prog X.w) A (call (.builtin "isinstance") [u,c]) Q E s:=by
 cases ty with
 |non=>cases (show u=Value.none from rx);exact Ag W.kitx_none I.kIn True.intro e (fun z=>nomatch z) h
 |bl y=>cases (show u=Value.bool y from rx);exact Ag W.kitx_bool I.kIn True.intro e (fun z=>nomatch z) h
 |int i=>obtain⟨t,q⟩:=(show ∃t,u=Value.int i t from rx);cases q;exact Ag W.kitx_int I.kIn True.intro e (fun z=>nomatch z) h
 |str y=>obtain⟨t,q⟩:=(show ∃t,u=Value.str y t from rx);cases q;exact Ag W.kitx_str I.kIn True.intro e (fun z=>nomatch z) h
 |flt y=>obtain⟨t,q⟩:=(show ∃t,u=Value.float y t from rx);cases q;exact Ag W.kitx_float I.kIn True.intro e (fun z=>nomatch z) h
 | @lst a xs ea=>
  cases (show u=Value.ref a from rx);obtain⟨_,_,n,_,h1⟩:=(show ObjOk X.prog X.w H s.heap a (.lst xs)from I.hok a _ ea);exact Ag W.kitx_list I.kIn ⟨_,h1,rfl⟩ e (fun z=>nomatch z) h
 | @frz a ob xs ea=>
  cases (show u=Value.ref a from rx);obtain⟨_,_,_,n,_,h1⟩:=(show ObjOk X.prog X.w H s.heap a (.frz ob (.lst xs))from I.hok a _ ea);exact Ag W.kitx_list I.kIn ⟨_,h1,rfl⟩ e (fun z=>nomatch z) h
 | @tup a xs ea=>
  cases (show u=Value.ref a from rx);obtain⟨_,_,_,p⟩:=(show ObjOk X.prog X.w H s.heap a (.tup xs)from I.hok a _ ea);obtain⟨o,h1,h2,_⟩:=p;exact Ag W.kitx_tuple I.kIn ⟨o,h1,h2.1⟩ e (fun z=>nomatch z) h
 | @dK a kvs ea=>
  cases (show u=Value.ref a from rx);obtain⟨_,_,vs,_,p⟩:=(show ObjOk X.prog X.w H s.heap a (.dK kvs)from I.hok a _ ea);obtain⟨o,es,ep,h1,h2,_⟩:=p;exact Ag W.kitx_dict I.kIn ⟨o,h1,h2.1⟩ e (fun z=>nomatch z) h
 | @dT a kvs ea=>
  cases (show u=Value.ref a from rx);obtain⟨_,_,xs,_,o,es,ep,h1,h2,_⟩:=(show ObjOk X.prog X.w H s.heap a (.dT kvs)from I.hok a _ ea);exact Ag W.kitx_dict I.kIn ⟨o,h1,h2.1⟩ e (fun z=>nomatch z) h
 | @ins a C dx fs ea cl ha hn htk hm=>
  cases (show u=Value.ref a from rx);obtain⟨mA,O,_⟩:=p8 I.hok ea;obtain⟨od,J,_⟩:=O.look;exact Ag (W.kitx_own (cl.get _) cl.hd ha hn htk hm) I.kIn J e (fun z=>nomatch z) h
end
structure Room(k:Nat)(A:Around):Prop where
 hd:A.handled=none
 dp:A.depth+3*k+5<recursionLimit
 un:A.units+16*k+200<cLine
 gd:A.guards=some []
theorem Room.mono{j k:Nat}{A:Around}(r:Room k A)(h:j≤k):Room j A:=⟨r.hd,by have:=r.dp;omega,by have:=r.un;omega,r.gd⟩
theorem Room.deeper{k:Nat}{A:Around}(r:Room (k+1) A)(env:Env):Room k (A.deeper env):=
 ⟨r.hd,by have:=r.dp;show A.depth+1+3*k+5<_;omega,by have:=r.un;show A.units+3+16*k+200<_;omega,r.gd⟩
theorem Room.depth{k:Nat}{A:Around}(r:Room k A):A.depth<recursionLimit:=by have:=r.dp;omega
theorem Room.units{k:Nat}{A:Around}(r:Room k A):A.units+64<cLine:=by have:=r.un;omega
def tNil:TA:=fun _ H Q=>Q [] H
def wv(ta:TE)(tr:TA):TA:=fun σ H Q=>ta σ H fun x H1=>tr σ H1 fun xs H2=>Q (x::xs) H2
section
variable{X:Cx}{e:Expr}{es:List Expr}{te:TE}{t:TA}{pos:Pos}
theorem Z1:PA X [] tNil:=fun _ _ _ _ H Q I h=>Calls.spliced_nil ⟨[],H,I,.nil,h⟩
theorem Z0(ha:PE X e te)(hr:PA X es t)(hs:starEach (e::es) X.env=(false,eval e X.env)::starEach es X.env:=by rfl):PA X (e::es) (wv te t):=by
 intro pos Av s σ H Q I h;rw[hs];show wpAny _ _ (spliced ((false,eval e X.env)::backTo pos (starEach es X.env))) _ _ s;refine Calls.spliced_cons (thn (ha Av s σ H _ I h) fun u s1 Aw=>?_);obtain⟨x,H1,I1,r1,q1⟩:=Aw;exact thn (hr pos Av s1 σ H1 _ I1 q1) fun us s2 ⟨xs,H2,I2,r2,q2⟩=>⟨x::xs,H2,I2,.cons r1 r2,q2⟩
def tTup(t:TA):TE:=fun σ H Q=>t σ H fun xs H1=>xs.length≤sizeLine∧∀p,H1 p=none→Q (.ref p) (upd H1 p (.tup xs))
def tLst(t:TA):TE:=fun σ H Q=>t σ H fun xs H1=>xs.length≤sizeLine∧∀p,H1 p=none→Q (.ref p) (upd H1 p (.lst xs))
theorem Zp{x1}(h:PA X es t):PE X (.Tuple es x1 pos) (tTup t):=by
 intro Av s σ H Q I hq;refine wpAny_Tuple_spliced (thn (h pos Av s σ H _ I hq) fun us s1 ⟨xs,H1,I1,r,z,q⟩=>⟨by rw[←r.length];exact z,?_⟩);have hf:H1 s1.heap.objs.size=none:=I1.hok.fresh (xj _);refine⟨.ref s1.heap.objs.size,upd H1 s1.heap.objs.size (.tup xs),I1.laid (t':=s1.toks) (fun b u e=>xi _ e) (xj _) ?_,rfl,q _ hf⟩;exact⟨z,us,r,TupN.new _ _⟩
theorem Zv(h:PA X es t):PE X (.List es pos) (tLst t):=by
 intro Av s σ H Q I hq;refine wpAny_List_spliced (thn (h pos Av s σ H _ I hq) fun us s1 ⟨xs,H1,I1,r,z,q⟩=>⟨by rw[←r.length];exact z,?_⟩);have hf:H1 s1.heap.objs.size=none:=I1.hok.fresh (xj _);refine⟨.ref s1.heap.objs.size,upd H1 s1.heap.objs.size (.lst xs),I1.laid (t':=s1.toks) (fun b u e=>xi _ e) (xj _) ?_,rfl,q _ hf⟩;exact⟨z,us,0,r,xt _ rfl⟩
end
abbrev Sp:=List V→Hp→VK→XK→Prop
abbrev CXT:=List Env→Hp→Shared→XK→Value→Shared→Prop
structure Env0(P:Program)(w:World)(K:W.Frag)(mg:Str→Option Value)(base:Heap)(A:Around)(outer:List Env)(s:Shared)(H:Hp):Prop where
 frames:A.frames=some outer
 mod:Mod K mg base
 bs:∀b o,base.get? b=some o→s.heap.get? b=some o∧H b=none
 bsz:base.objs.size≤s.heap.objs.size
 funs:s.heap.FunFrames base outer
 frf:∀b∈frs outer,H b=none
 hok:HOk P w H s.heap
 bare:AllBare s.gens
def CE(outer:List Env)(P:Program)(w:World)(H:Hp)(s:Shared)(Q:VK)(u:Value)(s':Shared):Prop:=
 ∃v H',s'.os=s.os∧AllBare s'.gens∧Un (frs outer) [] H H' s.heap s'.heap∧HOk P w H' s'.heap∧RelV v u∧Q v H'
def CR(CX:CXT)(outer:List Env)(P:Program)(w:World)(H:Hp)(s:Shared)(Q:VK)(E:XK)(r:Result)(s':Shared):Prop:=
 match r with
 |.ok (.ret u)=>CE outer P w H s Q u s'
 |.ok _=>False
 |.error e=>CX outer H s E e s'
structure FnOk(P:Program)(w:World)(K:W.Frag)(mg:Str→Option Value)(base:Heap)(CX:CXT)(k:Nat)(f:Addr)(fd:FuncData)(ps:List Str)(sp:Sp):Prop where
 len:∀vs H Q E,sp vs H Q E→vs.length=ps.length
 run:∀(A:Around)(outer:List Env)(s:Shared)(H:Hp)(args:Args)(us:List Value)(vs:List V)(Q:VK)(E:XK),Room k A→Env0 P w K mg base A outer s H→BindsTo s fd args (ps.zip us)→Vals vs us→sp vs H Q E→
  codeAny (model P w) A (.call (.ref f) args) (CR CX outer P w H s Q E) s
theorem FnOk.mono{P:Program}{w:World}{K:W.Frag}{mg:Str→Option Value}{base:Heap}{CX:CXT}{j k:Nat}{f:Addr}{fd:FuncData}{ps:List Str}{sp:Sp}(F:FnOk P w K mg base CX j f fd ps sp)(h:j≤k):
  FnOk P w K mg base CX k f fd ps sp:=⟨F.len,fun A outer s H args us vs Q E hr=>F.run A outer s H args us vs Q E (hr.mono h)⟩
section
variable{X:Cx}{Av:List (Addr×Obj)}{σ:St}{H:Hp}{s s':Shared}
theorem Inv.env0(I:Inv X Av σ H s):Env0 X.prog X.w X.K X.mg X.base X.A X.stack s H:=
 ⟨I.ok.frames,I.ok.mod,I.bs,xZ I.ok.bsz I.sz,I.stack,I.stkFree,I.hok,I.bare⟩
theorem Inv.after{Q:VK}{u:Value}(I:Inv X Av σ H s)(h:CE X.stack X.prog X.w H s Q u s'):EP X Av σ Q u s':=by
 obtain⟨v,H',os,bare,un,hok,r,q⟩:=h;obtain⟨hh,g,d,t,os'⟩:=s';obtain rfl:os'=s.os:=os;exact⟨v,H',I.call (h':=hh) (g':=g) (d':=d) (t':=t) (ch:=[]) un hok bare (fun b z=>absurd z (by simp)),r,q⟩
end
def rE(sp:Sp)(dvs:List V)(E:XK)(t:TA):TE:=fun σ H Q=>t σ H fun vs H1=>sp (vs++dvs) H1 Q E
def Binds(K:W.Frag)(fd:FuncData)(ps:List Str)(ds:List Value):Prop:=
 ∀(s:Shared)(us:List Value),K.In s.heap→(us++ds).length=ps.length→BindsTo s fd ⟨us,[]⟩ (ps.zip (us++ds))
theorem Binds.all{K:W.Frag}{fd:FuncData}{ps:List Str}(h:∀us:List Value,us.length=ps.length→bindArgs fd ⟨us,[]⟩=pure (ps.zip us)):Binds K fd ps []:=fun s us _ hl=>by
 rw[yQ]at hl⊢;exact .of_eq (h us hl)
def gH(CX:CXT)(X:Cx)(E:XK):Prop:=∀(Av:List (Addr×Obj))(σ:St)(H:Hp)(s:Shared)(e:Value)(s':Shared),Inv X Av σ H s→CX X.stack H s E e s'→X.xe e s'
section
variable{X:Cx}{CX:CXT}{k:Nat}{f C:Addr}{fd:FuncData}{ps:List Str}{sp:Sp}{dvs:List V}{ds:List Value}{E:XK}{x m:Str}{p pos apos:Pos}{e o:Expr}{es:List Expr}{ta:TE}{t:TA}
theorem l4{Av:List (Addr×Obj)}{σ:St}{H:Hp}{s:Shared}{Q:VK}{us:List Value}{vs:List V}(F:FnOk X.prog X.w X.K X.mg X.base CX k f fd ps sp)(hr:Room k X.A)(hb:Binds X.K fd ps ds)(hd:Vals dvs ds)(hx:gH CX X E)(I:Inv X Av σ H s)(r:Vals vs us)(h:sp (vs++dvs) H Q E):wpAny (model X.prog X.w) X.A (call (.ref f) us) (EP X Av σ Q) X.xe s:=by
 have r2:Vals (vs++dvs) (us++ds):=r.append hd;have hl:(us++ds).length=ps.length:=by rw[←r2.length];exact F.len _ _ _ _ h
 refine wpAny_call (Aa (F.run X.A X.stack s H ⟨us,[]⟩ (us++ds) (vs++dvs) Q E hr I.env0 (hb s us I.kIn hl) r2 h) fun r s' hq=>?_);cases r with
 |error e=>exact hx Av σ H s e s' I hq
 |ok fl=>
  cases fl with
  |ret u=>exact I.after hq
  |next=>exact False.elim hq
  |brk=>exact False.elim hq
  |cont=>exact False.elim hq
theorem qr(F:FnOk X.prog X.w X.K X.mg X.base CX k f fd ps sp)(hr:Room k X.A)(hg:Gl X x)(hm:X.mg x=some (.ref f))(hk:W.keepIn X.K (.ref f)=true)(hb:Binds X.K fd ps ds)(hd:Vals dvs ds)(hx:gH CX X E)(ha:PA X (e::es) t)(hdb:(x==("__debug__":Str))=false:=by decide)(he:starEach (e::es) X.env=(false,eval e X.env)::starEach es X.env:=by rfl)(hpl:(backTo pos (starEach es X.env)).any (·.1)=false:=by rfl):
  PE X (.Call (.Name x p) (e::es) [] pos) (rE sp dvs E t):=by
 intro Av s σ H Q I h;refine Ab (Op I hg hm ?_ hdb);refine W.callWith_K (h₀:=X.base) I.ok.mod.kin hk (thn (ha pos Av s σ H _ I h) fun us s1 ⟨vs,H1,I1,r,q⟩=>⟨I1.kIn,?_⟩) he hpl;exact l4 F hr hb hd hx I1 r q
end
section
variable{X:Cx}{CX:CXT}{k:Nat}{f C:Addr}{fd:FuncData}{ps ks:List Str}{sp:Sp}{E:XK}{x m:Str}{p pos apos kpos:Pos}{e o:Expr}{es:List Expr}{kws:List Keyword}{te ta:TE}{t tk:TA}{nm:Option Str}
variable{g:List Value→List Value→List Value}{gV:List V→List V→List V}
end
structure FnScope(N P:List Str)(sc:Scope):Prop where
 kind:sc.kind=.function
 co:sc.isCoroutine=false
 gen:sc.isGenerator=false
 nd:N.Nodup
 pre:N.take P.length=P
 par:∀x∈P,sc.names.lookup x=some .local∨sc.names.lookup x=some .cell
 nofree:∀y∈sc.names,y.2≠.free
theorem Pq{kindOf:Str→Option NameKind}{x:Str}:∀{binds:List (Str×Value)}{m:Str→Option Value},(∀v,(x,v)∉binds)→bindL kindOf binds m x=m x
 | [],_,_=>rfl
 | (n,v)::r,m,h=>by
  unfold bindL;rw[Pq fun w hw=>h w (xV _ hw)]
  split
  ·have:x≠n:=by rintro rfl;exact h v xP
   simp[this]
  ·rfl
theorem Ps{kindOf:Str→Option NameKind}{x:Str}:∀{binds:List (Str×Value)}{m:Str→Option Value},(∀v,(x,v)∉binds)→bindC kindOf binds m x=m x
 | [],_,_=>rfl
 | (n,v)::r,m,h=>by
  unfold bindC;rw[Ps fun w hw=>h w (xV _ hw)]
  split
  ·rfl
  ·have:x≠n:=by rintro rfl;exact h v xP
   simp[this]
theorem Pr{kindOf:Str→Option NameKind}{x:Str}{v:Value}:∀{P:List Str}{vs:List Value}{i:Nat}{m:Str→Option Value},P.Nodup→P[i]?=some x→vs[i]?=some v→kindOf x=some .local→
  bindL kindOf (P.zip vs) m x=some v
 | [],_,_,_,_,h,_,_=>by simp at h
 |_::_,[],_,_,_,_,h,_=>by simp at h
 |p::P,w::vs,0,m,nd,h1,h2,hk=>by
  simp at h1 h2;subst h1;subst h2;show bindL kindOf ((p,w)::P.zip vs) m p=_;unfold bindL;rw[Pq fun v hv=>(xW.mp nd).1 (List.of_mem_zip hv).1,xp hk];simp
 |p::P,w::vs,i+1,m,nd,h1,h2,hk=>by
  show bindL kindOf ((p,w)::P.zip vs) m x=_;unfold bindL;exact Pr (i:=i) (List.nodup_cons.mp nd).2 (by simpa using h1) (by simpa using h2) hk
theorem Pt{kindOf:Str→Option NameKind}{x:Str}{v:Value}:∀{P:List Str}{vs:List Value}{i:Nat}{m:Str→Option Value},P.Nodup→P[i]?=some x→vs[i]?=some v→kindOf x≠some .local→
  bindC kindOf (P.zip vs) m x=some v
 | [],_,_,_,_,h,_,_=>by simp at h
 |_::_,[],_,_,_,_,h,_=>by simp at h
 |p::P,w::vs,0,m,nd,h1,h2,hk=>by
  simp at h1 h2;subst h1;subst h2;show bindC kindOf ((p,w)::P.zip vs) m p=_;unfold bindC;rw[Ps fun v hv=>(xW.mp nd).1 (List.of_mem_zip hv).1,xm hk];simp
 |p::P,w::vs,i+1,m,nd,h1,h2,hk=>by
  show bindC kindOf ((p,w)::P.zip vs) m x=_;unfold bindC;exact Pt (i:=i) (List.nodup_cons.mp nd).2 (by simpa using h1) (by simpa using h2) hk
def bX(N:List Str)(vs:List V):St:=vs.map some++List.replicate (N.length-vs.length) none
def kP(CX:CXT)(P:Program)(w:World)(K:W.Frag)(mg:Str→Option Value)(base:Heap)(N:List Str)(qual:Str)(scope:Scope)(f:Addr)(cd:Value)(A:Around)(outer:List Env)(s:Shared)(H:Hp)(E:XK):Cx where
 prog:=P
 w:=w
 K:=K
 mg:=mg
 base:=base
 A:=A.deeper (envOfC qual scope s.heap.objs.size f cd)
 N:=N
 s₀:=s
 H₀:=H
 env:=envOfC qual scope s.heap.objs.size f cd
 outer:=outer
 stack:=envOfC qual scope s.heap.objs.size f cd::outer
 ex:=[]
 calm:=true
 fn:=fun _=>true
 pn:=[]
 xe:=fun e s'=>wpAny (model P w) (A.deeper (envOfC qual scope s.heap.objs.size f cd)) (leaving (envOfC qual scope s.heap.objs.size f cd) e) (fun _ s''=>CX outer H s E e s'') (fun e' s''=>CX outer H s E e' s'') s'
theorem Qd{sc:Scope}{n:Nat}{x:Str}(h:sc.names.lookup x=some .cell):∃c,(cellsFrom n sc.names []).lookup x=some c:=by
 have q:=W.cellsFrom_some sc.names n [] (.inl h);exact Option.isSome_iff_exists.mp q
theorem kS{CX:CXT}{P:Program}{w:World}{K:W.Frag}{mg:Str→Option Value}{base:Heap}{N ps:List Str}{qual:Str}{scope:Scope}{f:Addr}{cd:Value}{A:Around}{outer:List Env}{s s1:Shared}{H:Hp}{E:XK}{us:List Value}{vs:List V}(S:FnScope N ps scope)(hd:A.handled=none)(e0:Env0 P w K mg base A outer s H)(hl:vs.length=ps.length)(r:Vals vs us)(x:InCallC s s.heap.objs.size (bindL (envOfC qual scope s.heap.objs.size f cd).kindOf (ps.zip us) fun _=>none) (cellsFrom (s.heap.objs.size+1) scope.names []) (bindC (envOfC qual scope s.heap.objs.size f cd).kindOf (ps.zip us) fun _=>none) s1):
  Inv (kP CX P w K mg base N qual scope f cd A outer s H E) [] (bX N vs) H s1:=by
 have hpl:ps.length≤N.length:=by have:=zG List.length S.pre;rw[yn]at this;omega
 obtain⟨h1,tk,rfl,hk⟩:=x.done;have noA:∀b:Addr,b∉(kP CX P w K mg base N qual scope f cd A outer s H E).ex:=fun b z=>absurd (show b∈([]:List Addr)from z) (by simp);refine⟨⟨e0.mod,S.kind,rfl,rfl,xj _,fun y z c h1 h2=>?_,fun y hy=>?_,fun y c _ h=>?_,fun _=>hd,Around.frames_deeper e0.frames,.inr ⟨rfl,rfl⟩,fun b z=>absurd z (noA b),e0.bs,e0.bsz,fun b _ _=>noA b,fun b z=>absurd z (noA b),e0.funs,e0.frf⟩,
  rfl,e0.bare,Un.kept hk,⟨_,x.toInCall.ns,fun i y v h1 h2 h3=>?_⟩,fun y c h=>⟨_,x.cell y c h⟩,e0.hok.fresh (Nat.le_refl _),fun y c h=>?_,fun p hp=>absurd (show p∈([]:List (Addr×Obj))from hp) (by simp),e0.hok.kept hk,?_⟩
 ·exact name_of_addr x.apart (xX h1) (xX h2)
 ·have hy:scope.names.lookup y=some .cell∨scope.names.lookup y=some .free:=hy
  rcases hy with hy | hy
  ·exact Qd hy
  ·exact absurd rfl (S.nofree _ (xX hy))
 ·exact yV (x.above y c (xX h))
 ·have hi:i<vs.length:=by
   unfold bX at h2;by_cases hi:i<vs.length
   ·exact hi
   ·rw[List.getElem?_append_right (by simpa using hi)]at h2;rw[List.getElem?_replicate]at h2
    split at h2 <;> cases h2
  have ha:vs[i]?=some v:=by
   unfold bX at h2;rw[List.getElem?_append_left (by simpa using hi),List.getElem?_map]at h2;cases e:vs[i]? with
   |none=>rw[e]at h2;cases h2
   |some a=>rw[e]at h2;cases h2;rfl
  obtain⟨u,hu,rv⟩:=r.get ha;have hp:ps[i]?=some y:=by
   rw[←S.pre,List.getElem?_take_of_lt (by omega)];exact h1
  have ndP:ps.Nodup:=by rw[←S.pre];exact S.nd.sublist (List.take_sublist _ _)
  refine⟨u,rv,?_⟩
  rcases S.par y (xL hp)with k | k
  ·exact .inl ⟨k,Pr ndP hp hu k⟩
  ·obtain⟨c,e⟩:=Qd (n:=s.heap.objs.size+1) k;refine .inr ⟨.inl k,c,e,?_⟩;have q:=x.cell y c e;rw[Pt ndP hp hu (by show scope.names.lookup y≠_;rw[k];decide)]at q;exact q
 ·exact e0.hok.fresh (yV (x.above y c (xX h)))
 ·unfold bX;show _=N.length;rw[xn,xh,List.length_replicate];omega
theorem rF{CX:CXT}{P:Program}{w:World}{K:W.Frag}{mg:Str→Option Value}{base:Heap}{k:Nat}{f:Addr}{name qual:Str}{params:Arguments}{body:List Stmt}{scope:Scope}{dV kV doc pm cdv ct oc:Value}{an od:Option Addr}{osl:Array (Option Value)}{N ps:List Str}{sp:Sp}(lk:K.lookup f=some ⟨oc,od,.func (W.fnOf name qual params body scope dV kV doc pm an cdv ct),osl⟩)(hcd:W.codeIn K cdv qual=true)(S:FnScope N ps scope)(len:∀vs H Q E,sp vs H Q E→vs.length=ps.length)(hbody:∀(A:Around) (outer:List Env) (s:Shared) (H:Hp) (vs:List V) (Q:VK) (E:XK),Room k (A.deeper (envOfC qual scope s.heap.objs.size f cdv))→sp vs H Q E→
   ∃t,PSs (kP CX P w K mg base N qual scope f cdv A outer s H E) body t∧t {nx:=fun _ H'=>Q .non H',rt:=Q} (bX N vs) H):
  FnOk P w K mg base CX (k+1) f (W.fnOf name qual params body scope dV kV doc pm an cdv ct) ps sp:=by
 refine⟨len,fun A outer s H args us vs Q E hr e0 hb r hsp=>?_⟩;have hl:=len _ _ _ _ hsp;have KX:K.In s.heap:=e0.mod.kin.keeps fun b o e=>(e0.bs b o e).1;have lim:s.heap.NoLimit:=e0.mod.nolimit.keeps fun b o e=>(e0.bs b o e).1;have hkind:∀y∈ps.zip us,scope.names.lookup y.1=some .local∨(scope.names.lookup y.1=some .cell∧((cellsFrom (s.heap.objs.size+1) scope.names []).lookup y.1).isSome=true):=fun⟨n,v⟩ hy=>by
  rcases S.par n (List.of_mem_zip hy).1 with q | q
  ·exact .inl q
  ·exact .inr ⟨q,W.cellsFrom_some _ _ _ (.inl q)⟩
 refine codeAny_call_function hr.depth (KX _ _ lk) rfl S.co S.gen rfl (W.codeRec_of KX hcd) (hb _ _ _ _ ?_);refine wpAny_newFunctionEnv_cells S.kind hkind fun env he s1 x=>?_;subst he;refine⟨lim.keeps x.toInCall.keep,codeAny_func ?_⟩;obtain⟨t,ht,hq⟩:=hbody A outer s H vs Q E (hr.deeper _) hsp;have I:Inv (kP CX P w K mg base N qual scope f cdv A outer s H E) [] (bX N vs) H s1:=kS S hr.hd e0 hl r x;refine yB (ht [] s1 (bX N vs) H _ I hq) (fun fl s' hs=>?_) fun e s' hs=>hs;have fin:∀{σ':St}{H':Hp}{v:V}{u:Value},Inv (kP CX P w K mg base N qual scope f cdv A outer s H E) [] σ' H' s'→RelV v u→Q v H'→CE outer P w H s Q u s':=
  fun{σ' H' v u} J rv q=>⟨v,H',J.os,J.bare,J.base,J.hok,rv,q⟩
 cases fl with
 |ret u=>
  obtain⟨v,σ',H',J,rv,q⟩:=hs;exact fin J rv q
 |next=>
  obtain⟨σ',H',J,q⟩:=hs;exact fin (v:=V.non) (u:=Value.none) J rfl q
 |brk=>
  obtain⟨_,_,_,q⟩:=hs;exact False.elim q
 |cont=>
  obtain⟨_,_,_,q⟩:=hs;exact False.elim q
section
variable{X:Cx}{x:Str}{p pos:Pos}{e:Expr}{es:List Expr}{t:TA}{id T:String}{r:List V→Hp→VK→Prop}
def tCB(r:List V→Hp→VK→Prop)(t:TA):TE:=fun σ H Q=>t σ H fun vs H1=>r vs H1 Q
theorem Zd(hc:aH X (.builtin id) r)(hg:Gl X x)(hm:X.mg x=none)(hv:bootBuiltins x=some (.builtin id))(ha:PA X (e::es) t)(hn:x≠"__name__":=by decide)(hdb:(x==("__debug__":Str))=false:=by decide)(he:starEach (e::es) X.env=(false,eval e X.env)::starEach es X.env:=by rfl)(hpl:(backTo pos (starEach es X.env)).any (·.1)=false:=by rfl):PE X (.Call (.Name x p) (e::es) [] pos) (tCB r t):=by
 intro Av s σ H Q I h;refine Ab (S3 I hg hm hv ?_ hn hdb);exact PyProof.Rows.callWith_builtin1 (thn (ha pos Av s σ H _ I h) fun us s1 ⟨vs,H1,I1,r1,q1⟩=>hc Av s1 σ H1 vs us Q I1 r1 q1) he hpl
theorem Ym(hc:aH X (.type T) r)(hg:Gl X x)(hm:X.mg x=none)(hv:bootBuiltins x=some (.type T))(ha:PA X (e::es) t)(hn:x≠"__name__":=by decide)(hdb:(x==("__debug__":Str))=false:=by decide)(he:starEach (e::es) X.env=(false,eval e X.env)::starEach es X.env:=by rfl)(hpl:(backTo pos (starEach es X.env)).any (·.1)=false:=by rfl):PE X (.Call (.Name x p) (e::es) [] pos) (tCB r t):=by
 intro Av s σ H Q I h;refine Ab (S3 I hg hm hv ?_ hn hdb);exact zI (thn (ha pos Av s σ H _ I h) fun us s1 ⟨vs,H1,I1,r1,q1⟩=>hc Av s1 σ H1 vs us Q I1 r1 q1) he hpl
end
end L2
namespace HT
open PySem PyProof.Rows
def lexLt:List Int→List Int→Bool
 | [],[]=>false
 | [],_::_=>true
 |_::_,[]=>false
 |x::xs,y::ys=>if x=y then lexLt xs ys else decide (x<y)
theorem lexLt_cons(x y:Int)(xs ys:List Int):lexLt (x::xs) (y::ys)=if x=y then lexLt xs ys else decide (x<y):=rfl
theorem lexLt_nil_nil:lexLt [] []=false:=rfl
theorem Q0(y:Int)(ys:List Int):lexLt [] (y::ys)=true:=rfl
theorem Q3(x:Int)(xs:List Int):lexLt (x::xs) []=false:=rfl
theorem nF(A:Around)(s:Shared)(a:Int)(t:Tok)(c:Int)(u:Tok):∃e,SeqAt.EqAt A s (.int a t) (.int c u) e∧(e=true↔a=c):=
 ⟨(a==c),SeqAt.EqAt.int_int a t c u,by simp⟩
theorem lD(A:Around)(s:Shared)(a:Int)(t:Tok)(c:Int)(u:Tok)(prog:Program)(w:World)(E:Value→Shared→Prop)(Q:Value→Shared→Prop)(h:Q (.bool (decide (a<c))) s):
  wpAny (model prog w) A (richCompare .Lt (.int a t) (.int c u)) Q E s:=
 (PyProof.Rows.lt_int h:wpAny (model prog w) A (compareOp .Lt (.int a t) (.int c u)) Q E s)
section
open PySem.SeqAt
open PySem.AutoSeq1 (wpAny_loadPart')
open PySem.MeetsSeq PySem.MeetsSeq2 PySem.MeetsSeq3
theorem Qj(l b:Addr)(items items2:Array Value)(n n2:Nat)(dd dd2:Option Addr)(sl sl2:Array (Option Value))(ns ms:List Int)(hi:IntsAre items.toList ns)(hj:IntsAre items2.toList ms):
  Meets (Builtin.«tuple.__lt__» ⟨[.ref l,.ref b],[]⟩)
   (fun _ R s=>s.heap.get? l=some {cls:=.type "tuple",dict:=dd,data:=.seq items n,slots:=sl}∧s.heap.get? b=some {cls:=.type "tuple",dict:=dd2,data:=.seq items2 n2,slots:=sl2}∧
    R (.ok (.ret (.bool (lexLt ns ms)))) s):=
 .of_wp fun prog w A R s h=>by
  obtain⟨hp,g,d,tk,os⟩:=s;obtain⟨hl,hb,h⟩:=h;have f2:=AutoSeq1.sub_tuple_tuple;have z1:items.size=ns.length:=by rw[←hi.length];simp
  have z2:items2.size=ms.length:=by rw[←hj.length];simp
  wp_walk using wpAny_loadPart' hl,wpAny_loadPart' hb,wpAny_forIn_list _ (fun rest b s'=>b.1=none∧s'=⟨hp,g,d,tk,os⟩∧∃(vs ws:List Value)(ns' ms':List Int),rest=vs.zip ws∧
   IntsAre vs ns'∧IntsAre ws ms'∧ns'.length+items2.size=ms'.length+items.size∧R (.ok (.ret (.bool (lexLt ns' ms')))) ⟨hp,g,d,tk,os⟩) _
  case turn=>
   rintro⟨y,x⟩ rest b s' ⟨hb',rfl,vs,ws,ns',ms',hz,hvi,hwi,AJ,hR⟩;cases hvi with
   |nil=>rw[List.zip_nil_left]at hz;cases hz
   |cons a t hvi'=>
    cases hwi with
    |nil=>rw[List.zip_nil_right]at hz;cases hz
    |cons c u hwi'=>
     rw[List.zip_cons_cons]at hz;injection hz with hyx hrest
     injection hyx with hy hx
     subst hy hx;rw[lexLt_cons]at hR;simp only[List.length_cons]at AJ;obtain⟨e,he,hiff⟩:=nF A.in1 ⟨hp,g,d,tk,os⟩ a t c u;refine io (he prog w _ _ ?_);cases e with
     |true=>
      rw[xp (hiff.mp rfl)]at hR
      wp_walk
      exact⟨rfl,rfl,_,_,_,_,hrest,hvi',hwi',by omega,hR⟩
     |false=>
      rw[xm (fun q=>absurd (hiff.mpr q) xw)]at hR;have hri:=lD A.in1 ⟨hp,g,d,tk,os⟩ a t c u prog w
      wp_walk using hri
      exact⟨_,rfl,by simpa using hR⟩
  case fin=>
   rintro⟨b1,b2⟩ s' ⟨hb',rfl,vs,ws,ns',ms',hz,hvi,hwi,AJ,hR⟩;simp only at hb';subst hb';have hv:lexLt ns' ms'=decide (items.size<items2.size):=by
    cases hvi with
    |nil=>
     cases hwi with
     |nil=>
      simp only[List.length_nil]at AJ;rw[lexLt_nil_nil];exact(yk (by omega)).symm
     |cons c u hw=>
      simp only[List.length_nil,List.length_cons]at AJ;rw[Q0];exact(xB (by omega)).symm
    |cons a t hv=>
     cases hwi with
     |nil=>
      simp only[List.length_nil,List.length_cons]at AJ;rw[Q3];exact(yk (by omega)).symm
     |cons c u hw=>
      rw[List.zip_cons_cons]at hz;cases hz
   rw[hv]at hR
   wp_walk
   exact⟨_,rfl,by simpa [Builtin.Tuple.tupleCompareSizes] using hR⟩
  case h=>
   exact⟨rfl,rfl,items.toList,items2.toList,ns,ms,rfl,hi,hj,by omega,h⟩
end
section
variable{prog:Program}{w:World}{A:Around}{E:Value→Shared→Prop}{s:Shared}
theorem lt_tupInts{l b:Addr}{items items2:Array Value}{ns ms:List Int}{Q:Value→Shared→Prop}(hl:IsTup s.heap l items)(hb:IsTup s.heap b items2)(hi:IntsAre items.toList ns)(hj:IntsAre items2.toList ms)(hu:A.units<cLine)(h:Q (.bool (lexLt ns ms)) s):wpAny (model prog w) A (compareOp .Lt (.ref l) (.ref b)) Q E s:=by
 obtain⟨⟨cls,dd,data,sl⟩,ho,hc,n,hd⟩:=id hl;obtain⟨⟨cls2,dd2,data2,sl2⟩,ho2,hc2,n2,hd2⟩:=id hb;simp only at hc hd hc2 hd2;subst hc hd hc2 hd2;exact richCompare_meets_room (op:=.Lt) ⟨_,ho,rfl⟩ ⟨_,ho2,rfl⟩ PySem.F.slot_tuple_lt PySem.F.entry_tuple_lt (PySem.F.args_tuple_lt_2 _ _) (Qj l b items items2 n n2 dd dd2 sl sl2 ns ms hi hj)
  ⟨ho,ho2,show Value.bool (lexLt ns ms)≠Value.notImplemented∧Q (.bool (lexLt ns ms)) s from⟨(fun x=>nomatch x),h⟩⟩ hu
theorem cat_tup{t b:Addr}{vs ws:List Value}{Q:Value→Shared→Prop}(ht:IsTup s.heap t vs.toArray)(hb:IsTup s.heap b ws.toArray)(hv:vs≠[])(h1:ws=[]→Q (.ref t) s)(h2:ws≠[]→Q (.ref s.heap.objs.size) {s with heap:=s.heap.push {cls:=.type "tuple",data:=.seq (vs++ws).toArray}})(hsz:vs.length+ws.length≤sizeLine):wpAny (model prog w) A (binaryOp .Add (.ref t) (.ref b)) Q E s:=by
 obtain⟨⟨cls,dd,data,sl⟩,ho,hc,n,hd⟩:=id ht;obtain⟨⟨cls2,dd2,data2,sl2⟩,ho2,hc2,n2,hd2⟩:=id hb;simp only at hc hd hc2 hd2;subst hc hd hc2 hd2;have e:vs.toArray++ws.toArray=(vs++ws).toArray:=by simp
 by_cases hw:ws=[]
 ·exact concat_meets ⟨_,ho,rfl⟩ ⟨_,ho2,rfl⟩ noFill_tuple_add seq_tuple_add PySem.F.slot_tuple_add PySem.F.entry_tuple_add (PySem.F.args_tuple_add_2 _ _)
   (tuple_addW1 t b vs.toArray ws.toArray n n2 dd dd2 sl sl2 (by simpa using hv) (by simp[hw])) ⟨ho,ho2,h1 hw⟩
 ·refine concat_meets ⟨_,ho,rfl⟩ ⟨_,ho2,rfl⟩ noFill_tuple_add seq_tuple_add PySem.F.slot_tuple_add PySem.F.entry_tuple_add (PySem.F.args_tuple_add_2 _ _)
   (tuple_addW2 t b vs.toArray ws.toArray n n2 dd dd2 sl sl2 (by simpa using hv) (by simpa using hw) (by rw[List.size_toArray,List.size_toArray];exact hsz)) ⟨ho,ho2,?_⟩
  rw[e];exact h2 hw
def sIx(n d:Nat):Option Int→Nat
 |none=>d
 |some v=>if v<0 then(v+(n:Int)).toNat else min v.toNat n
theorem sIx_none(n d:Nat):sIx n d none=d:=rfl
theorem sIx_nat(n d k:Nat):sIx n d (some (k:Int))=min k n:=by
 show(if (k:Int)<0 then((k:Int)+(n:Int)).toNat else min (k:Int).toNat n)=min k n;rw[xm (by omega),Int.toNat_natCast]
theorem uQ(n d:Nat)(hd:d≤n)(o:Option Int):sIx n d o≤n:=by
 cases o with
 |none=>exact hd
 |some v=>
  show(if v<0 then(v+(n:Int)).toNat else min v.toNat n)≤n;by_cases hv:v<0
  ·rw[xp hv];omega
  ·rw[xm hv];exact Nat.min_le_right _ _
theorem jb(v:Int)(n d:Nat):(if v<0 then max (v+(n:Int)) 0 else min v (n:Int))=((sIx n d (some v):Nat):Int):=by
 show(if v<0 then max (v+(n:Int)) 0 else min v (n:Int))=(((if v<0 then(v+(n:Int)).toNat else min v.toNat n):Nat):Int);by_cases hv:v<0
 ·simp only[if_pos hv];omega
 ·simp only[if_neg hv];omega
theorem gP(lo hi:Option Int)(n:Nat):Builtin.Slice.sliceAdjust lo hi 1 (n:Int)=(((sIx n 0 lo:Nat):Int),((sIx n n hi:Nat):Int)):=by
 have h1:¬((1:Int)<0):=by omega
 unfold Builtin.Slice.sliceAdjust;simp only[h1,if_false];refine yT ?_ ?_
 ·cases lo with
  |none=>rfl
  |some v=>exact jb v n 0
 ·cases hi with
  |none=>rfl
  |some v=>exact jb v n n
theorem h7(i j:Nat):Builtin.Slice.slicePlaces (i:Int) (j:Int) 1=j-i:=by
 unfold Builtin.Slice.slicePlaces;have h1:(1:Int) > 0:=by omega
 simp only[h1,if_true,Int.ediv_one]
 split <;> omega
theorem Uq{v:Value}{o:Option Int}{Q:Option Int→Shared→Prop}(p:IsPart v o)(h:Q o s):wpAny (model prog w) A (Builtin.Slice.slicePartIndex v) Q E s:=by
 cases p with
 |none=>exact slicePart_none h
 |int i t=>exact slicePart_int h
theorem Wr{sl:Addr}{vl vu:Value}{lo hi:Option Int}{n:Nat}{Q:Int×Int×Nat→Shared→Prop}(hs:s.heap.IsSliceOf sl vl vu .none)(pl:IsPart vl lo)(pu:IsPart vu hi)(h:Q (((sIx n 0 lo:Nat):Int),1,sIx n n hi-sIx n 0 lo) s):wpAny (model prog w) A (Builtin.Slice.sliceApplied (.ref sl) (pure (n:Int))) Q E s:=by
 obtain⟨os,hos,hcs,hds⟩:=id hs;unfold Builtin.Slice.sliceApplied Builtin.Slice.sliceFields;refine io (io (zK hos hds (x:=vl) rfl (io (zK hos hds (x:=vu) rfl (io (zK hos hds (x:=.none) rfl (pi ?_)))))));refine io (slicePart_none ?_);show wpAny _ _ (if ((1:Int)==0)=true then _ else _) _ _ s;rw[xm (by decide)];refine io (Uq pl (io (Uq pu (io (pi ?_)))));show wpAny _ _ (match Builtin.Slice.sliceAdjust lo hi 1 (n:Int)with | (lo,hi)=>pure (lo,(1:Int),Builtin.Slice.slicePlaces lo hi 1)) _ _ s;rw[gP lo hi n];show wpAny _ _ (pure (((sIx n 0 lo:Nat):Int),(1:Int),Builtin.Slice.slicePlaces ((sIx n 0 lo:Nat):Int) ((sIx n n hi:Nat):Int) 1)) _ _ s;rw[h7];exact pi h
theorem lq(xs:Array Value)(i k:Nat):((List.range k).filterMap fun(m:Nat)=>xs[((i:Int)+(m:Int)*1).toNat]?).toArray=((xs.toList.drop i).take k).toArray:=by
 have e:(fun(m:Nat)=>xs[((i:Int)+(m:Int)*1).toNat]?)=fun m=>xs[i+m]?:=by
  funext m
  have:((i:Int)+(m:Int)*1).toNat=i+m:=by omega
  rw[this]
 rw[e];have:=pick_run xs i k;rw[List.filterMap_map]at this;have e2:((fun x=>xs[x]?)∘fun x=>i+x)=fun m=>xs[i+m]?:=rfl;rw[e2]at this;rw[this]
theorem getItem_tuple_cut{t sl:Addr}{items:Array Value}{vl vu:Value}{lo hi:Option Int}{Q:Value→Shared→Prop}(ht:IsTup s.heap t items)(hs:s.heap.IsSliceOf sl vl vu .none)(pl:IsPart vl lo)(pu:IsPart vu hi)(hw:¬(sIx items.size 0 lo=0∧sIx items.size items.size hi=items.size))(h:Q (.ref s.heap.objs.size) {s with heap:=s.heap.push {cls:=.type "tuple",data:=.seq ((items.toList.drop (sIx items.size 0 lo)).take (sIx items.size items.size hi-sIx items.size 0 lo)).toArray}})(hsz:items.size≤sizeLine):wpAny (model prog w) A (getItem (.ref t) (.ref sl)) Q E s:=by
 have htake:sizeOk (.seq ((items.toList.drop (sIx items.size 0 lo)).take (sIx items.size items.size hi-sIx items.size 0 lo)).toArray):=by
  show((items.toList.drop (sIx items.size 0 lo)).take (sIx items.size items.size hi-sIx items.size 0 lo)).toArray.size≤sizeLine;rw[xO,yn,yK,xF];omega
 have hj:sIx items.size items.size hi≤items.size:=uQ _ _ (xj _) hi;obtain⟨os,hos,hcs,hds⟩:=id hs;have hTs:s.TypeIs (.ref sl) "slice":=⟨os,hos,hcs⟩;unfold getItem
 try with_reducible refine xQ ?_
 first | refine io (pi ?_) | skip
 refine io (wpAny_sequenceKey ht.typeIs (by decide) ?_);refine io (wpAny_callSpecial?_slot (name:=Str.ofString "__getitem__") ht.typeIs yz
  (yt yz ht.typeIs entry_tuple_getitem ?_ (args_tuple_getitem _ _)))
 show wpAny _ _ (Builtin.Tuple.tupleItemsOf (.ref t) >>= _) _ _ s;refine io (tupleItemsOf_ ht ?_);refine io (yW hTs ?_);rw[xp (by decide)];refine io (Wr hs pl pu ?_);have hno:¬((((sIx items.size 0 lo:Nat):Int)==0 && (1:Int)==1 && (sIx items.size items.size hi-sIx items.size 0 lo)==items.size)=true):=by
  intro q;rw[yu,yu]at q;have q1:((sIx items.size 0 lo:Nat):Int)=0:=eq_of_beq q.1.1;have q2:sIx items.size items.size hi-sIx items.size 0 lo=items.size:=eq_of_beq q.2;exact hw ⟨by omega,by omega⟩
 show wpAny _ _ (if (((sIx items.size 0 lo:Nat):Int)==0 && (1:Int)==1 && (sIx items.size items.size hi-sIx items.size 0 lo)==items.size)=true then _ else _) _ _ s;rw[xm hno,lq]
 first
  |exact io (m:=Builtin.Tuple.tupleExact _) (xT (pi ⟨_,rfl,pi h⟩) htake)
  |exact io (m:=Builtin.Tuple.tupleExact _) (xT (io (pi (pi ⟨_,rfl,pi h⟩))) htake)
  |exact io (io (m:=Builtin.Tuple.tupleExact _) (xT (pi (pi ⟨_,rfl,pi h⟩)) htake))
  |exact io (io (m:=Builtin.Tuple.tupleExact _) (xT (pi ⟨_,rfl,pi h⟩) htake))
end
end HT
namespace L2
open PySem PySem.Spec PyProof.Rows
abbrev TO:=St→Hp→(Option Int→Hp→Prop)→Prop
def PO(X:Cx)(e:Option Expr)(t:TO):Prop:=
 ∀(Av:List (Addr×Obj))(s:Shared)(σ:St)(H:Hp)(Q:Option Int→Hp→Prop),Inv X Av σ H s→t σ H Q→
  wpAny (model X.prog X.w) X.A (evalPart e X.env) (fun u s'=>∃o H',Inv X Av σ H' s'∧IsPart u o∧Q o H') X.xe s
def qh:TO:=fun _ H Q=>Q none H
def vD(t:TE):TO:=fun σ H Q=>t σ H fun x H1=>∃i,x=.int i∧Q (some i) H1
theorem T1{ns:List Int}:∀{us:List Value},Vals (ns.map V.int) us→IntsAre us ns:=by
 induction ns with
 |nil=>intro us r;rw[List.map_nil]at r;cases r;exact .nil
 |cons n ns ih=>
  intro us r;rw[xu]at r;cases r with
  |cons r1 r2=>
   obtain⟨t,e⟩:=r1;subst e;exact .cons n t (ih r2)
section
variable{X:Cx}{e:Expr}{te:TE}{lo hi:Option Expr}{tl th:TO}{pos p2:Pos}
theorem Yn:PO X none qh:=by
 intro Av s σ H Q I h;rw[evalPart_none];exact pi ⟨none,H,I,.none,h⟩
theorem Yj(h:PE X e te):PO X (some e) (vD te):=by
 intro Av s σ H Q I hw;rw[evalPart_some];refine thn (h Av s σ H _ I hw) fun u s1 Aw=>?_;obtain⟨x,H1,I1,r1,q1⟩:=Aw;obtain⟨i,rfl,q⟩:=q1;obtain⟨t,rfl⟩:=r1;exact⟨some i,H1,I1,.int i t,q⟩
def SlR(X:Cx)(r:V→Option Int→Option Int→Hp→VK→Prop):Prop:=
 ∀(Av:List (Addr×Obj))(s:Shared)(σ:St)(H:Hp)(x:V)(v vl vu:Value)(lo hi:Option Int)(sl:Addr)(Q:VK),Inv X Av σ H s→RelV x v→s.heap.IsSliceOf sl vl vu .none→IsPart vl lo→IsPart vu hi→r x lo hi H Q→
  ∃T id,typeLookup (.type T) "__getitem__"=pure (some (.builtin id))∧s.TypeIs v T∧wpAny (model X.prog X.w) X.A (getItem v (.ref sl)) (EP X Av σ Q) X.xe s
def tSl(r:V→Option Int→Option Int→Hp→VK→Prop)(te:TE)(tl th:TO):TE:=fun σ H Q=>te σ H fun x H1=>tl σ H1 fun l H2=>th σ H2 fun u H3=>r x l u H3 Q
theorem Y5{r:V→Option Int→Option Int→Hp→VK→Prop}(hr:SlR X r)(he:PE X e te)(hl:PO X lo tl)(hu:PO X hi th):PE X (.Subscript e (.Slice lo hi none p2) pos) (tSl r te tl th):=by
 intro Av s σ H Q I h;refine Subscript_ (thn (he Av s σ H _ I h) fun v s1 Aw=>?_);obtain⟨x,H1,I1,r1,q1⟩:=Aw;refine wpAny_Slice (thn (hl Av s1 σ H1 _ I1 q1) fun vl s2 ⟨l,H2,I2,pl,q2⟩=>thn (hu Av s2 σ H2 _ I2 q2) fun vu s3 Aw=>?_);obtain⟨u,H3,I3,pu,q3⟩:=Aw;rw[evalPart_none];refine pi ?_;have I4:Inv X Av σ H3 {s3 with heap:=s3.heap.push {cls:=.type "slice",data:=.fields #[vl,vu,.none]}}:=I3.kept (t':=s3.toks) fun b ob q=>xi _ q;obtain⟨T,id,hT,ht,hg⟩:=hr Av {s3 with heap:=s3.heap.push {cls:=.type "slice",data:=.fields #[vl,vu,.none]}} σ H3 x v vl vu l u s3.heap.objs.size Q I4 r1 (Heap.IsSliceOf.new ..) pl pu q3;show wpAny (model X.prog X.w) X.A (subscriptTail e (.Slice lo hi none p2) v (.ref s3.heap.objs.size)) (EP X Av σ Q) X.xe {s3 with heap:=s3.heap.push {cls:=.type "slice",data:=.fields #[vl,vu,.none]}};exact tail_any (ops:=[.ref s3.heap.objs.size,v]) ht hT hg (by with_unfolding_all rfl)
def aV(xs:List V)(lo hi:Option Int):List V:=(xs.drop (HT.sIx xs.length 0 lo)).take (HT.sIx xs.length xs.length hi-HT.sIx xs.length 0 lo)
theorem Vw(xs:List V)(lo hi:Option Int):(aV xs lo hi).length≤xs.length:=by
 unfold aV;rw[yn,yK];omega
def rSlT(K:W.Frag):V→Option Int→Option Int→Hp→VK→Prop:=fun x lo hi H Q=>∃a xs,x=.ref a∧SqT K H a xs∧
 ¬(HT.sIx xs.length 0 lo=0∧HT.sIx xs.length xs.length hi=xs.length)∧∀p,H p=none→Q (.ref p) (upd H p (.tup (aV xs lo hi)))
theorem uc:SlR X (rSlT X.K):=by
 intro Av s σ H x v vl vu lo hi sl Q I rx hs pl pu h;obtain⟨a,xs,rfl,hx,hw,q⟩:=h;cases rx;obtain⟨its,r,ht,hz⟩:=I.tuple hx;have AJ:its.toArray.size=xs.length:=by rw[xO];exact r.length.symm
 refine⟨"tuple",_,PyProof.Rows.slot_tuple_getitem.lookup,ht.typeIs,?_⟩;refine HT.getItem_tuple_cut ht hs pl pu (by rw[AJ];exact hw) ?_ (by rw[AJ];exact hz);rw[AJ];refine⟨.ref s.heap.objs.size,_,I.laid (t':=s.toks) (o:=.tup (aV xs lo hi)) (fun b ob q=>xi _ q) (xj _) ?_,rfl,q _ (I.hok.fresh (xj _))⟩;exact⟨xZ (Vw xs lo hi) hz,_,(r.drop (HT.sIx xs.length 0 lo)).take (HT.sIx xs.length xs.length hi-HT.sIx xs.length 0 lo),TupN.new _ _⟩
def uZ(K:W.Frag):R2:=fun x y H Q=>∃a b ns ms,x=.ref a∧y=.ref b∧SqT K H a (ns.map V.int)∧SqT K H b (ms.map V.int)∧Q (.bl (HT.lexLt ns ms)) H
theorem sF(hu:X.A.units<cLine):OpR X (compareOp .Lt) (uZ X.K):=by
 intro Av s σ H x y v u Q I rx ry h;obtain⟨a,b,ns,ms,rfl,rfl,ha,hb,q⟩:=h;cases rx;cases ry;obtain⟨its,r1,p1,_⟩:=I.tuple ha;obtain⟨its2,r2,p2,_⟩:=I.tuple hb;have i1:IntsAre its.toArray.toList ns:=T1 r1;have i2:IntsAre its2.toArray.toList ms:=T1 r2;exact HT.lt_tupInts p1 p2 i1 i2 hu ⟨.bl (HT.lexLt ns ms),H,I,rfl,q⟩
def wC(K:W.Frag):R2:=fun x y H Q=>∃a b xs ys,x=.ref a∧y=.ref b∧SqT K H a xs∧SqT K H b ys∧xs≠[]∧xs.length+ys.length≤sizeLine∧
 (ys=[]→Q (.ref a) H)∧(ys≠[]→∀p,H p=none→Q (.ref p) (upd H p (.tup (xs++ys))))
theorem Vals.nil_iff{xs:List V}{us:List Value}(r:Vals xs us):us=[]↔xs=[]:=by
 cases r with
 |nil=>simp
 |cons _ _=>simp
theorem pF:OpR X (binaryOp .Add) (wC X.K):=by
 intro Av s σ H x y v u Q I rx ry h;obtain⟨a,b,xs,ys,rfl,rfl,ha,hb,hx,hz,q1,q2⟩:=h;cases rx;cases ry;obtain⟨its,r1,p1,_⟩:=I.tuple ha;obtain⟨its2,r2,p2,_⟩:=I.tuple hb;refine HT.cat_tup p1 p2 (fun z=>hx (r1.nil_iff.mp z)) (fun z=>⟨.ref a,H,I,rfl,q1 (r2.nil_iff.mp z)⟩) (fun z=>?_) (by rw[←r1.length,←r2.length];exact hz);refine⟨.ref s.heap.objs.size,_,I.laid (t':=s.toks) (o:=.tup (xs++ys)) (fun b ob q=>xi _ q) (xj _) ?_,rfl,q2 (fun w=>z (r2.nil_iff.mpr w)) _ (I.hok.fresh (xj _))⟩;exact⟨by rw[xn];exact hz,_,r1.append r2,TupN.new _ _⟩
end
def ixN(n:Nat)(i:Int):Option Nat:=if 0≤i then(if i<n then some i.toNat else none)else if -(n:Int)≤i then some (i+n).toNat else none
def atI{α:Type}(xs:List α)(i:Int):Option α:=(ixN xs.length i).bind fun j=>xs[j]?
theorem jo{n:Nat}{i:Int}{j:Nat}(h:ixN n i=some j):seqIndex? i n=some j∧j<n∧-(n:Int)≤i∧i<n:=by
 unfold ixN at h;by_cases h0:0≤i
 ·rw[xp h0]at h;by_cases h1:i<n
  ·rw[xp h1]at h;have e:i.toNat=j:=xK h;exact⟨by rw[seqIndex_of h0 h1,e],by omega,by omega,h1⟩
  ·rw[xm h1]at h;cases h
 ·rw[xm h0]at h;by_cases h1:-(n:Int)≤i
  ·rw[xp h1]at h;have e:(i+n).toNat=j:=xK h;exact⟨by rw[seqIndex_neg (by omega) h1,e],by omega,h1,by omega⟩
  ·rw[xm h1]at h;cases h
theorem jC{α:Type}{xs:List α}{i:Int}{v:α}(h:atI xs i=some v):∃j,seqIndex? i xs.length=some j∧xs[j]?=some v∧j<xs.length∧-(xs.length:Int)≤i∧i<xs.length:=by
 unfold atI at h;cases e:ixN xs.length i with
 |none=>rw[e]at h;cases h
 |some j=>
  rw[e]at h;obtain⟨h1,h2,h3,h4⟩:=jo e;exact⟨j,h1,h,h2,h3,h4⟩
theorem Ug{α:Type}{xs:List α}{j:Nat}{v:α}(h:xs[j]?=some v):atI xs (j:Int)=some v:=by
 have hj:j<xs.length:=(xo.mp h).1;have e:ixN xs.length (j:Int)=some j:=by
  unfold ixN;rw[if_pos (by omega),if_pos (by omega)];simp
 unfold atI;rw[e];exact h
def ic(b:Expr):Prop:=∀o i,subscripted b false o i=operate [o,i] (getItem o i)
def IxR(X:Cx)(r:R2):Prop:=
 ∀(value slice:Expr)(Av:List (Addr×Obj))(s:Shared)(σ:St)(H:Hp)(x y:V)(v u:Value)(Q:VK),Inv X Av σ H s→RelV x v→RelV y u→r x y H Q→
  subscripted slice false v u=operate [v,u] (getItem v u)→wpAny (model X.prog X.w) X.A (subscriptTail value slice v u) (EP X Av σ Q) X.xe s
def MtR(X:Cx)(id:String)(r:V→List V→Hp→VK→Prop):Prop:=
 ∀(Av:List (Addr×Obj))(s:Shared)(σ:St)(H:Hp)(x:V)(xs:List V)(v:Value)(us:List Value)(Q:VK),Inv X Av σ H s→RelV x v→Vals xs us→r x xs H Q→
  wpAny (model X.prog X.w) X.A (call (.builtin id) (v::us)) (EP X Av σ Q) X.xe s
section
variable{X:Cx}{a b:Expr}{ta tb:TE}{pos:Pos}
theorem vf{r:R2}(hr:IxR X r)(ha:PE X a ta)(hb:PE X b tb)(hs:ic b):PE X (.Subscript a b pos) (tOp r ta tb):=by
 intro Av s σ H Q I h;exact Subscript_ (sZ ha hb I h fun v u s2 x y H2 I2 rx ry q=>hr a b Av s2 σ H2 x y v u Q I2 rx ry q (hs _ _))
def rIxL(K:W.Frag):R2:=fun x y H Q=>∃p xs i v,x=.ref p∧y=.int i∧SqL K H p xs∧atI xs i=some v∧Q v H
def vA(K:W.Frag):R2:=fun x y H Q=>∃p xs i v,x=.ref p∧y=.int i∧SqT K H p xs∧atI xs i=some v∧Q v H
theorem Y9:IxR X (rIxL X.K):=by
 intro value slice Av s σ H x y v u Q I rx ry h hs;obtain⟨p,xs,i,z,rfl,rfl,hq,he,q⟩:=h;cases rx;obtain⟨t,rfl⟩:=ry;obtain⟨its,r,pl,hz⟩:=I.list hq;obtain⟨j,h1,h2,h3,h4,h5⟩:=jC he;obtain⟨w,ew,rw'⟩:=r.get h2;have hl:=r.length;have hn:=Om;have fin:EP X Av σ Q w s:=⟨z,H,I,rw',q⟩;by_cases h0:0≤i
 ·have hj:i.toNat=j:=by
   rw[seqIndex_of h0 h5]at h1;exact xK h1
  exact item_listR pl.isList h0 (by omega) (by rw[hj];simpa using ew) fin hs
 ·have hj:(i+(its.toArray.size:Int)).toNat=j:=by
   rw[seqIndex_neg (by omega) h4]at h1;rw[xO,←hl];exact xK h1
  exact subscriptTail_builtinR (x:=w) pl.isList.typeIs slot_list_getitem.lookup
   (wpAny_getItem_list_neg (Q:=fun r s'=>r=w∧EP X Av σ Q r s') pl.isList (by omega) (by rw[List.size_toArray] <;> omega) (by omega) (by rw[hj];simpa using ew) ⟨rfl,fin⟩) hs
theorem Y8:IxR X (vA X.K):=by
 intro value slice Av s σ H x y v u Q I rx ry h hs;obtain⟨p,xs,i,z,rfl,rfl,hq,he,q⟩:=h;cases rx;obtain⟨t,rfl⟩:=ry;obtain⟨its,r,pl,hz⟩:=I.tuple hq;obtain⟨j,h1,h2,h3,h4,h5⟩:=jC he;obtain⟨w,ew,rw'⟩:=r.get h2;have hl:=r.length;have hn:=Om;have fin:EP X Av σ Q w s:=⟨z,H,I,rw',q⟩;exact subscriptTail_builtinR (x:=w) pl.typeIs slot_tuple_getitem.lookup
  (getItem_tuple (j:=j) (Q:=fun r s'=>r=w∧EP X Av σ Q r s') pl (by omega) (by omega) (by rw[List.size_toArray,←hl];exact h1) (by simpa using ew) ⟨rfl,fin⟩) hs
theorem f8(its:List Value)(n j:Nat)(u:Value):Obj.mapSeq (·.setIfInBounds j u) {cls:=.type "list",data:=.seq its.toArray n}={cls:=.type "list",data:=.seq (its.set j u).toArray n}:=by
 simp[Obj.mapSeq]
theorem Inv.lst{Av:List (Addr×Obj)}{σ:St}{H:Hp}{s:Shared}{p:Addr}{xs:List V}(I:Inv X Av σ H s)(h:H p=some (.lst xs)):
  ∃(its:List Value)(n:Nat),Vals xs its∧s.heap.get? p=some {cls:=.type "list",data:=.seq its.toArray n}∧xs.length≤sizeLine:=by
 obtain⟨z,its,n,r,e⟩:=I.hok p _ h;exact⟨its,n,r,e,z⟩
theorem Inv.lstUpd{Av:List (Addr×Obj)}{σ:St}{H:Hp}{s:Shared}{p:Addr}{xs ys:List V}{its its':List Value}{n n':Nat}{f:Obj→Obj}(I:Inv X Av σ H s)(h:H p=some (.lst xs))(ho:s.heap.get? p=some {cls:=.type "list",data:=.seq its.toArray n})(hf:f {cls:=.type "list",data:=.seq its.toArray n}={cls:=.type "list",data:=.seq its'.toArray n'})(r:Vals ys its')(hz:ys.length≤sizeLine)(t:Nat):
  Inv X Av σ (upd H p (.lst ys)) {s with heap:=s.heap.update p f,toks:=t}:=by
 have e:(s.heap.update p f).get? p=some {cls:=.type "list",data:=.seq its'.toArray n'}:=by
  rw[Ah f ho (by rw[hf] <;> rfl),hf]
 refine I.write (x:=p) (e:=p) (by rw[h];trivial) (.inl rfl) (fun b u hb q=>(yC _ _ (Ne.symm hb)).trans q) ⟨_,e⟩ ?_;exact⟨hz,its',n',r,e⟩
def vc:V→V→V→Hp→(Hp→Prop)→Prop:=fun o i v H Q=>∃p xs k j,o=.ref p∧i=.int k∧H p=some (.lst xs)∧ixN xs.length k=some j∧Q (upd H p (.lst (xs.set j v)))
theorem Rg:v8 X vc:=by
 intro Av s σ H o i v ov iv u Q I ro ri rv h;obtain⟨p,xs,k,j,rfl,rfl,hp,hj,q⟩:=h;cases ro;obtain⟨t,rfl⟩:=ri;obtain⟨its,n,r,ho,hz⟩:=I.lst hp;obtain⟨h1,h2,h3,h4⟩:=jo hj;have hl:=r.length;have hn:=Om;have I':Inv X Av σ (upd H p (.lst (xs.set j v))) {s with heap:=s.heap.update p (Obj.mapSeq (·.setIfInBounds j u))}:=
  I.lstUpd hp ho (f8 its n j u) (r.set rv j) (by rw[List.length_set];exact hz) s.toks
 by_cases h0:0≤k
 ·have hk:k.toNat=j:=by
   rw[seqIndex_of h0 h4]at h1;exact xK h1
  exact W.ki_setAt ho h0 (by omega) (by rw[xO,←hl];exact h4) (by rw[hk];exact⟨_,I',q⟩)
 ·have hk:(k+(its.toArray.size:Int)).toNat=j:=by
   rw[seqIndex_neg (by omega) h3]at h1;rw[xO,←hl];exact xK h1
  exact W.ki_setBack ho (by omega) (by rw[xO,←hl];exact h3) (by omega) (by rw[hk];exact⟨_,I',q⟩)
theorem O4(lo hi:Option Int)(n:Nat):(sliceBounds lo hi none n).1=((HT.sIx n 0 lo:Nat):Int)∧(sliceBounds lo hi none n).2.1=((HT.sIx n n hi:Nat):Int)∧(sliceBounds lo hi none n).2.2=1:=by
 refine⟨?_,?_,rfl⟩
 ·cases lo with
  |none=>simp[sliceBounds,HT.sIx]
  |some i=>
   simp only[sliceBounds,HT.sIx,Option.getD_none,show(1:Int) > 0 by decide,if_true];by_cases h:i<0
   ·simp only[h,if_true] <;> omega
   ·simp only[h,if_false] <;> omega
 ·cases hi with
  |none=>simp[sliceBounds,HT.sIx]
  |some i=>
   simp only[sliceBounds,HT.sIx,Option.getD_none,show(1:Int) > 0 by decide,if_true];by_cases h:i<0
   ·simp only[h,if_true] <;> omega
   ·simp only[h,if_false] <;> omega
theorem Qk(its:List Value)(lo hi:Option Int):slicePick its.toArray lo hi none=((its.drop (HT.sIx its.length 0 lo)).take (HT.sIx its.length its.length hi-HT.sIx its.length 0 lo)).toArray:=by
 obtain⟨h1,h2,h3⟩:=O4 lo hi its.toArray.size;unfold slicePick;rw[h1,h2,h3];simp only[sliceRange_one,pick_run,List.size_toArray] <;> rfl
def rSlL(K:W.Frag):V→Option Int→Option Int→Hp→VK→Prop:=fun x lo hi H Q=>∃a xs,x=.ref a∧SqL K H a xs∧∀p,H p=none→Q (.ref p) (upd H p (.lst (aV xs lo hi)))
theorem O5:SlR X (rSlL X.K):=by
 intro Av s σ H x v vl vu lo hi sl Q I rx hs pl pu h;obtain⟨a,xs,rfl,hx,q⟩:=h;cases rx;obtain⟨its,r,ht,hz⟩:=I.list hx;have AJ:=r.length;refine⟨"list",_,slot_list_getitem.lookup,ht.isList.typeIs,?_⟩;refine wpAny_getItem_list_slice ht.isList hs pl pu .none (by simp) ?_ (by rw[List.size_toArray] <;> omega);rw[Qk,←AJ];refine⟨.ref s.heap.objs.size,_,I.laid (t':=s.toks) (o:=.lst (aV xs lo hi)) (fun b ob q=>xi _ q) (xj _) ?_,rfl,q _ (I.hok.fresh (xj _))⟩;exact⟨xZ (Vw xs lo hi) hz,_,0,(r.drop (HT.sIx xs.length 0 lo)).take (HT.sIx xs.length xs.length hi-HT.sIx xs.length 0 lo),xt _ rfl⟩
theorem Zj:aH X (.builtin "len") (fun xs H Q=>∃p ys,xs=[.ref p]∧(SqL X.K H p ys∨SqT X.K H p ys)∧Q (.int ys.length) H):=by
 intro Av s σ H xs us Q I r h;obtain⟨p,ys,rfl,hq,q⟩:=h;obtain⟨u,rfl,rx⟩:=X6 r;cases rx;have hn:=Om
 rcases hq with hq | hq
 ·obtain⟨its,r',pl,hz⟩:=I.list hq;have AJ:=r'.length;exact Calls.call_len_list pl.isList (by simp only[List.size_toArray] <;> omega) ⟨.int ys.length,H,I.tok _,⟨s.toks+1,by rw[List.size_toArray,AJ]⟩,q⟩
 ·obtain⟨its,r',pl,hz⟩:=I.tuple hq;have AJ:=r'.length;exact len_tuple pl (by simp only[List.size_toArray] <;> omega) ⟨.int ys.length,H,I.tok _,⟨s.toks+1,by rw[List.size_toArray,AJ]⟩,q⟩
theorem Tp:aH X (.type "list") (fun xs H Q=>∃p ys,xs=[.ref p]∧(SqL X.K H p ys∨SqT X.K H p ys)∧∀l,H l=none→Q (.ref l) (upd H l (.lst ys))):=by
 intro Av s σ H xs us Q I r h;obtain⟨p,ys,rfl,hq,q⟩:=h;obtain⟨u,rfl,rx⟩:=X6 r;cases rx;have fin:∀(its:List Value),Vals ys its→ys.length≤sizeLine→∀(h':Heap)(c':Nat),(∀b o',s.heap.get? b=some o'→h'.get? b=some o')→
   h'.get? s.heap.objs.size=some {cls:=.type "list",dict:=none,data:=.seq its.toArray c',slots:=#[]}→EP X Av σ Q (.ref s.heap.objs.size) {s with heap:=h'}:=fun its r' hz h' c' kp e=>
  ⟨.ref s.heap.objs.size,_,I.laid (t':=s.toks) kp (xj _) (show ObjOk X.prog X.w _ h' _ (.lst ys) from⟨hz,its,c',r',e⟩),rfl,q _ (I.hok.fresh (xj _))⟩
 rcases hq with hq | hq
 ·obtain⟨its,r',pl,hz⟩:=I.list hq;have AJ:=r'.length;obtain⟨o,ho,hc,n,hd⟩:=pl.isList;exact call_list_seq p (.inl rfl) ho hc hd (fun h' c' kp e=>fin its r' hz h' c' kp e) (by simp only[List.size_toArray] <;> omega)
 ·obtain⟨its,r',pl,hz⟩:=I.tuple hq;have AJ:=r'.length;obtain⟨o,ho,hc,n,hd⟩:=pl;exact call_list_seq p (.inr rfl) ho hc hd (fun h' c' kp e=>fin its r' hz h' c' kp e) (by simp only[List.size_toArray] <;> omega)
theorem Qr:aH X (.type "tuple") (fun xs H Q=>∃p ys,xs=[.ref p]∧((SqL X.K H p ys∧∀l,H l=none→Q (.ref l) (upd H l (.tup ys)))∨(SqT X.K H p ys∧Q (.ref p) H))):=by
 intro Av s σ H xs us Q I r h;obtain⟨p,ys,rfl,h⟩:=h;obtain⟨u,rfl,rx⟩:=X6 r;cases rx
 rcases h with⟨hq,q⟩|⟨hq,q⟩
 ·obtain⟨its,r',pl,hz⟩:=I.list hq;have AJ:=r'.length;refine call_tuple_list pl.isList (fun h' kp=>?_) (by simp only[List.size_toArray] <;> omega);have I1:Inv X Av σ H {s with heap:=h'}:=I.kept (t':=s.toks) kp;have I2:Inv X Av σ (upd H h'.objs.size (.tup ys)) {s with heap:=h'.push {cls:=.type "tuple",data:=.seq its.toArray}}:=
   I1.laid (t':=s.toks) (fun b o e=>xi _ e) (xj _) (show ObjOk X.prog X.w _ _ _ (.tup ys) from⟨hz,its,r',TupN.new _ _⟩)
  exact⟨.ref h'.objs.size,_,I2,rfl,q _ (I1.hok.fresh (xj _))⟩
 ·obtain⟨its,r',pl,hz⟩:=I.tuple hq;exact call_tuple_same pl ⟨.ref p,H,I,rfl,q⟩
def tyV(K:W.Frag)(T:String)(x:V)(H:Hp):Prop:=match x with
 |.str _=>T="str"
 |.int _=>T="int"
 |.ref p=>(T="list"∧∃xs,SqL K H p xs)∨(T="tuple"∧∃o,K.lookup p=some o∧o.cls=.type "tuple"∧o.dict=none)∨
   (T="dict"∧((∃kvs,H p=some (.dK kvs))∨∃kvs,H p=some (.dT kvs)))∨(T="set"∧∃S n,H p=some (.set S n))
 |_=>False
theorem lU{Av:List (Addr×Obj)}{σ:St}{H:Hp}{s:Shared}{T:String}{x:V}{v:Value}(I:Inv X Av σ H s)(r:RelV x v)(ty:tyV X.K T x H):
  s.TypeIs v T∧∀a,v=.ref a→∃ob,s.heap.get? a=some ob∧ob.dict=none:=by
 cases x with
 |str z=>
  obtain⟨t,rfl⟩:=r;cases (show T="str" from ty);exact⟨typeIs_str s z t,fun _ e=>nomatch e⟩
 |int i=>
  obtain⟨t,rfl⟩:=r;cases (show T="int" from ty);exact⟨typeIs_int s i t,fun _ e=>nomatch e⟩
 |ref p=>
  cases r
  rcases ty with⟨rfl,xs,hq⟩|⟨rfl,o,hk,hc,hd⟩|⟨rfl,hk⟩|⟨rfl,S,n,hk⟩
  ·obtain⟨its,_,pl,_⟩:=I.list hq;refine⟨pl.isList.typeIs,fun a e=>?_⟩;cases e;obtain⟨o,n,e,c,hd,_⟩:=pl;exact⟨o,e,hd⟩
  ·refine⟨⟨o,I.kIn p o hk,hc⟩,fun a e=>?_⟩;cases e;exact⟨o,I.kIn _ o hk,hd⟩
  ·have z:∃o,s.heap.get? p=some o∧o.ExactDict:=by
    rcases hk with⟨kvs,hk⟩|⟨kvs,hk⟩
    ·obtain⟨_,_,_,_,o,_,_,e,ex,_⟩:=I.hok p _ hk;exact⟨o,e,ex⟩
    ·obtain⟨_,_,_,_,o,_,_,e,ex,_⟩:=I.hok p _ hk;exact⟨o,e,ex⟩
   obtain⟨o,e,ex⟩:=z;refine⟨⟨o,e,ex.1⟩,fun a e2=>?_⟩;cases e2;exact⟨o,e,ex.2.1⟩
  ·obtain⟨o,_,_,_,e,ex,_⟩:=I.hok p _ hk;refine⟨⟨o,e,ex.1⟩,fun a e2=>?_⟩;cases e2;exact⟨o,e,ex.2.1⟩
 |_=>exact False.elim ty
def tBM0(K:W.Frag)(T:String)(r:V→List V→Hp→VK→Prop)(to:TE):TE:=fun σ H Q=>to σ H fun x H1=>tyV K T x H1∧r x [] H1 Q
def tBM(K:W.Frag)(T:String)(r:V→List V→Hp→VK→Prop)(to:TE)(t:TA):TE:=fun σ H Q=>to σ H fun x H1=>tyV K T x H1∧t σ H1 fun xs H2=>r x xs H2 Q
variable{o e:Expr}{es:List Expr}{to:TE}{t:TA}{name:Str}{apos cpos:Pos}{T id:String}{r:V→List V→Hp→VK→Prop}
theorem hZ(pa:PlainAttrs T)(slot:Slot T name id)(hty:typeOf (.builtin id)=pure (.type "method_descriptor"))(hm:MtR X id r)(ho:PE X o to)(hbase:attributeBase o name X.env (eval o X.env)=eval o X.env:=by rfl)(hline:(apos.endLine==cpos.line)=true:=by rfl):PE X (.Call (.Attribute o name apos) [] [] cpos) (tBM0 X.K T r to):=by
 intro Av s σ H Q I h;refine wpAny_Call_method0_late hbase hline (thn (ho Av s σ H _ I h) fun v s1 Aw=>?_);obtain⟨x,H1,I1,r1,ty,q1⟩:=Aw;obtain⟨h1,h2⟩:=lU I1 r1 ty;exact⟨T,id,pa,slot,hty,h1,h2,Calls.callWith_builtin rfl (PySem.evalArgs_none (hm Av s1 σ H1 x [] v [] Q I1 r1 .nil q1))⟩
theorem rT(pa:PlainAttrs T)(slot:Slot T name id)(hty:typeOf (.builtin id)=pure (.type "method_descriptor"))(hm:MtR X id r)(ho:PE X o to)(ha:PA X (e::es) t)(hbase:attributeBase o name X.env (eval o X.env)=eval o X.env:=by rfl)(hfew:((backTo cpos (starEach (e::es) X.env)).all (fun x=>!x.1) && (backToKw cpos (keywordEach [] X.env)).all (fun x=>x.1.isSome)
   && decide ((e::es).length+([]:List Keyword).length+(if ([]:List Keyword).isEmpty then 0 else 1)<30))=true:=by rfl)(hline:(apos.endLine==cpos.line)=true:=by rfl)(hs:starEach (e::es) X.env=(false,eval e X.env)::starEach es X.env:=by rfl)(hplain:(backTo cpos (starEach es X.env)).any (·.1)=false:=by rfl):
  PE X (.Call (.Attribute o name apos) (e::es) [] cpos) (tBM X.K T r to t):=by
 intro Av s σ H Q I h;refine wpAny_Call_method_late hbase hfew hline rfl (thn (ho Av s σ H _ I h) fun v s1 Aw=>?_);obtain⟨x,H1,I1,r1,ty,q1⟩:=Aw;obtain⟨h1,h2⟩:=lU I1 r1 ty;refine⟨T,id,pa,slot,hty,h1,h2,?_⟩;have hA:=ha cpos Av s1 σ H1 _ I1 q1;rw[hs]at hA⊢;refine Calls.callWith_builtin (by show(false || (backTo cpos (starEach es X.env)).any (·.1))=false;rw[hplain] <;> rfl) (Calls.evalArgs_plain ?_);exact thn hA fun us s2 ⟨vs,H2,I2,r2,q2⟩=>hm Av s2 σ H2 x vs v us Q I2 r1 r2 q2
end
def MtM(X:Cx)(id:String)(r:V→List V→Hp→VK→Prop):Prop:=
 ∀(Av:List (Addr×Obj))(s:Shared)(σ:St)(H:Hp)(x:V)(xs:List V)(v:Value)(us:List Value)(Q:VK),Inv X Av σ H s→RelV x v→Vals xs us→r x xs H Q→
  wpAny (model X.prog X.w) X.A (call (.builtin id) (v::us)) (EP X Av σ Q) X.xe s
theorem Vals.one{x:V}{us:List Value}(h:Vals [x] us):∃u,us=[u]∧RelV x u:=by
 cases h with
 |cons r t=>
  cases t;exact⟨_,rfl,r⟩
theorem Vals.reverse{xs:List V}{us:List Value}(h:Vals xs us):Vals xs.reverse us.reverse:=by
 induction h with
 |nil=>exact .nil
 |cons r t ih=>rw[List.reverse_cons,List.reverse_cons];exact Vals.append ih (.cons r .nil)
section
variable{X:Cx}{Av:List (Addr×Obj)}{σ:St}{H:Hp}{s:Shared}{l b:Addr}{xs ys zs:List V}
theorem Inv.lset{its its':List Value}{n:Nat}{f:Array Value→Array Value}{t':Nat}(I:Inv X Av σ H s)(hH:H l=some (.lst xs))(e:s.heap.get? l=some {cls:=.type "list",data:=.seq its.toArray n})(hf:f its.toArray=its'.toArray)(hv:Vals ys its')(hz:ys.length≤sizeLine):
  Inv X Av σ (upd H l (.lst ys)) {s with heap:=s.heap.update l (Obj.mapSeq f),toks:=t'}:=by
 have q:=PySem.IsL.update e f;rw[hf]at q;refine I.write (x:=l) (e:=l) (by rw[hH];exact trivial) (.inl rfl) (fun b' u hb hu=>(yC s.heap (Obj.mapSeq f) (Ne.symm hb)).trans hu) ⟨_,q⟩ ?_;exact⟨hz,its',_,hv,q⟩
theorem Inv.lnew{its:List Value}{t':Nat}(I:Inv X Av σ H s)(hv:Vals ys its)(hz:ys.length≤sizeLine):
  Inv X Av σ (upd H s.heap.objs.size (.lst ys)) {s with heap:=s.heap.push {cls:=.type "list",data:=.seq its.toArray},toks:=t'}:=
 I.laid (fun _ _ q=>xi _ q) (xj _) ⟨hz,its,0,hv,xt _ rfl⟩
theorem Inv.fresh(I:Inv X Av σ H s):H s.heap.objs.size=none:=I.hok.fresh (xj _)
theorem Inv.lstM(I:Inv X Av σ H s)(hH:H l=some (.lst xs)):xs.length≤sizeLine∧∃(its:List Value)(n:Nat),Vals xs its∧xs.length=its.length∧s.heap.get? l=some {cls:=.type "list",data:=.seq its.toArray n}:=by
 obtain⟨z,its,n,r,e⟩:=I.hok l _ hH;exact⟨z,its,n,r,r.length,e⟩
end
section
variable{X:Cx}
def oR:V→List V→Hp→VK→Prop:=fun x vs H Q=>∃l xs y,x=.ref l∧vs=[y]∧H l=some (.lst xs)∧xs.length<sizeLine∧Q .non (upd H l (.lst (xs++[y])))
theorem kA:MtM X "list.append" oR:=by
 intro Av s σ H x vs v us Q I rx rv h;obtain⟨l,xs,y,rfl,rfl,hH,hz,q⟩:=h;cases rx;obtain⟨u,rfl,ru⟩:=rv.one;obtain⟨z,its,n,r,hl,e⟩:=I.lstM hH;refine call_meets F.slot_list_append ⟨_,e,rfl⟩ F.entry_list_append (F.args_list_append_2 _ _) (PySem.list_append l its.toArray n u (by rw[xO];omega)) ⟨e,?_⟩;refine⟨.non,_,I.lset (its':=its++[u]) hH e (by simp) (r.append (.cons ru .nil)) ?_,rfl,q⟩;rw[xn,yG];omega
def rCat:R2:=fun x y H Q=>∃l b xs zs,x=.ref l∧y=.ref b∧H l=some (.lst xs)∧H b=some (.lst zs)∧xs.length+zs.length≤sizeLine∧∀p,H p=none→Q (.ref p) (upd H p (.lst (xs++zs)))
theorem S1:OpR X (binaryOp .Add) rCat:=by
 intro Av s σ H x y v u Q I rx ry h;obtain⟨l,b,xs,zs,rfl,rfl,hH,hB,hz,q⟩:=h;cases rx;cases ry;obtain⟨z,its,n,r,hl,e⟩:=I.lstM hH;obtain⟨z2,its2,n2,r2,hl2,e2⟩:=I.lstM hB;refine PySem.P.add_list e e2 ?_ (by rw[xO,xO];omega);have ea:its.toArray++its2.toArray=(its++its2).toArray:=by simp
 rw[ea];exact⟨.ref _,_,I.lnew (t':=s.toks) (r.append r2) (by rw[xn];omega),rfl,q _ I.fresh⟩
end
section
variable{prog:Program}{w:World}{A:Around}{E:Value→Shared→Prop}{s:Shared}
end
section
variable{X:Cx}
end
end L2
namespace Att
open PySem PySem.W PySem.Calls PyProof.Rows
theorem So{P:Params}{h:Heap}:∀(ns:List Int)(vs:List Value),WellAll P h vs (ns.map WData.int)→IntsAre vs ns:=by
 intro ns
 induction ns with
 |nil=>
  intro vs w;rw[List.map_nil]at w;cases w;exact .nil
 |cons n ns ih=>
  intro vs w;rw[xu]at w;cases w with
  |cons a b=>
   cases a;exact .cons _ _ (ih _ b)
theorem jF{l:OpenLaw}{n:Nat}(hn:l.most=some n){P:Params}{h:Heap}{args:List WData}{vals:List Value}(hpre:l.row.toRowW.claim.pre args=true)(hwl:WellAll P h vals args):
  ∃a vs ns,vals=[Value.ref a]∧args=[WData.list (ns.map WData.int)]∧h.get? a=some {cls:=.type "list",data:=.seq vs.toArray}∧IntsAre vs ns∧ns.length≤n:=by
 have hsh:WShape.hasAll [] args [.list .int]=true:=(pre_splitW hpre).1;have hc:l.pre.holds [] {args:=args}=true:=(pre_splitW hpre).2;obtain⟨d,r,rfl,h1,h2⟩:=hasAllW_cons hsh;obtain rfl:=hasAllW_nil h2;obtain⟨xs,rfl,h3⟩:=hasW_list h1;obtain⟨ns,rfl⟩:=items_int h3;have AJ:ns.length≤n:=by
  unfold OpenLaw.pre at hc;have h4:(WTm.not (.lt (.lit (.int (n:Int))) (.len (.arg 0)))).holds [] {args:=[.list (ns.map .int)]}=true:=by
   have h4:=(holds_andW hc).1;rw[hn]at h4;exact h4
  have h5:=condW_of h4 (w_not (w_lt w_lit (w_len_list (w_arg rfl))));rw[xh]at h5;refine Nat.le_of_not_lt fun q=>?_;have q':(n:Int)<((ns.length:Nat):Int):=by omega
  first
   | (rw[xB q']at h5;exact absurd h5 (by decide))
   | (simp at h5;omega)
 cases hwl with
 |cons w1 w2=>
  cases w2;cases w1 with
  |list ho hall=>exact⟨_,_,ns,rfl,rfl,ho,So ns _ hall,AJ⟩
theorem kK(l:OpenLaw)(args:List WData):l.row.toRowW.claim.post args (.bool true) args=true:=
 postW_of (r:=l.row.toRowW) (X:=(true==true))
  (show WShape.has [] (.bool true) .bool=true by first | rfl | decide | simp[WShape.has,WShape.arms,WShape.armsAll])
  (show(WTm.eq .res (.lit (.bool true))).value [] {args:=args,res:=some (.bool true),after:=args}=some (.bool (true==true))from w_eq_bool (w_res rfl) w_lit) rfl
theorem attach_call{l:OpenLaw}{n:Nat}{q:Program}{loose:List Str}{XP:(Str→Option Value)→Heap→Prop}{YP:World→Heap→Prop}{d:DefRec}(hn:l.most=some n)(hdf:d.params.defaults=[])(call:∀(w:World) (s₀ s₁:Shared) (mg mb:Str→Option Value) (fa:Addr) (o:Obj) (pm cd doc:Value) (a:Addr) (vs:List Value) (ns:List Int),
   Ground q loose [] XP w s₀ mg mb s₁.heap→YP w s₁.heap→
   s₁.heap.get? fa=some o→o.data=.func (docDef d.name d.params d.body d.scope pm cd doc)→s₁.heap.CodeRec cd d.name→mg d.name=some (.ref fa)→
   s₁.heap.get? a=some {cls:=.type "list",data:=.seq vs.toArray}→IntsAre vs ns→ns.length≤n→s₁.gens=#[]→
   codeAny (model l.prog w) callerA (.call (.ref fa) ⟨[.ref a],[]⟩) (fun r s'=>r=.ok (.ret (.bool true))∧OldK s₁.heap s'.heap∧s'.os=s₁.os∧AllBare s'.gens) s₁):
  WalkO q loose XP YP l.row.toRowW d [] (fun f vs=>PySem.call f vs):=by
 intro w s₀ s₁ mg mb G Y fa o pm cd doc dV kV ho hd hcd hD hmg hg args vals as hpre hlay hrd hwl hlo;obtain rfl:dV=.none:=Dflts.none hD hdf;obtain rfl:kV=.none:=Dflts.noKw hD;obtain⟨a,vs,ns,rfl,rfl,hobj,hints,AJ⟩:=jF hn hpre hwl;refine enter_call (Aa (call w s₀ s₁ mg mb fa o pm cd doc a vs ns G Y ho (fd_plain hd) hcd hmg hobj hints AJ hg) fun r s' hq=>?_);obtain⟨rfl,h2,h3,h4⟩:=hq;exact⟨.inl ⟨.bool true,.bool true,[],rfl,fun _=>rfl,.bool true,kK l _,fun _=>⟨List.Pairwise.nil,fun _ hm=>(nomatch hm)⟩⟩,h2,h3,h4⟩
section
variable{prog:Program}{w:World}{A:Around}{E:Value→Shared→Prop}{s:Shared}{K:Frag}
end
end Att
namespace L2
open PySem PySem.Spec PyProof.Rows
theorem Tu:∀{vs:List Value}{ns:List Int},IntsAre vs ns→Vals (ns.map V.int) vs
 |_,_,.nil=>.nil
 |_,_,.cons n t h=>.cons ⟨t,rfl⟩ (Tu h)
end L2
namespace L2
open PySem PySem.Spec PyProof.Rows
def ay(s:Stmt):Arguments:=match s with
 |.FunctionDef _ a _ _ _ _ _ _ _ _=>a
 |_=>{posonlyargs:=[],args:=[],vararg:=none,kwonlyargs:=[],kw_defaults:=[],kwarg:=none,defaults:=[]}
def aw(s:Stmt):List Stmt:=match s with
 |.FunctionDef _ _ b _ _ _ _ _ _ _=>b
 |_=>[]
def ad(s:Stmt):Scope:=match s with
 |.FunctionDef _ _ _ _ _ _ sc _ _ _=>sc
 |_=>{kind:=.function,names:=[],isGenerator:=false,isCoroutine:=false}
abbrev CX0:CXT:=fun _ _ _ _ _ _=>False
abbrev E0:XK:=fun _ _ _=>False
theorem wa{X:Cx}:gH CX0 X E0:=fun _ _ _ _ _ _ _ h=>h.elim
structure Fun(K:W.Frag)(x qual:Str)(st:Stmt)(f:Addr)(fd:FuncData):Prop where
 ex:∃(oc:Value)(od:Option Addr)(kV doc pm:Value)(an:Option Addr)(cdv ct:Value)(osl:Array (Option Value)),
  fd=W.fnOf x qual (ay st) (aw st) (ad st) .none kV doc pm an cdv ct∧K.lookup f=some ⟨oc,od,.func fd,osl⟩∧W.codeIn K cdv qual=true
 kp:W.keepIn K (.ref f)=true
section
variable{P:Program}{w:World}{K:W.Frag}{mg:Str→Option Value}{base:Heap}
theorem Fun.ok{x qual:Str}{st:Stmt}{f:Addr}{fd:FuncData}{N ps:List Str}{k:Nat}{sp:Sp}(F:Fun K x qual st f fd)(S:FnScope N ps (ad st))(len:∀vs H Q E,sp vs H Q E→vs.length=ps.length)(hbody:∀(cdv:Value) (A:Around) (outer:List Env) (s:Shared) (H:Hp) (vs:List V) (Q:VK) (E:XK),Room k (A.deeper (envOfC qual (ad st) s.heap.objs.size f cdv))→sp vs H Q E→
   ∃t,PSs (kP CX0 P w K mg base N qual (ad st) f cdv A outer s H E).nox (aw st) t∧t {nx:=fun _ H'=>Q .non H',rt:=Q} (bX N vs) H):FnOk P w K mg base CX0 (k+1) f fd ps sp:=by
 obtain⟨oc,od,kV,doc,pm,an,cdv,ct,osl,rfl,lk,hcd⟩:=F.ex;refine rF lk hcd S len fun A outer s H vs Q E hr hsp=>?_;obtain⟨t,h,q⟩:=hbody cdv A outer s H vs Q E hr hsp;exact⟨t,h.nox,q⟩
theorem Fun.binds{x qual:Str}{st:Stmt}{f:Addr}{fd:FuncData}{ps:List Str}(F:Fun K x qual st f fd)(h:∀(kV doc pm:Value) (an:Option Addr) (cdv ct:Value) (us:List Value),us.length=ps.length→bindArgs (W.fnOf x qual (ay st) (aw st) (ad st) .none kV doc pm an cdv ct) ⟨us,[]⟩=pure (ps.zip us)):Binds K fd ps []:=by
 obtain⟨oc,od,kV,doc,pm,an,cdv,ct,osl,rfl,lk,hcd⟩:=F.ex;exact .all (h kV doc pm an cdv ct)
theorem gQ{x qual:Str}{st:Stmt}{f:Addr}{oc:Value}{od an:Option Addr}{osl:Array (Option Value)}{kV doc pm cdv ct:Value}(l:K.lookup f=some ⟨oc,od,.func (W.fnOf x qual (ay st) (aw st) (ad st) .none kV doc pm an cdv ct),osl⟩)(c:W.codeIn K cdv qual=true)(k:W.keepIn K (.ref f)=true):Fun K x qual st f (W.fnOf x qual (ay st) (aw st) (ad st) .none kV doc pm an cdv ct):=⟨⟨oc,od,kV,doc,pm,an,cdv,ct,osl,rfl,l,c⟩,k⟩
end
theorem Vf{A:Around}{k:Nat}(hr:Room k A):A.units+1<cLine:=Ac (Nat.add_le_add_left (by decide:1≤64) _) hr.units
section
variable{X:Cx}
theorem pv(i:Nat){x:Str}{pos:Pos}(hN:X.N[i]?=some x:=by rfl)(hv:Vis X.env.scope x:=by first | exact Or.inl rfl | exact Or.inr (Or.inl rfl) | exact Or.inr (Or.inr rfl))(hd:(x==("__debug__":Str))=false:=by decide)(hcd:(x==("__classdict__":Str))=false:=by decide):PE X (.Name x pos) (uu i):=nX hN hv hd hcd
end
theorem Yo{A B:Prop}(h:B):if false=true then A else B:=by
 rw[xm xw];exact h
theorem Yt{A B:Prop}(h:A):if true=true then A else B:=by
 rw[xp rfl];exact h
theorem X2{c A B:Prop}[Decidable c](h1:c→A)(h2:¬c→B):if c then A else B:=by
 by_cases h:c
 ·rw[xp h];exact h1 h
 ·rw[xm h];exact h2 h
def Same(H H':Hp):Prop:=∀b o,H b=some o→H' b=some o
theorem Same.refl(H:Hp):Same H H:=fun _ _ h=>h
theorem Same.trans{H H1 H2:Hp}(a:Same H H1)(b:Same H1 H2):Same H H2:=fun c o h=>b c o (a c o h)
theorem Same.free{H H':Hp}(e:Same H H'){l:Addr}(h:H' l=Option.none):H l=Option.none:=by
 cases q:H l with
 |none=>rfl
 |some o=>
  rw[e l o q]at h;cases h
end L2
set_option maxHeartbeats 4000000
set_option bootstrap.genMatcherCode false
set_option genInjectivity false
set_option genSizeOf false
noncomputable section
namespace L2
open PySem PySem.Spec PyProof.Rows
theorem Q6{α β:Type}{f:α→β→Sem (ForInStep β)}{g:β→α→β}:∀(l:List α)(c:β),(∀x∈l,∀c,f x c=pure (.yield (g c x)))→forIn l c f=pure (l.foldl g c)
 | [],_,_=>rfl
 |x::l,c,h=>by
  rw[Ao,h x xP,pure_bind];exact Q6 l (g c x) fun y hy=>h y (xV _ hy)
def aJ(env:Env)(AH:List (Str×Addr))(x:Str×NameKind):List (Str×Addr):=if x.2==.free then(x.1,(env.cells.lookup x.1).getD 0)::AH else AH
def aA(env:Env)(names:List (Str×NameKind)):List (Str×Addr):=names.foldl (aJ env) []
theorem Uo{scope:Scope}{env:Env}(h:∀x∈scope.names,x.2=.free→∃c,env.cells.lookup x.1=some c):closureFor scope env=pure (aA env scope.names):=by
 simp only[closureFor];rw[Q6 (g:=aJ env) scope.names [] (fun x hx c=>by
  obtain⟨n,kind⟩:=x;by_cases hk:kind=.free
  ·subst hk;obtain⟨a,ha⟩:=h _ hx rfl;have ha':env.cells.lookup n=some a:=ha;simp[aJ,cellOf,ha']
  ·have hb:(kind==NameKind.free)=false:=by simpa using hk
   simp[aJ,hb])]
 rfl
theorem Sa{env:Env}:∀(names:List (Str×NameKind))(AH:List (Str×Addr)),(∀x∈names,x.2=.free→∃c,env.cells.lookup x.1=some c)→(∀p∈AH,env.cells.lookup p.1=some p.2)→
  ∀p∈names.foldl (aJ env) AH,env.cells.lookup p.1=some p.2
 | [],_,_,h=>h
 |x::r,AH,hn,h=>by
  refine Sa r _ (fun y hy=>hn y (xV _ hy)) ?_;intro p hp;unfold aJ at hp
  split at hp
  ·rename_i hk
   rcases xv.mp hp with e | e
   ·subst e;obtain⟨c,hc⟩:=hn x List.mem_cons_self (by simpa using hk);show env.cells.lookup x.1=some ((env.cells.lookup x.1).getD 0);rw[hc];rfl
   ·exact h p e
  ·exact h p hp
theorem Pp{env:Env}:∀(names:List (Str×NameKind))(AH:List (Str×Addr))(p:Str×Addr),p∈AH→p∈names.foldl (aJ env) AH
 | [],_,_,h=>h
 |x::r,AH,p,h=>by
  refine Pp r _ p ?_;unfold aJ
  split
  ·exact xV _ h
  ·exact h
theorem Sb{env:Env}:∀(names:List (Str×NameKind))(AH:List (Str×Addr))(x:Str),(x,NameKind.free)∈names→∃c,(x,c)∈names.foldl (aJ env) AH
 |y::r,AH,x,h=>by
  rcases xv.mp h with e | e
  ·subst e;exact⟨_,Pp r _ _ (by unfold aJ;rw[xp (by rfl)];exact xP)⟩
  ·exact Sb r _ x e
theorem Wl{α:Type}:∀{l:List (Str×α)}{x:Str}{c:α},(x,c)∈l→∃d,l.lookup x=some d
 | (y,d)::r,x,c,h=>by
  rw[zY];cases e:x==y with
  |true=>exact⟨d,rfl⟩
  |false=>
   rcases xv.mp h with q | q
   ·cases q;rw[beq_self_eq_true]at e;cases e
   ·exact Wl q
theorem W3(env:Env):∀(names:List (Str×NameKind))(x:Str),(names.map fun(n,k)=>if (k==NameKind.free && env.scope.kind==.function && env.kindOf n==some .cell) then(n,NameKind.cell) else(n,k)).lookup x =
  (names.lookup x).map fun k=>if (k==NameKind.free && env.scope.kind==.function && env.kindOf x==some .cell)then NameKind.cell else k
 | [],_=>rfl
 | (n,k)::r,x=>by
  have ih:=W3 env r x;show List.lookup x ((if (k==NameKind.free && env.scope.kind==.function && env.kindOf n==some .cell)=true then(n,NameKind.cell) else(n,k))::_)=_;have hr:((n,k)::r).lookup x=(match x==n with | true=>some k | false=>r.lookup x):=zY ..;rw[hr];by_cases hc:(k==NameKind.free && env.scope.kind==.function && env.kindOf n==some .cell)=true
  ·rw[xp hc,zY];cases hx:x==n with
   |true=>
    have e:x=n:=eq_of_beq hx;subst e;show some NameKind.cell=some (if (k==NameKind.free && env.scope.kind==.function && env.kindOf x==some .cell)=true then NameKind.cell else k);rw[xp hc]
   |false=>exact ih
  ·rw[xm hc,zY];cases hx:x==n with
   |true=>
    have e:x=n:=eq_of_beq hx;subst e;show some k=some (if (k==NameKind.free && env.scope.kind==.function && env.kindOf x==some .cell)=true then NameKind.cell else k);rw[xm hc]
   |false=>exact ih
def cxC(X:Cx)(own:List Str)(scope:Scope)(cl:List (Str×Addr))(C:Addr)(s:Shared)(H:Hp)(fp:List Addr):Cx:=
 {X with N:=own++X.N,s₀:=s,H₀:=H,env:=compEnvC scope cl C X.env,outer:=X.stack,stack:=X.stack,ex:=fp,fn:=fun _=>false,xe:=fun _ _=>False}
def PTs(X:Cx)(ifs:List Expr)(t:TT):Prop:=
 ∀(Av:List (Addr×Obj))(s:Shared)(σ:St)(H:Hp)(Q:Bool→Hp→Prop),Inv X Av σ H s→t σ H Q→
  wpAny (model X.prog X.w) X.A (forIn ifs true fun c r=>if r=true then do let ok ←isTrue c X.env (eval c X.env);pure (ForInStep.yield ok)else pure (ForInStep.yield r)) (TP X Av σ Q) X.xe s
def tAll:TT:=fun _ H Q=>Q true H
theorem W9{X:Cx}:PTs X [] tAll:=fun _ _ _ H _ I h=>wpAny_tests_nil ⟨H,I,h⟩
theorem Sw{X:Cx}{c:Expr}{t:TT}(h:PT X c t):PTs X [c] t:=fun Av s σ H Q I q=>wpAny_tests_one (h Av s σ H Q I q)
def Wk:St→St→Prop
 | [],[]=>True
 |_::r,none::t=>Wk r t
 |a::r,some v::t=>a=some v∧Wk r t
 |_,_=>False
theorem Wk.len:∀{a b:St},Wk a b→b.length=a.length
 | [],[],_=>rfl
 |_::r,none::t,h=>zG (·+1) (Wk.len (a:=r) (b:=t) h)
 |_::r,some _::t,h=>zG (·+1) (Wk.len (a:=r) (b:=t) h.2)
 | [],none::_,h=>h.elim
 | [],some _::_,h=>h.elim
 |_::_,[],h=>h.elim
theorem Wk.get:∀{a b:St}(i:Nat)(v:V),Wk a b→b[i]?=some (some v)→a[i]?=some (some v)
 |_::_,none::_,0,v,_,e=>by simp at e
 |_::_,some _::_,0,v,h,e=>by simp at e⊢;rw[h.1,e]
 |_::r,none::t,i+1,v,h,e=>by simp at e⊢;exact Wk.get (a:=r) (b:=t) i v h e
 |_::r,some _::t,i+1,v,h,e=>by simp at e⊢;exact Wk.get (a:=r) (b:=t) i v h.2 e
 | [],[],i,v,h,e=>by simp at e
 | [],none::_,_,_,h,_=>h.elim
 | [],some _::_,_,_,h,_=>h.elim
 |_::_,[],_,_,h,_=>h.elim
theorem Wk.refl:∀(a:St),Wk a a
 | []=>trivial
 |none::r=>Wk.refl r
 |some _::r=>⟨rfl,Wk.refl r⟩
def CompR(J:It)(H:Hp)(k:Nat)(g:TG)(tt:TT)(te:TE)(σ:St)(Q:VK):Prop:=∃W:Nat→Nat→List V→Hp→Prop,(∃m,W 0 m [] H)∧∀i m ys H,W i m ys H→
 (J.stop i H∧ys.length≤sizeLine∧∀p,H p=none→Q (.ref p) (upd H p (.lst ys)))∨
 (J.go i H∧ys.length<sizeLine∧∀x H',J.yld i H x H'→g x (List.replicate k none++σ) H' fun σ2 H2=>Wk σ2 (List.replicate k none++σ)∧tt σ2 H2 fun ok H3=>
  if ok=true then te σ2 H3 fun y H4=>∃m',m'<m∧W (i+1) m' (ys++[y]) H4 else ∃m',m'<m∧W (i+1) m' ys H3)
def e_(wi:TI)(g:TG)(tt:TT)(te:TE)(k:Nat):TE:=fun σ H Q=>wi σ H fun J H1=>CompR J H1 k g tt te σ Q
theorem eE{prog:Program}{w:World}{A:Around}{R:Result→Shared→Prop}{s:Shared}{elt target iter:Expr}{ifs:List Expr}{scope:Scope}{pos:Pos}{it AH:Value}{env:Env}(I:Nat→Shared→Prop)(turn:∀n s,I n s→wpAny (model prog w) A (pyNext it) (fun r s₁=>match r with
   |none=>R (.ok .next) s₁
   |some v=>wpAny (model prog w) A (letOwnedTupleGo target it v) (fun _ s₁'=>wpAny (model prog w) A (assign target env v) (fun _ s₂=>
     wpAny (model prog w) A (forIn ifs true fun c r=>if r=true then do let ok ←isTrue c env (eval c env);pure (ForInStep.yield ok)else pure (ForInStep.yield r)) (fun ok s₃=>
      if ok=true then wpAny (model prog w) A (eval elt env) (fun x s₄=>
       wpAny (model prog w) A (call (.builtin "list.append") [AH,x]) (fun _ s₅=>∃m,m<n∧I m s₅) (fun _ _=>False) s₄) (fun _ _=>False) s₃
      else ∃m,m<n∧I m s₃) (fun _ _=>False) s₂) (fun _ _=>False) s₁') (fun _ _=>False) s₁) (fun _ _=>False) s)(n:Nat)(h:I n s):
  codeAny (model prog w) A (.compLoop (.ListComp elt [⟨target,iter,ifs,0⟩] scope pos) 0 it AH env) R s:=by
 refine codeAny_loop rfl I (fun n s hI=>?_) n h;show wpAny _ A ((compTurn (.ListComp elt [⟨target,iter,ifs,0⟩] scope pos) 0 it AH env).onRaise (fun x=>do noteFrame x env;theTreesLotGoes x)) _ _ s;refine wpAny_noted ?_;rw[compTurn_list];refine io (wpAny_standAt (io (yB (turn n s hI) (fun r s₁ h₁=>?_) fun _ _ h'=>h'.elim)));cases r with
 |none=>exact pi h₁
 |some v=>
  refine io (yB h₁ (fun _ s₁' h₁'=>?_) fun _ _ h'=>h'.elim);refine io (yB h₁' (fun _ s₂ h₂=>io (yB h₂ (fun ok s₃ h₃=>?_) fun _ _ h'=>h'.elim)) fun _ _ h'=>h'.elim);cases ok with
  |false=>exact pi ⟨rfl,h₃⟩
  |true=>
   exact io (io (yB h₃ (fun x s₄ h₄=>io (yB h₄ (fun _ s₅ h₅=>pi (pi ⟨rfl,h₅⟩)) fun _ _ h'=>h'.elim)) fun _ _ h'=>h'.elim))
abbrev lo(its:List Value)(n:Nat):Obj:={cls:=.type "list",data:=.seq its.toArray n}
structure TurnP(Pc:Cx→Prop)(P:Program)(w:World)(K:W.Frag)(tg:Expr)(J:It)(fp:List Addr)(it:Addr)(tn:Nat→Heap→Prop):Prop where
 obj:∀i h,tn i h→∀b∈fp,∃o,h.get? b=some o∧∀v,o.data≠.cell v
 keep:∀i h h',tn i h→(∀b∈fp,∀o,h.get? b=some o→h'.get? b=some o)→tn i h'
 item:∀(X:Cx),X.prog=P→X.w=w→X.K=K→Pc X→∀(i:Nat)(Av:List (Addr×Obj))(s:Shared)(σ:St)(H:Hp)(E:Value→Shared→Prop),Inv X Av σ H s→(∀b∈fp,cj X Av H b)→tn i s.heap→J.go i H→
  wpAny (model P w) X.A (pyNext (.ref it)) (fun r s1=>∃u,r=some u∧
   wpAny (model P w) X.A (letOwnedTupleGo tg (.ref it) u) (fun _ s2=>∃x H',Inv X Av σ H' s2∧RelV x u∧J.yld i H x H'∧tn (i+1) s2.heap∧∀b∈fp,H' b=none) E s1) E s
 done:∀(X:Cx),X.prog=P→X.w=w→X.K=K→Pc X→∀(i:Nat)(Av:List (Addr×Obj))(s:Shared)(σ:St)(H:Hp)(E:Value→Shared→Prop),Inv X Av σ H s→(∀b∈fp,cj X Av H b)→tn i s.heap→J.stop i H→
  wpAny (model P w) X.A (pyNext (.ref it)) (fun r s1=>r=none∧Inv X Av σ H s1) E s
 self:∀(A:Around)(i:Nat)(s:Shared)(Q:Value→Shared→Prop)(E:Value→Shared→Prop),tn i s.heap→Q (.ref it) s→wpAny (model P w) A (pyIter (.ref it)) Q E s
def PIP(Pc:Cx→Prop)(X:Cx)(tg iter:Expr)(wi:TI):Prop:=
 ∀(Av:List (Addr×Obj))(s:Shared)(σ:St)(H:Hp)(R:It→Hp→Prop),Inv X Av σ H s→wi σ H R→
  wpAny (model X.prog X.w) X.A (eval iter X.env) (fun v s1=>wpAny (model X.prog X.w) X.A (pyIter v) (fun itv s2=>∃(it:Addr)(fp:List Addr)(tn:Nat→Heap→Prop)(J:It)(H':Hp),itv=.ref it∧Inv X Av σ H' s2∧TurnP Pc X.prog X.w X.K tg J fp it tn∧tn 0 s2.heap∧(∀b∈fp,cj X Av H' b)∧R J H') X.xe s1) X.xe s
theorem PI.p{X:Cx}{tg iter:Expr}{wi:TI}(h:PI X tg iter wi):PIP (fun X=>X.calm=true) X tg iter wi:=fun Av s σ H R I q=>yB (h Av s σ H R I q) (fun v s1 h1=>yB h1 (fun itv s2 ⟨it,fp,tn,J,H',e,I',T,t0,f,r⟩=>⟨it,fp,tn,J,H',e,I',⟨T.obj,T.keep,T.item,T.done,T.self⟩,t0,f,r⟩) fun _ _ z=>z) fun _ _ z=>z
structure CompOk(X:Cx)(own:List Str)(scope:Scope):Prop where
 cell:∀y∈scope.names,y.2≠.cell
 kind:scope.kind=.function
 names:∀y∈scope.names,y.2=.local→scope.names.lookup y.1=some .local
 fr:∀y∈scope.names,y.2=.free→X.env.scope.names.lookup y.1=some .cell∨X.env.scope.names.lookup y.1=some .free
 loc:∀y∈X.N,scope.names.lookup y≠some .local
def gq(names:List (Str×NameKind)):Bool:=names.all fun y=>(y.2 != .cell) && (y.2 != .local || names.lookup y.1==some .local)
def h8(outer names:List (Str×NameKind)):Bool:=names.all fun y=>y.2 != .free || outer.lookup y.1==some .cell || outer.lookup y.1==some .free
def gF(N:List Str)(names:List (Str×NameKind)):Bool:=N.all fun y=>names.lookup y != some .local
theorem CompOk.of{X:Cx}{own:List Str}{scope:Scope}(hc:X.calm=X.calm)(hk:scope.kind=.function)(h1:gq scope.names=true)(h2:h8 X.env.scope.names scope.names=true)(h3:gF X.N scope.names=true):CompOk X own scope:=by
 unfold gq at h1;unfold h8 at h2;unfold gF at h3;rw[yL]at h1 h2 h3;refine⟨fun y hy=>?_,hk,fun y hy hl=>?_,fun y hy hf=>?_,fun y hy=>?_⟩
 ·have:=h1 y hy;rw[yu]at this;exact bne_iff_ne.mp this.1
 ·have:=h1 y hy;rw[yu,hl]at this;simpa using this.2
 ·have:=h2 y hy;rw[hf]at this;simpa using this
 ·exact bne_iff_ne.mp (h3 y hy)
section
variable{X:Cx}{own:List Str}{scope:Scope}{Av:List (Addr×Obj)}{σ:St}{H:Hp}{s:Shared}{fp:List Addr}
theorem CompOk.cells(O:CompOk X own scope)(ok:X.Ok):∀x∈scope.names,x.2=.free→∃c,X.env.cells.lookup x.1=some c:=fun x hx hk=>ok.has x.1 (O.fr x hx hk)
theorem CompOk.sub(O:CompOk X own scope)(ok:X.Ok):∀x c,(aA X.env scope.names).lookup x=some c→X.env.cells.lookup x=some c:=fun x c e=>
 Sa scope.names [] (O.cells ok) (fun _ h=>nomatch h) (x,c) (xX e)
theorem CompOk.free_of(O:CompOk X own scope){cl:List (Str×Addr)}{C:Addr}{x:Str}(h:(compEnvC scope cl C X.env).kindOf x=some .cell∨(compEnvC scope cl C X.env).kindOf x=some .free):scope.names.lookup x=some .free:=by
 have e:(compEnvC scope cl C X.env).kindOf x=(scope.names.lookup x).map fun k=>if (k==NameKind.free && X.env.scope.kind==.function && X.env.kindOf x==some .cell)then NameKind.cell else k:=W3 X.env scope.names x
 rw[e]at h;cases q:scope.names.lookup x with
 |none=>rw[q]at h;simp at h
 |some k=>
  rw[q]at h;by_cases hk:k=.free
  ·rw[hk]
  ·have hc:k≠.cell:=O.cell (x,k) (xX q);have hb:(k==NameKind.free)=false:=by simpa using hk
   have hr:¬((k==NameKind.free && X.env.scope.kind==.function && X.env.kindOf x==some .cell)=true):=by rw[hb];exact xw
   have h:some (if (k==NameKind.free && X.env.scope.kind==.function && X.env.kindOf x==some .cell)=true then NameKind.cell else k)=some NameKind.cell∨some (if (k==NameKind.free && X.env.scope.kind==.function && X.env.kindOf x==some .cell)=true then NameKind.cell else k)=some NameKind.free:=h;rw[xm hr]at h
   rcases h with h | h
   ·exact absurd (xK h) hc
   ·exact absurd (xK h) hk
theorem CompOk.look(O:CompOk X own scope)(ok:X.Ok){x:Str}(h:scope.names.lookup x=some .free):∃c,(aA X.env scope.names).lookup x=some c∧X.env.cells.lookup x=some c:=by
 obtain⟨c,hc⟩:=Sb scope.names [] (env:=X.env) x (xX h);obtain⟨d,hd⟩:=Wl hc;exact⟨d,hd,O.sub ok x d hd⟩
theorem gC(I:Inv X Av σ H s){b:Addr}(h1:b≠X.env.locals)(h2:b∉X.fs):b∉frs X.stack:=fun z=>(xv.mp (I.stkSub b z)).elim h1 h2
theorem nj(O:CompOk X own scope)(I:Inv X Av σ H s)(hf:∀b∈fp,cj X Av H b)(ho:∀b∈fp,∃o,s.heap.get? b=some o){h₁:Heap}{C:Addr}{tk:Nat}{m:Str→Option Value}(hC:s.heap.objs.size<C)(hD:h₁.get? s.heap.objs.size=some (lo [] 0))(old:∀b o,s.heap.get? b=some o→h₁.get? b=some o)(hns:h₁.Ns C m):
  Inv (cxC X own scope (aA X.env scope.names) C s H fp) (Av++[(s.heap.objs.size,lo [] 0)]) (List.replicate own.length none++σ) H {s with heap:=h₁,toks:=tk}:=by
 have ltD:∀{b:Addr}{o:Obj},s.heap.get? b=some o→b<s.heap.objs.size:=fun e=>xk e;have nC:∀{b:Addr}{o:Obj},s.heap.get? b=some o→b≠C:=fun e=>xx (zu (ltD e) hC);have hsub:=O.sub I.ok;refine⟨⟨I.ok.mod,by show(relabel scope X.env).kind=_;exact O.kind,I.ok.glob,I.ok.blt,yV hC,fun x y c h1 h2=>I.ok.inj x y c (hsub x c h1) (hsub y c h2),fun x hx=>?_,fun x c hx _=>absurd (show false=true from hx) xw,I.ok.hd,I.ok.frames,.inl rfl,fun b hb=>⟨?_,fun x c e=>?_⟩,I.bs,xZ I.ok.bsz I.sz,fun b o e hb=>?_,fun b hb=>gC I (hf b hb).2.1 (hf b hb).2.2.1,I.stack,I.stkFree⟩,
  rfl,I.bare,Un.kept old,⟨m,hns,fun i x v e1 e2 e3=>?_⟩,fun x c e=>?_,I.hok.fresh (yV hC),fun x c e=>I.freeC x c (hsub x c e),fun p hp=>?_,I.hok.kept old,?_⟩
 ·obtain⟨c,hc,_⟩:=O.look I.ok (O.free_of hx);exact⟨c,hc⟩
 ·obtain⟨o,e⟩:=ho b hb;exact nC e
 ·exact(hf b hb).2.2.2.2.1 x c (hsub x c e)
 ·rcases(hf b hb).2.2.2.1 with z | z
  ·exact I.ok.noex b o e z
  ·exact absurd (xH (xk e) (xZ I.ok.bsz z)) (zt _)
 ·have e1:(own++X.N)[i]?=some x:=e1;by_cases hi:i<own.length
  ·rw[List.getElem?_append_left (by simpa using hi),List.getElem?_replicate,if_pos hi]at e2;cases e2
  ·rw[List.getElem?_append_right (by simpa using hi),List.length_replicate]at e2;rw[List.getElem?_append_right (by simpa using hi)]at e1;have nl:(compEnvC scope (aA X.env scope.names) C X.env).kindOf x≠some .local:=by
    have e:(compEnvC scope (aA X.env scope.names) C X.env).kindOf x=(scope.names.lookup x).map fun k=>if (k==NameKind.free && X.env.scope.kind==.function && X.env.kindOf x==some .cell)then NameKind.cell else k:=W3 X.env scope.names x
    rw[e];intro z;cases q:scope.names.lookup x with
    |none=>rw[q]at z;simp at z
    |some k=>
     rw[q]at z;by_cases hk:k=.local
     ·exact O.loc x (xL e1) (by rw[q,hk])
     ·have z:some (if (k==NameKind.free && X.env.scope.kind==.function && X.env.kindOf x==some .cell)=true then NameKind.cell else k)=some NameKind.local:=z;by_cases hc:(k==NameKind.free && X.env.scope.kind==.function && X.env.kindOf x==some .cell)=true
      ·rw[xp hc]at z;cases z
      ·rw[xm hc]at z;exact hk (xK z)
   have hv:(compEnvC scope (aA X.env scope.names) C X.env).kindOf x=some .cell∨(compEnvC scope (aA X.env scope.names) C X.env).kindOf x=some .free:=by
    rcases e3 with z | z | z
    ·exact absurd z nl
    ·exact .inl z
    ·exact .inr z
   have hfree:=O.free_of hv;have hout:=O.fr (x,.free) (xX hfree) rfl;obtain⟨m0,hn0,hl0⟩:=I.loc;obtain⟨u,r,l⟩:=hl0 _ x v e1 e2 (hout.elim (fun z=>.inr (.inl z)) fun z=>.inr (.inr z));refine⟨u,r,.inr ⟨hv,?_⟩⟩
   rcases l with⟨k,_⟩|⟨_,c,ec,z⟩
   ·have k':X.env.scope.names.lookup x=some .local:=k
    rcases hout with q | q
    ·rw[q]at k';cases k'
    ·rw[q]at k';cases k'
   ·obtain⟨d,hd1,hd2⟩:=O.look I.ok hfree;rw[ec]at hd2;cases hd2;obtain⟨oc,hoc,hdc⟩:=z;exact⟨c,hd1,oc,old _ _ hoc,hdc⟩
 ·obtain⟨v,o,hoc,hdc⟩:=I.cell x c (hsub x c e);exact⟨v,o,old _ _ hoc,hdc⟩
 ·have hp:p∈X.pn++(Av++[(s.heap.objs.size,lo [] 0)]):=hp;rw[←zP]at hp
  rcases xM.mp hp with hp | hp
  ·obtain⟨e,n,ne,nf,d⟩:=I.pin p hp;exact⟨old _ _ e,n,nC e,gC I ne nf,d⟩
  ·cases xq.mp hp;refine⟨hD,I.hok.fresh (xj _),xx hC,fun z=>?_,fun v z=>by cases z⟩;have z:=I.stkSub _ z
   rcases xv.mp z with z | z
   ·exact absurd z (ym I.lt)
   ·exact I.nofs (xj _) z
 ·show(List.replicate own.length none++σ).length=(own++X.N).length;rw[xn,xn,List.length_replicate,I.len]
theorem Pm{cl:List (Str×Addr)}{C:Addr}{its:List Value}{n:Nat}{σ':St}{H':Hp}{s':Shared}{ys:List V}{h':Heap}(I:Inv X Av σ H s)(hf:∀b∈fp,cj X Av H b)(hC:s.heap.objs.size<C)(I':Inv (cxC X own scope cl C s H fp) (Av++[(s.heap.objs.size,lo its n)]) σ' H' s')(hv:Vals ys its)(hz:ys.length≤sizeLine)(hs:Heap.SameBut C s'.heap h'):
  Inv X Av σ (upd H' s.heap.objs.size (.lst ys)) {s' with heap:=h'}:=by
 obtain⟨eD,nD,neD,_,_⟩:=I'.pin (s.heap.objs.size,lo its n) (xA _ (xA _ xP));have nC:∀{b:Addr}{o:Obj},s.heap.get? b=some o→b≠C:=fun e=>xx (zu (xk e) hC);have nDD:∀{b:Addr}{o:Obj},s.heap.get? b=some o→b≠s.heap.objs.size:=fun e=>xx (xk e);have same:∀{b:Addr}{o:Obj},b≠C→s'.heap.get? b=some o→h'.get? b=some o:=fun hb e=>(hs.2 _ hb).trans e;have fC:H' C=none:=I'.free;have hb:Un (frs X.stack) fp H H' s.heap s'.heap:=I'.base;have hot:∀{b:Addr}{u:HO},H b=some u→b≠s.heap.objs.size:=fun e=>xx (I.hok.lt e);refine I.call' (s':={s' with heap:=h'}) (ch:=fp) I'.os ⟨fun b o e q n1 n2=>same (nC e) (hb.keep b o e q n1 n2),fun b o e q n1 n2=>?_,fun b o e q n2=>?_,fun b o e n2=>?_,fun b xs e=>?_,fun b o u e=>?_,fun b ps e=>?_⟩ ?_ I'.bare fun b hb'=>?_
 ·obtain⟨sl,q2⟩:=hb.slot b o e q n1 n2;exact⟨sl,same (nC e) q2⟩
 ·rw[Ze (nDD e)];exact hb.free b o e q n2
 ·obtain⟨o',q2⟩:=hb.there b o e n2;exact⟨o',same (nC e) q2⟩
 ·rw[Ze (hot e)];exact hb.tups b xs e
 ·rw[Ze (hot e)];exact hb.frzs b o u e
 ·obtain⟨more,q2⟩:=hb.tbls b ps e;exact⟨more,by rw[Ze (hot e)];exact q2⟩
 ·intro b u e;by_cases hbD:b=s.heap.objs.size
  ·subst hbD;rw[Z7]at e;cases e;exact⟨hz,its,n,hv,same neD eD⟩
  ·rw[Ze hbD]at e;have nD':∀{c:Addr}{w:HO},H' c=some w→c≠s.heap.objs.size:=fun q z=>by
    rw[z]at q;have z2:H' s.heap.objs.size=none:=nD;rw[z2]at q;cases q
   refine(I'.hok b u e).stay (fun c v hc q=>same ?_ q) (fun c q=>by rw[Ze (nD' q)];exact q) fun c xs q=>by rw[Ze (nD' q)];exact q
   rintro rfl
   rcases hc with z | z
   ·rw[←z,fC]at e;cases e
   ·rw[fC]at z;cases z
 ·obtain⟨_,f1,_,f3,f4,f5⟩:=hf b hb';exact⟨f3,f1,f4,f5⟩
theorem gB{prog:Program}{w:World}{A:Around}{E:Value→Shared→Prop}{s:Shared}{l:Addr}{its:List Value}{n:Nat}{u:Value}{Q:Value→Shared→Prop}(e:s.heap.get? l=some (lo its n))(hz:its.length≤sizeLine)(h:Q .none {s with heap:=s.heap.update l (Obj.mapSeq (·.push u))}):wpAny (model prog w) A (call (.builtin "list.append") [.ref l,u]) Q E s:=
 call_meets F.slot_list_append ⟨_,e,rfl⟩ F.entry_list_append (F.args_list_append_2 _ _) (PySem.list_append l its.toArray n u (by rw[xO];omega)) ⟨e,h⟩
theorem Po{tg iter elt:Expr}{ifs:List Expr}{pos pos0:Pos}{wi:TI}{g:TG}{tt:TT}{te:TE}{use:Option (Value→Sem Unit)}{Qp:Value→Shared→Prop}{Pc:Cx→Prop}(hpc:∀cl C s H fp,Pc (cxC X own scope cl C s H fp))(O:CompOk X own scope)(hi:PIP Pc X tg iter wi)(hg:∀cl C s H fp,PG (cxC X own scope cl C s H fp) tg g)(ht:∀cl C s H fp,PTs (cxC X own scope cl C s H fp) ifs tt)(he:∀cl C s H fp,PE (cxC X own scope cl C s H fp) elt te)(hs:∀x,foldedSetIterable iter X.env x=pure x){Av:List (Addr×Obj)}{s:Shared}{σ:St}{H:Hp}{Q:VK}(I:Inv X Av σ H s)(h:e_ wi g tt te own.length σ H Q)(fin:∀(s2:Shared) (H2:Hp) (fp:List Addr) (C:Addr) (cl:List (Str×Addr)) (its:List Value) (nn:Nat) (σ':St) (H':Hp) (s5:Shared) (ys:List V),Inv X Av σ H2 s2→(∀b∈fp,cj X Av H2 b)→s2.heap.objs.size<C→
   Inv (cxC X own scope cl C s2 H2 fp) (Av++[(s2.heap.objs.size,lo its nn)]) σ' H' s5→Vals ys its→ys.length≤sizeLine→(∀p,H' p=none→Q (.ref p) (upd H' p (.lst ys)))→
   compPost (model X.prog X.w) X.A X.xe use Qp (.ref s2.heap.objs.size) C (.ok .next) s5):
  wpAny (model X.prog X.w) X.A (comprehension (.ListComp elt [⟨tg,iter,ifs,0⟩] scope pos) scope X.env pos0 (newList []) false (eval iter X.env) use) Qp X.xe s:=by
 refine wpAny_comprehension_free (use:=use) rfl hs (Uo (O.cells I.ok)) O.kind O.names (thn (hi Av s σ H _ I h) fun v s1 h1=>thn h1 fun itv s2 h2=>?_);obtain⟨it,fp,tn,J,H2,rfl,I2,T,st2,f2,W,⟨m0,w0⟩,turn⟩:=h2;refine wpAny_newObj_type (wpAny_newFunctionEnv O.cell (by intro y hy;simp at hy) (fun h₁ hns₁ hsb₁=>?_) O.kind);dsimp only at hns₁ hsb₁ ⊢;generalize hH2:s2.heap.push {cls:=.type "list",dict:=none,data:=.seq ([]:List Value).toArray}=Hh at hns₁ hsb₁ ⊢;have hCs:Hh.objs.size=s2.heap.objs.size+1:=by rw[←hH2,zZ]
 have hC:s2.heap.objs.size<Hh.objs.size:=by rw[hCs];exact z5 _
 have old:∀b o,s2.heap.get? b=some o→h₁.get? b=some o:=fun b o e=>hsb₁.extBut b o (xx (zu (xk e) hC)) (xi _ (hH2 ▸ xi _ e));have hacc:h₁.get? s2.heap.objs.size=some (lo [] 0):=hsb₁.extBut _ _ (xx hC) (xi _ (hH2 ▸ xt _ rfl));have hob:∀b∈fp,∃o,s2.heap.get? b=some o:=fun b hb=>let ⟨o,e,_⟩:=T.obj _ _ st2 b hb;⟨o,e⟩
 have st3:tn 0 h₁:=T.keep _ _ _ st2 fun b _ o e=>old b o e;have pinlt:∀p∈X.pn++Av,p.1<s2.heap.objs.size:=fun p hp=>xk (I2.pin p hp).1;have loop:∀s₃:Shared,s₃={s2 with heap:=h₁,toks:=s2.toks+([]:List (Str×Value)).length}→
   codeAny (model X.prog X.w) X.A (.compLoop (.ListComp elt [⟨tg,iter,ifs,0⟩] scope pos) 0 (.ref it) (.ref s2.heap.objs.size) (compEnvC scope (aA X.env scope.names) Hh.objs.size X.env))
    (compPost (model X.prog X.w) X.A X.xe use Qp (.ref s2.heap.objs.size) Hh.objs.size) s₃:=by
  rintro s₃ rfl;have I3:=nj (tk:=s2.toks+([]:List (Str×Value)).length) O I2 f2 hob hC hacc old hns₁;have stat:∀{o:Obj}{H':Hp},(∀b∈fp,H' b=none)→∀b∈fp,cj (cxC X own scope (aA X.env scope.names) Hh.objs.size s2 H2 fp) (Av++[(s2.heap.objs.size,o)]) H' b:=fun{o H'} hn b hb=>by
   obtain⟨o',eo⟩:=hob b hb;refine⟨hn b hb,xx (zu (xk eo) hC),gC I2 (f2 b hb).2.1 (f2 b hb).2.2.1,.inl hb,fun x c e=>(f2 b hb).2.2.2.2.1 x c (O.sub I2.ok x c e),fun p hp=>?_⟩;have hp:p∈X.pn++(Av++[(s2.heap.objs.size,o)]):=hp;rw[←zP]at hp
   rcases xM.mp hp with hp | hp
   ·exact(f2 b hb).2.2.2.2.2 p hp
   ·cases xq.mp hp;exact ym (xk eo)
  refine eE (fun n s'=>∃i ys its nn σ' H',Inv (cxC X own scope (aA X.env scope.names) Hh.objs.size s2 H2 fp) (Av++[(s2.heap.objs.size,lo its nn)]) σ' H' s'∧Wk σ' (List.replicate own.length none++σ)∧tn i s'.heap∧(∀b∈fp,H' b=none)∧Vals ys its∧W i n ys H')
   ?_ m0 ⟨0,[],[],0,_,H2,I3,Wk.refl _,st3,fun b hb=>(f2 b hb).1,.nil,w0⟩
  rintro n s4 ⟨i,ys,its,nn,σ4,H4,I4',wk4,st4,fr4,vs4,w4⟩;have I4:=I4'.weak (σ':=List.replicate own.length none++σ) wk4.len (fun i v=>wk4.get i v)
  rcases turn i n ys H4 w4 with⟨stop,hz,qn⟩|⟨go,hz,step⟩
  ·refine thn (T.done (cxC X own scope (aA X.env scope.names) Hh.objs.size s2 H2 fp) rfl rfl rfl (hpc _ _ _ _ _) i _ s4 _ H4 (fun _ _=>False) I4 (stat fr4) st4 stop) fun r s5 Aw=>?_;obtain⟨hr,I5⟩:=Aw;subst hr;exact fin s2 H2 fp Hh.objs.size _ its nn _ H4 s5 ys I2 f2 hC I5 vs4 hz qn
  ·refine thn (T.item (cxC X own scope (aA X.env scope.names) Hh.objs.size s2 H2 fp) rfl rfl rfl (hpc _ _ _ _ _) i _ s4 _ H4 (fun _ _=>False) I4 (stat fr4) st4 go) fun r s5 Aw=>?_;obtain⟨u,hr,h5⟩:=Aw;subst hr;refine thn h5 fun _ s6 Aw=>?_;obtain⟨x,H6,I6,r6,y6,st6,fr6⟩:=Aw;have I6':=I6.pinned (stat fr6) (T.obj _ _ st6);refine thn (hg _ _ _ _ _ _ s6 _ H6 x u _ I6' r6 (step x H6 y6)) fun _ s7 Aw=>?_;obtain⟨σ7,H7,I7,wk7,q7⟩:=Aw;refine thn (ht _ _ _ _ _ _ s7 σ7 H7 _ I7 q7) fun ok s8 Aw=>?_;obtain⟨H8,I8,q8⟩:=Aw;have again:∀{σ9:St}{H9:Hp}{s9:Shared},Inv (cxC X own scope (aA X.env scope.names) Hh.objs.size s2 H2 fp) ((Av++[(s2.heap.objs.size,lo its nn)])++de fp s6.heap) σ9 H9 s9→tn (i+1) s9.heap∧∀b∈fp,H9 b=none:=fun{σ9 H9 s9} I9=>
    ⟨T.keep _ _ _ st6 fun b hb o e=>(I9.pin (b,o) (xA _ (xA _ (V7 hb e)))).1,fun b hb=>by
     obtain⟨o,e,d⟩:=T.obj _ _ st6 b hb;exact(I9.pin (b,o) (xA _ (xA _ (V7 hb e)))).2.1⟩
   cases ok with
   |false=>
    rw[xm xw]at q8⊢;obtain⟨m',hm,w8⟩:=q8;obtain⟨a1,a2⟩:=again I8;exact⟨m',hm,i+1,ys,its,nn,σ7,H8,I8.unpinned,wk7,a1,a2,vs4,w8⟩
   |true=>
    rw[xp rfl]at q8⊢;refine thn (he _ _ _ _ _ _ s8 σ7 H8 _ I8 q8) fun yv s9 Aw=>?_;obtain⟨y,H9,I9,r9,m',hm,w9⟩:=Aw;obtain⟨a1,a2⟩:=again I9;obtain⟨eD,nD,neD,nfD,_⟩:=I9.pin (s2.heap.objs.size,lo its nn) (xA _ (yy _ (xA _ xP)));have AJ:=vs4.length;refine gB eD (by omega) ?_;have upd9:=PySem.IsL.update (l:=s2.heap.objs.size) eD (·.push yv);have uother:∀b o,b≠s2.heap.objs.size→s9.heap.get? b=some o→(s9.heap.update s2.heap.objs.size (Obj.mapSeq (·.push yv))).get? b=some o:=fun b o hb e=>(yC s9.heap (Obj.mapSeq (·.push yv)) (Ne.symm hb)).trans e;have I9a:Inv (cxC X own scope (aA X.env scope.names) Hh.objs.size s2 H2 fp) Av σ7 H9 s9:=I9.unpinned.unpinned;have I9b:Inv (cxC X own scope (aA X.env scope.names) Hh.objs.size s2 H2 fp) Av σ7 H9 {s9 with heap:=s9.heap.update s2.heap.objs.size (Obj.mapSeq (·.push yv))}:=
     I9a.turned (t':=s9.toks) uother nD neD (.inr (xj _)) (fun x c e z=>by
      obtain⟨v,o,hoc,_⟩:=I2.cell x c (O.sub I2.ok x c e);exact absurd z (xx (xk hoc))) fun p hp=>xx (pinlt p hp)
    have e2:(its.toArray.push yv)=(its++[yv]).toArray:=by simp
    have upd9':∃n2,(s9.heap.update s2.heap.objs.size (Obj.mapSeq (·.push yv))).get? s2.heap.objs.size=some (lo (its++[yv]) n2):=⟨_,by rw[upd9,e2]⟩;obtain⟨n2,upd9'⟩:=upd9';have I9c:=I9b.pins_of (pins':=Av++[(s2.heap.objs.size,lo (its++[yv]) n2)]) fun p hp=>by
     rcases xM.mp hp with hp | hp
     ·exact I9b.pin p (xA _ hp)
     ·cases xq.mp hp;exact⟨upd9',nD,neD,nfD,fun v z=>by cases z⟩
    refine⟨m',hm,i+1,ys++[y],its++[yv],n2,σ7,H9,I9c,wk7,T.keep _ _ _ a1 fun b hb o e=>uother b o ?_ e,a2,vs4.append (.cons r9 .nil),w9⟩;obtain⟨o',eo⟩:=hob b hb;exact xx (xk eo)
 exact codeAny_compStart_list (loop _ rfl) (T.self _ 0 _ _ _ st3 (loop _ rfl))
theorem pe_compP{Pc:Cx→Prop}{tg iter elt:Expr}{ifs:List Expr}{pos:Pos}{wi:TI}{g:TG}{tt:TT}{te:TE}(hpc:∀cl C s H fp,Pc (cxC X own scope cl C s H fp))(O:CompOk X own scope)(hi:PIP Pc X tg iter wi)(hg:∀cl C s H fp,PG (cxC X own scope cl C s H fp) tg g)(ht:∀cl C s H fp,PTs (cxC X own scope cl C s H fp) ifs tt)(he:∀cl C s H fp,PE (cxC X own scope cl C s H fp) elt te)(hs:∀x,foldedSetIterable iter X.env x=pure x:=by intro _;rfl):
  PE X (.ListComp elt [⟨tg,iter,ifs,0⟩] scope pos) (e_ wi g tt te own.length):=by
 intro Av s σ H Q I h;rw[eval_ListComp];refine Po hpc O hi hg ht he hs I h fun s2 H2 fp C cl its nn σ' H' s5 ys I2 f2 hC I5 vs hz qn=>?_;obtain⟨mm,hnm,_⟩:=I5.loc;exact⟨mm,hnm,fun h' hs'=>⟨.ref s2.heap.objs.size,_,Pm I2 f2 hC I5 vs hz hs',rfl,qn _ (I5.pin (s2.heap.objs.size,lo its nn) (xA _ (xA _ xP))).2.1⟩⟩
theorem Xg{tg iter elt:Expr}{ifs:List Expr}{pos:Pos}{wi:TI}{g:TG}{tt:TT}{te:TE}(O:CompOk X own scope)(hi:PI X tg iter wi)(hg:∀cl C s H fp,PG (cxC X own scope cl C s H fp) tg g)(ht:∀cl C s H fp,PTs (cxC X own scope cl C s H fp) ifs tt)(he:∀cl C s H fp,PE (cxC X own scope cl C s H fp) elt te)(hs:∀x,foldedSetIterable iter X.env x=pure x:=by intro _;rfl)(hc:X.calm=true:=by rfl):
  PE X (.ListComp elt [⟨tg,iter,ifs,0⟩] scope pos) (e_ wi g tt te own.length):=
 pe_compP (Pc:=fun X=>X.calm=true) (fun _ _ _ _ _=>hc) O hi.p hg ht he hs
theorem ps_setCP{Pc:Cx→Prop}{i:Nat}{x:Str}{tg iter elt:Expr}{ifs:List Expr}{pos pos' cpos:Pos}{wi:TI}{g:TG}{tt:TT}{te:TE}(hN:X.N.Nodup)(hix:X.N[i]?=some x)(hl:X.env.scope.names.lookup x=some .local)(hpc:∀cl C s H fp,Pc (cxC X own scope cl C s H fp))(O:CompOk X own scope)(hi:PIP Pc X tg iter wi)(hg:∀cl C s H fp,PG (cxC X own scope cl C s H fp) tg g)(ht:∀cl C s H fp,PTs (cxC X own scope cl C s H fp) ifs tt)(he:∀cl C s H fp,PE (cxC X own scope cl C s H fp) elt te)(hs:∀x,foldedSetIterable iter X.env x=pure x:=by intro _;rfl)(hsw:swapsWith (.ListComp elt [⟨tg,iter,ifs,0⟩] scope cpos) (some (.Name x pos')) pos.line X.env=pure true:=by rfl):
  PS X (.Assign [.Name x pos'] (.ListComp elt [⟨tg,iter,ifs,0⟩] scope cpos) pos) (nG (e_ wi g tt te own.length) (eX i)):=by
 intro Av s σ H D I h;rw[exec_Assign_Name_used _ _ _ _ hsw];refine io (wpAny_standAt (io (m:=evalThenUse _ X.env _) ?_));show wpAny _ _ (comprehension (.ListComp elt [⟨tg,iter,ifs,0⟩] scope cpos) scope X.env _ (newList []) false (eval iter X.env) (some (assign (.Name x pos') X.env)) >>= fun _=>_) _ _ s;refine io (thn (Po (Qp:=fun _ s'=>SP X Av D .next s') hpc O hi hg ht he hs I h fun s2 H2 fp C cl its nn σ' H' s5 ys I2 f2 hC I5 vs hz qn=>?_) fun _ s' hq=>pi (pi hq));have Ix:Inv X Av σ (upd H' s2.heap.objs.size (.lst ys)) s5:=Pm I2 f2 hC I5 vs hz (Heap.SameBut.refl _ _);obtain⟨mm,hnm,_⟩:=I5.loc;have fC:H' C=none:=I5.free;have nCD:C≠s2.heap.objs.size:=ym hC;refine wpAny_assign_Name (P1 (v:=.ref s2.heap.objs.size) Ix hN hix (.inl hl) rfl (fun s6 I6 sb=>?_) (.inr hl));obtain⟨a,sb,ha⟩:=sb;have nLC:X.env.locals≠C:=xx (zu I2.lt hC);have cC:∀y c,X.env.cells.lookup y=some c→c≠C:=fun y c e=>by
  obtain⟨v,o,ho,_⟩:=I2.cell y c e;exact xx (zu (xk ho) hC)
 have naC:C≠a:=by
  rcases ha with rfl | ha
  ·exact Ne.symm nLC
  ·exact Ne.symm (cC x a ha)
 refine⟨mm,hnm.sameBut sb naC,fun h' hs'=>⟨_,_,I6.turned (t':=s6.toks) (fun b o hb e=>(hs'.2 b hb).trans e) (by rw[Ze nCD];exact fC) (Ne.symm nLC) (.inr (xZ I2.sz (yV hC))) cC (fun p hp=>xx (zu (xk (I2.pin p hp).1) hC)),qn _ (I5.pin (s2.heap.objs.size,lo its nn) (xA _ (xA _ xP))).2.1⟩⟩
theorem i9{i:Nat}{x:Str}{tg iter elt:Expr}{ifs:List Expr}{pos pos' cpos:Pos}{wi:TI}{g:TG}{tt:TT}{te:TE}(hN:X.N.Nodup)(hix:X.N[i]?=some x)(hl:X.env.scope.names.lookup x=some .local)(O:CompOk X own scope)(hi:PI X tg iter wi)(hg:∀cl C s H fp,PG (cxC X own scope cl C s H fp) tg g)(ht:∀cl C s H fp,PTs (cxC X own scope cl C s H fp) ifs tt)(he:∀cl C s H fp,PE (cxC X own scope cl C s H fp) elt te)(hs:∀x,foldedSetIterable iter X.env x=pure x:=by intro _;rfl)(hsw:swapsWith (.ListComp elt [⟨tg,iter,ifs,0⟩] scope cpos) (some (.Name x pos')) pos.line X.env=pure true:=by rfl)(hc:X.calm=true:=by rfl):
  PS X (.Assign [.Name x pos'] (.ListComp elt [⟨tg,iter,ifs,0⟩] scope cpos) pos) (nG (e_ wi g tt te own.length) (eX i)):=
 ps_setCP (Pc:=fun X=>X.calm=true) hN hix hl (fun _ _ _ _ _=>hc) O hi.p hg ht he hs hsw
end
section
variable{X:Cx}{pos:Pos}
theorem V5(K:W.Frag)(n:Nat){es:List Expr}{k:Nat}{t:TGs}(hK:X.K=K)(hc:X.calm=true)(h:PGs X es t)(hn:(assignEach es X.env).length=n:=by rfl)(hst:(assignEach es X.env).findIdx? (·.1)=none:=by rfl):PG X (.Tuple es k pos) (uX K n t):=by
 subst hK;exact Yv hc h hn hst
theorem pB(K:W.Frag)(hK:X.K=K):IxR X (vA K):=by subst hK;exact Y8
end
mutual
inductive DV(H:Hp):V→PyData→Prop
 |non:DV H .non .none
 |bl (b:Bool):DV H (.bl b) (.bool b)
 |int (i:Int):DV H (.int i) (.int i)
 |str (x:Str):DV H (.str x) (.str x)
 |lst {a:Addr} {xs:List V} {ds:List PyData}:H a=some (.lst xs)→DVs H xs ds→DV H (.ref a) (.list ds)
 |tup {a:Addr} {xs:List V} {ds:List PyData}:H a=some (.tup xs)→DVs H xs ds→DV H (.ref a) (.tuple ds)
inductive DVs(H:Hp):List V→List PyData→Prop
 |nil:DVs H [] []
 |cons {v:V} {vs:List V} {d:PyData} {ds:List PyData}:DV H v d→DVs H vs ds→DVs H (v::vs) (d::ds)
end
mutual
theorem DV.mono{H H':Hp}(g:Same H H'):∀{v:V}{d:PyData},DV H v d→DV H' v d
 |_,_,.non=>.non
 |_,_,.bl b=>.bl b
 |_,_,.int i=>.int i
 |_,_,.str x=>.str x
 |_,_,.lst e r=>.lst (g _ _ e) (DVs.mono g r)
 |_,_,.tup e r=>.tup (g _ _ e) (DVs.mono g r)
theorem DVs.mono{H H':Hp}(g:Same H H'):∀{vs:List V}{ds:List PyData},DVs H vs ds→DVs H' vs ds
 |_,_,.nil=>.nil
 |_,_,.cons h r=>.cons (DV.mono g h) (DVs.mono g r)
end
theorem DVs.length{H:Hp}:∀{vs:List V}{ds:List PyData},DVs H vs ds→vs.length=ds.length
 |_,_,.nil=>rfl
 |_,_,.cons _ r=>zG (·+1) r.length
theorem DVs.getV{H:Hp}:∀{vs:List V}{ds:List PyData}{i:Nat}{v:V},DVs H vs ds→vs[i]?=some v→∃d,ds[i]?=some d∧DV H v d
 |_,_,_,_,.nil,e=>by simp at e
 |_,_,0,_,.cons h _,e=>by simp at e;subst e;exact⟨_,rfl,h⟩
 |_,_,i+1,d,.cons _ r,e=>by
  obtain⟨v,h1,h2⟩:=DVs.getV (i:=i) (v:=d) r (by simpa using e);exact⟨v,by simpa using h1,h2⟩
section
variable{X:Cx}{Av:List (Addr×Obj)}{σ:St}{H:Hp}{s:Shared}
mutual
theorem DV.reads(I:Inv X Av σ H s):∀{v:V}{d:PyData}{u:Value},DV H v d→RelV v u→∃as,Reads s.heap u d as
 |_,_,_,.non,r=>by cases r;exact⟨_,Reads.none⟩
 |_,_,_,.bl b,r=>by cases r;exact⟨_,Reads.bool b⟩
 |_,_,_,.int i,r=>by obtain⟨t,rfl⟩:=r;exact⟨_,Reads.int i t⟩
 |_,_,_,.str x,r=>by obtain⟨t,rfl⟩:=r;exact⟨_,Reads.str x t⟩
 |_,_,_,.lst e q,r=>by
  cases r;obtain⟨its,n,rv,ho,_⟩:=I.lst e;obtain⟨as,p⟩:=DVs.reads I q rv;exact⟨_,reads_list_at ho rfl rfl (by simpa using p)⟩
 |_,_,_,.tup e q,r=>by
  cases r;obtain⟨its,rv,⟨o,ho,hc,n,hd⟩,_⟩:=I.tuple (SqT.of e);obtain⟨as,p⟩:=DVs.reads I q rv;exact⟨_,reads_tuple_at ho hc hd (by simpa using p)⟩
theorem DVs.reads(I:Inv X Av σ H s):∀{vs:List V}{ds:List PyData}{us:List Value},DVs H vs ds→Vals vs us→∃as,ReadsAll s.heap us ds as
 |_,_,_,.nil,r=>by cases r;exact⟨_,ReadsAll.nil⟩
 |_,_,_,.cons h t,r=>by
  cases r with
  |cons r1 r2=>
   obtain⟨as,p⟩:=DV.reads I h r1;obtain⟨bs,q⟩:=DVs.reads I t r2;exact⟨_,ReadsAll.cons p q⟩
end
end
def rEqD:R2:=fun x y H Q=>∃d e,DV H x d∧DV H y e∧SeqAt.shaped d=true∧SeqAt.shaped e=true∧Q (.bl (PyData.eqv d e)) H
def rNeD:R2:=fun x y H Q=>∃d e,DV H x d∧DV H y e∧SeqAt.shaped d=true∧SeqAt.shaped e=true∧Q (.bl (!PyData.eqv d e)) H
section
variable{X:Cx}
theorem m8(hu:X.A.units+64<cLine):OpR X (compareOp .Eq) rEqD:=by
 intro Av s σ H x y v u Q I rx ry h;obtain⟨d,e,h1,h2,s1,s2,q⟩:=h;obtain⟨as,p1⟩:=h1.reads I rx;obtain⟨bs,p2⟩:=h2.reads I ry;exact eq_dataH p1 p2 s1 s2 hu ⟨.bl _,H,I,rfl,q⟩
theorem oC(hu:X.A.units+64<cLine):OpR X (compareOp .NotEq) rNeD:=by
 intro Av s σ H x y v u Q I rx ry h;obtain⟨d,e,h1,h2,s1,s2,q⟩:=h;obtain⟨as,p1⟩:=h1.reads I rx;obtain⟨bs,p2⟩:=h2.reads I ry;exact ne_dataH p1 p2 s1 s2 hu ⟨.bl _,H,I,rfl,q⟩
def rIs(K:W.Frag):List V→Hp→VK→Prop:=fun xs H Q=>∃x t T b,xs=[x,.ty T]∧TyOf K H x t∧W.kitOne K t (.type T)=some b∧Q (.bl b) H
theorem Ys:aH X (.builtin "isinstance") (rIs X.K):=by
 intro Av s σ H xs us Q I r h;obtain⟨x,t,T,b,rfl,ty,e,q⟩:=h;obtain⟨u,w',rfl,ru,rt⟩:=iI r;cases (show w'=Value.type T from rt);exact jE I ru ty e fun tk=>⟨.bl b,H,I.tok _,rfl,q⟩
end
structure Has(P:Program)(w:World)(K:W.Frag)(mg:Str→Option Value)(base:Heap)(x:Str)(k:Nat)(ps:List Str)(sp:Sp):Prop where
 ex:∃f fd,FnOk P w K mg base CX0 k f fd ps sp∧Binds K fd ps []∧W.keepIn K (.ref f)=true∧mg x=some (.ref f)
section
variable{X:Cx}{j k:Nat}{ps:List Str}{sp:Sp}{x:Str}{p pos:Pos}{e:Expr}{es:List Expr}{t:TA}
theorem Z6(h:Has X.prog X.w X.K X.mg X.base x j ps sp)(hr:Room k X.A)(ha:PA X (e::es) t)(hg:Gl X x:=by rfl)(hj:j≤k:=by first | decide | omega)(hdb:(x==("__debug__":Str))=false:=by decide)(he:starEach (e::es) X.env=(false,eval e X.env)::starEach es X.env:=by rfl)(hpl:(backTo pos (starEach es X.env)).any (·.1)=false:=by rfl):
  PE X (.Call (.Name x p) (e::es) [] pos) (rE sp [] E0 t):=by
 intro Av s σ H Q I q;obtain⟨f,fd,F,b,kp,m⟩:=h.ex;refine qr (CX:=CX0) (E:=E0) (dvs:=[]) (F.mono hj) hr hg m kp b .nil ?_ ha hdb he hpl Av s σ H Q I q;exact fun _ _ _ _ _ _ _ z=>z.elim
end
def ag(a:Addr)(H:Hp):Hp:=fun b=>if b=a then none else H b
theorem Pd{a:Addr}{H:Hp}:ag a H a=none:=by unfold ag;rw[xp rfl]
theorem Zf{a b:Addr}{H:Hp}(h:b≠a):ag a H b=H b:=by unfold ag;rw[xm h]
theorem Z3{a b:Addr}{H:Hp}{o:HO}(h:ag a H b=some o):b≠a∧H b=some o:=by
 unfold ag at h;by_cases e:b=a
 ·rw[xp e]at h;cases h
 ·rw[xm e]at h;exact⟨e,h⟩
theorem V0{a:Addr}{H:Hp}:Same (ag a H) H:=fun _ _ h=>(Z3 h).2
theorem Z9{H:Hp}{p:Addr}(h:H p=none)(o:HO):Same H (upd H p o):=fun b u q=>by rw[Ze (Zk q h)];exact q
abbrev Grw(a:Addr)(H H':Hp):Prop:=Same (ag a H) (ag a H')
theorem lC{a:Addr}{H H':Hp}{o:HO}(ha:H a=some o)(g:Same H H'):Grw a H H':=fun b u q=>by
 obtain⟨h1,h2⟩:=Z3 q;rw[Zf h1];exact g b u h2
theorem We{a:Addr}{H:Hp}{o:HO}:Grw a H (upd H a o):=fun b u q=>by
 obtain⟨h1,h2⟩:=Z3 q;rw[Zf h1,Ze h1];exact h2
theorem mO{a p:Addr}{H:Hp}{o:HO}(h:H p=none):Grw a H (upd H p o):=fun b u q=>by
 obtain⟨h1,h2⟩:=Z3 q;rw[Zf h1,Ze (Zk h2 h)];exact h2
theorem Xb{j:Int}(h:decide (0<j)=true):0<j:=xy h
theorem ltI{i j:Int}(h:decide (i<j)=true):i<j:=xy h
theorem leI{i j:Int}(h:decide (i≤j)=true):i≤j:=xy h
theorem leN{i j:Nat}(h:decide (i≤j)=true):i≤j:=xy h
theorem wk{i j:Int}(h1:decide (0<j)=true)(h2:decide (j<1073741824)=true):xf i j:=⟨xy h1,xy h2⟩
theorem Np{i j:Int}(h1:decide (0≤j)=true)(h2:decide (j≤1000000)=true)(h3:decide (i.natAbs<2^64)=true):sI i j:=⟨xy h1,xy h2,xy h3⟩
theorem kf{i j:Int}(h1:decide (-(2^64)<i)=true)(h2:decide (i<2^64)=true):CMul i j:=Or.inl ⟨xy h1,xy h2⟩
theorem mulR{i j:Int}(h1:decide (-(2^64)<j)=true)(h2:decide (j<2^64)=true):CMul i j:=Or.inr ⟨xy h1,xy h2⟩
theorem vj(x m y:Int)(h0:decide (0<m)=true)(h1:decide (m<4294967296)=true):CMul (x % m) y:=by
 have h0:=xy h0;have h1:=xy h1;exact Or.inl ⟨by have:=zF x (show m≠0 by omega);omega,by have:=yS x h0;omega⟩
theorem ww(a b c:V):atI [a,b,c] 0=some a:=rfl
theorem rW(a b c:V):atI [a,b,c] 1=some b:=rfl
theorem i8(a b c:V):atI [a,b,c] 2=some c:=rfl
theorem nV{α:Type}{xs:List α}{i:Int}(h0:0≤i)(h1:i<xs.length):∃v,atI xs i=some v∧v∈xs:=by
 have hi:i.toNat<xs.length:=by omega
 have e:((i.toNat:Nat):Int)=i:=by omega
 refine⟨xs[i.toNat],?_,z6 hi⟩;have q:=Ug (xs:=xs) (j:=i.toNat) (v:=xs[i.toNat]) (xz hi);rw[e]at q;exact q
theorem Zq{n:Nat}(h:n≤1000000):n≤sizeLine:=xZ h (by decide)
theorem Zx{n:Nat}(h:n<1000000):n<sizeLine:=xH h (by decide)
theorem hW{lo:Int}{n k:Nat}{g:TG}{tt:TT}{te:TE}{σ:St}{H:Hp}{Q:VK}(Pv:Nat→List V→Hp→Prop)(h0:Pv 0 [] H)(hs:∀i ys H (C:List V→Hp→Prop),i<n→Pv i ys H→(∀ys' H',Pv (i+1) ys' H'→C ys' H')→ys.length<sizeLine∧g (.int (lo+i)) (List.replicate k none++σ) H fun σ2 H2=>Wk σ2 (List.replicate k none++σ)∧tt σ2 H2 fun ok H3=>
   if ok=true then te σ2 H3 fun y H4=>C (ys++[y]) H4 else C ys H3)(hd:∀ys H,Pv n ys H→ys.length≤sizeLine∧∀p,H p=none→Q (.ref p) (upd H p (.lst ys))):
  CompR (Itr lo n) H k g tt te σ Q:=by
 refine⟨fun i m ys H=>m=n-i∧i≤n∧Pv i ys H,⟨n,by simp,Nat.zero_le _,h0⟩,?_⟩;rintro i m ys H ⟨rfl,hi,p⟩;by_cases AA:i<n
 ·have q:=hs i ys H (fun ys' H'=>∃m',m'<n-i∧m'=n-(i+1)∧i+1≤n∧Pv (i+1) ys' H') AA p fun ys' H' p'=>⟨_,by omega,rfl,AA,p'⟩;refine .inr ⟨AA,q.1,fun x H' y=>?_⟩;obtain⟨e,y⟩:=y;subst e y;exact q.2
 ·have e:i=n:=by omega
  subst e;exact .inl ⟨xj _,hd ys H p⟩
theorem Pl{K:W.Frag}{a:Addr}{xs:List V}{k:Nat}{g:TG}{tt:TT}{te:TE}{σ:St}{H:Hp}{Q:VK}(Pv:Nat→List V→Hp→Prop)(h0:Pv 0 [] H)(hl:∀i ys H,i≤xs.length→Pv i ys H→SqL K H a xs)(hs:∀i x ys H (C:List V→Hp→Prop),xs[i]?=some x→Pv i ys H→(∀ys' H',Pv (i+1) ys' H'→C ys' H')→ys.length<sizeLine∧g x (List.replicate k none++σ) H fun σ2 H2=>Wk σ2 (List.replicate k none++σ)∧tt σ2 H2 fun ok H3=>
   if ok=true then te σ2 H3 fun y H4=>C (ys++[y]) H4 else C ys H3)(hd:∀ys H,Pv xs.length ys H→ys.length≤sizeLine∧∀p,H p=none→Q (.ref p) (upd H p (.lst ys))):
  CompR (Itl K a) H k g tt te σ Q:=by
 refine⟨fun i m ys H=>m=xs.length-i∧i≤xs.length∧Pv i ys H,⟨xs.length,by simp,Nat.zero_le _,h0⟩,?_⟩;rintro i m ys H ⟨rfl,hi,p⟩;have q:=hl i ys H hi p;by_cases AA:i<xs.length
 ·have r:=hs i xs[i] ys H (fun ys' H'=>∃m',m'<xs.length-i∧m'=xs.length-(i+1)∧i+1≤xs.length∧Pv (i+1) ys' H') (by simp[AA]) p fun ys' H' p'=>⟨_,by omega,rfl,AA,p'⟩;refine .inr ⟨⟨xs,xs[i],q,by simp[AA]⟩,r.1,fun x H' y=>?_⟩;obtain⟨e,y⟩:=y;subst e;have ex:xs[i]?=some x:=y xs q;have ex2:xs[i]=x:=by simpa [AA] using ex
  rw[←ex2];exact r.2
 ·have e:i=xs.length:=by omega
  subst e;exact .inl ⟨⟨xs,q,xj _⟩,hd ys H p⟩
structure Th where
 day:Int
 word:Str
 num:Int
 many:Int
def Th.D(t:Th):PyData:=.tuple [.int t.day,.str t.word,.int t.num,.int t.many]
def Th.vs(t:Th):List V:=[.int t.day,.str t.word,.int t.num,.int t.many]
theorem Th.dv{H:Hp}{r:Addr}{t:Th}(h:H r=some (.tup t.vs)):DV H (.ref r) t.D:=.tup h (.cons (.int _) (.cons (.str _) (.cons (.int _) (.cons (.int _) .nil))))
inductive Tr where
 |leaf (ts:List Th)
 |node (l r:Tr)
abbrev rh(ts:List Th):PyData:=.list (ts.map Th.D)
def Tr.D:Tr→PyData
 |.leaf ts=>rh ts
 |.node l r=>.tuple [.str "merged",l.D,r.D]
def Tr.streams:Tr→List (List Th)
 |.leaf ts=>[ts]
 |.node l r=>l.streams++r.streams
def Tr.size:Tr→Nat
 |.leaf _=>1
 |.node l r=>l.size+r.size+1
def Tr.ht:Tr→Nat
 |.leaf _=>0
 |.node l r=>max l.ht r.ht+1
def Tr.all:Tr→List Th
 |.leaf ts=>ts
 |.node l r=>l.all++r.all
theorem Tr.all_eq:∀t:Tr,t.all=t.streams.flatten
 |.leaf ts=>by simp[Tr.all,Tr.streams]
 |.node l r=>by
  show l.all++r.all=(l.streams++r.streams).flatten;rw[List.flatten_append,all_eq l,all_eq r]
theorem iX{α:Type}{f:α→PyData}{n:Nat}:∀(xs:List α),(∀x∈xs,(f x).canLay0=true∧(f x).depth≤n)→PyData.canLayAll0 (xs.map f)=true∧PyData.depthAll (xs.map f)≤n
 | [],_=>by simp[PyData.canLayAll0,PyData.depthAll]
 |x::xs,h=>by
  have h1:=h x xP;have h2:=iX xs fun y hy=>h y (xV _ hy);rw[xu,PyData.canLayAll0,PyData.depthAll,h1.1,h2.1];exact⟨rfl,Nat.max_le.mpr ⟨h1.2,h2.2⟩⟩
theorem eJ{α:Type}{f:α→PyData}{n:Nat}(xs:List α)(h:∀x∈xs,(f x).canLay0=true∧(f x).depth≤n):(PyData.list (xs.map f)).canLay0=true∧(PyData.list (xs.map f)).depth≤n+1:=by
 have q:=iX xs h;rw[PyData.canLay0,PyData.depth];exact⟨q.1,Nat.succ_le_succ q.2⟩
theorem X8{d:PyData}{n:Nat}(h:d.canLay0=true∧d.depth≤n)(hn:n≤64):SeqAt.shaped d=true:=by
 unfold SeqAt.shaped;rw[h.1,Bool.true_and];exact xB (xZ h.2 hn)
theorem Ou(ds:List PyData):PyData.eqv (.list ds) (.list [])=ds.isEmpty:=by
 cases ds <;> simp[PyData.eqv,PyData.eqvAll]
theorem DV.list_inv{H:Hp}{v:V}{ds:List PyData}(h:DV H v (.list ds)):∃a xs,v=.ref a∧H a=some (.lst xs)∧DVs H xs ds:=by
 cases h with
 |lst e r=>exact⟨_,_,rfl,e,r⟩
theorem DV.tup_inv{H:Hp}{v:V}{ds:List PyData}(h:DV H v (.tuple ds)):∃a xs,v=.ref a∧H a=some (.tup xs)∧DVs H xs ds:=by
 cases h with
 |tup e r=>exact⟨_,_,rfl,e,r⟩
theorem DVs.cons_inv{H:Hp}{vs:List V}{d:PyData}{ds:List PyData}(h:DVs H vs (d::ds)):∃x r,vs=x::r∧DV H x d∧DVs H r ds:=by
 cases h with
 |cons a b=>exact⟨_,_,rfl,a,b⟩
theorem DVs.nil_inv{H:Hp}{vs:List V}(h:DVs H vs []):vs=[]:=by
 cases h with
 |nil=>rfl
theorem DV.node_inv{H:Hp}{v:V}{l r:Tr}(h:DV H v (Tr.node l r).D):∃a m x y,v=.ref a∧H a=some (.tup [m,x,y])∧DV H x l.D∧DV H y r.D:=by
 obtain⟨a,xs,rfl,e,q⟩:=DV.tup_inv h;obtain⟨m,r1,rfl,_,q1⟩:=q.cons_inv;obtain⟨x,r2,rfl,hx,q2⟩:=q1.cons_inv;obtain⟨y,r3,rfl,hy,q3⟩:=q2.cons_inv;have:=q3.nil_inv;subst this;exact⟨a,m,x,y,rfl,e,hx,hy⟩
theorem fI{H H':Hp}{a:Addr}{o:HO}(g:Same H H')(h:H a=none):Same H (upd H' a o):=fun b u q=>by rw[Ze (Zk q h)];exact g b u q
theorem Has.of{P:Program}{w:World}{K:W.Frag}{mg:Str→Option Value}{base:Heap}{x:Str}{k:Nat}{ps:List Str}{sp:Sp}{f:Addr}{fd:FuncData}(F:FnOk P w K mg base CX0 k f fd ps sp)(b:Binds K fd ps [])(kp:W.keepIn K (.ref f)=true)(m:mg x=some (.ref f)):
  Has P w K mg base x k ps sp:=⟨f,fd,F,b,kp,m⟩
theorem pj{P:Program}{w:World}{K:W.Frag}{mg:Str→Option Value}{base:Heap}{k:Nat}{ps:List Str}{sp:Sp}{f:Addr}{fd:FuncData}(no:∀vs H Q E,¬sp vs H Q E):FnOk P w K mg base CX0 k f fd ps sp:=
 ⟨fun vs H Q E h=>absurd h (no vs H Q E),fun A outer s H args us vs Q E _ _ _ _ h=>absurd h (no vs H Q E)⟩
def wu(t T:String):Option Bool:=if (Value.type t==Value.type T)=true then some true else if W.kitMeta T=true then(PySem.fastBuiltinMro t).map (·.contains (.type T))else none
theorem oK{K:W.Frag}{t T:String}{b:Bool}(h:wu t T=some b):W.kitOne K (.type t) (.type T)=some b:=h
theorem uC{K:W.Frag}:W.kitOne K (.type "list") (.type "list")=some true:=oK (by decide +kernel)
theorem si{K:W.Frag}:W.kitOne K (.type "tuple") (.type "list")=some false:=oK (by decide +kernel)
section
variable{X:Cx}
theorem pM{ns:List Int}{us:List Value}(r:Vals (ns.map V.int) us){i:Nat}{u:Value}(h:us[i]?=some u):∃t,u=.int (ns.getD i 0) t:=IntsAre.int_at (T1 r) i u h
theorem V1(hc:X.calm=true):aH X (.builtin "sum") (fun xs H Q=>∃(p:Addr)(ns:List Int),xs=[.ref p]∧SqL X.K H p (ns.map V.int)∧Q (.int ns.sum) H):=by
 intro Av s σ H xs us Q I r h;obtain⟨p,ns,rfl,hq,q⟩:=h;obtain⟨u,rfl,ru⟩:=X6 r;cases ru;obtain⟨its,rv,pl,hz⟩:=I.list hq;have hl:=rv.length;rw[xh]at hl;have AA:p<s.heap.objs.size:=by
  obtain⟨o,n,e,_⟩:=pl;exact xk e
 refine call_sum_walkG (Ak pl.isList ?_);have hh:X.A.in1.handled=none:=by simpa using I.ok.hd hc
 refine⟨s.heap.objs.size,_,_,_,_,_,fun i=>ns.getD i 0,rfl,Walks.list hh _ p (xx AA) its.toArray,⟨⟨_,xt _ rfl,rfl,rfl⟩,pl.isList.push _⟩,fun b hb=>?_,fun i v hv=>?_,fun h' tk t' kp=>?_⟩
 ·rw[zZ]
  rcases xv.mp hb with e | e
  ·rw[e];exact z5 _
  ·rw[xq.mp e];exact zD AA
 ·exact pM rv (by simpa using hv)
 ·have e:preSum (fun i=>ns.getD i 0) its.toArray.size=ns.sum:=by
   rw[PyProof.Rows.preSum_getD,xO,←hl,yc]
  rw[e];refine⟨.int ns.sum,H,I.kept fun b o eb=>kp b o ?_ (xi _ eb),⟨_,rfl⟩,q⟩;intro hb;rw[xq.mp hb]at eb;exact absurd (xk eb) (zt _)
end
section
variable{prog:Program}{w:World}{A:Around}{R:Result→Shared→Prop}{I:Addr}{fp wr:List Addr}{n:Nat}{P:Nat→Value→Prop}{St:Nat→Heap→Prop}
end
variable{prog:Program}{w:World}{A:Around}{E:Value→Shared→Prop}{s:Shared}
section
variable{X:Cx}
end
theorem DV.th_inv{H:Hp}{v:V}{t:Th}(h:DV H v t.D):∃c,v=.ref c∧H c=some (.tup t.vs):=by
 obtain⟨c,xs,rfl,e,q⟩:=DV.tup_inv h;obtain⟨_,_,rfl,k1,q⟩:=q.cons_inv;obtain⟨_,_,rfl,k2,q⟩:=q.cons_inv;obtain⟨_,_,rfl,k3,q⟩:=q.cons_inv;obtain⟨_,_,rfl,k4,q⟩:=q.cons_inv;have:=q.nil_inv;subst this;cases k1;cases k2;cases k3;cases k4;exact⟨c,rfl,e⟩
theorem DVs.th_at{H:Hp}{xs:List V}{ts:List Th}{i:Nat}{x:V}(h:DVs H xs (ts.map Th.D))(hx:xs[i]?=some x):∃t c,ts[i]?=some t∧x=.ref c∧H c=some (.tup t.vs)∧t∈ts:=by
 obtain⟨d,hd,dv⟩:=DVs.getV h hx;rw[xE]at hd;obtain⟨t,ht,rfl⟩:=yD.mp hd;obtain⟨c,rfl,e⟩:=DV.th_inv dv;exact⟨t,c,ht,rfl,e,xL ht⟩
theorem Yl{α:Type}{l:List α}{i:Nat}{x:α}(h:l[i]?=some x):l.take (i+1)=l.take i++[x]:=by rw[List.take_add_one,h];rfl
section
variable{κ:Type}[DecidableEq κ]
def aS(kvs:List (κ×V))(k:κ):Option V:=(kvs.find? fun kv=>decide (kv.1=k)).map (·.2)
def bc(kvs:List (κ×V))(k:κ)(v:V):List (κ×V):=
 if (kvs.any fun kv=>decide (kv.1=k))=true then kvs.map (fun kv=>if kv.1=k then(kv.1,v)else kv)else kvs++[(k,v)]
def bF(kvs:List (κ×V))(k:κ):List (κ×V):=kvs.filter fun kv=>decide (kv.1≠k)
theorem Yg{p:κ×V}{r:List (κ×V)}{k:κ}(e:p.1=k):aS (p::r) k=some p.2:=by simp[aS,List.find?_cons,e]
theorem Ye{p:κ×V}{r:List (κ×V)}{k:κ}(e:¬p.1=k):aS (p::r) k=aS r k:=by simp[aS,List.find?_cons,e]
theorem Wm(k:κ):∀kvs:List (κ×V),(kvs.any fun kv=>decide (kv.1=k))=(aS kvs k).isSome
 | []=>rfl
 |p::r=>by
  rw[List.any_cons];by_cases e:p.1=k
  ·simp only[Yg e,decide_eq_true e,Bool.true_or,Option.isSome_some]
  ·rw[Ye e,yk e,Bool.false_or];exact Wm k r
theorem N8(k j:κ)(y:V):∀kvs:List (κ×V),aS (kvs.map fun kv=>if kv.1=k then(kv.1,y)else kv) j=(aS kvs j).map fun x=>if j=k then y else x
 | []=>rfl
 |p::r=>by
  have ih:=N8 k j y r;rw[xu];by_cases h:p.1=k
  ·rw[xp h];by_cases e:p.1=j
   ·rw[Yg (p:=(p.1,y)) e,Yg e,Option.map_some,xp (e.symm.trans h)]
   ·rw[Ye (p:=(p.1,y)) e,Ye e,ih]
  ·rw[xm h];by_cases e:p.1=j
   ·rw[Yg (p:=p) e,Yg e,Option.map_some,xm (fun z=>h (e.trans z))]
   ·rw[Ye (p:=p) e,Ye e,ih]
theorem Qx(k j:κ)(y:V):∀kvs:List (κ×V),aS kvs k=none→aS (kvs++[(k,y)]) j=if j=k then some y else aS kvs j
 | [],_=>by
  by_cases e:k=j
  ·rw[xp e.symm];exact Yg (p:=(k,y)) e
  ·rw[xm (fun z=>e z.symm)];exact Ye (p:=(k,y)) e
 |p::r,hn=>by
  rw[List.cons_append];have hk:¬p.1=k:=fun z=>by rw[Yg z]at hn;cases hn
  rw[Ye hk]at hn;have ih:=Qx k j y r hn;by_cases e:p.1=j
  ·rw[Yg e,Yg e,xm (fun z=>hk (e.trans z))]
  ·rw[Ye e,Ye e,ih]
theorem lZ(kvs:List (κ×V))(k j:κ)(y:V):aS (bc kvs k y) j=if j=k then some y else aS kvs j:=by
 unfold bc;by_cases a:(kvs.any fun kv=>decide (kv.1=k))=true
 ·rw[xp a,N8];rw[Wm]at a;by_cases e:j=k
  ·obtain⟨x,hx⟩:=Option.isSome_iff_exists.mp a;rw[xp e,e,hx,Option.map_some,xp rfl]
  ·rw[xm e];cases aS kvs j with
   |none=>rfl
   |some x=>rw[Option.map_some,xm e]
 ·rw[xm a];refine Qx k j y kvs ?_;rw[Wm]at a;cases q:aS kvs k with
  |none=>rfl
  |some x=>rw[q]at a;exact(a rfl).elim
theorem Sh(kvs:List (κ×V))(k:κ)(v:V):(bc kvs k v).length≤kvs.length+1:=by
 unfold bc
 split
 ·rw[xh];omega
 ·rw[xn,xD,yF];omega
theorem oH{kvs:List (κ×V)}{k:κ}(v:V)(h:aS kvs k=none):bc kvs k v=kvs++[(k,v)]:=by
 unfold bc;rw[Wm,h];exact xm (by decide)
theorem RelO.isSome_eq{o:Option V}{u:Option Value}(r:RelO o u):o.isSome=u.isSome:=by
 cases o with
 |none=>cases u with
  |none=>rfl
  |some _=>exact(show False from r).elim
 |some _=>cases u with
  |none=>exact(show False from r).elim
  |some _=>rfl
theorem RelO.getD{o:Option V}{u:Option Value}{d:V}{d':Value}(r:RelO o u)(rd:RelV d d'):RelV (o.getD d) (u.getD d'):=by
 cases o with
 |none=>cases u with
  |none=>exact rd
  |some _=>exact(show False from r).elim
 |some _=>cases u with
  |none=>exact(show False from r).elim
  |some _=>exact r
theorem KV.val{kvs:List (κ×V)}{vs:List (κ×Value)}(r:KV kvs vs)(k:κ):RelO (aS kvs k) (valueAt vs k):=by
 unfold KV at r
 induction r with
 |nil=>exact True.intro
 | @cons p q ps qs h t ih=>
  obtain⟨h1,h2⟩:=h;by_cases e:p.1=k
  ·have e':q.1=k:=h1.symm.trans e;have b:valueAt (q::qs) k=some q.2:=by simp[valueAt,List.find?_cons,e']
   rw[Yg e,b];exact h2
  ·have e':¬q.1=k:=fun z=>e (h1.trans z);have b:valueAt (q::qs) k=valueAt qs k:=by simp[valueAt,List.find?_cons,e']
   rw[Ye e,b];exact ih
theorem KV.any{kvs:List (κ×V)}{vs:List (κ×Value)}(r:KV kvs vs)(k:κ):(kvs.any fun kv=>decide (kv.1=k))=vs.any fun kv=>decide (kv.1=k):=by
 unfold KV at r
 induction r with
 |nil=>rfl
 |cons h t ih=>rw[List.any_cons,List.any_cons,ih,h.1]
theorem KV.repl{kvs:List (κ×V)}{vs:List (κ×Value)}(r:KV kvs vs)(k:κ){y:V}{u:Value}(ry:RelV y u):
  KV (kvs.map fun kv=>if kv.1=k then(kv.1,y)else kv) (vs.map fun kv=>if kv.1=k then(kv.1,u)else kv):=by
 unfold KV at r⊢
 induction r with
 |nil=>exact .nil
 | @cons p q ps qs h t ih=>
  rw[xu,xu];refine .cons ?_ ih;obtain⟨h1,h2⟩:=h;by_cases e:p.1=k
  ·rw[xp e,xp (h1.symm.trans e)];exact⟨h1,ry⟩
  ·rw[xm e,xm (fun z=>e (h1.trans z))];exact⟨h1,h2⟩
theorem KV.put{kvs:List (κ×V)}{vs:List (κ×Value)}(r:KV kvs vs)(k:κ){y:V}{u:Value}(ry:RelV y u):KV (bc kvs k y) (stored vs k u):=by
 unfold bc stored;rw[r.any k];by_cases e:(vs.any fun kv=>decide (kv.1=k))=true
 ·rw[xp e,xp e];exact r.repl k ry
 ·rw[xm e,xm e];exact Paired.snoc r ⟨rfl,ry⟩
theorem KV.length{kvs:List (κ×V)}{vs:List (κ×Value)}(r:KV kvs vs):kvs.length=vs.length:=xG r
end
theorem eN{P:Program}{w:World}{k:Key}{u:Value}(r:RelV (kV k) u):(af P w).is k u=true:=by
 cases k with
 |inl i=>obtain⟨t,e⟩:=(show ∃t,u=Value.int i t from r);subst e;exact Wc P w i t
 |inr x=>obtain⟨t,e⟩:=(show ∃t,u=Value.str x t from r);subst e;exact Sg P w x t
theorem Pa{P:Program}{w:World}:∀{ks:List Key}{us:List Value},Vals (ks.map kV) us→ItemsAre (af P w) ks us
 | [],_,r=>by rw[List.map_nil]at r;cases r;exact .nil
 |k::ks,_,r=>by
  rw[xu]at r;cases r with
  |cons h t=>exact .cons (eN h) (Pa t)
abbrev KT(H:Hp):List (List Key×V)→List (List Key×Addr×Value)→Prop:=Paired fun p q=>p.1=q.1∧H q.2.1=some (.tup (p.1.map kV))∧RelV p.2 q.2.2
theorem KT.val{H:Hp}{kvs:List (List Key×V)}{xs:List (List Key×Addr×Value)}(r:KT H kvs xs)(k:List Key):RelO (aS kvs k) ((atKey xs k).map (·.2)):=by
 induction r with
 |nil=>exact True.intro
 | @cons p q ps qs h t ih=>
  obtain⟨h1,_,h2⟩:=h;by_cases e:p.1=k
  ·have e':q.1=k:=h1.symm.trans e;have b:atKey (q::qs) k=some q.2:=by simp[atKey,List.find?_cons,e']
   rw[Yg e,b];exact h2
  ·have e':¬q.1=k:=fun z=>e (h1.trans z);have b:atKey (q::qs) k=atKey qs k:=by simp[atKey,List.find?_cons,e']
   rw[Ye e,b];exact ih
theorem KT.repl{H:Hp}{kvs:List (List Key×V)}{xs:List (List Key×Addr×Value)}(r:KT H kvs xs)(k:List Key){y:V}{u:Value}(ry:RelV y u):
  KT H (kvs.map fun kv=>if kv.1=k then(kv.1,y)else kv) (xs.map (putAt k u)):=by
 induction r with
 |nil=>exact .nil
 | @cons p q ps qs h t ih=>
  rw[xu,xu];refine .cons ?_ ih;obtain⟨h1,h2,h3⟩:=h;unfold putAt;by_cases e:p.1=k
  ·rw[xp e,xp (h1.symm.trans e)];exact⟨h1,h2,ry⟩
  ·rw[xm e,xm (fun z=>e (h1.trans z))];exact⟨h1,h2,h3⟩
theorem KT.put{H:Hp}{kvs:List (List Key×V)}{xs:List (List Key×Addr×Value)}(r:KT H kvs xs)(k:List Key){b:Addr}{y:V}{u:Value}(hb:H b=some (.tup (k.map kV)))(ry:RelV y u):
  KT H (bc kvs k y) (storedH xs k b u):=by
 have e:(kvs.any fun kv=>decide (kv.1=k))=(atKey xs k).isSome:=by
  rw[Wm,(r.val k).isSome_eq,Option.isSome_map]
 unfold bc storedH;rw[e];by_cases q:(atKey xs k).isSome=true
 ·rw[xp q,xp q];exact r.repl k ry
 ·rw[xm q,xm q];exact Paired.snoc r ⟨rfl,hb,ry⟩
theorem KT.keeps{H H':Hp}{kvs:List (List Key×V)}{xs:List (List Key×Addr×Value)}(r:KT H kvs xs)(ht:∀b ys,H b=some (.tup ys)→H' b=some (.tup ys)):KT H' kvs xs:=
 Paired.mapP r fun _ _ z=>⟨z.1,ht _ _ z.2.1,z.2.2⟩
section
variable{P:Program}{w:World}{H:Hp}{h:Heap}{a:Addr}
theorem mS{u:HO}(ok:HOk P w H h)(e:Rd H a u):ObjOk P w H h a u:=e.ok ok
theorem Pk{kvs:List (Key×V)}(ok:HOk P w H h)(e:Rd H a (.dK kvs)):kvs.length≤sizeLine∧(a==sysModules)=false∧∃vs,KV kvs vs∧h.DictOf (af P w) a vs:=
 show ObjOk P w H h a (.dK kvs)from mS ok e
theorem se{kvs:List (Key×V)}(ok:HOk P w H h)(e:H a=some (.dK kvs)):kvs.length≤sizeLine∧(a==sysModules)=false∧∃vs,KV kvs vs∧h.DictOf (af P w) a vs:=Pk ok (.inl e)
theorem Vt{ks:List Key}(ok:HOk P w H h)(e:H a=some (.tup (ks.map kV))):(tupleKind (af P w)).is h ks a:=by
 obtain⟨_,its,r,o,h1,h2,n,h3⟩:=(show ObjOk P w H h a (.tup (ks.map kV))from ok a _ e);exact⟨o,its.toArray,n,h1,h2.1,h3,by simpa using Pa r⟩
theorem Ph{kvs:List (List Key×V)}(ok:HOk P w H h)(e:Rd H a (.dT kvs)):kvs.length≤sizeLine∧(a==sysModules)=false∧
  ∃xs,KT H kvs xs∧h.DictOfH (tupleKind (af P w)) a xs:=by
 obtain⟨z,y,xs,r,o,es,ep,h1,h2,h3,h4,h5⟩:=(show ObjOk P w H h a (.dT kvs)from mS ok e);refine⟨z,y,xs,r,o,es,ep,h1,h2,h3,h4,fun x hx=>?_,h5⟩;have all:∀{l:List (List Key×V)}{m:List (List Key×Addr×Value)},KT H l m→∀x∈m,(tupleKind (af P w)).is h x.1 x.2.1:=by
  intro l m q
  induction q with
  |nil=>intro x hx;exact nomatch hx
  | @cons p q ps qs hq t ih=>
   intro x hx
   rcases xv.mp hx with e | hx
   ·subst e;exact Vt ok (by rw[←hq.1];exact hq.2.1)
   ·exact ih x hx
 exact all r x hx
theorem iN{kvs:List (List Key×V)}(ok:HOk P w H h)(e:H a=some (.dT kvs)):kvs.length≤sizeLine∧(a==sysModules)=false∧
  ∃xs,KT H kvs xs∧h.DictOfH (tupleKind (af P w)) a xs:=Ph ok (.inl e)
end
def DGet(H:Hp)(a:Addr)(y:V)(r:Option V):Prop:=
 (∃kvs k,Rd H a (.dK kvs)∧y=kV k∧r=aS kvs k)∨∃kvs k b,Rd H a (.dT kvs)∧y=.ref b∧H b=some (.tup (k.map kV))∧r=aS kvs k
def DPut(H:Hp)(a:Addr)(y v:V)(H':Hp):Prop:=
 (∃kvs k,H a=some (.dK kvs)∧y=kV k∧kvs.length<sizeLine∧H'=upd H a (.dK (bc kvs k v)))∨
 ∃kvs k b,H a=some (.dT kvs)∧y=.ref b∧H b=some (.tup (k.map kV))∧kvs.length<sizeLine∧H'=upd H a (.dT (bc kvs k v))
theorem DGet.t{H:Hp}{a b:Addr}{kvs:List (List Key×V)}{k:List Key}(e:H a=some (.dT kvs))(eb:H b=some (.tup (k.map kV))):DGet H a (.ref b) (aS kvs k):=.inr ⟨kvs,k,b,.inl e,rfl,eb,rfl⟩
theorem DPut.t{H:Hp}{a b:Addr}{kvs:List (List Key×V)}{k:List Key}{v:V}(e:H a=some (.dT kvs))(eb:H b=some (.tup (k.map kV)))(hl:kvs.length<sizeLine):
  DPut H a (.ref b) v (upd H a (.dT (bc kvs k v))):=.inr ⟨kvs,k,b,e,rfl,eb,hl,rfl⟩
section
variable{X:Cx}{Av:List (Addr×Obj)}{σ:St}{H:Hp}{s:Shared}{a:Addr}{y v:V}{u r:Value}{o:Option V}{A:Around}{E:Value→Shared→Prop}
theorem Inv.big(I:Inv X Av σ H s):sysModules<s.heap.objs.size:=by
 have h:mainGlobals<s.heap.objs.size:=(I.mod.glob.keeps I.bk).lt;exact zu (by decide) h
theorem kD{Q:Value→Shared→Prop}(hu:A.units+1<cLine)(I:Inv X Av σ H s)(g:DGet H a y (some v))(ry:RelV y u)(h:∀w' s',Inv X Av σ H s'→RelV v w'→Q w' s'):
  wpAny (model X.prog X.w) A (getItem (.ref a) u) Q E s:=by
 rcases g with⟨kvs,k,e,ey,l⟩|⟨kvs,k,b,e,ey,eb,l⟩
 ·subst ey;obtain⟨z,hd,vs,rel,dd⟩:=Pk I.hok e;obtain⟨w',hw,rw'⟩:=RelO.some_of (v:=v) (o:=valueAt vs k) (by rw[l];exact rel.val k);exact wpAny_getItem_of (eN ry) dd.mapOf hw (h w' _ (I.tok _) rw')
 ·subst ey;cases (show u=Value.ref b from ry);obtain⟨z,hd,xs,rel,dd⟩:=Ph I.hok e;obtain⟨w',hw,rw'⟩:=RelO.some_of (v:=v) (o:=(atKey xs k).map (·.2)) (by rw[l];exact rel.val k);obtain⟨p,hp,hp2⟩:=yD.mp hw;refine wpAny_getItem_heap (zf hu) (Vt I.hok eb) dd hp ?_;rw[hp2];exact h w' _ (I.tok _) rw'
theorem d_in{Q:Value→Shared→Prop}(hu:A.units+1<cLine)(I:Inv X Av σ H s)(g:DGet H a y o)(ry:RelV y u)(h:∀s',Inv X Av σ H s'→Q (.bool o.isSome) s'):
  wpAny (model X.prog X.w) A (compareOp .In u (.ref a)) Q E s:=by
 rcases g with⟨kvs,k,e,ey,l⟩|⟨kvs,k,b,e,ey,eb,l⟩
 ·subst ey;obtain⟨z,hd,vs,rel,dd⟩:=Pk I.hok e;refine wpAny_in_of (eN ry) hd dd.mapOf ?_;rw[←(rel.val k).isSome_eq,←l];exact h _ (I.tok _)
 ·subst ey;cases (show u=Value.ref b from ry);obtain⟨z,hd,xs,rel,dd⟩:=Ph I.hok e;refine wpAny_in_heap (zf hu) (Vt I.hok eb) hd dd ?_;have q:=(rel.val k).isSome_eq;rw[Option.isSome_map]at q;rw[←q,←l];exact h _ (I.tok _)
theorem Oy{h':Heap}{t':Nat}{ob:HO}(I:Inv X Av σ H s)(mu:Mut (H a))(hs:Heap.SameBut a s.heap h')(he:∃q,h'.get? a=some q)(new:ObjOk X.prog X.w (upd H a ob) h' a ob):
  Inv X Av σ (upd H a ob) {s with heap:=h',toks:=t'}:=
 I.write (x:=a) (e:=a) mu (.inl rfl) (fun b q hb z=>(hs.2 b hb).trans z) he new
theorem tZ{P:Program}{w:World}{H':Hp}{h':Heap}{kvs:List (Key×V)}{vs:List (Key×Value)}(z:kvs.length≤sizeLine)(hd:(a==sysModules)=false)(rel:KV kvs vs)(dd:h'.DictOf (af P w) a vs):
  ObjOk P w H' h' a (.dK kvs):=⟨z,hd,vs,rel,dd⟩
theorem kC{H':Hp}{Q:Unit→Shared→Prop}(hu:A.units+1<cLine)(I:Inv X Av σ H s)(g:DPut H a y v H')(ry:RelV y u)(rv:RelV v r)(h:∀s',Inv X Av σ H' s'→Q () s'):
  wpAny (model X.prog X.w) A (setItem (.ref a) u r) Q E s:=by
 rcases g with⟨kvs,k,e,ey,l,eH⟩|⟨kvs,k,b,e,ey,eb,l,eH⟩
 ·subst ey eH;obtain⟨z,hd,vs,rel,dd⟩:=se I.hok e;have hz:vs.length≤sizeLine:=by rw[←rel.length];exact z
  have hl:(bc kvs k v).length≤sizeLine:=by have:=Sh kvs k v;omega
  refine wpAny_setItem_pairs (hsz:=hz) (eN ry) dd fun h' dd' hs=>h _ ?_;have he:∃q,h'.get? a=some q:=let ⟨q,_,_,hq,_⟩:=dd';⟨q,hq⟩
  exact Oy I (by rw[e];exact True.intro) hs he (tZ hl hd (rel.put k rv) dd')
 ·subst ey eH;cases (show u=Value.ref b from ry);obtain⟨z,hd,xs,rel,dd⟩:=iN I.hok e;have hz:xs.length≤sizeLine:=by rw[←xG rel];exact z
  have hl:(bc kvs k v).length≤sizeLine:=by have:=Sh kvs k v;omega
  refine wpAny_setItem_heap (hsz:=hz) (zf hu) (Vt I.hok eb) dd fun h' dd' hs=>h _ ?_;obtain⟨q,es,ep,hq,h2,h3,h4,_,h5⟩:=dd';refine Oy I (by rw[e];exact True.intro) hs ⟨q,hq⟩ ⟨hl,hd,_,(rel.put k eb rv).keeps fun c ys ec=>?_,q,es,ep,hq,h2,h3,h4,h5⟩;rw[Ze (Vd ec e (fun z=>nomatch z))];exact ec
end
section
variable{X:Cx}{Av:List (Addr×Obj)}{σ:St}{H:Hp}{s:Shared}{a:Addr}{kvs:List (Key×V)}{k:Key}{u:Value}{A:Around}{E:Value→Shared→Prop}
end
def wm(i:Expr):Prop:=∀ov iv,subscripted i false ov iv=operate [ov,iv] (getItem ov iv)
theorem qm{prog:Program}{w:World}{A:Around}{E:Value→Shared→Prop}{s:Shared}{env:Env}{value slice:Expr}{pos:Pos}{T id:String}{Q:Value→Shared→Prop}(hl:typeLookup (.type T) "__getitem__"=pure (some (.builtin id)))(hs:wm slice)(h:wpAny (model prog w) A (eval value env) (fun o s₁=>wpAny (model prog w) A (eval slice env) (fun i s₂=>s₂.TypeIs o T∧wpAny (model prog w) A (getItem o i) Q E s₂) E s₁) E s):
  wpAny (model prog w) A (eval (.Subscript value slice pos) env) Q E s:=by
 refine Subscript_ (yB h (fun o s₁ h₁=>yB h₁ (fun i s₂ h₂=>?_) fun _ _ x=>x) fun _ _ x=>x);obtain⟨hT,h₂⟩:=h₂;unfold subscriptTail;refine io ?_;rw[getitemInPython_of_ne hT.not_modules];refine io (Ap hT hl ?_);have fin:wpAny (model prog w) A (subscripted slice false o i) (fun r s₃=>wpAny (model prog w) A (letTemporaryGo value o r >>= fun _=>pure r) Q E s₃) E s₂:=by
  rw[hs o i];exact wpAny_operating (yB h₂ (fun r s₃ h₃=>io (wpAny_letTemporaryGo (pi h₃))) fun _ _ x=>x)
 first
  |exact pi (io fin)
  |exact io (pi (io fin))
  |exact io fin
theorem dY{X:Cx}{Av:List (Addr×Obj)}{σ:St}{H:Hp}{s:Shared}{a:Addr}{y:V}{o:Option V}(I:Inv X Av σ H s)(g:DGet H a y o):s.TypeIs (.ref a) "dict":=by
 rcases g with⟨kvs,k,e,_,_⟩|⟨kvs,k,b,e,_,_,_⟩
 ·obtain⟨_,_,vs,_,dd⟩:=Pk I.hok e;exact dd.typeIs
 ·obtain⟨_,_,xs,_,dd⟩:=Ph I.hok e;exact dd.typeIs
def vN(td ty:TE):TE:=fun σ H Q=>td σ H fun x H1=>ty σ H1 fun y H2=>∃a v,x=.ref a∧DGet H2 a y (some v)∧Q v H2
def vw(td ty tv:TE):TS:=fun D σ H=>tv σ H fun v H1=>td σ H1 fun x H2=>ty σ H2 fun y H3=>∃a H4,x=.ref a∧DPut H3 a y v H4∧D.nx σ H4
section
variable{X:Cx}{o i e value:Expr}{pos pos' tpos:Pos}{td ty tv:TE}
theorem ie(hu:X.A.units+1<cLine)(ho:PE X o td)(hi:PE X i ty)(hs:wm i):PE X (.Subscript o i pos) (vN td ty):=by
 intro Av s σ H Q I h;refine qm PySem.F.slot_dict_getitem.lookup hs (thn (ho Av s σ H _ I h) fun u s1 ⟨x,H1,I1,rx,q1⟩=>thn (hi Av s1 σ H1 _ I1 q1) fun iv s2 Aw=>?_);obtain⟨y,H2,I2,ry,a,v,ex,g,q2⟩:=Aw;subst ex;obtain rfl:u=Value.ref a:=rx;exact⟨dY I2 g,kD hu I2 g ry fun w' s3 I3 rw'=>⟨v,H2,I3,rw',q2⟩⟩
theorem Od(hu:X.A.units+1<cLine)(ho:PE X o td)(hi:PE X i ty)(hv:PE X value tv)(hs:swapsWith value (some (.Subscript o i pos')) pos.line X.env=pure false):
  PS X (.Assign [.Subscript o i pos'] value pos) (vw td ty tv):=by
 intro Av s σ H D I h;refine wpAny_Assign_Subscript (thn (hv Av s σ H _ I h) fun r s1 ⟨v,H1,I1,rv,q1⟩=>thn (ho Av s1 σ H1 _ I1 q1) fun u s2 ⟨x,H2,I2,rx,q2⟩=>thn (hi Av s2 σ H2 _ I2 q2) fun iv s3 Aw=>?_) hs;obtain⟨y,H3,I3,ry,a,H4,ex,g,q3⟩:=Aw;subst ex;obtain rfl:u=Value.ref a:=rx;exact kC hu I3 g ry rv fun s4 I4=>⟨σ,H4,I4,q3⟩
end
theorem nK{P:Program}{w:World}{H:Hp}(h:Heap)(hb:sysModules<h.objs.size):ObjOk P w H (h.push {cls:=.type "dict",data:=.dict #[]}) h.objs.size (.dK []):=
 ⟨yh _,yM.mpr (Ne.symm (xx hb)),[],.nil,Heap.DictOf.new h⟩
theorem eA{P:Program}{w:World}{H:Hp}(h:Heap)(hb:sysModules<h.objs.size):ObjOk P w H (h.push {cls:=.type "dict",data:=.dict #[]}) h.objs.size (.dT []):=
 ⟨yh _,yM.mpr (Ne.symm (xx hb)),[],.nil,_,#[],0,xt _ rfl,⟨rfl,rfl,rfl⟩,rfl,rfl,zy⟩
def uw:TE:=fun _ H Q=>∀p,H p=none→Q (.ref p) (upd H p (.dK []))
def tJ:TE:=fun _ H Q=>∀p,H p=none→Q (.ref p) (upd H p (.dT []))
section
variable{X:Cx}{pos:Pos}
theorem lK:PE X (.Dict [] [] pos) uw:=fun Av s σ H Q I h=>
 wpAny_Dict_empty ⟨.ref s.heap.objs.size,_,I.laid (a:=s.heap.objs.size) (o:=.dK []) (t':=s.toks) (fun _ _ q=>xi _ q) (xj _) (nK s.heap I.big),rfl,h _ (I.hok.fresh (xj _))⟩
theorem Rm:PE X (.Dict [] [] pos) tJ:=fun Av s σ H Q I h=>
 wpAny_Dict_empty ⟨.ref s.heap.objs.size,_,I.laid (a:=s.heap.objs.size) (o:=.dT []) (t':=s.toks) (fun _ _ q=>xi _ q) (xj _) (eA s.heap I.big),rfl,h _ (I.hok.fresh (xj _))⟩
end
def lW:List (TE×TE)→St→Hp→(List (V×V)→Hp→Prop)→Prop
 | [],_,H,Q=>Q [] H
 | (tk,tv)::r,σ,H,Q=>tk σ H fun x H1=>tv σ H1 fun y H2=>lW r σ H2 fun ps H3=>Q ((x,y)::ps) H3
abbrev VV:List (V×V)→List (Value×Value)→Prop:=Paired fun p q=>RelV p.1 q.1∧RelV p.2 q.2
def PPs(X:Cx)(pos:Pos)(keys:List (Option Expr))(values:List Expr)(trs:List (TE×TE)):Prop:=
 ∀(Av:List (Addr×Obj))(s:Shared)(σ:St)(H:Hp)(Q:List (V×V)→Hp→Prop),Inv X Av σ H s→lW trs σ H Q→
  wpAny (model X.prog X.w) X.A (evalPairs (pairTrees keys values X.env pos)) (fun vs s'=>∃ps H',Inv X Av σ H' s'∧VV ps vs∧Q ps H') X.xe s
theorem qE{X:Cx}{pos:Pos}:PPs X pos [] [] []:=fun Av s σ H Q I h=>pairTrees_nil_walk ⟨[],H,I,.nil,h⟩
theorem mP{X:Cx}{pos:Pos}{k v:Expr}{ks:List (Option Expr)}{vs:List Expr}{tk tv:TE}{trs:List (TE×TE)}(hk:PE X k tk)(hv:PE X v tv)(hr:PPs X pos ks vs trs):
  PPs X pos (some k::ks) (v::vs) ((tk,tv)::trs):=fun Av s σ H Q I h=>
 pairTrees_cons_walk (thn (hk Av s σ H _ I h) fun u s1 ⟨x,H1,I1,rx,q1⟩=>thn (hv Av s1 σ H1 _ I1 q1) fun w2 s2 ⟨y,H2,I2,ry,q2⟩=>
  thn (hr Av s2 σ H2 _ I2 q2) fun ws s3 ⟨ps,H3,I3,rel,q3⟩=>⟨(x,y)::ps,H3,I3,.cons ⟨rx,ry⟩ rel,q3⟩)
structure M2(X:Cx)(o:Expr)(m:Str)(apos:Pos)(e f:Expr)(cpos:Pos):Prop where
 base:attributeBase o m X.env (eval o X.env)=eval o X.env
 few:((backTo cpos (starEach [e,f] X.env)).all (fun x=>!x.1) && (backToKw cpos (keywordEach [] X.env)).all (fun x=>x.1.isSome)
  && decide (([e,f]:List Expr).length+([]:List Keyword).length+(if ([]:List Keyword).isEmpty then 0 else 1)<30))=true
 line:(apos.endLine==cpos.line)=true
 trees:backTo cpos (starEach [e,f] X.env)=[(false,eval e X.env),(false,eval f X.env)]
def IsD(H:Hp)(a:Addr):Prop:=(∃kvs,Rd H a (.dK kvs))∨∃kvs,Rd H a (.dT kvs)
theorem uL{X:Cx}{Av:List (Addr×Obj)}{σ:St}{H:Hp}{s:Shared}{a:Addr}(I:Inv X Av σ H s)(d:IsD H a):
  s.TypeIs (.ref a) "dict"∧(∀b,Value.ref a=.ref b→∃ob,s.heap.get? b=some ob∧ob.dict=none)∧(a==sysModules)=false:=by
 rcases d with⟨kvs,e⟩|⟨kvs,e⟩
 ·obtain⟨_,hd,vs,_,dd⟩:=Pk I.hok e;refine⟨dd.typeIs,fun b q=>?_,hd⟩;cases q;obtain⟨ob,_,_,h1,h2,_⟩:=dd;exact⟨ob,h1,h2.2.1⟩
 ·obtain⟨_,hd,xs,_,dd⟩:=Ph I.hok e;refine⟨dd.typeIs,fun b q=>?_,hd⟩;cases q;obtain⟨ob,_,_,h1,h2,_⟩:=dd;exact⟨ob,h1,h2.2.1⟩
section
variable{X:Cx}{Av:List (Addr×Obj)}{σ:St}{H:Hp}{s:Shared}{a:Addr}{y d:V}{u r:Value}{o:Option V}{A:Around}{E:Value→Shared→Prop}
theorem sV{Q:Value→Shared→Prop}(hu:A.units+1<cLine)(I:Inv X Av σ H s)(g:DGet H a y o)(ry:RelV y u)(rd:RelV d r)(h:∀w' s',Inv X Av σ H s'→RelV (o.getD d) w'→Q w' s'):
  wpAny (model X.prog X.w) A (call (.builtin "dict.get") [.ref a,u,r]) Q E s:=by
 rcases g with⟨kvs,k,e,ey,l⟩|⟨kvs,k,b,e,ey,eb,l⟩
 ·subst ey;obtain⟨z,hd,vs,rel,dd⟩:=Pk I.hok e;refine call_meetsIn PySem.F.slot_dict_get dd.typeIs PySem.F.entry_dict_get (PySem.F.args_dict_get_3 _ _ _) (meets_dict_get_default (af X.prog X.w) a (eN ry) hd r) ⟨_,dd.mapOf,h _ _ (I.tok _) ?_⟩;rw[l];exact(rel.val k).getD rd
 ·subst ey;cases (show u=Value.ref b from ry);obtain⟨z,hd,xs,rel,dd⟩:=Ph I.hok e;refine call_meetsIn PySem.F.slot_dict_get dd.typeIs PySem.F.entry_dict_get (PySem.F.args_dict_get_3 _ _ _) (meetsH_dict_get_default (tupleKind (af X.prog X.w)) a b hd r) ⟨zf hu,k,xs,Vt I.hok eb,dd,h _ _ (I.tok _) ?_⟩;rw[l];exact(rel.val k).getD rd
end
def tm(td ty tx:TE):TE:=fun σ H Q=>td σ H fun x H1=>∃a,x=.ref a∧IsD H1 a∧ty σ H1 fun y H2=>tx σ H2 fun z H3=>∃o,DGet H3 a y o∧Q (o.getD z) H3
section
variable{X:Cx}{o e f:Expr}{apos cpos:Pos}{td ty tx:TE}
theorem Vq(hu:X.A.units+1<cLine)(ho:PE X o td)(he:PE X e ty)(hf:PE X f tx)(m:M2 X o "get" apos e f cpos):PE X (.Call (.Attribute o "get" apos) [e,f] [] cpos) (tm td ty tx):=by
 intro Av s σ H Q I h;refine wpAny_Call_method m.base m.few m.line zE PySem.F.slot_dict_get PySem.F.type_dict_get (thn (ho Av s σ H _ I h) fun u s1 Aw=>?_);obtain⟨x,H1,I1,rx,a,ex,d,q1⟩:=Aw;subst ex;obtain rfl:u=Value.ref a:=rx;obtain⟨t1,t2,_⟩:=uL I1 d;refine⟨t1,t2,?_⟩;rw[m.trees];refine Calls.callWith_builtin rfl (Calls.evalArgs_plain (Calls.spliced_cons (thn (he Av s1 σ H1 _ I1 q1) fun iv s2 ⟨y,H2,I2,ry,q2⟩=>
  Calls.spliced_cons (thn (hf Av s2 σ H2 _ I2 q2) fun fv s3 ⟨z,H3,I3,rz,ov,g,q3⟩=>Calls.spliced_nil ?_))))
 exact sV hu I3 g ry rz fun w' s4 I4 rw'=>⟨_,H3,I4,rw',q3⟩
end
section
variable{X:Cx}{Av:List (Addr×Obj)}{σ:St}{H:Hp}{s:Shared}{a:Addr}{kvs:List (Key×V)}{A:Around}{E:Value→Shared→Prop}
end
section
variable{X:Cx}{Av:List (Addr×Obj)}{σ:St}{H:Hp}{s:Shared}{a:Addr}{y:V}{u:Value}{A:Around}{E:Value→Shared→Prop}
end
section
variable{X:Cx}
end
section
variable{κ:Type}[DecidableEq κ]
end
section
variable{X:Cx}{tg:Expr}
theorem jW{bs:List Bool}:(List.range bs.length).all (fun i=>bs.getD i true)=bs.all id:=by
 rw[yE,yL,yL];constructor
 ·intro h b hb;obtain⟨i,hi,rfl⟩:=zQ.mp hb;have q:=h i (z7.mpr hi);rw[List.getD_eq_getElem?_getD,xz hi]at q;exact q
 ·intro h i hi;have hi:=z7.mp hi;have q:=h bs[i] (z6 hi);rw[List.getD_eq_getElem?_getD,xz hi];exact q
theorem Qf(hc:X.calm=true):aH X (.builtin "all") (fun xs H Q=>∃(p:Addr)(bs:List Bool),xs=[.ref p]∧SqL X.K H p (bs.map V.bl)∧Q (.bl (bs.all id)) H):=by
 intro Av s σ H xs us Q I r h;obtain⟨p,bs,rfl,hq,q⟩:=h;obtain⟨u,rfl,ru⟩:=X6 r;cases ru;obtain⟨its,rv,pl,hz⟩:=I.list hq;have hl:=rv.length;rw[xh]at hl;have AA:p<s.heap.objs.size:=by
  obtain⟨o,n,e,_⟩:=pl;exact xk e
 have hh:X.A.in1.handled=none:=by simpa using I.ok.hd hc
 refine call_all_walk (Ak pl.isList ⟨s.heap.objs.size,_,_,_,_,_,fun i=>bs.getD i true,rfl,Walks.list hh _ p (xx AA) its.toArray,⟨⟨_,xt _ rfl,rfl,rfl⟩,pl.isList.push _⟩,fun i v s' Q' E' hv hQ=>?_,fun h' tk kp=>?_⟩)
 ·have hv':its[i]?=some v:=by simpa using hv
  have hi:i<bs.length:=by rw[hl];exact(xo.mp hv').1
  obtain⟨u,hu,ru⟩:=rv.get (i:=i) (x:=.bl bs[i]) (by rw[xE,xz hi];rfl);rw[hv']at hu;cases hu;cases (show v=Value.bool bs[i]from ru);have e:bs.getD i true=bs[i]:=by rw[List.getD_eq_getElem?_getD,xz hi];rfl
  simp only[e]at hQ;exact yN hQ
 ·have e:(List.range its.toArray.size).all (fun i=>bs.getD i true)=bs.all id:=by
   rw[xO,←hl];exact jW
  simp only[e];refine⟨.bl (bs.all id),H,I.kept fun b o eb=>kp b o ?_ (xi _ eb),rfl,q⟩;intro hb;rw[xq.mp hb]at eb;exact absurd (xk eb) (zt _)
end
section
variable{X:Cx}
end
section
variable{X:Cx}{o e:Expr}{to te:TE}{lo hi:Option Expr}{tl th:TO}{pos p2:Pos}
end
section
open PySem.AutoSeq1 (wpAny_loadPart')
open PySem.MeetsSeq PySem.MeetsSeq2 PySem.MeetsSeq3
end
section
variable{X:Cx}
end
theorem Zr{H H1:Hp}{p:Addr}{o:HO}(h:upd H p o=H1)(n:H p=none):Same H H1:=h ▸ Z9 n o
theorem Y0{H H1:Hp}{p:Addr}{o:HO}(h:upd H p o=H1):H1 p=some o:=h ▸ Z7
inductive Kd(H:Hp):V→String→Prop
 |non:Kd H .non "NoneType"
 |bl (b:Bool):Kd H (.bl b) "bool"
 |int (i:Int):Kd H (.int i) "int"
 |str (z:Str):Kd H (.str z) "str"
 |lst {a:Addr} {xs:List V} (e:H a=some (.lst xs)):Kd H (.ref a) "list"
 |tup {a:Addr} {xs:List V} (e:H a=some (.tup xs)):Kd H (.ref a) "tuple"
 |dK {a:Addr} {kvs:List (Key×V)} (e:H a=some (.dK kvs)):Kd H (.ref a) "dict"
theorem Kd.mono{H H':Hp}(g:Same H H'){x:V}{T:String}(h:Kd H x T):Kd H' x T:=by
 cases h with
 |non=>exact .non
 |bl b=>exact .bl b
 |int i=>exact .int i
 |str z=>exact .str z
 |lst e=>exact .lst (g _ _ e)
 |tup e=>exact .tup (g _ _ e)
 |dK e=>exact .dK (g _ _ e)
theorem Kd.ty{K:W.Frag}{H:Hp}{x:V}{T:String}(h:Kd H x T):TyOf K H x (.type T):=by
 cases h with
 |non=>exact .non
 |bl b=>exact .bl b
 |int i=>exact .int i
 |str z=>exact .str z
 |lst e=>exact .lst e
 |tup e=>exact .tup e
 |dK e=>exact .dK e
def kds:List String:=["NoneType","bool","int","str","list","tuple","dict"]
def kus:List String:=["int","bool","str","list","tuple"]
def bL(T U:String):Bool:=(T==U) || (T == "bool" && U == "int")
theorem rm:∀T∈kds,∀U∈kus,wu T U=some (bL T U):=by decide +kernel
theorem Kd.mem{H:Hp}{x:V}{T:String}(h:Kd H x T):T∈kds:=by cases h <;> decide
theorem Kd.kit{K:W.Frag}{H:Hp}{x:V}{T U:String}{b:Bool}(h:Kd H x T)(hU:U∈kus)(e:bL T U=b):W.kitOne K (.type T) (.type U)=some b:=by
 subst e;exact oK (rm T h.mem U hU)
def whV:V→Bool
 |.int _=>true
 |_=>false
def wF:V→Int→Bool
 |.int i,l=>decide (l≤i)
 |_,_=>false
theorem Kd.wh{H:Hp}{x:V}{T:String}(h:Kd H x T):(bL T "int" && !bL T "bool")=whV x:=by
 cases h <;> (first | rfl | (simp[bL,whV]))
theorem Nr{X:Cx}{x:Str}{v:V}{pos:Pos}(hg:Gl X x)(h:∃u,X.mg x=some u∧RelV v u)(hd:(x==("__debug__":Str))=false:=by decide):PE X (.Name x pos) (tC v):=by
 obtain⟨u,hm,r⟩:=h;exact pW hg hm r hd
theorem Tf{H:Hp}{p:Addr}{xs:List V}{d:Int}(e:H p=some (.lst xs))(h0:0≤d)(h1:d<xs.length):∃v,atI xs d=some v∧v∈xs:=nV h0 h1
theorem Vu{K:W.Frag}{H:Hp}{a c:Addr}{xs:List V}(h:ag a H c=some (.tup xs)):SqT K H c xs:=SqT.of (Z3 h).2
theorem Xj{K:W.Frag}{H:Hp}{a c:Addr}{xs:List V}(h:ag a H c=some (.lst xs)):SqL K H c xs:=SqL.of (Z3 h).2
section
variable{X:Cx}{x:Str}{p pos:Pos}{e:Expr}{es:List Expr}{kws:List Keyword}{ks:List Str}{t tk:TA}{id:String}{r:List V→List V→Hp→VK→Prop}
end
section
variable{prog:Program}{w:World}{A:Around}{E:Value→Shared→Prop}{s:Shared}{T:String}{r d:Addr}{n:Nat}{P:Nat→Value→Prop}{OK:Heap→Prop}
def uI(s:Shared)(P:Nat→Value→Prop)(n:Nat)(q:Result)(s':Shared):Prop:=
 ∃(g:Heap)(tk c:Nat)(xs:Array Value),q=.ok (.ret (.ref s.heap.objs.size))∧s'={s with heap:=g,toks:=tk}∧(∀b o,s.heap.get? b=some o→g.get? b=some o)∧g.get? s.heap.objs.size=some {cls:=.type "list",dict:=none,data:=.seq xs c,slots:=#[]}∧ItemsOf P xs n
theorem eY{R:List Value→Shared→Prop}(K:W.KdlSrc prog w T r d n P OK)(hh:A.handled=none)(hok:OK s.heap)(hn:n≤sizeLine)(h:∀(g:Heap) (tk:Nat) (xs:Array Value),(∀b o,s.heap.get? b=some o→g.get? b=some o)→s.heap.objs.size<g.objs.size→ItemsOf P xs n→R xs.toList {s with heap:=g,toks:=tk}):wpAny (model prog w) A (collect (.ref r)) R E s:=by
 obtain⟨lt1,lt2⟩:=K.there _ hok;unfold collect;refine io (wpAny_runValue (yA entry_proto_collect' ?_));rw[yi PySem.F.plain_proto_collect _];refine io (m:=newList []) (xT (pi ⟨zL yU _,yA entry_list_iadd' ?_⟩));rw[yi yU _];have own:(s.heap.push {cls:=.type "list",data:=.seq ([]:List Value).toArray}).get? s.heap.objs.size=some {cls:=.type "list",data:=.seq #[]}:=xt _ rfl;have run:=W.kdl_extend (A:=A) (s:={s with heap:=s.heap.push {cls:=.type "list",data:=.seq ([]:List Value).toArray}}) (R:=uI s P n) K hh (K.keep _ _ hok fun _ _ _ e=>xi _ e) s.heap.objs.size (ym lt1) (ym lt2) (.ref s.heap.objs.size) 0 own
  (fun g tk xs c hk hS hx=>⟨g,tk,c,xs,rfl,rfl,fun b o e=>hk b o (xx (xk e)) (xi _ e),hS,hx⟩) hn
 refine yB run (fun fin s' y=>?_) (fun _ _ y=>by obtain⟨_,_,_,_,e,_⟩:=y;cases e);cases fin with
 |done f=>
  obtain⟨g,tk,c,xs,e,rfl,hk,hS,hx⟩:=y;cases e;exact io (m:=load s.heap.objs.size) (As hS (pi (h g tk xs hk (xk hS) hx)))
 |again c1=>
  refine⟨y.1,Aa y.2 fun q s2 z=>?_⟩;obtain⟨g,tk,c,xs,rfl,rfl,hk,hS,hx⟩:=z;exact io (m:=load s.heap.objs.size) (As hS (pi (h g tk xs hk (xk hS) hx)))
end
def jy(a d:Addr):HO:=.ext fun h=>h.IsValuesView a d
def iA(a d:Addr):HO:=.ext fun h=>h.IsItemsView a d
section
variable{X:Cx}{Av:List (Addr×Obj)}{σ:St}{H:Hp}{s:Shared}
theorem ue{P:Program}{w:World}{k:Key}{u:Value}(h:(af P w).is k u=true):RelV (kV k) u:=by
 rcases Yc (show dg k u=true from h) with⟨i,t,rfl,rfl⟩|⟨x,t,rfl,rfl⟩
 ·exact⟨t,rfl⟩
 ·exact⟨t,rfl⟩
def over(H:Hp)(n:Nat)(L:Hp):Hp:=fun b=>if b<n then H b else L b
theorem Ro{H L:Hp}{n:Nat}{b:Addr}(h:b<n):over H n L b=H b:=xp h
theorem fc{H L:Hp}{n:Nat}{b:Addr}(h:n≤b):over H n L b=L b:=xm (Nat.not_lt.mpr h)
theorem Inv.over{L:Hp}{g:Heap}{t':Nat}(I:Inv X Av σ H s)(k:∀b u,s.heap.get? b=some u→g.get? b=some u)(new:∀b o,s.heap.objs.size≤b→L b=some o→ObjOk X.prog X.w (over H s.heap.objs.size L) g b o):
  Inv X Av σ (L2.over H s.heap.objs.size L) {s with heap:=g,toks:=t'}∧Same H (L2.over H s.heap.objs.size L):=by
 have old:∀b o,H b=some o→L2.over H s.heap.objs.size L b=some o:=fun b o e=>by rw[Ro (I.hok b o e).lt];exact e
 have fre:∀b u,s.heap.get? b=some u→H b=none→L2.over H s.heap.objs.size L b=none:=fun b u e n=>by rw[Ro (xk e)];exact n
 refine⟨I.un ⟨fun b u e _ _ _=>k b u e,fun b u e _ _ _=>⟨u.slots,k b u e⟩,fun b u e n _=>fre b u e n,fun b u e _=>⟨u,k b u e⟩,fun b xs e=>old b _ e,fun b o u e=>old b _ e,fun b ps e=>⟨#[],by rw[old b _ e];simp⟩⟩ ?_,old⟩;intro b o e;by_cases hb:b<s.heap.objs.size
 ·rw[Ro hb]at e;exact(I.hok b o e).stay (fun c u _ q=>k c u q) (fun c q=>old c _ q) fun c xs q=>old c _ q
 ·have hb:=Nat.not_lt.mp hb;rw[fc hb]at e;exact new b o hb e
theorem P6:∀as:List Addr,Vals (as.map V.ref) (as.map Value.ref)
 | []=>.nil
 |_::as=>.cons rfl (P6 as)
end
section
variable{X:Cx}
end
def gw(ns:List Int):List Int:=ns.mergeSort fun a b=>decide (a≤b)
theorem Tv(ns:List Int):(gw ns).Perm ns:=List.mergeSort_perm _ _
theorem jA(ns:List Int):(gw ns).Pairwise (·≤·):=by
 have h:=List.pairwise_mergeSort (le:=fun a b:Int=>decide (a≤b)) (by intro a b c h1 h2;simp at *;omega) (by intro a b;simp;omega) ns;exact h.imp fun h=>by simpa using h
theorem Nk:∀{l m:List Int},l.Perm m→l.Pairwise (·≤·)→m.Pairwise (·≤·)→l=m
 | [],m,p,_,_=>List.Perm.nil_eq p
 |a::l,[],p,_,_=>absurd p.length_eq (by simp)
 |a::l,b::m,p,h1,h2=>by
  have e:a=b:=by
   rcases xv.mp (p.mem_iff.mp xP)with q | q
   ·exact q
   ·rcases xv.mp (p.mem_iff.mpr xP)with r | r
    ·exact r.symm
    ·have:=(xR.mp h1).1 b r;have:=(xR.mp h2).1 a q;omega
  subst e;rw[Nk ((List.perm_cons a).mp p) (xR.mp h1).2 (xR.mp h2).2]
theorem rk{l ns:List Int}(p:l.Perm ns)(h:l.Pairwise (·≤·)):l=gw ns:=Nk (p.trans (Tv ns).symm) h (jA ns)
section
variable{X:Cx}
end
theorem Qm:typeLookup (.type "tuple") "keys"=pure none:=am_miss_of_fast (by decide +kernel)
theorem Sj:entryFor table "dict.update.loop"=some Builtin.«dict.update.loop»:=entryFor_of_tree (by kernel_rfl)
theorem Wa:plainId "dict.update.loop"=true:=by decide +kernel
theorem vQ{a:Addr}{xs:Array Value}{k:Nat}{sl:Array (Option Value)}{Q:Option Value→Shared→Prop}(hx:s.heap.get? a=some {cls:=.type "tuple",dict:=none,data:=.seq xs k,slots:=sl})(hA:A.handled=none)(h:∀g tk,(∀b o,s.heap.get? b=some o→g.get? b=some o)→Q none {s with heap:=g,toks:=tk}):wpAny (model prog w) A (getAttr? (.ref a) "keys") Q E s:=by
 obtain⟨hp,g,d,tk,os⟩:=s;have hT:∀tk',(⟨hp,g,d,tk',os⟩:Shared).TypeIs (.ref a) "tuple":=fun _=>⟨_,hx,rfl⟩;have f1:=sub_AttributeError;have f3:=F.slot_tuple_getattribute.lookup;have f4:=F.slot_tuple_getattribute.bind (.ref a);have f5:=am_tuple_getattr_none;unfold getAttr? getAttrBy? getAttrBy
 repeat (any_goals (first | assumption | exact hT _ | ((with_reducible show wpAny _ _ (call (Value.builtin "tuple.__getattribute__") _ _) _ _ _);refine call_meets F.slot_tuple_getattribute (hT _) am_entry_tuple_getattribute (F.args_tuple_getattribute_2 _ _) (meets_getattribute_miss_tuple a xs k sl "keys" _ Qm (by decide +kernel) (by decide +kernel)) ⟨hx,by simpa using hA,fun h' tk' e hx'=>?_⟩) | wp_step))
 obtain⟨t',u',he⟩:=hx'.there;show wpAny _ _ (getattributeRaised _ _ _ _ _ _ _) _ _ _;unfold getattributeRaised
 repeat (any_goals (first | assumption | wp_step))
 exact h _ _ hx'.keeps
section
variable{X:Cx}{Av:List (Addr×Obj)}{σ:St}{H:Hp}{s:Shared}
end
theorem Rk{l m:List Int}(p:l.Perm m):l.sum=m.sum:=by
 induction p with
 |nil=>rfl
 |cons x _ ih=>rw[xY,xY,ih]
 |swap x y l=>simp only[List.sum_cons];omega
 |trans _ _ a b=>exact a.trans b
section
variable{X:Cx}
end
end L2
namespace L2
open PySem PySem.Spec PyProof.Rows
def Cx.ren(X:Cx)(N':List Str):Cx:={X with N:=N'}
theorem Cx.Ok.ren{X:Cx}{N':List Str}(o:X.Ok):(X.ren N').Ok:=⟨o.mod,o.kind,o.glob,o.blt,o.above,o.inj,o.has,o.cab,o.hd,o.frames,o.stk,o.exf,o.bs,o.bsz,o.noex,o.exfs,o.funs,o.frf⟩
theorem Cx.Ok.unren{X:Cx}{N':List Str}(o:(X.ren N').Ok):X.Ok:=⟨o.mod,o.kind,o.glob,o.blt,o.above,o.inj,o.has,o.cab,o.hd,o.frames,o.stk,o.exf,o.bs,o.bsz,o.noex,o.exfs,o.funs,o.frf⟩
def Hid:List Str→List Str→St→Prop
 | [],[],[]=>True
 |a::N,b::N',o::σ=>(a=b∨o=none)∧Hid N N' σ
 |_,_,_=>False
theorem Hid.at:∀{N N':List Str}{σ:St},Hid N N' σ→∀i:Nat,N[i]?=N'[i]?∨σ[i]?=some none
 | [],[],[],_,i=>.inl rfl
 |a::N,b::N',o::σ,h,0=>by
  rcases h.1 with q | q
  ·exact .inl (by rw[q];rfl)
  ·exact .inr (by rw[q];rfl)
 |a::N,b::N',o::σ,h,i+1=>by
  simpa using Hid.at (N:=N) (N':=N') (σ:=σ) h.2 i
section
variable{X:Cx}{N':List Str}{Av:List (Addr×Obj)}{σ:St}{H:Hp}{s:Shared}
theorem Inv.ren(I:Inv X Av σ H s)(hl:N'.length=X.N.length)(h:Hid X.N N' σ):Inv (X.ren N') Av σ H s:=by
 refine⟨I.ok.ren,I.os,I.bare,I.base,?_,I.cell,I.free,I.freeC,I.pin,I.hok,I.len.trans hl.symm⟩;obtain⟨m,hn,hm⟩:=I.loc;refine⟨m,hn,fun i x v e1 e2 e3=>hm i x v ?_ e2 e3⟩
 rcases h.at i with q | q
 ·exact q.trans e1
 ·rw[e2]at q;cases q
theorem Inv.unren(I:Inv (X.ren N') Av σ H s)(hl:N'.length=X.N.length)(h:Hid X.N N' σ):Inv X Av σ H s:=by
 refine⟨I.ok.unren,I.os,I.bare,I.base,?_,I.cell,I.free,I.freeC,I.pin,I.hok,I.len.trans hl⟩;obtain⟨m,hn,hm⟩:=I.loc;refine⟨m,hn,fun i x v e1 e2 e3=>hm i x v ?_ e2 e3⟩
 rcases h.at i with q | q
 ·exact q.symm.trans e1
 ·rw[e2]at q;cases q
def tRen(N N':List Str)(t:TE):TE:=fun σ H Q=>Hid N N' σ∧t σ H Q
theorem m3{e:Expr}{t:TE}(N':List Str)(h:PE (X.ren N') e t)(hl:N'.length=X.N.length:=by rfl):PE X e (tRen X.N N' t):=by
 intro Av s σ H Q I q;exact thn (h Av s σ H Q (I.ren hl q.1) q.2) fun u s1 ⟨x,H1,I1,r1,q1⟩=>⟨x,H1,I1.unren hl q.1,r1,q1⟩
theorem Inv.forget(I:Inv X Av σ H s)(i:Nat):Inv X Av (σ.set i none) H s:=by
 refine⟨I.ok,I.os,I.bare,I.base,?_,I.cell,I.free,I.freeC,I.pin,I.hok,by rw[List.length_set];exact I.len⟩;obtain⟨m,hn,hm⟩:=I.loc;refine⟨m,hn,fun j x v e1 e2 e3=>hm j x v e1 ?_ e3⟩;by_cases e:i=j
 ·subst e;rw[List.getElem?_set_self']at e2;cases q:σ[i]? with
  |none=>rw[q]at e2;cases e2
  |some o=>rw[q]at e2;cases e2
 ·rw[List.getElem?_set_ne e]at e2;exact e2
def pL(i:Nat)(t:TS):TS:=fun D σ H=>t D (σ.set i none) H
theorem V4{ss:List Stmt}{t:TS}(i:Nat)(h:PSs X ss t):PSs X ss (pL i t):=by
 intro Av s σ H D I q;exact h Av s _ H D (I.forget i) q
end
theorem Vj{t u:TS}{D:Ends}{σ:St}{H:Hp}(R:St→Hp→Prop)(main:∀nx:St→Hp→Prop,(∀σ' H',R σ' H'→nx σ' H')→t {D with nx:=nx} σ H)(fin:∀σ' H',R σ' H'→u D σ' H'):vE t u D σ H:=main _ fin
section
variable{M:Model}{A:Around}{E:Value→Shared→Prop}{s:Shared}{env:Env}{outer l:List Env}{L e:Addr}{base:Heap}{cls a0 fl:Value}{Q:Unit→Shared→Prop}
end
theorem ii{l:List Env}{env:Env}{b:Addr}(h:env∈l)(e:env.frame=some b):b∈frs l:=yR.mpr ⟨env,h,e⟩
section
variable{M:Model}{A:Around}{E:Value→Shared→Prop}{s:Shared}{env:Env}{outer:List Env}{L a T:Addr}{cls:Value}{Q:Unit→Shared→Prop}
end
section
variable{P:Program}{w:World}{K:W.Frag}{mg:Str→Option Value}{base:Heap}{N:List Str}{qual:Str}{scope:Scope}{f:Addr}{cd:Value}{A:Around}{outer:List Env}{s:Shared}{H:Hp}{E:XK}
end
section
variable{P:Program}{w:World}{K:W.Frag}{mg:Str→Option Value}{base:Heap}{N:List Str}{qual:Str}{scope:Scope}{f:Addr}{cd:Value}{A:Around}{outer:List Env}{s:Shared}{H:Hp}{E:XK}
variable{j k:Nat}{ps:List Str}{sp:Sp}{x:Str}{p pos:Pos}{e:Expr}{es:List Expr}{t:TA}
end
section
variable{prog:Program}{w:World}{A:Around}{E:Value→Shared→Prop}{h:Heap}{g:Array GenState}{d:Drawn}{t:Nat}{os:OsState}{a C:Addr}{o:Obj}{K:W.Frag}
end
section
variable{X:Cx}{Av:List (Addr×Obj)}{σ:St}{H:Hp}{s:Shared}
end
section
variable{X:Cx}{x c n:Str}{p pos cpos epos np hpos:Pos}{e:Expr}{es:List Expr}{ta:TA}{tb:TS}{b₀:Stmt}{suite:List Stmt}{j k i:Nat}{ps:List Str}{sp:Sp}{S:Addr}
end
end L2
namespace L2
open PySem PySem.Spec PyProof.Rows
theorem W8{K:W.Frag}{a:Addr}{xs:List V}{k:Nat}{g:TG}{tt:TT}{te:TE}{σ:St}{H:Hp}{Q:VK}(Pv:Nat→List V→Hp→Prop)(h0:Pv 0 [] H)(hl:∀i ys H,i≤xs.length→Pv i ys H→SqT K H a xs)(hs:∀i x ys H (C:List V→Hp→Prop),xs[i]?=some x→Pv i ys H→(∀ys' H',Pv (i+1) ys' H'→C ys' H')→ys.length<sizeLine∧g x (List.replicate k none++σ) H fun σ2 H2=>Wk σ2 (List.replicate k none++σ)∧tt σ2 H2 fun ok H3=>
   if ok=true then te σ2 H3 fun y H4=>C (ys++[y]) H4 else C ys H3)(hd:∀ys H,Pv xs.length ys H→ys.length≤sizeLine∧∀p,H p=none→Q (.ref p) (upd H p (.lst ys))):
  CompR (Itt K a) H k g tt te σ Q:=by
 refine⟨fun i m ys H=>m=xs.length-i∧i≤xs.length∧Pv i ys H,⟨xs.length,by simp,Nat.zero_le _,h0⟩,?_⟩;rintro i m ys H ⟨rfl,hi,p⟩;have q:=hl i ys H hi p;by_cases AA:i<xs.length
 ·have r:=hs i xs[i] ys H (fun ys' H'=>∃m',m'<xs.length-i∧m'=xs.length-(i+1)∧i+1≤xs.length∧Pv (i+1) ys' H') (by simp[AA]) p fun ys' H' p'=>⟨_,by omega,rfl,AA,p'⟩;refine .inr ⟨⟨xs,xs[i],q,by simp[AA]⟩,r.1,fun x H' y=>?_⟩;obtain⟨e,y⟩:=y;subst e;have ex:xs[i]?=some x:=y xs q;have ex2:xs[i]=x:=by simpa [AA] using ex
  rw[←ex2];exact r.2
 ·have e:i=xs.length:=by omega
  subst e;exact .inl ⟨⟨xs,q,xj _⟩,hd ys H p⟩
section
variable{P:Program}{w:World}{K:W.Frag}{mg:Str→Option Value}{base:Heap}{CX:CXT}{k:Nat}{f:Addr}{fd:FuncData}{ps:List Str}{sp sp':Sp}
end
def Cal(base:Heap)(f:Addr):Prop:=∃oc od fd sl,base.get? f=some ⟨oc,od,.func fd,sl⟩
theorem j4{M:Model}{f:Addr}{base:Heap}(c:Cal base f)(h:Heap)(k:∀b o,base.get? b=some o→h.get? b=some o):∃q,(q=Keeper.frame∨q=Keeper.machine∨q=Keeper.boundFrame)∧W.Looks M h (keeperOf (.ref f)) q:=by
 obtain⟨oc,od,fd,sl,e⟩:=c;refine⟨.frame,.inl rfl,fun A Q E s kk q=>?_⟩;exact io (As (kk _ _ (k _ _ e)) (pi q))
def uB(P:Program)(w:World)(K:W.Frag)(mg:Str→Option Value)(base:Heap)(k i:Nat)(t:TA):TE:=fun σ H Q=>∃(f:Addr)(fd:FuncData)(ps:List Str)(sp:Sp),σ[i]?=some (some (.ref f))∧FnOk P w K mg base CX0 k f fd ps sp∧Binds K fd ps []∧Cal base f∧
 t σ H fun vs H1=>sp vs H1 Q E0
section
variable{X:Cx}{k i:Nat}{x:Str}{p pos:Pos}{e:Expr}{es:List Expr}{t:TA}
theorem oq(hr:Room k X.A)(ha:PA X (e::es) t)(hN:X.N[i]?=some x:=by rfl)(hv:Vis X.env.scope x:=by first | exact Or.inl rfl | exact Or.inr (Or.inl rfl) | exact Or.inr (Or.inr rfl))(hd:(x==("__debug__":Str))=false:=by decide)(hcd:(x==("__classdict__":Str))=false:=by decide)(he:starEach (e::es) X.env=(false,eval e X.env)::starEach es X.env:=by rfl)(hpl:(backTo pos (starEach es X.env)).any (·.1)=false:=by rfl):
  PE X (.Call (.Name x p) (e::es) [] pos) (uB X.prog X.w X.K X.mg X.base k i t):=by
 intro Av s σ H Q I h;obtain⟨f,fd,ps,sp,hs,F,b,c,q⟩:=h;refine Ab (thn (nX hN hv hd hcd Av s σ H (fun v H'=>v=.ref f∧H'=H) I ⟨_,hs,rfl,rfl⟩) fun u s1 z=>?_);obtain⟨v,H',I1,r,rfl,rfl⟩:=z;cases (show u=Value.ref f from r);have hh:=ha pos Av s1 σ H' _ I1 q;show wpAny _ _ (callWith pos (.ref f) [] (backTo pos (starEach (e::es) X.env)) []) _ _ _;rw[he]at hh⊢;refine W.callWith_of (P:=fun h=>∀b o,X.base.get? b=some o→h.get? b=some o) (by show((false || (backTo pos (starEach es X.env)).any (·.1)) || false)=false;rw[hpl];rfl) (fun h k=>j4 c h k) (Calls.evalArgs_plain (thn hh fun us s2 z=>?_));obtain⟨vs,H2,I2,r2,q2⟩:=z;exact⟨I2.bk,l4 (dvs:=[]) (ds:=[]) F hr b .nil wa I2 r2 (by rw[yQ];exact q2)⟩
end
def crO(q:Str)(c:Addr):HO:=.ext fun h=>h.CodeRec (.ref c) q
structure LamAt(T:Addr)(pos:Pos)(q:Str)(H:Hp):Prop where
 tab:H T=some (.tbl #[])∨∃c,H T=some (.tbl #[rawInt pos.line,rawInt pos.col,.ref c])∧H c=some (crO q c)
theorem LamAt.mono{T:Addr}{pos:Pos}{q:Str}{H H':Hp}(h:LamAt T pos q H)(g:Same H H'):LamAt T pos q H':=by
 rcases h.tab with e | ⟨c,e,ec⟩
 ·exact⟨.inl (g _ _ e)⟩
 ·exact⟨.inr ⟨c,g _ _ e,g _ _ ec⟩⟩
def oj(P:Program)(w:World)(K:W.Frag)(mg:Str→Option Value)(base:Heap)(N:List Str)(qual:Str)(sc:Scope)(f:Addr)(cd:Value)(cl:List (Str×Addr))(A:Around)(outer:List Env)(s:Shared)(H:Hp):Cx where
 prog:=P
 w:=w
 K:=K
 mg:=mg
 base:=base
 A:=A.deeper (W.envX qual sc s.heap.objs.size f cd cl)
 N:=N
 s₀:=s
 H₀:=H
 env:=W.envX qual sc s.heap.objs.size f cd cl
 outer:=outer
 stack:=W.envX qual sc s.heap.objs.size f cd cl::outer
 ex:=[]
 calm:=true
 fn:=fun _=>false
 pn:=[]
 xe:=fun _ _=>False
structure LamScope(ps fr:List Str)(sc:Scope):Prop where
 kind:sc.kind=.function
 co:sc.isCoroutine=false
 gen:sc.isGenerator=false
 cell:∀x∈sc.names,x.2≠.cell
 par:∀x∈ps,sc.names.lookup x=some .local
 free:∀x,sc.names.lookup x=some .free→x∈fr
 fre:∀x∈fr,sc.names.lookup x=some .free
 nd:(ps++fr).Nodup
theorem N6{x:Str}:∀{ps:List Str}{us:List Value}{i:Nat}{u:Value},ps.Nodup→ps[i]?=some x→us[i]?=some u→(ps.zip us).reverse.lookup x=some u:=by
 intro ps us i u nd h1 h2;have hm:(x,u)∈(ps.zip us).reverse:=List.mem_reverse.mpr (xL (i:=i) (by rw[List.getElem?_zip_eq_some];exact⟨h1,h2⟩));have ndz:((ps.zip us).reverse.map (·.1)).Nodup:=by
  rw[List.map_reverse];refine(List.reverse_perm _).nodup_iff.mpr (nd.sublist ?_);exact(by
   clear hm h1 h2
   induction ps generalizing us with
   |nil=>exact List.nil_sublist _
   |cons p ps ih=>
    cases us with
    |nil=>exact List.nil_sublist _
    |cons v us=>exact(ih (xW.mp nd).2).cons₂ _)
 revert hm ndz;generalize (ps.zip us).reverse=l;intro hm ndz
 induction l with
 |nil=>exact nomatch hm
 |cons q l ih=>
  rw[xu,xW]at ndz
  rcases xv.mp hm with e | e
  ·rw[←e,zY,beq_self_eq_true]
  ·have ne:(x==q.1)=false:=by
    refine yM.mpr fun z=>ndz.1 (xI.mpr ⟨(x,u),e,z⟩)
   obtain⟨q1,q2⟩:=q;rw[zY];dsimp only at ne⊢;rw[ne];exact ih e ndz.2
theorem sL{P:Program}{w:World}{K:W.Frag}{mg:Str→Option Value}{B:Heap}{k:Nat}{a c':Addr}{qual:Str}{params:Arguments}{body:Expr}{sc:Scope}{cl:List (Str×Addr)}{pm ctv:Value}{ps fr:List Str}{us:List V}{sp:Sp}(ha:B.get? a=some (W.kla_obj "<lambda>" qual params body sc cl pm c' ctv))(S:LamScope ps fr sc)(hul:us.length=fr.length)(hcl:∀(i:Nat) x v,fr[i]?=some x→us[i]?=some v→∃c u,cl.lookup x=some c∧B.IsCell c (some u)∧RelV v u)(inj:∀x y c,cl.lookup x=some c→cl.lookup y=some c→x=y)(call:∀x c,cl.lookup x=some c→∃v,B.IsCell c v)(rec:∀vs H Q E,sp vs H Q E→H c'=some (crO qual c'))(len:∀vs H Q E,sp vs H Q E→vs.length=ps.length)(hbody:∀(A:Around) (outer:List Env) (s:Shared) (H:Hp) (vs:List V) (Q:VK) (E:XK),Room k (A.deeper (W.envX qual sc s.heap.objs.size a (.ref c') cl))→sp vs H Q E→
   ∃t,PE (oj P w K mg B (ps++fr) qual sc a (.ref c') cl A outer s H) body t∧t (vs.map some++us.map some) H Q):
  FnOk P w K mg B CX0 (k+1) a (W.kla_fn "<lambda>" qual params body sc cl pm (.ref c') ctv) ps sp:=by
 refine⟨len,fun A outer s H args ws vs Q E hr e0 hb r hsp=>?_⟩;have hl:=len _ _ _ _ hsp;have keep:=fun b o e=>(e0.bs b o e).1;have lim:s.heap.NoLimit:=e0.mod.nolimit.keeps keep;obtain⟨crec,_⟩:=(show ObjOk P w H s.heap c' (crO qual c')from e0.hok c' _ (rec _ _ _ _ hsp));have npS:ps.Nodup:=(zR.mp S.nd).1;refine W.kla_callFunE hr.depth (keep _ _ ha) rfl S.co S.gen rfl crec (hb _ _ _ _ ?_);refine wpAny_newFunctionEnv S.cell (fun y hy=>S.par y.1 (List.of_mem_zip hy).1) (fun h₁ hns hsb=>⟨lim.fresh _ hsb,?_⟩) S.kind;show codeAny _ _ (.expr body (W.envX qual sc s.heap.objs.size a (.ref c') cl)) _ _;have hk₁:∀b o,s.heap.get? b=some o→h₁.get? b=some o:=fun b o e=>hsb.extBut b o (xx (xk e)) (xi _ e);obtain⟨t,ht,hq⟩:=hbody A outer s H vs Q E (hr.deeper _) hsp;have cellK:∀c v,B.IsCell c v→h₁.IsCell c v:=fun c v ⟨o,e,d⟩=>⟨o,hk₁ _ _ (keep _ _ e),d⟩;have I:Inv (oj P w K mg B (ps++fr) qual sc a (.ref c') cl A outer s H) [] (vs.map some++us.map some) H {s with heap:=h₁,toks:=s.toks+(ps.zip ws).length}:=by
  have noA:∀b:Addr,b∉(oj P w K mg B (ps++fr) qual sc a (.ref c') cl A outer s H).ex:=fun b z=>absurd (show b∈([]:List Addr)from z) (by simp);refine⟨⟨e0.mod,S.kind,rfl,rfl,xj _,inj,fun x hx=>?_,(fun x c h _=>Bool.noConfusion h),fun _=>hr.hd,Around.frames_deeper e0.frames,.inr ⟨rfl,rfl⟩,fun b z=>absurd z (noA b),e0.bs,e0.bsz,fun b _ _=>noA b,fun b z=>absurd z (noA b),e0.funs,e0.frf⟩,
   rfl,e0.bare,Un.kept hk₁,⟨_,hns,fun i y v h1 h2 h3=>?_⟩,fun x c e=>?_,e0.hok.fresh (Nat.le_refl _),fun x c e=>?_,fun p hp=>absurd (show p∈([]:List (Addr×Obj))from hp) (by simp),e0.hok.kept hk₁,?_⟩
  ·have hx:sc.names.lookup x=some .cell∨sc.names.lookup x=some .free:=hx
   rcases hx with hx | hx
   ·exact absurd rfl (S.cell _ (xX hx))
   ·obtain⟨i,hi⟩:=zd.mp (S.free x hx);have AA:i<us.length:=by rw[hul];exact(xo.mp hi).1
    obtain⟨c,u,e,_⟩:=hcl i x us[i] hi (by simp[AA]);exact⟨c,e⟩
  ·have h1:(ps++fr)[i]?=some y:=h1;by_cases hi:i<vs.length
   ·rw[List.getElem?_append_left (by rw[←hl];exact hi)]at h1;rw[List.getElem?_append_left (by simpa using hi),List.getElem?_map]at h2;obtain⟨v',hv,e⟩:=yD.mp h2;cases e;obtain⟨u,hu,rv⟩:=r.get hv;exact⟨u,rv,.inl ⟨S.par y (xL h1),N6 npS h1 hu⟩⟩
   ·have hi:vs.length≤i:=by omega
    rw[List.getElem?_append_right (by rw[←hl];exact hi)]at h1;rw[List.getElem?_append_right (by simpa using hi),List.getElem?_map,List.length_map]at h2;obtain⟨v',hv,e⟩:=yD.mp h2;cases e;rw[hl]at hv;obtain⟨c,u,e1,e2,rv⟩:=hcl _ y v h1 hv;exact⟨u,rv,.inr ⟨.inr (S.fre y (xL h1)),c,e1,cellK _ _ e2⟩⟩
  ·obtain⟨v,z⟩:=call x c e;exact⟨v,cellK _ _ z⟩
  ·obtain⟨v,o,z,_⟩:=call x c e;exact(e0.bs c o z).2
  ·show _=(ps++fr).length;rw[xn,xh,xh,xn,hl,hul]
 refine W.kla_codeExpr (yB (ht [] _ _ H Q I hq) (fun v s' hs=>?_) fun _ _ z=>False.elim z);obtain⟨v',H',J,rv,q⟩:=hs;exact⟨v',H',J.os,J.bare,J.base,J.hok,rv,q⟩
def foO(ob:Obj)(a:Addr):HO:=.ext fun h=>h.get? a=some ob
theorem tE{P:Program}{w:World}{H:Hp}{h:Heap}{q:Str}{c:Addr}(r:h.CodeRec (.ref c) q):ObjOk P w H h c (crO q c):=by
 refine⟨r,?_,fun h1 h2 z k=>?_⟩
 ·obtain⟨c2,oc,vs,tq,e,ho,_⟩:=r;cases e;exact⟨oc,ho⟩
 ·obtain⟨c2,oc,vs,tq,e,ho,r⟩:=z;cases e;exact⟨c,oc,vs,tq,rfl,k _ ho,r⟩
theorem nY{P:Program}{w:World}{H:Hp}{h:Heap}{ob:Obj}{a:Addr}(e:h.get? a=some ob):ObjOk P w H h a (foO ob a):=⟨e,⟨ob,e⟩,fun _ _ z k=>k _ z⟩
def tLam(T:Addr)(pos:Pos)(q:Str)(mk:Value→Addr→Value→Obj):TE:=fun σ H Q=>LamAt T pos q H∧∀(a c:Addr)(pm ctv:Value)(H':Hp),Same (ag T H) (ag T H')→H a=none→a≠c→H' T=some (.tbl #[rawInt pos.line,rawInt pos.col,.ref c])→H' c=some (crO q c)→
 H' a=some (foO (mk pm c ctv) a)→Q (.ref a) H'
theorem sv(pos:Pos)(c:Value):codeAmong pos [rawInt pos.line,rawInt pos.col,c]=some c:=codeAmong_snoc [] trivial rfl
section
variable{X:Cx}{params:Arguments}{body:Expr}{sc:Scope}{pos:Pos}{c T:Addr}
theorem uH(hc:X.env.code=.ref c)(C:W.CodeHd X.base c T)(hgP:mainGlobals≠T)(hB:X.base.BuiltinsAt X.mg T)(hf:∀x∈sc.names,x.2=.free→∃c,X.env.cells.lookup x.1=some c)(hdef:defaultsOf params X.env=([],[]):=by rfl):
  PE X (.Lambda params body sc pos) (tLam T pos (X.env.qual++"<lambda>") fun pm c' ctv=>W.kla_obj "<lambda>" (X.env.qual++"<lambda>") params body sc (aA X.env sc.names) pm c' ctv):=by
 intro Av s σ H Q I h;obtain⟨L,q⟩:=h;refine W.kla_eval hdef ?_;have hcl:=Uo hf;have tl:H T≠none:=by
  rcases L.tab with e | ⟨_,e,_⟩ <;> (rw[e];exact fun z=>nomatch z)
 have fresh:∀b,s.heap.objs.size≤b→H b=none:=fun b hb=>I.hok.fresh hb
 rcases L.tab with e | ⟨c',e,ec⟩
 ·have hP:s.heap.get? T=some (W.tabObj #[]):=I.hok T _ e;refine W.kla_makeFunction hcl I.ok.glob (I.mod.glob.keeps I.bk) hc (C.keeps I.bk) hP trivial rfl hgP (hB.keeps I.bk) fun c' ctv h' tk hx hge AA hrec hT=>?_;have hT:h'.get? T=some (W.tabObj #[rawInt pos.line,rawInt pos.col,.ref c']):=hT;have Tlt:T<s.heap.objs.size:=xk hP;have sz:s.heap.objs.size≤h'.objs.size:=yV (Ac hge AA);have na:H h'.objs.size=none:=fresh _ sz;have nc:H c'=none:=fresh _ hge;have cT:c'≠T:=ym (xH Tlt hge);have aT:h'.objs.size≠T:=ym (xH Tlt sz);have ac:h'.objs.size≠c':=ym AA;have kp:∀b o,b≠T→s.heap.get? b=some o→(h'.push (W.kla_obj "<lambda>" (X.env.qual++"<lambda>") params body sc (aA X.env sc.names) ((X.mg "__name__").getD .none) c' ctv)).get? b=some o:=fun b o nb e=>xi _ (hx b o nb e);have eT:=xi (W.kla_obj "<lambda>" (X.env.qual++"<lambda>") params body sc (aA X.env sc.names) ((X.mg "__name__").getD .none) c' ctv) hT;have ea:(h'.push (W.kla_obj "<lambda>" (X.env.qual++"<lambda>") params body sc (aA X.env sc.names) ((X.mg "__name__").getD .none) c' ctv)).get? h'.objs.size=some (W.kla_obj "<lambda>" (X.env.qual++"<lambda>") params body sc (aA X.env sc.names) ((X.mg "__name__").getD .none) c' ctv):=xt _ rfl;have er:(h'.push (W.kla_obj "<lambda>" (X.env.qual++"<lambda>") params body sc (aA X.env sc.names) ((X.mg "__name__").getD .none) c' ctv)).CodeRec (.ref c') (X.env.qual++"<lambda>"):=by
   obtain⟨c2,oc,vs,tq,e,ho,r⟩:=hrec;exact⟨c2,oc,vs,tq,e,xi _ ho,r⟩
  generalize (h'.push (W.kla_obj "<lambda>" (X.env.qual++"<lambda>") params body sc (aA X.env sc.names) ((X.mg "__name__").getD .none) c' ctv))=g at kp eT ea er⊢;generalize hHn:upd (upd (upd H T (.tbl #[rawInt pos.line,rawInt pos.col,.ref c'])) c' (crO (X.env.qual++"<lambda>") c')) h'.objs.size (foO (W.kla_obj "<lambda>" (X.env.qual++"<lambda>") params body sc (aA X.env sc.names) ((X.mg "__name__").getD .none) c' ctv) h'.objs.size)=Hn;have at_a:Hn h'.objs.size=some (foO (W.kla_obj "<lambda>" (X.env.qual++"<lambda>") params body sc (aA X.env sc.names) ((X.mg "__name__").getD .none) c' ctv) h'.objs.size):=by rw[←hHn];exact Z7
  have at_c:Hn c'=some (crO (X.env.qual++"<lambda>") c'):=by rw[←hHn,Ze (Ne.symm ac)];exact Z7
  have at_T:Hn T=some (.tbl #[rawInt pos.line,rawInt pos.col,.ref c']):=by rw[←hHn,Ze (Ne.symm aT),Ze (Ne.symm cT)];exact Z7
  have at_o:∀b,b≠h'.objs.size→b≠c'→b≠T→Hn b=H b:=fun b n1 n2 n3=>by rw[←hHn,Ze n1,Ze n2,Ze n3]
  have at_s:∀b u,H b=some u→b≠T→Hn b=some u:=fun b u e nT=>by rw[at_o b (Zk e na) (Zk e nc) nT];exact e
  have un:Un X.fs [] H Hn s.heap g:=by
   have nT:∀b,H b=none→b≠T:=fun b n z=>by rw[z]at n;exact tl n
   refine⟨fun b o e n _ _=>kp b o (nT b n) e,fun b o e n _ _=>⟨o.slots,kp b o (nT b n) e⟩,fun b o e n _=>?_,fun b o e _=>?_,fun b xs e'=>at_s b _ e' (fun z=>by rw[z,e]at e';cases e'),fun b o xs e'=>at_s b _ e' (fun z=>by rw[z,e]at e';cases e'),fun b ps e'=>?_⟩
   ·have lt:=xk e;rw[at_o b (xx (xH lt sz)) (xx (xH lt hge)) (nT b n)];exact n
   ·by_cases z:b=T
    ·subst z;exact⟨_,eT⟩
    ·exact⟨o,kp b o z e⟩
   ·by_cases z:b=T
    ·subst z;rw[e]at e';cases e';exact⟨#[rawInt pos.line,rawInt pos.col,.ref c'],at_T⟩
    ·exact⟨#[],by rw[at_s b _ e' z];simp⟩
  have hok:HOk X.prog X.w Hn g:=fun b u eb=>by
   by_cases h1:b=h'.objs.size
   ·subst h1;rw[at_a]at eb;cases eb;exact nY ea
   by_cases h2:b=c'
   ·subst h2;rw[at_c]at eb;cases eb;exact tE er
   by_cases h3:b=T
   ·subst h3;rw[at_T]at eb;cases eb;exact eT
   rw[at_o b h1 h2 h3]at eb;refine(I.hok b u eb).stay (fun d v hd qq=>kp d v (fun z=>?_) qq) (fun d qq=>at_s d _ qq (fun z=>by rw[z,e]at qq;cases qq)) fun d xs qq=>at_s d _ qq (fun z=>by rw[z,e]at qq;cases qq)
   rcases hd with y | y
   ·exact h3 (y.symm.trans z)
   ·rw[z,e]at y;cases y
  refine⟨.ref h'.objs.size,Hn,I.un (h':=g) (t':=tk) un hok,rfl,q _ c' _ ctv Hn (fun b u eb=>?_) na ac at_T at_c at_a⟩;obtain⟨b1,b2⟩:=Z3 eb;rw[Zf b1];exact at_s b u b2 b1
 ·have hP:s.heap.get? T=some (W.tabObj #[rawInt pos.line,rawInt pos.col,.ref c']):=I.hok T _ e;refine W.kla_makeFunctionHit (cv:=.ref c') hcl I.ok.glob (I.mod.glob.keeps I.bk) hc (C.keeps I.bk) hP trivial (sv pos _) (hB.keeps I.bk) fun ctv h' tk hk hz=>?_;have na:H h'.objs.size=none:=fresh _ hz;have ac:h'.objs.size≠c':=fun z=>by rw[z,ec]at na;cases na
  have aT:h'.objs.size≠T:=fun z=>by rw[z,e]at na;cases na
  refine⟨.ref h'.objs.size,_,I.laid (t':=tk) (a:=h'.objs.size) (o:=foO (W.kla_obj "<lambda>" (X.env.qual++"<lambda>") params body sc (aA X.env sc.names) ((X.mg "__name__").getD .none) c' ctv) h'.objs.size) (fun b u eb=>xi _ (hk b u eb)) hz (nY (xt _ rfl)),rfl,?_⟩;refine q _ c' _ ctv _ (fun b u eb=>?_) na ac (by rw[Ze (Ne.symm aT)];exact e) (by rw[Ze (Ne.symm ac)];exact ec) Z7;obtain⟨b1,b2⟩:=Z3 eb;rw[Zf b1,Ze (Zk b2 na)];exact b2
end
def py(base h:Heap)(as:List Addr):Heap:=W.hideAll h ((List.range h.objs.size).filter fun b=>(base.get? b).isNone && !decide (b∈as))
theorem Qi{base h:Heap}{as:List Addr}{b:Addr}{o:Obj}(e:h.get? b=some o)(k:(∃u,base.get? b=some u)∨b∈as):(py base h as).get? b=some o:=W.hideAll_get _ e fun z=>by
 have z2:=(yJ.mp z).2;rw[yu]at z2
 rcases k with⟨u,k⟩ | k
 ·rw[k]at z2;exact Bool.noConfusion z2.1
 ·rw[xB k]at z2;exact Bool.noConfusion z2.2
theorem iq{base h:Heap}{as:List Addr}{b:Addr}{o:Obj}(e:(py base h as).get? b=some o):h.get? b=some o∧((∃u,base.get? b=some u)∨b∈as):=by
 have e1:=W.of_hideAll _ e;refine⟨e1,?_⟩;cases k:base.get? b with
 |some u=>exact .inl ⟨u,rfl⟩
 |none=>
  by_cases m:b∈as
  ·exact .inr m
  ·have:(py base h as).get? b=none:=W.hideAll_none _ (yJ.mpr ⟨z7.mpr (xk e1),by rw[k,yk m];rfl⟩);rw[e]at this;cases this
theorem Vv{base B h:Heap}:∀{l:List Env},h.FunFrames base l→(∀L∈frs l,B.get? L=none)→h.FunFrames B l
 | [],_,_=>trivial
 |env::l,⟨hk,⟨L,o,hf,_,ho,hd⟩,hr⟩,hn=>⟨hk,⟨L,o,hf,hn L (ii (.head _) hf),ho,hd⟩,Vv hr fun L' hL=>hn L' (by
  obtain⟨e,he,q⟩:=yR.mp hL;exact ii (.tail _ he) q)⟩
theorem Inv.drop{X:Cx}{Av:List (Addr×Obj)}{σ:St}{H:Hp}{s:Shared}{a:Addr}{φ:Heap→Prop}(I:Inv X Av σ H s)(ea:H a=some (.ext φ)):Inv X Av σ (ag a H) s:=by
 have nn:∀b,H b=none→ag a H b=none:=fun b n=>by
  by_cases z:b=a
  ·rw[z];exact Pd
  ·rw[Zf z];exact n
 have ne:∀b u,H b=some u→(∀ψ,u≠.ext ψ)→ag a H b=some u:=fun b u e n=>by
  rw[Zf (fun z=>by rw[z,ea]at e;exact n φ (xK e).symm)];exact e
 refine⟨I.ok,I.os,I.bare,⟨I.base.keep,I.base.slot,fun b o e n hx=>nn b (I.base.free b o e n hx),I.base.there,fun b xs e=>ne b _ (I.base.tups b xs e) (fun _ z=>nomatch z),fun b o xs e=>ne b _ (I.base.frzs b o xs e) (fun _ z=>nomatch z),fun b ps e=>?_⟩,I.loc,I.cell,nn _ I.free,fun x c e=>nn c (I.freeC x c e),fun p hp=>?_,fun b u e=>?_,I.len⟩
 ·obtain⟨m,z⟩:=I.base.tbls b ps e;exact⟨m,ne b _ z (fun _ z=>nomatch z)⟩
 ·obtain⟨z1,z2,z3⟩:=I.pin p hp;exact⟨z1,nn _ z2,z3⟩
 ·obtain⟨b1,b2⟩:=Z3 e;exact(I.hok b u b2).stay (fun _ _ _ q=>q) (fun c q=>ne c _ q (fun _ z=>nomatch z)) fun c xs q=>ne c _ q (fun _ z=>nomatch z)
structure HasB(P:Program)(w:World)(K:W.Frag)(mg:Str→Option Value)(x:Str)(k:Nat)(ps:List Str)(sp:Heap→Sp):Prop where
 ex:∃f fd,(∀base:Heap,K.In base→base.Ns mainGlobals mg→FnOk P w K mg base CX0 k f fd ps (sp base))∧Binds K fd ps []∧W.keepIn K (.ref f)=true∧mg x=some (.ref f)
structure Wid(X:Cx)(σ:St)(a:Addr)(ob:Obj)(B:Heap):Prop where
 kin:X.K.In B
 glb:B.Ns mainGlobals X.mg
 sub:∀b o,X.base.get? b=some o→B.get? b=some o
 fn:B.get? a=some ob
 cell:∀(i:Nat) x v,X.N[i]?=some x→σ[i]?=some (some v)→X.env.scope.names.lookup x=some .cell→∃c u,X.env.cells.lookup x=some c∧B.IsCell c (some u)∧RelV v u
 cells:∀x c,X.env.cells.lookup x=some c→∃v,B.IsCell c v
 inj:∀x y c,X.env.cells.lookup x=some c→X.env.cells.lookup y=some c→x=y
def sg(X:Cx)(sp:Heap→Sp)(t:TA):TE:=fun σ H Q=>t σ H fun vs H1=>∃a ob,H1 a=some (foO ob a)∧∀B,Wid X σ a ob B→sp B vs (ag a H1) Q E0
section
variable{X:Cx}{j k:Nat}{ps:List Str}{sp:Heap→Sp}{x:Str}{p pos:Pos}{e:Expr}{es:List Expr}{t:TA}
theorem mW(h:HasB X.prog X.w X.K X.mg x j ps sp)(hfn:∀x,X.fn x=true)(hst:X.stack=X.env::X.outer)(hfr:X.env.frame=some X.env.locals)(hr:Room k X.A)(ha:PA X (e::es) t)(hg:Gl X x:=by rfl)(hj:j≤k:=by first | decide | omega)(hdb:(x==("__debug__":Str))=false:=by decide)(he:starEach (e::es) X.env=(false,eval e X.env)::starEach es X.env:=by rfl)(hpl:(backTo pos (starEach es X.env)).any (·.1)=false:=by rfl):
  PE X (.Call (.Name x p) (e::es) [] pos) (sg X sp t):=by
 intro Av s σ H Q I q;obtain⟨f,fd,F,b,kp,m⟩:=h.ex;refine Ab (Op I hg m ?_ hdb);refine W.callWith_K (h₀:=X.base) I.ok.mod.kin kp (thn (ha pos Av s σ H _ I q) fun us s1 z=>?_) he hpl;obtain⟨vs,H1,I1,r,a,ob,ea,q⟩:=z;refine⟨I1.kIn,?_⟩;have I2:Inv X Av σ (ag a H1) s1:=I1.drop ea;have oa:s1.heap.get? a=some ob:=(show ObjOk X.prog X.w H1 s1.heap a (foO ob a)from I1.hok a _ ea).1;generalize hB:py X.base s1.heap (a::X.env.cells.filterMap fun d=>X.env.cells.lookup d.1)=B;have cin:∀y c,X.env.cells.lookup y=some c→c∈a::X.env.cells.filterMap fun d=>X.env.cells.lookup d.1:=fun y c z=>.tail _ (yR.mpr ⟨(y,c),xX z,z⟩);have cou:∀b,b∈a::X.env.cells.filterMap (fun d=>X.env.cells.lookup d.1)→b=a∨∃y,X.env.cells.lookup y=some b:=fun b hb=>by
  rcases xv.mp hb with z | z
  ·exact .inl z
  ·obtain⟨d,_,e⟩:=yR.mp z;exact .inr ⟨d.1,e⟩
 have sub:∀b o,X.base.get? b=some o→B.get? b=some o:=fun b o z=>hB ▸ Qi (I1.bk b o z) (.inl ⟨o,z⟩);have up:∀b o,B.get? b=some o→s1.heap.get? b=some o∧ag a H1 b=none:=fun b o z=>by
  rw[←hB]at z;obtain⟨z1,z2⟩:=iq z;refine⟨z1,?_⟩
  rcases z2 with⟨u,z2⟩ | z2
  ·exact(I2.bs b u z2).2
  ·rcases cou b z2 with z3 | ⟨y,z3⟩
   ·rw[z3];exact Pd
   ·exact I2.freeC y b z3
 have clB:∀y c v,X.env.cells.lookup y=some c→s1.heap.IsCell c v→B.IsCell c v:=fun y c v e ⟨o,z,d⟩=>⟨o,hB ▸ Qi z (.inr (cin y c e)),d⟩;have nB:∀L∈frs X.stack,B.get? L=none:=fun L hL=>by
  cases z:B.get? L with
  |none=>rfl
  |some o=>
   exfalso;rw[←hB]at z;obtain⟨z1,z2⟩:=iq z
   rcases z2 with⟨u,z2⟩ | z2
   ·have:=(I1.stack.mem hL).1;rw[z2]at this;cases this
   ·rcases cou L z2 with z3 | ⟨y,z3⟩
    ·have:=I1.stkFree L hL;rw[z3,ea]at this;cases this
    ·rcases xv.mp (I1.stkSub L hL)with z4 | z4
     ·exact I1.cne y L z3 z4
     ·obtain⟨_,o',ho',_⟩:=I1.ok.funs.mem z4;exact absurd (xH (xk ho') (I1.ok.cab y L (hfn y) z3)) (zt _)
 have md:=I1.ok.mod;have kinB:X.K.In B:=fun b o z=>sub b o (md.kin b o z);have glbB:B.Ns mainGlobals X.mg:=md.glob.keeps sub;have modB:Mod X.K X.mg B:=⟨kinB,glbB,let ⟨mb,h1,h2⟩:=md.blt;⟨mb,h1.keeps sub,h2⟩,md.nolimit.keeps sub⟩;have szB:B.objs.size≤s1.heap.objs.size:=by rw[←hB];exact Nat.le_of_eq (W.hideAll_size _ _)
 have e0:Env0 X.prog X.w X.K X.mg B X.A X.stack s1 (ag a H1):=⟨I2.ok.frames,modB,up,szB,Vv I1.stack nB,I2.stkFree,I2.hok,I2.bare⟩;have wid:Wid X σ a ob B:=by
  refine⟨kinB,glbB,sub,hB ▸ Qi oa (.inr (.head _)),fun i y v h1 h2 h3=>?_,fun y c z=>?_,I1.ok.inj⟩
  ·obtain⟨mm,_,hl⟩:=I1.loc;obtain⟨u,rv,lk⟩:=hl i y v h1 h2 (.inr (.inl h3))
   rcases lk with⟨h4,_⟩|⟨_,c,h5,h6⟩
   ·have h4:X.env.scope.names.lookup y=some .local:=h4;rw[h3]at h4;cases h4
   ·exact⟨c,u,h5,clB y c _ h5 h6,rv⟩
  ·obtain⟨v,h6⟩:=I1.cell y c z;exact⟨v,clB y c v z h6⟩
 have hsp:=q B wid;have FB:=(F B kinB glbB).mono hj;have hl:us.length=ps.length:=by rw[←r.length];exact FB.len _ _ _ _ hsp
 have hbi:=b s1 us I1.kIn (by rw[yQ];exact hl);rw[yQ]at hbi;refine wpAny_call (Aa (FB.run X.A X.stack s1 (ag a H1) ⟨us,[]⟩ us vs Q E0 hr e0 hbi r hsp) fun r s' hq=>?_);cases r with
 |error e=>exact False.elim hq
 |ok fl=>
  cases fl with
  |ret u=>exact I2.after hq
  |next=>exact False.elim hq
  |brk=>exact False.elim hq
  |cont=>exact False.elim hq
end
def entH(Ts:List Addr)(s:Hp):Hp:=fun b=>if b∈Ts then some (.tbl #[])else s b
theorem jU{P:Program}{w:World}{K:W.Frag}{mg mb:Str→Option Value}{k:Nat}{fa a:Addr}{fd:FuncData}{x:Str}{sp:Sp}{s₁:Shared}{vs:List Value}{ns:List Int}{tabs:List (Addr×Addr)}(KX:K.In s₁.heap)(hns:s₁.heap.Ns mainGlobals mg)(hb:s₁.heap.Ns builtinsNs mb)(hbb:∀x:Str,x≠"__name__"→mb x=bootBuiltins x)(hlim:s₁.heap.NoLimit)(hg:s₁.gens=#[])(hbm:∃bm ob,mg "__builtins__"=some (.ref bm)∧bm≠builtinsNs∧s₁.heap.get? bm=some ob∧ob.cls=.type "module"∧ob.dict=some builtinsNs∧ob.data=.plain)(hT:W.TabsAt tabs s₁.heap)(hKT:∀T∈tabs.map (·.2),K.lookup T=none)(ha:s₁.heap.get? a=some {cls:=.type "list",data:=.seq vs.toArray})(hi:IntsAre vs ns)(hl:ns.length≤sizeLine)(hr:Room k callerA)(F:∀base:Heap,K.In base→base.Ns mainGlobals mg→(∀T∈tabs.map (·.2),base.BuiltinsAt mg T)→FnOk P w K mg base CX0 k fa fd [x] sp)(hbind:∀(s:Shared) (u:Value),BindsTo s fd ⟨[u],[]⟩ [(x,u)])(hsp:∀H:Hp,SqL K H a (ns.map V.int)→(∀T∈tabs.map (·.2),H T=some (.tbl #[]))→sp [.ref a] H (fun v _=>v=.bl true) fun _ _ _=>False):
  codeAny (model P w) callerA (.call (.ref fa) ⟨[.ref a],[]⟩) (fun r s'=>r=.ok (.ret (.bool true))∧OldK s₁.heap s'.heap∧s'.os=s₁.os∧AllBare s'.gens) s₁:=by
 have rv:=Tu hi;have lenV:=hi.length;have tabO:∀T∈tabs.map (·.2),s₁.heap.get? T=some (W.tabObj #[]):=fun T h=>by
  obtain⟨q,hq,rfl⟩:=xI.mp h;exact(hT q hq).2
 have aT:a∉tabs.map (·.2):=fun z=>by
  have:=tabO a z;rw[ha]at this;cases this
 have core:∀S:Hp,SqL K S a (ns.map V.int)→HOk P w S s₁.heap→(∀b,S b≠none→b=a)→(S a≠none→K.lookup a=none)→(∀b u,S b=some u→∃o xs,u=.frz o (.lst xs))→
   codeAny (model P w) callerA (.call (.ref fa) ⟨[.ref a],[]⟩) (fun r s'=>r=.ok (.ret (.bool true))∧OldK s₁.heap s'.heap∧s'.os=s₁.os∧AllBare s'.gens) s₁:=by
  intro S hS hokS hA hK hfrz;generalize hHd:entH (tabs.map (·.2)) S=H;have HT:∀b,b∈tabs.map (·.2)→H b=some (.tbl #[]):=fun b h=>by rw[←hHd];exact xp h
  have HS:∀b,b∉tabs.map (·.2)→H b=S b:=fun b h=>by rw[←hHd];exact xm h
  have hok:HOk P w H s₁.heap:=fun b u e=>by
   by_cases m:b∈tabs.map (·.2)
   ·rw[HT b m]at e;cases e;exact tabO b m
   ·rw[HS b m]at e;obtain⟨o,xs,rfl⟩:=hfrz b u e;exact hokS b _ e
  have noN:∀{b:Addr}{o:Obj},s₁.heap.get? b=some o→(∀ps,o≠W.tabObj ps)→(∀xs n,o.data≠.seq xs n)→H b=none:=fun{b o} e n1 n2=>by
   by_cases m:b∈tabs.map (·.2)
   ·exact absurd (xK (e.symm.trans (tabO b m))) (n1 #[])
   ·rw[HS b m];cases q:S b with
    |none=>rfl
    |some u=>
     have e':b=a:=hA b (by rw[q];exact fun z=>nomatch z);subst e';rw[ha]at e;cases e;exact absurd rfl (n2 _ _)
  have base_of:∀{b:Addr}{o:Obj},s₁.heap.get? b=some o→H b=none→(du s₁.heap H).get? b=some o:=fun e n=>li e n;have nsK:∀{b:Addr}{m:Str→Option Value},s₁.heap.Ns b m→(du s₁.heap H).Ns b m:=fun{b m} ⟨o,es,ep,e,d,r⟩=>⟨o,es,ep,base_of e (noN e (fun ps z=>by rw[z]at d;cases d) fun xs n z=>by rw[z]at d;cases d),d,r⟩;have hKb:K.In (du s₁.heap H):=fun b o e=>base_of (KX b o e) (by
   by_cases m:b∈tabs.map (·.2)
   ·rw[hKT b m]at e;cases e
   ·rw[HS b m];cases q:S b with
    |none=>rfl
    |some u=>
     have e':b=a:=hA b (by rw[q];exact fun z=>nomatch z);subst e';rw[hK (by rw[q];exact fun z=>nomatch z)]at e;cases e)
  have hM:Mod K mg (du s₁.heap H):=⟨hKb,nsK hns,⟨mb,nsK hb,hbb⟩,let ⟨mc,h1,h2⟩:=hlim;⟨mc,nsK h1,h2⟩⟩;have hBt:∀T∈tabs.map (·.2),(du s₁.heap H).BuiltinsAt mg T:=fun T m=>by
   obtain⟨bm,ob,b1,b2,b3,b4,b5,b6⟩:=hbm;refine⟨bm,ob,b1,b2,fun z=>?_,fun z=>?_,base_of b3 (noN b3 (fun ps z=>by rw[z]at b6;cases b6) fun xs n z=>by rw[z]at b6;cases b6),b4,b5,b6⟩
   ·obtain⟨o,es,ep,e,d,_⟩:=hns;rw[z,e]at b3;cases b3;rw[b6]at d;cases d
   ·rw[z,tabO T m]at b3;cases b3;cases b6
  have e0:Env0 P w K mg (du s₁.heap H) callerA [] s₁ H:=⟨rfl,hM,fun b o e=>qR e,Nat.le_of_eq (kT _ _),trivial,fun b hb=>absurd (show b∈([]:List Addr)from hb) (by simp),hok,.of_eq hg⟩;have hS':SqL K H a (ns.map V.int):=by
   rcases hS with(h | ⟨o,h⟩) | h
   ·exact .inl (.inl (by rw[HS a aT];exact h))
   ·exact .inl (.inr ⟨o,by rw[HS a aT];exact h⟩)
   ·exact .inr h
  refine Aa ((F _ hKb (nsK hns) hBt).run callerA [] s₁ H ⟨[.ref a],[]⟩ [.ref a] [.ref a] _ _ hr e0 (hbind s₁ (.ref a)) (.cons rfl .nil) (hsp H hS' HT)) fun r s' h=>?_;cases r with
  |error e=>exact False.elim h
  |ok fl=>
   cases fl with
   |next=>exact False.elim h
   |brk=>exact False.elim h
   |cont=>exact False.elim h
   |ret u=>
    obtain⟨v,H',os,bare,un,hok',r',q⟩:=h;have q':v=.bl true:=q;subst q';obtain rfl:u=Value.bool true:=r';have oth:∀b o,s₁.heap.get? b=some o→b∉tabs.map (·.2)→s'.heap.get? b=some o:=fun b o e m=>by
     cases q:H b with
     |none=>exact un.keep b o e q (by intro z;exact absurd (show b∈([]:List Addr)from z) (by simp)) (by simp)
     |some u=>
      obtain⟨ob,xs,rfl⟩:=hfrz b u (by rw[←HS b m];exact q);have z2:=un.frzs b ob _ q;obtain⟨e1,_⟩:=hok b _ q;obtain⟨e2,_⟩:=hok' b _ z2;rw[e]at e1;cases e1;exact e2
    have tab:∀b,b∈tabs.map (·.2)→∃more,s'.heap.get? b=some (W.tabObj more):=fun b m=>by
     obtain⟨more,z⟩:=un.tbls b #[] (HT b m);exact⟨_,hok' b _ z⟩
    refine⟨rfl,⟨fun b o e=>?_,fun b o e=>?_⟩,os,bare⟩
    ·by_cases m:b∈tabs.map (·.2)
     ·obtain⟨more,z⟩:=tab b m;obtain⟨t,ht,rfl⟩:=xI.mp m;rw[tabO _ m]at e;cases e;refine .inr (.inl ⟨((hT t ht).1.tab (hT t ht).2).isCodeTable,rfl,#[],more,rfl,?_⟩);rw[z];simp
     ·exact .inl (oth b o e m)
    ·by_cases m:b∈tabs.map (·.2)
     ·obtain⟨more,z⟩:=tab b m;exact⟨_,z⟩
     ·exact⟨o,oth b o e m⟩
 cases hk:K.lookup a with
 |some o=>
  have e:=KX a o hk;rw[ha]at e;cases e;refine core (fun _=>none) (.inr ⟨_,vs.toArray,_,hk,rfl,rfl,rfl,by rw[List.size_toArray,lenV];exact hl,by simpa using rv⟩) (fun b u z=>by have z':(none:Option HO)=some u:=z;cases z') (fun b z=>absurd rfl z) (fun z=>absurd rfl z) (fun b u z=>by have z':(none:Option HO)=some u:=z;cases z')
 |none=>
  refine core (fun b=>if b=a then some (.frz {cls:=.type "list",data:=.seq vs.toArray} (.lst (ns.map V.int)))else none) (.inl (.inr ⟨{cls:=.type "list",data:=.seq vs.toArray},xp rfl⟩)) (fun b u z=>?_) (fun b z=>?_) (fun _=>hk) fun b u z=>?_
  ·by_cases hb:b=a
   ·have z':=(xp hb).symm.trans z;cases z';subst hb;exact⟨ha,by rw[xh];exact hl,vs,_,rv,ha⟩
   ·have z':=(xm hb).symm.trans z;cases z'
  ·by_cases hb:b=a
   ·exact hb
   ·exact absurd (xm hb) z
  ·by_cases hb:b=a
   ·have z':=(xp hb).symm.trans z;cases z';exact⟨_,_,rfl⟩
   ·have z':=(xm hb).symm.trans z;cases z'
theorem walk_T{l:W.OpenLaw}{n k:Nat}{q:Program}{loose:List Str}{XP:(Str→Option Value)→Heap→Prop}{YP:World→Heap→Prop}{d:DefRec}{K:Params→W.Frag}{sp:World→Sp}{x:Str}{tabs:List (Addr×Addr)}(hn:l.most=some n)(hn2:n≤sizeLine)(hdf:d.params.defaults=[])(hr:Room k callerA)(hY:∀(w:World) (h:Heap),YP w h→(K w.params).In h)(hT:∀(w:World) (mg mb:Str→Option Value) (loose':List Str) (mean:ExcName→Option Value) (h:Heap),Top q loose' mean mg mb h→(K w.params).In h→W.TabsAt tabs h)(hKT:∀(w:World),∀T∈tabs.map (·.2),(K w.params).lookup T=none)(F:∀(w:World) (mg:Str→Option Value) (fa:Addr) (h:Heap),(K w.params).In h→h.Ns mainGlobals mg→mg d.name=some (.ref fa)→
   ∃fd:FuncData,(∀(s:Shared) (u:Value),BindsTo s fd ⟨[u],[]⟩ [(x,u)])∧
    ∀base:Heap,(K w.params).In base→base.Ns mainGlobals mg→(∀T∈tabs.map (·.2),base.BuiltinsAt mg T)→FnOk l.prog w (K w.params) mg base CX0 k fa fd [x] (sp w))(hsp:∀(w:World) (H:Hp) (a:Addr) (ns:List Int),ns.length≤n→SqL (K w.params) H a (ns.map V.int)→(∀T∈tabs.map (·.2),H T=some (.tbl #[]))→sp w [.ref a] H (fun v _=>v=.bl true) fun _ _ _=>False):
  W.WalkO q loose XP YP l.row.toRowW d [] (fun f vs=>PySem.call f vs):=by
 refine Att.attach_call hn hdf fun w s₀ s₁ mg mb fa o pm cd doc a vs ns G Y ho hd hcd hmg hobj hints AJ hg=>?_;have KX:=hY w _ Y;obtain⟨fd,hb,hF⟩:=F w mg fa _ KX G.T.g hmg;exact jU KX G.T.g G.T.b G.T.builtins G.T.nolimit hg G.T.bmain (hT w mg mb _ _ _ G.T KX) (hKT w) hobj hints (xZ AJ hn2) hr hF hb (fun H hS hTT=>hsp w H a ns AJ hS hTT)
end L2
namespace L2
open PySem PySem.Spec PyProof.Rows
def Itz(K:W.Frag)(a b:Addr):It:=
 ⟨fun i H=>∃xs ys x y,SqL K H a xs∧SqL K H b ys∧xs[i]?=some x∧ys[i]?=some y,
  fun i H u H'=>∃T x y,u=.ref T∧H T=none∧H'=upd H T (.tup [x,y])∧∀xs ys,SqL K H a xs→SqL K H b ys→xs[i]?=some x∧ys[i]?=some y,
  fun i H=>∃xs ys,SqL K H a xs∧SqL K H b ys∧(xs.length≤i∨ys.length≤i)⟩
section
variable{X:Cx}{Av:List (Addr×Obj)}{σ:St}{H:Hp}{s:Shared}{h':Heap}
theorem Inv.turnedL{t':Nat}{ch:List Addr}(I:Inv X Av σ H s)(k:∀b o,b∉ch→s.heap.get? b=some o→h'.get? b=some o)(hc:∀b∈ch,cj X Av H b):Inv X Av σ H {s with heap:=h',toks:=t'}:=by
 have nit:∀b u,H b=some u→b∉ch:=fun b u e z=>by rw[(hc b z).1]at e;cases e
 refine I.step (g':=s.gens) (d':=s.drawn) (ch:=ch) (fun b hb=>?_) (fun b o _ _ hc e _=>k b o hc e) (fun b o _ _ hc e _=>⟨o.slots,k b o hc e⟩) (fun _ _ _ _ n=>n) (fun b o hc e=>⟨o,k b o hc e⟩) (fun _ _ e=>e) (fun _ _ _ e=>e) (fun b ps e=>⟨#[],by rw[e];simp⟩) (fun m hm=>?_) (fun b u e=>?_) I.bare
 ·obtain⟨f0,f1,f2,f3,f4,f5⟩:=hc b hb;exact⟨f3,f1,f4,f5⟩
 ·obtain⟨o,es,ep,ho,r⟩:=hm;exact⟨o,es,ep,k _ o (fun z=>(hc _ z).2.1 rfl) ho,r⟩
 ·refine(I.hok b u e).stay (fun c v hc q=>k c v ?_ q) (fun _ q=>q) fun _ _ q=>q
  rcases hc with z | z
  ·rw[z];exact nit b u e
  ·exact nit c _ z
theorem Inv.zipped{t':Nat}{ch:List Addr}{T:Addr}{o:HO}(I:Inv X Av σ H s)(k:∀b o,b∉ch→s.heap.get? b=some o→h'.get? b=some o)(hc:∀b∈ch,cj X Av H b)(hT:s.heap.objs.size≤T)(new:ObjOk X.prog X.w (upd H T o) h' T o):Inv X Av σ (upd H T o) {s with heap:=h',toks:=t'}:=by
 have hn:=I.hok.fresh hT;have nit:∀b u,H b=some u→b∉ch:=fun b u e z=>by rw[(hc b z).1]at e;cases e
 have up:∀{b:Addr}{u:HO},H b=some u→upd H T o b=some u:=fun{b u} e=>by rw[Ze (Zk e hn)];exact e
 refine I.step (g':=s.gens) (d':=s.drawn) (ch:=ch) (fun b hb=>?_) (fun b o _ _ hc e _=>k b o hc e) (fun b o _ _ hc e _=>⟨o.slots,k b o hc e⟩) (fun b o' _ e n=>?_) (fun b o hc e=>⟨o,k b o hc e⟩) (fun _ _ e=>up e) (fun _ _ _ e=>up e) (fun b ps e=>⟨#[],by rw[up e];simp⟩) (fun m hm=>?_) (fun b u e=>?_) I.bare
 ·obtain⟨f0,f1,f2,f3,f4,f5⟩:=hc b hb;exact⟨f3,f1,f4,f5⟩
 ·rw[Ze (xx (xH (xk e) hT))];exact n
 ·obtain⟨o,es,ep,ho,r⟩:=hm;exact⟨o,es,ep,k _ o (fun z=>(hc _ z).2.1 rfl) ho,r⟩
 ·by_cases hb:b=T
  ·subst hb;rw[Z7]at e;cases e;exact new
  ·rw[Ze hb]at e;refine(I.hok b u e).stay (fun c v hc q=>k c v ?_ q) (fun _ q=>up q) fun _ _ q=>up q
   rcases hc with z | z
   ·rw[z];exact nit b u e
   ·exact nit c _ z
end
abbrev vB(z TI TO i1 i2 l1 l2:Addr):Nat→Heap→Prop:=fun i h=>IsZip h z TI TO .none∧IsPair h TI (.ref i1) (.ref i2)∧(∃a b,IsPair h TO a b)∧h.IsListIter i1 l1 i∧h.IsListIter i2 l2 i
theorem mM{P:Program}{w:World}{K:W.Frag}{elts:List Expr}{k:Nat}{pos:Pos}{z TI TO i1 i2 l1 l2:Addr}(D:ZipApart z TI TO i1 i2 l1 l2):Turn P w K (.Tuple elts k pos) (Itz K l1 l2) [z,TI,TO,i1,i2] z (vB z TI TO i1 i2 l1 l2) where
 mem:=by simp
 obj:=fun i h st b hb=>by
  obtain⟨hz,hTI,⟨a',b',hTO⟩,⟨o1,e1,c1,d1⟩,o2,e2,c2,d2⟩:=st;simp only[List.mem_cons,List.not_mem_nil,or_false]at hb
  rcases hb with rfl | rfl | rfl | rfl | rfl
  ·exact⟨_,hz,fun v q=>(nomatch q)⟩
  ·exact⟨_,hTI,fun v q=>(nomatch q)⟩
  ·exact⟨_,hTO,fun v q=>(nomatch q)⟩
  ·exact⟨o1,e1,fun v q=>by rw[d1]at q;cases q⟩
  ·exact⟨o2,e2,fun v q=>by rw[d2]at q;cases q⟩
 keep:=fun i h h' st kk=>by
  obtain⟨hz,hTI,⟨a,b,hTO⟩,h1,h2⟩:=st;exact⟨kk z (by simp) _ hz,kk TI (by simp) _ hTI,⟨a,b,kk TO (by simp) _ hTO⟩,h1.at fun o e=>kk i1 (by simp) o e,h2.at fun o e=>kk i2 (by simp) o e⟩
 item:=by
  intro X hP hw hK hc i Av s σ H E I hf st hg;subst hP hw hK;obtain⟨xs,ys,x,y,hq1,hq2,hx,hy⟩:=hg;obtain⟨its1,rv1,p1,hz1⟩:=I.list hq1;obtain⟨its2,rv2,p2,hz2⟩:=I.list hq2;obtain⟨u,hu,ru⟩:=rv1.get hx;obtain⟨v,hv,rv⟩:=rv2.get hy;obtain⟨hz,hTI,⟨a,b,hTO⟩,h1,h2⟩:=st;refine wpAny_pyNext_zip_item D hz hTI hTO h1 h2 p1.isList p2.isList (x:=u) (y:=v) (by simpa using hu) (by simpa using hv) fun h' a1 a2 a3 a4 a5 a6 hk=>?_;refine⟨_,rfl,?_⟩;refine wpAny_letOwnedTupleGo_zip (s:={s with heap:=h'}) a1 fun h2' z' sb=>?_;have lt:∀{c o},s.heap.get? c=some o→c≠s.heap.objs.size:=fun e=>xx (xk e);have Tz:s.heap.objs.size≠z:=Ne.symm (lt hz);have l1':i1≠s.heap.objs.size:=by obtain⟨o,e,_⟩:=h1;exact lt e
  have l2':i2≠s.heap.objs.size:=by obtain⟨o,e,_⟩:=h2;exact lt e
  refine⟨.ref s.heap.objs.size,upd H s.heap.objs.size (.tup [x,y]),?_,rfl,⟨s.heap.objs.size,x,y,rfl,I.hok.fresh (xj _),rfl,fun xs' ys' e1 e2=>?_⟩,?_,fun b hb=>?_⟩
  ·refine I.zipped (t':=s.toks) (ch:=[z,TI,TO,i1,i2]) (fun b o hb e=>?_) hf (xj _) ⟨by show(2:Nat)≤sizeLine;decide,[u,v],.cons ru (.cons rv .nil),?_⟩
   ·simp only[List.mem_cons,List.not_mem_nil,or_false,not_or]at hb;obtain⟨b1,b2,b3,b4,b5⟩:=hb;exact sb.extBut _ _ b1 (hk b o b1 b3 b4 b5 e)
   ·exact⟨_,sb.extBut _ _ Tz a5,⟨rfl,rfl⟩,_,rfl⟩
  ·rw[I.list_inj e1 hq1,I.list_inj e2 hq2];exact⟨hx,hy⟩
  ·exact⟨z',sb.extBut _ _ D.TIz (hk _ _ D.TIz D.TITO D.TIi1 D.TIi2 hTI),⟨_,_,sb.extBut _ _ D.TOz a2⟩,a3.extBut sb.extBut D.i1z,a4.extBut sb.extBut D.i2z⟩
  ·have bn:b≠s.heap.objs.size:=by
    simp only[List.mem_cons,List.not_mem_nil,or_false]at hb
    rcases hb with rfl | rfl | rfl | rfl | rfl
    ·exact lt hz
    ·exact lt hTI
    ·exact lt hTO
    ·exact l1'
    ·exact l2'
   rw[Ze bn];exact(hf b hb).1
 done:=by
  intro X hP hw hK hc i Av s σ H E I hf st hg;subst hP hw hK;obtain⟨xs,ys,hq1,hq2,hx⟩:=hg;obtain⟨its1,rv1,p1,hz1⟩:=I.list hq1;obtain⟨its2,rv2,p2,hz2⟩:=I.list hq2;obtain⟨hz,hTI,⟨a,b,hTO⟩,h1,h2⟩:=st;have e1:=rv1.length;have e2:=rv2.length;refine wpAny_pyNext_zip_end (I.ok.hd hc) D hz hTI hTO h1 h2 p1.isList p2.isList ?_ fun h' hk=>⟨rfl,I.turnedL (t':=s.toks) (ch:=[z,TI,TO,i1,i2]) (fun b o hb e=>?_) hf⟩
  ·rcases hx with hx | hx
   ·exact .inl (by simp;omega)
   ·exact .inr (by simp;omega)
  ·simp only[List.mem_cons,List.not_mem_nil,or_false,not_or]at hb;obtain⟨b1,b2,b3,b4,b5⟩:=hb;exact hk b o b1 b3 b4 b5 e
 self:=fun _ _ _ _ _ st h=>wpAny_pyIter_zip st.1 h
def iZip(K:W.Frag)(ta:TA):TI:=fun σ H R=>ta σ H fun vs H1=>∃a b,vs=[.ref a,.ref b]∧(∃xs,SqL K H1 a xs)∧(∃ys,SqL K H1 b ys)∧R (Itz K a b) H1
theorem sC{X:Cx}{elts:List Expr}{n:Nat}{tp:Pos}{a b:Expr}{ta:TA}{p pos:Pos}(hg:Gl X "zip")(hm:X.mg "zip"=none)(ha:PA X [a,b] ta)(hs:starEach [a,b] X.env=[(false,eval a X.env),(false,eval b X.env)]:=by rfl)(hs2:starEach [b] X.env=[(false,eval b X.env)]:=by rfl):
  PI X (.Tuple elts n tp) (.Call (.Name "zip" p) [a,b] [] pos) (iZip X.K ta):=by
 intro Av s σ H R I h;refine Call_ (S3 I hg hm boot_zip (zI (thn (ha pos Av s σ H _ I h) fun us s1 ⟨vs,H1,I1,r1,q1⟩=>?_) (by rw[hs,hs2]) (by rw[hs2];rfl)));obtain⟨l1,l2,e,⟨xs,hq1⟩,⟨ys,hq2⟩,q⟩:=q1;subst e;cases r1 with
 |cons r rr=>
  cases rr with
  |cons r' rr=>
   cases rr;cases r;cases r';obtain⟨its1,rv1,p1,hz1⟩:=I1.list hq1;obtain⟨its2,rv2,p2,hz2⟩:=I1.list hq2;have lt1:l1<s1.heap.objs.size:=by obtain⟨o,e,_⟩:=p1.isList;exact xk e
   have lt2:l2<s1.heap.objs.size:=by obtain⟨o,e,_⟩:=p2.isList;exact xk e
   have D:ZipApart (s1.heap.objs.size+4) (s1.heap.objs.size+2) (s1.heap.objs.size+3) s1.heap.objs.size (s1.heap.objs.size+1) l1 l2:=by constructor <;> (unfold Addr at *;omega)
   refine call_zip_2 p1.isList p2.isList fun h' c1 c2 c3 c4 c5 c6 hk=>?_;refine wpAny_pyIter_zip (s:={s1 with heap:=h'}) c1 ?_;refine⟨_,[_,_,_,_,_],_,_,H1,rfl,I1.kept (t':=s1.toks) hk,mM D,⟨c1,c2,⟨_,_,c3⟩,c4,c5⟩,fun b hb=>?_,q⟩;have hb':s1.heap.objs.size≤b:=by
    simp only[List.mem_cons,List.not_mem_nil,or_false]at hb
    rcases hb with rfl | rfl | rfl | rfl | rfl
    ·exact zk _ _
    ·exact zk _ _
    ·exact zk _ _
    ·exact xj _
    ·exact zk _ _
   exact I1.fpOk hb' (I1.hok.fresh hb')
theorem lu{K:W.Frag}{a b:Addr}{xs zs:List V}{k:Nat}{g:TG}{tt:TT}{te:TE}{σ:St}{H:Hp}{Q:VK}(Pv:Nat→List V→Hp→Prop)(h0:Pv 0 [] H)(hl:∀i ys H,i≤min xs.length zs.length→Pv i ys H→SqL K H a xs∧SqL K H b zs)(hs:∀i x z ys H (T:Addr) (C:List V→Hp→Prop),xs[i]?=some x→zs[i]?=some z→Pv i ys H→H T=none→(∀ys' H',Pv (i+1) ys' H'→C ys' H')→ys.length<sizeLine∧g (.ref T) (List.replicate k none++σ) (upd H T (.tup [x,z])) fun σ2 H2=>Wk σ2 (List.replicate k none++σ)∧tt σ2 H2 fun ok H3=>
   if ok=true then te σ2 H3 fun y H4=>C (ys++[y]) H4 else C ys H3)(AJ:∀i ys H,i<min xs.length zs.length→Pv i ys H→ys.length<sizeLine)(hd:∀ys H,Pv (min xs.length zs.length) ys H→ys.length≤sizeLine∧∀p,H p=none→Q (.ref p) (upd H p (.lst ys))):
  CompR (Itz K a b) H k g tt te σ Q:=by
 refine⟨fun i m ys H=>m=min xs.length zs.length-i∧i≤min xs.length zs.length∧Pv i ys H,⟨min xs.length zs.length,by simp,Nat.zero_le _,h0⟩,?_⟩;rintro i m ys H ⟨rfl,hi,p⟩;obtain⟨q1,q2⟩:=hl i ys H hi p;by_cases AA:i<min xs.length zs.length
 ·refine .inr ⟨⟨xs,zs,xs[i]'(by omega),zs[i]'(by omega),q1,q2,xz _,xz _⟩,AJ i ys H AA p,?_⟩;rintro _ _ ⟨T,x,z,rfl,nT,rfl,hy⟩;obtain⟨e1,e2⟩:=hy xs zs q1 q2;exact(hs i x z ys H T (fun ys' H'=>∃m',m'<min xs.length zs.length-i∧m'=min xs.length zs.length-(i+1)∧i+1≤min xs.length zs.length∧Pv (i+1) ys' H') e1 e2 p nT (fun ys' H' h=>⟨_,by omega,rfl,AA,h⟩)).2
 ·have e:i=min xs.length zs.length:=Nat.le_antisymm hi (Nat.le_of_not_lt AA);subst e;exact .inl ⟨⟨xs,zs,q1,q2,by omega⟩,hd ys H p⟩
theorem qG{X:Cx}:OpR X (compareOp .IsNot) (fun x y H Q=>∃k:Bool,x=.bl k∧y=.bl true∧Q (.bl (!k)) H):=by
 intro Av s σ H x y v u Q I rx ry h;obtain⟨k,rfl,rfl,q⟩:=h;cases rx;cases ry;exact wpAny_isNot_plain (by cases k <;> rfl) (Zt I q (by cases k <;> rfl))
def sRen(N N':List Str)(t:TS):TS:=fun D σ H=>Hid N N' σ∧t {nx:=fun σ' H'=>Hid N N' σ'∧D.nx σ' H',rt:=fun _ _=>False} σ H
theorem ud{X:Cx}{st:Stmt}{t:TS}(N':List Str)(h:PS (X.ren N') st t)(hl:N'.length=X.N.length:=by rfl):PS X st (sRen X.N N' t):=by
 intro Av s σ H D I q;refine thn (h Av s σ H _ (I.ren hl q.1) q.2) fun f s1 hf=>?_;cases f with
 |next=>
  obtain⟨σ',H',I',q1,q2⟩:=hf;exact⟨σ',H',I'.unren hl q1,q2⟩
 |brk=>
  obtain⟨σ',H',I',q1⟩:=hf;exact q1.elim
 |cont=>
  obtain⟨σ',H',I',q1⟩:=hf;exact q1.elim
 |ret u=>
  obtain⟨v,σ',H',I',r,q1⟩:=hf;exact q1.elim
section
variable{X:Cx}
end
theorem iy{K:W.Frag}{H H':Hp}{a:Addr}{xs:List V}(s:Same H H')(h:SqL K H a xs):SqL K H' a xs:=by
 rcases h with h | h
 ·rcases h with h | ⟨o,h⟩
  ·exact .inl (.inl (s _ _ h))
  ·exact .inl (.inr ⟨o,s _ _ h⟩)
 ·exact .inr h
structure Pn(K:W.Frag)(S:Addr)(ns:List Int)(H:Hp)(a:Addr):Prop where
 at_:∃i r:Int,H a=some (.lst [.ref S,.int i,.int r])
 scr:SqL K H S (ns.map V.int)
 few:ns.length≤63
section
variable{K:W.Frag}{S:Addr}{ns:List Int}{H H':Hp}{a p:Addr}
theorem Pn.same(h:Pn K S ns H a)(g:Same H H'):Pn K S ns H' a:=by
 obtain⟨⟨i,r,e⟩,s,f⟩:=h;exact⟨⟨i,r,g _ _ e⟩,iy g s,f⟩
theorem Pn.laid{o:HO}(h:Pn K S ns H a)(hp:H p=none):Pn K S ns (upd H p o) a:=h.same (Z9 hp o)
theorem Pn.ne(h:Pn K S ns H a)(hp:H p=none):p≠a:=by
 obtain⟨⟨i,r,e⟩,_⟩:=h;exact fun q=>by rw[q,e]at hp;cases hp
theorem Pn.grw(h:Pn K S ns H a)(g:Same H H'):Grw a H H':=by
 obtain⟨⟨i,r,e⟩,_⟩:=h;exact lC e g
theorem Pn.upd(h:Pn K S ns H a)(i r:Int):Pn K S ns (upd H a (.lst [.ref S,.int i,.int r])) a:=by
 obtain⟨⟨i0,r0,e⟩,s,f⟩:=h;refine⟨⟨i,r,Z7⟩,?_,f⟩
 rcases s with(s | ⟨o,s⟩) | s
 ·refine .inl (.inl ?_);rw[Ze ?_]
  ·exact s
  ·intro z;rw[z,e]at s;cases ns with
   |nil=>cases s
   |cons n ns=>cases s
 ·refine .inl (.inr ⟨o,?_⟩);rw[Ze ?_]
  ·exact s
  ·intro z;rw[z,e]at s;cases s
 ·exact .inr s
theorem Zg{H1:Hp}{o:HO}(h:L2.upd H p o=H1)(n:H p=none)(hp:Pn K S ns H a):Pn K S ns H1 a∧Grw a H H1∧p≠a∧ag a H1 p=some o:=by
 subst h;exact⟨hp.laid n,mO n,hp.ne n,by rw[Zf (hp.ne n)];exact Z7⟩
theorem Pn.tup{xs:List V}(h:Pn K S ns H a)(e:H p=some (.tup xs)):ag a H p=some (.tup xs):=by
 obtain⟨⟨i,r,e0⟩,_⟩:=h;rw[Zf (fun z=>by rw[z,e0]at e;cases e)];exact e
end
abbrev Ris(ps:Array Nat):Prop:=ps.toList.Pairwise (·<·)
theorem Tb{ps:Array Nat}(h:Ris ps){i k:Nat}(hik:i<k)(hk:k<ps.size):ps[i]'(by omega)<ps[k]:=by
 have:=List.pairwise_iff_getElem.mp h i k (by rw[xF];omega) (by rw[xF];exact hk) hik;simpa using this
structure Cut(ps:Array Nat)(j b:Nat):Prop where
 le:b≤ps.size
 lo:∀i (h:i<ps.size),i<b→ps[i]<j
 hi:∀i (h:i<ps.size),b≤i→j≤ps[i]
theorem fh{ps:Array Nat}{j:Nat}(h:Ris ps):∀(fuel lo hi:Nat),hi≤ps.size→lo≤hi→hi-lo≤fuel→(∀i (q:i<ps.size),i<lo→ps[i]<j)→(∀i (q:i<ps.size),hi≤i→j≤ps[i])→Cut ps j (SetTable.below.go ps j fuel lo hi)
 | 0,lo,hi,h1,h2,h3,h4,h5=>by
  have e:lo=hi:=by omega
  subst e;exact⟨h1,h4,h5⟩
 |fuel+1,lo,hi,h1,h2,h3,h4,h5=>by
  show Cut ps j (if lo<hi then if ps.getD ((lo+hi) / 2) j<j then SetTable.below.go ps j fuel ((lo+hi) / 2+1) hi else SetTable.below.go ps j fuel lo ((lo+hi) / 2)else lo);by_cases c:lo<hi
  ·rw[xp c];have hm:(lo+hi) / 2<ps.size:=by omega
   have eg:ps.getD ((lo+hi) / 2) j=ps[(lo+hi) / 2]:=by
    simp[Array.getD,hm]
   rw[eg];by_cases d:ps[(lo+hi) / 2]<j
   ·rw[xp d];refine fh h fuel _ _ h1 (by omega) (by omega) (fun i q hi2=>?_) h5;by_cases e:i=(lo+hi) / 2
    ·subst e;exact d
    ·exact zu (Tb h (i:=i) (k:=(lo+hi) / 2) (by omega) hm) d
   ·rw[xm d];refine fh h fuel _ _ (by omega) (by omega) (by omega) h4 (fun i q hi2=>?_);by_cases e:i=(lo+hi) / 2
    ·subst e;omega
    ·have:=Tb h (i:=(lo+hi) / 2) (k:=i) (by omega) q;omega
  ·rw[xm c];have e:lo=hi:=by omega
   subst e;exact⟨h1,h4,h5⟩
theorem Sc{ps:Array Nat}(h:Ris ps)(j:Nat):Cut ps j (SetTable.below ps j):=
 fh h ps.size 0 ps.size (xj _) (yh _) (by omega) (fun i q z=>by omega) (fun i q z=>by omega)
theorem pS{ps:Array Nat}{j b:Nat}(h:Ris ps)(c:Cut ps j b)(hm:j∈ps.toList):ps[b]?=some j:=by
 obtain⟨k,hk,e⟩:=zQ.mp hm;rw[xF]at hk;have e:ps[k]=j:=by simpa using e
 have kb:b≤k:=by
  by_cases q:k<b
  ·have:=c.lo k hk q;omega
  ·omega
 have bk:b=k:=by
  by_cases q:b=k
  ·exact q
  ·have h1:=Tb h (i:=b) (k:=k) (by omega) hk;have h2:=c.hi b (by omega) (xj _);omega
 subst bk;rw[xC hk,e]
theorem gO{t:SetTable}(h:Ris t.place){j:Nat}(e:t.slot j=.empty):j∉t.place.toList:=fun hm=>by
 have q:=pS h (Sc h j) hm;have e:(if (t.place[SetTable.below t.place j]? == some j)=true then SetTable.Slot.live (SetTable.below t.place j)else if SetTable.has t.dummies j=true then SetTable.Slot.dummy else SetTable.Slot.empty)=SetTable.Slot.empty:=e;rw[q]at e;simp at e
theorem O3{t:SetTable}(hd:t.dummies=#[])(j:Nat):t.slot j≠.dummy:=by
 unfold SetTable.slot;have:SetTable.has t.dummies j=false:=by
  rw[hd];unfold SetTable.has;rfl
 rw[this];intro e;by_cases c:(t.place[SetTable.below t.place j]? == some j)=true
 ·simp[c]at e
 ·simp[c]at e
theorem kL(t:SetTable)(p:SetTable.Probe)(h:p.dummy=none):(t.advance p).dummy=none:=by
 unfold SetTable.advance;by_cases c:p.more > 0
 ·rw[xp c];exact h
 ·rw[xm c];exact h
theorem Sd{t:SetTable}(hd:t.dummies=#[]){hashAt:Nat→Int}{h:Int}:∀(fuel:Nat)(p:SetTable.Probe),p.dummy=none→∀{j d},SetTable.probe.go t hashAt h fuel p=some (.empty j d)→d=none∧t.slot j=.empty
 | 0,p,hp,j,d,e=>by cases e
 |fuel+1,p,hp,j,d,e=>by
  have e:(match t.slot p.j with
   |.empty=>some (SetTable.Met.empty p.j p.dummy)
   |.dummy=>SetTable.probe.go t hashAt h fuel (t.advance {p with dummy:=some p.j})
   |.live i=>if (hashAt i==h)=true then some (SetTable.Met.candidate p.j i (t.advance p))else SetTable.probe.go t hashAt h fuel (t.advance p))=some (.empty j d):=e
  cases q:t.slot p.j with
  |empty=>
   rw[q]at e;cases e;exact⟨hp,q⟩
  |dummy=>exact absurd q (O3 hd _)
  |live i=>
   rw[q]at e;by_cases c:(hashAt i==h)=true
   ·simp[c]at e
   ·simp[c]at e;exact Sd hd fuel _ (kL t p hp) e
theorem j8{t:SetTable}(hr:Ris t.place)(hd:t.dummies=#[]){h:Int}{j:Nat}{d:Bool}(e:t.freeSlot h=some (j,d)):d=false∧j∉t.place.toList:=by
 unfold SetTable.freeSlot at e;generalize q:t.probe (fun _=>h+1) h (t.probeStart h)=r at e
 match r with
 |none=>cases e
 |some (.candidate _ _ _)=>cases e
 |some (.empty j' d')=>
  obtain⟨e1,e2⟩:=Sd hd _ _ (show(t.probeStart h).dummy=none from rfl) q;subst e1;cases e;exact⟨rfl,gO hr e2⟩
theorem Qo{α:Type}(xs:Array α)(p:Nat)(x:α)(hp:p≤xs.size):(SetTable.insertAt xs p x).toList=xs.toList.take p++x::xs.toList.drop p:=by
 unfold SetTable.insertAt;simp[Array.toList_append,Array.toList_extract,List.extract_eq_drop_take];rw[List.take_of_length_le (by simp)]
theorem fg{ps:Array Nat}(h:Ris ps){j:Nat}(hn:j∉ps.toList):Ris (SetTable.insertAt ps (SetTable.below ps j) j):=by
 have c:=Sc h j;show(SetTable.insertAt ps (SetTable.below ps j) j).toList.Pairwise (·<·);rw[Qo _ _ _ c.le,List.pairwise_append];refine⟨h.sublist (List.take_sublist _ _),xR.mpr ⟨fun y hy=>?_,h.sublist (List.drop_sublist _ _)⟩,fun y hy z hz=>?_⟩
 ·obtain⟨k,hk,rfl⟩:=zQ.mp hy;rw[yK,xF]at hk;rw[List.getElem_drop];have:=c.hi (SetTable.below ps j+k) (by omega) (by omega);have ne:ps[SetTable.below ps j+k]'(by omega)≠j:=fun q=>hn (by
   rw[←q];exact Array.getElem_mem_toList _)
  have e:ps.toList[SetTable.below ps j+k]'(by rw[Array.length_toList];omega)=ps[SetTable.below ps j+k]'(by omega):=by simp
  rw[e];omega
 ·obtain⟨k,hk,rfl⟩:=zQ.mp hy;rw[yn,xF]at hk;rw[List.getElem_take];have e:ps.toList[k]'(by rw[Array.length_toList];omega)=ps[k]'(by omega):=by simp
  rw[e];have l1:=c.lo k (by omega) (by omega)
  rcases xv.mp hz with rfl | hz
  ·exact l1
  ·obtain⟨k2,hk2,rfl⟩:=zQ.mp hz;rw[yK,xF]at hk2;rw[List.getElem_drop];have:=c.hi (SetTable.below ps j+k2) (by omega) (by omega);have e2:ps.toList[SetTable.below ps j+k2]'(by rw[Array.length_toList];omega)=ps[SetTable.below ps j+k2]'(by omega):=by simp
   rw[e2];omega
theorem j5(n:Nat):Ris (Array.range n):=by
 show(Array.range n).toList.Pairwise (·<·);rw[Array.toList_range];exact List.pairwise_lt_range
theorem Tc{f:Nat→Option (Nat×Nat)}(hf:∀j x,f j=some x→x.1=j):∀(l:List Nat),l.Pairwise (·<·)→((l.filterMap f).map (·.1)).Pairwise (·<·)
 | [],_=>List.Pairwise.nil
 |a::l,h=>by
  obtain⟨h1,h2⟩:=xR.mp h;have ih:=Tc hf l h2;rw[yZ];cases q:f a with
  |none=>exact ih
  |some x=>
   show(x.1::(l.filterMap f).map (·.1)).Pairwise (·<·);refine xR.mpr ⟨fun y hy=>?_,ih⟩;obtain⟨z,hz,rfl⟩:=xI.mp hy;obtain⟨k,hk,e⟩:=yR.mp hz;rw[hf a x q,hf k z e];exact h1 k hk
structure Gd(t:SetTable)(b:Bool):Prop where
 ris:Ris t.place
 dum:t.dummies=#[]
 led:t.led=b
theorem Va{t:SetTable}{b:Bool}(h:Gd t b)(n:Nat):Gd (t.standIn n) b:=⟨j5 n,rfl,h.led⟩
theorem q_{mask finger moves:Nat}{led plain:Bool}{hashes:Array Int}{t:SetTable}{o:Array Nat}(e:SetTable.laid mask finger moves led plain hashes=some (t,o)):Gd t led:=by
 unfold SetTable.laid at e;obtain⟨owner,_,e⟩:=Option.bind_eq_some_iff.mp e;cases e;refine⟨?_,rfl,rfl⟩;refine Tc (f:=fun j=>Option.map (fun x=>(j,x)) (owner.getD j none)) (fun j x h=>?_) (List.range (mask+1)) List.pairwise_lt_range;obtain⟨y,_,rfl⟩:=yD.mp h;rfl
theorem jD{t:SetTable}{b:Bool}{es:Array (Int×Value)}{h:Int}{x:Value}(g:Gd t b):Gd (layNew t es h x).2.1 b∧(layNew t es h x).2.1.fits (layNew t es h x).1.size=true:=by
 unfold layNew;generalize q:t.freeSlot h=r
 match r with
 |none=>
  refine⟨Va g _,?_⟩;show(t.standIn (es.size+1)).fits (es.push (h,x)).size=true;rw[Array.size_push];exact SetTable.standIn_fits _ _
 |some (slot,d)=>
  obtain⟨_,hn⟩:=j8 g.ris g.dum q;refine⟨?_,SetTable.orStandIn_fits _ _⟩;show Gd ((t.put slot).1.orStandIn _) b;unfold SetTable.orStandIn;have gp:Gd (t.put slot).1 b:=by
   refine⟨fg g.ris hn,?_,g.led⟩;show(if SetTable.has t.dummies slot=true then _ else t.dummies)=#[];have:SetTable.has t.dummies slot=false:=by
    rw[g.dum];rfl
   rw[this];exact g.dum
  split
  ·exact gp
  ·exact Va gp _
theorem dN{t:SetTable}{b:Bool}{es:Array (Int×Value)}{n:Nat}(g:Gd t b):Gd (relayAll t es n).2.1 b∧(relayAll t es n).2.1.fits (relayAll t es n).1.size=true:=by
 unfold relayAll;generalize q:t.relaid (Array.map (fun x=>x.fst) es) n=r
 match r with
 |none=>exact⟨Va g _,SetTable.standIn_fits _ _⟩
 |some (t',o)=>
  have gl:=q_ q;rw[g.led]at gl;have key:∀r:Array (Int×Value)×SetTable×Bool,r=(if (coversAll o es.size && t'.fits (Array.filterMap (fun x=>es[x]?) o).size)=true then(Array.filterMap (fun x=>es[x]?) o,t',false) else(es,t.standIn es.size,true))→Gd r.2.1 b∧r.2.1.fits r.1.size=true:=by
   rintro r rfl;by_cases c:(coversAll o es.size && t'.fits (Array.filterMap (fun x=>es[x]?) o).size)=true
   ·rw[xp c];rw[yu]at c;exact⟨gl,c.2⟩
   ·rw[xm c];exact⟨Va g _,SetTable.standIn_fits _ _⟩
  exact key _ rfl
theorem l9{t:SetTable}{b p:Bool}(g:Gd t b):Gd {t with plain:=p} b:=⟨g.ris,g.dum,g.led⟩
instance decMemKey (k:Key) (ks:List Key):Decidable (k∈ks):=@List.instDecidableMemOfLawfulBEq Key instBEqOfDecidableEq inferInstance k ks
def fG(P:Program)(w:World)(e:Int×Value)(k:Key):Prop:=(af P w).is k e.2=true∧e.1=(af P w).hash k∧e.2.scannable=true
def ck(P:Program)(w:World)(h:Heap)(a:Addr)(ks:List Key):Prop:=
 ∃o es ep t,h.get? a=some o∧o.ExactSet∧o.data=.set es ep t∧(∃fs,es.toList.Perm fs∧Paired (fG P w) fs ks)∧t.fits es.size=true∧Gd t (!w.params.followText "set-order")∧ks.Nodup
theorem Paired.mem1{α β:Type}{F:α→β→Prop}:∀{xs:List α}{ys:List β},Paired F xs ys→∀x∈xs,∃y∈ys,F x y
 |_,_,.nil,_,h=>nomatch h
 |_,_,.cons f r,x,h=>by
  rcases xv.mp h with rfl | h
  ·exact⟨_,.head _,f⟩
  ·obtain⟨y,hy,q⟩:=Paired.mem1 r x h;exact⟨y,.tail _ hy,q⟩
theorem Paired.mem2{α β:Type}{F:α→β→Prop}:∀{xs:List α}{ys:List β},Paired F xs ys→∀y∈ys,∃x∈xs,F x y
 |_,_,.nil,_,h=>nomatch h
 |_,_,.cons f r,y,h=>by
  rcases xv.mp h with rfl | h
  ·exact⟨_,.head _,f⟩
  ·obtain⟨x,hx,q⟩:=Paired.mem2 r y h;exact⟨x,.tail _ hx,q⟩
theorem Paired.snoc{α β:Type}{F:α→β→Prop}{x:α}{y:β}(f:F x y):∀{xs:List α}{ys:List β},Paired F xs ys→Paired F (xs++[x]) (ys++[y])
 |_,_,.nil=>.cons f .nil
 |_,_,.cons g r=>.cons g (Paired.snoc f r)
section
variable{prog:Program}{w:World}{A:Around}{E:Value→Shared→Prop}{s:Shared}{a:Addr}{ks:List Key}
theorem mT{es:List (Int×Value)}(h:∃fs,es.Perm fs∧Paired (fG prog w) fs ks):ElemsOf (af prog w) es:=fun e he=>by
 obtain⟨fs,p,m⟩:=h;obtain⟨k,_,h1,h2,h3⟩:=Paired.mem1 m e (p.mem_iff.mp he);exact⟨⟨k,h1,h2⟩,h3⟩
theorem S8{es:List (Int×Value)}(h:∃fs,es.Perm fs∧Paired (fG prog w) fs ks):es.length=ks.length:=by
 obtain⟨fs,p,m⟩:=h;rw[p.length_eq];exact xG m
theorem pQ{es:List (Int×Value)}{k:Key}(h:∃fs,es.Perm fs∧Paired (fG prog w) fs ks)(hk:k∈ks):∃j,es.findIdx? (fun e=>(af prog w).is k e.2)=some j:=by
 obtain⟨fs,p,m⟩:=h;obtain⟨e,he,q,_⟩:=Paired.mem2 m k hk;have:(es.findIdx? (fun e=>(af prog w).is k e.2)).isSome=true:=by
  rw[List.findIdx?_isSome];exact List.any_eq_true.mpr ⟨e,p.mem_iff.mpr he,q⟩
 exact Option.isSome_iff_exists.mp this
theorem ma{es:List (Int×Value)}{k:Key}(h:∃fs,es.Perm fs∧Paired (fG prog w) fs ks)(hk:k∉ks):es.findIdx? (fun e=>(af prog w).is k e.2)=none:=by
 obtain⟨fs,p,m⟩:=h;rw[List.findIdx?_eq_none_iff];intro e he;obtain⟨k',hk',q,_⟩:=Paired.mem1 m e (p.mem_iff.mp he);refine yj.mpr fun z=>hk ?_;rw[(af prog w).inj _ _ _ z q];exact hk'
theorem mE{x:Value}{Q:Bool→Shared→Prop}(hs:x.scannable=true)(q:∀b,Q b s):wpAny (model prog w) A (hashByValue 8 x) Q E s:=by
 cases x with
 |none=>exact(pi (q true):wpAny _ _ (pure true) _ _ _)
 |bool b=>exact(pi (q true):wpAny _ _ (pure true) _ _ _)
 |int i t=>exact(pi (q true):wpAny _ _ (pure true) _ _ _)
 |str z t=>exact(pi (q false):wpAny _ _ (pure false) _ _ _)
 |bytes z t=>exact(pi (q false):wpAny _ _ (pure false) _ _ _)
 |_=>cases hs
theorem iD{o:Obj}{es:Array (Int×Value)}{ep:Nat}{t:SetTable}{es':Array (Int×Value)}{t':SetTable}{h:Heap}(ho:h.get? a=some o)(hx:o.ExactSet)(hd:o.data=.set es ep t):
  ∃o',(h.update a (Obj.putSet es' t')).get? a=some o'∧o'.ExactSet∧o'.data=.set es' (ep+1) t':=by
 obtain⟨c,d,dt,sl⟩:=o;simp only at hd;subst hd;exact⟨_,Ah _ ho rfl,hx,rfl⟩
theorem gh{t:SetTable}{n:Nat}{p:Bool}(h:t.fits n=true):SetTable.fits {t with plain:=p} n=true:=h
theorem qc{k:Key}{x:Value}{Q:Bool→Shared→Prop}(hk:(af prog w).is k x=true)(hs:x.scannable=true)(G:ck prog w s.heap a ks)(hb:ks.length+1<scanBound)(fin:∀b h',Heap.SameBut a s.heap h'→ck prog w h' a (if k∈ks then ks else ks++[k])→Q b {s with heap:=h'}):wpAny (model prog w) A (setAddHashed a x ((af prog w).hash k)) Q E s:=by
 obtain⟨o,es,ep,t,ho,hex,hd,hf,fit,gd,nd⟩:=G;have els:=mT hf;have len:=S8 hf;rw[xF]at len;unfold setAddHashed;refine xQ ?_;rw[show(100000:Nat)=99999+1 from rfl,setAddHashedIn.eq_def];refine io (zS ho hd fit ?_);dsimp only;rw[byScan_of hs (by omega) els,xp rfl];refine io ?_;unfold setAddByScan;refine io (zV ?_);refine io (wpAny_setScan_of hk ho hd fit els ?_);by_cases hin:k∈ks
 ·obtain⟨j,ej⟩:=pQ hf hin;rw[ej];refine pi (pi (fin false s.heap ⟨rfl,fun _ _=>rfl⟩ ?_));rw[xp hin];exact⟨o,es,ep,t,ho,hex,hd,hf,fit,gd,nd⟩
 ·rw[ma hf hin];rw[xm hin]at fin;have lp:=layNew_perm t es ((af prog w).hash k) x;obtain⟨gl,fl⟩:=jD (es:=es) (h:=(af prog w).hash k) (x:=x) gd;dsimp only;generalize layNew t es ((af prog w).hash k) x=L at lp gl fl⊢;obtain⟨es1,t1,wd,gv⟩:=L;dsimp only at lp gl fl⊢;have nd2:(ks++[k]).Nodup:=by
   rw[zR];exact⟨nd,xW.mpr ⟨fun h=>(nomatch h),zy⟩,fun y hy z hz e=>hin (by rw[←xq.mp hz,←e];exact hy)⟩
  have hf1:∃fs,es1.toList.Perm fs∧Paired (fG prog w) fs (ks++[k]):=by
   obtain⟨fs,p,m⟩:=hf;refine⟨fs++[((af prog w).hash k,x)],lp.trans ?_,Paired.snoc ⟨hk,rfl,hs⟩ m⟩;rw[Array.toList_push];exact p.append_right _
  have sz1:es1.size≤sizeLine:=by
   have:=S8 hf1;rw[xF,xn,yG]at this;exact Zq (by unfold scanBound at hb;omega)
  have main:∀t2:SetTable,Gd t2 (!w.params.followText "set-order")→t2.fits es1.size=true→wpAny (model prog w) A (do
    storeSet a es1 t2
    if (!wd && t2.tooFull)=true then
     match relayAll t2 es1 (SetTable.grown es1.size) with
     | (es,t,gave)=>do
      (match gave with | true=>rule "set.scan.the-table-gave-way" | false=>pure ())
      storeSet a es t
      pure (some true)
    else pure (some true)) (fun r s'=>wpAny (model prog w) A (match r with | some added=>pure added | none=>setAddHashedIn a x ((af prog w).hash k) 99999) Q E s') E s:=by
   intro t2 g2 f2;refine io (wpAny_storeSet_of ho hd ?_ sz1);obtain⟨o1,ho1,hx1,hd1⟩:=iD (es':=es1) (t':=t2) ho hex hd;by_cases c:(!wd && t2.tooFull)=true
   ·rw[xp c];have rp:=relayAll_perm t2 es1 (SetTable.grown es1.size);obtain⟨gr,fr⟩:=dN (es:=es1) (n:=SetTable.grown es1.size) g2;generalize relayAll t2 es1 (SetTable.grown es1.size)=R at rp gr fr⊢;obtain⟨es2,t3,gv2⟩:=R;dsimp only at rp gr fr⊢;have sz2:es2.size≤sizeLine:=by
     have:=rp.length_eq;rw[xF,xF]at this;omega
    have store:wpAny (model prog w) A (do
      storeSet a es2 t3
      pure (some true)) (fun r s'=>wpAny (model prog w) A (match r with | some added=>pure added | none=>setAddHashedIn a x ((af prog w).hash k) 99999) Q E s') E {s with heap:=s.heap.update a (Obj.putSet es1 t2)}:=by
     refine io (wpAny_storeSet_of ho1 hd1 (pi (pi (fin true _ ((zH _ _ _).trans (zH _ _ _)) ?_))) sz2);obtain⟨o2,ho2,hx2,hd2⟩:=iD (es':=es2) (t':=t3) ho1 hx1 hd1;obtain⟨fs,p,m⟩:=hf1;exact⟨o2,es2,_,t3,ho2,hx2,hd2,⟨fs,rp.trans p,m⟩,fr,gr,nd2⟩
    cases gv2 with
    |true=>exact io (zV store)
    |false=>exact io (pi store)
   ·rw[xm c];refine pi (pi (fin true _ (zH _ _ _) ?_));exact⟨o1,es1,_,t2,ho1,hx1,hd1,hf1,f2,g2,nd2⟩
  have both:∀b:Bool,wpAny (model prog w) A (do
    storeSet a es1 (if b=true then t1 else{t1 with plain:=false})
    if (!wd && (if b=true then t1 else{t1 with plain:=false}).tooFull)=true then
     match relayAll (if b=true then t1 else{t1 with plain:=false}) es1 (SetTable.grown es1.size) with
     | (es,t,gave)=>do
      (match gave with | true=>rule "set.scan.the-table-gave-way" | false=>pure ())
      storeSet a es t
      pure (some true)
    else pure (some true)) (fun r s'=>wpAny (model prog w) A (match r with | some added=>pure added | none=>setAddHashedIn a x ((af prog w).hash k) 99999) Q E s') E s:=fun b=>by
   cases b with
   |true=>exact main t1 gl fl
   |false=>exact main {t1 with plain:=false} (l9 gl) (gh fl)
  have tail:wpAny (model prog w) A (if t1.plain=true then hashByValue 8 x >>= fun b=>(do
    storeSet a es1 (if b=true then t1 else{t1 with plain:=false})
    if (!wd && (if b=true then t1 else{t1 with plain:=false}).tooFull)=true then
     match relayAll (if b=true then t1 else{t1 with plain:=false}) es1 (SetTable.grown es1.size) with
     | (es,t,gave)=>do
      (match gave with | true=>rule "set.scan.the-table-gave-way" | false=>pure ())
      storeSet a es t
      pure (some true)
    else pure (some true))else pure true >>= fun b=>(do
    storeSet a es1 (if b=true then t1 else{t1 with plain:=false})
    if (!wd && (if b=true then t1 else{t1 with plain:=false}).tooFull)=true then
     match relayAll (if b=true then t1 else{t1 with plain:=false}) es1 (SetTable.grown es1.size) with
     | (es,t,gave)=>do
      (match gave with | true=>rule "set.scan.the-table-gave-way" | false=>pure ())
      storeSet a es t
      pure (some true)
    else pure (some true))) (fun r s'=>wpAny (model prog w) A (match r with | some added=>pure added | none=>setAddHashedIn a x ((af prog w).hash k) 99999) Q E s') E s:=by
   by_cases c:t1.plain=true
   ·rw[xp c];exact io (mE hs both)
   ·rw[xm c];exact io (pi (both true))
  cases gv with
  |true=>exact io (zV tail)
  |false=>exact io (pi tail)
end
theorem pe(a:Value):checkBuiltinCall "set.__new__" ⟨[.type "set",a],[]⟩=pure ():=by kernel_rfl
theorem qM(a:Value):Builtin.Frozenset.newClass "set" ⟨[.type "set",a],[]⟩=pure (.type "set",[a]):=by kernel_rfl
def ddK:List Key→List Key→List Key
 |AH,[]=>AH
 |AH,k::r=>ddK (if k∈AH then AH else AH++[k]) r
theorem ff(k:Key):∀(l AH:List Key),ddK AH (l++[k])=if k∈ddK AH l then ddK AH l else ddK AH l++[k]
 | [],AH=>rfl
 |x::l,AH=>ff k l _
theorem Ow:∀(l AH:List Key),(ddK AH l).length≤AH.length+l.length
 | [],AH=>xj _
 |x::l,AH=>by
  have:=Ow l (if x∈AH then AH else AH++[x]);show(ddK (if x∈AH then AH else AH++[x]) l).length≤_;rw[xD];by_cases h:x∈AH
  ·rw[xp h]at this⊢;omega
  ·rw[xm h]at this⊢;rw[xn,yG]at this;omega
theorem Ov:∀(l AH:List Key)(k:Key),k∈ddK AH l↔k∈AH∨k∈l
 | [],AH,k=>⟨.inl,fun h=>h.elim id (fun h=>nomatch h)⟩
 |x::l,AH,k=>by
  show k∈ddK (if x∈AH then AH else AH++[x]) l↔_;rw[Ov l _ k];by_cases h:x∈AH
  ·rw[xp h,xv];constructor
   ·rintro(q | q)
    ·exact .inl q
    ·exact .inr (.inr q)
   ·rintro(q | rfl | q)
    ·exact .inl q
    ·exact .inl h
    ·exact .inr q
  ·rw[xm h,xv,xM,xq];constructor
   ·rintro((q | q) | q)
    ·exact .inl q
    ·exact .inr (.inl q)
    ·exact .inr (.inr q)
   ·rintro(q | q | q)
    ·exact .inl (.inl q)
    ·exact .inl (.inr q)
    ·exact .inr q
variable{prog:Program}{w:World}{A:Around}{E:Value→Shared→Prop}{s:Shared}
abbrev au(w:World):Obj:={cls:=.type "set",dict:=none,data:=.set #[] 0 (.fresh 0 0 (!w.params.followText "set-order"))}
theorem Qq(a:Value){Q₁:Value→Shared→Prop}(h:Q₁ (.ref s.heap.objs.size) {s with heap:=s.heap.push (au w)}):
  codeAny (model prog w) A (.call (.builtin "set.__new__") ⟨[.type "set",a],[]⟩) (wants Q₁ E) s:=by
 refine codeAny_call_builtin PySem.F.plain_set_new PySem.F.entry_set_new ?_;rw[pe];refine pi ?_;unfold Builtin.«set.__new__»;rw[qM];refine io (pi (io ?_));unfold newSet setsByText;refine io (io (wpAny_askSetting (pi ?_)));exact xT (pi h)
theorem U0{h h':Heap}{a:Addr}{ks:List Key}(q:ck prog w h a ks)(k:∀o,h.get? a=some o→h'.get? a=some o):ck prog w h' a ks:=by
 obtain⟨o,es,ep,t,ho,r⟩:=q;exact⟨o,es,ep,t,k o ho,r⟩
theorem kF{h:Heap}{a:Addr}(e:h.get? a=some (au w)):ck prog w h a []:=
 ⟨_,#[],0,_,e,⟨rfl,rfl,rfl⟩,rfl,⟨[],Am _,.nil⟩,by rfl,⟨List.Pairwise.nil,rfl,rfl⟩,zy⟩
section
variable{prog:Program}{w:World}{A:Around}{R:Result→Shared→Prop}{I:Addr}{fp wr:List Addr}{n:Nat}{P:Nat→Value→Prop}{St:Nat→Heap→Prop}
theorem j6(W:Walks prog w A.in1 I fp wr n P St)(S:Addr)(hS:S∉fp)(ks:List Key)(hzn:ks.length=n)(hv:∀(i:Nat) v,P i v→∃k,ks[i]?=some k∧(af prog w).is k v=true∧v.scannable=true)(hb:n+1<scanBound):
  ∀(m i:Nat)(s:Shared),n-i=m→i≤n→St i s.heap→ck prog w s.heap S (ddK [] (ks.take i))→
   (∀h' tk,(∀b o,b∉S::wr→s.heap.get? b=some o→h'.get? b=some o)→ck prog w h' S (ddK [] ks)→R (.ok (.ret .none)) {s with heap:=h',toks:=tk})→
   codeAny (model prog w) A (.builtin "set.update.loop" ⟨[.ref S,.ref I],[]⟩) R s:=by
 have hSw:S∉wr:=fun q=>hS (W.sub _ q);intro m
 induction m with
 |zero=>
  intro i s hk hi st so fin;obtain rfl:i=n:=by omega
  refine yA PyProof.Rows.F.entry_set_update_loop ?_;rw[yi PyProof.Rows.F.plain_set_update_loop _];refine io (m:=pyNext (.ref I)) (W.done s _ _ st fun h' tk kp=>pi (fin h' tk (fun b o nb e=>kp b o (fun q=>nb (xV _ q)) e) ?_));rw[←hzn,yc]at so;exact U0 so fun o e=>kp S o hSw e
 |succ m ih=>
  intro i s hk hi st so fin;have AA:i<n:=by omega
  refine yA PyProof.Rows.F.entry_set_update_loop ?_;rw[yi PyProof.Rows.F.plain_set_update_loop _];refine io (m:=pyNext (.ref I)) (W.item i s _ _ AA st fun v h1 tk1 pv st1 kp1=>?_);obtain⟨k,hkk,hk1,hk2⟩:=hv i v pv;have so1:=U0 so fun o e=>kp1 S o hSw e;refine io (m:=holding [v] (setAdd S v)) (xQ ?_);unfold setAdd;refine xQ (io ((af prog w).pyHash hk1 ?_));have Au:=Ow (ks.take i) [];rw[yn,yF]at Au;refine qc hk1 hk2 (s:={s with heap:=h1,toks:=tk1+1}) so1 (by omega) fun b h2 sb so2=>?_;have et:ks.take (i+1)=ks.take i++[k]:=by rw[List.take_add_one,hkk];rfl
  rw[←ff,←et]at so2;refine pi ⟨zL PyProof.Rows.F.plain_set_update_loop _,ih (i+1) _ (by omega) AA (W.frame _ _ _ st1 fun b hb o e=>(sb.2 b fun q=>hS (by rw[←q];exact hb)).trans e) so2 fun h' tk kp so'=>fin h' tk (fun b o nb e=>kp b o nb ?_) so'⟩;have nS:b≠S:=fun q=>nb (by rw[q];exact xP);exact(sb.2 b nS).trans (kp1 b o (fun q=>nb (xV _ q)) e)
end
theorem sU{k:Key}{u:Value}(r:RelV (kV k) u):(af prog w).is k u=true∧u.scannable=true:=by
 cases k with
 |inl i=>obtain⟨t,rfl⟩:=r;exact⟨Wc prog w i t,rfl⟩
 |inr x=>obtain⟨t,rfl⟩:=r;exact⟨Sg prog w x t,rfl⟩
theorem kH{l:Addr}{its:List Value}{ks:List Key}{R:Value→Shared→Prop}(hh:A.handled=none)(hl:s.heap.IsList l its.toArray)(hv:Vals (ks.map kV) its)(hb:its.length+1<scanBound)(h:∀(h':Heap) (tk:Nat),ck prog w h' s.heap.objs.size (ddK [] ks)→(∀b o,b<s.heap.objs.size→s.heap.get? b=some o→h'.get? b=some o)→R .none {s with heap:=h',toks:=tk}):
  codeAny (model prog w) A (.call (.builtin "set.__init__") ⟨[.ref s.heap.objs.size,.ref l],[]⟩) (wants R E) {s with heap:=s.heap.push (au w)}:=by
 have own:(s.heap.push (au w)).get? s.heap.objs.size=some (au w):=xt _ rfl;have ty:Shared.TypeIs {s with heap:=s.heap.push (au w)} (.ref s.heap.objs.size) "set":=⟨_,own,rfl⟩;refine codeAny_call_builtin PySem.F.called_set.init.plain PySem.F.entry_set_init (check_set_init_1 ty ?_);obtain⟨⟨c0,d0,dt0,sl0⟩,ho,hc,nl,hd⟩:=hl;simp only at hc hd;subst hc hd;have ho1:(s.heap.push (au w)).get? l=some {cls:=.type "list",dict:=d0,data:=.seq its.toArray nl,slots:=sl0}:=xi _ ho;have hl1:(s.heap.push (au w)).IsList l its.toArray:=⟨_,ho1,rfl,nl,rfl⟩;have f1:=PySem.F.sub_list_set;have f2:=PySem.F.sub_list_frozenset;have f3:(Value.type "list" == Value.type "dict")=false:=by decide
 unfold Builtin.«set.__init__» noKeywords Builtin.Frozenset.updateFrom;generalize hP:pyIter=PI
 wp_walk
 subst hP;refine Ak hl1 (io (wpAny_runValue ?_));have lt0:l<s.heap.objs.size:=xk ho;have hz:ks.length=its.length:=by
  have:=hv.length;rw[xh]at this;exact this
 have ne0:l≠(s.heap.push (au w)).objs.size:=by rw[zZ];exact xx (zD lt0)
 have nin:s.heap.objs.size∉[(s.heap.push (au w)).objs.size,l]:=by
  rw[zZ];simp only[List.mem_cons,List.not_mem_nil,or_false,not_or];exact⟨xx (z5 _),ym lt0⟩
 have hh3:A.in1.in1.handled=none:=by simp[hh]
 refine j6 (Walks.list hh3 _ l ne0 its.toArray) s.heap.objs.size nin ks (by rw[xO];exact hz) (fun i v e=>?_) (by rw[xO];exact hb) (its.toArray.size-0) 0 _ (by omega) (yh _) ?st ?_ ?_
 case st=>exact⟨⟨_,xt _ rfl,rfl,rfl⟩,hl1.push _⟩
 ·have e':its[i]?=some v:=by simpa using e
  have hi:i<ks.length:=by
   rw[hz];exact(xo.mp e').1
  obtain⟨u,hu,ru⟩:=hv.get (i:=i) (x:=kV ks[i]) (by rw[xE,xz hi];rfl);rw[e']at hu;cases hu;exact⟨ks[i],xz hi,sU ru⟩
 ·have g2:((s.heap.push (au w)).push {cls:=.type "list_iterator",data:=.fields #[.ref l,.int 0 0]}).get? s.heap.objs.size=some (au w):=xi _ own;exact kF g2
 ·intro h' tk kp so;refine pi (pi (h h' tk so fun b o hb2 e=>kp b o ?_ (xi _ (xi _ e))));simp only[List.mem_cons,List.not_mem_nil,or_false,not_or];exact⟨xx hb2,by rw[zZ];exact xx (zD hb2)⟩
theorem Qs{l:Addr}{its:List Value}{ks:List Key}{Q:Value→Shared→Prop}(hh:A.handled=none)(hl:s.heap.IsList l its.toArray)(hv:Vals (ks.map kV) its)(hb:its.length+1<scanBound)(h:∀(h':Heap) (tk:Nat),ck prog w h' s.heap.objs.size (ddK [] ks)→(∀b o,b<s.heap.objs.size→s.heap.get? b=some o→h'.get? b=some o)→Q (.ref s.heap.objs.size) {s with heap:=h',toks:=tk}):
  wpAny (model prog w) A (call (.type "set") [.ref l]) Q E s:=by
 obtain⟨c,tl,hmro⟩:=PySem.F.called_set.mro;have k1:=PySem.F.called_set.made;have k2:=PySem.F.called_set.sub;have k3:=PySem.F.called_set.notType;have k4:=PySem.F.called_set.canCreate;have k5:=PySem.F.typeCall_set_1 (.ref l);refine wpAny_call (codeAny_of_tree ?_);show wpAny _ _ (callAny (.type "set") _) _ _ _;refine pi ⟨Code.quiet_builtin _ (by decide +kernel),yA PySem.F.entry_type_call ?_⟩;rw[Around.under_plain (weight_type_call_type "set" [.ref l] []) rfl]
 repeat (any_goals (first | assumption | wp_step))
 refine Aa (Qq (.ref l) (E:=E) (Q₁:=fun obj s1=>obj=.ref s.heap.objs.size∧s1={s with heap:=s.heap.push (au w)}) ⟨rfl,rfl⟩) fun r s1 hr=>?_;cases r with
 |error e=>exact hr
 |ok fl=>
  cases fl with
  |ret obj=>
   obtain⟨rfl,rfl⟩:=hr;have own:(s.heap.push (au w)).get? s.heap.objs.size=some (au w):=xt _ rfl;have ty:Shared.TypeIs {s with heap:=s.heap.push (au w)} (.ref s.heap.objs.size) "set":=⟨_,own,rfl⟩;have k6:=PySem.F.called_set.init.lookup;have k7:=PySem.F.called_set.init.bind (.ref s.heap.objs.size)
   repeat (any_goals (first | assumption | wp_step))
   refine codeAny_mono (kH (R:=fun r s2=>r=.none∧∃h' tk,s2={s with heap:=h',toks:=tk}∧ck prog w h' s.heap.objs.size (ddK [] ks)∧(∀b o,b<s.heap.objs.size→s.heap.get? b=some o→h'.get? b=some o)) (E:=E) (by simp[hh]) hl hv hb fun h' tk so kp=>⟨rfl,h',tk,rfl,so,kp⟩) fun r2 s2 hr2=>?_;cases r2 with
   |error e=>exact hr2
   |ok fl2=>
    cases fl2 with
    |ret r=>
     obtain⟨rfl,h',tk,rfl,so,kp⟩:=hr2
     repeat (any_goals (first | assumption | wp_step))
     exact h _ _ so kp
    |_=>exact hr2.elim
  |_=>exact hr.elim
def dH(prog:Program)(w:World)(a:Addr)(ks:List Key):HO:=.ext fun h=>ck prog w h a ks
section
variable{X:Cx}
theorem kU(hc:X.calm=true):aH X (.type "set") (fun xs H Q=>∃(p:Addr)(ks:List Key),xs=[.ref p]∧SqL X.K H p (ks.map kV)∧ks.length<4000∧∀a,H a=none→Q (.ref a) (upd H a (dH X.prog X.w a (ddK [] ks)))):=by
 intro Av s σ H xs us Q I r h;obtain⟨p,ks,rfl,hq,hz,q⟩:=h;obtain⟨u,rfl,ru⟩:=X6 r;cases ru;obtain⟨its,rv,pl,_⟩:=I.list hq;have hl:=rv.length;rw[xh]at hl;refine Qs (I.ok.hd hc) pl.isList rv (by unfold scanBound;omega) fun h' tk so kp=>?_;refine⟨.ref s.heap.objs.size,_,I.laid (t':=tk) (fun b o e=>kp b o (xk e) e) (xj _) (show ObjOk X.prog X.w _ h' _ (dH X.prog X.w s.heap.objs.size (ddK [] ks))from ?_),rfl,q _ (I.hok.fresh (xj _))⟩;refine⟨so,?_,fun h1 h2 a k=>?_⟩
 ·obtain⟨o,_,_,_,ho,_⟩:=so;exact⟨o,ho⟩
 ·exact U0 a k
end
theorem Xf:Slot "set_iterator" (Str.ofString "__next__") "set_iterator.__next__":=Slot.of (owner:="set_iterator") (n:="__next__") (by kernel_rfl) (by kernel_rfl) (by kernel_rfl) (by kernel_rfl) (.inl (by kernel_rfl)) (by kernel_rfl) (by kernel_rfl)
theorem Uj:Slot "set_iterator" (Str.ofString "__iter__") "set_iterator.__iter__":=Slot.of (owner:="set_iterator") (n:="__iter__") (by kernel_rfl) (by kernel_rfl) (by kernel_rfl) (by kernel_rfl) (.inl (by kernel_rfl)) (by kernel_rfl) (by kernel_rfl)
theorem Qu(a:Value):argsOk "set_iterator.__next__" {pos:=[a]}:=by kernel_rfl
theorem Qv(a:Value):argsOk "set_iterator.__iter__" {pos:=[a]}:=by kernel_rfl
theorem Q8:entryFor PySem.table "set_iterator.__next__"=some PySem.Builtin.«set_iterator.__next__»:=by kernel_rfl
theorem Qa:entryFor PySem.table "set.__iter__"=some PySem.Builtin.«frozenset.__iter__»:=by kernel_rfl
theorem gE:firstArgMember (.type "StopIteration") []=pure .none:=by kernel_rfl
theorem lI:ownMembersOf (.type "StopIteration") []=#[]:=by kernel_rfl
section
theorem Xa{α:Type}{Q:α→Shared→Prop}(hh:A.handled=none)(k:∀h' e,(∀b o,s.heap.get? b=some o→h'.get? b=some o)→Shared.TypeIs {s with heap:=h'} (.ref e) "StopIteration"→E (.ref e) {s with heap:=h'}):
  wpAny (model prog w) A (do
   let x ←newExc (.type "StopIteration") []
   raiseNew x:Sem α) Q E s:=by
 refine io ?_;unfold newExc;refine io (wpAny_newTuple ?_ (yh _));rw[gE,lI];refine io (pi (xT (wpAny_raiseNew_none hh (k _ _ (fun b o e=>xi _ (xi _ e)) ⟨_,xt _ rfl,rfl⟩))))
theorem U7{it:Addr}{Q:Option Value→Shared→Prop}(ty:s.TypeIs (.ref it) "set_iterator")(h:wpAny (model prog w) A.in1 (Builtin.«set_iterator.__next__» ⟨[.ref it],[]⟩) (fun fin s'=>∃v,fin=.done (.ret v)∧Q (some v) s') (fun e s'=>s'.TypeIs e "StopIteration"∧Q none s') s):
  wpAny (model prog w) A (pyNext (.ref it)) Q E s:=by
 unfold pyNext;refine io (wpAny_attempt ?_);refine wpAny_callSpecial?_slotG ty Xf.toG ?_;refine yB (yt Xf ty Q8 (Q:=fun v s'=>Q (some v) s') h (Qu _)) (fun v s' q=>pi q) (fun e s' q=>?_);exact io (An q.1 isSubtype_stop (by rw[xp rfl];exact pi q.2))
abbrev hJ(first:Value)(i:Nat)(a:Addr)(n ep:Nat):Obj:={cls:=.type "set_iterator",data:=.fields #[first,.int i 0,.ref a,.int n 0,.int ep 0]}
theorem R7{Q:Bool→Shared→Prop}(q:Q (w.params.followText "set-order") s):wpAny (model prog w) A setsByText Q E s:=by
 unfold setsByText;exact io (wpAny_askSetting (pi q))
variable{a:Addr}{o:Obj}{es:Array (Int×Value)}{ep:Nat}{t:SetTable}
theorem P8{slot given:Nat}{Q:Option (Value×Nat)→Shared→Prop}(ht:w.params.followText "set-order"=true)(ho:s.heap.get? a=some o)(hd:o.data=.set es ep t)(fit:t.fits es.size=true)(q:Q ((pickOrder (w.params.setOrder a ep) es)[given]?.map fun e=>(e.2,slot)) s):wpAny (model prog w) A (setNext a slot given ep) Q E s:=by
 unfold setNext;refine io (zS ho hd fit ?_);refine io (R7 ?_);rw[ht,if_pos rfl,if_neg (by simp)];refine io ?_;unfold setWalk;refine io (zS ho hd fit ?_);refine io (R7 ?_);rw[ht,xp rfl];exact io (wpAny_askSetting (pi (pi q)))
theorem Rr{slot given:Nat}{Q:Option (Value×Nat)→Shared→Prop}(ht:w.params.followText "set-order"=false)(ho:s.heap.get? a=some o)(hd:o.data=.set es ep t)(fit:t.fits es.size=true)(g:Gd t true)(np:(!t.plain && decide (es.size > 1))=false)(q:Q (match es[SetTable.below t.place slot]?,t.place[SetTable.below t.place slot]? with
   |some e,some j=>some (e.2,j+1)
   |_,_=>none) s):wpAny (model prog w) A (setNext a slot given ep) Q E s:=by
 unfold setNext;refine io (zS ho hd fit ?_);refine io (R7 ?_);rw[ht,xm (by decide)];show wpAny _ _ (if (!t.plain && decide (es.size > 1))=true then _ else _) _ _ _;rw[np,xm (by decide)];refine io (show wpAny _ _ (if (!t.led && !es.isEmpty)=true then _ else pure ()) _ _ _ from ?_);rw[g.led,if_neg (by simp)];refine pi (pi ?_);cases h1:es[SetTable.below t.place slot]? with
 |none=>rw[h1]at q;exact q
 |some e=>
  rw[h1]at q;cases h2:t.place[SetTable.below t.place slot]? with
  |none=>rw[h2]at q;exact q
  |some j=>rw[h2]at q;exact q
theorem g_{place:Nat}{e:Int×Value}{Q:Value→Shared→Prop}(ho:s.heap.get? a=some o)(hd:o.data=.set es ep t)(fit:t.fits es.size=true)(he:es[place]?=some e)(q:Q e.2 s):wpAny (model prog w) A (setNextDrawn a place ep) Q E s:=by
 unfold setNextDrawn;refine io (zS ho hd fit ?_);dsimp only;rw[if_neg (by simp),he];exact pi q
theorem Xw{it:Addr}{first:Value}{i:Nat}{Q:PySem.Fin→Shared→Prop}(hit:s.heap.get? it=some (hJ first i a es.size ep))(ho:s.heap.get? a=some o)(hd:o.data=.set es ep t)(fit:t.fits es.size=true)(q:wpAny (model prog w) A (match first with
   |.int slot _=>do
    let r ←setNext a slot.toNat i ep
    match r with
     |some (x,next)=>do
      setField (.ref it) 0 (rawInt next)
      setField (.ref it) 1 (rawInt (i+1))
      ret x
     |none=>do
      setField (.ref it) 2 .none
      let x ←newExc (.type "StopIteration") []
      raiseNew x
   |x=>do
    let y ←seqItems? first
    match y with
     |some places=>
      match places[i]? with
      |some (.int place _)=>do
       let x ←setNextDrawn a place.toNat ep
       setField (.ref it) 1 (rawInt (i+1))
       ret x
      |some val=>unsupported "internal:set_iterator"
      |none=>do
       setField (.ref it) 0 (rawInt 0)
       setField (.ref it) 2 .none
       let x ←newExc (.type "StopIteration") []
       raiseNew x
     |x=>unsupported "internal:set_iterator") Q E s):wpAny (model prog w) A (Builtin.«set_iterator.__next__» ⟨[.ref it],[]⟩) Q E s:=by
 unfold Builtin.«set_iterator.__next__»;refine io (show wpAny _ _ (pure (Value.ref it,[])) _ _ _ from pi ?_);refine io (z8 hit rfl ?_);refine io (wpAny_setEntries_of ho hd fit ?_);rw[if_neg (by simp)];exact q
end
theorem Ux{α:Type}:∀(l:List α)(i:Nat)(x:α),l[i]?=some x→(x::l.eraseIdx i).Perm l
 | [],i,x,h=>by simp at h
 |a::l,0,x,h=>by
  have e:a=x:=by simpa using h
  subst e;exact Am _
 |a::l,i+1,x,h=>by
  have ih:=Ux l i x (by simpa using h);show(x::a::l.eraseIdx i).Perm (a::l);exact(List.Perm.swap a x _).trans (ih.cons a)
theorem i_{α:Type}(next:Nat→Nat):∀(fuel k:Nat)(left:List α)(out:Array α),left.length≤fuel→(pickOrder.go next fuel k left out).toList.Perm (out.toList++left)
 | 0,k,left,out,h=>by
  have e:left=[]:=List.eq_nil_of_length_eq_zero (by omega);subst e;rw[yQ];exact Am _
 |fuel+1,k,left,out,h=>by
  show(match left[next k % left.length]? with
   |some x=>pickOrder.go next fuel (k+1) (left.eraseIdx (next k % left.length)) (out.push x)
   |none=>out).toList.Perm _
  cases e:left[next k % left.length]? with
  |none=>
   have l0:left=[]:=by
    cases left with
    |nil=>rfl
    |cons a l=>
     rw[List.getElem?_eq_none_iff]at e;have:=Nat.mod_lt (next k) (show 0<(a::l).length by simp);omega
   subst l0;rw[yQ]
  |some x=>
   have lt:=(xo.mp e).1;have ih:=i_ next fuel (k+1) (left.eraseIdx (next k % left.length)) (out.push x) (by rw[List.length_eraseIdx_of_lt lt];omega)
   refine ih.trans ?_;rw[Array.toList_push,zP];exact(Ux left _ x e).append_left _
theorem U4{α:Type}(next:Nat→Nat)(xs:Array α):(pickOrder next xs).toList.Perm xs.toList:=by
 have:=i_ next xs.size 0 xs.toList #[] (by rw[xF];exact xj _)
 show(pickOrder.go next xs.size 0 xs.toList #[]).toList.Perm xs.toList;simpa using this
theorem Qc{α:Type}:∀(n:Nat)(l:List α)(s:Shared){Q:List α→Shared→Prop},l.length=n→(∀o d,o.Perm l→Q o {s with drawn:=d})→wpAny (model prog w) A (drawOrder n l) Q E s
 | 0,l,s,Q,h,q=>by
  have e:l=[]:=List.eq_nil_of_length_eq_zero h;subst e;exact(pi (q [] s.drawn (Am _)):wpAny _ _ (pure []) _ _ _)
 |n+1,[],s,Q,h,q=>by simp at h
 |n+1,a::l,s,Q,h,q=>by
  show wpAny _ _ (choose Source.order (a::l).length >>= fun i=>match (a::l)[i]? with
   |some x=>do
    let r ←drawOrder n ((a::l).eraseIdx i)
    pure (x::r)
   |none=>unsupported "internal:drawOrder") _ _ _
  refine io ?_;intro Γ p hΓ;unfold choose;rw[Sem.wp_choose];refine⟨by simp,?_⟩;have lt:(model prog w).w.draws Source.order (s.drawn.get Source.order) % (a::l).length<(a::l).length:=Nat.mod_lt _ (by simp);generalize (model prog w).w.draws Source.order (s.drawn.get Source.order) % (a::l).length=i at lt⊢;obtain⟨x,hx⟩:∃x,(a::l)[i]?=some x:=⟨_,xz lt⟩;have main:wpAny (model prog w) A (match (a::l)[i]? with
   |some x=>do
    let r ←drawOrder n ((a::l).eraseIdx i)
    pure (x::r)
   |none=>unsupported "internal:drawOrder") Q E {s with drawn:=s.drawn.bump Source.order}:=by
   rw[hx];refine io (Qc n _ _ ?_ fun o d hp=>pi (q _ _ ?_))
   ·rw[List.length_eraseIdx_of_lt lt];simpa using h
   ·exact(hp.cons x).trans (Ux _ _ _ hx)
  exact main
def bz(ps:Array Nat):Nat→Nat
 | 0=>0
 |i+1=>ps.getD i 0+1
theorem lv{ps:Array Nat}{j b c:Nat}(h1:Cut ps j b)(h2:Cut ps j c):b=c:=by
 have k1:=h1.le;have k2:=h2.le;by_cases e:b<c
 ·have x:=h2.lo b (by omega) e;have y:=h1.hi b (by omega) (xj _);omega
 ·by_cases e2:c<b
  ·have x:=h1.lo c (by omega) e2;have y:=h2.hi c (by omega) (xj _);omega
  ·omega
theorem Qg{ps:Array Nat}(h:Ris ps){i:Nat}(hi:i≤ps.size):SetTable.below ps (bz ps i)=i:=by
 refine lv (Sc h _) ⟨hi,fun k hk lt=>?_,fun k hk le=>?_⟩
 ·cases i with
  |zero=>omega
  |succ i=>
   have e:bz ps (i+1)=ps[i]'(by omega)+1:=by
    show ps.getD i 0+1=_;simp[Array.getD,show i<ps.size by omega]
   rw[e];by_cases c:k=i
   ·subst c;omega
   ·have:=Tb h (i:=k) (k:=i) (by omega) (by omega);omega
 ·cases i with
  |zero=>exact yh _
  |succ i=>
   have e:bz ps (i+1)=ps[i]'(by omega)+1:=by
    show ps.getD i 0+1=_;simp[Array.getD,show i<ps.size by omega]
   rw[e];have:=Tb h (i:=i) (k:=k) (by omega) hk;omega
theorem Q9:entryFor PySem.table "set_iterator.__iter__"=some PySem.Builtin.«dict_keyiterator.__iter__»:=by kernel_rfl
section
variable{prog:Program}{w:World}{A:Around}{a it:Addr}{o:Obj}{es:Array (Int×Value)}{ep:Nat}{t:SetTable}
theorem Rf{first:Value}{i n:Nat}(s:Shared)(Q E:Value→Shared→Prop)(hit:s.heap.get? it=some (hJ first i a n ep))(q:Q (.ref it) s):wpAny (model prog w) A (pyIter (.ref it)) Q E s:=by
 have ty:s.TypeIs (.ref it) "set_iterator":=⟨_,hit,rfl⟩;refine Al ty Uj (yt Uj ty Q9 ?_ (Qv _));unfold Builtin.«dict_keyiterator.__iter__»;refine io (show wpAny _ _ (pure (Value.ref it,[])) _ _ _ from pi ?_);exact pi ⟨_,rfl,"set_iterator",_,ty,Xf.lookup,q⟩
theorem fY(hh:A.handled=none)(hne:a≠it)(ht:w.params.followText "set-order"=false)(hd:o.data=.set es ep t)(fit:t.fits es.size=true)(g:Gd t true)(np:(!t.plain && decide (es.size > 1))=false):
  Walks prog w A it [it,a] [it] es.size (fun i v=>(es.toList.map (·.2))[i]?=some v) (fun i h=>i≤es.size∧h.get? it=some (hJ (.int (bz t.place i:Nat) 0) i a es.size ep)∧h.get? a=some o) where
 sub:=fun b hb=>by rw[xq.mp hb];exact .head _
 frame:=fun i h h' st k=>⟨st.1,k it (.head _) _ st.2.1,k a (.tail _ (.head _)) _ st.2.2⟩
 item:=fun i s Q E hi st q=>by
  obtain⟨_,hit,ho⟩:=st;have sz:t.place.size=es.size:=by
   unfold SetTable.fits at fit;rw[yu]at fit;simpa using fit.1
  refine U7 ⟨_,hit,rfl⟩ (Xw hit ho hd fit ?_);refine io (Rr ht ho hd fit g np ?_);rw[show((bz t.place i:Nat):Int).toNat=bz t.place i from rfl,Qg g.ris (by omega),xC hi,xC (by omega)];refine wpAny_bind (wpAny_setField_rec hit (by simp) fun h1 e1 sb1=>?_);refine wpAny_bind (wpAny_setField_rec e1 (by simp) fun h2 e2 sb2=>?_);refine pi ⟨_,rfl,q _ h2 s.toks ?_ ⟨by omega,?_,?_⟩ fun b o nb e=>?_⟩
  ·rw[xE,yq,xC hi];rfl
  ·rw[e2];have es1:bz t.place (i+1)=t.place[i]'(by omega)+1:=by
    show t.place.getD i 0+1=_;simp[Array.getD,show i<t.place.size by omega]
   rw[es1];rfl
  ·rw[sb2.2 a hne,sb1.2 a hne];exact ho
  ·have ne:b≠it:=fun z=>nb (by rw[z];exact .head _);rw[sb2.2 b ne,sb1.2 b ne];exact e
 done:=fun s Q E st q=>by
  obtain⟨_,hit,ho⟩:=st;have sz:t.place.size=es.size:=by
   unfold SetTable.fits at fit;rw[yu]at fit;simpa using fit.1
  refine U7 ⟨_,hit,rfl⟩ (Xw hit ho hd fit ?_);refine io (Rr ht ho hd fit g np ?_);rw[show((bz t.place es.size:Nat):Int).toNat=bz t.place es.size from rfl,Qg g.ris (by omega),yX (xj _)];refine wpAny_bind (wpAny_setField_rec hit (by simp) fun h1 e1 sb1=>?_);refine Xa (by simpa using hh) fun h' e k ty=>⟨ty,q h' s.toks fun b o nb eb=>k b o ?_⟩;have ne:b≠it:=fun z=>nb (by rw[z];exact .head _);show h1.get? b=some o;rw[sb1.2 b ne];exact eb
 self:=fun i s Q E st q=>Rf s Q E st.2.1 q
theorem j3(hh:A.handled=none)(hne:a≠it)(ht:w.params.followText "set-order"=true)(hd:o.data=.set es ep t)(fit:t.fits es.size=true):
  Walks prog w A it [it,a] [it] es.size (fun i v=>((pickOrder (w.params.setOrder a ep) es).toList.map (·.2))[i]?=some v) (fun i h=>h.get? it=some (hJ (.int 0 0) i a es.size ep)∧h.get? a=some o) where
 sub:=fun b hb=>by rw[xq.mp hb];exact .head _
 frame:=fun i h h' st k=>⟨k it (.head _) _ st.1,k a (.tail _ (.head _)) _ st.2⟩
 item:=fun i s Q E hi st q=>by
  obtain⟨hit,ho⟩:=st;have sz:(pickOrder (w.params.setOrder a ep) es).size=es.size:=by
   have:=(U4 (w.params.setOrder a ep) es).length_eq;simpa using this
  refine U7 ⟨_,hit,rfl⟩ (Xw hit ho hd fit ?_);refine io (P8 ht ho hd fit ?_);rw[xC (by omega)];refine wpAny_bind (wpAny_setField_rec hit (by simp) fun h1 e1 sb1=>?_);refine wpAny_bind (wpAny_setField_rec e1 (by simp) fun h2 e2 sb2=>?_);refine pi ⟨_,rfl,q _ h2 s.toks ?_ ⟨?_,?_⟩ fun b o nb e=>?_⟩
  ·rw[xE,yq,xC (by omega)];rfl
  ·rw[e2];rfl
  ·rw[sb2.2 a hne,sb1.2 a hne];exact ho
  ·have ne:b≠it:=fun z=>nb (by rw[z];exact .head _);rw[sb2.2 b ne,sb1.2 b ne];exact e
 done:=fun s Q E st q=>by
  obtain⟨hit,ho⟩:=st;have sz:(pickOrder (w.params.setOrder a ep) es).size=es.size:=by
   have:=(U4 (w.params.setOrder a ep) es).length_eq;simpa using this
  refine U7 ⟨_,hit,rfl⟩ (Xw hit ho hd fit ?_);refine io (P8 ht ho hd fit ?_);rw[yX (by omega)];refine wpAny_bind (wpAny_setField_rec hit (by simp) fun h1 e1 sb1=>?_);refine Xa (by simpa using hh) fun h' e k ty=>⟨ty,q h' s.toks fun b o nb eb=>k b o ?_⟩;have ne:b≠it:=fun z=>nb (by rw[z];exact .head _);show h1.get? b=some o;rw[sb1.2 b ne];exact eb
 self:=fun i s Q E st q=>Rf s Q E st.1 q
abbrev plO(ord:List Nat):Obj:={cls:=.type "tuple",data:=.seq (ord.map fun i=>rawInt (i:Nat)).toArray}
theorem gG{T:Addr}{ord:List Nat}(hh:A.handled=none)(hne:a≠it)(hT:T≠it)(hp:ord.Perm (List.range es.size))(hd:o.data=.set es ep t)(fit:t.fits es.size=true):
  Walks prog w A it [it,a,T] [it] es.size (fun i v=>(ord.map fun j=>(es.getD j (0,.none)).2)[i]?=some v) (fun i h=>h.get? it=some (hJ (.ref T) i a es.size ep)∧h.get? a=some o∧h.get? T=some (plO ord)) where
 sub:=fun b hb=>by rw[xq.mp hb];exact .head _
 frame:=fun i h h' st k=>⟨k it (.head _) _ st.1,k a (.tail _ (.head _)) _ st.2.1,k T (.tail _ (.tail _ (.head _))) _ st.2.2⟩
 item:=fun i s Q E hi st q=>by
  obtain⟨hit,ho,hpl⟩:=st;have ol:ord.length=es.size:=by rw[hp.length_eq,zT]
  have lt:ord[i]'(by omega)<es.size:=z7.mp (hp.mem_iff.mp (z6 _));refine U7 ⟨_,hit,rfl⟩ (Xw hit ho hd fit ?_);refine io (wpAny_seqItems hpl rfl ?_);have eo:(ord.map fun i=>rawInt (i:Nat)).toArray[i]?=some (.int (ord[i]'(by omega):Nat) 0):=by
   rw[List.getElem?_toArray,xE,xz (by omega)];rfl
  dsimp only;rw[eo];refine io (g_ ho hd fit (place:=(((ord[i]'(by omega):Nat):Int)).toNat) (e:=es[ord[i]'(by omega)]) (by rw[show(((ord[i]'(by omega):Nat):Int)).toNat=ord[i]'(by omega)from rfl,xC lt]) ?_);refine wpAny_bind (wpAny_setField_rec hit (by simp) fun h1 e1 sb1=>?_);refine pi ⟨_,rfl,q _ h1 s.toks ?_ ⟨?_,?_,?_⟩ fun b o nb e=>?_⟩
  ·rw[xE,xz (by omega)];simp[Array.getD,lt]
  ·rw[e1];rfl
  ·rw[sb1.2 a hne];exact ho
  ·rw[sb1.2 T hT];exact hpl
  ·have ne:b≠it:=fun z=>nb (by rw[z];exact .head _);rw[sb1.2 b ne];exact e
 done:=fun s Q E st q=>by
  obtain⟨hit,ho,hpl⟩:=st;have ol:ord.length=es.size:=by rw[hp.length_eq,zT]
  refine U7 ⟨_,hit,rfl⟩ (Xw hit ho hd fit ?_);refine io (wpAny_seqItems hpl rfl ?_);have eo:(ord.map fun i=>rawInt (i:Nat)).toArray[es.size]?=none:=by
   rw[List.getElem?_toArray,xE,Ai (by omega)];rfl
  dsimp only;rw[eo];refine wpAny_bind (wpAny_setField_rec hit (by simp) fun h1 e1 sb1=>?_);refine wpAny_bind (wpAny_setField_rec e1 (by simp) fun h2 e2 sb2=>?_);refine Xa (by simpa using hh) fun h' e k ty=>⟨ty,q h' s.toks fun b o nb eb=>k b o ?_⟩;have ne:b≠it:=fun z=>nb (by rw[z];exact .head _);show h2.get? b=some o;rw[sb2.2 b ne,sb1.2 b ne];exact eb
 self:=fun i s Q E st q=>Rf s Q E st.1 q
end
theorem Nt{α β:Type}{F:α→β→Prop}{xs ys:List α}(p:xs.Perm ys):∀{zs:List β},Paired F ys zs→∃zs',zs'.Perm zs∧Paired F xs zs':=by
 induction p with
 |nil=>intro zs h;exact⟨zs,Am _,h⟩
 |cons x _ ih=>
  intro zs h;cases h with
  |cons f r=>
   obtain⟨zs',p,q⟩:=ih r;exact⟨_::zs',p.cons _,.cons f q⟩
 |swap x y l=>
  intro zs h;cases h with
  |cons f r=>
   cases r with
   |cons g r=>
    exact⟨_,List.Perm.swap _ _ _,.cons g (.cons f r)⟩
 |trans _ _ ih1 ih2=>
  intro zs h;obtain⟨z1,p1,q1⟩:=ih2 h;obtain⟨z2,p2,q2⟩:=ih1 q1;exact⟨z2,p2.trans p1,q2⟩
theorem Rn{α β γ:Type}{F:α→β→Prop}{G:γ→β→Prop}{f:α→γ}(h:∀a b,F a b→G (f a) b):∀{xs:List α}{zs:List β},Paired F xs zs→Paired G (xs.map f) zs
 |_,_,.nil=>.nil
 |_,_,.cons g r=>.cons (h _ _ g) (Rn h r)
def IsK(P:Program)(w:World)(v:Value)(k:Key):Prop:=(af P w).is k v=true
theorem Rb{P:Program}{w:World}{es:List (Int×Value)}{vs:List (Int×Value)}{ks:List Key}(h:∃fs,es.Perm fs∧Paired (fG P w) fs ks)(p:vs.Perm es):∃ks',ks'.Perm ks∧Paired (IsK P w) (vs.map (·.2)) ks':=by
 obtain⟨fs,p1,m⟩:=h;obtain⟨ks',p2,q⟩:=Nt (p.trans p1) m;exact⟨ks',p2,Rn (fun _ _ z=>z.1) q⟩
section
variable{prog:Program}{w:World}{A:Around}{E:Value→Shared→Prop}{s:Shared}{a:Addr}{ks:List Key}
theorem lM{Q:Value→Shared→Prop}(G:ck prog w s.heap a ks)(hb:ks.length≤sizeLine)(q:∀(it:Addr) (h':Heap) (d:Drawn) (vs:List Value) (fp:List Addr) (St:Nat→Heap→Prop),s.heap.objs.size≤it→(∀b o,s.heap.get? b=some o→h'.get? b=some o)→(∀b∈fp,b=a∨s.heap.objs.size≤b)→
   (∀A':Around,A'.handled=none→Walks prog w A' it fp [it] ks.length (fun i v=>vs[i]?=some v) St)→St 0 h'→vs.length=ks.length→(∃ks',ks'.Perm ks∧Paired (IsK prog w) vs ks')→Q (.ref it) {s with heap:=h',drawn:=d}):
  wpAny (model prog w) A (pyIter (.ref a)) Q E s:=by
 obtain⟨o,es,ep,t,ho,hex,hd,hf,fit,gd,nd⟩:=G;have len:=S8 hf;rw[xF]at len;have lta:a<s.heap.objs.size:=xk ho;have ty:s.TypeIs (.ref a) "set":=⟨o,ho,hex.1⟩;refine Al ty PySem.F.slot_set_iter (yt PySem.F.slot_set_iter ty Qa ?_ (PySem.F.args_set_iter_1 _));unfold Builtin.«frozenset.__iter__»;refine io (show wpAny _ _ (pure a) _ _ _ from pi ?_);unfold Builtin.Frozenset.sizeOf;refine io (io (wpAny_setEntries_of ho hd fit (pi ?_)));unfold setDrawn;refine io (io (zS ho hd fit (io (R7 (pi ?_)))));show wpAny _ _ (if (!w.params.followText "set-order" && (!t.plain && decide (es.size > 1)))=true then _ else _) _ _ _;have fin:∀(first:Value)(s1:Shared)(it:Addr),it=s1.heap.objs.size→s1.heap.get? a=some o→(∀b o,s.heap.get? b=some o→s1.heap.get? b=some o)→s.heap.objs.size≤it→s1={s with heap:=s1.heap,drawn:=s1.drawn}→
   (∀h',h'=s1.heap.push (hJ first 0 a es.size ep)→∃(vs:List Value)(fp:List Addr)(St:Nat→Heap→Prop),(∀b∈fp,b=a∨s.heap.objs.size≤b)∧
   (∀A':Around,A'.handled=none→Walks prog w A' it fp [it] es.size (fun i v=>vs[i]?=some v) St)∧St 0 h'∧vs.length=ks.length∧(∃ks',ks'.Perm ks∧Paired (IsK prog w) vs ks'))→
   wpAny (model prog w) A.in1 (do
    let e ←setEpoch a
    let x ←newFields "set_iterator" [first,rawInt 0,.ref a,rawInt es.size,rawInt e]
    ret x) (fun fin s'=>∃v,fin=.done (.ret v)∧∃T' r,s'.TypeIs v T'∧typeLookup (.type T') (Str.ofString "__next__")=pure (some r)∧Q v s') E s1:=by
  intro first s1 it hit ho1 kp le es1 hw
  refine io (wpAny_setEpoch_of ho1 hd fit ?_);unfold newFields;refine io (xT ?_);obtain⟨vs,fp,St,h1,h2,h3,h4,h5⟩:=hw _ rfl;refine pi ⟨_,rfl,"set_iterator",_,⟨_,xt _ rfl,rfl⟩,Xf.lookup,?_⟩;rw[es1,←hit];rw[len]at h2;exact q it _ s1.drawn vs fp St le (fun b o e=>xi _ (kp b o e)) h1 h2 h3 h4 h5
 by_cases ht:w.params.followText "set-order"=true
 ·rw[ht];rw[if_neg (by simp)];refine io (pi ?_);refine fin (rawInt 0) s s.heap.objs.size rfl ho (fun _ _ e=>e) (xj _) rfl fun h' eh=>?_;subst eh;refine⟨(pickOrder (w.params.setOrder a ep) es).toList.map (·.2),[s.heap.objs.size,a],_,?_,fun A' hA=>j3 hA (xx lta) ht hd fit,⟨xt _ rfl,xi _ ho⟩,?_,Rb hf (U4 _ _)⟩
  ·intro b hb
   rcases xv.mp hb with rfl | hb
   ·exact .inr (xj _)
   ·exact .inl (xq.mp hb)
  ·rw[xh,(U4 _ _).length_eq,xF,len]
 ·have ht:w.params.followText "set-order"=false:=yj.mpr ht;rw[ht]at gd⊢;by_cases hdr:(!t.plain && decide (es.size > 1))=true
  ·rw[hdr,xp (by decide)];refine io (Qc es.size (List.range es.size) s (zT) fun ord d hp=>?_);have ol:ord.length=es.size:=by rw[hp.length_eq,zT]
   refine io (wpAny_newTuple ?_ (by rw[xh];omega));refine fin (.ref s.heap.objs.size) _ (s.heap.objs.size+1) (by simp[Heap.size_push]) (Heap.get?_push_of_some _ ho) (fun b o e=>Heap.get?_push_of_some _ e) (by omega) rfl fun h' eh=>?_;subst eh;have hpe:(ord.map fun j=>es.getD j (0,.none)).Perm es.toList:=by
    have e:es.toList=(List.range es.size).map fun j=>es.getD j (0,.none):=by
     refine List.ext_getElem? fun i=>?_;rw[yq,xE];by_cases hi:i<es.size
     ·rw[xC hi,List.getElem?_range hi];simp[Array.getD,hi]
     ·rw[yX (by omega),Ai (by rw[zT];omega)];rfl
    rw[e];exact hp.map _
   have v:=Rb hf hpe;rw[yg]at v;refine⟨ord.map fun j=>(es.getD j (0,.none)).2,[s.heap.objs.size+1,a,s.heap.objs.size],_,?_,fun A' hA=>gG (it:=s.heap.objs.size+1) (T:=s.heap.objs.size) hA (xx (zD lta)) (xx (z5 _)) hp hd fit,⟨?_,xi _ (xi _ ho),xi _ (xt _ rfl)⟩,?_,v⟩
   ·intro b hb
    rcases xv.mp hb with rfl | hb
    ·exact .inr (by omega)
    ·rcases xv.mp hb with rfl | hb
     ·exact .inl rfl
     ·rw[xq.mp hb];exact .inr (xj _)
   ·have:=xt (h:=s.heap.push (plO ord)) (o:=hJ (.ref s.heap.objs.size) 0 a es.size ep) rfl;rw[zZ]at this;exact this
   ·rw[xh,ol,len]
  ·have hdr:=yj.mpr hdr;rw[hdr,if_neg (by simp)];refine io (pi ?_);refine fin (rawInt 0) s s.heap.objs.size rfl ho (fun _ _ e=>e) (xj _) rfl fun h' eh=>?_;subst eh;refine⟨es.toList.map (·.2),[s.heap.objs.size,a],_,?_,fun A' hA=>fY hA (xx lta) ht hd fit gd hdr,⟨yh _,xt _ rfl,xi _ ho⟩,?_,Rb hf (Am _)⟩
   ·intro b hb
    rcases xv.mp hb with rfl | hb
    ·exact .inr (xj _)
    ·exact .inl (xq.mp hb)
   ·rw[xh,xF,len]
theorem Up{α:Type}{M:Model}{c:Bool}{X Y:Sem α}{Q:α→Shared→Prop}(h:c=true)(q:wpAny M A X Q E s):wpAny M A (if c=true then X else Y) Q E s:=by
 rw[xp h];exact q
theorem lJ{Q:Bool→Shared→Prop}(ty:s.TypeIs (.ref a) "set")(q:Q false s):wpAny (model prog w) A (Builtin.List.listLengthHint (.ref a)) Q E s:=by
 have k1:typeLookup (.type "set") (Str.ofString "__len__")=pure (some (.builtin "set.__len__")):=by kernel_rfl
 have k2:splitId "set.__len__"=some ("set","__len__"):=by kernel_rfl
 have k3:isSubtype (.type "set") (.type "set")=pure true:=PySem.F.called_set.sub;unfold Builtin.List.listLengthHint;refine io (Ap ty k1 ?_);dsimp only;rw[k2];refine io (An ty k3 ?_);rw[xm (by decide)];refine Up (by kernel_rfl) (io (yW ty ?_));exact pi q
theorem qg:(Value.type "set" == Value.type "list")=false:=by decide
theorem tH:(Value.type "set" == Value.type "tuple")=false:=by decide
theorem fM{S:Addr}{res:Value}{c₀:Nat}{R:Result→Shared→Prop}(G:ck prog w s.heap a ks)(hh:A.handled=none)(hb:ks.length≤sizeLine)(hS:S≠a)(eS:s.heap.get? S=some {cls:=.type "list",data:=.seq #[] c₀})(q:∀(g:Heap) (tk:Nat) (d:Drawn) (xs:Array Value) (c:Nat),(∀b o,b≠S→s.heap.get? b=some o→g.get? b=some o)→g.get? S=some {cls:=.type "list",data:=.seq xs c}→(∃ks',ks'.Perm ks∧Paired (IsK prog w) xs.toList ks')→R (.ok (.ret res)) {s with heap:=g,toks:=tk,drawn:=d}):
  wpAny (model prog w) A.in1 (Builtin.List.listExtendWith (.ref S) (.ref a) res) (fun fin s'=>match fin with
   |.done f=>R (.ok f) s'
   |.again c'=>c'.quiet=true∧codeAny (model prog w) A c' R s') (fun e s'=>R (.error e) s') s:=by
 have ty:s.TypeIs (.ref a) "set":=by
  obtain⟨o,es,ep,t,ho,hex,_⟩:=G;exact⟨o,ho,hex.1⟩
 unfold Builtin.List.listExtendWith;refine io (yW ty ?_);have sm:Builtin.List.listSameRef (.ref S) (.ref a)=false:=by
  unfold Builtin.List.listSameRef;simpa using hS
 rw[sm,qg,tH,xm (by decide)];refine io (lM G hb fun it h1 d vs fp St le kp hf W st len pk=>?_);refine io (xQ (lJ (s:={s with heap:=h1,drawn:=d}) ?_ ?_))
 ·obtain⟨o,e,c⟩:=ty;exact⟨o,kp _ _ e,c⟩
 have lS:S<s.heap.objs.size:=xk eS;have nS:S∉fp:=fun hm=>by
  rcases hf S hm with z | z
  ·exact hS z
  ·exact absurd lS (Nat.not_lt.mpr z)
 have hA:A.in1.handled=none:=by simpa using hh
 have loop:∀(s2:Shared)(c:Nat),St 0 s2.heap→s2.heap.get? S=some {cls:=.type "list",data:=.seq #[] c}→(∀b o,b≠S→h1.get? b=some o→s2.heap.get? b=some o)→s2={s with heap:=s2.heap,drawn:=d}→
   codeAny (model prog w) A (.builtin "list.extend.loop" ⟨[.ref S,.ref it,res],[]⟩) R s2:=by
  intro s2 c st2 e2 k2 es2;refine codeAny_extend_loopS (W A.in1 hA).toS hb S nS res ks.length 0 s2 #[] c (by omega) (yh _) st2 e2 (ItemsOf.nil _) fun s' xs c' mv eS' hx=>?_;have ex:s'={s with heap:=s'.heap,toks:=s'.toks,drawn:=d}:=by
   have h1:=mv.gens;have h2:=mv.drawn;have h3:=mv.os;rw[es2]at h1 h2 h3;obtain⟨a1,a2,a3,a4,a5⟩:=s';simp only at h1 h2 h3;subst h1 h2 h3;rfl
  have vx:xs.toList=vs:=by
   refine List.ext_getElem? fun j=>?_;obtain⟨sz,at_⟩:=hx;rw[yq];by_cases hj:j<xs.size
   ·have:=at_ j xs[j] (xC hj);rw[xC hj,this]
   ·rw[yX (by omega),Ai (by omega)]
  rw[ex];refine q s'.heap s'.toks d xs c' (fun b o nb e=>mv.heap b o ?_ (k2 b o nb (kp b o e))) eS' (by rw[vx];exact pk);intro hm
  rcases xv.mp hm with z | z
  ·exact nb z
  ·have:=xq.mp z;have l2:b<s.heap.objs.size:=xk e;rw[this]at l2;exact absurd l2 (Nat.not_lt.mpr le)
 refine Up (by kernel_rfl) (io (zV ?_));unfold Builtin.List.listTouch;have u1:=Af (c:="list") (kp _ _ eS) (fun x=>x.push Value.none);have u2:=Af (c:="list") u1 (fun x=>x.pop);refine wpAny_bind (wpAny_bind (listUpdate_at (kp _ _ eS) rfl (listUpdate_at u1 rfl ?_ (by simp[sizeLine_eq]) (by simp)) (by simp) (by simp[sizeLine_eq])));obtain⟨c2,u3⟩:∃c2,((h1.update S (Obj.mapSeq fun x=>x.push Value.none)).update S (Obj.mapSeq fun x=>x.pop)).get? S=some {cls:=.type "list",data:=.seq #[] c2}:=⟨_,u2⟩;have k2:∀b o,b≠S→h1.get? b=some o→((h1.update S (Obj.mapSeq fun x=>x.push Value.none)).update S (Obj.mapSeq fun x=>x.pop)).get? b=some o:=fun b o nb e=>by
  rw[zX _ _ _ _ nb,zX _ _ _ _ nb];exact e
 refine pi ⟨zL za _,loop _ c2 ((W A.in1 hA).frame 0 _ _ st fun b hb o e=>k2 b o (fun z=>nS (by rw[←z];exact hb)) e) u3 k2 rfl⟩
def uS(P:Program)(w:World)(s:Shared)(ks:List Key)(q:Result)(s':Shared):Prop:=
 ∃(g:Heap)(tk c:Nat)(d:Drawn)(xs:Array Value),q=.ok (.ret (.ref s.heap.objs.size))∧s'={s with heap:=g,toks:=tk,drawn:=d}∧(∀b o,s.heap.get? b=some o→g.get? b=some o)∧g.get? s.heap.objs.size=some {cls:=.type "list",dict:=none,data:=.seq xs c,slots:=#[]}∧(∃ks',ks'.Perm ks∧Paired (IsK P w) xs.toList ks')
theorem dX{R:List Value→Shared→Prop}(G:ck prog w s.heap a ks)(hh:A.handled=none)(hb:ks.length≤sizeLine)(h:∀(g:Heap) (tk:Nat) (d:Drawn) (xs:Array Value),(∀b o,s.heap.get? b=some o→g.get? b=some o)→s.heap.objs.size<g.objs.size→(∃ks',ks'.Perm ks∧Paired (IsK prog w) xs.toList ks')→R xs.toList {s with heap:=g,toks:=tk,drawn:=d}):wpAny (model prog w) A (collect (.ref a)) R E s:=by
 have lt1:a<s.heap.objs.size:=by
  obtain⟨o,es,ep,t,ho,_⟩:=G;exact xk ho
 unfold collect;refine io (wpAny_runValue (yA entry_proto_collect' ?_));rw[yi PySem.F.plain_proto_collect _];refine io (m:=newList []) (xT (pi ⟨zL yU _,yA entry_list_iadd' ?_⟩));rw[yi yU _];have own:(s.heap.push {cls:=.type "list",data:=.seq ([]:List Value).toArray}).get? s.heap.objs.size=some {cls:=.type "list",data:=.seq #[]}:=xt _ rfl;have run:=fM (A:=A) (s:={s with heap:=s.heap.push {cls:=.type "list",data:=.seq ([]:List Value).toArray}}) (R:=uS prog w s ks) (U0 G fun o e=>xi _ e) hh hb (ym lt1) (res:=.ref s.heap.objs.size) own
  (fun g tk d xs c hk hS hx=>⟨g,tk,c,d,xs,rfl,rfl,fun b o e=>hk b o (xx (xk e)) (xi _ e),hS,hx⟩)
 refine yB run (fun fin s' y=>?_) (fun _ _ y=>by obtain⟨_,_,_,_,_,e,_⟩:=y;cases e);cases fin with
 |done f=>
  obtain⟨g,tk,c,d,xs,e,rfl,hk,hS,hx⟩:=y;cases e;exact io (m:=load s.heap.objs.size) (As hS (pi (h g tk d xs hk (xk hS) hx)))
 |again c1=>
  refine⟨y.1,Aa y.2 fun q s2 z=>?_⟩;obtain⟨g,tk,c,d,xs,rfl,rfl,hk,hS,hx⟩:=z;exact io (m:=load s.heap.objs.size) (As hS (pi (h g tk d xs hk (xk hS) hx)))
end
theorem Inv.drawnAs{X:Cx}{Av:List (Addr×Obj)}{σ:St}{H:Hp}{s:Shared}(I:Inv X Av σ H s)(d:Drawn):Inv X Av σ H {s with drawn:=d}:=
 I.call (h':=s.heap) (g':=s.gens) (t':=s.toks) (d':=d) (ch:=[]) Un.refl I.hok I.bare (fun _ z=>nomatch z)
theorem Se{P:Program}{w:World}:∀{vs:List Value}{ks:List Key},Paired (IsK P w) vs ks→(∀k∈ks,∃z,k=Sum.inl z)→∃ns:List Int,ks=ns.map Sum.inl∧IntsAre vs ns
 |_,_,.nil,_=>⟨[],rfl,.nil⟩
 |_,_,.cons f r,h=>by
  obtain⟨z,rfl⟩:=h _ (.head _);obtain⟨ns,rfl,q⟩:=Se r fun k hk=>h k (.tail _ hk);obtain⟨t,rfl⟩:=ue f;exact⟨z::ns,rfl,.cons z t q⟩
theorem lm{xs ys:List Int}(h:(xs.map (Sum.inl:Int→Key)).Perm (ys.map Sum.inl)):xs.Perm ys:=by
 have:=h.filterMap Sum.getLeft?;rw[List.filterMap_map,List.filterMap_map]at this;simpa [Function.comp_def] using this
section
variable{X:Cx}
def rn(P:Program)(w:World):List V→Hp→VK→Prop:=fun xs H Q=>∃(d:Addr)(ns:List Int),xs=[.ref d]∧H d=some (dH P w d (ns.map Sum.inl))∧ns.length<64∧∀p,H p=none→Q (.ref p) (upd H p (.lst ((gw ns).map V.int)))
theorem e8(hc:X.calm=true):aH X (.builtin "sorted") (rn X.prog X.w):=by
 intro Av s σ H xs us Q I rx h;obtain⟨d,ns,rfl,hd,h64,q⟩:=h;obtain⟨u,rfl,ru⟩:=X6 rx;cases ru;have G:ck X.prog X.w s.heap d (ns.map Sum.inl):=(I.hok d _ hd).1;have hh:X.A.in1.handled=none:=by simpa using I.ok.hd hc
 refine Calls.call_function_entry kind_sorted plain_sorted entry_sorted (args_sorted1 _) ?_;unfold Builtin.«sorted»;refine io (m:=checkCount "sorted" 1 1 _) (pi ?_);refine io (dX (A:=X.A.in1) G hh (Zq (by rw[xh];omega)) fun g tk dr AH hk hsz hacc=>?_);obtain⟨ks',pk,pr⟩:=hacc;obtain⟨ns',rfl,hS⟩:=Se pr fun k hk=>by
  obtain⟨z,_,rfl⟩:=xI.mp (pk.mem_iff.mp hk);exact⟨z,rfl⟩
 have pz:=lm pk;have al:AH.toList.length=ns.length:=by
  have e1:=xG pr;rw[xh]at e1;rw[e1,pz.length_eq]
 refine io (wpAny_newList ?_ (by exact Zq (by omega)));have hoL:(g.push (seqObj "list" AH.toList.toArray 0)).get? g.objs.size=some (seqObj "list" AH.toList.toArray 0):=xt _ rfl;refine io (xQ (yt slot_list_sort ⟨_,hoL,rfl⟩ entry_list_sort (list_sort_tree hoL hS (by omega) fun out ms a1 a2 a3=>⟨_,rfl,?_⟩) (args_list_sort _)));refine pi ⟨_,rfl,?_⟩;have ess:=rk (a2.trans pz) a3;subst ess;obtain⟨e2,he2⟩:=sortedHeap_at (vs:=AH.toList) (out:=out) hoL;have hz:s.heap.objs.size≤g.objs.size:=yV hsz;refine⟨.ref g.objs.size,_,(I.drawnAs dr).laid (t':=tk) (o:=.lst ((gw ns).map V.int)) (fun b o e=>?_) hz ?_,rfl,q _ (I.hok.fresh hz)⟩
 ·have e':=hk b o e;have AA:=xk e';rw[sortedHeap_old (xx AA) (by rw[size_push'];exact zD AA)];exact xi _ e'
 ·refine⟨?_,out.toList,e2,Tu a1,by rw[Array.toArray_toList];exact he2⟩;rw[xh,(Tv ns).length_eq];exact Zq (by omega)
end
def eI(ns:List Int):List Int:=(ddK [] (ns.map Sum.inl)).filterMap Sum.getLeft?
theorem Ox(ns:List Int):ddK [] (ns.map Sum.inl)=(eI ns).map Sum.inl:=by
 have h:∀k∈ddK [] (ns.map (Sum.inl:Int→Key)),∃z,k=Sum.inl z:=fun k hk=>by
  rcases(Ov _ _ _).mp hk with q | q
  ·exact nomatch q
  ·obtain⟨z,_,rfl⟩:=xI.mp q;exact⟨z,rfl⟩
 unfold eI;generalize ddK [] (ns.map (Sum.inl:Int→Key))=l at h⊢
 induction l with
 |nil=>rfl
 |cons k l ih=>
  obtain⟨z,rfl⟩:=h k (.head _);rw[yZ];show Sum.inl z::l=Sum.inl z::_;rw[←ih fun k hk=>h k (.tail _ hk)]
theorem lP{ns:List Int}{z:Int}:z∈eI ns↔z∈ns:=by
 have h:=Ov (ns.map Sum.inl) [] (Sum.inl z:Key);rw[Ox,xI,xI]at h;constructor
 ·intro q
  rcases h.mp ⟨z,q,rfl⟩with e | ⟨y,hy,e⟩
  ·exact nomatch e
  ·cases e;exact hy
 ·intro q;obtain⟨y,hy,e⟩:=h.mpr (.inr ⟨z,q,rfl⟩);cases e;exact hy
theorem lw(ns:List Int):(eI ns).length≤ns.length:=by
 have h:=Ow (ns.map (Sum.inl:Int→Key)) [];rw[Ox,xh,xh,yF]at h;omega
section
variable{X:Cx}
theorem kY(hc:X.calm=true):aH X (.type "set") (fun xs H Q=>∃(p:Addr)(ns:List Int),xs=[.ref p]∧SqL X.K H p (ns.map V.int)∧ns.length<4000∧∀a,H a=none→Q (.ref a) (upd H a (dH X.prog X.w a ((eI ns).map Sum.inl)))):=by
 intro Av s σ H xs us Q I r h;obtain⟨p,ns,rfl,hq,hz,q⟩:=h;refine kU hc Av s σ H _ us Q I r ⟨p,ns.map Sum.inl,rfl,?_,by rw[xh];exact hz,fun a na=>?_⟩
 ·rw[yg];exact hq
 ·rw[Ox];exact q a na
end
section
variable{X:Cx}
def vI:R2:=fun x y H Q=>∃a b xs ys,x=.ref a∧y=.ref b∧H a=some (.tup xs)∧H b=some (.tup ys)∧xs.length+ys.length≤1000000∧∀(c:Addr)(H':Hp),Same H H'→H' c=some (.tup (xs++ys))→Q (.ref c) H'
theorem Xh:OpR X (binaryOp .Add) vI:=by
 intro Av s σ H x y v u Q I rx ry h;obtain⟨a,b,xs,ys,rfl,rfl,ha,hb,hz,q⟩:=h;by_cases hx:xs=[]
 ·subst hx;cases rx;cases ry;obtain⟨its,r1,p1,_⟩:=I.tuple (SqT.of ha);obtain⟨its2,r2,p2,_⟩:=I.tuple (SqT.of hb);obtain⟨⟨cls,dd,data,sl⟩,ho,hc,n,hd⟩:=id p1;obtain⟨⟨cls2,dd2,data2,sl2⟩,ho2,hc2,n2,hd2⟩:=id p2;simp only at hc hd hc2 hd2;subst hc hd hc2 hd2;have e0:its=[]:=r1.nil_iff.mpr rfl;exact concat_meets ⟨_,ho,rfl⟩ ⟨_,ho2,rfl⟩ noFill_tuple_add seq_tuple_add PySem.F.slot_tuple_add PySem.F.entry_tuple_add (PySem.F.args_tuple_add_2 _ _)
   (tuple_addW0 a b its.toArray its2.toArray n n2 dd dd2 sl sl2 (by rw[e0];rfl)) ⟨ho,ho2,.ref b,H,I,rfl,q b H (Same.refl _) hb⟩
 ·refine pF Av s σ H _ _ v u Q I rx ry ⟨a,b,xs,ys,rfl,rfl,SqT.of ha,SqT.of hb,hx,Zq hz,fun e=>?_,fun _ p np=>q p _ (Z9 np _) Z7⟩;refine q a H (Same.refl _) ?_;rw[e,yQ];exact ha
end
section
variable{X:Cx}{Av:List (Addr×Obj)}{σ:St}{H:Hp}{s:Shared}
end
end L2
namespace L2
open PySem PySem.Spec PyProof.Rows
section
variable{α:Type}{K:W.Frag}{a:Addr}{xs:List V}{ks:List α}{k:Nat}{g:TG}{tt:TT}{te:TE}{σ:St}{H:Hp}{Q:VK}
end
end L2
namespace L2
open PySem PySem.Spec PyProof.Rows PySem.Builtin PySem.Builtin.Str
theorem jj{H H':Hp}{a l:Addr}{o:HO}(g:Grw a H H')(n:ag a H l=none):Grw a H (upd H' l o):=fun b u e=>by
 have hb:b≠l:=fun q=>by rw[q,n]at e;cases e
 have e2:=g b u e;obtain⟨h1,h2⟩:=Z3 e2;rw[Zf h1,Ze hb];exact h2
end L2
namespace HT
open PySem PySem.Spec PyProof.Rows
section
variable{prog:Program}{w:World}{A:Around}{E:Value→Shared→Prop}{s:Shared}
theorem getItem_tuple_whole{t sl:Addr}{items:Array Value}{vl vu:Value}{lo hi:Option Int}{Q:Value→Shared→Prop}(ht:IsTup s.heap t items)(hs:s.heap.IsSliceOf sl vl vu .none)(pl:IsPart vl lo)(pu:IsPart vu hi)(hw:sIx items.size 0 lo=0∧sIx items.size items.size hi=items.size)(h:Q (.ref t) s):wpAny (model prog w) A (getItem (.ref t) (.ref sl)) Q E s:=by
 obtain⟨os,hos,hcs,hds⟩:=id hs;have hTs:s.TypeIs (.ref sl) "slice":=⟨os,hos,hcs⟩;have ty:=ht.typeIs;unfold getItem
 try with_reducible refine xQ ?_
 first | refine io (pi ?_) | skip
 refine io (wpAny_sequenceKey ht.typeIs (by decide) ?_);refine io (wpAny_callSpecial?_slot (name:=Str.ofString "__getitem__") ht.typeIs yz
  (yt yz ht.typeIs entry_tuple_getitem ?_ (args_tuple_getitem _ _)))
 show wpAny _ _ (Builtin.Tuple.tupleItemsOf (.ref t) >>= _) _ _ s;refine io (tupleItemsOf_ ht ?_);refine io (yW hTs ?_);rw[xp (by decide)];refine io (Wr hs pl pu ?_);have hyes:(((sIx items.size 0 lo:Nat):Int)==0 && (1:Int)==1 && (sIx items.size items.size hi-sIx items.size 0 lo)==items.size)=true:=by
  rw[hw.1,hw.2];simp
 show wpAny _ _ (if (((sIx items.size 0 lo:Nat):Int)==0 && (1:Int)==1 && (sIx items.size items.size hi-sIx items.size 0 lo)==items.size)=true then _ else _) _ _ s;rw[xp hyes];refine io (m:=Builtin.Tuple.tupleIsExact (.ref t)) ?_;refine io (yW ty (pi ?_));rw[xp (by decide)];refine io (m:=rule _) (zV ?_);exact pi ⟨_,rfl,pi h⟩
end
end HT
namespace L2
open PySem PySem.Spec PyProof.Rows
section
variable{X:Cx}
def rSlG:V→Option Int→Option Int→Hp→VK→Prop:=fun x lo hi H Q=>∃a xs,x=.ref a∧H a=some (.tup xs)∧∀(c:Addr)(H':Hp),Same H H'→H' c=some (.tup (aV xs lo hi))→Q (.ref c) H'
theorem Yy:SlR X rSlG:=by
 intro Av s σ H x v vl vu lo hi sl Q I rx hs pl pu h;obtain⟨a,xs,rfl,hx,q⟩:=h;by_cases hw:HT.sIx xs.length 0 lo=0∧HT.sIx xs.length xs.length hi=xs.length
 ·cases rx;obtain⟨its,r,ht,hz⟩:=I.tuple (SqT.of hx);have AJ:its.toArray.size=xs.length:=by rw[xO];exact r.length.symm
  refine⟨"tuple",_,PyProof.Rows.slot_tuple_getitem.lookup,ht.typeIs,?_⟩;refine HT.getItem_tuple_whole ht hs pl pu (by rw[AJ];exact hw) ⟨.ref a,H,I,rfl,q a H (Same.refl _) ?_⟩;unfold aV;rw[hw.1,hw.2,List.drop_zero,Nat.sub_zero,yc];exact hx
 ·exact uc Av s σ H _ v vl vu lo hi sl Q I rx hs pl pu ⟨a,xs,rfl,SqT.of hx,hw,fun p np=>q p _ (Z9 np _) Z7⟩
end
theorem uq{xs:List V}{k:Nat}:aV xs none (some (k:Int))=xs.take k:=by
 unfold aV;rw[HT.sIx_none,List.drop_zero,Nat.sub_zero,HT.sIx_nat]
 rcases Nat.le_total k xs.length with h | h
 ·rw[zO h]
 ·rw[Nat.min_eq_right h,Ad (xj _),Ad h]
theorem dP{xs:List V}{k:Nat}:aV xs (some (k:Int)) none=xs.drop k:=by
 unfold aV;rw[HT.sIx_none,HT.sIx_nat]
 rcases Nat.le_total k xs.length with h | h
 ·rw[zO h,Ad (by rw[yK];omega)]
 ·rw[Nat.min_eq_right h,List.drop_of_length_le h,List.drop_of_length_le (xj _),List.take_nil]
section
variable{X:Cx}
end
section
variable{a l d:Addr}{fz:HO}{Hf H' H'':Hp}{xs:List V}{ts:List Th}
end
end L2
namespace HT
open PySem PySem.Spec PyProof.Rows
theorem dS{α β:Type}{f g:α→Option β}:∀{l:List α},(∀k∈l,f k=g k)→l.filterMap f=l.filterMap g
 | [],_=>rfl
 |x::l,h=>by rw[yZ,yZ,h x (.head _),dS fun k hk=>h k (.tail _ hk)]
section
variable{prog:Program}{w:World}{A:Around}{E:Value→Shared→Prop}{s:Shared}
theorem Tw{sl:Addr}{t:Tok}{n:Nat}{Q:Int×Int×Nat→Shared→Prop}(hs:s.heap.IsSliceOf sl .none .none (.int (-1) t))(h:Q ((n:Int)-1,-1,n) s):wpAny (model prog w) A (Builtin.Slice.sliceApplied (.ref sl) (pure (n:Int))) Q E s:=by
 obtain⟨os,hos,hcs,hds⟩:=id hs;unfold Builtin.Slice.sliceApplied Builtin.Slice.sliceFields;refine io (io (zK hos hds (x:=.none) rfl (io (zK hos hds (x:=.none) rfl (io (zK hos hds (x:=.int (-1) t) rfl (pi ?_)))))));refine io (Uq (IsPart.int (-1) t) ?_);show wpAny _ _ (if ((-1:Int)==0)=true then _ else _) _ _ s;rw[xm (by decide)];refine io (slicePart_none (io (slicePart_none (io (pi ?_)))));have e1:Builtin.Slice.sliceAdjust none none (-1) (n:Int)=((n:Int)-1,-1):=by
  unfold Builtin.Slice.sliceAdjust;simp
 show wpAny _ _ (match Builtin.Slice.sliceAdjust none none (-1) (n:Int)with | (lo,hi)=>pure (lo,(-1:Int),Builtin.Slice.slicePlaces lo hi (-1))) _ _ s;rw[e1];have e2:Builtin.Slice.slicePlaces ((n:Int)-1) (-1) (-1)=n:=by
  unfold Builtin.Slice.slicePlaces;simp;omega
 show wpAny _ _ (pure ((n:Int)-1,(-1:Int),Builtin.Slice.slicePlaces ((n:Int)-1) (-1) (-1))) _ _ s;rw[e2];exact pi h
theorem getItem_tuple_rev{a sl:Addr}{items:Array Value}{t:Tok}{Q:Value→Shared→Prop}(ht:IsTup s.heap a items)(hs:s.heap.IsSliceOf sl .none .none (.int (-1) t))(h:Q (.ref s.heap.objs.size) {s with heap:=s.heap.push {cls:=.type "tuple",data:=.seq items.toList.reverse.toArray}})(hsz:items.size≤sizeLine):wpAny (model prog w) A (getItem (.ref a) (.ref sl)) Q E s:=by
 have htake:sizeOk (.seq items.toList.reverse.toArray):=by
  show items.toList.reverse.toArray.size≤sizeLine;rw[xO,List.length_reverse,xF];exact hsz
 obtain⟨os,hos,hcs,hds⟩:=id hs;have hTs:s.TypeIs (.ref sl) "slice":=⟨os,hos,hcs⟩;unfold getItem
 try with_reducible refine xQ ?_
 first | refine io (pi ?_) | skip
 refine io (wpAny_sequenceKey ht.typeIs (by decide) ?_);refine io (wpAny_callSpecial?_slot (name:=Str.ofString "__getitem__") ht.typeIs yz
  (yt yz ht.typeIs entry_tuple_getitem ?_ (args_tuple_getitem _ _)))
 show wpAny _ _ (Builtin.Tuple.tupleItemsOf (.ref a) >>= _) _ _ s;refine io (tupleItemsOf_ ht ?_);refine io (yW hTs ?_);rw[xp (by decide)];refine io (Tw hs ?_);show wpAny _ _ (if (((items.size:Int)-1)==0 && (-1:Int)==1 && items.size==items.size)=true then _ else _) _ _ s;rw[if_neg (by simp)];have e:((List.range items.size).filterMap fun(k:Nat)=>items[((items.size:Int)-1+(k:Int)*(-1)).toNat]?).toArray=items.toList.reverse.toArray:=by
  have e1:((List.range items.size).filterMap fun(k:Nat)=>items[((items.size:Int)-1+(k:Int)*(-1)).toNat]?)=((List.range items.size).map fun k=>items.size-1-k).filterMap (items[·]?):=by
   rw[List.filterMap_map];refine dS fun k hk=>?_;have:=z7.mp hk;show items[((items.size:Int)-1+(k:Int)*(-1)).toNat]?=items[items.size-1-k]?;rw[show((items.size:Int)-1+(k:Int)*(-1)).toNat=items.size-1-k by omega]
  rw[e1,W.krv_range,List.filterMap_reverse,W.krv_all]
 rw[e]
 first
  |exact io (m:=Builtin.Tuple.tupleExact _) (xT (pi ⟨_,rfl,pi h⟩) htake)
  |exact io (m:=Builtin.Tuple.tupleExact _) (xT (io (pi (pi ⟨_,rfl,pi h⟩))) htake)
  |exact io (io (m:=Builtin.Tuple.tupleExact _) (xT (pi (pi ⟨_,rfl,pi h⟩)) htake))
  |exact io (io (m:=Builtin.Tuple.tupleExact _) (xT (pi ⟨_,rfl,pi h⟩) htake))
end
end HT
namespace L2
open PySem PySem.Spec PyProof.Rows
section
variable{X:Cx}
def vi(K:W.Frag)(te ts:TE):TE:=fun σ H Q=>te σ H fun x H1=>ts σ H1 fun y H2=>∃(a:Addr)(xs:List V),x=.ref a∧y=.int (-1)∧SqT K H2 a xs∧∀p,H2 p=none→Q (.ref p) (upd H2 p (.tup xs.reverse))
theorem px{e st:Expr}{te ts:TE}{pos p2:Pos}(he:PE X e te)(hs:PE X st ts):PE X (.Subscript e (.Slice none none (some st) p2) pos) (vi X.K te ts):=by
 intro Av s σ H Q I h;refine Subscript_ (thn (he Av s σ H _ I h) fun v s1 Aw=>?_);obtain⟨x,H1,I1,r1,q1⟩:=Aw;refine wpAny_Slice ?_;rw[evalPart_none];refine pi (pi ?_);rw[evalPart_some];refine thn (hs Av s1 σ H1 _ I1 q1) fun vk s2 Aw=>?_;obtain⟨y,H2,I2,r2,q2⟩:=Aw;obtain⟨a,xs,rfl,rfl,hx,q⟩:=q2;cases r1;obtain⟨t,rfl⟩:=r2;have I4:Inv X Av σ H2 {s2 with heap:=s2.heap.push {cls:=.type "slice",data:=.fields #[.none,.none,.int (-1) t]}}:=I2.kept (t':=s2.toks) fun b ob q=>xi _ q;obtain⟨its,r,ht,hz⟩:=I4.tuple hx;have AJ:=r.length;show wpAny (model X.prog X.w) X.A (subscriptTail e (.Slice none none (some st) p2) (.ref a) (.ref s2.heap.objs.size)) (EP X Av σ Q) X.xe {s2 with heap:=s2.heap.push {cls:=.type "slice",data:=.fields #[.none,.none,.int (-1) t]}};refine tail_any (ops:=[.ref a,.ref s2.heap.objs.size]) ht.typeIs PyProof.Rows.slot_tuple_getitem.lookup ?_ (by with_unfolding_all rfl);refine HT.getItem_tuple_rev ht (Heap.IsSliceOf.new ..) ?_ (by rw[xO];omega);refine⟨.ref _,_,I4.laid (t':=s2.toks) (o:=.tup xs.reverse) (fun b ob q=>xi _ q) (xj _) ?_,rfl,q _ (I4.hok.fresh (xj _))⟩;exact⟨by rw[List.length_reverse];exact hz,its.reverse,r.reverse,TupN.new _ _⟩
end
def cA(prog:Program)(w:World)(A:Around)(s:Shared)(κ:KeyKind)(kd:SortKind):Prop:=
 ∀(E:Value→Shared→Prop)(x y:Value)(a b:κ.α)(Q:Bool→Shared→Prop),κ.keyOf x=some a→κ.keyOf y=some b→Q (κ.blt a b) s→wpAny (model prog w) A (keyLt' kd x y) Q E s
structure Sst(kd:SortKind)(xs0:Array Keyed)(st:SortSt):Prop where
 pm:(arrOf st).Perm xs0
 kn:kindOf st=kd
 pd:pendingOf st=#[]
 fl:failedOf st=none
def Rz(κ:KeyKind)(xs:Array Keyed)(n:Nat):Prop:=∀i j,i≤j→j<n→κ.blt (KK κ xs j) (KK κ xs i)=false
def Fz(κ:KeyKind)(xs:Array Keyed)(n:Nat):Prop:=∀i j,i≤j→j<n→κ.blt (KK κ xs i) (KK κ xs j)=false
section
variable{prog:Program}{w:World}{A:Around}{E:Value→Shared→Prop}{s:Shared}{κ:KeyKind}{kd:SortKind}{xs0:Array Keyed}{st:SortSt}
theorem Sst.sz(b:Sst kd xs0 st):(arrOf st).size=xs0.size:=b.pm.size_eq
theorem Sst.put(b:Sst kd xs0 st){ys:Array Keyed}(p:ys.Perm (arrOf st)):Sst kd xs0 (setArr st ys):=⟨p.trans b.pm,b.kn,b.pd,b.fl⟩
theorem ltF{a b c:κ.α}(h:κ.blt b a=false)(g:κ.blt c b=false):κ.blt c a=false:=by
 rcases e:κ.blt c a with _ | _
 ·rfl
 ·rcases κ.negTrans c b a e with q | q
  ·rw[g]at q;exact q.symm
  ·rw[h]at q;exact q.symm
theorem ltA{a b:κ.α}(h:κ.blt a b=true):κ.blt b a=false:=by
 rcases e:κ.blt b a with _ | _
 ·rfl
 ·have q:=κ.trans a b a h e;rw[κ.irrefl]at q;exact q.symm
theorem Rz.snoc{xs:Array Keyed}{m:Nat}(r:Rz κ xs m)(h1:1≤m)(h:κ.blt (KK κ xs m) (KK κ xs (m-1))=false):Rz κ xs (m+1):=by
 intro i j hij hj
 rcases zw j m with l | l
 ·exact r i j hij l
 obtain rfl:j=m:=by omega
 rcases zw i j with l2 | l2
 ·exact ltF (r i (j-1) (by omega) (by omega)) h
 ·obtain rfl:i=j:=by omega
  exact κ.irrefl _
theorem Fz.snoc{xs:Array Keyed}{m:Nat}(r:Fz κ xs m)(h1:1≤m)(h:κ.blt (KK κ xs (m-1)) (KK κ xs m)=false):Fz κ xs (m+1):=by
 intro i j hij hj
 rcases zw j m with l | l
 ·exact r i j hij l
 obtain rfl:j=m:=by omega
 rcases zw i j with l2 | l2
 ·exact ltF h (r i (j-1) (by omega) (by omega))
 ·obtain rfl:i=j:=by omega
  exact κ.irrefl _
theorem sS{xs:Array Keyed}:Rz κ xs 1:=fun i j hij hj=>by
 obtain rfl:i=j:=by omega
 exact κ.irrefl _
theorem one_Fz{xs:Array Keyed}:Fz κ xs 1:=fun i j hij hj=>by
 obtain rfl:i=j:=by omega
 exact κ.irrefl _
theorem Fz.same{xs ys:Array Keyed}{m:Nat}(r:Fz κ xs m)(h:∀k,KK κ ys k=KK κ xs k):Fz κ ys m:=fun i j hij hj=>by
 rw[h,h];exact r i j hij hj
theorem To{i j:Nat}{Q:Option Bool→SortSt→Prop}(hc:cA prog w A s κ kd)(hk:KeysOf κ xs0)(b:Sst kd xs0 st)(hi:i<xs0.size)(hj:j<xs0.size)(q:Q (some (κ.blt (KK κ (arrOf st) i) (KK κ (arrOf st) j))) st):wpS (model prog w) A E s (ltAt' i j) Q st:=by
 have look:∀{i:Nat},i<xs0.size→∃p a,(arrOf st)[i]?=some p∧κ.keyOf p.1=some a∧KK κ (arrOf st) i=a:=by
  intro i hi;have hl:i<(arrOf st).size:=by rw[b.sz];exact hi
  have e:(arrOf st)[i]?=some (arrOf st)[i]:=xC hl;obtain⟨a,ha⟩:=hk (arrOf st)[i] ((Array.perm_iff_toList_perm.mp b.pm).mem_iff.mp (Array.mem_toList_iff.mpr (Array.getElem_mem hl)));refine⟨_,a,e,ha,?_⟩;unfold KK;rw[e];show(κ.keyOf _).getD _=a;rw[ha];rfl
 obtain⟨⟨x,x'⟩,a,e1,k1,g1⟩:=look hi;obtain⟨⟨y,y'⟩,a',e2,k2,g2⟩:=look hj;rw[g1,g2]at q;rw[ltAt'_eq];refine yp (wpS_get ?_);show wpS (model prog w) A E s (elem' (arrOf st) i >>= fun u=>elem' (arrOf st) j >>= fun v=>lt' u v) Q st;rw[elem'_eq,elem'_eq,e1,e2];refine yp (yP ?_);refine yp (yP ?_);rw[lt'_eq];refine yp (wpS_get ?_);rw[b.kn];exact yp (wpS_lift (wpAny_attempt (hc _ x y a a' _ k1 k2 ⟨rfl,yP q⟩)))
theorem ig{a n:Nat}{Q:AscSt→SortSt→Prop}(hc:cA prog w A s κ kd)(hk:KeysOf κ xs0)(hn:n≤xs0.size)(h1:1≤a)(h2:a≤n)(b:Sst kd xs0 st)(r:Rz κ (arrOf st) a)(fin:∀m,a≤m→m≤n→Rz κ (arrOf st) m→(m<n→κ.blt (KK κ (arrOf st) m) (KK κ (arrOf st) (m-1))=true)→Q (none,m) st):wpS (model prog w) A E s (ascLoop a n) Q st:=by
 unfold ascLoop;refine At (fun i c u=>u=st∧c=(none,i)∧Rz κ (arrOf st) i) ?_ ?_ ⟨rfl,rfl,r⟩
 ·rintro i _ _ h3 h4 ⟨rfl,rfl,r'⟩;refine yp (To hc hk b (by omega) (by omega) ?_)
  rcases e:κ.blt (KK κ (arrOf _) i) (KK κ (arrOf _) (i-1))with _ | _
  ·exact yP ⟨rfl,rfl,r'.snoc (by omega) e⟩
  ·exact yP (fin i h3 (by omega) r' fun _=>e)
 ·rintro _ _ ⟨rfl,rfl,r'⟩;rw[Nat.max_eq_right h2]at r'⊢;exact fin n h2 (xj _) r' fun q=>absurd q (zt _)
theorem Sr{i j:Nat}{Q:Unit→SortSt→Prop}(q:Q () (setArr st (mirror (arrOf st) i j ((j-i) / 2)))):wpS (model prog w) A E s (reverseSlice' i j) Q st:=by
 rw[reverseSlice'_eq];exact wpS_modify q
theorem iF{m n:Nat}{Q:Option Nat→SortSt→Prop}(hc:cA prog w A s κ kd)(hk:KeysOf κ xs0)(hn:n≤xs0.size)(h1:1≤m)(h2:m≤n)(b:Sst kd xs0 st)(r:Fz κ (arrOf st) m)(fin:∀l u,Sst kd xs0 u→1≤l→l≤n→Rz κ (arrOf u) l→Q (some l) u):wpS (model prog w) A E s (tail3 m n) Q st:=by
 unfold tail3;refine yp (Sr ?_);have b':=b.put (mirror_perm (arrOf st) 0 m ((m-0) / 2));have ml:m≤(arrOf st).size:=by rw[b.sz];omega
 refine yp (ig hc hk hn h1 h2 b' (fun i j hij hj=>?_) fun l h3 h4 r' _=>yP (fin l _ b' (by omega) h4 r'));show κ.blt (KK κ (mirror (arrOf st) 0 m ((m-0) / 2)) j) (KK κ (mirror (arrOf st) 0 m ((m-0) / 2)) i)=false;rw[KK_mirror ml,KK_mirror ml,xp ⟨yh _,hj⟩,xp ⟨yh _,by omega⟩];exact r _ _ (by omega) (by omega)
theorem ki{m n:Nat}{Q:DescSt→SortSt→Prop}(hc:cA prog w A s κ kd)(hk:KeysOf κ xs0)(hn:n≤xs0.size)(h1:1≤m)(h2:m≤n)(b:Sst kd xs0 st)(r:Fz κ (arrOf st) m)(fin:∀l e u,Sst kd xs0 u→m≤l→l≤n→Fz κ (arrOf u) l→e+1≤l→(∀i,l-(e+1)≤i→i<l→KK κ (arrOf u) i=KK κ (arrOf u) (l-1))→Q (none,l,e) u):
  wpS (model prog w) A E s (descLoop m n) Q st:=by
 unfold descLoop;refine At (fun i c u=>∃e,c=(none,i,e)∧Sst kd xs0 u∧Fz κ (arrOf u) i∧e+1≤i∧∀k,i-(e+1)≤k→k<i→KK κ (arrOf u) k=KK κ (arrOf u) (i-1)) ?_ ?_ ⟨0,rfl,b,r,h1,fun k h3 h4=>by rw[show k=m-1 by omega]⟩
 ·rintro i _ u h3 h4 ⟨e,rfl,b',r',he,al⟩;have il:i≤(arrOf u).size:=by rw[b'.sz];omega
  dsimp only;refine yp (To hc hk b' (by omega) (by omega) ?_)
  rcases e1:κ.blt (KK κ (arrOf u) i) (KK κ (arrOf u) (i-1))with _ | _
  ·show wpS (model prog w) A E s (ltAt' (i-1) i >>= _) _ u;refine yp (To hc hk b' (by omega) (by omega) ?_)
   rcases e2:κ.blt (KK κ (arrOf u) (i-1)) (KK κ (arrOf u) i)with _ | _
   ·have eq:KK κ (arrOf u) i=KK κ (arrOf u) (i-1):=κ.total _ _ e1 e2;refine yP ⟨e+1,rfl,b',r'.snoc (by omega) e2,by omega,fun k h5 h6=>?_⟩;show KK κ (arrOf u) k=KK κ (arrOf u) i
    rcases zw k i with l | l
    ·rw[eq];exact al k (by omega) l
    ·rw[show k=i by omega]
   ·exact yP (fin i e u b' h3 (by omega) r' he al)
  ·have up:=r'.snoc (by omega) (ltA e1);show wpS (model prog w) A E s (if e > 0 then _ else _) _ u;by_cases c:e > 0
   ·rw[xp c];refine yp (Sr ?_);exact yP ⟨0,rfl,b'.put (mirror_perm _ _ _ _),up.same (KK_mirror_equal il al),by omega,fun k h5 h6=>by rw[show k=i+1-1 by omega]⟩
   ·rw[xm c];exact yP ⟨0,rfl,b',up,by omega,fun k h5 h6=>by rw[show k=i+1-1 by omega]⟩
 ·rintro _ u ⟨e,rfl,b',r',he,al⟩;rw[Nat.max_eq_right h2]at r' he al⊢;exact fin n e u b' h2 (xj _) r' he al
theorem Pj{m n:Nat}{Q:Option Nat→SortSt→Prop}(hc:cA prog w A s κ kd)(hk:KeysOf κ xs0)(hn:n≤xs0.size)(h2:m+1≤n)(b:Sst kd xs0 st)(r:Fz κ (arrOf st) (m+1))(fin:∀l u,Sst kd xs0 u→1≤l→l≤n→Rz κ (arrOf u) l→Q (some l) u):wpS (model prog w) A E s (descPart m n) Q st:=by
 unfold descPart;refine yp (m:=liftM (rule _)) (wpS_lift (zV ⟨rfl,?_⟩));refine yp (ki hc hk hn (by omega) h2 b r fun l e u b' h3 h4 r' he al=>?_);have ll:l≤(arrOf u).size:=by rw[b'.sz];omega
 show wpS (model prog w) A E s (if e > 0 then _ else _) _ u;by_cases c:e > 0
 ·rw[xp c];refine yp (Sr ?_);exact iF (m:=l) hc hk hn (by omega) h4 (b'.put (mirror_perm _ _ _ _)) (r'.same (KK_mirror_equal ll al)) fin
 ·rw[xm c];exact iF (m:=l) hc hk hn (by omega) h4 b' r' fin
theorem ow{n:Nat}{Q:Option Nat→SortSt→Prop}(hc:cA prog w A s κ kd)(hk:KeysOf κ xs0)(hn:n≤xs0.size)(h1:1≤n)(b:Sst kd xs0 st)(fin:∀l u,Sst kd xs0 u→1≤l→l≤n→Rz κ (arrOf u) l→Q (some l) u):wpS (model prog w) A E s (countRun' 0 n) Q st:=by
 rw[countRun0_eq];refine yp (ig hc hk hn (xj 1) h1 b sS fun m h3 h4 r lt=>?_);show wpS (model prog w) A E s (if (m==n)=true then _ else _) _ st
 rcases zw m n with c | c
 ·rw[xm (by rw[beq_iff_eq];omega)];have lt:=lt c;by_cases c2:m > 1
  ·rw[xp c2];refine yp (To hc hk b (by omega) (by omega) ?_)
   rcases e:κ.blt (KK κ (arrOf st) 0) (KK κ (arrOf st) (m-1))with _ | _
   ·have ml:m≤(arrOf st).size:=by rw[b.sz];omega
    have al:∀k,0≤k→k<m→KK κ (arrOf st) k=KK κ (arrOf st) (m-1):=fun k _ h=>
     κ.total _ _ (ltF e (r 0 k (yh _) h)) (r k (m-1) (by omega) (by omega))
    refine yp (Sr (Pj hc hk hn (by omega) (b.put (mirror_perm _ _ _ _)) ?_ fin));refine Fz.same (xs:=arrOf st) (Fz.snoc (fun i j hij hj=>?_) (by omega) (ltA lt)) (KK_mirror_equal ml al);rw[al i (yh _) (by omega),al j (yh _) hj];exact κ.irrefl _
   ·exact yP (fin m st b h3 h4 r)
  ·rw[xm c2];obtain rfl:m=1:=by omega
   exact Pj hc hk hn (by omega) b (one_Fz.snoc (by omega) (ltA lt)) fin
 ·obtain rfl:m=n:=by omega
  rw[xp (by rw[beq_iff_eq])];exact yP (fin m st b h3 h4 r)
theorem nQ{n ok:Nat}{Q:Bool→SortSt→Prop}(hc:cA prog w A s κ kd)(hk:KeysOf κ xs0)(hn:n≤xs0.size)(h2:ok≤n)(b:Sst kd xs0 st)(r:Rz κ (arrOf st) ok)(fin:∀u,Sst kd xs0 u→Rz κ (arrOf u) n→Q true u):wpS (model prog w) A E s (binarySort' 0 n ok) Q st:=by
 rw[binarySort'_eq];simp only[Nat.zero_add];have bX:Rz κ (arrOf st) (min (max ok 1) n):=fun i j hij hj=>by
  rcases zw j ok with l | l
  ·exact r i j hij l
  ·obtain rfl:i=j:=by omega
   exact κ.irrefl _
 refine yp (wpS_mono (At (Q:=fun c u=>c=(none,())∧Sst kd xs0 u∧Rz κ (arrOf u) n) (fun k c u=>c=(none,())∧Sst kd xs0 u∧Rz κ (arrOf u) (min k n)) ?_ ?_ ⟨rfl,b,bX⟩) ?_)
 ·rintro k _ u h3 h4 ⟨rfl,b',r'⟩;rw[zO (yV h4)]at r';have kl:k<xs0.size:=by omega
  have ks:k<(arrOf u).size:=by rw[b'.sz];exact kl
  refine yp (wpS_mono (At (Q:=fun c v=>v=u∧∃p,c=(none,p,p)∧p≤k∧(∀i,i<p→κ.blt (KK κ (arrOf u) k) (KK κ (arrOf u) i)=false)∧∀i,p≤i→i<k→κ.blt (KK κ (arrOf u) k) (KK κ (arrOf u) i)=true)
   (fun x c v=>v=u∧∃p q,c=(none,p,q)∧p≤q∧q≤k∧q+x≤k+p∧(∀i,i<p→κ.blt (KK κ (arrOf u) k) (KK κ (arrOf u) i)=false)∧∀i,q≤i→i<k→κ.blt (KK κ (arrOf u) k) (KK κ (arrOf u) i)=true) ?_ ?_
   ⟨rfl,0,k,rfl,yh _,xj _,by omega,fun i h=>absurd h (Aq i),fun i h h'=>absurd h' (by omega)⟩) ?_)
  ·rintro x _ _ h5 h6 ⟨rfl,p,q,rfl,pq,qk,qx,lo,hi⟩;dsimp only
   rcases zw p q with c | c
   ·rw[xm (by omega)];refine yp (To hc hk b' kl (by omega) ?_)
    rcases e:κ.blt (KK κ (arrOf _) k) (KK κ (arrOf _) ((p+q) / 2))with _ | _
    ·refine yP ⟨rfl,(p+q) / 2+1,q,rfl,by omega,qk,by omega,fun i h=>?_,hi⟩;exact ltF (r' i ((p+q) / 2) (by omega) (by omega)) e
    ·refine yP ⟨rfl,p,(p+q) / 2,rfl,by omega,by omega,by omega,lo,fun i h h'=>?_⟩
     rcases κ.negTrans _ (KK κ (arrOf _) i) _ e with z | z
     ·exact z
     ·rw[r' _ i h h']at z;cases z
   ·rw[xp c];obtain rfl:p=q:=by omega
    exact yP ⟨rfl,p,rfl,qk,lo,hi⟩
  ·rintro _ _ ⟨rfl,p,q,rfl,pq,qk,qx,lo,hi⟩;obtain rfl:p=q:=by omega
   exact⟨rfl,p,rfl,qk,lo,hi⟩
  ·rintro _ _ ⟨rfl,p,rfl,pk,lo,hi⟩;show wpS (model prog w) A E s (moveDown' k p >>= fun _=>pure (ForInStep.yield (none,()))) _ _;rw[moveDown'_eq];refine yp (wpS_modify (yP ⟨rfl,b'.put (bubble_perm _ _ _),?_⟩));rw[zO h4];intro i j hij hj;show κ.blt (KK κ (bubble (arrOf _) k (k-p)) j) (KK κ (bubble (arrOf _) k (k-p)) i)=false;have at_:∀i,KK κ (bubble (arrOf _) k (k-p)) i=if i=p then KK κ (arrOf _) k else if p<i∧i≤k then KK κ (arrOf _) (i-1)else KK κ (arrOf _) i:=fun i=>by
    rw[KK_bubble ks (Nat.sub_le _ _),show k-(k-p)=p by omega]
   rw[at_,at_]
   rcases Nat.lt_trichotomy j p with c | c | c
   ·rw[xm (by omega),xm (by omega),xm (by omega),xm (by omega)];exact r' i j hij (by omega)
   ·rw[xp c]
    rcases zw i p with d | d
    ·rw[xm (by omega),xm (by omega)];exact lo i d
    ·rw[xp (by omega)];exact κ.irrefl _
   ·rw[xm (by omega),xp (by omega)]
    rcases Nat.lt_trichotomy i p with d | d | d
    ·rw[xm (by omega),xm (by omega)];exact r' i (j-1) (by omega) (by omega)
    ·rw[xp d];exact ltA (hi (j-1) (by omega) (by omega))
    ·rw[xm (by omega),xp (by omega)];exact r' (i-1) (j-1) (by omega) (by omega)
 ·rintro _ u ⟨h,b',r'⟩;refine⟨h,b',?_⟩;rw[show min (max (max ok 1) n) n=n by omega]at r';exact r'
 ·rintro _ u ⟨rfl,b',r'⟩;exact yP (fin u b' r')
theorem p9{Q:Unit→SortSt→Prop}(hc:cA prog w A s κ kd)(hk:KeysOf κ xs0)(b:Sst kd xs0 st)(h2:2≤xs0.size)(h64:xs0.size<64)(fin:∀u,(arrOf u).Perm xs0→failedOf u=none→Rz κ (arrOf u) xs0.size→Q () u):wpS (model prog w) A E s sortRuns' Q st:=by
 have mr:minRun' xs0.size xs0.size 0=xs0.size:=by
  have e:∀f,minRun' (f+1) xs0.size 0=xs0.size:=fun f=>by rw[minRun'_succ,xp h64];rfl
  have:=e (xs0.size-1)
  rwa [show xs0.size-1+1=xs0.size by omega]at this
 rw[sortRuns'_eq];refine yp (wpS_get ?_);simp only[b.sz,mr];have done:∀{u:SortSt},Sst kd xs0 u→Rz κ (arrOf u) xs0.size→(arrOf (setPending u ((pendingOf u).push (0,xs0.size,0)))).Perm xs0∧failedOf (setPending u ((pendingOf u).push (0,xs0.size,0)))=none∧pendingOf (setPending u ((pendingOf u).push (0,xs0.size,0)))=#[(0,xs0.size,0)]∧Rz κ (arrOf (setPending u ((pendingOf u).push (0,xs0.size,0)))) xs0.size:=fun{u} b r=>⟨b.pm,b.fl,by show(pendingOf u).push _=_;rw[b.pd];rfl,r⟩;refine yp (wpS_mono (At (Q:=fun c u=>c=(none,xs0.size)∧(arrOf u).Perm xs0∧failedOf u=none∧pendingOf u=#[(0,xs0.size,0)]∧Rz κ (arrOf u) xs0.size)
  (fun x c u=>(x=0→c=(none,0)∧Sst kd xs0 u)∧(1≤x→c=(none,xs0.size)∧(arrOf u).Perm xs0∧failedOf u=none∧pendingOf u=#[(0,xs0.size,0)]∧Rz κ (arrOf u) xs0.size)) ?_ ?_ ⟨fun _=>⟨rfl,b⟩,fun h=>absurd h (by decide)⟩) ?_)
 ·rintro x c u _ hx ⟨g0,g1⟩;cases x with
  |succ x=>
   obtain⟨rfl,g2⟩:=g1 (by omega);dsimp only;rw[xp (xj _)];exact yP ⟨rfl,g2⟩
  |zero=>
   obtain⟨rfl,b'⟩:=g0 rfl;dsimp only;rw[xm (by omega)];simp only[Nat.min_self,Nat.zero_add,Nat.sub_zero];refine yp (ow hc hk (xj _) (by omega) b' fun l v bv l1 l2 r=>?_);dsimp only
   rcases zw l xs0.size with c | c
   ·rw[xp c];refine yp (m:=liftM (rule _)) (wpS_lift (zV ⟨rfl,?_⟩));refine yp (nQ hc hk (xj _) l2 bv r fun y b3 r3=>?_);rw[Bool.not_true,xm xw];refine yp (wpS_get ?_);rw[show(pendingOf y).back?=none by rw[b3.pd];rfl];exact yp (wpS_modify (yP ⟨fun h=>absurd h (by decide),fun _=>⟨rfl,done b3 r3⟩⟩))
   ·rw[xm (by omega)];obtain rfl:l=xs0.size:=by omega
    refine yp (wpS_get ?_);rw[show(pendingOf v).back?=none by rw[bv.pd];rfl];exact yp (wpS_modify (yP ⟨fun h=>absurd h (by decide),fun _=>⟨rfl,done bv r⟩⟩))
 ·rintro c u ⟨_,g1⟩;exact g1 (by omega)
 ·rintro _ u ⟨rfl,g1,g2,g3,g4⟩;dsimp only;refine yp (wpS_mono (At (Q:=fun c v=>v=u∧c=(none,())) (fun _ c v=>v=u∧c=(none,())) ?_ (fun _ _ h=>h) ⟨rfl,rfl⟩) ?_)
  ·rintro x _ _ _ _ ⟨rfl,rfl⟩;refine yp (wpS_get ?_);rw[xp (by rw[g3];exact xj 1)];exact yP ⟨rfl,rfl⟩
  ·rintro _ _ ⟨rfl,rfl⟩;exact yP (fin _ g1 g2 g4)
end
def aB:KeyOrd where
 α:=Int
 blt a b:=decide (a<b)
 irrefl a:=yk (Int.lt_irrefl a)
 trans a b c h g:=xB (Int.lt_trans (xy h) (xy g))
 negTrans a b c h:=by
  have h:=xy h
  rcases Int.lt_or_le a b with q | q
  ·exact .inl (xB q)
  ·exact .inr (xB (by omega))
 total a b h g:=by
  have h:=Ae h;have g:=Ae g;omega
def b8(O U:KeyOrd)(a b:O.α×U.α):Bool:=O.blt a.1 b.1 || (!O.blt b.1 a.1 && U.blt a.2 b.2)
theorem Yk{O U:KeyOrd}{a b:O.α×U.α}:b8 O U a b=true↔O.blt a.1 b.1=true∨(a.1=b.1∧U.blt a.2 b.2=true):=by
 unfold b8;constructor
 ·intro h
  rcases e:O.blt a.1 b.1 with _ | _
  ·rw[e,Bool.false_or,yu,Bool.not_eq_true']at h;exact .inr ⟨O.total _ _ e h.1,h.2⟩
  ·exact .inl rfl
 ·rintro(h | ⟨e,h⟩)
  ·rw[h,Bool.true_or]
  ·rw[e,O.irrefl,Bool.false_or,h];rfl
def bM(O U:KeyOrd):KeyOrd where
 α:=O.α×U.α
 blt:=b8 O U
 irrefl a:=by
  rcases e:b8 O U a a with _ | _
  ·rfl
  ·rcases Yk.mp e with h | ⟨_,h⟩
   ·rw[O.irrefl]at h;exact h.symm
   ·rw[U.irrefl]at h;exact h.symm
 trans a b c h g:=by
  rw[Yk]at *
  rcases h with h | ⟨e,h⟩
  ·rcases g with g | ⟨e',g⟩
   ·exact .inl (O.trans _ _ _ h g)
   ·exact .inl (e' ▸ h)
  ·rcases g with g | ⟨e',g⟩
   ·exact .inl (e ▸ g)
   ·exact .inr ⟨e.trans e',U.trans _ _ _ h g⟩
 negTrans a b c h:=by
  rw[Yk]at *;rw[Yk]
  rcases h with h | ⟨e,h⟩
  ·rcases O.negTrans _ b.1 _ h with q | q
   ·exact .inl (.inl q)
   ·exact .inr (.inl q)
  ·rcases e1:O.blt a.1 b.1 with _ | _
   ·rcases e2:O.blt b.1 a.1 with _ | _
    ·have ab:=O.total _ _ e1 e2
     rcases U.negTrans _ b.2 _ h with q | q
     ·exact .inl (.inr ⟨ab,q⟩)
     ·exact .inr (.inr ⟨ab.symm.trans e,q⟩)
    ·exact .inr (.inl (e ▸ e2))
   ·exact .inl (.inl rfl)
 total a b h g:=by
  have n1:∀{a b:O.α×U.α},b8 O U a b=false→O.blt a.1 b.1=false:=fun{a b} h=>by
   rcases e:O.blt a.1 b.1 with _ | _
   ·rfl
   ·rw[Yk.mpr (.inl e)]at h;exact h
  have e:=O.total _ _ (n1 h) (n1 g);have n2:∀{a b:O.α×U.α},a.1=b.1→b8 O U a b=false→U.blt a.2 b.2=false:=fun{a b} e h=>by
   rcases q:U.blt a.2 b.2 with _ | _
   ·rfl
   ·rw[Yk.mpr (.inr ⟨e,q⟩)]at h;exact h
  exact yT e (U.total _ _ (n2 e h) (n2 e.symm g))
def dk(O:KeyOrd)(R:Value→O.α→Prop)(d:O.α):KeyKind:={O with keyOf:=fun v=>open Classical in if h:∃a,R v a then some h.choose else none,dflt:=d}
theorem O9{O:KeyOrd}{R:Value→O.α→Prop}{d:O.α}{v:Value}{a:O.α}(h:(dk O R d).keyOf v=some a):R v a:=by
 unfold dk at h;simp only at h
 split at h
 ·rename_i q;cases h;exact q.choose_spec
 ·cases h
theorem iQ{O:KeyOrd}{R:Value→O.α→Prop}{d:O.α}{v:Value}{a:O.α}(h:R v a):∃b,(dk O R d).keyOf v=some b:=by
 refine⟨(⟨a,h⟩:∃a,R v a).choose,?_⟩;unfold dk;simp only;rw[dif_pos ⟨a,h⟩]
def eqO(O:KeyOrd)(a b:O.α):Bool:=!O.blt a b && !O.blt b a
theorem Tm{O:KeyOrd}{a b:O.α}:eqO O a b=true↔a=b:=by
 unfold eqO;constructor
 ·intro h;rw[yu,Bool.not_eq_true',Bool.not_eq_true']at h;exact O.total _ _ h.1 h.2
 ·rintro rfl;rw[O.irrefl];rfl
def cu(h h':Heap):Prop:=∀b o,h.get? b=some o→o.cls=.type "tuple"→h'.get? b=some o
structure El(prog:Program)(w:World)(O:KeyOrd)(R:Heap→Value→O.α→Prop)(T:String):Prop where
 mono:∀{h h':Heap}{v:Value}{a:O.α},cu h h'→R h v a→R h' v a
 fn:∀{h:Heap}{v:Value}{a b:O.α},R h v a→R h v b→a=b
 ty:∀{s:Shared}{v:Value}{a:O.α},R s.heap v a→s.TypeIs v T
 eq:∀{A:Around}{E:Value→Shared→Prop}{s:Shared}{u v:Value}{a b:O.α}{Q:Bool→Shared→Prop},A.units+8<cLine→R s.heap u a→R s.heap v b→Q (eqO O a b) s→wpAny (model prog w) A (eqBool u v) Q E s
 lt:∀{A:Around}{E:Value→Shared→Prop}{s:Shared}{u v:Value}{a b:O.α}{Q:Bool→Shared→Prop}(f:Bool),(f=true→T≠"tuple")→A.units+8<cLine→R s.heap u a→R s.heap v b→Q (O.blt a b) s→wpAny (model prog w) A (oneLt' f u v) Q E s
theorem eqI(a b:Int):(a==b)=eqO aB a b:=by
 rw[yE,beq_iff_eq];exact(Tm (O:=aB)).symm
def uj(_:Heap)(v:Value)(a:aB.α):Prop:=∃t,v=.int a t
theorem T5{prog:Program}{w:World}:El prog w aB uj "int" where
 mono _ h:=h
 fn h g:=by
  obtain⟨t,rfl⟩:=h;obtain⟨u,e⟩:=g;cases e;rfl
 ty h:=by
  obtain⟨t,rfl⟩:=h;exact typeIs_int _ _ _
 eq {A E s u v a b Q} _ h g q:=by
  obtain⟨t,rfl⟩:=h;obtain⟨u,rfl⟩:=g;refine wpAny_eqBool_int ?_;exact(eqI a b) ▸ q
 lt {A E s u v a b Q} f _ _ h g q:=by
  obtain⟨t,rfl⟩:=h;obtain⟨u,rfl⟩:=g;cases f with
  |true=>exact oneLt_int q
  |false=>
   rw[oneLt'_eq];rw[xm xw];exact io (wpAny_richCompare_same (op:=.Lt) (typeIs_int _ _ _) (typeIs_int _ _ _) slot_int_lt (call_int_lt ⟨(fun x=>nomatch x),yN q⟩))
def aU{O U:KeyOrd}(R:Heap→Value→O.α→Prop)(S:Heap→Value→U.α→Prop)(h:Heap)(v:Value)(a:O.α×U.α):Prop:=
 ∃c o n x y,v=.ref c∧h.get? c=some o∧o.cls=.type "tuple"∧o.data=.seq #[x,y] n∧R h x a.1∧S h y a.2
section
variable{prog:Program}{w:World}{O U:KeyOrd}{R:Heap→Value→O.α→Prop}{S:Heap→Value→U.α→Prop}{T V:String}
theorem Xv(e:El prog w O R T)(f:El prog w U S V){h h':Heap}{v:Value}{a:O.α×U.α}(st:cu h h')(p:aU R S h v a):aU R S h' v a:=by
 obtain⟨c,o,n,x,y,rfl,ho,hc,hd,h1,h2⟩:=p;exact⟨c,o,n,x,y,rfl,st _ _ ho hc,hc,hd,e.mono st h1,f.mono st h2⟩
theorem jg(e:El prog w O R T)(f:El prog w U S V){h:Heap}{v:Value}{a b:O.α×U.α}(p:aU R S h v a)(q:aU R S h v b):a=b:=by
 obtain⟨c,o,n,x,y,rfl,ho,hc,hd,h1,h2⟩:=p;obtain⟨c',o',n',x',y',e1,ho',hc',hd',g1,g2⟩:=q;cases e1;rw[ho]at ho';cases ho';rw[hd]at hd';cases hd';exact yT (e.fn h1 g1) (f.fn h2 g2)
theorem k_(b:Bool)(x y:Value):keyLt' (tuples' b) x y=(do
  let xs ←Builtin.List.listItems x
  let ys ←Builtin.List.listItems y
  for ((p,q),i) in (xs.toList.zip ys.toList).zipIdx do
   if !(←eqBool p q)then return ←oneLt' (b && i==0) p q
  return decide (xs.size<ys.size)):=rfl
theorem p7(e:El prog w O R T)(f:El prog w U S V){A:Around}{E:Value→Shared→Prop}{s:Shared}{x y:Value}{a b:O.α×U.α}{Q:Bool→Shared→Prop}(hu:A.units+8<cLine)(bb:Bool)(hb:bb=true→T≠"tuple")(ha:aU R S s.heap x a)(hb':aU R S s.heap y b)(q:Q (b8 O U a b) s):wpAny (model prog w) A (keyLt' (tuples' bb) x y) Q E s:=by
 obtain⟨c,o,n,x1,x2,rfl,ho,hc,hd,h1,h2⟩:=ha;obtain⟨c',o',n',y1,y2,rfl,ho',hc',hd',g1,g2⟩:=hb';rw[k_];refine io (listItems_at ho hd ?_);refine io (listItems_at ho' hd' ?_);show wpAny _ _ (forIn [((x1,y1),0),((x2,y2),1)] _ _ >>= _) _ _ s;rw[Ao];refine io (io (io (e.eq hu h1 g1 ?_)))
 rcases e1:eqO O a.1 b.1 with _ | _
 ·rw[Bool.not_false,xp rfl];have ne:a.1≠b.1:=fun z=>by rw[Tm.mpr z]at e1;cases e1
  have q:Q (O.blt a.1 b.1) s:=by
   have z:b8 O U a b=O.blt a.1 b.1:=by
    rw[yE,Yk];exact⟨fun h=>h.elim id fun h=>absurd h.1 ne,.inl⟩
   rw[z]at q;exact q
  exact io (e.lt _ (fun z=>hb (by rw[yu]at z;exact z.1)) hu h1 g1 (pi (pi (pi q))))
 ·rw[Bool.not_true,xm xw];have ea:=Tm.mp e1;refine pi ?_;show wpAny _ _ (forIn [((x2,y2),1)] _ _) _ _ s;rw[Ao];refine io (io (f.eq hu h2 g2 ?_))
  rcases e2:eqO U a.2 b.2 with _ | _
  ·rw[Bool.not_false,xp rfl];have q:Q (U.blt a.2 b.2) s:=by
    have z:b8 O U a b=U.blt a.2 b.2:=by
     rw[yE,Yk];constructor
     ·rintro(h | h)
      ·rw[ea,O.irrefl]at h;cases h
      ·exact h.2
     ·exact fun h=>.inr ⟨ea,h⟩
    rw[z]at q;exact q
   exact io (f.lt _ (fun z=>by rw[yu]at z;exact absurd z.2 (by decide)) hu h2 g2 (pi (pi (pi q))))
  ·rw[Bool.not_true,xm xw];have eb:=Tm.mp e2;have q:Q false s:=by
    have z:b8 O U a b=false:=by
     rcases y:b8 O U a b with _ | _
     ·rfl
     ·rcases Yk.mp y with h | h
      ·rw[ea,O.irrefl]at h;exact h.symm
      ·rw[eb,U.irrefl]at h;exact h.2.symm
    rw[z]at q;exact q
   refine pi ?_;show wpAny _ _ (forIn [] _ _) _ _ s;rw[List.forIn_nil];exact pi (pi q)
theorem n5(e:El prog w O R T)(f:El prog w U S V){A:Around}{s:Shared}(hu:A.units+8<cLine)(d:O.α×U.α)(bb:Bool)(hb:bb=true→T≠"tuple"):cA prog w A s (dk (bM O U) (aU R S s.heap) d) (tuples' bb):=
 fun E x y a b Q ha hb' q=>p7 e f hu bb hb (O9 ha) (O9 hb') q
theorem jY(a b:Int×Int):HT.lexLt [a.1,a.2] [b.1,b.2]=b8 aB aB a b:=by
 rw[yE];refine Iff.trans ?_ (Yk (O:=aB) (U:=aB) (a:=a) (b:=b)).symm;rw[HT.lexLt_cons,HT.lexLt_cons,HT.lexLt_nil_nil];show _↔decide (a.1<b.1)=true∨(a.1=b.1∧decide (a.2<b.2)=true);rw[zM,zM];by_cases c:a.1=b.1
 ·rw[xp c];by_cases c2:a.2=b.2
  ·rw[xp c2];exact⟨fun h=>(by cases h),fun h=>by omega⟩
  ·rw[xm c2,zM];exact⟨fun h=>.inr ⟨c,h⟩,fun h=>by omega⟩
 ·rw[xm c,zM];exact⟨.inl,fun h=>by omega⟩
def tN:Heap→Value→(bM aB aB).α→Prop:=aU uj uj
theorem Rc{h:Heap}{v:Value}{a:Int×Int}(p:tN h v a):∃c its,v=.ref c∧IsTup h c its∧IntsAre its.toList [a.1,a.2]:=by
 obtain⟨c,o,n,x,y,rfl,ho,hc,hd,⟨t,rfl⟩,⟨u,rfl⟩⟩:=p;exact⟨c,_,rfl,⟨o,ho,hc,n,hd⟩,.cons _ _ (.cons _ _ .nil)⟩
theorem ip{h:Heap}{v:Value}{a:Int×Int}(p:tN h v a):∃c,v=.ref c∧IsTupleKey (af prog w) h [.inl a.1,.inl a.2] c:=by
 obtain⟨c,o,n,x,y,rfl,ho,hc,hd,⟨t,rfl⟩,⟨u,rfl⟩⟩:=p;exact⟨c,rfl,o,_,n,ho,hc,hd,.cons (Wc prog w _ _) (.cons (Wc prog w _ _) .nil)⟩
theorem uf:El prog w (bM aB aB) tN "tuple" where
 mono st p:=Xv (prog:=prog) (w:=w) T5 T5 st p
 fn p q:=jg (prog:=prog) (w:=w) T5 T5 p q
 ty p:=by
  obtain⟨c,its,rfl,t,_⟩:=Rc p;exact t.typeIs
 eq {A E s u v a b Q} hu p p' q:=by
  obtain⟨c,rfl,k⟩:=ip (prog:=prog) (w:=w) p;obtain⟨c',rfl,k'⟩:=ip (prog:=prog) (w:=w) p';refine wpAny_eqBool_tuple (Ac (zk _ 8) hu) k k' ?_;have z:decide (([.inl a.1,.inl a.2]:List Key)=[.inl b.1,.inl b.2])=eqO (bM aB aB) a b:=by
   rw[yE,zM,Tm];constructor
   ·intro h;injection h with h1 h2
    injection h2 with h2 _
    exact yT (Sum.inl.inj h1) (Sum.inl.inj h2)
   ·rintro rfl;rfl
  rw[z];exact q
 lt {A E s u v a b Q} f hf hu p p' q:=by
  obtain⟨c,its,rfl,t,i⟩:=Rc p;obtain⟨c',its',rfl,t',i'⟩:=Rc p';cases f with
  |true=>exact absurd rfl (hf rfl)
  |false=>
   rw[oneLt'_eq];rw[xm xw];refine io (HT.lt_tupInts t t' i i' (Ac (zk _ 8) hu) (yN ?_));exact(jY a b) ▸ q
end
variable{prog:Program}{w:World}{A:Around}{E:Value→Shared→Prop}{s:Shared}
section
theorem Pw{M:Model}{β:Type}{f:Value→Sem β}(F:β→Prop):∀(vs:List Value),(∀v∈vs,∃y,F y∧∀Q:β→Shared→Prop,Q y s→wpAny M A (f v) Q E s)→∃ys:List β,ys.length=vs.length∧(∀y∈ys,F y)∧∀Q:List β→Shared→Prop,Q ys s→wpAny M A (vs.mapM f) Q E s
 | [],_=>⟨[],rfl,(fun _ h=>nomatch h),fun Q q=>by rw[List.mapM_nil];exact pi q⟩
 |v::vs,h=>by
  obtain⟨y,fy,hy⟩:=h v (.head _);obtain⟨ys,l,fys,hys⟩:=Pw F vs fun x hx=>h x (.tail _ hx);refine⟨y::ys,by rw[xD,xD,l],fun z hz=>?_,fun Q q=>?_⟩
  ·rcases xv.mp hz with e | e
   ·rw[e];exact fy
   ·exact fys z e
  ·rw[List.mapM_cons];exact io (hy _ (io (hys _ (pi q))))
theorem mR(v:Value):firstOfTuple' v=(do
  if (←typeOf v) != .type "tuple" then return none
  return (←Builtin.List.listItems v)[0]?):=rfl
variable{O U:KeyOrd}{R:Heap→Value→O.α→Prop}{S:Heap→Value→U.α→Prop}{T V:String}
theorem jV(e:El prog w O R T){vs:List Value}(h:∀v∈vs,∃a,aU R S s.heap v a)(hn:vs≠[]){Q:SortKind→Shared→Prop}(q:Q (tuples' (decide (T≠"tuple"))) s):wpAny (model prog w) A (keyKind' vs.toArray) Q E s:=by
 rw[keyKind'_eq,List.mapM_toArray];obtain⟨ys,yl,yf,hy⟩:=Pw (M:=model prog w) (A:=A) (E:=E) (s:=s) (f:=firstOfTuple') (fun y=>∃x,y=some x∧s.TypeIs x T) vs fun v hv=>by
  obtain⟨a,c,o,n,x,y,rfl,ho,hc,hd,h1,h2⟩:=h v hv;refine⟨some x,⟨x,rfl,e.ty h1⟩,fun Q q=>?_⟩;rw[mR];refine io (yW (T:="tuple") ⟨o,ho,hc⟩ ?_);rw[xm (by decide)];exact io (listItems_at ho hd (pi q))
 refine io (wpAny_map ?_);refine hy _ ?_;have al:ys.toArray.all (·.isSome)=true:=by
  rw[List.all_toArray,yL];intro y hy;obtain⟨x,rfl,_⟩:=yf y hy;rfl
 rw[xp al];refine io (zV ?_);rw[oneTypeOnly'_eq,List.filterMap_toArray,List.mapM_toArray];have ht:∀x∈ys.filterMap id,s.TypeIs x T:=fun x hx=>by
  obtain⟨y,hy,ey⟩:=yR.mp hx;obtain⟨x',rfl,t⟩:=yf y hy;cases (show x'=x from xK ey);exact t
 obtain⟨ts,tl,tf,htt⟩:=Pw (M:=model prog w) (A:=A) (E:=E) (s:=s) (f:=typeOf) (fun y=>y=.type T) (ys.filterMap id) fun v hv=>⟨_,rfl,fun Q q=>yW (ht v hv) q⟩;refine io (io (wpAny_map ?_));refine htt _ ?_;have fl:(ys.filterMap id).length=ys.length:=by
  clear hy al ht htt tl tf yl
  induction ys with
  |nil=>rfl
  |cons y ys ih=>
   obtain⟨x,rfl,_⟩:=yf y (.head _);rw[show List.filterMap id (some x::ys)=x::ys.filterMap id from rfl,xD,xD,ih fun z hz=>yf z (.tail _ hz)]
 cases ts with
 |nil=>
  rw[yF,fl,yl]at tl;exact absurd (List.eq_nil_of_length_eq_zero tl.symm) hn
 |cons t ts=>
  have t0:t=.type T:=tf t (.head _);subst t0;show wpAny _ _ (pure (if ((Value.type T::ts).toArray.all (· == Value.type T))=true then some (Value.type T)else none)) _ _ s;rw[xp (by
   rw[List.all_toArray,yL];intro y hy;rw[tf y hy];exact beq_self_eq_true _)]
  refine pi (pi ?_);have z:(some (Value.type T)).any (· != Value.type "tuple")=decide (T≠"tuple"):=by
   show(Value.type T != Value.type "tuple")=_;rw[yE,bne_iff_ne,zM];exact⟨fun h e=>h (by rw[e]),fun h e=>h (by injection e)⟩
  rw[z];exact q
def ux{O:KeyOrd}(R:Value→O.α→Prop)(vs:List Value):Prop:=vs.Pairwise fun x y=>∀a b,R x a→R y b→O.blt b a=false
theorem N5{vs:List Value}{p:Value×Value}(h:p∈vs.zip vs):p.1=p.2∧p.1∈vs:=mem_zip_self h
theorem gW{O:KeyOrd}{R:Value→O.α→Prop}(fn:∀{v a b},R v a→R v b→a=b){d:O.α}{vs:List Value}(hk:∀v∈vs,∃a,R v a){xs:Array Keyed}(pm:xs.Perm (pairsOf vs))(r:Rz (dk O R d) xs (pairsOf vs).size):
  (xs.map (·.2)).toList.Perm vs∧ux R (xs.map (·.2)).toList:=by
 have pl:xs.toList.Perm (vs.zip vs):=by rw[←pairsOf_toList];exact Array.perm_iff_toList_perm.mp pm
 have both:∀p∈xs.toList,p.1=p.2∧p.1∈vs:=fun p hp=>N5 (pl.mem_iff.mp hp);rw[Array.toList_map];constructor
 ·have q:=pl.map Prod.snd;rw[List.map_snd_zip (xj _)]at q;exact q
 ·unfold ux;rw[List.pairwise_iff_getElem];intro i j hi hj hij a b ha hb;rw[xh]at hi hj;have hi':i<xs.size:=by rw[←xF];exact hi
  have hj':j<xs.size:=by rw[←xF];exact hj
  have key:∀{k:Nat}(hk':k<xs.size){c:O.α},R xs[k].2 c→KK (dk O R d) xs k=c:=by
   intro k hk' c hc;have e:=(both xs[k] (Array.mem_toList_iff.mpr (Array.getElem_mem hk'))).1;rw[←e]at hc;obtain⟨c',h'⟩:=iQ (d:=d) hc;have:c'=c:=fn (O9 h') hc;unfold KK;rw[xC hk'];show((dk O R d).keyOf xs[k].1).getD _=c;rw[h',this];rfl
  rw[List.getElem_map,Array.getElem_toList]at ha hb;have q:=r i j (yV hij) (by rw[←pm.size_eq];exact hj');rw[key hi' ha,key hj' hb]at q;exact q
theorem dL{h:Heap}{l b:Addr}{g:Obj→Obj}{o1 o2:Obj}(lt:b<h.objs.size):(((h.update l g).push o1).push o2).get? b=(h.update l g).get? b:=by
 have l1:b<(h.update l g).objs.size:=by rw[Heap.size_update];exact lt
 rw[Heap.get?_push_ne _ _ _ (xx (by rw[size_push'];exact zD l1)),Heap.get?_push_ne _ _ _ (xx l1)]
theorem k9{h:Heap}{l:Addr}{vs:List Value}{n:Nat}(ho:h.get? l=some (seqObj "list" vs.toArray n))(o1 o2:Obj):cu h (((h.update l (Obj.mapSeq fun _=>#[])).push o1).push o2):=by
 intro b o hb hc;have ne:b≠l:=fun z=>by
  rw[z,ho]at hb;cases hb;exact absurd hc (by show ¬Value.type "list"=Value.type "tuple";intro z;injection z with z;exact absurd z (by decide))
 have lt:=xk hb;rw[dL lt,zX _ _ _ _ ne];exact hb
theorem gL(e:El prog w O R T)(f:El prog w U S V){l:Addr}{vs:List Value}{n:Nat}{P:Fin→Shared→Prop}(ho:s.heap.get? l=some (seqObj "list" vs.toArray n))(hk:∀v∈vs,∃a,aU R S s.heap v a)(h64:vs.length<64)(hu:A.units+8<cLine)(d:O.α×U.α)(fin:∀out:Array Value,out.toList.Perm vs→ux (O:=bM O U) (aU R S s.heap) out.toList→P (.done (.ret .none)) {s with heap:=sortedHeap s.heap l vs out}):wpAny (model prog w) A (Builtin.«list.sort» ⟨[.ref l],[]⟩) P E s:=by
 rw[list_sort_plain];refine io (listItems_at ho rfl ?_);refine io (listUpdate_at ho rfl ?_);obtain⟨e1,ho1⟩:∃m,(s.heap.update l (Obj.mapSeq fun _=>#[])).get? l=some (seqObj "list" #[] m):=⟨_,Af ho fun _=>#[]⟩;refine io (seqEpoch_at ho1 rfl ?_);refine io (wpAny_newTuple ?_);refine io (wpAny_newList ?_);refine xQ ?_;have ll:=xk ho;have ho2:(((s.heap.update l (Obj.mapSeq fun _=>#[])).push (seqObj "tuple" vs.toArray 0)).push (seqObj "list" #[] 0)).get? l=some (seqObj "list" #[] e1):=by
  rw[dL ll];exact ho1
 have st:=k9 ho (seqObj "tuple" vs.toArray 0) (seqObj "list" #[] 0);have hk':∀v∈vs,∃a,aU R S (((s.heap.update l (Obj.mapSeq fun _=>#[])).push (seqObj "tuple" vs.toArray 0)).push (seqObj "list" #[] 0)) v a:=fun v hv=>let ⟨a,h⟩:=hk v hv;⟨a,Xv e f st h⟩
 have back:∀{v a},v∈vs→aU R S s.heap v a→aU R S (((s.heap.update l (Obj.mapSeq fun _=>#[])).push (seqObj "tuple" vs.toArray 0)).push (seqObj "list" #[] 0)) v a:=fun _ h=>Xv e f st h;show wpAny (model prog w) A _ P E {s with heap:=((s.heap.update l (Obj.mapSeq fun _=>#[])).push (seqObj "tuple" vs.toArray 0)).push (seqObj "list" #[] 0)};dsimp only;have vsz:vs.toArray.size=vs.length:=xO;have finish:∀u:SortSt,(arrOf u).Perm (pairsOf vs)→failedOf u=none→Rz (dk (bM O U) (aU R S (((s.heap.update l (Obj.mapSeq fun _=>#[])).push (seqObj "tuple" vs.toArray 0)).push (seqObj "list" #[] 0))) d) (arrOf u) (pairsOf vs).size→
   P (.done (.ret .none)) {s with heap:=sortedHeap s.heap l vs ((arrOf u).map (·.2))}:=fun u pm _ r=>by
  obtain⟨p1,p2⟩:=gW (O:=bM O U) (R:=aU R S (((s.heap.update l (Obj.mapSeq fun _=>#[])).push (seqObj "tuple" vs.toArray 0)).push (seqObj "list" #[] 0))) (fun h g=>jg e f h g) hk' pm r;exact fin _ p1 (p2.imp_of_mem fun{x y} hx hy h a b ha hb=>h a b (back (p1.mem_iff.mp hx) ha) (back (p1.mem_iff.mp hy) hb))
 by_cases c:vs.toArray.size<2
 ·rw[xp c,xp c];refine io (pi ?_);rw[StateT.run_pure];refine io (pi ?_);dsimp only;refine io (seqEpoch_at ho2 rfl ?_);refine io (listUpdate_at ho2 rfl ?_ (hsz2:=by rw[Array.size_map];show(pairsOf vs).size≤_;rw[pairsOf_size];exact xZ (yV h64) (by decide)));rw[show(e1 != e1)=false from bne_self_eq_false e1];rw[xm xw];refine pi (finish (SortSt.mk' general' (vs.toArray.zip vs.toArray) #[] 7 none) (Array.Perm.refl _) rfl fun i j hij hj=>?_);obtain rfl:i=j:=by rw[pairsOf_size]at hj;omega
  exact(dk (bM O U) _ d).irrefl _
 ·rw[xm c,xm c];have vn:vs≠[]:=fun z=>by rw[z]at c;exact c (by decide)
  refine io (jV (O:=O) (U:=U) e hk' vn ?_);have hc:=n5 (A:=A) (s:={s with heap:=((s.heap.update l (Obj.mapSeq fun _=>#[])).push (seqObj "tuple" vs.toArray 0)).push (seqObj "list" #[] 0)}) e f hu d (decide (T≠"tuple")) (fun z=>xy z);refine io (yB (p9 (E:=E) (xs0:=pairsOf vs) (st:=SortSt.mk' (tuples' (decide (T≠"tuple"))) (vs.toArray.zip vs.toArray) #[] 7 none) (Q:=fun _ u=>(arrOf u).Perm (pairsOf vs)∧failedOf u=none∧Rz _ (arrOf u) (pairsOf vs).size) hc
   (fun p hp=>?_) ⟨Array.Perm.refl _,rfl,rfl,rfl⟩ (by rw[pairsOf_size];omega) (by rw[pairsOf_size];exact h64) fun u a1 a2 a3=>⟨a1,a2,a3⟩) ?_ fun _ _ z=>z)
  ·rw[pairsOf_toList]at hp;obtain⟨a,ha⟩:=hk' p.1 (N5 hp).2;exact iQ ha
  rintro⟨⟨⟩,u⟩ s2 ⟨rfl,pm,fl,r⟩;dsimp only;refine io (seqEpoch_at ho2 rfl ?_);refine io (listUpdate_at ho2 rfl ?_ (hsz2:=by rw[Array.size_map];exact xZ (Nat.le_of_eq (pm.size_eq.trans (pairsOf_size _))) (xZ (yV h64) (by decide))));rw[fl];rw[show(e1 != e1)=false from bne_self_eq_false e1];rw[xm xw];exact pi (finish u pm fl r)
end
section
variable{X:Cx}
theorem jG{as:List Addr}{out:List Value}(h:out.Perm (as.map Value.ref)):∃bs:List Addr,bs.Perm as∧out=bs.map Value.ref:=by
 let g:Value→Addr:=fun v=>match v with | .ref a=>a | _=>0
 refine⟨out.map g,?_,?_⟩
 ·have q:=h.map g;rw[yg]at q;rw[show(g∘Value.ref)=id from rfl,List.map_id]at q;exact q
 ·rw[yg];have e:∀l:List Value,(∀v∈l,∃a,v=.ref a)→l=l.map (Value.ref∘g):=fun l hl=>by
   induction l with
   |nil=>rfl
   |cons v l ih=>
    obtain⟨a,rfl⟩:=hl v (.head _);rw[xu,←ih fun x hx=>hl x (.tail _ hx)];rfl
  exact e out fun v hv=>by
   obtain⟨a,_,rfl⟩:=xI.mp (h.mem_iff.mp hv);exact⟨a,rfl⟩
theorem hO{Av:List (Addr×Obj)}{σ:St}{H:Hp}{s:Shared}{a:Addr}{x y:V}(I:Inv X Av σ H s)(h:H a=some (.tup [x,y])):∃o n u v,s.heap.get? a=some o∧o.cls=.type "tuple"∧o.data=.seq #[u,v] n∧RelV x u∧RelV y v:=by
 obtain⟨_,its,r,o,e1,e2,n,e3⟩:=(show ObjOk X.prog X.w H s.heap a (.tup [x,y])from I.hok a _ h);obtain⟨u,v,rfl,ru,rv⟩:=iI r;exact⟨o,n,u,v,e1,e2.1,e3,ru,rv⟩
def FII(H:Hp)(a:Addr)(k:(bM aB aB).α):Prop:=∃(i j:Int),H a=some (.tup [.int i,.int j])∧k=(i,j)
def FTI(H:Hp)(a:Addr)(k:(bM (bM aB aB) aB).α):Prop:=∃(b:Addr)(i j n:Int),H a=some (.tup [.ref b,.int n])∧H b=some (.tup [.int i,.int j])∧k=((i,j),n)
end
def RwD(h:Heap)(d:Addr)(es:Array DictEntry)(ep:Nat):Prop:=∃o,h.get? d=some o∧o.ExactDict∧o.data=.dict es ep
theorem RwD.typeIs{s:Shared}{d:Addr}{es:Array DictEntry}{ep:Nat}(x:RwD s.heap d es ep):s.TypeIs (.ref d) "dict":=let ⟨o,h,c,_⟩:=x;⟨o,h,c.1⟩
theorem RwD.at{h g:Heap}{d:Addr}{es:Array DictEntry}{ep:Nat}(x:RwD h d es ep)(k:∀o,h.get? d=some o→g.get? d=some o):RwD g d es ep:=let ⟨o,h,r⟩:=x;⟨o,k _ h,r⟩
theorem RwD.lt{h:Heap}{d:Addr}{es:Array DictEntry}{ep:Nat}(x:RwD h d es ep):d<h.objs.size:=let ⟨_,h,_⟩:=x;xk h
theorem Vr:Builtin.Dict_items.ownsTuple "dict_keyiterator"=false∧Builtin.Dict_items.ownsTuple "dict_valueiterator"=false∧Builtin.Dict_items.ownsTuple "dict_itemiterator"=true:=by decide
theorem Ww(d:Addr):¬((Value.ref d==Value.none)=true):=xw
section
variable{prog:Program}{w:World}{A:Around}{E:Value→Shared→Prop}{s:Shared}{it d:Addr}{i ep:Nat}{es:Array DictEntry}
theorem bP{α β:Type}{M:Model}{a:α}{k:α→Sem β}{Q:β→Shared→Prop}(h:wpAny M A (k a) Q E s):wpAny M A (pure a >>= k) Q E s:=io (pi h)
theorem U8{T id:String}{B:Builtin}{Q:Option Value→Shared→Prop}(ty:s.TypeIs (.ref it) T)(sl:Slot T (Str.ofString "__next__") id)(en:entryFor table id=some B)(ar:argsOk id {pos:=[.ref it]})(h:wpAny (model prog w) A.in1 (B ⟨[.ref it],[]⟩) (fun fin s'=>∃v,fin=.done (.ret v)∧Q (some v) s') (fun e s'=>s'.TypeIs e "StopIteration"∧Q none s') s):wpAny (model prog w) A (pyNext (.ref it)) Q E s:=by
 unfold pyNext;refine io (wpAny_attempt (wpAny_callSpecial?_slotG ty sl.toG (yB (yt sl ty en (Q:=fun v s'=>Q (some v) s') h ar) (fun v s' q=>pi q) (fun e s' q=>?_))));exact io (An q.1 isSubtype_stop (by rw[xp rfl];exact pi q.2))
theorem jz{Q:Option Value→Shared→Prop}(zi:s.heap.IsKeyIter it d i es.size ep)(zm:RwD s.heap d es ep)(zx:i<es.size)(zq:∀g:Heap,g.IsKeyIter it d (i+1) es.size ep→Heap.SameBut it s.heap g→Q (some es[i].key) {s with heap:=g}):wpAny (model prog w) A (pyNext (.ref it)) Q E s:=by
 obtain⟨o,go,co,fo⟩:=id zi;obtain⟨od,yo,_,yd⟩:=zm;refine U8 zi.typeIs PySem.F.slot_dict_keyiterator_next PySem.F.entry_dict_keyiterator_next (PySem.F.args_dict_keyiterator_next_1 _) (bP (io (io (io (zz zi.typeIs (pi (io (z8 go fo ?_))))))));simp only[Vr.1,Bool.false_eq_true,if_false];show wpAny (model prog w) _ (if (Value.ref d==Value.none)=true then _ else _) _ _ s;rw[xm (Ww d)];refine bP (io (xU yo yd ?_));rw[if_neg (by simp)];refine bP (wpAny_bind (wpAny_dictEpoch yo yd ?_));rw[if_neg (by simp)];refine wpAny_pure ?_;simp only[show ¬((i:Int)<0)from by omega,if_false,Int.toNat_natCast,Array.getElem?_eq_getElem zx];refine io (io (zz zi.typeIs (pi (io (wpAny_isOneOf_keyiter zi.typeIs ?_)))));show wpAny _ _ (setField (.ref it) 1 (rawInt ((i:Int)+1)) >>= fun _=>_) _ _ s;refine wpAny_bind (wpAny_setField go fo (by simp) ?_);have zj:(s.heap.update it (Obj.mapFields (·.setIfInBounds 1 (rawInt ((i:Int)+1))))).IsKeyIter it d (i+1) es.size ep:=⟨_,Heap.get?_update_self _ go (Obj.isFreed_of_fields (Obj.data_mapFields fo _)),(Obj.cls_mapFields ..).trans co,by rw[Obj.data_mapFields fo];simp[rawInt]⟩;have ty:Shared.TypeIs {s with heap:=s.heap.update it (Obj.mapFields (·.setIfInBounds 1 (rawInt ((i:Int)+1))))} (.ref it) "dict_keyiterator":=zj.typeIs;refine io (xQ (io (wpAny_isOneOf_keyiter ty ?_)));show wpAny _ _ (pure es[i].key) _ _ {s with heap:=_};exact pi (pi ⟨_,rfl,zq _ zj (zH ..)⟩)
theorem ik{Q:Option Value→Shared→Prop}(zh:A.handled=none)(zi:s.heap.IsKeyIter it d i es.size ep)(zm:RwD s.heap d es ep)(zx:es.size≤i)(zq:∀g:Heap,Heap.ExtBut it s.heap g→Q none {s with heap:=g}):wpAny (model prog w) A (pyNext (.ref it)) Q E s:=by
 obtain⟨o,go,co,fo⟩:=id zi;obtain⟨od,yo,_,yd⟩:=zm;refine U8 zi.typeIs PySem.F.slot_dict_keyiterator_next PySem.F.entry_dict_keyiterator_next (PySem.F.args_dict_keyiterator_next_1 _) (bP (io (io (io (zz zi.typeIs (pi (io (z8 go fo ?_))))))));simp only[Vr.1,Bool.false_eq_true,if_false];show wpAny (model prog w) _ (if (Value.ref d==Value.none)=true then _ else _) _ _ s;rw[xm (Ww d)];refine bP (io (xU yo yd ?_));rw[if_neg (by simp)];refine bP (wpAny_bind (wpAny_dictEpoch yo yd ?_));rw[if_neg (by simp)];refine wpAny_pure ?_;simp only[show ¬((i:Int)<0)from by omega,if_false,Int.toNat_natCast,Array.getElem?_eq_none zx];refine io (io (zz zi.typeIs (pi ?_)));show wpAny _ _ (setField (.ref it) 0 .none >>= fun _=>_) _ _ s;refine wpAny_bind (wpAny_setField go fo (by simp) (Xa (by simpa using zh) fun g e k ty=>⟨ty,zq g fun b u nb eb=>k b u ?_⟩));exact(yC _ _ (Ne.symm nb)).trans eb
theorem oN{Q:Option Value→Shared→Prop}(zi:s.heap.IsValIter it d i es.size ep)(zm:RwD s.heap d es ep)(zx:i<es.size)(zq:∀g:Heap,g.IsValIter it d (i+1) es.size ep→Heap.SameBut it s.heap g→Q (some es[i].val) {s with heap:=g}):wpAny (model prog w) A (pyNext (.ref it)) Q E s:=by
 obtain⟨o,go,co,fo⟩:=id zi;obtain⟨od,yo,_,yd⟩:=zm;refine U8 zi.typeIs PySem.F.slot_dict_valueiterator_next PySem.F.entry_dict_valueiterator_next (PySem.F.args_dict_valueiterator_next_1 _) (bP (io (io (io (zA zi.typeIs (pi (io (z8 go fo ?_))))))));simp only[Vr.2.1,Bool.false_eq_true,if_false];show wpAny (model prog w) _ (if (Value.ref d==Value.none)=true then _ else _) _ _ s;rw[xm (Ww d)];refine bP (io (xU yo yd ?_));rw[if_neg (by simp)];refine bP (wpAny_bind (wpAny_dictEpoch yo yd ?_));rw[if_neg (by simp)];refine wpAny_pure ?_;simp only[show ¬((i:Int)<0)from by omega,if_false,Int.toNat_natCast,Array.getElem?_eq_getElem zx];refine io (io (zA zi.typeIs (pi (io (wpAny_isOneOf_valiter zi.typeIs ?_)))));show wpAny _ _ (setField (.ref it) 1 (rawInt ((i:Int)+1)) >>= fun _=>_) _ _ s;refine wpAny_bind (wpAny_setField go fo (by simp) ?_);have zj:(s.heap.update it (Obj.mapFields (·.setIfInBounds 1 (rawInt ((i:Int)+1))))).IsValIter it d (i+1) es.size ep:=⟨_,Heap.get?_update_self _ go (Obj.isFreed_of_fields (Obj.data_mapFields fo _)),(Obj.cls_mapFields ..).trans co,by rw[Obj.data_mapFields fo];simp[rawInt]⟩;have ty:Shared.TypeIs {s with heap:=s.heap.update it (Obj.mapFields (·.setIfInBounds 1 (rawInt ((i:Int)+1))))} (.ref it) "dict_valueiterator":=zj.typeIs;refine io (xQ (io (wpAny_isOneOf_valiter ty ?_)));refine io (wpAny_isOneOf_valiter ty ?_);show wpAny _ _ (pure es[i].val) _ _ {s with heap:=_};exact pi (pi ⟨_,rfl,zq _ zj (zH ..)⟩)
theorem pZ{Q:Option Value→Shared→Prop}(zh:A.handled=none)(zi:s.heap.IsValIter it d i es.size ep)(zm:RwD s.heap d es ep)(zx:es.size≤i)(zq:∀g:Heap,Heap.ExtBut it s.heap g→Q none {s with heap:=g}):wpAny (model prog w) A (pyNext (.ref it)) Q E s:=by
 obtain⟨o,go,co,fo⟩:=id zi;obtain⟨od,yo,_,yd⟩:=zm;refine U8 zi.typeIs PySem.F.slot_dict_valueiterator_next PySem.F.entry_dict_valueiterator_next (PySem.F.args_dict_valueiterator_next_1 _) (bP (io (io (io (zA zi.typeIs (pi (io (z8 go fo ?_))))))));simp only[Vr.2.1,Bool.false_eq_true,if_false];show wpAny (model prog w) _ (if (Value.ref d==Value.none)=true then _ else _) _ _ s;rw[xm (Ww d)];refine bP (io (xU yo yd ?_));rw[if_neg (by simp)];refine bP (wpAny_bind (wpAny_dictEpoch yo yd ?_));rw[if_neg (by simp)];refine wpAny_pure ?_;simp only[show ¬((i:Int)<0)from by omega,if_false,Int.toNat_natCast,Array.getElem?_eq_none zx];refine io (io (zA zi.typeIs (pi ?_)));show wpAny _ _ (setField (.ref it) 0 .none >>= fun _=>_) _ _ s;refine wpAny_bind (wpAny_setField go fo (by simp) (Xa (by simpa using zh) fun g e k ty=>⟨ty,zq g fun b u nb eb=>k b u ?_⟩));exact(yC _ _ (Ne.symm nb)).trans eb
theorem jh{Q:Value→Shared→Prop}(lo:(d==sysModules)=false)(zm:RwD s.heap d es ep)(zq:Q (.ref s.heap.objs.size) {s with heap:=s.heap.push {cls:=.type "dict_keyiterator",data:=.fields #[.ref d,.int 0 0,.int es.size 0,.int ep 0]}}):wpAny (model prog w) A (pyIter (.ref d)) Q E s:=by
 obtain⟨o,yo,_,yd⟩:=id zm;refine Al zm.typeIs PySem.F.slot_dict_iter (yt PySem.F.slot_dict_iter zm.typeIs PySem.F.entry_dict_iter (io (io (yO zm.typeIs ?_))) (PySem.F.args_dict_iter_1 _));show wpAny (model prog w) _ (pure (Value.ref d)) _ _ s;refine pi (show wpAny (model prog w) _ (Builtin.Dict.showsAll d >>= fun _=>_) _ _ s from io ?_);unfold Builtin.Dict.showsAll;rw[lo,xm (by decide)];refine pi (io (xU yo yd (io (Ar yo yd (io (xT (pi ⟨_,rfl,"dict_keyiterator",_,⟨_,xt _ rfl,rfl⟩,PySem.F.slot_dict_keyiterator_next.lookup,?_⟩)))))));simpa [rawInt] using zq
theorem ph{v:Addr}{Q:Value→Shared→Prop}(zv:s.heap.IsValuesView v d)(zm:RwD s.heap d es ep)(zq:Q (.ref s.heap.objs.size) {s with heap:=s.heap.push {cls:=.type "dict_valueiterator",data:=.fields #[.ref d,.int 0 0,.int es.size 0,.int ep 0]}}):wpAny (model prog w) A (pyIter (.ref v)) Q E s:=by
 obtain⟨ov,vo,_,vd⟩:=id zv;obtain⟨o,yo,_,yd⟩:=id zm;refine Al zv.typeIs PySem.F.slot_dict_values_iter (yt PySem.F.slot_dict_values_iter zv.typeIs PySem.F.entry_dict_values_iter (bP (io (io (zK vo vd (x:=.ref d) rfl (pi (io ?_)))))) (PySem.F.args_dict_values_iter_1 _));unfold Builtin.Dict_items.newIterator;skip;refine io (xU yo yd (io (Ar yo yd ?_)));simp only[Vr.2.1,Bool.false_eq_true,if_false];refine wpAny_newObj_type (wpAny_pure ⟨_,rfl,"dict_valueiterator",_,⟨_,Heap.get?_push_size _ rfl,rfl⟩,PySem.F.slot_dict_valueiterator_next.lookup,by simpa [rawInt] using zq⟩)
theorem mN(zh:A.handled=none)(I d:Addr)(ne:d≠I)(es:Array DictEntry)(ep:Nat):Walks prog w A I [I,d] [I] es.size (fun i v=>∃e,es[i]?=some e∧v=e.key) (fun i h=>h.IsKeyIter I d i es.size ep∧RwD h d es ep) where
 sub:=fun b zb=>by rw[xq.mp zb];exact .head _
 frame:=fun _ _ _ st k=>⟨st.1.at fun o e=>k I (.head _) o e,st.2.at fun o e=>k d (.tail _ (.head _)) o e⟩
 item:=fun i s Q E zi st q=>jz st.1 st.2 zi fun g z sb=>q _ g s.toks ⟨_,xC zi,rfl⟩ ⟨z,st.2.at fun o e=>sb.extBut d o ne e⟩ fun b o nb e=>sb.extBut b o (fun z=>nb (by rw[z];exact .head _)) e
 done:=fun s Q E st q=>ik zh st.1 st.2 (xj _) fun g x=>q g s.toks fun b o nb e=>x b o (fun z=>nb (by rw[z];exact .head _)) e
 self:=fun _ _ _ _ st q=>wpAny_pyIter_keyiter st.1 q
theorem mD(zh:A.handled=none)(I d:Addr)(ne:d≠I)(es:Array DictEntry)(ep:Nat):Walks prog w A I [I,d] [I] es.size (fun i v=>∃e,es[i]?=some e∧v=e.val) (fun i h=>h.IsValIter I d i es.size ep∧RwD h d es ep) where
 sub:=fun b zb=>by rw[xq.mp zb];exact .head _
 frame:=fun _ _ _ st k=>⟨st.1.at fun o e=>k I (.head _) o e,st.2.at fun o e=>k d (.tail _ (.head _)) o e⟩
 item:=fun i s Q E zi st q=>oN st.1 st.2 zi fun g z sb=>q _ g s.toks ⟨_,xC zi,rfl⟩ ⟨z,st.2.at fun o e=>sb.extBut d o ne e⟩ fun b o nb e=>sb.extBut b o (fun z=>nb (by rw[z];exact .head _)) e
 done:=fun s Q E st q=>pZ zh st.1 st.2 (xj _) fun g x=>q g s.toks fun b o nb e=>x b o (fun z=>nb (by rw[z];exact .head _)) e
 self:=fun _ _ _ _ st q=>wpAny_pyIter_valiter st.1 q
theorem tU(lo:(d==sysModules)=false):W.KdlSrc prog w "dict" d d es.size (fun i v=>∃e,es[i]?=some e∧v=e.key) (fun h=>RwD h d es ep) where
 type:=fun _ z=>z.typeIs
 there:=fun _ z=>⟨z.lt,z.lt⟩
 keep:=fun _ _ z k=>z.at fun o e=>k d (.inl rfl) o e
 notList:=by decide
 notTuple:=by decide
 hint:=fun _ _ _ _ z q=>W.kdl_hint_dict z.typeIs q
 iter:=fun _ _ zh z=>⟨_,_,(fun _ _ q=>jh lo z q),mN zh _ d (xx z.lt) es ep,⟨⟨_,xt _ rfl,rfl,rfl⟩,z.at fun o e=>xi _ e⟩⟩
theorem uy{r:Addr}:W.KdlSrc prog w "dict_values" r d es.size (fun i v=>∃e,es[i]?=some e∧v=e.val) (fun h=>h.IsValuesView r d∧RwD h d es ep) where
 type:=fun _ z=>z.1.typeIs
 there:=fun _ z=>⟨let ⟨_,e,_⟩:=z.1;xk e,z.2.lt⟩
 keep:=fun _ _ z k=>⟨let ⟨o,e,x⟩:=z.1;⟨o,k r (.inl rfl) o e,x⟩,z.2.at fun o e=>k d (.inr rfl) o e⟩
 notList:=by decide
 notTuple:=by decide
 hint:=fun _ _ _ _ z q=>W.kdl_hint_values z.1.typeIs q
 iter:=fun _ _ zh z=>⟨_,_,(fun _ _ q=>ph z.1 z.2 q),mD zh _ d (xx z.2.lt) es ep,⟨⟨_,xt _ rfl,rfl,rfl⟩,z.2.at fun o e=>xi _ e⟩⟩
theorem Nd{f:DictEntry→Value}{xs:Array Value}(h:ItemsOf (fun i v=>∃e,es[i]?=some e∧v=f e) xs es.size):xs.toList=es.toList.map f:=by
 obtain⟨sz,at_⟩:=h;refine List.ext_getElem? fun j=>?_;rw[yq,xE,yq];by_cases hj:j<xs.size
 ·obtain⟨e,h1,h2⟩:=at_ j xs[j] (xC hj);rw[xC hj,h1,h2];rfl
 ·rw[yX (by omega),yX (by omega)];rfl
end
abbrev Sps:=List ((Int×Int)×Int)
def kk(p:Int×Int):List Key:=[.inl p.1,.inl p.2]
def aj(ps:Sps):List (List Key×V):=ps.map fun p=>(kk p.1,.int p.2)
theorem S5{p q:Int×Int}(e:kk p=kk q):p=q:=by
 unfold kk at e;injection e with e1 e2
 injection e2 with e2 _
 exact yT (Sum.inl.inj e1) (Sum.inl.inj e2)
theorem Yp(ps:Sps):(aj ps).length=ps.length:=xh _
theorem Qy(ps:Sps):(aj ps).map (·.1)=(ps.map (·.1)).map kk:=by
 unfold aj;rw[yg,yg];rfl
def KsAt(H:Hp):List Addr→List (Int×Int)→Prop:=Paired fun b k=>H b=some (.tup [.int k.1,.int k.2])
theorem KsAt.mono{H H':Hp}{bs:List Addr}{ks:List (Int×Int)}(h:KsAt H bs ks)(g:∀b xs,H b=some (.tup xs)→H' b=some (.tup xs)):KsAt H' bs ks:=Paired.mapP h fun _ _ e=>g _ _ e
def leK(a b:Int×Int):Bool:=decide (a.1<b.1) || (decide (a.1=b.1) && decide (a.2≤b.2))
theorem Xs{a b:Int×Int}:leK a b=true↔a.1<b.1∨(a.1=b.1∧a.2≤b.2):=by
 unfold leK;simp only[Bool.or_eq_true,Bool.and_eq_true,decide_eq_true_iff]
theorem kZ(a b:Int×Int):(leK a b || leK b a)=true:=by
 rw[Bool.or_eq_true,Xs,Xs];omega
theorem kX(a b c:Int×Int)(h1:leK a b=true)(h2:leK b c=true):leK a c=true:=by
 rw[Xs]at *;omega
theorem mL{a b:Int×Int}(h1:leK a b=true)(h2:leK b a=true):a=b:=by
 rw[Xs]at h1 h2;exact yT (by omega) (by omega)
def dm(ks:List (Int×Int)):List (Int×Int):=ks.mergeSort leK
theorem Wq(ks:List (Int×Int)):(dm ks).Perm ks:=List.mergeSort_perm _ _
theorem O2(ks:List (Int×Int)):(dm ks).Pairwise (fun a b=>leK a b=true):=List.pairwise_mergeSort kX kZ ks
theorem Nj:∀{l m:List (Int×Int)},l.Perm m→l.Pairwise (fun a b=>leK a b=true)→m.Pairwise (fun a b=>leK a b=true)→l=m
 | [],m,p,_,_=>List.Perm.nil_eq p
 |a::l,[],p,_,_=>absurd p.length_eq (by simp)
 |a::l,b::m,p,h1,h2=>by
  have e:a=b:=by
   rcases xv.mp (p.mem_iff.mp xP)with q | q
   ·exact q
   ·rcases xv.mp (p.mem_iff.mpr xP)with r | r
    ·exact r.symm
    ·exact mL ((xR.mp h1).1 b r) ((xR.mp h2).1 a q)
  subst e;rw[Nj ((List.perm_cons a).mp p) (xR.mp h1).2 (xR.mp h2).2]
theorem lc{H:Hp}{as bs:List Addr}{ks:List (Int×Int)}(h:KsAt H as ks)(p:bs.Perm as)(pw:bs.Pairwise fun a b=>∀k l,FII H a k→FII H b l→(bM aB aB).blt l k=false):KsAt H bs (dm ks):=by
 let key:Addr→Int×Int:=fun b=>match H b with
  |some (.tup [.int i,.int j])=>(i,j)
  |_=>(0,0)
 have kat:∀{b:Addr}{k:Int×Int},H b=some (.tup [.int k.1,.int k.2])→key b=k:=fun{b k} e=>by
  show(match H b with | some (.tup [.int i,.int j])=>(i,j) | _=>(0,0))=k;rw[e]
 have all:∀{l:List Addr}{m:List (Int×Int)},KsAt H l m→l.map key=m∧∀b∈l,H b=some (.tup [.int (key b).1,.int (key b).2]):=fun{l m} r=>by
  induction r with
  |nil=>exact⟨rfl,fun _ h=>nomatch h⟩
  | @cons b k l m e _ ih=>
   have kb:=kat e;refine⟨by rw[xu,kb,ih.1],fun c hc=>?_⟩
   rcases xv.mp hc with rfl | hc
   ·rw[kb];exact e
   ·exact ih.2 c hc
 obtain⟨e1,e2⟩:=all h;have atb:∀b∈bs,H b=some (.tup [.int (key b).1,.int (key b).2]):=fun b hb=>e2 b (p.mem_iff.mp hb);have back:∀{l:List Addr},(∀b∈l,H b=some (.tup [.int (key b).1,.int (key b).2]))→KsAt H l (l.map key):=fun{l} hl=>by
  induction l with
  |nil=>exact .nil
  |cons b l ih=>exact .cons (hl b (.head _)) (ih fun c hc=>hl c (.tail _ hc))
 have eq:bs.map key=dm ks:=by
  refine Nj ((p.map key).trans (by rw[e1];exact(Wq ks).symm)) (yY.mpr (pw.imp_of_mem fun{a b} ha hb q=>?_)) (O2 ks);have q:=q (key a) (key b) ⟨_,_,atb a ha,rfl⟩ ⟨_,_,atb b hb,rfl⟩;rw[Xs];by_cases c:(key a).1<(key b).1
  ·exact .inl c
  ·by_cases c2:(key b).1<(key a).1
   ·exact absurd (Yk (O:=aB) (U:=aB) (a:=key b) (b:=key a) |>.mpr (.inl (xB c2))) (by rw[show b8 aB aB (key b) (key a)=false from q];decide)
   ·have e:(key b).1=(key a).1:=by omega
    by_cases c3:(key b).2<(key a).2
    ·exact absurd (Yk (O:=aB) (U:=aB) (a:=key b) (b:=key a) |>.mpr (.inr ⟨e,xB c3⟩)) (by rw[show b8 aB aB (key b) (key a)=false from q];decide)
    ·exact .inr ⟨e.symm,by omega⟩
 rw[←eq];exact back atb
section
variable{X:Cx}
theorem P4{O U:KeyOrd}{R:Heap→Value→O.α→Prop}{S:Heap→Value→U.α→Prop}{T W:String}(e:El X.prog X.w O R T)(f:El X.prog X.w U S W)(F:Hp→Addr→(bM O U).α→Prop)(br:∀{Av:List (Addr×Obj)} {σ:St} {H:Hp} {s:Shared} {a:Addr} {k:O.α×U.α},Inv X Av σ H s→F H a k→aU R S s.heap (.ref a) k)(d:O.α×U.α)(hu:X.A.units+64<cLine){Av:List (Addr×Obj)}{s:Shared}{σ:St}{p:Addr}{Q:VK}(src:∀{E:Value→Shared→Prop} {C:List Value→Shared→Prop},(∀(g:Heap) (tk:Nat) (H:Hp) (as:List Addr),Inv X Av σ H {s with heap:=g,toks:=tk}→as.length<64→(∀a∈as,∃k,F H a k)→
   (∀bs:List Addr,bs.Perm as→(bs.Pairwise fun a b=>∀k l,F H a k→F H b l→(bM O U).blt l k=false)→∀q,H q=none→Q (.ref q) (upd H q (.lst (bs.map V.ref))))→C (as.map Value.ref) {s with heap:=g,toks:=tk})→wpAny (model X.prog X.w) X.A.in1 (collect (.ref p)) C E s):
  wpAny (model X.prog X.w) X.A (call (.builtin "sorted") [.ref p]) (EP X Av σ Q) X.xe s:=by
 refine Calls.call_function_entry kind_sorted plain_sorted entry_sorted (args_sorted1 _) ?_;unfold Builtin.«sorted»;refine io (m:=checkCount "sorted" 1 1 _) (pi (io (src fun g tk H as I h64 hk q=>io (wpAny_newList ?_ (by rw[xh];exact Zq (by omega))))));have hoL:(g.push (seqObj "list" (as.map Value.ref).toArray 0)).get? g.objs.size=some (seqObj "list" (as.map Value.ref).toArray 0):=xt _ rfl;have st:cu g (g.push (seqObj "list" (as.map Value.ref).toArray 0)):=fun b ob e _=>xi _ e;refine io (xQ (yt slot_list_sort ⟨_,hoL,rfl⟩ entry_list_sort (gL e f hoL (fun v hv=>?_) (by rw[xh];exact h64) (by show X.A.units+1+1+8<_;omega) d fun out op os=>⟨_,rfl,?_⟩) (args_list_sort _)))
 ·obtain⟨a,ha,rfl⟩:=xI.mp hv;obtain⟨k,fk⟩:=hk a ha;exact⟨k,Xv e f st (br I fk)⟩
 refine pi ⟨_,rfl,?_⟩;obtain⟨bs,bp,be⟩:=jG op;obtain⟨e2,he2⟩:=sortedHeap_at (vs:=as.map Value.ref) (out:=out) hoL;refine⟨.ref g.objs.size,_,I.laid (t':=tk) (o:=.lst (bs.map V.ref)) (fun b ob e=>?_) (xj _) ?_,rfl,q bs bp ?_ _ (I.hok.fresh (xj _))⟩
 ·have AA:=xk e;rw[sortedHeap_old (xx AA) (by rw[size_push'];exact zD AA)];exact xi _ e
 ·refine⟨by rw[xh,bp.length_eq];exact Zq (by omega),bs.map Value.ref,e2,P6 bs,?_⟩;rw[←be,Array.toArray_toList];exact he2
 ·rw[be]at os;exact(yY.mp os).imp_of_mem fun{a b} ha hb h k l fk fl=>h k l (Xv e f st (br I fk)) (Xv e f st (br I fl))
theorem T6{P:Program}{w:World}{H:Hp}{h:Heap}{d:Addr}{kvs:List (List Key×V)}(ok:HOk P w H h)(e:Rd H d (.dT kvs)):kvs.length≤sizeLine∧(d==sysModules)=false∧∃(xs:List (List Key×Addr×Value))(es:Array DictEntry)(ep:Nat),KT H kvs xs∧RwD h d es ep∧
  es.toList.map DictEntry.key=(xs.map fun x=>x.2.1).map Value.ref∧es.toList.map DictEntry.val=xs.map (fun x=>x.2.2)∧es.size=kvs.length:=by
 obtain⟨z,lo,xs,r,o,es,ep,h1,h2,h3,h4,_⟩:=(show ObjOk P w H h d (.dT kvs)from mS ok e);refine⟨z,lo,xs,es,ep,r,⟨o,h1,h2,h3⟩,?_,?_,?_⟩
 ·rw[h4,yg,yg];rfl
 ·rw[h4,yg];rfl
 ·rw[←xF,h4,xh,←xG r]
theorem rP{H:Hp}:∀{ps:Sps}{xs:List (List Key×Addr×Value)},KT H (aj ps) xs→KsAt H (xs.map fun x=>x.2.1) (ps.map (·.1))
 | [],xs,r=>by
  cases (show KT H [] xs from r);exact .nil
 |p::ps,xs,r=>by
  cases (show KT H ((kk p.1,.int p.2)::aj ps) xs from r) with
  |cons h t=>exact .cons h.2.1 (rP t)
def oZ:List V→Hp→VK→Prop:=fun xs H Q=>∃(d:Addr)(ps:Sps),xs=[.ref d]∧H d=some (.dT (aj ps))∧ps.length<64∧∀bs:List Addr,KsAt H bs (dm (ps.map (·.1)))→∀q,H q=none→Q (.ref q) (upd H q (.lst (bs.map V.ref)))
theorem ug{H:Hp}{as:List Addr}{ks:List (Int×Int)}(h:KsAt H as ks):∀a∈as,∃k,FII H a k:=by
 induction h with
 |nil=>exact fun _ h=>nomatch h
 |cons e r ih=>exact fun b h=>(xv.mp h).elim (fun z=>by rw[z];exact⟨_,_,_,e,rfl⟩) (ih b)
theorem Sk(hc:X.calm=true)(hu:X.A.units+64<cLine):aH X (.builtin "sorted") oZ:=by
 intro Av s σ H xs us Q I rx h;obtain⟨d,ps,rfl,hd,h64,q⟩:=h;obtain⟨u,rfl,ru⟩:=X6 rx;cases ru;obtain⟨_,lo,es0,es,ep,kt,raw,ek,_,sz⟩:=T6 I.hok (.inl hd);rw[Yp]at sz;have ka:=rP kt;have al:(es0.map fun x=>x.2.1).length<64:=by rw[xh,←xG kt,Yp];exact h64
 refine P4 (T5 (prog:=X.prog) (w:=X.w)) (T5 (prog:=X.prog) (w:=X.w)) FII (fun{Av σ H s a k} I h=>?_) ((0:Int),(0:Int)) hu (fun{E C} hC=>?_)
 ·obtain⟨i,j,h,rfl⟩:=h;obtain⟨o,m,u,v,e1,e2,e3,⟨t,ru⟩,⟨t',rv⟩⟩:=hO I h;exact⟨a,o,m,u,v,rfl,e1,e2,e3,⟨t,ru⟩,⟨t',rv⟩⟩
 ·refine eY (A:=X.A.in1) (tU lo) (by simpa using I.ok.hd hc) raw (Zq (by omega)) fun g tk AH kp lt it=>?_;rw[Nd it,ek];exact hC g tk H _ (I.kept kp) al (ug ka) fun bs bp pw=>q bs (lc ka bp pw)
end
section
variable{X:Cx}
theorem Py{K:W.Frag}{H:Hp}{d:Addr}{kvs:List (List Key×V)}(h:H d=some (.dT kvs)):tyV K "dict" (.ref d) H:=.inr (.inr (.inl ⟨rfl,.inr ⟨kvs,h⟩⟩))
theorem fq{prog:Program}{w:World}(d:Addr)(lo:(d==sysModules)=false):MeetsIn prog w (Builtin.«dict.values» ⟨[.ref d],[]⟩) (fun _ R s=>s.TypeIs (.ref d) "dict"∧R (.ok (.ret (.ref s.heap.objs.size))) {s with heap:=s.heap.push {cls:=.type "dict_values",data:=.fields #[.ref d]}}):=
 .of_wp fun A R s ⟨ty,h⟩=>by
  refine io (io (yO ty (show wpAny (model prog w) _ (pure d) _ _ s from pi (io ?_))));unfold Builtin.Dict.showsAll;rw[lo,xm (by decide)];exact pi (io (xT (pi ⟨_,rfl,h⟩)))
theorem eB{prog:Program}{w:World}(d:Addr)(lo:(d==sysModules)=false):MeetsIn prog w (Builtin.«dict.items» ⟨[.ref d],[]⟩) (fun _ R s=>s.TypeIs (.ref d) "dict"∧R (.ok (.ret (.ref s.heap.objs.size))) {s with heap:=s.heap.push {cls:=.type "dict_items",data:=.fields #[.ref d]}}):=
 .of_wp fun A R s ⟨ty,h⟩=>by
  unfold Builtin.«dict.items»;refine io (io (yO ty (show wpAny (model prog w) _ (pure d) _ _ s from pi (io ?_))));unfold Builtin.Dict.showsAll;rw[lo,xm (by decide)];exact pi (io (xT (pi ⟨_,rfl,h⟩)))
def mZ(w:Addr→Addr→HO):V→List V→Hp→VK→Prop:=fun x vs H Q=>∃d kvs,x=.ref d∧vs=[]∧H d=some (.dT kvs)∧∀a,H a=none→Q (.ref a) (upd H a (w a d))
theorem Rs:MtR X "dict.values" (mZ jy):=by
 intro Av s σ H x vs v us Q I rx rv h;obtain⟨d,kvs,rfl,rfl,hd,q⟩:=h;cases rx;cases rv;obtain⟨_,lo,_,es,ep,_,raw,_⟩:=T6 I.hok (.inl hd);refine call_meetsIn PySem.F.slot_dict_values raw.typeIs PySem.F.entry_dict_values (PySem.F.args_dict_values_1 _) (fq d lo) ⟨raw.typeIs,.ref s.heap.objs.size,_,I.laid (t':=s.toks) (o:=jy s.heap.objs.size d) (fun b o e=>xi _ e) (xj _) ?_,rfl,q _ (I.hok.fresh (xj _))⟩;exact⟨⟨_,xt _ rfl,rfl,rfl⟩,⟨_,xt _ rfl⟩,fun h1 h2 x k=>let ⟨o,ho,r⟩:=x;⟨o,k o ho,r⟩⟩
theorem kz:MtR X "dict.items" (mZ iA):=by
 intro Av s σ H x vs v us Q I rx rv h;obtain⟨d,kvs,rfl,rfl,hd,q⟩:=h;cases rx;cases rv;obtain⟨_,lo,_,es,ep,_,raw,_⟩:=T6 I.hok (.inl hd);refine call_meetsIn PySem.F.slot_dict_items raw.typeIs PySem.F.entry_dict_items (PySem.F.args_dict_items_1 _) (eB d lo) ⟨raw.typeIs,.ref s.heap.objs.size,_,I.laid (t':=s.toks) (o:=iA s.heap.objs.size d) (fun b o e=>xi _ e) (xj _) ?_,rfl,q _ (I.hok.fresh (xj _))⟩;exact⟨⟨_,xt _ rfl,rfl,rfl⟩,⟨_,xt _ rfl⟩,fun h1 h2 x k=>let ⟨o,ho,r⟩:=x;⟨o,k o ho,r⟩⟩
theorem qW{H:Hp}{kvs:List (List Key×V)}{xs:List (List Key×Addr×Value)}(h:KT H kvs xs):Vals (kvs.map (·.2)) (xs.map fun x=>x.2.2):=by
 induction h with
 |nil=>exact .nil
 |cons h t ih=>exact .cons h.2.2 ih
def qN:List V→Hp→VK→Prop:=fun xs H Q=>∃(v d:Addr)(kvs:List (List Key×V)),xs=[.ref v]∧H v=some (jy v d)∧H d=some (.dT kvs)∧∀p,H p=none→Q (.ref p) (upd H p (.lst (kvs.map (·.2))))
theorem Sl(hc:X.calm=true):aH X (.type "list") qN:=by
 intro Av s σ H xs us Q I rx h;obtain⟨v,d,kvs,rfl,hv,hd,q⟩:=h;obtain⟨u,rfl,ru⟩:=X6 rx;cases ru;obtain⟨z,lo,xs,es,ep,kt,raw,_,ev,sz⟩:=T6 I.hok (.inl hd);obtain⟨view,_⟩:=(show ObjOk X.prog X.w H s.heap v (jy v d)from I.hok v _ hv);refine W.kdl_call (uy (es:=es) (ep:=ep)) (I.ok.hd hc) ⟨view,raw⟩ (by rw[sz];exact z) fun g tk AH c kp hD it=>?_;refine⟨.ref s.heap.objs.size,_,I.laid (t':=tk) (o:=.lst (kvs.map (·.2))) kp (xj _) ⟨by rw[xh];exact z,xs.map (fun x=>x.2.2),c,qW kt,?_⟩,rfl,q _ (I.hok.fresh (xj _))⟩;rw[←ev,←Nd it,Array.toArray_toList];exact hD
end
section
variable{X:Cx}{Av:List (Addr×Obj)}{σ:St}{H:Hp}{s:Shared}
theorem fU{H:Hp}:∀{kvs:List (List Key×V)}{xs:List (List Key×Addr×Value)}{i:Nat}{p:List Key×V},KT H kvs xs→kvs[i]?=some p→∃x,xs[i]?=some x∧H x.2.1=some (.tup (p.1.map kV))∧RelV p.2 x.2.2
 |_,_,_,_,.nil,e=>by simp at e
 |_,_,0,_,.cons h _,e=>by
  rw[yH]at e;cases e;exact⟨_,rfl,h.2.1,h.2.2⟩
 |_,_,i+1,_,.cons _ r,e=>fU (i:=i) r (by simpa using e)
theorem Inv.thawT{d:Addr}{o:Obj}{kvs:List (List Key×V)}(nf:∀o u,X.H₀ d≠some (.frz o u))(I:Inv X Av σ H s)(h:H d=some (.frz o (.dT kvs))):Inv X Av σ (upd H d (.dT kvs)) s:=by
 have nd:∀b,H b=none→upd H d (.dT kvs) b=none:=fun b e=>by rw[Ze (Ne.symm (Zk h e))];exact e
 have ot:∀b u,H b=some u→u≠.frz o (.dT kvs)→upd H d (.dT kvs) b=some u:=fun b u e n=>by rw[Ze (Vd e h n)];exact e
 have tu:∀b xs,H b=some (.tup xs)→upd H d (.dT kvs) b=some (.tup xs):=fun b xs e=>ot b _ e (by intro z;cases z);refine⟨I.ok,I.os,I.bare,⟨I.base.keep,I.base.slot,fun b ob q n hx=>nd b (I.base.free b ob q n hx),I.base.there,fun b xs e=>tu b _ (I.base.tups b xs e),fun b ob u e=>?_,fun b ps e=>?_⟩,I.loc,I.cell,nd _ I.free,fun x c e=>nd c (I.freeC x c e),fun p hp=>?_,fun b u e=>?_,I.len⟩
 ·rw[Ze (fun z=>nf ob u (by rw[←z];exact e))];exact I.base.frzs b ob u e
 ·obtain⟨m,q⟩:=I.base.tbls b ps e;exact⟨m,ot b _ q (by intro z;cases z)⟩
 ·obtain⟨h1,h2,h3⟩:=I.pin p hp;exact⟨h1,nd _ h2,h3⟩
 ·by_cases hb:b=d
  ·subst hb;rw[Z7]at e;cases e;obtain⟨z,lo,xs,kt,r⟩:=(show ObjOk X.prog X.w H s.heap b (.dT kvs) from(I.hok b _ h).2);exact⟨z,lo,xs,KT.keeps kt tu,r⟩
  ·rw[Ze hb]at e;exact(I.hok b u e).stay (fun _ _ _ q=>q) (fun c q=>ot c _ q (by intro z;cases z)) fun c xs q=>tu c xs q
theorem Inv.freezeT{d:Addr}{kvs:List (List Key×V)}(I:Inv X Av σ H s)(h:H d=some (.dT kvs)):∃o,Inv X Av σ (upd H d (.frz o (.dT kvs))) s∧∀o u,X.H₀ d≠some (.frz o u):=by
 obtain⟨z,lo,xs,kt,o,es,ep,ho,r⟩:=(show ObjOk X.prog X.w H s.heap d (.dT kvs)from I.hok d _ h);have tu:∀b ys,H b=some (.tup ys)→upd H d (.frz o (.dT kvs)) b=some (.tup ys):=fun b ys e=>by rw[Ze (Vd e h (by intro z;cases z))];exact e
 refine⟨o,I.write (x:=d) (e:=d) (t':=s.toks) (h':=s.heap) (by rw[h];exact trivial) (.inl rfl) (fun _ _ _ q=>q) ⟨o,ho⟩ ⟨ho,z,lo,xs,KT.keeps kt tu,o,es,ep,ho,r⟩,fun o' u e=>?_⟩;have q:=I.base.frzs d o' u e;rw[h]at q;cases q
def vq(t:TE):TE:=fun σ H Q=>∃(d:Addr)(kvs:List (List Key×V)),H d=some (.dT kvs)∧∀o,t σ (upd H d (.frz o (.dT kvs))) fun v H2=>H2 d=some (.frz o (.dT kvs))∧Q v (upd H2 d (.dT kvs))
theorem pE{e:Expr}{t:TE}(h:PE X e t):PE X e (vq t):=by
 intro Av s σ H Q I hw;obtain⟨d,kvs,hd,q⟩:=hw;obtain⟨o,I1,nf⟩:=I.freezeT hd;exact thn (h Av s σ _ _ I1 (q o)) fun v s1 ⟨x,H1,I2,r,hd2,q2⟩=>⟨x,_,I2.thawT nf hd2,r,q2⟩
def kG(d:Addr)(kvs:List (List Key×V))(o:Obj):It:=⟨fun i H=>i<kvs.length∧H d=some (.frz o (.dT kvs)),fun i H x H'=>H'=H∧∃p b,kvs[i]?=some p∧x=.ref b∧H b=some (.tup (p.1.map kV)),fun i H=>kvs.length≤i∧H d=some (.frz o (.dT kvs))⟩
theorem pR{P:Program}{w:World}{K:W.Frag}{tg:Expr}{d it:Addr}{kvs:List (List Key×V)}{o:Obj}{es:Array DictEntry}{ep:Nat}(ex:o.ExactDict)(od:o.data=.dict es ep)(sz:es.size=kvs.length):
  Turn P w K tg (kG d kvs o) [it] it (fun i h=>h.IsKeyIter it d i es.size ep) where
 mem:=by simp
 obj:=fun i h st b hb=>by
  obtain⟨q,e,c,dd⟩:=st;rw[xq.mp hb];exact⟨q,e,fun v z=>by rw[dd]at z;cases z⟩
 keep:=fun i h h' st k=>st.at fun q e=>k it (.head _) q e
 item:=by
  intro X hP hw hK hc i Av s σ H E I hf st hg;subst hP hw hK;obtain⟨hi,hd⟩:=hg;obtain⟨ho,z,lo,xs,kt,o',es',ep',h1,_,h3,h4,_⟩:=(show ObjOk X.prog X.w H s.heap d (.frz o (.dT kvs))from I.hok d _ hd);rw[ho]at h1;cases h1;rw[od]at h3;cases h3;obtain⟨f0,f1,f2,f3,f4,f5⟩:=hf it (.head _);have e1:kvs[i]?=some kvs[i]:=by simp[hi]
  obtain⟨x,ex1,hx,_⟩:=fU kt e1;have ek:es[i].key=.ref x.2.1:=by
   have q:es.toList[i]?=some es[i]:=by rw[yq];exact xC (by omega)
   rw[h4,xE,ex1]at q;rw[←xK q];rfl
  refine jz st ⟨o,ho,ex,od⟩ (by omega) fun g AI sb=>?_;obtain⟨q,e,c,dd⟩:=id AI;have I1:Inv X Av σ H {s with heap:=g}:=I.turned (t':=s.toks) (fun b ob hb eb=>(sb.2 b hb).trans eb) f0 f1 f3 f4 f5;exact⟨_,rfl,iP (s:={s with heap:=g}) e c dd (by decide) ⟨.ref x.2.1,H,I1,ek,⟨rfl,_,_,e1,rfl,hx⟩,AI,fun b hb=>(hf b hb).1⟩⟩
 done:=by
  intro X hP hw hK hc i Av s σ H E I hf st hg;subst hP hw hK;obtain⟨hi,hd⟩:=hg;obtain⟨ho,_⟩:=I.hok d _ hd;obtain⟨f0,f1,f2,f3,f4,f5⟩:=hf it (.head _);exact ik (I.ok.hd hc) st ⟨o,ho,ex,od⟩ (by omega) fun g eb=>⟨rfl,I.turned (t':=s.toks) (fun b ob hb e=>eb b ob hb e) f0 f1 f3 f4 f5⟩
 self:=fun _ _ _ _ _ st h=>wpAny_pyIter_keyiter st h
def uv(tl:TE):TI:=fun σ H R=>tl σ H fun x H1=>∃(d:Addr)(o:Obj)(kvs:List (List Key×V)),x=.ref d∧H1 d=some (.frz o (.dT kvs))∧R (kG d kvs o) H1
theorem Nq{tg l:Expr}{tl:TE}(hl:PE X l tl):PI X tg l (uv tl):=by
 intro Av s σ H R I h;refine thn (hl Av s σ H _ I h) fun v s1 Aw=>?_;obtain⟨x,H1,I1,r1,q1⟩:=Aw;obtain⟨d,o,kvs,rfl,hd,q⟩:=q1;cases r1;obtain⟨ho,z,lo,xs,kt,o',es,ep,h1,h2,h3,h4,_⟩:=(show ObjOk X.prog X.w H1 s1.heap d (.frz o (.dT kvs))from I1.hok d _ hd);rw[ho]at h1;cases h1;have sz:es.size=kvs.length:=by rw[←xF,h4,xh,←xG kt]
 refine jh lo ⟨o,ho,h2,h3⟩ ⟨s1.heap.objs.size,[s1.heap.objs.size],_,_,H1,rfl,I1.kept (t':=s1.toks) (fun b ob e=>xi _ e),pR h2 h3 sz,⟨_,xt _ rfl,rfl,rfl⟩,fun b hb=>?_,q⟩;rw[xq.mp hb];exact I1.fpOk (xj _) (I1.hok.fresh (xj _))
theorem gU{d:Addr}{o:Obj}{kvs:List (List Key×V)}{k:Nat}{g:TG}{tt:TT}{te:TE}{σ:St}{H:Hp}{Q:VK}(Pv:Nat→List V→Hp→Prop)(h0:Pv 0 [] H)(hl:∀i ys H,Pv i ys H→H d=some (.frz o (.dT kvs)))(hs:∀i p b ys H (C:List V→Hp→Prop),kvs[i]?=some p→H b=some (.tup (p.1.map kV))→Pv i ys H→(∀ys' H',Pv (i+1) ys' H'→C ys' H')→ys.length<sizeLine∧g (.ref b) (List.replicate k none++σ) H fun σ2 H2=>Wk σ2 (List.replicate k none++σ)∧tt σ2 H2 fun ok H3=>
   if ok=true then te σ2 H3 fun y H4=>C (ys++[y]) H4 else C ys H3)(hz:∀i ys H,Pv i ys H→ys.length<sizeLine)(hd:∀ys H,Pv kvs.length ys H→ys.length≤sizeLine∧∀p,H p=none→Q (.ref p) (upd H p (.lst ys))):CompR (kG d kvs o) H k g tt te σ Q:=by
 refine⟨fun i m ys H=>m=kvs.length-i∧i≤kvs.length∧Pv i ys H,⟨kvs.length,by simp,Nat.zero_le _,h0⟩,?_⟩;rintro i m ys H ⟨rfl,hi,p⟩;have q:=hl i ys H p;by_cases AA:i<kvs.length
 ·refine .inr ⟨⟨AA,q⟩,hz i ys H p,fun v H' y=>?_⟩;obtain⟨e,p',b,hp',rfl,hb⟩:=y;subst e;exact(hs i p' b ys H' (fun ys' H'=>∃m',m'<kvs.length-i∧m'=kvs.length-(i+1)∧i+1≤kvs.length∧Pv (i+1) ys' H') hp' hb p fun ys' H' p'=>⟨_,by omega,rfl,AA,p'⟩).2
 ·have e:i=kvs.length:=by omega
  subst e;exact .inl ⟨⟨xj _,q⟩,hd ys H p⟩
end
abbrev TKv:=List Key×Addr×Value
def cU(xs:List TKv):List TKv:=xs.foldl (fun AH x=>storedH AH x.1 x.2.1 x.2.2) []
def jt(kvs:List (List Key×V)):List (List Key×V):=kvs.foldl (fun AH kv=>bc AH kv.1 kv.2) []
theorem jI(xs:List TKv)(x:TKv):cU (xs++[x])=storedH (cU xs) x.1 x.2.1 x.2.2:=by
 unfold cU;rw[List.foldl_append];rfl
theorem Nb(xs:List TKv)(k:List Key)(a:Addr)(v:Value):(storedH xs k a v).length≤xs.length+1:=by
 unfold storedH
 split
 ·rw[xh];omega
 ·rw[xn];exact xj _
theorem Pg:∀(ys xs:List TKv),(ys.foldl (fun AH x=>storedH AH x.1 x.2.1 x.2.2) xs).length≤xs.length+ys.length
 | [],xs=>xj _
 |y::ys,xs=>by
  have q:=Pg ys (storedH xs y.1 y.2.1 y.2.2);have l:=Nb xs y.1 y.2.1 y.2.2;rw[List.foldl_cons,xD];omega
theorem dR(xs:List TKv):(cU xs).length≤xs.length:=by
 have q:=Pg xs [];rw[yF,Nat.zero_add]at q;exact q
theorem Na{xs:List TKv}{k:List Key}{a:Addr}{v:Value}{x:TKv}(h:x∈storedH xs k a v):(∃y∈xs,x.1=y.1∧x.2.1=y.2.1)∨(x.1=k∧x.2.1=a):=by
 unfold storedH at h
 split at h
 ·obtain⟨y,hy,rfl⟩:=xI.mp h;refine .inl ⟨y,hy,?_⟩;unfold putAt
  split <;> exact⟨rfl,rfl⟩
 ·rcases xM.mp h with q | q
  ·exact .inl ⟨x,q,rfl,rfl⟩
  ·rw[xq.mp q];exact .inr ⟨rfl,rfl⟩
theorem Pf:∀{ys xs:List TKv}{x:TKv},x∈ys.foldl (fun AH x=>storedH AH x.1 x.2.1 x.2.2) xs→∃y,(y∈xs∨y∈ys)∧x.1=y.1∧x.2.1=y.2.1
 | [],xs,x,h=>⟨x,.inl h,rfl,rfl⟩
 |z::ys,xs,x,h=>by
  obtain⟨y,hy,e1,e2⟩:=Pf (ys:=ys) h
  rcases hy with hy | hy
  ·rcases Na hy with⟨u,hu,f1,f2⟩|⟨f1,f2⟩
   ·exact⟨u,.inl hu,e1.trans f1,e2.trans f2⟩
   ·exact⟨z,.inr (.head _),e1.trans f1,e2.trans f2⟩
  ·exact⟨y,.inr (.tail _ hy),e1,e2⟩
theorem mF{ys:List TKv}{x:TKv}(h:x∈cU ys):∃y∈ys,x.1=y.1∧x.2.1=y.2.1:=by
 obtain⟨y,hy,e⟩:=Pf h
 rcases hy with hy | hy
 ·exact nomatch hy
 ·exact⟨y,hy,e⟩
theorem sQ{H:Hp}{more:List (List Key×V)}{rs:List TKv}{kvs:List (List Key×V)}{xs:List TKv}(a:KT H more rs)(b:KT H kvs xs):KT H (more.foldl (fun AH kv=>bc AH kv.1 kv.2) kvs) (rs.foldl (fun AH x=>storedH AH x.1 x.2.1 x.2.2) xs):=by
 induction a generalizing kvs xs with
 |nil=>exact b
 | @cons p q more rs h t ih=>
  have e:=KT.put b p.1 h.2.1 h.2.2;have e2:KT H (bc kvs p.1 p.2) (storedH xs q.1 q.2.1 q.2.2):=by
   rw[show storedH xs q.1 q.2.1 q.2.2=storedH xs p.1 q.2.1 q.2.2 by rw[h.1]];exact e
  exact ih e2
theorem vG{H:Hp}{kvs:List (List Key×V)}{xs:List TKv}(h:KT H kvs xs):KT H (jt kvs) (cU xs):=sQ h .nil
theorem dQ:∀(kvs AH:List (List Key×V)),((AH++kvs).map (·.1)).Nodup→kvs.foldl (fun AH kv=>bc AH kv.1 kv.2) AH=AH++kvs
 | [],AH,_=>(yQ AH).symm
 |p::kvs,AH,h=>by
  have e:aS AH p.1=none:=by
   rw[xN,xu]at h;have nin:p.1∉AH.map (·.1):=fun q=>(zR.mp h).2.2 p.1 q p.1 (.head _) rfl;have:∀l:List (List Key×V),p.1∉l.map (·.1)→aS l p.1=none:=fun l=>by
    induction l with
    |nil=>intro _;rfl
    |cons y l ih=>
     intro hl;rw[xu,xv,not_or]at hl;rw[Ye (fun z=>hl.1 z.symm)];exact ih hl.2
   exact this AH nin
  rw[List.foldl_cons,oH p.2 e,dQ kvs _ (by rw[zP];exact h),zP];rfl
theorem dW{kvs:List (List Key×V)}(h:(kvs.map (·.1)).Nodup):jt kvs=kvs:=dQ kvs [] h
theorem Pz{h g:Heap}{ks:List Key}{a:Addr}(x:(tupleKind (af prog w)).is h ks a)(k:∀o,h.get? a=some o→g.get? a=some o):(tupleKind (af prog w)).is g ks a:=by
 obtain⟨o,its,n,h1,r⟩:=x;exact⟨o,its,n,k o h1,r⟩
def gM(prog:Program)(w:World)(h:Heap)(D:Addr)(xs:List TKv):Prop:=∃o es ep,h.get? D=some o∧o.ExactDict∧o.data=.dict es ep∧es.toList=xs.map (entryOfKey (tupleKind (af prog w)))∧(xs.map (·.1)).Nodup
def jq(prog:Program)(w:World)(h:Heap)(p:TKv)(v:Value)(no:List Addr):Prop:=∃a o n,v=.ref a∧a∉no∧p.2.1∉no∧h.get? a=some o∧o.cls=.type "tuple"∧o.data=.seq #[.ref p.2.1,p.2.2] n∧(tupleKind (af prog w)).is h p.1 p.2.1
theorem fW{R:Result→Shared→Prop}{I:Addr}{fp wr:List Addr}{n:Nat}{P:Nat→Value→Prop}{St:Nat→Heap→Prop}(W:Walks prog w A.in1 I fp wr n P St)(hu:A.units+1<cLine)(D:Addr)(hD:D∉fp)(ps:List TKv)(hpn:ps.length=n)(its:List Value)(hP:∀i v,P i v→its[i]?=some v)(hb:n≤100000):
  ∀(k i:Nat)(s:Shared),n-i=k→i≤n→St i s.heap→gM prog w s.heap D (cU (ps.take i))→(∀(j:Nat) p,ps[j]?=some p→∃v,its[j]?=some v∧jq prog w s.heap p v (D::wr))→
   (∀g tk,(∀b o,b∉D::wr→s.heap.get? b=some o→g.get? b=some o)→gM prog w g D (cU ps)→R (.ok (.ret .none)) {s with heap:=g,toks:=tk})→
   codeAny (model prog w) A (.builtin "dict.update.loop" ⟨[.ref D,.ref I,rawInt i,.none],[]⟩) R s:=by
 have hDw:D∉wr:=fun q=>hD (W.sub _ q);intro k
 induction k with
 |zero=>
  intro i s hk hi st so tp fin;obtain rfl:i=n:=by omega
  refine yA Sj ?_;rw[yi Wa _];refine io (m:=pyNext (.ref I)) (W.done s _ _ st fun h' tk kp=>io (m:=Builtin.Dict.addKeywords D []) (pi (pi (fin h' tk (fun b o nb e=>kp b o (fun q=>nb (xV _ q)) e) ?_))));rw[←hpn,yc]at so;obtain⟨o,es,ep,ho,r⟩:=so;exact⟨o,es,ep,kp D o hDw ho,r⟩
 |succ k ih=>
  intro i s hk hi st so tp fin;have AA:i<n:=by omega
  refine yA Sj ?_;rw[yi Wa _];refine io (m:=pyNext (.ref I)) (W.item i s _ _ AA st fun v h1 tk1 pv st1 kp1=>?_);obtain⟨p,hp⟩:∃p,ps[i]?=some p:=⟨ps[i],xz (by omega)⟩;have kw:∀b o,b∉D::wr→s.heap.get? b=some o→h1.get? b=some o:=fun b o nb e=>kp1 b o (fun q=>nb (xV _ q)) e;have tp1:∀(j:Nat) p,ps[j]?=some p→∃v,its[j]?=some v∧jq prog w h1 p v (D::wr):=fun j p e=>by
   obtain⟨v,hv,a,o,m,rfl,na,nk,ha,r1,r2,r3⟩:=tp j p e;exact⟨_,hv,a,o,m,rfl,na,nk,kw a o na ha,r1,r2,Pz r3 fun o e=>kw _ o nk e⟩
  obtain⟨v',hv',a,o,m,rfl,na,nk,ha,hc,hd,hkey⟩:=tp1 i p hp;obtain rfl:v=.ref a:=xK ((hP i v pv).symm.trans hv');have so1:h1.DictOfH (tupleKind (af prog w)) D (cU (ps.take i)):=by
   obtain⟨o,es,ep,ho,r1,r2,r3,r4⟩:=so;refine⟨o,es,ep,kp1 D o hDw ho,r1,r2,r3,fun x hx=>?_,r4⟩;obtain⟨y,hy,e1,e2⟩:=mF hx;obtain⟨j,hj⟩:=yI (List.mem_of_mem_take hy);obtain⟨_,_,_,_,_,_,_,_,_,_,_,q⟩:=tp1 j y hj;rw[e1,e2];exact q
  refine io (xQ (io (wpAny_tryCatch ?_)));unfold Builtin.Dict.pairItems;refine io (yW (T:="tuple") ⟨o,ha,hc⟩ ?_);rw[xp (by decide)];refine io (m:=seqItems? (.ref a)) ?_;unfold seqItems?;refine io (As ha ?_);rw[hd];refine pi (pi ?_);show wpAny _ _ (holding [Value.ref p.2.1,p.2.2] (dictSet D (.ref p.2.1) p.2.2)) _ _ _;have eb:=dR (ps.take i);rw[yn]at eb;refine xQ (wpAny_dictSet_heap (s:={s with heap:=h1,toks:=tk1}) (zf hu) hkey so1 (fun g so2 sb=>?_) (by
   have:(100000:Nat)≤sizeLine:=by decide
   omega))
  have so3:gM prog w g D (cU (ps.take (i+1))):=by
   rw[Yl hp,jI];obtain⟨o,es,ep,ho,r1,r2,r3,_,r4⟩:=so2;exact⟨o,es,ep,ho,r1,r2,r3,r4⟩
  have ks:∀b o,b≠D→h1.get? b=some o→g.get? b=some o:=fun b o nb e=>(sb.2 b nb).trans e;refine pi ⟨zL Wa _,ih (i+1) _ (by omega) AA (W.frame _ _ _ st1 fun b hb o e=>ks b o (fun q=>hD (by rw[←q];exact hb)) e) so3 (fun j p e=>?_) fun g' tk kp so'=>fin g' tk (fun b o nb e=>kp b o nb ?_) so'⟩
  ·obtain⟨v,hv,a,o,m,rfl,na,nk,ha,r1,r2,r3⟩:=tp1 j p e;have nD:∀{b:Addr},b∉D::wr→b≠D:=fun h z=>h (by rw[z];exact .head _);exact⟨_,hv,a,o,m,rfl,na,nk,ks a o (nD na) ha,r1,r2,Pz r3 fun o e=>ks _ o (nD nk) e⟩
  ·exact ks b o (fun z=>nb (by rw[z];exact .head _)) (kw b o nb e)
inductive TPsAt(H:Hp):List V→List (List Key×V)→Prop
 |nil:TPsAt H [] []
 |cons {c b:Addr} {xs:List V} {k:List Key} {v:V} {kvs:List (List Key×V)} (h:H c=some (.tup [.ref b,v])) (g:H b=some (.tup (k.map kV))) (r:TPsAt H xs kvs):TPsAt H (.ref c::xs) ((k,v)::kvs)
theorem Qt{l:Addr}{its:List Value}{k:Nat}{sl:Array (Option Value)}{ps:List TKv}{Q:Value→Shared→Prop}(hh:A.handled=none)(hu:A.units+3<cLine)(hl:s.heap.get? l=some {cls:=.type "tuple",dict:=none,data:=.seq its.toArray k,slots:=sl})(AJ:its.length=ps.length)(hb:ps.length≤100000)(hp:∀(j:Nat) p,ps[j]?=some p→∃v,its[j]?=some v∧jq prog w s.heap p v [])(h:∀g tk,(∀b o,s.heap.get? b=some o→g.get? b=some o)→gM prog w g s.heap.objs.size (cU ps)→Q (.ref s.heap.objs.size) {s with heap:=g,toks:=tk}):wpAny (model prog w) A (call (.type "dict") [.ref l]) Q E s:=by
 refine callType_codes (Q₁:=fun obj s₁=>obj=.ref s.heap.objs.size∧s₁={s with heap:=s.heap.push {cls:=.type "dict",data:=.dict #[]}}) F.kt_called_dict (F.kt_typeCall_dict_1 _) F.entry_dict_init (kt_code_dict_new _ ⟨rfl,rfl⟩) ?_;rintro obj s₁ ⟨rfl,rfl⟩;have gD:(s.heap.push {cls:=.type "dict",data:=.dict #[]}).get? s.heap.objs.size=some {cls:=.type "dict",data:=.dict #[]}:=xt _ rfl;have hl1:(s.heap.push {cls:=.type "dict",data:=.dict #[]}).get? l=some {cls:=.type "tuple",dict:=none,data:=.seq its.toArray k,slots:=sl}:=xi _ hl;refine⟨⟨_,gD,rfl⟩,F.args_dict_init_2 _ _,?_⟩;unfold Builtin.«dict.__init__»;refine io ?_;unfold Builtin.Dict.selfAndRest;refine io (yO ⟨_,gD,rfl⟩ (pi (a:=(s.heap.objs.size,[Value.ref l])) ?_));show wpAny (model prog w) _ (Builtin.Dict.updateFrom "dict.__init__" s.heap.objs.size (.ref l) [] .none) _ _ _;unfold Builtin.Dict.updateFrom;refine io (yW (T:="tuple") ⟨_,hl1,rfl⟩ ?_);rw[xp (by decide)];refine wpAny_bind (vQ hl1 (by simpa using hh) fun g tk kp=>?_);rw[xp (by rfl)];have ltD:s.heap.objs.size<g.objs.size:=xk (kp _ _ gD);have ltl:l<s.heap.objs.size:=xk hl;have hl2:g.IsTuple l its.toArray:=⟨_,kp _ _ hl1,rfl,k,rfl⟩;refine io (zV (io (wpAny_pyIter_tuple hl2 (pi ⟨zL Wa _,?_⟩))));have hne:l≠g.objs.size:=xx (zu ltl ltD);have nin:s.heap.objs.size∉[g.objs.size,l]:=fun q=>by
  rcases xv.mp q with q | q
  ·exact xx ltD q
  ·exact ym ltl (xq.mp q)
 have nout:∀{b:Addr},b<s.heap.objs.size→b∉[s.heap.objs.size,g.objs.size]:=fun{b} lt q=>by
  rcases xv.mp q with q | q
  ·exact xx lt q
  ·exact xx (zu lt ltD) (xq.mp q)
 have keep:∀b o,s.heap.get? b=some o→(g.push {cls:=.type "tuple_iterator",data:=.fields #[.ref l,.int 0 0]}).get? b=some o:=fun b o e=>xi _ (kp _ _ (xi _ e));refine fW (A:=A.in1) (Walks.tuple (by simpa using hh) g.objs.size l hne its.toArray) (by show A.units+1+1<cLine;omega) s.heap.objs.size nin ps (by rw[List.size_toArray];omega) its (fun i v e=>by simpa using e) (by rw[List.size_toArray];omega) its.toArray.size 0 _ (Nat.sub_zero _) (Nat.zero_le _) ⟨⟨_,Heap.get?_push_size _ rfl,rfl,rfl⟩,hl2.push _⟩ ⟨_,#[],0,Heap.get?_push_of_some _ (kp _ _ gD),⟨rfl,rfl,rfl⟩,rfl,rfl,List.nodup_nil⟩ (fun j p e=>?_) fun g' tk' kp' so'=>⟨rfl,h g' tk' (fun b o e=>kp' b o (nout (Heap.lt_size e)) ?_) so'⟩
 ·obtain⟨v,hv,a,o,m,rfl,_,_,ha,r1,r2,r3⟩:=hp j p e;have la:=xk ha;have lk:p.2.1<s.heap.objs.size:=by
   obtain⟨_,_,_,h1,_⟩:=r3;exact xk h1
  exact⟨_,hv,a,o,m,rfl,nout la,nout lk,xi _ (kp _ _ (xi _ ha)),r1,r2,Pz r3 fun o e=>xi _ (kp _ _ (xi _ e))⟩
 ·exact xi _ (kp _ _ (xi _ e))
section
variable{X:Cx}
theorem N9{Av:List (Addr×Obj)}{s:Shared}{σ:St}{H:Hp}(I:Inv X Av σ H s):∀{ys:List V}{kvs:List (List Key×V)}{its:List Value},TPsAt H ys kvs→Vals ys its→∃ps:List TKv,KT H kvs ps∧its.length=ps.length∧∀(j:Nat) p,ps[j]?=some p→∃v,its[j]?=some v∧jq X.prog X.w s.heap p v []
 |_,_,_,.nil,.nil=>⟨[],.nil,rfl,fun j p e=>by simp at e⟩
 |_,_,_,.cons (c:=c) (b:=b) (k:=k) (v:=v) h g r,.cons r1 t=>by
  obtain⟨ps,kt,le,at_⟩:=N9 I r t;obtain⟨_,its,rv,o,e1,e2,n,e3⟩:=(show ObjOk X.prog X.w H s.heap c (.tup [.ref b,v])from I.hok c _ h);obtain⟨u,x,rfl,ru,rx⟩:=iI rv;cases ru;cases r1;refine⟨(k,b,x)::ps,.cons ⟨rfl,g,rx⟩ kt,by rw[xD,xD,le],fun j p e=>?_⟩;cases j with
  |zero=>
   rw[yH]at e;cases e;exact⟨_,rfl,c,o,n,rfl,yw,yw,e1,e2.1,e3,Vt I.hok g⟩
  |succ j=>exact at_ j p (by simpa using e)
def pV:List V→Hp→VK→Prop:=fun xs H Q=>∃(l:Addr)(ys:List V)(kvs:List (List Key×V)),xs=[.ref l]∧H l=some (.tup ys)∧TPsAt H ys kvs∧kvs.length≤1000∧∀p,H p=none→Q (.ref p) (upd H p (.dT (jt kvs)))
theorem Sm(hc:X.calm=true)(hu:X.A.units+64<cLine):aH X (.type "dict") pV:=by
 intro Av s σ H xs us Q I rx h;obtain⟨l,ys,kvs,rfl,hq,pa,AJ,q⟩:=h;obtain⟨u,rfl,ru⟩:=X6 rx;cases ru;obtain⟨_,its,rv,⟨⟨c0,d0,dt0,sl0⟩,ho,hcl,m,hs⟩⟩:=(show ObjOk X.prog X.w H s.heap l (.tup ys)from I.hok l _ hq);simp only at hcl hs;obtain⟨hcl,hdn⟩:=hcl;subst hcl hdn hs;obtain⟨ps,kt,hl,hp⟩:=N9 I pa rv;have kl:=xG kt;refine Qt (I.ok.hd hc) (by omega) ho hl (by omega) hp fun g tk kp hD=>?_;have km:=vG kt;have ml:=dR ps;refine⟨.ref s.heap.objs.size,_,I.laid (t':=tk) (o:=.dT (jt kvs)) kp (xj _) ⟨Zq (by rw[xG km];omega),yM.mpr (ym I.big),cU ps,?_,hD⟩,rfl,q _ (I.hok.fresh (xj _))⟩;exact KT.keeps km fun b ys e=>by rw[Ze (Zk e (I.hok.fresh (xj _)))];exact e
end
theorem ox{kvs:List (List Key×V)}{k:List Key}(h:k∉kvs.map (·.1)):bF kvs k=kvs:=by
 unfold bF;refine List.filter_eq_self.mpr fun p hp=>xB fun e=>h (xI.mpr ⟨p,hp,e⟩)
theorem iU{H:Hp}:∀{kvs:List (List Key×V)}{xs:List TKv}{k:List Key}{j:Nat}{q:Addr×Value},KT H kvs xs→(xs.map (·.1)).Nodup→xs[j]?=some (k,q)→KT H (bF kvs k) (xs.eraseIdx j)
 |_,_,_,_,_,.nil,_,e=>by simp at e
 |p::kvs,x::xs,k,0,q,.cons h t,nd,e=>by
  rw[yH]at e;cases e;rw[xu,xW]at nd;have ke:kvs.map (·.1)=xs.map (·.1):=by
   clear nd h
   induction t with
   |nil=>rfl
   |cons a _ ih=>rw[xu,xu,ih,a.1]
  have e1:bF (p::kvs) k=kvs:=by
   have o:=ox (kvs:=kvs) (k:=k) (by rw[ke];exact nd.1);unfold bF at o⊢;rw[List.filter_cons,if_neg (by simp[show p.1=k from h.1])];exact o
  rw[e1];exact t
 |p::kvs,x::xs,k,j+1,q,.cons h t,nd,e=>by
  rw[xu,xW]at nd;have e:xs[j]?=some (k,q):=by simpa using e
  have ne:p.1≠k:=fun z=>nd.1 (xI.mpr ⟨(k,q),xL e,by rw[←h.1,z]⟩);have e1:bF (p::kvs) k=p::bF kvs k:=by
   unfold bF;rw[zn,xp (xB ne)]
  rw[e1,List.eraseIdx_cons_succ];exact .cons h (iU t nd.2 e)
theorem P9{α β:Type}(f:α→β):∀(l:List α)(j:Nat),(l.map f).eraseIdx j=(l.eraseIdx j).map f
 | [],_=>rfl
 |_::_,0=>rfl
 |a::l,j+1=>by rw[xu,List.eraseIdx_cons_succ,List.eraseIdx_cons_succ,xu,P9 f l j]
theorem oM{xs:List TKv}(nd:(xs.map (·.1)).Nodup)(j:Nat):((xs.eraseIdx j).map (·.1)).Nodup:=nd.sublist ((List.eraseIdx_sublist xs j).map _)
theorem rj{d a:Addr}{xs:List TKv}{k:List Key}{j:Nat}{q:Addr×Value}(hu:A.units+1<cLine)(hkey:(tupleKind (af prog w)).is s.heap k a)(hm:s.heap.DictOfH (tupleKind (af prog w)) d xs)(hz:xs.length≤sizeLine)(hj:xs[j]?=some (k,q)){Q:Fin→Shared→Prop}(h:∀g tk,gM prog w g d (xs.eraseIdx j)→Heap.SameBut d s.heap g→Q (.done (.ret q.2)) {s with heap:=g,toks:=tk}):wpAny (model prog w) A.in1 (Builtin.«dict.pop» ⟨[.ref d,.ref a],[]⟩) Q E s:=by
 obtain⟨o,es,ep,ho,ex,hd,he,his,hn⟩:=id hm;have ty:s.TypeIs (.ref d) "dict":=hm.typeIs;unfold Builtin.«dict.pop»;refine io ?_;unfold Builtin.Dict.keyAndDefault;refine io (yO ty (show wpAny (model prog w) _ (pure (d,Value.ref a,none)) _ _ s from pi ?_));have jl:j<xs.length:=(xo.mp hj).1;have sz:es.size=xs.length:=by rw[←xF,he,xh]
 have ne:es.isEmpty=false:=by
  rcases z:es.isEmpty with _ | _
  ·rfl
  ·have:=Array.isEmpty_iff_size_eq_zero.mp z;omega
 have ej:es[j]?=some (entryOfKey (tupleKind (af prog w)) (k,q)):=by rw[←yq,he,xE,hj];rfl
 have kp:¬((keyPart (Value.ref a)).isSome=true):=xw;simp only[kp,if_false];refine io (xU ho hd (bP ?_));simp only[ne,Bool.false_eq_true,if_false];refine io ?_;unfold Builtin.Dict.takeOut;refine xQ (io ((tupleKind (af prog w)).pyHash (zf hu) hkey (io (wpAny_dictFind_heap (zf hu) hkey ho hd he his hn (fun hno=>absurd hj (hno j q)) fun i p hi=>?_))));have ij:i=j:=idxH_unique hn hi hj;subst ij;show wpAny (model prog w) _ (dictEntries d (keyPart (.ref a)) >>= fun l=>_) _ _ _;refine io (xU ho hd ?_);rw[ej];refine io (wpAny_updateDictKeys (hz:=?_) ho hd (pi ?_))
 ·rw[xm (by exact xw)];refine io (wpAny_letGo (pi (h _ _ ⟨_,_,ep+1,Ah _ ho (Obj.isFreed_of_dict (Obj.data_mapDictKeys hd _)),ex.mapDictKeys _,Obj.data_mapDictKeys hd _,?_,oM hn i⟩ (zH ..))));rw[Array.eraseIdxIfInBounds,dif_pos (by omega:i<es.size),Array.toList_eraseIdx,he];exact P9 _ _ _
 ·omega
section
variable{X:Cx}
def wA:V→List V→Hp→VK→Prop:=fun x vs H Q=>∃(d a:Addr)(kvs:List (List Key×V))(k:List Key)(v:V),x=.ref d∧vs=[.ref a]∧H d=some (.dT kvs)∧H a=some (.tup (k.map kV))∧aS kvs k=some v∧Q v (upd H d (.dT (bF kvs k)))
theorem o_{H:Hp}{kvs:List (List Key×V)}{xs:List TKv}{k:List Key}{v:V}(kt:KT H kvs xs):aS kvs k=some v→∃(j:Nat)(q:Addr×Value),xs[j]?=some (k,q)∧RelV v q.2:=by
 induction kt with
 |nil=>intro e;simp[aS]at e
 | @cons p x kvs xs h t ih=>
  intro e;by_cases z:p.1=k
  ·rw[Yg z]at e;cases e;exact⟨0,x.2,by rw[yH,←z,h.1],h.2.2⟩
  ·rw[Ye z]at e;obtain⟨j,q,e1,e2⟩:=ih e;exact⟨j+1,q,by simpa using e1,e2⟩
theorem rq(hu:X.A.units+64<cLine):MtR X "dict.pop" wA:=by
 intro Av s σ H x vs v us Q I rx rv h;obtain⟨d,a,kvs,k,y,rfl,rfl,hd,ha,hv,q⟩:=h;cases rx;obtain⟨u,rfl,ru⟩:=X6 rv;cases ru;obtain⟨z,lo,xs,kt,dd⟩:=iN I.hok hd;obtain⟨j,p,hj,rp⟩:=o_ kt hv;have hn:(xs.map (·.1)).Nodup:=by obtain⟨_,_,_,_,_,_,_,_,hn⟩:=dd;exact hn
 have tu:∀b ys,H b=some (.tup ys)→upd H d (.dT (bF kvs k)) b=some (.tup ys):=fun b ys e=>by rw[Ze (Vd e hd (by intro z;cases z))];exact e
 refine yt PySem.F.slot_dict_pop dd.typeIs PySem.F.entry_dict_pop (rj (by omega) (Vt I.hok ha) dd (by rw[←xG kt];exact z) hj fun g tk raw sb=>⟨_,rfl,y,_,?_,rp,q⟩) (PySem.F.args_dict_pop_2 _ _);have hg:∃o,g.get? d=some o:=let ⟨o,_,_,e,_⟩:=raw;⟨o,e⟩
 exact I.write (x:=d) (e:=d) (t':=tk) (by rw[hd];exact trivial) (.inl rfl) (fun b u nb e=>(sb.2 b nb).trans e) hg ⟨xZ (Aj _ _) z,lo,xs.eraseIdx j,KT.keeps (iU kt hn hj) tu,raw⟩
end
abbrev ItI(h:Heap)(it d:Addr)(i n ep:Nat)(f0 f1 ok ov:Value):Prop:=h.get? it=some {cls:=.type "dict_itemiterator",dict:=none,data:=.fields #[f0,f1,.ref d,.int i 0,.int n 0,.int ep 0,ok,ov],slots:=#[]}
abbrev duo(x y:Value):Obj:={cls:=.type "tuple",data:=.seq #[x,y]}
section
variable{prog:Program}{w:World}{A:Around}{E:Value→Shared→Prop}{s:Shared}{it d:Addr}{i ep:Nat}{es:Array DictEntry}{f0 f1 ok ov:Value}
theorem oV{v:Addr}{Q:Value→Shared→Prop}(zv:s.heap.IsItemsView v d)(zm:RwD s.heap d es ep)(zq:∀g:Heap,ItI g s.heap.objs.size d 0 es.size ep .none (.bool false) .none .none→g.objs.size=s.heap.objs.size+1→(∀b o,s.heap.get? b=some o→g.get? b=some o)→Q (.ref s.heap.objs.size) {s with heap:=g}):wpAny (model prog w) A (pyIter (.ref v)) Q E s:=by
 obtain⟨ou,vo,_,vd⟩:=id zv;obtain⟨o,yo,_,yd⟩:=id zm;refine Al zv.typeIs PySem.F.slot_dict_items_iter (yt PySem.F.slot_dict_items_iter zv.typeIs PySem.F.entry_dict_items_iter (bP (io (io (zK vo vd (x:=.ref d) rfl (pi (io ?_)))))) (PySem.F.args_dict_items_iter_1 _));unfold Builtin.Dict_items.newIterator;skip;refine io (xU yo yd (io (Ar yo yd ?_)));simp only[Vr.2.2,if_true];refine wpAny_newObj_type (wpAny_pure ⟨_,rfl,"dict_itemiterator",_,⟨_,Heap.get?_push_size _ rfl,rfl⟩,PySem.F.slot_dict_itemiterator_next.lookup,?_⟩) (by simp only[sizeOk,Builtin.Dict_items.ownedTupleFields,List.size_toArray,List.length_append,List.length_cons,List.length_nil,sizeLine_eq];omega);refine zq _ ?_ (size_push' _ _) fun b o e=>xi _ e;unfold ItI;rw[xt _ rfl];simp[rawInt,Builtin.Dict_items.ownedTupleFields]
theorem hG{a:Addr}{Q:Option Obj→Shared→Prop}(ho:s.heap.get? a=none)(h:Q none s):wpAny (model prog w) A (loadIfAlive a) Q E s:=by
 have h':Q (s.heap.get? a) s:=by rw[ho];exact h
 exact fun _ _ _=>h'
theorem rc{Q:Option Value→Shared→Prop}(zi:ItI s.heap it d i es.size ep f0 f1 ok ov)(alt:f0=.none∨∃(a:Addr) (b:Bool),f0=rawInt a∧f1=.bool b)(zm:RwD s.heap d es ep)(zx:i<es.size)(zq:∀(g:Heap) (e0 e1 x y:Value),ItI g it d (i+1) es.size ep e0 e1 x y→(∃(a:Addr) (b:Bool),e0=rawInt a∧e1=.bool b)→g.get? s.heap.objs.size=some (duo es[i].key es[i].val)→g.objs.size=s.heap.objs.size+1→
   (∀b o,b≠it→s.heap.get? b=some o→g.get? b=some o)→Q (some (.ref s.heap.objs.size)) {s with heap:=g}):wpAny (model prog w) A (pyNext (.ref it)) Q E s:=by
 obtain⟨hp,gs,dr,tk,os⟩:=s;obtain⟨od,yo,_,yd⟩:=zm;have ty:Shared.TypeIs ⟨hp,gs,dr,tk,os⟩ (.ref it) "dict_itemiterator":=⟨_,zi,rfl⟩;refine U8 ty PySem.F.slot_dict_itemiterator_next PySem.F.entry_dict_itemiterator_next (PySem.F.args_dict_itemiterator_next_1 _) (bP (io (io (io (zo ty (pi (io (z8 zi rfl ?_))))))));simp only[Vr.2.2,if_true];show wpAny (model prog w) _ (if (Value.ref d==Value.none)=true then _ else _) _ _ _;rw[xm (Ww d)];refine bP (io (xU yo yd ?_));rw[if_neg (by simp)];refine bP (wpAny_bind (wpAny_dictEpoch yo yd ?_));rw[if_neg (by simp)];refine wpAny_pure ?_;simp only[show ¬((i:Int)<0)from by omega,if_false,Int.toNat_natCast,Array.getElem?_eq_getElem zx];refine io (io (zo ty (pi (io (wpAny_isOneOf_itemiter ty ?_)))));show wpAny (model prog w) _ (setField (.ref it) 3 (rawInt ((i:Int)+1)) >>= fun _=>_) _ _ ⟨hp,gs,dr,tk,os⟩;refine wpAny_bind (wpAny_setField_rec zi (by simp) fun g1 e1 s1=>?_);have s1:Heap.SameBut it hp g1:=s1;have e1:ItI g1 it d (i+1) es.size ep f0 f1 ok ov:=by
  have q:((i+1:Nat):Int)=(i:Int)+1:=by omega
  unfold ItI;rw[q];simpa [rawInt] using e1
 have ty1:Shared.TypeIs ⟨g1,gs,dr,tk,os⟩ (.ref it) "dict_itemiterator":=⟨_,e1,rfl⟩;refine io (xQ (io (wpAny_isOneOf_itemiter ty1 (io (wpAny_isOneOf_itemiter ty1 ?_)))));show wpAny (model prog w) _ (Builtin.Dict_items.pairFromOwner (.ref it) 6 es[i].key es[i].val) _ _ ⟨g1,gs,dr,tk,os⟩;unfold Builtin.Dict_items.pairFromOwner;refine io (wpAny_newTuple ?_);have e2:ItI (g1.push (duo es[i].key es[i].val)) it d (i+1) es.size ep f0 f1 ok ov:=xi _ e1;generalize hz:g1.push (duo es[i].key es[i].val)=g2 at e2;have z1:g1.objs.size=hp.objs.size:=s1.1;have il:it<hp.objs.size:=xk zi;have t2:g2.get? hp.objs.size=some (duo es[i].key es[i].val):=by rw[←hz,←z1];exact xt _ rfl
 have z2:g2.objs.size=hp.objs.size+1:=by rw[←hz,zZ,z1]
 have k2:∀b o,b≠it→hp.get? b=some o→g2.get? b=some o:=fun b o nb e=>by rw[←hz];exact xi _ (s1.extBut b o nb e)
 have fin:∀(g:Heap)(x0 x1 x y:Value),ItI g it d (i+1) es.size ep x0 x1 x y→(∃(a:Addr)(b:Bool),x0=rawInt a∧x1=.bool b)→Heap.SameBut it g2 g→Q (some (.ref hp.objs.size)) ⟨g,gs,dr,tk,os⟩:=fun g x0 x1 x y h1 h2 sb=>
  zq g x0 x1 x y h1 h2 (sb.extBut _ _ (ym il) t2) (by show g.objs.size=hp.objs.size+1;rw[sb.1,z2]) fun b o nb e=>sb.extBut b o nb (k2 b o nb e)
 show wpAny (model prog w) _ (Builtin.Dict_items.ownedTupleIsFree (.ref it) >>= fun _=>_) _ _ ⟨g2,gs,dr,tk,os⟩;rw[z1];unfold Builtin.Dict_items.ownedTupleIsFree
 rcases alt with rfl | ⟨a,b,rfl,rfl⟩
 ·refine io (io (zK e2 rfl (x:=.none) rfl (pi ?_)));simp only[if_true];refine wpAny_bind (wpAny_field e2 rfl (x:=ok) rfl (wpAny_bind (wpAny_field e2 rfl (x:=ov) rfl (wpAny_bind (wpAny_setField_rec e2 (by simp) fun g3 e3 s3=>wpAny_bind (wpAny_setField_rec e3 (by simp) fun g4 e4 s4=>wpAny_bind (wpAny_setField_rec e4 (by simp) fun g5 e5 s5=>wpAny_bind (wpAny_setField_rec e5 (by simp) fun g6 e6 s6=>?_))))))));refine io (wpAny_letGo (pi (pi ⟨_,rfl,fin g6 _ _ _ _ e6 ⟨_,_,rfl,rfl⟩ ?_⟩)));have s3:Heap.SameBut it g2 g3:=s3;have s4:Heap.SameBut it g3 g4:=s4;have s5:Heap.SameBut it g4 g5:=s5;have s6:Heap.SameBut it g5 g6:=s6;exact⟨by rw[s6.1,s5.1,s4.1,s3.1],fun c nc=>(s6.2 c nc).trans ((s5.2 c nc).trans ((s4.2 c nc).trans (s3.2 c nc)))⟩
 ·refine io (io (zK e2 rfl (x:=rawInt a) rfl ?_));show wpAny (model prog w) _ (loadIfAlive ((a:Int).toNat) >>= fun _=>_) _ _ _;rw[Int.toNat_natCast];cases a2:g2.get? a with
  |none=>
   refine io (hG a2 ?_);simp only[Option.isNone_none,if_true];refine pi ?_;simp only[if_true];refine wpAny_bind (wpAny_field e2 rfl (x:=ok) rfl (wpAny_bind (wpAny_field e2 rfl (x:=ov) rfl (wpAny_bind (wpAny_setField_rec e2 (by simp) fun g3 e3 s3=>wpAny_bind (wpAny_setField_rec e3 (by simp) fun g4 e4 s4=>wpAny_bind (wpAny_setField_rec e4 (by simp) fun g5 e5 s5=>wpAny_bind (wpAny_setField_rec e5 (by simp) fun g6 e6 s6=>?_))))))));refine io (wpAny_letGo (pi (pi ⟨_,rfl,fin g6 _ _ _ _ e6 ⟨_,_,rfl,rfl⟩ ?_⟩)));have s3:Heap.SameBut it g2 g3:=s3;have s4:Heap.SameBut it g3 g4:=s4;have s5:Heap.SameBut it g4 g5:=s5;have s6:Heap.SameBut it g5 g6:=s6;exact⟨by rw[s6.1,s5.1,s4.1,s3.1],fun c nc=>(s6.2 c nc).trans ((s5.2 c nc).trans ((s4.2 c nc).trans (s3.2 c nc)))⟩
  |some o=>
   refine io (W.kdx_alive a2 ?_);simp only[Option.isNone_some,Bool.false_eq_true,if_false];refine io (zK e2 rfl (x:=.bool b) rfl ?_);cases b with
   |true=>
    rw[xm (show ¬((Value.bool true != Value.bool true)=true)from xw)];refine pi ?_;simp only[Bool.false_eq_true,if_false];exact pi (pi ⟨_,rfl,fin g2 _ _ _ _ e2 ⟨_,_,rfl,rfl⟩ (Heap.SameBut.refl _ _)⟩)
   |false=>
    rw[xp (show(Value.bool false != Value.bool true)=true from rfl)];refine wpAny_bind (wpAny_setField_rec e2 (by simp) fun g3 e3 s3=>wpAny_pure ?_);simp only[Bool.false_eq_true,if_false];exact pi (pi ⟨_,rfl,fin g3 _ _ _ _ e3 ⟨_,_,rfl,rfl⟩ s3⟩)
theorem qL{Q:Option Value→Shared→Prop}(zh:A.handled=none)(zi:ItI s.heap it d i es.size ep f0 f1 ok ov)(zm:RwD s.heap d es ep)(zx:es.size≤i)(zq:∀g:Heap,Heap.ExtBut it s.heap g→Q none {s with heap:=g}):wpAny (model prog w) A (pyNext (.ref it)) Q E s:=by
 obtain⟨od,yo,_,yd⟩:=zm;have ty:s.TypeIs (.ref it) "dict_itemiterator":=⟨_,zi,rfl⟩;refine U8 ty PySem.F.slot_dict_itemiterator_next PySem.F.entry_dict_itemiterator_next (PySem.F.args_dict_itemiterator_next_1 _) (bP (io (io (io (zo ty (pi (io (z8 zi rfl ?_))))))));simp only[Vr.2.2,if_true];show wpAny (model prog w) _ (if (Value.ref d==Value.none)=true then _ else _) _ _ s;rw[xm (Ww d)];refine bP (io (xU yo yd ?_));rw[if_neg (by simp)];refine bP (wpAny_bind (wpAny_dictEpoch yo yd ?_));rw[if_neg (by simp)];refine wpAny_pure ?_;simp only[show ¬((i:Int)<0)from by omega,if_false,Int.toNat_natCast,Array.getElem?_eq_none zx];refine io (io (zo ty (pi ?_)));show wpAny (model prog w) _ (setField (.ref it) 2 .none >>= fun _=>_) _ _ s;refine wpAny_bind (wpAny_setField zi rfl (by simp) (Xa (by simpa using zh) fun g e k ty=>⟨ty,zq g fun b u nb eb=>k b u ?_⟩));exact(yC _ _ (Ne.symm nb)).trans eb
end
def beh(I n:Nat):List Addr:=(List.range n).map fun j=>I+1+j
theorem lV(I n:Nat):beh I (n+1)=beh I n++[I+1+n]:=by
 unfold beh;rw[List.range_succ,xN];rfl
theorem jf(I n:Nat):(beh I n).length=n:=by
 unfold beh;rw[xh,zT]
theorem lB(I j:Nat):I+1+j≠I:=by omega
abbrev lsO(xs:Array Value)(c:Nat):Obj:={cls:=.type "list",data:=.seq xs c}
section
variable{prog:Program}{w:World}{A:Around}{E:Value→Shared→Prop}{s:Shared}{d:Addr}{ep:Nat}{es:Array DictEntry}{R:Result→Shared→Prop}
theorem gu{S I:Addr}(zh:A.handled=none)(hSI:S<I)(hSd:d≠S)(hId:d≠I)(hn:es.size≤sizeLine)(res:Value){h0:Heap}(fin:∀(h:Heap) (tk c:Nat),(∀b o,b≠S→b≠I→h0.get? b=some o→h.get? b=some o)→h.get? S=some (lsO ((beh I es.size).map Value.ref).toArray c)→(∀(j:Nat) (hj:j<es.size),h.get? (I+1+j)=some (duo es[j].key es[j].val))→R (.ok (.ret res)) {s with heap:=h,toks:=tk}):
  ∀(k i:Nat)(h:Heap)(tk c:Nat)(f0 f1 ok ov:Value),es.size-i=k→i≤es.size→ItI h I d i es.size ep f0 f1 ok ov→(f0=.none∨∃(a:Addr)(b:Bool),f0=rawInt a∧f1=.bool b)→RwD h d es ep→(∀b o,b≠S→b≠I→h0.get? b=some o→h.get? b=some o)→
   h.get? S=some (lsO ((beh I i).map Value.ref).toArray c)→(∀(j:Nat)(hj:j<es.size),j<i→h.get? (I+1+j)=some (duo es[j].key es[j].val))→h.objs.size=I+1+i→
   codeAny (model prog w) A (.builtin "list.extend.loop" ⟨[.ref S,.ref I,res],[]⟩) R {s with heap:=h,toks:=tk}:=by
 have ne:S≠I:=xx hSI;intro k
 induction k with
 |zero=>
  intro i h tk c f0 f1 ok ov hk hi st alt hD keep hS tp hz;obtain rfl:i=es.size:=by omega
  refine yA PySem.F.entry_extend_loop ?_;rw[yi za _];refine wpAny_bind (m:=pyNext (.ref I)) (qL (s:={s with heap:=h,toks:=tk}) (A:=A.in1) (by simpa using zh) st hD (Nat.le_refl _) fun g x=>wpAny_pure (fin g tk c (fun b o h1 h2 e=>x b o h2 (keep b o h1 h2 e)) (x S _ ne hS) fun j hj=>x _ _ (lB I j) (tp j hj hj)))
 |succ k ih=>
  intro i h tk c f0 f1 ok ov hk hi st alt hD keep hS tp hz;have AA:i<es.size:=by omega
  refine yA PySem.F.entry_extend_loop ?_;rw[yi za _];refine io (m:=pyNext (.ref I)) (rc (s:={s with heap:=h,toks:=tk}) (A:=A.in1) st alt hD AA fun g x0 x1 x y AI al tg zg kp=>?_);dsimp only at tg zg kp al⊢;rw[hz]at tg zg⊢;have hSl:S<h.objs.size:=xk hS;have hS':=kp S _ ne hS;have up:∀b o,b≠S→g.get? b=some o→(g.update S (Obj.mapSeq (·.push (Value.ref (I+1+i))))).get? b=some o:=fun b o nb e=>(yC _ _ (Ne.symm nb)).trans e;have hl:((beh I i).map Value.ref).toArray.size=i:=by rw[xO,xh,jf]
  obtain⟨c2,u2⟩:∃c2,(g.update S (Obj.mapSeq (·.push (Value.ref (I+1+i))))).get? S=some (lsO ((beh I (i+1)).map Value.ref).toArray c2):=by
   have u:=Af (c:="list") hS' (fun x=>x.push (Value.ref (I+1+i)));rw[List.push_toArray]at u;rw[lV,xN];exact⟨_,u⟩
  show wpAny (model prog w) A.in1 (updateSeq S (·.push (Value.ref (I+1+i))) >>= fun _=>_) _ _ _;refine io (wpAny_updateSeq hS' rfl (pi ⟨zL za _,ih (i+1) _ tk c2 x0 x1 x y (by omega) AA (up I _ (Ne.symm ne) AI) (.inr al) (hD.at fun o e=>up d o hSd (kp d o hId e)) (fun b o h1 h2 e=>up b o h1 (kp b o h2 (keep b o h1 h2 e))) u2 (fun j hj ji=>?_) ?_⟩) (by rw[hl];omega) (by rw[Array.size_push,hl];omega))
  ·by_cases z:j=i
   ·subst z;exact up _ _ (ym (xH hSI (by omega))) tg
   ·exact up _ _ (ym (xH hSI (by omega))) (kp _ _ (lB I j) (tp j hj (by omega)))
  ·rw[Heap.size_update,zg];omega
theorem rS:(Value.type "dict_items" == Value.type "list")=false∧(Value.type "dict_items" == Value.type "tuple")=false:=by decide
theorem Oq{S r:Addr}(zh:A.handled=none)(zv:s.heap.IsItemsView r d)(zm:RwD s.heap d es ep)(hSr:S≠r)(hSd:d≠S)(hn:es.size≤sizeLine)(res:Value){c0:Nat}(eS:s.heap.get? S=some (lsO #[] c0))(fin:∀(h:Heap) (tk c:Nat),(∀b o,b≠S→s.heap.get? b=some o→h.get? b=some o)→h.get? S=some (lsO ((beh s.heap.objs.size es.size).map Value.ref).toArray c)→(∀(j:Nat) (hj:j<es.size),h.get? (s.heap.objs.size+1+j)=some (duo es[j].key es[j].val))→R (.ok (.ret res)) {s with heap:=h,toks:=tk}):
  wpAny (model prog w) A.in1 (Builtin.List.listExtendWith (.ref S) (.ref r) res) (fun fin s'=>match fin with
   |.done f=>R (.ok f) s'
   |.again c'=>c'.quiet=true∧codeAny (model prog w) A c' R s') (fun e s'=>R (.error e) s') s:=by
 have lS:S<s.heap.objs.size:=xk eS;unfold Builtin.List.listExtendWith;refine io (yW zv.typeIs ?_);have sm:Builtin.List.listSameRef (.ref S) (.ref r)=false:=by
  unfold Builtin.List.listSameRef;simpa using hSr
 rw[sm,rS.1,rS.2,xm (by decide)];refine io (oV zv zm fun g1 st z1 kp=>?_);refine io (xQ (W.kdx_hint (s:={s with heap:=g1}) (let ⟨o,ho,hc,_⟩:=zv;⟨o,kp _ _ ho,hc⟩) ?_));refine Up (by kernel_rfl) (io (zV ?_));unfold Builtin.List.listTouch;skip;have u1:=Af (c:="list") (kp _ _ eS) (fun x=>x.push Value.none);have u2:=Af (c:="list") u1 (fun x=>x.pop);refine wpAny_bind (wpAny_bind (listUpdate_at (kp _ _ eS) rfl (listUpdate_at u1 rfl ?_ (by simp[sizeLine_eq]) (by simp)) (by simp) (by simp[sizeLine_eq])));obtain⟨c2,u3⟩:∃c2,((g1.update S (Obj.mapSeq fun x=>x.push Value.none)).update S (Obj.mapSeq fun x=>x.pop)).get? S=some (lsO #[] c2):=⟨_,u2⟩;have k2:∀b o,b≠S→g1.get? b=some o→((g1.update S (Obj.mapSeq fun x=>x.push Value.none)).update S (Obj.mapSeq fun x=>x.pop)).get? b=some o:=fun b o nb e=>by
  rw[zX _ _ _ _ nb,zX _ _ _ _ nb];exact e
 have z2:((g1.update S (Obj.mapSeq fun x=>x.push Value.none)).update S (Obj.mapSeq fun x=>x.pop)).objs.size=s.heap.objs.size+1:=by rw[Heap.size_update,Heap.size_update,z1]
 generalize (g1.update S (Obj.mapSeq fun x=>x.push Value.none)).update S (Obj.mapSeq fun x=>x.pop)=g2 at u3 k2 z2;refine pi ⟨zL za _,gu (s:=s) (es:=es) (ep:=ep) (h0:=s.heap) zh lS hSd (xx zm.lt) hn res (fun h tk c kh hS tp=>fin h tk c (fun b o nb e=>kh b o nb (xx (xk e)) e) hS tp) es.size 0 g2 s.toks c2 .none (.bool false) .none .none (Nat.sub_zero _) (yh _) (k2 _ _ (ym lS) st) (.inl rfl) (zm.at fun o e=>k2 d o hSd (kp d o e)) (fun b o nb _ e=>k2 b o nb (kp b o e)) u3 (fun j hj ji=>absurd ji (Aq j)) z2⟩
def ColI(s:Shared)(es:Array DictEntry)(q:Result)(s':Shared):Prop:=∃(g:Heap)(tk c:Nat),q=.ok (.ret (.ref s.heap.objs.size))∧s'={s with heap:=g,toks:=tk}∧(∀b o,s.heap.get? b=some o→g.get? b=some o)∧
 g.get? s.heap.objs.size=some (lsO ((beh (s.heap.objs.size+1) es.size).map Value.ref).toArray c)∧∀(j:Nat)(hj:j<es.size),g.get? (s.heap.objs.size+1+1+j)=some (duo es[j].key es[j].val)
theorem Qn{r:Addr}{C:List Value→Shared→Prop}(zh:A.handled=none)(zv:s.heap.IsItemsView r d)(zm:RwD s.heap d es ep)(hn:es.size≤sizeLine)(h:∀(g:Heap) (tk:Nat),(∀b o,s.heap.get? b=some o→g.get? b=some o)→(∀(j:Nat) (hj:j<es.size),g.get? (s.heap.objs.size+1+1+j)=some (duo es[j].key es[j].val))→C ((beh (s.heap.objs.size+1) es.size).map Value.ref) {s with heap:=g,toks:=tk}):wpAny (model prog w) A (collect (.ref r)) C E s:=by
 have lr:r<s.heap.objs.size:=let ⟨_,e,_⟩:=zv;xk e
 unfold collect;refine io (wpAny_runValue (yA entry_proto_collect' ?_));rw[yi PySem.F.plain_proto_collect _];refine io (m:=newList []) (xT (pi ⟨zL yU _,yA entry_list_iadd' ?_⟩));rw[yi yU _];have own:(s.heap.push {cls:=.type "list",data:=.seq ([]:List Value).toArray}).get? s.heap.objs.size=some (lsO #[] 0):=xt _ rfl;have sz:(s.heap.push {cls:=.type "list",data:=.seq ([]:List Value).toArray}).objs.size=s.heap.objs.size+1:=size_push' _ _;have run:=Oq (prog:=prog) (w:=w) (A:=A) (s:={s with heap:=s.heap.push {cls:=.type "list",data:=.seq ([]:List Value).toArray}}) (R:=ColI s es) (es:=es) (ep:=ep) (r:=r) zh (let ⟨o,e,x⟩:=zv;⟨o,xi _ e,x⟩) (zm.at fun o e=>xi _ e) (ym lr) (xx zm.lt) hn (.ref s.heap.objs.size) own
  (fun g tk c hk hS tp=>⟨g,tk,c,rfl,rfl,fun b o e=>hk b o (xx (xk e)) (xi _ e),by rw[←sz];exact hS,fun j hj=>by rw[←sz];exact tp j hj⟩)
 refine yB run (fun fin s' y=>?_) (fun _ _ y=>by obtain⟨_,_,_,e,_⟩:=y;cases e);have last:∀{g:Heap}{tk c:Nat},(∀b o,s.heap.get? b=some o→g.get? b=some o)→g.get? s.heap.objs.size=some (lsO ((beh (s.heap.objs.size+1) es.size).map Value.ref).toArray c)→(∀(j:Nat)(hj:j<es.size),g.get? (s.heap.objs.size+1+1+j)=some (duo es[j].key es[j].val))→
   wpAny (model prog w) A (load s.heap.objs.size >>= fun u=>match u.data with
    |.seq xs _=>pure xs.toList
    |_=>unsupported "internal:collect") C E {s with heap:=g,toks:=tk}:=fun{g tk c} hk hS tp=>io (As hS (pi (by rw[List.toList_toArray];exact h g tk hk tp)))
 cases fin with
 |done f=>
  obtain⟨g,tk,c,e,rfl,hk,hS,tp⟩:=y;cases e;exact last hk hS tp
 |again c1=>
  refine⟨y.1,Aa y.2 fun q s2 z=>?_⟩;obtain⟨g,tk,c,rfl,rfl,hk,hS,tp⟩:=z;exact last hk hS tp
end
def leP(a b:(Int×Int)×Int):Bool:=decide (a.1.1<b.1.1) || (decide (a.1.1=b.1.1) && (decide (a.1.2<b.1.2) || (decide (a.1.2=b.1.2) && decide (a.2≤b.2))))
theorem Ua{a b:(Int×Int)×Int}:leP a b=true↔a.1.1<b.1.1∨(a.1.1=b.1.1∧(a.1.2<b.1.2∨(a.1.2=b.1.2∧a.2≤b.2))):=by
 unfold leP;simp only[Bool.or_eq_true,Bool.and_eq_true,decide_eq_true_iff]
theorem jL(a b:(Int×Int)×Int):(leP a b || leP b a)=true:=by
 rw[Bool.or_eq_true,Ua,Ua];omega
theorem kW(a b c:(Int×Int)×Int)(h1:leP a b=true)(h2:leP b c=true):leP a c=true:=by
 rw[Ua]at *;omega
theorem dJ{a b:(Int×Int)×Int}(h1:leP a b=true)(h2:leP b a=true):a=b:=by
 rw[Ua]at h1 h2;exact yT (yT (by omega) (by omega)) (by omega)
def aL(ps:Sps):Sps:=ps.mergeSort leP
theorem Zy(ps:Sps):(aL ps).Perm ps:=List.mergeSort_perm _ _
theorem T8(ps:Sps):(aL ps).Pairwise (fun a b=>leP a b=true):=List.pairwise_mergeSort kW jL ps
theorem O8{α:Type}{le:α→α→Bool}(anti:∀{a b},le a b=true→le b a=true→a=b):∀{l m:List α},l.Perm m→l.Pairwise (fun a b=>le a b=true)→m.Pairwise (fun a b=>le a b=true)→l=m
 | [],m,p,_,_=>List.Perm.nil_eq p
 |a::l,[],p,_,_=>absurd p.length_eq (by simp)
 |a::l,b::m,p,h1,h2=>by
  have e:a=b:=by
   rcases xv.mp (p.mem_iff.mp xP)with q | q
   ·exact q
   ·rcases xv.mp (p.mem_iff.mpr xP)with r | r
    ·exact r.symm
    ·exact anti ((xR.mp h1).1 b r) ((xR.mp h2).1 a q)
  subst e;rw[O8 anti ((List.perm_cons a).mp p) (xR.mp h1).2 (xR.mp h2).2]
theorem Nl{α:Type}(F:Addr→α→Prop)(fu:∀{a k l},F a k→F a l→k=l){le:α→α→Bool}(anti:∀{a b},le a b=true→le b a=true→a=b){as bs:List Addr}{ks srt:List α}(h:Paired F as ks)(p:bs.Perm as)(pw:bs.Pairwise fun a b=>∀k l,F a k→F b l→le k l=true)(sp:srt.Perm ks)(sw:srt.Pairwise fun a b=>le a b=true):Paired F bs srt:=by
 classical
 cases ks with
 |nil=>
  cases h;rw[p.eq_nil,sp.eq_nil];exact .nil
 |cons k0 ks0=>
  let key:Addr→α:=fun a=>if h:∃k,F a k then Classical.choose h else k0
  have kat:∀{a k},F a k→key a=k:=fun{a k} f=>by
   have ex:∃k,F a k:=⟨k,f⟩;show(if h:∃k,F a k then Classical.choose h else k0)=k;rw[dif_pos ex];exact fu (Classical.choose_spec ex) f
  have all:∀{l:List Addr}{m:List α},Paired F l m→l.map key=m∧∀a∈l,F a (key a):=fun{l m} r=>by
   induction r with
   |nil=>exact⟨rfl,fun _ h=>nomatch h⟩
   | @cons b k l m e _ ih=>
    have kb:=kat e;refine⟨by rw[xu,kb,ih.1],fun c hc=>?_⟩
    rcases xv.mp hc with z | hc
    ·rw[z,kb];exact e
    ·exact ih.2 c hc
  obtain⟨e1,e2⟩:=all h;have atb:∀b∈bs,F b (key b):=fun b hb=>e2 b (p.mem_iff.mp hb);have back:∀{l:List Addr},(∀b∈l,F b (key b))→Paired F l (l.map key):=fun{l} hl=>by
   induction l with
   |nil=>exact .nil
   |cons b l ih=>exact .cons (hl b (.head _)) (ih fun c hc=>hl c (.tail _ hc))
  have eq:bs.map key=srt:=O8 anti ((p.map key).trans (by rw[e1];exact sp.symm)) (yY.mpr (pw.imp_of_mem fun{a b} ha hb q=>q _ _ (atb a ha) (atb b hb))) sw;rw[←eq];exact back atb
def FT(H:Hp)(a:Addr)(p:(Int×Int)×Int):Prop:=∃b:Addr,H a=some (.tup [.ref b,.int p.2])∧H b=some (.tup [.int p.1.1,.int p.1.2])
theorem FT.fu{H:Hp}{a:Addr}{p q:(Int×Int)×Int}(h:FT H a p)(g:FT H a q):p=q:=by
 obtain⟨b,e1,e2⟩:=h;obtain⟨c,f1,f2⟩:=g;rw[e1]at f1;injection f1 with f1
 injection f1 with f1
 injection f1 with g1 g2
 injection g1 with g1
 injection g2 with g2 _
 injection g2 with g2
 subst g1;rw[e2]at f2;injection f2 with f2
 injection f2 with f2
 injection f2 with k1 k2
 injection k1 with k1
 injection k2 with k2 _
 injection k2 with k2
 exact yT (yT k1 k2) g2
theorem mU{H:Hp}{as:List Addr}{ps:Sps}(h:Paired (FT H) as ps):TPsAt H (as.map V.ref) (aj ps):=by
 induction h with
 |nil=>exact .nil
 |cons h r ih=>
  obtain⟨_,e1,e2⟩:=h;exact .cons e1 e2 ih
theorem wE{p q:(Int×Int)×Int}(h:(bM (bM aB aB) aB).blt q p=false):leP p q=true:=by
 rw[Ua];have h:b8 (bM aB aB) aB q p=false:=h;by_cases c:p.1.1<q.1.1
 ·exact .inl c
 have no:∀{z:Bool},z=true→z=false→False:=fun a b=>by rw[a]at b;cases b
 have n1:¬q.1.1<p.1.1:=fun c=>no (Yk.mpr (.inl (Yk (O:=aB) (U:=aB).mpr (.inl (xB c))))) h;have e1:p.1.1=q.1.1:=by omega
 refine .inr ⟨e1,?_⟩;have n2:¬q.1.2<p.1.2:=fun c=>no (Yk.mpr (.inl (Yk (O:=aB) (U:=aB).mpr (.inr ⟨e1.symm,xB c⟩)))) h;by_cases c2:p.1.2<q.1.2
 ·exact .inl c2
 have e2:p.1.2=q.1.2:=by omega
 refine .inr ⟨e2,?_⟩;have n3:¬q.2<p.2:=fun c=>no (Yk.mpr (.inr ⟨yT e1.symm e2.symm,xB c⟩)) h;omega
section
variable{X:Cx}
def qX:List V→Hp→VK→Prop:=fun xs H Q=>∃(v d:Addr)(ps:Sps),xs=[.ref v]∧H v=some (iA v d)∧H d=some (.dT (aj ps))∧ps.length<64∧
 ∀(H1:Hp)(as:List Addr),Same H H1→Paired (FT H1) as (aL ps)→∀q,H1 q=none→H q=none→Q (.ref q) (upd H1 q (.lst (as.map V.ref)))
theorem oD{H:Hp}:∀{ps:Sps}{xs:List TKv}{j:Nat}{p:(Int×Int)×Int},KT H (aj ps) xs→ps[j]?=some p→∃x,xs[j]?=some x∧H x.2.1=some (.tup [.int p.1.1,.int p.1.2])∧∃t,x.2.2=.int p.2 t:=fun{ps xs j p} kt e=>by
 have e2:(aj ps)[j]?=some (kk p.1,.int p.2):=by unfold aj;rw[xE,e];rfl
 obtain⟨x,h1,h2,t,h3⟩:=fU kt e2;exact⟨x,h1,h2,t,h3⟩
theorem dZ(hc:X.calm=true)(hu:X.A.units+64<cLine):aH X (.builtin "sorted") qX:=by
 intro Av s σ H xs us Q I rx h;obtain⟨v,d,ps,rfl,hv,hd,h64,q⟩:=h;obtain⟨u,rfl,ru⟩:=X6 rx;cases ru;obtain⟨_,lo,ks,es,ep,kt,raw,ek,ev,sz⟩:=T6 I.hok (.inl hd);obtain⟨view,_⟩:=(show ObjOk X.prog X.w H s.heap v (iA v d)from I.hok v _ hv);rw[Yp]at sz;have kl:ks.length=ps.length:=by rw[←xG kt,Yp]
 let n:=s.heap.objs.size
 let L:Hp:=fun b=>if n+2≤b then(match ks[b-(n+2)]?,ps[b-(n+2)]? with
  |some x,some p=>some (.tup [.ref x.2.1,.int p.2])
  |_,_=>none)else none
 have Lat:∀(j:Nat)(x:TKv)(p:(Int×Int)×Int),ks[j]?=some x→ps[j]?=some p→L (n+1+1+j)=some (.tup [.ref x.2.1,.int p.2]):=fun j x p h1 h2=>by
  show(if n+2≤n+1+1+j then _ else none)=_;rw[xp (by omega),show n+1+1+j-(n+2)=j by omega,h1,h2]
 refine P4 (uf (prog:=X.prog) (w:=X.w)) (T5 (prog:=X.prog) (w:=X.w)) FTI (fun{Av σ H s a k} I h=>?_) (((0:Int),(0:Int)),(0:Int)) hu (fun{E C} hC=>Qn (A:=X.A.in1) (by simpa using I.ok.hd hc) view raw (Zq (by omega)) fun g tk kp tp=>?_)
 ·obtain⟨b,i,j,n,h,hb,rfl⟩:=h;obtain⟨o,m,u,v,e1,e2,e3,ru,⟨t',rv⟩⟩:=hO I h;obtain⟨o2,m2,u2,v2,g1,g2,g3,⟨t2,ru2⟩,⟨t3,rv2⟩⟩:=hO I hb;exact⟨a,o,m,u,v,rfl,e1,e2,e3,⟨b,o2,m2,u2,v2,ru,g1,g2,g3,⟨t2,ru2⟩,⟨t3,rv2⟩⟩,⟨t',rv⟩⟩
 have ent:∀(j:Nat)(hj:j<es.size)(x:TKv),ks[j]?=some x→es[j].key=.ref x.2.1∧es[j].val=x.2.2:=fun j hj x hx=>by
  have q1:(es.toList.map DictEntry.key)[j]?=some es[j].key:=by rw[xE,yq,xC hj];rfl
  have q2:(es.toList.map DictEntry.val)[j]?=some es[j].val:=by rw[xE,yq,xC hj];rfl
  rw[ek,xE,xE,hx]at q1;rw[ev,xE,hx]at q2;exact⟨(xK q1).symm,(xK q2).symm⟩
 have nw:∀b o,n≤b→L b=some o→ObjOk X.prog X.w (over H n L) g b o:=fun b o hb e=>by
  have e:(if n+2≤b then(match ks[b-(n+2)]?,ps[b-(n+2)]? with
   |some x,some p=>some (HO.tup [.ref x.2.1,.int p.2])
   |_,_=>none)else none)=some o:=e
  by_cases hb2:n+2≤b
  ·rw[xp hb2]at e;have hj:b-(n+2)<ps.length:=by
    by_cases z:b-(n+2)<ps.length
    ·exact z
    ·rw[Ai (Nat.not_lt.mp z)]at e;cases z2:ks[b-(n+2)]? <;> rw[z2]at e <;> cases e
   have hp:ps[b-(n+2)]?=some ps[b-(n+2)]:=xz hj;obtain⟨x,hx,_,t,hv⟩:=oD kt hp;rw[hx,hp]at e;cases e;have hje:b-(n+2)<es.size:=by omega
   obtain⟨k1,k2⟩:=ent _ hje x hx;have tb:=tp _ hje;rw[k1,k2,hv,show s.heap.objs.size+1+1+(b-(n+2))=b by show n+1+1+(b-(n+2))=b;omega]at tb;exact⟨Zq (leN rfl),[.ref x.2.1,.int _ t],.cons rfl (.cons ⟨t,rfl⟩ .nil),⟨_,tb,⟨rfl,rfl⟩,_,rfl⟩⟩
  ·rw[xm hb2]at e;cases e
 obtain⟨I',sm⟩:=I.over (t':=tk) kp nw;have pr:Paired (FT (over H n L)) (beh (n+1) es.size) ps:=by
  have go:∀(l:Sps)(m:Nat),(∀j p,l[j]?=some p→ps[m+j]?=some p)→m+l.length=ps.length→Paired (FT (over H n L)) ((List.range l.length).map fun j=>n+1+1+(m+j)) l:=fun l=>by
   induction l with
   |nil=>intro m _ _;exact .nil
   |cons p l ih=>
    intro m hl hm;have e0:=hl 0 p rfl;obtain⟨x,hx,hb,_⟩:=oD kt e0;have q:=ih (m+1) (fun j p e=>by have:=hl (j+1) p (by simpa using e);rwa [show m+(j+1)=m+1+j by omega]at this) (by rw[List.length_cons]at hm;omega);rw[xD,List.range_succ_eq_map,xu,yg];refine .cons ⟨x.2.1,?_,sm _ _ hb⟩ ?_
    ·rw[fc (by omega)];exact Lat (m+0) x p hx e0
    ·have ef:((fun j=>n+1+1+(m+j))∘Nat.succ)=fun j=>n+1+1+(m+1+j):=by
      funext j
      show n+1+1+(m+(j+1))=_;omega
     rw[ef];exact q
  have:=go ps 0 (fun j p e=>by rwa [Nat.zero_add]) (by omega);rw[sz];unfold beh;simpa using this
 refine hC g tk (over H n L) (beh (n+1) es.size) I' (by rw[jf];omega) (fun a ha=>?_) fun bs bp pw q0 nq=>?_
 ·have:∀{l:List Addr}{m:Sps},Paired (FT (over H n L)) l m→a∈l→∃k,FTI (over H n L) a k:=fun{l m} r=>by
   induction r with
   |nil=>intro h;exact nomatch h
   |cons e _ ih=>
    intro h
    rcases xv.mp h with z | h
    ·obtain⟨b,e1,e2⟩:=e;rw[z];exact⟨_,b,_,_,_,e1,e2,rfl⟩
    ·exact ih h
  exact this pr ha
 ·refine q (over H n L) bs sm (Nl (FT (over H n L)) (fun f g=>f.fu g) (fun a b=>dJ a b) pr bp (pw.imp fun{a b} h k l fk fl=>?_) (Zy ps) (T8 ps)) q0 nq ?_
  ·obtain⟨b1,e1,e2⟩:=fk;obtain⟨b2,f1,f2⟩:=fl;exact wE (h k l ⟨b1,_,_,_,e1,e2,rfl⟩ ⟨b2,_,_,_,f1,f2,rfl⟩)
  ·by_cases z:H q0=none
   ·exact z
   ·obtain⟨u,hu⟩:=Option.ne_none_iff_exists'.mp z;rw[sm _ _ hu]at nq;cases nq
end
section
variable{P:Program}{w:World}{A:Around}{E:Value→Shared→Prop}{s:Shared}{a b:Addr}{es:Array DictEntry}{ep e2:Nat}
theorem nM{nm:String}{Q:Bool→Shared→Prop}(ha:(a==sysModules)=false)(hb:(b==sysModules)=false)(ra:RwD s.heap a es ep)(rb:RwD s.heap b #[] e2)(h:Q (decide (es.size=0)) s):wpAny (model P w) A (Builtin.Dict.samePairs nm a b) Q E s:=by
 obtain⟨oa,ga,_,qa⟩:=ra;obtain⟨ob,gb,_,qb⟩:=rb;have sh:∀{d:Addr}{R:Unit→Shared→Prop},(d==sysModules)=false→R () s→wpAny (model P w) A (Builtin.Dict.showsAll d) R E s:=fun{d R} hd hr=>by
  unfold Builtin.Dict.showsAll;rw[xm (by rw[hd];decide)];exact pi hr
 unfold Builtin.Dict.samePairs;refine io (sh ha (io (sh hb (io (xU ga qa (io (xU gb qb ?_)))))));by_cases hl:es.size=0
 ·obtain rfl:es=#[]:=Array.eq_empty_of_size_eq_zero hl;rw[if_neg (by simp)];refine io (Ar ga qa (io ?_));rw[Std.Legacy.Range.forIn_eq_forIn_range'];exact pi (pi h)
 ·rw[if_pos (by simpa using hl)];rw[yk hl]at h;exact io (zV (pi h))
theorem Oj(ha:(a==sysModules)=false)(hb:(b==sysModules)=false):MeetsIn P w (Builtin.«dict.__ne__» ⟨[.ref a,.ref b],[]⟩) (fun _ R s=>RwD s.heap a es ep∧RwD s.heap b #[] e2∧R (.ok (.ret (.bool (!decide (es.size=0))))) s):=
 .of_wp fun A R s ⟨ra,rb,h⟩=>by
  show wpAny (model P w) _ (Builtin.Dict.dictSlotArgs "__ne__" ⟨[.ref a,.ref b],[]⟩ >>= fun _=>_) _ _ s;refine io ?_;unfold Builtin.Dict.dictSlotArgs;refine io (yO ra.typeIs (show wpAny (model P w) _ (pure (Value.ref a,Value.ref b)) _ _ s from pi (io (An rb.typeIs isSubtype_dict_dict ?_))));rw[xm (by decide)];show wpAny (model P w) _ (Builtin.Dict.samePairs _ a b >>= fun _=>_) _ _ s;refine io (nM ha hb ra rb ?_);have bt:∀c:Bool,(c==false)=!c:=fun c=>by cases c <;> rfl
  rw[bt];exact pi ⟨_,rfl,h⟩
end
theorem qY{X:Cx}(hu:X.A.units<cLine):OpR X (compareOp .NotEq) (fun x y H Q=>∃(a b:Addr)(kvs:List (List Key×V)),x=.ref a∧y=.ref b∧H a=some (.dT kvs)∧H b=some (.dT [])∧Q (.bl (!decide (kvs.length=0))) H):=by
 intro Av s σ H x y v u Q I rx ry h;obtain⟨a,b,kvs,rfl,rfl,ea,eb,q⟩:=h;cases rx;cases ry;obtain⟨_,la,_,es,ep,_,ra,_,_,sz⟩:=T6 I.hok (.inl ea);obtain⟨_,lb,_,e2,p2,_,rb,_,_,s2⟩:=T6 I.hok (.inl eb);obtain rfl:e2=#[]:=Array.eq_empty_of_size_eq_zero s2;refine wpAny_richCompare_same_room (op:=.NotEq) ra.typeIs rb.typeIs PySem.F.slot_dict_ne (call_meetsIn PySem.F.slot_dict_ne ra.typeIs PySem.F.entry_dict_ne (PySem.F.args_dict_ne_2 _ _) (Oj la lb) ⟨ra,rb,?_⟩) hu;refine⟨(fun z=>nomatch z),.bl _,H,I,rfl,?_⟩;rw[sz];exact q
theorem pO{X:Cx}(hu:X.A.units+64<cLine):OpR X (compareOp .In) (fun x y H Q=>∃(a:Addr)(o:Option V),y=.ref a∧DGet H a x o∧Q (.bl o.isSome) H):=by
 intro Av s σ H x y v u Q I rx ry h;obtain⟨a,o,rfl,g,q⟩:=h;cases ry;exact d_in (by omega) I g rx fun s' I'=>⟨.bl _,H,I',rfl,q⟩
theorem Pi{it t:Addr}{items:Array Value}(hne:t≠it):∀(n i:Nat)(s:Shared)(Q:List Value→Shared→Prop),s.heap.IsListIter it t i→s.heap.IsList t items→i+n≤items.size→
  (∀h',h'.IsListIter it t (i+n)→Heap.SameBut it s.heap h'→Q ((items.toList.drop i).take n) {s with heap:=h'})→wpAny (model prog w) A (draw (.ref it) n) Q E s
 | 0,i,s,Q,hit,_,_,hQ=>by
  show wpAny _ _ (pure []) Q E s;exact wpAny_pure (by simpa using hQ s.heap hit (Heap.SameBut.refl ..))
 |n+1,i,s,Q,hit,ht,hle,hQ=>by
  have AA:i<items.size:=by omega
  show wpAny _ _ (pyNext (.ref it) >>= _) Q E s;refine wpAny_bind (wpAny_pyNext_list_item hit ht (x:=items[i]) (by simp[AA]) fun h1 hit1 hs1=>?_);refine io (xQ (Pi hne n (i+1) _ _ hit1 (ht.extBut hs1.extBut hne) (by omega) fun h2 hit2 hs2=>pi ?_));have hd:items.toList.drop i=items[i]::items.toList.drop (i+1):=by simp[List.drop_eq_getElem_cons,AA]
  have:=hQ h2 (by rw[show i+(n+1)=i+1+n by omega];exact hit2) (hs1.trans hs2);rw[hd,List.take_succ_cons]at this;exact this
theorem Tq{env:Env}{elts:List Expr}{x1}{pos:Pos}{t:Addr}{items:Array Value}{Q:Unit→Shared→Prop}(hh:A.handled=none)(ht:s.heap.IsList t items)(hn:(assignEach elts env).length=items.size)(hstar:(assignEach elts env).findIdx? (·.1)=none)(h:∀h',Heap.ExtBut s.heap.objs.size s.heap h'→wpAny (model prog w) A (assignInOrder ((assignEach elts env).map (·.2)) items.toList) Q E {s with heap:=h'}):
  wpAny (model prog w) A (assign (.Tuple elts x1 pos) env (.ref t)) Q E s:=by
 rw[assign_Tuple];refine io (wpAny_standAt ?_);unfold unpack;rw[hn,hstar];refine io (xQ ?_);have AA:t≠s.heap.objs.size:=by obtain⟨o,ho,_⟩:=ht;exact xx (xk ho)
 unfold unpackItems;refine io ?_;unfold notIterableAtAll;refine io (Ap ht.typeIs slot_list_iter.lookup ?_);refine pi ?_;simp only[Bool.false_eq_true,if_false];refine io (xQ (Ak ht ?_));have htp:(s.heap.push {cls:=.type "list_iterator",data:=.fields #[.ref t,.int 0 0]}).IsList t items:=by
  obtain⟨o,ho,r⟩:=ht;exact⟨o,xi _ ho,r⟩
 refine io (xQ (Pi AA items.size 0 _ _ ⟨_,xt _ rfl,rfl,rfl⟩ htp (by omega) fun h1 hit1 hs1=>?_));have hall:List.take items.size (List.drop 0 items.toList)=items.toList:=by
  rw[List.drop_zero];exact List.take_of_length_le (by simp)
 rw[hall];rw[if_neg (by simp)];have ht1:h1.IsList t items:=htp.extBut hs1.extBut AA;refine wpAny_bind (wpAny_holding (wpAny_pyNext_list_end hh hit1 ht1 (by simp) fun h2 he2=>?_));simp only[Option.isSome_none,Bool.false_eq_true,if_false];exact pi (h h2 fun b o hb e=>he2 b o hb (hs1.extBut b o hb (xi _ e)))
section
variable{X:Cx}{pos:Pos}
def gLst(K:W.Frag)(n:Nat)(t:TGs):TG:=fun v σ H Q=>∃a xs,v=.ref a∧SqL K H a xs∧xs.length=n∧t xs σ H Q
theorem uU{es:List Expr}{k:Nat}{t:TGs}{n:Nat}(hc:X.calm=true)(h:PGs X es t)(hn:(assignEach es X.env).length=n:=by rfl)(hst:(assignEach es X.env).findIdx? (·.1)=none:=by rfl):PG X (.Tuple es k pos) (gLst X.K n t):=by
 intro Av s σ H v u Q I r hw;obtain⟨a,xs,e1,hq,hl,hw⟩:=hw;subst e1;cases r;obtain⟨its,rv,p,hz⟩:=I.list hq;refine Tq (I.ok.hd hc) p.isList (by simp[hn,←hl,rv.length]) hst fun h' hx=>?_;have I1:Inv X Av σ H {s with heap:=h'}:=I.kept (t':=s.toks) fun b o e=>hx b o (xx (xk e)) e;exact h Av _ σ H xs _ Q I1 (by simpa using rv) hw
end
section
variable{X:Cx}
def wX(i:Nat):TE:=fun σ H Q=>match List.getD σ i none with
 |some v=>Q v H
 |none=>False
theorem qv{e:Expr}{i:Nat}(h:PE X e (uu i)):PE X e (wX i):=fun Av s σ H Q I q=>h Av s σ H Q I (by
 unfold wX at q;cases e1:List.getD σ i none with
 |none=>rw[e1]at q;exact q.elim
 |some v=>
  rw[e1]at q;refine⟨v,?_,q⟩;unfold List.getD at e1;cases e2:σ[i]? with
  |none=>rw[e2]at e1;cases e1
  |some o=>rw[e2]at e1;exact zG some e1)
def qI(C:Int→Int→Prop)(g:Int→Int→V):R2:=fun x y H Q=>match x,y with
 |.int i,.int j=>C i j∧Q (g i j) H
 |_,_=>False
def qI0(g:Int→Int→V):R2:=fun x y H Q=>match x,y with
 |.int i,.int j=>Q (g i j) H
 |_,_=>False
theorem qi{C:Int→Int→Prop}{g:Int→Int→V}{f:Value→Value→Sem Value}(h:OpR X f (rI C g)):OpR X f (qI C g):=fun Av s σ H x y v u Q I rx ry q=>h Av s σ H x y v u Q I rx ry (by
 cases x <;> cases y <;> first | exact q.elim | exact⟨_,_,rfl,rfl,q.1,q.2⟩)
theorem qi0{g:Int→Int→V}{f:Value→Value→Sem Value}(h:OpR X f (rI0 g)):OpR X f (qI0 g):=fun Av s σ H x y v u Q I rx ry q=>h Av s σ H x y v u Q I rx ry (by
 cases x <;> cases y <;> first | exact q.elim | exact⟨_,_,rfl,rfl,q⟩)
def qIx(A:Hp→Addr→List V→Prop):R2:=fun x y H Q=>match x,y with
 |.ref p,.int i=>∃xs v,A H p xs∧atI xs i=some v∧Q v H
 |_,_=>False
theorem Wx:IxR X (qIx (SqL X.K)):=fun a b Av s σ H x y v u Q I rx ry q=>Y9 a b Av s σ H x y v u Q I rx ry (by
 cases x <;> cases y <;> first | exact q.elim | exact⟨_,q.choose,_,q.choose_spec.choose,rfl,rfl,q.choose_spec.choose_spec⟩)
def qK(Q:Bool→Hp→Prop):VK:=fun x H=>match x with
 |.bl k=>Q k H
 |_=>False
def wc(t:TE):TT:=fun σ H Q=>t σ H (qK Q)
theorem Oa{op:CmpOp}{a b:Expr}{pos:Pos}{ta tb:TE}{r:R2}(ho:OpR X (compareOp op) r)(ha:PE X a ta)(hb:PE X b tb)(hm:behindInMarks op b=false):PT X (.Compare a [op] [b] pos) (wc (tOp r ta tb)):=by
 intro Av s σ H Q I h;refine wpAny_isTrue_Compare1 (thn (ha Av s σ H _ I h) fun v s1 ⟨x,H1,I1,r1,q1⟩=>thn (hb Av s1 σ H1 _ I1 q1) fun u s2 ⟨y,H2,I2,r2,q2⟩=>
  thn (ho Av s2 σ H2 x y v u _ I2 r1 r2 q2) fun c s3 ⟨z,H3,I3,r3,q3⟩=>?_) hm
 cases z <;> first | exact q3.elim | skip
 cases r3;exact yN ⟨H3,I3,q3⟩
end
theorem Zz{X:Cx}{pos:Pos}(i:Nat){x:Str}{e:Expr}{te:TE}{pos':Pos}(hN:X.N.Nodup)(hi:X.N[i]?=some x)(hx:Loc X.env.scope x)(he:PE X e te)(hs:swapsWith e (some (.Name x pos')) pos.line X.env=pure false:=by rfl)(hf:X.fn x=true:=by rfl):PS X (.Assign [.Name x pos'] e pos) (nG te (eX i)):=@lO _ _ i _ _ _ _ hN hi hx he hs (.inl hf)
theorem Zw{N P:List Str}{sc:Scope}(a:sc.kind=.function)(b:sc.isCoroutine=false)(c:sc.isGenerator=false)(d:N.take P.length=P)(h:N.Nodup∧(∀x∈P,sc.names.lookup x=some .local∨sc.names.lookup x=some .cell)∧∀y∈sc.names,y.2≠.free):FnScope N P sc:=⟨a,b,c,h.1,d,h.2.1,h.2.2⟩
theorem Sq{X:Cx}{own:List Str}{scope:Scope}(hc:X.calm=X.calm)(hk:scope.kind=.function)(h1:gq scope.names=true:=by rfl)(h2:h8 X.env.scope.names scope.names=true:=by rfl)(h3:gF X.N scope.names=true:=by rfl):CompOk X own scope:=CompOk.of hc hk h1 h2 h3
theorem Yd{X:Cx}{a b:Expr}{ta tb:TE}{pos:Pos}{r:R2}(hr:IxR X r)(ha:PE X a ta)(hb:PE X b tb)(hs:ic b:=by exact fun _ _=>rfl):PE X (.Subscript a b pos) (tOp r ta tb):=vf hr ha hb hs
end L2
namespace K24
open PySem L2
def top(i:Nat):Stmt:=PySem.Challenge.pw_sumshare_k24_is_it_a_ladder.main.body.getD i (.Pass ⟨0,0,0,0⟩)
abbrev cf:Stmt:=top 2
theorem Ni:FnScope ["thing"] ["thing"] (ad cf):=Zw rfl rfl rfl rfl (by decide +kernel)
abbrev a7:Stmt:=top 3
theorem Tx:FnScope ["thing","least"] ["thing","least"] (ad a7):=Zw rfl rfl rfl rfl (by decide +kernel)
abbrev aN:Stmt:=top 4
theorem Uw:FnScope ["thing","least","most"] ["thing","least","most"] (ad aN):=Zw rfl rfl rfl rfl (by decide +kernel)
abbrev bJ:Stmt:=top 5
theorem O6:FnScope ["parts"] ["parts"] (ad bJ):=Zw rfl rfl rfl rfl (by decide +kernel)
theorem W1:(["one","other","parts"]:List Str).Nodup:=by decide +kernel
abbrev cE:Stmt:=top 6
theorem gc:FnScope ["thing"] ["thing"] (ad cE):=Zw rfl rfl rfl rfl (by decide +kernel)
abbrev b7:Stmt:=top 7
theorem Vk:FnScope ["thing","is_key","key","count"] ["thing","is_key"] (ad b7):=Zw rfl rfl rfl rfl (by decide +kernel)
abbrev bq:Stmt:=top 8
theorem Ql:FnScope ["thing","is_key"] ["thing","is_key"] (ad bq):=Zw rfl rfl rfl rfl (by decide +kernel)
theorem Uh:(["one","thing","is_key"]:List Str).Nodup:=by decide +kernel
theorem Xp:(["key","count","thing","is_key"]:List Str).Nodup:=by decide +kernel
abbrev bZ:Stmt:=top 10
theorem Vl:FnScope ["stretch","height","index"] ["stretch"] (ad bZ):=Zw rfl rfl rfl rfl (by decide +kernel)
abbrev cB:Stmt:=top 11
theorem Uu:FnScope ["stretch","height","index"] ["stretch"] (ad cB):=Zw rfl rfl rfl rfl (by decide +kernel)
abbrev bO:Stmt:=top 12
theorem V2:FnScope ["stretch","height","index"] ["stretch"] (ad bO):=Zw rfl rfl rfl rfl (by decide +kernel)
abbrev cD:Stmt:=top 13
theorem V3:FnScope ["stretch","height","index","lesser"] ["stretch"] (ad cD):=Zw rfl rfl rfl rfl (by decide +kernel)
abbrev bC:Stmt:=top 14
theorem Wi:FnScope ["thing","deep","height","index"] ["thing","deep"] (ad bC):=Zw rfl rfl rfl rfl (by decide +kernel)
abbrev dj:Stmt:=top 16
theorem Wu:FnScope ["ladder","room","deep","counts","total"] ["ladder"] (ad dj):=Zw rfl rfl rfl rfl (by decide +kernel)
abbrev bg:Stmt:=top 17
theorem W0:FnScope ["counts","stretch","one","other"] ["counts","stretch"] (ad bg):=Zw rfl rfl rfl rfl (by decide +kernel)
abbrev aX:Stmt:=top 18
theorem Ws:FnScope ["deep","bar","counts","stretch"] ["deep","bar","counts"] (ad aX):=Zw rfl rfl rfl rfl (by decide +kernel)
abbrev bu:Stmt:=top 19
theorem X0:FnScope ["ladder","room","deep","counts","total"] ["ladder"] (ad bu):=Zw rfl rfl rfl rfl (by decide +kernel)
abbrev ae:Stmt:=top 22
theorem Y2:FnScope ["thing","room","deep","counts","total"] ["thing"] (ad ae):=Zw rfl rfl rfl rfl (by decide +kernel)
theorem Yx:(["stretch","count","thing","room","deep","counts","total"]:List Str).Nodup:=by decide +kernel
abbrev bI:Stmt:=top 23
theorem Ta:FnScope ["thing","bar"] ["thing"] (ad bI):=Zw rfl rfl rfl rfl (by decide +kernel)
theorem W2:(["stretch","count","thing","bar"]:List Str).Nodup:=by decide +kernel
abbrev dE:Stmt:=top 25
theorem mI:FnScope ["_law_script"] ["_law_script"] (ad dE):=Zw rfl rfl rfl rfl (by decide +kernel)
abbrev c_:Stmt:=top 26
theorem X3:FnScope ["_law_pen_here","_law_most","_law_found","_law_script","_law_at","_law_cell","_law_mixed"] ["_law_pen_here","_law_most"] (ad c_):=Zw rfl rfl rfl rfl (by decide +kernel)
abbrev cW:Stmt:=top 27
theorem P5:FnScope ["_law_pen_here","_law_way"] ["_law_pen_here"] (ad cW):=Zw rfl rfl rfl rfl (by decide +kernel)
abbrev ce:Stmt:=top 28
theorem Yh:FnScope ["_law_pen_here","_law_deep","_law_most","_law_found","_law_top","_law_middle","_law_k","_law_way","_law_number"] ["_law_pen_here","_law_deep","_law_most"] (ad ce):=Zw rfl rfl rfl rfl (by decide +kernel)
abbrev c9:Stmt:=top 29
theorem U3:FnScope ["_law_pen_here","_law_deep","_law_most","_law_trees","_law_at"] ["_law_pen_here","_law_deep","_law_most"] (ad c9):=Zw rfl rfl rfl rfl (by decide +kernel)
theorem S2:(["_law_k","_law_pen_here","_law_deep","_law_most","_law_trees","_law_at"]:List Str).Nodup:=by decide +kernel
abbrev ba:Stmt:=top 31
theorem Y1:FnScope ["_law_now","_law_deep","_law_bar","_law_height","_law_k","_law_parent","_law_pair","_law_whole_here","_law_told","_law_one","_law_many_here"] ["_law_now","_law_deep","_law_bar"] (ad ba):=Zw rfl rfl rfl rfl (by decide +kernel)
theorem X7:(["_law_other","_law_index","_law_now","_law_deep","_law_bar","_law_height","_law_k","_law_parent","_law_pair","_law_whole_here","_law_told","_law_one","_law_many_here"]:List Str).Nodup:=by decide +kernel
theorem Vh:(["_law_one","_law_now","_law_deep","_law_bar","_law_height","_law_k","_law_parent","_law_pair","_law_whole_here","_law_told","#9","_law_many_here"]:List Str).Nodup:=by decide +kernel
theorem Vg:(["_law_one","_law_now","_law_deep","_law_bar","_law_height","_law_k","_law_parent","_law_pair","_law_whole_here","_law_told","#9","_law_many_here"]:List Str).Nodup:=by decide +kernel
abbrev bY:Stmt:=top 32
theorem X4:FnScope ["_law_now","_law_room","_law_deep","_law_bar","_law_told","_law_some"] ["_law_now","_law_room","_law_deep"] (ad bY):=Zw rfl rfl rfl rfl (by decide +kernel)
abbrev b_:Stmt:=top 33
theorem Nh:FnScope ["_law_now","_law_room","_law_deep"] ["_law_now","_law_room","_law_deep"] (ad b_):=Zw rfl rfl rfl rfl (by decide +kernel)
abbrev cH:Stmt:=top 34
theorem Uv:FnScope ["_law_one","_law_other","_law_found","_law_stretch"] ["_law_one","_law_other"] (ad cH):=Zw rfl rfl rfl rfl (by decide +kernel)
abbrev bQ:Stmt:=top 35
theorem X9:FnScope ["_law_room","_law_deep","_law_tree_here","_law_now","_law_thing","_law_own"] ["_law_room","_law_deep","_law_tree_here"] (ad bQ):=Zw rfl rfl rfl rfl (by decide +kernel)
abbrev cJ:Stmt:=top 36
theorem Rh:FnScope ["_law_pen_here","_law_room"] ["_law_pen_here"] (ad cJ):=Zw rfl rfl rfl rfl (by decide +kernel)
abbrev ci:Stmt:=top 37
theorem Yi:FnScope ["_law_pen_here","_law_deep","_law_most","_law_found","_law_k","_law_height","_law_index","_law_some","_law_other"] ["_law_pen_here","_law_deep","_law_most"] (ad ci):=Zw rfl rfl rfl rfl (by decide +kernel)
abbrev cI:Stmt:=top 38
theorem fX:FnScope ["_law_thing","_law_low","_law_high"] ["_law_thing","_law_low","_law_high"] (ad cI):=Zw rfl rfl rfl rfl (by decide +kernel)
abbrev bw:Stmt:=top 39
theorem Uk:FnScope ["_law_one","_law_deep","_law_stretch"] ["_law_one","_law_deep"] (ad bw):=Zw rfl rfl rfl rfl (by decide +kernel)
abbrev dA:Stmt:=top 40
theorem Xi:FnScope ["_law_thing","_law_room","_law_deep","_law_counts_here","_law_total","_law_k","_law_stretch","_law_count"] ["_law_thing"] (ad dA):=Zw rfl rfl rfl rfl (by decide +kernel)
theorem Sn:(["_law_one","_law_thing","_law_room","_law_deep","_law_counts_here","_law_total","_law_k","_law_stretch","_law_count"]:List Str).Nodup:=by decide +kernel
theorem Ve:(["_law_stretch","_law_count","_law_thing","_law_room","_law_deep","_law_counts_here","_law_total","_law_k","#6","#7"]:List Str).Nodup:=by decide +kernel
abbrev dD:Stmt:=top 41
theorem Ng:FnScope ["_law_pen_here","_law_number","_law_some"] ["_law_pen_here","_law_number"] (ad dD):=Zw rfl rfl rfl rfl (by decide +kernel)
abbrev a8:Stmt:=top 42
theorem Y3:FnScope ["_law_pen_here","_law_one","_law_height","_law_index","_law_count","_law_some"] ["_law_pen_here","_law_one"] (ad a8):=Zw rfl rfl rfl rfl (by decide +kernel)
abbrev c8:Stmt:=top 43
theorem Yq:FnScope ["_law_pen_here","_law_ladder_here","_law_room","_law_deep","_law_counts_here","_law_total","_law_way","_law_some","_law_at","_law_changed"] ["_law_pen_here","_law_ladder_here"] (ad c8):=Zw rfl rfl rfl rfl (by decide +kernel)
theorem Wy:(["_law_stretch","_law_count","_law_pen_here","_law_ladder_here","_law_room","_law_deep","_law_counts_here","_law_total","_law_way","_law_some","_law_at","_law_changed"]:List Str).Nodup:=by decide +kernel
abbrev cL:Stmt:=top 44
theorem Ri:FnScope ["_law_thing","_law_found"] ["_law_thing"] (ad cL):=Zw rfl rfl rfl rfl (by decide +kernel)
abbrev cw:Stmt:=top 45
theorem Wh:FnScope ["_law_script","_law_pen_here","_law_turn","_law_room","_law_deep","_law_tree_here","_law_ladder_here","_law_k","_law_thing","_law_kept"] ["_law_script"] (ad cw):=Zw rfl rfl rfl rfl (by decide +kernel)
def bh(K:W.Frag):Sp:=fun vs H Q _=>∃(a S:Addr)(ns:List Int)(n:Int),vs=[.ref a,.int n]∧Pn K S ns H a∧0<n∧n<1073741824∧
 ∀(d:Int)(H':Hp),0≤d→d<n→Pn K S ns H' a→Grw a H H'→Q (.int d) H'
def r_(K:W.Frag):Sp:=fun vs H Q _=>∃(S:Addr)(ns:List Int),vs=[.ref S]∧SqL K H S (ns.map V.int)∧ns.length≤63∧
 ∀(p:Addr)(H':Hp),H p=none→Same H H'→Pn K S ns H' p→Q (.ref p) H'
section
variable{P:Program}{w:World}{K:W.Frag}{mg:Str→Option Value}{base:Heap}{f:Addr}{fd:FuncData}
theorem uo(F:Fun K "_law_pen" "_law_pen" dE f fd):FnOk P w K mg base CX0 1 f fd ["_law_script"] (r_ K):=by
 refine F.ok mI (fun vs H Q E h=>?_) (fun cdv A outer s H vs Q E hr h=>?_)
 ·obtain⟨a,ns,rfl,_⟩:=h;rfl
 obtain⟨S,ns,rfl,hS,h63,hq⟩:=h;refine⟨_,(Z8 (Zh (Zv (Z0 (qv (pv 0)) (Z0 Z2 (Z0 Z2 Z1)))))),?_⟩;refine⟨leN rfl,fun p np=>?_⟩;exact hq p _ np (Z9 np _) ⟨⟨0,0,Z7⟩,iy (Z9 np _) hS,h63⟩
theorem pT(am:mg "len"=none)(F:Fun K "_law_take" "_law_take" c_ f fd):FnOk P w K mg base CX0 1 f fd ["_law_pen_here","_law_most"] (bh K):=by
 refine F.ok X3 (fun vs H Q E h=>?_) (fun cdv A outer s H vs Q E hr h=>?_)
 ·obtain⟨a,S,ns,n,rfl,_⟩:=h;rfl
 obtain⟨a,S,ns,n,rfl,hp,h0,h1,hq⟩:=h;refine⟨_,(Z4 (Y4 (Oa (qi0 Rp) (Yd Wx (qv (pv 0)) Z2) Z2 (Zl _)) (Z4 (Zz 2 X3.nd rfl (Or.inl rfl) (Zc (qi Xn) (Yd Wx (qv (pv 0)) Z2) (qv (pv 1))))
 (Z4 (Yu (Zc (qi Xr) (Yd Wx (qv (pv 0)) Z2) (qv (pv 1))) (gJ (qv (pv 0)) Z2 Rg))
 (Z8 (Zh (qv (pv 2)))))) Zn)
 (Z4 (Zz 3 X3.nd rfl (Or.inl rfl) (Yd Wx (qv (pv 0)) Z2))
 (Z4 (Zz 4 X3.nd rfl (Or.inl rfl) (Yd Wx (qv (pv 0)) Z2))
 (Z4 (Yu (Zc (qi0 Zs) (qv (pv 4)) Z2) (gJ (qv (pv 0)) Z2 Rg))
 (Z4 (Zz 5 X3.nd rfl (Or.inl rfl) (Zc (qi0 Zs) (Zc (qi Xc) Z2 (qv (pv 4))) Z2))
 (Z4 (Y4 (Oa (qi0 Rp) (Zd Zj rfl am x9 (Z0 (qv (pv 3)) Z1)) Z2 (Zl _)) (Z8 (Zz 5 X3.nd rfl (Or.inl rfl) (Zc (qi0 Zs) (Yd Wx (qv (pv 3)) (Zc (qi Xn) (qv (pv 4)) (Zd Zj rfl am x9 (Z0 (qv (pv 3)) Z1)))) (Zc (qi Xc) Z2 (Zc (qi Xr) (qv (pv 4)) (Zd Zj rfl am x9 (Z0 (qv (pv 3)) Z1))))))) Zn)
 (Z4 (Y4 (PW.pt (Rj (Oa (qi0 im) (qv (pv 4)) (Zd Zj rfl am x9 (Z0 (qv (pv 3)) Z1)) (Zl _)) (Td (Oa (qi0 rD) (qv (pv 5)) (Zc (qi Vs) Z2 Z2) (Zl _))))) (Z4 (Yu (Zc (qi Xr) (qv (pv 5)) (qv (pv 1))) (gJ (qv (pv 0)) Z2 Rg))
 (Z8 (Zh (Zc (qi Xn) (qv (pv 5)) (qv (pv 1)))))) Zn)
 (Z4 (Zz 6 X3.nd rfl (Or.inl rfl) (Zc (qi Xn) (Zc (qi Xc) (Zc (qi0 Zs) (Zc (qi0 Zs) (Zc (qi Xn) (qv (pv 5)) Z2) (Zc (qi Xc) Z2 (qv (pv 4)))) Z2) Z2) Z2))
 (Z4 (Zz 6 X3.nd rfl (Or.inl rfl) (Zc (qi Xn) (Zc (qi0 Zs) (Zc (qi0 Zs) (Zc (qi Xc) (qv (pv 6)) (qv (pv 6))) (Zc (qi Xc) Z2 (qv (pv 6)))) (qv (pv 4))) Z2))
 (Z8 (Zh (Zc (qi Xn) (Zc (qi Xr) (Zc (qi Xn) (Zc (qi0 Zs) (Zc (qi0 Zs) (Zc (qi Xc) (qv (pv 6)) (qv (pv 6))) (Zc (qi Xc) Z2 (qv (pv 6)))) (Zc (qi Xc) Z2 (qv (pv 4)))) Z2) Z2) (qv (pv 1)))))))))))))),?_⟩
 obtain⟨i,r,e⟩:=hp.at_;have hl:(ns.map V.int).length=ns.length:=xh _;have few:=hp.few;refine⟨_,_,SqL.of e,i8 _ _ _,?_⟩;refine X2 (fun c=>?_) (fun c=>?_)
 ·refine⟨_,_,SqL.of e,i8 _ _ _,h0,?_⟩;refine⟨_,_,SqL.of e,i8 _ _ _,⟨h0,h1⟩,a,_,2,_,rfl,rfl,e,rfl,?_⟩;exact hq _ _ (zF _ (by omega)) (yS _ h0) (hp.upd _ _) We
 refine⟨_,_,SqL.of e,ww _ _ _,?_⟩;refine⟨_,_,SqL.of e,rW _ _ _,?_⟩;refine⟨a,_,1,_,rfl,rfl,e,rfl,?_⟩;have hp1:=hp.upd (i+1) r;have g1:Grw a H (upd H a (.lst [.ref S,.int (i+1),.int r])):=We;have e1:(upd H a (.lst [.ref S,.int (i+1),.int r])) a=some (.lst [.ref S,.int (i+1),.int r]):=Z7;have hS:=hp1.scr;refine⟨kf rfl rfl,?_⟩;refine⟨S,_,rfl,.inl hS,?_⟩;refine X2 (fun c=>?_) (fun c=>?_)
 focus
  have c:=xy c;rw[hl]at c;have hm:=zF i (show(ns.length:Int)≠0 by omega);have hm2:=yS i c;obtain⟨v,hv,hmem⟩:=nV (xs:=ns.map V.int) hm (by rw[hl];exact hm2);obtain⟨n1,_,rfl⟩:=xI.mp hmem;refine⟨S,_,rfl,.inl hS,by rw[hl];exact c,_,_,hS,by rw[hl];exact hv,?_⟩;refine⟨S,_,rfl,.inl hS,⟨by rw[hl];exact c,by rw[hl];omega⟩,kf rfl rfl,?_⟩
 all_goals
  refine⟨S,_,rfl,.inl hS,?_⟩;refine X2 (fun c1=>?_) (fun c1=>?_)
  focus
   refine⟨Np rfl rfl rfl,?_⟩;refine X2 (fun c2=>?_) (fun c2=>?_)
   focus
    refine⟨⟨h0,h1⟩,a,_,2,_,rfl,rfl,e1,rfl,?_⟩;refine⟨h0,?_⟩;exact hq _ _ (zF _ (by omega)) (yS _ h0) (hp1.upd _ _) (g1.trans We)
  all_goals
   refine⟨Xb rfl,kf rfl rfl,mulR rfl rfl,Xb rfl,?_⟩;refine⟨vj _ _ _ rfl rfl,kf rfl rfl,Xb rfl,?_⟩;refine⟨vj _ _ _ rfl rfl,kf rfl rfl,kf rfl rfl,Xb rfl,wk rfl rfl,h0,?_⟩;exact hq _ _ (zF _ (by omega)) (yS _ h0) hp1 g1
end
end K24
namespace L2
open PySem PySem.Spec PyProof.Rows
theorem blk{p:Prop}(h:p):p:=h
end L2
namespace L2
open PySem
def sO(X:Cx)(ss:List Stmt):TS:=fun D σ H=>∃t:TS,PSs X ss t∧t D σ H
theorem Zi{X:Cx}{ss:List Stmt}:PSs X ss (sO X ss):=fun Av s σ H D I ⟨_,h,q⟩=>h Av s σ H D I q
section
variable{K:W.Frag}{a:Addr}{xs:List V}{g:TG}{tb:TS}{D:Ends}{σ:St}{H:Hp}
theorem Ue(Pv:Nat→St→Hp→Prop)(h0:Pv 0 σ H)(hl:∀i σ H,i≤xs.length→Pv i σ H→SqL K H a xs)(hs:∀i x σ H (N B:St→Hp→Prop) (R:VK),(∀σ' H',Pv (i+1) σ' H'→N σ' H')→(∀v H',D.rt v H'→R v H')→xs[i]?=some x→Pv i σ H→g x σ H fun σ2 H2=>tb {nx:=N,rt:=R,bk:=B,ct:=N} σ2 H2)(hd:∀σ H,Pv xs.length σ H→D.nx σ H):
  ∃W:Nat→Nat→St→Hp→Prop,(∃m,W 0 m σ H)∧∀i m σ H,W i m σ H→
   ((Itl K a).stop i H∧D.nx σ H)∨((Itl K a).go i H∧∃N:St→Hp→Prop,(∀σ' H',N σ' H'→∃m',m'<m∧W (i+1) m' σ' H')∧∀x H',(Itl K a).yld i H x H'→g x σ H' fun σ2 H2=>tb {D with nx:=N,ct:=N,bk:=D.nx} σ2 H2):=
 nP Pv h0 hl (fun i x σ H hx p=>hs i x σ H _ _ _ (fun _ _ q=>q) (fun _ _ q=>q) hx p) hd
theorem oz(Pv:Nat→St→Hp→Prop)(h0:Pv 0 σ H)(hl:∀i σ H,i≤xs.length→Pv i σ H→SqT K H a xs)(hs:∀i x σ H (N B:St→Hp→Prop) (R:VK),(∀σ' H',Pv (i+1) σ' H'→N σ' H')→(∀v H',D.rt v H'→R v H')→xs[i]?=some x→Pv i σ H→g x σ H fun σ2 H2=>tb {nx:=N,rt:=R,bk:=B,ct:=N} σ2 H2)(hd:∀σ H,Pv xs.length σ H→D.nx σ H):
  ∃W:Nat→Nat→St→Hp→Prop,(∃m,W 0 m σ H)∧∀i m σ H,W i m σ H→
   ((Itt K a).stop i H∧D.nx σ H)∨((Itt K a).go i H∧∃N:St→Hp→Prop,(∀σ' H',N σ' H'→∃m',m'<m∧W (i+1) m' σ' H')∧∀x H',(Itt K a).yld i H x H'→g x σ H' fun σ2 H2=>tb {D with nx:=N,ct:=N,bk:=D.nx} σ2 H2):=
 qd Pv h0 hl (fun i x σ H hx p=>hs i x σ H _ _ _ (fun _ _ q=>q) (fun _ _ q=>q) hx p) hd
theorem Xe{lo:Int}{n:Nat}(Pv:Nat→St→Hp→Prop)(h0:Pv 0 σ H)(hs:∀i σ H (N B:St→Hp→Prop) (R:VK),(∀σ' H',Pv (i+1) σ' H'→N σ' H')→(∀v H',D.rt v H'→R v H')→i<n→Pv i σ H→g (.int (lo+i)) σ H fun σ2 H2=>tb {nx:=N,rt:=R,bk:=B,ct:=N} σ2 H2)(hd:∀σ H,Pv n σ H→D.nx σ H):
  ∃W:Nat→Nat→St→Hp→Prop,(∃m,W 0 m σ H)∧∀i m σ H,W i m σ H→
   ((Itr lo n).stop i H∧D.nx σ H)∨((Itr lo n).go i H∧∃N:St→Hp→Prop,(∀σ' H',N σ' H'→∃m',m'<m∧W (i+1) m' σ' H')∧∀x H',(Itr lo n).yld i H x H'→g x σ H' fun σ2 H2=>tb {D with nx:=N,ct:=N,bk:=D.nx} σ2 H2):=
 j9 Pv h0 (fun i σ H hi p=>hs i σ H _ _ _ (fun _ _ q=>q) (fun _ _ q=>q) hi p) hd
end
theorem Wz{α:Type}{n:Nat}{P:List α→Prop}(h:∀a r,r.length=n→P (a::r)):∀us:List α,us.length=n+1→P us:=fun us e=>by
 cases us with
 |nil=>cases e
 |cons a r=>exact h a r (Nat.succ.inj e)
theorem Oo{α:Type}{P:List α→Prop}(h:P []):∀us:List α,us.length=0→P us:=fun us e=>by
 cases us with
 |nil=>exact h
 |cons a r=>cases e
theorem Fun.b1{K:W.Frag}{x qual:Str}{st:Stmt}{f:Addr}{fd:FuncData}{p0:Str}(F:Fun K x qual st f fd)(h:∀(kV doc pm:Value) (an:Option Addr) (cdv ct u0:Value),bindArgs (W.fnOf x qual (ay st) (aw st) (ad st) .none kV doc pm an cdv ct) ⟨[u0],[]⟩=pure [(p0,u0)]):Binds K fd [p0] []:=F.binds fun kV doc pm an cdv ct=>Wz fun u0=>Oo (h kV doc pm an cdv ct u0)
theorem Fun.b2{K:W.Frag}{x qual:Str}{st:Stmt}{f:Addr}{fd:FuncData}{p0 p1:Str}(F:Fun K x qual st f fd)(h:∀(kV doc pm:Value) (an:Option Addr) (cdv ct u0 u1:Value),bindArgs (W.fnOf x qual (ay st) (aw st) (ad st) .none kV doc pm an cdv ct) ⟨[u0,u1],[]⟩=pure [(p0,u0),(p1,u1)]):Binds K fd [p0,p1] []:=F.binds fun kV doc pm an cdv ct=>Wz fun u0=>Wz fun u1=>Oo (h kV doc pm an cdv ct u0 u1)
theorem Fun.b3{K:W.Frag}{x qual:Str}{st:Stmt}{f:Addr}{fd:FuncData}{p0 p1 p2:Str}(F:Fun K x qual st f fd)(h:∀(kV doc pm:Value) (an:Option Addr) (cdv ct u0 u1 u2:Value),bindArgs (W.fnOf x qual (ay st) (aw st) (ad st) .none kV doc pm an cdv ct) ⟨[u0,u1,u2],[]⟩=pure [(p0,u0),(p1,u1),(p2,u2)]):Binds K fd [p0,p1,p2] []:=F.binds fun kV doc pm an cdv ct=>Wz fun u0=>Wz fun u1=>Wz fun u2=>Oo (h kV doc pm an cdv ct u0 u1 u2)
end L2
namespace Ld
open PySem L2
def aD(k:Int×Int):Int×Int:=(k.1+1,k.2 / 2)
def ak(ps:Sps)(k:Int×Int):Option V:=aS (aj ps) (kk k)
theorem Tg:∀(ps:Sps)(k:Int×Int),ak ps k=none∨∃n,ak ps k=some (.int n)
 | [],k=>.inl rfl
 |p::ps,k=>by
  unfold ak aj;rw[xu];by_cases e:kk p.1=kk k
  ·rw[Yg e];exact .inr ⟨_,rfl⟩
  ·rw[Ye e];exact Tg ps k
def aO(ps:Sps)(k:Int×Int)(n:Int):Sps:=if (ps.any fun p=>decide (p.1=k))=true then ps.map (fun p=>if p.1=k then(p.1,n)else p)else ps++[(k,n)]
def az(ps:Sps)(k:Int×Int):Sps:=ps.filter fun p=>decide (p.1≠k)
theorem Q5{p q:Int×Int}:kk p=kk q↔p=q:=⟨S5,fun e=>by rw[e]⟩
theorem Ob(ps:Sps)(k:Int×Int)(n:Int):bc (aj ps) (kk k) (.int n)=aj (aO ps k n):=by
 have ea:((aj ps).any fun kv=>decide (kv.1=kk k))=ps.any fun p=>decide (p.1=k):=by
  unfold aj;rw[List.any_map]
  congr 1
  funext p
  exact decide_eq_decide.mpr Q5
 unfold bc aO;rw[ea]
 split
 ·unfold aj;rw[yg,yg]
  congr 1
  funext p
  show(if kk p.1=kk k then(kk p.1,V.int n) else(kk p.1,V.int p.2))=_;by_cases e:p.1=k
  ·rw[xp (Q5.mpr e)];show _=(kk (if p.1=k then(p.1,n)else p).1,V.int (if p.1=k then(p.1,n)else p).2);rw[xp e]
  ·rw[xm (fun z=>e (S5 z))];show _=(kk (if p.1=k then(p.1,n)else p).1,V.int (if p.1=k then(p.1,n)else p).2);rw[xm e]
 ·unfold aj;rw[xN];rfl
theorem qj(ps:Sps)(k:Int×Int):bF (aj ps) (kk k)=aj (az ps k):=by
 unfold bF az aj;rw[List.filter_map]
 congr 1
 refine List.filter_congr fun p _=>?_;exact decide_eq_decide.mpr (not_congr Q5)
theorem N0{ps:Sps}{k:Int×Int}:(ps.any fun p=>decide (p.1=k))=true↔k∈ps.map (·.1):=by
 rw[List.any_eq_true,xI];exact⟨fun⟨p,h,e⟩=>⟨p,h,xy e⟩,fun⟨p,h,e⟩=>⟨p,h,xB e⟩⟩
theorem Vn(ps:Sps)(k:Int×Int)(n:Int):(aO ps k n).map (·.1)=if k∈ps.map (·.1)then ps.map (·.1)else ps.map (·.1)++[k]:=by
 unfold aO;by_cases h:k∈ps.map (·.1)
 ·rw[xp (N0.mpr h),xp h,yg]
  congr 1
  funext p
  show(if p.1=k then(p.1,n)else p).1=p.1
  split <;> rfl
 ·rw[xm (fun z=>h (N0.mp z)),xm h,xN];rfl
theorem Uf(ps:Sps)(k:Int×Int):(az ps k).map (·.1)=(ps.map (·.1)).filter fun x=>decide (x≠k):=by
 unfold az;rw[List.filter_map];rfl
theorem Oc(ps:Sps)(k:Int×Int)(n:Int):(aO ps k n).length≤ps.length+1:=by
 unfold aO
 split
 ·rw[xh];omega
 ·rw[xn];exact xj _
theorem eC(ps:Sps)(k:Int×Int):(az ps k).length≤ps.length:=Aj _ _
theorem W5(ps:Sps)(k j:Int×Int)(n:Int):ak (aO ps k n) j=if j=k then some (.int n)else ak ps j:=by
 unfold ak;rw[←Ob,lZ];by_cases e:j=k
 ·rw[xp (Q5.mpr e),xp e]
 ·rw[xm (fun z=>e (S5 z)),xm e]
theorem X5(p:(Int×Int)×Int)(ps:Sps)(j:Int×Int):ak (p::ps) j=if p.1=j then some (.int p.2)else ak ps j:=by
 unfold ak aj;rw[xu];by_cases e:p.1=j
 ·rw[xp e,Yg (by show kk p.1=kk j;rw[e])]
 ·rw[xm e,Ye (fun z=>e (S5 z))]
theorem Xx:∀(ps:Sps)(k j:Int×Int),ak (az ps k) j=if j=k then none else ak ps j
 | [],k,j=>by
  show none=if j=k then none else none
  split <;> rfl
 |p::ps,k,j=>by
  have ih:=Xx ps k j;unfold az at ih⊢;by_cases e:p.1=k
  ·rw[List.filter_cons,if_neg (by simpa using e),ih,X5];by_cases z:j=k
   ·rw[xp z,xp z]
   ·rw[xm z,xm z,xm (fun q=>z (by rw[←q,e]))]
  ·rw[zn,xp (xB e),X5,ih,X5];by_cases z:j=k
   ·rw[xp z,xp z,xm (fun q=>e (by rw[q,z]))]
   ·rw[xm z,xm z]
theorem mC(k:Int×Int):k≠aD k:=fun e=>by
 have:k.1=k.1+1:=zG (·.1) e;omega
theorem W6{ps:Sps}{k:Int×Int}:(ak ps k).isSome=true↔k∈ps.map (·.1):=by
 unfold ak;rw[←Wm,←N0];have ea:((aj ps).any fun kv=>decide (kv.1=kk k))=ps.any fun p=>decide (p.1=k):=by
  unfold aj;rw[List.any_map]
  congr 1
  funext p
  exact decide_eq_decide.mpr Q5
 rw[ea]
theorem jK{ps:Sps}{k:Int×Int}(h:(ak ps k).isSome=true):∃m,ak ps k=some (.int m):=by
 rcases Tg ps k with z | z
 ·rw[z]at h;cases h
 ·exact z
def cnt(ps:Sps)(k:Int×Int):Int:=match ak ps k with
 |some (.int n)=>n
 |_=>0
theorem Wd:∀{ps:Sps}{p:(Int×Int)×Int},(ps.map (·.1)).Nodup→p∈ps→ak ps p.1=some (.int p.2)
 |q::ps,p,nd,h=>by
  rw[xu,xW]at nd;rw[X5]
  rcases xv.mp h with e | h
  ·rw[e,xp rfl]
  ·rw[xm (fun z=>nd.1 (by rw[z];exact xI.mpr ⟨p,h,rfl⟩))];exact Wd nd.2 h
theorem Rw{ps:Sps}{k:Int×Int}(h:k∈ps.map (·.1)):ak ps k=some (.int (cnt ps k)):=by
 obtain⟨m,e⟩:=jK (W6.mpr h);unfold cnt;rw[e]
theorem U9{ps:Sps}{k:Int×Int}(h:k∉ps.map (·.1)):ak ps k=none:=by
 rcases Tg ps k with z | ⟨n,z⟩
 ·exact z
 ·exact absurd (W6.mp (by rw[z];rfl)) h
theorem fK{ps:Sps}{p:(Int×Int)×Int}(nd:(ps.map (·.1)).Nodup)(h:p∈ps):cnt ps p.1=p.2:=by
 unfold cnt;rw[Wd nd h]
theorem Vb{ps:Sps}{k:Int×Int}(h:k∉ps.map (·.1)):cnt ps k=0:=by
 unfold cnt;rw[U9 h]
theorem Vx(ps:Sps)(k:Int×Int):(ak ps k).getD (.int 0)=.int (cnt ps k):=by
 unfold cnt
 rcases Tg ps k with z | ⟨n,z⟩ <;> rw[z] <;> rfl
theorem Vy{ps qs:Sps}{j k:Int×Int}(h:ak ps j=ak qs k):cnt ps j=cnt qs k:=by
 unfold cnt;rw[h]
theorem Oz(ps:Sps)(k j:Int×Int)(n:Int):cnt (aO ps k n) j=if j=k then n else cnt ps j:=by
 unfold cnt;rw[W5];by_cases e:j=k
 ·rw[xp e,xp e]
 ·rw[xm e,xm e]
theorem Rt{ps:Sps}{p:(Int×Int)×Int}(nd:(ps.map (·.1)).Nodup):p∈ps↔ak ps p.1=some (.int p.2):=by
 refine⟨Wd nd,fun h=>?_⟩;have hk:p.1∈ps.map (·.1):=W6.mp (by rw[h];rfl);obtain⟨q,hq,e⟩:=xI.mp hk;have hq2:=Wd nd hq;rw[e,h]at hq2;injection hq2 with hq2
 injection hq2 with hq2
 have:q=p:=yT e hq2.symm;rw[←this];exact hq
theorem iz{α β:Type}{f:α→β}{l:List α}(h:(l.map f).Nodup):l.Nodup:=(yY.mp h).imp fun h e=>h (by rw[e])
theorem perm_nd{α:Type}[DecidableEq α]:∀{l m:List α},l.Nodup→m.Nodup→(∀a,a∈l↔a∈m)→l.Perm m
 | [],m,_,_,h=>by
  cases m with
  |nil=>exact .refl _
  |cons b m=>exact absurd ((h b).mpr (.head _)) yw
 |a::l,m,nl,nm,h=>by
  rw[xW]at nl;have ha:=(h a).mp (.head _);refine .trans (List.Perm.cons a (perm_nd nl.2 (nm.erase a) fun b=>?_)) (List.perm_cons_erase ha).symm;rw[nm.mem_erase_iff];refine⟨fun hb=>⟨fun e=>nl.1 (by rw[←e];exact hb),(h b).mp (.tail _ hb)⟩,fun⟨ne,hb⟩=>((xv.mp ((h b).mpr hb)).resolve_left ne)⟩
theorem U6{ps qs:Sps}(np:(ps.map (·.1)).Nodup)(nq:(qs.map (·.1)).Nodup)(h:∀k,ak ps k=ak qs k):ps.Perm qs:=
 perm_nd (iz np) (iz nq) fun p=>by rw[Rt np,Rt nq,h]
theorem Yz{ps qs:Sps}(h:ps.Perm qs)(np:(ps.map (·.1)).Nodup)(k:Int×Int):ak ps k=ak qs k:=by
 have nq:(qs.map (·.1)).Nodup:=(h.map _).nodup_iff.mp np;by_cases hk:k∈ps.map (·.1)
 ·obtain⟨p,hp,rfl⟩:=xI.mp hk;rw[Wd np hp,Wd nq (h.mem_iff.mp hp)]
 ·rw[U9 hk,U9 fun z=>hk ((h.map _).mem_iff.mpr z)]
def ai(ps:Sps):Int:=(ps.map (·.2)).sum
theorem Re:∀{ps:Sps}{k:Int×Int},(ps.map (·.1)).Nodup→ai (az ps k)=ai ps-cnt ps k
 | [],k,_=>by
  show(0:Int)=0-cnt [] k;rfl
 |p::ps,k,nd=>by
  rw[xu,xW]at nd;have ih:=Re (k:=k) nd.2;unfold ai az at ih⊢;by_cases e:p.1=k
  ·have o:cnt ps k=0:=Vb (by rw[←e];exact nd.1);have c:cnt (p::ps) k=p.2:=by unfold cnt;rw[X5,xp e]
   rw[List.filter_cons,if_neg (by simpa using e),ih,o,c,List.map_cons,List.sum_cons];omega
  ·have c:cnt (p::ps) k=cnt ps k:=by unfold cnt;rw[X5,xm e]
   rw[zn,xp (xB e),xu,xY,ih,c,xu,xY];omega
theorem Wj{ps:Sps}{k:Int×Int}{n:Int}(nd:(ps.map (·.1)).Nodup):((aO ps k n).map (·.1)).Nodup:=by
 rw[Vn]
 split
 ·exact nd
 ·rename_i h;exact zR.mpr ⟨nd,xW.mpr ⟨yw,zy⟩,fun x hx y hy e=>h (by rw[xq.mp hy]at e;rw[←e];exact hx)⟩
theorem R5{ps:Sps}{k:Int×Int}(nd:(ps.map (·.1)).Nodup):((az ps k).map (·.1)).Nodup:=by
 rw[Uf];exact nd.filter _
theorem T7{ps qs:Sps}(h:ps.Perm qs):ai ps=ai qs:=Rk (h.map _)
theorem O0{ps:Sps}{k:Int×Int}{n:Int}(nd:(ps.map (·.1)).Nodup):ai (aO ps k n)=ai ps-cnt ps k+n:=by
 have h:(aO ps k n).Perm ((k,n)::az ps k):=by
  have hk:k∉(az ps k).map (·.1):=by
   rw[Uf];intro z;have:=(yJ.mp z).2;simp at this
  refine U6 (Wj nd) (by rw[xu];exact xW.mpr ⟨hk,R5 nd⟩) fun j=>?_;rw[W5,X5,Xx];by_cases e:j=k
  ·rw[xp e,xp e.symm]
  ·rw[xm e,xm (Ne.symm e),xm e]
 rw[T7 h];have:=Re (k:=k) nd;unfold ai at this⊢;rw[xu,xY,this];omega
end Ld
namespace Ld
open PySem L2
def cN(ps:Sps)(k:Int×Int)(m n:Int):Sps:=az (aO (aO ps (aD k) n) k (m-m)) k
theorem jT{ps:Sps}{k:Int×Int}{m n:Int}(hk:k∈ps.map (·.1)):(cN ps k m n).map (·.1)=if aD k∈ps.map (·.1) then(ps.map (·.1)).filter (fun x=>decide (x≠k)) else(ps.map (·.1)).filter (fun x=>decide (x≠k))++[aD k]:=by
 unfold cN;have k2:k∈(aO ps (aD k) n).map (·.1):=by
  rw[Vn]
  split
  ·exact hk
  ·exact yy _ hk
 rw[Uf,Vn,xp k2,Vn]
 split
 ·rfl
 ·rw[List.filter_append,zn,xp (xB (Ne.symm (mC k)))];rfl
def mea(or:Int)(ks:List (Int×Int)):Nat:=(ks.map fun k=>(or+1-k.1).toNat).sum
theorem Rv{or:Int}{k:Int×Int}:∀{ks:List (Int×Int)},ks.Nodup→k∈ks→mea or (ks.filter fun x=>decide (x≠k))+(or+1-k.1).toNat=mea or ks
 | [],_,h=>nomatch h
 |x::ks,nd,h=>by
  rw[xW]at nd;by_cases e:x=k
  ·subst e;have o:ks.filter (fun y=>decide (y≠x))=ks:=List.filter_eq_self.mpr fun y hy=>xB fun z=>nd.1 (by rw[←z];exact hy);rw[List.filter_cons,if_neg (by simp),o];unfold mea;rw[xu,xY];omega
  ·have hk:k∈ks:=(xv.mp h).resolve_left (Ne.symm e);have ih:=Rv (or:=or) nd.2 hk;rw[zn,xp (xB e)];unfold mea at ih⊢;rw[xu,xY,xu,xY];omega
theorem Ru{or:Int}{ks ls:List (Int×Int)}(h:ks.Perm ls):mea or ks=mea or ls:=(h.map _).sum_nat
theorem lT{or:Int}(h:or≤20):∀{ks:List (Int×Int)},(∀k∈ks,0≤k.1)→mea or ks≤21*ks.length
 | [],_=>yh _
 |k::ks,hk=>by
  have ih:=lT h fun x hx=>hk x (.tail _ hx);have h0:=hk k (.head _);unfold mea at ih⊢;rw[xu,xY,xD];omega
structure Kok(or:Int)(ks:List (Int×Int)):Prop where
 nd:ks.Nodup
 st:∀k∈ks,0≤k.1∧k.1≤or∧0≤k.2∧k.2<2^(or-k.1).toNat
theorem Kok.perm{or:Int}{ks ls:List (Int×Int)}(h:Kok or ks)(p:ls.Perm ks):Kok or ls:=⟨p.nodup_iff.mpr h.nd,fun k hk=>h.st k (p.mem_iff.mp hk)⟩
theorem Wn{m:Int}(h:m≤10):(1:Int)≤2^m.toNat∧(2:Int)^m.toNat≤1024:=by
 have a1:(2:Nat)^m.toNat≤2^10:=Nat.pow_le_pow_right (by decide) (by omega);have a2:0<(2:Nat)^m.toNat:=Nat.pow_pos (by decide);have a3:((2^m.toNat:Nat):Int)=(2:Int)^m.toNat:=by push_cast;rfl
 have a4:(2:Nat)^10=1024:=by decide
 rw[←a3];omega
theorem mK{h or i:Int}(hd:h<or)(i1:i<2^(or-h).toNat):i / 2<2^(or-(h+1)).toNat:=by
 have e:(or-h).toNat=(or-(h+1)).toNat+1:=by omega
 rw[e,Int.pow_succ]at i1;omega
theorem uG{or:Int}{k:Int×Int}(hd:k.1<or)(s:0≤k.1∧k.1≤or∧0≤k.2∧k.2<2^(or-k.1).toNat):0≤(aD k).1∧(aD k).1≤or∧0≤(aD k).2∧(aD k).2<2^(or-(aD k).1).toNat:=by
 have:=mK hd s.2.2.2;show 0≤k.1+1∧k.1+1≤or∧0≤k.2 / 2∧k.2 / 2<2^(or-(k.1+1)).toNat;exact⟨by omega,by omega,by omega,this⟩
theorem qz{or:Int}{ps:Sps}{k:Int×Int}{m n:Int}(h:Kok or (ps.map (·.1)))(hk:k∈ps.map (·.1))(hd:k.1<or):Kok or ((cN ps k m n).map (·.1))∧mea or ((cN ps k m n).map (·.1))<mea or (ps.map (·.1))∧(cN ps k m n).length≤ps.length:=by
 rw[←xh (f:=(·.1)),←xh (as:=ps) (f:=(·.1)),jT hk];have mf:=Rv (or:=or) h.nd hk;have sk:=h.st k hk;have lf:((ps.map (·.1)).filter fun x=>decide (x≠k)).length<(ps.map (·.1)).length:=by
  refine Nat.lt_of_le_of_ne (Aj _ _) fun e=>?_;have:=List.length_filter_eq_length_iff.mp e k hk;simp at this
 have ndf:((ps.map (·.1)).filter fun x=>decide (x≠k)).Nodup:=h.nd.filter _;have stf:∀x∈(ps.map (·.1)).filter fun x=>decide (x≠k),0≤x.1∧x.1≤or∧0≤x.2∧x.2<2^(or-x.1).toNat:=fun x hx=>h.st x (yJ.mp hx).1
 split
 ·exact⟨⟨ndf,stf⟩,by omega,by omega⟩
 ·rename_i np;refine⟨⟨?_,fun x hx=>?_⟩,?_,by rw[xn];exact lf⟩
  ·refine zR.mpr ⟨ndf,xW.mpr ⟨yw,zy⟩,fun x hx y hy e=>?_⟩;rw[xq.mp hy]at e;exact np (by rw[←e];exact(yJ.mp hx).1)
  ·rcases xM.mp hx with hx | hx
   ·exact stf x hx
   ·rw[xq.mp hx];exact uG hd sk
  ·have e1:mea or ((ps.map (·.1)).filter (fun x=>decide (x≠k))++[aD k])=mea or ((ps.map (·.1)).filter fun x=>decide (x≠k))+(or+1-(k.1+1)).toNat:=by
    unfold mea;rw[xN,List.sum_append];rfl
   rw[e1];omega
def loK(h j:Int):Int×Int:=(h,2*j)
def hiK(h j:Int):Int×Int:=(h,2*j+1)
def upK(h j:Int):Int×Int:=(h+1,j)
def jn(ps:Sps)(h j:Int):Int:=cnt ps (loK h j)+cnt ps (hiK h j)+cnt ps (upK h j)
theorem Uy(h j:Int):aD (loK h j)=upK h j:=yT rfl (show 2*j / 2=j by omega)
theorem Of(h j:Int):aD (hiK h j)=upK h j:=yT rfl (show(2*j+1) / 2=j by omega)
theorem iC(h j:Int):loK h j≠hiK h j:=fun e=>by
 have:2*j=2*j+1:=zG (·.2) e;omega
theorem m4(h j:Int):loK h j≠upK h j:=fun e=>by
 have:h=h+1:=zG (·.1) e;omega
theorem iV(h j:Int):hiK h j≠upK h j:=fun e=>by
 have:h=h+1:=zG (·.1) e;omega
theorem Os(k:Int×Int):k=loK k.1 (k.2 / 2)∨k=hiK k.1 (k.2 / 2):=by
 rcases Int.emod_two_eq k.2 with e | e
 ·exact .inl (yT rfl (show k.2=2*(k.2 / 2) by omega))
 ·exact .inr (yT rfl (show k.2=2*(k.2 / 2)+1 by omega))
def eZ(ps:Sps)(k:Int×Int):Sps:=cN ps k (cnt ps k) (cnt ps (aD k)+cnt ps k)
def aP(ps:Sps)(k:Int×Int):Sps:=if k∈ps.map (·.1)then eZ ps k else ps
def aF(ps:Sps)(k:Int×Int):Sps:=if k∈ps.map (·.1) then[(k,cnt ps k)] else[]
def aW(ps:Sps)(h j:Int):Sps:=aP (aP ps (loK h j)) (hiK h j)
def flP(ps:Sps)(h j:Int):Sps:=aF ps (loK h j)++aF ps (hiK h j)
def cz(ps:Sps)(h j:Int):Sps:=aO (az (az ps (loK h j)) (hiK h j)) (upK h j) (jn ps h j)
theorem Wf{ps:Sps}{k:Int×Int}(h:k∉ps.map (·.1)):az ps k=ps:=List.filter_eq_self.mpr fun p hp=>xB fun z=>h (xI.mpr ⟨p,hp,z⟩)
theorem Rx(ps:Sps)(k x:Int×Int):ak (eZ ps k) x=if x=k then none else if x=aD k then some (.int (cnt ps (aD k)+cnt ps k))else ak ps x:=by
 unfold eZ cN;rw[Xx,W5,W5];by_cases e:x=k
 ·rw[xp e,xp e]
 ·rw[xm e,xm e,xm e]
theorem kE(ps:Sps)(k x:Int×Int):cnt (eZ ps k) x=if x=k then 0 else if x=aD k then cnt ps (aD k)+cnt ps k else cnt ps x:=by
 unfold cnt;rw[Rx];by_cases e:x=k
 ·rw[xp e,xp e]
 ·rw[xm e,xm e];by_cases z:x=aD k
  ·rw[xp z,xp z];rfl
  ·rw[xm z,xm z]
theorem Uz(ps:Sps)(k x:Int×Int):ak (aP ps k) x=if x=k then none else if x=aD k∧k∈ps.map (·.1)then some (.int (cnt ps (aD k)+cnt ps k))else ak ps x:=by
 unfold aP;by_cases hk:k∈ps.map (·.1)
 ·rw[xp hk,Rx];by_cases e:x=k
  ·rw[xp e,xp e]
  ·rw[xm e,xm e];by_cases z:x=aD k
   ·rw[xp z,xp ⟨z,hk⟩]
   ·rw[xm z,xm fun q=>z q.1]
 ·rw[xm hk];by_cases e:x=k
  ·rw[xp e,e,U9 hk]
  ·rw[xm e,xm fun q=>hk q.2]
theorem S9(ps:Sps)(k x:Int×Int):cnt (aP ps k) x=if x=k then 0 else if x=aD k then cnt ps (aD k)+cnt ps k else cnt ps x:=by
 unfold aP;by_cases hk:k∈ps.map (·.1)
 ·rw[xp hk,kE]
 ·rw[xm hk];by_cases e:x=k
  ·rw[xp e,e,Vb hk]
  ·rw[xm e];by_cases z:x=aD k
   ·rw[xp z,z,Vb hk,Int.add_zero]
   ·rw[xm z]
theorem hi_in{ps:Sps}{h j:Int}:hiK h j∈(aP ps (loK h j)).map (·.1)↔hiK h j∈ps.map (·.1):=by
 rw[←W6,←W6,Uz,xm (Ne.symm (iC h j)),Uy,xm fun q=>iV h j q.1]
theorem oW(ps:Sps)(h j:Int):aF (aP ps (loK h j)) (hiK h j)=aF ps (hiK h j):=by
 unfold aF;rw[S9,xm (Ne.symm (iC h j)),Uy,xm (iV h j)];by_cases e:hiK h j∈ps.map (·.1)
 ·rw[xp e,xp (hi_in.mpr e)]
 ·rw[xm e,xm fun q=>e (hi_in.mp q)]
theorem W4{ps:Sps}{h j:Int}(i:loK h j∈ps.map (·.1)∨hiK h j∈ps.map (·.1))(x:Int×Int):ak (aW ps h j) x=if x=loK h j∨x=hiK h j then none else if x=upK h j then some (.int (jn ps h j))else ak ps x:=by
 unfold aW;rw[Uz];have p1:cnt (aP ps (loK h j)) (aD (hiK h j))=cnt ps (upK h j)+cnt ps (loK h j):=by rw[Of,S9,xm (Ne.symm (m4 h j)),Uy,xp rfl]
 have p2:cnt (aP ps (loK h j)) (hiK h j)=cnt ps (hiK h j):=by rw[S9,xm (Ne.symm (iC h j)),Uy,xm (iV h j)]
 rw[p1,p2];by_cases e1:x=hiK h j
 ·rw[xp e1,xp (.inr e1)]
 ·rw[xm e1,Uz];by_cases e2:x=loK h j
  ·rw[xp (c:=x=loK h j∨x=hiK h j) (Or.inl e2),xm (c:=x=aD (hiK h j)∧_) fun q=>m4 h j (by rw[←e2,←Of];exact q.1),xp e2]
  ·rw[xm (c:=x=loK h j∨x=hiK h j) fun q=>q.elim e2 e1,xm (c:=x=loK h j) e2];by_cases e3:x=upK h j
   ·rw[xp e3];unfold jn;by_cases i2:hiK h j∈ps.map (·.1)
    ·rw[xp ⟨by rw[Of];exact e3,hi_in.mpr i2⟩]
     congr 2
     omega
    ·have i1:=i.resolve_right i2;rw[xm fun q=>i2 (hi_in.mp q.2),xp ⟨by rw[Uy];exact e3,i1⟩,Vb i2,Uy]
     congr 2
     omega
   ·rw[xm e3,xm fun q=>e3 (by rw[←Of];exact q.1),xm fun q=>e3 (by rw[←Uy];exact q.1)]
theorem gS(ps:Sps)(h j:Int)(x:Int×Int):ak (cz ps h j) x=if x=loK h j∨x=hiK h j then none else if x=upK h j then some (.int (jn ps h j))else ak ps x:=by
 unfold cz;rw[W5,Xx,Xx];by_cases e1:x=hiK h j
 ·rw[xm (by rw[e1];exact iV h j),xp e1,xp (.inr e1)]
 ·by_cases e2:x=loK h j
  ·have q:x≠upK h j:=by rw[e2];exact m4 h j
   rw[xm q,xm e1,xp e2,xp (Or.inl e2)]
  ·rw[xm e1,xm e2,xm (c:=x=loK h j∨x=hiK h j) fun q=>q.elim e2 e1]
theorem Q7{ps:Sps}{k:Int×Int}(nd:(ps.map (·.1)).Nodup):((aP ps k).map (·.1)).Nodup:=by
 unfold aP
 split
 ·exact R5 (Wj (Wj nd))
 ·exact nd
theorem Xz{ps:Sps}{h j:Int}(nd:(ps.map (·.1)).Nodup):((aW ps h j).map (·.1)).Nodup:=Q7 (Q7 nd)
theorem mX{ps:Sps}{h j:Int}(nd:(ps.map (·.1)).Nodup):((cz ps h j).map (·.1)).Nodup:=Wj (R5 (R5 nd))
theorem O1{ps:Sps}{h j:Int}(nd:(ps.map (·.1)).Nodup)(i:loK h j∈ps.map (·.1)∨hiK h j∈ps.map (·.1)):(cz ps h j).Perm (aW ps h j):=U6 (mX nd) (Xz nd) fun k=>by rw[gS,W4 i]
theorem Sz{ps qs:Sps}(p:ps.Perm qs)(nd:(ps.map (·.1)).Nodup)(h j:Int):jn ps h j=jn qs h j:=by
 unfold jn;rw[Vy (Yz p nd _),Vy (Yz p nd (hiK h j)),Vy (Yz p nd (upK h j))]
theorem P2{ps qs:Sps}{h j:Int}(p:ps.Perm qs)(nd:(ps.map (·.1)).Nodup)(i:loK h j∈ps.map (·.1)∨hiK h j∈ps.map (·.1)):(aW ps h j).Perm (aW qs h j):=by
 have pk:=p.map (·.1);refine U6 (Xz nd) (Xz (pk.nodup_iff.mp nd)) fun k=>?_;rw[W4 i,W4 (i.imp pk.mem_iff.mp pk.mem_iff.mp),Sz p nd,Yz p nd]
theorem Qz{ps qs:Sps}(p:ps.Perm qs)(nd:(ps.map (·.1)).Nodup)(k:Int×Int):aF ps k=aF qs k:=by
 have pk:=p.map (·.1);unfold aF;rw[Vy (Yz p nd k)];by_cases e:k∈ps.map (·.1)
 ·rw[xp e,xp (pk.mem_iff.mp e)]
 ·rw[xm e,xm fun q=>e (pk.mem_iff.mpr q)]
theorem ju{ps qs:Sps}(p:ps.Perm qs)(nd:(ps.map (·.1)).Nodup)(h j:Int):flP ps h j=flP qs h j:=by
 unfold flP;rw[Qz p nd,Qz p nd]
theorem dM{or:Int}{ps:Sps}{k:Int×Int}(o:Kok or (ps.map (·.1)))(hd:k.1<or):Kok or ((aP ps k).map (·.1))∧mea or ((aP ps k).map (·.1))+(aF ps k).length≤mea or (ps.map (·.1))∧(aP ps k).length≤ps.length:=by
 unfold aP aF;by_cases hk:k∈ps.map (·.1)
 ·rw[xp hk,xp hk];have:=qz (m:=cnt ps k) (n:=cnt ps (aD k)+cnt ps k) o hk hd;exact⟨this.1,this.2.1,this.2.2⟩
 ·rw[xm hk,xm hk];exact⟨o,xj _,xj _⟩
theorem Wp{or:Int}{ps:Sps}{h j:Int}(o:Kok or (ps.map (·.1)))(hd:h<or):Kok or ((aW ps h j).map (·.1))∧mea or ((aW ps h j).map (·.1))+(flP ps h j).length≤mea or (ps.map (·.1))∧(aW ps h j).length≤ps.length:=by
 have a:=dM (k:=loK h j) o hd;have b:=dM (k:=hiK h j) a.1 hd;rw[oW]at b;unfold flP aW;rw[xn];have:=a.2;have:=b.2;exact⟨b.1,by omega,by omega⟩
theorem gj{ps:Sps}{h j:Int}(i:loK h j∈ps.map (·.1)∨hiK h j∈ps.map (·.1)):0<(flP ps h j).length:=by
 unfold flP aF;rw[xn]
 rcases i with i | i
 ·rw[if_pos i];simp;omega
 ·rw[if_pos i];simp
theorem P0{ps:Sps}{k:Int×Int}(nd:(ps.map (·.1)).Nodup):ai (aP ps k)=ai ps:=by
 unfold aP
 split
 ·unfold eZ cN;have c1:cnt (aO (aO ps (aD k) (cnt ps (aD k)+cnt ps k)) k (cnt ps k-cnt ps k)) k=cnt ps k-cnt ps k:=by rw[Oz,xp rfl]
  have c2:cnt (aO ps (aD k) (cnt ps (aD k)+cnt ps k)) k=cnt ps k:=by rw[Oz,xm (mC k)]
  rw[Re (Wj (Wj nd)),O0 (Wj nd),O0 nd,c1,c2];omega
 ·rfl
theorem jH{ps:Sps}{h j:Int}(nd:(ps.map (·.1)).Nodup):ai (aW ps h j)=ai ps:=by
 unfold aW;rw[P0 (Q7 nd),P0 nd]
structure Fst(or bar:Int)(ps:Sps)(h j:Int):Prop where
 in_:loK h j∈ps.map (·.1)∨hiK h j∈ps.map (·.1)
 hd:h<or
 le:jn ps h j≤bar
 first:∀k∈ps.map (·.1),k.1<or→jn ps k.1 (k.2 / 2)≤bar→h<k.1∨(h=k.1∧j≤k.2 / 2)
def Nof(or bar:Int)(ps:Sps):Prop:=∀k∈ps.map (·.1),k.1<or→bar<jn ps k.1 (k.2 / 2)
theorem Fst.key{or bar h j:Int}{ps:Sps}(f:Fst or bar ps h j):∃k∈ps.map (·.1),k.1=h∧k.2 / 2=j:=by
 rcases f.in_ with i | i
 ·exact⟨_,i,rfl,show 2*j / 2=j by omega⟩
 ·exact⟨_,i,rfl,show(2*j+1) / 2=j by omega⟩
theorem Fst.not{or bar h j:Int}{ps:Sps}(f:Fst or bar ps h j)(n:Nof or bar ps):False:=by
 obtain⟨k,hk,e1,e2⟩:=f.key;have:=n k hk (by rw[e1];exact f.hd);rw[e1,e2]at this;have:=f.le;omega
theorem Fst.uniq{or bar h j h' j':Int}{ps:Sps}(f:Fst or bar ps h j)(g:Fst or bar ps h' j'):h=h'∧j=j':=by
 obtain⟨k,hk,e1,e2⟩:=f.key;obtain⟨l,hl,d1,d2⟩:=g.key;have a:=f.first l hl (by rw[d1];exact g.hd) (by rw[d1,d2];exact g.le);have b:=g.first k hk (by rw[e1];exact f.hd) (by rw[e1,e2];exact f.le);rw[d1,d2]at a;rw[e1,e2]at b;omega
theorem Fst.perm{or bar h j:Int}{ps qs:Sps}(f:Fst or bar ps h j)(p:ps.Perm qs)(nd:(ps.map (·.1)).Nodup):Fst or bar qs h j:=by
 have pk:=p.map (·.1);refine⟨f.in_.imp pk.mem_iff.mp pk.mem_iff.mp,f.hd,by rw[←Sz p nd];exact f.le,fun k hk h1 h2=>f.first k (pk.mem_iff.mpr hk) h1 (by rw[Sz p nd];exact h2)⟩
theorem Rq{or bar:Int}{ps qs:Sps}(n:Nof or bar ps)(p:ps.Perm qs)(nd:(ps.map (·.1)).Nodup):Nof or bar qs:=fun k hk h1=>by
 rw[←Sz p nd];exact n k ((p.map (·.1)).mem_iff.mpr hk) h1
inductive Stl(or bar:Int):Sps→Sps→Sps→Prop
 |done {ps:Sps}:Nof or bar ps→Stl or bar ps [] ps
 |step {ps ps1 fs Ax:Sps} {h j:Int}:Fst or bar ps h j→ps1.Perm (aW ps h j)→Stl or bar ps1 fs Ax→Stl or bar ps (flP ps h j++fs) Ax
theorem jk{or bar:Int}{ps fs Ax:Sps}(s:Stl or bar ps fs Ax):∀{qs gs qs':Sps},Stl or bar qs gs qs'→ps.Perm qs→(ps.map (·.1)).Nodup→fs=gs∧Ax.Perm qs':=by
 induction s with
 |done n=>
  intro qs gs qs' t p nd;cases t with
  |done _=>exact⟨rfl,p⟩
  |step f _ _=>exact(f.not (Rq n p nd)).elim
 |step f p1 s ih=>
  intro qs gs qs' t p nd;cases t with
  |done n=>exact((f.perm p nd).not n).elim
  |step g q1 t=>
   obtain⟨rfl,rfl⟩:=(f.perm p nd).uniq g;obtain⟨e,r⟩:=ih t (p1.trans ((P2 p nd f.in_).trans q1.symm)) ((p1.map _).nodup_iff.mpr (Xz nd));exact⟨by rw[ju p nd,e],r⟩
theorem iW{or bar:Int}{ps fs Ax:Sps}(s:Stl or bar ps fs Ax):(ps.map (·.1)).Nodup→(Ax.map (·.1)).Nodup∧Nof or bar Ax∧ai Ax=ai ps:=by
 induction s with
 |done n=>exact fun nd=>⟨nd,n,rfl⟩
 |step f p1 s ih=>
  intro nd;obtain⟨a,b,c⟩:=ih ((p1.map _).nodup_iff.mpr (Xz nd));exact⟨a,b,by rw[c,T7 p1,jH nd]⟩
def Way(or bar:Int)(ps fs qs:Sps):Prop:=∀gs Ax,Stl or bar qs gs Ax→Stl or bar ps (fs++gs) Ax
theorem Way.refl{or bar:Int}{ps:Sps}:Way or bar ps [] ps:=fun _ _ s=>s
theorem Way.snoc{or bar h j:Int}{ps fs qs qs1:Sps}(w:Way or bar ps fs qs)(f:Fst or bar qs h j)(p:qs1.Perm (aW qs h j)):Way or bar ps (fs++flP qs h j) qs1:=fun gs Ax s=>by
 rw[zP];exact w _ _ (.step f p s)
theorem Way.done{or bar:Int}{ps fs qs:Sps}(w:Way or bar ps fs qs)(n:Nof or bar qs):Stl or bar ps fs qs:=by
 have:=w [] qs (.done n)
 rwa [yQ]at this
theorem T9{ps qs:Sps}(p:ps.Perm qs):aL ps=aL qs:=O8 dJ ((Zy ps).trans (p.trans (Zy qs).symm)) (T8 ps) (T8 qs)
end Ld
namespace K24
open PySem L2 Ld
def KAt(H:Hp)(p:Addr)(k:Int×Int):Prop:=H p=some (.tup [.int k.1,.int k.2])
structure LadAt(H:Hp)(q:Addr)(Au or total:Int)(ps:Sps):Prop where
 at_:∃(c:Addr)(as:List Addr),H q=some (.tup [.int Au,.int or,.ref c,.int total])∧H c=some (.tup (as.map V.ref))∧Paired (FT H) as ps
theorem Yb{H H':Hp}(g:Same H H'){a:Addr}{p:(Int×Int)×Int}(h:FT H a p):FT H' a p:=let ⟨b,e1,e2⟩:=h;⟨b,g _ _ e1,g _ _ e2⟩
theorem LadAt.mono{H H':Hp}(g:Same H H'){q:Addr}{Au or total:Int}{ps:Sps}(h:LadAt H q Au or total ps):LadAt H' q Au or total ps:=let ⟨c,as,e1,e2,r⟩:=h.at_;⟨c,as,g _ _ e1,g _ _ e2,Paired.mapP r fun _ _ f=>Yb g f⟩
theorem W7{H:Hp}:∀{as:List Addr}{ps:Sps}{j:Nat}{x:V},Paired (FT H) as ps→(as.map V.ref)[j]?=some x→∃a p,x=.ref a∧ps[j]?=some p∧FT H a p
 |_,_,_,_,.nil,e=>by simp at e
 |_,_,0,_,.cons h _,e=>by
  rw[xu,yH]at e;cases e;exact⟨_,_,rfl,rfl,h⟩
 |_,_,j+1,_,.cons _ r,e=>W7 (j:=j) r (by simpa using e)
theorem V9{H:Hp}{d b:Addr}{ps:Sps}{k:Int×Int}(e:H d=some (.dT (aj ps)))(eb:KAt H b k):DGet H d (.ref b) (ak ps k):=DGet.t e eb
theorem Q4{H:Hp}:∀{bs:List Addr}{ks:List (Int×Int)}{j:Nat}{x:V},KsAt H bs ks→(bs.map V.ref)[j]?=some x→∃b k,x=.ref b∧ks[j]?=some k∧KAt H b k
 |_,_,_,_,.nil,e=>by simp at e
 |_,_,0,_,.cons h _,e=>by
  rw[xu,yH]at e;cases e;exact⟨_,_,rfl,rfl,h⟩
 |_,_,j+1,_,.cons _ r,e=>Q4 (j:=j) r (by simpa using e)
def d_:Sp:=fun vs H Q _=>∃(p:Addr)(k:Int×Int),vs=[.ref p]∧KAt H p k∧∀q,H q=none→Q (.ref q) (upd H q (.tup [.int (aD k).1,.int (aD k).2]))
def l_:Sp:=fun vs H Q _=>∃(p:Addr)(k:Int×Int),vs=[.ref p]∧KAt H p k∧∀(q a b:Addr)(H':Hp),Same H H'→H' q=some (.tup [.ref a,.ref b])→KAt H' a (loK k.1 (k.2 / 2))→KAt H' b (hiK k.1 (k.2 / 2))→Q (.ref q) H'
def mB:Sp:=fun vs H Q _=>∃(q:Addr)(Au or total:Int)(ps:Sps),vs=[.ref q]∧LadAt H q Au or total ps∧1≤Au∧Au≤20∧Q (.int (total / Au)) H
def iJ:Sp:=fun vs H Q _=>∃(d p:Addr)(ps:Sps)(k:Int×Int),vs=[.ref d,.ref p]∧H d=some (.dT (aj ps))∧KAt H p k∧∀(H':Hp),Same H H'→Q (.int (jn ps k.1 (k.2 / 2))) H'
def wb:Sp:=fun vs H Q _=>∃(or bar:Int)(d:Addr)(ps:Sps),vs=[.int or,.int bar,.ref d]∧H d=some (.dT (aj ps))∧ps.length<64∧(∀H',Same H H'→Nof or bar ps→Q .non H')∧∀(p:Addr)(k:Int×Int)(H':Hp),Same H H'→KAt H' p k→Fst or bar ps k.1 (k.2 / 2)→Q (.ref p) H'
theorem iM(i:Int):i-i % 2=2*(i / 2):=by omega
theorem lH{a b:Int×Int}(h:leK a b=true):a.1<b.1∨(a.1=b.1∧a.2 / 2≤b.2 / 2):=by
 rcases Xs.mp h with h | ⟨h,g⟩
 ·exact .inl h
 ·exact .inr ⟨h,by omega⟩
theorem Nn{α:Type}{R:α→α→Prop}{l:List α}(h:l.Pairwise R){i j:Nat}{a b:α}(ha:l[i]?=some a)(hb:l[j]?=some b)(ij:i<j):R a b:=by
 obtain⟨hi,rfl⟩:=xo.mp ha;obtain⟨hj,rfl⟩:=xo.mp hb;exact List.pairwise_iff_getElem.mp h i j hi hj ij
variable{P:Program}{w:World}{K:W.Frag}{mg:Str→Option Value}{base:Heap}{f:Addr}{fd:FuncData}
theorem jN(F:Fun K "parent_of" "parent_of" bO f fd):FnOk P w K mg base CX0 1 f fd ["stretch"] d_:=by
 refine F.ok V2 (fun vs H Q E h=>?_) (fun cdv A outer s H vs Q E hr h=>?_)
 ·obtain⟨p,k,rfl,_⟩:=h;rfl
 obtain⟨p,k,rfl,e,hq⟩:=h;refine⟨_,(Z4 (Yu (pv 0) (Yv rfl (Zb (Za (i:=1) V2.nd rfl (Or.inl rfl)) (Zb (Za (i:=2) V2.nd rfl (Or.inl rfl)) Zu))))
 (Z8 (Zh (Zp (Z0 (Zc Zs (pv 1) Z2) (Z0 (Zc Xr (pv 2) Z2) Z1)))))),?_⟩
 exact⟨_,rfl,p,_,rfl,SqT.of e,rfl,_,_,rfl,_,_,rfl,rfl,_,rfl,_,_,rfl,rfl,_,rfl,_,_,rfl,rfl,⟨by decide,by decide⟩,leN rfl,hq⟩
theorem q5(F:Fun K "pair_of" "pair_of" cD f fd):FnOk P w K mg base CX0 1 f fd ["stretch"] l_:=by
 refine F.ok V3 (fun vs H Q E h=>?_) (fun cdv A outer s H vs Q E hr h=>?_)
 ·obtain⟨p,k,rfl,_⟩:=h;rfl
 obtain⟨p,k,rfl,e,hq⟩:=h;refine⟨_,(Z4 (Yu (pv 0) (Yv rfl (Zb (Za (i:=1) V3.nd rfl (Or.inl rfl)) (Zb (Za (i:=2) V3.nd rfl (Or.inl rfl)) Zu))))
 (Z4 (Zz 3 V3.nd rfl (Or.inl rfl) (Zc Xm (pv 2) (Zc Xn (pv 2) Z2)))
 (Z8 (Zh (Zp (Z0 (Zp (Z0 (pv 1) (Z0 (pv 3) Z1))) (Z0 (Zp (Z0 (pv 1) (Z0 (Zc Zs (pv 3) Z2) Z1))) Z1))))))),?_⟩
 have gg:Same H H:=Same.refl _;refine⟨_,rfl,p,_,rfl,SqT.of e,rfl,_,_,rfl,_,_,rfl,rfl,_,rfl,_,rfl,_,_,rfl,rfl,Xb rfl,_,_,rfl,rfl,_,rfl,_,rfl,leN rfl,?_⟩;intro a n_a;generalize hz:upd _ a _=H1;revert H1;refine blk ?_;intro H1 hz;have gz:=Zr hz n_a;have AE:=Y0 hz;clear hz;have gg:=gg.trans gz;refine⟨_,rfl,_,rfl,_,_,rfl,rfl,leN rfl,?_⟩;intro b n_b;generalize hz:upd _ b _=H2;revert H2;refine blk ?_;intro H2 hz;have gz:=Zr hz n_b;have Ay:=Y0 hz;clear hz;have gg:=gg.trans gz;have AE:=gz _ _ AE;refine⟨leN rfl,?_⟩;intro q n_q;generalize hz:upd _ q _=H3;revert H3;refine blk ?_;intro H3 hz;have gz:=Zr hz n_q;have AF:=Y0 hz;clear hz;have gg:=gg.trans gz;have AE:=gz _ _ AE;have Ay:=gz _ _ Ay;exact hq q a b _ gg AF (by show _=some (HO.tup [V.int k.1,V.int (2*(k.2 / 2))]);rw[←iM];exact AE) (by show _=some (HO.tup [V.int k.1,V.int (2*(k.2 / 2)+1)]);rw[←iM];exact Ay)
theorem sE(F:Fun K "bar_of" "bar_of" dj f fd):FnOk P w K mg base CX0 1 f fd ["ladder"] mB:=by
 refine F.ok Wu (fun vs H Q E h=>?_) (fun cdv A outer s H vs Q E hr h=>?_)
 ·obtain⟨q,Au,or,total,ps,rfl,_⟩:=h;rfl
 obtain⟨q,Au,or,total,ps,rfl,lad,r0,r1,hq⟩:=h;refine⟨_,(Z4 (Yu (pv 0) (Yv rfl (Zb (Za (i:=1) Wu.nd rfl (Or.inl rfl)) (Zb (Za (i:=2) Wu.nd rfl (Or.inl rfl)) (Zb (Za (i:=3) Wu.nd rfl (Or.inl rfl)) (Zb (Za (i:=4) Wu.nd rfl (Or.inl rfl)) Zu))))))
 (Z8 (Zh (Zc Xr (pv 4) (pv 1))))),?_⟩
 obtain⟨c,as,AF,AB,pr⟩:=lad.at_;exact⟨_,rfl,q,_,rfl,SqT.of AF,rfl,_,_,rfl,_,_,rfl,_,_,rfl,_,_,rfl,rfl,_,rfl,_,rfl,_,_,rfl,rfl,⟨by omega,by omega⟩,hq⟩
theorem lz(jP:Has P w K mg base "pair_of" 1 ["stretch"] l_)(eM:Has P w K mg base "parent_of" 1 ["stretch"] d_)(F:Fun K "joint_count" "joint_count" bg f fd):FnOk P w K mg base CX0 2 f fd ["counts","stretch"] iJ:=by
 refine F.ok W0 (fun vs H Q E h=>?_) (fun cdv A outer s H vs Q E hr h=>?_)
 ·obtain⟨d,p,ps,k,rfl,_⟩:=h;rfl
 obtain⟨d,p,ps,k,rfl,e_d,Az,hq⟩:=h;refine⟨_,(Z4 (Yu (Z6 jP hr (Z0 (pv 1) Z1)) (Yv rfl (Zb (Za (i:=2) W0.nd rfl (Or.inl rfl)) (Zb (Za (i:=3) W0.nd rfl (Or.inl rfl)) Zu))))
 (Z8 (Zh (Zc Zs (Zc Zs (Vq (Vf hr) (pv 0) (pv 2) Z2 ⟨rfl,rfl,rfl,rfl⟩) (Vq (Vf hr) (pv 0) (pv 3) Z2 ⟨rfl,rfl,rfl,rfl⟩)) (Vq (Vf hr) (pv 0) (Z6 eM hr (Z0 (pv 1) Z1)) Z2 ⟨rfl,rfl,rfl,rfl⟩))))),?_⟩
 refine⟨_,rfl,p,k,rfl,Az,fun q a b H1 g1 AF AE Ay=>⟨q,_,rfl,SqT.of AF,rfl,_,_,rfl,_,_,rfl,rfl,?_⟩⟩;have e_d:=g1 _ _ e_d;refine⟨_,rfl,d,rfl,.inr ⟨_,.inl e_d⟩,_,rfl,_,V9 e_d AE,?_⟩;refine⟨_,rfl,d,rfl,.inr ⟨_,.inl e_d⟩,_,rfl,_,V9 e_d Ay,_,_,Vx _ _,Vx _ _,?_⟩;refine⟨_,rfl,d,rfl,.inr ⟨_,.inl e_d⟩,_,rfl,p,k,rfl,g1 _ _ Az,fun r nr=>?_⟩;have g2:=Z9 nr (.tup [.int (aD k).1,.int (aD k).2]);exact⟨_,V9 (g2 _ _ e_d) Z7,_,_,rfl,Vx _ (aD k),hq _ (g1.trans g2)⟩
theorem wO(aC:mg "sorted"=none)(dn:Has P w K mg base "joint_count" 2 ["counts","stretch"] iJ)(F:Fun K "first_folding" "first_folding" aX f fd):FnOk P w K mg base CX0 3 f fd ["deep","bar","counts"] wb:=by
 refine F.ok Ws (fun vs H Q E h=>?_) (fun cdv A outer s H vs Q E hr h=>?_)
 ·obtain⟨or,bar,d,ps,rfl,_⟩:=h;rfl
 obtain⟨or,bar,d,ps,rfl,e_d,h64,hq0,hq1⟩:=h;refine⟨_,(Z4 (Xl yx rfl (U5 (Zd (Sk rfl hr.units) rfl aC zW (Z0 (pv 2) Z1))) (Za (i:=3) Ws.nd rfl (Or.inl rfl))
 (Z8 (Y4 (PW.pt (Rj (Zo im (Yd Y8 (pv 3) Z2) (pv 0) (Zl _)) (Td (Zo P7 (Z6 dn hr (Z0 (pv 2) (Z0 (pv 3) Z1))) (pv 1) (Zl _))))) (Z8 (Zh (pv 3))) Zn)))
 (Z8 (Zh Rl))),?_⟩
 have gg:Same H H:=Same.refl _;refine⟨_,rfl,d,ps,rfl,e_d,by omega,fun bs ka=>?_⟩;intro l n_l;generalize hz:upd _ l _=H1;revert H1;refine blk ?_;intro H1 hz;have gz:=Zr hz n_l;have AC:=Y0 hz;clear hz;have gg:=gg.trans gz;have ka:=ka.mono fun b xs e=>gg b _ e;have bl:=xG ka;have mk:∀k,k∈dm (ps.map (·.1))↔k∈ps.map (·.1):=fun k=>(Wq _).mem_iff;refine⟨l,rfl,⟨_,SqL.of AC⟩,?_⟩;refine Ue (xs:=bs.map V.ref) (fun i σ H'=>∃o3:Option V,σ=[some (.int or),some (.int bar),some (.ref d),o3]∧Same H1 H'∧∀(n:Nat)(k:Int×Int),n<i→(dm (ps.map (·.1)))[n]?=some k→k.1<or→bar<jn ps k.1 (k.2 / 2)) ⟨_,rfl,Same.refl _,fun n _ hn=>absurd hn (Aq n)⟩ ?_ ?_ ?_
 ·rintro i σ H' _ ⟨_,_,g,_⟩;exact SqL.of (g _ _ AC)
 ·rintro i x σ H2 N B1 R hN hR hx ⟨o3,rfl,g2,bef⟩;obtain⟨b,k,rfl,hk,Ay⟩:=Q4 ka hx;have Ay:=g2 _ _ Ay;have a_:=g2 _ _ (gg _ _ e_d);have km:k∈ps.map (·.1):=(mk k).mp (xL hk);have nxt:(k.1<or→bar<jn ps k.1 (k.2 / 2))→∀(n:Nat)(k:Int×Int),n<i+1→(dm (ps.map (·.1)))[n]?=some k→k.1<or→bar<jn ps k.1 (k.2 / 2):=fun c n k' hn e=>by
   rcases Nat.lt_succ_iff_lt_or_eq.mp hn with z | z
   ·exact bef n k' z e
   ·rw[z,hk]at e;cases e;exact c
  refine⟨_,rfl,b,_,0,_,rfl,rfl,SqT.of Ay,rfl,_,rfl,_,_,rfl,rfl,_,rfl,X2 (fun c=>?_) (fun c=>?_)⟩
  ·refine⟨_,rfl,_,rfl,d,b,ps,k,rfl,a_,Ay,fun H3 g3=>⟨_,rfl,_,_,rfl,rfl,_,rfl,X2 (fun c2=>?_) (fun c2=>?_)⟩⟩
   ·refine⟨_,rfl,hR _ _ (hq1 b k _ (gg.trans (g2.trans g3)) (g3 _ _ Ay) ⟨?_,xy c,xy c2,fun k' hk' h1 h2=>?_⟩)⟩
    ·rcases Os k with e | e
     ·exact .inl (by rw[←e];exact km)
     ·exact .inr (by rw[←e];exact km)
    ·obtain⟨n,hn⟩:=yI ((mk k').mpr hk')
     rcases zw n i with z | z
     ·have:=bef n k' z hn h1;omega
     ·rcases Nat.lt_or_eq_of_le z with z | z
      ·exact lH (Nn (O2 _) hk hn z)
      ·rw[←z,hk]at hn;cases hn;exact .inr ⟨rfl,zB _⟩
   ·exact hN _ _ ⟨_,rfl,g2.trans g3,nxt fun _=>by have:=Ae (yj.mpr c2);omega⟩
  ·exact hN _ _ ⟨_,rfl,g2,nxt fun z=>absurd (xB z) c⟩
 ·rintro σ H2 ⟨_,rfl,g2,all⟩;refine hq0 _ (gg.trans g2) fun k hk h1=>?_;obtain⟨n,hn⟩:=yI ((mk k).mpr hk);refine all n k ?_ hn h1;rw[xh,bl];exact(xo.mp hn).1
def hgt:List Key→Int
 |.inl h::_=>h
 |_=>0
def tS(or:Int)(kvs:List (List Key×V)):Nat:=(kvs.map fun kv=>(or+1-hgt kv.1).toNat).sum
theorem o0(or:Int)(ps:Sps):tS or (aj ps)=mea or (ps.map (·.1)):=by
 unfold tS mea aj;rw[yg,yg];rfl
def muD(or:Int)(d:Addr)(H:Hp):Nat:=match H d with
 |some (.dT kvs)=>tS or kvs
 |_=>0
theorem gX{or:Int}{d:Addr}{H:Hp}{ps:Sps}(e:H d=some (.dT (aj ps))):muD or d H=mea or (ps.map (·.1)):=by
 unfold muD;rw[e];exact o0 or ps
def FsAt(H:Hp)(l:Addr)(fs:Sps):Prop:=∃as:List Addr,H l=some (.lst (as.map V.ref))∧Paired (FT H) as fs
def tjs(ps:Sps)(h j:Int):Nat→Sps
 | 0=>[]
 | 1=>aF ps (loK h j)
 |_=>flP ps h j
theorem FsAt.same{H H':Hp}{l:Addr}{fs:Sps}(h:FsAt H l fs)(g:Same H H'):FsAt H' l fs:=let ⟨as,e,p⟩:=h;⟨as,g _ _ e,Paired.mapP p fun _ _ f=>Yb g f⟩
def idx(h:Int)(ps:Sps):List Int:=(ps.filter fun p=>decide (p.1.1=h)).map fun p=>p.1.2 / 2
def sf:Sp:=fun vs H Q _=>∃(d:Addr)(or bar:Int)(ps:Sps),vs=[.ref d,.int or,.int bar]∧H d=some (.dT (aj ps))∧Kok or (ps.map (·.1))∧0≤or∧or≤20∧ps.length<64∧
 (∀(l:Addr)(H':Hp),Nof or bar ps→Same H H'→H l=none→H' l=some (.lst [])→Q (.ref l) H')∧
 ∀(h j:Int)(l:Addr)(H':Hp),Fst or bar ps h j→Grw d H H'→H l=none→H' d=some (.dT (aj (cz ps h j)))→FsAt H' l (flP ps h j)→Q (.ref l) H'
theorem kQ{H H':Hp}{d:Addr}{o:Obj}{kvs:List (List Key×V)}(e:H d=some (.dT kvs))(g:Same (upd H d (.frz o (.dT kvs))) H'):Same H (upd H' d (.dT kvs)):=fun b u h=>by
 by_cases z:b=d
 ·rw[z]at h⊢;rw[e]at h;rw[←h];exact Z7
 ·rw[Ze z];exact g b u (by rw[Ze z];exact h)
theorem oS{H:Hp}{d b:Addr}{ps:Sps}{k:Int×Int}{o:Obj}(e:H d=some (.frz o (.dT (aj ps))))(eb:KAt H b k):DGet H d (.ref b) (ak ps k):=.inr ⟨_,kk k,b,.inr ⟨o,e⟩,rfl,eb,rfl⟩
theorem nR{ps:Sps}{i:Nat}{p:List Key×V}(h:(aj ps)[i]?=some p):∃q,ps[i]?=some q∧p=(kk q.1,.int q.2):=by
 unfold aj at h;rw[xE]at h;cases e:ps[i]? with
 |none=>rw[e]at h;cases h
 |some q=>rw[e]at h;cases h;exact⟨q,rfl,rfl⟩
theorem qp{h j:Int}{ps:Sps}:j∈idx h ps↔∃k∈ps.map (·.1),k.1=h∧k.2 / 2=j:=by
 unfold idx;rw[xI];constructor
 ·rintro⟨p,hp,rfl⟩;obtain⟨a,b⟩:=yJ.mp hp;exact⟨p.1,xI.mpr ⟨p,a,rfl⟩,xy b,rfl⟩
 ·rintro⟨k,hk,rfl,rfl⟩;obtain⟨p,hp,rfl⟩:=xI.mp hk;exact⟨p,yJ.mpr ⟨hp,xB rfl⟩,rfl⟩
def cx(ps fs:Sps):Sps:=fs.foldl (fun a p=>az a p.1) ps
theorem Ry:∀(fs ps:Sps)(x:Int×Int),ak (cx ps fs) x=if x∈fs.map (·.1)then none else ak ps x
 | [],ps,x=>by rw[List.map_nil,xm yw];rfl
 |p::fs,ps,x=>by
  have ih:=Ry fs (az ps p.1) x;show ak (cx (az ps p.1) fs) x=_;rw[ih,Xx,xu];by_cases e:x=p.1
  ·rw[xp e,xp (show x∈p.1::fs.map (·.1) by rw[e];exact .head _)]
   split <;> rfl
  ·rw[xm e];by_cases z:x∈fs.map (·.1)
   ·rw[xp z,xp (xV _ z)]
   ·rw[xm z,xm fun q=>(xv.mp q).elim e z]
theorem fi{ps fs:Sps}{n:Nat}{p:(Int×Int)×Int}(h:fs[n]?=some p):cx ps (fs.take (n+1))=az (cx ps (fs.take n)) p.1:=by
 unfold cx;rw[Yl h,List.foldl_append];rfl
theorem uT(ps:Sps)(h j:Int):(flP ps h j).length≤2:=by
 unfold flP aF;rw[xn]
 split <;> split <;> simp
theorem vp(ps:Sps)(h j:Int):((flP ps h j).map (·.1)).Nodup:=by
 unfold flP aF;have:=iC h j
 split <;> split <;> simp[this]
theorem wx(ps:Sps)(h j:Int):∀p∈flP ps h j,ak ps p.1=some (.int p.2):=fun p hp=>by
 unfold flP aF at hp
 rcases xM.mp hp with hp | hp
 ·split at hp
  ·rw[xq.mp hp];exact Rw (by assumption)
  ·cases hp
 ·split at hp
  ·rw[xq.mp hp];exact Rw (by assumption)
  ·cases hp
theorem pX(ps:Sps)(h j:Int):cx ps (flP ps h j)=az (az ps (loK h j)) (hiK h j):=by
 have out:hiK h j∉ps.map (·.1)→hiK h j∉(az ps (loK h j)).map (·.1):=fun n z=>n (by rw[Uf]at z;exact(yJ.mp z).1);unfold flP aF cx;by_cases i1:loK h j∈ps.map (·.1)
 ·by_cases i2:hiK h j∈ps.map (·.1)
  ·rw[xp i1,xp i2];rfl
  ·rw[xp i1,xm i2,Wf (out i2)];rfl
 ·by_cases i2:hiK h j∈ps.map (·.1)
  ·rw[xm i1,xp i2,Wf i1];rfl
  ·rw[xm i1,xm i2,Wf (out i2),Wf i1];rfl
theorem _root_.L2.Grw.tup{d x:Addr}{H H':Hp}{kvs:List (List Key×V)}{xs:List V}(g:Grw d H H')(ed:H d=some (.dT kvs))(e:H x=some (.tup xs)):H' x=some (.tup xs):=(Z3 (g x _ (by rw[Zf (Vd e ed (by intro z;cases z))];exact e))).2
theorem _root_.L2.Grw.lst{d x:Addr}{H H':Hp}{kvs:List (List Key×V)}{xs:List V}(g:Grw d H H')(ed:H d=some (.dT kvs))(e:H x=some (.lst xs)):H' x=some (.lst xs):=(Z3 (g x _ (by rw[Zf (Vd e ed (by intro z;cases z))];exact e))).2
theorem _root_.L2.Same.grw{d:Addr}{H H':Hp}(g:Same H H'):Grw d H H':=fun x w e=>by
 obtain⟨e1,e2⟩:=Z3 e;rw[Zf e1];exact g _ _ e2
theorem _root_.L2.Grw.refl{d:Addr}{H:Hp}:Grw d H H:=fun _ _ e=>e
theorem tP(av:mg "range"=none)(aC:mg "sorted"=none)(og:mg "set"=none)(aQ:mg "sum"=none)(F:Fun K "_law_fold_once" "_law_fold_once" ba f fd):FnOk P w K mg base CX0 1 f fd ["_law_now","_law_deep","_law_bar"] sf:=by
 refine F.ok Y1 (fun vs H Q E h=>?_) (fun cdv A outer s H vs Q E hr h=>?_)
 ·obtain⟨d,or,bar,ps,rfl,_⟩:=h;rfl
 obtain⟨d,or,bar,ps,rfl,e_d,kok,d0,d1,pl,hq0,hq1⟩:=h;refine⟨_,(Z4 (Xl yx rfl (Xu rfl av (Z0 (pv 1) Z1)) (Za (i:=3) Y1.nd rfl (Or.inr rfl))
 (Z8 (Xl yx rfl (U5 (Zd (e8 rfl) rfl aC zW (Z0 (Ym (kY rfl) rfl og PyProof.Rows.boot_set (Z0 (pE (Xg (own:=["_law_other","_law_index"]) (Sq rfl rfl) (Nq (pv 0))
  (fun _ _ _ _ _=>(V5 K 2 rfl rfl (Zb (Za (i:=0) X7 rfl (Or.inl rfl) (Or.inr rfl)) (Zb (Za (i:=1) X7 rfl (Or.inl rfl) (Or.inr rfl)) Zu)))) (fun _ _ _ _ _=>(Sw (Zo Ul (pv 0) (pv 5) (Zl _))))
  (fun _ _ _ _ _=>(Zc Xr (pv 1) Z2)))) Z1)) Z1))) (Za (i:=4) Y1.nd rfl (Or.inl rfl))
 (Z4 (Zz 5 Y1.nd rfl (Or.inl rfl) (Zp (Z0 (Zc Zs (pv 3) Z2) (Z0 (pv 4) Z1))))
 (Z4 (Zz 6 Y1.nd rfl (Or.inl rfl) (Zv (Z0 (Zp (Z0 (pv 3) (Z0 (Zc Xc Z2 (pv 4)) Z1))) (Z0 (Zp (Z0 (pv 3) (Z0 (Zc Zs (Zc Xc Z2 (pv 4)) Z2) Z1))) Z1))))
 (V4 9 (Z4 (Zz 7 Y1.nd rfl (Or.inl rfl) (Zd (V1 rfl) rfl aQ ze (Z0 (m3 ["_law_now","_law_deep","_law_bar","_law_height","_law_k","_law_parent","_law_pair","_law_whole_here","_law_told","#9","_law_many_here"] (Xg (own:=["_law_one"]) (Sq rfl rfl) (U5 (Zc S1 (pv 6) (Zv (Z0 (pv 5) Z1))))
  (fun _ _ _ _ _=>(Za (i:=0) Vh rfl (Or.inl rfl) (Or.inr rfl))) (fun _ _ _ _ _=>W9)
  (fun _ _ _ _ _=>(Vq (Vf hr) (pv 1) (pv 0) Z2 ⟨rfl,rfl,rfl,rfl⟩)))) Z1)))
 (Z8 (Y4 (Zo P7 (pv 7) (pv 2) (Zl _)) (V4 9 (Z4 (ud ["_law_now","_law_deep","_law_bar","_law_height","_law_k","_law_parent","_law_pair","_law_whole_here","_law_told","#9","_law_many_here"] (i9 (i:=8) (show List.Nodup (["_law_now","_law_deep","_law_bar","_law_height","_law_k","_law_parent","_law_pair","_law_whole_here","_law_told","#9","_law_many_here"]:List Str) by decide +kernel) rfl rfl (own:=["_law_one"]) (Sq rfl rfl) (U5 (pv 6))
  (fun _ _ _ _ _=>(Za (i:=0) Vg rfl (Or.inl rfl) (Or.inr rfl))) (fun _ _ _ _ _=>(Sw (Zo (pO hr.units) (pv 0) (pv 1) (by with_unfolding_all rfl))))
  (fun _ _ _ _ _=>(Zp (Z0 (pv 0) (Z0 (ie (Vf hr) (pv 1) (pv 0) (fun _ _=>rfl)) Z1))))))
 (Z4 (Xl yx rfl (U5 (pv 8)) (Yv rfl (Zb (Za (i:=9) Y1.nd rfl (Or.inl rfl)) (Zb (Za (i:=10) Y1.nd rfl (Or.inl rfl)) Zu)))
 (Z8 (Te (rT zE PySem.F.slot_dict_pop PySem.F.type_dict_pop (rq hr.units) (pv 0) (Z0 (pv 9) Z1)))))
 (Z4 (Od (Vf hr) (pv 0) (pv 5) (pv 7) rfl)
 (Z8 (Zh (pv 8))))))) Zn))))))))) Zi),?_⟩
 refine⟨_,rfl,or,rfl,by omega,by omega,?_⟩;refine Xe (lo:=0) (n:=or.toNat) (fun i σ H'=>∃o3 o4 o5 o6 o7 o8 o9 o10:Option V,σ=[some (.ref d),some (.int or),some (.int bar),o3,o4,o5,o6,o7,o8,o9,o10]∧Same H H'∧∀k∈ps.map (·.1),k.1<(i:Int)→bar<jn ps k.1 (k.2 / 2)) ⟨_,_,_,_,_,_,_,_,rfl,Same.refl _,fun k hk z=>?_⟩ ?_ ?_
 ·have:=(kok.st k hk).1;omega
 ·rintro i σ H1 N B1 R hN hR hi ⟨o3,o4,o5,o6,o7,o8,o9,o10,rfl,g1,bef⟩;have hz:(0:Int)+(i:Int)=i:=Int.zero_add _;generalize hh:(0:Int)+(i:Int)=h at hz⊢;have we:=g1 _ _ e_d;have filt:∀n,((ps.take n).filter fun p=>decide (p.1.1=h)).length≤n:=fun n=>xZ (Aj _ _) (by rw[yn];omega);refine⟨d,_,we,fun o=>⟨_,rfl,d,o,_,rfl,Z7,?_⟩⟩;refine gU (fun i ys H'=>Same (upd H1 d (.frz o (.dT (aj ps)))) H'∧i≤ps.length∧ys=(idx h (ps.take i)).map V.int) ⟨Same.refl _,yh _,rfl⟩ ?_ ?_ ?_ ?_
  ·rintro i ys H' ⟨g5,_⟩;exact g5 _ _ Z7
  ·rintro n p0 b ys H5 C hp0 Ay ⟨g5,_,rfl⟩ hC;obtain⟨p,hp5,rfl⟩:=nR hp0;have il:n<ps.length:=(xo.mp hp5).1;have fl:=filt n;have Ay:H5 b=some (.tup [.int p.1.1,.int p.1.2]):=Ay;have tk:=Yl hp5;refine⟨Zx (by unfold idx;rw[xh,xh];omega),b,_,rfl,SqT.of Ay,rfl,_,_,rfl,_,_,rfl,rfl,Wk.refl _,_,rfl,_,rfl,rfl,_,rfl,?_⟩;by_cases same:p.1.1=h
   ·rw[xB (by rw[same])];refine Yt ⟨_,rfl,_,_,rfl,rfl,⟨by decide,by decide⟩,hC _ _ ⟨g5,il,?_⟩⟩;unfold idx;rw[tk,List.filter_append,zn,xp (xB same),xN,xN];rfl
   ·rw[yk (fun z=>same (V.int.inj z))];refine Yo (hC _ _ ⟨g5,il,?_⟩);unfold idx;rw[tk,List.filter_append,List.filter_cons,if_neg (by simpa using same),List.filter_nil,List.append_nil]
  ·rintro i ys H' ⟨_,hl,rfl⟩;have fl:=filt i;exact Zx (by unfold idx;rw[xh,xh];omega)
  rintro ys H5 ⟨g5,_,rfl⟩;rw[Yp,yc];have fl:=filt ps.length;rw[yc]at fl;refine⟨Zq (by unfold idx;rw[xh,xh];omega),fun p n_p=>?_⟩;have pd:p≠d:=fun z=>by rw[z,g5 _ _ Z7]at n_p;cases n_p
  have g6:=g5.trans (Z9 n_p (.lst ((idx h ps).map V.int)));have sz:=kQ we g6;have Az:(upd (upd H5 p (.lst ((idx h ps).map V.int))) d (.dT (aj ps))) p=some (.lst ((idx h ps).map V.int)):=by rw[Ze pd];exact Z7
  refine⟨g6 _ _ Z7,?_⟩;generalize upd (upd H5 p _) d _=H6 at sz Az⊢;have il:(idx h ps).length≤ps.length:=by unfold idx;rw[xh];omega
  have ul:=lw (idx h ps);refine⟨p,_,rfl,SqL.of Az,by omega,?_⟩;have gg:=g1.trans sz;clear sz g6 g5 n_p pd;intro q n_q;generalize hz:upd _ q _=H7;revert H7;refine blk ?_;intro H7 hz;have gz:=Zr hz n_q;have AF:=Y0 hz;clear hz;have gg:=gg.trans gz;refine⟨q,_,rfl,AF,by omega,?_⟩;intro l n_l;generalize hz:upd _ l _=H8;revert H8;refine blk ?_;intro H8 hz;have gz:=Zr hz n_l;have AC:=Y0 hz;clear hz;have gg:=gg.trans gz;have jm:∀j,j∈gw (eI (idx h ps))↔∃k∈ps.map (·.1),k.1=h∧k.2 / 2=j:=fun j=>by rw[(Tv _).mem_iff,lP,qp]
  have jw:=jA (eI (idx h ps));generalize gw (eI (idx h ps))=js at AC jm jw;clear AF ul il Az fl;refine⟨l,rfl,⟨_,SqL.of AC⟩,?_⟩;refine Ue (xs:=js.map V.int) (fun n σ H'=>∃o4 o5 o6 o7 o8 o9 o10:Option V,σ=[some (.ref d),some (.int or),some (.int bar),some (.int h),o4,o5,o6,o7,o8,o9,o10]∧Same H8 H'∧∀(m:Nat)(j:Int),m<n→js[m]?=some j→bar<jn ps h j) ⟨_,_,_,_,_,_,_,rfl,Same.refl _,fun m _ hm=>absurd hm (Aq m)⟩ ?_ ?_ ?_
  ·rintro n σ H' _ ⟨_,_,_,_,_,_,_,_,g,_⟩;exact SqL.of (g _ _ AC)
  ·rintro n x σ H2 N2 B2 R2 hN2 hR2 hx ⟨o4,o5,o6,o7,o8,o9,o10,rfl,g2,bef2⟩;rw[xE]at hx;obtain⟨j,hj,rfl⟩:=yD.mp hx;have g8:=gg;have gg:=gg.trans g2;have a_:=gg _ _ e_d;have cm:=g2 _ _ AC;have gk:Same H2 H2:=Same.refl _;refine⟨_,rfl,_,_,rfl,rfl,_,rfl,leN rfl,?_⟩;intro u n_u;generalize hz:upd _ u _=G1;revert G1;refine blk ?_;intro G1 hz;have gz:=Zr hz n_u;have e_u:=Y0 hz;clear hz;have gg:=gg.trans gz;have a_:=gz _ _ a_;have gk:=gk.trans gz;refine⟨_,rfl,_,rfl,_,_,rfl,rfl,Or.inl ⟨by decide,by decide⟩,leN rfl,?_⟩;intro a n_a;generalize hz:upd _ a _=G2;revert G2;refine blk ?_;intro G2 hz;have gz:=Zr hz n_a;have AE:=Y0 hz;clear hz;have gg:=gg.trans gz;have a_:=gz _ _ a_;have e_u:=gz _ _ e_u;have gk:=gk.trans gz;refine⟨_,rfl,_,rfl,_,_,rfl,rfl,Or.inl ⟨by decide,by decide⟩,_,_,rfl,rfl,leN rfl,?_⟩;intro b n_b;generalize hz:upd _ b _=G3;revert G3;refine blk ?_;intro G3 hz;have gz:=Zr hz n_b;have Ay:=Y0 hz;clear hz;have gg:=gg.trans gz;have a_:=gz _ _ a_;have e_u:=gz _ _ e_u;have AE:=gz _ _ AE;have gk:=gk.trans gz;refine⟨leN rfl,?_⟩;intro pr n_pr;generalize hz:upd _ pr _=G4;revert G4;refine blk ?_;intro G4 hz;have gz:=Zr hz n_pr;have dF:=Y0 hz;clear hz;have gg:=gg.trans gz;have a_:=gz _ _ a_;have e_u:=gz _ _ e_u;have AE:=gz _ _ AE;have Ay:=gz _ _ Ay;have gk:=gk.trans gz;have AE:KAt G4 a (loK h j):=AE;have Ay:KAt G4 b (hiK h j):=Ay;have e_u:KAt G4 u (upK h j):=e_u;refine⟨⟨.inl rfl,.inl rfl,.inl rfl,.inl rfl,.inl rfl,.inl rfl,.inl rfl,.inl rfl,.inl rfl,.inr rfl,.inl rfl,trivial⟩,?_⟩;refine⟨_,rfl,_,rfl,leN rfl,?_⟩;intro pt n_pt;generalize hz:upd _ pt _=G5;revert G5;refine blk ?_;intro G5 hz;have gz:=Zr hz n_pt;have e_pt:=Y0 hz;clear hz;have gg:=gg.trans gz;have a_:=gz _ _ a_;have e_u:=gz _ _ e_u;have AE:=gz _ _ AE;have Ay:=gz _ _ Ay;have dF:=gz _ _ dF;have gk:=gk.trans gz;refine⟨pr,pt,_,_,rfl,rfl,dF,e_pt,leN rfl,?_⟩;intro pc n_pc;generalize hz:upd _ pc _=G6;revert G6;refine blk ?_;intro G6 hz;have gz:=Zr hz n_pc;have wt:=Y0 hz;clear hz;have gg:=gg.trans gz;have a_:=gz _ _ a_;have e_u:=gz _ _ e_u;have AE:=gz _ _ AE;have Ay:=gz _ _ Ay;have dF:=gz _ _ dF;have gk:=gk.trans gz;refine⟨pc,rfl,⟨_,SqL.of wt⟩,?_⟩;refine Pl (xs:=[.ref a,.ref b,.ref u]) (fun n ys H'=>H'=G6∧ys=([cnt ps (loK h j),cnt ps (hiK h j),cnt ps (upK h j)].take n).map V.int) ⟨rfl,rfl⟩ ?_ ?_ ?_
   ·rintro n ys H' _ ⟨rfl,_⟩;exact SqL.of wt
   ·rintro n x ys H' C hx ⟨rfl,rfl⟩ hC;obtain⟨o,ko,rfl,e_o,tk,n3⟩:∃(o:Addr)(ko:Int×Int),x=.ref o∧KAt H' o ko∧([cnt ps (loK h j),cnt ps (hiK h j),cnt ps (upK h j)].take (n+1)).map V.int=([cnt ps (loK h j),cnt ps (hiK h j),cnt ps (upK h j)].take n).map V.int++[V.int (cnt ps ko)]∧n<3:=by
     match n,hx with
     | 0,hx=>cases hx;exact⟨a,_,rfl,AE,rfl,by decide⟩
     | 1,hx=>cases hx;exact⟨b,_,rfl,Ay,rfl,by decide⟩
     | 2,hx=>cases hx;exact⟨u,_,rfl,e_u,rfl,by decide⟩
     |n+3,hx=>simp at hx
    refine⟨Zx (by rw[xh,yn];omega),Wk.refl _,?_⟩;refine⟨_,rfl,d,rfl,.inr ⟨_,.inl a_⟩,_,rfl,_,V9 a_ e_o,?_⟩;rw[Vx];exact hC _ _ ⟨rfl,tk.symm⟩
   rintro ys H' ⟨rfl,rfl⟩;refine⟨leN rfl,?_⟩;intro sl n_sl;generalize hz:upd _ sl _=G7;revert G7;refine blk ?_;intro G7 hz;have gz:=Zr hz n_sl;have wz:=Y0 hz;clear hz;have gg:=gg.trans gz;have a_:=gz _ _ a_;have e_u:=gz _ _ e_u;have AE:=gz _ _ AE;have Ay:=gz _ _ Ay;have dF:=gz _ _ dF;have gk:=gk.trans gz;refine⟨sl,_,rfl,SqL.of wz,?_⟩;have ej:(List.take [V.ref a,V.ref b,V.ref u].length [cnt ps (loK h j),cnt ps (hiK h j),cnt ps (upK h j)]).sum=jn ps h j:=by
    show[cnt ps (loK h j),cnt ps (hiK h j),cnt ps (upK h j)].sum=_;unfold jn;rw[xY,xY,xY,List.sum_nil];omega
   rw[ej];clear ej wz;refine⟨_,rfl,_,rfl,_,_,rfl,rfl,_,rfl,X2 (fun c=>?_) (fun c=>?_)⟩
   ·have ft:Fst or bar ps h j:=by
     obtain⟨k,hk,k1,k2⟩:=(jm j).mp (xL hj);refine⟨?_,by omega,xy c,fun k hk h1 h2=>?_⟩
     ·rcases Os k with e | e
      ·rw[k1,k2]at e;exact .inl (by rw[←e];exact hk)
      ·rw[k1,k2]at e;exact .inr (by rw[←e];exact hk)
     ·rcases Int.lt_trichotomy h k.1 with z | z | z
      ·exact .inl z
      ·refine .inr ⟨z,?_⟩;obtain⟨m,hm⟩:=yI ((jm (k.2 / 2)).mpr ⟨k,hk,z.symm,rfl⟩)
       rcases Nat.lt_trichotomy m n with y | y | y
       ·have:=bef2 m _ y hm;rw[z]at this;omega
       ·rw[y,hj]at hm;cases hm;exact zB _
       ·exact Nn jw hj hm y
      ·have:=bef k hk (by omega);omega
    have gd:Grw d H G7:=fun x w e=>by
     obtain⟨e1,e2⟩:=Z3 e;rw[Zf e1];exact gg _ _ e2
    clear bef bef2 hN hN2 jm jw hj;refine⟨⟨.inl rfl,.inl rfl,.inl rfl,.inl rfl,.inl rfl,.inl rfl,.inl rfl,.inl rfl,.inl rfl,.inr rfl,.inl rfl,trivial⟩,_,rfl,pr,rfl,⟨_,SqL.of dF⟩,?_⟩;refine Pl (xs:=[.ref a,.ref b]) (fun n ys H'=>n≤2∧Same G7 H'∧∃as:List Addr,ys=as.map V.ref∧Paired (FT H') as (tjs ps h j n)) ⟨by decide,Same.refl _,[],rfl,.nil⟩ ?_ ?_ ?_
    ·rintro n ys H' _ ⟨_,g,_⟩;exact SqL.of (g _ _ dF)
    ·rintro n x ys H' C hx ⟨_,g,as,rfl,pf⟩ hC;obtain⟨o,ko,rfl,e_o,tk,n2⟩:∃(o:Addr)(ko:Int×Int),x=.ref o∧KAt H' o ko∧tjs ps h j (n+1)=tjs ps h j n++aF ps ko∧n<2:=by
      match n,hx with
      | 0,hx=>cases hx;exact⟨a,_,rfl,g _ _ AE,rfl,by decide⟩
      | 1,hx=>cases hx;exact⟨b,_,rfl,g _ _ Ay,rfl,by decide⟩
      |n+2,hx=>simp at hx
     have al:=xG pf;have tl:(tjs ps h j n).length≤n:=by
      match n,n2 with
      | 0,_=>exact xj _
      | 1,_=>show(aF ps (loK h j)).length≤1;unfold aF;split <;> simp
     rw[tk]at hC;generalize tjs ps h j n=ts at pf hC al tl;refine⟨Zx (by rw[xh];omega),Wk.refl _,?_⟩;refine⟨_,rfl,_,rfl,d,_,rfl,V9 (g _ _ a_) e_o,_,rfl,X2 (fun cc=>?_) (fun cc=>?_)⟩
     ·have kin:=W6.mp cc;have et:aF ps ko=[(ko,cnt ps ko)]:=by unfold aF;rw[xp kin]
      rw[et]at hC;have gm:DGet H' d (.ref o) (some (.int (cnt ps ko))):=by rw[←Rw kin];exact V9 (g _ _ a_) e_o
      refine⟨_,rfl,_,rfl,_,rfl,d,_,rfl,gm,leN rfl,fun q nq=>hC _ _ ⟨n2,g.trans (Z9 nq _),as++[q],by rw[xN];rfl,Paired.snoc (Paired.mapP pf fun _ _ f=>Yb (Z9 nq _) f) ⟨o,Z7,Z9 nq _ _ _ e_o⟩⟩⟩
     ·have kin:ko∉ps.map (·.1):=fun z=>cc (W6.mpr z);have et:aF ps ko=[]:=by unfold aF;rw[xm kin]
      rw[et,yQ]at hC;exact hC _ _ ⟨n2,g,as,rfl,pf⟩
    rintro ys H' ⟨_,gs,as,rfl,pf⟩;have pf:Paired (FT H') as (flP ps h j):=pf;have al:=xG pf;have tl:=uT ps h j;refine⟨Zq (by rw[xh];omega),fun T n_T=>⟨⟨.inl rfl,.inl rfl,.inl rfl,.inl rfl,.inl rfl,.inl rfl,.inl rfl,.inl rfl,.inl rfl,.inr rfl,.inl rfl,trivial⟩,?_⟩⟩;have sT:=Z9 n_T (.lst (as.map V.ref));have e_T:(upd H' T (.lst (as.map V.ref))) T=some (.lst (as.map V.ref)):=Z7;have nHT:H T=none:=gg.free (gs.free n_T);have pf:=Paired.mapP pf fun _ _ f=>Yb sT f;have gs:=gs.trans sT;generalize upd H' T (.lst (as.map V.ref))=G8 at pf gs e_T⊢;have eP:=gs _ _ a_;have aI:KAt G8 u (upK h j):=gs _ _ e_u;have gd:=gd.trans (Same.grw gs);have fnd:=vp ps h j;have fin:=wx ps h j;have fdr:=pX ps h j;dsimp only;refine Vj (fun σ' H'=>∃o9 o10:Option V,σ'=[some (.ref d),some (.int or),some (.int bar),some (.int h),some (.int j),some (.ref u),some (.ref pr),some (.int (jn ps h j)),some (.ref T),o9,o10]∧Grw d G8 H'∧H' d=some (.dT (aj (az (az ps (loK h j)) (hiK h j))))) ?_ ?_
    ·intro nx hnx;rw[←fdr]at hnx;generalize flP ps h j=fs at pf al tl fnd fin hnx;refine⟨_,rfl,T,rfl,⟨_,SqL.of e_T⟩,?_⟩;refine Ue (xs:=as.map V.ref) (fun n σ H'=>∃o9 o10:Option V,σ=[some (.ref d),some (.int or),some (.int bar),some (.int h),some (.int j),some (.ref u),some (.ref pr),some (.int (jn ps h j)),some (.ref T),o9,o10]∧Grw d G8 H'∧H' d=some (.dT (aj (cx ps (fs.take n))))) ⟨_,_,rfl,Grw.refl,eP⟩ ?_ ?_ ?_
     ·rintro n σ H' _ ⟨_,_,_,g,_⟩;exact SqL.of (g.lst eP e_T)
     ·rintro n x σ H' N3 B3 R3 hN3 hR3 hx ⟨o9,o10,rfl,g,l7⟩;obtain⟨fa,p,rfl,hp,kb,tK,uz⟩:=W7 pf hx;have tK:=g.tup eP tK;have uz:=g.tup eP uz;refine⟨fa,_,rfl,SqT.of tK,rfl,_,_,rfl,_,_,rfl,rfl,?_⟩;have lk:ak (cx ps (fs.take n)) p.1=some (.int p.2):=by
       rw[Ry,xm fun z=>?_]
       ·exact fin p (xL hp)
       ·obtain⟨m,hm⟩:=yI z;rw[xE,List.getElem?_take]at hm
        split at hm
        ·obtain⟨p',hp',e⟩:=yD.mp hm;have:=Nn fnd (i:=m) (j:=n) (a:=p'.1) (b:=p.1) (by rw[xE,hp'];rfl) (by rw[xE,hp];rfl) (by assumption);exact this e
        ·cases hm
      refine⟨_,rfl,Py l7,_,rfl,d,kb,_,kk p.1,_,rfl,rfl,l7,uz,lk,?_⟩;refine hN3 _ _ ⟨_,_,rfl,g.trans We,?_⟩;rw[fi hp,qj];exact Z7
     ·rintro σ H' ⟨o9,o10,rfl,g,l7⟩;rw[xh,al,yc]at l7;exact hnx _ _ ⟨_,_,rfl,g,l7⟩
    rintro σ' G9 ⟨o9,o10,rfl,g9,e_d9⟩;have dl:(az (az ps (loK h j)) (hiK h j)).length≤ps.length:=xZ (eC _ _) (eC _ _);refine⟨_,rfl,_,rfl,_,rfl,d,_,rfl,DPut.t (k:=kk (upK h j)) e_d9 (g9.tup eP aI) (Zx (by rw[Yp];omega)),?_⟩;refine⟨_,rfl,hR2 _ _ (hR _ _ (hq1 h j T _ ft (gd.trans (g9.trans We)) nHT ?_ ⟨as,?_,?_⟩))⟩
    ·unfold cz;rw[←Ob];exact Z7
    ·exact Grw.lst (d:=d) (g9.trans We) eP e_T
    ·exact Paired.mapP pf fun _ _ ⟨y,e1,e2⟩=>⟨y,Grw.tup (d:=d) (g9.trans We) eP e1,Grw.tup (d:=d) (g9.trans We) eP e2⟩
   ·refine hN2 _ _ ⟨_,_,_,_,_,_,_,rfl,g2.trans gk,fun m j' hm e=>?_⟩
    rcases Nat.lt_succ_iff_lt_or_eq.mp hm with z | z
    ·exact bef2 m j' z e
    ·rw[z,hj]at e;cases e;have:=Ae (yj.mpr c);omega
  ·rintro σ H2 ⟨o4,o5,o6,o7,o8,o9,o10,rfl,g2,all2⟩;refine hN _ _ ⟨_,_,_,_,_,_,_,_,rfl,gg.trans g2,fun k hk z=>?_⟩
   rcases Int.lt_or_le k.1 h with y | y
   ·exact bef k hk (by omega)
   ·have kh:k.1=h:=by omega
    obtain⟨m,hm⟩:=yI ((jm (k.2 / 2)).mpr ⟨k,hk,kh,rfl⟩);rw[kh];refine all2 m _ ?_ hm;rw[xh];exact(xo.mp hm).1
 ·rintro σ H2 ⟨o3,o4,o5,o6,o7,o8,o9,o10,rfl,g2,all⟩;refine⟨_,(Z8 (Zh (Zv Z1))),leN rfl,fun l nl=>hq0 l _ (fun k hk z=>all k hk (by omega)) (g2.trans (Z9 nl _)) (g2.free nl) Z7⟩
theorem FsAt.grw{d l:Addr}{H H':Hp}{kvs:List (List Key×V)}{fs:Sps}(g:Grw d H H')(ed:H d=some (.dT kvs))(h:FsAt H l fs):FsAt H' l fs:=by
 obtain⟨as,e,p⟩:=h;exact⟨as,Grw.lst (d:=d) g ed e,Paired.mapP p fun _ _ ⟨y,e1,e2⟩=>⟨y,Grw.tup (d:=d) g ed e1,Grw.tup (d:=d) g ed e2⟩⟩
def ei(p:(Int×Int)×Int):PyData:=.tuple [.tuple [.int p.1.1,.int p.1.2],.int p.2]
def bf(fs:Sps):List PyData:=fs.map ei
theorem w_{H:Hp}{a:Addr}{p:(Int×Int)×Int}(h:FT H a p):DV H (.ref a) (ei p):=by
 obtain⟨b,e1,e2⟩:=h;exact .tup e1 (.cons (.tup e2 (.cons (.int _) (.cons (.int _) .nil))) (.cons (.int _) .nil))
theorem h_{H:Hp}:∀{as:List Addr}{fs:Sps},Paired (FT H) as fs→DVs H (as.map V.ref) (bf fs)
 |_,_,.nil=>.nil
 |_,_,.cons e r=>.cons (w_ e) (h_ r)
theorem nW(p:(Int×Int)×Int):(ei p).canLay0=true∧(ei p).depth≤4:=by
 unfold ei;refine⟨?_,?_⟩
 ·simp[PyData.canLay0,PyData.canLayAll0]
 ·simp[PyData.depth,PyData.depthAll]
theorem S7(fs:Sps):(PyData.list (bf fs)).canLay0=true∧(PyData.list (bf fs)).depth≤5:=eJ fs fun p _=>nW p
theorem FsAt.dv{H:Hp}{l:Addr}{fs:Sps}(h:FsAt H l fs):DV H (.ref l) (.list (bf fs)):=by
 obtain⟨as,e,p⟩:=h;exact .lst e (h_ p)
theorem Oh:(PyData.list []).canLay0=true∧(PyData.list []).depth≤5:=⟨rfl,by decide⟩
theorem Pe(fs:Sps):(bf fs).isEmpty=true↔fs=[]:=by
 unfold bf;cases fs <;> simp
def dG:Sp:=fun vs H Q _=>∃(d:Addr)(Au or:Int)(ps:Sps),vs=[.ref d,.int Au,.int or]∧H d=some (.dT (aj ps))∧Kok or (ps.map (·.1))∧1≤Au∧Au≤20∧0≤or∧or≤20∧ps.length<64∧
 ∀(t:Addr)(H':Hp)(fs qs:Sps),Grw d H H'→H t=none→H' d=some (.dT (aj qs))→FsAt H' t fs→fs.length≤1400→Stl or (ai ps / Au) ps fs qs→Kok or (qs.map (·.1))→qs.length≤ps.length→Q (.ref t) H'
theorem i6(ps:Sps):(aj ps).map (·.2)=(ps.map (·.2)).map V.int:=by
 unfold aj;rw[yg,yg];rfl
def muS(or:Int)(d:Addr)(σ:St)(H:Hp):Nat:=2*muD or d H+match List.getD σ 5 none with
 |some (V.ref l)=>(match H l with
  |some (HO.lst [])=>0
  |_=>1)
 |_=>1
theorem uD(or:Int)(d:Addr)(σ:St)(H:Hp):muS or d σ H≤2*muD or d H+1:=by
 unfold muS;refine Nat.add_le_add_left ?_ _
 split
 ·split <;> omega
 ·omega
theorem oe{or Au bar:Int}{d t l:Addr}{H:Hp}{ss:Sps}(h:FsAt H l ss)(n:ss≠[]):muS or d [some (V.ref d),some (V.int Au),some (V.int or),some (V.int bar),some (V.ref t),some (V.ref l)] H=2*muD or d H+1:=by
 obtain⟨as,e,p⟩:=h;unfold muS;show 2*muD or d H+(match H l with
  |some (HO.lst [])=>0
  |_=>1)=_
 rw[e];cases p with
 |nil=>exact absurd rfl n
 |cons _ _=>rfl
theorem n6{or Au bar:Int}{d t l:Addr}{H:Hp}(h:H l=some (.lst [])):muS or d [some (V.ref d),some (V.int Au),some (V.int or),some (V.int bar),some (V.ref t),some (V.ref l)] H=2*muD or d H:=by
 unfold muS;show 2*muD or d H+(match H l with
  |some (HO.lst [])=>0
  |_=>1)=_
 rw[h];rfl
theorem ee{α β:Type}{F:α→β→Prop}:∀{xs:List α}{ys:List β}{as:List α}{bs:List β},Paired F xs ys→Paired F as bs→Paired F (xs++as) (ys++bs)
 |_,_,_,_,.nil,h=>h
 |_,_,_,_,.cons e r,h=>.cons e (ee r h)
theorem Ot{ps:Sps}{h j:Int}(i:loK h j∈ps.map (·.1)∨hiK h j∈ps.map (·.1)):flP ps h j≠[]:=fun z=>by
 have:=gj i;rw[z]at this;cases this
structure Lsg(H H':Hp)(d t l:Addr)(or bar:Int)(n0 M:Nat)(ps qs fs ss:Sps):Prop where
 g:Grw d H H'
 ed:H' d=some (.dT (aj qs))
 nt:H t=none
 et:FsAt H' t fs
 el:FsAt H' l ss
 ok:Kok or (qs.map (·.1))
 le:qs.length≤n0
 few:fs.length+ss.length+mea or (qs.map (·.1))≤M
 alt:(ss=[]∧Nof or bar qs∧Way or bar ps fs qs)∨(ss≠[]∧Way or bar ps (fs++ss) qs)
theorem p6(aQ:mg "sum"=none)(aG:mg "list"=none)(bW:Has P w K mg base "_law_fold_once" 1 ["_law_now","_law_deep","_law_bar"] sf)(F:Fun K "_law_settle" "_law_settle" bY f fd):FnOk P w K mg base CX0 2 f fd ["_law_now","_law_room","_law_deep"] dG:=by
 refine F.ok X4 (fun vs H Q E h=>?_) (fun cdv A outer s H vs Q E hr h=>?_)
 ·obtain⟨d,Au,or,ps,rfl,_⟩:=h;rfl
 obtain⟨d,Au,or,ps,rfl,e_d,kok,r0,r1,d0,d1,pl,hq⟩:=h;refine⟨_,(Z4 (Zz 3 X4.nd rfl (Or.inl rfl) (Zc Xr (Zd (V1 rfl) rfl aQ ze (Z0 (Ym (Sl rfl) rfl aG zJ (Z0 (hZ zE PySem.F.slot_dict_values PySem.F.type_dict_values Rs (pv 0)) Z1)) Z1)) (pv 1))) Zi),?_⟩;have gg:Same H H:=Same.refl _;refine⟨_,rfl,Py e_d,d,_,rfl,rfl,e_d,?_⟩;intro v n_v;generalize hz:upd _ v _=H1;revert H1;refine blk ?_;intro H1 hz;have gz:=Zr hz n_v;have e_v:=Y0 hz;clear hz;have gg:=gg.trans gz;have e_d:=gz _ _ e_d;refine⟨v,d,_,rfl,e_v,e_d,?_⟩;rw[i6];intro w2 n_w2;generalize hz:upd _ w2 _=H2;revert H2;refine blk ?_;intro H2 hz;have gz:=Zr hz n_w2;have xc:=Y0 hz;clear hz;have gg:=gg.trans gz;have e_d:=gz _ _ e_d;refine⟨w2,_,rfl,SqL.of xc,_,rfl,_,_,rfl,rfl,⟨by omega,by omega⟩,?_⟩;show sO _ _ _ [_,_,_,some (V.int (ai ps / Au)),_,_] _;generalize hbar:ai ps / Au=bar at hq⊢;refine⟨_,(Z4 (Zz 4 X4.nd rfl (Or.inl rfl) (Zv Z1)) Zi),leN rfl,?_⟩;intro t n_t;generalize hz:upd _ t _=H3;revert H3;refine blk ?_;intro H3 hz;have gz:=Zr hz n_t;have AG:=Y0 hz;clear hz;have gg:=gg.trans gz;have e_d:=gz _ _ e_d;have nt:H t=none:=(by assumption:Same H H2).free n_t;have m0:mea or (ps.map (·.1))≤21*ps.length:=by
  have:=lT d1 (ks:=ps.map (·.1)) fun k hk=>(kok.st k hk).1
  rwa [xh]at this
 have ft:FsAt H3 t []:=⟨[],AG,.nil⟩;clear e_v xc AG;refine⟨_,(Z4 (Zz 5 X4.nd rfl (Or.inl rfl) (Z6 bW hr (Z0 (pv 0) (Z0 (pv 2) (Z0 (pv 3) Z1))))) Zi),?_⟩;refine Vj (fun σ' H'=>∃(l:Addr)(qs ss:Sps),σ'=[some (.ref d),some (.int Au),some (.int or),some (.int bar),some (.ref t),some (.ref l)]∧Lsg H H' d t l or bar ps.length (mea or (ps.map (·.1))) ps qs [] ss) ?_ ?_
 ·intro nx hnx;refine⟨_,rfl,_,rfl,_,rfl,d,or,bar,ps,rfl,e_d,kok,d0,d1,pl,fun l H' nof g nl el=>hnx _ _ ⟨l,ps,[],rfl,⟨Same.grw (gg.trans g),g _ _ e_d,nt,ft.same g,⟨[],el,.nil⟩,kok,Nat.le_refl _,by simp,.inl ⟨rfl,nof,Way.refl⟩⟩⟩,fun h j l H' fst g nl ed fl=>hnx _ _ ⟨l,cz ps h j,flP ps h j,rfl,?_⟩⟩;have pm:=O1 kok.nd fst.in_;have so:=Wp (j:=j) kok fst.hd;exact⟨(Same.grw gg).trans g,ed,nt,ft.grw g e_d,fl,so.1.perm (pm.map _),by rw[pm.length_eq];exact so.2.2,by rw[Ru (pm.map _)];have:=so.2.1;rw[yF];omega,.inr ⟨Ot fst.in_,Way.refl.snoc fst pm⟩⟩
 clear ft e_d gg;rintro σ' H4 ⟨l,qs,ss,rfl,lg⟩;generalize hM:mea or (ps.map (·.1))=M at lg m0;refine⟨_,(Z4 (No yx (Zo (oC hr.units) (pv 5) (Zv Z1) (Zl _)) (Z4 (Zz 4 X4.nd rfl (Or.inl rfl) (Zc S1 (pv 4) (pv 5)))
 (Z8 (Zz 5 X4.nd rfl (Or.inl rfl) (Z6 bW hr (Z0 (pv 0) (Z0 (pv 2) (Z0 (pv 3) Z1)))))))) Zi),?_⟩
 refine N7 (fun σ H'=>∃(t l:Addr)(qs fs ss:Sps),σ=[some (.ref d),some (.int Au),some (.int or),some (.int bar),some (.ref t),some (.ref l)]∧Lsg H H' d t l or bar ps.length M ps qs fs ss) (muS or d) ⟨t,l,qs,[],ss,rfl,lg⟩ ?_ ?_
 ·clear nt n_t;rintro σ H5 ⟨t,l,qs,fs,ss,rfl,lg⟩;refine⟨_,rfl,leN rfl,fun p np=>?_⟩;have sp:=Z9 np (.lst []);have Az:(upd H5 p (.lst [])) p=some (.lst []):=Z7;have mu5:muD or d H5=mea or (qs.map (·.1)):=gX lg.ed;have ms:=oe (or:=or) (d:=d) (Au:=Au) (bar:=bar) (t:=t) lg.el;have g6:=lg.g.trans (Same.grw sp);have ed6:=sp _ _ lg.ed;have et6:=lg.et.same sp;have el6:=lg.el.same sp;have ok6:=lg.ok;have le6:=lg.le;have few6:=lg.few;have alt6:=lg.alt;have nt6:=lg.nt;generalize upd H5 p (.lst [])=H6 at Az g6 ed6 et6 el6⊢;refine⟨_,_,el6.dv,.lst Az .nil,X8 (S7 ss) (by decide),X8 Oh (by decide),_,rfl,?_⟩;rw[Ou]
  rcases alt6 with⟨rfl,nof,way⟩|⟨sn,way⟩
  ·refine Yo ⟨_,(Z8 (Zh (pv 4))),_,rfl,?_⟩;exact hq t _ fs qs g6 nt6 ed6 et6 (by omega) (way.done nof) ok6 le6
  ·have em:(bf ss).isEmpty=false:=yj.mpr fun z=>sn ((Pe ss).mp z);rw[em];rw[mu5]at ms;have ms:=ms sn;obtain⟨as,AG,pt⟩:=et6;obtain⟨bs,AC,pb⟩:=el6;have al:=xG pt;have bl:=xG pb;refine Yt ⟨_,rfl,_,rfl,t,l,_,_,rfl,rfl,AG,AC,Zq (by rw[xh,xh];omega),fun u nu=>?_⟩;have su:=Z9 nu (.lst (as.map V.ref++bs.map V.ref));have fu:FsAt (upd H6 u (.lst (as.map V.ref++bs.map V.ref))) u (fs++ss):=⟨as++bs,by rw[xN];exact Z7,ee (Paired.mapP pt fun _ _ f=>Yb su f) (Paired.mapP pb fun _ _ f=>Yb su f)⟩;have nu6:H u=none:=by
    by_cases z:u=d
    ·rw[z,ed6]at nu;cases nu
    ·cases e:H u with
     |none=>rfl
     |some o=>
      have:=(Z3 (g6 u o (by rw[Zf z];exact e))).2;rw[this]at nu;cases nu
   have g6:=g6.trans (Same.grw su);have ed6:=su _ _ ed6;generalize upd H6 u (.lst (as.map V.ref++bs.map V.ref))=H7 at fu g6 ed6⊢;clear AG AC pt pb;refine⟨_,rfl,_,rfl,_,rfl,d,or,bar,qs,rfl,ed6,ok6,d0,d1,by omega,fun l' H' nof g nl el=>⟨⟨u,l',qs,fs++ss,[],rfl,⟨g6.trans (Same.grw g),g _ _ ed6,nu6,fu.same g,⟨[],el,.nil⟩,ok6,le6,by rw[xn,yF];omega,.inl ⟨rfl,nof,way⟩⟩⟩,?_⟩,fun h j l' H' fst g nl ed fl=>⟨⟨u,l',cz qs h j,fs++ss,flP qs h j,rfl,?_⟩,?_⟩⟩
   ·have m1:muD or d H'=mea or (qs.map (·.1)):=gX (g _ _ ed6);have:=n6 (or:=or) (d:=d) (Au:=Au) (bar:=bar) (t:=u) el;rw[m1]at this;show muS or d [some (V.ref d),some (V.int Au),some (V.int or),some (V.int bar),some (V.ref u),some (V.ref l')] H'<_;omega
   ·have pm:=O1 ok6.nd fst.in_;have so:=Wp (j:=j) ok6 fst.hd;exact⟨g6.trans g,ed,nu6,fu.grw g ed6,fl,so.1.perm (pm.map _),by rw[pm.length_eq];have:=so.2.2;omega,by rw[Ru (pm.map _),xn];have:=so.2.1;omega,.inr ⟨Ot fst.in_,way.snoc fst pm⟩⟩
   ·have pm:=O1 ok6.nd fst.in_;have so:=Wp (j:=j) ok6 fst.hd;have fp:=gj fst.in_;have m1:muD or d H'=mea or ((cz qs h j).map (·.1)):=gX ed;rw[Ru (pm.map _)]at m1;have:=uD or d [some (V.ref d),some (V.int Au),some (V.int or),some (V.int bar),some (V.ref u),some (V.ref l')] H';show muS or d [some (V.ref d),some (V.int Au),some (V.int or),some (V.int bar),some (V.ref u),some (V.ref l')] H'<_;have:=so.2.1;omega
 ·rintro σ H' Q1 Q2 m ⟨v,e,lN,h⟩;exact⟨v,e,lN,fun p np=>let ⟨a,b,c1,c2,c3,c4,k,ek,r⟩:=h p np;⟨a,b,c1,c2,c3,c4,k,ek,m _ _ r⟩⟩
end K24
namespace Ld
open PySem L2
structure Pok(or:Int)(ps:Sps):Prop where
 kok:Kok or (ps.map (·.1))
 pos:∀p∈ps,1≤p.2
theorem Pok.perm{or:Int}{ps qs:Sps}(h:Pok or ps)(p:qs.Perm ps):Pok or qs:=⟨h.kok.perm (p.map _),fun x hx=>h.pos x (p.mem_iff.mp hx)⟩
theorem Oe{or:Int}:Pok or []:=⟨⟨zy,fun _ h=>nomatch h⟩,fun _ h=>nomatch h⟩
theorem R6{or:Int}{ps:Sps}(h:Pok or ps)(k:Int×Int):0≤cnt ps k:=by
 by_cases hk:k∈ps.map (·.1)
 ·obtain⟨p,hp,rfl⟩:=xI.mp hk;rw[fK h.kok.nd hp];have:=h.pos p hp;omega
 ·rw[Vb hk];exact zB _
theorem iY{or:Int}{ps:Sps}(h:Pok or ps){k:Int×Int}(hk:k∈ps.map (·.1)):1≤cnt ps k:=by
 obtain⟨p,hp,rfl⟩:=xI.mp hk;rw[fK h.kok.nd hp];exact h.pos p hp
theorem jd{or:Int}{ps:Sps}{k:Int×Int}{n:Int}(h:Pok or ps)(hk:0≤k.1∧k.1≤or∧0≤k.2∧k.2<2^(or-k.1).toNat)(hn:1≤n):Pok or (aO ps k n):=by
 refine⟨⟨Wj h.kok.nd,fun x hx=>?_⟩,fun p hp=>?_⟩
 ·rw[Vn]at hx
  split at hx
  ·exact h.kok.st x hx
  ·rcases xM.mp hx with hx | hx
   ·exact h.kok.st x hx
   ·rw[xq.mp hx];exact hk
 ·unfold aO at hp
  split at hp
  ·obtain⟨q,hq,rfl⟩:=xI.mp hp
   split
   ·exact hn
   ·exact h.pos q hq
  ·rcases xM.mp hp with hp | hp
   ·exact h.pos p hp
   ·rw[xq.mp hp];exact hn
theorem lQ{or:Int}{ps:Sps}{h j:Int}(o:Pok or ps)(i:loK h j∈ps.map (·.1)∨hiK h j∈ps.map (·.1))(hd:h<or):Pok or (aW ps h j):=by
 have so:=Wp (j:=j) o.kok hd;refine⟨so.1,fun p hp=>?_⟩;have e:=Wd so.1.nd hp;rw[W4 i]at e
 split at e
 ·cases e
 ·split at e
  ·injection e with e
   injection e with e
   rw[←e];unfold jn;have a:=R6 o (loK h j);have b:=R6 o (hiK h j);have c:=R6 o (upK h j)
   rcases i with i | i
   ·have:=iY o i;omega
   ·have:=iY o i;omega
  ·exact o.pos p ((Rt o.kok.nd).mpr e)
theorem qQ{or bar:Int}{ps fs Ax:Sps}(s:Stl or bar ps fs Ax):Pok or ps→Pok or Ax∧Ax.length≤ps.length:=by
 induction s with
 |done n=>exact fun o=>⟨o,xj _⟩
 |step f p1 s ih=>
  intro o;have q:=lQ o f.in_ f.hd;have z:=ih (q.perm p1);exact⟨z.1,xZ z.2 (by rw[p1.length_eq];exact(Wp o.kok f.hd).2.2)⟩
theorem lx{or bar:Int}{ps fs Ax qs:Sps}(s:Stl or bar ps fs Ax)(p:ps.Perm qs)(nd:(ps.map (·.1)).Nodup):∃qs',Stl or bar qs fs qs'∧qs'.Perm Ax:=by
 cases s with
 |done n=>exact⟨qs,.done (Rq n p nd),p.symm⟩
 |step f p1 s=>exact⟨Ax,by rw[ju p nd];exact .step (f.perm p nd) (p1.trans (P2 p nd f.in_)) s,.refl _⟩
theorem mt{or bar:Int}{ps:Sps}:Nof or bar ps∨∃h j,Fst or bar ps h j:=by
 by_cases n:Nof or bar ps
 ·exact .inl n
 refine .inr ?_;have go:∀l:List (Int×Int),l.Pairwise (fun a b=>leK a b=true)→(∀k∈l,k∈ps.map (·.1))→(∃k∈l,k.1<or∧jn ps k.1 (k.2 / 2)≤bar)→∃k∈l,k.1<or∧jn ps k.1 (k.2 / 2)≤bar∧∀k'∈l,k'.1<or→jn ps k'.1 (k'.2 / 2)≤bar→k.1<k'.1∨(k.1=k'.1∧k.2 / 2≤k'.2 / 2):=by
  intro l
  induction l with
  |nil=>rintro _ _ ⟨k,hk,_⟩;cases hk
  |cons x l ih=>
   intro pw sub ex;rw[xR]at pw;by_cases c:x.1<or∧jn ps x.1 (x.2 / 2)≤bar
   ·refine⟨x,.head _,c.1,c.2,fun k' hk' _ _=>?_⟩
    rcases xv.mp hk' with e | hk'
    ·rw[e];exact .inr ⟨rfl,zB _⟩
    ·rcases Xs.mp (pw.1 k' hk')with h | ⟨h,g⟩
     ·exact .inl h
     ·exact .inr ⟨h,by omega⟩
   ·obtain⟨k,hk,h1,h2⟩:=ex;have hk:k∈l:=(xv.mp hk).resolve_left fun e=>c (by rw[←e];exact⟨h1,h2⟩);obtain⟨k0,m,a1,a2,a3⟩:=ih pw.2 (fun z hz=>sub z (.tail _ hz)) ⟨k,hk,h1,h2⟩;refine⟨k0,.tail _ m,a1,a2,fun k' hk' b1 b2=>?_⟩
    rcases xv.mp hk' with e | hk'
    ·exact absurd (by rw[←e];exact⟨b1,b2⟩) c
    ·exact a3 k' hk' b1 b2
 have mk:∀k,k∈dm (ps.map (·.1))↔k∈ps.map (·.1):=fun k=>(Wq _).mem_iff;obtain⟨k,hk⟩:=Classical.not_forall.mp n;obtain⟨hk1,hk⟩:=Classical.not_imp.mp hk;obtain⟨hk2,hk⟩:=Classical.not_imp.mp hk;obtain⟨k0,m,a1,a2,a3⟩:=go (dm (ps.map (·.1))) (O2 _) (fun k h=>(mk k).mp h) ⟨k,(mk k).mpr hk1,hk2,by omega⟩;refine⟨k0.1,k0.2 / 2,?_,a1,a2,fun k' h1 h2 h3=>a3 k' ((mk k').mpr h1) h2 h3⟩
 rcases Os k0 with e | e
 ·exact .inl (by rw[←e];exact(mk k0).mp m)
 ·exact .inr (by rw[←e];exact(mk k0).mp m)
theorem hV{or bar:Int}:∀(n:Nat)(ps:Sps),mea or (ps.map (·.1))≤n→Kok or (ps.map (·.1))→∃fs Ax,Stl or bar ps fs Ax
 |n,ps,hn,o=>by
  rcases mt (or:=or) (bar:=bar) (ps:=ps)with z | ⟨h,j,f⟩
  ·exact⟨[],ps,.done z⟩
  ·have so:=Wp (j:=j) o f.hd;have fp:=gj f.in_
   match n,hn with
   | 0,hn=>omega
   |n+1,hn=>
    obtain⟨fs,Ax,s⟩:=hV n (aW ps h j) (by omega) so.1;exact⟨_,_,.step f (.refl _) s⟩
def cS(or bar:Int)(ps:Sps):Sps:=aL (Classical.epsilon fun Ax=>∃fs,Stl or bar ps fs Ax)
def w5(or bar:Int)(ps:Sps):Sps:=Classical.epsilon fun fs=>∃Ax,Stl or bar ps fs Ax
theorem Sv{or bar:Int}{ps fs Ax:Sps}(s:Stl or bar ps fs Ax)(nd:(ps.map (·.1)).Nodup):cS or bar ps=aL Ax∧w5 or bar ps=fs:=by
 refine⟨?_,?_⟩
 ·obtain⟨gs,t⟩:=Classical.epsilon_spec (p:=fun Ax=>∃fs,Stl or bar ps fs Ax) ⟨Ax,fs,s⟩;exact T9 (jk t s (.refl _) nd).2
 ·obtain⟨qs,t⟩:=Classical.epsilon_spec (p:=fun fs=>∃Ax,Stl or bar ps fs Ax) ⟨fs,Ax,s⟩;exact(jk t s (.refl _) nd).1
theorem rf{or bar:Int}{ps qs fs qs':Sps}(s:Stl or bar qs fs qs')(p:qs.Perm ps)(nd:(qs.map (·.1)).Nodup):cS or bar ps=aL qs'∧w5 or bar ps=fs:=by
 obtain⟨Ax,t,p'⟩:=lx s p nd;have:=Sv t ((p.map _).nodup_iff.mp nd);exact⟨this.1.trans (T9 p'),this.2⟩
theorem fw(ps:Sps):aL (aL ps)=aL ps:=T9 (Zy ps)
theorem Us{or bar:Int}{ps:Sps}(o:Pok or ps):Pok or (cS or bar ps)∧aL (cS or bar ps)=cS or bar ps∧Nof or bar (cS or bar ps)∧ai (cS or bar ps)=ai ps∧(cS or bar ps).length≤ps.length:=by
 obtain⟨fs,Ax,s⟩:=hV (or:=or) (bar:=bar) _ ps (xj _) o.kok;have e:=(Sv s o.kok.nd).1;have f:=iW s o.kok.nd;have g:=qQ s o;rw[e];refine⟨g.1.perm (Zy Ax),fw Ax,Rq f.2.1 (Zy Ax).symm f.1,by rw[T7 (Zy Ax)];exact f.2.2,by rw[(Zy Ax).length_eq];exact g.2⟩
def aK(xs ys:Sps):Sps:=ys.foldl (fun a p=>aO a p.1 (cnt a p.1+p.2)) xs
theorem ng(xs ys:Sps)(p:(Int×Int)×Int):aK xs (ys++[p])=aO (aK xs ys) p.1 (cnt (aK xs ys) p.1+p.2):=by
 unfold aK;rw[List.foldl_append];rfl
theorem Qh(xs ys:Sps)(p:(Int×Int)×Int):aK xs (p::ys)=aK (aO xs p.1 (cnt xs p.1+p.2)) ys:=rfl
theorem N4:∀{ys xs:Sps},(xs.map (·.1)).Nodup→((aK xs ys).map (·.1)).Nodup
 | [],_,h=>h
 |_::ys,_,h=>N4 (ys:=ys) (Wj h)
theorem Ra:∀(ys xs:Sps),(aK xs ys).length≤xs.length+ys.length
 | [],xs=>xj _
 |p::ys,xs=>by
  have a:=Ra ys (aO xs p.1 (cnt xs p.1+p.2));have b:=Oc xs p.1 (cnt xs p.1+p.2);rw[Qh,xD];omega
theorem N1:∀{ys xs:Sps},(xs.map (·.1)).Nodup→ai (aK xs ys)=ai xs+ai ys
 | [],xs,_=>by
  show ai xs=ai xs+0;omega
 |p::ys,xs,h=>by
  rw[Qh,N1 (Wj h),O0 h];unfold ai;rw[xu,xY];omega
theorem Tt{or:Int}:∀{ys xs:Sps},Pok or xs→(∀p∈ys,1≤p.2∧0≤p.1.1∧p.1.1≤or∧0≤p.1.2∧p.1.2<2^(or-p.1.1).toNat)→Pok or (aK xs ys)
 | [],_,h,_=>h
 |p::ys,xs,h,g=>by
  have gp:=g p (.head _);have:=R6 h p.1;exact Tt (ys:=ys) (jd h gp.2 (by omega)) fun q hq=>g q (.tail _ hq)
theorem Pok.each{or:Int}{ys:Sps}(h:Pok or ys):∀p∈ys,1≤p.2∧0≤p.1.1∧p.1.1≤or∧0≤p.1.2∧p.1.2<2^(or-p.1.1).toNat:=fun p hp=>⟨h.pos p hp,h.kok.st p.1 (xI.mpr ⟨p,hp,rfl⟩)⟩
theorem Tj:∀{ys xs:Sps}(k:Int×Int),(ys.map (·.1)).Nodup→ak (aK xs ys) k=if k∈ys.map (·.1)then some (.int (cnt xs k+cnt ys k))else ak xs k
 | [],xs,k,_=>by
  rw[List.map_nil,xm yw];rfl
 |p::ys,xs,k,nd=>by
  rw[xu,xW]at nd;rw[Qh,Tj k nd.2,xu];have cp:cnt (p::ys) k=if p.1=k then p.2 else cnt ys k:=by
   unfold cnt;rw[X5]
   split <;> rename_i e
   ·split at e <;> rename_i z
    ·rw[xp z];injection e with e;injection e with e;exact e.symm
    ·rw[xm z,e]
   ·split at e <;> rename_i z
    ·exact absurd rfl (e p.2)
    ·rw[xm z]
     split
     ·rename_i n q;exact absurd q (e n)
     ·rfl
  by_cases e:p.1=k
  ·have hk:k∉ys.map (·.1):=by rw[←e];exact nd.1
   rw[xm hk,W5,xp e.symm,xp (show k∈p.1::ys.map (·.1) by rw[e];exact .head _),cp,xp e,e]
  ·rw[cp,xm e];by_cases hk:k∈ys.map (·.1)
   ·rw[xp hk,xp (xV _ hk),Oz,xm (Ne.symm e)]
   ·rw[xm hk,xm (fun q=>(xv.mp q).elim (fun z=>e z.symm) hk),W5,xm (Ne.symm e)]
theorem lY{xs ys us vs:Sps}(p:xs.Perm us)(q:ys.Perm vs)(nx:(xs.map (·.1)).Nodup)(ny:(ys.map (·.1)).Nodup):(aK xs ys).Perm (aK us vs):=by
 have nu:=(p.map (·.1)).nodup_iff.mp nx;have nv:=(q.map (·.1)).nodup_iff.mp ny;refine U6 (N4 nx) (N4 nu) fun k=>?_;rw[Tj k ny,Tj k nv,Yz p nx k,Vy (Yz p nx k),Vy (Yz q ny k)];by_cases hy:k∈ys.map (·.1)
 ·rw[xp hy,xp ((q.map _).mem_iff.mp hy)]
 ·rw[xm hy,xm fun z=>hy ((q.map _).mem_iff.mpr z)]
def bK(Au or:Int)(xs ys:Sps):Sps:=cS or (ai (aK xs ys) / Au) (aK xs ys)
structure Lok(Au or:Int)(xs:Sps):Prop where
 pok:Pok or xs
 srt:aL xs=xs
 nof:Nof or (ai xs / Au) xs
theorem oX{Au or:Int}:Lok Au or []:=⟨Oe,by unfold aL;simp,fun _ h=>nomatch h⟩
theorem eu{Au or:Int}{ps:Sps}(o:Pok or ps):Lok Au or (cS or (ai ps / Au) ps):=by
 obtain⟨a,b,c,d,_⟩:=Us (bar:=ai ps / Au) o;exact⟨a,b,by rw[d];exact c⟩
theorem Oi{Au or:Int}{xs ys:Sps}(hx:Pok or xs)(hy:Pok or ys):Lok Au or (bK Au or xs ys)∧ai (bK Au or xs ys)=ai xs+ai ys∧(bK Au or xs ys).length≤xs.length+ys.length:=by
 have o:=Tt hx hy.each;obtain⟨a,b,c,d,e⟩:=Us (bar:=ai (aK xs ys) / Au) o;exact⟨eu o,by unfold bK;rw[d,N1 hx.kok.nd],xZ e (Ra ys xs)⟩
def thL(Au or:Int)(t:Th):Sps:=cS or (t.many / Au) [((0,t.num),t.many)]
def cZ(Au or:Int)(ts:List Th):Sps:=ts.foldl (fun a t=>bK Au or a (thL Au or t)) []
def ThL(or:Int)(t:Th):Prop:=0≤t.num∧t.num<2^or.toNat∧1≤t.many
theorem Og{or:Int}{t:Th}(d0:0≤or)(h:ThL or t):Pok or [((0,t.num),t.many)]:=by
 refine⟨⟨xW.mpr ⟨yw,zy⟩,fun k hk=>?_⟩,fun p hp=>?_⟩
 ·have e:k=(0,t.num):=xq.mp hk;rw[e];refine⟨zB _,d0,h.1,?_⟩;show t.num<2^(or-0).toNat;rw[Int.sub_zero];exact h.2.1
 ·rw[xq.mp hp];exact h.2.2
theorem iH(t:Th):ai [((0,t.num),t.many)]=t.many:=by
 show t.many+0=t.many;omega
theorem f_{Au or:Int}{t:Th}(d0:0≤or)(h:ThL or t):Lok Au or (thL Au or t)∧ai (thL Au or t)=t.many∧(thL Au or t).length≤1:=by
 have o:=Og d0 h;have l:=eu (Au:=Au) o;obtain⟨a,b,c,d,e⟩:=Us (bar:=t.many / Au) o;rw[iH]at l d;exact⟨l,d,e⟩
theorem jZ(Au or:Int)(ts:List Th)(t:Th):cZ Au or (ts++[t])=bK Au or (cZ Au or ts) (thL Au or t):=by
 unfold cZ;rw[List.foldl_append];rfl
def bE(ts:List Th):Int:=(ts.map (·.many)).sum
theorem iB{Au or:Int}(d0:0≤or):∀(ts:List Th)(a:Sps),Lok Au or a→(∀t∈ts,ThL or t)→Lok Au or (ts.foldl (fun a t=>bK Au or a (thL Au or t)) a)∧ai (ts.foldl (fun a t=>bK Au or a (thL Au or t)) a)=ai a+bE ts∧(ts.foldl (fun a t=>bK Au or a (thL Au or t)) a).length≤a.length+ts.length
 | [],a,ha,_=>⟨ha,by show ai a=ai a+0;omega,xj _⟩
 |t::ts,a,ha,h=>by
  have ht:=f_ (Au:=Au) d0 (h t (.head _));have m:=Oi (Au:=Au) ha.pok ht.1.pok;obtain⟨i1,i2,i3⟩:=iB d0 ts _ m.1 fun x hx=>h x (.tail _ hx);refine⟨i1,?_,?_⟩
  ·rw[List.foldl_cons,i2,m.2.1,ht.2.1];unfold bE;rw[xu,xY];omega
  ·rw[List.foldl_cons,xD];have:=m.2.2;have:=ht.2.2;omega
theorem i7{Au or:Int}(d0:0≤or){ts:List Th}(h:∀t∈ts,ThL or t):Lok Au or (cZ Au or ts)∧ai (cZ Au or ts)=bE ts∧(cZ Au or ts).length≤ts.length:=by
 obtain⟨a,b,c⟩:=iB (Au:=Au) d0 ts [] oX h;refine⟨a,?_,?_⟩
 ·show ai (ts.foldl _ [])=_;rw[b];show(0:Int)+bE ts=bE ts;omega
 ·show(ts.foldl _ []).length≤_;rw[yF,Nat.zero_add]at c;exact c
end Ld
namespace K24
open PySem L2 Ld
theorem tM{or h oh oi t:Int}(h0:0≤h)(h1:h≤oh)(h2:oh≤or)(i0:0≤oi)(i1:oi<2^(or-oh).toNat)(t0:0≤t)(t1:t<2^(oh-h).toNat):0≤oi*2^(oh-h).toNat+t∧oi*2^(oh-h).toNat+t<2^(or-h).toNat:=by
 have e:(or-h).toNat=(or-oh).toNat+(oh-h).toNat:=by omega
 have p:(0:Int)<2^(oh-h).toNat:=by
  have a3:((2^(oh-h).toNat:Nat):Int)=(2:Int)^(oh-h).toNat:=by push_cast;rfl
  have a2:0<(2:Nat)^(oh-h).toNat:=Nat.pow_pos (by decide);rw[←a3];omega
 rw[e,Int.pow_add];have q1:0≤oi*2^(oh-h).toNat:=Int.mul_nonneg i0 (by omega);have q2:(oi+1)*2^(oh-h).toNat≤2^(or-oh).toNat*2^(oh-h).toNat:=Int.mul_le_mul_of_nonneg_right (by omega) (by omega);rw[Int.add_mul,zC]at q2;omega
theorem sx{K:W.Frag}{S:Addr}{ns:List Int}{H:Hp}{a d:Addr}{kvs:List (List Key×V)}{o:HO}(h:Pn K S ns H a)(e:H d=some (.dT kvs)):Pn K S ns (upd H d o) a:=by
 obtain⟨⟨i,r,ea⟩,s,f⟩:=h;refine⟨⟨i,r,by rw[Ze (Vd ea e (by intro z;cases z))];exact ea⟩,?_,f⟩
 rcases s with(s | ⟨u,s⟩) | s
 ·exact .inl (.inl (by rw[Ze (Vd s e (by intro z;cases z))];exact s))
 ·exact .inl (.inr ⟨u,by rw[Ze (Vd s e (by intro z;cases z))];exact s⟩)
 ·exact .inr s
structure PokB(or:Int)(ps:Sps):Prop where
 pok:Pok or ps
 sml:∀p∈ps,p.2≤100000000000000000000000000000
theorem PokB.kok{or:Int}{ps:Sps}(h:PokB or ps):Kok or (ps.map (·.1)):=h.pok.kok
theorem lh{or:Int}:PokB or []:=⟨Oe,fun _ h=>absurd h yw⟩
theorem oJ{or:Int}{ps:Sps}{k:Int×Int}{n:Int}(h:PokB or ps)(hk:0≤k.1∧k.1≤or∧0≤k.2∧k.2<2^(or-k.1).toNat)(hn:1≤n∧n≤100000000000000000000000000000):PokB or (aO ps k n):=by
 refine⟨jd h.pok hk hn.1,fun p hp=>?_⟩;unfold aO at hp
 split at hp
 ·obtain⟨q,hq,rfl⟩:=xI.mp hp
  split
  ·exact hn.2
  ·exact h.sml q hq
 ·rcases xM.mp hp with hp | hp
  ·exact h.sml p hp
  ·rw[xq.mp hp];exact hn.2
theorem PokB.sum{or:Int}:∀{ps:Sps},PokB or ps→ps.length≤60→ai ps≤6000000000000000000000000000000:=fun{ps} h l=>by
 have:∀ps:Sps,(∀p∈ps,p.2≤100000000000000000000000000000)→ai ps≤100000000000000000000000000000*(ps.length:Int):=fun ps=>by
  induction ps with
  |nil=>intro _;exact zB _
  |cons p ps ih=>
   intro h;have h1:=h p (.head _);have h2:=ih fun q hq=>h q (.tail _ hq);unfold ai at h2⊢;rw[xu,xY,xD];omega
 have:=this ps h.sml;omega
def eQ(K:W.Frag):Sp:=fun vs H Q _=>∃(a S:Addr)(ns:List Int)(or most:Int),vs=[.ref a,.int or,.int most]∧Pn K S ns H a∧1≤or∧or≤10∧0≤most∧most≤60∧∀(d:Addr)(H':Hp)(ps:Sps),H d=none→ag a H' d=some (.dT (aj ps))→PokB or ps→ps.length≤60→Pn K S ns H' a→Grw a H H'→Q (.ref d) H'
def fT(K:W.Frag):Sp:=fun vs H Q _=>∃(a S:Addr)(ns:List Int),vs=[.ref a]∧Pn K S ns H a∧∀(n:Int)(H':Hp),(1≤n∧n≤100000000000000000000000000000)→Pn K S ns H' a→Grw a H H'→Q (.int n) H'
def jv(K:W.Frag):Sp:=fun vs H Q _=>∃(a S:Addr)(ns:List Int),vs=[.ref a]∧Pn K S ns H a∧∀(l:Addr)(Au or:Int)(H':Hp),ag a H' l=some (.lst [.int Au,.int or])→1≤Au→Au≤20→1≤or→or≤10→Pn K S ns H' a→Grw a H H'→Q (.ref l) H'
def rY:Sp:=fun vs H Q _=>∃(d:Addr)(Au or:Int)(ps:Sps),vs=[.ref d,.int Au,.int or]∧H d=some (.dT (aj ps))∧ps.length<64∧∀(r:Addr)(H':Hp),Same H H'→LadAt H' r Au or (ai ps) (aL ps)→Q (.ref r) H'
variable{P:Program}{w:World}{K:W.Frag}{mg:Str→Option Value}{base:Heap}{f:Addr}{fd:FuncData}
theorem mH(ah:Has P w K mg base "_law_take" 1 ["_law_pen_here","_law_most"] (bh K))(F:Fun K "_law_sizes" "_law_sizes" cJ f fd):FnOk P w K mg base CX0 2 f fd ["_law_pen_here"] (jv K):=by
 refine F.ok Rh (fun vs H Q E h=>?_) (fun cdv A outer s H vs Q E hr h=>?_)
 ·obtain⟨a,S,ns,rfl,_⟩:=h;rfl
 obtain⟨a,S,ns,rfl,hp,hq⟩:=h;refine⟨_,(Z4 (Zz 1 Rh.nd rfl (Or.inl rfl) (Yd Y9 (Zv (Z0 Z2 (Z0 Z2 (Z0 Z2 (Z0 Z2 (Z0 Z2 (Z0 Z2 (Z0 Z2 (Z0 (Zc Zs Z2 (Z6 ah hr (Z0 (pv 0) (Z0 Z2 Z1)))) Z1))))))))) (Z6 ah hr (Z0 (pv 0) (Z0 Z2 Z1)))))
 (Z8 (Zh (Zv (Z0 (pv 1) (Z0 (Zc Zs Z2 (Z6 ah hr (Z0 (pv 0) (Z0 (Yd Y9 (Zv (Z0 Z2 (Z0 Z2 (Z0 Z2 Z1)))) (Z6 ah hr (Z0 (pv 0) (Z0 Z2 Z1)))) Z1)))) Z1)))))),?_⟩
 refine⟨_,rfl,a,S,ns,20,rfl,hp,Xb rfl,ltI rfl,fun d1 H1 x0 x1 hp1 g1=>⟨_,_,rfl,rfl,leN rfl,fun p np=>?_⟩⟩;have x1:d1<20:=x1;have g2:=hp1.grw (Z9 np (.lst [.int 1,.int 2,.int 3,.int 4,.int 5,.int 8,.int 20,.int (1+d1)]));have pa:=hp1.ne np;have hp2:=hp1.laid (o:=.lst [.int 1,.int 2,.int 3,.int 4,.int 5,.int 8,.int 20,.int (1+d1)]) np;have Az:ag a (upd H1 p (.lst [.int 1,.int 2,.int 3,.int 4,.int 5,.int 8,.int 20,.int (1+d1)])) p=some (.lst [.int 1,.int 2,.int 3,.int 4,.int 5,.int 8,.int 20,.int (1+d1)]):=by rw[Zf pa];exact Z7
 refine⟨_,rfl,a,S,ns,8,rfl,hp2,Xb rfl,ltI rfl,fun d2 H3 y0 y1 hp3 g3=>?_⟩;have Az:=g3 _ _ Az;obtain⟨v,hv,mv⟩:=Tf (d:=d2) (Z3 Az).2 y0 y1;obtain⟨Au,rfl,r0,r1⟩:∃z:Int,v=.int z∧1≤z∧z≤20:=by
  simp only[List.mem_cons,List.not_mem_nil,or_false]at mv
  rcases mv with rfl | rfl | rfl | rfl | rfl | rfl | rfl | rfl
  all_goals first | exact⟨_,rfl,by decide,by decide⟩ | exact⟨_,rfl,by omega,by omega⟩
 refine⟨p,_,_,_,rfl,rfl,Xj Az,hv,?_⟩;refine⟨_,rfl,_,rfl,leN rfl,fun u nu=>?_⟩;have ua:=hp3.ne nu;have e_u:ag a (upd H3 u (.lst [.int 3,.int 5,.int 10])) u=some (.lst [.int 3,.int 5,.int 10]):=by rw[Zf ua];exact Z7
 refine⟨_,rfl,a,S,ns,3,rfl,hp3.laid nu,Xb rfl,ltI rfl,fun d3 H4 z0 z1 hp4 g4=>?_⟩;have e_u:=g4 _ _ e_u;obtain⟨v,hv,mv⟩:=Tf (d:=d3) (Z3 e_u).2 z0 z1;obtain⟨z,rfl,q0,q1⟩:∃z:Int,v=.int z∧0<z∧z≤10:=by
  simp only[List.mem_cons,List.not_mem_nil,or_false]at mv
  rcases mv with rfl | rfl | rfl <;> exact⟨_,rfl,by decide,by decide⟩
 refine⟨u,_,_,_,rfl,rfl,Xj e_u,hv,a,S,ns,z,rfl,hp4,q0,by omega,fun d4 H5 w0 w1 hp5 g5=>⟨_,_,rfl,rfl,leN rfl,fun l nl=>?_⟩⟩;exact hq l Au (1+d4) _ (by rw[Zf (hp5.ne nl)];exact Z7) r0 r1 (by omega) (by omega) (hp5.laid nl) (g1.trans (g2.trans (g3.trans ((hp3.grw (Z9 nu _)).trans (g4.trans (g5.trans (hp5.grw (Z9 nl _))))))))
theorem kR(av:mg "range"=none)(bD:mg "int"=none)(aC:mg "sorted"=none)(am:mg "len"=none)(mG:mg "min"=none)(ah:Has P w K mg base "_law_take" 1 ["_law_pen_here","_law_most"] (bh K))(di:Has P w K mg base "_law_many" 2 ["_law_pen_here"] (fT K))(F:Fun K "_law_counts" "_law_counts" ci f fd):FnOk P w K mg base CX0 3 f fd ["_law_pen_here","_law_deep","_law_most"] (eQ K):=by
 refine F.ok Yi (fun vs H Q E h=>?_) (fun cdv A outer s H vs Q E hr h=>?_)
 ·obtain⟨a,S,ns,or,most,rfl,_⟩:=h;rfl
 obtain⟨a,S,ns,or,most,rfl,hp,d0,d1,m0,m1,hq⟩:=h;refine⟨_,(Z4 (Zz 3 Yi.nd rfl (Or.inl rfl) Rm) Zi),fun d n_d=>?_⟩;have nHd:ag a H d=none:=by
  by_cases z:d=a
  ·unfold ag;rw[xp z]
  ·rw[Zf z];exact n_d
 have gg:=hp.grw (Z9 n_d (.dT []));have e_d:ag a (upd H d (.dT [])) d=some (.dT (aj [])):=by rw[Zf (hp.ne n_d)];exact Z7
 have hp:=hp.laid (o:=.dT []) n_d;generalize upd H d (.dT [])=H1 at gg e_d hp⊢;refine⟨_,(Z4 (Xl yx rfl (Xu rfl av (Z0 (Z6 ah hr (Z0 (pv 0) (Z0 (Zc Zs (pv 2) Z2) Z1))) Z1)) (Za (i:=4) Yi.nd rfl (Or.inl rfl))
 (Z4 (Zz 5 Yi.nd rfl (Or.inl rfl) (Zc Xc (Z6 ah hr (Z0 (pv 0) (Z0 (Zc Zs (pv 1) Z2) Z1))) (Ym jS rfl bD PyProof.Rows.boot_int (Z0 (Xq Ul (Z6 ah hr (Z0 (pv 0) (Z0 Z2 Z1))) Z2 (Zl _)) Z1))))
 (Z4 (Zz 6 Yi.nd rfl (Or.inl rfl) (Z6 ah hr (Z0 (pv 0) (Z0 (Zc S0 Z2 (Zc Xm (pv 1) (pv 5))) Z1))))
 (Z4 (Y4 (PW.pt (Rj (Zo (qY (Ac (zk _ _) hr.units)) (pv 3) Rm (Zl _)) (Td (Zo Ul (Z6 ah hr (Z0 (pv 0) (Z0 Z2 Z1))) Z2 (Zl _))))) (Z4 (Zz 7 Yi.nd rfl (Or.inl rfl) (Zd (Sk rfl hr.units) rfl aC zW (Z0 (pv 3) Z1)))
 (Z4 (Zz 8 Yi.nd rfl (Or.inl rfl) (Yd Y9 (pv 7) (Z6 ah hr (Z0 (pv 0) (Z0 (Zd Zj rfl am x9 (Z0 (pv 7) Z1)) Z1)))))
 (Z4 (Zz 5 Yi.nd rfl (Or.inl rfl) (Zd (j_ rfl) rfl mG PyProof.Rows.boot_min (Z0 (pv 5) (Z0 (Yd Y8 (pv 8) Z2) Z1))))
 (Z8 (Zz 6 Yi.nd rfl (Or.inl rfl) (Zc Zs (Zc S0 (Yd Y8 (pv 8) Z2) (Zc Xm (Yd Y8 (pv 8) Z2) (pv 5))) (Z6 ah hr (Z0 (pv 0) (Z0 (Zc S0 Z2 (Zc Xm (Yd Y8 (pv 8) Z2) (pv 5))) Z1))))))))) Zn)
 (Z8 (Od (Vf hr) (pv 3) (Zp (Z0 (pv 5) (Z0 (pv 6) Z1))) (Z6 di hr (Z0 (pv 0) Z1)) rfl)))))) Zi),?_⟩
 refine⟨_,rfl,_,rfl,_,_,rfl,rfl,a,S,ns,_,rfl,hp,by omega,by omega,fun t H2 t0 t1 hp gz=>⟨t,rfl,by omega,by omega,?_⟩⟩;have gg:=gg.trans gz;have e_d:=gz _ _ e_d;refine Xe (lo:=0) (n:=t.toNat) (fun i σ H'=>∃(o4 o5 o6 o7 o8:Option V)(ps:Sps),σ=[some (.ref a),some (.int or),some (.int most),some (.ref d),o4,o5,o6,o7,o8]∧Pn K S ns H' a∧Grw a H H'∧ag a H' d=some (.dT (aj ps))∧PokB or ps∧ps.length≤i) ⟨_,_,_,_,_,[],rfl,hp,gg,e_d,lh,xj _⟩ ?_ ?_
 ·rintro i σ H3 N B1 R hN hR hi ⟨o4,o5,o6,o7,o8,ps,rfl,hp,gg,e_d,cok,pl⟩;refine⟨_,rfl,_,rfl,_,_,rfl,rfl,a,S,ns,_,rfl,hp,by omega,by omega,fun t1 H4 x0 x1 hp gz=>?_⟩;have gg:=gg.trans gz;have e_d:=gz _ _ e_d;refine⟨_,rfl,a,S,ns,2,rfl,hp,Xb rfl,ltI rfl,fun t2 H5 y0 y1 hp gz=>⟨rfl,.inr ⟨_,rfl,_,_,rfl,rfl,Or.inl ⟨by omega,by omega⟩,?_⟩⟩⟩;have gg:=gg.trans gz;have e_d:=gz _ _ e_d;obtain⟨h,hh,h0,h1⟩:∃h:Int,t1*(if decide (V.int t2=V.int 0)=true then 1 else 0)=h∧0≤h∧h≤or:=by
   refine⟨_,rfl,?_⟩
   split
   ·omega
   ·omega
  have hv:((fun i j=>V.int (i*j)) t1 (if decide (V.int t2=V.int 0)=true then 1 else 0))=V.int h:=zG V.int hh;rw[hv];have tw:=Wn (m:=or-h) (by omega);refine⟨_,rfl,_,rfl,_,rfl,_,_,rfl,rfl,_,_,rfl,rfl,⟨by omega,by omega,by decide⟩,a,S,ns,_,rfl,hp,by rw[zC];omega,by rw[zC];omega,fun t3 H6 z0 z1 hp gz=>?_⟩;have gg:=gg.trans gz;have e_d:=gz _ _ e_d;rw[zC]at z1;dsimp only;refine Vj (fun σ' H'=>∃(o4 o7 o8:Option V)(h i:Int),σ'=[some (.ref a),some (.int or),some (.int most),some (.ref d),o4,some (.int h),some (.int i),o7,o8]∧Pn K S ns H' a∧Grw a H H'∧ag a H' d=some (.dT (aj ps))∧0≤h∧h≤or∧0≤i∧i<2^(or-h).toNat) ?_ ?_
  ·intro nx hnx;have skip:∀{H':Hp}{o7 o8:Option V},Pn K S ns H' a→Grw a H H'→ag a H' d=some (.dT (aj ps))→nx [some (.ref a),some (.int or),some (.int most),some (.ref d),some (.int (0+(i:Int))),some (.int h),some (.int t3),o7,o8] H':=fun hp gg e_d=>hnx _ _ ⟨_,_,_,h,t3,rfl,hp,gg,e_d,h0,h1,z0,z1⟩;refine⟨_,rfl,fun e n_e=>?_⟩;have ea:=hp.ne n_e;have gz:=hp.grw (Z9 n_e (.dT []));have e_e:(upd H6 e (.dT [])) e=some (.dT []):=Z7;have gg:=gg.trans gz;have e_d:=gz _ _ e_d;have hp:=hp.laid (o:=.dT []) n_e;generalize upd H6 e (.dT [])=H7 at gg e_d hp e_e⊢;refine⟨d,e,_,rfl,rfl,(Z3 e_d).2,e_e,_,rfl,X2 (fun c0=>?_) (fun c0=>?_)⟩
   ·refine⟨_,rfl,a,S,ns,3,rfl,hp,Xb rfl,ltI rfl,fun t4 H8 _ _ hp gz=>⟨rfl,_,rfl,X2 (fun c1=>?_) (fun c1=>?_)⟩⟩
    ·have gg:=gg.trans gz;have e_d:=gz _ _ e_d;refine⟨_,rfl,d,ps,rfl,(Z3 e_d).2,by omega,fun bs ka l n_l=>?_⟩;have la:=hp.ne n_l;have sl:=Z9 n_l (.lst (bs.map V.ref));have gz:=hp.grw sl;have AC:ag a (upd H8 l (.lst (bs.map V.ref))) l=some (.lst (bs.map V.ref)):=by rw[Zf la];exact Z7
     have gg:=gg.trans gz;have e_d:=gz _ _ e_d;have ka:=ka.mono fun b xs e=>sl b _ e;have hp:=hp.laid (o:=.lst (bs.map V.ref)) n_l;generalize upd H8 l (.lst (bs.map V.ref))=H9 at gg e_d hp AC ka⊢;have bl:=xG ka;rw[(Wq _).length_eq,xh]at bl;have pp:0<ps.length:=by
      rw[Yp]at c0
      rcases Nat.eq_zero_or_pos ps.length with z | z
      ·rw[z]at c0;exact absurd c0 (by decide)
      ·exact z
     have hp9:=hp;refine⟨_,rfl,_,rfl,_,rfl,l,_,rfl,.inl (Xj AC),a,S,ns,_,rfl,hp,by rw[xh];omega,by rw[xh];omega,fun t5 H10 u0 u1 hp gz=>?_⟩;have gg:=gg.trans gz;have e_d:=gz _ _ e_d;have AC:=gz _ _ AC;obtain⟨v,hv,mv⟩:=Tf (d:=t5) (Z3 AC).2 u0 u1;obtain⟨jx,hj⟩:=yI mv;obtain⟨b,k,rfl,hk,Ay⟩:=Q4 ka hj;have km:k∈ps.map (·.1):=(Wq _).mem_iff.mp (xL hk);obtain⟨k0,k1,k2,k3⟩:=cok.kok.st k km;have nba:b≠a:=fun z=>by
      obtain⟨i,r,ea⟩:=hp9.at_;rw[z]at Ay;unfold KAt at Ay;rw[ea]at Ay;cases Ay
     have Ay:ag a H10 b=some (.tup [.int k.1,.int k.2]):=gz _ _ (by rw[Zf nba];exact Ay);refine⟨l,_,_,_,rfl,rfl,Xj AC,hv,?_⟩;refine⟨_,rfl,_,rfl,b,_,0,_,rfl,rfl,Vu Ay,rfl,_,_,rfl,?_⟩;obtain⟨h2,e2,q0,q1,q2⟩:∃h2:Int,(if k.1<h then k.1 else h)=h2∧0≤h2∧h2≤k.1∧h2≤or:=by
      refine⟨_,rfl,?_⟩
      split <;> omega
     rw[e2];have tw2:=Wn (m:=k.1-h2) (by omega);have tw3:=Wn (m:=or-k.1) (by omega);refine⟨_,rfl,b,_,1,_,rfl,rfl,Vu Ay,rfl,_,rfl,b,_,0,_,rfl,rfl,Vu Ay,rfl,_,rfl,_,_,rfl,rfl,_,_,rfl,rfl,⟨by omega,by omega,by omega⟩,?_⟩;refine⟨_,rfl,_,rfl,b,_,0,_,rfl,rfl,Vu Ay,rfl,_,rfl,_,_,rfl,rfl,_,_,rfl,rfl,⟨by omega,by omega,by decide⟩,a,S,ns,_,rfl,hp,by rw[zC];omega,by rw[zC];omega,fun t6 H11 v0 v1 hp gz=>⟨_,_,rfl,rfl,?_⟩⟩;rw[zC]at v1;have ix:=tM q0 q1 k1 k2 k3 v0 v1;exact hnx _ _ ⟨_,_,_,h2,_,rfl,hp,gg.trans gz,gz _ _ e_d,q0,q2,ix.1,ix.2⟩
    ·have gg:=gg.trans gz;exact skip hp gg (gz _ _ e_d)
   ·exact skip hp gg e_d
  rintro σ' H7 ⟨o4,o7,o8,h,i2,rfl,hp,gg,e_d,h0,h1,i0,i1⟩;refine⟨_,rfl,a,S,ns,rfl,hp,fun n H8 n1 hp gz=>?_⟩;have gg:=gg.trans gz;have e_d:=gz _ _ e_d;refine⟨_,rfl,_,rfl,_,rfl,leN rfl,fun q n_q=>?_⟩;have qa:=hp.ne n_q;have sq:=Z9 n_q (.tup [.int h,.int i2]);have gz:=hp.grw sq;have gg:=gg.trans gz;have e_d:=gz _ _ e_d;have AF:KAt (upd H8 q (.tup [.int h,.int i2])) q (h,i2):=Z7;have hp:=hp.laid (o:=.tup [.int h,.int i2]) n_q;generalize upd H8 q (.tup [.int h,.int i2])=H9 at gg e_d hp AF⊢;have da:=(Z3 e_d).1;refine⟨d,_,rfl,DPut.t (k:=kk (h,i2)) (Z3 e_d).2 AF (Zx (by rw[Yp];omega)),hN _ _ ⟨_,_,_,_,_,aO ps (h,i2) n,rfl,sx hp (Z3 e_d).2,jj gg nHd,?_,oJ cok ⟨h0,h1,i0,i1⟩ n1,?_⟩⟩
  ·rw[Zf da,←Ob];exact Z7
  ·have:=Oc ps (h,i2) n;omega
 ·rintro σ H3 ⟨o4,o5,o6,o7,o8,ps,rfl,hp,gg,e_d,cok,pl⟩;exact⟨_,(Z8 (Zh (pv 3))),_,rfl,hq d _ ps n_d e_d cok (by omega) hp gg⟩
theorem ui(aC:mg "sorted"=none)(ao:mg "tuple"=none)(aQ:mg "sum"=none)(aG:mg "list"=none)(F:Fun K "_law_ladder" "_law_ladder" b_ f fd):FnOk P w K mg base CX0 1 f fd ["_law_now","_law_room","_law_deep"] rY:=by
 refine F.ok Nh (fun vs H Q E h=>?_) (fun cdv A outer s H vs Q E hr h=>?_)
 ·obtain⟨d,Au,or,ps,rfl,_⟩:=h;rfl
 obtain⟨d,Au,or,ps,rfl,e_d,pl,hq⟩:=h;refine⟨_,(Z8 (Zh (Zp (Z0 (pv 1) (Z0 (pv 2) (Z0 (Ym Qr rfl ao yr (Z0 (Zd (dZ rfl hr.units) rfl aC zW (Z0 (hZ zE PySem.F.slot_dict_items PySem.F.type_dict_items kz (pv 0)) Z1)) Z1)) (Z0 (Zd (V1 rfl) rfl aQ ze (Z0 (Ym (Sl rfl) rfl aG zJ (Z0 (hZ zE PySem.F.slot_dict_values PySem.F.type_dict_values Rs (pv 0)) Z1)) Z1)) Z1))))))),?_⟩;have gg:Same H H:=Same.refl _;refine⟨_,rfl,_,rfl,_,rfl,Py e_d,d,_,rfl,rfl,e_d,?_⟩;intro v n_v;generalize hz:upd _ v _=H1;revert H1;refine blk ?_;intro H1 hz;have gz:=Zr hz n_v;have e_v:=Y0 hz;clear hz;have gg:=gg.trans gz;have e_d:=gz _ _ e_d;refine⟨v,d,ps,rfl,e_v,e_d,pl,fun H2 bs g2 pr l nl _=>?_⟩;have gg:=gg.trans g2;have e_d:=g2 _ _ e_d;have gz:=Z9 nl (.lst (bs.map V.ref));have AC:(upd H2 l (.lst (bs.map V.ref))) l=some (.lst (bs.map V.ref)):=Z7;have gg:=gg.trans gz;have e_d:=gz _ _ e_d;have pr:Paired (FT (upd H2 l (.lst (bs.map V.ref)))) bs (aL ps):=Paired.mapP pr fun _ _ f=>Yb gz f;generalize upd H2 l (.lst (bs.map V.ref))=H3 at gg e_d pr AC⊢;refine⟨l,_,rfl,.inl ⟨SqL.of AC,?_⟩⟩;intro c n_c;generalize hz:upd _ c _=H4;revert H4;refine blk ?_;intro H4 hz;have gz:=Zr hz n_c;have AB:=Y0 hz;clear hz;have gg:=gg.trans gz;have e_d:=gz _ _ e_d;have pr:=Paired.mapP pr fun _ _ f=>Yb gz f;refine⟨_,rfl,Py e_d,d,_,rfl,rfl,e_d,?_⟩;intro v2 n_v2;generalize hz:upd _ v2 _=H5;revert H5;refine blk ?_;intro H5 hz;have gz:=Zr hz n_v2;have cQ:=Y0 hz;clear hz;have gg:=gg.trans gz;have e_d:=gz _ _ e_d;have AB:=gz _ _ AB;have pr:=Paired.mapP pr fun _ _ f=>Yb gz f;refine⟨v2,d,_,rfl,cQ,e_d,?_⟩;rw[i6];intro l2 on;generalize hz:upd _ l2 _=H6;revert H6;refine blk ?_;intro H6 hz;have gz:=Zr hz on;have cm:=Y0 hz;clear hz;have gg:=gg.trans gz;have AB:=gz _ _ AB;have pr:=Paired.mapP pr fun _ _ f=>Yb gz f;refine⟨l2,_,rfl,SqL.of cm,leN rfl,?_⟩;intro r n_r;generalize hz:upd _ r _=H7;revert H7;refine blk ?_;intro H7 hz;have gz:=Zr hz n_r;have e_r:=Y0 hz;clear hz;have gg:=gg.trans gz;have AB:=gz _ _ AB;have pr:=Paired.mapP pr fun _ _ f=>Yb gz f;exact hq r _ gg ⟨c,bs,e_r,AB,pr⟩
theorem oY(ah:Has P w K mg base "_law_take" 1 ["_law_pen_here","_law_most"] (bh K))(F:Fun K "_law_many" "_law_many" cW f fd):FnOk P w K mg base CX0 2 f fd ["_law_pen_here"] (fT K):=by
 refine F.ok P5 (fun vs H Q E h=>?_) (fun cdv A outer s H vs Q E hr h=>?_)
 ·obtain⟨a,S,ns,rfl,_⟩:=h;rfl
 obtain⟨a,S,ns,rfl,hp,hq⟩:=h;refine⟨_,(Z4 (Zz 1 P5.nd rfl (Or.inl rfl) (Z6 ah hr (Z0 (pv 0) (Z0 Z2 Z1))))
 (Z4 (Y4 (Zo Ul (pv 1) Z2 (Zl _)) (Z8 (Zh (Zc Zs (Zc Zs Z2 (Zc Xc (Z6 ah hr (Z0 (pv 0) (Z0 (Zc Vs Z2 Z2) Z1))) (Yd Y9 (Zv (Z0 (Zc Vs Z2 Z2) (Z0 (Zc Vs Z2 Z2) Z1))) (Z6 ah hr (Z0 (pv 0) (Z0 Z2 Z1)))))) (Z6 ah hr (Z0 (pv 0) (Z0 (Zc Vs Z2 Z2) Z1)))))) Zn)
 (Z8 (Zh (Zc Zs Z2 (Z6 ah hr (Z0 (pv 0) (Z0 (Yd Y9 (Zv (Z0 Z2 (Z0 Z2 (Z0 Z2 (Z0 Z2 Z1))))) (Zc Xn (pv 1) Z2)) Z1)))))))),?_⟩
 refine⟨_,rfl,a,S,ns,8,rfl,hp,Xb rfl,ltI rfl,fun way H1 w0 w1 hp1 g1=>?_⟩;refine⟨_,rfl,rfl,_,rfl,X2 (fun c=>?_) (fun c=>?_)⟩
 ·refine⟨_,rfl,_,_,rfl,rfl,Np rfl rfl rfl,a,S,ns,_,rfl,hp1,Xb rfl,ltI rfl,fun d1 H2 x0 x1 hp2 g2=>⟨_,_,rfl,rfl,Np rfl rfl rfl,_,_,rfl,rfl,Np rfl rfl rfl,leN rfl,fun p np=>?_⟩⟩;have x1:d1<1000000:=x1;have pa:=hp2.ne np;have gp:=hp2.grw (Z9 np (.lst [.int 1000000,.int 10000000000000000000000]));have hp3:=hp2.laid (o:=.lst [.int 1000000,.int 10000000000000000000000]) np;have Az:ag a (upd H2 p (.lst [.int 1000000,.int 10000000000000000000000])) p=some (.lst [.int 1000000,.int 10000000000000000000000]):=by rw[Zf pa];exact Z7
  refine⟨_,rfl,a,S,ns,2,rfl,hp3,Xb rfl,ltI rfl,fun d2 H3 y0 y1 hp4 g3=>?_⟩;have Az:=g3 _ _ Az;obtain⟨v,hv,mv⟩:=Tf (d:=d2) (Z3 Az).2 y0 y1;obtain⟨z,rfl,z0,z9⟩:∃z:Int,v=.int z∧0<z∧z≤10000000000000000000000:=by
   simp only[List.mem_cons,List.not_mem_nil,or_false]at mv
   rcases mv with rfl | rfl <;> exact⟨_,rfl,by decide,by decide⟩
  have m0:0≤d1*z:=Int.mul_nonneg x0 (Int.le_of_lt z0);have m9:d1*z≤1000000*10000000000000000000000:=Int.le_trans (Int.mul_le_mul_of_nonneg_left z9 x0) (Int.mul_le_mul_of_nonneg_right (by omega) (by decide));refine⟨p,_,_,_,rfl,rfl,Xj Az,hv,_,_,rfl,rfl,Or.inl ⟨by omega,by omega⟩,_,_,rfl,rfl,_,rfl,_,_,rfl,rfl,Np rfl rfl rfl,a,S,ns,_,rfl,hp4,Xb rfl,ltI rfl,fun d3 H4 w0 w1 hp5 g4=>⟨_,_,rfl,rfl,hq _ _ ⟨by omega,by have w1:d3<1000000:=w1;omega⟩ hp5 (g1.trans (g2.trans (gp.trans (g3.trans g4))))⟩⟩
 ·refine⟨_,rfl,leN rfl,fun p np=>⟨_,rfl,_,_,rfl,rfl,Xb rfl,?_⟩⟩;have Az:(upd H1 p (.lst [.int 1,.int 3,.int 3,.int 9])) p=some (.lst [.int 1,.int 3,.int 3,.int 9]):=Z7;have m0:=zF way (show(4:Int)≠0 by decide);have m1:=yS way (show(0:Int)<4 by decide);obtain⟨v,hv,mv⟩:=Tf (d:=way % 4) Az m0 m1;obtain⟨z,rfl,z0,z1⟩:∃z:Int,v=.int z∧0<z∧z<10:=by
   simp only[List.mem_cons,List.not_mem_nil,or_false]at mv
   rcases mv with rfl | rfl | rfl | rfl <;> exact⟨_,rfl,by decide,by decide⟩
  refine⟨p,_,_,_,rfl,rfl,SqL.of Az,hv,a,S,ns,z,rfl,hp1.laid np,z0,by omega,fun d H3 y0 y1 hp3 g3=>⟨_,_,rfl,rfl,hq _ _ ⟨by omega,by omega⟩ hp3 (g1.trans ((hp1.grw (Z9 np _)).trans g3))⟩⟩
def fst1(k:Int×Int):Int:=k.2*2^k.1.toNat
def uJ(k:Int×Int):Int:=(k.2+1)*2^k.1.toNat-1
def jp:Sp:=fun vs H Q _=>∃(p:Addr)(k:Int×Int),vs=[.ref p]∧KAt H p k∧0≤k.1∧k.1≤20∧0≤k.2∧k.2≤1000001∧Q (.int (fst1 k)) H
def mw:Sp:=fun vs H Q _=>∃(p:Addr)(k:Int×Int),vs=[.ref p]∧KAt H p k∧0≤k.1∧k.1≤20∧0≤k.2∧k.2≤1000000∧∀H',Same H H'→Q (.int (uJ k)) H'
theorem lj(F:Fun K "first_of" "first_of" bZ f fd):FnOk P w K mg base CX0 1 f fd ["stretch"] jp:=by
 refine F.ok Vl (fun vs H Q E h=>?_) (fun cdv A outer s H vs Q E hr h=>?_)
 ·obtain⟨p,k,rfl,_⟩:=h;rfl
 obtain⟨p,k,rfl,e,h0,h1,i0,i1,hq⟩:=h;refine⟨_,(Z4 (Yu (pv 0) (Yv rfl (Zb (Za (i:=1) Vl.nd rfl (Or.inl rfl)) (Zb (Za (i:=2) Vl.nd rfl (Or.inl rfl)) Zu))))
 (Z8 (Zh (Zc S0 (pv 2) (pv 1))))),?_⟩
 exact⟨_,rfl,p,_,rfl,SqT.of e,rfl,_,_,rfl,_,_,rfl,rfl,_,rfl,_,rfl,_,_,rfl,rfl,⟨by omega,by omega,by omega⟩,hq⟩
theorem pC(gR:Has P w K mg base "first_of" 1 ["stretch"] jp)(F:Fun K "last_of" "last_of" cB f fd):FnOk P w K mg base CX0 2 f fd ["stretch"] mw:=by
 refine F.ok Uu (fun vs H Q E h=>?_) (fun cdv A outer s H vs Q E hr h=>?_)
 ·obtain⟨p,k,rfl,_⟩:=h;rfl
 obtain⟨p,k,rfl,e,h0,h1,i0,i1,hq⟩:=h;refine⟨_,(Z4 (Yu (pv 0) (Yv rfl (Zb (Za (i:=1) Uu.nd rfl (Or.inl rfl)) (Zb (Za (i:=2) Uu.nd rfl (Or.inl rfl)) Zu))))
 (Z8 (Zh (Zc Xm (Z6 gR hr (Z0 (Zp (Z0 (pv 1) (Z0 (Zc Zs (pv 2) Z2) Z1))) Z1)) Z2)))),?_⟩
 exact⟨_,rfl,p,_,rfl,SqT.of e,rfl,_,_,rfl,_,_,rfl,rfl,_,rfl,_,rfl,_,_,rfl,rfl,leN rfl,fun q nq=>⟨q,(k.1,k.2+1),rfl,Z7,h0,h1,by show 0≤k.2+1;omega,by show k.2+1≤_;omega,_,_,rfl,rfl,hq _ (Z9 nq _)⟩⟩
def ThK(or:Int)(t:Th):Prop:=ThL or t∧PyData.strOk t.word=true∧t.many≤100000000000000000000000000000
theorem oP{or:Int}{t:Th}(h:ThK or t):t.D.canLay0=true∧t.D.depth≤1:=by
 refine⟨?_,?_⟩
 ·simp[Th.D,PyData.canLay0,PyData.canLayAll0,h.2.1]
 ·simp[Th.D,PyData.depth,PyData.depthAll]
theorem lE{or:Int}{ts:List Th}(h:∀t∈ts,ThK or t):(rh ts).canLay0=true∧(rh ts).depth≤2:=eJ ts fun t ht=>oP (h t ht)
theorem pD{K:W.Frag}{S:Addr}{ns:List Int}{H0 H:Hp}{a L:Addr}{o:HO}(h0:Pn K S ns H0 a)(n:H0 L=none)(h:Pn K S ns H a)(la:L≠a):Pn K S ns (upd H L o) a:=by
 obtain⟨⟨i,r,ea⟩,s,f⟩:=h;refine⟨⟨i,r,by rw[Ze (Ne.symm la)];exact ea⟩,?_,f⟩;obtain⟨_,s0,_⟩:=h0
 rcases s0 with s0 | s0
 ·have ne:S≠L:=by
   rcases s0 with s0 | ⟨u,s0⟩
   ·exact Zk s0 n
   ·exact Zk s0 n
  rcases s with(s | ⟨u,s⟩) | s
  ·exact .inl (.inl (by rw[Ze ne];exact s))
  ·exact .inl (.inr ⟨u,by rw[Ze ne];exact s⟩)
  ·exact .inr s
 ·exact .inr s0
def TsAt(H:Hp):List V→List Th→Prop:=Paired fun x t=>∃c:Addr,x=.ref c∧H c=some (.tup t.vs)
theorem TsAt.get{H:Hp}:∀{xs:List V}{ts:List Th}{j:Nat}{x:V},TsAt H xs ts→xs[j]?=some x→∃c t,x=.ref c∧ts[j]?=some t∧H c=some (.tup t.vs)
 |_,_,_,_,.nil,e=>by simp at e
 |_,_,0,_,.cons h _,e=>by
  rw[yH]at e;cases e;obtain⟨c,e,q⟩:=h;exact⟨c,_,e,rfl,q⟩
 |_,_,j+1,_,.cons _ r,e=>TsAt.get (j:=j) r (by simpa using e)
theorem TsAt.dvs{H:Hp}:∀{xs:List V}{ts:List Th},TsAt H xs ts→DVs H xs (ts.map Th.D)
 |_,_,.nil=>.nil
 |_,_,.cons ⟨c,e,h⟩ r=>by
  rw[e];exact .cons (Th.dv h) (TsAt.dvs r)
theorem TsAt.tup{H H':Hp}(g:∀c xs,H c=some (.tup xs)→H' c=some (.tup xs)){xs:List V}{ts:List Th}(h:TsAt H xs ts):TsAt H' xs ts:=Paired.mapP h fun _ _ ⟨c,e,q⟩=>⟨c,e,g _ _ q⟩
structure StrS(K:W.Frag)(S:Addr)(ns:List Int)(H0:Hp)(a L:Addr)(or:Int)(H:Hp)(xs:List V)(ts:List Th):Prop where
 pn:Pn K S ns H a
 g:Grw a H0 H
 eL:H L=some (.lst xs)
 ta:TsAt H xs ts
 ok:∀t∈ts,ThK or t
section
variable{K:W.Frag}{S a L:Addr}{ns:List Int}{H0 H H':Hp}{or:Int}{xs:List V}{ts:List Th}
theorem ut{c:Addr}{ys:List V}(hp:Pn K S ns H a)(g:Grw a H H')(e:H c=some (.tup ys)):H' c=some (.tup ys):=(Z3 (g _ _ (hp.tup e))).2
theorem StrS.grw(s:StrS K S ns H0 a L or H xs ts)(La:L≠a)(hp:Pn K S ns H' a)(g:Grw a H H'):StrS K S ns H0 a L or H' xs ts:=⟨hp,s.g.trans g,(Z3 (g L _ (by rw[Zf La];exact s.eL))).2,s.ta.tup fun c ys e=>ut s.pn g e,s.ok⟩
theorem StrS.laid{p:Addr}{o:HO}(s:StrS K S ns H0 a L or H xs ts)(La:L≠a)(n:H p=none):StrS K S ns H0 a L or (upd H p o) xs ts:=s.grw La (s.pn.laid n) (s.pn.grw (Z9 n o))
theorem StrS.put(s:StrS K S ns H0 a L or H xs ts)(La:L≠a){H1:Hp}(hp1:Pn K S ns H1 a)(n1:H1 L=none)(n0:ag a H0 L=none){c:Addr}{t:Th}(ec:H c=some (.tup t.vs))(ht:ThK or t):StrS K S ns H0 a L or (upd H L (.lst (xs++[.ref c]))) (xs++[.ref c]) (ts++[t]):=by
 have tp:∀(b:Addr)(ys:List V),H b=some (.tup ys)→upd H L (.lst (xs++[.ref c])) b=some (.tup ys):=fun b ys e=>by rw[Ze (Vd e s.eL (by intro z;cases z))];exact e
 refine⟨pD hp1 n1 s.pn La,jj s.g n0,Z7,Paired.snoc (s.ta.tup tp) ⟨c,rfl,tp _ _ ec⟩,fun x hx=>?_⟩
 rcases xM.mp hx with hx | hx
 ·exact s.ok x hx
 ·rw[xq.mp hx];exact ht
end
def rR(K:W.Frag):Sp:=fun vs H Q _=>∃(a S:Addr)(ns:List Int)(or most:Int),vs=[.ref a,.int or,.int most]∧Pn K S ns H a∧1≤or∧or≤10∧0≤most∧most≤60∧∀(L:Addr)(ts:List Th)(H':Hp),H L=none→(∀t∈ts,ThK or t)→(ts.length:Int)≤most→DV (ag a H') (.ref L) (rh ts)→Pn K S ns H' a→Grw a H H'→Q (.ref L) H'
theorem fZ:PyData.strOk "a"=true∧PyData.strOk "b"=true∧PyData.strOk "cd"=true:=by decide +kernel
theorem uP(av:mg "range"=none)(am:mg "len"=none)(ah:Has P w K mg base "_law_take" 1 ["_law_pen_here","_law_most"] (bh K))(di:Has P w K mg base "_law_many" 2 ["_law_pen_here"] (fT K))(F:Fun K "_law_stream" "_law_stream" ce f fd):FnOk P w K mg base CX0 3 f fd ["_law_pen_here","_law_deep","_law_most"] (rR K):=by
 refine F.ok Yh (fun vs H Q E h=>?_) (fun cdv A outer s H vs Q E hr h=>?_)
 ·obtain⟨a,S,ns,or,most,rfl,_⟩:=h;rfl
 obtain⟨a,S,ns,or,most,rfl,hp,d0,d1,m0,m1,hq⟩:=h;have tw:=Wn (m:=or) d1;have hpH:=hp;refine⟨_,(Z4 (Zz 3 Yh.nd rfl (Or.inl rfl) (Zv Z1)) Zi),leN rfl,fun L n_L=>?_⟩;have La:=hp.ne n_L;have nHL:ag a H L=none:=by rw[Zf La];exact n_L
 have ss:StrS K S ns H a L or (upd H L (.lst [])) [] []:=⟨hp.laid n_L,hp.grw (Z9 n_L _),Z7,.nil,fun _ h=>absurd h yw⟩;generalize upd H L (.lst [])=H1 at ss⊢;clear hp;refine⟨_,(Z4 (Zz 4 Yh.nd rfl (Or.inl rfl) (Zc S0 Z2 (pv 1))) Zi),_,rfl,_,_,rfl,rfl,⟨by omega,by omega,by decide⟩,?_⟩;show sO _ _ _ [_,_,_,_,some (V.int (1*2^or.toNat)),_,_,_,_] _;rw[zC];obtain⟨top,htop⟩:∃top:Int,(2:Int)^or.toNat=top:=⟨_,rfl⟩;rw[htop]at tw⊢;refine⟨_,(Z4 (Zz 5 Yh.nd rfl (Or.inl rfl) (Z6 ah hr (Z0 (pv 0) (Z0 (pv 4) Z1)))) Zi),_,rfl,_,rfl,a,S,ns,top,rfl,ss.pn,by omega,by omega,fun mid H2 x0 x1 hp g2=>?_⟩;have ss:=ss.grw La hp g2;refine⟨_,(Z4 (Xl yx rfl (Xu rfl av (Z0 (Z6 ah hr (Z0 (pv 0) (Z0 (Zc Zs (pv 2) Z2) Z1))) Z1)) (Za (i:=6) Yh.nd rfl (Or.inl rfl))
 (Z4 (Zz 7 Yh.nd rfl (Or.inl rfl) (Z6 ah hr (Z0 (pv 0) (Z0 Z2 Z1))))
 (Z4 (Zz 8 Yh.nd rfl (Or.inl rfl) (Z6 ah hr (Z0 (pv 0) (Z0 (pv 4) Z1))))
 (Z4 (Y4 (PW.pt (Rj (Zo Ul (pv 7) Z2 (Zl _)) (Td (Zo (oC hr.units) (pv 3) (Zv Z1) (Zl _))))) (Z8 (Zz 8 Yh.nd rfl (Or.inl rfl) (Yd Y8 (Yd Y9 (pv 3) (Z6 ah hr (Z0 (pv 0) (Z0 (Zd Zj rfl am x9 (Z0 (pv 3) Z1)) Z1)))) Z2))) Zn)
 (Z4 (Y4 (Zo Ul (pv 7) Z2 (Zl _)) (Z8 (Zz 8 Yh.nd rfl (Or.inl rfl) (Zc Xn (Zc Zs (pv 5) (Z6 ah hr (Z0 (pv 0) (Z0 Z2 Z1)))) (pv 4)))) Zn)
 (Z8 (Te (rT PySem.F.plainAttrs_list PySem.F.slot_list_append PySem.F.type_list_append kA (pv 3) (Z0 (Zp (Z0 (Z6 ah hr (Z0 (pv 0) (Z0 Z2 Z1))) (Z0 (Yd Y9 (Zv (Z0 Ty (Z0 Ty (Z0 Ty Z1)))) (Z6 ah hr (Z0 (pv 0) (Z0 Z2 Z1)))) (Z0 (pv 8) (Z0 (Z6 di hr (Z0 (pv 0) Z1)) Z1))))) Z1))))))))) Zi),?_⟩
 refine⟨_,rfl,_,rfl,_,_,rfl,rfl,a,S,ns,_,rfl,ss.pn,by omega,by omega,fun t H3 t0 t1 hp g3=>⟨t,rfl,by omega,by omega,?_⟩⟩;have ss:=ss.grw La hp g3;clear hp g3 g2;refine Xe (lo:=0) (n:=t.toNat) (fun i σ H'=>∃(o6 o7 o8:Option V)(xs:List V)(ts:List Th),σ=[some (.ref a),some (.int or),some (.int most),some (.ref L),some (.int top),some (.int mid),o6,o7,o8]∧StrS K S ns H a L or H' xs ts∧ts.length=i) ⟨_,_,_,_,_,rfl,ss,rfl⟩ ?_ ?_
 ·clear ss;rintro i σ H4 N B1 R hN hR hi ⟨o6,o7,o8,xs,ts,rfl,ss,tl⟩;have xl:=xG ss.ta;refine⟨_,rfl,a,S,ns,4,rfl,ss.pn,Xb rfl,ltI rfl,fun way H5 _ _ hp g=>?_⟩;have ss:=ss.grw La hp g;refine⟨_,rfl,_,rfl,a,S,ns,top,rfl,ss.pn,by omega,by omega,fun num H6 n0 n1 hp g=>?_⟩;have ss:=ss.grw La hp g;clear hp g;dsimp only;refine Vj (fun σ' H'=>∃(num:Int),σ'=[some (.ref a),some (.int or),some (.int most),some (.ref L),some (.int top),some (.int mid),some (.int (0+(i:Int))),some (.int way),some (.int num)]∧StrS K S ns H a L or H' xs ts∧0≤num∧num<top) ?_ ?_
  ·intro nx hnx;refine⟨_,rfl,rfl,_,rfl,X2 (fun c=>?_) (fun c=>?_)⟩
   ·refine⟨_,rfl,leN rfl,fun p np=>?_⟩;have s7:=ss.laid (o:=.lst []) La np;have Az:(upd H6 p (.lst [])) p=some (.lst []):=Z7;generalize upd H6 p (.lst [])=H7 at s7 Az⊢;refine⟨_,_,.lst s7.eL s7.ta.dvs,.lst Az .nil,X8 (lE s7.ok) (by decide),X8 Oh (by decide),_,rfl,?_⟩;rw[Ou];by_cases hts:ts=[]
    ·have em:(ts.map Th.D).isEmpty=true:=by rw[hts];rfl
     rw[em];exact Yo (hnx _ _ ⟨num,rfl,s7,n0,n1⟩)
    ·have em:(ts.map Th.D).isEmpty=false:=by
      cases ts with
      |nil=>exact absurd rfl hts
      |cons _ _=>rfl
     rw[em];have tp:0<ts.length:=List.length_pos_iff.mpr hts;refine Yt ?_;refine⟨_,rfl,_,rfl,_,rfl,L,_,rfl,.inl (SqL.of s7.eL),a,S,ns,_,rfl,s7.pn,by omega,by omega,fun d H8 y0 y1 hp g=>?_⟩;have s8:=s7.grw La hp g;obtain⟨v,hv,mv⟩:=Tf (d:=d) s8.eL y0 y1;obtain⟨jx,hj⟩:=yI mv;obtain⟨c,t,rfl,ht,AB⟩:=s8.ta.get hj;have ok:=s8.ok t (xL ht);refine⟨L,_,_,_,rfl,rfl,SqL.of s8.eL,hv,c,_,2,_,rfl,rfl,SqT.of AB,rfl,?_⟩;exact hnx _ _ ⟨t.num,rfl,s8,ok.1.1,by rw[←htop];exact ok.1.2.1⟩
   ·exact hnx _ _ ⟨num,rfl,ss,n0,n1⟩
  clear ss n0 n1;rintro σ' H7 ⟨num,rfl,ss,n0,n1⟩;refine Vj (fun σ' H'=>∃(num:Int),σ'=[some (.ref a),some (.int or),some (.int most),some (.ref L),some (.int top),some (.int mid),some (.int (0+(i:Int))),some (.int way),some (.int num)]∧StrS K S ns H a L or H' xs ts∧0≤num∧num<top) ?_ ?_
  ·intro nx hnx;refine⟨_,rfl,rfl,_,rfl,X2 (fun c=>?_) (fun c=>?_)⟩
   ·refine⟨_,rfl,_,rfl,a,S,ns,4,rfl,ss.pn,Xb rfl,ltI rfl,fun d H8 _ _ hp g=>?_⟩;have s8:=ss.grw La hp g;refine⟨_,_,rfl,rfl,_,rfl,_,_,rfl,rfl,by omega,?_⟩;exact hnx _ _ ⟨(mid+d) % top,rfl,s8,zF _ (by omega),yS _ (by omega)⟩
   ·exact hnx _ _ ⟨num,rfl,ss,n0,n1⟩
  clear ss n0 n1;rintro σ' H8 ⟨num,rfl,ss,n0,n1⟩;refine⟨_,rfl,.inl ⟨rfl,_,SqL.of ss.eL⟩,_,rfl,a,S,ns,9,rfl,ss.pn,Xb rfl,ltI rfl,fun day H9 _ _ hp g=>?_⟩;have ss:=ss.grw La hp g;refine⟨leN rfl,fun p np=>?_⟩;have pa:=ss.pn.ne np;have gp:=ss.pn.grw (Z9 np (.lst [.str "a",.str "b",.str "cd"]));have ss:=ss.laid (o:=.lst [.str "a",.str "b",.str "cd"]) La np;have Az:ag a (upd H9 p (.lst [.str "a",.str "b",.str "cd"])) p=some (.lst [.str "a",.str "b",.str "cd"]):=by rw[Zf pa];exact Z7
  generalize upd H9 p (.lst [.str "a",.str "b",.str "cd"])=H10 at ss Az⊢;refine⟨_,rfl,a,S,ns,3,rfl,ss.pn,Xb rfl,ltI rfl,fun d H11 y0 y1 hp g=>?_⟩;have Az:=g _ _ Az;have ss:=ss.grw La hp g;obtain⟨v,hv,mv⟩:=Tf (d:=d) (Z3 Az).2 y0 y1;obtain⟨wd,rfl,wok⟩:∃z:Str,v=.str z∧PyData.strOk z=true:=by
   simp only[List.mem_cons,List.not_mem_nil,or_false]at mv
   rcases mv with rfl | rfl | rfl
   ·exact⟨_,rfl,fZ.1⟩
   ·exact⟨_,rfl,fZ.2.1⟩
   ·exact⟨_,rfl,fZ.2.2⟩
  refine⟨p,_,_,_,rfl,rfl,Xj Az,hv,_,rfl,_,rfl,a,S,ns,rfl,ss.pn,fun many H12 mn hp g=>⟨leN rfl,fun c nc=>?_⟩⟩;have ss:=ss.grw La hp g;have ss:=ss.laid (o:=.tup [.int day,.str wd,.int num,.int many]) La nc;have AB:(upd H12 c (.tup [.int day,.str wd,.int num,.int many])) c=some (.tup (Th.mk day wd num many).vs):=Z7;generalize upd H12 c (.tup [.int day,.str wd,.int num,.int many])=H13 at ss AB⊢;have tk:ThK or ⟨day,wd,num,many⟩:=⟨⟨n0,by rw[htop];exact n1,mn.1⟩,wok,mn.2⟩;refine⟨L,xs,_,rfl,rfl,ss.eL,Zx (by omega),?_⟩;exact hN _ _ ⟨_,_,_,_,_,rfl,ss.put La hpH n_L nHL AB tk,by rw[xn,tl];rfl⟩
 ·rintro σ H4 ⟨o6,o7,o8,xs,ts,rfl,ss,tl⟩;refine⟨_,(Z8 (Zh (pv 3))),_,rfl,hq L ts _ n_L ss.ok (by omega) (.lst (by rw[Zf La];exact ss.eL) (ss.ta.tup fun c ys e=>ss.pn.tup e).dvs) ss.pn ss.g⟩
section
variable{α:Type}
def evT(fs:List Th→α)(fm:α→α→α):Tr→α
 |.leaf ts=>fs ts
 |.node l r=>fm (evT fs fm l) (evT fs fm r)
end
theorem Sx{α β:Type}{R:α→β→Prop}:∀{xs us:List α}{ys ws:List β},Paired R xs ys→Paired R us ws→Paired R (xs++us) (ys++ws)
 |_,_,_,_,.nil,h=>h
 |_,_,_,_,.cons a r,h=>.cons a (Sx r h)
theorem T4{p:Addr}{H0 H1 H2:Hp}(n:H0 p=none)(s:Same H0 H1)(g:Grw p H1 H2):Same H0 H2:=fun b u e=>(Z3 (g b u (by rw[Zf (Zk e n)];exact s b u e))).2
def glT(Au or:Int)(t:Tr):Sps:=evT (cZ Au or) (bK Au or) t
theorem P3{α β:Type}{R:α→β→Prop}:∀{xs:List α}{ys:List β}(k:Nat),Paired R xs ys→k+1<xs.length→∃(xa:List α)(x1 x2:α)(xb:List α)(ya:List β)(y1 y2:β)(yb:List β),xs=xa++x1::x2::xb∧ys=ya++y1::y2::yb∧xa.length=k∧Paired R xa ya∧R x1 y1∧R x2 y2∧Paired R xb yb
 |_,_,k,.nil,h=>by simp at h
 |_,_,0,.cons h1 .nil,h=>by simp at h
 |_,_,0,.cons h1 (.cons h2 r),_=>⟨[],_,_,_,[],_,_,_,rfl,rfl,rfl,.nil,h1,h2,r⟩
 |_,_,k+1,.cons h1 r,h=>by
  obtain⟨xa,x1,x2,xb,ya,y1,y2,yb,e1,e2,e3,p1,r1,r2,p2⟩:=P3 k r (by simpa using h);exact⟨_::xa,x1,x2,xb,_::ya,y1,y2,yb,by rw[e1];rfl,by rw[e2];rfl,by rw[xD,e3],.cons h1 p1,r1,r2,p2⟩
theorem oG{xa xb:List V}{d:Int}(h:(xa.length:Int)=d):aV (xa++xb) none (some d)=xa:=by
 unfold aV;rw[←h,HT.sIx_none,HT.sIx_nat,List.drop_zero,Nat.sub_zero,xn,zO (zk _ _),List.take_left]
theorem gY{xa xb:List V}{x1 x2:V}{d:Int}(h:(xa.length:Int)=d):aV (xa++x1::x2::xb) (some (d+2)) none=xb:=by
 have e:d+2=((xa.length+2:Nat):Int):=by omega
 have e2:xa++x1::x2::xb=(xa++[x1,x2])++xb:=by simp
 have e3:(xa++[x1,x2]).length=xa.length+2:=by simp
 unfold aV;rw[e,HT.sIx_none,HT.sIx_nat,e2,zO (by rw[xn,e3];omega),←e3,List.drop_left,xn,Nat.add_sub_cancel_left,yc]
theorem qA{xa xb:List V}{x1:V}{d:Int}(h:(xa.length:Int)=d):atI (xa++x1::xb) d=some x1:=by
 rw[←h];exact Ug (by simp)
theorem pG{xa xb:List V}{x1 x2:V}{d:Int}(h:(xa.length:Int)=d):atI (xa++x1::x2::xb) (d+1)=some x2:=by
 rw[←h];exact Ug (j:=xa.length+1) (by simp)
def szs(ts:List Tr):Nat:=(ts.map fun t=>t.size+1).sum
def als(ts:List Tr):Nat:=(ts.map fun t=>t.all.length).sum
theorem Ss(xs ys:List Tr):szs (xs++ys)=szs xs+szs ys:=by unfold szs;rw[xN,List.sum_append]
theorem R9(xs ys:List Tr):als (xs++ys)=als xs+als ys:=by unfold als;rw[xN,List.sum_append]
theorem Vi(t:Tr)(ts:List Tr):szs (t::ts)=t.size+1+szs ts:=by unfold szs;rw[xu,xY]
theorem Vz(t:Tr)(ts:List Tr):als (t::ts)=t.all.length+als ts:=by unfold als;rw[xu,xY]
def Trk(or:Int)(t:Tr):Prop:=∀s∈t.streams,∀x∈s,ThK or x
theorem nI:∀t:Tr,t.ht<t.size
 |.leaf _=>Nat.zero_lt_one
 |.node l r=>by
  have a:=nI l;have b:=nI r;show max l.ht r.ht+1<l.size+r.size+1;omega
def muT(σ:St)(H:Hp):Nat:=match List.getD σ 3 none with
 |some (V.ref l)=>(match H l with
  |some (HO.lst xs)=>xs.length
  |_=>0)
 |_=>0
def wP(K:W.Frag):Sp:=fun vs H Q _=>∃(a S:Addr)(ns:List Int)(or most:Int),vs=[.ref a,.int or,.int most]∧Pn K S ns H a∧1≤or∧or≤10∧1≤most∧most≤20∧∀(v:V)(t:Tr)(H':Hp),Trk or t→(t.size:Int)+1≤2*most→(t.all.length:Int)≤6*most→DV (ag a H') v t.D→Pn K S ns H' a→Grw a H H'→Q v H'
theorem vC(av:mg "range"=none)(am:mg "len"=none)(ah:Has P w K mg base "_law_take" 1 ["_law_pen_here","_law_most"] (bh K))(f9:Has P w K mg base "_law_stream" 3 ["_law_pen_here","_law_deep","_law_most"] (rR K))(F:Fun K "_law_tree" "_law_tree" c9 f fd):FnOk P w K mg base CX0 4 f fd ["_law_pen_here","_law_deep","_law_most"] (wP K):=by
 refine F.ok U3 (fun vs H Q E h=>?_) (fun cdv A outer s H vs Q E hr h=>?_)
 ·obtain⟨a,S,ns,or,most,rfl,_⟩:=h;rfl
 obtain⟨a,S,ns,or,most,rfl,hp,d0,d1,m0,m1,hq⟩:=h;refine⟨_,(Z4 (i9 (i:=3) U3.nd rfl rfl (own:=["_law_k"]) (Sq rfl rfl) (Xu rfl av (Z0 (Zc Zs Z2 (Z6 ah hr (Z0 (pv 0) (Z0 (pv 2) Z1)))) Z1))
  (fun _ _ _ _ _=>(Za (i:=0) S2 rfl (Or.inl rfl) (Or.inr rfl))) (fun _ _ _ _ _=>W9)
  (fun _ _ _ _ _=>(Z6 f9 hr (Z0 (pv 1) (Z0 (pv 2) (Z0 Z2 Z1)))))) Zi),?_⟩
 refine⟨_,rfl,_,rfl,a,S,ns,most,rfl,hp,by omega,by omega,fun d H1 x0 x1 hp1 g1=>⟨_,_,rfl,rfl,1+d,rfl,by omega,by omega,?_⟩⟩;refine hW (fun i ys H'=>Pn K S ns H' a∧Grw a H H'∧∃trs:List Tr,trs.length=i∧(∀t∈trs,Trk or t)∧szs trs=2*i∧als trs≤6*i∧Paired (fun v t=>DV (ag a H') v t.D) ys trs) ⟨hp1,g1,[],rfl,fun _ h=>absurd h yw,rfl,xj _,.nil⟩ ?_ ?_
 ·rintro i ys H2 C hi ⟨hp2,g2,trs,tl,ok,sz,al,pr⟩ hC;have yl:=xG pr;refine⟨Zx (by omega),Wk.refl _,_,rfl,_,rfl,a,S,ns,or,6,rfl,hp2,d0,d1,by decide,by decide,fun L ts H3 nL tk tsl dv hp3 g3=>hC _ _ ⟨hp3,g2.trans g3,trs++[.leaf ts],by rw[xn,tl];rfl,fun t ht=>?_,?_,?_,?_⟩⟩
  ·rcases xM.mp ht with h | h
   ·exact ok t h
   ·rw[xq.mp h];intro s hs;rw[xq.mp hs];exact tk
  ·rw[Ss,sz,Vi];show 2*i+(1+1+0)=2*(i+1);omega
  ·rw[R9,Vz];show als trs+(ts.length+0)≤6*(i+1);omega
  ·exact Sx (Paired.mapP pr fun _ _ h=>h.mono g3) (.cons dv .nil)
 rintro ys H2 ⟨hp,gg,trs,tl,ok,sz,al,pr⟩;have yl:=xG pr;refine⟨Zq (by omega),fun l nl=>?_⟩;have la:=hp.ne nl;have gl:=hp.grw (Z9 nl (.lst ys));have AC:ag a (upd H2 l (.lst ys)) l=some (.lst ys):=by rw[Zf la];exact Z7
 have hp:=hp.laid (o:=.lst ys) nl;have gg:=gg.trans gl;have pr:=Paired.mapP pr fun _ _ h=>h.mono gl;generalize upd H2 l (.lst ys)=H3 at AC hp gg pr⊢;have tpos:1≤trs.length:=by omega
 have sz:(szs trs:Int)≤2*most:=by omega
 have al:(als trs:Int)≤6*most:=by omega
 have tsm:trs.length≤20:=by omega
 clear yl tl gl;refine⟨_,(Z4 (No yx (Zo Rp (Zd Zj rfl am x9 (Z0 (pv 3) Z1)) Z2 (Zl _)) (Z4 (Zz 4 U3.nd rfl (Or.inl rfl) (Z6 ah hr (Z0 (pv 0) (Z0 (Zc Xm (Zd Zj rfl am x9 (Z0 (pv 3) Z1)) Z2) Z1))))
 (Z8 (Zz 3 U3.nd rfl (Or.inl rfl) (Zc S1 (Zc S1 (Y5 O5 (pv 3) Yn (Yj (pv 4))) (Zv (Z0 (Zp (Z0 Ty (Z0 (Yd Y9 (pv 3) (pv 4)) (Z0 (Yd Y9 (pv 3) (Zc Zs (pv 4) Z2)) Z1)))) Z1))) (Y5 O5 (pv 3) (Yj (Zc Zs (pv 4) Z2)) Yn)))))) Zi),?_⟩
 refine N7 (fun σ H'=>∃(l:Addr)(o4:Option V)(ys:List V)(trs:List Tr),σ=[some (.ref a),some (.int or),some (.int most),some (.ref l),o4]∧Pn K S ns H' a∧Grw a H H'∧ag a H' l=some (.lst ys)∧Paired (fun v t=>DV (ag a H') v t.D) ys trs∧(∀t∈trs,Trk or t)∧1≤trs.length∧trs.length≤20∧(szs trs:Int)≤2*most∧(als trs:Int)≤6*most) muT ⟨l,none,ys,trs,rfl,hp,gg,AC,pr,ok,tpos,tsm,sz,al⟩ ?_ ?_
 ·clear hp gg AC pr ok tpos tsm sz al;rintro σ H4 ⟨l,o4,ys,trs,rfl,hp,gg,AC,pr,ok,tpos,tsm,sz,al⟩;have yl:=xG pr;refine⟨_,rfl,l,_,rfl,.inl (Xj AC),_,_,rfl,rfl,_,rfl,X2 (fun c=>?_) (fun c=>?_)⟩
  ·have c:(1:Int)<(ys.length:Int):=xy c;have mu4:muT [some (.ref a),some (.int or),some (.int most),some (.ref l),o4] H4=ys.length:=by
    unfold muT;show(match H4 l with
     |some (HO.lst xs)=>xs.length
     |_=>0)=_
    rw[(Z3 AC).2]
   rw[mu4];refine⟨_,rfl,_,rfl,l,_,rfl,.inl (Xj AC),_,_,rfl,rfl,a,S,ns,_,rfl,hp,by omega,by omega,fun d H5 y0 y1 hp g5=>?_⟩;have gg:=gg.trans g5;have AC:=g5 _ _ AC;have pr:=Paired.mapP pr fun _ _ h=>h.mono g5;obtain⟨xa,x1,x2,xb,ta,t1,t2,tb,rfl,rfl,xal,pa,r1,r2,pb⟩:=P3 d.toNat pr (by omega);have xd:(xa.length:Int)=d:=by omega
   have ca:=oG (xb:=x1::x2::xb) xd;have cb:=gY (xb:=xb) (x1:=x1) (x2:=x2) xd;have a1:=qA (x1:=x1) (xb:=x2::xb) xd;have a2:=pG (x1:=x1) (x2:=x2) (xb:=xb) xd;have pal:=xG pa;have pbl:=xG pb;rw[xn,xD,xD]at tsm;have gk:Grw a H5 H5:=fun _ _ e=>e;refine⟨_,rfl,_,rfl,_,rfl,l,_,rfl,Xj AC,?_⟩;rw[ca];intro p1 n_p1;generalize hz:upd _ p1 _=G1;revert G1;refine blk ?_;intro G1 hz;have hw:=Zg hz n_p1 hp;have hp:=hw.1;have gz:=hw.2.1;have ne_p1:=hw.2.2.1;have l8:=hw.2.2.2;clear hw hz;have gg:=gg.trans gz;have AC:=gz _ _ AC;have gk:=gk.trans gz;refine⟨_,rfl,_,rfl,l,_,d,x1,rfl,rfl,Xj AC,a1,?_⟩;refine⟨_,rfl,_,rfl,_,_,rfl,rfl,l,_,d+1,x2,rfl,rfl,Xj AC,a2,leN rfl,?_⟩;intro c n_c;generalize hz:upd _ c _=G2;revert G2;refine blk ?_;intro G2 hz;have hw:=Zg hz n_c hp;have hp:=hw.1;have gz:=hw.2.1;have ne_c:=hw.2.2.1;have AB:=hw.2.2.2;clear hw hz;have gg:=gg.trans gz;have AC:=gz _ _ AC;have l8:=gz _ _ l8;have gk:=gk.trans gz;refine⟨leN rfl,?_⟩;intro p2 n_p2;generalize hz:upd _ p2 _=G3;revert G3;refine blk ?_;intro G3 hz;have hw:=Zg hz n_p2 hp;have hp:=hw.1;have gz:=hw.2.1;have ne_p2:=hw.2.2.1;have e_p2:=hw.2.2.2;clear hw hz;have gg:=gg.trans gz;have AC:=gz _ _ AC;have l8:=gz _ _ l8;have AB:=gz _ _ AB;have gk:=gk.trans gz;refine⟨p1,p2,_,_,rfl,rfl,(Z3 l8).2,(Z3 e_p2).2,Zq (by rw[yG];omega),?_⟩;intro p3 n_p3;generalize hz:upd _ p3 _=G4;revert G4;refine blk ?_;intro G4 hz;have hw:=Zg hz n_p3 hp;have hp:=hw.1;have gz:=hw.2.1;have ne_p3:=hw.2.2.1;have tW:=hw.2.2.2;clear hw hz;have gg:=gg.trans gz;have AC:=gz _ _ AC;have AB:=gz _ _ AB;have gk:=gk.trans gz;refine⟨_,rfl,_,rfl,_,_,rfl,rfl,_,rfl,l,_,rfl,Xj AC,?_⟩;rw[cb];intro p4 n_p4;generalize hz:upd _ p4 _=G5;revert G5;refine blk ?_;intro G5 hz;have hw:=Zg hz n_p4 hp;have hp:=hw.1;have gz:=hw.2.1;have ne_p4:=hw.2.2.1;have e_p4:=hw.2.2.2;clear hw hz;have gg:=gg.trans gz;have AB:=gz _ _ AB;have tW:=gz _ _ tW;have gk:=gk.trans gz;refine⟨p3,p4,_,_,rfl,rfl,(Z3 tW).2,(Z3 e_p4).2,Zq (by rw[xn,yG];omega),?_⟩;intro p5 n_p5;generalize hz:upd _ p5 _=G6;revert G6;refine blk ?_;intro G6 hz;have hw:=Zg hz n_p5 hp;have hp:=hw.1;have gz:=hw.2.1;have ne_p5:=hw.2.2.1;have wH:=hw.2.2.2;clear hw hz;have gg:=gg.trans gz;have AB:=gz _ _ AB;have gk:=gk.trans gz;refine⟨⟨p5,_,_,ta++[.node t1 t2]++tb,rfl,hp,gg,wH,?_,?_,?_,?_,?_,?_⟩,?_⟩
   ·exact Sx (Sx (Paired.mapP pa fun _ _ h=>h.mono gk) (.cons (.tup AB (.cons (.str _) (.cons (r1.mono gk) (.cons (r2.mono gk) .nil)))) .nil)) (Paired.mapP pb fun _ _ h=>h.mono gk)
   ·intro t ht
    rcases xM.mp ht with ht | ht
    ·rcases xM.mp ht with ht | ht
     ·exact ok t (yy _ ht)
     ·rw[xq.mp ht];intro s hs
      rcases xM.mp hs with hs | hs
      ·exact ok t1 (xA _ (.head _)) s hs
      ·exact ok t2 (xA _ (.tail _ (.head _))) s hs
    ·exact ok t (xA _ (.tail _ (.tail _ ht)))
   ·rw[xn,xn,yG];omega
   ·rw[xn,xn,yG];omega
   ·rw[Ss,Vi,Vi]at sz;rw[Ss,Ss,Vi];have:szs ([]:List Tr)=0:=rfl;show((szs ta+(t1.size+t2.size+1+1+szs [])+szs tb:Nat):Int)≤_;omega
   ·rw[R9,Vz,Vz]at al;rw[R9,R9,Vz];have:als ([]:List Tr)=0:=rfl;show((als ta+((t1.all++t2.all).length+als [])+als tb:Nat):Int)≤_;rw[xn];omega
   ·unfold muT;show(match G6 p5 with
     |some (HO.lst xs)=>xs.length
     |_=>0)<_
    rw[(Z3 wH).2];show(xa++[V.ref c]++xb).length<_;rw[xn,xn,yG,xn,xD,xD];omega
  ·have c:¬((1:Int)<(ys.length:Int)):=Ae (yj.mpr c);obtain⟨t,rfl⟩:∃t,trs=[t]:=List.length_eq_one_iff.mp (by omega);cases pr with
   |cons r1 r=>
   cases r;refine⟨_,(Z8 (Zh (Yd Y9 (pv 3) Z2))),_,rfl,l,_,0,_,rfl,rfl,Xj AC,rfl,?_⟩;rw[Vi]at sz;rw[Vz]at al;have s0:szs ([]:List Tr)=0:=rfl;have l0:als ([]:List Tr)=0:=rfl;exact hq _ t _ (ok t (.head _)) (by omega) (by omega) r1 hp gg
 ·rintro σ H' Q1 Q2 m ⟨v,e,p,ys,e1,e2,i,j,e3,e4,k,e5,r⟩;exact⟨v,e,p,ys,e1,e2,i,j,e3,e4,k,e5,m _ _ r⟩
end K24
namespace L2
open PySem PySem.Spec PyProof.Rows
variable{prog:Program}{w:World}{A:Around}{E:Value→Shared→Prop}{s:Shared}
section
variable{X:Cx}
end
section
variable{X:Cx}{x c n:Str}{p pos cpos epos np ap hpos:Pos}{e:Expr}{es:List Expr}{ta:TA}{tb:TS}{b₀:Stmt}{suite:List Stmt}{j k i:Nat}{ps:List Str}{sp:Sp}{S:Addr}
end
section
variable{P:Program}{w:World}{A:Around}{E:Value→Shared→Prop}{s:Shared}{a b:Addr}{va vb:List (Key×Value)}
end
theorem Px{M:Model}{α:Type}{f:α→PUnit→Sem (ForInStep PUnit)}:∀(xs:List α),(∀x∈xs,∀Q:ForInStep PUnit→Shared→Prop,Q (.yield ⟨⟩) s→wpAny M A (f x ⟨⟩) Q E s)→∀{Q:PUnit→Shared→Prop},Q ⟨⟩ s→wpAny M A (forIn xs PUnit.unit f) Q E s
 | [],_,_,h=>by
  rw[List.forIn_nil];exact pi h
 |x::xs,hf,_,h=>by
  rw[Ao];exact io (hf x (.head _) _ (Px xs (fun y hy=>hf y (.tail _ hy)) h))
theorem kM{f:Nat→PUnit→Sem (ForInStep PUnit)}:(forIn [:(#[]:Array DictEntry).size] PUnit.unit f:Sem PUnit)=forIn ([]:List Nat) PUnit.unit f:=by
 rw[Std.Legacy.Range.forIn_eq_forIn_range'];rfl
theorem tO:(some (Value.builtin "tuple.__eq__")==some (Value.builtin "object.__eq__"))=false:=by decide
theorem sB{es:List DictEntry}{e:DictEntry}(nd:(es.map (·.hash)).Nodup)(he:e∈es):¬(es.filter fun x=>x.hash==e.hash).length > 1:=by
 induction es with
 |nil=>cases he
 |cons x es ih=>
  rw[xu,xW]at nd
  rcases xv.mp he with h | h
  ·have z:es.filter (fun y=>y.hash==e.hash)=[]:=List.filter_eq_nil_iff.mpr fun y hy c=>nd.1 (xI.mpr ⟨y,hy,by rw[←h];exact eq_of_beq c⟩);rw[zn,z]
   split <;> simp
  ·have ne:(x.hash==e.hash)=false:=yM.mpr fun c=>nd.1 (xI.mpr ⟨e,h,c.symm⟩);rw[zn,xm (by rw[ne];exact xw)];exact ih nd.2 h
theorem mz{l:Addr}{xs:List TKv}{Q:Value→Shared→Prop}(lo:(l==sysModules)=false)(hd:s.heap.DictOfH (tupleKind (af prog w)) l xs)(hz:xs.length≤sizeLine)(hs:(xs.map fun x=>(tupleKind (af prog w)).hash x.1).Nodup)(h:∀g,(∀b o,s.heap.get? b=some o→g.get? b=some o)→gM prog w g s.heap.objs.size xs→Q (.ref s.heap.objs.size) {s with heap:=g}):wpAny (model prog w) A (call (.type "dict") [.ref l]) Q E s:=by
 obtain⟨o,es,ep,ho,ex,od,el,ek,nd⟩:=hd;refine callType_codes (Q₁:=fun obj s₁=>obj=.ref s.heap.objs.size∧s₁={s with heap:=s.heap.push {cls:=.type "dict",data:=.dict #[]}}) F.kt_called_dict (F.kt_typeCall_dict_1 _) F.entry_dict_init (kt_code_dict_new _ ⟨rfl,rfl⟩) ?_;rintro obj s₁ ⟨rfl,rfl⟩;have gD:(s.heap.push {cls:=.type "dict",data:=.dict #[]}).get? s.heap.objs.size=some {cls:=.type "dict",data:=.dict #[]}:=xt _ rfl;have hl1:(s.heap.push {cls:=.type "dict",data:=.dict #[]}).get? l=some o:=xi _ ho;have ltl:l<s.heap.objs.size:=xk ho;refine⟨⟨_,gD,rfl⟩,F.args_dict_init_2 _ _,?_⟩;unfold Builtin.«dict.__init__»;refine io ?_;unfold Builtin.Dict.selfAndRest;refine io (yO ⟨_,gD,rfl⟩ (pi (a:=(s.heap.objs.size,[Value.ref l])) ?_));show wpAny (model prog w) _ (Builtin.Dict.updateFrom "dict.__init__" s.heap.objs.size (.ref l) [] .none) _ _ _;unfold Builtin.Dict.updateFrom;refine io (yW (T:="dict") ⟨_,hl1,ex.1⟩ ?_);rw[xm (by decide)];refine io ?_;unfold Builtin.Dict.merge;refine io ?_;unfold Builtin.Dict.readDirectly;refine io (An (T:="dict") ⟨_,hl1,ex.1⟩ isSubtype_dict_dict ?_);rw[xm (by decide)];refine io (Ap (T:="dict") ⟨_,hl1,ex.1⟩ PySem.F.slot_dict_iter.lookup (pi ?_));rw[xp (by decide)];refine io (pi ?_);unfold Builtin.Dict.mergeDict;rw[xm (by rw[yM.mpr (ym ltl)];exact xw)];refine io ?_;unfold Builtin.Dict.showsAll;rw[lo,xm xw];refine pi (io (xU hl1 od ?_));have fin:∀g,(∀b o,s.heap.get? b=some o→g.get? b=some o)→gM prog w g s.heap.objs.size xs→wpAny (model prog w) A.in1.in1 (do
   Builtin.Dict.addKeywords s.heap.objs.size []
   ret Value.none) (fun fin s'=>
    match fin with
    |Fin.done f=>wants (fun r s₂=>r=Value.none∧Q (Value.ref s.heap.objs.size) s₂) E (Except.ok f) s'
    |Fin.again c'=>c'.quiet=true∧codeAny (model prog w) A.in1 c' (wants (fun r s₂=>r=Value.none∧Q (Value.ref s.heap.objs.size) s₂) E) s')
   (fun e s'=>wants (fun r s₂=>r=Value.none∧Q (Value.ref s.heap.objs.size) s₂) E (Except.error e) s') {s with heap:=g}:=fun g kp rw=>
  io (m:=Builtin.Dict.addKeywords s.heap.objs.size []) (pi (pi ⟨rfl,h g kp rw⟩))
 have kp0:∀b o,s.heap.get? b=some o→(s.heap.push {cls:=.type "dict",data:=.dict #[]}).get? b=some o:=fun b o e=>xi _ e;have sz:es.size=xs.length:=by rw[←xF,el,xh]
 have hn:(es.toList.map (·.hash)).Nodup:=by
  rw[el,yg];exact hs
 dsimp only;cases hx:xs with
 |nil=>
  have e0:es=#[]:=Array.eq_empty_of_size_eq_zero (by rw[sz,hx];rfl);rw[if_neg (by rw[e0];simp)];refine io (Ar hl1 od (io (xU hl1 od ?_)));rw[e0];refine io ?_;rw[kM];refine Px [] (fun _ h=>absurd h yw) (pi ?_);exact fin _ kp0 ⟨_,#[],0,gD,⟨rfl,rfl,rfl⟩,rfl,by rw[hx];rfl,nd⟩
 |cons x0 xr=>
  have few:(decide (es.size≤8) && es.all fun e=>(keyPart e.key).isSome)=false:=by
   rw[Bool.and_eq_false_iff];refine .inr ?_;rw[←Array.all_toList,el,hx];rfl
  rw[xp (by rw[few];rfl)];refine io (xU gD rfl ?_);rw[xp (by decide)];refine io ?_;unfold Builtin.Dict.entriesForEmpty;refine io (xU hl1 od (io ?_));rw[←Array.forIn_toList];refine Px _ (fun e he Q' hq'=>?_) (pi ?_)
  ·rw[el]at he;obtain⟨x,hxm,rfl⟩:=xI.mp he;obtain⟨ot,its,n,t1,t2,_⟩:=(show IsTupleKey (af prog w) s.heap x.1 x.2.1 from ek x hxm);refine io ?_;show wpAny (model prog w) _ (do
    let __do_lift ←specialOf (.ref x.2.1) (Str.ofString "__eq__")
    pure (__do_lift==some (Value.builtin "object.__eq__"))) _ _ _
   refine io (Ap (T:="tuple") ⟨_,kp0 _ _ t1,t2⟩ PySem.F.slot_tuple_eq.lookup (pi ?_));rw[tO,xp (show(!false)=true from rfl)];have no:¬(es.filter fun y=>y.hash==(entryOfKey (tupleKind (af prog w)) x).hash).size > 1:=by
    rw[←xF,Array.toList_filter];exact sB hn (by rw[el];exact he)
   rw[xm no];exact pi hq'
  ·have ne:es.isEmpty=false:=by
    rw[Array.isEmpty_eq_false_iff];intro z;rw[z,hx]at sz;cases sz
   rw[xp (by rw[ne];rfl)];refine io (wpAny_updateDictKeysTo gD rfl (pi ?_) (by rw[sz];omega));refine fin _ (fun b o e=>?_) ⟨_,es,1,Ah _ gD rfl,⟨rfl,rfl,rfl⟩,rfl,el,nd⟩;exact(yC _ _ (Ne.symm (xx (xk e)))).trans (kp0 b o e)
section
variable{X:Cx}
def oO(P:Program)(w:World):List V→Hp→VK→Prop:=fun xs H Q=>∃(l:Addr)(kvs:List (List Key×V)),xs=[.ref l]∧H l=some (.dT kvs)∧(kvs.map fun kv=>(tupleKind (af P w)).hash kv.1).Nodup∧∀p,H p=none→Q (.ref p) (upd H p (.dT kvs))
theorem qF{H:Hp}{kvs:List (List Key×V)}{xs:List TKv}(h:KT H kvs xs):xs.map (·.1)=kvs.map (·.1):=by
 induction h with
 |nil=>rfl
 |cons h r ih=>rw[xu,xu,ih,h.1]
theorem eV:aH X (.type "dict") (oO X.prog X.w):=by
 intro Av s σ H xs us Q I rx h;obtain⟨l,kvs,rfl,hd,hn,q⟩:=h;obtain⟨u,rfl,ru⟩:=X6 rx;cases ru;obtain⟨z,lo,xs,kt,dd⟩:=iN I.hok hd;have kl:=xG kt;have hn2:(xs.map fun x=>(tupleKind (af X.prog X.w)).hash x.1).Nodup:=by
  have e:(xs.map fun x=>(tupleKind (af X.prog X.w)).hash x.1)=(xs.map (·.1)).map (tupleKind (af X.prog X.w)).hash:=by rw[yg];rfl
  rw[e,qF kt,yg];exact hn
 refine mz lo dd (by rw[←kl];exact z) hn2 fun g kp hD=>?_;refine⟨.ref s.heap.objs.size,_,I.laid (t':=s.toks) (o:=.dT kvs) kp (xj _) ⟨z,yM.mpr (ym I.big),xs,?_,hD⟩,rfl,q _ (I.hok.fresh (xj _))⟩;exact KT.keeps kt fun b ys e=>by rw[Ze (Zk e (I.hok.fresh (xj _)))];exact e
def uF(tk tv:TE):TE:=fun σ H Q=>∀p,H p=none→tk σ (upd H p (.dT [])) fun x H1=>tv σ H1 fun v H2=>∃(b:Addr)(k:List Key),x=.ref b∧H2 p=some (.dT [])∧H2 b=some (.tup (k.map kV))∧Q (.ref p) (upd H2 p (.dT [(k,v)]))
theorem mQ{pos:Pos}{k v:Expr}{tk tv:TE}(hu:X.A.units+64<cLine)(hk:PE X k tk)(hv:PE X v tv):PE X (.Dict [some k] [v] pos) (uF tk tv):=by
 intro Av s σ H Q I q;have hn:=I.hok.fresh (xj s.heap.objs.size);have I1:=I.laid (a:=s.heap.objs.size) (o:=.dT []) (h':=s.heap.push {cls:=.type "dict",data:=.dict #[]}) (t':=s.toks) (fun _ _ q=>xi _ q) (xj _) (eA s.heap I.big);refine wpAny_Dict_any rfl rfl (fun z=>nomatch z) (Nat.le_of_ble_eq_true rfl) (thn (mP hk hv qE Av _ σ _ (fun ps H2=>match ps with
  | [(x,v)]=>∃(b:Addr)(k:List Key),x=.ref b∧H2 s.heap.objs.size=some (.dT [])∧H2 b=some (.tup (k.map kV))∧Q (.ref s.heap.objs.size) (upd H2 s.heap.objs.size (.dT [(k,v)]))
  |_=>False) I1 (q _ hn)) fun ws s2 ⟨ps,H2,I2,rel,q1⟩=>?_)
 obtain⟨x,v,rfl,b,k,ex,e,eb,q2⟩:∃(x v:V),ps=[(x,v)]∧∃(b:Addr)(k:List Key),x=.ref b∧H2 s.heap.objs.size=some (.dT [])∧H2 b=some (.tup (k.map kV))∧Q (.ref s.heap.objs.size) (upd H2 s.heap.objs.size (.dT [(k,v)])):=by
  cases ps with
  |nil=>exact q1.elim
  |cons p ps=>
   obtain⟨x,v⟩:=p;cases ps with
   |nil=>exact⟨x,v,rfl,q1⟩
   |cons _ _=>exact q1.elim
 subst ex;cases rel with
 | @cons a c as bs h1 r=>
 cases r;obtain⟨u,r⟩:=c;cases (show u=Value.ref b from h1.1);obtain⟨z,hd,xs,rel,dd⟩:=iN I2.hok e;cases rel;unfold storeAll;rw[Ao];refine io (io (wpAny_dictSet_heap (show X.A.units<cLine by omega) (Vt I2.hok eb) dd (fun h' dd' hs=>pi ?_) (yh _)));show wpAny _ _ (forIn [] PUnit.unit _) _ _ _;rw[List.forIn_nil];refine pi ?_;obtain⟨q,es,ep,hq,h2,h3,h4,_,h5⟩:=dd';refine⟨.ref s.heap.objs.size,_,Oy (ob:=.dT [(k,v)]) I2 (by rw[e];exact True.intro) hs ⟨q,hq⟩ ⟨Zq (by show 1≤_;omega),hd,_,(KT.put (kvs:=[]) (xs:=[]) .nil k eb h1.2).keeps fun c ys ec=>?_,q,es,ep,hq,h2,h3,h4,h5⟩,rfl,q2⟩;rw[Ze (Vd ec e (fun z=>nomatch z))];exact ec
def wl(D:Ends)(d:Addr)(kvs:List (List Key×V))(o:Obj):Ends where
 nx:=fun σ2 H2=>H2 d=some (.frz o (.dT kvs))∧D.nx σ2 (upd H2 d (.dT kvs))
 rt:=fun v H2=>H2 d=some (.frz o (.dT kvs))∧D.rt v (upd H2 d (.dT kvs))
 bk:=fun σ2 H2=>H2 d=some (.frz o (.dT kvs))∧D.bk σ2 (upd H2 d (.dT kvs))
 ct:=fun σ2 H2=>H2 d=some (.frz o (.dT kvs))∧D.ct σ2 (upd H2 d (.dT kvs))
def vt(t:TS):TS:=fun D σ H=>∃(d:Addr)(kvs:List (List Key×V)),H d=some (.dT kvs)∧∀o,t (wl D d kvs o) σ (upd H d (.frz o (.dT kvs)))
theorem qZ{st:Stmt}{t:TS}(h:PS X st t):PS X st (vt t):=by
 intro Av s σ H D I hw;obtain⟨d,kvs,hd,q⟩:=hw;obtain⟨o,I1,nf⟩:=I.freezeT hd;refine thn (h Av s σ _ _ I1 (q o)) fun f s1 hf=>?_;cases f with
 |next=>
  obtain⟨σ2,H2,I2,hd2,q2⟩:=hf;exact⟨σ2,_,I2.thawT nf hd2,q2⟩
 |brk=>
  obtain⟨σ2,H2,I2,hd2,q2⟩:=hf;exact⟨σ2,_,I2.thawT nf hd2,q2⟩
 |cont=>
  obtain⟨σ2,H2,I2,hd2,q2⟩:=hf;exact⟨σ2,_,I2.thawT nf hd2,q2⟩
 |ret u=>
  obtain⟨v,σ2,H2,I2,r,hd2,q2⟩:=hf;exact⟨v,σ2,_,I2.thawT nf hd2,r,q2⟩
end
theorem k8{d:Addr}{o:Obj}{kvs:List (List Key×V)}{g:TG}{tb:TS}{D:Ends}{σ:St}{H:Hp}(Pv:Nat→St→Hp→Prop)(h0:Pv 0 σ H)(hl:∀i σ H,Pv i σ H→H d=some (.frz o (.dT kvs)))(hs:∀i p b σ H (N B1:St→Hp→Prop) (R:VK),(∀σ' H',Pv (i+1) σ' H'→N σ' H')→(∀v H',D.rt v H'→R v H')→kvs[i]?=some p→H b=some (.tup (p.1.map kV))→Pv i σ H→g (.ref b) σ H fun σ2 H2=>tb {nx:=N,rt:=R,bk:=B1,ct:=N} σ2 H2)(hd:∀σ H,Pv kvs.length σ H→D.nx σ H):
  ∃W:Nat→Nat→St→Hp→Prop,(∃m,W 0 m σ H)∧∀i m σ H,W i m σ H→
   ((kG d kvs o).stop i H∧D.nx σ H)∨((kG d kvs o).go i H∧∃N:St→Hp→Prop,(∀σ' H',N σ' H'→∃m',m'<m∧W (i+1) m' σ' H')∧∀x H',(kG d kvs o).yld i H x H'→g x σ H' fun σ2 H2=>tb {D with nx:=N,ct:=N,bk:=D.nx} σ2 H2):=by
 refine⟨fun i m σ H=>m=kvs.length-i∧i≤kvs.length∧Pv i σ H,⟨kvs.length,by simp,Nat.zero_le _,h0⟩,?_⟩;rintro i m σ H ⟨rfl,hi,p⟩;have q:=hl i σ H p;by_cases AA:i<kvs.length
 ·refine .inr ⟨⟨AA,q⟩,Pv (i+1),fun σ' H' p'=>⟨kvs.length-(i+1),by omega,rfl,AA,p'⟩,fun x H' y=>?_⟩;obtain⟨e,p',b,hp',rfl,hb⟩:=y;subst e;exact hs i p' b σ _ (Pv (i+1)) D.nx D.rt (fun _ _ h=>h) (fun _ _ h=>h) hp' hb p
 ·have e:i=kvs.length:=by omega
  subst e;exact .inl ⟨⟨xj _,q⟩,hd σ H p⟩
end L2
namespace Ld
open PySem L2
def nod:Nat→List Nat→Bool
 | 0,xs=>decide (xs.length≤1)
 |n+1,xs=>if decide (xs.length≤1)then true else nod n ((xs.filter fun x=>x % 2==0).map (· / 2)) && nod n ((xs.filter fun x=>!(x % 2==0)).map (· / 2))
theorem Nf{α:Type}{xs:List α}(h:xs.length≤1):xs.Nodup:=by
 match xs,h with
 | [],_=>exact zy
 | [x],_=>exact xW.mpr ⟨yw,zy⟩
theorem ge:∀(n:Nat)(xs:List Nat),nod n xs=true→xs.Nodup
 | 0,xs,h=>Nf (xy h)
 |n+1,xs,h=>by
  unfold nod at h
  split at h
  ·rename_i c;exact Nf (xy c)
  ·obtain⟨h1,h2⟩:=(yu _ _).mp h;have a:=iz (ge n _ h1);have b:=iz (ge n _ h2);have p:(xs.filter (fun x=>x % 2==0)++xs.filter (fun x=>!(x % 2==0))).Perm xs:=List.filter_append_perm _ _;refine p.nodup_iff.mp (zR.mpr ⟨a,b,fun x hx y hy e=>?_⟩);have c1:=(yJ.mp hx).2;have c2:=(yJ.mp hy).2;rw[←e]at c2;simp[c1]at c2
def mx(h i:Int):Int:=reduceHash (Builtin.Tuple.tupleHashOf [hashInt h,hashInt i])
def allK:List (Nat×Nat):=(List.range 11).flatMap fun h=>(List.range (2^(10-h))).map fun i=>(h,i)
def nZ(k:Nat×Nat):Nat:=(mx k.1 k.2+18446744073709551616).toNat
theorem oQ:nod 70 (allK.map nZ)=true:=by decide +kernel
theorem sN:(allK.map nZ).Nodup:=ge 70 _ oQ
theorem qV{h i:Nat}(hh:h≤10)(hi:i<2^(10-h)):(h,i)∈allK:=List.mem_flatMap.mpr ⟨h,z7.mpr (by omega),xI.mpr ⟨i,z7.mpr hi,rfl⟩⟩
theorem Pb{α β:Type}{f:α→β}:∀{l:List α},(l.map f).Nodup→∀{a b:α},a∈l→b∈l→f a=f b→a=b
 |x::l,nd,a,b,ha,hb,e=>by
  rw[xu,xW]at nd
  rcases xv.mp ha with ha | ha
  ·rcases xv.mp hb with hb | hb
   ·rw[ha,hb]
   ·exact absurd (xI.mpr ⟨b,hb,by rw[←e,ha]⟩) nd.1
  ·rcases xv.mp hb with hb | hb
   ·exact absurd (xI.mpr ⟨a,ha,by rw[e,hb]⟩) nd.1
   ·exact Pb nd.2 ha hb e
theorem qT{or:Int}(d1:or≤10){k l:Int×Int}(hk:0≤k.1∧k.1≤or∧0≤k.2∧k.2<2^(or-k.1).toNat)(hl:0≤l.1∧l.1≤or∧0≤l.2∧l.2<2^(or-l.1).toNat)(e:mx k.1 k.2=mx l.1 l.2):k=l:=by
 have go:∀{k:Int×Int},(0≤k.1∧k.1≤or∧0≤k.2∧k.2<2^(or-k.1).toNat)→(k.1.toNat,k.2.toNat)∈allK:=fun{k} hk=>by
  refine qV (by omega) ?_;have a:(2:Nat)^(or-k.1).toNat≤2^(10-k.1.toNat):=Nat.pow_le_pow_right (by decide) (by omega);have b:((2^(or-k.1).toNat:Nat):Int)=(2:Int)^(or-k.1).toNat:=by push_cast;rfl
  have c:=hk.2.2.2;rw[←b]at c;omega
 have e2:nZ (k.1.toNat,k.2.toNat)=nZ (l.1.toNat,l.2.toNat):=by
  unfold nZ;rw[show(((k.1.toNat,k.2.toNat):Nat×Nat).1:Int)=k.1 from Int.toNat_of_nonneg hk.1,show(((k.1.toNat,k.2.toNat):Nat×Nat).2:Int)=k.2 from Int.toNat_of_nonneg hk.2.2.1,show(((l.1.toNat,l.2.toNat):Nat×Nat).1:Int)=l.1 from Int.toNat_of_nonneg hl.1,show(((l.1.toNat,l.2.toNat):Nat×Nat).2:Int)=l.2 from Int.toNat_of_nonneg hl.2.2.1,e]
 have e3:=Pb sN (go hk) (go hl) e2;injection e3 with e4 e5
 exact yT (by omega) (by omega)
theorem n_{or:Int}(d1:or≤10){ks:List (Int×Int)}(o:Kok or ks):(ks.map fun k=>mx k.1 k.2).Nodup:=
 yY.mpr (o.nd.imp_of_mem fun{a b} ha hb ne e=>ne (qT d1 (o.st a ha) (o.st b hb) e))
end Ld
namespace K24
open PySem L2 Ld
theorem pY{P:Program}{w:World}{or:Int}(d1:or≤10){ps:Sps}(o:Kok or (ps.map (·.1))):((aj ps).map fun kv=>(tupleKind (af P w)).hash kv.1).Nodup:=by
 have h:=n_ d1 o;have e:((aj ps).map fun kv=>(tupleKind (af P w)).hash kv.1)=(ps.map (·.1)).map fun k=>mx k.1 k.2:=by
  unfold aj;rw[yg,yg];rfl
 rw[e];exact h
theorem fe{Au or:Int}{qs rs as bs fs qs':Sps}(p:qs.Perm as)(q:rs.Perm bs)(nq:(qs.map (·.1)).Nodup)(nr:(rs.map (·.1)).Nodup)(s:Stl or (ai (aK qs rs) / Au) (aK qs rs) fs qs'):qs'.Perm (bK Au or as bs):=by
 have pp:=lY p q nq nr;have e:=(rf s pp (N4 nq)).1;rw[T7 pp]at e;unfold bK;rw[e];exact(Zy qs').symm
theorem S6{Au or:Int}(d0:0≤or):∀{t:Tr},(∀s∈t.streams,∀x∈s,ThL or x)→Lok Au or (glT Au or t)∧ai (glT Au or t)=bE t.all∧(glT Au or t).length≤t.all.length
 |.leaf ts,h=>i7 d0 (h ts (.head _))
 |.node l r,h=>by
  obtain⟨a1,a2,a3⟩:=S6 (Au:=Au) d0 (t:=l) fun s hs=>h s (yy _ hs);obtain⟨b1,b2,b3⟩:=S6 (Au:=Au) d0 (t:=r) fun s hs=>h s (xA _ hs);obtain⟨c1,c2,c3⟩:=Oi (Au:=Au) a1.pok b1.pok;refine⟨c1,?_,?_⟩
  ·show ai (bK Au or (glT Au or l) (glT Au or r))=bE (l.all++r.all);rw[c2,a2,b2];unfold bE;rw[xN,List.sum_append]
  ·show(bK Au or (glT Au or l) (glT Au or r)).length≤(l.all++r.all).length;rw[xn];omega
def om:Sp:=fun vs H Q _=>∃(d1 d2:Addr)(or:Int)(xs ys:Sps),vs=[.ref d1,.ref d2]∧H d1=some (.dT (aj xs))∧H d2=some (.dT (aj ys))∧or≤10∧Kok or (xs.map (·.1))∧(ys.map (·.1)).Nodup∧xs.length+ys.length≤500∧∀(d:Addr)(H':Hp),Same H H'→H d=none→H' d=some (.dT (aj (aK xs ys)))→Q (.ref d) H'
def iw(m:Nat):Sp:=fun vs H Q _=>∃(v:V)(Au or:Int)(t:Tr),vs=[.int Au,.int or,v]∧DV H v t.D∧t.ht<m∧(∀s∈t.streams,∀x∈s,ThL or x)∧t.all.length≤62∧1≤Au∧Au≤20∧0≤or∧or≤10∧∀(d:Addr)(qs:Sps)(H':Hp),Same H H'→H d=none→H' d=some (.dT (aj qs))→qs.Perm (glT Au or t)→Q (.ref d) H'
variable{P:Program}{w:World}{K:W.Frag}{mg:Str→Option Value}{base:Heap}{f:Addr}{fd:FuncData}
theorem sA(bA:mg "dict"=none)(F:Fun K "_law_added" "_law_added" cH f fd):FnOk P w K mg base CX0 1 f fd ["_law_one","_law_other"] om:=by
 refine F.ok Uv (fun vs H Q E h=>?_) (fun cdv A outer s H vs Q E hr h=>?_)
 ·obtain⟨d1,d2,or,xs,ys,rfl,_⟩:=h;rfl
 obtain⟨d1,d2,or,xs,ys,rfl,e1,e2,dp,kok,ny,len,hq⟩:=h;refine⟨_,(Z4 (Zz 2 Uv.nd rfl (Or.inl rfl) (Ym eV rfl bA PyProof.Rows.boot_dict (Z0 (pv 0) Z1))) Zi),?_⟩;refine⟨_,rfl,d1,_,rfl,e1,pY dp kok,fun d n_d=>?_⟩;have sm:=Z9 n_d (.dT (aj xs));have ed:(upd H d (.dT (aj xs))) d=some (.dT (aj xs)):=Z7;have e22:=sm _ _ e2;generalize upd H d (.dT (aj xs))=H1 at sm ed e22⊢;have dd:d≠d2:=(Zk e2 n_d).symm;refine⟨_,(Z4 (qZ (Xl yx rfl (Nq (pv 1)) (Za (i:=3) Uv.nd rfl (Or.inl rfl))
 (Z8 (Od (Vf hr) (pv 2) (pv 3) (Zc Zs (Vq (Vf hr) (pv 2) (pv 3) Z2 ⟨rfl,rfl,rfl,rfl⟩) (ie (Vf hr) (pv 1) (pv 3) (fun _ _=>rfl))) rfl)))) Zi),?_⟩
 refine⟨d2,_,e22,fun o=>⟨_,rfl,d2,o,_,rfl,Z7,?_⟩⟩;refine k8 (fun i σ H'=>∃(o3:Option V),σ=[some (.ref d1),some (.ref d2),some (.ref d),o3]∧(∀b w,b≠d2→H b=some w→H' b=some w)∧H' d2=some (.frz o (.dT (aj ys)))∧H' d=some (.dT (aj (aK xs (ys.take i))))∧(aK xs (ys.take i)).length≤xs.length+i) ⟨_,rfl,fun b w nb e=>by rw[Ze nb];exact sm _ _ e,Z7,by rw[Ze dd];exact ed,xj _⟩ ?_ ?_ ?_
 ·rintro i σ H' ⟨_,_,_,e,_⟩;exact e
 ·rintro i p0 b σ H' N B1 R hN hR hp0 Ay ⟨o3,rfl,kp,ef,ed,al⟩;obtain⟨p,hp,rfl⟩:=nR hp0;have il:i<ys.length:=(xo.mp hp).1;have Ay:KAt H' b p.1:=Ay;have st:aK xs (ys.take (i+1))=aO (aK xs (ys.take i)) p.1 (cnt (aK xs (ys.take i)) p.1+p.2):=by rw[Yl hp,ng]
  rw[st]at hN;generalize aK xs (ys.take i)=zs at ed al hN;have l1:=Oc zs p.1 (cnt zs p.1+p.2);have lk:=Wd ny (xL hp);refine⟨_,rfl,d,rfl,.inr ⟨_,.inl ed⟩,_,rfl,_,V9 ed Ay,_,rfl,_,rfl,d2,.int p.2,rfl,by rw[←lk];exact oS ef Ay,_,p.2,Vx _ _,rfl,_,rfl,_,rfl,d,_,rfl,DPut.t (k:=kk p.1) ed Ay (Zx (by rw[Yp];omega)),?_⟩;refine hN _ _ ⟨_,rfl,fun x w nx e=>?_,by rw[Ze (Ne.symm dd)];exact ef,by rw[←Ob];exact Z7,by omega⟩;rw[Ze (Zk e n_d)];exact kp x w nx e
 ·rintro σ H' ⟨o3,rfl,kp,ef,ed,_⟩;rw[Yp,yc]at ed;refine⟨ef,_,(Z8 (Zh (pv 2))),_,rfl,hq d _ (fun b w e=>?_) n_d (by rw[Ze dd];exact ed)⟩;by_cases z:b=d2
  ·rw[z]at e⊢;rw[e2]at e;rw[←e];exact Z7
  ·rw[Ze z];exact kp b w z e
theorem tj{m:Nat}(bS:Has P w K mg base "_law_grown" (2+m) ["_law_room","_law_deep","_law_tree_here"] (iw m))(bi:Has P w K mg base "_law_added" 1 ["_law_one","_law_other"] om)(aE:Has P w K mg base "_law_settle" 2 ["_law_now","_law_room","_law_deep"] dG)(aa:mg "isinstance"=none)(aG:mg "list"=none)(F:Fun K "_law_grown" "_law_grown" bQ f fd):FnOk P w K mg base CX0 (2+m+1) f fd ["_law_room","_law_deep","_law_tree_here"] (iw (m+1)):=by
 refine F.ok X9 (fun vs H Q E h=>?_) (fun cdv A outer s H vs Q E hr h=>?_)
 ·obtain⟨v,Au,or,t,rfl,_⟩:=h;rfl
 obtain⟨v,Au,or,t,rfl,dv,ht,tw,tal,r0,r1,d0,dp,hq⟩:=h;refine⟨_,(Z4 (Zz 3 X9.nd rfl (Or.inl rfl) Rm) Zi),fun p0 np0=>?_⟩;have sm:=Z9 np0 (.dT []);have ep:(upd H p0 (.dT [])) p0=some (.dT (aj [])):=Z7;generalize upd H p0 (.dT [])=H1 at sm ep⊢;refine⟨_,(Z4 (Y4 (Y6 (Zd Ys rfl aa xJ (Z0 (pv 2) (Z0 (Yr (v:=.ty "list") rfl aG zJ rfl) Z1)))) (Z4 (Xl yx rfl (U5 (pv 2)) (Za (i:=4) X9.nd rfl (Or.inl rfl))
 (Z4 (Zz 5 X9.nd rfl (Or.inl rfl) (mQ hr.units (Zp (Z0 Z2 (Z0 (Yd Y8 (pv 4) Z2) Z1))) (Yd Y8 (pv 4) Z2)))
 (Z4 (Te (Z6 aE hr (Z0 (pv 5) (Z0 (pv 0) (Z0 (pv 1) Z1)))))
 (Z4 (Zz 3 X9.nd rfl (Or.inl rfl) (Z6 bi hr (Z0 (pv 3) (Z0 (pv 5) Z1))))
 (Z8 (Te (Z6 aE hr (Z0 (pv 3) (Z0 (pv 0) (Z0 (pv 1) Z1))))))))))
 (Z8 (Zh (pv 3)))) Zn) Zi),?_⟩
 cases t with
 |leaf ts=>
  obtain⟨b,xs,rfl,eb,qb⟩:=DV.list_inv dv;have tw:∀x∈ts,ThL or x:=tw ts (.head _);have tal:ts.length≤62:=tal;have xl:=qb.length;rw[xh]at xl;refine⟨_,rfl,_,_,"list",_,rfl,TyOf.lst (sm _ _ eb),uC,_,rfl,Yt ?_⟩;refine⟨_,rfl,b,rfl,⟨_,SqL.of (sm _ _ eb)⟩,?_⟩;refine Ue (xs:=xs) (fun n σ H'=>∃(d:Addr)(o4 o5:Option V)(qs:Sps),σ=[some (.int Au),some (.int or),some (.ref b),some (.ref d),o4,o5]∧Same H H'∧H d=none∧H' d=some (.dT (aj qs))∧qs.Perm (cZ Au or (ts.take n))) ⟨p0,_,_,[],rfl,sm,np0,ep,.refl _⟩ ?_ ?_ ?_
  ·rintro n σ H' _ ⟨_,_,_,_,_,g,_⟩;exact SqL.of (g _ _ eb)
  ·rintro n x σ H2 N B1 R hN hR hx ⟨d,o4,o5,qs,rfl,g,nd,ed,pm⟩;obtain⟨t,c,hth,rfl,ec,hm⟩:=DVs.th_at qb hx;have nl:n<ts.length:=(xo.mp hth).1;obtain⟨oka,_,len⟩:=i7 (Au:=Au) d0 fun u hu=>tw u (List.mem_of_mem_take (i:=n) hu);rw[yn]at len;have e:cZ Au or (ts.take (n+1))=bK Au or (cZ Au or (ts.take n)) (thL Au or t):=by rw[Yl hth,jZ]
   rw[e]at hN;generalize cZ Au or (ts.take n)=la at pm oka len hN;have ql:=pm.length_eq;have ot:=Og d0 (tw t hm);have ec:=g _ _ ec;intro p np;have sp:=Z9 np (.dT []);have Az:(upd H2 p (.dT [])) p=some (.dT []):=Z7;have nHp:H p=none:=g.free np;have g:=g.trans sp;have ec:=sp _ _ ec;have ed:=sp _ _ ed;have pd:p≠d:=(Zk (by assumption:H2 d=some (.dT (aj qs))) np).symm;generalize upd H2 p (.dT [])=H3 at g ec ed Az⊢;refine⟨_,rfl,c,_,2,_,rfl,rfl,SqT.of ec,rfl,leN rfl,fun k nk=>?_⟩;have sk:=Z9 nk (.tup [.int 0,.int t.num]);have e_k:(upd H3 k (.tup [.int 0,.int t.num])) k=some (.tup [.int 0,.int t.num]):=Z7;have g:=g.trans sk;have ec:=sk _ _ ec;have ed:=sk _ _ ed;have Az:=sk _ _ Az;generalize upd H3 k (.tup [.int 0,.int t.num])=H4 at g ec ed Az e_k⊢;refine⟨_,rfl,c,_,3,_,rfl,rfl,SqT.of ec,rfl,k,kk (0,t.num),rfl,Az,e_k,?_⟩;have g5:Same H (upd H4 p (.dT (aj [((0,t.num),t.many)]))):=fI g nHp;have ed5:(upd H4 p (.dT (aj [((0,t.num),t.many)]))) d=some (.dT (aj qs)):=by rw[Ze (Ne.symm pd)];exact ed
   have ep5:(upd H4 p (.dT (aj [((0,t.num),t.many)]))) p=some (.dT (aj [((0,t.num),t.many)])):=Z7;show _;refine⟨_,rfl,_,rfl,_,rfl,p,Au,or,[((0,t.num),t.many)],rfl,ep5,ot.kok,r0,r1,d0,by omega,by show 1<64;omega,fun t1 H6 fs1 rs g6 nt1 ep6 _ _ st1 kr rl=>?_⟩;rw[iH]at st1;have pr:rs.Perm (thL Au or t):=by
    have:=(Sv st1 ot.kok.nd).1;unfold thL;rw[this];exact(Zy rs).symm
   have g:=T4 nHp g5 g6;have ed6:H6 d=some (.dT (aj qs)):=(Z3 (g6 d _ (by rw[Zf (Ne.symm pd)];exact ed5))).2;have rl:rs.length≤1:=rl;have kq:Kok or (qs.map (·.1)):=oka.pok.kok.perm (pm.map _);clear g5 ed5 ep5 g6 e_k Az ec ed;refine⟨_,rfl,_,rfl,d,p,or,qs,rs,rfl,ed6,ep6,dp,kq,kr.nd,by omega,fun d' H7 g7 nd' ed7=>?_⟩;have nHd:H d'=none:=g.free nd';have g:=g.trans g7;have al:=Ra rs qs;have okt:=(f_ (Au:=Au) d0 (tw t hm)).1;have oka2:Pok or (aK qs rs):=Tt (oka.pok.perm pm) (okt.pok.perm pr).each;refine⟨_,rfl,_,rfl,_,rfl,d',Au,or,aK qs rs,rfl,ed7,oka2.kok,r0,r1,d0,by omega,by omega,fun t2 H8 fs2 us g8 nt2 ed8 _ _ st2 ku ul=>?_⟩;exact hN _ _ ⟨d',_,_,us,rfl,T4 nHd g g8,nHd,ed8,fe pm pr kq.nd kr.nd st2⟩
  ·rintro σ H2 ⟨d,o4,o5,qs,rfl,g,nd,ed,pm⟩;rw[xl,yc]at pm;exact⟨_,rfl,hq d qs _ g nd ed pm⟩
 |node l r=>
  obtain⟨a,mm,x,y,rfl,e,hx,hy⟩:=DV.node_inv dv;have ht:max l.ht r.ht+1<m+1:=ht;have tal:(l.all++r.all).length≤62:=tal;rw[xn]at tal;have twl:∀s∈l.streams,∀x∈s,ThL or x:=fun s hs=>tw s (yy _ hs);have twr:∀s∈r.streams,∀x∈s,ThL or x:=fun s hs=>tw s (xA _ hs);obtain⟨a1,_,a3⟩:=S6 (Au:=Au) d0 twl;obtain⟨b1,_,b3⟩:=S6 (Au:=Au) d0 twr;refine⟨_,rfl,_,_,"list",_,rfl,TyOf.tup (sm _ _ e),si,_,rfl,Yo ?_⟩;refine⟨_,(Z4 (Zz 3 X9.nd rfl (Or.inl rfl) (Z6 bi hr (Z0 (Z6 bS hr (Z0 (pv 0) (Z0 (pv 1) (Z0 (Yd Y8 (pv 2) Z2) Z1)))) (Z0 (Z6 bS hr (Z0 (pv 0) (Z0 (pv 1) (Z0 (Yd Y8 (pv 2) Z2) Z1)))) Z1)))) Zi),?_⟩;refine⟨_,rfl,_,rfl,_,rfl,a,_,1,_,rfl,rfl,SqT.of (sm _ _ e),rW _ _ _,x,Au,or,l,rfl,hx.mono sm,by omega,twl,by omega,r0,r1,d0,dp,fun e1 qs H2 g2 n1 ed1 p1=>?_⟩;have gg:=sm.trans g2;refine⟨_,rfl,_,rfl,_,rfl,a,_,2,_,rfl,rfl,SqT.of (gg _ _ e),i8 _ _ _,y,Au,or,r,rfl,hy.mono gg,by omega,twr,by omega,r0,r1,d0,dp,fun e2 rs H3 g3 n2 ed2 p2=>?_⟩;have gg:=gg.trans g3;have l1:=p1.length_eq;have l2:=p2.length_eq;have kq:Kok or (qs.map (·.1)):=a1.pok.kok.perm (p1.map _);have kr:Kok or (rs.map (·.1)):=b1.pok.kok.perm (p2.map _);refine⟨e1,e2,or,qs,rs,rfl,g3 _ _ ed1,ed2,dp,kq,kr.nd,by omega,fun d H4 g4 n4 ed4=>?_⟩;have nHd:H d=none:=gg.free n4;have gg:=gg.trans g4;have al:=Ra rs qs;have oka2:Pok or (aK qs rs):=Tt (a1.pok.perm p1) (b1.pok.perm p2).each;refine⟨_,(Z4 (Te (Z6 aE hr (Z0 (pv 3) (Z0 (pv 0) (Z0 (pv 1) Z1))))) Zi),?_⟩;refine⟨_,rfl,_,rfl,_,rfl,d,Au,or,aK qs rs,rfl,ed4,oka2.kok,r0,r1,d0,by omega,by omega,fun t2 H8 fs2 us g8 nt2 ed8 _ _ st2 ku ul=>?_⟩;exact⟨_,(Z8 (Zh (pv 3))),_,rfl,hq d us _ (T4 nHd gg g8) nHd ed8 (fe p1 p2 kq.nd kr.nd st2)⟩
theorem rN(bi:Has P w K mg base "_law_added" 1 ["_law_one","_law_other"] om)(aE:Has P w K mg base "_law_settle" 2 ["_law_now","_law_room","_law_deep"] dG)(aa:mg "isinstance"=none)(aG:mg "list"=none)(F:Fun K "_law_grown" "_law_grown" bQ f fd)(b:Binds K fd ["_law_room","_law_deep","_law_tree_here"] [])(hm:mg "_law_grown"=some (.ref f)):
  ∀m:Nat,Has P w K mg base "_law_grown" (2+m) ["_law_room","_law_deep","_law_tree_here"] (iw m)
 | 0=>Has.of (pj fun vs H Q E h=>by
   obtain⟨v,Au,or,t,_,_,h1,_⟩:=h;omega) b F.kp hm
 |m+1=>Has.of (tj (rN bi aE aa aG F b hm m) bi aE aa aG F) b F.kp hm
def bR:Sp:=fun vs H Q _=>∃(x:V)(T:String),vs=[x]∧Kd H x T∧Q (.bl (whV x)) H
def sM:Sp:=fun vs H Q _=>∃(x:V)(T:String)(l:Int),vs=[x,.int l]∧Kd H x T∧Q (.bl (wF x l)) H
theorem Wb(aa:mg "isinstance"=none)(bD:mg "int"=none)(aZ:mg "bool"=none)(F:Fun K "is_whole" "is_whole" cf f fd):FnOk P w K mg base CX0 1 f fd ["thing"] bR:=by
 refine F.ok Ni (fun vs H Q E h=>?_) (fun cdv A outer s H vs Q E hr h=>?_)
 ·obtain⟨x,T,rfl,_⟩:=h;rfl
 obtain⟨x,T,rfl,hk,hq⟩:=h;refine⟨_,(Z8 (Zh (V6 (Zd Ys rfl aa xJ (Z0 (pv 0) (Z0 (Yr (v:=.ty "int") rfl bD PyProof.Rows.boot_int rfl) Z1))) (Vp (oE (Zd Ys rfl aa xJ (Z0 (pv 0) (Z0 (Yr (v:=.ty "bool") rfl aZ PyProof.Rows.boot_bool rfl) Z1)))))))),?_⟩;rw[←hk.wh]at hq;refine⟨_,rfl,_,_,"int",_,rfl,hk.ty,hk.kit (by decide) rfl,_,rfl,?_⟩;refine X2 (fun c=>?_) (fun c=>?_)
 ·refine⟨_,rfl,_,_,"bool",_,rfl,hk.ty,hk.kit (by decide) rfl,_,rfl,?_⟩;rw[c,Bool.true_and]at hq;exact hq
 ·rw[yj.mpr c,Bool.false_and]at hq;exact hq
theorem Xd(b9:Has P w K mg base "is_whole" 1 ["thing"] bR)(F:Fun K "is_whole_from" "is_whole_from" a7 f fd):FnOk P w K mg base CX0 2 f fd ["thing","least"] sM:=by
 refine F.ok Tx (fun vs H Q E h=>?_) (fun cdv A outer s H vs Q E hr h=>?_)
 ·obtain⟨x,T,l,rfl,_⟩:=h;rfl
 obtain⟨x,T,l,rfl,hk,hq⟩:=h;refine⟨_,(Z8 (Zh (V6 (Z6 b9 hr (Z0 (pv 0) Z1)) (Vp (Xq rD (pv 0) (pv 1) (Zl _)))))),?_⟩;refine⟨_,rfl,x,T,rfl,hk,_,rfl,?_⟩;cases x with
 |int i=>exact Yt ⟨_,rfl,_,rfl,_,_,rfl,rfl,hq⟩
 |_=>exact Yo hq
end K24
namespace L2
open PySem PySem.Spec PyProof.Rows
section
variable{P:Program}{w:World}{A:Around}{E:Value→Shared→Prop}{s:Shared}
end
theorem iR{X:Cx}(K:W.Frag)(hK:X.K=K)(hu:X.A.units+1<cLine):OpR X (compareOp .Lt) (uZ K):=hK ▸ sF (Nat.lt_of_succ_lt hu)
end L2
namespace K24
open PySem L2 Ld
def G0(H:Hp)(x:V):Prop:=∃T,Kd H x T
def Gn:Nat→Hp→V→Prop
 | 0,H,x=>G0 H x
 |n+1,H,x=>G0 H x∧∀a xs,x=.ref a→(H a=some (.tup xs)∨H a=some (.lst xs))→xs.length≤60∧∀y∈xs,Gn n H y
theorem Gn.g0:∀{n:Nat}{H:Hp}{x:V},Gn n H x→G0 H x
 | 0,_,_,h=>h
 |_+1,_,_,h=>h.1
theorem V8{H H':Hp}(g:Same H H'){a:Addr}{T:String}(hk:Kd H (.ref a) T){o:HO}(e:H' a=some o):H a=some o:=by
 cases hk with
 |lst e1=>have:=g _ _ e1;rw[e]at this;rw[e1,this]
 |tup e1=>have:=g _ _ e1;rw[e]at this;rw[e1,this]
 |dK e1=>have:=g _ _ e1;rw[e]at this;rw[e1,this]
theorem Gn.mono{H H':Hp}(g:Same H H'):∀{n:Nat}{x:V},Gn n H x→Gn n H' x
 | 0,x,h=>let ⟨T,k⟩:=h;⟨T,k.mono g⟩
 |n+1,x,h=>by
  obtain⟨⟨T,hk⟩,hi⟩:=h;refine⟨⟨T,hk.mono g⟩,fun a xs ex e=>?_⟩;subst ex;obtain⟨l,q⟩:=hi a xs rfl (e.imp (V8 g hk) (V8 g hk));exact⟨l,fun y hy=>(q y hy).mono g⟩
theorem Kd.tupI{H:Hp}{x:V}{T:String}(h:Kd H x T)(e:bL T "tuple"=true):∃a xs,x=.ref a∧H a=some (.tup xs):=by
 cases h with
 |tup e1=>exact⟨_,_,rfl,e1⟩
 |_=>simp[bL]at e
theorem Kd.tupN{H:Hp}{x:V}{T:String}(h:Kd H x T)(e:bL T "tuple"=false){a:Addr}{xs:List V}(ex:x=.ref a):H a≠some (.tup xs):=fun q=>by
 subst ex;cases h with
 |tup e1=>simp[bL]at e
 |lst e1=>rw[q]at e1;cases e1
 |dK e1=>rw[q]at e1;cases e1
theorem R0{H:Hp}{t:Addr}(n:∀T,¬Kd H (.ref t) T):∀{m:Nat}{x:V},Gn m H x→Gn m (ag t H) x:=by
 have k0:∀{x:V}{T:String},Kd H x T→Kd (ag t H) x T:=fun{x T} h=>by
  cases h with
  |lst e=>exact .lst (by rw[Zf (fun z=>n _ (.lst (z ▸ e)))];exact e)
  |tup e=>exact .tup (by rw[Zf (fun z=>n _ (.tup (z ▸ e)))];exact e)
  |dK e=>exact .dK (by rw[Zf (fun z=>n _ (.dK (z ▸ e)))];exact e)
  |int i=>exact .int i
  |bl b=>exact .bl b
  |non=>exact .non
  |str z=>exact .str z
 intro m
 induction m with
 |zero=>exact fun{x} ⟨T,k⟩=>⟨T,k0 k⟩
 |succ m ih=>exact fun{x} ⟨⟨T,k⟩,hi⟩=>⟨⟨T,k0 k⟩,fun a xs ex e=>let ⟨l,q⟩:=hi a xs ex (e.imp (fun e=>(Z3 e).2) (fun e=>(Z3 e).2));⟨l,fun y hy=>ih (q y hy)⟩⟩
theorem Ub{H:Hp}{t:Addr}(n:∀xs,H t≠some (.tup xs)){b:Addr}{xs:List V}(e:H b=some (.tup xs)):ag t H b=some (.tup xs):=by
 rw[Zf (fun z=>n xs (by rw[←z];exact e))];exact e
def ltK(a b:Int×Int):Prop:=a.1<b.1∨(a.1=b.1∧a.2<b.2)
theorem On{a b:Int×Int}:HT.lexLt [a.1,a.2] [b.1,b.2]=true↔ltK a b:=by
 rw[HT.lexLt_cons];unfold ltK;by_cases h:a.1=b.1
 ·rw[xp h,HT.lexLt_cons];by_cases g:a.2=b.2
  ·rw[xp g];constructor
   ·intro z;cases z
   ·intro z;omega
  ·rw[xm g];constructor
   ·intro z;exact .inr ⟨h,xy z⟩
   ·intro z;exact xB (by omega)
 ·rw[xm h];constructor
  ·intro z;exact .inl (xy z)
  ·intro z;exact xB (by omega)
def Adj(ks:List (Int×Int)):Prop:=∀(n:Nat) a b,ks[n]?=some a→ks[n+1]?=some b→ltK a b
theorem eO:∀{ks:List (Int×Int)}{k:Int×Int},Adj (k::ks)→∀x∈ks,ltK k x
 |y::ys,k,h,x,hx=>by
  have h0:ltK k y:=h 0 k y rfl rfl
  rcases xv.mp hx with e | m
  ·rw[e];exact h0
  ·have h1:=eO (ks:=ys) (k:=y) (fun n a b ha hb=>h (n+1) a b ha hb) x m;unfold ltK at h0 h1⊢;omega
theorem gI:∀{ks:List (Int×Int)},Adj ks→ks.Pairwise ltK
 | [],_=>.nil
 |k::ks,h=>.cons (eO h) (gI fun n a b ha hb=>h (n+1) a b ha hb)
theorem gf{ks:List (Int×Int)}(h:ks.Pairwise ltK):ks.Nodup:=h.imp fun{a b} l e=>by
 subst e;unfold ltK at l;omega
def stO(or:Int)(k:Int×Int):Prop:=0≤k.1∧k.1≤or∧0≤k.2∧k.2<2^(or-k.1).toNat
def KyP(ok:Int×Int→Prop)(H:Hp)(x:V):Prop:=∃b k,x=.ref b∧KAt H b k∧ok k
def dq(ok:Int×Int→Prop)(H:Hp)(x:V)(p:(Int×Int)×Int):Prop:=∃a,x=.ref a∧FT H a p∧ok p.1∧1≤p.2
def CtsL(ok:Int×Int→Prop)(H:Hp)(x:V)(ps:Sps):Prop:=∃c as,x=.ref c∧H c=some (.tup (as.map V.ref))∧Paired (FT H) as ps∧(∀p∈ps,ok p.1∧1≤p.2)∧(ps.map (·.1)).Pairwise ltK
theorem uO{H:Hp}{a:Addr}{p q:(Int×Int)×Int}(h:FT H a p)(g:FT H a q):p=q:=by
 obtain⟨b,e1,e2⟩:=h;obtain⟨c,e3,e4⟩:=g;rw[e1]at e3;simp only[Option.some.injEq,HO.tup.injEq,List.cons.injEq,V.ref.injEq,V.int.injEq,and_true]at e3;obtain⟨rfl,e5⟩:=e3;rw[e2]at e4;simp only[Option.some.injEq,HO.tup.injEq,List.cons.injEq,V.int.injEq,and_true]at e4;exact yT (yT e4.1 e4.2) e5
theorem Tl{H:Hp}:∀{as:List Addr}{ps qs:Sps},Paired (FT H) as ps→Paired (FT H) as qs→ps=qs
 |_,_,_,.nil,.nil=>rfl
 |_,_,_,.cons h r,.cons g s=>by rw[uO h g,Tl r s]
theorem Vm:∀{as bs:List Addr},as.map V.ref=bs.map V.ref→as=bs
 | [],[],_=>rfl
 |a::as,b::bs,h=>by
  rw[xu,xu,List.cons.injEq,V.ref.injEq]at h;rw[h.1,Vm h.2]
theorem O7{ok:Int×Int→Prop}{H:Hp}:∀{xs:List V},(∀x∈xs,∃p,dq ok H x p)→∃as ps,xs=as.map V.ref∧Paired (FT H) as ps∧∀p∈ps,ok p.1∧1≤p.2
 | [],_=>⟨[],[],rfl,.nil,fun _ h=>nomatch h⟩
 |x::xs,h=>by
  obtain⟨p,a,rfl,f,o,n⟩:=h x (.head _);obtain⟨as,ps,rfl,r,q⟩:=O7 fun y hy=>h y (.tail _ hy);refine⟨a::as,p::ps,rfl,.cons f r,fun p' hp=>?_⟩
  rcases xv.mp hp with e | m
  ·rw[e];exact⟨o,n⟩
  ·exact q p' m
theorem mq{ok:Int×Int→Prop}{H:Hp}:∀{as:List Addr}{ps:Sps},Paired (FT H) as ps→(∀p∈ps,ok p.1∧1≤p.2)→∀x∈as.map V.ref,∃p,dq ok H x p
 |_,_,.cons (a:=a) (b:=p) f r,o,x,hx=>by
  rw[xu]at hx
  rcases xv.mp hx with e | m
  ·exact⟨p,a,e,f,o p (.head _)⟩
  ·exact mq r (fun p' hp=>o p' (.tail _ hp)) x m
theorem CtsL.uni{ok ok':Int×Int→Prop}{H:Hp}{x:V}{ps qs:Sps}(h:CtsL ok H x ps)(g:CtsL ok' H x qs):ps=qs:=by
 obtain⟨c,as,rfl,e,r,_⟩:=h;obtain⟨c',as',e1,e',r',_⟩:=g;cases e1;rw[e]at e';cases Vm (HO.tup.inj (xK e'));exact Tl r r'
def wW:V→Int→Int→Bool
 |.int i,l,m=>decide (l≤i) && decide (i≤m)
 |_,_,_=>false
theorem Wg{x:V}{l m:Int}(h:wW x l m=true):∃i,x=.int i∧l≤i∧i≤m:=by
 cases x with
 |int i=>
  obtain⟨a,b⟩:=zU.mp (show(decide (l≤i) && decide (i≤m))=true from h);exact⟨i,rfl,xy a,xy b⟩
 |_=>cases h
theorem Ui{i l m:Int}(a:l≤i)(b:i≤m):wW (.int i) l m=true:=zU.mpr ⟨xB a,xB b⟩
def e9:Sp:=fun vs H Q _=>∃(x:V)(T:String)(l m:Int),vs=[x,.int l,.int m]∧Kd H x T∧Q (.bl (wW x l m)) H
def rG:Sp:=fun vs H Q _=>∃(x:V)(T:String),vs=[x]∧Kd H x T∧Q (.bl (wW x 1 20)) H
def rZ:Sp:=fun vs H Q _=>∃(a:Addr)(bs:List Addr)(ks:List (Int×Int)),vs=[.ref a]∧H a=some (.lst (bs.map V.ref))∧KsAt H bs ks∧ks.length≤60∧∀(b:Bool)(H':Hp),Same H H'→(b=true↔ks.Pairwise ltK)→Q (.bl b) H'
def mj:Sp:=fun vs H Q _=>∃(x:V)(or:Int),vs=[x,.int or]∧Gn 1 H x∧or≤20∧∀(b:Bool)(H':Hp),Same H H'→(b=true↔KyP (stO or) H x)→Q (.bl b) H'
def wM(P:Program)(w:World)(K:W.Frag)(mg:Str→Option Value)(base:Heap)(k:Nat)(Hh:Hp)(m:Addr)(ok:Int×Int→Prop):Prop:=∃(fd:FuncData)(ps:List Str)(sp:Sp),FnOk P w K mg base CX0 k m fd ps sp∧Binds K fd ps []∧Cal base m∧
 ∀(H:Hp)(x:V)(Q:VK),Same Hh H→Gn 1 H x→(∀(b:Bool)(H':Hp),Same H H'→(b=true↔KyP ok H x)→Q (.bl b) H')→sp [x] H Q E0
def m_(P:Program)(w:World)(K:W.Frag)(mg:Str→Option Value)(base:Heap):Sp:=fun vs H Q _=>∃(x:V)(m:Addr)(Hh:Hp)(ok:Int×Int→Prop),vs=[x,.ref m]∧Gn 2 H x∧Same Hh H∧wM P w K mg base 5 Hh m ok∧∀(b:Bool)(H':Hp),Same H H'→(b=true↔∃p,dq ok H x p)→Q (.bl b) H'
def gZ(P:Program)(w:World)(K:W.Frag)(mg:Str→Option Value)(base:Heap):Sp:=fun vs H Q _=>∃(x:V)(m:Addr)(ok:Int×Int→Prop),vs=[x,.ref m]∧Gn 3 H x∧wM P w K mg base 5 H m ok∧∀(b:Bool)(H':Hp),Same H H'→(b=true↔∃ps,CtsL ok H x ps)→Q (.bl b) H'
variable{P:Program}{w:World}{K:W.Frag}{mg:Str→Option Value}{base:Heap}{f:Addr}{fd:FuncData}
theorem ly(aY:Has P w K mg base "is_whole_from" 2 ["thing","least"] sM)(F:Fun K "is_whole_within" "is_whole_within" aN f fd):FnOk P w K mg base CX0 3 f fd ["thing","least","most"] e9:=by
 refine F.ok Uw (fun vs H Q E h=>?_) (fun cdv A outer s H vs Q E hr h=>?_)
 ·obtain⟨x,T,l,m,rfl,_⟩:=h;rfl
 obtain⟨x,T,l,m,rfl,hk,hq⟩:=h;refine⟨_,(Z8 (Zh (V6 (Z6 aY hr (Z0 (pv 0) (Z0 (pv 1) Z1))) (Vp (Xq P7 (pv 0) (pv 2) (Zl _)))))),?_⟩;refine⟨_,rfl,_,rfl,x,T,l,rfl,hk,_,rfl,?_⟩;cases x with
 |int i=>
  refine X2 (fun c=>?_) (fun c=>?_)
  ·have c:decide (l≤i)=true:=c;have hq:Q (.bl (decide (l≤i) && decide (i≤m))) H:=hq;rw[c,Bool.true_and]at hq;exact⟨_,rfl,_,rfl,_,_,rfl,rfl,hq⟩
  ·have c:decide (l≤i)=false:=yj.mpr c;have hq:Q (.bl (decide (l≤i) && decide (i≤m))) H:=hq;rw[c,Bool.false_and]at hq;exact hq
 |_=>exact Yo hq
theorem sG(aq:Has P w K mg base "is_whole_within" 3 ["thing","least","most"] e9)(dU:∃u,mg "MOST_ROOM"=some u∧RelV (.int 20) u)(F:Fun K "is_room" "is_room" cE f fd):FnOk P w K mg base CX0 4 f fd ["thing"] rG:=by
 refine F.ok gc (fun vs H Q E h=>?_) (fun cdv A outer s H vs Q E hr h=>?_)
 ·obtain⟨x,T,rfl,_⟩:=h;rfl
 obtain⟨x,T,rfl,hk,hq⟩:=h;refine⟨_,(Z8 (Zh (Z6 aq hr (Z0 (pv 0) (Z0 Z2 (Z0 (Nr rfl dU) Z1)))))),?_⟩;exact⟨_,rfl,x,T,1,20,rfl,hk,hq⟩
theorem sH(cq:mg "all"=none)(lA:mg "zip"=none)(F:Fun K "is_rising" "is_rising" bJ f fd):FnOk P w K mg base CX0 1 f fd ["parts"] rZ:=by
 refine F.ok O6 (fun vs H Q E h=>?_) (fun cdv A outer s H vs Q E hr h=>?_)
 ·obtain⟨a,bs,ks,rfl,_⟩:=h;rfl
 obtain⟨a,bs,ks,rfl,AE,ka,zl,hq⟩:=h;have bl:=xG ka;refine⟨_,(Z8 (Zh (Zd (Qf rfl) rfl cq PyProof.Rows.boot_all (Z0 (Xg (own:=["one","other"]) (Sq rfl rfl) (sC rfl lA (Z0 (pv 0) (Z0 (Y5 O5 (pv 0) (Yj Z2) Yn) Z1)))
  (fun _ _ _ _ _=>(V5 K 2 rfl rfl (Zb (Za (i:=0) W1 rfl (Or.inl rfl) (Or.inr rfl)) (Zb (Za (i:=1) W1 rfl (Or.inl rfl) (Or.inr rfl)) Zu)))) (fun _ _ _ _ _=>W9)
  (fun _ _ _ _ _=>(Xq (iR K rfl (Vf hr)) (pv 0) (pv 1) (Zl _)))) Z1)))),?_⟩
 refine⟨_,rfl,_,rfl,1,rfl,a,_,rfl,SqL.of AE,fun b n_b=>?_⟩;have eb:aV (bs.map V.ref) (some 1) none=(bs.drop 1).map V.ref:=by
  unfold aV;have h:=HT.sIx_nat (bs.map V.ref).length 0 1;rw[show((1:Nat):Int)=1 from rfl]at h;rw[h,HT.sIx_none,xh]
  rcases bs with _ | ⟨z,zs⟩
  ·rfl
  ·rw[xD,zO (by omega),List.map_drop];exact Ad (by rw[yK,xh,xD];omega)
 rw[eb];have g0:=Z9 n_b (.lst ((bs.drop 1).map V.ref));have Ay:=Z7 (H:=H) (a:=b) (o:=.lst ((bs.drop 1).map V.ref));have AE:=g0 _ _ AE;have ka:=ka.mono fun b xs e=>g0 b _ e;generalize upd H b (.lst ((bs.drop 1).map V.ref))=H1 at g0 Ay AE ka⊢;refine⟨a,b,rfl,⟨_,SqL.of AE⟩,⟨_,SqL.of Ay⟩,?_⟩;have ln:min (bs.map V.ref).length ((bs.drop 1).map V.ref).length≤60:=by rw[xh,xh];omega
 refine lu (xs:=bs.map V.ref) (zs:=(bs.drop 1).map V.ref) (fun n ys H'=>Same H1 H'∧∃cs:List Bool,cs.length=n∧ys=cs.map V.bl∧∀(j:Nat) c x y,cs[j]?=some c→ks[j]?=some x→ks[j+1]?=some y→(c=true↔ltK x y)) ⟨Same.refl _,[],rfl,rfl,fun j c x y h=>by simp at h⟩ ?_ ?_ ?_ ?_
 ·rintro n ys H' _ ⟨g,_⟩;exact⟨SqL.of (g _ _ AE),SqL.of (g _ _ Ay)⟩
 ·rintro n x z ys H' T C hx hz ⟨g,cs,cl,rfl,hc⟩ nT hC;have nl:n<(bs.map V.ref).length:=(xo.mp hx).1;rw[xh]at nl;obtain⟨b1,k1,rfl,hk1,e1⟩:=Q4 ka hx;have hz':(bs.map V.ref)[n+1]?=some z:=by
   rw[xE,List.getElem?_drop]at hz;rw[xE,show n+1=1+n by omega];exact hz
  obtain⟨b2,k2,rfl,hk2,e2⟩:=Q4 ka hz';have gT:=g.trans (Z9 nT (.tup [.ref b1,.ref b2]));refine⟨Zx ?_,T,_,rfl,SqT.of Z7,rfl,_,_,rfl,_,_,rfl,rfl,Wk.refl _,_,rfl,_,rfl,b1,b2,[k1.1,k1.2],[k2.1,k2.2],rfl,rfl,SqT.of (gT _ _ e1),SqT.of (gT _ _ e2),hC _ _ ⟨gT,cs++[HT.lexLt [k1.1,k1.2] [k2.1,k2.2]],by rw[xn,cl];rfl,by rw[xN];rfl,fun j c x y h1 h2 h3=>?_⟩⟩
  ·rw[xh];omega
  ·by_cases hj:j<cs.length
   ·rw[List.getElem?_append_left hj]at h1;exact hc j c x y h1 h2 h3
   ·have je:j=n:=by
     have:=(xo.mp h1).1;rw[xn,xD,yF]at this;omega
    subst je;rw[hk1]at h2;rw[hk2]at h3;cases h2;cases h3;rw[←cl,List.getElem?_append_right (xj _),Nat.sub_self]at h1;cases h1;exact On
 ·rintro n ys H' hn ⟨g,cs,cl,rfl,hc⟩;rw[xh];exact Zx (by omega)
 ·rintro ys H' ⟨g,cs,cl,rfl,hc⟩;refine⟨Zq ?_,fun p hp=>⟨p,_,rfl,SqL.of Z7,?_⟩⟩
  ·rw[xh];omega
  ·refine hq _ _ (g0.trans (g.trans (Z9 hp _))) ⟨fun al=>gI fun n x y h1 h2=>?_,fun pw=>yL.mpr fun c hc2=>?_⟩
   ·have n1:=(xo.mp h2).1;have jl:n<cs.length:=by
     rw[cl,xh,xh,yK];omega
    exact(hc n _ x y (xz jl) h1 h2).mp (yL.mp al _ (z6 jl))
   ·obtain⟨j,hj⟩:=zd.mp hc2;have jl:=(xo.mp hj).1;rw[cl,xh,xh,yK]at jl;have j1:j<ks.length:=by omega
    have j2:j+1<ks.length:=by omega
    exact(hc j c _ _ hj (xz j1) (xz j2)).mpr (Nn pw (xz j1) (xz j2) (z5 j))
theorem sW(aa:mg "isinstance"=none)(ao:mg "tuple"=none)(am:mg "len"=none)(aq:Has P w K mg base "is_whole_within" 3 ["thing","least","most"] e9)(jQ:Has P w K mg base "last_of" 2 ["stretch"] mw)(F:Fun K "is_stretch" "is_stretch" bC f fd):FnOk P w K mg base CX0 4 f fd ["thing","deep"] mj:=by
 refine F.ok Wi (fun vs H Q E h=>?_) (fun cdv A outer s H vs Q E hr h=>?_)
 ·obtain⟨x,or,rfl,_⟩:=h;rfl
 obtain⟨x,or,rfl,⟨⟨T,hk⟩,hi⟩,dp,hq⟩:=h;refine⟨_,(Z4 (Y4 (PW.pt (Xo (Y7 (Y6 (Zd Ys rfl aa xJ (Z0 (pv 0) (Z0 (Yr (v:=.ty "tuple") rfl ao yr rfl) Z1))))) (Xk (Zo Sf (Zd Zj rfl am x9 (Z0 (pv 0) Z1)) Z2 (Zl _))))) (Z8 (Zh Yw)) Zn)
 (Z4 (Yu (pv 0) (Yv rfl (Zb (Za (i:=2) Wi.nd rfl (Or.inl rfl)) (Zb (Za (i:=3) Wi.nd rfl (Or.inl rfl)) Zu))))
 (Z8 (Zh (V6 (Z6 aq hr (Z0 (pv 2) (Z0 Z2 (Z0 (pv 1) Z1)))) (Vp (Z6 aq hr (Z0 (pv 3) (Z0 Z2 (Z0 (Z6 jQ hr (Z0 (Zp (Z0 (Zc Xm (pv 1) (pv 2)) (Z0 Z2 Z1))) Z1)) Z1)))))))))),?_⟩
 refine⟨_,rfl,_,_,"tuple",_,rfl,hk.ty,hk.kit (by decide) rfl,_,rfl,?_⟩;by_cases ht:bL T "tuple"=true
 ·obtain⟨a,xs,rfl,e⟩:=Kd.tupI hk ht;rw[ht];refine Yo ⟨_,rfl,a,xs,rfl,.inr (SqT.of e),rfl,_,rfl,X2 (fun c=>?_) (fun c=>?_)⟩
  ·refine hq false H (Same.refl _) ⟨(fun z=>nomatch z),fun⟨b,k,e1,e2,_⟩=>?_⟩;cases e1;have e2:H a=some (.tup [.int k.1,.int k.2]):=e2;rw[e]at e2;cases e2;simp at c
  ·obtain⟨_,hy⟩:=hi a xs rfl (.inl e);have xl:xs.length=2:=by
    have:((xs.length:Nat):Int)=2:=by simpa using c
    omega
   match xs,xl,e,hy with
   | [h,i],_,e,hy=>
    obtain⟨Th,hh⟩:=hy h (.head _);obtain⟨Ti,hi1⟩:=hy i (.tail _ (.head _));refine⟨_,rfl,a,_,rfl,SqT.of e,rfl,_,_,rfl,_,_,rfl,rfl,?_⟩;refine⟨_,rfl,_,rfl,h,Th,0,or,rfl,hh,_,rfl,?_⟩;have inv:∀{k:Int×Int},KAt H a k→h=.int k.1∧i=.int k.2:=fun{k} e2=>by
     have e2:H a=some (.tup [.int k.1,.int k.2]):=e2;rw[e]at e2;cases e2;exact⟨rfl,rfl⟩
    cases ch:wW h 0 or with
    |true=>
     obtain⟨hv,rfl,h0,h1⟩:=Wg ch;refine Yt ⟨_,rfl,_,rfl,_,rfl,_,_,rfl,rfl,leN rfl,fun q n_q=>?_⟩;refine⟨q,(or-hv,0),rfl,Z7,by show 0≤or-hv;omega,by show or-hv≤20;omega,zB _,by show(0:Int)≤_;decide,fun H2 g2=>?_⟩;have g3:=(Z9 n_q _).trans g2;refine⟨i,Ti,0,uJ (or-hv,0),rfl,hi1.mono g3,hq _ _ g3 ?_⟩;have e3:uJ (or-hv,0)=2^(or-hv).toNat-1:=by
      show(0+1)*2^(or-hv).toNat-1=_;rw[Int.zero_add,zC]
     rw[e3];constructor
     ·intro z;obtain⟨iv,rfl,i0,i1⟩:=Wg z;exact⟨a,(hv,iv),rfl,e,h0,h1,i0,by show iv<2^(or-hv).toNat;omega⟩
     ·rintro⟨b,k,e1,e2,k0,k1,k2,k3⟩;cases e1;obtain⟨q1,q2⟩:=inv e2;cases q1;rw[q2];exact Ui k2 (by omega)
    |false=>
     refine Yo (hq _ _ (Same.refl _) ⟨(fun z=>nomatch z),?_⟩);rintro⟨b,k,e1,e2,k0,k1,k2,k3⟩;cases e1;obtain⟨q1,q2⟩:=inv e2;rw[q1,Ui k0 k1]at ch;cases ch
 ·have ht:=yj.mpr ht;rw[ht];refine Yt (hq false H (Same.refl _) ⟨(fun z=>nomatch z),fun⟨b,k,e1,e2,_⟩=>?_⟩);exact absurd e2 (Kd.tupN hk ht e1)
theorem qt(aa:mg "isinstance"=none)(ao:mg "tuple"=none)(am:mg "len"=none)(aY:Has P w K mg base "is_whole_from" 2 ["thing","least"] sM)(F:Fun K "is_count" "is_count" b7 f fd):FnOk P w K mg base CX0 6 f fd ["thing","is_key"] (m_ P w K mg base):=by
 refine F.ok Vk (fun vs H Q E h=>?_) (fun cdv A outer s H vs Q E hr h=>?_)
 ·obtain⟨x,m,Hh,ok,rfl,_⟩:=h;rfl
 obtain⟨x,m,Hh,ok,rfl,⟨⟨T,hk⟩,hi⟩,sm,⟨fm,pm,sp,FM,BM,CM,um⟩,hq⟩:=h;refine⟨_,(Z4 (Y4 (PW.pt (Xo (Y7 (Y6 (Zd Ys rfl aa xJ (Z0 (pv 0) (Z0 (Yr (v:=.ty "tuple") rfl ao yr rfl) Z1))))) (Xk (Zo Sf (Zd Zj rfl am x9 (Z0 (pv 0) Z1)) Z2 (Zl _))))) (Z8 (Zh Yw)) Zn)
 (Z4 (Yu (pv 0) (Yv rfl (Zb (Za (i:=2) Vk.nd rfl (Or.inl rfl)) (Zb (Za (i:=3) Vk.nd rfl (Or.inl rfl)) Zu))))
 (Z8 (Zh (V6 (oq (i:=1) hr (Z0 (pv 2) Z1)) (Vp (Z6 aY hr (Z0 (pv 3) (Z0 Z2 Z1))))))))),?_⟩
 refine⟨_,rfl,_,_,"tuple",_,rfl,hk.ty,hk.kit (by decide) rfl,_,rfl,?_⟩;by_cases ht:bL T "tuple"=true
 ·obtain⟨a,xs,rfl,e⟩:=Kd.tupI hk ht;rw[ht];refine Yo ⟨_,rfl,a,xs,rfl,.inr (SqT.of e),rfl,_,rfl,X2 (fun c=>?_) (fun c=>?_)⟩
  ·refine hq false H (Same.refl _) ⟨(fun z=>nomatch z),fun⟨p,b,e1,⟨y,e2,_⟩,_⟩=>?_⟩;cases e1;rw[e]at e2;cases e2;simp at c
  ·obtain⟨_,hy⟩:=hi a xs rfl (.inl e);have xl:xs.length=2:=by
    have:((xs.length:Nat):Int)=2:=by simpa using c
    omega
   match xs,xl,e,hy with
   | [k,n],_,e,hy=>
    have hk1:=hy k (.head _);obtain⟨Tn,hn1⟩:=(hy n (.tail _ (.head _))).g0;have inv:∀{p:(Int×Int)×Int},dq ok H (.ref a) p→KyP ok H k∧n=.int p.2∧1≤p.2:=fun{p} ⟨b,e1,⟨y,e2,e3⟩,o,n1⟩=>by
     cases e1;rw[e]at e2;cases e2;exact⟨⟨y,p.1,rfl,e3,o⟩,rfl,n1⟩
    refine⟨_,rfl,a,_,rfl,SqT.of e,rfl,_,_,rfl,_,_,rfl,rfl,?_⟩;refine⟨m,fm,_,_,rfl,FM.mono (by decide),BM,CM,_,rfl,um H k _ sm hk1 fun b H1 g1 iff=>⟨_,rfl,?_⟩⟩;cases b with
    |true=>
     obtain⟨y,key,rfl,ek,o⟩:=iff.mp rfl;refine Yt ⟨_,rfl,n,Tn,1,rfl,hn1.mono g1,hq _ _ g1 ⟨fun z=>?_,fun⟨p,hp⟩=>?_⟩⟩
     ·cases n with
      |int i=>exact⟨(key,i),a,rfl,⟨y,e,ek⟩,o,xy z⟩
      |_=>cases z
     ·obtain⟨_,q2,q3⟩:=inv hp;rw[q2];exact xB q3
    |false=>
     exact Yo (hq _ _ g1 ⟨(fun z=>nomatch z),fun⟨p,hp⟩=>absurd (iff.mpr (inv hp).1) xw⟩)
 ·have ht:=yj.mpr ht;rw[ht];refine Yt (hq false H (Same.refl _) ⟨(fun z=>nomatch z),fun⟨p,b,e1,⟨y,e2,_⟩,_⟩=>?_⟩);exact absurd e2 (Kd.tupN hk ht e1)
theorem qH(aa:mg "isinstance"=none)(ao:mg "tuple"=none)(cq:mg "all"=none)(ia:Has P w K mg base "is_count" 6 ["thing","is_key"] (m_ P w K mg base))(dO:Has P w K mg base "is_rising" 1 ["parts"] rZ)(F:Fun K "are_counts" "are_counts" bq f fd):FnOk P w K mg base CX0 7 f fd ["thing","is_key"] (gZ P w K mg base):=by
 refine F.ok Ql (fun vs H Q E h=>?_) (fun cdv A outer s H vs Q E hr h=>?_)
 ·obtain⟨x,m,ok,rfl,_⟩:=h;rfl
 obtain⟨x,m,ok,rfl,⟨⟨T,hk⟩,hi⟩,ky,hq⟩:=h;refine⟨_,(Z4 (Y4 (PW.pt (Xo (Y7 (Y6 (Zd Ys rfl aa xJ (Z0 (pv 0) (Z0 (Yr (v:=.ty "tuple") rfl ao yr rfl) Z1))))) (Xk (Y7 (Y6 (Zd (Qf rfl) rfl cq PyProof.Rows.boot_all (Z0 (Xg (own:=["one"]) (Sq rfl rfl) (Vo (pv 0))
  (fun _ _ _ _ _=>(Za (i:=0) Uh rfl (Or.inl rfl) (Or.inr rfl))) (fun _ _ _ _ _=>W9)
  (fun _ _ _ _ _=>(Z6 ia hr (Z0 (pv 0) (Z0 (pv 2) Z1))))) Z1))))))) (Z8 (Zh Yw)) Zn)
 (Z8 (Zh (Z6 dO hr (Z0 (Xg (own:=["key","count"]) (Sq rfl rfl) (Vo (pv 0))
  (fun _ _ _ _ _=>(V5 K 2 rfl rfl (Zb (Za (i:=0) Xp rfl (Or.inl rfl) (Or.inr rfl)) (Zb (Za (i:=1) Xp rfl (Or.inl rfl) (Or.inr rfl)) Zu)))) (fun _ _ _ _ _=>W9)
  (fun _ _ _ _ _=>(pv 0))) Z1))))),?_⟩
 refine⟨_,rfl,_,_,"tuple",_,rfl,hk.ty,hk.kit (by decide) rfl,_,rfl,?_⟩;by_cases ht:bL T "tuple"=true
 ·obtain⟨a,xs,rfl,e⟩:=Kd.tupI hk ht;obtain⟨xl,hy⟩:=hi a xs rfl (.inl e);rw[ht];refine Yo ⟨_,rfl,a,rfl,⟨_,SqT.of e⟩,?_⟩;refine W8 (xs:=xs) (fun n ys H'=>Same H H'∧∃bs:List Bool,ys=bs.map V.bl∧bs.length=n∧∀(j:Nat) b y,bs[j]?=some b→xs[j]?=some y→(b=true↔∃p,dq ok H y p)) ⟨Same.refl _,[],rfl,rfl,fun j b y h=>by simp at h⟩ ?_ ?_ ?_
  ·rintro n ys H' _ ⟨g,_⟩;exact SqT.of (g _ _ e)
  ·rintro n y ys H' C hx ⟨g,bs,rfl,bl,hb⟩ hC;have nl:=(xo.mp hx).1;have gy:=hy y (xL hx);refine⟨Zx (by rw[xh];omega),Wk.refl _,_,rfl,_,rfl,y,m,H,ok,rfl,gy.mono g,g,ky,fun b H1 g1 iff=>hC _ _ ⟨g.trans g1,bs++[b],by rw[xN];rfl,by rw[xn,bl];rfl,fun j b' y' h1 h2=>?_⟩⟩;by_cases hj:j<bs.length
   ·rw[List.getElem?_append_left hj]at h1;exact hb j b' y' h1 h2
   ·have je:j=n:=by
     have:=(xo.mp h1).1;rw[xn,xD,yF]at this;omega
    subst je;rw[hx]at h2;cases h2;rw[←bl,List.getElem?_append_right (xj _),Nat.sub_self]at h1;cases h1;rw[iff];constructor
    ·rintro⟨p,c,rfl,⟨z,e2,e3⟩,q⟩;obtain⟨⟨T2,hk2⟩,hi2⟩:=gy;have e4:=V8 g hk2 e2;obtain⟨_,hy3⟩:=hi2 c _ rfl (.inl e4);obtain⟨T3,hk3⟩:=(hy3 (.ref z) (.head _)).g0;exact⟨p,c,rfl,⟨z,e4,V8 g hk3 e3⟩,q⟩
    ·rintro⟨p,c,e1,h,q⟩;exact⟨p,c,e1,Yb g h,q⟩
  ·rintro ys H' ⟨g,bs,rfl,bl,hb⟩;refine⟨Zq (by rw[xh];omega),fun p hp=>⟨p,_,rfl,SqL.of Z7,_,rfl,?_⟩⟩;have g1:=g.trans (Z9 hp (.lst (bs.map V.bl)));generalize upd H' p (.lst (bs.map V.bl))=H1 at g1⊢;cases all:bs.all id with
   |true=>
    refine Yo ?_;obtain⟨as,ps,rfl,pr,pk⟩:=O7 (ok:=ok) (H:=H) (xs:=xs) fun y hy2=>by
     obtain⟨j,hj⟩:=zd.mp hy2;have jl:j<bs.length:=by rw[bl];exact(xo.mp hj).1
     have h1:bs[j]?=some bs[j]:=xz jl;exact(hb j _ y h1 hj).mp (yL.mp all _ (z6 jl))
    have al:=xG pr;rw[xh]at xl;refine⟨_,rfl,⟨a,rfl,⟨_,SqT.of (g1 _ _ e)⟩,?_⟩⟩;refine W8 (xs:=as.map V.ref) (fun n ys H'=>H'=H1∧∃bs:List Addr,ys=bs.map V.ref∧KsAt H1 bs ((ps.take n).map (·.1))) ⟨rfl,[],rfl,.nil⟩ ?_ ?_ ?_
    ·rintro n ys H' _ ⟨rfl,_⟩;exact SqT.of (g1 _ _ e)
    ·rintro n x ys H' C hx ⟨rfl,bs,rfl,ka⟩ hC;obtain⟨a1,p,rfl,hp,b',e1,e2⟩:=W7 pr hx;have nl:=(xo.mp hp).1;have bl:=xG ka;rw[xh,yn]at bl;refine⟨Zx (by rw[xh];omega),a1,_,rfl,SqT.of (g1 _ _ e1),rfl,_,_,rfl,_,_,rfl,rfl,Wk.refl _,_,rfl,hC _ _ ⟨rfl,bs++[b'],by rw[xN];rfl,?_⟩⟩;rw[Yl hp,xN];have e2':H' b'=some (.tup [.int p.1.1,.int p.1.2]):=g1 _ _ e2;exact Paired.snoc ka e2'
    ·rintro ys H' ⟨rfl,bs,rfl,ka⟩;rw[xh,al,yc]at ka;have bl:=xG ka;rw[xh]at bl;refine⟨Zq (by rw[xh];omega),fun q nq=>?_⟩;have g2:=Z9 nq (.lst (bs.map V.ref));refine⟨q,bs,_,rfl,Z7,ka.mono fun b xs e=>g2 b _ e,by rw[xh];omega,fun b H2 g3 iff=>hq _ _ (g1.trans (g2.trans g3)) (iff.trans ⟨fun pw=>⟨ps,a,as,rfl,e,pr,pk,pw⟩,fun⟨Ax,hp'⟩=>?_⟩)⟩;have hp2:=hp';obtain⟨c,as',e1,e2,pr',_,pw'⟩:=hp2;cases e1;rw[e]at e2;cases Vm (HO.tup.inj (xK e2));rw[Tl pr pr'];exact pw'
   |false=>
    refine Yt (hq false _ g1 ⟨(fun z=>nomatch z),?_⟩);rintro⟨Ax,c,as,e1,e2,pr',pk',_⟩;cases e1;rw[e]at e2;have e2:=HO.tup.inj (xK e2);subst e2;refine absurd (yL.mpr fun b hb2=>?_) (yj.mp all);obtain⟨j,hj⟩:=zd.mp hb2;have jl:j<(as.map V.ref).length:=by rw[←bl];exact(xo.mp hj).1
    exact(hb j b _ hj (xz jl)).mpr (mq pr' pk' _ (z6 jl))
 ·have ht:=yj.mpr ht;rw[ht];refine Yt (hq false H (Same.refl _) ⟨(fun z=>nomatch z),?_⟩);rintro⟨Ax,c,as,e1,e2,_⟩;exact absurd e2 (Kd.tupN hk ht e1)
def sK(e:Expr):Pos:=match e with
 |.Lambda _ _ _ p=>p
 |_=>⟨0,0,0,0⟩
def c7(e:Expr):Scope:=match e with
 |.Lambda _ _ sc _=>sc
 |_=>{kind:=.function,names:=[],isGenerator:=false,isCoroutine:=false}
def lamI(st:Stmt):Expr:=match aw st with
 |_::_::_::.If (.UnaryOp _ (.Call _ (_::e::_) _ _) _) _ _ _::_=>e
 |_=>.Constant .none 0 ⟨0,0,0,0⟩
abbrev cP:Expr:=lamI ae
abbrev qIM:Str:=("is_made_as_ladder":Str)++".<locals>."++"<lambda>"
theorem scIM:LamScope ["one"] ["deep"] (c7 cP):=⟨rfl,rfl,rfl,by decide +kernel,by decide +kernel,fun x h=>by
  have:∀y∈(c7 cP).names,y.2=.free→y.1="deep":=by decide +kernel
  have e:x="deep":=this (x,.free) (xX h) rfl;rw[e];exact .head _,by decide +kernel,by decide +kernel⟩
abbrev bH(T:Addr)(H:Hp):Prop:=LamAt T (sK cP) qIM H
theorem Sy{T:Addr}{H:Hp}(lam:bH T H):∀xs,H T≠some (.tup xs):=by
 rcases lam.tab with e | ⟨_,e,_⟩ <;> (rw[e];exact fun _ z=>nomatch z)
theorem T0{T:Addr}{H:Hp}(lam:bH T H):∀U,¬Kd H (.ref T) U:=fun U k=>by
 cases k with
 |lst e1=>rcases lam.tab with e | ⟨_,e,_⟩ <;> (rw[e]at e1;cases e1)
 |tup e1=>rcases lam.tab with e | ⟨_,e,_⟩ <;> (rw[e]at e1;cases e1)
 |dK e1=>rcases lam.tab with e | ⟨_,e,_⟩ <;> (rw[e]at e1;cases e1)
structure MOk(Au or:Int)(ps:Sps):Prop where
 r0:1≤Au
 r1:Au≤20
 d0:1≤or
 d1:or≤10
 row:∀p∈ps,stO or p.1∧1≤p.2
 pw:(ps.map (·.1)).Pairwise ltK
def MadL(H:Hp)(x:V)(Au or:Int)(ps:Sps):Prop:=∃q,x=.ref q∧LadAt H q Au or (ai ps) ps∧MOk Au or ps
def IsL(H:Hp)(x:V):Prop:=∃Au or ps,MadL H x Au or ps∧Nof or (ai ps / Au) ps∧∀p∈ps,0<p.1.1→p.2≤ai ps / Au
theorem LadAt.uni{H:Hp}{q:Addr}{r d t r' d' t':Int}{ps Ax:Sps}(h:LadAt H q r d t ps)(g:LadAt H q r' d' t' Ax):r=r'∧d=d'∧t=t'∧ps=Ax:=by
 obtain⟨c,as,e1,e2,pr⟩:=h.at_;obtain⟨c',as',f1,f2,pr'⟩:=g.at_;rw[e1]at f1;simp only[Option.some.injEq,HO.tup.injEq,List.cons.injEq,V.ref.injEq,V.int.injEq,and_true]at f1;obtain⟨a1,a2,rfl,a4⟩:=f1;rw[e2]at f2;cases Vm (HO.tup.inj (xK f2));exact⟨a1,a2,a4,Tl pr pr'⟩
theorem MadL.uni{H:Hp}{x:V}{r d r' d':Int}{ps Ax:Sps}(h:MadL H x r d ps)(g:MadL H x r' d' Ax):r=r'∧d=d'∧ps=Ax:=by
 obtain⟨q,rfl,h,_⟩:=h;obtain⟨q',e,g,_⟩:=g;cases e;obtain⟨a,b,_,c⟩:=h.uni g;exact⟨a,b,c⟩
def mh:Sp:=fun vs H Q _=>∃(q:Addr)(Au or total:Int)(ps:Sps),vs=[.ref q]∧LadAt H q Au or total ps∧1≤Au∧Au≤20∧(ps.map (·.1)).Nodup∧ps.length<64∧∀(b:Bool)(H':Hp),Same H H'→(b=true↔Nof or (total / Au) ps)→Q (.bl b) H'
def iu(T:Addr):Sp:=fun vs H Q _=>∃(x:V),vs=[x]∧Gn 4 H x∧bH T H∧∀(b:Bool)(H':Hp),Same (ag T H) (ag T H')→bH T H'→(b=true↔∃Au or ps,MadL H x Au or ps)→Q (.bl b) H'
def n8(T:Addr):Sp:=fun vs H Q _=>∃(x:V),vs=[x]∧Gn 4 H x∧bH T H∧∀(b:Bool)(H':Hp),Same (ag T H) (ag T H')→bH T H'→(b=true↔IsL H x)→Q (.bl b) H'
def t_(c':Addr)(or:Int):Sp:=fun vs H Q _=>∃(x:V),vs=[x]∧H c'=some (crO qIM c')∧Gn 1 H x∧∀(b:Bool)(H':Hp),Same H H'→(b=true↔KyP (stO or) H x)→Q (.bl b) H'
theorem qo(bA:mg "dict"=none)(cR:Has P w K mg base "first_folding" 3 ["deep","bar","counts"] wb)(cX:Has P w K mg base "bar_of" 1 ["ladder"] mB)(F:Fun K "is_settled" "is_settled" bu f fd):FnOk P w K mg base CX0 4 f fd ["ladder"] mh:=by
 refine F.ok X0 (fun vs H Q E h=>?_) (fun cdv A outer s H vs Q E hr h=>?_)
 ·obtain⟨q,Au,or,total,ps,rfl,_⟩:=h;rfl
 obtain⟨q,Au,or,total,ps,rfl,lad,r0,r1,nk,pl,hq⟩:=h;refine⟨_,(Z4 (Yu (pv 0) (Yv rfl (Zb (Za (i:=1) X0.nd rfl (Or.inl rfl)) (Zb (Za (i:=2) X0.nd rfl (Or.inl rfl)) (Zb (Za (i:=3) X0.nd rfl (Or.inl rfl)) (Zb (Za (i:=4) X0.nd rfl (Or.inl rfl)) Zu))))))
 (Z8 (Zh (Xq tQ (Z6 cR hr (Z0 (pv 2) (Z0 (Z6 cX hr (Z0 (pv 0) Z1)) (Z0 (Ym (Sm rfl hr.units) rfl bA PyProof.Rows.boot_dict (Z0 (pv 3) Z1)) Z1)))) Rl (Zl _))))),?_⟩
 obtain⟨c,as,AF,AB,pr⟩:=lad.at_;refine⟨_,rfl,q,_,rfl,SqT.of AF,rfl,_,_,rfl,_,_,rfl,_,_,rfl,_,_,rfl,rfl,?_⟩;have nd:((aj ps).map (·.1)).Nodup:=by
  rw[Qy];exact yY.mpr (nk.imp fun h e=>h (S5 e))
 refine⟨_,rfl,_,rfl,q,Au,or,total,ps,rfl,lad,r0,r1,_,rfl,c,_,_,rfl,AB,mU pr,by rw[Yp];omega,fun d n_d=>?_⟩;rw[dW nd];refine⟨or,total / Au,d,ps,rfl,Z7,pl,fun H' g no=>⟨rfl,?_⟩,fun p k H' g _ fs=>⟨rfl,?_⟩⟩
 ·rw[xB rfl];exact hq _ _ ((Z9 n_d _).trans g) ⟨fun _=>no,fun _=>rfl⟩
 ·rw[yk (fun z=>nomatch z)];exact hq _ _ ((Z9 n_d _).trans g) ⟨(fun z=>nomatch z),fun no=>(fs.not no).elim⟩
theorem nE{c T:Addr}{oc:Value}{od an:Option Addr}{osl:Array (Option Value)}{kV doc pm ct:Value}(lk:K.lookup f=some ⟨oc,od,.func (W.fnOf "is_made_as_ladder" "is_made_as_ladder" (ay ae) (aw ae) (ad ae) .none kV doc pm an (.ref c) ct),osl⟩)(hcd:W.codeIn K (.ref c) "is_made_as_ladder"=true)(CD:W.CodeHd base c T)(hgP:mainGlobals≠T)(hB:base.BuiltinsAt mg T)(aa:mg "isinstance"=none)(ao:mg "tuple"=none)(am:mg "len"=none)(aQ:mg "sum"=none)(jJ:∃u,mg "DEEPEST"=some u∧RelV (.int 10) u)(b9:Has P w K mg base "is_whole" 1 ["thing"] bR)(aq:Has P w K mg base "is_whole_within" 3 ["thing","least","most"] e9)(jM:Has P w K mg base "is_room" 4 ["thing"] rG)(hb_are_counts:HasB P w K mg "are_counts" 7 ["thing","is_key"] (gZ P w K mg))(hS:∀base:Heap,K.In base→base.Ns mainGlobals mg→Has P w K mg base "is_stretch" 4 ["thing","deep"] mj):
  FnOk P w K mg base CX0 8 f (W.fnOf "is_made_as_ladder" "is_made_as_ladder" (ay ae) (aw ae) (ad ae) .none kV doc pm an (.ref c) ct) ["thing"] (iu T):=by
 refine rF (k:=7) lk hcd Y2 (fun vs H Q E h=>?_) (fun A outer s H vs Q E hr h=>?_)
 ·obtain⟨x,rfl,_⟩:=h;rfl
 obtain⟨x,rfl,⟨⟨U,hk⟩,hi⟩,lam,hq⟩:=h;have hf:∀x∈(c7 cP).names,x.2=.free→∃c',(PyProof.Rows.envOfC "is_made_as_ladder" (ad ae) s.heap.objs.size f (.ref c)).cells.lookup x.1=some c':=fun x hx hk=>by
  have:∀y∈(c7 cP).names,y.2=.free→(ad ae).names.lookup y.1=some .cell:=by decide +kernel
  exact Qd (this x hx hk)
 have tT:H T≠none:=by
  rcases lam.tab with e | ⟨_,e,_⟩ <;> (rw[e];exact fun z=>nomatch z)
 have hT0:Same (ag T H) (ag T H):=Same.refl _;refine⟨_,(Z4 (Y4 (PW.pt (Xo (Y7 (Y6 (Zd Ys rfl aa xJ (Z0 (pv 0) (Z0 (Yr (v:=.ty "tuple") rfl ao yr rfl) Z1))))) (Xk (Zo Sf (Zd Zj rfl am x9 (Z0 (pv 0) Z1)) Z2 (Zl _))))) (Z8 (Zh Yw)) Zn) Zi),?_⟩;refine⟨_,rfl,_,_,"tuple",_,rfl,hk.ty,hk.kit (by decide) rfl,_,rfl,?_⟩;cases ht:bL U "tuple" with
 |false=>
  refine Yt (hq false H hT0 lam ⟨(fun z=>nomatch z),fun⟨Au,or,ps,q,e1,ld,_⟩=>?_⟩);obtain⟨c2,as2,e2,_⟩:=ld.at_;exact absurd e2 (Kd.tupN hk ht e1)
 |true=>
 obtain⟨q,xs,rfl,e⟩:=Kd.tupI hk ht;obtain⟨_,hy⟩:=hi q xs rfl (.inl e);refine Yo ⟨_,rfl,q,xs,rfl,.inr (SqT.of e),rfl,_,rfl,X2 (fun cl=>?_) (fun cl=>?_)⟩
 ·refine hq false H hT0 lam ⟨(fun z=>nomatch z),fun⟨Au,or,ps,q2,e1,ld,_⟩=>?_⟩;obtain⟨c2,as2,e2,_⟩:=ld.at_;cases e1;rw[e]at e2;cases e2;simp at cl
 have xl:xs.length=4:=by
  have:((xs.length:Nat):Int)=4:=by simpa using cl
  omega
 match xs,xl,e,hy with
 | [r,d,k,t],_,e,hy=>
 have hk1:=hy k (.tail _ (.tail _ (.head _)));obtain⟨Ur,hr1⟩:=(hy r (.head _)).g0;obtain⟨Ud,hd1⟩:=(hy d (.tail _ (.head _))).g0;obtain⟨Ut,ht1⟩:=(hy t (.tail _ (.tail _ (.tail _ (.head _))))).g0;have inv:∀{Au or:Int}{ps:Sps},MadL H (.ref q) Au or ps→r=.int Au∧d=.int or∧CtsL (stO or) H k ps∧t=.int (ai ps)∧MOk Au or ps:=fun{Au or ps} ⟨q2,e1,ld,mo⟩=>by
  obtain⟨c2,as2,e2,e3,e4⟩:=ld.at_;cases e1;rw[e]at e2;simp only[Option.some.injEq,HO.tup.injEq,List.cons.injEq,and_true]at e2;obtain⟨q1,q2,q3,q4⟩:=e2;exact⟨q1,q2,⟨c2,as2,q3,e3,e4,mo.row,mo.pw⟩,q4,mo⟩
 refine⟨_,(Z4 (Yu (pv 0) (Yv rfl (Zb (Za (i:=1) Y2.nd rfl (Or.inl rfl)) (Zb (Za (i:=2) Y2.nd rfl (Or.inr rfl)) (Zb (Za (i:=3) Y2.nd rfl (Or.inl rfl)) (Zb (Za (i:=4) Y2.nd rfl (Or.inl rfl)) Zu)))))) Zi),?_⟩;refine⟨_,rfl,q,_,rfl,SqT.of e,rfl,_,_,rfl,_,_,rfl,_,_,rfl,_,_,rfl,rfl,?_⟩;refine⟨_,(Z4 (Y4 (PW.pt (Xo (Y7 (Y6 (Z6 jM hr (Z0 (pv 1) Z1)))) (Xk (Y7 (Y6 (Z6 aq hr (Z0 (pv 2) (Z0 Z2 (Z0 (Nr rfl jJ) Z1))))))))) (Z8 (Zh Yw)) Zn) Zi),?_⟩;refine⟨_,rfl,r,Ur,rfl,hr1,_,rfl,?_⟩;cases cr:wW r 1 20 with
 |false=>
  refine Yt (hq false H hT0 lam ⟨(fun z=>nomatch z),fun⟨Au,or,ps,my⟩=>?_⟩);obtain⟨q1,_,_,_,mo⟩:=inv my;rw[q1,Ui mo.r0 mo.r1]at cr;cases cr
 |true=>
 obtain⟨Au,rfl,r0,r1⟩:=Wg cr;refine Yo ⟨_,rfl,d,Ud,1,10,rfl,hd1,_,rfl,?_⟩;cases cd:wW d 1 10 with
 |false=>
  refine Yt (hq false H hT0 lam ⟨(fun z=>nomatch z),fun⟨Au,or,ps,my⟩=>?_⟩);obtain⟨_,q1,_,_,mo⟩:=inv my;rw[q1,Ui mo.d0 mo.d1]at cd;cases cd
 |true=>
 obtain⟨or,rfl,d0,d1⟩:=Wg cd;refine Yo ⟨_,(Z4 (Y4 (Y7 (Y6 (mW hb_are_counts (fun _=>rfl) rfl rfl hr (Z0 (pv 3) (Z0 (uH (c:=c) (T:=T) (sc:=c7 cP) rfl CD hgP hB hf) Z1))))) (Z8 (Zh Yw)) Zn) Zi),?_⟩;refine⟨_,rfl,lam,fun a c' pm2 ctv H1 g1 na nac eT ec ea=>⟨a,_,ea,fun B wid=>?_⟩⟩;have aT:a≠T:=fun z=>tT (z ▸ na);have akd:∀U,¬Kd H1 (.ref a) U:=fun U k=>by
  cases k with
  |lst e1=>rw[ea]at e1;cases e1
  |tup e1=>rw[ea]at e1;cases e1
  |dK e1=>rw[ea]at e1;cases e1
 have gn1:∀{m:Nat}{y:V},Gn m H y→Gn m (ag a H1) y:=fun h=>R0 akd (((R0 (T0 lam) h).mono g1).mono V0);have st:∀{b:Addr}{xs:List V},H b=some (.tup xs)→ag a H1 b=some (.tup xs):=fun{b xs} e=>by
  have z1:H1 b=some (.tup xs):=(Z3 (g1 _ _ (Ub (Sy lam) e))).2;rw[Zf (fun z=>by rw[z,ea]at z1;cases z1)];exact z1
 have ts:∀{b:Addr}{xs:List V}{U:String},Kd H (.ref b) U→ag a H1 b=some (.tup xs)→H b=some (.tup xs):=fun{b xs U} k e1=>by
  have k2:Kd (ag T H) (.ref b) U:=by
   cases k with
   |lst e=>exact .lst (by rw[Zf (fun z=>T0 lam _ (.lst (z ▸ e)))];exact e)
   |tup e=>exact .tup (by rw[Zf (fun z=>T0 lam _ (.tup (z ▸ e)))];exact e)
   |dK e=>exact .dK (by rw[Zf (fun z=>T0 lam _ (.dK (z ▸ e)))];exact e)
  have bT:b≠T:=fun z=>by
   subst z;exact T0 lam _ k
  exact(Z3 (V8 g1 k2 (by rw[Zf bT];exact(Z3 e1).2))).2
 have wfn:=wid.fn;have ec2:ag a H1 c'=some (crO qIM c'):=by rw[Zf (Ne.symm nac)];exact ec
 have cls:∀x d,(aA (PyProof.Rows.envOfC "is_made_as_ladder" (ad ae) s.heap.objs.size f (.ref c)) (c7 cP).names).lookup x=some d→(PyProof.Rows.envOfC "is_made_as_ladder" (ad ae) s.heap.objs.size f (.ref c)).cells.lookup x=some d:=fun x d e=>Sa _ [] hf (fun _ h=>nomatch h) (x,d) (xX e);have back:∀H2,Same (ag a H1) H2→Same (ag T H) (ag T H2)∧bH T H2:=fun H2 g3=>by
  refine⟨fun b u e=>?_,⟨.inr ⟨c',g3 _ _ (by rw[Zf (Ne.symm aT)];exact eT),g3 _ _ ec2⟩⟩⟩;obtain⟨b1,b2⟩:=Z3 e;obtain⟨_,e3⟩:=Z3 (g1 b u e);rw[Zf b1];exact g3 b u (by rw[Zf (Zk b2 na)];exact e3)
 refine⟨k,a,stO or,rfl,gn1 hk1,?_,fun b H2 g2 iff=>⟨_,rfl,?_⟩⟩
 ·refine⟨_,["one"],t_ c' or,sL (k:=4) (us:=[.int or]) (fr:=["deep"]) wfn scIM rfl ?_ (fun x y d e1 e2=>wid.inj x y d (cls x d e1) (cls y d e2)) (fun x d e=>wid.cells x d (cls x d e)) (fun vs H Q E h=>?_) (fun vs H Q E h=>?_) (fun A outer s H vs Q E hr h=>?_),?_,⟨_,_,_,_,wfn⟩,?_⟩
  ·intro i x u h1 h2
   match i,h1,h2 with
   | 0,h1,h2=>
    cases h1;cases h2;obtain⟨c2,u2,e1,e2,rv⟩:=wid.cell 2 "deep" (.int or) rfl rfl rfl;obtain⟨c3,hc3⟩:=Sb (c7 cP).names [] (env:=PyProof.Rows.envOfC "is_made_as_ladder" (ad ae) s.heap.objs.size f (.ref c)) "deep" (xX (scIM.fre "deep" (.head _)));obtain⟨c4,hc4⟩:=Wl hc3;have e3:=cls _ _ hc4;have e4:c4=c2:=xK (e3.symm.trans e1);subst e4;exact⟨c4,u2,hc4,e2,rv⟩
  ·obtain⟨_,_,e,_⟩:=h;exact e
  ·obtain⟨_,rfl,_⟩:=h;rfl
  ·obtain⟨x,rfl,e,gx,hq2⟩:=h;have dz:=hS B wid.kin wid.glb;refine⟨_,Z6 dz hr (Z0 (pv 0) (Z0 (pv 1) Z1)),?_⟩;exact⟨_,rfl,_,rfl,x,or,rfl,gx,by omega,hq2⟩
  ·exact .all fun us hl=>match us,hl with | [_],_=>rfl
  ·exact fun H x Q s gx hq2=>⟨x,rfl,s _ _ ec2,gx,hq2⟩
 have up:∀{ps:Sps},CtsL (stO or) H k ps→CtsL (stO or) (ag a H1) k ps:=fun{ps} ⟨c2,as2,e1,e2,pr,o⟩=>⟨c2,as2,e1,st e2,Paired.mapP pr fun _ _ ⟨y,f1,f2⟩=>⟨y,st f1,st f2⟩,o⟩;cases b with
 |false=>
  obtain⟨z1,z2⟩:=back H2 g2;refine Yt (hq false H2 z1 z2 ⟨(fun z=>nomatch z),fun⟨room',deep',ps,my⟩=>?_⟩);obtain⟨_,q2,q3,_⟩:=inv my;cases q2;exact absurd (iff.mpr ⟨ps,up q3⟩) xw
 |true=>
 obtain⟨ps,cc,as,rfl,dy,pr1,pk,pw⟩:=iff.mp rfl;have hkc:=hk1;obtain⟨⟨Uc,kc⟩,hic⟩:=hk1;have AB:H cc=some (.tup (as.map V.ref)):=ts kc dy;obtain⟨xl2,hrow⟩:=hic cc _ rfl (.inl AB);rw[xh]at xl2;have pr:Paired (FT H) as ps:=by
  have go:∀{as:List Addr}{ps:Sps},(∀y∈as.map V.ref,Gn 2 H y)→Paired (FT (ag a H1)) as ps→Paired (FT H) as ps:=fun{as ps} hg pr=>by
   induction pr with
   |nil=>exact .nil
   |cons f r ih=>
    refine .cons ?_ (ih fun y hy=>hg y (by rw[xu];exact .tail _ hy));obtain⟨y,f1,f2⟩:=f;obtain⟨⟨U1,k1⟩,hi1⟩:=hg _ (by rw[xu];exact .head _);have f1':=ts k1 f1;obtain⟨_,hg2⟩:=hi1 _ _ rfl (.inl f1');obtain⟨U2,k2⟩:=(hg2 (.ref y) (.head _)).g0;exact⟨y,f1',ts k2 f2⟩
  exact go hrow pr1
 have al:=xG pr;have csu:∀{room' deep':Int}{Ax:Sps},MadL H (.ref q) room' deep' Ax→Ax=ps:=fun{room' deep' Ax} my=>(inv my).2.2.1.uni (⟨cc,as,rfl,AB,pr,pk,pw⟩:CtsL (stO or) H (.ref cc) ps);have kJ:=g2 _ _ dy;have pr2:=Paired.mapP pr1 fun _ _ f=>Yb g2 f;obtain⟨z1,z2⟩:=back H2 g2;refine Yo ⟨_,(Z8 (Zh (V6 (Z6 b9 hr (Z0 (pv 4) Z1)) (Vp (Xq Ul (pv 4) (Zd (V1 rfl) rfl aQ ze (Z0 (Xg (own:=["stretch","count"]) (Sq rfl rfl) (Vo (pv 3))
  (fun _ _ _ _ _=>(V5 K 2 rfl rfl (Zb (Za (i:=0) Yx rfl (Or.inl rfl) (Or.inr rfl)) (Zb (Za (i:=1) Yx rfl (Or.inl rfl) (Or.inr rfl)) Zu)))) (fun _ _ _ _ _=>W9)
  (fun _ _ _ _ _=>(pv 1))) Z1)) (Zl _)))))),?_⟩
 obtain⟨Ut2,ht2⟩:=gn1 (m:=0) ⟨Ut,ht1⟩;refine⟨_,rfl,t,Ut2,rfl,ht2.mono g2,_,rfl,?_⟩;cases ct:whV t with
 |false=>
  refine Yo (hq _ _ z1 z2 ⟨(fun z=>nomatch z),fun⟨room',deep',Ax,my⟩=>?_⟩);obtain⟨_,_,_,q4,_⟩:=inv my;rw[q4]at ct;cases ct
 |true=>
 obtain⟨tot,rfl⟩:∃i,t=.int i:=by cases t <;> first | exact⟨_,rfl⟩ | cases ct
 refine Yt ⟨_,rfl,_,rfl,cc,rfl,⟨_,SqT.of kJ⟩,?_⟩;refine W8 (xs:=as.map V.ref) (fun n ys H'=>H'=H2∧ys=((ps.take n).map (·.2)).map V.int) ⟨rfl,rfl⟩ ?_ ?_ ?_
 ·rintro n ys H' _ ⟨rfl,_⟩;exact SqT.of kJ
 ·rintro n x ys H' C hx ⟨rfl,rfl⟩ hC;obtain⟨b,p,rfl,hp,b',e1,e2⟩:=W7 pr2 hx;have nl:=(xo.mp hp).1;refine⟨Zx (by rw[xh,xh,yn];omega),b,_,rfl,SqT.of e1,rfl,_,_,rfl,_,_,rfl,rfl,Wk.refl _,_,rfl,hC _ _ ⟨rfl,?_⟩⟩;rw[Yl hp,xN,xN];rfl
 ·rintro ys H' ⟨rfl,rfl⟩;rw[show(as.map V.ref).length=ps.length by rw[xh];exact al,yc];refine⟨Zq (by rw[xh,xh];omega),fun p np=>⟨p,_,rfl,SqL.of Z7,rfl,?_⟩⟩;obtain⟨y1,y2⟩:=back _ (g2.trans (Z9 np (.lst ((ps.map (·.2)).map V.int))));refine hq _ _ y1 y2 ⟨fun z=>?_,fun⟨room',deep',Ax,my⟩=>?_⟩
  ·have z:V.int tot=V.int (ps.map (·.2)).sum:=xy z;cases z;exact⟨Au,or,ps,q,rfl,⟨cc,as,e,AB,pr⟩,r0,r1,d0,d1,pk,pw⟩
  ·obtain⟨_,_,_,q4,_⟩:=inv my;rw[csu my]at q4;exact xB q4
theorem uM{T:Addr}(cq:mg "all"=none)(bU:Has P w K mg base "is_made_as_ladder" 8 ["thing"] (iu T))(dI:Has P w K mg base "is_settled" 4 ["ladder"] mh)(cX:Has P w K mg base "bar_of" 1 ["ladder"] mB)(F:Fun K "is_ladder" "is_ladder" bI f fd):FnOk P w K mg base CX0 9 f fd ["thing"] (n8 T):=by
 refine F.ok Ta (fun vs H Q E h=>?_) (fun cdv A outer s H vs Q E hr h=>?_)
 ·obtain⟨x,rfl,_⟩:=h;rfl
 obtain⟨x,rfl,gx,lam,hq⟩:=h;refine⟨_,(Z4 (Y4 (PW.pt (Xo (Y7 (Y6 (Z6 bU hr (Z0 (pv 0) Z1)))) (Xk (Y7 (Y6 (Z6 dI hr (Z0 (pv 0) Z1))))))) (Z8 (Zh Yw)) Zn) Zi),?_⟩;refine⟨_,rfl,x,rfl,gx,lam,fun b H1 g1 l1 iff=>⟨_,rfl,?_⟩⟩;cases b with
 |false=>exact Yt (hq _ _ g1 l1 ⟨(fun z=>nomatch z),fun⟨Au,or,ps,my,_⟩=>absurd (iff.mpr ⟨Au,or,ps,my⟩) xw⟩)
 |true=>
 obtain⟨Au,or,ps,my⟩:=iff.mp rfl;have my2:=my;obtain⟨q,rfl,lad,mo⟩:=my2;have lad1:LadAt H1 q Au or (ai ps) ps:=by
  obtain⟨c,as,e1,e2,r⟩:=lad.at_;have s:∀{b:Addr}{xs:List V},H b=some (.tup xs)→H1 b=some (.tup xs):=fun e=>(Z3 (g1 _ _ (Ub (Sy lam) e))).2;exact⟨c,as,s e1,s e2,Paired.mapP r fun _ _ ⟨y,f1,f2⟩=>⟨y,s f1,s f2⟩⟩
 have pl:ps.length≤60:=by
  obtain⟨c,as,e1,e2,r⟩:=lad.at_;have al:=xG r;obtain⟨_,hi⟩:=gx;obtain⟨_,hy⟩:=hi q _ rfl (.inl e1);obtain⟨_,hi2⟩:=hy (.ref c) (.tail _ (.tail _ (.head _)));have:=(hi2 c _ rfl (.inl e2)).1;rw[xh]at this;omega
 have back:∀H2,Same H1 H2→Same (ag T H) (ag T H2)∧bH T H2:=fun H2 g3=>⟨fun b u e=>by
  have:=g1 b u e;obtain⟨z1,z2⟩:=Z3 this;rw[Zf z1];exact g3 _ _ z2,l1.mono g3⟩
 refine Yo ⟨_,rfl,q,Au,or,_,ps,rfl,lad1,mo.r0,mo.r1,gf mo.pw,by omega,fun b H2 g2 iff2=>⟨_,rfl,?_⟩⟩;obtain⟨y1,y2⟩:=back _ g2;cases b with
 |false=>
  refine Yt (hq _ _ y1 y2 ⟨(fun z=>nomatch z),fun⟨room',deep',Ax,my',no,_⟩=>?_⟩);obtain⟨rfl,rfl,rfl⟩:=my.uni my';exact absurd (iff2.mpr no) xw
 |true=>
 have no:=iff2.mp rfl;have lad2:=lad1.mono g2;refine Yo ⟨_,(Z4 (@lO _ _ 1 _ _ _ _ Ta.nd rfl (Or.inr rfl) (Z6 cX hr (Z0 (pv 0) Z1)) (by rfl) (by first | exact .inl rfl | exact .inr rfl)) Zi),?_⟩;refine⟨_,rfl,q,Au,or,_,ps,rfl,lad2,mo.r0,mo.r1,?_⟩;obtain⟨cc,as,AF,AB,pr⟩:=lad2.at_;refine⟨_,(Z8 (Zh (Zd (Qf rfl) rfl cq PyProof.Rows.boot_all (Z0 (Xg (own:=["stretch","count"]) (Sq rfl rfl) (Vo (Yd Y8 (pv 0) Z2))
  (fun _ _ _ _ _=>(V5 K 2 rfl rfl (Zb (Za (i:=0) W2 rfl (Or.inl rfl) (Or.inr rfl)) (Zb (Za (i:=1) W2 rfl (Or.inl rfl) (Or.inr rfl)) Zu)))) (fun _ _ _ _ _=>(Sw (Zo Rp (Yd (pB K rfl) (pv 0) Z2) Z2 (Zl _))))
  (fun _ _ _ _ _=>(Xq P7 (pv 1) (pv 3) (Zl _)))) Z1)))),?_⟩
 refine⟨_,rfl,q,_,2,_,rfl,rfl,SqT.of AF,rfl,cc,rfl,⟨_,SqT.of AB⟩,?_⟩;have al:=xG pr;refine W8 (xs:=as.map V.ref) (fun n ys H'=>H'=H2∧∃bs:List Bool,bs.length≤n∧ys=bs.map V.bl∧(bs.all id=true↔∀p∈ps.take n,0<p.1.1→p.2≤ai ps / Au)) ⟨rfl,[],Nat.le_refl _,rfl,⟨fun _ p hp=>by simp at hp,fun _=>rfl⟩⟩ ?_ ?_ ?_
 ·rintro n ys H' _ ⟨rfl,_⟩;exact SqT.of AB
 ·rintro n x ys H' C hx ⟨rfl,bs,bn,rfl,hb⟩ hC;obtain⟨b,p,rfl,hp,b',e1,e2⟩:=W7 pr hx;have nl:=(xo.mp hp).1;refine⟨Zx (by rw[xh];omega),b,_,rfl,SqT.of e1,rfl,_,_,rfl,_,_,rfl,rfl,Wk.refl _,_,rfl,b',_,0,_,rfl,rfl,SqT.of e2,rfl,_,_,rfl,rfl,_,rfl,?_⟩;by_cases c:p.1.1 > 0
  ·rw[xB c];refine Yt ⟨_,rfl,_,rfl,_,_,rfl,rfl,hC _ _ ⟨rfl,bs++[decide (p.2≤ai ps / Au)],by rw[xn];exact Nat.succ_le_succ bn,by rw[xN];rfl,?_⟩⟩;rw[Yl hp,List.all_append,zU,hb];constructor
   ·rintro⟨h1,h2⟩ p' hp' z
    rcases xM.mp hp' with m | m
    ·exact h1 p' m z
    ·rw[xq.mp m];exact of_decide_eq_true (by simpa using h2)
   ·intro h;exact⟨fun p' m z=>h p' (List.mem_append_left _ m) z,by simpa using h p (List.mem_append_right _ (.head _)) c⟩
  ·rw[yk c];refine Yo (hC _ _ ⟨rfl,bs,by omega,rfl,?_⟩);rw[Yl hp,hb];constructor
   ·intro h p' hp' z
    rcases xM.mp hp' with m | m
    ·exact h p' m z
    ·rw[xq.mp m]at z;exact absurd z c
   ·exact fun h p' m z=>h p' (yy _ m) z
 ·rintro ys H' ⟨rfl,bs,bn,rfl,hb⟩;rw[xh]at bn;rw[show(as.map V.ref).length=ps.length by rw[xh];exact al,yc]at hb;refine⟨Zq (by rw[xh];omega),fun p np=>⟨p,_,rfl,SqL.of Z7,?_⟩⟩;obtain⟨y1,y2⟩:=back _ (g2.trans (Z9 np (.lst (bs.map V.bl))));refine hq _ _ y1 y2 (hb.trans ⟨fun h=>⟨Au,or,ps,my,no,h⟩,fun⟨room',deep',Ax,my',_,h⟩=>?_⟩);obtain⟨rfl,rfl,rfl⟩:=my.uni my';exact h
def big60:Int:=1000000000000000000000000000000000000000000000000000000000000
def sJ:Sp:=fun vs H Q _=>∃(x:V)(T:String)(l m:Int),vs=[x,.int l,.int m]∧Kd H x T∧Q (.bl (wW x l m)) H
def vW:Sp:=fun vs H Q _=>∃(x:V)(or:Int),vs=[x,.int or]∧Gn 2 H x∧1≤or∧or≤10∧∀b:Bool,(b=true↔∃p,dq (stO or) H x p∧p.2≤big60)→Q (.bl b) H
def rB:Sp:=fun vs H Q _=>∃(x:V),vs=[x]∧Gn 4 H x∧(∀Au or ps,MadL H x Au or ps→ai ps≤big60)∧∀(b:Bool)(H':Hp),Same H H'→(b=true↔IsL H x)→Q (.bl b) H'
theorem Su:∀{ps:Sps},(∀p∈ps,1≤p.2)→0≤ai ps∧∀p∈ps,p.2≤ai ps
 | [],_=>⟨zB _,fun _ h=>nomatch h⟩
 |p::ps,h=>by
  have h1:=h p (.head _);obtain⟨h2,h3⟩:=Su fun q hq=>h q (.tail _ hq);have e:ai (p::ps)=p.2+ai ps:=by unfold ai;rw[xu,xY]
  rw[e];refine⟨by omega,fun q hq=>?_⟩
  rcases xv.mp hq with z | m
  ·rw[z];omega
  ·have:=h3 q m;omega
theorem vg{ps:Sps}{h j:Int}{or bar:Int}(f:Fst or bar ps h j):flP ps h j≠[]:=Ot f.in_
theorem pK{or bar:Int}{ps fs qs:Sps}(s:Stl or bar ps fs qs):fs=[]↔Nof or bar ps:=by
 cases s with
 |done n=>exact⟨fun _=>n,fun _=>rfl⟩
 |step f p s=>exact⟨fun z=>absurd (List.append_eq_nil_iff.mp z).1 (vg f),fun n=>(f.not n).elim⟩
theorem wg(aa:mg "isinstance"=none)(bD:mg "int"=none)(aZ:mg "bool"=none)(F:Fun K "_law_whole" "_law_whole" cI f fd):FnOk P w K mg base CX0 1 f fd ["_law_thing","_law_low","_law_high"] sJ:=by
 refine F.ok fX (fun vs H Q E h=>?_) (fun cdv A outer s H vs Q E hr h=>?_)
 ·obtain⟨x,T,l,m,rfl,_⟩:=h;rfl
 obtain⟨x,T,l,m,rfl,hk,hq⟩:=h;refine⟨_,(Z8 (Zh (V6 (Zd Ys rfl aa xJ (Z0 (pv 0) (Z0 (Yr (v:=.ty "int") rfl bD PyProof.Rows.boot_int rfl) Z1))) (V6 (oE (Zd Ys rfl aa xJ (Z0 (pv 0) (Z0 (Yr (v:=.ty "bool") rfl aZ PyProof.Rows.boot_bool rfl) Z1)))) (Vp (oy P7 P7 (pv 1) (pv 0) (pv 2))))))),?_⟩;refine⟨_,rfl,_,_,"int",_,rfl,hk.ty,hk.kit (by decide) rfl,_,rfl,?_⟩;cases hk with
 |int i=>
  have kx:Kd H (.int i) "int":=.int i;refine Yt ⟨_,rfl,_,_,"bool",_,rfl,kx.ty,kx.kit (by decide) rfl,_,rfl,_,rfl,Yt ?_⟩;refine⟨_,rfl,_,rfl,_,_,rfl,rfl,?_⟩;have hq:Q (.bl (decide (l≤i) && decide (i≤m))) H:=hq;refine⟨_,rfl,X2 (fun c=>?_) (fun c=>?_)⟩
  ·have c:decide (l≤i)=true:=c;rw[c,Bool.true_and]at hq;exact⟨_,rfl,_,_,rfl,rfl,hq⟩
  ·have c:decide (l≤i)=false:=yj.mpr c;rw[c,Bool.false_and]at hq;exact hq
 |bl b=>
  have kx:Kd H (.bl b) "bool":=.bl b;exact Yt ⟨_,rfl,_,_,"bool",_,rfl,kx.ty,kx.kit (by decide) rfl,_,rfl,_,rfl,Yo hq⟩
 |_=>exact Yo hq
theorem vX(aa:mg "isinstance"=none)(ao:mg "tuple"=none)(am:mg "len"=none)(aR:Has P w K mg base "_law_whole" 1 ["_law_thing","_law_low","_law_high"] sJ)(F:Fun K "_law_is_count" "_law_is_count" bw f fd):FnOk P w K mg base CX0 2 f fd ["_law_one","_law_deep"] vW:=by
 refine F.ok Uk (fun vs H Q E h=>?_) (fun cdv A outer s H vs Q E hr h=>?_)
 ·obtain⟨x,or,rfl,_⟩:=h;rfl
 obtain⟨x,or,rfl,⟨⟨T,hk⟩,hi⟩,d0,d1,hq⟩:=h;refine⟨_,(Z4 (Y4 (PW.pt (Xo (Y7 (Y6 (Zd Ys rfl aa xJ (Z0 (pv 0) (Z0 (Yr (v:=.ty "tuple") rfl ao yr rfl) Z1))))) (Xo (Zo Sf (Zd Zj rfl am x9 (Z0 (pv 0) Z1)) Z2 (Zl _)) (Xk (Y7 (Y6 (Z6 aR hr (Z0 (Yd Y8 (pv 0) Z2) (Z0 Z2 (Z0 (Zc Vs Z2 Z2) Z1)))))))))) (Z8 (Zh Yw)) Zn) Zi),?_⟩;refine⟨_,rfl,_,_,"tuple",_,rfl,hk.ty,hk.kit (by decide) rfl,_,rfl,?_⟩;cases ht:bL T "tuple" with
 |false=>exact Yt (hq false ⟨(fun z=>nomatch z),fun⟨p,⟨b,e1,⟨y,e2,_⟩,_⟩,_⟩=>absurd e2 (Kd.tupN hk ht e1)⟩)
 |true=>
 obtain⟨a,xs,rfl,e⟩:=Kd.tupI hk ht;refine Yo ⟨_,rfl,a,xs,rfl,.inr (SqT.of e),rfl,_,rfl,X2 (fun c=>?_) (fun c=>?_)⟩
 ·refine hq false ⟨(fun z=>nomatch z),fun⟨p,⟨b,e1,⟨y,e2,_⟩,_⟩,_⟩=>?_⟩;cases e1;rw[e]at e2;cases e2;simp at c
 obtain⟨_,hy⟩:=hi a xs rfl (.inl e);have xl:xs.length=2:=by
  have:((xs.length:Nat):Int)=2:=by simpa using c
  omega
 match xs,xl,e,hy with
 | [k,n],_,e,hy=>
 have hk1:=hy k (.head _);obtain⟨Tn,hn1⟩:=(hy n (.tail _ (.head _))).g0;have inv:∀{p:(Int×Int)×Int},dq (stO or) H (.ref a) p→(∃y,k=.ref y∧KAt H y p.1)∧stO or p.1∧n=.int p.2∧1≤p.2:=fun{p} ⟨b,e1,⟨y,e2,e3⟩,o,n1⟩=>by
  cases e1;rw[e]at e2;cases e2;exact⟨⟨y,rfl,e3⟩,o,rfl,n1⟩
 refine⟨_,rfl,a,_,1,_,rfl,rfl,SqT.of e,rfl,_,_,rfl,rfl,Np rfl rfl rfl,n,Tn,1,_,rfl,hn1,_,rfl,?_⟩;have e60:(10:Int)^(60:Int).toNat=big60:=by decide +kernel
 rw[e60];cases cn:wW n 1 big60 with
 |false=>
  refine Yt (hq false ⟨(fun z=>nomatch z),fun⟨p,h,h2⟩=>?_⟩);obtain⟨_,_,q2,q3⟩:=inv h;rw[q2,Ui q3 h2]at cn;cases cn
 |true=>
 obtain⟨nv,rfl,n0,n9⟩:=Wg cn;refine Yo ⟨_,(Z4 (Zz 2 Uk.nd rfl (Or.inl rfl) (Yd Y8 (pv 0) Z2)) Zi),?_⟩;refine⟨_,rfl,a,_,0,_,rfl,rfl,SqT.of e,rfl,?_⟩;refine⟨_,(Z4 (Y4 (PW.pt (Xo (Y7 (Y6 (Zd Ys rfl aa xJ (Z0 (pv 2) (Z0 (Yr (v:=.ty "tuple") rfl ao yr rfl) Z1))))) (Xo (Zo Sf (Zd Zj rfl am x9 (Z0 (pv 2) Z1)) Z2 (Zl _)) (Xk (Y7 (Y6 (Z6 aR hr (Z0 (Yd Y8 (pv 2) Z2) (Z0 Z2 (Z0 (pv 1) Z1)))))))))) (Z8 (Zh Yw)) Zn) Zi),?_⟩;obtain⟨⟨Tk,hk2⟩,hi2⟩:=hk1;refine⟨_,rfl,_,_,"tuple",_,rfl,hk2.ty,hk2.kit (by decide) rfl,_,rfl,?_⟩;cases ht2:bL Tk "tuple" with
 |false=>
  refine Yt (hq false ⟨(fun z=>nomatch z),fun⟨p,h,_⟩=>?_⟩);obtain⟨⟨y,e1,e2⟩,_⟩:=inv h;exact absurd e2 (Kd.tupN hk2 ht2 e1)
 |true=>
 obtain⟨y,ys,rfl,ey⟩:=Kd.tupI hk2 ht2;refine Yo ⟨_,rfl,y,ys,rfl,.inr (SqT.of ey),rfl,_,rfl,X2 (fun c2=>?_) (fun c2=>?_)⟩
 ·refine hq false ⟨(fun z=>nomatch z),fun⟨p,h,_⟩=>?_⟩;obtain⟨⟨y',e1,e2⟩,_⟩:=inv h;cases e1;have e2:H y=some (.tup [.int p.1.1,.int p.1.2]):=e2;rw[ey]at e2;cases e2;simp at c2
 obtain⟨_,hy2⟩:=hi2 y ys rfl (.inl ey);have yl:ys.length=2:=by
  have:((ys.length:Nat):Int)=2:=by simpa using c2
  omega
 match ys,yl,ey,hy2 with
 | [h,i],_,ey,hy2=>
 obtain⟨Th,hh⟩:=hy2 h (.head _);obtain⟨Ti,hi1⟩:=hy2 i (.tail _ (.head _));have inv2:∀{p:(Int×Int)×Int},dq (stO or) H (.ref a) p→h=.int p.1.1∧i=.int p.1.2∧stO or p.1:=fun{p} hp=>by
  obtain⟨⟨y',e1,e2⟩,o,_⟩:=inv hp;cases e1;have e2:H y=some (.tup [.int p.1.1,.int p.1.2]):=e2;rw[ey]at e2;cases e2;exact⟨rfl,rfl,o⟩
 refine⟨_,rfl,y,_,0,_,rfl,rfl,SqT.of ey,rfl,_,rfl,h,Th,0,or,rfl,hh,_,rfl,?_⟩;cases ch:wW h 0 or with
 |false=>
  refine Yt (hq false ⟨(fun z=>nomatch z),fun⟨p,hp,_⟩=>?_⟩);obtain⟨q1,_,o⟩:=inv2 hp;rw[q1,Ui o.1 o.2.1]at ch;cases ch
 |true=>
 obtain⟨hv,rfl,h0,h1⟩:=Wg ch;refine Yo ⟨_,(Z8 (Zh (Z6 aR hr (Z0 (Yd Y8 (pv 2) Z2) (Z0 Z2 (Z0 (Zc Xm (Zc S0 Z2 (Zc Xm (pv 1) (Yd Y8 (pv 2) Z2))) Z2) Z1)))))),?_⟩;refine⟨_,rfl,y,_,1,_,rfl,rfl,SqT.of ey,rfl,_,rfl,_,rfl,y,_,0,_,rfl,rfl,SqT.of ey,rfl,_,_,rfl,rfl,_,_,rfl,rfl,⟨by omega,by omega,by decide⟩,_,_,rfl,rfl,i,Ti,0,_,rfl,hi1,?_⟩;refine hq _ ⟨fun z=>?_,fun⟨p,hp,_⟩=>?_⟩
 ·obtain⟨iv,rfl,i0,i1⟩:=Wg z;rw[zC]at i1;exact⟨((hv,iv),nv),⟨a,rfl,⟨y,e,ey⟩,⟨h0,h1,i0,by show iv<2^(or-hv).toNat;omega⟩,n0⟩,n9⟩
 ·obtain⟨q1,q2,o⟩:=inv2 hp;cases q1;rw[q2,zC];exact Ui o.2.2.1 (by have:=o.2.2.2;omega)
theorem iZ{ok:Int×Int→Prop}{H:Hp}:∀{as:List Addr}{ps:Sps},Paired (FT H) as ps→(∀p∈ps,ok p.1∧1≤p.2)→∀x∈as.map V.ref,∃p,p∈ps∧dq ok H x p
 |_,_,.cons (a:=a) (b:=p) f r,o,x,hx=>by
  rw[xu]at hx
  rcases xv.mp hx with e | m
  ·exact⟨p,.head _,a,e,f,o p (.head _)⟩
  ·obtain⟨q,hq,h⟩:=iZ r (fun p' hp=>o p' (.tail _ hp)) x m;exact⟨q,.tail _ hq,h⟩
theorem qU{H H':Hp}{d:Addr}{o:HO}(n:H d=none)(g:Grw d (upd H d o) H'):Same H H':=fun b u e=>by
 have bd:=Zk e n;exact(Z3 (g b u (by rw[Zf bd,Ze bd];exact e))).2
theorem ub(aa:mg "isinstance"=none)(ao:mg "tuple"=none)(am:mg "len"=none)(av:mg "range"=none)(aQ:mg "sum"=none)(bA:mg "dict"=none)(aR:Has P w K mg base "_law_whole" 1 ["_law_thing","_law_low","_law_high"] sJ)(dB:Has P w K mg base "_law_is_count" 2 ["_law_one","_law_deep"] vW)(aE:Has P w K mg base "_law_settle" 2 ["_law_now","_law_room","_law_deep"] dG)(F:Fun K "_law_due" "_law_due" dA f fd):FnOk P w K mg base CX0 3 f fd ["_law_thing"] rB:=by
 refine F.ok Xi (fun vs H Q E h=>?_) (fun cdv A outer s H vs Q E hr h=>?_)
 ·obtain⟨x,rfl,_⟩:=h;rfl
 obtain⟨x,rfl,⟨⟨U,hk⟩,hi⟩,hbig,hq⟩:=h;have sm0:Same H H:=Same.refl _;refine⟨_,(Z4 (Y4 (PW.pt (Xo (Y7 (Y6 (Zd Ys rfl aa xJ (Z0 (pv 0) (Z0 (Yr (v:=.ty "tuple") rfl ao yr rfl) Z1))))) (Xo (Zo Sf (Zd Zj rfl am x9 (Z0 (pv 0) Z1)) Z2 (Zl _)) (Xk (Y7 (Y6 (Zd Ys rfl aa xJ (Z0 (Yd Y8 (pv 0) Z2) (Z0 (Yr (v:=.ty "tuple") rfl ao yr rfl) Z1))))))))) (Z8 (Zh Yw)) Zn) Zi),?_⟩;refine⟨_,rfl,_,_,"tuple",_,rfl,hk.ty,hk.kit (by decide) rfl,_,rfl,?_⟩;cases ht:bL U "tuple" with
 |false=>
  refine Yt (hq false H sm0 ⟨(fun z=>nomatch z),fun⟨Au,or,ps,⟨q,e1,ld,_⟩,_⟩=>?_⟩);obtain⟨c2,as2,e2,_⟩:=ld.at_;exact absurd e2 (Kd.tupN hk ht e1)
 |true=>
 obtain⟨q,xs,rfl,e⟩:=Kd.tupI hk ht;obtain⟨_,hy⟩:=hi q xs rfl (.inl e);refine Yo ⟨_,rfl,q,xs,rfl,.inr (SqT.of e),rfl,_,rfl,X2 (fun cl=>?_) (fun cl=>?_)⟩
 ·refine hq false H sm0 ⟨(fun z=>nomatch z),fun⟨Au,or,ps,⟨q2,e1,ld,_⟩,_⟩=>?_⟩;obtain⟨c2,as2,e2,_⟩:=ld.at_;cases e1;rw[e]at e2;cases e2;simp at cl
 have xl:xs.length=4:=by
  have:((xs.length:Nat):Int)=4:=by simpa using cl
  omega
 match xs,xl,e,hy with
 | [r,d,k,t],_,e,hy=>
 have hk1:=hy k (.tail _ (.tail _ (.head _)));obtain⟨Ur,hr1⟩:=(hy r (.head _)).g0;obtain⟨Ud,hd1⟩:=(hy d (.tail _ (.head _))).g0;obtain⟨Ut,ht1⟩:=(hy t (.tail _ (.tail _ (.tail _ (.head _))))).g0;have inv:∀{Au or:Int}{ps:Sps},MadL H (.ref q) Au or ps→r=.int Au∧d=.int or∧CtsL (stO or) H k ps∧t=.int (ai ps)∧MOk Au or ps:=fun{Au or ps} ⟨q2,e1,ld,mo⟩=>by
  obtain⟨c2,as2,e2,e3,e4⟩:=ld.at_;cases e1;rw[e]at e2;simp only[Option.some.injEq,HO.tup.injEq,List.cons.injEq,and_true]at e2;obtain⟨q1,q2,q3,q4⟩:=e2;exact⟨q1,q2,⟨c2,as2,q3,e3,e4,mo.row,mo.pw⟩,q4,mo⟩
 obtain⟨⟨Uc,kc⟩,hic⟩:=hk1;refine⟨_,rfl,q,_,2,_,rfl,rfl,SqT.of e,rfl,_,_,"tuple",_,rfl,kc.ty,kc.kit (by decide) rfl,_,rfl,?_⟩;cases ht3:bL Uc "tuple" with
 |false=>
  refine Yt (hq false H sm0 ⟨(fun z=>nomatch z),fun⟨Au,or,ps,my,_⟩=>?_⟩);obtain⟨_,_,⟨c,as,e1,e2,_⟩,_⟩:=inv my;exact absurd e2 (Kd.tupN kc ht3 e1)
 |true=>
 obtain⟨cc,zs,rfl,AB⟩:=Kd.tupI kc ht3;obtain⟨zl,hrow⟩:=hic cc zs rfl (.inl AB);refine Yo ⟨_,(Z4 (Yu (pv 0) (Yv rfl (Zb (Za (i:=1) Xi.nd rfl (Or.inl rfl)) (Zb (Za (i:=2) Xi.nd rfl (Or.inr rfl)) (Zb (Za (i:=3) Xi.nd rfl (Or.inl rfl)) (Zb (Za (i:=4) Xi.nd rfl (Or.inl rfl)) Zu)))))) Zi),?_⟩;refine⟨_,rfl,q,_,rfl,SqT.of e,rfl,_,_,rfl,_,_,rfl,_,_,rfl,_,_,rfl,rfl,?_⟩;refine⟨_,(Z4 (Y4 (PW.pt (Xo (Y7 (Y6 (Z6 aR hr (Z0 (pv 1) (Z0 Z2 (Z0 Z2 Z1)))))) (Xo (Y7 (Y6 (Z6 aR hr (Z0 (pv 2) (Z0 Z2 (Z0 Z2 Z1)))))) (Xk (Y7 (Y6 (Z6 aR hr (Z0 (pv 4) (Z0 Z2 (Z0 (Zc Vs Z2 Z2) Z1)))))))))) (Z8 (Zh Yw)) Zn) Zi),?_⟩;refine⟨_,rfl,r,Ur,1,20,rfl,hr1,_,rfl,?_⟩;cases cr:wW r 1 20 with
 |false=>
  refine Yt (hq false H sm0 ⟨(fun z=>nomatch z),fun⟨Au,or,ps,my,_⟩=>?_⟩);obtain⟨q1,_,_,_,mo⟩:=inv my;rw[q1,Ui mo.r0 mo.r1]at cr;cases cr
 |true=>
 obtain⟨Au,rfl,r0,r1⟩:=Wg cr;refine Yo ⟨_,rfl,d,Ud,1,10,rfl,hd1,_,rfl,?_⟩;cases cd:wW d 1 10 with
 |false=>
  refine Yt (hq false H sm0 ⟨(fun z=>nomatch z),fun⟨Au,or,ps,my,_⟩=>?_⟩);obtain⟨_,q1,_,_,mo⟩:=inv my;rw[q1,Ui mo.d0 mo.d1]at cd;cases cd
 |true=>
 obtain⟨or,rfl,d0,d1⟩:=Wg cd;refine Yo ⟨_,rfl,_,_,rfl,rfl,Np rfl rfl rfl,t,Ut,0,_,rfl,ht1,_,rfl,?_⟩;have e60:(10:Int)^(60:Int).toNat=big60:=by decide +kernel
 rw[e60];cases ct:wW t 0 big60 with
 |false=>
  refine Yt (hq false H sm0 ⟨(fun z=>nomatch z),fun⟨Au,or,ps,my,_⟩=>?_⟩);have hb:=hbig _ _ _ my;obtain⟨_,_,_,q1,mo⟩:=inv my;rw[q1,Ui (Su fun p hp=>(mo.row p hp).2).1 hb]at ct;cases ct
 |true=>
 obtain⟨tot,rfl,t0,t1⟩:=Wg ct;refine Yo ⟨_,(Z4 (Y4 (Zo Rp (Zd Zj rfl am x9 (Z0 (Xg (own:=["_law_one"]) (Sq rfl rfl) (Vo (pv 3))
  (fun _ _ _ _ _=>(Za (i:=0) Sn rfl (Or.inl rfl) (Or.inr rfl))) (fun _ _ _ _ _=>(Sw (Y7 (Y6 (Z6 dB hr (Z0 (pv 0) (Z0 (pv 3) Z1)))))))
  (fun _ _ _ _ _=>(pv 0))) Z1)) Z2 (Zl _)) (Z8 (Zh Yw)) Zn) Zi),?_⟩
 refine⟨_,rfl,cc,rfl,⟨_,SqT.of AB⟩,?_⟩;refine W8 (xs:=zs) (fun n ys H'=>H'=H∧ys.length≤n∧(ys=[]↔∀y∈zs.take n,∃p,dq (stO or) H y p∧p.2≤big60)) ⟨rfl,Nat.le_refl _,fun _ y hy=>by simp at hy,fun _=>rfl⟩ ?_ ?_ ?_
 ·intro n ys H' _ h;rw[h.1];exact SqT.of AB
 ·intro n y ys H' C hx ⟨eH,yl,hys⟩ hC;subst eH;have nl:=(xo.mp hx).1;refine⟨Zx (by omega),Wk.refl _,_,rfl,_,rfl,y,or,rfl,hrow y (xL hx),d0,d1,fun b iff=>⟨_,rfl,?_⟩⟩;cases b with
  |true=>
   refine Yo (hC _ _ ⟨rfl,by omega,?_⟩);rw[Yl hx,hys];constructor
   ·intro h y' hy'
    rcases xM.mp hy' with m | m
    ·exact h y' m
    ·rw[xq.mp m];exact iff.mp rfl
   ·exact fun h y' m=>h y' (yy _ m)
  |false=>
   refine Yt ⟨_,rfl,hC _ _ ⟨rfl,by rw[xn];exact Nat.succ_le_succ yl,?_⟩⟩;rw[Yl hx];constructor
   ·intro h;simp at h
   ·intro h;exact absurd (iff.mpr (h y (xA _ (.head _)))) xw
 intro ys H' ⟨eH,yl,hys⟩;subst eH;rw[yc]at hys;refine⟨Zq (by omega),fun p np=>⟨p,_,rfl,.inl (SqL.of Z7),_,_,rfl,rfl,_,rfl,X2 (fun cy=>?_) (fun cy=>?_)⟩⟩
 ·refine hq false _ (Z9 np _) ⟨(fun z=>nomatch z),fun⟨room',deep',ps,my,_⟩=>?_⟩;have hb:=hbig _ _ _ my;obtain⟨_,q2,⟨c,as,e1,e2,pr,pk,_⟩,_,mo⟩:=inv my;cases q2;cases e1;rw[AB]at e2;have e2:=HO.tup.inj (xK e2);have sp:=(Su fun p hp=>(pk p hp).2).2;have:ys=[]:=hys.mpr fun y hy=>by
   rw[e2]at hy;obtain⟨p,hp,h⟩:=iZ pr pk y hy;exact⟨p,h,Int.le_trans (sp p hp) hb⟩
  rw[this]at cy;simp at cy
 have ye:ys=[]:=by
  cases ys with
  |nil=>rfl
  |cons y ys=>
   refine absurd (xB ?_) cy;show((List.length (y::ys):Nat):Int) > 0;rw[xD];omega
 obtain⟨as,ps,rfl,pr,pk⟩:=O7 (ok:=stO or) (xs:=zs) fun y hy=>let ⟨p,h,_⟩:=hys.mp ye y hy;⟨p,h⟩
 have al:=xG pr;rw[xh]at zl;have uni:∀{room' deep':Int}{Ax:Sps},MadL H' (.ref q) room' deep' Ax→room'=Au∧deep'=or∧Ax=ps∧tot=ai ps∧MOk Au or ps:=fun{room' deep' Ax} my=>by
  obtain⟨q1,q2,⟨c,as',e1,e2,pr',_⟩,q4,mo⟩:=inv my;cases q1;cases q2;cases e1;rw[AB]at e2;cases Vm (HO.tup.inj (xK e2));cases Tl pr pr';cases q4;exact⟨rfl,rfl,rfl,rfl,mo⟩
 have g1:=Z9 np (.lst ys);generalize upd H' p (.lst ys)=H1 at g1⊢;have dy:=g1 _ _ AB;have pr1:=Paired.mapP pr fun _ _ f=>Yb g1 f;clear hys cy ye yl np;refine⟨_,(Z4 (Xl yx rfl (kj rfl av (Z0 Z2 (Z0 (Zd Zj rfl am x9 (Z0 (pv 3) Z1)) Z1))) (Za (i:=5) Xi.nd rfl (Or.inl rfl))
 (Z8 (Y4 (Y7 (Zo (iR K rfl (Vf hr)) (Yd Y8 (Yd Y8 (pv 3) (Zc Xm (pv 5) Z2)) Z2) (Yd Y8 (Yd Y8 (pv 3) (pv 5)) Z2) (Zl _))) (Z8 (Zh Yw)) Zn))) Zi),?_⟩
 refine⟨_,rfl,cc,_,rfl,.inr (SqT.of dy),1,_,rfl,⟨by decide,by decide,by rw[xh];omega,by rw[xh];omega⟩,?_⟩;refine Xe (lo:=1) (n:=(((as.map V.ref).length:Int)-1).toNat) (fun i σ G=>G=H1∧(∃o5:Option V,σ=[some (.ref q),some (.int Au),some (.int or),some (.ref cc),some (.int tot),o5,none,none])∧∀(n:Nat) a b,n<i→(ps.map (·.1))[n]?=some a→(ps.map (·.1))[n+1]?=some b→ltK a b) ⟨rfl,⟨_,rfl⟩,fun n a b h=>absurd h (Aq n)⟩ ?_ ?_
 ·rintro i σ G N B1 R1 hN hR hi' ⟨eG,⟨o5,rfl⟩,hadj⟩;rw[xh]at hi';have i1:i<(as.map V.ref).length:=by rw[xh];omega
  have i2:i+1<(as.map V.ref).length:=by rw[xh];omega
  have h1:=xz i1;have h2:=xz i2;obtain⟨a1,p1,x1,g1',b1,f1,k1⟩:=W7 pr1 h1;obtain⟨a2,p2,x2,g2',b2,f2,k2⟩:=W7 pr1 h2;rw[x1]at h1;rw[x2]at h2;have t1:atI (as.map V.ref) (1+(i:Int)-1)=some (.ref a1):=by
   rw[show(1+(i:Int)-1)=((i:Nat):Int) by omega];exact Ug h1
  have t2:atI (as.map V.ref) (1+(i:Int))=some (.ref a2):=by
   rw[show(1+(i:Int))=((i+1:Nat):Int) by omega];exact Ug h2
  rw[eG];refine⟨_,rfl,_,rfl,_,_,rfl,rfl,cc,_,_,_,rfl,rfl,SqT.of dy,t1,a1,_,0,_,rfl,rfl,SqT.of f1,rfl,_,rfl,_,rfl,cc,_,_,_,rfl,rfl,SqT.of dy,t2,a2,_,0,_,rfl,rfl,SqT.of f2,rfl,b1,b2,[p1.1.1,p1.1.2],[p2.1.1,p2.1.2],rfl,rfl,SqT.of k1,SqT.of k2,_,rfl,?_⟩;have q1:(ps.map (·.1))[i]?=some p1.1:=by rw[xE,g1'];rfl
  have q2:(ps.map (·.1))[i+1]?=some p2.1:=by rw[xE,g2'];rfl
  cases cl:HT.lexLt [p1.1.1,p1.1.2] [p2.1.1,p2.1.2] with
  |true=>
   refine Yo (hN _ _ ⟨rfl,⟨_,rfl⟩,fun n a b hn ha hb=>?_⟩);by_cases ni:n=i
   ·subst ni;rw[q1]at ha;rw[q2]at hb;cases ha;cases hb;exact On.mp cl
   ·exact hadj n a b (by omega) ha hb
  |false=>
   refine Yt (hR _ _ (hq false _ g1 ⟨(fun z=>nomatch z),fun⟨room',deep',Ax,my,_⟩=>?_⟩));obtain⟨_,_,_,_,mo⟩:=uni my;have:=On.mpr (Nn mo.pw q1 q2 (z5 i));rw[cl]at this;cases this
 rintro σ G ⟨eG,⟨o5,rfl⟩,hadj⟩;subst eG;have pw:(ps.map (·.1)).Pairwise ltK:=gI fun n a b ha hb=>hadj n a b (by
  have:=(xo.mp hb).1;rw[xh]at this;rw[xh];omega) ha hb
 clear hadj;refine⟨_,(V4 7 (V4 6 (Z4 (Y4 (Zo Sf (Zd (V1 rfl) rfl aQ ze (Z0 (m3 ["_law_thing","_law_room","_law_deep","_law_counts_here","_law_total","_law_k","#6","#7"] (Xg (own:=["_law_stretch","_law_count"]) (Sq rfl rfl) (Vo (pv 3))
  (fun _ _ _ _ _=>(V5 K 2 rfl rfl (Zb (Za (i:=0) Ve rfl (Or.inl rfl) (Or.inr rfl)) (Zb (Za (i:=1) Ve rfl (Or.inl rfl) (Or.inr rfl)) Zu)))) (fun _ _ _ _ _=>W9)
  (fun _ _ _ _ _=>(pv 1)))) Z1)) (pv 4) (Zl _)) (Z8 (Zh Yw)) Zn) Zi))),?_⟩
 refine⟨⟨.inl rfl,.inl rfl,.inl rfl,.inl rfl,.inl rfl,.inl rfl,.inr rfl,.inr rfl,trivial⟩,_,rfl,cc,rfl,⟨_,SqT.of dy⟩,?_⟩;refine W8 (xs:=as.map V.ref) (fun n ys G'=>G'=G∧ys=((ps.take n).map (·.2)).map V.int) ⟨rfl,rfl⟩ ?_ ?_ ?_
 ·intro n ys G' _ h;rw[h.1];exact SqT.of dy
 ·rintro n x ys G' C hx ⟨eG,rfl⟩ hC;subst eG;obtain⟨b,p,rfl,hp,b',e1,e2⟩:=W7 pr1 hx;have nl:=(xo.mp hp).1;refine⟨Zx (by rw[xh,xh,yn];omega),b,_,rfl,SqT.of e1,rfl,_,_,rfl,_,_,rfl,rfl,Wk.refl _,_,rfl,hC _ _ ⟨rfl,?_⟩⟩;rw[Yl hp,xN,xN];rfl
 rintro ys G' ⟨eG,rfl⟩;subst eG;rw[show(as.map V.ref).length=ps.length by rw[xh];exact al,yc];refine⟨Zq (by rw[xh,xh];omega),fun p2 np2=>⟨p2,_,rfl,SqL.of Z7,_,rfl,rfl,_,rfl,X2 (fun cs=>?_) (fun cs=>?_)⟩⟩
 ·refine hq false _ (g1.trans (Z9 np2 _)) ⟨(fun z=>nomatch z),fun⟨room',deep',Ax,my,_⟩=>?_⟩;obtain⟨_,_,_,q4,_⟩:=uni my;rw[q4]at cs;simp[ai]at cs
 have ts:ai ps=tot:=by
  unfold ai;simpa using cs
 have g2:=g1.trans (Z9 np2 (.lst ((ps.map (·.2)).map V.int)));generalize upd G' p2 (.lst ((ps.map (·.2)).map V.int))=H2 at g2⊢;have kJ:=g2 _ _ AB;have pr2:=Paired.mapP pr fun _ _ f=>Yb g2 f;have mad:MadL H' (.ref q) Au or ps:=⟨q,rfl,⟨cc,as,by rw[ts];exact e,AB,pr⟩,r0,r1,d0,d1,pk,pw⟩;clear cs pr1 dy np2;refine⟨_,(Z4 (Xl yx rfl (Vo (pv 3)) (Yv rfl (Zb (Za (i:=6) Xi.nd rfl (Or.inl rfl)) (Zb (Za (i:=7) Xi.nd rfl (Or.inl rfl)) Zu)))
 (Z8 (Y4 (PW.pt (Rj (Zo Rp (Yd Y8 (pv 6) Z2) Z2 (Zl _)) (Td (Zo Rp (pv 7) (Zc Xr (pv 4) (pv 1)) (Zl _))))) (Z8 (Zh Yw)) Zn))) Zi),?_⟩
 refine⟨_,rfl,cc,rfl,⟨_,SqT.of kJ⟩,?_⟩;refine oz (xs:=as.map V.ref) (fun i σ G=>G=H2∧(∃o5 o6 o7:Option V,σ=[some (.ref q),some (.int Au),some (.int or),some (.ref cc),some (.int tot),o5,o6,o7])∧∀p∈ps.take i,0<p.1.1→p.2≤ai ps / Au) ⟨rfl,⟨_,_,_,rfl⟩,fun p hp=>by simp at hp⟩ ?_ ?_ ?_
 ·intro i σ G _ h;rw[h.1];exact SqT.of kJ
 ·rintro i x σ G N B1 R hN hR hx ⟨eG,⟨o5,o6,o7,rfl⟩,hb⟩;obtain⟨a,p,rfl,hp,b,AE,Ay⟩:=W7 pr2 hx;rw[eG];refine⟨a,_,rfl,SqT.of AE,rfl,_,_,rfl,_,_,rfl,rfl,?_⟩;refine⟨_,rfl,b,_,0,_,rfl,rfl,SqT.of Ay,rfl,_,_,rfl,rfl,_,rfl,?_⟩;have ok:(0<p.1.1→p.2≤ai ps / Au)→∀p'∈ps.take (i+1),0<p'.1.1→p'.2≤ai ps / Au:=fun h p' hp'=>by
   rw[Yl hp]at hp'
   rcases xM.mp hp' with m | m
   ·exact hb p' m
   ·rw[xq.mp m];exact h
  by_cases c:p.1.1 > 0
  ·rw[xB c];refine Yt ⟨_,rfl,_,rfl,_,rfl,_,_,rfl,rfl,⟨by omega,by omega⟩,_,_,rfl,rfl,_,rfl,?_⟩;by_cases c2:p.2 > tot / Au
   ·rw[xB c2];refine Yt (hR _ _ (hq false _ g2 ⟨(fun z=>nomatch z),fun⟨room',deep',Ax,my,_,h⟩=>?_⟩));obtain⟨rfl,rfl,rfl,_⟩:=uni my;have:=h p (xL hp) c;rw[ts]at this;omega
   ·rw[yk c2];exact Yo (hN _ _ ⟨rfl,⟨_,_,_,rfl⟩,ok fun _=>by rw[ts];omega⟩)
  ·rw[yk c];exact Yo (hN _ _ ⟨rfl,⟨_,_,_,rfl⟩,ok fun z=>absurd z c⟩)
 rintro σ G ⟨eG,⟨o5,o6,o7,rfl⟩,hb⟩;subst eG;rw[xh,al,yc]at hb;refine⟨_,(Z8 (Zh (Xq (m8 hr.units) (Z6 aE hr (Z0 (Ym (Sm rfl hr.units) rfl bA PyProof.Rows.boot_dict (Z0 (pv 3) Z1)) (Z0 (pv 1) (Z0 (pv 2) Z1)))) (Zv Z1) (Zl _)))),?_⟩;have nd:((aj ps).map (·.1)).Nodup:=by
  rw[Qy];exact yY.mpr ((gf pw).imp fun h e=>h (S5 e))
 refine⟨_,rfl,cc,_,_,rfl,kJ,mU pr2,by rw[Yp];omega,fun dd n_dd=>?_⟩;rw[dW nd];have kok:Kok or (ps.map (·.1)):=⟨gf pw,fun k hk=>by
  obtain⟨p,hp,rfl⟩:=xI.mp hk;exact(pk p hp).1⟩
 refine⟨_,rfl,_,rfl,dd,Au,or,ps,rfl,Z7,kok,r0,r1,by omega,by omega,by omega,fun t' H3 fs qs g3 nt ed ft fl st _ _=>⟨leN rfl,fun z nz=>?_⟩⟩;have g4:=g2.trans ((qU n_dd g3).trans (Z9 nz (.lst [])));have ft:=ft.same (Z9 nz (.lst []));have e_z:(upd H3 z (.lst [])) z=some (.lst []):=Z7;generalize upd H3 z (.lst [])=H4 at g4 ft e_z⊢;refine⟨_,_,ft.dv,.lst e_z .nil,X8 (S7 fs) (by decide),X8 Oh (by decide),?_⟩;rw[Ou];refine hq _ _ g4 ?_;rw[Pe,pK st];constructor
 ·exact fun n=>⟨Au,or,ps,mad,n,hb⟩
 ·rintro⟨room',deep',Ax,my,n,_⟩;obtain⟨rfl,rfl,rfl,_⟩:=uni my;exact n
end K24
namespace L2
open PySem PySem.Spec PyProof.Rows
def vK(d:PyData):Prop:=d.showable=true∧d.hasDict=false∧d.depth≤20∧d.shown.length≤sizeLine
def rV:List V→Hp→VK→Prop:=fun xs H Q=>∃(v:V)(d:PyData),xs=[v]∧DV H v d∧vK d∧Q (.str d.shown) H
section
variable{X:Cx}
theorem kB(hg:X.A.guards=some [])(hu:X.A.units+64<cLine):aH X (.builtin "repr") rV:=by
 intro Av s σ H xs us Q I rx h;obtain⟨v,d,rfl,dv,⟨h1,h2,h3,h4⟩,q⟩:=h;obtain⟨u,rfl,ru⟩:=X6 rx;obtain⟨as,rd⟩:=dv.reads I ru;have fin:∀(h':Heap)(t:Tok)(tk:Nat),(∀b o,s.heap.get? b=some o→h'.get? b=some o)→∃x H',Inv X Av σ H' {s with heap:=h',toks:=tk}∧RelV x (.str d.shown t)∧Q x H':=fun h' t tk k=>⟨.str d.shown,H,I.kept k,⟨t,rfl⟩,q⟩;cases dv with
 |non=>
  cases ru;exact P.repr_of_none (fin s.heap _ _ fun _ _ e=>e)
 |bl b=>
  cases ru;exact P.repr_of_bool (fin s.heap _ _ fun _ _ e=>e)
 |int i=>
  obtain⟨t,rfl⟩:=ru;exact P.repr_of_int (xy h1) (fin s.heap _ _ fun _ _ e=>e)
 |str x=>
  obtain⟨t,rfl⟩:=ru;exact P.repr_of_str (fin s.heap _ _ fun _ _ e=>e) h4
 |lst e r=>
  cases ru;exact repr_of_reads' rd h1 (fun z=>by rw[h2]at z;cases z) hg (by omega) (fun _ _ e=>e) (fun h' t tk k=>fin h' t tk k) h4
 |tup e r=>
  cases ru;exact repr_of_reads' rd h1 (fun z=>by rw[h2]at z;cases z) hg (by omega) (fun _ _ e=>e) (fun h' t tk k=>fin h' t tk k) h4
end
def nA:List V→Hp→VK→Prop:=fun xs H Q=>rV xs H Q∨∃a:Addr,xs=[.ref a]∧H a=some (.dK [])∧Q (.str (PyData.shown (.dict []))) H
section
variable{X:Cx}
theorem Qe(hg:X.A.guards=some [])(hu:X.A.units+64<cLine):aH X (.builtin "repr") nA:=by
 intro Av s σ H xs us Q I rx h
 rcases h with h | ⟨a,rfl,e,q⟩
 ·exact kB hg hu Av s σ H xs us Q I rx h
 obtain⟨u,rfl,ru⟩:=X6 rx;obtain⟨_,hs,vs,kv,o,es,ep,e1,e2,e3,e4,e5,_⟩:=se I.hok e;cases kv;have es0:es.toList=[]:=List.length_eq_zero_iff.mp e5.length;have rd:Reads s.heap (.ref a) (.dict []) [a]:=.dict (as:=[]) (bs:=[]) e1 e2.1 e3 (by rw[es0];exact .nil) (by rw[es0];exact .nil);cases ru;refine repr_of_reads' rd rfl (fun _ m=>?_) hg (by show X.A.units+(1+1)<_;omega) (fun _ _ e=>e) (fun h' t tk k=>⟨.str (PyData.shown (.dict [])),H,I.kept k,⟨t,rfl⟩,q⟩) (by decide +kernel);have:sysModules=a:=by simpa using m
 rw[this]at hs;simp at hs
end
section
variable{X:Cx}
theorem j0:aH X (.type "str") (fun xs H Q=>∃i:Int,xs=[.int i]∧i.natAbs<2^200∧Q (.str (Str.ofString (toString i))) H):=by
 intro Av s σ H xs us Q I r h;obtain⟨i,rfl,hi,q⟩:=h;obtain⟨u,rfl,ru⟩:=X6 r;obtain⟨t,rfl⟩:=ru;refine PySem.P.str_of_int ?_ ⟨.str _,H,I.tok _,⟨_,rfl⟩,q⟩;by_cases h0:i.natAbs=0
 ·rw[h0];decide
 ·have:=(Nat.log2_lt h0).mpr hi;omega
end
end L2
namespace K24
open PySem L2 Ld
def Lv:Nat→Nat
 | 1=>1
 | 2=>3
 | 3=>2
 | 4=>30
 |_=>5
def Fit:Nat→PyData→Prop
 |_,.none=>True
 |_,.bool _=>True
 |_,.int i=>-big60≤i∧i≤big60
 |_,.str z=>z.length≤100∧z.cps.toList.all (fun c=>decide (c<16^8))=true
 |n+1,.list ds=>ds.length≤Lv (n+1)∧∀d∈ds,Fit n d
 |n+1,.tuple ds=>ds.length≤Lv (n+1)∧∀d∈ds,Fit n d
 |_,_=>False
def Wt:Nat→Nat
 | 0=>200
 |n+1=>Lv (n+1)*(Wt n+1)
theorem lv1(n:Nat):1≤Lv n∧Lv n≤30:=by
 unfold Lv
 split <;> decide
theorem rO:∀n,200≤Wt n
 | 0=>xj _
 |n+1=>by
  have h:=rO n;have:1*(Wt n+1)≤Lv (n+1)*(Wt n+1):=Nat.mul_le_mul_right _ (lv1 _).1;show 200≤Lv (n+1)*(Wt n+1);omega
def Ft(n:Nat)(d:PyData):Prop:=d.weight≤Wt n∧d.depth≤n∧d.showable=true∧d.hasDict=false∧d.leavesShort 70=true
theorem gK{n:Nat}:∀{ds:List PyData},(∀d∈ds,Ft n d)→PyData.weightAll ds≤ds.length*(Wt n+1)∧PyData.depthAll ds≤n∧PyData.showableAll ds=true∧PyData.hasDictAll ds=false∧PyData.leavesShortAll 70 ds=true
 | [],_=>by simp[PyData.weightAll,PyData.depthAll,PyData.showableAll,PyData.hasDictAll,PyData.leavesShortAll]
 |d::ds,h=>by
  obtain⟨a1,a2,a3,a4,a5⟩:=h d (.head _);obtain⟨b1,b2,b3,b4,b5⟩:=gK fun x hx=>h x (.tail _ hx);refine⟨?_,?_,?_,?_,?_⟩
  ·simp only[PyData.weightAll,List.length_cons,Nat.add_mul,Nat.one_mul];omega
  ·simp only[PyData.depthAll];omega
  ·simp[PyData.showableAll,a3,b3]
  ·simp[PyData.hasDictAll,a4,b4]
  ·simp[PyData.leavesShortAll,a5,b5]
theorem kN{i:Int}(h:-big60≤i∧i≤big60):(PyData.shown (.int i)).length≤70:=by
 have h2:i.natAbs<10^61:=by
  have e:((10:Nat)^61:Nat)=10*big60.natAbs:=by decide +kernel
  have e2:(big60.natAbs:Int)=big60:=by decide +kernel
  rw[e];have e3:(0:Int)<big60:=by decide +kernel
  omega
 have e:=int_text_length_le10 (k:=61) (by decide) h2;show(Str.ofString (toString i)).length≤70;rw[ofString_length];omega
theorem eW{i:Int}(h:-big60≤i∧i≤big60):i.natAbs<2^200:=by
 have e:big60.natAbs<2^200:=by decide +kernel
 have e2:(big60.natAbs:Int)=big60:=by decide +kernel
 have:i.natAbs≤big60.natAbs:=by omega
 omega
theorem qD{i:Int}(h:-big60≤i∧i≤big60):i.natAbs.log2<200:=by
 by_cases h0:i.natAbs=0
 ·rw[h0];decide
 ·exact(Nat.log2_lt h0).mpr (eW h)
theorem eF(z:String):(Str.ofString z).cps.toList.all (fun c=>decide (c<16^8))=true:=by
 have h:∀c∈(Str.ofString z).cps.toList,c<16^8:=fun c hc=>by
  have hc:c∈(z.toList.map Char.toNat):=by rw[Str.ofString_eq_toList]at hc;simpa using hc
  obtain⟨x,_,rfl⟩:=xI.mp hc;have:=x.val.toNat_lt;show x.val.toNat<_;have e:(16:Nat)^8=2^32:=by decide
  omega
 exact yL.mpr fun c hc=>xB (h c hc)
theorem tI:∀{n:Nat}{d:PyData},Fit n d→Ft n d:=by
 have leaf:∀{n:Nat}{d:PyData},(∀ds,d≠.list ds)→(∀ds,d≠.tuple ds)→Fit n d→Ft n d:=fun{n d} h1 h2 h=>by
  have w:=rO n;cases d with
  |none=>exact⟨yh _,yh _,rfl,rfl,rfl⟩
  |bool b=>exact⟨yh _,yh _,rfl,rfl,rfl⟩
  |int i=>
   have h:-big60≤i∧i≤big60:=by cases n <;> exact h
   have l:=qD h;refine⟨?_,yh _,xB (by omega),rfl,xB (kN h)⟩;simp only[PyData.weight]
   split <;> omega
  |str z=>
   have h:z.length≤100∧z.cps.toList.all (fun c=>decide (c<16^8))=true:=by cases n <;> exact h
   refine⟨?_,yh _,rfl,rfl,h.2⟩;have e:z.length=z.cps.size:=rfl;simp only[PyData.weight];omega
  |list ds=>exact absurd rfl (h1 ds)
  |tuple ds=>exact absurd rfl (h2 ds)
  |dict kvs=>cases n <;> exact h.elim
 intro n
 induction n with
 |zero=>
  intro d h;cases d with
  |list ds=>exact h.elim
  |tuple ds=>exact h.elim
  |_=>exact leaf (fun _ z=>nomatch z) (fun _ z=>nomatch z) h
 |succ n ih=>
  intro d h;cases d with
  |list ds=>
   have h:ds.length≤Lv (n+1)∧∀d∈ds,Fit n d:=h;obtain⟨b1,b2,b3,b4,b5⟩:=gK fun d hd=>ih (h.2 d hd);refine⟨xZ b1 (Nat.mul_le_mul_right _ h.1),?_,b3,b4,b5⟩;simp only[PyData.depth];omega
  |tuple ds=>
   have h:ds.length≤Lv (n+1)∧∀d∈ds,Fit n d:=h;obtain⟨b1,b2,b3,b4,b5⟩:=gK fun d hd=>ih (h.2 d hd);refine⟨xZ b1 (Nat.mul_le_mul_right _ h.1),?_,b3,b4,b5⟩;simp only[PyData.depth];omega
  |_=>exact leaf (fun _ z=>nomatch z) (fun _ z=>nomatch z) h
theorem pH{d:PyData}(h:Fit 5 d):vK d:=by
 obtain⟨h1,h2,h3,h4,h5⟩:=tI h;refine⟨h3,h4,by omega,?_⟩;have h6:=PyData.shown_le 70 (by decide) d h5;have h1:d.weight≤182255:=h1;rw[sizeLine_eq];omega
def Fx(n:Nat)(H:Hp)(v:V):Prop:=∃d,DV H v d∧Fit n d
theorem Fx.mono{H H':Hp}(g:Same H H'){n:Nat}{v:V}(h:Fx n H v):Fx n H' v:=let ⟨d,h1,h2⟩:=h;⟨d,h1.mono g,h2⟩
theorem Fx.int{H:Hp}{n:Nat}{i:Int}(h:-big60≤i∧i≤big60):Fx n H (.int i):=⟨.int i,.int i,by cases n <;> exact h⟩
theorem Fx.bl{H:Hp}{n:Nat}{b:Bool}:Fx n H (.bl b):=⟨.bool b,.bl b,by cases n <;> trivial⟩
theorem Fx.non{H:Hp}{n:Nat}:Fx n H .non:=⟨.none,.non,by cases n <;> trivial⟩
theorem Fx.str{H:Hp}{n:Nat}{z:Str}(h:z.length≤100)(h2:z.cps.toList.all (fun c=>decide (c<16^8))=true):Fx n H (.str z):=⟨.str z,.str z,by cases n <;> exact⟨h,h2⟩⟩
theorem f7{n:Nat}{H:Hp}:∀{vs:List V},(∀v∈vs,Fx n H v)→∃ds,DVs H vs ds∧ds.length=vs.length∧∀d∈ds,Fit n d
 | [],_=>⟨[],.nil,rfl,fun _ h=>nomatch h⟩
 |v::vs,h=>by
  obtain⟨d,h1,h2⟩:=h v (.head _);obtain⟨ds,r,l,q⟩:=f7 fun x hx=>h x (.tail _ hx);refine⟨d::ds,.cons h1 r,by rw[xD,xD,l],fun x hx=>?_⟩
  rcases xv.mp hx with e | m
  ·rw[e];exact h2
  ·exact q x m
theorem Fx.tup{n:Nat}{H:Hp}{p:Addr}{vs:List V}(e:H p=some (.tup vs))(l:vs.length≤Lv (n+1))(h:∀v∈vs,Fx n H v):Fx (n+1) H (.ref p):=by
 obtain⟨ds,r,l2,q⟩:=f7 h;exact⟨.tuple ds,.tup e r,by rw[l2];exact l,q⟩
theorem Fx.lst{n:Nat}{H:Hp}{p:Addr}{vs:List V}(e:H p=some (.lst vs))(l:vs.length≤Lv (n+1))(h:∀v∈vs,Fx n H v):Fx (n+1) H (.ref p):=by
 obtain⟨ds,r,l2,q⟩:=f7 h;exact⟨.list ds,.lst e r,by rw[l2];exact l,q⟩
theorem R4{H:Hp}:∀{vs:List V}{ds:List PyData},DVs H vs ds→vs.length=ds.length∧∀v∈vs,∃d∈ds,DV H v d
 |_,_,.nil=>⟨rfl,fun _ h=>nomatch h⟩
 |_,_,.cons h r=>by
  obtain⟨l,q⟩:=R4 r;refine⟨by rw[xD,xD,l],fun v hv=>?_⟩
  rcases xv.mp hv with e | m
  ·exact⟨_,.head _,by rw[e];exact h⟩
  ·obtain⟨d,hd,x⟩:=q v m;exact⟨d,.tail _ hd,x⟩
theorem rJ{H:Hp}{v:V}{d:PyData}(h:DV H v d):G0 H v:=by
 cases h with
 |non=>exact⟨_,.non⟩
 |bl b=>exact⟨_,.bl b⟩
 |int i=>exact⟨_,.int i⟩
 |str z=>exact⟨_,.str z⟩
 |lst e _=>exact⟨_,.lst e⟩
 |tup e _=>exact⟨_,.tup e⟩
theorem vv{H:Hp}:∀{m n:Nat}{v:V},Fx n H v→Gn m H v:=by
 intro m
 induction m with
 |zero=>exact fun⟨d,h,_⟩=>rJ h
 |succ m ih=>
  intro n v ⟨d,h,f⟩;refine⟨rJ h,fun a xs ex e=>?_⟩;subst ex;have go:∀{vs:List V}{ds:List PyData},DVs H vs ds→(∃k,ds.length≤Lv (k+1)∧∀d∈ds,Fit k d)→vs.length≤60∧∀y∈vs,Gn m H y:=fun{vs ds} r ⟨k,l,q⟩=>by
   obtain⟨l2,q2⟩:=R4 r;have:=(lv1 (k+1)).2;refine⟨by omega,fun y hy=>?_⟩;obtain⟨d,hd,x⟩:=q2 y hy;exact ih ⟨d,x,q d hd⟩
  cases h with
  |lst e1 r=>
   rcases e with e | e
   ·rw[e1]at e;cases e
   ·rw[e1]at e;cases e;cases n with
    |zero=>exact f.elim
    |succ n=>exact go r ⟨n,f⟩
  |tup e1 r=>
   rcases e with e | e
   ·rw[e1]at e;cases e;cases n with
    |zero=>exact f.elim
    |succ n=>exact go r ⟨n,f⟩
   ·rw[e1]at e;cases e
theorem tz{H:Hp}{v:V}(h:Fx 5 H v){Au or:Int}{ps:Sps}(m:MadL H v Au or ps):ai ps≤big60:=by
 obtain⟨q,rfl,ld,_⟩:=m;obtain⟨c,as,e,_⟩:=ld.at_;obtain⟨d,h,f⟩:=h;cases h with
 |lst e1 r=>rw[e]at e1;cases e1
 |tup e1 r=>
  rw[e]at e1;cases e1;obtain⟨_,q2⟩:=R4 r;obtain⟨d,hd,x⟩:=q2 (.int (ai ps)) (.tail _ (.tail _ (.tail _ (.head _))));cases x;have:=f.2 _ hd;exact this.2
def Bnt(H:Hp)(v:V):Prop:=Fx 5 H v∨∃a,v=.ref a∧H a=some (.dK [])
theorem Bnt.mono{H H':Hp}(g:Same H H'){v:V}(h:Bnt H v):Bnt H' v:=h.imp (fun h=>h.mono g) fun⟨a,e,q⟩=>⟨a,e,g _ _ q⟩
theorem Bnt.gn{H:Hp}{v:V}{m:Nat}(h:Bnt H v):Gn m H v:=by
 rcases h with h | ⟨a,rfl,e⟩
 ·exact vv h
 ·cases m with
  |zero=>exact⟨_,.dK e⟩
  |succ m=>exact⟨⟨_,.dK e⟩,fun b xs eb h=>by cases eb;rw[e]at h;rcases h with h | h <;> cases h⟩
theorem Bnt.big{H:Hp}{v:V}(h:Bnt H v){Au or:Int}{ps:Sps}(m:MadL H v Au or ps):ai ps≤big60:=by
 rcases h with h | ⟨a,rfl,e⟩
 ·exact tz h m
 ·obtain⟨q,eq,ld,_⟩:=m;obtain⟨c,as,e1,_⟩:=ld.at_;cases eq;rw[e]at e1;cases e1
theorem Bnt.shw{H:Hp}{v:V}(h:Bnt H v):∃z:Str,∀{H':Hp}{Q:VK},Same H H'→Q (.str z) H'→nA [v] H' Q:=by
 rcases h with⟨d,h,f⟩|⟨a,rfl,e⟩
 ·exact⟨d.shown,fun{H' Q} g q=>.inl ⟨v,d,rfl,h.mono g,pH f,q⟩⟩
 ·exact⟨_,fun{H' Q} g q=>.inr ⟨a,rfl,g _ _ e,q⟩⟩
theorem Zm{P:V→Prop}:∀x∈([]:List V),P x:=fun _ h=>nomatch h
theorem Z5{P:V→Prop}{v:V}{vs:List V}(h:P v)(r:∀x∈vs,P x):∀x∈v::vs,P x:=fun x hx=>by
 rcases xv.mp hx with e | m
 ·rw[e];exact h
 ·exact r x m
theorem Vc{P:V→Prop}{vs ws:List V}(h:∀x∈vs,P x)(r:∀x∈ws,P x):∀x∈vs++ws,P x:=fun x hx=>by
 rcases xM.mp hx with m | m
 ·exact h x m
 ·exact r x m
def Fz(H:Hp)(v:V):Prop:=∀k,Fx (k+1) H v
theorem Fz.mono{H H':Hp}(g:Same H H'){v:V}(h:Fz H v):Fz H' v:=fun k=>(h k).mono g
def lF(K:W.Frag):Sp:=fun vs H Q _=>∃(a S:Addr)(ns:List Int)(n:Int),vs=[.ref a,.int n]∧Pn K S ns H a∧0≤n∧n+1≤big60∧∀(v:V)(H':Hp),Fz (ag a H') v→Pn K S ns H' a→Grw a H H'→Q v H'
def wQ(K:W.Frag):Sp:=fun vs H Q _=>∃(a S r:Addr)(ns:List Int)(p:(Int×Int)×Int),vs=[.ref a,.ref r]∧Pn K S ns H a∧FT (ag a H) r p∧(0≤p.1.1∧p.1.1+1≤big60)∧(0≤p.1.2∧p.1.2+1≤big60)∧(0≤p.2∧p.2+1≤big60)∧∀(v:V)(H':Hp),Fx 3 (ag a H') v→Pn K S ns H' a→Grw a H H'→Q v H'
theorem R8:(1000:Int)≤big60:=by decide +kernel
theorem uR:(10:Int)^(20:Int).toNat≤big60:=by decide +kernel
variable{P:Program}{w:World}{K:W.Frag}{mg:Str→Option Value}{base:Heap}{f:Addr}{fd:FuncData}
theorem tL(oA:mg "str"=none)(am:mg "len"=none)(ah:Has P w K mg base "_law_take" 1 ["_law_pen_here","_law_most"] (bh K))(F:Fun K "_law_odd" "_law_odd" dD f fd):FnOk P w K mg base CX0 2 f fd ["_law_pen_here","_law_number"] (lF K):=by
 refine F.ok Ng (fun vs H Q E h=>?_) (fun cdv A outer s H vs Q E hr h=>?_)
 ·obtain⟨a,S,ns,n,rfl,_⟩:=h;rfl
 obtain⟨a,S,ns,n,rfl,hp,n0,n1,hq⟩:=h;have bp:=R8;have nb:-big60≤n∧n≤big60:=⟨by omega,by omega⟩;have gg:Grw a H H:=Same.refl _;refine⟨_,(Z4 (Zz 2 Ng.nd rfl (Or.inl rfl) (Zv (Z0 (Zc Zs (pv 1) Z2) (Z0 (Zc Xm (pv 1) Z2) (Z0 Z2 (Z0 Z2 (Z0 Z2 (Z0 (rA m5 Z2) (Z0 Yw (Z0 Rl (Z0 (Ym j0 rfl oA PyProof.Rows.boot_str (Z0 (pv 1) Z1)) (Z0 (Zp (Z0 (pv 1) Z1)) (Z0 (Zv (Z0 (pv 1) Z1)) (Z0 (Zc Vs Z2 Z2) Z1)))))))))))))) Zi),?_⟩;refine⟨_,rfl,_,_,rfl,rfl,_,rfl,_,_,rfl,rfl,_,rfl,_,rfl,n,rfl,eW nb,_,rfl,leN rfl,?_⟩;intro p n_p;generalize hz:upd _ p _=H1;revert H1;refine blk ?_;intro H1 hz;have hw:=Zg hz n_p hp;have hp:=hw.1;have gz:=hw.2.1;have ne_p:=hw.2.2.1;have Az:=hw.2.2.2;clear hw hz;have gg:=gg.trans gz;have x1:Fz (ag a H1) (.ref p):=fun k=>Fx.tup Az (lv1 _).1 (Z5 (Fx.int nb) Zm);clear Az;refine⟨_,rfl,leN rfl,?_⟩;intro q n_q;generalize hz:upd _ q _=H2;revert H2;refine blk ?_;intro H2 hz;have hw:=Zg hz n_q hp;have hp:=hw.1;have gz:=hw.2.1;have ne_q:=hw.2.2.1;have AF:=hw.2.2.2;clear hw hz;have gg:=gg.trans gz;have x1:=x1.mono gz;have x2:Fz (ag a H2) (.ref q):=fun k=>Fx.lst AF (lv1 _).1 (Z5 (Fx.int nb) Zm);clear AF;refine⟨_,_,rfl,rfl,Np rfl rfl rfl,leN rfl,?_⟩;intro L n_L;generalize hz:upd _ L _=H3;revert H3;refine blk ?_;intro H3 hz;have hw:=Zg hz n_L hp;have hp:=hw.1;have gz:=hw.2.1;have ne_L:=hw.2.2.1;have e_L:=hw.2.2.2;clear hw hz;have gg:=gg.trans gz;have x1:=x1.mono gz;have x2:=x2.mono gz;refine⟨_,(Z8 (Zh (Yd Y9 (pv 2) (Z6 ah hr (Z0 (pv 0) (Z0 (Zd Zj rfl am x9 (Z0 (pv 2) Z1)) Z1)))))),?_⟩;refine⟨_,rfl,_,rfl,_,rfl,L,_,rfl,.inl (Xj e_L),a,S,ns,12,rfl,hp,Xb rfl,ltI rfl,fun d H4 d0 d1 hp gz=>?_⟩;have e_L:=gz _ _ e_L;have x1:=x1.mono gz;have x2:=x2.mono gz;obtain⟨v,hv,mv⟩:=Tf (d:=d) (Z3 e_L).2 d0 d1;refine⟨L,_,_,v,rfl,rfl,Xj e_L,hv,hq v _ ?_ hp (gg.trans gz)⟩;have b20:=uR;have p20:(0:Int)≤10^(20:Int).toNat:=by decide
 have sl:(Str.ofString (toString n)).length≤100:=by
  have h2:n.natAbs<10^61:=by
   have e:((10:Nat)^61:Nat)=10*big60.natAbs:=by decide +kernel
   have e2:(big60.natAbs:Int)=big60:=by decide +kernel
   rw[e];omega
  have e:=int_text_length_le10 (k:=61) (by decide) h2;rw[ofString_length];omega
 exact Z5 (P:=Fz (ag a H4)) (fun k=>Fx.int ⟨by omega,by omega⟩) (Z5 (fun k=>Fx.int ⟨by omega,by omega⟩) (Z5 (fun k=>Fx.int ⟨by omega,by omega⟩) (Z5 (fun k=>Fx.int ⟨by omega,by omega⟩) (Z5 (fun k=>Fx.int ⟨by omega,by omega⟩) (Z5 (fun k=>Fx.int ⟨by omega,by omega⟩) (Z5 (fun k=>Fx.bl) (Z5 (fun k=>Fx.non) (Z5 (fun k=>Fx.str sl (eF _)) (Z5 x1 (Z5 x2 (Z5 (fun k=>Fx.int ⟨by omega,b20⟩) Zm))))))))))) v mv
theorem wI(am:mg "len"=none)(ah:Has P w K mg base "_law_take" 1 ["_law_pen_here","_law_most"] (bh K))(bB:Has P w K mg base "_law_odd" 2 ["_law_pen_here","_law_number"] (lF K))(F:Fun K "_law_bent_count" "_law_bent_count" a8 f fd):FnOk P w K mg base CX0 3 f fd ["_law_pen_here","_law_one"] (wQ K):=by
 refine F.ok Y3 (fun vs H Q E h=>?_) (fun cdv A outer s H vs Q E hr h=>?_)
 ·obtain⟨a,S,r,ns,p,rfl,_⟩:=h;rfl
 obtain⟨a,S,r,ns,⟨⟨h,i⟩,n⟩,rfl,hp,⟨b,e_r,Ay⟩,⟨h0,h1⟩,⟨i0,i1⟩,⟨n0,n1⟩,hq⟩:=h;have e_r:ag a H r=some (.tup [.ref b,.int n]):=e_r;have Ay:ag a H b=some (.tup [.int h,.int i]):=Ay;have h0:0≤h:=h0;have h1:h+1≤big60:=h1;have i0:0≤i:=i0;have i1:i+1≤big60:=i1;have n0:0≤n:=n0;have n1:n+1≤big60:=n1;have bp:=R8;have hb:-big60≤h∧h≤big60:=⟨by omega,by omega⟩;have ib:-big60≤i∧i≤big60:=⟨by omega,by omega⟩;have nb:-big60≤n∧n≤big60:=⟨by omega,by omega⟩;have gg:Grw a H H:=Same.refl _;refine⟨_,(Z4 (Yu (pv 1) (Yv rfl (Zb (Yv rfl (Zb (Za (i:=2) Y3.nd rfl (Or.inl rfl)) (Zb (Za (i:=3) Y3.nd rfl (Or.inl rfl)) Zu))) (Zb (Za (i:=4) Y3.nd rfl (Or.inl rfl)) Zu)))) Zi),?_⟩;refine⟨_,rfl,r,_,rfl,Vu e_r,rfl,_,_,rfl,b,_,rfl,Vu Ay,rfl,_,_,rfl,_,_,rfl,rfl,_,_,rfl,rfl,?_⟩;clear e_r Ay;refine⟨_,(Z4 (Zz 5 Y3.nd rfl (Or.inl rfl) (Zv (Z0 (Zp (Z0 (Zp (Z0 (pv 2) (Z0 (pv 3) Z1))) (Z0 (Zc Zs (pv 4) Z2) Z1))) (Z0 (Zp (Z0 (Zp (Z0 (pv 2) (Z0 (pv 3) Z1))) (Z0 (Zc Xm (pv 4) Z2) Z1))) (Z0 (Zp (Z0 (Zp (Z0 (pv 2) (Z0 (pv 3) Z1))) (Z0 (Z6 bB hr (Z0 (pv 0) (Z0 (pv 4) Z1))) Z1))) Z1))))) Zi),?_⟩;refine⟨_,rfl,_,rfl,leN rfl,?_⟩;intro s1 n_s1;generalize hz:upd _ s1 _=H1;revert H1;refine blk ?_;intro H1 hz;have hw:=Zg hz n_s1 hp;have hp:=hw.1;have gz:=hw.2.1;have ne_s1:=hw.2.2.1;have wK:=hw.2.2.2;clear hw hz;have gg:=gg.trans gz;have x1:Fx 2 (ag a H1) (.ref s1):=.tup wK (leN rfl) (Z5 (Fx.int hb) (Z5 (Fx.int ib) Zm));clear wK;refine⟨_,rfl,_,_,rfl,rfl,leN rfl,?_⟩;intro t1 oU;generalize hz:upd _ t1 _=H2;revert H2;refine blk ?_;intro H2 hz;have hw:=Zg hz oU hp;have hp:=hw.1;have gz:=hw.2.1;have ne_t1:=hw.2.2.1;have hX:=hw.2.2.2;clear hw hz;have gg:=gg.trans gz;have x1:=x1.mono gz;have y1:Fx 3 (ag a H2) (.ref t1):=.tup hX (leN rfl) (Z5 x1 (Z5 (Fx.int ⟨by omega,by omega⟩) Zm));clear hX x1;refine⟨_,rfl,_,rfl,leN rfl,?_⟩;intro s2 n_s2;generalize hz:upd _ s2 _=H3;revert H3;refine blk ?_;intro H3 hz;have hw:=Zg hz n_s2 hp;have hp:=hw.1;have gz:=hw.2.1;have ne_s2:=hw.2.2.1;have wB:=hw.2.2.2;clear hw hz;have gg:=gg.trans gz;have y1:=y1.mono gz;have x2:Fx 2 (ag a H3) (.ref s2):=.tup wB (leN rfl) (Z5 (Fx.int hb) (Z5 (Fx.int ib) Zm));clear wB;refine⟨_,rfl,_,_,rfl,rfl,leN rfl,?_⟩;intro t2 n_t2;generalize hz:upd _ t2 _=H4;revert H4;refine blk ?_;intro H4 hz;have hw:=Zg hz n_t2 hp;have hp:=hw.1;have gz:=hw.2.1;have ne_t2:=hw.2.2.1;have wD:=hw.2.2.2;clear hw hz;have gg:=gg.trans gz;have y1:=y1.mono gz;have x2:=x2.mono gz;have y2:Fx 3 (ag a H4) (.ref t2):=.tup wD (leN rfl) (Z5 x2 (Z5 (Fx.int ⟨by omega,by omega⟩) Zm));clear wD x2;refine⟨_,rfl,_,rfl,leN rfl,?_⟩;intro s3 n_s3;generalize hz:upd _ s3 _=H5;revert H5;refine blk ?_;intro H5 hz;have hw:=Zg hz n_s3 hp;have hp:=hw.1;have gz:=hw.2.1;have ne_s3:=hw.2.2.1;have vJ:=hw.2.2.2;clear hw hz;have gg:=gg.trans gz;have y1:=y1.mono gz;have y2:=y2.mono gz;have x3:Fx 2 (ag a H5) (.ref s3):=.tup vJ (leN rfl) (Z5 (Fx.int hb) (Z5 (Fx.int ib) Zm));clear vJ;refine⟨_,rfl,_,rfl,a,S,ns,n,rfl,hp,n0,n1,fun o3 H6 fo hp gz=>⟨leN rfl,?_⟩⟩;have gg:=gg.trans gz;have y1:=y1.mono gz;have y2:=y2.mono gz;have x3:=x3.mono gz;intro t3 n_t3;generalize hz:upd _ t3 _=H7;revert H7;refine blk ?_;intro H7 hz;have hw:=Zg hz n_t3 hp;have hp:=hw.1;have gz:=hw.2.1;have ne_t3:=hw.2.2.1;have uV:=hw.2.2.2;clear hw hz;have gg:=gg.trans gz;have y1:=y1.mono gz;have y2:=y2.mono gz;have x3:=x3.mono gz;have fo:=fo.mono gz;have y3:Fx 3 (ag a H7) (.ref t3):=.tup uV (leN rfl) (Z5 x3 (Z5 (fo 1) Zm));clear uV x3 fo;refine⟨leN rfl,?_⟩;intro L1 n_L1;generalize hz:upd _ L1 _=H8;revert H8;refine blk ?_;intro H8 hz;have hw:=Zg hz n_L1 hp;have hp:=hw.1;have gz:=hw.2.1;have ne_L1:=hw.2.2.1;have bV:=hw.2.2.2;clear hw hz;have gg:=gg.trans gz;have y1:=y1.mono gz;have y2:=y2.mono gz;have y3:=y3.mono gz;refine⟨_,(Z4 (Zz 5 Y3.nd rfl (Or.inl rfl) (Zc S1 (pv 5) (Zv (Z0 (Zp (Z0 (Zp (Z0 (pv 2) (Z0 (Z6 bB hr (Z0 (pv 0) (Z0 (pv 3) Z1))) Z1))) (Z0 (pv 4) Z1))) (Z0 (Zp (Z0 (Zp (Z0 (Z6 bB hr (Z0 (pv 0) (Z0 (pv 2) Z1))) (Z0 (pv 3) Z1))) (Z0 (pv 4) Z1))) Z1))))) Zi),?_⟩;refine⟨_,rfl,_,rfl,_,rfl,_,rfl,a,S,ns,i,rfl,hp,i0,i1,fun o4 H9 fo hp gz=>⟨leN rfl,?_⟩⟩;have gg:=gg.trans gz;have y1:=y1.mono gz;have y2:=y2.mono gz;have y3:=y3.mono gz;have bV:=gz _ _ bV;intro s4 n_s4;generalize hz:upd _ s4 _=G1;revert G1;refine blk ?_;intro G1 hz;have hw:=Zg hz n_s4 hp;have hp:=hw.1;have gz:=hw.2.1;have ne_s4:=hw.2.2.1;have wn:=hw.2.2.2;clear hw hz;have gg:=gg.trans gz;have y1:=y1.mono gz;have y2:=y2.mono gz;have y3:=y3.mono gz;have bV:=gz _ _ bV;have fo:=fo.mono gz;have x4:Fx 2 (ag a G1) (.ref s4):=.tup wn (leN rfl) (Z5 (Fx.int hb) (Z5 (fo 0) Zm));clear wn fo;refine⟨_,rfl,leN rfl,?_⟩;intro t4 n_t4;generalize hz:upd _ t4 _=G2;revert G2;refine blk ?_;intro G2 hz;have hw:=Zg hz n_t4 hp;have hp:=hw.1;have gz:=hw.2.1;have ne_t4:=hw.2.2.1;have wq:=hw.2.2.2;clear hw hz;have gg:=gg.trans gz;have y1:=y1.mono gz;have y2:=y2.mono gz;have y3:=y3.mono gz;have bV:=gz _ _ bV;have x4:=x4.mono gz;have y4:Fx 3 (ag a G2) (.ref t4):=.tup wq (leN rfl) (Z5 x4 (Z5 (Fx.int nb) Zm));clear wq x4;refine⟨_,rfl,_,rfl,a,S,ns,h,rfl,hp,h0,h1,fun o5 G3 fo hp gz=>⟨_,rfl,leN rfl,?_⟩⟩;have gg:=gg.trans gz;have y1:=y1.mono gz;have y2:=y2.mono gz;have y3:=y3.mono gz;have y4:=y4.mono gz;have bV:=gz _ _ bV;intro s5 n_s5;generalize hz:upd _ s5 _=G4;revert G4;refine blk ?_;intro G4 hz;have hw:=Zg hz n_s5 hp;have hp:=hw.1;have gz:=hw.2.1;have ne_s5:=hw.2.2.1;have wN:=hw.2.2.2;clear hw hz;have gg:=gg.trans gz;have y1:=y1.mono gz;have y2:=y2.mono gz;have y3:=y3.mono gz;have y4:=y4.mono gz;have bV:=gz _ _ bV;have fo:=fo.mono gz;have x5:Fx 2 (ag a G4) (.ref s5):=.tup wN (leN rfl) (Z5 (fo 0) (Z5 (Fx.int ib) Zm));clear wN fo;refine⟨_,rfl,leN rfl,?_⟩;intro t5 tX;generalize hz:upd _ t5 _=G5;revert G5;refine blk ?_;intro G5 hz;have hw:=Zg hz tX hp;have hp:=hw.1;have gz:=hw.2.1;have ne_t5:=hw.2.2.1;have lX:=hw.2.2.2;clear hw hz;have gg:=gg.trans gz;have y1:=y1.mono gz;have y2:=y2.mono gz;have y3:=y3.mono gz;have y4:=y4.mono gz;have bV:=gz _ _ bV;have x5:=x5.mono gz;have y5:Fx 3 (ag a G5) (.ref t5):=.tup lX (leN rfl) (Z5 x5 (Z5 (Fx.int nb) Zm));clear lX x5;refine⟨leN rfl,?_⟩;intro M1 n_M1;generalize hz:upd _ M1 _=G6;revert G6;refine blk ?_;intro G6 hz;have hw:=Zg hz n_M1 hp;have hp:=hw.1;have gz:=hw.2.1;have ne_M1:=hw.2.2.1;have u9:=hw.2.2.2;clear hw hz;have gg:=gg.trans gz;have y1:=y1.mono gz;have y2:=y2.mono gz;have y3:=y3.mono gz;have y4:=y4.mono gz;have y5:=y5.mono gz;have bV:=gz _ _ bV;refine⟨L1,M1,_,_,rfl,rfl,(Z3 bV).2,(Z3 u9).2,leN rfl,?_⟩;intro L2 n_L2;generalize hz:upd _ L2 _=G7;revert G7;refine blk ?_;intro G7 hz;have hw:=Zg hz n_L2 hp;have hp:=hw.1;have gz:=hw.2.1;have ne_L2:=hw.2.2.1;have bG:=hw.2.2.2;clear hw hz;have gg:=gg.trans gz;have y1:=y1.mono gz;have y2:=y2.mono gz;have y3:=y3.mono gz;have y4:=y4.mono gz;have y5:=y5.mono gz;clear bV u9;refine⟨_,(Z4 (Zz 5 Y3.nd rfl (Or.inl rfl) (Zc S1 (pv 5) (Zv (Z0 (Zp (Z0 (Zv (Z0 (pv 2) (Z0 (pv 3) Z1))) (Z0 (pv 4) Z1))) (Z0 (Zv (Z0 (Zp (Z0 (pv 2) (Z0 (pv 3) Z1))) (Z0 (pv 4) Z1))) (Z0 (Zp (Z0 (Zp (Z0 (pv 2) (Z0 (pv 3) (Z0 Z2 Z1)))) (Z0 (pv 4) Z1))) (Z0 (Zp (Z0 (pv 2) (Z0 (pv 3) Z1))) Z1))))))) Zi),?_⟩;refine⟨_,rfl,_,rfl,_,rfl,leN rfl,?_⟩;intro s6 n_s6;generalize hz:upd _ s6 _=J1;revert J1;refine blk ?_;intro J1 hz;have hw:=Zg hz n_s6 hp;have hp:=hw.1;have gz:=hw.2.1;have ne_s6:=hw.2.2.1;have v4:=hw.2.2.2;clear hw hz;have gg:=gg.trans gz;have y1:=y1.mono gz;have y2:=y2.mono gz;have y3:=y3.mono gz;have y4:=y4.mono gz;have y5:=y5.mono gz;have bG:=gz _ _ bG;have x6:Fx 2 (ag a J1) (.ref s6):=.lst v4 (leN rfl) (Z5 (Fx.int hb) (Z5 (Fx.int ib) Zm));clear v4;refine⟨_,rfl,leN rfl,?_⟩;intro t6 n_t6;generalize hz:upd _ t6 _=J2;revert J2;refine blk ?_;intro J2 hz;have hw:=Zg hz n_t6 hp;have hp:=hw.1;have gz:=hw.2.1;have ne_t6:=hw.2.2.1;have v9:=hw.2.2.2;clear hw hz;have gg:=gg.trans gz;have y1:=y1.mono gz;have y2:=y2.mono gz;have y3:=y3.mono gz;have y4:=y4.mono gz;have y5:=y5.mono gz;have bG:=gz _ _ bG;have x6:=x6.mono gz;have y6:Fx 3 (ag a J2) (.ref t6):=.tup v9 (leN rfl) (Z5 x6 (Z5 (Fx.int nb) Zm));clear v9 x6;refine⟨_,rfl,_,rfl,leN rfl,?_⟩;intro s7 n_s7;generalize hz:upd _ s7 _=J3;revert J3;refine blk ?_;intro J3 hz;have hw:=Zg hz n_s7 hp;have hp:=hw.1;have gz:=hw.2.1;have ne_s7:=hw.2.2.1;have vO:=hw.2.2.2;clear hw hz;have gg:=gg.trans gz;have y1:=y1.mono gz;have y2:=y2.mono gz;have y3:=y3.mono gz;have y4:=y4.mono gz;have y5:=y5.mono gz;have y6:=y6.mono gz;have bG:=gz _ _ bG;have x7:Fx 2 (ag a J3) (.ref s7):=.tup vO (leN rfl) (Z5 (Fx.int hb) (Z5 (Fx.int ib) Zm));clear vO;refine⟨_,rfl,leN rfl,?_⟩;intro t7 n_t7;generalize hz:upd _ t7 _=J4;revert J4;refine blk ?_;intro J4 hz;have hw:=Zg hz n_t7 hp;have hp:=hw.1;have gz:=hw.2.1;have ne_t7:=hw.2.2.1;have wR:=hw.2.2.2;clear hw hz;have gg:=gg.trans gz;have y1:=y1.mono gz;have y2:=y2.mono gz;have y3:=y3.mono gz;have y4:=y4.mono gz;have y5:=y5.mono gz;have y6:=y6.mono gz;have bG:=gz _ _ bG;have x7:=x7.mono gz;have y7:Fx 3 (ag a J4) (.ref t7):=.lst wR (leN rfl) (Z5 x7 (Z5 (Fx.int nb) Zm));clear wR x7;refine⟨_,rfl,_,rfl,leN rfl,?_⟩;intro s8 n_s8;generalize hz:upd _ s8 _=J5;revert J5;refine blk ?_;intro J5 hz;have hw:=Zg hz n_s8 hp;have hp:=hw.1;have gz:=hw.2.1;have ne_s8:=hw.2.2.1;have vy:=hw.2.2.2;clear hw hz;have gg:=gg.trans gz;have y1:=y1.mono gz;have y2:=y2.mono gz;have y3:=y3.mono gz;have y4:=y4.mono gz;have y5:=y5.mono gz;have y6:=y6.mono gz;have y7:=y7.mono gz;have bG:=gz _ _ bG;have x8:Fx 2 (ag a J5) (.ref s8):=.tup vy (leN rfl) (Z5 (Fx.int hb) (Z5 (Fx.int ib) (Z5 (Fx.int ⟨by omega,by omega⟩) Zm)));clear vy;refine⟨_,rfl,leN rfl,?_⟩;intro t8 n_t8;generalize hz:upd _ t8 _=J6;revert J6;refine blk ?_;intro J6 hz;have hw:=Zg hz n_t8 hp;have hp:=hw.1;have gz:=hw.2.1;have ne_t8:=hw.2.2.1;have v7:=hw.2.2.2;clear hw hz;have gg:=gg.trans gz;have y1:=y1.mono gz;have y2:=y2.mono gz;have y3:=y3.mono gz;have y4:=y4.mono gz;have y5:=y5.mono gz;have y6:=y6.mono gz;have y7:=y7.mono gz;have bG:=gz _ _ bG;have x8:=x8.mono gz;have y8:Fx 3 (ag a J6) (.ref t8):=.tup v7 (leN rfl) (Z5 x8 (Z5 (Fx.int nb) Zm));clear v7 x8;refine⟨_,rfl,_,rfl,leN rfl,?_⟩;intro t9 n_t9;generalize hz:upd _ t9 _=J7;revert J7;refine blk ?_;intro J7 hz;have hw:=Zg hz n_t9 hp;have hp:=hw.1;have gz:=hw.2.1;have ne_t9:=hw.2.2.1;have vS:=hw.2.2.2;clear hw hz;have gg:=gg.trans gz;have y1:=y1.mono gz;have y2:=y2.mono gz;have y3:=y3.mono gz;have y4:=y4.mono gz;have y5:=y5.mono gz;have y6:=y6.mono gz;have y7:=y7.mono gz;have y8:=y8.mono gz;have bG:=gz _ _ bG;have y9:Fx 3 (ag a J7) (.ref t9):=.tup vS (leN rfl) (Z5 (Fx.int hb) (Z5 (Fx.int ib) Zm));clear vS;refine⟨leN rfl,?_⟩;intro M2 n_M2;generalize hz:upd _ M2 _=J8;revert J8;refine blk ?_;intro J8 hz;have hw:=Zg hz n_M2 hp;have hp:=hw.1;have gz:=hw.2.1;have ne_M2:=hw.2.2.1;have vP:=hw.2.2.2;clear hw hz;have gg:=gg.trans gz;have y1:=y1.mono gz;have y2:=y2.mono gz;have y3:=y3.mono gz;have y4:=y4.mono gz;have y5:=y5.mono gz;have y6:=y6.mono gz;have y7:=y7.mono gz;have y8:=y8.mono gz;have y9:=y9.mono gz;have bG:=gz _ _ bG;refine⟨L2,M2,_,_,rfl,rfl,(Z3 bG).2,(Z3 vP).2,leN rfl,?_⟩;intro L3 n_L3;generalize hz:upd _ L3 _=J9;revert J9;refine blk ?_;intro J9 hz;have hw:=Zg hz n_L3 hp;have hp:=hw.1;have gz:=hw.2.1;have ne_L3:=hw.2.2.1;have nJ:=hw.2.2.2;clear hw hz;have gg:=gg.trans gz;have y1:=y1.mono gz;have y2:=y2.mono gz;have y3:=y3.mono gz;have y4:=y4.mono gz;have y5:=y5.mono gz;have y6:=y6.mono gz;have y7:=y7.mono gz;have y8:=y8.mono gz;have y9:=y9.mono gz;clear bG vP;refine⟨_,(Z8 (Zh (Yd Y9 (pv 5) (Z6 ah hr (Z0 (pv 0) (Z0 (Zd Zj rfl am x9 (Z0 (pv 5) Z1)) Z1)))))),?_⟩;refine⟨_,rfl,_,rfl,_,rfl,L3,_,rfl,.inl (Xj nJ),a,S,ns,9,rfl,hp,Xb rfl,ltI rfl,fun d H9 d0 d1 hp gz=>?_⟩;have gg:=gg.trans gz;have y1:=y1.mono gz;have y2:=y2.mono gz;have y3:=y3.mono gz;have y4:=y4.mono gz;have y5:=y5.mono gz;have y6:=y6.mono gz;have y7:=y7.mono gz;have y8:=y8.mono gz;have y9:=y9.mono gz;have nJ:=gz _ _ nJ;obtain⟨v,hv,mv⟩:=Tf (d:=d) (Z3 nJ).2 d0 d1;refine⟨L3,_,_,v,rfl,rfl,Xj nJ,hv,hq v _ ?_ hp gg⟩;exact Z5 (P:=Fx 3 (ag a H9)) y1 (Z5 y2 (Z5 y3 (Z5 y4 (Z5 y5 (Z5 y6 (Z5 y7 (Z5 y8 (Z5 y9 Zm)))))))) v mv
def a9:Int:=10000000000000000000000000000000
theorem gA:31*a9≤big60∧1≤a9:=by decide +kernel
def RowG(H:Hp)(v:V):Prop:=∃r p,v=.ref r∧FT H r p∧(0≤p.1.1∧p.1.1+1≤big60)∧(0≤p.1.2∧p.1.2+1≤big60)∧(0≤p.2∧p.2≤a9)
def RsG(vs:List V)(H:Hp):Prop:=∀v∈vs,RowG H v
theorem RsG.mono{H H':Hp}(g:Same H H'){vs:List V}(h:RsG vs H):RsG vs H':=fun v hv=>let ⟨r,p,e,f,b⟩:=h v hv;⟨r,p,e,Yb g f,b⟩
theorem RowG.fx{H:Hp}{v:V}(h:RowG H v):Fx 3 H v:=by
 obtain⟨r,p,rfl,⟨b,e1,e2⟩,⟨h0,h1⟩,⟨i0,i1⟩,⟨n0,n1⟩⟩:=h;have b31:=gA;have bp:=R8;exact .tup e1 (leN rfl) (Z5 (.tup e2 (leN rfl) (Z5 (Fx.int ⟨by omega,by omega⟩) (Z5 (Fx.int ⟨by omega,by omega⟩) Zm))) (Z5 (Fx.int ⟨by omega,by omega⟩) Zm))
theorem X1{xs:List V}{lo hi:Option Int}{x:V}(h:x∈aV xs lo hi):x∈xs:=List.mem_of_mem_drop (List.mem_of_mem_take h)
theorem wV{xs:List V}{k:Nat}:(aV xs none (some (k:Int))).length≤k:=by
 rw[uq,yn];omega
theorem vM{xs:List V}{k:Nat}:(aV xs (some (k:Int)) none).length=xs.length-k:=by rw[dP,yK]
theorem vU{xs:List V}{k:Nat}:(aV xs (some ((k:Int)+1)) none).length=xs.length-(k+1):=by
 rw[show((k:Int)+1)=((k+1:Nat):Int) by omega,dP,yK]
theorem u_{xs:List V}{k:Nat}:(aV xs (some (k:Int)) (some ((k:Int)+1))).length≤1:=by
 unfold aV;rw[show((k:Int)+1)=((k+1:Nat):Int) by omega,HT.sIx_nat,HT.sIx_nat,yn];omega
theorem tD{ms:List Int}(h:∀m∈ms,0≤m∧m≤a9):0≤ms.sum∧ms.sum≤ms.length*a9:=by
 induction ms with
 |nil=>exact⟨zB _,by rw[List.sum_nil,yF];omega⟩
 |cons m ms ih=>
  obtain⟨a,b⟩:=h m (.head _);obtain⟨c,d⟩:=ih fun x hx=>h x (.tail _ hx);rw[xY,xD];have e:((ms.length+1:Nat):Int)*a9=ms.length*a9+a9:=by
   rw[show((ms.length+1:Nat):Int)=(ms.length:Int)+1 by omega,Int.add_mul,zC]
  omega
def mY(K:W.Frag):Sp:=fun vs H Q _=>∃(a S q cc:Addr)(ns:List Int)(Au or tot:Int)(rows:List V),vs=[.ref a,.ref q]∧Pn K S ns H a∧ag a H q=some (.tup [.int Au,.int or,.ref cc,.int tot])∧ag a H cc=some (.tup rows)∧RsG rows (ag a H)∧(∃ds,DVs (ag a H) rows ds∧(PyData.tuple ds).canLay0=true∧(PyData.tuple ds).depth≤5)∧rows.length≤29∧1≤Au∧Au≤20∧1≤or∧or≤10∧0≤tot∧tot+1≤big60∧
 ∀(v:V)(H':Hp),Bnt (ag a H') v→Pn K S ns H' a→Grw a H H'→Q v H'
theorem qy(am:mg "len"=none)(aG:mg "list"=none)(aQ:mg "sum"=none)(ah:Has P w K mg base "_law_take" 1 ["_law_pen_here","_law_most"] (bh K))(bB:Has P w K mg base "_law_odd" 2 ["_law_pen_here","_law_number"] (lF K))(cY:Has P w K mg base "_law_bent_count" 3 ["_law_pen_here","_law_one"] (wQ K))(F:Fun K "_law_bent" "_law_bent" c8 f fd):FnOk P w K mg base CX0 4 f fd ["_law_pen_here","_law_ladder_here"] (mY K):=by
 refine F.ok Yq (fun vs H Q E h=>?_) (fun cdv A outer s H vs Q E hr h=>?_)
 ·obtain⟨a,S,q,cc,ns,Au,or,tot,rows,rfl,_⟩:=h;rfl
 obtain⟨a,S,q,cc,ns,Au,or,tot,rows,rfl,hp,AF,AB,rg,⟨ds,dvs,dl,dd⟩,rl29,r0,r1,d0',d1',t0,t1,hq⟩:=h;have bp:=R8;have b31:=gA;have rb:-big60≤Au∧Au≤big60:=⟨by omega,by omega⟩;have db:-big60≤or∧or≤big60:=⟨by omega,by omega⟩;have tb:-big60≤tot∧tot≤big60:=⟨by omega,by omega⟩;have rl:rows.length≤Lv (3+1):=Nat.le_succ_of_le rl29;have gg:Grw a H H:=Same.refl _;refine⟨_,(Z4 (Yu (pv 1) (Yv rfl (Zb (Za (i:=2) Yq.nd rfl (Or.inl rfl)) (Zb (Za (i:=3) Yq.nd rfl (Or.inl rfl)) (Zb (Za (i:=4) Yq.nd rfl (Or.inl rfl)) (Zb (Za (i:=5) Yq.nd rfl (Or.inl rfl)) Zu)))))) Zi),?_⟩;refine⟨_,rfl,q,_,rfl,Vu AF,rfl,_,_,rfl,_,_,rfl,_,_,rfl,_,_,rfl,rfl,?_⟩;refine⟨_,(Z4 (Zz 6 Yq.nd rfl (Or.inl rfl) (Z6 ah hr (Z0 (pv 0) (Z0 Z2 Z1)))) Zi),?_⟩;refine⟨_,rfl,a,S,ns,12,rfl,hp,Xb rfl,ltI rfl,fun way H1 w0 w1 hp gz=>?_⟩;have dvs:DVs (ag a H1) rows ds:=dvs.mono gz;have gg:=gg.trans gz;have AF:=gz _ _ AF;have AB:=gz _ _ AB;have rg:=rg.mono gz;refine⟨_,(Z4 (Y4 (Zo im (pv 6) Z2 (Zl _)) (Z4 (Zz 7 Yq.nd rfl (Or.inl rfl) (Yd Y9 (Zv (Z0 (Z6 bB hr (Z0 (pv 0) (Z0 (pv 2) Z1))) (Z0 (Z6 bB hr (Z0 (pv 0) (Z0 (pv 3) Z1))) (Z0 (Z6 bB hr (Z0 (pv 0) (Z0 (pv 5) Z1))) Z1)))) (pv 6)))
 (Z8 (Zh (Zc Xh (Zc Xh (Y5 Yy (pv 1) Yn (Yj (Yd Y9 (Zv (Z0 Z2 (Z0 Z2 (Z0 Z2 Z1)))) (pv 6)))) (Zp (Z0 (pv 7) Z1))) (Y5 Yy (pv 1) (Yj (Yd Y9 (Zv (Z0 Z2 (Z0 Z2 (Z0 Z2 Z1)))) (pv 6))) Yn))))) Zn) Zi),?_⟩
 refine⟨_,rfl,_,_,rfl,rfl,_,rfl,X2 (fun c=>?_) (fun c=>?_)⟩
 ·have c:way<3:=xy c;refine⟨_,rfl,_,rfl,a,S,ns,Au,rfl,hp,by omega,by omega,fun o1 H2 f1 hp gz=>?_⟩;have gg:=gg.trans gz;have AF:=gz _ _ AF;have AB:=gz _ _ AB;have rg:=rg.mono gz;refine⟨_,rfl,_,rfl,a,S,ns,or,rfl,hp,by omega,by omega,fun o2 H3 f2 hp gz=>?_⟩;have gg:=gg.trans gz;have AF:=gz _ _ AF;have AB:=gz _ _ AB;have rg:=rg.mono gz;have f1:=f1.mono gz;refine⟨_,rfl,_,rfl,a,S,ns,tot,rfl,hp,t0,t1,fun o3 H4 f3 hp gz=>⟨leN rfl,?_⟩⟩;have gg:=gg.trans gz;have AF:=gz _ _ AF;have AB:=gz _ _ AB;have rg:=rg.mono gz;have f1:=f1.mono gz;have f2:=f2.mono gz;intro L n_L;generalize hz:upd _ L _=H5;revert H5;refine blk ?_;intro H5 hz;have hw:=Zg hz n_L hp;have hp:=hw.1;have gz:=hw.2.1;have ne_L:=hw.2.2.1;have e_L:=hw.2.2.2;clear hw hz;have gg:=gg.trans gz;have AF:=gz _ _ AF;have AB:=gz _ _ AB;have rg:=rg.mono gz;have f1:=f1.mono gz;have f2:=f2.mono gz;have f3:=f3.mono gz;obtain⟨v,hv,mv⟩:=Tf (d:=way) (Z3 e_L).2 w0 c;have fv:Fx 4 (ag a H5) v:=Z5 (P:=fun v=>Fx 4 (ag a H5) v) (f1 3) (Z5 (f2 3) (Z5 (f3 3) Zm)) v mv;refine⟨_,rfl,L,_,_,v,rfl,rfl,Xj e_L,hv,?_⟩;clear e_L hv mv f1 f2 f3;obtain⟨z1,z2,hz1,hz2,hl⟩:∃z1 z2:Int,atI [V.int 0,.int 1,.int 3] way=some (.int z1)∧atI [V.int 1,.int 2,.int 4] way=some (.int z2)∧∀x0 x1 x2 x3 y:V,(aV [x0,x1,x2,x3] none (some z1)++[y]++aV [x0,x1,x2,x3] (some z2) none).length≤5:=by
   obtain rfl | rfl | rfl:way=0∨way=1∨way=2:=by omega
   ·exact⟨0,1,rfl,rfl,fun _ _ _ _ _=>leN rfl⟩
   ·exact⟨1,2,rfl,rfl,fun _ _ _ _ _=>leN rfl⟩
   ·exact⟨3,4,rfl,rfl,fun _ _ _ _ _=>leN rfl⟩
  refine⟨_,rfl,leN rfl,?_⟩;intro i1 n_i1;generalize hz:upd _ i1 _=J1;revert J1;refine blk ?_;intro J1 hz;have hw:=Zg hz n_i1 hp;have hp:=hw.1;have gz:=hw.2.1;have ne_i1:=hw.2.2.1;have vz:=hw.2.2.2;clear hw hz;have gg:=gg.trans gz;have AF:=gz _ _ AF;have AB:=gz _ _ AB;have rg:=rg.mono gz;have fv:=fv.mono gz;refine⟨_,rfl,i1,_,_,_,rfl,rfl,Xj vz,hz1,_,rfl,q,_,rfl,(Z3 AF).2,fun u1 J2 gs ez=>?_⟩;have gz:=hp.grw gs;have hp:=hp.same gs;have ax:=hp.tup ez;clear gs ez vz;have gg:=gg.trans gz;have AF:=gz _ _ AF;have AB:=gz _ _ AB;have rg:=rg.mono gz;have fv:=fv.mono gz;refine⟨_,rfl,leN rfl,?_⟩;intro u2 mi;generalize hz:upd _ u2 _=J3;revert J3;refine blk ?_;intro J3 hz;have hw:=Zg hz mi hp;have hp:=hw.1;have gz:=hw.2.1;have ne_u2:=hw.2.2.1;have aM:=hw.2.2.2;clear hw hz;have gg:=gg.trans gz;have AF:=gz _ _ AF;have AB:=gz _ _ AB;have rg:=rg.mono gz;have fv:=fv.mono gz;have ax:=gz _ _ ax;refine⟨u1,u2,_,_,rfl,rfl,(Z3 ax).2,(Z3 aM).2,?_,fun u3 J4 gs ez=>?_⟩
  ·have:=Vw [V.int Au,.int or,.ref cc,.int tot] none (some z1);simp only[List.length_cons,List.length_nil]at this⊢;omega
  have gz:=hp.grw gs;have hp:=hp.same gs;have aI:=hp.tup ez;clear gs ez ax aM;have gg:=gg.trans gz;have AF:=gz _ _ AF;have AB:=gz _ _ AB;have rg:=rg.mono gz;have fv:=fv.mono gz;refine⟨_,rfl,leN rfl,?_⟩;intro i2 n_i2;generalize hz:upd _ i2 _=J5;revert J5;refine blk ?_;intro J5 hz;have hw:=Zg hz n_i2 hp;have hp:=hw.1;have gz:=hw.2.1;have ne_i2:=hw.2.2.1;have vZ:=hw.2.2.2;clear hw hz;have gg:=gg.trans gz;have AF:=gz _ _ AF;have AB:=gz _ _ AB;have rg:=rg.mono gz;have fv:=fv.mono gz;have aI:=gz _ _ aI;refine⟨_,rfl,i2,_,_,_,rfl,rfl,Xj vZ,hz2,_,rfl,q,_,rfl,(Z3 AF).2,fun u4 J6 gs ez=>?_⟩;have gz:=hp.grw gs;have hp:=hp.same gs;have bj:=hp.tup ez;clear gs ez vZ;have gg:=gg.trans gz;have AF:=gz _ _ AF;have AB:=gz _ _ AB;have rg:=rg.mono gz;have fv:=fv.mono gz;have aI:=gz _ _ aI;refine⟨u3,u4,_,_,rfl,rfl,(Z3 aI).2,(Z3 bj).2,?_,fun u5 J7 gs ez=>?_⟩
  ·have:=hl (.int Au) (.int or) (.ref cc) (.int tot) v;rw[xn]at this;omega
  have gz:=hp.grw gs;have hp:=hp.same gs;have cV:=hp.tup ez;clear gs ez aI bj;have gg:=gg.trans gz;have AF:=gz _ _ AF;have AB:=gz _ _ AB;have rg:=rg.mono gz;have fv:=fv.mono gz;have all4:∀x∈[V.int Au,.int or,.ref cc,.int tot],Fx 4 (ag a J7) x:=Z5 (Fx.int rb) (Z5 (Fx.int db) (Z5 (Fx.tup AB rl fun v hv=>(rg v hv).fx) (Z5 (Fx.int tb) Zm)));exact hq _ _ (.inl (.tup cV (hl _ _ _ _ _) (Vc (Vc (fun x hx=>all4 x (X1 hx)) (Z5 fv Zm)) fun x hx=>all4 x (X1 hx)))) hp gg
 refine⟨_,(Z4 (Y4 (Zo Ul (pv 6) Z2 (Zl _)) (Z8 (Zh (Yd Y9 (Zv (Z0 Rl (Z0 Z2 (Z0 Ty (Z0 (Zp Z1) (Z0 (Zv Z1) (Z0 (Ym Tp rfl aG zJ (Z0 (pv 1) Z1)) (Z0 (Y5 Yy (pv 1) Yn (Yj Z2)) (Z0 (Zc Xh (pv 1) (Zp (Z0 Z2 Z1))) (Z0 lK (Z0 Yw Z1))))))))))) (Z6 ah hr (Z0 (pv 0) (Z0 Z2 Z1)))))) Zn) Zi),?_⟩;refine⟨_,rfl,rfl,_,rfl,X2 (fun c3=>?_) (fun c3=>?_)⟩
 ·clear dvs;refine⟨leN rfl,?_⟩;intro u1 n_u1;generalize hz:upd _ u1 _=J1;revert J1;refine blk ?_;intro J1 hz;have hw:=Zg hz n_u1 hp;have hp:=hw.1;have gz:=hw.2.1;have ne_u1:=hw.2.2.1;have ax:=hw.2.2.2;clear hw hz;have gg:=gg.trans gz;have AF:=gz _ _ AF;have AB:=gz _ _ AB;have rg:=rg.mono gz;refine⟨leN rfl,?_⟩;intro u2 mi;generalize hz:upd _ u2 _=J2;revert J2;refine blk ?_;intro J2 hz;have hw:=Zg hz mi hp;have hp:=hw.1;have gz:=hw.2.1;have ne_u2:=hw.2.2.1;have aM:=hw.2.2.2;clear hw hz;have gg:=gg.trans gz;have AF:=gz _ _ AF;have AB:=gz _ _ AB;have rg:=rg.mono gz;have ax:=gz _ _ ax;refine⟨_,rfl,q,_,rfl,.inr (Vu AF),?_⟩;intro u3 n_u3;generalize hz:upd _ u3 _=J3;revert J3;refine blk ?_;intro J3 hz;have hw:=Zg hz n_u3 hp;have hp:=hw.1;have gz:=hw.2.1;have ne_u3:=hw.2.2.1;have aI:=hw.2.2.2;clear hw hz;have gg:=gg.trans gz;have AF:=gz _ _ AF;have AB:=gz _ _ AB;have rg:=rg.mono gz;have ax:=gz _ _ ax;have aM:=gz _ _ aM;refine⟨_,rfl,3,rfl,q,_,rfl,(Z3 AF).2,fun u4 J4 gs ez=>?_⟩;have gz:=hp.grw gs;have hp:=hp.same gs;have bj:=hp.tup ez;clear gs ez;have gg:=gg.trans gz;have AF:=gz _ _ AF;have AB:=gz _ _ AB;have rg:=rg.mono gz;have ax:=gz _ _ ax;have aM:=gz _ _ aM;have aI:=gz _ _ aI;refine⟨_,rfl,leN rfl,?_⟩;intro t5 tX;generalize hz:upd _ t5 _=J5;revert J5;refine blk ?_;intro J5 hz;have hw:=Zg hz tX hp;have hp:=hw.1;have gz:=hw.2.1;have ne_t5:=hw.2.2.1;have lX:=hw.2.2.2;clear hw hz;have gg:=gg.trans gz;have AF:=gz _ _ AF;have AB:=gz _ _ AB;have rg:=rg.mono gz;have ax:=gz _ _ ax;have aM:=gz _ _ aM;have aI:=gz _ _ aI;have bj:=gz _ _ bj;refine⟨q,t5,_,_,rfl,rfl,(Z3 AF).2,(Z3 lX).2,leN rfl,fun u5 J6 gs ez=>?_⟩;have gz:=hp.grw gs;have hp:=hp.same gs;have cV:=hp.tup ez;clear gs ez lX;have gg:=gg.trans gz;have AF:=gz _ _ AF;have AB:=gz _ _ AB;have rg:=rg.mono gz;have ax:=gz _ _ ax;have aM:=gz _ _ aM;have aI:=gz _ _ aI;have bj:=gz _ _ bj;intro u6 n_u6;generalize hz:upd _ u6 _=J7;revert J7;refine blk ?_;intro J7 hz;have hw:=Zg hz n_u6 hp;have hp:=hw.1;have gz:=hw.2.1;have ne_u6:=hw.2.2.1;have lR:=hw.2.2.2;clear hw hz;have gg:=gg.trans gz;have AB:=gz _ _ AB;have rg:=rg.mono gz;have ax:=gz _ _ ax;have aM:=gz _ _ aM;have aI:=gz _ _ aI;have bj:=gz _ _ bj;have cV:=gz _ _ cV;refine⟨leN rfl,?_⟩;intro L n_L;generalize hz:upd _ L _=J8;revert J8;refine blk ?_;intro J8 hz;have hw:=Zg hz n_L hp;have hp:=hw.1;have gz:=hw.2.1;have ne_L:=hw.2.2.1;have e_L:=hw.2.2.2;clear hw hz;have gg:=gg.trans gz;have AB:=gz _ _ AB;have rg:=rg.mono gz;have ax:=gz _ _ ax;have aM:=gz _ _ aM;have aI:=gz _ _ aI;have bj:=gz _ _ bj;have cV:=gz _ _ cV;have lR:=gz _ _ lR;refine⟨_,rfl,a,S,ns,10,rfl,hp,Xb rfl,ltI rfl,fun d J9 d0 d1 hp gz=>?_⟩;have gg:=gg.trans gz;have AB:=gz _ _ AB;have rg:=rg.mono gz;have ax:=gz _ _ ax;have aM:=gz _ _ aM;have aI:=gz _ _ aI;have bj:=gz _ _ bj;have cV:=gz _ _ cV;have lR:=gz _ _ lR;have e_L:=gz _ _ e_L;obtain⟨v,hv,mv⟩:=Tf (d:=d) (Z3 e_L).2 d0 d1;refine⟨L,_,_,v,rfl,rfl,Xj e_L,hv,hq v _ ?_ hp gg⟩;have all4:∀x∈[V.int Au,.int or,.ref cc,.int tot],Fx 4 (ag a J9) x:=Z5 (Fx.int rb) (Z5 (Fx.int db) (Z5 (Fx.tup AB rl fun v hv=>(rg v hv).fx) (Z5 (Fx.int tb) Zm)));exact Z5 (P:=Bnt (ag a J9)) (.inl Fx.non) (Z5 (.inl (Fx.int ⟨by omega,by omega⟩)) (Z5 (.inl (Fx.str (leN rfl) (by decide +kernel))) (Z5 (.inl (.tup ax (leN rfl) Zm)) (Z5 (.inl (.lst aM (leN rfl) Zm)) (Z5 (.inl (.lst aI (leN rfl) all4)) (Z5 (.inl (.tup bj (leN rfl) fun x hx=>all4 x (X1 hx))) (Z5 (.inl (.tup cV (leN rfl) (Vc all4 (Z5 (Fx.int ⟨by omega,by omega⟩) Zm)))) (Z5 (.inr ⟨u6,rfl,lR⟩) (Z5 (.inl Fx.bl) Zm))))))))) v mv
 refine⟨_,(Z4 (Y4 (PW.pt (Xo (Zo Ul (pv 6) Z2 (Zl _)) (Xk (Zo (m8 hr.units) (pv 4) (Zp Z1) (Zl _))))) (Z8 (Zh (Zp (Z0 (pv 2) (Z0 (pv 3) (Z0 (Yd Y9 (Zv (Z0 (Ym Tp rfl aG zJ (Z0 (pv 4) Z1)) (Z0 Rl (Z0 Ty (Z0 (px (pv 4) (rA m5 Z2)) (Z0 Z2 Z1)))))) (Z6 ah hr (Z0 (pv 0) (Z0 Z2 Z1)))) (Z0 (pv 5) Z1))))))) Zn) Zi),?_⟩;refine⟨_,rfl,rfl,_,rfl,X2 (fun c4=>?_) (fun c4=>?_)⟩
 ·clear dvs;refine⟨_,rfl,_,rfl,_,rfl,cc,_,rfl,.inr (Vu AB),?_⟩;intro l1 sX;generalize hz:upd _ l1 _=J1;revert J1;refine blk ?_;intro J1 hz;have hw:=Zg hz sX hp;have hp:=hw.1;have gz:=hw.2.1;have ne_l1:=hw.2.2.1;have cg:=hw.2.2.2;clear hw hz;have gg:=gg.trans gz;have AB:=gz _ _ AB;have rg:=rg.mono gz;refine⟨_,rfl,_,rfl,cc,_,rfl,rfl,Vu AB,?_⟩;intro l2 on;generalize hz:upd _ l2 _=J2;revert J2;refine blk ?_;intro J2 hz;have hw:=Zg hz on hp;have hp:=hw.1;have gz:=hw.2.1;have ne_l2:=hw.2.2.1;have cm:=hw.2.2.2;clear hw hz;have gg:=gg.trans gz;have AB:=gz _ _ AB;have rg:=rg.mono gz;have cg:=gz _ _ cg;refine⟨leN rfl,?_⟩;intro L n_L;generalize hz:upd _ L _=J3;revert J3;refine blk ?_;intro J3 hz;have hw:=Zg hz n_L hp;have hp:=hw.1;have gz:=hw.2.1;have ne_L:=hw.2.2.1;have e_L:=hw.2.2.2;clear hw hz;have gg:=gg.trans gz;have rg:=rg.mono gz;have cg:=gz _ _ cg;have cm:=gz _ _ cm;refine⟨_,rfl,a,S,ns,5,rfl,hp,Xb rfl,ltI rfl,fun d J4 d0 d1 hp gz=>?_⟩;have gg:=gg.trans gz;have rg:=rg.mono gz;have cg:=gz _ _ cg;have cm:=gz _ _ cm;have e_L:=gz _ _ e_L;obtain⟨v,hv,mv⟩:=Tf (d:=d) (Z3 e_L).2 d0 d1;have fv:Fx 4 (ag a J4) v:=Z5 (P:=Fx 4 (ag a J4)) (Fx.lst cg rl fun v hv=>(rg v hv).fx) (Z5 Fx.non (Z5 (Fx.str (leN rfl) rfl) (Z5 (Fx.tup cm (by rw[List.length_reverse];exact rl) fun v hv=>(rg v (List.mem_reverse.mp hv)).fx) (Z5 (Fx.int ⟨by omega,by omega⟩) Zm)))) v mv;refine⟨L,_,_,v,rfl,rfl,Xj e_L,hv,_,rfl,leN rfl,?_⟩;intro R n_R;generalize hz:upd _ R _=J5;revert J5;refine blk ?_;intro J5 hz;have hw:=Zg hz n_R hp;have hp:=hw.1;have gz:=hw.2.1;have ne_R:=hw.2.2.1;have e_R:=hw.2.2.2;clear hw hz;have gg:=gg.trans gz;have fv:=fv.mono gz;exact hq _ _ (.inl (.tup e_R (leN rfl) (Z5 (Fx.int rb) (Z5 (Fx.int db) (Z5 fv (Z5 (Fx.int tb) Zm)))))) hp gg
 refine⟨_,rfl,leN rfl,?_⟩;have dvs:=dvs;intro z n_z;have gz:=hp.grw (Z9 n_z (.tup []));have dvs:DVs (ag a (upd H1 z (.tup []))) rows ds:=dvs.mono gz;have hp:=hp.laid (o:=.tup []) n_z;have e_z:(upd H1 z (.tup [])) z=some (.tup []):=Z7;have gg:=gg.trans gz;have AF:=gz _ _ AF;have AB:=gz _ _ AB;have rg:=rg.mono gz;clear gz n_z;generalize upd H1 z (.tup [])=H2 at *;refine⟨_,_,.tup (Z3 AB).2 (dvs.mono V0),.tup e_z .nil,X8 ⟨dl,dd⟩ (by decide),by decide,_,rfl,?_⟩;rw[show PyData.eqv (.tuple ds) (.tuple [])=ds.isEmpty by cases ds <;> rfl];have dlen:=(R4 dvs).1;clear dvs e_z;refine X2 (fun c5=>?_) (fun c5=>?_)
 ·skip
  refine⟨_,rfl,_,rfl,_,rfl,cc,_,rfl,.inr (Vu AB),?_⟩;intro l1 sX;generalize hz:upd _ l1 _=J1;revert J1;refine blk ?_;intro J1 hz;have hw:=Zg hz sX hp;have hp:=hw.1;have gz:=hw.2.1;have ne_l1:=hw.2.2.1;have cg:=hw.2.2.2;clear hw hz;have gg:=gg.trans gz;have AB:=gz _ _ AB;have rg:=rg.mono gz;refine⟨_,rfl,_,rfl,cc,_,rfl,rfl,Vu AB,?_⟩;intro l2 on;generalize hz:upd _ l2 _=J2;revert J2;refine blk ?_;intro J2 hz;have hw:=Zg hz on hp;have hp:=hw.1;have gz:=hw.2.1;have ne_l2:=hw.2.2.1;have cm:=hw.2.2.2;clear hw hz;have gg:=gg.trans gz;have AB:=gz _ _ AB;have rg:=rg.mono gz;have cg:=gz _ _ cg;refine⟨leN rfl,?_⟩;intro L n_L;generalize hz:upd _ L _=J3;revert J3;refine blk ?_;intro J3 hz;have hw:=Zg hz n_L hp;have hp:=hw.1;have gz:=hw.2.1;have ne_L:=hw.2.2.1;have e_L:=hw.2.2.2;clear hw hz;have gg:=gg.trans gz;have rg:=rg.mono gz;have cg:=gz _ _ cg;have cm:=gz _ _ cm;refine⟨_,rfl,a,S,ns,5,rfl,hp,Xb rfl,ltI rfl,fun d J4 d0 d1 hp gz=>?_⟩;have gg:=gg.trans gz;have rg:=rg.mono gz;have cg:=gz _ _ cg;have cm:=gz _ _ cm;have e_L:=gz _ _ e_L;obtain⟨v,hv,mv⟩:=Tf (d:=d) (Z3 e_L).2 d0 d1;have fv:Fx 4 (ag a J4) v:=Z5 (P:=Fx 4 (ag a J4)) (Fx.lst cg rl fun v hv=>(rg v hv).fx) (Z5 Fx.non (Z5 (Fx.str (leN rfl) rfl) (Z5 (Fx.tup cm (by rw[List.length_reverse];exact rl) fun v hv=>(rg v (List.mem_reverse.mp hv)).fx) (Z5 (Fx.int ⟨by omega,by omega⟩) Zm)))) v mv;refine⟨L,_,_,v,rfl,rfl,Xj e_L,hv,_,rfl,leN rfl,?_⟩;intro R n_R;generalize hz:upd _ R _=J5;revert J5;refine blk ?_;intro J5 hz;have hw:=Zg hz n_R hp;have hp:=hw.1;have gz:=hw.2.1;have ne_R:=hw.2.2.1;have e_R:=hw.2.2.2;clear hw hz;have gg:=gg.trans gz;have fv:=fv.mono gz;exact hq _ _ (.inl (.tup e_R (leN rfl) (Z5 (Fx.int rb) (Z5 (Fx.int db) (Z5 fv (Z5 (Fx.int tb) Zm)))))) hp gg
 have pos:0<rows.length:=by
  rw[dlen];cases ds with
  |nil=>exact absurd rfl c5
  |cons _ _=>simp
 refine⟨_,(Z4 (Zz 8 Yq.nd rfl (Or.inl rfl) (Z6 ah hr (Z0 (pv 0) (Z0 (Zd Zj rfl am x9 (Z0 (pv 4) Z1)) Z1)))) Zi),?_⟩;refine⟨_,rfl,_,rfl,cc,_,rfl,.inr (Vu AB),a,S,ns,_,rfl,hp,by omega,by omega,fun at1 H3 x0 x1 hp gz=>?_⟩;have gg:=gg.trans gz;have AF:=gz _ _ AF;have AB:=gz _ _ AB;have rg:=rg.mono gz;obtain⟨k,rfl⟩:=Int.eq_ofNat_of_zero_le x0;have kl:k<rows.length:=by have x1:(k:Int)<(rows.length:Int):=x1;omega
 have ca:=wV (xs:=rows) (k:=k);have cb:=vU (xs:=rows) (k:=k);have ccl:=u_ (xs:=rows) (k:=k);have cdl:=vM (xs:=rows) (k:=k);refine⟨_,(Z4 (Y4 (Zo im (pv 6) Z2 (Zl _)) (Z8 (Zh (Zp (Z0 (pv 2) (Z0 (pv 3) (Z0 (Zc Xh (Zc Xh (Y5 Yy (pv 4) Yn (Yj (pv 8))) (Zp (Z0 (Z6 cY hr (Z0 (pv 0) (Z0 (Yd Y8 (pv 4) (pv 8)) Z1))) Z1))) (Y5 Yy (pv 4) (Yj (Zc Zs (pv 8) Z2)) Yn)) (Z0 (pv 5) Z1))))))) Zn) Zi),?_⟩;refine⟨_,rfl,_,_,rfl,rfl,_,rfl,X2 (fun c6=>?_) (fun c6=>?_)⟩
 ·refine⟨_,rfl,_,rfl,_,rfl,_,rfl,_,rfl,cc,_,rfl,(Z3 AB).2,fun u1 J1 gs ez=>?_⟩;have gz:=hp.grw gs;have hp:=hp.same gs;have ax:=hp.tup ez;clear gs ez;have gg:=gg.trans gz;have AF:=gz _ _ AF;have AB:=gz _ _ AB;have rg:=rg.mono gz;obtain⟨v,hv⟩:∃v,rows[k]?=some v:=⟨rows[k],xz kl⟩;obtain⟨r,p,rfl,ft,b1,b2,b3⟩:=rg v (xL hv);refine⟨_,rfl,_,rfl,_,rfl,cc,_,_,_,rfl,rfl,Vu AB,Ug hv,a,S,r,ns,p,rfl,hp,ft,b1,b2,⟨b3.1,by have:=b3.2;omega⟩,fun bv J2 fb hp gz=>⟨leN rfl,?_⟩⟩;have gg:=gg.trans gz;have AF:=gz _ _ AF;have AB:=gz _ _ AB;have rg:=rg.mono gz;have ax:=gz _ _ ax;intro u2 mi;generalize hz:upd _ u2 _=J3;revert J3;refine blk ?_;intro J3 hz;have hw:=Zg hz mi hp;have hp:=hw.1;have gz:=hw.2.1;have ne_u2:=hw.2.2.1;have aM:=hw.2.2.2;clear hw hz;have gg:=gg.trans gz;have AF:=gz _ _ AF;have AB:=gz _ _ AB;have rg:=rg.mono gz;have ax:=gz _ _ ax;have fb:=fb.mono gz;refine⟨u1,u2,_,_,rfl,rfl,(Z3 ax).2,(Z3 aM).2,by simp only[List.length_cons,List.length_nil];omega,fun u3 J4 gs ez=>?_⟩;have gz:=hp.grw gs;have hp:=hp.same gs;have aI:=hp.tup ez;clear gs ez ax aM;have gg:=gg.trans gz;have AF:=gz _ _ AF;have AB:=gz _ _ AB;have rg:=rg.mono gz;have fb:=fb.mono gz;refine⟨_,rfl,_,rfl,_,_,rfl,rfl,_,rfl,cc,_,rfl,(Z3 AB).2,fun u4 J5 gs ez=>?_⟩;have gz:=hp.grw gs;have hp:=hp.same gs;have bj:=hp.tup ez;clear gs ez;have gg:=gg.trans gz;have AF:=gz _ _ AF;have AB:=gz _ _ AB;have rg:=rg.mono gz;have fb:=fb.mono gz;have aI:=gz _ _ aI;refine⟨u3,u4,_,_,rfl,rfl,(Z3 aI).2,(Z3 bj).2,by simp only[List.length_append,List.length_cons,List.length_nil];omega,fun u5 J6 gs ez=>?_⟩;have gz:=hp.grw gs;have hp:=hp.same gs;have cV:=hp.tup ez;clear gs ez aI bj;have gg:=gg.trans gz;have rg:=rg.mono gz;have fb:=fb.mono gz;have f5:Fx 4 (ag a J6) (.ref u5):=.tup cV (by simp only[List.length_append,List.length_cons,List.length_nil];show _≤30;omega) (Vc (Vc (fun x hx=>(rg x (X1 hx)).fx) (Z5 fb Zm)) fun x hx=>(rg x (X1 hx)).fx);clear cV fb;refine⟨_,rfl,leN rfl,?_⟩;intro R n_R;generalize hz:upd _ R _=J7;revert J7;refine blk ?_;intro J7 hz;have hw:=Zg hz n_R hp;have hp:=hw.1;have gz:=hw.2.1;have ne_R:=hw.2.2.1;have e_R:=hw.2.2.2;clear hw hz;have gg:=gg.trans gz;have f5:=f5.mono gz;exact hq _ _ (.inl (.tup e_R (leN rfl) (Z5 (Fx.int rb) (Z5 (Fx.int db) (Z5 f5 (Z5 (Fx.int tb) Zm)))))) hp gg
 refine⟨_,(Z4 (Zz 7 Yq.nd rfl (Or.inl rfl) (Zv (Z0 (Zc Xh (Y5 Yy (pv 4) Yn (Yj (pv 8))) (Y5 Yy (pv 4) (Yj (Zc Zs (pv 8) Z2)) Yn)) (Z0 (Zc Xh (Zc Xh (Y5 Yy (pv 4) Yn (Yj (pv 8))) (Y5 Yy (pv 4) (Yj (pv 8)) (Yj (Zc Zs (pv 8) Z2)))) (Y5 Yy (pv 4) (Yj (pv 8)) Yn)) (Z0 (Zc Xh (Y5 Yy (pv 4) (Yj (pv 8)) Yn) (Y5 Yy (pv 4) Yn (Yj (pv 8)))) Z1))))) Zi),?_⟩;refine⟨_,rfl,_,rfl,_,rfl,cc,_,rfl,(Z3 AB).2,fun u1 J1 gs ez=>?_⟩;have gz:=hp.grw gs;have hp:=hp.same gs;have ax:=hp.tup ez;clear gs ez;have gg:=gg.trans gz;have AB:=gz _ _ AB;have rg:=rg.mono gz;refine⟨_,rfl,_,rfl,_,_,rfl,rfl,_,rfl,cc,_,rfl,(Z3 AB).2,fun u2 J2 gs ez=>?_⟩;have gz:=hp.grw gs;have hp:=hp.same gs;have aM:=hp.tup ez;clear gs ez;have gg:=gg.trans gz;have AB:=gz _ _ AB;have rg:=rg.mono gz;have ax:=gz _ _ ax;refine⟨u1,u2,_,_,rfl,rfl,(Z3 ax).2,(Z3 aM).2,by omega,fun v1 J3 gs ez=>?_⟩;have gz:=hp.grw gs;have hp:=hp.same gs;have bo:=hp.tup ez;clear gs ez ax aM;have gg:=gg.trans gz;have AB:=gz _ _ AB;have rg:=rg.mono gz;refine⟨_,rfl,_,rfl,_,rfl,cc,_,rfl,(Z3 AB).2,fun u1 J4 gs ez=>?_⟩;have gz:=hp.grw gs;have hp:=hp.same gs;have ax:=hp.tup ez;clear gs ez;have gg:=gg.trans gz;have AB:=gz _ _ AB;have rg:=rg.mono gz;have bo:=gz _ _ bo;refine⟨_,rfl,_,rfl,_,rfl,_,rfl,_,_,rfl,rfl,_,rfl,cc,_,rfl,(Z3 AB).2,fun u2 J5 gs ez=>?_⟩;have gz:=hp.grw gs;have hp:=hp.same gs;have aM:=hp.tup ez;clear gs ez;have gg:=gg.trans gz;have AB:=gz _ _ AB;have rg:=rg.mono gz;have bo:=gz _ _ bo;have ax:=gz _ _ ax;refine⟨u1,u2,_,_,rfl,rfl,(Z3 ax).2,(Z3 aM).2,by omega,fun u3 J6 gs ez=>?_⟩;have gz:=hp.grw gs;have hp:=hp.same gs;have aI:=hp.tup ez;clear gs ez ax aM;have gg:=gg.trans gz;have AB:=gz _ _ AB;have rg:=rg.mono gz;have bo:=gz _ _ bo;refine⟨_,rfl,_,rfl,_,rfl,cc,_,rfl,(Z3 AB).2,fun u4 J7 gs ez=>?_⟩;have gz:=hp.grw gs;have hp:=hp.same gs;have bj:=hp.tup ez;clear gs ez;have gg:=gg.trans gz;have AB:=gz _ _ AB;have rg:=rg.mono gz;have bo:=gz _ _ bo;have aI:=gz _ _ aI;refine⟨u3,u4,_,_,rfl,rfl,(Z3 aI).2,(Z3 bj).2,by rw[xn];omega,fun v2 J8 gs ez=>?_⟩;have gz:=hp.grw gs;have hp:=hp.same gs;have cQ:=hp.tup ez;clear gs ez aI bj;have gg:=gg.trans gz;have AB:=gz _ _ AB;have rg:=rg.mono gz;have bo:=gz _ _ bo;refine⟨_,rfl,_,rfl,_,rfl,cc,_,rfl,(Z3 AB).2,fun u1 J9 gs ez=>?_⟩;have gz:=hp.grw gs;have hp:=hp.same gs;have ax:=hp.tup ez;clear gs ez;have gg:=gg.trans gz;have AB:=gz _ _ AB;have rg:=rg.mono gz;have bo:=gz _ _ bo;have cQ:=gz _ _ cQ;refine⟨_,rfl,_,rfl,_,rfl,cc,_,rfl,(Z3 AB).2,fun u2 G1 gs ez=>?_⟩;have gz:=hp.grw gs;have hp:=hp.same gs;have aM:=hp.tup ez;clear gs ez;have gg:=gg.trans gz;have AB:=gz _ _ AB;have rg:=rg.mono gz;have bo:=gz _ _ bo;have cQ:=gz _ _ cQ;have ax:=gz _ _ ax;refine⟨u1,u2,_,_,rfl,rfl,(Z3 ax).2,(Z3 aM).2,by omega,fun v3 G2 gs ez=>⟨leN rfl,?_⟩⟩;have gz:=hp.grw gs;have hp:=hp.same gs;have oT:=hp.tup ez;clear gs ez ax aM;have gg:=gg.trans gz;have rg:=rg.mono gz;have bo:=gz _ _ bo;have cQ:=gz _ _ cQ;intro L n_L;generalize hz:upd _ L _=G3;revert G3;refine blk ?_;intro G3 hz;have hw:=Zg hz n_L hp;have hp:=hw.1;have gz:=hw.2.1;have ne_L:=hw.2.2.1;have e_L:=hw.2.2.2;clear hw hz;have gg:=gg.trans gz;have rg:=rg.mono gz;have bo:=gz _ _ bo;have cQ:=gz _ _ cQ;have oT:=gz _ _ oT;refine⟨_,(Z4 (Zz 9 Yq.nd rfl (Or.inl rfl) (Yd Y9 (pv 7) (Zc Xn (pv 6) Z2))) Zi),?_⟩;have m0:=zF way (show(3:Int)≠0 by decide);have m1:=yS way (show(0:Int)<3 by decide);obtain⟨v,hv,mv⟩:=Tf (d:=way % 3) (Z3 e_L).2 m0 m1;obtain⟨w1',zs,rfl,e_w,zl,zr⟩:∃w' zs,v=.ref w'∧ag a G3 w'=some (.tup zs)∧zs.length≤30∧∀x∈zs,x∈rows:=Z5 (P:=fun v=>∃w' zs,v=.ref w'∧ag a G3 w'=some (.tup zs)∧zs.length≤30∧∀x∈zs,x∈rows) ⟨v1,_,rfl,bo,by rw[xn];omega,Vc (fun x hx=>X1 hx) fun x hx=>X1 hx⟩ (Z5 ⟨v2,_,rfl,cQ,by rw[xn,xn];omega,Vc (Vc (fun x hx=>X1 hx) fun x hx=>X1 hx) fun x hx=>X1 hx⟩ (Z5 ⟨v3,_,rfl,oT,by rw[xn];omega,Vc (fun x hx=>X1 hx) fun x hx=>X1 hx⟩ Zm)) v mv;refine⟨_,rfl,_,rfl,_,_,rfl,rfl,Xb rfl,L,_,_,_,rfl,rfl,Xj e_L,hv,?_⟩;clear bo cQ oT e_L hv mv;refine⟨_,(Z8 (Zh (Zp (Z0 (pv 2) (Z0 (pv 3) (Z0 (pv 9) (Z0 (Zd (V1 rfl) rfl aQ ze (Z0 (Xg (own:=["_law_stretch","_law_count"]) (Sq rfl rfl) (Vo (pv 9))
  (fun _ _ _ _ _=>(V5 K 2 rfl rfl (Zb (Za (i:=0) Wy rfl (Or.inl rfl) (Or.inr rfl)) (Zb (Za (i:=1) Wy rfl (Or.inl rfl) (Or.inr rfl)) Zu)))) (fun _ _ _ _ _=>W9)
  (fun _ _ _ _ _=>(pv 1))) Z1)) Z1))))))),?_⟩
 refine⟨_,rfl,_,rfl,_,rfl,_,rfl,w1',rfl,⟨_,Vu e_w⟩,?_⟩;refine W8 (xs:=zs) (fun n ys G=>G=G3∧∃ms:List Int,ys=ms.map V.int∧ms.length=n∧∀m∈ms,0≤m∧m≤a9) ⟨rfl,[],rfl,rfl,fun _ h=>nomatch h⟩ ?_ ?_ ?_
 ·intro n ys G _ h;rw[h.1];exact Vu e_w
 ·rintro n x ys G C hx ⟨eG,ms,rfl,ml,mb⟩ hC;have nl:=(xo.mp hx).1;obtain⟨r,p,rfl,⟨b,e1,e2⟩,_,_,b3⟩:=rg x (zr x (xL hx));rw[eG];refine⟨Zx (by rw[xh];omega),r,_,rfl,Vu e1,rfl,_,_,rfl,_,_,rfl,rfl,Wk.refl _,_,rfl,hC _ _ ⟨rfl,ms++[p.2],by rw[xN];rfl,by rw[xn,ml];rfl,fun m hm=>?_⟩⟩
  rcases xM.mp hm with h | h
  ·exact mb m h
  ·rw[xq.mp h];exact b3
 rintro ys G ⟨eG,ms,rfl,ml,mb⟩;subst eG;refine⟨Zq (by rw[xh];omega),?_⟩;intro y n_y;generalize hz:upd _ y _=G4;revert G4;refine blk ?_;intro G4 hz;have hw:=Zg hz n_y hp;have hp:=hw.1;have gz:=hw.2.1;have ne_y:=hw.2.2.1;have e_y:=hw.2.2.2;clear hw hz;have gg:=gg.trans gz;have rg:=rg.mono gz;have e_w:=gz _ _ e_w;obtain⟨s0,s1⟩:=tD mb;have s2:(ms.length:Int)*a9≤30*a9:=Int.mul_le_mul_of_nonneg_right (by omega) (by omega);refine⟨y,_,rfl,Xj e_y,leN rfl,?_⟩;have f5:Fx 4 (ag a G4) (.ref w1'):=.tup e_w zl fun x hx=>(rg x (zr x hx)).fx;intro R n_R;generalize hz:upd _ R _=G5;revert G5;refine blk ?_;intro G5 hz;have hw:=Zg hz n_R hp;have hp:=hw.1;have gz:=hw.2.1;have ne_R:=hw.2.2.1;have e_R:=hw.2.2.2;clear hw hz;have gg:=gg.trans gz;have f5:=f5.mono gz;exact hq _ _ (.inl (.tup e_R (leN rfl) (Z5 (Fx.int rb) (Z5 (Fx.int db) (Z5 f5 (Z5 (Fx.int ⟨by omega,by omega⟩) Zm)))))) hp gg
theorem oI:∀{l:List Int},(∀p∈l,0≤p)→0≤l.sum
 | [],_=>zB _
 |a::l,h=>by
  have h1:=h a (.head _);have h2:=oI fun p hp=>h p (.tail _ hp);rw[xY];omega
def Hb(bar:Int)(ps:Sps):Prop:=∀k,1≤k.1→cnt ps k≤bar
theorem pU{or bar h j:Int}{ps:Sps}(f:Fst or bar ps h j)(b0:0≤bar)(hb:Hb bar ps):Hb bar (aW ps h j):=fun k hk=>by
 have e:=W4 f.in_ k;unfold cnt;rw[e];by_cases c1:k=loK h j∨k=hiK h j
 ·rw[xp c1];exact b0
 ·rw[xm c1];by_cases c2:k=upK h j
  ·rw[xp c2];exact f.le
  ·rw[xm c2];exact hb k hk
theorem i5{bar:Int}{ps qs:Sps}(p:ps.Perm qs)(nd:(ps.map (·.1)).Nodup)(h:Hb bar ps):Hb bar qs:=fun k hk=>by
 rw[←Vy (Yz p nd k)];exact h k hk
theorem uh{or bar:Int}(b0:0≤bar){ps fs Ax:Sps}(s:Stl or bar ps fs Ax):(ps.map (·.1)).Nodup→Hb bar ps→Hb bar Ax:=by
 induction s with
 |done n=>exact fun _ h=>h
 |step f p1 s ih=>
  intro nd h;exact ih ((p1.map _).nodup_iff.mpr (Xz nd)) (i5 p1.symm (Xz nd) (pU f b0 h))
theorem iK{or bar:Int}{ps:Sps}(b0:0≤bar)(o:Pok or ps)(h:Hb bar ps):Hb bar (cS or bar ps):=by
 obtain⟨fs,Ax,s⟩:=hV (or:=or) (bar:=bar) _ ps (xj _) o.kok;have q:=uh b0 s o.kok.nd h;rw[(Sv s o.kok.nd).1];exact i5 (Zy Ax).symm (iW s o.kok.nd).1 q
theorem re{xs ys:Sps}(ny:(ys.map (·.1)).Nodup)(k:Int×Int):cnt (aK xs ys) k=cnt xs k+cnt ys k:=by
 have e:=Tj (xs:=xs) k ny;by_cases h:k∈ys.map (·.1)
 ·rw[xp h]at e;unfold cnt at e⊢;rw[e]
 ·rw[xm h]at e;rw[Vy e,Vb h,Int.add_zero]
theorem pJ{a b r:Int}(h:0<r):a / r+b / r≤(a+b) / r:=by
 have h1:=Int.mul_ediv_self_le (x:=a) (k:=r) (by omega);have h2:=Int.mul_ediv_self_le (x:=b) (k:=r) (by omega);rw[Int.le_ediv_iff_mul_le h,Int.add_mul,Int.mul_comm (a / r),Int.mul_comm (b / r)];omega
structure Gl(Au or:Int)(ps:Sps):Prop where
 pok:Pok or ps
 hb:Hb (ai ps / Au) ps
theorem me{or:Int}{ps:Sps}(o:Pok or ps):0≤ai ps:=oI fun n hn=>by
 obtain⟨p,hp,rfl⟩:=xI.mp hn;have:=o.pos p hp;omega
theorem oB{Au or:Int}{xs ys:Sps}(r1:1≤Au)(hx:Gl Au or xs)(hy:Gl Au or ys):Gl Au or (bK Au or xs ys):=by
 obtain⟨a,b,_⟩:=Oi (Au:=Au) hx.pok hy.pok;refine⟨a.pok,?_⟩;rw[b];have o:=Tt hx.pok hy.pok.each;have s:=N1 (ys:=ys) hx.pok.kok.nd;have q:=iK (bar:=ai (aK xs ys) / Au) (Int.ediv_nonneg (me o) (by omega)) o fun k hk=>by
  rw[re hy.pok.kok.nd,s];have:=hx.hb k hk;have:=hy.hb k hk;have:=pJ (a:=ai xs) (b:=ai ys) (r:=Au) (by omega);omega
 rw[←s];exact q
theorem wS{Au or:Int}{t:Th}(r1:1≤Au)(d0:0≤or)(h:ThL or t):Gl Au or (thL Au or t):=by
 obtain⟨a,b,_⟩:=f_ (Au:=Au) d0 h;refine⟨a.pok,?_⟩;rw[b];have m0:0≤t.many / Au:=Int.ediv_nonneg (by have:=h.2.2;omega) (by omega);refine iK m0 (Og d0 h) fun k hk=>?_;rw[Vb fun z=>?_]
 ·exact m0
 ·have e:k=(0,t.num):=xq.mp z;rw[e]at hk;exact absurd hk (by show ¬(1:Int)≤0;decide)
theorem sD{Au or:Int}:Gl Au or []:=⟨Oe,fun k _=>by
 show(0:Int)≤0 / Au;rw[Int.zero_ediv];exact zB _⟩
theorem s_{Au or:Int}(r1:1≤Au)(d0:0≤or):∀(ts:List Th)(a:Sps),Gl Au or a→(∀t∈ts,ThL or t)→Gl Au or (ts.foldl (fun a t=>bK Au or a (thL Au or t)) a):=by
 intro ts
 induction ts with
 |nil=>exact fun a h _=>h
 |cons t ts ih=>exact fun a h g=>ih _ (oB r1 h (wS r1 d0 (g t (.head _)))) fun x hx=>g x (.tail _ hx)
theorem uW{Au or:Int}(r1:1≤Au)(d0:0≤or){t:Tr}:(∀s∈t.streams,∀x∈s,ThL or x)→Gl Au or (glT Au or t):=by
 induction t with
 |leaf ts=>exact fun h=>s_ r1 d0 ts [] sD (h ts (.head _))
 |node l r il ir=>exact fun h=>oB r1 (il fun s hs=>h s (yy _ hs)) (ir fun s hs=>h s (xA _ hs))
mutual
theorem jr{H:Hp}{a:Addr}(n1:∀xs,H a≠some (.lst xs))(n2:∀xs,H a≠some (.tup xs)):∀{v:V}{d:PyData},DV H v d→DV (ag a H) v d
 |_,_,.non=>.non
 |_,_,.bl b=>.bl b
 |_,_,.int i=>.int i
 |_,_,.str x=>.str x
 |_,_,.lst e r=>.lst (by rw[Zf (fun z=>n1 _ (z ▸ e))];exact e) (Qb n1 n2 r)
 |_,_,.tup e r=>.tup (by rw[Zf (fun z=>n2 _ (z ▸ e))];exact e) (Qb n1 n2 r)
theorem Qb{H:Hp}{a:Addr}(n1:∀xs,H a≠some (.lst xs))(n2:∀xs,H a≠some (.tup xs)):∀{vs:List V}{ds:List PyData},DVs H vs ds→DVs (ag a H) vs ds
 |_,_,.nil=>.nil
 |_,_,.cons h r=>.cons (jr n1 n2 h) (Qb n1 n2 r)
end
theorem S4{T:Addr}{H:Hp}(h:bH T H):(∀xs,H T≠some (.lst xs))∧(∀xs,H T≠some (.tup xs))∧∀o u,H T≠some (.frz o u):=by
 rcases h.tab with e | ⟨_,e,_⟩ <;> (rw[e];exact⟨fun _ z=>(nomatch z),fun _ z=>(nomatch z),fun _ _ z=>(nomatch z)⟩)
def Wv(a T:Addr)(H:Hp):Hp:=ag T (ag a H)
structure Wo(K:W.Frag)(S:Addr)(ns:List Int)(a T:Addr)(H:Hp):Prop where
 pn:Pn K S ns H a
 lam:bH T H
section
variable{K:W.Frag}{S a T p:Addr}{ns:List Int}{H H' H1:Hp}
theorem Xy:Same (Wv a T H) H:=fun b u e=>(Z3 (Z3 e).2).2
theorem pN:Same (Wv a T H) (ag a H):=fun b u e=>(Z3 e).2
theorem Qw{b:Addr}{u:HO}(e:H b=some u)(na:b≠a)(nT:b≠T):Wv a T H b=some u:=by
 unfold Wv;rw[Zf nT,Zf na];exact e
theorem fj{b:Addr}{u:HO}(e:Wv a T H b=some u):b≠a∧b≠T∧H b=some u:=⟨(Z3 (Z3 e).2).1,(Z3 e).1,Xy _ _ e⟩
theorem Pu(g:Same H H'):Same (Wv a T H) (Wv a T H'):=fun b u e=>by
 obtain⟨h1,h2,h3⟩:=fj e;exact Qw (g _ _ h3) h1 h2
theorem nO(g:Grw a H H'):Same (Wv a T H) (Wv a T H'):=fun b u e=>by
 obtain⟨h1,h2,h3⟩:=fj e;exact Qw (Z3 (g b u (by rw[Zf h1];exact h3))).2 h1 h2
theorem lL(g:Same (ag T H) (ag T H')):Same (Wv a T H) (Wv a T H'):=fun b u e=>by
 obtain⟨h1,h2,h3⟩:=fj e;exact Qw (Z3 (g b u (by rw[Zf h2];exact h3))).2 h1 h2
theorem Wo.at_(h:Wo K S ns a T H):∃xs,H a=some (.lst xs):=let ⟨_,_,e⟩:=h.pn.at_;⟨_,e⟩
theorem Wo.tT(h:Wo K S ns a T H):H T≠none:=by
 rcases h.lam.tab with e | ⟨_,e,_⟩ <;> (rw[e];exact fun z=>nomatch z)
theorem Wo.same(h:Wo K S ns a T H)(g:Same H H'):Wo K S ns a T H':=⟨h.pn.same g,h.lam.mono g⟩
theorem Wo.grw(h:Wo K S ns a T H)(hp:Pn K S ns H' a)(g:Grw a H H'):Wo K S ns a T H':=by
 refine⟨hp,?_⟩;obtain⟨xs,e⟩:=h.at_;have step:∀{x:Addr}{o:HO},H x=some o→o≠.lst xs→H' x=some o:=fun{x o} ex no=>(Z3 (g x _ (by rw[Zf (Vd ex e no)];exact ex))).2
 rcases h.lam.tab with z | ⟨c,z,zc⟩
 ·exact⟨.inl (step z (by intro q;cases q))⟩
 ·exact⟨.inr ⟨c,step z (by intro q;cases q),step zc (by intro q;cases q)⟩⟩
theorem Wo.tt(h:Wo K S ns a T H)(g:Same (ag T H) (ag T H'))(l:bH T H'):Wo K S ns a T H':=by
 refine⟨?_,l⟩;obtain⟨⟨i,r,ea⟩,s,f⟩:=h.pn;have step:∀{x:Addr}{o:HO},H x=some o→x≠T→H' x=some o:=fun{x o} ex no=>(Z3 (g x _ (by rw[Zf no];exact ex))).2;refine⟨⟨i,r,step ea fun z=>(S4 h.lam).1 _ (by rw[←z];exact ea)⟩,?_,f⟩
 rcases s with(s | ⟨u,s⟩) | s
 ·exact .inl (.inl (step s fun z=>(S4 h.lam).1 _ (by rw[←z];exact s)))
 ·exact .inl (.inr ⟨u,step s fun z=>(S4 h.lam).2.2 _ _ (by rw[←z];exact s)⟩)
 ·exact .inr s
theorem Wo.tup(h:Wo K S ns a T H){b:Addr}{xs:List V}(e:H b=some (.tup xs)):Wv a T H b=some (.tup xs):=by
 obtain⟨ys,ea⟩:=h.at_;exact Qw e (fun z=>by rw[z,ea]at e;cases e) (fun z=>(S4 h.lam).2.1 _ (by rw[←z];exact e))
theorem Wo.lad(h:Wo K S ns a T H){q:Addr}{Au or total:Int}{ps:Sps}(l:LadAt H q Au or total ps):LadAt (Wv a T H) q Au or total ps:=let ⟨c,as,e1,e2,r⟩:=l.at_;⟨c,as,h.tup e1,h.tup e2,Paired.mapP r fun _ _ ⟨y,f1,f2⟩=>⟨y,h.tup f1,h.tup f2⟩⟩
theorem pI{o:HO}(hz:upd H p o=H1)(n:H p=none)(h:Wo K S ns a T H):Wo K S ns a T H1∧Same (Wv a T H) (Wv a T H1)∧Wv a T H1 p=some o:=by
 subst hz;refine⟨h.same (Z9 n o),Pu (Z9 n o),Qw Z7 (h.pn.ne n) fun z=>h.tT (by rw[←z];exact n)⟩
end
theorem Wo.dv{K:W.Frag}{S a T:Addr}{ns:List Int}{H:Hp}(wo:Wo K S ns a T H){v:V}{d:PyData}(h:DV (ag a H) v d):DV (Wv a T H) v d:=jr (fun xs e=>(S4 wo.lam).1 xs (Z3 e).2) (fun xs e=>(S4 wo.lam).2.1 xs (Z3 e).2) h
theorem Wo.bnt{K:W.Frag}{S a T:Addr}{ns:List Int}{H:Hp}(wo:Wo K S ns a T H){v:V}(h:Bnt (ag a H) v):Bnt (Wv a T H) v:=by
 rcases h with⟨d,h,f⟩|⟨b,rfl,e⟩
 ·exact .inl ⟨d,wo.dv h,f⟩
 ·refine .inr ⟨b,rfl,Qw (Z3 e).2 (Z3 e).1 fun z=>?_⟩;have e:=(Z3 e).2;rw[z]at e
  rcases wo.lam.tab with q | ⟨_,q,_⟩ <;> (rw[q]at e;cases e)
theorem qJ{H H':Hp}(g:Same H H'){q:Addr}{r d t:Int}{ps:Sps}(gx:Gn 4 H (.ref q))(h:LadAt H' q r d t ps):LadAt H q r d t ps:=by
 obtain⟨c,as,e1,e2,pr⟩:=h.at_;obtain⟨⟨U,k⟩,hi⟩:=gx;have e1:=V8 g k e1;obtain⟨_,hy⟩:=hi q _ rfl (.inl e1);obtain⟨⟨U2,k2⟩,hi2⟩:=hy (.ref c) (.tail _ (.tail _ (.head _)));have e2:=V8 g k2 e2;obtain⟨_,hrow⟩:=hi2 c _ rfl (.inl e2);refine⟨c,as,e1,e2,?_⟩;have go:∀{as:List Addr}{ps:Sps},(∀y∈as.map V.ref,Gn 2 H y)→Paired (FT H') as ps→Paired (FT H) as ps:=fun{as ps} hg pr=>by
  induction pr with
  |nil=>exact .nil
  |cons f r ih=>
   refine .cons ?_ (ih fun y hy=>hg y (by rw[xu];exact .tail _ hy));obtain⟨y,f1,f2⟩:=f;obtain⟨⟨U1,k1⟩,hi1⟩:=hg _ (by rw[xu];exact .head _);have f1':=V8 g k1 f1;obtain⟨_,hg2⟩:=hi1 _ _ rfl (.inl f1');obtain⟨U2,k2⟩:=(hg2 (.ref y) (.head _)).g0;exact⟨y,f1',V8 g k2 f2⟩
 exact go hrow pr
theorem iS{H:Hp}{T:Addr}(n:∀xs,H T≠some (.tup xs)){q:Addr}{r d t:Int}{ps:Sps}(h:LadAt H q r d t ps):LadAt (ag T H) q r d t ps:=by
 obtain⟨c,as,e1,e2,pr⟩:=h.at_;exact⟨c,as,Ub n e1,Ub n e2,Paired.mapP pr fun _ _ ⟨y,f1,f2⟩=>⟨y,Ub n f1,Ub n f2⟩⟩
theorem Ol{H H':Hp}{T:Addr}(l:bH T H)(l':bH T H')(g:Same (ag T H) (ag T H')){x:V}(gx:Gn 4 H x){r d:Int}{ps:Sps}:MadL H' x r d ps↔MadL H x r d ps:=by
 constructor
 ·rintro⟨q,rfl,h,m⟩;exact⟨q,rfl,(qJ g (R0 (T0 l) gx) (iS (Sy l') h)).mono V0,m⟩
 ·rintro⟨q,rfl,h,m⟩;exact⟨q,rfl,((iS (Sy l) h).mono g).mono V0,m⟩
theorem qw{H H':Hp}{T:Addr}(l:bH T H)(l':bH T H')(g:Same (ag T H) (ag T H')){x:V}(gx:Gn 4 H x):IsL H' x↔IsL H x:=by
 constructor
 ·rintro⟨r,d,ps,m,n⟩;exact⟨r,d,ps,(Ol l l' g gx).mp m,n⟩
 ·rintro⟨r,d,ps,m,n⟩;exact⟨r,d,ps,(Ol l l' g gx).mpr m,n⟩
def rL(T:Addr):Sp:=fun vs H Q _=>∃(x:V),vs=[x]∧Gn 4 H x∧(∀Au or ps,MadL H x Au or ps→ai ps≤big60)∧bH T H∧∀H':Hp,Same (ag T H) (ag T H')→bH T H'→Q (.bl true) H'
theorem uE{T:Addr}(aa:mg "isinstance"=none)(aZ:mg "bool"=none)(bN:Has P w K mg base "is_ladder" 9 ["thing"] (n8 T))(qO:Has P w K mg base "_law_due" 3 ["_law_thing"] rB)(F:Fun K "_law_right" "_law_right" cL f fd):FnOk P w K mg base CX0 10 f fd ["_law_thing"] (rL T):=by
 refine F.ok Ri (fun vs H Q E h=>?_) (fun cdv A outer s H vs Q E hr h=>?_)
 ·obtain⟨x,rfl,_⟩:=h;rfl
 obtain⟨x,rfl,gx,hbig,lam,hq⟩:=h;refine⟨_,(Z4 (Zz 1 Ri.nd rfl (Or.inl rfl) (Z6 bN hr (Z0 (pv 0) Z1))) Zi),?_⟩;refine⟨_,rfl,x,rfl,gx,lam,fun b H1 g1 l1 iff=>?_⟩;have kb:Kd H1 (.bl b) "bool":=.bl b;refine⟨_,(Z8 (Zh (V6 (Zd Ys rfl aa xJ (Z0 (pv 1) (Z0 (Yr (v:=.ty "bool") rfl aZ PyProof.Rows.boot_bool rfl) Z1))) (Vp (Xq Ul (pv 1) (Z6 qO hr (Z0 (pv 0) Z1)) (Zl _)))))),?_⟩;refine⟨_,rfl,_,_,"bool",_,rfl,kb.ty,kb.kit (by decide) rfl,_,rfl,Yt ?_⟩;have gx1:Gn 4 H1 x:=((R0 (T0 lam) gx).mono g1).mono V0;refine⟨_,rfl,_,rfl,x,rfl,gx1,fun Au or ps m=>hbig Au or ps ((Ol lam l1 g1 gx).mp m),fun b2 H2 g2 iff2=>⟨rfl,?_⟩⟩;rw[qw lam l1 g1 gx]at iff2;have e:b=b2:=by
  rw[yE];exact iff.trans iff2.symm
 rw[e,xB rfl];exact hq _ (fun c u e=>by
  obtain⟨z1,z2⟩:=Z3 (g1 c u e);rw[Zf z1];exact g2 _ _ z2) (l1.mono g2)
def ja(K:W.Frag)(T:Addr):Sp:=fun vs H Q _=>∃(a:Addr)(ns:List Int),vs=[.ref a]∧SqL K H a (ns.map V.int)∧ns.length≤63∧bH T H∧∀H',Q (.bl true) H'
theorem qC{ps:Sps}(nd:(ps.map (·.1)).Nodup)(s:aL ps=ps):(ps.map (·.1)).Pairwise ltK:=by
 have pw:=T8 ps;rw[s]at pw;have h:(ps.map (·.1)).Pairwise fun a b=>leK a b=true:=yY.mpr (pw.imp fun{p q} h=>by
  have h:=Ua.mp h;rw[Xs];omega)
 refine(h.and nd).imp ?_;rintro a b ⟨h1,h2⟩
 rcases Xs.mp h1 with z | ⟨z,y⟩
 ·exact .inl z
 ·refine .inr ⟨z,?_⟩
  rcases Int.lt_or_le a.2 b.2 with c | c
  ·exact c
  ·exact absurd (yT z (by omega)) h2
theorem sY{t:Tr}{or:Int}(h:Trk or t):∀x∈t.all,ThK or x:=fun x hx=>by
 rw[Tr.all_eq]at hx;obtain⟨s,hs,hx⟩:=List.mem_flatten.mp hx;exact h s hs x hx
theorem jB:∀{ts:List Th},(∀t∈ts,t.many≤100000000000000000000000000000)→bE ts≤ts.length*100000000000000000000000000000
 | [],_=>zB _
 |t::ts,h=>by
  have h1:=h t (.head _);have h2:=jB fun x hx=>h x (.tail _ hx);have e:bE (t::ts)=t.many+bE ts:=by unfold bE;rw[xu,xY]
  rw[e,xD];omega
theorem gN{H:Hp}{q:Addr}{r d t:Int}{ps:Sps}(h:LadAt H q r d t ps)(l:ps.length≤60):Gn 4 H (.ref q):=by
 obtain⟨c,as,e1,e2,pr⟩:=h.at_;have al:=xG pr;have gi:∀(m:Nat)(i:Int),Gn m H (.int i):=fun m i=>by
  cases m with
  |zero=>exact⟨_,.int i⟩
  |succ m=>exact⟨⟨_,.int i⟩,fun _ _ z=>nomatch z⟩
 have gt:∀(m:Nat)(b:Addr)(xs:List V),H b=some (.tup xs)→xs.length≤60→(∀y∈xs,Gn m H y)→Gn (m+1) H (.ref b):=fun m b xs e l h=>⟨⟨_,.tup e⟩,fun a ys ea ey=>by
  cases ea
  rcases ey with ey | ey
  ·rw[e]at ey;cases ey;exact⟨l,h⟩
  ·rw[e]at ey;cases ey⟩
 refine gt 3 q _ e1 (leN rfl) (Z5 (gi _ _) (Z5 (gi _ _) (Z5 (gt 2 c _ e2 (by rw[xh];omega) fun y hy=>?_) (Z5 (gi _ _) Zm))));obtain⟨j,hj⟩:=zd.mp hy;obtain⟨a,p,rfl,_,b,f1,f2⟩:=W7 pr hj;exact gt 1 a _ f1 (leN rfl) (Z5 (gt 0 b _ f2 (leN rfl) (Z5 (gi _ _) (Z5 (gi _ _) Zm))) (Z5 (gi _ _) Zm))
theorem iO{H:Hp}{q:Addr}{r d t:Int}{ps:Sps}(h:LadAt H q r d t ps)(b:ai ps≤big60):∀Au or qs,MadL H (.ref q) Au or qs→ai qs≤big60:=fun Au or qs ⟨q',e,h',_⟩=>by
 cases e;rw[←(h.uni h').2.2.2];exact b
theorem eK:(2000:Int)≤big60:=by decide +kernel
theorem uK{G:Hp}{or:Int}(d1:or≤10):∀{as:List Addr}{ps:Sps},Paired (FT G) as ps→(∀p∈ps,stO or p.1∧0≤p.2∧p.2≤a9)→RsG (as.map V.ref) G:=fun{as ps} pr h v hv=>by
 obtain⟨j,hj⟩:=zd.mp hv;obtain⟨a,p,rfl,hp,f⟩:=W7 pr hj;obtain⟨⟨s0,s1,s2,s3⟩,n0,n1⟩:=h p (xL hp);have tw:=(Wn (m:=or-p.1.1) (by omega)).2;have b:=eK;exact⟨a,p,rfl,f,⟨s0,by omega⟩,⟨s2,by omega⟩,n0,n1⟩
theorem q9(ps:Sps):(PyData.tuple (bf ps)).canLay0=true∧(PyData.tuple (bf ps)).depth≤5:=by
 obtain⟨h1,h2⟩:=S7 ps;refine⟨?_,?_⟩
 ·simpa only[PyData.canLay0] using h1
 ·simpa only[PyData.depth] using h2
structure Gd(Au or:Int)(ps:Sps):Prop where
 mo:MOk Au or ps
 nof:Nof or (ai ps / Au) ps
 hb:∀p∈ps,0<p.1.1→p.2≤ai ps / Au
 len:ps.length≤24
 sm:ai ps≤a9
theorem wy{Au or:Int}(r0:1≤Au)(r1:Au≤20)(d0:1≤or)(d1:or≤10){t:Tr}(tk:Trk or t)(l:t.all.length≤24):Gd Au or (glT Au or t):=by
 have tw:∀s∈t.streams,∀x∈s,ThL or x:=fun s hs x hx=>(tk s hs x hx).1;obtain⟨lok,sm,len⟩:=S6 (Au:=Au) (by omega) tw;have gl:=uW (Au:=Au) r0 (by omega) tw;have pok:=lok.pok;refine⟨⟨r0,r1,d0,d1,fun p hp=>⟨pok.kok.st p.1 (xI.mpr ⟨p,hp,rfl⟩),pok.pos p hp⟩,qC pok.kok.nd lok.srt⟩,lok.nof,fun p hp h=>?_,by omega,?_⟩
 ·have:=gl.hb p.1 h;rw[fK pok.kok.nd hp]at this;exact this
 ·rw[sm];have h:=jB fun x hx=>(sY tk x hx).2.2;have e:(24:Int)*100000000000000000000000000000≤a9:=by decide +kernel
  omega
section
variable{P:Program}{w:World}{K:W.Frag}{mg:Str→Option Value}{base:Heap}{f T:Addr}{fd:FuncData}
theorem uN(av:mg "range"=none)(dC:mg "repr"=none)(qP:Has P w K mg base "_law_pen" 1 ["_law_script"] (r_ K))(ah:Has P w K mg base "_law_take" 1 ["_law_pen_here","_law_most"] (bh K))(kI:Has P w K mg base "_law_sizes" 2 ["_law_pen_here"] (jv K))(lG:Has P w K mg base "_law_tree" 4 ["_law_pen_here","_law_deep","_law_most"] (wP K))(bS:Has P w K mg base "_law_grown" (2+8) ["_law_room","_law_deep","_law_tree_here"] (iw 8))(dh:Has P w K mg base "_law_ladder" 1 ["_law_now","_law_room","_law_deep"] rY)(fQ:Has P w K mg base "_law_counts" 3 ["_law_pen_here","_law_deep","_law_most"] (eQ K))(bN:Has P w K mg base "is_ladder" 9 ["thing"] (n8 T))(m7:Has P w K mg base "_law_bent" 4 ["_law_pen_here","_law_ladder_here"] (mY K))(cK:Has P w K mg base "_law_right" 10 ["_law_thing"] (rL T))(F:Fun K "law" "law" cw f fd):FnOk P w K mg base CX0 11 f fd ["_law_script"] (ja K T):=by
 refine F.ok Wh (fun vs H Q E h=>?_) (fun cdv A outer s H vs Q E hr h=>?_)
 ·obtain⟨S,ns,rfl,_⟩:=h;rfl
 obtain⟨S,ns,rfl,hS,h63,lam,hq⟩:=h;have bp:=eK;have b31:=gA;refine⟨_,(Z4 (Zz 1 Wh.nd rfl (Or.inl rfl) (Z6 qP hr (Z0 (pv 0) Z1))) Zi),?_⟩;refine⟨_,rfl,S,ns,rfl,hS,h63,fun a H1 n_a g1 hp=>?_⟩;have wo:Wo K S ns a T H1:=⟨hp,lam.mono g1⟩;clear hS g1 n_a hp lam;refine⟨_,(Z4 (Xl yx rfl (Xu rfl av (Z0 Z2 Z1)) (Za (i:=2) Wh.nd rfl (Or.inl rfl))
 (Z4 (Yu (Z6 kI hr (Z0 (pv 1) Z1)) (uU rfl (Zb (Za (i:=3) Wh.nd rfl (Or.inl rfl)) (Zb (Za (i:=4) Wh.nd rfl (Or.inl rfl)) Zu))))
 (Z4 (Zz 5 Wh.nd rfl (Or.inl rfl) (Z6 lG hr (Z0 (pv 1) (Z0 (pv 4) (Z0 Z2 Z1)))))
 (Z4 (Zz 6 Wh.nd rfl (Or.inl rfl) (Z6 dh hr (Z0 (Z6 bS hr (Z0 (pv 3) (Z0 (pv 4) (Z0 (pv 5) Z1)))) (Z0 (pv 3) (Z0 (pv 4) Z1)))))
 (Z4 (Y4 (Zo qG (Z6 bN hr (Z0 (pv 6) Z1)) Yw (Zl _)) (Z8 (Zh Yw)) Zn)
 (Z4 (Xl yx rfl (Xu rfl av (Z0 Z2 Z1)) (Za (i:=7) Wh.nd rfl (Or.inl rfl))
 (Z4 (Zz 8 Wh.nd rfl (Or.inl rfl) (Z6 m7 hr (Z0 (pv 1) (Z0 (pv 6) Z1))))
 (Z4 (Zz 9 Wh.nd rfl (Or.inl rfl) (Zd (Qe hr.gd hr.units) rfl dC PyProof.Rows.boot_repr (Z0 (pv 8) Z1)))
 (Z8 (Y4 (PW.pt (Xo (Y7 (Y6 (Z6 cK hr (Z0 (pv 8) Z1)))) (Xk (Zo Sf (Zd (Qe hr.gd hr.units) rfl dC PyProof.Rows.boot_repr (Z0 (pv 8) Z1)) (pv 9) (Zl _))))) (Z8 (Zh Yw)) Zn)))))
 (Z4 (Y4 (Y7 (Y6 (Z6 cK hr (Z0 (Zc Xh (Zp (Z0 (Zc Zs Z2 (Z6 ah hr (Z0 (pv 1) (Z0 Z2 Z1)))) Z1)) (Y5 Yy (pv 6) (Yj Z2) Yn)) Z1)))) (Z8 (Zh Yw)) Zn)
 (Z8 (Y4 (Y7 (Y6 (Z6 cK hr (Z0 (Z6 dh hr (Z0 (Z6 fQ hr (Z0 (pv 1) (Z0 (pv 4) (Z0 Z2 Z1)))) (Z0 (pv 3) (Z0 (pv 4) Z1)))) Z1)))) (Z8 (Zh Yw)) Zn))))))))) Zi),?_⟩
 refine⟨3,rfl,leI rfl,ltI rfl,?_⟩;refine Xe (lo:=0) (n:=3) (fun i σ H'=>Wo K S ns a T H'∧∃o2 o3 o4 o5 o6 o7 o8 o9:Option V,σ=[some (.ref S),some (.ref a),o2,o3,o4,o5,o6,o7,o8,o9]) ⟨wo,_,_,_,_,_,_,_,_,rfl⟩ ?_ ?_
 ·clear wo;rintro i σ H1 N B1 R1 hN hR hi ⟨wo,o2,o3,o4,o5,o6,o7,o8,o9,rfl⟩;refine⟨_,rfl,a,S,ns,rfl,wo.pn,fun l Au or H2 AC r0 r1 d0 d1 hp g2=>⟨l,_,rfl,Xj AC,rfl,_,_,rfl,_,_,rfl,rfl,?_⟩⟩;have wo:=wo.grw hp g2;clear AC hp g2;refine⟨_,rfl,_,rfl,a,S,ns,or,4,rfl,wo.pn,d0,d1,by decide,by decide,fun v t H3 tk tsz tal k_v hp g3=>?_⟩;have wo:=wo.grw hp g3;clear g3;have hht:=nI t;have tal2:t.all.length≤24:=by omega
  have tw:∀s∈t.streams,∀x∈s,ThL or x:=fun s hs x hx=>(tk s hs x hx).1;have gd:=wy r0 r1 d0 d1 tk tal2;obtain⟨lok,_,gln⟩:=S6 (Au:=Au) (or:=or) (by omega) tw;refine⟨_,rfl,_,rfl,_,rfl,v,Au,or,t,rfl,k_v.mono V0,by omega,tw,by omega,r0,r1,by omega,d1,fun d qs H4 g4 n_d e_d pm=>?_⟩;have wo:=wo.same g4;have ql:=pm.length_eq;have eps:aL qs=glT Au or t:=(T9 pm).trans lok.srt;have esm:ai qs=ai (glT Au or t):=Rk (pm.map _);refine⟨_,rfl,_,rfl,d,Au,or,qs,rfl,e_d,by omega,fun q H5 g5 AD=>?_⟩;rw[eps,esm]at AD;have wo:=wo.same g5;have AD:=wo.lad AD;clear k_v hp g4 n_d e_d pm ql eps esm g5 lok gln tsz tal hht tal2 tw tk;generalize glT Au or t=ps at gd AD;have mo:=gd.mo;have len:=gd.len;have sp:=Su fun p hp=>(mo.row p hp).2;have sm:=gd.sm;refine⟨_,rfl,.ref q,rfl,gN (AD.mono Xy) (by omega),wo.lam,fun b H6 g6 l6 iff=>?_⟩;have gz:=lL (a:=a) g6;have bt:b=true:=iff.mpr ⟨Au,or,ps,⟨q,rfl,AD.mono Xy,mo⟩,gd.nof,gd.hb⟩;have wo:=wo.tt g6 l6;have AD:=AD.mono gz;clear g6 l6 iff gz;subst bt;refine⟨true,rfl,rfl,_,rfl,Yo ?_⟩;refine⟨4,rfl,leI rfl,ltI rfl,?_⟩;refine Xe (lo:=0) (n:=4) (fun i' σ H'=>Wo K S ns a T H'∧LadAt (Wv a T H') q Au or (ai ps) ps∧∃o7 o8 o9:Option V,σ=[some (.ref S),some (.ref a),some (.int (0+(i:Int))),some (.int Au),some (.int or),some v,some (.ref q),o7,o8,o9]) ⟨wo,AD,_,_,_,rfl⟩ ?_ ?_
  ·clear wo AD;rintro i' σ H1 N' B2 R2 hN' hR' hi' ⟨wo,AD,o7,o8,o9,rfl⟩;obtain⟨cc,as,AF,AB,pr⟩:=(AD.mono pN).at_;have al:=xG pr;refine⟨_,rfl,_,rfl,a,S,q,cc,ns,Au,or,_,_,rfl,wo.pn,AF,AB,uK d1 pr (fun p hp=>⟨(mo.row p hp).1,by have:=(mo.row p hp).2;omega,Int.le_trans (sp.2 p hp) sm⟩),⟨bf ps,h_ pr,q9 ps⟩,by rw[xh];omega,r0,r1,d0,d1,sp.1,by omega,fun x H2 fb hp g2=>?_⟩;have gz:=nO (T:=T) g2;have wo:=wo.grw hp g2;have AD:=AD.mono gz;have fb:=wo.bnt fb;obtain⟨z,hz⟩:=fb.shw;clear AF AB pr hp g2 gz;refine⟨_,rfl,hz Xy ?_⟩;refine⟨_,rfl,x,rfl,(fb.mono Xy).gn,fun Au or ps m=>(fb.mono Xy).big m,wo.lam,fun H3 g3 l3=>?_⟩;have gz:=lL (a:=a) g3;have wo:=wo.tt g3 l3;have AD:=AD.mono gz;refine⟨_,rfl,Yo ?_⟩;refine⟨_,rfl,hz (gz.trans Xy) ?_⟩;refine⟨_,rfl,rfl,_,rfl,X2 (fun c=>?_) (fun c=>hN' _ _ ⟨wo,AD,_,_,_,rfl⟩)⟩;exact absurd c (by simp)
  clear wo AD;rintro σ H6 ⟨wo,AD,o7,o8,o9,rfl⟩;refine⟨_,rfl,a,S,ns,20,rfl,wo.pn,Xb rfl,ltI rfl,fun dd H7 x0 x1 hp g7=>⟨_,_,rfl,rfl,leN rfl,?_⟩⟩;have gz:=nO (T:=T) g7;have wo:=wo.grw hp g7;have AD:=AD.mono gz;clear gz g7 hp;intro t1 oU;generalize hz1:upd _ t1 _=H8;obtain⟨wo,gz,hX⟩:=pI hz1 oU wo;have AD:=AD.mono gz;clear hz1 oU gz;obtain⟨cc,as,AF,AB,pr⟩:=AD.at_;refine⟨_,rfl,1,rfl,q,_,rfl,Xy _ _ AF,fun u H9 gs ez=>?_⟩;have gz:=Pu (a:=a) (T:=T) gs;have wo:=wo.same gs;have hX:=gz _ _ hX;have AD:=AD.mono gz;have AB:=gz _ _ AB;have pr:=Paired.mapP pr fun _ _ f=>Yb gz f;clear gz gs AF;refine⟨t1,u,_,_,rfl,rfl,Xy _ _ hX,ez,leN rfl,fun u2 G1 gs ez2=>?_⟩;have gz:=Pu (a:=a) (T:=T) gs;have wo:=wo.same gs;have AD:=AD.mono gz;have AB:=gz _ _ AB;have pr:=Paired.mapP pr fun _ _ f=>Yb gz f;have k_u:LadAt G1 u2 (1+dd) or (ai ps) ps:=⟨cc,as,ez2,Xy _ _ AB,Paired.mapP pr fun _ _ f=>Yb Xy f⟩;clear gz gs hX ez ez2 AB pr;refine⟨.ref u2,rfl,gN k_u (by omega),iO k_u (by omega),wo.lam,fun G2 g2 l2=>?_⟩;have gz:=lL (a:=a) g2;have wo:=wo.tt g2 l2;clear g2 l2 gz k_u AD;refine⟨_,rfl,Yo ?_⟩;refine⟨_,rfl,_,rfl,a,S,ns,or,5,rfl,wo.pn,d0,d1,by decide,by decide,fun d2 G3 qs _ e_d pok ql hp g3=>?_⟩;have wo:=wo.grw hp g3;refine⟨_,rfl,_,rfl,d2,Au,or,qs,rfl,(Z3 e_d).2,by omega,fun q2 G4 g4 k_q2=>?_⟩;have wo:=wo.same g4;have sl:(aL qs).length=qs.length:=(Zy qs).length_eq;have ss:ai (aL qs)=ai qs:=Rk ((Zy qs).map _);have sb:=pok.sum ql;have sb2:(6000000000000000000000000000000:Int)≤big60:=by decide +kernel
  refine⟨.ref q2,rfl,gN k_q2 (by omega),iO k_q2 (by omega),wo.lam,fun G5 g5 l5=>?_⟩;have wo:=wo.tt g5 l5;exact⟨_,rfl,Yo (hN _ _ ⟨wo,_,_,_,_,_,_,_,_,rfl⟩)⟩
 rintro σ H2 ⟨wo,o2,o3,o4,o5,o6,o7,o8,o9,rfl⟩;exact⟨_,(Z8 (Zh Yw)),hq _⟩
end
end K24
namespace Hd
open PySem PySem.W
section
variable{α β:Type}
def fN(n:Nat)(k:Nat→α):α:=Nat.casesOn n (k 0) fun m=>k (Nat.succ m)
theorem Um(n:Nat)(k:Nat→α):fN n k=k n:=by cases n <;> rfl
def fV(v:Value)(k:Value→α):α:=match v with
 |.ref a=>fN a fun a=>k (.ref a)
 |.str s t=>fN t fun t=>k (.str s t)
 |.int i t=>fN t fun t=>k (.int i t)
 |v=>k v
theorem Si(v:Value)(k:Value→α):fV v k=k v:=by cases v <;> simp only[fV,Um]
def fO(f:β→(β→α)→α)(o:Option β)(k:Option β→α):α:=match o with
 |none=>k none
 |some x=>f x fun x=>k (some x)
theorem iE{f:β→(β→α)→α}(hf:∀x k,f x k=k x)(o:Option β)(k:Option β→α):fO f o k=k o:=by cases o <;> simp only[fO,hf]
def fL(f:β→(β→α)→α)(l:List β):(List β→α)→α:=
 @List.rec β (fun _=>(List β→α)→α) (fun k=>k []) (fun x _ ih k=>f x fun x=>ih fun r=>k (x::r)) l
theorem r8{f:β→(β→α)→α}(hf:∀x k,f x k=k x)(l:List β):∀k:List β→α,fL f l k=k l:=by
 induction l with
 |nil=>intro k;rfl
 |cons x r ih=>
  intro k;show f x (fun x=>fL f r fun r=>k (x::r))=_;rw[hf,ih]
def fA(f:β→(β→α)→α)(l:Array β)(k:Array β→α):α:=match l with
 |⟨l⟩=>fL f l fun l=>k ⟨l⟩
theorem iT{f:β→(β→α)→α}(hf:∀x k,f x k=k x)(l:Array β)(k:Array β→α):fA f l k=k l:=by
 cases l;simp only[fA,r8 hf]
def fE(e:DictEntry)(k:DictEntry→α):α:=match e with
 |⟨h,a,b⟩=>fV a fun a=>fV b fun b=>k ⟨h,a,b⟩
theorem v5(e:DictEntry)(k:DictEntry→α):fE e k=k e:=by cases e;simp only[fE,Si]
def fF(e:FuncData)(k:FuncData→α):α:=match e with
 |⟨a,b,c,d,e,g,cl,df,kd,dc,pm,an,cd,ct,bl⟩=>fN g fun g=>fV df fun df=>fV kd fun kd=>fV dc fun dc=>fV pm fun pm=>fO fN an fun an=>fV cd fun cd=>fV ct fun ct=>fN bl fun bl=>k ⟨a,b,c,d,e,g,cl,df,kd,dc,pm,an,cd,ct,bl⟩
theorem vT(e:FuncData)(k:FuncData→α):fF e k=k e:=by cases e;simp only[fF,Si,Um,iE Um]
def fC(e:ClassData)(k:ClassData→α):α:=match e with
 |⟨a,b,c,d,e,f,g,h,i,j,l⟩=>fL fV b fun b=>fL fV c fun c=>fN d fun d=>fL fV h fun h=>k ⟨a,b,c,d,e,f,g,h,i,j,l⟩
theorem wZ(e:ClassData)(k:ClassData→α):fC e k=k e:=by cases e;simp only[fC,r8 Si,Um]
def fD(d:Data)(k:Data→α):α:=match d with
 |.seq xs n=>fA fV xs fun xs=>fN n fun n=>k (.seq xs n)
 |.dict xs n=>fA fE xs fun xs=>fN n fun n=>k (.dict xs n)
 |.fields xs=>fA fV xs fun xs=>k (.fields xs)
 |.cell v=>fO fV v fun v=>k (.cell v)
 |.prim v=>fV v fun v=>k (.prim v)
 |.func f=>fF f fun f=>k (.func f)
 |.cls f=>fC f fun f=>k (.cls f)
 |d=>k d
theorem vV(d:Data)(k:Data→α):fD d k=k d:=by cases d <;> simp only[fD,iT Si,iT v5,Um,iE Si,Si,vT,wZ]
def fJ(o:Obj)(k:Obj→α):α:=match o with
 |⟨c,d,x,s⟩=>fV c fun c=>fO fN d fun d=>fD x fun x=>fA (fO fV) s fun s=>k ⟨c,d,x,s⟩
theorem rK(o:Obj)(k:Obj→α):fJ o k=k o:=by cases o;simp only[fJ,Si,iE Um,vV,iT (iE Si)]
def fB(t:BT):(BT→α)→α:=
 @BT.rec (fun _=>(BT→α)→α) (fun k=>k .nil) (fun v _ _ il ir k=>fJ v fun v=>il fun l=>ir fun r=>k (.node v l r)) t
theorem vh(t:BT):∀k:BT→α,fB t k=k t:=by
 induction t with
 |nil=>intro k;rfl
 |node v l r il ir=>
  intro k;show fJ v (fun v=>fB l fun l=>fB r fun r=>k (.node v l r))=_;rw[rK,il,ir]
def fR(d:Drawn)(k:Drawn→α):α:=match d with
 |⟨a,b,c,d⟩=>fN a fun a=>fN b fun b=>fN c fun c=>fN d fun d=>k ⟨a,b,c,d⟩
theorem rH(d:Drawn)(k:Drawn→α):fR d k=k d:=by cases d;simp only[fR,Um]
def fS(s:SharedT)(k:SharedT→α):α:=match s with
 |⟨t,n,life,g,d,tk,os⟩=>fB t fun t=>fN n fun n=>fR d fun d=>fN tk fun tk=>k ⟨t,n,life,g,d,tk,os⟩
theorem sd(s:SharedT)(k:SharedT→α):fS s k=k s:=by cases s;simp only[fS,vh,Um,rH]
def fP(d:Pos)(k:Pos→α):α:=match d with
 |⟨a,b,c,d⟩=>fN a fun a=>fN b fun b=>fN c fun c=>fN d fun d=>k ⟨a,b,c,d⟩
theorem xg(d:Pos)(k:Pos→α):fP d k=k d:=by cases d;simp only[fP,Um]
def fH(s:Shared)(k:Shared→α):α:=match s with
 |⟨⟨l,life⟩,g,d,tk,os⟩=>fA fJ l fun l=>fR d fun d=>fN tk fun tk=>k ⟨⟨l,life⟩,g,d,tk,os⟩
theorem vH(s:Shared)(k:Shared→α):fH s k=k s:=by obtain⟨⟨l,life⟩,g,d,tk,os⟩:=s;simp only[fH,iT rK,Um,rH]
end
section
variable{α:Type}
def hd(tb:String→Option Builtin)(p:Program)(w:World)(m:Nat)(ann:Option Value)(env:Env)(q:Pos)(F:Nat)(fin:SharedT→Code→Pos→Option α)(l:List Stmt):SharedT→Code→Pos→Option α:=
 @List.rec Stmt (fun _=>SharedT→Code→Pos→Option α) fin (fun st _ ih s c pos=>match segRunT tb p w m ann 1 F s (pieceOf st env c pos [topFrame q]) with
  |some (.next,s',c',p')=>fS s' fun s'=>fP p' fun p'=>ih s' c' p'
  |_=>none) l
theorem pA{tb:String→Option Builtin}{p:Program}{w:World}{m:Nat}{ann:Option Value}{env:Env}{q:Pos}{F:Nat}{fin:SharedT→Code→Pos→Option α}{st:Stmt}{l:List Stmt}{s:SharedT}{c:Code}{pos:Pos}{r:α}(h:hd tb p w m ann env q F fin (st::l) s c pos=some r):∃s' c' p',segRunT tb p w m ann 1 F s (pieceOf st env c pos [topFrame q])=some (.next,s',c',p')∧hd tb p w m ann env q F fin l s' c' p'=some r:=by
 have h:(match segRunT tb p w m ann 1 F s (pieceOf st env c pos [topFrame q]) with
  |some (.next,s',c',p')=>fS s' fun s'=>fP p' fun p'=>hd tb p w m ann env q F fin l s' c' p'
  |_=>none)=some r:=h
 split at h
 ·rename_i s' c' p' e;rw[sd,xg]at h;exact⟨s',c',p',e,h⟩
 ·cases h
theorem ur{tb:String→Option Builtin}{p:Program}{w:World}{n₀:Nat}{ann:Option Value}{env:Env}{q:Pos}{n N:Nat}{s s' r:Shared}{st:Stmt}{rest:List Stmt}{c c':Code}{pos p':Pos}(h:segRun tb p w n₀ ann 1 n s (pieceOf st env c pos [topFrame q])=some (.next,s',c',p'))(k:topRun tb p w n₀ ann N s' (restOf rest env c' p' [topFrame q])=some r):topRun tb p w n₀ ann (n+N) s (restOf (st::rest) env c pos [topFrame q])=some r:=by
 obtain⟨a,ha,hN⟩:=seg_top (res:=id) (K':=fun f=>match f with | .next=>(execs rest env).wrap doneF (leaveH env) id id | f=>doneF f) (H':=leaveH env) (B:=[topFrame q]) rfl n s (pieceOf st env c pos [topFrame q])
  ⟨(exec st env).wrap (fun f=>match f with | .next=>(execs rest env).wrap doneF (leaveH env) id id | f=>doneF f) (leaveH env) id id,c,pos,[topFrame q]⟩ _ _ _ _ ⟨rfl,rfl,.inl ⟨rfl,rfl,_,rfl,rfl⟩⟩ h
 obtain rfl:a=.next:=ha;have:=hN N r k;unfold restOf;rw[execs_cons_wrap];exact this
theorem nH{tb:String→Option Builtin}{p:Program}{w:World}{m:Nat}{ann:Option Value}{env:Env}{q:Pos}{F:Nat}{fin:SharedT→Code→Pos→Option α}{r:α}:∀(l:List Stmt)(s:SharedT)(c:Code)(pos:Pos),hd tb p w m ann env q F fin l s c pos=some r→
  ∃s' c' p',fin s' c' p'=some r∧∀N z,topRun tb p w m ann N s'.abs (restOf [] env c' p' [topFrame q])=some z→topRun tb p w m ann (l.length*F+N) s.abs (restOf l env c pos [topFrame q])=some z
 | [],s,c,pos,h=>⟨s,c,pos,h,fun N z hz=>by rw[yF,Nat.zero_mul,Nat.zero_add];exact hz⟩
 |st::l,s,c,pos,h=>by
  obtain⟨s',c',p',e,h⟩:=pA h;obtain⟨s2,c2,p2,hf,hN⟩:=nH l s' c' p' h;refine⟨s2,c2,p2,hf,fun N z hz=>?_⟩;have:=ur (segRun_of e) (hN N z hz);rw[xD,Nat.succ_mul,show l.length*F+F+N=F+(l.length*F+N) by omega];exact this
def vR{γ:Type}(tb:String→Option Builtin)(p:Program)(w:World)(m:Nat)(ann:Option Value)(env:Env)(q:Pos)(look:Shared→γ)(s:SharedT)(c:Code)(pos:Pos):Option γ:=
 match topRun tb p w m ann 50 s.abs (restOf [] env c pos [topFrame q]) with
 |some r=>fH r fun r=>some (look r)
 |none=>none
def ofL(l:List Obj):Nat→BT→BT:=@List.rec Obj (fun _=>Nat→BT→BT) (fun _ t=>t) (fun o _ ih i t=>ih (Nat.succ i) (t.ins i o)) l
def toT(s:Shared):SharedT:=match s with
 |⟨⟨⟨l⟩,life⟩,g,d,tk,os⟩=>⟨ofL l 0 .nil,l.length,life,g,d,tk,os⟩
def pre(p:Program)(w:World)(os:OsState):Option (Shared×Thread):=topGo treeTable p w 11 (some (.ref 6)) 12 ⟨boot_heap w.params,⟨[]⟩,boot_drawn,boot_toks,os⟩ (topStub p)
def zp:Pos:=⟨0,0,0,0⟩
def qe(p:Program):Env:={scope:=p.main.scope,locals:=mainNs,globals:=mainNs,cells:=[],code:=.ref 13,frame:=some 14}
def sa(p:Program)(w:World)(os:OsState):Shared:=match pre p w os with
 |some (s,_)=>s
 |none=>⟨{},#[],{},0,os⟩
def hc(p:Program):Code:=.body (behindTheImports p) (qe p)
def blk(p:Program)(w:World)(os:OsState):Option (Flow×Shared×Code×Pos):=segRun treeTable p w 11 (some (.ref 6)) 1 1 (sa p w os) (blockOf (behindTheImports p) (qe p) (hc p) zp [topFrame zp])
def chk{γ:Type}(p:Program)(look:Shared→γ)(w:World)(os:OsState):Option γ:=
 fS (toT (sa p w os)) fun s=>hd treeTable p w 11 (some (.ref 6)) (qe p) zp 600 (vR treeTable p w 11 (some (.ref 6)) (qe p) zp look) (behindTheImports p) s (hc p) zp
end
theorem iL{p q:Program}{loose:List Str}{Xt:Shared→Bool}{α:Type}{Yf:Shared→α}{Ya:World→α}(e:opening p=plainProg p.main.scope.names)(f:∀s,fenceModules? p s=some s)(hpre:∀(w:World) (os:OsState),pre p w os=some (sa p w os,⟨denote treeTable (hc p),hc p,zp,[topFrame zp]⟩))(hblk:∀(w:World) (os:OsState),blk p w os=some (.next,(toT (sa p w os)).abs,hc p,zp))(size:∀w:World,((boot_heap w.params).isNs mainGlobals && (Array.mk ([]:List GenState)).size==0,(boot_heap w.params).objs.size,(boot_heap w.params).nsMap mainGlobals "__annotations__")=(true,11,some (.ref 6)))(len:Nat.ble (behindTheImports p).length 1600=true)(hchk:∀(w:World) (os:OsState),chk p (fun s=>((staticsOk (importedModules p.main.body) (boot_heap w.params) s.heap && namesBound p s.heap && gensDone s && laidKept (boot_heap w.params) s.heap),openSeen q loose (importedModules p.main.body) Xt true s,Yf s)) w os=some (true,openGood q loose,Ya w)):
  LeftO p q loose Xt Yf Ya 1000000 true:=fun w=>by
 obtain⟨⟨h,gs,d,k,os⟩,e1,e'⟩:=yD.mp (boot_open (p:=p) (N:=1000000) e rfl f w);obtain⟨rfl,rfl,rfl,rfl⟩:h=boot_heap w.params∧gs=⟨[]⟩∧d=boot_drawn∧k=boot_toks:=by simpa using e'
 obtain⟨z1,z2,z3⟩:_∧_∧_:=by simpa only[Prod.mk.injEq] using size w
 have hc1:=hchk w os;unfold chk at hc1;rw[sd]at hc1;obtain⟨s2,c2,p2,hf,hN⟩:=nH _ _ _ _ hc1;unfold vR at hf
 split at hf
 case h_2=>cases hf
 rename_i r hr;rw[vH]at hf;obtain⟨l1,l2,l3⟩:_∧_∧_:=by simpa only[Option.some.injEq,Prod.mk.injEq] using hf
 have a1:=hN _ _ hr;have a2:=piece_block (hblk w os) a1;have a3:=go_top (hpre w os) a2;have le:12+(1+((behindTheImports p).length*600+50))≤1000000:=by
  have:=Nat.le_of_ble_eq_true len;omega
 have a4:=topRun_mono (1000000-(12+(1+((behindTheImports p).length*600+50)))) _ _ _ _ a3;rw[show 12+(1+((behindTheImports p).length*600+50))+(1000000-(12+(1+((behindTheImports p).length*600+50))))=1000000 by omega]at a4;have t:topFrom treeTable p w 1000000 ⟨boot_heap w.params,⟨[]⟩,boot_drawn,boot_toks,os⟩=some r:=by
  unfold topFrom;dsimp only;rw[z1,z2,z3,a4];show(match staticsOk (importedModules p.main.body) (boot_heap w.params) r.heap && namesBound p r.heap && gensDone r && laidKept (boot_heap w.params) r.heap with | true=>_ | false=>_)=_;rw[l1]
 unfold openEnds;rw[e1];show(topFrom treeTable p w 1000000 _).map _=_;rw[t];exact zG some (yT l2 l3)
def cF(p q:Program)(as:List Addr)(w:World)(os:OsState):=
 chk p (fun s=>((staticsOk (importedModules p.main.body) (boot_heap w.params) s.heap && namesBound p s.heap && gensDone s && laidKept (boot_heap w.params) s.heap),openSeen q [] (importedModules p.main.body) (fun s=>xlAt q [] s && recOk [] s) true s,as.map s.heap.get?)) w os
def cM(p q:Program)(as ts:List Addr)(w:World)(os:OsState):=
 chk p (fun s=>((staticsOk (importedModules p.main.body) (boot_heap w.params) s.heap && namesBound p s.heap && gensDone s && laidKept (boot_heap w.params) s.heap),openSeen q [] (importedModules p.main.body) (fun s=>xlAt q [] s && recOk [] s) true s,(as.map s.heap.get?,ts.map s.heap.get?))) w os
def cG(q:Program):=openGood q []
theorem cF_:@cF=@cF:=rfl
theorem cM_:@cM=@cM:=rfl
theorem cG_:@cG=@cG:=rfl
end Hd
def PySem.W.Fast.tw14598715356260435866:PySem.Params→PySem.Obj:=PySem.W.boot_o_0
theorem PySem.W.Fast.te14598715356260435866:PySem.W.boot_o_0=PySem.W.Fast.tw14598715356260435866:=rfl
lay_quick Hd.cF Hd.cM Hd.cG
name_quick cFQ for Hd.cF by Hd.cF_
name_quick cMQ for Hd.cM by Hd.cM_
name_quick cGQ for Hd.cG by Hd.cG_
namespace Hd
open PySem PySem.W
theorem hS(w:World):((boot_heap w.params).isNs mainGlobals && (Array.mk ([]:List GenState)).size==0,(boot_heap w.params).objs.size,(boot_heap w.params).nsMap mainGlobals "__annotations__")=(true,11,some (.ref 6)):=by kernel_rfl
theorem wj(p q:Program)(as:List Addr)(w:World)(os:OsState):cF p q as w os=W.Fast.cFQ p q as w os:=by rw[←W.Fast.cFQ_eq]
theorem vL(p q:Program)(as ts:List Addr)(w:World)(os:OsState):cM p q as ts w os=W.Fast.cMQ p q as ts w os:=by rw[←W.Fast.cMQ_eq]
theorem rC(q:Program):openGood q []=W.Fast.cGQ q:=by rw[←W.Fast.cGQ_eq];rfl
theorem left{p q:Program}(e:opening p=plainProg p.main.scope.names)(f:∀s,fenceModules? p s=some s)(hpre:∀(w:World) (os:OsState),pre p w os=some (sa p w os,⟨denote treeTable (hc p),hc p,zp,[topFrame zp]⟩))(hblk:∀(w:World) (os:OsState),blk p w os=some (.next,(toT (sa p w os)).abs,hc p,zp))(len:Nat.ble (behindTheImports p).length 1600=true){K:Params→Frag}{as:List Addr}{ek:∀P,as=(K P).map (·.1)}(h:∀(w:World) (os:OsState),W.Fast.cFQ p q as w os=some (true,W.Fast.cGQ q,(K w.params).map fun p=>some p.2)):
  LeftO p q [] (fun s=>xlAt q [] s && recOk [] s) (Hook.obs (kHook K as ek)) (Hook.val (kHook K as ek)) 1000000 true:=
 iL e f hpre hblk hS len fun w os=>(wj p q as w os).trans ((h w os).trans (by rw[rC];rfl))
theorem leftM{p q:Program}(e:opening p=plainProg p.main.scope.names)(f:∀s,fenceModules? p s=some s)(hpre:∀(w:World) (os:OsState),pre p w os=some (sa p w os,⟨denote treeTable (hc p),hc p,zp,[topFrame zp]⟩))(hblk:∀(w:World) (os:OsState),blk p w os=some (.next,(toT (sa p w os)).abs,hc p,zp))(len:Nat.ble (behindTheImports p).length 1600=true){K:Params→Frag}{as:List Addr}{ek:∀P,as=(K P).map (·.1)}{ts:List Addr}(h:∀(w:World) (os:OsState),W.Fast.cMQ p q as ts w os=some (true,W.Fast.cGQ q,((K w.params).map fun p=>some p.2),ts.map fun _=>some (tabObj #[]))):
  LeftO p q [] (fun s=>xlAt q [] s && recOk [] s) (Hook.obs (kmHook K as ek ts)) (Hook.val (kmHook K as ek ts)) 1000000 true:=
 iL e f hpre hblk hS len fun w os=>(vL p q as ts w os).trans ((h w os).trans (by rw[rC];rfl))
end Hd
namespace L2
open PySem PyProof.Rows
structure Df(K:W.Frag)(mg:Str→Option Value)(x:Str)(st:Stmt):Prop where
 ex:∃(f:Addr)(fd:FuncData),Fun K x x st f fd∧mg x=some (.ref f)
section
variable{P:Program}{w:World}{K:W.Frag}{mg:Str→Option Value}{base h:Heap}{x:Str}{st:Stmt}{k:Nat}{ps:List Str}{sp:Sp}{p0 p1 p2 p3:Str}
theorem df_mk(X:K.In h)(G:h.Ns mainGlobals mg){f:Addr}{oc:Value}{od an:Option Addr}{osl:Array (Option Value)}{kV doc pm cdv ct:Value}(a:W.nsIn K mainGlobals x=some (some (.ref f)))(l:K.lookup f=some ⟨oc,od,.func (W.fnOf x x (ay st) (aw st) (ad st) .none kV doc pm an cdv ct),osl⟩)(c:W.codeIn K cdv x=true)(k:W.keepIn K (.ref f)=true):Df K mg x st:=⟨f,_,gQ l c k,W.mg_of X G a⟩
theorem Df.has(d:Df K mg x st)(ok:∀{f:Addr} {fd:FuncData},Fun K x x st f fd→FnOk P w K mg base CX0 k f fd ps sp)(b:∀{f:Addr} {fd:FuncData},Fun K x x st f fd→Binds K fd ps []):Has P w K mg base x k ps sp:=let ⟨_,_,F,m⟩:=d.ex;Has.of (ok F) (b F) F.kp m
theorem Df.h1(d:Df K mg x st)(ok:∀{f:Addr} {fd:FuncData},Fun K x x st f fd→FnOk P w K mg base CX0 k f fd [p0] sp)(h:∀(kV doc pm:Value) (an:Option Addr) (cdv ct u0:Value),bindArgs (W.fnOf x x (ay st) (aw st) (ad st) .none kV doc pm an cdv ct) ⟨[u0],[]⟩=pure [(p0,u0)]):Has P w K mg base x k [p0] sp:=d.has ok fun F=>F.b1 h
theorem Df.h2(d:Df K mg x st)(ok:∀{f:Addr} {fd:FuncData},Fun K x x st f fd→FnOk P w K mg base CX0 k f fd [p0,p1] sp)(h:∀(kV doc pm:Value) (an:Option Addr) (cdv ct u0 u1:Value),bindArgs (W.fnOf x x (ay st) (aw st) (ad st) .none kV doc pm an cdv ct) ⟨[u0,u1],[]⟩=pure [(p0,u0),(p1,u1)]):Has P w K mg base x k [p0,p1] sp:=d.has ok fun F=>F.b2 h
theorem Df.h3(d:Df K mg x st)(ok:∀{f:Addr} {fd:FuncData},Fun K x x st f fd→FnOk P w K mg base CX0 k f fd [p0,p1,p2] sp)(h:∀(kV doc pm:Value) (an:Option Addr) (cdv ct u0 u1 u2:Value),bindArgs (W.fnOf x x (ay st) (aw st) (ad st) .none kV doc pm an cdv ct) ⟨[u0,u1,u2],[]⟩=pure [(p0,u0),(p1,u1),(p2,u2)]):Has P w K mg base x k [p0,p1,p2] sp:=d.has ok fun F=>F.b3 h
end
end L2
namespace K24
open PySem L2 Ld
theorem all_mk{c T:Addr}{l:W.OpenLaw}{w:World}{K:W.Frag}{h:Heap}{mg:Str→Option Value}{fa f16 f37:Addr}(X:K.In h)(G:h.Ns mainGlobals mg)(hfa:mg "law"=some (.ref fa)){od16 an16 od37 an37:Option Addr}{sl16 sl37:Array (Option Value)}{oc16 kV16 dc16 pm16 ct16 oc37 kV37 dc37 pm37 ct37 cd37:Value}(d0:Df K mg "is_whole" cf)(d1:Df K mg "is_whole_from" a7)(d2:Df K mg "is_whole_within" aN)(d3:Df K mg "is_rising" bJ)(d4:Df K mg "is_room" cE)(d5:Df K mg "is_count" b7)(d6:Df K mg "are_counts" bq)(d7:Df K mg "first_of" bZ)(d8:Df K mg "last_of" cB)(d9:Df K mg "parent_of" bO)(d10:Df K mg "pair_of" cD)(d11:Df K mg "is_stretch" bC)(d12:Df K mg "bar_of" dj)(d13:Df K mg "joint_count" bg)(d14:Df K mg "first_folding" aX)(d15:Df K mg "is_settled" bu)(a16:W.nsIn K mainGlobals "is_made_as_ladder"=some (some (.ref f16)))(l16:K.lookup f16=some ⟨oc16,od16,.func (W.fnOf "is_made_as_ladder" "is_made_as_ladder" (ay ae) (aw ae) (ad ae) .none kV16 dc16 pm16 an16 (.ref c) ct16),sl16⟩)(c16:W.codeIn K (.ref c) "is_made_as_ladder"=true)(k16:W.keepIn K (.ref f16)=true)(d17:Df K mg "is_ladder" bI)(d18:Df K mg "_law_pen" dE)(d19:Df K mg "_law_take" c_)(d20:Df K mg "_law_many" cW)(d21:Df K mg "_law_stream" ce)(d22:Df K mg "_law_tree" c9)(d23:Df K mg "_law_fold_once" ba)(d24:Df K mg "_law_settle" bY)(d25:Df K mg "_law_ladder" b_)(d26:Df K mg "_law_added" cH)(d27:Df K mg "_law_grown" bQ)(d28:Df K mg "_law_sizes" cJ)(d29:Df K mg "_law_counts" ci)(d30:Df K mg "_law_whole" cI)(d31:Df K mg "_law_is_count" bw)(d32:Df K mg "_law_due" dA)(d33:Df K mg "_law_odd" dD)(d34:Df K mg "_law_bent_count" a8)(d35:Df K mg "_law_bent" c8)(d36:Df K mg "_law_right" cL)(a37:W.nsIn K mainGlobals "law"=some (some (.ref f37)))(l37:K.lookup f37=some ⟨oc37,od37,.func (W.fnOf "law" "law" (ay cw) (aw cw) (ad cw) .none kV37 dc37 pm37 an37 cd37 ct37),sl37⟩)(c37:W.codeIn K cd37 "law"=true)(k37:W.keepIn K (.ref f37)=true)(am:mg "len"=none)(aa:mg "isinstance"=none)(av:mg "range"=none)(aG:mg "list"=none)(aC:mg "sorted"=none)(ao:mg "tuple"=none)(bA:mg "dict"=none)(aQ:mg "sum"=none)(bD:mg "int"=none)(aZ:mg "bool"=none)(cq:mg "all"=none)(lA:mg "zip"=none)(mG:mg "min"=none)(og:mg "set"=none)(oA:mg "str"=none)(dC:mg "repr"=none){cO:Value}(y_MOST_ROOM:W.nsIn K mainGlobals "MOST_ROOM"=some (some cO))(r_MOST_ROOM:RelV (.int 20) cO){dw:Value}(y_DEEPEST:W.nsIn K mainGlobals "DEEPEST"=some (some dw))(r_DEEPEST:RelV (.int 10) dw)(hcT:W.codeHdIn K c T=true)(hgP:mainGlobals≠T)
  :∃fd:FuncData,(∀(s:Shared)(v:Value),BindsTo s fd ⟨[v],[]⟩ [("_law_script",v)])∧∀base:Heap,K.In base→base.Ns mainGlobals mg→(∀U∈([(c,T)]:List (Addr×Addr)).map (·.2),base.BuiltinsAt mg U)→FnOk l.prog w K mg base CX0 11 fa fd ["_law_script"] (ja K T):=by
 have e:=hfa.symm.trans (W.mg_of X G a37);cases e;obtain⟨f6,v6,F6,m6⟩:=d6.ex;have b6:Binds K _ ["thing","is_key"] []:=F6.b2 fun _ _ _ _ _ _ _ _=>rfl;have F16:=gQ (st:=ae) l16 c16 k16;have m16:=W.mg_of X G a16;have b16:Binds K _ ["thing"] []:=F16.b1 fun _ _ _ _ _ _ _=>rfl;obtain⟨f27,v27,F27,m27⟩:=d27.ex;have b27:Binds K _ ["_law_room","_law_deep","_law_tree_here"] []:=F27.b3 fun _ _ _ _ _ _ _ _ _=>rfl;have F37:=gQ (st:=cw) l37 c37 k37;have e7:=W.mg_of X G y_MOST_ROOM;have kO:=W.mg_of X G y_DEEPEST;refine⟨W.fnOf "law" "law" (ay cw) (aw cw) (ad cw) .none kV37 dc37 pm37 an37 cd37 ct37,fun s v=>.of_eq rfl,fun base kb nb hBt=>?_⟩;have w6:=d18.h1 (uo (P:=l.prog) (w:=w) (mg:=mg) (base:=base)) (by intros;rfl);have bx:=d19.h2 (pT (P:=l.prog) (w:=w) (mg:=mg) (base:=base) am) (by intros;rfl);have oF:=d20.h1 (oY bx) (by intros;rfl);have qS:=d28.h1 (mH bx) (by intros;rfl);have mJ:=d29.h3 (kR av bD aC am mG bx oF) (by intros;rfl);have nh:=d21.h3 (uP av am bx oF) (by intros;rfl);have sP:=d22.h3 (vC av am bx nh) (by intros;rfl);have wf:=d23.h3 (tP (P:=l.prog) (w:=w) (mg:=mg) (base:=base) av aC og aQ) (by intros;rfl);have nU:=d24.h3 (p6 aQ aG wf) (by intros;rfl);have vm:=d25.h3 (ui (P:=l.prog) (w:=w) (mg:=mg) (base:=base) aC ao aQ aG) (by intros;rfl);have qu:=d26.h2 (sA (P:=l.prog) (w:=w) (mg:=mg) (base:=base) bA) (by intros;rfl);have qB:=rN qu nU aa aG F27 b27 m27 8;have qf:Has l.prog w K mg base "is_whole" 1 ["thing"] bR:=(d0.h1 (Wb (P:=l.prog) (w:=w) (mg:=mg) (base:=base) aa bD aZ) (by intros;rfl));have eU:Has l.prog w K mg base "is_whole_within" 3 ["thing","least","most"] e9:=(d2.h3 (ly (d1.h2 (Xd (d0.h1 (Wb (P:=l.prog) (w:=w) (mg:=mg) (base:=base) aa bD aZ) (by intros;rfl))) (by intros;rfl))) (by intros;rfl));have tR:=d4.h1 (sG eU ⟨_,e7,r_MOST_ROOM⟩) (by intros;rfl);have H_isS:∀base:Heap,K.In base→base.Ns mainGlobals mg→Has l.prog w K mg base "is_stretch" 4 ["thing","deep"] mj:=fun base _ _=>(d11.h2 (sW aa ao am (d2.h3 (ly (d1.h2 (Xd (d0.h1 (Wb (P:=l.prog) (w:=w) (mg:=mg) (base:=base) aa bD aZ) (by intros;rfl))) (by intros;rfl))) (by intros;rfl)) (d8.h1 (pC (d7.h1 (lj (P:=l.prog) (w:=w) (mg:=mg) (base:=base)) (by intros;rfl))) (by intros;rfl))) (by intros;rfl));have H_are:HasB l.prog w K mg "are_counts" 7 ["thing","is_key"] (gZ l.prog w K mg):=⟨_,_,fun base _ _=>qH aa ao cq (d5.h2 (qt aa ao am (d1.h2 (Xd (d0.h1 (Wb (P:=l.prog) (w:=w) (mg:=mg) (base:=base) aa bD aZ) (by intros;rfl))) (by intros;rfl))) (by intros;rfl)) (d3.h1 (sH (P:=l.prog) (w:=w) (mg:=mg) (base:=base) cq lA) (by intros;rfl)) F6,b6,F6.kp,m6⟩;have tF:=Has.of (nE (T:=T) l16 c16 (W.codeHd_of_K kb hcT) hgP (hBt T (.head _)) aa ao am aQ ⟨_,kO,r_DEEPEST⟩ qf eU tR H_are H_isS) b16 F16.kp m16;have mV:=d9.h1 (jN (P:=l.prog) (w:=w) (mg:=mg) (base:=base)) (by intros;rfl);have sj:=d10.h1 (q5 (P:=l.prog) (w:=w) (mg:=mg) (base:=base)) (by intros;rfl);have rM:=d12.h1 (sE (P:=l.prog) (w:=w) (mg:=mg) (base:=base)) (by intros;rfl);have p_:=d13.h2 (lz sj mV) (by intros;rfl);have h_ff:=d14.h3 (wO aC p_) (by intros;rfl);have tV:=d15.h1 (qo bA h_ff rM) (by intros;rfl);have rQ:=d17.h1 (uM cq tF tV rM) (by intros;rfl);have wp:=d30.h3 (wg (P:=l.prog) (w:=w) (mg:=mg) (base:=base) aa bD aZ) (by intros;rfl);have h_ic:=d31.h2 (vX aa ao am wp) (by intros;rfl);have wY:=d32.h1 (ub aa ao am av aQ bA wp h_ic nU) (by intros;rfl);have rX:=d33.h2 (tL oA am bx) (by intros;rfl);have h_bc:=d34.h2 (wI am bx rX) (by intros;rfl);have tG:=d35.h2 (qy am aG aQ bx rX h_bc) (by intros;rfl);have wT:=d36.h1 (uE aa aZ rQ wY) (by intros;rfl);exact uN av dC w6 bx qS sP qB vm mJ rQ tG wT F37
theorem walk{l:W.OpenLaw}{q:Program}{loose:List Str}{XP:(Str→Option Value)→Heap→Prop}{YP:World→Heap→Prop}{d:DefRec}{K:Params→W.Frag}{c T:Addr}(hn:l.most=some 63)(hdf:d.params.defaults=[])(hY:∀(w:World) (h:Heap),YP w h→(K w.params).In h)(hT:∀(w:World) (mg mb:Str→Option Value) (loose':List Str) (mean:ExcName→Option Value) (h:Heap),PyProof.Rows.Top q loose' mean mg mb h→(K w.params).In h→W.TabsAt [(c,T)] h)(hKT:∀(w:World),(K w.params).lookup T=none)(F:∀(w:World) (mg:Str→Option Value) (fa:Addr) (h:Heap),(K w.params).In h→h.Ns mainGlobals mg→mg d.name=some (.ref fa)→
   ∃fd:FuncData,(∀(s:Shared) (u:Value),BindsTo s fd ⟨[u],[]⟩ [("_law_script",u)])∧∀base:Heap,(K w.params).In base→base.Ns mainGlobals mg→(∀U∈([(c,T)]:List (Addr×Addr)).map (·.2),base.BuiltinsAt mg U)→FnOk l.prog w (K w.params) mg base CX0 11 fa fd ["_law_script"] (ja (K w.params) T)):
  W.WalkO q loose XP YP l.row.toRowW d [] (fun f vs=>PySem.call f vs):=
 L2.walk_T (n:=63) (k:=11) (x:="_law_script") (tabs:=[(c,T)]) (sp:=fun w=>ja (K w.params) T) hn (by decide) hdf (by first | exact⟨rfl,by decide,by decide⟩ | exact⟨rfl,by decide,by decide,rfl⟩) hY hT (fun w U h=>by rw[xq.mp h];exact hKT w) F (fun _ _ a ns hl hS hTT=>⟨a,ns,rfl,hS,hl,⟨.inl (hTT T (.head _))⟩,fun _=>rfl⟩)
end K24
def PySem.W.Fast.tw8587336534076205477:PySem.Program:=PySem.Challenge.pw_sumshare_k24_is_it_a_ladder
theorem PySem.W.Fast.te8587336534076205477:PySem.Challenge.pw_sumshare_k24_is_it_a_ladder=PySem.W.Fast.tw8587336534076205477:=rfl
def K24.qv:PySem.Program:=PySem.W.view PySem.Challenge.pw_sumshare_k24_is_it_a_ladder [1,2,3,4,5,6,7,8,10,11,12,13,14,16,17,18,19,21,22,23,25,26,27,28,29,30,31,32,33,34,35,36,37,38,39,40,41,42,43,44,45]
open PySem PySem.W PyProof.Rows
local macro_rules | `(tactic| o_head $H)=>`(tactic| (refine holds_open (q:=K24.qv) (loose:=[]) (Xt:=fun s=>xlAt K24.qv [] s && recOk [] s) (XP:=XL K24.qv []) (Yf:=Hook.obs $H) (Ya:=Hook.val $H) (YP:=Hook.says $H) (N:=1000000) ?hl (Hook.of $H) (Hook.keeps $H) (fun s e=>xl_of s (Bool.and_eq_true_iff.mp e).1) XL.keeps (by rfl) (by rfl) (by rfl) (fun s e=>recFacts_of (Bool.and_eq_true_iff.mp e).2) (by rfl) (by first | assumption | decide +kernel) (by decide +kernel) ⟨rfl,rfl,rfl,rfl,rfl,by decide +kernel⟩ ?hw ?hc;(case hl=>exact Hd.leftM (p:=PySem.Challenge.pw_sumshare_k24_is_it_a_ladder) rfl (fun _=>rfl) (fun w os=>by kernel_rfl) (fun w os=>by kernel_rfl) rfl fun w os=>by kernel_rfl)))
set_option maxRecDepth 100000 in
set_option maxHeartbeats 0 in
theorem PySem.Challenge.cw_sumshare_k24_is_it_a_ladder_holds : PySem.Challenge.rw_sumshare_k24_is_it_a_ladder.Holds := by
 w_on;o_law;k_head;(case hw=>w_witness2)
 k_fill
 refine K24.walk (l:=PySem.Challenge.rw_sumshare_k24_is_it_a_ladder) (c:=126) (T:=124) rfl rfl (fun w h Y=>PySem.W.km_in_of Y) (fun w mg mb lo mean h TT X=>List.forall_mem_cons.mpr ⟨PySem.W.tab_of (x:=PySem.Str.ofString "is_made_as_ladder") (c:=126) (P:=124) TT X rfl (by kernel_rfl),fun _ h=>nomatch h⟩) (fun w=>by kernel_rfl) ?F
 case F=>
  intro w mg fa h KX G hmg
  refine' K24.all_mk (c:=126) (T:=124) KX G hmg (L2.df_mk KX G ?_ ?_ ?_ ?_) (L2.df_mk KX G ?_ ?_ ?_ ?_) (L2.df_mk KX G ?_ ?_ ?_ ?_) (L2.df_mk KX G ?_ ?_ ?_ ?_) (L2.df_mk KX G ?_ ?_ ?_ ?_) (L2.df_mk KX G ?_ ?_ ?_ ?_) (L2.df_mk KX G ?_ ?_ ?_ ?_) (L2.df_mk KX G ?_ ?_ ?_ ?_) (L2.df_mk KX G ?_ ?_ ?_ ?_) (L2.df_mk KX G ?_ ?_ ?_ ?_) (L2.df_mk KX G ?_ ?_ ?_ ?_) (L2.df_mk KX G ?_ ?_ ?_ ?_) (L2.df_mk KX G ?_ ?_ ?_ ?_) (L2.df_mk KX G ?_ ?_ ?_ ?_) (L2.df_mk KX G ?_ ?_ ?_ ?_) (L2.df_mk KX G ?_ ?_ ?_ ?_) ?a16 ?l16 ?c16 ?k16 (L2.df_mk KX G ?_ ?_ ?_ ?_) (L2.df_mk KX G ?_ ?_ ?_ ?_) (L2.df_mk KX G ?_ ?_ ?_ ?_) (L2.df_mk KX G ?_ ?_ ?_ ?_) (L2.df_mk KX G ?_ ?_ ?_ ?_) (L2.df_mk KX G ?_ ?_ ?_ ?_) (L2.df_mk KX G ?_ ?_ ?_ ?_) (L2.df_mk KX G ?_ ?_ ?_ ?_) (L2.df_mk KX G ?_ ?_ ?_ ?_) (L2.df_mk KX G ?_ ?_ ?_ ?_) (L2.df_mk KX G ?_ ?_ ?_ ?_) (L2.df_mk KX G ?_ ?_ ?_ ?_) (L2.df_mk KX G ?_ ?_ ?_ ?_) (L2.df_mk KX G ?_ ?_ ?_ ?_) (L2.df_mk KX G ?_ ?_ ?_ ?_) (L2.df_mk KX G ?_ ?_ ?_ ?_) (L2.df_mk KX G ?_ ?_ ?_ ?_) (L2.df_mk KX G ?_ ?_ ?_ ?_) (L2.df_mk KX G ?_ ?_ ?_ ?_) (L2.df_mk KX G ?_ ?_ ?_ ?_) ?a37 ?l37 ?c37 ?k37 (xS KX G ?_) (xS KX G ?_) (xS KX G ?_) (xS KX G ?_) (xS KX G ?_) (xS KX G ?_) (xS KX G ?_) (xS KX G ?_) (xS KX G ?_) (xS KX G ?_) (xS KX G ?_) (xS KX G ?_) (xS KX G ?_) (xS KX G ?_) (xS KX G ?_) (xS KX G ?_) ?y_MOST_ROOM ?r_MOST_ROOM ?y_DEEPEST ?r_DEEPEST ?hcT ?hgP
  (case a16=>k_is);(case l16=>k_is);(case c16=>k_is);(case k16=>k_is)
  (case a37=>k_is);(case l37=>k_is);(case c37=>k_is);(case k37=>k_is)
  (case y_MOST_ROOM=>k_is)
  (case r_MOST_ROOM=>exact⟨_,rfl⟩)
  (case y_DEEPEST=>k_is)
  (case r_DEEPEST=>exact⟨_,rfl⟩)
  (case hcT=>kernel_rfl);(case hgP=>decide)
  any_goals k_is
