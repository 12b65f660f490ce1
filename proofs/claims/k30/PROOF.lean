import PyProof.Rows.All
import Wide.All
import OpenK.AllK
import Wide.FinOn
import Lean
import PyProof.EqAt
import PyProof.EqKinds
import PyProof.TupleCall
import PySem.Challenge.RW_sumshare_k30_lowest_and_highest
set_option Elab.async false
set_option linter.all false
set_option maxRecDepth 100000
section
open PySem PySem.Spec PyProof.Rows
theorem io:type_of%@PySem.wpAny_bind:=@PySem.wpAny_bind
theorem pi.{u0,u1}:type_of%@List.length_map.{u0,u1}:=@List.length_map.{u0,u1}
theorem yx:type_of%@PySem.wpAny_pure:=@PySem.wpAny_pure
theorem yy:type_of%@PySem.Heap.get?_push_of_some:=@PySem.Heap.get?_push_of_some
theorem yz.{u0,u1}:type_of%@List.mem_map.{u0,u1}:=@List.mem_map.{u0,u1}
theorem yA.{u0}:type_of%@if_neg.{u0}:=@if_neg.{u0}
theorem yB:type_of%@Nat.le_refl:=@Nat.le_refl
theorem yC.{u0}:type_of%@if_pos.{u0}:=@if_pos.{u0}
theorem yD.{u0,u1}:type_of%@List.map_cons.{u0,u1}:=@List.map_cons.{u0,u1}
theorem yE:type_of%@PySem.Heap.lt_size:=@PySem.Heap.lt_size
theorem yF:type_of%@decide_eq_true:=@decide_eq_true
theorem yG.{u0}:type_of%@List.mem_singleton.{u0}:=@List.mem_singleton.{u0}
theorem yH:type_of%@PySem.Heap.get?_push_size:=@PySem.Heap.get?_push_size
theorem yI.{u0}:type_of%@List.getElem?_eq_some_iff.{u0}:=@List.getElem?_eq_some_iff.{u0}
theorem yJ:type_of%@of_decide_eq_true:=@of_decide_eq_true
theorem yK:type_of%@PySem.Paired.length:=@PySem.Paired.length
theorem yL.{u0,u1}:type_of%@List.getElem?_map.{u0,u1}:=@List.getElem?_map.{u0,u1}
theorem yM.{u0}:type_of%@List.length_append.{u0}:=@List.length_append.{u0}
theorem yN:type_of%@Nat.ne_of_lt:=@Nat.ne_of_lt
theorem yO.{u0}:type_of%@List.mem_cons.{u0}:=@List.mem_cons.{u0}
theorem yP:type_of%@Bool.false_ne_true:=@Bool.false_ne_true
theorem yQ.{u0,u1,u2}:type_of%@List.map_map.{u0,u1,u2}:=@List.map_map.{u0,u1,u2}
theorem yR.{u0,u1}:type_of%@List.map_append.{u0,u1}:=@List.map_append.{u0,u1}
theorem yS.{u0}:type_of%@Array.getElem?_eq_getElem.{u0}:=@Array.getElem?_eq_getElem.{u0}
theorem yT.{u0}:type_of%@List.mem_append_right.{u0}:=@List.mem_append_right.{u0}
theorem yU.{u0}:type_of%@Array.length_toList.{u0}:=@Array.length_toList.{u0}
theorem yV.{u0}:type_of%@List.take_length.{u0}:=@List.take_length.{u0}
theorem yW.{u0}:type_of%@List.mem_of_getElem?.{u0}:=@List.mem_of_getElem?.{u0}
theorem yX.{u0}:type_of%@List.length_take.{u0}:=@List.length_take.{u0}
theorem yY:type_of%@decide_eq_false:=@decide_eq_false
theorem yZ.{u0}:type_of%@List.mem_filter.{u0}:=@List.mem_filter.{u0}
theorem y3.{u0}:type_of%@List.getElem?_eq_getElem.{u0}:=@List.getElem?_eq_getElem.{u0}
theorem y4.{u0}:type_of%@List.sum_cons.{u0}:=@List.sum_cons.{u0}
theorem y7.{u0}:type_of%@List.nodup_cons.{u0}:=@List.nodup_cons.{u0}
theorem y8.{u0,u1}:type_of%@Option.map_eq_some_iff.{u0,u1}:=@Option.map_eq_some_iff.{u0,u1}
theorem y9:type_of%@Int.le_refl:=@Int.le_refl
theorem zc:type_of%@PySem.wpAny_dictEntries:=@PySem.wpAny_dictEntries
theorem zd:type_of%@Nat.lt_of_lt_of_le:=@Nat.lt_of_lt_of_le
theorem ze.{u0}:type_of%@List.pairwise_cons.{u0}:=@List.pairwise_cons.{u0}
theorem zf.{u0}:type_of%@List.size_toArray.{u0}:=@List.size_toArray.{u0}
theorem zk.{u0}:type_of%@List.mem_append.{u0}:=@List.mem_append.{u0}
theorem zl:type_of%@PySem.PassesOwn.never:=@PySem.PassesOwn.never
theorem zn:type_of%@PySem.wpAny_holding:=@PySem.wpAny_holding
theorem zo.{u0}:type_of%@Array.getElem?_toList.{u0}:=@Array.getElem?_toList.{u0}
theorem zt.{u0}:type_of%@List.filter_cons.{u0}:=@List.filter_cons.{u0}
theorem zu.{u0}:type_of%@List.length_cons.{u0}:=@List.length_cons.{u0}
theorem zw.{u0}:type_of%@List.not_mem_nil.{u0}:=@List.not_mem_nil.{u0}
theorem zy.{u0}:type_of%@List.mem_cons_self.{u0}:=@List.mem_cons_self.{u0}
theorem zz:type_of%@Bool.and_eq_true:=@Bool.and_eq_true
theorem zA.{u0}:type_of%@List.nodup_nil.{u0}:=@List.nodup_nil.{u0}
theorem zB:type_of%@PySem.wpAny_newObj_type:=@PySem.wpAny_newObj_type
theorem zC.{u0}:type_of%@List.mem_cons_of_mem.{u0}:=@List.mem_cons_of_mem.{u0}
theorem zD.{u0}:type_of%@Option.some.inj.{u0}:=@Option.some.inj.{u0}
theorem zE:type_of%@Nat.le_trans:=@Nat.le_trans
theorem zF:type_of%@PyProof.Rows.boot_isinstance:=@PyProof.Rows.boot_isinstance
theorem zG.{u0}:type_of%@List.length_filter_le.{u0}:=@List.length_filter_le.{u0}
theorem zH:type_of%@PySem.W.mg_none_of:=@PySem.W.mg_none_of
theorem zI:type_of%@PySem.Around.under_plainId:=@PySem.Around.under_plainId
theorem zJ:type_of%@PySem.wpAny_call_entry:=@PySem.wpAny_call_entry
theorem zK:type_of%@PyProof.Rows.boot_sorted:=@PyProof.Rows.boot_sorted
theorem zL.{u0}:type_of%@List.all_eq_true.{u0}:=@List.all_eq_true.{u0}
theorem zM:type_of%@PySem.codeAny_builtin:=@PySem.codeAny_builtin
theorem zN.{u0,u1}:type_of%@Prod.ext.{u0,u1}:=@Prod.ext.{u0,u1}
theorem zO:type_of%@PyProof.Rows.wpS_bind:=@PyProof.Rows.wpS_bind
theorem zP:type_of%@Nat.zero_le:=@Nat.zero_le
theorem zQ.{u0}:type_of%@List.getElem?_cons_zero.{u0}:=@List.getElem?_cons_zero.{u0}
theorem zR:type_of%@Nat.ne_of_gt:=@Nat.ne_of_gt
theorem zS:type_of%@PySem.Heap.get?_update_other:=@PySem.Heap.get?_update_other
theorem zT:type_of%@PySem.wpAny_mono:=@PySem.wpAny_mono
theorem zU:type_of%@PyProof.Rows.boot_sum:=@PyProof.Rows.boot_sum
theorem zV:type_of%@Bool.eq_iff_iff:=@Bool.eq_iff_iff
theorem zW.{u0,u1}:type_of%@congrArg.{u0,u1}:=@congrArg.{u0,u1}
theorem zX:type_of%@PySem.F.plainAttrs_dict:=@PySem.F.plainAttrs_dict
theorem zY:type_of%@Bool.eq_false_iff:=@Bool.eq_false_iff
theorem zZ.{u0}:type_of%@List.length_nil.{u0}:=@List.length_nil.{u0}
theorem z4:type_of%@PySem.mem_of_lookup:=@PySem.mem_of_lookup
theorem z5:type_of%@Int.one_mul:=@Int.one_mul
theorem z6.{u0}:type_of%@List.length_singleton.{u0}:=@List.length_singleton.{u0}
theorem z7:type_of%@PySem.wpAny_notOrdered_dict:=@PySem.wpAny_notOrdered_dict
theorem z8:type_of%@PySem.wpAny_truthy_bool:=@PySem.wpAny_truthy_bool
theorem z9.{u0,u1}:type_of%@List.pairwise_map.{u0,u1}:=@List.pairwise_map.{u0,u1}
theorem Aa:type_of%@Int.le_trans:=@Int.le_trans
theorem Ab.{u0}:type_of%@List.mem_append_left.{u0}:=@List.mem_append_left.{u0}
theorem Ac.{u0}:type_of%@List.filter_append.{u0}:=@List.filter_append.{u0}
theorem Ad:type_of%@Int.mul_le_mul_of_nonneg_right:=@Int.mul_le_mul_of_nonneg_right
theorem Ae.{u0,u1}:type_of%@List.map_congr_left.{u0,u1}:=@List.map_congr_left.{u0,u1}
theorem Af:type_of%@Nat.lt_succ_of_lt:=@Nat.lt_succ_of_lt
theorem Ag:type_of%@PyProof.Rows.wpS_pure:=@PyProof.Rows.wpS_pure
theorem Ah:type_of%@Nat.le_of_lt:=@Nat.le_of_lt
theorem Ai:type_of%@PySem.F.plain_list_iadd:=@PySem.F.plain_list_iadd
theorem Aj.{u0}:type_of%@List.getElem?_of_mem.{u0}:=@List.getElem?_of_mem.{u0}
theorem Ak:type_of%@Int.mul_assoc:=@Int.mul_assoc
theorem Al.{u0}:type_of%@Array.getElem?_eq_none.{u0}:=@Array.getElem?_eq_none.{u0}
theorem Am:type_of%@Nat.lt_or_ge:=@Nat.lt_or_ge
theorem An:type_of%@PySem.boot_len:=@PySem.boot_len
theorem Ao.{u0}:type_of%@beq_eq_false_iff_ne.{u0}:=@beq_eq_false_iff_ne.{u0}
theorem Ap.{u0}:type_of%@List.filter_eq_self.{u0}:=@List.filter_eq_self.{u0}
theorem Aq:type_of%@PyProof.Rows.slot_tuple_getitem:=@PyProof.Rows.slot_tuple_getitem
theorem Ar:type_of%@PySem.F.plain_extend_loop:=@PySem.F.plain_extend_loop
theorem As:type_of%@Int.emod_lt_of_pos:=@Int.emod_lt_of_pos
theorem At:type_of%@PySem.tupleKind_room_in1:=@PySem.tupleKind_room_in1
theorem Au:type_of%@of_decide_eq_false:=@of_decide_eq_false
theorem Av:type_of%@PySem.wpAny_typeNameOfWhole_itemiter:=@PySem.wpAny_typeNameOfWhole_itemiter
theorem Aw:type_of%@Nat.lt_trans:=@Nat.lt_trans
theorem Ax:type_of%@PySem.F.slot_dict_values:=@PySem.F.slot_dict_values
theorem Ay.{u0}:type_of%@List.mem_iff_getElem.{u0}:=@List.mem_iff_getElem.{u0}
theorem Az.{u0}:type_of%@Array.toArray_toList.{u0}:=@Array.toArray_toList.{u0}
theorem AA:type_of%@PySem.wpAny_typeNameOfWhole_keyiter:=@PySem.wpAny_typeNameOfWhole_keyiter
theorem AB:type_of%@PySem.wpAny_typeNameOfWhole_valiter:=@PySem.wpAny_typeNameOfWhole_valiter
theorem AC.{u0,u1}:type_of%@Std.Legacy.Range.forIn_eq_forIn_range'.{u0,u1}:=@Std.Legacy.Range.forIn_eq_forIn_range'.{u0,u1}
theorem AD:type_of%@PySem.Heap.SameBut.update:=@PySem.Heap.SameBut.update
theorem AE:type_of%@PySem.wpAny_typeOf:=@PySem.wpAny_typeOf
theorem AF:type_of%@PyProof.Rows.boot_list:=@PyProof.Rows.boot_list
theorem AG:type_of%@Int.le_of_lt:=@Int.le_of_lt
theorem AH:type_of%@Nat.lt_irrefl:=@Nat.lt_irrefl
theorem AI:type_of%@Int.mul_one:=@Int.mul_one
theorem AJ:type_of%@PySem.wpAny_field:=@PySem.wpAny_field
theorem AK:type_of%@PySem.plainId_quiet:=@PySem.plainId_quiet
theorem AL:type_of%@PySem.wpAny_rule:=@PySem.wpAny_rule
theorem AM:type_of%@decide_eq_true_iff:=@decide_eq_true_iff
theorem AN:type_of%@PySem.Calls.call_function_entry:=@PySem.Calls.call_function_entry
theorem AO:type_of%@PySem.wpAny_passesOwn:=@PySem.wpAny_passesOwn
theorem AQ:type_of%@Int.emod_nonneg:=@Int.emod_nonneg
theorem AR:type_of%@PyProof.Rows.get?_update_seq:=@PyProof.Rows.get?_update_seq
theorem AS:type_of%@PySem.wpAny_dictEpoch:=@PySem.wpAny_dictEpoch
theorem AT.{u0}:type_of%@List.append_assoc.{u0}:=@List.append_assoc.{u0}
theorem AU:type_of%@PySem.wpAny_setState_of:=@PySem.wpAny_setState_of
theorem AV:type_of%@PySem.wpAny_pyIter_slot:=@PySem.wpAny_pyIter_slot
theorem AW:type_of%@List.length_range:=@List.length_range
theorem AX:type_of%@Int.add_mul:=@Int.add_mul
theorem AY.{u0,u1}:type_of%@List.filterMap_cons.{u0,u1}:=@List.filterMap_cons.{u0,u1}
theorem AZ:type_of%@PySem.Heap.get?_update_ne:=@PySem.Heap.get?_update_ne
theorem A0:type_of%@Bool.false_and:=@Bool.false_and
theorem A1:type_of%@PySem.Heap.size_push:=@PySem.Heap.size_push
theorem A2:type_of%@PySem.wpAny_isInstance:=@PySem.wpAny_isInstance
theorem A3:type_of%@PySem.wpAny_fieldsOf:=@PySem.wpAny_fieldsOf
theorem A4:type_of%@PySem.F.plainAttrs_list:=@PySem.F.plainAttrs_list
theorem A5:type_of%@PySem.codeAny_mono:=@PySem.codeAny_mono
theorem A6:type_of%@Nat.lt_of_le_of_lt:=@Nat.lt_of_le_of_lt
theorem A7:type_of%@PyProof.Rows.boot_dict:=@PyProof.Rows.boot_dict
theorem A8.{u0}:type_of%@List.append_nil.{u0}:=@List.append_nil.{u0}
theorem A9.{u0}:type_of%@List.sum_append.{u0}:=@List.sum_append.{u0}
theorem Ba:type_of%@PySem.W.kia_one:=@PySem.W.kia_one
theorem Bb:type_of%@PySem.Heap.get?_update_self:=@PySem.Heap.get?_update_self
theorem Bc.{u0}:type_of%@List.getElem?_eq_none.{u0}:=@List.getElem?_eq_none.{u0}
theorem Bd:type_of%@PySem.wpAny_pyIter_list:=@PySem.wpAny_pyIter_list
theorem Be.{u0}:type_of%@List.nodup_append.{u0}:=@List.nodup_append.{u0}
theorem Bf:type_of%@PySem.wpAny_load:=@PySem.wpAny_load
theorem Bg:type_of%@PyProof.Rows.entry_proto_collect':=@PyProof.Rows.entry_proto_collect'
theorem Bh.{u0}:type_of%@List.Perm.refl.{u0}:=@List.Perm.refl.{u0}
theorem Bi.{u0}:type_of%@List.mem_of_mem_take.{u0}:=@List.mem_of_mem_take.{u0}
theorem Bj:type_of%@Int.mul_nonneg:=@Int.mul_nonneg
theorem Bk.{u0}:type_of%@List.mem_of_mem_drop.{u0}:=@List.mem_of_mem_drop.{u0}
theorem Bl:type_of%@Nat.lt_succ_self:=@Nat.lt_succ_self
theorem Bm:type_of%@PySem.call_meetsIn:=@PySem.call_meetsIn
theorem Bn:type_of%@PySem.Heap.size_update:=@PySem.Heap.size_update
theorem Bo:type_of%@Int.zero_add:=@Int.zero_add
theorem Bp:type_of%@Int.mul_zero:=@Int.mul_zero
theorem Bq:type_of%@PySem.wpAny_newList:=@PySem.wpAny_newList
theorem Br.{u0,u1,u2}:type_of%@List.forIn_cons.{u0,u1,u2}:=@List.forIn_cons.{u0,u1,u2}
theorem Bs:type_of%@PySem.wpAny_specialOf:=@PySem.wpAny_specialOf
theorem Bt:type_of%@PyProof.Rows.size_push':=@PyProof.Rows.size_push'
theorem Bu.{u0,u1}:type_of%@Sum.inl.inj.{u0,u1}:=@Sum.inl.inj.{u0,u1}
theorem Bv.{u0,u1}:type_of%@List.map_nil.{u0,u1}:=@List.map_nil.{u0,u1}
theorem Bw:type_of%@List.mem_range:=@List.mem_range
theorem Bx:type_of%@PySem.wpAny_runValue:=@PySem.wpAny_runValue
theorem By:type_of%@PyProof.Rows.wpS_forRange:=@PyProof.Rows.wpS_forRange
theorem Bz:type_of%@Int.lt_or_le:=@Int.lt_or_le
theorem BA:type_of%@Nat.zero_add:=@Nat.zero_add
theorem BB:type_of%@Int.pow_succ:=@Int.pow_succ
theorem BC.{u0}:type_of%@List.drop_zero.{u0}:=@List.drop_zero.{u0}
theorem BD:type_of%@Int.mul_comm:=@Int.mul_comm
end
namespace L2
open PySem PySem.Spec PyProof.Rows
abbrev Key:=Sum Int Str
def c5:Key→Value→Bool
 |.inl k,v=>Value.isInt k v
 |.inr x,v=>Value.isStrOf x v
def keyH(w:World):Key→Int
 |.inl k=>hashInt k
 |.inr x=>hashStr w x
theorem Yd:∀{k:Key}{v:Value},c5 k v=true→(∃i t,k=Sum.inl i∧v=Value.int i t)∨(∃x t,k=Sum.inr x∧v=Value.str x t)
 |.inl i,v,h=>by
  obtain⟨t,e⟩:=Value.isInt_shape (k:=i) (v:=v) h;exact .inl ⟨i,t,rfl,e⟩
 |.inr x,v,h=>by
  obtain⟨t,e⟩:=Value.isStrOf_shape (x:=x) (v:=v) h;exact .inr ⟨x,t,rfl,e⟩
theorem k_(i:Int)(t:Tok):c5 (.inl i) (.int i t)=true:=by simp[c5,Value.isInt]
theorem mH(x:Str)(t:Tok):c5 (.inr x) (.str x t)=true:=by simp[c5,Value.isStrOf]
theorem uN(a b:Int):decide ((Sum.inl a:Key)=Sum.inl b)=(a==b):=by
 by_cases e:a=b
 ·subst e;simp
 ·have h:¬(Sum.inl a:Key)=Sum.inl b:=fun q=>e (Bu q);rw[yY h];exact(Ao.mpr e).symm
theorem uL(a b:Str):decide ((Sum.inr a:Key)=Sum.inr b)=decide (a=b):=by
 by_cases e:a=b
 ·subst e;simp
 ·have h:¬(Sum.inr a:Key)=Sum.inr b:=fun q=>e (Sum.inr.inj q);rw[yY h,yY e]
theorem vI(a:Int)(b:Str):decide ((Sum.inl a:Key)=Sum.inr b)=false:=yY (fun q=>nomatch q)
theorem u5(a:Str)(b:Int):decide ((Sum.inr a:Key)=Sum.inl b)=false:=yY (fun q=>nomatch q)
def ac(prog:Program)(w:World):PySem.KeyKind prog w Key where
 is:=c5
 hash:=keyH w
 inj:=fun v a b ha hb=>by
  rcases Yd ha with⟨i,t,rfl,rfl⟩|⟨x,t,rfl,rfl⟩
  ·rcases Yd hb with⟨j,u,rfl,e⟩|⟨y,u,rfl,e⟩
   ·injection e with e1 _;rw[e1]
   ·exact nomatch e
  ·rcases Yd hb with⟨j,u,rfl,e⟩|⟨y,u,rfl,e⟩
   ·exact nomatch e
   ·injection e with e1 _;rw[e1]
 byValue:=fun k v h=>by
  rcases Yd h with⟨i,t,rfl,rfl⟩|⟨x,t,rfl,rfl⟩ <;> rfl
 pyHash:=fun hv h=>by
  rcases Yd hv with⟨i,t,rfl,rfl⟩|⟨x,t,rfl,rfl⟩
  ·exact wpAny_pyHash_int h
  ·exact wpAny_pyHash_str h
 eqBool:=fun hu hv h=>by
  rcases Yd hu with⟨i,t,rfl,rfl⟩|⟨x,t,rfl,rfl⟩
  ·rcases Yd hv with⟨j,u,rfl,rfl⟩|⟨y,u,rfl,rfl⟩
   ·rw[uN]at h;exact wpAny_eqBool_int h
   ·rw[vI]at h;exact SeqAt.EqAt.int_str i t y u _ _ _ _ h
  ·rcases Yd hv with⟨j,u,rfl,rfl⟩|⟨y,u,rfl,rfl⟩
   ·rw[u5]at h;exact SeqAt.EqAt.str_int x t j u _ _ _ _ h
   ·rw[uL]at h;exact wpAny_eqBool_str h
 «strs»:=fun k x t v h=>by
  rcases Yd h with⟨i,u,rfl,e⟩|⟨y,u,rfl,e⟩
  ·exact nomatch e
  ·injection e with e1 _
   subst e1;cases v <;> rfl
theorem Wt(prog:Program)(w:World)(i:Int)(t:Tok):(ac prog w).is (.inl i) (.int i t)=true:=k_ i t
theorem Ss(prog:Program)(w:World)(x:Str)(t:Tok):(ac prog w).is (.inr x) (.str x t)=true:=mH x t
inductive V where
 |non | bl (b:Bool) | int (i:Int) | str (x:Str) | byt (b:Array UInt8) | flt (b:UInt64) | ref (a:Addr) | ty (n:String)
 deriving DecidableEq
def RelV:V→Value→Prop
 |.non,u=>u=Value.none
 |.bl b,u=>u=Value.bool b
 |.int i,u=>∃t,u=Value.int i t
 |.str x,u=>∃t,u=Value.str x t
 |.byt b,u=>∃t,u=Value.bytes b t
 |.flt b,u=>∃t,u=Value.float b t
 |.ref a,u=>u=Value.ref a
 |.ty n,u=>u=Value.type n
abbrev Vals:List V→List Value→Prop:=Paired RelV
theorem Vals.length{xs:List V}{us:List Value}(r:Vals xs us):xs.length=us.length:=yK r
theorem Vals.get:∀{xs:List V}{us:List Value}{i:Nat}{x:V},Vals xs us→xs[i]?=some x→∃u,us[i]?=some u∧RelV x u
 |_,_,_,_,.nil,e=>by simp at e
 |_,_,0,_,.cons r _,e=>by simp at e;subst e;exact⟨_,rfl,r⟩
 |_,_,i+1,x,.cons _ t,e=>by
  obtain⟨u,h1,h2⟩:=Vals.get (i:=i) (x:=x) t (by simpa using e);exact⟨u,by simpa using h1,h2⟩
theorem Vals.set{x:V}{u:Value}(r:RelV x u):∀{xs:List V}{us:List Value}(i:Nat),Vals xs us→Vals (xs.set i x) (us.set i u)
 |_,_,_,.nil=>.nil
 |_,_,0,.cons _ t=>.cons r t
 |_,_,i+1,.cons q t=>.cons q (Vals.set r i t)
theorem Vals.append{xs ys:List V}{us ws:List Value}(h:Vals xs us)(s:Vals ys ws):Vals (xs++ys) (us++ws):=by
 induction h with
 |nil=>exact s
 |cons r t ih=>exact .cons r ih
theorem Vals.take:∀{xs:List V}{us:List Value}(n:Nat),Vals xs us→Vals (xs.take n) (us.take n)
 |_,_,0,_=>.nil
 |_,_,_+1,.nil=>.nil
 |_,_,n+1,.cons r t=>.cons r (Vals.take n t)
theorem Vals.drop:∀{xs:List V}{us:List Value}(n:Nat),Vals xs us→Vals (xs.drop n) (us.drop n)
 |_,_,0,r=>r
 |_,_,_+1,.nil=>.nil
 |_,_,n+1,.cons _ t=>Vals.drop n t
def RelO:Option V→Option Value→Prop
 |some v,some u=>RelV v u
 |none,none=>True
 |_,_=>False
def KV{κ:Type}:List (κ×V)→List (κ×Value)→Prop:=Paired fun(p:κ×V)(q:κ×Value)=>p.1=q.1∧RelV p.2 q.2
def kV:Key→V
 |.inl i=>.int i
 |.inr x=>.str x
inductive HO where
 |lst (xs:List V)
 |tup (xs:List V)
 |dK (kvs:List (Key×V)) | dT (kvs:List (List Key×V))
 |set (S:Int→Bool) (n:Nat)
 |ins (C dx:Addr) (fs:List (Str×V))
 |own (x:Addr)
 |xd (fs:List (Str×V))
 |met (f x:Addr)
 |rng (lo hi:Int)
 |frz (o:Obj) (u:HO)
 |tbl (ps:Array Value)
 |ext (φ:Heap→Prop)
abbrev Hp:=Addr→Option HO
def upd(H:Hp)(a:Addr)(o:HO):Hp:=fun b=>if b=a then some o else H b
theorem Z3{H:Hp}{a:Addr}{o:HO}:upd H a o a=some o:=by unfold upd;rw[yC rfl]
theorem Zc{H:Hp}{a b:Addr}{o:HO}(h:b≠a):upd H a o b=H b:=by unfold upd;rw[yA h]
theorem U1{H:Hp}{a b:Addr}{o u:HO}(h:H a=some o)(h':H b=some u)(d:o≠u):a≠b:=by
 intro e;subst e;rw[h]at h';exact d (zD h')
theorem Zk{H:Hp}{a b:Addr}{o:HO}(h:H a=some o)(h':H b=none):a≠b:=by
 intro e;subst e;rw[h]at h';cases h'
def TupN(h:Heap)(a:Addr)(items:Array Value):Prop:=∃o,h.get? a=some o∧(o.cls=.type "tuple"∧o.dict=none)∧∃n,o.data=.seq items n
theorem TupN.tup{h:Heap}{a:Addr}{items:Array Value}(x:TupN h a items):IsTup h a items:=let ⟨o,e,c,n,d⟩:=x;⟨o,e,c.1,n,d⟩
theorem TupN.new(h:Heap)(items:Array Value):TupN (h.push {cls:=.type "tuple",data:=.seq items}) h.objs.size items:=⟨_,yH _ rfl,⟨rfl,rfl⟩,_,rfl⟩
section
variable(P:Program)(w:World)
def ObjOk(H:Hp)(h:Heap)(a:Addr):HO→Prop
 |.lst xs=>xs.length≤sizeLine∧∃(its:List Value)(n:Nat),Vals xs its∧h.get? a=some {cls:=.type "list",data:=.seq its.toArray n}
 |.tup xs=>xs.length≤sizeLine∧∃its:List Value,Vals xs its∧TupN h a its.toArray
 |.dK kvs=>kvs.length≤sizeLine∧(a==sysModules)=false∧∃vs,KV kvs vs∧h.DictOf (ac P w) a vs
 |.dT kvs=>kvs.length≤sizeLine∧(a==sysModules)=false∧∃xs:List (List Key×Addr×Value),
   Paired (fun(p:List Key×V)(q:List Key×Addr×Value)=>p.1=q.1∧H q.2.1=some (.tup (p.1.map kV))∧RelV p.2 q.2.2) kvs xs∧
   ∃o es ep,h.get? a=some o∧o.ExactDict∧o.data=.dict es ep∧es.toList=xs.map (entryOfKey (tupleKind (ac P w)))∧(xs.map (·.1)).Nodup
 |.set S n=>h.SetOf (intKind P w) a S n
 |.ins C dx fs=>H dx=some (.own a)∧fs.length≤1000∧dx≠a∧h.get? a=some (W.instObj C dx)∧
   ∃mA,h.Ns1 dx mA∧(∀f,RelO (fs.lookup f) (mA f))∧PySem.Within mA (fs.map (·.1))
 |.own _=>∃o,h.get? a=some o
 |.xd fs=>∃mA,h.Ns1 a mA∧∀f,RelO (fs.lookup f) (mA f)
 |.rng lo hi=>∃t u v,h.get? a=some {cls:=.type "range",data:=.fields #[.int lo t,.int hi u,.int 1 v]}
 |.frz o u=>h.get? a=some o∧ObjOk H h a u
 |.tbl ps=>h.get? a=some {cls:=.none,data:=.fields ps}
 |.met f x=>h.get? a=some (W.methodObj (.ref f) (.ref x))
 |.ext φ=>φ h∧(∃o,h.get? a=some o)∧∀h1 h2:Heap,φ h1→(∀o,h1.get? a=some o→h2.get? a=some o)→φ h2
def HOk(H:Hp)(h:Heap):Prop:=∀a o,H a=some o→ObjOk P w H h a o
end
section
variable{P:Program}{w:World}{H H':Hp}{h h':Heap}{a:Addr}{o:HO}
theorem ObjOk.lt(x:ObjOk P w H h a o):a<h.objs.size:=by
 cases o with
 |lst xs=>obtain⟨_,_,_,_,e⟩:=x;exact yE e
 |tup xs=>obtain⟨_,_,_,p⟩:=x;exact p.tup.lt
 |dK kvs=>obtain⟨_,_,_,_,o,_,_,e,_⟩:=x;exact yE e
 |dT kvs=>obtain⟨_,_,_,_,o,_,_,e,_⟩:=x;exact yE e
 |set S n=>obtain⟨o,_,_,_,e,_⟩:=x;exact yE e
 |ins C dx fs=>obtain⟨_,_,_,e,_⟩:=x;exact yE e
 |own y=>obtain⟨_,e⟩:=x;exact yE e
 |xd fs=>obtain⟨_,⟨_,_,_,e,_⟩,_⟩:=x;exact yE e
 |rng lo hi=>obtain⟨_,_,_,e⟩:=x;exact yE e
 |frz ob u=>obtain⟨e,_⟩:=x;exact yE e
 |tbl ps=>exact yE (show h.get? a=some _ from x)
 |met f y=>exact yE (show h.get? a=some _ from x)
 |ext φ=>obtain⟨_,⟨_,e⟩,_⟩:=x;exact yE e
theorem Paired.mapP{α β:Type}{F G:α→β→Prop}{l₁:List α}{l₂:List β}(h:Paired F l₁ l₂)(f:∀a b,F a b→G a b):Paired G l₁ l₂:=by
 induction h with
 |nil=>exact .nil
 |cons r t ih=>exact .cons (f _ _ r) ih
theorem ObjOk.stay(x:ObjOk P w H h a o)(k:∀b u,(b=a∨H b=some (.own a))→h.get? b=some u→h'.get? b=some u)(ho:∀b,H b=some (.own a)→H' b=some (.own a))(ht:∀b xs,H b=some (.tup xs)→H' b=some (.tup xs)):ObjOk P w H' h' a o:=by
 induction o with
 |lst xs=>obtain⟨z,its,n,r,e⟩:=x;exact⟨z,its,n,r,k _ _ (.inl rfl) e⟩
 |tup xs=>obtain⟨z,its,r,ob,e,c⟩:=x;exact⟨z,its,r,ob,k _ _ (.inl rfl) e,c⟩
 |dK kvs=>obtain⟨z,y,vs,r,ob,es,ep,e,c⟩:=x;exact⟨z,y,vs,r,ob,es,ep,k _ _ (.inl rfl) e,c⟩
 |dT kvs=>
  obtain⟨z,y,xs,r,ob,es,ep,e,c⟩:=x;exact⟨z,y,xs,Paired.mapP r fun p q z=>⟨z.1,ht _ _ z.2.1,z.2.2⟩,ob,es,ep,k _ _ (.inl rfl) e,c⟩
 |set S n=>obtain⟨ob,es,ep,t,e,c⟩:=x;exact⟨ob,es,ep,t,k _ _ (.inl rfl) e,c⟩
 |ins C dx fs=>
  obtain⟨d,z,ne,e,mA,⟨od,es,ep,e2,c⟩,r⟩:=x;exact⟨ho _ d,z,ne,k _ _ (.inl rfl) e,mA,⟨od,es,ep,k _ _ (.inr d) e2,c⟩,r⟩
 |own y=>obtain⟨ob,e⟩:=x;exact⟨ob,k _ _ (.inl rfl) e⟩
 |xd fs=>obtain⟨mA,⟨od,es,ep,e,c⟩,r⟩:=x;exact⟨mA,⟨od,es,ep,k _ _ (.inl rfl) e,c⟩,r⟩
 |rng lo hi=>obtain⟨t,u,v,e⟩:=x;exact⟨t,u,v,k _ _ (.inl rfl) e⟩
 |frz ob u ih=>obtain⟨e,q⟩:=x;exact⟨k _ _ (.inl rfl) e,ih q⟩
 |tbl ps=>
  have e:h.get? a=some {cls:=.none,data:=.fields ps}:=x;show h'.get? a=some {cls:=.none,data:=.fields ps};exact k a _ (.inl rfl) e
 |met f y=>
  have e:h.get? a=some (W.methodObj (.ref f) (.ref y)):=x;show h'.get? a=some (W.methodObj (.ref f) (.ref y));exact k a _ (.inl rfl) e
 |ext φ=>obtain⟨p,⟨o,e⟩,st⟩:=x;exact⟨st _ _ p fun o q=>k _ _ (.inl rfl) q,⟨o,k _ _ (.inl rfl) e⟩,st⟩
theorem HOk.lt(x:HOk P w H h)(e:H a=some o):a<h.objs.size:=(x a o e).lt
theorem HOk.fresh(x:HOk P w H h)(e:h.objs.size≤a):H a=none:=by
 cases q:H a with
 |none=>rfl
 |some u=>exact absurd (zd (x.lt q) e) (AH _)
theorem HOk.kept(x:HOk P w H h)(k:∀b u,h.get? b=some u→h'.get? b=some u):HOk P w H h':=fun a o e=>
 (x a o e).stay (fun b u _ q=>k b u q) (fun _ q=>q) fun _ _ q=>q
theorem HOk.laid(x:HOk P w H h)(k:∀b u,h.get? b=some u→h'.get? b=some u)(hp:h.objs.size≤a)(new:ObjOk P w (upd H a o) h' a o):HOk P w (upd H a o) h':=fun b u e=>by
 have hn:=x.fresh hp;by_cases hb:b=a
 ·subst hb;rw[Z3]at e;cases e;exact new
 ·rw[Zc hb]at e;exact(x b u e).stay (fun c v _ q=>k c v q) (fun c q=>by rw[Zc (Zk q hn)];exact q) fun c xs q=>by rw[Zc (Zk q hn)];exact q
end
def Rd(H:Hp)(a:Addr)(u:HO):Prop:=H a=some u∨∃o,H a=some (.frz o u)
theorem Rd.ok{P:Program}{w:World}{H:Hp}{h:Heap}{a:Addr}{u:HO}(r:Rd H a u)(x:HOk P w H h):ObjOk P w H h a u:=by
 rcases r with r | ⟨o,r⟩
 ·exact x a u r
 ·obtain⟨_,q⟩:=x a _ r;exact q
def Mut:Option HO→Prop
 |some (.lst _)=>True
 |some (.dK _)=>True
 |some (.dT _)=>True
 |some (.set _ _)=>True
 |some (.ins _ _ _)=>True
 |some (.ext _)=>True
 |_=>False
section
variable{P:Program}{w:World}{H:Hp}{h h':Heap}{x e:Addr}{o':HO}
theorem HOk.write(ok:HOk P w H h)(mu:Mut (H x))(he:e=x∨H e=some (.own x))(k:∀b u,b≠e→h.get? b=some u→h'.get? b=some u)(heo:∃u,h'.get? e=some u)(new:ObjOk P w (upd H x o') h' x o'):HOk P w (upd H x o') h':=fun b u q=>by
 have nown:∀c y,H c=some (.own y)→c≠x:=fun c y r z=>by subst z;rw[r]at mu;exact mu
 have ntup:∀c xs,H c=some (.tup xs)→c≠x:=fun c xs r z=>by subst z;rw[r]at mu;exact mu
 by_cases hb:b=x
 ·subst hb;rw[Z3]at q;cases q;exact new
 ·rw[Zc hb]at q;by_cases hbe:b=e
  ·have q':H b=some (.own x):=by
    rcases he with z | z
    ·exact absurd (hbe.trans z) hb
    ·rw[hbe];exact z
   rw[q]at q';cases q';obtain⟨v,hv⟩:=heo;exact⟨v,by rw[hbe];exact hv⟩
  ·refine(ok b u q).stay (fun c v hc r=>k c v ?_ r) (fun c r=>by rw[Zc (nown c b r)];exact r) fun c xs r=>by rw[Zc (ntup c xs r)];exact r
   rcases hc with rfl | hc
   ·exact hbe
   ·rintro rfl
    rcases he with z | z
    ·exact nown c b hc z
    ·rw[hc]at z;cases z;exact hb rfl
end
structure Un(fs ex:List Addr)(H H':Hp)(h h':Heap):Prop where
 keep:∀b o,h.get? b=some o→H b=none→b∉fs→b∉ex→h'.get? b=some o
 slot:∀b o,h.get? b=some o→H b=none→b∈fs→b∉ex→∃sl,h'.get? b=some {o with slots:=sl}
 free:∀b o,h.get? b=some o→H b=none→b∉ex→H' b=none
 there:∀b o,h.get? b=some o→b∉ex→∃o',h'.get? b=some o'
 tups:∀b xs,H b=some (.tup xs)→H' b=some (.tup xs)
 frzs:∀b o u,H b=some (.frz o u)→H' b=some (.frz o u)
 tbls:∀b ps,H b=some (.tbl ps)→∃more,H' b=some (.tbl (ps++more))
section
variable{fs fs' ex ex':List Addr}{H H1 H2:Hp}{h h1 h2 h':Heap}{a x e:Addr}{o:HO}
theorem Un.any(u:Un fs ex H H1 h h1){b:Addr}{ob:Obj}(q:h.get? b=some ob)(n:H b=none)(hx:b∉ex):∃sl,h1.get? b=some {ob with slots:=sl}:=by
 by_cases hb:b∈fs
 ·exact u.slot b ob q n hb hx
 ·exact⟨ob.slots,u.keep b ob q n hb hx⟩
theorem Un.kept(k:∀b u,h.get? b=some u→h'.get? b=some u):Un fs ex H H h h':=
 ⟨fun b ob q _ _ _=>k b ob q,fun b ob q _ _ _=>⟨ob.slots,k b ob q⟩,fun _ _ _ n _=>n,fun b ob q _=>⟨ob,k b ob q⟩,fun _ _ q=>q,fun _ _ _ q=>q,fun _ ps q=>⟨#[],by rw[q];simp⟩⟩
theorem Un.refl:Un fs ex H H h h:=Un.kept fun _ _ q=>q
theorem Un.laid(k:∀b u,h.get? b=some u→h'.get? b=some u)(hp:h.objs.size≤a)(hn:H a=none):Un fs ex H (upd H a o) h h' where
 keep:=fun b u q _ _ _=>k b u q
 slot:=fun b u q _ _ _=>⟨u.slots,k b u q⟩
 free:=fun b u q n _=>by rw[Zc (yN (zd (yE q) hp))];exact n
 there:=fun b u q _=>⟨u,k b u q⟩
 tups:=fun b xs q=>by rw[Zc (Zk q hn)];exact q
 frzs:=fun b u xs q=>by rw[Zc (Zk q hn)];exact q
 tbls:=fun b ps q=>⟨#[],by rw[Zc (Zk q hn),q];simp⟩
theorem Un.write(mu:Mut (H x))(he:e=x∨H e=some (.own x))(k:∀b u,b≠e→h.get? b=some u→h'.get? b=some u)(heo:∃u,h'.get? e=some u):Un fs ex H (upd H x o) h h':=by
 have hx:∀b,H b=none→b≠x:=fun b n z=>by subst z;rw[n]at mu;exact mu
 have hb:∀b,H b=none→b≠e:=fun b n z=>by
  subst z
  rcases he with r | r
  ·exact hx b n r
  ·rw[n]at r;cases r
 have hm:∀b u,H b=some u→¬Mut (some u)→b≠x:=fun b u q nm z=>by subst z;rw[q]at mu;exact nm mu
 refine⟨fun b u q n _ _=>k b u (hb b n) q,fun b u q n _ _=>⟨u.slots,k b u (hb b n) q⟩,fun b u q n _=>by rw[Zc (hx b n)];exact n,fun b u q _=>?_,
  fun b xs q=>by rw[Zc (hm b _ q fun z=>z)];exact q,fun b u xs q=>by rw[Zc (hm b _ q fun z=>z)];exact q,fun b ps q=>⟨#[],by rw[Zc (hm b _ q fun z=>z),q];simp⟩⟩
 by_cases hbe:b=e
 ·subst hbe;exact heo
 ·exact⟨u,k b u hbe q⟩
end
def trk(h:Heap)(H:Hp):List Addr:=(List.range h.objs.size).filter fun a=>(H a).isSome
def eA(h:Heap)(H:Hp):Heap:=W.hideAll h (trk h H)
theorem li(h:Heap)(H:Hp):(eA h H).objs.size=h.objs.size:=W.hideAll_size _ _
theorem oM{h:Heap}{H:Hp}{b:Addr}{o:Obj}(e:h.get? b=some o)(n:H b=none):(eA h H).get? b=some o:=
 W.hideAll_get _ e fun hm=>by
  have q:(H b).isSome=true:=(yZ.mp hm).2;rw[n]at q;simp at q
theorem qN{h:Heap}{H:Hp}{b:Addr}{o:Obj}(e:(eA h H).get? b=some o):h.get? b=some o∧H b=none:=by
 have e':h.get? b=some o:=W.of_hideAll (trk h H) e;refine⟨e',?_⟩;cases q:H b with
 |none=>rfl
 |some x=>
  have hm:b∈trk h H:=List.mem_filter.mpr ⟨List.mem_range.mpr (Heap.lt_size e'),by simp[q]⟩;have z:(eA h H).get? b=none:=W.hideAll_none (trk h H) hm;rw[z]at e;cases e
structure Mod(K:W.Frag)(mg:Str→Option Value)(base:Heap):Prop where
 kin:K.In base
 glob:base.Ns mainGlobals mg
 blt:∃mb,base.Ns builtinsNs mb∧∀x:Str,x≠"__name__"→mb x=bootBuiltins x
 nolimit:base.NoLimit
structure Cx where
 prog:Program
 w:World
 K:W.Frag
 mg:Str→Option Value
 base:Heap
 A:Around
 N:List Str
 s₀:Shared
 H₀:Hp
 env:Env
 outer:List Env
 stack:List Env
 ex:List Addr
 fn:Str→Bool
 calm:Bool
 pn:List (Addr×Obj)
 xe:Value→Shared→Prop
def frs(l:List Env):List Addr:=l.filterMap (·.frame)
abbrev Cx.fs(X:Cx):List Addr:=frs X.outer
def Vis(sc:Scope)(x:Str):Prop:=sc.names.lookup x=some .local∨sc.names.lookup x=some .cell∨sc.names.lookup x=some .free
def Loc(sc:Scope)(x:Str):Prop:=sc.names.lookup x=some .local∨sc.names.lookup x=some .cell
def Look(env:Env)(h:Heap)(m:Str→Option Value)(x:Str)(u:Value):Prop:=
 (env.kindOf x=some .local∧m x=some u)∨((env.kindOf x=some .cell∨env.kindOf x=some .free)∧∃c,env.cells.lookup x=some c∧h.IsCell c (some u))
structure Cx.Ok(X:Cx):Prop where
 mod:Mod X.K X.mg X.base
 kind:X.env.scope.kind=.function
 glob:X.env.globals=mainGlobals
 blt:X.env.builtins=builtinsNs
 above:X.s₀.heap.objs.size≤X.env.locals
 inj:∀x y c,X.env.cells.lookup x=some c→X.env.cells.lookup y=some c→x=y
 has:∀x,(X.env.kindOf x=some .cell∨X.env.kindOf x=some .free)→∃c,X.env.cells.lookup x=some c
 cab:∀x c,X.fn x=true→X.env.cells.lookup x=some c→X.s₀.heap.objs.size≤c
 hd:X.calm=true→X.A.handled=none
 frames:X.A.frames=some X.stack
 stk:X.stack=X.outer∨(X.stack=X.env::X.outer∧X.env.frame=some X.env.locals)
 exf:∀b∈X.ex,b≠X.env.locals∧∀x c,X.env.cells.lookup x=some c→c≠b
 bs:∀b o,X.base.get? b=some o→X.s₀.heap.get? b=some o∧X.H₀ b=none
 bsz:X.base.objs.size≤X.s₀.heap.objs.size
 noex:∀b o,X.base.get? b=some o→b∉X.ex
 exfs:∀b∈X.ex,b∉X.fs
 funs:X.s₀.heap.FunFrames X.base X.outer
 frf:∀b∈X.fs,X.H₀ b=none
structure Inv(X:Cx)(BF:List (Addr×Obj))(σ:List (Option V))(H:Hp)(s:Shared):Prop where
 ok:X.Ok
 os:s.os=X.s₀.os
 bare:AllBare s.gens
 base:Un X.fs X.ex X.H₀ H X.s₀.heap s.heap
 loc:∃m,s.heap.Ns X.env.locals m∧∀(i:Nat)(x:Str)(v:V),X.N[i]?=some x→σ[i]?=some (some v)→Vis X.env.scope x→∃u,RelV v u∧Look X.env s.heap m x u
 cell:∀x c,X.env.cells.lookup x=some c→∃v,s.heap.IsCell c v
 free:H X.env.locals=none
 freeC:∀x c,X.env.cells.lookup x=some c→H c=none
 pin:∀p∈X.pn++BF,s.heap.get? p.1=some p.2∧H p.1=none∧p.1≠X.env.locals∧p.1∉X.fs∧∀v,p.2.data≠.cell v
 hok:HOk X.prog X.w H s.heap
 len:σ.length=X.N.length
section
variable{X:Cx}{BF:List (Addr×Obj)}{σ:List (Option V)}{H H':Hp}{s:Shared}{h':Heap}
theorem Cx.Ok.nofr(ok:X.Ok){b:Addr}{o:Obj}(e:X.base.get? b=some o):b∉X.fs:=fun hb=>by
 have:=(ok.funs.mem hb).1;rw[e]at this;cases this
theorem Inv.bs(I:Inv X BF σ H s):∀b o,X.base.get? b=some o→s.heap.get? b=some o∧H b=none:=fun b o e=>
 ⟨I.base.keep b o (I.ok.bs b o e).1 (I.ok.bs b o e).2 (I.ok.nofr e) (I.ok.noex b o e),I.base.free b o (I.ok.bs b o e).1 (I.ok.bs b o e).2 (I.ok.noex b o e)⟩
theorem Inv.bk(I:Inv X BF σ H s):∀b o,X.base.get? b=some o→s.heap.get? b=some o:=fun b o e=>(I.bs b o e).1
theorem Inv.mod(I:Inv X BF σ H s):Mod X.K X.mg X.base:=I.ok.mod
theorem Inv.kIn(I:Inv X BF σ H s):X.K.In s.heap:=I.ok.mod.kin.keeps I.bk
theorem Inv.lt(I:Inv X BF σ H s):X.env.locals<s.heap.objs.size:=let ⟨_,hn,_⟩:=I.loc;hn.lt
theorem Inv.sz(I:Inv X BF σ H s):X.s₀.heap.objs.size≤s.heap.objs.size:=zE I.ok.above (Ah I.lt)
theorem Inv.nofs(I:Inv X BF σ H s){a:Addr}(h:s.heap.objs.size≤a):a∉X.fs:=fun hb=>by
 obtain⟨_,o,ho,_⟩:=I.ok.funs.mem hb;exact absurd (zd (yE ho) (zE I.sz h)) (AH _)
theorem Inv.cne(I:Inv X BF σ H s):∀x c,X.env.cells.lookup x=some c→c≠X.env.locals:=fun x c e z=>by
 obtain⟨v,o,ho,hd⟩:=I.cell x c e;obtain⟨m,⟨o',es,ep,ho',hd',_⟩,_⟩:=I.loc;rw[z,ho']at ho;cases ho;rw[hd']at hd;cases hd
theorem Inv.funs(I:Inv X BF σ H s):s.heap.FunFrames X.base X.outer:=by
 have all:∀(l:List Env),(∀b∈frs l,b∈X.fs)→X.s₀.heap.FunFrames X.base l→s.heap.FunFrames X.base l:=by
  intro l
  induction l with
  |nil=>intro _ _;trivial
  |cons env r ih=>
   intro hs hl;obtain⟨hk,⟨L,o,hf,hn,ho,hd⟩,hr⟩:=hl;have hL:L∈X.fs:=hs L (by unfold frs;rw[AY,hf];exact zy);obtain⟨sl,e⟩:=I.base.slot L o ho (I.ok.frf L hL) hL fun z=>I.ok.exfs L z hL;exact⟨hk,⟨L,_,hf,hn,e,hd⟩,ih (fun b hb=>hs b (by unfold frs;rw[AY,hf];exact zC _ hb)) hr⟩
 exact all X.outer (fun _ hb=>hb) I.ok.funs
theorem Inv.stack(I:Inv X BF σ H s):s.heap.FunFrames X.base X.stack:=by
 rcases I.ok.stk with e | ⟨e,hf⟩
 ·rw[e];exact I.funs
 ·rw[e];obtain⟨m,hn,_⟩:=I.loc;refine .cons (by rw[I.ok.kind];decide) hf hn ?_ I.funs;exact Heap.get?_none_of_le (zE I.ok.bsz I.ok.above)
theorem Inv.stkSub(I:Inv X BF σ H s):∀b∈frs X.stack,b∈X.env.locals::X.fs:=fun b hb=>by
 rcases I.ok.stk with e | ⟨e,hf⟩
 ·rw[e]at hb;exact zC _ hb
 ·rw[e]at hb;unfold frs at hb;rw[AY,hf]at hb;exact hb
theorem Inv.stkFree(I:Inv X BF σ H s):∀b∈frs X.stack,H b=none:=fun b hb=>by
 rcases yO.mp (I.stkSub b hb)with e | hb
 ·rw[e];exact I.free
 ·obtain⟨_,o,ho,_⟩:=I.ok.funs.mem hb;exact I.base.free b o ho (I.ok.frf b hb) fun z=>I.ok.exfs b z hb
theorem Inv.step{g':Array GenState}{t':Nat}{d':Drawn}{ch:List Addr}(I:Inv X BF σ H s)(hch:∀b∈ch,(b∈X.ex∨X.s₀.heap.objs.size≤b)∧b≠X.env.locals∧(∀x c,X.env.cells.lookup x=some c→c≠b)∧∀p∈X.pn++BF,p.1≠b)(keep:∀b o,b≠X.env.locals→b∉X.fs→b∉ch→s.heap.get? b=some o→H b=none→h'.get? b=some o)(slot:∀b o,b≠X.env.locals→b∈X.fs→b∉ch→s.heap.get? b=some o→H b=none→∃sl,h'.get? b=some {o with slots:=sl})(free:∀b o,b∉ch→s.heap.get? b=some o→H b=none→H' b=none)(there:∀b o,b∉ch→s.heap.get? b=some o→∃o',h'.get? b=some o')(tups:∀b xs,H b=some (.tup xs)→H' b=some (.tup xs))(frzs:∀b o u,H b=some (.frz o u)→H' b=some (.frz o u))(tbls:∀b ps,H b=some (.tbl ps)→∃more,H' b=some (.tbl (ps++more)))(ns:∀m,s.heap.Ns X.env.locals m→h'.Ns X.env.locals m)(hok:HOk X.prog X.w H' h')(hg:AllBare g'):
  Inv X BF σ H' {s with heap:=h',gens:=g',drawn:=d',toks:=t'}:=by
 have neL:∀b o,X.s₀.heap.get? b=some o→b≠X.env.locals:=fun b o e=>yN (zd (yE e) I.ok.above);have neC:∀b o,X.s₀.heap.get? b=some o→b∉X.ex→b∉ch:=fun b o e hx hb=>by
  rcases(hch b hb).1 with z | z
  ·exact hx z
  ·exact absurd (zd (yE e) z) (AH _)
 have cellK:∀x c,X.env.cells.lookup x=some c→∀v,s.heap.IsCell c v→h'.IsCell c v:=fun x c e v ⟨o,ho,hd⟩=>by
  have nch:c∉ch:=fun z=>(hch c z).2.2.1 x c e rfl;by_cases hc:c∈X.fs
  ·obtain⟨sl,q⟩:=slot c o (I.cne x c e) hc nch ho (I.freeC x c e);exact⟨_,q,hd⟩
  ·exact⟨o,keep c o (I.cne x c e) hc nch ho (I.freeC x c e),hd⟩
 refine⟨I.ok,I.os,hg,⟨fun b o e n hb hx=>?_,fun b o e n hb hx=>?_,fun b o e n hx=>?_,fun b o e hx=>?_,fun b xs e=>tups b xs (I.base.tups b xs e),fun b o xs e=>frzs b o xs (I.base.frzs b o xs e),fun b ps e=>?_⟩,?_,fun x c e=>?_,?_,fun x c e=>?_,fun p hp=>?_,hok,I.len⟩
 ·exact keep b o (neL b o e) hb (neC b o e hx) (I.base.keep b o e n hb hx) (I.base.free b o e n hx)
 ·obtain⟨sl,e1⟩:=I.base.slot b o e n hb hx;obtain⟨sl',e2⟩:=slot b _ (neL b o e) hb (neC b o e hx) e1 (I.base.free b o e n hx);exact⟨sl',e2⟩
 ·obtain⟨o',e1⟩:=I.base.there b o e hx;exact free b o' (neC b o e hx) e1 (I.base.free b o e n hx)
 ·obtain⟨o',e1⟩:=I.base.there b o e hx;exact there b o' (neC b o e hx) e1
 ·obtain⟨m1,e1⟩:=I.base.tbls b ps e;obtain⟨m2,e2⟩:=tbls b _ e1;exact⟨m1++m2,by rw[e2,Array.append_assoc]⟩
 ·obtain⟨m,hn,hl⟩:=I.loc;refine⟨m,ns m hn,fun i x v e1 e2 e3=>?_⟩;obtain⟨u,r,l⟩:=hl i x v e1 e2 e3;refine⟨u,r,?_⟩
  rcases l with l | ⟨k,c,e,z⟩
  ·exact .inl l
  ·exact .inr ⟨k,c,e,cellK x c e _ z⟩
 ·obtain⟨v,z⟩:=I.cell x c e;exact⟨v,cellK x c e v z⟩
 ·obtain⟨m,⟨o,_,_,ho,_⟩,_⟩:=I.loc;exact free _ o (fun z=>(hch _ z).2.1 rfl) ho I.free
 ·obtain⟨v,o,ho,hd⟩:=I.cell x c e;exact free c o (fun z=>(hch c z).2.2.1 x c e rfl) ho (I.freeC x c e)
 ·obtain⟨e,n,ne,nf,d⟩:=I.pin p hp;have nch:p.1∉ch:=fun z=>(hch p.1 z).2.2.2 p hp rfl;exact⟨keep p.1 p.2 ne nf nch e n,free p.1 p.2 nch e n,ne,nf,d⟩
theorem Inv.un{t':Nat}(I:Inv X BF σ H s)(u:Un X.fs [] H H' s.heap h')(hok:HOk X.prog X.w H' h'):Inv X BF σ H' {s with heap:=h',toks:=t'}:=by
 obtain⟨m,⟨o,es,ep,ho,r⟩,_⟩:=id I.loc;obtain⟨sl,hL⟩:=u.any ho I.free (by simp);exact I.step (g':=s.gens) (d':=s.drawn) (ch:=[]) (fun _ z=>nomatch z) (fun b o _ hb _ e n=>u.keep b o e n hb (by simp)) (fun b o _ hb _ e n=>u.slot b o e n hb (by simp)) (fun b o _ e n=>u.free b o e n (by simp)) (fun b o _ e=>u.there b o e (by simp)) u.tups u.frzs u.tbls (fun m' hm=>by
  obtain⟨o',es',ep',ho',r'⟩:=hm;rw[ho]at ho';cases ho';exact⟨_,es',ep',hL,r'⟩) hok I.bare
theorem Inv.call{g':Array GenState}{t':Nat}{d':Drawn}{ch:List Addr}(I:Inv X BF σ H s)(u:Un (frs X.stack) ch H H' s.heap h')(hok:HOk X.prog X.w H' h')(hg:AllBare g')(hch:∀b∈ch,(b∈X.ex∨X.s₀.heap.objs.size≤b)∧b≠X.env.locals∧(∀x c,X.env.cells.lookup x=some c→c≠b)∧∀p∈X.pn++BF,p.1≠b):
  Inv X BF σ H' {s with heap:=h',gens:=g',drawn:=d',toks:=t'}:=by
 obtain⟨m,⟨o,es,ep,ho,r⟩,_⟩:=id I.loc;obtain⟨sl,hL⟩:=u.any ho I.free fun z=>(hch _ z).2.1 rfl;exact I.step (ch:=ch) hch (fun b o hL hb hc e n=>u.keep b o e n (fun z=>(yO.mp (I.stkSub b z)).elim hL hb) hc) (fun b o _ _ hc e n=>u.any e n hc) (fun b o hc e n=>u.free b o e n hc) (fun b o hc e=>u.there b o e hc) u.tups u.frzs u.tbls (fun m' hm=>by
  obtain⟨o',es',ep',ho',r'⟩:=hm;rw[ho]at ho';cases ho';exact⟨_,es',ep',hL,r'⟩) hok hg
theorem Inv.turned{t':Nat}{it:Addr}(I:Inv X BF σ H s)(k:∀b o,b≠it→s.heap.get? b=some o→h'.get? b=some o)(hn:H it=none)(hL:it≠X.env.locals)(h1:it∈X.ex∨X.s₀.heap.objs.size≤it)(h2:∀x c,X.env.cells.lookup x=some c→c≠it)(h3:∀p∈X.pn++BF,p.1≠it):Inv X BF σ H {s with heap:=h',toks:=t'}:=by
 have nit:∀b u,H b=some u→b≠it:=fun b u e z=>by rw[z,hn]at e;cases e
 refine I.step (g':=s.gens) (d':=s.drawn) (ch:=[it]) (fun b hb=>?_) (fun b o _ _ hc e _=>k b o (fun z=>hc (by simp[z])) e) (fun b o _ _ hc e _=>⟨o.slots,k b o (fun z=>hc (by simp[z])) e⟩) (fun _ _ _ _ n=>n)
  (fun b o hc e=>⟨o,k b o (fun z=>hc (by simp[z])) e⟩) (fun _ _ e=>e) (fun _ _ _ e=>e) (fun b ps e=>⟨#[],by rw[e];simp⟩) (fun m hm=>?_) (fun b u e=>?_) I.bare
 ·have e:b=it:=by simpa using hb
  subst e;exact⟨h1,hL,h2,h3⟩
 ·obtain⟨o,es,ep,ho,r⟩:=hm;exact⟨o,es,ep,k _ o (Ne.symm hL) ho,r⟩
 ·refine(I.hok b u e).stay (fun c v hc q=>k c v ?_ q) (fun _ q=>q) fun _ _ q=>q
  rcases hc with z | z
  ·rw[z];exact nit b u e
  ·exact nit c _ z
theorem Inv.tok(I:Inv X BF σ H s)(t:Nat):Inv X BF σ H {s with toks:=t}:=I.un (h':=s.heap) (t':=t) Un.refl I.hok
theorem Inv.kept{t':Nat}(I:Inv X BF σ H s)(k:∀b u,s.heap.get? b=some u→h'.get? b=some u):Inv X BF σ H {s with heap:=h',toks:=t'}:=I.un (Un.kept k) (I.hok.kept k)
theorem Inv.laid{a:Addr}{o:HO}{t':Nat}(I:Inv X BF σ H s)(k:∀b u,s.heap.get? b=some u→h'.get? b=some u)(hp:s.heap.objs.size≤a)(new:ObjOk X.prog X.w (upd H a o) h' a o):
  Inv X BF σ (upd H a o) {s with heap:=h',toks:=t'}:=I.un (Un.laid k hp (I.hok.fresh hp)) (I.hok.laid k hp new)
theorem Inv.write{x e:Addr}{o:HO}{t':Nat}(I:Inv X BF σ H s)(mu:Mut (H x))(he:e=x∨H e=some (.own x))(k:∀b u,b≠e→s.heap.get? b=some u→h'.get? b=some u)(heo:∃u,h'.get? e=some u)(new:ObjOk X.prog X.w (upd H x o) h' x o):Inv X BF σ (upd H x o) {s with heap:=h',toks:=t'}:=I.un (Un.write mu he k heo) (I.hok.write mu he k heo new)
theorem Inv.weak{σ':List (Option V)}(I:Inv X BF σ H s)(hl:σ'.length=σ.length)(w:∀(i:Nat) v,σ'[i]?=some (some v)→σ[i]?=some (some v)):Inv X BF σ' H s:=
 ⟨I.ok,I.os,I.bare,I.base,let ⟨m,hn,hl'⟩:=I.loc;⟨m,hn,fun i x v e1 e2 e3=>hl' i x v e1 (w i v e2) e3⟩,I.cell,I.free,I.freeC,I.pin,I.hok,hl.trans I.len⟩
theorem Inv.pins_of{pins':List (Addr×Obj)}(I:Inv X BF σ H s)(h:∀p∈pins',s.heap.get? p.1=some p.2∧H p.1=none∧p.1≠X.env.locals∧p.1∉X.fs∧∀v,p.2.data≠.cell v):Inv X pins' σ H s:=
 ⟨I.ok,I.os,I.bare,I.base,I.loc,I.cell,I.free,I.freeC,fun p hp=>(zk.mp hp).elim (fun z=>I.pin p (Ab _ z)) (h p),I.hok,I.len⟩
theorem gf{N:List Str}(hN:N.Nodup){i j:Nat}{x:Str}(a:N[i]?=some x)(b:N[j]?=some x):i=j:=by
 obtain⟨h1,e1⟩:=yI.mp a;obtain⟨h2,e2⟩:=yI.mp b;exact(List.getElem_inj hN).mp (e1.trans e2.symm)
theorem Px{M:Model}{A:Around}{E:Value→Shared→Prop}{i:Nat}{x:Str}{v:V}{u:Value}{Q:Unit→Shared→Prop}(I:Inv X BF σ H s)(hN:X.N.Nodup)(hi:X.N[i]?=some x)(hx:Loc X.env.scope x)(r:RelV v u)(h:∀s',Inv X BF (σ.set i (some v)) H s'→(∃a,Heap.SameBut a s.heap s'.heap∧(a=X.env.locals∨X.env.cells.lookup x=some a))→Q () s')(hf:X.fn x=true∨X.env.scope.names.lookup x=some .local:=by first | exact .inl rfl | exact .inr rfl | assumption):wpAny M A (storeName X.env x u) Q E s:=by
 obtain⟨m,hn,hl⟩:=id I.loc;have hcls:(X.env.scope.kind==.class || (X.env.scope.kind==.module && X.env.locals != X.env.globals))=false:=by rw[I.ok.kind];rfl
 have hiσ:i<σ.length:=by rw[I.len];exact(yI.mp hi).1
 have cne:=I.cne;have tracked:∀{a:Addr}{h':Heap},(∃o,s.heap.get? a=some o∧H a=none)→Heap.SameBut a s.heap h'→HOk X.prog X.w H h':=fun{a h'} ha hs b ob e=>by
  obtain⟨_,_,hfree⟩:=ha;refine(I.hok b ob e).stay (fun c w' hc q=>(hs.2 c ?_).trans q) (fun _ q=>q) fun _ _ q=>q;rintro rfl
  rcases hc with rfl | hc
  ·rw[hfree]at e;cases e
  ·rw[hfree]at hc;cases hc
 rcases hx with hk | hk
 ·refine wpAny_storeName_local hk hn (fun h' hn' hs=>?_) hcls;obtain⟨oL,_,_,hoL,_⟩:=id hn;refine h _ ⟨I.ok,I.os,I.bare,⟨fun b o e n hb hx=>?_,fun b o e n hb hx=>?_,I.base.free,fun b o e hx=>?_,I.base.tups,I.base.frzs,I.base.tbls⟩,⟨_,hn',fun j y v' e1 e2 e3=>?_⟩,fun y c e=>?_,I.free,I.freeC,fun p hp=>?_,tracked ⟨oL,hoL,I.free⟩ hs,by simpa using I.len⟩ ⟨_,hs,.inl rfl⟩
  ·exact(hs.2 b (yN (zd (yE e) I.ok.above))).trans (I.base.keep b o e n hb hx)
  ·obtain⟨sl,e1⟩:=I.base.slot b o e n hb hx;exact⟨sl,(hs.2 b (yN (zd (yE e) I.ok.above))).trans e1⟩
  ·obtain⟨o',e1⟩:=I.base.there b o e hx;exact⟨o',(hs.2 b (yN (zd (yE e) I.ok.above))).trans e1⟩
  ·by_cases hj:j=i
   ·subst hj;rw[hi]at e1;cases e1;rw[List.getElem?_set_self hiσ]at e2;cases e2;exact⟨u,r,.inl ⟨hk,by simp⟩⟩
   ·rw[List.getElem?_set_ne (Ne.symm hj)]at e2;obtain⟨u',r',q⟩:=hl j y v' e1 e2 e3;refine⟨u',r',?_⟩
    rcases q with⟨k,e⟩|⟨k,c,e,z⟩
    ·refine .inl ⟨k,?_⟩;have:y≠x:=fun e=>hj (gf hN e1 (e ▸ hi));simp[this,e]
    ·exact .inr ⟨k,c,e,z.sameBut hs (cne y c e)⟩
  ·obtain⟨w',z⟩:=I.cell y c e;exact⟨w',z.sameBut hs (cne y c e)⟩
  ·obtain⟨e,n,ne,nf,d⟩:=I.pin p hp;exact⟨(hs.2 p.1 ne).trans e,n,ne,nf,d⟩
 ·have hfn:X.fn x=true:=by
   rcases hf with z | z
   ·exact z
   ·rw[z]at hk;cases hk
  obtain⟨c,hc⟩:=I.ok.has x (.inl hk);obtain⟨w',z⟩:=I.cell x c hc;refine wpAny_storeName_cell I.ok.kind hk hc z (fun h' hc' hs=>?_);obtain⟨oc,hoc,hocd⟩:=id z;refine h {s with heap:=h'} ⟨I.ok,I.os,I.bare,⟨fun b o e n hb hx=>?_,fun b o e n hb hx=>?_,I.base.free,fun b o e hx=>?_,I.base.tups,I.base.frzs,I.base.tbls⟩,⟨m,hn.sameBut hs (Ne.symm (cne x c hc)),fun j y v' e1 e2 e3=>?_⟩,fun y c' e=>?_,I.free,I.freeC,fun p hp=>?_,tracked ⟨oc,hoc,I.freeC x c hc⟩ hs,by simpa using I.len⟩ ⟨c,hs,.inr hc⟩
  ·exact(hs.2 b (yN (zd (yE e) (I.ok.cab x c hfn hc)))).trans (I.base.keep b o e n hb hx)
  ·obtain⟨sl,e1⟩:=I.base.slot b o e n hb hx;exact⟨sl,(hs.2 b (yN (zd (yE e) (I.ok.cab x c hfn hc)))).trans e1⟩
  ·obtain⟨o',e1⟩:=I.base.there b o e hx;exact⟨o',(hs.2 b (yN (zd (yE e) (I.ok.cab x c hfn hc)))).trans e1⟩
  ·by_cases hj:j=i
   ·subst hj;rw[hi]at e1;cases e1;rw[List.getElem?_set_self hiσ]at e2;cases e2;exact⟨u,r,.inr ⟨.inl hk,c,hc,hc'⟩⟩
   ·rw[List.getElem?_set_ne (Ne.symm hj)]at e2;obtain⟨u',r',q⟩:=hl j y v' e1 e2 e3;refine⟨u',r',?_⟩
    rcases q with q | ⟨k,c',e,z'⟩
    ·exact .inl q
    ·refine .inr ⟨k,c',e,z'.sameBut hs ?_⟩;rintro rfl;exact hj (gf hN e1 (I.ok.inj _ _ _ e hc ▸ hi))
  ·by_cases hcc:c'=c
   ·subst hcc;exact⟨_,hc'⟩
   ·obtain⟨w2,z2⟩:=I.cell y c' e;exact⟨w2,z2.sameBut hs hcc⟩
  ·obtain⟨e,n,ne,nf,d⟩:=I.pin p hp;refine⟨(hs.2 p.1 ?_).trans e,n,ne,nf,d⟩;intro q;rw[q,hoc]at e;have q':oc=p.2:=zD e;exact d w' (by rw[←q'];exact hocd)
theorem f6{M:Model}{A:Around}{E:Value→Shared→Prop}{i:Nat}{x:Str}{v:V}{u:Value}{Q:Unit→Shared→Prop}(I:Inv X BF σ H s)(hN:X.N.Nodup)(hi:X.N[i]?=some x)(hx:Loc X.env.scope x)(r:RelV v u)(h:∀s',Inv X BF (σ.set i (some v)) H s'→Q () s')(hf:X.fn x=true∨X.env.scope.names.lookup x=some .local:=by first | exact .inl rfl | exact .inr rfl | assumption):wpAny M A (storeName X.env x u) Q E s:=
 Px I hN hi hx r (fun s' I' _=>h s' I') hf
theorem Inv.call'{s':Shared}{ch:List Addr}(I:Inv X BF σ H s)(ho:s'.os=s.os)(u:Un (frs X.stack) ch H H' s.heap s'.heap)(hok:HOk X.prog X.w H' s'.heap)(hg:AllBare s'.gens)(hch:∀b∈ch,(b∈X.ex∨X.s₀.heap.objs.size≤b)∧b≠X.env.locals∧(∀x c,X.env.cells.lookup x=some c→c≠b)∧∀p∈X.pn++BF,p.1≠b):Inv X BF σ H' s':=by
 obtain⟨h',g',d',t',o'⟩:=s';have e:o'=s.os:=ho;subst e;exact I.call (g':=g') (t':=t') (d':=d') u hok hg hch
end
abbrev XK:=Value→Option Addr→Hp→Prop
abbrev St:=List (Option V)
abbrev VK:=V→Hp→Prop
abbrev TE:=St→Hp→VK→Prop
abbrev TT:=St→Hp→(Bool→Hp→Prop)→Prop
abbrev TA:=St→Hp→(List V→Hp→Prop)→Prop
structure Ends where
 nx:St→Hp→Prop
 rt:VK
 bk:St→Hp→Prop:=fun _ _=>False
 ct:St→Hp→Prop:=fun _ _=>False
abbrev TS:=Ends→St→Hp→Prop
def EP(X:Cx)(BF:List (Addr×Obj))(σ:St)(Q:VK)(u:Value)(s':Shared):Prop:=∃v H',Inv X BF σ H' s'∧RelV v u∧Q v H'
def TP(X:Cx)(BF:List (Addr×Obj))(σ:St)(Q:Bool→Hp→Prop)(b:Bool)(s':Shared):Prop:=∃H',Inv X BF σ H' s'∧Q b H'
def AP(X:Cx)(BF:List (Addr×Obj))(σ:St)(Q:List V→Hp→Prop)(us:List Value)(s':Shared):Prop:=∃vs H',Inv X BF σ H' s'∧Vals vs us∧Q vs H'
def SP(X:Cx)(BF:List (Addr×Obj))(D:Ends)(f:Flow)(s':Shared):Prop:=
 match f with
 |.next=>∃σ' H',Inv X BF σ' H' s'∧D.nx σ' H'
 |.brk=>∃σ' H',Inv X BF σ' H' s'∧D.bk σ' H'
 |.cont=>∃σ' H',Inv X BF σ' H' s'∧D.ct σ' H'
 |.ret u=>∃v σ' H',Inv X BF σ' H' s'∧RelV v u∧D.rt v H'
def PE(X:Cx)(e:Expr)(t:TE):Prop:=
 ∀(BF:List (Addr×Obj))(s:Shared)(σ:St)(H:Hp)(Q:VK),Inv X BF σ H s→t σ H Q→wpAny (model X.prog X.w) X.A (eval e X.env) (EP X BF σ Q) X.xe s
def PT(X:Cx)(e:Expr)(t:TT):Prop:=
 ∀(BF:List (Addr×Obj))(s:Shared)(σ:St)(H:Hp)(Q:Bool→Hp→Prop),Inv X BF σ H s→t σ H Q→wpAny (model X.prog X.w) X.A (isTrue e X.env (eval e X.env)) (TP X BF σ Q) X.xe s
def PW(X:Cx)(e:Expr)(t:TT):Prop:=
 ∀(whole:Sem Value)(BF:List (Addr×Obj))(s:Shared)(σ:St)(H:Hp)(Q:Bool→Hp→Prop),Inv X BF σ H s→t σ H Q→wpAny (model X.prog X.w) X.A (isTrue e X.env whole) (TP X BF σ Q) X.xe s
theorem PW.pt{X:Cx}{e:Expr}{t:TT}(h:PW X e t):PT X e t:=h _
def PA(X:Cx)(es:List Expr)(t:TA):Prop:=
 ∀(pos:Pos)(BF:List (Addr×Obj))(s:Shared)(σ:St)(H:Hp)(Q:List V→Hp→Prop),Inv X BF σ H s→t σ H Q→wpAny (model X.prog X.w) X.A (spliced (backTo pos (starEach es X.env))) (AP X BF σ Q) X.xe s
def PS(X:Cx)(st:Stmt)(t:TS):Prop:=
 ∀(BF:List (Addr×Obj))(s:Shared)(σ:St)(H:Hp)(D:Ends),Inv X BF σ H s→t D σ H→wpAny (model X.prog X.w) X.A (exec st X.env) (SP X BF D) X.xe s
def PSs(X:Cx)(st:List Stmt)(t:TS):Prop:=
 ∀(BF:List (Addr×Obj))(s:Shared)(σ:St)(H:Hp)(D:Ends),Inv X BF σ H s→t D σ H→wpAny (model X.prog X.w) X.A (execs st X.env) (SP X BF D) X.xe s
theorem thn{α:Type}{t:Sem α}{Q Q':α→Shared→Prop}{M:Model}{A:Around}{E:Value→Shared→Prop}{s:Shared}(h:wpAny M A t Q E s)(hQ:∀a s,Q a s→Q' a s):wpAny M A t Q' E s:=zT h hQ fun _ _ x=>x
section
variable{X:Cx}
def vE(i:Nat):TE:=fun σ H Q=>∃v,σ[i]?=some (some v)∧Q v H
def tC(v:V):TE:=fun _ H Q=>Q v H
theorem vP{i:Nat}{x:Str}{pos:Pos}(hN:X.N[i]?=some x)(hv:Vis X.env.scope x)(hd:(x==("__debug__":Str))=false:=by decide)(hcd:(x==("__classdict__":Str))=false:=by decide):PE X (.Name x pos) (vE i):=by
 intro BF s σ H Q I h;obtain⟨v,e,h⟩:=h;obtain⟨m,hn,hl⟩:=I.loc;obtain⟨u,r,l⟩:=hl i x v hN e hv;have fin:EP X BF σ Q u s:=⟨v,H,I,r,h⟩
 rcases l with⟨hk,hm⟩|⟨hk,c,hc,hcell⟩
 ·exact wpAny_Name (wpAny_loadName_local I.ok.kind hk hn hm fin) hd
 ·rcases hk with hk | hk
  ·exact wpAny_Name (wpAny_loadName_cell I.ok.kind hk hc hcell fin) hd
  ·exact wpAny_Name (wpAny_loadName_free I.ok.kind hk hc hcell fin hcd) hd
theorem Z4{i j pos}:PE X (.Constant (.int i) j pos) (tC (.int i)):=fun _ _ _ H _ I h=>wpAny_Constant_int ⟨.int i,H,I.tok _,⟨_,rfl⟩,h⟩
theorem W5{b j pos}:PE X (.Constant (.bool b) j pos) (tC (.bl b)):=fun _ _ _ H _ I h=>Constant_bool ⟨.bl b,H,I,rfl,h⟩
theorem iQ{j pos}:PE X (.Constant .none j pos) (tC .non):=fun _ _ _ H _ I h=>Constant_none ⟨.non,H,I,rfl,h⟩
theorem Vq{x j pos}:PE X (.Constant (.str x) j pos) (tC (.str x)):=fun _ _ _ H _ I h=>Calls.Constant_str ⟨.str x,H,I.tok _,⟨_,rfl⟩,h⟩
def Gl(X:Cx)(x:Str):Prop:=X.env.kindOf x=some .globalImplicit
theorem qJ{E:Value→Shared→Prop}{BF:List (Addr×Obj)}{s:Shared}{σ:St}{H:Hp}{x:Str}{u:Value}{pos:Pos}{Q:Value→Shared→Prop}(I:Inv X BF σ H s)(hg:Gl X x)(hm:X.mg x=some u)(h:Q u s)(hd:(x==("__debug__":Str))=false:=by decide):wpAny (model X.prog X.w) X.A (eval (.Name x pos) X.env) Q E s:=
 Calls.Name_function_global I.ok.kind hg (Calls.loadGlobal_global (by rw[I.ok.glob];exact I.mod.glob.keeps I.bk) hm h) hd
theorem dU{E:Value→Shared→Prop}{BF:List (Addr×Obj)}{s:Shared}{σ:St}{H:Hp}{x:Str}{u:Value}{pos:Pos}{Q:Value→Shared→Prop}(I:Inv X BF σ H s)(hg:Gl X x)(hm:X.mg x=none)(hv:bootBuiltins x=some u)(h:Q u s)(hn:x≠"__name__":=by decide)(hd:(x==("__debug__":Str))=false:=by decide):wpAny (model X.prog X.w) X.A (eval (.Name x pos) X.env) Q E s:=by
 obtain⟨mb,h1,h2⟩:=I.mod.blt;exact Calls.Name_function_global I.ok.kind hg (Calls.loadGlobal_builtin (by rw[I.ok.glob];exact I.mod.glob.keeps I.bk) hm (by rw[I.ok.blt];exact h1.keeps I.bk) ((h2 x hn).trans hv) h) hd
theorem Wb{x:Str}{v:V}{u:Value}{pos:Pos}(hg:Gl X x)(hm:X.mg x=none)(hv:bootBuiltins x=some u)(r:RelV v u)(hn:x≠"__name__":=by decide)(hd:(x==("__debug__":Str))=false:=by decide):PE X (.Name x pos) (tC v):=
 fun _ _ _ H _ I h=>dU I hg hm hv ⟨v,H,I,r,h⟩ hn hd
variable{a b:Expr}{ta tb:TE}{pos:Pos}
def tB(t:TE):TT:=fun σ H Q=>t σ H fun x H1=>∃c,x=.bl c∧Q c H1
theorem Xw{e:Expr}{t:TE}(h:PE X e t)(he:∀whole,isTrue e X.env whole=(do let v ←whole;standAt e.pos;holding [v] (truthy v)):=by intro _;rfl):PT X e (tB t):=by
 intro BF s σ H Q I hw;refine isTrue_plain (thn (h BF s σ H _ I hw) fun v s1 ⟨x,H1,I1,r1,q1⟩=>?_) (he _);obtain⟨d,rfl,q⟩:=q1;cases r1;exact z8 ⟨H1,I1,q⟩
variable{tA tB':TT}{rest:List Expr}
def tAnd(t u:TT):TT:=fun σ H Q=>t σ H fun c H1=>if c=true then u σ H1 Q else Q false H1
def tOr(t u:TT):TT:=fun σ H Q=>t σ H fun c H1=>if c=true then Q true H1 else u σ H1 Q
def tNot(t:TT):TT:=fun σ H Q=>t σ H fun c H1=>Q (!c) H1
theorem ez(ha:PT X a tA):PW X (.BoolOp .And [a] pos) tA:=by
 intro wh BF s σ H Q I h;refine isTrue_and (thn (ha BF s σ H Q I h) fun c s1 e=>?_);cases c with
 |true=>exact isTrue_and_nil e
 |false=>exact e
theorem V0(ha:PT X a tA):PW X (.BoolOp .Or [a] pos) tA:=by
 intro wh BF s σ H Q I h;refine isTrue_or (thn (ha BF s σ H Q I h) fun c s1 e=>?_);cases c with
 |false=>exact isTrue_or_nil e
 |true=>exact e
theorem iN(ha:PT X a tA)(hb:PW X (.BoolOp .And (b::rest) pos) tB'):PW X (.BoolOp .And (a::b::rest) pos) (tAnd tA tB'):=by
 intro wh BF s σ H Q I h;refine isTrue_and (thn (ha BF s σ H _ I h) fun c s1 BG=>?_);obtain⟨H1,I1,q1⟩:=BG;cases c with
 |true=>exact hb wh BF s1 σ H1 Q I1 q1
 |false=>exact⟨H1,I1,q1⟩
theorem U0(ha:PT X a tA)(hb:PW X (.BoolOp .Or (b::rest) pos) tB'):PW X (.BoolOp .Or (a::b::rest) pos) (tOr tA tB'):=by
 intro wh BF s σ H Q I h;refine isTrue_or (thn (ha BF s σ H _ I h) fun c s1 BG=>?_);obtain⟨H1,I1,q1⟩:=BG;cases c with
 |true=>exact⟨H1,I1,q1⟩
 |false=>exact hb wh BF s1 σ H1 Q I1 q1
theorem V1(ha:PT X a tA):PT X (.UnaryOp .Not a pos) (tNot tA):=by
 intro BF s σ H Q I h;exact isTrue_not (ha BF s σ H (fun c H1=>Q (!c) H1) I h)
def wB(ta tb:TE):TE:=fun σ H Q=>ta σ H fun x H1=>∃c,x=.bl c∧if c=true then tb σ H1 Q else Q (.bl false) H1
def yp(ta:TE):TE:=fun σ H Q=>ta σ H fun x H1=>∃c,x=.bl c∧Q (.bl (!c)) H1
theorem eC{op}{t:TE}(h:PE X a t):PE X (.BoolOp op [a] pos) t:=fun BF s σ H Q I hw=>BoolOp_one (h BF s σ H Q I hw)
theorem dO(ha:PE X a ta)(hb:PE X (.BoolOp .And (b::rest) pos) tb):PE X (.BoolOp .And (a::b::rest) pos) (wB ta tb):=by
 intro BF s σ H Q I h;refine BoolOp_and (thn (ha BF s σ H _ I h) fun v s1 BG=>?_);obtain⟨x,H1,I1,r1,q1⟩:=BG;obtain⟨c,rfl,q1⟩:=q1;cases r1;refine z8 ?_;cases c with
 |true=>exact hb BF s1 σ H1 Q I1 q1
 |false=>exact⟨.bl false,H1,I1,rfl,q1⟩
theorem vQ(ha:PE X a ta):PE X (.UnaryOp .Not a pos) (yp ta):=by
 intro BF s σ H Q I h;refine UnaryOp_ (thn (ha BF s σ H _ I h) fun v s1 BG=>?_);obtain⟨x,H1,I1,r1,q1⟩:=BG;obtain⟨c,rfl,q1⟩:=q1;cases r1;exact not_of (z8 ⟨.bl (!c),H1,I1,rfl,q1⟩)
def tIf(t:TT)(ta tb:TE):TE:=fun σ H Q=>t σ H fun c H1=>if c=true then ta σ H1 Q else tb σ H1 Q
theorem om{c:Expr}(hc:PT X c tA)(ha:PE X a ta)(hb:PE X b tb):PE X (.IfExp c a b pos) (tIf tA ta tb):=by
 intro BF s σ H Q I h;refine wpAny_IfExp (thn (hc BF s σ H _ I h) fun d s1 BG=>?_);obtain⟨H1,I1,q1⟩:=BG;cases d with
 |true=>exact ha BF s1 σ H1 Q I1 q1
 |false=>exact hb BF s1 σ H1 Q I1 q1
end
def SqL(K:W.Frag)(H:Hp)(a:Addr)(xs:List V):Prop:=
 Rd H a (.lst xs)∨
  ∃(o:Obj)(its:Array Value)(n:Nat),K.lookup a=some o∧o.cls=.type "list"∧o.dict=none∧o.data=.seq its n∧its.size≤sizeLine∧Vals xs its.toList
def SqT(K:W.Frag)(H:Hp)(a:Addr)(xs:List V):Prop:=
 Rd H a (.tup xs)∨
  ∃(o:Obj)(its:Array Value)(n:Nat),K.lookup a=some o∧o.cls=.type "tuple"∧o.data=.seq its n∧its.size≤sizeLine∧Vals xs its.toList
def absV:Value→Option V
 |.none=>some .non
 |.bool b=>some (.bl b)
 |.int i _=>some (.int i)
 |.str x _=>some (.str x)
 |.bytes b _=>some (.byt b)
 |.float b _=>some (.flt b)
 |.ref a=>some (.ref a)
 |.type n=>some (.ty n)
 |_=>none
theorem RelV.abs{x:V}{u:Value}(r:RelV x u):absV u=some x:=by
 cases x with
 |non=>cases r;rfl
 |bl _=>cases r;rfl
 |int _=>obtain⟨t,rfl⟩:=r;rfl
 |str _=>obtain⟨t,rfl⟩:=r;rfl
 |byt _=>obtain⟨t,rfl⟩:=r;rfl
 |flt _=>obtain⟨t,rfl⟩:=r;rfl
 |ref _=>cases r;rfl
 |ty _=>cases r;rfl
theorem RelV.inj{x y:V}{u:Value}(r:RelV x u)(q:RelV y u):x=y:=zD (r.abs.symm.trans q.abs)
theorem Vals.inj{xs ys:List V}{us:List Value}(h:Vals xs us)(g:Vals ys us):xs=ys:=by
 induction h generalizing ys with
 |nil=>cases g;rfl
 |cons r t ih=>
  cases g with
  |cons r' t'=>rw[r.inj r',ih t']
section
variable{X:Cx}{BF:List (Addr×Obj)}{σ:St}{H:Hp}{s:Shared}{a:Addr}{xs ys:List V}
theorem SqL.of{K:W.Frag}(h:H a=some (.lst xs)):SqL K H a xs:=.inl (.inl h)
theorem SqT.of{K:W.Frag}(h:H a=some (.tup xs)):SqT K H a xs:=.inl (.inl h)
theorem Inv.list(I:Inv X BF σ H s)(h:SqL X.K H a xs):∃its:List Value,Vals xs its∧PlainL s.heap a its.toArray∧xs.length≤sizeLine:=by
 rcases h with h | ⟨o,its,n,hk,hc,hd,hs,hz,r⟩
 ·obtain⟨z,its,n,r,e⟩:=h.ok I.hok;exact⟨its,r,⟨_,n,e,rfl,rfl,rfl⟩,z⟩
 ·refine⟨its.toList,r,⟨o,n,I.kIn a o hk,hc,hd,by simpa using hs⟩,?_⟩;have e:=r.length;simp only[Array.length_toList]at e;omega
theorem Inv.tuple(I:Inv X BF σ H s)(h:SqT X.K H a xs):∃its:List Value,Vals xs its∧IsTup s.heap a its.toArray∧xs.length≤sizeLine:=by
 rcases h with h | ⟨o,its,n,hk,hc,hs,hz,r⟩
 ·obtain⟨z,its,r,p⟩:=h.ok I.hok;exact⟨its,r,p.tup,z⟩
 ·refine⟨its.toList,r,⟨o,I.kIn a o hk,hc,n,by simpa using hs⟩,?_⟩;have e:=r.length;simp only[Array.length_toList]at e;omega
theorem Inv.list_inj(I:Inv X BF σ H s)(h:SqL X.K H a xs)(h':SqL X.K H a ys):xs=ys:=by
 obtain⟨its,r,⟨o,n,e,_,_,d⟩,_⟩:=I.list h;obtain⟨its',r',⟨o',n',e',_,_,d'⟩,_⟩:=I.list h';rw[e]at e';cases e';rw[d]at d';injection d' with d1 _
 have:its=its':=by simpa using congrArg Array.toList d1
 subst this;exact r.inj r'
theorem Inv.tuple_inj(I:Inv X BF σ H s)(h:SqT X.K H a xs)(h':SqT X.K H a ys):xs=ys:=by
 obtain⟨its,r,⟨o,e,_,n,d⟩,_⟩:=I.tuple h;obtain⟨its',r',⟨o',e',_,n',d'⟩,_⟩:=I.tuple h';rw[e]at e';cases e';rw[d]at d';injection d' with d1 _
 have:its=its':=by simpa using congrArg Array.toList d1
 subst this;exact r.inj r'
end
abbrev Cx.wish(X:Cx)(E:Value→Shared→Prop):Cx:={X with xe:=E}
abbrev Cx.nox(X:Cx):Cx:=X.wish fun _ _=>False
theorem Cx.Ok.wish{X:Cx}(ok:X.Ok)(E:Value→Shared→Prop):(X.wish E).Ok:=
 ⟨ok.mod,ok.kind,ok.glob,ok.blt,ok.above,ok.inj,ok.has,ok.cab,ok.hd,ok.frames,ok.stk,ok.exf,ok.bs,ok.bsz,ok.noex,ok.exfs,ok.funs,ok.frf⟩
theorem Cx.Ok.unwish{X:Cx}{E:Value→Shared→Prop}(ok:(X.wish E).Ok):X.Ok:=
 ⟨ok.mod,ok.kind,ok.glob,ok.blt,ok.above,ok.inj,ok.has,ok.cab,ok.hd,ok.frames,ok.stk,ok.exf,ok.bs,ok.bsz,ok.noex,ok.exfs,ok.funs,ok.frf⟩
section
variable{X:Cx}{BF:List (Addr×Obj)}{σ:St}{H:Hp}{s:Shared}{E:Value→Shared→Prop}
theorem Inv.wish(I:Inv X BF σ H s)(E:Value→Shared→Prop):Inv (X.wish E) BF σ H s:=⟨I.ok.wish E,I.os,I.bare,I.base,I.loc,I.cell,I.free,I.freeC,I.pin,I.hok,I.len⟩
theorem Inv.unwish(I:Inv (X.wish E) BF σ H s):Inv X BF σ H s:=⟨I.ok.unwish,I.os,I.bare,I.base,I.loc,I.cell,I.free,I.freeC,I.pin,I.hok,I.len⟩
theorem SP.unwish{D:Ends}{f:Flow}{s':Shared}(h:SP (X.wish E) BF D f s'):SP X BF D f s':=by
 cases f with
 |next=>obtain⟨σ',H',I,q⟩:=h;exact⟨σ',H',I.unwish,q⟩
 |brk=>obtain⟨σ',H',I,q⟩:=h;exact⟨σ',H',I.unwish,q⟩
 |cont=>obtain⟨σ',H',I,q⟩:=h;exact⟨σ',H',I.unwish,q⟩
 |ret u=>obtain⟨v,σ',H',I,r,q⟩:=h;exact⟨v,σ',H',I.unwish,r,q⟩
theorem PSs.nox{st:List Stmt}{t:TS}(h:PSs X.nox st t):PSs X st t:=fun BF s σ H D I hw=>
 zT (h BF s σ H D (I.wish _) hw) (fun _ _ q=>q.unwish) fun _ _ z=>False.elim z
end
section
variable{X:Cx}{st:Stmt}{rest:List Stmt}{t u:TS}{e:Expr}{te:TE}{pos:Pos}
def xX:TS:=fun D σ H=>D.nx σ H
def xS(t u:TS):TS:=fun D σ H=>t {D with nx:=u D} σ H
theorem Zw:PSs X [] xX:=fun _ _ σ H _ I h=>wpAny_execs_nil ⟨σ,H,I,h⟩
theorem Z2(h1:PS X st t)(h2:PSs X rest u):PSs X (st::rest) (xS t u):=by
 intro BF s σ H D I h;refine wpAny_execs_cons (thn (h1 BF s σ H {D with nx:=u D} I h) fun f s1 q=>?_);cases f with
 |next=>
  obtain⟨σ',H',I',q⟩:=q;exact h2 BF s1 σ' H' D I' q
 |ret v=>exact q
 |brk=>exact q
 |cont=>exact q
theorem Z7(h1:PS X st t):PSs X [st] t:=by
 intro BF s σ H D I h;refine wpAny_execs_cons (thn (h1 BF s σ H D I h) fun f s1 q=>?_);cases f with
 |next=>exact wpAny_execs_nil q
 |ret v=>exact q
 |brk=>exact q
 |cont=>exact q
theorem Inv.quiet{BF:List (Addr×Obj)}{σ:St}{H:Hp}{s:Shared}(I:Inv X BF σ H s):interactive X.env=false:=by simp[interactive,I.ok.kind]
def xy(te:TE):TS:=fun D σ H=>te σ H fun _ H1=>D.nx σ H1
theorem Xz(he:PE X e te)(hs:swapsWith e none pos.line X.env=pure false:=by rfl):PS X (.Expr e pos) (xy te):=by
 intro BF s σ H D I h;exact wpAny_Expr_any (thn (he BF s σ H _ I h) fun v s1 ⟨x,H1,I1,r1,q1⟩=>⟨σ,H1,I1,q1⟩) I.quiet hs
def tRet(te:TE):TS:=fun D σ H=>te σ H D.rt
theorem Zd(he:PE X e te):PS X (.Return (some e) pos) (tRet te):=by
 intro BF s σ H D I h;exact wpAny_Return_some (thn (he BF s σ H _ I h) fun v s1 ⟨x,H1,I1,r1,q1⟩=>⟨x,σ,H1,I1,r1,q1⟩)
def tIfS(c:TT)(t u:TS):TS:=fun D σ H=>c σ H fun b H1=>if b=true then t D σ H1 else u D σ H1
theorem Yu{c:Expr}{a b:List Stmt}{tc:TT}(hc:PT X c tc)(ha:PSs X a t)(hb:PSs X b u):PS X (.If c a b pos) (tIfS tc t u):=by
 intro BF s σ H D I h;refine wpAny_If (thn (hc BF s σ H _ I h) fun d s1 BG=>?_);obtain⟨H1,I1,q1⟩:=BG;cases d with
 |true=>exact ha BF s1 σ H1 D I1 q1
 |false=>exact hb BF s1 σ H1 D I1 q1
def vY:TS:=fun _ _ _=>False
theorem oq:PS X st vY:=fun _ _ _ _ _ _ h=>h.elim
end
abbrev TG:=V→St→Hp→(St→Hp→Prop)→Prop
abbrev TGs:=List V→St→Hp→(St→Hp→Prop)→Prop
def PG(X:Cx)(target:Expr)(t:TG):Prop:=
 ∀(BF:List (Addr×Obj))(s:Shared)(σ:St)(H:Hp)(v:V)(u:Value)(Q:St→Hp→Prop),Inv X BF σ H s→RelV v u→t v σ H Q→
  wpAny (model X.prog X.w) X.A (assign target X.env u) (fun _ s'=>∃σ' H',Inv X BF σ' H' s'∧Q σ' H') X.xe s
def PGs(X:Cx)(ts:List Expr)(t:TGs):Prop:=
 ∀(BF:List (Addr×Obj))(s:Shared)(σ:St)(H:Hp)(vs:List V)(us:List Value)(Q:St→Hp→Prop),Inv X BF σ H s→Vals vs us→t vs σ H Q→
  wpAny (model X.prog X.w) X.A (assignInOrder ((assignEach ts X.env).map (·.2)) us) (fun _ s'=>∃σ' H',Inv X BF σ' H' s'∧Q σ' H') X.xe s
abbrev uY:=V→V→V→Hp→(Hp→Prop)→Prop
def xP(X:Cx)(t:uY):Prop:=
 ∀(BF:List (Addr×Obj))(s:Shared)(σ:St)(H:Hp)(o i v:V)(ov iv u:Value)(Q:Hp→Prop),Inv X BF σ H s→RelV o ov→RelV i iv→RelV v u→t o i v H Q→
  wpAny (model X.prog X.w) X.A (setItem ov iv u) (fun _ s'=>∃H',Inv X BF σ H' s'∧Q H') X.xe s
section
variable{X:Cx}{pos:Pos}
def fI(i:Nat):TG:=fun v σ H Q=>Q (σ.set i (some v)) H
theorem Z8{i:Nat}{x:Str}(hN:X.N.Nodup)(hi:X.N[i]?=some x)(hx:Loc X.env.scope x)(hf:X.fn x=true∨X.env.scope.names.lookup x=some .local:=by first | exact .inl rfl | exact .inr rfl | assumption):PG X (.Name x pos) (fI i):=by
 intro BF s σ H v u Q I r h;exact wpAny_assign_Name (f6 I hN hi hx r (fun s' I'=>⟨_,H,I',h⟩) hf)
def gNil:TGs:=fun vs σ H Q=>vs=[]∧Q σ H
def xB(t:TG)(u:TGs):TGs:=fun vs σ H Q=>∃v r,vs=v::r∧t v σ H fun σ' H'=>u r σ' H' Q
theorem Y1:PGs X [] gNil:=by
 intro BF s σ H vs us Q I r h;obtain⟨e,h⟩:=h;subst e;cases r;exact assignInOrder_nil ⟨σ,H,I,h⟩
theorem Z9{e:Expr}{es:List Expr}{t:TG}{u:TGs}(h1:PG X e t)(h2:PGs X es u)(hs:(assignEach (e::es) X.env).map (·.2)=assign e X.env::(assignEach es X.env).map (·.2):=by rfl):PGs X (e::es) (xB t u):=by
 intro BF s σ H vs us Q I r h;obtain⟨v,vr,e1,h⟩:=h;subst e1;cases r with
 |cons r rr=>
  rw[hs];refine assignInOrder_cons (thn (h1 BF s σ H _ _ _ I r h) fun _ s1 BG=>?_);obtain⟨σ1,H1,I1,q1⟩:=BG;exact h2 BF s1 σ1 H1 _ _ Q I1 rr q1
def xp(K:W.Frag)(n:Nat)(t:TGs):TG:=fun v σ H Q=>∃a xs,v=.ref a∧SqT K H a xs∧xs.length=n∧t xs σ H Q
theorem W8{es:List Expr}{k:Nat}{t:TGs}{n:Nat}(hc:X.calm=true)(h:PGs X es t)(hn:(assignEach es X.env).length=n:=by rfl)(hst:(assignEach es X.env).findIdx? (·.1)=none:=by rfl):PG X (.Tuple es k pos) (xp X.K n t):=by
 intro BF s σ H v u Q I r hw;obtain⟨a,xs,e1,hq,hl,hw⟩:=hw;subst e1;cases r;obtain⟨its,rv,ht,hz⟩:=I.tuple hq;refine assign_Tuple_tuple (I.ok.hd hc) ht (by simp[hn,←hl,rv.length]) hst fun h' hx=>?_;have I1:Inv X BF σ H {s with heap:=h'}:=I.kept (t':=s.toks) fun b o e=>hx b o (yN (yE e)) e;exact h BF _ σ H xs _ Q I1 (by simpa using rv) hw
def gSub(to ti:TE)(t:uY):TG:=fun v σ H Q=>to σ H fun o H1=>ti σ H1 fun i H2=>t o i v H2 fun H3=>Q σ H3
theorem iS{o i:Expr}{to ti:TE}{t:uY}(ho:PE X o to)(hi:PE X i ti)(hs:xP X t)(ha:∀v,assign (.Subscript o i pos) X.env v=(do
   let ov ←holding [v] (eval o X.env)
   let iv ←holding [v,ov] (eval i X.env)
   standAt pos
   holding [v,ov,iv] (setItem ov iv v)
   release [v,ov,iv] []):=by intro _;rfl):PG X (.Subscript o i pos) (gSub to ti t):=by
 intro BF s σ H v u Q I r h;rw[ha];refine io (zn (thn (ho BF s σ H _ I h) fun ov s1 BG=>?_));obtain⟨x,H1,I1,r1,q1⟩:=BG;refine io (zn (thn (hi BF s1 σ H1 _ I1 q1) fun iv s2 BG=>?_));obtain⟨y,H2,I2,r2,q2⟩:=BG;refine io (wpAny_standAt (io (zn (thn (hs BF s2 σ H2 x y v ov iv u _ I2 r1 r2 r q2) fun _ s3 BG=>?_))));obtain⟨H3,I3,q3⟩:=BG;exact wpAny_release ⟨σ,H3,I3,q3⟩
def o_(te:TE)(g:TG):TS:=fun D σ H=>te σ H fun x H1=>g x σ H1 D.nx
theorem V2{tg e:Expr}{te:TE}{g:TG}(he:PE X e te)(hg:PG X tg g)(hs:swapsWithSole [tg] e pos.line X.env=pure false:=by rfl)(hw:swappedStores [tg] e X.env=pure none:=by rfl)(h1:(assignEach [tg] X.env).map (·.2)=[assign tg X.env]:=by rfl):PS X (.Assign [tg] e pos) (o_ te g):=by
 intro BF s σ H D I h;refine wpAny_Assign_stores (thn (he BF s σ H _ I h) fun v s1 ⟨x,H1,I1,r1,q1⟩=>?_) hs hw;rw[h1];exact thn (hg BF s1 σ H1 x v _ I1 r1 q1) fun _ s2 q=>q
theorem Sc{i:Nat}{x:Str}{e:Expr}{te:TE}{pos':Pos}(hN:X.N.Nodup)(hi:X.N[i]?=some x)(hx:Loc X.env.scope x)(he:PE X e te)(hs:swapsWith e (some (.Name x pos')) pos.line X.env=pure false:=by rfl)(hf:X.fn x=true∨X.env.scope.names.lookup x=some .local:=by first | exact .inl rfl | exact .inr rfl | assumption):
  PS X (.Assign [.Name x pos'] e pos) (o_ te (fI i)):=by
 intro BF s σ H D I h;refine wpAny_Assign_Name (thn (he BF s σ H _ I h) fun v s1 BG=>?_) hs;obtain⟨y,H1,I1,r1,q1⟩:=BG;exact f6 I1 hN hi hx r1 (fun s2 I2=>⟨_,H1,I2,q1⟩) hf
end
section
variable{X:Cx}{pos:Pos}
def nF(c:TT)(tb:TS):TS:=fun D σ H=>∃W:Nat→St→Hp→Prop,(∃m,W m σ H)∧∀m σ H,W m σ H→
 c σ H fun b H1=>if b=true then ∃N:St→Hp→Prop,(∀σ' H',N σ' H'→∃m',m'<m∧W m' σ' H')∧tb {D with nx:=N,ct:=N,bk:=D.nx} σ H1 else D.nx σ H1
theorem Q6{c:Expr}{body:List Stmt}{tc:TT}{tb:TS}(hp:PassesOwn (model X.prog X.w) X.A X.env X.xe)(hc:PT X c tc)(hb:PSs X body tb):PS X (.While c body [] pos) (nF tc tb):=by
 intro BF s σ H D I h;obtain⟨W,⟨m0,w0⟩,turn⟩:=h;refine wpAny_While (codeAny_whileLoop (fun n s'=>∃σ' H',Inv X BF σ' H' s'∧W n σ' H') ?_ m0 ⟨σ,H,I,w0⟩);rintro n s1 ⟨σ1,H1,I1,w1⟩;refine AO hp (thn (hc BF s1 σ1 H1 _ I1 (turn n σ1 H1 w1)) fun b s2 BG=>?_);obtain⟨H2,I2,q2⟩:=BG;cases b with
 |true=>
  obtain⟨N,hN,q2⟩:=q2;rw[yC rfl];refine AO hp (thn (hb BF s2 σ1 H2 _ I2 q2) fun f s3 q3=>?_);cases f with
  |next=>
   obtain⟨σ3,H3,I3,n3⟩:=q3;obtain⟨m',hm,w3⟩:=hN σ3 H3 n3;exact⟨m',hm,σ3,H3,I3,w3⟩
  |cont=>
   obtain⟨σ3,H3,I3,n3⟩:=q3;obtain⟨m',hm,w3⟩:=hN σ3 H3 n3;exact⟨m',hm,σ3,H3,I3,w3⟩
  |brk=>exact q3
  |ret v=>exact q3
 |false=>
  rw[yA yP];exact wpAny_execs_nil ⟨σ1,H2,I2,q2⟩
end
structure It where
 go:Nat→Hp→Prop
 yld:Nat→Hp→V→Hp→Prop
 stop:Nat→Hp→Prop
def cD(X:Cx)(BF:List (Addr×Obj))(H:Hp)(b:Addr):Prop:=
 H b=none∧b≠X.env.locals∧b∉X.fs∧(b∈X.ex∨X.s₀.heap.objs.size≤b)∧(∀x c,X.env.cells.lookup x=some c→c≠b)∧∀p∈X.pn++BF,p.1≠b
theorem Inv.fpOk{X:Cx}{BF:List (Addr×Obj)}{σ:St}{H H':Hp}{s:Shared}{b:Addr}(I:Inv X BF σ H s)(hb:s.heap.objs.size≤b)(hn:H' b=none):cD X BF H' b:=by
 refine⟨hn,zR (zd I.lt hb),I.nofs hb,.inr (zE I.sz hb),fun x c e z=>?_,fun p hp z=>?_⟩
 ·obtain⟨v,q⟩:=I.cell x c e;exact absurd (zd q.lt (by rw[z];exact hb)) (AH _)
 ·exact absurd (zd (yE (I.pin p hp).1) (by rw[z];exact hb)) (AH _)
structure Turn(P:Program)(w:World)(K:W.Frag)(tg:Expr)(J:It)(fp:List Addr)(it:Addr)(tn:Nat→Heap→Prop):Prop where
 mem:it∈fp
 obj:∀i h,tn i h→∀b∈fp,∃o,h.get? b=some o∧∀v,o.data≠.cell v
 keep:∀i h h',tn i h→(∀b∈fp,∀o,h.get? b=some o→h'.get? b=some o)→tn i h'
 item:∀(X:Cx),X.prog=P→X.w=w→X.K=K→X.calm=true→∀(i:Nat)(BF:List (Addr×Obj))(s:Shared)(σ:St)(H:Hp)(E:Value→Shared→Prop),Inv X BF σ H s→(∀b∈fp,cD X BF H b)→tn i s.heap→J.go i H→
  wpAny (model P w) X.A (pyNext (.ref it)) (fun r s1=>∃u,r=some u∧
   wpAny (model P w) X.A (letOwnedTupleGo tg (.ref it) u) (fun _ s2=>∃x H',Inv X BF σ H' s2∧RelV x u∧J.yld i H x H'∧tn (i+1) s2.heap∧∀b∈fp,H' b=none) E s1) E s
 done:∀(X:Cx),X.prog=P→X.w=w→X.K=K→X.calm=true→∀(i:Nat)(BF:List (Addr×Obj))(s:Shared)(σ:St)(H:Hp)(E:Value→Shared→Prop),Inv X BF σ H s→(∀b∈fp,cD X BF H b)→tn i s.heap→J.stop i H→
  wpAny (model P w) X.A (pyNext (.ref it)) (fun r s1=>r=none∧Inv X BF σ H s1) E s
 self:∀(A:Around)(i:Nat)(s:Shared)(Q:Value→Shared→Prop)(E:Value→Shared→Prop),tn i s.heap→Q (.ref it) s→wpAny (model P w) A (pyIter (.ref it)) Q E s
abbrev TI:=St→Hp→(It→Hp→Prop)→Prop
def PIE(X:Cx)(BF:List (Addr×Obj))(σ:St)(tg:Expr)(R:It→Hp→Prop)(itv:Value)(s2:Shared):Prop:=
 ∃(it:Addr)(fp:List Addr)(tn:Nat→Heap→Prop)(J:It)(H':Hp),itv=.ref it∧Inv X BF σ H' s2∧Turn X.prog X.w X.K tg J fp it tn∧tn 0 s2.heap∧(∀b∈fp,cD X BF H' b)∧R J H'
def PI(X:Cx)(tg iter:Expr)(wi:TI):Prop:=
 ∀(BF:List (Addr×Obj))(s:Shared)(σ:St)(H:Hp)(R:It→Hp→Prop),Inv X BF σ H s→wi σ H R→
  wpAny (model X.prog X.w) X.A (eval iter X.env) (fun v s1=>wpAny (model X.prog X.w) X.A (pyIter v) (PIE X BF σ tg R) X.xe s1) X.xe s
theorem jC{M:Model}{A:Around}{E:Value→Shared→Prop}{s:Shared}{tg:Expr}{it:Addr}{u:Value}{o:Obj}{n:String}{vs:Array Value}{Q:Unit→Shared→Prop}(ho:s.heap.get? it=some o)(hc:o.cls=.type n)(hd:o.data=.fields vs)(hn:["enumerate","zip","dict_itemiterator","dict_reverseitemiterator","odict_iterator","itertools.zip_longest","itertools.pairwise"].contains n=false)(hQ:Q () s):wpAny M A (letOwnedTupleGo tg (.ref it) u) Q E s:=by
 unfold letOwnedTupleGo;cases tg <;> first
  |exact yx hQ
  | (cases u <;> first
    |exact yx hQ
    | (refine io (Bf ho ?_)
       rw[hc,hd];show wpAny M A (if (["enumerate","zip","dict_itemiterator","dict_reverseitemiterator","odict_iterator","itertools.zip_longest","itertools.pairwise"].contains n && vs[0]? == some (rawInt _))=true then _ else _) Q E s;rw[yA (by intro h;rw[hn,A0]at h;cases h)];exact yx hQ))
def Itl(K:W.Frag)(a:Addr):It:=
 ⟨fun i H=>∃xs x,SqL K H a xs∧xs[i]?=some x,fun i H x H'=>H'=H∧∀xs,SqL K H a xs→xs[i]?=some x,fun i H=>∃xs,SqL K H a xs∧xs.length≤i⟩
def Itt(K:W.Frag)(a:Addr):It:=
 ⟨fun i H=>∃xs x,SqT K H a xs∧xs[i]?=some x,fun i H x H'=>H'=H∧∀xs,SqT K H a xs→xs[i]?=some x,fun i H=>∃xs,SqT K H a xs∧xs.length≤i⟩
def Itr(lo:Int)(n:Nat):It:=⟨fun i _=>i<n,fun i H x H'=>H'=H∧x=.int (lo+i),fun i _=>n≤i⟩
theorem mz{P:Program}{w:World}{K:W.Frag}{tg:Expr}(a it:Addr):Turn P w K tg (Itl K a) [it] it (fun i h=>h.IsListIter it a i) where
 mem:=by simp
 obj:=fun i h st b hb=>by
  have e:b=it:=by simpa using hb
  subst e;obtain⟨o,e,c,d⟩:=st;exact⟨o,e,fun v z=>by rw[d]at z;cases z⟩
 keep:=fun i h h' st k=>st.at fun o e=>k it (by simp) o e
 item:=by
  intro X hP hw hK hc i BF s σ H E I hf st hg;subst hP hw hK;obtain⟨xs,x,hq,hx⟩:=hg;obtain⟨its,rv,p,hz⟩:=I.list hq;obtain⟨u,hu,ru⟩:=rv.get hx;obtain⟨f0,f1,f2,f3,f4,f5⟩:=hf it (by simp);refine wpAny_pyNext_list_item st p.isList (x:=u) (by simpa using hu) fun h' BU sb=>?_;have I1:Inv X BF σ H {s with heap:=h'}:=I.turned (t':=s.toks) (fun b o hb e=>(sb.2 b hb).trans e) f0 f1 f3 f4 f5;obtain⟨o,e,c,d⟩:=id BU;exact⟨u,rfl,jC (s:={s with heap:=h'}) e c d (by decide) ⟨x,H,I1,ru,⟨rfl,fun ys hy=>by rw[I.list_inj hy hq];exact hx⟩,BU,fun b hb=>(hf b hb).1⟩⟩
 done:=by
  intro X hP hw hK hc i BF s σ H E I hf st hg;subst hP hw hK;obtain⟨xs,hq,hx⟩:=hg;obtain⟨its,rv,p,hz⟩:=I.list hq;obtain⟨f0,f1,f2,f3,f4,f5⟩:=hf it (by simp);have hl:=rv.length;exact wpAny_pyNext_list_end (I.ok.hd hc) st p.isList (by simp;omega) fun h' eb=>⟨rfl,I.turned (t':=s.toks) (fun b o hb e=>eb b o hb e) f0 f1 f3 f4 f5⟩
 self:=fun _ _ _ _ _ st h=>wpAny_pyIter_listiter st h
theorem iJ{P:Program}{w:World}{K:W.Frag}{tg:Expr}(a it:Addr):Turn P w K tg (Itt K a) [it] it (fun i h=>h.IsTupleIter it a i) where
 mem:=by simp
 obj:=fun i h st b hb=>by
  have e:b=it:=by simpa using hb
  subst e;obtain⟨o,e,c,d⟩:=st;exact⟨o,e,fun v z=>by rw[d]at z;cases z⟩
 keep:=fun i h h' st k=>st.at fun o e=>k it (by simp) o e
 item:=by
  intro X hP hw hK hc i BF s σ H E I hf st hg;subst hP hw hK;obtain⟨xs,x,hq,hx⟩:=hg;obtain⟨its,rv,p,hz⟩:=I.tuple hq;obtain⟨u,hu,ru⟩:=rv.get hx;obtain⟨f0,f1,f2,f3,f4,f5⟩:=hf it (by simp);refine wpAny_pyNext_tuple_item st (show s.heap.IsTuple a its.toArray from p) (x:=u) (by simpa using hu) fun h' BU sb=>?_;have I1:Inv X BF σ H {s with heap:=h'}:=I.turned (t':=s.toks) (fun b o hb e=>(sb.2 b hb).trans e) f0 f1 f3 f4 f5;obtain⟨o,e,c,d⟩:=id BU;exact⟨u,rfl,jC (s:={s with heap:=h'}) e c d (by decide) ⟨x,H,I1,ru,⟨rfl,fun ys hy=>by rw[I.tuple_inj hy hq];exact hx⟩,BU,fun b hb=>(hf b hb).1⟩⟩
 done:=by
  intro X hP hw hK hc i BF s σ H E I hf st hg;subst hP hw hK;obtain⟨xs,hq,hx⟩:=hg;obtain⟨its,rv,p,hz⟩:=I.tuple hq;obtain⟨f0,f1,f2,f3,f4,f5⟩:=hf it (by simp);have hl:=rv.length;exact wpAny_pyNext_tuple_end (I.ok.hd hc) st (show s.heap.IsTuple a its.toArray from p) (by simp;omega) fun h' eb=>⟨rfl,I.turned (t':=s.toks) (fun b o hb e=>eb b o hb e) f0 f1 f3 f4 f5⟩
 self:=fun _ _ _ _ _ st h=>wpAny_pyIter_tupleiter st h
theorem iA{P:Program}{w:World}{K:PySem.W.Frag}{tg:Expr}(it:Addr)(lo:Int)(n:Nat):Turn P w K tg (Itr lo n) [it] it (fun i h=>IsRangeIter h it (lo+(i:Nat)*1) ((n:Int)-(i:Nat)) 1) where
 mem:=by simp
 obj:=fun i h st b hb=>by
  have e:b=it:=by simpa using hb
  subst e;exact⟨_,st,fun v z=>by
   have z':Data.fields _=Data.cell v:=z;cases z'⟩
 keep:=fun i h h' st k=>k it (by simp) _ st
 item:=by
  intro X hP hw hK hc i BF s σ H E I hf st hg;subst hP hw hK;obtain⟨f0,f1,f2,f3,f4,f5⟩:=hf it (by simp);have W:=Walks.range (prog:=X.prog) (w:=X.w) (I.ok.hd hc) it lo 1 n;refine W.item i s _ _ hg st fun v h' tk hv BU kk=>?_;obtain⟨t,rfl⟩:=hv;have I1:Inv X BF σ H {s with heap:=h',toks:=tk}:=I.turned (fun b o hb e=>kk b o (by simpa using hb) e) f0 f1 f3 f4 f5;refine⟨_,rfl,jC (s:={s with heap:=h',toks:=tk}) (n:="range_iterator") BU rfl rfl (by decide) ⟨.int (lo+i),H,I1,⟨t,?_⟩,⟨rfl,rfl⟩,BU,fun b hb=>(hf b hb).1⟩⟩;rw[AI]
 done:=by
  intro X hP hw hK hc i BF s σ H E I hf st hg;subst hP hw hK;obtain⟨f0,f1,f2,f3,f4,f5⟩:=hf it (by simp);exact wpAny_pyNext_range_end (I.ok.hd hc) st (by have:n≤i:=hg;omega) fun h' eb=>⟨rfl,I.turned (t':=s.toks) (fun b o hb e=>eb b o hb e) f0 f1 f3 f4 f5⟩
 self:=fun _ _ _ _ _ st h=>wpAny_pyIter_rangeiter st h
section
variable{X:Cx}{tg:Expr}
def t_(K:W.Frag)(tl:TE):TI:=fun σ H R=>tl σ H fun x H1=>∃a,x=.ref a∧(∃xs,SqL K H1 a xs)∧R (Itl K a) H1
def iTup(K:W.Frag)(tl:TE):TI:=fun σ H R=>tl σ H fun x H1=>∃a,x=.ref a∧(∃xs,SqT K H1 a xs)∧R (Itt K a) H1
theorem Zq{l:Expr}{tl:TE}(hl:PE X l tl):PI X tg l (t_ X.K tl):=by
 intro BF s σ H R I h;refine thn (hl BF s σ H _ I h) fun v s1 BG=>?_;obtain⟨x,H1,I1,r1,q1⟩:=BG;obtain⟨a,e,⟨xs,hq⟩,q⟩:=q1;subst e;cases r1;obtain⟨its,rv,p,hz⟩:=I1.list hq;refine Bd p.isList ?_;refine⟨s1.heap.objs.size,[s1.heap.objs.size],_,_,H1,rfl,I1.kept (t':=s1.toks) fun b o e=>yy _ e,mz a _,⟨_,yH _ rfl,rfl,rfl⟩,fun b hb=>?_,q⟩;have e:b=s1.heap.objs.size:=by simpa using hb
 subst e;exact I1.fpOk (yB _) (I1.hok.fresh (yB _))
theorem jk{l:Expr}{tl:TE}(hl:PE X l tl):PI X tg l (iTup X.K tl):=by
 intro BF s σ H R I h;refine thn (hl BF s σ H _ I h) fun v s1 BG=>?_;obtain⟨x,H1,I1,r1,q1⟩:=BG;obtain⟨a,e,⟨xs,hq⟩,q⟩:=q1;subst e;cases r1;obtain⟨its,rv,p,hz⟩:=I1.tuple hq;refine wpAny_pyIter_tuple (show s1.heap.IsTuple a its.toArray from p) ?_;refine⟨s1.heap.objs.size,[s1.heap.objs.size],_,_,H1,rfl,I1.kept (t':=s1.toks) fun b o e=>yy _ e,iJ a _,⟨_,yH _ rfl,rfl,rfl⟩,fun b hb=>?_,q⟩;have e:b=s1.heap.objs.size:=by simpa using hb
 subst e;exact I1.fpOk (yB _) (I1.hok.fresh (yB _))
theorem nH{BF:List (Addr×Obj)}{σ:St}{H:Hp}{s:Shared}{R:It→Hp→Prop}{E:Value→Shared→Prop}{lo hi:Int}{t u v:Tok}{tk:Nat}(I:Inv X BF σ H s)(h1:-(2^62)≤lo)(h2:lo<2^62)(h3:-(2^62)≤hi)(h4:hi<2^62)(q:R (Itr lo (hi-lo).toNat) H):wpAny (model X.prog X.w) X.A (pyIter (.ref s.heap.objs.size)) (PIE X BF σ tg R) E {s with heap:=s.heap.push {cls:=.type "range",data:=.fields #[.int lo t,.int hi u,.int 1 v]},toks:=tk}:=by
 refine wpAny_pyIter_range (IsRange.new ..) (small_one h1 h2 h3 h4) ?_;have I1:Inv X BF σ H {s with heap:=s.heap.push {cls:=.type "range",data:=.fields #[.int lo t,.int hi u,.int 1 v]},toks:=tk}:=I.kept fun b o e=>yy _ e;refine⟨(s.heap.push {cls:=.type "range",data:=.fields #[.int lo t,.int hi u,.int 1 v]}).objs.size,[(s.heap.push {cls:=.type "range",data:=.fields #[.int lo t,.int hi u,.int 1 v]}).objs.size],_,_,H,rfl,
  I1.kept (t':=tk) fun b o e=>yy _ e,iA _ lo (hi-lo).toNat,?_,fun b hb=>?_,q⟩
 ·have e1:lo+((0:Nat):Int)*1=lo:=by simp
  have e2:(((hi-lo).toNat:Nat):Int)-((0:Nat):Int)=Builtin.Range.rangeSize lo hi 1:=by rw[rangeSize_one];split <;> omega
  show IsRangeIter _ _ (lo+((0:Nat):Int)*1) ((((hi-lo).toNat:Nat):Int)-((0:Nat):Int)) 1;rw[e1,e2];exact yH _ rfl
 ·have e:b=(s.heap.push {cls:=.type "range",data:=.fields #[.int lo t,.int hi u,.int 1 v]}).objs.size:=by simpa using hb
  subst e;exact I1.fpOk (yB _) (I1.hok.fresh (yB _))
def wE(ta:TA):TI:=fun σ H R=>ta σ H fun vs H1=>∃j:Int,vs=[.int j]∧-(2^62)≤j∧j<2^62∧R (Itr 0 j.toNat) H1
theorem Xh{a:Expr}{ta:TA}{p pos:Pos}(hg:Gl X "range")(hm:X.mg "range"=none)(ha:PA X [a] ta)(hs:starEach [a] X.env=[(false,eval a X.env)]:=by rfl):PI X tg (.Call (.Name "range" p) [a] [] pos) (wE ta):=by
 intro BF s σ H R I h;refine Call_ (dU I hg hm boot_range (PyProof.Rows.callWith_type1 (thn (ha pos BF s σ H _ I h) fun us s1 ⟨vs,H1,I1,r1,q1⟩=>?_) hs rfl));obtain⟨j,e,q1,q2,q⟩:=q1;subst e;cases r1 with
 |cons r rr=>
  cases rr;obtain⟨t,rfl⟩:=r;exact call_range_1 (nH I1 (by omega) (by omega) q1 q2 (by simpa using q))
def tFor(wi:TI)(g:TG)(tb:TS):TS:=fun D σ H=>wi σ H fun J H1=>∃W:Nat→Nat→St→Hp→Prop,(∃m,W 0 m σ H1)∧∀i m σ H,W i m σ H→
 (J.stop i H∧D.nx σ H)∨(J.go i H∧∃N:St→Hp→Prop,(∀σ' H',N σ' H'→∃m',m'<m∧W (i+1) m' σ' H')∧∀x H',J.yld i H x H'→g x σ H' fun σ2 H2=>tb {D with nx:=N,ct:=N,bk:=D.nx} σ2 H2)
def c8(fp:List Addr)(h:Heap):List (Addr×Obj):=fp.filterMap fun b=>(h.get? b).map fun o=>(b,o)
theorem Vs{fp:List Addr}{h:Heap}{b:Addr}{o:Obj}(hb:b∈fp)(e:h.get? b=some o):(b,o)∈c8 fp h:=List.mem_filterMap.mpr ⟨b,hb,by rw[e];rfl⟩
theorem my{fp:List Addr}{h:Heap}{p:Addr×Obj}(hp:p∈c8 fp h):p.1∈fp∧h.get? p.1=some p.2:=by
 obtain⟨b,hb,e⟩:=List.mem_filterMap.mp hp;cases q:h.get? b with
 |none=>rw[q]at e;cases e
 |some o=>
  rw[q]at e;have e':(b,o)=p:=zD e;subst e';exact⟨hb,q⟩
theorem Inv.pinned{BF:List (Addr×Obj)}{σ:St}{H:Hp}{s:Shared}{fp:List Addr}(I:Inv X BF σ H s)(hf:∀b∈fp,cD X BF H b)(ho:∀b∈fp,∃o,s.heap.get? b=some o∧∀v,o.data≠.cell v):Inv X (BF++c8 fp s.heap) σ H s:=
 I.pins_of fun p hp=>(zk.mp hp).elim (fun z=>I.pin p (yT _ z)) fun z=>by
  obtain⟨hb,e⟩:=my z;obtain⟨f0,f1,f2,_⟩:=hf p.1 hb;obtain⟨o,e',d⟩:=ho p.1 hb;rw[e]at e';cases e';exact⟨e,f0,f1,f2,d⟩
theorem Inv.unpinned{BF pl:List (Addr×Obj)}{σ:St}{H:Hp}{s:Shared}(I:Inv X (BF++pl) σ H s):Inv X BF σ H s:=I.pins_of fun p hp=>I.pin p (yT _ (Ab _ hp))
theorem Yr{iter:Expr}{body:List Stmt}{wi:TI}{g:TG}{tb:TS}{pos:Pos}(hp:PassesOwn (model X.prog X.w) X.A X.env X.xe)(hc:X.calm=true)(hi:PI X tg iter wi)(hg:PG X tg g)(hb:PSs X body tb)(hs:∀x,foldedSetIterable iter X.env x=pure x:=by intro _;rfl):PS X (.For tg iter body [] pos) (tFor wi g tb):=by
 intro BF s σ H D I h;refine wpAny_For (thn (hi BF s σ H _ I h) fun v s1 h1=>thn h1 fun itv s2 h2=>?_) hs;obtain⟨it,fp,tn,J,H2,e,I2,T,st2,f2,W,⟨m0,w0⟩,turn⟩:=h2;subst e;have stat:∀{H':Hp},(∀b∈fp,H' b=none)→∀b∈fp,cD X BF H' b:=fun hn b hb=>⟨hn b hb,(f2 b hb).2⟩;refine codeAny_forLoop_any (fun n s'=>∃i σ' H',Inv X BF σ' H' s'∧tn i s'.heap∧(∀b∈fp,H' b=none)∧W i n σ' H') ?_ m0 ⟨0,σ,H2,I2,st2,fun b hb=>(f2 b hb).1,w0⟩;rintro n s3 ⟨i,σ3,H3,I3,st3,fr3,w3⟩
 rcases turn i n σ3 H3 w3 with⟨stop,qn⟩|⟨go,N,hN,step⟩
 ·refine AO hp (thn (T.done X rfl rfl rfl hc i BF s3 σ3 H3 X.xe I3 (stat fr3) st3 stop) fun r s4 BG=>?_);obtain⟨hr,I4⟩:=BG;subst hr;exact wpAny_execs_nil ⟨σ3,H3,I4,qn⟩
 ·refine AO hp (thn (T.item X rfl rfl rfl hc i BF s3 σ3 H3 X.xe I3 (stat fr3) st3 go) fun r s4 BG=>?_);obtain⟨u,hr,h4⟩:=BG;subst hr;refine AO hp (thn h4 fun _ s5 BG=>?_);obtain⟨x,H5,I5,r5,y5,st5,fr5⟩:=BG;have I5':=I5.pinned (stat fr5) (T.obj _ _ st5);refine AO hp (thn (hg _ s5 σ3 H5 x u _ I5' r5 (step x H5 y5)) fun _ s6 BG=>?_);obtain⟨σ6,H6,I6,q6⟩:=BG;refine AO hp (thn (hb _ s6 σ6 H6 _ I6 q6) fun f s7 q7=>?_);have again:∀{σ7:St}{H7:Hp},Inv X (BF++c8 fp s5.heap) σ7 H7 s7→N σ7 H7→∃m,m<n∧∃i σ' H',Inv X BF σ' H' s7∧tn i s7.heap∧(∀b∈fp,H' b=none)∧W i m σ' H':=fun{σ7 H7} I7 n7=>by
   obtain⟨m',hm,w7⟩:=hN σ7 H7 n7;refine⟨m',hm,i+1,σ7,H7,I7.unpinned,T.keep _ _ _ st5 fun b hb o e=>(I7.pin (b,o) (yT _ (yT _ (Vs hb e)))).1,fun b hb=>?_,w7⟩;obtain⟨o,e,d⟩:=T.obj _ _ st5 b hb;exact(I7.pin (b,o) (yT _ (yT _ (Vs hb e)))).2.1
  cases f with
  |next=>obtain⟨σ7,H7,I7,n7⟩:=q7;exact again I7 n7
  |cont=>obtain⟨σ7,H7,I7,n7⟩:=q7;exact again I7 n7
  |brk=>obtain⟨σ7,H7,I7,q7⟩:=q7;exact⟨σ7,H7,I7.unpinned,q7⟩
  |ret v=>obtain⟨x7,σ7,H7,I7,r7,q7⟩:=q7;exact⟨x7,σ7,H7,I7.unpinned,r7,q7⟩
end
theorem nN{K:PySem.W.Frag}{a:Addr}{xs:List V}{g:TG}{tb:TS}{D:Ends}{σ:St}{H:Hp}(Pv:Nat→St→Hp→Prop)(h0:Pv 0 σ H)(hl:∀i σ H,i≤xs.length→Pv i σ H→SqL K H a xs)(hs:∀i x σ H,xs[i]?=some x→Pv i σ H→g x σ H fun σ2 H2=>tb {D with nx:=Pv (i+1),ct:=Pv (i+1),bk:=D.nx} σ2 H2)(hd:∀σ H,Pv xs.length σ H→D.nx σ H):
  ∃W:Nat→Nat→St→Hp→Prop,(∃m,W 0 m σ H)∧∀i m σ H,W i m σ H→
   ((Itl K a).stop i H∧D.nx σ H)∨((Itl K a).go i H∧∃N:St→Hp→Prop,(∀σ' H',N σ' H'→∃m',m'<m∧W (i+1) m' σ' H')∧∀x H',(Itl K a).yld i H x H'→g x σ H' fun σ2 H2=>tb {D with nx:=N,ct:=N,bk:=D.nx} σ2 H2):=by
 refine⟨fun i m σ H=>m=xs.length-i∧i≤xs.length∧Pv i σ H,⟨xs.length,by simp,Nat.zero_le _,h0⟩,?_⟩;rintro i m σ H ⟨rfl,hi,p⟩;have q:=hl i σ H hi p;by_cases BL:i<xs.length
 ·refine .inr ⟨⟨xs,xs[i],q,by simp[BL]⟩,Pv (i+1),fun σ' H' p'=>⟨xs.length-(i+1),by omega,rfl,BL,p'⟩,fun x H' y=>?_⟩;obtain⟨e,y⟩:=y;subst e;exact hs i x σ _ (y xs q) p
 ·have e:i=xs.length:=by omega
  subst e;exact .inl ⟨⟨xs,q,yB _⟩,hd σ H p⟩
theorem lB{lo:Int}{n:Nat}{g:TG}{tb:TS}{D:Ends}{σ:St}{H:Hp}(Pv:Nat→St→Hp→Prop)(h0:Pv 0 σ H)(hs:∀i σ H,i<n→Pv i σ H→g (.int (lo+i)) σ H fun σ2 H2=>tb {D with nx:=Pv (i+1),ct:=Pv (i+1),bk:=D.nx} σ2 H2)(hd:∀σ H,Pv n σ H→D.nx σ H):
  ∃W:Nat→Nat→St→Hp→Prop,(∃m,W 0 m σ H)∧∀i m σ H,W i m σ H→
   ((Itr lo n).stop i H∧D.nx σ H)∨((Itr lo n).go i H∧∃N:St→Hp→Prop,(∀σ' H',N σ' H'→∃m',m'<m∧W (i+1) m' σ' H')∧∀x H',(Itr lo n).yld i H x H'→g x σ H' fun σ2 H2=>tb {D with nx:=N,ct:=N,bk:=D.nx} σ2 H2):=by
 refine⟨fun i m σ H=>m=n-i∧i≤n∧Pv i σ H,⟨n,by simp,Nat.zero_le _,h0⟩,?_⟩;rintro i m σ H ⟨rfl,hi,p⟩;by_cases BL:i<n
 ·refine .inr ⟨BL,Pv (i+1),fun σ' H' p'=>⟨n-(i+1),by omega,rfl,BL,p'⟩,fun x H' y=>?_⟩;obtain⟨e,y⟩:=y;subst e y;exact hs i σ _ BL p
 ·have e:i=n:=by omega
  subst e;exact .inl ⟨yB _,hd σ H p⟩
theorem Rp{c:TT}{tb:TS}{D:Ends}{σ:St}{H:Hp}(Pv:St→Hp→Prop)(μ:St→Hp→Nat)(h0:Pv σ H)(hs:∀σ H,Pv σ H→c σ H fun b H1=>if b=true then tb {D with nx:=fun σ' H'=>Pv σ' H'∧μ σ' H'<μ σ H,ct:=fun σ' H'=>Pv σ' H'∧μ σ' H'<μ σ H,bk:=D.nx} σ H1 else D.nx σ H1)(mono:∀σ H Q Q',(∀b H1,Q b H1→Q' b H1)→c σ H Q→c σ H Q'):nF c tb D σ H:=by
 refine⟨fun m σ H=>m=μ σ H∧Pv σ H,⟨_,rfl,h0⟩,?_⟩;rintro m σ H ⟨rfl,p⟩;refine mono σ H _ _ (fun b H1 q=>?_) (hs σ H p);cases b with
 |true=>exact⟨_,fun σ' H' ⟨p',l⟩=>⟨_,l,rfl,p'⟩,q⟩
 |false=>exact q
abbrev R2:=V→V→Hp→VK→Prop
def OpR(X:Cx)(f:Value→Value→Sem Value)(r:R2):Prop:=
 ∀(BF:List (Addr×Obj))(s:Shared)(σ:St)(H:Hp)(x y:V)(v u:Value)(Q:VK),Inv X BF σ H s→RelV x v→RelV y u→r x y H Q→
  wpAny (model X.prog X.w) X.A (f v u) (EP X BF σ Q) X.xe s
def aL(X:Cx)(f:Value)(r:List V→Hp→VK→Prop):Prop:=
 ∀(BF:List (Addr×Obj))(s:Shared)(σ:St)(H:Hp)(xs:List V)(us:List Value)(Q:VK),Inv X BF σ H s→Vals xs us→r xs H Q→
  wpAny (model X.prog X.w) X.A (call f us) (EP X BF σ Q) X.xe s
def tOp(r:R2)(ta tb:TE):TE:=fun σ H Q=>ta σ H fun x H1=>tb σ H1 fun y H2=>r x y H2 Q
def rI(C:Int→Int→Prop)(g:Int→Int→V):R2:=fun x y H Q=>∃i j,x=.int i∧y=.int j∧C i j∧Q (g i j) H
def rI0(g:Int→Int→V):R2:=fun x y H Q=>∃i j,x=.int i∧y=.int j∧Q (g i j) H
section
variable{X:Cx}{a b c:Expr}{ta tb tc:TE}{pos:Pos}
theorem vG(ha:PE X a ta)(hb:PE X b tb){BF:List (Addr×Obj)}{s:Shared}{σ:St}{H:Hp}{R:V→V→Hp→Prop}(I:Inv X BF σ H s)(h:ta σ H fun x H1=>tb σ H1 fun y H2=>R x y H2){Q:Value→Shared→Prop}{f:Value→Value→Sem Value}(hf:∀v u s2 x y H2,Inv X BF σ H2 s2→RelV x v→RelV y u→R x y H2→wpAny (model X.prog X.w) X.A (f v u) Q X.xe s2):
  wpAny (model X.prog X.w) X.A (eval a X.env) (fun v s₁=>wpAny (model X.prog X.w) X.A (eval b X.env) (fun u s₂=>wpAny (model X.prog X.w) X.A (f v u) Q X.xe s₂) X.xe s₁) X.xe s:=by
 refine thn (ha BF s σ H _ I h) fun v s1 BG=>?_;obtain⟨x,H1,I1,r1,q1⟩:=BG;refine thn (hb BF s1 σ H1 _ I1 q1) fun u s2 BG=>?_;obtain⟨y,H2,I2,r2,q2⟩:=BG;exact hf v u s2 x y H2 I2 r1 r2 q2
theorem Zb{op:Operator}{r:R2}(ho:OpR X (binaryOp op) r)(ha:PE X a ta)(hb:PE X b tb):PE X (.BinOp a op b pos) (tOp r ta tb):=by
 intro BF s σ H Q I h;exact wpAny_BinOp (vG ha hb I h fun v u s2 x y H2 I2 rx ry q=>ho BF s2 σ H2 x y v u Q I2 rx ry q)
theorem opI{f:Value→Value→Sem Value}{C:Int→Int→Prop}{g:Int→Int→Int}(rule:∀(i j:Int) (t u:Tok) (s:Shared) (Q:Value→Shared→Prop) (E:Value→Shared→Prop),C i j→Q (.int (g i j) s.toks) {s with toks:=s.toks+1}→wpAny (model X.prog X.w) X.A (f (.int i t) (.int j u)) Q E s):
  OpR X f (rI C fun i j=>.int (g i j)):=by
 intro BF s σ H x y v u Q I rx ry h;obtain⟨i,j,rfl,rfl,hc,q⟩:=h;obtain⟨t,rfl⟩:=rx;obtain⟨t',rfl⟩:=ry;exact rule i j t t' s _ _ hc ⟨.int (g i j),H,I.tok _,⟨_,rfl⟩,q⟩
theorem xD{f:Value→Value→Sem Value}{g:Int→Int→Int}(rule:∀(i j:Int) (t u:Tok) (s:Shared) (Q:Value→Shared→Prop) (E:Value→Shared→Prop),Q (.int (g i j) s.toks) {s with toks:=s.toks+1}→wpAny (model X.prog X.w) X.A (f (.int i t) (.int j u)) Q E s):
  OpR X f (rI0 fun i j=>.int (g i j)):=by
 intro BF s σ H x y v u Q I rx ry h;obtain⟨i,j,rfl,rfl,q⟩:=h;obtain⟨t,rfl⟩:=rx;obtain⟨t',rfl⟩:=ry;exact rule i j t t' s _ _ ⟨.int (g i j),H,I.tok _,⟨_,rfl⟩,q⟩
theorem rg{f:Value→Value→Sem Value}{g:Int→Int→Bool}(rule:∀(i j:Int) (t u:Tok) (s:Shared) (Q:Value→Shared→Prop) (E:Value→Shared→Prop),Q (.bool (g i j)) s→wpAny (model X.prog X.w) X.A (f (.int i t) (.int j u)) Q E s):
  OpR X f (rI0 fun i j=>.bl (g i j)):=by
 intro BF s σ H x y v u Q I rx ry h;obtain⟨i,j,rfl,rfl,q⟩:=h;obtain⟨t,rfl⟩:=rx;obtain⟨t',rfl⟩:=ry;exact rule i j t t' s _ _ ⟨.bl (g i j),H,I,rfl,q⟩
def wL(i j:Int):Prop:=0<j∧j<1073741824
def vS(i j:Int):Prop:=0≤j∧j≤1000000∧i.natAbs<2^64
def CMul(i j:Int):Prop:=(-(2^64)<i∧i<2^64)∨(-(2^64)<j∧j<2^64)
theorem CMul.ok{i j:Int}(h:CMul i j):IntMulOk i j:=by
 rcases h with⟨h1,h2⟩|⟨h1,h2⟩
 ·exact .of_left (intBits_le_64 h1 h2)
 ·exact .of_right (intBits_le_64 h1 h2)
theorem Zs:OpR X (binaryOp .Add) (rI0 fun i j=>.int (i+j)):=xD fun _ _ _ _ _ _ _ q=>add_int q
theorem Xx:OpR X (binaryOp .Sub) (rI0 fun i j=>.int (i-j)):=xD fun _ _ _ _ _ _ _ q=>sub_int q
theorem X5:OpR X (binaryOp .Mult) (rI CMul fun i j=>.int (i*j)):=opI fun _ _ _ _ _ _ _ hc q=>mul_int q hc.ok
theorem Wc:OpR X (binaryOp .FloorDiv) (rI wL fun i j=>.int (i / j)):=opI fun i j _ _ _ _ _ hc q=>by
 have h1:(0:Int)<j:=hc.1;have h2:j<1073741824:=hc.2;exact floordiv_int (by omega) (by rw[Int.fdiv_eq_ediv_of_nonneg i (by omega)];exact q) (.inl (PyProof.noPylong_small (by omega)))
theorem V3:OpR X (binaryOp .Mod) (rI (fun _ j=>0<j) fun i j=>.int (i % j)):=opI fun i j _ _ _ _ _ hc q=>by
 have h1:(0:Int)<j:=hc;exact mod_int' (by omega) (by rw[Int.fmod_eq_emod_of_nonneg i (by omega)];exact q)
theorem Se:OpR X (binaryOp .Pow) (rI vS fun i j=>.int (i^j.toNat)):=opI fun _ _ _ _ _ _ _ hc q=>pow_int_small hc.1 hc.2.1 hc.2.2 q
theorem Sd:OpR X (binaryOp .LShift) (rI vS fun i j=>.int (i*2^j.toNat)):=opI fun _ _ _ _ _ _ _ hc q=>lshift_int_small hc.1 hc.2.1 hc.2.2 q
end
def x4:V→V→Bool
 |.non,.non=>true | .non,.int _=>true | .int _,.non=>true | .non,.bl _=>true | .bl _,.non=>true | .non,.str _=>true | .str _,.non=>true
 |.int _,.int _=>true | .bl _,.bl _=>true | .str _,.str _=>true | .byt _,.byt _=>true
 |.int _,.str _=>true | .str _,.int _=>true | .bl _,.str _=>true | .str _,.bl _=>true
 |_,_=>false
def rEq:R2:=fun x y H Q=>x4 x y=true∧Q (.bl (decide (x=y))) H
def rNe:R2:=fun x y H Q=>x4 x y=true∧Q (.bl (!decide (x=y))) H
theorem kz{i j:Int}:decide (V.int i=V.int j)=(i==j):=by
 rw[zV];simp
theorem ox{i j:Bool}:decide (V.bl i=V.bl j)=(i==j):=by
 rw[zV];simp
theorem kB{i j:Str}:decide (V.str i=V.str j)=(i==j):=by
 rw[zV];simp
theorem jD{i j:Array UInt8}:decide (V.byt i=V.byt j)=(i.toList==j.toList):=by
 rw[zV];cases i;cases j;simp
section
variable{X:Cx}{a b c:Expr}{ta tb tc:TE}{pos:Pos}
theorem Zy{BF:List (Addr×Obj)}{σ:St}{H:Hp}{s:Shared}{Q:VK}{k k':Bool}(I:Inv X BF σ H s)(q:Q (.bl k) H)(e:k=k'):EP X BF σ Q (.bool k') s:=by
 subst e;exact⟨.bl k,H,I,rfl,q⟩
theorem Tv:OpR X (compareOp .Eq) rEq:=by
 intro BF s σ H x y v u Q I rx ry h;obtain⟨hs,q⟩:=h;cases x with
 |non=>
  cases rx;cases y with
  |non=>cases ry;exact PySem.EqNone.eq_none_none (Zy I q (by simp))
  |bl j=>cases ry;exact PySem.EqNone.eq_none_bool (Zy I q (by simp))
  |int j=>obtain⟨t',rfl⟩:=ry;exact PySem.EqNone.eq_none_int (Zy I q (by simp))
  |str j=>obtain⟨t',rfl⟩:=ry;exact PySem.EqNone.eq_none_str (Zy I q (by simp))
  |_=>exact absurd (show false=true from hs) yP
 |bl i=>
  cases rx;cases y with
  |non=>cases ry;exact PySem.EqNone.eq_bool_none (Zy I q (by simp))
  |bl j=>cases ry;exact eq_bool (Zy I q ox)
  |str j=>obtain⟨t',rfl⟩:=ry;exact PySem.EqMixed.eq_bool_str (Zy I q (by simp))
  |_=>exact absurd (show false=true from hs) yP
 |int i=>
  obtain⟨t,rfl⟩:=rx;cases y with
  |non=>cases ry;exact PySem.EqNone.eq_int_none (Zy I q (by simp))
  |int j=>obtain⟨t',rfl⟩:=ry;exact eq_int (Zy I q kz)
  |str j=>obtain⟨t',rfl⟩:=ry;exact PySem.EqMixed.eq_int_str (Zy I q (by simp))
  |_=>exact absurd (show false=true from hs) yP
 |str i=>
  obtain⟨t,rfl⟩:=rx;cases y with
  |non=>cases ry;exact PySem.EqNone.eq_str_none (Zy I q (by simp))
  |bl j=>cases ry;exact PySem.EqMixed.eq_str_bool (Zy I q (by simp))
  |int j=>obtain⟨t',rfl⟩:=ry;exact PySem.EqMixed.eq_str_int (Zy I q (by simp))
  |str j=>obtain⟨t',rfl⟩:=ry;exact eq_str (Zy I q kB)
  |_=>exact absurd (show false=true from hs) yP
 |byt i=>
  obtain⟨t,rfl⟩:=rx;cases y with
  |byt j=>obtain⟨t',rfl⟩:=ry;exact W.eq_bytes (Zy I q jD)
  |_=>exact absurd (show false=true from hs) yP
 |_=>cases y <;> exact absurd (show false=true from hs) yP
theorem ug:OpR X (compareOp .NotEq) rNe:=by
 intro BF s σ H x y v u Q I rx ry h;obtain⟨hs,q⟩:=h;cases x with
 |non=>
  cases rx;cases y with
  |non=>cases ry;exact PySem.EqNone.ne_none_none (Zy I q (by simp))
  |bl j=>cases ry;exact PySem.EqNone.ne_none_bool (Zy I q (by simp))
  |int j=>obtain⟨t',rfl⟩:=ry;exact PySem.EqNone.ne_none_int (Zy I q (by simp))
  |str j=>obtain⟨t',rfl⟩:=ry;exact PySem.EqNone.ne_none_str (Zy I q (by simp))
  |_=>exact absurd (show false=true from hs) yP
 |bl i=>
  cases rx;cases y with
  |non=>cases ry;exact PySem.EqNone.ne_bool_none (Zy I q (by simp))
  |bl j=>cases ry;exact ne_bool (Zy I q (zW not ox))
  |str j=>obtain⟨t',rfl⟩:=ry;exact PySem.EqMixed.ne_bool_str (Zy I q (by simp))
  |_=>exact absurd (show false=true from hs) yP
 |int i=>
  obtain⟨t,rfl⟩:=rx;cases y with
  |non=>cases ry;exact PySem.EqNone.ne_int_none (Zy I q (by simp))
  |int j=>obtain⟨t',rfl⟩:=ry;exact ne_int (Zy I q (zW not kz))
  |str j=>obtain⟨t',rfl⟩:=ry;exact PySem.EqMixed.ne_int_str (Zy I q (by simp))
  |_=>exact absurd (show false=true from hs) yP
 |str i=>
  obtain⟨t,rfl⟩:=rx;cases y with
  |non=>cases ry;exact PySem.EqNone.ne_str_none (Zy I q (by simp))
  |bl j=>cases ry;exact PySem.EqMixed.ne_str_bool (Zy I q (by simp))
  |int j=>obtain⟨t',rfl⟩:=ry;exact PySem.EqMixed.ne_str_int (Zy I q (by simp))
  |str j=>obtain⟨t',rfl⟩:=ry;exact ne_str (Zy I q (zW not kB))
  |_=>exact absurd (show false=true from hs) yP
 |byt i=>
  obtain⟨t,rfl⟩:=rx;cases y with
  |byt j=>obtain⟨t',rfl⟩:=ry;exact W.ne_bytes (Zy I q (zW not jD))
  |_=>exact absurd (show false=true from hs) yP
 |_=>cases y <;> exact absurd (show false=true from hs) yP
theorem oP:OpR X (compareOp .Lt) (rI0 fun i j=>.bl (decide (i<j))):=rg fun _ _ _ _ _ _ _ q=>lt_int q
theorem Sr:OpR X (compareOp .LtE) (rI0 fun i j=>.bl (decide (i≤j))):=rg fun _ _ _ _ _ _ _ q=>le_int q
theorem Tu:OpR X (compareOp .Gt) (rI0 fun i j=>.bl (decide (j<i))):=rg fun _ _ _ _ _ _ _ q=>gt_int q
theorem kT:OpR X (compareOp .GtE) (rI0 fun i j=>.bl (decide (j≤i))):=rg fun _ _ _ _ _ _ _ q=>ge_int q
theorem s_:OpR X (compareOp .IsNot) (fun x y H Q=>y=.non∧Q (.bl (!decide (x=.non))) H):=by
 intro BF s σ H x y v u Q I rx ry h;obtain⟨rfl,q⟩:=h;cases ry;refine isnot_none_gen (Zy I q ?_);cases x <;> first
  | (cases rx;rfl)
  | (obtain⟨t,rfl⟩:=rx;rfl)
theorem Zm(b:Expr){op:CmpOp}(h:op≠.In:=by decide)(h2:op≠.NotIn:=by decide):behindInMarks op b=false:=by
 have e1:(op==CmpOp.In)=false:=by cases op <;> first | rfl | exact absurd rfl h
 have e2:(op==CmpOp.NotIn)=false:=by cases op <;> first | rfl | exact absurd rfl h2
 cases b <;> simp[behindInMarks,e1,e2]
theorem Um{op:CmpOp}{r:R2}(ho:OpR X (compareOp op) r)(ha:PE X a ta)(hb:PE X b tb)(hm:behindInMarks op b=false):PE X (.Compare a [op] [b] pos) (tOp r ta tb):=by
 intro BF s σ H Q I h;exact wpAny_Compare1 (vG ha hb I h fun v u s2 x y H2 I2 rx ry q=>ho BF s2 σ H2 x y v u Q I2 rx ry q) hm
def ur(t:TE):TT:=fun σ H Q=>t σ H fun x H'=>∃k,x=.bl k∧Q k H'
theorem Zn{op:CmpOp}{r:R2}(ho:OpR X (compareOp op) r)(ha:PE X a ta)(hb:PE X b tb)(hm:behindInMarks op b=false):PT X (.Compare a [op] [b] pos) (ur (tOp r ta tb)):=by
 intro BF s σ H Q I h;refine wpAny_isTrue_Compare1 (thn (ha BF s σ H _ I h) fun v s1 ⟨x,H1,I1,r1,q1⟩=>thn (hb BF s1 σ H1 _ I1 q1) fun u s2 ⟨y,H2,I2,r2,q2⟩=>
  thn (ho BF s2 σ H2 x y v u _ I2 r1 r2 q2) fun c s3 ⟨z,H3,I3,r3,k,e,q3⟩=>?_) hm
 subst e;cases r3;exact z8 ⟨H3,I3,q3⟩
def vR(r r':R2)(ta tb tc:TE):TE:=fun σ H Q=>ta σ H fun x H1=>tb σ H1 fun y H2=>r x y H2 fun z H3=>∃k,z=.bl k∧
 (if k=true then tc σ H3 fun w' H4=>r' y w' H4 Q else Q (.bl false) H3)
theorem fx{op op':CmpOp}{r r':R2}(ho:OpR X (compareOp op) r)(ho':OpR X (compareOp op') r')(ha:PE X a ta)(hb:PE X b tb)(hc:PE X c tc)(hm:lastMarks [op,op'] [b,c]=false:=by with_unfolding_all rfl):PT X (.Compare a [op,op'] [b,c] pos) (ur (vR r r' ta tb tc)):=by
 intro BF s σ H Q I h;refine isTrue_chain (thn (ha BF s σ H _ I h) fun v s1 ⟨x,H1,I1,r1,q1⟩=>test_link (thn (hb BF s1 σ H1 _ I1 q1) fun u s2 ⟨y,H2,I2,r2,q2⟩=>
  thn (ho BF s2 σ H2 x y v u _ I2 r1 r2 q2) fun d s3 ⟨z,H3,I3,r3,k,e,q3⟩=>?_)) hm
 subst e;cases r3;refine z8 ?_;cases k with
 |false=>
  obtain⟨k',e',q'⟩:=q3;cases e';exact ite_ff ⟨H3,I3,q'⟩
 |true=>
  refine ite_tt (test_last (thn (hc BF s3 σ H3 _ I3 q3) fun w' s4 ⟨z',H4,I4,r4,q4⟩=>thn (ho' BF s4 σ H4 y z' u w' _ I4 r2 r4 q4) fun d' s5 BG=>?_));obtain⟨z2,H5,I5,r5,k2,e2,q5⟩:=BG;subst e2;cases r5;exact z8 ⟨H5,I5,q5⟩
theorem dY:(sizeLine:Nat)<2^63:=by rw[sizeLine_eq];decide
theorem W2{x:V}{us:List Value}(r:Vals [x] us):∃u,us=[u]∧RelV x u:=by
 cases r with
 |cons r1 r2=>cases r2;exact⟨_,rfl,r1⟩
theorem jK{x y:V}{us:List Value}(r:Vals [x,y] us):∃u w',us=[u,w']∧RelV x u∧RelV y w':=by
 cases r with
 |cons r1 r2=>
  cases r2 with
  |cons r3 r4=>cases r4;exact⟨_,_,rfl,r1,r3⟩
theorem Op(hc:X.calm=true):aL X (.builtin "min") (fun xs H Q=>∃i j,xs=[.int i,.int j]∧Q (.int (if j<i then j else i)) H):=by
 intro BF s σ H xs us Q I r h;obtain⟨i,j,rfl,q⟩:=h;obtain⟨u,w',rfl,⟨t,rfl⟩,⟨t',rfl⟩⟩:=jK r;refine min_two_ints (I.ok.hd hc) fun h' tk k=>⟨_,H,I.kept k,?_,q⟩;by_cases hj:j<i
 ·rw[yC hj,yC hj];exact⟨_,rfl⟩
 ·rw[yA hj,yA hj];exact⟨_,rfl⟩
theorem l4:aL X (.type "int") (fun xs H Q=>(∃i,xs=[.int i]∧Q (.int i) H)∨∃k,xs=[.bl k]∧Q (.int (if k then 1 else 0)) H):=by
 intro BF s σ H xs us Q I r h
 rcases h with⟨i,rfl,q⟩|⟨k,rfl,q⟩
 ·obtain⟨u,rfl,t,rfl⟩:=W2 r;exact call_int_int ⟨.int i,H,I,⟨_,rfl⟩,q⟩
 ·obtain⟨u,rfl,r1⟩:=W2 r;cases r1;exact call_int_bool ⟨.int (if k then 1 else 0),H,I.tok _,⟨_,rfl⟩,q⟩
end
structure ObjM(h:Heap)(x dx C:Addr)(mA:Str→Option Value):Prop where
 obj:h.get? x=some (W.instObj C dx)
 ns:h.Ns1 dx mA
 ne:dx≠x
theorem lU{h:Heap}{dx:Addr}{mA:Str→Option Value}(n:h.Ns1 dx mA):∃od,h.get? dx=some od∧∀name,W.lookIn name od=some (mA name):=by
 obtain⟨o,es,ep,ho,hd,hk,_,hm⟩:=n;refine⟨o,ho,fun name=>?_⟩;have e:=hm name;unfold nsFind findBy at e;rw[←Array.find?_toList]at e;unfold W.lookIn;rw[hd];dsimp only
 split
 ·rename_i y q;rw[q]at e;exact zW some e
 ·rename_i q;rw[q]at e;have a:es.toList.any (·.refKey)=false:=by
   rw[List.any_eq_false];intro y hy;obtain⟨z,t,hkey⟩:=hk y (Array.mem_toList_iff.mp hy);simp[DictEntry.refKey,hkey]
  have a':¬es.toList.any (·.refKey)=true:=by rw[a];exact yP
  rw[yA a'];exact zW some e
theorem ObjM.look{h:Heap}{x dx C:Addr}{mA:Str→Option Value}(I:ObjM h x dx C mA):∃od,W.InstAt h x (W.instObj C dx) C (some od)∧∀name,W.lookIn name od=some (mA name):=
 let ⟨od,ho,hl⟩:=lU I.ns
 ⟨od,⟨I.obj,rfl,rfl,ho⟩,hl⟩
section
variable{prog:Program}{w:World}{A:Around}{E:Value→Shared→Prop}{s:Shared}{K:W.Frag}{x dx C f:Addr}{mA:Str→Option Value}{name:Str}{v:Value}
end
theorem RelO.some_of{v:V}{o:Option Value}(r:RelO (some v) o):∃u,o=some u∧RelV v u:=by
 cases o with
 |none=>exact(show False from r).elim
 |some u=>exact⟨u,rfl,r⟩
section
variable{P:Program}{w:World}{H H':Hp}{h h':Heap}{a C dx:Addr}{fs fs':List (Str×V)}
theorem rQ(hok:HOk P w H h)(e:H a=some (.ins C dx fs)):∃mA,ObjM h a dx C mA∧(∀f,RelO (fs.lookup f) (mA f))∧PySem.Within mA (fs.map (·.1))∧fs.length≤1000∧H dx=some (.own a):=by
 obtain⟨d,z,ne,ob,mA,n,r,q⟩:=(show ObjOk P w H h a (.ins C dx fs)from hok a _ e);exact⟨mA,⟨ob,n,ne⟩,r,q,z,d⟩
end
structure Cls(K:W.Frag)(C:Addr):Prop where
 pg:W.plainGet K C Str.empty=true
 hd:W.hasDictIn K C=true
 po:W.plainOver K C=true
 sa:W.findIn K (.ref C) "__setattr__"=some (some (.builtin "object.__setattr__"))
theorem Cls.get{K:W.Frag}{C:Addr}(c:Cls K C)(f:Str):W.plainGet K C f=true:=c.pg
section
variable{X:Cx}{BF:List (Addr×Obj)}{σ:St}{H:Hp}{s:Shared}{a C dx:Addr}{fs:List (Str×V)}{f:Str}{v:V}{A:Around}{E:Value→Shared→Prop}
end
section
variable{X:Cx}{o e value:Expr}{f:Str}{pos pos' tpos:Pos}{ta tv:TE}
end
section
variable{X:Cx}{BF:List (Addr×Obj)}{σ:St}{H:Hp}{s:Shared}{A:Around}{E:Value→Shared→Prop}{Q:Value→Shared→Prop}{c:Value}{b:Bool}
inductive TyOf(K:W.Frag)(H:Hp):V→Value→Prop where
 |non:TyOf K H .non (.type "NoneType")
 |bl (x:Bool):TyOf K H (.bl x) (.type "bool")
 |int (i:Int):TyOf K H (.int i) (.type "int")
 |str (x:Str):TyOf K H (.str x) (.type "str")
 |flt (x:UInt64):TyOf K H (.flt x) (.type "float")
 |lst {a:Addr} {xs:List V} (e:H a=some (.lst xs)):TyOf K H (.ref a) (.type "list")
 |frz {a:Addr} {o:Obj} {xs:List V} (e:H a=some (.frz o (.lst xs))):TyOf K H (.ref a) (.type "list")
 |tup {a:Addr} {xs:List V} (e:H a=some (.tup xs)):TyOf K H (.ref a) (.type "tuple")
 |dK {a:Addr} {kvs:List (Key×V)} (e:H a=some (.dK kvs)):TyOf K H (.ref a) (.type "dict")
 |dT {a:Addr} {kvs:List (List Key×V)} (e:H a=some (.dT kvs)):TyOf K H (.ref a) (.type "dict")
 |ins {a C dx:Addr} {fs:List (Str×V)} (e:H a=some (.ins C dx fs)) (cl:Cls K C) (ha:W.findIn K (.ref C) "__class__"=some (some (.builtin "object.__class__")))
   (hn:W.specialIn K (.builtin "object.__class__") "__get__"=some (some (.builtin "getset_descriptor.__get__"))) (htk:W.takesIn K (.builtin "object.__class__")=some true)
   (hm:W.mroIn K C (.type "object")=some true):TyOf K H (.ref a) (.ref C)
theorem lw{x:V}{u t:Value}(I:Inv X BF σ H s)(rx:RelV x u)(ty:TyOf X.K H x t)(e:W.kitOne X.K t c=some b)(h:∀tk,Q (.bool b) {s with toks:=tk}):
  wpAny (model X.prog X.w) A (call (.builtin "isinstance") [u,c]) Q E s:=by
 cases ty with
 |non=>cases (show u=Value.none from rx);exact Ba W.kitx_none I.kIn True.intro e (fun z=>nomatch z) h
 |bl y=>cases (show u=Value.bool y from rx);exact Ba W.kitx_bool I.kIn True.intro e (fun z=>nomatch z) h
 |int i=>obtain⟨t,q⟩:=(show ∃t,u=Value.int i t from rx);cases q;exact Ba W.kitx_int I.kIn True.intro e (fun z=>nomatch z) h
 |str y=>obtain⟨t,q⟩:=(show ∃t,u=Value.str y t from rx);cases q;exact Ba W.kitx_str I.kIn True.intro e (fun z=>nomatch z) h
 |flt y=>obtain⟨t,q⟩:=(show ∃t,u=Value.float y t from rx);cases q;exact Ba W.kitx_float I.kIn True.intro e (fun z=>nomatch z) h
 | @lst a xs ea=>
  cases (show u=Value.ref a from rx);obtain⟨_,_,n,_,h1⟩:=(show ObjOk X.prog X.w H s.heap a (.lst xs)from I.hok a _ ea);exact Ba W.kitx_list I.kIn ⟨_,h1,rfl⟩ e (fun z=>nomatch z) h
 | @frz a ob xs ea=>
  cases (show u=Value.ref a from rx);obtain⟨_,_,_,n,_,h1⟩:=(show ObjOk X.prog X.w H s.heap a (.frz ob (.lst xs))from I.hok a _ ea);exact Ba W.kitx_list I.kIn ⟨_,h1,rfl⟩ e (fun z=>nomatch z) h
 | @tup a xs ea=>
  cases (show u=Value.ref a from rx);obtain⟨_,_,_,p⟩:=(show ObjOk X.prog X.w H s.heap a (.tup xs)from I.hok a _ ea);obtain⟨o,h1,h2,_⟩:=p;exact Ba W.kitx_tuple I.kIn ⟨o,h1,h2.1⟩ e (fun z=>nomatch z) h
 | @dK a kvs ea=>
  cases (show u=Value.ref a from rx);obtain⟨_,_,vs,_,p⟩:=(show ObjOk X.prog X.w H s.heap a (.dK kvs)from I.hok a _ ea);obtain⟨o,es,ep,h1,h2,_⟩:=p;exact Ba W.kitx_dict I.kIn ⟨o,h1,h2.1⟩ e (fun z=>nomatch z) h
 | @dT a kvs ea=>
  cases (show u=Value.ref a from rx);obtain⟨_,_,xs,_,o,es,ep,h1,h2,_⟩:=(show ObjOk X.prog X.w H s.heap a (.dT kvs)from I.hok a _ ea);exact Ba W.kitx_dict I.kIn ⟨o,h1,h2.1⟩ e (fun z=>nomatch z) h
 | @ins a C dx fs ea cl ha hn htk hm=>
  cases (show u=Value.ref a from rx);obtain⟨mA,O,_⟩:=rQ I.hok ea;obtain⟨od,J,_⟩:=O.look;exact Ba (W.kitx_own (cl.get _) cl.hd ha hn htk hm) I.kIn J e (fun z=>nomatch z) h
end
structure Room(k:Nat)(A:Around):Prop where
 hd:A.handled=none
 dp:A.depth+3*k+5<recursionLimit
 un:A.units+16*k+200<cLine
theorem Room.mono{j k:Nat}{A:Around}(r:Room k A)(h:j≤k):Room j A:=⟨r.hd,by have:=r.dp;omega,by have:=r.un;omega⟩
theorem Room.deeper{k:Nat}{A:Around}(r:Room (k+1) A)(env:Env):Room k (A.deeper env):=
 ⟨r.hd,by have:=r.dp;show A.depth+1+3*k+5<_;omega,by have:=r.un;show A.units+3+16*k+200<_;omega⟩
theorem Room.depth{k:Nat}{A:Around}(r:Room k A):A.depth<recursionLimit:=by have:=r.dp;omega
theorem Room.units{k:Nat}{A:Around}(r:Room k A):A.units+64<cLine:=by have:=r.un;omega
def tNil:TA:=fun _ H Q=>Q [] H
def ye(ta:TE)(tr:TA):TA:=fun σ H Q=>ta σ H fun x H1=>tr σ H1 fun xs H2=>Q (x::xs) H2
section
variable{X:Cx}{e:Expr}{es:List Expr}{te:TE}{t:TA}{pos:Pos}
theorem Z1:PA X [] tNil:=fun _ _ _ _ H Q I h=>Calls.spliced_nil ⟨[],H,I,.nil,h⟩
theorem Z0(ha:PE X e te)(hr:PA X es t)(hs:starEach (e::es) X.env=(false,eval e X.env)::starEach es X.env:=by rfl):PA X (e::es) (ye te t):=by
 intro pos BF s σ H Q I h;rw[hs];show wpAny _ _ (spliced ((false,eval e X.env)::backTo pos (starEach es X.env))) _ _ s;refine Calls.spliced_cons (thn (ha BF s σ H _ I h) fun u s1 BG=>?_);obtain⟨x,H1,I1,r1,q1⟩:=BG;exact thn (hr pos BF s1 σ H1 _ I1 q1) fun us s2 ⟨xs,H2,I2,r2,q2⟩=>⟨x::xs,H2,I2,.cons r1 r2,q2⟩
def tTup(t:TA):TE:=fun σ H Q=>t σ H fun xs H1=>xs.length≤sizeLine∧∀p,H1 p=none→Q (.ref p) (upd H1 p (.tup xs))
def tLst(t:TA):TE:=fun σ H Q=>t σ H fun xs H1=>xs.length≤sizeLine∧∀p,H1 p=none→Q (.ref p) (upd H1 p (.lst xs))
theorem Zu{x1}(h:PA X es t):PE X (.Tuple es x1 pos) (tTup t):=by
 intro BF s σ H Q I hq;refine wpAny_Tuple_spliced (thn (h pos BF s σ H _ I hq) fun us s1 ⟨xs,H1,I1,r,z,q⟩=>⟨by rw[←r.length];exact z,?_⟩);have hf:H1 s1.heap.objs.size=none:=I1.hok.fresh (yB _);refine⟨.ref s1.heap.objs.size,upd H1 s1.heap.objs.size (.tup xs),I1.laid (t':=s1.toks) (fun b u e=>yy _ e) (yB _) ?_,rfl,q _ hf⟩;exact⟨z,us,r,TupN.new _ _⟩
theorem X2(h:PA X es t):PE X (.List es pos) (tLst t):=by
 intro BF s σ H Q I hq;refine wpAny_List_spliced (thn (h pos BF s σ H _ I hq) fun us s1 ⟨xs,H1,I1,r,z,q⟩=>⟨by rw[←r.length];exact z,?_⟩);have hf:H1 s1.heap.objs.size=none:=I1.hok.fresh (yB _);refine⟨.ref s1.heap.objs.size,upd H1 s1.heap.objs.size (.lst xs),I1.laid (t':=s1.toks) (fun b u e=>yy _ e) (yB _) ?_,rfl,q _ hf⟩;exact⟨z,us,0,r,yH _ rfl⟩
end
abbrev Sp:=List V→Hp→VK→XK→Prop
abbrev CXT:=List Env→Hp→Shared→XK→Value→Shared→Prop
structure Env0(P:Program)(w:World)(K:W.Frag)(mg:Str→Option Value)(base:Heap)(A:Around)(outer:List Env)(s:Shared)(H:Hp):Prop where
 frames:A.frames=some outer
 mod:Mod K mg base
 bs:∀b o,base.get? b=some o→s.heap.get? b=some o∧H b=none
 bsz:base.objs.size≤s.heap.objs.size
 funs:s.heap.FunFrames base outer
 frf:∀b∈frs outer,H b=none
 hok:HOk P w H s.heap
 bare:AllBare s.gens
def CE(outer:List Env)(P:Program)(w:World)(H:Hp)(s:Shared)(Q:VK)(u:Value)(s':Shared):Prop:=
 ∃v H',s'.os=s.os∧AllBare s'.gens∧Un (frs outer) [] H H' s.heap s'.heap∧HOk P w H' s'.heap∧RelV v u∧Q v H'
def CR(CX:CXT)(outer:List Env)(P:Program)(w:World)(H:Hp)(s:Shared)(Q:VK)(E:XK)(r:Result)(s':Shared):Prop:=
 match r with
 |.ok (.ret u)=>CE outer P w H s Q u s'
 |.ok _=>False
 |.error e=>CX outer H s E e s'
structure FnOk(P:Program)(w:World)(K:W.Frag)(mg:Str→Option Value)(base:Heap)(CX:CXT)(k:Nat)(f:Addr)(fd:FuncData)(ps:List Str)(sp:Sp):Prop where
 len:∀vs H Q E,sp vs H Q E→vs.length=ps.length
 run:∀(A:Around)(outer:List Env)(s:Shared)(H:Hp)(args:Args)(us:List Value)(vs:List V)(Q:VK)(E:XK),Room k A→Env0 P w K mg base A outer s H→BindsTo s fd args (ps.zip us)→Vals vs us→sp vs H Q E→
  codeAny (model P w) A (.call (.ref f) args) (CR CX outer P w H s Q E) s
theorem FnOk.mono{P:Program}{w:World}{K:W.Frag}{mg:Str→Option Value}{base:Heap}{CX:CXT}{j k:Nat}{f:Addr}{fd:FuncData}{ps:List Str}{sp:Sp}(F:FnOk P w K mg base CX j f fd ps sp)(h:j≤k):
  FnOk P w K mg base CX k f fd ps sp:=⟨F.len,fun A outer s H args us vs Q E hr=>F.run A outer s H args us vs Q E (hr.mono h)⟩
section
variable{X:Cx}{BF:List (Addr×Obj)}{σ:St}{H:Hp}{s s':Shared}
theorem Inv.env0(I:Inv X BF σ H s):Env0 X.prog X.w X.K X.mg X.base X.A X.stack s H:=
 ⟨I.ok.frames,I.ok.mod,I.bs,zE I.ok.bsz I.sz,I.stack,I.stkFree,I.hok,I.bare⟩
theorem Inv.after{Q:VK}{u:Value}(I:Inv X BF σ H s)(h:CE X.stack X.prog X.w H s Q u s'):EP X BF σ Q u s':=by
 obtain⟨v,H',os,bare,un,hok,r,q⟩:=h;obtain⟨hh,g,d,t,os'⟩:=s';obtain rfl:os'=s.os:=os;exact⟨v,H',I.call (h':=hh) (g':=g) (d':=d) (t':=t) (ch:=[]) un hok bare (fun b z=>absurd z (by simp)),r,q⟩
end
def uq(sp:Sp)(dvs:List V)(E:XK)(t:TA):TE:=fun σ H Q=>t σ H fun vs H1=>sp (vs++dvs) H1 Q E
def Binds(K:W.Frag)(fd:FuncData)(ps:List Str)(ds:List Value):Prop:=
 ∀(s:Shared)(us:List Value),K.In s.heap→(us++ds).length=ps.length→BindsTo s fd ⟨us,[]⟩ (ps.zip (us++ds))
theorem Binds.all{K:W.Frag}{fd:FuncData}{ps:List Str}(h:∀us:List Value,us.length=ps.length→bindArgs fd ⟨us,[]⟩=pure (ps.zip us)):Binds K fd ps []:=fun s us _ hl=>by
 rw[A8]at hl⊢;exact .of_eq (h us hl)
def m_(CX:CXT)(X:Cx)(E:XK):Prop:=∀(BF:List (Addr×Obj))(σ:St)(H:Hp)(s:Shared)(e:Value)(s':Shared),Inv X BF σ H s→CX X.stack H s E e s'→X.xe e s'
section
variable{X:Cx}{CX:CXT}{k:Nat}{f C:Addr}{fd:FuncData}{ps:List Str}{sp:Sp}{dvs:List V}{ds:List Value}{E:XK}{x m:Str}{p pos apos:Pos}{e o:Expr}{es:List Expr}{ta:TE}{t:TA}
theorem ve{BF:List (Addr×Obj)}{σ:St}{H:Hp}{s:Shared}{Q:VK}{us:List Value}{vs:List V}(F:FnOk X.prog X.w X.K X.mg X.base CX k f fd ps sp)(hr:Room k X.A)(hb:Binds X.K fd ps ds)(hd:Vals dvs ds)(hx:m_ CX X E)(I:Inv X BF σ H s)(r:Vals vs us)(h:sp (vs++dvs) H Q E):wpAny (model X.prog X.w) X.A (call (.ref f) us) (EP X BF σ Q) X.xe s:=by
 have r2:Vals (vs++dvs) (us++ds):=r.append hd;have hl:(us++ds).length=ps.length:=by rw[←r2.length];exact F.len _ _ _ _ h
 refine wpAny_call (A5 (F.run X.A X.stack s H ⟨us,[]⟩ (us++ds) (vs++dvs) Q E hr I.env0 (hb s us I.kIn hl) r2 h) fun r s' hq=>?_);cases r with
 |error e=>exact hx BF σ H s e s' I hq
 |ok fl=>
  cases fl with
  |ret u=>exact I.after hq
  |next=>exact False.elim hq
  |brk=>exact False.elim hq
  |cont=>exact False.elim hq
theorem sQ(F:FnOk X.prog X.w X.K X.mg X.base CX k f fd ps sp)(hr:Room k X.A)(hg:Gl X x)(hm:X.mg x=some (.ref f))(hk:W.keepIn X.K (.ref f)=true)(hb:Binds X.K fd ps ds)(hd:Vals dvs ds)(hx:m_ CX X E)(ha:PA X (e::es) t)(hdb:(x==("__debug__":Str))=false:=by decide)(he:starEach (e::es) X.env=(false,eval e X.env)::starEach es X.env:=by rfl)(hpl:(backTo pos (starEach es X.env)).any (·.1)=false:=by rfl):
  PE X (.Call (.Name x p) (e::es) [] pos) (uq sp dvs E t):=by
 intro BF s σ H Q I h;refine wpAny_Call_Name_kw (qJ I hg hm ?_ hdb);refine W.callWith_K (h₀:=X.base) I.ok.mod.kin hk (thn (ha pos BF s σ H _ I h) fun us s1 ⟨vs,H1,I1,r,q⟩=>⟨I1.kIn,?_⟩) he hpl;exact ve F hr hb hd hx I1 r q
end
section
variable{X:Cx}{CX:CXT}{k:Nat}{f C:Addr}{fd:FuncData}{ps ks:List Str}{sp:Sp}{E:XK}{x m:Str}{p pos apos kpos:Pos}{e o:Expr}{es:List Expr}{kws:List Keyword}{te ta:TE}{t tk:TA}{nm:Option Str}
variable{g:List Value→List Value→List Value}{gV:List V→List V→List V}
end
structure FnScope(N P:List Str)(sc:Scope):Prop where
 kind:sc.kind=.function
 co:sc.isCoroutine=false
 gen:sc.isGenerator=false
 nd:N.Nodup
 pre:N.take P.length=P
 par:∀x∈P,sc.names.lookup x=some .local∨sc.names.lookup x=some .cell
 nofree:∀y∈sc.names,y.2≠.free
theorem Oq{kindOf:Str→Option NameKind}{x:Str}:∀{binds:List (Str×Value)}{m:Str→Option Value},(∀v,(x,v)∉binds)→bindL kindOf binds m x=m x
 | [],_,_=>rfl
 | (n,v)::r,m,h=>by
  unfold bindL;rw[Oq fun w hw=>h w (zC _ hw)]
  split
  ·have:x≠n:=by rintro rfl;exact h v zy
   simp[this]
  ·rfl
theorem Ot{kindOf:Str→Option NameKind}{x:Str}:∀{binds:List (Str×Value)}{m:Str→Option Value},(∀v,(x,v)∉binds)→bindC kindOf binds m x=m x
 | [],_,_=>rfl
 | (n,v)::r,m,h=>by
  unfold bindC;rw[Ot fun w hw=>h w (zC _ hw)]
  split
  ·rfl
  ·have:x≠n:=by rintro rfl;exact h v zy
   simp[this]
theorem Os{kindOf:Str→Option NameKind}{x:Str}{v:Value}:∀{P:List Str}{vs:List Value}{i:Nat}{m:Str→Option Value},P.Nodup→P[i]?=some x→vs[i]?=some v→kindOf x=some .local→
  bindL kindOf (P.zip vs) m x=some v
 | [],_,_,_,_,h,_,_=>by simp at h
 |_::_,[],_,_,_,_,h,_=>by simp at h
 |p::P,w::vs,0,m,nd,h1,h2,hk=>by
  simp at h1 h2;subst h1;subst h2;show bindL kindOf ((p,w)::P.zip vs) m p=_;unfold bindL;rw[Oq fun v hv=>(y7.mp nd).1 (List.of_mem_zip hv).1,yC hk];simp
 |p::P,w::vs,i+1,m,nd,h1,h2,hk=>by
  show bindL kindOf ((p,w)::P.zip vs) m x=_;unfold bindL;exact Os (i:=i) (List.nodup_cons.mp nd).2 (by simpa using h1) (by simpa using h2) hk
theorem Ou{kindOf:Str→Option NameKind}{x:Str}{v:Value}:∀{P:List Str}{vs:List Value}{i:Nat}{m:Str→Option Value},P.Nodup→P[i]?=some x→vs[i]?=some v→kindOf x≠some .local→
  bindC kindOf (P.zip vs) m x=some v
 | [],_,_,_,_,h,_,_=>by simp at h
 |_::_,[],_,_,_,_,h,_=>by simp at h
 |p::P,w::vs,0,m,nd,h1,h2,hk=>by
  simp at h1 h2;subst h1;subst h2;show bindC kindOf ((p,w)::P.zip vs) m p=_;unfold bindC;rw[Ot fun v hv=>(y7.mp nd).1 (List.of_mem_zip hv).1,yA hk];simp
 |p::P,w::vs,i+1,m,nd,h1,h2,hk=>by
  show bindC kindOf ((p,w)::P.zip vs) m x=_;unfold bindC;exact Ou (i:=i) (List.nodup_cons.mp nd).2 (by simpa using h1) (by simpa using h2) hk
def b0(N:List Str)(vs:List V):St:=vs.map some++List.replicate (N.length-vs.length) none
def lG(CX:CXT)(P:Program)(w:World)(K:W.Frag)(mg:Str→Option Value)(base:Heap)(N:List Str)(qual:Str)(scope:Scope)(f:Addr)(cd:Value)(A:Around)(outer:List Env)(s:Shared)(H:Hp)(E:XK):Cx where
 prog:=P
 w:=w
 K:=K
 mg:=mg
 base:=base
 A:=A.deeper (envOfC qual scope s.heap.objs.size f cd)
 N:=N
 s₀:=s
 H₀:=H
 env:=envOfC qual scope s.heap.objs.size f cd
 outer:=outer
 stack:=envOfC qual scope s.heap.objs.size f cd::outer
 ex:=[]
 calm:=true
 fn:=fun _=>true
 pn:=[]
 xe:=fun e s'=>wpAny (model P w) (A.deeper (envOfC qual scope s.heap.objs.size f cd)) (leaving (envOfC qual scope s.heap.objs.size f cd) e) (fun _ s''=>CX outer H s E e s'') (fun e' s''=>CX outer H s E e' s'') s'
theorem hV{sc:Scope}{n:Nat}{x:Str}(h:sc.names.lookup x=some .cell):∃c,(cellsFrom n sc.names []).lookup x=some c:=by
 have q:=W.cellsFrom_some sc.names n [] (.inl h);exact Option.isSome_iff_exists.mp q
theorem mJ{CX:CXT}{P:Program}{w:World}{K:W.Frag}{mg:Str→Option Value}{base:Heap}{N ps:List Str}{qual:Str}{scope:Scope}{f:Addr}{cd:Value}{A:Around}{outer:List Env}{s s1:Shared}{H:Hp}{E:XK}{us:List Value}{vs:List V}(S:FnScope N ps scope)(hd:A.handled=none)(e0:Env0 P w K mg base A outer s H)(hl:vs.length=ps.length)(r:Vals vs us)(x:InCallC s s.heap.objs.size (bindL (envOfC qual scope s.heap.objs.size f cd).kindOf (ps.zip us) fun _=>none) (cellsFrom (s.heap.objs.size+1) scope.names []) (bindC (envOfC qual scope s.heap.objs.size f cd).kindOf (ps.zip us) fun _=>none) s1):
  Inv (lG CX P w K mg base N qual scope f cd A outer s H E) [] (b0 N vs) H s1:=by
 have hpl:ps.length≤N.length:=by have:=zW List.length S.pre;rw[yX]at this;omega
 obtain⟨h1,tk,rfl,hk⟩:=x.done;have noA:∀b:Addr,b∉(lG CX P w K mg base N qual scope f cd A outer s H E).ex:=fun b z=>absurd (show b∈([]:List Addr)from z) (by simp);refine⟨⟨e0.mod,S.kind,rfl,rfl,yB _,fun y z c h1 h2=>?_,fun y hy=>?_,fun y c _ h=>?_,fun _=>hd,Around.frames_deeper e0.frames,.inr ⟨rfl,rfl⟩,fun b z=>absurd z (noA b),e0.bs,e0.bsz,fun b _ _=>noA b,fun b z=>absurd z (noA b),e0.funs,e0.frf⟩,
  rfl,e0.bare,Un.kept hk,⟨_,x.toInCall.ns,fun i y v h1 h2 h3=>?_⟩,fun y c h=>⟨_,x.cell y c h⟩,e0.hok.fresh (Nat.le_refl _),fun y c h=>?_,fun p hp=>absurd (show p∈([]:List (Addr×Obj))from hp) (by simp),e0.hok.kept hk,?_⟩
 ·exact name_of_addr x.apart (z4 h1) (z4 h2)
 ·have hy:scope.names.lookup y=some .cell∨scope.names.lookup y=some .free:=hy
  rcases hy with hy | hy
  ·exact hV hy
  ·exact absurd rfl (S.nofree _ (z4 hy))
 ·exact Ah (x.above y c (z4 h))
 ·have hi:i<vs.length:=by
   unfold b0 at h2;by_cases hi:i<vs.length
   ·exact hi
   ·rw[List.getElem?_append_right (by simpa using hi)]at h2;rw[List.getElem?_replicate]at h2
    split at h2 <;> cases h2
  have ha:vs[i]?=some v:=by
   unfold b0 at h2;rw[List.getElem?_append_left (by simpa using hi),List.getElem?_map]at h2;cases e:vs[i]? with
   |none=>rw[e]at h2;cases h2
   |some a=>rw[e]at h2;cases h2;rfl
  obtain⟨u,hu,rv⟩:=r.get ha;have hp:ps[i]?=some y:=by
   rw[←S.pre,List.getElem?_take_of_lt (by omega)];exact h1
  have ndP:ps.Nodup:=by rw[←S.pre];exact S.nd.sublist (List.take_sublist _ _)
  refine⟨u,rv,?_⟩
  rcases S.par y (yW hp)with k | k
  ·exact .inl ⟨k,Os ndP hp hu k⟩
  ·obtain⟨c,e⟩:=hV (n:=s.heap.objs.size+1) k;refine .inr ⟨.inl k,c,e,?_⟩;have q:=x.cell y c e;rw[Ou ndP hp hu (by show scope.names.lookup y≠_;rw[k];decide)]at q;exact q
 ·exact e0.hok.fresh (Ah (x.above y c (z4 h)))
 ·unfold b0;show _=N.length;rw[yM,pi,List.length_replicate];omega
theorem yc{CX:CXT}{P:Program}{w:World}{K:W.Frag}{mg:Str→Option Value}{base:Heap}{k:Nat}{f:Addr}{name qual:Str}{params:Arguments}{body:List Stmt}{scope:Scope}{dV kV doc pm cdv ct oc:Value}{an od:Option Addr}{osl:Array (Option Value)}{N ps:List Str}{sp:Sp}(lk:K.lookup f=some ⟨oc,od,.func (W.fnOf name qual params body scope dV kV doc pm an cdv ct),osl⟩)(hcd:W.codeIn K cdv qual=true)(S:FnScope N ps scope)(len:∀vs H Q E,sp vs H Q E→vs.length=ps.length)(hbody:∀(A:Around) (outer:List Env) (s:Shared) (H:Hp) (vs:List V) (Q:VK) (E:XK),Room k (A.deeper (envOfC qual scope s.heap.objs.size f cdv))→sp vs H Q E→
   ∃t,PSs (lG CX P w K mg base N qual scope f cdv A outer s H E) body t∧t {nx:=fun _ H'=>Q .non H',rt:=Q} (b0 N vs) H):
  FnOk P w K mg base CX (k+1) f (W.fnOf name qual params body scope dV kV doc pm an cdv ct) ps sp:=by
 refine⟨len,fun A outer s H args us vs Q E hr e0 hb r hsp=>?_⟩;have hl:=len _ _ _ _ hsp;have KX:K.In s.heap:=e0.mod.kin.keeps fun b o e=>(e0.bs b o e).1;have lim:s.heap.NoLimit:=e0.mod.nolimit.keeps fun b o e=>(e0.bs b o e).1;have hkind:∀y∈ps.zip us,scope.names.lookup y.1=some .local∨(scope.names.lookup y.1=some .cell∧((cellsFrom (s.heap.objs.size+1) scope.names []).lookup y.1).isSome=true):=fun⟨n,v⟩ hy=>by
  rcases S.par n (List.of_mem_zip hy).1 with q | q
  ·exact .inl q
  ·exact .inr ⟨q,W.cellsFrom_some _ _ _ (.inl q)⟩
 refine codeAny_call_function hr.depth (KX _ _ lk) rfl S.co S.gen rfl (W.codeRec_of KX hcd) (hb _ _ _ _ ?_);refine wpAny_newFunctionEnv_cells S.kind hkind fun env he s1 x=>?_;subst he;refine⟨lim.keeps x.toInCall.keep,codeAny_func ?_⟩;obtain⟨t,ht,hq⟩:=hbody A outer s H vs Q E (hr.deeper _) hsp;have I:Inv (lG CX P w K mg base N qual scope f cdv A outer s H E) [] (b0 N vs) H s1:=mJ S hr.hd e0 hl r x;refine zT (ht [] s1 (b0 N vs) H _ I hq) (fun fl s' hs=>?_) fun e s' hs=>hs;have fin:∀{σ':St}{H':Hp}{v:V}{u:Value},Inv (lG CX P w K mg base N qual scope f cdv A outer s H E) [] σ' H' s'→RelV v u→Q v H'→CE outer P w H s Q u s':=
  fun{σ' H' v u} J rv q=>⟨v,H',J.os,J.bare,J.base,J.hok,rv,q⟩
 cases fl with
 |ret u=>
  obtain⟨v,σ',H',J,rv,q⟩:=hs;exact fin J rv q
 |next=>
  obtain⟨σ',H',J,q⟩:=hs;exact fin (v:=V.non) (u:=Value.none) J rfl q
 |brk=>
  obtain⟨_,_,_,q⟩:=hs;exact False.elim q
 |cont=>
  obtain⟨_,_,_,q⟩:=hs;exact False.elim q
section
variable{X:Cx}{x:Str}{p pos:Pos}{e:Expr}{es:List Expr}{t:TA}{id T:String}{r:List V→Hp→VK→Prop}
def tCB(r:List V→Hp→VK→Prop)(t:TA):TE:=fun σ H Q=>t σ H fun vs H1=>r vs H1 Q
theorem Zg(hc:aL X (.builtin id) r)(hg:Gl X x)(hm:X.mg x=none)(hv:bootBuiltins x=some (.builtin id))(ha:PA X (e::es) t)(hn:x≠"__name__":=by decide)(hdb:(x==("__debug__":Str))=false:=by decide)(he:starEach (e::es) X.env=(false,eval e X.env)::starEach es X.env:=by rfl)(hpl:(backTo pos (starEach es X.env)).any (·.1)=false:=by rfl):PE X (.Call (.Name x p) (e::es) [] pos) (tCB r t):=by
 intro BF s σ H Q I h;refine wpAny_Call_Name_kw (dU I hg hm hv ?_ hn hdb);exact PyProof.Rows.callWith_builtin1 (thn (ha pos BF s σ H _ I h) fun us s1 ⟨vs,H1,I1,r1,q1⟩=>hc BF s1 σ H1 vs us Q I1 r1 q1) he hpl
theorem X1(hc:aL X (.type T) r)(hg:Gl X x)(hm:X.mg x=none)(hv:bootBuiltins x=some (.type T))(ha:PA X (e::es) t)(hn:x≠"__name__":=by decide)(hdb:(x==("__debug__":Str))=false:=by decide)(he:starEach (e::es) X.env=(false,eval e X.env)::starEach es X.env:=by rfl)(hpl:(backTo pos (starEach es X.env)).any (·.1)=false:=by rfl):PE X (.Call (.Name x p) (e::es) [] pos) (tCB r t):=by
 intro BF s σ H Q I h;refine wpAny_Call_Name_kw (dU I hg hm hv ?_ hn hdb);exact PyProof.Rows.callWith_type1 (thn (ha pos BF s σ H _ I h) fun us s1 ⟨vs,H1,I1,r1,q1⟩=>hc BF s1 σ H1 vs us Q I1 r1 q1) he hpl
end
end L2
namespace HT
open PySem PyProof.Rows
def lexLt:List Int→List Int→Bool
 | [],[]=>false
 | [],_::_=>true
 |_::_,[]=>false
 |x::xs,y::ys=>if x=y then lexLt xs ys else decide (x<y)
theorem lexLt_cons(x y:Int)(xs ys:List Int):lexLt (x::xs) (y::ys)=if x=y then lexLt xs ys else decide (x<y):=rfl
theorem lexLt_nil_nil:lexLt [] []=false:=rfl
theorem Qq(y:Int)(ys:List Int):lexLt [] (y::ys)=true:=rfl
theorem Qr(x:Int)(xs:List Int):lexLt (x::xs) []=false:=rfl
theorem pI(A:Around)(s:Shared)(a:Int)(t:Tok)(c:Int)(u:Tok):∃e,SeqAt.EqAt A s (.int a t) (.int c u) e∧(e=true↔a=c):=
 ⟨(a==c),SeqAt.EqAt.int_int a t c u,by simp⟩
theorem pH(A:Around)(s:Shared)(a:Int)(t:Tok)(c:Int)(u:Tok)(prog:Program)(w:World)(E:Value→Shared→Prop)(Q:Value→Shared→Prop)(h:Q (.bool (decide (a<c))) s):
  wpAny (model prog w) A (richCompare .Lt (.int a t) (.int c u)) Q E s:=
 (PyProof.Rows.lt_int h:wpAny (model prog w) A (compareOp .Lt (.int a t) (.int c u)) Q E s)
section
open PySem.SeqAt
open PySem.AutoSeq1 (wpAny_loadPart')
open PySem.MeetsSeq PySem.MeetsSeq2 PySem.MeetsSeq3
theorem P9(l b:Addr)(items items2:Array Value)(n n2:Nat)(dd dd2:Option Addr)(sl sl2:Array (Option Value))(ns ms:List Int)(hi:IntsAre items.toList ns)(hj:IntsAre items2.toList ms):
  Meets (Builtin.«tuple.__lt__» ⟨[.ref l,.ref b],[]⟩)
   (fun _ R s=>s.heap.get? l=some {cls:=.type "tuple",dict:=dd,data:=.seq items n,slots:=sl}∧s.heap.get? b=some {cls:=.type "tuple",dict:=dd2,data:=.seq items2 n2,slots:=sl2}∧
    R (.ok (.ret (.bool (lexLt ns ms)))) s):=
 .of_wp fun prog w A R s h=>by
  obtain⟨hp,g,d,tk,os⟩:=s;obtain⟨hl,hb,h⟩:=h;have f2:=AutoSeq1.sub_tuple_tuple;have z1:items.size=ns.length:=by rw[←hi.length];simp
  have z2:items2.size=ms.length:=by rw[←hj.length];simp
  wp_walk using wpAny_loadPart' hl,wpAny_loadPart' hb,wpAny_forIn_list _ (fun rest b s'=>b.1=none∧s'=⟨hp,g,d,tk,os⟩∧∃(vs ws:List Value)(ns' ms':List Int),rest=vs.zip ws∧
   IntsAre vs ns'∧IntsAre ws ms'∧ns'.length+items2.size=ms'.length+items.size∧R (.ok (.ret (.bool (lexLt ns' ms')))) ⟨hp,g,d,tk,os⟩) _
  case turn=>
   rintro⟨y,x⟩ rest b s' ⟨hb',rfl,vs,ws,ns',ms',hz,hvi,hwi,BV,hR⟩;cases hvi with
   |nil=>rw[List.zip_nil_left]at hz;cases hz
   |cons a t hvi'=>
    cases hwi with
    |nil=>rw[List.zip_nil_right]at hz;cases hz
    |cons c u hwi'=>
     rw[List.zip_cons_cons]at hz;injection hz with hyx hrest
     injection hyx with hy hx
     subst hy hx;rw[lexLt_cons]at hR;simp only[List.length_cons]at BV;obtain⟨e,he,hiff⟩:=pI A.in1 ⟨hp,g,d,tk,os⟩ a t c u;refine io (he prog w _ _ ?_);cases e with
     |true=>
      rw[yC (hiff.mp rfl)]at hR
      wp_walk
      exact⟨rfl,rfl,_,_,_,_,hrest,hvi',hwi',by omega,hR⟩
     |false=>
      rw[yA (fun q=>absurd (hiff.mpr q) yP)]at hR;have hri:=pH A.in1 ⟨hp,g,d,tk,os⟩ a t c u prog w
      wp_walk using hri
      exact⟨_,rfl,by simpa using hR⟩
  case fin=>
   rintro⟨b1,b2⟩ s' ⟨hb',rfl,vs,ws,ns',ms',hz,hvi,hwi,BV,hR⟩;simp only at hb';subst hb';have hv:lexLt ns' ms'=decide (items.size<items2.size):=by
    cases hvi with
    |nil=>
     cases hwi with
     |nil=>
      simp only[List.length_nil]at BV;rw[lexLt_nil_nil];exact(yY (by omega)).symm
     |cons c u hw=>
      simp only[List.length_nil,List.length_cons]at BV;rw[Qq];exact(yF (by omega)).symm
    |cons a t hv=>
     cases hwi with
     |nil=>
      simp only[List.length_nil,List.length_cons]at BV;rw[Qr];exact(yY (by omega)).symm
     |cons c u hw=>
      rw[List.zip_cons_cons]at hz;cases hz
   rw[hv]at hR
   wp_walk
   exact⟨_,rfl,by simpa [Builtin.Tuple.tupleCompareSizes] using hR⟩
  case h=>
   exact⟨rfl,rfl,items.toList,items2.toList,ns,ms,rfl,hi,hj,by omega,h⟩
end
section
variable{prog:Program}{w:World}{A:Around}{E:Value→Shared→Prop}{s:Shared}
theorem lt_tupInts{l b:Addr}{items items2:Array Value}{ns ms:List Int}{Q:Value→Shared→Prop}(hl:IsTup s.heap l items)(hb:IsTup s.heap b items2)(hi:IntsAre items.toList ns)(hj:IntsAre items2.toList ms)(hu:A.units<cLine)(h:Q (.bool (lexLt ns ms)) s):wpAny (model prog w) A (compareOp .Lt (.ref l) (.ref b)) Q E s:=by
 obtain⟨⟨cls,dd,data,sl⟩,ho,hc,n,hd⟩:=id hl;obtain⟨⟨cls2,dd2,data2,sl2⟩,ho2,hc2,n2,hd2⟩:=id hb;simp only at hc hd hc2 hd2;subst hc hd hc2 hd2;exact richCompare_meets_room (op:=.Lt) ⟨_,ho,rfl⟩ ⟨_,ho2,rfl⟩ PySem.F.slot_tuple_lt PySem.F.entry_tuple_lt (PySem.F.args_tuple_lt_2 _ _) (P9 l b items items2 n n2 dd dd2 sl sl2 ns ms hi hj)
  ⟨ho,ho2,show Value.bool (lexLt ns ms)≠Value.notImplemented∧Q (.bool (lexLt ns ms)) s from⟨(fun x=>nomatch x),h⟩⟩ hu
theorem cat_tup{t b:Addr}{vs ws:List Value}{Q:Value→Shared→Prop}(ht:IsTup s.heap t vs.toArray)(hb:IsTup s.heap b ws.toArray)(hv:vs≠[])(h1:ws=[]→Q (.ref t) s)(h2:ws≠[]→Q (.ref s.heap.objs.size) {s with heap:=s.heap.push {cls:=.type "tuple",data:=.seq (vs++ws).toArray}})(hsz:vs.length+ws.length≤sizeLine):wpAny (model prog w) A (binaryOp .Add (.ref t) (.ref b)) Q E s:=by
 obtain⟨⟨cls,dd,data,sl⟩,ho,hc,n,hd⟩:=id ht;obtain⟨⟨cls2,dd2,data2,sl2⟩,ho2,hc2,n2,hd2⟩:=id hb;simp only at hc hd hc2 hd2;subst hc hd hc2 hd2;have e:vs.toArray++ws.toArray=(vs++ws).toArray:=by simp
 by_cases hw:ws=[]
 ·exact concat_meets ⟨_,ho,rfl⟩ ⟨_,ho2,rfl⟩ noFill_tuple_add seq_tuple_add PySem.F.slot_tuple_add PySem.F.entry_tuple_add (PySem.F.args_tuple_add_2 _ _)
   (tuple_addW1 t b vs.toArray ws.toArray n n2 dd dd2 sl sl2 (by simpa using hv) (by simp[hw])) ⟨ho,ho2,h1 hw⟩
 ·refine concat_meets ⟨_,ho,rfl⟩ ⟨_,ho2,rfl⟩ noFill_tuple_add seq_tuple_add PySem.F.slot_tuple_add PySem.F.entry_tuple_add (PySem.F.args_tuple_add_2 _ _)
   (tuple_addW2 t b vs.toArray ws.toArray n n2 dd dd2 sl sl2 (by simpa using hv) (by simpa using hw) (by rw[List.size_toArray,List.size_toArray];exact hsz)) ⟨ho,ho2,?_⟩
  rw[e];exact h2 hw
def sIx(n d:Nat):Option Int→Nat
 |none=>d
 |some v=>if v<0 then(v+(n:Int)).toNat else min v.toNat n
theorem sIx_none(n d:Nat):sIx n d none=d:=rfl
theorem sIx_nat(n d k:Nat):sIx n d (some (k:Int))=min k n:=by
 show(if (k:Int)<0 then((k:Int)+(n:Int)).toNat else min (k:Int).toNat n)=min k n;rw[yA (by omega),Int.toNat_natCast]
theorem vh(n d:Nat)(hd:d≤n)(o:Option Int):sIx n d o≤n:=by
 cases o with
 |none=>exact hd
 |some v=>
  show(if v<0 then(v+(n:Int)).toNat else min v.toNat n)≤n;by_cases hv:v<0
  ·rw[yC hv];omega
  ·rw[yA hv];exact Nat.min_le_right _ _
theorem kS(v:Int)(n d:Nat):(if v<0 then max (v+(n:Int)) 0 else min v (n:Int))=((sIx n d (some v):Nat):Int):=by
 show(if v<0 then max (v+(n:Int)) 0 else min v (n:Int))=(((if v<0 then(v+(n:Int)).toNat else min v.toNat n):Nat):Int);by_cases hv:v<0
 ·simp only[if_pos hv];omega
 ·simp only[if_neg hv];omega
theorem jb(lo hi:Option Int)(n:Nat):Builtin.Slice.sliceAdjust lo hi 1 (n:Int)=(((sIx n 0 lo:Nat):Int),((sIx n n hi:Nat):Int)):=by
 have h1:¬((1:Int)<0):=by omega
 unfold Builtin.Slice.sliceAdjust;simp only[h1,if_false];refine zN ?_ ?_
 ·cases lo with
  |none=>rfl
  |some v=>exact kS v n 0
 ·cases hi with
  |none=>rfl
  |some v=>exact kS v n n
theorem iY(i j:Nat):Builtin.Slice.slicePlaces (i:Int) (j:Int) 1=j-i:=by
 unfold Builtin.Slice.slicePlaces;have h1:(1:Int) > 0:=by omega
 simp only[h1,if_true,Int.ediv_one]
 split <;> omega
theorem T4{v:Value}{o:Option Int}{Q:Option Int→Shared→Prop}(p:IsPart v o)(h:Q o s):wpAny (model prog w) A (Builtin.Slice.slicePartIndex v) Q E s:=by
 cases p with
 |none=>exact slicePart_none h
 |int i t=>exact slicePart_int h
theorem S8{sl:Addr}{vl vu:Value}{lo hi:Option Int}{n:Nat}{Q:Int×Int×Nat→Shared→Prop}(hs:s.heap.IsSliceOf sl vl vu .none)(pl:IsPart vl lo)(pu:IsPart vu hi)(h:Q (((sIx n 0 lo:Nat):Int),1,sIx n n hi-sIx n 0 lo) s):wpAny (model prog w) A (Builtin.Slice.sliceApplied (.ref sl) (pure (n:Int))) Q E s:=by
 obtain⟨os,hos,hcs,hds⟩:=id hs;unfold Builtin.Slice.sliceApplied Builtin.Slice.sliceFields;refine io (io (AJ hos hds (x:=vl) rfl (io (AJ hos hds (x:=vu) rfl (io (AJ hos hds (x:=.none) rfl (yx ?_)))))));refine io (slicePart_none ?_);show wpAny _ _ (if ((1:Int)==0)=true then _ else _) _ _ s;rw[yA (by decide)];refine io (T4 pl (io (T4 pu (io (yx ?_)))));show wpAny _ _ (match Builtin.Slice.sliceAdjust lo hi 1 (n:Int)with | (lo,hi)=>pure (lo,(1:Int),Builtin.Slice.slicePlaces lo hi 1)) _ _ s;rw[jb lo hi n];show wpAny _ _ (pure (((sIx n 0 lo:Nat):Int),(1:Int),Builtin.Slice.slicePlaces ((sIx n 0 lo:Nat):Int) ((sIx n n hi:Nat):Int) 1)) _ _ s;rw[iY];exact yx h
theorem qq(xs:Array Value)(i k:Nat):((List.range k).filterMap fun(m:Nat)=>xs[((i:Int)+(m:Int)*1).toNat]?).toArray=((xs.toList.drop i).take k).toArray:=by
 have e:(fun(m:Nat)=>xs[((i:Int)+(m:Int)*1).toNat]?)=fun m=>xs[i+m]?:=by
  funext m
  have:((i:Int)+(m:Int)*1).toNat=i+m:=by omega
  rw[this]
 rw[e];have:=pick_run xs i k;rw[List.filterMap_map]at this;have e2:((fun x=>xs[x]?)∘fun x=>i+x)=fun m=>xs[i+m]?:=rfl;rw[e2]at this;rw[this]
theorem getItem_tuple_cut{t sl:Addr}{items:Array Value}{vl vu:Value}{lo hi:Option Int}{Q:Value→Shared→Prop}(ht:IsTup s.heap t items)(hs:s.heap.IsSliceOf sl vl vu .none)(pl:IsPart vl lo)(pu:IsPart vu hi)(hw:¬(sIx items.size 0 lo=0∧sIx items.size items.size hi=items.size))(h:Q (.ref s.heap.objs.size) {s with heap:=s.heap.push {cls:=.type "tuple",data:=.seq ((items.toList.drop (sIx items.size 0 lo)).take (sIx items.size items.size hi-sIx items.size 0 lo)).toArray}})(hsz:items.size≤sizeLine):wpAny (model prog w) A (getItem (.ref t) (.ref sl)) Q E s:=by
 have htake:sizeOk (.seq ((items.toList.drop (sIx items.size 0 lo)).take (sIx items.size items.size hi-sIx items.size 0 lo)).toArray):=by
  show((items.toList.drop (sIx items.size 0 lo)).take (sIx items.size items.size hi-sIx items.size 0 lo)).toArray.size≤sizeLine;rw[zf,yX,List.length_drop,yU];omega
 have hj:sIx items.size items.size hi≤items.size:=vh _ _ (yB _) hi;obtain⟨os,hos,hcs,hds⟩:=id hs;have hTs:s.TypeIs (.ref sl) "slice":=⟨os,hos,hcs⟩;unfold getItem
 try with_reducible refine zn ?_
 first | refine io (yx ?_) | skip
 refine io (wpAny_sequenceKey ht.typeIs (by decide) ?_);refine io (wpAny_callSpecial?_slot (name:=Str.ofString "__getitem__") ht.typeIs Aq
  (zJ Aq ht.typeIs entry_tuple_getitem ?_ (args_tuple_getitem _ _)))
 show wpAny _ _ (Builtin.Tuple.tupleItemsOf (.ref t) >>= _) _ _ s;refine io (tupleItemsOf_ ht ?_);refine io (AE hTs ?_);rw[yC (by decide)];refine io (S8 hs pl pu ?_);have hno:¬((((sIx items.size 0 lo:Nat):Int)==0 && (1:Int)==1 && (sIx items.size items.size hi-sIx items.size 0 lo)==items.size)=true):=by
  intro q;rw[zz,zz]at q;have q1:((sIx items.size 0 lo:Nat):Int)=0:=eq_of_beq q.1.1;have q2:sIx items.size items.size hi-sIx items.size 0 lo=items.size:=eq_of_beq q.2;exact hw ⟨by omega,by omega⟩
 show wpAny _ _ (if (((sIx items.size 0 lo:Nat):Int)==0 && (1:Int)==1 && (sIx items.size items.size hi-sIx items.size 0 lo)==items.size)=true then _ else _) _ _ s;rw[yA hno,qq]
 first
  |exact io (m:=Builtin.Tuple.tupleExact _) (zB (yx ⟨_,rfl,yx h⟩) htake)
  |exact io (m:=Builtin.Tuple.tupleExact _) (zB (io (yx (yx ⟨_,rfl,yx h⟩))) htake)
  |exact io (io (m:=Builtin.Tuple.tupleExact _) (zB (yx (yx ⟨_,rfl,yx h⟩)) htake))
  |exact io (io (m:=Builtin.Tuple.tupleExact _) (zB (yx ⟨_,rfl,yx h⟩) htake))
end
end HT
namespace L2
open PySem PySem.Spec PyProof.Rows
abbrev TO:=St→Hp→(Option Int→Hp→Prop)→Prop
def PO(X:Cx)(e:Option Expr)(t:TO):Prop:=
 ∀(BF:List (Addr×Obj))(s:Shared)(σ:St)(H:Hp)(Q:Option Int→Hp→Prop),Inv X BF σ H s→t σ H Q→
  wpAny (model X.prog X.w) X.A (evalPart e X.env) (fun u s'=>∃o H',Inv X BF σ H' s'∧IsPart u o∧Q o H') X.xe s
def sN:TO:=fun _ H Q=>Q none H
def x_(t:TE):TO:=fun σ H Q=>t σ H fun x H1=>∃i,x=.int i∧Q (some i) H1
theorem Qu{ns:List Int}:∀{us:List Value},Vals (ns.map V.int) us→IntsAre us ns:=by
 induction ns with
 |nil=>intro us r;rw[Bv]at r;cases r;exact .nil
 |cons n ns ih=>
  intro us r;rw[yD]at r;cases r with
  |cons r1 r2=>
   obtain⟨t,e⟩:=r1;subst e;exact .cons n t (ih r2)
section
variable{X:Cx}{e:Expr}{te:TE}{lo hi:Option Expr}{tl th:TO}{pos p2:Pos}
theorem eU:PO X none sN:=by
 intro BF s σ H Q I h;rw[evalPart_none];exact yx ⟨none,H,I,.none,h⟩
theorem d_(h:PE X e te):PO X (some e) (x_ te):=by
 intro BF s σ H Q I hw;rw[evalPart_some];refine thn (h BF s σ H _ I hw) fun u s1 BG=>?_;obtain⟨x,H1,I1,r1,q1⟩:=BG;obtain⟨i,rfl,q⟩:=q1;obtain⟨t,rfl⟩:=r1;exact⟨some i,H1,I1,.int i t,q⟩
def SlR(X:Cx)(r:V→Option Int→Option Int→Hp→VK→Prop):Prop:=
 ∀(BF:List (Addr×Obj))(s:Shared)(σ:St)(H:Hp)(x:V)(v vl vu:Value)(lo hi:Option Int)(sl:Addr)(Q:VK),Inv X BF σ H s→RelV x v→s.heap.IsSliceOf sl vl vu .none→IsPart vl lo→IsPart vu hi→r x lo hi H Q→
  ∃T id,typeLookup (.type T) "__getitem__"=pure (some (.builtin id))∧s.TypeIs v T∧wpAny (model X.prog X.w) X.A (getItem v (.ref sl)) (EP X BF σ Q) X.xe s
def tSl(r:V→Option Int→Option Int→Hp→VK→Prop)(te:TE)(tl th:TO):TE:=fun σ H Q=>te σ H fun x H1=>tl σ H1 fun l H2=>th σ H2 fun u H3=>r x l u H3 Q
theorem Q9{r:V→Option Int→Option Int→Hp→VK→Prop}(hr:SlR X r)(he:PE X e te)(hl:PO X lo tl)(hu:PO X hi th):PE X (.Subscript e (.Slice lo hi none p2) pos) (tSl r te tl th):=by
 intro BF s σ H Q I h;refine Subscript_ (thn (he BF s σ H _ I h) fun v s1 BG=>?_);obtain⟨x,H1,I1,r1,q1⟩:=BG;refine wpAny_Slice (thn (hl BF s1 σ H1 _ I1 q1) fun vl s2 ⟨l,H2,I2,pl,q2⟩=>thn (hu BF s2 σ H2 _ I2 q2) fun vu s3 BG=>?_);obtain⟨u,H3,I3,pu,q3⟩:=BG;rw[evalPart_none];refine yx ?_;have I4:Inv X BF σ H3 {s3 with heap:=s3.heap.push {cls:=.type "slice",data:=.fields #[vl,vu,.none]}}:=I3.kept (t':=s3.toks) fun b ob q=>yy _ q;obtain⟨T,id,hT,ht,hg⟩:=hr BF {s3 with heap:=s3.heap.push {cls:=.type "slice",data:=.fields #[vl,vu,.none]}} σ H3 x v vl vu l u s3.heap.objs.size Q I4 r1 (Heap.IsSliceOf.new ..) pl pu q3;show wpAny (model X.prog X.w) X.A (subscriptTail e (.Slice lo hi none p2) v (.ref s3.heap.objs.size)) (EP X BF σ Q) X.xe {s3 with heap:=s3.heap.push {cls:=.type "slice",data:=.fields #[vl,vu,.none]}};exact tail_any (ops:=[.ref s3.heap.objs.size,v]) ht hT hg (by with_unfolding_all rfl)
def dj(xs:List V)(lo hi:Option Int):List V:=(xs.drop (HT.sIx xs.length 0 lo)).take (HT.sIx xs.length xs.length hi-HT.sIx xs.length 0 lo)
theorem Sy(xs:List V)(lo hi:Option Int):(dj xs lo hi).length≤xs.length:=by
 unfold dj;rw[yX,List.length_drop];omega
def rSlT(K:W.Frag):V→Option Int→Option Int→Hp→VK→Prop:=fun x lo hi H Q=>∃a xs,x=.ref a∧SqT K H a xs∧
 ¬(HT.sIx xs.length 0 lo=0∧HT.sIx xs.length xs.length hi=xs.length)∧∀p,H p=none→Q (.ref p) (upd H p (.tup (dj xs lo hi)))
theorem vt:SlR X (rSlT X.K):=by
 intro BF s σ H x v vl vu lo hi sl Q I rx hs pl pu h;obtain⟨a,xs,rfl,hx,hw,q⟩:=h;cases rx;obtain⟨its,r,ht,hz⟩:=I.tuple hx;have BV:its.toArray.size=xs.length:=by rw[zf];exact r.length.symm
 refine⟨"tuple",_,PyProof.Rows.slot_tuple_getitem.lookup,ht.typeIs,?_⟩;refine HT.getItem_tuple_cut ht hs pl pu (by rw[BV];exact hw) ?_ (by rw[BV];exact hz);rw[BV];refine⟨.ref s.heap.objs.size,_,I.laid (t':=s.toks) (o:=.tup (dj xs lo hi)) (fun b ob q=>yy _ q) (yB _) ?_,rfl,q _ (I.hok.fresh (yB _))⟩;exact⟨zE (Sy xs lo hi) hz,_,(r.drop (HT.sIx xs.length 0 lo)).take (HT.sIx xs.length xs.length hi-HT.sIx xs.length 0 lo),TupN.new _ _⟩
def yt(K:W.Frag):R2:=fun x y H Q=>∃a b xs ys,x=.ref a∧y=.ref b∧SqT K H a xs∧SqT K H b ys∧xs≠[]∧xs.length+ys.length≤sizeLine∧
 (ys=[]→Q (.ref a) H)∧(ys≠[]→∀p,H p=none→Q (.ref p) (upd H p (.tup (xs++ys))))
theorem Vals.nil_iff{xs:List V}{us:List Value}(r:Vals xs us):us=[]↔xs=[]:=by
 cases r with
 |nil=>simp
 |cons _ _=>simp
theorem sD:OpR X (binaryOp .Add) (yt X.K):=by
 intro BF s σ H x y v u Q I rx ry h;obtain⟨a,b,xs,ys,rfl,rfl,ha,hb,hx,hz,q1,q2⟩:=h;cases rx;cases ry;obtain⟨its,r1,p1,_⟩:=I.tuple ha;obtain⟨its2,r2,p2,_⟩:=I.tuple hb;refine HT.cat_tup p1 p2 (fun z=>hx (r1.nil_iff.mp z)) (fun z=>⟨.ref a,H,I,rfl,q1 (r2.nil_iff.mp z)⟩) (fun z=>?_) (by rw[←r1.length,←r2.length];exact hz);refine⟨.ref s.heap.objs.size,_,I.laid (t':=s.toks) (o:=.tup (xs++ys)) (fun b ob q=>yy _ q) (yB _) ?_,rfl,q2 (fun w=>z (r2.nil_iff.mpr w)) _ (I.hok.fresh (yB _))⟩;exact⟨by rw[yM];exact hz,_,r1.append r2,TupN.new _ _⟩
end
def ixN(n:Nat)(i:Int):Option Nat:=if 0≤i then(if i<n then some i.toNat else none)else if -(n:Int)≤i then some (i+n).toNat else none
def atI{α:Type}(xs:List α)(i:Int):Option α:=(ixN xs.length i).bind fun j=>xs[j]?
theorem j5{n:Nat}{i:Int}{j:Nat}(h:ixN n i=some j):seqIndex? i n=some j∧j<n∧-(n:Int)≤i∧i<n:=by
 unfold ixN at h;by_cases h0:0≤i
 ·rw[yC h0]at h;by_cases h1:i<n
  ·rw[yC h1]at h;have e:i.toNat=j:=zD h;exact⟨by rw[seqIndex_of h0 h1,e],by omega,by omega,h1⟩
  ·rw[yA h1]at h;cases h
 ·rw[yA h0]at h;by_cases h1:-(n:Int)≤i
  ·rw[yC h1]at h;have e:(i+n).toNat=j:=zD h;exact⟨by rw[seqIndex_neg (by omega) h1,e],by omega,h1,by omega⟩
  ·rw[yA h1]at h;cases h
theorem jU{α:Type}{xs:List α}{i:Int}{v:α}(h:atI xs i=some v):∃j,seqIndex? i xs.length=some j∧xs[j]?=some v∧j<xs.length∧-(xs.length:Int)≤i∧i<xs.length:=by
 unfold atI at h;cases e:ixN xs.length i with
 |none=>rw[e]at h;cases h
 |some j=>
  rw[e]at h;obtain⟨h1,h2,h3,h4⟩:=j5 e;exact⟨j,h1,h,h2,h3,h4⟩
theorem Rl{α:Type}{xs:List α}{j:Nat}{v:α}(h:xs[j]?=some v):atI xs (j:Int)=some v:=by
 have hj:j<xs.length:=(yI.mp h).1;have e:ixN xs.length (j:Int)=some j:=by
  unfold ixN;rw[if_pos (by omega),if_pos (by omega)];simp
 unfold atI;rw[e];exact h
def kI(b:Expr):Prop:=∀o i,subscripted b false o i=operate [o,i] (getItem o i)
def IxR(X:Cx)(r:R2):Prop:=
 ∀(value slice:Expr)(BF:List (Addr×Obj))(s:Shared)(σ:St)(H:Hp)(x y:V)(v u:Value)(Q:VK),Inv X BF σ H s→RelV x v→RelV y u→r x y H Q→
  subscripted slice false v u=operate [v,u] (getItem v u)→wpAny (model X.prog X.w) X.A (subscriptTail value slice v u) (EP X BF σ Q) X.xe s
def MtR(X:Cx)(id:String)(r:V→List V→Hp→VK→Prop):Prop:=
 ∀(BF:List (Addr×Obj))(s:Shared)(σ:St)(H:Hp)(x:V)(xs:List V)(v:Value)(us:List Value)(Q:VK),Inv X BF σ H s→RelV x v→Vals xs us→r x xs H Q→
  wpAny (model X.prog X.w) X.A (call (.builtin id) (v::us)) (EP X BF σ Q) X.xe s
section
variable{X:Cx}{a b:Expr}{ta tb:TE}{pos:Pos}
theorem yi{r:R2}(hr:IxR X r)(ha:PE X a ta)(hb:PE X b tb)(hs:kI b):PE X (.Subscript a b pos) (tOp r ta tb):=by
 intro BF s σ H Q I h;exact Subscript_ (vG ha hb I h fun v u s2 x y H2 I2 rx ry q=>hr a b BF s2 σ H2 x y v u Q I2 rx ry q (hs _ _))
def rIxL(K:W.Frag):R2:=fun x y H Q=>∃p xs i v,x=.ref p∧y=.int i∧SqL K H p xs∧atI xs i=some v∧Q v H
def xk(K:W.Frag):R2:=fun x y H Q=>∃p xs i v,x=.ref p∧y=.int i∧SqT K H p xs∧atI xs i=some v∧Q v H
theorem Yx:IxR X (rIxL X.K):=by
 intro value slice BF s σ H x y v u Q I rx ry h hs;obtain⟨p,xs,i,z,rfl,rfl,hq,he,q⟩:=h;cases rx;obtain⟨t,rfl⟩:=ry;obtain⟨its,r,pl,hz⟩:=I.list hq;obtain⟨j,h1,h2,h3,h4,h5⟩:=jU he;obtain⟨w,ew,rw'⟩:=r.get h2;have hl:=r.length;have hn:=dY;have fin:EP X BF σ Q w s:=⟨z,H,I,rw',q⟩;by_cases h0:0≤i
 ·have hj:i.toNat=j:=by
   rw[seqIndex_of h0 h5]at h1;exact zD h1
  exact item_listR pl.isList h0 (by omega) (by rw[hj];simpa using ew) fin hs
 ·have hj:(i+(its.toArray.size:Int)).toNat=j:=by
   rw[seqIndex_neg (by omega) h4]at h1;rw[zf,←hl];exact zD h1
  exact subscriptTail_builtinR (x:=w) pl.isList.typeIs slot_list_getitem.lookup
   (wpAny_getItem_list_neg (Q:=fun r s'=>r=w∧EP X BF σ Q r s') pl.isList (by omega) (by rw[List.size_toArray] <;> omega) (by omega) (by rw[hj];simpa using ew) ⟨rfl,fin⟩) hs
theorem Y9:IxR X (xk X.K):=by
 intro value slice BF s σ H x y v u Q I rx ry h hs;obtain⟨p,xs,i,z,rfl,rfl,hq,he,q⟩:=h;cases rx;obtain⟨t,rfl⟩:=ry;obtain⟨its,r,pl,hz⟩:=I.tuple hq;obtain⟨j,h1,h2,h3,h4,h5⟩:=jU he;obtain⟨w,ew,rw'⟩:=r.get h2;have hl:=r.length;have hn:=dY;have fin:EP X BF σ Q w s:=⟨z,H,I,rw',q⟩;exact subscriptTail_builtinR (x:=w) pl.typeIs slot_tuple_getitem.lookup
  (getItem_tuple (j:=j) (Q:=fun r s'=>r=w∧EP X BF σ Q r s') pl (by omega) (by omega) (by rw[List.size_toArray,←hl];exact h1) (by simpa using ew) ⟨rfl,fin⟩) hs
theorem ic(its:List Value)(n j:Nat)(u:Value):Obj.mapSeq (·.setIfInBounds j u) {cls:=.type "list",data:=.seq its.toArray n}={cls:=.type "list",data:=.seq (its.set j u).toArray n}:=by
 simp[Obj.mapSeq]
theorem Inv.lst{BF:List (Addr×Obj)}{σ:St}{H:Hp}{s:Shared}{p:Addr}{xs:List V}(I:Inv X BF σ H s)(h:H p=some (.lst xs)):
  ∃(its:List Value)(n:Nat),Vals xs its∧s.heap.get? p=some {cls:=.type "list",data:=.seq its.toArray n}∧xs.length≤sizeLine:=by
 obtain⟨z,its,n,r,e⟩:=I.hok p _ h;exact⟨its,n,r,e,z⟩
theorem Inv.lstUpd{BF:List (Addr×Obj)}{σ:St}{H:Hp}{s:Shared}{p:Addr}{xs ys:List V}{its its':List Value}{n n':Nat}{f:Obj→Obj}(I:Inv X BF σ H s)(h:H p=some (.lst xs))(ho:s.heap.get? p=some {cls:=.type "list",data:=.seq its.toArray n})(hf:f {cls:=.type "list",data:=.seq its.toArray n}={cls:=.type "list",data:=.seq its'.toArray n'})(r:Vals ys its')(hz:ys.length≤sizeLine)(t:Nat):
  Inv X BF σ (upd H p (.lst ys)) {s with heap:=s.heap.update p f,toks:=t}:=by
 have e:(s.heap.update p f).get? p=some {cls:=.type "list",data:=.seq its'.toArray n'}:=by
  rw[Bb f ho (by rw[hf] <;> rfl),hf]
 refine I.write (x:=p) (e:=p) (by rw[h];trivial) (.inl rfl) (fun b u hb q=>(zS _ _ (Ne.symm hb)).trans q) ⟨_,e⟩ ?_;exact⟨hz,its',n',r,e⟩
def yk:V→V→V→Hp→(Hp→Prop)→Prop:=fun o i v H Q=>∃p xs k j,o=.ref p∧i=.int k∧H p=some (.lst xs)∧ixN xs.length k=some j∧Q (upd H p (.lst (xs.set j v)))
theorem Q0:xP X yk:=by
 intro BF s σ H o i v ov iv u Q I ro ri rv h;obtain⟨p,xs,k,j,rfl,rfl,hp,hj,q⟩:=h;cases ro;obtain⟨t,rfl⟩:=ri;obtain⟨its,n,r,ho,hz⟩:=I.lst hp;obtain⟨h1,h2,h3,h4⟩:=j5 hj;have hl:=r.length;have hn:=dY;have I':Inv X BF σ (upd H p (.lst (xs.set j v))) {s with heap:=s.heap.update p (Obj.mapSeq (·.setIfInBounds j u))}:=
  I.lstUpd hp ho (ic its n j u) (r.set rv j) (by rw[List.length_set];exact hz) s.toks
 by_cases h0:0≤k
 ·have hk:k.toNat=j:=by
   rw[seqIndex_of h0 h4]at h1;exact zD h1
  exact W.ki_setAt ho h0 (by omega) (by rw[zf,←hl];exact h4) (by rw[hk];exact⟨_,I',q⟩)
 ·have hk:(k+(its.toArray.size:Int)).toNat=j:=by
   rw[seqIndex_neg (by omega) h3]at h1;rw[zf,←hl];exact zD h1
  exact W.ki_setBack ho (by omega) (by rw[zf,←hl];exact h3) (by omega) (by rw[hk];exact⟨_,I',q⟩)
theorem Nc(lo hi:Option Int)(n:Nat):(sliceBounds lo hi none n).1=((HT.sIx n 0 lo:Nat):Int)∧(sliceBounds lo hi none n).2.1=((HT.sIx n n hi:Nat):Int)∧(sliceBounds lo hi none n).2.2=1:=by
 refine⟨?_,?_,rfl⟩
 ·cases lo with
  |none=>simp[sliceBounds,HT.sIx]
  |some i=>
   simp only[sliceBounds,HT.sIx,Option.getD_none,show(1:Int) > 0 by decide,if_true];by_cases h:i<0
   ·simp only[h,if_true] <;> omega
   ·simp only[h,if_false] <;> omega
 ·cases hi with
  |none=>simp[sliceBounds,HT.sIx]
  |some i=>
   simp only[sliceBounds,HT.sIx,Option.getD_none,show(1:Int) > 0 by decide,if_true];by_cases h:i<0
   ·simp only[h,if_true] <;> omega
   ·simp only[h,if_false] <;> omega
theorem Pa(its:List Value)(lo hi:Option Int):slicePick its.toArray lo hi none=((its.drop (HT.sIx its.length 0 lo)).take (HT.sIx its.length its.length hi-HT.sIx its.length 0 lo)).toArray:=by
 obtain⟨h1,h2,h3⟩:=Nc lo hi its.toArray.size;unfold slicePick;rw[h1,h2,h3];simp only[sliceRange_one,pick_run,List.size_toArray] <;> rfl
def rSlL(K:W.Frag):V→Option Int→Option Int→Hp→VK→Prop:=fun x lo hi H Q=>∃a xs,x=.ref a∧SqL K H a xs∧∀p,H p=none→Q (.ref p) (upd H p (.lst (dj xs lo hi)))
theorem jH:SlR X (rSlL X.K):=by
 intro BF s σ H x v vl vu lo hi sl Q I rx hs pl pu h;obtain⟨a,xs,rfl,hx,q⟩:=h;cases rx;obtain⟨its,r,ht,hz⟩:=I.list hx;have BV:=r.length;refine⟨"list",_,slot_list_getitem.lookup,ht.isList.typeIs,?_⟩;refine wpAny_getItem_list_slice ht.isList hs pl pu .none (by simp) ?_ (by rw[List.size_toArray] <;> omega);rw[Pa,←BV];refine⟨.ref s.heap.objs.size,_,I.laid (t':=s.toks) (o:=.lst (dj xs lo hi)) (fun b ob q=>yy _ q) (yB _) ?_,rfl,q _ (I.hok.fresh (yB _))⟩;exact⟨zE (Sy xs lo hi) hz,_,0,(r.drop (HT.sIx xs.length 0 lo)).take (HT.sIx xs.length xs.length hi-HT.sIx xs.length 0 lo),yH _ rfl⟩
theorem Y7:aL X (.builtin "len") (fun xs H Q=>∃p ys,xs=[.ref p]∧(SqL X.K H p ys∨SqT X.K H p ys)∧Q (.int ys.length) H):=by
 intro BF s σ H xs us Q I r h;obtain⟨p,ys,rfl,hq,q⟩:=h;obtain⟨u,rfl,rx⟩:=W2 r;cases rx;have hn:=dY
 rcases hq with hq | hq
 ·obtain⟨its,r',pl,hz⟩:=I.list hq;have BV:=r'.length;exact Calls.call_len_list pl.isList (by simp only[List.size_toArray] <;> omega) ⟨.int ys.length,H,I.tok _,⟨s.toks+1,by rw[List.size_toArray,BV]⟩,q⟩
 ·obtain⟨its,r',pl,hz⟩:=I.tuple hq;have BV:=r'.length;exact len_tuple pl (by simp only[List.size_toArray] <;> omega) ⟨.int ys.length,H,I.tok _,⟨s.toks+1,by rw[List.size_toArray,BV]⟩,q⟩
theorem Pl:aL X (.type "tuple") (fun xs H Q=>∃p ys,xs=[.ref p]∧((SqL X.K H p ys∧∀l,H l=none→Q (.ref l) (upd H l (.tup ys)))∨(SqT X.K H p ys∧Q (.ref p) H))):=by
 intro BF s σ H xs us Q I r h;obtain⟨p,ys,rfl,h⟩:=h;obtain⟨u,rfl,rx⟩:=W2 r;cases rx
 rcases h with⟨hq,q⟩|⟨hq,q⟩
 ·obtain⟨its,r',pl,hz⟩:=I.list hq;have BV:=r'.length;refine call_tuple_list pl.isList (fun h' kp=>?_) (by simp only[List.size_toArray] <;> omega);have I1:Inv X BF σ H {s with heap:=h'}:=I.kept (t':=s.toks) kp;have I2:Inv X BF σ (upd H h'.objs.size (.tup ys)) {s with heap:=h'.push {cls:=.type "tuple",data:=.seq its.toArray}}:=
   I1.laid (t':=s.toks) (fun b o e=>yy _ e) (yB _) (show ObjOk X.prog X.w _ _ _ (.tup ys) from⟨hz,its,r',TupN.new _ _⟩)
  exact⟨.ref h'.objs.size,_,I2,rfl,q _ (I1.hok.fresh (yB _))⟩
 ·obtain⟨its,r',pl,hz⟩:=I.tuple hq;exact call_tuple_same pl ⟨.ref p,H,I,rfl,q⟩
def tyV(K:W.Frag)(T:String)(x:V)(H:Hp):Prop:=match x with
 |.str _=>T="str"
 |.int _=>T="int"
 |.ref p=>(T="list"∧∃xs,SqL K H p xs)∨(T="tuple"∧∃o,K.lookup p=some o∧o.cls=.type "tuple"∧o.dict=none)∨
   (T="dict"∧((∃kvs,H p=some (.dK kvs))∨∃kvs,H p=some (.dT kvs)))∨(T="set"∧∃S n,H p=some (.set S n))
 |_=>False
theorem qd{BF:List (Addr×Obj)}{σ:St}{H:Hp}{s:Shared}{T:String}{x:V}{v:Value}(I:Inv X BF σ H s)(r:RelV x v)(ty:tyV X.K T x H):
  s.TypeIs v T∧∀a,v=.ref a→∃ob,s.heap.get? a=some ob∧ob.dict=none:=by
 cases x with
 |str z=>
  obtain⟨t,rfl⟩:=r;cases (show T="str" from ty);exact⟨typeIs_str s z t,fun _ e=>nomatch e⟩
 |int i=>
  obtain⟨t,rfl⟩:=r;cases (show T="int" from ty);exact⟨typeIs_int s i t,fun _ e=>nomatch e⟩
 |ref p=>
  cases r
  rcases ty with⟨rfl,xs,hq⟩|⟨rfl,o,hk,hc,hd⟩|⟨rfl,hk⟩|⟨rfl,S,n,hk⟩
  ·obtain⟨its,_,pl,_⟩:=I.list hq;refine⟨pl.isList.typeIs,fun a e=>?_⟩;cases e;obtain⟨o,n,e,c,hd,_⟩:=pl;exact⟨o,e,hd⟩
  ·refine⟨⟨o,I.kIn p o hk,hc⟩,fun a e=>?_⟩;cases e;exact⟨o,I.kIn _ o hk,hd⟩
  ·have z:∃o,s.heap.get? p=some o∧o.ExactDict:=by
    rcases hk with⟨kvs,hk⟩|⟨kvs,hk⟩
    ·obtain⟨_,_,_,_,o,_,_,e,ex,_⟩:=I.hok p _ hk;exact⟨o,e,ex⟩
    ·obtain⟨_,_,_,_,o,_,_,e,ex,_⟩:=I.hok p _ hk;exact⟨o,e,ex⟩
   obtain⟨o,e,ex⟩:=z;refine⟨⟨o,e,ex.1⟩,fun a e2=>?_⟩;cases e2;exact⟨o,e,ex.2.1⟩
  ·obtain⟨o,_,_,_,e,ex,_⟩:=I.hok p _ hk;refine⟨⟨o,e,ex.1⟩,fun a e2=>?_⟩;cases e2;exact⟨o,e,ex.2.1⟩
 |_=>exact False.elim ty
def tBM0(K:W.Frag)(T:String)(r:V→List V→Hp→VK→Prop)(to:TE):TE:=fun σ H Q=>to σ H fun x H1=>tyV K T x H1∧r x [] H1 Q
def tBM(K:W.Frag)(T:String)(r:V→List V→Hp→VK→Prop)(to:TE)(t:TA):TE:=fun σ H Q=>to σ H fun x H1=>tyV K T x H1∧t σ H1 fun xs H2=>r x xs H2 Q
variable{o e:Expr}{es:List Expr}{to:TE}{t:TA}{name:Str}{apos cpos:Pos}{T id:String}{r:V→List V→Hp→VK→Prop}
theorem Qb(pa:PlainAttrs T)(slot:Slot T name id)(hty:typeOf (.builtin id)=pure (.type "method_descriptor"))(hm:MtR X id r)(ho:PE X o to)(hbase:attributeBase o name X.env (eval o X.env)=eval o X.env:=by rfl)(hline:(apos.endLine==cpos.line)=true:=by rfl):PE X (.Call (.Attribute o name apos) [] [] cpos) (tBM0 X.K T r to):=by
 intro BF s σ H Q I h;refine wpAny_Call_method0_late hbase hline (thn (ho BF s σ H _ I h) fun v s1 BG=>?_);obtain⟨x,H1,I1,r1,ty,q1⟩:=BG;obtain⟨h1,h2⟩:=qd I1 r1 ty;exact⟨T,id,pa,slot,hty,h1,h2,Calls.callWith_builtin rfl (PySem.evalArgs_none (hm BF s1 σ H1 x [] v [] Q I1 r1 .nil q1))⟩
theorem O4(pa:PlainAttrs T)(slot:Slot T name id)(hty:typeOf (.builtin id)=pure (.type "method_descriptor"))(hm:MtR X id r)(ho:PE X o to)(ha:PA X (e::es) t)(hbase:attributeBase o name X.env (eval o X.env)=eval o X.env:=by rfl)(hfew:((backTo cpos (starEach (e::es) X.env)).all (fun x=>!x.1) && (backToKw cpos (keywordEach [] X.env)).all (fun x=>x.1.isSome)
   && decide ((e::es).length+([]:List Keyword).length+(if ([]:List Keyword).isEmpty then 0 else 1)<30))=true:=by rfl)(hline:(apos.endLine==cpos.line)=true:=by rfl)(hs:starEach (e::es) X.env=(false,eval e X.env)::starEach es X.env:=by rfl)(hplain:(backTo cpos (starEach es X.env)).any (·.1)=false:=by rfl):
  PE X (.Call (.Attribute o name apos) (e::es) [] cpos) (tBM X.K T r to t):=by
 intro BF s σ H Q I h;refine wpAny_Call_method_late hbase hfew hline rfl (thn (ho BF s σ H _ I h) fun v s1 BG=>?_);obtain⟨x,H1,I1,r1,ty,q1⟩:=BG;obtain⟨h1,h2⟩:=qd I1 r1 ty;refine⟨T,id,pa,slot,hty,h1,h2,?_⟩;have hA:=ha cpos BF s1 σ H1 _ I1 q1;rw[hs]at hA⊢;refine Calls.callWith_builtin (by show(false || (backTo cpos (starEach es X.env)).any (·.1))=false;rw[hplain] <;> rfl) (Calls.evalArgs_plain ?_);exact thn hA fun us s2 ⟨vs,H2,I2,r2,q2⟩=>hm BF s2 σ H2 x vs v us Q I2 r1 r2 q2
end
def MtM(X:Cx)(id:String)(r:V→List V→Hp→VK→Prop):Prop:=
 ∀(BF:List (Addr×Obj))(s:Shared)(σ:St)(H:Hp)(x:V)(xs:List V)(v:Value)(us:List Value)(Q:VK),Inv X BF σ H s→RelV x v→Vals xs us→r x xs H Q→
  wpAny (model X.prog X.w) X.A (call (.builtin id) (v::us)) (EP X BF σ Q) X.xe s
theorem Vals.one{x:V}{us:List Value}(h:Vals [x] us):∃u,us=[u]∧RelV x u:=by
 cases h with
 |cons r t=>
  cases t;exact⟨_,rfl,r⟩
section
variable{X:Cx}{BF:List (Addr×Obj)}{σ:St}{H:Hp}{s:Shared}{l b:Addr}{xs ys zs:List V}
theorem Inv.lset{its its':List Value}{n:Nat}{f:Array Value→Array Value}{t':Nat}(I:Inv X BF σ H s)(hH:H l=some (.lst xs))(e:s.heap.get? l=some {cls:=.type "list",data:=.seq its.toArray n})(hf:f its.toArray=its'.toArray)(hv:Vals ys its')(hz:ys.length≤sizeLine):
  Inv X BF σ (upd H l (.lst ys)) {s with heap:=s.heap.update l (Obj.mapSeq f),toks:=t'}:=by
 have q:=PySem.IsL.update e f;rw[hf]at q;refine I.write (x:=l) (e:=l) (by rw[hH];exact trivial) (.inl rfl) (fun b' u hb hu=>(zS s.heap (Obj.mapSeq f) (Ne.symm hb)).trans hu) ⟨_,q⟩ ?_;exact⟨hz,its',_,hv,q⟩
theorem Inv.lnew{its:List Value}{t':Nat}(I:Inv X BF σ H s)(hv:Vals ys its)(hz:ys.length≤sizeLine):
  Inv X BF σ (upd H s.heap.objs.size (.lst ys)) {s with heap:=s.heap.push {cls:=.type "list",data:=.seq its.toArray},toks:=t'}:=
 I.laid (fun _ _ q=>yy _ q) (yB _) ⟨hz,its,0,hv,yH _ rfl⟩
theorem Inv.fresh(I:Inv X BF σ H s):H s.heap.objs.size=none:=I.hok.fresh (yB _)
theorem Inv.lstM(I:Inv X BF σ H s)(hH:H l=some (.lst xs)):xs.length≤sizeLine∧∃(its:List Value)(n:Nat),Vals xs its∧xs.length=its.length∧s.heap.get? l=some {cls:=.type "list",data:=.seq its.toArray n}:=by
 obtain⟨z,its,n,r,e⟩:=I.hok l _ hH;exact⟨z,its,n,r,r.length,e⟩
theorem pW{n:Nat}(h:n≤sizeLine):Builtin.List.listTooLong n=false:=by
 unfold Builtin.List.listTooLong;exact yY (by omega)
end
section
variable{X:Cx}
def rf:V→List V→Hp→VK→Prop:=fun x vs H Q=>∃l xs y,x=.ref l∧vs=[y]∧H l=some (.lst xs)∧xs.length<sizeLine∧Q .non (upd H l (.lst (xs++[y])))
theorem Sh:MtM X "list.append" rf:=by
 intro BF s σ H x vs v us Q I rx rv h;obtain⟨l,xs,y,rfl,rfl,hH,hz,q⟩:=h;cases rx;obtain⟨u,rfl,ru⟩:=rv.one;obtain⟨z,its,n,r,hl,e⟩:=I.lstM hH;refine call_meets F.slot_list_append ⟨_,e,rfl⟩ F.entry_list_append (F.args_list_append_2 _ _) (PySem.list_append l its.toArray n u (by rw[zf];omega)) ⟨e,?_⟩;refine⟨.non,_,I.lset (its':=its++[u]) hH e (by simp) (r.append (.cons ru .nil)) ?_,rfl,q⟩;rw[yM,z6];omega
def tI:V→List V→Hp→VK→Prop:=fun x vs H Q=>∃l b xs zs,x=.ref l∧vs=[.ref b]∧H l=some (.lst xs)∧H b=some (.lst zs)∧xs.length+zs.length≤sizeLine∧Q .non (upd H l (.lst (xs++zs)))
theorem lP:MtM X "list.extend" tI:=by
 intro BF s σ H x vs v us Q I rx rv h;obtain⟨l,b,xs,zs,rfl,rfl,hH,hB,hz,q⟩:=h;cases rx;obtain⟨u,rfl,ru⟩:=rv.one;cases ru;obtain⟨z,its,n,r,hl,e⟩:=I.lstM hH;obtain⟨z2,its2,n2,r2,hl2,e2⟩:=I.lstM hB;have hsz:its.toArray.size+its2.toArray.size≤sizeLine:=by rw[zf,zf];omega
 have hlong:¬(!its.toArray.isEmpty && Builtin.List.listTooLong (its.toArray.size+its2.toArray.size))=true:=by
  rw[pW hsz,Bool.and_false];exact yP
 refine call_meets F.slot_list_extend ⟨_,e,rfl⟩ F.entry_list_extend (F.args_list_extend_2 _ _)
  (AutoSeq1.list_extend_list_list_0 l its.toArray n b its2.toArray n2 hlong (by rw[zf];omega) (by omega)) ⟨e,e2,?_⟩
 refine⟨.non,_,I.lset (its':=its++its2) hH e (by simp) (r.append r2) ?_,rfl,q⟩;rw[yM];omega
def rCat:R2:=fun x y H Q=>∃l b xs zs,x=.ref l∧y=.ref b∧H l=some (.lst xs)∧H b=some (.lst zs)∧xs.length+zs.length≤sizeLine∧∀p,H p=none→Q (.ref p) (upd H p (.lst (xs++zs)))
theorem eO:OpR X (binaryOp .Add) rCat:=by
 intro BF s σ H x y v u Q I rx ry h;obtain⟨l,b,xs,zs,rfl,rfl,hH,hB,hz,q⟩:=h;cases rx;cases ry;obtain⟨z,its,n,r,hl,e⟩:=I.lstM hH;obtain⟨z2,its2,n2,r2,hl2,e2⟩:=I.lstM hB;refine PySem.P.add_list e e2 ?_ (by rw[zf,zf];omega);have ea:its.toArray++its2.toArray=(its++its2).toArray:=by simp
 rw[ea];exact⟨.ref _,_,I.lnew (t':=s.toks) (r.append r2) (by rw[yM];omega),rfl,q _ I.fresh⟩
end
section
variable{prog:Program}{w:World}{A:Around}{E:Value→Shared→Prop}{s:Shared}
end
section
variable{X:Cx}
end
end L2
namespace Att
open PySem PySem.W PySem.Calls PyProof.Rows
theorem R5{P:Params}{h:Heap}:∀(ns:List Int)(vs:List Value),WellAll P h vs (ns.map WData.int)→IntsAre vs ns:=by
 intro ns
 induction ns with
 |nil=>
  intro vs w;rw[Bv]at w;cases w;exact .nil
 |cons n ns ih=>
  intro vs w;rw[yD]at w;cases w with
  |cons a b=>
   cases a;exact .cons _ _ (ih _ b)
theorem lW{l:OpenLaw}{n:Nat}(hn:l.most=some n){P:Params}{h:Heap}{args:List WData}{vals:List Value}(hpre:l.row.toRowW.claim.pre args=true)(hwl:WellAll P h vals args):
  ∃a vs ns,vals=[Value.ref a]∧args=[WData.list (ns.map WData.int)]∧h.get? a=some {cls:=.type "list",data:=.seq vs.toArray}∧IntsAre vs ns∧ns.length≤n:=by
 have hsh:WShape.hasAll [] args [.list .int]=true:=(pre_splitW hpre).1;have hc:l.pre.holds [] {args:=args}=true:=(pre_splitW hpre).2;obtain⟨d,r,rfl,h1,h2⟩:=hasAllW_cons hsh;obtain rfl:=hasAllW_nil h2;obtain⟨xs,rfl,h3⟩:=hasW_list h1;obtain⟨ns,rfl⟩:=items_int h3;have BV:ns.length≤n:=by
  unfold OpenLaw.pre at hc;have h4:(WTm.not (.lt (.lit (.int (n:Int))) (.len (.arg 0)))).holds [] {args:=[.list (ns.map .int)]}=true:=by
   have h4:=(holds_andW hc).1;rw[hn]at h4;exact h4
  have h5:=condW_of h4 (w_not (w_lt w_lit (w_len_list (w_arg rfl))));rw[pi]at h5;refine Nat.le_of_not_lt fun q=>?_;have q':(n:Int)<((ns.length:Nat):Int):=by omega
  first
   | (rw[yF q']at h5;exact absurd h5 (by decide))
   | (simp at h5;omega)
 cases hwl with
 |cons w1 w2=>
  cases w2;cases w1 with
  |list ho hall=>exact⟨_,_,ns,rfl,rfl,ho,R5 ns _ hall,BV⟩
theorem mO(l:OpenLaw)(args:List WData):l.row.toRowW.claim.post args (.bool true) args=true:=
 postW_of (r:=l.row.toRowW) (X:=(true==true))
  (show WShape.has [] (.bool true) .bool=true by first | rfl | decide | simp[WShape.has,WShape.arms,WShape.armsAll])
  (show(WTm.eq .res (.lit (.bool true))).value [] {args:=args,res:=some (.bool true),after:=args}=some (.bool (true==true))from w_eq_bool (w_res rfl) w_lit) rfl
theorem attach_call{l:OpenLaw}{n:Nat}{q:Program}{loose:List Str}{XP:(Str→Option Value)→Heap→Prop}{YP:World→Heap→Prop}{d:DefRec}(hn:l.most=some n)(hdf:d.params.defaults=[])(call:∀(w:World) (s₀ s₁:Shared) (mg mb:Str→Option Value) (fa:Addr) (o:Obj) (pm cd doc:Value) (a:Addr) (vs:List Value) (ns:List Int),
   Ground q loose [] XP w s₀ mg mb s₁.heap→YP w s₁.heap→
   s₁.heap.get? fa=some o→o.data=.func (docDef d.name d.params d.body d.scope pm cd doc)→s₁.heap.CodeRec cd d.name→mg d.name=some (.ref fa)→
   s₁.heap.get? a=some {cls:=.type "list",data:=.seq vs.toArray}→IntsAre vs ns→ns.length≤n→s₁.gens=#[]→
   codeAny (model l.prog w) callerA (.call (.ref fa) ⟨[.ref a],[]⟩) (fun r s'=>r=.ok (.ret (.bool true))∧OldK s₁.heap s'.heap∧s'.os=s₁.os∧AllBare s'.gens) s₁):
  WalkO q loose XP YP l.row.toRowW d [] (fun f vs=>PySem.call f vs):=by
 intro w s₀ s₁ mg mb G Y fa o pm cd doc dV kV ho hd hcd hD hmg hg args vals as hpre hlay hrd hwl hlo;obtain rfl:dV=.none:=Dflts.none hD hdf;obtain rfl:kV=.none:=Dflts.noKw hD;obtain⟨a,vs,ns,rfl,rfl,hobj,hints,BV⟩:=lW hn hpre hwl;refine enter_call (A5 (call w s₀ s₁ mg mb fa o pm cd doc a vs ns G Y ho (fd_plain hd) hcd hmg hobj hints BV hg) fun r s' hq=>?_);obtain⟨rfl,h2,h3,h4⟩:=hq;exact⟨.inl ⟨.bool true,.bool true,[],rfl,fun _=>rfl,.bool true,mO l _,fun _=>⟨List.Pairwise.nil,fun _ hm=>(nomatch hm)⟩⟩,h2,h3,h4⟩
section
variable{prog:Program}{w:World}{A:Around}{E:Value→Shared→Prop}{s:Shared}{K:Frag}
end
end Att
namespace L2
open PySem PySem.Spec PyProof.Rows
theorem Ui:∀{vs:List Value}{ns:List Int},IntsAre vs ns→Vals (ns.map V.int) vs
 |_,_,.nil=>.nil
 |_,_,.cons n t h=>.cons ⟨t,rfl⟩ (Ui h)
def u8(H:Hp):Prop:=∀b,H b=none∨∃o xs,H b=some (.frz o (.lst xs))
theorem on{P:Program}{w:World}{K:W.Frag}{mg mb:Str→Option Value}{CX:CXT}{k:Nat}{fa a:Addr}{fd:FuncData}{x:Str}{sp:Sp}{s₁:Shared}{vs:List Value}{ns:List Int}(KX:K.In s₁.heap)(hns:s₁.heap.Ns mainGlobals mg)(hb:s₁.heap.Ns builtinsNs mb)(hbb:∀x:Str,x≠"__name__"→mb x=bootBuiltins x)(hlim:s₁.heap.NoLimit)(hg:s₁.gens=#[])(ha:s₁.heap.get? a=some {cls:=.type "list",data:=.seq vs.toArray})(hi:IntsAre vs ns)(hl:ns.length≤sizeLine)(hr:Room k callerA)(F:∀base:Heap,K.In base→base.Ns mainGlobals mg→FnOk P w K mg base CX k fa fd [x] sp)(hbind:∀(s:Shared) (u:Value),BindsTo s fd ⟨[u],[]⟩ [(x,u)])(hsp:∀H:Hp,u8 H→SqL K H a (ns.map V.int)→sp [.ref a] H (fun v _=>v=.bl true) fun _ _ _=>False)(hCX:∀H e s',CX [] H s₁ (fun _ _ _=>False) e s'→False):
  codeAny (model P w) callerA (.call (.ref fa) ⟨[.ref a],[]⟩) (fun r s'=>r=.ok (.ret (.bool true))∧OldK s₁.heap s'.heap∧s'.os=s₁.os∧AllBare s'.gens) s₁:=by
 have rv:=Ui hi;have lenV:=hi.length;have core:∀H:Hp,u8 H→SqL K H a (ns.map V.int)→HOk P w H s₁.heap→(∀b,H b≠none→b=a)→(H a≠none→K.lookup a=none)→
   codeAny (model P w) callerA (.call (.ref fa) ⟨[.ref a],[]⟩) (fun r s'=>r=.ok (.ret (.bool true))∧OldK s₁.heap s'.heap∧s'.os=s₁.os∧AllBare s'.gens) s₁:=by
  intro H hO hS hok hA hK;have base_of:∀{b:Addr}{o:Obj},s₁.heap.get? b=some o→H b=none→(eA s₁.heap H).get? b=some o:=fun e n=>oM e n;have noA:∀{b:Addr}{o:Obj}{es:Array DictEntry}{ep:Nat},s₁.heap.get? b=some o→o.data=.dict es ep→H b=none:=fun{b o es ep} e d=>by
   cases q:H b with
   |none=>rfl
   |some u=>
    have e':b=a:=hA b (by rw[q];simp);subst e';rw[ha]at e;cases e;have d':Data.seq vs.toArray _=Data.dict es ep:=d;cases d'
  have nsK:∀{b:Addr}{m:Str→Option Value},s₁.heap.Ns b m→(eA s₁.heap H).Ns b m:=fun{b m} ⟨o,es,ep,e,d,r⟩=>⟨o,es,ep,base_of e (noA e d),d,r⟩;have hKb:K.In (eA s₁.heap H):=fun b o e=>base_of (KX b o e) (by
   cases q:H b with
   |none=>rfl
   |some u=>
    have e':b=a:=hA b (by rw[q];simp);subst e';rw[hK (by rw[q];simp)]at e;cases e)
  have hM:Mod K mg (eA s₁.heap H):=⟨hKb,nsK hns,⟨mb,nsK hb,hbb⟩,let ⟨mc,h1,h2⟩:=hlim;⟨mc,nsK h1,h2⟩⟩;have e0:Env0 P w K mg (eA s₁.heap H) callerA [] s₁ H:=⟨rfl,hM,fun b o e=>qN e,Nat.le_of_eq (li _ _),trivial,fun b hb=>absurd (show b∈([]:List Addr)from hb) (by simp),hok,.of_eq hg⟩;refine A5 ((F _ hKb (nsK hns)).run callerA [] s₁ H ⟨[.ref a],[]⟩ [.ref a] [.ref a] _ _ hr e0 (hbind s₁ (.ref a)) (.cons rfl .nil) (hsp H hO hS)) fun r s' h=>?_;cases r with
  |error e=>exact(hCX H e s' h).elim
  |ok fl=>
   cases fl with
   |next=>exact False.elim h
   |brk=>exact False.elim h
   |cont=>exact False.elim h
   |ret u=>
    obtain⟨v,H',os,bare,un,hok',r',q⟩:=h;have q':v=.bl true:=q;subst q';obtain rfl:u=Value.bool true:=r';refine⟨rfl,OldK.of_keep fun b o e=>?_,os,bare⟩;cases q:H b with
    |none=>exact un.keep b o e q (by intro z;exact absurd (show b∈([]:List Addr)from z) (by simp)) (by simp)
    |some u=>
     rcases hO b with z | ⟨ob,xs,z⟩
     ·rw[q]at z;cases z
     ·have z2:=un.frzs b ob _ z;obtain⟨e1,_⟩:=hok b _ z;obtain⟨e2,_⟩:=hok' b _ z2;rw[e]at e1;cases e1;exact e2
 cases hk:K.lookup a with
 |some o=>
  have e:=KX a o hk;rw[ha]at e;cases e;refine core (fun _=>none) (fun _=>.inl rfl) (.inr ⟨_,vs.toArray,_,hk,rfl,rfl,rfl,by rw[List.size_toArray,lenV];exact hl,by simpa using rv⟩) (fun b u z=>by have z':(none:Option HO)=some u:=z;cases z') (fun b z=>absurd rfl z) fun z=>absurd rfl z
 |none=>
  refine core (fun b=>if b=a then some (.frz {cls:=.type "list",data:=.seq vs.toArray} (.lst (ns.map V.int)))else none) (fun b=>?_) (.inl (.inr ⟨{cls:=.type "list",data:=.seq vs.toArray},yC rfl⟩)) (fun b u z=>?_) (fun b z=>?_) fun _=>hk
  ·by_cases hb:b=a
   ·exact .inr ⟨_,_,yC hb⟩
   ·exact .inl (yA hb)
  ·by_cases hb:b=a
   ·have z':=(yC hb).symm.trans z;cases z';subst hb;exact⟨ha,by rw[pi];exact hl,vs,_,rv,ha⟩
   ·have z':=(yA hb).symm.trans z;cases z'
  ·by_cases hb:b=a
   ·exact hb
   ·exact absurd (yA hb) z
theorem walk_of{l:W.OpenLaw}{n k:Nat}{q:Program}{loose:List Str}{XP:(Str→Option Value)→Heap→Prop}{YP:World→Heap→Prop}{d:DefRec}{K:Params→W.Frag}{CX:World→CXT}{sp:World→Sp}{x:Str}(hn:l.most=some n)(hn2:n≤sizeLine)(hdf:d.params.defaults=[])(hr:Room k callerA)(hY:∀(w:World) (h:Heap),YP w h→(K w.params).In h)(F:∀(w:World) (mg:Str→Option Value) (fa:Addr) (h:Heap),(K w.params).In h→h.Ns mainGlobals mg→mg d.name=some (.ref fa)→
   ∃fd:FuncData,(∀(s:Shared) (u:Value),BindsTo s fd ⟨[u],[]⟩ [(x,u)])∧
    ∀base:Heap,(K w.params).In base→base.Ns mainGlobals mg→FnOk l.prog w (K w.params) mg base (CX w) k fa fd [x] (sp w))(hsp:∀(w:World) (H:Hp) (a:Addr) (ns:List Int),ns.length≤n→u8 H→SqL (K w.params) H a (ns.map V.int)→sp w [.ref a] H (fun v _=>v=.bl true) fun _ _ _=>False)(hCX:∀(w:World) (H:Hp) (s:Shared) (e:Value) (s':Shared),CX w [] H s (fun _ _ _=>False) e s'→False):
  W.WalkO q loose XP YP l.row.toRowW d [] (fun f vs=>PySem.call f vs):=by
 refine Att.attach_call hn hdf fun w s₀ s₁ mg mb fa o pm cd doc a vs ns G Y ho hd hcd hmg hobj hints BV hg=>?_;have KX:=hY w _ Y;obtain⟨fd,hb,hF⟩:=F w mg fa _ KX G.T.g hmg;exact on KX G.T.g G.T.b G.T.builtins G.T.nolimit hg hobj hints (zE BV hn2) hr hF hb (fun H hO hS=>hsp w H a ns BV hO hS) fun H e s'=>hCX w H s₁ e s'
def aH(s:Stmt):Arguments:=match s with
 |.FunctionDef _ a _ _ _ _ _ _ _ _=>a
 |_=>{posonlyargs:=[],args:=[],vararg:=none,kwonlyargs:=[],kw_defaults:=[],kwarg:=none,defaults:=[]}
def aE(s:Stmt):List Stmt:=match s with
 |.FunctionDef _ _ b _ _ _ _ _ _ _=>b
 |_=>[]
def aa(s:Stmt):Scope:=match s with
 |.FunctionDef _ _ _ _ _ _ sc _ _ _=>sc
 |_=>{kind:=.function,names:=[],isGenerator:=false,isCoroutine:=false}
abbrev CX0:CXT:=fun _ _ _ _ _ _=>False
abbrev E0:XK:=fun _ _ _=>False
structure Fun(K:W.Frag)(x qual:Str)(st:Stmt)(f:Addr)(fd:FuncData):Prop where
 ex:∃(oc:Value)(od:Option Addr)(kV doc pm:Value)(an:Option Addr)(cdv ct:Value)(osl:Array (Option Value)),
  fd=W.fnOf x qual (aH st) (aE st) (aa st) .none kV doc pm an cdv ct∧K.lookup f=some ⟨oc,od,.func fd,osl⟩∧W.codeIn K cdv qual=true
 kp:W.keepIn K (.ref f)=true
section
variable{P:Program}{w:World}{K:W.Frag}{mg:Str→Option Value}{base:Heap}
theorem Fun.ok{x qual:Str}{st:Stmt}{f:Addr}{fd:FuncData}{N ps:List Str}{k:Nat}{sp:Sp}(F:Fun K x qual st f fd)(S:FnScope N ps (aa st))(len:∀vs H Q E,sp vs H Q E→vs.length=ps.length)(hbody:∀(cdv:Value) (A:Around) (outer:List Env) (s:Shared) (H:Hp) (vs:List V) (Q:VK) (E:XK),Room k (A.deeper (envOfC qual (aa st) s.heap.objs.size f cdv))→sp vs H Q E→
   ∃t,PSs (lG CX0 P w K mg base N qual (aa st) f cdv A outer s H E).nox (aE st) t∧t {nx:=fun _ H'=>Q .non H',rt:=Q} (b0 N vs) H):FnOk P w K mg base CX0 (k+1) f fd ps sp:=by
 obtain⟨oc,od,kV,doc,pm,an,cdv,ct,osl,rfl,lk,hcd⟩:=F.ex;refine yc lk hcd S len fun A outer s H vs Q E hr hsp=>?_;obtain⟨t,h,q⟩:=hbody cdv A outer s H vs Q E hr hsp;exact⟨t,h.nox,q⟩
theorem Fun.binds{x qual:Str}{st:Stmt}{f:Addr}{fd:FuncData}{ps:List Str}(F:Fun K x qual st f fd)(h:∀(kV doc pm:Value) (an:Option Addr) (cdv ct:Value) (us:List Value),us.length=ps.length→bindArgs (W.fnOf x qual (aH st) (aE st) (aa st) .none kV doc pm an cdv ct) ⟨us,[]⟩=pure (ps.zip us)):Binds K fd ps []:=by
 obtain⟨oc,od,kV,doc,pm,an,cdv,ct,osl,rfl,lk,hcd⟩:=F.ex;exact .all (h kV doc pm an cdv ct)
theorem pA{x qual:Str}{st:Stmt}{f:Addr}{oc:Value}{od an:Option Addr}{osl:Array (Option Value)}{kV doc pm cdv ct:Value}(l:K.lookup f=some ⟨oc,od,.func (W.fnOf x qual (aH st) (aE st) (aa st) .none kV doc pm an cdv ct),osl⟩)(c:W.codeIn K cdv qual=true)(k:W.keepIn K (.ref f)=true):Fun K x qual st f (W.fnOf x qual (aH st) (aE st) (aa st) .none kV doc pm an cdv ct):=⟨⟨oc,od,kV,doc,pm,an,cdv,ct,osl,rfl,l,c⟩,k⟩
end
theorem X3{A:Around}{k:Nat}(hr:Room k A):A.units+1<cLine:=A6 (Nat.add_le_add_left (by decide:1≤64) _) hr.units
section
variable{X:Cx}
theorem pv(i:Nat){x:Str}{pos:Pos}(hN:X.N[i]?=some x:=by rfl)(hv:Vis X.env.scope x:=by first | exact Or.inl rfl | exact Or.inr (Or.inl rfl) | exact Or.inr (Or.inr rfl))(hd:(x==("__debug__":Str))=false:=by decide)(hcd:(x==("__classdict__":Str))=false:=by decide):PE X (.Name x pos) (vE i):=vP hN hv hd hcd
end
theorem Yz{A B:Prop}(h:B):if false=true then A else B:=by
 rw[yA yP];exact h
theorem Vv{A B:Prop}(h:A):if true=true then A else B:=by
 rw[yC rfl];exact h
theorem Wp{c A B:Prop}[Decidable c](h1:c→A)(h2:¬c→B):if c then A else B:=by
 by_cases h:c
 ·rw[yC h];exact h1 h
 ·rw[yA h];exact h2 h
def Same(H H':Hp):Prop:=∀b o,H b=some o→H' b=some o
theorem Same.refl(H:Hp):Same H H:=fun _ _ h=>h
theorem Same.trans{H H1 H2:Hp}(a:Same H H1)(b:Same H1 H2):Same H H2:=fun c o h=>b c o (a c o h)
theorem Same.free{H H':Hp}(e:Same H H'){l:Addr}(h:H' l=Option.none):H l=Option.none:=by
 cases q:H l with
 |none=>rfl
 |some o=>
  rw[e l o q]at h;cases h
end L2
set_option maxHeartbeats 4000000
set_option bootstrap.genMatcherCode false
set_option genInjectivity false
set_option genSizeOf false
noncomputable section
namespace L2
open PySem PySem.Spec PyProof.Rows
theorem Qy{α β:Type}{f:α→β→Sem (ForInStep β)}{g:β→α→β}:∀(l:List α)(c:β),(∀x∈l,∀c,f x c=pure (.yield (g c x)))→forIn l c f=pure (l.foldl g c)
 | [],_,_=>rfl
 |x::l,c,h=>by
  rw[Br,h x zy,pure_bind];exact Qy l (g c x) fun y hy=>h y (zC _ hy)
def aO(env:Env)(BS:List (Str×Addr))(x:Str×NameKind):List (Str×Addr):=if x.2==.free then(x.1,(env.cells.lookup x.1).getD 0)::BS else BS
def a_(env:Env)(names:List (Str×NameKind)):List (Str×Addr):=names.foldl (aO env) []
theorem Pk{scope:Scope}{env:Env}(h:∀x∈scope.names,x.2=.free→∃c,env.cells.lookup x.1=some c):closureFor scope env=pure (a_ env scope.names):=by
 simp only[closureFor];rw[Qy (g:=aO env) scope.names [] (fun x hx c=>by
  obtain⟨n,kind⟩:=x;by_cases hk:kind=.free
  ·subst hk;obtain⟨a,ha⟩:=h _ hx rfl;have ha':env.cells.lookup n=some a:=ha;simp[aO,cellOf,ha']
  ·have hb:(kind==NameKind.free)=false:=by simpa using hk
   simp[aO,hb])]
 rfl
theorem On{env:Env}:∀(names:List (Str×NameKind))(BS:List (Str×Addr)),(∀x∈names,x.2=.free→∃c,env.cells.lookup x.1=some c)→(∀p∈BS,env.cells.lookup p.1=some p.2)→
  ∀p∈names.foldl (aO env) BS,env.cells.lookup p.1=some p.2
 | [],_,_,h=>h
 |x::r,BS,hn,h=>by
  refine On r _ (fun y hy=>hn y (zC _ hy)) ?_;intro p hp;unfold aO at hp
  split at hp
  ·rename_i hk
   rcases yO.mp hp with e | e
   ·subst e;obtain⟨c,hc⟩:=hn x List.mem_cons_self (by simpa using hk);show env.cells.lookup x.1=some ((env.cells.lookup x.1).getD 0);rw[hc];rfl
   ·exact h p e
  ·exact h p hp
theorem Om{env:Env}:∀(names:List (Str×NameKind))(BS:List (Str×Addr))(p:Str×Addr),p∈BS→p∈names.foldl (aO env) BS
 | [],_,_,h=>h
 |x::r,BS,p,h=>by
  refine Om r _ p ?_;unfold aO
  split
  ·exact zC _ h
  ·exact h
theorem Oo{env:Env}:∀(names:List (Str×NameKind))(BS:List (Str×Addr))(x:Str),(x,NameKind.free)∈names→∃c,(x,c)∈names.foldl (aO env) BS
 |y::r,BS,x,h=>by
  rcases yO.mp h with e | e
  ·subst e;exact⟨_,Om r _ _ (by unfold aO;rw[yC (by rfl)];exact zy)⟩
  ·exact Oo r _ x e
theorem T1{α:Type}:∀{l:List (Str×α)}{x:Str}{c:α},(x,c)∈l→∃d,l.lookup x=some d
 | (y,d)::r,x,c,h=>by
  rw[List.lookup_cons];cases e:x==y with
  |true=>exact⟨d,rfl⟩
  |false=>
   rcases yO.mp h with q | q
   ·cases q;rw[beq_self_eq_true]at e;cases e
   ·exact T1 q
theorem Wn(env:Env):∀(names:List (Str×NameKind))(x:Str),(names.map fun(n,k)=>if (k==NameKind.free && env.scope.kind==.function && env.kindOf n==some .cell) then(n,NameKind.cell) else(n,k)).lookup x =
  (names.lookup x).map fun k=>if (k==NameKind.free && env.scope.kind==.function && env.kindOf x==some .cell)then NameKind.cell else k
 | [],_=>rfl
 | (n,k)::r,x=>by
  have ih:=Wn env r x;show List.lookup x ((if (k==NameKind.free && env.scope.kind==.function && env.kindOf n==some .cell)=true then(n,NameKind.cell) else(n,k))::_)=_;have hr:((n,k)::r).lookup x=(match x==n with | true=>some k | false=>r.lookup x):=List.lookup_cons ..;rw[hr];by_cases hc:(k==NameKind.free && env.scope.kind==.function && env.kindOf n==some .cell)=true
  ·rw[yC hc,List.lookup_cons];cases hx:x==n with
   |true=>
    have e:x=n:=eq_of_beq hx;subst e;show some NameKind.cell=some (if (k==NameKind.free && env.scope.kind==.function && env.kindOf x==some .cell)=true then NameKind.cell else k);rw[yC hc]
   |false=>exact ih
  ·rw[yA hc,List.lookup_cons];cases hx:x==n with
   |true=>
    have e:x=n:=eq_of_beq hx;subst e;show some k=some (if (k==NameKind.free && env.scope.kind==.function && env.kindOf x==some .cell)=true then NameKind.cell else k);rw[yA hc]
   |false=>exact ih
def cxC(X:Cx)(own:List Str)(scope:Scope)(cl:List (Str×Addr))(C:Addr)(s:Shared)(H:Hp)(fp:List Addr):Cx:=
 {X with N:=own++X.N,s₀:=s,H₀:=H,env:=compEnvC scope cl C X.env,outer:=X.stack,stack:=X.stack,ex:=fp,fn:=fun _=>false,xe:=fun _ _=>False}
def PTs(X:Cx)(ifs:List Expr)(t:TT):Prop:=
 ∀(BF:List (Addr×Obj))(s:Shared)(σ:St)(H:Hp)(Q:Bool→Hp→Prop),Inv X BF σ H s→t σ H Q→
  wpAny (model X.prog X.w) X.A (forIn ifs true fun c r=>if r=true then do let ok ←isTrue c X.env (eval c X.env);pure (ForInStep.yield ok)else pure (ForInStep.yield r)) (TP X BF σ Q) X.xe s
def tAll:TT:=fun _ H Q=>Q true H
theorem Yp{X:Cx}:PTs X [] tAll:=fun _ _ _ H _ I h=>wpAny_tests_nil ⟨H,I,h⟩
theorem Wq{X:Cx}{c:Expr}{t:TT}(h:PT X c t):PTs X [c] t:=fun BF s σ H Q I q=>wpAny_tests_one (h BF s σ H Q I q)
def Wk:St→St→Prop
 | [],[]=>True
 |_::r,none::t=>Wk r t
 |a::r,some v::t=>a=some v∧Wk r t
 |_,_=>False
theorem Wk.len:∀{a b:St},Wk a b→b.length=a.length
 | [],[],_=>rfl
 |_::r,none::t,h=>zW (·+1) (Wk.len (a:=r) (b:=t) h)
 |_::r,some _::t,h=>zW (·+1) (Wk.len (a:=r) (b:=t) h.2)
 | [],none::_,h=>h.elim
 | [],some _::_,h=>h.elim
 |_::_,[],h=>h.elim
theorem Wk.get:∀{a b:St}(i:Nat)(v:V),Wk a b→b[i]?=some (some v)→a[i]?=some (some v)
 |_::_,none::_,0,v,_,e=>by simp at e
 |_::_,some _::_,0,v,h,e=>by simp at e⊢;rw[h.1,e]
 |_::r,none::t,i+1,v,h,e=>by simp at e⊢;exact Wk.get (a:=r) (b:=t) i v h e
 |_::r,some _::t,i+1,v,h,e=>by simp at e⊢;exact Wk.get (a:=r) (b:=t) i v h.2 e
 | [],[],i,v,h,e=>by simp at e
 | [],none::_,_,_,h,_=>h.elim
 | [],some _::_,_,_,h,_=>h.elim
 |_::_,[],_,_,h,_=>h.elim
theorem Wk.refl:∀(a:St),Wk a a
 | []=>trivial
 |none::r=>Wk.refl r
 |some _::r=>⟨rfl,Wk.refl r⟩
def CompR(J:It)(H:Hp)(k:Nat)(g:TG)(tt:TT)(te:TE)(σ:St)(Q:VK):Prop:=∃W:Nat→Nat→List V→Hp→Prop,(∃m,W 0 m [] H)∧∀i m ys H,W i m ys H→
 (J.stop i H∧ys.length≤sizeLine∧∀p,H p=none→Q (.ref p) (upd H p (.lst ys)))∨
 (J.go i H∧ys.length<sizeLine∧∀x H',J.yld i H x H'→g x (List.replicate k none++σ) H' fun σ2 H2=>Wk σ2 (List.replicate k none++σ)∧tt σ2 H2 fun ok H3=>
  if ok=true then te σ2 H3 fun y H4=>∃m',m'<m∧W (i+1) m' (ys++[y]) H4 else ∃m',m'<m∧W (i+1) m' ys H3)
def gx(wi:TI)(g:TG)(tt:TT)(te:TE)(k:Nat):TE:=fun σ H Q=>wi σ H fun J H1=>CompR J H1 k g tt te σ Q
theorem gB{prog:Program}{w:World}{A:Around}{R:Result→Shared→Prop}{s:Shared}{elt target iter:Expr}{ifs:List Expr}{scope:Scope}{pos:Pos}{it BS:Value}{env:Env}(I:Nat→Shared→Prop)(turn:∀n s,I n s→wpAny (model prog w) A (pyNext it) (fun r s₁=>match r with
   |none=>R (.ok .next) s₁
   |some v=>wpAny (model prog w) A (letOwnedTupleGo target it v) (fun _ s₁'=>wpAny (model prog w) A (assign target env v) (fun _ s₂=>
     wpAny (model prog w) A (forIn ifs true fun c r=>if r=true then do let ok ←isTrue c env (eval c env);pure (ForInStep.yield ok)else pure (ForInStep.yield r)) (fun ok s₃=>
      if ok=true then wpAny (model prog w) A (eval elt env) (fun x s₄=>
       wpAny (model prog w) A (call (.builtin "list.append") [BS,x]) (fun _ s₅=>∃m,m<n∧I m s₅) (fun _ _=>False) s₄) (fun _ _=>False) s₃
      else ∃m,m<n∧I m s₃) (fun _ _=>False) s₂) (fun _ _=>False) s₁') (fun _ _=>False) s₁) (fun _ _=>False) s)(n:Nat)(h:I n s):
  codeAny (model prog w) A (.compLoop (.ListComp elt [⟨target,iter,ifs,0⟩] scope pos) 0 it BS env) R s:=by
 refine codeAny_loop rfl I (fun n s hI=>?_) n h;show wpAny _ A ((compTurn (.ListComp elt [⟨target,iter,ifs,0⟩] scope pos) 0 it BS env).onRaise (fun x=>do noteFrame x env;theTreesLotGoes x)) _ _ s;refine wpAny_noted ?_;rw[compTurn_list];refine io (wpAny_standAt (io (zT (turn n s hI) (fun r s₁ h₁=>?_) fun _ _ h'=>h'.elim)));cases r with
 |none=>exact yx h₁
 |some v=>
  refine io (zT h₁ (fun _ s₁' h₁'=>?_) fun _ _ h'=>h'.elim);refine io (zT h₁' (fun _ s₂ h₂=>io (zT h₂ (fun ok s₃ h₃=>?_) fun _ _ h'=>h'.elim)) fun _ _ h'=>h'.elim);cases ok with
  |false=>exact yx ⟨rfl,h₃⟩
  |true=>
   exact io (io (zT h₃ (fun x s₄ h₄=>io (zT h₄ (fun _ s₅ h₅=>yx (yx ⟨rfl,h₅⟩)) fun _ _ h'=>h'.elim)) fun _ _ h'=>h'.elim))
abbrev lo(its:List Value)(n:Nat):Obj:={cls:=.type "list",data:=.seq its.toArray n}
structure TurnP(Pc:Cx→Prop)(P:Program)(w:World)(K:W.Frag)(tg:Expr)(J:It)(fp:List Addr)(it:Addr)(tn:Nat→Heap→Prop):Prop where
 obj:∀i h,tn i h→∀b∈fp,∃o,h.get? b=some o∧∀v,o.data≠.cell v
 keep:∀i h h',tn i h→(∀b∈fp,∀o,h.get? b=some o→h'.get? b=some o)→tn i h'
 item:∀(X:Cx),X.prog=P→X.w=w→X.K=K→Pc X→∀(i:Nat)(BF:List (Addr×Obj))(s:Shared)(σ:St)(H:Hp)(E:Value→Shared→Prop),Inv X BF σ H s→(∀b∈fp,cD X BF H b)→tn i s.heap→J.go i H→
  wpAny (model P w) X.A (pyNext (.ref it)) (fun r s1=>∃u,r=some u∧
   wpAny (model P w) X.A (letOwnedTupleGo tg (.ref it) u) (fun _ s2=>∃x H',Inv X BF σ H' s2∧RelV x u∧J.yld i H x H'∧tn (i+1) s2.heap∧∀b∈fp,H' b=none) E s1) E s
 done:∀(X:Cx),X.prog=P→X.w=w→X.K=K→Pc X→∀(i:Nat)(BF:List (Addr×Obj))(s:Shared)(σ:St)(H:Hp)(E:Value→Shared→Prop),Inv X BF σ H s→(∀b∈fp,cD X BF H b)→tn i s.heap→J.stop i H→
  wpAny (model P w) X.A (pyNext (.ref it)) (fun r s1=>r=none∧Inv X BF σ H s1) E s
 self:∀(A:Around)(i:Nat)(s:Shared)(Q:Value→Shared→Prop)(E:Value→Shared→Prop),tn i s.heap→Q (.ref it) s→wpAny (model P w) A (pyIter (.ref it)) Q E s
def PIP(Pc:Cx→Prop)(X:Cx)(tg iter:Expr)(wi:TI):Prop:=
 ∀(BF:List (Addr×Obj))(s:Shared)(σ:St)(H:Hp)(R:It→Hp→Prop),Inv X BF σ H s→wi σ H R→
  wpAny (model X.prog X.w) X.A (eval iter X.env) (fun v s1=>wpAny (model X.prog X.w) X.A (pyIter v) (fun itv s2=>∃(it:Addr)(fp:List Addr)(tn:Nat→Heap→Prop)(J:It)(H':Hp),itv=.ref it∧Inv X BF σ H' s2∧TurnP Pc X.prog X.w X.K tg J fp it tn∧tn 0 s2.heap∧(∀b∈fp,cD X BF H' b)∧R J H') X.xe s1) X.xe s
theorem PI.p{X:Cx}{tg iter:Expr}{wi:TI}(h:PI X tg iter wi):PIP (fun X=>X.calm=true) X tg iter wi:=fun BF s σ H R I q=>zT (h BF s σ H R I q) (fun v s1 h1=>zT h1 (fun itv s2 ⟨it,fp,tn,J,H',e,I',T,t0,f,r⟩=>⟨it,fp,tn,J,H',e,I',⟨T.obj,T.keep,T.item,T.done,T.self⟩,t0,f,r⟩) fun _ _ z=>z) fun _ _ z=>z
structure CompOk(X:Cx)(own:List Str)(scope:Scope):Prop where
 cell:∀y∈scope.names,y.2≠.cell
 kind:scope.kind=.function
 names:∀y∈scope.names,y.2=.local→scope.names.lookup y.1=some .local
 fr:∀y∈scope.names,y.2=.free→X.env.scope.names.lookup y.1=some .cell∨X.env.scope.names.lookup y.1=some .free
 loc:∀y∈X.N,scope.names.lookup y≠some .local
def iP(names:List (Str×NameKind)):Bool:=names.all fun y=>(y.2 != .cell) && (y.2 != .local || names.lookup y.1==some .local)
def jf(outer names:List (Str×NameKind)):Bool:=names.all fun y=>y.2 != .free || outer.lookup y.1==some .cell || outer.lookup y.1==some .free
def iU(N:List Str)(names:List (Str×NameKind)):Bool:=N.all fun y=>names.lookup y != some .local
theorem CompOk.of{X:Cx}{own:List Str}{scope:Scope}(hc:X.calm=X.calm)(hk:scope.kind=.function)(h1:iP scope.names=true)(h2:jf X.env.scope.names scope.names=true)(h3:iU X.N scope.names=true):CompOk X own scope:=by
 unfold iP at h1;unfold jf at h2;unfold iU at h3;rw[zL]at h1 h2 h3;refine⟨fun y hy=>?_,hk,fun y hy hl=>?_,fun y hy hf=>?_,fun y hy=>?_⟩
 ·have:=h1 y hy;rw[zz]at this;exact bne_iff_ne.mp this.1
 ·have:=h1 y hy;rw[zz,hl]at this;simpa using this.2
 ·have:=h2 y hy;rw[hf]at this;simpa using this
 ·exact bne_iff_ne.mp (h3 y hy)
section
variable{X:Cx}{own:List Str}{scope:Scope}{BF:List (Addr×Obj)}{σ:St}{H:Hp}{s:Shared}{fp:List Addr}
theorem CompOk.cells(O:CompOk X own scope)(ok:X.Ok):∀x∈scope.names,x.2=.free→∃c,X.env.cells.lookup x.1=some c:=fun x hx hk=>ok.has x.1 (O.fr x hx hk)
theorem CompOk.sub(O:CompOk X own scope)(ok:X.Ok):∀x c,(a_ X.env scope.names).lookup x=some c→X.env.cells.lookup x=some c:=fun x c e=>
 On scope.names [] (O.cells ok) (fun _ h=>nomatch h) (x,c) (z4 e)
theorem CompOk.free_of(O:CompOk X own scope){cl:List (Str×Addr)}{C:Addr}{x:Str}(h:(compEnvC scope cl C X.env).kindOf x=some .cell∨(compEnvC scope cl C X.env).kindOf x=some .free):scope.names.lookup x=some .free:=by
 have e:(compEnvC scope cl C X.env).kindOf x=(scope.names.lookup x).map fun k=>if (k==NameKind.free && X.env.scope.kind==.function && X.env.kindOf x==some .cell)then NameKind.cell else k:=Wn X.env scope.names x
 rw[e]at h;cases q:scope.names.lookup x with
 |none=>rw[q]at h;simp at h
 |some k=>
  rw[q]at h;by_cases hk:k=.free
  ·rw[hk]
  ·have hc:k≠.cell:=O.cell (x,k) (z4 q);have hb:(k==NameKind.free)=false:=by simpa using hk
   have hr:¬((k==NameKind.free && X.env.scope.kind==.function && X.env.kindOf x==some .cell)=true):=by rw[hb];exact yP
   have h:some (if (k==NameKind.free && X.env.scope.kind==.function && X.env.kindOf x==some .cell)=true then NameKind.cell else k)=some NameKind.cell∨some (if (k==NameKind.free && X.env.scope.kind==.function && X.env.kindOf x==some .cell)=true then NameKind.cell else k)=some NameKind.free:=h;rw[yA hr]at h
   rcases h with h | h
   ·exact absurd (zD h) hc
   ·exact absurd (zD h) hk
theorem CompOk.look(O:CompOk X own scope)(ok:X.Ok){x:Str}(h:scope.names.lookup x=some .free):∃c,(a_ X.env scope.names).lookup x=some c∧X.env.cells.lookup x=some c:=by
 obtain⟨c,hc⟩:=Oo scope.names [] (env:=X.env) x (z4 h);obtain⟨d,hd⟩:=T1 hc;exact⟨d,hd,O.sub ok x d hd⟩
theorem jo(I:Inv X BF σ H s){b:Addr}(h1:b≠X.env.locals)(h2:b∉X.fs):b∉frs X.stack:=fun z=>(yO.mp (I.stkSub b z)).elim h1 h2
theorem pE(O:CompOk X own scope)(I:Inv X BF σ H s)(hf:∀b∈fp,cD X BF H b)(ho:∀b∈fp,∃o,s.heap.get? b=some o){h₁:Heap}{C:Addr}{tk:Nat}{m:Str→Option Value}(hC:s.heap.objs.size<C)(hD:h₁.get? s.heap.objs.size=some (lo [] 0))(old:∀b o,s.heap.get? b=some o→h₁.get? b=some o)(hns:h₁.Ns C m):
  Inv (cxC X own scope (a_ X.env scope.names) C s H fp) (BF++[(s.heap.objs.size,lo [] 0)]) (List.replicate own.length none++σ) H {s with heap:=h₁,toks:=tk}:=by
 have ltD:∀{b:Addr}{o:Obj},s.heap.get? b=some o→b<s.heap.objs.size:=fun e=>yE e;have nC:∀{b:Addr}{o:Obj},s.heap.get? b=some o→b≠C:=fun e=>yN (Aw (ltD e) hC);have hsub:=O.sub I.ok;refine⟨⟨I.ok.mod,by show(relabel scope X.env).kind=_;exact O.kind,I.ok.glob,I.ok.blt,Ah hC,fun x y c h1 h2=>I.ok.inj x y c (hsub x c h1) (hsub y c h2),fun x hx=>?_,fun x c hx _=>absurd (show false=true from hx) yP,I.ok.hd,I.ok.frames,.inl rfl,fun b hb=>⟨?_,fun x c e=>?_⟩,I.bs,zE I.ok.bsz I.sz,fun b o e hb=>?_,fun b hb=>jo I (hf b hb).2.1 (hf b hb).2.2.1,I.stack,I.stkFree⟩,
  rfl,I.bare,Un.kept old,⟨m,hns,fun i x v e1 e2 e3=>?_⟩,fun x c e=>?_,I.hok.fresh (Ah hC),fun x c e=>I.freeC x c (hsub x c e),fun p hp=>?_,I.hok.kept old,?_⟩
 ·obtain⟨c,hc,_⟩:=O.look I.ok (O.free_of hx);exact⟨c,hc⟩
 ·obtain⟨o,e⟩:=ho b hb;exact nC e
 ·exact(hf b hb).2.2.2.2.1 x c (hsub x c e)
 ·rcases(hf b hb).2.2.2.1 with z | z
  ·exact I.ok.noex b o e z
  ·exact absurd (zd (yE e) (zE I.ok.bsz z)) (AH _)
 ·have e1:(own++X.N)[i]?=some x:=e1;by_cases hi:i<own.length
  ·rw[List.getElem?_append_left (by simpa using hi),List.getElem?_replicate,if_pos hi]at e2;cases e2
  ·rw[List.getElem?_append_right (by simpa using hi),List.length_replicate]at e2;rw[List.getElem?_append_right (by simpa using hi)]at e1;have nl:(compEnvC scope (a_ X.env scope.names) C X.env).kindOf x≠some .local:=by
    have e:(compEnvC scope (a_ X.env scope.names) C X.env).kindOf x=(scope.names.lookup x).map fun k=>if (k==NameKind.free && X.env.scope.kind==.function && X.env.kindOf x==some .cell)then NameKind.cell else k:=Wn X.env scope.names x
    rw[e];intro z;cases q:scope.names.lookup x with
    |none=>rw[q]at z;simp at z
    |some k=>
     rw[q]at z;by_cases hk:k=.local
     ·exact O.loc x (yW e1) (by rw[q,hk])
     ·have z:some (if (k==NameKind.free && X.env.scope.kind==.function && X.env.kindOf x==some .cell)=true then NameKind.cell else k)=some NameKind.local:=z;by_cases hc:(k==NameKind.free && X.env.scope.kind==.function && X.env.kindOf x==some .cell)=true
      ·rw[yC hc]at z;cases z
      ·rw[yA hc]at z;exact hk (zD z)
   have hv:(compEnvC scope (a_ X.env scope.names) C X.env).kindOf x=some .cell∨(compEnvC scope (a_ X.env scope.names) C X.env).kindOf x=some .free:=by
    rcases e3 with z | z | z
    ·exact absurd z nl
    ·exact .inl z
    ·exact .inr z
   have hfree:=O.free_of hv;have hout:=O.fr (x,.free) (z4 hfree) rfl;obtain⟨m0,hn0,hl0⟩:=I.loc;obtain⟨u,r,l⟩:=hl0 _ x v e1 e2 (hout.elim (fun z=>.inr (.inl z)) fun z=>.inr (.inr z));refine⟨u,r,.inr ⟨hv,?_⟩⟩
   rcases l with⟨k,_⟩|⟨_,c,ec,z⟩
   ·have k':X.env.scope.names.lookup x=some .local:=k
    rcases hout with q | q
    ·rw[q]at k';cases k'
    ·rw[q]at k';cases k'
   ·obtain⟨d,hd1,hd2⟩:=O.look I.ok hfree;rw[ec]at hd2;cases hd2;obtain⟨oc,hoc,hdc⟩:=z;exact⟨c,hd1,oc,old _ _ hoc,hdc⟩
 ·obtain⟨v,o,hoc,hdc⟩:=I.cell x c (hsub x c e);exact⟨v,o,old _ _ hoc,hdc⟩
 ·have hp:p∈X.pn++(BF++[(s.heap.objs.size,lo [] 0)]):=hp;rw[←AT]at hp
  rcases zk.mp hp with hp | hp
  ·obtain⟨e,n,ne,nf,d⟩:=I.pin p hp;exact⟨old _ _ e,n,nC e,jo I ne nf,d⟩
  ·cases yG.mp hp;refine⟨hD,I.hok.fresh (yB _),yN hC,fun z=>?_,fun v z=>by cases z⟩;have z:=I.stkSub _ z
   rcases yO.mp z with z | z
   ·exact absurd z (zR I.lt)
   ·exact I.nofs (yB _) z
 ·show(List.replicate own.length none++σ).length=(own++X.N).length;rw[yM,yM,List.length_replicate,I.len]
theorem Oi{cl:List (Str×Addr)}{C:Addr}{its:List Value}{n:Nat}{σ':St}{H':Hp}{s':Shared}{ys:List V}{h':Heap}(I:Inv X BF σ H s)(hf:∀b∈fp,cD X BF H b)(hC:s.heap.objs.size<C)(I':Inv (cxC X own scope cl C s H fp) (BF++[(s.heap.objs.size,lo its n)]) σ' H' s')(hv:Vals ys its)(hz:ys.length≤sizeLine)(hs:Heap.SameBut C s'.heap h'):
  Inv X BF σ (upd H' s.heap.objs.size (.lst ys)) {s' with heap:=h'}:=by
 obtain⟨eD,nD,neD,_,_⟩:=I'.pin (s.heap.objs.size,lo its n) (yT _ (yT _ zy));have nC:∀{b:Addr}{o:Obj},s.heap.get? b=some o→b≠C:=fun e=>yN (Aw (yE e) hC);have nDD:∀{b:Addr}{o:Obj},s.heap.get? b=some o→b≠s.heap.objs.size:=fun e=>yN (yE e);have same:∀{b:Addr}{o:Obj},b≠C→s'.heap.get? b=some o→h'.get? b=some o:=fun hb e=>(hs.2 _ hb).trans e;have fC:H' C=none:=I'.free;have hb:Un (frs X.stack) fp H H' s.heap s'.heap:=I'.base;have hot:∀{b:Addr}{u:HO},H b=some u→b≠s.heap.objs.size:=fun e=>yN (I.hok.lt e);refine I.call' (s':={s' with heap:=h'}) (ch:=fp) I'.os ⟨fun b o e q n1 n2=>same (nC e) (hb.keep b o e q n1 n2),fun b o e q n1 n2=>?_,fun b o e q n2=>?_,fun b o e n2=>?_,fun b xs e=>?_,fun b o u e=>?_,fun b ps e=>?_⟩ ?_ I'.bare fun b hb'=>?_
 ·obtain⟨sl,q2⟩:=hb.slot b o e q n1 n2;exact⟨sl,same (nC e) q2⟩
 ·rw[Zc (nDD e)];exact hb.free b o e q n2
 ·obtain⟨o',q2⟩:=hb.there b o e n2;exact⟨o',same (nC e) q2⟩
 ·rw[Zc (hot e)];exact hb.tups b xs e
 ·rw[Zc (hot e)];exact hb.frzs b o u e
 ·obtain⟨more,q2⟩:=hb.tbls b ps e;exact⟨more,by rw[Zc (hot e)];exact q2⟩
 ·intro b u e;by_cases hbD:b=s.heap.objs.size
  ·subst hbD;rw[Z3]at e;cases e;exact⟨hz,its,n,hv,same neD eD⟩
  ·rw[Zc hbD]at e;have nD':∀{c:Addr}{w:HO},H' c=some w→c≠s.heap.objs.size:=fun q z=>by
    rw[z]at q;have z2:H' s.heap.objs.size=none:=nD;rw[z2]at q;cases q
   refine(I'.hok b u e).stay (fun c v hc q=>same ?_ q) (fun c q=>by rw[Zc (nD' q)];exact q) fun c xs q=>by rw[Zc (nD' q)];exact q
   rintro rfl
   rcases hc with z | z
   ·rw[←z,fC]at e;cases e
   ·rw[fC]at z;cases z
 ·obtain⟨_,f1,_,f3,f4,f5⟩:=hf b hb';exact⟨f3,f1,f4,f5⟩
theorem jj{prog:Program}{w:World}{A:Around}{E:Value→Shared→Prop}{s:Shared}{l:Addr}{its:List Value}{n:Nat}{u:Value}{Q:Value→Shared→Prop}(e:s.heap.get? l=some (lo its n))(hz:its.length≤sizeLine)(h:Q .none {s with heap:=s.heap.update l (Obj.mapSeq (·.push u))}):wpAny (model prog w) A (call (.builtin "list.append") [.ref l,u]) Q E s:=
 call_meets F.slot_list_append ⟨_,e,rfl⟩ F.entry_list_append (F.args_list_append_2 _ _) (PySem.list_append l its.toArray n u (by rw[zf];omega)) ⟨e,h⟩
theorem Oj{tg iter elt:Expr}{ifs:List Expr}{pos pos0:Pos}{wi:TI}{g:TG}{tt:TT}{te:TE}{use:Option (Value→Sem Unit)}{Qp:Value→Shared→Prop}{Pc:Cx→Prop}(hpc:∀cl C s H fp,Pc (cxC X own scope cl C s H fp))(O:CompOk X own scope)(hi:PIP Pc X tg iter wi)(hg:∀cl C s H fp,PG (cxC X own scope cl C s H fp) tg g)(ht:∀cl C s H fp,PTs (cxC X own scope cl C s H fp) ifs tt)(he:∀cl C s H fp,PE (cxC X own scope cl C s H fp) elt te)(hs:∀x,foldedSetIterable iter X.env x=pure x){BF:List (Addr×Obj)}{s:Shared}{σ:St}{H:Hp}{Q:VK}(I:Inv X BF σ H s)(h:gx wi g tt te own.length σ H Q)(fin:∀(s2:Shared) (H2:Hp) (fp:List Addr) (C:Addr) (cl:List (Str×Addr)) (its:List Value) (nn:Nat) (σ':St) (H':Hp) (s5:Shared) (ys:List V),Inv X BF σ H2 s2→(∀b∈fp,cD X BF H2 b)→s2.heap.objs.size<C→
   Inv (cxC X own scope cl C s2 H2 fp) (BF++[(s2.heap.objs.size,lo its nn)]) σ' H' s5→Vals ys its→ys.length≤sizeLine→(∀p,H' p=none→Q (.ref p) (upd H' p (.lst ys)))→
   compPost (model X.prog X.w) X.A X.xe use Qp (.ref s2.heap.objs.size) C (.ok .next) s5):
  wpAny (model X.prog X.w) X.A (comprehension (.ListComp elt [⟨tg,iter,ifs,0⟩] scope pos) scope X.env pos0 (newList []) false (eval iter X.env) use) Qp X.xe s:=by
 refine wpAny_comprehension_free (use:=use) rfl hs (Pk (O.cells I.ok)) O.kind O.names (thn (hi BF s σ H _ I h) fun v s1 h1=>thn h1 fun itv s2 h2=>?_);obtain⟨it,fp,tn,J,H2,rfl,I2,T,st2,f2,W,⟨m0,w0⟩,turn⟩:=h2;refine wpAny_newObj_type (wpAny_newFunctionEnv O.cell (by intro y hy;simp at hy) (fun h₁ hns₁ hsb₁=>?_) O.kind);dsimp only at hns₁ hsb₁ ⊢;generalize hH2:s2.heap.push {cls:=.type "list",dict:=none,data:=.seq ([]:List Value).toArray}=Hh at hns₁ hsb₁ ⊢;have hCs:Hh.objs.size=s2.heap.objs.size+1:=by rw[←hH2,A1]
 have hC:s2.heap.objs.size<Hh.objs.size:=by rw[hCs];exact Bl _
 have old:∀b o,s2.heap.get? b=some o→h₁.get? b=some o:=fun b o e=>hsb₁.extBut b o (yN (Aw (yE e) hC)) (yy _ (hH2 ▸ yy _ e));have hacc:h₁.get? s2.heap.objs.size=some (lo [] 0):=hsb₁.extBut _ _ (yN hC) (yy _ (hH2 ▸ yH _ rfl));have hob:∀b∈fp,∃o,s2.heap.get? b=some o:=fun b hb=>let ⟨o,e,_⟩:=T.obj _ _ st2 b hb;⟨o,e⟩
 have st3:tn 0 h₁:=T.keep _ _ _ st2 fun b _ o e=>old b o e;have pinlt:∀p∈X.pn++BF,p.1<s2.heap.objs.size:=fun p hp=>yE (I2.pin p hp).1;have loop:∀s₃:Shared,s₃={s2 with heap:=h₁,toks:=s2.toks+([]:List (Str×Value)).length}→
   codeAny (model X.prog X.w) X.A (.compLoop (.ListComp elt [⟨tg,iter,ifs,0⟩] scope pos) 0 (.ref it) (.ref s2.heap.objs.size) (compEnvC scope (a_ X.env scope.names) Hh.objs.size X.env))
    (compPost (model X.prog X.w) X.A X.xe use Qp (.ref s2.heap.objs.size) Hh.objs.size) s₃:=by
  rintro s₃ rfl;have I3:=pE (tk:=s2.toks+([]:List (Str×Value)).length) O I2 f2 hob hC hacc old hns₁;have stat:∀{o:Obj}{H':Hp},(∀b∈fp,H' b=none)→∀b∈fp,cD (cxC X own scope (a_ X.env scope.names) Hh.objs.size s2 H2 fp) (BF++[(s2.heap.objs.size,o)]) H' b:=fun{o H'} hn b hb=>by
   obtain⟨o',eo⟩:=hob b hb;refine⟨hn b hb,yN (Aw (yE eo) hC),jo I2 (f2 b hb).2.1 (f2 b hb).2.2.1,.inl hb,fun x c e=>(f2 b hb).2.2.2.2.1 x c (O.sub I2.ok x c e),fun p hp=>?_⟩;have hp:p∈X.pn++(BF++[(s2.heap.objs.size,o)]):=hp;rw[←AT]at hp
   rcases zk.mp hp with hp | hp
   ·exact(f2 b hb).2.2.2.2.2 p hp
   ·cases yG.mp hp;exact zR (yE eo)
  refine gB (fun n s'=>∃i ys its nn σ' H',Inv (cxC X own scope (a_ X.env scope.names) Hh.objs.size s2 H2 fp) (BF++[(s2.heap.objs.size,lo its nn)]) σ' H' s'∧Wk σ' (List.replicate own.length none++σ)∧tn i s'.heap∧(∀b∈fp,H' b=none)∧Vals ys its∧W i n ys H')
   ?_ m0 ⟨0,[],[],0,_,H2,I3,Wk.refl _,st3,fun b hb=>(f2 b hb).1,.nil,w0⟩
  rintro n s4 ⟨i,ys,its,nn,σ4,H4,I4',wk4,st4,fr4,vs4,w4⟩;have I4:=I4'.weak (σ':=List.replicate own.length none++σ) wk4.len (fun i v=>wk4.get i v)
  rcases turn i n ys H4 w4 with⟨stop,hz,qn⟩|⟨go,hz,step⟩
  ·refine thn (T.done (cxC X own scope (a_ X.env scope.names) Hh.objs.size s2 H2 fp) rfl rfl rfl (hpc _ _ _ _ _) i _ s4 _ H4 (fun _ _=>False) I4 (stat fr4) st4 stop) fun r s5 BG=>?_;obtain⟨hr,I5⟩:=BG;subst hr;exact fin s2 H2 fp Hh.objs.size _ its nn _ H4 s5 ys I2 f2 hC I5 vs4 hz qn
  ·refine thn (T.item (cxC X own scope (a_ X.env scope.names) Hh.objs.size s2 H2 fp) rfl rfl rfl (hpc _ _ _ _ _) i _ s4 _ H4 (fun _ _=>False) I4 (stat fr4) st4 go) fun r s5 BG=>?_;obtain⟨u,hr,h5⟩:=BG;subst hr;refine thn h5 fun _ s6 BG=>?_;obtain⟨x,H6,I6,r6,y6,st6,fr6⟩:=BG;have I6':=I6.pinned (stat fr6) (T.obj _ _ st6);refine thn (hg _ _ _ _ _ _ s6 _ H6 x u _ I6' r6 (step x H6 y6)) fun _ s7 BG=>?_;obtain⟨σ7,H7,I7,wk7,q7⟩:=BG;refine thn (ht _ _ _ _ _ _ s7 σ7 H7 _ I7 q7) fun ok s8 BG=>?_;obtain⟨H8,I8,q8⟩:=BG;have again:∀{σ9:St}{H9:Hp}{s9:Shared},Inv (cxC X own scope (a_ X.env scope.names) Hh.objs.size s2 H2 fp) ((BF++[(s2.heap.objs.size,lo its nn)])++c8 fp s6.heap) σ9 H9 s9→tn (i+1) s9.heap∧∀b∈fp,H9 b=none:=fun{σ9 H9 s9} I9=>
    ⟨T.keep _ _ _ st6 fun b hb o e=>(I9.pin (b,o) (yT _ (yT _ (Vs hb e)))).1,fun b hb=>by
     obtain⟨o,e,d⟩:=T.obj _ _ st6 b hb;exact(I9.pin (b,o) (yT _ (yT _ (Vs hb e)))).2.1⟩
   cases ok with
   |false=>
    rw[yA yP]at q8⊢;obtain⟨m',hm,w8⟩:=q8;obtain⟨a1,a2⟩:=again I8;exact⟨m',hm,i+1,ys,its,nn,σ7,H8,I8.unpinned,wk7,a1,a2,vs4,w8⟩
   |true=>
    rw[yC rfl]at q8⊢;refine thn (he _ _ _ _ _ _ s8 σ7 H8 _ I8 q8) fun yv s9 BG=>?_;obtain⟨y,H9,I9,r9,m',hm,w9⟩:=BG;obtain⟨a1,a2⟩:=again I9;obtain⟨eD,nD,neD,nfD,_⟩:=I9.pin (s2.heap.objs.size,lo its nn) (yT _ (Ab _ (yT _ zy)));have BV:=vs4.length;refine jj eD (by omega) ?_;have upd9:=PySem.IsL.update (l:=s2.heap.objs.size) eD (·.push yv);have uother:∀b o,b≠s2.heap.objs.size→s9.heap.get? b=some o→(s9.heap.update s2.heap.objs.size (Obj.mapSeq (·.push yv))).get? b=some o:=fun b o hb e=>(zS s9.heap (Obj.mapSeq (·.push yv)) (Ne.symm hb)).trans e;have I9a:Inv (cxC X own scope (a_ X.env scope.names) Hh.objs.size s2 H2 fp) BF σ7 H9 s9:=I9.unpinned.unpinned;have I9b:Inv (cxC X own scope (a_ X.env scope.names) Hh.objs.size s2 H2 fp) BF σ7 H9 {s9 with heap:=s9.heap.update s2.heap.objs.size (Obj.mapSeq (·.push yv))}:=
     I9a.turned (t':=s9.toks) uother nD neD (.inr (yB _)) (fun x c e z=>by
      obtain⟨v,o,hoc,_⟩:=I2.cell x c (O.sub I2.ok x c e);exact absurd z (yN (yE hoc))) fun p hp=>yN (pinlt p hp)
    have e2:(its.toArray.push yv)=(its++[yv]).toArray:=by simp
    have upd9':∃n2,(s9.heap.update s2.heap.objs.size (Obj.mapSeq (·.push yv))).get? s2.heap.objs.size=some (lo (its++[yv]) n2):=⟨_,by rw[upd9,e2]⟩;obtain⟨n2,upd9'⟩:=upd9';have I9c:=I9b.pins_of (pins':=BF++[(s2.heap.objs.size,lo (its++[yv]) n2)]) fun p hp=>by
     rcases zk.mp hp with hp | hp
     ·exact I9b.pin p (yT _ hp)
     ·cases yG.mp hp;exact⟨upd9',nD,neD,nfD,fun v z=>by cases z⟩
    refine⟨m',hm,i+1,ys++[y],its++[yv],n2,σ7,H9,I9c,wk7,T.keep _ _ _ a1 fun b hb o e=>uother b o ?_ e,a2,vs4.append (.cons r9 .nil),w9⟩;obtain⟨o',eo⟩:=hob b hb;exact yN (yE eo)
 exact codeAny_compStart_list (loop _ rfl) (T.self _ 0 _ _ _ st3 (loop _ rfl))
theorem pe_compP{Pc:Cx→Prop}{tg iter elt:Expr}{ifs:List Expr}{pos:Pos}{wi:TI}{g:TG}{tt:TT}{te:TE}(hpc:∀cl C s H fp,Pc (cxC X own scope cl C s H fp))(O:CompOk X own scope)(hi:PIP Pc X tg iter wi)(hg:∀cl C s H fp,PG (cxC X own scope cl C s H fp) tg g)(ht:∀cl C s H fp,PTs (cxC X own scope cl C s H fp) ifs tt)(he:∀cl C s H fp,PE (cxC X own scope cl C s H fp) elt te)(hs:∀x,foldedSetIterable iter X.env x=pure x:=by intro _;rfl):
  PE X (.ListComp elt [⟨tg,iter,ifs,0⟩] scope pos) (gx wi g tt te own.length):=by
 intro BF s σ H Q I h;rw[eval_ListComp];refine Oj hpc O hi hg ht he hs I h fun s2 H2 fp C cl its nn σ' H' s5 ys I2 f2 hC I5 vs hz qn=>?_;obtain⟨mm,hnm,_⟩:=I5.loc;exact⟨mm,hnm,fun h' hs'=>⟨.ref s2.heap.objs.size,_,Oi I2 f2 hC I5 vs hz hs',rfl,qn _ (I5.pin (s2.heap.objs.size,lo its nn) (yT _ (yT _ zy))).2.1⟩⟩
theorem Ym{tg iter elt:Expr}{ifs:List Expr}{pos:Pos}{wi:TI}{g:TG}{tt:TT}{te:TE}(O:CompOk X own scope)(hi:PI X tg iter wi)(hg:∀cl C s H fp,PG (cxC X own scope cl C s H fp) tg g)(ht:∀cl C s H fp,PTs (cxC X own scope cl C s H fp) ifs tt)(he:∀cl C s H fp,PE (cxC X own scope cl C s H fp) elt te)(hs:∀x,foldedSetIterable iter X.env x=pure x:=by intro _;rfl)(hc:X.calm=true:=by rfl):
  PE X (.ListComp elt [⟨tg,iter,ifs,0⟩] scope pos) (gx wi g tt te own.length):=
 pe_compP (Pc:=fun X=>X.calm=true) (fun _ _ _ _ _=>hc) O hi.p hg ht he hs
theorem ps_setCP{Pc:Cx→Prop}{i:Nat}{x:Str}{tg iter elt:Expr}{ifs:List Expr}{pos pos' cpos:Pos}{wi:TI}{g:TG}{tt:TT}{te:TE}(hN:X.N.Nodup)(hix:X.N[i]?=some x)(hl:X.env.scope.names.lookup x=some .local)(hpc:∀cl C s H fp,Pc (cxC X own scope cl C s H fp))(O:CompOk X own scope)(hi:PIP Pc X tg iter wi)(hg:∀cl C s H fp,PG (cxC X own scope cl C s H fp) tg g)(ht:∀cl C s H fp,PTs (cxC X own scope cl C s H fp) ifs tt)(he:∀cl C s H fp,PE (cxC X own scope cl C s H fp) elt te)(hs:∀x,foldedSetIterable iter X.env x=pure x:=by intro _;rfl)(hsw:swapsWith (.ListComp elt [⟨tg,iter,ifs,0⟩] scope cpos) (some (.Name x pos')) pos.line X.env=pure true:=by rfl):
  PS X (.Assign [.Name x pos'] (.ListComp elt [⟨tg,iter,ifs,0⟩] scope cpos) pos) (o_ (gx wi g tt te own.length) (fI i)):=by
 intro BF s σ H D I h;rw[exec_Assign_Name_used _ _ _ _ hsw];refine io (wpAny_standAt (io (m:=evalThenUse _ X.env _) ?_));show wpAny _ _ (comprehension (.ListComp elt [⟨tg,iter,ifs,0⟩] scope cpos) scope X.env _ (newList []) false (eval iter X.env) (some (assign (.Name x pos') X.env)) >>= fun _=>_) _ _ s;refine io (thn (Oj (Qp:=fun _ s'=>SP X BF D .next s') hpc O hi hg ht he hs I h fun s2 H2 fp C cl its nn σ' H' s5 ys I2 f2 hC I5 vs hz qn=>?_) fun _ s' hq=>yx (yx hq));have Ix:Inv X BF σ (upd H' s2.heap.objs.size (.lst ys)) s5:=Oi I2 f2 hC I5 vs hz (Heap.SameBut.refl _ _);obtain⟨mm,hnm,_⟩:=I5.loc;have fC:H' C=none:=I5.free;have nCD:C≠s2.heap.objs.size:=zR hC;refine wpAny_assign_Name (Px (v:=.ref s2.heap.objs.size) Ix hN hix (.inl hl) rfl (fun s6 I6 sb=>?_) (.inr hl));obtain⟨a,sb,ha⟩:=sb;have nLC:X.env.locals≠C:=yN (Aw I2.lt hC);have cC:∀y c,X.env.cells.lookup y=some c→c≠C:=fun y c e=>by
  obtain⟨v,o,ho,_⟩:=I2.cell y c e;exact yN (Aw (yE ho) hC)
 have naC:C≠a:=by
  rcases ha with rfl | ha
  ·exact Ne.symm nLC
  ·exact Ne.symm (cC x a ha)
 refine⟨mm,hnm.sameBut sb naC,fun h' hs'=>⟨_,_,I6.turned (t':=s6.toks) (fun b o hb e=>(hs'.2 b hb).trans e) (by rw[Zc nCD];exact fC) (Ne.symm nLC) (.inr (zE I2.sz (Ah hC))) cC (fun p hp=>yN (Aw (yE (I2.pin p hp).1) hC)),qn _ (I5.pin (s2.heap.objs.size,lo its nn) (yT _ (yT _ zy))).2.1⟩⟩
theorem Vo{i:Nat}{x:Str}{tg iter elt:Expr}{ifs:List Expr}{pos pos' cpos:Pos}{wi:TI}{g:TG}{tt:TT}{te:TE}(hN:X.N.Nodup)(hix:X.N[i]?=some x)(hl:X.env.scope.names.lookup x=some .local)(O:CompOk X own scope)(hi:PI X tg iter wi)(hg:∀cl C s H fp,PG (cxC X own scope cl C s H fp) tg g)(ht:∀cl C s H fp,PTs (cxC X own scope cl C s H fp) ifs tt)(he:∀cl C s H fp,PE (cxC X own scope cl C s H fp) elt te)(hs:∀x,foldedSetIterable iter X.env x=pure x:=by intro _;rfl)(hsw:swapsWith (.ListComp elt [⟨tg,iter,ifs,0⟩] scope cpos) (some (.Name x pos')) pos.line X.env=pure true:=by rfl)(hc:X.calm=true:=by rfl):
  PS X (.Assign [.Name x pos'] (.ListComp elt [⟨tg,iter,ifs,0⟩] scope cpos) pos) (o_ (gx wi g tt te own.length) (fI i)):=
 ps_setCP (Pc:=fun X=>X.calm=true) hN hix hl (fun _ _ _ _ _=>hc) O hi.p hg ht he hs hsw
end
section
variable{X:Cx}{pos:Pos}
theorem Xd(K:W.Frag)(n:Nat){es:List Expr}{k:Nat}{t:TGs}(hK:X.K=K)(hc:X.calm=true)(h:PGs X es t)(hn:(assignEach es X.env).length=n:=by rfl)(hst:(assignEach es X.env).findIdx? (·.1)=none:=by rfl):PG X (.Tuple es k pos) (xp K n t):=by
 subst hK;exact W8 hc h hn hst
theorem Tz(K:W.Frag)(hK:X.K=K):IxR X (xk K):=by subst hK;exact Y9
end
mutual
inductive DV(H:Hp):V→PyData→Prop
 |non:DV H .non .none
 |bl (b:Bool):DV H (.bl b) (.bool b)
 |int (i:Int):DV H (.int i) (.int i)
 |str (x:Str):DV H (.str x) (.str x)
 |lst {a:Addr} {xs:List V} {ds:List PyData}:H a=some (.lst xs)→DVs H xs ds→DV H (.ref a) (.list ds)
 |tup {a:Addr} {xs:List V} {ds:List PyData}:H a=some (.tup xs)→DVs H xs ds→DV H (.ref a) (.tuple ds)
inductive DVs(H:Hp):List V→List PyData→Prop
 |nil:DVs H [] []
 |cons {v:V} {vs:List V} {d:PyData} {ds:List PyData}:DV H v d→DVs H vs ds→DVs H (v::vs) (d::ds)
end
mutual
theorem DV.mono{H H':Hp}(g:Same H H'):∀{v:V}{d:PyData},DV H v d→DV H' v d
 |_,_,.non=>.non
 |_,_,.bl b=>.bl b
 |_,_,.int i=>.int i
 |_,_,.str x=>.str x
 |_,_,.lst e r=>.lst (g _ _ e) (DVs.mono g r)
 |_,_,.tup e r=>.tup (g _ _ e) (DVs.mono g r)
theorem DVs.mono{H H':Hp}(g:Same H H'):∀{vs:List V}{ds:List PyData},DVs H vs ds→DVs H' vs ds
 |_,_,.nil=>.nil
 |_,_,.cons h r=>.cons (DV.mono g h) (DVs.mono g r)
end
theorem DVs.length{H:Hp}:∀{vs:List V}{ds:List PyData},DVs H vs ds→vs.length=ds.length
 |_,_,.nil=>rfl
 |_,_,.cons _ r=>zW (·+1) r.length
theorem DVs.getV{H:Hp}:∀{vs:List V}{ds:List PyData}{i:Nat}{v:V},DVs H vs ds→vs[i]?=some v→∃d,ds[i]?=some d∧DV H v d
 |_,_,_,_,.nil,e=>by simp at e
 |_,_,0,_,.cons h _,e=>by simp at e;subst e;exact⟨_,rfl,h⟩
 |_,_,i+1,d,.cons _ r,e=>by
  obtain⟨v,h1,h2⟩:=DVs.getV (i:=i) (v:=d) r (by simpa using e);exact⟨v,by simpa using h1,h2⟩
section
variable{X:Cx}{BF:List (Addr×Obj)}{σ:St}{H:Hp}{s:Shared}
mutual
theorem DV.reads(I:Inv X BF σ H s):∀{v:V}{d:PyData}{u:Value},DV H v d→RelV v u→∃as,Reads s.heap u d as
 |_,_,_,.non,r=>by cases r;exact⟨_,Reads.none⟩
 |_,_,_,.bl b,r=>by cases r;exact⟨_,Reads.bool b⟩
 |_,_,_,.int i,r=>by obtain⟨t,rfl⟩:=r;exact⟨_,Reads.int i t⟩
 |_,_,_,.str x,r=>by obtain⟨t,rfl⟩:=r;exact⟨_,Reads.str x t⟩
 |_,_,_,.lst e q,r=>by
  cases r;obtain⟨its,n,rv,ho,_⟩:=I.lst e;obtain⟨as,p⟩:=DVs.reads I q rv;exact⟨_,reads_list_at ho rfl rfl (by simpa using p)⟩
 |_,_,_,.tup e q,r=>by
  cases r;obtain⟨its,rv,⟨o,ho,hc,n,hd⟩,_⟩:=I.tuple (SqT.of e);obtain⟨as,p⟩:=DVs.reads I q rv;exact⟨_,reads_tuple_at ho hc hd (by simpa using p)⟩
theorem DVs.reads(I:Inv X BF σ H s):∀{vs:List V}{ds:List PyData}{us:List Value},DVs H vs ds→Vals vs us→∃as,ReadsAll s.heap us ds as
 |_,_,_,.nil,r=>by cases r;exact⟨_,ReadsAll.nil⟩
 |_,_,_,.cons h t,r=>by
  cases r with
  |cons r1 r2=>
   obtain⟨as,p⟩:=DV.reads I h r1;obtain⟨bs,q⟩:=DVs.reads I t r2;exact⟨_,ReadsAll.cons p q⟩
end
end
def rNeD:R2:=fun x y H Q=>∃d e,DV H x d∧DV H y e∧SeqAt.shaped d=true∧SeqAt.shaped e=true∧Q (.bl (!PyData.eqv d e)) H
section
variable{X:Cx}
theorem Ua(hu:X.A.units+64<cLine):OpR X (compareOp .NotEq) rNeD:=by
 intro BF s σ H x y v u Q I rx ry h;obtain⟨d,e,h1,h2,s1,s2,q⟩:=h;obtain⟨as,p1⟩:=h1.reads I rx;obtain⟨bs,p2⟩:=h2.reads I ry;exact ne_dataH p1 p2 s1 s2 hu ⟨.bl _,H,I,rfl,q⟩
def rIs(K:W.Frag):List V→Hp→VK→Prop:=fun xs H Q=>∃x t T b,xs=[x,.ty T]∧TyOf K H x t∧W.kitOne K t (.type T)=some b∧Q (.bl b) H
theorem Wy:aL X (.builtin "isinstance") (rIs X.K):=by
 intro BF s σ H xs us Q I r h;obtain⟨x,t,T,b,rfl,ty,e,q⟩:=h;obtain⟨u,w',rfl,ru,rt⟩:=jK r;cases (show w'=Value.type T from rt);exact lw I ru ty e fun tk=>⟨.bl b,H,I.tok _,rfl,q⟩
theorem gj(K:W.Frag)(hK:X.K=K):aL X (.builtin "isinstance") (rIs K):=by subst hK;exact Wy
end
structure Has(P:Program)(w:World)(K:W.Frag)(mg:Str→Option Value)(base:Heap)(x:Str)(k:Nat)(ps:List Str)(sp:Sp):Prop where
 ex:∃f fd,FnOk P w K mg base CX0 k f fd ps sp∧Binds K fd ps []∧W.keepIn K (.ref f)=true∧mg x=some (.ref f)
section
variable{X:Cx}{j k:Nat}{ps:List Str}{sp:Sp}{x:Str}{p pos:Pos}{e:Expr}{es:List Expr}{t:TA}
theorem Z6(h:Has X.prog X.w X.K X.mg X.base x j ps sp)(hr:Room k X.A)(ha:PA X (e::es) t)(hg:Gl X x:=by rfl)(hj:j≤k:=by first | decide | omega)(hdb:(x==("__debug__":Str))=false:=by decide)(he:starEach (e::es) X.env=(false,eval e X.env)::starEach es X.env:=by rfl)(hpl:(backTo pos (starEach es X.env)).any (·.1)=false:=by rfl):
  PE X (.Call (.Name x p) (e::es) [] pos) (uq sp [] E0 t):=by
 intro BF s σ H Q I q;obtain⟨f,fd,F,b,kp,m⟩:=h.ex;refine sQ (CX:=CX0) (E:=E0) (dvs:=[]) (F.mono hj) hr hg m kp b .nil ?_ ha hdb he hpl BF s σ H Q I q;exact fun _ _ _ _ _ _ _ z=>z.elim
end
def aw(a:Addr)(H:Hp):Hp:=fun b=>if b=a then none else H b
theorem Zj{a b:Addr}{H:Hp}(h:b≠a):aw a H b=H b:=by unfold aw;rw[yA h]
theorem Za{a b:Addr}{H:Hp}{o:HO}(h:aw a H b=some o):b≠a∧H b=some o:=by
 unfold aw at h;by_cases e:b=a
 ·rw[yC e]at h;cases h
 ·rw[yA e]at h;exact⟨e,h⟩
theorem Zv{a:Addr}{H:Hp}:Same (aw a H) H:=fun _ _ h=>(Za h).2
theorem Z5{H:Hp}{p:Addr}(h:H p=none)(o:HO):Same H (upd H p o):=fun b u q=>by rw[Zc (Zk q h)];exact q
abbrev Grw(a:Addr)(H H':Hp):Prop:=Same (aw a H) (aw a H')
theorem Ud{a:Addr}{H H':Hp}{o:HO}(ha:H a=some o)(g:Same H H'):Grw a H H':=fun b u q=>by
 obtain⟨h1,h2⟩:=Za q;rw[Zj h1];exact g b u h2
theorem X8{a:Addr}{H:Hp}{o:HO}:Grw a H (upd H a o):=fun b u q=>by
 obtain⟨h1,h2⟩:=Za q;rw[Zj h1,Zc h1];exact h2
theorem n9{a p:Addr}{H:Hp}{o:HO}(h:H p=none):Grw a H (upd H p o):=fun b u q=>by
 obtain⟨h1,h2⟩:=Za q;rw[Zj h1,Zc (Zk h2 h)];exact h2
theorem Vp{j:Int}(h:decide (0<j)=true):0<j:=yJ h
theorem ltI{i j:Int}(h:decide (i<j)=true):i<j:=yJ h
theorem leI{i j:Int}(h:decide (i≤j)=true):i≤j:=yJ h
theorem leN{i j:Nat}(h:decide (i≤j)=true):i≤j:=yJ h
theorem uv{i j:Int}(h1:decide (0<j)=true)(h2:decide (j<1073741824)=true):wL i j:=⟨yJ h1,yJ h2⟩
theorem lM{i j:Int}(h1:decide (0≤j)=true)(h2:decide (j≤1000000)=true)(h3:decide (i.natAbs<2^64)=true):vS i j:=⟨yJ h1,yJ h2,yJ h3⟩
theorem mP{i j:Int}(h1:decide (-(2^64)<i)=true)(h2:decide (i<2^64)=true):CMul i j:=Or.inl ⟨yJ h1,yJ h2⟩
theorem mulR{i j:Int}(h1:decide (-(2^64)<j)=true)(h2:decide (j<2^64)=true):CMul i j:=Or.inr ⟨yJ h1,yJ h2⟩
theorem xU(x m y:Int)(h0:decide (0<m)=true)(h1:decide (m<4294967296)=true):CMul (x % m) y:=by
 have h0:=yJ h0;have h1:=yJ h1;exact Or.inl ⟨by have:=AQ x (show m≠0 by omega);omega,by have:=As x h0;omega⟩
theorem wY(a b c:V):atI [a,b,c] 0=some a:=rfl
theorem ub(a b c:V):atI [a,b,c] 1=some b:=rfl
theorem kF(a b c:V):atI [a,b,c] 2=some c:=rfl
theorem oE{α:Type}{xs:List α}{i:Int}(h0:0≤i)(h1:i<xs.length):∃v,atI xs i=some v∧v∈xs:=by
 have hi:i.toNat<xs.length:=by omega
 have e:((i.toNat:Nat):Int)=i:=by omega
 refine⟨xs[i.toNat],?_,List.getElem_mem hi⟩;have q:=Rl (xs:=xs) (j:=i.toNat) (v:=xs[i.toNat]) (y3 hi);rw[e]at q;exact q
theorem Zf{n:Nat}(h:n≤1000000):n≤sizeLine:=zE h (by decide)
theorem Zh{n:Nat}(h:n<1000000):n<sizeLine:=zd h (by decide)
theorem i6{lo:Int}{n k:Nat}{g:TG}{tt:TT}{te:TE}{σ:St}{H:Hp}{Q:VK}(Pv:Nat→List V→Hp→Prop)(h0:Pv 0 [] H)(hs:∀i ys H (C:List V→Hp→Prop),i<n→Pv i ys H→(∀ys' H',Pv (i+1) ys' H'→C ys' H')→ys.length<sizeLine∧g (.int (lo+i)) (List.replicate k none++σ) H fun σ2 H2=>Wk σ2 (List.replicate k none++σ)∧tt σ2 H2 fun ok H3=>
   if ok=true then te σ2 H3 fun y H4=>C (ys++[y]) H4 else C ys H3)(hd:∀ys H,Pv n ys H→ys.length≤sizeLine∧∀p,H p=none→Q (.ref p) (upd H p (.lst ys))):
  CompR (Itr lo n) H k g tt te σ Q:=by
 refine⟨fun i m ys H=>m=n-i∧i≤n∧Pv i ys H,⟨n,by simp,Nat.zero_le _,h0⟩,?_⟩;rintro i m ys H ⟨rfl,hi,p⟩;by_cases BL:i<n
 ·have q:=hs i ys H (fun ys' H'=>∃m',m'<n-i∧m'=n-(i+1)∧i+1≤n∧Pv (i+1) ys' H') BL p fun ys' H' p'=>⟨_,by omega,rfl,BL,p'⟩;refine .inr ⟨BL,q.1,fun x H' y=>?_⟩;obtain⟨e,y⟩:=y;subst e y;exact q.2
 ·have e:i=n:=by omega
  subst e;exact .inl ⟨yB _,hd ys H p⟩
theorem Y6{K:W.Frag}{a:Addr}{xs:List V}{k:Nat}{g:TG}{tt:TT}{te:TE}{σ:St}{H:Hp}{Q:VK}(Pv:Nat→List V→Hp→Prop)(h0:Pv 0 [] H)(hl:∀i ys H,i≤xs.length→Pv i ys H→SqL K H a xs)(hs:∀i x ys H (C:List V→Hp→Prop),xs[i]?=some x→Pv i ys H→(∀ys' H',Pv (i+1) ys' H'→C ys' H')→ys.length<sizeLine∧g x (List.replicate k none++σ) H fun σ2 H2=>Wk σ2 (List.replicate k none++σ)∧tt σ2 H2 fun ok H3=>
   if ok=true then te σ2 H3 fun y H4=>C (ys++[y]) H4 else C ys H3)(hd:∀ys H,Pv xs.length ys H→ys.length≤sizeLine∧∀p,H p=none→Q (.ref p) (upd H p (.lst ys))):
  CompR (Itl K a) H k g tt te σ Q:=by
 refine⟨fun i m ys H=>m=xs.length-i∧i≤xs.length∧Pv i ys H,⟨xs.length,by simp,Nat.zero_le _,h0⟩,?_⟩;rintro i m ys H ⟨rfl,hi,p⟩;have q:=hl i ys H hi p;by_cases BL:i<xs.length
 ·have r:=hs i xs[i] ys H (fun ys' H'=>∃m',m'<xs.length-i∧m'=xs.length-(i+1)∧i+1≤xs.length∧Pv (i+1) ys' H') (by simp[BL]) p fun ys' H' p'=>⟨_,by omega,rfl,BL,p'⟩;refine .inr ⟨⟨xs,xs[i],q,by simp[BL]⟩,r.1,fun x H' y=>?_⟩;obtain⟨e,y⟩:=y;subst e;have ex:xs[i]?=some x:=y xs q;have ex2:xs[i]=x:=by simpa [BL] using ex
  rw[←ex2];exact r.2
 ·have e:i=xs.length:=by omega
  subst e;exact .inl ⟨⟨xs,q,yB _⟩,hd ys H p⟩
structure Th where
 day:Int
 word:Str
 num:Int
 many:Int
def Th.D(t:Th):PyData:=.tuple [.int t.day,.str t.word,.int t.num,.int t.many]
def Th.vs(t:Th):List V:=[.int t.day,.str t.word,.int t.num,.int t.many]
theorem Th.dv{H:Hp}{r:Addr}{t:Th}(h:H r=some (.tup t.vs)):DV H (.ref r) t.D:=.tup h (.cons (.int _) (.cons (.str _) (.cons (.int _) (.cons (.int _) .nil))))
inductive Tr where
 |leaf (ts:List Th)
 |node (l r:Tr)
abbrev aX(ts:List Th):PyData:=.list (ts.map Th.D)
def Tr.D:Tr→PyData
 |.leaf ts=>aX ts
 |.node l r=>.tuple [.str "merged",l.D,r.D]
def Tr.streams:Tr→List (List Th)
 |.leaf ts=>[ts]
 |.node l r=>l.streams++r.streams
def Tr.size:Tr→Nat
 |.leaf _=>1
 |.node l r=>l.size+r.size+1
def Tr.ht:Tr→Nat
 |.leaf _=>0
 |.node l r=>max l.ht r.ht+1
def Tr.all:Tr→List Th
 |.leaf ts=>ts
 |.node l r=>l.all++r.all
theorem j9{α:Type}{f:α→PyData}{n:Nat}:∀(xs:List α),(∀x∈xs,(f x).canLay0=true∧(f x).depth≤n)→PyData.canLayAll0 (xs.map f)=true∧PyData.depthAll (xs.map f)≤n
 | [],_=>by simp[PyData.canLayAll0,PyData.depthAll]
 |x::xs,h=>by
  have h1:=h x zy;have h2:=j9 xs fun y hy=>h y (zC _ hy);rw[yD,PyData.canLayAll0,PyData.depthAll,h1.1,h2.1];exact⟨rfl,Nat.max_le.mpr ⟨h1.2,h2.2⟩⟩
theorem gR{α:Type}{f:α→PyData}{n:Nat}(xs:List α)(h:∀x∈xs,(f x).canLay0=true∧(f x).depth≤n):(PyData.list (xs.map f)).canLay0=true∧(PyData.list (xs.map f)).depth≤n+1:=by
 have q:=j9 xs h;rw[PyData.canLay0,PyData.depth];exact⟨q.1,Nat.succ_le_succ q.2⟩
theorem Y3{d:PyData}{n:Nat}(h:d.canLay0=true∧d.depth≤n)(hn:n≤64):SeqAt.shaped d=true:=by
 unfold SeqAt.shaped;rw[h.1,Bool.true_and];exact yF (zE h.2 hn)
theorem Vf{d:PyData}{n:Nat}(h:d.canLay0=true∧d.depth≤n):PyData.eqv d d=true:=SeqAt.eqv_refl d h.1
theorem kW(ds:List PyData):PyData.eqv (.list ds) (.list [])=ds.isEmpty:=by
 cases ds <;> simp[PyData.eqv,PyData.eqvAll]
theorem DV.list_inv{H:Hp}{v:V}{ds:List PyData}(h:DV H v (.list ds)):∃a xs,v=.ref a∧H a=some (.lst xs)∧DVs H xs ds:=by
 cases h with
 |lst e r=>exact⟨_,_,rfl,e,r⟩
theorem DV.tup_inv{H:Hp}{v:V}{ds:List PyData}(h:DV H v (.tuple ds)):∃a xs,v=.ref a∧H a=some (.tup xs)∧DVs H xs ds:=by
 cases h with
 |tup e r=>exact⟨_,_,rfl,e,r⟩
theorem DVs.cons_inv{H:Hp}{vs:List V}{d:PyData}{ds:List PyData}(h:DVs H vs (d::ds)):∃x r,vs=x::r∧DV H x d∧DVs H r ds:=by
 cases h with
 |cons a b=>exact⟨_,_,rfl,a,b⟩
theorem DVs.nil_inv{H:Hp}{vs:List V}(h:DVs H vs []):vs=[]:=by
 cases h with
 |nil=>rfl
theorem DV.node_inv{H:Hp}{v:V}{l r:Tr}(h:DV H v (Tr.node l r).D):∃a m x y,v=.ref a∧H a=some (.tup [m,x,y])∧DV H x l.D∧DV H y r.D:=by
 obtain⟨a,xs,rfl,e,q⟩:=DV.tup_inv h;obtain⟨m,r1,rfl,_,q1⟩:=q.cons_inv;obtain⟨x,r2,rfl,hx,q2⟩:=q1.cons_inv;obtain⟨y,r3,rfl,hy,q3⟩:=q2.cons_inv;have:=q3.nil_inv;subst this;exact⟨a,m,x,y,rfl,e,hx,hy⟩
theorem Vl{H H':Hp}{a:Addr}{o:HO}(g:Same H H')(h:H a=none):Same H (upd H' a o):=fun b u q=>by rw[Zc (Zk q h)];exact g b u q
theorem Has.of{P:Program}{w:World}{K:W.Frag}{mg:Str→Option Value}{base:Heap}{x:Str}{k:Nat}{ps:List Str}{sp:Sp}{f:Addr}{fd:FuncData}(F:FnOk P w K mg base CX0 k f fd ps sp)(b:Binds K fd ps [])(kp:W.keepIn K (.ref f)=true)(m:mg x=some (.ref f)):
  Has P w K mg base x k ps sp:=⟨f,fd,F,b,kp,m⟩
theorem sg{P:Program}{w:World}{K:W.Frag}{mg:Str→Option Value}{base:Heap}{k:Nat}{ps:List Str}{sp:Sp}{f:Addr}{fd:FuncData}(no:∀vs H Q E,¬sp vs H Q E):FnOk P w K mg base CX0 k f fd ps sp:=
 ⟨fun vs H Q E h=>absurd h (no vs H Q E),fun A outer s H args us vs Q E _ _ _ _ h=>absurd h (no vs H Q E)⟩
def xA(t T:String):Option Bool:=if (Value.type t==Value.type T)=true then some true else if W.kitMeta T=true then(PySem.fastBuiltinMro t).map (·.contains (.type T))else none
theorem Sv{K:W.Frag}{t T:String}{b:Bool}(h:xA t T=some b):W.kitOne K (.type t) (.type T)=some b:=h
theorem vm{K:W.Frag}:W.kitOne K (.type "list") (.type "list")=some true:=Sv (by decide +kernel)
theorem uT{K:W.Frag}:W.kitOne K (.type "tuple") (.type "list")=some false:=Sv (by decide +kernel)
section
variable{X:Cx}
theorem rX{ns:List Int}{us:List Value}(r:Vals (ns.map V.int) us){i:Nat}{u:Value}(h:us[i]?=some u):∃t,u=.int (ns.getD i 0) t:=IntsAre.int_at (Qu r) i u h
theorem Xp(hc:X.calm=true):aL X (.builtin "sum") (fun xs H Q=>∃(p:Addr)(ns:List Int),xs=[.ref p]∧SqL X.K H p (ns.map V.int)∧Q (.int ns.sum) H):=by
 intro BF s σ H xs us Q I r h;obtain⟨p,ns,rfl,hq,q⟩:=h;obtain⟨u,rfl,ru⟩:=W2 r;cases ru;obtain⟨its,rv,pl,hz⟩:=I.list hq;have hl:=rv.length;rw[pi]at hl;have BL:p<s.heap.objs.size:=by
  obtain⟨o,n,e,_⟩:=pl;exact yE e
 refine call_sum_walkG (Bd pl.isList ?_);have hh:X.A.in1.handled=none:=by simpa using I.ok.hd hc
 refine⟨s.heap.objs.size,_,_,_,_,_,fun i=>ns.getD i 0,rfl,Walks.list hh _ p (yN BL) its.toArray,⟨⟨_,yH _ rfl,rfl,rfl⟩,pl.isList.push _⟩,fun b hb=>?_,fun i v hv=>?_,fun h' tk t' kp=>?_⟩
 ·rw[A1]
  rcases yO.mp hb with e | e
  ·rw[e];exact Bl _
  ·rw[yG.mp e];exact Af BL
 ·exact rX rv (by simpa using hv)
 ·have e:preSum (fun i=>ns.getD i 0) its.toArray.size=ns.sum:=by
   rw[PyProof.Rows.preSum_getD,zf,←hl,yV]
  rw[e];refine⟨.int ns.sum,H,I.kept fun b o eb=>kp b o ?_ (yy _ eb),⟨_,rfl⟩,q⟩;intro hb;rw[yG.mp hb]at eb;exact absurd (yE eb) (AH _)
end
section
variable{prog:Program}{w:World}{A:Around}{R:Result→Shared→Prop}{I:Addr}{fp wr:List Addr}{n:Nat}{P:Nat→Value→Prop}{St:Nat→Heap→Prop}
end
variable{prog:Program}{w:World}{A:Around}{E:Value→Shared→Prop}{s:Shared}
section
variable{X:Cx}
end
theorem DV.th_inv{H:Hp}{v:V}{t:Th}(h:DV H v t.D):∃c,v=.ref c∧H c=some (.tup t.vs):=by
 obtain⟨c,xs,rfl,e,q⟩:=DV.tup_inv h;obtain⟨_,_,rfl,k1,q⟩:=q.cons_inv;obtain⟨_,_,rfl,k2,q⟩:=q.cons_inv;obtain⟨_,_,rfl,k3,q⟩:=q.cons_inv;obtain⟨_,_,rfl,k4,q⟩:=q.cons_inv;have:=q.nil_inv;subst this;cases k1;cases k2;cases k3;cases k4;exact⟨c,rfl,e⟩
theorem DVs.th_at{H:Hp}{xs:List V}{ts:List Th}{i:Nat}{x:V}(h:DVs H xs (ts.map Th.D))(hx:xs[i]?=some x):∃t c,ts[i]?=some t∧x=.ref c∧H c=some (.tup t.vs)∧t∈ts:=by
 obtain⟨d,hd,dv⟩:=DVs.getV h hx;rw[yL]at hd;obtain⟨t,ht,rfl⟩:=y8.mp hd;obtain⟨c,rfl,e⟩:=DV.th_inv dv;exact⟨t,c,ht,rfl,e,yW ht⟩
theorem Zo{α:Type}{l:List α}{i:Nat}{x:α}(h:l[i]?=some x):l.take (i+1)=l.take i++[x]:=by rw[List.take_add_one,h];rfl
theorem Uf{K:W.Frag}{a:Addr}{xs:List V}{ts:List Th}{k:Nat}{g:TG}{tt:TT}{te:TE}{σ:St}{H:Hp}{Q:VK}(p:Th→Bool)(f:Th→V)(e:H a=some (.lst xs))(dv:DVs H xs (ts.map Th.D))(hl:ts.length≤100000)(hs:∀(t:Th) (c:Addr) (ys:List V) (C:List V→Hp→Prop),t∈ts→H c=some (.tup t.vs)→(p t=true→C (ys++[f t]) H)→(p t=false→C ys H)→g (.ref c) (List.replicate k none++σ) H fun σ2 H2=>Wk σ2 (List.replicate k none++σ)∧tt σ2 H2 fun ok H3=>
   if ok=true then te σ2 H3 fun y H4=>C (ys++[y]) H4 else C ys H3)(hd:∀q,H q=none→Q (.ref q) (upd H q (.lst ((ts.filter p).map f)))):
  CompR (Itl K a) H k g tt te σ Q:=by
 have dl:=dv.length;rw[pi]at dl;have le:∀i,(((ts.take i).filter p).map f).length≤100000:=fun i=>by
  rw[pi];have h1:=zG p (ts.take i);rw[yX]at h1;omega
 refine Y6 (xs:=xs) (fun i ys H'=>H'=H∧ys=((ts.take i).filter p).map f) ⟨rfl,rfl⟩ ?_ ?_ ?_
 ·rintro i ys H' _ ⟨rfl,_⟩;exact SqL.of e
 ·rintro i x ys H' C hx ⟨rfl,rfl⟩ hC;obtain⟨t,c,ht,rfl,ec,hm⟩:=DVs.th_at dv hx;refine⟨Zh (by have:=le i;omega),hs t c _ C hm ec (fun hp=>hC _ _ ⟨rfl,?_⟩) (fun hp=>hC _ _ ⟨rfl,?_⟩)⟩
  ·rw[Zo ht,Ac,yR,zt,hp];rfl
  ·rw[Zo ht,Ac,zt,hp];simp
 ·rintro ys H' ⟨rfl,rfl⟩;rw[dl,yV];refine⟨Zf (by have:=le ts.length;rw[yV]at this;omega),hd⟩
section
variable{κ:Type}[DecidableEq κ]
def aP(kvs:List (κ×V))(k:κ):Option V:=(kvs.find? fun kv=>decide (kv.1=k)).map (·.2)
def aN(kvs:List (κ×V))(k:κ)(v:V):List (κ×V):=
 if (kvs.any fun kv=>decide (kv.1=k))=true then kvs.map (fun kv=>if kv.1=k then(kv.1,v)else kv)else kvs++[(k,v)]
def bE(kvs:List (κ×V))(k:κ):List (κ×V):=kvs.filter fun kv=>decide (kv.1≠k)
theorem Yb{p:κ×V}{r:List (κ×V)}{k:κ}(e:p.1=k):aP (p::r) k=some p.2:=by simp[aP,List.find?_cons,e]
theorem Y4{p:κ×V}{r:List (κ×V)}{k:κ}(e:¬p.1=k):aP (p::r) k=aP r k:=by simp[aP,List.find?_cons,e]
theorem V5(k:κ):∀kvs:List (κ×V),(kvs.any fun kv=>decide (kv.1=k))=(aP kvs k).isSome
 | []=>rfl
 |p::r=>by
  rw[List.any_cons];by_cases e:p.1=k
  ·simp only[Yb e,decide_eq_true e,Bool.true_or,Option.isSome_some]
  ·rw[Y4 e,yY e,Bool.false_or];exact V5 k r
theorem f9(k j:κ)(y:V):∀kvs:List (κ×V),aP (kvs.map fun kv=>if kv.1=k then(kv.1,y)else kv) j=(aP kvs j).map fun x=>if j=k then y else x
 | []=>rfl
 |p::r=>by
  have ih:=f9 k j y r;rw[yD];by_cases h:p.1=k
  ·rw[yC h];by_cases e:p.1=j
   ·rw[Yb (p:=(p.1,y)) e,Yb e,Option.map_some,yC (e.symm.trans h)]
   ·rw[Y4 (p:=(p.1,y)) e,Y4 e,ih]
  ·rw[yA h];by_cases e:p.1=j
   ·rw[Yb (p:=p) e,Yb e,Option.map_some,yA (fun z=>h (e.trans z))]
   ·rw[Y4 (p:=p) e,Y4 e,ih]
theorem Ps(k j:κ)(y:V):∀kvs:List (κ×V),aP kvs k=none→aP (kvs++[(k,y)]) j=if j=k then some y else aP kvs j
 | [],_=>by
  by_cases e:k=j
  ·rw[yC e.symm];exact Yb (p:=(k,y)) e
  ·rw[yA (fun z=>e z.symm)];exact Y4 (p:=(k,y)) e
 |p::r,hn=>by
  rw[List.cons_append];have hk:¬p.1=k:=fun z=>by rw[Yb z]at hn;cases hn
  rw[Y4 hk]at hn;have ih:=Ps k j y r hn;by_cases e:p.1=j
  ·rw[Yb e,Yb e,yA (fun z=>hk (e.trans z))]
  ·rw[Y4 e,Y4 e,ih]
theorem qe(kvs:List (κ×V))(k j:κ)(y:V):aP (aN kvs k y) j=if j=k then some y else aP kvs j:=by
 unfold aN;by_cases a:(kvs.any fun kv=>decide (kv.1=k))=true
 ·rw[yC a,f9];rw[V5]at a;by_cases e:j=k
  ·obtain⟨x,hx⟩:=Option.isSome_iff_exists.mp a;rw[yC e,e,hx,Option.map_some,yC rfl]
  ·rw[yA e];cases aP kvs j with
   |none=>rfl
   |some x=>rw[Option.map_some,yA e]
 ·rw[yA a];refine Ps k j y kvs ?_;rw[V5]at a;cases q:aP kvs k with
  |none=>rfl
  |some x=>rw[q]at a;exact(a rfl).elim
theorem Su(kvs:List (κ×V))(k:κ)(v:V):(aN kvs k v).length≤kvs.length+1:=by
 unfold aN
 split
 ·rw[pi];omega
 ·rw[yM,zu,zZ];omega
theorem pT{kvs:List (κ×V)}{k:κ}(v:V)(h:aP kvs k=none):aN kvs k v=kvs++[(k,v)]:=by
 unfold aN;rw[V5,h];exact yA (by decide)
theorem RelO.isSome_eq{o:Option V}{u:Option Value}(r:RelO o u):o.isSome=u.isSome:=by
 cases o with
 |none=>cases u with
  |none=>rfl
  |some _=>exact(show False from r).elim
 |some _=>cases u with
  |none=>exact(show False from r).elim
  |some _=>rfl
theorem RelO.getD{o:Option V}{u:Option Value}{d:V}{d':Value}(r:RelO o u)(rd:RelV d d'):RelV (o.getD d) (u.getD d'):=by
 cases o with
 |none=>cases u with
  |none=>exact rd
  |some _=>exact(show False from r).elim
 |some _=>cases u with
  |none=>exact(show False from r).elim
  |some _=>exact r
theorem KV.val{kvs:List (κ×V)}{vs:List (κ×Value)}(r:KV kvs vs)(k:κ):RelO (aP kvs k) (valueAt vs k):=by
 unfold KV at r
 induction r with
 |nil=>exact True.intro
 | @cons p q ps qs h t ih=>
  obtain⟨h1,h2⟩:=h;by_cases e:p.1=k
  ·have e':q.1=k:=h1.symm.trans e;have b:valueAt (q::qs) k=some q.2:=by simp[valueAt,List.find?_cons,e']
   rw[Yb e,b];exact h2
  ·have e':¬q.1=k:=fun z=>e (h1.trans z);have b:valueAt (q::qs) k=valueAt qs k:=by simp[valueAt,List.find?_cons,e']
   rw[Y4 e,b];exact ih
theorem KV.any{kvs:List (κ×V)}{vs:List (κ×Value)}(r:KV kvs vs)(k:κ):(kvs.any fun kv=>decide (kv.1=k))=vs.any fun kv=>decide (kv.1=k):=by
 unfold KV at r
 induction r with
 |nil=>rfl
 |cons h t ih=>rw[List.any_cons,List.any_cons,ih,h.1]
theorem KV.repl{kvs:List (κ×V)}{vs:List (κ×Value)}(r:KV kvs vs)(k:κ){y:V}{u:Value}(ry:RelV y u):
  KV (kvs.map fun kv=>if kv.1=k then(kv.1,y)else kv) (vs.map fun kv=>if kv.1=k then(kv.1,u)else kv):=by
 unfold KV at r⊢
 induction r with
 |nil=>exact .nil
 | @cons p q ps qs h t ih=>
  rw[yD,yD];refine .cons ?_ ih;obtain⟨h1,h2⟩:=h;by_cases e:p.1=k
  ·rw[yC e,yC (h1.symm.trans e)];exact⟨h1,ry⟩
  ·rw[yA e,yA (fun z=>e (h1.trans z))];exact⟨h1,h2⟩
theorem KV.put{kvs:List (κ×V)}{vs:List (κ×Value)}(r:KV kvs vs)(k:κ){y:V}{u:Value}(ry:RelV y u):KV (aN kvs k y) (stored vs k u):=by
 unfold aN stored;rw[r.any k];by_cases e:(vs.any fun kv=>decide (kv.1=k))=true
 ·rw[yC e,yC e];exact r.repl k ry
 ·rw[yA e,yA e];exact Paired.snoc r ⟨rfl,ry⟩
theorem KV.keys{kvs:List (κ×V)}{vs:List (κ×Value)}(r:KV kvs vs):kvs.map (·.1)=vs.map (·.1):=by
 unfold KV at r
 induction r with
 |nil=>rfl
 |cons h t ih=>rw[yD,yD,ih,h.1]
theorem KV.length{kvs:List (κ×V)}{vs:List (κ×Value)}(r:KV kvs vs):kvs.length=vs.length:=yK r
end
theorem gK{P:Program}{w:World}{k:Key}{u:Value}(r:RelV (kV k) u):(ac P w).is k u=true:=by
 cases k with
 |inl i=>obtain⟨t,e⟩:=(show ∃t,u=Value.int i t from r);subst e;exact Wt P w i t
 |inr x=>obtain⟨t,e⟩:=(show ∃t,u=Value.str x t from r);subst e;exact Ss P w x t
theorem O9{P:Program}{w:World}:∀{ks:List Key}{us:List Value},Vals (ks.map kV) us→ItemsAre (ac P w) ks us
 | [],_,r=>by rw[Bv]at r;cases r;exact .nil
 |k::ks,_,r=>by
  rw[yD]at r;cases r with
  |cons h t=>exact .cons (gK h) (O9 t)
abbrev KT(H:Hp):List (List Key×V)→List (List Key×Addr×Value)→Prop:=Paired fun p q=>p.1=q.1∧H q.2.1=some (.tup (p.1.map kV))∧RelV p.2 q.2.2
theorem KT.val{H:Hp}{kvs:List (List Key×V)}{xs:List (List Key×Addr×Value)}(r:KT H kvs xs)(k:List Key):RelO (aP kvs k) ((atKey xs k).map (·.2)):=by
 induction r with
 |nil=>exact True.intro
 | @cons p q ps qs h t ih=>
  obtain⟨h1,_,h2⟩:=h;by_cases e:p.1=k
  ·have e':q.1=k:=h1.symm.trans e;have b:atKey (q::qs) k=some q.2:=by simp[atKey,List.find?_cons,e']
   rw[Yb e,b];exact h2
  ·have e':¬q.1=k:=fun z=>e (h1.trans z);have b:atKey (q::qs) k=atKey qs k:=by simp[atKey,List.find?_cons,e']
   rw[Y4 e,b];exact ih
theorem KT.repl{H:Hp}{kvs:List (List Key×V)}{xs:List (List Key×Addr×Value)}(r:KT H kvs xs)(k:List Key){y:V}{u:Value}(ry:RelV y u):
  KT H (kvs.map fun kv=>if kv.1=k then(kv.1,y)else kv) (xs.map (putAt k u)):=by
 induction r with
 |nil=>exact .nil
 | @cons p q ps qs h t ih=>
  rw[yD,yD];refine .cons ?_ ih;obtain⟨h1,h2,h3⟩:=h;unfold putAt;by_cases e:p.1=k
  ·rw[yC e,yC (h1.symm.trans e)];exact⟨h1,h2,ry⟩
  ·rw[yA e,yA (fun z=>e (h1.trans z))];exact⟨h1,h2,h3⟩
theorem KT.put{H:Hp}{kvs:List (List Key×V)}{xs:List (List Key×Addr×Value)}(r:KT H kvs xs)(k:List Key){b:Addr}{y:V}{u:Value}(hb:H b=some (.tup (k.map kV)))(ry:RelV y u):
  KT H (aN kvs k y) (storedH xs k b u):=by
 have e:(kvs.any fun kv=>decide (kv.1=k))=(atKey xs k).isSome:=by
  rw[V5,(r.val k).isSome_eq,Option.isSome_map]
 unfold aN storedH;rw[e];by_cases q:(atKey xs k).isSome=true
 ·rw[yC q,yC q];exact r.repl k ry
 ·rw[yA q,yA q];exact Paired.snoc r ⟨rfl,hb,ry⟩
theorem KT.keeps{H H':Hp}{kvs:List (List Key×V)}{xs:List (List Key×Addr×Value)}(r:KT H kvs xs)(ht:∀b ys,H b=some (.tup ys)→H' b=some (.tup ys)):KT H' kvs xs:=
 Paired.mapP r fun _ _ z=>⟨z.1,ht _ _ z.2.1,z.2.2⟩
section
variable{P:Program}{w:World}{H:Hp}{h:Heap}{a:Addr}
theorem m9{u:HO}(ok:HOk P w H h)(e:Rd H a u):ObjOk P w H h a u:=e.ok ok
theorem Oh{kvs:List (Key×V)}(ok:HOk P w H h)(e:Rd H a (.dK kvs)):kvs.length≤sizeLine∧(a==sysModules)=false∧∃vs,KV kvs vs∧h.DictOf (ac P w) a vs:=
 show ObjOk P w H h a (.dK kvs)from m9 ok e
theorem kG{kvs:List (Key×V)}(ok:HOk P w H h)(e:H a=some (.dK kvs)):kvs.length≤sizeLine∧(a==sysModules)=false∧∃vs,KV kvs vs∧h.DictOf (ac P w) a vs:=Oh ok (.inl e)
theorem Uc{ks:List Key}(ok:HOk P w H h)(e:H a=some (.tup (ks.map kV))):(tupleKind (ac P w)).is h ks a:=by
 obtain⟨_,its,r,o,h1,h2,n,h3⟩:=(show ObjOk P w H h a (.tup (ks.map kV))from ok a _ e);exact⟨o,its.toArray,n,h1,h2.1,h3,by simpa using O9 r⟩
theorem Od{kvs:List (List Key×V)}(ok:HOk P w H h)(e:Rd H a (.dT kvs)):kvs.length≤sizeLine∧(a==sysModules)=false∧
  ∃xs,KT H kvs xs∧h.DictOfH (tupleKind (ac P w)) a xs:=by
 obtain⟨z,y,xs,r,o,es,ep,h1,h2,h3,h4,h5⟩:=(show ObjOk P w H h a (.dT kvs)from m9 ok e);refine⟨z,y,xs,r,o,es,ep,h1,h2,h3,h4,fun x hx=>?_,h5⟩;have all:∀{l:List (List Key×V)}{m:List (List Key×Addr×Value)},KT H l m→∀x∈m,(tupleKind (ac P w)).is h x.1 x.2.1:=by
  intro l m q
  induction q with
  |nil=>intro x hx;exact nomatch hx
  | @cons p q ps qs hq t ih=>
   intro x hx
   rcases yO.mp hx with e | hx
   ·subst e;exact Uc ok (by rw[←hq.1];exact hq.2.1)
   ·exact ih x hx
 exact all r x hx
theorem Oe{kvs:List (List Key×V)}(ok:HOk P w H h)(e:H a=some (.dT kvs)):kvs.length≤sizeLine∧(a==sysModules)=false∧
  ∃xs,KT H kvs xs∧h.DictOfH (tupleKind (ac P w)) a xs:=Od ok (.inl e)
end
def DGet(H:Hp)(a:Addr)(y:V)(r:Option V):Prop:=
 (∃kvs k,Rd H a (.dK kvs)∧y=kV k∧r=aP kvs k)∨∃kvs k b,Rd H a (.dT kvs)∧y=.ref b∧H b=some (.tup (k.map kV))∧r=aP kvs k
def DPut(H:Hp)(a:Addr)(y v:V)(H':Hp):Prop:=
 (∃kvs k,H a=some (.dK kvs)∧y=kV k∧kvs.length<sizeLine∧H'=upd H a (.dK (aN kvs k v)))∨
 ∃kvs k b,H a=some (.dT kvs)∧y=.ref b∧H b=some (.tup (k.map kV))∧kvs.length<sizeLine∧H'=upd H a (.dT (aN kvs k v))
theorem DGet.k{H:Hp}{a:Addr}{kvs:List (Key×V)}{k:Key}(e:H a=some (.dK kvs)):DGet H a (kV k) (aP kvs k):=.inl ⟨kvs,k,.inl e,rfl,rfl⟩
theorem DGet.t{H:Hp}{a b:Addr}{kvs:List (List Key×V)}{k:List Key}(e:H a=some (.dT kvs))(eb:H b=some (.tup (k.map kV))):DGet H a (.ref b) (aP kvs k):=.inr ⟨kvs,k,b,.inl e,rfl,eb,rfl⟩
theorem DPut.k{H:Hp}{a:Addr}{kvs:List (Key×V)}{k:Key}{v:V}(e:H a=some (.dK kvs))(hl:kvs.length<sizeLine):DPut H a (kV k) v (upd H a (.dK (aN kvs k v))):=.inl ⟨kvs,k,e,rfl,hl,rfl⟩
theorem DPut.t{H:Hp}{a b:Addr}{kvs:List (List Key×V)}{k:List Key}{v:V}(e:H a=some (.dT kvs))(eb:H b=some (.tup (k.map kV)))(hl:kvs.length<sizeLine):
  DPut H a (.ref b) v (upd H a (.dT (aN kvs k v))):=.inr ⟨kvs,k,b,e,rfl,eb,hl,rfl⟩
section
variable{X:Cx}{BF:List (Addr×Obj)}{σ:St}{H:Hp}{s:Shared}{a:Addr}{y v:V}{u r:Value}{o:Option V}{A:Around}{E:Value→Shared→Prop}
theorem Inv.big(I:Inv X BF σ H s):sysModules<s.heap.objs.size:=by
 have h:mainGlobals<s.heap.objs.size:=(I.mod.glob.keeps I.bk).lt;exact Aw (by decide) h
theorem lQ{Q:Value→Shared→Prop}(hu:A.units+1<cLine)(I:Inv X BF σ H s)(g:DGet H a y (some v))(ry:RelV y u)(h:∀w' s',Inv X BF σ H s'→RelV v w'→Q w' s'):
  wpAny (model X.prog X.w) A (getItem (.ref a) u) Q E s:=by
 rcases g with⟨kvs,k,e,ey,l⟩|⟨kvs,k,b,e,ey,eb,l⟩
 ·subst ey;obtain⟨z,hd,vs,rel,dd⟩:=Oh I.hok e;obtain⟨w',hw,rw'⟩:=RelO.some_of (v:=v) (o:=valueAt vs k) (by rw[l];exact rel.val k);exact wpAny_getItem_of (gK ry) dd.mapOf hw (h w' _ (I.tok _) rw')
 ·subst ey;cases (show u=Value.ref b from ry);obtain⟨z,hd,xs,rel,dd⟩:=Od I.hok e;obtain⟨w',hw,rw'⟩:=RelO.some_of (v:=v) (o:=(atKey xs k).map (·.2)) (by rw[l];exact rel.val k);obtain⟨p,hp,hp2⟩:=y8.mp hw;refine wpAny_getItem_heap (At hu) (Uc I.hok eb) dd hp ?_;rw[hp2];exact h w' _ (I.tok _) rw'
theorem d_in{Q:Value→Shared→Prop}(hu:A.units+1<cLine)(I:Inv X BF σ H s)(g:DGet H a y o)(ry:RelV y u)(h:∀s',Inv X BF σ H s'→Q (.bool o.isSome) s'):
  wpAny (model X.prog X.w) A (compareOp .In u (.ref a)) Q E s:=by
 rcases g with⟨kvs,k,e,ey,l⟩|⟨kvs,k,b,e,ey,eb,l⟩
 ·subst ey;obtain⟨z,hd,vs,rel,dd⟩:=Oh I.hok e;refine wpAny_in_of (gK ry) hd dd.mapOf ?_;rw[←(rel.val k).isSome_eq,←l];exact h _ (I.tok _)
 ·subst ey;cases (show u=Value.ref b from ry);obtain⟨z,hd,xs,rel,dd⟩:=Od I.hok e;refine wpAny_in_heap (At hu) (Uc I.hok eb) hd dd ?_;have q:=(rel.val k).isSome_eq;rw[Option.isSome_map]at q;rw[←q,←l];exact h _ (I.tok _)
theorem eX{h':Heap}{t':Nat}{ob:HO}(I:Inv X BF σ H s)(mu:Mut (H a))(hs:Heap.SameBut a s.heap h')(he:∃q,h'.get? a=some q)(new:ObjOk X.prog X.w (upd H a ob) h' a ob):
  Inv X BF σ (upd H a ob) {s with heap:=h',toks:=t'}:=
 I.write (x:=a) (e:=a) mu (.inl rfl) (fun b q hb z=>(hs.2 b hb).trans z) he new
theorem vp{P:Program}{w:World}{H':Hp}{h':Heap}{kvs:List (Key×V)}{vs:List (Key×Value)}(z:kvs.length≤sizeLine)(hd:(a==sysModules)=false)(rel:KV kvs vs)(dd:h'.DictOf (ac P w) a vs):
  ObjOk P w H' h' a (.dK kvs):=⟨z,hd,vs,rel,dd⟩
theorem me{H':Hp}{Q:Unit→Shared→Prop}(hu:A.units+1<cLine)(I:Inv X BF σ H s)(g:DPut H a y v H')(ry:RelV y u)(rv:RelV v r)(h:∀s',Inv X BF σ H' s'→Q () s'):
  wpAny (model X.prog X.w) A (setItem (.ref a) u r) Q E s:=by
 rcases g with⟨kvs,k,e,ey,l,eH⟩|⟨kvs,k,b,e,ey,eb,l,eH⟩
 ·subst ey eH;obtain⟨z,hd,vs,rel,dd⟩:=kG I.hok e;have hz:vs.length≤sizeLine:=by rw[←rel.length];exact z
  have hl:(aN kvs k v).length≤sizeLine:=by have:=Su kvs k v;omega
  refine wpAny_setItem_pairs (hsz:=hz) (gK ry) dd fun h' dd' hs=>h _ ?_;have he:∃q,h'.get? a=some q:=let ⟨q,_,_,hq,_⟩:=dd';⟨q,hq⟩
  exact eX I (by rw[e];exact True.intro) hs he (vp hl hd (rel.put k rv) dd')
 ·subst ey eH;cases (show u=Value.ref b from ry);obtain⟨z,hd,xs,rel,dd⟩:=Oe I.hok e;have hz:xs.length≤sizeLine:=by rw[←yK rel];exact z
  have hl:(aN kvs k v).length≤sizeLine:=by have:=Su kvs k v;omega
  refine wpAny_setItem_heap (hsz:=hz) (At hu) (Uc I.hok eb) dd fun h' dd' hs=>h _ ?_;obtain⟨q,es,ep,hq,h2,h3,h4,_,h5⟩:=dd';refine eX I (by rw[e];exact True.intro) hs ⟨q,hq⟩ ⟨hl,hd,_,(rel.put k eb rv).keeps fun c ys ec=>?_,q,es,ep,hq,h2,h3,h4,h5⟩;rw[Zc (U1 ec e (fun z=>nomatch z))];exact ec
end
section
variable{X:Cx}{BF:List (Addr×Obj)}{σ:St}{H:Hp}{s:Shared}{a:Addr}{kvs:List (Key×V)}{k:Key}{u:Value}{A:Around}{E:Value→Shared→Prop}
end
def xK(i:Expr):Prop:=∀ov iv,subscripted i false ov iv=operate [ov,iv] (getItem ov iv)
theorem tU{prog:Program}{w:World}{A:Around}{E:Value→Shared→Prop}{s:Shared}{env:Env}{value slice:Expr}{pos:Pos}{T id:String}{Q:Value→Shared→Prop}(hl:typeLookup (.type T) "__getitem__"=pure (some (.builtin id)))(hs:xK slice)(h:wpAny (model prog w) A (eval value env) (fun o s₁=>wpAny (model prog w) A (eval slice env) (fun i s₂=>s₂.TypeIs o T∧wpAny (model prog w) A (getItem o i) Q E s₂) E s₁) E s):
  wpAny (model prog w) A (eval (.Subscript value slice pos) env) Q E s:=by
 refine Subscript_ (zT h (fun o s₁ h₁=>zT h₁ (fun i s₂ h₂=>?_) fun _ _ x=>x) fun _ _ x=>x);obtain⟨hT,h₂⟩:=h₂;unfold subscriptTail;refine io ?_;rw[getitemInPython_of_ne hT.not_modules];refine io (Bs hT hl ?_);have fin:wpAny (model prog w) A (subscripted slice false o i) (fun r s₃=>wpAny (model prog w) A (letTemporaryGo value o r >>= fun _=>pure r) Q E s₃) E s₂:=by
  rw[hs o i];exact wpAny_operating (zT h₂ (fun r s₃ h₃=>io (wpAny_letTemporaryGo (yx h₃))) fun _ _ x=>x)
 first
  |exact yx (io fin)
  |exact io (yx (io fin))
  |exact io fin
theorem hJ{X:Cx}{BF:List (Addr×Obj)}{σ:St}{H:Hp}{s:Shared}{a:Addr}{y:V}{o:Option V}(I:Inv X BF σ H s)(g:DGet H a y o):s.TypeIs (.ref a) "dict":=by
 rcases g with⟨kvs,k,e,_,_⟩|⟨kvs,k,b,e,_,_,_⟩
 ·obtain⟨_,_,vs,_,dd⟩:=Oh I.hok e;exact dd.typeIs
 ·obtain⟨_,_,xs,_,dd⟩:=Od I.hok e;exact dd.typeIs
def wx(td ty:TE):TE:=fun σ H Q=>td σ H fun x H1=>ty σ H1 fun y H2=>∃a v,x=.ref a∧DGet H2 a y (some v)∧Q v H2
def yh(td ty tv:TE):TS:=fun D σ H=>tv σ H fun v H1=>td σ H1 fun x H2=>ty σ H2 fun y H3=>∃a H4,x=.ref a∧DPut H3 a y v H4∧D.nx σ H4
section
variable{X:Cx}{o i e value:Expr}{pos pos' tpos:Pos}{td ty tv:TE}
theorem Wa(hu:X.A.units+1<cLine)(ho:PE X o td)(hi:PE X i ty)(hs:xK i):PE X (.Subscript o i pos) (wx td ty):=by
 intro BF s σ H Q I h;refine tU PySem.F.slot_dict_getitem.lookup hs (thn (ho BF s σ H _ I h) fun u s1 ⟨x,H1,I1,rx,q1⟩=>thn (hi BF s1 σ H1 _ I1 q1) fun iv s2 BG=>?_);obtain⟨y,H2,I2,ry,a,v,ex,g,q2⟩:=BG;subst ex;obtain rfl:u=Value.ref a:=rx;exact⟨hJ I2 g,lQ hu I2 g ry fun w' s3 I3 rw'=>⟨v,H2,I3,rw',q2⟩⟩
theorem Wr(hu:X.A.units+1<cLine)(ho:PE X o td)(hi:PE X i ty)(hv:PE X value tv)(hs:swapsWith value (some (.Subscript o i pos')) pos.line X.env=pure false):
  PS X (.Assign [.Subscript o i pos'] value pos) (yh td ty tv):=by
 intro BF s σ H D I h;refine wpAny_Assign_Subscript (thn (hv BF s σ H _ I h) fun r s1 ⟨v,H1,I1,rv,q1⟩=>thn (ho BF s1 σ H1 _ I1 q1) fun u s2 ⟨x,H2,I2,rx,q2⟩=>thn (hi BF s2 σ H2 _ I2 q2) fun iv s3 BG=>?_) hs;obtain⟨y,H3,I3,ry,a,H4,ex,g,q3⟩:=BG;subst ex;obtain rfl:u=Value.ref a:=rx;exact me hu I3 g ry rv fun s4 I4=>⟨σ,H4,I4,q3⟩
end
theorem qj{P:Program}{w:World}{H:Hp}(h:Heap)(hb:sysModules<h.objs.size):ObjOk P w H (h.push {cls:=.type "dict",data:=.dict #[]}) h.objs.size (.dK []):=
 ⟨zP _,Ao.mpr (Ne.symm (yN hb)),[],.nil,Heap.DictOf.new h⟩
theorem h_{P:Program}{w:World}{H:Hp}(h:Heap)(hb:sysModules<h.objs.size):ObjOk P w H (h.push {cls:=.type "dict",data:=.dict #[]}) h.objs.size (.dT []):=
 ⟨zP _,Ao.mpr (Ne.symm (yN hb)),[],.nil,_,#[],0,yH _ rfl,⟨rfl,rfl,rfl⟩,rfl,rfl,zA⟩
def vW:TE:=fun _ H Q=>∀p,H p=none→Q (.ref p) (upd H p (.dK []))
def v5:TE:=fun _ H Q=>∀p,H p=none→Q (.ref p) (upd H p (.dT []))
section
variable{X:Cx}{pos:Pos}
theorem oG:PE X (.Dict [] [] pos) vW:=fun BF s σ H Q I h=>
 wpAny_Dict_empty ⟨.ref s.heap.objs.size,_,I.laid (a:=s.heap.objs.size) (o:=.dK []) (t':=s.toks) (fun _ _ q=>yy _ q) (yB _) (qj s.heap I.big),rfl,h _ (I.hok.fresh (yB _))⟩
theorem Qa:PE X (.Dict [] [] pos) v5:=fun BF s σ H Q I h=>
 wpAny_Dict_empty ⟨.ref s.heap.objs.size,_,I.laid (a:=s.heap.objs.size) (o:=.dT []) (t':=s.toks) (fun _ _ q=>yy _ q) (yB _) (h_ s.heap I.big),rfl,h _ (I.hok.fresh (yB _))⟩
end
def oD:List (TE×TE)→St→Hp→(List (V×V)→Hp→Prop)→Prop
 | [],_,H,Q=>Q [] H
 | (tk,tv)::r,σ,H,Q=>tk σ H fun x H1=>tv σ H1 fun y H2=>oD r σ H2 fun ps H3=>Q ((x,y)::ps) H3
abbrev VV:List (V×V)→List (Value×Value)→Prop:=Paired fun p q=>RelV p.1 q.1∧RelV p.2 q.2
def PPs(X:Cx)(pos:Pos)(keys:List (Option Expr))(values:List Expr)(trs:List (TE×TE)):Prop:=
 ∀(BF:List (Addr×Obj))(s:Shared)(σ:St)(H:Hp)(Q:List (V×V)→Hp→Prop),Inv X BF σ H s→oD trs σ H Q→
  wpAny (model X.prog X.w) X.A (evalPairs (pairTrees keys values X.env pos)) (fun vs s'=>∃ps H',Inv X BF σ H' s'∧VV ps vs∧Q ps H') X.xe s
theorem sY{X:Cx}{pos:Pos}:PPs X pos [] [] []:=fun BF s σ H Q I h=>pairTrees_nil_walk ⟨[],H,I,.nil,h⟩
theorem pF{X:Cx}{pos:Pos}{k v:Expr}{ks:List (Option Expr)}{vs:List Expr}{tk tv:TE}{trs:List (TE×TE)}(hk:PE X k tk)(hv:PE X v tv)(hr:PPs X pos ks vs trs):
  PPs X pos (some k::ks) (v::vs) ((tk,tv)::trs):=fun BF s σ H Q I h=>
 pairTrees_cons_walk (thn (hk BF s σ H _ I h) fun u s1 ⟨x,H1,I1,rx,q1⟩=>thn (hv BF s1 σ H1 _ I1 q1) fun w2 s2 ⟨y,H2,I2,ry,q2⟩=>
  thn (hr BF s2 σ H2 _ I2 q2) fun ws s3 ⟨ps,H3,I3,rel,q3⟩=>⟨(x,y)::ps,H3,I3,.cons ⟨rx,ry⟩ rel,q3⟩)
structure M2(X:Cx)(o:Expr)(m:Str)(apos:Pos)(e f:Expr)(cpos:Pos):Prop where
 base:attributeBase o m X.env (eval o X.env)=eval o X.env
 few:((backTo cpos (starEach [e,f] X.env)).all (fun x=>!x.1) && (backToKw cpos (keywordEach [] X.env)).all (fun x=>x.1.isSome)
  && decide (([e,f]:List Expr).length+([]:List Keyword).length+(if ([]:List Keyword).isEmpty then 0 else 1)<30))=true
 line:(apos.endLine==cpos.line)=true
 trees:backTo cpos (starEach [e,f] X.env)=[(false,eval e X.env),(false,eval f X.env)]
def IsD(H:Hp)(a:Addr):Prop:=(∃kvs,Rd H a (.dK kvs))∨∃kvs,Rd H a (.dT kvs)
theorem uO{X:Cx}{BF:List (Addr×Obj)}{σ:St}{H:Hp}{s:Shared}{a:Addr}(I:Inv X BF σ H s)(d:IsD H a):
  s.TypeIs (.ref a) "dict"∧(∀b,Value.ref a=.ref b→∃ob,s.heap.get? b=some ob∧ob.dict=none)∧(a==sysModules)=false:=by
 rcases d with⟨kvs,e⟩|⟨kvs,e⟩
 ·obtain⟨_,hd,vs,_,dd⟩:=Oh I.hok e;refine⟨dd.typeIs,fun b q=>?_,hd⟩;cases q;obtain⟨ob,_,_,h1,h2,_⟩:=dd;exact⟨ob,h1,h2.2.1⟩
 ·obtain⟨_,hd,xs,_,dd⟩:=Od I.hok e;refine⟨dd.typeIs,fun b q=>?_,hd⟩;cases q;obtain⟨ob,_,_,h1,h2,_⟩:=dd;exact⟨ob,h1,h2.2.1⟩
section
variable{X:Cx}{BF:List (Addr×Obj)}{σ:St}{H:Hp}{s:Shared}{a:Addr}{y d:V}{u r:Value}{o:Option V}{A:Around}{E:Value→Shared→Prop}
theorem wo{Q:Value→Shared→Prop}(hu:A.units+1<cLine)(I:Inv X BF σ H s)(g:DGet H a y o)(ry:RelV y u)(rd:RelV d r)(h:∀w' s',Inv X BF σ H s'→RelV (o.getD d) w'→Q w' s'):
  wpAny (model X.prog X.w) A (call (.builtin "dict.get") [.ref a,u,r]) Q E s:=by
 rcases g with⟨kvs,k,e,ey,l⟩|⟨kvs,k,b,e,ey,eb,l⟩
 ·subst ey;obtain⟨z,hd,vs,rel,dd⟩:=Oh I.hok e;refine Bm PySem.F.slot_dict_get dd.typeIs PySem.F.entry_dict_get (PySem.F.args_dict_get_3 _ _ _) (meets_dict_get_default (ac X.prog X.w) a (gK ry) hd r) ⟨_,dd.mapOf,h _ _ (I.tok _) ?_⟩;rw[l];exact(rel.val k).getD rd
 ·subst ey;cases (show u=Value.ref b from ry);obtain⟨z,hd,xs,rel,dd⟩:=Od I.hok e;refine Bm PySem.F.slot_dict_get dd.typeIs PySem.F.entry_dict_get (PySem.F.args_dict_get_3 _ _ _) (meetsH_dict_get_default (tupleKind (ac X.prog X.w)) a b hd r) ⟨At hu,k,xs,Uc I.hok eb,dd,h _ _ (I.tok _) ?_⟩;rw[l];exact(rel.val k).getD rd
end
def uK(td ty tx:TE):TE:=fun σ H Q=>td σ H fun x H1=>∃a,x=.ref a∧IsD H1 a∧ty σ H1 fun y H2=>tx σ H2 fun z H3=>∃o,DGet H3 a y o∧Q (o.getD z) H3
section
variable{X:Cx}{o e f:Expr}{apos cpos:Pos}{td ty tx:TE}
theorem Wi(hu:X.A.units+1<cLine)(ho:PE X o td)(he:PE X e ty)(hf:PE X f tx)(m:M2 X o "get" apos e f cpos):PE X (.Call (.Attribute o "get" apos) [e,f] [] cpos) (uK td ty tx):=by
 intro BF s σ H Q I h;refine wpAny_Call_method m.base m.few m.line zX PySem.F.slot_dict_get PySem.F.type_dict_get (thn (ho BF s σ H _ I h) fun u s1 BG=>?_);obtain⟨x,H1,I1,rx,a,ex,d,q1⟩:=BG;subst ex;obtain rfl:u=Value.ref a:=rx;obtain⟨t1,t2,_⟩:=uO I1 d;refine⟨t1,t2,?_⟩;rw[m.trees];refine Calls.callWith_builtin rfl (Calls.evalArgs_plain (Calls.spliced_cons (thn (he BF s1 σ H1 _ I1 q1) fun iv s2 ⟨y,H2,I2,ry,q2⟩=>
  Calls.spliced_cons (thn (hf BF s2 σ H2 _ I2 q2) fun fv s3 ⟨z,H3,I3,rz,ov,g,q3⟩=>Calls.spliced_nil ?_))))
 exact wo hu I3 g ry rz fun w' s4 I4 rw'=>⟨_,H3,I4,rw',q3⟩
end
section
variable{X:Cx}{BF:List (Addr×Obj)}{σ:St}{H:Hp}{s:Shared}{a:Addr}{kvs:List (Key×V)}{A:Around}{E:Value→Shared→Prop}
end
section
variable{X:Cx}{BF:List (Addr×Obj)}{σ:St}{H:Hp}{s:Shared}{a:Addr}{y:V}{u:Value}{A:Around}{E:Value→Shared→Prop}
end
section
variable{X:Cx}
end
section
variable{κ:Type}[DecidableEq κ]
end
section
variable{X:Cx}{tg:Expr}
theorem mR{bs:List Bool}:(List.range bs.length).all (fun i=>bs.getD i true)=bs.all id:=by
 rw[zV,zL,zL];constructor
 ·intro h b hb;obtain⟨i,hi,rfl⟩:=Ay.mp hb;have q:=h i (Bw.mpr hi);rw[List.getD_eq_getElem?_getD,y3 hi]at q;exact q
 ·intro h i hi;have hi:=Bw.mp hi;have q:=h bs[i] (List.getElem_mem hi);rw[List.getD_eq_getElem?_getD,y3 hi];exact q
theorem pD(hc:X.calm=true):aL X (.builtin "all") (fun xs H Q=>∃(p:Addr)(bs:List Bool),xs=[.ref p]∧SqL X.K H p (bs.map V.bl)∧Q (.bl (bs.all id)) H):=by
 intro BF s σ H xs us Q I r h;obtain⟨p,bs,rfl,hq,q⟩:=h;obtain⟨u,rfl,ru⟩:=W2 r;cases ru;obtain⟨its,rv,pl,hz⟩:=I.list hq;have hl:=rv.length;rw[pi]at hl;have BL:p<s.heap.objs.size:=by
  obtain⟨o,n,e,_⟩:=pl;exact yE e
 have hh:X.A.in1.handled=none:=by simpa using I.ok.hd hc
 refine call_all_walk (Bd pl.isList ⟨s.heap.objs.size,_,_,_,_,_,fun i=>bs.getD i true,rfl,Walks.list hh _ p (yN BL) its.toArray,⟨⟨_,yH _ rfl,rfl,rfl⟩,pl.isList.push _⟩,fun i v s' Q' E' hv hQ=>?_,fun h' tk kp=>?_⟩)
 ·have hv':its[i]?=some v:=by simpa using hv
  have hi:i<bs.length:=by rw[hl];exact(yI.mp hv').1
  obtain⟨u,hu,ru⟩:=rv.get (i:=i) (x:=.bl bs[i]) (by rw[yL,y3 hi];rfl);rw[hv']at hu;cases hu;cases (show v=Value.bool bs[i]from ru);have e:bs.getD i true=bs[i]:=by rw[List.getD_eq_getElem?_getD,y3 hi];rfl
  simp only[e]at hQ;exact z8 hQ
 ·have e:(List.range its.toArray.size).all (fun i=>bs.getD i true)=bs.all id:=by
   rw[zf,←hl];exact mR
  simp only[e];refine⟨.bl (bs.all id),H,I.kept fun b o eb=>kp b o ?_ (yy _ eb),rfl,q⟩;intro hb;rw[yG.mp hb]at eb;exact absurd (yE eb) (AH _)
end
section
variable{X:Cx}
end
section
variable{X:Cx}{o e:Expr}{to te:TE}{lo hi:Option Expr}{tl th:TO}{pos p2:Pos}
end
section
open PySem.AutoSeq1 (wpAny_loadPart')
open PySem.MeetsSeq PySem.MeetsSeq2 PySem.MeetsSeq3
end
section
variable{X:Cx}
end
theorem Zi{H H1:Hp}{p:Addr}{o:HO}(h:upd H p o=H1)(n:H p=none):Same H H1:=h ▸ Z5 n o
theorem Zr{H H1:Hp}{p:Addr}{o:HO}(h:upd H p o=H1):H1 p=some o:=h ▸ Z3
inductive Kd(H:Hp):V→String→Prop
 |non:Kd H .non "NoneType"
 |bl (b:Bool):Kd H (.bl b) "bool"
 |int (i:Int):Kd H (.int i) "int"
 |str (z:Str):Kd H (.str z) "str"
 |lst {a:Addr} {xs:List V} (e:H a=some (.lst xs)):Kd H (.ref a) "list"
 |tup {a:Addr} {xs:List V} (e:H a=some (.tup xs)):Kd H (.ref a) "tuple"
 |dK {a:Addr} {kvs:List (Key×V)} (e:H a=some (.dK kvs)):Kd H (.ref a) "dict"
theorem Kd.ty{K:W.Frag}{H:Hp}{x:V}{T:String}(h:Kd H x T):TyOf K H x (.type T):=by
 cases h with
 |non=>exact .non
 |bl b=>exact .bl b
 |int i=>exact .int i
 |str z=>exact .str z
 |lst e=>exact .lst e
 |tup e=>exact .tup e
 |dK e=>exact .dK e
def kds:List String:=["NoneType","bool","int","str","list","tuple","dict"]
def kus:List String:=["int","bool","str","list","tuple"]
def nZ(T U:String):Bool:=(T==U) || (T == "bool" && U == "int")
theorem sI:∀T∈kds,∀U∈kus,xA T U=some (nZ T U):=by decide +kernel
theorem Kd.mem{H:Hp}{x:V}{T:String}(h:Kd H x T):T∈kds:=by cases h <;> decide
theorem Kd.kit{K:W.Frag}{H:Hp}{x:V}{T U:String}{b:Bool}(h:Kd H x T)(hU:U∈kus)(e:nZ T U=b):W.kitOne K (.type T) (.type U)=some b:=by
 subst e;exact Sv (sI T h.mem U hU)
def whV:V→Bool
 |.int _=>true
 |_=>false
def wF:V→Int→Bool
 |.int i,l=>decide (l≤i)
 |_,_=>false
theorem Kd.wh{H:Hp}{x:V}{T:String}(h:Kd H x T):(nZ T "int" && !nZ T "bool")=whV x:=by
 cases h <;> (first | rfl | (simp[nZ,whV]))
theorem lq{H:Hp}{p:Addr}{xs:List V}{d:Int}(e:H p=some (.lst xs))(h0:0≤d)(h1:d<xs.length):∃v,atI xs d=some v∧v∈xs:=oE h0 h1
theorem qQ{K:W.Frag}{H:Hp}{a c:Addr}{xs:List V}(h:aw a H c=some (.tup xs)):SqT K H c xs:=SqT.of (Za h).2
theorem V4{K:W.Frag}{H:Hp}{a c:Addr}{xs:List V}(h:aw a H c=some (.lst xs)):SqL K H c xs:=SqL.of (Za h).2
section
variable{X:Cx}{x:Str}{p pos:Pos}{e:Expr}{es:List Expr}{kws:List Keyword}{ks:List Str}{t tk:TA}{id:String}{r:List V→List V→Hp→VK→Prop}
end
section
variable{prog:Program}{w:World}{A:Around}{E:Value→Shared→Prop}{s:Shared}{T:String}{r d:Addr}{n:Nat}{P:Nat→Value→Prop}{OK:Heap→Prop}
def v8(s:Shared)(P:Nat→Value→Prop)(n:Nat)(q:Result)(s':Shared):Prop:=
 ∃(g:Heap)(tk c:Nat)(xs:Array Value),q=.ok (.ret (.ref s.heap.objs.size))∧s'={s with heap:=g,toks:=tk}∧(∀b o,s.heap.get? b=some o→g.get? b=some o)∧g.get? s.heap.objs.size=some {cls:=.type "list",dict:=none,data:=.seq xs c,slots:=#[]}∧ItemsOf P xs n
theorem Sz{R:List Value→Shared→Prop}(K:W.KdlSrc prog w T r d n P OK)(hh:A.handled=none)(hok:OK s.heap)(hn:n≤sizeLine)(h:∀(g:Heap) (tk:Nat) (xs:Array Value),(∀b o,s.heap.get? b=some o→g.get? b=some o)→s.heap.objs.size<g.objs.size→ItemsOf P xs n→R xs.toList {s with heap:=g,toks:=tk}):wpAny (model prog w) A (collect (.ref r)) R E s:=by
 obtain⟨lt1,lt2⟩:=K.there _ hok;unfold collect;refine io (Bx (zM Bg ?_));rw[zI PySem.F.plain_proto_collect _];refine io (m:=newList []) (zB (yx ⟨AK Ai _,zM entry_list_iadd' ?_⟩));rw[zI Ai _];have own:(s.heap.push {cls:=.type "list",data:=.seq ([]:List Value).toArray}).get? s.heap.objs.size=some {cls:=.type "list",data:=.seq #[]}:=yH _ rfl;have run:=W.kdl_extend (A:=A) (s:={s with heap:=s.heap.push {cls:=.type "list",data:=.seq ([]:List Value).toArray}}) (R:=v8 s P n) K hh (K.keep _ _ hok fun _ _ _ e=>yy _ e) s.heap.objs.size (zR lt1) (zR lt2) (.ref s.heap.objs.size) 0 own
  (fun g tk xs c hk hS hx=>⟨g,tk,c,xs,rfl,rfl,fun b o e=>hk b o (yN (yE e)) (yy _ e),hS,hx⟩) hn
 refine zT run (fun fin s' y=>?_) (fun _ _ y=>by obtain⟨_,_,_,_,e,_⟩:=y;cases e);cases fin with
 |done f=>
  obtain⟨g,tk,c,xs,e,rfl,hk,hS,hx⟩:=y;cases e;exact io (m:=load s.heap.objs.size) (Bf hS (yx (h g tk xs hk (yE hS) hx)))
 |again c1=>
  refine⟨y.1,A5 y.2 fun q s2 z=>?_⟩;obtain⟨g,tk,c,xs,rfl,rfl,hk,hS,hx⟩:=z;exact io (m:=load s.heap.objs.size) (Bf hS (yx (h g tk xs hk (yE hS) hx)))
end
def cR(a d:Addr):HO:=.ext fun h=>h.IsValuesView a d
def b6(a d:Addr):HO:=.ext fun h=>h.IsItemsView a d
section
variable{X:Cx}{BF:List (Addr×Obj)}{σ:St}{H:Hp}{s:Shared}
def xj(w:Addr→Addr→HO):V→List V→Hp→VK→Prop:=fun x vs H Q=>∃d kvs,x=.ref d∧vs=[]∧H d=some (.dK kvs)∧∀a,H a=none→Q (.ref a) (upd H a (w a d))
theorem mN:MtR X "dict.values" (xj cR):=by
 intro BF s σ H x vs v us Q I rx rv h;obtain⟨d,kvs,rfl,rfl,hd,q⟩:=h;cases rx;cases rv;obtain⟨_,lo,ws,_,hD⟩:=kG I.hok hd;refine Bm Ax hD.typeIs PySem.F.entry_dict_values (PySem.F.args_dict_values_1 _) (meets_dict_values (ac X.prog X.w) d lo) ⟨⟨ws,hD⟩,?_⟩;refine⟨.ref s.heap.objs.size,_,I.laid (t':=s.toks) (o:=cR s.heap.objs.size d) (fun b o e=>yy _ e) (yB _) ?_,rfl,q _ (I.hok.fresh (yB _))⟩;exact⟨⟨_,yH _ rfl,rfl,rfl⟩,⟨_,yH _ rfl⟩,fun h1 h2 ⟨o,ho,r⟩ k=>⟨o,k o ho,r⟩⟩
theorem Rr:∀{kvs:List (Key×V)}{ws:List (Key×Value)},KV kvs ws→Vals (kvs.map (·.2)) (ws.map (·.2))
 |_,_,.nil=>.nil
 |_,_,.cons a r=>.cons a.2 (Rr r)
theorem pe{P:Program}{w:World}{k:Key}{u:Value}(h:(ac P w).is k u=true):RelV (kV k) u:=by
 rcases Yd (show c5 k u=true from h) with⟨i,t,rfl,rfl⟩|⟨x,t,rfl,rfl⟩
 ·exact⟨t,rfl⟩
 ·exact⟨t,rfl⟩
def over(H:Hp)(n:Nat)(L:Hp):Hp:=fun b=>if b<n then H b else L b
theorem Qd{H L:Hp}{n:Nat}{b:Addr}(h:b<n):over H n L b=H b:=yC h
theorem gF{H L:Hp}{n:Nat}{b:Addr}(h:n≤b):over H n L b=L b:=yA (Nat.not_lt.mpr h)
theorem Inv.over{L:Hp}{g:Heap}{t':Nat}(I:Inv X BF σ H s)(k:∀b u,s.heap.get? b=some u→g.get? b=some u)(new:∀b o,s.heap.objs.size≤b→L b=some o→ObjOk X.prog X.w (over H s.heap.objs.size L) g b o):
  Inv X BF σ (L2.over H s.heap.objs.size L) {s with heap:=g,toks:=t'}∧Same H (L2.over H s.heap.objs.size L):=by
 have old:∀b o,H b=some o→L2.over H s.heap.objs.size L b=some o:=fun b o e=>by rw[Qd (I.hok b o e).lt];exact e
 have fre:∀b u,s.heap.get? b=some u→H b=none→L2.over H s.heap.objs.size L b=none:=fun b u e n=>by rw[Qd (yE e)];exact n
 refine⟨I.un ⟨fun b u e _ _ _=>k b u e,fun b u e _ _ _=>⟨u.slots,k b u e⟩,fun b u e n _=>fre b u e n,fun b u e _=>⟨u,k b u e⟩,fun b xs e=>old b _ e,fun b o u e=>old b _ e,fun b ps e=>⟨#[],by rw[old b _ e];simp⟩⟩ ?_,old⟩;intro b o e;by_cases hb:b<s.heap.objs.size
 ·rw[Qd hb]at e;exact(I.hok b o e).stay (fun c u _ q=>k c u q) (fun c q=>old c _ q) fun c xs q=>old c _ q
 ·have hb:=Nat.not_lt.mp hb;rw[gF hb]at e;exact new b o hb e
theorem Sb:∀as:List Addr,Vals (as.map V.ref) (as.map Value.ref)
 | []=>.nil
 |_::as=>.cons rfl (Sb as)
end
section
variable{X:Cx}
end
def c7(ns:List Int):List Int:=ns.mergeSort fun a b=>decide (a≤b)
theorem V8(ns:List Int):(c7 ns).Perm ns:=List.mergeSort_perm _ _
theorem ki(ns:List Int):(c7 ns).Pairwise (·≤·):=by
 have h:=List.pairwise_mergeSort (le:=fun a b:Int=>decide (a≤b)) (by intro a b c h1 h2;simp at *;omega) (by intro a b;simp;omega) ns;exact h.imp fun h=>by simpa using h
theorem e_:∀{l m:List Int},l.Perm m→l.Pairwise (·≤·)→m.Pairwise (·≤·)→l=m
 | [],m,p,_,_=>List.Perm.nil_eq p
 |a::l,[],p,_,_=>absurd p.length_eq (by simp)
 |a::l,b::m,p,h1,h2=>by
  have e:a=b:=by
   rcases yO.mp (p.mem_iff.mp zy)with q | q
   ·exact q
   ·rcases yO.mp (p.mem_iff.mpr zy)with r | r
    ·exact r.symm
    ·have:=(ze.mp h1).1 b r;have:=(ze.mp h2).1 a q;omega
  subst e;rw[e_ ((List.perm_cons a).mp p) (ze.mp h1).2 (ze.mp h2).2]
theorem kP{l ns:List Int}(p:l.Perm ns)(h:l.Pairwise (·≤·)):l=c7 ns:=e_ (p.trans (V8 ns).symm) h (ki ns)
section
variable{X:Cx}
end
theorem Pe:typeLookup (.type "tuple") "keys"=pure none:=am_miss_of_fast (by decide +kernel)
theorem Sx:entryFor table "dict.update.loop"=some Builtin.«dict.update.loop»:=entryFor_of_tree (by kernel_rfl)
theorem Ws:plainId "dict.update.loop"=true:=by decide +kernel
theorem yj{a:Addr}{xs:Array Value}{k:Nat}{sl:Array (Option Value)}{Q:Option Value→Shared→Prop}(hx:s.heap.get? a=some {cls:=.type "tuple",dict:=none,data:=.seq xs k,slots:=sl})(hA:A.handled=none)(h:∀g tk,(∀b o,s.heap.get? b=some o→g.get? b=some o)→Q none {s with heap:=g,toks:=tk}):wpAny (model prog w) A (getAttr? (.ref a) "keys") Q E s:=by
 obtain⟨hp,g,d,tk,os⟩:=s;have hT:∀tk',(⟨hp,g,d,tk',os⟩:Shared).TypeIs (.ref a) "tuple":=fun _=>⟨_,hx,rfl⟩;have f1:=sub_AttributeError;have f3:=F.slot_tuple_getattribute.lookup;have f4:=F.slot_tuple_getattribute.bind (.ref a);have f5:=am_tuple_getattr_none;unfold getAttr? getAttrBy? getAttrBy
 repeat (any_goals (first | assumption | exact hT _ | ((with_reducible show wpAny _ _ (call (Value.builtin "tuple.__getattribute__") _ _) _ _ _);refine call_meets F.slot_tuple_getattribute (hT _) am_entry_tuple_getattribute (F.args_tuple_getattribute_2 _ _) (meets_getattribute_miss_tuple a xs k sl "keys" _ Pe (by decide +kernel) (by decide +kernel)) ⟨hx,by simpa using hA,fun h' tk' e hx'=>?_⟩) | wp_step))
 obtain⟨t',u',he⟩:=hx'.there;show wpAny _ _ (getattributeRaised _ _ _ _ _ _ _) _ _ _;unfold getattributeRaised
 repeat (any_goals (first | assumption | wp_step))
 exact h _ _ hx'.keeps
section
variable{X:Cx}{BF:List (Addr×Obj)}{σ:St}{H:Hp}{s:Shared}
end
theorem Vc{l m:List Int}(p:l.Perm m):l.sum=m.sum:=by
 induction p with
 |nil=>rfl
 |cons x _ ih=>rw[y4,y4,ih]
 |swap x y l=>simp only[List.sum_cons];omega
 |trans _ _ a b=>exact a.trans b
section
variable{X:Cx}
end
end L2
namespace L2
open PySem PySem.Spec PyProof.Rows
def Cx.ren(X:Cx)(N':List Str):Cx:={X with N:=N'}
theorem Cx.Ok.ren{X:Cx}{N':List Str}(o:X.Ok):(X.ren N').Ok:=⟨o.mod,o.kind,o.glob,o.blt,o.above,o.inj,o.has,o.cab,o.hd,o.frames,o.stk,o.exf,o.bs,o.bsz,o.noex,o.exfs,o.funs,o.frf⟩
theorem Cx.Ok.unren{X:Cx}{N':List Str}(o:(X.ren N').Ok):X.Ok:=⟨o.mod,o.kind,o.glob,o.blt,o.above,o.inj,o.has,o.cab,o.hd,o.frames,o.stk,o.exf,o.bs,o.bsz,o.noex,o.exfs,o.funs,o.frf⟩
def Hid:List Str→List Str→St→Prop
 | [],[],[]=>True
 |a::N,b::N',o::σ=>(a=b∨o=none)∧Hid N N' σ
 |_,_,_=>False
theorem Hid.at:∀{N N':List Str}{σ:St},Hid N N' σ→∀i:Nat,N[i]?=N'[i]?∨σ[i]?=some none
 | [],[],[],_,i=>.inl rfl
 |a::N,b::N',o::σ,h,0=>by
  rcases h.1 with q | q
  ·exact .inl (by rw[q];rfl)
  ·exact .inr (by rw[q];rfl)
 |a::N,b::N',o::σ,h,i+1=>by
  simpa using Hid.at (N:=N) (N':=N') (σ:=σ) h.2 i
section
variable{X:Cx}{N':List Str}{BF:List (Addr×Obj)}{σ:St}{H:Hp}{s:Shared}
theorem Inv.ren(I:Inv X BF σ H s)(hl:N'.length=X.N.length)(h:Hid X.N N' σ):Inv (X.ren N') BF σ H s:=by
 refine⟨I.ok.ren,I.os,I.bare,I.base,?_,I.cell,I.free,I.freeC,I.pin,I.hok,I.len.trans hl.symm⟩;obtain⟨m,hn,hm⟩:=I.loc;refine⟨m,hn,fun i x v e1 e2 e3=>hm i x v ?_ e2 e3⟩
 rcases h.at i with q | q
 ·exact q.trans e1
 ·rw[e2]at q;cases q
theorem Inv.unren(I:Inv (X.ren N') BF σ H s)(hl:N'.length=X.N.length)(h:Hid X.N N' σ):Inv X BF σ H s:=by
 refine⟨I.ok.unren,I.os,I.bare,I.base,?_,I.cell,I.free,I.freeC,I.pin,I.hok,I.len.trans hl⟩;obtain⟨m,hn,hm⟩:=I.loc;refine⟨m,hn,fun i x v e1 e2 e3=>hm i x v ?_ e2 e3⟩
 rcases h.at i with q | q
 ·exact q.symm.trans e1
 ·rw[e2]at q;cases q
def tRen(N N':List Str)(t:TE):TE:=fun σ H Q=>Hid N N' σ∧t σ H Q
theorem jh{e:Expr}{t:TE}(N':List Str)(h:PE (X.ren N') e t)(hl:N'.length=X.N.length:=by rfl):PE X e (tRen X.N N' t):=by
 intro BF s σ H Q I q;exact thn (h BF s σ H Q (I.ren hl q.1) q.2) fun u s1 ⟨x,H1,I1,r1,q1⟩=>⟨x,H1,I1.unren hl q.1,r1,q1⟩
theorem Inv.forget(I:Inv X BF σ H s)(i:Nat):Inv X BF (σ.set i none) H s:=by
 refine⟨I.ok,I.os,I.bare,I.base,?_,I.cell,I.free,I.freeC,I.pin,I.hok,by rw[List.length_set];exact I.len⟩;obtain⟨m,hn,hm⟩:=I.loc;refine⟨m,hn,fun j x v e1 e2 e3=>hm j x v e1 ?_ e3⟩;by_cases e:i=j
 ·subst e;rw[List.getElem?_set_self']at e2;cases q:σ[i]? with
  |none=>rw[q]at e2;cases e2
  |some o=>rw[q]at e2;cases e2
 ·rw[List.getElem?_set_ne e]at e2;exact e2
def qL(i:Nat)(t:TS):TS:=fun D σ H=>t D (σ.set i none) H
theorem Vn{ss:List Stmt}{t:TS}(i:Nat)(h:PSs X ss t):PSs X ss (qL i t):=by
 intro BF s σ H D I q;exact h BF s _ H D (I.forget i) q
end
theorem V9{t u:TS}{D:Ends}{σ:St}{H:Hp}(R:St→Hp→Prop)(main:∀nx:St→Hp→Prop,(∀σ' H',R σ' H'→nx σ' H')→t {D with nx:=nx} σ H)(fin:∀σ' H',R σ' H'→u D σ' H'):xS t u D σ H:=main _ fin
section
variable{M:Model}{A:Around}{E:Value→Shared→Prop}{s:Shared}{env:Env}{outer l:List Env}{L e:Addr}{base:Heap}{cls a0 fl:Value}{Q:Unit→Shared→Prop}
end
section
variable{M:Model}{A:Around}{E:Value→Shared→Prop}{s:Shared}{env:Env}{outer:List Env}{L a T:Addr}{cls:Value}{Q:Unit→Shared→Prop}
end
section
variable{P:Program}{w:World}{K:W.Frag}{mg:Str→Option Value}{base:Heap}{N:List Str}{qual:Str}{scope:Scope}{f:Addr}{cd:Value}{A:Around}{outer:List Env}{s:Shared}{H:Hp}{E:XK}
end
section
variable{P:Program}{w:World}{K:W.Frag}{mg:Str→Option Value}{base:Heap}{N:List Str}{qual:Str}{scope:Scope}{f:Addr}{cd:Value}{A:Around}{outer:List Env}{s:Shared}{H:Hp}{E:XK}
variable{j k:Nat}{ps:List Str}{sp:Sp}{x:Str}{p pos:Pos}{e:Expr}{es:List Expr}{t:TA}
end
section
variable{prog:Program}{w:World}{A:Around}{E:Value→Shared→Prop}{h:Heap}{g:Array GenState}{d:Drawn}{t:Nat}{os:OsState}{a C:Addr}{o:Obj}{K:W.Frag}
end
section
variable{X:Cx}{BF:List (Addr×Obj)}{σ:St}{H:Hp}{s:Shared}
end
section
variable{X:Cx}{x c n:Str}{p pos cpos epos np hpos:Pos}{e:Expr}{es:List Expr}{ta:TA}{tb:TS}{b₀:Stmt}{suite:List Stmt}{j k i:Nat}{ps:List Str}{sp:Sp}{S:Addr}
end
end L2
namespace L2
open PySem PySem.Spec PyProof.Rows
theorem P5{K:W.Frag}{a:Addr}{xs:List V}{k:Nat}{g:TG}{tt:TT}{te:TE}{σ:St}{H:Hp}{Q:VK}(Pv:Nat→List V→Hp→Prop)(h0:Pv 0 [] H)(hl:∀i ys H,i≤xs.length→Pv i ys H→SqT K H a xs)(hs:∀i x ys H (C:List V→Hp→Prop),xs[i]?=some x→Pv i ys H→(∀ys' H',Pv (i+1) ys' H'→C ys' H')→ys.length<sizeLine∧g x (List.replicate k none++σ) H fun σ2 H2=>Wk σ2 (List.replicate k none++σ)∧tt σ2 H2 fun ok H3=>
   if ok=true then te σ2 H3 fun y H4=>C (ys++[y]) H4 else C ys H3)(hd:∀ys H,Pv xs.length ys H→ys.length≤sizeLine∧∀p,H p=none→Q (.ref p) (upd H p (.lst ys))):
  CompR (Itt K a) H k g tt te σ Q:=by
 refine⟨fun i m ys H=>m=xs.length-i∧i≤xs.length∧Pv i ys H,⟨xs.length,by simp,Nat.zero_le _,h0⟩,?_⟩;rintro i m ys H ⟨rfl,hi,p⟩;have q:=hl i ys H hi p;by_cases BL:i<xs.length
 ·have r:=hs i xs[i] ys H (fun ys' H'=>∃m',m'<xs.length-i∧m'=xs.length-(i+1)∧i+1≤xs.length∧Pv (i+1) ys' H') (by simp[BL]) p fun ys' H' p'=>⟨_,by omega,rfl,BL,p'⟩;refine .inr ⟨⟨xs,xs[i],q,by simp[BL]⟩,r.1,fun x H' y=>?_⟩;obtain⟨e,y⟩:=y;subst e;have ex:xs[i]?=some x:=y xs q;have ex2:xs[i]=x:=by simpa [BL] using ex
  rw[←ex2];exact r.2
 ·have e:i=xs.length:=by omega
  subst e;exact .inl ⟨⟨xs,q,yB _⟩,hd ys H p⟩
section
variable{P:Program}{w:World}{K:W.Frag}{mg:Str→Option Value}{base:Heap}{CX:CXT}{k:Nat}{f:Addr}{fd:FuncData}{ps:List Str}{sp sp':Sp}
end
section
variable{X:Cx}{k i:Nat}{x:Str}{p pos:Pos}{e:Expr}{es:List Expr}{t:TA}
end
end L2
namespace L2
open PySem PySem.Spec PyProof.Rows
section
variable{X:Cx}{params:Arguments}{body:Expr}{sc:Scope}{pos:Pos}{c T:Addr}
end
section
variable{X:Cx}{j k:Nat}{ps:List Str}{sp:Heap→Sp}{x:Str}{p pos:Pos}{e:Expr}{es:List Expr}{t:TA}
end
end L2
namespace L2
open PySem PySem.Spec PyProof.Rows
section
variable{X:Cx}{BF:List (Addr×Obj)}{σ:St}{H:Hp}{s:Shared}{h':Heap}
theorem Inv.zipped{t':Nat}{ch:List Addr}{T:Addr}{o:HO}(I:Inv X BF σ H s)(k:∀b o,b∉ch→s.heap.get? b=some o→h'.get? b=some o)(hc:∀b∈ch,cD X BF H b)(hT:s.heap.objs.size≤T)(new:ObjOk X.prog X.w (upd H T o) h' T o):Inv X BF σ (upd H T o) {s with heap:=h',toks:=t'}:=by
 have hn:=I.hok.fresh hT;have nit:∀b u,H b=some u→b∉ch:=fun b u e z=>by rw[(hc b z).1]at e;cases e
 have up:∀{b:Addr}{u:HO},H b=some u→upd H T o b=some u:=fun{b u} e=>by rw[Zc (Zk e hn)];exact e
 refine I.step (g':=s.gens) (d':=s.drawn) (ch:=ch) (fun b hb=>?_) (fun b o _ _ hc e _=>k b o hc e) (fun b o _ _ hc e _=>⟨o.slots,k b o hc e⟩) (fun b o' _ e n=>?_) (fun b o hc e=>⟨o,k b o hc e⟩) (fun _ _ e=>up e) (fun _ _ _ e=>up e) (fun b ps e=>⟨#[],by rw[up e];simp⟩) (fun m hm=>?_) (fun b u e=>?_) I.bare
 ·obtain⟨f0,f1,f2,f3,f4,f5⟩:=hc b hb;exact⟨f3,f1,f4,f5⟩
 ·rw[Zc (yN (zd (yE e) hT))];exact n
 ·obtain⟨o,es,ep,ho,r⟩:=hm;exact⟨o,es,ep,k _ o (fun z=>(hc _ z).2.1 rfl) ho,r⟩
 ·by_cases hb:b=T
  ·subst hb;rw[Z3]at e;cases e;exact new
  ·rw[Zc hb]at e;refine(I.hok b u e).stay (fun c v hc q=>k c v ?_ q) (fun _ q=>up q) fun _ _ q=>up q
   rcases hc with z | z
   ·rw[z];exact nit b u e
   ·exact nit c _ z
end
theorem sP{X:Cx}:OpR X (compareOp .IsNot) (fun x y H Q=>∃k:Bool,x=.bl k∧y=.bl true∧Q (.bl (!k)) H):=by
 intro BF s σ H x y v u Q I rx ry h;obtain⟨k,rfl,rfl,q⟩:=h;cases rx;cases ry;exact wpAny_isNot_plain (by cases k <;> rfl) (Zy I q (by cases k <;> rfl))
def sRen(N N':List Str)(t:TS):TS:=fun D σ H=>Hid N N' σ∧t {nx:=fun σ' H'=>Hid N N' σ'∧D.nx σ' H',rt:=fun _ _=>False} σ H
theorem vO{X:Cx}{st:Stmt}{t:TS}(N':List Str)(h:PS (X.ren N') st t)(hl:N'.length=X.N.length:=by rfl):PS X st (sRen X.N N' t):=by
 intro BF s σ H D I q;refine thn (h BF s σ H _ (I.ren hl q.1) q.2) fun f s1 hf=>?_;cases f with
 |next=>
  obtain⟨σ',H',I',q1,q2⟩:=hf;exact⟨σ',H',I'.unren hl q1,q2⟩
 |brk=>
  obtain⟨σ',H',I',q1⟩:=hf;exact q1.elim
 |cont=>
  obtain⟨σ',H',I',q1⟩:=hf;exact q1.elim
 |ret u=>
  obtain⟨v,σ',H',I',r,q1⟩:=hf;exact q1.elim
section
variable{X:Cx}
end
theorem j6{K:W.Frag}{H H':Hp}{a:Addr}{xs:List V}(s:Same H H')(h:SqL K H a xs):SqL K H' a xs:=by
 rcases h with h | h
 ·rcases h with h | ⟨o,h⟩
  ·exact .inl (.inl (s _ _ h))
  ·exact .inl (.inr ⟨o,s _ _ h⟩)
 ·exact .inr h
structure Pn(K:W.Frag)(S:Addr)(ns:List Int)(H:Hp)(a:Addr):Prop where
 at_:∃i r:Int,H a=some (.lst [.ref S,.int i,.int r])
 scr:SqL K H S (ns.map V.int)
 few:ns.length≤63
section
variable{K:W.Frag}{S:Addr}{ns:List Int}{H H':Hp}{a p:Addr}
theorem Pn.same(h:Pn K S ns H a)(g:Same H H'):Pn K S ns H' a:=by
 obtain⟨⟨i,r,e⟩,s,f⟩:=h;exact⟨⟨i,r,g _ _ e⟩,j6 g s,f⟩
theorem Pn.laid{o:HO}(h:Pn K S ns H a)(hp:H p=none):Pn K S ns (upd H p o) a:=h.same (Z5 hp o)
theorem Pn.ne(h:Pn K S ns H a)(hp:H p=none):p≠a:=by
 obtain⟨⟨i,r,e⟩,_⟩:=h;exact fun q=>by rw[q,e]at hp;cases hp
theorem Pn.grw(h:Pn K S ns H a)(g:Same H H'):Grw a H H':=by
 obtain⟨⟨i,r,e⟩,_⟩:=h;exact Ud e g
theorem Pn.upd(h:Pn K S ns H a)(i r:Int):Pn K S ns (upd H a (.lst [.ref S,.int i,.int r])) a:=by
 obtain⟨⟨i0,r0,e⟩,s,f⟩:=h;refine⟨⟨i,r,Z3⟩,?_,f⟩
 rcases s with(s | ⟨o,s⟩) | s
 ·refine .inl (.inl ?_);rw[Zc ?_]
  ·exact s
  ·intro z;rw[z,e]at s;cases ns with
   |nil=>cases s
   |cons n ns=>cases s
 ·refine .inl (.inr ⟨o,?_⟩);rw[Zc ?_]
  ·exact s
  ·intro z;rw[z,e]at s;cases s
 ·exact .inr s
theorem Us{H1:Hp}{o:HO}(h:L2.upd H p o=H1)(n:H p=none)(hp:Pn K S ns H a):Pn K S ns H1 a∧Grw a H H1∧p≠a∧aw a H1 p=some o:=by
 subst h;exact⟨hp.laid n,n9 n,hp.ne n,by rw[Zj (hp.ne n)];exact Z3⟩
theorem Pn.tup{xs:List V}(h:Pn K S ns H a)(e:H p=some (.tup xs)):aw a H p=some (.tup xs):=by
 obtain⟨⟨i,r,e0⟩,_⟩:=h;rw[Zj (fun z=>by rw[z,e0]at e;cases e)];exact e
end
abbrev Ris(ps:Array Nat):Prop:=ps.toList.Pairwise (·<·)
theorem Tq{ps:Array Nat}(h:Ris ps){i k:Nat}(hik:i<k)(hk:k<ps.size):ps[i]'(by omega)<ps[k]:=by
 have:=List.pairwise_iff_getElem.mp h i k (by rw[yU];omega) (by rw[yU];exact hk) hik;simpa using this
structure Cut(ps:Array Nat)(j b:Nat):Prop where
 le:b≤ps.size
 lo:∀i (h:i<ps.size),i<b→ps[i]<j
 hi:∀i (h:i<ps.size),b≤i→j≤ps[i]
theorem ik{ps:Array Nat}{j:Nat}(h:Ris ps):∀(fuel lo hi:Nat),hi≤ps.size→lo≤hi→hi-lo≤fuel→(∀i (q:i<ps.size),i<lo→ps[i]<j)→(∀i (q:i<ps.size),hi≤i→j≤ps[i])→Cut ps j (SetTable.below.go ps j fuel lo hi)
 | 0,lo,hi,h1,h2,h3,h4,h5=>by
  have e:lo=hi:=by omega
  subst e;exact⟨h1,h4,h5⟩
 |fuel+1,lo,hi,h1,h2,h3,h4,h5=>by
  show Cut ps j (if lo<hi then if ps.getD ((lo+hi) / 2) j<j then SetTable.below.go ps j fuel ((lo+hi) / 2+1) hi else SetTable.below.go ps j fuel lo ((lo+hi) / 2)else lo);by_cases c:lo<hi
  ·rw[yC c];have hm:(lo+hi) / 2<ps.size:=by omega
   have eg:ps.getD ((lo+hi) / 2) j=ps[(lo+hi) / 2]:=by
    simp[Array.getD,hm]
   rw[eg];by_cases d:ps[(lo+hi) / 2]<j
   ·rw[yC d];refine ik h fuel _ _ h1 (by omega) (by omega) (fun i q hi2=>?_) h5;by_cases e:i=(lo+hi) / 2
    ·subst e;exact d
    ·exact Aw (Tq h (i:=i) (k:=(lo+hi) / 2) (by omega) hm) d
   ·rw[yA d];refine ik h fuel _ _ (by omega) (by omega) (by omega) h4 (fun i q hi2=>?_);by_cases e:i=(lo+hi) / 2
    ·subst e;omega
    ·have:=Tq h (i:=(lo+hi) / 2) (k:=i) (by omega) q;omega
  ·rw[yA c];have e:lo=hi:=by omega
   subst e;exact⟨h1,h4,h5⟩
theorem Sn{ps:Array Nat}(h:Ris ps)(j:Nat):Cut ps j (SetTable.below ps j):=
 ik h ps.size 0 ps.size (yB _) (zP _) (by omega) (fun i q z=>by omega) (fun i q z=>by omega)
theorem qY{ps:Array Nat}{j b:Nat}(h:Ris ps)(c:Cut ps j b)(hm:j∈ps.toList):ps[b]?=some j:=by
 obtain⟨k,hk,e⟩:=Ay.mp hm;rw[yU]at hk;have e:ps[k]=j:=by simpa using e
 have kb:b≤k:=by
  by_cases q:k<b
  ·have:=c.lo k hk q;omega
  ·omega
 have bk:b=k:=by
  by_cases q:b=k
  ·exact q
  ·have h1:=Tq h (i:=b) (k:=k) (by omega) hk;have h2:=c.hi b (by omega) (yB _);omega
 subst bk;rw[yS hk,e]
theorem jr{t:SetTable}(h:Ris t.place){j:Nat}(e:t.slot j=.empty):j∉t.place.toList:=fun hm=>by
 have q:=qY h (Sn h j) hm;have e:(if (t.place[SetTable.below t.place j]? == some j)=true then SetTable.Slot.live (SetTable.below t.place j)else if SetTable.has t.dummies j=true then SetTable.Slot.dummy else SetTable.Slot.empty)=SetTable.Slot.empty:=e;rw[q]at e;simp at e
theorem Nb{t:SetTable}(hd:t.dummies=#[])(j:Nat):t.slot j≠.dummy:=by
 unfold SetTable.slot;have:SetTable.has t.dummies j=false:=by
  rw[hd];unfold SetTable.has;rfl
 rw[this];intro e;by_cases c:(t.place[SetTable.below t.place j]? == some j)=true
 ·simp[c]at e
 ·simp[c]at e
theorem lC(t:SetTable)(p:SetTable.Probe)(h:p.dummy=none):(t.advance p).dummy=none:=by
 unfold SetTable.advance;by_cases c:p.more > 0
 ·rw[yC c];exact h
 ·rw[yA c];exact h
theorem So{t:SetTable}(hd:t.dummies=#[]){hashAt:Nat→Int}{h:Int}:∀(fuel:Nat)(p:SetTable.Probe),p.dummy=none→∀{j d},SetTable.probe.go t hashAt h fuel p=some (.empty j d)→d=none∧t.slot j=.empty
 | 0,p,hp,j,d,e=>by cases e
 |fuel+1,p,hp,j,d,e=>by
  have e:(match t.slot p.j with
   |.empty=>some (SetTable.Met.empty p.j p.dummy)
   |.dummy=>SetTable.probe.go t hashAt h fuel (t.advance {p with dummy:=some p.j})
   |.live i=>if (hashAt i==h)=true then some (SetTable.Met.candidate p.j i (t.advance p))else SetTable.probe.go t hashAt h fuel (t.advance p))=some (.empty j d):=e
  cases q:t.slot p.j with
  |empty=>
   rw[q]at e;cases e;exact⟨hp,q⟩
  |dummy=>exact absurd q (Nb hd _)
  |live i=>
   rw[q]at e;by_cases c:(hashAt i==h)=true
   ·simp[c]at e
   ·simp[c]at e;exact So hd fuel _ (lC t p hp) e
theorem lv{t:SetTable}(hr:Ris t.place)(hd:t.dummies=#[]){h:Int}{j:Nat}{d:Bool}(e:t.freeSlot h=some (j,d)):d=false∧j∉t.place.toList:=by
 unfold SetTable.freeSlot at e;generalize q:t.probe (fun _=>h+1) h (t.probeStart h)=r at e
 match r with
 |none=>cases e
 |some (.candidate _ _ _)=>cases e
 |some (.empty j' d')=>
  obtain⟨e1,e2⟩:=So hd _ _ (show(t.probeStart h).dummy=none from rfl) q;subst e1;cases e;exact⟨rfl,jr hr e2⟩
theorem Pi{α:Type}(xs:Array α)(p:Nat)(x:α)(hp:p≤xs.size):(SetTable.insertAt xs p x).toList=xs.toList.take p++x::xs.toList.drop p:=by
 unfold SetTable.insertAt;simp[Array.toList_append,Array.toList_extract,List.extract_eq_drop_take];rw[List.take_of_length_le (by simp)]
theorem iL{ps:Array Nat}(h:Ris ps){j:Nat}(hn:j∉ps.toList):Ris (SetTable.insertAt ps (SetTable.below ps j) j):=by
 have c:=Sn h j;show(SetTable.insertAt ps (SetTable.below ps j) j).toList.Pairwise (·<·);rw[Pi _ _ _ c.le,List.pairwise_append];refine⟨h.sublist (List.take_sublist _ _),ze.mpr ⟨fun y hy=>?_,h.sublist (List.drop_sublist _ _)⟩,fun y hy z hz=>?_⟩
 ·obtain⟨k,hk,rfl⟩:=Ay.mp hy;rw[List.length_drop,yU]at hk;rw[List.getElem_drop];have:=c.hi (SetTable.below ps j+k) (by omega) (by omega);have ne:ps[SetTable.below ps j+k]'(by omega)≠j:=fun q=>hn (by
   rw[←q];exact Array.getElem_mem_toList _)
  have e:ps.toList[SetTable.below ps j+k]'(by rw[Array.length_toList];omega)=ps[SetTable.below ps j+k]'(by omega):=by simp
  rw[e];omega
 ·obtain⟨k,hk,rfl⟩:=Ay.mp hy;rw[yX,yU]at hk;rw[List.getElem_take];have e:ps.toList[k]'(by rw[Array.length_toList];omega)=ps[k]'(by omega):=by simp
  rw[e];have l1:=c.lo k (by omega) (by omega)
  rcases yO.mp hz with rfl | hz
  ·exact l1
  ·obtain⟨k2,hk2,rfl⟩:=Ay.mp hz;rw[List.length_drop,yU]at hk2;rw[List.getElem_drop];have:=c.hi (SetTable.below ps j+k2) (by omega) (by omega);have e2:ps.toList[SetTable.below ps j+k2]'(by rw[Array.length_toList];omega)=ps[SetTable.below ps j+k2]'(by omega):=by simp
   rw[e2];omega
theorem mM(n:Nat):Ris (Array.range n):=by
 show(Array.range n).toList.Pairwise (·<·);rw[Array.toList_range];exact List.pairwise_lt_range
theorem Ts{f:Nat→Option (Nat×Nat)}(hf:∀j x,f j=some x→x.1=j):∀(l:List Nat),l.Pairwise (·<·)→((l.filterMap f).map (·.1)).Pairwise (·<·)
 | [],_=>List.Pairwise.nil
 |a::l,h=>by
  obtain⟨h1,h2⟩:=ze.mp h;have ih:=Ts hf l h2;rw[AY];cases q:f a with
  |none=>exact ih
  |some x=>
   show(x.1::(l.filterMap f).map (·.1)).Pairwise (·<·);refine ze.mpr ⟨fun y hy=>?_,ih⟩;obtain⟨z,hz,rfl⟩:=yz.mp hy;obtain⟨k,hk,e⟩:=List.mem_filterMap.mp hz;rw[hf a x q,hf k z e];exact h1 k hk
structure Gd(t:SetTable)(b:Bool):Prop where
 ris:Ris t.place
 dum:t.dummies=#[]
 led:t.led=b
theorem Vw{t:SetTable}{b:Bool}(h:Gd t b)(n:Nat):Gd (t.standIn n) b:=⟨mM n,rfl,h.led⟩
theorem sL{mask finger moves:Nat}{led plain:Bool}{hashes:Array Int}{t:SetTable}{o:Array Nat}(e:SetTable.laid mask finger moves led plain hashes=some (t,o)):Gd t led:=by
 unfold SetTable.laid at e;obtain⟨owner,_,e⟩:=Option.bind_eq_some_iff.mp e;cases e;refine⟨?_,rfl,rfl⟩;refine Ts (f:=fun j=>Option.map (fun x=>(j,x)) (owner.getD j none)) (fun j x h=>?_) (List.range (mask+1)) List.pairwise_lt_range;obtain⟨y,_,rfl⟩:=y8.mp h;rfl
theorem lZ{t:SetTable}{b:Bool}{es:Array (Int×Value)}{h:Int}{x:Value}(g:Gd t b):Gd (layNew t es h x).2.1 b∧(layNew t es h x).2.1.fits (layNew t es h x).1.size=true:=by
 unfold layNew;generalize q:t.freeSlot h=r
 match r with
 |none=>
  refine⟨Vw g _,?_⟩;show(t.standIn (es.size+1)).fits (es.push (h,x)).size=true;rw[Array.size_push];exact SetTable.standIn_fits _ _
 |some (slot,d)=>
  obtain⟨_,hn⟩:=lv g.ris g.dum q;refine⟨?_,SetTable.orStandIn_fits _ _⟩;show Gd ((t.put slot).1.orStandIn _) b;unfold SetTable.orStandIn;have gp:Gd (t.put slot).1 b:=by
   refine⟨iL g.ris hn,?_,g.led⟩;show(if SetTable.has t.dummies slot=true then _ else t.dummies)=#[];have:SetTable.has t.dummies slot=false:=by
    rw[g.dum];rfl
   rw[this];exact g.dum
  split
  ·exact gp
  ·exact Vw gp _
theorem fX{t:SetTable}{b:Bool}{es:Array (Int×Value)}{n:Nat}(g:Gd t b):Gd (relayAll t es n).2.1 b∧(relayAll t es n).2.1.fits (relayAll t es n).1.size=true:=by
 unfold relayAll;generalize q:t.relaid (Array.map (fun x=>x.fst) es) n=r
 match r with
 |none=>exact⟨Vw g _,SetTable.standIn_fits _ _⟩
 |some (t',o)=>
  have gl:=sL q;rw[g.led]at gl;have key:∀r:Array (Int×Value)×SetTable×Bool,r=(if (coversAll o es.size && t'.fits (Array.filterMap (fun x=>es[x]?) o).size)=true then(Array.filterMap (fun x=>es[x]?) o,t',false) else(es,t.standIn es.size,true))→Gd r.2.1 b∧r.2.1.fits r.1.size=true:=by
   rintro r rfl;by_cases c:(coversAll o es.size && t'.fits (Array.filterMap (fun x=>es[x]?) o).size)=true
   ·rw[yC c];rw[zz]at c;exact⟨gl,c.2⟩
   ·rw[yA c];exact⟨Vw g _,SetTable.standIn_fits _ _⟩
  exact key _ rfl
theorem m7{t:SetTable}{b p:Bool}(g:Gd t b):Gd {t with plain:=p} b:=⟨g.ris,g.dum,g.led⟩
instance decMemKey (k:Key) (ks:List Key):Decidable (k∈ks):=@List.instDecidableMemOfLawfulBEq Key instBEqOfDecidableEq inferInstance k ks
def jd(P:Program)(w:World)(e:Int×Value)(k:Key):Prop:=(ac P w).is k e.2=true∧e.1=(ac P w).hash k∧e.2.scannable=true
def cu(P:Program)(w:World)(h:Heap)(a:Addr)(ks:List Key):Prop:=
 ∃o es ep t,h.get? a=some o∧o.ExactSet∧o.data=.set es ep t∧(∃fs,es.toList.Perm fs∧Paired (jd P w) fs ks)∧t.fits es.size=true∧Gd t (!w.params.followText "set-order")∧ks.Nodup
theorem Paired.mem1{α β:Type}{F:α→β→Prop}:∀{xs:List α}{ys:List β},Paired F xs ys→∀x∈xs,∃y∈ys,F x y
 |_,_,.nil,_,h=>nomatch h
 |_,_,.cons f r,x,h=>by
  rcases yO.mp h with rfl | h
  ·exact⟨_,.head _,f⟩
  ·obtain⟨y,hy,q⟩:=Paired.mem1 r x h;exact⟨y,.tail _ hy,q⟩
theorem Paired.mem2{α β:Type}{F:α→β→Prop}:∀{xs:List α}{ys:List β},Paired F xs ys→∀y∈ys,∃x∈xs,F x y
 |_,_,.nil,_,h=>nomatch h
 |_,_,.cons f r,y,h=>by
  rcases yO.mp h with rfl | h
  ·exact⟨_,.head _,f⟩
  ·obtain⟨x,hx,q⟩:=Paired.mem2 r y h;exact⟨x,.tail _ hx,q⟩
theorem Paired.snoc{α β:Type}{F:α→β→Prop}{x:α}{y:β}(f:F x y):∀{xs:List α}{ys:List β},Paired F xs ys→Paired F (xs++[x]) (ys++[y])
 |_,_,.nil=>.cons f .nil
 |_,_,.cons g r=>.cons g (Paired.snoc f r)
section
variable{prog:Program}{w:World}{A:Around}{E:Value→Shared→Prop}{s:Shared}{a:Addr}{ks:List Key}
theorem qm{es:List (Int×Value)}(h:∃fs,es.Perm fs∧Paired (jd prog w) fs ks):ElemsOf (ac prog w) es:=fun e he=>by
 obtain⟨fs,p,m⟩:=h;obtain⟨k,_,h1,h2,h3⟩:=Paired.mem1 m e (p.mem_iff.mp he);exact⟨⟨k,h1,h2⟩,h3⟩
theorem Sj{es:List (Int×Value)}(h:∃fs,es.Perm fs∧Paired (jd prog w) fs ks):es.length=ks.length:=by
 obtain⟨fs,p,m⟩:=h;rw[p.length_eq];exact yK m
theorem qT{es:List (Int×Value)}{k:Key}(h:∃fs,es.Perm fs∧Paired (jd prog w) fs ks)(hk:k∈ks):∃j,es.findIdx? (fun e=>(ac prog w).is k e.2)=some j:=by
 obtain⟨fs,p,m⟩:=h;obtain⟨e,he,q,_⟩:=Paired.mem2 m k hk;have:(es.findIdx? (fun e=>(ac prog w).is k e.2)).isSome=true:=by
  rw[List.findIdx?_isSome];exact List.any_eq_true.mpr ⟨e,p.mem_iff.mpr he,q⟩
 exact Option.isSome_iff_exists.mp this
theorem p8{es:List (Int×Value)}{k:Key}(h:∃fs,es.Perm fs∧Paired (jd prog w) fs ks)(hk:k∉ks):es.findIdx? (fun e=>(ac prog w).is k e.2)=none:=by
 obtain⟨fs,p,m⟩:=h;rw[List.findIdx?_eq_none_iff];intro e he;obtain⟨k',hk',q,_⟩:=Paired.mem1 m e (p.mem_iff.mp he);refine zY.mpr fun z=>hk ?_;rw[(ac prog w).inj _ _ _ z q];exact hk'
theorem n_{x:Value}{Q:Bool→Shared→Prop}(hs:x.scannable=true)(q:∀b,Q b s):wpAny (model prog w) A (hashByValue 8 x) Q E s:=by
 cases x with
 |none=>exact(yx (q true):wpAny _ _ (pure true) _ _ _)
 |bool b=>exact(yx (q true):wpAny _ _ (pure true) _ _ _)
 |int i t=>exact(yx (q true):wpAny _ _ (pure true) _ _ _)
 |str z t=>exact(yx (q false):wpAny _ _ (pure false) _ _ _)
 |bytes z t=>exact(yx (q false):wpAny _ _ (pure false) _ _ _)
 |_=>cases hs
theorem kQ{o:Obj}{es:Array (Int×Value)}{ep:Nat}{t:SetTable}{es':Array (Int×Value)}{t':SetTable}{h:Heap}(ho:h.get? a=some o)(hx:o.ExactSet)(hd:o.data=.set es ep t):
  ∃o',(h.update a (Obj.putSet es' t')).get? a=some o'∧o'.ExactSet∧o'.data=.set es' (ep+1) t':=by
 obtain⟨c,d,dt,sl⟩:=o;simp only at hd;subst hd;exact⟨_,Bb _ ho rfl,hx,rfl⟩
theorem iG{t:SetTable}{n:Nat}{p:Bool}(h:t.fits n=true):SetTable.fits {t with plain:=p} n=true:=h
theorem rK{k:Key}{x:Value}{Q:Bool→Shared→Prop}(hk:(ac prog w).is k x=true)(hs:x.scannable=true)(G:cu prog w s.heap a ks)(hb:ks.length+1<scanBound)(fin:∀b h',Heap.SameBut a s.heap h'→cu prog w h' a (if k∈ks then ks else ks++[k])→Q b {s with heap:=h'}):wpAny (model prog w) A (setAddHashed a x ((ac prog w).hash k)) Q E s:=by
 obtain⟨o,es,ep,t,ho,hex,hd,hf,fit,gd,nd⟩:=G;have els:=qm hf;have len:=Sj hf;rw[yU]at len;unfold setAddHashed;refine zn ?_;rw[show(100000:Nat)=99999+1 from rfl,setAddHashedIn.eq_def];refine io (AU ho hd fit ?_);dsimp only;rw[byScan_of hs (by omega) els,yC rfl];refine io ?_;unfold setAddByScan;refine io (AL ?_);refine io (wpAny_setScan_of hk ho hd fit els ?_);by_cases hin:k∈ks
 ·obtain⟨j,ej⟩:=qT hf hin;rw[ej];refine yx (yx (fin false s.heap ⟨rfl,fun _ _=>rfl⟩ ?_));rw[yC hin];exact⟨o,es,ep,t,ho,hex,hd,hf,fit,gd,nd⟩
 ·rw[p8 hf hin];rw[yA hin]at fin;have lp:=layNew_perm t es ((ac prog w).hash k) x;obtain⟨gl,fl⟩:=lZ (es:=es) (h:=(ac prog w).hash k) (x:=x) gd;dsimp only;generalize layNew t es ((ac prog w).hash k) x=L at lp gl fl⊢;obtain⟨es1,t1,wd,gv⟩:=L;dsimp only at lp gl fl⊢;have nd2:(ks++[k]).Nodup:=by
   rw[Be];exact⟨nd,y7.mpr ⟨fun h=>(nomatch h),zA⟩,fun y hy z hz e=>hin (by rw[←yG.mp hz,←e];exact hy)⟩
  have hf1:∃fs,es1.toList.Perm fs∧Paired (jd prog w) fs (ks++[k]):=by
   obtain⟨fs,p,m⟩:=hf;refine⟨fs++[((ac prog w).hash k,x)],lp.trans ?_,Paired.snoc ⟨hk,rfl,hs⟩ m⟩;rw[Array.toList_push];exact p.append_right _
  have sz1:es1.size≤sizeLine:=by
   have:=Sj hf1;rw[yU,yM,z6]at this;exact Zf (by unfold scanBound at hb;omega)
  have main:∀t2:SetTable,Gd t2 (!w.params.followText "set-order")→t2.fits es1.size=true→wpAny (model prog w) A (do
    storeSet a es1 t2
    if (!wd && t2.tooFull)=true then
     match relayAll t2 es1 (SetTable.grown es1.size) with
     | (es,t,gave)=>do
      (match gave with | true=>rule "set.scan.the-table-gave-way" | false=>pure ())
      storeSet a es t
      pure (some true)
    else pure (some true)) (fun r s'=>wpAny (model prog w) A (match r with | some added=>pure added | none=>setAddHashedIn a x ((ac prog w).hash k) 99999) Q E s') E s:=by
   intro t2 g2 f2;refine io (wpAny_storeSet_of ho hd ?_ sz1);obtain⟨o1,ho1,hx1,hd1⟩:=kQ (es':=es1) (t':=t2) ho hex hd;by_cases c:(!wd && t2.tooFull)=true
   ·rw[yC c];have rp:=relayAll_perm t2 es1 (SetTable.grown es1.size);obtain⟨gr,fr⟩:=fX (es:=es1) (n:=SetTable.grown es1.size) g2;generalize relayAll t2 es1 (SetTable.grown es1.size)=R at rp gr fr⊢;obtain⟨es2,t3,gv2⟩:=R;dsimp only at rp gr fr⊢;have sz2:es2.size≤sizeLine:=by
     have:=rp.length_eq;rw[yU,yU]at this;omega
    have store:wpAny (model prog w) A (do
      storeSet a es2 t3
      pure (some true)) (fun r s'=>wpAny (model prog w) A (match r with | some added=>pure added | none=>setAddHashedIn a x ((ac prog w).hash k) 99999) Q E s') E {s with heap:=s.heap.update a (Obj.putSet es1 t2)}:=by
     refine io (wpAny_storeSet_of ho1 hd1 (yx (yx (fin true _ ((AD _ _ _).trans (AD _ _ _)) ?_))) sz2);obtain⟨o2,ho2,hx2,hd2⟩:=kQ (es':=es2) (t':=t3) ho1 hx1 hd1;obtain⟨fs,p,m⟩:=hf1;exact⟨o2,es2,_,t3,ho2,hx2,hd2,⟨fs,rp.trans p,m⟩,fr,gr,nd2⟩
    cases gv2 with
    |true=>exact io (AL store)
    |false=>exact io (yx store)
   ·rw[yA c];refine yx (yx (fin true _ (AD _ _ _) ?_));exact⟨o1,es1,_,t2,ho1,hx1,hd1,hf1,f2,g2,nd2⟩
  have both:∀b:Bool,wpAny (model prog w) A (do
    storeSet a es1 (if b=true then t1 else{t1 with plain:=false})
    if (!wd && (if b=true then t1 else{t1 with plain:=false}).tooFull)=true then
     match relayAll (if b=true then t1 else{t1 with plain:=false}) es1 (SetTable.grown es1.size) with
     | (es,t,gave)=>do
      (match gave with | true=>rule "set.scan.the-table-gave-way" | false=>pure ())
      storeSet a es t
      pure (some true)
    else pure (some true)) (fun r s'=>wpAny (model prog w) A (match r with | some added=>pure added | none=>setAddHashedIn a x ((ac prog w).hash k) 99999) Q E s') E s:=fun b=>by
   cases b with
   |true=>exact main t1 gl fl
   |false=>exact main {t1 with plain:=false} (m7 gl) (iG fl)
  have tail:wpAny (model prog w) A (if t1.plain=true then hashByValue 8 x >>= fun b=>(do
    storeSet a es1 (if b=true then t1 else{t1 with plain:=false})
    if (!wd && (if b=true then t1 else{t1 with plain:=false}).tooFull)=true then
     match relayAll (if b=true then t1 else{t1 with plain:=false}) es1 (SetTable.grown es1.size) with
     | (es,t,gave)=>do
      (match gave with | true=>rule "set.scan.the-table-gave-way" | false=>pure ())
      storeSet a es t
      pure (some true)
    else pure (some true))else pure true >>= fun b=>(do
    storeSet a es1 (if b=true then t1 else{t1 with plain:=false})
    if (!wd && (if b=true then t1 else{t1 with plain:=false}).tooFull)=true then
     match relayAll (if b=true then t1 else{t1 with plain:=false}) es1 (SetTable.grown es1.size) with
     | (es,t,gave)=>do
      (match gave with | true=>rule "set.scan.the-table-gave-way" | false=>pure ())
      storeSet a es t
      pure (some true)
    else pure (some true))) (fun r s'=>wpAny (model prog w) A (match r with | some added=>pure added | none=>setAddHashedIn a x ((ac prog w).hash k) 99999) Q E s') E s:=by
   by_cases c:t1.plain=true
   ·rw[yC c];exact io (n_ hs both)
   ·rw[yA c];exact io (yx (both true))
  cases gv with
  |true=>exact io (AL tail)
  |false=>exact io (yx tail)
end
theorem tV(a:Value):checkBuiltinCall "set.__new__" ⟨[.type "set",a],[]⟩=pure ():=by kernel_rfl
theorem sR(a:Value):Builtin.Frozenset.newClass "set" ⟨[.type "set",a],[]⟩=pure (.type "set",[a]):=by kernel_rfl
def ddK:List Key→List Key→List Key
 |BS,[]=>BS
 |BS,k::r=>ddK (if k∈BS then BS else BS++[k]) r
theorem gQ(k:Key):∀(l BS:List Key),ddK BS (l++[k])=if k∈ddK BS l then ddK BS l else ddK BS l++[k]
 | [],BS=>rfl
 |x::l,BS=>gQ k l _
theorem dI:∀(l BS:List Key),(ddK BS l).length≤BS.length+l.length
 | [],BS=>yB _
 |x::l,BS=>by
  have:=dI l (if x∈BS then BS else BS++[x]);show(ddK (if x∈BS then BS else BS++[x]) l).length≤_;rw[zu];by_cases h:x∈BS
  ·rw[yC h]at this⊢;omega
  ·rw[yA h]at this⊢;rw[yM,z6]at this;omega
theorem dM:∀(l BS:List Key)(k:Key),k∈ddK BS l↔k∈BS∨k∈l
 | [],BS,k=>⟨.inl,fun h=>h.elim id (fun h=>nomatch h)⟩
 |x::l,BS,k=>by
  show k∈ddK (if x∈BS then BS else BS++[x]) l↔_;rw[dM l _ k];by_cases h:x∈BS
  ·rw[yC h,yO];constructor
   ·rintro(q | q)
    ·exact .inl q
    ·exact .inr (.inr q)
   ·rintro(q | rfl | q)
    ·exact .inl q
    ·exact .inl h
    ·exact .inr q
  ·rw[yA h,yO,zk,yG];constructor
   ·rintro((q | q) | q)
    ·exact .inl q
    ·exact .inr (.inl q)
    ·exact .inr (.inr q)
   ·rintro(q | q | q)
    ·exact .inl (.inl q)
    ·exact .inl (.inr q)
    ·exact .inr q
variable{prog:Program}{w:World}{A:Around}{E:Value→Shared→Prop}{s:Shared}
abbrev aA(w:World):Obj:={cls:=.type "set",dict:=none,data:=.set #[] 0 (.fresh 0 0 (!w.params.followText "set-order"))}
theorem Pj(a:Value){Q₁:Value→Shared→Prop}(h:Q₁ (.ref s.heap.objs.size) {s with heap:=s.heap.push (aA w)}):
  codeAny (model prog w) A (.call (.builtin "set.__new__") ⟨[.type "set",a],[]⟩) (wants Q₁ E) s:=by
 refine codeAny_call_builtin PySem.F.plain_set_new PySem.F.entry_set_new ?_;rw[tV];refine yx ?_;unfold Builtin.«set.__new__»;rw[sR];refine io (yx (io ?_));unfold newSet setsByText;refine io (io (wpAny_askSetting (yx ?_)));exact zB (yx h)
theorem Uj{h h':Heap}{a:Addr}{ks:List Key}(q:cu prog w h a ks)(k:∀o,h.get? a=some o→h'.get? a=some o):cu prog w h' a ks:=by
 obtain⟨o,es,ep,t,ho,r⟩:=q;exact⟨o,es,ep,t,k o ho,r⟩
theorem lX{h:Heap}{a:Addr}(e:h.get? a=some (aA w)):cu prog w h a []:=
 ⟨_,#[],0,_,e,⟨rfl,rfl,rfl⟩,rfl,⟨[],Bh _,.nil⟩,by rfl,⟨List.Pairwise.nil,rfl,rfl⟩,zA⟩
section
variable{prog:Program}{w:World}{A:Around}{R:Result→Shared→Prop}{I:Addr}{fp wr:List Addr}{n:Nat}{P:Nat→Value→Prop}{St:Nat→Heap→Prop}
theorem lF(W:Walks prog w A.in1 I fp wr n P St)(S:Addr)(hS:S∉fp)(ks:List Key)(hzn:ks.length=n)(hv:∀(i:Nat) v,P i v→∃k,ks[i]?=some k∧(ac prog w).is k v=true∧v.scannable=true)(hb:n+1<scanBound):
  ∀(m i:Nat)(s:Shared),n-i=m→i≤n→St i s.heap→cu prog w s.heap S (ddK [] (ks.take i))→
   (∀h' tk,(∀b o,b∉S::wr→s.heap.get? b=some o→h'.get? b=some o)→cu prog w h' S (ddK [] ks)→R (.ok (.ret .none)) {s with heap:=h',toks:=tk})→
   codeAny (model prog w) A (.builtin "set.update.loop" ⟨[.ref S,.ref I],[]⟩) R s:=by
 have hSw:S∉wr:=fun q=>hS (W.sub _ q);intro m
 induction m with
 |zero=>
  intro i s hk hi st so fin;obtain rfl:i=n:=by omega
  refine zM PyProof.Rows.F.entry_set_update_loop ?_;rw[zI PyProof.Rows.F.plain_set_update_loop _];refine io (m:=pyNext (.ref I)) (W.done s _ _ st fun h' tk kp=>yx (fin h' tk (fun b o nb e=>kp b o (fun q=>nb (zC _ q)) e) ?_));rw[←hzn,yV]at so;exact Uj so fun o e=>kp S o hSw e
 |succ m ih=>
  intro i s hk hi st so fin;have BL:i<n:=by omega
  refine zM PyProof.Rows.F.entry_set_update_loop ?_;rw[zI PyProof.Rows.F.plain_set_update_loop _];refine io (m:=pyNext (.ref I)) (W.item i s _ _ BL st fun v h1 tk1 pv st1 kp1=>?_);obtain⟨k,hkk,hk1,hk2⟩:=hv i v pv;have so1:=Uj so fun o e=>kp1 S o hSw e;refine io (m:=holding [v] (setAdd S v)) (zn ?_);unfold setAdd;refine zn (io ((ac prog w).pyHash hk1 ?_));have BE:=dI (ks.take i) [];rw[yX,zZ]at BE;refine rK hk1 hk2 (s:={s with heap:=h1,toks:=tk1+1}) so1 (by omega) fun b h2 sb so2=>?_;have et:ks.take (i+1)=ks.take i++[k]:=by rw[List.take_add_one,hkk];rfl
  rw[←gQ,←et]at so2;refine yx ⟨AK PyProof.Rows.F.plain_set_update_loop _,ih (i+1) _ (by omega) BL (W.frame _ _ _ st1 fun b hb o e=>(sb.2 b fun q=>hS (by rw[←q];exact hb)).trans e) so2 fun h' tk kp so'=>fin h' tk (fun b o nb e=>kp b o nb ?_) so'⟩;have nS:b≠S:=fun q=>nb (by rw[q];exact zy);exact(sb.2 b nS).trans (kp1 b o (fun q=>nb (zC _ q)) e)
end
theorem vU{k:Key}{u:Value}(r:RelV (kV k) u):(ac prog w).is k u=true∧u.scannable=true:=by
 cases k with
 |inl i=>obtain⟨t,rfl⟩:=r;exact⟨Wt prog w i t,rfl⟩
 |inr x=>obtain⟨t,rfl⟩:=r;exact⟨Ss prog w x t,rfl⟩
theorem mT{l:Addr}{its:List Value}{ks:List Key}{R:Value→Shared→Prop}(hh:A.handled=none)(hl:s.heap.IsList l its.toArray)(hv:Vals (ks.map kV) its)(hb:its.length+1<scanBound)(h:∀(h':Heap) (tk:Nat),cu prog w h' s.heap.objs.size (ddK [] ks)→(∀b o,b<s.heap.objs.size→s.heap.get? b=some o→h'.get? b=some o)→R .none {s with heap:=h',toks:=tk}):
  codeAny (model prog w) A (.call (.builtin "set.__init__") ⟨[.ref s.heap.objs.size,.ref l],[]⟩) (wants R E) {s with heap:=s.heap.push (aA w)}:=by
 have own:(s.heap.push (aA w)).get? s.heap.objs.size=some (aA w):=yH _ rfl;have ty:Shared.TypeIs {s with heap:=s.heap.push (aA w)} (.ref s.heap.objs.size) "set":=⟨_,own,rfl⟩;refine codeAny_call_builtin PySem.F.called_set.init.plain PySem.F.entry_set_init (check_set_init_1 ty ?_);obtain⟨⟨c0,d0,dt0,sl0⟩,ho,hc,nl,hd⟩:=hl;simp only at hc hd;subst hc hd;have ho1:(s.heap.push (aA w)).get? l=some {cls:=.type "list",dict:=d0,data:=.seq its.toArray nl,slots:=sl0}:=yy _ ho;have hl1:(s.heap.push (aA w)).IsList l its.toArray:=⟨_,ho1,rfl,nl,rfl⟩;have f1:=PySem.F.sub_list_set;have f2:=PySem.F.sub_list_frozenset;have f3:(Value.type "list" == Value.type "dict")=false:=by decide
 unfold Builtin.«set.__init__» noKeywords Builtin.Frozenset.updateFrom;generalize hP:pyIter=PI
 wp_walk
 subst hP;refine Bd hl1 (io (Bx ?_));have lt0:l<s.heap.objs.size:=yE ho;have hz:ks.length=its.length:=by
  have:=hv.length;rw[pi]at this;exact this
 have ne0:l≠(s.heap.push (aA w)).objs.size:=by rw[A1];exact yN (Af lt0)
 have nin:s.heap.objs.size∉[(s.heap.push (aA w)).objs.size,l]:=by
  rw[A1];simp only[List.mem_cons,List.not_mem_nil,or_false,not_or];exact⟨yN (Bl _),zR lt0⟩
 have hh3:A.in1.in1.handled=none:=by simp[hh]
 refine lF (Walks.list hh3 _ l ne0 its.toArray) s.heap.objs.size nin ks (by rw[zf];exact hz) (fun i v e=>?_) (by rw[zf];exact hb) (its.toArray.size-0) 0 _ (by omega) (zP _) ?st ?_ ?_
 case st=>exact⟨⟨_,yH _ rfl,rfl,rfl⟩,hl1.push _⟩
 ·have e':its[i]?=some v:=by simpa using e
  have hi:i<ks.length:=by
   rw[hz];exact(yI.mp e').1
  obtain⟨u,hu,ru⟩:=hv.get (i:=i) (x:=kV ks[i]) (by rw[yL,y3 hi];rfl);rw[e']at hu;cases hu;exact⟨ks[i],y3 hi,vU ru⟩
 ·have g2:((s.heap.push (aA w)).push {cls:=.type "list_iterator",data:=.fields #[.ref l,.int 0 0]}).get? s.heap.objs.size=some (aA w):=yy _ own;exact lX g2
 ·intro h' tk kp so;refine yx (yx (h h' tk so fun b o hb2 e=>kp b o ?_ (yy _ (yy _ e))));simp only[List.mem_cons,List.not_mem_nil,or_false,not_or];exact⟨yN hb2,by rw[A1];exact yN (Af hb2)⟩
theorem Pm{l:Addr}{its:List Value}{ks:List Key}{Q:Value→Shared→Prop}(hh:A.handled=none)(hl:s.heap.IsList l its.toArray)(hv:Vals (ks.map kV) its)(hb:its.length+1<scanBound)(h:∀(h':Heap) (tk:Nat),cu prog w h' s.heap.objs.size (ddK [] ks)→(∀b o,b<s.heap.objs.size→s.heap.get? b=some o→h'.get? b=some o)→Q (.ref s.heap.objs.size) {s with heap:=h',toks:=tk}):
  wpAny (model prog w) A (call (.type "set") [.ref l]) Q E s:=by
 obtain⟨c,tl,hmro⟩:=PySem.F.called_set.mro;have k1:=PySem.F.called_set.made;have k2:=PySem.F.called_set.sub;have k3:=PySem.F.called_set.notType;have k4:=PySem.F.called_set.canCreate;have k5:=PySem.F.typeCall_set_1 (.ref l);refine wpAny_call (codeAny_of_tree ?_);show wpAny _ _ (callAny (.type "set") _) _ _ _;refine yx ⟨Code.quiet_builtin _ (by decide +kernel),zM PySem.F.entry_type_call ?_⟩;rw[Around.under_plain (weight_type_call_type "set" [.ref l] []) rfl]
 repeat (any_goals (first | assumption | wp_step))
 refine A5 (Pj (.ref l) (E:=E) (Q₁:=fun obj s1=>obj=.ref s.heap.objs.size∧s1={s with heap:=s.heap.push (aA w)}) ⟨rfl,rfl⟩) fun r s1 hr=>?_;cases r with
 |error e=>exact hr
 |ok fl=>
  cases fl with
  |ret obj=>
   obtain⟨rfl,rfl⟩:=hr;have own:(s.heap.push (aA w)).get? s.heap.objs.size=some (aA w):=yH _ rfl;have ty:Shared.TypeIs {s with heap:=s.heap.push (aA w)} (.ref s.heap.objs.size) "set":=⟨_,own,rfl⟩;have k6:=PySem.F.called_set.init.lookup;have k7:=PySem.F.called_set.init.bind (.ref s.heap.objs.size)
   repeat (any_goals (first | assumption | wp_step))
   refine codeAny_mono (mT (R:=fun r s2=>r=.none∧∃h' tk,s2={s with heap:=h',toks:=tk}∧cu prog w h' s.heap.objs.size (ddK [] ks)∧(∀b o,b<s.heap.objs.size→s.heap.get? b=some o→h'.get? b=some o)) (E:=E) (by simp[hh]) hl hv hb fun h' tk so kp=>⟨rfl,h',tk,rfl,so,kp⟩) fun r2 s2 hr2=>?_;cases r2 with
   |error e=>exact hr2
   |ok fl2=>
    cases fl2 with
    |ret r=>
     obtain⟨rfl,h',tk,rfl,so,kp⟩:=hr2
     repeat (any_goals (first | assumption | wp_step))
     exact h _ _ so kp
    |_=>exact hr2.elim
  |_=>exact hr.elim
def eQ(prog:Program)(w:World)(a:Addr)(ks:List Key):HO:=.ext fun h=>cu prog w h a ks
section
variable{X:Cx}
theorem mU(hc:X.calm=true):aL X (.type "set") (fun xs H Q=>∃(p:Addr)(ks:List Key),xs=[.ref p]∧SqL X.K H p (ks.map kV)∧ks.length<4000∧∀a,H a=none→Q (.ref a) (upd H a (eQ X.prog X.w a (ddK [] ks)))):=by
 intro BF s σ H xs us Q I r h;obtain⟨p,ks,rfl,hq,hz,q⟩:=h;obtain⟨u,rfl,ru⟩:=W2 r;cases ru;obtain⟨its,rv,pl,_⟩:=I.list hq;have hl:=rv.length;rw[pi]at hl;refine Pm (I.ok.hd hc) pl.isList rv (by unfold scanBound;omega) fun h' tk so kp=>?_;refine⟨.ref s.heap.objs.size,_,I.laid (t':=tk) (fun b o e=>kp b o (yE e) e) (yB _) (show ObjOk X.prog X.w _ h' _ (eQ X.prog X.w s.heap.objs.size (ddK [] ks))from ?_),rfl,q _ (I.hok.fresh (yB _))⟩;refine⟨so,?_,fun h1 h2 a k=>?_⟩
 ·obtain⟨o,_,_,_,ho,_⟩:=so;exact⟨o,ho⟩
 ·exact Uj a k
end
theorem Xy:Slot "set_iterator" (Str.ofString "__next__") "set_iterator.__next__":=Slot.of (owner:="set_iterator") (n:="__next__") (by kernel_rfl) (by kernel_rfl) (by kernel_rfl) (by kernel_rfl) (.inl (by kernel_rfl)) (by kernel_rfl) (by kernel_rfl)
theorem T0:Slot "set_iterator" (Str.ofString "__iter__") "set_iterator.__iter__":=Slot.of (owner:="set_iterator") (n:="__iter__") (by kernel_rfl) (by kernel_rfl) (by kernel_rfl) (by kernel_rfl) (.inl (by kernel_rfl)) (by kernel_rfl) (by kernel_rfl)
theorem Pp(a:Value):argsOk "set_iterator.__next__" {pos:=[a]}:=by kernel_rfl
theorem Pq(a:Value):argsOk "set_iterator.__iter__" {pos:=[a]}:=by kernel_rfl
theorem P0:entryFor PySem.table "set_iterator.__next__"=some PySem.Builtin.«set_iterator.__next__»:=by kernel_rfl
theorem P2:entryFor PySem.table "set.__iter__"=some PySem.Builtin.«frozenset.__iter__»:=by kernel_rfl
theorem i8:firstArgMember (.type "StopIteration") []=pure .none:=by kernel_rfl
theorem pZ:ownMembersOf (.type "StopIteration") []=#[]:=by kernel_rfl
section
theorem Xv{α:Type}{Q:α→Shared→Prop}(hh:A.handled=none)(k:∀h' e,(∀b o,s.heap.get? b=some o→h'.get? b=some o)→Shared.TypeIs {s with heap:=h'} (.ref e) "StopIteration"→E (.ref e) {s with heap:=h'}):
  wpAny (model prog w) A (do
   let x ←newExc (.type "StopIteration") []
   raiseNew x:Sem α) Q E s:=by
 refine io ?_;unfold newExc;refine io (wpAny_newTuple ?_ (zP _));rw[i8,pZ];refine io (yx (zB (wpAny_raiseNew_none hh (k _ _ (fun b o e=>yy _ (yy _ e)) ⟨_,yH _ rfl,rfl⟩))))
theorem Uo{it:Addr}{Q:Option Value→Shared→Prop}(ty:s.TypeIs (.ref it) "set_iterator")(h:wpAny (model prog w) A.in1 (Builtin.«set_iterator.__next__» ⟨[.ref it],[]⟩) (fun fin s'=>∃v,fin=.done (.ret v)∧Q (some v) s') (fun e s'=>s'.TypeIs e "StopIteration"∧Q none s') s):
  wpAny (model prog w) A (pyNext (.ref it)) Q E s:=by
 unfold pyNext;refine io (wpAny_attempt ?_);refine wpAny_callSpecial?_slotG ty Xy.toG ?_;refine zT (zJ Xy ty P0 (Q:=fun v s'=>Q (some v) s') h (Pp _)) (fun v s' q=>yx q) (fun e s' q=>?_);exact io (A2 q.1 isSubtype_stop (by rw[yC rfl];exact yx q.2))
abbrev jt(first:Value)(i:Nat)(a:Addr)(n ep:Nat):Obj:={cls:=.type "set_iterator",data:=.fields #[first,.int i 0,.ref a,.int n 0,.int ep 0]}
theorem Rk{Q:Bool→Shared→Prop}(q:Q (w.params.followText "set-order") s):wpAny (model prog w) A setsByText Q E s:=by
 unfold setsByText;exact io (wpAny_askSetting (yx q))
variable{a:Addr}{o:Obj}{es:Array (Int×Value)}{ep:Nat}{t:SetTable}
theorem O5{slot given:Nat}{Q:Option (Value×Nat)→Shared→Prop}(ht:w.params.followText "set-order"=true)(ho:s.heap.get? a=some o)(hd:o.data=.set es ep t)(fit:t.fits es.size=true)(q:Q ((pickOrder (w.params.setOrder a ep) es)[given]?.map fun e=>(e.2,slot)) s):wpAny (model prog w) A (setNext a slot given ep) Q E s:=by
 unfold setNext;refine io (AU ho hd fit ?_);refine io (Rk ?_);rw[ht,if_pos rfl,if_neg (by simp)];refine io ?_;unfold setWalk;refine io (AU ho hd fit ?_);refine io (Rk ?_);rw[ht,yC rfl];exact io (wpAny_askSetting (yx (yx q)))
theorem Qf{slot given:Nat}{Q:Option (Value×Nat)→Shared→Prop}(ht:w.params.followText "set-order"=false)(ho:s.heap.get? a=some o)(hd:o.data=.set es ep t)(fit:t.fits es.size=true)(g:Gd t true)(np:(!t.plain && decide (es.size > 1))=false)(q:Q (match es[SetTable.below t.place slot]?,t.place[SetTable.below t.place slot]? with
   |some e,some j=>some (e.2,j+1)
   |_,_=>none) s):wpAny (model prog w) A (setNext a slot given ep) Q E s:=by
 unfold setNext;refine io (AU ho hd fit ?_);refine io (Rk ?_);rw[ht,yA (by decide)];show wpAny _ _ (if (!t.plain && decide (es.size > 1))=true then _ else _) _ _ _;rw[np,yA (by decide)];refine io (show wpAny _ _ (if (!t.led && !es.isEmpty)=true then _ else pure ()) _ _ _ from ?_);rw[g.led,if_neg (by simp)];refine yx (yx ?_);cases h1:es[SetTable.below t.place slot]? with
 |none=>rw[h1]at q;exact q
 |some e=>
  rw[h1]at q;cases h2:t.place[SetTable.below t.place slot]? with
  |none=>rw[h2]at q;exact q
  |some j=>rw[h2]at q;exact q
theorem iV{place:Nat}{e:Int×Value}{Q:Value→Shared→Prop}(ho:s.heap.get? a=some o)(hd:o.data=.set es ep t)(fit:t.fits es.size=true)(he:es[place]?=some e)(q:Q e.2 s):wpAny (model prog w) A (setNextDrawn a place ep) Q E s:=by
 unfold setNextDrawn;refine io (AU ho hd fit ?_);dsimp only;rw[if_neg (by simp),he];exact yx q
theorem Wh{it:Addr}{first:Value}{i:Nat}{Q:PySem.Fin→Shared→Prop}(hit:s.heap.get? it=some (jt first i a es.size ep))(ho:s.heap.get? a=some o)(hd:o.data=.set es ep t)(fit:t.fits es.size=true)(q:wpAny (model prog w) A (match first with
   |.int slot _=>do
    let r ←setNext a slot.toNat i ep
    match r with
     |some (x,next)=>do
      setField (.ref it) 0 (rawInt next)
      setField (.ref it) 1 (rawInt (i+1))
      ret x
     |none=>do
      setField (.ref it) 2 .none
      let x ←newExc (.type "StopIteration") []
      raiseNew x
   |x=>do
    let y ←seqItems? first
    match y with
     |some places=>
      match places[i]? with
      |some (.int place _)=>do
       let x ←setNextDrawn a place.toNat ep
       setField (.ref it) 1 (rawInt (i+1))
       ret x
      |some val=>unsupported "internal:set_iterator"
      |none=>do
       setField (.ref it) 0 (rawInt 0)
       setField (.ref it) 2 .none
       let x ←newExc (.type "StopIteration") []
       raiseNew x
     |x=>unsupported "internal:set_iterator") Q E s):wpAny (model prog w) A (Builtin.«set_iterator.__next__» ⟨[.ref it],[]⟩) Q E s:=by
 unfold Builtin.«set_iterator.__next__»;refine io (show wpAny _ _ (pure (Value.ref it,[])) _ _ _ from yx ?_);refine io (A3 hit rfl ?_);refine io (wpAny_setEntries_of ho hd fit ?_);rw[if_neg (by simp)];exact q
end
theorem Ta{α:Type}:∀(l:List α)(i:Nat)(x:α),l[i]?=some x→(x::l.eraseIdx i).Perm l
 | [],i,x,h=>by simp at h
 |a::l,0,x,h=>by
  have e:a=x:=by simpa using h
  subst e;exact Bh _
 |a::l,i+1,x,h=>by
  have ih:=Ta l i x (by simpa using h);show(x::a::l.eraseIdx i).Perm (a::l);exact(List.Perm.swap a x _).trans (ih.cons a)
theorem kL{α:Type}(next:Nat→Nat):∀(fuel k:Nat)(left:List α)(out:Array α),left.length≤fuel→(pickOrder.go next fuel k left out).toList.Perm (out.toList++left)
 | 0,k,left,out,h=>by
  have e:left=[]:=List.eq_nil_of_length_eq_zero (by omega);subst e;rw[A8];exact Bh _
 |fuel+1,k,left,out,h=>by
  show(match left[next k % left.length]? with
   |some x=>pickOrder.go next fuel (k+1) (left.eraseIdx (next k % left.length)) (out.push x)
   |none=>out).toList.Perm _
  cases e:left[next k % left.length]? with
  |none=>
   have l0:left=[]:=by
    cases left with
    |nil=>rfl
    |cons a l=>
     rw[List.getElem?_eq_none_iff]at e;have:=Nat.mod_lt (next k) (show 0<(a::l).length by simp);omega
   subst l0;rw[A8]
  |some x=>
   have lt:=(yI.mp e).1;have ih:=kL next fuel (k+1) (left.eraseIdx (next k % left.length)) (out.push x) (by rw[List.length_eraseIdx_of_lt lt];omega)
   refine ih.trans ?_;rw[Array.toList_push,AT];exact(Ta left _ x e).append_left _
theorem Ul{α:Type}(next:Nat→Nat)(xs:Array α):(pickOrder next xs).toList.Perm xs.toList:=by
 have:=kL next xs.size 0 xs.toList #[] (by rw[yU];exact yB _)
 show(pickOrder.go next xs.size 0 xs.toList #[]).toList.Perm xs.toList;simpa using this
theorem P4{α:Type}:∀(n:Nat)(l:List α)(s:Shared){Q:List α→Shared→Prop},l.length=n→(∀o d,o.Perm l→Q o {s with drawn:=d})→wpAny (model prog w) A (drawOrder n l) Q E s
 | 0,l,s,Q,h,q=>by
  have e:l=[]:=List.eq_nil_of_length_eq_zero h;subst e;exact(yx (q [] s.drawn (Bh _)):wpAny _ _ (pure []) _ _ _)
 |n+1,[],s,Q,h,q=>by simp at h
 |n+1,a::l,s,Q,h,q=>by
  show wpAny _ _ (choose Source.order (a::l).length >>= fun i=>match (a::l)[i]? with
   |some x=>do
    let r ←drawOrder n ((a::l).eraseIdx i)
    pure (x::r)
   |none=>unsupported "internal:drawOrder") _ _ _
  refine io ?_;intro Γ p hΓ;unfold choose;rw[Sem.wp_choose];refine⟨by simp,?_⟩;have lt:(model prog w).w.draws Source.order (s.drawn.get Source.order) % (a::l).length<(a::l).length:=Nat.mod_lt _ (by simp);generalize (model prog w).w.draws Source.order (s.drawn.get Source.order) % (a::l).length=i at lt⊢;obtain⟨x,hx⟩:∃x,(a::l)[i]?=some x:=⟨_,y3 lt⟩;have main:wpAny (model prog w) A (match (a::l)[i]? with
   |some x=>do
    let r ←drawOrder n ((a::l).eraseIdx i)
    pure (x::r)
   |none=>unsupported "internal:drawOrder") Q E {s with drawn:=s.drawn.bump Source.order}:=by
   rw[hx];refine io (P4 n _ _ ?_ fun o d hp=>yx (q _ _ ?_))
   ·rw[List.length_eraseIdx_of_lt lt];simpa using h
   ·exact(hp.cons x).trans (Ta _ _ _ hx)
  exact main
def bC(ps:Array Nat):Nat→Nat
 | 0=>0
 |i+1=>ps.getD i 0+1
theorem pj{ps:Array Nat}{j b c:Nat}(h1:Cut ps j b)(h2:Cut ps j c):b=c:=by
 have k1:=h1.le;have k2:=h2.le;by_cases e:b<c
 ·have x:=h2.lo b (by omega) e;have y:=h1.hi b (by omega) (yB _);omega
 ·by_cases e2:c<b
  ·have x:=h1.lo c (by omega) e2;have y:=h2.hi c (by omega) (yB _);omega
  ·omega
theorem P7{ps:Array Nat}(h:Ris ps){i:Nat}(hi:i≤ps.size):SetTable.below ps (bC ps i)=i:=by
 refine pj (Sn h _) ⟨hi,fun k hk lt=>?_,fun k hk le=>?_⟩
 ·cases i with
  |zero=>omega
  |succ i=>
   have e:bC ps (i+1)=ps[i]'(by omega)+1:=by
    show ps.getD i 0+1=_;simp[Array.getD,show i<ps.size by omega]
   rw[e];by_cases c:k=i
   ·subst c;omega
   ·have:=Tq h (i:=k) (k:=i) (by omega) (by omega);omega
 ·cases i with
  |zero=>exact zP _
  |succ i=>
   have e:bC ps (i+1)=ps[i]'(by omega)+1:=by
    show ps.getD i 0+1=_;simp[Array.getD,show i<ps.size by omega]
   rw[e];have:=Tq h (i:=i) (k:=k) (by omega) hk;omega
theorem P1:entryFor PySem.table "set_iterator.__iter__"=some PySem.Builtin.«dict_keyiterator.__iter__»:=by kernel_rfl
section
variable{prog:Program}{w:World}{A:Around}{a it:Addr}{o:Obj}{es:Array (Int×Value)}{ep:Nat}{t:SetTable}
theorem Ry{first:Value}{i n:Nat}(s:Shared)(Q E:Value→Shared→Prop)(hit:s.heap.get? it=some (jt first i a n ep))(q:Q (.ref it) s):wpAny (model prog w) A (pyIter (.ref it)) Q E s:=by
 have ty:s.TypeIs (.ref it) "set_iterator":=⟨_,hit,rfl⟩;refine AV ty T0 (zJ T0 ty P1 ?_ (Pq _));unfold Builtin.«dict_keyiterator.__iter__»;refine io (show wpAny _ _ (pure (Value.ref it,[])) _ _ _ from yx ?_);exact yx ⟨_,rfl,"set_iterator",_,ty,Xy.lookup,q⟩
theorem iM(hh:A.handled=none)(hne:a≠it)(ht:w.params.followText "set-order"=false)(hd:o.data=.set es ep t)(fit:t.fits es.size=true)(g:Gd t true)(np:(!t.plain && decide (es.size > 1))=false):
  Walks prog w A it [it,a] [it] es.size (fun i v=>(es.toList.map (·.2))[i]?=some v) (fun i h=>i≤es.size∧h.get? it=some (jt (.int (bC t.place i:Nat) 0) i a es.size ep)∧h.get? a=some o) where
 sub:=fun b hb=>by rw[yG.mp hb];exact .head _
 frame:=fun i h h' st k=>⟨st.1,k it (.head _) _ st.2.1,k a (.tail _ (.head _)) _ st.2.2⟩
 item:=fun i s Q E hi st q=>by
  obtain⟨_,hit,ho⟩:=st;have sz:t.place.size=es.size:=by
   unfold SetTable.fits at fit;rw[zz]at fit;simpa using fit.1
  refine Uo ⟨_,hit,rfl⟩ (Wh hit ho hd fit ?_);refine io (Qf ht ho hd fit g np ?_);rw[show((bC t.place i:Nat):Int).toNat=bC t.place i from rfl,P7 g.ris (by omega),yS hi,yS (by omega)];refine wpAny_bind (wpAny_setField_rec hit (by simp) fun h1 e1 sb1=>?_);refine wpAny_bind (wpAny_setField_rec e1 (by simp) fun h2 e2 sb2=>?_);refine yx ⟨_,rfl,q _ h2 s.toks ?_ ⟨by omega,?_,?_⟩ fun b o nb e=>?_⟩
  ·rw[yL,zo,yS hi];rfl
  ·rw[e2];have es1:bC t.place (i+1)=t.place[i]'(by omega)+1:=by
    show t.place.getD i 0+1=_;simp[Array.getD,show i<t.place.size by omega]
   rw[es1];rfl
  ·rw[sb2.2 a hne,sb1.2 a hne];exact ho
  ·have ne:b≠it:=fun z=>nb (by rw[z];exact .head _);rw[sb2.2 b ne,sb1.2 b ne];exact e
 done:=fun s Q E st q=>by
  obtain⟨_,hit,ho⟩:=st;have sz:t.place.size=es.size:=by
   unfold SetTable.fits at fit;rw[zz]at fit;simpa using fit.1
  refine Uo ⟨_,hit,rfl⟩ (Wh hit ho hd fit ?_);refine io (Qf ht ho hd fit g np ?_);rw[show((bC t.place es.size:Nat):Int).toNat=bC t.place es.size from rfl,P7 g.ris (by omega),Al (yB _)];refine wpAny_bind (wpAny_setField_rec hit (by simp) fun h1 e1 sb1=>?_);refine Xv (by simpa using hh) fun h' e k ty=>⟨ty,q h' s.toks fun b o nb eb=>k b o ?_⟩;have ne:b≠it:=fun z=>nb (by rw[z];exact .head _);show h1.get? b=some o;rw[sb1.2 b ne];exact eb
 self:=fun i s Q E st q=>Ry s Q E st.2.1 q
theorem l6(hh:A.handled=none)(hne:a≠it)(ht:w.params.followText "set-order"=true)(hd:o.data=.set es ep t)(fit:t.fits es.size=true):
  Walks prog w A it [it,a] [it] es.size (fun i v=>((pickOrder (w.params.setOrder a ep) es).toList.map (·.2))[i]?=some v) (fun i h=>h.get? it=some (jt (.int 0 0) i a es.size ep)∧h.get? a=some o) where
 sub:=fun b hb=>by rw[yG.mp hb];exact .head _
 frame:=fun i h h' st k=>⟨k it (.head _) _ st.1,k a (.tail _ (.head _)) _ st.2⟩
 item:=fun i s Q E hi st q=>by
  obtain⟨hit,ho⟩:=st;have sz:(pickOrder (w.params.setOrder a ep) es).size=es.size:=by
   have:=(Ul (w.params.setOrder a ep) es).length_eq;simpa using this
  refine Uo ⟨_,hit,rfl⟩ (Wh hit ho hd fit ?_);refine io (O5 ht ho hd fit ?_);rw[yS (by omega)];refine wpAny_bind (wpAny_setField_rec hit (by simp) fun h1 e1 sb1=>?_);refine wpAny_bind (wpAny_setField_rec e1 (by simp) fun h2 e2 sb2=>?_);refine yx ⟨_,rfl,q _ h2 s.toks ?_ ⟨?_,?_⟩ fun b o nb e=>?_⟩
  ·rw[yL,zo,yS (by omega)];rfl
  ·rw[e2];rfl
  ·rw[sb2.2 a hne,sb1.2 a hne];exact ho
  ·have ne:b≠it:=fun z=>nb (by rw[z];exact .head _);rw[sb2.2 b ne,sb1.2 b ne];exact e
 done:=fun s Q E st q=>by
  obtain⟨hit,ho⟩:=st;have sz:(pickOrder (w.params.setOrder a ep) es).size=es.size:=by
   have:=(Ul (w.params.setOrder a ep) es).length_eq;simpa using this
  refine Uo ⟨_,hit,rfl⟩ (Wh hit ho hd fit ?_);refine io (O5 ht ho hd fit ?_);rw[Al (by omega)];refine wpAny_bind (wpAny_setField_rec hit (by simp) fun h1 e1 sb1=>?_);refine Xv (by simpa using hh) fun h' e k ty=>⟨ty,q h' s.toks fun b o nb eb=>k b o ?_⟩;have ne:b≠it:=fun z=>nb (by rw[z];exact .head _);show h1.get? b=some o;rw[sb1.2 b ne];exact eb
 self:=fun i s Q E st q=>Ry s Q E st.1 q
abbrev plO(ord:List Nat):Obj:={cls:=.type "tuple",data:=.seq (ord.map fun i=>rawInt (i:Nat)).toArray}
theorem ie{T:Addr}{ord:List Nat}(hh:A.handled=none)(hne:a≠it)(hT:T≠it)(hp:ord.Perm (List.range es.size))(hd:o.data=.set es ep t)(fit:t.fits es.size=true):
  Walks prog w A it [it,a,T] [it] es.size (fun i v=>(ord.map fun j=>(es.getD j (0,.none)).2)[i]?=some v) (fun i h=>h.get? it=some (jt (.ref T) i a es.size ep)∧h.get? a=some o∧h.get? T=some (plO ord)) where
 sub:=fun b hb=>by rw[yG.mp hb];exact .head _
 frame:=fun i h h' st k=>⟨k it (.head _) _ st.1,k a (.tail _ (.head _)) _ st.2.1,k T (.tail _ (.tail _ (.head _))) _ st.2.2⟩
 item:=fun i s Q E hi st q=>by
  obtain⟨hit,ho,hpl⟩:=st;have ol:ord.length=es.size:=by rw[hp.length_eq,AW]
  have lt:ord[i]'(by omega)<es.size:=Bw.mp (hp.mem_iff.mp (List.getElem_mem _));refine Uo ⟨_,hit,rfl⟩ (Wh hit ho hd fit ?_);refine io (wpAny_seqItems hpl rfl ?_);have eo:(ord.map fun i=>rawInt (i:Nat)).toArray[i]?=some (.int (ord[i]'(by omega):Nat) 0):=by
   rw[List.getElem?_toArray,yL,y3 (by omega)];rfl
  dsimp only;rw[eo];refine io (iV ho hd fit (place:=(((ord[i]'(by omega):Nat):Int)).toNat) (e:=es[ord[i]'(by omega)]) (by rw[show(((ord[i]'(by omega):Nat):Int)).toNat=ord[i]'(by omega)from rfl,yS lt]) ?_);refine wpAny_bind (wpAny_setField_rec hit (by simp) fun h1 e1 sb1=>?_);refine yx ⟨_,rfl,q _ h1 s.toks ?_ ⟨?_,?_,?_⟩ fun b o nb e=>?_⟩
  ·rw[yL,y3 (by omega)];simp[Array.getD,lt]
  ·rw[e1];rfl
  ·rw[sb1.2 a hne];exact ho
  ·rw[sb1.2 T hT];exact hpl
  ·have ne:b≠it:=fun z=>nb (by rw[z];exact .head _);rw[sb1.2 b ne];exact e
 done:=fun s Q E st q=>by
  obtain⟨hit,ho,hpl⟩:=st;have ol:ord.length=es.size:=by rw[hp.length_eq,AW]
  refine Uo ⟨_,hit,rfl⟩ (Wh hit ho hd fit ?_);refine io (wpAny_seqItems hpl rfl ?_);have eo:(ord.map fun i=>rawInt (i:Nat)).toArray[es.size]?=none:=by
   rw[List.getElem?_toArray,yL,Bc (by omega)];rfl
  dsimp only;rw[eo];refine wpAny_bind (wpAny_setField_rec hit (by simp) fun h1 e1 sb1=>?_);refine wpAny_bind (wpAny_setField_rec e1 (by simp) fun h2 e2 sb2=>?_);refine Xv (by simpa using hh) fun h' e k ty=>⟨ty,q h' s.toks fun b o nb eb=>k b o ?_⟩;have ne:b≠it:=fun z=>nb (by rw[z];exact .head _);show h2.get? b=some o;rw[sb2.2 b ne,sb1.2 b ne];exact eb
 self:=fun i s Q E st q=>Ry s Q E st.1 q
end
theorem ia{α β:Type}{F:α→β→Prop}{xs ys:List α}(p:xs.Perm ys):∀{zs:List β},Paired F ys zs→∃zs',zs'.Perm zs∧Paired F xs zs':=by
 induction p with
 |nil=>intro zs h;exact⟨zs,Bh _,h⟩
 |cons x _ ih=>
  intro zs h;cases h with
  |cons f r=>
   obtain⟨zs',p,q⟩:=ih r;exact⟨_::zs',p.cons _,.cons f q⟩
 |swap x y l=>
  intro zs h;cases h with
  |cons f r=>
   cases r with
   |cons g r=>
    exact⟨_,List.Perm.swap _ _ _,.cons g (.cons f r)⟩
 |trans _ _ ih1 ih2=>
  intro zs h;obtain⟨z1,p1,q1⟩:=ih2 h;obtain⟨z2,p2,q2⟩:=ih1 q1;exact⟨z2,p2.trans p1,q2⟩
theorem Qc{α β γ:Type}{F:α→β→Prop}{G:γ→β→Prop}{f:α→γ}(h:∀a b,F a b→G (f a) b):∀{xs:List α}{zs:List β},Paired F xs zs→Paired G (xs.map f) zs
 |_,_,.nil=>.nil
 |_,_,.cons g r=>.cons (h _ _ g) (Qc h r)
def IsK(P:Program)(w:World)(v:Value)(k:Key):Prop:=(ac P w).is k v=true
theorem Rq{P:Program}{w:World}{es:List (Int×Value)}{vs:List (Int×Value)}{ks:List Key}(h:∃fs,es.Perm fs∧Paired (jd P w) fs ks)(p:vs.Perm es):∃ks',ks'.Perm ks∧Paired (IsK P w) (vs.map (·.2)) ks':=by
 obtain⟨fs,p1,m⟩:=h;obtain⟨ks',p2,q⟩:=ia (p.trans p1) m;exact⟨ks',p2,Qc (fun _ _ z=>z.1) q⟩
section
variable{prog:Program}{w:World}{A:Around}{E:Value→Shared→Prop}{s:Shared}{a:Addr}{ks:List Key}
theorem oV{Q:Value→Shared→Prop}(G:cu prog w s.heap a ks)(hb:ks.length≤sizeLine)(q:∀(it:Addr) (h':Heap) (d:Drawn) (vs:List Value) (fp:List Addr) (St:Nat→Heap→Prop),s.heap.objs.size≤it→(∀b o,s.heap.get? b=some o→h'.get? b=some o)→(∀b∈fp,b=a∨s.heap.objs.size≤b)→
   (∀A':Around,A'.handled=none→Walks prog w A' it fp [it] ks.length (fun i v=>vs[i]?=some v) St)→St 0 h'→vs.length=ks.length→(∃ks',ks'.Perm ks∧Paired (IsK prog w) vs ks')→Q (.ref it) {s with heap:=h',drawn:=d}):
  wpAny (model prog w) A (pyIter (.ref a)) Q E s:=by
 obtain⟨o,es,ep,t,ho,hex,hd,hf,fit,gd,nd⟩:=G;have len:=Sj hf;rw[yU]at len;have lta:a<s.heap.objs.size:=yE ho;have ty:s.TypeIs (.ref a) "set":=⟨o,ho,hex.1⟩;refine AV ty PySem.F.slot_set_iter (zJ PySem.F.slot_set_iter ty P2 ?_ (PySem.F.args_set_iter_1 _));unfold Builtin.«frozenset.__iter__»;refine io (show wpAny _ _ (pure a) _ _ _ from yx ?_);unfold Builtin.Frozenset.sizeOf;refine io (io (wpAny_setEntries_of ho hd fit (yx ?_)));unfold setDrawn;refine io (io (AU ho hd fit (io (Rk (yx ?_)))));show wpAny _ _ (if (!w.params.followText "set-order" && (!t.plain && decide (es.size > 1)))=true then _ else _) _ _ _;have fin:∀(first:Value)(s1:Shared)(it:Addr),it=s1.heap.objs.size→s1.heap.get? a=some o→(∀b o,s.heap.get? b=some o→s1.heap.get? b=some o)→s.heap.objs.size≤it→s1={s with heap:=s1.heap,drawn:=s1.drawn}→
   (∀h',h'=s1.heap.push (jt first 0 a es.size ep)→∃(vs:List Value)(fp:List Addr)(St:Nat→Heap→Prop),(∀b∈fp,b=a∨s.heap.objs.size≤b)∧
   (∀A':Around,A'.handled=none→Walks prog w A' it fp [it] es.size (fun i v=>vs[i]?=some v) St)∧St 0 h'∧vs.length=ks.length∧(∃ks',ks'.Perm ks∧Paired (IsK prog w) vs ks'))→
   wpAny (model prog w) A.in1 (do
    let e ←setEpoch a
    let x ←newFields "set_iterator" [first,rawInt 0,.ref a,rawInt es.size,rawInt e]
    ret x) (fun fin s'=>∃v,fin=.done (.ret v)∧∃T' r,s'.TypeIs v T'∧typeLookup (.type T') (Str.ofString "__next__")=pure (some r)∧Q v s') E s1:=by
  intro first s1 it hit ho1 kp le es1 hw
  refine io (wpAny_setEpoch_of ho1 hd fit ?_);unfold newFields;refine io (zB ?_);obtain⟨vs,fp,St,h1,h2,h3,h4,h5⟩:=hw _ rfl;refine yx ⟨_,rfl,"set_iterator",_,⟨_,yH _ rfl,rfl⟩,Xy.lookup,?_⟩;rw[es1,←hit];rw[len]at h2;exact q it _ s1.drawn vs fp St le (fun b o e=>yy _ (kp b o e)) h1 h2 h3 h4 h5
 by_cases ht:w.params.followText "set-order"=true
 ·rw[ht];rw[if_neg (by simp)];refine io (yx ?_);refine fin (rawInt 0) s s.heap.objs.size rfl ho (fun _ _ e=>e) (yB _) rfl fun h' eh=>?_;subst eh;refine⟨(pickOrder (w.params.setOrder a ep) es).toList.map (·.2),[s.heap.objs.size,a],_,?_,fun A' hA=>l6 hA (yN lta) ht hd fit,⟨yH _ rfl,yy _ ho⟩,?_,Rq hf (Ul _ _)⟩
  ·intro b hb
   rcases yO.mp hb with rfl | hb
   ·exact .inr (yB _)
   ·exact .inl (yG.mp hb)
  ·rw[pi,(Ul _ _).length_eq,yU,len]
 ·have ht:w.params.followText "set-order"=false:=zY.mpr ht;rw[ht]at gd⊢;by_cases hdr:(!t.plain && decide (es.size > 1))=true
  ·rw[hdr,yC (by decide)];refine io (P4 es.size (List.range es.size) s (AW) fun ord d hp=>?_);have ol:ord.length=es.size:=by rw[hp.length_eq,AW]
   refine io (wpAny_newTuple ?_ (by rw[pi];omega));refine fin (.ref s.heap.objs.size) _ (s.heap.objs.size+1) (by simp[Heap.size_push]) (Heap.get?_push_of_some _ ho) (fun b o e=>Heap.get?_push_of_some _ e) (by omega) rfl fun h' eh=>?_;subst eh;have hpe:(ord.map fun j=>es.getD j (0,.none)).Perm es.toList:=by
    have e:es.toList=(List.range es.size).map fun j=>es.getD j (0,.none):=by
     refine List.ext_getElem? fun i=>?_;rw[zo,yL];by_cases hi:i<es.size
     ·rw[yS hi,List.getElem?_range hi];simp[Array.getD,hi]
     ·rw[Al (by omega),Bc (by rw[AW];omega)];rfl
    rw[e];exact hp.map _
   have v:=Rq hf hpe;rw[yQ]at v;refine⟨ord.map fun j=>(es.getD j (0,.none)).2,[s.heap.objs.size+1,a,s.heap.objs.size],_,?_,fun A' hA=>ie (it:=s.heap.objs.size+1) (T:=s.heap.objs.size) hA (yN (Af lta)) (yN (Bl _)) hp hd fit,⟨?_,yy _ (yy _ ho),yy _ (yH _ rfl)⟩,?_,v⟩
   ·intro b hb
    rcases yO.mp hb with rfl | hb
    ·exact .inr (by omega)
    ·rcases yO.mp hb with rfl | hb
     ·exact .inl rfl
     ·rw[yG.mp hb];exact .inr (yB _)
   ·have:=yH (h:=s.heap.push (plO ord)) (o:=jt (.ref s.heap.objs.size) 0 a es.size ep) rfl;rw[A1]at this;exact this
   ·rw[pi,ol,len]
  ·have hdr:=zY.mpr hdr;rw[hdr,if_neg (by simp)];refine io (yx ?_);refine fin (rawInt 0) s s.heap.objs.size rfl ho (fun _ _ e=>e) (yB _) rfl fun h' eh=>?_;subst eh;refine⟨es.toList.map (·.2),[s.heap.objs.size,a],_,?_,fun A' hA=>iM hA (yN lta) ht hd fit gd hdr,⟨zP _,yH _ rfl,yy _ ho⟩,?_,Rq hf (Bh _)⟩
   ·intro b hb
    rcases yO.mp hb with rfl | hb
    ·exact .inr (yB _)
    ·exact .inl (yG.mp hb)
   ·rw[pi,yU,len]
theorem T3{α:Type}{M:Model}{c:Bool}{X Y:Sem α}{Q:α→Shared→Prop}(h:c=true)(q:wpAny M A X Q E s):wpAny M A (if c=true then X else Y) Q E s:=by
 rw[yC h];exact q
theorem pQ{Q:Bool→Shared→Prop}(ty:s.TypeIs (.ref a) "set")(q:Q false s):wpAny (model prog w) A (Builtin.List.listLengthHint (.ref a)) Q E s:=by
 have k1:typeLookup (.type "set") (Str.ofString "__len__")=pure (some (.builtin "set.__len__")):=by kernel_rfl
 have k2:splitId "set.__len__"=some ("set","__len__"):=by kernel_rfl
 have k3:isSubtype (.type "set") (.type "set")=pure true:=PySem.F.called_set.sub;unfold Builtin.List.listLengthHint;refine io (Bs ty k1 ?_);dsimp only;rw[k2];refine io (A2 ty k3 ?_);rw[yA (by decide)];refine T3 (by kernel_rfl) (io (AE ty ?_));exact yx q
theorem tF:(Value.type "set" == Value.type "list")=false:=by decide
theorem vZ:(Value.type "set" == Value.type "tuple")=false:=by decide
theorem iq{S:Addr}{res:Value}{c₀:Nat}{R:Result→Shared→Prop}(G:cu prog w s.heap a ks)(hh:A.handled=none)(hb:ks.length≤sizeLine)(hS:S≠a)(eS:s.heap.get? S=some {cls:=.type "list",data:=.seq #[] c₀})(q:∀(g:Heap) (tk:Nat) (d:Drawn) (xs:Array Value) (c:Nat),(∀b o,b≠S→s.heap.get? b=some o→g.get? b=some o)→g.get? S=some {cls:=.type "list",data:=.seq xs c}→(∃ks',ks'.Perm ks∧Paired (IsK prog w) xs.toList ks')→R (.ok (.ret res)) {s with heap:=g,toks:=tk,drawn:=d}):
  wpAny (model prog w) A.in1 (Builtin.List.listExtendWith (.ref S) (.ref a) res) (fun fin s'=>match fin with
   |.done f=>R (.ok f) s'
   |.again c'=>c'.quiet=true∧codeAny (model prog w) A c' R s') (fun e s'=>R (.error e) s') s:=by
 have ty:s.TypeIs (.ref a) "set":=by
  obtain⟨o,es,ep,t,ho,hex,_⟩:=G;exact⟨o,ho,hex.1⟩
 unfold Builtin.List.listExtendWith;refine io (AE ty ?_);have sm:Builtin.List.listSameRef (.ref S) (.ref a)=false:=by
  unfold Builtin.List.listSameRef;simpa using hS
 rw[sm,tF,vZ,yA (by decide)];refine io (oV G hb fun it h1 d vs fp St le kp hf W st len pk=>?_);refine io (zn (pQ (s:={s with heap:=h1,drawn:=d}) ?_ ?_))
 ·obtain⟨o,e,c⟩:=ty;exact⟨o,kp _ _ e,c⟩
 have lS:S<s.heap.objs.size:=yE eS;have nS:S∉fp:=fun hm=>by
  rcases hf S hm with z | z
  ·exact hS z
  ·exact absurd lS (Nat.not_lt.mpr z)
 have hA:A.in1.handled=none:=by simpa using hh
 have loop:∀(s2:Shared)(c:Nat),St 0 s2.heap→s2.heap.get? S=some {cls:=.type "list",data:=.seq #[] c}→(∀b o,b≠S→h1.get? b=some o→s2.heap.get? b=some o)→s2={s with heap:=s2.heap,drawn:=d}→
   codeAny (model prog w) A (.builtin "list.extend.loop" ⟨[.ref S,.ref it,res],[]⟩) R s2:=by
  intro s2 c st2 e2 k2 es2;refine codeAny_extend_loopS (W A.in1 hA).toS hb S nS res ks.length 0 s2 #[] c (by omega) (zP _) st2 e2 (ItemsOf.nil _) fun s' xs c' mv eS' hx=>?_;have ex:s'={s with heap:=s'.heap,toks:=s'.toks,drawn:=d}:=by
   have h1:=mv.gens;have h2:=mv.drawn;have h3:=mv.os;rw[es2]at h1 h2 h3;obtain⟨a1,a2,a3,a4,a5⟩:=s';simp only at h1 h2 h3;subst h1 h2 h3;rfl
  have vx:xs.toList=vs:=by
   refine List.ext_getElem? fun j=>?_;obtain⟨sz,at_⟩:=hx;rw[zo];by_cases hj:j<xs.size
   ·have:=at_ j xs[j] (yS hj);rw[yS hj,this]
   ·rw[Al (by omega),Bc (by omega)]
  rw[ex];refine q s'.heap s'.toks d xs c' (fun b o nb e=>mv.heap b o ?_ (k2 b o nb (kp b o e))) eS' (by rw[vx];exact pk);intro hm
  rcases yO.mp hm with z | z
  ·exact nb z
  ·have:=yG.mp z;have l2:b<s.heap.objs.size:=yE e;rw[this]at l2;exact absurd l2 (Nat.not_lt.mpr le)
 refine T3 (by kernel_rfl) (io (AL ?_));unfold Builtin.List.listTouch;have u1:=AR (c:="list") (kp _ _ eS) (fun x=>x.push Value.none);have u2:=AR (c:="list") u1 (fun x=>x.pop);refine wpAny_bind (wpAny_bind (listUpdate_at (kp _ _ eS) rfl (listUpdate_at u1 rfl ?_ (by simp[sizeLine_eq]) (by simp)) (by simp) (by simp[sizeLine_eq])));obtain⟨c2,u3⟩:∃c2,((h1.update S (Obj.mapSeq fun x=>x.push Value.none)).update S (Obj.mapSeq fun x=>x.pop)).get? S=some {cls:=.type "list",data:=.seq #[] c2}:=⟨_,u2⟩;have k2:∀b o,b≠S→h1.get? b=some o→((h1.update S (Obj.mapSeq fun x=>x.push Value.none)).update S (Obj.mapSeq fun x=>x.pop)).get? b=some o:=fun b o nb e=>by
  rw[AZ _ _ _ _ nb,AZ _ _ _ _ nb];exact e
 refine yx ⟨AK Ar _,loop _ c2 ((W A.in1 hA).frame 0 _ _ st fun b hb o e=>k2 b o (fun z=>nS (by rw[←z];exact hb)) e) u3 k2 rfl⟩
def vM(P:Program)(w:World)(s:Shared)(ks:List Key)(q:Result)(s':Shared):Prop:=
 ∃(g:Heap)(tk c:Nat)(d:Drawn)(xs:Array Value),q=.ok (.ret (.ref s.heap.objs.size))∧s'={s with heap:=g,toks:=tk,drawn:=d}∧(∀b o,s.heap.get? b=some o→g.get? b=some o)∧g.get? s.heap.objs.size=some {cls:=.type "list",dict:=none,data:=.seq xs c,slots:=#[]}∧(∃ks',ks'.Perm ks∧Paired (IsK P w) xs.toList ks')
theorem fM{R:List Value→Shared→Prop}(G:cu prog w s.heap a ks)(hh:A.handled=none)(hb:ks.length≤sizeLine)(h:∀(g:Heap) (tk:Nat) (d:Drawn) (xs:Array Value),(∀b o,s.heap.get? b=some o→g.get? b=some o)→s.heap.objs.size<g.objs.size→(∃ks',ks'.Perm ks∧Paired (IsK prog w) xs.toList ks')→R xs.toList {s with heap:=g,toks:=tk,drawn:=d}):wpAny (model prog w) A (collect (.ref a)) R E s:=by
 have lt1:a<s.heap.objs.size:=by
  obtain⟨o,es,ep,t,ho,_⟩:=G;exact yE ho
 unfold collect;refine io (Bx (zM Bg ?_));rw[zI PySem.F.plain_proto_collect _];refine io (m:=newList []) (zB (yx ⟨AK Ai _,zM entry_list_iadd' ?_⟩));rw[zI Ai _];have own:(s.heap.push {cls:=.type "list",data:=.seq ([]:List Value).toArray}).get? s.heap.objs.size=some {cls:=.type "list",data:=.seq #[]}:=yH _ rfl;have run:=iq (A:=A) (s:={s with heap:=s.heap.push {cls:=.type "list",data:=.seq ([]:List Value).toArray}}) (R:=vM prog w s ks) (Uj G fun o e=>yy _ e) hh hb (zR lt1) (res:=.ref s.heap.objs.size) own
  (fun g tk d xs c hk hS hx=>⟨g,tk,c,d,xs,rfl,rfl,fun b o e=>hk b o (yN (yE e)) (yy _ e),hS,hx⟩)
 refine zT run (fun fin s' y=>?_) (fun _ _ y=>by obtain⟨_,_,_,_,_,e,_⟩:=y;cases e);cases fin with
 |done f=>
  obtain⟨g,tk,c,d,xs,e,rfl,hk,hS,hx⟩:=y;cases e;exact io (m:=load s.heap.objs.size) (Bf hS (yx (h g tk d xs hk (yE hS) hx)))
 |again c1=>
  refine⟨y.1,A5 y.2 fun q s2 z=>?_⟩;obtain⟨g,tk,c,d,xs,rfl,rfl,hk,hS,hx⟩:=z;exact io (m:=load s.heap.objs.size) (Bf hS (yx (h g tk d xs hk (yE hS) hx)))
end
theorem Inv.drawnAs{X:Cx}{BF:List (Addr×Obj)}{σ:St}{H:Hp}{s:Shared}(I:Inv X BF σ H s)(d:Drawn):Inv X BF σ H {s with drawn:=d}:=
 I.call (h':=s.heap) (g':=s.gens) (t':=s.toks) (d':=d) (ch:=[]) Un.refl I.hok I.bare (fun _ z=>nomatch z)
theorem Sq{P:Program}{w:World}:∀{vs:List Value}{ks:List Key},Paired (IsK P w) vs ks→(∀k∈ks,∃z,k=Sum.inl z)→∃ns:List Int,ks=ns.map Sum.inl∧IntsAre vs ns
 |_,_,.nil,_=>⟨[],rfl,.nil⟩
 |_,_,.cons f r,h=>by
  obtain⟨z,rfl⟩:=h _ (.head _);obtain⟨ns,rfl,q⟩:=Sq r fun k hk=>h k (.tail _ hk);obtain⟨t,rfl⟩:=pe f;exact⟨z::ns,rfl,.cons z t q⟩
theorem qz{xs ys:List Int}(h:(xs.map (Sum.inl:Int→Key)).Perm (ys.map Sum.inl)):xs.Perm ys:=by
 have:=h.filterMap Sum.getLeft?;rw[List.filterMap_map,List.filterMap_map]at this;simpa [Function.comp_def] using this
section
variable{X:Cx}
def rh(P:Program)(w:World):List V→Hp→VK→Prop:=fun xs H Q=>∃(d:Addr)(ns:List Int),xs=[.ref d]∧H d=some (eQ P w d (ns.map Sum.inl))∧ns.length<64∧∀p,H p=none→Q (.ref p) (upd H p (.lst ((c7 ns).map V.int)))
theorem gL(hc:X.calm=true):aL X (.builtin "sorted") (rh X.prog X.w):=by
 intro BF s σ H xs us Q I rx h;obtain⟨d,ns,rfl,hd,h64,q⟩:=h;obtain⟨u,rfl,ru⟩:=W2 rx;cases ru;have G:cu X.prog X.w s.heap d (ns.map Sum.inl):=(I.hok d _ hd).1;have hh:X.A.in1.handled=none:=by simpa using I.ok.hd hc
 refine AN kind_sorted plain_sorted entry_sorted (args_sorted1 _) ?_;unfold Builtin.«sorted»;refine io (m:=checkCount "sorted" 1 1 _) (yx ?_);refine io (fM (A:=X.A.in1) G hh (Zf (by rw[pi];omega)) fun g tk dr BS hk hsz hacc=>?_);obtain⟨ks',pk,pr⟩:=hacc;obtain⟨ns',rfl,hS⟩:=Sq pr fun k hk=>by
  obtain⟨z,_,rfl⟩:=yz.mp (pk.mem_iff.mp hk);exact⟨z,rfl⟩
 have pz:=qz pk;have al:BS.toList.length=ns.length:=by
  have e1:=yK pr;rw[pi]at e1;rw[e1,pz.length_eq]
 refine io (Bq ?_ (by exact Zf (by omega)));have hoL:(g.push (seqObj "list" BS.toList.toArray 0)).get? g.objs.size=some (seqObj "list" BS.toList.toArray 0):=yH _ rfl;refine io (zn (zJ slot_list_sort ⟨_,hoL,rfl⟩ entry_list_sort (list_sort_tree hoL hS (by omega) fun out ms a1 a2 a3=>⟨_,rfl,?_⟩) (args_list_sort _)));refine yx ⟨_,rfl,?_⟩;have ess:=kP (a2.trans pz) a3;subst ess;obtain⟨e2,he2⟩:=sortedHeap_at (vs:=BS.toList) (out:=out) hoL;have hz:s.heap.objs.size≤g.objs.size:=Ah hsz;refine⟨.ref g.objs.size,_,(I.drawnAs dr).laid (t':=tk) (o:=.lst ((c7 ns).map V.int)) (fun b o e=>?_) hz ?_,rfl,q _ (I.hok.fresh hz)⟩
 ·have e':=hk b o e;have BL:=yE e';rw[sortedHeap_old (yN BL) (by rw[Bt];exact Af BL)];exact yy _ e'
 ·refine⟨?_,out.toList,e2,Ui a1,by rw[Az];exact he2⟩;rw[pi,(V8 ns).length_eq];exact Zf (by omega)
end
def fc(ns:List Int):List Int:=(ddK [] (ns.map Sum.inl)).filterMap Sum.getLeft?
theorem eZ(ns:List Int):ddK [] (ns.map Sum.inl)=(fc ns).map Sum.inl:=by
 have h:∀k∈ddK [] (ns.map (Sum.inl:Int→Key)),∃z,k=Sum.inl z:=fun k hk=>by
  rcases(dM _ _ _).mp hk with q | q
  ·exact nomatch q
  ·obtain⟨z,_,rfl⟩:=yz.mp q;exact⟨z,rfl⟩
 unfold fc;generalize ddK [] (ns.map (Sum.inl:Int→Key))=l at h⊢
 induction l with
 |nil=>rfl
 |cons k l ih=>
  obtain⟨z,rfl⟩:=h k (.head _);rw[AY];show Sum.inl z::l=Sum.inl z::_;rw[←ih fun k hk=>h k (.tail _ hk)]
theorem pN{ns:List Int}{z:Int}:z∈fc ns↔z∈ns:=by
 have h:=dM (ns.map Sum.inl) [] (Sum.inl z:Key);rw[eZ,yz,yz]at h;constructor
 ·intro q
  rcases h.mp ⟨z,q,rfl⟩with e | ⟨y,hy,e⟩
  ·exact nomatch e
  ·cases e;exact hy
 ·intro q;obtain⟨y,hy,e⟩:=h.mpr (.inr ⟨z,q,rfl⟩);cases e;exact hy
theorem oC(ns:List Int):(fc ns).length≤ns.length:=by
 have h:=dI (ns.map (Sum.inl:Int→Key)) [];rw[eZ,pi,pi,zZ]at h;omega
section
variable{X:Cx}
theorem ma(hc:X.calm=true):aL X (.type "set") (fun xs H Q=>∃(p:Addr)(ns:List Int),xs=[.ref p]∧SqL X.K H p (ns.map V.int)∧ns.length<4000∧∀a,H a=none→Q (.ref a) (upd H a (eQ X.prog X.w a ((fc ns).map Sum.inl)))):=by
 intro BF s σ H xs us Q I r h;obtain⟨p,ns,rfl,hq,hz,q⟩:=h;refine mU hc BF s σ H _ us Q I r ⟨p,ns.map Sum.inl,rfl,?_,by rw[pi];exact hz,fun a na=>?_⟩
 ·rw[yQ];exact hq
 ·rw[eZ];exact q a na
end
section
variable{X:Cx}
end
section
variable{X:Cx}{BF:List (Addr×Obj)}{σ:St}{H:Hp}{s:Shared}
end
end L2
namespace L2
open PySem PySem.Spec PyProof.Rows
section
variable{α:Type}{K:W.Frag}{a:Addr}{xs:List V}{ks:List α}{k:Nat}{g:TG}{tt:TT}{te:TE}{σ:St}{H:Hp}{Q:VK}
end
end L2
namespace L2
open PySem PySem.Spec PyProof.Rows PySem.Builtin PySem.Builtin.Str
theorem Rj{H H':Hp}{a l:Addr}{o:HO}(g:Grw a H H')(n:aw a H l=none):Grw a H (upd H' l o):=fun b u e=>by
 have hb:b≠l:=fun q=>by rw[q,n]at e;cases e
 have e2:=g b u e;obtain⟨h1,h2⟩:=Za e2;rw[Zj h1,Zc hb];exact h2
theorem qg(K:W.Frag){X:Cx}{tg l:Expr}{tl:TE}(h:X.K=K)(hl:PE X l tl):PI X tg l (t_ K tl):=h ▸ Zq hl
end L2
namespace HT
open PySem PySem.Spec PyProof.Rows
section
variable{prog:Program}{w:World}{A:Around}{E:Value→Shared→Prop}{s:Shared}
end
end HT
namespace L2
open PySem PySem.Spec PyProof.Rows
section
variable{X:Cx}
end
section
variable{X:Cx}
end
section
variable{a l d:Addr}{fz:HO}{Hf H' H'':Hp}{xs:List V}{ts:List Th}
end
end L2
namespace HT
open PySem PySem.Spec PyProof.Rows
section
variable{prog:Program}{w:World}{A:Around}{E:Value→Shared→Prop}{s:Shared}
end
end HT
namespace L2
open PySem PySem.Spec PyProof.Rows
section
variable{X:Cx}
end
def cw(prog:Program)(w:World)(A:Around)(s:Shared)(κ:KeyKind)(kd:SortKind):Prop:=
 ∀(E:Value→Shared→Prop)(x y:Value)(a b:κ.α)(Q:Bool→Shared→Prop),κ.keyOf x=some a→κ.keyOf y=some b→Q (κ.blt a b) s→wpAny (model prog w) A (keyLt' kd x y) Q E s
structure Sst(kd:SortKind)(xs0:Array Keyed)(st:SortSt):Prop where
 pm:(arrOf st).Perm xs0
 kn:kindOf st=kd
 pd:pendingOf st=#[]
 fl:failedOf st=none
def Rz(κ:KeyKind)(xs:Array Keyed)(n:Nat):Prop:=∀i j,i≤j→j<n→κ.blt (KK κ xs j) (KK κ xs i)=false
def Fz(κ:KeyKind)(xs:Array Keyed)(n:Nat):Prop:=∀i j,i≤j→j<n→κ.blt (KK κ xs i) (KK κ xs j)=false
section
variable{prog:Program}{w:World}{A:Around}{E:Value→Shared→Prop}{s:Shared}{κ:KeyKind}{kd:SortKind}{xs0:Array Keyed}{st:SortSt}
theorem Sst.sz(b:Sst kd xs0 st):(arrOf st).size=xs0.size:=b.pm.size_eq
theorem Sst.put(b:Sst kd xs0 st){ys:Array Keyed}(p:ys.Perm (arrOf st)):Sst kd xs0 (setArr st ys):=⟨p.trans b.pm,b.kn,b.pd,b.fl⟩
theorem ltF{a b c:κ.α}(h:κ.blt b a=false)(g:κ.blt c b=false):κ.blt c a=false:=by
 rcases e:κ.blt c a with _ | _
 ·rfl
 ·rcases κ.negTrans c b a e with q | q
  ·rw[g]at q;exact q.symm
  ·rw[h]at q;exact q.symm
theorem ltA{a b:κ.α}(h:κ.blt a b=true):κ.blt b a=false:=by
 rcases e:κ.blt b a with _ | _
 ·rfl
 ·have q:=κ.trans a b a h e;rw[κ.irrefl]at q;exact q.symm
theorem Rz.snoc{xs:Array Keyed}{m:Nat}(r:Rz κ xs m)(h1:1≤m)(h:κ.blt (KK κ xs m) (KK κ xs (m-1))=false):Rz κ xs (m+1):=by
 intro i j hij hj
 rcases Am j m with l | l
 ·exact r i j hij l
 obtain rfl:j=m:=by omega
 rcases Am i j with l2 | l2
 ·exact ltF (r i (j-1) (by omega) (by omega)) h
 ·obtain rfl:i=j:=by omega
  exact κ.irrefl _
theorem Fz.snoc{xs:Array Keyed}{m:Nat}(r:Fz κ xs m)(h1:1≤m)(h:κ.blt (KK κ xs (m-1)) (KK κ xs m)=false):Fz κ xs (m+1):=by
 intro i j hij hj
 rcases Am j m with l | l
 ·exact r i j hij l
 obtain rfl:j=m:=by omega
 rcases Am i j with l2 | l2
 ·exact ltF h (r i (j-1) (by omega) (by omega))
 ·obtain rfl:i=j:=by omega
  exact κ.irrefl _
theorem vF{xs:Array Keyed}:Rz κ xs 1:=fun i j hij hj=>by
 obtain rfl:i=j:=by omega
 exact κ.irrefl _
theorem one_Fz{xs:Array Keyed}:Fz κ xs 1:=fun i j hij hj=>by
 obtain rfl:i=j:=by omega
 exact κ.irrefl _
theorem Fz.same{xs ys:Array Keyed}{m:Nat}(r:Fz κ xs m)(h:∀k,KK κ ys k=KK κ xs k):Fz κ ys m:=fun i j hij hj=>by
 rw[h,h];exact r i j hij hj
theorem S1{i j:Nat}{Q:Option Bool→SortSt→Prop}(hc:cw prog w A s κ kd)(hk:KeysOf κ xs0)(b:Sst kd xs0 st)(hi:i<xs0.size)(hj:j<xs0.size)(q:Q (some (κ.blt (KK κ (arrOf st) i) (KK κ (arrOf st) j))) st):wpS (model prog w) A E s (ltAt' i j) Q st:=by
 have look:∀{i:Nat},i<xs0.size→∃p a,(arrOf st)[i]?=some p∧κ.keyOf p.1=some a∧KK κ (arrOf st) i=a:=by
  intro i hi;have hl:i<(arrOf st).size:=by rw[b.sz];exact hi
  have e:(arrOf st)[i]?=some (arrOf st)[i]:=yS hl;obtain⟨a,ha⟩:=hk (arrOf st)[i] ((Array.perm_iff_toList_perm.mp b.pm).mem_iff.mp (Array.mem_toList_iff.mpr (Array.getElem_mem hl)));refine⟨_,a,e,ha,?_⟩;unfold KK;rw[e];show(κ.keyOf _).getD _=a;rw[ha];rfl
 obtain⟨⟨x,x'⟩,a,e1,k1,g1⟩:=look hi;obtain⟨⟨y,y'⟩,a',e2,k2,g2⟩:=look hj;rw[g1,g2]at q;rw[ltAt'_eq];refine zO (wpS_get ?_);show wpS (model prog w) A E s (elem' (arrOf st) i >>= fun u=>elem' (arrOf st) j >>= fun v=>lt' u v) Q st;rw[elem'_eq,elem'_eq,e1,e2];refine zO (Ag ?_);refine zO (Ag ?_);rw[lt'_eq];refine zO (wpS_get ?_);rw[b.kn];exact zO (wpS_lift (wpAny_attempt (hc _ x y a a' _ k1 k2 ⟨rfl,Ag q⟩)))
theorem kU{a n:Nat}{Q:AscSt→SortSt→Prop}(hc:cw prog w A s κ kd)(hk:KeysOf κ xs0)(hn:n≤xs0.size)(h1:1≤a)(h2:a≤n)(b:Sst kd xs0 st)(r:Rz κ (arrOf st) a)(fin:∀m,a≤m→m≤n→Rz κ (arrOf st) m→(m<n→κ.blt (KK κ (arrOf st) m) (KK κ (arrOf st) (m-1))=true)→Q (none,m) st):wpS (model prog w) A E s (ascLoop a n) Q st:=by
 unfold ascLoop;refine By (fun i c u=>u=st∧c=(none,i)∧Rz κ (arrOf st) i) ?_ ?_ ⟨rfl,rfl,r⟩
 ·rintro i _ _ h3 h4 ⟨rfl,rfl,r'⟩;refine zO (S1 hc hk b (by omega) (by omega) ?_)
  rcases e:κ.blt (KK κ (arrOf _) i) (KK κ (arrOf _) (i-1))with _ | _
  ·exact Ag ⟨rfl,rfl,r'.snoc (by omega) e⟩
  ·exact Ag (fin i h3 (by omega) r' fun _=>e)
 ·rintro _ _ ⟨rfl,rfl,r'⟩;rw[Nat.max_eq_right h2]at r'⊢;exact fin n h2 (yB _) r' fun q=>absurd q (AH _)
theorem R6{i j:Nat}{Q:Unit→SortSt→Prop}(q:Q () (setArr st (mirror (arrOf st) i j ((j-i) / 2)))):wpS (model prog w) A E s (reverseSlice' i j) Q st:=by
 rw[reverseSlice'_eq];exact wpS_modify q
theorem jO{m n:Nat}{Q:Option Nat→SortSt→Prop}(hc:cw prog w A s κ kd)(hk:KeysOf κ xs0)(hn:n≤xs0.size)(h1:1≤m)(h2:m≤n)(b:Sst kd xs0 st)(r:Fz κ (arrOf st) m)(fin:∀l u,Sst kd xs0 u→1≤l→l≤n→Rz κ (arrOf u) l→Q (some l) u):wpS (model prog w) A E s (tail3 m n) Q st:=by
 unfold tail3;refine zO (R6 ?_);have b':=b.put (mirror_perm (arrOf st) 0 m ((m-0) / 2));have ml:m≤(arrOf st).size:=by rw[b.sz];omega
 refine zO (kU hc hk hn h1 h2 b' (fun i j hij hj=>?_) fun l h3 h4 r' _=>Ag (fin l _ b' (by omega) h4 r'));show κ.blt (KK κ (mirror (arrOf st) 0 m ((m-0) / 2)) j) (KK κ (mirror (arrOf st) 0 m ((m-0) / 2)) i)=false;rw[KK_mirror ml,KK_mirror ml,yC ⟨zP _,hj⟩,yC ⟨zP _,by omega⟩];exact r _ _ (by omega) (by omega)
theorem lV{m n:Nat}{Q:DescSt→SortSt→Prop}(hc:cw prog w A s κ kd)(hk:KeysOf κ xs0)(hn:n≤xs0.size)(h1:1≤m)(h2:m≤n)(b:Sst kd xs0 st)(r:Fz κ (arrOf st) m)(fin:∀l e u,Sst kd xs0 u→m≤l→l≤n→Fz κ (arrOf u) l→e+1≤l→(∀i,l-(e+1)≤i→i<l→KK κ (arrOf u) i=KK κ (arrOf u) (l-1))→Q (none,l,e) u):
  wpS (model prog w) A E s (descLoop m n) Q st:=by
 unfold descLoop;refine By (fun i c u=>∃e,c=(none,i,e)∧Sst kd xs0 u∧Fz κ (arrOf u) i∧e+1≤i∧∀k,i-(e+1)≤k→k<i→KK κ (arrOf u) k=KK κ (arrOf u) (i-1)) ?_ ?_ ⟨0,rfl,b,r,h1,fun k h3 h4=>by rw[show k=m-1 by omega]⟩
 ·rintro i _ u h3 h4 ⟨e,rfl,b',r',he,al⟩;have il:i≤(arrOf u).size:=by rw[b'.sz];omega
  dsimp only;refine zO (S1 hc hk b' (by omega) (by omega) ?_)
  rcases e1:κ.blt (KK κ (arrOf u) i) (KK κ (arrOf u) (i-1))with _ | _
  ·show wpS (model prog w) A E s (ltAt' (i-1) i >>= _) _ u;refine zO (S1 hc hk b' (by omega) (by omega) ?_)
   rcases e2:κ.blt (KK κ (arrOf u) (i-1)) (KK κ (arrOf u) i)with _ | _
   ·have eq:KK κ (arrOf u) i=KK κ (arrOf u) (i-1):=κ.total _ _ e1 e2;refine Ag ⟨e+1,rfl,b',r'.snoc (by omega) e2,by omega,fun k h5 h6=>?_⟩;show KK κ (arrOf u) k=KK κ (arrOf u) i
    rcases Am k i with l | l
    ·rw[eq];exact al k (by omega) l
    ·rw[show k=i by omega]
   ·exact Ag (fin i e u b' h3 (by omega) r' he al)
  ·have up:=r'.snoc (by omega) (ltA e1);show wpS (model prog w) A E s (if e > 0 then _ else _) _ u;by_cases c:e > 0
   ·rw[yC c];refine zO (R6 ?_);exact Ag ⟨0,rfl,b'.put (mirror_perm _ _ _ _),up.same (KK_mirror_equal il al),by omega,fun k h5 h6=>by rw[show k=i+1-1 by omega]⟩
   ·rw[yA c];exact Ag ⟨0,rfl,b',up,by omega,fun k h5 h6=>by rw[show k=i+1-1 by omega]⟩
 ·rintro _ u ⟨e,rfl,b',r',he,al⟩;rw[Nat.max_eq_right h2]at r' he al⊢;exact fin n e u b' h2 (yB _) r' he al
theorem Og{m n:Nat}{Q:Option Nat→SortSt→Prop}(hc:cw prog w A s κ kd)(hk:KeysOf κ xs0)(hn:n≤xs0.size)(h2:m+1≤n)(b:Sst kd xs0 st)(r:Fz κ (arrOf st) (m+1))(fin:∀l u,Sst kd xs0 u→1≤l→l≤n→Rz κ (arrOf u) l→Q (some l) u):wpS (model prog w) A E s (descPart m n) Q st:=by
 unfold descPart;refine zO (m:=liftM (rule _)) (wpS_lift (AL ⟨rfl,?_⟩));refine zO (lV hc hk hn (by omega) h2 b r fun l e u b' h3 h4 r' he al=>?_);have ll:l≤(arrOf u).size:=by rw[b'.sz];omega
 show wpS (model prog w) A E s (if e > 0 then _ else _) _ u;by_cases c:e > 0
 ·rw[yC c];refine zO (R6 ?_);exact jO (m:=l) hc hk hn (by omega) h4 (b'.put (mirror_perm _ _ _ _)) (r'.same (KK_mirror_equal ll al)) fin
 ·rw[yA c];exact jO (m:=l) hc hk hn (by omega) h4 b' r' fin
theorem pR{n:Nat}{Q:Option Nat→SortSt→Prop}(hc:cw prog w A s κ kd)(hk:KeysOf κ xs0)(hn:n≤xs0.size)(h1:1≤n)(b:Sst kd xs0 st)(fin:∀l u,Sst kd xs0 u→1≤l→l≤n→Rz κ (arrOf u) l→Q (some l) u):wpS (model prog w) A E s (countRun' 0 n) Q st:=by
 rw[countRun0_eq];refine zO (kU hc hk hn (yB 1) h1 b vF fun m h3 h4 r lt=>?_);show wpS (model prog w) A E s (if (m==n)=true then _ else _) _ st
 rcases Am m n with c | c
 ·rw[yA (by rw[beq_iff_eq];omega)];have lt:=lt c;by_cases c2:m > 1
  ·rw[yC c2];refine zO (S1 hc hk b (by omega) (by omega) ?_)
   rcases e:κ.blt (KK κ (arrOf st) 0) (KK κ (arrOf st) (m-1))with _ | _
   ·have ml:m≤(arrOf st).size:=by rw[b.sz];omega
    have al:∀k,0≤k→k<m→KK κ (arrOf st) k=KK κ (arrOf st) (m-1):=fun k _ h=>
     κ.total _ _ (ltF e (r 0 k (zP _) h)) (r k (m-1) (by omega) (by omega))
    refine zO (R6 (Og hc hk hn (by omega) (b.put (mirror_perm _ _ _ _)) ?_ fin));refine Fz.same (xs:=arrOf st) (Fz.snoc (fun i j hij hj=>?_) (by omega) (ltA lt)) (KK_mirror_equal ml al);rw[al i (zP _) (by omega),al j (zP _) hj];exact κ.irrefl _
   ·exact Ag (fin m st b h3 h4 r)
  ·rw[yA c2];obtain rfl:m=1:=by omega
   exact Og hc hk hn (by omega) b (one_Fz.snoc (by omega) (ltA lt)) fin
 ·obtain rfl:m=n:=by omega
  rw[yC (by rw[beq_iff_eq])];exact Ag (fin m st b h3 h4 r)
theorem oy{n ok:Nat}{Q:Bool→SortSt→Prop}(hc:cw prog w A s κ kd)(hk:KeysOf κ xs0)(hn:n≤xs0.size)(h2:ok≤n)(b:Sst kd xs0 st)(r:Rz κ (arrOf st) ok)(fin:∀u,Sst kd xs0 u→Rz κ (arrOf u) n→Q true u):wpS (model prog w) A E s (binarySort' 0 n ok) Q st:=by
 rw[binarySort'_eq];simp only[Nat.zero_add];have b0:Rz κ (arrOf st) (min (max ok 1) n):=fun i j hij hj=>by
  rcases Am j ok with l | l
  ·exact r i j hij l
  ·obtain rfl:i=j:=by omega
   exact κ.irrefl _
 refine zO (wpS_mono (By (Q:=fun c u=>c=(none,())∧Sst kd xs0 u∧Rz κ (arrOf u) n) (fun k c u=>c=(none,())∧Sst kd xs0 u∧Rz κ (arrOf u) (min k n)) ?_ ?_ ⟨rfl,b,b0⟩) ?_)
 ·rintro k _ u h3 h4 ⟨rfl,b',r'⟩;rw[Nat.min_eq_left (Ah h4)]at r';have kl:k<xs0.size:=by omega
  have ks:k<(arrOf u).size:=by rw[b'.sz];exact kl
  refine zO (wpS_mono (By (Q:=fun c v=>v=u∧∃p,c=(none,p,p)∧p≤k∧(∀i,i<p→κ.blt (KK κ (arrOf u) k) (KK κ (arrOf u) i)=false)∧∀i,p≤i→i<k→κ.blt (KK κ (arrOf u) k) (KK κ (arrOf u) i)=true)
   (fun x c v=>v=u∧∃p q,c=(none,p,q)∧p≤q∧q≤k∧q+x≤k+p∧(∀i,i<p→κ.blt (KK κ (arrOf u) k) (KK κ (arrOf u) i)=false)∧∀i,q≤i→i<k→κ.blt (KK κ (arrOf u) k) (KK κ (arrOf u) i)=true) ?_ ?_
   ⟨rfl,0,k,rfl,zP _,yB _,by omega,fun i h=>absurd h (Nat.not_lt_zero i),fun i h h'=>absurd h' (by omega)⟩) ?_)
  ·rintro x _ _ h5 h6 ⟨rfl,p,q,rfl,pq,qk,qx,lo,hi⟩;dsimp only
   rcases Am p q with c | c
   ·rw[yA (by omega)];refine zO (S1 hc hk b' kl (by omega) ?_)
    rcases e:κ.blt (KK κ (arrOf _) k) (KK κ (arrOf _) ((p+q) / 2))with _ | _
    ·refine Ag ⟨rfl,(p+q) / 2+1,q,rfl,by omega,qk,by omega,fun i h=>?_,hi⟩;exact ltF (r' i ((p+q) / 2) (by omega) (by omega)) e
    ·refine Ag ⟨rfl,p,(p+q) / 2,rfl,by omega,by omega,by omega,lo,fun i h h'=>?_⟩
     rcases κ.negTrans _ (KK κ (arrOf _) i) _ e with z | z
     ·exact z
     ·rw[r' _ i h h']at z;cases z
   ·rw[yC c];obtain rfl:p=q:=by omega
    exact Ag ⟨rfl,p,rfl,qk,lo,hi⟩
  ·rintro _ _ ⟨rfl,p,q,rfl,pq,qk,qx,lo,hi⟩;obtain rfl:p=q:=by omega
   exact⟨rfl,p,rfl,qk,lo,hi⟩
  ·rintro _ _ ⟨rfl,p,rfl,pk,lo,hi⟩;show wpS (model prog w) A E s (moveDown' k p >>= fun _=>pure (ForInStep.yield (none,()))) _ _;rw[moveDown'_eq];refine zO (wpS_modify (Ag ⟨rfl,b'.put (bubble_perm _ _ _),?_⟩));rw[Nat.min_eq_left h4];intro i j hij hj;show κ.blt (KK κ (bubble (arrOf _) k (k-p)) j) (KK κ (bubble (arrOf _) k (k-p)) i)=false;have at_:∀i,KK κ (bubble (arrOf _) k (k-p)) i=if i=p then KK κ (arrOf _) k else if p<i∧i≤k then KK κ (arrOf _) (i-1)else KK κ (arrOf _) i:=fun i=>by
    rw[KK_bubble ks (Nat.sub_le _ _),show k-(k-p)=p by omega]
   rw[at_,at_]
   rcases Nat.lt_trichotomy j p with c | c | c
   ·rw[yA (by omega),yA (by omega),yA (by omega),yA (by omega)];exact r' i j hij (by omega)
   ·rw[yC c]
    rcases Am i p with d | d
    ·rw[yA (by omega),yA (by omega)];exact lo i d
    ·rw[yC (by omega)];exact κ.irrefl _
   ·rw[yA (by omega),yC (by omega)]
    rcases Nat.lt_trichotomy i p with d | d | d
    ·rw[yA (by omega),yA (by omega)];exact r' i (j-1) (by omega) (by omega)
    ·rw[yC d];exact ltA (hi (j-1) (by omega) (by omega))
    ·rw[yA (by omega),yC (by omega)];exact r' (i-1) (j-1) (by omega) (by omega)
 ·rintro _ u ⟨h,b',r'⟩;refine⟨h,b',?_⟩;rw[show min (max (max ok 1) n) n=n by omega]at r';exact r'
 ·rintro _ u ⟨rfl,b',r'⟩;exact Ag (fin u b' r')
theorem qR{Q:Unit→SortSt→Prop}(hc:cw prog w A s κ kd)(hk:KeysOf κ xs0)(b:Sst kd xs0 st)(h2:2≤xs0.size)(h64:xs0.size<64)(fin:∀u,(arrOf u).Perm xs0→failedOf u=none→Rz κ (arrOf u) xs0.size→Q () u):wpS (model prog w) A E s sortRuns' Q st:=by
 have mr:minRun' xs0.size xs0.size 0=xs0.size:=by
  have e:∀f,minRun' (f+1) xs0.size 0=xs0.size:=fun f=>by rw[minRun'_succ,yC h64];rfl
  have:=e (xs0.size-1)
  rwa [show xs0.size-1+1=xs0.size by omega]at this
 rw[sortRuns'_eq];refine zO (wpS_get ?_);simp only[b.sz,mr];have done:∀{u:SortSt},Sst kd xs0 u→Rz κ (arrOf u) xs0.size→(arrOf (setPending u ((pendingOf u).push (0,xs0.size,0)))).Perm xs0∧failedOf (setPending u ((pendingOf u).push (0,xs0.size,0)))=none∧pendingOf (setPending u ((pendingOf u).push (0,xs0.size,0)))=#[(0,xs0.size,0)]∧Rz κ (arrOf (setPending u ((pendingOf u).push (0,xs0.size,0)))) xs0.size:=fun{u} b r=>⟨b.pm,b.fl,by show(pendingOf u).push _=_;rw[b.pd];rfl,r⟩;refine zO (wpS_mono (By (Q:=fun c u=>c=(none,xs0.size)∧(arrOf u).Perm xs0∧failedOf u=none∧pendingOf u=#[(0,xs0.size,0)]∧Rz κ (arrOf u) xs0.size)
  (fun x c u=>(x=0→c=(none,0)∧Sst kd xs0 u)∧(1≤x→c=(none,xs0.size)∧(arrOf u).Perm xs0∧failedOf u=none∧pendingOf u=#[(0,xs0.size,0)]∧Rz κ (arrOf u) xs0.size)) ?_ ?_ ⟨fun _=>⟨rfl,b⟩,fun h=>absurd h (by decide)⟩) ?_)
 ·rintro x c u _ hx ⟨g0,g1⟩;cases x with
  |succ x=>
   obtain⟨rfl,g2⟩:=g1 (by omega);dsimp only;rw[yC (yB _)];exact Ag ⟨rfl,g2⟩
  |zero=>
   obtain⟨rfl,b'⟩:=g0 rfl;dsimp only;rw[yA (by omega)];simp only[Nat.min_self,Nat.zero_add,Nat.sub_zero];refine zO (pR hc hk (yB _) (by omega) b' fun l v bv l1 l2 r=>?_);dsimp only
   rcases Am l xs0.size with c | c
   ·rw[yC c];refine zO (m:=liftM (rule _)) (wpS_lift (AL ⟨rfl,?_⟩));refine zO (oy hc hk (yB _) l2 bv r fun y b3 r3=>?_);rw[Bool.not_true,yA yP];refine zO (wpS_get ?_);rw[show(pendingOf y).back?=none by rw[b3.pd];rfl];exact zO (wpS_modify (Ag ⟨fun h=>absurd h (by decide),fun _=>⟨rfl,done b3 r3⟩⟩))
   ·rw[yA (by omega)];obtain rfl:l=xs0.size:=by omega
    refine zO (wpS_get ?_);rw[show(pendingOf v).back?=none by rw[bv.pd];rfl];exact zO (wpS_modify (Ag ⟨fun h=>absurd h (by decide),fun _=>⟨rfl,done bv r⟩⟩))
 ·rintro c u ⟨_,g1⟩;exact g1 (by omega)
 ·rintro _ u ⟨rfl,g1,g2,g3,g4⟩;dsimp only;refine zO (wpS_mono (By (Q:=fun c v=>v=u∧c=(none,())) (fun _ c v=>v=u∧c=(none,())) ?_ (fun _ _ h=>h) ⟨rfl,rfl⟩) ?_)
  ·rintro x _ _ _ _ ⟨rfl,rfl⟩;refine zO (wpS_get ?_);rw[yC (by rw[g3];exact yB 1)];exact Ag ⟨rfl,rfl⟩
  ·rintro _ _ ⟨rfl,rfl⟩;exact Ag (fin _ g1 g2 g4)
end
def aB:KeyOrd where
 α:=Int
 blt a b:=decide (a<b)
 irrefl a:=yY (Int.lt_irrefl a)
 trans a b c h g:=yF (Int.lt_trans (yJ h) (yJ g))
 negTrans a b c h:=by
  have h:=yJ h
  rcases Bz a b with q | q
  ·exact .inl (yF q)
  ·exact .inr (yF (by omega))
 total a b h g:=by
  have h:=Au h;have g:=Au g;omega
def cm(O U:KeyOrd)(a b:O.α×U.α):Bool:=O.blt a.1 b.1 || (!O.blt b.1 a.1 && U.blt a.2 b.2)
theorem Yg{O U:KeyOrd}{a b:O.α×U.α}:cm O U a b=true↔O.blt a.1 b.1=true∨(a.1=b.1∧U.blt a.2 b.2=true):=by
 unfold cm;constructor
 ·intro h
  rcases e:O.blt a.1 b.1 with _ | _
  ·rw[e,Bool.false_or,zz,Bool.not_eq_true']at h;exact .inr ⟨O.total _ _ e h.1,h.2⟩
  ·exact .inl rfl
 ·rintro(h | ⟨e,h⟩)
  ·rw[h,Bool.true_or]
  ·rw[e,O.irrefl,Bool.false_or,h];rfl
def bh(O U:KeyOrd):KeyOrd where
 α:=O.α×U.α
 blt:=cm O U
 irrefl a:=by
  rcases e:cm O U a a with _ | _
  ·rfl
  ·rcases Yg.mp e with h | ⟨_,h⟩
   ·rw[O.irrefl]at h;exact h.symm
   ·rw[U.irrefl]at h;exact h.symm
 trans a b c h g:=by
  rw[Yg]at *
  rcases h with h | ⟨e,h⟩
  ·rcases g with g | ⟨e',g⟩
   ·exact .inl (O.trans _ _ _ h g)
   ·exact .inl (e' ▸ h)
  ·rcases g with g | ⟨e',g⟩
   ·exact .inl (e ▸ g)
   ·exact .inr ⟨e.trans e',U.trans _ _ _ h g⟩
 negTrans a b c h:=by
  rw[Yg]at *;rw[Yg]
  rcases h with h | ⟨e,h⟩
  ·rcases O.negTrans _ b.1 _ h with q | q
   ·exact .inl (.inl q)
   ·exact .inr (.inl q)
  ·rcases e1:O.blt a.1 b.1 with _ | _
   ·rcases e2:O.blt b.1 a.1 with _ | _
    ·have ab:=O.total _ _ e1 e2
     rcases U.negTrans _ b.2 _ h with q | q
     ·exact .inl (.inr ⟨ab,q⟩)
     ·exact .inr (.inr ⟨ab.symm.trans e,q⟩)
    ·exact .inr (.inl (e ▸ e2))
   ·exact .inl (.inl rfl)
 total a b h g:=by
  have n1:∀{a b:O.α×U.α},cm O U a b=false→O.blt a.1 b.1=false:=fun{a b} h=>by
   rcases e:O.blt a.1 b.1 with _ | _
   ·rfl
   ·rw[Yg.mpr (.inl e)]at h;exact h
  have e:=O.total _ _ (n1 h) (n1 g);have n2:∀{a b:O.α×U.α},a.1=b.1→cm O U a b=false→U.blt a.2 b.2=false:=fun{a b} e h=>by
   rcases q:U.blt a.2 b.2 with _ | _
   ·rfl
   ·rw[Yg.mpr (.inr ⟨e,q⟩)]at h;exact h
  exact zN e (U.total _ _ (n2 e h) (n2 e.symm g))
def dE(O:KeyOrd)(R:Value→O.α→Prop)(d:O.α):KeyKind:={O with keyOf:=fun v=>open Classical in if h:∃a,R v a then some h.choose else none,dflt:=d}
theorem eJ{O:KeyOrd}{R:Value→O.α→Prop}{d:O.α}{v:Value}{a:O.α}(h:(dE O R d).keyOf v=some a):R v a:=by
 unfold dE at h;simp only at h
 split at h
 ·rename_i q;cases h;exact q.choose_spec
 ·cases h
theorem jP{O:KeyOrd}{R:Value→O.α→Prop}{d:O.α}{v:Value}{a:O.α}(h:R v a):∃b,(dE O R d).keyOf v=some b:=by
 refine⟨(⟨a,h⟩:∃a,R v a).choose,?_⟩;unfold dE;simp only;rw[dif_pos ⟨a,h⟩]
def eqO(O:KeyOrd)(a b:O.α):Bool:=!O.blt a b && !O.blt b a
theorem S0{O:KeyOrd}{a b:O.α}:eqO O a b=true↔a=b:=by
 unfold eqO;constructor
 ·intro h;rw[zz,Bool.not_eq_true',Bool.not_eq_true']at h;exact O.total _ _ h.1 h.2
 ·rintro rfl;rw[O.irrefl];rfl
def bM(h h':Heap):Prop:=∀b o,h.get? b=some o→o.cls=.type "tuple"→h'.get? b=some o
structure El(prog:Program)(w:World)(O:KeyOrd)(R:Heap→Value→O.α→Prop)(T:String):Prop where
 mono:∀{h h':Heap}{v:Value}{a:O.α},bM h h'→R h v a→R h' v a
 fn:∀{h:Heap}{v:Value}{a b:O.α},R h v a→R h v b→a=b
 ty:∀{s:Shared}{v:Value}{a:O.α},R s.heap v a→s.TypeIs v T
 eq:∀{A:Around}{E:Value→Shared→Prop}{s:Shared}{u v:Value}{a b:O.α}{Q:Bool→Shared→Prop},A.units+8<cLine→R s.heap u a→R s.heap v b→Q (eqO O a b) s→wpAny (model prog w) A (eqBool u v) Q E s
 lt:∀{A:Around}{E:Value→Shared→Prop}{s:Shared}{u v:Value}{a b:O.α}{Q:Bool→Shared→Prop}(f:Bool),(f=true→T≠"tuple")→A.units+8<cLine→R s.heap u a→R s.heap v b→Q (O.blt a b) s→wpAny (model prog w) A (oneLt' f u v) Q E s
theorem eqI(a b:Int):(a==b)=eqO aB a b:=by
 rw[zV,beq_iff_eq];exact(S0 (O:=aB)).symm
def v4(_:Heap)(v:Value)(a:aB.α):Prop:=∃t,v=.int a t
theorem Vy{prog:Program}{w:World}:El prog w aB v4 "int" where
 mono _ h:=h
 fn h g:=by
  obtain⟨t,rfl⟩:=h;obtain⟨u,e⟩:=g;cases e;rfl
 ty h:=by
  obtain⟨t,rfl⟩:=h;exact typeIs_int _ _ _
 eq {A E s u v a b Q} _ h g q:=by
  obtain⟨t,rfl⟩:=h;obtain⟨u,rfl⟩:=g;refine wpAny_eqBool_int ?_;exact(eqI a b) ▸ q
 lt {A E s u v a b Q} f _ _ h g q:=by
  obtain⟨t,rfl⟩:=h;obtain⟨u,rfl⟩:=g;cases f with
  |true=>exact oneLt_int q
  |false=>
   rw[oneLt'_eq];rw[yA yP];exact io (wpAny_richCompare_same (op:=.Lt) (typeIs_int _ _ _) (typeIs_int _ _ _) slot_int_lt (call_int_lt ⟨(fun x=>nomatch x),z8 q⟩))
def aS{O U:KeyOrd}(R:Heap→Value→O.α→Prop)(S:Heap→Value→U.α→Prop)(h:Heap)(v:Value)(a:O.α×U.α):Prop:=
 ∃c o n x y,v=.ref c∧h.get? c=some o∧o.cls=.type "tuple"∧o.data=.seq #[x,y] n∧R h x a.1∧S h y a.2
section
variable{prog:Program}{w:World}{O U:KeyOrd}{R:Heap→Value→O.α→Prop}{S:Heap→Value→U.α→Prop}{T V:String}
theorem X7(e:El prog w O R T)(f:El prog w U S V){h h':Heap}{v:Value}{a:O.α×U.α}(st:bM h h')(p:aS R S h v a):aS R S h' v a:=by
 obtain⟨c,o,n,x,y,rfl,ho,hc,hd,h1,h2⟩:=p;exact⟨c,o,n,x,y,rfl,st _ _ ho hc,hc,hd,e.mono st h1,f.mono st h2⟩
theorem jF(e:El prog w O R T)(f:El prog w U S V){h:Heap}{v:Value}{a b:O.α×U.α}(p:aS R S h v a)(q:aS R S h v b):a=b:=by
 obtain⟨c,o,n,x,y,rfl,ho,hc,hd,h1,h2⟩:=p;obtain⟨c',o',n',x',y',e1,ho',hc',hd',g1,g2⟩:=q;cases e1;rw[ho]at ho';cases ho';rw[hd]at hd';cases hd';exact zN (e.fn h1 g1) (f.fn h2 g2)
theorem lO(b:Bool)(x y:Value):keyLt' (tuples' b) x y=(do
  let xs ←Builtin.List.listItems x
  let ys ←Builtin.List.listItems y
  for ((p,q),i) in (xs.toList.zip ys.toList).zipIdx do
   if !(←eqBool p q)then return ←oneLt' (b && i==0) p q
  return decide (xs.size<ys.size)):=rfl
theorem rO(e:El prog w O R T)(f:El prog w U S V){A:Around}{E:Value→Shared→Prop}{s:Shared}{x y:Value}{a b:O.α×U.α}{Q:Bool→Shared→Prop}(hu:A.units+8<cLine)(bb:Bool)(hb:bb=true→T≠"tuple")(ha:aS R S s.heap x a)(hb':aS R S s.heap y b)(q:Q (cm O U a b) s):wpAny (model prog w) A (keyLt' (tuples' bb) x y) Q E s:=by
 obtain⟨c,o,n,x1,x2,rfl,ho,hc,hd,h1,h2⟩:=ha;obtain⟨c',o',n',y1,y2,rfl,ho',hc',hd',g1,g2⟩:=hb';rw[lO];refine io (listItems_at ho hd ?_);refine io (listItems_at ho' hd' ?_);show wpAny _ _ (forIn [((x1,y1),0),((x2,y2),1)] _ _ >>= _) _ _ s;rw[Br];refine io (io (io (e.eq hu h1 g1 ?_)))
 rcases e1:eqO O a.1 b.1 with _ | _
 ·rw[Bool.not_false,yC rfl];have ne:a.1≠b.1:=fun z=>by rw[S0.mpr z]at e1;cases e1
  have q:Q (O.blt a.1 b.1) s:=by
   have z:cm O U a b=O.blt a.1 b.1:=by
    rw[zV,Yg];exact⟨fun h=>h.elim id fun h=>absurd h.1 ne,.inl⟩
   rw[z]at q;exact q
  exact io (e.lt _ (fun z=>hb (by rw[zz]at z;exact z.1)) hu h1 g1 (yx (yx (yx q))))
 ·rw[Bool.not_true,yA yP];have ea:=S0.mp e1;refine yx ?_;show wpAny _ _ (forIn [((x2,y2),1)] _ _) _ _ s;rw[Br];refine io (io (f.eq hu h2 g2 ?_))
  rcases e2:eqO U a.2 b.2 with _ | _
  ·rw[Bool.not_false,yC rfl];have q:Q (U.blt a.2 b.2) s:=by
    have z:cm O U a b=U.blt a.2 b.2:=by
     rw[zV,Yg];constructor
     ·rintro(h | h)
      ·rw[ea,O.irrefl]at h;cases h
      ·exact h.2
     ·exact fun h=>.inr ⟨ea,h⟩
    rw[z]at q;exact q
   exact io (f.lt _ (fun z=>by rw[zz]at z;exact absurd z.2 (by decide)) hu h2 g2 (yx (yx (yx q))))
  ·rw[Bool.not_true,yA yP];have eb:=S0.mp e2;have q:Q false s:=by
    have z:cm O U a b=false:=by
     rcases y:cm O U a b with _ | _
     ·rfl
     ·rcases Yg.mp y with h | h
      ·rw[ea,O.irrefl]at h;exact h.symm
      ·rw[eb,U.irrefl]at h;exact h.2.symm
    rw[z]at q;exact q
   refine yx ?_;show wpAny _ _ (forIn [] _ _) _ _ s;rw[List.forIn_nil];exact yx (yx q)
theorem oB(e:El prog w O R T)(f:El prog w U S V){A:Around}{s:Shared}(hu:A.units+8<cLine)(d:O.α×U.α)(bb:Bool)(hb:bb=true→T≠"tuple"):cw prog w A s (dE (bh O U) (aS R S s.heap) d) (tuples' bb):=
 fun E x y a b Q ha hb' q=>rO e f hu bb hb (eJ ha) (eJ hb') q
theorem lc(a b:Int×Int):HT.lexLt [a.1,a.2] [b.1,b.2]=cm aB aB a b:=by
 rw[zV];refine Iff.trans ?_ (Yg (O:=aB) (U:=aB) (a:=a) (b:=b)).symm;rw[HT.lexLt_cons,HT.lexLt_cons,HT.lexLt_nil_nil];show _↔decide (a.1<b.1)=true∨(a.1=b.1∧decide (a.2<b.2)=true);rw[AM,AM];by_cases c:a.1=b.1
 ·rw[yC c];by_cases c2:a.2=b.2
  ·rw[yC c2];exact⟨fun h=>(by cases h),fun h=>by omega⟩
  ·rw[yA c2,AM];exact⟨fun h=>.inr ⟨c,h⟩,fun h=>by omega⟩
 ·rw[yA c,AM];exact⟨.inl,fun h=>by omega⟩
def wb:Heap→Value→(bh aB aB).α→Prop:=aS v4 v4
theorem Rs{h:Heap}{v:Value}{a:Int×Int}(p:wb h v a):∃c its,v=.ref c∧IsTup h c its∧IntsAre its.toList [a.1,a.2]:=by
 obtain⟨c,o,n,x,y,rfl,ho,hc,hd,⟨t,rfl⟩,⟨u,rfl⟩⟩:=p;exact⟨c,_,rfl,⟨o,ho,hc,n,hd⟩,.cons _ _ (.cons _ _ .nil)⟩
theorem jV{h:Heap}{v:Value}{a:Int×Int}(p:wb h v a):∃c,v=.ref c∧IsTupleKey (ac prog w) h [.inl a.1,.inl a.2] c:=by
 obtain⟨c,o,n,x,y,rfl,ho,hc,hd,⟨t,rfl⟩,⟨u,rfl⟩⟩:=p;exact⟨c,rfl,o,_,n,ho,hc,hd,.cons (Wt prog w _ _) (.cons (Wt prog w _ _) .nil)⟩
theorem vc:El prog w (bh aB aB) wb "tuple" where
 mono st p:=X7 (prog:=prog) (w:=w) Vy Vy st p
 fn p q:=jF (prog:=prog) (w:=w) Vy Vy p q
 ty p:=by
  obtain⟨c,its,rfl,t,_⟩:=Rs p;exact t.typeIs
 eq {A E s u v a b Q} hu p p' q:=by
  obtain⟨c,rfl,k⟩:=jV (prog:=prog) (w:=w) p;obtain⟨c',rfl,k'⟩:=jV (prog:=prog) (w:=w) p';refine wpAny_eqBool_tuple (A6 (Nat.le_add_right _ 8) hu) k k' ?_;have z:decide (([.inl a.1,.inl a.2]:List Key)=[.inl b.1,.inl b.2])=eqO (bh aB aB) a b:=by
   rw[zV,AM,S0];constructor
   ·intro h;injection h with h1 h2
    injection h2 with h2 _
    exact zN (Bu h1) (Bu h2)
   ·rintro rfl;rfl
  rw[z];exact q
 lt {A E s u v a b Q} f hf hu p p' q:=by
  obtain⟨c,its,rfl,t,i⟩:=Rs p;obtain⟨c',its',rfl,t',i'⟩:=Rs p';cases f with
  |true=>exact absurd rfl (hf rfl)
  |false=>
   rw[oneLt'_eq];rw[yA yP];refine io (HT.lt_tupInts t t' i i' (A6 (Nat.le_add_right _ 8) hu) (z8 ?_));exact(lc a b) ▸ q
end
variable{prog:Program}{w:World}{A:Around}{E:Value→Shared→Prop}{s:Shared}
section
theorem Ov{M:Model}{β:Type}{f:Value→Sem β}(F:β→Prop):∀(vs:List Value),(∀v∈vs,∃y,F y∧∀Q:β→Shared→Prop,Q y s→wpAny M A (f v) Q E s)→∃ys:List β,ys.length=vs.length∧(∀y∈ys,F y)∧∀Q:List β→Shared→Prop,Q ys s→wpAny M A (vs.mapM f) Q E s
 | [],_=>⟨[],rfl,(fun _ h=>nomatch h),fun Q q=>by rw[List.mapM_nil];exact yx q⟩
 |v::vs,h=>by
  obtain⟨y,fy,hy⟩:=h v (.head _);obtain⟨ys,l,fys,hys⟩:=Ov F vs fun x hx=>h x (.tail _ hx);refine⟨y::ys,by rw[zu,zu,l],fun z hz=>?_,fun Q q=>?_⟩
  ·rcases yO.mp hz with e | e
   ·rw[e];exact fy
   ·exact fys z e
  ·rw[List.mapM_cons];exact io (hy _ (io (hys _ (yx q))))
theorem oo(v:Value):firstOfTuple' v=(do
  if (←typeOf v) != .type "tuple" then return none
  return (←Builtin.List.listItems v)[0]?):=rfl
variable{O U:KeyOrd}{R:Heap→Value→O.α→Prop}{S:Heap→Value→U.α→Prop}{T V:String}
theorem lH(e:El prog w O R T){vs:List Value}(h:∀v∈vs,∃a,aS R S s.heap v a)(hn:vs≠[]){Q:SortKind→Shared→Prop}(q:Q (tuples' (decide (T≠"tuple"))) s):wpAny (model prog w) A (keyKind' vs.toArray) Q E s:=by
 rw[keyKind'_eq,List.mapM_toArray];obtain⟨ys,yl,yf,hy⟩:=Ov (M:=model prog w) (A:=A) (E:=E) (s:=s) (f:=firstOfTuple') (fun y=>∃x,y=some x∧s.TypeIs x T) vs fun v hv=>by
  obtain⟨a,c,o,n,x,y,rfl,ho,hc,hd,h1,h2⟩:=h v hv;refine⟨some x,⟨x,rfl,e.ty h1⟩,fun Q q=>?_⟩;rw[oo];refine io (AE (T:="tuple") ⟨o,ho,hc⟩ ?_);rw[yA (by decide)];exact io (listItems_at ho hd (yx q))
 refine io (wpAny_map ?_);refine hy _ ?_;have al:ys.toArray.all (·.isSome)=true:=by
  rw[List.all_toArray,zL];intro y hy;obtain⟨x,rfl,_⟩:=yf y hy;rfl
 rw[yC al];refine io (AL ?_);rw[oneTypeOnly'_eq,List.filterMap_toArray,List.mapM_toArray];have ht:∀x∈ys.filterMap id,s.TypeIs x T:=fun x hx=>by
  obtain⟨y,hy,ey⟩:=List.mem_filterMap.mp hx;obtain⟨x',rfl,t⟩:=yf y hy;cases (show x'=x from zD ey);exact t
 obtain⟨ts,tl,tf,htt⟩:=Ov (M:=model prog w) (A:=A) (E:=E) (s:=s) (f:=typeOf) (fun y=>y=.type T) (ys.filterMap id) fun v hv=>⟨_,rfl,fun Q q=>AE (ht v hv) q⟩;refine io (io (wpAny_map ?_));refine htt _ ?_;have fl:(ys.filterMap id).length=ys.length:=by
  clear hy al ht htt tl tf yl
  induction ys with
  |nil=>rfl
  |cons y ys ih=>
   obtain⟨x,rfl,_⟩:=yf y (.head _);rw[show List.filterMap id (some x::ys)=x::ys.filterMap id from rfl,zu,zu,ih fun z hz=>yf z (.tail _ hz)]
 cases ts with
 |nil=>
  rw[zZ,fl,yl]at tl;exact absurd (List.eq_nil_of_length_eq_zero tl.symm) hn
 |cons t ts=>
  have t0:t=.type T:=tf t (.head _);subst t0;show wpAny _ _ (pure (if ((Value.type T::ts).toArray.all (· == Value.type T))=true then some (Value.type T)else none)) _ _ s;rw[yC (by
   rw[List.all_toArray,zL];intro y hy;rw[tf y hy];exact beq_self_eq_true _)]
  refine yx (yx ?_);have z:(some (Value.type T)).any (· != Value.type "tuple")=decide (T≠"tuple"):=by
   show(Value.type T != Value.type "tuple")=_;rw[zV,bne_iff_ne,AM];exact⟨fun h e=>h (by rw[e]),fun h e=>h (by injection e)⟩
  rw[z];exact q
def u4{O:KeyOrd}(R:Value→O.α→Prop)(vs:List Value):Prop:=vs.Pairwise fun x y=>∀a b,R x a→R y b→O.blt b a=false
theorem ff{vs:List Value}{p:Value×Value}(h:p∈vs.zip vs):p.1=p.2∧p.1∈vs:=mem_zip_self h
theorem iH{O:KeyOrd}{R:Value→O.α→Prop}(fn:∀{v a b},R v a→R v b→a=b){d:O.α}{vs:List Value}(hk:∀v∈vs,∃a,R v a){xs:Array Keyed}(pm:xs.Perm (pairsOf vs))(r:Rz (dE O R d) xs (pairsOf vs).size):
  (xs.map (·.2)).toList.Perm vs∧u4 R (xs.map (·.2)).toList:=by
 have pl:xs.toList.Perm (vs.zip vs):=by rw[←pairsOf_toList];exact Array.perm_iff_toList_perm.mp pm
 have both:∀p∈xs.toList,p.1=p.2∧p.1∈vs:=fun p hp=>ff (pl.mem_iff.mp hp);rw[Array.toList_map];constructor
 ·have q:=pl.map Prod.snd;rw[List.map_snd_zip (yB _)]at q;exact q
 ·unfold u4;rw[List.pairwise_iff_getElem];intro i j hi hj hij a b ha hb;rw[pi]at hi hj;have hi':i<xs.size:=by rw[←yU];exact hi
  have hj':j<xs.size:=by rw[←yU];exact hj
  have key:∀{k:Nat}(hk':k<xs.size){c:O.α},R xs[k].2 c→KK (dE O R d) xs k=c:=by
   intro k hk' c hc;have e:=(both xs[k] (Array.mem_toList_iff.mpr (Array.getElem_mem hk'))).1;rw[←e]at hc;obtain⟨c',h'⟩:=jP (d:=d) hc;have:c'=c:=fn (eJ h') hc;unfold KK;rw[yS hk'];show((dE O R d).keyOf xs[k].1).getD _=c;rw[h',this];rfl
  rw[List.getElem_map,Array.getElem_toList]at ha hb;have q:=r i j (Ah hij) (by rw[←pm.size_eq];exact hj');rw[key hi' ha,key hj' hb]at q;exact q
theorem fi{h:Heap}{l b:Addr}{g:Obj→Obj}{o1 o2:Obj}(lt:b<h.objs.size):(((h.update l g).push o1).push o2).get? b=(h.update l g).get? b:=by
 have l1:b<(h.update l g).objs.size:=by rw[Bn];exact lt
 rw[Heap.get?_push_ne _ _ _ (yN (by rw[Bt];exact Af l1)),Heap.get?_push_ne _ _ _ (yN l1)]
theorem mB{h:Heap}{l:Addr}{vs:List Value}{n:Nat}(ho:h.get? l=some (seqObj "list" vs.toArray n))(o1 o2:Obj):bM h (((h.update l (Obj.mapSeq fun _=>#[])).push o1).push o2):=by
 intro b o hb hc;have ne:b≠l:=fun z=>by
  rw[z,ho]at hb;cases hb;exact absurd hc (by show ¬Value.type "list"=Value.type "tuple";intro z;injection z with z;exact absurd z (by decide))
 have lt:=yE hb;rw[fi lt,AZ _ _ _ _ ne];exact hb
theorem Rx(e:El prog w O R T)(f:El prog w U S V){l:Addr}{vs:List Value}{n:Nat}{P:Fin→Shared→Prop}(ho:s.heap.get? l=some (seqObj "list" vs.toArray n))(hk:∀v∈vs,∃a,aS R S s.heap v a)(h64:vs.length<64)(hu:A.units+8<cLine)(d:O.α×U.α)(fin:∀out:Array Value,out.toList.Perm vs→u4 (O:=bh O U) (aS R S s.heap) out.toList→P (.done (.ret .none)) {s with heap:=sortedHeap s.heap l vs out}):wpAny (model prog w) A (Builtin.«list.sort» ⟨[.ref l],[]⟩) P E s:=by
 rw[list_sort_plain];refine io (listItems_at ho rfl ?_);refine io (listUpdate_at ho rfl ?_);obtain⟨e1,ho1⟩:∃m,(s.heap.update l (Obj.mapSeq fun _=>#[])).get? l=some (seqObj "list" #[] m):=⟨_,AR ho fun _=>#[]⟩;refine io (seqEpoch_at ho1 rfl ?_);refine io (wpAny_newTuple ?_);refine io (Bq ?_);refine zn ?_;have ll:=yE ho;have ho2:(((s.heap.update l (Obj.mapSeq fun _=>#[])).push (seqObj "tuple" vs.toArray 0)).push (seqObj "list" #[] 0)).get? l=some (seqObj "list" #[] e1):=by
  rw[fi ll];exact ho1
 have st:=mB ho (seqObj "tuple" vs.toArray 0) (seqObj "list" #[] 0);have hk':∀v∈vs,∃a,aS R S (((s.heap.update l (Obj.mapSeq fun _=>#[])).push (seqObj "tuple" vs.toArray 0)).push (seqObj "list" #[] 0)) v a:=fun v hv=>let ⟨a,h⟩:=hk v hv;⟨a,X7 e f st h⟩
 have back:∀{v a},v∈vs→aS R S s.heap v a→aS R S (((s.heap.update l (Obj.mapSeq fun _=>#[])).push (seqObj "tuple" vs.toArray 0)).push (seqObj "list" #[] 0)) v a:=fun _ h=>X7 e f st h;show wpAny (model prog w) A _ P E {s with heap:=((s.heap.update l (Obj.mapSeq fun _=>#[])).push (seqObj "tuple" vs.toArray 0)).push (seqObj "list" #[] 0)};dsimp only;have vsz:vs.toArray.size=vs.length:=zf;have finish:∀u:SortSt,(arrOf u).Perm (pairsOf vs)→failedOf u=none→Rz (dE (bh O U) (aS R S (((s.heap.update l (Obj.mapSeq fun _=>#[])).push (seqObj "tuple" vs.toArray 0)).push (seqObj "list" #[] 0))) d) (arrOf u) (pairsOf vs).size→
   P (.done (.ret .none)) {s with heap:=sortedHeap s.heap l vs ((arrOf u).map (·.2))}:=fun u pm _ r=>by
  obtain⟨p1,p2⟩:=iH (O:=bh O U) (R:=aS R S (((s.heap.update l (Obj.mapSeq fun _=>#[])).push (seqObj "tuple" vs.toArray 0)).push (seqObj "list" #[] 0))) (fun h g=>jF e f h g) hk' pm r;exact fin _ p1 (p2.imp_of_mem fun{x y} hx hy h a b ha hb=>h a b (back (p1.mem_iff.mp hx) ha) (back (p1.mem_iff.mp hy) hb))
 by_cases c:vs.toArray.size<2
 ·rw[yC c,yC c];refine io (yx ?_);rw[StateT.run_pure];refine io (yx ?_);dsimp only;refine io (seqEpoch_at ho2 rfl ?_);refine io (listUpdate_at ho2 rfl ?_ (hsz2:=by rw[Array.size_map];show(pairsOf vs).size≤_;rw[pairsOf_size];exact zE (Ah h64) (by decide)));rw[show(e1 != e1)=false from bne_self_eq_false e1];rw[yA yP];refine yx (finish (SortSt.mk' general' (vs.toArray.zip vs.toArray) #[] 7 none) (Array.Perm.refl _) rfl fun i j hij hj=>?_);obtain rfl:i=j:=by rw[pairsOf_size]at hj;omega
  exact(dE (bh O U) _ d).irrefl _
 ·rw[yA c,yA c];have vn:vs≠[]:=fun z=>by rw[z]at c;exact c (by decide)
  refine io (lH (O:=O) (U:=U) e hk' vn ?_);have hc:=oB (A:=A) (s:={s with heap:=((s.heap.update l (Obj.mapSeq fun _=>#[])).push (seqObj "tuple" vs.toArray 0)).push (seqObj "list" #[] 0)}) e f hu d (decide (T≠"tuple")) (fun z=>yJ z);refine io (zT (qR (E:=E) (xs0:=pairsOf vs) (st:=SortSt.mk' (tuples' (decide (T≠"tuple"))) (vs.toArray.zip vs.toArray) #[] 7 none) (Q:=fun _ u=>(arrOf u).Perm (pairsOf vs)∧failedOf u=none∧Rz _ (arrOf u) (pairsOf vs).size) hc
   (fun p hp=>?_) ⟨Array.Perm.refl _,rfl,rfl,rfl⟩ (by rw[pairsOf_size];omega) (by rw[pairsOf_size];exact h64) fun u a1 a2 a3=>⟨a1,a2,a3⟩) ?_ fun _ _ z=>z)
  ·rw[pairsOf_toList]at hp;obtain⟨a,ha⟩:=hk' p.1 (ff hp).2;exact jP ha
  rintro⟨⟨⟩,u⟩ s2 ⟨rfl,pm,fl,r⟩;dsimp only;refine io (seqEpoch_at ho2 rfl ?_);refine io (listUpdate_at ho2 rfl ?_ (hsz2:=by rw[Array.size_map];exact zE (Nat.le_of_eq (pm.size_eq.trans (pairsOf_size _))) (zE (Ah h64) (by decide))));rw[fl];rw[show(e1 != e1)=false from bne_self_eq_false e1];rw[yA yP];exact yx (finish u pm fl r)
end
theorem gP{Q:List Value→Shared→Prop}(it:Addr){T:String}{o:Obj}{items:Array Value}{n:Nat}(hT:T="list"∨T="tuple")(ho:s.heap.get? it=some o)(hc:o.cls=.type T)(hd:o.data=.seq items n)(hz:items.size≤sizeLine)(q:∀g:Heap,(∀b u,s.heap.get? b=some u→g.get? b=some u)→s.heap.objs.size<g.objs.size→Q items.toList {s with heap:=g}):wpAny (model prog w) A (collect (.ref it)) Q E s:=by
 let g:Heap:=(s.heap.push (seqObj "list" #[] 0)).update s.heap.objs.size (Obj.mapSeq (·++items))
 have at1:(s.heap.push (seqObj "list" #[] 0)).get? s.heap.objs.size=some (seqObj "list" #[] 0):=yH _ rfl;have kp:∀b u,s.heap.get? b=some u→g.get? b=some u:=fun b u h=>(zS _ _ (zR (yE h))).trans (yy _ h);have gs:s.heap.objs.size<g.objs.size:=by
  show s.heap.objs.size<((s.heap.push (seqObj "list" #[] 0)).update s.heap.objs.size (Obj.mapSeq (·++items))).objs.size;rw[Bn,Bt];exact Bl _
 have last:wpAny (model prog w) A (load s.heap.objs.size >>= fun u=>match u.data with
   |.seq xs _=>pure xs.toList
   |_=>unsupported "internal:collect") Q E {s with heap:=g}:=by
  refine io (Bf (AR at1 _) ?_);show wpAny _ _ (pure ((#[]:Array Value)++items).toList) Q E _;rw[show((#[]:Array Value)++items).toList=items.toList by simp];exact yx (q g kp gs)
 unfold collect;refine io (Bx (zM Bg ?_));show wpAny _ _ (newList [] >>= fun l=>again (.builtin "list.__iadd__" ⟨[l,.ref it],[]⟩)) _ _ s;refine io (Bq (yx ⟨Code.quiet_builtin _ (by decide +kernel),zM entry_list_iadd' ?_⟩));refine zT (wpAny_extend_seq (hsz:=hz) (R:=fun r s'=>r=.ok (.ret (.ref s.heap.objs.size))∧s'={s with heap:=g}) (s:={s with heap:=s.heap.push (seqObj "list" #[] 0)}) _ it _ 0 hT at1 (yy _ ho) hc hd ⟨rfl,rfl⟩) (fun fin s' h=>?_) (fun x s' h=>?_)
 ·cases fin with
  |done y=>
   obtain⟨z,rfl⟩:=h;cases z;exact last
  |again c=>exact⟨h.1,A5 h.2 fun r s2 hr=>by obtain⟨rfl,rfl⟩:=hr;exact last⟩
 ·exact absurd h.1 (by simp)
section
variable{X:Cx}
theorem O3{as:List Addr}{out:List Value}(h:out.Perm (as.map Value.ref)):∃bs:List Addr,bs.Perm as∧out=bs.map Value.ref:=by
 let g:Value→Addr:=fun v=>match v with | .ref a=>a | _=>0
 refine⟨out.map g,?_,?_⟩
 ·have q:=h.map g;rw[yQ]at q;rw[show(g∘Value.ref)=id from rfl,List.map_id]at q;exact q
 ·rw[yQ];have e:∀l:List Value,(∀v∈l,∃a,v=.ref a)→l=l.map (Value.ref∘g):=fun l hl=>by
   induction l with
   |nil=>rfl
   |cons v l ih=>
    obtain⟨a,rfl⟩:=hl v (.head _);rw[yD,←ih fun x hx=>hl x (.tail _ hx)];rfl
  exact e out fun v hv=>by
   obtain⟨a,_,rfl⟩:=yz.mp (h.mem_iff.mp hv);exact⟨a,rfl⟩
theorem S3:∀{as:List Addr}{us:List Value},Vals (as.map V.ref) us→us=as.map Value.ref
 | [],_,h=>by cases h;rfl
 |a::as,_,h=>by
  rw[yD]at h;cases h with
  |cons r t=>rw[S3 t,show _=Value.ref a from r];rfl
def qB{O:KeyOrd}(F:Hp→Addr→O.α→Prop):List V→Hp→VK→Prop:=fun xs H Q=>∃(p:Addr)(as:List Addr),xs=[.ref p]∧(H p=some (.lst (as.map V.ref))∨H p=some (.tup (as.map V.ref)))∧as.length<64∧(∀a∈as,∃k,F H a k)∧
 ∀bs:List Addr,bs.Perm as→(bs.Pairwise fun a b=>∀k l,F H a k→F H b l→O.blt l k=false)→∀q,H q=none→Q (.ref q) (upd H q (.lst (bs.map V.ref)))
theorem call_sortG{O U:KeyOrd}{R:Heap→Value→O.α→Prop}{S:Heap→Value→U.α→Prop}{T W:String}(e:El X.prog X.w O R T)(f:El X.prog X.w U S W)(F:Hp→Addr→(bh O U).α→Prop)(br:∀{BF:List (Addr×Obj)} {σ:St} {H:Hp} {s:Shared} {a:Addr} {k:O.α×U.α},Inv X BF σ H s→F H a k→aS R S s.heap (.ref a) k)(d:O.α×U.α)(hu:X.A.units+64<cLine):aL X (.builtin "sorted") (qB (O:=bh O U) F):=by
 intro BF s σ H xs us Q I rx h;obtain⟨p,as,rfl,hp,h64,hk,q⟩:=h;obtain⟨u,rfl,ru⟩:=W2 rx;cases ru;obtain⟨o,n,T',ho,hT,hc,hd⟩:∃o n T',s.heap.get? p=some o∧(T'="list"∨T'="tuple")∧o.cls=.type T'∧o.data=.seq (as.map Value.ref).toArray n:=by
  rcases hp with hp | hp
  ·obtain⟨_,its,n,r,e1⟩:=(show ObjOk X.prog X.w H s.heap p (.lst (as.map V.ref))from I.hok p _ hp);rw[S3 r]at e1;exact⟨_,n,"list",e1,.inl rfl,rfl,rfl⟩
  ·obtain⟨_,its,r,o,e1,e2,n,e3⟩:=(show ObjOk X.prog X.w H s.heap p (.tup (as.map V.ref))from I.hok p _ hp);rw[S3 r]at e3;exact⟨o,n,"tuple",e1,.inr rfl,e2.1,e3⟩
 refine AN kind_sorted plain_sorted entry_sorted (args_sorted1 _) ?_;unfold Builtin.«sorted»;refine io (m:=checkCount "sorted" 1 1 _) (yx ?_);refine io (gP p hT ho hc hd (by rw[zf,pi];exact Zf (by omega)) fun g kp gl0=>?_);have tl:(as.map Value.ref).toArray.toList=as.map Value.ref:=List.toList_toArray;rw[tl];refine io (Bq ?_ (by rw[pi];exact Zf (by omega)));have gl:s.heap.objs.size≤g.objs.size:=Ah gl0;have hoL:(g.push (seqObj "list" (as.map Value.ref).toArray 0)).get? g.objs.size=some (seqObj "list" (as.map Value.ref).toArray 0):=yH _ rfl;have kp2:∀b ob,s.heap.get? b=some ob→(g.push (seqObj "list" (as.map Value.ref).toArray 0)).get? b=some ob:=fun b ob e=>yy _ (kp b ob e);have st:bM s.heap (g.push (seqObj "list" (as.map Value.ref).toArray 0)):=fun b ob e _=>kp2 b ob e;refine io (zn (zJ slot_list_sort ⟨_,hoL,rfl⟩ entry_list_sort (Rx e f hoL (fun v hv=>?_) (by rw[pi];exact h64) (by show X.A.units+1+1+8<_;omega) d fun out op os=>⟨_,rfl,?_⟩) (args_list_sort _)))
 ·obtain⟨a,ha,rfl⟩:=yz.mp hv;obtain⟨k,fk⟩:=hk a ha;exact⟨k,X7 e f st (br I fk)⟩
 refine yx ⟨_,rfl,?_⟩;obtain⟨bs,bp,be⟩:=O3 op;obtain⟨e2,he2⟩:=sortedHeap_at (vs:=as.map Value.ref) (out:=out) hoL;refine⟨.ref g.objs.size,_,I.laid (t':=s.toks) (o:=.lst (bs.map V.ref)) (fun b ob e=>?_) gl ?_,rfl,q bs bp ?_ _ (I.hok.fresh gl)⟩
 ·have e':=kp b ob e;have BL:=yE e';rw[sortedHeap_old (yN BL) (by rw[Bt];exact Af BL)];exact yy _ e'
 ·refine⟨by rw[pi,bp.length_eq];exact Zf (by omega),bs.map Value.ref,e2,Sb bs,?_⟩;rw[←be,Az];exact he2
 ·rw[be]at os;refine(z9.mp os).imp_of_mem fun{a b} ha hb h k l fk fl=>h k l (X7 e f st (br I fk)) (X7 e f st (br I fl))
theorem N0{BF:List (Addr×Obj)}{σ:St}{H:Hp}{s:Shared}{a:Addr}{x y:V}(I:Inv X BF σ H s)(h:H a=some (.tup [x,y])):∃o n u v,s.heap.get? a=some o∧o.cls=.type "tuple"∧o.data=.seq #[u,v] n∧RelV x u∧RelV y v:=by
 obtain⟨_,its,r,o,e1,e2,n,e3⟩:=(show ObjOk X.prog X.w H s.heap a (.tup [x,y])from I.hok a _ h);obtain⟨u,v,rfl,ru,rv⟩:=jK r;exact⟨o,n,u,v,e1,e2.1,e3,ru,rv⟩
def FII(H:Hp)(a:Addr)(k:(bh aB aB).α):Prop:=∃(i j:Int),H a=some (.tup [.int i,.int j])∧k=(i,j)
theorem R0(hu:X.A.units+64<cLine):aL X (.builtin "sorted") (qB (O:=bh aB aB) FII):=
 call_sortG (Vy (prog:=X.prog) (w:=X.w)) (Vy (prog:=X.prog) (w:=X.w)) FII (fun{BF σ H s a k} I h=>by
  obtain⟨i,j,h,rfl⟩:=h;obtain⟨o,m,u,v,e1,e2,e3,⟨t,ru⟩,⟨t',rv⟩⟩:=N0 I h;exact⟨a,o,m,u,v,rfl,e1,e2,e3,⟨t,ru⟩,⟨t',rv⟩⟩) ((0:Int),(0:Int)) hu
def FTI(H:Hp)(a:Addr)(k:(bh (bh aB aB) aB).α):Prop:=∃(b:Addr)(i j n:Int),H a=some (.tup [.ref b,.int n])∧H b=some (.tup [.int i,.int j])∧k=((i,j),n)
end
def RwD(h:Heap)(d:Addr)(es:Array DictEntry)(ep:Nat):Prop:=∃o,h.get? d=some o∧o.ExactDict∧o.data=.dict es ep
theorem RwD.typeIs{s:Shared}{d:Addr}{es:Array DictEntry}{ep:Nat}(x:RwD s.heap d es ep):s.TypeIs (.ref d) "dict":=let ⟨o,h,c,_⟩:=x;⟨o,h,c.1⟩
theorem RwD.at{h g:Heap}{d:Addr}{es:Array DictEntry}{ep:Nat}(x:RwD h d es ep)(k:∀o,h.get? d=some o→g.get? d=some o):RwD g d es ep:=let ⟨o,h,r⟩:=x;⟨o,k _ h,r⟩
theorem RwD.lt{h:Heap}{d:Addr}{es:Array DictEntry}{ep:Nat}(x:RwD h d es ep):d<h.objs.size:=let ⟨_,h,_⟩:=x;yE h
theorem U9:Builtin.Dict_items.ownsTuple "dict_keyiterator"=false∧Builtin.Dict_items.ownsTuple "dict_valueiterator"=false∧Builtin.Dict_items.ownsTuple "dict_itemiterator"=true:=by decide
theorem Va(d:Addr):¬((Value.ref d==Value.none)=true):=yP
section
variable{prog:Program}{w:World}{A:Around}{E:Value→Shared→Prop}{s:Shared}{it d:Addr}{i ep:Nat}{es:Array DictEntry}
theorem bP{α β:Type}{M:Model}{a:α}{k:α→Sem β}{Q:β→Shared→Prop}(h:wpAny M A (k a) Q E s):wpAny M A (pure a >>= k) Q E s:=io (yx h)
theorem Up{T id:String}{B:Builtin}{Q:Option Value→Shared→Prop}(ty:s.TypeIs (.ref it) T)(sl:Slot T (Str.ofString "__next__") id)(en:entryFor table id=some B)(ar:argsOk id {pos:=[.ref it]})(h:wpAny (model prog w) A.in1 (B ⟨[.ref it],[]⟩) (fun fin s'=>∃v,fin=.done (.ret v)∧Q (some v) s') (fun e s'=>s'.TypeIs e "StopIteration"∧Q none s') s):wpAny (model prog w) A (pyNext (.ref it)) Q E s:=by
 unfold pyNext;refine io (wpAny_attempt (wpAny_callSpecial?_slotG ty sl.toG (zT (zJ sl ty en (Q:=fun v s'=>Q (some v) s') h ar) (fun v s' q=>yx q) (fun e s' q=>?_))));exact io (A2 q.1 isSubtype_stop (by rw[yC rfl];exact yx q.2))
theorem j7{Q:Option Value→Shared→Prop}(zi:s.heap.IsKeyIter it d i es.size ep)(zm:RwD s.heap d es ep)(zx:i<es.size)(zq:∀g:Heap,g.IsKeyIter it d (i+1) es.size ep→Heap.SameBut it s.heap g→Q (some es[i].key) {s with heap:=g}):wpAny (model prog w) A (pyNext (.ref it)) Q E s:=by
 obtain⟨o,go,co,fo⟩:=id zi;obtain⟨od,yo,_,yd⟩:=zm;refine Up zi.typeIs PySem.F.slot_dict_keyiterator_next PySem.F.entry_dict_keyiterator_next (PySem.F.args_dict_keyiterator_next_1 _) (bP (io (io (io (AA zi.typeIs (yx (io (A3 go fo ?_))))))));simp only[U9.1,Bool.false_eq_true,if_false];show wpAny (model prog w) _ (if (Value.ref d==Value.none)=true then _ else _) _ _ s;rw[yA (Va d)];refine bP (io (zc yo yd ?_));rw[if_neg (by simp)];refine bP (wpAny_bind (wpAny_dictEpoch yo yd ?_));rw[if_neg (by simp)];refine wpAny_pure ?_;simp only[show ¬((i:Int)<0)from by omega,if_false,Int.toNat_natCast,Array.getElem?_eq_getElem zx];refine io (io (AA zi.typeIs (yx (io (wpAny_isOneOf_keyiter zi.typeIs ?_)))));show wpAny _ _ (setField (.ref it) 1 (rawInt ((i:Int)+1)) >>= fun _=>_) _ _ s;refine wpAny_bind (wpAny_setField go fo (by simp) ?_);have zj:(s.heap.update it (Obj.mapFields (·.setIfInBounds 1 (rawInt ((i:Int)+1))))).IsKeyIter it d (i+1) es.size ep:=⟨_,Heap.get?_update_self _ go (Obj.isFreed_of_fields (Obj.data_mapFields fo _)),(Obj.cls_mapFields ..).trans co,by rw[Obj.data_mapFields fo];simp[rawInt]⟩;have ty:Shared.TypeIs {s with heap:=s.heap.update it (Obj.mapFields (·.setIfInBounds 1 (rawInt ((i:Int)+1))))} (.ref it) "dict_keyiterator":=zj.typeIs;refine io (zn (io (wpAny_isOneOf_keyiter ty ?_)));show wpAny _ _ (pure es[i].key) _ _ {s with heap:=_};exact yx (yx ⟨_,rfl,zq _ zj (AD ..)⟩)
theorem jS{Q:Option Value→Shared→Prop}(zh:A.handled=none)(zi:s.heap.IsKeyIter it d i es.size ep)(zm:RwD s.heap d es ep)(zx:es.size≤i)(zq:∀g:Heap,Heap.ExtBut it s.heap g→Q none {s with heap:=g}):wpAny (model prog w) A (pyNext (.ref it)) Q E s:=by
 obtain⟨o,go,co,fo⟩:=id zi;obtain⟨od,yo,_,yd⟩:=zm;refine Up zi.typeIs PySem.F.slot_dict_keyiterator_next PySem.F.entry_dict_keyiterator_next (PySem.F.args_dict_keyiterator_next_1 _) (bP (io (io (io (AA zi.typeIs (yx (io (A3 go fo ?_))))))));simp only[U9.1,Bool.false_eq_true,if_false];show wpAny (model prog w) _ (if (Value.ref d==Value.none)=true then _ else _) _ _ s;rw[yA (Va d)];refine bP (io (zc yo yd ?_));rw[if_neg (by simp)];refine bP (wpAny_bind (wpAny_dictEpoch yo yd ?_));rw[if_neg (by simp)];refine wpAny_pure ?_;simp only[show ¬((i:Int)<0)from by omega,if_false,Int.toNat_natCast,Array.getElem?_eq_none zx];refine io (io (AA zi.typeIs (yx ?_)));show wpAny _ _ (setField (.ref it) 0 .none >>= fun _=>_) _ _ s;refine wpAny_bind (wpAny_setField go fo (by simp) (Xv (by simpa using zh) fun g e k ty=>⟨ty,zq g fun b u nb eb=>k b u ?_⟩));exact(zS _ _ (Ne.symm nb)).trans eb
theorem re{Q:Option Value→Shared→Prop}(zi:s.heap.IsValIter it d i es.size ep)(zm:RwD s.heap d es ep)(zx:i<es.size)(zq:∀g:Heap,g.IsValIter it d (i+1) es.size ep→Heap.SameBut it s.heap g→Q (some es[i].val) {s with heap:=g}):wpAny (model prog w) A (pyNext (.ref it)) Q E s:=by
 obtain⟨o,go,co,fo⟩:=id zi;obtain⟨od,yo,_,yd⟩:=zm;refine Up zi.typeIs PySem.F.slot_dict_valueiterator_next PySem.F.entry_dict_valueiterator_next (PySem.F.args_dict_valueiterator_next_1 _) (bP (io (io (io (AB zi.typeIs (yx (io (A3 go fo ?_))))))));simp only[U9.2.1,Bool.false_eq_true,if_false];show wpAny (model prog w) _ (if (Value.ref d==Value.none)=true then _ else _) _ _ s;rw[yA (Va d)];refine bP (io (zc yo yd ?_));rw[if_neg (by simp)];refine bP (wpAny_bind (wpAny_dictEpoch yo yd ?_));rw[if_neg (by simp)];refine wpAny_pure ?_;simp only[show ¬((i:Int)<0)from by omega,if_false,Int.toNat_natCast,Array.getElem?_eq_getElem zx];refine io (io (AB zi.typeIs (yx (io (wpAny_isOneOf_valiter zi.typeIs ?_)))));show wpAny _ _ (setField (.ref it) 1 (rawInt ((i:Int)+1)) >>= fun _=>_) _ _ s;refine wpAny_bind (wpAny_setField go fo (by simp) ?_);have zj:(s.heap.update it (Obj.mapFields (·.setIfInBounds 1 (rawInt ((i:Int)+1))))).IsValIter it d (i+1) es.size ep:=⟨_,Heap.get?_update_self _ go (Obj.isFreed_of_fields (Obj.data_mapFields fo _)),(Obj.cls_mapFields ..).trans co,by rw[Obj.data_mapFields fo];simp[rawInt]⟩;have ty:Shared.TypeIs {s with heap:=s.heap.update it (Obj.mapFields (·.setIfInBounds 1 (rawInt ((i:Int)+1))))} (.ref it) "dict_valueiterator":=zj.typeIs;refine io (zn (io (wpAny_isOneOf_valiter ty ?_)));refine io (wpAny_isOneOf_valiter ty ?_);show wpAny _ _ (pure es[i].val) _ _ {s with heap:=_};exact yx (yx ⟨_,rfl,zq _ zj (AD ..)⟩)
theorem qZ{Q:Option Value→Shared→Prop}(zh:A.handled=none)(zi:s.heap.IsValIter it d i es.size ep)(zm:RwD s.heap d es ep)(zx:es.size≤i)(zq:∀g:Heap,Heap.ExtBut it s.heap g→Q none {s with heap:=g}):wpAny (model prog w) A (pyNext (.ref it)) Q E s:=by
 obtain⟨o,go,co,fo⟩:=id zi;obtain⟨od,yo,_,yd⟩:=zm;refine Up zi.typeIs PySem.F.slot_dict_valueiterator_next PySem.F.entry_dict_valueiterator_next (PySem.F.args_dict_valueiterator_next_1 _) (bP (io (io (io (AB zi.typeIs (yx (io (A3 go fo ?_))))))));simp only[U9.2.1,Bool.false_eq_true,if_false];show wpAny (model prog w) _ (if (Value.ref d==Value.none)=true then _ else _) _ _ s;rw[yA (Va d)];refine bP (io (zc yo yd ?_));rw[if_neg (by simp)];refine bP (wpAny_bind (wpAny_dictEpoch yo yd ?_));rw[if_neg (by simp)];refine wpAny_pure ?_;simp only[show ¬((i:Int)<0)from by omega,if_false,Int.toNat_natCast,Array.getElem?_eq_none zx];refine io (io (AB zi.typeIs (yx ?_)));show wpAny _ _ (setField (.ref it) 0 .none >>= fun _=>_) _ _ s;refine wpAny_bind (wpAny_setField go fo (by simp) (Xv (by simpa using zh) fun g e k ty=>⟨ty,zq g fun b u nb eb=>k b u ?_⟩));exact(zS _ _ (Ne.symm nb)).trans eb
theorem j2{Q:Value→Shared→Prop}(lo:(d==sysModules)=false)(zm:RwD s.heap d es ep)(zq:Q (.ref s.heap.objs.size) {s with heap:=s.heap.push {cls:=.type "dict_keyiterator",data:=.fields #[.ref d,.int 0 0,.int es.size 0,.int ep 0]}}):wpAny (model prog w) A (pyIter (.ref d)) Q E s:=by
 obtain⟨o,yo,_,yd⟩:=id zm;refine AV zm.typeIs PySem.F.slot_dict_iter (zJ PySem.F.slot_dict_iter zm.typeIs PySem.F.entry_dict_iter (io (io (z7 zm.typeIs ?_))) (PySem.F.args_dict_iter_1 _));show wpAny (model prog w) _ (pure (Value.ref d)) _ _ s;refine yx (show wpAny (model prog w) _ (Builtin.Dict.showsAll d >>= fun _=>_) _ _ s from io ?_);unfold Builtin.Dict.showsAll;rw[lo,yA (by decide)];refine yx (io (zc yo yd (io (AS yo yd (io (zB (yx ⟨_,rfl,"dict_keyiterator",_,⟨_,yH _ rfl,rfl⟩,PySem.F.slot_dict_keyiterator_next.lookup,?_⟩)))))));simpa [rawInt] using zq
theorem tO{v:Addr}{Q:Value→Shared→Prop}(zv:s.heap.IsValuesView v d)(zm:RwD s.heap d es ep)(zq:Q (.ref s.heap.objs.size) {s with heap:=s.heap.push {cls:=.type "dict_valueiterator",data:=.fields #[.ref d,.int 0 0,.int es.size 0,.int ep 0]}}):wpAny (model prog w) A (pyIter (.ref v)) Q E s:=by
 obtain⟨ov,vo,_,vd⟩:=id zv;obtain⟨o,yo,_,yd⟩:=id zm;refine AV zv.typeIs PySem.F.slot_dict_values_iter (zJ PySem.F.slot_dict_values_iter zv.typeIs PySem.F.entry_dict_values_iter (bP (io (io (AJ vo vd (x:=.ref d) rfl (yx (io ?_)))))) (PySem.F.args_dict_values_iter_1 _));unfold Builtin.Dict_items.newIterator;skip;refine io (zc yo yd (io (AS yo yd ?_)));simp only[U9.2.1,Bool.false_eq_true,if_false];refine wpAny_newObj_type (wpAny_pure ⟨_,rfl,"dict_valueiterator",_,⟨_,Heap.get?_push_size _ rfl,rfl⟩,PySem.F.slot_dict_valueiterator_next.lookup,by simpa [rawInt] using zq⟩)
theorem mX(zh:A.handled=none)(I d:Addr)(ne:d≠I)(es:Array DictEntry)(ep:Nat):Walks prog w A I [I,d] [I] es.size (fun i v=>∃e,es[i]?=some e∧v=e.key) (fun i h=>h.IsKeyIter I d i es.size ep∧RwD h d es ep) where
 sub:=fun b zb=>by rw[yG.mp zb];exact .head _
 frame:=fun _ _ _ st k=>⟨st.1.at fun o e=>k I (.head _) o e,st.2.at fun o e=>k d (.tail _ (.head _)) o e⟩
 item:=fun i s Q E zi st q=>j7 st.1 st.2 zi fun g z sb=>q _ g s.toks ⟨_,yS zi,rfl⟩ ⟨z,st.2.at fun o e=>sb.extBut d o ne e⟩ fun b o nb e=>sb.extBut b o (fun z=>nb (by rw[z];exact .head _)) e
 done:=fun s Q E st q=>jS zh st.1 st.2 (yB _) fun g x=>q g s.toks fun b o nb e=>x b o (fun z=>nb (by rw[z];exact .head _)) e
 self:=fun _ _ _ _ st q=>wpAny_pyIter_keyiter st.1 q
theorem oX(zh:A.handled=none)(I d:Addr)(ne:d≠I)(es:Array DictEntry)(ep:Nat):Walks prog w A I [I,d] [I] es.size (fun i v=>∃e,es[i]?=some e∧v=e.val) (fun i h=>h.IsValIter I d i es.size ep∧RwD h d es ep) where
 sub:=fun b zb=>by rw[yG.mp zb];exact .head _
 frame:=fun _ _ _ st k=>⟨st.1.at fun o e=>k I (.head _) o e,st.2.at fun o e=>k d (.tail _ (.head _)) o e⟩
 item:=fun i s Q E zi st q=>re st.1 st.2 zi fun g z sb=>q _ g s.toks ⟨_,yS zi,rfl⟩ ⟨z,st.2.at fun o e=>sb.extBut d o ne e⟩ fun b o nb e=>sb.extBut b o (fun z=>nb (by rw[z];exact .head _)) e
 done:=fun s Q E st q=>qZ zh st.1 st.2 (yB _) fun g x=>q g s.toks fun b o nb e=>x b o (fun z=>nb (by rw[z];exact .head _)) e
 self:=fun _ _ _ _ st q=>wpAny_pyIter_valiter st.1 q
theorem vV(lo:(d==sysModules)=false):W.KdlSrc prog w "dict" d d es.size (fun i v=>∃e,es[i]?=some e∧v=e.key) (fun h=>RwD h d es ep) where
 type:=fun _ z=>z.typeIs
 there:=fun _ z=>⟨z.lt,z.lt⟩
 keep:=fun _ _ z k=>z.at fun o e=>k d (.inl rfl) o e
 notList:=by decide
 notTuple:=by decide
 hint:=fun _ _ _ _ z q=>W.kdl_hint_dict z.typeIs q
 iter:=fun _ _ zh z=>⟨_,_,(fun _ _ q=>j2 lo z q),mX zh _ d (yN z.lt) es ep,⟨⟨_,yH _ rfl,rfl,rfl⟩,z.at fun o e=>yy _ e⟩⟩
theorem uQ{r:Addr}:W.KdlSrc prog w "dict_values" r d es.size (fun i v=>∃e,es[i]?=some e∧v=e.val) (fun h=>h.IsValuesView r d∧RwD h d es ep) where
 type:=fun _ z=>z.1.typeIs
 there:=fun _ z=>⟨let ⟨_,e,_⟩:=z.1;yE e,z.2.lt⟩
 keep:=fun _ _ z k=>⟨let ⟨o,e,x⟩:=z.1;⟨o,k r (.inl rfl) o e,x⟩,z.2.at fun o e=>k d (.inr rfl) o e⟩
 notList:=by decide
 notTuple:=by decide
 hint:=fun _ _ _ _ z q=>W.kdl_hint_values z.1.typeIs q
 iter:=fun _ _ zh z=>⟨_,_,(fun _ _ q=>tO z.1 z.2 q),oX zh _ d (yN z.2.lt) es ep,⟨⟨_,yH _ rfl,rfl,rfl⟩,z.2.at fun o e=>yy _ e⟩⟩
theorem gy{f:DictEntry→Value}{xs:Array Value}(h:ItemsOf (fun i v=>∃e,es[i]?=some e∧v=f e) xs es.size):xs.toList=es.toList.map f:=by
 obtain⟨sz,at_⟩:=h;refine List.ext_getElem? fun j=>?_;rw[zo,yL,zo];by_cases hj:j<xs.size
 ·obtain⟨e,h1,h2⟩:=at_ j xs[j] (yS hj);rw[yS hj,h1,h2];rfl
 ·rw[Al (by omega),Al (by omega)];rfl
end
abbrev Sps:=List ((Int×Int)×Int)
def kk(p:Int×Int):List Key:=[.inl p.1,.inl p.2]
def ad(ps:Sps):List (List Key×V):=ps.map fun p=>(kk p.1,.int p.2)
theorem Vu{p q:Int×Int}(e:kk p=kk q):p=q:=by
 unfold kk at e;injection e with e1 e2
 injection e2 with e2 _
 exact zN (Bu e1) (Bu e2)
theorem Zx(ps:Sps):(ad ps).length=ps.length:=pi _
theorem S5(ps:Sps):(ad ps).map (·.1)=(ps.map (·.1)).map kk:=by
 unfold ad;rw[yQ,yQ];rfl
def KsAt(H:Hp):List Addr→List (Int×Int)→Prop:=Paired fun b k=>H b=some (.tup [.int k.1,.int k.2])
theorem KsAt.mono{H H':Hp}{bs:List Addr}{ks:List (Int×Int)}(h:KsAt H bs ks)(g:∀b xs,H b=some (.tup xs)→H' b=some (.tup xs)):KsAt H' bs ks:=Paired.mapP h fun _ _ e=>g _ _ e
def leK(a b:Int×Int):Bool:=decide (a.1<b.1) || (decide (a.1=b.1) && decide (a.2≤b.2))
theorem Wv{a b:Int×Int}:leK a b=true↔a.1<b.1∨(a.1=b.1∧a.2≤b.2):=by
 unfold leK;simp only[Bool.or_eq_true,Bool.and_eq_true,decide_eq_true_iff]
theorem mj(a b:Int×Int):(leK a b || leK b a)=true:=by
 rw[Bool.or_eq_true,Wv,Wv];omega
theorem lx(a b c:Int×Int)(h1:leK a b=true)(h2:leK b c=true):leK a c=true:=by
 rw[Wv]at *;omega
theorem pB{a b:Int×Int}(h1:leK a b=true)(h2:leK b a=true):a=b:=by
 rw[Wv]at h1 h2;exact zN (by omega) (by omega)
def bm(ks:List (Int×Int)):List (Int×Int):=ks.mergeSort leK
theorem X0(ks:List (Int×Int)):(bm ks).Perm ks:=List.mergeSort_perm _ _
theorem R9(ks:List (Int×Int)):(bm ks).Pairwise (fun a b=>leK a b=true):=List.pairwise_mergeSort lx mj ks
theorem ib:∀{l m:List (Int×Int)},l.Perm m→l.Pairwise (fun a b=>leK a b=true)→m.Pairwise (fun a b=>leK a b=true)→l=m
 | [],m,p,_,_=>List.Perm.nil_eq p
 |a::l,[],p,_,_=>absurd p.length_eq (by simp)
 |a::l,b::m,p,h1,h2=>by
  have e:a=b:=by
   rcases yO.mp (p.mem_iff.mp zy)with q | q
   ·exact q
   ·rcases yO.mp (p.mem_iff.mpr zy)with r | r
    ·exact r.symm
    ·exact pB ((ze.mp h1).1 b r) ((ze.mp h2).1 a q)
  subst e;rw[ib ((List.perm_cons a).mp p) (ze.mp h1).2 (ze.mp h2).2]
theorem mI{H:Hp}{as bs:List Addr}{ks:List (Int×Int)}(h:KsAt H as ks)(p:bs.Perm as)(pw:bs.Pairwise fun a b=>∀k l,FII H a k→FII H b l→(bh aB aB).blt l k=false):KsAt H bs (bm ks):=by
 let key:Addr→Int×Int:=fun b=>match H b with
  |some (.tup [.int i,.int j])=>(i,j)
  |_=>(0,0)
 have kat:∀{b:Addr}{k:Int×Int},H b=some (.tup [.int k.1,.int k.2])→key b=k:=fun{b k} e=>by
  show(match H b with | some (.tup [.int i,.int j])=>(i,j) | _=>(0,0))=k;rw[e]
 have all:∀{l:List Addr}{m:List (Int×Int)},KsAt H l m→l.map key=m∧∀b∈l,H b=some (.tup [.int (key b).1,.int (key b).2]):=fun{l m} r=>by
  induction r with
  |nil=>exact⟨rfl,fun _ h=>nomatch h⟩
  | @cons b k l m e _ ih=>
   have kb:=kat e;refine⟨by rw[yD,kb,ih.1],fun c hc=>?_⟩
   rcases yO.mp hc with rfl | hc
   ·rw[kb];exact e
   ·exact ih.2 c hc
 obtain⟨e1,e2⟩:=all h;have atb:∀b∈bs,H b=some (.tup [.int (key b).1,.int (key b).2]):=fun b hb=>e2 b (p.mem_iff.mp hb);have back:∀{l:List Addr},(∀b∈l,H b=some (.tup [.int (key b).1,.int (key b).2]))→KsAt H l (l.map key):=fun{l} hl=>by
  induction l with
  |nil=>exact .nil
  |cons b l ih=>exact .cons (hl b (.head _)) (ih fun c hc=>hl c (.tail _ hc))
 have eq:bs.map key=bm ks:=by
  refine ib ((p.map key).trans (by rw[e1];exact(X0 ks).symm)) (z9.mpr (pw.imp_of_mem fun{a b} ha hb q=>?_)) (R9 ks);have q:=q (key a) (key b) ⟨_,_,atb a ha,rfl⟩ ⟨_,_,atb b hb,rfl⟩;rw[Wv];by_cases c:(key a).1<(key b).1
  ·exact .inl c
  ·by_cases c2:(key b).1<(key a).1
   ·exact absurd (Yg (O:=aB) (U:=aB) (a:=key b) (b:=key a) |>.mpr (.inl (yF c2))) (by rw[show cm aB aB (key b) (key a)=false from q];decide)
   ·have e:(key b).1=(key a).1:=by omega
    by_cases c3:(key b).2<(key a).2
    ·exact absurd (Yg (O:=aB) (U:=aB) (a:=key b) (b:=key a) |>.mpr (.inr ⟨e,yF c3⟩)) (by rw[show cm aB aB (key b) (key a)=false from q];decide)
    ·exact .inr ⟨e.symm,by omega⟩
 rw[←eq];exact back atb
section
variable{X:Cx}
theorem O0{O U:KeyOrd}{R:Heap→Value→O.α→Prop}{S:Heap→Value→U.α→Prop}{T W:String}(e:El X.prog X.w O R T)(f:El X.prog X.w U S W)(F:Hp→Addr→(bh O U).α→Prop)(br:∀{BF:List (Addr×Obj)} {σ:St} {H:Hp} {s:Shared} {a:Addr} {k:O.α×U.α},Inv X BF σ H s→F H a k→aS R S s.heap (.ref a) k)(d:O.α×U.α)(hu:X.A.units+64<cLine){BF:List (Addr×Obj)}{s:Shared}{σ:St}{p:Addr}{Q:VK}(src:∀{E:Value→Shared→Prop} {C:List Value→Shared→Prop},(∀(g:Heap) (tk:Nat) (H:Hp) (as:List Addr),Inv X BF σ H {s with heap:=g,toks:=tk}→as.length<64→(∀a∈as,∃k,F H a k)→
   (∀bs:List Addr,bs.Perm as→(bs.Pairwise fun a b=>∀k l,F H a k→F H b l→(bh O U).blt l k=false)→∀q,H q=none→Q (.ref q) (upd H q (.lst (bs.map V.ref))))→C (as.map Value.ref) {s with heap:=g,toks:=tk})→wpAny (model X.prog X.w) X.A.in1 (collect (.ref p)) C E s):
  wpAny (model X.prog X.w) X.A (call (.builtin "sorted") [.ref p]) (EP X BF σ Q) X.xe s:=by
 refine AN kind_sorted plain_sorted entry_sorted (args_sorted1 _) ?_;unfold Builtin.«sorted»;refine io (m:=checkCount "sorted" 1 1 _) (yx (io (src fun g tk H as I h64 hk q=>io (Bq ?_ (by rw[pi];exact Zf (by omega))))));have hoL:(g.push (seqObj "list" (as.map Value.ref).toArray 0)).get? g.objs.size=some (seqObj "list" (as.map Value.ref).toArray 0):=yH _ rfl;have st:bM g (g.push (seqObj "list" (as.map Value.ref).toArray 0)):=fun b ob e _=>yy _ e;refine io (zn (zJ slot_list_sort ⟨_,hoL,rfl⟩ entry_list_sort (Rx e f hoL (fun v hv=>?_) (by rw[pi];exact h64) (by show X.A.units+1+1+8<_;omega) d fun out op os=>⟨_,rfl,?_⟩) (args_list_sort _)))
 ·obtain⟨a,ha,rfl⟩:=yz.mp hv;obtain⟨k,fk⟩:=hk a ha;exact⟨k,X7 e f st (br I fk)⟩
 refine yx ⟨_,rfl,?_⟩;obtain⟨bs,bp,be⟩:=O3 op;obtain⟨e2,he2⟩:=sortedHeap_at (vs:=as.map Value.ref) (out:=out) hoL;refine⟨.ref g.objs.size,_,I.laid (t':=tk) (o:=.lst (bs.map V.ref)) (fun b ob e=>?_) (yB _) ?_,rfl,q bs bp ?_ _ (I.hok.fresh (yB _))⟩
 ·have BL:=yE e;rw[sortedHeap_old (yN BL) (by rw[Bt];exact Af BL)];exact yy _ e
 ·refine⟨by rw[pi,bp.length_eq];exact Zf (by omega),bs.map Value.ref,e2,Sb bs,?_⟩;rw[←be,Az];exact he2
 ·rw[be]at os;exact(z9.mp os).imp_of_mem fun{a b} ha hb h k l fk fl=>h k l (X7 e f st (br I fk)) (X7 e f st (br I fl))
theorem Tg{P:Program}{w:World}{H:Hp}{h:Heap}{d:Addr}{kvs:List (List Key×V)}(ok:HOk P w H h)(e:Rd H d (.dT kvs)):kvs.length≤sizeLine∧(d==sysModules)=false∧∃(xs:List (List Key×Addr×Value))(es:Array DictEntry)(ep:Nat),KT H kvs xs∧RwD h d es ep∧
  es.toList.map DictEntry.key=(xs.map fun x=>x.2.1).map Value.ref∧es.toList.map DictEntry.val=xs.map (fun x=>x.2.2)∧es.size=kvs.length:=by
 obtain⟨z,lo,xs,r,o,es,ep,h1,h2,h3,h4,_⟩:=(show ObjOk P w H h d (.dT kvs)from m9 ok e);refine⟨z,lo,xs,es,ep,r,⟨o,h1,h2,h3⟩,?_,?_,?_⟩
 ·rw[h4,yQ,yQ];rfl
 ·rw[h4,yQ];rfl
 ·rw[←yU,h4,pi,←yK r]
theorem t9{H:Hp}:∀{ps:Sps}{xs:List (List Key×Addr×Value)},KT H (ad ps) xs→KsAt H (xs.map fun x=>x.2.1) (ps.map (·.1))
 | [],xs,r=>by
  cases (show KT H [] xs from r);exact .nil
 |p::ps,xs,r=>by
  cases (show KT H ((kk p.1,.int p.2)::ad ps) xs from r) with
  |cons h t=>exact .cons h.2.1 (t9 t)
def tK:List V→Hp→VK→Prop:=fun xs H Q=>∃(d:Addr)(ps:Sps),xs=[.ref d]∧H d=some (.dT (ad ps))∧ps.length<64∧∀bs:List Addr,KsAt H bs (bm (ps.map (·.1)))→∀q,H q=none→Q (.ref q) (upd H q (.lst (bs.map V.ref)))
theorem vB{H:Hp}{as:List Addr}{ks:List (Int×Int)}(h:KsAt H as ks):∀a∈as,∃k,FII H a k:=by
 induction h with
 |nil=>exact fun _ h=>nomatch h
 |cons e r ih=>exact fun b h=>(yO.mp h).elim (fun z=>by rw[z];exact⟨_,_,_,e,rfl⟩) (ih b)
theorem Wx(hc:X.calm=true)(hu:X.A.units+64<cLine):aL X (.builtin "sorted") tK:=by
 intro BF s σ H xs us Q I rx h;obtain⟨d,ps,rfl,hd,h64,q⟩:=h;obtain⟨u,rfl,ru⟩:=W2 rx;cases ru;obtain⟨_,lo,es0,es,ep,kt,raw,ek,_,sz⟩:=Tg I.hok (.inl hd);rw[Zx]at sz;have ka:=t9 kt;have al:(es0.map fun x=>x.2.1).length<64:=by rw[pi,←yK kt,Zx];exact h64
 refine O0 (Vy (prog:=X.prog) (w:=X.w)) (Vy (prog:=X.prog) (w:=X.w)) FII (fun{BF σ H s a k} I h=>?_) ((0:Int),(0:Int)) hu (fun{E C} hC=>?_)
 ·obtain⟨i,j,h,rfl⟩:=h;obtain⟨o,m,u,v,e1,e2,e3,⟨t,ru⟩,⟨t',rv⟩⟩:=N0 I h;exact⟨a,o,m,u,v,rfl,e1,e2,e3,⟨t,ru⟩,⟨t',rv⟩⟩
 ·refine Sz (A:=X.A.in1) (vV lo) (by simpa using I.ok.hd hc) raw (Zf (by omega)) fun g tk BS kp lt it=>?_;rw[gy it,ek];exact hC g tk H _ (I.kept kp) al (vB ka) fun bs bp pw=>q bs (mI ka bp pw)
end
section
variable{X:Cx}
theorem S4{K:W.Frag}{H:Hp}{d:Addr}{kvs:List (List Key×V)}(h:H d=some (.dT kvs)):tyV K "dict" (.ref d) H:=.inr (.inr (.inl ⟨rfl,.inr ⟨kvs,h⟩⟩))
theorem iZ{prog:Program}{w:World}(d:Addr)(lo:(d==sysModules)=false):MeetsIn prog w (Builtin.«dict.values» ⟨[.ref d],[]⟩) (fun _ R s=>s.TypeIs (.ref d) "dict"∧R (.ok (.ret (.ref s.heap.objs.size))) {s with heap:=s.heap.push {cls:=.type "dict_values",data:=.fields #[.ref d]}}):=
 .of_wp fun A R s ⟨ty,h⟩=>by
  refine io (io (z7 ty (show wpAny (model prog w) _ (pure d) _ _ s from yx (io ?_))));unfold Builtin.Dict.showsAll;rw[lo,yA (by decide)];exact yx (io (zB (yx ⟨_,rfl,h⟩)))
theorem hX{prog:Program}{w:World}(d:Addr)(lo:(d==sysModules)=false):MeetsIn prog w (Builtin.«dict.items» ⟨[.ref d],[]⟩) (fun _ R s=>s.TypeIs (.ref d) "dict"∧R (.ok (.ret (.ref s.heap.objs.size))) {s with heap:=s.heap.push {cls:=.type "dict_items",data:=.fields #[.ref d]}}):=
 .of_wp fun A R s ⟨ty,h⟩=>by
  unfold Builtin.«dict.items»;refine io (io (z7 ty (show wpAny (model prog w) _ (pure d) _ _ s from yx (io ?_))));unfold Builtin.Dict.showsAll;rw[lo,yA (by decide)];exact yx (io (zB (yx ⟨_,rfl,h⟩)))
def nA(w:Addr→Addr→HO):V→List V→Hp→VK→Prop:=fun x vs H Q=>∃d kvs,x=.ref d∧vs=[]∧H d=some (.dT kvs)∧∀a,H a=none→Q (.ref a) (upd H a (w a d))
theorem Qg:MtR X "dict.values" (nA cR):=by
 intro BF s σ H x vs v us Q I rx rv h;obtain⟨d,kvs,rfl,rfl,hd,q⟩:=h;cases rx;cases rv;obtain⟨_,lo,_,es,ep,_,raw,_⟩:=Tg I.hok (.inl hd);refine Bm Ax raw.typeIs PySem.F.entry_dict_values (PySem.F.args_dict_values_1 _) (iZ d lo) ⟨raw.typeIs,.ref s.heap.objs.size,_,I.laid (t':=s.toks) (o:=cR s.heap.objs.size d) (fun b o e=>yy _ e) (yB _) ?_,rfl,q _ (I.hok.fresh (yB _))⟩;exact⟨⟨_,yH _ rfl,rfl,rfl⟩,⟨_,yH _ rfl⟩,fun h1 h2 x k=>let ⟨o,ho,r⟩:=x;⟨o,k o ho,r⟩⟩
theorem O6:MtR X "dict.items" (nA b6):=by
 intro BF s σ H x vs v us Q I rx rv h;obtain⟨d,kvs,rfl,rfl,hd,q⟩:=h;cases rx;cases rv;obtain⟨_,lo,_,es,ep,_,raw,_⟩:=Tg I.hok (.inl hd);refine Bm PySem.F.slot_dict_items raw.typeIs PySem.F.entry_dict_items (PySem.F.args_dict_items_1 _) (hX d lo) ⟨raw.typeIs,.ref s.heap.objs.size,_,I.laid (t':=s.toks) (o:=b6 s.heap.objs.size d) (fun b o e=>yy _ e) (yB _) ?_,rfl,q _ (I.hok.fresh (yB _))⟩;exact⟨⟨_,yH _ rfl,rfl,rfl⟩,⟨_,yH _ rfl⟩,fun h1 h2 x k=>let ⟨o,ho,r⟩:=x;⟨o,k o ho,r⟩⟩
theorem tj{H:Hp}{kvs:List (List Key×V)}{xs:List (List Key×Addr×Value)}(h:KT H kvs xs):Vals (kvs.map (·.2)) (xs.map fun x=>x.2.2):=by
 induction h with
 |nil=>exact .nil
 |cons h t ih=>exact .cons h.2.2 ih
def r8:List V→Hp→VK→Prop:=fun xs H Q=>∃(v d:Addr)(kvs:List (List Key×V)),xs=[.ref v]∧H v=some (cR v d)∧H d=some (.dT kvs)∧∀p,H p=none→Q (.ref p) (upd H p (.lst (kvs.map (·.2))))
theorem R1(hc:X.calm=true):aL X (.type "list") r8:=by
 intro BF s σ H xs us Q I rx h;obtain⟨v,d,kvs,rfl,hv,hd,q⟩:=h;obtain⟨u,rfl,ru⟩:=W2 rx;cases ru;obtain⟨z,lo,xs,es,ep,kt,raw,_,ev,sz⟩:=Tg I.hok (.inl hd);obtain⟨view,_⟩:=(show ObjOk X.prog X.w H s.heap v (cR v d)from I.hok v _ hv);refine W.kdl_call (uQ (es:=es) (ep:=ep)) (I.ok.hd hc) ⟨view,raw⟩ (by rw[sz];exact z) fun g tk BS c kp hD it=>?_;refine⟨.ref s.heap.objs.size,_,I.laid (t':=tk) (o:=.lst (kvs.map (·.2))) kp (yB _) ⟨by rw[pi];exact z,xs.map (fun x=>x.2.2),c,tj kt,?_⟩,rfl,q _ (I.hok.fresh (yB _))⟩;rw[←ev,←gy it,Az];exact hD
end
section
variable{X:Cx}{BF:List (Addr×Obj)}{σ:St}{H:Hp}{s:Shared}
theorem e7{H:Hp}:∀{kvs:List (List Key×V)}{xs:List (List Key×Addr×Value)}{i:Nat}{p:List Key×V},KT H kvs xs→kvs[i]?=some p→∃x,xs[i]?=some x∧H x.2.1=some (.tup (p.1.map kV))∧RelV p.2 x.2.2
 |_,_,_,_,.nil,e=>by simp at e
 |_,_,0,_,.cons h _,e=>by
  rw[zQ]at e;cases e;exact⟨_,rfl,h.2.1,h.2.2⟩
 |_,_,i+1,_,.cons _ r,e=>e7 (i:=i) r (by simpa using e)
theorem Inv.thawT{d:Addr}{o:Obj}{kvs:List (List Key×V)}(nf:∀o u,X.H₀ d≠some (.frz o u))(I:Inv X BF σ H s)(h:H d=some (.frz o (.dT kvs))):Inv X BF σ (upd H d (.dT kvs)) s:=by
 have nd:∀b,H b=none→upd H d (.dT kvs) b=none:=fun b e=>by rw[Zc (Ne.symm (Zk h e))];exact e
 have ot:∀b u,H b=some u→u≠.frz o (.dT kvs)→upd H d (.dT kvs) b=some u:=fun b u e n=>by rw[Zc (U1 e h n)];exact e
 have tu:∀b xs,H b=some (.tup xs)→upd H d (.dT kvs) b=some (.tup xs):=fun b xs e=>ot b _ e (by intro z;cases z);refine⟨I.ok,I.os,I.bare,⟨I.base.keep,I.base.slot,fun b ob q n hx=>nd b (I.base.free b ob q n hx),I.base.there,fun b xs e=>tu b _ (I.base.tups b xs e),fun b ob u e=>?_,fun b ps e=>?_⟩,I.loc,I.cell,nd _ I.free,fun x c e=>nd c (I.freeC x c e),fun p hp=>?_,fun b u e=>?_,I.len⟩
 ·rw[Zc (fun z=>nf ob u (by rw[←z];exact e))];exact I.base.frzs b ob u e
 ·obtain⟨m,q⟩:=I.base.tbls b ps e;exact⟨m,ot b _ q (by intro z;cases z)⟩
 ·obtain⟨h1,h2,h3⟩:=I.pin p hp;exact⟨h1,nd _ h2,h3⟩
 ·by_cases hb:b=d
  ·subst hb;rw[Z3]at e;cases e;obtain⟨z,lo,xs,kt,r⟩:=(show ObjOk X.prog X.w H s.heap b (.dT kvs) from(I.hok b _ h).2);exact⟨z,lo,xs,KT.keeps kt tu,r⟩
  ·rw[Zc hb]at e;exact(I.hok b u e).stay (fun _ _ _ q=>q) (fun c q=>ot c _ q (by intro z;cases z)) fun c xs q=>tu c xs q
theorem Inv.freezeT{d:Addr}{kvs:List (List Key×V)}(I:Inv X BF σ H s)(h:H d=some (.dT kvs)):∃o,Inv X BF σ (upd H d (.frz o (.dT kvs))) s∧∀o u,X.H₀ d≠some (.frz o u):=by
 obtain⟨z,lo,xs,kt,o,es,ep,ho,r⟩:=(show ObjOk X.prog X.w H s.heap d (.dT kvs)from I.hok d _ h);have tu:∀b ys,H b=some (.tup ys)→upd H d (.frz o (.dT kvs)) b=some (.tup ys):=fun b ys e=>by rw[Zc (U1 e h (by intro z;cases z))];exact e
 refine⟨o,I.write (x:=d) (e:=d) (t':=s.toks) (h':=s.heap) (by rw[h];exact trivial) (.inl rfl) (fun _ _ _ q=>q) ⟨o,ho⟩ ⟨ho,z,lo,xs,KT.keeps kt tu,o,es,ep,ho,r⟩,fun o' u e=>?_⟩;have q:=I.base.frzs d o' u e;rw[h]at q;cases q
def xt(t:TE):TE:=fun σ H Q=>∃(d:Addr)(kvs:List (List Key×V)),H d=some (.dT kvs)∧∀o,t σ (upd H d (.frz o (.dT kvs))) fun v H2=>H2 d=some (.frz o (.dT kvs))∧Q v (upd H2 d (.dT kvs))
theorem jJ{e:Expr}{t:TE}(h:PE X e t):PE X e (xt t):=by
 intro BF s σ H Q I hw;obtain⟨d,kvs,hd,q⟩:=hw;obtain⟨o,I1,nf⟩:=I.freezeT hd;exact thn (h BF s σ _ _ I1 (q o)) fun v s1 ⟨x,H1,I2,r,hd2,q2⟩=>⟨x,_,I2.thawT nf hd2,r,q2⟩
def mF(d:Addr)(kvs:List (List Key×V))(o:Obj):It:=⟨fun i H=>i<kvs.length∧H d=some (.frz o (.dT kvs)),fun i H x H'=>H'=H∧∃p b,kvs[i]?=some p∧x=.ref b∧H b=some (.tup (p.1.map kV)),fun i H=>kvs.length≤i∧H d=some (.frz o (.dT kvs))⟩
theorem sK{P:Program}{w:World}{K:W.Frag}{tg:Expr}{d it:Addr}{kvs:List (List Key×V)}{o:Obj}{es:Array DictEntry}{ep:Nat}(ex:o.ExactDict)(od:o.data=.dict es ep)(sz:es.size=kvs.length):
  Turn P w K tg (mF d kvs o) [it] it (fun i h=>h.IsKeyIter it d i es.size ep) where
 mem:=by simp
 obj:=fun i h st b hb=>by
  obtain⟨q,e,c,dd⟩:=st;rw[yG.mp hb];exact⟨q,e,fun v z=>by rw[dd]at z;cases z⟩
 keep:=fun i h h' st k=>st.at fun q e=>k it (.head _) q e
 item:=by
  intro X hP hw hK hc i BF s σ H E I hf st hg;subst hP hw hK;obtain⟨hi,hd⟩:=hg;obtain⟨ho,z,lo,xs,kt,o',es',ep',h1,_,h3,h4,_⟩:=(show ObjOk X.prog X.w H s.heap d (.frz o (.dT kvs))from I.hok d _ hd);rw[ho]at h1;cases h1;rw[od]at h3;cases h3;obtain⟨f0,f1,f2,f3,f4,f5⟩:=hf it (.head _);have e1:kvs[i]?=some kvs[i]:=by simp[hi]
  obtain⟨x,ex1,hx,_⟩:=e7 kt e1;have ek:es[i].key=.ref x.2.1:=by
   have q:es.toList[i]?=some es[i]:=by rw[zo];exact yS (by omega)
   rw[h4,yL,ex1]at q;rw[←zD q];rfl
  refine j7 st ⟨o,ho,ex,od⟩ (by omega) fun g BU sb=>?_;obtain⟨q,e,c,dd⟩:=id BU;have I1:Inv X BF σ H {s with heap:=g}:=I.turned (t':=s.toks) (fun b ob hb eb=>(sb.2 b hb).trans eb) f0 f1 f3 f4 f5;exact⟨_,rfl,jC (s:={s with heap:=g}) e c dd (by decide) ⟨.ref x.2.1,H,I1,ek,⟨rfl,_,_,e1,rfl,hx⟩,BU,fun b hb=>(hf b hb).1⟩⟩
 done:=by
  intro X hP hw hK hc i BF s σ H E I hf st hg;subst hP hw hK;obtain⟨hi,hd⟩:=hg;obtain⟨ho,_⟩:=I.hok d _ hd;obtain⟨f0,f1,f2,f3,f4,f5⟩:=hf it (.head _);exact jS (I.ok.hd hc) st ⟨o,ho,ex,od⟩ (by omega) fun g eb=>⟨rfl,I.turned (t':=s.toks) (fun b ob hb e=>eb b ob hb e) f0 f1 f3 f4 f5⟩
 self:=fun _ _ _ _ _ st h=>wpAny_pyIter_keyiter st h
def uP(tl:TE):TI:=fun σ H R=>tl σ H fun x H1=>∃(d:Addr)(o:Obj)(kvs:List (List Key×V)),x=.ref d∧H1 d=some (.frz o (.dT kvs))∧R (mF d kvs o) H1
theorem Q8{tg l:Expr}{tl:TE}(hl:PE X l tl):PI X tg l (uP tl):=by
 intro BF s σ H R I h;refine thn (hl BF s σ H _ I h) fun v s1 BG=>?_;obtain⟨x,H1,I1,r1,q1⟩:=BG;obtain⟨d,o,kvs,rfl,hd,q⟩:=q1;cases r1;obtain⟨ho,z,lo,xs,kt,o',es,ep,h1,h2,h3,h4,_⟩:=(show ObjOk X.prog X.w H1 s1.heap d (.frz o (.dT kvs))from I1.hok d _ hd);rw[ho]at h1;cases h1;have sz:es.size=kvs.length:=by rw[←yU,h4,pi,←yK kt]
 refine j2 lo ⟨o,ho,h2,h3⟩ ⟨s1.heap.objs.size,[s1.heap.objs.size],_,_,H1,rfl,I1.kept (t':=s1.toks) (fun b ob e=>yy _ e),sK h2 h3 sz,⟨_,yH _ rfl,rfl,rfl⟩,fun b hb=>?_,q⟩;rw[yG.mp hb];exact I1.fpOk (yB _) (I1.hok.fresh (yB _))
theorem P6{d:Addr}{o:Obj}{kvs:List (List Key×V)}{k:Nat}{g:TG}{tt:TT}{te:TE}{σ:St}{H:Hp}{Q:VK}(Pv:Nat→List V→Hp→Prop)(h0:Pv 0 [] H)(hl:∀i ys H,Pv i ys H→H d=some (.frz o (.dT kvs)))(hs:∀i p b ys H (C:List V→Hp→Prop),kvs[i]?=some p→H b=some (.tup (p.1.map kV))→Pv i ys H→(∀ys' H',Pv (i+1) ys' H'→C ys' H')→ys.length<sizeLine∧g (.ref b) (List.replicate k none++σ) H fun σ2 H2=>Wk σ2 (List.replicate k none++σ)∧tt σ2 H2 fun ok H3=>
   if ok=true then te σ2 H3 fun y H4=>C (ys++[y]) H4 else C ys H3)(hz:∀i ys H,Pv i ys H→ys.length<sizeLine)(hd:∀ys H,Pv kvs.length ys H→ys.length≤sizeLine∧∀p,H p=none→Q (.ref p) (upd H p (.lst ys))):CompR (mF d kvs o) H k g tt te σ Q:=by
 refine⟨fun i m ys H=>m=kvs.length-i∧i≤kvs.length∧Pv i ys H,⟨kvs.length,by simp,Nat.zero_le _,h0⟩,?_⟩;rintro i m ys H ⟨rfl,hi,p⟩;have q:=hl i ys H p;by_cases BL:i<kvs.length
 ·refine .inr ⟨⟨BL,q⟩,hz i ys H p,fun v H' y=>?_⟩;obtain⟨e,p',b,hp',rfl,hb⟩:=y;subst e;exact(hs i p' b ys H' (fun ys' H'=>∃m',m'<kvs.length-i∧m'=kvs.length-(i+1)∧i+1≤kvs.length∧Pv (i+1) ys' H') hp' hb p fun ys' H' p'=>⟨_,by omega,rfl,BL,p'⟩).2
 ·have e:i=kvs.length:=by omega
  subst e;exact .inl ⟨⟨yB _,q⟩,hd ys H p⟩
end
abbrev TKv:=List Key×Addr×Value
def cY(xs:List TKv):List TKv:=xs.foldl (fun BS x=>storedH BS x.1 x.2.1 x.2.2) []
def kf(kvs:List (List Key×V)):List (List Key×V):=kvs.foldl (fun BS kv=>aN BS kv.1 kv.2) []
theorem mh(xs:List TKv)(x:TKv):cY (xs++[x])=storedH (cY xs) x.1 x.2.1 x.2.2:=by
 unfold cY;rw[List.foldl_append];rfl
theorem gX(xs:List TKv)(k:List Key)(a:Addr)(v:Value):(storedH xs k a v).length≤xs.length+1:=by
 unfold storedH
 split
 ·rw[pi];omega
 ·rw[yM];exact yB _
theorem Oc:∀(ys xs:List TKv),(ys.foldl (fun BS x=>storedH BS x.1 x.2.1 x.2.2) xs).length≤xs.length+ys.length
 | [],xs=>yB _
 |y::ys,xs=>by
  have q:=Oc ys (storedH xs y.1 y.2.1 y.2.2);have l:=gX xs y.1 y.2.1 y.2.2;rw[List.foldl_cons,zu];omega
theorem e9(xs:List TKv):(cY xs).length≤xs.length:=by
 have q:=Oc xs [];rw[zZ,BA]at q;exact q
theorem hW{xs:List TKv}{k:List Key}{a:Addr}{v:Value}{x:TKv}(h:x∈storedH xs k a v):(∃y∈xs,x.1=y.1∧x.2.1=y.2.1)∨(x.1=k∧x.2.1=a):=by
 unfold storedH at h
 split at h
 ·obtain⟨y,hy,rfl⟩:=yz.mp h;refine .inl ⟨y,hy,?_⟩;unfold putAt
  split <;> exact⟨rfl,rfl⟩
 ·rcases zk.mp h with q | q
  ·exact .inl ⟨x,q,rfl,rfl⟩
  ·rw[yG.mp q];exact .inr ⟨rfl,rfl⟩
theorem Ob:∀{ys xs:List TKv}{x:TKv},x∈ys.foldl (fun BS x=>storedH BS x.1 x.2.1 x.2.2) xs→∃y,(y∈xs∨y∈ys)∧x.1=y.1∧x.2.1=y.2.1
 | [],xs,x,h=>⟨x,.inl h,rfl,rfl⟩
 |z::ys,xs,x,h=>by
  obtain⟨y,hy,e1,e2⟩:=Ob (ys:=ys) h
  rcases hy with hy | hy
  ·rcases hW hy with⟨u,hu,f1,f2⟩|⟨f1,f2⟩
   ·exact⟨u,.inl hu,e1.trans f1,e2.trans f2⟩
   ·exact⟨z,.inr (.head _),e1.trans f1,e2.trans f2⟩
  ·exact⟨y,.inr (.tail _ hy),e1,e2⟩
theorem nO{ys:List TKv}{x:TKv}(h:x∈cY ys):∃y∈ys,x.1=y.1∧x.2.1=y.2.1:=by
 obtain⟨y,hy,e⟩:=Ob h
 rcases hy with hy | hy
 ·exact nomatch hy
 ·exact⟨y,hy,e⟩
theorem vA{H:Hp}{more:List (List Key×V)}{rs:List TKv}{kvs:List (List Key×V)}{xs:List TKv}(a:KT H more rs)(b:KT H kvs xs):KT H (more.foldl (fun BS kv=>aN BS kv.1 kv.2) kvs) (rs.foldl (fun BS x=>storedH BS x.1 x.2.1 x.2.2) xs):=by
 induction a generalizing kvs xs with
 |nil=>exact b
 | @cons p q more rs h t ih=>
  have e:=KT.put b p.1 h.2.1 h.2.2;have e2:KT H (aN kvs p.1 p.2) (storedH xs q.1 q.2.1 q.2.2):=by
   rw[show storedH xs q.1 q.2.1 q.2.2=storedH xs p.1 q.2.1 q.2.2 by rw[h.1]];exact e
  exact ih e2
theorem yq{H:Hp}{kvs:List (List Key×V)}{xs:List TKv}(h:KT H kvs xs):KT H (kf kvs) (cY xs):=vA h .nil
theorem fw:∀(kvs BS:List (List Key×V)),((BS++kvs).map (·.1)).Nodup→kvs.foldl (fun BS kv=>aN BS kv.1 kv.2) BS=BS++kvs
 | [],BS,_=>(A8 BS).symm
 |p::kvs,BS,h=>by
  have e:aP BS p.1=none:=by
   rw[yR,yD]at h;have nin:p.1∉BS.map (·.1):=fun q=>(Be.mp h).2.2 p.1 q p.1 (.head _) rfl;have:∀l:List (List Key×V),p.1∉l.map (·.1)→aP l p.1=none:=fun l=>by
    induction l with
    |nil=>intro _;rfl
    |cons y l ih=>
     intro hl;rw[yD,yO,not_or]at hl;rw[Y4 (fun z=>hl.1 z.symm)];exact ih hl.2
   exact this BS nin
  rw[List.foldl_cons,pT p.2 e,fw kvs _ (by rw[AT];exact h),AT];rfl
theorem Qh{kvs:List (List Key×V)}(h:(kvs.map (·.1)).Nodup):kf kvs=kvs:=fw kvs [] h
theorem N1{h g:Heap}{ks:List Key}{a:Addr}(x:(tupleKind (ac prog w)).is h ks a)(k:∀o,h.get? a=some o→g.get? a=some o):(tupleKind (ac prog w)).is g ks a:=by
 obtain⟨o,its,n,h1,r⟩:=x;exact⟨o,its,n,k o h1,r⟩
def iR(prog:Program)(w:World)(h:Heap)(D:Addr)(xs:List TKv):Prop:=∃o es ep,h.get? D=some o∧o.ExactDict∧o.data=.dict es ep∧es.toList=xs.map (entryOfKey (tupleKind (ac prog w)))∧(xs.map (·.1)).Nodup
def jQ(prog:Program)(w:World)(h:Heap)(p:TKv)(v:Value)(no:List Addr):Prop:=∃a o n,v=.ref a∧a∉no∧p.2.1∉no∧h.get? a=some o∧o.cls=.type "tuple"∧o.data=.seq #[.ref p.2.1,p.2.2] n∧(tupleKind (ac prog w)).is h p.1 p.2.1
theorem iK{R:Result→Shared→Prop}{I:Addr}{fp wr:List Addr}{n:Nat}{P:Nat→Value→Prop}{St:Nat→Heap→Prop}(W:Walks prog w A.in1 I fp wr n P St)(hu:A.units+1<cLine)(D:Addr)(hD:D∉fp)(ps:List TKv)(hpn:ps.length=n)(its:List Value)(hP:∀i v,P i v→its[i]?=some v)(hb:n≤100000):
  ∀(k i:Nat)(s:Shared),n-i=k→i≤n→St i s.heap→iR prog w s.heap D (cY (ps.take i))→(∀(j:Nat) p,ps[j]?=some p→∃v,its[j]?=some v∧jQ prog w s.heap p v (D::wr))→
   (∀g tk,(∀b o,b∉D::wr→s.heap.get? b=some o→g.get? b=some o)→iR prog w g D (cY ps)→R (.ok (.ret .none)) {s with heap:=g,toks:=tk})→
   codeAny (model prog w) A (.builtin "dict.update.loop" ⟨[.ref D,.ref I,rawInt i,.none],[]⟩) R s:=by
 have hDw:D∉wr:=fun q=>hD (W.sub _ q);intro k
 induction k with
 |zero=>
  intro i s hk hi st so tp fin;obtain rfl:i=n:=by omega
  refine zM Sx ?_;rw[zI Ws _];refine io (m:=pyNext (.ref I)) (W.done s _ _ st fun h' tk kp=>io (m:=Builtin.Dict.addKeywords D []) (yx (yx (fin h' tk (fun b o nb e=>kp b o (fun q=>nb (zC _ q)) e) ?_))));rw[←hpn,yV]at so;obtain⟨o,es,ep,ho,r⟩:=so;exact⟨o,es,ep,kp D o hDw ho,r⟩
 |succ k ih=>
  intro i s hk hi st so tp fin;have BL:i<n:=by omega
  refine zM Sx ?_;rw[zI Ws _];refine io (m:=pyNext (.ref I)) (W.item i s _ _ BL st fun v h1 tk1 pv st1 kp1=>?_);obtain⟨p,hp⟩:∃p,ps[i]?=some p:=⟨ps[i],y3 (by omega)⟩;have kw:∀b o,b∉D::wr→s.heap.get? b=some o→h1.get? b=some o:=fun b o nb e=>kp1 b o (fun q=>nb (zC _ q)) e;have tp1:∀(j:Nat) p,ps[j]?=some p→∃v,its[j]?=some v∧jQ prog w h1 p v (D::wr):=fun j p e=>by
   obtain⟨v,hv,a,o,m,rfl,na,nk,ha,r1,r2,r3⟩:=tp j p e;exact⟨_,hv,a,o,m,rfl,na,nk,kw a o na ha,r1,r2,N1 r3 fun o e=>kw _ o nk e⟩
  obtain⟨v',hv',a,o,m,rfl,na,nk,ha,hc,hd,hkey⟩:=tp1 i p hp;obtain rfl:v=.ref a:=zD ((hP i v pv).symm.trans hv');have so1:h1.DictOfH (tupleKind (ac prog w)) D (cY (ps.take i)):=by
   obtain⟨o,es,ep,ho,r1,r2,r3,r4⟩:=so;refine⟨o,es,ep,kp1 D o hDw ho,r1,r2,r3,fun x hx=>?_,r4⟩;obtain⟨y,hy,e1,e2⟩:=nO hx;obtain⟨j,hj⟩:=Aj (Bi hy);obtain⟨_,_,_,_,_,_,_,_,_,_,_,q⟩:=tp1 j y hj;rw[e1,e2];exact q
  refine io (zn (io (wpAny_tryCatch ?_)));unfold Builtin.Dict.pairItems;refine io (AE (T:="tuple") ⟨o,ha,hc⟩ ?_);rw[yC (by decide)];refine io (m:=seqItems? (.ref a)) ?_;unfold seqItems?;refine io (Bf ha ?_);rw[hd];refine yx (yx ?_);show wpAny _ _ (holding [Value.ref p.2.1,p.2.2] (dictSet D (.ref p.2.1) p.2.2)) _ _ _;have eb:=e9 (ps.take i);rw[yX]at eb;refine zn (wpAny_dictSet_heap (s:={s with heap:=h1,toks:=tk1}) (At hu) hkey so1 (fun g so2 sb=>?_) (by
   have:(100000:Nat)≤sizeLine:=by decide
   omega))
  have so3:iR prog w g D (cY (ps.take (i+1))):=by
   rw[Zo hp,mh];obtain⟨o,es,ep,ho,r1,r2,r3,_,r4⟩:=so2;exact⟨o,es,ep,ho,r1,r2,r3,r4⟩
  have ks:∀b o,b≠D→h1.get? b=some o→g.get? b=some o:=fun b o nb e=>(sb.2 b nb).trans e;refine yx ⟨AK Ws _,ih (i+1) _ (by omega) BL (W.frame _ _ _ st1 fun b hb o e=>ks b o (fun q=>hD (by rw[←q];exact hb)) e) so3 (fun j p e=>?_) fun g' tk kp so'=>fin g' tk (fun b o nb e=>kp b o nb ?_) so'⟩
  ·obtain⟨v,hv,a,o,m,rfl,na,nk,ha,r1,r2,r3⟩:=tp1 j p e;have nD:∀{b:Addr},b∉D::wr→b≠D:=fun h z=>h (by rw[z];exact .head _);exact⟨_,hv,a,o,m,rfl,na,nk,ks a o (nD na) ha,r1,r2,N1 r3 fun o e=>ks _ o (nD nk) e⟩
  ·exact ks b o (fun z=>nb (by rw[z];exact .head _)) (kw b o nb e)
inductive TPsAt(H:Hp):List V→List (List Key×V)→Prop
 |nil:TPsAt H [] []
 |cons {c b:Addr} {xs:List V} {k:List Key} {v:V} {kvs:List (List Key×V)} (h:H c=some (.tup [.ref b,v])) (g:H b=some (.tup (k.map kV))) (r:TPsAt H xs kvs):TPsAt H (.ref c::xs) ((k,v)::kvs)
theorem Po{l:Addr}{its:List Value}{k:Nat}{sl:Array (Option Value)}{ps:List TKv}{Q:Value→Shared→Prop}(hh:A.handled=none)(hu:A.units+3<cLine)(hl:s.heap.get? l=some {cls:=.type "tuple",dict:=none,data:=.seq its.toArray k,slots:=sl})(BV:its.length=ps.length)(hb:ps.length≤100000)(hp:∀(j:Nat) p,ps[j]?=some p→∃v,its[j]?=some v∧jQ prog w s.heap p v [])(h:∀g tk,(∀b o,s.heap.get? b=some o→g.get? b=some o)→iR prog w g s.heap.objs.size (cY ps)→Q (.ref s.heap.objs.size) {s with heap:=g,toks:=tk}):wpAny (model prog w) A (call (.type "dict") [.ref l]) Q E s:=by
 refine callType_codes (Q₁:=fun obj s₁=>obj=.ref s.heap.objs.size∧s₁={s with heap:=s.heap.push {cls:=.type "dict",data:=.dict #[]}}) F.kt_called_dict (F.kt_typeCall_dict_1 _) F.entry_dict_init (kt_code_dict_new _ ⟨rfl,rfl⟩) ?_;rintro obj s₁ ⟨rfl,rfl⟩;have gD:(s.heap.push {cls:=.type "dict",data:=.dict #[]}).get? s.heap.objs.size=some {cls:=.type "dict",data:=.dict #[]}:=yH _ rfl;have hl1:(s.heap.push {cls:=.type "dict",data:=.dict #[]}).get? l=some {cls:=.type "tuple",dict:=none,data:=.seq its.toArray k,slots:=sl}:=yy _ hl;refine⟨⟨_,gD,rfl⟩,F.args_dict_init_2 _ _,?_⟩;unfold Builtin.«dict.__init__»;refine io ?_;unfold Builtin.Dict.selfAndRest;refine io (z7 ⟨_,gD,rfl⟩ (yx (a:=(s.heap.objs.size,[Value.ref l])) ?_));show wpAny (model prog w) _ (Builtin.Dict.updateFrom "dict.__init__" s.heap.objs.size (.ref l) [] .none) _ _ _;unfold Builtin.Dict.updateFrom;refine io (AE (T:="tuple") ⟨_,hl1,rfl⟩ ?_);rw[yC (by decide)];refine wpAny_bind (yj hl1 (by simpa using hh) fun g tk kp=>?_);rw[yC (by rfl)];have ltD:s.heap.objs.size<g.objs.size:=yE (kp _ _ gD);have ltl:l<s.heap.objs.size:=yE hl;have hl2:g.IsTuple l its.toArray:=⟨_,kp _ _ hl1,rfl,k,rfl⟩;refine io (AL (io (wpAny_pyIter_tuple hl2 (yx ⟨AK Ws _,?_⟩))));have hne:l≠g.objs.size:=yN (Aw ltl ltD);have nin:s.heap.objs.size∉[g.objs.size,l]:=fun q=>by
  rcases yO.mp q with q | q
  ·exact yN ltD q
  ·exact zR ltl (yG.mp q)
 have nout:∀{b:Addr},b<s.heap.objs.size→b∉[s.heap.objs.size,g.objs.size]:=fun{b} lt q=>by
  rcases yO.mp q with q | q
  ·exact yN lt q
  ·exact yN (Aw lt ltD) (yG.mp q)
 have keep:∀b o,s.heap.get? b=some o→(g.push {cls:=.type "tuple_iterator",data:=.fields #[.ref l,.int 0 0]}).get? b=some o:=fun b o e=>yy _ (kp _ _ (yy _ e));refine iK (A:=A.in1) (Walks.tuple (by simpa using hh) g.objs.size l hne its.toArray) (by show A.units+1+1<cLine;omega) s.heap.objs.size nin ps (by rw[List.size_toArray];omega) its (fun i v e=>by simpa using e) (by rw[List.size_toArray];omega) its.toArray.size 0 _ (Nat.sub_zero _) (Nat.zero_le _) ⟨⟨_,Heap.get?_push_size _ rfl,rfl,rfl⟩,hl2.push _⟩ ⟨_,#[],0,Heap.get?_push_of_some _ (kp _ _ gD),⟨rfl,rfl,rfl⟩,rfl,rfl,List.nodup_nil⟩ (fun j p e=>?_) fun g' tk' kp' so'=>⟨rfl,h g' tk' (fun b o e=>kp' b o (nout (Heap.lt_size e)) ?_) so'⟩
 ·obtain⟨v,hv,a,o,m,rfl,_,_,ha,r1,r2,r3⟩:=hp j p e;have la:=yE ha;have lk:p.2.1<s.heap.objs.size:=by
   obtain⟨_,_,_,h1,_⟩:=r3;exact yE h1
  exact⟨_,hv,a,o,m,rfl,nout la,nout lk,yy _ (kp _ _ (yy _ ha)),r1,r2,N1 r3 fun o e=>yy _ (kp _ _ (yy _ e))⟩
 ·exact yy _ (kp _ _ (yy _ e))
section
variable{X:Cx}
theorem fe{BF:List (Addr×Obj)}{s:Shared}{σ:St}{H:Hp}(I:Inv X BF σ H s):∀{ys:List V}{kvs:List (List Key×V)}{its:List Value},TPsAt H ys kvs→Vals ys its→∃ps:List TKv,KT H kvs ps∧its.length=ps.length∧∀(j:Nat) p,ps[j]?=some p→∃v,its[j]?=some v∧jQ X.prog X.w s.heap p v []
 |_,_,_,.nil,.nil=>⟨[],.nil,rfl,fun j p e=>by simp at e⟩
 |_,_,_,.cons (c:=c) (b:=b) (k:=k) (v:=v) h g r,.cons r1 t=>by
  obtain⟨ps,kt,le,at_⟩:=fe I r t;obtain⟨_,its,rv,o,e1,e2,n,e3⟩:=(show ObjOk X.prog X.w H s.heap c (.tup [.ref b,v])from I.hok c _ h);obtain⟨u,x,rfl,ru,rx⟩:=jK rv;cases ru;cases r1;refine⟨(k,b,x)::ps,.cons ⟨rfl,g,rx⟩ kt,by rw[zu,zu,le],fun j p e=>?_⟩;cases j with
  |zero=>
   rw[zQ]at e;cases e;exact⟨_,rfl,c,o,n,rfl,zw,zw,e1,e2.1,e3,Uc I.hok g⟩
  |succ j=>exact at_ j p (by simpa using e)
def sj:List V→Hp→VK→Prop:=fun xs H Q=>∃(l:Addr)(ys:List V)(kvs:List (List Key×V)),xs=[.ref l]∧H l=some (.tup ys)∧TPsAt H ys kvs∧kvs.length≤1000∧∀p,H p=none→Q (.ref p) (upd H p (.dT (kf kvs)))
theorem Ug(hc:X.calm=true)(hu:X.A.units+64<cLine):aL X (.type "dict") sj:=by
 intro BF s σ H xs us Q I rx h;obtain⟨l,ys,kvs,rfl,hq,pa,BV,q⟩:=h;obtain⟨u,rfl,ru⟩:=W2 rx;cases ru;obtain⟨_,its,rv,⟨⟨c0,d0,dt0,sl0⟩,ho,hcl,m,hs⟩⟩:=(show ObjOk X.prog X.w H s.heap l (.tup ys)from I.hok l _ hq);simp only at hcl hs;obtain⟨hcl,hdn⟩:=hcl;subst hcl hdn hs;obtain⟨ps,kt,hl,hp⟩:=fe I pa rv;have kl:=yK kt;refine Po (I.ok.hd hc) (by omega) ho hl (by omega) hp fun g tk kp hD=>?_;have km:=yq kt;have ml:=e9 ps;refine⟨.ref s.heap.objs.size,_,I.laid (t':=tk) (o:=.dT (kf kvs)) kp (yB _) ⟨Zf (by rw[yK km];omega),Ao.mpr (zR I.big),cY ps,?_,hD⟩,rfl,q _ (I.hok.fresh (yB _))⟩;exact KT.keeps km fun b ys e=>by rw[Zc (Zk e (I.hok.fresh (yB _)))];exact e
end
theorem og{kvs:List (List Key×V)}{k:List Key}(h:k∉kvs.map (·.1)):bE kvs k=kvs:=by
 unfold bE;refine Ap.mpr fun p hp=>yF fun e=>h (yz.mpr ⟨p,hp,e⟩)
theorem kM{H:Hp}:∀{kvs:List (List Key×V)}{xs:List TKv}{k:List Key}{j:Nat}{q:Addr×Value},KT H kvs xs→(xs.map (·.1)).Nodup→xs[j]?=some (k,q)→KT H (bE kvs k) (xs.eraseIdx j)
 |_,_,_,_,_,.nil,_,e=>by simp at e
 |p::kvs,x::xs,k,0,q,.cons h t,nd,e=>by
  rw[zQ]at e;cases e;rw[yD,y7]at nd;have ke:kvs.map (·.1)=xs.map (·.1):=by
   clear nd h
   induction t with
   |nil=>rfl
   |cons a _ ih=>rw[yD,yD,ih,a.1]
  have e1:bE (p::kvs) k=kvs:=by
   have o:=og (kvs:=kvs) (k:=k) (by rw[ke];exact nd.1);unfold bE at o⊢;rw[List.filter_cons,if_neg (by simp[show p.1=k from h.1])];exact o
  rw[e1];exact t
 |p::kvs,x::xs,k,j+1,q,.cons h t,nd,e=>by
  rw[yD,y7]at nd;have e:xs[j]?=some (k,q):=by simpa using e
  have ne:p.1≠k:=fun z=>nd.1 (yz.mpr ⟨(k,q),yW e,by rw[←h.1,z]⟩);have e1:bE (p::kvs) k=p::bE kvs k:=by
   unfold bE;rw[zt,yC (yF ne)]
  rw[e1,List.eraseIdx_cons_succ];exact .cons h (kM t nd.2 e)
theorem O7{α β:Type}(f:α→β):∀(l:List α)(j:Nat),(l.map f).eraseIdx j=(l.eraseIdx j).map f
 | [],_=>rfl
 |_::_,0=>rfl
 |a::l,j+1=>by rw[yD,List.eraseIdx_cons_succ,List.eraseIdx_cons_succ,yD,O7 f l j]
theorem n5{xs:List TKv}(nd:(xs.map (·.1)).Nodup)(j:Nat):((xs.eraseIdx j).map (·.1)).Nodup:=nd.sublist ((List.eraseIdx_sublist xs j).map _)
theorem qX{d a:Addr}{xs:List TKv}{k:List Key}{j:Nat}{q:Addr×Value}(hu:A.units+1<cLine)(hkey:(tupleKind (ac prog w)).is s.heap k a)(hm:s.heap.DictOfH (tupleKind (ac prog w)) d xs)(hz:xs.length≤sizeLine)(hj:xs[j]?=some (k,q)){Q:Fin→Shared→Prop}(h:∀g tk,iR prog w g d (xs.eraseIdx j)→Heap.SameBut d s.heap g→Q (.done (.ret q.2)) {s with heap:=g,toks:=tk}):wpAny (model prog w) A.in1 (Builtin.«dict.pop» ⟨[.ref d,.ref a],[]⟩) Q E s:=by
 obtain⟨o,es,ep,ho,ex,hd,he,his,hn⟩:=id hm;have ty:s.TypeIs (.ref d) "dict":=hm.typeIs;unfold Builtin.«dict.pop»;refine io ?_;unfold Builtin.Dict.keyAndDefault;refine io (z7 ty (show wpAny (model prog w) _ (pure (d,Value.ref a,none)) _ _ s from yx ?_));have jl:j<xs.length:=(yI.mp hj).1;have sz:es.size=xs.length:=by rw[←yU,he,pi]
 have ne:es.isEmpty=false:=by
  rcases z:es.isEmpty with _ | _
  ·rfl
  ·have:=Array.isEmpty_iff_size_eq_zero.mp z;omega
 have ej:es[j]?=some (entryOfKey (tupleKind (ac prog w)) (k,q)):=by rw[←zo,he,yL,hj];rfl
 have kp:¬((keyPart (Value.ref a)).isSome=true):=yP;simp only[kp,if_false];refine io (zc ho hd (bP ?_));simp only[ne,Bool.false_eq_true,if_false];refine io ?_;unfold Builtin.Dict.takeOut;refine zn (io ((tupleKind (ac prog w)).pyHash (At hu) hkey (io (wpAny_dictFind_heap (At hu) hkey ho hd he his hn (fun hno=>absurd hj (hno j q)) fun i p hi=>?_))));have ij:i=j:=idxH_unique hn hi hj;subst ij;show wpAny (model prog w) _ (dictEntries d (keyPart (.ref a)) >>= fun l=>_) _ _ _;refine io (zc ho hd ?_);rw[ej];refine io (wpAny_updateDictKeys (hz:=?_) ho hd (yx ?_))
 ·rw[yA (by exact yP)];refine io (wpAny_letGo (yx (h _ _ ⟨_,_,ep+1,Bb _ ho (Obj.isFreed_of_dict (Obj.data_mapDictKeys hd _)),ex.mapDictKeys _,Obj.data_mapDictKeys hd _,?_,n5 hn i⟩ (AD ..))));rw[Array.eraseIdxIfInBounds,dif_pos (by omega:i<es.size),Array.toList_eraseIdx,he];exact O7 _ _ _
 ·omega
section
variable{X:Cx}
def wJ:V→List V→Hp→VK→Prop:=fun x vs H Q=>∃(d a:Addr)(kvs:List (List Key×V))(k:List Key)(v:V),x=.ref d∧vs=[.ref a]∧H d=some (.dT kvs)∧H a=some (.tup (k.map kV))∧aP kvs k=some v∧Q v (upd H d (.dT (bE kvs k)))
theorem sX{H:Hp}{kvs:List (List Key×V)}{xs:List TKv}{k:List Key}{v:V}(kt:KT H kvs xs):aP kvs k=some v→∃(j:Nat)(q:Addr×Value),xs[j]?=some (k,q)∧RelV v q.2:=by
 induction kt with
 |nil=>intro e;simp[aP]at e
 | @cons p x kvs xs h t ih=>
  intro e;by_cases z:p.1=k
  ·rw[Yb z]at e;cases e;exact⟨0,x.2,by rw[zQ,←z,h.1],h.2.2⟩
  ·rw[Y4 z]at e;obtain⟨j,q,e1,e2⟩:=ih e;exact⟨j+1,q,by simpa using e1,e2⟩
theorem jZ(hu:X.A.units+64<cLine):MtR X "dict.pop" wJ:=by
 intro BF s σ H x vs v us Q I rx rv h;obtain⟨d,a,kvs,k,y,rfl,rfl,hd,ha,hv,q⟩:=h;cases rx;obtain⟨u,rfl,ru⟩:=W2 rv;cases ru;obtain⟨z,lo,xs,kt,dd⟩:=Oe I.hok hd;obtain⟨j,p,hj,rp⟩:=sX kt hv;have hn:(xs.map (·.1)).Nodup:=by obtain⟨_,_,_,_,_,_,_,_,hn⟩:=dd;exact hn
 have tu:∀b ys,H b=some (.tup ys)→upd H d (.dT (bE kvs k)) b=some (.tup ys):=fun b ys e=>by rw[Zc (U1 e hd (by intro z;cases z))];exact e
 refine zJ PySem.F.slot_dict_pop dd.typeIs PySem.F.entry_dict_pop (qX (by omega) (Uc I.hok ha) dd (by rw[←yK kt];exact z) hj fun g tk raw sb=>⟨_,rfl,y,_,?_,rp,q⟩) (PySem.F.args_dict_pop_2 _ _);have hg:∃o,g.get? d=some o:=let ⟨o,_,_,e,_⟩:=raw;⟨o,e⟩
 exact I.write (x:=d) (e:=d) (t':=tk) (by rw[hd];exact trivial) (.inl rfl) (fun b u nb e=>(sb.2 b nb).trans e) hg ⟨zE (zG _ _) z,lo,xs.eraseIdx j,KT.keeps (kM kt hn hj) tu,raw⟩
end
abbrev ItI(h:Heap)(it d:Addr)(i n ep:Nat)(f0 f1 ok ov:Value):Prop:=h.get? it=some {cls:=.type "dict_itemiterator",dict:=none,data:=.fields #[f0,f1,.ref d,.int i 0,.int n 0,.int ep 0,ok,ov],slots:=#[]}
abbrev duo(x y:Value):Obj:={cls:=.type "tuple",data:=.seq #[x,y]}
section
variable{prog:Program}{w:World}{A:Around}{E:Value→Shared→Prop}{s:Shared}{it d:Addr}{i ep:Nat}{es:Array DictEntry}{f0 f1 ok ov:Value}
theorem ky{v:Addr}{Q:Value→Shared→Prop}(zv:s.heap.IsItemsView v d)(zm:RwD s.heap d es ep)(zq:∀g:Heap,ItI g s.heap.objs.size d 0 es.size ep .none (.bool false) .none .none→g.objs.size=s.heap.objs.size+1→(∀b o,s.heap.get? b=some o→g.get? b=some o)→Q (.ref s.heap.objs.size) {s with heap:=g}):wpAny (model prog w) A (pyIter (.ref v)) Q E s:=by
 obtain⟨ou,vo,_,vd⟩:=id zv;obtain⟨o,yo,_,yd⟩:=id zm;refine AV zv.typeIs PySem.F.slot_dict_items_iter (zJ PySem.F.slot_dict_items_iter zv.typeIs PySem.F.entry_dict_items_iter (bP (io (io (AJ vo vd (x:=.ref d) rfl (yx (io ?_)))))) (PySem.F.args_dict_items_iter_1 _));unfold Builtin.Dict_items.newIterator;skip;refine io (zc yo yd (io (AS yo yd ?_)));simp only[U9.2.2,if_true];refine wpAny_newObj_type (wpAny_pure ⟨_,rfl,"dict_itemiterator",_,⟨_,Heap.get?_push_size _ rfl,rfl⟩,PySem.F.slot_dict_itemiterator_next.lookup,?_⟩) (by simp only[sizeOk,Builtin.Dict_items.ownedTupleFields,List.size_toArray,List.length_append,List.length_cons,List.length_nil,sizeLine_eq];omega);refine zq _ ?_ (Bt _ _) fun b o e=>yy _ e;unfold ItI;rw[yH _ rfl];simp[rawInt,Builtin.Dict_items.ownedTupleFields]
theorem iI{a:Addr}{Q:Option Obj→Shared→Prop}(ho:s.heap.get? a=none)(h:Q none s):wpAny (model prog w) A (loadIfAlive a) Q E s:=by
 have h':Q (s.heap.get? a) s:=by rw[ho];exact h
 exact fun _ _ _=>h'
theorem ju{Q:Option Value→Shared→Prop}(zi:ItI s.heap it d i es.size ep f0 f1 ok ov)(alt:f0=.none∨∃(a:Addr) (b:Bool),f0=rawInt a∧f1=.bool b)(zm:RwD s.heap d es ep)(zx:i<es.size)(zq:∀(g:Heap) (e0 e1 x y:Value),ItI g it d (i+1) es.size ep e0 e1 x y→(∃(a:Addr) (b:Bool),e0=rawInt a∧e1=.bool b)→g.get? s.heap.objs.size=some (duo es[i].key es[i].val)→g.objs.size=s.heap.objs.size+1→
   (∀b o,b≠it→s.heap.get? b=some o→g.get? b=some o)→Q (some (.ref s.heap.objs.size)) {s with heap:=g}):wpAny (model prog w) A (pyNext (.ref it)) Q E s:=by
 obtain⟨hp,gs,dr,tk,os⟩:=s;obtain⟨od,yo,_,yd⟩:=zm;have ty:Shared.TypeIs ⟨hp,gs,dr,tk,os⟩ (.ref it) "dict_itemiterator":=⟨_,zi,rfl⟩;refine Up ty PySem.F.slot_dict_itemiterator_next PySem.F.entry_dict_itemiterator_next (PySem.F.args_dict_itemiterator_next_1 _) (bP (io (io (io (Av ty (yx (io (A3 zi rfl ?_))))))));simp only[U9.2.2,if_true];show wpAny (model prog w) _ (if (Value.ref d==Value.none)=true then _ else _) _ _ _;rw[yA (Va d)];refine bP (io (zc yo yd ?_));rw[if_neg (by simp)];refine bP (wpAny_bind (wpAny_dictEpoch yo yd ?_));rw[if_neg (by simp)];refine wpAny_pure ?_;simp only[show ¬((i:Int)<0)from by omega,if_false,Int.toNat_natCast,Array.getElem?_eq_getElem zx];refine io (io (Av ty (yx (io (wpAny_isOneOf_itemiter ty ?_)))));show wpAny (model prog w) _ (setField (.ref it) 3 (rawInt ((i:Int)+1)) >>= fun _=>_) _ _ ⟨hp,gs,dr,tk,os⟩;refine wpAny_bind (wpAny_setField_rec zi (by simp) fun g1 e1 s1=>?_);have s1:Heap.SameBut it hp g1:=s1;have e1:ItI g1 it d (i+1) es.size ep f0 f1 ok ov:=by
  have q:((i+1:Nat):Int)=(i:Int)+1:=by omega
  unfold ItI;rw[q];simpa [rawInt] using e1
 have ty1:Shared.TypeIs ⟨g1,gs,dr,tk,os⟩ (.ref it) "dict_itemiterator":=⟨_,e1,rfl⟩;refine io (zn (io (wpAny_isOneOf_itemiter ty1 (io (wpAny_isOneOf_itemiter ty1 ?_)))));show wpAny (model prog w) _ (Builtin.Dict_items.pairFromOwner (.ref it) 6 es[i].key es[i].val) _ _ ⟨g1,gs,dr,tk,os⟩;unfold Builtin.Dict_items.pairFromOwner;refine io (wpAny_newTuple ?_);have e2:ItI (g1.push (duo es[i].key es[i].val)) it d (i+1) es.size ep f0 f1 ok ov:=yy _ e1;generalize hz:g1.push (duo es[i].key es[i].val)=g2 at e2;have z1:g1.objs.size=hp.objs.size:=s1.1;have il:it<hp.objs.size:=yE zi;have t2:g2.get? hp.objs.size=some (duo es[i].key es[i].val):=by rw[←hz,←z1];exact yH _ rfl
 have z2:g2.objs.size=hp.objs.size+1:=by rw[←hz,A1,z1]
 have k2:∀b o,b≠it→hp.get? b=some o→g2.get? b=some o:=fun b o nb e=>by rw[←hz];exact yy _ (s1.extBut b o nb e)
 have fin:∀(g:Heap)(x0 x1 x y:Value),ItI g it d (i+1) es.size ep x0 x1 x y→(∃(a:Addr)(b:Bool),x0=rawInt a∧x1=.bool b)→Heap.SameBut it g2 g→Q (some (.ref hp.objs.size)) ⟨g,gs,dr,tk,os⟩:=fun g x0 x1 x y h1 h2 sb=>
  zq g x0 x1 x y h1 h2 (sb.extBut _ _ (zR il) t2) (by show g.objs.size=hp.objs.size+1;rw[sb.1,z2]) fun b o nb e=>sb.extBut b o nb (k2 b o nb e)
 show wpAny (model prog w) _ (Builtin.Dict_items.ownedTupleIsFree (.ref it) >>= fun _=>_) _ _ ⟨g2,gs,dr,tk,os⟩;rw[z1];unfold Builtin.Dict_items.ownedTupleIsFree
 rcases alt with rfl | ⟨a,b,rfl,rfl⟩
 ·refine io (io (AJ e2 rfl (x:=.none) rfl (yx ?_)));simp only[if_true];refine wpAny_bind (wpAny_field e2 rfl (x:=ok) rfl (wpAny_bind (wpAny_field e2 rfl (x:=ov) rfl (wpAny_bind (wpAny_setField_rec e2 (by simp) fun g3 e3 s3=>wpAny_bind (wpAny_setField_rec e3 (by simp) fun g4 e4 s4=>wpAny_bind (wpAny_setField_rec e4 (by simp) fun g5 e5 s5=>wpAny_bind (wpAny_setField_rec e5 (by simp) fun g6 e6 s6=>?_))))))));refine io (wpAny_letGo (yx (yx ⟨_,rfl,fin g6 _ _ _ _ e6 ⟨_,_,rfl,rfl⟩ ?_⟩)));have s3:Heap.SameBut it g2 g3:=s3;have s4:Heap.SameBut it g3 g4:=s4;have s5:Heap.SameBut it g4 g5:=s5;have s6:Heap.SameBut it g5 g6:=s6;exact⟨by rw[s6.1,s5.1,s4.1,s3.1],fun c nc=>(s6.2 c nc).trans ((s5.2 c nc).trans ((s4.2 c nc).trans (s3.2 c nc)))⟩
 ·refine io (io (AJ e2 rfl (x:=rawInt a) rfl ?_));show wpAny (model prog w) _ (loadIfAlive ((a:Int).toNat) >>= fun _=>_) _ _ _;rw[Int.toNat_natCast];cases a2:g2.get? a with
  |none=>
   refine io (iI a2 ?_);simp only[Option.isNone_none,if_true];refine yx ?_;simp only[if_true];refine wpAny_bind (wpAny_field e2 rfl (x:=ok) rfl (wpAny_bind (wpAny_field e2 rfl (x:=ov) rfl (wpAny_bind (wpAny_setField_rec e2 (by simp) fun g3 e3 s3=>wpAny_bind (wpAny_setField_rec e3 (by simp) fun g4 e4 s4=>wpAny_bind (wpAny_setField_rec e4 (by simp) fun g5 e5 s5=>wpAny_bind (wpAny_setField_rec e5 (by simp) fun g6 e6 s6=>?_))))))));refine io (wpAny_letGo (yx (yx ⟨_,rfl,fin g6 _ _ _ _ e6 ⟨_,_,rfl,rfl⟩ ?_⟩)));have s3:Heap.SameBut it g2 g3:=s3;have s4:Heap.SameBut it g3 g4:=s4;have s5:Heap.SameBut it g4 g5:=s5;have s6:Heap.SameBut it g5 g6:=s6;exact⟨by rw[s6.1,s5.1,s4.1,s3.1],fun c nc=>(s6.2 c nc).trans ((s5.2 c nc).trans ((s4.2 c nc).trans (s3.2 c nc)))⟩
  |some o=>
   refine io (W.kdx_alive a2 ?_);simp only[Option.isNone_some,Bool.false_eq_true,if_false];refine io (AJ e2 rfl (x:=.bool b) rfl ?_);cases b with
   |true=>
    rw[yA (show ¬((Value.bool true != Value.bool true)=true)from yP)];refine yx ?_;simp only[Bool.false_eq_true,if_false];exact yx (yx ⟨_,rfl,fin g2 _ _ _ _ e2 ⟨_,_,rfl,rfl⟩ (Heap.SameBut.refl _ _)⟩)
   |false=>
    rw[yC (show(Value.bool false != Value.bool true)=true from rfl)];refine wpAny_bind (wpAny_setField_rec e2 (by simp) fun g3 e3 s3=>wpAny_pure ?_);simp only[Bool.false_eq_true,if_false];exact yx (yx ⟨_,rfl,fin g3 _ _ _ _ e3 ⟨_,_,rfl,rfl⟩ s3⟩)
theorem kj{Q:Option Value→Shared→Prop}(zh:A.handled=none)(zi:ItI s.heap it d i es.size ep f0 f1 ok ov)(zm:RwD s.heap d es ep)(zx:es.size≤i)(zq:∀g:Heap,Heap.ExtBut it s.heap g→Q none {s with heap:=g}):wpAny (model prog w) A (pyNext (.ref it)) Q E s:=by
 obtain⟨od,yo,_,yd⟩:=zm;have ty:s.TypeIs (.ref it) "dict_itemiterator":=⟨_,zi,rfl⟩;refine Up ty PySem.F.slot_dict_itemiterator_next PySem.F.entry_dict_itemiterator_next (PySem.F.args_dict_itemiterator_next_1 _) (bP (io (io (io (Av ty (yx (io (A3 zi rfl ?_))))))));simp only[U9.2.2,if_true];show wpAny (model prog w) _ (if (Value.ref d==Value.none)=true then _ else _) _ _ s;rw[yA (Va d)];refine bP (io (zc yo yd ?_));rw[if_neg (by simp)];refine bP (wpAny_bind (wpAny_dictEpoch yo yd ?_));rw[if_neg (by simp)];refine wpAny_pure ?_;simp only[show ¬((i:Int)<0)from by omega,if_false,Int.toNat_natCast,Array.getElem?_eq_none zx];refine io (io (Av ty (yx ?_)));show wpAny (model prog w) _ (setField (.ref it) 2 .none >>= fun _=>_) _ _ s;refine wpAny_bind (wpAny_setField zi rfl (by simp) (Xv (by simpa using zh) fun g e k ty=>⟨ty,zq g fun b u nb eb=>k b u ?_⟩));exact(zS _ _ (Ne.symm nb)).trans eb
end
def beh(I n:Nat):List Addr:=(List.range n).map fun j=>I+1+j
theorem qE(I n:Nat):beh I (n+1)=beh I n++[I+1+n]:=by
 unfold beh;rw[List.range_succ,yR];rfl
theorem jY(I n:Nat):(beh I n).length=n:=by
 unfold beh;rw[pi,AW]
theorem qu(I j:Nat):I+1+j≠I:=by omega
abbrev lsO(xs:Array Value)(c:Nat):Obj:={cls:=.type "list",data:=.seq xs c}
section
variable{prog:Program}{w:World}{A:Around}{E:Value→Shared→Prop}{s:Shared}{d:Addr}{ep:Nat}{es:Array DictEntry}{R:Result→Shared→Prop}
theorem im{S I:Addr}(zh:A.handled=none)(hSI:S<I)(hSd:d≠S)(hId:d≠I)(hn:es.size≤sizeLine)(res:Value){h0:Heap}(fin:∀(h:Heap) (tk c:Nat),(∀b o,b≠S→b≠I→h0.get? b=some o→h.get? b=some o)→h.get? S=some (lsO ((beh I es.size).map Value.ref).toArray c)→(∀(j:Nat) (hj:j<es.size),h.get? (I+1+j)=some (duo es[j].key es[j].val))→R (.ok (.ret res)) {s with heap:=h,toks:=tk}):
  ∀(k i:Nat)(h:Heap)(tk c:Nat)(f0 f1 ok ov:Value),es.size-i=k→i≤es.size→ItI h I d i es.size ep f0 f1 ok ov→(f0=.none∨∃(a:Addr)(b:Bool),f0=rawInt a∧f1=.bool b)→RwD h d es ep→(∀b o,b≠S→b≠I→h0.get? b=some o→h.get? b=some o)→
   h.get? S=some (lsO ((beh I i).map Value.ref).toArray c)→(∀(j:Nat)(hj:j<es.size),j<i→h.get? (I+1+j)=some (duo es[j].key es[j].val))→h.objs.size=I+1+i→
   codeAny (model prog w) A (.builtin "list.extend.loop" ⟨[.ref S,.ref I,res],[]⟩) R {s with heap:=h,toks:=tk}:=by
 have ne:S≠I:=yN hSI;intro k
 induction k with
 |zero=>
  intro i h tk c f0 f1 ok ov hk hi st alt hD keep hS tp hz;obtain rfl:i=es.size:=by omega
  refine zM PySem.F.entry_extend_loop ?_;rw[zI Ar _];refine wpAny_bind (m:=pyNext (.ref I)) (kj (s:={s with heap:=h,toks:=tk}) (A:=A.in1) (by simpa using zh) st hD (Nat.le_refl _) fun g x=>wpAny_pure (fin g tk c (fun b o h1 h2 e=>x b o h2 (keep b o h1 h2 e)) (x S _ ne hS) fun j hj=>x _ _ (qu I j) (tp j hj hj)))
 |succ k ih=>
  intro i h tk c f0 f1 ok ov hk hi st alt hD keep hS tp hz;have BL:i<es.size:=by omega
  refine zM PySem.F.entry_extend_loop ?_;rw[zI Ar _];refine io (m:=pyNext (.ref I)) (ju (s:={s with heap:=h,toks:=tk}) (A:=A.in1) st alt hD BL fun g x0 x1 x y BU al tg zg kp=>?_);dsimp only at tg zg kp al⊢;rw[hz]at tg zg⊢;have hSl:S<h.objs.size:=yE hS;have hS':=kp S _ ne hS;have up:∀b o,b≠S→g.get? b=some o→(g.update S (Obj.mapSeq (·.push (Value.ref (I+1+i))))).get? b=some o:=fun b o nb e=>(zS _ _ (Ne.symm nb)).trans e;have hl:((beh I i).map Value.ref).toArray.size=i:=by rw[zf,pi,jY]
  obtain⟨c2,u2⟩:∃c2,(g.update S (Obj.mapSeq (·.push (Value.ref (I+1+i))))).get? S=some (lsO ((beh I (i+1)).map Value.ref).toArray c2):=by
   have u:=AR (c:="list") hS' (fun x=>x.push (Value.ref (I+1+i)));rw[List.push_toArray]at u;rw[qE,yR];exact⟨_,u⟩
  show wpAny (model prog w) A.in1 (updateSeq S (·.push (Value.ref (I+1+i))) >>= fun _=>_) _ _ _;refine io (wpAny_updateSeq hS' rfl (yx ⟨AK Ar _,ih (i+1) _ tk c2 x0 x1 x y (by omega) BL (up I _ (Ne.symm ne) BU) (.inr al) (hD.at fun o e=>up d o hSd (kp d o hId e)) (fun b o h1 h2 e=>up b o h1 (kp b o h2 (keep b o h1 h2 e))) u2 (fun j hj ji=>?_) ?_⟩) (by rw[hl];omega) (by rw[Array.size_push,hl];omega))
  ·by_cases z:j=i
   ·subst z;exact up _ _ (zR (zd hSI (by omega))) tg
   ·exact up _ _ (zR (zd hSI (by omega))) (kp _ _ (qu I j) (tp j hj (by omega)))
  ·rw[Bn,zg];omega
theorem ud:(Value.type "dict_items" == Value.type "list")=false∧(Value.type "dict_items" == Value.type "tuple")=false:=by decide
theorem dR{S r:Addr}(zh:A.handled=none)(zv:s.heap.IsItemsView r d)(zm:RwD s.heap d es ep)(hSr:S≠r)(hSd:d≠S)(hn:es.size≤sizeLine)(res:Value){c0:Nat}(eS:s.heap.get? S=some (lsO #[] c0))(fin:∀(h:Heap) (tk c:Nat),(∀b o,b≠S→s.heap.get? b=some o→h.get? b=some o)→h.get? S=some (lsO ((beh s.heap.objs.size es.size).map Value.ref).toArray c)→(∀(j:Nat) (hj:j<es.size),h.get? (s.heap.objs.size+1+j)=some (duo es[j].key es[j].val))→R (.ok (.ret res)) {s with heap:=h,toks:=tk}):
  wpAny (model prog w) A.in1 (Builtin.List.listExtendWith (.ref S) (.ref r) res) (fun fin s'=>match fin with
   |.done f=>R (.ok f) s'
   |.again c'=>c'.quiet=true∧codeAny (model prog w) A c' R s') (fun e s'=>R (.error e) s') s:=by
 have lS:S<s.heap.objs.size:=yE eS;unfold Builtin.List.listExtendWith;refine io (AE zv.typeIs ?_);have sm:Builtin.List.listSameRef (.ref S) (.ref r)=false:=by
  unfold Builtin.List.listSameRef;simpa using hSr
 rw[sm,ud.1,ud.2,yA (by decide)];refine io (ky zv zm fun g1 st z1 kp=>?_);refine io (zn (W.kdx_hint (s:={s with heap:=g1}) (let ⟨o,ho,hc,_⟩:=zv;⟨o,kp _ _ ho,hc⟩) ?_));refine T3 (by kernel_rfl) (io (AL ?_));unfold Builtin.List.listTouch;skip;have u1:=AR (c:="list") (kp _ _ eS) (fun x=>x.push Value.none);have u2:=AR (c:="list") u1 (fun x=>x.pop);refine wpAny_bind (wpAny_bind (listUpdate_at (kp _ _ eS) rfl (listUpdate_at u1 rfl ?_ (by simp[sizeLine_eq]) (by simp)) (by simp) (by simp[sizeLine_eq])));obtain⟨c2,u3⟩:∃c2,((g1.update S (Obj.mapSeq fun x=>x.push Value.none)).update S (Obj.mapSeq fun x=>x.pop)).get? S=some (lsO #[] c2):=⟨_,u2⟩;have k2:∀b o,b≠S→g1.get? b=some o→((g1.update S (Obj.mapSeq fun x=>x.push Value.none)).update S (Obj.mapSeq fun x=>x.pop)).get? b=some o:=fun b o nb e=>by
  rw[AZ _ _ _ _ nb,AZ _ _ _ _ nb];exact e
 have z2:((g1.update S (Obj.mapSeq fun x=>x.push Value.none)).update S (Obj.mapSeq fun x=>x.pop)).objs.size=s.heap.objs.size+1:=by rw[Bn,Bn,z1]
 generalize (g1.update S (Obj.mapSeq fun x=>x.push Value.none)).update S (Obj.mapSeq fun x=>x.pop)=g2 at u3 k2 z2;refine yx ⟨AK Ar _,im (s:=s) (es:=es) (ep:=ep) (h0:=s.heap) zh lS hSd (yN zm.lt) hn res (fun h tk c kh hS tp=>fin h tk c (fun b o nb e=>kh b o nb (yN (yE e)) e) hS tp) es.size 0 g2 s.toks c2 .none (.bool false) .none .none (Nat.sub_zero _) (zP _) (k2 _ _ (zR lS) st) (.inl rfl) (zm.at fun o e=>k2 d o hSd (kp d o e)) (fun b o nb _ e=>k2 b o nb (kp b o e)) u3 (fun j hj ji=>absurd ji (Nat.not_lt_zero j)) z2⟩
def ColI(s:Shared)(es:Array DictEntry)(q:Result)(s':Shared):Prop:=∃(g:Heap)(tk c:Nat),q=.ok (.ret (.ref s.heap.objs.size))∧s'={s with heap:=g,toks:=tk}∧(∀b o,s.heap.get? b=some o→g.get? b=some o)∧
 g.get? s.heap.objs.size=some (lsO ((beh (s.heap.objs.size+1) es.size).map Value.ref).toArray c)∧∀(j:Nat)(hj:j<es.size),g.get? (s.heap.objs.size+1+1+j)=some (duo es[j].key es[j].val)
theorem Ph{r:Addr}{C:List Value→Shared→Prop}(zh:A.handled=none)(zv:s.heap.IsItemsView r d)(zm:RwD s.heap d es ep)(hn:es.size≤sizeLine)(h:∀(g:Heap) (tk:Nat),(∀b o,s.heap.get? b=some o→g.get? b=some o)→(∀(j:Nat) (hj:j<es.size),g.get? (s.heap.objs.size+1+1+j)=some (duo es[j].key es[j].val))→C ((beh (s.heap.objs.size+1) es.size).map Value.ref) {s with heap:=g,toks:=tk}):wpAny (model prog w) A (collect (.ref r)) C E s:=by
 have lr:r<s.heap.objs.size:=let ⟨_,e,_⟩:=zv;yE e
 unfold collect;refine io (Bx (zM Bg ?_));rw[zI PySem.F.plain_proto_collect _];refine io (m:=newList []) (zB (yx ⟨AK Ai _,zM entry_list_iadd' ?_⟩));rw[zI Ai _];have own:(s.heap.push {cls:=.type "list",data:=.seq ([]:List Value).toArray}).get? s.heap.objs.size=some (lsO #[] 0):=yH _ rfl;have sz:(s.heap.push {cls:=.type "list",data:=.seq ([]:List Value).toArray}).objs.size=s.heap.objs.size+1:=Bt _ _;have run:=dR (prog:=prog) (w:=w) (A:=A) (s:={s with heap:=s.heap.push {cls:=.type "list",data:=.seq ([]:List Value).toArray}}) (R:=ColI s es) (es:=es) (ep:=ep) (r:=r) zh (let ⟨o,e,x⟩:=zv;⟨o,yy _ e,x⟩) (zm.at fun o e=>yy _ e) (zR lr) (yN zm.lt) hn (.ref s.heap.objs.size) own
  (fun g tk c hk hS tp=>⟨g,tk,c,rfl,rfl,fun b o e=>hk b o (yN (yE e)) (yy _ e),by rw[←sz];exact hS,fun j hj=>by rw[←sz];exact tp j hj⟩)
 refine zT run (fun fin s' y=>?_) (fun _ _ y=>by obtain⟨_,_,_,e,_⟩:=y;cases e);have last:∀{g:Heap}{tk c:Nat},(∀b o,s.heap.get? b=some o→g.get? b=some o)→g.get? s.heap.objs.size=some (lsO ((beh (s.heap.objs.size+1) es.size).map Value.ref).toArray c)→(∀(j:Nat)(hj:j<es.size),g.get? (s.heap.objs.size+1+1+j)=some (duo es[j].key es[j].val))→
   wpAny (model prog w) A (load s.heap.objs.size >>= fun u=>match u.data with
    |.seq xs _=>pure xs.toList
    |_=>unsupported "internal:collect") C E {s with heap:=g,toks:=tk}:=fun{g tk c} hk hS tp=>io (Bf hS (yx (by rw[List.toList_toArray];exact h g tk hk tp)))
 cases fin with
 |done f=>
  obtain⟨g,tk,c,e,rfl,hk,hS,tp⟩:=y;cases e;exact last hk hS tp
 |again c1=>
  refine⟨y.1,A5 y.2 fun q s2 z=>?_⟩;obtain⟨g,tk,c,rfl,rfl,hk,hS,tp⟩:=z;exact last hk hS tp
end
def leP(a b:(Int×Int)×Int):Bool:=decide (a.1.1<b.1.1) || (decide (a.1.1=b.1.1) && (decide (a.1.2<b.1.2) || (decide (a.1.2=b.1.2) && decide (a.2≤b.2))))
theorem Ur{a b:(Int×Int)×Int}:leP a b=true↔a.1.1<b.1.1∨(a.1.1=b.1.1∧(a.1.2<b.1.2∨(a.1.2=b.1.2∧a.2≤b.2))):=by
 unfold leP;simp only[Bool.or_eq_true,Bool.and_eq_true,decide_eq_true_iff]
theorem mQ(a b:(Int×Int)×Int):(leP a b || leP b a)=true:=by
 rw[Bool.or_eq_true,Ur,Ur];omega
theorem k8(a b c:(Int×Int)×Int)(h1:leP a b=true)(h2:leP b c=true):leP a c=true:=by
 rw[Ur]at *;omega
theorem Qs{a b:(Int×Int)×Int}(h1:leP a b=true)(h2:leP b a=true):a=b:=by
 rw[Ur]at h1 h2;exact zN (zN (by omega) (by omega)) (by omega)
def au(ps:Sps):Sps:=ps.mergeSort leP
theorem Y5(ps:Sps):(au ps).Perm ps:=List.mergeSort_perm _ _
theorem Tm(ps:Sps):(au ps).Pairwise (fun a b=>leP a b=true):=List.pairwise_mergeSort k8 mQ ps
theorem Ra{α:Type}{le:α→α→Bool}(anti:∀{a b},le a b=true→le b a=true→a=b):∀{l m:List α},l.Perm m→l.Pairwise (fun a b=>le a b=true)→m.Pairwise (fun a b=>le a b=true)→l=m
 | [],m,p,_,_=>List.Perm.nil_eq p
 |a::l,[],p,_,_=>absurd p.length_eq (by simp)
 |a::l,b::m,p,h1,h2=>by
  have e:a=b:=by
   rcases yO.mp (p.mem_iff.mp zy)with q | q
   ·exact q
   ·rcases yO.mp (p.mem_iff.mpr zy)with r | r
    ·exact r.symm
    ·exact anti ((ze.mp h1).1 b r) ((ze.mp h2).1 a q)
  subst e;rw[Ra anti ((List.perm_cons a).mp p) (ze.mp h1).2 (ze.mp h2).2]
theorem g_{α:Type}(F:Addr→α→Prop)(fu:∀{a k l},F a k→F a l→k=l){le:α→α→Bool}(anti:∀{a b},le a b=true→le b a=true→a=b){as bs:List Addr}{ks srt:List α}(h:Paired F as ks)(p:bs.Perm as)(pw:bs.Pairwise fun a b=>∀k l,F a k→F b l→le k l=true)(sp:srt.Perm ks)(sw:srt.Pairwise fun a b=>le a b=true):Paired F bs srt:=by
 classical
 cases ks with
 |nil=>
  cases h;rw[p.eq_nil,sp.eq_nil];exact .nil
 |cons k0 ks0=>
  let key:Addr→α:=fun a=>if h:∃k,F a k then Classical.choose h else k0
  have kat:∀{a k},F a k→key a=k:=fun{a k} f=>by
   have ex:∃k,F a k:=⟨k,f⟩;show(if h:∃k,F a k then Classical.choose h else k0)=k;rw[dif_pos ex];exact fu (Classical.choose_spec ex) f
  have all:∀{l:List Addr}{m:List α},Paired F l m→l.map key=m∧∀a∈l,F a (key a):=fun{l m} r=>by
   induction r with
   |nil=>exact⟨rfl,fun _ h=>nomatch h⟩
   | @cons b k l m e _ ih=>
    have kb:=kat e;refine⟨by rw[yD,kb,ih.1],fun c hc=>?_⟩
    rcases yO.mp hc with z | hc
    ·rw[z,kb];exact e
    ·exact ih.2 c hc
  obtain⟨e1,e2⟩:=all h;have atb:∀b∈bs,F b (key b):=fun b hb=>e2 b (p.mem_iff.mp hb);have back:∀{l:List Addr},(∀b∈l,F b (key b))→Paired F l (l.map key):=fun{l} hl=>by
   induction l with
   |nil=>exact .nil
   |cons b l ih=>exact .cons (hl b (.head _)) (ih fun c hc=>hl c (.tail _ hc))
  have eq:bs.map key=srt:=Ra anti ((p.map key).trans (by rw[e1];exact sp.symm)) (z9.mpr (pw.imp_of_mem fun{a b} ha hb q=>q _ _ (atb a ha) (atb b hb))) sw;rw[←eq];exact back atb
def FT(H:Hp)(a:Addr)(p:(Int×Int)×Int):Prop:=∃b:Addr,H a=some (.tup [.ref b,.int p.2])∧H b=some (.tup [.int p.1.1,.int p.1.2])
theorem FT.fu{H:Hp}{a:Addr}{p q:(Int×Int)×Int}(h:FT H a p)(g:FT H a q):p=q:=by
 obtain⟨b,e1,e2⟩:=h;obtain⟨c,f1,f2⟩:=g;rw[e1]at f1;injection f1 with f1
 injection f1 with f1
 injection f1 with g1 g2
 injection g1 with g1
 injection g2 with g2 _
 injection g2 with g2
 subst g1;rw[e2]at f2;injection f2 with f2
 injection f2 with f2
 injection f2 with k1 k2
 injection k1 with k1
 injection k2 with k2 _
 injection k2 with k2
 exact zN (zN k1 k2) g2
theorem iW{H:Hp}{as:List Addr}{ps:Sps}(h:Paired (FT H) as ps):TPsAt H (as.map V.ref) (ad ps):=by
 induction h with
 |nil=>exact .nil
 |cons h r ih=>
  obtain⟨_,e1,e2⟩:=h;exact .cons e1 e2 ih
theorem xq{p q:(Int×Int)×Int}(h:(bh (bh aB aB) aB).blt q p=false):leP p q=true:=by
 rw[Ur];have h:cm (bh aB aB) aB q p=false:=h;by_cases c:p.1.1<q.1.1
 ·exact .inl c
 have no:∀{z:Bool},z=true→z=false→False:=fun a b=>by rw[a]at b;cases b
 have n1:¬q.1.1<p.1.1:=fun c=>no (Yg.mpr (.inl (Yg (O:=aB) (U:=aB).mpr (.inl (yF c))))) h;have e1:p.1.1=q.1.1:=by omega
 refine .inr ⟨e1,?_⟩;have n2:¬q.1.2<p.1.2:=fun c=>no (Yg.mpr (.inl (Yg (O:=aB) (U:=aB).mpr (.inr ⟨e1.symm,yF c⟩)))) h;by_cases c2:p.1.2<q.1.2
 ·exact .inl c2
 have e2:p.1.2=q.1.2:=by omega
 refine .inr ⟨e2,?_⟩;have n3:¬q.2<p.2:=fun c=>no (Yg.mpr (.inr ⟨zN e1.symm e2.symm,yF c⟩)) h;omega
section
variable{X:Cx}
def sy:List V→Hp→VK→Prop:=fun xs H Q=>∃(v d:Addr)(ps:Sps),xs=[.ref v]∧H v=some (b6 v d)∧H d=some (.dT (ad ps))∧ps.length<64∧
 ∀(H1:Hp)(as:List Addr),Same H H1→Paired (FT H1) as (au ps)→∀q,H1 q=none→H q=none→Q (.ref q) (upd H1 q (.lst (as.map V.ref)))
theorem qo{H:Hp}:∀{ps:Sps}{xs:List TKv}{j:Nat}{p:(Int×Int)×Int},KT H (ad ps) xs→ps[j]?=some p→∃x,xs[j]?=some x∧H x.2.1=some (.tup [.int p.1.1,.int p.1.2])∧∃t,x.2.2=.int p.2 t:=fun{ps xs j p} kt e=>by
 have e2:(ad ps)[j]?=some (kk p.1,.int p.2):=by unfold ad;rw[yL,e];rfl
 obtain⟨x,h1,h2,t,h3⟩:=e7 kt e2;exact⟨x,h1,h2,t,h3⟩
theorem ge(hc:X.calm=true)(hu:X.A.units+64<cLine):aL X (.builtin "sorted") sy:=by
 intro BF s σ H xs us Q I rx h;obtain⟨v,d,ps,rfl,hv,hd,h64,q⟩:=h;obtain⟨u,rfl,ru⟩:=W2 rx;cases ru;obtain⟨_,lo,ks,es,ep,kt,raw,ek,ev,sz⟩:=Tg I.hok (.inl hd);obtain⟨view,_⟩:=(show ObjOk X.prog X.w H s.heap v (b6 v d)from I.hok v _ hv);rw[Zx]at sz;have kl:ks.length=ps.length:=by rw[←yK kt,Zx]
 let n:=s.heap.objs.size
 let L:Hp:=fun b=>if n+2≤b then(match ks[b-(n+2)]?,ps[b-(n+2)]? with
  |some x,some p=>some (.tup [.ref x.2.1,.int p.2])
  |_,_=>none)else none
 have Lat:∀(j:Nat)(x:TKv)(p:(Int×Int)×Int),ks[j]?=some x→ps[j]?=some p→L (n+1+1+j)=some (.tup [.ref x.2.1,.int p.2]):=fun j x p h1 h2=>by
  show(if n+2≤n+1+1+j then _ else none)=_;rw[yC (by omega),show n+1+1+j-(n+2)=j by omega,h1,h2]
 refine O0 (vc (prog:=X.prog) (w:=X.w)) (Vy (prog:=X.prog) (w:=X.w)) FTI (fun{BF σ H s a k} I h=>?_) (((0:Int),(0:Int)),(0:Int)) hu (fun{E C} hC=>Ph (A:=X.A.in1) (by simpa using I.ok.hd hc) view raw (Zf (by omega)) fun g tk kp tp=>?_)
 ·obtain⟨b,i,j,n,h,hb,rfl⟩:=h;obtain⟨o,m,u,v,e1,e2,e3,ru,⟨t',rv⟩⟩:=N0 I h;obtain⟨o2,m2,u2,v2,g1,g2,g3,⟨t2,ru2⟩,⟨t3,rv2⟩⟩:=N0 I hb;exact⟨a,o,m,u,v,rfl,e1,e2,e3,⟨b,o2,m2,u2,v2,ru,g1,g2,g3,⟨t2,ru2⟩,⟨t3,rv2⟩⟩,⟨t',rv⟩⟩
 have ent:∀(j:Nat)(hj:j<es.size)(x:TKv),ks[j]?=some x→es[j].key=.ref x.2.1∧es[j].val=x.2.2:=fun j hj x hx=>by
  have q1:(es.toList.map DictEntry.key)[j]?=some es[j].key:=by rw[yL,zo,yS hj];rfl
  have q2:(es.toList.map DictEntry.val)[j]?=some es[j].val:=by rw[yL,zo,yS hj];rfl
  rw[ek,yL,yL,hx]at q1;rw[ev,yL,hx]at q2;exact⟨(zD q1).symm,(zD q2).symm⟩
 have nw:∀b o,n≤b→L b=some o→ObjOk X.prog X.w (over H n L) g b o:=fun b o hb e=>by
  have e:(if n+2≤b then(match ks[b-(n+2)]?,ps[b-(n+2)]? with
   |some x,some p=>some (HO.tup [.ref x.2.1,.int p.2])
   |_,_=>none)else none)=some o:=e
  by_cases hb2:n+2≤b
  ·rw[yC hb2]at e;have hj:b-(n+2)<ps.length:=by
    by_cases z:b-(n+2)<ps.length
    ·exact z
    ·rw[Bc (Nat.not_lt.mp z)]at e;cases z2:ks[b-(n+2)]? <;> rw[z2]at e <;> cases e
   have hp:ps[b-(n+2)]?=some ps[b-(n+2)]:=y3 hj;obtain⟨x,hx,_,t,hv⟩:=qo kt hp;rw[hx,hp]at e;cases e;have hje:b-(n+2)<es.size:=by omega
   obtain⟨k1,k2⟩:=ent _ hje x hx;have tb:=tp _ hje;rw[k1,k2,hv,show s.heap.objs.size+1+1+(b-(n+2))=b by show n+1+1+(b-(n+2))=b;omega]at tb;exact⟨Zf (leN rfl),[.ref x.2.1,.int _ t],.cons rfl (.cons ⟨t,rfl⟩ .nil),⟨_,tb,⟨rfl,rfl⟩,_,rfl⟩⟩
  ·rw[yA hb2]at e;cases e
 obtain⟨I',sm⟩:=I.over (t':=tk) kp nw;have pr:Paired (FT (over H n L)) (beh (n+1) es.size) ps:=by
  have go:∀(l:Sps)(m:Nat),(∀j p,l[j]?=some p→ps[m+j]?=some p)→m+l.length=ps.length→Paired (FT (over H n L)) ((List.range l.length).map fun j=>n+1+1+(m+j)) l:=fun l=>by
   induction l with
   |nil=>intro m _ _;exact .nil
   |cons p l ih=>
    intro m hl hm;have e0:=hl 0 p rfl;obtain⟨x,hx,hb,_⟩:=qo kt e0;have q:=ih (m+1) (fun j p e=>by have:=hl (j+1) p (by simpa using e);rwa [show m+(j+1)=m+1+j by omega]at this) (by rw[List.length_cons]at hm;omega);rw[zu,List.range_succ_eq_map,yD,yQ];refine .cons ⟨x.2.1,?_,sm _ _ hb⟩ ?_
    ·rw[gF (by omega)];exact Lat (m+0) x p hx e0
    ·have ef:((fun j=>n+1+1+(m+j))∘Nat.succ)=fun j=>n+1+1+(m+1+j):=by
      funext j
      show n+1+1+(m+(j+1))=_;omega
     rw[ef];exact q
  have:=go ps 0 (fun j p e=>by rwa [BA]) (by omega);rw[sz];unfold beh;simpa using this
 refine hC g tk (over H n L) (beh (n+1) es.size) I' (by rw[jY];omega) (fun a ha=>?_) fun bs bp pw q0 nq=>?_
 ·have:∀{l:List Addr}{m:Sps},Paired (FT (over H n L)) l m→a∈l→∃k,FTI (over H n L) a k:=fun{l m} r=>by
   induction r with
   |nil=>intro h;exact nomatch h
   |cons e _ ih=>
    intro h
    rcases yO.mp h with z | h
    ·obtain⟨b,e1,e2⟩:=e;rw[z];exact⟨_,b,_,_,_,e1,e2,rfl⟩
    ·exact ih h
  exact this pr ha
 ·refine q (over H n L) bs sm (g_ (FT (over H n L)) (fun f g=>f.fu g) (fun a b=>Qs a b) pr bp (pw.imp fun{a b} h k l fk fl=>?_) (Y5 ps) (Tm ps)) q0 nq ?_
  ·obtain⟨b1,e1,e2⟩:=fk;obtain⟨b2,f1,f2⟩:=fl;exact xq (h k l ⟨b1,_,_,_,e1,e2,rfl⟩ ⟨b2,_,_,_,f1,f2,rfl⟩)
  ·by_cases z:H q0=none
   ·exact z
   ·obtain⟨u,hu⟩:=Option.ne_none_iff_exists'.mp z;rw[sm _ _ hu]at nq;cases nq
end
section
variable{P:Program}{w:World}{A:Around}{E:Value→Shared→Prop}{s:Shared}{a b:Addr}{es:Array DictEntry}{ep e2:Nat}
theorem nV{nm:String}{Q:Bool→Shared→Prop}(ha:(a==sysModules)=false)(hb:(b==sysModules)=false)(ra:RwD s.heap a es ep)(rb:RwD s.heap b #[] e2)(h:Q (decide (es.size=0)) s):wpAny (model P w) A (Builtin.Dict.samePairs nm a b) Q E s:=by
 obtain⟨oa,ga,_,qa⟩:=ra;obtain⟨ob,gb,_,qb⟩:=rb;have sh:∀{d:Addr}{R:Unit→Shared→Prop},(d==sysModules)=false→R () s→wpAny (model P w) A (Builtin.Dict.showsAll d) R E s:=fun{d R} hd hr=>by
  unfold Builtin.Dict.showsAll;rw[yA (by rw[hd];decide)];exact yx hr
 unfold Builtin.Dict.samePairs;refine io (sh ha (io (sh hb (io (zc ga qa (io (zc gb qb ?_)))))));by_cases hl:es.size=0
 ·obtain rfl:es=#[]:=Array.eq_empty_of_size_eq_zero hl;rw[if_neg (by simp)];refine io (AS ga qa (io ?_));rw[AC];exact yx (yx h)
 ·rw[if_pos (by simpa using hl)];rw[yY hl]at h;exact io (AL (yx h))
theorem dS(ha:(a==sysModules)=false)(hb:(b==sysModules)=false):MeetsIn P w (Builtin.«dict.__ne__» ⟨[.ref a,.ref b],[]⟩) (fun _ R s=>RwD s.heap a es ep∧RwD s.heap b #[] e2∧R (.ok (.ret (.bool (!decide (es.size=0))))) s):=
 .of_wp fun A R s ⟨ra,rb,h⟩=>by
  show wpAny (model P w) _ (Builtin.Dict.dictSlotArgs "__ne__" ⟨[.ref a,.ref b],[]⟩ >>= fun _=>_) _ _ s;refine io ?_;unfold Builtin.Dict.dictSlotArgs;refine io (z7 ra.typeIs (show wpAny (model P w) _ (pure (Value.ref a,Value.ref b)) _ _ s from yx (io (A2 rb.typeIs isSubtype_dict_dict ?_))));rw[yA (by decide)];show wpAny (model P w) _ (Builtin.Dict.samePairs _ a b >>= fun _=>_) _ _ s;refine io (nV ha hb ra rb ?_);have bt:∀c:Bool,(c==false)=!c:=fun c=>by cases c <;> rfl
  rw[bt];exact yx ⟨_,rfl,h⟩
end
theorem tP{X:Cx}(hu:X.A.units<cLine):OpR X (compareOp .NotEq) (fun x y H Q=>∃(a b:Addr)(kvs:List (List Key×V)),x=.ref a∧y=.ref b∧H a=some (.dT kvs)∧H b=some (.dT [])∧Q (.bl (!decide (kvs.length=0))) H):=by
 intro BF s σ H x y v u Q I rx ry h;obtain⟨a,b,kvs,rfl,rfl,ea,eb,q⟩:=h;cases rx;cases ry;obtain⟨_,la,_,es,ep,_,ra,_,_,sz⟩:=Tg I.hok (.inl ea);obtain⟨_,lb,_,e2,p2,_,rb,_,_,s2⟩:=Tg I.hok (.inl eb);obtain rfl:e2=#[]:=Array.eq_empty_of_size_eq_zero s2;refine wpAny_richCompare_same_room (op:=.NotEq) ra.typeIs rb.typeIs PySem.F.slot_dict_ne (Bm PySem.F.slot_dict_ne ra.typeIs PySem.F.entry_dict_ne (PySem.F.args_dict_ne_2 _ _) (dS la lb) ⟨ra,rb,?_⟩) hu;refine⟨(fun z=>nomatch z),.bl _,H,I,rfl,?_⟩;rw[sz];exact q
theorem sW{X:Cx}(hu:X.A.units+64<cLine):OpR X (compareOp .In) (fun x y H Q=>∃(a:Addr)(o:Option V),y=.ref a∧DGet H a x o∧Q (.bl o.isSome) H):=by
 intro BF s σ H x y v u Q I rx ry h;obtain⟨a,o,rfl,g,q⟩:=h;cases ry;exact d_in (by omega) I g rx fun s' I'=>⟨.bl _,H,I',rfl,q⟩
theorem Of{it t:Addr}{items:Array Value}(hne:t≠it):∀(n i:Nat)(s:Shared)(Q:List Value→Shared→Prop),s.heap.IsListIter it t i→s.heap.IsList t items→i+n≤items.size→
  (∀h',h'.IsListIter it t (i+n)→Heap.SameBut it s.heap h'→Q ((items.toList.drop i).take n) {s with heap:=h'})→wpAny (model prog w) A (draw (.ref it) n) Q E s
 | 0,i,s,Q,hit,_,_,hQ=>by
  show wpAny _ _ (pure []) Q E s;exact wpAny_pure (by simpa using hQ s.heap hit (Heap.SameBut.refl ..))
 |n+1,i,s,Q,hit,ht,hle,hQ=>by
  have BL:i<items.size:=by omega
  show wpAny _ _ (pyNext (.ref it) >>= _) Q E s;refine wpAny_bind (wpAny_pyNext_list_item hit ht (x:=items[i]) (by simp[BL]) fun h1 hit1 hs1=>?_);refine io (zn (Of hne n (i+1) _ _ hit1 (ht.extBut hs1.extBut hne) (by omega) fun h2 hit2 hs2=>yx ?_));have hd:items.toList.drop i=items[i]::items.toList.drop (i+1):=by simp[List.drop_eq_getElem_cons,BL]
  have:=hQ h2 (by rw[show i+(n+1)=i+1+n by omega];exact hit2) (hs1.trans hs2);rw[hd,List.take_succ_cons]at this;exact this
theorem S2{env:Env}{elts:List Expr}{x1}{pos:Pos}{t:Addr}{items:Array Value}{Q:Unit→Shared→Prop}(hh:A.handled=none)(ht:s.heap.IsList t items)(hn:(assignEach elts env).length=items.size)(hstar:(assignEach elts env).findIdx? (·.1)=none)(h:∀h',Heap.ExtBut s.heap.objs.size s.heap h'→wpAny (model prog w) A (assignInOrder ((assignEach elts env).map (·.2)) items.toList) Q E {s with heap:=h'}):
  wpAny (model prog w) A (assign (.Tuple elts x1 pos) env (.ref t)) Q E s:=by
 rw[assign_Tuple];refine io (wpAny_standAt ?_);unfold unpack;rw[hn,hstar];refine io (zn ?_);have BL:t≠s.heap.objs.size:=by obtain⟨o,ho,_⟩:=ht;exact yN (yE ho)
 unfold unpackItems;refine io ?_;unfold notIterableAtAll;refine io (Bs ht.typeIs slot_list_iter.lookup ?_);refine yx ?_;simp only[Bool.false_eq_true,if_false];refine io (zn (Bd ht ?_));have htp:(s.heap.push {cls:=.type "list_iterator",data:=.fields #[.ref t,.int 0 0]}).IsList t items:=by
  obtain⟨o,ho,r⟩:=ht;exact⟨o,yy _ ho,r⟩
 refine io (zn (Of BL items.size 0 _ _ ⟨_,yH _ rfl,rfl,rfl⟩ htp (by omega) fun h1 hit1 hs1=>?_));have hall:List.take items.size (List.drop 0 items.toList)=items.toList:=by
  rw[List.drop_zero];exact List.take_of_length_le (by simp)
 rw[hall];rw[if_neg (by simp)];have ht1:h1.IsList t items:=htp.extBut hs1.extBut BL;refine wpAny_bind (wpAny_holding (wpAny_pyNext_list_end hh hit1 ht1 (by simp) fun h2 he2=>?_));simp only[Option.isSome_none,Bool.false_eq_true,if_false];exact yx (h h2 fun b o hb e=>he2 b o hb (hs1.extBut b o hb (yy _ e)))
section
variable{X:Cx}{pos:Pos}
def gLst(K:W.Frag)(n:Nat)(t:TGs):TG:=fun v σ H Q=>∃a xs,v=.ref a∧SqL K H a xs∧xs.length=n∧t xs σ H Q
theorem u7{es:List Expr}{k:Nat}{t:TGs}{n:Nat}(hc:X.calm=true)(h:PGs X es t)(hn:(assignEach es X.env).length=n:=by rfl)(hst:(assignEach es X.env).findIdx? (·.1)=none:=by rfl):PG X (.Tuple es k pos) (gLst X.K n t):=by
 intro BF s σ H v u Q I r hw;obtain⟨a,xs,e1,hq,hl,hw⟩:=hw;subst e1;cases r;obtain⟨its,rv,p,hz⟩:=I.list hq;refine S2 (I.ok.hd hc) p.isList (by simp[hn,←hl,rv.length]) hst fun h' hx=>?_;have I1:Inv X BF σ H {s with heap:=h'}:=I.kept (t':=s.toks) fun b o e=>hx b o (yN (yE e)) e;exact h BF _ σ H xs _ Q I1 (by simpa using rv) hw
end
section
variable{X:Cx}
def wN(i:Nat):TE:=fun σ H Q=>match List.getD σ i none with
 |some v=>Q v H
 |none=>False
theorem qv{e:Expr}{i:Nat}(h:PE X e (vE i)):PE X e (wN i):=fun BF s σ H Q I q=>h BF s σ H Q I (by
 unfold wN at q;cases e1:List.getD σ i none with
 |none=>rw[e1]at q;exact q.elim
 |some v=>
  rw[e1]at q;refine⟨v,?_,q⟩;unfold List.getD at e1;cases e2:σ[i]? with
  |none=>rw[e2]at e1;cases e1
  |some o=>rw[e2]at e1;exact zW some e1)
def qI(C:Int→Int→Prop)(g:Int→Int→V):R2:=fun x y H Q=>match x,y with
 |.int i,.int j=>C i j∧Q (g i j) H
 |_,_=>False
def qI0(g:Int→Int→V):R2:=fun x y H Q=>match x,y with
 |.int i,.int j=>Q (g i j) H
 |_,_=>False
theorem qi{C:Int→Int→Prop}{g:Int→Int→V}{f:Value→Value→Sem Value}(h:OpR X f (rI C g)):OpR X f (qI C g):=fun BF s σ H x y v u Q I rx ry q=>h BF s σ H x y v u Q I rx ry (by
 cases x <;> cases y <;> first | exact q.elim | exact⟨_,_,rfl,rfl,q.1,q.2⟩)
theorem qi0{g:Int→Int→V}{f:Value→Value→Sem Value}(h:OpR X f (rI0 g)):OpR X f (qI0 g):=fun BF s σ H x y v u Q I rx ry q=>h BF s σ H x y v u Q I rx ry (by
 cases x <;> cases y <;> first | exact q.elim | exact⟨_,_,rfl,rfl,q⟩)
def qIx(A:Hp→Addr→List V→Prop):R2:=fun x y H Q=>match x,y with
 |.ref p,.int i=>∃xs v,A H p xs∧atI xs i=some v∧Q v H
 |_,_=>False
theorem Vb:IxR X (qIx (SqL X.K)):=fun a b BF s σ H x y v u Q I rx ry q=>Yx a b BF s σ H x y v u Q I rx ry (by
 cases x <;> cases y <;> first | exact q.elim | exact⟨_,q.choose,_,q.choose_spec.choose,rfl,rfl,q.choose_spec.choose_spec⟩)
def qK(Q:Bool→Hp→Prop):VK:=fun x H=>match x with
 |.bl k=>Q k H
 |_=>False
def yw(t:TE):TT:=fun σ H Q=>t σ H (qK Q)
theorem eP{op:CmpOp}{a b:Expr}{pos:Pos}{ta tb:TE}{r:R2}(ho:OpR X (compareOp op) r)(ha:PE X a ta)(hb:PE X b tb)(hm:behindInMarks op b=false):PT X (.Compare a [op] [b] pos) (yw (tOp r ta tb)):=by
 intro BF s σ H Q I h;refine wpAny_isTrue_Compare1 (thn (ha BF s σ H _ I h) fun v s1 ⟨x,H1,I1,r1,q1⟩=>thn (hb BF s1 σ H1 _ I1 q1) fun u s2 ⟨y,H2,I2,r2,q2⟩=>
  thn (ho BF s2 σ H2 x y v u _ I2 r1 r2 q2) fun c s3 ⟨z,H3,I3,r3,q3⟩=>?_) hm
 cases z <;> first | exact q3.elim | skip
 cases r3;exact z8 ⟨H3,I3,q3⟩
end
theorem Y0{X:Cx}{pos:Pos}(i:Nat){x:Str}{e:Expr}{te:TE}{pos':Pos}(hN:X.N.Nodup)(hi:X.N[i]?=some x)(hx:Loc X.env.scope x)(he:PE X e te)(hs:swapsWith e (some (.Name x pos')) pos.line X.env=pure false:=by rfl)(hf:X.fn x=true:=by rfl):PS X (.Assign [.Name x pos'] e pos) (o_ te (fI i)):=@Sc _ _ i _ _ _ _ hN hi hx he hs (.inl hf)
theorem Zt{N P:List Str}{sc:Scope}(a:sc.kind=.function)(b:sc.isCoroutine=false)(c:sc.isGenerator=false)(d:N.take P.length=P)(h:N.Nodup∧(∀x∈P,sc.names.lookup x=some .local∨sc.names.lookup x=some .cell)∧∀y∈sc.names,y.2≠.free):FnScope N P sc:=⟨a,b,c,h.1,d,h.2.1,h.2.2⟩
theorem Wf{X:Cx}{own:List Str}{scope:Scope}(hc:X.calm=X.calm)(hk:scope.kind=.function)(h1:iP scope.names=true:=by rfl)(h2:jf X.env.scope.names scope.names=true:=by rfl)(h3:iU X.N scope.names=true:=by rfl):CompOk X own scope:=CompOk.of hc hk h1 h2 h3
theorem Yc{X:Cx}{a b:Expr}{ta tb:TE}{pos:Pos}{r:R2}(hr:IxR X r)(ha:PE X a ta)(hb:PE X b tb)(hs:kI b:=by exact fun _ _=>rfl):PE X (.Subscript a b pos) (tOp r ta tb):=yi hr ha hb hs
end L2
namespace K30
open PySem L2
def top(i:Nat):Stmt:=PySem.Challenge.pw_sumshare_k30_lowest_and_highest.main.body.getD i (.Pass ⟨0,0,0,0⟩)
abbrev cj:Stmt:=top 1
theorem gJ:FnScope ["thing"] ["thing"] (aa cj):=Zt rfl rfl rfl rfl (by decide +kernel)
abbrev a6:Stmt:=top 2
theorem Sa:FnScope ["thing","least"] ["thing","least"] (aa a6):=Zt rfl rfl rfl rfl (by decide +kernel)
abbrev aR:Stmt:=top 3
theorem T8:FnScope ["thing","least","most"] ["thing","least","most"] (aa aR):=Zt rfl rfl rfl rfl (by decide +kernel)
abbrev bf:Stmt:=top 4
theorem Xc:FnScope ["one","other","sums","key","count"] ["one","other"] (aa bf):=Zt rfl rfl rfl rfl (by decide +kernel)
abbrev cr:Stmt:=top 9
theorem U7:FnScope ["stretch","height","index"] ["stretch"] (aa cr):=Zt rfl rfl rfl rfl (by decide +kernel)
abbrev cL:Stmt:=top 10
theorem T6:FnScope ["stretch","height","index"] ["stretch"] (aa cL):=Zt rfl rfl rfl rfl (by decide +kernel)
abbrev bK:Stmt:=top 11
theorem Vj:FnScope ["stretch","height","index"] ["stretch"] (aa bK):=Zt rfl rfl rfl rfl (by decide +kernel)
abbrev bD:Stmt:=top 12
theorem Wz:FnScope ["thing","deep","height","index"] ["thing","deep"] (aa bD):=Zt rfl rfl rfl rfl (by decide +kernel)
abbrev cM:Stmt:=top 14
theorem Q5:FnScope ["counts","stretch","many","parent"] ["counts","stretch","many"] (aa cM):=Zt rfl rfl rfl rfl (by decide +kernel)
abbrev bN:Stmt:=top 16
theorem eI:FnScope ["stream"] ["stream"] (aa bN):=Zt rfl rfl rfl rfl (by decide +kernel)
theorem Yw:(["day","mark","number","many","stream"]:List Str).Nodup:=by decide +kernel
abbrev bw:Stmt:=top 18
theorem Q3:FnScope ["stream"] ["stream"] (aa bw):=Zt rfl rfl rfl rfl (by decide +kernel)
theorem Yn:(["day","mark","number","many","stream"]:List Str).Nodup:=by decide +kernel
abbrev bT:Stmt:=top 19
theorem Yl:FnScope ["stream","ladder","paper","room","deep","counts","total","standing","stretch","many"] ["stream","ladder","paper"] (aa bT):=Zt rfl rfl rfl rfl (by decide +kernel)
theorem Td:(["one","stream","ladder","paper","room","deep","counts","total","standing","stretch","many"]:List Str).Nodup:=by decide +kernel
abbrev a7:Stmt:=top 20
theorem Zl:FnScope ["stream","ladder","room","deep","pairs","total","counts","folds","standing","height","rests","rising"] ["stream","ladder"] (aa a7):=Zt rfl rfl rfl rfl (by decide +kernel)
theorem Xo:(["stretch","many","stream","ladder","room","deep","pairs","total","counts","folds","standing","height","rests","rising"]:List Str).Nodup:=by decide +kernel
theorem Xn:(["stretch","many","stream","ladder","room","deep","pairs","total","counts","folds","standing","height","rests","rising"]:List Str).Nodup:=by decide +kernel
theorem Xm:(["stretch","many","stream","ladder","room","deep","pairs","total","counts","folds","standing","height","rests","rising"]:List Str).Nodup:=by decide +kernel
abbrev bI:Stmt:=top 21
theorem Tn:FnScope ["stream","ladder","paper"] ["stream","ladder"] (aa bI):=Zt rfl rfl rfl rfl (by decide +kernel)
abbrev a8:Stmt:=top 23
theorem S9:FnScope ["ladder"] ["ladder"] (aa a8):=Zt rfl rfl rfl rfl (by decide +kernel)
theorem Xl:(["stretch","count","ladder"]:List Str).Nodup:=by decide +kernel
abbrev aV:Stmt:=top 24
theorem Tp:FnScope ["ladder"] ["ladder"] (aa aV):=Zt rfl rfl rfl rfl (by decide +kernel)
theorem Xi:(["stretch","count","ladder"]:List Str).Nodup:=by decide +kernel
abbrev bg:Stmt:=top 25
theorem R4:FnScope ["places","x"] ["places","x"] (aa bg):=Zt rfl rfl rfl rfl (by decide +kernel)
theorem Xq:(["number","count","places","x"]:List Str).Nodup:=by decide +kernel
abbrev c6:Stmt:=top 26
theorem mE:FnScope ["places"] ["places"] (aa c6):=Zt rfl rfl rfl rfl (by decide +kernel)
theorem U2:(["number","count","places"]:List Str).Nodup:=by decide +kernel
abbrev aQ:Stmt:=top 27
theorem Ye:FnScope ["places","many","rising","at"] ["places","many"] (aa aQ):=Zt rfl rfl rfl rfl (by decide +kernel)
abbrev bA:Stmt:=top 28
theorem Pb:FnScope ["ladder","x"] ["ladder","x"] (aa bA):=Zt rfl rfl rfl rfl (by decide +kernel)
abbrev dk:Stmt:=top 29
theorem lR:FnScope ["ladder"] ["ladder"] (aa dk):=Zt rfl rfl rfl rfl (by decide +kernel)
abbrev ck:Stmt:=top 30
theorem fY:FnScope ["ladder","number"] ["ladder","number"] (aa ck):=Zt rfl rfl rfl rfl (by decide +kernel)
abbrev je:Stmt:=top 32
theorem sS:FnScope ["stream","ladder"] ["stream","ladder"] (aa je):=Zt rfl rfl rfl rfl (by decide +kernel)
abbrev bJ:Stmt:=top 33
theorem dZ:FnScope ["places"] ["places"] (aa bJ):=Zt rfl rfl rfl rfl (by decide +kernel)
theorem Wl:(["number","count","places"]:List Str).Nodup:=by decide +kernel
abbrev du:Stmt:=top 34
theorem mw:FnScope ["ladder"] ["ladder"] (aa du):=Zt rfl rfl rfl rfl (by decide +kernel)
abbrev cJ:Stmt:=top 35
theorem iy:FnScope ["ladder"] ["ladder"] (aa cJ):=Zt rfl rfl rfl rfl (by decide +kernel)
abbrev eV:Stmt:=top 37
theorem oK:FnScope ["_law_script"] ["_law_script"] (aa eV):=Zt rfl rfl rfl rfl (by decide +kernel)
abbrev dq:Stmt:=top 38
theorem Xf:FnScope ["_law_pen_here","_law_most","_law_found","_law_script","_law_at","_law_cell","_law_mixed"] ["_law_pen_here","_law_most"] (aa dq):=Zt rfl rfl rfl rfl (by decide +kernel)
abbrev dy:Stmt:=top 39
theorem O1:FnScope ["_law_pen_here","_law_way"] ["_law_pen_here"] (aa dy):=Zt rfl rfl rfl rfl (by decide +kernel)
abbrev b_:Stmt:=top 40
theorem Yj:FnScope ["_law_pen_here","_law_deep","_law_most","_law_found","_law_top","_law_middle","_law_k","_law_way","_law_number"] ["_law_pen_here","_law_deep","_law_most"] (aa b_):=Zt rfl rfl rfl rfl (by decide +kernel)
abbrev c_:Stmt:=top 41
theorem Uk:FnScope ["_law_pen_here","_law_deep","_law_most","_law_trees","_law_at"] ["_law_pen_here","_law_deep","_law_most"] (aa c_):=Zt rfl rfl rfl rfl (by decide +kernel)
theorem Sg:(["_law_k","_law_pen_here","_law_deep","_law_most","_law_trees","_law_at"]:List Str).Nodup:=by decide +kernel
abbrev bq:Stmt:=top 43
theorem Y8:FnScope ["_law_now","_law_deep","_law_bar","_law_height","_law_k","_law_parent","_law_pair","_law_whole","_law_told","_law_one","_law_many_here"] ["_law_now","_law_deep","_law_bar"] (aa bq):=Zt rfl rfl rfl rfl (by decide +kernel)
theorem Xr:(["_law_other","_law_index","_law_now","_law_deep","_law_bar","_law_height","_law_k","_law_parent","_law_pair","_law_whole","_law_told","_law_one","_law_many_here"]:List Str).Nodup:=by decide +kernel
theorem U4:(["_law_one","_law_now","_law_deep","_law_bar","_law_height","_law_k","_law_parent","_law_pair","_law_whole","_law_told","#9","_law_many_here"]:List Str).Nodup:=by decide +kernel
theorem U3:(["_law_one","_law_now","_law_deep","_law_bar","_law_height","_law_k","_law_parent","_law_pair","_law_whole","_law_told","#9","_law_many_here"]:List Str).Nodup:=by decide +kernel
abbrev b9:Stmt:=top 44
theorem Xg:FnScope ["_law_now","_law_room","_law_deep","_law_bar","_law_told","_law_some"] ["_law_now","_law_room","_law_deep"] (aa b9):=Zt rfl rfl rfl rfl (by decide +kernel)
abbrev b8:Stmt:=top 45
theorem fW:FnScope ["_law_now","_law_room","_law_deep"] ["_law_now","_law_room","_law_deep"] (aa b8):=Zt rfl rfl rfl rfl (by decide +kernel)
abbrev cN:Stmt:=top 46
theorem T7:FnScope ["_law_one","_law_other","_law_found","_law_stretch"] ["_law_one","_law_other"] (aa cN):=Zt rfl rfl rfl rfl (by decide +kernel)
abbrev bW:Stmt:=top 47
theorem Xu:FnScope ["_law_room","_law_deep","_law_tree_here","_law_now","_law_thing","_law_own"] ["_law_room","_law_deep","_law_tree_here"] (aa bW):=Zt rfl rfl rfl rfl (by decide +kernel)
abbrev cI:Stmt:=top 48
theorem Q4:FnScope ["_law_pen_here","_law_room"] ["_law_pen_here"] (aa cI):=Zt rfl rfl rfl rfl (by decide +kernel)
abbrev cf:Stmt:=top 49
theorem Yk:FnScope ["_law_pen_here","_law_deep","_law_most","_law_found","_law_k","_law_height","_law_index","_law_some","_law_other"] ["_law_pen_here","_law_deep","_law_most"] (aa cf):=Zt rfl rfl rfl rfl (by decide +kernel)
abbrev cE:Stmt:=top 50
theorem Vk:FnScope ["_law_stretch","_law_found","_law_k"] ["_law_stretch"] (aa cE):=Zt rfl rfl rfl rfl (by decide +kernel)
abbrev dC:Stmt:=top 51
theorem ly:FnScope ["_law_stretch"] ["_law_stretch"] (aa dC):=Zt rfl rfl rfl rfl (by decide +kernel)
abbrev bB:Stmt:=top 52
theorem Zp:FnScope ["_law_stream_here","_law_now","_law_deep","_law_left","_law_day","_law_mark","_law_number","_law_many_here","_law_stretch","_law_due","_law_low","_law_high","_law_taken"] ["_law_stream_here","_law_now","_law_deep"] (aa bB):=Zt rfl rfl rfl rfl (by decide +kernel)
theorem Ub:(["_law_number","_law_stream_here","_law_now","_law_deep","_law_left","_law_day","_law_mark","#6","_law_many_here","_law_stretch","_law_due","_law_low","_law_high","_law_taken"]:List Str).Nodup:=by decide +kernel
abbrev bR:Stmt:=top 53
theorem To:FnScope ["_law_found","_law_due","_law_thing"] ["_law_found","_law_due"] (aa bR):=Zt rfl rfl rfl rfl (by decide +kernel)
theorem Uw:(["_law_one","_law_found","_law_due","_law_thing"]:List Str).Nodup:=by decide +kernel
abbrev bG:Stmt:=top 54
theorem e8:FnScope ["_law_stream_here","_law_x"] ["_law_stream_here","_law_x"] (aa bG):=Zt rfl rfl rfl rfl (by decide +kernel)
theorem Yq:(["_law_day","_law_mark","_law_number","_law_many_here","_law_stream_here","_law_x"]:List Str).Nodup:=by decide +kernel
abbrev bd:Stmt:=top 55
theorem Yy:FnScope ["_law_stream_here","_law_number","_law_seen","_law_x","_law_many_here"] ["_law_stream_here","_law_number"] (aa bd):=Zt rfl rfl rfl rfl (by decide +kernel)
theorem Vr:(["_law_thing","_law_stream_here","_law_number","_law_seen","_law_x","_law_many_here"]:List Str).Nodup:=by decide +kernel
abbrev bO:Stmt:=top 56
theorem X6:FnScope ["_law_pen_here","_law_ladder_here","_law_low","_law_high","_law_k","_law_x","_law_sums","_law_some","_law_number"] ["_law_pen_here","_law_ladder_here","_law_low","_law_high"] (aa bO):=Zt rfl rfl rfl rfl (by decide +kernel)
theorem Uz:(["_law_stream_here","_law_pen_here","_law_ladder_here","_law_low","_law_high","_law_k","_law_x","_law_sums","_law_some","_law_number"]:List Str).Nodup:=by decide +kernel
theorem Uy:(["_law_thing","_law_stream_here","_law_pen_here","_law_ladder_here","_law_low","_law_high","_law_k","_law_x","_law_sums","_law_some","_law_number"]:List Str).Nodup:=by decide +kernel
theorem Ux:(["_law_number","_law_pen_here","_law_ladder_here","_law_low","_law_high","_law_k","_law_x","_law_sums","_law_some","#8"]:List Str).Nodup:=by decide +kernel
abbrev cx:Stmt:=top 57
theorem Xs:FnScope ["_law_script","_law_pen_here","_law_turn","_law_room","_law_deep","_law_now","_law_ladder_here","_law_low","_law_high","_law_some","_law_more","_law_stream_here"] ["_law_script"] (aa cx):=Zt rfl rfl rfl rfl (by decide +kernel)
theorem Pg:(["_law_stretch","_law_script","_law_pen_here","_law_turn","_law_room","_law_deep","_law_now","_law_ladder_here","_law_low","_law_high","_law_some","_law_more","_law_stream_here"]:List Str).Nodup:=by decide +kernel
theorem Pf:(["_law_stretch","_law_script","_law_pen_here","_law_turn","_law_room","_law_deep","_law_now","_law_ladder_here","_law_low","_law_high","_law_some","_law_more","_law_stream_here"]:List Str).Nodup:=by decide +kernel
def bL(K:W.Frag):Sp:=fun vs H Q _=>∃(a S:Addr)(ns:List Int)(n:Int),vs=[.ref a,.int n]∧Pn K S ns H a∧0<n∧n<1073741824∧
 ∀(d:Int)(H':Hp),0≤d→d<n→Pn K S ns H' a→Grw a H H'→Q (.int d) H'
def uw(K:W.Frag):Sp:=fun vs H Q _=>∃(S:Addr)(ns:List Int),vs=[.ref S]∧SqL K H S (ns.map V.int)∧ns.length≤63∧
 ∀(p:Addr)(H':Hp),H p=none→Same H H'→Pn K S ns H' p→Q (.ref p) H'
section
variable{P:Program}{w:World}{K:W.Frag}{mg:Str→Option Value}{base:Heap}{f:Addr}{fd:FuncData}
theorem vv(F:Fun K "_law_pen" "_law_pen" eV f fd):FnOk P w K mg base CX0 1 f fd ["_law_script"] (uw K):=by
 refine F.ok oK (fun vs H Q E h=>?_) (fun cdv A outer s H vs Q E hr h=>?_)
 ·obtain⟨a,ns,rfl,_⟩:=h;rfl
 obtain⟨S,ns,rfl,hS,h63,hq⟩:=h;refine⟨_,(Z7 (Zd (X2 (Z0 (qv (pv 0)) (Z0 Z4 (Z0 Z4 Z1)))))),?_⟩;refine⟨leN rfl,fun p np=>?_⟩;exact hq p _ np (Z5 np _) ⟨⟨0,0,Z3⟩,j6 (Z5 np _) hS,h63⟩
theorem rB(aM:mg "len"=none)(F:Fun K "_law_take" "_law_take" dq f fd):FnOk P w K mg base CX0 1 f fd ["_law_pen_here","_law_most"] (bL K):=by
 refine F.ok Xf (fun vs H Q E h=>?_) (fun cdv A outer s H vs Q E hr h=>?_)
 ·obtain⟨a,S,ns,n,rfl,_⟩:=h;rfl
 obtain⟨a,S,ns,n,rfl,hp,h0,h1,hq⟩:=h;refine⟨_,(Z2 (Yu (eP (qi0 Tu) (Yc Vb (qv (pv 0)) Z4) Z4 (Zm _)) (Z2 (Y0 2 Xf.nd rfl (Or.inl rfl) (Zb (qi V3) (Yc Vb (qv (pv 0)) Z4) (qv (pv 1))))
 (Z2 (V2 (Zb (qi Wc) (Yc Vb (qv (pv 0)) Z4) (qv (pv 1))) (iS (qv (pv 0)) Z4 Q0))
 (Z7 (Zd (qv (pv 2)))))) Zw)
 (Z2 (Y0 3 Xf.nd rfl (Or.inl rfl) (Yc Vb (qv (pv 0)) Z4))
 (Z2 (Y0 4 Xf.nd rfl (Or.inl rfl) (Yc Vb (qv (pv 0)) Z4))
 (Z2 (V2 (Zb (qi0 Zs) (qv (pv 4)) Z4) (iS (qv (pv 0)) Z4 Q0))
 (Z2 (Y0 5 Xf.nd rfl (Or.inl rfl) (Zb (qi0 Zs) (Zb (qi X5) Z4 (qv (pv 4))) Z4))
 (Z2 (Yu (eP (qi0 Tu) (Zg Y7 rfl aM An (Z0 (qv (pv 3)) Z1)) Z4 (Zm _)) (Z7 (Y0 5 Xf.nd rfl (Or.inl rfl) (Zb (qi0 Zs) (Yc Vb (qv (pv 3)) (Zb (qi V3) (qv (pv 4)) (Zg Y7 rfl aM An (Z0 (qv (pv 3)) Z1)))) (Zb (qi X5) Z4 (Zb (qi Wc) (qv (pv 4)) (Zg Y7 rfl aM An (Z0 (qv (pv 3)) Z1))))))) Zw)
 (Z2 (Yu (PW.pt (iN (eP (qi0 oP) (qv (pv 4)) (Zg Y7 rfl aM An (Z0 (qv (pv 3)) Z1)) (Zm _)) (ez (eP (qi0 kT) (qv (pv 5)) (Zb (qi Se) Z4 Z4) (Zm _))))) (Z2 (V2 (Zb (qi Wc) (qv (pv 5)) (qv (pv 1))) (iS (qv (pv 0)) Z4 Q0))
 (Z7 (Zd (Zb (qi V3) (qv (pv 5)) (qv (pv 1)))))) Zw)
 (Z2 (Y0 6 Xf.nd rfl (Or.inl rfl) (Zb (qi V3) (Zb (qi X5) (Zb (qi0 Zs) (Zb (qi0 Zs) (Zb (qi V3) (qv (pv 5)) Z4) (Zb (qi X5) Z4 (qv (pv 4)))) Z4) Z4) Z4))
 (Z2 (Y0 6 Xf.nd rfl (Or.inl rfl) (Zb (qi V3) (Zb (qi0 Zs) (Zb (qi0 Zs) (Zb (qi X5) (qv (pv 6)) (qv (pv 6))) (Zb (qi X5) Z4 (qv (pv 6)))) (qv (pv 4))) Z4))
 (Z7 (Zd (Zb (qi V3) (Zb (qi Wc) (Zb (qi V3) (Zb (qi0 Zs) (Zb (qi0 Zs) (Zb (qi X5) (qv (pv 6)) (qv (pv 6))) (Zb (qi X5) Z4 (qv (pv 6)))) (Zb (qi X5) Z4 (qv (pv 4)))) Z4) Z4) (qv (pv 1)))))))))))))),?_⟩
 obtain⟨i,r,e⟩:=hp.at_;have hl:(ns.map V.int).length=ns.length:=pi _;have few:=hp.few;refine⟨_,_,SqL.of e,kF _ _ _,?_⟩;refine Wp (fun c=>?_) (fun c=>?_)
 ·refine⟨_,_,SqL.of e,kF _ _ _,h0,?_⟩;refine⟨_,_,SqL.of e,kF _ _ _,⟨h0,h1⟩,a,_,2,_,rfl,rfl,e,rfl,?_⟩;exact hq _ _ (AQ _ (by omega)) (As _ h0) (hp.upd _ _) X8
 refine⟨_,_,SqL.of e,wY _ _ _,?_⟩;refine⟨_,_,SqL.of e,ub _ _ _,?_⟩;refine⟨a,_,1,_,rfl,rfl,e,rfl,?_⟩;have hp1:=hp.upd (i+1) r;have g1:Grw a H (upd H a (.lst [.ref S,.int (i+1),.int r])):=X8;have e1:(upd H a (.lst [.ref S,.int (i+1),.int r])) a=some (.lst [.ref S,.int (i+1),.int r]):=Z3;have hS:=hp1.scr;refine⟨mP rfl rfl,?_⟩;refine⟨S,_,rfl,.inl hS,?_⟩;refine Wp (fun c=>?_) (fun c=>?_)
 focus
  have c:=yJ c;rw[hl]at c;have hm:=AQ i (show(ns.length:Int)≠0 by omega);have hm2:=As i c;obtain⟨v,hv,hmem⟩:=oE (xs:=ns.map V.int) hm (by rw[hl];exact hm2);obtain⟨n1,_,rfl⟩:=yz.mp hmem;refine⟨S,_,rfl,.inl hS,by rw[hl];exact c,_,_,hS,by rw[hl];exact hv,?_⟩;refine⟨S,_,rfl,.inl hS,⟨by rw[hl];exact c,by rw[hl];omega⟩,mP rfl rfl,?_⟩
 all_goals
  refine⟨S,_,rfl,.inl hS,?_⟩;refine Wp (fun c1=>?_) (fun c1=>?_)
  focus
   refine⟨lM rfl rfl rfl,?_⟩;refine Wp (fun c2=>?_) (fun c2=>?_)
   focus
    refine⟨⟨h0,h1⟩,a,_,2,_,rfl,rfl,e1,rfl,?_⟩;refine⟨h0,?_⟩;exact hq _ _ (AQ _ (by omega)) (As _ h0) (hp1.upd _ _) (g1.trans X8)
  all_goals
   refine⟨Vp rfl,mP rfl rfl,mulR rfl rfl,Vp rfl,?_⟩;refine⟨xU _ _ _ rfl rfl,mP rfl rfl,Vp rfl,?_⟩;refine⟨xU _ _ _ rfl rfl,mP rfl rfl,mP rfl rfl,Vp rfl,uv rfl rfl,h0,?_⟩;exact hq _ _ (AQ _ (by omega)) (As _ h0) hp1 g1
end
end K30
namespace L2
open PySem PySem.Spec PyProof.Rows
theorem blk{p:Prop}(h:p):p:=h
end L2
namespace L2
open PySem
def q9(X:Cx)(ss:List Stmt):TS:=fun D σ H=>∃t:TS,PSs X ss t∧t D σ H
theorem Ze{X:Cx}{ss:List Stmt}:PSs X ss (q9 X ss):=fun BF s σ H D I ⟨_,h,q⟩=>h BF s σ H D I q
section
variable{K:W.Frag}{a:Addr}{xs:List V}{g:TG}{tb:TS}{D:Ends}{σ:St}{H:Hp}
theorem Yi(Pv:Nat→St→Hp→Prop)(h0:Pv 0 σ H)(hl:∀i σ H,i≤xs.length→Pv i σ H→SqL K H a xs)(hs:∀i x σ H (N B:St→Hp→Prop) (R:VK),(∀σ' H',Pv (i+1) σ' H'→N σ' H')→(∀v H',D.rt v H'→R v H')→xs[i]?=some x→Pv i σ H→g x σ H fun σ2 H2=>tb {nx:=N,rt:=R,bk:=B,ct:=N} σ2 H2)(hd:∀σ H,Pv xs.length σ H→D.nx σ H):
  ∃W:Nat→Nat→St→Hp→Prop,(∃m,W 0 m σ H)∧∀i m σ H,W i m σ H→
   ((Itl K a).stop i H∧D.nx σ H)∨((Itl K a).go i H∧∃N:St→Hp→Prop,(∀σ' H',N σ' H'→∃m',m'<m∧W (i+1) m' σ' H')∧∀x H',(Itl K a).yld i H x H'→g x σ H' fun σ2 H2=>tb {D with nx:=N,ct:=N,bk:=D.nx} σ2 H2):=
 nN Pv h0 hl (fun i x σ H hx p=>hs i x σ H _ _ _ (fun _ _ q=>q) (fun _ _ q=>q) hx p) hd
theorem Xe{lo:Int}{n:Nat}(Pv:Nat→St→Hp→Prop)(h0:Pv 0 σ H)(hs:∀i σ H (N B:St→Hp→Prop) (R:VK),(∀σ' H',Pv (i+1) σ' H'→N σ' H')→(∀v H',D.rt v H'→R v H')→i<n→Pv i σ H→g (.int (lo+i)) σ H fun σ2 H2=>tb {nx:=N,rt:=R,bk:=B,ct:=N} σ2 H2)(hd:∀σ H,Pv n σ H→D.nx σ H):
  ∃W:Nat→Nat→St→Hp→Prop,(∃m,W 0 m σ H)∧∀i m σ H,W i m σ H→
   ((Itr lo n).stop i H∧D.nx σ H)∨((Itr lo n).go i H∧∃N:St→Hp→Prop,(∀σ' H',N σ' H'→∃m',m'<m∧W (i+1) m' σ' H')∧∀x H',(Itr lo n).yld i H x H'→g x σ H' fun σ2 H2=>tb {D with nx:=N,ct:=N,bk:=D.nx} σ2 H2):=
 lB Pv h0 (fun i σ H hi p=>hs i σ H _ _ _ (fun _ _ q=>q) (fun _ _ q=>q) hi p) hd
end
theorem Xb{α:Type}{n:Nat}{P:List α→Prop}(h:∀a r,r.length=n→P (a::r)):∀us:List α,us.length=n+1→P us:=fun us e=>by
 cases us with
 |nil=>cases e
 |cons a r=>exact h a r (Nat.succ.inj e)
theorem Rg{α:Type}{P:List α→Prop}(h:P []):∀us:List α,us.length=0→P us:=fun us e=>by
 cases us with
 |nil=>exact h
 |cons a r=>cases e
theorem Fun.b1{K:W.Frag}{x qual:Str}{st:Stmt}{f:Addr}{fd:FuncData}{p0:Str}(F:Fun K x qual st f fd)(h:∀(kV doc pm:Value) (an:Option Addr) (cdv ct u0:Value),bindArgs (W.fnOf x qual (aH st) (aE st) (aa st) .none kV doc pm an cdv ct) ⟨[u0],[]⟩=pure [(p0,u0)]):Binds K fd [p0] []:=F.binds fun kV doc pm an cdv ct=>Xb fun u0=>Rg (h kV doc pm an cdv ct u0)
theorem Fun.b2{K:W.Frag}{x qual:Str}{st:Stmt}{f:Addr}{fd:FuncData}{p0 p1:Str}(F:Fun K x qual st f fd)(h:∀(kV doc pm:Value) (an:Option Addr) (cdv ct u0 u1:Value),bindArgs (W.fnOf x qual (aH st) (aE st) (aa st) .none kV doc pm an cdv ct) ⟨[u0,u1],[]⟩=pure [(p0,u0),(p1,u1)]):Binds K fd [p0,p1] []:=F.binds fun kV doc pm an cdv ct=>Xb fun u0=>Xb fun u1=>Rg (h kV doc pm an cdv ct u0 u1)
theorem Fun.b3{K:W.Frag}{x qual:Str}{st:Stmt}{f:Addr}{fd:FuncData}{p0 p1 p2:Str}(F:Fun K x qual st f fd)(h:∀(kV doc pm:Value) (an:Option Addr) (cdv ct u0 u1 u2:Value),bindArgs (W.fnOf x qual (aH st) (aE st) (aa st) .none kV doc pm an cdv ct) ⟨[u0,u1,u2],[]⟩=pure [(p0,u0),(p1,u1),(p2,u2)]):Binds K fd [p0,p1,p2] []:=F.binds fun kV doc pm an cdv ct=>Xb fun u0=>Xb fun u1=>Xb fun u2=>Rg (h kV doc pm an cdv ct u0 u1 u2)
theorem Fun.b4{K:W.Frag}{x qual:Str}{st:Stmt}{f:Addr}{fd:FuncData}{p0 p1 p2 p3:Str}(F:Fun K x qual st f fd)(h:∀(kV doc pm:Value) (an:Option Addr) (cdv ct u0 u1 u2 u3:Value),bindArgs (W.fnOf x qual (aH st) (aE st) (aa st) .none kV doc pm an cdv ct) ⟨[u0,u1,u2,u3],[]⟩=pure [(p0,u0),(p1,u1),(p2,u2),(p3,u3)]):Binds K fd [p0,p1,p2,p3] []:=F.binds fun kV doc pm an cdv ct=>Xb fun u0=>Xb fun u1=>Xb fun u2=>Xb fun u3=>Rg (h kV doc pm an cdv ct u0 u1 u2 u3)
end L2
namespace Ld
open PySem L2
def ae(k:Int×Int):Int×Int:=(k.1+1,k.2 / 2)
def ai(ps:Sps)(k:Int×Int):Option V:=aP (ad ps) (kk k)
theorem Ty:∀(ps:Sps)(k:Int×Int),ai ps k=none∨∃n,ai ps k=some (.int n)
 | [],k=>.inl rfl
 |p::ps,k=>by
  unfold ai ad;rw[yD];by_cases e:kk p.1=kk k
  ·rw[Yb e];exact .inr ⟨_,rfl⟩
  ·rw[Y4 e];exact Ty ps k
def ao(ps:Sps)(k:Int×Int)(n:Int):Sps:=if (ps.any fun p=>decide (p.1=k))=true then ps.map (fun p=>if p.1=k then(p.1,n)else p)else ps++[(k,n)]
def ay(ps:Sps)(k:Int×Int):Sps:=ps.filter fun p=>decide (p.1≠k)
theorem Qt{p q:Int×Int}:kk p=kk q↔p=q:=⟨Vu,fun e=>by rw[e]⟩
theorem T9(ps:Sps)(k:Int×Int)(n:Int):aN (ad ps) (kk k) (.int n)=ad (ao ps k n):=by
 have ea:((ad ps).any fun kv=>decide (kv.1=kk k))=ps.any fun p=>decide (p.1=k):=by
  unfold ad;rw[List.any_map]
  congr 1
  funext p
  exact decide_eq_decide.mpr Qt
 unfold aN ao;rw[ea]
 split
 ·unfold ad;rw[yQ,yQ]
  congr 1
  funext p
  show(if kk p.1=kk k then(kk p.1,V.int n) else(kk p.1,V.int p.2))=_;by_cases e:p.1=k
  ·rw[yC (Qt.mpr e)];show _=(kk (if p.1=k then(p.1,n)else p).1,V.int (if p.1=k then(p.1,n)else p).2);rw[yC e]
  ·rw[yA (fun z=>e (Vu z))];show _=(kk (if p.1=k then(p.1,n)else p).1,V.int (if p.1=k then(p.1,n)else p).2);rw[yA e]
 ·unfold ad;rw[yR];rfl
theorem jv(ps:Sps)(k:Int×Int):bE (ad ps) (kk k)=ad (ay ps k):=by
 unfold bE ay ad;rw[List.filter_map]
 congr 1
 refine List.filter_congr fun p _=>?_;exact decide_eq_decide.mpr (not_congr Qt)
theorem Rm{ps:Sps}{k:Int×Int}:(ps.any fun p=>decide (p.1=k))=true↔k∈ps.map (·.1):=by
 rw[List.any_eq_true,yz];exact⟨fun⟨p,h,e⟩=>⟨p,h,yJ e⟩,fun⟨p,h,e⟩=>⟨p,h,yF e⟩⟩
theorem W4(ps:Sps)(k:Int×Int)(n:Int):(ao ps k n).map (·.1)=if k∈ps.map (·.1)then ps.map (·.1)else ps.map (·.1)++[k]:=by
 unfold ao;by_cases h:k∈ps.map (·.1)
 ·rw[yC (Rm.mpr h),yC h,yQ]
  congr 1
  funext p
  show(if p.1=k then(p.1,n)else p).1=p.1
  split <;> rfl
 ·rw[yA (fun z=>h (Rm.mp z)),yA h,yR];rfl
theorem Vh(ps:Sps)(k:Int×Int):(ay ps k).map (·.1)=(ps.map (·.1)).filter fun x=>decide (x≠k):=by
 unfold ay;rw[List.filter_map];rfl
theorem W9(ps:Sps)(k:Int×Int)(n:Int):(ao ps k n).length≤ps.length+1:=by
 unfold ao
 split
 ·rw[pi];omega
 ·rw[yM];exact yB _
theorem P3(ps:Sps)(k:Int×Int):(ay ps k).length≤ps.length:=zG _ _
theorem Xa(ps:Sps)(k j:Int×Int)(n:Int):ai (ao ps k n) j=if j=k then some (.int n)else ai ps j:=by
 unfold ai;rw[←T9,qe];by_cases e:j=k
 ·rw[yC (Qt.mpr e),yC e]
 ·rw[yA (fun z=>e (Vu z)),yA e]
theorem Yt(p:(Int×Int)×Int)(ps:Sps)(j:Int×Int):ai (p::ps) j=if p.1=j then some (.int p.2)else ai ps j:=by
 unfold ai ad;rw[yD];by_cases e:p.1=j
 ·rw[yC e,Yb (by show kk p.1=kk j;rw[e])]
 ·rw[yA e,Y4 (fun z=>e (Vu z))]
theorem Xk:∀(ps:Sps)(k j:Int×Int),ai (ay ps k) j=if j=k then none else ai ps j
 | [],k,j=>by
  show none=if j=k then none else none
  split <;> rfl
 |p::ps,k,j=>by
  have ih:=Xk ps k j;unfold ay at ih⊢;by_cases e:p.1=k
  ·rw[List.filter_cons,if_neg (by simpa using e),ih,Yt];by_cases z:j=k
   ·rw[yC z,yC z]
   ·rw[yA z,yA z,yA (fun q=>z (by rw[←q,e]))]
  ·rw[zt,yC (yF e),Yt,ih,Yt];by_cases z:j=k
   ·rw[yC z,yC z,yA (fun q=>e (by rw[q,z]))]
   ·rw[yA z,yA z]
theorem U8(k:Int×Int):k≠ae k:=fun e=>by
 have:k.1=k.1+1:=zW (·.1) e;omega
theorem Wo{ps:Sps}{k:Int×Int}:(ai ps k).isSome=true↔k∈ps.map (·.1):=by
 unfold ai;rw[←V5,←Rm];have ea:((ad ps).any fun kv=>decide (kv.1=kk k))=ps.any fun p=>decide (p.1=k):=by
  unfold ad;rw[List.any_map]
  congr 1
  funext p
  exact decide_eq_decide.mpr Qt
 rw[ea]
theorem lK{ps:Sps}{k:Int×Int}(h:(ai ps k).isSome=true):∃m,ai ps k=some (.int m):=by
 rcases Ty ps k with z | z
 ·rw[z]at h;cases h
 ·exact z
def cnt(ps:Sps)(k:Int×Int):Int:=match ai ps k with
 |some (.int n)=>n
 |_=>0
theorem Wu:∀{ps:Sps}{p:(Int×Int)×Int},(ps.map (·.1)).Nodup→p∈ps→ai ps p.1=some (.int p.2)
 |q::ps,p,nd,h=>by
  rw[yD,y7]at nd;rw[Yt]
  rcases yO.mp h with e | h
  ·rw[e,yC rfl]
  ·rw[yA (fun z=>nd.1 (by rw[z];exact yz.mpr ⟨p,h,rfl⟩))];exact Wu nd.2 h
theorem W6{ps:Sps}{k:Int×Int}(h:k∈ps.map (·.1)):ai ps k=some (.int (cnt ps k)):=by
 obtain⟨m,e⟩:=lK (Wo.mpr h);unfold cnt;rw[e]
theorem Uq{ps:Sps}{k:Int×Int}(h:k∉ps.map (·.1)):ai ps k=none:=by
 rcases Ty ps k with z | ⟨n,z⟩
 ·exact z
 ·exact absurd (Wo.mp (by rw[z];rfl)) h
theorem Yh{ps:Sps}{p:(Int×Int)×Int}(nd:(ps.map (·.1)).Nodup)(h:p∈ps):cnt ps p.1=p.2:=by
 unfold cnt;rw[Wu nd h]
theorem Y2{ps:Sps}{k:Int×Int}(h:k∉ps.map (·.1)):cnt ps k=0:=by
 unfold cnt;rw[Uq h]
theorem W7(ps:Sps)(k:Int×Int):(ai ps k).getD (.int 0)=.int (cnt ps k):=by
 unfold cnt
 rcases Ty ps k with z | ⟨n,z⟩ <;> rw[z] <;> rfl
theorem Sm{ps qs:Sps}{j k:Int×Int}(h:ai ps j=ai qs k):cnt ps j=cnt qs k:=by
 unfold cnt;rw[h]
theorem X4(ps:Sps)(k j:Int×Int)(n:Int):cnt (ao ps k n) j=if j=k then n else cnt ps j:=by
 unfold cnt;rw[Xa];by_cases e:j=k
 ·rw[yC e,yC e]
 ·rw[yA e,yA e]
theorem hE(ps:Sps)(k j:Int×Int):cnt (ay ps k) j=if j=k then 0 else cnt ps j:=by
 unfold cnt;rw[Xk];by_cases e:j=k
 ·rw[yC e,yC e]
 ·rw[yA e,yA e]
theorem Qi{ps:Sps}{p:(Int×Int)×Int}(nd:(ps.map (·.1)).Nodup):p∈ps↔ai ps p.1=some (.int p.2):=by
 refine⟨Wu nd,fun h=>?_⟩;have hk:p.1∈ps.map (·.1):=Wo.mp (by rw[h];rfl);obtain⟨q,hq,e⟩:=yz.mp hk;have hq2:=Wu nd hq;rw[e,h]at hq2;injection hq2 with hq2
 injection hq2 with hq2
 have:q=p:=zN e hq2.symm;rw[←this];exact hq
theorem Ve{α β:Type}{f:α→β}{l:List α}(h:(l.map f).Nodup):l.Nodup:=(z9.mp h).imp fun h e=>h (by rw[e])
theorem Rc{α:Type}[DecidableEq α]:∀{l m:List α},l.Nodup→m.Nodup→(∀a,a∈l↔a∈m)→l.Perm m
 | [],m,_,_,h=>by
  cases m with
  |nil=>exact .refl _
  |cons b m=>exact absurd ((h b).mpr (.head _)) zw
 |a::l,m,nl,nm,h=>by
  rw[y7]at nl;have ha:=(h a).mp (.head _);refine .trans (List.Perm.cons a (Rc nl.2 (nm.erase a) fun b=>?_)) (List.perm_cons_erase ha).symm;rw[nm.mem_erase_iff];refine⟨fun hb=>⟨fun e=>nl.1 (by rw[←e];exact hb),(h b).mp (.tail _ hb)⟩,fun⟨ne,hb⟩=>((yO.mp ((h b).mpr hb)).resolve_left ne)⟩
theorem Vd{ps qs:Sps}(np:(ps.map (·.1)).Nodup)(nq:(qs.map (·.1)).Nodup)(h:∀k,ai ps k=ai qs k):ps.Perm qs:=
 Rc (Ve np) (Ve nq) fun p=>by rw[Qi np,Qi nq,h]
theorem Xj{ps qs:Sps}(h:ps.Perm qs)(np:(ps.map (·.1)).Nodup)(k:Int×Int):ai ps k=ai qs k:=by
 have nq:(qs.map (·.1)).Nodup:=(h.map _).nodup_iff.mp np;by_cases hk:k∈ps.map (·.1)
 ·obtain⟨p,hp,rfl⟩:=yz.mp hk;rw[Wu np hp,Wu nq (h.mem_iff.mp hp)]
 ·rw[Uq hk,Uq fun z=>hk ((h.map _).mem_iff.mpr z)]
def ah(ps:Sps):Int:=(ps.map (·.2)).sum
theorem Ru:∀{ps:Sps}{k:Int×Int},(ps.map (·.1)).Nodup→ah (ay ps k)=ah ps-cnt ps k
 | [],k,_=>by
  show(0:Int)=0-cnt [] k;rfl
 |p::ps,k,nd=>by
  rw[yD,y7]at nd;have ih:=Ru (k:=k) nd.2;unfold ah ay at ih⊢;by_cases e:p.1=k
  ·have o:cnt ps k=0:=Y2 (by rw[←e];exact nd.1);have c:cnt (p::ps) k=p.2:=by unfold cnt;rw[Yt,yC e]
   rw[List.filter_cons,if_neg (by simpa using e),ih,o,c,List.map_cons,List.sum_cons];omega
  ·have c:cnt (p::ps) k=cnt ps k:=by unfold cnt;rw[Yt,yA e]
   rw[zt,yC (yF e),yD,y4,ih,c,yD,y4];omega
theorem Yo{ps:Sps}{k:Int×Int}{n:Int}(nd:(ps.map (·.1)).Nodup):((ao ps k n).map (·.1)).Nodup:=by
 rw[W4]
 split
 ·exact nd
 ·rename_i h;exact Be.mpr ⟨nd,y7.mpr ⟨zw,zA⟩,fun x hx y hy e=>h (by rw[yG.mp hy]at e;rw[←e];exact hx)⟩
theorem Vz{ps:Sps}{k:Int×Int}(nd:(ps.map (·.1)).Nodup):((ay ps k).map (·.1)).Nodup:=by
 rw[Vh];exact nd.filter _
theorem V6{ps qs:Sps}(h:ps.Perm qs):ah ps=ah qs:=Vc (h.map _)
theorem N4{ps:Sps}{k:Int×Int}{n:Int}(nd:(ps.map (·.1)).Nodup):ah (ao ps k n)=ah ps-cnt ps k+n:=by
 have h:(ao ps k n).Perm ((k,n)::ay ps k):=by
  have hk:k∉(ay ps k).map (·.1):=by
   rw[Vh];intro z;have:=(yZ.mp z).2;simp at this
  refine Vd (Yo nd) (by rw[yD];exact y7.mpr ⟨hk,Vz nd⟩) fun j=>?_;rw[Xa,Yt,Xk];by_cases e:j=k
  ·rw[yC e,yC e.symm]
  ·rw[yA e,yA (Ne.symm e),yA e]
 rw[V6 h];have:=Ru (k:=k) nd;unfold ah at this⊢;rw[yD,y4,this];omega
end Ld
namespace Ld
open PySem L2
def cS(ps:Sps)(k:Int×Int)(m n:Int):Sps:=ay (ao (ao ps (ae k) n) k (m-m)) k
theorem mD{ps:Sps}{k:Int×Int}{m n:Int}(hk:k∈ps.map (·.1)):(cS ps k m n).map (·.1)=if ae k∈ps.map (·.1) then(ps.map (·.1)).filter (fun x=>decide (x≠k)) else(ps.map (·.1)).filter (fun x=>decide (x≠k))++[ae k]:=by
 unfold cS;have k2:k∈(ao ps (ae k) n).map (·.1):=by
  rw[W4]
  split
  ·exact hk
  ·exact Ab _ hk
 rw[Vh,W4,yC k2,W4]
 split
 ·rfl
 ·rw[Ac,zt,yC (yF (Ne.symm (U8 k)))];rfl
def mea(or:Int)(ks:List (Int×Int)):Nat:=(ks.map fun k=>(or+1-k.1).toNat).sum
theorem Ql{or:Int}{k:Int×Int}:∀{ks:List (Int×Int)},ks.Nodup→k∈ks→mea or (ks.filter fun x=>decide (x≠k))+(or+1-k.1).toNat=mea or ks
 | [],_,h=>nomatch h
 |x::ks,nd,h=>by
  rw[y7]at nd;by_cases e:x=k
  ·subst e;have o:ks.filter (fun y=>decide (y≠x))=ks:=Ap.mpr fun y hy=>yF fun z=>nd.1 (by rw[←z];exact hy);rw[List.filter_cons,if_neg (by simp),o];unfold mea;rw[yD,y4];omega
  ·have hk:k∈ks:=(yO.mp h).resolve_left (Ne.symm e);have ih:=Ql (or:=or) nd.2 hk;rw[zt,yC (yF e)];unfold mea at ih⊢;rw[yD,y4,yD,y4];omega
theorem Qk{or:Int}{ks ls:List (Int×Int)}(h:ks.Perm ls):mea or ks=mea or ls:=(h.map _).sum_nat
theorem pU{or:Int}(h:or≤20):∀{ks:List (Int×Int)},(∀k∈ks,0≤k.1)→mea or ks≤21*ks.length
 | [],_=>zP _
 |k::ks,hk=>by
  have ih:=pU h fun x hx=>hk x (.tail _ hx);have h0:=hk k (.head _);unfold mea at ih⊢;rw[yD,y4,zu];omega
structure Kok(or:Int)(ks:List (Int×Int)):Prop where
 nd:ks.Nodup
 st:∀k∈ks,0≤k.1∧k.1≤or∧0≤k.2∧k.2<2^(or-k.1).toNat
theorem Kok.perm{or:Int}{ks ls:List (Int×Int)}(h:Kok or ks)(p:ls.Perm ks):Kok or ls:=⟨p.nodup_iff.mpr h.nd,fun k hk=>h.st k (p.mem_iff.mp hk)⟩
theorem Wg{m:Int}(h:m≤10):(1:Int)≤2^m.toNat∧(2:Int)^m.toNat≤1024:=by
 have a1:(2:Nat)^m.toNat≤2^10:=Nat.pow_le_pow_right (by decide) (by omega);have a2:0<(2:Nat)^m.toNat:=Nat.pow_pos (by decide);have a3:((2^m.toNat:Nat):Int)=(2:Int)^m.toNat:=by push_cast;rfl
 have a4:(2:Nat)^10=1024:=by decide
 rw[←a3];omega
theorem mV{h or i:Int}(hd:h<or)(i1:i<2^(or-h).toNat):i / 2<2^(or-(h+1)).toNat:=by
 have e:(or-h).toNat=(or-(h+1)).toNat+1:=by omega
 rw[e,BB]at i1;omega
theorem wf{or:Int}{k:Int×Int}(hd:k.1<or)(s:0≤k.1∧k.1≤or∧0≤k.2∧k.2<2^(or-k.1).toNat):0≤(ae k).1∧(ae k).1≤or∧0≤(ae k).2∧(ae k).2<2^(or-(ae k).1).toNat:=by
 have:=mV hd s.2.2.2;show 0≤k.1+1∧k.1+1≤or∧0≤k.2 / 2∧k.2 / 2<2^(or-(k.1+1)).toNat;exact⟨by omega,by omega,by omega,this⟩
theorem qW{or:Int}{ps:Sps}{k:Int×Int}{m n:Int}(h:Kok or (ps.map (·.1)))(hk:k∈ps.map (·.1))(hd:k.1<or):Kok or ((cS ps k m n).map (·.1))∧mea or ((cS ps k m n).map (·.1))<mea or (ps.map (·.1))∧(cS ps k m n).length≤ps.length:=by
 rw[←pi (f:=(·.1)),←pi (as:=ps) (f:=(·.1)),mD hk];have mf:=Ql (or:=or) h.nd hk;have sk:=h.st k hk;have lf:((ps.map (·.1)).filter fun x=>decide (x≠k)).length<(ps.map (·.1)).length:=by
  refine Nat.lt_of_le_of_ne (zG _ _) fun e=>?_;have:=List.length_filter_eq_length_iff.mp e k hk;simp at this
 have ndf:((ps.map (·.1)).filter fun x=>decide (x≠k)).Nodup:=h.nd.filter _;have stf:∀x∈(ps.map (·.1)).filter fun x=>decide (x≠k),0≤x.1∧x.1≤or∧0≤x.2∧x.2<2^(or-x.1).toNat:=fun x hx=>h.st x (yZ.mp hx).1
 split
 ·exact⟨⟨ndf,stf⟩,by omega,by omega⟩
 ·rename_i np;refine⟨⟨?_,fun x hx=>?_⟩,?_,by rw[yM];exact lf⟩
  ·refine Be.mpr ⟨ndf,y7.mpr ⟨zw,zA⟩,fun x hx y hy e=>?_⟩;rw[yG.mp hy]at e;exact np (by rw[←e];exact(yZ.mp hx).1)
  ·rcases zk.mp hx with hx | hx
   ·exact stf x hx
   ·rw[yG.mp hx];exact wf hd sk
  ·have e1:mea or ((ps.map (·.1)).filter (fun x=>decide (x≠k))++[ae k])=mea or ((ps.map (·.1)).filter fun x=>decide (x≠k))+(or+1-(k.1+1)).toNat:=by
    unfold mea;rw[yR,A9];rfl
   rw[e1];omega
def loK(h j:Int):Int×Int:=(h,2*j)
def hiK(h j:Int):Int×Int:=(h,2*j+1)
def upK(h j:Int):Int×Int:=(h+1,j)
def jn(ps:Sps)(h j:Int):Int:=cnt ps (loK h j)+cnt ps (hiK h j)+cnt ps (upK h j)
theorem Tb(h j:Int):ae (loK h j)=upK h j:=zN rfl (show 2*j / 2=j by omega)
theorem eE(h j:Int):ae (hiK h j)=upK h j:=zN rfl (show(2*j+1) / 2=j by omega)
theorem kC(h j:Int):loK h j≠hiK h j:=fun e=>by
 have:2*j=2*j+1:=zW (·.2) e;omega
theorem nB(h j:Int):loK h j≠upK h j:=fun e=>by
 have:h=h+1:=zW (·.1) e;omega
theorem jB(h j:Int):hiK h j≠upK h j:=fun e=>by
 have:h=h+1:=zW (·.1) e;omega
theorem Ri(k:Int×Int):k=loK k.1 (k.2 / 2)∨k=hiK k.1 (k.2 / 2):=by
 rcases Int.emod_two_eq k.2 with e | e
 ·exact .inl (zN rfl (show k.2=2*(k.2 / 2) by omega))
 ·exact .inr (zN rfl (show k.2=2*(k.2 / 2)+1 by omega))
def fG(ps:Sps)(k:Int×Int):Sps:=cS ps k (cnt ps k) (cnt ps (ae k)+cnt ps k)
def aU(ps:Sps)(k:Int×Int):Sps:=if k∈ps.map (·.1)then fG ps k else ps
def aK(ps:Sps)(k:Int×Int):Sps:=if k∈ps.map (·.1) then[(k,cnt ps k)] else[]
def ba(ps:Sps)(h j:Int):Sps:=aU (aU ps (loK h j)) (hiK h j)
def flP(ps:Sps)(h j:Int):Sps:=aK ps (loK h j)++aK ps (hiK h j)
def cz(ps:Sps)(h j:Int):Sps:=ao (ay (ay ps (loK h j)) (hiK h j)) (upK h j) (jn ps h j)
theorem Ww{ps:Sps}{k:Int×Int}(h:k∉ps.map (·.1)):ay ps k=ps:=Ap.mpr fun p hp=>yF fun z=>h (yz.mpr ⟨p,hp,z⟩)
theorem Qm(ps:Sps)(k x:Int×Int):ai (fG ps k) x=if x=k then none else if x=ae k then some (.int (cnt ps (ae k)+cnt ps k))else ai ps x:=by
 unfold fG cS;rw[Xk,Xa,Xa];by_cases e:x=k
 ·rw[yC e,yC e]
 ·rw[yA e,yA e,yA e]
theorem mK(ps:Sps)(k x:Int×Int):cnt (fG ps k) x=if x=k then 0 else if x=ae k then cnt ps (ae k)+cnt ps k else cnt ps x:=by
 unfold cnt;rw[Qm];by_cases e:x=k
 ·rw[yC e,yC e]
 ·rw[yA e,yA e];by_cases z:x=ae k
  ·rw[yC z,yC z];rfl
  ·rw[yA z,yA z]
theorem Te(ps:Sps)(k x:Int×Int):ai (aU ps k) x=if x=k then none else if x=ae k∧k∈ps.map (·.1)then some (.int (cnt ps (ae k)+cnt ps k))else ai ps x:=by
 unfold aU;by_cases hk:k∈ps.map (·.1)
 ·rw[yC hk,Qm];by_cases e:x=k
  ·rw[yC e,yC e]
  ·rw[yA e,yA e];by_cases z:x=ae k
   ·rw[yC z,yC ⟨z,hk⟩]
   ·rw[yA z,yA fun q=>z q.1]
 ·rw[yA hk];by_cases e:x=k
  ·rw[yC e,e,Uq hk]
  ·rw[yA e,yA fun q=>hk q.2]
theorem Sl(ps:Sps)(k x:Int×Int):cnt (aU ps k) x=if x=k then 0 else if x=ae k then cnt ps (ae k)+cnt ps k else cnt ps x:=by
 unfold aU;by_cases hk:k∈ps.map (·.1)
 ·rw[yC hk,mK]
 ·rw[yA hk];by_cases e:x=k
  ·rw[yC e,e,Y2 hk]
  ·rw[yA e];by_cases z:x=ae k
   ·rw[yC z,z,Y2 hk,Int.add_zero]
   ·rw[yA z]
theorem hi_in{ps:Sps}{h j:Int}:hiK h j∈(aU ps (loK h j)).map (·.1)↔hiK h j∈ps.map (·.1):=by
 rw[←Wo,←Wo,Te,yA (Ne.symm (kC h j)),Tb,yA fun q=>jB h j q.1]
theorem tM(ps:Sps)(h j:Int):aK (aU ps (loK h j)) (hiK h j)=aK ps (hiK h j):=by
 unfold aK;rw[Sl,yA (Ne.symm (kC h j)),Tb,yA (jB h j)];by_cases e:hiK h j∈ps.map (·.1)
 ·rw[yC e,yC (hi_in.mpr e)]
 ·rw[yA e,yA fun q=>e (hi_in.mp q)]
theorem Vt{ps:Sps}{h j:Int}(i:loK h j∈ps.map (·.1)∨hiK h j∈ps.map (·.1))(x:Int×Int):ai (ba ps h j) x=if x=loK h j∨x=hiK h j then none else if x=upK h j then some (.int (jn ps h j))else ai ps x:=by
 unfold ba;rw[Te];have p1:cnt (aU ps (loK h j)) (ae (hiK h j))=cnt ps (upK h j)+cnt ps (loK h j):=by rw[eE,Sl,yA (Ne.symm (nB h j)),Tb,yC rfl]
 have p2:cnt (aU ps (loK h j)) (hiK h j)=cnt ps (hiK h j):=by rw[Sl,yA (Ne.symm (kC h j)),Tb,yA (jB h j)]
 rw[p1,p2];by_cases e1:x=hiK h j
 ·rw[yC e1,yC (.inr e1)]
 ·rw[yA e1,Te];by_cases e2:x=loK h j
  ·rw[yC (c:=x=loK h j∨x=hiK h j) (Or.inl e2),yA (c:=x=ae (hiK h j)∧_) fun q=>nB h j (by rw[←e2,←eE];exact q.1),yC e2]
  ·rw[yA (c:=x=loK h j∨x=hiK h j) fun q=>q.elim e2 e1,yA (c:=x=loK h j) e2];by_cases e3:x=upK h j
   ·rw[yC e3];unfold jn;by_cases i2:hiK h j∈ps.map (·.1)
    ·rw[yC ⟨by rw[eE];exact e3,hi_in.mpr i2⟩]
     congr 2
     omega
    ·have i1:=i.resolve_right i2;rw[yA fun q=>i2 (hi_in.mp q.2),yC ⟨by rw[Tb];exact e3,i1⟩,Y2 i2,Tb]
     congr 2
     omega
   ·rw[yA e3,yA fun q=>e3 (by rw[←eE];exact q.1),yA fun q=>e3 (by rw[←Tb];exact q.1)]
theorem i7(ps:Sps)(h j:Int)(x:Int×Int):ai (cz ps h j) x=if x=loK h j∨x=hiK h j then none else if x=upK h j then some (.int (jn ps h j))else ai ps x:=by
 unfold cz;rw[Xa,Xk,Xk];by_cases e1:x=hiK h j
 ·rw[yA (by rw[e1];exact jB h j),yC e1,yC (.inr e1)]
 ·by_cases e2:x=loK h j
  ·have q:x≠upK h j:=by rw[e2];exact nB h j
   rw[yA q,yA e1,yC e2,yC (Or.inl e2)]
  ·rw[yA e1,yA e2,yA (c:=x=loK h j∨x=hiK h j) fun q=>q.elim e2 e1]
theorem Qz{ps:Sps}{k:Int×Int}(nd:(ps.map (·.1)).Nodup):((aU ps k).map (·.1)).Nodup:=by
 unfold aU
 split
 ·exact Vz (Yo (Yo nd))
 ·exact nd
theorem U6{ps:Sps}{h j:Int}(nd:(ps.map (·.1)).Nodup):((ba ps h j).map (·.1)).Nodup:=Qz (Qz nd)
theorem ow{ps:Sps}{h j:Int}(nd:(ps.map (·.1)).Nodup):((cz ps h j).map (·.1)).Nodup:=Yo (Vz (Vz nd))
theorem N7{ps:Sps}{h j:Int}(nd:(ps.map (·.1)).Nodup)(i:loK h j∈ps.map (·.1)∨hiK h j∈ps.map (·.1)):(cz ps h j).Perm (ba ps h j):=Vd (ow nd) (U6 nd) fun k=>by rw[i7,Vt i]
theorem Rh{ps qs:Sps}(p:ps.Perm qs)(nd:(ps.map (·.1)).Nodup)(h j:Int):jn ps h j=jn qs h j:=by
 unfold jn;rw[Sm (Xj p nd _),Sm (Xj p nd (hiK h j)),Sm (Xj p nd (upK h j))]
theorem Py{ps qs:Sps}{h j:Int}(p:ps.Perm qs)(nd:(ps.map (·.1)).Nodup)(i:loK h j∈ps.map (·.1)∨hiK h j∈ps.map (·.1)):(ba ps h j).Perm (ba qs h j):=by
 have pk:=p.map (·.1);refine Vd (U6 nd) (U6 (pk.nodup_iff.mp nd)) fun k=>?_;rw[Vt i,Vt (i.imp pk.mem_iff.mp pk.mem_iff.mp),Rh p nd,Xj p nd]
theorem Pu{ps qs:Sps}(p:ps.Perm qs)(nd:(ps.map (·.1)).Nodup)(k:Int×Int):aK ps k=aK qs k:=by
 have pk:=p.map (·.1);unfold aK;rw[Sm (Xj p nd k)];by_cases e:k∈ps.map (·.1)
 ·rw[yC e,yC (pk.mem_iff.mp e)]
 ·rw[yA e,yA fun q=>e (pk.mem_iff.mpr q)]
theorem jG{ps qs:Sps}(p:ps.Perm qs)(nd:(ps.map (·.1)).Nodup)(h j:Int):flP ps h j=flP qs h j:=by
 unfold flP;rw[Pu p nd,Pu p nd]
theorem gh{or:Int}{ps:Sps}{k:Int×Int}(o:Kok or (ps.map (·.1)))(hd:k.1<or):Kok or ((aU ps k).map (·.1))∧mea or ((aU ps k).map (·.1))+(aK ps k).length≤mea or (ps.map (·.1))∧(aU ps k).length≤ps.length:=by
 unfold aU aK;by_cases hk:k∈ps.map (·.1)
 ·rw[yC hk,yC hk];have:=qW (m:=cnt ps k) (n:=cnt ps (ae k)+cnt ps k) o hk hd;exact⟨this.1,this.2.1,this.2.2⟩
 ·rw[yA hk,yA hk];exact⟨o,yB _,yB _⟩
theorem V7{or:Int}{ps:Sps}{h j:Int}(o:Kok or (ps.map (·.1)))(hd:h<or):Kok or ((ba ps h j).map (·.1))∧mea or ((ba ps h j).map (·.1))+(flP ps h j).length≤mea or (ps.map (·.1))∧(ba ps h j).length≤ps.length:=by
 have a:=gh (k:=loK h j) o hd;have b:=gh (k:=hiK h j) a.1 hd;rw[tM]at b;unfold flP ba;rw[yM];have:=a.2;have:=b.2;exact⟨b.1,by omega,by omega⟩
theorem ii{ps:Sps}{h j:Int}(i:loK h j∈ps.map (·.1)∨hiK h j∈ps.map (·.1)):0<(flP ps h j).length:=by
 unfold flP aK;rw[yM]
 rcases i with i | i
 ·rw[if_pos i];simp;omega
 ·rw[if_pos i];simp
theorem Pw{ps:Sps}{k:Int×Int}(nd:(ps.map (·.1)).Nodup):ah (aU ps k)=ah ps:=by
 unfold aU
 split
 ·unfold fG cS;have c1:cnt (ao (ao ps (ae k) (cnt ps (ae k)+cnt ps k)) k (cnt ps k-cnt ps k)) k=cnt ps k-cnt ps k:=by rw[X4,yC rfl]
  have c2:cnt (ao ps (ae k) (cnt ps (ae k)+cnt ps k)) k=cnt ps k:=by rw[X4,yA (U8 k)]
  rw[Ru (Yo (Yo nd)),N4 (Yo nd),N4 nd,c1,c2];omega
 ·rfl
theorem kZ{ps:Sps}{h j:Int}(nd:(ps.map (·.1)).Nodup):ah (ba ps h j)=ah ps:=by
 unfold ba;rw[Pw (Qz nd),Pw nd]
structure Fst(or bar:Int)(ps:Sps)(h j:Int):Prop where
 in_:loK h j∈ps.map (·.1)∨hiK h j∈ps.map (·.1)
 hd:h<or
 le:jn ps h j≤bar
 first:∀k∈ps.map (·.1),k.1<or→jn ps k.1 (k.2 / 2)≤bar→h<k.1∨(h=k.1∧j≤k.2 / 2)
def Nof(or bar:Int)(ps:Sps):Prop:=∀k∈ps.map (·.1),k.1<or→bar<jn ps k.1 (k.2 / 2)
theorem Fst.key{or bar h j:Int}{ps:Sps}(f:Fst or bar ps h j):∃k∈ps.map (·.1),k.1=h∧k.2 / 2=j:=by
 rcases f.in_ with i | i
 ·exact⟨_,i,rfl,show 2*j / 2=j by omega⟩
 ·exact⟨_,i,rfl,show(2*j+1) / 2=j by omega⟩
theorem Fst.not{or bar h j:Int}{ps:Sps}(f:Fst or bar ps h j)(n:Nof or bar ps):False:=by
 obtain⟨k,hk,e1,e2⟩:=f.key;have:=n k hk (by rw[e1];exact f.hd);rw[e1,e2]at this;have:=f.le;omega
theorem Fst.uniq{or bar h j h' j':Int}{ps:Sps}(f:Fst or bar ps h j)(g:Fst or bar ps h' j'):h=h'∧j=j':=by
 obtain⟨k,hk,e1,e2⟩:=f.key;obtain⟨l,hl,d1,d2⟩:=g.key;have a:=f.first l hl (by rw[d1];exact g.hd) (by rw[d1,d2];exact g.le);have b:=g.first k hk (by rw[e1];exact f.hd) (by rw[e1,e2];exact f.le);rw[d1,d2]at a;rw[e1,e2]at b;omega
theorem Fst.perm{or bar h j:Int}{ps qs:Sps}(f:Fst or bar ps h j)(p:ps.Perm qs)(nd:(ps.map (·.1)).Nodup):Fst or bar qs h j:=by
 have pk:=p.map (·.1);refine⟨f.in_.imp pk.mem_iff.mp pk.mem_iff.mp,f.hd,by rw[←Rh p nd];exact f.le,fun k hk h1 h2=>f.first k (pk.mem_iff.mpr hk) h1 (by rw[Rh p nd];exact h2)⟩
theorem Qe{or bar:Int}{ps qs:Sps}(n:Nof or bar ps)(p:ps.Perm qs)(nd:(ps.map (·.1)).Nodup):Nof or bar qs:=fun k hk h1=>by
 rw[←Rh p nd];exact n k ((p.map (·.1)).mem_iff.mpr hk) h1
inductive Stl(or bar:Int):Sps→Sps→Sps→Prop
 |done {ps:Sps}:Nof or bar ps→Stl or bar ps [] ps
 |step {ps ps1 fs BH:Sps} {h j:Int}:Fst or bar ps h j→ps1.Perm (ba ps h j)→Stl or bar ps1 fs BH→Stl or bar ps (flP ps h j++fs) BH
theorem kK{or bar:Int}{ps fs BH:Sps}(s:Stl or bar ps fs BH):∀{qs gs qs':Sps},Stl or bar qs gs qs'→ps.Perm qs→(ps.map (·.1)).Nodup→fs=gs∧BH.Perm qs':=by
 induction s with
 |done n=>
  intro qs gs qs' t p nd;cases t with
  |done _=>exact⟨rfl,p⟩
  |step f _ _=>exact(f.not (Qe n p nd)).elim
 |step f p1 s ih=>
  intro qs gs qs' t p nd;cases t with
  |done n=>exact((f.perm p nd).not n).elim
  |step g q1 t=>
   obtain⟨rfl,rfl⟩:=(f.perm p nd).uniq g;obtain⟨e,r⟩:=ih t (p1.trans ((Py p nd f.in_).trans q1.symm)) ((p1.map _).nodup_iff.mpr (U6 nd));exact⟨by rw[jG p nd,e],r⟩
theorem sC{or bar:Int}{ps fs BH:Sps}(s:Stl or bar ps fs BH):(ps.map (·.1)).Nodup→(BH.map (·.1)).Nodup∧Nof or bar BH∧ah BH=ah ps:=by
 induction s with
 |done n=>exact fun nd=>⟨nd,n,rfl⟩
 |step f p1 s ih=>
  intro nd;obtain⟨a,b,c⟩:=ih ((p1.map _).nodup_iff.mpr (U6 nd));exact⟨a,b,by rw[c,V6 p1,kZ nd]⟩
def Way(or bar:Int)(ps fs qs:Sps):Prop:=∀gs BH,Stl or bar qs gs BH→Stl or bar ps (fs++gs) BH
theorem Way.refl{or bar:Int}{ps:Sps}:Way or bar ps [] ps:=fun _ _ s=>s
theorem Way.snoc{or bar h j:Int}{ps fs qs qs1:Sps}(w:Way or bar ps fs qs)(f:Fst or bar qs h j)(p:qs1.Perm (ba qs h j)):Way or bar ps (fs++flP qs h j) qs1:=fun gs BH s=>by
 rw[AT];exact w _ _ (.step f p s)
theorem Way.done{or bar:Int}{ps fs qs:Sps}(w:Way or bar ps fs qs)(n:Nof or bar qs):Stl or bar ps fs qs:=by
 have:=w [] qs (.done n)
 rwa [A8]at this
theorem Rw{ps qs:Sps}(p:ps.Perm qs):au ps=au qs:=Ra Qs ((Y5 ps).trans (p.trans (Y5 qs).symm)) (Tm ps) (Tm qs)
end Ld
namespace K30
open PySem L2 Ld
def KAt(H:Hp)(p:Addr)(k:Int×Int):Prop:=H p=some (.tup [.int k.1,.int k.2])
def NsAt(H:Hp):List V→List (Int×Int)→Prop:=Paired fun x p=>∃c:Addr,x=.ref c∧KAt H c p
theorem NsAt.mono{H H':Hp}(g:Same H H'){xs:List V}{ps:List (Int×Int)}(h:NsAt H xs ps):NsAt H' xs ps:=Paired.mapP h fun _ _ ⟨c,e,q⟩=>⟨c,e,g _ _ q⟩
theorem NsAt.len{H:Hp}{xs:List V}{ps:List (Int×Int)}(h:NsAt H xs ps):xs.length=ps.length:=yK h
theorem NsAt.get{H:Hp}:∀{xs:List V}{ps:List (Int×Int)}{j:Nat}{x:V},NsAt H xs ps→xs[j]?=some x→∃c p,x=.ref c∧ps[j]?=some p∧KAt H c p
 |_,_,_,_,.nil,e=>by simp at e
 |_,_,0,_,.cons h _,e=>by
  rw[zQ]at e;cases e;obtain⟨c,e,q⟩:=h;exact⟨c,_,e,rfl,q⟩
 |_,_,j+1,_,.cons _ r,e=>NsAt.get (j:=j) r (by simpa using e)
theorem NsAt.snoc{H:Hp}{xs:List V}{ps:List (Int×Int)}{c:Addr}{p:Int×Int}(h:NsAt H xs ps)(e:KAt H c p):NsAt H (xs++[.ref c]) (ps++[p]):=Paired.snoc h ⟨c,rfl,e⟩
structure LadAt(H:Hp)(q:Addr)(BE or total:Int)(ps:Sps):Prop where
 at_:∃(c:Addr)(as:List Addr),H q=some (.tup [.int BE,.int or,.ref c,.int total])∧H c=some (.tup (as.map V.ref))∧Paired (FT H) as ps
theorem Zz{H H':Hp}(g:Same H H'){a:Addr}{p:(Int×Int)×Int}(h:FT H a p):FT H' a p:=let ⟨b,e1,e2⟩:=h;⟨b,g _ _ e1,g _ _ e2⟩
theorem LadAt.mono{H H':Hp}(g:Same H H'){q:Addr}{BE or total:Int}{ps:Sps}(h:LadAt H q BE or total ps):LadAt H' q BE or total ps:=let ⟨c,as,e1,e2,r⟩:=h.at_;⟨c,as,g _ _ e1,g _ _ e2,Paired.mapP r fun _ _ f=>Zz g f⟩
theorem Ue{H:Hp}:∀{as:List Addr}{ps:Sps}{j:Nat}{x:V},Paired (FT H) as ps→(as.map V.ref)[j]?=some x→∃a p,x=.ref a∧ps[j]?=some p∧FT H a p
 |_,_,_,_,.nil,e=>by simp at e
 |_,_,0,_,.cons h _,e=>by
  rw[yD,zQ]at e;cases e;exact⟨_,_,rfl,rfl,h⟩
 |_,_,j+1,_,.cons _ r,e=>Ue (j:=j) r (by simpa using e)
theorem X9{H:Hp}{d b:Addr}{ps:Sps}{k:Int×Int}(e:H d=some (.dT (ad ps)))(eb:KAt H b k):DGet H d (.ref b) (ai ps k):=DGet.t e eb
theorem p6{H:Hp}:∀{bs:List Addr}{ks:List (Int×Int)}{j:Nat}{x:V},KsAt H bs ks→(bs.map V.ref)[j]?=some x→∃b k,x=.ref b∧ks[j]?=some k∧KAt H b k
 |_,_,_,_,.nil,e=>by simp at e
 |_,_,0,_,.cons h _,e=>by
  rw[yD,zQ]at e;cases e;exact⟨_,_,rfl,rfl,h⟩
 |_,_,j+1,_,.cons _ r,e=>p6 (j:=j) r (by simpa using e)
theorem mx{H:Hp}{d q:Addr}{o u:HO}(e:H d=some u)(n:H q=none):Grw d H (upd H q o):=fun b w h=>by
 obtain⟨h1,h2⟩:=Za h;rw[Zj h1,Zc (Zk h2 n)];exact h2
def di:Sp:=fun vs H Q _=>∃(p:Addr)(k:Int×Int),vs=[.ref p]∧KAt H p k∧∀q,H q=none→Q (.ref q) (upd H q (.tup [.int (ae k).1,.int (ae k).2]))
theorem nj{α:Type}{R:α→α→Prop}{l:List α}(h:l.Pairwise R){i j:Nat}{a b:α}(ha:l[i]?=some a)(hb:l[j]?=some b)(ij:i<j):R a b:=by
 obtain⟨hi,rfl⟩:=yI.mp ha;obtain⟨hj,rfl⟩:=yI.mp hb;exact List.pairwise_iff_getElem.mp h i j hi hj ij
variable{P:Program}{w:World}{K:W.Frag}{mg:Str→Option Value}{base:Heap}{f:Addr}{fd:FuncData}
theorem lJ(F:Fun K "parent_of" "parent_of" bK f fd):FnOk P w K mg base CX0 1 f fd ["stretch"] di:=by
 refine F.ok Vj (fun vs H Q E h=>?_) (fun cdv A outer s H vs Q E hr h=>?_)
 ·obtain⟨p,k,rfl,_⟩:=h;rfl
 obtain⟨p,k,rfl,e,hq⟩:=h;refine⟨_,(Z2 (V2 (pv 0) (W8 rfl (Z9 (Z8 (i:=1) Vj.nd rfl (Or.inl rfl)) (Z9 (Z8 (i:=2) Vj.nd rfl (Or.inl rfl)) Y1))))
 (Z7 (Zd (Zu (Z0 (Zb Zs (pv 1) Z4) (Z0 (Zb Wc (pv 2) Z4) Z1)))))),?_⟩
 exact⟨_,rfl,p,_,rfl,SqT.of e,rfl,_,_,rfl,_,_,rfl,rfl,_,rfl,_,_,rfl,rfl,_,rfl,_,_,rfl,rfl,⟨by decide,by decide⟩,leN rfl,hq⟩
def hgt:List Key→Int
 |.inl h::_=>h
 |_=>0
def vy(or:Int)(kvs:List (List Key×V)):Nat:=(kvs.map fun kv=>(or+1-hgt kv.1).toNat).sum
theorem rE(or:Int)(ps:Sps):vy or (ad ps)=mea or (ps.map (·.1)):=by
 unfold vy mea ad;rw[yQ,yQ];rfl
def muD(or:Int)(d:Addr)(H:Hp):Nat:=match H d with
 |some (.dT kvs)=>vy or kvs
 |_=>0
theorem iz{or:Int}{d:Addr}{H:Hp}{ps:Sps}(e:H d=some (.dT (ad ps))):muD or d H=mea or (ps.map (·.1)):=by
 unfold muD;rw[e];exact rE or ps
def FsAt(H:Hp)(l:Addr)(fs:Sps):Prop:=∃as:List Addr,H l=some (.lst (as.map V.ref))∧Paired (FT H) as fs
def tjs(ps:Sps)(h j:Int):Nat→Sps
 | 0=>[]
 | 1=>aK ps (loK h j)
 |_=>flP ps h j
theorem FsAt.same{H H':Hp}{l:Addr}{fs:Sps}(h:FsAt H l fs)(g:Same H H'):FsAt H' l fs:=let ⟨as,e,p⟩:=h;⟨as,g _ _ e,Paired.mapP p fun _ _ f=>Zz g f⟩
def idx(h:Int)(ps:Sps):List Int:=(ps.filter fun p=>decide (p.1.1=h)).map fun p=>p.1.2 / 2
def tY:Sp:=fun vs H Q _=>∃(d:Addr)(or bar:Int)(ps:Sps),vs=[.ref d,.int or,.int bar]∧H d=some (.dT (ad ps))∧Kok or (ps.map (·.1))∧0≤or∧or≤20∧ps.length<64∧
 (∀(l:Addr)(H':Hp),Nof or bar ps→Same H H'→H l=none→H' l=some (.lst [])→Q (.ref l) H')∧
 ∀(h j:Int)(l:Addr)(H':Hp),Fst or bar ps h j→Grw d H H'→H l=none→H' d=some (.dT (ad (cz ps h j)))→FsAt H' l (flP ps h j)→Q (.ref l) H'
theorem S6{H H':Hp}{d:Addr}{o:Obj}{kvs:List (List Key×V)}(e:H d=some (.dT kvs))(g:Same (upd H d (.frz o (.dT kvs))) H'):Same H (upd H' d (.dT kvs)):=fun b u h=>by
 by_cases z:b=d
 ·rw[z]at h⊢;rw[e]at h;rw[←h];exact Z3
 ·rw[Zc z];exact g b u (by rw[Zc z];exact h)
theorem tR{H:Hp}{d b:Addr}{ps:Sps}{k:Int×Int}{o:Obj}(e:H d=some (.frz o (.dT (ad ps))))(eb:KAt H b k):DGet H d (.ref b) (ai ps k):=.inr ⟨_,kk k,b,.inr ⟨o,e⟩,rfl,eb,rfl⟩
theorem i4{ps:Sps}{i:Nat}{p:List Key×V}(h:(ad ps)[i]?=some p):∃q,ps[i]?=some q∧p=(kk q.1,.int q.2):=by
 unfold ad at h;rw[yL]at h;cases e:ps[i]? with
 |none=>rw[e]at h;cases h
 |some q=>rw[e]at h;cases h;exact⟨q,rfl,rfl⟩
theorem Rt{α β:Type}(f:α→β){l:List α}{i:Nat}{a:α}(h:l[i]?=some a):(l.take (i+1)).map f=(l.take i).map f++[f a]:=by
 rw[Zo h,yR];rfl
theorem rY{h j:Int}{ps:Sps}:j∈idx h ps↔∃k∈ps.map (·.1),k.1=h∧k.2 / 2=j:=by
 unfold idx;rw[yz];constructor
 ·rintro⟨p,hp,rfl⟩;obtain⟨a,b⟩:=yZ.mp hp;exact⟨p.1,yz.mpr ⟨p,a,rfl⟩,yJ b,rfl⟩
 ·rintro⟨k,hk,rfl,rfl⟩;obtain⟨p,hp,rfl⟩:=yz.mp hk;exact⟨p,yZ.mpr ⟨hp,yF rfl⟩,rfl⟩
def cv(ps fs:Sps):Sps:=fs.foldl (fun a p=>ay a p.1) ps
theorem Qn:∀(fs ps:Sps)(x:Int×Int),ai (cv ps fs) x=if x∈fs.map (·.1)then none else ai ps x
 | [],ps,x=>by rw[Bv,yA zw];rfl
 |p::fs,ps,x=>by
  have ih:=Qn fs (ay ps p.1) x;show ai (cv (ay ps p.1) fs) x=_;rw[ih,Xk,yD];by_cases e:x=p.1
  ·rw[yC e,yC (show x∈p.1::fs.map (·.1) by rw[e];exact .head _)]
   split <;> rfl
  ·rw[yA e];by_cases z:x∈fs.map (·.1)
   ·rw[yC z,yC (zC _ z)]
   ·rw[yA z,yA fun q=>(yO.mp q).elim e z]
theorem jg{ps fs:Sps}{n:Nat}{p:(Int×Int)×Int}(h:fs[n]?=some p):cv ps (fs.take (n+1))=ay (cv ps (fs.take n)) p.1:=by
 unfold cv;rw[Zo h,List.foldl_append];rfl
theorem v6(ps:Sps)(h j:Int):(flP ps h j).length≤2:=by
 unfold flP aK;rw[yM]
 split <;> split <;> simp
theorem xh(ps:Sps)(h j:Int):((flP ps h j).map (·.1)).Nodup:=by
 unfold flP aK;have:=kC h j
 split <;> split <;> simp[this]
theorem xG(ps:Sps)(h j:Int):∀p∈flP ps h j,ai ps p.1=some (.int p.2):=fun p hp=>by
 unfold flP aK at hp
 rcases zk.mp hp with hp | hp
 ·split at hp
  ·rw[yG.mp hp];exact W6 (by assumption)
  ·cases hp
 ·split at hp
  ·rw[yG.mp hp];exact W6 (by assumption)
  ·cases hp
theorem tT(ps:Sps)(h j:Int):cv ps (flP ps h j)=ay (ay ps (loK h j)) (hiK h j):=by
 have out:hiK h j∉ps.map (·.1)→hiK h j∉(ay ps (loK h j)).map (·.1):=fun n z=>n (by rw[Vh]at z;exact(yZ.mp z).1);unfold flP aK cv;by_cases i1:loK h j∈ps.map (·.1)
 ·by_cases i2:hiK h j∈ps.map (·.1)
  ·rw[yC i1,yC i2];rfl
  ·rw[yC i1,yA i2,Ww (out i2)];rfl
 ·by_cases i2:hiK h j∈ps.map (·.1)
  ·rw[yA i1,yC i2,Ww i1];rfl
  ·rw[yA i1,yA i2,Ww (out i2),Ww i1];rfl
theorem _root_.L2.Grw.tup{d x:Addr}{H H':Hp}{kvs:List (List Key×V)}{xs:List V}(g:Grw d H H')(ed:H d=some (.dT kvs))(e:H x=some (.tup xs)):H' x=some (.tup xs):=(Za (g x _ (by rw[Zj (U1 e ed (by intro z;cases z))];exact e))).2
theorem _root_.L2.Grw.lst{d x:Addr}{H H':Hp}{kvs:List (List Key×V)}{xs:List V}(g:Grw d H H')(ed:H d=some (.dT kvs))(e:H x=some (.lst xs)):H' x=some (.lst xs):=(Za (g x _ (by rw[Zj (U1 e ed (by intro z;cases z))];exact e))).2
theorem _root_.L2.Same.grw{d:Addr}{H H':Hp}(g:Same H H'):Grw d H H':=fun x w e=>by
 obtain⟨e1,e2⟩:=Za e;rw[Zj e1];exact g _ _ e2
theorem _root_.L2.Grw.refl{d:Addr}{H:Hp}:Grw d H H:=fun _ _ e=>e
theorem vf(av:mg "range"=none)(aj:mg "sorted"=none)(pP:mg "set"=none)(aF:mg "sum"=none)(F:Fun K "_law_fold_once" "_law_fold_once" bq f fd):FnOk P w K mg base CX0 1 f fd ["_law_now","_law_deep","_law_bar"] tY:=by
 refine F.ok Y8 (fun vs H Q E h=>?_) (fun cdv A outer s H vs Q E hr h=>?_)
 ·obtain⟨d,or,bar,ps,rfl,_⟩:=h;rfl
 obtain⟨d,or,bar,ps,rfl,e_d,kok,d0,d1,pl,hq0,hq1⟩:=h;refine⟨_,(Z2 (Yr zl rfl (Xh rfl av (Z0 (pv 1) Z1)) (Z8 (i:=3) Y8.nd rfl (Or.inr rfl))
 (Z7 (Yr zl rfl (Zq (Zg (gL rfl) rfl aj zK (Z0 (X1 (ma rfl) rfl pP PyProof.Rows.boot_set (Z0 (jJ (Ym (own:=["_law_other","_law_index"]) (Wf rfl rfl) (Q8 (pv 0))
  (fun _ _ _ _ _=>(Xd K 2 rfl rfl (Z9 (Z8 (i:=0) Xr rfl (Or.inl rfl) (Or.inr rfl)) (Z9 (Z8 (i:=1) Xr rfl (Or.inl rfl) (Or.inr rfl)) Y1)))) (fun _ _ _ _ _=>(Wq (Zn Tv (pv 0) (pv 5) (Zm _))))
  (fun _ _ _ _ _=>(Zb Wc (pv 1) Z4)))) Z1)) Z1))) (Z8 (i:=4) Y8.nd rfl (Or.inl rfl))
 (Z2 (Y0 5 Y8.nd rfl (Or.inl rfl) (Zu (Z0 (Zb Zs (pv 3) Z4) (Z0 (pv 4) Z1))))
 (Z2 (Y0 6 Y8.nd rfl (Or.inl rfl) (X2 (Z0 (Zu (Z0 (pv 3) (Z0 (Zb X5 Z4 (pv 4)) Z1))) (Z0 (Zu (Z0 (pv 3) (Z0 (Zb Zs (Zb X5 Z4 (pv 4)) Z4) Z1))) Z1))))
 (Vn 9 (Z2 (Y0 7 Y8.nd rfl (Or.inl rfl) (Zg (Xp rfl) rfl aF zU (Z0 (jh ["_law_now","_law_deep","_law_bar","_law_height","_law_k","_law_parent","_law_pair","_law_whole","_law_told","#9","_law_many_here"] (Ym (own:=["_law_one"]) (Wf rfl rfl) (Zq (Zb eO (pv 6) (X2 (Z0 (pv 5) Z1))))
  (fun _ _ _ _ _=>(Z8 (i:=0) U4 rfl (Or.inl rfl) (Or.inr rfl))) (fun _ _ _ _ _=>Yp)
  (fun _ _ _ _ _=>(Wi (X3 hr) (pv 1) (pv 0) Z4 ⟨rfl,rfl,rfl,rfl⟩)))) Z1)))
 (Z7 (Yu (Zn Sr (pv 7) (pv 2) (Zm _)) (Vn 9 (Z2 (vO ["_law_now","_law_deep","_law_bar","_law_height","_law_k","_law_parent","_law_pair","_law_whole","_law_told","#9","_law_many_here"] (Vo (i:=8) (show List.Nodup (["_law_now","_law_deep","_law_bar","_law_height","_law_k","_law_parent","_law_pair","_law_whole","_law_told","#9","_law_many_here"]:List Str) by decide +kernel) rfl rfl (own:=["_law_one"]) (Wf rfl rfl) (Zq (pv 6))
  (fun _ _ _ _ _=>(Z8 (i:=0) U3 rfl (Or.inl rfl) (Or.inr rfl))) (fun _ _ _ _ _=>(Wq (Zn (sW hr.units) (pv 0) (pv 1) (by with_unfolding_all rfl))))
  (fun _ _ _ _ _=>(Zu (Z0 (pv 0) (Z0 (Wa (X3 hr) (pv 1) (pv 0) (fun _ _=>rfl)) Z1))))))
 (Z2 (Yr zl rfl (Zq (pv 8)) (W8 rfl (Z9 (Z8 (i:=9) Y8.nd rfl (Or.inl rfl)) (Z9 (Z8 (i:=10) Y8.nd rfl (Or.inl rfl)) Y1)))
 (Z7 (Xz (O4 zX PySem.F.slot_dict_pop PySem.F.type_dict_pop (jZ hr.units) (pv 0) (Z0 (pv 9) Z1)))))
 (Z2 (Wr (X3 hr) (pv 0) (pv 5) (pv 7) rfl)
 (Z7 (Zd (pv 8))))))) Zw))))))))) Ze),?_⟩
 refine⟨_,rfl,or,rfl,by omega,by omega,?_⟩;refine Xe (lo:=0) (n:=or.toNat) (fun i σ H'=>∃o3 o4 o5 o6 o7 o8 o9 o10:Option V,σ=[some (.ref d),some (.int or),some (.int bar),o3,o4,o5,o6,o7,o8,o9,o10]∧Same H H'∧∀k∈ps.map (·.1),k.1<(i:Int)→bar<jn ps k.1 (k.2 / 2)) ⟨_,_,_,_,_,_,_,_,rfl,Same.refl _,fun k hk z=>?_⟩ ?_ ?_
 ·have:=(kok.st k hk).1;omega
 ·rintro i σ H1 N B1 R hN hR hi ⟨o3,o4,o5,o6,o7,o8,o9,o10,rfl,g1,bef⟩;have hz:(0:Int)+(i:Int)=i:=Bo _;generalize hh:(0:Int)+(i:Int)=h at hz⊢;have xW:=g1 _ _ e_d;have filt:∀n,((ps.take n).filter fun p=>decide (p.1.1=h)).length≤n:=fun n=>zE (zG _ _) (by rw[yX];omega);refine⟨d,_,xW,fun o=>⟨_,rfl,d,o,_,rfl,Z3,?_⟩⟩;refine P6 (fun i ys H'=>Same (upd H1 d (.frz o (.dT (ad ps)))) H'∧i≤ps.length∧ys=(idx h (ps.take i)).map V.int) ⟨Same.refl _,zP _,rfl⟩ ?_ ?_ ?_ ?_
  ·rintro i ys H' ⟨g5,_⟩;exact g5 _ _ Z3
  ·rintro n p0 b ys H5 C hp0 BJ ⟨g5,_,rfl⟩ hC;obtain⟨p,hp5,rfl⟩:=i4 hp0;have il:n<ps.length:=(yI.mp hp5).1;have fl:=filt n;have BJ:H5 b=some (.tup [.int p.1.1,.int p.1.2]):=BJ;have tk:=Zo hp5;refine⟨Zh (by unfold idx;rw[pi,pi];omega),b,_,rfl,SqT.of BJ,rfl,_,_,rfl,_,_,rfl,rfl,Wk.refl _,_,rfl,_,rfl,rfl,_,rfl,?_⟩;by_cases same:p.1.1=h
   ·rw[yF (by rw[same])];refine Vv ⟨_,rfl,_,_,rfl,rfl,⟨by decide,by decide⟩,hC _ _ ⟨g5,il,?_⟩⟩;unfold idx;rw[tk,Ac,zt,yC (yF same),yR,yR];rfl
   ·rw[yY (fun z=>same (V.int.inj z))];refine Yz (hC _ _ ⟨g5,il,?_⟩);unfold idx;rw[tk,List.filter_append,List.filter_cons,if_neg (by simpa using same),List.filter_nil,List.append_nil]
  ·rintro i ys H' ⟨_,hl,rfl⟩;have fl:=filt i;exact Zh (by unfold idx;rw[pi,pi];omega)
  rintro ys H5 ⟨g5,_,rfl⟩;rw[Zx,yV];have fl:=filt ps.length;rw[yV]at fl;refine⟨Zf (by unfold idx;rw[pi,pi];omega),fun p n_p=>?_⟩;have pd:p≠d:=fun z=>by rw[z,g5 _ _ Z3]at n_p;cases n_p
  have g6:=g5.trans (Z5 n_p (.lst ((idx h ps).map V.int)));have sz:=S6 xW g6;have BK:(upd (upd H5 p (.lst ((idx h ps).map V.int))) d (.dT (ad ps))) p=some (.lst ((idx h ps).map V.int)):=by rw[Zc pd];exact Z3
  refine⟨g6 _ _ Z3,?_⟩;generalize upd (upd H5 p _) d _=H6 at sz BK⊢;have il:(idx h ps).length≤ps.length:=by unfold idx;rw[pi];omega
  have ul:=oC (idx h ps);refine⟨p,_,rfl,SqL.of BK,by omega,?_⟩;have gg:=g1.trans sz;clear sz g6 g5 n_p pd;intro q n_q;generalize hz:upd _ q _=H7;revert H7;refine blk ?_;intro H7 hz;have gz:=Zi hz n_q;have BQ:=Zr hz;clear hz;have gg:=gg.trans gz;refine⟨q,_,rfl,BQ,by omega,?_⟩;intro l n_l;generalize hz:upd _ l _=H8;revert H8;refine blk ?_;intro H8 hz;have gz:=Zi hz n_l;have BN:=Zr hz;clear hz;have gg:=gg.trans gz;have jm:∀j,j∈c7 (fc (idx h ps))↔∃k∈ps.map (·.1),k.1=h∧k.2 / 2=j:=fun j=>by rw[(V8 _).mem_iff,pN,rY]
  have jw:=ki (fc (idx h ps));generalize c7 (fc (idx h ps))=js at BN jm jw;clear BQ ul il BK fl;refine⟨l,rfl,⟨_,SqL.of BN⟩,?_⟩;refine Yi (xs:=js.map V.int) (fun n σ H'=>∃o4 o5 o6 o7 o8 o9 o10:Option V,σ=[some (.ref d),some (.int or),some (.int bar),some (.int h),o4,o5,o6,o7,o8,o9,o10]∧Same H8 H'∧∀(m:Nat)(j:Int),m<n→js[m]?=some j→bar<jn ps h j) ⟨_,_,_,_,_,_,_,rfl,Same.refl _,fun m _ hm=>absurd hm (Nat.not_lt_zero m)⟩ ?_ ?_ ?_
  ·rintro n σ H' _ ⟨_,_,_,_,_,_,_,_,g,_⟩;exact SqL.of (g _ _ BN)
  ·rintro n x σ H2 N2 B2 R2 hN2 hR2 hx ⟨o4,o5,o6,o7,o8,o9,o10,rfl,g2,bef2⟩;rw[yL]at hx;obtain⟨j,hj,rfl⟩:=y8.mp hx;have g8:=gg;have gg:=gg.trans g2;have aY:=gg _ _ e_d;have cO:=g2 _ _ BN;have gk:Same H2 H2:=Same.refl _;refine⟨_,rfl,_,_,rfl,rfl,_,rfl,leN rfl,?_⟩;intro u n_u;generalize hz:upd _ u _=G1;revert G1;refine blk ?_;intro G1 hz;have gz:=Zi hz n_u;have e_u:=Zr hz;clear hz;have gg:=gg.trans gz;have aY:=gz _ _ aY;have gk:=gk.trans gz;refine⟨_,rfl,_,rfl,_,_,rfl,rfl,Or.inl ⟨by decide,by decide⟩,leN rfl,?_⟩;intro a n_a;generalize hz:upd _ a _=G2;revert G2;refine blk ?_;intro G2 hz;have gz:=Zi hz n_a;have BP:=Zr hz;clear hz;have gg:=gg.trans gz;have aY:=gz _ _ aY;have e_u:=gz _ _ e_u;have gk:=gk.trans gz;refine⟨_,rfl,_,rfl,_,_,rfl,rfl,Or.inl ⟨by decide,by decide⟩,_,_,rfl,rfl,leN rfl,?_⟩;intro b n_b;generalize hz:upd _ b _=G3;revert G3;refine blk ?_;intro G3 hz;have gz:=Zi hz n_b;have BJ:=Zr hz;clear hz;have gg:=gg.trans gz;have aY:=gz _ _ aY;have e_u:=gz _ _ e_u;have BP:=gz _ _ BP;have gk:=gk.trans gz;refine⟨leN rfl,?_⟩;intro pr n_pr;generalize hz:upd _ pr _=G4;revert G4;refine blk ?_;intro G4 hz;have gz:=Zi hz n_pr;have dN:=Zr hz;clear hz;have gg:=gg.trans gz;have aY:=gz _ _ aY;have e_u:=gz _ _ e_u;have BP:=gz _ _ BP;have BJ:=gz _ _ BJ;have gk:=gk.trans gz;have BP:KAt G4 a (loK h j):=BP;have BJ:KAt G4 b (hiK h j):=BJ;have e_u:KAt G4 u (upK h j):=e_u;refine⟨⟨.inl rfl,.inl rfl,.inl rfl,.inl rfl,.inl rfl,.inl rfl,.inl rfl,.inl rfl,.inl rfl,.inr rfl,.inl rfl,trivial⟩,?_⟩;refine⟨_,rfl,_,rfl,leN rfl,?_⟩;intro pt n_pt;generalize hz:upd _ pt _=G5;revert G5;refine blk ?_;intro G5 hz;have gz:=Zi hz n_pt;have e_pt:=Zr hz;clear hz;have gg:=gg.trans gz;have aY:=gz _ _ aY;have e_u:=gz _ _ e_u;have BP:=gz _ _ BP;have BJ:=gz _ _ BJ;have dN:=gz _ _ dN;have gk:=gk.trans gz;refine⟨pr,pt,_,_,rfl,rfl,dN,e_pt,leN rfl,?_⟩;intro pc n_pc;generalize hz:upd _ pc _=G6;revert G6;refine blk ?_;intro G6 hz;have gz:=Zi hz n_pc;have wz:=Zr hz;clear hz;have gg:=gg.trans gz;have aY:=gz _ _ aY;have e_u:=gz _ _ e_u;have BP:=gz _ _ BP;have BJ:=gz _ _ BJ;have dN:=gz _ _ dN;have gk:=gk.trans gz;refine⟨pc,rfl,⟨_,SqL.of wz⟩,?_⟩;refine Y6 (xs:=[.ref a,.ref b,.ref u]) (fun n ys H'=>H'=G6∧ys=([cnt ps (loK h j),cnt ps (hiK h j),cnt ps (upK h j)].take n).map V.int) ⟨rfl,rfl⟩ ?_ ?_ ?_
   ·rintro n ys H' _ ⟨rfl,_⟩;exact SqL.of wz
   ·rintro n x ys H' C hx ⟨rfl,rfl⟩ hC;obtain⟨o,ko,rfl,e_o,tk,n3⟩:∃(o:Addr)(ko:Int×Int),x=.ref o∧KAt H' o ko∧([cnt ps (loK h j),cnt ps (hiK h j),cnt ps (upK h j)].take (n+1)).map V.int=([cnt ps (loK h j),cnt ps (hiK h j),cnt ps (upK h j)].take n).map V.int++[V.int (cnt ps ko)]∧n<3:=by
     match n,hx with
     | 0,hx=>cases hx;exact⟨a,_,rfl,BP,rfl,by decide⟩
     | 1,hx=>cases hx;exact⟨b,_,rfl,BJ,rfl,by decide⟩
     | 2,hx=>cases hx;exact⟨u,_,rfl,e_u,rfl,by decide⟩
     |n+3,hx=>simp at hx
    refine⟨Zh (by rw[pi,yX];omega),Wk.refl _,?_⟩;refine⟨_,rfl,d,rfl,.inr ⟨_,.inl aY⟩,_,rfl,_,X9 aY e_o,?_⟩;rw[W7];exact hC _ _ ⟨rfl,tk.symm⟩
   rintro ys H' ⟨rfl,rfl⟩;refine⟨leN rfl,?_⟩;intro sl n_sl;generalize hz:upd _ sl _=G7;revert G7;refine blk ?_;intro G7 hz;have gz:=Zi hz n_sl;have wW:=Zr hz;clear hz;have gg:=gg.trans gz;have aY:=gz _ _ aY;have e_u:=gz _ _ e_u;have BP:=gz _ _ BP;have BJ:=gz _ _ BJ;have dN:=gz _ _ dN;have gk:=gk.trans gz;refine⟨sl,_,rfl,SqL.of wW,?_⟩;have ej:(List.take [V.ref a,V.ref b,V.ref u].length [cnt ps (loK h j),cnt ps (hiK h j),cnt ps (upK h j)]).sum=jn ps h j:=by
    show[cnt ps (loK h j),cnt ps (hiK h j),cnt ps (upK h j)].sum=_;unfold jn;rw[y4,y4,y4,List.sum_nil];omega
   rw[ej];clear ej wW;refine⟨_,rfl,_,rfl,_,_,rfl,rfl,_,rfl,Wp (fun c=>?_) (fun c=>?_)⟩
   ·have ft:Fst or bar ps h j:=by
     obtain⟨k,hk,k1,k2⟩:=(jm j).mp (yW hj);refine⟨?_,by omega,yJ c,fun k hk h1 h2=>?_⟩
     ·rcases Ri k with e | e
      ·rw[k1,k2]at e;exact .inl (by rw[←e];exact hk)
      ·rw[k1,k2]at e;exact .inr (by rw[←e];exact hk)
     ·rcases Int.lt_trichotomy h k.1 with z | z | z
      ·exact .inl z
      ·refine .inr ⟨z,?_⟩;obtain⟨m,hm⟩:=Aj ((jm (k.2 / 2)).mpr ⟨k,hk,z.symm,rfl⟩)
       rcases Nat.lt_trichotomy m n with y | y | y
       ·have:=bef2 m _ y hm;rw[z]at this;omega
       ·rw[y,hj]at hm;cases hm;exact y9 _
       ·exact nj jw hj hm y
      ·have:=bef k hk (by omega);omega
    have gd:Grw d H G7:=fun x w e=>by
     obtain⟨e1,e2⟩:=Za e;rw[Zj e1];exact gg _ _ e2
    clear bef bef2 hN hN2 jm jw hj;refine⟨⟨.inl rfl,.inl rfl,.inl rfl,.inl rfl,.inl rfl,.inl rfl,.inl rfl,.inl rfl,.inl rfl,.inr rfl,.inl rfl,trivial⟩,_,rfl,pr,rfl,⟨_,SqL.of dN⟩,?_⟩;refine Y6 (xs:=[.ref a,.ref b]) (fun n ys H'=>n≤2∧Same G7 H'∧∃as:List Addr,ys=as.map V.ref∧Paired (FT H') as (tjs ps h j n)) ⟨by decide,Same.refl _,[],rfl,.nil⟩ ?_ ?_ ?_
    ·rintro n ys H' _ ⟨_,g,_⟩;exact SqL.of (g _ _ dN)
    ·rintro n x ys H' C hx ⟨_,g,as,rfl,pf⟩ hC;obtain⟨o,ko,rfl,e_o,tk,n2⟩:∃(o:Addr)(ko:Int×Int),x=.ref o∧KAt H' o ko∧tjs ps h j (n+1)=tjs ps h j n++aK ps ko∧n<2:=by
      match n,hx with
      | 0,hx=>cases hx;exact⟨a,_,rfl,g _ _ BP,rfl,by decide⟩
      | 1,hx=>cases hx;exact⟨b,_,rfl,g _ _ BJ,rfl,by decide⟩
      |n+2,hx=>simp at hx
     have al:=yK pf;have tl:(tjs ps h j n).length≤n:=by
      match n,n2 with
      | 0,_=>exact yB _
      | 1,_=>show(aK ps (loK h j)).length≤1;unfold aK;split <;> simp
     rw[tk]at hC;generalize tjs ps h j n=ts at pf hC al tl;refine⟨Zh (by rw[pi];omega),Wk.refl _,?_⟩;refine⟨_,rfl,_,rfl,d,_,rfl,X9 (g _ _ aY) e_o,_,rfl,Wp (fun cc=>?_) (fun cc=>?_)⟩
     ·have kin:=Wo.mp cc;have et:aK ps ko=[(ko,cnt ps ko)]:=by unfold aK;rw[yC kin]
      rw[et]at hC;have gm:DGet H' d (.ref o) (some (.int (cnt ps ko))):=by rw[←W6 kin];exact X9 (g _ _ aY) e_o
      refine⟨_,rfl,_,rfl,_,rfl,d,_,rfl,gm,leN rfl,fun q nq=>hC _ _ ⟨n2,g.trans (Z5 nq _),as++[q],by rw[yR];rfl,Paired.snoc (Paired.mapP pf fun _ _ f=>Zz (Z5 nq _) f) ⟨o,Z3,Z5 nq _ _ _ e_o⟩⟩⟩
     ·have kin:ko∉ps.map (·.1):=fun z=>cc (Wo.mpr z);have et:aK ps ko=[]:=by unfold aK;rw[yA kin]
      rw[et,A8]at hC;exact hC _ _ ⟨n2,g,as,rfl,pf⟩
    rintro ys H' ⟨_,gs,as,rfl,pf⟩;have pf:Paired (FT H') as (flP ps h j):=pf;have al:=yK pf;have tl:=v6 ps h j;refine⟨Zf (by rw[pi];omega),fun T n_T=>⟨⟨.inl rfl,.inl rfl,.inl rfl,.inl rfl,.inl rfl,.inl rfl,.inl rfl,.inl rfl,.inl rfl,.inr rfl,.inl rfl,trivial⟩,?_⟩⟩;have sT:=Z5 n_T (.lst (as.map V.ref));have e_T:(upd H' T (.lst (as.map V.ref))) T=some (.lst (as.map V.ref)):=Z3;have nHT:H T=none:=gg.free (gs.free n_T);have pf:=Paired.mapP pf fun _ _ f=>Zz sT f;have gs:=gs.trans sT;generalize upd H' T (.lst (as.map V.ref))=G8 at pf gs e_T⊢;have bF:=gs _ _ aY;have e_u3:KAt G8 u (upK h j):=gs _ _ e_u;have gd:=gd.trans (Same.grw gs);have fnd:=xh ps h j;have fin:=xG ps h j;have fdr:=tT ps h j;dsimp only;refine V9 (fun σ' H'=>∃o9 o10:Option V,σ'=[some (.ref d),some (.int or),some (.int bar),some (.int h),some (.int j),some (.ref u),some (.ref pr),some (.int (jn ps h j)),some (.ref T),o9,o10]∧Grw d G8 H'∧H' d=some (.dT (ad (ay (ay ps (loK h j)) (hiK h j))))) ?_ ?_
    ·intro nx hnx;rw[←fdr]at hnx;generalize flP ps h j=fs at pf al tl fnd fin hnx;refine⟨_,rfl,T,rfl,⟨_,SqL.of e_T⟩,?_⟩;refine Yi (xs:=as.map V.ref) (fun n σ H'=>∃o9 o10:Option V,σ=[some (.ref d),some (.int or),some (.int bar),some (.int h),some (.int j),some (.ref u),some (.ref pr),some (.int (jn ps h j)),some (.ref T),o9,o10]∧Grw d G8 H'∧H' d=some (.dT (ad (cv ps (fs.take n))))) ⟨_,_,rfl,Grw.refl,bF⟩ ?_ ?_ ?_
     ·rintro n σ H' _ ⟨_,_,_,g,_⟩;exact SqL.of (g.lst bF e_T)
     ·rintro n x σ H' N3 B3 R3 hN3 hR3 hx ⟨o9,o10,rfl,g,mZ⟩;obtain⟨fa,p,rfl,hp,kb,vX,vg⟩:=Ue pf hx;have vX:=g.tup bF vX;have vg:=g.tup bF vg;refine⟨fa,_,rfl,SqT.of vX,rfl,_,_,rfl,_,_,rfl,rfl,?_⟩;have lk:ai (cv ps (fs.take n)) p.1=some (.int p.2):=by
       rw[Qn,yA fun z=>?_]
       ·exact fin p (yW hp)
       ·obtain⟨m,hm⟩:=Aj z;rw[yL,List.getElem?_take]at hm
        split at hm
        ·obtain⟨p',hp',e⟩:=y8.mp hm;have:=nj fnd (i:=m) (j:=n) (a:=p'.1) (b:=p.1) (by rw[yL,hp'];rfl) (by rw[yL,hp];rfl) (by assumption);exact this e
        ·cases hm
      refine⟨_,rfl,S4 mZ,_,rfl,d,kb,_,kk p.1,_,rfl,rfl,mZ,vg,lk,?_⟩;refine hN3 _ _ ⟨_,_,rfl,g.trans X8,?_⟩;rw[jg hp,jv];exact Z3
     ·rintro σ H' ⟨o9,o10,rfl,g,mZ⟩;rw[pi,al,yV]at mZ;exact hnx _ _ ⟨_,_,rfl,g,mZ⟩
    rintro σ' G9 ⟨o9,o10,rfl,g9,e_d9⟩;have dl:(ay (ay ps (loK h j)) (hiK h j)).length≤ps.length:=zE (P3 _ _) (P3 _ _);refine⟨_,rfl,_,rfl,_,rfl,d,_,rfl,DPut.t (k:=kk (upK h j)) e_d9 (g9.tup bF e_u3) (Zh (by rw[Zx];omega)),?_⟩;refine⟨_,rfl,hR2 _ _ (hR _ _ (hq1 h j T _ ft (gd.trans (g9.trans X8)) nHT ?_ ⟨as,?_,?_⟩))⟩
    ·unfold cz;rw[←T9];exact Z3
    ·exact Grw.lst (d:=d) (g9.trans X8) bF e_T
    ·exact Paired.mapP pf fun _ _ ⟨y,e1,e2⟩=>⟨y,Grw.tup (d:=d) (g9.trans X8) bF e1,Grw.tup (d:=d) (g9.trans X8) bF e2⟩
   ·refine hN2 _ _ ⟨_,_,_,_,_,_,_,rfl,g2.trans gk,fun m j' hm e=>?_⟩
    rcases Nat.lt_succ_iff_lt_or_eq.mp hm with z | z
    ·exact bef2 m j' z e
    ·rw[z,hj]at e;cases e;have:=Au (zY.mpr c);omega
  ·rintro σ H2 ⟨o4,o5,o6,o7,o8,o9,o10,rfl,g2,all2⟩;refine hN _ _ ⟨_,_,_,_,_,_,_,_,rfl,gg.trans g2,fun k hk z=>?_⟩
   rcases Bz k.1 h with y | y
   ·exact bef k hk (by omega)
   ·have kh:k.1=h:=by omega
    obtain⟨m,hm⟩:=Aj ((jm (k.2 / 2)).mpr ⟨k,hk,kh,rfl⟩);rw[kh];refine all2 m _ ?_ hm;rw[pi];exact(yI.mp hm).1
 ·rintro σ H2 ⟨o3,o4,o5,o6,o7,o8,o9,o10,rfl,g2,all⟩;refine⟨_,(Z7 (Zd (X2 Z1))),leN rfl,fun l nl=>hq0 l _ (fun k hk z=>all k hk (by omega)) (g2.trans (Z5 nl _)) (g2.free nl) Z3⟩
theorem FsAt.grw{d l:Addr}{H H':Hp}{kvs:List (List Key×V)}{fs:Sps}(g:Grw d H H')(ed:H d=some (.dT kvs))(h:FsAt H l fs):FsAt H' l fs:=by
 obtain⟨as,e,p⟩:=h;exact⟨as,Grw.lst (d:=d) g ed e,Paired.mapP p fun _ _ ⟨y,e1,e2⟩=>⟨y,Grw.tup (d:=d) g ed e1,Grw.tup (d:=d) g ed e2⟩⟩
def f7(p:(Int×Int)×Int):PyData:=.tuple [.tuple [.int p.1.1,.int p.1.2],.int p.2]
def ce(fs:Sps):List PyData:=fs.map f7
theorem xZ{H:Hp}{a:Addr}{p:(Int×Int)×Int}(h:FT H a p):DV H (.ref a) (f7 p):=by
 obtain⟨b,e1,e2⟩:=h;exact .tup e1 (.cons (.tup e2 (.cons (.int _) (.cons (.int _) .nil))) (.cons (.int _) .nil))
theorem pX{H:Hp}:∀{as:List Addr}{fs:Sps},Paired (FT H) as fs→DVs H (as.map V.ref) (ce fs)
 |_,_,.nil=>.nil
 |_,_,.cons e r=>.cons (xZ e) (pX r)
theorem nQ(p:(Int×Int)×Int):(f7 p).canLay0=true∧(f7 p).depth≤4:=by
 unfold f7;refine⟨?_,?_⟩
 ·simp[PyData.canLay0,PyData.canLayAll0]
 ·simp[PyData.depth,PyData.depthAll]
theorem l9(fs:Sps):(PyData.list (ce fs)).canLay0=true∧(PyData.list (ce fs)).depth≤5:=gR fs fun p _=>nQ p
theorem FsAt.dv{H:Hp}{l:Addr}{fs:Sps}(h:FsAt H l fs):DV H (.ref l) (.list (ce fs)):=by
 obtain⟨as,e,p⟩:=h;exact .lst e (pX p)
theorem kX:(PyData.list []).canLay0=true∧(PyData.list []).depth≤5:=⟨rfl,by decide⟩
theorem lY(fs:Sps):(ce fs).isEmpty=true↔fs=[]:=by
 unfold ce;cases fs <;> simp
def i9:Sp:=fun vs H Q _=>∃(d:Addr)(BE or:Int)(ps:Sps),vs=[.ref d,.int BE,.int or]∧H d=some (.dT (ad ps))∧Kok or (ps.map (·.1))∧1≤BE∧BE≤20∧0≤or∧or≤20∧ps.length<64∧
 ∀(t:Addr)(H':Hp)(fs qs:Sps),Grw d H H'→H t=none→H' d=some (.dT (ad qs))→FsAt H' t fs→fs.length≤1400→Stl or (ah ps / BE) ps fs qs→Kok or (qs.map (·.1))→qs.length≤ps.length→Q (.ref t) H'
theorem kE(ps:Sps):(ad ps).map (·.2)=(ps.map (·.2)).map V.int:=by
 unfold ad;rw[yQ,yQ];rfl
def muS(or:Int)(d:Addr)(σ:St)(H:Hp):Nat:=2*muD or d H+match List.getD σ 5 none with
 |some (V.ref l)=>(match H l with
  |some (HO.lst [])=>0
  |_=>1)
 |_=>1
theorem wn(or:Int)(d:Addr)(σ:St)(H:Hp):muS or d σ H≤2*muD or d H+1:=by
 unfold muS;refine Nat.add_le_add_left ?_ _
 split
 ·split <;> omega
 ·omega
theorem qD{or BE bar:Int}{d t l:Addr}{H:Hp}{ss:Sps}(h:FsAt H l ss)(n:ss≠[]):muS or d [some (V.ref d),some (V.int BE),some (V.int or),some (V.int bar),some (V.ref t),some (V.ref l)] H=2*muD or d H+1:=by
 obtain⟨as,e,p⟩:=h;unfold muS;show 2*muD or d H+(match H l with
  |some (HO.lst [])=>0
  |_=>1)=_
 rw[e];cases p with
 |nil=>exact absurd rfl n
 |cons _ _=>rfl
theorem nY{or BE bar:Int}{d t l:Addr}{H:Hp}(h:H l=some (.lst [])):muS or d [some (V.ref d),some (V.int BE),some (V.int or),some (V.int bar),some (V.ref t),some (V.ref l)] H=2*muD or d H:=by
 unfold muS;show 2*muD or d H+(match H l with
  |some (HO.lst [])=>0
  |_=>1)=_
 rw[h];rfl
theorem gY{α β:Type}{F:α→β→Prop}:∀{xs:List α}{ys:List β}{as:List α}{bs:List β},Paired F xs ys→Paired F as bs→Paired F (xs++as) (ys++bs)
 |_,_,_,_,.nil,h=>h
 |_,_,_,_,.cons e r,h=>.cons e (gY r h)
theorem kN{ps:Sps}{h j:Int}(i:loK h j∈ps.map (·.1)∨hiK h j∈ps.map (·.1)):flP ps h j≠[]:=fun z=>by
 have:=ii i;rw[z]at this;cases this
structure Lsg(H H':Hp)(d t l:Addr)(or bar:Int)(n0 M:Nat)(ps qs fs ss:Sps):Prop where
 g:Grw d H H'
 ed:H' d=some (.dT (ad qs))
 nt:H t=none
 et:FsAt H' t fs
 el:FsAt H' l ss
 ok:Kok or (qs.map (·.1))
 le:qs.length≤n0
 few:fs.length+ss.length+mea or (qs.map (·.1))≤M
 alt:(ss=[]∧Nof or bar qs∧Way or bar ps fs qs)∨(ss≠[]∧Way or bar ps (fs++ss) qs)
theorem tQ(aF:mg "sum"=none)(aJ:mg "list"=none)(b5:Has P w K mg base "_law_fold_once" 1 ["_law_now","_law_deep","_law_bar"] tY)(F:Fun K "_law_settle" "_law_settle" b9 f fd):FnOk P w K mg base CX0 2 f fd ["_law_now","_law_room","_law_deep"] i9:=by
 refine F.ok Xg (fun vs H Q E h=>?_) (fun cdv A outer s H vs Q E hr h=>?_)
 ·obtain⟨d,BE,or,ps,rfl,_⟩:=h;rfl
 obtain⟨d,BE,or,ps,rfl,e_d,kok,r0,r1,d0,d1,pl,hq⟩:=h;refine⟨_,(Z2 (Y0 3 Xg.nd rfl (Or.inl rfl) (Zb Wc (Zg (Xp rfl) rfl aF zU (Z0 (X1 (R1 rfl) rfl aJ AF (Z0 (Qb zX Ax PySem.F.type_dict_values Qg (pv 0)) Z1)) Z1)) (pv 1))) Ze),?_⟩;have gg:Same H H:=Same.refl _;refine⟨_,rfl,S4 e_d,d,_,rfl,rfl,e_d,?_⟩;intro v n_v;generalize hz:upd _ v _=H1;revert H1;refine blk ?_;intro H1 hz;have gz:=Zi hz n_v;have e_v:=Zr hz;clear hz;have gg:=gg.trans gz;have e_d:=gz _ _ e_d;refine⟨v,d,_,rfl,e_v,e_d,?_⟩;rw[kE];intro w2 n_w2;generalize hz:upd _ w2 _=H2;revert H2;refine blk ?_;intro H2 hz;have gz:=Zi hz n_w2;have xH:=Zr hz;clear hz;have gg:=gg.trans gz;have e_d:=gz _ _ e_d;refine⟨w2,_,rfl,SqL.of xH,_,rfl,_,_,rfl,rfl,⟨by omega,by omega⟩,?_⟩;show q9 _ _ _ [_,_,_,some (V.int (ah ps / BE)),_,_] _;generalize hbar:ah ps / BE=bar at hq⊢;refine⟨_,(Z2 (Y0 4 Xg.nd rfl (Or.inl rfl) (X2 Z1)) Ze),leN rfl,?_⟩;intro t n_t;generalize hz:upd _ t _=H3;revert H3;refine blk ?_;intro H3 hz;have gz:=Zi hz n_t;have BR:=Zr hz;clear hz;have gg:=gg.trans gz;have e_d:=gz _ _ e_d;have nt:H t=none:=(by assumption:Same H H2).free n_t;have m0:mea or (ps.map (·.1))≤21*ps.length:=by
  have:=pU d1 (ks:=ps.map (·.1)) fun k hk=>(kok.st k hk).1
  rwa [pi]at this
 have ft:FsAt H3 t []:=⟨[],BR,.nil⟩;clear e_v xH BR;refine⟨_,(Z2 (Y0 5 Xg.nd rfl (Or.inl rfl) (Z6 b5 hr (Z0 (pv 0) (Z0 (pv 2) (Z0 (pv 3) Z1))))) Ze),?_⟩;refine V9 (fun σ' H'=>∃(l:Addr)(qs ss:Sps),σ'=[some (.ref d),some (.int BE),some (.int or),some (.int bar),some (.ref t),some (.ref l)]∧Lsg H H' d t l or bar ps.length (mea or (ps.map (·.1))) ps qs [] ss) ?_ ?_
 ·intro nx hnx;refine⟨_,rfl,_,rfl,_,rfl,d,or,bar,ps,rfl,e_d,kok,d0,d1,pl,fun l H' nof g nl el=>hnx _ _ ⟨l,ps,[],rfl,⟨Same.grw (gg.trans g),g _ _ e_d,nt,ft.same g,⟨[],el,.nil⟩,kok,Nat.le_refl _,by simp,.inl ⟨rfl,nof,Way.refl⟩⟩⟩,fun h j l H' fst g nl ed fl=>hnx _ _ ⟨l,cz ps h j,flP ps h j,rfl,?_⟩⟩;have pm:=N7 kok.nd fst.in_;have so:=V7 (j:=j) kok fst.hd;exact⟨(Same.grw gg).trans g,ed,nt,ft.grw g e_d,fl,so.1.perm (pm.map _),by rw[pm.length_eq];exact so.2.2,by rw[Qk (pm.map _)];have:=so.2.1;rw[zZ];omega,.inr ⟨kN fst.in_,Way.refl.snoc fst pm⟩⟩
 clear ft e_d gg;rintro σ' H4 ⟨l,qs,ss,rfl,lg⟩;generalize hM:mea or (ps.map (·.1))=M at lg m0;refine⟨_,(Z2 (Q6 zl (Zn (Ua hr.units) (pv 5) (X2 Z1) (Zm _)) (Z2 (Y0 4 Xg.nd rfl (Or.inl rfl) (Zb eO (pv 4) (pv 5)))
 (Z7 (Y0 5 Xg.nd rfl (Or.inl rfl) (Z6 b5 hr (Z0 (pv 0) (Z0 (pv 2) (Z0 (pv 3) Z1)))))))) Ze),?_⟩
 refine Rp (fun σ H'=>∃(t l:Addr)(qs fs ss:Sps),σ=[some (.ref d),some (.int BE),some (.int or),some (.int bar),some (.ref t),some (.ref l)]∧Lsg H H' d t l or bar ps.length M ps qs fs ss) (muS or d) ⟨t,l,qs,[],ss,rfl,lg⟩ ?_ ?_
 ·clear nt n_t;rintro σ H5 ⟨t,l,qs,fs,ss,rfl,lg⟩;refine⟨_,rfl,leN rfl,fun p np=>?_⟩;have sp:=Z5 np (.lst []);have BK:(upd H5 p (.lst [])) p=some (.lst []):=Z3;have mu5:muD or d H5=mea or (qs.map (·.1)):=iz lg.ed;have ms:=qD (or:=or) (d:=d) (BE:=BE) (bar:=bar) (t:=t) lg.el;have g6:=lg.g.trans (Same.grw sp);have ed6:=sp _ _ lg.ed;have et6:=lg.et.same sp;have el6:=lg.el.same sp;have ok6:=lg.ok;have le6:=lg.le;have few6:=lg.few;have alt6:=lg.alt;have nt6:=lg.nt;generalize upd H5 p (.lst [])=H6 at BK g6 ed6 et6 el6⊢;refine⟨_,_,el6.dv,.lst BK .nil,Y3 (l9 ss) (by decide),Y3 kX (by decide),_,rfl,?_⟩;rw[kW]
  rcases alt6 with⟨rfl,nof,way⟩|⟨sn,way⟩
  ·refine Yz ⟨_,(Z7 (Zd (pv 4))),_,rfl,?_⟩;exact hq t _ fs qs g6 nt6 ed6 et6 (by omega) (way.done nof) ok6 le6
  ·have em:(ce ss).isEmpty=false:=zY.mpr fun z=>sn ((lY ss).mp z);rw[em];rw[mu5]at ms;have ms:=ms sn;obtain⟨as,BR,pt⟩:=et6;obtain⟨bs,BN,pb⟩:=el6;have al:=yK pt;have bl:=yK pb;refine Vv ⟨_,rfl,_,rfl,t,l,_,_,rfl,rfl,BR,BN,Zf (by rw[pi,pi];omega),fun u nu=>?_⟩;have su:=Z5 nu (.lst (as.map V.ref++bs.map V.ref));have fu:FsAt (upd H6 u (.lst (as.map V.ref++bs.map V.ref))) u (fs++ss):=⟨as++bs,by rw[yR];exact Z3,gY (Paired.mapP pt fun _ _ f=>Zz su f) (Paired.mapP pb fun _ _ f=>Zz su f)⟩;have nu6:H u=none:=by
    by_cases z:u=d
    ·rw[z,ed6]at nu;cases nu
    ·cases e:H u with
     |none=>rfl
     |some o=>
      have:=(Za (g6 u o (by rw[Zj z];exact e))).2;rw[this]at nu;cases nu
   have g6:=g6.trans (Same.grw su);have ed6:=su _ _ ed6;generalize upd H6 u (.lst (as.map V.ref++bs.map V.ref))=H7 at fu g6 ed6⊢;clear BR BN pt pb;refine⟨_,rfl,_,rfl,_,rfl,d,or,bar,qs,rfl,ed6,ok6,d0,d1,by omega,fun l' H' nof g nl el=>⟨⟨u,l',qs,fs++ss,[],rfl,⟨g6.trans (Same.grw g),g _ _ ed6,nu6,fu.same g,⟨[],el,.nil⟩,ok6,le6,by rw[yM,zZ];omega,.inl ⟨rfl,nof,way⟩⟩⟩,?_⟩,fun h j l' H' fst g nl ed fl=>⟨⟨u,l',cz qs h j,fs++ss,flP qs h j,rfl,?_⟩,?_⟩⟩
   ·have m1:muD or d H'=mea or (qs.map (·.1)):=iz (g _ _ ed6);have:=nY (or:=or) (d:=d) (BE:=BE) (bar:=bar) (t:=u) el;rw[m1]at this;show muS or d [some (V.ref d),some (V.int BE),some (V.int or),some (V.int bar),some (V.ref u),some (V.ref l')] H'<_;omega
   ·have pm:=N7 ok6.nd fst.in_;have so:=V7 (j:=j) ok6 fst.hd;exact⟨g6.trans g,ed,nu6,fu.grw g ed6,fl,so.1.perm (pm.map _),by rw[pm.length_eq];have:=so.2.2;omega,by rw[Qk (pm.map _),yM];have:=so.2.1;omega,.inr ⟨kN fst.in_,way.snoc fst pm⟩⟩
   ·have pm:=N7 ok6.nd fst.in_;have so:=V7 (j:=j) ok6 fst.hd;have fp:=ii fst.in_;have m1:muD or d H'=mea or ((cz qs h j).map (·.1)):=iz ed;rw[Qk (pm.map _)]at m1;have:=wn or d [some (V.ref d),some (V.int BE),some (V.int or),some (V.int bar),some (V.ref u),some (V.ref l')] H';show muS or d [some (V.ref d),some (V.int BE),some (V.int or),some (V.int bar),some (V.ref u),some (V.ref l')] H'<_;have:=so.2.1;omega
 ·rintro σ H' Q1 Q2 m ⟨v,e,lN,h⟩;exact⟨v,e,lN,fun p np=>let ⟨a,b,c1,c2,c3,c4,k,ek,r⟩:=h p np;⟨a,b,c1,c2,c3,c4,k,ek,m _ _ r⟩⟩
end K30
namespace Ld
open PySem L2
structure Pok(or:Int)(ps:Sps):Prop where
 kok:Kok or (ps.map (·.1))
 pos:∀p∈ps,1≤p.2
theorem Pok.perm{or:Int}{ps qs:Sps}(h:Pok or ps)(p:qs.Perm ps):Pok or qs:=⟨h.kok.perm (p.map _),fun x hx=>h.pos x (p.mem_iff.mp hx)⟩
theorem r_{or:Int}:Pok or []:=⟨⟨zA,fun _ h=>nomatch h⟩,fun _ h=>nomatch h⟩
theorem Ut{or:Int}{ps:Sps}(h:Pok or ps)(k:Int×Int):0≤cnt ps k:=by
 by_cases hk:k∈ps.map (·.1)
 ·obtain⟨p,hp,rfl⟩:=yz.mp hk;rw[Yh h.kok.nd hp];have:=h.pos p hp;omega
 ·rw[Y2 hk];exact y9 _
theorem jy{or:Int}{ps:Sps}(h:Pok or ps){k:Int×Int}(hk:k∈ps.map (·.1)):1≤cnt ps k:=by
 obtain⟨p,hp,rfl⟩:=yz.mp hk;rw[Yh h.kok.nd hp];exact h.pos p hp
theorem j3{or:Int}{ps:Sps}{k:Int×Int}{n:Int}(h:Pok or ps)(hk:0≤k.1∧k.1≤or∧0≤k.2∧k.2<2^(or-k.1).toNat)(hn:1≤n):Pok or (ao ps k n):=by
 refine⟨⟨Yo h.kok.nd,fun x hx=>?_⟩,fun p hp=>?_⟩
 ·rw[W4]at hx
  split at hx
  ·exact h.kok.st x hx
  ·rcases zk.mp hx with hx | hx
   ·exact h.kok.st x hx
   ·rw[yG.mp hx];exact hk
 ·unfold ao at hp
  split at hp
  ·obtain⟨q,hq,rfl⟩:=yz.mp hp
   split
   ·exact hn
   ·exact h.pos q hq
  ·rcases zk.mp hp with hp | hp
   ·exact h.pos p hp
   ·rw[yG.mp hp];exact hn
theorem nX{or:Int}{ps:Sps}{h j:Int}(o:Pok or ps)(i:loK h j∈ps.map (·.1)∨hiK h j∈ps.map (·.1))(hd:h<or):Pok or (ba ps h j):=by
 have so:=V7 (j:=j) o.kok hd;refine⟨so.1,fun p hp=>?_⟩;have e:=Wu so.1.nd hp;rw[Vt i]at e
 split at e
 ·cases e
 ·split at e
  ·injection e with e
   injection e with e
   rw[←e];unfold jn;have a:=Ut o (loK h j);have b:=Ut o (hiK h j);have c:=Ut o (upK h j)
   rcases i with i | i
   ·have:=jy o i;omega
   ·have:=jy o i;omega
  ·exact o.pos p ((Qi o.kok.nd).mpr e)
theorem qV{or bar:Int}{ps fs BH:Sps}(s:Stl or bar ps fs BH):Pok or ps→Pok or BH∧BH.length≤ps.length:=by
 induction s with
 |done n=>exact fun o=>⟨o,yB _⟩
 |step f p1 s ih=>
  intro o;have q:=nX o f.in_ f.hd;have z:=ih (q.perm p1);exact⟨z.1,zE z.2 (by rw[p1.length_eq];exact(V7 o.kok f.hd).2.2)⟩
theorem qf{or bar:Int}{ps fs BH qs:Sps}(s:Stl or bar ps fs BH)(p:ps.Perm qs)(nd:(ps.map (·.1)).Nodup):∃qs',Stl or bar qs fs qs'∧qs'.Perm BH:=by
 cases s with
 |done n=>exact⟨qs,.done (Qe n p nd),p.symm⟩
 |step f p1 s=>exact⟨BH,by rw[jG p nd];exact .step (f.perm p nd) (p1.trans (Py p nd f.in_)) s,.refl _⟩
theorem pM{or bar:Int}{ps:Sps}:Nof or bar ps∨∃h j,Fst or bar ps h j:=by
 by_cases n:Nof or bar ps
 ·exact .inl n
 refine .inr ?_;have go:∀l:List (Int×Int),l.Pairwise (fun a b=>leK a b=true)→(∀k∈l,k∈ps.map (·.1))→(∃k∈l,k.1<or∧jn ps k.1 (k.2 / 2)≤bar)→∃k∈l,k.1<or∧jn ps k.1 (k.2 / 2)≤bar∧∀k'∈l,k'.1<or→jn ps k'.1 (k'.2 / 2)≤bar→k.1<k'.1∨(k.1=k'.1∧k.2 / 2≤k'.2 / 2):=by
  intro l
  induction l with
  |nil=>rintro _ _ ⟨k,hk,_⟩;cases hk
  |cons x l ih=>
   intro pw sub ex;rw[ze]at pw;by_cases c:x.1<or∧jn ps x.1 (x.2 / 2)≤bar
   ·refine⟨x,.head _,c.1,c.2,fun k' hk' _ _=>?_⟩
    rcases yO.mp hk' with e | hk'
    ·rw[e];exact .inr ⟨rfl,y9 _⟩
    ·rcases Wv.mp (pw.1 k' hk')with h | ⟨h,g⟩
     ·exact .inl h
     ·exact .inr ⟨h,by omega⟩
   ·obtain⟨k,hk,h1,h2⟩:=ex;have hk:k∈l:=(yO.mp hk).resolve_left fun e=>c (by rw[←e];exact⟨h1,h2⟩);obtain⟨k0,m,a1,a2,a3⟩:=ih pw.2 (fun z hz=>sub z (.tail _ hz)) ⟨k,hk,h1,h2⟩;refine⟨k0,.tail _ m,a1,a2,fun k' hk' b1 b2=>?_⟩
    rcases yO.mp hk' with e | hk'
    ·exact absurd (by rw[←e];exact⟨b1,b2⟩) c
    ·exact a3 k' hk' b1 b2
 have mk:∀k,k∈bm (ps.map (·.1))↔k∈ps.map (·.1):=fun k=>(X0 _).mem_iff;obtain⟨k,hk⟩:=Classical.not_forall.mp n;obtain⟨hk1,hk⟩:=Classical.not_imp.mp hk;obtain⟨hk2,hk⟩:=Classical.not_imp.mp hk;obtain⟨k0,m,a1,a2,a3⟩:=go (bm (ps.map (·.1))) (R9 _) (fun k h=>(mk k).mp h) ⟨k,(mk k).mpr hk1,hk2,by omega⟩;refine⟨k0.1,k0.2 / 2,?_,a1,a2,fun k' h1 h2 h3=>a3 k' ((mk k').mpr h1) h2 h3⟩
 rcases Ri k0 with e | e
 ·exact .inl (by rw[←e];exact(mk k0).mp m)
 ·exact .inr (by rw[←e];exact(mk k0).mp m)
theorem pJ{or bar:Int}:∀(n:Nat)(ps:Sps),mea or (ps.map (·.1))≤n→Kok or (ps.map (·.1))→∃fs BH,Stl or bar ps fs BH
 |n,ps,hn,o=>by
  rcases pM (or:=or) (bar:=bar) (ps:=ps)with z | ⟨h,j,f⟩
  ·exact⟨[],ps,.done z⟩
  ·have so:=V7 (j:=j) o f.hd;have fp:=ii f.in_
   match n,hn with
   | 0,hn=>omega
   |n+1,hn=>
    obtain⟨fs,BH,s⟩:=pJ n (ba ps h j) (by omega) so.1;exact⟨_,_,.step f (.refl _) s⟩
def c9(or bar:Int)(ps:Sps):Sps:=au (Classical.epsilon fun BH=>∃fs,Stl or bar ps fs BH)
def wP(or bar:Int)(ps:Sps):Sps:=Classical.epsilon fun fs=>∃BH,Stl or bar ps fs BH
theorem eM{or bar:Int}{ps fs BH:Sps}(s:Stl or bar ps fs BH)(nd:(ps.map (·.1)).Nodup):c9 or bar ps=au BH∧wP or bar ps=fs:=by
 refine⟨?_,?_⟩
 ·obtain⟨gs,t⟩:=Classical.epsilon_spec (p:=fun BH=>∃fs,Stl or bar ps fs BH) ⟨BH,fs,s⟩;exact Rw (kK t s (.refl _) nd).2
 ·obtain⟨qs,t⟩:=Classical.epsilon_spec (p:=fun fs=>∃BH,Stl or bar ps fs BH) ⟨fs,BH,s⟩;exact(kK t s (.refl _) nd).1
theorem qO{or bar:Int}{ps qs fs qs':Sps}(s:Stl or bar qs fs qs')(p:qs.Perm ps)(nd:(qs.map (·.1)).Nodup):c9 or bar ps=au qs'∧wP or bar ps=fs:=by
 obtain⟨BH,t,p'⟩:=qf s p nd;have:=eM t ((p.map _).nodup_iff.mp nd);exact⟨this.1.trans (Rw p'),this.2⟩
theorem iO(ps:Sps):au (au ps)=au ps:=Rw (Y5 ps)
theorem T5{or bar:Int}{ps:Sps}(o:Pok or ps):Pok or (c9 or bar ps)∧au (c9 or bar ps)=c9 or bar ps∧Nof or bar (c9 or bar ps)∧ah (c9 or bar ps)=ah ps∧(c9 or bar ps).length≤ps.length:=by
 obtain⟨fs,BH,s⟩:=pJ (or:=or) (bar:=bar) _ ps (yB _) o.kok;have e:=(eM s o.kok.nd).1;have f:=sC s o.kok.nd;have g:=qV s o;rw[e];refine⟨g.1.perm (Y5 BH),iO BH,Qe f.2.1 (Y5 BH).symm f.1,by rw[V6 (Y5 BH)];exact f.2.2,by rw[(Y5 BH).length_eq];exact g.2⟩
def aD(xs ys:Sps):Sps:=ys.foldl (fun a p=>ao a p.1 (cnt a p.1+p.2)) xs
theorem P8(xs ys:Sps)(p:(Int×Int)×Int):aD xs (ys++[p])=ao (aD xs ys) p.1 (cnt (aD xs ys) p.1+p.2):=by
 unfold aD;rw[List.foldl_append];rfl
theorem Vi(xs ys:Sps)(p:(Int×Int)×Int):aD xs (p::ys)=aD (ao xs p.1 (cnt xs p.1+p.2)) ys:=rfl
theorem Ti:∀{ys xs:Sps},(xs.map (·.1)).Nodup→((aD xs ys).map (·.1)).Nodup
 | [],_,h=>h
 |_::ys,_,h=>Ti (ys:=ys) (Yo h)
theorem Uv:∀(ys xs:Sps),(aD xs ys).length≤xs.length+ys.length
 | [],xs=>yB _
 |p::ys,xs=>by
  have a:=Uv ys (ao xs p.1 (cnt xs p.1+p.2));have b:=W9 xs p.1 (cnt xs p.1+p.2);rw[Vi,zu];omega
theorem eN:∀{ys xs:Sps},(xs.map (·.1)).Nodup→ah (aD xs ys)=ah xs+ah ys
 | [],xs,_=>by
  show ah xs=ah xs+0;omega
 |p::ys,xs,h=>by
  rw[Vi,eN (Yo h),N4 h];unfold ah;rw[yD,y4];omega
theorem Ro{or:Int}:∀{ys xs:Sps},Pok or xs→(∀p∈ys,1≤p.2∧0≤p.1.1∧p.1.1≤or∧0≤p.1.2∧p.1.2<2^(or-p.1.1).toNat)→Pok or (aD xs ys)
 | [],_,h,_=>h
 |p::ys,xs,h,g=>by
  have gp:=g p (.head _);have:=Ut h p.1;exact Ro (ys:=ys) (j3 h gp.2 (by omega)) fun q hq=>g q (.tail _ hq)
theorem Pok.each{or:Int}{ys:Sps}(h:Pok or ys):∀p∈ys,1≤p.2∧0≤p.1.1∧p.1.1≤or∧0≤p.1.2∧p.1.2<2^(or-p.1.1).toNat:=fun p hp=>⟨h.pos p hp,h.kok.st p.1 (yz.mpr ⟨p,hp,rfl⟩)⟩
theorem Qo:∀{ys xs:Sps}(k:Int×Int),(ys.map (·.1)).Nodup→ai (aD xs ys) k=if k∈ys.map (·.1)then some (.int (cnt xs k+cnt ys k))else ai xs k
 | [],xs,k,_=>by
  rw[Bv,yA zw];rfl
 |p::ys,xs,k,nd=>by
  rw[yD,y7]at nd;rw[Vi,Qo k nd.2,yD];have cp:cnt (p::ys) k=if p.1=k then p.2 else cnt ys k:=by
   unfold cnt;rw[Yt]
   split <;> rename_i e
   ·split at e <;> rename_i z
    ·rw[yC z];injection e with e;injection e with e;exact e.symm
    ·rw[yA z,e]
   ·split at e <;> rename_i z
    ·exact absurd rfl (e p.2)
    ·rw[yA z]
     split
     ·rename_i n q;exact absurd q (e n)
     ·rfl
  by_cases e:p.1=k
  ·have hk:k∉ys.map (·.1):=by rw[←e];exact nd.1
   rw[yA hk,Xa,yC e.symm,yC (show k∈p.1::ys.map (·.1) by rw[e];exact .head _),cp,yC e,e]
  ·rw[cp,yA e];by_cases hk:k∈ys.map (·.1)
   ·rw[yC hk,yC (zC _ hk),X4,yA (Ne.symm e)]
   ·rw[yA hk,yA (fun q=>(yO.mp q).elim (fun z=>e z.symm) hk),Xa,yA (Ne.symm e)]
theorem oz{xs ys us vs:Sps}(p:xs.Perm us)(q:ys.Perm vs)(nx:(xs.map (·.1)).Nodup)(ny:(ys.map (·.1)).Nodup):(aD xs ys).Perm (aD us vs):=by
 have nu:=(p.map (·.1)).nodup_iff.mp nx;have nv:=(q.map (·.1)).nodup_iff.mp ny;refine Vd (Ti nx) (Ti nu) fun k=>?_;rw[Qo k ny,Qo k nv,Xj p nx k,Sm (Xj p nx k),Sm (Xj q ny k)];by_cases hy:k∈ys.map (·.1)
 ·rw[yC hy,yC ((q.map _).mem_iff.mp hy)]
 ·rw[yA hy,yA fun z=>hy ((q.map _).mem_iff.mpr z)]
def cg(BE or:Int)(xs ys:Sps):Sps:=c9 or (ah (aD xs ys) / BE) (aD xs ys)
structure Lok(BE or:Int)(xs:Sps):Prop where
 pok:Pok or xs
 srt:au xs=xs
 nof:Nof or (ah xs / BE) xs
theorem rS{BE or:Int}:Lok BE or []:=⟨r_,by unfold au;simp,fun _ h=>nomatch h⟩
theorem gW{BE or:Int}{ps:Sps}(o:Pok or ps):Lok BE or (c9 or (ah ps / BE) ps):=by
 obtain⟨a,b,c,d,_⟩:=T5 (bar:=ah ps / BE) o;exact⟨a,b,by rw[d];exact c⟩
theorem j8{BE or:Int}{xs ys:Sps}(hx:Pok or xs)(hy:Pok or ys):Lok BE or (cg BE or xs ys)∧ah (cg BE or xs ys)=ah xs+ah ys∧(cg BE or xs ys).length≤xs.length+ys.length:=by
 have o:=Ro hx hy.each;obtain⟨a,b,c,d,e⟩:=T5 (bar:=ah (aD xs ys) / BE) o;exact⟨gW o,by unfold cg;rw[d,eN hx.kok.nd],zE e (Uv ys xs)⟩
def thL(BE or:Int)(t:Th):Sps:=c9 or (t.many / BE) [((0,t.num),t.many)]
def de(BE or:Int)(ts:List Th):Sps:=ts.foldl (fun a t=>cg BE or a (thL BE or t)) []
def ThL(or:Int)(t:Th):Prop:=0≤t.num∧t.num<2^or.toNat∧1≤t.many
theorem jL{or:Int}{t:Th}(d0:0≤or)(h:ThL or t):Pok or [((0,t.num),t.many)]:=by
 refine⟨⟨y7.mpr ⟨zw,zA⟩,fun k hk=>?_⟩,fun p hp=>?_⟩
 ·have e:k=(0,t.num):=yG.mp hk;rw[e];refine⟨y9 _,d0,h.1,?_⟩;show t.num<2^(or-0).toNat;rw[Int.sub_zero];exact h.2.1
 ·rw[yG.mp hp];exact h.2.2
theorem j1(t:Th):ah [((0,t.num),t.many)]=t.many:=by
 show t.many+0=t.many;omega
theorem oJ{BE or:Int}{t:Th}(d0:0≤or)(h:ThL or t):Lok BE or (thL BE or t)∧ah (thL BE or t)=t.many∧(thL BE or t).length≤1:=by
 have o:=jL d0 h;have l:=gW (BE:=BE) o;obtain⟨a,b,c,d,e⟩:=T5 (bar:=t.many / BE) o;rw[j1]at l d;exact⟨l,d,e⟩
theorem mC(BE or:Int)(ts:List Th)(t:Th):de BE or (ts++[t])=cg BE or (de BE or ts) (thL BE or t):=by
 unfold de;rw[List.foldl_append];rfl
def aT(ts:List Th):Int:=(ts.map (·.many)).sum
theorem jN{BE or:Int}(d0:0≤or):∀(ts:List Th)(a:Sps),Lok BE or a→(∀t∈ts,ThL or t)→Lok BE or (ts.foldl (fun a t=>cg BE or a (thL BE or t)) a)∧ah (ts.foldl (fun a t=>cg BE or a (thL BE or t)) a)=ah a+aT ts∧(ts.foldl (fun a t=>cg BE or a (thL BE or t)) a).length≤a.length+ts.length
 | [],a,ha,_=>⟨ha,by show ah a=ah a+0;omega,yB _⟩
 |t::ts,a,ha,h=>by
  have ht:=oJ (BE:=BE) d0 (h t (.head _));have m:=j8 (BE:=BE) ha.pok ht.1.pok;obtain⟨i1,i2,i3⟩:=jN d0 ts _ m.1 fun x hx=>h x (.tail _ hx);refine⟨i1,?_,?_⟩
  ·rw[List.foldl_cons,i2,m.2.1,ht.2.1];unfold aT;rw[yD,y4];omega
  ·rw[List.foldl_cons,zu];have:=m.2.2;have:=ht.2.2;omega
theorem jX{BE or:Int}(d0:0≤or){ts:List Th}(h:∀t∈ts,ThL or t):Lok BE or (de BE or ts)∧ah (de BE or ts)=aT ts∧(de BE or ts).length≤ts.length:=by
 obtain⟨a,b,c⟩:=jN (BE:=BE) d0 ts [] rS h;refine⟨a,?_,?_⟩
 ·show ah (ts.foldl _ [])=_;rw[b];show(0:Int)+aT ts=aT ts;omega
 ·show(ts.foldl _ []).length≤_;rw[zZ,BA]at c;exact c
end Ld
namespace K30
open PySem L2 Ld
theorem vw{or h oh oi t:Int}(h0:0≤h)(h1:h≤oh)(h2:oh≤or)(i0:0≤oi)(i1:oi<2^(or-oh).toNat)(t0:0≤t)(t1:t<2^(oh-h).toNat):0≤oi*2^(oh-h).toNat+t∧oi*2^(oh-h).toNat+t<2^(or-h).toNat:=by
 have e:(or-h).toNat=(or-oh).toNat+(oh-h).toNat:=by omega
 have p:(0:Int)<2^(oh-h).toNat:=by
  have a3:((2^(oh-h).toNat:Nat):Int)=(2:Int)^(oh-h).toNat:=by push_cast;rfl
  have a2:0<(2:Nat)^(oh-h).toNat:=Nat.pow_pos (by decide);rw[←a3];omega
 rw[e,Int.pow_add];have q1:0≤oi*2^(oh-h).toNat:=Bj i0 (by omega);have q2:(oi+1)*2^(oh-h).toNat≤2^(or-oh).toNat*2^(oh-h).toNat:=Ad (by omega) (by omega);rw[AX,z5]at q2;omega
theorem wp{K:W.Frag}{S:Addr}{ns:List Int}{H:Hp}{a d:Addr}{kvs:List (List Key×V)}{o:HO}(h:Pn K S ns H a)(e:H d=some (.dT kvs)):Pn K S ns (upd H d o) a:=by
 obtain⟨⟨i,r,ea⟩,s,f⟩:=h;refine⟨⟨i,r,by rw[Zc (U1 ea e (by intro z;cases z))];exact ea⟩,?_,f⟩
 rcases s with(s | ⟨u,s⟩) | s
 ·exact .inl (.inl (by rw[Zc (U1 s e (by intro z;cases z))];exact s))
 ·exact .inl (.inr ⟨u,by rw[Zc (U1 s e (by intro z;cases z))];exact s⟩)
 ·exact .inr s
def fj(K:W.Frag):Sp:=fun vs H Q _=>∃(a S:Addr)(ns:List Int)(or most:Int),vs=[.ref a,.int or,.int most]∧Pn K S ns H a∧1≤or∧or≤10∧0≤most∧most≤60∧∀(d:Addr)(H':Hp)(ps:Sps),H d=none→aw a H' d=some (.dT (ad ps))→Pok or ps→ps.length≤60→Pn K S ns H' a→Grw a H H'→Q (.ref d) H'
def iE(K:W.Frag):Sp:=fun vs H Q _=>∃(a S:Addr)(ns:List Int),vs=[.ref a]∧Pn K S ns H a∧∀(n:Int)(H':Hp),1≤n→Pn K S ns H' a→Grw a H H'→Q (.int n) H'
def jE(K:W.Frag):Sp:=fun vs H Q _=>∃(a S:Addr)(ns:List Int),vs=[.ref a]∧Pn K S ns H a∧∀(l:Addr)(BE or:Int)(H':Hp),aw a H' l=some (.lst [.int BE,.int or])→1≤BE→BE≤20→1≤or→or≤10→Pn K S ns H' a→Grw a H H'→Q (.ref l) H'
def ue:Sp:=fun vs H Q _=>∃(d:Addr)(BE or:Int)(ps:Sps),vs=[.ref d,.int BE,.int or]∧H d=some (.dT (ad ps))∧ps.length<64∧∀(r:Addr)(H':Hp),Same H H'→LadAt H' r BE or (ah ps) (au ps)→Q (.ref r) H'
variable{P:Program}{w:World}{K:W.Frag}{mg:Str→Option Value}{base:Heap}{f:Addr}{fd:FuncData}
theorem m8(af:Has P w K mg base "_law_take" 1 ["_law_pen_here","_law_most"] (bL K))(F:Fun K "_law_sizes" "_law_sizes" cI f fd):FnOk P w K mg base CX0 2 f fd ["_law_pen_here"] (jE K):=by
 refine F.ok Q4 (fun vs H Q E h=>?_) (fun cdv A outer s H vs Q E hr h=>?_)
 ·obtain⟨a,S,ns,rfl,_⟩:=h;rfl
 obtain⟨a,S,ns,rfl,hp,hq⟩:=h;refine⟨_,(Z2 (Y0 1 Q4.nd rfl (Or.inl rfl) (Yc Yx (X2 (Z0 Z4 (Z0 Z4 (Z0 Z4 (Z0 Z4 (Z0 Z4 (Z0 Z4 (Z0 Z4 (Z0 (Zb Zs Z4 (Z6 af hr (Z0 (pv 0) (Z0 Z4 Z1)))) Z1))))))))) (Z6 af hr (Z0 (pv 0) (Z0 Z4 Z1)))))
 (Z7 (Zd (X2 (Z0 (pv 1) (Z0 (Zb Zs Z4 (Z6 af hr (Z0 (pv 0) (Z0 (Yc Yx (X2 (Z0 Z4 (Z0 Z4 (Z0 Z4 Z1)))) (Z6 af hr (Z0 (pv 0) (Z0 Z4 Z1)))) Z1)))) Z1)))))),?_⟩
 refine⟨_,rfl,a,S,ns,20,rfl,hp,Vp rfl,ltI rfl,fun d1 H1 x0 x1 hp1 g1=>⟨_,_,rfl,rfl,leN rfl,fun p np=>?_⟩⟩;have x1:d1<20:=x1;have g2:=hp1.grw (Z5 np (.lst [.int 1,.int 2,.int 3,.int 4,.int 5,.int 8,.int 20,.int (1+d1)]));have pa:=hp1.ne np;have hp2:=hp1.laid (o:=.lst [.int 1,.int 2,.int 3,.int 4,.int 5,.int 8,.int 20,.int (1+d1)]) np;have BK:aw a (upd H1 p (.lst [.int 1,.int 2,.int 3,.int 4,.int 5,.int 8,.int 20,.int (1+d1)])) p=some (.lst [.int 1,.int 2,.int 3,.int 4,.int 5,.int 8,.int 20,.int (1+d1)]):=by rw[Zj pa];exact Z3
 refine⟨_,rfl,a,S,ns,8,rfl,hp2,Vp rfl,ltI rfl,fun d2 H3 y0 y1 hp3 g3=>?_⟩;have BK:=g3 _ _ BK;obtain⟨v,hv,mv⟩:=lq (d:=d2) (Za BK).2 y0 y1;obtain⟨BE,rfl,r0,r1⟩:∃z:Int,v=.int z∧1≤z∧z≤20:=by
  simp only[List.mem_cons,List.not_mem_nil,or_false]at mv
  rcases mv with rfl | rfl | rfl | rfl | rfl | rfl | rfl | rfl
  all_goals first | exact⟨_,rfl,by decide,by decide⟩ | exact⟨_,rfl,by omega,by omega⟩
 refine⟨p,_,_,_,rfl,rfl,V4 BK,hv,?_⟩;refine⟨_,rfl,_,rfl,leN rfl,fun u nu=>?_⟩;have ua:=hp3.ne nu;have e_u:aw a (upd H3 u (.lst [.int 3,.int 5,.int 10])) u=some (.lst [.int 3,.int 5,.int 10]):=by rw[Zj ua];exact Z3
 refine⟨_,rfl,a,S,ns,3,rfl,hp3.laid nu,Vp rfl,ltI rfl,fun d3 H4 z0 z1 hp4 g4=>?_⟩;have e_u:=g4 _ _ e_u;obtain⟨v,hv,mv⟩:=lq (d:=d3) (Za e_u).2 z0 z1;obtain⟨z,rfl,q0,q1⟩:∃z:Int,v=.int z∧0<z∧z≤10:=by
  simp only[List.mem_cons,List.not_mem_nil,or_false]at mv
  rcases mv with rfl | rfl | rfl <;> exact⟨_,rfl,by decide,by decide⟩
 refine⟨u,_,_,_,rfl,rfl,V4 e_u,hv,a,S,ns,z,rfl,hp4,q0,by omega,fun d4 H5 w0 w1 hp5 g5=>⟨_,_,rfl,rfl,leN rfl,fun l nl=>?_⟩⟩;exact hq l BE (1+d4) _ (by rw[Zj (hp5.ne nl)];exact Z3) r0 r1 (by omega) (by omega) (hp5.laid nl) (g1.trans (g2.trans (g3.trans ((hp3.grw (Z5 nu _)).trans (g4.trans (g5.trans (hp5.grw (Z5 nl _))))))))
theorem lT(av:mg "range"=none)(cy:mg "int"=none)(aj:mg "sorted"=none)(aM:mg "len"=none)(dF:mg "min"=none)(af:Has P w K mg base "_law_take" 1 ["_law_pen_here","_law_most"] (bL K))(dA:Has P w K mg base "_law_many" 2 ["_law_pen_here"] (iE K))(F:Fun K "_law_counts" "_law_counts" cf f fd):FnOk P w K mg base CX0 3 f fd ["_law_pen_here","_law_deep","_law_most"] (fj K):=by
 refine F.ok Yk (fun vs H Q E h=>?_) (fun cdv A outer s H vs Q E hr h=>?_)
 ·obtain⟨a,S,ns,or,most,rfl,_⟩:=h;rfl
 obtain⟨a,S,ns,or,most,rfl,hp,d0,d1,m0,m1,hq⟩:=h;refine⟨_,(Z2 (Y0 3 Yk.nd rfl (Or.inl rfl) Qa) Ze),fun d n_d=>?_⟩;have nHd:aw a H d=none:=by
  by_cases z:d=a
  ·unfold aw;rw[yC z]
  ·rw[Zj z];exact n_d
 have gg:=hp.grw (Z5 n_d (.dT []));have e_d:aw a (upd H d (.dT [])) d=some (.dT (ad [])):=by rw[Zj (hp.ne n_d)];exact Z3
 have hp:=hp.laid (o:=.dT []) n_d;generalize upd H d (.dT [])=H1 at gg e_d hp⊢;refine⟨_,(Z2 (Yr zl rfl (Xh rfl av (Z0 (Z6 af hr (Z0 (pv 0) (Z0 (Zb Zs (pv 2) Z4) Z1))) Z1)) (Z8 (i:=4) Yk.nd rfl (Or.inl rfl))
 (Z2 (Y0 5 Yk.nd rfl (Or.inl rfl) (Zb X5 (Z6 af hr (Z0 (pv 0) (Z0 (Zb Zs (pv 1) Z4) Z1))) (X1 l4 rfl cy PyProof.Rows.boot_int (Z0 (Um Tv (Z6 af hr (Z0 (pv 0) (Z0 Z4 Z1))) Z4 (Zm _)) Z1))))
 (Z2 (Y0 6 Yk.nd rfl (Or.inl rfl) (Z6 af hr (Z0 (pv 0) (Z0 (Zb Sd Z4 (Zb Xx (pv 1) (pv 5))) Z1))))
 (Z2 (Yu (PW.pt (iN (Zn (tP (A6 (Nat.le_add_right _ _) hr.units)) (pv 3) Qa (Zm _)) (ez (Zn Tv (Z6 af hr (Z0 (pv 0) (Z0 Z4 Z1))) Z4 (Zm _))))) (Z2 (Y0 7 Yk.nd rfl (Or.inl rfl) (Zg (Wx rfl hr.units) rfl aj zK (Z0 (pv 3) Z1)))
 (Z2 (Y0 8 Yk.nd rfl (Or.inl rfl) (Yc Yx (pv 7) (Z6 af hr (Z0 (pv 0) (Z0 (Zg Y7 rfl aM An (Z0 (pv 7) Z1)) Z1)))))
 (Z2 (Y0 5 Yk.nd rfl (Or.inl rfl) (Zg (Op rfl) rfl dF PyProof.Rows.boot_min (Z0 (pv 5) (Z0 (Yc Y9 (pv 8) Z4) Z1))))
 (Z7 (Y0 6 Yk.nd rfl (Or.inl rfl) (Zb Zs (Zb Sd (Yc Y9 (pv 8) Z4) (Zb Xx (Yc Y9 (pv 8) Z4) (pv 5))) (Z6 af hr (Z0 (pv 0) (Z0 (Zb Sd Z4 (Zb Xx (Yc Y9 (pv 8) Z4) (pv 5))) Z1))))))))) Zw)
 (Z7 (Wr (X3 hr) (pv 3) (Zu (Z0 (pv 5) (Z0 (pv 6) Z1))) (Z6 dA hr (Z0 (pv 0) Z1)) rfl)))))) Ze),?_⟩
 refine⟨_,rfl,_,rfl,_,_,rfl,rfl,a,S,ns,_,rfl,hp,by omega,by omega,fun t H2 t0 t1 hp gz=>⟨t,rfl,by omega,by omega,?_⟩⟩;have gg:=gg.trans gz;have e_d:=gz _ _ e_d;refine Xe (lo:=0) (n:=t.toNat) (fun i σ H'=>∃(o4 o5 o6 o7 o8:Option V)(ps:Sps),σ=[some (.ref a),some (.int or),some (.int most),some (.ref d),o4,o5,o6,o7,o8]∧Pn K S ns H' a∧Grw a H H'∧aw a H' d=some (.dT (ad ps))∧Pok or ps∧ps.length≤i) ⟨_,_,_,_,_,[],rfl,hp,gg,e_d,⟨⟨zA,fun _ h=>nomatch h⟩,fun _ h=>nomatch h⟩,yB _⟩ ?_ ?_
 ·rintro i σ H3 N B1 R hN hR hi ⟨o4,o5,o6,o7,o8,ps,rfl,hp,gg,e_d,cok,pl⟩;refine⟨_,rfl,_,rfl,_,_,rfl,rfl,a,S,ns,_,rfl,hp,by omega,by omega,fun t1 H4 x0 x1 hp gz=>?_⟩;have gg:=gg.trans gz;have e_d:=gz _ _ e_d;refine⟨_,rfl,a,S,ns,2,rfl,hp,Vp rfl,ltI rfl,fun t2 H5 y0 y1 hp gz=>⟨rfl,.inr ⟨_,rfl,_,_,rfl,rfl,Or.inl ⟨by omega,by omega⟩,?_⟩⟩⟩;have gg:=gg.trans gz;have e_d:=gz _ _ e_d;obtain⟨h,hh,h0,h1⟩:∃h:Int,t1*(if decide (V.int t2=V.int 0)=true then 1 else 0)=h∧0≤h∧h≤or:=by
   refine⟨_,rfl,?_⟩
   split
   ·omega
   ·omega
  have hv:((fun i j=>V.int (i*j)) t1 (if decide (V.int t2=V.int 0)=true then 1 else 0))=V.int h:=zW V.int hh;rw[hv];have tw:=Wg (m:=or-h) (by omega);refine⟨_,rfl,_,rfl,_,rfl,_,_,rfl,rfl,_,_,rfl,rfl,⟨by omega,by omega,by decide⟩,a,S,ns,_,rfl,hp,by rw[z5];omega,by rw[z5];omega,fun t3 H6 z0 z1 hp gz=>?_⟩;have gg:=gg.trans gz;have e_d:=gz _ _ e_d;rw[z5]at z1;dsimp only;refine V9 (fun σ' H'=>∃(o4 o7 o8:Option V)(h i:Int),σ'=[some (.ref a),some (.int or),some (.int most),some (.ref d),o4,some (.int h),some (.int i),o7,o8]∧Pn K S ns H' a∧Grw a H H'∧aw a H' d=some (.dT (ad ps))∧0≤h∧h≤or∧0≤i∧i<2^(or-h).toNat) ?_ ?_
  ·intro nx hnx;have skip:∀{H':Hp}{o7 o8:Option V},Pn K S ns H' a→Grw a H H'→aw a H' d=some (.dT (ad ps))→nx [some (.ref a),some (.int or),some (.int most),some (.ref d),some (.int (0+(i:Int))),some (.int h),some (.int t3),o7,o8] H':=fun hp gg e_d=>hnx _ _ ⟨_,_,_,h,t3,rfl,hp,gg,e_d,h0,h1,z0,z1⟩;refine⟨_,rfl,fun e n_e=>?_⟩;have ea:=hp.ne n_e;have gz:=hp.grw (Z5 n_e (.dT []));have e_e:(upd H6 e (.dT [])) e=some (.dT []):=Z3;have gg:=gg.trans gz;have e_d:=gz _ _ e_d;have hp:=hp.laid (o:=.dT []) n_e;generalize upd H6 e (.dT [])=H7 at gg e_d hp e_e⊢;refine⟨d,e,_,rfl,rfl,(Za e_d).2,e_e,_,rfl,Wp (fun c0=>?_) (fun c0=>?_)⟩
   ·refine⟨_,rfl,a,S,ns,3,rfl,hp,Vp rfl,ltI rfl,fun t4 H8 _ _ hp gz=>⟨rfl,_,rfl,Wp (fun c1=>?_) (fun c1=>?_)⟩⟩
    ·have gg:=gg.trans gz;have e_d:=gz _ _ e_d;refine⟨_,rfl,d,ps,rfl,(Za e_d).2,by omega,fun bs ka l n_l=>?_⟩;have la:=hp.ne n_l;have sl:=Z5 n_l (.lst (bs.map V.ref));have gz:=hp.grw sl;have BN:aw a (upd H8 l (.lst (bs.map V.ref))) l=some (.lst (bs.map V.ref)):=by rw[Zj la];exact Z3
     have gg:=gg.trans gz;have e_d:=gz _ _ e_d;have ka:=ka.mono fun b xs e=>sl b _ e;have hp:=hp.laid (o:=.lst (bs.map V.ref)) n_l;generalize upd H8 l (.lst (bs.map V.ref))=H9 at gg e_d hp BN ka⊢;have bl:=yK ka;rw[(X0 _).length_eq,pi]at bl;have pp:0<ps.length:=by
      rw[Zx]at c0
      rcases Nat.eq_zero_or_pos ps.length with z | z
      ·rw[z]at c0;exact absurd c0 (by decide)
      ·exact z
     have hp9:=hp;refine⟨_,rfl,_,rfl,_,rfl,l,_,rfl,.inl (V4 BN),a,S,ns,_,rfl,hp,by rw[pi];omega,by rw[pi];omega,fun t5 H10 u0 u1 hp gz=>?_⟩;have gg:=gg.trans gz;have e_d:=gz _ _ e_d;have BN:=gz _ _ BN;obtain⟨v,hv,mv⟩:=lq (d:=t5) (Za BN).2 u0 u1;obtain⟨jx,hj⟩:=Aj mv;obtain⟨b,k,rfl,hk,BJ⟩:=p6 ka hj;have km:k∈ps.map (·.1):=(X0 _).mem_iff.mp (yW hk);obtain⟨k0,k1,k2,k3⟩:=cok.kok.st k km;have nba:b≠a:=fun z=>by
      obtain⟨i,r,ea⟩:=hp9.at_;rw[z]at BJ;unfold KAt at BJ;rw[ea]at BJ;cases BJ
     have BJ:aw a H10 b=some (.tup [.int k.1,.int k.2]):=gz _ _ (by rw[Zj nba];exact BJ);refine⟨l,_,_,_,rfl,rfl,V4 BN,hv,?_⟩;refine⟨_,rfl,_,rfl,b,_,0,_,rfl,rfl,qQ BJ,rfl,_,_,rfl,?_⟩;obtain⟨h2,e2,q0,q1,q2⟩:∃h2:Int,(if k.1<h then k.1 else h)=h2∧0≤h2∧h2≤k.1∧h2≤or:=by
      refine⟨_,rfl,?_⟩
      split <;> omega
     rw[e2];have tw2:=Wg (m:=k.1-h2) (by omega);have tw3:=Wg (m:=or-k.1) (by omega);refine⟨_,rfl,b,_,1,_,rfl,rfl,qQ BJ,rfl,_,rfl,b,_,0,_,rfl,rfl,qQ BJ,rfl,_,rfl,_,_,rfl,rfl,_,_,rfl,rfl,⟨by omega,by omega,by omega⟩,?_⟩;refine⟨_,rfl,_,rfl,b,_,0,_,rfl,rfl,qQ BJ,rfl,_,rfl,_,_,rfl,rfl,_,_,rfl,rfl,⟨by omega,by omega,by decide⟩,a,S,ns,_,rfl,hp,by rw[z5];omega,by rw[z5];omega,fun t6 H11 v0 v1 hp gz=>⟨_,_,rfl,rfl,?_⟩⟩;rw[z5]at v1;have ix:=vw q0 q1 k1 k2 k3 v0 v1;exact hnx _ _ ⟨_,_,_,h2,_,rfl,hp,gg.trans gz,gz _ _ e_d,q0,q2,ix.1,ix.2⟩
    ·have gg:=gg.trans gz;exact skip hp gg (gz _ _ e_d)
   ·exact skip hp gg e_d
  rintro σ' H7 ⟨o4,o7,o8,h,i2,rfl,hp,gg,e_d,h0,h1,i0,i1⟩;refine⟨_,rfl,a,S,ns,rfl,hp,fun n H8 n1 hp gz=>?_⟩;have gg:=gg.trans gz;have e_d:=gz _ _ e_d;refine⟨_,rfl,_,rfl,_,rfl,leN rfl,fun q n_q=>?_⟩;have qa:=hp.ne n_q;have sq:=Z5 n_q (.tup [.int h,.int i2]);have gz:=hp.grw sq;have gg:=gg.trans gz;have e_d:=gz _ _ e_d;have BQ:KAt (upd H8 q (.tup [.int h,.int i2])) q (h,i2):=Z3;have hp:=hp.laid (o:=.tup [.int h,.int i2]) n_q;generalize upd H8 q (.tup [.int h,.int i2])=H9 at gg e_d hp BQ⊢;have da:=(Za e_d).1;refine⟨d,_,rfl,DPut.t (k:=kk (h,i2)) (Za e_d).2 BQ (Zh (by rw[Zx];omega)),hN _ _ ⟨_,_,_,_,_,ao ps (h,i2) n,rfl,wp hp (Za e_d).2,Rj gg nHd,?_,j3 cok ⟨h0,h1,i0,i1⟩ n1,?_⟩⟩
  ·rw[Zj da,←T9];exact Z3
  ·have:=W9 ps (h,i2) n;omega
 ·rintro σ H3 ⟨o4,o5,o6,o7,o8,ps,rfl,hp,gg,e_d,cok,pl⟩;exact⟨_,(Z7 (Zd (pv 3))),_,rfl,hq d _ ps n_d e_d cok (by omega) hp gg⟩
theorem vC(aj:mg "sorted"=none)(bc:mg "tuple"=none)(aF:mg "sum"=none)(aJ:mg "list"=none)(F:Fun K "_law_ladder" "_law_ladder" b8 f fd):FnOk P w K mg base CX0 1 f fd ["_law_now","_law_room","_law_deep"] ue:=by
 refine F.ok fW (fun vs H Q E h=>?_) (fun cdv A outer s H vs Q E hr h=>?_)
 ·obtain⟨d,BE,or,ps,rfl,_⟩:=h;rfl
 obtain⟨d,BE,or,ps,rfl,e_d,pl,hq⟩:=h;refine⟨_,(Z7 (Zd (Zu (Z0 (pv 1) (Z0 (pv 2) (Z0 (X1 Pl rfl bc PyProof.Rows.boot_tuple (Z0 (Zg (ge rfl hr.units) rfl aj zK (Z0 (Qb zX PySem.F.slot_dict_items PySem.F.type_dict_items O6 (pv 0)) Z1)) Z1)) (Z0 (Zg (Xp rfl) rfl aF zU (Z0 (X1 (R1 rfl) rfl aJ AF (Z0 (Qb zX Ax PySem.F.type_dict_values Qg (pv 0)) Z1)) Z1)) Z1))))))),?_⟩;have gg:Same H H:=Same.refl _;refine⟨_,rfl,_,rfl,_,rfl,S4 e_d,d,_,rfl,rfl,e_d,?_⟩;intro v n_v;generalize hz:upd _ v _=H1;revert H1;refine blk ?_;intro H1 hz;have gz:=Zi hz n_v;have e_v:=Zr hz;clear hz;have gg:=gg.trans gz;have e_d:=gz _ _ e_d;refine⟨v,d,ps,rfl,e_v,e_d,by omega,fun H2 bs g2 pr l nl _=>?_⟩;have gg:=gg.trans g2;have e_d:=g2 _ _ e_d;have gz:=Z5 nl (.lst (bs.map V.ref));have BN:(upd H2 l (.lst (bs.map V.ref))) l=some (.lst (bs.map V.ref)):=Z3;have gg:=gg.trans gz;have e_d:=gz _ _ e_d;have pr:Paired (FT (upd H2 l (.lst (bs.map V.ref)))) bs (au ps):=Paired.mapP pr fun _ _ f=>Zz gz f;generalize upd H2 l (.lst (bs.map V.ref))=H3 at gg e_d pr BN⊢;refine⟨l,_,rfl,.inl ⟨SqL.of BN,?_⟩⟩;intro c n_c;generalize hz:upd _ c _=H4;revert H4;refine blk ?_;intro H4 hz;have gz:=Zi hz n_c;have BM:=Zr hz;clear hz;have gg:=gg.trans gz;have e_d:=gz _ _ e_d;have pr:=Paired.mapP pr fun _ _ f=>Zz gz f;refine⟨_,rfl,S4 e_d,d,_,rfl,rfl,e_d,?_⟩;intro v2 n_v2;generalize hz:upd _ v2 _=H5;revert H5;refine blk ?_;intro H5 hz;have gz:=Zi hz n_v2;have e_v2:=Zr hz;clear hz;have gg:=gg.trans gz;have e_d:=gz _ _ e_d;have BM:=gz _ _ BM;have pr:=Paired.mapP pr fun _ _ f=>Zz gz f;refine⟨v2,d,_,rfl,e_v2,e_d,?_⟩;rw[kE];intro l2 uW;generalize hz:upd _ l2 _=H6;revert H6;refine blk ?_;intro H6 hz;have gz:=Zi hz uW;have cO:=Zr hz;clear hz;have gg:=gg.trans gz;have BM:=gz _ _ BM;have pr:=Paired.mapP pr fun _ _ f=>Zz gz f;refine⟨l2,_,rfl,SqL.of cO,leN rfl,?_⟩;intro r n_r;generalize hz:upd _ r _=H7;revert H7;refine blk ?_;intro H7 hz;have gz:=Zi hz n_r;have e_r:=Zr hz;clear hz;have gg:=gg.trans gz;have BM:=gz _ _ BM;have pr:=Paired.mapP pr fun _ _ f=>Zz gz f;exact hq r _ gg ⟨c,bs,e_r,BM,pr⟩
theorem rM(af:Has P w K mg base "_law_take" 1 ["_law_pen_here","_law_most"] (bL K))(F:Fun K "_law_many" "_law_many" dy f fd):FnOk P w K mg base CX0 2 f fd ["_law_pen_here"] (iE K):=by
 refine F.ok O1 (fun vs H Q E h=>?_) (fun cdv A outer s H vs Q E hr h=>?_)
 ·obtain⟨a,S,ns,rfl,_⟩:=h;rfl
 obtain⟨a,S,ns,rfl,hp,hq⟩:=h;refine⟨_,(Z2 (Y0 1 O1.nd rfl (Or.inl rfl) (Z6 af hr (Z0 (pv 0) (Z0 Z4 Z1))))
 (Z2 (Yu (Zn Tv (pv 1) Z4 (Zm _)) (Z7 (Zd (Zb Zs (Zb Zs Z4 (Zb X5 (Z6 af hr (Z0 (pv 0) (Z0 (Zb Se Z4 Z4) Z1))) (Zb Se Z4 Z4))) (Z6 af hr (Z0 (pv 0) (Z0 (Zb Se Z4 Z4) Z1)))))) Zw)
 (Z7 (Zd (Zb Zs Z4 (Z6 af hr (Z0 (pv 0) (Z0 (Yc Yx (X2 (Z0 Z4 (Z0 Z4 (Z0 Z4 (Z0 Z4 Z1))))) (Zb V3 (pv 1) Z4)) Z1)))))))),?_⟩
 refine⟨_,rfl,a,S,ns,8,rfl,hp,Vp rfl,ltI rfl,fun way H1 w0 w1 hp1 g1=>?_⟩;refine⟨_,rfl,rfl,_,rfl,Wp (fun c=>?_) (fun c=>?_)⟩
 ·refine⟨_,rfl,_,_,rfl,rfl,lM rfl rfl rfl,a,S,ns,_,rfl,hp1,Vp rfl,ltI rfl,fun d1 H2 x0 x1 hp2 g2=>⟨_,_,rfl,rfl,lM rfl rfl rfl,?_⟩⟩;have x1:d1<1000000:=x1;refine⟨_,_,rfl,rfl,Or.inl ⟨by omega,by omega⟩,_,_,rfl,rfl,_,rfl,_,_,rfl,rfl,lM rfl rfl rfl,a,S,ns,_,rfl,hp2,Vp rfl,ltI rfl,fun d2 H3 y0 y1 hp3 g3=>⟨_,_,rfl,rfl,hq _ _ (by show 1≤1+d1*1000000+d2;omega) hp3 (g1.trans (g2.trans g3))⟩⟩
 ·refine⟨_,rfl,leN rfl,fun p np=>⟨_,rfl,_,_,rfl,rfl,Vp rfl,?_⟩⟩;have BK:(upd H1 p (.lst [.int 1,.int 3,.int 3,.int 9])) p=some (.lst [.int 1,.int 3,.int 3,.int 9]):=Z3;have m0:=AQ way (show(4:Int)≠0 by decide);have m1:=As way (show(0:Int)<4 by decide);obtain⟨v,hv,mv⟩:=lq (d:=way % 4) BK m0 m1;obtain⟨z,rfl,z0,z1⟩:∃z:Int,v=.int z∧0<z∧z<10:=by
   simp only[List.mem_cons,List.not_mem_nil,or_false]at mv
   rcases mv with rfl | rfl | rfl | rfl <;> exact⟨_,rfl,by decide,by decide⟩
  refine⟨p,_,_,_,rfl,rfl,SqL.of BK,hv,a,S,ns,z,rfl,hp1.laid np,z0,by omega,fun d H3 y0 y1 hp3 g3=>⟨_,_,rfl,rfl,hq _ _ (by omega) hp3 (g1.trans ((hp1.grw (Z5 np _)).trans g3))⟩⟩
def aq(k:Int×Int):Int:=k.2*2^k.1.toNat
def am(k:Int×Int):Int:=(k.2+1)*2^k.1.toNat-1
def dQ:Sp:=fun vs H Q _=>∃(p:Addr)(k:Int×Int),vs=[.ref p]∧KAt H p k∧0≤k.1∧k.1≤20∧0≤k.2∧k.2≤1000001∧Q (.int (aq k)) H
def jq:Sp:=fun vs H Q _=>∃(p:Addr)(k:Int×Int),vs=[.ref p]∧KAt H p k∧0≤k.1∧k.1≤20∧0≤k.2∧k.2≤1000000∧∀H',Same H H'→Q (.int (am k)) H'
theorem Vm(a b:Int):(PyData.tuple [.int a,.int b]).canLay0=true∧(PyData.tuple [.int a,.int b]).depth≤3:=by
 refine⟨?_,?_⟩
 ·simp[PyData.canLay0,PyData.canLayAll0]
 ·simp[PyData.depth,PyData.depthAll]
theorem oI(F:Fun K "first_of" "first_of" cr f fd):FnOk P w K mg base CX0 1 f fd ["stretch"] dQ:=by
 refine F.ok U7 (fun vs H Q E h=>?_) (fun cdv A outer s H vs Q E hr h=>?_)
 ·obtain⟨p,k,rfl,_⟩:=h;rfl
 obtain⟨p,k,rfl,e,h0,h1,i0,i1,hq⟩:=h;refine⟨_,(Z2 (V2 (pv 0) (W8 rfl (Z9 (Z8 (i:=1) U7.nd rfl (Or.inl rfl)) (Z9 (Z8 (i:=2) U7.nd rfl (Or.inl rfl)) Y1))))
 (Z7 (Zd (Zb Sd (pv 2) (pv 1))))),?_⟩
 exact⟨_,rfl,p,_,rfl,SqT.of e,rfl,_,_,rfl,_,_,rfl,rfl,_,rfl,_,rfl,_,_,rfl,rfl,⟨by omega,by omega,by omega⟩,hq⟩
theorem se(ci:Has P w K mg base "first_of" 1 ["stretch"] dQ)(F:Fun K "last_of" "last_of" cL f fd):FnOk P w K mg base CX0 2 f fd ["stretch"] jq:=by
 refine F.ok T6 (fun vs H Q E h=>?_) (fun cdv A outer s H vs Q E hr h=>?_)
 ·obtain⟨p,k,rfl,_⟩:=h;rfl
 obtain⟨p,k,rfl,e,h0,h1,i0,i1,hq⟩:=h;refine⟨_,(Z2 (V2 (pv 0) (W8 rfl (Z9 (Z8 (i:=1) T6.nd rfl (Or.inl rfl)) (Z9 (Z8 (i:=2) T6.nd rfl (Or.inl rfl)) Y1))))
 (Z7 (Zd (Zb Xx (Z6 ci hr (Z0 (Zu (Z0 (pv 1) (Z0 (Zb Zs (pv 2) Z4) Z1))) Z1)) Z4)))),?_⟩
 exact⟨_,rfl,p,_,rfl,SqT.of e,rfl,_,_,rfl,_,_,rfl,rfl,_,rfl,_,rfl,_,_,rfl,rfl,leN rfl,fun q nq=>⟨q,(k.1,k.2+1),rfl,Z3,h0,h1,by show 0≤k.2+1;omega,by show k.2+1≤_;omega,_,_,rfl,rfl,hq _ (Z5 nq _)⟩⟩
def ThK(or:Int)(t:Th):Prop:=ThL or t∧PyData.strOk t.word=true
theorem sx{or:Int}{t:Th}(h:ThK or t):t.D.canLay0=true∧t.D.depth≤1:=by
 refine⟨?_,?_⟩
 ·simp[Th.D,PyData.canLay0,PyData.canLayAll0,h.2]
 ·simp[Th.D,PyData.depth,PyData.depthAll]
theorem W3{or:Int}{ts:List Th}(h:∀t∈ts,ThK or t):(aX ts).canLay0=true∧(aX ts).depth≤2:=gR ts fun t ht=>sx (h t ht)
theorem ei{K:W.Frag}{S:Addr}{ns:List Int}{H0 H:Hp}{a L:Addr}{o:HO}(h0:Pn K S ns H0 a)(n:H0 L=none)(h:Pn K S ns H a)(la:L≠a):Pn K S ns (upd H L o) a:=by
 obtain⟨⟨i,r,ea⟩,s,f⟩:=h;refine⟨⟨i,r,by rw[Zc (Ne.symm la)];exact ea⟩,?_,f⟩;obtain⟨_,s0,_⟩:=h0
 rcases s0 with s0 | s0
 ·have ne:S≠L:=by
   rcases s0 with s0 | ⟨u,s0⟩
   ·exact Zk s0 n
   ·exact Zk s0 n
  rcases s with(s | ⟨u,s⟩) | s
  ·exact .inl (.inl (by rw[Zc ne];exact s))
  ·exact .inl (.inr ⟨u,by rw[Zc ne];exact s⟩)
  ·exact .inr s
 ·exact .inr s0
def TsAt(H:Hp):List V→List Th→Prop:=Paired fun x t=>∃c:Addr,x=.ref c∧H c=some (.tup t.vs)
theorem TsAt.get{H:Hp}:∀{xs:List V}{ts:List Th}{j:Nat}{x:V},TsAt H xs ts→xs[j]?=some x→∃c t,x=.ref c∧ts[j]?=some t∧H c=some (.tup t.vs)
 |_,_,_,_,.nil,e=>by simp at e
 |_,_,0,_,.cons h _,e=>by
  rw[zQ]at e;cases e;obtain⟨c,e,q⟩:=h;exact⟨c,_,e,rfl,q⟩
 |_,_,j+1,_,.cons _ r,e=>TsAt.get (j:=j) r (by simpa using e)
theorem TsAt.dvs{H:Hp}:∀{xs:List V}{ts:List Th},TsAt H xs ts→DVs H xs (ts.map Th.D)
 |_,_,.nil=>.nil
 |_,_,.cons ⟨c,e,h⟩ r=>by
  rw[e];exact .cons (Th.dv h) (TsAt.dvs r)
theorem TsAt.tup{H H':Hp}(g:∀c xs,H c=some (.tup xs)→H' c=some (.tup xs)){xs:List V}{ts:List Th}(h:TsAt H xs ts):TsAt H' xs ts:=Paired.mapP h fun _ _ ⟨c,e,q⟩=>⟨c,e,g _ _ q⟩
structure StrS(K:W.Frag)(S:Addr)(ns:List Int)(H0:Hp)(a L:Addr)(or:Int)(H:Hp)(xs:List V)(ts:List Th):Prop where
 pn:Pn K S ns H a
 g:Grw a H0 H
 eL:H L=some (.lst xs)
 ta:TsAt H xs ts
 ok:∀t∈ts,ThK or t
section
variable{K:W.Frag}{S a L:Addr}{ns:List Int}{H0 H H':Hp}{or:Int}{xs:List V}{ts:List Th}
theorem Q7{c:Addr}{ys:List V}(hp:Pn K S ns H a)(g:Grw a H H')(e:H c=some (.tup ys)):H' c=some (.tup ys):=(Za (g _ _ (hp.tup e))).2
theorem StrS.grw(s:StrS K S ns H0 a L or H xs ts)(La:L≠a)(hp:Pn K S ns H' a)(g:Grw a H H'):StrS K S ns H0 a L or H' xs ts:=⟨hp,s.g.trans g,(Za (g L _ (by rw[Zj La];exact s.eL))).2,s.ta.tup fun c ys e=>Q7 s.pn g e,s.ok⟩
theorem StrS.laid{p:Addr}{o:HO}(s:StrS K S ns H0 a L or H xs ts)(La:L≠a)(n:H p=none):StrS K S ns H0 a L or (upd H p o) xs ts:=s.grw La (s.pn.laid n) (s.pn.grw (Z5 n o))
theorem StrS.put(s:StrS K S ns H0 a L or H xs ts)(La:L≠a){H1:Hp}(hp1:Pn K S ns H1 a)(n1:H1 L=none)(n0:aw a H0 L=none){c:Addr}{t:Th}(ec:H c=some (.tup t.vs))(ht:ThK or t):StrS K S ns H0 a L or (upd H L (.lst (xs++[.ref c]))) (xs++[.ref c]) (ts++[t]):=by
 have tp:∀(b:Addr)(ys:List V),H b=some (.tup ys)→upd H L (.lst (xs++[.ref c])) b=some (.tup ys):=fun b ys e=>by rw[Zc (U1 e s.eL (by intro z;cases z))];exact e
 refine⟨ei hp1 n1 s.pn La,Rj s.g n0,Z3,Paired.snoc (s.ta.tup tp) ⟨c,rfl,tp _ _ ec⟩,fun x hx=>?_⟩
 rcases zk.mp hx with hx | hx
 ·exact s.ok x hx
 ·rw[yG.mp hx];exact ht
end
def uz(K:W.Frag):Sp:=fun vs H Q _=>∃(a S:Addr)(ns:List Int)(or most:Int),vs=[.ref a,.int or,.int most]∧Pn K S ns H a∧1≤or∧or≤10∧0≤most∧most≤60∧∀(L:Addr)(ts:List Th)(H':Hp),H L=none→(∀t∈ts,ThK or t)→(ts.length:Int)≤most→DV (aw a H') (.ref L) (aX ts)→Pn K S ns H' a→Grw a H H'→Q (.ref L) H'
theorem Ox:PyData.strOk "a"=true∧PyData.strOk "b"=true∧PyData.strOk "cd"=true:=by decide +kernel
theorem v9(av:mg "range"=none)(aM:mg "len"=none)(af:Has P w K mg base "_law_take" 1 ["_law_pen_here","_law_most"] (bL K))(dA:Has P w K mg base "_law_many" 2 ["_law_pen_here"] (iE K))(F:Fun K "_law_stream" "_law_stream" b_ f fd):FnOk P w K mg base CX0 3 f fd ["_law_pen_here","_law_deep","_law_most"] (uz K):=by
 refine F.ok Yj (fun vs H Q E h=>?_) (fun cdv A outer s H vs Q E hr h=>?_)
 ·obtain⟨a,S,ns,or,most,rfl,_⟩:=h;rfl
 obtain⟨a,S,ns,or,most,rfl,hp,d0,d1,m0,m1,hq⟩:=h;have tw:=Wg (m:=or) d1;have hpH:=hp;refine⟨_,(Z2 (Y0 3 Yj.nd rfl (Or.inl rfl) (X2 Z1)) Ze),leN rfl,fun L n_L=>?_⟩;have La:=hp.ne n_L;have nHL:aw a H L=none:=by rw[Zj La];exact n_L
 have ss:StrS K S ns H a L or (upd H L (.lst [])) [] []:=⟨hp.laid n_L,hp.grw (Z5 n_L _),Z3,.nil,fun _ h=>absurd h zw⟩;generalize upd H L (.lst [])=H1 at ss⊢;clear hp;refine⟨_,(Z2 (Y0 4 Yj.nd rfl (Or.inl rfl) (Zb Sd Z4 (pv 1))) Ze),_,rfl,_,_,rfl,rfl,⟨by omega,by omega,by decide⟩,?_⟩;show q9 _ _ _ [_,_,_,_,some (V.int (1*2^or.toNat)),_,_,_,_] _;rw[z5];obtain⟨top,htop⟩:∃top:Int,(2:Int)^or.toNat=top:=⟨_,rfl⟩;rw[htop]at tw⊢;refine⟨_,(Z2 (Y0 5 Yj.nd rfl (Or.inl rfl) (Z6 af hr (Z0 (pv 0) (Z0 (pv 4) Z1)))) Ze),_,rfl,_,rfl,a,S,ns,top,rfl,ss.pn,by omega,by omega,fun mid H2 x0 x1 hp g2=>?_⟩;have ss:=ss.grw La hp g2;refine⟨_,(Z2 (Yr zl rfl (Xh rfl av (Z0 (Z6 af hr (Z0 (pv 0) (Z0 (Zb Zs (pv 2) Z4) Z1))) Z1)) (Z8 (i:=6) Yj.nd rfl (Or.inl rfl))
 (Z2 (Y0 7 Yj.nd rfl (Or.inl rfl) (Z6 af hr (Z0 (pv 0) (Z0 Z4 Z1))))
 (Z2 (Y0 8 Yj.nd rfl (Or.inl rfl) (Z6 af hr (Z0 (pv 0) (Z0 (pv 4) Z1))))
 (Z2 (Yu (PW.pt (iN (Zn Tv (pv 7) Z4 (Zm _)) (ez (Zn (Ua hr.units) (pv 3) (X2 Z1) (Zm _))))) (Z7 (Y0 8 Yj.nd rfl (Or.inl rfl) (Yc Y9 (Yc Yx (pv 3) (Z6 af hr (Z0 (pv 0) (Z0 (Zg Y7 rfl aM An (Z0 (pv 3) Z1)) Z1)))) Z4))) Zw)
 (Z2 (Yu (Zn Tv (pv 7) Z4 (Zm _)) (Z7 (Y0 8 Yj.nd rfl (Or.inl rfl) (Zb V3 (Zb Zs (pv 5) (Z6 af hr (Z0 (pv 0) (Z0 Z4 Z1)))) (pv 4)))) Zw)
 (Z7 (Xz (O4 A4 PySem.F.slot_list_append PySem.F.type_list_append Sh (pv 3) (Z0 (Zu (Z0 (Z6 af hr (Z0 (pv 0) (Z0 Z4 Z1))) (Z0 (Yc Yx (X2 (Z0 Vq (Z0 Vq (Z0 Vq Z1)))) (Z6 af hr (Z0 (pv 0) (Z0 Z4 Z1)))) (Z0 (pv 8) (Z0 (Z6 dA hr (Z0 (pv 0) Z1)) Z1))))) Z1))))))))) Ze),?_⟩
 refine⟨_,rfl,_,rfl,_,_,rfl,rfl,a,S,ns,_,rfl,ss.pn,by omega,by omega,fun t H3 t0 t1 hp g3=>⟨t,rfl,by omega,by omega,?_⟩⟩;have ss:=ss.grw La hp g3;clear hp g3 g2;refine Xe (lo:=0) (n:=t.toNat) (fun i σ H'=>∃(o6 o7 o8:Option V)(xs:List V)(ts:List Th),σ=[some (.ref a),some (.int or),some (.int most),some (.ref L),some (.int top),some (.int mid),o6,o7,o8]∧StrS K S ns H a L or H' xs ts∧ts.length=i) ⟨_,_,_,_,_,rfl,ss,rfl⟩ ?_ ?_
 ·clear ss;rintro i σ H4 N B1 R hN hR hi ⟨o6,o7,o8,xs,ts,rfl,ss,tl⟩;have xl:=yK ss.ta;refine⟨_,rfl,a,S,ns,4,rfl,ss.pn,Vp rfl,ltI rfl,fun way H5 _ _ hp g=>?_⟩;have ss:=ss.grw La hp g;refine⟨_,rfl,_,rfl,a,S,ns,top,rfl,ss.pn,by omega,by omega,fun num H6 n0 n1 hp g=>?_⟩;have ss:=ss.grw La hp g;clear hp g;dsimp only;refine V9 (fun σ' H'=>∃(num:Int),σ'=[some (.ref a),some (.int or),some (.int most),some (.ref L),some (.int top),some (.int mid),some (.int (0+(i:Int))),some (.int way),some (.int num)]∧StrS K S ns H a L or H' xs ts∧0≤num∧num<top) ?_ ?_
  ·intro nx hnx;refine⟨_,rfl,rfl,_,rfl,Wp (fun c=>?_) (fun c=>?_)⟩
   ·refine⟨_,rfl,leN rfl,fun p np=>?_⟩;have s7:=ss.laid (o:=.lst []) La np;have BK:(upd H6 p (.lst [])) p=some (.lst []):=Z3;generalize upd H6 p (.lst [])=H7 at s7 BK⊢;refine⟨_,_,.lst s7.eL s7.ta.dvs,.lst BK .nil,Y3 (W3 s7.ok) (by decide),Y3 kX (by decide),_,rfl,?_⟩;rw[kW];by_cases hts:ts=[]
    ·have em:(ts.map Th.D).isEmpty=true:=by rw[hts];rfl
     rw[em];exact Yz (hnx _ _ ⟨num,rfl,s7,n0,n1⟩)
    ·have em:(ts.map Th.D).isEmpty=false:=by
      cases ts with
      |nil=>exact absurd rfl hts
      |cons _ _=>rfl
     rw[em];have tp:0<ts.length:=List.length_pos_iff.mpr hts;refine Vv ?_;refine⟨_,rfl,_,rfl,_,rfl,L,_,rfl,.inl (SqL.of s7.eL),a,S,ns,_,rfl,s7.pn,by omega,by omega,fun d H8 y0 y1 hp g=>?_⟩;have s8:=s7.grw La hp g;obtain⟨v,hv,mv⟩:=lq (d:=d) s8.eL y0 y1;obtain⟨jx,hj⟩:=Aj mv;obtain⟨c,t,rfl,ht,BM⟩:=s8.ta.get hj;have ok:=s8.ok t (yW ht);refine⟨L,_,_,_,rfl,rfl,SqL.of s8.eL,hv,c,_,2,_,rfl,rfl,SqT.of BM,rfl,?_⟩;exact hnx _ _ ⟨t.num,rfl,s8,ok.1.1,by rw[←htop];exact ok.1.2.1⟩
   ·exact hnx _ _ ⟨num,rfl,ss,n0,n1⟩
  clear ss n0 n1;rintro σ' H7 ⟨num,rfl,ss,n0,n1⟩;refine V9 (fun σ' H'=>∃(num:Int),σ'=[some (.ref a),some (.int or),some (.int most),some (.ref L),some (.int top),some (.int mid),some (.int (0+(i:Int))),some (.int way),some (.int num)]∧StrS K S ns H a L or H' xs ts∧0≤num∧num<top) ?_ ?_
  ·intro nx hnx;refine⟨_,rfl,rfl,_,rfl,Wp (fun c=>?_) (fun c=>?_)⟩
   ·refine⟨_,rfl,_,rfl,a,S,ns,4,rfl,ss.pn,Vp rfl,ltI rfl,fun d H8 _ _ hp g=>?_⟩;have s8:=ss.grw La hp g;refine⟨_,_,rfl,rfl,_,rfl,_,_,rfl,rfl,by omega,?_⟩;exact hnx _ _ ⟨(mid+d) % top,rfl,s8,AQ _ (by omega),As _ (by omega)⟩
   ·exact hnx _ _ ⟨num,rfl,ss,n0,n1⟩
  clear ss n0 n1;rintro σ' H8 ⟨num,rfl,ss,n0,n1⟩;refine⟨_,rfl,.inl ⟨rfl,_,SqL.of ss.eL⟩,_,rfl,a,S,ns,9,rfl,ss.pn,Vp rfl,ltI rfl,fun day H9 _ _ hp g=>?_⟩;have ss:=ss.grw La hp g;refine⟨leN rfl,fun p np=>?_⟩;have pa:=ss.pn.ne np;have gp:=ss.pn.grw (Z5 np (.lst [.str "a",.str "b",.str "cd"]));have ss:=ss.laid (o:=.lst [.str "a",.str "b",.str "cd"]) La np;have BK:aw a (upd H9 p (.lst [.str "a",.str "b",.str "cd"])) p=some (.lst [.str "a",.str "b",.str "cd"]):=by rw[Zj pa];exact Z3
  generalize upd H9 p (.lst [.str "a",.str "b",.str "cd"])=H10 at ss BK⊢;refine⟨_,rfl,a,S,ns,3,rfl,ss.pn,Vp rfl,ltI rfl,fun d H11 y0 y1 hp g=>?_⟩;have BK:=g _ _ BK;have ss:=ss.grw La hp g;obtain⟨v,hv,mv⟩:=lq (d:=d) (Za BK).2 y0 y1;obtain⟨wd,rfl,wok⟩:∃z:Str,v=.str z∧PyData.strOk z=true:=by
   simp only[List.mem_cons,List.not_mem_nil,or_false]at mv
   rcases mv with rfl | rfl | rfl
   ·exact⟨_,rfl,Ox.1⟩
   ·exact⟨_,rfl,Ox.2.1⟩
   ·exact⟨_,rfl,Ox.2.2⟩
  refine⟨p,_,_,_,rfl,rfl,V4 BK,hv,_,rfl,_,rfl,a,S,ns,rfl,ss.pn,fun many H12 mn hp g=>⟨leN rfl,fun c nc=>?_⟩⟩;have ss:=ss.grw La hp g;have ss:=ss.laid (o:=.tup [.int day,.str wd,.int num,.int many]) La nc;have BM:(upd H12 c (.tup [.int day,.str wd,.int num,.int many])) c=some (.tup (Th.mk day wd num many).vs):=Z3;generalize upd H12 c (.tup [.int day,.str wd,.int num,.int many])=H13 at ss BM⊢;have tk:ThK or ⟨day,wd,num,many⟩:=⟨⟨n0,by rw[htop];exact n1,mn⟩,wok⟩;refine⟨L,xs,_,rfl,rfl,ss.eL,Zh (by omega),?_⟩;exact hN _ _ ⟨_,_,_,_,_,rfl,ss.put La hpH n_L nHL BM tk,by rw[yM,tl];rfl⟩
 ·rintro σ H4 ⟨o6,o7,o8,xs,ts,rfl,ss,tl⟩;refine⟨_,(Z7 (Zd (pv 3))),_,rfl,hq L ts _ n_L ss.ok (by omega) (.lst (by rw[Zj La];exact ss.eL) (ss.ta.tup fun c ys e=>ss.pn.tup e).dvs) ss.pn ss.g⟩
section
variable{α:Type}
def evT(fs:List Th→α)(fm:α→α→α):Tr→α
 |.leaf ts=>fs ts
 |.node l r=>fm (evT fs fm l) (evT fs fm r)
end
theorem Tt{α β:Type}{R:α→β→Prop}:∀{xs us:List α}{ys ws:List β},Paired R xs ys→Paired R us ws→Paired R (xs++us) (ys++ws)
 |_,_,_,_,.nil,h=>h
 |_,_,_,_,.cons a r,h=>.cons a (Tt r h)
theorem Tf{p:Addr}{H0 H1 H2:Hp}(n:H0 p=none)(s:Same H0 H1)(g:Grw p H1 H2):Same H0 H2:=fun b u e=>(Za (g b u (by rw[Zj (Zk e n)];exact s b u e))).2
def glT(BE or:Int)(t:Tr):Sps:=evT (de BE or) (cg BE or) t
theorem Pz{α β:Type}{R:α→β→Prop}:∀{xs:List α}{ys:List β}(k:Nat),Paired R xs ys→k+1<xs.length→∃(xa:List α)(x1 x2:α)(xb:List α)(ya:List β)(y1 y2:β)(yb:List β),xs=xa++x1::x2::xb∧ys=ya++y1::y2::yb∧xa.length=k∧Paired R xa ya∧R x1 y1∧R x2 y2∧Paired R xb yb
 |_,_,k,.nil,h=>by simp at h
 |_,_,0,.cons h1 .nil,h=>by simp at h
 |_,_,0,.cons h1 (.cons h2 r),_=>⟨[],_,_,_,[],_,_,_,rfl,rfl,rfl,.nil,h1,h2,r⟩
 |_,_,k+1,.cons h1 r,h=>by
  obtain⟨xa,x1,x2,xb,ya,y1,y2,yb,e1,e2,e3,p1,r1,r2,p2⟩:=Pz k r (by simpa using h);exact⟨_::xa,x1,x2,xb,_::ya,y1,y2,yb,by rw[e1];rfl,by rw[e2];rfl,by rw[zu,e3],.cons h1 p1,r1,r2,p2⟩
theorem m5{xa xb:List V}{d:Int}(h:(xa.length:Int)=d):dj (xa++xb) none (some d)=xa:=by
 unfold dj;rw[←h,HT.sIx_none,HT.sIx_nat,BC,Nat.sub_zero,yM,Nat.min_eq_left (Nat.le_add_right _ _),List.take_left]
theorem iX{xa xb:List V}{x1 x2:V}{d:Int}(h:(xa.length:Int)=d):dj (xa++x1::x2::xb) (some (d+2)) none=xb:=by
 have e:d+2=((xa.length+2:Nat):Int):=by omega
 have e2:xa++x1::x2::xb=(xa++[x1,x2])++xb:=by simp
 have e3:(xa++[x1,x2]).length=xa.length+2:=by simp
 unfold dj;rw[e,HT.sIx_none,HT.sIx_nat,e2,Nat.min_eq_left (by rw[yM,e3];omega),←e3,List.drop_left,yM,Nat.add_sub_cancel_left,yV]
theorem rC{xa xb:List V}{x1:V}{d:Int}(h:(xa.length:Int)=d):atI (xa++x1::xb) d=some x1:=by
 rw[←h];exact Rl (by simp)
theorem rN{xa xb:List V}{x1 x2:V}{d:Int}(h:(xa.length:Int)=d):atI (xa++x1::x2::xb) (d+1)=some x2:=by
 rw[←h];exact Rl (j:=xa.length+1) (by simp)
def szs(ts:List Tr):Nat:=(ts.map fun t=>t.size+1).sum
def als(ts:List Tr):Nat:=(ts.map fun t=>t.all.length).sum
theorem R8(xs ys:List Tr):szs (xs++ys)=szs xs+szs ys:=by unfold szs;rw[yR,A9]
theorem Rn(xs ys:List Tr):als (xs++ys)=als xs+als ys:=by unfold als;rw[yR,A9]
theorem U5(t:Tr)(ts:List Tr):szs (t::ts)=t.size+1+szs ts:=by unfold szs;rw[yD,y4]
theorem Uh(t:Tr)(ts:List Tr):als (t::ts)=t.all.length+als ts:=by unfold als;rw[yD,y4]
def Trk(or:Int)(t:Tr):Prop:=∀s∈t.streams,∀x∈s,ThK or x
theorem qt:∀t:Tr,t.ht<t.size
 |.leaf _=>Nat.zero_lt_one
 |.node l r=>by
  have a:=qt l;have b:=qt r;show max l.ht r.ht+1<l.size+r.size+1;omega
def muT(σ:St)(H:Hp):Nat:=match List.getD σ 3 none with
 |some (V.ref l)=>(match H l with
  |some (HO.lst xs)=>xs.length
  |_=>0)
 |_=>0
def xR(K:W.Frag):Sp:=fun vs H Q _=>∃(a S:Addr)(ns:List Int)(or most:Int),vs=[.ref a,.int or,.int most]∧Pn K S ns H a∧1≤or∧or≤10∧1≤most∧most≤20∧∀(v:V)(t:Tr)(H':Hp),Trk or t→(t.size:Int)+1≤2*most→(t.all.length:Int)≤6*most→DV (aw a H') v t.D→Pn K S ns H' a→Grw a H H'→Q v H'
theorem xf(av:mg "range"=none)(aM:mg "len"=none)(af:Has P w K mg base "_law_take" 1 ["_law_pen_here","_law_most"] (bL K))(iF:Has P w K mg base "_law_stream" 3 ["_law_pen_here","_law_deep","_law_most"] (uz K))(F:Fun K "_law_tree" "_law_tree" c_ f fd):FnOk P w K mg base CX0 4 f fd ["_law_pen_here","_law_deep","_law_most"] (xR K):=by
 refine F.ok Uk (fun vs H Q E h=>?_) (fun cdv A outer s H vs Q E hr h=>?_)
 ·obtain⟨a,S,ns,or,most,rfl,_⟩:=h;rfl
 obtain⟨a,S,ns,or,most,rfl,hp,d0,d1,m0,m1,hq⟩:=h;refine⟨_,(Z2 (Vo (i:=3) Uk.nd rfl rfl (own:=["_law_k"]) (Wf rfl rfl) (Xh rfl av (Z0 (Zb Zs Z4 (Z6 af hr (Z0 (pv 0) (Z0 (pv 2) Z1)))) Z1))
  (fun _ _ _ _ _=>(Z8 (i:=0) Sg rfl (Or.inl rfl) (Or.inr rfl))) (fun _ _ _ _ _=>Yp)
  (fun _ _ _ _ _=>(Z6 iF hr (Z0 (pv 1) (Z0 (pv 2) (Z0 Z4 Z1)))))) Ze),?_⟩
 refine⟨_,rfl,_,rfl,a,S,ns,most,rfl,hp,by omega,by omega,fun d H1 x0 x1 hp1 g1=>⟨_,_,rfl,rfl,1+d,rfl,by omega,by omega,?_⟩⟩;refine i6 (fun i ys H'=>Pn K S ns H' a∧Grw a H H'∧∃trs:List Tr,trs.length=i∧(∀t∈trs,Trk or t)∧szs trs=2*i∧als trs≤6*i∧Paired (fun v t=>DV (aw a H') v t.D) ys trs) ⟨hp1,g1,[],rfl,fun _ h=>absurd h zw,rfl,yB _,.nil⟩ ?_ ?_
 ·rintro i ys H2 C hi ⟨hp2,g2,trs,tl,ok,sz,al,pr⟩ hC;have yl:=yK pr;refine⟨Zh (by omega),Wk.refl _,_,rfl,_,rfl,a,S,ns,or,6,rfl,hp2,d0,d1,by decide,by decide,fun L ts H3 nL tk tsl dv hp3 g3=>hC _ _ ⟨hp3,g2.trans g3,trs++[.leaf ts],by rw[yM,tl];rfl,fun t ht=>?_,?_,?_,?_⟩⟩
  ·rcases zk.mp ht with h | h
   ·exact ok t h
   ·rw[yG.mp h];intro s hs;rw[yG.mp hs];exact tk
  ·rw[R8,sz,U5];show 2*i+(1+1+0)=2*(i+1);omega
  ·rw[Rn,Uh];show als trs+(ts.length+0)≤6*(i+1);omega
  ·exact Tt (Paired.mapP pr fun _ _ h=>h.mono g3) (.cons dv .nil)
 rintro ys H2 ⟨hp,gg,trs,tl,ok,sz,al,pr⟩;have yl:=yK pr;refine⟨Zf (by omega),fun l nl=>?_⟩;have la:=hp.ne nl;have gl:=hp.grw (Z5 nl (.lst ys));have BN:aw a (upd H2 l (.lst ys)) l=some (.lst ys):=by rw[Zj la];exact Z3
 have hp:=hp.laid (o:=.lst ys) nl;have gg:=gg.trans gl;have pr:=Paired.mapP pr fun _ _ h=>h.mono gl;generalize upd H2 l (.lst ys)=H3 at BN hp gg pr⊢;have tpos:1≤trs.length:=by omega
 have sz:(szs trs:Int)≤2*most:=by omega
 have al:(als trs:Int)≤6*most:=by omega
 have tsm:trs.length≤20:=by omega
 clear yl tl gl;refine⟨_,(Z2 (Q6 zl (Zn Tu (Zg Y7 rfl aM An (Z0 (pv 3) Z1)) Z4 (Zm _)) (Z2 (Y0 4 Uk.nd rfl (Or.inl rfl) (Z6 af hr (Z0 (pv 0) (Z0 (Zb Xx (Zg Y7 rfl aM An (Z0 (pv 3) Z1)) Z4) Z1))))
 (Z7 (Y0 3 Uk.nd rfl (Or.inl rfl) (Zb eO (Zb eO (Q9 jH (pv 3) eU (d_ (pv 4))) (X2 (Z0 (Zu (Z0 Vq (Z0 (Yc Yx (pv 3) (pv 4)) (Z0 (Yc Yx (pv 3) (Zb Zs (pv 4) Z4)) Z1)))) Z1))) (Q9 jH (pv 3) (d_ (Zb Zs (pv 4) Z4)) eU)))))) Ze),?_⟩
 refine Rp (fun σ H'=>∃(l:Addr)(o4:Option V)(ys:List V)(trs:List Tr),σ=[some (.ref a),some (.int or),some (.int most),some (.ref l),o4]∧Pn K S ns H' a∧Grw a H H'∧aw a H' l=some (.lst ys)∧Paired (fun v t=>DV (aw a H') v t.D) ys trs∧(∀t∈trs,Trk or t)∧1≤trs.length∧trs.length≤20∧(szs trs:Int)≤2*most∧(als trs:Int)≤6*most) muT ⟨l,none,ys,trs,rfl,hp,gg,BN,pr,ok,tpos,tsm,sz,al⟩ ?_ ?_
 ·clear hp gg BN pr ok tpos tsm sz al;rintro σ H4 ⟨l,o4,ys,trs,rfl,hp,gg,BN,pr,ok,tpos,tsm,sz,al⟩;have yl:=yK pr;refine⟨_,rfl,l,_,rfl,.inl (V4 BN),_,_,rfl,rfl,_,rfl,Wp (fun c=>?_) (fun c=>?_)⟩
  ·have c:(1:Int)<(ys.length:Int):=yJ c;have mu4:muT [some (.ref a),some (.int or),some (.int most),some (.ref l),o4] H4=ys.length:=by
    unfold muT;show(match H4 l with
     |some (HO.lst xs)=>xs.length
     |_=>0)=_
    rw[(Za BN).2]
   rw[mu4];refine⟨_,rfl,_,rfl,l,_,rfl,.inl (V4 BN),_,_,rfl,rfl,a,S,ns,_,rfl,hp,by omega,by omega,fun d H5 y0 y1 hp g5=>?_⟩;have gg:=gg.trans g5;have BN:=g5 _ _ BN;have pr:=Paired.mapP pr fun _ _ h=>h.mono g5;obtain⟨xa,x1,x2,xb,ta,t1,t2,tb,rfl,rfl,xal,pa,r1,r2,pb⟩:=Pz d.toNat pr (by omega);have xd:(xa.length:Int)=d:=by omega
   have ca:=m5 (xb:=x1::x2::xb) xd;have cb:=iX (xb:=xb) (x1:=x1) (x2:=x2) xd;have a1:=rC (x1:=x1) (xb:=x2::xb) xd;have a2:=rN (x1:=x1) (x2:=x2) (xb:=xb) xd;have pal:=yK pa;have pbl:=yK pb;rw[yM,zu,zu]at tsm;have gk:Grw a H5 H5:=fun _ _ e=>e;refine⟨_,rfl,_,rfl,_,rfl,l,_,rfl,V4 BN,?_⟩;rw[ca];intro p1 n_p1;generalize hz:upd _ p1 _=G1;revert G1;refine blk ?_;intro G1 hz;have hw:=Us hz n_p1 hp;have hp:=hw.1;have gz:=hw.2.1;have ne_p1:=hw.2.2.1;have n8:=hw.2.2.2;clear hw hz;have gg:=gg.trans gz;have BN:=gz _ _ BN;have gk:=gk.trans gz;refine⟨_,rfl,_,rfl,l,_,d,x1,rfl,rfl,V4 BN,a1,?_⟩;refine⟨_,rfl,_,rfl,_,_,rfl,rfl,l,_,d+1,x2,rfl,rfl,V4 BN,a2,leN rfl,?_⟩;intro c n_c;generalize hz:upd _ c _=G2;revert G2;refine blk ?_;intro G2 hz;have hw:=Us hz n_c hp;have hp:=hw.1;have gz:=hw.2.1;have ne_c:=hw.2.2.1;have BM:=hw.2.2.2;clear hw hz;have gg:=gg.trans gz;have BN:=gz _ _ BN;have n8:=gz _ _ n8;have gk:=gk.trans gz;refine⟨leN rfl,?_⟩;intro p2 tJ;generalize hz:upd _ p2 _=G3;revert G3;refine blk ?_;intro G3 hz;have hw:=Us hz tJ hp;have hp:=hw.1;have gz:=hw.2.1;have ne_p2:=hw.2.2.1;have cA:=hw.2.2.2;clear hw hz;have gg:=gg.trans gz;have BN:=gz _ _ BN;have n8:=gz _ _ n8;have BM:=gz _ _ BM;have gk:=gk.trans gz;refine⟨p1,p2,_,_,rfl,rfl,(Za n8).2,(Za cA).2,Zf (by rw[z6];omega),?_⟩;intro p3 n_p3;generalize hz:upd _ p3 _=G4;revert G4;refine blk ?_;intro G4 hz;have hw:=Us hz n_p3 hp;have hp:=hw.1;have gz:=hw.2.1;have ne_p3:=hw.2.2.1;have i_:=hw.2.2.2;clear hw hz;have gg:=gg.trans gz;have BN:=gz _ _ BN;have BM:=gz _ _ BM;have gk:=gk.trans gz;refine⟨_,rfl,_,rfl,_,_,rfl,rfl,_,rfl,l,_,rfl,V4 BN,?_⟩;rw[cb];intro p4 n_p4;generalize hz:upd _ p4 _=G5;revert G5;refine blk ?_;intro G5 hz;have hw:=Us hz n_p4 hp;have hp:=hw.1;have gz:=hw.2.1;have ne_p4:=hw.2.2.1;have e_p4:=hw.2.2.2;clear hw hz;have gg:=gg.trans gz;have BM:=gz _ _ BM;have i_:=gz _ _ i_;have gk:=gk.trans gz;refine⟨p3,p4,_,_,rfl,rfl,(Za i_).2,(Za e_p4).2,Zf (by rw[yM,z6];omega),?_⟩;intro p5 n_p5;generalize hz:upd _ p5 _=G6;revert G6;refine blk ?_;intro G6 hz;have hw:=Us hz n_p5 hp;have hp:=hw.1;have gz:=hw.2.1;have ne_p5:=hw.2.2.1;have ym:=hw.2.2.2;clear hw hz;have gg:=gg.trans gz;have BM:=gz _ _ BM;have gk:=gk.trans gz;refine⟨⟨p5,_,_,ta++[.node t1 t2]++tb,rfl,hp,gg,ym,?_,?_,?_,?_,?_,?_⟩,?_⟩
   ·exact Tt (Tt (Paired.mapP pa fun _ _ h=>h.mono gk) (.cons (.tup BM (.cons (.str _) (.cons (r1.mono gk) (.cons (r2.mono gk) .nil)))) .nil)) (Paired.mapP pb fun _ _ h=>h.mono gk)
   ·intro t ht
    rcases zk.mp ht with ht | ht
    ·rcases zk.mp ht with ht | ht
     ·exact ok t (Ab _ ht)
     ·rw[yG.mp ht];intro s hs
      rcases zk.mp hs with hs | hs
      ·exact ok t1 (yT _ (.head _)) s hs
      ·exact ok t2 (yT _ (.tail _ (.head _))) s hs
    ·exact ok t (yT _ (.tail _ (.tail _ ht)))
   ·rw[yM,yM,z6];omega
   ·rw[yM,yM,z6];omega
   ·rw[R8,U5,U5]at sz;rw[R8,R8,U5];have:szs ([]:List Tr)=0:=rfl;show((szs ta+(t1.size+t2.size+1+1+szs [])+szs tb:Nat):Int)≤_;omega
   ·rw[Rn,Uh,Uh]at al;rw[Rn,Rn,Uh];have:als ([]:List Tr)=0:=rfl;show((als ta+((t1.all++t2.all).length+als [])+als tb:Nat):Int)≤_;rw[yM];omega
   ·unfold muT;show(match G6 p5 with
     |some (HO.lst xs)=>xs.length
     |_=>0)<_
    rw[(Za ym).2];show(xa++[V.ref c]++xb).length<_;rw[yM,yM,z6,yM,zu,zu];omega
  ·have c:¬((1:Int)<(ys.length:Int)):=Au (zY.mpr c);obtain⟨t,rfl⟩:∃t,trs=[t]:=List.length_eq_one_iff.mp (by omega);cases pr with
   |cons r1 r=>
   cases r;refine⟨_,(Z7 (Zd (Yc Yx (pv 3) Z4))),_,rfl,l,_,0,_,rfl,rfl,V4 BN,rfl,?_⟩;rw[U5]at sz;rw[Uh]at al;have s0:szs ([]:List Tr)=0:=rfl;have l0:als ([]:List Tr)=0:=rfl;exact hq _ t _ (ok t (.head _)) (by omega) (by omega) r1 hp gg
 ·rintro σ H' Q1 Q2 m ⟨v,e,p,ys,e1,e2,i,j,e3,e4,k,e5,r⟩;exact⟨v,e,p,ys,e1,e2,i,j,e3,e4,k,e5,m _ _ r⟩
end K30
namespace L2
open PySem PySem.Spec PyProof.Rows
variable{prog:Program}{w:World}{A:Around}{E:Value→Shared→Prop}{s:Shared}
section
variable{X:Cx}
end
section
variable{X:Cx}{x c n:Str}{p pos cpos epos np ap hpos:Pos}{e:Expr}{es:List Expr}{ta:TA}{tb:TS}{b₀:Stmt}{suite:List Stmt}{j k i:Nat}{ps:List Str}{sp:Sp}{S:Addr}
end
section
variable{P:Program}{w:World}{A:Around}{E:Value→Shared→Prop}{s:Shared}{a b:Addr}{va vb:List (Key×Value)}
end
theorem Ow{M:Model}{α:Type}{f:α→PUnit→Sem (ForInStep PUnit)}:∀(xs:List α),(∀x∈xs,∀Q:ForInStep PUnit→Shared→Prop,Q (.yield ⟨⟩) s→wpAny M A (f x ⟨⟩) Q E s)→∀{Q:PUnit→Shared→Prop},Q ⟨⟩ s→wpAny M A (forIn xs PUnit.unit f) Q E s
 | [],_,_,h=>by
  rw[List.forIn_nil];exact yx h
 |x::xs,hf,_,h=>by
  rw[Br];exact io (hf x (.head _) _ (Ow xs (fun y hy=>hf y (.tail _ hy)) h))
theorem mq{f:Nat→PUnit→Sem (ForInStep PUnit)}:(forIn [:(#[]:Array DictEntry).size] PUnit.unit f:Sem PUnit)=forIn ([]:List Nat) PUnit.unit f:=by
 rw[AC];rfl
theorem u9:(some (Value.builtin "tuple.__eq__")==some (Value.builtin "object.__eq__"))=false:=by decide
theorem wc{es:List DictEntry}{e:DictEntry}(nd:(es.map (·.hash)).Nodup)(he:e∈es):¬(es.filter fun x=>x.hash==e.hash).length > 1:=by
 induction es with
 |nil=>cases he
 |cons x es ih=>
  rw[yD,y7]at nd
  rcases yO.mp he with h | h
  ·have z:es.filter (fun y=>y.hash==e.hash)=[]:=List.filter_eq_nil_iff.mpr fun y hy c=>nd.1 (yz.mpr ⟨y,hy,by rw[←h];exact eq_of_beq c⟩);rw[zt,z]
   split <;> simp
  ·have ne:(x.hash==e.hash)=false:=Ao.mpr fun c=>nd.1 (yz.mpr ⟨e,h,c.symm⟩);rw[zt,yA (by rw[ne];exact yP)];exact ih nd.2 h
theorem oN{l:Addr}{xs:List TKv}{Q:Value→Shared→Prop}(lo:(l==sysModules)=false)(hd:s.heap.DictOfH (tupleKind (ac prog w)) l xs)(hz:xs.length≤sizeLine)(hs:(xs.map fun x=>(tupleKind (ac prog w)).hash x.1).Nodup)(h:∀g,(∀b o,s.heap.get? b=some o→g.get? b=some o)→iR prog w g s.heap.objs.size xs→Q (.ref s.heap.objs.size) {s with heap:=g}):wpAny (model prog w) A (call (.type "dict") [.ref l]) Q E s:=by
 obtain⟨o,es,ep,ho,ex,od,el,ek,nd⟩:=hd;refine callType_codes (Q₁:=fun obj s₁=>obj=.ref s.heap.objs.size∧s₁={s with heap:=s.heap.push {cls:=.type "dict",data:=.dict #[]}}) F.kt_called_dict (F.kt_typeCall_dict_1 _) F.entry_dict_init (kt_code_dict_new _ ⟨rfl,rfl⟩) ?_;rintro obj s₁ ⟨rfl,rfl⟩;have gD:(s.heap.push {cls:=.type "dict",data:=.dict #[]}).get? s.heap.objs.size=some {cls:=.type "dict",data:=.dict #[]}:=yH _ rfl;have hl1:(s.heap.push {cls:=.type "dict",data:=.dict #[]}).get? l=some o:=yy _ ho;have ltl:l<s.heap.objs.size:=yE ho;refine⟨⟨_,gD,rfl⟩,F.args_dict_init_2 _ _,?_⟩;unfold Builtin.«dict.__init__»;refine io ?_;unfold Builtin.Dict.selfAndRest;refine io (z7 ⟨_,gD,rfl⟩ (yx (a:=(s.heap.objs.size,[Value.ref l])) ?_));show wpAny (model prog w) _ (Builtin.Dict.updateFrom "dict.__init__" s.heap.objs.size (.ref l) [] .none) _ _ _;unfold Builtin.Dict.updateFrom;refine io (AE (T:="dict") ⟨_,hl1,ex.1⟩ ?_);rw[yA (by decide)];refine io ?_;unfold Builtin.Dict.merge;refine io ?_;unfold Builtin.Dict.readDirectly;refine io (A2 (T:="dict") ⟨_,hl1,ex.1⟩ isSubtype_dict_dict ?_);rw[yA (by decide)];refine io (Bs (T:="dict") ⟨_,hl1,ex.1⟩ PySem.F.slot_dict_iter.lookup (yx ?_));rw[yC (by decide)];refine io (yx ?_);unfold Builtin.Dict.mergeDict;rw[yA (by rw[Ao.mpr (zR ltl)];exact yP)];refine io ?_;unfold Builtin.Dict.showsAll;rw[lo,yA yP];refine yx (io (zc hl1 od ?_));have fin:∀g,(∀b o,s.heap.get? b=some o→g.get? b=some o)→iR prog w g s.heap.objs.size xs→wpAny (model prog w) A.in1.in1 (do
   Builtin.Dict.addKeywords s.heap.objs.size []
   ret Value.none) (fun fin s'=>
    match fin with
    |Fin.done f=>wants (fun r s₂=>r=Value.none∧Q (Value.ref s.heap.objs.size) s₂) E (Except.ok f) s'
    |Fin.again c'=>c'.quiet=true∧codeAny (model prog w) A.in1 c' (wants (fun r s₂=>r=Value.none∧Q (Value.ref s.heap.objs.size) s₂) E) s')
   (fun e s'=>wants (fun r s₂=>r=Value.none∧Q (Value.ref s.heap.objs.size) s₂) E (Except.error e) s') {s with heap:=g}:=fun g kp rw=>
  io (m:=Builtin.Dict.addKeywords s.heap.objs.size []) (yx (yx ⟨rfl,h g kp rw⟩))
 have kp0:∀b o,s.heap.get? b=some o→(s.heap.push {cls:=.type "dict",data:=.dict #[]}).get? b=some o:=fun b o e=>yy _ e;have sz:es.size=xs.length:=by rw[←yU,el,pi]
 have hn:(es.toList.map (·.hash)).Nodup:=by
  rw[el,yQ];exact hs
 dsimp only;cases hx:xs with
 |nil=>
  have e0:es=#[]:=Array.eq_empty_of_size_eq_zero (by rw[sz,hx];rfl);rw[if_neg (by rw[e0];simp)];refine io (AS hl1 od (io (zc hl1 od ?_)));rw[e0];refine io ?_;rw[mq];refine Ow [] (fun _ h=>absurd h zw) (yx ?_);exact fin _ kp0 ⟨_,#[],0,gD,⟨rfl,rfl,rfl⟩,rfl,by rw[hx];rfl,nd⟩
 |cons x0 xr=>
  have few:(decide (es.size≤8) && es.all fun e=>(keyPart e.key).isSome)=false:=by
   rw[Bool.and_eq_false_iff];refine .inr ?_;rw[←Array.all_toList,el,hx];rfl
  rw[yC (by rw[few];rfl)];refine io (zc gD rfl ?_);rw[yC (by decide)];refine io ?_;unfold Builtin.Dict.entriesForEmpty;refine io (zc hl1 od (io ?_));rw[←Array.forIn_toList];refine Ow _ (fun e he Q' hq'=>?_) (yx ?_)
  ·rw[el]at he;obtain⟨x,hxm,rfl⟩:=yz.mp he;obtain⟨ot,its,n,t1,t2,_⟩:=(show IsTupleKey (ac prog w) s.heap x.1 x.2.1 from ek x hxm);refine io ?_;show wpAny (model prog w) _ (do
    let __do_lift ←specialOf (.ref x.2.1) (Str.ofString "__eq__")
    pure (__do_lift==some (Value.builtin "object.__eq__"))) _ _ _
   refine io (Bs (T:="tuple") ⟨_,kp0 _ _ t1,t2⟩ PySem.F.slot_tuple_eq.lookup (yx ?_));rw[u9,yC (show(!false)=true from rfl)];have no:¬(es.filter fun y=>y.hash==(entryOfKey (tupleKind (ac prog w)) x).hash).size > 1:=by
    rw[←yU,Array.toList_filter];exact wc hn (by rw[el];exact he)
   rw[yA no];exact yx hq'
  ·have ne:es.isEmpty=false:=by
    rw[Array.isEmpty_eq_false_iff];intro z;rw[z,hx]at sz;cases sz
   rw[yC (by rw[ne];rfl)];refine io (wpAny_updateDictKeysTo gD rfl (yx ?_) (by rw[sz];omega));refine fin _ (fun b o e=>?_) ⟨_,es,1,Bb _ gD rfl,⟨rfl,rfl,rfl⟩,rfl,el,nd⟩;exact(zS _ _ (Ne.symm (yN (yE e)))).trans (kp0 b o e)
section
variable{X:Cx}
def sU(P:Program)(w:World):List V→Hp→VK→Prop:=fun xs H Q=>∃(l:Addr)(kvs:List (List Key×V)),xs=[.ref l]∧H l=some (.dT kvs)∧(kvs.map fun kv=>(tupleKind (ac P w)).hash kv.1).Nodup∧∀p,H p=none→Q (.ref p) (upd H p (.dT kvs))
theorem j4{H:Hp}{kvs:List (List Key×V)}{xs:List TKv}(h:KT H kvs xs):xs.map (·.1)=kvs.map (·.1):=by
 induction h with
 |nil=>rfl
 |cons h r ih=>rw[yD,yD,ih,h.1]
theorem gA:aL X (.type "dict") (sU X.prog X.w):=by
 intro BF s σ H xs us Q I rx h;obtain⟨l,kvs,rfl,hd,hn,q⟩:=h;obtain⟨u,rfl,ru⟩:=W2 rx;cases ru;obtain⟨z,lo,xs,kt,dd⟩:=Oe I.hok hd;have kl:=yK kt;have hn2:(xs.map fun x=>(tupleKind (ac X.prog X.w)).hash x.1).Nodup:=by
  have e:(xs.map fun x=>(tupleKind (ac X.prog X.w)).hash x.1)=(xs.map (·.1)).map (tupleKind (ac X.prog X.w)).hash:=by rw[yQ];rfl
  rw[e,j4 kt,yQ];exact hn
 refine oN lo dd (by rw[←kl];exact z) hn2 fun g kp hD=>?_;refine⟨.ref s.heap.objs.size,_,I.laid (t':=s.toks) (o:=.dT kvs) kp (yB _) ⟨z,Ao.mpr (zR I.big),xs,?_,hD⟩,rfl,q _ (I.hok.fresh (yB _))⟩;exact KT.keeps kt fun b ys e=>by rw[Zc (Zk e (I.hok.fresh (yB _)))];exact e
def uU(tk tv:TE):TE:=fun σ H Q=>∀p,H p=none→tk σ (upd H p (.dT [])) fun x H1=>tv σ H1 fun v H2=>∃(b:Addr)(k:List Key),x=.ref b∧H2 p=some (.dT [])∧H2 b=some (.tup (k.map kV))∧Q (.ref p) (upd H2 p (.dT [(k,v)]))
theorem oO{pos:Pos}{k v:Expr}{tk tv:TE}(hu:X.A.units+64<cLine)(hk:PE X k tk)(hv:PE X v tv):PE X (.Dict [some k] [v] pos) (uU tk tv):=by
 intro BF s σ H Q I q;have hn:=I.hok.fresh (yB s.heap.objs.size);have I1:=I.laid (a:=s.heap.objs.size) (o:=.dT []) (h':=s.heap.push {cls:=.type "dict",data:=.dict #[]}) (t':=s.toks) (fun _ _ q=>yy _ q) (yB _) (h_ s.heap I.big);refine wpAny_Dict_any rfl rfl (fun z=>nomatch z) (Nat.le_of_ble_eq_true rfl) (thn (pF hk hv sY BF _ σ _ (fun ps H2=>match ps with
  | [(x,v)]=>∃(b:Addr)(k:List Key),x=.ref b∧H2 s.heap.objs.size=some (.dT [])∧H2 b=some (.tup (k.map kV))∧Q (.ref s.heap.objs.size) (upd H2 s.heap.objs.size (.dT [(k,v)]))
  |_=>False) I1 (q _ hn)) fun ws s2 ⟨ps,H2,I2,rel,q1⟩=>?_)
 obtain⟨x,v,rfl,b,k,ex,e,eb,q2⟩:∃(x v:V),ps=[(x,v)]∧∃(b:Addr)(k:List Key),x=.ref b∧H2 s.heap.objs.size=some (.dT [])∧H2 b=some (.tup (k.map kV))∧Q (.ref s.heap.objs.size) (upd H2 s.heap.objs.size (.dT [(k,v)])):=by
  cases ps with
  |nil=>exact q1.elim
  |cons p ps=>
   obtain⟨x,v⟩:=p;cases ps with
   |nil=>exact⟨x,v,rfl,q1⟩
   |cons _ _=>exact q1.elim
 subst ex;cases rel with
 | @cons a c as bs h1 r=>
 cases r;obtain⟨u,r⟩:=c;cases (show u=Value.ref b from h1.1);obtain⟨z,hd,xs,rel,dd⟩:=Oe I2.hok e;cases rel;unfold storeAll;rw[Br];refine io (io (wpAny_dictSet_heap (show X.A.units<cLine by omega) (Uc I2.hok eb) dd (fun h' dd' hs=>yx ?_) (zP _)));show wpAny _ _ (forIn [] PUnit.unit _) _ _ _;rw[List.forIn_nil];refine yx ?_;obtain⟨q,es,ep,hq,h2,h3,h4,_,h5⟩:=dd';refine⟨.ref s.heap.objs.size,_,eX (ob:=.dT [(k,v)]) I2 (by rw[e];exact True.intro) hs ⟨q,hq⟩ ⟨Zf (by show 1≤_;omega),hd,_,(KT.put (kvs:=[]) (xs:=[]) .nil k eb h1.2).keeps fun c ys ec=>?_,q,es,ep,hq,h2,h3,h4,h5⟩,rfl,q2⟩;rw[Zc (U1 ec e (fun z=>nomatch z))];exact ec
def xO(D:Ends)(d:Addr)(kvs:List (List Key×V))(o:Obj):Ends where
 nx:=fun σ2 H2=>H2 d=some (.frz o (.dT kvs))∧D.nx σ2 (upd H2 d (.dT kvs))
 rt:=fun v H2=>H2 d=some (.frz o (.dT kvs))∧D.rt v (upd H2 d (.dT kvs))
 bk:=fun σ2 H2=>H2 d=some (.frz o (.dT kvs))∧D.bk σ2 (upd H2 d (.dT kvs))
 ct:=fun σ2 H2=>H2 d=some (.frz o (.dT kvs))∧D.ct σ2 (upd H2 d (.dT kvs))
def xv(t:TS):TS:=fun D σ H=>∃(d:Addr)(kvs:List (List Key×V)),H d=some (.dT kvs)∧∀o,t (xO D d kvs o) σ (upd H d (.frz o (.dT kvs)))
theorem tX{st:Stmt}{t:TS}(h:PS X st t):PS X st (xv t):=by
 intro BF s σ H D I hw;obtain⟨d,kvs,hd,q⟩:=hw;obtain⟨o,I1,nf⟩:=I.freezeT hd;refine thn (h BF s σ _ _ I1 (q o)) fun f s1 hf=>?_;cases f with
 |next=>
  obtain⟨σ2,H2,I2,hd2,q2⟩:=hf;exact⟨σ2,_,I2.thawT nf hd2,q2⟩
 |brk=>
  obtain⟨σ2,H2,I2,hd2,q2⟩:=hf;exact⟨σ2,_,I2.thawT nf hd2,q2⟩
 |cont=>
  obtain⟨σ2,H2,I2,hd2,q2⟩:=hf;exact⟨σ2,_,I2.thawT nf hd2,q2⟩
 |ret u=>
  obtain⟨v,σ2,H2,I2,r,hd2,q2⟩:=hf;exact⟨v,σ2,_,I2.thawT nf hd2,r,q2⟩
end
theorem k9{d:Addr}{o:Obj}{kvs:List (List Key×V)}{g:TG}{tb:TS}{D:Ends}{σ:St}{H:Hp}(Pv:Nat→St→Hp→Prop)(h0:Pv 0 σ H)(hl:∀i σ H,Pv i σ H→H d=some (.frz o (.dT kvs)))(hs:∀i p b σ H (N B1:St→Hp→Prop) (R:VK),(∀σ' H',Pv (i+1) σ' H'→N σ' H')→(∀v H',D.rt v H'→R v H')→kvs[i]?=some p→H b=some (.tup (p.1.map kV))→Pv i σ H→g (.ref b) σ H fun σ2 H2=>tb {nx:=N,rt:=R,bk:=B1,ct:=N} σ2 H2)(hd:∀σ H,Pv kvs.length σ H→D.nx σ H):
  ∃W:Nat→Nat→St→Hp→Prop,(∃m,W 0 m σ H)∧∀i m σ H,W i m σ H→
   ((mF d kvs o).stop i H∧D.nx σ H)∨((mF d kvs o).go i H∧∃N:St→Hp→Prop,(∀σ' H',N σ' H'→∃m',m'<m∧W (i+1) m' σ' H')∧∀x H',(mF d kvs o).yld i H x H'→g x σ H' fun σ2 H2=>tb {D with nx:=N,ct:=N,bk:=D.nx} σ2 H2):=by
 refine⟨fun i m σ H=>m=kvs.length-i∧i≤kvs.length∧Pv i σ H,⟨kvs.length,by simp,Nat.zero_le _,h0⟩,?_⟩;rintro i m σ H ⟨rfl,hi,p⟩;have q:=hl i σ H p;by_cases BL:i<kvs.length
 ·refine .inr ⟨⟨BL,q⟩,Pv (i+1),fun σ' H' p'=>⟨kvs.length-(i+1),by omega,rfl,BL,p'⟩,fun x H' y=>?_⟩;obtain⟨e,p',b,hp',rfl,hb⟩:=y;subst e;exact hs i p' b σ _ (Pv (i+1)) D.nx D.rt (fun _ _ h=>h) (fun _ _ h=>h) hp' hb p
 ·have e:i=kvs.length:=by omega
  subst e;exact .inl ⟨⟨yB _,q⟩,hd σ H p⟩
end L2
namespace Ld
open PySem L2
def nod:Nat→List Nat→Bool
 | 0,xs=>decide (xs.length≤1)
 |n+1,xs=>if decide (xs.length≤1)then true else nod n ((xs.filter fun x=>x % 2==0).map (· / 2)) && nod n ((xs.filter fun x=>!(x % 2==0)).map (· / 2))
theorem gG{α:Type}{xs:List α}(h:xs.length≤1):xs.Nodup:=by
 match xs,h with
 | [],_=>exact zA
 | [x],_=>exact y7.mpr ⟨zw,zA⟩
theorem iC:∀(n:Nat)(xs:List Nat),nod n xs=true→xs.Nodup
 | 0,xs,h=>gG (yJ h)
 |n+1,xs,h=>by
  unfold nod at h
  split at h
  ·rename_i c;exact gG (yJ c)
  ·obtain⟨h1,h2⟩:=(zz _ _).mp h;have a:=Ve (iC n _ h1);have b:=Ve (iC n _ h2);have p:(xs.filter (fun x=>x % 2==0)++xs.filter (fun x=>!(x % 2==0))).Perm xs:=List.filter_append_perm _ _;refine p.nodup_iff.mp (Be.mpr ⟨a,b,fun x hx y hy e=>?_⟩);have c1:=(yZ.mp hx).2;have c2:=(yZ.mp hy).2;rw[←e]at c2;simp[c1]at c2
def oU(h i:Int):Int:=reduceHash (Builtin.Tuple.tupleHashOf [hashInt h,hashInt i])
def allK:List (Nat×Nat):=(List.range 11).flatMap fun h=>(List.range (2^(10-h))).map fun i=>(h,i)
def qc(k:Nat×Nat):Nat:=(oU k.1 k.2+18446744073709551616).toNat
theorem rJ:nod 70 (allK.map qc)=true:=by decide +kernel
theorem vi:(allK.map qc).Nodup:=iC 70 _ rJ
theorem tD{h i:Nat}(hh:h≤10)(hi:i<2^(10-h)):(h,i)∈allK:=List.mem_flatMap.mpr ⟨h,Bw.mpr (by omega),yz.mpr ⟨i,Bw.mpr hi,rfl⟩⟩
theorem Oa{α β:Type}{f:α→β}:∀{l:List α},(l.map f).Nodup→∀{a b:α},a∈l→b∈l→f a=f b→a=b
 |x::l,nd,a,b,ha,hb,e=>by
  rw[yD,y7]at nd
  rcases yO.mp ha with ha | ha
  ·rcases yO.mp hb with hb | hb
   ·rw[ha,hb]
   ·exact absurd (yz.mpr ⟨b,hb,by rw[←e,ha]⟩) nd.1
  ·rcases yO.mp hb with hb | hb
   ·exact absurd (yz.mpr ⟨a,ha,by rw[e,hb]⟩) nd.1
   ·exact Oa nd.2 ha hb e
theorem rV{or:Int}(d1:or≤10){k l:Int×Int}(hk:0≤k.1∧k.1≤or∧0≤k.2∧k.2<2^(or-k.1).toNat)(hl:0≤l.1∧l.1≤or∧0≤l.2∧l.2<2^(or-l.1).toNat)(e:oU k.1 k.2=oU l.1 l.2):k=l:=by
 have go:∀{k:Int×Int},(0≤k.1∧k.1≤or∧0≤k.2∧k.2<2^(or-k.1).toNat)→(k.1.toNat,k.2.toNat)∈allK:=fun{k} hk=>by
  refine tD (by omega) ?_;have a:(2:Nat)^(or-k.1).toNat≤2^(10-k.1.toNat):=Nat.pow_le_pow_right (by decide) (by omega);have b:((2^(or-k.1).toNat:Nat):Int)=(2:Int)^(or-k.1).toNat:=by push_cast;rfl
  have c:=hk.2.2.2;rw[←b]at c;omega
 have e2:qc (k.1.toNat,k.2.toNat)=qc (l.1.toNat,l.2.toNat):=by
  unfold qc;rw[show(((k.1.toNat,k.2.toNat):Nat×Nat).1:Int)=k.1 from Int.toNat_of_nonneg hk.1,show(((k.1.toNat,k.2.toNat):Nat×Nat).2:Int)=k.2 from Int.toNat_of_nonneg hk.2.2.1,show(((l.1.toNat,l.2.toNat):Nat×Nat).1:Int)=l.1 from Int.toNat_of_nonneg hl.1,show(((l.1.toNat,l.2.toNat):Nat×Nat).2:Int)=l.2 from Int.toNat_of_nonneg hl.2.2.1,e]
 have e3:=Oa vi (go hk) (go hl) e2;injection e3 with e4 e5
 exact zN (by omega) (by omega)
theorem nU{or:Int}(d1:or≤10){ks:List (Int×Int)}(o:Kok or ks):(ks.map fun k=>oU k.1 k.2).Nodup:=
 z9.mpr (o.nd.imp_of_mem fun{a b} ha hb ne e=>ne (rV d1 (o.st a ha) (o.st b hb) e))
end Ld
namespace K30
open PySem L2 Ld
theorem sJ{P:Program}{w:World}{or:Int}(d1:or≤10){ps:Sps}(o:Kok or (ps.map (·.1))):((ad ps).map fun kv=>(tupleKind (ac P w)).hash kv.1).Nodup:=by
 have h:=nU d1 o;have e:((ad ps).map fun kv=>(tupleKind (ac P w)).hash kv.1)=(ps.map (·.1)).map fun k=>oU k.1 k.2:=by
  unfold ad;rw[yQ,yQ];rfl
 rw[e];exact h
theorem gt{BE or:Int}{qs rs as bs fs qs':Sps}(p:qs.Perm as)(q:rs.Perm bs)(nq:(qs.map (·.1)).Nodup)(nr:(rs.map (·.1)).Nodup)(s:Stl or (ah (aD qs rs) / BE) (aD qs rs) fs qs'):qs'.Perm (cg BE or as bs):=by
 have pp:=oz p q nq nr;have e:=(qO s pp (Ti nq)).1;rw[V6 pp]at e;unfold cg;rw[e];exact(Y5 qs').symm
theorem Qw{BE or:Int}(d0:0≤or):∀{t:Tr},(∀s∈t.streams,∀x∈s,ThL or x)→Lok BE or (glT BE or t)∧ah (glT BE or t)=aT t.all∧(glT BE or t).length≤t.all.length
 |.leaf ts,h=>jX d0 (h ts (.head _))
 |.node l r,h=>by
  obtain⟨a1,a2,a3⟩:=Qw (BE:=BE) d0 (t:=l) fun s hs=>h s (Ab _ hs);obtain⟨b1,b2,b3⟩:=Qw (BE:=BE) d0 (t:=r) fun s hs=>h s (yT _ hs);obtain⟨c1,c2,c3⟩:=j8 (BE:=BE) a1.pok b1.pok;refine⟨c1,?_,?_⟩
  ·show ah (cg BE or (glT BE or l) (glT BE or r))=aT (l.all++r.all);rw[c2,a2,b2];unfold aT;rw[yR,A9]
  ·show(cg BE or (glT BE or l) (glT BE or r)).length≤(l.all++r.all).length;rw[yM];omega
def nJ:Sp:=fun vs H Q _=>∃(d1 d2:Addr)(or:Int)(xs ys:Sps),vs=[.ref d1,.ref d2]∧H d1=some (.dT (ad xs))∧H d2=some (.dT (ad ys))∧or≤10∧Kok or (xs.map (·.1))∧(ys.map (·.1)).Nodup∧xs.length+ys.length≤500∧∀(d:Addr)(H':Hp),Same H H'→H d=none→H' d=some (.dT (ad (aD xs ys)))→Q (.ref d) H'
def jI(m:Nat):Sp:=fun vs H Q _=>∃(v:V)(BE or:Int)(t:Tr),vs=[.int BE,.int or,v]∧DV H v t.D∧t.ht<m∧(∀s∈t.streams,∀x∈s,ThL or x)∧t.all.length≤62∧1≤BE∧BE≤20∧0≤or∧or≤10∧∀(d:Addr)(qs:Sps)(H':Hp),Same H H'→H d=none→H' d=some (.dT (ad qs))→qs.Perm (glT BE or t)→Q (.ref d) H'
section
variable{P:Program}{w:World}{K:W.Frag}{mg:Str→Option Value}{base:Heap}{f:Addr}{fd:FuncData}
theorem uV(aZ:mg "dict"=none)(F:Fun K "_law_added" "_law_added" cN f fd):FnOk P w K mg base CX0 1 f fd ["_law_one","_law_other"] nJ:=by
 refine F.ok T7 (fun vs H Q E h=>?_) (fun cdv A outer s H vs Q E hr h=>?_)
 ·obtain⟨d1,d2,or,xs,ys,rfl,_⟩:=h;rfl
 obtain⟨d1,d2,or,xs,ys,rfl,e1,e2,dp,kok,ny,len,hq⟩:=h;refine⟨_,(Z2 (Y0 2 T7.nd rfl (Or.inl rfl) (X1 gA rfl aZ A7 (Z0 (pv 0) Z1))) Ze),?_⟩;refine⟨_,rfl,d1,_,rfl,e1,sJ dp kok,fun d n_d=>?_⟩;have sm:=Z5 n_d (.dT (ad xs));have ed:(upd H d (.dT (ad xs))) d=some (.dT (ad xs)):=Z3;have e22:=sm _ _ e2;generalize upd H d (.dT (ad xs))=H1 at sm ed e22⊢;have dd:d≠d2:=(Zk e2 n_d).symm;refine⟨_,(Z2 (tX (Yr zl rfl (Q8 (pv 1)) (Z8 (i:=3) T7.nd rfl (Or.inl rfl))
 (Z7 (Wr (X3 hr) (pv 2) (pv 3) (Zb Zs (Wi (X3 hr) (pv 2) (pv 3) Z4 ⟨rfl,rfl,rfl,rfl⟩) (Wa (X3 hr) (pv 1) (pv 3) (fun _ _=>rfl))) rfl)))) Ze),?_⟩
 refine⟨d2,_,e22,fun o=>⟨_,rfl,d2,o,_,rfl,Z3,?_⟩⟩;refine k9 (fun i σ H'=>∃(o3:Option V),σ=[some (.ref d1),some (.ref d2),some (.ref d),o3]∧(∀b w,b≠d2→H b=some w→H' b=some w)∧H' d2=some (.frz o (.dT (ad ys)))∧H' d=some (.dT (ad (aD xs (ys.take i))))∧(aD xs (ys.take i)).length≤xs.length+i) ⟨_,rfl,fun b w nb e=>by rw[Zc nb];exact sm _ _ e,Z3,by rw[Zc dd];exact ed,yB _⟩ ?_ ?_ ?_
 ·rintro i σ H' ⟨_,_,_,e,_⟩;exact e
 ·rintro i p0 b σ H' N B1 R hN hR hp0 BJ ⟨o3,rfl,kp,ef,ed,al⟩;obtain⟨p,hp,rfl⟩:=i4 hp0;have il:i<ys.length:=(yI.mp hp).1;have BJ:KAt H' b p.1:=BJ;have st:aD xs (ys.take (i+1))=ao (aD xs (ys.take i)) p.1 (cnt (aD xs (ys.take i)) p.1+p.2):=by rw[Zo hp,P8]
  rw[st]at hN;generalize aD xs (ys.take i)=zs at ed al hN;have l1:=W9 zs p.1 (cnt zs p.1+p.2);have lk:=Wu ny (yW hp);refine⟨_,rfl,d,rfl,.inr ⟨_,.inl ed⟩,_,rfl,_,X9 ed BJ,_,rfl,_,rfl,d2,.int p.2,rfl,by rw[←lk];exact tR ef BJ,_,p.2,W7 _ _,rfl,_,rfl,_,rfl,d,_,rfl,DPut.t (k:=kk p.1) ed BJ (Zh (by rw[Zx];omega)),?_⟩;refine hN _ _ ⟨_,rfl,fun x w nx e=>?_,by rw[Zc (Ne.symm dd)];exact ef,by rw[←T9];exact Z3,by omega⟩;rw[Zc (Zk e n_d)];exact kp x w nx e
 ·rintro σ H' ⟨o3,rfl,kp,ef,ed,_⟩;rw[Zx,yV]at ed;refine⟨ef,_,(Z7 (Zd (pv 2))),_,rfl,hq d _ (fun b w e=>?_) n_d (by rw[Zc dd];exact ed)⟩;by_cases z:b=d2
  ·rw[z]at e⊢;rw[e2]at e;rw[←e];exact Z3
  ·rw[Zc z];exact kp b w z e
theorem wk{m:Nat}(bX:Has P w K mg base "_law_grown" (2+m) ["_law_room","_law_deep","_law_tree_here"] (jI m))(bx:Has P w K mg base "_law_added" 1 ["_law_one","_law_other"] nJ)(aW:Has P w K mg base "_law_settle" 2 ["_law_now","_law_room","_law_deep"] i9)(ag:mg "isinstance"=none)(aJ:mg "list"=none)(F:Fun K "_law_grown" "_law_grown" bW f fd):FnOk P w K mg base CX0 (2+m+1) f fd ["_law_room","_law_deep","_law_tree_here"] (jI (m+1)):=by
 refine F.ok Xu (fun vs H Q E h=>?_) (fun cdv A outer s H vs Q E hr h=>?_)
 ·obtain⟨v,BE,or,t,rfl,_⟩:=h;rfl
 obtain⟨v,BE,or,t,rfl,dv,ht,tw,tal,r0,r1,d0,dp,hq⟩:=h;refine⟨_,(Z2 (Y0 3 Xu.nd rfl (Or.inl rfl) Qa) Ze),fun p0 np0=>?_⟩;have sm:=Z5 np0 (.dT []);have ep:(upd H p0 (.dT [])) p0=some (.dT (ad [])):=Z3;generalize upd H p0 (.dT [])=H1 at sm ep⊢;refine⟨_,(Z2 (Yu (Xw (Zg Wy rfl ag zF (Z0 (pv 2) (Z0 (Wb (v:=.ty "list") rfl aJ AF rfl) Z1)))) (Z2 (Yr zl rfl (Zq (pv 2)) (Z8 (i:=4) Xu.nd rfl (Or.inl rfl))
 (Z2 (Y0 5 Xu.nd rfl (Or.inl rfl) (oO hr.units (Zu (Z0 Z4 (Z0 (Yc Y9 (pv 4) Z4) Z1))) (Yc Y9 (pv 4) Z4)))
 (Z2 (Xz (Z6 aW hr (Z0 (pv 5) (Z0 (pv 0) (Z0 (pv 1) Z1)))))
 (Z2 (Y0 3 Xu.nd rfl (Or.inl rfl) (Z6 bx hr (Z0 (pv 3) (Z0 (pv 5) Z1))))
 (Z7 (Xz (Z6 aW hr (Z0 (pv 3) (Z0 (pv 0) (Z0 (pv 1) Z1))))))))))
 (Z7 (Zd (pv 3)))) Zw) Ze),?_⟩
 cases t with
 |leaf ts=>
  obtain⟨b,xs,rfl,eb,qb⟩:=DV.list_inv dv;have tw:∀x∈ts,ThL or x:=tw ts (.head _);have tal:ts.length≤62:=tal;have xl:=qb.length;rw[pi]at xl;refine⟨_,rfl,_,_,"list",_,rfl,TyOf.lst (sm _ _ eb),vm,_,rfl,Vv ?_⟩;refine⟨_,rfl,b,rfl,⟨_,SqL.of (sm _ _ eb)⟩,?_⟩;refine Yi (xs:=xs) (fun n σ H'=>∃(d:Addr)(o4 o5:Option V)(qs:Sps),σ=[some (.int BE),some (.int or),some (.ref b),some (.ref d),o4,o5]∧Same H H'∧H d=none∧H' d=some (.dT (ad qs))∧qs.Perm (de BE or (ts.take n))) ⟨p0,_,_,[],rfl,sm,np0,ep,.refl _⟩ ?_ ?_ ?_
  ·rintro n σ H' _ ⟨_,_,_,_,_,g,_⟩;exact SqL.of (g _ _ eb)
  ·rintro n x σ H2 N B1 R hN hR hx ⟨d,o4,o5,qs,rfl,g,nd,ed,pm⟩;obtain⟨t,c,hth,rfl,ec,hm⟩:=DVs.th_at qb hx;have nl:n<ts.length:=(yI.mp hth).1;obtain⟨oka,_,len⟩:=jX (BE:=BE) d0 fun u hu=>tw u (Bi (i:=n) hu);rw[yX]at len;have e:de BE or (ts.take (n+1))=cg BE or (de BE or (ts.take n)) (thL BE or t):=by rw[Zo hth,mC]
   rw[e]at hN;generalize de BE or (ts.take n)=la at pm oka len hN;have ql:=pm.length_eq;have ot:=jL d0 (tw t hm);have ec:=g _ _ ec;intro p np;have sp:=Z5 np (.dT []);have BK:(upd H2 p (.dT [])) p=some (.dT []):=Z3;have nHp:H p=none:=g.free np;have g:=g.trans sp;have ec:=sp _ _ ec;have ed:=sp _ _ ed;have pd:p≠d:=(Zk (by assumption:H2 d=some (.dT (ad qs))) np).symm;generalize upd H2 p (.dT [])=H3 at g ec ed BK⊢;refine⟨_,rfl,c,_,2,_,rfl,rfl,SqT.of ec,rfl,leN rfl,fun k nk=>?_⟩;have sk:=Z5 nk (.tup [.int 0,.int t.num]);have e_k:(upd H3 k (.tup [.int 0,.int t.num])) k=some (.tup [.int 0,.int t.num]):=Z3;have g:=g.trans sk;have ec:=sk _ _ ec;have ed:=sk _ _ ed;have BK:=sk _ _ BK;generalize upd H3 k (.tup [.int 0,.int t.num])=H4 at g ec ed BK e_k⊢;refine⟨_,rfl,c,_,3,_,rfl,rfl,SqT.of ec,rfl,k,kk (0,t.num),rfl,BK,e_k,?_⟩;have g5:Same H (upd H4 p (.dT (ad [((0,t.num),t.many)]))):=Vl g nHp;have ed5:(upd H4 p (.dT (ad [((0,t.num),t.many)]))) d=some (.dT (ad qs)):=by rw[Zc (Ne.symm pd)];exact ed
   have ep5:(upd H4 p (.dT (ad [((0,t.num),t.many)]))) p=some (.dT (ad [((0,t.num),t.many)])):=Z3;show _;refine⟨_,rfl,_,rfl,_,rfl,p,BE,or,[((0,t.num),t.many)],rfl,ep5,ot.kok,r0,r1,d0,by omega,by show 1<64;omega,fun t1 H6 fs1 rs g6 nt1 ep6 _ _ st1 kr rl=>?_⟩;rw[j1]at st1;have pr:rs.Perm (thL BE or t):=by
    have:=(eM st1 ot.kok.nd).1;unfold thL;rw[this];exact(Y5 rs).symm
   have g:=Tf nHp g5 g6;have ed6:H6 d=some (.dT (ad qs)):=(Za (g6 d _ (by rw[Zj (Ne.symm pd)];exact ed5))).2;have rl:rs.length≤1:=rl;have kq:Kok or (qs.map (·.1)):=oka.pok.kok.perm (pm.map _);clear g5 ed5 ep5 g6 e_k BK ec ed;refine⟨_,rfl,_,rfl,d,p,or,qs,rs,rfl,ed6,ep6,dp,kq,kr.nd,by omega,fun d' H7 g7 nd' ed7=>?_⟩;have nHd:H d'=none:=g.free nd';have g:=g.trans g7;have al:=Uv rs qs;have okt:=(oJ (BE:=BE) d0 (tw t hm)).1;have oka2:Pok or (aD qs rs):=Ro (oka.pok.perm pm) (okt.pok.perm pr).each;refine⟨_,rfl,_,rfl,_,rfl,d',BE,or,aD qs rs,rfl,ed7,oka2.kok,r0,r1,d0,by omega,by omega,fun t2 H8 fs2 us g8 nt2 ed8 _ _ st2 ku ul=>?_⟩;exact hN _ _ ⟨d',_,_,us,rfl,Tf nHd g g8,nHd,ed8,gt pm pr kq.nd kr.nd st2⟩
  ·rintro σ H2 ⟨d,o4,o5,qs,rfl,g,nd,ed,pm⟩;rw[xl,yV]at pm;exact⟨_,rfl,hq d qs _ g nd ed pm⟩
 |node l r=>
  obtain⟨a,mm,x,y,rfl,e,hx,hy⟩:=DV.node_inv dv;have ht:max l.ht r.ht+1<m+1:=ht;have tal:(l.all++r.all).length≤62:=tal;rw[yM]at tal;have twl:∀s∈l.streams,∀x∈s,ThL or x:=fun s hs=>tw s (Ab _ hs);have twr:∀s∈r.streams,∀x∈s,ThL or x:=fun s hs=>tw s (yT _ hs);obtain⟨a1,_,a3⟩:=Qw (BE:=BE) d0 twl;obtain⟨b1,_,b3⟩:=Qw (BE:=BE) d0 twr;refine⟨_,rfl,_,_,"list",_,rfl,TyOf.tup (sm _ _ e),uT,_,rfl,Yz ?_⟩;refine⟨_,(Z2 (Y0 3 Xu.nd rfl (Or.inl rfl) (Z6 bx hr (Z0 (Z6 bX hr (Z0 (pv 0) (Z0 (pv 1) (Z0 (Yc Y9 (pv 2) Z4) Z1)))) (Z0 (Z6 bX hr (Z0 (pv 0) (Z0 (pv 1) (Z0 (Yc Y9 (pv 2) Z4) Z1)))) Z1)))) Ze),?_⟩;refine⟨_,rfl,_,rfl,_,rfl,a,_,1,_,rfl,rfl,SqT.of (sm _ _ e),ub _ _ _,x,BE,or,l,rfl,hx.mono sm,by omega,twl,by omega,r0,r1,d0,dp,fun e1 qs H2 g2 n1 ed1 p1=>?_⟩;have gg:=sm.trans g2;refine⟨_,rfl,_,rfl,_,rfl,a,_,2,_,rfl,rfl,SqT.of (gg _ _ e),kF _ _ _,y,BE,or,r,rfl,hy.mono gg,by omega,twr,by omega,r0,r1,d0,dp,fun e2 rs H3 g3 n2 ed2 p2=>?_⟩;have gg:=gg.trans g3;have l1:=p1.length_eq;have l2:=p2.length_eq;have kq:Kok or (qs.map (·.1)):=a1.pok.kok.perm (p1.map _);have kr:Kok or (rs.map (·.1)):=b1.pok.kok.perm (p2.map _);refine⟨e1,e2,or,qs,rs,rfl,g3 _ _ ed1,ed2,dp,kq,kr.nd,by omega,fun d H4 g4 n4 ed4=>?_⟩;have nHd:H d=none:=gg.free n4;have gg:=gg.trans g4;have al:=Uv rs qs;have oka2:Pok or (aD qs rs):=Ro (a1.pok.perm p1) (b1.pok.perm p2).each;refine⟨_,(Z2 (Xz (Z6 aW hr (Z0 (pv 3) (Z0 (pv 0) (Z0 (pv 1) Z1))))) Ze),?_⟩;refine⟨_,rfl,_,rfl,_,rfl,d,BE,or,aD qs rs,rfl,ed4,oka2.kok,r0,r1,d0,by omega,by omega,fun t2 H8 fs2 us g8 nt2 ed8 _ _ st2 ku ul=>?_⟩;exact⟨_,(Z7 (Zd (pv 3))),_,rfl,hq d us _ (Tf nHd gg g8) nHd ed8 (gt p1 p2 kq.nd kr.nd st2)⟩
theorem uc(bx:Has P w K mg base "_law_added" 1 ["_law_one","_law_other"] nJ)(aW:Has P w K mg base "_law_settle" 2 ["_law_now","_law_room","_law_deep"] i9)(ag:mg "isinstance"=none)(aJ:mg "list"=none)(F:Fun K "_law_grown" "_law_grown" bW f fd)(b:Binds K fd ["_law_room","_law_deep","_law_tree_here"] [])(hm:mg "_law_grown"=some (.ref f)):
  ∀m:Nat,Has P w K mg base "_law_grown" (2+m) ["_law_room","_law_deep","_law_tree_here"] (jI m)
 | 0=>Has.of (sg fun vs H Q E h=>by
   obtain⟨v,BE,or,t,_,_,h1,_⟩:=h;omega) b F.kp hm
 |m+1=>Has.of (wk (uc bx aW ag aJ F b hm m) bx aW ag aJ F) b F.kp hm
end
end K30
namespace L2
open PySem PySem.Spec PyProof.Rows
section
variable{P:Program}{w:World}{A:Around}{E:Value→Shared→Prop}{s:Shared}{a b:Addr}{xa xb:List TKv}{H:Hp}{ps qs:Sps}
theorem Wj{α β:Type}{F:α→β→Prop}:∀{xs:List α}{ys:List β}{i:Nat}{x:α},Paired F xs ys→xs[i]?=some x→∃y,ys[i]?=some y∧F x y
 |_,_,_,_,.nil,e=>by simp at e
 |_,_,0,_,.cons a _,e=>by simp at e;subst e;exact⟨_,rfl,a⟩
 |_,_,i+1,x,.cons _ r,e=>by
  obtain⟨y,h1,h2⟩:=Wj (i:=i) r (by simpa using e);exact⟨y,by simpa using h1,h2⟩
theorem qA{α β:Type}{f:α→β}:∀{l:List α},(l.map f).Nodup→∀{a b:α},a∈l→b∈l→f a=f b→a=b
 |x::l,nd,a,b,ha,hb,e=>by
  rw[yD,y7]at nd
  rcases yO.mp ha with ha | ha
  ·rcases yO.mp hb with hb | hb
   ·rw[ha,hb]
   ·exact absurd (yz.mpr ⟨b,hb,by rw[←e,ha]⟩) nd.1
  ·rcases yO.mp hb with hb | hb
   ·exact absurd (yz.mpr ⟨a,ha,by rw[e,hb]⟩) nd.1
   ·exact qA nd.2 ha hb e
theorem um{ps:Sps}{xs:List TKv}(r:KT H (ad ps) xs){j:Nat}{x:TKv}(h:xs[j]?=some x):∃p t,ps[j]?=some p∧x.1=kk p.1∧x.2.2=.int p.2 t:=by
 have kl:=yK r;rw[Zx]at kl;have hj:j<ps.length:=by rw[kl];exact(yI.mp h).1
 obtain⟨p,hp⟩:∃p,ps[j]?=some p:=⟨ps[j],y3 hj⟩;have e2:(ad ps)[j]?=some (kk p.1,.int p.2):=by unfold ad;rw[yL,hp];rfl
 obtain⟨y,hy,f⟩:=Wj r e2;rw[h]at hy;cases hy;obtain⟨f1,_,t,f3⟩:=f;exact⟨p,t,hp,f1.symm,f3⟩
theorem p9{nm:String}{Q:Bool→Shared→Prop}(hu:A.units<cLine)(ha:(a==sysModules)=false)(hb:(b==sysModules)=false)(da:s.heap.DictOfH (tupleKind (ac P w)) a xa)(db:s.heap.DictOfH (tupleKind (ac P w)) b xb)(ra:KT H (ad ps) xa)(rb:KT H (ad qs) xb)(h:Q (decide (ps.length=qs.length) && ps.all fun p=>decide (p∈qs)) s):
  wpAny (model P w) A (Builtin.Dict.samePairs nm a b) Q E s:=by
 obtain⟨oa,ea,pa,ga,xca,qa,ta,ka,na⟩:=da;obtain⟨ob,eb,pb,gb,xcb,qb,tb,kb,nb⟩:=db;have la:ea.size=ps.length:=by rw[←yU,ta,pi,←yK ra,Zx]
 have lb:eb.size=qs.length:=by rw[←yU,tb,pi,←yK rb,Zx]
 have sh:∀{d:Addr}{R:Unit→Shared→Prop},(d==sysModules)=false→R () s→wpAny (model P w) A (Builtin.Dict.showsAll d) R E s:=fun{d R} hd hr=>by
  unfold Builtin.Dict.showsAll;rw[yA (by rw[hd];decide)];exact yx hr
 unfold Builtin.Dict.samePairs;refine io (sh ha (io (sh hb (io (zc ga qa (io (zc gb qb ?_)))))));by_cases hl:ps.length=qs.length
 ·rw[if_neg (by rw[la,lb,hl];simp)];refine io (AS ga qa (io ?_));rw[AC];refine zT (wpAny_forIn_list _ (fun rest r s'=>∃i,rest=List.range' i (ea.size-i)∧i≤ea.size∧r=(none,())∧s=s'∧∀p∈ps.take i,p∈qs)
   (fun r s'=>s=s'∧((r=(none,())∧(ps.all fun p=>decide (p∈qs))=true)∨(r=(some false,())∧(ps.all fun p=>decide (p∈qs))=false))) ?_ ?_ _ _ ⟨0,?_,zP _,rfl,rfl,?_⟩) ?_ (fun _ _ z=>z)
  ·rintro x rest r s' ⟨i,he,hi,rfl,rfl,hp⟩;have hin:i<ea.size:=by
    rcases Am i ea.size with z | z
    ·exact z
    ·rw[Nat.sub_eq_zero_of_le z]at he;cases he
   rw[show ea.size-i=(ea.size-(i+1))+1 by omega,List.range'_succ]at he;obtain⟨rfl,rfl⟩:=List.cons.inj he.symm;have hge:ea[i]?=some ea[i]:=yS hin;have hx:(xa.map (entryOfKey (tupleKind (ac P w))))[i]?=some ea[i]:=by rw[←ta,zo];exact hge
   rw[yL]at hx;obtain⟨x,hxi,hxe⟩:=y8.mp hx;obtain⟨p,t,hpi,e1,e2⟩:=um ra hxi;have tk:ps.take (i+1)=ps.take i++[p]:=Zo hpi;have fF:p∉qs→(ps.all fun p=>decide (p∈qs))=false:=fun hs=>List.all_eq_false.mpr ⟨p,yW hpi,by rw[yY hs];decide⟩;have fT:p∈qs→∀q∈ps.take (i+1),q∈qs:=fun hs q hq=>by
    rw[tk]at hq
    rcases zk.mp hq with z | z
    ·exact hp q z
    ·rw[yG.mp z];exact hs
   have kx:ea[i].key=.ref x.2.1:=by rw[←hxe];rfl
   have hv:ea[i].val=.int p.2 t:=by rw[←hxe];exact e2
   have hh:ea[i].hash=(tupleKind (ac P w)).hash x.1:=by rw[←hxe];rfl
   refine io (zc ga qa ?_);rw[hge];refine io (zn (io ?_));rw[kx,hh];refine wpAny_dictFind_heap (show A.units<cLine from hu) (ka x (yW hxi)) gb qb tb kb nb (fun no=>?_) (fun j q hj=>?_)
   ·refine yx ?_;rw[yC (by decide)];refine yx ⟨rfl,.inr ⟨rfl,fF fun hm=>?_⟩⟩;obtain⟨j,hj⟩:=Aj hm;have e3:(ad qs)[j]?=some (kk p.1,.int p.2):=by unfold ad;rw[yL,hj];rfl
    obtain⟨y,hy,f⟩:=Wj rb e3;refine no j y.2 ?_;rw[hy,e1];exact zW some (zN f.1.symm rfl)
   ·obtain⟨p2,t2,hp2,e3,e4⟩:=um rb hj;have e3:x.1=kk p2.1:=e3;have ke:p.1=p2.1:=Vu (e1.symm.trans e3);have hbj:eb[j]?=some (entryOfKey (tupleKind (ac P w)) (x.1,q)):=by
     rw[←zo,tb,yL,hj];rfl
    refine io (zc gb qb ?_);rw[hbj];refine zn ?_;rw[hv,show(entryOfKey (tupleKind (ac P w)) (x.1,q)).val=.int p2.2 t2 from e4];refine wpAny_eqBool_int ?_;by_cases z:p.2=p2.2
    ·rw[if_neg (by simp[z])];refine io (AS ga qa ?_);rw[if_neg (by simp)];refine yx ⟨i+1,rfl,by omega,rfl,rfl,fT ?_⟩;rw[show p=p2 from zN ke z];exact yW hp2
    ·rw[if_pos (by simp[z])];refine yx ⟨rfl,.inr ⟨rfl,fF fun hm=>z ?_⟩⟩;have nq:(qs.map (·.1)).Nodup:=by
      have:(xb.map (·.1))=(ad qs).map (·.1):=j4 rb;rw[this,S5]at nb;exact(z9.mp nb).imp fun h e=>h (by rw[e])
     have:=qA nq hm (yW hp2) ke;rw[this]
  ·rintro r s' ⟨i,he,hi,rfl,rfl,hp⟩;refine⟨rfl,.inl ⟨rfl,?_⟩⟩;have hz:ea.size-i=0:=by
    cases hq:ea.size-i with
    |zero=>rfl
    |succ q=>rw[hq,List.range'_succ]at he;cases he
   rw[List.take_of_length_le (by omega)]at hp;exact zL.mpr fun p hm=>yF (hp p hm)
  ·simp
  ·intro p hp;simp at hp
  ·rintro r s' ⟨rfl,⟨rfl,hv⟩|⟨rfl,hv⟩⟩
   ·rw[hv,yF hl]at h;exact yx h
   ·rw[hv,Bool.and_false]at h;exact yx h
 ·rw[if_pos (by rw[la,lb];simpa using hl)];rw[yY hl,A0]at h;exact io (AL (yx h))
end
section
variable{X:Cx}{j k:Nat}{ps:List Str}{sp:Sp}{x:Str}{p pos:Pos}{e:Expr}{es:List Expr}{t:TA}
end
section
variable{X:Cx}{x c n n2:Str}{p pos cpos epos np ap hpos:Pos}{e:Expr}{es:List Expr}{ta:TA}{tb:TS}{b₀:Stmt}{suite:List Stmt}{j k i i2:Nat}{ps:List Str}{sp:Sp}{S:Addr}
end
end L2
namespace K30
open PySem L2 Ld
def aC(ps:Sps):List (Int×Int):=ps.map fun p=>(aq p.1,p.2)
def ak(ps:Sps):List (Int×Int):=ps.map fun p=>(am p.1,p.2)
def mam(ns:List (Int×Int))(x:Int):Int:=((ns.filter fun p=>decide (p.1≤x)).map (·.2)).sum
def Stc(k:Int×Int):Prop:=0≤k.1∧k.1≤20∧0≤k.2∧k.2≤1000000
def Sts(ps:Sps):Prop:=∀p∈ps,Stc p.1
theorem Kok.sts{or:Int}{ps:Sps}(h:Kok or (ps.map (·.1)))(d1:or≤10):Sts ps:=fun p hp=>by
 obtain⟨a,b,c,d⟩:=h.st p.1 (yz.mpr ⟨p,hp,rfl⟩);have:=Wg (m:=or-p.1.1) (by omega);exact⟨a,by omega,c,by omega⟩
def bZ(f:Sps→List (Int×Int)):Sp:=fun vs H Q _=>∃(q:Addr)(BE or total:Int)(ps:Sps),vs=[.ref q]∧LadAt H q BE or total ps∧Sts ps∧ps.length≤200∧∀(l:Addr)(xs:List V)(H':Hp),Same H H'→H' l=some (.lst xs)→NsAt H' xs (f ps)→Q (.ref l) H'
variable{P:Program}{w:World}{K:W.Frag}{mg:Str→Option Value}{base:Heap}{f:Addr}{fd:FuncData}
theorem rT(ci:Has P w K mg base "first_of" 1 ["stretch"] dQ)(F:Fun K "lowest_places" "lowest_places" a8 f fd):FnOk P w K mg base CX0 3 f fd ["ladder"] (bZ aC):=by
 refine F.ok S9 (fun vs H Q E h=>?_) (fun cdv A outer s H vs Q E hr h=>?_)
 ·obtain⟨q,BE,or,total,ps,rfl,_⟩:=h;rfl
 obtain⟨q,BE,or,total,ps,rfl,lad,st,pl,hq⟩:=h;refine⟨_,(Z7 (Zd (Ym (own:=["stretch","count"]) (Wf rfl rfl) (jk (Yc Y9 (pv 0) Z4))
  (fun _ _ _ _ _=>(Xd K 2 rfl rfl (Z9 (Z8 (i:=0) Xl rfl (Or.inl rfl) (Or.inr rfl)) (Z9 (Z8 (i:=1) Xl rfl (Or.inl rfl) (Or.inr rfl)) Y1)))) (fun _ _ _ _ _=>Yp)
  (fun _ _ _ _ _=>(Zu (Z0 (Z6 ci hr (Z0 (pv 0) Z1)) (Z0 (pv 1) Z1))))))),?_⟩
 obtain⟨c,as,BQ,BM,pr⟩:=lad.at_;have al:=yK pr;refine⟨_,rfl,q,_,2,_,rfl,rfl,SqT.of BQ,rfl,c,rfl,⟨_,SqT.of BM⟩,?_⟩;refine P5 (xs:=as.map V.ref) (fun i ys H'=>Same H H'∧NsAt H' ys ((ps.take i).map fun p=>(aq p.1,p.2))) ⟨Same.refl _,.nil⟩ ?_ ?_ ?_
 ·rintro i ys H' _ ⟨g,_⟩;exact SqT.of (g _ _ BM)
 ·rintro i x ys H1 C hx ⟨gg,na⟩ hC;obtain⟨a,p,rfl,hp,b,BP,BJ⟩:=Ue pr hx;have yl:=na.len;rw[pi,yX]at yl;obtain⟨h0,h1,i0,i1⟩:=st p (yW hp);refine⟨Zh (by omega),a,_,rfl,SqT.of (gg _ _ BP),rfl,_,_,rfl,_,_,rfl,rfl,Wk.refl _,_,rfl,b,p.1,rfl,gg _ _ BJ,h0,h1,i0,by omega,_,rfl,leN rfl,?_⟩;intro t n_t;generalize hz:upd _ t _=H2;revert H2;refine blk ?_;intro H2 hz;have gz:=Zi hz n_t;have BR:=Zr hz;clear hz;have gg:=gg.trans gz;refine hC _ _ ⟨gg,?_⟩;rw[Rt _ hp];exact(na.mono gz).snoc (p:=(aq p.1,p.2)) BR
 rintro ys H1 ⟨gg,na⟩;have yl:=na.len;rw[pi,pi,yX]at yl;refine⟨Zf (by omega),?_⟩;intro l n_l;generalize hz:upd _ l _=H2;revert H2;refine blk ?_;intro H2 hz;have gz:=Zi hz n_l;have BN:=Zr hz;clear hz;have gg:=gg.trans gz;have na:=na.mono gz;rw[pi,al,yV]at na;exact hq l ys _ gg BN na
theorem oS(cK:Has P w K mg base "last_of" 2 ["stretch"] jq)(F:Fun K "highest_places" "highest_places" aV f fd):FnOk P w K mg base CX0 3 f fd ["ladder"] (bZ ak):=by
 refine F.ok Tp (fun vs H Q E h=>?_) (fun cdv A outer s H vs Q E hr h=>?_)
 ·obtain⟨q,BE,or,total,ps,rfl,_⟩:=h;rfl
 obtain⟨q,BE,or,total,ps,rfl,lad,st,pl,hq⟩:=h;refine⟨_,(Z7 (Zd (Ym (own:=["stretch","count"]) (Wf rfl rfl) (jk (Yc Y9 (pv 0) Z4))
  (fun _ _ _ _ _=>(Xd K 2 rfl rfl (Z9 (Z8 (i:=0) Xi rfl (Or.inl rfl) (Or.inr rfl)) (Z9 (Z8 (i:=1) Xi rfl (Or.inl rfl) (Or.inr rfl)) Y1)))) (fun _ _ _ _ _=>Yp)
  (fun _ _ _ _ _=>(Zu (Z0 (Z6 cK hr (Z0 (pv 0) Z1)) (Z0 (pv 1) Z1))))))),?_⟩
 obtain⟨c,as,BQ,BM,pr⟩:=lad.at_;have al:=yK pr;refine⟨_,rfl,q,_,2,_,rfl,rfl,SqT.of BQ,rfl,c,rfl,⟨_,SqT.of BM⟩,?_⟩;refine P5 (xs:=as.map V.ref) (fun i ys H'=>Same H H'∧NsAt H' ys ((ps.take i).map fun p=>(am p.1,p.2))) ⟨Same.refl _,.nil⟩ ?_ ?_ ?_
 ·rintro i ys H' _ ⟨g,_⟩;exact SqT.of (g _ _ BM)
 ·rintro i x ys H1 C hx ⟨gg,na⟩ hC;obtain⟨a,p,rfl,hp,b,BP,BJ⟩:=Ue pr hx;have yl:=na.len;rw[pi,yX]at yl;have s1:=st p (yW hp);refine⟨Zh (by omega),a,_,rfl,SqT.of (gg _ _ BP),rfl,_,_,rfl,_,_,rfl,rfl,Wk.refl _,_,rfl,b,p.1,rfl,gg _ _ BJ,s1.1,s1.2.1,s1.2.2.1,s1.2.2.2,fun H2 g2=>⟨_,rfl,leN rfl,?_⟩⟩;have gg:=gg.trans g2;have na:=na.mono g2;intro t n_t;generalize hz:upd _ t _=H3;revert H3;refine blk ?_;intro H3 hz;have gz:=Zi hz n_t;have BR:=Zr hz;clear hz;have gg:=gg.trans gz;refine hC _ _ ⟨gg,?_⟩;rw[Rt _ hp];exact(na.mono gz).snoc (p:=(am p.1,p.2)) BR
 rintro ys H1 ⟨gg,na⟩;have yl:=na.len;rw[pi,pi,yX]at yl;refine⟨Zf (by omega),?_⟩;intro l n_l;generalize hz:upd _ l _=H2;revert H2;refine blk ?_;intro H2 hz;have gz:=Zi hz n_l;have BN:=Zr hz;clear hz;have gg:=gg.trans gz;have na:=na.mono gz;rw[pi,al,yV]at na;exact hq l ys _ gg BN na
def sm2(ns:List (Int×Int)):Int:=(ns.map (·.2)).sum
def IsPl(ns:List (Int×Int))(m x:Int):Prop:=m≤mam ns x∧∀y,y<x→mam ns y<m
theorem IsPl.uniq{ns:List (Int×Int)}{m x y:Int}(h:IsPl ns m x)(g:IsPl ns m y):x=y:=by
 rcases Int.lt_trichotomy x y with z | z | z
 ·have:=g.2 x z;have:=h.1;omega
 ·exact z
 ·have:=h.2 y z;have:=g.1;omega
theorem Tx{l m:List (Int×Int)}(h:l.Perm m)(x:Int):mam l x=mam m x:=Vc ((h.filter _).map _)
theorem Rf(l m:List (Int×Int))(x:Int):mam (l++m) x=mam l x+mam m x:=by
 unfold mam;rw[Ac,yR,A9]
theorem kJ:∀{l:List (Int×Int)}{x:Int},(∀p∈l,p.1≤x)→mam l x=sm2 l:=fun{l x} h=>by
 unfold mam sm2;rw[Ap.mpr fun p hp=>yF (h p hp)]
theorem qp:∀{l:List (Int×Int)}{x:Int},(∀p∈l,x<p.1)→mam l x=0:=fun{l x} h=>by
 unfold mam;rw[List.filter_eq_nil_iff.mpr fun p hp=>by have:=h p hp;simp only[decide_eq_true_eq];omega];rfl
theorem N5:∀{l:List Int},(∀p∈l,0≤p)→0≤l.sum
 | [],_=>y9 _
 |a::l,h=>by
  have h1:=h a (.head _);have h2:=N5 fun p hp=>h p (.tail _ hp);rw[y4];omega
theorem vK{l:List (Int×Int)}(h:∀p∈l,0≤p.2)(x:Int):0≤mam l x:=by
 unfold mam;refine N5 fun n hn=>?_;obtain⟨p,hp,rfl⟩:=yz.mp hn;exact h p (yZ.mp hp).1
theorem nR:∀{l:List (Int×Int)},(∀p∈l,0≤p.2)→∀x,mam l x≤sm2 l
 | [],_,_=>y9 _
 |p::l,h,x=>by
  have h1:=h p (.head _);have h2:=nR (fun p hp=>h p (.tail _ hp)) x;show mam ([p]++l) x≤sm2 ([p]++l);rw[Rf];have e:sm2 ([p]++l)=p.2+sm2 l:=by simp[sm2]
  have e2:mam [p] x≤p.2:=by
   unfold mam;rw[zt]
   split
   ·simp
   ·simpa using h1
  omega
theorem uD{a b:List (Int×Int)}{p:Int×Int}{m:Int}(ha:∀q∈a,q.1≤p.1)(hb:∀q∈b,p.1≤q.1)(pos:∀q∈b,0≤q.2)(posa:∀q∈a,0≤q.2)(h1:sm2 a<m)(h2:m≤sm2 a+p.2):IsPl (a++p::b) m p.1:=by
 refine⟨?_,fun y hy=>?_⟩
 ·rw[Rf,show p::b=[p]++b from rfl,Rf,kJ ha,kJ (l:=[p]) fun q hq=>by rw[yG.mp hq];exact y9 _];have:=vK pos p.1;have e:sm2 [p]=p.2:=by simp[sm2]
  omega
 ·rw[Rf,qp (l:=p::b) fun q hq=>by
   rcases yO.mp hq with e | e
   ·rw[e];exact hy
   ·have:=hb q e;omega]
  have:=nR posa y;omega
def w_:Sp:=fun vs H Q _=>∃(l:Addr)(xs:List V)(ns:List (Int×Int))(m:Int),vs=[.ref l,.int m]∧H l=some (.lst xs)∧NsAt H xs ns∧ns.length<64∧(∀p∈ns,1≤p.2)∧1≤m∧m≤sm2 ns∧∀(x:Int)(H':Hp),Same H H'→IsPl ns m x→Q (.int x) H'
theorem NsAt.refs{H:Hp}:∀{xs:List V}{ns:List (Int×Int)},NsAt H xs ns→∃as:List Addr,xs=as.map V.ref∧Paired (fun a p=>KAt H a p) as ns
 |_,_,.nil=>⟨[],rfl,.nil⟩
 |_,_,.cons h r=>by
  obtain⟨c,rfl,e⟩:=h;obtain⟨as,rfl,q⟩:=NsAt.refs r;exact⟨c::as,rfl,.cons e q⟩
theorem O8{H:Hp}{as bs:List Addr}{ns:List (Int×Int)}(p:bs.Perm as)(h:Paired (fun a p=>KAt H a p) as ns):∃ms:List (Int×Int),ms.Perm ns∧Paired (fun a p=>KAt H a p) bs ms:=by
 induction p generalizing ns with
 |nil=>cases h;exact⟨[],.nil,.nil⟩
 |cons x _ ih=>
  cases h with
  |cons e r=>
   obtain⟨ms,q,g⟩:=ih r;exact⟨_::ms,q.cons _,.cons e g⟩
 |swap x y l=>
  cases h with
  |cons e r=>
   cases r with
   |cons e2 r2=>exact⟨_::_::_,.swap _ _ _,.cons e2 (.cons e r2)⟩
 |trans _ _ ih1 ih2=>
  obtain⟨ms,q,g⟩:=ih2 h;obtain⟨ms2,q2,g2⟩:=ih1 g;exact⟨ms2,q2.trans q,g2⟩
theorem eB{H:Hp}:∀{bs:List Addr}{ms:List (Int×Int)},Paired (fun a p=>KAt H a p) bs ms→(bs.Pairwise fun a b=>∀(k l:(bh aB aB).α),FII H a k→FII H b l→(bh aB aB).blt l k=false)→ms.Pairwise fun p q=>p.1≤q.1
 |_,_,.nil,_=>.nil
 |_,_,@Paired.cons _ _ _ a p bs ms e r,pw=>by
  obtain⟨h1,h2⟩:=ze.mp pw;refine ze.mpr ⟨fun q hq=>?_,eB r h2⟩;obtain⟨b,hb,eb⟩:=Paired.mem2 r q hq;have z:=h1 b hb (p.1,p.2) (q.1,q.2) ⟨_,_,e,rfl⟩ ⟨_,_,eb,rfl⟩;by_cases c:q.1<p.1
  ·have y:(bh aB aB).blt (q.1,q.2) (p.1,p.2)=true:=Yg.mpr (.inl (yF c));exact absurd (y.symm.trans z) (by decide)
  ·omega
theorem gE{ms a b:List (Int×Int)}{p:Int×Int}(pw:ms.Pairwise fun p q=>p.1≤q.1)(e:ms=a++p::b):(∀q∈a,q.1≤p.1)∧∀q∈b,p.1≤q.1:=by
 rw[e]at pw;obtain⟨_,h2,h3⟩:=List.pairwise_append.mp pw;exact⟨fun q hq=>h3 q hq p (.head _),fun q hq=>(ze.mp h2).1 q hq⟩
theorem Na(l m:List (Int×Int)):sm2 (l++m)=sm2 l+sm2 m:=by
 unfold sm2;rw[yR,A9]
theorem jT{α:Type}{l:List α}{i:Nat}{x:α}(h:l[i]?=some x):l.drop i=x::l.drop (i+1):=by
 obtain⟨hi,rfl⟩:=yI.mp h;exact List.drop_eq_getElem_cons hi
theorem xm(aj:mg "sorted"=none)(F:Fun K "number_of_place" "number_of_place" aQ f fd):FnOk P w K mg base CX0 1 f fd ["places","many"] w_:=by
 refine F.ok Ye (fun vs H Q E h=>?_) (fun cdv A outer s H vs Q E hr h=>?_)
 ·obtain⟨l,xs,ns,m,rfl,_⟩:=h;rfl
 obtain⟨l,xs,ns,m,rfl,BN,na,nl,pos,m0,m1,hq⟩:=h;refine⟨_,(Z2 (Y0 2 Ye.nd rfl (Or.inl rfl) (Zg (R0 hr.units) rfl aj zK (Z0 (pv 0) Z1))) Ze),?_⟩;obtain⟨as,rfl,ka⟩:=na.refs;have al:=yK ka;refine⟨_,rfl,l,as,rfl,.inl BN,by omega,fun a ha=>?_,fun bs pb pw=>?_⟩
 ·obtain⟨p,_,e⟩:=Paired.mem1 ka a ha;exact⟨(p.1,p.2),_,_,e,rfl⟩
 obtain⟨ms,pm,kb⟩:=O8 pb ka;have pw:=eB kb pw;have gg:Same H H:=Same.refl _;intro r n_r;generalize hz:upd _ r _=H1;revert H1;refine blk ?_;intro H1 hz;have gz:=Zi hz n_r;have e_r:=Zr hz;clear hz;have gg:=gg.trans gz;have kb:=Paired.mapP kb fun _ _ e=>gg _ _ e;have bl:=yK kb;have pos:∀p∈ms,1≤p.2:=fun p hp=>pos p (pm.mem_iff.mp hp);have m1:m≤sm2 ms:=by
  have:sm2 ms=sm2 ns:=Vc (pm.map _);omega
 refine⟨_,(Z2 (Y0 3 Ye.nd rfl (Or.inl rfl) Z4) Ze),?_⟩;refine⟨_,(Z2 (Q6 zl (Zn Tu (pv 1) (Yc Y9 (Yc Yx (pv 2) (pv 3)) Z4) (Zm _)) (Z2 (Y0 1 Ye.nd rfl (Or.inl rfl) (Zb Xx (pv 1) (Yc Y9 (Yc Yx (pv 2) (pv 3)) Z4)))
 (Z7 (Y0 3 Ye.nd rfl (Or.inl rfl) (Zb Zs (pv 3) Z4))))) Ze),?_⟩
 refine Rp (fun σ H'=>H'=H1∧∃(j:Nat)(n:Int),σ=[some (.ref l),some (.int n),some (.ref r),some (.int (j:Int))]∧1≤n∧sm2 (ms.take j)+n=m∧n≤sm2 (ms.drop j)) (fun σ _=>match List.getD σ 1 none with
  |some (V.int n)=>n.toNat
  |_=>0) ⟨rfl,0,m,rfl,m0,by simp[sm2],m1⟩ ?_ ?_
 ·rintro σ H2 ⟨rfl,j,n,rfl,n0,e1,n1⟩;have jl:j<ms.length:=by
   rcases Am j ms.length with z | z
   ·exact z
   ·rw[List.drop_eq_nil_of_le z]at n1;have:sm2 []=0:=rfl;omega
  obtain⟨p,hp⟩:∃p,ms[j]?=some p:=⟨_,y3 jl⟩;obtain⟨b,hb,BJ⟩:∃b,bs[j]?=some b∧KAt H2 b p:=by
   obtain⟨b,hb⟩:∃b,bs[j]?=some b:=⟨_,y3 (by omega)⟩;obtain⟨p',hp',e⟩:=Wj kb hb;rw[hp]at hp';cases hp';exact⟨b,hb,e⟩
  have dp:=jT hp;have tk:=Zo hp;have hv:atI (bs.map V.ref) (j:Int)=some (.ref b):=Rl (by rw[yL,hb];rfl);refine⟨_,rfl,_,rfl,_,rfl,r,_,_,_,rfl,rfl,SqL.of e_r,hv,b,_,1,_,rfl,rfl,SqT.of BJ,rfl,_,_,rfl,rfl,_,rfl,Wp (fun c=>?_) (fun c=>?_)⟩
  ·have c:p.2<n:=yJ c;have pp:=pos p (yW hp);have sd:sm2 (ms.drop j)=p.2+sm2 (ms.drop (j+1)):=by rw[dp];simp[sm2]
   have st:sm2 (ms.take (j+1))=sm2 (ms.take j)+p.2:=by rw[tk,Na];simp[sm2]
   refine⟨_,rfl,_,rfl,_,rfl,r,_,_,_,rfl,rfl,SqL.of e_r,hv,b,_,1,_,rfl,rfl,SqT.of BJ,rfl,_,_,rfl,rfl,_,rfl,_,_,rfl,rfl,⟨rfl,j+1,n-p.2,rfl,by omega,by omega,by omega⟩,?_⟩;show(n-p.2).toNat<n.toNat;omega
  ·have c:¬p.2<n:=fun z=>c (yF z);refine⟨_,(Z7 (Zd (Yc Y9 (Yc Yx (pv 2) (pv 3)) Z4))),?_⟩;refine⟨_,rfl,_,rfl,r,_,_,_,rfl,rfl,SqL.of e_r,hv,b,_,0,_,rfl,rfl,SqT.of BJ,rfl,hq p.1 _ gg ?_⟩;have ems:ms=ms.take j++p::ms.drop (j+1):=by rw[←dp,List.take_append_drop]
   obtain⟨w1,w2⟩:=gE pw ems;have q1:IsPl ms m p.1:=by
    rw[ems];refine uD w1 w2 (fun q hq=>?_) (fun q hq=>?_) (by omega) (by omega)
    ·have:=pos q (Bk hq);omega
    ·have:=pos q (Bi hq);omega
   exact⟨by rw[←Tx pm];exact q1.1,fun y hy=>by rw[←Tx pm];exact q1.2 y hy⟩
 ·rintro σ H' Q1 Q2 m ⟨a1,b1,a2,b2,a3,b3,p,xs,i,v,c1,c2,c3,c4,q,ys,j,u,d1,d2,d3,d4,n1,n2,f1,f2,t,g,r⟩;exact⟨a1,b1,a2,b2,a3,b3,p,xs,i,v,c1,c2,c3,c4,q,ys,j,u,d1,d2,d3,d4,n1,n2,f1,f2,t,g,m _ _ r⟩
def sE(ps:Sps):Prop:=∀p∈ps,1≤p.2
theorem jR(ps:Sps):sm2 (aC ps)=ah ps:=by
 unfold sm2 aC ah;rw[yQ];rfl
theorem gC(ps:Sps):sm2 (ak ps)=ah ps:=by
 unfold sm2 ak ah;rw[yQ];rfl
def wD:Sp:=fun vs H Q _=>∃(q:Addr)(BE or:Int)(ps:Sps)(n:Int),vs=[.ref q,.int n]∧LadAt H q BE or (ah ps) ps∧Sts ps∧ps.length<64∧sE ps∧1≤n∧n≤ah ps∧∀(t:Addr)(x y:Int)(H':Hp),Same H H'→KAt H' t (x,y)→IsPl (aC ps) n x→IsPl (ak ps) n y→Q (.ref t) H'
theorem wZ(az:Has P w K mg base "lowest_places" 3 ["ladder"] (bZ aC))(ax:Has P w K mg base "highest_places" 3 ["ladder"] (bZ ak))(bo:Has P w K mg base "number_of_place" 1 ["places","many"] w_)(F:Fun K "place_in" "place_in" ck f fd):FnOk P w K mg base CX0 4 f fd ["ladder","number"] wD:=by
 refine F.ok fY (fun vs H Q E h=>?_) (fun cdv A outer s H vs Q E hr h=>?_)
 ·obtain⟨q,BE,or,ps,n,rfl,_⟩:=h;rfl
 obtain⟨q,BE,or,ps,n,rfl,lad,st,pl,pos,n0,n1,hq⟩:=h;refine⟨_,(Z2 (Yu (PW.pt (U0 (Zn oP (pv 1) Z4 (Zm _)) (V0 (Zn Tu (pv 1) (Yc Y9 (pv 0) Z4) (Zm _))))) (Z7 oq) Zw)
 (Z7 (Zd (Zu (Z0 (Z6 bo hr (Z0 (Z6 az hr (Z0 (pv 0) Z1)) (Z0 (pv 1) Z1))) (Z0 (Z6 bo hr (Z0 (Z6 ax hr (Z0 (pv 0) Z1)) (Z0 (pv 1) Z1))) Z1)))))),?_⟩
 obtain⟨c,as,BQ,BM,pr⟩:=lad.at_;refine⟨_,rfl,_,_,rfl,rfl,_,rfl,?_⟩;rw[yY (by omega)];refine Yz ?_;refine⟨_,rfl,_,rfl,q,_,3,_,rfl,rfl,SqT.of BQ,rfl,_,_,rfl,rfl,_,rfl,?_⟩;rw[yY (by omega)];refine Yz ?_;have gg:Same H H:=Same.refl _;refine⟨_,rfl,q,BE,or,_,ps,rfl,lad,st,by omega,fun l xs H1 g1 BN na=>⟨_,rfl,l,xs,_,n,rfl,BN,na,by unfold aC;rw[pi];omega,fun p hp=>?_,n0,by rw[jR];exact n1,fun x H2 g2 px=>?_⟩⟩
 ·obtain⟨p',hp',rfl⟩:=yz.mp hp;exact pos p' hp'
 have gg:=(gg.trans g1).trans g2;refine⟨_,rfl,q,BE,or,_,ps,rfl,lad.mono gg,st,by omega,fun l2 xs2 H3 g3 cO na2=>⟨_,rfl,l2,xs2,_,n,rfl,cO,na2,by unfold ak;rw[pi];omega,fun p hp=>?_,n0,by rw[gC];exact n1,fun y H4 g4 py=>?_⟩⟩
 ·obtain⟨p',hp',rfl⟩:=yz.mp hp;exact pos p' hp'
 have gg:=(gg.trans g3).trans g4;refine⟨leN rfl,?_⟩;intro t n_t;generalize hz:upd _ t _=H5;revert H5;refine blk ?_;intro H5 hz;have gz:=Zi hz n_t;have BR:=Zr hz;clear hz;have gg:=gg.trans gz;exact hq t x y _ gg BR px py
def sma(ns:List (Int×Int)):Int:=(ns.map fun p=>p.1*p.2).sum
def uC:Sp:=fun vs H Q _=>∃(l:Addr)(xs:List V)(ns:List (Int×Int))(x:Int),vs=[.ref l,.int x]∧H l=some (.lst xs)∧NsAt H xs ns∧ns.length≤200∧∀H',Same H H'→Q (.int (mam ns x)) H'
def Mdr(ns:List (Int×Int)):Prop:=∀p∈ns,-(2^64)<p.1∧p.1<2^64
def t7:Sp:=fun vs H Q _=>∃(l:Addr)(xs:List V)(ns:List (Int×Int)),vs=[.ref l]∧H l=some (.lst xs)∧NsAt H xs ns∧Mdr ns∧ns.length≤200∧∀H',Same H H'→Q (.int (sma ns)) H'
theorem we(aF:mg "sum"=none)(F:Fun K "many_at_most" "many_at_most" bg f fd):FnOk P w K mg base CX0 1 f fd ["places","x"] uC:=by
 refine F.ok R4 (fun vs H Q E h=>?_) (fun cdv A outer s H vs Q E hr h=>?_)
 ·obtain⟨l,xs,ns,x,rfl,_⟩:=h;rfl
 obtain⟨l,xs,ns,x,rfl,BN,na,nl,hq⟩:=h;refine⟨_,(Z7 (Zd (Zg (Xp rfl) rfl aF zU (Z0 (Ym (own:=["number","count"]) (Wf rfl rfl) (Zq (pv 0))
  (fun _ _ _ _ _=>(Xd K 2 rfl rfl (Z9 (Z8 (i:=0) Xq rfl (Or.inl rfl) (Or.inr rfl)) (Z9 (Z8 (i:=1) Xq rfl (Or.inl rfl) (Or.inr rfl)) Y1)))) (fun _ _ _ _ _=>(Wq (Zn Sr (pv 0) (pv 3) (Zm _))))
  (fun _ _ _ _ _=>(pv 1))) Z1)))),?_⟩
 have xl:=na.len;refine⟨_,rfl,l,rfl,⟨_,SqL.of BN⟩,?_⟩;refine Y6 (xs:=xs) (fun i ys H'=>H'=H∧ys=((((ns.take i).filter fun p=>decide (p.1≤x)).map (·.2)).map V.int)) ⟨rfl,rfl⟩ ?_ ?_ ?_
 ·rintro i ys H' _ ⟨rfl,_⟩;exact SqL.of BN
 ·rintro i y ys H1 C hy ⟨rfl,rfl⟩ hC;obtain⟨c,p,rfl,hp,BM⟩:=na.get hy;have il:i<ns.length:=(yI.mp hp).1;have fl:=zG (fun p:Int×Int=>decide (p.1≤x)) (ns.take i);rw[yX]at fl;refine⟨Zh (by rw[pi,pi];omega),c,_,rfl,SqT.of BM,rfl,_,_,rfl,_,_,rfl,rfl,Wk.refl _,_,rfl,_,rfl,_,_,rfl,rfl,_,rfl,?_⟩;have tk:=Zo hp;by_cases big:p.1≤x
  ·rw[yF big];refine Vv ⟨_,rfl,hC _ _ ⟨rfl,?_⟩⟩;rw[tk,Ac,zt,yC (yF big),yR,yR];rfl
  ·rw[yY big];refine Yz (hC _ _ ⟨rfl,?_⟩);rw[tk,List.filter_append,List.filter_cons,if_neg (by simpa using big),List.filter_nil,List.append_nil]
 rintro ys H1 ⟨rfl,rfl⟩;rw[xl,yV];have fl:=zG (fun p:Int×Int=>decide (p.1≤x)) ns;refine⟨Zf (by rw[pi,pi];omega),fun p np=>⟨p,_,rfl,SqL.of Z3,hq _ (Z5 np _)⟩⟩
theorem wv(aF:mg "sum"=none)(F:Fun K "sum_at" "sum_at" c6 f fd):FnOk P w K mg base CX0 1 f fd ["places"] t7:=by
 refine F.ok mE (fun vs H Q E h=>?_) (fun cdv A outer s H vs Q E hr h=>?_)
 ·obtain⟨l,xs,ns,rfl,_⟩:=h;rfl
 obtain⟨l,xs,ns,rfl,BN,na,md,nl,hq⟩:=h;refine⟨_,(Z7 (Zd (Zg (Xp rfl) rfl aF zU (Z0 (Ym (own:=["number","count"]) (Wf rfl rfl) (Zq (pv 0))
  (fun _ _ _ _ _=>(Xd K 2 rfl rfl (Z9 (Z8 (i:=0) U2 rfl (Or.inl rfl) (Or.inr rfl)) (Z9 (Z8 (i:=1) U2 rfl (Or.inl rfl) (Or.inr rfl)) Y1)))) (fun _ _ _ _ _=>Yp)
  (fun _ _ _ _ _=>(Zb X5 (pv 0) (pv 1)))) Z1)))),?_⟩
 have xl:=na.len;refine⟨_,rfl,l,rfl,⟨_,SqL.of BN⟩,?_⟩;refine Y6 (xs:=xs) (fun i ys H'=>H'=H∧ys=(((ns.take i).map fun p=>p.1*p.2).map V.int)) ⟨rfl,rfl⟩ ?_ ?_ ?_
 ·rintro i ys H' _ ⟨rfl,_⟩;exact SqL.of BN
 ·rintro i y ys H1 C hy ⟨rfl,rfl⟩ hC;obtain⟨c,p,rfl,hp,BM⟩:=na.get hy;have il:i<ns.length:=(yI.mp hp).1;refine⟨Zh (by rw[pi,pi,yX];omega),c,_,rfl,SqT.of BM,rfl,_,_,rfl,_,_,rfl,rfl,Wk.refl _,_,rfl,_,rfl,_,_,rfl,rfl,Or.inl (md p (yW hp)),hC _ _ ⟨rfl,?_⟩⟩;rw[Rt _ hp,yR];rfl
 rintro ys H1 ⟨rfl,rfl⟩;rw[xl,yV];exact⟨Zf (by rw[pi,pi];omega),fun p np=>⟨p,_,rfl,SqL.of Z3,hq _ (Z5 np _)⟩⟩
theorem O2{h:Int}(h1:h≤20):(1:Int)≤2^h.toNat∧(2:Int)^h.toNat≤1048576:=by
 have a1:(2:Nat)^h.toNat≤2^20:=Nat.pow_le_pow_right (by decide) (by omega);have a2:0<(2:Nat)^h.toNat:=Nat.pow_pos (by decide);have a3:((2^h.toNat:Nat):Int)=(2:Int)^h.toNat:=by push_cast;rfl
 have a4:(2:Nat)^20=1048576:=by decide
 rw[←a3];omega
theorem lD{k:Int×Int}(s:Stc k):0≤aq k∧aq k≤1048576000000:=by
 obtain⟨p1,p2⟩:=O2 s.2.1;have i0:=s.2.2.1;have i1:=s.2.2.2;unfold aq;exact⟨Bj i0 (by omega),Aa (Int.mul_le_mul i1 p2 (by omega) (by omega)) (by decide)⟩
theorem l8{k:Int×Int}(s:Stc k):0≤am k∧am k≤1048577048576:=by
 obtain⟨p1,p2⟩:=O2 s.2.1;have i0:=s.2.2.1;have i1:=s.2.2.2;unfold am;have q1:1*1≤(k.2+1)*2^k.1.toNat:=Int.mul_le_mul (by omega) p1 (by decide) (by omega);have q2:(k.2+1)*2^k.1.toNat≤1000001*1048576:=Int.mul_le_mul (by omega) p2 (by omega) (by decide);omega
theorem sG{ps:Sps}(h:Sts ps):Mdr (aC ps):=fun p hp=>by
 obtain⟨q,hq,rfl⟩:=yz.mp hp;have:=lD (h q hq);show -(2^64)<aq q.1∧aq q.1<2^64;omega
theorem pY{ps:Sps}(h:Sts ps):Mdr (ak ps):=fun p hp=>by
 obtain⟨q,hq,rfl⟩:=yz.mp hp;have:=l8 (h q hq);show -(2^64)<am q.1∧am q.1<2^64;omega
def xw:Sp:=fun vs H Q _=>∃(q:Addr)(BE or total x:Int)(ps:Sps),vs=[.ref q,.int x]∧LadAt H q BE or total ps∧Sts ps∧ps.length≤200∧∀(t:Addr)(H':Hp),Same H H'→KAt H' t (mam (ak ps) x,mam (aC ps) x)→Q (.ref t) H'
def wy:Sp:=fun vs H Q _=>∃(q:Addr)(BE or total:Int)(ps:Sps),vs=[.ref q]∧LadAt H q BE or total ps∧Sts ps∧ps.length≤200∧∀(t:Addr)(H':Hp),Same H H'→KAt H' t (sma (aC ps),sma (ak ps))→Q (.ref t) H'
theorem xN(az:Has P w K mg base "lowest_places" 3 ["ladder"] (bZ aC))(ax:Has P w K mg base "highest_places" 3 ["ladder"] (bZ ak))(bS:Has P w K mg base "many_at_most" 1 ["places","x"] uC)(F:Fun K "at_most_in" "at_most_in" bA f fd):FnOk P w K mg base CX0 4 f fd ["ladder","x"] xw:=by
 refine F.ok Pb (fun vs H Q E h=>?_) (fun cdv A outer s H vs Q E hr h=>?_)
 ·obtain⟨q,BE,or,total,x,ps,rfl,_⟩:=h;rfl
 obtain⟨q,BE,or,total,x,ps,rfl,lad,st,pl,hq⟩:=h;refine⟨_,(Z7 (Zd (Zu (Z0 (Z6 bS hr (Z0 (Z6 ax hr (Z0 (pv 0) Z1)) (Z0 (pv 1) Z1))) (Z0 (Z6 bS hr (Z0 (Z6 az hr (Z0 (pv 0) Z1)) (Z0 (pv 1) Z1))) Z1))))),?_⟩;refine⟨_,rfl,q,BE,or,total,ps,rfl,lad,st,pl,fun l xs H1 g1 e1 n1=>⟨_,rfl,l,xs,_,x,rfl,e1,n1,by unfold ak;rw[pi];exact pl,fun H2 g2=>?_⟩⟩;refine⟨_,rfl,q,BE,or,total,ps,rfl,lad.mono (g1.trans g2),st,pl,fun l2 ys H3 g3 e3 n3=>⟨_,rfl,l2,ys,_,x,rfl,e3,n3,by unfold aC;rw[pi];exact pl,fun H4 g4=>⟨leN rfl,?_⟩⟩⟩;have gg:=((g1.trans g2).trans g3).trans g4;intro t n_t;generalize hz:upd _ t _=H5;revert H5;refine blk ?_;intro H5 hz;have gz:=Zi hz n_t;have BR:=Zr hz;clear hz;have gg:=gg.trans gz;exact hq t _ gg BR
theorem wU(az:Has P w K mg base "lowest_places" 3 ["ladder"] (bZ aC))(ax:Has P w K mg base "highest_places" 3 ["ladder"] (bZ ak))(gN:Has P w K mg base "sum_at" 1 ["places"] t7)(F:Fun K "sum_in" "sum_in" dk f fd):FnOk P w K mg base CX0 4 f fd ["ladder"] wy:=by
 refine F.ok lR (fun vs H Q E h=>?_) (fun cdv A outer s H vs Q E hr h=>?_)
 ·obtain⟨q,BE,or,total,ps,rfl,_⟩:=h;rfl
 obtain⟨q,BE,or,total,ps,rfl,lad,st,pl,hq⟩:=h;refine⟨_,(Z7 (Zd (Zu (Z0 (Z6 gN hr (Z0 (Z6 az hr (Z0 (pv 0) Z1)) Z1)) (Z0 (Z6 gN hr (Z0 (Z6 ax hr (Z0 (pv 0) Z1)) Z1)) Z1))))),?_⟩;refine⟨_,rfl,q,BE,or,total,ps,rfl,lad,st,pl,fun l xs H1 g1 e1 n1=>⟨l,xs,_,rfl,e1,n1,sG st,by unfold aC;rw[pi];exact pl,fun H2 g2=>?_⟩⟩;refine⟨_,rfl,q,BE,or,total,ps,rfl,lad.mono (g1.trans g2),st,pl,fun l2 ys H3 g3 e3 n3=>⟨l2,ys,_,rfl,e3,n3,pY st,by unfold ak;rw[pi];exact pl,fun H4 g4=>⟨leN rfl,?_⟩⟩⟩;have gg:=((g1.trans g2).trans g3).trans g4;intro t n_t;generalize hz:upd _ t _=H5;revert H5;refine blk ?_;intro H5 hz;have gz:=Zi hz n_t;have BR:=Zr hz;clear hz;have gg:=gg.trans gz;exact hq t _ gg BR
def tm(ts:List Th)(x:Int):Int:=((ts.filter fun t=>decide (t.num≤x)).map Th.many).sum
def uy:Sp:=fun vs H Q _=>∃(r:Addr)(ts:List Th)(x:Int),vs=[.ref r,.int x]∧DV H (.ref r) (aX ts)∧ts.length≤1000∧∀H',Same H H'→Q (.int (tm ts x)) H'
theorem vN(aF:mg "sum"=none)(F:Fun K "_law_counted" "_law_counted" bG f fd):FnOk P w K mg base CX0 1 f fd ["_law_stream_here","_law_x"] uy:=by
 refine F.ok e8 (fun vs H Q E h=>?_) (fun cdv A outer s H vs Q E hr h=>?_)
 ·obtain⟨r,ts,x,rfl,_⟩:=h;rfl
 obtain⟨r,ts,x,rfl,hd,tl,hq⟩:=h;refine⟨_,(Z7 (Zd (Zg (Xp rfl) rfl aF zU (Z0 (Ym (own:=["_law_day","_law_mark","_law_number","_law_many_here"]) (Wf rfl rfl) (Zq (pv 0))
  (fun _ _ _ _ _=>(Xd K 4 rfl rfl (Z9 (Z8 (i:=0) Yq rfl (Or.inl rfl) (Or.inr rfl)) (Z9 (Z8 (i:=1) Yq rfl (Or.inl rfl) (Or.inr rfl)) (Z9 (Z8 (i:=2) Yq rfl (Or.inl rfl) (Or.inr rfl)) (Z9 (Z8 (i:=3) Yq rfl (Or.inl rfl) (Or.inr rfl)) Y1)))))) (fun _ _ _ _ _=>(Wq (Zn Sr (pv 2) (pv 5) (Zm _))))
  (fun _ _ _ _ _=>(pv 3))) Z1)))),?_⟩
 obtain⟨_,xs,e0,e_r,ds⟩:=DV.list_inv hd;cases e0;refine⟨_,rfl,r,rfl,⟨_,SqL.of e_r⟩,?_⟩;refine Uf (fun t=>decide (t.num≤x)) (fun t=>.int t.many) e_r ds (by omega) ?_ ?_
 ·rintro t c ys C mt ec h1 h2;refine⟨c,_,rfl,SqT.of ec,rfl,_,_,rfl,_,_,rfl,_,_,rfl,_,_,rfl,rfl,Wk.refl _,_,rfl,_,rfl,_,_,rfl,rfl,_,rfl,?_⟩;by_cases e:t.num≤x
  ·rw[yF e];exact Vv ⟨_,rfl,h1 (yF e)⟩
  ·rw[yY e];exact Yz (h2 (yY e))
 ·intro q nq;refine⟨q,(ts.filter fun t:Th=>decide (t.num≤x)).map Th.many,rfl,SqL.of ?_,hq _ (Z5 nq _)⟩;rw[Z3,yQ];rfl
def plc(ts:List Th):List (Int×Int):=ts.map fun t=>(t.num,t.many)
theorem qU(ts:List Th)(x:Int):mam (plc ts) x=tm ts x:=by
 unfold mam plc tm;rw[List.filter_map,yQ];rfl
def uo:Sp:=fun vs H Q _=>∃(r:Addr)(ts:List Th)(n:Int),vs=[.ref r,.int n]∧DV H (.ref r) (aX ts)∧ts.length≤63∧(∀t∈ts,1≤t.many)∧1≤n∧(n≤sm2 (plc ts)→∀(x:Int)(H':Hp),Same H H'→IsPl (plc ts) n x→Q (.int x) H')∧(sm2 (plc ts)<n→∀H',Same H H'→Q .non H')
theorem qF{ms:List (Int×Int)}(pos:∀p∈ms,1≤p.2)(j:Nat):sm2 (ms.take j)≤sm2 ms:=by
 have e:sm2 ms=sm2 (ms.take j)+sm2 (ms.drop j):=by rw[←Na,List.take_append_drop]
 have n:0≤sm2 (ms.drop j):=N5 fun x hx=>by
  obtain⟨p,hp,rfl⟩:=yz.mp hx;have:=pos p (Bk hp);omega
 omega
theorem wt(aj:mg "sorted"=none)(F:Fun K "_law_so_many_th" "_law_so_many_th" bd f fd):FnOk P w K mg base CX0 1 f fd ["_law_stream_here","_law_number"] uo:=by
 refine F.ok Yy (fun vs H Q E h=>?_) (fun cdv A outer s H vs Q E hr h=>?_)
 ·obtain⟨r,ts,n,rfl,_⟩:=h;rfl
 obtain⟨r,ts,n,rfl,hd,tl,pos,n0,hq,hq0⟩:=h;refine⟨_,(Z2 (Y0 2 Yy.nd rfl (Or.inl rfl) Z4)
 (Z2 (Yr zl rfl (Zq (Zg (R0 hr.units) rfl aj zK (Z0 (Ym (own:=["_law_thing"]) (Wf rfl rfl) (Zq (pv 0))
  (fun _ _ _ _ _=>(Z8 (i:=0) Vr rfl (Or.inl rfl) (Or.inr rfl))) (fun _ _ _ _ _=>Yp)
  (fun _ _ _ _ _=>(Zu (Z0 (Yc (Tz K rfl) (pv 0) Z4) (Z0 (Yc (Tz K rfl) (pv 0) Z4) Z1))))) Z1))) (W8 rfl (Z9 (Z8 (i:=3) Yy.nd rfl (Or.inl rfl)) (Z9 (Z8 (i:=4) Yy.nd rfl (Or.inl rfl)) Y1)))
 (Z2 (Y0 2 Yy.nd rfl (Or.inl rfl) (Zb Zs (pv 2) (pv 4)))
 (Z7 (Yu (Zn kT (pv 2) (pv 1) (Zm _)) (Z7 (Zd (pv 3))) Zw))))
 (Z7 (Zd iQ)))),?_⟩
 obtain⟨_,xs,e0,e_r,ds⟩:=DV.list_inv hd;cases e0;have xl:=ds.length;rw[pi]at xl;refine⟨_,rfl,r,rfl,⟨_,SqL.of e_r⟩,?_⟩;refine Y6 (xs:=xs) (fun i ys H'=>Same H H'∧∃as:List Addr,ys=as.map V.ref∧Paired (fun a p=>KAt H' a p) as (plc (ts.take i))) ⟨Same.refl _,[],rfl,.nil⟩ (fun i ys H' _ q=>SqL.of (q.1 _ _ e_r)) ?_ ?_
 ·rintro i x ys H' C hx ⟨g,as,rfl,pa⟩ hC;obtain⟨t,c,ht,rfl,ec,_⟩:=DVs.th_at ds hx;have al:=yK pa;have il:=(yI.mp ht).1;unfold plc at al;rw[pi,yX]at al;refine⟨Zh (by rw[pi];omega),Wk.refl _,_,rfl,c,_,2,_,rfl,rfl,SqT.of (g _ _ ec),rfl,_,rfl,c,_,3,_,rfl,rfl,SqT.of (g _ _ ec),rfl,leN rfl,fun q nq=>hC _ _ ⟨g.trans (Z5 nq _),as++[q],by rw[yR];rfl,?_⟩⟩;have e:plc (ts.take (i+1))=plc (ts.take i)++[(t.num,t.many)]:=by
   unfold plc;rw[Zo ht,yR];rfl
  rw[e];have pa2:Paired (fun a p=>KAt (upd H' q (.tup [.int t.num,.int t.many])) a p) as (plc (ts.take i)):=Paired.mapP pa fun _ _ e=>Z5 nq _ _ _ e;have fq:KAt (upd H' q (.tup [.int t.num,.int t.many])) q (t.num,t.many):=Z3;exact pa2.snoc fq
 rintro ys H1 ⟨g1,as,rfl,pa⟩;rw[xl,yV]at pa;have al:=yK pa;have pl:(plc ts).length=ts.length:=pi _;have gg:=g1;refine⟨Zf (by rw[pi];omega),?_⟩;intro l n_l;generalize hz:upd _ l _=H2;revert H2;refine blk ?_;intro H2 hz;have gz:=Zi hz n_l;have BN:=Zr hz;clear hz;have gg:=gg.trans gz;have pa:=Paired.mapP pa fun _ _ e=>gz _ _ e;refine⟨l,as,rfl,.inl BN,by omega,fun a ha=>?_,fun bs pb pw=>?_⟩
 ·obtain⟨p,_,e⟩:=Paired.mem1 pa a ha;exact⟨(p.1,p.2),_,_,e,rfl⟩
 obtain⟨ms,pm,kb⟩:=O8 pb pa;have pw:=eB kb pw;intro q n_q;generalize hz:upd _ q _=H3;revert H3;refine blk ?_;intro H3 hz;have gz:=Zi hz n_q;have BQ:=Zr hz;clear hz;have gg:=gg.trans gz;have kb:=Paired.mapP kb fun _ _ e=>gz _ _ e;have bl:=yK kb;have pos:∀p∈ms,1≤p.2:=fun p hp=>by
  obtain⟨t,ht,rfl⟩:=yz.mp (pm.mem_iff.mp hp);exact pos t ht
 have es:sm2 ms=sm2 (plc ts):=Vc (pm.map _);refine⟨q,rfl,⟨_,SqL.of BQ⟩,?_⟩;refine Yi (xs:=bs.map V.ref) (fun j σ H'=>H'=H3∧∃(o3 o4:Option V),σ=[some (.ref r),some (.int n),some (.int (sm2 (ms.take j))),o3,o4]∧sm2 (ms.take j)<n) ⟨rfl,_,_,rfl,by show(0:Int)<n;omega⟩ ?_ ?_ ?_
 ·rintro j σ H' _ ⟨rfl,_⟩;exact SqL.of BQ
 ·rintro j x σ H' N B1 R hN hR hx ⟨rfl,o3,o4,rfl,lt⟩;rw[yL]at hx;obtain⟨b,hb,rfl⟩:=y8.mp hx;obtain⟨p,hp,BJ⟩:=Wj kb hb;have dp:=jT hp;have st:sm2 (ms.take (j+1))=sm2 (ms.take j)+p.2:=by rw[Zo hp,Na];simp[sm2]
  refine⟨b,_,rfl,SqT.of BJ,rfl,_,_,rfl,_,_,rfl,rfl,_,rfl,_,rfl,_,_,rfl,rfl,_,rfl,_,rfl,_,_,rfl,rfl,_,rfl,?_⟩;by_cases c:sm2 (ms.take j)+p.2 ≥ n
  ·rw[yF c];have tk:=qF pos (j+1);refine Vv ⟨_,rfl,hR _ _ (hq (by omega) p.1 _ gg ?_)⟩;have ems:ms=ms.take j++p::ms.drop (j+1):=by rw[←dp,List.take_append_drop]
   obtain⟨w1,w2⟩:=gE pw ems;have q1:IsPl ms n p.1:=by
    rw[ems];refine uD w1 w2 (fun q hq=>?_) (fun q hq=>?_) (by omega) (by omega)
    ·have:=pos q (Bk hq);omega
    ·have:=pos q (Bi hq);omega
   exact⟨by rw[←Tx pm];exact q1.1,fun y hy=>by rw[←Tx pm];exact q1.2 y hy⟩
  ·rw[yY c];exact Yz (hN _ _ ⟨rfl,some (.int p.1),some (.int p.2),by rw[st];rfl,by omega⟩)
 ·rintro σ H' ⟨rfl,o3,o4,rfl,lt⟩;rw[pi,bl,yV]at lt;exact hq0 (by omega) _ gg
def wS(g:Int×Int→Int)(ps:Sps):Int:=(ps.map fun p=>p.2*g p.1).sum
theorem R7{g:Int×Int→Int}{ps qs:Sps}(h:ps.Perm qs):wS g ps=wS g qs:=Vc (h.map _)
theorem Oz{g:Int×Int→Int}{k:Int×Int}{ps:Sps}:(ps.map (·.1)).Nodup→wS g (ay ps k)=wS g ps-cnt ps k*g k:=by
 induction ps with
 |nil=>
  intro _;show(0:Int)=0-cnt [] k*g k;rw[show cnt [] k=0 from rfl,Int.zero_mul];rfl
 |cons p ps ih=>
  intro nd;rw[yD,y7]at nd;have ih:=ih nd.2;unfold wS ay at ih⊢;by_cases e:p.1=k
  ·have o:cnt ps k=0:=Y2 (by rw[←e];exact nd.1);have c:cnt (p::ps) k=p.2:=by unfold cnt;rw[Yt,yC e]
   rw[List.filter_cons,if_neg (by simpa using e),ih,o,c,List.map_cons,List.sum_cons,e,Int.zero_mul];omega
  ·have c:cnt (p::ps) k=cnt ps k:=by unfold cnt;rw[Yt,yA e]
   rw[zt,yC (yF e),yD,y4,ih,c,yD,y4];omega
theorem Oy{g:Int×Int→Int}{ps:Sps}{k:Int×Int}{n:Int}(nd:(ps.map (·.1)).Nodup):wS g (ao ps k n)=wS g ps-cnt ps k*g k+n*g k:=by
 have h:(ao ps k n).Perm ((k,n)::ay ps k):=by
  have hk:k∉(ay ps k).map (·.1):=by
   rw[Vh];intro z;have:=(yZ.mp z).2;simp at this
  refine Vd (Yo nd) (by rw[yD];exact y7.mpr ⟨hk,Vz nd⟩) fun j=>?_;rw[Xa,Yt,Xk];by_cases e:j=k
  ·rw[yC e,yC e.symm]
  ·rw[yA e,yA (Ne.symm e),yA e]
 rw[R7 h];have:=Oz (g:=g) (k:=k) nd;unfold wS at this⊢;rw[yD,y4,this];show n*g k+_=_;omega
theorem eW{ps:Sps}(nd:(ps.map (·.1)).Nodup)(pos:∀p∈ps,0≤p.2)(k:Int×Int):0≤cnt ps k:=by
 by_cases h:k∈ps.map (·.1)
 ·obtain⟨p,hp,rfl⟩:=yz.mp h;rw[Yh nd hp];exact pos p hp
 ·rw[Y2 h];exact y9 _
def nG(g:Int×Int→Int):Prop:=∀h j,0≤h→0≤j→g (upK h j)≤g (loK h j)∧g (upK h j)≤g (hiK h j)
theorem iB{g:Int×Int→Int}:∀{ys xs:Sps},(xs.map (·.1)).Nodup→wS g (aD xs ys)=wS g xs+wS g ys:=by
 intro ys
 induction ys with
 |nil=>
  intro xs _;show wS g xs=wS g xs+0;omega
 |cons p ys ih=>
  intro xs h;rw[Vi,ih (Yo h),Oy h,AX];have e:wS g (p::ys)=p.2*g p.1+wS g ys:=by
   unfold wS;rw[yD,y4]
  rw[e];omega
def wT(g:Int×Int→Int)(ts:List Th):Int:=(ts.map fun t=>t.many*g (0,t.num)).sum
def Dom(ps:Sps)(ts:List Th):Prop:=∀g,nG g→wS g ps≤wT g ts
theorem m6{h:Int}(h0:0≤h):(2:Int)^(h+1).toNat=2^h.toNat*2:=by
 rw[show(h+1).toNat=h.toNat+1 by omega,BB]
theorem Ys(n:Nat):(0:Int)<2^n:=Int.pow_pos (by decide)
theorem nI{h j:Int}(h0:0≤h):aq (upK h j)≤aq (loK h j)∧aq (upK h j)≤aq (hiK h j):=by
 have p:=Ys h.toNat;have e:=m6 h0;unfold aq upK loK hiK;show j*2^(h+1).toNat≤2*j*2^h.toNat∧j*2^(h+1).toNat≤(2*j+1)*2^h.toNat;rw[e];generalize (2:Int)^h.toNat=q at p;have e1:j*(q*2)=2*j*q:=by rw[←Ak,BD (j*q) 2,Ak]
 rw[e1,AX,z5];omega
theorem pC{h j:Int}(h0:0≤h):am (loK h j)≤am (upK h j)∧am (hiK h j)≤am (upK h j):=by
 have p:=Ys h.toNat;have e:=m6 h0;unfold am upK loK hiK;show(2*j+1)*2^h.toNat-1≤(j+1)*2^(h+1).toNat-1∧(2*j+1+1)*2^h.toNat-1≤(j+1)*2^(h+1).toNat-1;rw[e];generalize (2:Int)^h.toNat=q at p;have e1:(j+1)*(q*2)=2*j*q+q+q:=by
  rw[AX,z5,←Ak,BD (j*q) 2,Ak];omega
 have e2:(2*j+1+1)*q=2*j*q+q+q:=by rw[AX,AX,z5]
 rw[e1,e2,AX,z5];omega
theorem ui(n:Int):aq (0,n)=n:=by
 show n*2^(0:Int).toNat=n;rw[show(0:Int).toNat=0 from rfl,Int.pow_zero,AI]
theorem uf(n:Int):am (0,n)=n:=by
 show(n+1)*2^(0:Int).toNat-1=n;rw[show(0:Int).toNat=0 from rfl,Int.pow_zero,AI];omega
def ind(b:Prop)[Decidable b]:Int:=if b then 1 else 0
theorem hZ{a b:Prop}[Decidable a][Decidable b](h:a→b):ind a≤ind b:=by
 unfold ind;by_cases c:a
 ·rw[yC c,yC (h c)];exact y9 _
 ·rw[yA c]
  split <;> decide
theorem wu(g:Int×Int→Int)(ps:Sps):wS (fun k=>-g k) ps=-wS g ps:=by
 unfold wS
 induction ps with
 |nil=>rfl
 |cons p ps ih=>
  rw[yD,y4,yD,y4,ih,Int.mul_neg];omega
theorem vH(g:Int×Int→Int)(ts:List Th):wT (fun k=>-g k) ts=-wT g ts:=by
 unfold wT
 induction ts with
 |nil=>rfl
 |cons p ps ih=>
  rw[yD,y4,yD,y4,ih,Int.mul_neg];omega
theorem qr{or:Int}{ps:Sps}(o:Pok or ps):0≤ah ps:=N5 fun n hn=>by
 obtain⟨p,hp,rfl⟩:=yz.mp hn;have:=o.pos p hp;omega
theorem qP{α:Type}(l:List α):(l.map fun _=>(0:Int)).sum=0:=by
 induction l with
 |nil=>rfl
 |cons x l ih=>rw[yD,y4,ih];rfl
theorem uH{k:Int×Int}:aq k≤am k:=by
 have p:=Ys k.1.toNat;unfold aq am;rw[AX,z5];omega
theorem rL{or:Int}{k:Int×Int}(h0:0≤k.1)(h1:k.1≤or)(h2:0≤k.2)(h3:k.2<2^(or-k.1).toNat):am k≤2^or.toNat-1:=by
 unfold am;have e:(2:Int)^or.toNat=2^(or-k.1).toNat*2^k.1.toNat:=by
  rw[←Int.pow_add,show(or-k.1).toNat+k.1.toNat=or.toNat by omega]
 have p:=Ys k.1.toNat;have q:(k.2+1)*2^k.1.toNat≤2^(or-k.1).toNat*2^k.1.toNat:=Ad (by omega) (by omega);omega
section
variable{BE or:Int}{ps:Sps}{ts:List Th}
end
def wit(s k:Int×Int):Prop:=aq s≤aq k∧am k≤am s
instance (s k:Int×Int):Decidable (wit s k):=inferInstanceAs (Decidable (_∧_))
def gin(s k:Int×Int):Int:=ind (wit s k)
theorem Si{p:Prop}[Decidable p]:0≤ind p:=by
 unfold ind
 split <;> decide
theorem W1{p:Prop}[Decidable p](h:p):ind p=1:=yC h
theorem We{p:Prop}[Decidable p](h:¬p):ind p=0:=yA h
theorem ng(s:Int×Int):nG (gin s):=fun h j h0 _=>by
 have a:=nI (j:=j) h0;have b:=pC (j:=j) h0;exact⟨hZ fun z=>⟨Aa z.1 a.1,Aa b.1 z.2⟩,hZ fun z=>⟨Aa z.1 a.2,Aa b.2 z.2⟩⟩
theorem Pr{s:Int×Int}{n:Int}:wit s (0,n)↔aq s≤n∧n≤am s:=by
 unfold wit;rw[ui,uf]
theorem eF(k:Int×Int):am k=aq k+2^k.1.toNat-1:=by
 unfold aq am;rw[AX,z5]
theorem ut{s k:Int×Int}(s0:0≤s.1)(k0:0≤k.1)(h:wit s k):k.1≤s.1:=by
 rcases Bz s.1 k.1 with c | c
 ·have a:=eF s;have b:=eF k;have p:(2:Int)^k.1.toNat=2^(k.1.toNat-s.1.toNat-1)*2^s.1.toNat*2:=by
   rw[Ak,←BB,←Int.pow_add]
   congr 1
   omega
  have q:=Ys s.1.toNat;have q2:1*2^s.1.toNat≤(2:Int)^(k.1.toNat-s.1.toNat-1)*2^s.1.toNat:=Ad (Ys _) (AG q);obtain⟨h1,h2⟩:=h;omega
 ·exact c
theorem gU{s k:Int×Int}(k0:0≤k.1)(le:k.1≤s.1){n:Int}(a:aq k≤n)(b:n≤am k)(c:aq s≤n)(d:n≤am s):wit s k:=by
 unfold aq at a c;unfold am at b d;have pk:=Ys k.1.toNat;have e:(2:Int)^s.1.toNat=2^(s.1.toNat-k.1.toNat)*2^k.1.toNat:=by
  rw[←Int.pow_add]
  congr 1
  omega
 have pm:=Ys (s.1.toNat-k.1.toNat);unfold wit aq am;rw[e];rw[e]at c d;rw[←Ak]at c d;rw[←Ak,←Ak];generalize (2:Int)^(s.1.toNat-k.1.toNat)=m at c d pm⊢;generalize (2:Int)^k.1.toNat=w at a b c d pk⊢;have l1:s.2*m<k.2+1:=by
  have:s.2*m*w<(k.2+1)*w:=by omega
  exact Int.lt_of_mul_lt_mul_right this (AG pk)
 have l2:k.2<(s.2+1)*m:=by
  have:k.2*w<(s.2+1)*m*w:=by omega
  exact Int.lt_of_mul_lt_mul_right this (AG pk)
 have m1:s.2*m*w≤k.2*w:=Ad (by omega) (AG pk);have m2:(k.2+1)*w≤(s.2+1)*m*w:=Ad (by omega) (AG pk);exact⟨m1,by omega⟩
theorem Yv(g:Int×Int→Int)(p:(Int×Int)×Int)(ps:Sps):wS g (p::ps)=p.2*g p.1+wS g ps:=by
 unfold wS;rw[yD,y4]
theorem kR{g:Int×Int→Int}(h:∀k,0≤g k){ps:Sps}:(∀p∈ps,0≤p.2)→0≤wS g ps:=by
 induction ps with
 |nil=>exact fun _=>y9 _
 |cons p ps ih=>
  intro pos;rw[Yv];have a:=Bj (pos p (.head _)) (h p.1);have b:=ih fun x hx=>pos x (.tail _ hx);omega
theorem Tj{g:Int×Int→Int}{ps:Sps}:(∀p∈ps,p.2=0∨g p.1=0)→wS g ps=0:=by
 induction ps with
 |nil=>exact fun _=>rfl
 |cons p ps ih=>
  intro h;rw[Yv,ih fun x hx=>h x (.tail _ hx)]
  rcases h p (.head _)with z | z
  ·rw[z,Int.zero_mul];rfl
  ·rw[z,Bp];rfl
theorem Wd(ps:Sps):wS (fun _=>1) ps=ah ps:=by
 unfold wS ah;exact zW List.sum (Ae fun p _=>AI _)
theorem sum_cons(p:(Int×Int)×Int)(ps:Sps):ah (p::ps)=p.2+ah ps:=by
 unfold ah;rw[yD,y4]
structure Can(ps ls:Sps):Prop where
 each:∀s:Int×Int,0≤s.1→wS (gin s) ps≤wS (gin s) ls
 all:ah ps=ah ls
structure Tkn(lo hi c:Int)(ls ls':Sps)(due:Int):Prop where
 keys:ls'.map (·.1)=ls.map (·.1)
 nn:∀p∈ls',0≤p.2
 d0:0≤due
 d1:due≤c
 one:∀g:Int×Int→Int,(∀n,lo≤n→n≤hi→g (0,n)=1)→wS g ls'=wS g ls-(c-due)
 zer:∀g:Int×Int→Int,(∀n,lo≤n→n≤hi→g (0,n)=0)→wS g ls'=wS g ls
 dn:∀g:Int×Int→Int,(∀k,0≤g k)→wS g ls'≤wS g ls
theorem xF{lo hi c:Int}{ls:Sps}(c0:0≤c)(nn:∀p∈ls,0≤p.2):Tkn lo hi c ls ls c:=
 ⟨rfl,nn,c0,y9 _,fun g _=>by rw[Int.sub_self,Int.sub_zero],fun _ _=>rfl,fun _ _=>y9 _⟩
theorem n6{lo hi c due n:Int}{ls ls':Sps}(T:Tkn lo hi c ls ls' due)(nd:(ls.map (·.1)).Nodup)(hn:(0,n)∈ls.map (·.1))(n0:lo≤n)(n1:n≤hi):Tkn lo hi c ls (ao ls' (0,n) (cnt ls' (0,n)-min due (cnt ls' (0,n)))) (due-min due (cnt ls' (0,n))):=by
 have nd':(ls'.map (·.1)).Nodup:=by rw[T.keys];exact nd
 have cn:0≤cnt ls' (0,n):=eW nd' T.nn _;have d0:=T.d0;have d1:=T.d1;have t0:0≤min due (cnt ls' (0,n)):=by omega
 have t1:min due (cnt ls' (0,n))≤due:=Int.min_le_left _ _;have t2:min due (cnt ls' (0,n))≤cnt ls' (0,n):=Int.min_le_right _ _;have w:=fun g:Int×Int→Int=>Oy (g:=g) (k:=(0,n)) (n:=cnt ls' (0,n)-min due (cnt ls' (0,n))) nd';generalize min due (cnt ls' (0,n))=t at *;have w2:∀g:Int×Int→Int,wS g (ao ls' (0,n) (cnt ls' (0,n)-t))=wS g ls'-t*g (0,n):=fun g=>by
  rw[w g,Int.sub_mul];omega
 refine⟨?_,fun p hp=>?_,by omega,by omega,fun g h=>?_,fun g h=>?_,fun g h=>?_⟩
 ·rw[W4,yC (by rw[T.keys];exact hn)];exact T.keys
 ·unfold ao at hp
  split at hp
  ·obtain⟨q,hq,e⟩:=yz.mp hp
   split at e
   ·rw[←e];show 0≤cnt ls' (0,n)-t;omega
   ·rw[←e];exact T.nn q hq
  ·rcases zk.mp hp with z | z
   ·exact T.nn p z
   ·rw[yG.mp z];show 0≤cnt ls' (0,n)-t;omega
 ·rw[w2,T.one g h,h n n0 n1];omega
 ·rw[w2,T.zer g h,h n n0 n1];omega
 ·rw[w2];have a:=T.dn g h;have b:=Bj t0 (h (0,n));omega
theorem lI{k:Int×Int}{c due:Int}{ls ls':Sps}(T:Tkn (aq k) (am k) c ls ls' due)(nd:(ls.map (·.1)).Nodup)(h0:∀p∈ls,p.1.1=0)(z:∀n,aq k≤n→n≤am k→cnt ls' (0,n)=0):wS (gin k) ls=c-due:=by
 have a:=T.one (gin k) fun n x y=>W1 (Pr.mpr ⟨x,y⟩);have b:wS (gin k) ls'=0:=Tj fun p hp=>by
  have hk:p.1∈ls.map (·.1):=by rw[←T.keys];exact yz.mpr ⟨p,hp,rfl⟩
  obtain⟨q,hq,e⟩:=yz.mp hk;have e0:p.1=(0,p.1.2):=zN (by rw[←e];exact h0 q hq) rfl;by_cases w:wit k p.1
  ·rw[e0]at w;have y:=z p.1.2 (Pr.mp w).1 (Pr.mp w).2;rw[←e0,Yh (by rw[T.keys];exact nd) hp]at y;exact .inl y
  ·exact .inr (We w)
 omega
section
variable{k:Int×Int}{c:Int}{rem ls ls':Sps}
theorem l_{due:Int}(c0:0≤c)(pos:∀p∈rem,0≤p.2)(e:wS (gin k) ls=c-due)(d:0<due)(h0:0≤k.1):¬Can ((k,c)::rem) ls:=fun C=>by
 have a:=C.each k h0;rw[Yv]at a;have b:gin k k=1:=W1 ⟨y9 _,y9 _⟩;have d:=kR (g:=gin k) (fun _=>Si) pos;have e2:((k,c):(Int×Int)×Int).2*gin k ((k,c):(Int×Int)×Int).1=c:=by
  show c*gin k k=c;rw[b,AI]
 rw[e2]at a;omega
theorem mi(T:Tkn (aq k) (am k) c ls ls' 0)(C:Can rem ls'):Can ((k,c)::rem) ls:=by
 refine⟨fun s s0=>?_,?_⟩
 ·have a:=C.each s s0;rw[Yv];show c*gin s k+wS (gin s) rem≤wS (gin s) ls;by_cases w:wit s k
  ·have b:=T.one (gin s) fun n x y=>W1 (Pr.mpr ⟨Aa w.1 x,Aa y w.2⟩);have e:gin s k=1:=W1 w;rw[e,AI];omega
  ·have e:gin s k=0:=We w;have b:=T.dn (gin s) fun _=>Si;rw[e,Bp];omega
 ·have b:=T.one (fun _=>1) fun _ _ _=>rfl;have a:=C.all;rw[Wd,Wd]at b;rw[sum_cons];show c+ah rem=ah ls;omega
theorem sf(T:Tkn (aq k) (am k) c ls ls' 0)(k0:0≤k.1)(up:∀p∈rem,k.1≤p.1.1)(C:Can ((k,c)::rem) ls):Can rem ls':=by
 refine⟨fun s s0=>?_,?_⟩
 ·have a:=C.each s s0;rw[Yv]at a;have a:c*gin s k+wS (gin s) rem≤wS (gin s) ls:=a;by_cases w:wit s k
  ·have b:=T.one (gin s) fun n x y=>W1 (Pr.mpr ⟨Aa w.1 x,Aa y w.2⟩);have e:gin s k=1:=W1 w;rw[e,AI]at a;omega
  ·have e:gin s k=0:=We w;rw[e,Bp]at a;by_cases m:∃n,(aq k≤n∧n≤am k)∧aq s≤n∧n≤am s
   ·obtain⟨n,⟨m1,m2⟩,m3,m4⟩:=m;have lt:s.1<k.1:=by
     rcases Bz s.1 k.1 with c | c
     ·exact c
     ·exact absurd (gU k0 c m1 m2 m3 m4) w
    have z:wS (gin s) rem=0:=Tj fun p hp=>.inr (We fun q=>by
     have:=ut s0 (by have:=up p hp;omega) q;have:=up p hp;omega)
    rw[z];exact kR (fun _=>Si) T.nn
   ·have b:=T.zer (gin s) fun n x y=>We fun q=>m ⟨n,⟨x,y⟩,Pr.mp q⟩;omega
 ·have b:=T.one (fun _=>1) fun _ _ _=>rfl;have a:=C.all;rw[Wd,Wd]at b;rw[sum_cons]at a;have a:c+ah rem=ah ls:=a;omega
end
theorem sV{ls:Sps}(nn:∀p∈ls,0≤p.2):Can [] ls↔ah ls=0:=by
 refine⟨fun C=>C.all.symm,fun e=>⟨fun s _=>kR (fun _=>Si) nn,e.symm⟩⟩
def bj(ts:List Th):Sps:=aD [] (ts.map fun t=>((0,t.num),t.many))
theorem pO(g:Int×Int→Int)(ts:List Th):wS g (bj ts)=wT g ts:=by
 unfold bj;rw[iB (xs:=[]) zA];show 0+_=_;rw[Bo];unfold wS wT;rw[yQ];rfl
theorem jW{ps:Sps}{ts:List Th}(h:Dom ps ts):Can ps (bj ts):=by
 refine⟨fun s _=>?_,?_⟩
 ·rw[pO];exact h _ (ng s)
 ·have a:=h (fun _=>1) fun _ _ _ _=>⟨y9 _,y9 _⟩;have b:=h (fun k=>-(fun _=>1) k) fun _ _ _ _=>⟨y9 _,y9 _⟩;rw[wu,vH]at b;rw[←Wd,←Wd,pO];omega
def rq:Sp:=fun vs H Q _=>∃(p:Addr)(k:Int×Int),vs=[.ref p]∧KAt H p k∧0≤k.1∧k.1≤20∧Q (.int (aq k)) H
def wj:Sp:=fun vs H Q _=>∃(p:Addr)(k:Int×Int),vs=[.ref p]∧KAt H p k∧0≤k.1∧k.1≤20∧∀H',Same H H'→Q (.int (am k)) H'
theorem wA(av:mg "range"=none)(F:Fun K "_law_first" "_law_first" cE f fd):FnOk P w K mg base CX0 1 f fd ["_law_stretch"] rq:=by
 refine F.ok Vk (fun vs H Q E h=>?_) (fun cdv A outer s H vs Q E hr h=>?_)
 ·obtain⟨p,k,rfl,_⟩:=h;rfl
 obtain⟨p,k,rfl,e,h0,h1,hq⟩:=h;refine⟨_,(Z2 (Y0 1 Vk.nd rfl (Or.inl rfl) (Yc Y9 (pv 0) Z4))
 (Z2 (Yr zl rfl (Xh rfl av (Z0 (Yc Y9 (pv 0) Z4) Z1)) (Z8 (i:=2) Vk.nd rfl (Or.inl rfl))
 (Z7 (Y0 1 Vk.nd rfl (Or.inl rfl) (Zb X5 Z4 (pv 1)))))
 (Z7 (Zd (pv 1))))),?_⟩
 refine⟨_,rfl,p,_,1,_,rfl,rfl,SqT.of e,rfl,?_⟩;refine⟨_,rfl,p,_,0,_,rfl,rfl,SqT.of e,rfl,k.1,rfl,by omega,by omega,?_⟩;refine Xe (lo:=0) (n:=k.1.toNat) (fun i σ H'=>H'=H∧∃o2:Option V,σ=[some (.ref p),some (.int (k.2*2^i)),o2]) ⟨rfl,none,by rw[Int.pow_zero,AI];rfl⟩ ?_ ?_
 ·rintro i σ H' N B1 R hN hR hi ⟨rfl,o2,rfl⟩;refine⟨_,rfl,_,_,rfl,rfl,Or.inl ⟨by decide,by decide⟩,hN _ _ ⟨rfl,some (.int (0+(i:Int))),?_⟩⟩;rw[BB,show k.2*(2^i*2)=2*(k.2*2^i) by rw[←Ak,BD]];rfl
 ·rintro σ H' ⟨rfl,o2,rfl⟩;exact⟨_,rfl,hq⟩
theorem wG(bz:Has P w K mg base "_law_first" 1 ["_law_stretch"] rq)(F:Fun K "_law_last" "_law_last" dC f fd):FnOk P w K mg base CX0 2 f fd ["_law_stretch"] wj:=by
 refine F.ok ly (fun vs H Q E h=>?_) (fun cdv A outer s H vs Q E hr h=>?_)
 ·obtain⟨p,k,rfl,_⟩:=h;rfl
 obtain⟨p,k,rfl,e,h0,h1,hq⟩:=h;refine⟨_,(Z7 (Zd (Zb Xx (Z6 bz hr (Z0 (Zu (Z0 (Yc Y9 (pv 0) Z4) (Z0 (Zb Zs (Yc Y9 (pv 0) Z4) Z4) Z1))) Z1)) Z4))),?_⟩;exact⟨_,rfl,p,_,0,_,rfl,rfl,SqT.of e,rfl,_,rfl,p,_,1,_,rfl,rfl,SqT.of e,rfl,_,_,rfl,rfl,leN rfl,fun q nq=>⟨q,(k.1,k.2+1),rfl,Z3,h0,h1,_,_,rfl,rfl,hq _ (Z5 nq _)⟩⟩
end K30
namespace L2
open PySem PySem.Spec PyProof.Rows
section
variable{X:Cx}
theorem kY{P:Program}{w:World}:∀{us:List Value}{ws:List (Key×Value)}{zs:List Int},us.length=ws.length→(∀(j:Nat)(u:Value),us[j]?=some u→∃k x,ws[j]?=some (k,x)∧(ac P w).is k u=true)→ws.map (·.1)=zs.map Sum.inl→Vals (zs.map V.int) us:=by
 intro us
 induction us with
 |nil=>
  intro ws zs hl _ e;cases ws with
  |nil=>
   cases zs with
   |nil=>exact .nil
   |cons z zs=>simp at e
  |cons x ws=>simp at hl
 |cons u us ih=>
  intro ws zs hl h e;cases ws with
  |nil=>simp at hl
  |cons p ws=>
   cases zs with
   |nil=>simp at e
   |cons z zs=>
    rw[yD,yD]at e;injection e with e1 e2
    obtain⟨k',x',q,hk⟩:=h 0 u rfl;have q:p=(k',x'):=by simpa using q
    subst q;have e1:k'=Sum.inl z:=e1;subst e1;obtain⟨t,rfl⟩:=pe hk;exact .cons ⟨t,rfl⟩ (ih (by simpa using hl) (fun j v hv=>by simpa using h (j+1) v (by simpa using hv)) e2)
def rR:List V→Hp→VK→Prop:=fun xs H Q=>∃(d:Addr)(kvs:List (Key×V))(zs:List Int),xs=[.ref d]∧H d=some (.dK kvs)∧kvs.map (·.1)=zs.map Sum.inl∧zs.length<64∧∀p,H p=none→Q (.ref p) (upd H p (.lst ((c7 zs).map V.int)))
theorem gH(hc:X.calm=true):aL X (.builtin "sorted") rR:=by
 intro BF s σ H xs us Q I rx h;obtain⟨d,kvs,zs,rfl,hd,hzs,h64,q⟩:=h;obtain⟨u,rfl,ru⟩:=W2 rx;cases ru;obtain⟨_,lo,es,kv,hD⟩:=kG I.hok hd;obtain⟨ep,hat⟩:=hD.dictAt;have kk:es.map (·.1)=zs.map Sum.inl:=by rw[←hzs,KV.keys kv]
 have hl:es.length=zs.length:=by
  have e:=zW List.length kk;rw[pi,pi]at e;exact e
 have hh:X.A.in1.handled=none:=by simpa using I.ok.hd hc
 refine AN kind_sorted plain_sorted entry_sorted (args_sorted1 _) ?_;unfold Builtin.«sorted»;refine io (m:=checkCount "sorted" 1 1 _) (yx ?_);refine io (Sz (A:=X.A.in1) (W.kdl_dict (knd:=ac X.prog X.w) (kvs:=es) (ep:=ep) lo) hh hat (Zf (by omega)) fun g tk BS hk hsz hacc=>?_);have al:BS.toList.length=es.length:=by rw[yU];exact hacc.1
 have hS:IntsAre BS.toList zs:=Qu (kY (P:=X.prog) (w:=X.w) al (fun j u e=>hacc.2 j u (by rw[←zo];exact e)) kk);refine io (Bq ?_ (by exact Zf (by omega)));have hoL:(g.push (seqObj "list" BS.toList.toArray 0)).get? g.objs.size=some (seqObj "list" BS.toList.toArray 0):=yH _ rfl;refine io (zn (zJ slot_list_sort ⟨_,hoL,rfl⟩ entry_list_sort (list_sort_tree hoL hS (by omega) fun out ms a1 a2 a3=>⟨_,rfl,?_⟩) (args_list_sort _)));refine yx ⟨_,rfl,?_⟩;have ess:=kP a2 a3;subst ess;obtain⟨e2,he2⟩:=sortedHeap_at (vs:=BS.toList) (out:=out) hoL;have hz:s.heap.objs.size≤g.objs.size:=Ah hsz;refine⟨.ref g.objs.size,_,I.laid (t':=tk) (o:=.lst ((c7 zs).map V.int)) (fun b o e=>?_) hz ?_,rfl,q _ (I.hok.fresh hz)⟩
 ·have e':=hk b o e;have BL:=yE e';rw[sortedHeap_old (yN BL) (by rw[Bt];exact Af BL)];exact yy _ e'
 ·refine⟨?_,out.toList,e2,Ui a1,by rw[Az];exact he2⟩;rw[pi,(V8 zs).length_eq];exact Zf (by omega)
def rP:List V→Hp→VK→Prop:=fun xs H Q=>∃(v d:Addr)(kvs:List (Key×V)),xs=[.ref v]∧H v=some (cR v d)∧H d=some (.dK kvs)∧∀p,H p=none→Q (.ref p) (upd H p (.lst (kvs.map (·.2))))
theorem fQ(hc:X.calm=true):aL X (.type "list") rP:=by
 intro BF s σ H xs us Q I rx h;obtain⟨v,d,kvs,rfl,hv,hd,q⟩:=h;obtain⟨u,rfl,ru⟩:=W2 rx;cases ru;obtain⟨z,lo,es,kv,hD⟩:=kG I.hok hd;obtain⟨ep,hat⟩:=hD.dictAt;obtain⟨view,_⟩:=(show ObjOk X.prog X.w H s.heap v (cR v d)from I.hok v _ hv);have hl:es.length=kvs.length:=by
  have e:=zW List.length (KV.keys kv);rw[pi,pi]at e;exact e.symm
 refine W.kdl_call (W.kdl_values (knd:=ac X.prog X.w) (r:=v) (kvs:=es) (ep:=ep)) (I.ok.hd hc) ⟨view,hat⟩ (by rw[hl];exact z) fun g tk BS c kp hD it=>?_;refine⟨.ref s.heap.objs.size,_,I.laid (t':=tk) (o:=.lst (kvs.map (·.2))) kp (yB _) ⟨by rw[pi];exact z,es.map (·.2),c,Rr kv,?_⟩,rfl,q _ (I.hok.fresh (yB _))⟩;have ea:BS.toList=es.map (·.2):=W.kdl_vals_eq BS.toList (by rw[yU];exact it.1) fun j u e=>it.2 j u (by rw[←zo];exact e);rw[←ea,Az];exact hD
end
end L2
namespace Ld
open PySem L2
def izv(ls:Sps):List (Key×V):=ls.map fun p=>(.inl p.1.2,.int p.2)
def Hz(ls:Sps):Prop:=∀p∈ls,p.1.1=0
theorem pK(ls:Sps):(izv ls).length=ls.length:=pi _
theorem sO(ls:Sps):(izv ls).map (·.1)=(ls.map fun p=>p.1.2).map Sum.inl:=by
 unfold izv;rw[yQ,yQ];rfl
theorem q_(ls:Sps):(izv ls).map (·.2)=(ls.map (·.2)).map V.int:=by
 unfold izv;rw[yQ,yQ];rfl
theorem nP{ls:Sps}(n:Int):Hz ls→aP (izv ls) (.inl n)=ai ls (0,n):=by
 induction ls with
 |nil=>exact fun _=>rfl
 |cons p ls ih=>
  intro h;have e:p.1=(0,p.1.2):=zN (h p (.head _)) rfl;unfold ai ad izv;rw[yD,yD];by_cases c:p.1.2=n
  ·rw[Yb (p:=(Sum.inl p.1.2,V.int p.2)) (by rw[c]),Yb (p:=(kk p.1,V.int p.2)) (by rw[e,c])]
  ·rw[Y4 (p:=(Sum.inl p.1.2,V.int p.2)) (fun z=>c (Bu z)),Y4 (p:=(kk p.1,V.int p.2)) (fun z=>c (by rw[Vu z]))];exact ih fun q hq=>h q (.tail _ hq)
theorem mW{ls:Sps}(n v:Int)(h:Hz ls):aN (izv ls) (.inl n) (.int v)=izv (ao ls (0,n) v):=by
 have iff:∀p∈ls,((Sum.inl p.1.2:Key)=.inl n)↔p.1=(0,n):=fun p hp=>⟨fun z=>zN (h p hp) (Bu z),fun z=>by rw[z]⟩;have ea:((izv ls).any fun kv=>decide (kv.1=.inl n))=ls.any fun p=>decide (p.1=(0,n)):=by
  unfold izv;rw[List.any_map];clear h
  induction ls with
  |nil=>rfl
  |cons p ls ih=>
   rw[List.any_cons,List.any_cons,ih fun q hq=>iff q (.tail _ hq)]
   congr 1
   show decide ((Sum.inl p.1.2:Key)=.inl n)=_;by_cases c:p.1=(0,n)
   ·rw[yF c,yF ((iff p (.head _)).mpr c)]
   ·rw[yY c,yY (fun z=>c ((iff p (.head _)).mp z))]
 unfold aN ao;rw[ea]
 split
 ·unfold izv;rw[yQ,yQ];refine Ae fun p hp=>?_;show(if (Sum.inl p.1.2:Key)=.inl n then(Sum.inl p.1.2,V.int v) else(Sum.inl p.1.2,V.int p.2))=(fun p:(Int×Int)×Int=>((Sum.inl p.1.2:Key),V.int p.2)) (if p.1=(0,n) then(p.1,v)else p);by_cases c:p.1=(0,n)
  ·rw[yC c,yC ((iff p hp).mpr c)]
  ·rw[yA c,yA (fun z=>c ((iff p hp).mp z))]
 ·unfold izv;rw[yR];rfl
theorem nK{ls:Sps}{n v:Int}(h:Hz ls):Hz (ao ls (0,n) v):=fun p hp=>by
 unfold ao at hp
 split at hp
 ·obtain⟨q,hq,e⟩:=yz.mp hp
  split at e
  ·rw[←e];exact h q hq
  ·rw[←e];exact h q hq
 ·rcases zk.mp hp with z | z
  ·exact h p z
  ·rw[yG.mp z]
end Ld
namespace K30
open PySem L2 Ld
def uu:Sp:=fun vs H Q _=>∃(r d:Addr)(or:Int)(ts:List Th)(qs:Sps),vs=[.ref r,.ref d,.int or]∧DV H (.ref r) (aX ts)∧H d=some (.dT (ad qs))∧(qs.map (·.1)).Nodup∧(∀p∈qs,0≤p.1.1∧p.1.1≤20∧0≤p.2)∧(∀t∈ts,0≤t.many)∧qs.length<64∧ts.length<64∧∀(b:Bool)(H':Hp),Same H H'→(b=true↔Can qs (bj ts))→Q (.bl b) H'
theorem p7(ts:List Th)(t:Th):bj (ts++[t])=ao (bj ts) (0,t.num) (cnt (bj ts) (0,t.num)+t.many):=by
 unfold bj;rw[yR];exact P8 _ _ _
theorem pV(ts:List Th):((bj ts).map (·.1)).Nodup:=Ti zA
theorem vq{ls:Sps}{k:Int×Int}{n:Int}(h:∀p∈ls,0≤p.2)(n0:0≤n):∀p∈ao ls k n,0≤p.2:=fun p hp=>by
 unfold ao at hp
 split at hp
 ·obtain⟨q,hq,e⟩:=yz.mp hp
  split at e
  ·rw[←e];exact n0
  ·rw[←e];exact h q hq
 ·rcases zk.mp hp with z | z
  ·exact h p z
  ·rw[yG.mp z];exact n0
theorem gq{ps qs ls:Sps}(p:ps.Perm qs):Can ps ls↔Can qs ls:=
 ⟨fun C=>⟨fun s h=>by rw[←R7 p];exact C.each s h,by rw[←V6 p];exact C.all⟩,fun C=>⟨fun s h=>by rw[R7 p];exact C.each s h,by rw[V6 p];exact C.all⟩⟩
def bY(qs:Sps)(i:Nat):Sps:=((bm (qs.map (·.1))).drop i).map fun k=>(k,cnt qs k)
theorem fZ{qs:Sps}(nd:(qs.map (·.1)).Nodup):(bY qs 0).Perm qs:=by
 unfold bY;rw[BC];refine((X0 _).map _).trans ?_;rw[yQ];refine List.Perm.of_eq ?_;have e:qs.map ((fun k=>(k,cnt qs k))∘fun x=>x.1)=qs.map id:=Ae fun p hp=>by
  show(p.1,cnt qs p.1)=p;rw[Yh nd hp]
 rw[e,List.map_id]
theorem uF{qs:Sps}{i:Nat}{k:Int×Int}(h:(bm (qs.map (·.1)))[i]?=some k):bY qs i=(k,cnt qs k)::bY qs (i+1):=by
 unfold bY;obtain⟨hi,e⟩:=yI.mp h;rw[List.drop_eq_getElem_cons hi,e,yD]
theorem tG{qs:Sps}{i:Nat}{p:(Int×Int)×Int}(nd:(qs.map (·.1)).Nodup)(h:p∈bY qs i):p∈qs:=by
 obtain⟨k,hk,rfl⟩:=yz.mp h;have km:=(X0 _).mem_iff.mp (Bk hk);obtain⟨q,hq,e⟩:=yz.mp km;rw[←e,Yh nd hq];exact hq
theorem vj{qs:Sps}{i:Nat}{k:Int×Int}(h:(bm (qs.map (·.1)))[i]?=some k):∀p∈bY qs (i+1),k.1≤p.1.1:=fun p hp=>by
 obtain⟨l,hl,rfl⟩:=yz.mp hp;obtain⟨j,hj,e⟩:=Ay.mp hl;have g:(bm (qs.map (·.1)))[i+1+j]?=some l:=by
  rw[←List.getElem?_drop,y3 hj,e]
 have:=Wv.mp (nj (R9 _) h g (by omega));show k.1≤l.1;omega
theorem jp{α β:Type}{R:α→β→Prop}:∀{xs:List α}{ys:List β}{j:Nat}{x:α},Paired R xs ys→xs[j]?=some x→∃y,ys[j]?=some y∧R x y:=by
 intro xs
 induction xs with
 |nil=>intro ys j x _ e;simp at e
 |cons z zs ih=>
  intro ys j x p e;cases p with
  |cons r p=>
   cases j with
   |zero=>
    rw[zQ]at e;cases e;exact⟨_,rfl,r⟩
   |succ j=>
    rw[List.getElem?_cons_succ]at e;obtain⟨y,hy,h⟩:=ih p e;exact⟨y,by rw[List.getElem?_cons_succ];exact hy,h⟩
theorem uM(a b:Int):(if b<a then b else a)=min a b:=by
 split <;> omega
variable{P:Program}{w:World}{K:W.Frag}{mg:Str→Option Value}{base:Heap}{f:Addr}{fd:FuncData}
theorem u6(aj:mg "sorted"=none)(dF:mg "min"=none)(aF:mg "sum"=none)(aJ:mg "list"=none)(bz:Has P w K mg base "_law_first" 1 ["_law_stretch"] rq)(dD:Has P w K mg base "_law_last" 2 ["_law_stretch"] wj)(F:Fun K "_law_is_dealt" "_law_is_dealt" bB f fd):FnOk P w K mg base CX0 3 f fd ["_law_stream_here","_law_now","_law_deep"] uu:=by
 refine F.ok Zp (fun vs H Q E h=>?_) (fun cdv A outer s H vs Q E hr h=>?_)
 ·obtain⟨r,d,or,ts,qs,rfl,_⟩:=h;rfl
 obtain⟨r,d,or,ts,qs,rfl,dv,e_d,nd,kb,tp,ql,tl,hq⟩:=h;refine⟨_,(Z2 (Y0 3 Zp.nd rfl (Or.inl rfl) oG) Ze),?_⟩;intro L n_L;have e_L:(upd H L (.dK [])) L=some (.dK (izv (bj []))):=Z3;have gg:Same H (upd H L (.dK [])):=Z5 n_L _;generalize upd H L (.dK [])=H1 at e_L gg⊢;obtain⟨_,xs,e0,e_r,ds⟩:=DV.list_inv dv;cases e0;have xl:=ds.length;rw[pi]at xl;refine⟨_,(Z2 (Yr zl rfl (Zq (pv 0)) (W8 rfl (Z9 (Z8 (i:=4) Zp.nd rfl (Or.inl rfl)) (Z9 (Z8 (i:=5) Zp.nd rfl (Or.inl rfl)) (Z9 (Z8 (i:=6) Zp.nd rfl (Or.inl rfl)) (Z9 (Z8 (i:=7) Zp.nd rfl (Or.inl rfl)) Y1)))))
 (Z7 (Wr (X3 hr) (pv 3) (pv 6) (Zb Zs (Wi (X3 hr) (pv 3) (pv 6) Z4 ⟨rfl,rfl,rfl,rfl⟩) (pv 7)) rfl))) Ze),?_⟩
 refine⟨_,rfl,r,rfl,⟨_,SqL.of (gg _ _ e_r)⟩,?_⟩;refine Yi (xs:=xs) (fun i σ H'=>∃(o4 o5 o6 o7:Option V),σ=[some (.ref r),some (.ref d),some (.int or),some (.ref L),o4,o5,o6,o7,none,none,none,none,none]∧Same H H'∧H' L=some (.dK (izv (bj (ts.take i))))∧Hz (bj (ts.take i))∧(bj (ts.take i)).length≤i∧∀p∈bj (ts.take i),0≤p.2) ⟨_,_,_,_,rfl,gg,e_L,(fun _ h=>nomatch h),yB _,(fun _ h=>nomatch h)⟩ ?_ ?_ ?_
 ·rintro i σ H' _ ⟨_,_,_,_,_,g,_⟩;exact SqL.of (g _ _ e_r)
 ·clear e_L gg;rintro i x σ H' N B1 R hN hR hx ⟨o4,o5,o6,o7,rfl,g,eL,hz,ll,nn⟩;obtain⟨t,c,ht,rfl,ec,hm⟩:=DVs.th_at ds hx;have nl:i<ts.length:=(yI.mp ht).1;rw[Zo ht,p7]at hN;have nd':=pV (ts.take i);generalize bj (ts.take i)=ls at eL hz ll nn nd' hN;have l1:=W9 ls (0,t.num) (cnt ls (0,t.num)+t.many);refine⟨c,_,rfl,SqT.of (g _ _ ec),rfl,_,_,rfl,_,_,rfl,_,_,rfl,_,_,rfl,rfl,?_⟩;refine⟨_,rfl,L,rfl,.inl ⟨_,.inl eL⟩,_,rfl,_,DGet.k (k:=.inl t.num) eL,_,rfl,_,t.many,(by rw[nP _ hz];exact W7 _ _),rfl,_,rfl,_,rfl,L,_,rfl,DPut.k (k:=.inl t.num) eL (Zh (by rw[pK];omega)),?_⟩;refine hN _ _ ⟨_,_,_,_,rfl,Vl g n_L,?_,nK hz,by omega,vq nn ?_⟩
  ·rw[←mW _ _ hz];exact Z3
  ·have:=eW nd' nn (0,t.num);have:=tp t hm;omega
 clear e_L gg;rintro σ H2 ⟨o4,o5,o6,o7,rfl,g2,e_L,hz,ll,nn⟩;rw[xl,yV]at e_L hz ll nn;refine⟨_,(Z2 (Yr zl rfl (Zq (Zg (Wx rfl hr.units) rfl aj zK (Z0 (pv 1) Z1))) (Z8 (i:=8) Zp.nd rfl (Or.inl rfl))
 (Z2 (Y0 9 Zp.nd rfl (Or.inl rfl) (Wa (X3 hr) (pv 1) (pv 8) (fun _ _=>rfl)))
 (Z2 (@Sc _ _ 10 _ _ _ _ Zp.nd rfl (Or.inr rfl) (Z6 bz hr (Z0 (pv 8) Z1)) (by rfl) (by first | exact .inl rfl | exact .inr rfl))
 (Z2 (@Sc _ _ 11 _ _ _ _ Zp.nd rfl (Or.inr rfl) (Z6 dD hr (Z0 (pv 8) Z1)) (by rfl) (by first | exact .inl rfl | exact .inr rfl))
 (Vn 6 (Z2 (Yr zl rfl (Zq (jh ["_law_stream_here","_law_now","_law_deep","_law_left","_law_day","_law_mark","#6","_law_many_here","_law_stretch","_law_due","_law_low","_law_high","_law_taken"] (Ym (own:=["_law_number"]) (Wf rfl rfl) (Zq (Zg (gH rfl) rfl aj zK (Z0 (pv 3) Z1)))
  (fun _ _ _ _ _=>(Z8 (i:=0) Ub rfl (Or.inl rfl) (Or.inr rfl))) (fun _ _ _ _ _=>(Wq (fx Sr Sr (pv 11) (pv 0) (pv 12))))
  (fun _ _ _ _ _=>(pv 0))))) (Z8 (i:=6) Zp.nd rfl (Or.inl rfl))
 (Z2 (Y0 12 Zp.nd rfl (Or.inl rfl) (Zg (Op rfl) rfl dF PyProof.Rows.boot_min (Z0 (pv 9) (Z0 (Wa (X3 hr) (pv 3) (pv 6) (fun _ _=>rfl)) Z1))))
 (Z2 (Wr (X3 hr) (pv 3) (pv 6) (Zb Xx (Wa (X3 hr) (pv 3) (pv 6) (fun _ _=>rfl)) (pv 12)) rfl)
 (Z7 (Y0 9 Zp.nd rfl (Or.inl rfl) (Zb Xx (pv 9) (pv 12)))))))
 (Z7 (Yu (Zn Tu (pv 9) Z4 (Zm _)) (Z7 (Zd W5)) Zw)))))))) Ze),?_⟩
 refine⟨_,rfl,d,qs,rfl,g2 _ _ e_d,by omega,fun bs ka l n_l=>?_⟩;have g3:=Z5 n_l (.lst (bs.map V.ref));have BN:(upd H2 l (.lst (bs.map V.ref))) l=some (.lst (bs.map V.ref)):=Z3;have e_L:=g3 _ _ e_L;have ka:=ka.mono fun b xs e=>g3 b _ e;have g2:=g2.trans g3;clear n_l g3;generalize upd H2 l (.lst (bs.map V.ref))=H3 at BN e_L ka g2⊢;have lL:l≠L:=fun z=>by rw[z,e_L]at BN;cases BN
 have BN:aw L H3 l=some (.lst (bs.map V.ref)):=by rw[Zj lL];exact BN
 have ka:KsAt (aw L H3) bs (bm (qs.map (·.1))):=ka.mono fun b xs e=>by rw[Zj (fun z=>by rw[z,e_L]at e;cases e)];exact e
 have bl:=yK ka;have sl:(bm (qs.map (·.1))).length=qs.length:=by rw[(X0 _).length_eq,pi]
 have nL:=pV ts;have c0:Can qs (bj ts)↔Can (bY qs 0) (bj ts):=(gq (fZ nd)).symm;obtain⟨l0,hl0⟩:∃l0:Sps,l0=bj ts:=⟨_,rfl⟩;rw[←hl0]at e_L hz ll nn nL c0 hq;clear hl0;refine⟨l,rfl,⟨_,V4 BN⟩,?_⟩;refine Yi (xs:=bs.map V.ref) (fun i σ H'=>∃(o4 o5 o6 o7 o8 o9 o10 o11 o12:Option V)(ls:Sps),σ=[some (.ref r),some (.ref d),some (.int or),some (.ref L),o4,o5,o6,o7,o8,o9,o10,o11,o12]∧Same H H'∧Grw L H3 H'∧H' L=some (.dK (izv ls))∧Hz ls∧ls.map (·.1)=l0.map (·.1)∧(∀p∈ls,0≤p.2)∧(Can qs l0↔Can (bY qs i) ls)) ⟨_,_,_,_,_,_,_,_,_,l0,rfl,g2,Same.refl _,e_L,hz,rfl,nn,c0⟩ ?_ ?_ ?_
 ·rintro i σ H' _ ⟨_,_,_,_,_,_,_,_,_,_,_,_,g,_⟩;exact V4 (g _ _ BN)
 ·clear e_L hz nn c0 g2;rintro i x σ H4 N B1 R hN hR hx ⟨o4,o5,o6,o7,o8,o9,o10,o11,o12,ls,rfl,g,gw,e_L,hz,keys,nn,cn⟩;rw[yL]at hx;obtain⟨b,hb,rfl⟩:=y8.mp hx;obtain⟨k,hk,BJ⟩:=jp ka hb;have BJ:aw L H3 b=some (.tup [.int k.1,.int k.2]):=BJ;have km:k∈qs.map (·.1):=(X0 _).mem_iff.mp (yW hk);obtain⟨p0,hp0,ep0⟩:=yz.mp km;obtain⟨k0,k1,_⟩:=kb p0 hp0;rw[ep0]at k0 k1;have cq:0≤cnt qs k:=eW nd (fun p hp=>(kb p hp).2.2) k;have nds:(ls.map (·.1)).Nodup:=by rw[keys];exact nL
  have lls:ls.length≤ts.length:=by
   have:=zW List.length keys;rw[pi,pi]at this;omega
  have kat:∀{H':Hp},Grw L H3 H'→KAt H' b k:=fun g=>(Za (g _ _ BJ)).2;refine⟨_,rfl,_,rfl,d,_,rfl,(by rw[←W6 km];exact X9 (g _ _ e_d) (kat gw)),?_⟩;refine⟨_,rfl,b,k,rfl,kat gw,k0,k1,?_⟩;refine⟨_,rfl,b,k,rfl,kat gw,k0,k1,fun H5 g5=>?_⟩;have gw:=gw.trans (Ud e_L g5);have g:=g.trans g5;have e_L:=g5 _ _ e_L;clear g5;refine⟨⟨.inl rfl,.inl rfl,.inl rfl,.inl rfl,.inl rfl,.inl rfl,.inr rfl,.inl rfl,.inl rfl,.inl rfl,.inl rfl,.inl rfl,.inl rfl,trivial⟩,_,rfl,L,_,ls.map (fun p=>p.1.2),rfl,e_L,sO ls,by rw[pi];omega,fun p n_p=>?_⟩;have sp:=V8 (ls.map fun p=>p.1.2);have sl2:=sp.length_eq;rw[pi]at sl2;have mem:∀n,n∈c7 (ls.map fun p=>p.1.2)↔(0,n)∈ls.map (·.1):=fun n=>by
   rw[sp.mem_iff];refine⟨fun h=>?_,fun h=>?_⟩
   ·obtain⟨q,hq,e⟩:=yz.mp h;exact yz.mpr ⟨q,hq,zN (hz q hq) e⟩
   ·obtain⟨q,hq,e⟩:=yz.mp h;exact yz.mpr ⟨q,hq,by rw[e]⟩
  generalize c7 (ls.map fun p=>p.1.2)=ss at sl2 mem n_p⊢;have g6:=Z5 n_p (.lst (ss.map V.int));have BK:(upd H5 p (.lst (ss.map V.int))) p=some (.lst (ss.map V.int)):=Z3;have gw:=gw.trans (Ud e_L g6);have g:=g.trans g6;have e_L:=g6 _ _ e_L;clear g6 n_p sp;generalize upd H5 p (.lst (ss.map V.int))=H6 at BK gw g e_L⊢;refine⟨p,rfl,⟨_,SqL.of BK⟩,?_⟩;refine Y6 (xs:=ss.map V.int) (fun i ys H'=>H'=H6∧ys=(((ss.take i).filter fun n=>decide (aq k≤n∧n≤am k)).map V.int)) ⟨rfl,rfl⟩ ?_ ?_ ?_
  ·rintro i ys H' _ ⟨rfl,_⟩;exact SqL.of BK
  ·rintro i y ys H' C hy ⟨rfl,rfl⟩ hC;rw[yL]at hy;obtain⟨n,hn,rfl⟩:=y8.mp hy;have fl:=zG (fun n:Int=>decide (aq k≤n∧n≤am k)) (ss.take i);rw[yX]at fl;have tk:=Zo hn;refine⟨Zh (by rw[pi];omega),Wk.refl _,_,rfl,_,rfl,_,_,rfl,rfl,_,rfl,?_⟩;by_cases c1:aq k≤n
   ·rw[yF c1];refine Vv ⟨_,rfl,_,_,rfl,rfl,_,rfl,?_⟩;by_cases c2:n≤am k
    ·rw[yF c2];refine Vv ⟨_,rfl,hC _ _ ⟨rfl,?_⟩⟩;rw[tk,Ac,zt,yC (yF ⟨c1,c2⟩),yR];rfl
    ·rw[yY c2];refine Yz (hC _ _ ⟨rfl,?_⟩);rw[tk,List.filter_append,List.filter_cons,if_neg (by simpa using fun _=>by omega),List.filter_nil,List.append_nil]
   ·rw[yY c1];refine Yz ⟨_,rfl,Yz (hC _ _ ⟨rfl,?_⟩)⟩;rw[tk,List.filter_append,List.filter_cons,if_neg (by simpa using fun z=>absurd z c1),List.filter_nil,List.append_nil]
  rintro ys H' ⟨rfl,rfl⟩;rw[show(ss.map V.int).length=ss.length from pi _,yV];have fl:=zG (fun n:Int=>decide (aq k≤n∧n≤am k)) ss;have fm:∀n∈ss.filter (fun n=>decide (aq k≤n∧n≤am k)),n∈ss∧aq k≤n∧n≤am k:=fun n hn=>⟨(yZ.mp hn).1,yJ (yZ.mp hn).2⟩;have fa:∀n∈ss,aq k≤n→n≤am k→n∈ss.filter (fun n=>decide (aq k≤n∧n≤am k)):=fun n hn a b=>yZ.mpr ⟨hn,yF ⟨a,b⟩⟩;generalize ss.filter (fun n=>decide (aq k≤n∧n≤am k))=zs at fl fm fa⊢;refine⟨Zf (by rw[pi];omega),fun p2 tJ=>?_⟩;have g7:=Z5 tJ (.lst (zs.map V.int));have cA:(upd H' p2 (.lst (zs.map V.int))) p2=some (.lst (zs.map V.int)):=Z3;have gw:=gw.trans (Ud e_L g7);have g:=g.trans g7;have e_L:=g7 _ _ e_L;clear g7 tJ BK;generalize upd H' p2 (.lst (zs.map V.int))=H7 at cA gw g e_L⊢;have pL:p2≠L:=fun z=>by rw[z,e_L]at cA;cases cA
  have cA:aw L H7 p2=some (.lst (zs.map V.int)):=by rw[Zj pL];exact cA
  refine⟨p2,rfl,⟨_,V4 cA⟩,?_⟩;refine Yi (xs:=zs.map V.int) (fun j σ H'=>∃(o6 o12:Option V)(lt:Sps)(due:Int),σ=[some (.ref r),some (.ref d),some (.int or),some (.ref L),o4,o5,o6,o7,some (.ref b),some (.int due),some (.int (aq k)),some (.int (am k)),o12]∧Same H H'∧Grw L H3 H'∧Grw L H7 H'∧H' L=some (.dK (izv lt))∧Hz lt∧Tkn (aq k) (am k) (cnt qs k) ls lt due∧(due=0∨∀n∈zs.take j,cnt lt (0,n)=0)) ⟨_,_,ls,_,rfl,g,gw,Same.refl _,e_L,hz,xF cq nn,.inr fun _ h=>nomatch h⟩ ?_ ?_ ?_
  ·rintro j σ H' _ ⟨_,_,_,_,_,_,_,g,_⟩;exact V4 (g _ _ cA)
  ·clear e_L g gw;rintro j y σ H8 N2 B2 R2 hN2 hR2 hy ⟨o6,o12,lt,due,rfl,g,gw,gv,e_L,hzt,tk,dz⟩;rw[yL]at hy;obtain⟨n,hn,rfl⟩:=y8.mp hy;obtain⟨n0,n1,n2⟩:=fm n (yW hn);have nk:(0,n)∈ls.map (·.1):=(mem n).mp n0;have nkt:(0,n)∈lt.map (·.1):=by rw[tk.keys];exact nk
   have ltl:lt.length≤ts.length:=by
    have:=zW List.length tk.keys;rw[pi,pi]at this;omega
   have dg:DGet H8 L (kV (.inl n)) (some (.int (cnt lt (0,n)))):=by
    have q:=DGet.k (k:=.inl n) e_L;rw[nP _ hzt,W6 nkt]at q;exact q
   refine⟨_,rfl,_,rfl,_,rfl,L,_,rfl,dg,due,cnt lt (0,n),rfl,?_⟩;rw[uM];have ts':=n6 tk nds nk n1 n2;refine⟨_,rfl,_,rfl,L,_,rfl,dg,_,rfl,_,_,rfl,rfl,_,rfl,_,rfl,L,_,rfl,DPut.k (k:=.inl n) e_L (Zh (by rw[pK];omega)),?_⟩;refine⟨_,rfl,_,rfl,_,_,rfl,rfl,hN2 _ _ ⟨_,_,ao lt (0,n) (cnt lt (0,n)-min due (cnt lt (0,n))),due-min due (cnt lt (0,n)),rfl,Vl g n_L,gw.trans X8,gv.trans X8,?_,nK hzt,ts',?_⟩⟩
   ·rw[←mW _ _ hzt];exact Z3
   ·have d0:=tk.d0;by_cases c:due≤cnt lt (0,n)
    ·exact .inl (by omega)
    ·refine .inr fun m hm=>?_;rw[X4]
     split
     ·omega
     ·rename_i ne;rw[Zo hn]at hm
      rcases zk.mp hm with z | z
      ·rcases dz with dz | dz
       ·have:=eW (by rw[tk.keys];exact nds) tk.nn (0,n);omega
       ·exact dz m z
      ·exact absurd (by rw[yG.mp z]) ne
  ·clear e_L g gw;rintro σ H8 ⟨o6,o12,lt,due,rfl,g,gw,gv,e_L,hzt,tk,dz⟩;rw[pi,yV]at dz;rw[uF hk]at cn;refine⟨_,rfl,_,_,rfl,rfl,_,rfl,?_⟩;have d0:=tk.d0;by_cases c:due > 0
   ·rw[yF c];have zr:∀n,aq k≤n→n≤am k→cnt lt (0,n)=0:=fun n a b=>by
     rcases dz with dz | dz
     ·omega
     ·by_cases m:n∈ss
      ·exact dz n (fa n m a b)
      ·exact Y2 fun z=>m ((mem n).mpr (by rw[←tk.keys];exact z))
    have sh:=lI tk nds hz zr;have no:=l_ (rem:=bY qs (i+1)) cq (fun p hp=>(kb p (tG nd hp)).2.2) sh c k0;exact Vv (hR _ _ (hq false _ g ⟨(fun z=>nomatch z),fun C=>absurd (cn.mp C) no⟩))
   ·rw[yY c];have e0:due=0:=by omega
    rw[e0]at tk;refine Yz (hN _ _ ⟨_,_,_,_,_,_,_,_,_,lt,rfl,g,gw,e_L,hzt,tk.keys.trans keys,tk.nn,?_⟩);exact cn.trans ⟨fun C=>sf tk k0 (vj hk) C,fun C=>mi tk C⟩
 ·clear e_L hz nn c0 g2;rintro σ H4 ⟨o4,o5,o6,o7,o8,o9,o10,o11,o12,ls,rfl,g,gw,e_L,hz,keys,nn,cn⟩;rw[pi,bl]at cn;have er:bY qs (bm (qs.map (·.1))).length=[]:=by
   unfold bY;rw[List.drop_length];rfl
  rw[er]at cn;refine⟨_,(Z7 (Zd (Um Tv (Zg (Xp rfl) rfl aF zU (Z0 (X1 (fQ rfl) rfl aJ AF (Z0 (Qb zX Ax PySem.F.type_dict_values mN (pv 3)) Z1)) Z1)) Z4 (Zm _)))),?_⟩;refine⟨_,rfl,.inr (.inr (.inl ⟨rfl,.inl ⟨_,e_L⟩⟩)),L,_,rfl,rfl,e_L,?_⟩;have gg:=g;intro v n_v;generalize hz:upd _ v _=H5;revert H5;refine blk ?_;intro H5 hz;have gz:=Zi hz n_v;have e_v:=Zr hz;clear hz;have gg:=gg.trans gz;have e_L:=gz _ _ e_L;refine⟨v,L,_,rfl,e_v,e_L,?_⟩;rw[q_];intro l2 uW;generalize hz:upd _ l2 _=H6;revert H6;refine blk ?_;intro H6 hz;have gz:=Zi hz uW;have cO:=Zr hz;clear hz;have gg:=gg.trans gz;refine⟨l2,_,rfl,SqL.of cO,rfl,?_⟩;refine hq _ _ gg ?_;rw[cn,sV nn];refine⟨fun z=>?_,fun z=>yF ?_⟩
  ·have:=yJ z;injection this
  ·show V.int (ah ls)=V.int 0;rw[z]
def dH:Sp:=fun vs H Q _=>∃(x:V)(T:String),vs=[x]∧Kd H x T∧Q (.bl (whV x)) H
def wV:Sp:=fun vs H Q _=>∃(x:V)(T:String)(l:Int),vs=[x,.int l]∧Kd H x T∧Q (.bl (wF x l)) H
def xL:Sp:=fun vs H Q _=>∃(i l m:Int),vs=[.int i,.int l,.int m]∧Q (.bl (decide (l≤i) && decide (i≤m))) H
theorem f_(ag:mg "isinstance"=none)(cy:mg "int"=none)(cP:mg "bool"=none)(F:Fun K "is_whole" "is_whole" cj f fd):FnOk P w K mg base CX0 1 f fd ["thing"] dH:=by
 refine F.ok gJ (fun vs H Q E h=>?_) (fun cdv A outer s H vs Q E hr h=>?_)
 ·obtain⟨x,T,rfl,_⟩:=h;rfl
 obtain⟨x,T,rfl,hk,hq⟩:=h;refine⟨_,(Z7 (Zd (dO (Zg Wy rfl ag zF (Z0 (pv 0) (Z0 (Wb (v:=.ty "int") rfl cy PyProof.Rows.boot_int rfl) Z1))) (eC (vQ (Zg Wy rfl ag zF (Z0 (pv 0) (Z0 (Wb (v:=.ty "bool") rfl cP PyProof.Rows.boot_bool rfl) Z1)))))))),?_⟩;rw[←hk.wh]at hq;refine⟨_,rfl,_,_,"int",_,rfl,hk.ty,hk.kit (by decide) rfl,_,rfl,?_⟩;refine Wp (fun c=>?_) (fun c=>?_)
 ·refine⟨_,rfl,_,_,"bool",_,rfl,hk.ty,hk.kit (by decide) rfl,_,rfl,?_⟩;rw[c,Bool.true_and]at hq;exact hq
 ·rw[zY.mpr c,A0]at hq;exact hq
theorem Sf(iT:Has P w K mg base "is_whole" 1 ["thing"] dH)(F:Fun K "is_whole_from" "is_whole_from" a6 f fd):FnOk P w K mg base CX0 2 f fd ["thing","least"] wV:=by
 refine F.ok Sa (fun vs H Q E h=>?_) (fun cdv A outer s H vs Q E hr h=>?_)
 ·obtain⟨x,T,l,rfl,_⟩:=h;rfl
 obtain⟨x,T,l,rfl,hk,hq⟩:=h;refine⟨_,(Z7 (Zd (dO (Z6 iT hr (Z0 (pv 0) Z1)) (eC (Um kT (pv 0) (pv 1) (Zm _)))))),?_⟩;refine⟨_,rfl,x,T,rfl,hk,_,rfl,?_⟩;cases x with
 |int i=>exact Vv ⟨_,rfl,_,rfl,_,_,rfl,rfl,hq⟩
 |_=>exact Yz hq
theorem Tc(cV:Has P w K mg base "is_whole_from" 2 ["thing","least"] wV)(F:Fun K "is_whole_within" "is_whole_within" aR f fd):FnOk P w K mg base CX0 3 f fd ["thing","least","most"] xL:=by
 refine F.ok T8 (fun vs H Q E h=>?_) (fun cdv A outer s H vs Q E hr h=>?_)
 ·obtain⟨i,l,m,rfl,_⟩:=h;rfl
 obtain⟨i,l,m,rfl,hq⟩:=h;refine⟨_,(Z7 (Zd (dO (Z6 cV hr (Z0 (pv 0) (Z0 (pv 1) Z1))) (eC (Um Sr (pv 0) (pv 2) (Zm _)))))),?_⟩;refine⟨_,rfl,_,rfl,.int i,"int",l,rfl,.int _,_,rfl,?_⟩;refine Wp (fun c=>?_) (fun c=>?_)
 ·have c:decide (l≤i)=true:=c;rw[c,Bool.true_and]at hq;exact⟨_,rfl,_,rfl,_,_,rfl,rfl,hq⟩
 ·have c:decide (l≤i)=false:=zY.mpr c;rw[c,A0]at hq;exact hq
def a9(ps:Sps)(k:Int×Int)(m:Int):Sps:=if cnt ps k-m=0 then ay (ao (ao ps (ae k) (cnt ps (ae k)+m)) k (cnt ps k-m)) k else ao (ao ps (ae k) (cnt ps (ae k)+m)) k (cnt ps k-m)
def cH(ts:List Th):Sps:=ts.map fun t=>((0,t.num),t.many)
def aI(ts:List Th):Sps:=aD [] (cH ts)
def PprAt(H:Hp)(p:Addr)(ps:Sps):Prop:=∃as:List Addr,H p=some (.lst (as.map V.ref))∧Paired (FT H) as ps
theorem PprAt.mono{H H':Hp}{p:Addr}{ps:Sps}(g:Same H H')(h:PprAt H p ps):PprAt H' p ps:=let ⟨as,e,r⟩:=h;⟨as,g _ _ e,Paired.mapP r fun _ _ f=>Zz g f⟩
def eqB(ps qs:Sps):Bool:=decide (ps.length=qs.length) && ps.all fun p=>decide (p∈qs)
def cU(or:Int)(qs:Sps):Sps→Sps→Bool
 |ps,[]=>eqB ps qs
 |ps,(k,m)::r=>if m<1∨or≤k.1∨cnt ps k<m then false else cU or qs (a9 ps k m) r
def inB(or:Int)(k:Int×Int):Bool:=decide (0≤k.2) && decide (k.2≤2^or.toNat-1)
def dB(or total:Int)(ts:List Th)(qs BI:Sps):Bool:=decide (aT ts=total) && ((aI ts).all fun e=>inB or e.1) && cU or qs (aI ts) BI
def kO:Sp:=fun vs H Q _=>∃(d p:Addr)(ps:Sps)(k:Int×Int)(m:Int),vs=[.ref d,.ref p,.int m]∧H d=some (.dT (ad ps))∧KAt H p k∧k∈ps.map (·.1)∧ps.length<100000∧∀(H':Hp),Grw d H H'→H' d=some (.dT (ad (a9 ps k m)))→Q .non H'
def i5:Sp:=fun vs H Q _=>∃(c1 c2:Addr)(bs:List Addr)(ys:Sps),vs=[.ref c1,.ref c2]∧H c1=some (.tup [])∧H c2=some (.lst (bs.map V.ref))∧Paired (FT H) bs ys∧ys.length≤1000∧∀(d:Addr)(H':Hp),H d=none→Same H H'→H' d=some (.dT (ad (aD [] ys)))→Q (.ref d) H'
def uk:Sp:=fun vs H Q _=>∃(r:Addr)(ts:List Th),vs=[.ref r]∧DV H (.ref r) (aX ts)∧ts.length≤1000∧∀H',Same H H'→Q (.int (aT ts)) H'
def o0:Sp:=fun vs H Q _=>∃(r:Addr)(ts:List Th),vs=[.ref r]∧DV H (.ref r) (aX ts)∧ts.length≤1000∧∀(d:Addr)(H':Hp),H d=none→Same H H'→H' d=some (.dT (ad (aI ts)))→Q (.ref d) H'
def oR:Sp:=fun vs H Q _=>∃(p:Addr)(n or:Int),vs=[.ref p,.int or]∧KAt H p (0,n)∧0≤or∧or≤20∧∀H',Same H H'→Q (.bl (inB or (0,n))) H'
def gZ:Sp:=fun vs H Q _=>∃(r q p:Addr)(ts:List Th)(BE or total:Int)(qs BI:Sps),vs=[.ref r,.ref q,.ref p]∧DV H (.ref r) (aX ts)∧ts.length≤1000∧LadAt H q BE or total qs∧(qs.map (·.1)).Nodup∧qs.length≤400∧0≤or∧or≤20∧PprAt H p BI∧BI.length≤20000∧∀H',Same H H'→Q (.bl (dB or total ts qs BI)) H'
theorem l5{p:Addr}{H0 H1 H2:Hp}(n:H0 p=none)(s:Same H0 H1)(g:Grw p H1 H2):Same H0 H2:=fun b u e=>(Za (g b u (by rw[Zj (Zk e n)];exact s b u e))).2
theorem lA(ps:Sps)(k:Int×Int)(m:Int):(a9 ps k m).length≤ps.length+2:=by
 have a:=W9 ps (ae k) (cnt ps (ae k)+m);have b:=W9 (ao ps (ae k) (cnt ps (ae k)+m)) k (cnt ps k-m);unfold a9
 split
 ·have:=P3 (ao (ao ps (ae k) (cnt ps (ae k)+m)) k (cnt ps k-m)) k;omega
 ·omega
theorem yn{ps:Sps}(nd:(ps.map (·.1)).Nodup):((ad ps).map (·.1)).Nodup:=by
 rw[S5];exact z9.mpr (nd.imp fun h e=>h (Vu e))
theorem oF(bH:Has P w K mg base "parent_of" 1 ["stretch"] di)(F:Fun K "fold_up" "fold_up" cM f fd):FnOk P w K mg base CX0 2 f fd ["counts","stretch","many"] kO:=by
 refine F.ok Q5 (fun vs H Q E h=>?_) (fun cdv A outer s H vs Q E hr h=>?_)
 ·obtain⟨d,p,ps,k,m,rfl,_⟩:=h;rfl
 obtain⟨d,p,ps,k,m,rfl,e_d,BK,hk,pl,hq⟩:=h;have lk:=W6 hk;obtain⟨c,hc⟩:∃c,c=cnt ps k:=⟨_,rfl⟩;rw[←hc]at lk;unfold a9 at hq;rw[←hc]at hq;refine⟨_,(Z2 (Y0 3 Q5.nd rfl (Or.inl rfl) (Z6 bH hr (Z0 (pv 1) Z1))) Ze),?_⟩;refine⟨_,rfl,p,k,rfl,BK,fun q nq=>?_⟩;have g1:=mx (o:=.tup [.int (ae k).1,.int (ae k).2]) e_d nq;have s1:=Z5 nq (.tup [.int (ae k).1,.int (ae k).2]);have BQ:KAt (upd H q (.tup [.int (ae k).1,.int (ae k).2])) q (ae k):=Z3;have e_d:=s1 _ _ e_d;have BK:KAt _ p k:=s1 _ _ BK;generalize upd H q (.tup [.int (ae k).1,.int (ae k).2])=H1 at g1 BQ e_d BK⊢;have tupd:∀{H:Hp}{b:Addr}{j:Int×Int}{kvs:List (List Key×V)}{o:HO},H d=some (.dT kvs)→KAt H b j→KAt (upd H d o) b j:=fun{H b j kvs o} e eb=>by
  show upd H d o b=_;rw[Zc (U1 eb e (by intro z;cases z))];exact eb
 refine⟨_,(Z2 (Wr (X3 hr) (pv 0) (pv 3) (Zb Zs (Wi (X3 hr) (pv 0) (pv 3) Z4 ⟨rfl,rfl,rfl,rfl⟩) (pv 2)) rfl) Ze),?_⟩;obtain⟨n0,hn0,h0⟩:∃n,n=cnt ps (ae k)∧(ai ps (ae k)).getD (.int 0)=.int n:=⟨_,rfl,W7 _ _⟩;rw[←hn0]at hq;have l1:=W9 ps (ae k) (n0+m);refine⟨_,rfl,d,rfl,.inr ⟨_,.inl e_d⟩,_,rfl,_,X9 e_d BQ,_,rfl,n0,m,h0,rfl,_,rfl,_,rfl,d,_,rfl,DPut.t (k:=kk (ae k)) e_d BQ (Zh (by rw[Zx];omega)),?_⟩;have g2:Grw d H (upd H1 d (.dT (aN (ad ps) (kk (ae k)) (.int (n0+m))))):=g1.trans X8;have cA:=tupd (o:=.dT (aN (ad ps) (kk (ae k)) (.int (n0+m)))) e_d BK;have aY:(upd H1 d (.dT (aN (ad ps) (kk (ae k)) (.int (n0+m))))) d=some (.dT (ad (ao ps (ae k) (n0+m)))):=by rw[←T9];exact Z3
 generalize upd H1 d (.dT (aN (ad ps) (kk (ae k)) (.int (n0+m))))=H2 at g2 cA aY⊢;refine⟨_,(Z2 (Wr (X3 hr) (pv 0) (pv 1) (Zb Xx (Wa (X3 hr) (pv 0) (pv 1) (fun _ _=>rfl)) (pv 2)) rfl) Ze),?_⟩;have lk2:ai (ao ps (ae k) (n0+m)) k=some (.int c):=by rw[Xa,yA (U8 k)];exact lk
 generalize ao ps (ae k) (n0+m)=qs at hq aY lk2 l1;have l2:=W9 qs k (c-m);refine⟨_,rfl,_,rfl,d,.int c,rfl,by rw[←lk2];exact X9 aY cA,_,rfl,_,_,rfl,rfl,_,rfl,_,rfl,d,_,rfl,DPut.t (k:=kk k) aY cA (Zh (by rw[Zx];omega)),?_⟩;have g3:Grw d H (upd H2 d (.dT (aN (ad qs) (kk k) (.int (c-m))))):=g2.trans X8;have i_:=tupd (o:=.dT (aN (ad qs) (kk k) (.int (c-m)))) aY cA;have bF:(upd H2 d (.dT (aN (ad qs) (kk k) (.int (c-m))))) d=some (.dT (ad (ao qs k (c-m)))):=by rw[show ad (ao qs k (c-m))=aN (ad qs) (kk k) (.int (c-m)) from(T9 _ _ _).symm];exact Z3
 generalize upd H2 d (.dT (aN (ad qs) (kk k) (.int (c-m))))=H3 at g3 i_ bF⊢;refine⟨_,(Z7 (Yu (Zn Tv (Wa (X3 hr) (pv 0) (pv 1) (fun _ _=>rfl)) Z4 (Zm _)) (Z7 (Xz (O4 zX PySem.F.slot_dict_pop PySem.F.type_dict_pop (jZ hr.units) (pv 0) (Z0 (pv 1) Z1)))) Zw)),?_⟩;have lk3:ai (ao qs k (c-m)) k=some (.int (c-m)):=by rw[Xa,yC rfl]
 generalize ao qs k (c-m)=rs at hq bF lk3 l2;refine⟨_,rfl,_,rfl,d,.int (c-m),rfl,by rw[←lk3];exact X9 bF i_,rfl,_,rfl,Wp (fun z=>?_) (fun z=>?_)⟩
 ·have z:c-m=0:=by simpa using z
  rw[yC z]at hq;refine⟨_,rfl,S4 bF,_,rfl,d,p,_,kk k,_,rfl,rfl,bF,i_,lk3,?_⟩;refine hq _ (g3.trans X8) ?_;rw[←jv];exact Z3
 ·have z:¬(c-m=0):=by simpa using z
  rw[yA z]at hq;exact hq _ g3 bF
theorem rD(aZ:mg "dict"=none)(F:Fun K "added_counts" "added_counts" bf f fd):FnOk P w K mg base CX0 1 f fd ["one","other"] i5:=by
 refine F.ok Xc (fun vs H Q E h=>?_) (fun cdv A outer s H vs Q E hr h=>?_)
 ·obtain⟨c1,c2,bs,ys,rfl,_⟩:=h;rfl
 obtain⟨c1,c2,bs,ys,rfl,e1,e2,p2,xl,hq⟩:=h;refine⟨_,(Z2 (Y0 2 Xc.nd rfl (Or.inl rfl) (X1 (Ug rfl hr.units) rfl aZ A7 (Z0 (pv 0) Z1))) Ze),?_⟩;have nd:((ad []).map (·.1)).Nodup:=zA;refine⟨_,rfl,c1,_,ad [],rfl,e1,iW (as:=[]) .nil,by rw[Zx];exact zP _,fun d n_d=>?_⟩;rw[Qh nd];have sm:=Z5 n_d (.dT (ad []));have ed:(upd H d (.dT (ad []))) d=some (.dT (ad [])):=Z3;generalize upd H d (.dT (ad []))=H1 at sm ed⊢;have bl:=yK p2;refine⟨_,(Z2 (Yr zl rfl (Zq (pv 1)) (W8 rfl (Z9 (Z8 (i:=3) Xc.nd rfl (Or.inl rfl)) (Z9 (Z8 (i:=4) Xc.nd rfl (Or.inl rfl)) Y1)))
 (Z7 (Wr (X3 hr) (pv 2) (pv 3) (Zb Zs (Wi (X3 hr) (pv 2) (pv 3) Z4 ⟨rfl,rfl,rfl,rfl⟩) (pv 4)) rfl))) Ze),?_⟩
 refine⟨_,rfl,c2,rfl,⟨_,SqL.of (sm _ _ e2)⟩,?_⟩;refine Yi (xs:=bs.map V.ref) (fun i σ H'=>∃(o3 o4:Option V),σ=[some (.ref c1),some (.ref c2),some (.ref d),o3,o4]∧Same H H'∧H' d=some (.dT (ad (aD [] (ys.take i))))∧(aD [] (ys.take i)).length≤i) ⟨_,_,rfl,sm,ed,yB _⟩ ?_ ?_ ?_
 ·rintro i σ H' _ ⟨_,_,_,g,_⟩;exact SqL.of (g _ _ e2)
 ·rintro i x σ H' N B1 R hN hR hx ⟨o3,o4,rfl,g,ed,al⟩;obtain⟨a,p,rfl,hp,b,BP,BJ⟩:=Ue p2 hx;have il:i<ys.length:=(yI.mp hp).1;have BP:=g _ _ BP;have BJ:KAt H' b p.1:=g _ _ BJ;have st:aD [] (ys.take (i+1))=ao (aD [] (ys.take i)) p.1 (cnt (aD [] (ys.take i)) p.1+p.2):=by rw[Zo hp,P8]
  rw[st]at hN;generalize aD [] (ys.take i)=zs at ed al hN;have l1:=W9 zs p.1 (cnt zs p.1+p.2);refine⟨a,_,rfl,SqT.of BP,rfl,_,_,rfl,_,_,rfl,rfl,?_⟩;refine⟨_,rfl,d,rfl,.inr ⟨_,.inl ed⟩,_,rfl,_,X9 ed BJ,_,rfl,_,p.2,W7 _ _,rfl,_,rfl,_,rfl,d,_,rfl,DPut.t (k:=kk p.1) ed BJ (Zh (by rw[Zx];omega)),?_⟩;refine hN _ _ ⟨_,_,rfl,fun x w e=>?_,by rw[←T9];exact Z3,by omega⟩;rw[Zc (Zk e n_d)];exact g _ _ e
 ·rintro σ H' ⟨o3,o4,rfl,g,ed,_⟩;rw[pi,bl,yV]at ed;exact⟨_,(Z7 (Zd (pv 2))),_,rfl,hq d _ n_d g ed⟩
theorem uS(aF:mg "sum"=none)(F:Fun K "things_in" "things_in" bN f fd):FnOk P w K mg base CX0 1 f fd ["stream"] uk:=by
 refine F.ok eI (fun vs H Q E h=>?_) (fun cdv A outer s H vs Q E hr h=>?_)
 ·obtain⟨r,ts,rfl,_⟩:=h;rfl
 obtain⟨r,ts,rfl,hd,tl,hq⟩:=h;refine⟨_,(Z7 (Zd (Zg (Xp rfl) rfl aF zU (Z0 (Ym (own:=["day","mark","number","many"]) (Wf rfl rfl) (Zq (pv 0))
  (fun _ _ _ _ _=>(Xd K 4 rfl rfl (Z9 (Z8 (i:=0) Yw rfl (Or.inl rfl) (Or.inr rfl)) (Z9 (Z8 (i:=1) Yw rfl (Or.inl rfl) (Or.inr rfl)) (Z9 (Z8 (i:=2) Yw rfl (Or.inl rfl) (Or.inr rfl)) (Z9 (Z8 (i:=3) Yw rfl (Or.inl rfl) (Or.inr rfl)) Y1)))))) (fun _ _ _ _ _=>Yp)
  (fun _ _ _ _ _=>(pv 3))) Z1)))),?_⟩
 obtain⟨_,xs,e0,e_r,ds⟩:=DV.list_inv hd;cases e0;refine⟨_,rfl,r,rfl,⟨_,SqL.of e_r⟩,Uf (fun _=>true) (fun t=>.int t.many) e_r ds (by omega) ?_ ?_⟩
 ·rintro t c ys C mt ec h1 _;exact⟨c,_,rfl,SqT.of ec,rfl,_,_,rfl,_,_,rfl,_,_,rfl,_,_,rfl,rfl,Wk.refl _,_,rfl,h1 rfl⟩
 intro q nq;refine⟨q,ts.map Th.many,rfl,SqL.of ?_,hq _ (Z5 nq _)⟩;rw[Z3,Ap.mpr (fun _ _=>rfl),yQ];rfl
theorem uJ(bi:Has P w K mg base "added_counts" 1 ["one","other"] i5)(F:Fun K "standing_of" "standing_of" bw f fd):FnOk P w K mg base CX0 2 f fd ["stream"] o0:=by
 refine F.ok Q3 (fun vs H Q E h=>?_) (fun cdv A outer s H vs Q E hr h=>?_)
 ·obtain⟨r,ts,rfl,_⟩:=h;rfl
 obtain⟨r,ts,rfl,hd,tl,hq⟩:=h;refine⟨_,(Z7 (Zd (Z6 bi hr (Z0 (Zu Z1) (Z0 (Ym (own:=["day","mark","number","many"]) (Wf rfl rfl) (Zq (pv 0))
  (fun _ _ _ _ _=>(Xd K 4 rfl rfl (Z9 (Z8 (i:=0) Yn rfl (Or.inl rfl) (Or.inr rfl)) (Z9 (Z8 (i:=1) Yn rfl (Or.inl rfl) (Or.inr rfl)) (Z9 (Z8 (i:=2) Yn rfl (Or.inl rfl) (Or.inr rfl)) (Z9 (Z8 (i:=3) Yn rfl (Or.inl rfl) (Or.inr rfl)) Y1)))))) (fun _ _ _ _ _=>Yp)
  (fun _ _ _ _ _=>(Zu (Z0 (Zu (Z0 Z4 (Z0 (pv 2) Z1))) (Z0 (pv 3) Z1))))) Z1))))),?_⟩
 obtain⟨_,xs,e0,e_r,ds⟩:=DV.list_inv hd;cases e0;have xl:=ds.length;rw[pi]at xl;refine⟨leN rfl,fun c n_c=>?_⟩;have s1:=Z5 n_c (.tup []);have BM:(upd H c (.tup [])) c=some (.tup []):=Z3;generalize upd H c (.tup [])=H1 at s1 BM⊢;have xz:=s1 _ _ e_r;refine⟨_,rfl,r,rfl,⟨_,SqL.of xz⟩,?_⟩;refine Y6 (xs:=xs) (fun n ys H'=>∃bs:List Addr,Same H1 H'∧ys=bs.map V.ref∧Paired (FT H') bs ((cH ts).take n)) ⟨[],Same.refl _,rfl,.nil⟩ ?_ ?_ ?_
 ·rintro n ys H' _ ⟨_,g,_⟩;exact SqL.of (g _ _ xz)
 ·rintro n x ys H' C hx ⟨bs,g,rfl,pr⟩ hC;have nl:=(yI.mp hx).1;obtain⟨t,c',ht,rfl,ec,mt⟩:=DVs.th_at ds hx;have ec:=g _ _ (s1 _ _ ec);have bl:=yK pr;rw[yX]at bl;refine⟨Zh (by rw[pi];omega),c',_,rfl,SqT.of ec,rfl,_,_,rfl,_,_,rfl,_,_,rfl,_,_,rfl,rfl,Wk.refl _,_,rfl,leN rfl,fun a na=>?_⟩;have g1:=Z5 na (.tup [.int 0,.int t.num]);have BP:KAt (upd H' a (.tup [.int 0,.int t.num])) a (0,t.num):=Z3;generalize upd H' a (.tup [.int 0,.int t.num])=H2 at g1 BP⊢;refine⟨_,rfl,leN rfl,fun b nb=>?_⟩;have g2:=Z5 nb (.tup [.ref a,.int t.many]);have BJ:(upd H2 b (.tup [.ref a,.int t.many])) b=some (.tup [.ref a,.int t.many]):=Z3;have BP:KAt _ a (0,t.num):=g2 _ _ BP;generalize upd H2 b (.tup [.ref a,.int t.many])=H3 at g2 BP BJ⊢;refine hC _ _ ⟨bs++[b],g.trans (g1.trans g2),by rw[yR];rfl,?_⟩;have h2:(cH ts)[n]?=some ((0,t.num),t.many):=by
   unfold cH;rw[yL,ht];rfl
  rw[Zo h2];exact Paired.snoc (Paired.mapP pr fun _ _ f=>Zz (g1.trans g2) f) ⟨a,BJ,BP⟩
 rintro ys H' ⟨bs,g,rfl,pr⟩;have sl:(cH ts).length=ts.length:=pi _;rw[xl,←sl,yV]at pr;have bl:=yK pr;refine⟨Zf (by rw[pi];omega),fun l nl=>?_⟩;have g2:=Z5 nl (.lst (bs.map V.ref));refine⟨c,l,bs,cH ts,rfl,g2 _ _ (g _ _ BM),Z3,Paired.mapP pr fun _ _ f=>Zz g2 f,by omega,fun d H3 nd g3 ed=>?_⟩;exact hq d _ (s1.free (g.free (g2.free nd))) (s1.trans (g.trans (g2.trans g3))) ed
theorem Pd(ag:mg "isinstance"=none)(bc:mg "tuple"=none)(aM:mg "len"=none)(bn:Has P w K mg base "is_whole_within" 3 ["thing","least","most"] xL)(cK:Has P w K mg base "last_of" 2 ["stretch"] jq)(F:Fun K "is_stretch" "is_stretch" bD f fd):FnOk P w K mg base CX0 4 f fd ["thing","deep"] oR:=by
 refine F.ok Wz (fun vs H Q E h=>?_) (fun cdv A outer s H vs Q E hr h=>?_)
 ·obtain⟨p,n,or,rfl,_⟩:=h;rfl
 obtain⟨p,n,or,rfl,e,d0,d1,hq⟩:=h;refine⟨_,(Z2 (Yu (PW.pt (U0 (V1 (Xw (Zg Wy rfl ag zF (Z0 (pv 0) (Z0 (Wb (v:=.ty "tuple") rfl bc PyProof.Rows.boot_tuple rfl) Z1))))) (V0 (Zn ug (Zg Y7 rfl aM An (Z0 (pv 0) Z1)) Z4 (Zm _))))) (Z7 (Zd W5)) Zw)
 (Z2 (V2 (pv 0) (W8 rfl (Z9 (Z8 (i:=2) Wz.nd rfl (Or.inl rfl)) (Z9 (Z8 (i:=3) Wz.nd rfl (Or.inl rfl)) Y1))))
 (Z7 (Zd (dO (Z6 bn hr (Z0 (pv 2) (Z0 Z4 (Z0 (pv 1) Z1)))) (eC (Z6 bn hr (Z0 (pv 3) (Z0 Z4 (Z0 (Z6 cK hr (Z0 (Zu (Z0 (Zb Xx (pv 1) (pv 2)) (Z0 Z4 Z1))) Z1)) Z1)))))))))),?_⟩
 have kp:Kd H (.ref p) "tuple":=.tup e;refine⟨_,rfl,_,_,"tuple",_,rfl,kp.ty,kp.kit (by decide) rfl,_,rfl,Yz ?_⟩;refine⟨_,rfl,p,_,rfl,.inr (SqT.of e),rfl,_,rfl,Yz ?_⟩;refine⟨_,rfl,p,_,rfl,SqT.of e,rfl,_,_,rfl,_,_,rfl,rfl,?_⟩;refine⟨_,rfl,_,rfl,0,0,or,rfl,_,rfl,?_⟩;rw[yF (y9 0),yF d0];refine Vv ⟨_,rfl,_,rfl,_,rfl,_,_,rfl,rfl,leN rfl,fun r nr=>⟨r,(or-0,0),rfl,Z3,by show 0≤or-0;omega,by show or-0≤20;omega,y9 _,by show(0:Int)≤_;decide,fun H' g=>⟨n,0,_,rfl,?_⟩⟩⟩;have e2:am (or-0,0)=2^or.toNat-1:=by
  unfold am;show(0+1)*(2:Int)^(or-0).toNat-1=_;rw[Int.sub_zero,Bo,z5]
 rw[e2];exact hq _ ((Z5 nr _).trans g)
end K30
namespace L2
open PySem PySem.Spec PyProof.Rows
section
variable{P:Program}{w:World}{A:Around}{E:Value→Shared→Prop}{s:Shared}{a b:Addr}{xa xb:List TKv}{ps qs:Sps}
theorem Qj(H:Hp)(ha:(a==sysModules)=false)(hb:(b==sysModules)=false):MeetsIn P w (Builtin.«dict.__eq__» ⟨[.ref a,.ref b],[]⟩) (fun A R s=>A.in1.units<cLine∧s.heap.DictOfH (tupleKind (ac P w)) a xa∧s.heap.DictOfH (tupleKind (ac P w)) b xb∧
  KT H (ad ps) xa∧KT H (ad qs) xb∧R (.ok (.ret (.bool (decide (ps.length=qs.length) && ps.all fun p=>decide (p∈qs))))) s):=
 .of_wp fun A R s ⟨hu,da,db,ra,rb,h⟩=>by
  show wpAny _ _ (Builtin.Dict.dictSlotArgs "__eq__" ⟨[.ref a,.ref b],[]⟩ >>= _) _ _ s;refine io ?_;unfold Builtin.Dict.dictSlotArgs;refine io (z7 da.typeIs ?_);show wpAny _ _ (pure (Value.ref a,Value.ref b)) _ _ s;refine yx ?_;refine io (A2 db.typeIs isSubtype_dict_dict ?_);rw[yA (by decide)];show wpAny _ _ (Builtin.Dict.samePairs _ a b >>= _) _ _ s;refine io (p9 (show A.in1.units<cLine from hu) ha hb da db ra rb ?_);have bt:∀c:Bool,(c==true)=c:=fun c=>by cases c <;> rfl
  rw[bt];exact yx ⟨_,rfl,h⟩
def wM:R2:=fun x y H Q=>∃a b ps qs,x=.ref a∧y=.ref b∧H a=some (.dT (ad ps))∧H b=some (.dT (ad qs))∧Q (.bl (decide (ps.length=qs.length) && ps.all fun p=>decide (p∈qs))) H
theorem sr{X:Cx}(hu:X.A.units+64<cLine):OpR X (compareOp .Eq) wM:=by
 intro BF s σ H x y v u Q I rx ry h;obtain⟨a,b,ps,qs,rfl,rfl,ea,eb,q⟩:=h;cases rx;cases ry;obtain⟨za,ha,va,ra,da⟩:=Oe I.hok ea;obtain⟨zb,hb,vb,rb,db⟩:=Oe I.hok eb;refine wpAny_richCompare_same_room (op:=.Eq) da.typeIs db.typeIs PySem.F.slot_dict_eq (Bm PySem.F.slot_dict_eq da.typeIs PySem.F.entry_dict_eq (PySem.F.args_dict_eq_2 _ _) (Qj H ha hb) ⟨?_,da,db,ra,rb,?_⟩) (by omega)
 ·exact(show X.A.units+1<cLine by omega)
 ·exact⟨(fun z=>nomatch z),.bl _,H,I,rfl,q⟩
end
end L2
namespace K30
open PySem L2 Ld
theorem Uu:∀{ys xs:Sps}{k:Int×Int},k∈(aD xs ys).map (·.1)→k∈xs.map (·.1)∨k∈ys.map (·.1)
 | [],_,_,h=>.inl h
 |p::ys,xs,k,h=>by
  rw[Vi]at h
  rcases Uu h with h | h
  ·rw[W4]at h
   split at h
   ·exact .inl h
   ·rcases zk.mp h with h | h
    ·exact .inl h
    ·rw[yG.mp h];exact .inr (.head _)
  ·exact .inr (.tail _ h)
theorem f8{ts:List Th}{e:(Int×Int)×Int}(h:e∈aI ts):∃n,e.1=(0,n):=by
 rcases Uu (yz.mpr ⟨e,h,rfl⟩)with h | h
 ·exact absurd h zw
 ·unfold cH at h;rw[yQ]at h;obtain⟨t,_,e⟩:=yz.mp h;exact⟨t.num,e.symm⟩
theorem N9(ts:List Th):(aI ts).length≤ts.length:=by
 have:=Uv (cH ts) [];rw[zZ,BA,show(cH ts).length=ts.length from pi _]at this;exact this
theorem pG{α:Type}{l:List α}{i:Nat}{x:α}(h:l[i]?=some x):l.drop i=x::l.drop (i+1):=by
 obtain⟨hi,e⟩:=yI.mp h;rw[List.drop_eq_getElem_cons hi,e]
theorem Sk{ps:Sps}{k:Int×Int}(h:1≤cnt ps k):k∈ps.map (·.1):=Classical.byContradiction fun n=>by
 rw[Y2 n]at h;omega
section
variable{P:Program}{w:World}{K:W.Frag}{mg:Str→Option Value}{base:Heap}{f:Addr}{fd:FuncData}
theorem lz(oe:mg "all"=none)(aZ:mg "dict"=none)(bu:Has P w K mg base "standing_of" 2 ["stream"] o0)(fU:Has P w K mg base "things_in" 1 ["stream"] uk)(eY:Has P w K mg base "is_stretch" 4 ["thing","deep"] oR)(mG:Has P w K mg base "fold_up" 2 ["counts","stretch","many"] kO)(F:Fun K "is_folded" "is_folded" bT f fd):FnOk P w K mg base CX0 5 f fd ["stream","ladder","paper"] gZ:=by
 refine F.ok Yl (fun vs H Q E h=>?_) (fun cdv A outer s H vs Q E hr h=>?_)
 ·obtain⟨r,q,p,ts,BE,or,total,qs,BI,rfl,_⟩:=h;rfl
 obtain⟨r,q,p,ts,BE,or,total,qs,BI,rfl,k_r,tl,lad,nq,ql,d0,d1,⟨bs,BK,pb⟩,pl,hq⟩:=h;obtain⟨c,as,BQ,BM,pr⟩:=lad.at_;have sl:=N9 ts;have hF:aT ts≠total∨((aI ts).all fun e=>inB or e.1)=false→dB or total ts qs BI=false:=fun h=>by
  unfold dB
  rcases h with h | h
  ·rw[yY h,A0,A0]
  ·rw[h,Bool.and_false,A0]
 have hT:aT ts=total→((aI ts).all fun e=>inB or e.1)=true→dB or total ts qs BI=cU or qs (aI ts) BI:=fun h1 h2=>by
  unfold dB;rw[yF h1,h2,Bool.true_and,Bool.true_and]
 generalize dB or total ts qs BI=B at hq hF hT;refine⟨_,(Z2 (V2 (pv 1) (W8 rfl (Z9 (Z8 (i:=3) Yl.nd rfl (Or.inl rfl)) (Z9 (Z8 (i:=4) Yl.nd rfl (Or.inr rfl)) (Z9 (Z8 (i:=5) Yl.nd rfl (Or.inl rfl)) (Z9 (Z8 (i:=6) Yl.nd rfl (Or.inl rfl)) Y1)))))) Ze),?_⟩;refine⟨_,rfl,q,_,rfl,SqT.of BQ,rfl,_,_,rfl,_,_,rfl,_,_,rfl,_,_,rfl,rfl,?_⟩;refine⟨_,(Z2 (Y0 7 Yl.nd rfl (Or.inl rfl) (Z6 bu hr (Z0 (pv 0) Z1))) Ze),?_⟩;refine⟨_,rfl,r,ts,rfl,k_r,tl,fun d H1 n_d g1 e_d=>?_⟩;refine⟨_,(Z2 (Yu (PW.pt (U0 (Zn ug (Z6 fU hr (Z0 (pv 0) Z1)) (pv 6) (Zm _)) (V0 (V1 (Xw (Zg (pD rfl) rfl oe PyProof.Rows.boot_all (Z0 (jJ (Ym (own:=["one"]) (Wf rfl rfl) (Q8 (pv 7))
  (fun _ _ _ _ _=>(Z8 (i:=0) Td rfl (Or.inl rfl) (Or.inr rfl))) (fun _ _ _ _ _=>Yp)
  (fun _ _ _ _ _=>(Z6 eY hr (Z0 (pv 0) (Z0 (pv 5) Z1)))))) Z1))))))) (Z7 (Zd W5)) Zw) Ze),?_⟩
 refine⟨_,rfl,r,ts,rfl,k_r.mono g1,tl,fun H2 g2=>⟨_,rfl,rfl,_,rfl,Wp (fun c1=>Vv ?_) (fun c1=>?_)⟩⟩
 ·have c1:aT ts≠total:=by simpa using c1
  rw[hF (.inl c1)]at hq;exact hq _ (g1.trans g2)
 have c1:aT ts=total:=by simpa using c1
 have hF2:=fun h=>hF (.inr h);have hT:=hT c1;clear hF;have e_d:=g2 _ _ e_d;have gg:=g1.trans g2;clear g1 g2;have nS:∀e∈aI ts,∃n,e.1=(0,n):=fun e h=>f8 h;generalize aI ts=S at e_d sl hF2 hT nS;refine⟨d,_,e_d,fun o=>⟨_,rfl,d,o,_,rfl,Z3,?_⟩⟩;refine P6 (fun i ys H'=>Same (upd H2 d (.frz o (.dT (ad S)))) H'∧ys=((S.take i).map fun e=>inB or e.1).map V.bl) ⟨Same.refl _,rfl⟩ ?_ ?_ ?_ ?_
 ·rintro i ys H' ⟨g5,_⟩;exact g5 _ _ Z3
 ·rintro i p0 b ys H5 C hp0 BJ ⟨g5,rfl⟩ hC;obtain⟨e,he,rfl⟩:=i4 hp0;have em:=yW he;obtain⟨n,hn⟩:=nS e em;have BJ:KAt H5 b e.1:=BJ;rw[hn]at BJ;refine⟨Zh (by rw[pi,pi,yX];omega),Wk.refl _,_,rfl,_,rfl,b,n,or,rfl,BJ,d0,d1,fun H6 g6=>hC _ _ ⟨g5.trans g6,?_⟩⟩;rw[Zo he,yR,yR];show _=_++[V.bl (inB or e.1)];rw[hn]
 ·rintro i ys H' ⟨_,rfl⟩;exact Zh (by rw[pi,pi,yX];omega)
 rintro ys H5 ⟨g5,rfl⟩;rw[Zx,yV];refine⟨Zf (by rw[pi,pi];omega),fun l n_l=>?_⟩;have ld:l≠d:=fun z=>by rw[z,g5 _ _ Z3]at n_l;cases n_l
 have g6:=g5.trans (Z5 n_l (.lst ((S.map fun e=>inB or e.1).map V.bl)));have sz:=S6 e_d g6;have gg:=gg.trans sz;have bF:=sz _ _ e_d;refine⟨g6 _ _ Z3,l,_,rfl,SqL.of (by rw[Zc ld];exact Z3),?_⟩;rw[List.all_map];generalize upd (upd H5 l (.lst ((S.map fun e=>inB or e.1).map V.bl))) d (.dT (ad S))=H6 at gg bF⊢;clear sz g6 g5 e_d;refine⟨_,rfl,Wp (fun c2=>?_) (fun c2=>?_)⟩
 ·have c2:(S.all fun e=>inB or e.1)=false:=by simpa using c2
  rw[hF2 c2]at hq;exact hq _ gg
 have c2:(S.all fun e=>inB or e.1)=true:=by simpa using c2
 rw[hT c2]at hq;clear hT hF2 c1 c2 nS;refine⟨_,(Z2 (Yr zl rfl (Zq (pv 2)) (W8 rfl (Z9 (Z8 (i:=8) Yl.nd rfl (Or.inl rfl)) (Z9 (Z8 (i:=9) Yl.nd rfl (Or.inl rfl)) Y1)))
 (Z2 (Yu (PW.pt (U0 (Zn oP (pv 9) Z4 (Zm _)) (U0 (Zn kT (Yc Y9 (pv 8) Z4) (pv 4) (Zm _)) (V0 (Zn Tu (pv 9) (Wi (X3 hr) (pv 7) (pv 8) Z4 ⟨rfl,rfl,rfl,rfl⟩) (Zm _)))))) (Z7 (Zd W5)) Zw)
 (Z7 (Xz (Z6 mG hr (Z0 (pv 7) (Z0 (pv 8) (Z0 (pv 9) Z1)))))))) Ze),?_⟩
 refine⟨_,rfl,p,rfl,⟨_,SqL.of (gg _ _ BK)⟩,?_⟩;have bl:=yK pb;refine Yi (xs:=bs.map V.ref) (fun i σ H'=>∃(o8 o9:Option V)(ps:Sps),σ=[some (.ref r),some (.ref q),some (.ref p),some (.int BE),some (.int or),some (.ref c),some (.int total),some (.ref d),o8,o9]∧Same H H'∧H' d=some (.dT (ad ps))∧ps.length≤1000+2*i∧cU or qs ps (BI.drop i)=cU or qs S BI) ⟨_,_,S,rfl,gg,bF,by omega,rfl⟩ ?_ ?_ ?_
 ·rintro i σ H' _ ⟨_,_,_,_,g,_⟩;exact SqL.of (g _ _ BK)
 ·rintro i x σ H' N B1 R hN hR hx ⟨o8,o9,ps,rfl,g,ed,al,key⟩;obtain⟨a,⟨k,m⟩,rfl,hp,b,BP,BJ⟩:=Ue pb hx;have il:i<BI.length:=(yI.mp hp).1;have BP:=g _ _ BP;have BJ:KAt H' b k:=g _ _ BJ;rw[pG hp]at key;have key:(if m<1∨or≤k.1∨cnt ps k<m then false else cU or qs (a9 ps k m) (BI.drop (i+1)))=cU or qs S BI:=key;refine⟨a,_,rfl,SqT.of BP,rfl,_,_,rfl,_,_,rfl,rfl,?_⟩;refine⟨_,rfl,_,_,rfl,rfl,_,rfl,Wp (fun c1=>Vv ?_) (fun c1=>?_)⟩
  ·rw[yC (.inl (yJ c1))]at key;rw[←key]at hq;exact hR _ _ (hq _ g)
  have c1:¬m<1:=Au (zY.mpr c1);refine⟨_,rfl,b,_,0,_,rfl,rfl,SqT.of BJ,rfl,_,rfl,_,_,rfl,rfl,_,rfl,Wp (fun c2=>Vv ?_) (fun c2=>?_)⟩
  ·rw[yC (.inr (.inl (yJ c2)))]at key;rw[←key]at hq;exact hR _ _ (hq _ g)
  have c2:¬or≤k.1:=Au (zY.mpr c2);refine⟨_,rfl,_,rfl,d,rfl,.inr ⟨_,.inl ed⟩,_,rfl,_,X9 ed BJ,_,_,rfl,W7 _ _,_,rfl,Wp (fun c3=>?_) (fun c3=>?_)⟩
  ·rw[yC (.inr (.inr (yJ c3)))]at key;rw[←key]at hq;exact hR _ _ (hq _ g)
  have c3:¬cnt ps k<m:=Au (zY.mpr c3);rw[yA fun h=>h.elim c1 fun h=>h.elim c2 c3]at key;have l1:=lA ps k m;refine⟨_,rfl,_,rfl,_,rfl,d,b,ps,k,m,rfl,ed,BJ,Sk (by omega),by omega,fun H3 g3 e3=>?_⟩;exact hN _ _ ⟨_,_,_,rfl,l5 n_d g g3,e3,by omega,key⟩
 ·rintro σ H' ⟨o8,o9,ps,rfl,g,ed,al,key⟩;rw[pi,bl,List.drop_length]at key;have key:eqB ps qs=cU or qs S BI:=key;rw[←key]at hq;refine⟨_,(Z7 (Zd (Um (sr hr.units) (pv 7) (X1 (Ug rfl hr.units) rfl aZ A7 (Z0 (pv 5) Z1)) (Zm _)))),?_⟩;refine⟨_,rfl,_,rfl,c,_,_,rfl,g _ _ BM,iW (Paired.mapP pr fun _ _ f=>Zz g f),by rw[Zx];omega,fun z nz=>?_⟩;rw[Qh (yn nq)];have g4:=Z5 nz (.dT (ad qs));exact⟨d,z,ps,qs,rfl,rfl,g4 _ _ ed,Z3,hq _ (g.trans g4)⟩
end
theorem W0{ps:Sps}{k:Int×Int}{n:Int}{p:(Int×Int)×Int}(h:p∈ao ps k n):p=(k,n)∨(p∈ps∧p.1≠k):=by
 unfold ao at h
 split at h
 ·obtain⟨q,hq,rfl⟩:=yz.mp h
  split
  ·rename_i e;exact .inl (by rw[e])
  ·rename_i e;exact .inr ⟨hq,e⟩
 ·rename_i na
  rcases zk.mp h with h | h
  ·exact .inr ⟨h,fun e=>na (Rm.mpr (yz.mpr ⟨p,h,e⟩))⟩
  ·exact .inl (yG.mp h)
theorem dX{ps:Sps}(nn:∀p∈ps,0≤p.2)(nd:(ps.map (·.1)).Nodup)(k:Int×Int):0≤cnt ps k:=by
 by_cases hk:k∈ps.map (·.1)
 ·obtain⟨p,hp,rfl⟩:=yz.mp hk;rw[Yh nd hp];exact nn p hp
 ·rw[Y2 hk];exact y9 _
def mv(f:Int×Int→Int)(k:Int×Int)(m:Int):Int×Int→Int:=fun x=>if x=k then f k-m else if x=ae k then f x+m else f x
theorem mL(ps:Sps)(k:Int×Int)(m:Int)(x:Int×Int):cnt (a9 ps k m) x=mv (cnt ps) k m x:=by
 unfold a9 mv
 split
 ·rename_i z;rw[hE];by_cases e:x=k
  ·rw[yC e,yC e,z]
  ·rw[yA e,yA e,X4,yA e,X4];by_cases q:x=ae k
   ·rw[yC q,yC q,q]
   ·rw[yA q,yA q]
 ·rw[X4];by_cases e:x=k
  ·rw[yC e,yC e]
  ·rw[yA e,yA e,X4];by_cases q:x=ae k
   ·rw[yC q,yC q,q]
   ·rw[yA q,yA q]
def dw(ls:Sps)(k:Int×Int)(m:Int):Sps:=ao (ao ls k (cnt ls k-m)) (ae k) (cnt (ao ls k (cnt ls k-m)) (ae k)+m)
theorem Ol(ls:Sps)(k:Int×Int)(m:Int)(x:Int×Int):cnt (dw ls k m) x=mv (cnt ls) k m x:=by
 unfold dw mv;rw[X4,X4,X4,yA (Ne.symm (U8 k))];by_cases e:x=k
 ·rw[yC e,yA (by rw[e];exact U8 k),yC e]
 ·by_cases q:x=ae k
  ·rw[yC q,yA e,yC q,q]
  ·rw[yA q,yA e,yA e,yA q]
def l7(or:Int)(qs:Sps):Sps→Sps→Bool
 |ls,[]=>eqB qs (ls.filter fun p=>decide (0<p.2))
 |ls,(k,m)::r=>if m<1∨¬(0≤k.1∧k.1<or)∨cnt ls k<m then false else l7 or qs (dw ls k m) r
structure Tab(ls:Sps):Prop where
 nd:(ls.map (·.1)).Nodup
 nn:∀p∈ls,0≤p.2
 ht:∀p∈ls,0≤p.1.1
structure Pos(ps:Sps):Prop where
 nd:(ps.map (·.1)).Nodup
 pos:∀p∈ps,0<p.2
theorem gi{ls:Sps}{k:Int×Int}{m:Int}(t:Tab ls)(m1:1≤m)(k0:0≤k.1)(c:m≤cnt ls k):Tab (dw ls k m):=by
 have a:=dX t.nn t.nd;unfold dw;rw[X4,yA (Ne.symm (U8 k))];refine⟨Yo (Yo t.nd),fun p hp=>?_,fun p hp=>?_⟩
 ·rcases W0 hp with rfl | ⟨hp,_⟩
  ·have:=a (ae k);show 0≤cnt ls (ae k)+m;omega
  ·rcases W0 hp with rfl | ⟨hp,_⟩
   ·show 0≤cnt ls k-m;omega
   ·exact t.nn p hp
 ·rcases W0 hp with rfl | ⟨hp,_⟩
  ·show 0≤k.1+1;omega
  ·rcases W0 hp with rfl | ⟨hp,_⟩
   ·exact k0
   ·exact t.ht p hp
theorem gI{ps:Sps}{k:Int×Int}{m:Int}(t:Pos ps)(m1:1≤m)(c:m≤cnt ps k):Pos (a9 ps k m):=by
 have a:=dX (fun p hp=>AG (t.pos p hp)) t.nd;have core:∀p∈ao (ao ps (ae k) (cnt ps (ae k)+m)) k (cnt ps k-m),p.1≠k→0<p.2:=fun p hp n=>by
  rcases W0 hp with rfl | ⟨hp,_⟩
  ·exact absurd rfl n
  ·rcases W0 hp with rfl | ⟨hp,_⟩
   ·have:=a (ae k);show 0<cnt ps (ae k)+m;omega
   ·exact t.pos p hp
 unfold a9
 split
 ·refine⟨Vz (Yo (Yo t.nd)),fun p hp=>?_⟩;obtain⟨h1,h2⟩:=yZ.mp hp;exact core p h1 (yJ h2)
 ·rename_i z;refine⟨Yo (Yo t.nd),fun p hp=>?_⟩;by_cases e:p.1=k
  ·rcases W0 hp with rfl | ⟨_,n⟩
   ·show 0<cnt ps k-m;omega
   ·exact absurd e n
  ·exact core p hp e
theorem Rv{α:Type}[DecidableEq α]:∀{l m:List α},l.Nodup→(∀a∈l,a∈m)→m.length≤l.length→∀a∈m,a∈l
 | [],m,_,_,h,a,ha=>by
  rw[zZ]at h;rw[List.length_eq_zero_iff.mp (Nat.le_zero.mp h)]at ha;exact ha
 |x::l,m,nd,s,h,a,ha=>by
  rw[y7]at nd;have hx:=s x (.head _);have le:=List.length_erase_of_mem hx;have lp:=List.length_pos_of_mem hx;rw[zu]at h;by_cases e:a=x
  ·rw[e];exact .head _
  ·refine .tail _ (Rv (m:=m.erase x) nd.2 (fun y hy=>?_) (by omega) a ((List.mem_erase_of_ne e).mpr ha));exact(List.mem_erase_of_ne fun(z:y=x)=>nd.1 (by rw[←z];exact hy)).mpr (s y (.tail _ hy))
theorem Vg{ps qs:Sps}(np:ps.Nodup)(nq:qs.Nodup):eqB ps qs=true↔ps.Perm qs:=by
 unfold eqB;rw[zz];refine⟨fun⟨h1,h2⟩=>?_,fun h=>⟨yF h.length_eq,zL.mpr fun p hp=>yF (h.mem_iff.mp hp)⟩⟩;have h1:=yJ h1;have s:∀a∈ps,a∈qs:=fun a ha=>yJ (zL.mp h2 a ha);exact Rc np nq fun a=>⟨s a,Rv np s (by omega) a⟩
theorem Pt{ps ls:Sps}(t:Pos ps)(u:Tab ls)(e:∀k,cnt ps k=cnt ls k):ps.Perm (ls.filter fun p=>decide (0<p.2)):=by
 refine Rc (Ve t.nd) ((Ve u.nd).filter _) fun p=>⟨fun hp=>?_,fun hp=>?_⟩
 ·have h1:=Yh t.nd hp;have h2:=t.pos p hp;rw[e]at h1;have hk:p.1∈ls.map (·.1):=Sk (by omega);obtain⟨q,hq,eq⟩:=yz.mp hk;have h3:=Yh u.nd hq;have:q=p:=zN eq (by rw[←h3,←h1,eq]);rw[←this];refine yZ.mpr ⟨hq,yF ?_⟩;rw[this];exact h2
 ·obtain⟨hq,h2⟩:=yZ.mp hp;have h2:=yJ h2;have h1:=Yh u.nd hq;rw[←e]at h1;have hk:p.1∈ps.map (·.1):=Sk (by omega);obtain⟨q,hq,eq⟩:=yz.mp hk;have h3:=Yh t.nd hq;have:q=p:=zN eq (by rw[←h3,←h1,eq]);rw[←this];exact hq
theorem jc{or:Int}{qs:Sps}(nq:(qs.map (·.1)).Nodup):∀(r:Sps){ps ls:Sps},Pos ps→Tab ls→(∀k,cnt ps k=cnt ls k)→cU or qs ps r=l7 or qs ls r
 | [],ps,ls,t,u,e=>by
  have w:=Pt t u e;have n1:=Ve t.nd;have n2:=Ve nq;have n3:=(Ve u.nd).filter (fun p=>decide (0<p.2));show eqB ps qs=eqB qs _;refine zV.mpr ⟨fun h=>?_,fun h=>?_⟩
  ·exact(Vg n2 n3).mpr (((Vg n1 n2).mp h).symm.trans w)
  ·exact(Vg n1 n2).mpr (w.trans ((Vg n2 n3).mp h).symm)
 | (k,m)::r,ps,ls,t,u,e=>by
  show(if m<1∨or≤k.1∨cnt ps k<m then false else cU or qs (a9 ps k m) r)=(if m<1∨¬(0≤k.1∧k.1<or)∨cnt ls k<m then false else l7 or qs (dw ls k m) r);have ek:=e k;by_cases h1:m<1
  ·rw[yC (.inl h1),yC (.inl h1)]
  ·by_cases h2:cnt ps k<m
   ·rw[yC (.inr (.inr h2)),yC (.inr (.inr (by omega)))]
   ·have hk:k∈ls.map (·.1):=Sk (by omega);obtain⟨q,hq,eq⟩:=yz.mp hk;have h0:=u.ht q hq;rw[eq]at h0;by_cases h3:or≤k.1
    ·rw[yC (.inr (.inl h3)),yC (.inr (.inl fun z=>by omega))]
    ·rw[yA fun h=>h.elim h1 fun h=>h.elim h3 h2,yA fun h=>h.elim h1 fun h=>h.elim (fun z=>z ⟨h0,by omega⟩) fun z=>by omega];refine jc nq r (gI t (by omega) (by omega)) (gi u (by omega) h0 (by omega)) fun x=>?_;rw[mL,Ol];unfold mv;rw[e k,e x]
theorem Re:∀{ys xs:Sps}{k:Int×Int},k∈xs.map (·.1)∨k∈ys.map (·.1)→k∈(aD xs ys).map (·.1)
 | [],_,_,h=>h.elim id fun h=>nomatch h
 |p::ys,xs,k,h=>by
  rw[Vi];have kp:k∈xs.map (·.1)∨k=p.1→k∈(ao xs p.1 (cnt xs p.1+p.2)).map (·.1):=fun h=>by
   rw[W4]
   split
   ·rename_i z
    rcases h with h | h
    ·exact h
    ·rw[h];exact z
   ·rcases h with h | h
    ·exact Ab _ h
    ·rw[h];exact yT _ (.head _)
  rcases h with h | h
  ·exact Re (.inl (kp (.inl h)))
  ·rw[yD]at h
   rcases yO.mp h with h | h
   ·exact Re (.inl (kp (.inr h)))
   ·exact Re (.inr h)
theorem dL:∀{ys xs:Sps},Pos xs→(∀p∈ys,0<p.2)→Pos (aD xs ys)
 | [],_,h,_=>h
 |p::ys,xs,h,g=>by
  refine dL (ys:=ys) ⟨Yo h.nd,fun q hq=>?_⟩ fun q hq=>g q (.tail _ hq)
  rcases W0 hq with rfl | ⟨hq,_⟩
  ·have:=dX (fun p hp=>AG (h.pos p hp)) h.nd p.1;have:=g p (.head _);show 0<cnt xs p.1+p.2;omega
  ·exact h.pos q hq
theorem Tl{ts:List Th}(h:∀t∈ts,1≤t.many):Pos (aI ts):=by
 refine dL ⟨zA,fun _ h=>nomatch h⟩ fun p hp=>?_;obtain⟨t,ht,rfl⟩:=yz.mp hp;exact h t ht
theorem N8{ts:List Th}(h:∀t∈ts,1≤t.many):Tab (aI ts):=by
 have p:=Tl h;refine⟨p.nd,fun q hq=>AG (p.pos q hq),fun q hq=>?_⟩;obtain⟨n,e⟩:=f8 hq;rw[e];exact y9 _
theorem jM(ts:List Th):ah (aI ts)=aT ts:=by
 unfold aI;rw[eN (xs:=[]) zA];unfold ah aT cH;rw[yQ];show(0:Int)+_=_;rw[Bo];rfl
def rk(or total:Int)(ts:List Th)(qs BI:Sps):Bool:=(ts.all fun t=>decide (t.num<2^or.toNat)) && (decide (ah (aI ts)=total) && l7 or qs (aI ts) BI)
theorem kH{or total:Int}{ts:List Th}{qs BI:Sps}(h:∀t∈ts,0≤t.num∧1≤t.many)(nq:(qs.map (·.1)).Nodup):dB or total ts qs BI=rk or total ts qs BI:=by
 have hm:=fun t ht=>(h t ht).2;unfold dB rk;rw[jM,jc nq BI (Tl hm) (N8 hm) fun _=>rfl];have al:((aI ts).all fun e=>inB or e.1)=ts.all fun t=>decide (t.num<2^or.toNat):=by
  refine zV.mpr ⟨fun z=>?_,fun z=>?_⟩
  ·refine zL.mpr fun t ht=>yF ?_;have hk:(0,t.num)∈(aI ts).map (·.1):=Re (.inr (yz.mpr ⟨((0,t.num),t.many),yz.mpr ⟨t,ht,rfl⟩,rfl⟩));obtain⟨e,he,ee⟩:=yz.mp hk;have:=zL.mp z e he;unfold inB at this;rw[ee,zz]at this;have:=yJ this.2;have:t.num≤2^or.toNat-1:=this;omega
  ·refine zL.mpr fun e he=>?_
   rcases Uu (yz.mpr ⟨e,he,rfl⟩)with q | q
   ·exact absurd q zw
   ·unfold cH at q;rw[yQ]at q;obtain⟨t,ht,ee⟩:=yz.mp q;have:=yJ (zL.mp z t ht);have t0:=(h t ht).1;unfold inB;rw[←ee,zz];exact⟨yF t0,yF (show t.num≤2^or.toNat-1 by omega)⟩
 rw[al];cases decide (aT ts=total) <;> cases (ts.all fun t=>decide (t.num<2^or.toNat)) <;> rfl
inductive Run(or:Int):(Int×Int→Int)→Sps→(Int×Int→Int)→Prop
 |nil (f:Int×Int→Int):Run or f [] f
 |cons {f g:Int×Int→Int} {k:Int×Int} {m:Int} {r:Sps}:1≤m→0≤k.1→k.1<or→m≤f k→Run or (mv f k m) r g→Run or f ((k,m)::r) g
theorem Run.app{or:Int}{f g h:Int×Int→Int}{r s:Sps}(a:Run or f r g)(b:Run or g s h):Run or f (r++s) h:=by
 induction a with
 |nil _=>exact b
 |cons h1 h2 h3 h4 _ ih=>exact .cons h1 h2 h3 h4 (ih b)
theorem Run.chk{or:Int}{qs:Sps}{f g:Int×Int→Int}{r:Sps}(a:Run or f r g)(pq:Pos qs)(eq:∀k,cnt qs k=g k):∀{ls:Sps},Tab ls→(∀k,cnt ls k=f k)→l7 or qs ls r=true:=by
 induction a with
 |nil f=>
  intro ls t e;exact(Vg (Ve pq.nd) ((Ve t.nd).filter _)).mpr (Pt pq t fun k=>by rw[eq,e])
 | @cons f g k m r h1 h2 h3 h4 _ ih=>
  intro ls t e;have ek:=e k;show(if m<1∨¬(0≤k.1∧k.1<or)∨cnt ls k<m then false else l7 or qs (dw ls k m) r)=true;rw[yA fun z=>z.elim (fun z=>by omega) fun z=>z.elim (fun z=>z ⟨h2,h3⟩) fun z=>by omega];refine ih eq (gi t h1 h2 (by omega)) fun x=>?_;rw[Ol];unfold mv;rw[e k,e x]
def exc(qs st:Sps):Sps:=(st.map fun p=>(p.1,p.2-cnt qs p.1)).filter fun p=>decide (0<p.2)
def upS(fs:Sps):Sps:=aD [] (fs.map fun p=>(ae p.1,p.2))
def stn(qs st:Sps):Nat→Sps
 | 0=>st
 |n+1=>upS (exc qs (stn qs st n))
def cB(qs st:Sps):Nat→Sps
 | 0=>[]
 |n+1=>cB qs st n++exc qs (stn qs st n)
theorem eR(qs st:Sps):(exc qs st).length≤st.length:=by
 unfold exc;refine zE (zG _ _) ?_;rw[pi];exact yB _
theorem si(fs:Sps):(upS fs).length≤fs.length:=by
 have:=Uv (fs.map fun p=>(ae p.1,p.2)) [];rw[zZ,BA,pi]at this;exact this
theorem kA(qs st:Sps)(n:Nat):(stn qs st n).length≤st.length:=by
 induction n with
 |zero=>exact yB _
 |succ n ih=>exact zE (si _) (zE (eR _ _) ih)
theorem gn(qs st:Sps)(n:Nat):(cB qs st n).length≤n*st.length:=by
 induction n with
 |zero=>exact zP _
 |succ n ih=>
  show(cB qs st n++exc qs (stn qs st n)).length≤_;have a:=eR qs (stn qs st n);have b:=kA qs st n;rw[yM,Nat.succ_mul];omega
theorem Vx{qs st:Sps}{p:(Int×Int)×Int}(h:p∈exc qs st):0<p.2∧∃q∈st,q.1=p.1∧p.2=q.2-cnt qs q.1:=by
 obtain⟨h1,h2⟩:=yZ.mp h;obtain⟨q,hq,e⟩:=yz.mp h1;exact⟨yJ h2,q,hq,by rw[←e],by rw[←e]⟩
theorem oT{qs st:Sps}(nd:(st.map (·.1)).Nodup):((exc qs st).map (·.1)).Nodup:=by
 refine List.Sublist.nodup (List.Sublist.map _ List.filter_sublist) ?_;rw[yQ];exact nd
theorem sA{qs st:Sps}(nd:(st.map (·.1)).Nodup){p:(Int×Int)×Int}(hp:p∈st)(h:cnt qs p.1≤p.2):cnt (exc qs st) p.1=p.2-cnt qs p.1:=by
 by_cases c:0<p.2-cnt qs p.1
 ·exact Yh (p:=(p.1,p.2-cnt qs p.1)) (oT nd) (yZ.mpr ⟨yz.mpr ⟨p,hp,rfl⟩,yF c⟩)
 ·rw[Y2 fun z=>?_]
  ·omega
  ·obtain⟨q,hq,e⟩:=yz.mp z;obtain⟨h1,r,hr,e1,e2⟩:=Vx hq;have er:r.1=p.1:=e1.trans e;have:r=p:=by
    have a:=Yh nd hr;have b:=Yh nd hp;exact zN er (by rw[←a,←b,er])
   rw[this]at e2;omega
theorem swS{g:Int×Int→Int}{ks:List (Int×Int)}:∀{A:Sps},(A.map (·.1)).Nodup→ks.Nodup→(∀p∈A,p.1∈ks)→(ks.map fun k=>cnt A k*g k).sum=wS g A:=by
 induction ks with
 |nil=>
  intro A _ _ h;cases A with
  |nil=>rfl
  |cons p A=>exact absurd (h p (.head _)) zw
 |cons k ks ih=>
  intro A nd nk h;rw[y7]at nk;have q:=ih (A:=ay A k) (Vz nd) nk.2 fun p hp=>by
   obtain⟨h1,h2⟩:=yZ.mp hp
   rcases yO.mp (h p h1)with z | z
   ·exact absurd z (yJ h2)
   ·exact z
  have e:(ks.map fun j=>cnt (ay A k) j*g j)=ks.map fun j=>cnt A j*g j:=Ae fun j hj=>by
   rw[hE,yA fun z:j=k=>nk.1 (by rw[←z];exact hj)]
  rw[e,Oz nd]at q;rw[yD,y4];omega
theorem ja{A:Sps}(nd:(A.map (·.1)).Nodup)(k:Int×Int):wS (fun x=>if x=k then 1 else 0) A=cnt A k:=by
 by_cases h:k∈A.map (·.1)
 ·have q:=swS (g:=fun x=>if x=k then 1 else 0) (ks:=A.map (·.1)) nd nd fun p hp=>yz.mpr ⟨p,hp,rfl⟩;rw[←q];have main:∀(ks:List (Int×Int)),ks.Nodup→k∈ks→(ks.map fun j=>cnt A j*(if j=k then 1 else 0)).sum=cnt A k:=by
   intro ks
   induction ks with
   |nil=>exact fun _ h=>nomatch h
   |cons j ks ih=>
    intro nk hk;rw[y7]at nk;rw[yD,y4];by_cases c:j=k
    ·have z:(ks.map fun j=>cnt A j*(if j=k then(1:Int)else 0)).sum=0:=by
      have e:(ks.map fun j=>cnt A j*(if j=k then(1:Int)else 0))=ks.map fun _=>(0:Int):=Ae fun i hi=>by
       rw[yA fun z:i=k=>nk.1 (by rw[c,←z];exact hi),Bp]
      rw[e];exact qP _
     rw[z,yC c,AI,c,Int.add_zero]
    ·rcases yO.mp hk with e | e
     ·exact absurd e.symm c
     ·rw[ih nk.2 e,yA c,Bp,Bo]
  exact main _ nd h
 ·rw[Y2 h];refine Tj fun p hp=>.inr (yA fun z=>h (by rw[←z];exact yz.mpr ⟨p,hp,rfl⟩))
theorem oH(ys:Sps)(k:Int×Int):cnt (aD [] ys) k=wS (fun x=>if x=k then 1 else 0) ys:=by
 rw[←ja (Ti (xs:=[]) zA),iB (xs:=[]) zA];exact Bo _
def pin(l:Sps)(x:Int×Int):Int:=wS (fun k=>if ae k=x then 1 else 0) l
theorem tW(l:Sps)(x:Int×Int):cnt (upS l) x=pin l x:=by
 unfold upS pin;rw[oH];unfold wS;rw[yQ];rfl
theorem nM(g:Int×Int→Int)(l:Sps):wS g (upS l)=wS (fun k=>g (ae k)) l:=by
 unfold upS;rw[iB (xs:=[]) zA];show 0+_=_;rw[Bo];unfold wS;rw[yQ];rfl
theorem rj{or i:Int}(i0:0≤i)(i1:i<or):∀(l:Sps)(f:Int×Int→Int),(l.map (·.1)).Nodup→(∀p∈l,p.1.1=i∧1≤p.2∧p.2≤f p.1)→Run or f l fun x=>f x-cnt l x+pin l x:=by
 intro l
 induction l with
 |nil=>
  intro f _ _;have e:(fun x=>f x-cnt [] x+pin [] x)=f:=funext fun x=>by
   show f x-0+0=f x;omega
  rw[e];exact .nil f
 |cons p l ih=>
  intro f nd h;obtain⟨p1,p2,p3⟩:=h p (.head _);rw[yD,y7]at nd;have q:=ih (mv f p.1 p.2) nd.2 fun r hr=>by
   obtain⟨a,b,c⟩:=h r (.tail _ hr);refine⟨a,b,?_⟩;unfold mv;rw[yA fun z=>nd.1 (by rw[←z];exact yz.mpr ⟨r,hr,rfl⟩),yA fun z=>?_]
   ·exact c
   ·have:r.1.1=p.1.1+1:=zW (·.1) z;omega
  have e:(fun x=>f x-cnt (p::l) x+pin (p::l) x)=fun x=>mv f p.1 p.2 x-cnt l x+pin l x:=funext fun x=>by
   unfold pin;rw[Yv];have cc:cnt (p::l) x=if x=p.1 then p.2 else cnt l x:=by
    by_cases z:x=p.1
    ·rw[yC z,z];exact Yh (by rw[yD,y7];exact nd) (.head _)
    ·rw[yA z];unfold cnt ai ad;rw[yD,Y4 (p:=(kk p.1,V.int p.2)) fun y=>z (Vu y).symm]
   rw[cc];unfold mv;by_cases z:x=p.1
   ·rw[yC z,yC z,yA (by rw[z];exact fun y=>U8 p.1 y.symm),Bp,z,Y2 nd.1];omega
   ·rw[yA z,yA z];by_cases y:x=ae p.1
    ·rw[yC y,yC y.symm,AI];omega
    ·rw[yA y,yA fun w=>y w.symm,Bp];omega
  have e2:p::l=(p.1,p.2)::l:=rfl;rw[e,e2];exact .cons p2 (by rw[p1];exact i0) (by rw[p1];exact i1) p3 q
def bQ(qs:Sps)(i:Int):Sps:=qs.filter fun p=>decide (i≤p.1.1)
def atH(qs:Sps)(i:Int):Sps:=qs.filter fun p=>decide (p.1.1=i)
theorem Qx(g:Int×Int→Int)(qs:Sps)(i:Int):wS g (bQ qs i)=wS g (atH qs i)+wS g (bQ qs (i+1)):=by
 induction qs with
 |nil=>rfl
 |cons p qs ih=>
  unfold bQ atH at ih⊢;rw[zt,zt,zt]
  rcases Int.lt_trichotomy p.1.1 i with c | c | c
  ·rw[if_neg (by simpa using c),if_neg (by simpa using (by omega:¬p.1.1=i)),if_neg (by simpa using (by omega:p.1.1<i+1))];exact ih
  ·rw[if_pos (decide_eq_true (by omega)),if_pos (decide_eq_true c),if_neg (by simpa using (by omega:p.1.1<i+1)),Yv,Yv,ih];omega
  ·rw[if_pos (decide_eq_true (by omega)),if_neg (by simpa using (by omega:¬p.1.1=i)),if_pos (decide_eq_true (by omega)),Yv,Yv,ih];omega
theorem eT{qs:Sps}{P:(Int×Int)×Int→Bool}(nd:(qs.map (·.1)).Nodup):((qs.filter P).map (·.1)).Nodup:=List.Sublist.nodup (List.Sublist.map _ List.filter_sublist) nd
theorem eG{qs:Sps}{P:(Int×Int)×Int→Bool}(nd:(qs.map (·.1)).Nodup){k:Int×Int}(h:∀p∈qs,p.1=k→P p=true):cnt (qs.filter P) k=cnt qs k:=by
 by_cases c:k∈qs.map (·.1)
 ·obtain⟨p,hp,e⟩:=yz.mp c;rw[←e,Yh nd hp,Yh (eT nd) (yZ.mpr ⟨hp,h p hp e⟩)]
 ·rw[Y2 c,Y2 fun z=>?_];obtain⟨p,hp,e⟩:=yz.mp z;exact c (by rw[←e];exact yz.mpr ⟨p,(yZ.mp hp).1,rfl⟩)
structure Stq(or i:Int)(qs st:Sps):Prop where
 nd:(st.map (·.1)).Nodup
 pos:∀p∈st,0<p.2
 at_:∀p∈st,p.1.1=i∧0≤p.1.2∧p.1.2<2^(or-i).toNat
 can:Can (bQ qs i) st
theorem vL{s k:Int×Int}(h0:0≤s.1)(e:k.1=s.1)(w:wit s k):k=s:=by
 refine zN e ?_;obtain⟨a,b⟩:=w;unfold aq at a;unfold am at b;rw[e]at a b;have p:=Ys s.1.toNat;have l1:s.2≤k.2:=Int.le_of_mul_le_mul_right a p;have l2:k.2+1≤s.2+1:=Int.le_of_mul_le_mul_right (by omega) p;omega
theorem N6{or i:Int}{qs st:Sps}(i0:0≤i)(o:Pok or qs)(S:Stq or i qs st){k:Int×Int}(hk:k.1=i):cnt qs k≤cnt st k:=by
 have c:=S.can.each k (by omega);have e1:wS (gin k) st=cnt st k:=by
  rw[←ja S.nd k];unfold wS;refine zW List.sum (Ae fun p hp=>?_)
  congr 1
  show gin k p.1=if p.1=k then 1 else 0
  by_cases z:p.1=k
  ·rw[yC z,z];exact W1 ⟨y9 _,y9 _⟩
  ·rw[yA z];exact We fun w=>z (vL (by omega) (by rw[(S.at_ p hp).1,hk]) w)
 have e2:cnt qs k≤wS (gin k) (bQ qs i):=by
  rw[←eG (P:=fun p=>decide (i≤p.1.1)) o.kok.nd (k:=k) fun p _ e=>yF (by rw[e,hk];exact y9 _),←ja (eT o.kok.nd) k];have main:∀l:Sps,(∀p∈l,0≤p.2)→wS (fun x=>if x=k then 1 else 0) l≤wS (gin k) l:=by
   intro l
   induction l with
   |nil=>exact fun _=>y9 _
   |cons p l ih=>
    intro h;rw[Yv,Yv];have a:=ih fun q hq=>h q (.tail _ hq);have b:p.2*(if p.1=k then 1 else 0)≤p.2*gin k p.1:=Int.mul_le_mul_of_nonneg_left (by
     by_cases z:p.1=k
     ·rw[yC z,z];exact Int.le_of_eq (W1 ⟨y9 _,y9 _⟩).symm
     ·rw[yA z];exact Si) (h p (.head _))
    omega
  exact main _ fun p hp=>by have:=o.pos p (yZ.mp hp).1;omega
 omega
theorem rF{s k:Int×Int}(h0:0≤k.1)(lt:k.1<s.1)(k2:0≤k.2):gin s (ae k)=gin s k:=by
 have up:=nI (h:=k.1) (j:=k.2 / 2) h0;have dn:=pC (h:=k.1) (j:=k.2 / 2) h0;have ep:ae k=upK k.1 (k.2 / 2):=rfl;have le:aq (ae k)≤aq k∧am k≤am (ae k):=by
  rw[ep]
  rcases Ri k with e | e
  ·rw[←e]at up dn;exact⟨up.1,dn.1⟩
  ·rw[←e]at up dn;exact⟨up.2,dn.2⟩
 by_cases w:wit s k
 ·have f:=uH (k:=k);have m:wit s (ae k):=gU (n:=aq k) (by show 0≤k.1+1;omega) (by show k.1+1≤s.1;omega) le.1 (Aa f le.2) w.1 (Aa f w.2);exact(W1 m).trans (W1 w).symm
 ·have m:¬wit s (ae k):=fun z=>w ⟨Aa z.1 le.1,Aa le.2 z.2⟩;exact(We m).trans (We w).symm
theorem oW{qs st:Sps}(g:Int×Int→Int)(h:∀p∈st,cnt qs p.1≤p.2):wS g (exc qs st)=wS g st-(st.map fun p=>cnt qs p.1*g p.1).sum:=by
 induction st with
 |nil=>rfl
 |cons p st ih=>
  have q:=ih fun x hx=>h x (.tail _ hx);have l:=h p (.head _);unfold exc at q⊢;rw[yD,zt,Yv,yD,y4];by_cases c:0<p.2-cnt qs p.1
  ·rw[yC (yF c),Yv,q];show(p.2-cnt qs p.1)*g p.1+_=_;rw[Int.sub_mul];omega
  ·rw[if_neg (by simpa using (by omega:p.2≤cnt qs p.1)),q];have e:p.2=cnt qs p.1:=by omega
   rw[e];omega
theorem pS{or i:Int}{qs st:Sps}(i0:0≤i)(i1:i<or)(o:Pok or qs)(S:Stq or i qs st):Stq or (i+1) qs (upS (exc qs st)):=by
 have le:∀p∈st,cnt qs p.1≤p.2:=fun p hp=>by
  have:=N6 i0 o S (S.at_ p hp).1;rw[Yh S.nd hp]at this;exact this
 have key:∀g:Int×Int→Int,(st.map fun p=>cnt qs p.1*g p.1).sum=wS g (atH qs i):=fun g=>by
  have q:=swS (g:=g) (A:=atH qs i) (ks:=st.map (·.1)) (eT o.kok.nd) S.nd fun p hp=>by
   obtain⟨h1,h2⟩:=yZ.mp hp;have hh:=yJ h2;have a:=N6 i0 o S hh;have b:=Yh o.kok.nd h1;have c:=o.pos p h1;exact Sk (by omega)
  rw[←q,yQ];refine zW List.sum (Ae fun p hp=>?_);show cnt qs p.1*g p.1=cnt (atH qs i) p.1*g p.1;unfold atH;rw[eG o.kok.nd fun r _ e=>yF (by rw[e];exact(S.at_ p hp).1)]
 have exP:∀p∈exc qs st,p.1.1=i∧0≤p.1.2∧p.1.2<2^(or-i).toNat:=fun p hp=>by
  obtain⟨_,q,hq,e,_⟩:=Vx hp;rw[←e];exact S.at_ q hq
 have upos:∀p∈upS (exc qs st),0<p.2:=(dL (xs:=[]) ⟨zA,fun _ h=>nomatch h⟩ fun p hp=>by
  obtain⟨q,hq,rfl⟩:=yz.mp hp;exact(Vx hq).1).pos
 refine⟨Ti (xs:=[]) zA,upos,fun p hp=>?_,⟨fun s s0=>?_,?_⟩⟩
 ·have h:=Uu (xs:=[]) (yz.mpr ⟨p,hp,rfl⟩)
  rcases h with h | h
  ·exact absurd h zw
  ·rw[yQ]at h;obtain⟨q,hq,e⟩:=yz.mp h;obtain⟨a,b,c⟩:=exP q hq;have e1:p.1=(q.1.1+1,q.1.2 / 2):=e.symm;rw[e1];refine⟨by show q.1.1+1=i+1;omega,by show 0≤q.1.2 / 2;omega,?_⟩;show q.1.2 / 2<2^(or-(i+1)).toNat;have pw:(2:Int)^(or-i).toNat=2^(or-(i+1)).toNat*2:=by
    rw[←BB]
    congr 1
    omega
   omega
 ·rcases Bz i s.1 with c | c
  ·rw[nM];have e:wS (fun k=>gin s (ae k)) (exc qs st)=wS (gin s) (exc qs st):=by
    unfold wS;refine zW List.sum (Ae fun p hp=>?_);obtain⟨a,b,_⟩:=exP p hp;show p.2*gin s (ae p.1)=_;rw[rF (by omega) (by omega) b]
   rw[e,oW _ le,key];have:=S.can.each s s0;rw[Qx]at this;omega
  ·have z:wS (gin s) (bQ qs (i+1))=0:=Tj fun p hp=>.inr (We fun w=>by
    obtain⟨h1,h2⟩:=yZ.mp hp;have:=yJ h2;have:=ut s0 (by omega) w;omega)
   rw[z];exact kR (fun _=>Si) fun p hp=>AG (upos p hp)
 ·have a:=S.can.all;have b:=oW (fun _=>1) le;have c:=nM (fun _=>1) (exc qs st);have d:=Qx (fun _=>1) qs i;have kk:(st.map fun p=>cnt qs p.1*1).sum=wS (fun _=>1) (atH qs i):=key fun _=>1;rw[kk]at b;rw[←Wd,←Wd]at a⊢;rw[c];show wS (fun _=>1) (bQ qs (i+1))=wS (fun _=>1) (exc qs st);omega
theorem tN{or:Int}{qs st:Sps}(o:Pok or qs)(S:Stq or 0 qs st):∀n:Nat,(n:Int)≤or→Stq or n qs (stn qs st n)∧Run or (cnt st) (cB qs st n) fun k=>if k.1<n then cnt qs k else cnt (stn qs st n) k:=by
 intro n
 induction n with
 |zero=>
  intro _;refine⟨S,?_⟩;have e:(fun k:Int×Int=>if k.1<((0:Nat):Int)then cnt qs k else cnt (stn qs st 0) k)=cnt st:=funext fun k=>by
   split
   ·rename_i h;have h:k.1<0:=h;rw[Y2 fun z=>?_,Y2 fun z=>?_]
    ·obtain⟨p,hp,e⟩:=yz.mp z;have:=(S.at_ p hp).1;rw[e]at this;omega
    ·have:=(o.kok.st k z).1;omega
   ·rfl
  rw[e];exact .nil _
 |succ n ih=>
  intro h;obtain⟨S',R⟩:=ih (by omega);have i0:(0:Int)≤n:=by omega
  have i1:(n:Int)<or:=by omega
  refine⟨pS i0 i1 o S',?_⟩;have le:∀p∈stn qs st n,cnt qs p.1≤p.2:=fun p hp=>by
   have:=N6 i0 o S' (S'.at_ p hp).1;rw[Yh S'.nd hp]at this;exact this
  show Run or (cnt st) (cB qs st n++exc qs (stn qs st n)) _;refine R.app ?_;have q:=rj i0 i1 (exc qs (stn qs st n)) (fun k=>if k.1<(n:Int)then cnt qs k else cnt (stn qs st n) k) (oT S'.nd) fun p hp=>by
   obtain⟨a,r,hr,e1,e2⟩:=Vx hp;have ra:=(S'.at_ r hr).1;rw[e1]at ra;refine⟨ra,by omega,?_⟩;rw[yA (by omega)];have c1:=Yh S'.nd hr;rw[e1]at c1 e2;have:=le r hr;rw[e1]at this;have c0:0≤cnt qs p.1:=Ut o p.1;omega
  have e:(fun k:Int×Int=>if k.1<((n+1:Nat):Int)then cnt qs k else cnt (stn qs st (n+1)) k)=fun x=>(if x.1<(n:Int)then cnt qs x else cnt (stn qs st n) x)-cnt (exc qs (stn qs st n)) x+pin (exc qs (stn qs st n)) x:=funext fun x=>by
   have ex0:x.1≠n→cnt (exc qs (stn qs st n)) x=0:=fun z=>Y2 fun y=>by
    obtain⟨p,hp,e⟩:=yz.mp y;obtain⟨_,r,hr,e1,_⟩:=Vx hp;have:=(S'.at_ r hr).1;rw[e1,e]at this;exact z this
   have pn0:x.1≠n+1→pin (exc qs (stn qs st n)) x=0:=fun z=>Tj fun p hp=>.inr (yA fun y=>by
    obtain⟨_,r,hr,e1,_⟩:=Vx hp;have a:=(S'.at_ r hr).1;rw[e1]at a;have b:p.1.1+1=x.1:=zW (·.1) y;omega)
   rcases Int.lt_trichotomy x.1 n with c | c | c
   ·rw[yC (by omega),yC c,ex0 (by omega),pn0 (by omega)];omega
   ·rw[yC (by omega),yA (by omega),pn0 (by omega)];by_cases m:x∈(stn qs st n).map (·.1)
    ·obtain⟨p,hp,e⟩:=yz.mp m;rw[←e,sA S'.nd hp (le p hp),Yh S'.nd hp];omega
    ·have a:=N6 i0 o S' c;have b:=Ut o x;rw[Y2 m]at a⊢;rw[Y2 (ps:=exc qs (stn qs st n)) fun y=>m ?_]
     ·omega
     ·obtain⟨p,hp,e⟩:=yz.mp y;obtain⟨_,r,hr,e1,_⟩:=Vx hp;rw[←e,←e1];exact yz.mpr ⟨r,hr,rfl⟩
   ·have s0:cnt (stn qs st n) x=0:=Y2 fun y=>by
     obtain⟨p,hp,e⟩:=yz.mp y;have:=(S'.at_ p hp).1;rw[e]at this;omega
    rw[yA (by omega),yA (by omega),s0,ex0 (by omega)];show cnt (upS (exc qs (stn qs st n))) x=_;rw[tW];omega
  rw[e];exact q
theorem rW{or:Int}{qs st:Sps}(d0:0≤or)(o:Pok or qs)(S:Stq or 0 qs st):Run or (cnt st) (cB qs st or.toNat) (cnt qs):=by
 obtain⟨S',R⟩:=tN o S or.toNat (by omega);have en:((or.toNat:Nat):Int)=or:=by omega
 rw[en]at S' R;have e:(fun k:Int×Int=>if k.1<or then cnt qs k else cnt (stn qs st or.toNat) k)=cnt qs:=funext fun k=>by
  split
  ·rfl
  ·rename_i c;have e2:(2:Int)^(or-or).toNat=1:=by rw[Int.sub_self];rfl
   have k1:∀p∈stn qs st or.toNat,p.1=(or,0):=fun p hp=>by
    obtain⟨a,b,d⟩:=S'.at_ p hp;exact zN a (by rw[e2]at d;show p.1.2=0;omega)
   have k2:∀p∈bQ qs or,p.1=(or,0):=fun p hp=>by
    obtain⟨h1,h2⟩:=yZ.mp hp;have h2:=yJ h2;obtain⟨a,b,x,y⟩:=o.kok.st p.1 (yz.mpr ⟨p,h1,rfl⟩);have e3:p.1.1=or:=by omega
    rw[e3,e2]at y;exact zN e3 (by show p.1.2=0;omega)
   by_cases z:k=(or,0)
   ·have a:=swS (g:=fun _=>1) (ks:=[(or,0)]) S'.nd (y7.mpr ⟨zw,zA⟩) fun p hp=>by rw[k1 p hp];exact .head _
    have b:=swS (g:=fun _=>1) (ks:=[(or,0)]) (A:=bQ qs or) (eT o.kok.nd) (y7.mpr ⟨zw,zA⟩) fun p hp=>by rw[k2 p hp];exact .head _
    have t:=S'.can.all;rw[Wd]at a b;rw[yD,Bv,y4,List.sum_nil,AI]at a b;have f:=eG (P:=fun p=>decide (or≤p.1.1)) o.kok.nd (k:=(or,0)) fun p _ e=>yF (by rw[e];exact y9 _);rw[z];unfold bQ at b t;omega
   ·rw[Y2 fun y=>?_,Y2 fun y=>?_]
    ·obtain⟨p,hp,e⟩:=yz.mp y;have h1:or≤k.1:=by omega
     exact z (by rw[←e];exact k2 p (yZ.mpr ⟨hp,yF (by rw[e];exact h1)⟩))
    ·obtain⟨p,hp,e⟩:=yz.mp y;exact z (by rw[←e];exact k1 p hp)
 rw[e]at R;exact R
theorem p_{g:Int×Int→Int}{ps:Sps}{k:Int×Int}{m:Int}(nd:(ps.map (·.1)).Nodup):wS g (a9 ps k m)=wS g ps+m*(g (ae k)-g k):=by
 have n1:=Yo (k:=ae k) (n:=cnt ps (ae k)+m) nd;have n2:=Yo (k:=k) (n:=cnt ps k-m) n1;have a:=Oy (g:=g) (k:=ae k) (n:=cnt ps (ae k)+m) nd;have b:=Oy (g:=g) (k:=k) (n:=cnt ps k-m) n1;have c:cnt (ao ps (ae k) (cnt ps (ae k)+m)) k=cnt ps k:=by rw[X4,yA (U8 k)]
 rw[c,a]at b;have w:wS g (ao (ao ps (ae k) (cnt ps (ae k)+m)) k (cnt ps k-m))=wS g ps+m*(g (ae k)-g k):=by
  rw[b,AX,Int.sub_mul,Int.mul_sub];omega
 unfold a9
 split
 ·rename_i z;rw[Oz n2,X4,yC rfl,w,z,Int.zero_mul,Int.sub_zero]
 ·exact w
theorem sZ{or:Int}{qs:Sps}(nq:(qs.map (·.1)).Nodup):∀(r:Sps){ps:Sps},Pos ps→(∀p∈ps,0≤p.1.1∧0≤p.1.2)→cU or qs ps r=true→∀g,nG g→wS g qs≤wS g ps:=by
 intro r
 induction r with
 |nil=>
  intro ps t _ h g G;have p:=(Vg (Ve t.nd) (Ve nq)).mp h;rw[R7 p];exact y9 _
 |cons p r ih=>
  intro ps t hn h g G;obtain⟨k,m⟩:=p;have h:(if m<1∨or≤k.1∨cnt ps k<m then false else cU or qs (a9 ps k m) r)=true:=h;by_cases c:m<1∨or≤k.1∨cnt ps k<m
  ·rw[yC c]at h;cases h
  ·rw[yA c]at h;have m1:1≤m:=by omega
   have mc:m≤cnt ps k:=by omega
   have hk:k∈ps.map (·.1):=Sk (by omega);obtain⟨q,hq,e⟩:=yz.mp hk;obtain⟨a,b⟩:=hn q hq;rw[e]at a b;have st:=ih (gI t m1 mc) (fun p hp=>by
    have kk:∀x∈(a9 ps k m).map (·.1),x∈ps.map (·.1)∨x=ae k:=fun x hx=>by
     have hx:x∈(ao (ao ps (ae k) (cnt ps (ae k)+m)) k (cnt ps k-m)).map (·.1):=by
      unfold a9 at hx
      split at hx
      ·obtain⟨y,hy,e⟩:=yz.mp hx;exact yz.mpr ⟨y,(yZ.mp hy).1,e⟩
      ·exact hx
     obtain⟨y,hy,e⟩:=yz.mp hx
     rcases W0 hy with z | ⟨z,_⟩
     ·rw[←e,z];exact .inl hk
     ·rcases W0 z with y2 | ⟨y2,_⟩
      ·rw[←e,y2];exact .inr rfl
      ·rw[←e];exact .inl (yz.mpr ⟨y,y2,rfl⟩)
    rcases kk p.1 (yz.mpr ⟨p,hp,rfl⟩)with z | z
    ·obtain⟨y,hy,e⟩:=yz.mp z;rw[←e];exact hn y hy
    ·rw[z];exact⟨by show 0≤k.1+1;omega,by show 0≤k.2 / 2;omega⟩) h g G
   rw[p_ t.nd]at st;have fl:g (ae k)≤g k:=by
    have z:=G k.1 (k.2 / 2) a (by omega)
    rcases Ri k with e | e
    ·rw[←e]at z;exact z.1
    ·rw[←e]at z;exact z.2
   have:m*(g (ae k)-g k)≤0:=by
    have:=Bj (show 0≤m by omega) (show 0≤g k-g (ae k) by omega);rw[Int.mul_sub]at this⊢;omega
   omega
theorem rG{or total:Int}{ts:List Th}{qs BI:Sps}(nq:(qs.map (·.1)).Nodup)(h:∀t∈ts,0≤t.num∧1≤t.many)(e:dB or total ts qs BI=true):Dom qs ts∧aT ts=total∧∀t∈ts,t.num<2^or.toNat:=by
 have hm:=fun t ht=>(h t ht).2;rw[kH h nq]at e;unfold rk at e;rw[zz,zz]at e;obtain⟨e1,e2,e3⟩:=e;rw[←jc nq BI (Tl hm) (N8 hm) fun _=>rfl]at e3;refine⟨fun g G=>?_,by rw[←jM];exact yJ e2,fun t ht=>yJ (zL.mp e1 t ht)⟩;have q:=sZ nq BI (Tl hm) (fun p hp=>?_) e3 g G
 ·rw[←pO];exact q
 ·rcases Uu (xs:=[]) (yz.mpr ⟨p,hp,rfl⟩)with z | z
  ·exact absurd z zw
  ·unfold cH at z;rw[yQ]at z;obtain⟨t,ht,e⟩:=yz.mp z;rw[←e];exact⟨y9 _,(h t ht).1⟩
theorem uI{or:Int}{ts:List Th}{qs:Sps}(d0:0≤or)(o:Pok or qs)(h:∀t∈ts,0≤t.num∧1≤t.many):dB or (ah qs) ts qs (cB qs (aI ts) or.toNat)=true↔(∀t∈ts,t.num<2^or.toNat)∧Can qs (bj ts):=by
 have hm:=fun t ht=>(h t ht).2;refine⟨fun e=>?_,fun⟨e1,C⟩=>?_⟩
 ·obtain⟨a,b,c⟩:=rG o.kok.nd h e;exact⟨c,jW a⟩
 ·have pq:Pos qs:=⟨o.kok.nd,fun p hp=>by have:=o.pos p hp;omega⟩;have sp:=Tl hm;have S:Stq or 0 qs (aI ts):=by
   refine⟨sp.nd,sp.pos,fun p hp=>?_,?_⟩
   ·rcases Uu (xs:=[]) (yz.mpr ⟨p,hp,rfl⟩)with z | z
    ·exact absurd z zw
    ·unfold cH at z;rw[yQ]at z;obtain⟨t,ht,e⟩:=yz.mp z;rw[←e];exact⟨rfl,(h t ht).1,by rw[Int.sub_zero];exact e1 t ht⟩
   ·have ef:bQ qs 0=qs:=Ap.mpr fun p hp=>yF (o.kok.st p.1 (yz.mpr ⟨p,hp,rfl⟩)).1;rw[ef];exact C
  have R:=rW d0 o S;rw[kH h o.kok.nd];unfold rk;rw[R.chk pq (fun _=>rfl) (N8 hm) fun _=>rfl,zz,zz];exact⟨zL.mpr fun t ht=>yF (e1 t ht),yF C.all.symm,rfl⟩
end K30
namespace L2
open PySem PySem.Spec PyProof.Rows
section
variable{prog:Program}{w:World}{A:Around}{E:Value→Shared→Prop}{s:Shared}{it d:Addr}{i ep:Nat}{es:Array DictEntry}{f0 f1 ok ov:Value}
theorem mS{n:Nat}{Q:Value→Shared→Prop}(hit:ItI s.heap it d i n ep f0 f1 ok ov)(h:Q (.ref it) s):wpAny (model prog w) A (pyIter (.ref it)) Q E s:=by
 have hT:s.TypeIs (.ref it) "dict_itemiterator":=⟨_,hit,rfl⟩;refine AV hT PySem.F.slot_dict_itemiterator_iter (zJ PySem.F.slot_dict_itemiterator_iter hT W.kcp_entry ?_ (PySem.F.args_dict_itemiterator_iter_1 _));show wpAny _ _ (ret (.ref it)) _ _ s;exact yx ⟨_,rfl,"dict_itemiterator",_,hT,PySem.F.slot_dict_itemiterator_next.lookup,h⟩
end
def yr(it d:Addr)(n ep:Nat)(i:Nat)(h:Heap):Prop:=∃f0 f1 ok ov,ItI h it d i n ep f0 f1 ok ov∧(f0=.none∨∃(a:Addr)(b:Bool),f0=rawInt a∧f1=.bool b)
section
variable{X:Cx}{BF:List (Addr×Obj)}{σ:St}{H:Hp}{s:Shared}
def uR(d:Addr)(kvs:List (List Key×V))(o:Obj):It:=⟨fun i H=>i<kvs.length∧H d=some (.frz o (.dT kvs)),fun i H x H'=>∃T p b,kvs[i]?=some p∧x=.ref T∧H b=some (.tup (p.1.map kV))∧H T=none∧H'=upd H T (.tup [.ref b,p.2]),fun i H=>kvs.length≤i∧H d=some (.frz o (.dT kvs))⟩
def sB(tl:TE):TI:=fun σ H R=>tl σ H fun x H1=>∃(v d:Addr)(kvs:List (List Key×V)),x=.ref v∧H1 v=some (b6 v d)∧H1 d=some (.dT kvs)∧∀o,R (uR d kvs o) (upd H1 d (.frz o (.dT kvs)))
theorem fg{d:Addr}{o:Obj}{kvs:List (List Key×V)}{k:Nat}{g:TG}{tt:TT}{te:TE}{σ:St}{H:Hp}{Q:VK}(Pv:Nat→List V→Hp→Prop)(h0:Pv 0 [] H)(hl:∀i ys H,Pv i ys H→H d=some (.frz o (.dT kvs))∧ys.length<sizeLine)(hs:∀i p b T ys H (C:List V→Hp→Prop),kvs[i]?=some p→H b=some (.tup (p.1.map kV))→H T=none→Pv i ys H→(∀ys' H',Pv (i+1) ys' H'→C ys' H')→g (.ref T) (List.replicate k none++σ) (upd H T (.tup [.ref b,p.2])) fun σ2 H2=>Wk σ2 (List.replicate k none++σ)∧tt σ2 H2 fun ok H3=>
   if ok=true then te σ2 H3 fun y H4=>C (ys++[y]) H4 else C ys H3)(hd:∀ys H,Pv kvs.length ys H→ys.length≤sizeLine∧∀p,H p=none→Q (.ref p) (upd H p (.lst ys))):CompR (uR d kvs o) H k g tt te σ Q:=by
 refine⟨fun i m ys H=>m=kvs.length-i∧i≤kvs.length∧Pv i ys H,⟨kvs.length,by simp,Nat.zero_le _,h0⟩,?_⟩;rintro i m ys H ⟨rfl,hi,p⟩;have q:=hl i ys H p;by_cases BL:i<kvs.length
 ·refine .inr ⟨⟨BL,q.1⟩,q.2,fun v H' y=>?_⟩;obtain⟨T,p',b,hp',rfl,hb,nT,rfl⟩:=y;exact hs i p' b T ys H (fun ys' H'=>∃m',m'<kvs.length-i∧m'=kvs.length-(i+1)∧i+1≤kvs.length∧Pv (i+1) ys' H') hp' hb nT p fun ys' H' p'=>⟨_,by omega,rfl,BL,p'⟩
 ·have e:i=kvs.length:=by omega
  subst e;exact .inl ⟨⟨yB _,q.1⟩,hd ys H p⟩
end
section
variable{X:Cx}{BF:List (Addr×Obj)}{σ:St}{H:Hp}{s:Shared}
theorem wq{prog:Program}{w:World}{A:Around}{E:Value→Shared→Prop}{elts:List Expr}{k:Nat}{pos:Pos}{it d T:Addr}{i n ep:Nat}{f0 f1 ok ov:Value}{Q:Unit→Shared→Prop}(he:ItI s.heap it d i n ep f0 f1 ok ov)(alt:∃(a:Addr) (b:Bool),f0=rawInt a∧f1=.bool b)(hQ:∀h',yr it d n ep i h'→(∀b o,b≠it→s.heap.get? b=some o→h'.get? b=some o)→Q () {s with heap:=h'}):wpAny (model prog w) A (letOwnedTupleGo (.Tuple elts k pos) (.ref it) (.ref T)) Q E s:=by
 unfold letOwnedTupleGo;refine io (Bf he ?_);show wpAny _ _ (if (["enumerate","zip","dict_itemiterator","dict_reverseitemiterator","odict_iterator","itertools.zip_longest","itertools.pairwise"].contains "dict_itemiterator" && (#[f0,f1,.ref d,.int i 0,.int n 0,.int ep 0,ok,ov]:Array Value)[0]? == some (rawInt T))=true then _ else _) Q E s;by_cases c:(["enumerate","zip","dict_itemiterator","dict_reverseitemiterator","odict_iterator","itertools.zip_longest","itertools.pairwise"].contains "dict_itemiterator" && (#[f0,f1,.ref d,.int i 0,.int n 0,.int ep 0,ok,ov]:Array Value)[0]? == some (rawInt T))=true
 ·rw[yC c];refine io (AL ?_);show wpAny _ _ (setField (.ref it) 0 .none) Q E s;exact wpAny_setField_rec he (by simp) fun h' he' hs'=>hQ h' ⟨.none,f1,ok,ov,he',.inl rfl⟩ hs'.extBut
 ·rw[yA c];exact yx (hQ s.heap ⟨f0,f1,ok,ov,he,.inr alt⟩ fun _ _ _ e=>e)
theorem oQ{P:Program}{w:World}{K:W.Frag}{elts:List Expr}{k:Nat}{np:Pos}{d it:Addr}{kvs:List (List Key×V)}{o:Obj}{es:Array DictEntry}{ep:Nat}(ex:o.ExactDict)(od:o.data=.dict es ep)(sz:es.size=kvs.length):
  Turn P w K (.Tuple elts k np) (uR d kvs o) [it] it (yr it d es.size ep) where
 mem:=by simp
 obj:=fun i h st b hb=>by
  obtain⟨f0,f1,ok,ov,q,_⟩:=st;rw[yG.mp hb];exact⟨_,q,fun v z=>(nomatch z)⟩
 keep:=fun i h h' st k=>by
  obtain⟨f0,f1,ok,ov,q,r⟩:=st;exact⟨f0,f1,ok,ov,k it (.head _) _ q,r⟩
 item:=by
  intro X hP hw hK hc i BF s σ H E I hf st hg;subst hP hw hK;obtain⟨hi,hd⟩:=hg;obtain⟨ho,z,lo,xs,kt,o',es',ep',h1,_,h3,h4,_⟩:=(show ObjOk X.prog X.w H s.heap d (.frz o (.dT kvs))from I.hok d _ hd);rw[ho]at h1;cases h1;rw[od]at h3;cases h3;have e1:kvs[i]?=some kvs[i]:=by simp[hi]
  obtain⟨x,ex1,hx,rx⟩:=e7 kt e1;have eq:es[i]=⟨es[i].hash,.ref x.2.1,x.2.2⟩:=by
   have q:es.toList[i]?=some es[i]:=by rw[zo];exact yS (by omega)
   rw[h4,yL,ex1]at q;rw[←zD q];rfl
  have ek:es[i].key=.ref x.2.1:=by rw[eq]
  have ev:es[i].val=x.2.2:=by rw[eq]
  obtain⟨f0,f1,ok,ov,q,alt⟩:=st;refine ju q alt ⟨o,ho,ex,od⟩ (by omega) fun g e0 e1' a b BU al tg zg kp=>⟨_,rfl,?_⟩;refine wq (s:={s with heap:=g}) BU al fun h' st2 kp2=>?_;have itl:it≠s.heap.objs.size:=yN (yE q);have ni:H it=none:=(hf it (.head _)).1;refine⟨.ref s.heap.objs.size,upd H s.heap.objs.size (.tup [.ref x.2.1,kvs[i].2]),?_,rfl,⟨_,_,_,e1,rfl,hx,I.hok.fresh (yB _),rfl⟩,st2,fun c hc=>?_⟩
  ·refine I.zipped (t':=s.toks) (ch:=[it]) (fun c v hc e=>kp2 c v (fun z=>hc (by rw[z];exact .head _)) (kp c v (fun z=>hc (by rw[z];exact .head _)) e)) hf (yB _) ⟨by show(2:Nat)≤sizeLine;decide,[.ref x.2.1,x.2.2],.cons rfl (.cons rx .nil),?_⟩;rw[ek,ev]at tg;exact⟨_,kp2 _ _ (Ne.symm itl) tg,⟨rfl,rfl⟩,_,rfl⟩
  ·rw[yG.mp hc,Zc itl];exact ni
 done:=by
  intro X hP hw hK hc i BF s σ H E I hf st hg;subst hP hw hK;obtain⟨hi,hd⟩:=hg;obtain⟨ho,_⟩:=I.hok d _ hd;obtain⟨f0,f1,f2,f3,f4,f5⟩:=hf it (.head _);obtain⟨_,_,_,_,q,_⟩:=st;exact kj (I.ok.hd hc) q ⟨o,ho,ex,od⟩ (by omega) fun g eb=>⟨rfl,I.turned (t':=s.toks) (fun b ob hb e=>eb b ob hb e) f0 f1 f3 f4 f5⟩
 self:=fun _ _ _ _ _ st h=>by
  obtain⟨_,_,_,_,q,_⟩:=st;exact mS q h
theorem iu{elts:List Expr}{k:Nat}{np:Pos}{l:Expr}{tl:TE}(hl:PE X l tl):PI X (.Tuple elts k np) l (sB tl):=by
 intro BF s σ H R I h;refine thn (hl BF s σ H _ I h) fun v s1 BG=>?_;obtain⟨x,H1,I1,r1,q1⟩:=BG;obtain⟨v,d,kvs,rfl,hv,hd,q⟩:=q1;cases r1;obtain⟨view,_⟩:=(show ObjOk X.prog X.w H1 s1.heap v (b6 v d)from I1.hok v _ hv);obtain⟨o,I2,_⟩:=I1.freezeT hd;obtain⟨ho,z,lo,xs,kt,o',es,ep,h1,h2,h3,h4,_⟩:=(show ObjOk X.prog X.w _ s1.heap d (.frz o (.dT kvs))from I2.hok d _ Z3);rw[ho]at h1;cases h1;have sz:es.size=kvs.length:=by rw[←yU,h4,pi,←yK kt]
 refine ky view ⟨o,ho,h2,h3⟩ fun g st zg kp=>⟨s1.heap.objs.size,[s1.heap.objs.size],_,_,_,rfl,I2.kept (t':=s1.toks) kp,oQ h2 h3 sz,⟨_,_,_,_,st,.inl rfl⟩,fun b hb=>?_,q o⟩;rw[yG.mp hb];exact I2.fpOk (yB _) (I2.hok.fresh (yB _))
def thwE(D:Ends)(d:Addr)(kvs:List (List Key×V)):Ends where
 nx:=fun σ H2=>∃o,H2 d=some (.frz o (.dT kvs))∧D.nx σ (upd H2 d (.dT kvs))
 rt:=fun v H2=>∃o,H2 d=some (.frz o (.dT kvs))∧D.rt v (upd H2 d (.dT kvs))
 bk:=fun σ H2=>∃o,H2 d=some (.frz o (.dT kvs))∧D.bk σ (upd H2 d (.dT kvs))
 ct:=fun σ H2=>∃o,H2 d=some (.frz o (.dT kvs))∧D.ct σ (upd H2 d (.dT kvs))
def wC(t:TS):TS:=fun D σ H=>∃(d:Addr)(kvs:List (List Key×V)),H d=some (.dT kvs)∧t (thwE D d kvs) σ H
theorem qS{st:Stmt}{t:TS}(h:PS X st t):PS X st (wC t):=by
 intro BF s σ H D I hw;obtain⟨d,kvs,hd,q⟩:=hw;obtain⟨_,_,nf⟩:=I.freezeT hd;refine thn (h BF s σ H _ I q) fun f s1 hf=>?_;cases f with
 |next=>
  obtain⟨σ2,H2,I2,o,hd2,q2⟩:=hf;exact⟨σ2,_,I2.thawT nf hd2,q2⟩
 |brk=>
  obtain⟨σ2,H2,I2,o,hd2,q2⟩:=hf;exact⟨σ2,_,I2.thawT nf hd2,q2⟩
 |cont=>
  obtain⟨σ2,H2,I2,o,hd2,q2⟩:=hf;exact⟨σ2,_,I2.thawT nf hd2,q2⟩
 |ret u=>
  obtain⟨v,σ2,H2,I2,r,o,hd2,q2⟩:=hf;exact⟨v,σ2,_,I2.thawT nf hd2,r,q2⟩
end
end L2
namespace K30
open PySem L2 Ld
theorem u_{ps:Sps}{i:Nat}{p0:List Key×V}(h:(ad ps)[i]?=some p0):∃p,ps[i]?=some p∧(kk p.1,V.int p.2)=p0:=by
 unfold ad at h;rw[yL]at h;obtain⟨p,hp,e⟩:=y8.mp h;exact⟨p,hp,e⟩
structure Tw(H:Hp)(d L:Addr)(qs fs:Sps)(as:List Addr)(H':Hp):Prop where
 gS:Same H H'
 e_d:H' d=some (.dT (ad qs))
 e_L:H' L=some (.lst (as.map V.ref))
 pL:Paired (FT (aw L H')) as fs
theorem Tw.same{H H1 H2:Hp}{d L:Addr}{qs fs:Sps}{as:List Addr}(h:Tw H d L qs fs as H1)(g:Same H1 H2):Tw H d L qs fs as H2:=
 ⟨h.gS.trans g,g _ _ h.e_d,g _ _ h.e_L,Paired.mapP h.pL fun _ _ f=>Zz (Ud h.e_L g) f⟩
def uB:Sp:=fun vs H Q _=>∃(r q:Addr)(ts:List Th)(BE or total:Int)(qs:Sps),vs=[.ref r,.ref q]∧DV H (.ref r) (aX ts)∧ts.length≤500∧LadAt H q BE or total qs∧(qs.map (·.1)).Nodup∧qs.length≤400∧0≤or∧or≤20∧∀(p:Addr)(H':Hp),H p=none→Same H H'→PprAt H' p (cB qs (aI ts) or.toNat)→Q (.ref p) H'
variable{P:Program}{w:World}{K:W.Frag}{mg:Str→Option Value}{base:Heap}{f:Addr}{fd:FuncData}
theorem vD(aZ:mg "dict"=none)(av:mg "range"=none)(bu:Has P w K mg base "standing_of" 2 ["stream"] o0)(bH:Has P w K mg base "parent_of" 1 ["stretch"] di)(bi:Has P w K mg base "added_counts" 1 ["one","other"] i5)(F:Fun K "folds_towards" "folds_towards" a7 f fd):FnOk P w K mg base CX0 3 f fd ["stream","ladder"] uB:=by
 refine F.ok Zl (fun vs H Q E h=>?_) (fun cdv A outer s H vs Q E hr h=>?_)
 ·obtain⟨r,q,ts,BE,or,total,qs,rfl,_⟩:=h;rfl
 obtain⟨r,q,ts,BE,or,total,qs,rfl,dv,tl,lad,nq,ql,d0,d1,hq⟩:=h;obtain⟨cc,cs,BQ,BM,pr⟩:=lad.at_;have cl:=yK pr;have nd:((ad qs).map (·.1)).Nodup:=by
  rw[S5];exact z9.mpr (nq.imp fun h e=>h (Vu e))
 refine⟨_,(Z2 (V2 (pv 1) (W8 rfl (Z9 (Z8 (i:=2) Zl.nd rfl (Or.inl rfl)) (Z9 (Z8 (i:=3) Zl.nd rfl (Or.inl rfl)) (Z9 (Z8 (i:=4) Zl.nd rfl (Or.inl rfl)) (Z9 (Z8 (i:=5) Zl.nd rfl (Or.inl rfl)) Y1)))))) Ze),?_⟩;refine⟨_,rfl,q,_,rfl,SqT.of BQ,rfl,_,_,rfl,_,_,rfl,_,_,rfl,_,_,rfl,rfl,?_⟩;refine⟨_,(Z2 (@Sc _ _ 6 _ _ _ _ Zl.nd rfl (Or.inr rfl) (X1 (Ug rfl hr.units) rfl aZ A7 (Z0 (pv 4) Z1)) (by rfl) (by first | exact .inl rfl | exact .inr rfl)) Ze),?_⟩;refine⟨_,rfl,cc,_,_,rfl,BM,iW pr,by rw[Zx];omega,fun d n_d=>?_⟩;rw[Qh nd];have gg:=Z5 n_d (.dT (ad qs));have e_d:(upd H d (.dT (ad qs))) d=some (.dT (ad qs)):=Z3;generalize upd H d (.dT (ad qs))=H1 at gg e_d⊢;refine⟨_,(Z2 (Y0 7 Zl.nd rfl (Or.inl rfl) (X2 Z1)) Ze),?_⟩;refine⟨leN rfl,fun L n_L=>?_⟩;have yu:H L=none:=gg.free n_L;have gz:=Z5 n_L (.lst []);have e_L:(upd H1 L (.lst [])) L=some (.lst (([]:List Addr).map V.ref)):=Z3;have gg:=gg.trans gz;have e_d:=gz _ _ e_d;generalize upd H1 L (.lst [])=H2 at gg e_d e_L⊢;have tw:Tw H d L qs [] [] H2:=⟨gg,e_d,e_L,.nil⟩;clear e_d e_L gz gg n_d n_L;refine⟨_,(Z2 (Y0 8 Zl.nd rfl (Or.inl rfl) (Z6 bu hr (Z0 (pv 0) Z1))) Ze),?_⟩;refine⟨_,rfl,r,ts,rfl,dv.mono tw.gS,by omega,fun sd H3 _ g3 e_s=>?_⟩;have tw:=tw.same g3;have sl:=N9 ts;refine⟨_,(Z2 (Yr zl rfl (Xh rfl av (Z0 (pv 3) Z1)) (Z8 (i:=9) Zl.nd rfl (Or.inl rfl))
 (Z2 (qS (Vo (i:=10) Zl.nd rfl rfl (own:=["stretch","many"]) (Wf rfl rfl) (iu (Qb zX PySem.F.slot_dict_items PySem.F.type_dict_items O6 (pv 8)))
  (fun _ _ _ _ _=>(Xd K 2 rfl rfl (Z9 (Z8 (i:=0) Xo rfl (Or.inl rfl) (Or.inr rfl)) (Z9 (Z8 (i:=1) Xo rfl (Or.inl rfl) (Or.inr rfl)) Y1)))) (fun _ _ _ _ _=>Yp)
  (fun _ _ _ _ _=>(Zu (Z0 (pv 0) (Z0 (Zb Xx (pv 1) (Wi (X3 hr) (pv 8) (pv 0) Z4 ⟨rfl,rfl,rfl,rfl⟩)) Z1))))))
 (Z2 (Vo (i:=11) Zl.nd rfl rfl (own:=["stretch","many"]) (Wf rfl rfl) (Zq (pv 10))
  (fun _ _ _ _ _=>(Xd K 2 rfl rfl (Z9 (Z8 (i:=0) Xn rfl (Or.inl rfl) (Or.inr rfl)) (Z9 (Z8 (i:=1) Xn rfl (Or.inl rfl) (Or.inr rfl)) Y1)))) (fun _ _ _ _ _=>(Wq (Zn Tu (pv 1) Z4 (Zm _))))
  (fun _ _ _ _ _=>(Zu (Z0 (pv 0) (Z0 (pv 1) Z1)))))
 (Z2 (Xz (O4 A4 PySem.F.slot_list_extend PySem.F.type_list_extend lP (pv 7) (Z0 (pv 11) Z1)))
 (Z7 (Y0 8 Zl.nd rfl (Or.inl rfl) (Z6 bi hr (Z0 (Zu Z1) (Z0 (Ym (own:=["stretch","many"]) (Wf rfl rfl) (Zq (pv 11))
  (fun _ _ _ _ _=>(Xd K 2 rfl rfl (Z9 (Z8 (i:=0) Xm rfl (Or.inl rfl) (Or.inr rfl)) (Z9 (Z8 (i:=1) Xm rfl (Or.inl rfl) (Or.inr rfl)) Y1)))) (fun _ _ _ _ _=>Yp)
  (fun _ _ _ _ _=>(Zu (Z0 (Z6 bH hr (Z0 (pv 0) Z1)) (Z0 (pv 1) Z1))))) Z1))))))))) Ze),?_⟩
 refine⟨_,rfl,or,rfl,by omega,by omega,?_⟩;refine Xe (lo:=0) (n:=or.toNat) (fun i σ H'=>∃(o9 o10 o11:Option V)(sd:Addr)(as:List Addr),σ=[some (.ref r),some (.ref q),some (.int BE),some (.int or),some (.ref cc),some (.int total),some (.ref d),some (.ref L),some (.ref sd),o9,o10,o11]∧Tw H d L qs (cB qs (aI ts) i) as H'∧H' sd=some (.dT (ad (stn qs (aI ts) i)))) ⟨_,_,_,sd,[],rfl,tw,e_s⟩ ?_ ?_
 ·clear tw e_s g3;rintro i σ H4 N B1 R hN hR hi ⟨o9,o10,o11,sd,as,rfl,tw,e_s⟩;have fl:=gn qs (aI ts) i;have stl:=kA qs (aI ts) i;have asl:=yK tw.pL;have fb:i*(aI ts).length≤20*500:=Nat.mul_le_mul (by omega) (by omega);have hF:cB qs (aI ts) (i+1)=cB qs (aI ts) i++exc qs (stn qs (aI ts) i):=rfl;have hS:stn qs (aI ts) (i+1)=upS (exc qs (stn qs (aI ts) i)):=rfl;rw[hF,hS]at hN;generalize stn qs (aI ts) i=st at e_s stl hN;refine⟨sd,_,e_s,?_⟩;refine⟨_,rfl,S4 e_s,sd,_,rfl,rfl,e_s,fun v n_v=>?_⟩;have gz:=Z5 n_v (b6 v sd);have tw:=tw.same gz;have e_s:=gz _ _ e_s;have e_v:(upd H4 v (b6 v sd)) v=some (b6 v sd):=Z3;generalize upd H4 v (b6 v sd)=H5 at tw e_s e_v⊢;refine⟨v,sd,_,rfl,e_v,e_s,fun o=>?_⟩;have ds:d≠sd→(upd H5 sd (.frz o (.dT (ad st)))) d=some (.dT (ad qs)):=fun z=>by rw[Zc z];exact tw.e_d
  refine fg (fun j ys H'=>Same (upd H5 sd (.frz o (.dT (ad st)))) H'∧∃bs:List Addr,ys=bs.map V.ref∧Paired (FT H') bs ((st.take j).map fun p=>(p.1,p.2-cnt qs p.1))) ⟨Same.refl _,[],rfl,.nil⟩ ?_ ?_ ?_
  ·rintro j ys H' ⟨g,bs,rfl,pb⟩;have bl:=yK pb;rw[pi,yX]at bl;exact⟨g _ _ Z3,Zh (by rw[pi];omega)⟩
  ·rintro j p0 b T ys H' C hp0 BJ n_T ⟨g,bs,rfl,pb⟩ hC;obtain⟨p,hp,rfl⟩:=u_ hp0;have gT:=Z5 n_T (.tup [.ref b,.int p.2]);have e_T:(upd H' T (.tup [.ref b,.int p.2])) T=some (.tup [.ref b,.int p.2]):=Z3;have pb:=Paired.mapP pb fun _ _ f=>Zz gT f;have BJ:KAt (upd H' T (.tup [.ref b,.int p.2])) b p.1:=gT _ _ BJ;have g:=g.trans gT;generalize upd H' T (.tup [.ref b,.int p.2])=H6 at e_T pb BJ g⊢;have dg:∃v0,DGet H6 d (.ref b) v0∧v0.getD (.int 0)=.int (cnt qs p.1):=by
    by_cases z:d=sd
    ·have a:=tw.e_d;rw[z,e_s]at a;injection a with a
     injection a with a
     rw[z];exact⟨_,.inr ⟨_,kk p.1,b,.inr ⟨o,g _ _ Z3⟩,rfl,BJ,rfl⟩,by rw[a];exact W7 _ _⟩
    ·exact⟨_,X9 (g _ _ (ds z)) BJ,W7 _ _⟩
   have isd:IsD H6 d:=by
    by_cases z:d=sd
    ·rw[z];exact .inr ⟨_,.inr ⟨o,g _ _ Z3⟩⟩
    ·exact .inr ⟨_,.inl (g _ _ (ds z))⟩
   obtain⟨v0,dg1,dg2⟩:=dg;refine⟨T,_,rfl,SqT.of e_T,rfl,_,_,rfl,_,_,rfl,rfl,Wk.refl _,_,rfl,_,rfl,_,rfl,d,rfl,isd,_,rfl,v0,dg1,p.2,cnt qs p.1,rfl,dg2,leN rfl,fun u n_u=>hC _ _ ⟨g.trans (Z5 n_u _),bs++[u],by rw[yR];rfl,?_⟩⟩;rw[Zo hp,yR];have gu:=Z5 n_u (.tup [.ref b,.int (p.2-cnt qs p.1)]);exact Paired.snoc (Paired.mapP pb fun _ _ f=>Zz gu f) ⟨b,Z3,gu _ _ BJ⟩
  rintro ys H6 ⟨g6,bs,rfl,pb⟩;rw[Zx,yV]at pb;have bl:=yK pb;rw[pi]at bl;refine⟨Zf (by rw[pi];omega),fun p n_p=>?_⟩;have g7:=g6.trans (Z5 n_p (.lst (bs.map V.ref)));have pd:p≠sd:=fun z=>by rw[z,g6 _ _ Z3]at n_p;cases n_p
  have sz:=S6 e_s g7;have BK:(upd (upd H6 p (.lst (bs.map V.ref))) sd (.dT (ad st))) p=some (.lst (bs.map V.ref)):=by rw[Zc pd];exact Z3
  have tS:∀{x:Addr}{xs:List V},H6 x=some (.tup xs)→(upd (upd H6 p (.lst (bs.map V.ref))) sd (.dT (ad st))) x=some (.tup xs):=fun{x xs} e=>by
   rw[Zc (fun z=>by rw[z,g6 _ _ Z3]at e;cases e),Zc (Zk e n_p)];exact e
  have pb:=Paired.mapP pb fun _ _ ⟨y,f1,f2⟩=>(⟨y,tS f1,tS f2⟩:FT _ _ _);refine⟨o,g7 _ _ Z3,?_⟩;have tw:=tw.same sz;clear tS g6 g7 n_p sz e_v ds n_v;generalize upd (upd H6 p (.lst (bs.map V.ref))) sd (.dT (ad st))=H7 at BK pb tw⊢;refine⟨_,rfl,p,rfl,⟨_,SqL.of BK⟩,?_⟩;refine Y6 (xs:=bs.map V.ref) (fun j ys H'=>Same H7 H'∧∃us:List Addr,ys=us.map V.ref∧us.length≤j∧Paired (FT H') us (((st.map fun p=>(p.1,p.2-cnt qs p.1)).take j).filter fun p=>decide (0<p.2))) ⟨Same.refl _,[],rfl,yB _,.nil⟩ ?_ ?_ ?_
  ·rintro j ys H' _ ⟨g,_⟩;exact SqL.of (g _ _ BK)
  ·rintro j x ys H' C hx ⟨g,us,rfl,ul,pu⟩ hC;obtain⟨a,p1,rfl,hp1,b,e1,e2⟩:=Ue pb hx;have jl:=(yI.mp hp1).1;rw[pi]at jl;refine⟨Zh (by rw[pi];omega),a,_,rfl,SqT.of (g _ _ e1),rfl,_,_,rfl,_,_,rfl,rfl,Wk.refl _,_,rfl,_,_,rfl,rfl,_,rfl,?_⟩;by_cases c:p1.2 > 0
   ·rw[yF c];refine Vv ⟨_,rfl,_,rfl,leN rfl,fun u n_u=>hC _ _ ⟨g.trans (Z5 n_u _),us++[u],by rw[yR];rfl,by rw[yM];show us.length+1≤_;omega,?_⟩⟩;rw[Zo hp1,Ac,zt,yC (yF c)];have gu:=Z5 n_u (.tup [.ref b,.int p1.2]);exact Paired.snoc (Paired.mapP pu fun _ _ f=>Zz gu f) ⟨b,Z3,gu _ _ (g _ _ e2)⟩
   ·rw[yY c];refine Yz (hC _ _ ⟨g,us,rfl,by omega,?_⟩);rw[Zo hp1,List.filter_append,List.filter_cons,if_neg (by simpa using c),List.filter_nil,List.append_nil];exact pu
  rintro ys H8 ⟨g8,us,rfl,ul,pu⟩;rw[show(bs.map V.ref).length=(st.map fun p=>(p.1,p.2-cnt qs p.1)).length by rw[pi,pi,bl],yV]at pu;rw[pi,bl]at ul;have pu:Paired (FT H8) us (exc qs st):=pu;refine⟨Zf (by rw[pi];omega),fun l n_l=>?_⟩;have lL:l≠L:=fun z=>by rw[z,g8 _ _ tw.e_L]at n_l;cases n_l
  have gz:=g8.trans (Z5 n_l (.lst (us.map V.ref)));have tw:=tw.same gz;have pu:=Paired.mapP pu fun _ _ f=>Zz (Z5 n_l (.lst (us.map V.ref))) f;have BN:(upd H8 l (.lst (us.map V.ref))) l=some (.lst (us.map V.ref)):=Z3;clear gz g8 pb BK;generalize upd H8 l (.lst (us.map V.ref))=H9 at tw pu BN⊢;have exl:=eR qs st;have ull:=yK pu;refine⟨_,rfl,.inl ⟨rfl,_,SqL.of tw.e_L⟩,_,rfl,L,l,_,_,rfl,rfl,tw.e_L,BN,Zf (by rw[pi,pi];omega),?_⟩;have tL:∀{x:Addr}{xs:List V}{o:HO},H9 x=some (.tup xs)→(upd H9 L o) x=some (.tup xs):=fun{x xs o} e=>by
   rw[Zc (fun z=>by rw[z,tw.e_L]at e;cases e)];exact e
  have hL:∀{x:Addr}{xs:List V}{o:HO},H9 x=some (.tup xs)→aw L (upd H9 L o) x=some (.tup xs):=fun{x xs o} e=>by
   rw[Zj (fun z=>by rw[z,tw.e_L]at e;cases e)];exact tL e
  rw[←yR];have tw2:Tw H d L qs (cB qs (aI ts) i++exc qs st) (as++us) (upd H9 L (.lst ((as++us).map V.ref))):=by
   refine⟨Vl tw.gS yu,?_,Z3,Tt ?_ ?_⟩
   ·rw[Zc (fun z=>by have:=tw.e_d;rw[z,tw.e_L]at this;cases this)];exact tw.e_d
   ·exact Paired.mapP tw.pL fun _ _ ⟨y,f1,f2⟩=>⟨y,hL (Za f1).2,hL (Za f2).2⟩
   ·exact Paired.mapP pu fun _ _ ⟨y,f1,f2⟩=>⟨y,hL f1,hL f2⟩
  have pu2:Paired (FT (upd H9 L (.lst ((as++us).map V.ref)))) us (exc qs st):=Paired.mapP pu fun _ _ ⟨y,f1,f2⟩=>⟨y,tL f1,tL f2⟩;have cO:(upd H9 L (.lst ((as++us).map V.ref))) l=some (.lst (us.map V.ref)):=by rw[Zc lL];exact BN
  clear tw pu BN tL hL;generalize upd H9 L (.lst ((as++us).map V.ref))=G1 at tw2 pu2 cO⊢;refine⟨leN rfl,fun t n_t=>?_⟩;have gz:=Z5 n_t (.tup []);have tw2:=tw2.same gz;have pu2:=Paired.mapP pu2 fun _ _ f=>Zz gz f;have cO:=gz _ _ cO;have BR:(upd G1 t (.tup [])) t=some (.tup []):=Z3;clear gz n_t;generalize upd G1 t (.tup [])=G2 at tw2 pu2 cO BR⊢;refine⟨_,rfl,l,rfl,⟨_,SqL.of cO⟩,?_⟩;refine Y6 (xs:=us.map V.ref) (fun j ys H'=>Same G2 H'∧∃ws:List Addr,ys=ws.map V.ref∧Paired (FT H') ws (((exc qs st).take j).map fun p=>(ae p.1,p.2))) ⟨Same.refl _,[],rfl,.nil⟩ ?_ ?_ ?_
  ·rintro j ys H' _ ⟨g,_⟩;exact SqL.of (g _ _ cO)
  ·rintro j x ys H' C hx ⟨g,ws,rfl,pw⟩ hC;obtain⟨a,p1,rfl,hp1,b,e1,e2⟩:=Ue pu2 hx;have jl:=(yI.mp hp1).1;have wl:=yK pw;rw[pi,yX]at wl;refine⟨Zh (by rw[pi];omega),a,_,rfl,SqT.of (g _ _ e1),rfl,_,_,rfl,_,_,rfl,rfl,Wk.refl _,_,rfl,b,p1.1,rfl,g _ _ e2,fun y n_y=>?_⟩;have g1:=Z5 n_y (.tup [.int (ae p1.1).1,.int (ae p1.1).2]);have e_y:KAt (upd H' y (.tup [.int (ae p1.1).1,.int (ae p1.1).2])) y (ae p1.1):=Z3;have pw:=Paired.mapP pw fun _ _ f=>Zz g1 f;have g:=g.trans g1;generalize upd H' y (.tup [.int (ae p1.1).1,.int (ae p1.1).2])=G3 at e_y pw g⊢;refine⟨_,rfl,leN rfl,fun u n_u=>hC _ _ ⟨g.trans (Z5 n_u _),ws++[u],by rw[yR];rfl,?_⟩⟩;have gu:=Z5 n_u (.tup [.ref y,.int p1.2]);rw[Zo hp1,yR];exact Paired.snoc (Paired.mapP pw fun _ _ f=>Zz gu f) ⟨y,Z3,gu _ _ e_y⟩
  rintro ys G3 ⟨g3,ws,rfl,pw⟩;rw[pi,ull,yV]at pw;have wl:=yK pw;rw[pi]at wl;refine⟨Zf (by rw[pi];omega),fun m n_m=>?_⟩;have gz:=g3.trans (Z5 n_m (.lst (ws.map V.ref)));have tw2:=tw2.same gz;have BR:=gz _ _ BR;have pw:=Paired.mapP pw fun _ _ f=>Zz (Z5 n_m (.lst (ws.map V.ref))) f;have e_m:(upd G3 m (.lst (ws.map V.ref))) m=some (.lst (ws.map V.ref)):=Z3;clear gz g3 n_m;generalize upd G3 m (.lst (ws.map V.ref))=G4 at tw2 BR pw e_m⊢;refine⟨t,m,ws,_,rfl,BR,e_m,pw,by rw[pi];omega,fun sd2 G5 _ g5 e_s2=>?_⟩;exact hN _ _ ⟨_,_,_,sd2,as++us,rfl,tw2.same g5,e_s2⟩
 ·rintro σ H4 ⟨o9,o10,o11,sd,as,rfl,tw,e_s⟩;refine⟨_,(Z7 (Zd (pv 7))),?_⟩;exact⟨_,rfl,hq L _ yu tw.gS ⟨as,tw.e_L,Paired.mapP tw.pL fun _ _ f=>Zz Zv f⟩⟩
def wI:Sp:=fun vs H Q _=>∃(r q:Addr)(ts:List Th)(BE or:Int)(qs:Sps),vs=[.ref r,.ref q]∧DV H (.ref r) (aX ts)∧ts.length≤500∧LadAt H q BE or (ah qs) qs∧Pok or qs∧qs.length≤400∧0≤or∧or≤20∧(∀t∈ts,0≤t.num∧1≤t.many)∧(¬((∀t∈ts,t.num<2^or.toNat)∧Can qs (bj ts))→∀H',Same H H'→Q .non H')∧((∀t∈ts,t.num<2^or.toNat)∧Can qs (bj ts)→∀(p:Addr)(H':Hp),H p=none→Same H H'→PprAt H' p (cB qs (aI ts) or.toNat)→Q (.ref p) H')
def oY:Sp:=fun vs H Q _=>∃(r q:Addr)(ts:List Th)(BE or:Int)(qs:Sps),vs=[.ref r,.ref q]∧DV H (.ref r) (aX ts)∧ts.length≤500∧LadAt H q BE or (ah qs) qs∧Pok or qs∧qs.length≤400∧0≤or∧or≤20∧(∀t∈ts,0≤t.num∧1≤t.many)∧∀(b:Bool)(H':Hp),Same H H'→(b=true↔(∀t∈ts,t.num<2^or.toNat)∧Can qs (bj ts))→Q (.bl b) H'
theorem xi(cX:Has P w K mg base "folds_towards" 3 ["stream","ladder"] uB)(hG:Has P w K mg base "is_folded" 5 ["stream","ladder","paper"] gZ)(F:Fun K "paper_for" "paper_for" bI f fd):FnOk P w K mg base CX0 6 f fd ["stream","ladder"] wI:=by
 refine F.ok Tn (fun vs H Q E h=>?_) (fun cdv A outer s H vs Q E hr h=>?_)
 ·obtain⟨r,q,ts,BE,or,qs,rfl,_⟩:=h;rfl
 obtain⟨r,q,ts,BE,or,qs,rfl,dv,tl,lad,o,ql,d0,d1,th,hq0,hq1⟩:=h;have sl:=N9 ts;have fl:=gn qs (aI ts) or.toNat;have fb:or.toNat*(aI ts).length≤20*500:=Nat.mul_le_mul (by omega) (by omega);refine⟨_,(Z2 (Y0 2 Tn.nd rfl (Or.inl rfl) (Z6 cX hr (Z0 (pv 0) (Z0 (pv 1) Z1)))) Ze),?_⟩;refine⟨_,rfl,_,rfl,r,q,ts,BE,or,_,qs,rfl,dv,tl,lad,o.kok.nd,ql,d0,d1,fun p H1 n_p g1 pp=>?_⟩;refine⟨_,(Z7 (Zd (om (Xw (Z6 hG hr (Z0 (pv 0) (Z0 (pv 1) (Z0 (pv 2) Z1))))) (pv 2) iQ))),?_⟩;refine⟨_,rfl,_,rfl,_,rfl,r,q,p,ts,BE,or,_,qs,_,rfl,dv.mono g1,by omega,lad.mono g1,o.kok.nd,ql,d0,d1,pp,by omega,fun H2 g2=>?_⟩;have ok:=uI d0 o th;refine⟨_,rfl,?_⟩;cases e:dB or (ah qs) ts qs (cB qs (aI ts) or.toNat) with
 |true=>
  refine Vv ⟨_,rfl,hq1 (ok.mp e) p H2 n_p (g1.trans g2) (pp.mono g2)⟩
 |false=>
  refine Yz (hq0 (fun z=>?_) H2 (g1.trans g2));rw[ok.mpr z]at e;cases e
theorem sv(fh:Has P w K mg base "paper_for" 6 ["stream","ladder"] wI)(F:Fun K "fits" "fits" je f fd):FnOk P w K mg base CX0 7 f fd ["stream","ladder"] oY:=by
 refine F.ok sS (fun vs H Q E h=>?_) (fun cdv A outer s H vs Q E hr h=>?_)
 ·obtain⟨r,q,ts,BE,or,qs,rfl,_⟩:=h;rfl
 obtain⟨r,q,ts,BE,or,qs,rfl,dv,tl,lad,o,ql,d0,d1,th,hq⟩:=h;refine⟨_,(Z7 (Zd (Um s_ (Z6 fh hr (Z0 (pv 0) (Z0 (pv 1) Z1))) iQ (Zm _)))),?_⟩;refine⟨_,rfl,_,rfl,r,q,ts,BE,or,qs,rfl,dv,tl,lad,o,ql,d0,d1,th,fun no H1 g1=>⟨rfl,?_⟩,fun yes p H1 _ g1 _=>⟨rfl,?_⟩⟩
 ·exact hq false _ g1 ⟨(fun z=>nomatch z),fun z=>absurd z no⟩
 ·exact hq true _ g1 ⟨fun _=>yes,fun _=>rfl⟩
theorem qH{g:Int×Int→Int}(G:nG g):∀(h:Nat)(j n:Int),0≤j→aq ((h:Int),j)≤n→n≤am ((h:Int),j)→g ((h:Int),j)≤g (0,n):=by
 intro h
 induction h with
 |zero=>
  intro j n _ a b;have e1:aq (((0:Nat):Int),j)=j:=ui j;have e2:am (((0:Nat):Int),j)=j:=uf j;have e:j=n:=by omega
  rw[e];exact y9 _
 |succ h ih=>
  intro j n j0 a b;have z:=G (h:Int) j (by omega) j0;have e:(((h+1:Nat):Int),j)=upK h j:=zN (by show((h+1:Nat):Int)=(h:Int)+1;omega) rfl;rw[e]at a b⊢;have p:=Ys h;have pw:(2:Int)^(h+1)=2^h*2:=BB _ _;have t1:((h:Int)+1).toNat=h+1:=by omega
  have t0:((h:Int)).toNat=h:=by omega
  have f1:aq (upK h j)=j*(2^h*2):=by show j*2^((h:Int)+1).toNat=_;rw[t1,pw]
  have l1:am (upK h j)=(j+1)*(2^h*2)-1:=by show(j+1)*2^((h:Int)+1).toNat-1=_;rw[t1,pw]
  have f2:aq ((h:Int),2*j)=2*j*2^h:=by show 2*j*2^((h:Int)).toNat=_;rw[t0]
  have l2:am ((h:Int),2*j)=(2*j+1)*2^h-1:=by show(2*j+1)*2^((h:Int)).toNat-1=_;rw[t0]
  have f3:aq ((h:Int),2*j+1)=(2*j+1)*2^h:=by show(2*j+1)*2^((h:Int)).toNat=_;rw[t0]
  have l3:am ((h:Int),2*j+1)=(2*j+1+1)*2^h-1:=by show(2*j+1+1)*2^((h:Int)).toNat-1=_;rw[t0]
  have q1:j*(2^h*2)=2*j*2^h:=by rw[BD (2^h) 2,←Ak,BD j 2]
  have q2:(j+1)*(2^h*2)=(2*j+1+1)*2^h:=by rw[BD (2^h) 2,←Ak];congr 1;omega
  rcases Bz n ((2*j+1)*2^h)with c | c
  ·exact Aa z.1 (ih (2*j) n (by omega) (by omega) (by omega))
  ·exact Aa z.2 (ih (2*j+1) n (by omega) (by omega) (by omega))
theorem rU{g:Int×Int→Int}(G:nG g){k:Int×Int}(k0:0≤k.1)(k2:0≤k.2){n:Int}(a:aq k≤n)(b:n≤am k):g k≤g (0,n):=by
 have e:((k.1.toNat:Nat):Int)=k.1:=by omega
 have q:=qH G k.1.toNat k.2 n k2;rw[e]at q;exact q a b
def aG(ns:List (Int×Int)):List Th:=ns.map fun p=>⟨0,"a",p.1,p.2⟩
theorem Rb(ns:List (Int×Int)):plc (aG ns)=ns:=by
 unfold plc aG;rw[yQ];exact List.map_id _
theorem qy{f:Int×Int→Int}{or:Int}{ps:Sps}(o:Pok or ps)(hf:∀p∈ps,aq p.1≤f p.1∧f p.1≤am p.1):Dom ps (aG (ps.map fun p=>(f p.1,p.2))):=fun g G=>by
 have st:=o.kok.st;have po:=o.pos;clear o
 induction ps with
 |nil=>exact y9 _
 |cons p ps ih=>
  have q:=ih (fun x hx=>hf x (.tail _ hx)) (fun k hk=>st k (.tail _ hk)) fun x hx=>po x (.tail _ hx);obtain⟨a,_,c,_⟩:=st p.1 (.head _);obtain⟨x,y⟩:=hf p (.head _);have r:=rU G a c x y;have m:=Int.mul_le_mul_of_nonneg_left r (show 0≤p.2 by have:=po p (.head _);omega);rw[Yv];show p.2*g p.1+wS g ps≤p.2*g (0,f p.1)+wT g (aG (ps.map fun p=>(f p.1,p.2)));omega
theorem qC{f:Int×Int→Int}{or:Int}{ps:Sps}(o:Pok or ps)(hf:∀p∈ps,aq p.1≤f p.1∧f p.1≤am p.1):∀t∈aG (ps.map fun p=>(f p.1,p.2)),ThK or t:=fun t ht=>by
 obtain⟨q,hq,rfl⟩:=yz.mp ht;obtain⟨p,hp,rfl⟩:=yz.mp hq;obtain⟨a,b,c,d⟩:=o.kok.st p.1 (yz.mpr ⟨p,hp,rfl⟩);obtain⟨x,y⟩:=hf p hp;have l:=rL a b c d;have z:0≤aq p.1:=Bj c (AG (Ys _));exact⟨⟨by show 0≤f p.1;omega,by show f p.1<_;omega,o.pos p hp⟩,Ox.1⟩
def uX:Sp:=fun vs H Q _=>∃(l:Addr)(xs:List V)(ns:List (Int×Int)),vs=[.ref l]∧H l=some (.lst xs)∧NsAt H xs ns∧ns.length≤300∧∀(r:Addr)(H':Hp),H r=none→Same H H'→DV H' (.ref r) (aX (aG ns))→Q (.ref r) H'
def j_(F:Sps→List (Int×Int)):Sp:=fun vs H Q _=>∃(q:Addr)(BE or total:Int)(ps:Sps),vs=[.ref q]∧LadAt H q BE or total ps∧Sts ps∧ps.length≤200∧∀(r:Addr)(H':Hp),H r=none→Same H H'→DV H' (.ref r) (aX (aG (F ps)))→Q (.ref r) H'
theorem xx(F:Fun K "stream_at" "stream_at" bJ f fd):FnOk P w K mg base CX0 1 f fd ["places"] uX:=by
 refine F.ok dZ (fun vs H Q E h=>?_) (fun cdv A outer s H vs Q E hr h=>?_)
 ·obtain⟨l,xs,ns,rfl,_⟩:=h;rfl
 obtain⟨l,xs,ns,rfl,BN,na,nl,hq⟩:=h;have xl:=na.len;refine⟨_,(Z7 (Zd (Ym (own:=["number","count"]) (Wf rfl rfl) (Zq (pv 0))
  (fun _ _ _ _ _=>(Xd K 2 rfl rfl (Z9 (Z8 (i:=0) Wl rfl (Or.inl rfl) (Or.inr rfl)) (Z9 (Z8 (i:=1) Wl rfl (Or.inl rfl) (Or.inr rfl)) Y1)))) (fun _ _ _ _ _=>Yp)
  (fun _ _ _ _ _=>(Zu (Z0 Z4 (Z0 Vq (Z0 (pv 0) (Z0 (pv 1) Z1))))))))),?_⟩
 refine⟨_,rfl,l,rfl,⟨_,SqL.of BN⟩,?_⟩;refine Y6 (xs:=xs) (fun i ys H'=>Same H H'∧TsAt H' ys (aG (ns.take i))) ⟨Same.refl _,.nil⟩ (fun i ys H' _ h=>SqL.of (h.1 _ _ BN)) ?_ ?_
 ·rintro i x ys H' C hx ⟨g,ta⟩ hC;obtain⟨c,p,rfl,hp,BM⟩:=na.get hx;have il:=(yI.mp hp).1;have yl:=yK ta;unfold aG at yl;rw[pi,yX]at yl;refine⟨Zh (by omega),c,_,rfl,SqT.of (g _ _ BM),rfl,_,_,rfl,_,_,rfl,rfl,Wk.refl _,_,rfl,_,rfl,leN rfl,fun u n_u=>hC _ _ ⟨g.trans (Z5 n_u _),?_⟩⟩;unfold aG;rw[Zo hp,yR];exact Paired.snoc (ta.tup fun c ys e=>Z5 n_u _ _ _ e) ⟨u,rfl,Z3⟩
 ·rintro ys H' ⟨g,ta⟩;rw[xl,yV]at ta;have yl:=yK ta;unfold aG at yl;rw[pi]at yl;refine⟨Zf (by omega),fun r n_r=>hq r _ (g.free n_r) (g.trans (Z5 n_r _)) (.lst Z3 ?_)⟩;exact(ta.tup fun c ys e=>Z5 n_r _ _ _ e).dvs
theorem lh(bU:Has P w K mg base "stream_at" 1 ["places"] uX)(az:Has P w K mg base "lowest_places" 3 ["ladder"] (bZ aC))(F:Fun K "lowest" "lowest" du f fd):FnOk P w K mg base CX0 4 f fd ["ladder"] (j_ aC):=by
 refine F.ok mw (fun vs H Q E h=>?_) (fun cdv A outer s H vs Q E hr h=>?_)
 ·obtain⟨q,BE,or,total,ps,rfl,_⟩:=h;rfl
 obtain⟨q,BE,or,total,ps,rfl,lad,st,pl,hq⟩:=h;refine⟨_,(Z7 (Zd (Z6 bU hr (Z0 (Z6 az hr (Z0 (pv 0) Z1)) Z1)))),?_⟩;exact⟨_,rfl,q,BE,or,total,ps,rfl,lad,st,pl,fun l xs H1 g1 e1 n1=>⟨l,xs,_,rfl,e1,n1,by unfold aC;rw[pi];omega,fun r H2 nr g2 d=>hq r H2 (g1.free nr) (g1.trans g2) d⟩⟩
theorem iw(bU:Has P w K mg base "stream_at" 1 ["places"] uX)(ax:Has P w K mg base "highest_places" 3 ["ladder"] (bZ ak))(F:Fun K "highest" "highest" cJ f fd):FnOk P w K mg base CX0 4 f fd ["ladder"] (j_ ak):=by
 refine F.ok iy (fun vs H Q E h=>?_) (fun cdv A outer s H vs Q E hr h=>?_)
 ·obtain⟨q,BE,or,total,ps,rfl,_⟩:=h;rfl
 obtain⟨q,BE,or,total,ps,rfl,lad,st,pl,hq⟩:=h;refine⟨_,(Z7 (Zd (Z6 bU hr (Z0 (Z6 ax hr (Z0 (pv 0) Z1)) Z1)))),?_⟩;exact⟨_,rfl,q,BE,or,total,ps,rfl,lad,st,pl,fun l xs H1 g1 e1 n1=>⟨l,xs,_,rfl,e1,n1,by unfold ak;rw[pi];omega,fun r H2 nr g2 d=>hq r H2 (g1.free nr) (g1.trans g2) d⟩⟩
end K30
namespace HT
open PySem PySem.Spec PyProof.Rows
section
variable{prog:Program}{w:World}{A:Around}{E:Value→Shared→Prop}{s:Shared}
theorem S7{sl:Addr}{t:Tok}{Q:Int×Int×Nat→Shared→Prop}(hs:s.heap.IsSliceOf sl .none .none (.int 2 t))(h:Q (0,2,2) s):wpAny (model prog w) A (Builtin.Slice.sliceApplied (.ref sl) (pure ((4:Nat):Int))) Q E s:=by
 obtain⟨os,hos,hcs,hds⟩:=id hs;unfold Builtin.Slice.sliceApplied Builtin.Slice.sliceFields;refine io (io (AJ hos hds (x:=.none) rfl (io (AJ hos hds (x:=.none) rfl (io (AJ hos hds (x:=.int 2 t) rfl (yx ?_)))))));refine io (T4 (IsPart.int 2 t) ?_);show wpAny _ _ (if ((2:Int)==0)=true then _ else _) _ _ s;rw[yA (by decide)];refine io (slicePart_none (io (slicePart_none (io (yx ?_)))));have e1:Builtin.Slice.sliceAdjust none none 2 ((4:Nat):Int)=(0,4):=by decide +kernel
 show wpAny _ _ (match Builtin.Slice.sliceAdjust none none 2 ((4:Nat):Int)with | (lo,hi)=>pure (lo,(2:Int),Builtin.Slice.slicePlaces lo hi 2)) _ _ s;rw[e1];have e2:Builtin.Slice.slicePlaces 0 4 2=2:=by decide +kernel
 show wpAny _ _ (pure ((0:Int),(2:Int),Builtin.Slice.slicePlaces 0 4 2)) _ _ s;rw[e2];exact yx h
theorem getItem_tuple_two{a sl:Addr}{v0 v1 v2 v3:Value}{t:Tok}{Q:Value→Shared→Prop}(ht:IsTup s.heap a #[v0,v1,v2,v3])(hs:s.heap.IsSliceOf sl .none .none (.int 2 t))(h:Q (.ref s.heap.objs.size) {s with heap:=s.heap.push {cls:=.type "tuple",data:=.seq #[v0,v2]}}):wpAny (model prog w) A (getItem (.ref a) (.ref sl)) Q E s:=by
 have htake:sizeOk (.seq #[v0,v2]):=by
  show(#[v0,v2]:Array Value).size≤sizeLine;exact(show(2:Nat)≤sizeLine by decide)
 obtain⟨os,hos,hcs,hds⟩:=id hs;have hTs:s.TypeIs (.ref sl) "slice":=⟨os,hos,hcs⟩;unfold getItem
 try with_reducible refine zn ?_
 first | refine io (yx ?_) | skip
 refine io (wpAny_sequenceKey ht.typeIs (by decide) ?_);refine io (wpAny_callSpecial?_slot (name:=Str.ofString "__getitem__") ht.typeIs Aq
  (zJ Aq ht.typeIs entry_tuple_getitem ?_ (args_tuple_getitem _ _)))
 show wpAny _ _ (Builtin.Tuple.tupleItemsOf (.ref a) >>= _) _ _ s;refine io (tupleItemsOf_ ht ?_);refine io (AE hTs ?_);rw[yC (by decide)];refine io (S7 hs ?_);show wpAny _ _ (if ((0:Int)==0 && (2:Int)==1 && (2:Nat)==(#[v0,v1,v2,v3]:Array Value).size)=true then _ else _) _ _ s;rw[if_neg (by simp)];have e:((List.range 2).filterMap fun(k:Nat)=>(#[v0,v1,v2,v3]:Array Value)[((0:Int)+(k:Int)*2).toNat]?).toArray=#[v0,v2]:=rfl;rw[e]
 first
  |exact io (m:=Builtin.Tuple.tupleExact _) (zB (yx ⟨_,rfl,yx h⟩) htake)
  |exact io (m:=Builtin.Tuple.tupleExact _) (zB (io (yx (yx ⟨_,rfl,yx h⟩))) htake)
  |exact io (io (m:=Builtin.Tuple.tupleExact _) (zB (yx (yx ⟨_,rfl,yx h⟩)) htake))
  |exact io (io (m:=Builtin.Tuple.tupleExact _) (zB (yx ⟨_,rfl,yx h⟩) htake))
end
end HT
namespace L2
open PySem PySem.Spec PyProof.Rows
section
variable{X:Cx}
def xT(K:W.Frag)(te ts:TE):TE:=fun σ H Q=>te σ H fun x H1=>ts σ H1 fun y H2=>∃(a:Addr)(x0 x1 x2 x3:V),x=.ref a∧y=.int 2∧SqT K H2 a [x0,x1,x2,x3]∧∀p,H2 p=none→Q (.ref p) (upd H2 p (.tup [x0,x2]))
theorem sF{e st:Expr}{te ts:TE}{pos p2:Pos}(he:PE X e te)(hs:PE X st ts):PE X (.Subscript e (.Slice none none (some st) p2) pos) (xT X.K te ts):=by
 intro BF s σ H Q I h;refine Subscript_ (thn (he BF s σ H _ I h) fun v s1 BG=>?_);obtain⟨x,H1,I1,r1,q1⟩:=BG;refine wpAny_Slice ?_;rw[evalPart_none];refine yx (yx ?_);rw[evalPart_some];refine thn (hs BF s1 σ H1 _ I1 q1) fun vk s2 BG=>?_;obtain⟨y,H2,I2,r2,q2⟩:=BG;obtain⟨a,x0,x1,x2,x3,rfl,rfl,hx,q⟩:=q2;cases r1;obtain⟨t,rfl⟩:=r2;have I4:Inv X BF σ H2 {s2 with heap:=s2.heap.push {cls:=.type "slice",data:=.fields #[.none,.none,.int 2 t]}}:=I2.kept (t':=s2.toks) fun b ob q=>yy _ q;obtain⟨its,r,ht,hz⟩:=I4.tuple hx;cases r with
 |cons a0 r=>cases r with
  |cons a1 r=>cases r with
   |cons a2 r=>cases r with
    |cons a3 r=>
     cases r;show wpAny (model X.prog X.w) X.A (subscriptTail e (.Slice none none (some st) p2) (.ref a) (.ref s2.heap.objs.size)) (EP X BF σ Q) X.xe {s2 with heap:=s2.heap.push {cls:=.type "slice",data:=.fields #[.none,.none,.int 2 t]}};refine tail_any (ops:=[.ref a,.ref s2.heap.objs.size]) ht.typeIs PyProof.Rows.slot_tuple_getitem.lookup ?_ (by with_unfolding_all rfl);refine HT.getItem_tuple_two ht (Heap.IsSliceOf.new ..) ?_;refine⟨.ref _,_,I4.laid (t':=s2.toks) (o:=.tup [x0,x2]) (fun b ob q=>yy _ q) (yB _) ?_,rfl,q _ (I4.hok.fresh (yB _))⟩;exact⟨leN rfl,[_,_],.cons a0 (.cons a2 .nil),TupN.new _ _⟩
end
end L2
namespace K30
open PySem L2 Ld
theorem yg{K:W.Frag}:W.kitOne K (.type "list") (.type "list")=some true:=Sv (by decide +kernel)
theorem wK{K:W.Frag}:W.kitOne K (.type "tuple") (.type "tuple")=some true:=Sv (by decide +kernel)
theorem xu{K:W.Frag}:W.kitOne K (.type "str") (.type "str")=some true:=Sv (by decide +kernel)
theorem xE{K:W.Frag}:W.kitOne K (.type "int") (.type "int")=some true:=Sv (by decide +kernel)
theorem xn{K:W.Frag}:W.kitOne K (.type "int") (.type "bool")=some false:=Sv (by decide +kernel)
def tZ:Sp:=fun vs H Q _=>∃(r1 r2:Addr)(or:Int)(ts:List Th),vs=[.ref r1,.ref r2]∧DV H (.ref r1) (aX ts)∧DV H (.ref r2) (aX ts)∧(∀t∈ts,ThK or t)∧ts.length≤63∧∀H',Same H H'→Q (.bl true) H'
variable{P:Program}{w:World}{K:W.Frag}{mg:Str→Option Value}{base:Heap}{f:Addr}{fd:FuncData}
theorem v_(ag:mg "isinstance"=none)(aJ:mg "list"=none)(bc:mg "tuple"=none)(qw:mg "str"=none)(cy:mg "int"=none)(cP:mg "bool"=none)(aM:mg "len"=none)(F:Fun K "_law_is_told" "_law_is_told" bR f fd):FnOk P w K mg base CX0 1 f fd ["_law_found","_law_due"] tZ:=by
 refine F.ok To (fun vs H Q E h=>?_) (fun cdv A outer s H vs Q E hr h=>?_)
 ·obtain⟨r1,r2,or,ts,rfl,_⟩:=h;rfl
 obtain⟨r1,r2,or,ts,rfl,k1,k2,tk,tl,hq⟩:=h;have sl:=W3 tk;obtain⟨_,xs,e0,e_r,ds⟩:=DV.list_inv k1;cases e0;refine⟨_,(Z2 (Yu (PW.pt (U0 (V1 (Xw (Zg Wy rfl ag zF (Z0 (pv 0) (Z0 (Wb (v:=.ty "list") rfl aJ AF rfl) Z1))))) (V0 (Zn (Ua hr.units) (pv 0) (pv 1) (Zm _))))) (Z7 (Zd W5)) Zw) Ze),?_⟩;refine⟨_,rfl,_,_,"list",_,rfl,TyOf.lst e_r,yg,_,rfl,Yz ?_⟩;refine⟨_,rfl,_,rfl,_,_,k1,k2,Y3 sl (by decide),Y3 sl (by decide),_,rfl,?_⟩;rw[Vf sl];refine Yz ?_;refine⟨_,(Z2 (Yr zl rfl (Zq (pv 0)) (Z8 (i:=2) To.nd rfl (Or.inl rfl))
 (Z2 (Yu (PW.pt (U0 (V1 (Xw (Zg Wy rfl ag zF (Z0 (pv 2) (Z0 (Wb (v:=.ty "tuple") rfl bc PyProof.Rows.boot_tuple rfl) Z1))))) (V0 (V1 (Xw (Zg Wy rfl ag zF (Z0 (Yc Y9 (pv 2) Z4) (Z0 (Wb (v:=.ty "str") rfl qw PyProof.Rows.boot_str rfl) Z1)))))))) (Z7 (Zd W5)) Zw)
 (Z7 (Yu (Zn Tu (Zg Y7 rfl aM An (Z0 (Ym (own:=["_law_one"]) (Wf rfl rfl) (jk (Zb sD (sF (pv 2) Z4) (Q9 vt (pv 2) (d_ Z4) eU)))
  (fun _ _ _ _ _=>(Z8 (i:=0) Uw rfl (Or.inl rfl) (Or.inr rfl))) (fun _ _ _ _ _=>(Wq (PW.pt (U0 (V1 (Xw (Zg (gj K rfl) rfl ag zF (Z0 (pv 0) (Z0 (Wb (v:=.ty "int") rfl cy PyProof.Rows.boot_int rfl) Z1))))) (V0 (Xw (Zg (gj K rfl) rfl ag zF (Z0 (pv 0) (Z0 (Wb (v:=.ty "bool") rfl cP PyProof.Rows.boot_bool rfl) Z1)))))))))
  (fun _ _ _ _ _=>(pv 0))) Z1)) Z4 (Zm _)) (Z7 (Zd W5)) Zw)))) Ze),?_⟩
 refine⟨_,rfl,r1,rfl,⟨_,SqL.of e_r⟩,?_⟩;refine Yi (xs:=xs) (fun i σ H'=>∃o2:Option V,σ=[some (.ref r1),some (.ref r2),o2]∧Same H H') ⟨_,rfl,Same.refl _⟩ ?_ ?_ ?_
 ·rintro i σ H' _ ⟨_,_,g⟩;exact SqL.of (g _ _ e_r)
 ·rintro i x σ H1 N B R hN hR hx ⟨o2,rfl,g⟩;obtain⟨t,c,ht,rfl,ec,_⟩:=DVs.th_at ds hx;have ec:H1 c=some (.tup [.int t.day,.str t.word,.int t.num,.int t.many]):=g _ _ ec;refine⟨_,rfl,_,_,"tuple",_,rfl,TyOf.tup ec,wK,_,rfl,Yz ?_⟩;refine⟨_,rfl,c,_,1,_,rfl,rfl,SqT.of ec,rfl,_,_,"str",_,rfl,TyOf.str _,xu,_,rfl,Yz ?_⟩;refine⟨_,rfl,c,_,_,_,_,rfl,rfl,SqT.of ec,fun p n_p=>?_⟩;have g1:=Z5 n_p (.tup [.int t.day,.int t.num]);have BK:(upd H1 p (.tup [.int t.day,.int t.num])) p=some (.tup [.int t.day,.int t.num]):=Z3;have ec:=g1 _ _ ec;have g:=g.trans g1;generalize upd H1 p (.tup [.int t.day,.int t.num])=H2 at g1 BK ec g⊢;refine⟨_,rfl,3,rfl,c,_,rfl,SqT.of ec,fun z=>absurd z.1 (show HT.sIx 4 0 (some 3)≠0 by decide),fun p2 n_2=>?_⟩;have ek:dj [.int t.day,.str t.word,.int t.num,.int t.many] (some 3) none=[.int t.many]:=rfl;rw[ek];have g2:=Z5 n_2 (.tup [.int t.many]);have e_2:(upd H2 p2 (.tup [.int t.many])) p2=some (.tup [.int t.many]):=Z3;have BK:=g2 _ _ BK;have g:=g.trans g2;generalize upd H2 p2 (.tup [.int t.many])=H3 at g2 e_2 BK g⊢;refine⟨p,p2,_,_,rfl,rfl,SqT.of BK,SqT.of e_2,(fun z=>nomatch z),leN rfl,(fun z=>nomatch z),fun _ p3 n_3=>?_⟩;have g3:=Z5 n_3 (.tup [.int t.day,.int t.num,.int t.many]);have e_3:(upd H3 p3 (.tup [.int t.day,.int t.num,.int t.many])) p3=some (.tup ([t.day,t.num,t.many].map V.int)):=Z3;have g:=g.trans g3;rw[show[V.int t.day,.int t.num]++[.int t.many]=[.int t.day,.int t.num,.int t.many]from rfl];generalize upd H3 p3 (.tup [.int t.day,.int t.num,.int t.many])=H4 at g3 e_3 g⊢;refine⟨p3,rfl,⟨_,SqT.of e_3⟩,?_⟩;refine P5 (xs:=[t.day,t.num,t.many].map V.int) (fun _ ys H'=>H'=H4∧ys=[]) ⟨rfl,rfl⟩ ?_ ?_ ?_
  ·rintro i ys H' _ ⟨rfl,_⟩;exact SqT.of e_3
  ·rintro i y ys H' C hy ⟨rfl,rfl⟩ hC;rw[yL]at hy;obtain⟨n,_,rfl⟩:=y8.mp hy;exact⟨leN rfl,Wk.refl _,_,rfl,_,_,"int",_,rfl,TyOf.int _,xE,_,rfl,Yz ⟨_,rfl,_,_,"bool",_,rfl,TyOf.int _,xn,_,rfl,Yz (hC _ _ ⟨rfl,rfl⟩)⟩⟩
  rintro ys H' ⟨rfl,rfl⟩;refine⟨leN rfl,fun q n_q=>⟨q,_,rfl,.inl (SqL.of Z3),_,_,rfl,rfl,_,rfl,?_⟩⟩;exact Yz (hN _ _ ⟨_,rfl,g.trans (Z5 n_q _)⟩)
 ·rintro σ H' ⟨o2,rfl,g⟩;exact⟨_,(Z7 (Zd W5)),hq _ g⟩
theorem rH{K:W.Frag}{S a:Addr}{ns:List Int}{H H':Hp}(hp:Pn K S ns H a)(g:Grw a H H'){q:Addr}{BE or total:Int}{ps:Sps}(h:LadAt H q BE or total ps):LadAt H' q BE or total ps:=let ⟨c,as,e1,e2,r⟩:=h.at_;⟨c,as,Q7 hp g e1,Q7 hp g e2,Paired.mapP r fun _ _ ⟨y,f1,f2⟩=>⟨y,Q7 hp g f1,Q7 hp g f2⟩⟩
structure Wm(K:W.Frag)(S:Addr)(ns:List Int)(a q r1 r2:Addr)(BE or:Int)(ps:Sps)(H0 H:Hp):Prop where
 pn:Pn K S ns H a
 lad:LadAt H q BE or (ah ps) ps
 dl:DV (aw a H) (.ref r1) (aX (aG (aC ps)))
 dh:DV (aw a H) (.ref r2) (aX (aG (ak ps)))
 gg:Grw a H0 H
section
variable{K:W.Frag}{S a q r1 r2:Addr}{ns:List Int}{BE or:Int}{ps:Sps}{H0 H H':Hp}
theorem Wm.step(h:Wm K S ns a q r1 r2 BE or ps H0 H)(hp:Pn K S ns H' a)(g:Grw a H H'):Wm K S ns a q r1 r2 BE or ps H0 H':=⟨hp,rH h.pn g h.lad,h.dl.mono g,h.dh.mono g,h.gg.trans g⟩
theorem Wm.same(h:Wm K S ns a q r1 r2 BE or ps H0 H)(g:Same H H'):Wm K S ns a q r1 r2 BE or ps H0 H':=h.step (h.pn.same g) (h.pn.grw g)
end
theorem lE{X:Cx}(K:W.Frag)(hK:X.K=K)(hc:X.calm=true):aL X (.builtin "sum") (fun xs H Q=>∃(p:Addr)(ns:List Int),xs=[.ref p]∧SqL K H p (ns.map V.int)∧Q (.int ns.sum) H):=by
 subst hK;exact Xp hc
theorem kc(ns:List (Int×Int))(x:Int):tm (aG ns) x=mam ns x:=by rw[←qU,Rb]
theorem Tk(ns:List (Int×Int)):(aG ns).length=ns.length:=pi _
theorem eu(ps:Sps):(aC ps).length=ps.length:=pi _
theorem Qv(ps:Sps):(ak ps).length=ps.length:=pi _
theorem qM(ns:List (Int×Int)):((aG ns).map fun t=>t.num*t.many).sum=sma ns:=by
 unfold aG sma;rw[yQ];rfl
theorem rZ{ps:Sps}(h:sE ps):∀t∈aG (aC ps),1≤t.many:=fun t ht=>by
 obtain⟨p,hp,rfl⟩:=yz.mp ht;obtain⟨z,hz,rfl⟩:=yz.mp hp;exact h z hz
theorem nE{ps:Sps}(h:sE ps):∀t∈aG (ak ps),1≤t.many:=fun t ht=>by
 obtain⟨p,hp,rfl⟩:=yz.mp ht;obtain⟨z,hz,rfl⟩:=yz.mp hp;exact h z hz
theorem dv2{H:Hp}{p:Addr}{x y:Int}(e:H p=some (.tup [.int x,.int y])):DV H (.ref p) (.tuple [.int x,.int y]):=.tup e (.cons (.int _) (.cons (.int _) .nil))
def t8(K:W.Frag):Sp:=fun vs H Q _=>∃(a S q r1 r2:Addr)(ns:List Int)(BE or:Int)(ps:Sps),vs=[.ref a,.ref q,.ref r1,.ref r2]∧Wm K S ns a q r1 r2 BE or ps H H∧Sts ps∧sE ps∧0≤ah ps∧(∀p∈aC ps,0≤p.1∧p.1<2^or.toNat)∧(∀p∈ak ps,0≤p.1∧p.1<2^or.toNat)∧1≤or∧or≤10∧ps.length<64∧∀H',Pn K S ns H' a→Grw a H H'→Q (.bl true) H'
theorem uG(av:mg "range"=none)(aF:mg "sum"=none)(af:Has P w K mg base "_law_take" 1 ["_law_pen_here","_law_most"] (bL K))(eK:Has P w K mg base "at_most_in" 4 ["ladder","x"] xw)(nW:Has P w K mg base "sum_in" 4 ["ladder"] wy)(ig:Has P w K mg base "place_in" 4 ["ladder","number"] wD)(cT:Has P w K mg base "_law_counted" 1 ["_law_stream_here","_law_x"] uy)(bV:Has P w K mg base "_law_so_many_th" 1 ["_law_stream_here","_law_number"] uo)(F:Fun K "_law_are_met" "_law_are_met" bO f fd):FnOk P w K mg base CX0 5 f fd ["_law_pen_here","_law_ladder_here","_law_low","_law_high"] (t8 K):=by
 refine F.ok X6 (fun vs H Q E h=>?_) (fun cdv A outer s H vs Q E hr h=>?_)
 ·obtain⟨a,S,q,r1,r2,ns,BE,or,ps,rfl,_⟩:=h;rfl
 obtain⟨a,S,q,r1,r2,ns,BE,or,ps,rfl,wm,st,po,s0,nl,nh,d0,d1,ln,hq⟩:=h;have tw:=Wg (m:=or) d1;have tl:(aG (aC ps)).length=ps.length:=by rw[Tk,eu]
 have th:(aG (ak ps)).length=ps.length:=by rw[Tk,Qv]
 refine⟨_,(Z2 (Yr zl rfl (Xh rfl av (Z0 Z4 Z1)) (Z8 (i:=4) X6.nd rfl (Or.inl rfl))
 (Z2 (Y0 5 X6.nd rfl (Or.inl rfl) (Zb Xx (Z6 af hr (Z0 (pv 0) (Z0 (Zb Zs (Zb Sd Z4 (Yc Y9 (pv 1) Z4)) Z4) Z1))) Z4))
 (Z7 (Yu (Zn (Ua hr.units) (Z6 eK hr (Z0 (pv 1) (Z0 (pv 5) Z1))) (Zu (Z0 (Z6 cT hr (Z0 (pv 3) (Z0 (pv 5) Z1))) (Z0 (Z6 cT hr (Z0 (pv 2) (Z0 (pv 5) Z1))) Z1))) (Zm _)) (Z7 (Zd W5)) Zw)))) Ze),?_⟩
 refine⟨6,rfl,leI rfl,ltI rfl,?_⟩;refine Xe (lo:=0) (n:=6) (fun i σ H'=>∃(o4 o5:Option V),σ=[some (.ref a),some (.ref q),some (.ref r1),some (.ref r2),o4,o5,none,none,none]∧Wm K S ns a q r1 r2 BE or ps H H') ⟨_,_,rfl,wm⟩ ?_ ?_
 ·clear wm;rintro i σ H1 N B R hN hR hi ⟨o4,o5,rfl,wm⟩;obtain⟨c,as,BQ,_⟩:=wm.lad.at_;refine⟨_,rfl,_,rfl,q,_,1,_,rfl,rfl,SqT.of BQ,rfl,_,_,rfl,rfl,⟨by omega,by omega,by decide⟩,_,_,rfl,rfl,a,S,ns,_,rfl,wm.pn,by rw[z5];omega,by rw[z5];omega,fun x0 H2 y0 y1 hp g2=>⟨_,_,rfl,rfl,?_⟩⟩;have wm:=wm.step hp g2;dsimp only;generalize x0-1=x;refine⟨_,rfl,_,rfl,q,BE,or,_,x,ps,rfl,wm.lad,st,by omega,fun t H3 g3 BR=>?_⟩;have wm:=wm.same g3;refine⟨_,rfl,_,rfl,r2,_,x,rfl,wm.dh.mono Zv,by omega,fun H4 g4=>?_⟩;have wm:=wm.same g4;refine⟨_,rfl,_,rfl,r1,_,x,rfl,wm.dl.mono Zv,by omega,fun H5 g5=>⟨leN rfl,fun v n_v=>?_⟩⟩;have wm:=wm.same g5;rw[kc,kc];have gz:=Z5 n_v (.tup [.int (mam (ak ps) x),.int (mam (aC ps) x)]);have e_v:(upd H5 v (.tup [.int (mam (ak ps) x),.int (mam (aC ps) x)])) v=some (.tup [.int (mam (ak ps) x),.int (mam (aC ps) x)]):=Z3;have BR:=gz _ _ (g5 _ _ (g4 _ _ BR));have wm:=wm.same gz;generalize upd H5 v (.tup [.int (mam (ak ps) x),.int (mam (aC ps) x)])=H6 at gz e_v BR wm⊢;refine⟨_,_,dv2 BR,dv2 e_v,Y3 (Vm _ _) (by decide),Y3 (Vm _ _) (by decide),_,rfl,?_⟩;rw[Vf (Vm _ _)];exact Yz (hN _ _ ⟨_,_,rfl,wm⟩)
 clear wm;rintro σ H3 ⟨o4,o5,rfl,wm⟩;refine⟨_,(Z2 (Vo (i:=6) X6.nd rfl rfl (own:=["_law_stream_here"]) (Wf rfl rfl) (Zq (X2 (Z0 (pv 2) (Z0 (pv 3) Z1))))
  (fun _ _ _ _ _=>(Z8 (i:=0) Uz rfl (Or.inl rfl) (Or.inr rfl))) (fun _ _ _ _ _=>Yp)
  (fun _ _ _ _ _=>(Zg (lE K rfl rfl) rfl aF zU (Z0 (Ym (own:=["_law_thing"]) (Wf rfl rfl) (qg K rfl (pv 0))
  (fun _ _ _ _ _=>(Z8 (i:=0) Uy rfl (Or.inl rfl) (Or.inr rfl))) (fun _ _ _ _ _=>Yp)
  (fun _ _ _ _ _=>(Zb X5 (Yc (Tz K rfl) (pv 0) Z4) (Yc (Tz K rfl) (pv 0) Z4)))) Z1)))) Ze),?_⟩
 refine⟨_,rfl,_,rfl,leN rfl,fun L n_L=>?_⟩;have wm:=wm.same (Z5 n_L (.lst [.ref r1,.ref r2]));have e_L:(upd H3 L (.lst [.ref r1,.ref r2])) L=some (.lst [.ref r1,.ref r2]):=Z3;generalize upd H3 L (.lst [.ref r1,.ref r2])=H4 at wm e_L⊢;refine⟨L,rfl,⟨_,SqL.of e_L⟩,?_⟩;refine Y6 (xs:=[.ref r1,.ref r2]) (fun i ys H'=>Same H4 H'∧ys=([V.int (sma (aC ps)),V.int (sma (ak ps))]).take i) ⟨Same.refl _,rfl⟩ ?_ ?_ ?_
 ·rintro i ys H' _ ⟨g,_⟩;exact SqL.of (g _ _ e_L)
 ·rintro i x ys H' C hx ⟨g,rfl⟩ hC;have wm:=wm.same g;obtain⟨r,ms,rfl,dv,hb,hl,hg⟩:∃(r:Addr)(ms:List (Int×Int)),x=.ref r∧DV H' (.ref r) (aX (aG ms))∧(∀p∈ms,0≤p.1∧p.1<2^or.toNat)∧ms.length<64∧([V.int (sma (aC ps)),V.int (sma (ak ps))]).take (i+1)=([V.int (sma (aC ps)),V.int (sma (ak ps))]).take i++[V.int (sma ms)]:=by
   rcases i with _ | _ | i
   ·cases hx;exact⟨r1,aC ps,rfl,wm.dl.mono Zv,nl,by rw[eu];exact ln,rfl⟩
   ·cases hx;exact⟨r2,ak ps,rfl,wm.dh.mono Zv,nh,by rw[Qv];exact ln,rfl⟩
   ·cases hx
  have tk:=List.length_take_le' i [V.int (sma (aC ps)),V.int (sma (ak ps))];refine⟨Zh (A6 tk (leN rfl)),Wk.refl _,?_⟩;obtain⟨_,xs,e0,e_r,ds⟩:=DV.list_inv dv;cases e0;refine⟨_,rfl,r,rfl,⟨_,SqL.of e_r⟩,?_⟩;refine Uf (fun _=>true) (fun t=>.int (t.num*t.many)) e_r ds (by rw[Tk];omega) ?_ ?_
  ·rintro t c ys C mt ec h1 _;obtain⟨p,hp,rfl⟩:=yz.mp mt;obtain⟨t0,t1⟩:=hb p hp;exact⟨Wk.refl _,_,rfl,c,_,2,_,rfl,rfl,SqT.of ec,rfl,_,rfl,c,_,3,_,rfl,rfl,SqT.of ec,rfl,_,_,rfl,rfl,Or.inl ⟨by show _<p.1;omega,by show p.1<_;omega⟩,h1 rfl⟩
  intro p n_p;have et:(((aG ms).filter fun _=>true).map fun t=>V.int (t.num*t.many))=((aG ms).map fun t=>t.num*t.many).map V.int:=by
   rw[Ap.mpr (fun _ _=>rfl),yQ];rfl
  rw[et];refine⟨p,_,rfl,SqL.of Z3,?_⟩;rw[qM];exact hC _ _ ⟨g.trans (Z5 n_p _),hg.symm⟩
 rintro ys H5 ⟨g,rfl⟩;have wm:=wm.same g;refine⟨leN rfl,fun p n_p=>?_⟩;have wm:=wm.same (Z5 n_p (.lst [.int (sma (aC ps)),.int (sma (ak ps))]));have BK:(upd H5 p (.lst [.int (sma (aC ps)),.int (sma (ak ps))])) p=some (.lst [.int (sma (aC ps)),.int (sma (ak ps))]):=Z3;show q9 _ _ _ _ (upd H5 p (.lst [.int (sma (aC ps)),.int (sma (ak ps))]));generalize upd H5 p (.lst [.int (sma (aC ps)),.int (sma (ak ps))])=H6 at wm BK⊢;refine⟨_,(Z2 (Yu (Zn (Ua hr.units) (Z6 nW hr (Z0 (pv 1) Z1)) (Zu (Z0 (Yc Yx (pv 6) Z4) (Z0 (Yc Yx (pv 6) Z4) Z1))) (Zm _)) (Z7 (Zd W5)) Zw) Ze),?_⟩;refine⟨_,rfl,q,BE,or,_,ps,rfl,wm.lad,st,by omega,fun t H7 g7 BR=>?_⟩;have wm:=wm.same g7;have BK:=g7 _ _ BK;refine⟨_,rfl,p,_,0,_,rfl,rfl,SqL.of BK,rfl,_,rfl,p,_,1,_,rfl,rfl,SqL.of BK,rfl,leN rfl,fun v n_v=>?_⟩;have wm:=wm.same (Z5 n_v (.tup [.int (sma (aC ps)),.int (sma (ak ps))]));refine⟨_,_,dv2 (Z5 n_v _ _ _ BR),dv2 Z3,Y3 (Vm _ _) (by decide),Y3 (Vm _ _) (by decide),_,rfl,?_⟩;rw[Vf (Vm _ _)];refine Yz ?_;generalize upd H7 v (.tup [.int (sma (aC ps)),.int (sma (ak ps))])=H8 at wm⊢;clear BK BR e_L g7 g;obtain⟨c,as,BQ,_⟩:=wm.lad.at_;refine⟨_,(Z2 (Y0 7 X6.nd rfl (Or.inl rfl) (X2 (Z0 Z4 (Z0 (Yc Y9 (pv 1) Z4) (Z0 (Zb Zs (Zb Wc (Yc Y9 (pv 1) Z4) Z4) Z4) (Z0 (Zb Zs Z4 (Zb Wc (Zb X5 (Z6 af hr (Z0 (pv 0) (Z0 (Zb Se Z4 Z4) Z1))) (Yc Y9 (pv 1) Z4)) (Zb Se Z4 Z4))) Z1)))))) Ze),?_⟩;refine⟨_,rfl,q,_,3,_,rfl,rfl,SqT.of BQ,rfl,_,rfl,q,_,3,_,rfl,rfl,SqT.of BQ,rfl,_,_,rfl,rfl,⟨by decide,by decide⟩,_,_,rfl,rfl,?_⟩;refine⟨_,rfl,_,_,rfl,rfl,lM rfl rfl rfl,a,S,ns,_,rfl,wm.pn,Vp rfl,ltI rfl,fun z1 H9 x0 x1 hp g9=>?_⟩;have wm:=wm.step hp g9;have x1:z1<1000000:=x1;obtain⟨c,as,BQ,_⟩:=wm.lad.at_;refine⟨_,rfl,q,_,3,_,rfl,rfl,SqT.of BQ,rfl,_,_,rfl,rfl,Or.inl ⟨by omega,by omega⟩,_,_,rfl,rfl,lM rfl rfl rfl,_,_,rfl,rfl,uv rfl rfl,_,_,rfl,rfl,leN rfl,fun L2 n_L2=>?_⟩;obtain⟨us,hu⟩:∃us:List Int,[V.int 1,V.int (ah ps),V.int (ah ps / 2+1),V.int (1+z1*ah ps / 10^(6:Int).toNat)]=us.map V.int∧us.length=4:=⟨[_,_,_,_],rfl,rfl⟩;obtain⟨hu,ul⟩:=hu;have gz:=Z5 n_L2 (.lst (us.map V.int));have e_L:(upd H9 L2 (.lst (us.map V.int))) L2=some (.lst (us.map V.int)):=Z3;rw[hu];generalize upd H9 L2 (.lst (us.map V.int))=H10 at gz e_L⊢;have wm:=wm.same gz;clear hu gz BQ;obtain⟨c,as,BQ,_⟩:=wm.lad.at_;refine⟨_,(Vn 8 (Z2 (Yr zl rfl (Zq (jh ["_law_pen_here","_law_ladder_here","_law_low","_law_high","_law_k","_law_x","_law_sums","_law_some","#8"] (Ym (own:=["_law_number"]) (Wf rfl rfl) (Zq (pv 7))
  (fun _ _ _ _ _=>(Z8 (i:=0) Ux rfl (Or.inl rfl) (Or.inr rfl))) (fun _ _ _ _ _=>(Wq (fx Sr Sr Z4 (pv 0) (Yc (Tz K rfl) (pv 2) Z4))))
  (fun _ _ _ _ _=>(pv 0))))) (Z8 (i:=8) X6.nd rfl (Or.inl rfl))
 (Z7 (Yu (Zn (Ua hr.units) (Z6 ig hr (Z0 (pv 1) (Z0 (pv 8) Z1))) (Zu (Z0 (Z6 bV hr (Z0 (pv 2) (Z0 (pv 8) Z1))) (Z0 (Z6 bV hr (Z0 (pv 3) (Z0 (pv 8) Z1))) Z1))) (Zm _)) (Z7 (Zd W5)) Zw))) Ze)),?_⟩
 refine⟨⟨.inl rfl,.inl rfl,.inl rfl,.inl rfl,.inl rfl,.inl rfl,.inl rfl,.inl rfl,.inr rfl,trivial⟩,_,rfl,L2,rfl,⟨_,SqL.of e_L⟩,?_⟩;refine Y6 (xs:=us.map V.int) (fun i ys H'=>H'=H10∧ys=(((us.take i).filter fun n=>decide (1≤n∧n≤ah ps)).map V.int)) ⟨rfl,rfl⟩ ?_ ?_ ?_
 ·rintro i ys H' _ ⟨rfl,_⟩;exact SqL.of e_L
 ·rintro i y ys H' C hy ⟨rfl,rfl⟩ hC;rw[yL]at hy;obtain⟨n,hn,rfl⟩:=y8.mp hy;have fl:=zG (fun n:Int=>decide (1≤n∧n≤ah ps)) (us.take i);rw[yX]at fl;have tk:=Zo hn;refine⟨Zh (by rw[pi];omega),Wk.refl _,_,rfl,_,_,rfl,rfl,_,rfl,?_⟩;by_cases c1:1≤n
  ·rw[yF c1];refine Vv ⟨_,rfl,q,_,3,_,rfl,rfl,SqT.of BQ,rfl,_,_,rfl,rfl,_,rfl,?_⟩;by_cases c2:n≤ah ps
   ·rw[yF c2];refine Vv ⟨_,rfl,hC _ _ ⟨rfl,?_⟩⟩;rw[tk,Ac,zt,yC (yF ⟨c1,c2⟩),yR];rfl
   ·rw[yY c2];refine Yz (hC _ _ ⟨rfl,?_⟩);rw[tk,List.filter_append,List.filter_cons,if_neg (by simpa using fun _=>by omega),List.filter_nil,List.append_nil]
  ·rw[yY c1];refine Yz ⟨_,rfl,Yz (hC _ _ ⟨rfl,?_⟩)⟩;rw[tk,List.filter_append,List.filter_cons,if_neg (by simpa using fun z=>absurd z c1),List.filter_nil,List.append_nil]
 rintro ys H' ⟨rfl,rfl⟩;rw[show(us.map V.int).length=us.length from pi _,yV];have fl:=zG (fun n:Int=>decide (1≤n∧n≤ah ps)) us;have fm:∀n∈us.filter (fun n=>decide (1≤n∧n≤ah ps)),1≤n∧n≤ah ps:=fun n hn=>yJ (yZ.mp hn).2;generalize us.filter (fun n=>decide (1≤n∧n≤ah ps))=zs at fl fm⊢;refine⟨Zf (by rw[pi];omega),fun p n_p=>?_⟩;have gz:=Z5 n_p (.lst (zs.map V.int));have BK:(upd H' p (.lst (zs.map V.int))) p=some (.lst (zs.map V.int)):=Z3;generalize upd H' p (.lst (zs.map V.int))=H11 at gz BK⊢;have wm:=wm.same gz;clear gz e_L BQ;have el:sm2 (plc (aG (aC ps)))=ah ps:=by rw[Rb,jR]
 have eh:sm2 (plc (aG (ak ps)))=ah ps:=by rw[Rb,gC]
 refine⟨p,rfl,⟨_,SqL.of BK⟩,?_⟩;refine Yi (xs:=zs.map V.int) (fun i σ H'=>∃(o6 o8:Option V),σ=[some (.ref a),some (.ref q),some (.ref r1),some (.ref r2),o4,o5,o6,some (.ref L2),o8]∧Wm K S ns a q r1 r2 BE or ps H H'∧H' p=some (.lst (zs.map V.int))) ⟨_,_,rfl,wm,BK⟩ ?_ ?_ ?_
 ·rintro i σ H' _ ⟨_,_,_,_,e⟩;exact SqL.of e
 ·clear wm BK;rintro i x σ H12 N B R hN hR hx ⟨o6,o8,rfl,wm,BK⟩;rw[yL]at hx;obtain⟨n,hn,rfl⟩:=y8.mp hx;obtain⟨n0,n1⟩:=fm n (yW hn);refine⟨_,rfl,_,rfl,q,BE,or,ps,n,rfl,wm.lad,st,ln,po,n0,n1,fun t x y H13 g13 BR px py=>?_⟩;have wm:=wm.same g13;have BK:=g13 _ _ BK;refine⟨_,rfl,_,rfl,r1,_,n,rfl,wm.dl.mono Zv,by omega,rZ po,n0,fun _ x' H14 g14 px'=>?_,fun lt=>absurd lt (by omega)⟩;have wm:=wm.same g14;refine⟨_,rfl,_,rfl,r2,_,n,rfl,wm.dh.mono Zv,by omega,nE po,n0,fun _ y' H15 g15 py'=>⟨leN rfl,fun v n_v=>?_⟩,fun lt=>absurd lt (by omega)⟩;have wm:=wm.same g15;rw[Rb]at px' py';cases px.uniq px';cases py.uniq py';have gz:=Z5 n_v (.tup [.int x,.int y]);refine⟨_,_,dv2 (gz _ _ (g15 _ _ (g14 _ _ BR))),dv2 Z3,Y3 (Vm _ _) (by decide),Y3 (Vm _ _) (by decide),_,rfl,?_⟩;rw[Vf (Vm _ _)];exact Yz (hN _ _ ⟨_,_,rfl,wm.same gz,gz _ _ (g15 _ _ (g14 _ _ BK))⟩)
 ·rintro σ H12 ⟨o6,o8,rfl,wm,BK⟩;exact⟨_,(Z7 (Zd W5)),hq _ wm.pn wm.gg⟩
def jA(K:W.Frag):Sp:=fun vs H Q _=>∃(a:Addr)(ns:List Int),vs=[.ref a]∧SqL K H a (ns.map V.int)∧ns.length≤63∧∀H',Q (.bl true) H'
theorem sH{qs:Sps}(nd:(qs.map (·.1)).Nodup):bY qs 0=au qs:=by
 refine Ra Qs ((fZ nd).trans (Y5 qs).symm) ?_ (Tm qs);unfold bY;rw[BC,z9];refine(R9 (qs.map (·.1))).imp fun{x y} h=>?_;rw[Wv]at h;rw[Ur];show x.1<y.1∨(x.1=y.1∧(x.2<y.2∨(x.2=y.2∧cnt qs x≤cnt qs y)))
 rcases h with h | ⟨h1,h2⟩
 ·exact .inl h
 ·refine .inr ⟨h1,?_⟩
  rcases Int.lt_or_eq_of_le h2 with h3 | h3
  ·exact .inl h3
  ·exact .inr ⟨h3,by rw[zN h1 h3];exact y9 _⟩
section
variable{K:W.Frag}{S a:Addr}{ns:List Int}{H H':Hp}
theorem wg(h:Pn K S ns H a):∀{xs:List V}{ts:List Th},DVs H xs (ts.map Th.D)→DVs (aw a H) xs (ts.map Th.D):=by
 intro xs
 induction xs with
 |nil=>
  intro ts d;cases ts with
  |nil=>exact .nil
  |cons t ts=>obtain⟨_,_,e,_⟩:=DVs.cons_inv d;cases e
 |cons z zs ih2=>
  intro ts d;cases ts with
  |nil=>have:=d.nil_inv;cases this
  |cons t ts=>
   obtain⟨z',zr,e,d4,d5⟩:=DVs.cons_inv d;cases e;refine .cons ?_ (ih2 d5);obtain⟨c,cs,rfl,ec,d6⟩:=DV.tup_inv d4;refine .tup (h.tup ec) ?_;obtain⟨_,_,rfl,k1,d6⟩:=d6.cons_inv;obtain⟨_,_,rfl,k2,d6⟩:=d6.cons_inv;obtain⟨_,_,rfl,k3,d6⟩:=d6.cons_inv;obtain⟨_,_,rfl,k4,d6⟩:=d6.cons_inv;have:=d6.nil_inv;subst this;cases k1;cases k2;cases k3;cases k4;exact .cons (.int _) (.cons (.str _) (.cons (.int _) (.cons (.int _) .nil)))
theorem dJ(h:Pn K S ns H a){r:Addr}{ts:List Th}(ne:r≠a)(d:DV H (.ref r) (aX ts)):DV (aw a H) (.ref r) (aX ts):=by
 obtain⟨_,xs,e0,e,q⟩:=DV.list_inv d;cases e0;exact .lst (by rw[Zj ne];exact e) (wg h q)
theorem vT(h:Pn K S ns H a){q:Addr}{BE or total:Int}{ps:Sps}(l:LadAt H q BE or total ps):LadAt (aw a H) q BE or total ps:=let ⟨c,as,e1,e2,r⟩:=l.at_;⟨c,as,h.tup e1,h.tup e2,Paired.mapP r fun _ _ ⟨y,f1,f2⟩=>⟨y,h.tup f1,h.tup f2⟩⟩
end
structure Tx30(K:W.Frag)(S a d q lo hi:Addr)(ns:List Int)(BE or:Int)(qs:Sps)(H:Hp):Prop where
 pn:Pn K S ns H a
 ed:aw a H d=some (.dT (ad qs))
 lad:LadAt (aw a H) q BE or (ah (au qs)) (au qs)
 low:DV (aw a H) (.ref lo) (aX (aG (aC (au qs))))
 high:DV (aw a H) (.ref hi) (aX (aG (ak (au qs))))
section
variable{K:W.Frag}{S a d q lo hi:Addr}{ns:List Int}{BE or:Int}{qs:Sps}{H H':Hp}
theorem Tx30.step(h:Tx30 K S a d q lo hi ns BE or qs H)(hp:Pn K S ns H' a)(g:Grw a H H'):Tx30 K S a d q lo hi ns BE or qs H':=⟨hp,g _ _ h.ed,h.lad.mono g,h.low.mono g,h.high.mono g⟩
theorem Tx30.same(h:Tx30 K S a d q lo hi ns BE or qs H)(g:Same H H'):Tx30 K S a d q lo hi ns BE or qs H':=h.step (h.pn.same g) (h.pn.grw g)
end
theorem rm(qs:Sps):ah (au qs)=ah qs:=Vc ((Y5 qs).map _)
theorem v7(av:mg "range"=none)(aj:mg "sorted"=none)(qG:Has P w K mg base "_law_pen" 1 ["_law_script"] (uw K))(lu:Has P w K mg base "_law_sizes" 2 ["_law_pen_here"] (jE K))(iD:Has P w K mg base "_law_counts" 3 ["_law_pen_here","_law_deep","_law_most"] (fj K))(mY:Has P w K mg base "_law_tree" 4 ["_law_pen_here","_law_deep","_law_most"] (xR K))(af:Has P w K mg base "_law_take" 1 ["_law_pen_here","_law_most"] (bL K))(bX:Has P w K mg base "_law_grown" (2+8) ["_law_room","_law_deep","_law_tree_here"] (jI 8))(ip:Has P w K mg base "_law_ladder" 1 ["_law_now","_law_room","_law_deep"] ue)(bz:Has P w K mg base "_law_first" 1 ["_law_stretch"] rq)(dD:Has P w K mg base "_law_last" 2 ["_law_stretch"] wj)(fK:Has P w K mg base "lowest" 4 ["ladder"] (j_ aC))(dG:Has P w K mg base "highest" 4 ["ladder"] (j_ ak))(cQ:Has P w K mg base "_law_is_told" 1 ["_law_found","_law_due"] tZ)(dP:Has P w K mg base "_law_is_dealt" 3 ["_law_stream_here","_law_now","_law_deep"] uu)(uZ:Has P w K mg base "fits" 7 ["stream","ladder"] oY)(gM:Has P w K mg base "_law_are_met" 5 ["_law_pen_here","_law_ladder_here","_law_low","_law_high"] (t8 K))(F:Fun K "law" "law" cx f fd):FnOk P w K mg base CX0 11 f fd ["_law_script"] (jA K):=by
 refine F.ok Xs (fun vs H Q E h=>?_) (fun cdv A outer s H vs Q E hr h=>?_)
 ·obtain⟨S,ns,rfl,_⟩:=h;rfl
 obtain⟨S,ns,rfl,hS,h63,hq⟩:=h;refine⟨_,(Z2 (Y0 1 Xs.nd rfl (Or.inl rfl) (Z6 qG hr (Z0 (pv 0) Z1))) Ze),?_⟩;refine⟨_,rfl,S,ns,rfl,hS,h63,fun a H1 n_a g1 hp=>?_⟩;clear hS g1 n_a;refine⟨_,(Z2 (Yr zl rfl (Xh rfl av (Z0 Z4 Z1)) (Z8 (i:=2) Xs.nd rfl (Or.inl rfl))
 (Z2 (V2 (Z6 lu hr (Z0 (pv 1) Z1)) (u7 rfl (Z9 (Z8 (i:=3) Xs.nd rfl (Or.inl rfl)) (Z9 (Z8 (i:=4) Xs.nd rfl (Or.inl rfl)) Y1))))
 (Z2 (@Sc _ _ 5 _ _ _ _ Xs.nd rfl (Or.inr rfl) (Z6 iD hr (Z0 (pv 1) (Z0 (pv 4) (Z0 Z4 Z1)))) (by rfl) (by first | exact .inl rfl | exact .inr rfl))
 (Z2 (Yu (Zn Tv (Z6 af hr (Z0 (pv 1) (Z0 Z4 Z1))) Z4 (Zm _)) (Z7 (@Sc _ _ 5 _ _ _ _ Xs.nd rfl (Or.inr rfl) (Z6 bX hr (Z0 (pv 3) (Z0 (pv 4) (Z0 (Z6 mY hr (Z0 (pv 1) (Z0 (pv 4) (Z0 Z4 Z1)))) Z1)))) (by rfl) (by first | exact .inl rfl | exact .inr rfl))) Zw)
 (Z2 (Y0 6 Xs.nd rfl (Or.inl rfl) (Z6 ip hr (Z0 (pv 5) (Z0 (pv 3) (Z0 (pv 4) Z1)))))
 (Z2 (Vo (i:=7) Xs.nd rfl rfl (own:=["_law_stretch"]) (Wf rfl rfl) (Zq (Zg (Wx rfl hr.units) rfl aj zK (Z0 (pv 5) Z1)))
  (fun _ _ _ _ _=>(Z8 (i:=0) Pg rfl (Or.inl rfl) (Or.inr rfl))) (fun _ _ _ _ _=>Yp)
  (fun _ _ _ _ _=>(Zu (Z0 Z4 (Z0 Vq (Z0 (Z6 bz hr (Z0 (pv 0) Z1)) (Z0 (Wa (X3 hr) (pv 6) (pv 0) (fun _ _=>rfl)) Z1)))))))
 (Z2 (Vo (i:=8) Xs.nd rfl rfl (own:=["_law_stretch"]) (Wf rfl rfl) (Zq (Zg (Wx rfl hr.units) rfl aj zK (Z0 (pv 5) Z1)))
  (fun _ _ _ _ _=>(Z8 (i:=0) Pf rfl (Or.inl rfl) (Or.inr rfl))) (fun _ _ _ _ _=>Yp)
  (fun _ _ _ _ _=>(Zu (Z0 Z4 (Z0 Vq (Z0 (Z6 dD hr (Z0 (pv 0) Z1)) (Z0 (Wa (X3 hr) (pv 6) (pv 0) (fun _ _=>rfl)) Z1)))))))
 (Z2 (Y0 9 Xs.nd rfl (Or.inl rfl) (Z6 fK hr (Z0 (pv 6) Z1)))
 (Z2 (Y0 10 Xs.nd rfl (Or.inl rfl) (Z6 dG hr (Z0 (pv 6) Z1)))
 (Z2 (Yu (PW.pt (U0 (V1 (Xw (Z6 cQ hr (Z0 (pv 9) (Z0 (pv 7) Z1))))) (V0 (V1 (Xw (Z6 cQ hr (Z0 (pv 10) (Z0 (pv 8) Z1)))))))) (Z7 (Zd W5)) Zw)
 (Z2 (Xz (O4 A4 PySem.F.slot_list_append PySem.F.type_list_append Sh (pv 9) (Z0 (Zu (Z0 Z4 (Z0 Vq (Z0 Z4 (Z0 Z4 Z1))))) Z1)))
 (Z2 (Xz (O4 A4 PySem.F.slot_list_append PySem.F.type_list_append Sh (pv 10) (Z0 (Zu (Z0 Z4 (Z0 Vq (Z0 Z4 (Z0 Z4 Z1))))) Z1)))
 (Z2 (Yu (PW.pt (U0 (Zn (Ua hr.units) (Z6 fK hr (Z0 (pv 6) Z1)) (pv 7) (Zm _)) (U0 (Zn (Ua hr.units) (Z6 dG hr (Z0 (pv 6) Z1)) (pv 8) (Zm _)) (V0 (V1 (Xw (Z6 gM hr (Z0 (pv 1) (Z0 (pv 6) (Z0 (pv 7) (Z0 (pv 8) Z1))))))))))) (Z7 (Zd W5)) Zw)
 (Z7 (Yr zl rfl (Zq (X2 (Z0 (pv 7) (Z0 (pv 8) Z1)))) (Z8 (i:=11) Xs.nd rfl (Or.inl rfl))
 (Z7 (Yu (PW.pt (U0 (V1 (Xw (Z6 dP hr (Z0 (pv 11) (Z0 (pv 5) (Z0 (pv 4) Z1)))))) (V0 (Zn sP (Z6 uZ hr (Z0 (pv 11) (Z0 (pv 6) Z1))) W5 (Zm _))))) (Z7 (Zd W5)) Zw))))))))))))))))) Ze),?_⟩
 refine⟨3,rfl,leI rfl,ltI rfl,?_⟩;refine Xe (lo:=0) (n:=3) (fun i σ H'=>∃(o2 o3 o4 o5 o6 o7 o8 o9 o10 o11:Option V),σ=[some (.ref S),some (.ref a),o2,o3,o4,o5,o6,o7,o8,o9,o10,o11]∧Pn K S ns H' a) ⟨_,_,_,_,_,_,_,_,_,_,rfl,hp⟩ ?_ ?_
 ·clear hp;rintro i σ H2 N B R hN hR hi ⟨o2,o3,o4,o5,o6,o7,o8,o9,o10,o11,rfl,hp⟩;refine⟨_,rfl,a,S,ns,rfl,hp,fun l BE or H3 BN r0 r1 d0 d1 hp g=>⟨l,_,rfl,V4 BN,rfl,_,_,rfl,_,_,rfl,rfl,?_⟩⟩;clear BN g;refine⟨_,rfl,_,rfl,a,S,ns,or,14,rfl,hp,d0,d1,by decide,by decide,fun c0 H4 ps0 _ e_0 po0 pl0 hp g=>?_⟩;clear g;dsimp only;refine V9 (fun σ' H'=>∃(d:Addr)(qs:Sps),σ'=[some (.ref S),some (.ref a),some (.int (0+(i:Int))),some (.int BE),some (.int or),some (.ref d),o6,o7,o8,o9,o10,o11]∧Pn K S ns H' a∧aw a H' d=some (.dT (ad qs))∧Pok or qs∧qs.length≤60) ?_ ?_
  ·intro nx hnx;refine⟨_,rfl,a,S,ns,2,rfl,hp,Vp rfl,ltI rfl,fun z H5 _ _ hp g=>⟨rfl,_,rfl,Wp (fun _=>?_) (fun _=>?_)⟩⟩
   ·refine⟨_,rfl,_,rfl,_,rfl,_,rfl,a,S,ns,or,4,rfl,hp,d0,d1,by decide,by decide,fun v t H6 tk tsz tal k_v hp g6=>?_⟩;have hht:=qt t;have tw:∀s∈t.streams,∀x∈s,ThL or x:=fun s hs x hx=>(tk s hs x hx).1;refine⟨v,BE,or,t,rfl,k_v.mono Zv,by omega,tw,by omega,r0,r1,by omega,by omega,fun d qs H7 g7 n_d e_d pm=>?_⟩;obtain⟨ok,_,len⟩:=Qw (BE:=BE) (by omega) tw;have da:=hp.ne n_d;refine hnx _ _ ⟨d,qs,rfl,hp.same g7,by rw[Zj da];exact e_d,ok.pok.perm pm,?_⟩;rw[pm.length_eq];omega
   ·exact hnx _ _ ⟨c0,ps0,rfl,hp,g _ _ e_0,po0,pl0⟩
  clear hp e_0 po0 pl0;rintro σ' H5 ⟨d,qs,rfl,hp,e_d,po,pl⟩;have nd:=po.kok.nd;have sp:=Y5 qs;have po2:Pok or (au qs):=po.perm sp;have sl:(au qs).length=qs.length:=sp.length_eq;have st:=Kok.sts po2.kok d1;have er:=sH nd;refine⟨_,rfl,_,rfl,_,rfl,d,BE,or,qs,rfl,(Za e_d).2,by omega,fun q H6 g BO=>?_⟩;have e_d:=hp.grw g _ _ e_d;have hp:=hp.same g;have BO:=vT hp BO;rw[←rm]at BO;clear g;have kok:=po.kok;have k20:∀k∈bm (qs.map (·.1)),0≤k.1∧k.1≤20∧k∈qs.map (·.1):=fun k hk=>by
   have km:=(X0 _).mem_iff.mp hk;obtain⟨x1,x2,_⟩:=kok.st k km;exact⟨x1,by omega,km⟩
  have sl2:(bm (qs.map (·.1))).length=qs.length:=by rw[(X0 _).length_eq,pi]
  refine⟨_,rfl,d,qs,rfl,(Za e_d).2,by omega,fun bs ka L n_l=>?_⟩;have ka:=ka.mono fun b xs e=>Z5 n_l (.lst (bs.map V.ref)) b _ e;have BN:(upd H6 L (.lst (bs.map V.ref))) L=some (.lst (bs.map V.ref)):=Z3;have gz:=hp.grw (Z5 n_l (.lst (bs.map V.ref)));have hp:=hp.laid n_l (o:=.lst (bs.map V.ref));have e_d:=gz _ _ e_d;have BO:=BO.mono gz;generalize upd H6 L (.lst (bs.map V.ref))=H7 at ka BN hp e_d BO gz⊢;clear gz;have bl:=yK ka;refine⟨L,rfl,⟨_,SqL.of BN⟩,?_⟩;refine Y6 (xs:=bs.map V.ref) (fun i ys H'=>Same H7 H'∧TsAt H' ys (((bm (qs.map (·.1))).take i).map fun k=>⟨0,"a",aq k,cnt qs k⟩)) ⟨Same.refl _,.nil⟩ (fun i ys H' _ h=>SqL.of (h.1 _ _ BN)) ?_ ?_
  ·rintro j x ys H' C hx ⟨g,ta⟩ hC;rw[yL]at hx;obtain⟨b,hb,rfl⟩:=y8.mp hx;obtain⟨k,hk,BJ⟩:=jp ka hb;obtain⟨k0,k1,km⟩:=k20 k (yW hk);have jl:=(yI.mp hk).1;have yl:=yK ta;rw[pi,yX]at yl;have BJ:KAt H' b k:=g _ _ BJ;refine⟨Zh (by omega),Wk.refl _,_,rfl,b,k,rfl,BJ,k0,k1,_,rfl,_,rfl,d,_,rfl,(by rw[←W6 km];exact X9 (g _ _ (Za e_d).2) BJ),leN rfl,fun u n_u=>hC _ _ ⟨g.trans (Z5 n_u _),?_⟩⟩;rw[Zo hk,yR];exact Paired.snoc (ta.tup fun c ys e=>Z5 n_u _ _ _ e) ⟨u,rfl,Z3⟩
  rintro ys H8 ⟨g,ta⟩;have gz:=hp.grw g;have hp:=hp.same g;have e_d:=gz _ _ e_d;have BO:=BO.mono gz;clear gz;have el:(bs.map V.ref).length=(bm (qs.map (·.1))).length:=by rw[pi];exact bl
  rw[el,yV]at ta;have yl:=yK ta;rw[pi]at yl;refine⟨Zf (by omega),fun lo n_o=>?_⟩;have oa:=hp.ne n_o;have gz:=hp.grw (Z5 n_o (.lst ys));have hp:=hp.laid n_o (o:=.lst ys);have e_d:=gz _ _ e_d;have BO:=BO.mono gz;have k_lo:DV (aw a (upd H8 lo (.lst ys))) (.ref lo) (aX (aG (aC (au qs)))):=by
   have e:aG (aC (au qs))=(bm (qs.map (·.1))).map fun k=>⟨0,"a",aq k,cnt qs k⟩:=by
    rw[←er];unfold bY aG aC;rw[BC,yQ,yQ];rfl
   rw[e];exact dJ hp oa (.lst Z3 (ta.tup fun c ys e=>Z5 n_o _ _ _ e).dvs)
  generalize upd H8 lo (.lst ys)=H9 at hp e_d BO k_lo gz⊢;clear gz ta g ka BN yl el bl;refine⟨_,rfl,d,qs,rfl,(Za e_d).2,by omega,fun bs ka L n_l=>?_⟩;have ka:=ka.mono fun b xs e=>Z5 n_l (.lst (bs.map V.ref)) b _ e;have BN:(upd H9 L (.lst (bs.map V.ref))) L=some (.lst (bs.map V.ref)):=Z3;have gz:=hp.grw (Z5 n_l (.lst (bs.map V.ref)));have hp:=hp.laid n_l (o:=.lst (bs.map V.ref));have e_d:=gz _ _ e_d;have BO:=BO.mono gz;have k_lo:=k_lo.mono gz;generalize upd H9 L (.lst (bs.map V.ref))=H10 at ka BN hp e_d BO gz k_lo⊢;clear gz;have bl:=yK ka;refine⟨L,rfl,⟨_,SqL.of BN⟩,?_⟩;refine Y6 (xs:=bs.map V.ref) (fun i ys H'=>Same H10 H'∧TsAt H' ys (((bm (qs.map (·.1))).take i).map fun k=>⟨0,"a",am k,cnt qs k⟩)) ⟨Same.refl _,.nil⟩ (fun i ys H' _ h=>SqL.of (h.1 _ _ BN)) ?_ ?_
  ·rintro j x ys H' C hx ⟨g,ta⟩ hC;rw[yL]at hx;obtain⟨b,hb,rfl⟩:=y8.mp hx;obtain⟨k,hk,BJ⟩:=jp ka hb;obtain⟨k0,k1,km⟩:=k20 k (yW hk);have jl:=(yI.mp hk).1;have yl:=yK ta;rw[pi,yX]at yl;have BJ:KAt H' b k:=g _ _ BJ;refine⟨Zh (by omega),Wk.refl _,_,rfl,b,k,rfl,BJ,k0,k1,fun Hc gc=>⟨_,rfl,_,rfl,d,_,rfl,(by rw[←W6 km];exact X9 (gc _ _ (g _ _ (Za e_d).2)) (gc _ _ BJ)),leN rfl,fun u n_u=>hC _ _ ⟨(g.trans gc).trans (Z5 n_u _),?_⟩⟩⟩;have ta:=ta.tup fun c ys e=>gc _ _ e;rw[Zo hk,yR];exact Paired.snoc (ta.tup fun c ys e=>Z5 n_u _ _ _ e) ⟨u,rfl,Z3⟩
  rintro ys H11 ⟨g,ta⟩;have gz:=hp.grw g;have hp:=hp.same g;have e_d:=gz _ _ e_d;have BO:=BO.mono gz;have k_lo:=k_lo.mono gz;clear gz;have el:(bs.map V.ref).length=(bm (qs.map (·.1))).length:=by rw[pi];exact bl
  rw[el,yV]at ta;have yl:=yK ta;rw[pi]at yl;refine⟨Zf (by omega),fun hi n_o=>?_⟩;have oa:=hp.ne n_o;have gz:=hp.grw (Z5 n_o (.lst ys));have hp:=hp.laid n_o (o:=.lst ys);have e_d:=gz _ _ e_d;have BO:=BO.mono gz;have k_lo:=k_lo.mono gz;have k_hi:DV (aw a (upd H11 hi (.lst ys))) (.ref hi) (aX (aG (ak (au qs)))):=by
   have e:aG (ak (au qs))=(bm (qs.map (·.1))).map fun k=>⟨0,"a",am k,cnt qs k⟩:=by
    rw[←er];unfold bY aG ak;rw[BC,yQ,yQ];rfl
   rw[e];exact dJ hp oa (.lst Z3 (ta.tup fun c ys e=>Z5 n_o _ _ _ e).dvs)
  generalize upd H11 hi (.lst ys)=H12 at hp e_d BO k_hi gz k_lo⊢;clear gz ta g ka BN yl el bl;have tx:Tx30 K S a d q lo hi ns BE or qs H12:=⟨hp,e_d,BO,k_lo,k_hi⟩;have inL:∀p∈au qs,aq p.1≤aq p.1∧aq p.1≤am p.1:=fun p _=>⟨y9 _,by have:=eF p.1;have:=Ys p.1.1.toNat;omega⟩;have inH:∀p∈au qs,aq p.1≤am p.1∧am p.1≤am p.1:=fun p _=>⟨by have:=eF p.1;have:=Ys p.1.1.toNat;omega,y9 _⟩;have okL:∀x∈aG (aC (au qs)),ThK or x:=qC (f:=aq) po2 inL;have okH:∀x∈aG (ak (au qs)),ThK or x:=qC (f:=am) po2 inH;have dmL:Dom (au qs) (aG (aC (au qs))):=qy (f:=aq) po2 inL;have dmH:Dom (au qs) (aG (ak (au qs))):=qy (f:=am) po2 inH;have tlL:(aG (aC (au qs))).length≤60:=by rw[Tk,eu,sl];exact pl
  have tlH:(aG (ak (au qs))).length≤60:=by rw[Tk,Qv,sl];exact pl
  clear hp e_d BO k_lo k_hi er sl2 k20;refine⟨_,rfl,q,BE,or,_,_,rfl,tx.lad.mono Zv,st,by omega,fun so H13 tH g13 k_so=>?_⟩;have soa:=tx.pn.ne tH;have ty:=tx.same g13;have k_so:=dJ ty.pn soa k_so;refine⟨_,rfl,q,BE,or,_,_,rfl,ty.lad.mono Zv,st,by omega,fun mo H14 gO g14 k_mo=>?_⟩;have moa:=ty.pn.ne gO;have mso:mo≠so:=fun z=>by
   obtain⟨_,xs,e0,e,_⟩:=DV.list_inv k_so;cases e0;rw[←z]at e;rw[(Za e).2]at gO;cases gO
  have k_so:=k_so.mono (ty.pn.grw g14);have ty:=ty.same g14;have k_mo:=dJ ty.pn moa k_mo;have gO:H12 mo=none:=g13.free gO;have gg:Grw a H12 H14:=(tx.pn.grw g13).trans ((tx.pn.same g13).grw g14);clear g13 g14;refine⟨_,rfl,_,rfl,so,lo,or,_,rfl,k_so.mono Zv,ty.low.mono Zv,okL,by omega,fun H15 g15=>⟨_,rfl,Yz ?_⟩⟩;have gg:=gg.trans (ty.pn.grw g15);have k_so:=k_so.mono (ty.pn.grw g15);have k_mo:=k_mo.mono (ty.pn.grw g15);have ty:=ty.same g15;refine⟨_,rfl,_,rfl,mo,hi,or,_,rfl,k_mo.mono Zv,ty.high.mono Zv,okH,by omega,fun H16 g16=>⟨_,rfl,Yz ?_⟩⟩;have gg:=gg.trans (ty.pn.grw g16);have k_so:=k_so.mono (ty.pn.grw g16);have k_mo:=k_mo.mono (ty.pn.grw g16);have hp:=ty.pn.same g16;clear ty g15 g16;obtain⟨_,ss,e0,lj,ds⟩:=DV.list_inv k_so;cases e0;have ls:=ds.length;obtain⟨_,ms,e0,cW,dm⟩:=DV.list_inv k_mo;cases e0;have lm:=dm.length;rw[pi]at ls lm;clear ds dm k_so k_mo;refine⟨_,rfl,.inl ⟨rfl,_,V4 lj⟩,leN rfl,fun u n_u=>⟨so,ss,_,rfl,rfl,?_⟩⟩;have gz:=hp.grw (Z5 n_u (.tup [.int 0,.str "a",.int 0,.int 1]));have hp:=hp.laid n_u (o:=.tup [.int 0,.str "a",.int 0,.int 1]);have gg:=gg.trans gz;have lj:=gz _ _ lj;have cW:=gz _ _ cW;generalize upd H16 u (.tup [.int 0,.str "a",.int 0,.int 1])=H17 at gz hp gg lj cW⊢;clear gz;refine⟨(Za lj).2,Zh (by omega),?_⟩;have hp:=ei (o:=.lst (ss++[.ref u])) tx.pn tH hp soa;have gg:=Rj (o:=.lst (ss++[.ref u])) gg (show aw a H12 so=none by rw[Zj soa];exact tH);have cW:aw a (upd H17 so (.lst (ss++[.ref u]))) mo=some (.lst ms):=by
   rw[Zj moa,Zc mso];exact(Za cW).2
  generalize upd H17 so (.lst (ss++[.ref u]))=H18 at hp gg cW⊢;clear lj n_u;refine⟨_,rfl,.inl ⟨rfl,_,V4 cW⟩,leN rfl,fun u n_u=>⟨mo,ms,_,rfl,rfl,?_⟩⟩;have gz:=hp.grw (Z5 n_u (.tup [.int 0,.str "a",.int 0,.int 1]));have hp:=hp.laid n_u (o:=.tup [.int 0,.str "a",.int 0,.int 1]);have gg:=gg.trans gz;have cW:=gz _ _ cW;generalize upd H18 u (.tup [.int 0,.str "a",.int 0,.int 1])=H19 at gz hp gg cW⊢;clear gz;refine⟨(Za cW).2,Zh (by omega),?_⟩;have hp:=ei (o:=.lst (ms++[.ref u])) tx.pn gO hp moa;have gg:=Rj (o:=.lst (ms++[.ref u])) gg (show aw a H12 mo=none by rw[Zj moa];exact gO);generalize upd H19 mo (.lst (ms++[.ref u]))=H20 at hp gg⊢;have tz:=tx.step hp gg;clear tx hp gg cW n_u tH gO soa moa mso ls lm;refine⟨_,rfl,q,BE,or,_,_,rfl,tz.lad.mono Zv,st,by omega,fun r3 H21 _ g21 k_3=>?_⟩;have tz:=tz.same g21;refine⟨_,rfl,_,_,k_3,tz.low.mono Zv,Y3 (W3 okL) (by decide),Y3 (W3 okL) (by decide),_,rfl,?_⟩;rw[Vf (W3 okL)];refine Yz ?_;refine⟨_,rfl,q,BE,or,_,_,rfl,tz.lad.mono Zv,st,by omega,fun r4 H22 _ g22 k_4=>?_⟩;have tz:=tz.same g22;refine⟨_,rfl,_,_,k_4,tz.high.mono Zv,Y3 (W3 okH) (by decide),Y3 (W3 okH) (by decide),_,rfl,?_⟩;rw[Vf (W3 okH)];refine Yz ?_;refine⟨_,rfl,_,rfl,_,rfl,_,rfl,a,S,q,lo,hi,ns,BE,or,au qs,rfl,⟨tz.pn,tz.lad.mono Zv,tz.low,tz.high,Same.refl _⟩,st,po2.pos,qr po2,fun p hp=>?_,fun p hp=>?_,d0,d1,by omega,fun H23 hp g23=>⟨_,rfl,Yz ?_⟩⟩
  ·have h:=(okL _ (yz.mpr ⟨p,hp,rfl⟩)).1;exact⟨h.1,h.2.1⟩
  ·have h:=(okH _ (yz.mpr ⟨p,hp,rfl⟩)).1;exact⟨h.1,h.2.1⟩
  have tz:=tz.step hp g23;clear hp g23 g21 g22 k_3 k_4;refine⟨_,rfl,_,rfl,leN rfl,fun M n_M=>?_⟩;have Ma:=tz.pn.ne n_M;have tz:=tz.same (Z5 n_M (.lst [.ref lo,.ref hi]));have e_M:aw a (upd H23 M (.lst [.ref lo,.ref hi])) M=some (.lst [.ref lo,.ref hi]):=by rw[Zj Ma];exact Z3
  generalize upd H23 M (.lst [.ref lo,.ref hi])=H24 at tz e_M⊢;refine⟨M,rfl,⟨_,V4 e_M⟩,?_⟩;refine Yi (xs:=[.ref lo,.ref hi]) (fun j σ H'=>∃(o7 o8 o9 o10 o11:Option V),σ=[some (.ref S),some (.ref a),some (.int (0+(i:Int))),some (.int BE),some (.int or),some (.ref d),some (.ref q),o7,o8,o9,o10,o11]∧Tx30 K S a d q lo hi ns BE or qs H'∧aw a H' M=some (.lst [.ref lo,.ref hi])) ⟨_,_,_,_,_,rfl,tz,e_M⟩ ?_ ?_ ?_
  ·rintro j σ H' _ ⟨_,_,_,_,_,_,_,e⟩;exact V4 e
  ·clear tz e_M;rintro j x σ H25 N2 B2 R2 hN2 hR2 hx ⟨o7,o8,o9,o10,o11,rfl,tz,e_M⟩;obtain⟨r,ts,rfl,k_r,ok,dm,tl⟩:∃(r:Addr)(ts:List Th),x=.ref r∧DV (aw a H25) (.ref r) (aX ts)∧(∀t∈ts,ThK or t)∧Dom (au qs) ts∧ts.length≤60:=by
    rcases j with _ | _ | j
    ·cases hx;exact⟨lo,_,rfl,tz.low,okL,dmL,tlL⟩
    ·cases hx;exact⟨hi,_,rfl,tz.high,okH,dmH,tlH⟩
    ·cases hx
   have can:=jW dm;refine⟨_,rfl,_,rfl,_,rfl,r,d,or,ts,qs,rfl,k_r.mono Zv,(Za tz.ed).2,nd,fun p hp=>?_,fun x hx=>?_,by omega,by omega,fun b H26 g26 hb=>?_⟩
   ·obtain⟨x1,x2,_⟩:=kok.st p.1 (yz.mpr ⟨p,hp,rfl⟩);have:=po.pos p hp;exact⟨x1,by omega,by omega⟩
   ·have:=(ok x hx).1.2.2;omega
   have eb:b=true:=hb.mpr ((gq sp).mp can);subst eb;clear hb;refine⟨_,rfl,Yz ?_⟩;have e_M:=tz.pn.grw g26 _ _ e_M;have k_r:=k_r.mono (tz.pn.grw g26);have tz:=tz.same g26;refine⟨_,rfl,_,rfl,r,q,ts,BE,or,au qs,rfl,k_r.mono Zv,by omega,tz.lad.mono Zv,po2,by omega,by omega,by omega,fun x hx=>⟨(ok x hx).1.1,(ok x hx).1.2.2⟩,fun b H27 g27 hb=>?_⟩;have eb:b=true:=hb.mpr ⟨fun x hx=>(ok x hx).1.2.1,can⟩;subst eb;clear hb;exact⟨_,rfl,rfl,_,rfl,Yz (hN2 _ _ ⟨_,_,_,_,_,rfl,tz.same g27,tz.pn.grw g27 _ _ e_M⟩)⟩
  ·rintro σ H25 ⟨o7,o8,o9,o10,o11,rfl,tz,_⟩;exact hN _ _ ⟨_,_,_,_,_,_,_,_,_,_,rfl,tz.pn⟩
 ·rintro σ H' ⟨o2,o3,o4,o5,o6,o7,o8,o9,o10,o11,rfl,_⟩;exact⟨_,(Z7 (Zd W5)),hq _⟩
end K30
namespace Hd
open PySem PySem.W
section
variable{α β:Type}
def fN(n:Nat)(k:Nat→α):α:=Nat.casesOn n (k 0) fun m=>k (Nat.succ m)
theorem T2(n:Nat)(k:Nat→α):fN n k=k n:=by cases n <;> rfl
def fV(v:Value)(k:Value→α):α:=match v with
 |.ref a=>fN a fun a=>k (.ref a)
 |.str s t=>fN t fun t=>k (.str s t)
 |.int i t=>fN t fun t=>k (.int i t)
 |v=>k v
theorem Sw(v:Value)(k:Value→α):fV v k=k v:=by cases v <;> simp only[fV,T2]
def fO(f:β→(β→α)→α)(o:Option β)(k:Option β→α):α:=match o with
 |none=>k none
 |some x=>f x fun x=>k (some x)
theorem kg{f:β→(β→α)→α}(hf:∀x k,f x k=k x)(o:Option β)(k:Option β→α):fO f o k=k o:=by cases o <;> simp only[fO,hf]
def fL(f:β→(β→α)→α)(l:List β):(List β→α)→α:=
 @List.rec β (fun _=>(List β→α)→α) (fun k=>k []) (fun x _ ih k=>f x fun x=>ih fun r=>k (x::r)) l
theorem uj{f:β→(β→α)→α}(hf:∀x k,f x k=k x)(l:List β):∀k:List β→α,fL f l k=k l:=by
 induction l with
 |nil=>intro k;rfl
 |cons x r ih=>
  intro k;show f x (fun x=>fL f r fun r=>k (x::r))=_;rw[hf,ih]
def fA(f:β→(β→α)→α)(l:Array β)(k:Array β→α):α:=match l with
 |⟨l⟩=>fL f l fun l=>k ⟨l⟩
theorem jz{f:β→(β→α)→α}(hf:∀x k,f x k=k x)(l:Array β)(k:Array β→α):fA f l k=k l:=by
 cases l;simp only[fA,uj hf]
def fE(e:DictEntry)(k:DictEntry→α):α:=match e with
 |⟨h,a,b⟩=>fV a fun a=>fV b fun b=>k ⟨h,a,b⟩
theorem xY(e:DictEntry)(k:DictEntry→α):fE e k=k e:=by cases e;simp only[fE,Sw]
def fF(e:FuncData)(k:FuncData→α):α:=match e with
 |⟨a,b,c,d,e,g,cl,df,kd,dc,pm,an,cd,ct,bl⟩=>fN g fun g=>fV df fun df=>fV kd fun kd=>fV dc fun dc=>fV pm fun pm=>fO fN an fun an=>fV cd fun cd=>fV ct fun ct=>fN bl fun bl=>k ⟨a,b,c,d,e,g,cl,df,kd,dc,pm,an,cd,ct,bl⟩
theorem xo(e:FuncData)(k:FuncData→α):fF e k=k e:=by cases e;simp only[fF,Sw,T2,kg T2]
def fC(e:ClassData)(k:ClassData→α):α:=match e with
 |⟨a,b,c,d,e,f,g,h,i,j,l⟩=>fL fV b fun b=>fL fV c fun c=>fN d fun d=>fL fV h fun h=>k ⟨a,b,c,d,e,f,g,h,i,j,l⟩
theorem ww(e:ClassData)(k:ClassData→α):fC e k=k e:=by cases e;simp only[fC,uj Sw,T2]
def fD(d:Data)(k:Data→α):α:=match d with
 |.seq xs n=>fA fV xs fun xs=>fN n fun n=>k (.seq xs n)
 |.dict xs n=>fA fE xs fun xs=>fN n fun n=>k (.dict xs n)
 |.fields xs=>fA fV xs fun xs=>k (.fields xs)
 |.cell v=>fO fV v fun v=>k (.cell v)
 |.prim v=>fV v fun v=>k (.prim v)
 |.func f=>fF f fun f=>k (.func f)
 |.cls f=>fC f fun f=>k (.cls f)
 |d=>k d
theorem wO(d:Data)(k:Data→α):fD d k=k d:=by cases d <;> simp only[fD,jz Sw,jz xY,T2,kg Sw,Sw,xo,ww]
def fJ(o:Obj)(k:Obj→α):α:=match o with
 |⟨c,d,x,s⟩=>fV c fun c=>fO fN d fun d=>fD x fun x=>fA (fO fV) s fun s=>k ⟨c,d,x,s⟩
theorem ux(o:Obj)(k:Obj→α):fJ o k=k o:=by cases o;simp only[fJ,Sw,kg T2,wO,jz (kg Sw)]
def fB(t:BT):(BT→α)→α:=
 @BT.rec (fun _=>(BT→α)→α) (fun k=>k .nil) (fun v _ _ il ir k=>fJ v fun v=>il fun l=>ir fun r=>k (.node v l r)) t
theorem xC(t:BT):∀k:BT→α,fB t k=k t:=by
 induction t with
 |nil=>intro k;rfl
 |node v l r il ir=>
  intro k;show fJ v (fun v=>fB l fun l=>fB r fun r=>k (.node v l r))=_;rw[ux,il,ir]
def fR(d:Drawn)(k:Drawn→α):α:=match d with
 |⟨a,b,c,d⟩=>fN a fun a=>fN b fun b=>fN c fun c=>fN d fun d=>k ⟨a,b,c,d⟩
theorem uA(d:Drawn)(k:Drawn→α):fR d k=k d:=by cases d;simp only[fR,T2]
def fS(s:SharedT)(k:SharedT→α):α:=match s with
 |⟨t,n,life,g,d,tk,os⟩=>fB t fun t=>fN n fun n=>fR d fun d=>fN tk fun tk=>k ⟨t,n,life,g,d,tk,os⟩
theorem uh(s:SharedT)(k:SharedT→α):fS s k=k s:=by cases s;simp only[fS,xC,T2,uA]
def fP(d:Pos)(k:Pos→α):α:=match d with
 |⟨a,b,c,d⟩=>fN a fun a=>fN b fun b=>fN c fun c=>fN d fun d=>k ⟨a,b,c,d⟩
theorem x6(d:Pos)(k:Pos→α):fP d k=k d:=by cases d;simp only[fP,T2]
def fH(s:Shared)(k:Shared→α):α:=match s with
 |⟨⟨l,life⟩,g,d,tk,os⟩=>fA fJ l fun l=>fR d fun d=>fN tk fun tk=>k ⟨⟨l,life⟩,g,d,tk,os⟩
theorem wQ(s:Shared)(k:Shared→α):fH s k=k s:=by obtain⟨⟨l,life⟩,g,d,tk,os⟩:=s;simp only[fH,jz ux,T2,uA]
end
section
variable{α:Type}
def hd(tb:String→Option Builtin)(p:Program)(w:World)(m:Nat)(ann:Option Value)(env:Env)(q:Pos)(F:Nat)(fin:SharedT→Code→Pos→Option α)(l:List Stmt):SharedT→Code→Pos→Option α:=
 @List.rec Stmt (fun _=>SharedT→Code→Pos→Option α) fin (fun st _ ih s c pos=>match segRunT tb p w m ann 1 F s (pieceOf st env c pos [topFrame q]) with
  |some (.next,s',c',p')=>fS s' fun s'=>fP p' fun p'=>ih s' c' p'
  |_=>none) l
theorem rA{tb:String→Option Builtin}{p:Program}{w:World}{m:Nat}{ann:Option Value}{env:Env}{q:Pos}{F:Nat}{fin:SharedT→Code→Pos→Option α}{st:Stmt}{l:List Stmt}{s:SharedT}{c:Code}{pos:Pos}{r:α}(h:hd tb p w m ann env q F fin (st::l) s c pos=some r):∃s' c' p',segRunT tb p w m ann 1 F s (pieceOf st env c pos [topFrame q])=some (.next,s',c',p')∧hd tb p w m ann env q F fin l s' c' p'=some r:=by
 have h:(match segRunT tb p w m ann 1 F s (pieceOf st env c pos [topFrame q]) with
  |some (.next,s',c',p')=>fS s' fun s'=>fP p' fun p'=>hd tb p w m ann env q F fin l s' c' p'
  |_=>none)=some r:=h
 split at h
 ·rename_i s' c' p' e;rw[uh,x6]at h;exact⟨s',c',p',e,h⟩
 ·cases h
theorem uE{tb:String→Option Builtin}{p:Program}{w:World}{n₀:Nat}{ann:Option Value}{env:Env}{q:Pos}{n N:Nat}{s s' r:Shared}{st:Stmt}{rest:List Stmt}{c c':Code}{pos p':Pos}(h:segRun tb p w n₀ ann 1 n s (pieceOf st env c pos [topFrame q])=some (.next,s',c',p'))(k:topRun tb p w n₀ ann N s' (restOf rest env c' p' [topFrame q])=some r):topRun tb p w n₀ ann (n+N) s (restOf (st::rest) env c pos [topFrame q])=some r:=by
 obtain⟨a,ha,hN⟩:=seg_top (res:=id) (K':=fun f=>match f with | .next=>(execs rest env).wrap doneF (leaveH env) id id | f=>doneF f) (H':=leaveH env) (B:=[topFrame q]) rfl n s (pieceOf st env c pos [topFrame q])
  ⟨(exec st env).wrap (fun f=>match f with | .next=>(execs rest env).wrap doneF (leaveH env) id id | f=>doneF f) (leaveH env) id id,c,pos,[topFrame q]⟩ _ _ _ _ ⟨rfl,rfl,.inl ⟨rfl,rfl,_,rfl,rfl⟩⟩ h
 obtain rfl:a=.next:=ha;have:=hN N r k;unfold restOf;rw[execs_cons_wrap];exact this
theorem oZ{tb:String→Option Builtin}{p:Program}{w:World}{m:Nat}{ann:Option Value}{env:Env}{q:Pos}{F:Nat}{fin:SharedT→Code→Pos→Option α}{r:α}:∀(l:List Stmt)(s:SharedT)(c:Code)(pos:Pos),hd tb p w m ann env q F fin l s c pos=some r→
  ∃s' c' p',fin s' c' p'=some r∧∀N z,topRun tb p w m ann N s'.abs (restOf [] env c' p' [topFrame q])=some z→topRun tb p w m ann (l.length*F+N) s.abs (restOf l env c pos [topFrame q])=some z
 | [],s,c,pos,h=>⟨s,c,pos,h,fun N z hz=>by rw[zZ,Nat.zero_mul,BA];exact hz⟩
 |st::l,s,c,pos,h=>by
  obtain⟨s',c',p',e,h⟩:=rA h;obtain⟨s2,c2,p2,hf,hN⟩:=oZ l s' c' p' h;refine⟨s2,c2,p2,hf,fun N z hz=>?_⟩;have:=uE (segRun_of e) (hN N z hz);rw[zu,Nat.succ_mul,show l.length*F+F+N=F+(l.length*F+N) by omega];exact this
def wX{γ:Type}(tb:String→Option Builtin)(p:Program)(w:World)(m:Nat)(ann:Option Value)(env:Env)(q:Pos)(look:Shared→γ)(s:SharedT)(c:Code)(pos:Pos):Option γ:=
 match topRun tb p w m ann 50 s.abs (restOf [] env c pos [topFrame q]) with
 |some r=>fH r fun r=>some (look r)
 |none=>none
def ofL(l:List Obj):Nat→BT→BT:=@List.rec Obj (fun _=>Nat→BT→BT) (fun _ t=>t) (fun o _ ih i t=>ih (Nat.succ i) (t.ins i o)) l
def toT(s:Shared):SharedT:=match s with
 |⟨⟨⟨l⟩,life⟩,g,d,tk,os⟩=>⟨ofL l 0 .nil,l.length,life,g,d,tk,os⟩
def pre(p:Program)(w:World)(os:OsState):Option (Shared×Thread):=topGo treeTable p w 11 (some (.ref 6)) 12 ⟨boot_heap w.params,⟨[]⟩,boot_drawn,boot_toks,os⟩ (topStub p)
def zp:Pos:=⟨0,0,0,0⟩
def sM(p:Program):Env:={scope:=p.main.scope,locals:=mainNs,globals:=mainNs,cells:=[],code:=.ref 13,frame:=some 14}
def sa(p:Program)(w:World)(os:OsState):Shared:=match pre p w os with
 |some (s,_)=>s
 |none=>⟨{},#[],{},0,os⟩
def hc(p:Program):Code:=.body (behindTheImports p) (sM p)
def blk(p:Program)(w:World)(os:OsState):Option (Flow×Shared×Code×Pos):=segRun treeTable p w 11 (some (.ref 6)) 1 1 (sa p w os) (blockOf (behindTheImports p) (sM p) (hc p) zp [topFrame zp])
def chk{γ:Type}(p:Program)(look:Shared→γ)(w:World)(os:OsState):Option γ:=
 fS (toT (sa p w os)) fun s=>hd treeTable p w 11 (some (.ref 6)) (sM p) zp 600 (wX treeTable p w 11 (some (.ref 6)) (sM p) zp look) (behindTheImports p) s (hc p) zp
end
theorem rn{p q:Program}{loose:List Str}{Xt:Shared→Bool}{α:Type}{Yf:Shared→α}{Ya:World→α}(e:opening p=plainProg p.main.scope.names)(f:∀s,fenceModules? p s=some s)(hpre:∀(w:World) (os:OsState),pre p w os=some (sa p w os,⟨denote treeTable (hc p),hc p,zp,[topFrame zp]⟩))(hblk:∀(w:World) (os:OsState),blk p w os=some (.next,(toT (sa p w os)).abs,hc p,zp))(size:∀w:World,((boot_heap w.params).isNs mainGlobals && (Array.mk ([]:List GenState)).size==0,(boot_heap w.params).objs.size,(boot_heap w.params).nsMap mainGlobals "__annotations__")=(true,11,some (.ref 6)))(len:Nat.ble (behindTheImports p).length 1600=true)(hchk:∀(w:World) (os:OsState),chk p (fun s=>((staticsOk (importedModules p.main.body) (boot_heap w.params) s.heap && namesBound p s.heap && gensDone s && laidKept (boot_heap w.params) s.heap),openSeen q loose (importedModules p.main.body) Xt true s,Yf s)) w os=some (true,openGood q loose,Ya w)):
  LeftO p q loose Xt Yf Ya 1000000 true:=fun w=>by
 obtain⟨⟨h,gs,d,k,os⟩,e1,e'⟩:=y8.mp (boot_open (p:=p) (N:=1000000) e rfl f w);obtain⟨rfl,rfl,rfl,rfl⟩:h=boot_heap w.params∧gs=⟨[]⟩∧d=boot_drawn∧k=boot_toks:=by simpa using e'
 obtain⟨z1,z2,z3⟩:_∧_∧_:=by simpa only[Prod.mk.injEq] using size w
 have hc1:=hchk w os;unfold chk at hc1;rw[uh]at hc1;obtain⟨s2,c2,p2,hf,hN⟩:=oZ _ _ _ _ hc1;unfold wX at hf
 split at hf
 case h_2=>cases hf
 rename_i r hr;rw[wQ]at hf;obtain⟨l1,l2,l3⟩:_∧_∧_:=by simpa only[Option.some.injEq,Prod.mk.injEq] using hf
 have a1:=hN _ _ hr;have a2:=piece_block (hblk w os) a1;have a3:=go_top (hpre w os) a2;have le:12+(1+((behindTheImports p).length*600+50))≤1000000:=by
  have:=Nat.le_of_ble_eq_true len;omega
 have a4:=topRun_mono (1000000-(12+(1+((behindTheImports p).length*600+50)))) _ _ _ _ a3;rw[show 12+(1+((behindTheImports p).length*600+50))+(1000000-(12+(1+((behindTheImports p).length*600+50))))=1000000 by omega]at a4;have t:topFrom treeTable p w 1000000 ⟨boot_heap w.params,⟨[]⟩,boot_drawn,boot_toks,os⟩=some r:=by
  unfold topFrom;dsimp only;rw[z1,z2,z3,a4];show(match staticsOk (importedModules p.main.body) (boot_heap w.params) r.heap && namesBound p r.heap && gensDone r && laidKept (boot_heap w.params) r.heap with | true=>_ | false=>_)=_;rw[l1]
 unfold openEnds;rw[e1];show(topFrom treeTable p w 1000000 _).map _=_;rw[t];exact zW some (zN l2 l3)
def cF(p q:Program)(as:List Addr)(w:World)(os:OsState):=
 chk p (fun s=>((staticsOk (importedModules p.main.body) (boot_heap w.params) s.heap && namesBound p s.heap && gensDone s && laidKept (boot_heap w.params) s.heap),openSeen q [] (importedModules p.main.body) (fun s=>xlAt q [] s && recOk [] s) true s,as.map s.heap.get?)) w os
def cG(q:Program):=openGood q []
theorem cF_:@cF=@cF:=rfl
theorem cG_:@cG=@cG:=rfl
end Hd
def PySem.W.Fast.tw14598715356260435866:PySem.Params→PySem.Obj:=PySem.W.boot_o_0
theorem PySem.W.Fast.te14598715356260435866:PySem.W.boot_o_0=PySem.W.Fast.tw14598715356260435866:=rfl
lay_quick Hd.cF Hd.cG
name_quick cFQ for Hd.cF by Hd.cF_
name_quick cGQ for Hd.cG by Hd.cG_
namespace Hd
open PySem PySem.W
theorem hS(w:World):((boot_heap w.params).isNs mainGlobals && (Array.mk ([]:List GenState)).size==0,(boot_heap w.params).objs.size,(boot_heap w.params).nsMap mainGlobals "__annotations__")=(true,11,some (.ref 6)):=by kernel_rfl
theorem w5(p q:Program)(as:List Addr)(w:World)(os:OsState):cF p q as w os=W.Fast.cFQ p q as w os:=by rw[←W.Fast.cFQ_eq]
theorem xV(q:Program):openGood q []=W.Fast.cGQ q:=by rw[←W.Fast.cGQ_eq];rfl
theorem left{p q:Program}(e:opening p=plainProg p.main.scope.names)(f:∀s,fenceModules? p s=some s)(hpre:∀(w:World) (os:OsState),pre p w os=some (sa p w os,⟨denote treeTable (hc p),hc p,zp,[topFrame zp]⟩))(hblk:∀(w:World) (os:OsState),blk p w os=some (.next,(toT (sa p w os)).abs,hc p,zp))(len:Nat.ble (behindTheImports p).length 1600=true){K:Params→Frag}{as:List Addr}{ek:∀P,as=(K P).map (·.1)}(h:∀(w:World) (os:OsState),W.Fast.cFQ p q as w os=some (true,W.Fast.cGQ q,(K w.params).map fun p=>some p.2)):
  LeftO p q [] (fun s=>xlAt q [] s && recOk [] s) (Hook.obs (kHook K as ek)) (Hook.val (kHook K as ek)) 1000000 true:=
 rn e f hpre hblk hS len fun w os=>(w5 p q as w os).trans ((h w os).trans (by rw[xV];rfl))
end Hd
namespace L2
open PySem PyProof.Rows
structure Df(K:W.Frag)(mg:Str→Option Value)(x:Str)(st:Stmt):Prop where
 ex:∃(f:Addr)(fd:FuncData),Fun K x x st f fd∧mg x=some (.ref f)
section
variable{P:Program}{w:World}{K:W.Frag}{mg:Str→Option Value}{base h:Heap}{x:Str}{st:Stmt}{k:Nat}{ps:List Str}{sp:Sp}{p0 p1 p2 p3:Str}
theorem df_mk(X:K.In h)(G:h.Ns mainGlobals mg){f:Addr}{oc:Value}{od an:Option Addr}{osl:Array (Option Value)}{kV doc pm cdv ct:Value}(a:W.nsIn K mainGlobals x=some (some (.ref f)))(l:K.lookup f=some ⟨oc,od,.func (W.fnOf x x (aH st) (aE st) (aa st) .none kV doc pm an cdv ct),osl⟩)(c:W.codeIn K cdv x=true)(k:W.keepIn K (.ref f)=true):Df K mg x st:=⟨f,_,pA l c k,W.mg_of X G a⟩
theorem Df.has(d:Df K mg x st)(ok:∀{f:Addr} {fd:FuncData},Fun K x x st f fd→FnOk P w K mg base CX0 k f fd ps sp)(b:∀{f:Addr} {fd:FuncData},Fun K x x st f fd→Binds K fd ps []):Has P w K mg base x k ps sp:=let ⟨_,_,F,m⟩:=d.ex;Has.of (ok F) (b F) F.kp m
theorem Df.h1(d:Df K mg x st)(ok:∀{f:Addr} {fd:FuncData},Fun K x x st f fd→FnOk P w K mg base CX0 k f fd [p0] sp)(h:∀(kV doc pm:Value) (an:Option Addr) (cdv ct u0:Value),bindArgs (W.fnOf x x (aH st) (aE st) (aa st) .none kV doc pm an cdv ct) ⟨[u0],[]⟩=pure [(p0,u0)]):Has P w K mg base x k [p0] sp:=d.has ok fun F=>F.b1 h
theorem Df.h2(d:Df K mg x st)(ok:∀{f:Addr} {fd:FuncData},Fun K x x st f fd→FnOk P w K mg base CX0 k f fd [p0,p1] sp)(h:∀(kV doc pm:Value) (an:Option Addr) (cdv ct u0 u1:Value),bindArgs (W.fnOf x x (aH st) (aE st) (aa st) .none kV doc pm an cdv ct) ⟨[u0,u1],[]⟩=pure [(p0,u0),(p1,u1)]):Has P w K mg base x k [p0,p1] sp:=d.has ok fun F=>F.b2 h
theorem Df.h3(d:Df K mg x st)(ok:∀{f:Addr} {fd:FuncData},Fun K x x st f fd→FnOk P w K mg base CX0 k f fd [p0,p1,p2] sp)(h:∀(kV doc pm:Value) (an:Option Addr) (cdv ct u0 u1 u2:Value),bindArgs (W.fnOf x x (aH st) (aE st) (aa st) .none kV doc pm an cdv ct) ⟨[u0,u1,u2],[]⟩=pure [(p0,u0),(p1,u1),(p2,u2)]):Has P w K mg base x k [p0,p1,p2] sp:=d.has ok fun F=>F.b3 h
theorem Df.h4(d:Df K mg x st)(ok:∀{f:Addr} {fd:FuncData},Fun K x x st f fd→FnOk P w K mg base CX0 k f fd [p0,p1,p2,p3] sp)(h:∀(kV doc pm:Value) (an:Option Addr) (cdv ct u0 u1 u2 u3:Value),bindArgs (W.fnOf x x (aH st) (aE st) (aa st) .none kV doc pm an cdv ct) ⟨[u0,u1,u2,u3],[]⟩=pure [(p0,u0),(p1,u1),(p2,u2),(p3,u3)]):Has P w K mg base x k [p0,p1,p2,p3] sp:=d.has ok fun F=>F.b4 h
end
end L2
namespace K30
open PySem L2 Ld
theorem all_mk{l:W.OpenLaw}{w:World}{K:W.Frag}{h:Heap}{mg:Str→Option Value}{fa f45:Addr}(X:K.In h)(G:h.Ns mainGlobals mg)(hfa:mg "law"=some (.ref fa)){od45 an45:Option Addr}{sl45:Array (Option Value)}{oc45 kV45 dc45 pm45 cd45 ct45:Value}(d0:Df K mg "is_whole" cj)(d1:Df K mg "is_whole_from" a6)(d2:Df K mg "is_whole_within" aR)(d3:Df K mg "added_counts" bf)(d4:Df K mg "first_of" cr)(d5:Df K mg "last_of" cL)(d6:Df K mg "parent_of" bK)(d7:Df K mg "is_stretch" bD)(d8:Df K mg "fold_up" cM)(d9:Df K mg "things_in" bN)(d10:Df K mg "standing_of" bw)(d11:Df K mg "is_folded" bT)(d12:Df K mg "folds_towards" a7)(d13:Df K mg "paper_for" bI)(d14:Df K mg "lowest_places" a8)(d15:Df K mg "highest_places" aV)(d16:Df K mg "many_at_most" bg)(d17:Df K mg "sum_at" c6)(d18:Df K mg "number_of_place" aQ)(d19:Df K mg "at_most_in" bA)(d20:Df K mg "sum_in" dk)(d21:Df K mg "place_in" ck)(d22:Df K mg "fits" je)(d23:Df K mg "stream_at" bJ)(d24:Df K mg "lowest" du)(d25:Df K mg "highest" cJ)(d26:Df K mg "_law_pen" eV)(d27:Df K mg "_law_take" dq)(d28:Df K mg "_law_many" dy)(d29:Df K mg "_law_stream" b_)(d30:Df K mg "_law_tree" c_)(d31:Df K mg "_law_fold_once" bq)(d32:Df K mg "_law_settle" b9)(d33:Df K mg "_law_ladder" b8)(d34:Df K mg "_law_added" cN)(d35:Df K mg "_law_grown" bW)(d36:Df K mg "_law_sizes" cI)(d37:Df K mg "_law_counts" cf)(d38:Df K mg "_law_first" cE)(d39:Df K mg "_law_last" dC)(d40:Df K mg "_law_is_dealt" bB)(d41:Df K mg "_law_is_told" bR)(d42:Df K mg "_law_counted" bG)(d43:Df K mg "_law_so_many_th" bd)(d44:Df K mg "_law_are_met" bO)(a45:W.nsIn K mainGlobals "law"=some (some (.ref f45)))(l45:K.lookup f45=some ⟨oc45,od45,.func (W.fnOf "law" "law" (aH cx) (aE cx) (aa cx) .none kV45 dc45 pm45 an45 cd45 ct45),sl45⟩)(c45:W.codeIn K cd45 "law"=true)(k45:W.keepIn K (.ref f45)=true)(aM:mg "len"=none)(ag:mg "isinstance"=none)(av:mg "range"=none)(aJ:mg "list"=none)(aj:mg "sorted"=none)(bc:mg "tuple"=none)(aZ:mg "dict"=none)(aF:mg "sum"=none)(cy:mg "int"=none)(cP:mg "bool"=none)(oe:mg "all"=none)(dF:mg "min"=none)(pP:mg "set"=none)(qw:mg "str"=none)
  :∃fd:FuncData,(∀(s:Shared)(v:Value),BindsTo s fd ⟨[v],[]⟩ [("_law_script",v)])∧∀base:Heap,K.In base→base.Ns mainGlobals mg→FnOk l.prog w K mg base CX0 11 fa fd ["_law_script"] (jA K):=by
 have e:=hfa.symm.trans (W.mg_of X G a45);cases e;obtain⟨f35,v35,F35,m35⟩:=d35.ex;have b35:Binds K _ ["_law_room","_law_deep","_law_tree_here"] []:=F35.b3 fun _ _ _ _ _ _ _ _ _=>rfl;have F45:=pA (st:=cx) l45 c45 k45;refine⟨W.fnOf "law" "law" (aH cx) (aE cx) (aa cx) .none kV45 dc45 pm45 an45 cd45 ct45,fun s v=>.of_eq rfl,fun base kb nb=>?_⟩;have x9:=d26.h1 (vv (P:=l.prog) (w:=w) (mg:=mg) (base:=base)) (by intros;rfl);have b7:=d27.h2 (rB (P:=l.prog) (w:=w) (mg:=mg) (base:=base) aM) (by intros;rfl);have qh:=d28.h1 (rM b7) (by intros;rfl);have tE:=d36.h1 (m8 b7) (by intros;rfl);have ph:=d37.h3 (lT av cy aj aM dF b7 qh) (by intros;rfl);have oj:=d29.h3 (v9 av aM b7 qh) (by intros;rfl);have vJ:=d30.h3 (xf av aM b7 oj) (by intros;rfl);have wR:=d31.h3 (vf (P:=l.prog) (w:=w) (mg:=mg) (base:=base) av aj pP aF) (by intros;rfl);have vz:=d32.h3 (tQ aF aJ wR) (by intros;rfl);have xg:=d33.h3 (vC (P:=l.prog) (w:=w) (mg:=mg) (base:=base) aj bc aF aJ) (by intros;rfl);have tq:=d34.h2 (uV (P:=l.prog) (w:=w) (mg:=mg) (base:=base) aZ) (by intros;rfl);have rc:=uc tq vz ag aJ F35 b35 m35 8;have wa:=d38.h1 (wA (P:=l.prog) (w:=w) (mg:=mg) (base:=base) av) (by intros;rfl);have x8:=d39.h1 (wG wa) (by intros;rfl);have w6:=d40.h3 (u6 aj dF aF aJ wa x8) (by intros;rfl);have kD:=d4.h1 (oI (P:=l.prog) (w:=w) (mg:=mg) (base:=base)) (by intros;rfl);have oA:=d5.h1 (se kD) (by intros;rfl);have dW:=d14.h1 (rT kD) (by intros;rfl);have cZ:=d15.h1 (oS oA) (by intros;rfl);have h_np:=d18.h2 (xm (P:=l.prog) (w:=w) (mg:=mg) (base:=base) aj) (by intros;rfl);have h_pi:=d21.h2 (wZ dW cZ h_np) (by intros;rfl);have xJ:=d16.h2 (we (P:=l.prog) (w:=w) (mg:=mg) (base:=base) aF) (by intros;rfl);have xc:=d17.h1 (wv (P:=l.prog) (w:=w) (mg:=mg) (base:=base) aF) (by intros;rfl);have h_am:=d19.h2 (xN dW cZ xJ) (by intros;rfl);have h_si:=d20.h1 (wU dW cZ xc) (by intros;rfl);have xM:=d42.h2 (vN (P:=l.prog) (w:=w) (mg:=mg) (base:=base) aF) (by intros;rfl);have wH:=d43.h2 (wt (P:=l.prog) (w:=w) (mg:=mg) (base:=base) aj) (by intros;rfl);have xI:=d41.h2 (v_ (P:=l.prog) (w:=w) (mg:=mg) (base:=base) ag aJ bc qw cy cP aM) (by intros;rfl);have x5:=d23.h1 (xx (P:=l.prog) (w:=w) (mg:=mg) (base:=base)) (by intros;rfl);have h_lo:=d24.h1 (lh x5 dW) (by intros;rfl);have h_hi:=d25.h1 (iw x5 cZ) (by intros;rfl);have h1:=d0.h1 (f_ (P:=l.prog) (w:=w) (mg:=mg) (base:=base) ag cy cP) (by intros;rfl);have h2:=d1.h2 (Sf h1) (by intros;rfl);have h3:=d2.h3 (Tc h2) (by intros;rfl);have h6:=d6.h1 (lJ (P:=l.prog) (w:=w) (mg:=mg) (base:=base)) (by intros;rfl);have h7:=d8.h3 (oF h6) (by intros;rfl);have h8:=d3.h2 (rD (P:=l.prog) (w:=w) (mg:=mg) (base:=base) aZ) (by intros;rfl);have h9:=d9.h1 (uS (P:=l.prog) (w:=w) (mg:=mg) (base:=base) aF) (by intros;rfl);have h10:=d10.h1 (uJ h8) (by intros;rfl);have h11:=d7.h2 (Pd ag bc aM h3 oA) (by intros;rfl);have h12:=d11.h3 (lz oe aZ h10 h9 h11 h7) (by intros;rfl);have h13:=d12.h2 (vD aZ av h10 h6 h8) (by intros;rfl);have h14:=d13.h2 (xi h13 h12) (by intros;rfl);have h15:=d22.h2 (sv h14) (by intros;rfl);have xQ:=d44.h4 (uG av aF b7 h_am h_si h_pi xM wH) (by intros;rfl);exact v7 av aj x9 tE ph vJ b7 rc xg wa x8 h_lo h_hi xI w6 h15 xQ F45
theorem walk{l:W.OpenLaw}{q:Program}{loose:List Str}{XP:(Str→Option Value)→Heap→Prop}{YP:World→Heap→Prop}{d:DefRec}{K:Params→W.Frag}(hn:l.most=some 63)(hdf:d.params.defaults=[])(hY:∀(w:World) (h:Heap),YP w h→(K w.params).In h)(F:∀(w:World) (mg:Str→Option Value) (fa:Addr) (h:Heap),(K w.params).In h→h.Ns mainGlobals mg→mg d.name=some (.ref fa)→
   ∃fd:FuncData,(∀(s:Shared) (u:Value),BindsTo s fd ⟨[u],[]⟩ [("_law_script",u)])∧∀base:Heap,(K w.params).In base→base.Ns mainGlobals mg→FnOk l.prog w (K w.params) mg base CX0 11 fa fd ["_law_script"] (jA (K w.params))):
  W.WalkO q loose XP YP l.row.toRowW d [] (fun f vs=>PySem.call f vs):=
 L2.walk_of (n:=63) (k:=11) (x:="_law_script") (CX:=fun _=>CX0) (sp:=fun w=>jA (K w.params)) hn (by decide) hdf ⟨rfl,by decide,by decide⟩ hY F (fun _ _ a ns hl _ hS=>⟨a,ns,rfl,hS,hl,fun _=>rfl⟩) fun _ _ _ _ _ z=>z
end K30
def PySem.W.Fast.tw18158158896220810630:PySem.Program:=PySem.Challenge.pw_sumshare_k30_lowest_and_highest
theorem PySem.W.Fast.te18158158896220810630:PySem.Challenge.pw_sumshare_k30_lowest_and_highest=PySem.W.Fast.tw18158158896220810630:=rfl
def K30.qv:PySem.Program:=PySem.W.view PySem.Challenge.pw_sumshare_k30_lowest_and_highest [1,2,3,4,6,7,9,10,11,12,14,16,18,19,20,21,23,24,25,26,27,28,29,30,32,33,34,35,37,38,39,40,41,42,43,44,45,46,47,48,49,50,51,52,53,54,55,56,57]
open PySem PySem.W PyProof.Rows
local macro_rules | `(tactic| o_head $H)=>`(tactic| (refine holds_open (q:=K30.qv) (loose:=[]) (Xt:=fun s=>xlAt K30.qv [] s && recOk [] s) (XP:=XL K30.qv []) (Yf:=Hook.obs $H) (Ya:=Hook.val $H) (YP:=Hook.says $H) (N:=1000000) ?hl (Hook.of $H) (Hook.keeps $H) (fun s e=>xl_of s (Bool.and_eq_true_iff.mp e).1) XL.keeps (by rfl) (by rfl) (by rfl) (fun s e=>recFacts_of (Bool.and_eq_true_iff.mp e).2) (by rfl) (by first | assumption | decide +kernel) (by decide +kernel) ⟨rfl,rfl,rfl,rfl,rfl,by decide +kernel⟩ ?hw ?hc;(case hl=>exact Hd.left (p:=PySem.Challenge.pw_sumshare_k30_lowest_and_highest) rfl (fun _=>rfl) (fun w os=>by kernel_rfl) (fun w os=>by kernel_rfl) rfl fun w os=>by kernel_rfl)))
set_option maxRecDepth 100000 in
set_option maxHeartbeats 0 in
theorem PySem.Challenge.cw_sumshare_k30_lowest_and_highest_holds : PySem.Challenge.rw_sumshare_k30_lowest_and_highest.Holds := by
 w_on;o_law;k_head;(case hw=>w_witness2)
 k_fill
 refine K30.walk (l:=PySem.Challenge.rw_sumshare_k30_lowest_and_highest) rfl rfl (fun w h Y=>PySem.W.kIn_of Y) ?F
 case F=>
  intro w mg fa h KX G hmg
  refine' K30.all_mk KX G hmg (L2.df_mk KX G ?_ ?_ ?_ ?_) (L2.df_mk KX G ?_ ?_ ?_ ?_) (L2.df_mk KX G ?_ ?_ ?_ ?_) (L2.df_mk KX G ?_ ?_ ?_ ?_) (L2.df_mk KX G ?_ ?_ ?_ ?_) (L2.df_mk KX G ?_ ?_ ?_ ?_) (L2.df_mk KX G ?_ ?_ ?_ ?_) (L2.df_mk KX G ?_ ?_ ?_ ?_) (L2.df_mk KX G ?_ ?_ ?_ ?_) (L2.df_mk KX G ?_ ?_ ?_ ?_) (L2.df_mk KX G ?_ ?_ ?_ ?_) (L2.df_mk KX G ?_ ?_ ?_ ?_) (L2.df_mk KX G ?_ ?_ ?_ ?_) (L2.df_mk KX G ?_ ?_ ?_ ?_) (L2.df_mk KX G ?_ ?_ ?_ ?_) (L2.df_mk KX G ?_ ?_ ?_ ?_) (L2.df_mk KX G ?_ ?_ ?_ ?_) (L2.df_mk KX G ?_ ?_ ?_ ?_) (L2.df_mk KX G ?_ ?_ ?_ ?_) (L2.df_mk KX G ?_ ?_ ?_ ?_) (L2.df_mk KX G ?_ ?_ ?_ ?_) (L2.df_mk KX G ?_ ?_ ?_ ?_) (L2.df_mk KX G ?_ ?_ ?_ ?_) (L2.df_mk KX G ?_ ?_ ?_ ?_) (L2.df_mk KX G ?_ ?_ ?_ ?_) (L2.df_mk KX G ?_ ?_ ?_ ?_) (L2.df_mk KX G ?_ ?_ ?_ ?_) (L2.df_mk KX G ?_ ?_ ?_ ?_) (L2.df_mk KX G ?_ ?_ ?_ ?_) (L2.df_mk KX G ?_ ?_ ?_ ?_) (L2.df_mk KX G ?_ ?_ ?_ ?_) (L2.df_mk KX G ?_ ?_ ?_ ?_) (L2.df_mk KX G ?_ ?_ ?_ ?_) (L2.df_mk KX G ?_ ?_ ?_ ?_) (L2.df_mk KX G ?_ ?_ ?_ ?_) (L2.df_mk KX G ?_ ?_ ?_ ?_) (L2.df_mk KX G ?_ ?_ ?_ ?_) (L2.df_mk KX G ?_ ?_ ?_ ?_) (L2.df_mk KX G ?_ ?_ ?_ ?_) (L2.df_mk KX G ?_ ?_ ?_ ?_) (L2.df_mk KX G ?_ ?_ ?_ ?_) (L2.df_mk KX G ?_ ?_ ?_ ?_) (L2.df_mk KX G ?_ ?_ ?_ ?_) (L2.df_mk KX G ?_ ?_ ?_ ?_) (L2.df_mk KX G ?_ ?_ ?_ ?_) ?a45 ?l45 ?c45 ?k45 (zH KX G ?_) (zH KX G ?_) (zH KX G ?_) (zH KX G ?_) (zH KX G ?_) (zH KX G ?_) (zH KX G ?_) (zH KX G ?_) (zH KX G ?_) (zH KX G ?_) (zH KX G ?_) (zH KX G ?_) (zH KX G ?_) (zH KX G ?_)
  (case a45=>k_is);(case l45=>k_is);(case c45=>k_is);(case k45=>k_is)
  any_goals k_is
