import PyProof.Rows.All
import Wide.All
import OpenK.AllK
import Wide.FinOn
import Lean
import PyProof.EqAt
import PyProof.EqKinds
import PyProof.TupleCall
import PySem.Challenge.RW_sumshare_k29_streams_that_fit
set_option Elab.async false
set_option linter.all false
set_option maxRecDepth 100000
section
open PySem PySem.Spec PyProof.Rows
theorem io:type_of%@PySem.wpAny_bind:=@PySem.wpAny_bind
theorem pi.{u0,u1}:type_of%@List.length_map.{u0,u1}:=@List.length_map.{u0,u1}
theorem yI:type_of%@PySem.wpAny_pure:=@PySem.wpAny_pure
theorem yJ:type_of%@PySem.Heap.get?_push_of_some:=@PySem.Heap.get?_push_of_some
theorem yK.{u0}:type_of%@if_neg.{u0}:=@if_neg.{u0}
theorem yL.{u0}:type_of%@if_pos.{u0}:=@if_pos.{u0}
theorem yM:type_of%@Nat.le_refl:=@Nat.le_refl
theorem yN.{u0}:type_of%@Array.getElem?_eq_getElem.{u0}:=@Array.getElem?_eq_getElem.{u0}
theorem yO.{u0,u1}:type_of%@List.mem_map.{u0,u1}:=@List.mem_map.{u0,u1}
theorem yP.{u0}:type_of%@List.mem_singleton.{u0}:=@List.mem_singleton.{u0}
theorem yQ.{u0,u1}:type_of%@List.map_cons.{u0,u1}:=@List.map_cons.{u0,u1}
theorem yR.{u0}:type_of%@List.length_append.{u0}:=@List.length_append.{u0}
theorem yS.{u0}:type_of%@Array.getElem?_toList.{u0}:=@Array.getElem?_toList.{u0}
theorem yT:type_of%@Bool.false_ne_true:=@Bool.false_ne_true
theorem yU.{u0}:type_of%@Array.length_toList.{u0}:=@Array.length_toList.{u0}
theorem yV:type_of%@PySem.Heap.lt_size:=@PySem.Heap.lt_size
theorem yW:type_of%@of_decide_eq_true:=@of_decide_eq_true
theorem yX:type_of%@decide_eq_true:=@decide_eq_true
theorem yY:type_of%@PySem.Heap.get?_push_size:=@PySem.Heap.get?_push_size
theorem yZ.{u0}:type_of%@List.getElem?_eq_some_iff.{u0}:=@List.getElem?_eq_some_iff.{u0}
theorem y3.{u0}:type_of%@List.mem_append_right.{u0}:=@List.mem_append_right.{u0}
theorem y4:type_of%@Nat.ne_of_lt:=@Nat.ne_of_lt
theorem y7:type_of%@PyProof.Rows.wpS_pure:=@PyProof.Rows.wpS_pure
theorem y8.{u0}:type_of%@List.mem_cons.{u0}:=@List.mem_cons.{u0}
theorem y9:type_of%@PyProof.Rows.wpS_bind:=@PyProof.Rows.wpS_bind
theorem zc.{u0,u1}:type_of%@List.getElem?_map.{u0,u1}:=@List.getElem?_map.{u0,u1}
theorem zd:type_of%@PySem.Paired.length:=@PySem.Paired.length
theorem ze.{u0}:type_of%@List.mem_append.{u0}:=@List.mem_append.{u0}
theorem zf.{u0,u1,u2}:type_of%@List.map_map.{u0,u1,u2}:=@List.map_map.{u0,u1,u2}
theorem zk.{u0,u1}:type_of%@List.map_append.{u0,u1}:=@List.map_append.{u0,u1}
theorem zn.{u0}:type_of%@List.mem_filter.{u0}:=@List.mem_filter.{u0}
theorem zo.{u0}:type_of%@List.sum_cons.{u0}:=@List.sum_cons.{u0}
theorem zt.{u0}:type_of%@List.nodup_cons.{u0}:=@List.nodup_cons.{u0}
theorem zu.{u0}:type_of%@List.length_take.{u0}:=@List.length_take.{u0}
theorem zw.{u0}:type_of%@List.length_cons.{u0}:=@List.length_cons.{u0}
theorem zy.{u0}:type_of%@beq_iff_eq.{u0}:=@beq_iff_eq.{u0}
theorem zA:type_of%@decide_eq_false:=@decide_eq_false
theorem zB.{u0}:type_of%@List.mem_of_getElem?.{u0}:=@List.mem_of_getElem?.{u0}
theorem zC.{u0}:type_of%@List.not_mem_nil.{u0}:=@List.not_mem_nil.{u0}
theorem zD.{u0}:type_of%@List.size_toArray.{u0}:=@List.size_toArray.{u0}
theorem zE:type_of%@PySem.wpAny_dictEntries:=@PySem.wpAny_dictEntries
theorem zF.{u0}:type_of%@List.getElem?_eq_getElem.{u0}:=@List.getElem?_eq_getElem.{u0}
theorem zG.{u0}:type_of%@List.take_length.{u0}:=@List.take_length.{u0}
theorem zH:type_of%@Nat.lt_of_lt_of_le:=@Nat.lt_of_lt_of_le
theorem zI.{u0}:type_of%@List.mem_append_left.{u0}:=@List.mem_append_left.{u0}
theorem zJ:type_of%@Int.le_refl:=@Int.le_refl
theorem zK:type_of%@PySem.wpAny_holding:=@PySem.wpAny_holding
theorem zL.{u0}:type_of%@List.mem_cons_self.{u0}:=@List.mem_cons_self.{u0}
theorem zM.{u0}:type_of%@List.pairwise_append.{u0}:=@List.pairwise_append.{u0}
theorem zN.{u0}:type_of%@List.filter_cons.{u0}:=@List.filter_cons.{u0}
theorem zO.{u0}:type_of%@List.nodup_nil.{u0}:=@List.nodup_nil.{u0}
theorem zP:type_of%@Nat.le_trans:=@Nat.le_trans
theorem zQ:type_of%@PySem.PassesOwn.never:=@PySem.PassesOwn.never
theorem zR.{u0}:type_of%@List.pairwise_cons.{u0}:=@List.pairwise_cons.{u0}
theorem zS.{u0}:type_of%@List.mem_cons_of_mem.{u0}:=@List.mem_cons_of_mem.{u0}
theorem zT.{u0}:type_of%@Option.some.inj.{u0}:=@Option.some.inj.{u0}
theorem zU.{u0}:type_of%@List.append_assoc.{u0}:=@List.append_assoc.{u0}
theorem zV.{u0,u1}:type_of%@Option.map_eq_some_iff.{u0,u1}:=@Option.map_eq_some_iff.{u0,u1}
theorem zW:type_of%@Bool.and_eq_true:=@Bool.and_eq_true
theorem zX:type_of%@PySem.W.mg_none_of:=@PySem.W.mg_none_of
theorem zY:type_of%@PySem.Around.under_plainId:=@PySem.Around.under_plainId
theorem zZ.{u0}:type_of%@Array.toList_append.{u0}:=@Array.toList_append.{u0}
theorem z4.{u0}:type_of%@List.all_eq_true.{u0}:=@List.all_eq_true.{u0}
theorem z5:type_of%@Bool.eq_false_iff:=@Bool.eq_false_iff
theorem z6:type_of%@of_decide_eq_false:=@of_decide_eq_false
theorem z7.{u0}:type_of%@List.getElem?_take.{u0}:=@List.getElem?_take.{u0}
theorem z8.{u0}:type_of%@List.length_filter_le.{u0}:=@List.length_filter_le.{u0}
theorem z9:type_of%@Nat.lt_or_ge:=@Nat.lt_or_ge
theorem Aa:type_of%@Nat.zero_le:=@Nat.zero_le
theorem Ab:type_of%@Bool.eq_iff_iff:=@Bool.eq_iff_iff
theorem Ac.{u0}:type_of%@List.take_of_length_le.{u0}:=@List.take_of_length_le.{u0}
theorem Ad.{u0,u1}:type_of%@Prod.ext.{u0,u1}:=@Prod.ext.{u0,u1}
theorem Ae:type_of%@Int.one_mul:=@Int.one_mul
theorem Af:type_of%@PySem.wpAny_mono:=@PySem.wpAny_mono
theorem Ag.{u0}:type_of%@List.take_append_drop.{u0}:=@List.take_append_drop.{u0}
theorem Ah:type_of%@Nat.ne_of_gt:=@Nat.ne_of_gt
theorem Ai.{u0}:type_of%@List.length_nil.{u0}:=@List.length_nil.{u0}
theorem Aj:type_of%@PySem.codeAny_builtin:=@PySem.codeAny_builtin
theorem Ak.{u0,u1}:type_of%@congrArg.{u0,u1}:=@congrArg.{u0,u1}
theorem Al:type_of%@PySem.F.plainAttrs_dict:=@PySem.F.plainAttrs_dict
theorem Am:type_of%@PySem.wpAny_call_entry:=@PySem.wpAny_call_entry
theorem An.{u0}:type_of%@List.getElem?_cons_zero.{u0}:=@List.getElem?_cons_zero.{u0}
theorem Ao:type_of%@PySem.Heap.get?_update_other:=@PySem.Heap.get?_update_other
theorem Ap:type_of%@decide_eq_true_iff:=@decide_eq_true_iff
theorem Aq.{u0}:type_of%@List.getElem?_drop.{u0}:=@List.getElem?_drop.{u0}
theorem Ar:type_of%@PyProof.Rows.wpS_forRange:=@PyProof.Rows.wpS_forRange
theorem As:type_of%@PyProof.Rows.boot_isinstance:=@PyProof.Rows.boot_isinstance
theorem At:type_of%@PySem.mem_of_lookup:=@PySem.mem_of_lookup
theorem Au.{u0}:type_of%@List.length_singleton.{u0}:=@List.length_singleton.{u0}
theorem Av:type_of%@PySem.wpAny_notOrdered_dict:=@PySem.wpAny_notOrdered_dict
theorem Aw:type_of%@PySem.wpAny_truthy_bool:=@PySem.wpAny_truthy_bool
theorem Ax:type_of%@Int.le_trans:=@Int.le_trans
theorem Ay.{u0}:type_of%@List.getElem?_of_mem.{u0}:=@List.getElem?_of_mem.{u0}
theorem Az:type_of%@PySem.boot_len:=@PySem.boot_len
theorem AA:type_of%@Nat.le_of_lt:=@Nat.le_of_lt
theorem AB.{u0}:type_of%@List.length_drop.{u0}:=@List.length_drop.{u0}
theorem AC.{u0}:type_of%@List.drop_of_length_le.{u0}:=@List.drop_of_length_le.{u0}
theorem AD:type_of%@PyProof.Rows.boot_list:=@PyProof.Rows.boot_list
theorem AE:type_of%@Int.mul_le_mul_of_nonneg_right:=@Int.mul_le_mul_of_nonneg_right
theorem AF.{u0,u1}:type_of%@List.map_congr_left.{u0,u1}:=@List.map_congr_left.{u0,u1}
theorem AG:type_of%@Nat.lt_succ_of_lt:=@Nat.lt_succ_of_lt
theorem AH:type_of%@PySem.wpAny_newObj_type:=@PySem.wpAny_newObj_type
theorem AI:type_of%@PyProof.Rows.boot_sorted:=@PyProof.Rows.boot_sorted
theorem AJ.{u0}:type_of%@List.append_nil.{u0}:=@List.append_nil.{u0}
theorem AK.{u0}:type_of%@Array.size_push.{u0}:=@Array.size_push.{u0}
theorem AL.{u0}:type_of%@List.filter_append.{u0}:=@List.filter_append.{u0}
theorem AM:type_of%@PySem.wpAny_rule:=@PySem.wpAny_rule
theorem AN:type_of%@PySem.F.plain_list_iadd:=@PySem.F.plain_list_iadd
theorem AO.{u0}:type_of%@List.mem_of_mem_take.{u0}:=@List.mem_of_mem_take.{u0}
theorem AQ:type_of%@Int.mul_assoc:=@Int.mul_assoc
theorem AR.{u0}:type_of%@Array.getElem?_eq_none.{u0}:=@Array.getElem?_eq_none.{u0}
theorem AS:type_of%@PyProof.Rows.wpS_mono:=@PyProof.Rows.wpS_mono
theorem AT.{u0}:type_of%@Array.perm_iff_toList_perm.{u0}:=@Array.perm_iff_toList_perm.{u0}
theorem AU.{u0,u1}:type_of%@List.pairwise_map.{u0,u1}:=@List.pairwise_map.{u0,u1}
theorem AV.{u0}:type_of%@beq_eq_false_iff_ne.{u0}:=@beq_eq_false_iff_ne.{u0}
theorem AW.{u0}:type_of%@List.pairwise_iff_getElem.{u0}:=@List.pairwise_iff_getElem.{u0}
theorem AX:type_of%@PySem.F.plain_extend_loop:=@PySem.F.plain_extend_loop
theorem AY.{u0}:type_of%@List.extract_eq_take_drop.{u0}:=@List.extract_eq_take_drop.{u0}
theorem AZ.{u0}:type_of%@List.mem_iff_getElem?.{u0}:=@List.mem_iff_getElem?.{u0}
theorem A0:type_of%@Int.emod_lt_of_pos:=@Int.emod_lt_of_pos
theorem A1:type_of%@PySem.tupleKind_room_in1:=@PySem.tupleKind_room_in1
theorem A2:type_of%@PySem.wpAny_typeNameOfWhole_itemiter:=@PySem.wpAny_typeNameOfWhole_itemiter
theorem A3:type_of%@Nat.lt_trans:=@Nat.lt_trans
theorem A4:type_of%@PySem.F.slot_dict_values:=@PySem.F.slot_dict_values
theorem A5:type_of%@Nat.zero_add:=@Nat.zero_add
theorem A6.{u0}:type_of%@List.mem_iff_getElem.{u0}:=@List.mem_iff_getElem.{u0}
theorem A7:type_of%@PySem.wpAny_typeNameOfWhole_keyiter:=@PySem.wpAny_typeNameOfWhole_keyiter
theorem A8:type_of%@PySem.wpAny_typeNameOfWhole_valiter:=@PySem.wpAny_typeNameOfWhole_valiter
theorem A9.{u0,u1}:type_of%@Std.Legacy.Range.forIn_eq_forIn_range'.{u0,u1}:=@Std.Legacy.Range.forIn_eq_forIn_range'.{u0,u1}
theorem Ba:type_of%@Int.add_mul:=@Int.add_mul
theorem Bb.{u0}:type_of%@Array.toList_push.{u0}:=@Array.toList_push.{u0}
theorem Bc:type_of%@PySem.Heap.SameBut.update:=@PySem.Heap.SameBut.update
theorem Bd:type_of%@Int.le_of_lt:=@Int.le_of_lt
theorem Be:type_of%@Nat.lt_irrefl:=@Nat.lt_irrefl
theorem Bf:type_of%@Int.mul_one:=@Int.mul_one
theorem Bg:type_of%@PySem.plainId_quiet:=@PySem.plainId_quiet
theorem Bh.{u0}:type_of%@Array.getElem?_eq_some_iff.{u0}:=@Array.getElem?_eq_some_iff.{u0}
theorem Bi.{u0}:type_of%@Array.size_extract.{u0}:=@Array.size_extract.{u0}
theorem Bj:type_of%@PyProof.Rows.boot_sum:=@PyProof.Rows.boot_sum
theorem Bk:type_of%@PySem.wpAny_passesOwn:=@PySem.wpAny_passesOwn
theorem Bl:type_of%@Int.emod_nonneg:=@Int.emod_nonneg
theorem Bm:type_of%@PyProof.Rows.get?_update_seq:=@PyProof.Rows.get?_update_seq
theorem Bn:type_of%@Nat.min_eq_left:=@Nat.min_eq_left
theorem Bo:type_of%@PySem.wpAny_dictEpoch:=@PySem.wpAny_dictEpoch
theorem Bp.{u0}:type_of%@Array.mem_toList_iff.{u0}:=@Array.mem_toList_iff.{u0}
theorem Bq.{u0}:type_of%@List.take_sublist.{u0}:=@List.take_sublist.{u0}
theorem Br:type_of%@PySem.wpAny_setState_of:=@PySem.wpAny_setState_of
theorem Bs:type_of%@PySem.wpAny_pyIter_slot:=@PySem.wpAny_pyIter_slot
theorem Bt:type_of%@List.length_range:=@List.length_range
theorem Bu.{u0}:type_of%@Array.toArray_toList.{u0}:=@Array.toArray_toList.{u0}
theorem Bv:type_of%@Bool.not_eq_true':=@Bool.not_eq_true'
theorem Bw.{u0}:type_of%@Array.toList_extract.{u0}:=@Array.toList_extract.{u0}
theorem Bx.{u0}:type_of%@List.mem_of_mem_drop.{u0}:=@List.mem_of_mem_drop.{u0}
theorem By:type_of%@Nat.add_assoc:=@Nat.add_assoc
theorem Bz.{u0,u1}:type_of%@List.filterMap_cons.{u0,u1}:=@List.filterMap_cons.{u0,u1}
theorem BA:type_of%@PySem.Heap.get?_update_ne:=@PySem.Heap.get?_update_ne
theorem BB.{u0}:type_of%@List.filter_eq_self.{u0}:=@List.filter_eq_self.{u0}
theorem BC:type_of%@Bool.false_and:=@Bool.false_and
theorem BD:type_of%@PySem.Heap.size_push:=@PySem.Heap.size_push
theorem BE.{u0}:type_of%@List.Perm.refl.{u0}:=@List.Perm.refl.{u0}
theorem BF:type_of%@PySem.wpAny_isInstance:=@PySem.wpAny_isInstance
theorem BG:type_of%@PySem.wpAny_fieldsOf:=@PySem.wpAny_fieldsOf
theorem BH:type_of%@PySem.Heap.size_update:=@PySem.Heap.size_update
theorem BI:type_of%@PySem.wpAny_typeOf:=@PySem.wpAny_typeOf
theorem BJ:type_of%@PyProof.Rows.wpS_modify:=@PyProof.Rows.wpS_modify
theorem BK:type_of%@PyProof.Rows.pairsOf_size:=@PyProof.Rows.pairsOf_size
theorem BL:type_of%@Int.zero_add:=@Int.zero_add
theorem BM:type_of%@PyProof.Rows.boot_dict:=@PyProof.Rows.boot_dict
theorem BN.{u0}:type_of%@List.sum_append.{u0}:=@List.sum_append.{u0}
theorem BO:type_of%@PySem.W.kia_one:=@PySem.W.kia_one
theorem BP:type_of%@PySem.Heap.get?_update_self:=@PySem.Heap.get?_update_self
theorem BQ.{u0}:type_of%@List.getElem?_eq_none.{u0}:=@List.getElem?_eq_none.{u0}
theorem BR:type_of%@PySem.wpAny_pyIter_list:=@PySem.wpAny_pyIter_list
theorem BS.{u0}:type_of%@List.drop_sublist.{u0}:=@List.drop_sublist.{u0}
theorem BU.{u0}:type_of%@List.nodup_append.{u0}:=@List.nodup_append.{u0}
theorem BV.{u0}:type_of%@List.ext_getElem?.{u0}:=@List.ext_getElem?.{u0}
theorem BW.{u0}:type_of%@List.drop_zero.{u0}:=@List.drop_zero.{u0}
theorem BX.{u0}:type_of%@List.drop_drop.{u0}:=@List.drop_drop.{u0}
theorem BY.{u0}:type_of%@Array.toList_reverse.{u0}:=@Array.toList_reverse.{u0}
theorem BZ:type_of%@PySem.codeAny_mono:=@PySem.codeAny_mono
theorem B0.{u0,u1}:type_of%@List.map_nil.{u0,u1}:=@List.map_nil.{u0,u1}
theorem B4:type_of%@PySem.call_meetsIn:=@PySem.call_meetsIn
theorem B5:type_of%@Int.add_zero:=@Int.add_zero
theorem B6:type_of%@Int.mul_zero:=@Int.mul_zero
theorem B7:type_of%@PyProof.Rows.listUpdate_at:=@PyProof.Rows.listUpdate_at
theorem B8.{u0,u1,u2}:type_of%@List.forIn_cons.{u0,u1,u2}:=@List.forIn_cons.{u0,u1,u2}
theorem B9:type_of%@PySem.wpAny_specialOf:=@PySem.wpAny_specialOf
theorem Ca.{u0,u1}:type_of%@List.foldl_cons.{u0,u1}:=@List.foldl_cons.{u0,u1}
theorem Cb.{u0}:type_of%@Array.Perm.refl.{u0}:=@Array.Perm.refl.{u0}
theorem Cc:type_of%@PySem.wpAny_load:=@PySem.wpAny_load
theorem Cd.{u0,u1}:type_of%@Sum.inl.inj.{u0,u1}:=@Sum.inl.inj.{u0,u1}
theorem Ce:type_of%@List.mem_range:=@List.mem_range
theorem Cf:type_of%@PySem.wpAny_newTuple:=@PySem.wpAny_newTuple
theorem Cg:type_of%@Int.lt_or_le:=@Int.lt_or_le
theorem Ci:type_of%@Int.pow_succ:=@Int.pow_succ
theorem Cj:type_of%@Int.sub_zero:=@Int.sub_zero
theorem Ck:type_of%@Int.mul_nonneg:=@Int.mul_nonneg
theorem Cm:type_of%@Int.mul_comm:=@Int.mul_comm
theorem Cn:type_of%@PyProof.Rows.size_push':=@PyProof.Rows.size_push'
theorem Co:type_of%@PyProof.Rows.seqEpoch_at:=@PyProof.Rows.seqEpoch_at
theorem Cp:type_of%@PyProof.Rows.wpS_get:=@PyProof.Rows.wpS_get
end
namespace L2
open PySem PySem.Spec PyProof.Rows
abbrev Key:=Sum Int Str
def c9:Key→Value→Bool
 |.inl k,v=>Value.isInt k v
 |.inr x,v=>Value.isStrOf x v
def keyH(w:World):Key→Int
 |.inl k=>hashInt k
 |.inr x=>hashStr w x
theorem Y7:∀{k:Key}{v:Value},c9 k v=true→(∃i t,k=Sum.inl i∧v=Value.int i t)∨(∃x t,k=Sum.inr x∧v=Value.str x t)
 |.inl i,v,h=>by
  obtain⟨t,e⟩:=Value.isInt_shape (k:=i) (v:=v) h;exact .inl ⟨i,t,rfl,e⟩
 |.inr x,v,h=>by
  obtain⟨t,e⟩:=Value.isStrOf_shape (x:=x) (v:=v) h;exact .inr ⟨x,t,rfl,e⟩
theorem mP(i:Int)(t:Tok):c9 (.inl i) (.int i t)=true:=by simp[c9,Value.isInt]
theorem lU(x:Str)(t:Tok):c9 (.inr x) (.str x t)=true:=by simp[c9,Value.isStrOf]
theorem vD(a b:Int):decide ((Sum.inl a:Key)=Sum.inl b)=(a==b):=by
 by_cases e:a=b
 ·subst e;simp
 ·have h:¬(Sum.inl a:Key)=Sum.inl b:=fun q=>e (Cd q);rw[zA h];exact(AV.mpr e).symm
theorem vL(a b:Str):decide ((Sum.inr a:Key)=Sum.inr b)=decide (a=b):=by
 by_cases e:a=b
 ·subst e;simp
 ·have h:¬(Sum.inr a:Key)=Sum.inr b:=fun q=>e (Sum.inr.inj q);rw[zA h,zA e]
theorem wK(a:Int)(b:Str):decide ((Sum.inl a:Key)=Sum.inr b)=false:=zA (fun q=>nomatch q)
theorem vF(a:Str)(b:Int):decide ((Sum.inr a:Key)=Sum.inl b)=false:=zA (fun q=>nomatch q)
def aa(prog:Program)(w:World):PySem.KeyKind prog w Key where
 is:=c9
 hash:=keyH w
 inj:=fun v a b ha hb=>by
  rcases Y7 ha with⟨i,t,rfl,rfl⟩|⟨x,t,rfl,rfl⟩
  ·rcases Y7 hb with⟨j,u,rfl,e⟩|⟨y,u,rfl,e⟩
   ·injection e with e1 _;rw[e1]
   ·exact nomatch e
  ·rcases Y7 hb with⟨j,u,rfl,e⟩|⟨y,u,rfl,e⟩
   ·exact nomatch e
   ·injection e with e1 _;rw[e1]
 byValue:=fun k v h=>by
  rcases Y7 h with⟨i,t,rfl,rfl⟩|⟨x,t,rfl,rfl⟩ <;> rfl
 pyHash:=fun hv h=>by
  rcases Y7 hv with⟨i,t,rfl,rfl⟩|⟨x,t,rfl,rfl⟩
  ·exact wpAny_pyHash_int h
  ·exact wpAny_pyHash_str h
 eqBool:=fun hu hv h=>by
  rcases Y7 hu with⟨i,t,rfl,rfl⟩|⟨x,t,rfl,rfl⟩
  ·rcases Y7 hv with⟨j,u,rfl,rfl⟩|⟨y,u,rfl,rfl⟩
   ·rw[vD]at h;exact wpAny_eqBool_int h
   ·rw[wK]at h;exact SeqAt.EqAt.int_str i t y u _ _ _ _ h
  ·rcases Y7 hv with⟨j,u,rfl,rfl⟩|⟨y,u,rfl,rfl⟩
   ·rw[vF]at h;exact SeqAt.EqAt.str_int x t j u _ _ _ _ h
   ·rw[vL]at h;exact wpAny_eqBool_str h
 «strs»:=fun k x t v h=>by
  rcases Y7 h with⟨i,u,rfl,e⟩|⟨y,u,rfl,e⟩
  ·exact nomatch e
  ·injection e with e1 _
   subst e1;cases v <;> rfl
theorem Wr(prog:Program)(w:World)(i:Int)(t:Tok):(aa prog w).is (.inl i) (.int i t)=true:=mP i t
theorem Sm(prog:Program)(w:World)(x:Str)(t:Tok):(aa prog w).is (.inr x) (.str x t)=true:=lU x t
inductive V where
 |non | bl (b:Bool) | int (i:Int) | str (x:Str) | byt (b:Array UInt8) | flt (b:UInt64) | ref (a:Addr) | ty (n:String)
 deriving DecidableEq
def RelV:V→Value→Prop
 |.non,u=>u=Value.none
 |.bl b,u=>u=Value.bool b
 |.int i,u=>∃t,u=Value.int i t
 |.str x,u=>∃t,u=Value.str x t
 |.byt b,u=>∃t,u=Value.bytes b t
 |.flt b,u=>∃t,u=Value.float b t
 |.ref a,u=>u=Value.ref a
 |.ty n,u=>u=Value.type n
abbrev Vals:List V→List Value→Prop:=Paired RelV
theorem Vals.length{xs:List V}{us:List Value}(r:Vals xs us):xs.length=us.length:=zd r
theorem Vals.get:∀{xs:List V}{us:List Value}{i:Nat}{x:V},Vals xs us→xs[i]?=some x→∃u,us[i]?=some u∧RelV x u
 |_,_,_,_,.nil,e=>by simp at e
 |_,_,0,_,.cons r _,e=>by simp at e;subst e;exact⟨_,rfl,r⟩
 |_,_,i+1,x,.cons _ t,e=>by
  obtain⟨u,h1,h2⟩:=Vals.get (i:=i) (x:=x) t (by simpa using e);exact⟨u,by simpa using h1,h2⟩
theorem Vals.set{x:V}{u:Value}(r:RelV x u):∀{xs:List V}{us:List Value}(i:Nat),Vals xs us→Vals (xs.set i x) (us.set i u)
 |_,_,_,.nil=>.nil
 |_,_,0,.cons _ t=>.cons r t
 |_,_,i+1,.cons q t=>.cons q (Vals.set r i t)
theorem Vals.append{xs ys:List V}{us ws:List Value}(h:Vals xs us)(s:Vals ys ws):Vals (xs++ys) (us++ws):=by
 induction h with
 |nil=>exact s
 |cons r t ih=>exact .cons r ih
theorem Vals.take:∀{xs:List V}{us:List Value}(n:Nat),Vals xs us→Vals (xs.take n) (us.take n)
 |_,_,0,_=>.nil
 |_,_,_+1,.nil=>.nil
 |_,_,n+1,.cons r t=>.cons r (Vals.take n t)
theorem Vals.drop:∀{xs:List V}{us:List Value}(n:Nat),Vals xs us→Vals (xs.drop n) (us.drop n)
 |_,_,0,r=>r
 |_,_,_+1,.nil=>.nil
 |_,_,n+1,.cons _ t=>Vals.drop n t
def RelO:Option V→Option Value→Prop
 |some v,some u=>RelV v u
 |none,none=>True
 |_,_=>False
def KV{κ:Type}:List (κ×V)→List (κ×Value)→Prop:=Paired fun(p:κ×V)(q:κ×Value)=>p.1=q.1∧RelV p.2 q.2
def kV:Key→V
 |.inl i=>.int i
 |.inr x=>.str x
inductive HO where
 |lst (xs:List V)
 |tup (xs:List V)
 |dK (kvs:List (Key×V)) | dT (kvs:List (List Key×V))
 |set (S:Int→Bool) (n:Nat)
 |ins (C dx:Addr) (fs:List (Str×V))
 |own (x:Addr)
 |xd (fs:List (Str×V))
 |met (f x:Addr)
 |rng (lo hi:Int)
 |frz (o:Obj) (u:HO)
 |tbl (ps:Array Value)
 |ext (φ:Heap→Prop)
abbrev Hp:=Addr→Option HO
def upd(H:Hp)(a:Addr)(o:HO):Hp:=fun b=>if b=a then some o else H b
theorem Z4{H:Hp}{a:Addr}{o:HO}:upd H a o a=some o:=by unfold upd;rw[yL rfl]
theorem Zb{H:Hp}{a b:Addr}{o:HO}(h:b≠a):upd H a o b=H b:=by unfold upd;rw[yK h]
theorem V6{H:Hp}{a b:Addr}{o u:HO}(h:H a=some o)(h':H b=some u)(d:o≠u):a≠b:=by
 intro e;subst e;rw[h]at h';exact d (zT h')
theorem Zi{H:Hp}{a b:Addr}{o:HO}(h:H a=some o)(h':H b=none):a≠b:=by
 intro e;subst e;rw[h]at h';cases h'
def TupN(h:Heap)(a:Addr)(items:Array Value):Prop:=∃o,h.get? a=some o∧(o.cls=.type "tuple"∧o.dict=none)∧∃n,o.data=.seq items n
theorem TupN.tup{h:Heap}{a:Addr}{items:Array Value}(x:TupN h a items):IsTup h a items:=let ⟨o,e,c,n,d⟩:=x;⟨o,e,c.1,n,d⟩
theorem TupN.new(h:Heap)(items:Array Value):TupN (h.push {cls:=.type "tuple",data:=.seq items}) h.objs.size items:=⟨_,yY _ rfl,⟨rfl,rfl⟩,_,rfl⟩
section
variable(P:Program)(w:World)
def ObjOk(H:Hp)(h:Heap)(a:Addr):HO→Prop
 |.lst xs=>xs.length≤sizeLine∧∃(its:List Value)(n:Nat),Vals xs its∧h.get? a=some {cls:=.type "list",data:=.seq its.toArray n}
 |.tup xs=>xs.length≤sizeLine∧∃its:List Value,Vals xs its∧TupN h a its.toArray
 |.dK kvs=>kvs.length≤sizeLine∧(a==sysModules)=false∧∃vs,KV kvs vs∧h.DictOf (aa P w) a vs
 |.dT kvs=>kvs.length≤sizeLine∧(a==sysModules)=false∧∃xs:List (List Key×Addr×Value),
   Paired (fun(p:List Key×V)(q:List Key×Addr×Value)=>p.1=q.1∧H q.2.1=some (.tup (p.1.map kV))∧RelV p.2 q.2.2) kvs xs∧
   ∃o es ep,h.get? a=some o∧o.ExactDict∧o.data=.dict es ep∧es.toList=xs.map (entryOfKey (tupleKind (aa P w)))∧(xs.map (·.1)).Nodup
 |.set S n=>h.SetOf (intKind P w) a S n
 |.ins C dx fs=>H dx=some (.own a)∧fs.length≤1000∧dx≠a∧h.get? a=some (W.instObj C dx)∧
   ∃mA,h.Ns1 dx mA∧(∀f,RelO (fs.lookup f) (mA f))∧PySem.Within mA (fs.map (·.1))
 |.own _=>∃o,h.get? a=some o
 |.xd fs=>∃mA,h.Ns1 a mA∧∀f,RelO (fs.lookup f) (mA f)
 |.rng lo hi=>∃t u v,h.get? a=some {cls:=.type "range",data:=.fields #[.int lo t,.int hi u,.int 1 v]}
 |.frz o u=>h.get? a=some o∧ObjOk H h a u
 |.tbl ps=>h.get? a=some {cls:=.none,data:=.fields ps}
 |.met f x=>h.get? a=some (W.methodObj (.ref f) (.ref x))
 |.ext φ=>φ h∧(∃o,h.get? a=some o)∧∀h1 h2:Heap,φ h1→(∀o,h1.get? a=some o→h2.get? a=some o)→φ h2
def HOk(H:Hp)(h:Heap):Prop:=∀a o,H a=some o→ObjOk P w H h a o
end
section
variable{P:Program}{w:World}{H H':Hp}{h h':Heap}{a:Addr}{o:HO}
theorem ObjOk.lt(x:ObjOk P w H h a o):a<h.objs.size:=by
 cases o with
 |lst xs=>obtain⟨_,_,_,_,e⟩:=x;exact yV e
 |tup xs=>obtain⟨_,_,_,p⟩:=x;exact p.tup.lt
 |dK kvs=>obtain⟨_,_,_,_,o,_,_,e,_⟩:=x;exact yV e
 |dT kvs=>obtain⟨_,_,_,_,o,_,_,e,_⟩:=x;exact yV e
 |set S n=>obtain⟨o,_,_,_,e,_⟩:=x;exact yV e
 |ins C dx fs=>obtain⟨_,_,_,e,_⟩:=x;exact yV e
 |own y=>obtain⟨_,e⟩:=x;exact yV e
 |xd fs=>obtain⟨_,⟨_,_,_,e,_⟩,_⟩:=x;exact yV e
 |rng lo hi=>obtain⟨_,_,_,e⟩:=x;exact yV e
 |frz ob u=>obtain⟨e,_⟩:=x;exact yV e
 |tbl ps=>exact yV (show h.get? a=some _ from x)
 |met f y=>exact yV (show h.get? a=some _ from x)
 |ext φ=>obtain⟨_,⟨_,e⟩,_⟩:=x;exact yV e
theorem Paired.mapP{α β:Type}{F G:α→β→Prop}{l₁:List α}{l₂:List β}(h:Paired F l₁ l₂)(f:∀a b,F a b→G a b):Paired G l₁ l₂:=by
 induction h with
 |nil=>exact .nil
 |cons r t ih=>exact .cons (f _ _ r) ih
theorem ObjOk.stay(x:ObjOk P w H h a o)(k:∀b u,(b=a∨H b=some (.own a))→h.get? b=some u→h'.get? b=some u)(ho:∀b,H b=some (.own a)→H' b=some (.own a))(ht:∀b xs,H b=some (.tup xs)→H' b=some (.tup xs)):ObjOk P w H' h' a o:=by
 induction o with
 |lst xs=>obtain⟨z,its,n,r,e⟩:=x;exact⟨z,its,n,r,k _ _ (.inl rfl) e⟩
 |tup xs=>obtain⟨z,its,r,ob,e,c⟩:=x;exact⟨z,its,r,ob,k _ _ (.inl rfl) e,c⟩
 |dK kvs=>obtain⟨z,y,vs,r,ob,es,ep,e,c⟩:=x;exact⟨z,y,vs,r,ob,es,ep,k _ _ (.inl rfl) e,c⟩
 |dT kvs=>
  obtain⟨z,y,xs,r,ob,es,ep,e,c⟩:=x;exact⟨z,y,xs,Paired.mapP r fun p q z=>⟨z.1,ht _ _ z.2.1,z.2.2⟩,ob,es,ep,k _ _ (.inl rfl) e,c⟩
 |set S n=>obtain⟨ob,es,ep,t,e,c⟩:=x;exact⟨ob,es,ep,t,k _ _ (.inl rfl) e,c⟩
 |ins C dx fs=>
  obtain⟨d,z,ne,e,mA,⟨od,es,ep,e2,c⟩,r⟩:=x;exact⟨ho _ d,z,ne,k _ _ (.inl rfl) e,mA,⟨od,es,ep,k _ _ (.inr d) e2,c⟩,r⟩
 |own y=>obtain⟨ob,e⟩:=x;exact⟨ob,k _ _ (.inl rfl) e⟩
 |xd fs=>obtain⟨mA,⟨od,es,ep,e,c⟩,r⟩:=x;exact⟨mA,⟨od,es,ep,k _ _ (.inl rfl) e,c⟩,r⟩
 |rng lo hi=>obtain⟨t,u,v,e⟩:=x;exact⟨t,u,v,k _ _ (.inl rfl) e⟩
 |frz ob u ih=>obtain⟨e,q⟩:=x;exact⟨k _ _ (.inl rfl) e,ih q⟩
 |tbl ps=>
  have e:h.get? a=some {cls:=.none,data:=.fields ps}:=x;show h'.get? a=some {cls:=.none,data:=.fields ps};exact k a _ (.inl rfl) e
 |met f y=>
  have e:h.get? a=some (W.methodObj (.ref f) (.ref y)):=x;show h'.get? a=some (W.methodObj (.ref f) (.ref y));exact k a _ (.inl rfl) e
 |ext φ=>obtain⟨p,⟨o,e⟩,st⟩:=x;exact⟨st _ _ p fun o q=>k _ _ (.inl rfl) q,⟨o,k _ _ (.inl rfl) e⟩,st⟩
theorem HOk.lt(x:HOk P w H h)(e:H a=some o):a<h.objs.size:=(x a o e).lt
theorem HOk.fresh(x:HOk P w H h)(e:h.objs.size≤a):H a=none:=by
 cases q:H a with
 |none=>rfl
 |some u=>exact absurd (zH (x.lt q) e) (Be _)
theorem HOk.kept(x:HOk P w H h)(k:∀b u,h.get? b=some u→h'.get? b=some u):HOk P w H h':=fun a o e=>
 (x a o e).stay (fun b u _ q=>k b u q) (fun _ q=>q) fun _ _ q=>q
theorem HOk.laid(x:HOk P w H h)(k:∀b u,h.get? b=some u→h'.get? b=some u)(hp:h.objs.size≤a)(new:ObjOk P w (upd H a o) h' a o):HOk P w (upd H a o) h':=fun b u e=>by
 have hn:=x.fresh hp;by_cases hb:b=a
 ·subst hb;rw[Z4]at e;cases e;exact new
 ·rw[Zb hb]at e;exact(x b u e).stay (fun c v _ q=>k c v q) (fun c q=>by rw[Zb (Zi q hn)];exact q) fun c xs q=>by rw[Zb (Zi q hn)];exact q
end
def Rd(H:Hp)(a:Addr)(u:HO):Prop:=H a=some u∨∃o,H a=some (.frz o u)
theorem Rd.ok{P:Program}{w:World}{H:Hp}{h:Heap}{a:Addr}{u:HO}(r:Rd H a u)(x:HOk P w H h):ObjOk P w H h a u:=by
 rcases r with r | ⟨o,r⟩
 ·exact x a u r
 ·obtain⟨_,q⟩:=x a _ r;exact q
def Mut:Option HO→Prop
 |some (.lst _)=>True
 |some (.dK _)=>True
 |some (.dT _)=>True
 |some (.set _ _)=>True
 |some (.ins _ _ _)=>True
 |some (.ext _)=>True
 |_=>False
section
variable{P:Program}{w:World}{H:Hp}{h h':Heap}{x e:Addr}{o':HO}
theorem HOk.write(ok:HOk P w H h)(mu:Mut (H x))(he:e=x∨H e=some (.own x))(k:∀b u,b≠e→h.get? b=some u→h'.get? b=some u)(heo:∃u,h'.get? e=some u)(new:ObjOk P w (upd H x o') h' x o'):HOk P w (upd H x o') h':=fun b u q=>by
 have nown:∀c y,H c=some (.own y)→c≠x:=fun c y r z=>by subst z;rw[r]at mu;exact mu
 have ntup:∀c xs,H c=some (.tup xs)→c≠x:=fun c xs r z=>by subst z;rw[r]at mu;exact mu
 by_cases hb:b=x
 ·subst hb;rw[Z4]at q;cases q;exact new
 ·rw[Zb hb]at q;by_cases hbe:b=e
  ·have q':H b=some (.own x):=by
    rcases he with z | z
    ·exact absurd (hbe.trans z) hb
    ·rw[hbe];exact z
   rw[q]at q';cases q';obtain⟨v,hv⟩:=heo;exact⟨v,by rw[hbe];exact hv⟩
  ·refine(ok b u q).stay (fun c v hc r=>k c v ?_ r) (fun c r=>by rw[Zb (nown c b r)];exact r) fun c xs r=>by rw[Zb (ntup c xs r)];exact r
   rcases hc with rfl | hc
   ·exact hbe
   ·rintro rfl
    rcases he with z | z
    ·exact nown c b hc z
    ·rw[hc]at z;cases z;exact hb rfl
end
structure Un(fs ex:List Addr)(H H':Hp)(h h':Heap):Prop where
 keep:∀b o,h.get? b=some o→H b=none→b∉fs→b∉ex→h'.get? b=some o
 slot:∀b o,h.get? b=some o→H b=none→b∈fs→b∉ex→∃sl,h'.get? b=some {o with slots:=sl}
 free:∀b o,h.get? b=some o→H b=none→b∉ex→H' b=none
 there:∀b o,h.get? b=some o→b∉ex→∃o',h'.get? b=some o'
 tups:∀b xs,H b=some (.tup xs)→H' b=some (.tup xs)
 frzs:∀b o u,H b=some (.frz o u)→H' b=some (.frz o u)
 tbls:∀b ps,H b=some (.tbl ps)→∃more,H' b=some (.tbl (ps++more))
section
variable{fs fs' ex ex':List Addr}{H H1 H2:Hp}{h h1 h2 h':Heap}{a x e:Addr}{o:HO}
theorem Un.any(u:Un fs ex H H1 h h1){b:Addr}{ob:Obj}(q:h.get? b=some ob)(n:H b=none)(hx:b∉ex):∃sl,h1.get? b=some {ob with slots:=sl}:=by
 by_cases hb:b∈fs
 ·exact u.slot b ob q n hb hx
 ·exact⟨ob.slots,u.keep b ob q n hb hx⟩
theorem Un.kept(k:∀b u,h.get? b=some u→h'.get? b=some u):Un fs ex H H h h':=
 ⟨fun b ob q _ _ _=>k b ob q,fun b ob q _ _ _=>⟨ob.slots,k b ob q⟩,fun _ _ _ n _=>n,fun b ob q _=>⟨ob,k b ob q⟩,fun _ _ q=>q,fun _ _ _ q=>q,fun _ ps q=>⟨#[],by rw[q];simp⟩⟩
theorem Un.refl:Un fs ex H H h h:=Un.kept fun _ _ q=>q
theorem Un.laid(k:∀b u,h.get? b=some u→h'.get? b=some u)(hp:h.objs.size≤a)(hn:H a=none):Un fs ex H (upd H a o) h h' where
 keep:=fun b u q _ _ _=>k b u q
 slot:=fun b u q _ _ _=>⟨u.slots,k b u q⟩
 free:=fun b u q n _=>by rw[Zb (y4 (zH (yV q) hp))];exact n
 there:=fun b u q _=>⟨u,k b u q⟩
 tups:=fun b xs q=>by rw[Zb (Zi q hn)];exact q
 frzs:=fun b u xs q=>by rw[Zb (Zi q hn)];exact q
 tbls:=fun b ps q=>⟨#[],by rw[Zb (Zi q hn),q];simp⟩
theorem Un.write(mu:Mut (H x))(he:e=x∨H e=some (.own x))(k:∀b u,b≠e→h.get? b=some u→h'.get? b=some u)(heo:∃u,h'.get? e=some u):Un fs ex H (upd H x o) h h':=by
 have hx:∀b,H b=none→b≠x:=fun b n z=>by subst z;rw[n]at mu;exact mu
 have hb:∀b,H b=none→b≠e:=fun b n z=>by
  subst z
  rcases he with r | r
  ·exact hx b n r
  ·rw[n]at r;cases r
 have hm:∀b u,H b=some u→¬Mut (some u)→b≠x:=fun b u q nm z=>by subst z;rw[q]at mu;exact nm mu
 refine⟨fun b u q n _ _=>k b u (hb b n) q,fun b u q n _ _=>⟨u.slots,k b u (hb b n) q⟩,fun b u q n _=>by rw[Zb (hx b n)];exact n,fun b u q _=>?_,
  fun b xs q=>by rw[Zb (hm b _ q fun z=>z)];exact q,fun b u xs q=>by rw[Zb (hm b _ q fun z=>z)];exact q,fun b ps q=>⟨#[],by rw[Zb (hm b _ q fun z=>z),q];simp⟩⟩
 by_cases hbe:b=e
 ·subst hbe;exact heo
 ·exact⟨u,k b u hbe q⟩
end
def trk(h:Heap)(H:Hp):List Addr:=(List.range h.objs.size).filter fun a=>(H a).isSome
def dW(h:Heap)(H:Hp):Heap:=W.hideAll h (trk h H)
theorem lZ(h:Heap)(H:Hp):(dW h H).objs.size=h.objs.size:=W.hideAll_size _ _
theorem qV{h:Heap}{H:Hp}{b:Addr}{o:Obj}(e:h.get? b=some o)(n:H b=none):(dW h H).get? b=some o:=
 W.hideAll_get _ e fun hm=>by
  have q:(H b).isSome=true:=(zn.mp hm).2;rw[n]at q;simp at q
theorem rT{h:Heap}{H:Hp}{b:Addr}{o:Obj}(e:(dW h H).get? b=some o):h.get? b=some o∧H b=none:=by
 have e':h.get? b=some o:=W.of_hideAll (trk h H) e;refine⟨e',?_⟩;cases q:H b with
 |none=>rfl
 |some x=>
  have hm:b∈trk h H:=List.mem_filter.mpr ⟨List.mem_range.mpr (Heap.lt_size e'),by simp[q]⟩;have z:(dW h H).get? b=none:=W.hideAll_none (trk h H) hm;rw[z]at e;cases e
structure Mod(K:W.Frag)(mg:Str→Option Value)(base:Heap):Prop where
 kin:K.In base
 glob:base.Ns mainGlobals mg
 blt:∃mb,base.Ns builtinsNs mb∧∀x:Str,x≠"__name__"→mb x=bootBuiltins x
 nolimit:base.NoLimit
structure Cx where
 prog:Program
 w:World
 K:W.Frag
 mg:Str→Option Value
 base:Heap
 A:Around
 N:List Str
 s₀:Shared
 H₀:Hp
 env:Env
 outer:List Env
 stack:List Env
 ex:List Addr
 fn:Str→Bool
 calm:Bool
 pn:List (Addr×Obj)
 xe:Value→Shared→Prop
def frs(l:List Env):List Addr:=l.filterMap (·.frame)
abbrev Cx.fs(X:Cx):List Addr:=frs X.outer
def Vis(sc:Scope)(x:Str):Prop:=sc.names.lookup x=some .local∨sc.names.lookup x=some .cell∨sc.names.lookup x=some .free
def Loc(sc:Scope)(x:Str):Prop:=sc.names.lookup x=some .local∨sc.names.lookup x=some .cell
def Look(env:Env)(h:Heap)(m:Str→Option Value)(x:Str)(u:Value):Prop:=
 (env.kindOf x=some .local∧m x=some u)∨((env.kindOf x=some .cell∨env.kindOf x=some .free)∧∃c,env.cells.lookup x=some c∧h.IsCell c (some u))
structure Cx.Ok(X:Cx):Prop where
 mod:Mod X.K X.mg X.base
 kind:X.env.scope.kind=.function
 glob:X.env.globals=mainGlobals
 blt:X.env.builtins=builtinsNs
 above:X.s₀.heap.objs.size≤X.env.locals
 inj:∀x y c,X.env.cells.lookup x=some c→X.env.cells.lookup y=some c→x=y
 has:∀x,(X.env.kindOf x=some .cell∨X.env.kindOf x=some .free)→∃c,X.env.cells.lookup x=some c
 cab:∀x c,X.fn x=true→X.env.cells.lookup x=some c→X.s₀.heap.objs.size≤c
 hd:X.calm=true→X.A.handled=none
 frames:X.A.frames=some X.stack
 stk:X.stack=X.outer∨(X.stack=X.env::X.outer∧X.env.frame=some X.env.locals)
 exf:∀b∈X.ex,b≠X.env.locals∧∀x c,X.env.cells.lookup x=some c→c≠b
 bs:∀b o,X.base.get? b=some o→X.s₀.heap.get? b=some o∧X.H₀ b=none
 bsz:X.base.objs.size≤X.s₀.heap.objs.size
 noex:∀b o,X.base.get? b=some o→b∉X.ex
 exfs:∀b∈X.ex,b∉X.fs
 funs:X.s₀.heap.FunFrames X.base X.outer
 frf:∀b∈X.fs,X.H₀ b=none
structure Inv(X:Cx)(Cr:List (Addr×Obj))(σ:List (Option V))(H:Hp)(s:Shared):Prop where
 ok:X.Ok
 os:s.os=X.s₀.os
 bare:AllBare s.gens
 base:Un X.fs X.ex X.H₀ H X.s₀.heap s.heap
 loc:∃m,s.heap.Ns X.env.locals m∧∀(i:Nat)(x:Str)(v:V),X.N[i]?=some x→σ[i]?=some (some v)→Vis X.env.scope x→∃u,RelV v u∧Look X.env s.heap m x u
 cell:∀x c,X.env.cells.lookup x=some c→∃v,s.heap.IsCell c v
 free:H X.env.locals=none
 freeC:∀x c,X.env.cells.lookup x=some c→H c=none
 pin:∀p∈X.pn++Cr,s.heap.get? p.1=some p.2∧H p.1=none∧p.1≠X.env.locals∧p.1∉X.fs∧∀v,p.2.data≠.cell v
 hok:HOk X.prog X.w H s.heap
 len:σ.length=X.N.length
section
variable{X:Cx}{Cr:List (Addr×Obj)}{σ:List (Option V)}{H H':Hp}{s:Shared}{h':Heap}
theorem Cx.Ok.nofr(ok:X.Ok){b:Addr}{o:Obj}(e:X.base.get? b=some o):b∉X.fs:=fun hb=>by
 have:=(ok.funs.mem hb).1;rw[e]at this;cases this
theorem Inv.bs(I:Inv X Cr σ H s):∀b o,X.base.get? b=some o→s.heap.get? b=some o∧H b=none:=fun b o e=>
 ⟨I.base.keep b o (I.ok.bs b o e).1 (I.ok.bs b o e).2 (I.ok.nofr e) (I.ok.noex b o e),I.base.free b o (I.ok.bs b o e).1 (I.ok.bs b o e).2 (I.ok.noex b o e)⟩
theorem Inv.bk(I:Inv X Cr σ H s):∀b o,X.base.get? b=some o→s.heap.get? b=some o:=fun b o e=>(I.bs b o e).1
theorem Inv.mod(I:Inv X Cr σ H s):Mod X.K X.mg X.base:=I.ok.mod
theorem Inv.kIn(I:Inv X Cr σ H s):X.K.In s.heap:=I.ok.mod.kin.keeps I.bk
theorem Inv.lt(I:Inv X Cr σ H s):X.env.locals<s.heap.objs.size:=let ⟨_,hn,_⟩:=I.loc;hn.lt
theorem Inv.sz(I:Inv X Cr σ H s):X.s₀.heap.objs.size≤s.heap.objs.size:=zP I.ok.above (AA I.lt)
theorem Inv.nofs(I:Inv X Cr σ H s){a:Addr}(h:s.heap.objs.size≤a):a∉X.fs:=fun hb=>by
 obtain⟨_,o,ho,_⟩:=I.ok.funs.mem hb;exact absurd (zH (yV ho) (zP I.sz h)) (Be _)
theorem Inv.cne(I:Inv X Cr σ H s):∀x c,X.env.cells.lookup x=some c→c≠X.env.locals:=fun x c e z=>by
 obtain⟨v,o,ho,hd⟩:=I.cell x c e;obtain⟨m,⟨o',es,ep,ho',hd',_⟩,_⟩:=I.loc;rw[z,ho']at ho;cases ho;rw[hd']at hd;cases hd
theorem Inv.funs(I:Inv X Cr σ H s):s.heap.FunFrames X.base X.outer:=by
 have all:∀(l:List Env),(∀b∈frs l,b∈X.fs)→X.s₀.heap.FunFrames X.base l→s.heap.FunFrames X.base l:=by
  intro l
  induction l with
  |nil=>intro _ _;trivial
  |cons env r ih=>
   intro hs hl;obtain⟨hk,⟨L,o,hf,hn,ho,hd⟩,hr⟩:=hl;have hL:L∈X.fs:=hs L (by unfold frs;rw[Bz,hf];exact zL);obtain⟨sl,e⟩:=I.base.slot L o ho (I.ok.frf L hL) hL fun z=>I.ok.exfs L z hL;exact⟨hk,⟨L,_,hf,hn,e,hd⟩,ih (fun b hb=>hs b (by unfold frs;rw[Bz,hf];exact zS _ hb)) hr⟩
 exact all X.outer (fun _ hb=>hb) I.ok.funs
theorem Inv.stack(I:Inv X Cr σ H s):s.heap.FunFrames X.base X.stack:=by
 rcases I.ok.stk with e | ⟨e,hf⟩
 ·rw[e];exact I.funs
 ·rw[e];obtain⟨m,hn,_⟩:=I.loc;refine .cons (by rw[I.ok.kind];decide) hf hn ?_ I.funs;exact Heap.get?_none_of_le (zP I.ok.bsz I.ok.above)
theorem Inv.stkSub(I:Inv X Cr σ H s):∀b∈frs X.stack,b∈X.env.locals::X.fs:=fun b hb=>by
 rcases I.ok.stk with e | ⟨e,hf⟩
 ·rw[e]at hb;exact zS _ hb
 ·rw[e]at hb;unfold frs at hb;rw[Bz,hf]at hb;exact hb
theorem Inv.stkFree(I:Inv X Cr σ H s):∀b∈frs X.stack,H b=none:=fun b hb=>by
 rcases y8.mp (I.stkSub b hb)with e | hb
 ·rw[e];exact I.free
 ·obtain⟨_,o,ho,_⟩:=I.ok.funs.mem hb;exact I.base.free b o ho (I.ok.frf b hb) fun z=>I.ok.exfs b z hb
theorem Inv.step{g':Array GenState}{t':Nat}{d':Drawn}{ch:List Addr}(I:Inv X Cr σ H s)(hch:∀b∈ch,(b∈X.ex∨X.s₀.heap.objs.size≤b)∧b≠X.env.locals∧(∀x c,X.env.cells.lookup x=some c→c≠b)∧∀p∈X.pn++Cr,p.1≠b)(keep:∀b o,b≠X.env.locals→b∉X.fs→b∉ch→s.heap.get? b=some o→H b=none→h'.get? b=some o)(slot:∀b o,b≠X.env.locals→b∈X.fs→b∉ch→s.heap.get? b=some o→H b=none→∃sl,h'.get? b=some {o with slots:=sl})(free:∀b o,b∉ch→s.heap.get? b=some o→H b=none→H' b=none)(there:∀b o,b∉ch→s.heap.get? b=some o→∃o',h'.get? b=some o')(tups:∀b xs,H b=some (.tup xs)→H' b=some (.tup xs))(frzs:∀b o u,H b=some (.frz o u)→H' b=some (.frz o u))(tbls:∀b ps,H b=some (.tbl ps)→∃more,H' b=some (.tbl (ps++more)))(ns:∀m,s.heap.Ns X.env.locals m→h'.Ns X.env.locals m)(hok:HOk X.prog X.w H' h')(hg:AllBare g'):
  Inv X Cr σ H' {s with heap:=h',gens:=g',drawn:=d',toks:=t'}:=by
 have neL:∀b o,X.s₀.heap.get? b=some o→b≠X.env.locals:=fun b o e=>y4 (zH (yV e) I.ok.above);have neC:∀b o,X.s₀.heap.get? b=some o→b∉X.ex→b∉ch:=fun b o e hx hb=>by
  rcases(hch b hb).1 with z | z
  ·exact hx z
  ·exact absurd (zH (yV e) z) (Be _)
 have cellK:∀x c,X.env.cells.lookup x=some c→∀v,s.heap.IsCell c v→h'.IsCell c v:=fun x c e v ⟨o,ho,hd⟩=>by
  have nch:c∉ch:=fun z=>(hch c z).2.2.1 x c e rfl;by_cases hc:c∈X.fs
  ·obtain⟨sl,q⟩:=slot c o (I.cne x c e) hc nch ho (I.freeC x c e);exact⟨_,q,hd⟩
  ·exact⟨o,keep c o (I.cne x c e) hc nch ho (I.freeC x c e),hd⟩
 refine⟨I.ok,I.os,hg,⟨fun b o e n hb hx=>?_,fun b o e n hb hx=>?_,fun b o e n hx=>?_,fun b o e hx=>?_,fun b xs e=>tups b xs (I.base.tups b xs e),fun b o xs e=>frzs b o xs (I.base.frzs b o xs e),fun b ps e=>?_⟩,?_,fun x c e=>?_,?_,fun x c e=>?_,fun p hp=>?_,hok,I.len⟩
 ·exact keep b o (neL b o e) hb (neC b o e hx) (I.base.keep b o e n hb hx) (I.base.free b o e n hx)
 ·obtain⟨sl,e1⟩:=I.base.slot b o e n hb hx;obtain⟨sl',e2⟩:=slot b _ (neL b o e) hb (neC b o e hx) e1 (I.base.free b o e n hx);exact⟨sl',e2⟩
 ·obtain⟨o',e1⟩:=I.base.there b o e hx;exact free b o' (neC b o e hx) e1 (I.base.free b o e n hx)
 ·obtain⟨o',e1⟩:=I.base.there b o e hx;exact there b o' (neC b o e hx) e1
 ·obtain⟨m1,e1⟩:=I.base.tbls b ps e;obtain⟨m2,e2⟩:=tbls b _ e1;exact⟨m1++m2,by rw[e2,Array.append_assoc]⟩
 ·obtain⟨m,hn,hl⟩:=I.loc;refine⟨m,ns m hn,fun i x v e1 e2 e3=>?_⟩;obtain⟨u,r,l⟩:=hl i x v e1 e2 e3;refine⟨u,r,?_⟩
  rcases l with l | ⟨k,c,e,z⟩
  ·exact .inl l
  ·exact .inr ⟨k,c,e,cellK x c e _ z⟩
 ·obtain⟨v,z⟩:=I.cell x c e;exact⟨v,cellK x c e v z⟩
 ·obtain⟨m,⟨o,_,_,ho,_⟩,_⟩:=I.loc;exact free _ o (fun z=>(hch _ z).2.1 rfl) ho I.free
 ·obtain⟨v,o,ho,hd⟩:=I.cell x c e;exact free c o (fun z=>(hch c z).2.2.1 x c e rfl) ho (I.freeC x c e)
 ·obtain⟨e,n,ne,nf,d⟩:=I.pin p hp;have nch:p.1∉ch:=fun z=>(hch p.1 z).2.2.2 p hp rfl;exact⟨keep p.1 p.2 ne nf nch e n,free p.1 p.2 nch e n,ne,nf,d⟩
theorem Inv.un{t':Nat}(I:Inv X Cr σ H s)(u:Un X.fs [] H H' s.heap h')(hok:HOk X.prog X.w H' h'):Inv X Cr σ H' {s with heap:=h',toks:=t'}:=by
 obtain⟨m,⟨o,es,ep,ho,r⟩,_⟩:=id I.loc;obtain⟨sl,hL⟩:=u.any ho I.free (by simp);exact I.step (g':=s.gens) (d':=s.drawn) (ch:=[]) (fun _ z=>nomatch z) (fun b o _ hb _ e n=>u.keep b o e n hb (by simp)) (fun b o _ hb _ e n=>u.slot b o e n hb (by simp)) (fun b o _ e n=>u.free b o e n (by simp)) (fun b o _ e=>u.there b o e (by simp)) u.tups u.frzs u.tbls (fun m' hm=>by
  obtain⟨o',es',ep',ho',r'⟩:=hm;rw[ho]at ho';cases ho';exact⟨_,es',ep',hL,r'⟩) hok I.bare
theorem Inv.call{g':Array GenState}{t':Nat}{d':Drawn}{ch:List Addr}(I:Inv X Cr σ H s)(u:Un (frs X.stack) ch H H' s.heap h')(hok:HOk X.prog X.w H' h')(hg:AllBare g')(hch:∀b∈ch,(b∈X.ex∨X.s₀.heap.objs.size≤b)∧b≠X.env.locals∧(∀x c,X.env.cells.lookup x=some c→c≠b)∧∀p∈X.pn++Cr,p.1≠b):
  Inv X Cr σ H' {s with heap:=h',gens:=g',drawn:=d',toks:=t'}:=by
 obtain⟨m,⟨o,es,ep,ho,r⟩,_⟩:=id I.loc;obtain⟨sl,hL⟩:=u.any ho I.free fun z=>(hch _ z).2.1 rfl;exact I.step (ch:=ch) hch (fun b o hL hb hc e n=>u.keep b o e n (fun z=>(y8.mp (I.stkSub b z)).elim hL hb) hc) (fun b o _ _ hc e n=>u.any e n hc) (fun b o hc e n=>u.free b o e n hc) (fun b o hc e=>u.there b o e hc) u.tups u.frzs u.tbls (fun m' hm=>by
  obtain⟨o',es',ep',ho',r'⟩:=hm;rw[ho]at ho';cases ho';exact⟨_,es',ep',hL,r'⟩) hok hg
theorem Inv.turned{t':Nat}{it:Addr}(I:Inv X Cr σ H s)(k:∀b o,b≠it→s.heap.get? b=some o→h'.get? b=some o)(hn:H it=none)(hL:it≠X.env.locals)(h1:it∈X.ex∨X.s₀.heap.objs.size≤it)(h2:∀x c,X.env.cells.lookup x=some c→c≠it)(h3:∀p∈X.pn++Cr,p.1≠it):Inv X Cr σ H {s with heap:=h',toks:=t'}:=by
 have nit:∀b u,H b=some u→b≠it:=fun b u e z=>by rw[z,hn]at e;cases e
 refine I.step (g':=s.gens) (d':=s.drawn) (ch:=[it]) (fun b hb=>?_) (fun b o _ _ hc e _=>k b o (fun z=>hc (by simp[z])) e) (fun b o _ _ hc e _=>⟨o.slots,k b o (fun z=>hc (by simp[z])) e⟩) (fun _ _ _ _ n=>n)
  (fun b o hc e=>⟨o,k b o (fun z=>hc (by simp[z])) e⟩) (fun _ _ e=>e) (fun _ _ _ e=>e) (fun b ps e=>⟨#[],by rw[e];simp⟩) (fun m hm=>?_) (fun b u e=>?_) I.bare
 ·have e:b=it:=by simpa using hb
  subst e;exact⟨h1,hL,h2,h3⟩
 ·obtain⟨o,es,ep,ho,r⟩:=hm;exact⟨o,es,ep,k _ o (Ne.symm hL) ho,r⟩
 ·refine(I.hok b u e).stay (fun c v hc q=>k c v ?_ q) (fun _ q=>q) fun _ _ q=>q
  rcases hc with z | z
  ·rw[z];exact nit b u e
  ·exact nit c _ z
theorem Inv.tok(I:Inv X Cr σ H s)(t:Nat):Inv X Cr σ H {s with toks:=t}:=I.un (h':=s.heap) (t':=t) Un.refl I.hok
theorem Inv.kept{t':Nat}(I:Inv X Cr σ H s)(k:∀b u,s.heap.get? b=some u→h'.get? b=some u):Inv X Cr σ H {s with heap:=h',toks:=t'}:=I.un (Un.kept k) (I.hok.kept k)
theorem Inv.laid{a:Addr}{o:HO}{t':Nat}(I:Inv X Cr σ H s)(k:∀b u,s.heap.get? b=some u→h'.get? b=some u)(hp:s.heap.objs.size≤a)(new:ObjOk X.prog X.w (upd H a o) h' a o):
  Inv X Cr σ (upd H a o) {s with heap:=h',toks:=t'}:=I.un (Un.laid k hp (I.hok.fresh hp)) (I.hok.laid k hp new)
theorem Inv.write{x e:Addr}{o:HO}{t':Nat}(I:Inv X Cr σ H s)(mu:Mut (H x))(he:e=x∨H e=some (.own x))(k:∀b u,b≠e→s.heap.get? b=some u→h'.get? b=some u)(heo:∃u,h'.get? e=some u)(new:ObjOk X.prog X.w (upd H x o) h' x o):Inv X Cr σ (upd H x o) {s with heap:=h',toks:=t'}:=I.un (Un.write mu he k heo) (I.hok.write mu he k heo new)
theorem Inv.weak{σ':List (Option V)}(I:Inv X Cr σ H s)(hl:σ'.length=σ.length)(w:∀(i:Nat) v,σ'[i]?=some (some v)→σ[i]?=some (some v)):Inv X Cr σ' H s:=
 ⟨I.ok,I.os,I.bare,I.base,let ⟨m,hn,hl'⟩:=I.loc;⟨m,hn,fun i x v e1 e2 e3=>hl' i x v e1 (w i v e2) e3⟩,I.cell,I.free,I.freeC,I.pin,I.hok,hl.trans I.len⟩
theorem Inv.pins_of{pins':List (Addr×Obj)}(I:Inv X Cr σ H s)(h:∀p∈pins',s.heap.get? p.1=some p.2∧H p.1=none∧p.1≠X.env.locals∧p.1∉X.fs∧∀v,p.2.data≠.cell v):Inv X pins' σ H s:=
 ⟨I.ok,I.os,I.bare,I.base,I.loc,I.cell,I.free,I.freeC,fun p hp=>(ze.mp hp).elim (fun z=>I.pin p (zI _ z)) (h p),I.hok,I.len⟩
theorem fh{N:List Str}(hN:N.Nodup){i j:Nat}{x:Str}(a:N[i]?=some x)(b:N[j]?=some x):i=j:=by
 obtain⟨h1,e1⟩:=yZ.mp a;obtain⟨h2,e2⟩:=yZ.mp b;exact(List.getElem_inj hN).mp (e1.trans e2.symm)
theorem Pq{M:Model}{A:Around}{E:Value→Shared→Prop}{i:Nat}{x:Str}{v:V}{u:Value}{Q:Unit→Shared→Prop}(I:Inv X Cr σ H s)(hN:X.N.Nodup)(hi:X.N[i]?=some x)(hx:Loc X.env.scope x)(r:RelV v u)(h:∀s',Inv X Cr (σ.set i (some v)) H s'→(∃a,Heap.SameBut a s.heap s'.heap∧(a=X.env.locals∨X.env.cells.lookup x=some a))→Q () s')(hf:X.fn x=true∨X.env.scope.names.lookup x=some .local:=by first | exact .inl rfl | exact .inr rfl | assumption):wpAny M A (storeName X.env x u) Q E s:=by
 obtain⟨m,hn,hl⟩:=id I.loc;have hcls:(X.env.scope.kind==.class || (X.env.scope.kind==.module && X.env.locals != X.env.globals))=false:=by rw[I.ok.kind];rfl
 have hiσ:i<σ.length:=by rw[I.len];exact(yZ.mp hi).1
 have cne:=I.cne;have tracked:∀{a:Addr}{h':Heap},(∃o,s.heap.get? a=some o∧H a=none)→Heap.SameBut a s.heap h'→HOk X.prog X.w H h':=fun{a h'} ha hs b ob e=>by
  obtain⟨_,_,hfree⟩:=ha;refine(I.hok b ob e).stay (fun c w' hc q=>(hs.2 c ?_).trans q) (fun _ q=>q) fun _ _ q=>q;rintro rfl
  rcases hc with rfl | hc
  ·rw[hfree]at e;cases e
  ·rw[hfree]at hc;cases hc
 rcases hx with hk | hk
 ·refine wpAny_storeName_local hk hn (fun h' hn' hs=>?_) hcls;obtain⟨oL,_,_,hoL,_⟩:=id hn;refine h _ ⟨I.ok,I.os,I.bare,⟨fun b o e n hb hx=>?_,fun b o e n hb hx=>?_,I.base.free,fun b o e hx=>?_,I.base.tups,I.base.frzs,I.base.tbls⟩,⟨_,hn',fun j y v' e1 e2 e3=>?_⟩,fun y c e=>?_,I.free,I.freeC,fun p hp=>?_,tracked ⟨oL,hoL,I.free⟩ hs,by simpa using I.len⟩ ⟨_,hs,.inl rfl⟩
  ·exact(hs.2 b (y4 (zH (yV e) I.ok.above))).trans (I.base.keep b o e n hb hx)
  ·obtain⟨sl,e1⟩:=I.base.slot b o e n hb hx;exact⟨sl,(hs.2 b (y4 (zH (yV e) I.ok.above))).trans e1⟩
  ·obtain⟨o',e1⟩:=I.base.there b o e hx;exact⟨o',(hs.2 b (y4 (zH (yV e) I.ok.above))).trans e1⟩
  ·by_cases hj:j=i
   ·subst hj;rw[hi]at e1;cases e1;rw[List.getElem?_set_self hiσ]at e2;cases e2;exact⟨u,r,.inl ⟨hk,by simp⟩⟩
   ·rw[List.getElem?_set_ne (Ne.symm hj)]at e2;obtain⟨u',r',q⟩:=hl j y v' e1 e2 e3;refine⟨u',r',?_⟩
    rcases q with⟨k,e⟩|⟨k,c,e,z⟩
    ·refine .inl ⟨k,?_⟩;have:y≠x:=fun e=>hj (fh hN e1 (e ▸ hi));simp[this,e]
    ·exact .inr ⟨k,c,e,z.sameBut hs (cne y c e)⟩
  ·obtain⟨w',z⟩:=I.cell y c e;exact⟨w',z.sameBut hs (cne y c e)⟩
  ·obtain⟨e,n,ne,nf,d⟩:=I.pin p hp;exact⟨(hs.2 p.1 ne).trans e,n,ne,nf,d⟩
 ·have hfn:X.fn x=true:=by
   rcases hf with z | z
   ·exact z
   ·rw[z]at hk;cases hk
  obtain⟨c,hc⟩:=I.ok.has x (.inl hk);obtain⟨w',z⟩:=I.cell x c hc;refine wpAny_storeName_cell I.ok.kind hk hc z (fun h' hc' hs=>?_);obtain⟨oc,hoc,hocd⟩:=id z;refine h {s with heap:=h'} ⟨I.ok,I.os,I.bare,⟨fun b o e n hb hx=>?_,fun b o e n hb hx=>?_,I.base.free,fun b o e hx=>?_,I.base.tups,I.base.frzs,I.base.tbls⟩,⟨m,hn.sameBut hs (Ne.symm (cne x c hc)),fun j y v' e1 e2 e3=>?_⟩,fun y c' e=>?_,I.free,I.freeC,fun p hp=>?_,tracked ⟨oc,hoc,I.freeC x c hc⟩ hs,by simpa using I.len⟩ ⟨c,hs,.inr hc⟩
  ·exact(hs.2 b (y4 (zH (yV e) (I.ok.cab x c hfn hc)))).trans (I.base.keep b o e n hb hx)
  ·obtain⟨sl,e1⟩:=I.base.slot b o e n hb hx;exact⟨sl,(hs.2 b (y4 (zH (yV e) (I.ok.cab x c hfn hc)))).trans e1⟩
  ·obtain⟨o',e1⟩:=I.base.there b o e hx;exact⟨o',(hs.2 b (y4 (zH (yV e) (I.ok.cab x c hfn hc)))).trans e1⟩
  ·by_cases hj:j=i
   ·subst hj;rw[hi]at e1;cases e1;rw[List.getElem?_set_self hiσ]at e2;cases e2;exact⟨u,r,.inr ⟨.inl hk,c,hc,hc'⟩⟩
   ·rw[List.getElem?_set_ne (Ne.symm hj)]at e2;obtain⟨u',r',q⟩:=hl j y v' e1 e2 e3;refine⟨u',r',?_⟩
    rcases q with q | ⟨k,c',e,z'⟩
    ·exact .inl q
    ·refine .inr ⟨k,c',e,z'.sameBut hs ?_⟩;rintro rfl;exact hj (fh hN e1 (I.ok.inj _ _ _ e hc ▸ hi))
  ·by_cases hcc:c'=c
   ·subst hcc;exact⟨_,hc'⟩
   ·obtain⟨w2,z2⟩:=I.cell y c' e;exact⟨w2,z2.sameBut hs hcc⟩
  ·obtain⟨e,n,ne,nf,d⟩:=I.pin p hp;refine⟨(hs.2 p.1 ?_).trans e,n,ne,nf,d⟩;intro q;rw[q,hoc]at e;have q':oc=p.2:=zT e;exact d w' (by rw[←q'];exact hocd)
theorem f7{M:Model}{A:Around}{E:Value→Shared→Prop}{i:Nat}{x:Str}{v:V}{u:Value}{Q:Unit→Shared→Prop}(I:Inv X Cr σ H s)(hN:X.N.Nodup)(hi:X.N[i]?=some x)(hx:Loc X.env.scope x)(r:RelV v u)(h:∀s',Inv X Cr (σ.set i (some v)) H s'→Q () s')(hf:X.fn x=true∨X.env.scope.names.lookup x=some .local:=by first | exact .inl rfl | exact .inr rfl | assumption):wpAny M A (storeName X.env x u) Q E s:=
 Pq I hN hi hx r (fun s' I' _=>h s' I') hf
theorem Inv.call'{s':Shared}{ch:List Addr}(I:Inv X Cr σ H s)(ho:s'.os=s.os)(u:Un (frs X.stack) ch H H' s.heap s'.heap)(hok:HOk X.prog X.w H' s'.heap)(hg:AllBare s'.gens)(hch:∀b∈ch,(b∈X.ex∨X.s₀.heap.objs.size≤b)∧b≠X.env.locals∧(∀x c,X.env.cells.lookup x=some c→c≠b)∧∀p∈X.pn++Cr,p.1≠b):Inv X Cr σ H' s':=by
 obtain⟨h',g',d',t',o'⟩:=s';have e:o'=s.os:=ho;subst e;exact I.call (g':=g') (t':=t') (d':=d') u hok hg hch
end
abbrev XK:=Value→Option Addr→Hp→Prop
abbrev St:=List (Option V)
abbrev VK:=V→Hp→Prop
abbrev TE:=St→Hp→VK→Prop
abbrev TT:=St→Hp→(Bool→Hp→Prop)→Prop
abbrev TA:=St→Hp→(List V→Hp→Prop)→Prop
structure Ends where
 nx:St→Hp→Prop
 rt:VK
 bk:St→Hp→Prop:=fun _ _=>False
 ct:St→Hp→Prop:=fun _ _=>False
abbrev TS:=Ends→St→Hp→Prop
def EP(X:Cx)(Cr:List (Addr×Obj))(σ:St)(Q:VK)(u:Value)(s':Shared):Prop:=∃v H',Inv X Cr σ H' s'∧RelV v u∧Q v H'
def TP(X:Cx)(Cr:List (Addr×Obj))(σ:St)(Q:Bool→Hp→Prop)(b:Bool)(s':Shared):Prop:=∃H',Inv X Cr σ H' s'∧Q b H'
def AP(X:Cx)(Cr:List (Addr×Obj))(σ:St)(Q:List V→Hp→Prop)(us:List Value)(s':Shared):Prop:=∃vs H',Inv X Cr σ H' s'∧Vals vs us∧Q vs H'
def SP(X:Cx)(Cr:List (Addr×Obj))(D:Ends)(f:Flow)(s':Shared):Prop:=
 match f with
 |.next=>∃σ' H',Inv X Cr σ' H' s'∧D.nx σ' H'
 |.brk=>∃σ' H',Inv X Cr σ' H' s'∧D.bk σ' H'
 |.cont=>∃σ' H',Inv X Cr σ' H' s'∧D.ct σ' H'
 |.ret u=>∃v σ' H',Inv X Cr σ' H' s'∧RelV v u∧D.rt v H'
def PE(X:Cx)(e:Expr)(t:TE):Prop:=
 ∀(Cr:List (Addr×Obj))(s:Shared)(σ:St)(H:Hp)(Q:VK),Inv X Cr σ H s→t σ H Q→wpAny (model X.prog X.w) X.A (eval e X.env) (EP X Cr σ Q) X.xe s
def PT(X:Cx)(e:Expr)(t:TT):Prop:=
 ∀(Cr:List (Addr×Obj))(s:Shared)(σ:St)(H:Hp)(Q:Bool→Hp→Prop),Inv X Cr σ H s→t σ H Q→wpAny (model X.prog X.w) X.A (isTrue e X.env (eval e X.env)) (TP X Cr σ Q) X.xe s
def PW(X:Cx)(e:Expr)(t:TT):Prop:=
 ∀(whole:Sem Value)(Cr:List (Addr×Obj))(s:Shared)(σ:St)(H:Hp)(Q:Bool→Hp→Prop),Inv X Cr σ H s→t σ H Q→wpAny (model X.prog X.w) X.A (isTrue e X.env whole) (TP X Cr σ Q) X.xe s
theorem PW.pt{X:Cx}{e:Expr}{t:TT}(h:PW X e t):PT X e t:=h _
def PA(X:Cx)(es:List Expr)(t:TA):Prop:=
 ∀(pos:Pos)(Cr:List (Addr×Obj))(s:Shared)(σ:St)(H:Hp)(Q:List V→Hp→Prop),Inv X Cr σ H s→t σ H Q→wpAny (model X.prog X.w) X.A (spliced (backTo pos (starEach es X.env))) (AP X Cr σ Q) X.xe s
def PS(X:Cx)(st:Stmt)(t:TS):Prop:=
 ∀(Cr:List (Addr×Obj))(s:Shared)(σ:St)(H:Hp)(D:Ends),Inv X Cr σ H s→t D σ H→wpAny (model X.prog X.w) X.A (exec st X.env) (SP X Cr D) X.xe s
def PSs(X:Cx)(st:List Stmt)(t:TS):Prop:=
 ∀(Cr:List (Addr×Obj))(s:Shared)(σ:St)(H:Hp)(D:Ends),Inv X Cr σ H s→t D σ H→wpAny (model X.prog X.w) X.A (execs st X.env) (SP X Cr D) X.xe s
theorem thn{α:Type}{t:Sem α}{Q Q':α→Shared→Prop}{M:Model}{A:Around}{E:Value→Shared→Prop}{s:Shared}(h:wpAny M A t Q E s)(hQ:∀a s,Q a s→Q' a s):wpAny M A t Q' E s:=Af h hQ fun _ _ x=>x
section
variable{X:Cx}
def wB(i:Nat):TE:=fun σ H Q=>∃v,σ[i]?=some (some v)∧Q v H
def tC(v:V):TE:=fun _ H Q=>Q v H
theorem wt{i:Nat}{x:Str}{pos:Pos}(hN:X.N[i]?=some x)(hv:Vis X.env.scope x)(hd:(x==("__debug__":Str))=false:=by decide)(hcd:(x==("__classdict__":Str))=false:=by decide):PE X (.Name x pos) (wB i):=by
 intro Cr s σ H Q I h;obtain⟨v,e,h⟩:=h;obtain⟨m,hn,hl⟩:=I.loc;obtain⟨u,r,l⟩:=hl i x v hN e hv;have fin:EP X Cr σ Q u s:=⟨v,H,I,r,h⟩
 rcases l with⟨hk,hm⟩|⟨hk,c,hc,hcell⟩
 ·exact wpAny_Name (wpAny_loadName_local I.ok.kind hk hn hm fin) hd
 ·rcases hk with hk | hk
  ·exact wpAny_Name (wpAny_loadName_cell I.ok.kind hk hc hcell fin) hd
  ·exact wpAny_Name (wpAny_loadName_free I.ok.kind hk hc hcell fin hcd) hd
theorem Z3{i j pos}:PE X (.Constant (.int i) j pos) (tC (.int i)):=fun _ _ _ H _ I h=>wpAny_Constant_int ⟨.int i,H,I.tok _,⟨_,rfl⟩,h⟩
theorem Ur{b j pos}:PE X (.Constant (.bool b) j pos) (tC (.bl b)):=fun _ _ _ H _ I h=>Constant_bool ⟨.bl b,H,I,rfl,h⟩
theorem pD{j pos}:PE X (.Constant .none j pos) (tC .non):=fun _ _ _ H _ I h=>Constant_none ⟨.non,H,I,rfl,h⟩
theorem S6{x j pos}:PE X (.Constant (.str x) j pos) (tC (.str x)):=fun _ _ _ H _ I h=>Calls.Constant_str ⟨.str x,H,I.tok _,⟨_,rfl⟩,h⟩
def Gl(X:Cx)(x:Str):Prop:=X.env.kindOf x=some .globalImplicit
theorem uc{E:Value→Shared→Prop}{Cr:List (Addr×Obj)}{s:Shared}{σ:St}{H:Hp}{x:Str}{u:Value}{pos:Pos}{Q:Value→Shared→Prop}(I:Inv X Cr σ H s)(hg:Gl X x)(hm:X.mg x=some u)(h:Q u s)(hd:(x==("__debug__":Str))=false:=by decide):wpAny (model X.prog X.w) X.A (eval (.Name x pos) X.env) Q E s:=
 Calls.Name_function_global I.ok.kind hg (Calls.loadGlobal_global (by rw[I.ok.glob];exact I.mod.glob.keeps I.bk) hm h) hd
theorem Ng{E:Value→Shared→Prop}{Cr:List (Addr×Obj)}{s:Shared}{σ:St}{H:Hp}{x:Str}{u:Value}{pos:Pos}{Q:Value→Shared→Prop}(I:Inv X Cr σ H s)(hg:Gl X x)(hm:X.mg x=none)(hv:bootBuiltins x=some u)(h:Q u s)(hn:x≠"__name__":=by decide)(hd:(x==("__debug__":Str))=false:=by decide):wpAny (model X.prog X.w) X.A (eval (.Name x pos) X.env) Q E s:=by
 obtain⟨mb,h1,h2⟩:=I.mod.blt;exact Calls.Name_function_global I.ok.kind hg (Calls.loadGlobal_builtin (by rw[I.ok.glob];exact I.mod.glob.keeps I.bk) hm (by rw[I.ok.blt];exact h1.keeps I.bk) ((h2 x hn).trans hv) h) hd
theorem Uf{x:Str}{v:V}{u:Value}{pos:Pos}(hg:Gl X x)(hm:X.mg x=none)(hv:bootBuiltins x=some u)(r:RelV v u)(hn:x≠"__name__":=by decide)(hd:(x==("__debug__":Str))=false:=by decide):PE X (.Name x pos) (tC v):=
 fun _ _ _ H _ I h=>Ng I hg hm hv ⟨v,H,I,r,h⟩ hn hd
variable{a b:Expr}{ta tb:TE}{pos:Pos}
def tB(t:TE):TT:=fun σ H Q=>t σ H fun x H1=>∃c,x=.bl c∧Q c H1
theorem T3{e:Expr}{t:TE}(h:PE X e t)(he:∀whole,isTrue e X.env whole=(do let v ←whole;standAt e.pos;holding [v] (truthy v)):=by intro _;rfl):PT X e (tB t):=by
 intro Cr s σ H Q I hw;refine isTrue_plain (thn (h Cr s σ H _ I hw) fun v s1 ⟨x,H1,I1,r1,q1⟩=>?_) (he _);obtain⟨d,rfl,q⟩:=q1;cases r1;exact Aw ⟨H1,I1,q⟩
variable{tA tB':TT}{rest:List Expr}
def tAnd(t u:TT):TT:=fun σ H Q=>t σ H fun c H1=>if c=true then u σ H1 Q else Q false H1
def tOr(t u:TT):TT:=fun σ H Q=>t σ H fun c H1=>if c=true then Q true H1 else u σ H1 Q
def tNot(t:TT):TT:=fun σ H Q=>t σ H fun c H1=>Q (!c) H1
theorem R1(ha:PT X a tA):PW X (.BoolOp .And [a] pos) tA:=by
 intro wh Cr s σ H Q I h;refine isTrue_and (thn (ha Cr s σ H Q I h) fun c s1 e=>?_);cases c with
 |true=>exact isTrue_and_nil e
 |false=>exact e
theorem N5(ha:PT X a tA):PW X (.BoolOp .Or [a] pos) tA:=by
 intro wh Cr s σ H Q I h;refine isTrue_or (thn (ha Cr s σ H Q I h) fun c s1 e=>?_);cases c with
 |false=>exact isTrue_or_nil e
 |true=>exact e
theorem N6(ha:PT X a tA)(hb:PW X (.BoolOp .And (b::rest) pos) tB'):PW X (.BoolOp .And (a::b::rest) pos) (tAnd tA tB'):=by
 intro wh Cr s σ H Q I h;refine isTrue_and (thn (ha Cr s σ H _ I h) fun c s1 Cs=>?_);obtain⟨H1,I1,q1⟩:=Cs;cases c with
 |true=>exact hb wh Cr s1 σ H1 Q I1 q1
 |false=>exact⟨H1,I1,q1⟩
theorem fi(ha:PT X a tA)(hb:PW X (.BoolOp .Or (b::rest) pos) tB'):PW X (.BoolOp .Or (a::b::rest) pos) (tOr tA tB'):=by
 intro wh Cr s σ H Q I h;refine isTrue_or (thn (ha Cr s σ H _ I h) fun c s1 Cs=>?_);obtain⟨H1,I1,q1⟩:=Cs;cases c with
 |true=>exact⟨H1,I1,q1⟩
 |false=>exact hb wh Cr s1 σ H1 Q I1 q1
theorem N7(ha:PT X a tA):PT X (.UnaryOp .Not a pos) (tNot tA):=by
 intro Cr s σ H Q I h;exact isTrue_not (ha Cr s σ H (fun c H1=>Q (!c) H1) I h)
def xT(ta tb:TE):TE:=fun σ H Q=>ta σ H fun x H1=>∃c,x=.bl c∧if c=true then tb σ H1 Q else Q (.bl false) H1
def xS(ta:TE):TE:=fun σ H Q=>ta σ H fun x H1=>∃c,x=.bl c∧Q (.bl (!c)) H1
theorem S7{op}{t:TE}(h:PE X a t):PE X (.BoolOp op [a] pos) t:=fun Cr s σ H Q I hw=>BoolOp_one (h Cr s σ H Q I hw)
theorem T6(ha:PE X a ta)(hb:PE X (.BoolOp .And (b::rest) pos) tb):PE X (.BoolOp .And (a::b::rest) pos) (xT ta tb):=by
 intro Cr s σ H Q I h;refine BoolOp_and (thn (ha Cr s σ H _ I h) fun v s1 Cs=>?_);obtain⟨x,H1,I1,r1,q1⟩:=Cs;obtain⟨c,rfl,q1⟩:=q1;cases r1;refine Aw ?_;cases c with
 |true=>exact hb Cr s1 σ H1 Q I1 q1
 |false=>exact⟨.bl false,H1,I1,rfl,q1⟩
theorem vY(ha:PE X a ta):PE X (.UnaryOp .Not a pos) (xS ta):=by
 intro Cr s σ H Q I h;refine UnaryOp_ (thn (ha Cr s σ H _ I h) fun v s1 Cs=>?_);obtain⟨x,H1,I1,r1,q1⟩:=Cs;obtain⟨c,rfl,q1⟩:=q1;cases r1;exact not_of (Aw ⟨.bl (!c),H1,I1,rfl,q1⟩)
def tIf(t:TT)(ta tb:TE):TE:=fun σ H Q=>t σ H fun c H1=>if c=true then ta σ H1 Q else tb σ H1 Q
theorem pH{c:Expr}(hc:PT X c tA)(ha:PE X a ta)(hb:PE X b tb):PE X (.IfExp c a b pos) (tIf tA ta tb):=by
 intro Cr s σ H Q I h;refine wpAny_IfExp (thn (hc Cr s σ H _ I h) fun d s1 Cs=>?_);obtain⟨H1,I1,q1⟩:=Cs;cases d with
 |true=>exact ha Cr s1 σ H1 Q I1 q1
 |false=>exact hb Cr s1 σ H1 Q I1 q1
end
def SqL(K:W.Frag)(H:Hp)(a:Addr)(xs:List V):Prop:=
 Rd H a (.lst xs)∨
  ∃(o:Obj)(its:Array Value)(n:Nat),K.lookup a=some o∧o.cls=.type "list"∧o.dict=none∧o.data=.seq its n∧its.size≤sizeLine∧Vals xs its.toList
def SqT(K:W.Frag)(H:Hp)(a:Addr)(xs:List V):Prop:=
 Rd H a (.tup xs)∨
  ∃(o:Obj)(its:Array Value)(n:Nat),K.lookup a=some o∧o.cls=.type "tuple"∧o.data=.seq its n∧its.size≤sizeLine∧Vals xs its.toList
def absV:Value→Option V
 |.none=>some .non
 |.bool b=>some (.bl b)
 |.int i _=>some (.int i)
 |.str x _=>some (.str x)
 |.bytes b _=>some (.byt b)
 |.float b _=>some (.flt b)
 |.ref a=>some (.ref a)
 |.type n=>some (.ty n)
 |_=>none
theorem RelV.abs{x:V}{u:Value}(r:RelV x u):absV u=some x:=by
 cases x with
 |non=>cases r;rfl
 |bl _=>cases r;rfl
 |int _=>obtain⟨t,rfl⟩:=r;rfl
 |str _=>obtain⟨t,rfl⟩:=r;rfl
 |byt _=>obtain⟨t,rfl⟩:=r;rfl
 |flt _=>obtain⟨t,rfl⟩:=r;rfl
 |ref _=>cases r;rfl
 |ty _=>cases r;rfl
theorem RelV.inj{x y:V}{u:Value}(r:RelV x u)(q:RelV y u):x=y:=zT (r.abs.symm.trans q.abs)
theorem Vals.inj{xs ys:List V}{us:List Value}(h:Vals xs us)(g:Vals ys us):xs=ys:=by
 induction h generalizing ys with
 |nil=>cases g;rfl
 |cons r t ih=>
  cases g with
  |cons r' t'=>rw[r.inj r',ih t']
section
variable{X:Cx}{Cr:List (Addr×Obj)}{σ:St}{H:Hp}{s:Shared}{a:Addr}{xs ys:List V}
theorem SqL.of{K:W.Frag}(h:H a=some (.lst xs)):SqL K H a xs:=.inl (.inl h)
theorem SqT.of{K:W.Frag}(h:H a=some (.tup xs)):SqT K H a xs:=.inl (.inl h)
theorem Inv.list(I:Inv X Cr σ H s)(h:SqL X.K H a xs):∃its:List Value,Vals xs its∧PlainL s.heap a its.toArray∧xs.length≤sizeLine:=by
 rcases h with h | ⟨o,its,n,hk,hc,hd,hs,hz,r⟩
 ·obtain⟨z,its,n,r,e⟩:=h.ok I.hok;exact⟨its,r,⟨_,n,e,rfl,rfl,rfl⟩,z⟩
 ·refine⟨its.toList,r,⟨o,n,I.kIn a o hk,hc,hd,by simpa using hs⟩,?_⟩;have e:=r.length;simp only[Array.length_toList]at e;omega
theorem Inv.tuple(I:Inv X Cr σ H s)(h:SqT X.K H a xs):∃its:List Value,Vals xs its∧IsTup s.heap a its.toArray∧xs.length≤sizeLine:=by
 rcases h with h | ⟨o,its,n,hk,hc,hs,hz,r⟩
 ·obtain⟨z,its,r,p⟩:=h.ok I.hok;exact⟨its,r,p.tup,z⟩
 ·refine⟨its.toList,r,⟨o,I.kIn a o hk,hc,n,by simpa using hs⟩,?_⟩;have e:=r.length;simp only[Array.length_toList]at e;omega
theorem Inv.list_inj(I:Inv X Cr σ H s)(h:SqL X.K H a xs)(h':SqL X.K H a ys):xs=ys:=by
 obtain⟨its,r,⟨o,n,e,_,_,d⟩,_⟩:=I.list h;obtain⟨its',r',⟨o',n',e',_,_,d'⟩,_⟩:=I.list h';rw[e]at e';cases e';rw[d]at d';injection d' with d1 _
 have:its=its':=by simpa using congrArg Array.toList d1
 subst this;exact r.inj r'
end
abbrev Cx.wish(X:Cx)(E:Value→Shared→Prop):Cx:={X with xe:=E}
abbrev Cx.nox(X:Cx):Cx:=X.wish fun _ _=>False
theorem Cx.Ok.wish{X:Cx}(ok:X.Ok)(E:Value→Shared→Prop):(X.wish E).Ok:=
 ⟨ok.mod,ok.kind,ok.glob,ok.blt,ok.above,ok.inj,ok.has,ok.cab,ok.hd,ok.frames,ok.stk,ok.exf,ok.bs,ok.bsz,ok.noex,ok.exfs,ok.funs,ok.frf⟩
theorem Cx.Ok.unwish{X:Cx}{E:Value→Shared→Prop}(ok:(X.wish E).Ok):X.Ok:=
 ⟨ok.mod,ok.kind,ok.glob,ok.blt,ok.above,ok.inj,ok.has,ok.cab,ok.hd,ok.frames,ok.stk,ok.exf,ok.bs,ok.bsz,ok.noex,ok.exfs,ok.funs,ok.frf⟩
section
variable{X:Cx}{Cr:List (Addr×Obj)}{σ:St}{H:Hp}{s:Shared}{E:Value→Shared→Prop}
theorem Inv.wish(I:Inv X Cr σ H s)(E:Value→Shared→Prop):Inv (X.wish E) Cr σ H s:=⟨I.ok.wish E,I.os,I.bare,I.base,I.loc,I.cell,I.free,I.freeC,I.pin,I.hok,I.len⟩
theorem Inv.unwish(I:Inv (X.wish E) Cr σ H s):Inv X Cr σ H s:=⟨I.ok.unwish,I.os,I.bare,I.base,I.loc,I.cell,I.free,I.freeC,I.pin,I.hok,I.len⟩
theorem SP.unwish{D:Ends}{f:Flow}{s':Shared}(h:SP (X.wish E) Cr D f s'):SP X Cr D f s':=by
 cases f with
 |next=>obtain⟨σ',H',I,q⟩:=h;exact⟨σ',H',I.unwish,q⟩
 |brk=>obtain⟨σ',H',I,q⟩:=h;exact⟨σ',H',I.unwish,q⟩
 |cont=>obtain⟨σ',H',I,q⟩:=h;exact⟨σ',H',I.unwish,q⟩
 |ret u=>obtain⟨v,σ',H',I,r,q⟩:=h;exact⟨v,σ',H',I.unwish,r,q⟩
theorem PSs.nox{st:List Stmt}{t:TS}(h:PSs X.nox st t):PSs X st t:=fun Cr s σ H D I hw=>
 Af (h Cr s σ H D (I.wish _) hw) (fun _ _ q=>q.unwish) fun _ _ z=>False.elim z
end
section
variable{X:Cx}{st:Stmt}{rest:List Stmt}{t u:TS}{e:Expr}{te:TE}{pos:Pos}
def w_:TS:=fun D σ H=>D.nx σ H
def xx(t u:TS):TS:=fun D σ H=>t {D with nx:=u D} σ H
theorem Zu:PSs X [] w_:=fun _ _ σ H _ I h=>wpAny_execs_nil ⟨σ,H,I,h⟩
theorem Z2(h1:PS X st t)(h2:PSs X rest u):PSs X (st::rest) (xx t u):=by
 intro Cr s σ H D I h;refine wpAny_execs_cons (thn (h1 Cr s σ H {D with nx:=u D} I h) fun f s1 q=>?_);cases f with
 |next=>
  obtain⟨σ',H',I',q⟩:=q;exact h2 Cr s1 σ' H' D I' q
 |ret v=>exact q
 |brk=>exact q
 |cont=>exact q
theorem Z8(h1:PS X st t):PSs X [st] t:=by
 intro Cr s σ H D I h;refine wpAny_execs_cons (thn (h1 Cr s σ H D I h) fun f s1 q=>?_);cases f with
 |next=>exact wpAny_execs_nil q
 |ret v=>exact q
 |brk=>exact q
 |cont=>exact q
theorem Inv.quiet{Cr:List (Addr×Obj)}{σ:St}{H:Hp}{s:Shared}(I:Inv X Cr σ H s):interactive X.env=false:=by simp[interactive,I.ok.kind]
def yc(te:TE):TS:=fun D σ H=>te σ H fun _ H1=>D.nx σ H1
theorem W6(he:PE X e te)(hs:swapsWith e none pos.line X.env=pure false:=by rfl):PS X (.Expr e pos) (yc te):=by
 intro Cr s σ H D I h;exact wpAny_Expr_any (thn (he Cr s σ H _ I h) fun v s1 ⟨x,H1,I1,r1,q1⟩=>⟨σ,H1,I1,q1⟩) I.quiet hs
def tRet(te:TE):TS:=fun D σ H=>te σ H D.rt
theorem Zg(he:PE X e te):PS X (.Return (some e) pos) (tRet te):=by
 intro Cr s σ H D I h;exact wpAny_Return_some (thn (he Cr s σ H _ I h) fun v s1 ⟨x,H1,I1,r1,q1⟩=>⟨x,σ,H1,I1,r1,q1⟩)
def tIfS(c:TT)(t u:TS):TS:=fun D σ H=>c σ H fun b H1=>if b=true then t D σ H1 else u D σ H1
theorem Yu{c:Expr}{a b:List Stmt}{tc:TT}(hc:PT X c tc)(ha:PSs X a t)(hb:PSs X b u):PS X (.If c a b pos) (tIfS tc t u):=by
 intro Cr s σ H D I h;refine wpAny_If (thn (hc Cr s σ H _ I h) fun d s1 Cs=>?_);obtain⟨H1,I1,q1⟩:=Cs;cases d with
 |true=>exact ha Cr s1 σ H1 D I1 q1
 |false=>exact hb Cr s1 σ H1 D I1 q1
end
abbrev TG:=V→St→Hp→(St→Hp→Prop)→Prop
abbrev TGs:=List V→St→Hp→(St→Hp→Prop)→Prop
def PG(X:Cx)(target:Expr)(t:TG):Prop:=
 ∀(Cr:List (Addr×Obj))(s:Shared)(σ:St)(H:Hp)(v:V)(u:Value)(Q:St→Hp→Prop),Inv X Cr σ H s→RelV v u→t v σ H Q→
  wpAny (model X.prog X.w) X.A (assign target X.env u) (fun _ s'=>∃σ' H',Inv X Cr σ' H' s'∧Q σ' H') X.xe s
def PGs(X:Cx)(ts:List Expr)(t:TGs):Prop:=
 ∀(Cr:List (Addr×Obj))(s:Shared)(σ:St)(H:Hp)(vs:List V)(us:List Value)(Q:St→Hp→Prop),Inv X Cr σ H s→Vals vs us→t vs σ H Q→
  wpAny (model X.prog X.w) X.A (assignInOrder ((assignEach ts X.env).map (·.2)) us) (fun _ s'=>∃σ' H',Inv X Cr σ' H' s'∧Q σ' H') X.xe s
abbrev wk:=V→V→V→Hp→(Hp→Prop)→Prop
def xK(X:Cx)(t:wk):Prop:=
 ∀(Cr:List (Addr×Obj))(s:Shared)(σ:St)(H:Hp)(o i v:V)(ov iv u:Value)(Q:Hp→Prop),Inv X Cr σ H s→RelV o ov→RelV i iv→RelV v u→t o i v H Q→
  wpAny (model X.prog X.w) X.A (setItem ov iv u) (fun _ s'=>∃H',Inv X Cr σ H' s'∧Q H') X.xe s
section
variable{X:Cx}{pos:Pos}
def fW(i:Nat):TG:=fun v σ H Q=>Q (σ.set i (some v)) H
theorem Za{i:Nat}{x:Str}(hN:X.N.Nodup)(hi:X.N[i]?=some x)(hx:Loc X.env.scope x)(hf:X.fn x=true∨X.env.scope.names.lookup x=some .local:=by first | exact .inl rfl | exact .inr rfl | assumption):PG X (.Name x pos) (fW i):=by
 intro Cr s σ H v u Q I r h;exact wpAny_assign_Name (f7 I hN hi hx r (fun s' I'=>⟨_,H,I',h⟩) hf)
def gNil:TGs:=fun vs σ H Q=>vs=[]∧Q σ H
def xg(t:TG)(u:TGs):TGs:=fun vs σ H Q=>∃v r,vs=v::r∧t v σ H fun σ' H'=>u r σ' H' Q
theorem Yb:PGs X [] gNil:=by
 intro Cr s σ H vs us Q I r h;obtain⟨e,h⟩:=h;subst e;cases r;exact assignInOrder_nil ⟨σ,H,I,h⟩
theorem Zc{e:Expr}{es:List Expr}{t:TG}{u:TGs}(h1:PG X e t)(h2:PGs X es u)(hs:(assignEach (e::es) X.env).map (·.2)=assign e X.env::(assignEach es X.env).map (·.2):=by rfl):PGs X (e::es) (xg t u):=by
 intro Cr s σ H vs us Q I r h;obtain⟨v,vr,e1,h⟩:=h;subst e1;cases r with
 |cons r rr=>
  rw[hs];refine assignInOrder_cons (thn (h1 Cr s σ H _ _ _ I r h) fun _ s1 Cs=>?_);obtain⟨σ1,H1,I1,q1⟩:=Cs;exact h2 Cr s1 σ1 H1 _ _ Q I1 rr q1
def xG(K:W.Frag)(n:Nat)(t:TGs):TG:=fun v σ H Q=>∃a xs,v=.ref a∧SqT K H a xs∧xs.length=n∧t xs σ H Q
theorem W1{es:List Expr}{k:Nat}{t:TGs}{n:Nat}(hc:X.calm=true)(h:PGs X es t)(hn:(assignEach es X.env).length=n:=by rfl)(hst:(assignEach es X.env).findIdx? (·.1)=none:=by rfl):PG X (.Tuple es k pos) (xG X.K n t):=by
 intro Cr s σ H v u Q I r hw;obtain⟨a,xs,e1,hq,hl,hw⟩:=hw;subst e1;cases r;obtain⟨its,rv,ht,hz⟩:=I.tuple hq;refine assign_Tuple_tuple (I.ok.hd hc) ht (by simp[hn,←hl,rv.length]) hst fun h' hx=>?_;have I1:Inv X Cr σ H {s with heap:=h'}:=I.kept (t':=s.toks) fun b o e=>hx b o (y4 (yV e)) e;exact h Cr _ σ H xs _ Q I1 (by simpa using rv) hw
def gSub(to ti:TE)(t:wk):TG:=fun v σ H Q=>to σ H fun o H1=>ti σ H1 fun i H2=>t o i v H2 fun H3=>Q σ H3
theorem iB{o i:Expr}{to ti:TE}{t:wk}(ho:PE X o to)(hi:PE X i ti)(hs:xK X t)(ha:∀v,assign (.Subscript o i pos) X.env v=(do
   let ov ←holding [v] (eval o X.env)
   let iv ←holding [v,ov] (eval i X.env)
   standAt pos
   holding [v,ov,iv] (setItem ov iv v)
   release [v,ov,iv] []):=by intro _;rfl):PG X (.Subscript o i pos) (gSub to ti t):=by
 intro Cr s σ H v u Q I r h;rw[ha];refine io (zK (thn (ho Cr s σ H _ I h) fun ov s1 Cs=>?_));obtain⟨x,H1,I1,r1,q1⟩:=Cs;refine io (zK (thn (hi Cr s1 σ H1 _ I1 q1) fun iv s2 Cs=>?_));obtain⟨y,H2,I2,r2,q2⟩:=Cs;refine io (wpAny_standAt (io (zK (thn (hs Cr s2 σ H2 x y v ov iv u _ I2 r1 r2 r q2) fun _ s3 Cs=>?_))));obtain⟨H3,I3,q3⟩:=Cs;exact wpAny_release ⟨σ,H3,I3,q3⟩
def oN(te:TE)(g:TG):TS:=fun D σ H=>te σ H fun x H1=>g x σ H1 D.nx
theorem We{tg e:Expr}{te:TE}{g:TG}(he:PE X e te)(hg:PG X tg g)(hs:swapsWithSole [tg] e pos.line X.env=pure false:=by rfl)(hw:swappedStores [tg] e X.env=pure none:=by rfl)(h1:(assignEach [tg] X.env).map (·.2)=[assign tg X.env]:=by rfl):PS X (.Assign [tg] e pos) (oN te g):=by
 intro Cr s σ H D I h;refine wpAny_Assign_stores (thn (he Cr s σ H _ I h) fun v s1 ⟨x,H1,I1,r1,q1⟩=>?_) hs hw;rw[h1];exact thn (hg Cr s1 σ H1 x v _ I1 r1 q1) fun _ s2 q=>q
theorem N8{i:Nat}{x:Str}{e:Expr}{te:TE}{pos':Pos}(hN:X.N.Nodup)(hi:X.N[i]?=some x)(hx:Loc X.env.scope x)(he:PE X e te)(hs:swapsWith e (some (.Name x pos')) pos.line X.env=pure false:=by rfl)(hf:X.fn x=true∨X.env.scope.names.lookup x=some .local:=by first | exact .inl rfl | exact .inr rfl | assumption):
  PS X (.Assign [.Name x pos'] e pos) (oN te (fW i)):=by
 intro Cr s σ H D I h;refine wpAny_Assign_Name (thn (he Cr s σ H _ I h) fun v s1 Cs=>?_) hs;obtain⟨y,H1,I1,r1,q1⟩:=Cs;exact f7 I1 hN hi hx r1 (fun s2 I2=>⟨_,H1,I2,q1⟩) hf
end
section
variable{X:Cx}{pos:Pos}
def nB(c:TT)(tb:TS):TS:=fun D σ H=>∃W:Nat→St→Hp→Prop,(∃m,W m σ H)∧∀m σ H,W m σ H→
 c σ H fun b H1=>if b=true then ∃N:St→Hp→Prop,(∀σ' H',N σ' H'→∃m',m'<m∧W m' σ' H')∧tb {D with nx:=N,ct:=N,bk:=D.nx} σ H1 else D.nx σ H1
theorem Ry{c:Expr}{body:List Stmt}{tc:TT}{tb:TS}(hp:PassesOwn (model X.prog X.w) X.A X.env X.xe)(hc:PT X c tc)(hb:PSs X body tb):PS X (.While c body [] pos) (nB tc tb):=by
 intro Cr s σ H D I h;obtain⟨W,⟨m0,w0⟩,turn⟩:=h;refine wpAny_While (codeAny_whileLoop (fun n s'=>∃σ' H',Inv X Cr σ' H' s'∧W n σ' H') ?_ m0 ⟨σ,H,I,w0⟩);rintro n s1 ⟨σ1,H1,I1,w1⟩;refine Bk hp (thn (hc Cr s1 σ1 H1 _ I1 (turn n σ1 H1 w1)) fun b s2 Cs=>?_);obtain⟨H2,I2,q2⟩:=Cs;cases b with
 |true=>
  obtain⟨N,hN,q2⟩:=q2;rw[yL rfl];refine Bk hp (thn (hb Cr s2 σ1 H2 _ I2 q2) fun f s3 q3=>?_);cases f with
  |next=>
   obtain⟨σ3,H3,I3,n3⟩:=q3;obtain⟨m',hm,w3⟩:=hN σ3 H3 n3;exact⟨m',hm,σ3,H3,I3,w3⟩
  |cont=>
   obtain⟨σ3,H3,I3,n3⟩:=q3;obtain⟨m',hm,w3⟩:=hN σ3 H3 n3;exact⟨m',hm,σ3,H3,I3,w3⟩
  |brk=>exact q3
  |ret v=>exact q3
 |false=>
  rw[yK yT];exact wpAny_execs_nil ⟨σ1,H2,I2,q2⟩
end
structure It where
 go:Nat→Hp→Prop
 yld:Nat→Hp→V→Hp→Prop
 stop:Nat→Hp→Prop
def ck(X:Cx)(Cr:List (Addr×Obj))(H:Hp)(b:Addr):Prop:=
 H b=none∧b≠X.env.locals∧b∉X.fs∧(b∈X.ex∨X.s₀.heap.objs.size≤b)∧(∀x c,X.env.cells.lookup x=some c→c≠b)∧∀p∈X.pn++Cr,p.1≠b
theorem Inv.fpOk{X:Cx}{Cr:List (Addr×Obj)}{σ:St}{H H':Hp}{s:Shared}{b:Addr}(I:Inv X Cr σ H s)(hb:s.heap.objs.size≤b)(hn:H' b=none):ck X Cr H' b:=by
 refine⟨hn,Ah (zH I.lt hb),I.nofs hb,.inr (zP I.sz hb),fun x c e z=>?_,fun p hp z=>?_⟩
 ·obtain⟨v,q⟩:=I.cell x c e;exact absurd (zH q.lt (by rw[z];exact hb)) (Be _)
 ·exact absurd (zH (yV (I.pin p hp).1) (by rw[z];exact hb)) (Be _)
structure Turn(P:Program)(w:World)(K:W.Frag)(tg:Expr)(J:It)(fp:List Addr)(it:Addr)(tn:Nat→Heap→Prop):Prop where
 mem:it∈fp
 obj:∀i h,tn i h→∀b∈fp,∃o,h.get? b=some o∧∀v,o.data≠.cell v
 keep:∀i h h',tn i h→(∀b∈fp,∀o,h.get? b=some o→h'.get? b=some o)→tn i h'
 item:∀(X:Cx),X.prog=P→X.w=w→X.K=K→X.calm=true→∀(i:Nat)(Cr:List (Addr×Obj))(s:Shared)(σ:St)(H:Hp)(E:Value→Shared→Prop),Inv X Cr σ H s→(∀b∈fp,ck X Cr H b)→tn i s.heap→J.go i H→
  wpAny (model P w) X.A (pyNext (.ref it)) (fun r s1=>∃u,r=some u∧
   wpAny (model P w) X.A (letOwnedTupleGo tg (.ref it) u) (fun _ s2=>∃x H',Inv X Cr σ H' s2∧RelV x u∧J.yld i H x H'∧tn (i+1) s2.heap∧∀b∈fp,H' b=none) E s1) E s
 done:∀(X:Cx),X.prog=P→X.w=w→X.K=K→X.calm=true→∀(i:Nat)(Cr:List (Addr×Obj))(s:Shared)(σ:St)(H:Hp)(E:Value→Shared→Prop),Inv X Cr σ H s→(∀b∈fp,ck X Cr H b)→tn i s.heap→J.stop i H→
  wpAny (model P w) X.A (pyNext (.ref it)) (fun r s1=>r=none∧Inv X Cr σ H s1) E s
 self:∀(A:Around)(i:Nat)(s:Shared)(Q:Value→Shared→Prop)(E:Value→Shared→Prop),tn i s.heap→Q (.ref it) s→wpAny (model P w) A (pyIter (.ref it)) Q E s
abbrev TI:=St→Hp→(It→Hp→Prop)→Prop
def PIE(X:Cx)(Cr:List (Addr×Obj))(σ:St)(tg:Expr)(R:It→Hp→Prop)(itv:Value)(s2:Shared):Prop:=
 ∃(it:Addr)(fp:List Addr)(tn:Nat→Heap→Prop)(J:It)(H':Hp),itv=.ref it∧Inv X Cr σ H' s2∧Turn X.prog X.w X.K tg J fp it tn∧tn 0 s2.heap∧(∀b∈fp,ck X Cr H' b)∧R J H'
def PI(X:Cx)(tg iter:Expr)(wi:TI):Prop:=
 ∀(Cr:List (Addr×Obj))(s:Shared)(σ:St)(H:Hp)(R:It→Hp→Prop),Inv X Cr σ H s→wi σ H R→
  wpAny (model X.prog X.w) X.A (eval iter X.env) (fun v s1=>wpAny (model X.prog X.w) X.A (pyIter v) (PIE X Cr σ tg R) X.xe s1) X.xe s
theorem m6{M:Model}{A:Around}{E:Value→Shared→Prop}{s:Shared}{tg:Expr}{it:Addr}{u:Value}{o:Obj}{n:String}{vs:Array Value}{Q:Unit→Shared→Prop}(ho:s.heap.get? it=some o)(hc:o.cls=.type n)(hd:o.data=.fields vs)(hn:["enumerate","zip","dict_itemiterator","dict_reverseitemiterator","odict_iterator","itertools.zip_longest","itertools.pairwise"].contains n=false)(hQ:Q () s):wpAny M A (letOwnedTupleGo tg (.ref it) u) Q E s:=by
 unfold letOwnedTupleGo;cases tg <;> first
  |exact yI hQ
  | (cases u <;> first
    |exact yI hQ
    | (refine io (Cc ho ?_)
       rw[hc,hd];show wpAny M A (if (["enumerate","zip","dict_itemiterator","dict_reverseitemiterator","odict_iterator","itertools.zip_longest","itertools.pairwise"].contains n && vs[0]? == some (rawInt _))=true then _ else _) Q E s;rw[yK (by intro h;rw[hn,BC]at h;cases h)];exact yI hQ))
def Itl(K:W.Frag)(a:Addr):It:=
 ⟨fun i H=>∃xs x,SqL K H a xs∧xs[i]?=some x,fun i H x H'=>H'=H∧∀xs,SqL K H a xs→xs[i]?=some x,fun i H=>∃xs,SqL K H a xs∧xs.length≤i⟩
def Itr(lo:Int)(n:Nat):It:=⟨fun i _=>i<n,fun i H x H'=>H'=H∧x=.int (lo+i),fun i _=>n≤i⟩
theorem mJ{P:Program}{w:World}{K:W.Frag}{tg:Expr}(a it:Addr):Turn P w K tg (Itl K a) [it] it (fun i h=>h.IsListIter it a i) where
 mem:=by simp
 obj:=fun i h st b hb=>by
  have e:b=it:=by simpa using hb
  subst e;obtain⟨o,e,c,d⟩:=st;exact⟨o,e,fun v z=>by rw[d]at z;cases z⟩
 keep:=fun i h h' st k=>st.at fun o e=>k it (by simp) o e
 item:=by
  intro X hP hw hK hc i Cr s σ H E I hf st hg;subst hP hw hK;obtain⟨xs,x,hq,hx⟩:=hg;obtain⟨its,rv,p,hz⟩:=I.list hq;obtain⟨u,hu,ru⟩:=rv.get hx;obtain⟨f0,f1,f2,f3,f4,f5⟩:=hf it (by simp);refine wpAny_pyNext_list_item st p.isList (x:=u) (by simpa using hu) fun h' CI sb=>?_;have I1:Inv X Cr σ H {s with heap:=h'}:=I.turned (t':=s.toks) (fun b o hb e=>(sb.2 b hb).trans e) f0 f1 f3 f4 f5;obtain⟨o,e,c,d⟩:=id CI;exact⟨u,rfl,m6 (s:={s with heap:=h'}) e c d (by decide) ⟨x,H,I1,ru,⟨rfl,fun ys hy=>by rw[I.list_inj hy hq];exact hx⟩,CI,fun b hb=>(hf b hb).1⟩⟩
 done:=by
  intro X hP hw hK hc i Cr s σ H E I hf st hg;subst hP hw hK;obtain⟨xs,hq,hx⟩:=hg;obtain⟨its,rv,p,hz⟩:=I.list hq;obtain⟨f0,f1,f2,f3,f4,f5⟩:=hf it (by simp);have hl:=rv.length;exact wpAny_pyNext_list_end (I.ok.hd hc) st p.isList (by simp;omega) fun h' eb=>⟨rfl,I.turned (t':=s.toks) (fun b o hb e=>eb b o hb e) f0 f1 f3 f4 f5⟩
 self:=fun _ _ _ _ _ st h=>wpAny_pyIter_listiter st h
theorem iU{P:Program}{w:World}{K:PySem.W.Frag}{tg:Expr}(it:Addr)(lo:Int)(n:Nat):Turn P w K tg (Itr lo n) [it] it (fun i h=>IsRangeIter h it (lo+(i:Nat)*1) ((n:Int)-(i:Nat)) 1) where
 mem:=by simp
 obj:=fun i h st b hb=>by
  have e:b=it:=by simpa using hb
  subst e;exact⟨_,st,fun v z=>by
   have z':Data.fields _=Data.cell v:=z;cases z'⟩
 keep:=fun i h h' st k=>k it (by simp) _ st
 item:=by
  intro X hP hw hK hc i Cr s σ H E I hf st hg;subst hP hw hK;obtain⟨f0,f1,f2,f3,f4,f5⟩:=hf it (by simp);have W:=Walks.range (prog:=X.prog) (w:=X.w) (I.ok.hd hc) it lo 1 n;refine W.item i s _ _ hg st fun v h' tk hv CI kk=>?_;obtain⟨t,rfl⟩:=hv;have I1:Inv X Cr σ H {s with heap:=h',toks:=tk}:=I.turned (fun b o hb e=>kk b o (by simpa using hb) e) f0 f1 f3 f4 f5;refine⟨_,rfl,m6 (s:={s with heap:=h',toks:=tk}) (n:="range_iterator") CI rfl rfl (by decide) ⟨.int (lo+i),H,I1,⟨t,?_⟩,⟨rfl,rfl⟩,CI,fun b hb=>(hf b hb).1⟩⟩;rw[Bf]
 done:=by
  intro X hP hw hK hc i Cr s σ H E I hf st hg;subst hP hw hK;obtain⟨f0,f1,f2,f3,f4,f5⟩:=hf it (by simp);exact wpAny_pyNext_range_end (I.ok.hd hc) st (by have:n≤i:=hg;omega) fun h' eb=>⟨rfl,I.turned (t':=s.toks) (fun b o hb e=>eb b o hb e) f0 f1 f3 f4 f5⟩
 self:=fun _ _ _ _ _ st h=>wpAny_pyIter_rangeiter st h
section
variable{X:Cx}{tg:Expr}
def xU(K:W.Frag)(tl:TE):TI:=fun σ H R=>tl σ H fun x H1=>∃a,x=.ref a∧(∃xs,SqL K H1 a xs)∧R (Itl K a) H1
theorem Yi{l:Expr}{tl:TE}(hl:PE X l tl):PI X tg l (xU X.K tl):=by
 intro Cr s σ H R I h;refine thn (hl Cr s σ H _ I h) fun v s1 Cs=>?_;obtain⟨x,H1,I1,r1,q1⟩:=Cs;obtain⟨a,e,⟨xs,hq⟩,q⟩:=q1;subst e;cases r1;obtain⟨its,rv,p,hz⟩:=I1.list hq;refine BR p.isList ?_;refine⟨s1.heap.objs.size,[s1.heap.objs.size],_,_,H1,rfl,I1.kept (t':=s1.toks) fun b o e=>yJ _ e,mJ a _,⟨_,yY _ rfl,rfl,rfl⟩,fun b hb=>?_,q⟩;have e:b=s1.heap.objs.size:=by simpa using hb
 subst e;exact I1.fpOk (yM _) (I1.hok.fresh (yM _))
theorem mZ{Cr:List (Addr×Obj)}{σ:St}{H:Hp}{s:Shared}{R:It→Hp→Prop}{E:Value→Shared→Prop}{lo hi:Int}{t u v:Tok}{tk:Nat}(I:Inv X Cr σ H s)(h1:-(2^62)≤lo)(h2:lo<2^62)(h3:-(2^62)≤hi)(h4:hi<2^62)(q:R (Itr lo (hi-lo).toNat) H):wpAny (model X.prog X.w) X.A (pyIter (.ref s.heap.objs.size)) (PIE X Cr σ tg R) E {s with heap:=s.heap.push {cls:=.type "range",data:=.fields #[.int lo t,.int hi u,.int 1 v]},toks:=tk}:=by
 refine wpAny_pyIter_range (IsRange.new ..) (small_one h1 h2 h3 h4) ?_;have I1:Inv X Cr σ H {s with heap:=s.heap.push {cls:=.type "range",data:=.fields #[.int lo t,.int hi u,.int 1 v]},toks:=tk}:=I.kept fun b o e=>yJ _ e;refine⟨(s.heap.push {cls:=.type "range",data:=.fields #[.int lo t,.int hi u,.int 1 v]}).objs.size,[(s.heap.push {cls:=.type "range",data:=.fields #[.int lo t,.int hi u,.int 1 v]}).objs.size],_,_,H,rfl,
  I1.kept (t':=tk) fun b o e=>yJ _ e,iU _ lo (hi-lo).toNat,?_,fun b hb=>?_,q⟩
 ·have e1:lo+((0:Nat):Int)*1=lo:=by simp
  have e2:(((hi-lo).toNat:Nat):Int)-((0:Nat):Int)=Builtin.Range.rangeSize lo hi 1:=by rw[rangeSize_one];split <;> omega
  show IsRangeIter _ _ (lo+((0:Nat):Int)*1) ((((hi-lo).toNat:Nat):Int)-((0:Nat):Int)) 1;rw[e1,e2];exact yY _ rfl
 ·have e:b=(s.heap.push {cls:=.type "range",data:=.fields #[.int lo t,.int hi u,.int 1 v]}).objs.size:=by simpa using hb
  subst e;exact I1.fpOk (yM _) (I1.hok.fresh (yM _))
def xH(ta:TA):TI:=fun σ H R=>ta σ H fun vs H1=>∃j:Int,vs=[.int j]∧-(2^62)≤j∧j<2^62∧R (Itr 0 j.toNat) H1
theorem Xb{a:Expr}{ta:TA}{p pos:Pos}(hg:Gl X "range")(hm:X.mg "range"=none)(ha:PA X [a] ta)(hs:starEach [a] X.env=[(false,eval a X.env)]:=by rfl):PI X tg (.Call (.Name "range" p) [a] [] pos) (xH ta):=by
 intro Cr s σ H R I h;refine Call_ (Ng I hg hm boot_range (PyProof.Rows.callWith_type1 (thn (ha pos Cr s σ H _ I h) fun us s1 ⟨vs,H1,I1,r1,q1⟩=>?_) hs rfl));obtain⟨j,e,q1,q2,q⟩:=q1;subst e;cases r1 with
 |cons r rr=>
  cases rr;obtain⟨t,rfl⟩:=r;exact call_range_1 (mZ I1 (by omega) (by omega) q1 q2 (by simpa using q))
def tFor(wi:TI)(g:TG)(tb:TS):TS:=fun D σ H=>wi σ H fun J H1=>∃W:Nat→Nat→St→Hp→Prop,(∃m,W 0 m σ H1)∧∀i m σ H,W i m σ H→
 (J.stop i H∧D.nx σ H)∨(J.go i H∧∃N:St→Hp→Prop,(∀σ' H',N σ' H'→∃m',m'<m∧W (i+1) m' σ' H')∧∀x H',J.yld i H x H'→g x σ H' fun σ2 H2=>tb {D with nx:=N,ct:=N,bk:=D.nx} σ2 H2)
def cY(fp:List Addr)(h:Heap):List (Addr×Obj):=fp.filterMap fun b=>(h.get? b).map fun o=>(b,o)
theorem Vl{fp:List Addr}{h:Heap}{b:Addr}{o:Obj}(hb:b∈fp)(e:h.get? b=some o):(b,o)∈cY fp h:=List.mem_filterMap.mpr ⟨b,hb,by rw[e];rfl⟩
theorem mU{fp:List Addr}{h:Heap}{p:Addr×Obj}(hp:p∈cY fp h):p.1∈fp∧h.get? p.1=some p.2:=by
 obtain⟨b,hb,e⟩:=List.mem_filterMap.mp hp;cases q:h.get? b with
 |none=>rw[q]at e;cases e
 |some o=>
  rw[q]at e;have e':(b,o)=p:=zT e;subst e';exact⟨hb,q⟩
theorem Inv.pinned{Cr:List (Addr×Obj)}{σ:St}{H:Hp}{s:Shared}{fp:List Addr}(I:Inv X Cr σ H s)(hf:∀b∈fp,ck X Cr H b)(ho:∀b∈fp,∃o,s.heap.get? b=some o∧∀v,o.data≠.cell v):Inv X (Cr++cY fp s.heap) σ H s:=
 I.pins_of fun p hp=>(ze.mp hp).elim (fun z=>I.pin p (y3 _ z)) fun z=>by
  obtain⟨hb,e⟩:=mU z;obtain⟨f0,f1,f2,_⟩:=hf p.1 hb;obtain⟨o,e',d⟩:=ho p.1 hb;rw[e]at e';cases e';exact⟨e,f0,f1,f2,d⟩
theorem Inv.unpinned{Cr pl:List (Addr×Obj)}{σ:St}{H:Hp}{s:Shared}(I:Inv X (Cr++pl) σ H s):Inv X Cr σ H s:=I.pins_of fun p hp=>I.pin p (y3 _ (zI _ hp))
theorem Yy{iter:Expr}{body:List Stmt}{wi:TI}{g:TG}{tb:TS}{pos:Pos}(hp:PassesOwn (model X.prog X.w) X.A X.env X.xe)(hc:X.calm=true)(hi:PI X tg iter wi)(hg:PG X tg g)(hb:PSs X body tb)(hs:∀x,foldedSetIterable iter X.env x=pure x:=by intro _;rfl):PS X (.For tg iter body [] pos) (tFor wi g tb):=by
 intro Cr s σ H D I h;refine wpAny_For (thn (hi Cr s σ H _ I h) fun v s1 h1=>thn h1 fun itv s2 h2=>?_) hs;obtain⟨it,fp,tn,J,H2,e,I2,T,st2,f2,W,⟨m0,w0⟩,turn⟩:=h2;subst e;have stat:∀{H':Hp},(∀b∈fp,H' b=none)→∀b∈fp,ck X Cr H' b:=fun hn b hb=>⟨hn b hb,(f2 b hb).2⟩;refine codeAny_forLoop_any (fun n s'=>∃i σ' H',Inv X Cr σ' H' s'∧tn i s'.heap∧(∀b∈fp,H' b=none)∧W i n σ' H') ?_ m0 ⟨0,σ,H2,I2,st2,fun b hb=>(f2 b hb).1,w0⟩;rintro n s3 ⟨i,σ3,H3,I3,st3,fr3,w3⟩
 rcases turn i n σ3 H3 w3 with⟨stop,qn⟩|⟨go,N,hN,step⟩
 ·refine Bk hp (thn (T.done X rfl rfl rfl hc i Cr s3 σ3 H3 X.xe I3 (stat fr3) st3 stop) fun r s4 Cs=>?_);obtain⟨hr,I4⟩:=Cs;subst hr;exact wpAny_execs_nil ⟨σ3,H3,I4,qn⟩
 ·refine Bk hp (thn (T.item X rfl rfl rfl hc i Cr s3 σ3 H3 X.xe I3 (stat fr3) st3 go) fun r s4 Cs=>?_);obtain⟨u,hr,h4⟩:=Cs;subst hr;refine Bk hp (thn h4 fun _ s5 Cs=>?_);obtain⟨x,H5,I5,r5,y5,st5,fr5⟩:=Cs;have I5':=I5.pinned (stat fr5) (T.obj _ _ st5);refine Bk hp (thn (hg _ s5 σ3 H5 x u _ I5' r5 (step x H5 y5)) fun _ s6 Cs=>?_);obtain⟨σ6,H6,I6,q6⟩:=Cs;refine Bk hp (thn (hb _ s6 σ6 H6 _ I6 q6) fun f s7 q7=>?_);have again:∀{σ7:St}{H7:Hp},Inv X (Cr++cY fp s5.heap) σ7 H7 s7→N σ7 H7→∃m,m<n∧∃i σ' H',Inv X Cr σ' H' s7∧tn i s7.heap∧(∀b∈fp,H' b=none)∧W i m σ' H':=fun{σ7 H7} I7 n7=>by
   obtain⟨m',hm,w7⟩:=hN σ7 H7 n7;refine⟨m',hm,i+1,σ7,H7,I7.unpinned,T.keep _ _ _ st5 fun b hb o e=>(I7.pin (b,o) (y3 _ (y3 _ (Vl hb e)))).1,fun b hb=>?_,w7⟩;obtain⟨o,e,d⟩:=T.obj _ _ st5 b hb;exact(I7.pin (b,o) (y3 _ (y3 _ (Vl hb e)))).2.1
  cases f with
  |next=>obtain⟨σ7,H7,I7,n7⟩:=q7;exact again I7 n7
  |cont=>obtain⟨σ7,H7,I7,n7⟩:=q7;exact again I7 n7
  |brk=>obtain⟨σ7,H7,I7,q7⟩:=q7;exact⟨σ7,H7,I7.unpinned,q7⟩
  |ret v=>obtain⟨x7,σ7,H7,I7,r7,q7⟩:=q7;exact⟨x7,σ7,H7,I7.unpinned,r7,q7⟩
end
theorem nM{K:PySem.W.Frag}{a:Addr}{xs:List V}{g:TG}{tb:TS}{D:Ends}{σ:St}{H:Hp}(Pv:Nat→St→Hp→Prop)(h0:Pv 0 σ H)(hl:∀i σ H,i≤xs.length→Pv i σ H→SqL K H a xs)(hs:∀i x σ H,xs[i]?=some x→Pv i σ H→g x σ H fun σ2 H2=>tb {D with nx:=Pv (i+1),ct:=Pv (i+1),bk:=D.nx} σ2 H2)(hd:∀σ H,Pv xs.length σ H→D.nx σ H):
  ∃W:Nat→Nat→St→Hp→Prop,(∃m,W 0 m σ H)∧∀i m σ H,W i m σ H→
   ((Itl K a).stop i H∧D.nx σ H)∨((Itl K a).go i H∧∃N:St→Hp→Prop,(∀σ' H',N σ' H'→∃m',m'<m∧W (i+1) m' σ' H')∧∀x H',(Itl K a).yld i H x H'→g x σ H' fun σ2 H2=>tb {D with nx:=N,ct:=N,bk:=D.nx} σ2 H2):=by
 refine⟨fun i m σ H=>m=xs.length-i∧i≤xs.length∧Pv i σ H,⟨xs.length,by simp,Nat.zero_le _,h0⟩,?_⟩;rintro i m σ H ⟨rfl,hi,p⟩;have q:=hl i σ H hi p;by_cases Cz:i<xs.length
 ·refine .inr ⟨⟨xs,xs[i],q,by simp[Cz]⟩,Pv (i+1),fun σ' H' p'=>⟨xs.length-(i+1),by omega,rfl,Cz,p'⟩,fun x H' y=>?_⟩;obtain⟨e,y⟩:=y;subst e;exact hs i x σ _ (y xs q) p
 ·have e:i=xs.length:=by omega
  subst e;exact .inl ⟨⟨xs,q,yM _⟩,hd σ H p⟩
theorem lC{lo:Int}{n:Nat}{g:TG}{tb:TS}{D:Ends}{σ:St}{H:Hp}(Pv:Nat→St→Hp→Prop)(h0:Pv 0 σ H)(hs:∀i σ H,i<n→Pv i σ H→g (.int (lo+i)) σ H fun σ2 H2=>tb {D with nx:=Pv (i+1),ct:=Pv (i+1),bk:=D.nx} σ2 H2)(hd:∀σ H,Pv n σ H→D.nx σ H):
  ∃W:Nat→Nat→St→Hp→Prop,(∃m,W 0 m σ H)∧∀i m σ H,W i m σ H→
   ((Itr lo n).stop i H∧D.nx σ H)∨((Itr lo n).go i H∧∃N:St→Hp→Prop,(∀σ' H',N σ' H'→∃m',m'<m∧W (i+1) m' σ' H')∧∀x H',(Itr lo n).yld i H x H'→g x σ H' fun σ2 H2=>tb {D with nx:=N,ct:=N,bk:=D.nx} σ2 H2):=by
 refine⟨fun i m σ H=>m=n-i∧i≤n∧Pv i σ H,⟨n,by simp,Nat.zero_le _,h0⟩,?_⟩;rintro i m σ H ⟨rfl,hi,p⟩;by_cases Cz:i<n
 ·refine .inr ⟨Cz,Pv (i+1),fun σ' H' p'=>⟨n-(i+1),by omega,rfl,Cz,p'⟩,fun x H' y=>?_⟩;obtain⟨e,y⟩:=y;subst e y;exact hs i σ _ Cz p
 ·have e:i=n:=by omega
  subst e;exact .inl ⟨yM _,hd σ H p⟩
theorem Rh{c:TT}{tb:TS}{D:Ends}{σ:St}{H:Hp}(Pv:St→Hp→Prop)(μ:St→Hp→Nat)(h0:Pv σ H)(hs:∀σ H,Pv σ H→c σ H fun b H1=>if b=true then tb {D with nx:=fun σ' H'=>Pv σ' H'∧μ σ' H'<μ σ H,ct:=fun σ' H'=>Pv σ' H'∧μ σ' H'<μ σ H,bk:=D.nx} σ H1 else D.nx σ H1)(mono:∀σ H Q Q',(∀b H1,Q b H1→Q' b H1)→c σ H Q→c σ H Q'):nB c tb D σ H:=by
 refine⟨fun m σ H=>m=μ σ H∧Pv σ H,⟨_,rfl,h0⟩,?_⟩;rintro m σ H ⟨rfl,p⟩;refine mono σ H _ _ (fun b H1 q=>?_) (hs σ H p);cases b with
 |true=>exact⟨_,fun σ' H' ⟨p',l⟩=>⟨_,l,rfl,p'⟩,q⟩
 |false=>exact q
abbrev R2:=V→V→Hp→VK→Prop
def OpR(X:Cx)(f:Value→Value→Sem Value)(r:R2):Prop:=
 ∀(Cr:List (Addr×Obj))(s:Shared)(σ:St)(H:Hp)(x y:V)(v u:Value)(Q:VK),Inv X Cr σ H s→RelV x v→RelV y u→r x y H Q→
  wpAny (model X.prog X.w) X.A (f v u) (EP X Cr σ Q) X.xe s
def UnR(X:Cx)(f:Value→Sem Value)(r:V→Hp→VK→Prop):Prop:=
 ∀(Cr:List (Addr×Obj))(s:Shared)(σ:St)(H:Hp)(x:V)(v:Value)(Q:VK),Inv X Cr σ H s→RelV x v→r x H Q→
  wpAny (model X.prog X.w) X.A (f v) (EP X Cr σ Q) X.xe s
def aK(X:Cx)(f:Value)(r:List V→Hp→VK→Prop):Prop:=
 ∀(Cr:List (Addr×Obj))(s:Shared)(σ:St)(H:Hp)(xs:List V)(us:List Value)(Q:VK),Inv X Cr σ H s→Vals xs us→r xs H Q→
  wpAny (model X.prog X.w) X.A (call f us) (EP X Cr σ Q) X.xe s
def tOp(r:R2)(ta tb:TE):TE:=fun σ H Q=>ta σ H fun x H1=>tb σ H1 fun y H2=>r x y H2 Q
def tUn(r:V→Hp→VK→Prop)(ta:TE):TE:=fun σ H Q=>ta σ H fun x H1=>r x H1 Q
def rI(C:Int→Int→Prop)(g:Int→Int→V):R2:=fun x y H Q=>∃i j,x=.int i∧y=.int j∧C i j∧Q (g i j) H
def rI0(g:Int→Int→V):R2:=fun x y H Q=>∃i j,x=.int i∧y=.int j∧Q (g i j) H
def rU(g:Int→V):V→Hp→VK→Prop:=fun x H Q=>∃i,x=.int i∧Q (g i) H
section
variable{X:Cx}{a b c:Expr}{ta tb tc:TE}{pos:Pos}
theorem wA(ha:PE X a ta)(hb:PE X b tb){Cr:List (Addr×Obj)}{s:Shared}{σ:St}{H:Hp}{R:V→V→Hp→Prop}(I:Inv X Cr σ H s)(h:ta σ H fun x H1=>tb σ H1 fun y H2=>R x y H2){Q:Value→Shared→Prop}{f:Value→Value→Sem Value}(hf:∀v u s2 x y H2,Inv X Cr σ H2 s2→RelV x v→RelV y u→R x y H2→wpAny (model X.prog X.w) X.A (f v u) Q X.xe s2):
  wpAny (model X.prog X.w) X.A (eval a X.env) (fun v s₁=>wpAny (model X.prog X.w) X.A (eval b X.env) (fun u s₂=>wpAny (model X.prog X.w) X.A (f v u) Q X.xe s₂) X.xe s₁) X.xe s:=by
 refine thn (ha Cr s σ H _ I h) fun v s1 Cs=>?_;obtain⟨x,H1,I1,r1,q1⟩:=Cs;refine thn (hb Cr s1 σ H1 _ I1 q1) fun u s2 Cs=>?_;obtain⟨y,H2,I2,r2,q2⟩:=Cs;exact hf v u s2 x y H2 I2 r1 r2 q2
theorem Z9{op:Operator}{r:R2}(ho:OpR X (binaryOp op) r)(ha:PE X a ta)(hb:PE X b tb):PE X (.BinOp a op b pos) (tOp r ta tb):=by
 intro Cr s σ H Q I h;exact wpAny_BinOp (wA ha hb I h fun v u s2 x y H2 I2 rx ry q=>ho Cr s2 σ H2 x y v u Q I2 rx ry q)
theorem yi{op:UnaryOp}{r:V→Hp→VK→Prop}(ho:UnR X (unaryOp op) r)(ha:PE X a ta):PE X (.UnaryOp op a pos) (tUn r ta):=by
 intro Cr s σ H Q I h;exact UnaryOp_ (thn (ha Cr s σ H _ I h) fun v s1 ⟨x,H1,I1,r1,q1⟩=>ho Cr s1 σ H1 x v Q I1 r1 q1)
theorem opI{f:Value→Value→Sem Value}{C:Int→Int→Prop}{g:Int→Int→Int}(rule:∀(i j:Int) (t u:Tok) (s:Shared) (Q:Value→Shared→Prop) (E:Value→Shared→Prop),C i j→Q (.int (g i j) s.toks) {s with toks:=s.toks+1}→wpAny (model X.prog X.w) X.A (f (.int i t) (.int j u)) Q E s):
  OpR X f (rI C fun i j=>.int (g i j)):=by
 intro Cr s σ H x y v u Q I rx ry h;obtain⟨i,j,rfl,rfl,hc,q⟩:=h;obtain⟨t,rfl⟩:=rx;obtain⟨t',rfl⟩:=ry;exact rule i j t t' s _ _ hc ⟨.int (g i j),H,I.tok _,⟨_,rfl⟩,q⟩
theorem v8{f:Value→Value→Sem Value}{g:Int→Int→Int}(rule:∀(i j:Int) (t u:Tok) (s:Shared) (Q:Value→Shared→Prop) (E:Value→Shared→Prop),Q (.int (g i j) s.toks) {s with toks:=s.toks+1}→wpAny (model X.prog X.w) X.A (f (.int i t) (.int j u)) Q E s):
  OpR X f (rI0 fun i j=>.int (g i j)):=by
 intro Cr s σ H x y v u Q I rx ry h;obtain⟨i,j,rfl,rfl,q⟩:=h;obtain⟨t,rfl⟩:=rx;obtain⟨t',rfl⟩:=ry;exact rule i j t t' s _ _ ⟨.int (g i j),H,I.tok _,⟨_,rfl⟩,q⟩
theorem sJ{f:Value→Value→Sem Value}{g:Int→Int→Bool}(rule:∀(i j:Int) (t u:Tok) (s:Shared) (Q:Value→Shared→Prop) (E:Value→Shared→Prop),Q (.bool (g i j)) s→wpAny (model X.prog X.w) X.A (f (.int i t) (.int j u)) Q E s):
  OpR X f (rI0 fun i j=>.bl (g i j)):=by
 intro Cr s σ H x y v u Q I rx ry h;obtain⟨i,j,rfl,rfl,q⟩:=h;obtain⟨t,rfl⟩:=rx;obtain⟨t',rfl⟩:=ry;exact rule i j t t' s _ _ ⟨.bl (g i j),H,I,rfl,q⟩
def xt(i j:Int):Prop:=0<j∧j<1073741824
def vK(i j:Int):Prop:=0≤j∧j≤1000000∧i.natAbs<2^64
def CMul(i j:Int):Prop:=(-(2^64)<i∧i<2^64)∨(-(2^64)<j∧j<2^64)
theorem CMul.ok{i j:Int}(h:CMul i j):IntMulOk i j:=by
 rcases h with⟨h1,h2⟩|⟨h1,h2⟩
 ·exact .of_left (intBits_le_64 h1 h2)
 ·exact .of_right (intBits_le_64 h1 h2)
theorem Zm:OpR X (binaryOp .Add) (rI0 fun i j=>.int (i+j)):=v8 fun _ _ _ _ _ _ _ q=>add_int q
theorem X4:OpR X (binaryOp .Sub) (rI0 fun i j=>.int (i-j)):=v8 fun _ _ _ _ _ _ _ q=>sub_int q
theorem Xh:OpR X (binaryOp .Mult) (rI CMul fun i j=>.int (i*j)):=opI fun _ _ _ _ _ _ _ hc q=>mul_int q hc.ok
theorem Wq:OpR X (binaryOp .FloorDiv) (rI xt fun i j=>.int (i / j)):=opI fun i j _ _ _ _ _ hc q=>by
 have h1:(0:Int)<j:=hc.1;have h2:j<1073741824:=hc.2;exact floordiv_int (by omega) (by rw[Int.fdiv_eq_ediv_of_nonneg i (by omega)];exact q) (.inl (PyProof.noPylong_small (by omega)))
theorem Wg:OpR X (binaryOp .Mod) (rI (fun _ j=>0<j) fun i j=>.int (i % j)):=opI fun i j _ _ _ _ _ hc q=>by
 have h1:(0:Int)<j:=hc;exact mod_int' (by omega) (by rw[Int.fmod_eq_emod_of_nonneg i (by omega)];exact q)
theorem N9:OpR X (binaryOp .Pow) (rI vK fun i j=>.int (i^j.toNat)):=opI fun _ _ _ _ _ _ _ hc q=>pow_int_small hc.1 hc.2.1 hc.2.2 q
theorem Vz:OpR X (binaryOp .LShift) (rI vK fun i j=>.int (i*2^j.toNat)):=opI fun _ _ _ _ _ _ _ hc q=>lshift_int_small hc.1 hc.2.1 hc.2.2 q
theorem pM:OpR X (binaryOp .BitXor) (rI0 fun i j=>.int (Builtin.bitXor i j)):=v8 fun _ _ _ _ _ _ _ q=>xor_int q
theorem unI{f:Value→Sem Value}{g:Int→Int}(rule:∀(i:Int) (t:Tok) (s:Shared) (Q:Value→Shared→Prop) (E:Value→Shared→Prop),Q (.int (g i) s.toks) {s with toks:=s.toks+1}→wpAny (model X.prog X.w) X.A (f (.int i t)) Q E s):
  UnR X f (rU fun i=>.int (g i)):=by
 intro Cr s σ H x v Q I rx h;obtain⟨i,rfl,q⟩:=h;obtain⟨t,rfl⟩:=rx;exact rule i t s _ _ ⟨.int (g i),H,I.tok _,⟨_,rfl⟩,q⟩
theorem wx:UnR X (unaryOp .USub) (rU fun i=>.int (-i)):=unI fun _ _ _ _ _ q=>neg_int q
end
def wV:V→V→Bool
 |.non,.non=>true | .non,.int _=>true | .int _,.non=>true | .non,.bl _=>true | .bl _,.non=>true | .non,.str _=>true | .str _,.non=>true
 |.int _,.int _=>true | .bl _,.bl _=>true | .str _,.str _=>true | .byt _,.byt _=>true
 |.int _,.str _=>true | .str _,.int _=>true | .bl _,.str _=>true | .str _,.bl _=>true
 |_,_=>false
def rEq:R2:=fun x y H Q=>wV x y=true∧Q (.bl (decide (x=y))) H
def rNe:R2:=fun x y H Q=>wV x y=true∧Q (.bl (!decide (x=y))) H
theorem jS{i j:Int}:decide (V.int i=V.int j)=(i==j):=by
 rw[Ab];simp
theorem p9{i j:Bool}:decide (V.bl i=V.bl j)=(i==j):=by
 rw[Ab];simp
theorem kX{i j:Str}:decide (V.str i=V.str j)=(i==j):=by
 rw[Ab];simp
theorem kP{i j:Array UInt8}:decide (V.byt i=V.byt j)=(i.toList==j.toList):=by
 rw[Ab];cases i;cases j;simp
section
variable{X:Cx}{a b c:Expr}{ta tb tc:TE}{pos:Pos}
theorem Zt{Cr:List (Addr×Obj)}{σ:St}{H:Hp}{s:Shared}{Q:VK}{k k':Bool}(I:Inv X Cr σ H s)(q:Q (.bl k) H)(e:k=k'):EP X Cr σ Q (.bool k') s:=by
 subst e;exact⟨.bl k,H,I,rfl,q⟩
theorem Wh:OpR X (compareOp .Eq) rEq:=by
 intro Cr s σ H x y v u Q I rx ry h;obtain⟨hs,q⟩:=h;cases x with
 |non=>
  cases rx;cases y with
  |non=>cases ry;exact PySem.EqNone.eq_none_none (Zt I q (by simp))
  |bl j=>cases ry;exact PySem.EqNone.eq_none_bool (Zt I q (by simp))
  |int j=>obtain⟨t',rfl⟩:=ry;exact PySem.EqNone.eq_none_int (Zt I q (by simp))
  |str j=>obtain⟨t',rfl⟩:=ry;exact PySem.EqNone.eq_none_str (Zt I q (by simp))
  |_=>exact absurd (show false=true from hs) yT
 |bl i=>
  cases rx;cases y with
  |non=>cases ry;exact PySem.EqNone.eq_bool_none (Zt I q (by simp))
  |bl j=>cases ry;exact eq_bool (Zt I q p9)
  |str j=>obtain⟨t',rfl⟩:=ry;exact PySem.EqMixed.eq_bool_str (Zt I q (by simp))
  |_=>exact absurd (show false=true from hs) yT
 |int i=>
  obtain⟨t,rfl⟩:=rx;cases y with
  |non=>cases ry;exact PySem.EqNone.eq_int_none (Zt I q (by simp))
  |int j=>obtain⟨t',rfl⟩:=ry;exact eq_int (Zt I q jS)
  |str j=>obtain⟨t',rfl⟩:=ry;exact PySem.EqMixed.eq_int_str (Zt I q (by simp))
  |_=>exact absurd (show false=true from hs) yT
 |str i=>
  obtain⟨t,rfl⟩:=rx;cases y with
  |non=>cases ry;exact PySem.EqNone.eq_str_none (Zt I q (by simp))
  |bl j=>cases ry;exact PySem.EqMixed.eq_str_bool (Zt I q (by simp))
  |int j=>obtain⟨t',rfl⟩:=ry;exact PySem.EqMixed.eq_str_int (Zt I q (by simp))
  |str j=>obtain⟨t',rfl⟩:=ry;exact eq_str (Zt I q kX)
  |_=>exact absurd (show false=true from hs) yT
 |byt i=>
  obtain⟨t,rfl⟩:=rx;cases y with
  |byt j=>obtain⟨t',rfl⟩:=ry;exact W.eq_bytes (Zt I q kP)
  |_=>exact absurd (show false=true from hs) yT
 |_=>cases y <;> exact absurd (show false=true from hs) yT
theorem uA:OpR X (compareOp .NotEq) rNe:=by
 intro Cr s σ H x y v u Q I rx ry h;obtain⟨hs,q⟩:=h;cases x with
 |non=>
  cases rx;cases y with
  |non=>cases ry;exact PySem.EqNone.ne_none_none (Zt I q (by simp))
  |bl j=>cases ry;exact PySem.EqNone.ne_none_bool (Zt I q (by simp))
  |int j=>obtain⟨t',rfl⟩:=ry;exact PySem.EqNone.ne_none_int (Zt I q (by simp))
  |str j=>obtain⟨t',rfl⟩:=ry;exact PySem.EqNone.ne_none_str (Zt I q (by simp))
  |_=>exact absurd (show false=true from hs) yT
 |bl i=>
  cases rx;cases y with
  |non=>cases ry;exact PySem.EqNone.ne_bool_none (Zt I q (by simp))
  |bl j=>cases ry;exact ne_bool (Zt I q (Ak not p9))
  |str j=>obtain⟨t',rfl⟩:=ry;exact PySem.EqMixed.ne_bool_str (Zt I q (by simp))
  |_=>exact absurd (show false=true from hs) yT
 |int i=>
  obtain⟨t,rfl⟩:=rx;cases y with
  |non=>cases ry;exact PySem.EqNone.ne_int_none (Zt I q (by simp))
  |int j=>obtain⟨t',rfl⟩:=ry;exact ne_int (Zt I q (Ak not jS))
  |str j=>obtain⟨t',rfl⟩:=ry;exact PySem.EqMixed.ne_int_str (Zt I q (by simp))
  |_=>exact absurd (show false=true from hs) yT
 |str i=>
  obtain⟨t,rfl⟩:=rx;cases y with
  |non=>cases ry;exact PySem.EqNone.ne_str_none (Zt I q (by simp))
  |bl j=>cases ry;exact PySem.EqMixed.ne_str_bool (Zt I q (by simp))
  |int j=>obtain⟨t',rfl⟩:=ry;exact PySem.EqMixed.ne_str_int (Zt I q (by simp))
  |str j=>obtain⟨t',rfl⟩:=ry;exact ne_str (Zt I q (Ak not kX))
  |_=>exact absurd (show false=true from hs) yT
 |byt i=>
  obtain⟨t,rfl⟩:=rx;cases y with
  |byt j=>obtain⟨t',rfl⟩:=ry;exact W.ne_bytes (Zt I q (Ak not kP))
  |_=>exact absurd (show false=true from hs) yT
 |_=>cases y <;> exact absurd (show false=true from hs) yT
theorem ur:OpR X (compareOp .Lt) (rI0 fun i j=>.bl (decide (i<j))):=sJ fun _ _ _ _ _ _ _ q=>lt_int q
theorem j7:OpR X (compareOp .LtE) (rI0 fun i j=>.bl (decide (i≤j))):=sJ fun _ _ _ _ _ _ _ q=>le_int q
theorem To:OpR X (compareOp .Gt) (rI0 fun i j=>.bl (decide (j<i))):=sJ fun _ _ _ _ _ _ _ q=>gt_int q
theorem kI:OpR X (compareOp .GtE) (rI0 fun i j=>.bl (decide (j≤i))):=sJ fun _ _ _ _ _ _ _ q=>ge_int q
theorem rM:OpR X (compareOp .IsNot) (fun x y H Q=>y=.non∧Q (.bl (!decide (x=.non))) H):=by
 intro Cr s σ H x y v u Q I rx ry h;obtain⟨rfl,q⟩:=h;cases ry;refine isnot_none_gen (Zt I q ?_);cases x <;> first
  | (cases rx;rfl)
  | (obtain⟨t,rfl⟩:=rx;rfl)
theorem Zk(b:Expr){op:CmpOp}(h:op≠.In:=by decide)(h2:op≠.NotIn:=by decide):behindInMarks op b=false:=by
 have e1:(op==CmpOp.In)=false:=by cases op <;> first | rfl | exact absurd rfl h
 have e2:(op==CmpOp.NotIn)=false:=by cases op <;> first | rfl | exact absurd rfl h2
 cases b <;> simp[behindInMarks,e1,e2]
theorem Xu{op:CmpOp}{r:R2}(ho:OpR X (compareOp op) r)(ha:PE X a ta)(hb:PE X b tb)(hm:behindInMarks op b=false):PE X (.Compare a [op] [b] pos) (tOp r ta tb):=by
 intro Cr s σ H Q I h;exact wpAny_Compare1 (wA ha hb I h fun v u s2 x y H2 I2 rx ry q=>ho Cr s2 σ H2 x y v u Q I2 rx ry q) hm
def uQ(t:TE):TT:=fun σ H Q=>t σ H fun x H'=>∃k,x=.bl k∧Q k H'
theorem Zn{op:CmpOp}{r:R2}(ho:OpR X (compareOp op) r)(ha:PE X a ta)(hb:PE X b tb)(hm:behindInMarks op b=false):PT X (.Compare a [op] [b] pos) (uQ (tOp r ta tb)):=by
 intro Cr s σ H Q I h;refine wpAny_isTrue_Compare1 (thn (ha Cr s σ H _ I h) fun v s1 ⟨x,H1,I1,r1,q1⟩=>thn (hb Cr s1 σ H1 _ I1 q1) fun u s2 ⟨y,H2,I2,r2,q2⟩=>
  thn (ho Cr s2 σ H2 x y v u _ I2 r1 r2 q2) fun c s3 ⟨z,H3,I3,r3,k,e,q3⟩=>?_) hm
 subst e;cases r3;exact Aw ⟨H3,I3,q3⟩
def wI(r r':R2)(ta tb tc:TE):TE:=fun σ H Q=>ta σ H fun x H1=>tb σ H1 fun y H2=>r x y H2 fun z H3=>∃k,z=.bl k∧
 (if k=true then tc σ H3 fun w' H4=>r' y w' H4 Q else Q (.bl false) H3)
theorem o0{op op':CmpOp}{r r':R2}(ho:OpR X (compareOp op) r)(ho':OpR X (compareOp op') r')(ha:PE X a ta)(hb:PE X b tb)(hc:PE X c tc)(hm:lastMarks [op,op'] [b,c]=false:=by with_unfolding_all rfl):PT X (.Compare a [op,op'] [b,c] pos) (uQ (wI r r' ta tb tc)):=by
 intro Cr s σ H Q I h;refine isTrue_chain (thn (ha Cr s σ H _ I h) fun v s1 ⟨x,H1,I1,r1,q1⟩=>test_link (thn (hb Cr s1 σ H1 _ I1 q1) fun u s2 ⟨y,H2,I2,r2,q2⟩=>
  thn (ho Cr s2 σ H2 x y v u _ I2 r1 r2 q2) fun d s3 ⟨z,H3,I3,r3,k,e,q3⟩=>?_)) hm
 subst e;cases r3;refine Aw ?_;cases k with
 |false=>
  obtain⟨k',e',q'⟩:=q3;cases e';exact ite_ff ⟨H3,I3,q'⟩
 |true=>
  refine ite_tt (test_last (thn (hc Cr s3 σ H3 _ I3 q3) fun w' s4 ⟨z',H4,I4,r4,q4⟩=>thn (ho' Cr s4 σ H4 y z' u w' _ I4 r2 r4 q4) fun d' s5 Cs=>?_));obtain⟨z2,H5,I5,r5,k2,e2,q5⟩:=Cs;subst e2;cases r5;exact Aw ⟨H5,I5,q5⟩
theorem Nd:(sizeLine:Nat)<2^63:=by rw[sizeLine_eq];decide
theorem Xx{x:V}{us:List Value}(r:Vals [x] us):∃u,us=[u]∧RelV x u:=by
 cases r with
 |cons r1 r2=>cases r2;exact⟨_,rfl,r1⟩
theorem gi{x y:V}{us:List Value}(r:Vals [x,y] us):∃u w',us=[u,w']∧RelV x u∧RelV y w':=by
 cases r with
 |cons r1 r2=>
  cases r2 with
  |cons r3 r4=>cases r4;exact⟨_,_,rfl,r1,r3⟩
theorem mI(hc:X.calm=true):aK X (.builtin "max") (fun xs H Q=>∃i j,xs=[.int i,.int j]∧Q (.int (if j > i then j else i)) H):=by
 intro Cr s σ H xs us Q I r h;obtain⟨i,j,rfl,q⟩:=h;obtain⟨u,w',rfl,⟨t,rfl⟩,⟨t',rfl⟩⟩:=gi r;refine max_two_ints (I.ok.hd hc) fun h' tk k=>⟨_,H,I.kept k,?_,q⟩;by_cases hj:j > i
 ·rw[yL hj,yL hj];exact⟨_,rfl⟩
 ·rw[yK hj,yK hj];exact⟨_,rfl⟩
theorem Sh(hc:X.calm=true):aK X (.builtin "min") (fun xs H Q=>∃i j,xs=[.int i,.int j]∧Q (.int (if j<i then j else i)) H):=by
 intro Cr s σ H xs us Q I r h;obtain⟨i,j,rfl,q⟩:=h;obtain⟨u,w',rfl,⟨t,rfl⟩,⟨t',rfl⟩⟩:=gi r;refine min_two_ints (I.ok.hd hc) fun h' tk k=>⟨_,H,I.kept k,?_,q⟩;by_cases hj:j<i
 ·rw[yL hj,yL hj];exact⟨_,rfl⟩
 ·rw[yK hj,yK hj];exact⟨_,rfl⟩
theorem Od:aK X (.type "int") (fun xs H Q=>(∃i,xs=[.int i]∧Q (.int i) H)∨∃k,xs=[.bl k]∧Q (.int (if k then 1 else 0)) H):=by
 intro Cr s σ H xs us Q I r h
 rcases h with⟨i,rfl,q⟩|⟨k,rfl,q⟩
 ·obtain⟨u,rfl,t,rfl⟩:=Xx r;exact call_int_int ⟨.int i,H,I,⟨_,rfl⟩,q⟩
 ·obtain⟨u,rfl,r1⟩:=Xx r;cases r1;exact call_int_bool ⟨.int (if k then 1 else 0),H,I.tok _,⟨_,rfl⟩,q⟩
end
structure ObjM(h:Heap)(x dx C:Addr)(mA:Str→Option Value):Prop where
 obj:h.get? x=some (W.instObj C dx)
 ns:h.Ns1 dx mA
 ne:dx≠x
theorem mC{h:Heap}{dx:Addr}{mA:Str→Option Value}(n:h.Ns1 dx mA):∃od,h.get? dx=some od∧∀name,W.lookIn name od=some (mA name):=by
 obtain⟨o,es,ep,ho,hd,hk,_,hm⟩:=n;refine⟨o,ho,fun name=>?_⟩;have e:=hm name;unfold nsFind findBy at e;rw[←Array.find?_toList]at e;unfold W.lookIn;rw[hd];dsimp only
 split
 ·rename_i y q;rw[q]at e;exact Ak some e
 ·rename_i q;rw[q]at e;have a:es.toList.any (·.refKey)=false:=by
   rw[List.any_eq_false];intro y hy;obtain⟨z,t,hkey⟩:=hk y (Bp.mp hy);simp[DictEntry.refKey,hkey]
  have a':¬es.toList.any (·.refKey)=true:=by rw[a];exact yT
  rw[yK a'];exact Ak some e
theorem ObjM.look{h:Heap}{x dx C:Addr}{mA:Str→Option Value}(I:ObjM h x dx C mA):∃od,W.InstAt h x (W.instObj C dx) C (some od)∧∀name,W.lookIn name od=some (mA name):=
 let ⟨od,ho,hl⟩:=mC I.ns
 ⟨od,⟨I.obj,rfl,rfl,ho⟩,hl⟩
section
variable{prog:Program}{w:World}{A:Around}{E:Value→Shared→Prop}{s:Shared}{K:W.Frag}{x dx C f:Addr}{mA:Str→Option Value}{name:Str}{v:Value}
end
theorem RelO.some_of{v:V}{o:Option Value}(r:RelO (some v) o):∃u,o=some u∧RelV v u:=by
 cases o with
 |none=>exact(show False from r).elim
 |some u=>exact⟨u,rfl,r⟩
section
variable{P:Program}{w:World}{H H':Hp}{h h':Heap}{a C dx:Addr}{fs fs':List (Str×V)}
theorem sW(hok:HOk P w H h)(e:H a=some (.ins C dx fs)):∃mA,ObjM h a dx C mA∧(∀f,RelO (fs.lookup f) (mA f))∧PySem.Within mA (fs.map (·.1))∧fs.length≤1000∧H dx=some (.own a):=by
 obtain⟨d,z,ne,ob,mA,n,r,q⟩:=(show ObjOk P w H h a (.ins C dx fs)from hok a _ e);exact⟨mA,⟨ob,n,ne⟩,r,q,z,d⟩
end
structure Cls(K:W.Frag)(C:Addr):Prop where
 pg:W.plainGet K C Str.empty=true
 hd:W.hasDictIn K C=true
 po:W.plainOver K C=true
 sa:W.findIn K (.ref C) "__setattr__"=some (some (.builtin "object.__setattr__"))
theorem Cls.get{K:W.Frag}{C:Addr}(c:Cls K C)(f:Str):W.plainGet K C f=true:=c.pg
section
variable{X:Cx}{Cr:List (Addr×Obj)}{σ:St}{H:Hp}{s:Shared}{a C dx:Addr}{fs:List (Str×V)}{f:Str}{v:V}{A:Around}{E:Value→Shared→Prop}
end
section
variable{X:Cx}{o e value:Expr}{f:Str}{pos pos' tpos:Pos}{ta tv:TE}
end
section
variable{X:Cx}{Cr:List (Addr×Obj)}{σ:St}{H:Hp}{s:Shared}{A:Around}{E:Value→Shared→Prop}{Q:Value→Shared→Prop}{c:Value}{b:Bool}
inductive TyOf(K:W.Frag)(H:Hp):V→Value→Prop where
 |non:TyOf K H .non (.type "NoneType")
 |bl (x:Bool):TyOf K H (.bl x) (.type "bool")
 |int (i:Int):TyOf K H (.int i) (.type "int")
 |str (x:Str):TyOf K H (.str x) (.type "str")
 |flt (x:UInt64):TyOf K H (.flt x) (.type "float")
 |lst {a:Addr} {xs:List V} (e:H a=some (.lst xs)):TyOf K H (.ref a) (.type "list")
 |frz {a:Addr} {o:Obj} {xs:List V} (e:H a=some (.frz o (.lst xs))):TyOf K H (.ref a) (.type "list")
 |tup {a:Addr} {xs:List V} (e:H a=some (.tup xs)):TyOf K H (.ref a) (.type "tuple")
 |dK {a:Addr} {kvs:List (Key×V)} (e:H a=some (.dK kvs)):TyOf K H (.ref a) (.type "dict")
 |dT {a:Addr} {kvs:List (List Key×V)} (e:H a=some (.dT kvs)):TyOf K H (.ref a) (.type "dict")
 |ins {a C dx:Addr} {fs:List (Str×V)} (e:H a=some (.ins C dx fs)) (cl:Cls K C) (ha:W.findIn K (.ref C) "__class__"=some (some (.builtin "object.__class__")))
   (hn:W.specialIn K (.builtin "object.__class__") "__get__"=some (some (.builtin "getset_descriptor.__get__"))) (htk:W.takesIn K (.builtin "object.__class__")=some true)
   (hm:W.mroIn K C (.type "object")=some true):TyOf K H (.ref a) (.ref C)
theorem lO{x:V}{u t:Value}(I:Inv X Cr σ H s)(rx:RelV x u)(ty:TyOf X.K H x t)(e:W.kitOne X.K t c=some b)(h:∀tk,Q (.bool b) {s with toks:=tk}):
  wpAny (model X.prog X.w) A (call (.builtin "isinstance") [u,c]) Q E s:=by
 cases ty with
 |non=>cases (show u=Value.none from rx);exact BO W.kitx_none I.kIn True.intro e (fun z=>nomatch z) h
 |bl y=>cases (show u=Value.bool y from rx);exact BO W.kitx_bool I.kIn True.intro e (fun z=>nomatch z) h
 |int i=>obtain⟨t,q⟩:=(show ∃t,u=Value.int i t from rx);cases q;exact BO W.kitx_int I.kIn True.intro e (fun z=>nomatch z) h
 |str y=>obtain⟨t,q⟩:=(show ∃t,u=Value.str y t from rx);cases q;exact BO W.kitx_str I.kIn True.intro e (fun z=>nomatch z) h
 |flt y=>obtain⟨t,q⟩:=(show ∃t,u=Value.float y t from rx);cases q;exact BO W.kitx_float I.kIn True.intro e (fun z=>nomatch z) h
 | @lst a xs ea=>
  cases (show u=Value.ref a from rx);obtain⟨_,_,n,_,h1⟩:=(show ObjOk X.prog X.w H s.heap a (.lst xs)from I.hok a _ ea);exact BO W.kitx_list I.kIn ⟨_,h1,rfl⟩ e (fun z=>nomatch z) h
 | @frz a ob xs ea=>
  cases (show u=Value.ref a from rx);obtain⟨_,_,_,n,_,h1⟩:=(show ObjOk X.prog X.w H s.heap a (.frz ob (.lst xs))from I.hok a _ ea);exact BO W.kitx_list I.kIn ⟨_,h1,rfl⟩ e (fun z=>nomatch z) h
 | @tup a xs ea=>
  cases (show u=Value.ref a from rx);obtain⟨_,_,_,p⟩:=(show ObjOk X.prog X.w H s.heap a (.tup xs)from I.hok a _ ea);obtain⟨o,h1,h2,_⟩:=p;exact BO W.kitx_tuple I.kIn ⟨o,h1,h2.1⟩ e (fun z=>nomatch z) h
 | @dK a kvs ea=>
  cases (show u=Value.ref a from rx);obtain⟨_,_,vs,_,p⟩:=(show ObjOk X.prog X.w H s.heap a (.dK kvs)from I.hok a _ ea);obtain⟨o,es,ep,h1,h2,_⟩:=p;exact BO W.kitx_dict I.kIn ⟨o,h1,h2.1⟩ e (fun z=>nomatch z) h
 | @dT a kvs ea=>
  cases (show u=Value.ref a from rx);obtain⟨_,_,xs,_,o,es,ep,h1,h2,_⟩:=(show ObjOk X.prog X.w H s.heap a (.dT kvs)from I.hok a _ ea);exact BO W.kitx_dict I.kIn ⟨o,h1,h2.1⟩ e (fun z=>nomatch z) h
 | @ins a C dx fs ea cl ha hn htk hm=>
  cases (show u=Value.ref a from rx);obtain⟨mA,O,_⟩:=sW I.hok ea;obtain⟨od,J,_⟩:=O.look;exact BO (W.kitx_own (cl.get _) cl.hd ha hn htk hm) I.kIn J e (fun z=>nomatch z) h
end
structure Room(k:Nat)(A:Around):Prop where
 hd:A.handled=none
 dp:A.depth+3*k+5<recursionLimit
 un:A.units+16*k+200<cLine
theorem Room.mono{j k:Nat}{A:Around}(r:Room k A)(h:j≤k):Room j A:=⟨r.hd,by have:=r.dp;omega,by have:=r.un;omega⟩
theorem Room.deeper{k:Nat}{A:Around}(r:Room (k+1) A)(env:Env):Room k (A.deeper env):=
 ⟨r.hd,by have:=r.dp;show A.depth+1+3*k+5<_;omega,by have:=r.un;show A.units+3+16*k+200<_;omega⟩
theorem Room.depth{k:Nat}{A:Around}(r:Room k A):A.depth<recursionLimit:=by have:=r.dp;omega
theorem Room.units{k:Nat}{A:Around}(r:Room k A):A.units+64<cLine:=by have:=r.un;omega
def tNil:TA:=fun _ H Q=>Q [] H
def xv(ta:TE)(tr:TA):TA:=fun σ H Q=>ta σ H fun x H1=>tr σ H1 fun xs H2=>Q (x::xs) H2
section
variable{X:Cx}{e:Expr}{es:List Expr}{te:TE}{t:TA}{pos:Pos}
theorem Z1:PA X [] tNil:=fun _ _ _ _ H Q I h=>Calls.spliced_nil ⟨[],H,I,.nil,h⟩
theorem Z0(ha:PE X e te)(hr:PA X es t)(hs:starEach (e::es) X.env=(false,eval e X.env)::starEach es X.env:=by rfl):PA X (e::es) (xv te t):=by
 intro pos Cr s σ H Q I h;rw[hs];show wpAny _ _ (spliced ((false,eval e X.env)::backTo pos (starEach es X.env))) _ _ s;refine Calls.spliced_cons (thn (ha Cr s σ H _ I h) fun u s1 Cs=>?_);obtain⟨x,H1,I1,r1,q1⟩:=Cs;exact thn (hr pos Cr s1 σ H1 _ I1 q1) fun us s2 ⟨xs,H2,I2,r2,q2⟩=>⟨x::xs,H2,I2,.cons r1 r2,q2⟩
def tTup(t:TA):TE:=fun σ H Q=>t σ H fun xs H1=>xs.length≤sizeLine∧∀p,H1 p=none→Q (.ref p) (upd H1 p (.tup xs))
def tLst(t:TA):TE:=fun σ H Q=>t σ H fun xs H1=>xs.length≤sizeLine∧∀p,H1 p=none→Q (.ref p) (upd H1 p (.lst xs))
theorem Y4{x1}(h:PA X es t):PE X (.Tuple es x1 pos) (tTup t):=by
 intro Cr s σ H Q I hq;refine wpAny_Tuple_spliced (thn (h pos Cr s σ H _ I hq) fun us s1 ⟨xs,H1,I1,r,z,q⟩=>⟨by rw[←r.length];exact z,?_⟩);have hf:H1 s1.heap.objs.size=none:=I1.hok.fresh (yM _);refine⟨.ref s1.heap.objs.size,upd H1 s1.heap.objs.size (.tup xs),I1.laid (t':=s1.toks) (fun b u e=>yJ _ e) (yM _) ?_,rfl,q _ hf⟩;exact⟨z,us,r,TupN.new _ _⟩
theorem Y1(h:PA X es t):PE X (.List es pos) (tLst t):=by
 intro Cr s σ H Q I hq;refine wpAny_List_spliced (thn (h pos Cr s σ H _ I hq) fun us s1 ⟨xs,H1,I1,r,z,q⟩=>⟨by rw[←r.length];exact z,?_⟩);have hf:H1 s1.heap.objs.size=none:=I1.hok.fresh (yM _);refine⟨.ref s1.heap.objs.size,upd H1 s1.heap.objs.size (.lst xs),I1.laid (t':=s1.toks) (fun b u e=>yJ _ e) (yM _) ?_,rfl,q _ hf⟩;exact⟨z,us,0,r,yY _ rfl⟩
end
abbrev Sp:=List V→Hp→VK→XK→Prop
abbrev CXT:=List Env→Hp→Shared→XK→Value→Shared→Prop
structure Env0(P:Program)(w:World)(K:W.Frag)(mg:Str→Option Value)(base:Heap)(A:Around)(outer:List Env)(s:Shared)(H:Hp):Prop where
 frames:A.frames=some outer
 mod:Mod K mg base
 bs:∀b o,base.get? b=some o→s.heap.get? b=some o∧H b=none
 bsz:base.objs.size≤s.heap.objs.size
 funs:s.heap.FunFrames base outer
 frf:∀b∈frs outer,H b=none
 hok:HOk P w H s.heap
 bare:AllBare s.gens
def CE(outer:List Env)(P:Program)(w:World)(H:Hp)(s:Shared)(Q:VK)(u:Value)(s':Shared):Prop:=
 ∃v H',s'.os=s.os∧AllBare s'.gens∧Un (frs outer) [] H H' s.heap s'.heap∧HOk P w H' s'.heap∧RelV v u∧Q v H'
def CR(CX:CXT)(outer:List Env)(P:Program)(w:World)(H:Hp)(s:Shared)(Q:VK)(E:XK)(r:Result)(s':Shared):Prop:=
 match r with
 |.ok (.ret u)=>CE outer P w H s Q u s'
 |.ok _=>False
 |.error e=>CX outer H s E e s'
structure FnOk(P:Program)(w:World)(K:W.Frag)(mg:Str→Option Value)(base:Heap)(CX:CXT)(k:Nat)(f:Addr)(fd:FuncData)(ps:List Str)(sp:Sp):Prop where
 len:∀vs H Q E,sp vs H Q E→vs.length=ps.length
 run:∀(A:Around)(outer:List Env)(s:Shared)(H:Hp)(args:Args)(us:List Value)(vs:List V)(Q:VK)(E:XK),Room k A→Env0 P w K mg base A outer s H→BindsTo s fd args (ps.zip us)→Vals vs us→sp vs H Q E→
  codeAny (model P w) A (.call (.ref f) args) (CR CX outer P w H s Q E) s
theorem FnOk.mono{P:Program}{w:World}{K:W.Frag}{mg:Str→Option Value}{base:Heap}{CX:CXT}{j k:Nat}{f:Addr}{fd:FuncData}{ps:List Str}{sp:Sp}(F:FnOk P w K mg base CX j f fd ps sp)(h:j≤k):
  FnOk P w K mg base CX k f fd ps sp:=⟨F.len,fun A outer s H args us vs Q E hr=>F.run A outer s H args us vs Q E (hr.mono h)⟩
section
variable{X:Cx}{Cr:List (Addr×Obj)}{σ:St}{H:Hp}{s s':Shared}
theorem Inv.env0(I:Inv X Cr σ H s):Env0 X.prog X.w X.K X.mg X.base X.A X.stack s H:=
 ⟨I.ok.frames,I.ok.mod,I.bs,zP I.ok.bsz I.sz,I.stack,I.stkFree,I.hok,I.bare⟩
theorem Inv.after{Q:VK}{u:Value}(I:Inv X Cr σ H s)(h:CE X.stack X.prog X.w H s Q u s'):EP X Cr σ Q u s':=by
 obtain⟨v,H',os,bare,un,hok,r,q⟩:=h;obtain⟨hh,g,d,t,os'⟩:=s';obtain rfl:os'=s.os:=os;exact⟨v,H',I.call (h':=hh) (g':=g) (d':=d) (t':=t) (ch:=[]) un hok bare (fun b z=>absurd z (by simp)),r,q⟩
end
def uE(sp:Sp)(dvs:List V)(E:XK)(t:TA):TE:=fun σ H Q=>t σ H fun vs H1=>sp (vs++dvs) H1 Q E
def Binds(K:W.Frag)(fd:FuncData)(ps:List Str)(ds:List Value):Prop:=
 ∀(s:Shared)(us:List Value),K.In s.heap→(us++ds).length=ps.length→BindsTo s fd ⟨us,[]⟩ (ps.zip (us++ds))
theorem Binds.all{K:W.Frag}{fd:FuncData}{ps:List Str}(h:∀us:List Value,us.length=ps.length→bindArgs fd ⟨us,[]⟩=pure (ps.zip us)):Binds K fd ps []:=fun s us _ hl=>by
 rw[AJ]at hl⊢;exact .of_eq (h us hl)
def qt(CX:CXT)(X:Cx)(E:XK):Prop:=∀(Cr:List (Addr×Obj))(σ:St)(H:Hp)(s:Shared)(e:Value)(s':Shared),Inv X Cr σ H s→CX X.stack H s E e s'→X.xe e s'
section
variable{X:Cx}{CX:CXT}{k:Nat}{f C:Addr}{fd:FuncData}{ps:List Str}{sp:Sp}{dvs:List V}{ds:List Value}{E:XK}{x m:Str}{p pos apos:Pos}{e o:Expr}{es:List Expr}{ta:TE}{t:TA}
theorem vm{Cr:List (Addr×Obj)}{σ:St}{H:Hp}{s:Shared}{Q:VK}{us:List Value}{vs:List V}(F:FnOk X.prog X.w X.K X.mg X.base CX k f fd ps sp)(hr:Room k X.A)(hb:Binds X.K fd ps ds)(hd:Vals dvs ds)(hx:qt CX X E)(I:Inv X Cr σ H s)(r:Vals vs us)(h:sp (vs++dvs) H Q E):wpAny (model X.prog X.w) X.A (call (.ref f) us) (EP X Cr σ Q) X.xe s:=by
 have r2:Vals (vs++dvs) (us++ds):=r.append hd;have hl:(us++ds).length=ps.length:=by rw[←r2.length];exact F.len _ _ _ _ h
 refine wpAny_call (BZ (F.run X.A X.stack s H ⟨us,[]⟩ (us++ds) (vs++dvs) Q E hr I.env0 (hb s us I.kIn hl) r2 h) fun r s' hq=>?_);cases r with
 |error e=>exact hx Cr σ H s e s' I hq
 |ok fl=>
  cases fl with
  |ret u=>exact I.after hq
  |next=>exact False.elim hq
  |brk=>exact False.elim hq
  |cont=>exact False.elim hq
theorem rK(F:FnOk X.prog X.w X.K X.mg X.base CX k f fd ps sp)(hr:Room k X.A)(hg:Gl X x)(hm:X.mg x=some (.ref f))(hk:W.keepIn X.K (.ref f)=true)(hb:Binds X.K fd ps ds)(hd:Vals dvs ds)(hx:qt CX X E)(ha:PA X (e::es) t)(hdb:(x==("__debug__":Str))=false:=by decide)(he:starEach (e::es) X.env=(false,eval e X.env)::starEach es X.env:=by rfl)(hpl:(backTo pos (starEach es X.env)).any (·.1)=false:=by rfl):
  PE X (.Call (.Name x p) (e::es) [] pos) (uE sp dvs E t):=by
 intro Cr s σ H Q I h;refine wpAny_Call_Name_kw (uc I hg hm ?_ hdb);refine W.callWith_K (h₀:=X.base) I.ok.mod.kin hk (thn (ha pos Cr s σ H _ I h) fun us s1 ⟨vs,H1,I1,r,q⟩=>⟨I1.kIn,?_⟩) he hpl;exact vm F hr hb hd hx I1 r q
end
section
variable{X:Cx}{CX:CXT}{k:Nat}{f C:Addr}{fd:FuncData}{ps ks:List Str}{sp:Sp}{E:XK}{x m:Str}{p pos apos kpos:Pos}{e o:Expr}{es:List Expr}{kws:List Keyword}{te ta:TE}{t tk:TA}{nm:Option Str}
variable{g:List Value→List Value→List Value}{gV:List V→List V→List V}
end
structure FnScope(N P:List Str)(sc:Scope):Prop where
 kind:sc.kind=.function
 co:sc.isCoroutine=false
 gen:sc.isGenerator=false
 nd:N.Nodup
 pre:N.take P.length=P
 par:∀x∈P,sc.names.lookup x=some .local∨sc.names.lookup x=some .cell
 nofree:∀y∈sc.names,y.2≠.free
theorem Oe{kindOf:Str→Option NameKind}{x:Str}:∀{binds:List (Str×Value)}{m:Str→Option Value},(∀v,(x,v)∉binds)→bindL kindOf binds m x=m x
 | [],_,_=>rfl
 | (n,v)::r,m,h=>by
  unfold bindL;rw[Oe fun w hw=>h w (zS _ hw)]
  split
  ·have:x≠n:=by rintro rfl;exact h v zL
   simp[this]
  ·rfl
theorem Og{kindOf:Str→Option NameKind}{x:Str}:∀{binds:List (Str×Value)}{m:Str→Option Value},(∀v,(x,v)∉binds)→bindC kindOf binds m x=m x
 | [],_,_=>rfl
 | (n,v)::r,m,h=>by
  unfold bindC;rw[Og fun w hw=>h w (zS _ hw)]
  split
  ·rfl
  ·have:x≠n:=by rintro rfl;exact h v zL
   simp[this]
theorem Of{kindOf:Str→Option NameKind}{x:Str}{v:Value}:∀{P:List Str}{vs:List Value}{i:Nat}{m:Str→Option Value},P.Nodup→P[i]?=some x→vs[i]?=some v→kindOf x=some .local→
  bindL kindOf (P.zip vs) m x=some v
 | [],_,_,_,_,h,_,_=>by simp at h
 |_::_,[],_,_,_,_,h,_=>by simp at h
 |p::P,w::vs,0,m,nd,h1,h2,hk=>by
  simp at h1 h2;subst h1;subst h2;show bindL kindOf ((p,w)::P.zip vs) m p=_;unfold bindL;rw[Oe fun v hv=>(zt.mp nd).1 (List.of_mem_zip hv).1,yL hk];simp
 |p::P,w::vs,i+1,m,nd,h1,h2,hk=>by
  show bindL kindOf ((p,w)::P.zip vs) m x=_;unfold bindL;exact Of (i:=i) (List.nodup_cons.mp nd).2 (by simpa using h1) (by simpa using h2) hk
theorem Oh{kindOf:Str→Option NameKind}{x:Str}{v:Value}:∀{P:List Str}{vs:List Value}{i:Nat}{m:Str→Option Value},P.Nodup→P[i]?=some x→vs[i]?=some v→kindOf x≠some .local→
  bindC kindOf (P.zip vs) m x=some v
 | [],_,_,_,_,h,_,_=>by simp at h
 |_::_,[],_,_,_,_,h,_=>by simp at h
 |p::P,w::vs,0,m,nd,h1,h2,hk=>by
  simp at h1 h2;subst h1;subst h2;show bindC kindOf ((p,w)::P.zip vs) m p=_;unfold bindC;rw[Og fun v hv=>(zt.mp nd).1 (List.of_mem_zip hv).1,yK hk];simp
 |p::P,w::vs,i+1,m,nd,h1,h2,hk=>by
  show bindC kindOf ((p,w)::P.zip vs) m x=_;unfold bindC;exact Oh (i:=i) (List.nodup_cons.mp nd).2 (by simpa using h1) (by simpa using h2) hk
def bW(N:List Str)(vs:List V):St:=vs.map some++List.replicate (N.length-vs.length) none
def lA(CX:CXT)(P:Program)(w:World)(K:W.Frag)(mg:Str→Option Value)(base:Heap)(N:List Str)(qual:Str)(scope:Scope)(f:Addr)(cd:Value)(A:Around)(outer:List Env)(s:Shared)(H:Hp)(E:XK):Cx where
 prog:=P
 w:=w
 K:=K
 mg:=mg
 base:=base
 A:=A.deeper (envOfC qual scope s.heap.objs.size f cd)
 N:=N
 s₀:=s
 H₀:=H
 env:=envOfC qual scope s.heap.objs.size f cd
 outer:=outer
 stack:=envOfC qual scope s.heap.objs.size f cd::outer
 ex:=[]
 calm:=true
 fn:=fun _=>true
 pn:=[]
 xe:=fun e s'=>wpAny (model P w) (A.deeper (envOfC qual scope s.heap.objs.size f cd)) (leaving (envOfC qual scope s.heap.objs.size f cd) e) (fun _ s''=>CX outer H s E e s'') (fun e' s''=>CX outer H s E e' s'') s'
theorem gM{sc:Scope}{n:Nat}{x:Str}(h:sc.names.lookup x=some .cell):∃c,(cellsFrom n sc.names []).lookup x=some c:=by
 have q:=W.cellsFrom_some sc.names n [] (.inl h);exact Option.isSome_iff_exists.mp q
theorem mK{CX:CXT}{P:Program}{w:World}{K:W.Frag}{mg:Str→Option Value}{base:Heap}{N ps:List Str}{qual:Str}{scope:Scope}{f:Addr}{cd:Value}{A:Around}{outer:List Env}{s s1:Shared}{H:Hp}{E:XK}{us:List Value}{vs:List V}(S:FnScope N ps scope)(hd:A.handled=none)(e0:Env0 P w K mg base A outer s H)(hl:vs.length=ps.length)(r:Vals vs us)(x:InCallC s s.heap.objs.size (bindL (envOfC qual scope s.heap.objs.size f cd).kindOf (ps.zip us) fun _=>none) (cellsFrom (s.heap.objs.size+1) scope.names []) (bindC (envOfC qual scope s.heap.objs.size f cd).kindOf (ps.zip us) fun _=>none) s1):
  Inv (lA CX P w K mg base N qual scope f cd A outer s H E) [] (bW N vs) H s1:=by
 have hpl:ps.length≤N.length:=by have:=Ak List.length S.pre;rw[zu]at this;omega
 obtain⟨h1,tk,rfl,hk⟩:=x.done;have noA:∀b:Addr,b∉(lA CX P w K mg base N qual scope f cd A outer s H E).ex:=fun b z=>absurd (show b∈([]:List Addr)from z) (by simp);refine⟨⟨e0.mod,S.kind,rfl,rfl,yM _,fun y z c h1 h2=>?_,fun y hy=>?_,fun y c _ h=>?_,fun _=>hd,Around.frames_deeper e0.frames,.inr ⟨rfl,rfl⟩,fun b z=>absurd z (noA b),e0.bs,e0.bsz,fun b _ _=>noA b,fun b z=>absurd z (noA b),e0.funs,e0.frf⟩,
  rfl,e0.bare,Un.kept hk,⟨_,x.toInCall.ns,fun i y v h1 h2 h3=>?_⟩,fun y c h=>⟨_,x.cell y c h⟩,e0.hok.fresh (Nat.le_refl _),fun y c h=>?_,fun p hp=>absurd (show p∈([]:List (Addr×Obj))from hp) (by simp),e0.hok.kept hk,?_⟩
 ·exact name_of_addr x.apart (At h1) (At h2)
 ·have hy:scope.names.lookup y=some .cell∨scope.names.lookup y=some .free:=hy
  rcases hy with hy | hy
  ·exact gM hy
  ·exact absurd rfl (S.nofree _ (At hy))
 ·exact AA (x.above y c (At h))
 ·have hi:i<vs.length:=by
   unfold bW at h2;by_cases hi:i<vs.length
   ·exact hi
   ·rw[List.getElem?_append_right (by simpa using hi)]at h2;rw[List.getElem?_replicate]at h2
    split at h2 <;> cases h2
  have ha:vs[i]?=some v:=by
   unfold bW at h2;rw[List.getElem?_append_left (by simpa using hi),List.getElem?_map]at h2;cases e:vs[i]? with
   |none=>rw[e]at h2;cases h2
   |some a=>rw[e]at h2;cases h2;rfl
  obtain⟨u,hu,rv⟩:=r.get ha;have hp:ps[i]?=some y:=by
   rw[←S.pre,List.getElem?_take_of_lt (by omega)];exact h1
  have ndP:ps.Nodup:=by rw[←S.pre];exact S.nd.sublist (Bq _ _)
  refine⟨u,rv,?_⟩
  rcases S.par y (zB hp)with k | k
  ·exact .inl ⟨k,Of ndP hp hu k⟩
  ·obtain⟨c,e⟩:=gM (n:=s.heap.objs.size+1) k;refine .inr ⟨.inl k,c,e,?_⟩;have q:=x.cell y c e;rw[Oh ndP hp hu (by show scope.names.lookup y≠_;rw[k];decide)]at q;exact q
 ·exact e0.hok.fresh (AA (x.above y c (At h)))
 ·unfold bW;show _=N.length;rw[yR,pi,List.length_replicate];omega
theorem x3{CX:CXT}{P:Program}{w:World}{K:W.Frag}{mg:Str→Option Value}{base:Heap}{k:Nat}{f:Addr}{name qual:Str}{params:Arguments}{body:List Stmt}{scope:Scope}{dV kV doc pm cdv ct oc:Value}{an od:Option Addr}{osl:Array (Option Value)}{N ps:List Str}{sp:Sp}(lk:K.lookup f=some ⟨oc,od,.func (W.fnOf name qual params body scope dV kV doc pm an cdv ct),osl⟩)(hcd:W.codeIn K cdv qual=true)(S:FnScope N ps scope)(len:∀vs H Q E,sp vs H Q E→vs.length=ps.length)(hbody:∀(A:Around) (outer:List Env) (s:Shared) (H:Hp) (vs:List V) (Q:VK) (E:XK),Room k (A.deeper (envOfC qual scope s.heap.objs.size f cdv))→sp vs H Q E→
   ∃t,PSs (lA CX P w K mg base N qual scope f cdv A outer s H E) body t∧t {nx:=fun _ H'=>Q .non H',rt:=Q} (bW N vs) H):
  FnOk P w K mg base CX (k+1) f (W.fnOf name qual params body scope dV kV doc pm an cdv ct) ps sp:=by
 refine⟨len,fun A outer s H args us vs Q E hr e0 hb r hsp=>?_⟩;have hl:=len _ _ _ _ hsp;have KX:K.In s.heap:=e0.mod.kin.keeps fun b o e=>(e0.bs b o e).1;have lim:s.heap.NoLimit:=e0.mod.nolimit.keeps fun b o e=>(e0.bs b o e).1;have hkind:∀y∈ps.zip us,scope.names.lookup y.1=some .local∨(scope.names.lookup y.1=some .cell∧((cellsFrom (s.heap.objs.size+1) scope.names []).lookup y.1).isSome=true):=fun⟨n,v⟩ hy=>by
  rcases S.par n (List.of_mem_zip hy).1 with q | q
  ·exact .inl q
  ·exact .inr ⟨q,W.cellsFrom_some _ _ _ (.inl q)⟩
 refine codeAny_call_function hr.depth (KX _ _ lk) rfl S.co S.gen rfl (W.codeRec_of KX hcd) (hb _ _ _ _ ?_);refine wpAny_newFunctionEnv_cells S.kind hkind fun env he s1 x=>?_;subst he;refine⟨lim.keeps x.toInCall.keep,codeAny_func ?_⟩;obtain⟨t,ht,hq⟩:=hbody A outer s H vs Q E (hr.deeper _) hsp;have I:Inv (lA CX P w K mg base N qual scope f cdv A outer s H E) [] (bW N vs) H s1:=mK S hr.hd e0 hl r x;refine Af (ht [] s1 (bW N vs) H _ I hq) (fun fl s' hs=>?_) fun e s' hs=>hs;have fin:∀{σ':St}{H':Hp}{v:V}{u:Value},Inv (lA CX P w K mg base N qual scope f cdv A outer s H E) [] σ' H' s'→RelV v u→Q v H'→CE outer P w H s Q u s':=
  fun{σ' H' v u} J rv q=>⟨v,H',J.os,J.bare,J.base,J.hok,rv,q⟩
 cases fl with
 |ret u=>
  obtain⟨v,σ',H',J,rv,q⟩:=hs;exact fin J rv q
 |next=>
  obtain⟨σ',H',J,q⟩:=hs;exact fin (v:=V.non) (u:=Value.none) J rfl q
 |brk=>
  obtain⟨_,_,_,q⟩:=hs;exact False.elim q
 |cont=>
  obtain⟨_,_,_,q⟩:=hs;exact False.elim q
section
variable{X:Cx}{x:Str}{p pos:Pos}{e:Expr}{es:List Expr}{t:TA}{id T:String}{r:List V→Hp→VK→Prop}
def tCB(r:List V→Hp→VK→Prop)(t:TA):TE:=fun σ H Q=>t σ H fun vs H1=>r vs H1 Q
theorem Zf(hc:aK X (.builtin id) r)(hg:Gl X x)(hm:X.mg x=none)(hv:bootBuiltins x=some (.builtin id))(ha:PA X (e::es) t)(hn:x≠"__name__":=by decide)(hdb:(x==("__debug__":Str))=false:=by decide)(he:starEach (e::es) X.env=(false,eval e X.env)::starEach es X.env:=by rfl)(hpl:(backTo pos (starEach es X.env)).any (·.1)=false:=by rfl):PE X (.Call (.Name x p) (e::es) [] pos) (tCB r t):=by
 intro Cr s σ H Q I h;refine wpAny_Call_Name_kw (Ng I hg hm hv ?_ hn hdb);exact PyProof.Rows.callWith_builtin1 (thn (ha pos Cr s σ H _ I h) fun us s1 ⟨vs,H1,I1,r1,q1⟩=>hc Cr s1 σ H1 vs us Q I1 r1 q1) he hpl
theorem Y8(hc:aK X (.type T) r)(hg:Gl X x)(hm:X.mg x=none)(hv:bootBuiltins x=some (.type T))(ha:PA X (e::es) t)(hn:x≠"__name__":=by decide)(hdb:(x==("__debug__":Str))=false:=by decide)(he:starEach (e::es) X.env=(false,eval e X.env)::starEach es X.env:=by rfl)(hpl:(backTo pos (starEach es X.env)).any (·.1)=false:=by rfl):PE X (.Call (.Name x p) (e::es) [] pos) (tCB r t):=by
 intro Cr s σ H Q I h;refine wpAny_Call_Name_kw (Ng I hg hm hv ?_ hn hdb);exact PyProof.Rows.callWith_type1 (thn (ha pos Cr s σ H _ I h) fun us s1 ⟨vs,H1,I1,r1,q1⟩=>hc Cr s1 σ H1 vs us Q I1 r1 q1) he hpl
end
end L2
namespace HT
open PySem PyProof.Rows
def lexLt:List Int→List Int→Bool
 | [],[]=>false
 | [],_::_=>true
 |_::_,[]=>false
 |x::xs,y::ys=>if x=y then lexLt xs ys else decide (x<y)
theorem lexLt_cons(x y:Int)(xs ys:List Int):lexLt (x::xs) (y::ys)=if x=y then lexLt xs ys else decide (x<y):=rfl
theorem lexLt_nil_nil:lexLt [] []=false:=rfl
theorem Qj(y:Int)(ys:List Int):lexLt [] (y::ys)=true:=rfl
theorem Qk(x:Int)(xs:List Int):lexLt (x::xs) []=false:=rfl
theorem qq(A:Around)(s:Shared)(a:Int)(t:Tok)(c:Int)(u:Tok):∃e,SeqAt.EqAt A s (.int a t) (.int c u) e∧(e=true↔a=c):=
 ⟨(a==c),SeqAt.EqAt.int_int a t c u,by simp⟩
theorem oA(A:Around)(s:Shared)(a:Int)(t:Tok)(c:Int)(u:Tok)(prog:Program)(w:World)(E:Value→Shared→Prop)(Q:Value→Shared→Prop)(h:Q (.bool (decide (a<c))) s):
  wpAny (model prog w) A (richCompare .Lt (.int a t) (.int c u)) Q E s:=
 (PyProof.Rows.lt_int h:wpAny (model prog w) A (compareOp .Lt (.int a t) (.int c u)) Q E s)
section
open PySem.SeqAt
open PySem.AutoSeq1 (wpAny_loadPart')
open PySem.MeetsSeq PySem.MeetsSeq2 PySem.MeetsSeq3
theorem P4(l b:Addr)(items items2:Array Value)(n n2:Nat)(dd dd2:Option Addr)(sl sl2:Array (Option Value))(ns ms:List Int)(hi:IntsAre items.toList ns)(hj:IntsAre items2.toList ms):
  Meets (Builtin.«tuple.__lt__» ⟨[.ref l,.ref b],[]⟩)
   (fun _ R s=>s.heap.get? l=some {cls:=.type "tuple",dict:=dd,data:=.seq items n,slots:=sl}∧s.heap.get? b=some {cls:=.type "tuple",dict:=dd2,data:=.seq items2 n2,slots:=sl2}∧
    R (.ok (.ret (.bool (lexLt ns ms)))) s):=
 .of_wp fun prog w A R s h=>by
  obtain⟨hp,g,d,tk,os⟩:=s;obtain⟨hl,hb,h⟩:=h;have f2:=AutoSeq1.sub_tuple_tuple;have z1:items.size=ns.length:=by rw[←hi.length];simp
  have z2:items2.size=ms.length:=by rw[←hj.length];simp
  wp_walk using wpAny_loadPart' hl,wpAny_loadPart' hb,wpAny_forIn_list _ (fun rest b s'=>b.1=none∧s'=⟨hp,g,d,tk,os⟩∧∃(vs ws:List Value)(ns' ms':List Int),rest=vs.zip ws∧
   IntsAre vs ns'∧IntsAre ws ms'∧ns'.length+items2.size=ms'.length+items.size∧R (.ok (.ret (.bool (lexLt ns' ms')))) ⟨hp,g,d,tk,os⟩) _
  case turn=>
   rintro⟨y,x⟩ rest b s' ⟨hb',rfl,vs,ws,ns',ms',hz,hvi,hwi,CK,hR⟩;cases hvi with
   |nil=>rw[List.zip_nil_left]at hz;cases hz
   |cons a t hvi'=>
    cases hwi with
    |nil=>rw[List.zip_nil_right]at hz;cases hz
    |cons c u hwi'=>
     rw[List.zip_cons_cons]at hz;injection hz with hyx hrest
     injection hyx with hy hx
     subst hy hx;rw[lexLt_cons]at hR;simp only[List.length_cons]at CK;obtain⟨e,he,hiff⟩:=qq A.in1 ⟨hp,g,d,tk,os⟩ a t c u;refine io (he prog w _ _ ?_);cases e with
     |true=>
      rw[yL (hiff.mp rfl)]at hR
      wp_walk
      exact⟨rfl,rfl,_,_,_,_,hrest,hvi',hwi',by omega,hR⟩
     |false=>
      rw[yK (fun q=>absurd (hiff.mpr q) yT)]at hR;have hri:=oA A.in1 ⟨hp,g,d,tk,os⟩ a t c u prog w
      wp_walk using hri
      exact⟨_,rfl,by simpa using hR⟩
  case fin=>
   rintro⟨b1,b2⟩ s' ⟨hb',rfl,vs,ws,ns',ms',hz,hvi,hwi,CK,hR⟩;simp only at hb';subst hb';have hv:lexLt ns' ms'=decide (items.size<items2.size):=by
    cases hvi with
    |nil=>
     cases hwi with
     |nil=>
      simp only[List.length_nil]at CK;rw[lexLt_nil_nil];exact(zA (by omega)).symm
     |cons c u hw=>
      simp only[List.length_nil,List.length_cons]at CK;rw[Qj];exact(yX (by omega)).symm
    |cons a t hv=>
     cases hwi with
     |nil=>
      simp only[List.length_nil,List.length_cons]at CK;rw[Qk];exact(zA (by omega)).symm
     |cons c u hw=>
      rw[List.zip_cons_cons]at hz;cases hz
   rw[hv]at hR
   wp_walk
   exact⟨_,rfl,by simpa [Builtin.Tuple.tupleCompareSizes] using hR⟩
  case h=>
   exact⟨rfl,rfl,items.toList,items2.toList,ns,ms,rfl,hi,hj,by omega,h⟩
end
section
variable{prog:Program}{w:World}{A:Around}{E:Value→Shared→Prop}{s:Shared}
theorem lt_tupInts{l b:Addr}{items items2:Array Value}{ns ms:List Int}{Q:Value→Shared→Prop}(hl:IsTup s.heap l items)(hb:IsTup s.heap b items2)(hi:IntsAre items.toList ns)(hj:IntsAre items2.toList ms)(hu:A.units<cLine)(h:Q (.bool (lexLt ns ms)) s):wpAny (model prog w) A (compareOp .Lt (.ref l) (.ref b)) Q E s:=by
 obtain⟨⟨cls,dd,data,sl⟩,ho,hc,n,hd⟩:=id hl;obtain⟨⟨cls2,dd2,data2,sl2⟩,ho2,hc2,n2,hd2⟩:=id hb;simp only at hc hd hc2 hd2;subst hc hd hc2 hd2;exact richCompare_meets_room (op:=.Lt) ⟨_,ho,rfl⟩ ⟨_,ho2,rfl⟩ PySem.F.slot_tuple_lt PySem.F.entry_tuple_lt (PySem.F.args_tuple_lt_2 _ _) (P4 l b items items2 n n2 dd dd2 sl sl2 ns ms hi hj)
  ⟨ho,ho2,show Value.bool (lexLt ns ms)≠Value.notImplemented∧Q (.bool (lexLt ns ms)) s from⟨(fun x=>nomatch x),h⟩⟩ hu
def sIx(n d:Nat):Option Int→Nat
 |none=>d
 |some v=>if v<0 then(v+(n:Int)).toNat else min v.toNat n
theorem sIx_none(n d:Nat):sIx n d none=d:=rfl
theorem sIx_nat(n d k:Nat):sIx n d (some (k:Int))=min k n:=by
 show(if (k:Int)<0 then((k:Int)+(n:Int)).toNat else min (k:Int).toNat n)=min k n;rw[yK (by omega),Int.toNat_natCast]
end
end HT
namespace L2
open PySem PySem.Spec PyProof.Rows
abbrev TO:=St→Hp→(Option Int→Hp→Prop)→Prop
def PO(X:Cx)(e:Option Expr)(t:TO):Prop:=
 ∀(Cr:List (Addr×Obj))(s:Shared)(σ:St)(H:Hp)(Q:Option Int→Hp→Prop),Inv X Cr σ H s→t σ H Q→
  wpAny (model X.prog X.w) X.A (evalPart e X.env) (fun u s'=>∃o H',Inv X Cr σ H' s'∧IsPart u o∧Q o H') X.xe s
def tm:TO:=fun _ H Q=>Q none H
def xn(t:TE):TO:=fun σ H Q=>t σ H fun x H1=>∃i,x=.int i∧Q (some i) H1
theorem Qn{ns:List Int}:∀{us:List Value},Vals (ns.map V.int) us→IntsAre us ns:=by
 induction ns with
 |nil=>intro us r;rw[B0]at r;cases r;exact .nil
 |cons n ns ih=>
  intro us r;rw[yQ]at r;cases r with
  |cons r1 r2=>
   obtain⟨t,e⟩:=r1;subst e;exact .cons n t (ih r2)
section
variable{X:Cx}{e:Expr}{te:TE}{lo hi:Option Expr}{tl th:TO}{pos p2:Pos}
theorem W8:PO X none tm:=by
 intro Cr s σ H Q I h;rw[evalPart_none];exact yI ⟨none,H,I,.none,h⟩
theorem W7(h:PE X e te):PO X (some e) (xn te):=by
 intro Cr s σ H Q I hw;rw[evalPart_some];refine thn (h Cr s σ H _ I hw) fun u s1 Cs=>?_;obtain⟨x,H1,I1,r1,q1⟩:=Cs;obtain⟨i,rfl,q⟩:=q1;obtain⟨t,rfl⟩:=r1;exact⟨some i,H1,I1,.int i t,q⟩
def SlR(X:Cx)(r:V→Option Int→Option Int→Hp→VK→Prop):Prop:=
 ∀(Cr:List (Addr×Obj))(s:Shared)(σ:St)(H:Hp)(x:V)(v vl vu:Value)(lo hi:Option Int)(sl:Addr)(Q:VK),Inv X Cr σ H s→RelV x v→s.heap.IsSliceOf sl vl vu .none→IsPart vl lo→IsPart vu hi→r x lo hi H Q→
  ∃T id,typeLookup (.type T) "__getitem__"=pure (some (.builtin id))∧s.TypeIs v T∧wpAny (model X.prog X.w) X.A (getItem v (.ref sl)) (EP X Cr σ Q) X.xe s
def tSl(r:V→Option Int→Option Int→Hp→VK→Prop)(te:TE)(tl th:TO):TE:=fun σ H Q=>te σ H fun x H1=>tl σ H1 fun l H2=>th σ H2 fun u H3=>r x l u H3 Q
theorem Xg{r:V→Option Int→Option Int→Hp→VK→Prop}(hr:SlR X r)(he:PE X e te)(hl:PO X lo tl)(hu:PO X hi th):PE X (.Subscript e (.Slice lo hi none p2) pos) (tSl r te tl th):=by
 intro Cr s σ H Q I h;refine Subscript_ (thn (he Cr s σ H _ I h) fun v s1 Cs=>?_);obtain⟨x,H1,I1,r1,q1⟩:=Cs;refine wpAny_Slice (thn (hl Cr s1 σ H1 _ I1 q1) fun vl s2 ⟨l,H2,I2,pl,q2⟩=>thn (hu Cr s2 σ H2 _ I2 q2) fun vu s3 Cs=>?_);obtain⟨u,H3,I3,pu,q3⟩:=Cs;rw[evalPart_none];refine yI ?_;have I4:Inv X Cr σ H3 {s3 with heap:=s3.heap.push {cls:=.type "slice",data:=.fields #[vl,vu,.none]}}:=I3.kept (t':=s3.toks) fun b ob q=>yJ _ q;obtain⟨T,id,hT,ht,hg⟩:=hr Cr {s3 with heap:=s3.heap.push {cls:=.type "slice",data:=.fields #[vl,vu,.none]}} σ H3 x v vl vu l u s3.heap.objs.size Q I4 r1 (Heap.IsSliceOf.new ..) pl pu q3;show wpAny (model X.prog X.w) X.A (subscriptTail e (.Slice lo hi none p2) v (.ref s3.heap.objs.size)) (EP X Cr σ Q) X.xe {s3 with heap:=s3.heap.push {cls:=.type "slice",data:=.fields #[vl,vu,.none]}};exact tail_any (ops:=[.ref s3.heap.objs.size,v]) ht hT hg (by with_unfolding_all rfl)
def bU(xs:List V)(lo hi:Option Int):List V:=(xs.drop (HT.sIx xs.length 0 lo)).take (HT.sIx xs.length xs.length hi-HT.sIx xs.length 0 lo)
theorem Sr(xs:List V)(lo hi:Option Int):(bU xs lo hi).length≤xs.length:=by
 unfold bU;rw[zu,AB];omega
end
def ixN(n:Nat)(i:Int):Option Nat:=if 0≤i then(if i<n then some i.toNat else none)else if -(n:Int)≤i then some (i+n).toNat else none
def atI{α:Type}(xs:List α)(i:Int):Option α:=(ixN xs.length i).bind fun j=>xs[j]?
theorem kE{n:Nat}{i:Int}{j:Nat}(h:ixN n i=some j):seqIndex? i n=some j∧j<n∧-(n:Int)≤i∧i<n:=by
 unfold ixN at h;by_cases h0:0≤i
 ·rw[yL h0]at h;by_cases h1:i<n
  ·rw[yL h1]at h;have e:i.toNat=j:=zT h;exact⟨by rw[seqIndex_of h0 h1,e],by omega,by omega,h1⟩
  ·rw[yK h1]at h;cases h
 ·rw[yK h0]at h;by_cases h1:-(n:Int)≤i
  ·rw[yL h1]at h;have e:(i+n).toNat=j:=zT h;exact⟨by rw[seqIndex_neg (by omega) h1,e],by omega,h1,by omega⟩
  ·rw[yK h1]at h;cases h
theorem kS{α:Type}{xs:List α}{i:Int}{v:α}(h:atI xs i=some v):∃j,seqIndex? i xs.length=some j∧xs[j]?=some v∧j<xs.length∧-(xs.length:Int)≤i∧i<xs.length:=by
 unfold atI at h;cases e:ixN xs.length i with
 |none=>rw[e]at h;cases h
 |some j=>
  rw[e]at h;obtain⟨h1,h2,h3,h4⟩:=kE e;exact⟨j,h1,h,h2,h3,h4⟩
theorem dU{α:Type}{xs:List α}{j:Nat}{v:α}(h:xs[j]?=some v):atI xs (j:Int)=some v:=by
 have hj:j<xs.length:=(yZ.mp h).1;have e:ixN xs.length (j:Int)=some j:=by
  unfold ixN;rw[if_pos (by omega),if_pos (by omega)];simp
 unfold atI;rw[e];exact h
def jB(b:Expr):Prop:=∀o i,subscripted b false o i=operate [o,i] (getItem o i)
def IxR(X:Cx)(r:R2):Prop:=
 ∀(value slice:Expr)(Cr:List (Addr×Obj))(s:Shared)(σ:St)(H:Hp)(x y:V)(v u:Value)(Q:VK),Inv X Cr σ H s→RelV x v→RelV y u→r x y H Q→
  subscripted slice false v u=operate [v,u] (getItem v u)→wpAny (model X.prog X.w) X.A (subscriptTail value slice v u) (EP X Cr σ Q) X.xe s
def MtR(X:Cx)(id:String)(r:V→List V→Hp→VK→Prop):Prop:=
 ∀(Cr:List (Addr×Obj))(s:Shared)(σ:St)(H:Hp)(x:V)(xs:List V)(v:Value)(us:List Value)(Q:VK),Inv X Cr σ H s→RelV x v→Vals xs us→r x xs H Q→
  wpAny (model X.prog X.w) X.A (call (.builtin id) (v::us)) (EP X Cr σ Q) X.xe s
section
variable{X:Cx}{a b:Expr}{ta tb:TE}{pos:Pos}
theorem xL{r:R2}(hr:IxR X r)(ha:PE X a ta)(hb:PE X b tb)(hs:jB b):PE X (.Subscript a b pos) (tOp r ta tb):=by
 intro Cr s σ H Q I h;exact Subscript_ (wA ha hb I h fun v u s2 x y H2 I2 rx ry q=>hr a b Cr s2 σ H2 x y v u Q I2 rx ry q (hs _ _))
def rIxL(K:W.Frag):R2:=fun x y H Q=>∃p xs i v,x=.ref p∧y=.int i∧SqL K H p xs∧atI xs i=some v∧Q v H
def xE(K:W.Frag):R2:=fun x y H Q=>∃p xs i v,x=.ref p∧y=.int i∧SqT K H p xs∧atI xs i=some v∧Q v H
theorem Yt:IxR X (rIxL X.K):=by
 intro value slice Cr s σ H x y v u Q I rx ry h hs;obtain⟨p,xs,i,z,rfl,rfl,hq,he,q⟩:=h;cases rx;obtain⟨t,rfl⟩:=ry;obtain⟨its,r,pl,hz⟩:=I.list hq;obtain⟨j,h1,h2,h3,h4,h5⟩:=kS he;obtain⟨w,ew,rw'⟩:=r.get h2;have hl:=r.length;have hn:=Nd;have fin:EP X Cr σ Q w s:=⟨z,H,I,rw',q⟩;by_cases h0:0≤i
 ·have hj:i.toNat=j:=by
   rw[seqIndex_of h0 h5]at h1;exact zT h1
  exact item_listR pl.isList h0 (by omega) (by rw[hj];simpa using ew) fin hs
 ·have hj:(i+(its.toArray.size:Int)).toNat=j:=by
   rw[seqIndex_neg (by omega) h4]at h1;rw[zD,←hl];exact zT h1
  exact subscriptTail_builtinR (x:=w) pl.isList.typeIs slot_list_getitem.lookup
   (wpAny_getItem_list_neg (Q:=fun r s'=>r=w∧EP X Cr σ Q r s') pl.isList (by omega) (by rw[List.size_toArray] <;> omega) (by omega) (by rw[hj];simpa using ew) ⟨rfl,fin⟩) hs
theorem Ys:IxR X (xE X.K):=by
 intro value slice Cr s σ H x y v u Q I rx ry h hs;obtain⟨p,xs,i,z,rfl,rfl,hq,he,q⟩:=h;cases rx;obtain⟨t,rfl⟩:=ry;obtain⟨its,r,pl,hz⟩:=I.tuple hq;obtain⟨j,h1,h2,h3,h4,h5⟩:=kS he;obtain⟨w,ew,rw'⟩:=r.get h2;have hl:=r.length;have hn:=Nd;have fin:EP X Cr σ Q w s:=⟨z,H,I,rw',q⟩;exact subscriptTail_builtinR (x:=w) pl.typeIs slot_tuple_getitem.lookup
  (getItem_tuple (j:=j) (Q:=fun r s'=>r=w∧EP X Cr σ Q r s') pl (by omega) (by omega) (by rw[List.size_toArray,←hl];exact h1) (by simpa using ew) ⟨rfl,fin⟩) hs
theorem gZ(its:List Value)(n j:Nat)(u:Value):Obj.mapSeq (·.setIfInBounds j u) {cls:=.type "list",data:=.seq its.toArray n}={cls:=.type "list",data:=.seq (its.set j u).toArray n}:=by
 simp[Obj.mapSeq]
theorem Inv.lst{Cr:List (Addr×Obj)}{σ:St}{H:Hp}{s:Shared}{p:Addr}{xs:List V}(I:Inv X Cr σ H s)(h:H p=some (.lst xs)):
  ∃(its:List Value)(n:Nat),Vals xs its∧s.heap.get? p=some {cls:=.type "list",data:=.seq its.toArray n}∧xs.length≤sizeLine:=by
 obtain⟨z,its,n,r,e⟩:=I.hok p _ h;exact⟨its,n,r,e,z⟩
theorem Inv.lstUpd{Cr:List (Addr×Obj)}{σ:St}{H:Hp}{s:Shared}{p:Addr}{xs ys:List V}{its its':List Value}{n n':Nat}{f:Obj→Obj}(I:Inv X Cr σ H s)(h:H p=some (.lst xs))(ho:s.heap.get? p=some {cls:=.type "list",data:=.seq its.toArray n})(hf:f {cls:=.type "list",data:=.seq its.toArray n}={cls:=.type "list",data:=.seq its'.toArray n'})(r:Vals ys its')(hz:ys.length≤sizeLine)(t:Nat):
  Inv X Cr σ (upd H p (.lst ys)) {s with heap:=s.heap.update p f,toks:=t}:=by
 have e:(s.heap.update p f).get? p=some {cls:=.type "list",data:=.seq its'.toArray n'}:=by
  rw[BP f ho (by rw[hf] <;> rfl),hf]
 refine I.write (x:=p) (e:=p) (by rw[h];trivial) (.inl rfl) (fun b u hb q=>(Ao _ _ (Ne.symm hb)).trans q) ⟨_,e⟩ ?_;exact⟨hz,its',n',r,e⟩
def wW:V→V→V→Hp→(Hp→Prop)→Prop:=fun o i v H Q=>∃p xs k j,o=.ref p∧i=.int k∧H p=some (.lst xs)∧ixN xs.length k=some j∧Q (upd H p (.lst (xs.set j v)))
theorem Ru:xK X wW:=by
 intro Cr s σ H o i v ov iv u Q I ro ri rv h;obtain⟨p,xs,k,j,rfl,rfl,hp,hj,q⟩:=h;cases ro;obtain⟨t,rfl⟩:=ri;obtain⟨its,n,r,ho,hz⟩:=I.lst hp;obtain⟨h1,h2,h3,h4⟩:=kE hj;have hl:=r.length;have hn:=Nd;have I':Inv X Cr σ (upd H p (.lst (xs.set j v))) {s with heap:=s.heap.update p (Obj.mapSeq (·.setIfInBounds j u))}:=
  I.lstUpd hp ho (gZ its n j u) (r.set rv j) (by rw[List.length_set];exact hz) s.toks
 by_cases h0:0≤k
 ·have hk:k.toNat=j:=by
   rw[seqIndex_of h0 h4]at h1;exact zT h1
  exact W.ki_setAt ho h0 (by omega) (by rw[zD,←hl];exact h4) (by rw[hk];exact⟨_,I',q⟩)
 ·have hk:(k+(its.toArray.size:Int)).toNat=j:=by
   rw[seqIndex_neg (by omega) h3]at h1;rw[zD,←hl];exact zT h1
  exact W.ki_setBack ho (by omega) (by rw[zD,←hl];exact h3) (by omega) (by rw[hk];exact⟨_,I',q⟩)
theorem Oy(lo hi:Option Int)(n:Nat):(sliceBounds lo hi none n).1=((HT.sIx n 0 lo:Nat):Int)∧(sliceBounds lo hi none n).2.1=((HT.sIx n n hi:Nat):Int)∧(sliceBounds lo hi none n).2.2=1:=by
 refine⟨?_,?_,rfl⟩
 ·cases lo with
  |none=>simp[sliceBounds,HT.sIx]
  |some i=>
   simp only[sliceBounds,HT.sIx,Option.getD_none,show(1:Int) > 0 by decide,if_true];by_cases h:i<0
   ·simp only[h,if_true] <;> omega
   ·simp only[h,if_false] <;> omega
 ·cases hi with
  |none=>simp[sliceBounds,HT.sIx]
  |some i=>
   simp only[sliceBounds,HT.sIx,Option.getD_none,show(1:Int) > 0 by decide,if_true];by_cases h:i<0
   ·simp only[h,if_true] <;> omega
   ·simp only[h,if_false] <;> omega
theorem P5(its:List Value)(lo hi:Option Int):slicePick its.toArray lo hi none=((its.drop (HT.sIx its.length 0 lo)).take (HT.sIx its.length its.length hi-HT.sIx its.length 0 lo)).toArray:=by
 obtain⟨h1,h2,h3⟩:=Oy lo hi its.toArray.size;unfold slicePick;rw[h1,h2,h3];simp only[sliceRange_one,pick_run,List.size_toArray] <;> rfl
def rSlL(K:W.Frag):V→Option Int→Option Int→Hp→VK→Prop:=fun x lo hi H Q=>∃a xs,x=.ref a∧SqL K H a xs∧∀p,H p=none→Q (.ref p) (upd H p (.lst (bU xs lo hi)))
theorem W4:SlR X (rSlL X.K):=by
 intro Cr s σ H x v vl vu lo hi sl Q I rx hs pl pu h;obtain⟨a,xs,rfl,hx,q⟩:=h;cases rx;obtain⟨its,r,ht,hz⟩:=I.list hx;have CK:=r.length;refine⟨"list",_,slot_list_getitem.lookup,ht.isList.typeIs,?_⟩;refine wpAny_getItem_list_slice ht.isList hs pl pu .none (by simp) ?_ (by rw[List.size_toArray] <;> omega);rw[P5,←CK];refine⟨.ref s.heap.objs.size,_,I.laid (t':=s.toks) (o:=.lst (bU xs lo hi)) (fun b ob q=>yJ _ q) (yM _) ?_,rfl,q _ (I.hok.fresh (yM _))⟩;exact⟨zP (Sr xs lo hi) hz,_,0,(r.drop (HT.sIx xs.length 0 lo)).take (HT.sIx xs.length xs.length hi-HT.sIx xs.length 0 lo),yY _ rfl⟩
theorem Zw:aK X (.builtin "len") (fun xs H Q=>∃p ys,xs=[.ref p]∧(SqL X.K H p ys∨SqT X.K H p ys)∧Q (.int ys.length) H):=by
 intro Cr s σ H xs us Q I r h;obtain⟨p,ys,rfl,hq,q⟩:=h;obtain⟨u,rfl,rx⟩:=Xx r;cases rx;have hn:=Nd
 rcases hq with hq | hq
 ·obtain⟨its,r',pl,hz⟩:=I.list hq;have CK:=r'.length;exact Calls.call_len_list pl.isList (by simp only[List.size_toArray] <;> omega) ⟨.int ys.length,H,I.tok _,⟨s.toks+1,by rw[List.size_toArray,CK]⟩,q⟩
 ·obtain⟨its,r',pl,hz⟩:=I.tuple hq;have CK:=r'.length;exact len_tuple pl (by simp only[List.size_toArray] <;> omega) ⟨.int ys.length,H,I.tok _,⟨s.toks+1,by rw[List.size_toArray,CK]⟩,q⟩
theorem Tx:aK X (.type "list") (fun xs H Q=>∃p ys,xs=[.ref p]∧(SqL X.K H p ys∨SqT X.K H p ys)∧∀l,H l=none→Q (.ref l) (upd H l (.lst ys))):=by
 intro Cr s σ H xs us Q I r h;obtain⟨p,ys,rfl,hq,q⟩:=h;obtain⟨u,rfl,rx⟩:=Xx r;cases rx;have fin:∀(its:List Value),Vals ys its→ys.length≤sizeLine→∀(h':Heap)(c':Nat),(∀b o',s.heap.get? b=some o'→h'.get? b=some o')→
   h'.get? s.heap.objs.size=some {cls:=.type "list",dict:=none,data:=.seq its.toArray c',slots:=#[]}→EP X Cr σ Q (.ref s.heap.objs.size) {s with heap:=h'}:=fun its r' hz h' c' kp e=>
  ⟨.ref s.heap.objs.size,_,I.laid (t':=s.toks) kp (yM _) (show ObjOk X.prog X.w _ h' _ (.lst ys) from⟨hz,its,c',r',e⟩),rfl,q _ (I.hok.fresh (yM _))⟩
 rcases hq with hq | hq
 ·obtain⟨its,r',pl,hz⟩:=I.list hq;have CK:=r'.length;obtain⟨o,ho,hc,n,hd⟩:=pl.isList;exact call_list_seq p (.inl rfl) ho hc hd (fun h' c' kp e=>fin its r' hz h' c' kp e) (by simp only[List.size_toArray] <;> omega)
 ·obtain⟨its,r',pl,hz⟩:=I.tuple hq;have CK:=r'.length;obtain⟨o,ho,hc,n,hd⟩:=pl;exact call_list_seq p (.inr rfl) ho hc hd (fun h' c' kp e=>fin its r' hz h' c' kp e) (by simp only[List.size_toArray] <;> omega)
theorem Pd:aK X (.type "tuple") (fun xs H Q=>∃p ys,xs=[.ref p]∧((SqL X.K H p ys∧∀l,H l=none→Q (.ref l) (upd H l (.tup ys)))∨(SqT X.K H p ys∧Q (.ref p) H))):=by
 intro Cr s σ H xs us Q I r h;obtain⟨p,ys,rfl,h⟩:=h;obtain⟨u,rfl,rx⟩:=Xx r;cases rx
 rcases h with⟨hq,q⟩|⟨hq,q⟩
 ·obtain⟨its,r',pl,hz⟩:=I.list hq;have CK:=r'.length;refine call_tuple_list pl.isList (fun h' kp=>?_) (by simp only[List.size_toArray] <;> omega);have I1:Inv X Cr σ H {s with heap:=h'}:=I.kept (t':=s.toks) kp;have I2:Inv X Cr σ (upd H h'.objs.size (.tup ys)) {s with heap:=h'.push {cls:=.type "tuple",data:=.seq its.toArray}}:=
   I1.laid (t':=s.toks) (fun b o e=>yJ _ e) (yM _) (show ObjOk X.prog X.w _ _ _ (.tup ys) from⟨hz,its,r',TupN.new _ _⟩)
  exact⟨.ref h'.objs.size,_,I2,rfl,q _ (I1.hok.fresh (yM _))⟩
 ·obtain⟨its,r',pl,hz⟩:=I.tuple hq;exact call_tuple_same pl ⟨.ref p,H,I,rfl,q⟩
def tyV(K:W.Frag)(T:String)(x:V)(H:Hp):Prop:=match x with
 |.str _=>T="str"
 |.int _=>T="int"
 |.ref p=>(T="list"∧∃xs,SqL K H p xs)∨(T="tuple"∧∃o,K.lookup p=some o∧o.cls=.type "tuple"∧o.dict=none)∨
   (T="dict"∧((∃kvs,H p=some (.dK kvs))∨∃kvs,H p=some (.dT kvs)))∨(T="set"∧∃S n,H p=some (.set S n))
 |_=>False
theorem nP{Cr:List (Addr×Obj)}{σ:St}{H:Hp}{s:Shared}{T:String}{x:V}{v:Value}(I:Inv X Cr σ H s)(r:RelV x v)(ty:tyV X.K T x H):
  s.TypeIs v T∧∀a,v=.ref a→∃ob,s.heap.get? a=some ob∧ob.dict=none:=by
 cases x with
 |str z=>
  obtain⟨t,rfl⟩:=r;cases (show T="str" from ty);exact⟨typeIs_str s z t,fun _ e=>nomatch e⟩
 |int i=>
  obtain⟨t,rfl⟩:=r;cases (show T="int" from ty);exact⟨typeIs_int s i t,fun _ e=>nomatch e⟩
 |ref p=>
  cases r
  rcases ty with⟨rfl,xs,hq⟩|⟨rfl,o,hk,hc,hd⟩|⟨rfl,hk⟩|⟨rfl,S,n,hk⟩
  ·obtain⟨its,_,pl,_⟩:=I.list hq;refine⟨pl.isList.typeIs,fun a e=>?_⟩;cases e;obtain⟨o,n,e,c,hd,_⟩:=pl;exact⟨o,e,hd⟩
  ·refine⟨⟨o,I.kIn p o hk,hc⟩,fun a e=>?_⟩;cases e;exact⟨o,I.kIn _ o hk,hd⟩
  ·have z:∃o,s.heap.get? p=some o∧o.ExactDict:=by
    rcases hk with⟨kvs,hk⟩|⟨kvs,hk⟩
    ·obtain⟨_,_,_,_,o,_,_,e,ex,_⟩:=I.hok p _ hk;exact⟨o,e,ex⟩
    ·obtain⟨_,_,_,_,o,_,_,e,ex,_⟩:=I.hok p _ hk;exact⟨o,e,ex⟩
   obtain⟨o,e,ex⟩:=z;refine⟨⟨o,e,ex.1⟩,fun a e2=>?_⟩;cases e2;exact⟨o,e,ex.2.1⟩
  ·obtain⟨o,_,_,_,e,ex,_⟩:=I.hok p _ hk;refine⟨⟨o,e,ex.1⟩,fun a e2=>?_⟩;cases e2;exact⟨o,e,ex.2.1⟩
 |_=>exact False.elim ty
def tBM0(K:W.Frag)(T:String)(r:V→List V→Hp→VK→Prop)(to:TE):TE:=fun σ H Q=>to σ H fun x H1=>tyV K T x H1∧r x [] H1 Q
def tBM(K:W.Frag)(T:String)(r:V→List V→Hp→VK→Prop)(to:TE)(t:TA):TE:=fun σ H Q=>to σ H fun x H1=>tyV K T x H1∧t σ H1 fun xs H2=>r x xs H2 Q
variable{o e:Expr}{es:List Expr}{to:TE}{t:TA}{name:Str}{apos cpos:Pos}{T id:String}{r:V→List V→Hp→VK→Prop}
theorem Q4(pa:PlainAttrs T)(slot:Slot T name id)(hty:typeOf (.builtin id)=pure (.type "method_descriptor"))(hm:MtR X id r)(ho:PE X o to)(hbase:attributeBase o name X.env (eval o X.env)=eval o X.env:=by rfl)(hline:(apos.endLine==cpos.line)=true:=by rfl):PE X (.Call (.Attribute o name apos) [] [] cpos) (tBM0 X.K T r to):=by
 intro Cr s σ H Q I h;refine wpAny_Call_method0_late hbase hline (thn (ho Cr s σ H _ I h) fun v s1 Cs=>?_);obtain⟨x,H1,I1,r1,ty,q1⟩:=Cs;obtain⟨h1,h2⟩:=nP I1 r1 ty;exact⟨T,id,pa,slot,hty,h1,h2,Calls.callWith_builtin rfl (PySem.evalArgs_none (hm Cr s1 σ H1 x [] v [] Q I1 r1 .nil q1))⟩
theorem fX(pa:PlainAttrs T)(slot:Slot T name id)(hty:typeOf (.builtin id)=pure (.type "method_descriptor"))(hm:MtR X id r)(ho:PE X o to)(ha:PA X (e::es) t)(hbase:attributeBase o name X.env (eval o X.env)=eval o X.env:=by rfl)(hfew:((backTo cpos (starEach (e::es) X.env)).all (fun x=>!x.1) && (backToKw cpos (keywordEach [] X.env)).all (fun x=>x.1.isSome)
   && decide ((e::es).length+([]:List Keyword).length+(if ([]:List Keyword).isEmpty then 0 else 1)<30))=true:=by rfl)(hline:(apos.endLine==cpos.line)=true:=by rfl)(hs:starEach (e::es) X.env=(false,eval e X.env)::starEach es X.env:=by rfl)(hplain:(backTo cpos (starEach es X.env)).any (·.1)=false:=by rfl):
  PE X (.Call (.Attribute o name apos) (e::es) [] cpos) (tBM X.K T r to t):=by
 intro Cr s σ H Q I h;refine wpAny_Call_method_late hbase hfew hline rfl (thn (ho Cr s σ H _ I h) fun v s1 Cs=>?_);obtain⟨x,H1,I1,r1,ty,q1⟩:=Cs;obtain⟨h1,h2⟩:=nP I1 r1 ty;refine⟨T,id,pa,slot,hty,h1,h2,?_⟩;have hA:=ha cpos Cr s1 σ H1 _ I1 q1;rw[hs]at hA⊢;refine Calls.callWith_builtin (by show(false || (backTo cpos (starEach es X.env)).any (·.1))=false;rw[hplain] <;> rfl) (Calls.evalArgs_plain ?_);exact thn hA fun us s2 ⟨vs,H2,I2,r2,q2⟩=>hm Cr s2 σ H2 x vs v us Q I2 r1 r2 q2
end
def MtM(X:Cx)(id:String)(r:V→List V→Hp→VK→Prop):Prop:=
 ∀(Cr:List (Addr×Obj))(s:Shared)(σ:St)(H:Hp)(x:V)(xs:List V)(v:Value)(us:List Value)(Q:VK),Inv X Cr σ H s→RelV x v→Vals xs us→r x xs H Q→
  wpAny (model X.prog X.w) X.A (call (.builtin id) (v::us)) (EP X Cr σ Q) X.xe s
theorem Vals.one{x:V}{us:List Value}(h:Vals [x] us):∃u,us=[u]∧RelV x u:=by
 cases h with
 |cons r t=>
  cases t;exact⟨_,rfl,r⟩
theorem Vals.reverse{xs:List V}{us:List Value}(h:Vals xs us):Vals xs.reverse us.reverse:=by
 induction h with
 |nil=>exact .nil
 |cons r t ih=>rw[List.reverse_cons,List.reverse_cons];exact Vals.append ih (.cons r .nil)
section
variable{X:Cx}{Cr:List (Addr×Obj)}{σ:St}{H:Hp}{s:Shared}{l b:Addr}{xs ys zs:List V}
theorem Inv.lset{its its':List Value}{n:Nat}{f:Array Value→Array Value}{t':Nat}(I:Inv X Cr σ H s)(hH:H l=some (.lst xs))(e:s.heap.get? l=some {cls:=.type "list",data:=.seq its.toArray n})(hf:f its.toArray=its'.toArray)(hv:Vals ys its')(hz:ys.length≤sizeLine):
  Inv X Cr σ (upd H l (.lst ys)) {s with heap:=s.heap.update l (Obj.mapSeq f),toks:=t'}:=by
 have q:=PySem.IsL.update e f;rw[hf]at q;refine I.write (x:=l) (e:=l) (by rw[hH];exact trivial) (.inl rfl) (fun b' u hb hu=>(Ao s.heap (Obj.mapSeq f) (Ne.symm hb)).trans hu) ⟨_,q⟩ ?_;exact⟨hz,its',_,hv,q⟩
theorem Inv.lnew{its:List Value}{t':Nat}(I:Inv X Cr σ H s)(hv:Vals ys its)(hz:ys.length≤sizeLine):
  Inv X Cr σ (upd H s.heap.objs.size (.lst ys)) {s with heap:=s.heap.push {cls:=.type "list",data:=.seq its.toArray},toks:=t'}:=
 I.laid (fun _ _ q=>yJ _ q) (yM _) ⟨hz,its,0,hv,yY _ rfl⟩
theorem Inv.fresh(I:Inv X Cr σ H s):H s.heap.objs.size=none:=I.hok.fresh (yM _)
theorem Inv.lstM(I:Inv X Cr σ H s)(hH:H l=some (.lst xs)):xs.length≤sizeLine∧∃(its:List Value)(n:Nat),Vals xs its∧xs.length=its.length∧s.heap.get? l=some {cls:=.type "list",data:=.seq its.toArray n}:=by
 obtain⟨z,its,n,r,e⟩:=I.hok l _ hH;exact⟨z,its,n,r,r.length,e⟩
theorem oP{n:Nat}(h:n≤sizeLine):Builtin.List.listTooLong n=false:=by
 unfold Builtin.List.listTooLong;exact zA (by omega)
end
section
variable{X:Cx}
def tH:V→List V→Hp→VK→Prop:=fun x vs H Q=>∃l xs y,x=.ref l∧vs=[y]∧H l=some (.lst xs)∧xs.length<sizeLine∧Q .non (upd H l (.lst (xs++[y])))
theorem mM:MtM X "list.append" tH:=by
 intro Cr s σ H x vs v us Q I rx rv h;obtain⟨l,xs,y,rfl,rfl,hH,hz,q⟩:=h;cases rx;obtain⟨u,rfl,ru⟩:=rv.one;obtain⟨z,its,n,r,hl,e⟩:=I.lstM hH;refine call_meets F.slot_list_append ⟨_,e,rfl⟩ F.entry_list_append (F.args_list_append_2 _ _) (PySem.list_append l its.toArray n u (by rw[zD];omega)) ⟨e,?_⟩;refine⟨.non,_,I.lset (its':=its++[u]) hH e (by simp) (r.append (.cons ru .nil)) ?_,rfl,q⟩;rw[yR,Au];omega
def tQ:V→List V→Hp→VK→Prop:=fun x vs H Q=>∃l b xs zs,x=.ref l∧vs=[.ref b]∧H l=some (.lst xs)∧H b=some (.lst zs)∧xs.length+zs.length≤sizeLine∧Q .non (upd H l (.lst (xs++zs)))
theorem l9:MtM X "list.extend" tQ:=by
 intro Cr s σ H x vs v us Q I rx rv h;obtain⟨l,b,xs,zs,rfl,rfl,hH,hB,hz,q⟩:=h;cases rx;obtain⟨u,rfl,ru⟩:=rv.one;cases ru;obtain⟨z,its,n,r,hl,e⟩:=I.lstM hH;obtain⟨z2,its2,n2,r2,hl2,e2⟩:=I.lstM hB;have hsz:its.toArray.size+its2.toArray.size≤sizeLine:=by rw[zD,zD];omega
 have hlong:¬(!its.toArray.isEmpty && Builtin.List.listTooLong (its.toArray.size+its2.toArray.size))=true:=by
  rw[oP hsz,Bool.and_false];exact yT
 refine call_meets F.slot_list_extend ⟨_,e,rfl⟩ F.entry_list_extend (F.args_list_extend_2 _ _)
  (AutoSeq1.list_extend_list_list_0 l its.toArray n b its2.toArray n2 hlong (by rw[zD];omega) (by omega)) ⟨e,e2,?_⟩
 refine⟨.non,_,I.lset (its':=its++its2) hH e (by simp) (r.append r2) ?_,rfl,q⟩;rw[yR];omega
def rCat:R2:=fun x y H Q=>∃l b xs zs,x=.ref l∧y=.ref b∧H l=some (.lst xs)∧H b=some (.lst zs)∧xs.length+zs.length≤sizeLine∧∀p,H p=none→Q (.ref p) (upd H p (.lst (xs++zs)))
theorem W2:OpR X (binaryOp .Add) rCat:=by
 intro Cr s σ H x y v u Q I rx ry h;obtain⟨l,b,xs,zs,rfl,rfl,hH,hB,hz,q⟩:=h;cases rx;cases ry;obtain⟨z,its,n,r,hl,e⟩:=I.lstM hH;obtain⟨z2,its2,n2,r2,hl2,e2⟩:=I.lstM hB;refine PySem.P.add_list e e2 ?_ (by rw[zD,zD];omega);have ea:its.toArray++its2.toArray=(its++its2).toArray:=by simp
 rw[ea];exact⟨.ref _,_,I.lnew (t':=s.toks) (r.append r2) (by rw[yR];omega),rfl,q _ I.fresh⟩
end
section
variable{prog:Program}{w:World}{A:Around}{E:Value→Shared→Prop}{s:Shared}
end
section
variable{X:Cx}
end
end L2
namespace Att
open PySem PySem.W PySem.Calls PyProof.Rows
theorem Sv{P:Params}{h:Heap}:∀(ns:List Int)(vs:List Value),WellAll P h vs (ns.map WData.int)→IntsAre vs ns:=by
 intro ns
 induction ns with
 |nil=>
  intro vs w;rw[B0]at w;cases w;exact .nil
 |cons n ns ih=>
  intro vs w;rw[yQ]at w;cases w with
  |cons a b=>
   cases a;exact .cons _ _ (ih _ b)
theorem lV{l:OpenLaw}{n:Nat}(hn:l.most=some n){P:Params}{h:Heap}{args:List WData}{vals:List Value}(hpre:l.row.toRowW.claim.pre args=true)(hwl:WellAll P h vals args):
  ∃a vs ns,vals=[Value.ref a]∧args=[WData.list (ns.map WData.int)]∧h.get? a=some {cls:=.type "list",data:=.seq vs.toArray}∧IntsAre vs ns∧ns.length≤n:=by
 have hsh:WShape.hasAll [] args [.list .int]=true:=(pre_splitW hpre).1;have hc:l.pre.holds [] {args:=args}=true:=(pre_splitW hpre).2;obtain⟨d,r,rfl,h1,h2⟩:=hasAllW_cons hsh;obtain rfl:=hasAllW_nil h2;obtain⟨xs,rfl,h3⟩:=hasW_list h1;obtain⟨ns,rfl⟩:=items_int h3;have CK:ns.length≤n:=by
  unfold OpenLaw.pre at hc;have h4:(WTm.not (.lt (.lit (.int (n:Int))) (.len (.arg 0)))).holds [] {args:=[.list (ns.map .int)]}=true:=by
   have h4:=(holds_andW hc).1;rw[hn]at h4;exact h4
  have h5:=condW_of h4 (w_not (w_lt w_lit (w_len_list (w_arg rfl))));rw[pi]at h5;refine Nat.le_of_not_lt fun q=>?_;have q':(n:Int)<((ns.length:Nat):Int):=by omega
  first
   | (rw[yX q']at h5;exact absurd h5 (by decide))
   | (simp at h5;omega)
 cases hwl with
 |cons w1 w2=>
  cases w2;cases w1 with
  |list ho hall=>exact⟨_,_,ns,rfl,rfl,ho,Sv ns _ hall,CK⟩
theorem ln(l:OpenLaw)(args:List WData):l.row.toRowW.claim.post args (.bool true) args=true:=
 postW_of (r:=l.row.toRowW) (X:=(true==true))
  (show WShape.has [] (.bool true) .bool=true by first | rfl | decide | simp[WShape.has,WShape.arms,WShape.armsAll])
  (show(WTm.eq .res (.lit (.bool true))).value [] {args:=args,res:=some (.bool true),after:=args}=some (.bool (true==true))from w_eq_bool (w_res rfl) w_lit) rfl
theorem attach_call{l:OpenLaw}{n:Nat}{q:Program}{loose:List Str}{XP:(Str→Option Value)→Heap→Prop}{YP:World→Heap→Prop}{d:DefRec}(hn:l.most=some n)(hdf:d.params.defaults=[])(call:∀(w:World) (s₀ s₁:Shared) (mg mb:Str→Option Value) (fa:Addr) (o:Obj) (pm cd doc:Value) (a:Addr) (vs:List Value) (ns:List Int),
   Ground q loose [] XP w s₀ mg mb s₁.heap→YP w s₁.heap→
   s₁.heap.get? fa=some o→o.data=.func (docDef d.name d.params d.body d.scope pm cd doc)→s₁.heap.CodeRec cd d.name→mg d.name=some (.ref fa)→
   s₁.heap.get? a=some {cls:=.type "list",data:=.seq vs.toArray}→IntsAre vs ns→ns.length≤n→s₁.gens=#[]→
   codeAny (model l.prog w) callerA (.call (.ref fa) ⟨[.ref a],[]⟩) (fun r s'=>r=.ok (.ret (.bool true))∧OldK s₁.heap s'.heap∧s'.os=s₁.os∧AllBare s'.gens) s₁):
  WalkO q loose XP YP l.row.toRowW d [] (fun f vs=>PySem.call f vs):=by
 intro w s₀ s₁ mg mb G Y fa o pm cd doc dV kV ho hd hcd hD hmg hg args vals as hpre hlay hrd hwl hlo;obtain rfl:dV=.none:=Dflts.none hD hdf;obtain rfl:kV=.none:=Dflts.noKw hD;obtain⟨a,vs,ns,rfl,rfl,hobj,hints,CK⟩:=lV hn hpre hwl;refine enter_call (BZ (call w s₀ s₁ mg mb fa o pm cd doc a vs ns G Y ho (fd_plain hd) hcd hmg hobj hints CK hg) fun r s' hq=>?_);obtain⟨rfl,h2,h3,h4⟩:=hq;exact⟨.inl ⟨.bool true,.bool true,[],rfl,fun _=>rfl,.bool true,ln l _,fun _=>⟨List.Pairwise.nil,fun _ hm=>(nomatch hm)⟩⟩,h2,h3,h4⟩
section
variable{prog:Program}{w:World}{A:Around}{E:Value→Shared→Prop}{s:Shared}{K:Frag}
end
end Att
namespace L2
open PySem PySem.Spec PyProof.Rows
theorem U8:∀{vs:List Value}{ns:List Int},IntsAre vs ns→Vals (ns.map V.int) vs
 |_,_,.nil=>.nil
 |_,_,.cons n t h=>.cons ⟨t,rfl⟩ (U8 h)
def uY(H:Hp):Prop:=∀b,H b=none∨∃o xs,H b=some (.frz o (.lst xs))
theorem qT{P:Program}{w:World}{K:W.Frag}{mg mb:Str→Option Value}{CX:CXT}{k:Nat}{fa a:Addr}{fd:FuncData}{x:Str}{sp:Sp}{s₁:Shared}{vs:List Value}{ns:List Int}(KX:K.In s₁.heap)(hns:s₁.heap.Ns mainGlobals mg)(hb:s₁.heap.Ns builtinsNs mb)(hbb:∀x:Str,x≠"__name__"→mb x=bootBuiltins x)(hlim:s₁.heap.NoLimit)(hg:s₁.gens=#[])(ha:s₁.heap.get? a=some {cls:=.type "list",data:=.seq vs.toArray})(hi:IntsAre vs ns)(hl:ns.length≤sizeLine)(hr:Room k callerA)(F:∀base:Heap,K.In base→base.Ns mainGlobals mg→FnOk P w K mg base CX k fa fd [x] sp)(hbind:∀(s:Shared) (u:Value),BindsTo s fd ⟨[u],[]⟩ [(x,u)])(hsp:∀H:Hp,uY H→SqL K H a (ns.map V.int)→sp [.ref a] H (fun v _=>v=.bl true) fun _ _ _=>False)(hCX:∀H e s',CX [] H s₁ (fun _ _ _=>False) e s'→False):
  codeAny (model P w) callerA (.call (.ref fa) ⟨[.ref a],[]⟩) (fun r s'=>r=.ok (.ret (.bool true))∧OldK s₁.heap s'.heap∧s'.os=s₁.os∧AllBare s'.gens) s₁:=by
 have rv:=U8 hi;have lenV:=hi.length;have core:∀H:Hp,uY H→SqL K H a (ns.map V.int)→HOk P w H s₁.heap→(∀b,H b≠none→b=a)→(H a≠none→K.lookup a=none)→
   codeAny (model P w) callerA (.call (.ref fa) ⟨[.ref a],[]⟩) (fun r s'=>r=.ok (.ret (.bool true))∧OldK s₁.heap s'.heap∧s'.os=s₁.os∧AllBare s'.gens) s₁:=by
  intro H hO hS hok hA hK;have base_of:∀{b:Addr}{o:Obj},s₁.heap.get? b=some o→H b=none→(dW s₁.heap H).get? b=some o:=fun e n=>qV e n;have noA:∀{b:Addr}{o:Obj}{es:Array DictEntry}{ep:Nat},s₁.heap.get? b=some o→o.data=.dict es ep→H b=none:=fun{b o es ep} e d=>by
   cases q:H b with
   |none=>rfl
   |some u=>
    have e':b=a:=hA b (by rw[q];simp);subst e';rw[ha]at e;cases e;have d':Data.seq vs.toArray _=Data.dict es ep:=d;cases d'
  have nsK:∀{b:Addr}{m:Str→Option Value},s₁.heap.Ns b m→(dW s₁.heap H).Ns b m:=fun{b m} ⟨o,es,ep,e,d,r⟩=>⟨o,es,ep,base_of e (noA e d),d,r⟩;have hKb:K.In (dW s₁.heap H):=fun b o e=>base_of (KX b o e) (by
   cases q:H b with
   |none=>rfl
   |some u=>
    have e':b=a:=hA b (by rw[q];simp);subst e';rw[hK (by rw[q];simp)]at e;cases e)
  have hM:Mod K mg (dW s₁.heap H):=⟨hKb,nsK hns,⟨mb,nsK hb,hbb⟩,let ⟨mc,h1,h2⟩:=hlim;⟨mc,nsK h1,h2⟩⟩;have e0:Env0 P w K mg (dW s₁.heap H) callerA [] s₁ H:=⟨rfl,hM,fun b o e=>rT e,Nat.le_of_eq (lZ _ _),trivial,fun b hb=>absurd (show b∈([]:List Addr)from hb) (by simp),hok,.of_eq hg⟩;refine BZ ((F _ hKb (nsK hns)).run callerA [] s₁ H ⟨[.ref a],[]⟩ [.ref a] [.ref a] _ _ hr e0 (hbind s₁ (.ref a)) (.cons rfl .nil) (hsp H hO hS)) fun r s' h=>?_;cases r with
  |error e=>exact(hCX H e s' h).elim
  |ok fl=>
   cases fl with
   |next=>exact False.elim h
   |brk=>exact False.elim h
   |cont=>exact False.elim h
   |ret u=>
    obtain⟨v,H',os,bare,un,hok',r',q⟩:=h;have q':v=.bl true:=q;subst q';obtain rfl:u=Value.bool true:=r';refine⟨rfl,OldK.of_keep fun b o e=>?_,os,bare⟩;cases q:H b with
    |none=>exact un.keep b o e q (by intro z;exact absurd (show b∈([]:List Addr)from z) (by simp)) (by simp)
    |some u=>
     rcases hO b with z | ⟨ob,xs,z⟩
     ·rw[q]at z;cases z
     ·have z2:=un.frzs b ob _ z;obtain⟨e1,_⟩:=hok b _ z;obtain⟨e2,_⟩:=hok' b _ z2;rw[e]at e1;cases e1;exact e2
 cases hk:K.lookup a with
 |some o=>
  have e:=KX a o hk;rw[ha]at e;cases e;refine core (fun _=>none) (fun _=>.inl rfl) (.inr ⟨_,vs.toArray,_,hk,rfl,rfl,rfl,by rw[List.size_toArray,lenV];exact hl,by simpa using rv⟩) (fun b u z=>by have z':(none:Option HO)=some u:=z;cases z') (fun b z=>absurd rfl z) fun z=>absurd rfl z
 |none=>
  refine core (fun b=>if b=a then some (.frz {cls:=.type "list",data:=.seq vs.toArray} (.lst (ns.map V.int)))else none) (fun b=>?_) (.inl (.inr ⟨{cls:=.type "list",data:=.seq vs.toArray},yL rfl⟩)) (fun b u z=>?_) (fun b z=>?_) fun _=>hk
  ·by_cases hb:b=a
   ·exact .inr ⟨_,_,yL hb⟩
   ·exact .inl (yK hb)
  ·by_cases hb:b=a
   ·have z':=(yL hb).symm.trans z;cases z';subst hb;exact⟨ha,by rw[pi];exact hl,vs,_,rv,ha⟩
   ·have z':=(yK hb).symm.trans z;cases z'
  ·by_cases hb:b=a
   ·exact hb
   ·exact absurd (yK hb) z
theorem walk_of{l:W.OpenLaw}{n k:Nat}{q:Program}{loose:List Str}{XP:(Str→Option Value)→Heap→Prop}{YP:World→Heap→Prop}{d:DefRec}{K:Params→W.Frag}{CX:World→CXT}{sp:World→Sp}{x:Str}(hn:l.most=some n)(hn2:n≤sizeLine)(hdf:d.params.defaults=[])(hr:Room k callerA)(hY:∀(w:World) (h:Heap),YP w h→(K w.params).In h)(F:∀(w:World) (mg:Str→Option Value) (fa:Addr) (h:Heap),(K w.params).In h→h.Ns mainGlobals mg→mg d.name=some (.ref fa)→
   ∃fd:FuncData,(∀(s:Shared) (u:Value),BindsTo s fd ⟨[u],[]⟩ [(x,u)])∧
    ∀base:Heap,(K w.params).In base→base.Ns mainGlobals mg→FnOk l.prog w (K w.params) mg base (CX w) k fa fd [x] (sp w))(hsp:∀(w:World) (H:Hp) (a:Addr) (ns:List Int),ns.length≤n→uY H→SqL (K w.params) H a (ns.map V.int)→sp w [.ref a] H (fun v _=>v=.bl true) fun _ _ _=>False)(hCX:∀(w:World) (H:Hp) (s:Shared) (e:Value) (s':Shared),CX w [] H s (fun _ _ _=>False) e s'→False):
  W.WalkO q loose XP YP l.row.toRowW d [] (fun f vs=>PySem.call f vs):=by
 refine Att.attach_call hn hdf fun w s₀ s₁ mg mb fa o pm cd doc a vs ns G Y ho hd hcd hmg hobj hints CK hg=>?_;have KX:=hY w _ Y;obtain⟨fd,hb,hF⟩:=F w mg fa _ KX G.T.g hmg;exact qT KX G.T.g G.T.b G.T.builtins G.T.nolimit hg hobj hints (zP CK hn2) hr hF hb (fun H hO hS=>hsp w H a ns CK hO hS) fun H e s'=>hCX w H s₁ e s'
def aI(s:Stmt):Arguments:=match s with
 |.FunctionDef _ a _ _ _ _ _ _ _ _=>a
 |_=>{posonlyargs:=[],args:=[],vararg:=none,kwonlyargs:=[],kw_defaults:=[],kwarg:=none,defaults:=[]}
def aF(s:Stmt):List Stmt:=match s with
 |.FunctionDef _ _ b _ _ _ _ _ _ _=>b
 |_=>[]
def ad(s:Stmt):Scope:=match s with
 |.FunctionDef _ _ _ _ _ _ sc _ _ _=>sc
 |_=>{kind:=.function,names:=[],isGenerator:=false,isCoroutine:=false}
abbrev CX0:CXT:=fun _ _ _ _ _ _=>False
abbrev E0:XK:=fun _ _ _=>False
structure Fun(K:W.Frag)(x qual:Str)(st:Stmt)(f:Addr)(fd:FuncData):Prop where
 ex:∃(oc:Value)(od:Option Addr)(kV doc pm:Value)(an:Option Addr)(cdv ct:Value)(osl:Array (Option Value)),
  fd=W.fnOf x qual (aI st) (aF st) (ad st) .none kV doc pm an cdv ct∧K.lookup f=some ⟨oc,od,.func fd,osl⟩∧W.codeIn K cdv qual=true
 kp:W.keepIn K (.ref f)=true
section
variable{P:Program}{w:World}{K:W.Frag}{mg:Str→Option Value}{base:Heap}
theorem Fun.ok{x qual:Str}{st:Stmt}{f:Addr}{fd:FuncData}{N ps:List Str}{k:Nat}{sp:Sp}(F:Fun K x qual st f fd)(S:FnScope N ps (ad st))(len:∀vs H Q E,sp vs H Q E→vs.length=ps.length)(hbody:∀(cdv:Value) (A:Around) (outer:List Env) (s:Shared) (H:Hp) (vs:List V) (Q:VK) (E:XK),Room k (A.deeper (envOfC qual (ad st) s.heap.objs.size f cdv))→sp vs H Q E→
   ∃t,PSs (lA CX0 P w K mg base N qual (ad st) f cdv A outer s H E).nox (aF st) t∧t {nx:=fun _ H'=>Q .non H',rt:=Q} (bW N vs) H):FnOk P w K mg base CX0 (k+1) f fd ps sp:=by
 obtain⟨oc,od,kV,doc,pm,an,cdv,ct,osl,rfl,lk,hcd⟩:=F.ex;refine x3 lk hcd S len fun A outer s H vs Q E hr hsp=>?_;obtain⟨t,h,q⟩:=hbody cdv A outer s H vs Q E hr hsp;exact⟨t,h.nox,q⟩
theorem Fun.binds{x qual:Str}{st:Stmt}{f:Addr}{fd:FuncData}{ps:List Str}(F:Fun K x qual st f fd)(h:∀(kV doc pm:Value) (an:Option Addr) (cdv ct:Value) (us:List Value),us.length=ps.length→bindArgs (W.fnOf x qual (aI st) (aF st) (ad st) .none kV doc pm an cdv ct) ⟨us,[]⟩=pure (ps.zip us)):Binds K fd ps []:=by
 obtain⟨oc,od,kV,doc,pm,an,cdv,ct,osl,rfl,lk,hcd⟩:=F.ex;exact .all (h kV doc pm an cdv ct)
theorem n9{x qual:Str}{st:Stmt}{f:Addr}{oc:Value}{od an:Option Addr}{osl:Array (Option Value)}{kV doc pm cdv ct:Value}(l:K.lookup f=some ⟨oc,od,.func (W.fnOf x qual (aI st) (aF st) (ad st) .none kV doc pm an cdv ct),osl⟩)(c:W.codeIn K cdv qual=true)(k:W.keepIn K (.ref f)=true):Fun K x qual st f (W.fnOf x qual (aI st) (aF st) (ad st) .none kV doc pm an cdv ct):=⟨⟨oc,od,kV,doc,pm,an,cdv,ct,osl,rfl,l,c⟩,k⟩
end
theorem X0{A:Around}{k:Nat}(hr:Room k A):A.units+1<cLine:=Nat.lt_of_le_of_lt (Nat.add_le_add_left (by decide:1≤64) _) hr.units
section
variable{X:Cx}
theorem pv(i:Nat){x:Str}{pos:Pos}(hN:X.N[i]?=some x:=by rfl)(hv:Vis X.env.scope x:=by first | exact Or.inl rfl | exact Or.inr (Or.inl rfl) | exact Or.inr (Or.inr rfl))(hd:(x==("__debug__":Str))=false:=by decide)(hcd:(x==("__classdict__":Str))=false:=by decide):PE X (.Name x pos) (wB i):=wt hN hv hd hcd
end
theorem Ww{A B:Prop}(h:B):if false=true then A else B:=by
 rw[yK yT];exact h
theorem Wv{A B:Prop}(h:A):if true=true then A else B:=by
 rw[yL rfl];exact h
theorem Xm{c A B:Prop}[Decidable c](h1:c→A)(h2:¬c→B):if c then A else B:=by
 by_cases h:c
 ·rw[yL h];exact h1 h
 ·rw[yK h];exact h2 h
def Same(H H':Hp):Prop:=∀b o,H b=some o→H' b=some o
theorem Same.refl(H:Hp):Same H H:=fun _ _ h=>h
theorem Same.trans{H H1 H2:Hp}(a:Same H H1)(b:Same H1 H2):Same H H2:=fun c o h=>b c o (a c o h)
theorem Same.free{H H':Hp}(e:Same H H'){l:Addr}(h:H' l=Option.none):H l=Option.none:=by
 cases q:H l with
 |none=>rfl
 |some o=>
  rw[e l o q]at h;cases h
end L2
set_option maxHeartbeats 4000000
set_option bootstrap.genMatcherCode false
set_option genInjectivity false
set_option genSizeOf false
noncomputable section
namespace L2
open PySem PySem.Spec PyProof.Rows
theorem Qs{α β:Type}{f:α→β→Sem (ForInStep β)}{g:β→α→β}:∀(l:List α)(c:β),(∀x∈l,∀c,f x c=pure (.yield (g c x)))→forIn l c f=pure (l.foldl g c)
 | [],_,_=>rfl
 |x::l,c,h=>by
  rw[B8,h x zL,pure_bind];exact Qs l (g c x) fun y hy=>h y (zS _ hy)
def aL(env:Env)(CH:List (Str×Addr))(x:Str×NameKind):List (Str×Addr):=if x.2==.free then(x.1,(env.cells.lookup x.1).getD 0)::CH else CH
def aZ(env:Env)(names:List (Str×NameKind)):List (Str×Addr):=names.foldl (aL env) []
theorem Pb{scope:Scope}{env:Env}(h:∀x∈scope.names,x.2=.free→∃c,env.cells.lookup x.1=some c):closureFor scope env=pure (aZ env scope.names):=by
 simp only[closureFor];rw[Qs (g:=aL env) scope.names [] (fun x hx c=>by
  obtain⟨n,kind⟩:=x;by_cases hk:kind=.free
  ·subst hk;obtain⟨a,ha⟩:=h _ hx rfl;have ha':env.cells.lookup n=some a:=ha;simp[aL,cellOf,ha']
  ·have hb:(kind==NameKind.free)=false:=by simpa using hk
   simp[aL,hb])]
 rfl
theorem Ob{env:Env}:∀(names:List (Str×NameKind))(CH:List (Str×Addr)),(∀x∈names,x.2=.free→∃c,env.cells.lookup x.1=some c)→(∀p∈CH,env.cells.lookup p.1=some p.2)→
  ∀p∈names.foldl (aL env) CH,env.cells.lookup p.1=some p.2
 | [],_,_,h=>h
 |x::r,CH,hn,h=>by
  refine Ob r _ (fun y hy=>hn y (zS _ hy)) ?_;intro p hp;unfold aL at hp
  split at hp
  ·rename_i hk
   rcases y8.mp hp with e | e
   ·subst e;obtain⟨c,hc⟩:=hn x List.mem_cons_self (by simpa using hk);show env.cells.lookup x.1=some ((env.cells.lookup x.1).getD 0);rw[hc];rfl
   ·exact h p e
  ·exact h p hp
theorem Oa{env:Env}:∀(names:List (Str×NameKind))(CH:List (Str×Addr))(p:Str×Addr),p∈CH→p∈names.foldl (aL env) CH
 | [],_,_,h=>h
 |x::r,CH,p,h=>by
  refine Oa r _ p ?_;unfold aL
  split
  ·exact zS _ h
  ·exact h
theorem Oc{env:Env}:∀(names:List (Str×NameKind))(CH:List (Str×Addr))(x:Str),(x,NameKind.free)∈names→∃c,(x,c)∈names.foldl (aL env) CH
 |y::r,CH,x,h=>by
  rcases y8.mp h with e | e
  ·subst e;exact⟨_,Oa r _ _ (by unfold aL;rw[yL (by rfl)];exact zL)⟩
  ·exact Oc r _ x e
theorem Us{α:Type}:∀{l:List (Str×α)}{x:Str}{c:α},(x,c)∈l→∃d,l.lookup x=some d
 | (y,d)::r,x,c,h=>by
  rw[List.lookup_cons];cases e:x==y with
  |true=>exact⟨d,rfl⟩
  |false=>
   rcases y8.mp h with q | q
   ·cases q;rw[beq_self_eq_true]at e;cases e
   ·exact Us q
theorem Wi(env:Env):∀(names:List (Str×NameKind))(x:Str),(names.map fun(n,k)=>if (k==NameKind.free && env.scope.kind==.function && env.kindOf n==some .cell) then(n,NameKind.cell) else(n,k)).lookup x =
  (names.lookup x).map fun k=>if (k==NameKind.free && env.scope.kind==.function && env.kindOf x==some .cell)then NameKind.cell else k
 | [],_=>rfl
 | (n,k)::r,x=>by
  have ih:=Wi env r x;show List.lookup x ((if (k==NameKind.free && env.scope.kind==.function && env.kindOf n==some .cell)=true then(n,NameKind.cell) else(n,k))::_)=_;have hr:((n,k)::r).lookup x=(match x==n with | true=>some k | false=>r.lookup x):=List.lookup_cons ..;rw[hr];by_cases hc:(k==NameKind.free && env.scope.kind==.function && env.kindOf n==some .cell)=true
  ·rw[yL hc,List.lookup_cons];cases hx:x==n with
   |true=>
    have e:x=n:=eq_of_beq hx;subst e;show some NameKind.cell=some (if (k==NameKind.free && env.scope.kind==.function && env.kindOf x==some .cell)=true then NameKind.cell else k);rw[yL hc]
   |false=>exact ih
  ·rw[yK hc,List.lookup_cons];cases hx:x==n with
   |true=>
    have e:x=n:=eq_of_beq hx;subst e;show some k=some (if (k==NameKind.free && env.scope.kind==.function && env.kindOf x==some .cell)=true then NameKind.cell else k);rw[yK hc]
   |false=>exact ih
def cxC(X:Cx)(own:List Str)(scope:Scope)(cl:List (Str×Addr))(C:Addr)(s:Shared)(H:Hp)(fp:List Addr):Cx:=
 {X with N:=own++X.N,s₀:=s,H₀:=H,env:=compEnvC scope cl C X.env,outer:=X.stack,stack:=X.stack,ex:=fp,fn:=fun _=>false,xe:=fun _ _=>False}
def PTs(X:Cx)(ifs:List Expr)(t:TT):Prop:=
 ∀(Cr:List (Addr×Obj))(s:Shared)(σ:St)(H:Hp)(Q:Bool→Hp→Prop),Inv X Cr σ H s→t σ H Q→
  wpAny (model X.prog X.w) X.A (forIn ifs true fun c r=>if r=true then do let ok ←isTrue c X.env (eval c X.env);pure (ForInStep.yield ok)else pure (ForInStep.yield r)) (TP X Cr σ Q) X.xe s
def tAll:TT:=fun _ H Q=>Q true H
theorem Vi{X:Cx}:PTs X [] tAll:=fun _ _ _ H _ I h=>wpAny_tests_nil ⟨H,I,h⟩
theorem Tl{X:Cx}{c:Expr}{t:TT}(h:PT X c t):PTs X [c] t:=fun Cr s σ H Q I q=>wpAny_tests_one (h Cr s σ H Q I q)
def Wk:St→St→Prop
 | [],[]=>True
 |_::r,none::t=>Wk r t
 |a::r,some v::t=>a=some v∧Wk r t
 |_,_=>False
theorem Wk.len:∀{a b:St},Wk a b→b.length=a.length
 | [],[],_=>rfl
 |_::r,none::t,h=>Ak (·+1) (Wk.len (a:=r) (b:=t) h)
 |_::r,some _::t,h=>Ak (·+1) (Wk.len (a:=r) (b:=t) h.2)
 | [],none::_,h=>h.elim
 | [],some _::_,h=>h.elim
 |_::_,[],h=>h.elim
theorem Wk.get:∀{a b:St}(i:Nat)(v:V),Wk a b→b[i]?=some (some v)→a[i]?=some (some v)
 |_::_,none::_,0,v,_,e=>by simp at e
 |_::_,some _::_,0,v,h,e=>by simp at e⊢;rw[h.1,e]
 |_::r,none::t,i+1,v,h,e=>by simp at e⊢;exact Wk.get (a:=r) (b:=t) i v h e
 |_::r,some _::t,i+1,v,h,e=>by simp at e⊢;exact Wk.get (a:=r) (b:=t) i v h.2 e
 | [],[],i,v,h,e=>by simp at e
 | [],none::_,_,_,h,_=>h.elim
 | [],some _::_,_,_,h,_=>h.elim
 |_::_,[],_,_,h,_=>h.elim
theorem Wk.refl:∀(a:St),Wk a a
 | []=>trivial
 |none::r=>Wk.refl r
 |some _::r=>⟨rfl,Wk.refl r⟩
def CompR(J:It)(H:Hp)(k:Nat)(g:TG)(tt:TT)(te:TE)(σ:St)(Q:VK):Prop:=∃W:Nat→Nat→List V→Hp→Prop,(∃m,W 0 m [] H)∧∀i m ys H,W i m ys H→
 (J.stop i H∧ys.length≤sizeLine∧∀p,H p=none→Q (.ref p) (upd H p (.lst ys)))∨
 (J.go i H∧ys.length<sizeLine∧∀x H',J.yld i H x H'→g x (List.replicate k none++σ) H' fun σ2 H2=>Wk σ2 (List.replicate k none++σ)∧tt σ2 H2 fun ok H3=>
  if ok=true then te σ2 H3 fun y H4=>∃m',m'<m∧W (i+1) m' (ys++[y]) H4 else ∃m',m'<m∧W (i+1) m' ys H3)
def e_(wi:TI)(g:TG)(tt:TT)(te:TE)(k:Nat):TE:=fun σ H Q=>wi σ H fun J H1=>CompR J H1 k g tt te σ Q
theorem eG{prog:Program}{w:World}{A:Around}{R:Result→Shared→Prop}{s:Shared}{elt target iter:Expr}{ifs:List Expr}{scope:Scope}{pos:Pos}{it CH:Value}{env:Env}(I:Nat→Shared→Prop)(turn:∀n s,I n s→wpAny (model prog w) A (pyNext it) (fun r s₁=>match r with
   |none=>R (.ok .next) s₁
   |some v=>wpAny (model prog w) A (letOwnedTupleGo target it v) (fun _ s₁'=>wpAny (model prog w) A (assign target env v) (fun _ s₂=>
     wpAny (model prog w) A (forIn ifs true fun c r=>if r=true then do let ok ←isTrue c env (eval c env);pure (ForInStep.yield ok)else pure (ForInStep.yield r)) (fun ok s₃=>
      if ok=true then wpAny (model prog w) A (eval elt env) (fun x s₄=>
       wpAny (model prog w) A (call (.builtin "list.append") [CH,x]) (fun _ s₅=>∃m,m<n∧I m s₅) (fun _ _=>False) s₄) (fun _ _=>False) s₃
      else ∃m,m<n∧I m s₃) (fun _ _=>False) s₂) (fun _ _=>False) s₁') (fun _ _=>False) s₁) (fun _ _=>False) s)(n:Nat)(h:I n s):
  codeAny (model prog w) A (.compLoop (.ListComp elt [⟨target,iter,ifs,0⟩] scope pos) 0 it CH env) R s:=by
 refine codeAny_loop rfl I (fun n s hI=>?_) n h;show wpAny _ A ((compTurn (.ListComp elt [⟨target,iter,ifs,0⟩] scope pos) 0 it CH env).onRaise (fun x=>do noteFrame x env;theTreesLotGoes x)) _ _ s;refine wpAny_noted ?_;rw[compTurn_list];refine io (wpAny_standAt (io (Af (turn n s hI) (fun r s₁ h₁=>?_) fun _ _ h'=>h'.elim)));cases r with
 |none=>exact yI h₁
 |some v=>
  refine io (Af h₁ (fun _ s₁' h₁'=>?_) fun _ _ h'=>h'.elim);refine io (Af h₁' (fun _ s₂ h₂=>io (Af h₂ (fun ok s₃ h₃=>?_) fun _ _ h'=>h'.elim)) fun _ _ h'=>h'.elim);cases ok with
  |false=>exact yI ⟨rfl,h₃⟩
  |true=>
   exact io (io (Af h₃ (fun x s₄ h₄=>io (Af h₄ (fun _ s₅ h₅=>yI (yI ⟨rfl,h₅⟩)) fun _ _ h'=>h'.elim)) fun _ _ h'=>h'.elim))
abbrev lo(its:List Value)(n:Nat):Obj:={cls:=.type "list",data:=.seq its.toArray n}
structure TurnP(Pc:Cx→Prop)(P:Program)(w:World)(K:W.Frag)(tg:Expr)(J:It)(fp:List Addr)(it:Addr)(tn:Nat→Heap→Prop):Prop where
 obj:∀i h,tn i h→∀b∈fp,∃o,h.get? b=some o∧∀v,o.data≠.cell v
 keep:∀i h h',tn i h→(∀b∈fp,∀o,h.get? b=some o→h'.get? b=some o)→tn i h'
 item:∀(X:Cx),X.prog=P→X.w=w→X.K=K→Pc X→∀(i:Nat)(Cr:List (Addr×Obj))(s:Shared)(σ:St)(H:Hp)(E:Value→Shared→Prop),Inv X Cr σ H s→(∀b∈fp,ck X Cr H b)→tn i s.heap→J.go i H→
  wpAny (model P w) X.A (pyNext (.ref it)) (fun r s1=>∃u,r=some u∧
   wpAny (model P w) X.A (letOwnedTupleGo tg (.ref it) u) (fun _ s2=>∃x H',Inv X Cr σ H' s2∧RelV x u∧J.yld i H x H'∧tn (i+1) s2.heap∧∀b∈fp,H' b=none) E s1) E s
 done:∀(X:Cx),X.prog=P→X.w=w→X.K=K→Pc X→∀(i:Nat)(Cr:List (Addr×Obj))(s:Shared)(σ:St)(H:Hp)(E:Value→Shared→Prop),Inv X Cr σ H s→(∀b∈fp,ck X Cr H b)→tn i s.heap→J.stop i H→
  wpAny (model P w) X.A (pyNext (.ref it)) (fun r s1=>r=none∧Inv X Cr σ H s1) E s
 self:∀(A:Around)(i:Nat)(s:Shared)(Q:Value→Shared→Prop)(E:Value→Shared→Prop),tn i s.heap→Q (.ref it) s→wpAny (model P w) A (pyIter (.ref it)) Q E s
def PIP(Pc:Cx→Prop)(X:Cx)(tg iter:Expr)(wi:TI):Prop:=
 ∀(Cr:List (Addr×Obj))(s:Shared)(σ:St)(H:Hp)(R:It→Hp→Prop),Inv X Cr σ H s→wi σ H R→
  wpAny (model X.prog X.w) X.A (eval iter X.env) (fun v s1=>wpAny (model X.prog X.w) X.A (pyIter v) (fun itv s2=>∃(it:Addr)(fp:List Addr)(tn:Nat→Heap→Prop)(J:It)(H':Hp),itv=.ref it∧Inv X Cr σ H' s2∧TurnP Pc X.prog X.w X.K tg J fp it tn∧tn 0 s2.heap∧(∀b∈fp,ck X Cr H' b)∧R J H') X.xe s1) X.xe s
theorem PI.p{X:Cx}{tg iter:Expr}{wi:TI}(h:PI X tg iter wi):PIP (fun X=>X.calm=true) X tg iter wi:=fun Cr s σ H R I q=>Af (h Cr s σ H R I q) (fun v s1 h1=>Af h1 (fun itv s2 ⟨it,fp,tn,J,H',e,I',T,t0,f,r⟩=>⟨it,fp,tn,J,H',e,I',⟨T.obj,T.keep,T.item,T.done,T.self⟩,t0,f,r⟩) fun _ _ z=>z) fun _ _ z=>z
structure CompOk(X:Cx)(own:List Str)(scope:Scope):Prop where
 cell:∀y∈scope.names,y.2≠.cell
 kind:scope.kind=.function
 names:∀y∈scope.names,y.2=.local→scope.names.lookup y.1=some .local
 fr:∀y∈scope.names,y.2=.free→X.env.scope.names.lookup y.1=some .cell∨X.env.scope.names.lookup y.1=some .free
 loc:∀y∈X.N,scope.names.lookup y≠some .local
def ip(names:List (Str×NameKind)):Bool:=names.all fun y=>(y.2 != .cell) && (y.2 != .local || names.lookup y.1==some .local)
def iF(outer names:List (Str×NameKind)):Bool:=names.all fun y=>y.2 != .free || outer.lookup y.1==some .cell || outer.lookup y.1==some .free
def iT(N:List Str)(names:List (Str×NameKind)):Bool:=N.all fun y=>names.lookup y != some .local
theorem CompOk.of{X:Cx}{own:List Str}{scope:Scope}(hc:X.calm=X.calm)(hk:scope.kind=.function)(h1:ip scope.names=true)(h2:iF X.env.scope.names scope.names=true)(h3:iT X.N scope.names=true):CompOk X own scope:=by
 unfold ip at h1;unfold iF at h2;unfold iT at h3;rw[z4]at h1 h2 h3;refine⟨fun y hy=>?_,hk,fun y hy hl=>?_,fun y hy hf=>?_,fun y hy=>?_⟩
 ·have:=h1 y hy;rw[zW]at this;exact bne_iff_ne.mp this.1
 ·have:=h1 y hy;rw[zW,hl]at this;simpa using this.2
 ·have:=h2 y hy;rw[hf]at this;simpa using this
 ·exact bne_iff_ne.mp (h3 y hy)
section
variable{X:Cx}{own:List Str}{scope:Scope}{Cr:List (Addr×Obj)}{σ:St}{H:Hp}{s:Shared}{fp:List Addr}
theorem CompOk.cells(O:CompOk X own scope)(ok:X.Ok):∀x∈scope.names,x.2=.free→∃c,X.env.cells.lookup x.1=some c:=fun x hx hk=>ok.has x.1 (O.fr x hx hk)
theorem CompOk.sub(O:CompOk X own scope)(ok:X.Ok):∀x c,(aZ X.env scope.names).lookup x=some c→X.env.cells.lookup x=some c:=fun x c e=>
 Ob scope.names [] (O.cells ok) (fun _ h=>nomatch h) (x,c) (At e)
theorem CompOk.free_of(O:CompOk X own scope){cl:List (Str×Addr)}{C:Addr}{x:Str}(h:(compEnvC scope cl C X.env).kindOf x=some .cell∨(compEnvC scope cl C X.env).kindOf x=some .free):scope.names.lookup x=some .free:=by
 have e:(compEnvC scope cl C X.env).kindOf x=(scope.names.lookup x).map fun k=>if (k==NameKind.free && X.env.scope.kind==.function && X.env.kindOf x==some .cell)then NameKind.cell else k:=Wi X.env scope.names x
 rw[e]at h;cases q:scope.names.lookup x with
 |none=>rw[q]at h;simp at h
 |some k=>
  rw[q]at h;by_cases hk:k=.free
  ·rw[hk]
  ·have hc:k≠.cell:=O.cell (x,k) (At q);have hb:(k==NameKind.free)=false:=by simpa using hk
   have hr:¬((k==NameKind.free && X.env.scope.kind==.function && X.env.kindOf x==some .cell)=true):=by rw[hb];exact yT
   have h:some (if (k==NameKind.free && X.env.scope.kind==.function && X.env.kindOf x==some .cell)=true then NameKind.cell else k)=some NameKind.cell∨some (if (k==NameKind.free && X.env.scope.kind==.function && X.env.kindOf x==some .cell)=true then NameKind.cell else k)=some NameKind.free:=h;rw[yK hr]at h
   rcases h with h | h
   ·exact absurd (zT h) hc
   ·exact absurd (zT h) hk
theorem CompOk.look(O:CompOk X own scope)(ok:X.Ok){x:Str}(h:scope.names.lookup x=some .free):∃c,(aZ X.env scope.names).lookup x=some c∧X.env.cells.lookup x=some c:=by
 obtain⟨c,hc⟩:=Oc scope.names [] (env:=X.env) x (At h);obtain⟨d,hd⟩:=Us hc;exact⟨d,hd,O.sub ok x d hd⟩
theorem iG(I:Inv X Cr σ H s){b:Addr}(h1:b≠X.env.locals)(h2:b∉X.fs):b∉frs X.stack:=fun z=>(y8.mp (I.stkSub b z)).elim h1 h2
theorem qL(O:CompOk X own scope)(I:Inv X Cr σ H s)(hf:∀b∈fp,ck X Cr H b)(ho:∀b∈fp,∃o,s.heap.get? b=some o){h₁:Heap}{C:Addr}{tk:Nat}{m:Str→Option Value}(hC:s.heap.objs.size<C)(hD:h₁.get? s.heap.objs.size=some (lo [] 0))(old:∀b o,s.heap.get? b=some o→h₁.get? b=some o)(hns:h₁.Ns C m):
  Inv (cxC X own scope (aZ X.env scope.names) C s H fp) (Cr++[(s.heap.objs.size,lo [] 0)]) (List.replicate own.length none++σ) H {s with heap:=h₁,toks:=tk}:=by
 have ltD:∀{b:Addr}{o:Obj},s.heap.get? b=some o→b<s.heap.objs.size:=fun e=>yV e;have nC:∀{b:Addr}{o:Obj},s.heap.get? b=some o→b≠C:=fun e=>y4 (A3 (ltD e) hC);have hsub:=O.sub I.ok;refine⟨⟨I.ok.mod,by show(relabel scope X.env).kind=_;exact O.kind,I.ok.glob,I.ok.blt,AA hC,fun x y c h1 h2=>I.ok.inj x y c (hsub x c h1) (hsub y c h2),fun x hx=>?_,fun x c hx _=>absurd (show false=true from hx) yT,I.ok.hd,I.ok.frames,.inl rfl,fun b hb=>⟨?_,fun x c e=>?_⟩,I.bs,zP I.ok.bsz I.sz,fun b o e hb=>?_,fun b hb=>iG I (hf b hb).2.1 (hf b hb).2.2.1,I.stack,I.stkFree⟩,
  rfl,I.bare,Un.kept old,⟨m,hns,fun i x v e1 e2 e3=>?_⟩,fun x c e=>?_,I.hok.fresh (AA hC),fun x c e=>I.freeC x c (hsub x c e),fun p hp=>?_,I.hok.kept old,?_⟩
 ·obtain⟨c,hc,_⟩:=O.look I.ok (O.free_of hx);exact⟨c,hc⟩
 ·obtain⟨o,e⟩:=ho b hb;exact nC e
 ·exact(hf b hb).2.2.2.2.1 x c (hsub x c e)
 ·rcases(hf b hb).2.2.2.1 with z | z
  ·exact I.ok.noex b o e z
  ·exact absurd (zH (yV e) (zP I.ok.bsz z)) (Be _)
 ·have e1:(own++X.N)[i]?=some x:=e1;by_cases hi:i<own.length
  ·rw[List.getElem?_append_left (by simpa using hi),List.getElem?_replicate,if_pos hi]at e2;cases e2
  ·rw[List.getElem?_append_right (by simpa using hi),List.length_replicate]at e2;rw[List.getElem?_append_right (by simpa using hi)]at e1;have nl:(compEnvC scope (aZ X.env scope.names) C X.env).kindOf x≠some .local:=by
    have e:(compEnvC scope (aZ X.env scope.names) C X.env).kindOf x=(scope.names.lookup x).map fun k=>if (k==NameKind.free && X.env.scope.kind==.function && X.env.kindOf x==some .cell)then NameKind.cell else k:=Wi X.env scope.names x
    rw[e];intro z;cases q:scope.names.lookup x with
    |none=>rw[q]at z;simp at z
    |some k=>
     rw[q]at z;by_cases hk:k=.local
     ·exact O.loc x (zB e1) (by rw[q,hk])
     ·have z:some (if (k==NameKind.free && X.env.scope.kind==.function && X.env.kindOf x==some .cell)=true then NameKind.cell else k)=some NameKind.local:=z;by_cases hc:(k==NameKind.free && X.env.scope.kind==.function && X.env.kindOf x==some .cell)=true
      ·rw[yL hc]at z;cases z
      ·rw[yK hc]at z;exact hk (zT z)
   have hv:(compEnvC scope (aZ X.env scope.names) C X.env).kindOf x=some .cell∨(compEnvC scope (aZ X.env scope.names) C X.env).kindOf x=some .free:=by
    rcases e3 with z | z | z
    ·exact absurd z nl
    ·exact .inl z
    ·exact .inr z
   have hfree:=O.free_of hv;have hout:=O.fr (x,.free) (At hfree) rfl;obtain⟨m0,hn0,hl0⟩:=I.loc;obtain⟨u,r,l⟩:=hl0 _ x v e1 e2 (hout.elim (fun z=>.inr (.inl z)) fun z=>.inr (.inr z));refine⟨u,r,.inr ⟨hv,?_⟩⟩
   rcases l with⟨k,_⟩|⟨_,c,ec,z⟩
   ·have k':X.env.scope.names.lookup x=some .local:=k
    rcases hout with q | q
    ·rw[q]at k';cases k'
    ·rw[q]at k';cases k'
   ·obtain⟨d,hd1,hd2⟩:=O.look I.ok hfree;rw[ec]at hd2;cases hd2;obtain⟨oc,hoc,hdc⟩:=z;exact⟨c,hd1,oc,old _ _ hoc,hdc⟩
 ·obtain⟨v,o,hoc,hdc⟩:=I.cell x c (hsub x c e);exact⟨v,o,old _ _ hoc,hdc⟩
 ·have hp:p∈X.pn++(Cr++[(s.heap.objs.size,lo [] 0)]):=hp;rw[←zU]at hp
  rcases ze.mp hp with hp | hp
  ·obtain⟨e,n,ne,nf,d⟩:=I.pin p hp;exact⟨old _ _ e,n,nC e,iG I ne nf,d⟩
  ·cases yP.mp hp;refine⟨hD,I.hok.fresh (yM _),y4 hC,fun z=>?_,fun v z=>by cases z⟩;have z:=I.stkSub _ z
   rcases y8.mp z with z | z
   ·exact absurd z (Ah I.lt)
   ·exact I.nofs (yM _) z
 ·show(List.replicate own.length none++σ).length=(own++X.N).length;rw[yR,yR,List.length_replicate,I.len]
theorem O7{cl:List (Str×Addr)}{C:Addr}{its:List Value}{n:Nat}{σ':St}{H':Hp}{s':Shared}{ys:List V}{h':Heap}(I:Inv X Cr σ H s)(hf:∀b∈fp,ck X Cr H b)(hC:s.heap.objs.size<C)(I':Inv (cxC X own scope cl C s H fp) (Cr++[(s.heap.objs.size,lo its n)]) σ' H' s')(hv:Vals ys its)(hz:ys.length≤sizeLine)(hs:Heap.SameBut C s'.heap h'):
  Inv X Cr σ (upd H' s.heap.objs.size (.lst ys)) {s' with heap:=h'}:=by
 obtain⟨eD,nD,neD,_,_⟩:=I'.pin (s.heap.objs.size,lo its n) (y3 _ (y3 _ zL));have nC:∀{b:Addr}{o:Obj},s.heap.get? b=some o→b≠C:=fun e=>y4 (A3 (yV e) hC);have nDD:∀{b:Addr}{o:Obj},s.heap.get? b=some o→b≠s.heap.objs.size:=fun e=>y4 (yV e);have same:∀{b:Addr}{o:Obj},b≠C→s'.heap.get? b=some o→h'.get? b=some o:=fun hb e=>(hs.2 _ hb).trans e;have fC:H' C=none:=I'.free;have hb:Un (frs X.stack) fp H H' s.heap s'.heap:=I'.base;have hot:∀{b:Addr}{u:HO},H b=some u→b≠s.heap.objs.size:=fun e=>y4 (I.hok.lt e);refine I.call' (s':={s' with heap:=h'}) (ch:=fp) I'.os ⟨fun b o e q n1 n2=>same (nC e) (hb.keep b o e q n1 n2),fun b o e q n1 n2=>?_,fun b o e q n2=>?_,fun b o e n2=>?_,fun b xs e=>?_,fun b o u e=>?_,fun b ps e=>?_⟩ ?_ I'.bare fun b hb'=>?_
 ·obtain⟨sl,q2⟩:=hb.slot b o e q n1 n2;exact⟨sl,same (nC e) q2⟩
 ·rw[Zb (nDD e)];exact hb.free b o e q n2
 ·obtain⟨o',q2⟩:=hb.there b o e n2;exact⟨o',same (nC e) q2⟩
 ·rw[Zb (hot e)];exact hb.tups b xs e
 ·rw[Zb (hot e)];exact hb.frzs b o u e
 ·obtain⟨more,q2⟩:=hb.tbls b ps e;exact⟨more,by rw[Zb (hot e)];exact q2⟩
 ·intro b u e;by_cases hbD:b=s.heap.objs.size
  ·subst hbD;rw[Z4]at e;cases e;exact⟨hz,its,n,hv,same neD eD⟩
  ·rw[Zb hbD]at e;have nD':∀{c:Addr}{w:HO},H' c=some w→c≠s.heap.objs.size:=fun q z=>by
    rw[z]at q;have z2:H' s.heap.objs.size=none:=nD;rw[z2]at q;cases q
   refine(I'.hok b u e).stay (fun c v hc q=>same ?_ q) (fun c q=>by rw[Zb (nD' q)];exact q) fun c xs q=>by rw[Zb (nD' q)];exact q
   rintro rfl
   rcases hc with z | z
   ·rw[←z,fC]at e;cases e
   ·rw[fC]at z;cases z
 ·obtain⟨_,f1,_,f3,f4,f5⟩:=hf b hb';exact⟨f3,f1,f4,f5⟩
theorem h_{prog:Program}{w:World}{A:Around}{E:Value→Shared→Prop}{s:Shared}{l:Addr}{its:List Value}{n:Nat}{u:Value}{Q:Value→Shared→Prop}(e:s.heap.get? l=some (lo its n))(hz:its.length≤sizeLine)(h:Q .none {s with heap:=s.heap.update l (Obj.mapSeq (·.push u))}):wpAny (model prog w) A (call (.builtin "list.append") [.ref l,u]) Q E s:=
 call_meets F.slot_list_append ⟨_,e,rfl⟩ F.entry_list_append (F.args_list_append_2 _ _) (PySem.list_append l its.toArray n u (by rw[zD];omega)) ⟨e,h⟩
theorem O8{tg iter elt:Expr}{ifs:List Expr}{pos pos0:Pos}{wi:TI}{g:TG}{tt:TT}{te:TE}{use:Option (Value→Sem Unit)}{Qp:Value→Shared→Prop}{Pc:Cx→Prop}(hpc:∀cl C s H fp,Pc (cxC X own scope cl C s H fp))(O:CompOk X own scope)(hi:PIP Pc X tg iter wi)(hg:∀cl C s H fp,PG (cxC X own scope cl C s H fp) tg g)(ht:∀cl C s H fp,PTs (cxC X own scope cl C s H fp) ifs tt)(he:∀cl C s H fp,PE (cxC X own scope cl C s H fp) elt te)(hs:∀x,foldedSetIterable iter X.env x=pure x){Cr:List (Addr×Obj)}{s:Shared}{σ:St}{H:Hp}{Q:VK}(I:Inv X Cr σ H s)(h:e_ wi g tt te own.length σ H Q)(fin:∀(s2:Shared) (H2:Hp) (fp:List Addr) (C:Addr) (cl:List (Str×Addr)) (its:List Value) (nn:Nat) (σ':St) (H':Hp) (s5:Shared) (ys:List V),Inv X Cr σ H2 s2→(∀b∈fp,ck X Cr H2 b)→s2.heap.objs.size<C→
   Inv (cxC X own scope cl C s2 H2 fp) (Cr++[(s2.heap.objs.size,lo its nn)]) σ' H' s5→Vals ys its→ys.length≤sizeLine→(∀p,H' p=none→Q (.ref p) (upd H' p (.lst ys)))→
   compPost (model X.prog X.w) X.A X.xe use Qp (.ref s2.heap.objs.size) C (.ok .next) s5):
  wpAny (model X.prog X.w) X.A (comprehension (.ListComp elt [⟨tg,iter,ifs,0⟩] scope pos) scope X.env pos0 (newList []) false (eval iter X.env) use) Qp X.xe s:=by
 refine wpAny_comprehension_free (use:=use) rfl hs (Pb (O.cells I.ok)) O.kind O.names (thn (hi Cr s σ H _ I h) fun v s1 h1=>thn h1 fun itv s2 h2=>?_);obtain⟨it,fp,tn,J,H2,rfl,I2,T,st2,f2,W,⟨m0,w0⟩,turn⟩:=h2;refine wpAny_newObj_type (wpAny_newFunctionEnv O.cell (by intro y hy;simp at hy) (fun h₁ hns₁ hsb₁=>?_) O.kind);dsimp only at hns₁ hsb₁ ⊢;generalize hH2:s2.heap.push {cls:=.type "list",dict:=none,data:=.seq ([]:List Value).toArray}=Hh at hns₁ hsb₁ ⊢;have hCs:Hh.objs.size=s2.heap.objs.size+1:=by rw[←hH2,BD]
 have hC:s2.heap.objs.size<Hh.objs.size:=by rw[hCs];exact Nat.lt_succ_self _
 have old:∀b o,s2.heap.get? b=some o→h₁.get? b=some o:=fun b o e=>hsb₁.extBut b o (y4 (A3 (yV e) hC)) (yJ _ (hH2 ▸ yJ _ e));have hacc:h₁.get? s2.heap.objs.size=some (lo [] 0):=hsb₁.extBut _ _ (y4 hC) (yJ _ (hH2 ▸ yY _ rfl));have hob:∀b∈fp,∃o,s2.heap.get? b=some o:=fun b hb=>let ⟨o,e,_⟩:=T.obj _ _ st2 b hb;⟨o,e⟩
 have st3:tn 0 h₁:=T.keep _ _ _ st2 fun b _ o e=>old b o e;have pinlt:∀p∈X.pn++Cr,p.1<s2.heap.objs.size:=fun p hp=>yV (I2.pin p hp).1;have loop:∀s₃:Shared,s₃={s2 with heap:=h₁,toks:=s2.toks+([]:List (Str×Value)).length}→
   codeAny (model X.prog X.w) X.A (.compLoop (.ListComp elt [⟨tg,iter,ifs,0⟩] scope pos) 0 (.ref it) (.ref s2.heap.objs.size) (compEnvC scope (aZ X.env scope.names) Hh.objs.size X.env))
    (compPost (model X.prog X.w) X.A X.xe use Qp (.ref s2.heap.objs.size) Hh.objs.size) s₃:=by
  rintro s₃ rfl;have I3:=qL (tk:=s2.toks+([]:List (Str×Value)).length) O I2 f2 hob hC hacc old hns₁;have stat:∀{o:Obj}{H':Hp},(∀b∈fp,H' b=none)→∀b∈fp,ck (cxC X own scope (aZ X.env scope.names) Hh.objs.size s2 H2 fp) (Cr++[(s2.heap.objs.size,o)]) H' b:=fun{o H'} hn b hb=>by
   obtain⟨o',eo⟩:=hob b hb;refine⟨hn b hb,y4 (A3 (yV eo) hC),iG I2 (f2 b hb).2.1 (f2 b hb).2.2.1,.inl hb,fun x c e=>(f2 b hb).2.2.2.2.1 x c (O.sub I2.ok x c e),fun p hp=>?_⟩;have hp:p∈X.pn++(Cr++[(s2.heap.objs.size,o)]):=hp;rw[←zU]at hp
   rcases ze.mp hp with hp | hp
   ·exact(f2 b hb).2.2.2.2.2 p hp
   ·cases yP.mp hp;exact Ah (yV eo)
  refine eG (fun n s'=>∃i ys its nn σ' H',Inv (cxC X own scope (aZ X.env scope.names) Hh.objs.size s2 H2 fp) (Cr++[(s2.heap.objs.size,lo its nn)]) σ' H' s'∧Wk σ' (List.replicate own.length none++σ)∧tn i s'.heap∧(∀b∈fp,H' b=none)∧Vals ys its∧W i n ys H')
   ?_ m0 ⟨0,[],[],0,_,H2,I3,Wk.refl _,st3,fun b hb=>(f2 b hb).1,.nil,w0⟩
  rintro n s4 ⟨i,ys,its,nn,σ4,H4,I4',wk4,st4,fr4,vs4,w4⟩;have I4:=I4'.weak (σ':=List.replicate own.length none++σ) wk4.len (fun i v=>wk4.get i v)
  rcases turn i n ys H4 w4 with⟨stop,hz,qn⟩|⟨go,hz,step⟩
  ·refine thn (T.done (cxC X own scope (aZ X.env scope.names) Hh.objs.size s2 H2 fp) rfl rfl rfl (hpc _ _ _ _ _) i _ s4 _ H4 (fun _ _=>False) I4 (stat fr4) st4 stop) fun r s5 Cs=>?_;obtain⟨hr,I5⟩:=Cs;subst hr;exact fin s2 H2 fp Hh.objs.size _ its nn _ H4 s5 ys I2 f2 hC I5 vs4 hz qn
  ·refine thn (T.item (cxC X own scope (aZ X.env scope.names) Hh.objs.size s2 H2 fp) rfl rfl rfl (hpc _ _ _ _ _) i _ s4 _ H4 (fun _ _=>False) I4 (stat fr4) st4 go) fun r s5 Cs=>?_;obtain⟨u,hr,h5⟩:=Cs;subst hr;refine thn h5 fun _ s6 Cs=>?_;obtain⟨x,H6,I6,r6,y6,st6,fr6⟩:=Cs;have I6':=I6.pinned (stat fr6) (T.obj _ _ st6);refine thn (hg _ _ _ _ _ _ s6 _ H6 x u _ I6' r6 (step x H6 y6)) fun _ s7 Cs=>?_;obtain⟨σ7,H7,I7,wk7,q7⟩:=Cs;refine thn (ht _ _ _ _ _ _ s7 σ7 H7 _ I7 q7) fun ok s8 Cs=>?_;obtain⟨H8,I8,q8⟩:=Cs;have again:∀{σ9:St}{H9:Hp}{s9:Shared},Inv (cxC X own scope (aZ X.env scope.names) Hh.objs.size s2 H2 fp) ((Cr++[(s2.heap.objs.size,lo its nn)])++cY fp s6.heap) σ9 H9 s9→tn (i+1) s9.heap∧∀b∈fp,H9 b=none:=fun{σ9 H9 s9} I9=>
    ⟨T.keep _ _ _ st6 fun b hb o e=>(I9.pin (b,o) (y3 _ (y3 _ (Vl hb e)))).1,fun b hb=>by
     obtain⟨o,e,d⟩:=T.obj _ _ st6 b hb;exact(I9.pin (b,o) (y3 _ (y3 _ (Vl hb e)))).2.1⟩
   cases ok with
   |false=>
    rw[yK yT]at q8⊢;obtain⟨m',hm,w8⟩:=q8;obtain⟨a1,a2⟩:=again I8;exact⟨m',hm,i+1,ys,its,nn,σ7,H8,I8.unpinned,wk7,a1,a2,vs4,w8⟩
   |true=>
    rw[yL rfl]at q8⊢;refine thn (he _ _ _ _ _ _ s8 σ7 H8 _ I8 q8) fun yv s9 Cs=>?_;obtain⟨y,H9,I9,r9,m',hm,w9⟩:=Cs;obtain⟨a1,a2⟩:=again I9;obtain⟨eD,nD,neD,nfD,_⟩:=I9.pin (s2.heap.objs.size,lo its nn) (y3 _ (zI _ (y3 _ zL)));have CK:=vs4.length;refine h_ eD (by omega) ?_;have upd9:=PySem.IsL.update (l:=s2.heap.objs.size) eD (·.push yv);have uother:∀b o,b≠s2.heap.objs.size→s9.heap.get? b=some o→(s9.heap.update s2.heap.objs.size (Obj.mapSeq (·.push yv))).get? b=some o:=fun b o hb e=>(Ao s9.heap (Obj.mapSeq (·.push yv)) (Ne.symm hb)).trans e;have I9a:Inv (cxC X own scope (aZ X.env scope.names) Hh.objs.size s2 H2 fp) Cr σ7 H9 s9:=I9.unpinned.unpinned;have I9b:Inv (cxC X own scope (aZ X.env scope.names) Hh.objs.size s2 H2 fp) Cr σ7 H9 {s9 with heap:=s9.heap.update s2.heap.objs.size (Obj.mapSeq (·.push yv))}:=
     I9a.turned (t':=s9.toks) uother nD neD (.inr (yM _)) (fun x c e z=>by
      obtain⟨v,o,hoc,_⟩:=I2.cell x c (O.sub I2.ok x c e);exact absurd z (y4 (yV hoc))) fun p hp=>y4 (pinlt p hp)
    have e2:(its.toArray.push yv)=(its++[yv]).toArray:=by simp
    have upd9':∃n2,(s9.heap.update s2.heap.objs.size (Obj.mapSeq (·.push yv))).get? s2.heap.objs.size=some (lo (its++[yv]) n2):=⟨_,by rw[upd9,e2]⟩;obtain⟨n2,upd9'⟩:=upd9';have I9c:=I9b.pins_of (pins':=Cr++[(s2.heap.objs.size,lo (its++[yv]) n2)]) fun p hp=>by
     rcases ze.mp hp with hp | hp
     ·exact I9b.pin p (y3 _ hp)
     ·cases yP.mp hp;exact⟨upd9',nD,neD,nfD,fun v z=>by cases z⟩
    refine⟨m',hm,i+1,ys++[y],its++[yv],n2,σ7,H9,I9c,wk7,T.keep _ _ _ a1 fun b hb o e=>uother b o ?_ e,a2,vs4.append (.cons r9 .nil),w9⟩;obtain⟨o',eo⟩:=hob b hb;exact y4 (yV eo)
 exact codeAny_compStart_list (loop _ rfl) (T.self _ 0 _ _ _ st3 (loop _ rfl))
theorem pe_compP{Pc:Cx→Prop}{tg iter elt:Expr}{ifs:List Expr}{pos:Pos}{wi:TI}{g:TG}{tt:TT}{te:TE}(hpc:∀cl C s H fp,Pc (cxC X own scope cl C s H fp))(O:CompOk X own scope)(hi:PIP Pc X tg iter wi)(hg:∀cl C s H fp,PG (cxC X own scope cl C s H fp) tg g)(ht:∀cl C s H fp,PTs (cxC X own scope cl C s H fp) ifs tt)(he:∀cl C s H fp,PE (cxC X own scope cl C s H fp) elt te)(hs:∀x,foldedSetIterable iter X.env x=pure x:=by intro _;rfl):
  PE X (.ListComp elt [⟨tg,iter,ifs,0⟩] scope pos) (e_ wi g tt te own.length):=by
 intro Cr s σ H Q I h;rw[eval_ListComp];refine O8 hpc O hi hg ht he hs I h fun s2 H2 fp C cl its nn σ' H' s5 ys I2 f2 hC I5 vs hz qn=>?_;obtain⟨mm,hnm,_⟩:=I5.loc;exact⟨mm,hnm,fun h' hs'=>⟨.ref s2.heap.objs.size,_,O7 I2 f2 hC I5 vs hz hs',rfl,qn _ (I5.pin (s2.heap.objs.size,lo its nn) (y3 _ (y3 _ zL))).2.1⟩⟩
theorem Wp{tg iter elt:Expr}{ifs:List Expr}{pos:Pos}{wi:TI}{g:TG}{tt:TT}{te:TE}(O:CompOk X own scope)(hi:PI X tg iter wi)(hg:∀cl C s H fp,PG (cxC X own scope cl C s H fp) tg g)(ht:∀cl C s H fp,PTs (cxC X own scope cl C s H fp) ifs tt)(he:∀cl C s H fp,PE (cxC X own scope cl C s H fp) elt te)(hs:∀x,foldedSetIterable iter X.env x=pure x:=by intro _;rfl)(hc:X.calm=true:=by rfl):
  PE X (.ListComp elt [⟨tg,iter,ifs,0⟩] scope pos) (e_ wi g tt te own.length):=
 pe_compP (Pc:=fun X=>X.calm=true) (fun _ _ _ _ _=>hc) O hi.p hg ht he hs
theorem ps_setCP{Pc:Cx→Prop}{i:Nat}{x:Str}{tg iter elt:Expr}{ifs:List Expr}{pos pos' cpos:Pos}{wi:TI}{g:TG}{tt:TT}{te:TE}(hN:X.N.Nodup)(hix:X.N[i]?=some x)(hl:X.env.scope.names.lookup x=some .local)(hpc:∀cl C s H fp,Pc (cxC X own scope cl C s H fp))(O:CompOk X own scope)(hi:PIP Pc X tg iter wi)(hg:∀cl C s H fp,PG (cxC X own scope cl C s H fp) tg g)(ht:∀cl C s H fp,PTs (cxC X own scope cl C s H fp) ifs tt)(he:∀cl C s H fp,PE (cxC X own scope cl C s H fp) elt te)(hs:∀x,foldedSetIterable iter X.env x=pure x:=by intro _;rfl)(hsw:swapsWith (.ListComp elt [⟨tg,iter,ifs,0⟩] scope cpos) (some (.Name x pos')) pos.line X.env=pure true:=by rfl):
  PS X (.Assign [.Name x pos'] (.ListComp elt [⟨tg,iter,ifs,0⟩] scope cpos) pos) (oN (e_ wi g tt te own.length) (fW i)):=by
 intro Cr s σ H D I h;rw[exec_Assign_Name_used _ _ _ _ hsw];refine io (wpAny_standAt (io (m:=evalThenUse _ X.env _) ?_));show wpAny _ _ (comprehension (.ListComp elt [⟨tg,iter,ifs,0⟩] scope cpos) scope X.env _ (newList []) false (eval iter X.env) (some (assign (.Name x pos') X.env)) >>= fun _=>_) _ _ s;refine io (thn (O8 (Qp:=fun _ s'=>SP X Cr D .next s') hpc O hi hg ht he hs I h fun s2 H2 fp C cl its nn σ' H' s5 ys I2 f2 hC I5 vs hz qn=>?_) fun _ s' hq=>yI (yI hq));have Ix:Inv X Cr σ (upd H' s2.heap.objs.size (.lst ys)) s5:=O7 I2 f2 hC I5 vs hz (Heap.SameBut.refl _ _);obtain⟨mm,hnm,_⟩:=I5.loc;have fC:H' C=none:=I5.free;have nCD:C≠s2.heap.objs.size:=Ah hC;refine wpAny_assign_Name (Pq (v:=.ref s2.heap.objs.size) Ix hN hix (.inl hl) rfl (fun s6 I6 sb=>?_) (.inr hl));obtain⟨a,sb,ha⟩:=sb;have nLC:X.env.locals≠C:=y4 (A3 I2.lt hC);have cC:∀y c,X.env.cells.lookup y=some c→c≠C:=fun y c e=>by
  obtain⟨v,o,ho,_⟩:=I2.cell y c e;exact y4 (A3 (yV ho) hC)
 have naC:C≠a:=by
  rcases ha with rfl | ha
  ·exact Ne.symm nLC
  ·exact Ne.symm (cC x a ha)
 refine⟨mm,hnm.sameBut sb naC,fun h' hs'=>⟨_,_,I6.turned (t':=s6.toks) (fun b o hb e=>(hs'.2 b hb).trans e) (by rw[Zb nCD];exact fC) (Ne.symm nLC) (.inr (zP I2.sz (AA hC))) cC (fun p hp=>y4 (A3 (yV (I2.pin p hp).1) hC)),qn _ (I5.pin (s2.heap.objs.size,lo its nn) (y3 _ (y3 _ zL))).2.1⟩⟩
theorem R4{i:Nat}{x:Str}{tg iter elt:Expr}{ifs:List Expr}{pos pos' cpos:Pos}{wi:TI}{g:TG}{tt:TT}{te:TE}(hN:X.N.Nodup)(hix:X.N[i]?=some x)(hl:X.env.scope.names.lookup x=some .local)(O:CompOk X own scope)(hi:PI X tg iter wi)(hg:∀cl C s H fp,PG (cxC X own scope cl C s H fp) tg g)(ht:∀cl C s H fp,PTs (cxC X own scope cl C s H fp) ifs tt)(he:∀cl C s H fp,PE (cxC X own scope cl C s H fp) elt te)(hs:∀x,foldedSetIterable iter X.env x=pure x:=by intro _;rfl)(hsw:swapsWith (.ListComp elt [⟨tg,iter,ifs,0⟩] scope cpos) (some (.Name x pos')) pos.line X.env=pure true:=by rfl)(hc:X.calm=true:=by rfl):
  PS X (.Assign [.Name x pos'] (.ListComp elt [⟨tg,iter,ifs,0⟩] scope cpos) pos) (oN (e_ wi g tt te own.length) (fW i)):=
 ps_setCP (Pc:=fun X=>X.calm=true) hN hix hl (fun _ _ _ _ _=>hc) O hi.p hg ht he hs hsw
end
section
variable{X:Cx}{pos:Pos}
theorem Ue(K:W.Frag)(n:Nat){es:List Expr}{k:Nat}{t:TGs}(hK:X.K=K)(hc:X.calm=true)(h:PGs X es t)(hn:(assignEach es X.env).length=n:=by rfl)(hst:(assignEach es X.env).findIdx? (·.1)=none:=by rfl):PG X (.Tuple es k pos) (xG K n t):=by
 subst hK;exact W1 hc h hn hst
theorem kG(K:W.Frag)(hK:X.K=K):IxR X (xE K):=by subst hK;exact Ys
end
mutual
inductive DV(H:Hp):V→PyData→Prop
 |non:DV H .non .none
 |bl (b:Bool):DV H (.bl b) (.bool b)
 |int (i:Int):DV H (.int i) (.int i)
 |str (x:Str):DV H (.str x) (.str x)
 |lst {a:Addr} {xs:List V} {ds:List PyData}:H a=some (.lst xs)→DVs H xs ds→DV H (.ref a) (.list ds)
 |tup {a:Addr} {xs:List V} {ds:List PyData}:H a=some (.tup xs)→DVs H xs ds→DV H (.ref a) (.tuple ds)
inductive DVs(H:Hp):List V→List PyData→Prop
 |nil:DVs H [] []
 |cons {v:V} {vs:List V} {d:PyData} {ds:List PyData}:DV H v d→DVs H vs ds→DVs H (v::vs) (d::ds)
end
mutual
theorem DV.mono{H H':Hp}(g:Same H H'):∀{v:V}{d:PyData},DV H v d→DV H' v d
 |_,_,.non=>.non
 |_,_,.bl b=>.bl b
 |_,_,.int i=>.int i
 |_,_,.str x=>.str x
 |_,_,.lst e r=>.lst (g _ _ e) (DVs.mono g r)
 |_,_,.tup e r=>.tup (g _ _ e) (DVs.mono g r)
theorem DVs.mono{H H':Hp}(g:Same H H'):∀{vs:List V}{ds:List PyData},DVs H vs ds→DVs H' vs ds
 |_,_,.nil=>.nil
 |_,_,.cons h r=>.cons (DV.mono g h) (DVs.mono g r)
end
theorem DVs.length{H:Hp}:∀{vs:List V}{ds:List PyData},DVs H vs ds→vs.length=ds.length
 |_,_,.nil=>rfl
 |_,_,.cons _ r=>Ak (·+1) r.length
theorem DVs.append{H:Hp}:∀{vs ws:List V}{ds es:List PyData},DVs H vs ds→DVs H ws es→DVs H (vs++ws) (ds++es)
 |_,_,_,_,.nil,s=>s
 |_,_,_,_,.cons h r,s=>.cons h (DVs.append r s)
theorem DVs.getV{H:Hp}:∀{vs:List V}{ds:List PyData}{i:Nat}{v:V},DVs H vs ds→vs[i]?=some v→∃d,ds[i]?=some d∧DV H v d
 |_,_,_,_,.nil,e=>by simp at e
 |_,_,0,_,.cons h _,e=>by simp at e;subst e;exact⟨_,rfl,h⟩
 |_,_,i+1,d,.cons _ r,e=>by
  obtain⟨v,h1,h2⟩:=DVs.getV (i:=i) (v:=d) r (by simpa using e);exact⟨v,by simpa using h1,h2⟩
section
variable{X:Cx}{Cr:List (Addr×Obj)}{σ:St}{H:Hp}{s:Shared}
mutual
theorem DV.reads(I:Inv X Cr σ H s):∀{v:V}{d:PyData}{u:Value},DV H v d→RelV v u→∃as,Reads s.heap u d as
 |_,_,_,.non,r=>by cases r;exact⟨_,Reads.none⟩
 |_,_,_,.bl b,r=>by cases r;exact⟨_,Reads.bool b⟩
 |_,_,_,.int i,r=>by obtain⟨t,rfl⟩:=r;exact⟨_,Reads.int i t⟩
 |_,_,_,.str x,r=>by obtain⟨t,rfl⟩:=r;exact⟨_,Reads.str x t⟩
 |_,_,_,.lst e q,r=>by
  cases r;obtain⟨its,n,rv,ho,_⟩:=I.lst e;obtain⟨as,p⟩:=DVs.reads I q rv;exact⟨_,reads_list_at ho rfl rfl (by simpa using p)⟩
 |_,_,_,.tup e q,r=>by
  cases r;obtain⟨its,rv,⟨o,ho,hc,n,hd⟩,_⟩:=I.tuple (SqT.of e);obtain⟨as,p⟩:=DVs.reads I q rv;exact⟨_,reads_tuple_at ho hc hd (by simpa using p)⟩
theorem DVs.reads(I:Inv X Cr σ H s):∀{vs:List V}{ds:List PyData}{us:List Value},DVs H vs ds→Vals vs us→∃as,ReadsAll s.heap us ds as
 |_,_,_,.nil,r=>by cases r;exact⟨_,ReadsAll.nil⟩
 |_,_,_,.cons h t,r=>by
  cases r with
  |cons r1 r2=>
   obtain⟨as,p⟩:=DV.reads I h r1;obtain⟨bs,q⟩:=DVs.reads I t r2;exact⟨_,ReadsAll.cons p q⟩
end
end
def rEqD:R2:=fun x y H Q=>∃d e,DV H x d∧DV H y e∧SeqAt.shaped d=true∧SeqAt.shaped e=true∧Q (.bl (PyData.eqv d e)) H
def rNeD:R2:=fun x y H Q=>∃d e,DV H x d∧DV H y e∧SeqAt.shaped d=true∧SeqAt.shaped e=true∧Q (.bl (!PyData.eqv d e)) H
section
variable{X:Cx}
theorem hV(hu:X.A.units+64<cLine):OpR X (compareOp .Eq) rEqD:=by
 intro Cr s σ H x y v u Q I rx ry h;obtain⟨d,e,h1,h2,s1,s2,q⟩:=h;obtain⟨as,p1⟩:=h1.reads I rx;obtain⟨bs,p2⟩:=h2.reads I ry;exact eq_dataH p1 p2 s1 s2 hu ⟨.bl _,H,I,rfl,q⟩
theorem pV(hu:X.A.units+64<cLine):OpR X (compareOp .NotEq) rNeD:=by
 intro Cr s σ H x y v u Q I rx ry h;obtain⟨d,e,h1,h2,s1,s2,q⟩:=h;obtain⟨as,p1⟩:=h1.reads I rx;obtain⟨bs,p2⟩:=h2.reads I ry;exact ne_dataH p1 p2 s1 s2 hu ⟨.bl _,H,I,rfl,q⟩
def rIs(K:W.Frag):List V→Hp→VK→Prop:=fun xs H Q=>∃x t T b,xs=[x,.ty T]∧TyOf K H x t∧W.kitOne K t (.type T)=some b∧Q (.bl b) H
theorem Um:aK X (.builtin "isinstance") (rIs X.K):=by
 intro Cr s σ H xs us Q I r h;obtain⟨x,t,T,b,rfl,ty,e,q⟩:=h;obtain⟨u,w',rfl,ru,rt⟩:=gi r;cases (show w'=Value.type T from rt);exact lO I ru ty e fun tk=>⟨.bl b,H,I.tok _,rfl,q⟩
end
structure Has(P:Program)(w:World)(K:W.Frag)(mg:Str→Option Value)(base:Heap)(x:Str)(k:Nat)(ps:List Str)(sp:Sp):Prop where
 ex:∃f fd,FnOk P w K mg base CX0 k f fd ps sp∧Binds K fd ps []∧W.keepIn K (.ref f)=true∧mg x=some (.ref f)
section
variable{X:Cx}{j k:Nat}{ps:List Str}{sp:Sp}{x:Str}{p pos:Pos}{e:Expr}{es:List Expr}{t:TA}
theorem Z5(h:Has X.prog X.w X.K X.mg X.base x j ps sp)(hr:Room k X.A)(ha:PA X (e::es) t)(hg:Gl X x:=by rfl)(hj:j≤k:=by first | decide | omega)(hdb:(x==("__debug__":Str))=false:=by decide)(he:starEach (e::es) X.env=(false,eval e X.env)::starEach es X.env:=by rfl)(hpl:(backTo pos (starEach es X.env)).any (·.1)=false:=by rfl):
  PE X (.Call (.Name x p) (e::es) [] pos) (uE sp [] E0 t):=by
 intro Cr s σ H Q I q;obtain⟨f,fd,F,b,kp,m⟩:=h.ex;refine rK (CX:=CX0) (E:=E0) (dvs:=[]) (F.mono hj) hr hg m kp b .nil ?_ ha hdb he hpl Cr s σ H Q I q;exact fun _ _ _ _ _ _ _ z=>z.elim
end
def am(a:Addr)(H:Hp):Hp:=fun b=>if b=a then none else H b
theorem Zh{a b:Addr}{H:Hp}(h:b≠a):am a H b=H b:=by unfold am;rw[yK h]
theorem Z7{a b:Addr}{H:Hp}{o:HO}(h:am a H b=some o):b≠a∧H b=some o:=by
 unfold am at h;by_cases e:b=a
 ·rw[yL e]at h;cases h
 ·rw[yK e]at h;exact⟨e,h⟩
theorem Xl{a:Addr}{H:Hp}:Same (am a H) H:=fun _ _ h=>(Z7 h).2
theorem Z6{H:Hp}{p:Addr}(h:H p=none)(o:HO):Same H (upd H p o):=fun b u q=>by rw[Zb (Zi q h)];exact q
abbrev Grw(a:Addr)(H H':Hp):Prop:=Same (am a H) (am a H')
theorem U2{a:Addr}{H H':Hp}{o:HO}(ha:H a=some o)(g:Same H H'):Grw a H H':=fun b u q=>by
 obtain⟨h1,h2⟩:=Z7 q;rw[Zh h1];exact g b u h2
theorem X2{a:Addr}{H:Hp}{o:HO}:Grw a H (upd H a o):=fun b u q=>by
 obtain⟨h1,h2⟩:=Z7 q;rw[Zh h1,Zb h1];exact h2
theorem qP{a p:Addr}{H:Hp}{o:HO}(h:H p=none):Grw a H (upd H p o):=fun b u q=>by
 obtain⟨h1,h2⟩:=Z7 q;rw[Zh h1,Zb (Zi h2 h)];exact h2
theorem Xz{j:Int}(h:decide (0<j)=true):0<j:=yW h
theorem ltI{i j:Int}(h:decide (i<j)=true):i<j:=yW h
theorem leI{i j:Int}(h:decide (i≤j)=true):i≤j:=yW h
theorem leN{i j:Nat}(h:decide (i≤j)=true):i≤j:=yW h
theorem xh{i j:Int}(h1:decide (0<j)=true)(h2:decide (j<1073741824)=true):xt i j:=⟨yW h1,yW h2⟩
theorem tj{i j:Int}(h1:decide (0≤j)=true)(h2:decide (j≤1000000)=true)(h3:decide (i.natAbs<2^64)=true):vK i j:=⟨yW h1,yW h2,yW h3⟩
theorem mE{i j:Int}(h1:decide (-(2^64)<i)=true)(h2:decide (i<2^64)=true):CMul i j:=Or.inl ⟨yW h1,yW h2⟩
theorem mulR{i j:Int}(h1:decide (-(2^64)<j)=true)(h2:decide (j<2^64)=true):CMul i j:=Or.inr ⟨yW h1,yW h2⟩
theorem yx(x m y:Int)(h0:decide (0<m)=true)(h1:decide (m<4294967296)=true):CMul (x % m) y:=by
 have h0:=yW h0;have h1:=yW h1;exact Or.inl ⟨by have:=Bl x (show m≠0 by omega);omega,by have:=A0 x h0;omega⟩
theorem yH(a b c:V):atI [a,b,c] 0=some a:=rfl
theorem oJ(a b c:V):atI [a,b,c] 1=some b:=rfl
theorem gX(a b c:V):atI [a,b,c] 2=some c:=rfl
theorem qu{α:Type}{xs:List α}{i:Int}(h0:0≤i)(h1:i<xs.length):∃v,atI xs i=some v∧v∈xs:=by
 have hi:i.toNat<xs.length:=by omega
 have e:((i.toNat:Nat):Int)=i:=by omega
 refine⟨xs[i.toNat],?_,List.getElem_mem hi⟩;have q:=dU (xs:=xs) (j:=i.toNat) (v:=xs[i.toNat]) (zF hi);rw[e]at q;exact q
theorem Ze{n:Nat}(h:n≤1000000):n≤sizeLine:=zP h (by decide)
theorem Zq{n:Nat}(h:n<1000000):n<sizeLine:=zH h (by decide)
theorem iO{lo:Int}{n k:Nat}{g:TG}{tt:TT}{te:TE}{σ:St}{H:Hp}{Q:VK}(Pv:Nat→List V→Hp→Prop)(h0:Pv 0 [] H)(hs:∀i ys H (C:List V→Hp→Prop),i<n→Pv i ys H→(∀ys' H',Pv (i+1) ys' H'→C ys' H')→ys.length<sizeLine∧g (.int (lo+i)) (List.replicate k none++σ) H fun σ2 H2=>Wk σ2 (List.replicate k none++σ)∧tt σ2 H2 fun ok H3=>
   if ok=true then te σ2 H3 fun y H4=>C (ys++[y]) H4 else C ys H3)(hd:∀ys H,Pv n ys H→ys.length≤sizeLine∧∀p,H p=none→Q (.ref p) (upd H p (.lst ys))):
  CompR (Itr lo n) H k g tt te σ Q:=by
 refine⟨fun i m ys H=>m=n-i∧i≤n∧Pv i ys H,⟨n,by simp,Nat.zero_le _,h0⟩,?_⟩;rintro i m ys H ⟨rfl,hi,p⟩;by_cases Cz:i<n
 ·have q:=hs i ys H (fun ys' H'=>∃m',m'<n-i∧m'=n-(i+1)∧i+1≤n∧Pv (i+1) ys' H') Cz p fun ys' H' p'=>⟨_,by omega,rfl,Cz,p'⟩;refine .inr ⟨Cz,q.1,fun x H' y=>?_⟩;obtain⟨e,y⟩:=y;subst e y;exact q.2
 ·have e:i=n:=by omega
  subst e;exact .inl ⟨yM _,hd ys H p⟩
theorem Xe{K:W.Frag}{a:Addr}{xs:List V}{k:Nat}{g:TG}{tt:TT}{te:TE}{σ:St}{H:Hp}{Q:VK}(Pv:Nat→List V→Hp→Prop)(h0:Pv 0 [] H)(hl:∀i ys H,i≤xs.length→Pv i ys H→SqL K H a xs)(hs:∀i x ys H (C:List V→Hp→Prop),xs[i]?=some x→Pv i ys H→(∀ys' H',Pv (i+1) ys' H'→C ys' H')→ys.length<sizeLine∧g x (List.replicate k none++σ) H fun σ2 H2=>Wk σ2 (List.replicate k none++σ)∧tt σ2 H2 fun ok H3=>
   if ok=true then te σ2 H3 fun y H4=>C (ys++[y]) H4 else C ys H3)(hd:∀ys H,Pv xs.length ys H→ys.length≤sizeLine∧∀p,H p=none→Q (.ref p) (upd H p (.lst ys))):
  CompR (Itl K a) H k g tt te σ Q:=by
 refine⟨fun i m ys H=>m=xs.length-i∧i≤xs.length∧Pv i ys H,⟨xs.length,by simp,Nat.zero_le _,h0⟩,?_⟩;rintro i m ys H ⟨rfl,hi,p⟩;have q:=hl i ys H hi p;by_cases Cz:i<xs.length
 ·have r:=hs i xs[i] ys H (fun ys' H'=>∃m',m'<xs.length-i∧m'=xs.length-(i+1)∧i+1≤xs.length∧Pv (i+1) ys' H') (by simp[Cz]) p fun ys' H' p'=>⟨_,by omega,rfl,Cz,p'⟩;refine .inr ⟨⟨xs,xs[i],q,by simp[Cz]⟩,r.1,fun x H' y=>?_⟩;obtain⟨e,y⟩:=y;subst e;have ex:xs[i]?=some x:=y xs q;have ex2:xs[i]=x:=by simpa [Cz] using ex
  rw[←ex2];exact r.2
 ·have e:i=xs.length:=by omega
  subst e;exact .inl ⟨⟨xs,q,yM _⟩,hd ys H p⟩
structure Th where
 day:Int
 word:Str
 num:Int
 many:Int
def Th.D(t:Th):PyData:=.tuple [.int t.day,.str t.word,.int t.num,.int t.many]
def Th.vs(t:Th):List V:=[.int t.day,.str t.word,.int t.num,.int t.many]
theorem Th.dv{H:Hp}{r:Addr}{t:Th}(h:H r=some (.tup t.vs)):DV H (.ref r) t.D:=.tup h (.cons (.int _) (.cons (.str _) (.cons (.int _) (.cons (.int _) .nil))))
inductive Tr where
 |leaf (ts:List Th)
 |node (l r:Tr)
abbrev bf(ts:List Th):PyData:=.list (ts.map Th.D)
def Tr.D:Tr→PyData
 |.leaf ts=>bf ts
 |.node l r=>.tuple [.str "merged",l.D,r.D]
def Tr.streams:Tr→List (List Th)
 |.leaf ts=>[ts]
 |.node l r=>l.streams++r.streams
def Tr.size:Tr→Nat
 |.leaf _=>1
 |.node l r=>l.size+r.size+1
def Tr.ht:Tr→Nat
 |.leaf _=>0
 |.node l r=>max l.ht r.ht+1
def Tr.all:Tr→List Th
 |.leaf ts=>ts
 |.node l r=>l.all++r.all
theorem Tr.all_eq:∀t:Tr,t.all=t.streams.flatten
 |.leaf ts=>by simp[Tr.all,Tr.streams]
 |.node l r=>by
  show l.all++r.all=(l.streams++r.streams).flatten;rw[List.flatten_append,all_eq l,all_eq r]
theorem jt{α:Type}{f:α→PyData}{n:Nat}:∀(xs:List α),(∀x∈xs,(f x).canLay0=true∧(f x).depth≤n)→PyData.canLayAll0 (xs.map f)=true∧PyData.depthAll (xs.map f)≤n
 | [],_=>by simp[PyData.canLayAll0,PyData.depthAll]
 |x::xs,h=>by
  have h1:=h x zL;have h2:=jt xs fun y hy=>h y (zS _ hy);rw[yQ,PyData.canLayAll0,PyData.depthAll,h1.1,h2.1];exact⟨rfl,Nat.max_le.mpr ⟨h1.2,h2.2⟩⟩
theorem Ql{α:Type}{f:α→PyData}{n:Nat}(xs:List α)(h:∀x∈xs,(f x).canLay0=true∧(f x).depth≤n):(PyData.list (xs.map f)).canLay0=true∧(PyData.list (xs.map f)).depth≤n+1:=by
 have q:=jt xs h;rw[PyData.canLay0,PyData.depth];exact⟨q.1,Nat.succ_le_succ q.2⟩
theorem Yw{d:PyData}{n:Nat}(h:d.canLay0=true∧d.depth≤n)(hn:n≤64):SeqAt.shaped d=true:=by
 unfold SeqAt.shaped;rw[h.1,Bool.true_and];exact yX (zP h.2 hn)
theorem m_{d:PyData}{n:Nat}(h:d.canLay0=true∧d.depth≤n):PyData.eqv d d=true:=SeqAt.eqv_refl d h.1
theorem Rc(ds:List PyData):PyData.eqv (.list ds) (.list [])=ds.isEmpty:=by
 cases ds <;> simp[PyData.eqv,PyData.eqvAll]
theorem DV.list_inv{H:Hp}{v:V}{ds:List PyData}(h:DV H v (.list ds)):∃a xs,v=.ref a∧H a=some (.lst xs)∧DVs H xs ds:=by
 cases h with
 |lst e r=>exact⟨_,_,rfl,e,r⟩
theorem DV.tup_inv{H:Hp}{v:V}{ds:List PyData}(h:DV H v (.tuple ds)):∃a xs,v=.ref a∧H a=some (.tup xs)∧DVs H xs ds:=by
 cases h with
 |tup e r=>exact⟨_,_,rfl,e,r⟩
theorem DVs.cons_inv{H:Hp}{vs:List V}{d:PyData}{ds:List PyData}(h:DVs H vs (d::ds)):∃x r,vs=x::r∧DV H x d∧DVs H r ds:=by
 cases h with
 |cons a b=>exact⟨_,_,rfl,a,b⟩
theorem DVs.nil_inv{H:Hp}{vs:List V}(h:DVs H vs []):vs=[]:=by
 cases h with
 |nil=>rfl
theorem DV.node_inv{H:Hp}{v:V}{l r:Tr}(h:DV H v (Tr.node l r).D):∃a m x y,v=.ref a∧H a=some (.tup [m,x,y])∧DV H x l.D∧DV H y r.D:=by
 obtain⟨a,xs,rfl,e,q⟩:=DV.tup_inv h;obtain⟨m,r1,rfl,_,q1⟩:=q.cons_inv;obtain⟨x,r2,rfl,hx,q2⟩:=q1.cons_inv;obtain⟨y,r3,rfl,hy,q3⟩:=q2.cons_inv;have:=q3.nil_inv;subst this;exact⟨a,m,x,y,rfl,e,hx,hy⟩
theorem Vh{H H':Hp}{a:Addr}{o:HO}(g:Same H H')(h:H a=none):Same H (upd H' a o):=fun b u q=>by rw[Zb (Zi q h)];exact g b u q
theorem Has.of{P:Program}{w:World}{K:W.Frag}{mg:Str→Option Value}{base:Heap}{x:Str}{k:Nat}{ps:List Str}{sp:Sp}{f:Addr}{fd:FuncData}(F:FnOk P w K mg base CX0 k f fd ps sp)(b:Binds K fd ps [])(kp:W.keepIn K (.ref f)=true)(m:mg x=some (.ref f)):
  Has P w K mg base x k ps sp:=⟨f,fd,F,b,kp,m⟩
theorem kM{P:Program}{w:World}{K:W.Frag}{mg:Str→Option Value}{base:Heap}{k:Nat}{ps:List Str}{sp:Sp}{f:Addr}{fd:FuncData}(no:∀vs H Q E,¬sp vs H Q E):FnOk P w K mg base CX0 k f fd ps sp:=
 ⟨fun vs H Q E h=>absurd h (no vs H Q E),fun A outer s H args us vs Q E _ _ _ _ h=>absurd h (no vs H Q E)⟩
def x8(t T:String):Option Bool:=if (Value.type t==Value.type T)=true then some true else if W.kitMeta T=true then(PySem.fastBuiltinMro t).map (·.contains (.type T))else none
theorem j9{K:W.Frag}{t T:String}{b:Bool}(h:x8 t T=some b):W.kitOne K (.type t) (.type T)=some b:=h
theorem m7{K:W.Frag}:W.kitOne K (.type "list") (.type "list")=some true:=j9 (by decide +kernel)
theorem pA{K:W.Frag}:W.kitOne K (.type "tuple") (.type "list")=some false:=j9 (by decide +kernel)
section
variable{X:Cx}
theorem qY{ns:List Int}{us:List Value}(r:Vals (ns.map V.int) us){i:Nat}{u:Value}(h:us[i]?=some u):∃t,u=.int (ns.getD i 0) t:=IntsAre.int_at (Qn r) i u h
theorem U3(hc:X.calm=true):aK X (.builtin "sum") (fun xs H Q=>∃(p:Addr)(ns:List Int),xs=[.ref p]∧SqL X.K H p (ns.map V.int)∧Q (.int ns.sum) H):=by
 intro Cr s σ H xs us Q I r h;obtain⟨p,ns,rfl,hq,q⟩:=h;obtain⟨u,rfl,ru⟩:=Xx r;cases ru;obtain⟨its,rv,pl,hz⟩:=I.list hq;have hl:=rv.length;rw[pi]at hl;have Cz:p<s.heap.objs.size:=by
  obtain⟨o,n,e,_⟩:=pl;exact yV e
 refine call_sum_walkG (BR pl.isList ?_);have hh:X.A.in1.handled=none:=by simpa using I.ok.hd hc
 refine⟨s.heap.objs.size,_,_,_,_,_,fun i=>ns.getD i 0,rfl,Walks.list hh _ p (y4 Cz) its.toArray,⟨⟨_,yY _ rfl,rfl,rfl⟩,pl.isList.push _⟩,fun b hb=>?_,fun i v hv=>?_,fun h' tk t' kp=>?_⟩
 ·rw[BD]
  rcases y8.mp hb with e | e
  ·rw[e];exact Nat.lt_succ_self _
  ·rw[yP.mp e];exact AG Cz
 ·exact qY rv (by simpa using hv)
 ·have e:preSum (fun i=>ns.getD i 0) its.toArray.size=ns.sum:=by
   rw[PyProof.Rows.preSum_getD,zD,←hl,zG]
  rw[e];refine⟨.int ns.sum,H,I.kept fun b o eb=>kp b o ?_ (yJ _ eb),⟨_,rfl⟩,q⟩;intro hb;rw[yP.mp hb]at eb;exact absurd (yV eb) (Be _)
end
section
variable{prog:Program}{w:World}{A:Around}{R:Result→Shared→Prop}{I:Addr}{fp wr:List Addr}{n:Nat}{P:Nat→Value→Prop}{St:Nat→Heap→Prop}
end
variable{prog:Program}{w:World}{A:Around}{E:Value→Shared→Prop}{s:Shared}
section
variable{X:Cx}
end
theorem DV.th_inv{H:Hp}{v:V}{t:Th}(h:DV H v t.D):∃c,v=.ref c∧H c=some (.tup t.vs):=by
 obtain⟨c,xs,rfl,e,q⟩:=DV.tup_inv h;obtain⟨_,_,rfl,k1,q⟩:=q.cons_inv;obtain⟨_,_,rfl,k2,q⟩:=q.cons_inv;obtain⟨_,_,rfl,k3,q⟩:=q.cons_inv;obtain⟨_,_,rfl,k4,q⟩:=q.cons_inv;have:=q.nil_inv;subst this;cases k1;cases k2;cases k3;cases k4;exact⟨c,rfl,e⟩
theorem DVs.th_at{H:Hp}{xs:List V}{ts:List Th}{i:Nat}{x:V}(h:DVs H xs (ts.map Th.D))(hx:xs[i]?=some x):∃t c,ts[i]?=some t∧x=.ref c∧H c=some (.tup t.vs)∧t∈ts:=by
 obtain⟨d,hd,dv⟩:=DVs.getV h hx;rw[zc]at hd;obtain⟨t,ht,rfl⟩:=zV.mp hd;obtain⟨c,rfl,e⟩:=DV.th_inv dv;exact⟨t,c,ht,rfl,e,zB ht⟩
theorem Zx{α:Type}{l:List α}{i:Nat}{x:α}(h:l[i]?=some x):l.take (i+1)=l.take i++[x]:=by rw[List.take_add_one,h];rfl
theorem gU{K:W.Frag}{a:Addr}{xs:List V}{ts:List Th}{k:Nat}{g:TG}{tt:TT}{te:TE}{σ:St}{H:Hp}{Q:VK}(p:Th→Bool)(f:Th→V)(e:H a=some (.lst xs))(dv:DVs H xs (ts.map Th.D))(hl:ts.length≤100000)(hs:∀(t:Th) (c:Addr) (ys:List V) (C:List V→Hp→Prop),t∈ts→H c=some (.tup t.vs)→(p t=true→C (ys++[f t]) H)→(p t=false→C ys H)→g (.ref c) (List.replicate k none++σ) H fun σ2 H2=>Wk σ2 (List.replicate k none++σ)∧tt σ2 H2 fun ok H3=>
   if ok=true then te σ2 H3 fun y H4=>C (ys++[y]) H4 else C ys H3)(hd:∀q,H q=none→Q (.ref q) (upd H q (.lst ((ts.filter p).map f)))):
  CompR (Itl K a) H k g tt te σ Q:=by
 have dl:=dv.length;rw[pi]at dl;have le:∀i,(((ts.take i).filter p).map f).length≤100000:=fun i=>by
  rw[pi];have h1:=z8 p (ts.take i);rw[zu]at h1;omega
 refine Xe (xs:=xs) (fun i ys H'=>H'=H∧ys=((ts.take i).filter p).map f) ⟨rfl,rfl⟩ ?_ ?_ ?_
 ·rintro i ys H' _ ⟨rfl,_⟩;exact SqL.of e
 ·rintro i x ys H' C hx ⟨rfl,rfl⟩ hC;obtain⟨t,c,ht,rfl,ec,hm⟩:=DVs.th_at dv hx;refine⟨Zq (by have:=le i;omega),hs t c _ C hm ec (fun hp=>hC _ _ ⟨rfl,?_⟩) (fun hp=>hC _ _ ⟨rfl,?_⟩)⟩
  ·rw[Zx ht,AL,zk,zN,hp];rfl
  ·rw[Zx ht,AL,zN,hp];simp
 ·rintro ys H' ⟨rfl,rfl⟩;rw[dl,zG];refine⟨Ze (by have:=le ts.length;rw[zG]at this;omega),hd⟩
section
variable{κ:Type}[DecidableEq κ]
def aP(kvs:List (κ×V))(k:κ):Option V:=(kvs.find? fun kv=>decide (kv.1=k)).map (·.2)
def aJ(kvs:List (κ×V))(k:κ)(v:V):List (κ×V):=
 if (kvs.any fun kv=>decide (kv.1=k))=true then kvs.map (fun kv=>if kv.1=k then(kv.1,v)else kv)else kvs++[(k,v)]
def bE(kvs:List (κ×V))(k:κ):List (κ×V):=kvs.filter fun kv=>decide (kv.1≠k)
theorem Y6{p:κ×V}{r:List (κ×V)}{k:κ}(e:p.1=k):aP (p::r) k=some p.2:=by simp[aP,List.find?_cons,e]
theorem Y0{p:κ×V}{r:List (κ×V)}{k:κ}(e:¬p.1=k):aP (p::r) k=aP r k:=by simp[aP,List.find?_cons,e]
theorem Wx(k:κ):∀kvs:List (κ×V),(kvs.any fun kv=>decide (kv.1=k))=(aP kvs k).isSome
 | []=>rfl
 |p::r=>by
  rw[List.any_cons];by_cases e:p.1=k
  ·simp only[Y6 e,decide_eq_true e,Bool.true_or,Option.isSome_some]
  ·rw[Y0 e,zA e,Bool.false_or];exact Wx k r
theorem gq(k j:κ)(y:V):∀kvs:List (κ×V),aP (kvs.map fun kv=>if kv.1=k then(kv.1,y)else kv) j=(aP kvs j).map fun x=>if j=k then y else x
 | []=>rfl
 |p::r=>by
  have ih:=gq k j y r;rw[yQ];by_cases h:p.1=k
  ·rw[yL h];by_cases e:p.1=j
   ·rw[Y6 (p:=(p.1,y)) e,Y6 e,Option.map_some,yL (e.symm.trans h)]
   ·rw[Y0 (p:=(p.1,y)) e,Y0 e,ih]
  ·rw[yK h];by_cases e:p.1=j
   ·rw[Y6 (p:=p) e,Y6 e,Option.map_some,yK (fun z=>h (e.trans z))]
   ·rw[Y0 (p:=p) e,Y0 e,ih]
theorem Pl(k j:κ)(y:V):∀kvs:List (κ×V),aP kvs k=none→aP (kvs++[(k,y)]) j=if j=k then some y else aP kvs j
 | [],_=>by
  by_cases e:k=j
  ·rw[yL e.symm];exact Y6 (p:=(k,y)) e
  ·rw[yK (fun z=>e z.symm)];exact Y0 (p:=(k,y)) e
 |p::r,hn=>by
  rw[List.cons_append];have hk:¬p.1=k:=fun z=>by rw[Y6 z]at hn;cases hn
  rw[Y0 hk]at hn;have ih:=Pl k j y r hn;by_cases e:p.1=j
  ·rw[Y6 e,Y6 e,yK (fun z=>hk (e.trans z))]
  ·rw[Y0 e,Y0 e,ih]
theorem oQ(kvs:List (κ×V))(k j:κ)(y:V):aP (aJ kvs k y) j=if j=k then some y else aP kvs j:=by
 unfold aJ;by_cases a:(kvs.any fun kv=>decide (kv.1=k))=true
 ·rw[yL a,gq];rw[Wx]at a;by_cases e:j=k
  ·obtain⟨x,hx⟩:=Option.isSome_iff_exists.mp a;rw[yL e,e,hx,Option.map_some,yL rfl]
  ·rw[yK e];cases aP kvs j with
   |none=>rfl
   |some x=>rw[Option.map_some,yK e]
 ·rw[yK a];refine Pl k j y kvs ?_;rw[Wx]at a;cases q:aP kvs k with
  |none=>rfl
  |some x=>rw[q]at a;exact(a rfl).elim
theorem Sn(kvs:List (κ×V))(k:κ)(v:V):(aJ kvs k v).length≤kvs.length+1:=by
 unfold aJ
 split
 ·rw[pi];omega
 ·rw[yR,zw,Ai];omega
theorem py{kvs:List (κ×V)}{k:κ}(v:V)(h:aP kvs k=none):aJ kvs k v=kvs++[(k,v)]:=by
 unfold aJ;rw[Wx,h];exact yK (by decide)
theorem RelO.isSome_eq{o:Option V}{u:Option Value}(r:RelO o u):o.isSome=u.isSome:=by
 cases o with
 |none=>cases u with
  |none=>rfl
  |some _=>exact(show False from r).elim
 |some _=>cases u with
  |none=>exact(show False from r).elim
  |some _=>rfl
theorem RelO.getD{o:Option V}{u:Option Value}{d:V}{d':Value}(r:RelO o u)(rd:RelV d d'):RelV (o.getD d) (u.getD d'):=by
 cases o with
 |none=>cases u with
  |none=>exact rd
  |some _=>exact(show False from r).elim
 |some _=>cases u with
  |none=>exact(show False from r).elim
  |some _=>exact r
theorem KV.val{kvs:List (κ×V)}{vs:List (κ×Value)}(r:KV kvs vs)(k:κ):RelO (aP kvs k) (valueAt vs k):=by
 unfold KV at r
 induction r with
 |nil=>exact True.intro
 | @cons p q ps qs h t ih=>
  obtain⟨h1,h2⟩:=h;by_cases e:p.1=k
  ·have e':q.1=k:=h1.symm.trans e;have b:valueAt (q::qs) k=some q.2:=by simp[valueAt,List.find?_cons,e']
   rw[Y6 e,b];exact h2
  ·have e':¬q.1=k:=fun z=>e (h1.trans z);have b:valueAt (q::qs) k=valueAt qs k:=by simp[valueAt,List.find?_cons,e']
   rw[Y0 e,b];exact ih
theorem KV.any{kvs:List (κ×V)}{vs:List (κ×Value)}(r:KV kvs vs)(k:κ):(kvs.any fun kv=>decide (kv.1=k))=vs.any fun kv=>decide (kv.1=k):=by
 unfold KV at r
 induction r with
 |nil=>rfl
 |cons h t ih=>rw[List.any_cons,List.any_cons,ih,h.1]
theorem KV.repl{kvs:List (κ×V)}{vs:List (κ×Value)}(r:KV kvs vs)(k:κ){y:V}{u:Value}(ry:RelV y u):
  KV (kvs.map fun kv=>if kv.1=k then(kv.1,y)else kv) (vs.map fun kv=>if kv.1=k then(kv.1,u)else kv):=by
 unfold KV at r⊢
 induction r with
 |nil=>exact .nil
 | @cons p q ps qs h t ih=>
  rw[yQ,yQ];refine .cons ?_ ih;obtain⟨h1,h2⟩:=h;by_cases e:p.1=k
  ·rw[yL e,yL (h1.symm.trans e)];exact⟨h1,ry⟩
  ·rw[yK e,yK (fun z=>e (h1.trans z))];exact⟨h1,h2⟩
theorem KV.put{kvs:List (κ×V)}{vs:List (κ×Value)}(r:KV kvs vs)(k:κ){y:V}{u:Value}(ry:RelV y u):KV (aJ kvs k y) (stored vs k u):=by
 unfold aJ stored;rw[r.any k];by_cases e:(vs.any fun kv=>decide (kv.1=k))=true
 ·rw[yL e,yL e];exact r.repl k ry
 ·rw[yK e,yK e];exact Paired.snoc r ⟨rfl,ry⟩
theorem KV.keys{kvs:List (κ×V)}{vs:List (κ×Value)}(r:KV kvs vs):kvs.map (·.1)=vs.map (·.1):=by
 unfold KV at r
 induction r with
 |nil=>rfl
 |cons h t ih=>rw[yQ,yQ,ih,h.1]
theorem KV.length{kvs:List (κ×V)}{vs:List (κ×Value)}(r:KV kvs vs):kvs.length=vs.length:=zd r
end
theorem gG{P:Program}{w:World}{k:Key}{u:Value}(r:RelV (kV k) u):(aa P w).is k u=true:=by
 cases k with
 |inl i=>obtain⟨t,e⟩:=(show ∃t,u=Value.int i t from r);subst e;exact Wr P w i t
 |inr x=>obtain⟨t,e⟩:=(show ∃t,u=Value.str x t from r);subst e;exact Sm P w x t
theorem Pz{P:Program}{w:World}:∀{ks:List Key}{us:List Value},Vals (ks.map kV) us→ItemsAre (aa P w) ks us
 | [],_,r=>by rw[B0]at r;cases r;exact .nil
 |k::ks,_,r=>by
  rw[yQ]at r;cases r with
  |cons h t=>exact .cons (gG h) (Pz t)
abbrev KT(H:Hp):List (List Key×V)→List (List Key×Addr×Value)→Prop:=Paired fun p q=>p.1=q.1∧H q.2.1=some (.tup (p.1.map kV))∧RelV p.2 q.2.2
theorem KT.val{H:Hp}{kvs:List (List Key×V)}{xs:List (List Key×Addr×Value)}(r:KT H kvs xs)(k:List Key):RelO (aP kvs k) ((atKey xs k).map (·.2)):=by
 induction r with
 |nil=>exact True.intro
 | @cons p q ps qs h t ih=>
  obtain⟨h1,_,h2⟩:=h;by_cases e:p.1=k
  ·have e':q.1=k:=h1.symm.trans e;have b:atKey (q::qs) k=some q.2:=by simp[atKey,List.find?_cons,e']
   rw[Y6 e,b];exact h2
  ·have e':¬q.1=k:=fun z=>e (h1.trans z);have b:atKey (q::qs) k=atKey qs k:=by simp[atKey,List.find?_cons,e']
   rw[Y0 e,b];exact ih
theorem KT.repl{H:Hp}{kvs:List (List Key×V)}{xs:List (List Key×Addr×Value)}(r:KT H kvs xs)(k:List Key){y:V}{u:Value}(ry:RelV y u):
  KT H (kvs.map fun kv=>if kv.1=k then(kv.1,y)else kv) (xs.map (putAt k u)):=by
 induction r with
 |nil=>exact .nil
 | @cons p q ps qs h t ih=>
  rw[yQ,yQ];refine .cons ?_ ih;obtain⟨h1,h2,h3⟩:=h;unfold putAt;by_cases e:p.1=k
  ·rw[yL e,yL (h1.symm.trans e)];exact⟨h1,h2,ry⟩
  ·rw[yK e,yK (fun z=>e (h1.trans z))];exact⟨h1,h2,h3⟩
theorem KT.put{H:Hp}{kvs:List (List Key×V)}{xs:List (List Key×Addr×Value)}(r:KT H kvs xs)(k:List Key){b:Addr}{y:V}{u:Value}(hb:H b=some (.tup (k.map kV)))(ry:RelV y u):
  KT H (aJ kvs k y) (storedH xs k b u):=by
 have e:(kvs.any fun kv=>decide (kv.1=k))=(atKey xs k).isSome:=by
  rw[Wx,(r.val k).isSome_eq,Option.isSome_map]
 unfold aJ storedH;rw[e];by_cases q:(atKey xs k).isSome=true
 ·rw[yL q,yL q];exact r.repl k ry
 ·rw[yK q,yK q];exact Paired.snoc r ⟨rfl,hb,ry⟩
theorem KT.keeps{H H':Hp}{kvs:List (List Key×V)}{xs:List (List Key×Addr×Value)}(r:KT H kvs xs)(ht:∀b ys,H b=some (.tup ys)→H' b=some (.tup ys)):KT H' kvs xs:=
 Paired.mapP r fun _ _ z=>⟨z.1,ht _ _ z.2.1,z.2.2⟩
section
variable{P:Program}{w:World}{H:Hp}{h:Heap}{a:Addr}
theorem oX{u:HO}(ok:HOk P w H h)(e:Rd H a u):ObjOk P w H h a u:=e.ok ok
theorem O6{kvs:List (Key×V)}(ok:HOk P w H h)(e:Rd H a (.dK kvs)):kvs.length≤sizeLine∧(a==sysModules)=false∧∃vs,KV kvs vs∧h.DictOf (aa P w) a vs:=
 show ObjOk P w H h a (.dK kvs)from oX ok e
theorem jZ{kvs:List (Key×V)}(ok:HOk P w H h)(e:H a=some (.dK kvs)):kvs.length≤sizeLine∧(a==sysModules)=false∧∃vs,KV kvs vs∧h.DictOf (aa P w) a vs:=O6 ok (.inl e)
theorem U1{ks:List Key}(ok:HOk P w H h)(e:H a=some (.tup (ks.map kV))):(tupleKind (aa P w)).is h ks a:=by
 obtain⟨_,its,r,o,h1,h2,n,h3⟩:=(show ObjOk P w H h a (.tup (ks.map kV))from ok a _ e);exact⟨o,its.toArray,n,h1,h2.1,h3,by simpa using Pz r⟩
theorem O3{kvs:List (List Key×V)}(ok:HOk P w H h)(e:Rd H a (.dT kvs)):kvs.length≤sizeLine∧(a==sysModules)=false∧
  ∃xs,KT H kvs xs∧h.DictOfH (tupleKind (aa P w)) a xs:=by
 obtain⟨z,y,xs,r,o,es,ep,h1,h2,h3,h4,h5⟩:=(show ObjOk P w H h a (.dT kvs)from oX ok e);refine⟨z,y,xs,r,o,es,ep,h1,h2,h3,h4,fun x hx=>?_,h5⟩;have all:∀{l:List (List Key×V)}{m:List (List Key×Addr×Value)},KT H l m→∀x∈m,(tupleKind (aa P w)).is h x.1 x.2.1:=by
  intro l m q
  induction q with
  |nil=>intro x hx;exact nomatch hx
  | @cons p q ps qs hq t ih=>
   intro x hx
   rcases y8.mp hx with e | hx
   ·subst e;exact U1 ok (by rw[←hq.1];exact hq.2.1)
   ·exact ih x hx
 exact all r x hx
theorem O4{kvs:List (List Key×V)}(ok:HOk P w H h)(e:H a=some (.dT kvs)):kvs.length≤sizeLine∧(a==sysModules)=false∧
  ∃xs,KT H kvs xs∧h.DictOfH (tupleKind (aa P w)) a xs:=O3 ok (.inl e)
end
def DGet(H:Hp)(a:Addr)(y:V)(r:Option V):Prop:=
 (∃kvs k,Rd H a (.dK kvs)∧y=kV k∧r=aP kvs k)∨∃kvs k b,Rd H a (.dT kvs)∧y=.ref b∧H b=some (.tup (k.map kV))∧r=aP kvs k
def DPut(H:Hp)(a:Addr)(y v:V)(H':Hp):Prop:=
 (∃kvs k,H a=some (.dK kvs)∧y=kV k∧kvs.length<sizeLine∧H'=upd H a (.dK (aJ kvs k v)))∨
 ∃kvs k b,H a=some (.dT kvs)∧y=.ref b∧H b=some (.tup (k.map kV))∧kvs.length<sizeLine∧H'=upd H a (.dT (aJ kvs k v))
theorem DGet.k{H:Hp}{a:Addr}{kvs:List (Key×V)}{k:Key}(e:H a=some (.dK kvs)):DGet H a (kV k) (aP kvs k):=.inl ⟨kvs,k,.inl e,rfl,rfl⟩
theorem DGet.t{H:Hp}{a b:Addr}{kvs:List (List Key×V)}{k:List Key}(e:H a=some (.dT kvs))(eb:H b=some (.tup (k.map kV))):DGet H a (.ref b) (aP kvs k):=.inr ⟨kvs,k,b,.inl e,rfl,eb,rfl⟩
theorem DPut.k{H:Hp}{a:Addr}{kvs:List (Key×V)}{k:Key}{v:V}(e:H a=some (.dK kvs))(hl:kvs.length<sizeLine):DPut H a (kV k) v (upd H a (.dK (aJ kvs k v))):=.inl ⟨kvs,k,e,rfl,hl,rfl⟩
theorem DPut.t{H:Hp}{a b:Addr}{kvs:List (List Key×V)}{k:List Key}{v:V}(e:H a=some (.dT kvs))(eb:H b=some (.tup (k.map kV)))(hl:kvs.length<sizeLine):
  DPut H a (.ref b) v (upd H a (.dT (aJ kvs k v))):=.inr ⟨kvs,k,b,e,rfl,eb,hl,rfl⟩
section
variable{X:Cx}{Cr:List (Addr×Obj)}{σ:St}{H:Hp}{s:Shared}{a:Addr}{y v:V}{u r:Value}{o:Option V}{A:Around}{E:Value→Shared→Prop}
theorem Inv.big(I:Inv X Cr σ H s):sysModules<s.heap.objs.size:=by
 have h:mainGlobals<s.heap.objs.size:=(I.mod.glob.keeps I.bk).lt;exact A3 (by decide) h
theorem lK{Q:Value→Shared→Prop}(hu:A.units+1<cLine)(I:Inv X Cr σ H s)(g:DGet H a y (some v))(ry:RelV y u)(h:∀w' s',Inv X Cr σ H s'→RelV v w'→Q w' s'):
  wpAny (model X.prog X.w) A (getItem (.ref a) u) Q E s:=by
 rcases g with⟨kvs,k,e,ey,l⟩|⟨kvs,k,b,e,ey,eb,l⟩
 ·subst ey;obtain⟨z,hd,vs,rel,dd⟩:=O6 I.hok e;obtain⟨w',hw,rw'⟩:=RelO.some_of (v:=v) (o:=valueAt vs k) (by rw[l];exact rel.val k);exact wpAny_getItem_of (gG ry) dd.mapOf hw (h w' _ (I.tok _) rw')
 ·subst ey;cases (show u=Value.ref b from ry);obtain⟨z,hd,xs,rel,dd⟩:=O3 I.hok e;obtain⟨w',hw,rw'⟩:=RelO.some_of (v:=v) (o:=(atKey xs k).map (·.2)) (by rw[l];exact rel.val k);obtain⟨p,hp,hp2⟩:=zV.mp hw;refine wpAny_getItem_heap (A1 hu) (U1 I.hok eb) dd hp ?_;rw[hp2];exact h w' _ (I.tok _) rw'
theorem d_in{Q:Value→Shared→Prop}(hu:A.units+1<cLine)(I:Inv X Cr σ H s)(g:DGet H a y o)(ry:RelV y u)(h:∀s',Inv X Cr σ H s'→Q (.bool o.isSome) s'):
  wpAny (model X.prog X.w) A (compareOp .In u (.ref a)) Q E s:=by
 rcases g with⟨kvs,k,e,ey,l⟩|⟨kvs,k,b,e,ey,eb,l⟩
 ·subst ey;obtain⟨z,hd,vs,rel,dd⟩:=O6 I.hok e;refine wpAny_in_of (gG ry) hd dd.mapOf ?_;rw[←(rel.val k).isSome_eq,←l];exact h _ (I.tok _)
 ·subst ey;cases (show u=Value.ref b from ry);obtain⟨z,hd,xs,rel,dd⟩:=O3 I.hok e;refine wpAny_in_heap (A1 hu) (U1 I.hok eb) hd dd ?_;have q:=(rel.val k).isSome_eq;rw[Option.isSome_map]at q;rw[←q,←l];exact h _ (I.tok _)
theorem dI{h':Heap}{t':Nat}{ob:HO}(I:Inv X Cr σ H s)(mu:Mut (H a))(hs:Heap.SameBut a s.heap h')(he:∃q,h'.get? a=some q)(new:ObjOk X.prog X.w (upd H a ob) h' a ob):
  Inv X Cr σ (upd H a ob) {s with heap:=h',toks:=t'}:=
 I.write (x:=a) (e:=a) mu (.inl rfl) (fun b q hb z=>(hs.2 b hb).trans z) he new
theorem wE{P:Program}{w:World}{H':Hp}{h':Heap}{kvs:List (Key×V)}{vs:List (Key×Value)}(z:kvs.length≤sizeLine)(hd:(a==sysModules)=false)(rel:KV kvs vs)(dd:h'.DictOf (aa P w) a vs):
  ObjOk P w H' h' a (.dK kvs):=⟨z,hd,vs,rel,dd⟩
theorem mS{H':Hp}{Q:Unit→Shared→Prop}(hu:A.units+1<cLine)(I:Inv X Cr σ H s)(g:DPut H a y v H')(ry:RelV y u)(rv:RelV v r)(h:∀s',Inv X Cr σ H' s'→Q () s'):
  wpAny (model X.prog X.w) A (setItem (.ref a) u r) Q E s:=by
 rcases g with⟨kvs,k,e,ey,l,eH⟩|⟨kvs,k,b,e,ey,eb,l,eH⟩
 ·subst ey eH;obtain⟨z,hd,vs,rel,dd⟩:=jZ I.hok e;have hz:vs.length≤sizeLine:=by rw[←rel.length];exact z
  have hl:(aJ kvs k v).length≤sizeLine:=by have:=Sn kvs k v;omega
  refine wpAny_setItem_pairs (hsz:=hz) (gG ry) dd fun h' dd' hs=>h _ ?_;have he:∃q,h'.get? a=some q:=let ⟨q,_,_,hq,_⟩:=dd';⟨q,hq⟩
  exact dI I (by rw[e];exact True.intro) hs he (wE hl hd (rel.put k rv) dd')
 ·subst ey eH;cases (show u=Value.ref b from ry);obtain⟨z,hd,xs,rel,dd⟩:=O4 I.hok e;have hz:xs.length≤sizeLine:=by rw[←zd rel];exact z
  have hl:(aJ kvs k v).length≤sizeLine:=by have:=Sn kvs k v;omega
  refine wpAny_setItem_heap (hsz:=hz) (A1 hu) (U1 I.hok eb) dd fun h' dd' hs=>h _ ?_;obtain⟨q,es,ep,hq,h2,h3,h4,_,h5⟩:=dd';refine dI I (by rw[e];exact True.intro) hs ⟨q,hq⟩ ⟨hl,hd,_,(rel.put k eb rv).keeps fun c ys ec=>?_,q,es,ep,hq,h2,h3,h4,h5⟩;rw[Zb (V6 ec e (fun z=>nomatch z))];exact ec
end
section
variable{X:Cx}{Cr:List (Addr×Obj)}{σ:St}{H:Hp}{s:Shared}{a:Addr}{kvs:List (Key×V)}{k:Key}{u:Value}{A:Around}{E:Value→Shared→Prop}
end
def xY(i:Expr):Prop:=∀ov iv,subscripted i false ov iv=operate [ov,iv] (getItem ov iv)
theorem ub{prog:Program}{w:World}{A:Around}{E:Value→Shared→Prop}{s:Shared}{env:Env}{value slice:Expr}{pos:Pos}{T id:String}{Q:Value→Shared→Prop}(hl:typeLookup (.type T) "__getitem__"=pure (some (.builtin id)))(hs:xY slice)(h:wpAny (model prog w) A (eval value env) (fun o s₁=>wpAny (model prog w) A (eval slice env) (fun i s₂=>s₂.TypeIs o T∧wpAny (model prog w) A (getItem o i) Q E s₂) E s₁) E s):
  wpAny (model prog w) A (eval (.Subscript value slice pos) env) Q E s:=by
 refine Subscript_ (Af h (fun o s₁ h₁=>Af h₁ (fun i s₂ h₂=>?_) fun _ _ x=>x) fun _ _ x=>x);obtain⟨hT,h₂⟩:=h₂;unfold subscriptTail;refine io ?_;rw[getitemInPython_of_ne hT.not_modules];refine io (B9 hT hl ?_);have fin:wpAny (model prog w) A (subscripted slice false o i) (fun r s₃=>wpAny (model prog w) A (letTemporaryGo value o r >>= fun _=>pure r) Q E s₃) E s₂:=by
  rw[hs o i];exact wpAny_operating (Af h₂ (fun r s₃ h₃=>io (wpAny_letTemporaryGo (yI h₃))) fun _ _ x=>x)
 first
  |exact yI (io fin)
  |exact io (yI (io fin))
  |exact io fin
theorem e7{X:Cx}{Cr:List (Addr×Obj)}{σ:St}{H:Hp}{s:Shared}{a:Addr}{y:V}{o:Option V}(I:Inv X Cr σ H s)(g:DGet H a y o):s.TypeIs (.ref a) "dict":=by
 rcases g with⟨kvs,k,e,_,_⟩|⟨kvs,k,b,e,_,_,_⟩
 ·obtain⟨_,_,vs,_,dd⟩:=O6 I.hok e;exact dd.typeIs
 ·obtain⟨_,_,xs,_,dd⟩:=O3 I.hok e;exact dd.typeIs
def xM(td ty:TE):TE:=fun σ H Q=>td σ H fun x H1=>ty σ H1 fun y H2=>∃a v,x=.ref a∧DGet H2 a y (some v)∧Q v H2
def yg(td ty tv:TE):TS:=fun D σ H=>tv σ H fun v H1=>td σ H1 fun x H2=>ty σ H2 fun y H3=>∃a H4,x=.ref a∧DPut H3 a y v H4∧D.nx σ H4
section
variable{X:Cx}{o i e value:Expr}{pos pos' tpos:Pos}{td ty tv:TE}
theorem Wo(hu:X.A.units+1<cLine)(ho:PE X o td)(hi:PE X i ty)(hs:xY i):PE X (.Subscript o i pos) (xM td ty):=by
 intro Cr s σ H Q I h;refine ub PySem.F.slot_dict_getitem.lookup hs (thn (ho Cr s σ H _ I h) fun u s1 ⟨x,H1,I1,rx,q1⟩=>thn (hi Cr s1 σ H1 _ I1 q1) fun iv s2 Cs=>?_);obtain⟨y,H2,I2,ry,a,v,ex,g,q2⟩:=Cs;subst ex;obtain rfl:u=Value.ref a:=rx;exact⟨e7 I2 g,lK hu I2 g ry fun w' s3 I3 rw'=>⟨v,H2,I3,rw',q2⟩⟩
theorem Wm(hu:X.A.units+1<cLine)(ho:PE X o td)(hi:PE X i ty)(hv:PE X value tv)(hs:swapsWith value (some (.Subscript o i pos')) pos.line X.env=pure false):
  PS X (.Assign [.Subscript o i pos'] value pos) (yg td ty tv):=by
 intro Cr s σ H D I h;refine wpAny_Assign_Subscript (thn (hv Cr s σ H _ I h) fun r s1 ⟨v,H1,I1,rv,q1⟩=>thn (ho Cr s1 σ H1 _ I1 q1) fun u s2 ⟨x,H2,I2,rx,q2⟩=>thn (hi Cr s2 σ H2 _ I2 q2) fun iv s3 Cs=>?_) hs;obtain⟨y,H3,I3,ry,a,H4,ex,g,q3⟩:=Cs;subst ex;obtain rfl:u=Value.ref a:=rx;exact mS hu I3 g ry rv fun s4 I4=>⟨σ,H4,I4,q3⟩
end
theorem oB{P:Program}{w:World}{H:Hp}(h:Heap)(hb:sysModules<h.objs.size):ObjOk P w H (h.push {cls:=.type "dict",data:=.dict #[]}) h.objs.size (.dK []):=
 ⟨Aa _,AV.mpr (Ne.symm (y4 hb)),[],.nil,Heap.DictOf.new h⟩
theorem fw{P:Program}{w:World}{H:Hp}(h:Heap)(hb:sysModules<h.objs.size):ObjOk P w H (h.push {cls:=.type "dict",data:=.dict #[]}) h.objs.size (.dT []):=
 ⟨Aa _,AV.mpr (Ne.symm (y4 hb)),[],.nil,_,#[],0,yY _ rfl,⟨rfl,rfl,rfl⟩,rfl,rfl,zO⟩
def v_:TE:=fun _ H Q=>∀p,H p=none→Q (.ref p) (upd H p (.dK []))
def vg:TE:=fun _ H Q=>∀p,H p=none→Q (.ref p) (upd H p (.dT []))
section
variable{X:Cx}{pos:Pos}
theorem qQ:PE X (.Dict [] [] pos) v_:=fun Cr s σ H Q I h=>
 wpAny_Dict_empty ⟨.ref s.heap.objs.size,_,I.laid (a:=s.heap.objs.size) (o:=.dK []) (t':=s.toks) (fun _ _ q=>yJ _ q) (yM _) (oB s.heap I.big),rfl,h _ (I.hok.fresh (yM _))⟩
theorem Q3:PE X (.Dict [] [] pos) vg:=fun Cr s σ H Q I h=>
 wpAny_Dict_empty ⟨.ref s.heap.objs.size,_,I.laid (a:=s.heap.objs.size) (o:=.dT []) (t':=s.toks) (fun _ _ q=>yJ _ q) (yM _) (fw s.heap I.big),rfl,h _ (I.hok.fresh (yM _))⟩
end
def p8:List (TE×TE)→St→Hp→(List (V×V)→Hp→Prop)→Prop
 | [],_,H,Q=>Q [] H
 | (tk,tv)::r,σ,H,Q=>tk σ H fun x H1=>tv σ H1 fun y H2=>p8 r σ H2 fun ps H3=>Q ((x,y)::ps) H3
abbrev VV:List (V×V)→List (Value×Value)→Prop:=Paired fun p q=>RelV p.1 q.1∧RelV p.2 q.2
def PPs(X:Cx)(pos:Pos)(keys:List (Option Expr))(values:List Expr)(trs:List (TE×TE)):Prop:=
 ∀(Cr:List (Addr×Obj))(s:Shared)(σ:St)(H:Hp)(Q:List (V×V)→Hp→Prop),Inv X Cr σ H s→p8 trs σ H Q→
  wpAny (model X.prog X.w) X.A (evalPairs (pairTrees keys values X.env pos)) (fun vs s'=>∃ps H',Inv X Cr σ H' s'∧VV ps vs∧Q ps H') X.xe s
theorem sr{X:Cx}{pos:Pos}:PPs X pos [] [] []:=fun Cr s σ H Q I h=>pairTrees_nil_walk ⟨[],H,I,.nil,h⟩
theorem pF{X:Cx}{pos:Pos}{k v:Expr}{ks:List (Option Expr)}{vs:List Expr}{tk tv:TE}{trs:List (TE×TE)}(hk:PE X k tk)(hv:PE X v tv)(hr:PPs X pos ks vs trs):
  PPs X pos (some k::ks) (v::vs) ((tk,tv)::trs):=fun Cr s σ H Q I h=>
 pairTrees_cons_walk (thn (hk Cr s σ H _ I h) fun u s1 ⟨x,H1,I1,rx,q1⟩=>thn (hv Cr s1 σ H1 _ I1 q1) fun w2 s2 ⟨y,H2,I2,ry,q2⟩=>
  thn (hr Cr s2 σ H2 _ I2 q2) fun ws s3 ⟨ps,H3,I3,rel,q3⟩=>⟨(x,y)::ps,H3,I3,.cons ⟨rx,ry⟩ rel,q3⟩)
structure M2(X:Cx)(o:Expr)(m:Str)(apos:Pos)(e f:Expr)(cpos:Pos):Prop where
 base:attributeBase o m X.env (eval o X.env)=eval o X.env
 few:((backTo cpos (starEach [e,f] X.env)).all (fun x=>!x.1) && (backToKw cpos (keywordEach [] X.env)).all (fun x=>x.1.isSome)
  && decide (([e,f]:List Expr).length+([]:List Keyword).length+(if ([]:List Keyword).isEmpty then 0 else 1)<30))=true
 line:(apos.endLine==cpos.line)=true
 trees:backTo cpos (starEach [e,f] X.env)=[(false,eval e X.env),(false,eval f X.env)]
def IsD(H:Hp)(a:Addr):Prop:=(∃kvs,Rd H a (.dK kvs))∨∃kvs,Rd H a (.dT kvs)
theorem u7{X:Cx}{Cr:List (Addr×Obj)}{σ:St}{H:Hp}{s:Shared}{a:Addr}(I:Inv X Cr σ H s)(d:IsD H a):
  s.TypeIs (.ref a) "dict"∧(∀b,Value.ref a=.ref b→∃ob,s.heap.get? b=some ob∧ob.dict=none)∧(a==sysModules)=false:=by
 rcases d with⟨kvs,e⟩|⟨kvs,e⟩
 ·obtain⟨_,hd,vs,_,dd⟩:=O6 I.hok e;refine⟨dd.typeIs,fun b q=>?_,hd⟩;cases q;obtain⟨ob,_,_,h1,h2,_⟩:=dd;exact⟨ob,h1,h2.2.1⟩
 ·obtain⟨_,hd,xs,_,dd⟩:=O3 I.hok e;refine⟨dd.typeIs,fun b q=>?_,hd⟩;cases q;obtain⟨ob,_,_,h1,h2,_⟩:=dd;exact⟨ob,h1,h2.2.1⟩
section
variable{X:Cx}{Cr:List (Addr×Obj)}{σ:St}{H:Hp}{s:Shared}{a:Addr}{y d:V}{u r:Value}{o:Option V}{A:Around}{E:Value→Shared→Prop}
theorem vA{Q:Value→Shared→Prop}(hu:A.units+1<cLine)(I:Inv X Cr σ H s)(g:DGet H a y o)(ry:RelV y u)(rd:RelV d r)(h:∀w' s',Inv X Cr σ H s'→RelV (o.getD d) w'→Q w' s'):
  wpAny (model X.prog X.w) A (call (.builtin "dict.get") [.ref a,u,r]) Q E s:=by
 rcases g with⟨kvs,k,e,ey,l⟩|⟨kvs,k,b,e,ey,eb,l⟩
 ·subst ey;obtain⟨z,hd,vs,rel,dd⟩:=O6 I.hok e;refine B4 PySem.F.slot_dict_get dd.typeIs PySem.F.entry_dict_get (PySem.F.args_dict_get_3 _ _ _) (meets_dict_get_default (aa X.prog X.w) a (gG ry) hd r) ⟨_,dd.mapOf,h _ _ (I.tok _) ?_⟩;rw[l];exact(rel.val k).getD rd
 ·subst ey;cases (show u=Value.ref b from ry);obtain⟨z,hd,xs,rel,dd⟩:=O3 I.hok e;refine B4 PySem.F.slot_dict_get dd.typeIs PySem.F.entry_dict_get (PySem.F.args_dict_get_3 _ _ _) (meetsH_dict_get_default (tupleKind (aa X.prog X.w)) a b hd r) ⟨A1 hu,k,xs,U1 I.hok eb,dd,h _ _ (I.tok _) ?_⟩;rw[l];exact(rel.val k).getD rd
end
def vz(td ty tx:TE):TE:=fun σ H Q=>td σ H fun x H1=>∃a,x=.ref a∧IsD H1 a∧ty σ H1 fun y H2=>tx σ H2 fun z H3=>∃o,DGet H3 a y o∧Q (o.getD z) H3
section
variable{X:Cx}{o e f:Expr}{apos cpos:Pos}{td ty tx:TE}
theorem Wf(hu:X.A.units+1<cLine)(ho:PE X o td)(he:PE X e ty)(hf:PE X f tx)(m:M2 X o "get" apos e f cpos):PE X (.Call (.Attribute o "get" apos) [e,f] [] cpos) (vz td ty tx):=by
 intro Cr s σ H Q I h;refine wpAny_Call_method m.base m.few m.line Al PySem.F.slot_dict_get PySem.F.type_dict_get (thn (ho Cr s σ H _ I h) fun u s1 Cs=>?_);obtain⟨x,H1,I1,rx,a,ex,d,q1⟩:=Cs;subst ex;obtain rfl:u=Value.ref a:=rx;obtain⟨t1,t2,_⟩:=u7 I1 d;refine⟨t1,t2,?_⟩;rw[m.trees];refine Calls.callWith_builtin rfl (Calls.evalArgs_plain (Calls.spliced_cons (thn (he Cr s1 σ H1 _ I1 q1) fun iv s2 ⟨y,H2,I2,ry,q2⟩=>
  Calls.spliced_cons (thn (hf Cr s2 σ H2 _ I2 q2) fun fv s3 ⟨z,H3,I3,rz,ov,g,q3⟩=>Calls.spliced_nil ?_))))
 exact vA hu I3 g ry rz fun w' s4 I4 rw'=>⟨_,H3,I4,rw',q3⟩
end
section
variable{X:Cx}{Cr:List (Addr×Obj)}{σ:St}{H:Hp}{s:Shared}{a:Addr}{kvs:List (Key×V)}{A:Around}{E:Value→Shared→Prop}
end
section
variable{X:Cx}{Cr:List (Addr×Obj)}{σ:St}{H:Hp}{s:Shared}{a:Addr}{y:V}{u:Value}{A:Around}{E:Value→Shared→Prop}
end
section
variable{X:Cx}
end
section
variable{κ:Type}[DecidableEq κ]
end
section
variable{X:Cx}{tg:Expr}
theorem lY{bs:List Bool}:(List.range bs.length).all (fun i=>bs.getD i true)=bs.all id:=by
 rw[Ab,z4,z4];constructor
 ·intro h b hb;obtain⟨i,hi,rfl⟩:=A6.mp hb;have q:=h i (Ce.mpr hi);rw[List.getD_eq_getElem?_getD,zF hi]at q;exact q
 ·intro h i hi;have hi:=Ce.mp hi;have q:=h bs[i] (List.getElem_mem hi);rw[List.getD_eq_getElem?_getD,zF hi];exact q
theorem pR(hc:X.calm=true):aK X (.builtin "all") (fun xs H Q=>∃(p:Addr)(bs:List Bool),xs=[.ref p]∧SqL X.K H p (bs.map V.bl)∧Q (.bl (bs.all id)) H):=by
 intro Cr s σ H xs us Q I r h;obtain⟨p,bs,rfl,hq,q⟩:=h;obtain⟨u,rfl,ru⟩:=Xx r;cases ru;obtain⟨its,rv,pl,hz⟩:=I.list hq;have hl:=rv.length;rw[pi]at hl;have Cz:p<s.heap.objs.size:=by
  obtain⟨o,n,e,_⟩:=pl;exact yV e
 have hh:X.A.in1.handled=none:=by simpa using I.ok.hd hc
 refine call_all_walk (BR pl.isList ⟨s.heap.objs.size,_,_,_,_,_,fun i=>bs.getD i true,rfl,Walks.list hh _ p (y4 Cz) its.toArray,⟨⟨_,yY _ rfl,rfl,rfl⟩,pl.isList.push _⟩,fun i v s' Q' E' hv hQ=>?_,fun h' tk kp=>?_⟩)
 ·have hv':its[i]?=some v:=by simpa using hv
  have hi:i<bs.length:=by rw[hl];exact(yZ.mp hv').1
  obtain⟨u,hu,ru⟩:=rv.get (i:=i) (x:=.bl bs[i]) (by rw[zc,zF hi];rfl);rw[hv']at hu;cases hu;cases (show v=Value.bool bs[i]from ru);have e:bs.getD i true=bs[i]:=by rw[List.getD_eq_getElem?_getD,zF hi];rfl
  simp only[e]at hQ;exact Aw hQ
 ·have e:(List.range its.toArray.size).all (fun i=>bs.getD i true)=bs.all id:=by
   rw[zD,←hl];exact lY
  simp only[e];refine⟨.bl (bs.all id),H,I.kept fun b o eb=>kp b o ?_ (yJ _ eb),rfl,q⟩;intro hb;rw[yP.mp hb]at eb;exact absurd (yV eb) (Be _)
end
section
variable{X:Cx}
end
section
variable{X:Cx}{o e:Expr}{to te:TE}{lo hi:Option Expr}{tl th:TO}{pos p2:Pos}
end
section
open PySem.AutoSeq1 (wpAny_loadPart')
open PySem.MeetsSeq PySem.MeetsSeq2 PySem.MeetsSeq3
end
section
variable{X:Cx}
end
theorem Zr{H H1:Hp}{p:Addr}{o:HO}(h:upd H p o=H1)(n:H p=none):Same H H1:=h ▸ Z6 n o
theorem Y5{H H1:Hp}{p:Addr}{o:HO}(h:upd H p o=H1):H1 p=some o:=h ▸ Z4
inductive Kd(H:Hp):V→String→Prop
 |non:Kd H .non "NoneType"
 |bl (b:Bool):Kd H (.bl b) "bool"
 |int (i:Int):Kd H (.int i) "int"
 |str (z:Str):Kd H (.str z) "str"
 |lst {a:Addr} {xs:List V} (e:H a=some (.lst xs)):Kd H (.ref a) "list"
 |tup {a:Addr} {xs:List V} (e:H a=some (.tup xs)):Kd H (.ref a) "tuple"
 |dK {a:Addr} {kvs:List (Key×V)} (e:H a=some (.dK kvs)):Kd H (.ref a) "dict"
theorem Kd.ty{K:W.Frag}{H:Hp}{x:V}{T:String}(h:Kd H x T):TyOf K H x (.type T):=by
 cases h with
 |non=>exact .non
 |bl b=>exact .bl b
 |int i=>exact .int i
 |str z=>exact .str z
 |lst e=>exact .lst e
 |tup e=>exact .tup e
 |dK e=>exact .dK e
def kds:List String:=["NoneType","bool","int","str","list","tuple","dict"]
def kus:List String:=["int","bool","str","list","tuple"]
def qW(T U:String):Bool:=(T==U) || (T == "bool" && U == "int")
theorem sF:∀T∈kds,∀U∈kus,x8 T U=some (qW T U):=by decide +kernel
theorem Kd.mem{H:Hp}{x:V}{T:String}(h:Kd H x T):T∈kds:=by cases h <;> decide
theorem Kd.kit{K:W.Frag}{H:Hp}{x:V}{T U:String}{b:Bool}(h:Kd H x T)(hU:U∈kus)(e:qW T U=b):W.kitOne K (.type T) (.type U)=some b:=by
 subst e;exact j9 (sF T h.mem U hU)
def whV:V→Bool
 |.int _=>true
 |_=>false
def wF:V→Int→Bool
 |.int i,l=>decide (l≤i)
 |_,_=>false
theorem Kd.wh{H:Hp}{x:V}{T:String}(h:Kd H x T):(qW T "int" && !qW T "bool")=whV x:=by
 cases h <;> (first | rfl | (simp[qW,whV]))
theorem gA{H:Hp}{p:Addr}{xs:List V}{d:Int}(e:H p=some (.lst xs))(h0:0≤d)(h1:d<xs.length):∃v,atI xs d=some v∧v∈xs:=qu h0 h1
theorem sB{K:W.Frag}{H:Hp}{a c:Addr}{xs:List V}(h:am a H c=some (.tup xs)):SqT K H c xs:=SqT.of (Z7 h).2
theorem Xf{K:W.Frag}{H:Hp}{a c:Addr}{xs:List V}(h:am a H c=some (.lst xs)):SqL K H c xs:=SqL.of (Z7 h).2
section
variable{X:Cx}{x:Str}{p pos:Pos}{e:Expr}{es:List Expr}{kws:List Keyword}{ks:List Str}{t tk:TA}{id:String}{r:List V→List V→Hp→VK→Prop}
end
section
variable{prog:Program}{w:World}{A:Around}{E:Value→Shared→Prop}{s:Shared}{T:String}{r d:Addr}{n:Nat}{P:Nat→Value→Prop}{OK:Heap→Prop}
def uT(s:Shared)(P:Nat→Value→Prop)(n:Nat)(q:Result)(s':Shared):Prop:=
 ∃(g:Heap)(tk c:Nat)(xs:Array Value),q=.ok (.ret (.ref s.heap.objs.size))∧s'={s with heap:=g,toks:=tk}∧(∀b o,s.heap.get? b=some o→g.get? b=some o)∧g.get? s.heap.objs.size=some {cls:=.type "list",dict:=none,data:=.seq xs c,slots:=#[]}∧ItemsOf P xs n
theorem Ss{R:List Value→Shared→Prop}(K:W.KdlSrc prog w T r d n P OK)(hh:A.handled=none)(hok:OK s.heap)(hn:n≤sizeLine)(h:∀(g:Heap) (tk:Nat) (xs:Array Value),(∀b o,s.heap.get? b=some o→g.get? b=some o)→s.heap.objs.size<g.objs.size→ItemsOf P xs n→R xs.toList {s with heap:=g,toks:=tk}):wpAny (model prog w) A (collect (.ref r)) R E s:=by
 obtain⟨lt1,lt2⟩:=K.there _ hok;unfold collect;refine io (wpAny_runValue (Aj entry_proto_collect' ?_));rw[zY PySem.F.plain_proto_collect _];refine io (m:=newList []) (AH (yI ⟨Bg AN _,Aj entry_list_iadd' ?_⟩));rw[zY AN _];have own:(s.heap.push {cls:=.type "list",data:=.seq ([]:List Value).toArray}).get? s.heap.objs.size=some {cls:=.type "list",data:=.seq #[]}:=yY _ rfl;have run:=W.kdl_extend (A:=A) (s:={s with heap:=s.heap.push {cls:=.type "list",data:=.seq ([]:List Value).toArray}}) (R:=uT s P n) K hh (K.keep _ _ hok fun _ _ _ e=>yJ _ e) s.heap.objs.size (Ah lt1) (Ah lt2) (.ref s.heap.objs.size) 0 own
  (fun g tk xs c hk hS hx=>⟨g,tk,c,xs,rfl,rfl,fun b o e=>hk b o (y4 (yV e)) (yJ _ e),hS,hx⟩) hn
 refine Af run (fun fin s' y=>?_) (fun _ _ y=>by obtain⟨_,_,_,_,e,_⟩:=y;cases e);cases fin with
 |done f=>
  obtain⟨g,tk,c,xs,e,rfl,hk,hS,hx⟩:=y;cases e;exact io (m:=load s.heap.objs.size) (Cc hS (yI (h g tk xs hk (yV hS) hx)))
 |again c1=>
  refine⟨y.1,BZ y.2 fun q s2 z=>?_⟩;obtain⟨g,tk,c,xs,rfl,rfl,hk,hS,hx⟩:=z;exact io (m:=load s.heap.objs.size) (Cc hS (yI (h g tk xs hk (yV hS) hx)))
end
def cP(a d:Addr):HO:=.ext fun h=>h.IsValuesView a d
def bV(a d:Addr):HO:=.ext fun h=>h.IsItemsView a d
section
variable{X:Cx}{Cr:List (Addr×Obj)}{σ:St}{H:Hp}{s:Shared}
def xX(w:Addr→Addr→HO):V→List V→Hp→VK→Prop:=fun x vs H Q=>∃d kvs,x=.ref d∧vs=[]∧H d=some (.dK kvs)∧∀a,H a=none→Q (.ref a) (upd H a (w a d))
theorem mD:MtR X "dict.values" (xX cP):=by
 intro Cr s σ H x vs v us Q I rx rv h;obtain⟨d,kvs,rfl,rfl,hd,q⟩:=h;cases rx;cases rv;obtain⟨_,lo,ws,_,hD⟩:=jZ I.hok hd;refine B4 A4 hD.typeIs PySem.F.entry_dict_values (PySem.F.args_dict_values_1 _) (meets_dict_values (aa X.prog X.w) d lo) ⟨⟨ws,hD⟩,?_⟩;refine⟨.ref s.heap.objs.size,_,I.laid (t':=s.toks) (o:=cP s.heap.objs.size d) (fun b o e=>yJ _ e) (yM _) ?_,rfl,q _ (I.hok.fresh (yM _))⟩;exact⟨⟨_,yY _ rfl,rfl,rfl⟩,⟨_,yY _ rfl⟩,fun h1 h2 ⟨o,ho,r⟩ k=>⟨o,k o ho,r⟩⟩
theorem Rj:∀{kvs:List (Key×V)}{ws:List (Key×Value)},KV kvs ws→Vals (kvs.map (·.2)) (ws.map (·.2))
 |_,_,.nil=>.nil
 |_,_,.cons a r=>.cons a.2 (Rj r)
theorem mX{P:Program}{w:World}{k:Key}{u:Value}(h:(aa P w).is k u=true):RelV (kV k) u:=by
 rcases Y7 (show c9 k u=true from h) with⟨i,t,rfl,rfl⟩|⟨x,t,rfl,rfl⟩
 ·exact⟨t,rfl⟩
 ·exact⟨t,rfl⟩
def over(H:Hp)(n:Nat)(L:Hp):Hp:=fun b=>if b<n then H b else L b
theorem Q7{H L:Hp}{n:Nat}{b:Addr}(h:b<n):over H n L b=H b:=yL h
theorem eW{H L:Hp}{n:Nat}{b:Addr}(h:n≤b):over H n L b=L b:=yK (Nat.not_lt.mpr h)
theorem Inv.over{L:Hp}{g:Heap}{t':Nat}(I:Inv X Cr σ H s)(k:∀b u,s.heap.get? b=some u→g.get? b=some u)(new:∀b o,s.heap.objs.size≤b→L b=some o→ObjOk X.prog X.w (over H s.heap.objs.size L) g b o):
  Inv X Cr σ (L2.over H s.heap.objs.size L) {s with heap:=g,toks:=t'}∧Same H (L2.over H s.heap.objs.size L):=by
 have old:∀b o,H b=some o→L2.over H s.heap.objs.size L b=some o:=fun b o e=>by rw[Q7 (I.hok b o e).lt];exact e
 have fre:∀b u,s.heap.get? b=some u→H b=none→L2.over H s.heap.objs.size L b=none:=fun b u e n=>by rw[Q7 (yV e)];exact n
 refine⟨I.un ⟨fun b u e _ _ _=>k b u e,fun b u e _ _ _=>⟨u.slots,k b u e⟩,fun b u e n _=>fre b u e n,fun b u e _=>⟨u,k b u e⟩,fun b xs e=>old b _ e,fun b o u e=>old b _ e,fun b ps e=>⟨#[],by rw[old b _ e];simp⟩⟩ ?_,old⟩;intro b o e;by_cases hb:b<s.heap.objs.size
 ·rw[Q7 hb]at e;exact(I.hok b o e).stay (fun c u _ q=>k c u q) (fun c q=>old c _ q) fun c xs q=>old c _ q
 ·have hb:=Nat.not_lt.mp hb;rw[eW hb]at e;exact new b o hb e
theorem Pw:∀as:List Addr,Vals (as.map V.ref) (as.map Value.ref)
 | []=>.nil
 |_::as=>.cons rfl (Pw as)
def tRev(K:W.Frag)(te ts:TE):TE:=fun σ H Q=>te σ H fun x H1=>ts σ H1 fun y H2=>∃(a:Addr)(xs:List V),x=.ref a∧y=.int (-1)∧SqL K H2 a xs∧∀p,H2 p=none→Q (.ref p) (upd H2 p (.lst xs.reverse))
theorem vC{e st:Expr}{te ts:TE}{pos p2:Pos}(he:PE X e te)(hs:PE X st ts):PE X (.Subscript e (.Slice none none (some st) p2) pos) (tRev X.K te ts):=by
 intro Cr s σ H Q I h;refine Subscript_ (thn (he Cr s σ H _ I h) fun v s1 Cs=>?_);obtain⟨x,H1,I1,r1,q1⟩:=Cs;refine wpAny_Slice ?_;rw[evalPart_none];refine yI (yI ?_);rw[evalPart_some];refine thn (hs Cr s1 σ H1 _ I1 q1) fun vk s2 Cs=>?_;obtain⟨y,H2,I2,r2,q2⟩:=Cs;obtain⟨a,xs,rfl,rfl,hx,q⟩:=q2;cases r1;obtain⟨t,rfl⟩:=r2;have I4:Inv X Cr σ H2 {s2 with heap:=s2.heap.push {cls:=.type "slice",data:=.fields #[.none,.none,.int (-1) t]}}:=I2.kept (t':=s2.toks) fun b ob q=>yJ _ q;obtain⟨its,r,ht,hz⟩:=I4.list hx;have CK:=r.length;show wpAny (model X.prog X.w) X.A (subscriptTail e (.Slice none none (some st) p2) (.ref a) (.ref s2.heap.objs.size)) (EP X Cr σ Q) X.xe {s2 with heap:=s2.heap.push {cls:=.type "slice",data:=.fields #[.none,.none,.int (-1) t]}};refine tail_any (ops:=[.ref a,.ref s2.heap.objs.size]) ht.isList.typeIs slot_list_getitem.lookup ?_ (by with_unfolding_all rfl);refine wpAny_getItem_list_slice ht.isList (Heap.IsSliceOf.new ..) .none .none (.int (-1) t) (by decide) ?_ (by rw[zD];omega);rw[W.krv_pick];refine⟨.ref _,_,I4.laid (t':=s2.toks) (o:=.lst xs.reverse) (fun b ob q=>yJ _ q) (yM _) ?_,rfl,q _ (I4.hok.fresh (yM _))⟩;exact⟨by rw[List.length_reverse];exact hz,its.reverse,0,r.reverse,yY _ rfl⟩
end
section
variable{X:Cx}
end
def dh(ns:List Int):List Int:=ns.mergeSort fun a b=>decide (a≤b)
theorem V1(ns:List Int):(dh ns).Perm ns:=List.mergeSort_perm _ _
theorem jz(ns:List Int):(dh ns).Pairwise (·≤·):=by
 have h:=List.pairwise_mergeSort (le:=fun a b:Int=>decide (a≤b)) (by intro a b c h1 h2;simp at *;omega) (by intro a b;simp;omega) ns;exact h.imp fun h=>by simpa using h
theorem eE:∀{l m:List Int},l.Perm m→l.Pairwise (·≤·)→m.Pairwise (·≤·)→l=m
 | [],m,p,_,_=>List.Perm.nil_eq p
 |a::l,[],p,_,_=>absurd p.length_eq (by simp)
 |a::l,b::m,p,h1,h2=>by
  have e:a=b:=by
   rcases y8.mp (p.mem_iff.mp zL)with q | q
   ·exact q
   ·rcases y8.mp (p.mem_iff.mpr zL)with r | r
    ·exact r.symm
    ·have:=(zR.mp h1).1 b r;have:=(zR.mp h2).1 a q;omega
  subst e;rw[eE ((List.perm_cons a).mp p) (zR.mp h1).2 (zR.mp h2).2]
theorem jA{l ns:List Int}(p:l.Perm ns)(h:l.Pairwise (·≤·)):l=dh ns:=eE (p.trans (V1 ns).symm) h (jz ns)
section
variable{X:Cx}
end
theorem P7:typeLookup (.type "tuple") "keys"=pure none:=am_miss_of_fast (by decide +kernel)
theorem Sq:entryFor table "dict.update.loop"=some Builtin.«dict.update.loop»:=entryFor_of_tree (by kernel_rfl)
theorem Wn:plainId "dict.update.loop"=true:=by decide +kernel
theorem yD{a:Addr}{xs:Array Value}{k:Nat}{sl:Array (Option Value)}{Q:Option Value→Shared→Prop}(hx:s.heap.get? a=some {cls:=.type "tuple",dict:=none,data:=.seq xs k,slots:=sl})(hA:A.handled=none)(h:∀g tk,(∀b o,s.heap.get? b=some o→g.get? b=some o)→Q none {s with heap:=g,toks:=tk}):wpAny (model prog w) A (getAttr? (.ref a) "keys") Q E s:=by
 obtain⟨hp,g,d,tk,os⟩:=s;have hT:∀tk',(⟨hp,g,d,tk',os⟩:Shared).TypeIs (.ref a) "tuple":=fun _=>⟨_,hx,rfl⟩;have f1:=sub_AttributeError;have f3:=F.slot_tuple_getattribute.lookup;have f4:=F.slot_tuple_getattribute.bind (.ref a);have f5:=am_tuple_getattr_none;unfold getAttr? getAttrBy? getAttrBy
 repeat (any_goals (first | assumption | exact hT _ | ((with_reducible show wpAny _ _ (call (Value.builtin "tuple.__getattribute__") _ _) _ _ _);refine call_meets F.slot_tuple_getattribute (hT _) am_entry_tuple_getattribute (F.args_tuple_getattribute_2 _ _) (meets_getattribute_miss_tuple a xs k sl "keys" _ P7 (by decide +kernel) (by decide +kernel)) ⟨hx,by simpa using hA,fun h' tk' e hx'=>?_⟩) | wp_step))
 obtain⟨t',u',he⟩:=hx'.there;show wpAny _ _ (getattributeRaised _ _ _ _ _ _ _) _ _ _;unfold getattributeRaised
 repeat (any_goals (first | assumption | wp_step))
 exact h _ _ hx'.keeps
section
variable{X:Cx}{Cr:List (Addr×Obj)}{σ:St}{H:Hp}{s:Shared}
end
theorem Vx{l m:List Int}(p:l.Perm m):l.sum=m.sum:=by
 induction p with
 |nil=>rfl
 |cons x _ ih=>rw[zo,zo,ih]
 |swap x y l=>simp only[List.sum_cons];omega
 |trans _ _ a b=>exact a.trans b
section
variable{X:Cx}
end
end L2
namespace L2
open PySem PySem.Spec PyProof.Rows
def Cx.ren(X:Cx)(N':List Str):Cx:={X with N:=N'}
theorem Cx.Ok.ren{X:Cx}{N':List Str}(o:X.Ok):(X.ren N').Ok:=⟨o.mod,o.kind,o.glob,o.blt,o.above,o.inj,o.has,o.cab,o.hd,o.frames,o.stk,o.exf,o.bs,o.bsz,o.noex,o.exfs,o.funs,o.frf⟩
theorem Cx.Ok.unren{X:Cx}{N':List Str}(o:(X.ren N').Ok):X.Ok:=⟨o.mod,o.kind,o.glob,o.blt,o.above,o.inj,o.has,o.cab,o.hd,o.frames,o.stk,o.exf,o.bs,o.bsz,o.noex,o.exfs,o.funs,o.frf⟩
def Hid:List Str→List Str→St→Prop
 | [],[],[]=>True
 |a::N,b::N',o::σ=>(a=b∨o=none)∧Hid N N' σ
 |_,_,_=>False
theorem Hid.at:∀{N N':List Str}{σ:St},Hid N N' σ→∀i:Nat,N[i]?=N'[i]?∨σ[i]?=some none
 | [],[],[],_,i=>.inl rfl
 |a::N,b::N',o::σ,h,0=>by
  rcases h.1 with q | q
  ·exact .inl (by rw[q];rfl)
  ·exact .inr (by rw[q];rfl)
 |a::N,b::N',o::σ,h,i+1=>by
  simpa using Hid.at (N:=N) (N':=N') (σ:=σ) h.2 i
section
variable{X:Cx}{N':List Str}{Cr:List (Addr×Obj)}{σ:St}{H:Hp}{s:Shared}
theorem Inv.ren(I:Inv X Cr σ H s)(hl:N'.length=X.N.length)(h:Hid X.N N' σ):Inv (X.ren N') Cr σ H s:=by
 refine⟨I.ok.ren,I.os,I.bare,I.base,?_,I.cell,I.free,I.freeC,I.pin,I.hok,I.len.trans hl.symm⟩;obtain⟨m,hn,hm⟩:=I.loc;refine⟨m,hn,fun i x v e1 e2 e3=>hm i x v ?_ e2 e3⟩
 rcases h.at i with q | q
 ·exact q.trans e1
 ·rw[e2]at q;cases q
theorem Inv.unren(I:Inv (X.ren N') Cr σ H s)(hl:N'.length=X.N.length)(h:Hid X.N N' σ):Inv X Cr σ H s:=by
 refine⟨I.ok.unren,I.os,I.bare,I.base,?_,I.cell,I.free,I.freeC,I.pin,I.hok,I.len.trans hl⟩;obtain⟨m,hn,hm⟩:=I.loc;refine⟨m,hn,fun i x v e1 e2 e3=>hm i x v ?_ e2 e3⟩
 rcases h.at i with q | q
 ·exact q.symm.trans e1
 ·rw[e2]at q;cases q
def tRen(N N':List Str)(t:TE):TE:=fun σ H Q=>Hid N N' σ∧t σ H Q
theorem nR{e:Expr}{t:TE}(N':List Str)(h:PE (X.ren N') e t)(hl:N'.length=X.N.length:=by rfl):PE X e (tRen X.N N' t):=by
 intro Cr s σ H Q I q;exact thn (h Cr s σ H Q (I.ren hl q.1) q.2) fun u s1 ⟨x,H1,I1,r1,q1⟩=>⟨x,H1,I1.unren hl q.1,r1,q1⟩
theorem Inv.forget(I:Inv X Cr σ H s)(i:Nat):Inv X Cr (σ.set i none) H s:=by
 refine⟨I.ok,I.os,I.bare,I.base,?_,I.cell,I.free,I.freeC,I.pin,I.hok,by rw[List.length_set];exact I.len⟩;obtain⟨m,hn,hm⟩:=I.loc;refine⟨m,hn,fun j x v e1 e2 e3=>hm j x v e1 ?_ e3⟩;by_cases e:i=j
 ·subst e;rw[List.getElem?_set_self']at e2;cases q:σ[i]? with
  |none=>rw[q]at e2;cases e2
  |some o=>rw[q]at e2;cases e2
 ·rw[List.getElem?_set_ne e]at e2;exact e2
def tI(i:Nat)(t:TS):TS:=fun D σ H=>t D (σ.set i none) H
theorem T4{ss:List Stmt}{t:TS}(i:Nat)(h:PSs X ss t):PSs X ss (tI i t):=by
 intro Cr s σ H D I q;exact h Cr s _ H D (I.forget i) q
end
theorem Yx{t u:TS}{D:Ends}{σ:St}{H:Hp}(R:St→Hp→Prop)(main:∀nx:St→Hp→Prop,(∀σ' H',R σ' H'→nx σ' H')→t {D with nx:=nx} σ H)(fin:∀σ' H',R σ' H'→u D σ' H'):xx t u D σ H:=main _ fin
section
variable{M:Model}{A:Around}{E:Value→Shared→Prop}{s:Shared}{env:Env}{outer l:List Env}{L e:Addr}{base:Heap}{cls a0 fl:Value}{Q:Unit→Shared→Prop}
end
section
variable{M:Model}{A:Around}{E:Value→Shared→Prop}{s:Shared}{env:Env}{outer:List Env}{L a T:Addr}{cls:Value}{Q:Unit→Shared→Prop}
end
section
variable{P:Program}{w:World}{K:W.Frag}{mg:Str→Option Value}{base:Heap}{N:List Str}{qual:Str}{scope:Scope}{f:Addr}{cd:Value}{A:Around}{outer:List Env}{s:Shared}{H:Hp}{E:XK}
end
section
variable{P:Program}{w:World}{K:W.Frag}{mg:Str→Option Value}{base:Heap}{N:List Str}{qual:Str}{scope:Scope}{f:Addr}{cd:Value}{A:Around}{outer:List Env}{s:Shared}{H:Hp}{E:XK}
variable{j k:Nat}{ps:List Str}{sp:Sp}{x:Str}{p pos:Pos}{e:Expr}{es:List Expr}{t:TA}
end
section
variable{prog:Program}{w:World}{A:Around}{E:Value→Shared→Prop}{h:Heap}{g:Array GenState}{d:Drawn}{t:Nat}{os:OsState}{a C:Addr}{o:Obj}{K:W.Frag}
end
section
variable{X:Cx}{Cr:List (Addr×Obj)}{σ:St}{H:Hp}{s:Shared}
end
section
variable{X:Cx}{x c n:Str}{p pos cpos epos np hpos:Pos}{e:Expr}{es:List Expr}{ta:TA}{tb:TS}{b₀:Stmt}{suite:List Stmt}{j k i:Nat}{ps:List Str}{sp:Sp}{S:Addr}
end
end L2
namespace L2
open PySem PySem.Spec PyProof.Rows
section
variable{P:Program}{w:World}{K:W.Frag}{mg:Str→Option Value}{base:Heap}{CX:CXT}{k:Nat}{f:Addr}{fd:FuncData}{ps:List Str}{sp sp':Sp}
end
section
variable{X:Cx}{k i:Nat}{x:Str}{p pos:Pos}{e:Expr}{es:List Expr}{t:TA}
end
end L2
namespace L2
open PySem PySem.Spec PyProof.Rows
section
variable{X:Cx}{params:Arguments}{body:Expr}{sc:Scope}{pos:Pos}{c T:Addr}
end
section
variable{X:Cx}{j k:Nat}{ps:List Str}{sp:Heap→Sp}{x:Str}{p pos:Pos}{e:Expr}{es:List Expr}{t:TA}
end
end L2
namespace L2
open PySem PySem.Spec PyProof.Rows
section
variable{X:Cx}{Cr:List (Addr×Obj)}{σ:St}{H:Hp}{s:Shared}{h':Heap}
theorem Inv.zipped{t':Nat}{ch:List Addr}{T:Addr}{o:HO}(I:Inv X Cr σ H s)(k:∀b o,b∉ch→s.heap.get? b=some o→h'.get? b=some o)(hc:∀b∈ch,ck X Cr H b)(hT:s.heap.objs.size≤T)(new:ObjOk X.prog X.w (upd H T o) h' T o):Inv X Cr σ (upd H T o) {s with heap:=h',toks:=t'}:=by
 have hn:=I.hok.fresh hT;have nit:∀b u,H b=some u→b∉ch:=fun b u e z=>by rw[(hc b z).1]at e;cases e
 have up:∀{b:Addr}{u:HO},H b=some u→upd H T o b=some u:=fun{b u} e=>by rw[Zb (Zi e hn)];exact e
 refine I.step (g':=s.gens) (d':=s.drawn) (ch:=ch) (fun b hb=>?_) (fun b o _ _ hc e _=>k b o hc e) (fun b o _ _ hc e _=>⟨o.slots,k b o hc e⟩) (fun b o' _ e n=>?_) (fun b o hc e=>⟨o,k b o hc e⟩) (fun _ _ e=>up e) (fun _ _ _ e=>up e) (fun b ps e=>⟨#[],by rw[up e];simp⟩) (fun m hm=>?_) (fun b u e=>?_) I.bare
 ·obtain⟨f0,f1,f2,f3,f4,f5⟩:=hc b hb;exact⟨f3,f1,f4,f5⟩
 ·rw[Zb (y4 (zH (yV e) hT))];exact n
 ·obtain⟨o,es,ep,ho,r⟩:=hm;exact⟨o,es,ep,k _ o (fun z=>(hc _ z).2.1 rfl) ho,r⟩
 ·by_cases hb:b=T
  ·subst hb;rw[Z4]at e;cases e;exact new
  ·rw[Zb hb]at e;refine(I.hok b u e).stay (fun c v hc q=>k c v ?_ q) (fun _ q=>up q) fun _ _ q=>up q
   rcases hc with z | z
   ·rw[z];exact nit b u e
   ·exact nit c _ z
end
theorem kf{X:Cx}:OpR X (compareOp .IsNot) (fun x y H Q=>∃k:Bool,x=.bl k∧y=.bl true∧Q (.bl (!k)) H):=by
 intro Cr s σ H x y v u Q I rx ry h;obtain⟨k,rfl,rfl,q⟩:=h;cases rx;cases ry;exact wpAny_isNot_plain (by cases k <;> rfl) (Zt I q (by cases k <;> rfl))
def sRen(N N':List Str)(t:TS):TS:=fun D σ H=>Hid N N' σ∧t {nx:=fun σ' H'=>Hid N N' σ'∧D.nx σ' H',rt:=fun _ _=>False} σ H
theorem wL{X:Cx}{st:Stmt}{t:TS}(N':List Str)(h:PS (X.ren N') st t)(hl:N'.length=X.N.length:=by rfl):PS X st (sRen X.N N' t):=by
 intro Cr s σ H D I q;refine thn (h Cr s σ H _ (I.ren hl q.1) q.2) fun f s1 hf=>?_;cases f with
 |next=>
  obtain⟨σ',H',I',q1,q2⟩:=hf;exact⟨σ',H',I'.unren hl q1,q2⟩
 |brk=>
  obtain⟨σ',H',I',q1⟩:=hf;exact q1.elim
 |cont=>
  obtain⟨σ',H',I',q1⟩:=hf;exact q1.elim
 |ret u=>
  obtain⟨v,σ',H',I',r,q1⟩:=hf;exact q1.elim
def dF(l:Addr)(items:Array Value)(n:Nat)(x:Int)(y:Value):PySem.Spec:=fun _ R s=>s.heap.get? l=some {cls:=.type "list",dict:=none,data:=.seq items n,slots:=#[]}∧R (.ok (.ret Value.none)) {s with heap:=s.heap.update l (Obj.mapSeq fun xs=>have k:=if x<0 then(x+(xs.size:Int)).toNat else min x.toNat xs.size;(xs.extract 0 k).push y++xs.extract k),toks:=s.toks}
theorem insM(l:Addr)(items:Array Value)(n:Nat)(x:Int)(u:Tok)(y:Value)(hc0:¬(!Builtin.List.listFitsIndex x)=true)(hs1:items.size≤sizeLine):Meets (Builtin.«list.insert» ⟨[.ref l,.int x u,y],[]⟩) (dF l items n x y):=@AutoSeq1.list_insert_list_int_val_1 l items n x u y hc0 hs1
theorem insC{prog:Program}{w:World}{A:Around}{E:Value→Shared→Prop}{s:Shared}{Q:Value→Shared→Prop}(l:Addr)(items:Array Value)(n:Nat)(x:Int)(u:Tok)(y:Value)(hc0:¬(!Builtin.List.listFitsIndex x)=true)(hs1:items.size≤sizeLine)(e:s.heap.get? l=some {cls:=.type "list",dict:=none,data:=.seq items n,slots:=#[]})(h:dF l items n x y A (wants Q E) s):wpAny (model prog w) A (call (Value.builtin "list.insert") [.ref l,.int x u,y]) Q E s:=
 @call_meets prog w A E s "list" _ "list.insert" _ (.ref l) [.int x u,y] (dF l items n x y) Q F.slot_list_insert ⟨_,e,rfl⟩ F.entry_list_insert (F.args_list_insert_3 _ _ _) (insM l items n x u y hc0 hs1) h
section
variable{X:Cx}
def tO:V→List V→Hp→VK→Prop:=fun x vs H Q=>∃(l:Addr)(xs:List V)(i:Nat)(y:V),x=.ref l∧vs=[.int i,y]∧H l=some (.lst xs)∧i≤xs.length∧xs.length<sizeLine∧i<1000000∧Q .non (upd H l (.lst (xs.take i++y::xs.drop i)))
theorem Pj:∀{xs:List V}{us:List Value}(n:Nat),Vals xs us→Vals (xs.take n) (us.take n)
 |_,_,0,_=>.nil
 |_,_,_+1,.nil=>.nil
 |_,_,n+1,.cons a r=>.cons a (Pj n r)
theorem Pk:∀{xs:List V}{us:List Value}(n:Nat),Vals xs us→Vals (xs.drop n) (us.drop n)
 |_,_,0,h=>h
 |_,_,_+1,.nil=>.nil
 |_,_,n+1,.cons a r=>Pk n r
theorem mV:MtM X "list.insert" tO:=by
 intro Cr s σ H x vs v us Q I rx rv h;obtain⟨l,xs,i,y,rfl,rfl,hH,hi,hz,hs,q⟩:=h;cases rx;obtain⟨u1,u,rfl,r1,r2⟩:∃u1 u2,us=[u1,u2]∧RelV (.int i) u1∧RelV y u2:=by
  cases rv with
  |cons r1 rv=>
   cases rv with
   |cons r2 rv=>
    cases rv;exact⟨_,_,rfl,r1,r2⟩
 obtain⟨t,rfl⟩:=r1;obtain⟨z,its,n,r,hl,e⟩:=I.lstM hH;have hc0:¬(!Builtin.List.listFitsIndex ((i:Nat):Int))=true:=by
  rw[fitsIndex_both (by omega) (by omega)];exact yT
 have hsz:its.toArray.size≤sizeLine:=by rw[zD];omega
 refine insC l its.toArray n ((i:Nat):Int) t u hc0 hsz e ⟨e,?_⟩;refine⟨.non,_,I.lset (its':=its.take i++u::its.drop i) hH e ?_ ((Pj i r).append (.cons r2 (Pk i r))) ?_,rfl,q⟩
 ·have hk:(if (i:Int)<0 then((i:Int)+(its.toArray.size:Int)).toNat else min (i:Int).toNat its.toArray.size)=i:=by
   rw[yK (by omega),zD,Int.toNat_natCast];omega
  show(its.toArray.extract 0 (if (i:Int)<0 then((i:Int)+(its.toArray.size:Int)).toNat else min (i:Int).toNat its.toArray.size)).push u++its.toArray.extract (if (i:Int)<0 then((i:Int)+(its.toArray.size:Int)).toNat else min (i:Int).toNat its.toArray.size)=_;rw[hk];simp;exact Ac (by rw[AB];exact yM _)
 ·rw[yR,zu,zw,AB];omega
end
theorem jX{K:W.Frag}{H H':Hp}{a:Addr}{xs:List V}(s:Same H H')(h:SqL K H a xs):SqL K H' a xs:=by
 rcases h with h | h
 ·rcases h with h | ⟨o,h⟩
  ·exact .inl (.inl (s _ _ h))
  ·exact .inl (.inr ⟨o,s _ _ h⟩)
 ·exact .inr h
structure Pn(K:W.Frag)(S:Addr)(ns:List Int)(H:Hp)(a:Addr):Prop where
 at_:∃i r:Int,H a=some (.lst [.ref S,.int i,.int r])
 scr:SqL K H S (ns.map V.int)
 few:ns.length≤63
section
variable{K:W.Frag}{S:Addr}{ns:List Int}{H H':Hp}{a p:Addr}
theorem Pn.same(h:Pn K S ns H a)(g:Same H H'):Pn K S ns H' a:=by
 obtain⟨⟨i,r,e⟩,s,f⟩:=h;exact⟨⟨i,r,g _ _ e⟩,jX g s,f⟩
theorem Pn.laid{o:HO}(h:Pn K S ns H a)(hp:H p=none):Pn K S ns (upd H p o) a:=h.same (Z6 hp o)
theorem Pn.ne(h:Pn K S ns H a)(hp:H p=none):p≠a:=by
 obtain⟨⟨i,r,e⟩,_⟩:=h;exact fun q=>by rw[q,e]at hp;cases hp
theorem Pn.grw(h:Pn K S ns H a)(g:Same H H'):Grw a H H':=by
 obtain⟨⟨i,r,e⟩,_⟩:=h;exact U2 e g
theorem Pn.upd(h:Pn K S ns H a)(i r:Int):Pn K S ns (upd H a (.lst [.ref S,.int i,.int r])) a:=by
 obtain⟨⟨i0,r0,e⟩,s,f⟩:=h;refine⟨⟨i,r,Z4⟩,?_,f⟩
 rcases s with(s | ⟨o,s⟩) | s
 ·refine .inl (.inl ?_);rw[Zb ?_]
  ·exact s
  ·intro z;rw[z,e]at s;cases ns with
   |nil=>cases s
   |cons n ns=>cases s
 ·refine .inl (.inr ⟨o,?_⟩);rw[Zb ?_]
  ·exact s
  ·intro z;rw[z,e]at s;cases s
 ·exact .inr s
theorem Zl{H1:Hp}{o:HO}(h:L2.upd H p o=H1)(n:H p=none)(hp:Pn K S ns H a):Pn K S ns H1 a∧Grw a H H1∧p≠a∧am a H1 p=some o:=by
 subst h;exact⟨hp.laid n,qP n,hp.ne n,by rw[Zh (hp.ne n)];exact Z4⟩
theorem Pn.tup{xs:List V}(h:Pn K S ns H a)(e:H p=some (.tup xs)):am a H p=some (.tup xs):=by
 obtain⟨⟨i,r,e0⟩,_⟩:=h;rw[Zh (fun z=>by rw[z,e0]at e;cases e)];exact e
end
abbrev Ris(ps:Array Nat):Prop:=ps.toList.Pairwise (·<·)
theorem Tj{ps:Array Nat}(h:Ris ps){i k:Nat}(hik:i<k)(hk:k<ps.size):ps[i]'(by omega)<ps[k]:=by
 have:=AW.mp h i k (by rw[yU];omega) (by rw[yU];exact hk) hik;simpa using this
structure Cut(ps:Array Nat)(j b:Nat):Prop where
 le:b≤ps.size
 lo:∀i (h:i<ps.size),i<b→ps[i]<j
 hi:∀i (h:i<ps.size),b≤i→j≤ps[i]
theorem gY{ps:Array Nat}{j:Nat}(h:Ris ps):∀(fuel lo hi:Nat),hi≤ps.size→lo≤hi→hi-lo≤fuel→(∀i (q:i<ps.size),i<lo→ps[i]<j)→(∀i (q:i<ps.size),hi≤i→j≤ps[i])→Cut ps j (SetTable.below.go ps j fuel lo hi)
 | 0,lo,hi,h1,h2,h3,h4,h5=>by
  have e:lo=hi:=by omega
  subst e;exact⟨h1,h4,h5⟩
 |fuel+1,lo,hi,h1,h2,h3,h4,h5=>by
  show Cut ps j (if lo<hi then if ps.getD ((lo+hi) / 2) j<j then SetTable.below.go ps j fuel ((lo+hi) / 2+1) hi else SetTable.below.go ps j fuel lo ((lo+hi) / 2)else lo);by_cases c:lo<hi
  ·rw[yL c];have hm:(lo+hi) / 2<ps.size:=by omega
   have eg:ps.getD ((lo+hi) / 2) j=ps[(lo+hi) / 2]:=by
    simp[Array.getD,hm]
   rw[eg];by_cases d:ps[(lo+hi) / 2]<j
   ·rw[yL d];refine gY h fuel _ _ h1 (by omega) (by omega) (fun i q hi2=>?_) h5;by_cases e:i=(lo+hi) / 2
    ·subst e;exact d
    ·exact A3 (Tj h (i:=i) (k:=(lo+hi) / 2) (by omega) hm) d
   ·rw[yK d];refine gY h fuel _ _ (by omega) (by omega) (by omega) h4 (fun i q hi2=>?_);by_cases e:i=(lo+hi) / 2
    ·subst e;omega
    ·have:=Tj h (i:=(lo+hi) / 2) (k:=i) (by omega) q;omega
  ·rw[yK c];have e:lo=hi:=by omega
   subst e;exact⟨h1,h4,h5⟩
theorem Si{ps:Array Nat}(h:Ris ps)(j:Nat):Cut ps j (SetTable.below ps j):=
 gY h ps.size 0 ps.size (yM _) (Aa _) (by omega) (fun i q z=>by omega) (fun i q z=>by omega)
theorem sV{ps:Array Nat}{j b:Nat}(h:Ris ps)(c:Cut ps j b)(hm:j∈ps.toList):ps[b]?=some j:=by
 obtain⟨k,hk,e⟩:=A6.mp hm;rw[yU]at hk;have e:ps[k]=j:=by simpa using e
 have kb:b≤k:=by
  by_cases q:k<b
  ·have:=c.lo k hk q;omega
  ·omega
 have bk:b=k:=by
  by_cases q:b=k
  ·exact q
  ·have h1:=Tj h (i:=b) (k:=k) (by omega) hk;have h2:=c.hi b (by omega) (yM _);omega
 subst bk;rw[yN hk,e]
theorem ic{t:SetTable}(h:Ris t.place){j:Nat}(e:t.slot j=.empty):j∉t.place.toList:=fun hm=>by
 have q:=sV h (Si h j) hm;have e:(if (t.place[SetTable.below t.place j]? == some j)=true then SetTable.Slot.live (SetTable.below t.place j)else if SetTable.has t.dummies j=true then SetTable.Slot.dummy else SetTable.Slot.empty)=SetTable.Slot.empty:=e;rw[q]at e;simp at e
theorem Ox{t:SetTable}(hd:t.dummies=#[])(j:Nat):t.slot j≠.dummy:=by
 unfold SetTable.slot;have:SetTable.has t.dummies j=false:=by
  rw[hd];unfold SetTable.has;rfl
 rw[this];intro e;by_cases c:(t.place[SetTable.below t.place j]? == some j)=true
 ·simp[c]at e
 ·simp[c]at e
theorem lI(t:SetTable)(p:SetTable.Probe)(h:p.dummy=none):(t.advance p).dummy=none:=by
 unfold SetTable.advance;by_cases c:p.more > 0
 ·rw[yL c];exact h
 ·rw[yK c];exact h
theorem Sj{t:SetTable}(hd:t.dummies=#[]){hashAt:Nat→Int}{h:Int}:∀(fuel:Nat)(p:SetTable.Probe),p.dummy=none→∀{j d},SetTable.probe.go t hashAt h fuel p=some (.empty j d)→d=none∧t.slot j=.empty
 | 0,p,hp,j,d,e=>by cases e
 |fuel+1,p,hp,j,d,e=>by
  have e:(match t.slot p.j with
   |.empty=>some (SetTable.Met.empty p.j p.dummy)
   |.dummy=>SetTable.probe.go t hashAt h fuel (t.advance {p with dummy:=some p.j})
   |.live i=>if (hashAt i==h)=true then some (SetTable.Met.candidate p.j i (t.advance p))else SetTable.probe.go t hashAt h fuel (t.advance p))=some (.empty j d):=e
  cases q:t.slot p.j with
  |empty=>
   rw[q]at e;cases e;exact⟨hp,q⟩
  |dummy=>exact absurd q (Ox hd _)
  |live i=>
   rw[q]at e;by_cases c:(hashAt i==h)=true
   ·simp[c]at e
   ·simp[c]at e;exact Sj hd fuel _ (lI t p hp) e
theorem mw{t:SetTable}(hr:Ris t.place)(hd:t.dummies=#[]){h:Int}{j:Nat}{d:Bool}(e:t.freeSlot h=some (j,d)):d=false∧j∉t.place.toList:=by
 unfold SetTable.freeSlot at e;generalize q:t.probe (fun _=>h+1) h (t.probeStart h)=r at e
 match r with
 |none=>cases e
 |some (.candidate _ _ _)=>cases e
 |some (.empty j' d')=>
  obtain⟨e1,e2⟩:=Sj hd _ _ (show(t.probeStart h).dummy=none from rfl) q;subst e1;cases e;exact⟨rfl,ic hr e2⟩
theorem P9{α:Type}(xs:Array α)(p:Nat)(x:α)(hp:p≤xs.size):(SetTable.insertAt xs p x).toList=xs.toList.take p++x::xs.toList.drop p:=by
 unfold SetTable.insertAt;simp[Array.toList_append,Array.toList_extract,List.extract_eq_drop_take];rw[List.take_of_length_le (by simp)]
theorem g0{ps:Array Nat}(h:Ris ps){j:Nat}(hn:j∉ps.toList):Ris (SetTable.insertAt ps (SetTable.below ps j) j):=by
 have c:=Si h j;show(SetTable.insertAt ps (SetTable.below ps j) j).toList.Pairwise (·<·);rw[P9 _ _ _ c.le,zM];refine⟨h.sublist (Bq _ _),zR.mpr ⟨fun y hy=>?_,h.sublist (BS _ _)⟩,fun y hy z hz=>?_⟩
 ·obtain⟨k,hk,rfl⟩:=A6.mp hy;rw[AB,yU]at hk;rw[List.getElem_drop];have:=c.hi (SetTable.below ps j+k) (by omega) (by omega);have ne:ps[SetTable.below ps j+k]'(by omega)≠j:=fun q=>hn (by
   rw[←q];exact Array.getElem_mem_toList _)
  have e:ps.toList[SetTable.below ps j+k]'(by rw[Array.length_toList];omega)=ps[SetTable.below ps j+k]'(by omega):=by simp
  rw[e];omega
 ·obtain⟨k,hk,rfl⟩:=A6.mp hy;rw[zu,yU]at hk;rw[List.getElem_take];have e:ps.toList[k]'(by rw[Array.length_toList];omega)=ps[k]'(by omega):=by simp
  rw[e];have l1:=c.lo k (by omega) (by omega)
  rcases y8.mp hz with rfl | hz
  ·exact l1
  ·obtain⟨k2,hk2,rfl⟩:=A6.mp hz;rw[AB,yU]at hk2;rw[List.getElem_drop];have:=c.hi (SetTable.below ps j+k2) (by omega) (by omega);have e2:ps.toList[SetTable.below ps j+k2]'(by rw[Array.length_toList];omega)=ps[SetTable.below ps j+k2]'(by omega):=by simp
   rw[e2];omega
theorem lW(n:Nat):Ris (Array.range n):=by
 show(Array.range n).toList.Pairwise (·<·);rw[Array.toList_range];exact List.pairwise_lt_range
theorem Tk{f:Nat→Option (Nat×Nat)}(hf:∀j x,f j=some x→x.1=j):∀(l:List Nat),l.Pairwise (·<·)→((l.filterMap f).map (·.1)).Pairwise (·<·)
 | [],_=>List.Pairwise.nil
 |a::l,h=>by
  obtain⟨h1,h2⟩:=zR.mp h;have ih:=Tk hf l h2;rw[Bz];cases q:f a with
  |none=>exact ih
  |some x=>
   show(x.1::(l.filterMap f).map (·.1)).Pairwise (·<·);refine zR.mpr ⟨fun y hy=>?_,ih⟩;obtain⟨z,hz,rfl⟩:=yO.mp hy;obtain⟨k,hk,e⟩:=List.mem_filterMap.mp hz;rw[hf a x q,hf k z e];exact h1 k hk
structure Gd(t:SetTable)(b:Bool):Prop where
 ris:Ris t.place
 dum:t.dummies=#[]
 led:t.led=b
theorem Vp{t:SetTable}{b:Bool}(h:Gd t b)(n:Nat):Gd (t.standIn n) b:=⟨lW n,rfl,h.led⟩
theorem rZ{mask finger moves:Nat}{led plain:Bool}{hashes:Array Int}{t:SetTable}{o:Array Nat}(e:SetTable.laid mask finger moves led plain hashes=some (t,o)):Gd t led:=by
 unfold SetTable.laid at e;obtain⟨owner,_,e⟩:=Option.bind_eq_some_iff.mp e;cases e;refine⟨?_,rfl,rfl⟩;refine Tk (f:=fun j=>Option.map (fun x=>(j,x)) (owner.getD j none)) (fun j x h=>?_) (List.range (mask+1)) List.pairwise_lt_range;obtain⟨y,_,rfl⟩:=zV.mp h;rfl
theorem lF{t:SetTable}{b:Bool}{es:Array (Int×Value)}{h:Int}{x:Value}(g:Gd t b):Gd (layNew t es h x).2.1 b∧(layNew t es h x).2.1.fits (layNew t es h x).1.size=true:=by
 unfold layNew;generalize q:t.freeSlot h=r
 match r with
 |none=>
  refine⟨Vp g _,?_⟩;show(t.standIn (es.size+1)).fits (es.push (h,x)).size=true;rw[AK];exact SetTable.standIn_fits _ _
 |some (slot,d)=>
  obtain⟨_,hn⟩:=mw g.ris g.dum q;refine⟨?_,SetTable.orStandIn_fits _ _⟩;show Gd ((t.put slot).1.orStandIn _) b;unfold SetTable.orStandIn;have gp:Gd (t.put slot).1 b:=by
   refine⟨g0 g.ris hn,?_,g.led⟩;show(if SetTable.has t.dummies slot=true then _ else t.dummies)=#[];have:SetTable.has t.dummies slot=false:=by
    rw[g.dum];rfl
   rw[this];exact g.dum
  split
  ·exact gp
  ·exact Vp gp _
theorem eI{t:SetTable}{b:Bool}{es:Array (Int×Value)}{n:Nat}(g:Gd t b):Gd (relayAll t es n).2.1 b∧(relayAll t es n).2.1.fits (relayAll t es n).1.size=true:=by
 unfold relayAll;generalize q:t.relaid (Array.map (fun x=>x.fst) es) n=r
 match r with
 |none=>exact⟨Vp g _,SetTable.standIn_fits _ _⟩
 |some (t',o)=>
  have gl:=rZ q;rw[g.led]at gl;have key:∀r:Array (Int×Value)×SetTable×Bool,r=(if (coversAll o es.size && t'.fits (Array.filterMap (fun x=>es[x]?) o).size)=true then(Array.filterMap (fun x=>es[x]?) o,t',false) else(es,t.standIn es.size,true))→Gd r.2.1 b∧r.2.1.fits r.1.size=true:=by
   rintro r rfl;by_cases c:(coversAll o es.size && t'.fits (Array.filterMap (fun x=>es[x]?) o).size)=true
   ·rw[yL c];rw[zW]at c;exact⟨gl,c.2⟩
   ·rw[yK c];exact⟨Vp g _,SetTable.standIn_fits _ _⟩
  exact key _ rfl
theorem ow{t:SetTable}{b p:Bool}(g:Gd t b):Gd {t with plain:=p} b:=⟨g.ris,g.dum,g.led⟩
instance decMemKey (k:Key) (ks:List Key):Decidable (k∈ks):=@List.instDecidableMemOfLawfulBEq Key instBEqOfDecidableEq inferInstance k ks
def jd(P:Program)(w:World)(e:Int×Value)(k:Key):Prop:=(aa P w).is k e.2=true∧e.1=(aa P w).hash k∧e.2.scannable=true
def b9(P:Program)(w:World)(h:Heap)(a:Addr)(ks:List Key):Prop:=
 ∃o es ep t,h.get? a=some o∧o.ExactSet∧o.data=.set es ep t∧(∃fs,es.toList.Perm fs∧Paired (jd P w) fs ks)∧t.fits es.size=true∧Gd t (!w.params.followText "set-order")∧ks.Nodup
theorem Paired.mem1{α β:Type}{F:α→β→Prop}:∀{xs:List α}{ys:List β},Paired F xs ys→∀x∈xs,∃y∈ys,F x y
 |_,_,.nil,_,h=>nomatch h
 |_,_,.cons f r,x,h=>by
  rcases y8.mp h with rfl | h
  ·exact⟨_,.head _,f⟩
  ·obtain⟨y,hy,q⟩:=Paired.mem1 r x h;exact⟨y,.tail _ hy,q⟩
theorem Paired.mem2{α β:Type}{F:α→β→Prop}:∀{xs:List α}{ys:List β},Paired F xs ys→∀y∈ys,∃x∈xs,F x y
 |_,_,.nil,_,h=>nomatch h
 |_,_,.cons f r,y,h=>by
  rcases y8.mp h with rfl | h
  ·exact⟨_,.head _,f⟩
  ·obtain⟨x,hx,q⟩:=Paired.mem2 r y h;exact⟨x,.tail _ hx,q⟩
theorem Paired.snoc{α β:Type}{F:α→β→Prop}{x:α}{y:β}(f:F x y):∀{xs:List α}{ys:List β},Paired F xs ys→Paired F (xs++[x]) (ys++[y])
 |_,_,.nil=>.cons f .nil
 |_,_,.cons g r=>.cons g (Paired.snoc f r)
section
variable{prog:Program}{w:World}{A:Around}{E:Value→Shared→Prop}{s:Shared}{a:Addr}{ks:List Key}
theorem pJ{es:List (Int×Value)}(h:∃fs,es.Perm fs∧Paired (jd prog w) fs ks):ElemsOf (aa prog w) es:=fun e he=>by
 obtain⟨fs,p,m⟩:=h;obtain⟨k,_,h1,h2,h3⟩:=Paired.mem1 m e (p.mem_iff.mp he);exact⟨⟨k,h1,h2⟩,h3⟩
theorem Sc{es:List (Int×Value)}(h:∃fs,es.Perm fs∧Paired (jd prog w) fs ks):es.length=ks.length:=by
 obtain⟨fs,p,m⟩:=h;rw[p.length_eq];exact zd m
theorem rY{es:List (Int×Value)}{k:Key}(h:∃fs,es.Perm fs∧Paired (jd prog w) fs ks)(hk:k∈ks):∃j,es.findIdx? (fun e=>(aa prog w).is k e.2)=some j:=by
 obtain⟨fs,p,m⟩:=h;obtain⟨e,he,q,_⟩:=Paired.mem2 m k hk;have:(es.findIdx? (fun e=>(aa prog w).is k e.2)).isSome=true:=by
  rw[List.findIdx?_isSome];exact List.any_eq_true.mpr ⟨e,p.mem_iff.mpr he,q⟩
 exact Option.isSome_iff_exists.mp this
theorem oq{es:List (Int×Value)}{k:Key}(h:∃fs,es.Perm fs∧Paired (jd prog w) fs ks)(hk:k∉ks):es.findIdx? (fun e=>(aa prog w).is k e.2)=none:=by
 obtain⟨fs,p,m⟩:=h;rw[List.findIdx?_eq_none_iff];intro e he;obtain⟨k',hk',q,_⟩:=Paired.mem1 m e (p.mem_iff.mp he);refine z5.mpr fun z=>hk ?_;rw[(aa prog w).inj _ _ _ z q];exact hk'
theorem oR{x:Value}{Q:Bool→Shared→Prop}(hs:x.scannable=true)(q:∀b,Q b s):wpAny (model prog w) A (hashByValue 8 x) Q E s:=by
 cases x with
 |none=>exact(yI (q true):wpAny _ _ (pure true) _ _ _)
 |bool b=>exact(yI (q true):wpAny _ _ (pure true) _ _ _)
 |int i t=>exact(yI (q true):wpAny _ _ (pure true) _ _ _)
 |str z t=>exact(yI (q false):wpAny _ _ (pure false) _ _ _)
 |bytes z t=>exact(yI (q false):wpAny _ _ (pure false) _ _ _)
 |_=>cases hs
theorem kW{o:Obj}{es:Array (Int×Value)}{ep:Nat}{t:SetTable}{es':Array (Int×Value)}{t':SetTable}{h:Heap}(ho:h.get? a=some o)(hx:o.ExactSet)(hd:o.data=.set es ep t):
  ∃o',(h.update a (Obj.putSet es' t')).get? a=some o'∧o'.ExactSet∧o'.data=.set es' (ep+1) t':=by
 obtain⟨c,d,dt,sl⟩:=o;simp only at hd;subst hd;exact⟨_,BP _ ho rfl,hx,rfl⟩
theorem ja{t:SetTable}{n:Nat}{p:Bool}(h:t.fits n=true):SetTable.fits {t with plain:=p} n=true:=h
theorem tF{k:Key}{x:Value}{Q:Bool→Shared→Prop}(hk:(aa prog w).is k x=true)(hs:x.scannable=true)(G:b9 prog w s.heap a ks)(hb:ks.length+1<scanBound)(fin:∀b h',Heap.SameBut a s.heap h'→b9 prog w h' a (if k∈ks then ks else ks++[k])→Q b {s with heap:=h'}):wpAny (model prog w) A (setAddHashed a x ((aa prog w).hash k)) Q E s:=by
 obtain⟨o,es,ep,t,ho,hex,hd,hf,fit,gd,nd⟩:=G;have els:=pJ hf;have len:=Sc hf;rw[yU]at len;unfold setAddHashed;refine zK ?_;rw[show(100000:Nat)=99999+1 from rfl,setAddHashedIn.eq_def];refine io (Br ho hd fit ?_);dsimp only;rw[byScan_of hs (by omega) els,yL rfl];refine io ?_;unfold setAddByScan;refine io (AM ?_);refine io (wpAny_setScan_of hk ho hd fit els ?_);by_cases hin:k∈ks
 ·obtain⟨j,ej⟩:=rY hf hin;rw[ej];refine yI (yI (fin false s.heap ⟨rfl,fun _ _=>rfl⟩ ?_));rw[yL hin];exact⟨o,es,ep,t,ho,hex,hd,hf,fit,gd,nd⟩
 ·rw[oq hf hin];rw[yK hin]at fin;have lp:=layNew_perm t es ((aa prog w).hash k) x;obtain⟨gl,fl⟩:=lF (es:=es) (h:=(aa prog w).hash k) (x:=x) gd;dsimp only;generalize layNew t es ((aa prog w).hash k) x=L at lp gl fl⊢;obtain⟨es1,t1,wd,gv⟩:=L;dsimp only at lp gl fl⊢;have nd2:(ks++[k]).Nodup:=by
   rw[BU];exact⟨nd,zt.mpr ⟨fun h=>(nomatch h),zO⟩,fun y hy z hz e=>hin (by rw[←yP.mp hz,←e];exact hy)⟩
  have hf1:∃fs,es1.toList.Perm fs∧Paired (jd prog w) fs (ks++[k]):=by
   obtain⟨fs,p,m⟩:=hf;refine⟨fs++[((aa prog w).hash k,x)],lp.trans ?_,Paired.snoc ⟨hk,rfl,hs⟩ m⟩;rw[Bb];exact p.append_right _
  have sz1:es1.size≤sizeLine:=by
   have:=Sc hf1;rw[yU,yR,Au]at this;exact Ze (by unfold scanBound at hb;omega)
  have main:∀t2:SetTable,Gd t2 (!w.params.followText "set-order")→t2.fits es1.size=true→wpAny (model prog w) A (do
    storeSet a es1 t2
    if (!wd && t2.tooFull)=true then
     match relayAll t2 es1 (SetTable.grown es1.size) with
     | (es,t,gave)=>do
      (match gave with | true=>rule "set.scan.the-table-gave-way" | false=>pure ())
      storeSet a es t
      pure (some true)
    else pure (some true)) (fun r s'=>wpAny (model prog w) A (match r with | some added=>pure added | none=>setAddHashedIn a x ((aa prog w).hash k) 99999) Q E s') E s:=by
   intro t2 g2 f2;refine io (wpAny_storeSet_of ho hd ?_ sz1);obtain⟨o1,ho1,hx1,hd1⟩:=kW (es':=es1) (t':=t2) ho hex hd;by_cases c:(!wd && t2.tooFull)=true
   ·rw[yL c];have rp:=relayAll_perm t2 es1 (SetTable.grown es1.size);obtain⟨gr,fr⟩:=eI (es:=es1) (n:=SetTable.grown es1.size) g2;generalize relayAll t2 es1 (SetTable.grown es1.size)=R at rp gr fr⊢;obtain⟨es2,t3,gv2⟩:=R;dsimp only at rp gr fr⊢;have sz2:es2.size≤sizeLine:=by
     have:=rp.length_eq;rw[yU,yU]at this;omega
    have store:wpAny (model prog w) A (do
      storeSet a es2 t3
      pure (some true)) (fun r s'=>wpAny (model prog w) A (match r with | some added=>pure added | none=>setAddHashedIn a x ((aa prog w).hash k) 99999) Q E s') E {s with heap:=s.heap.update a (Obj.putSet es1 t2)}:=by
     refine io (wpAny_storeSet_of ho1 hd1 (yI (yI (fin true _ ((Bc _ _ _).trans (Bc _ _ _)) ?_))) sz2);obtain⟨o2,ho2,hx2,hd2⟩:=kW (es':=es2) (t':=t3) ho1 hx1 hd1;obtain⟨fs,p,m⟩:=hf1;exact⟨o2,es2,_,t3,ho2,hx2,hd2,⟨fs,rp.trans p,m⟩,fr,gr,nd2⟩
    cases gv2 with
    |true=>exact io (AM store)
    |false=>exact io (yI store)
   ·rw[yK c];refine yI (yI (fin true _ (Bc _ _ _) ?_));exact⟨o1,es1,_,t2,ho1,hx1,hd1,hf1,f2,g2,nd2⟩
  have both:∀b:Bool,wpAny (model prog w) A (do
    storeSet a es1 (if b=true then t1 else{t1 with plain:=false})
    if (!wd && (if b=true then t1 else{t1 with plain:=false}).tooFull)=true then
     match relayAll (if b=true then t1 else{t1 with plain:=false}) es1 (SetTable.grown es1.size) with
     | (es,t,gave)=>do
      (match gave with | true=>rule "set.scan.the-table-gave-way" | false=>pure ())
      storeSet a es t
      pure (some true)
    else pure (some true)) (fun r s'=>wpAny (model prog w) A (match r with | some added=>pure added | none=>setAddHashedIn a x ((aa prog w).hash k) 99999) Q E s') E s:=fun b=>by
   cases b with
   |true=>exact main t1 gl fl
   |false=>exact main {t1 with plain:=false} (ow gl) (ja fl)
  have tail:wpAny (model prog w) A (if t1.plain=true then hashByValue 8 x >>= fun b=>(do
    storeSet a es1 (if b=true then t1 else{t1 with plain:=false})
    if (!wd && (if b=true then t1 else{t1 with plain:=false}).tooFull)=true then
     match relayAll (if b=true then t1 else{t1 with plain:=false}) es1 (SetTable.grown es1.size) with
     | (es,t,gave)=>do
      (match gave with | true=>rule "set.scan.the-table-gave-way" | false=>pure ())
      storeSet a es t
      pure (some true)
    else pure (some true))else pure true >>= fun b=>(do
    storeSet a es1 (if b=true then t1 else{t1 with plain:=false})
    if (!wd && (if b=true then t1 else{t1 with plain:=false}).tooFull)=true then
     match relayAll (if b=true then t1 else{t1 with plain:=false}) es1 (SetTable.grown es1.size) with
     | (es,t,gave)=>do
      (match gave with | true=>rule "set.scan.the-table-gave-way" | false=>pure ())
      storeSet a es t
      pure (some true)
    else pure (some true))) (fun r s'=>wpAny (model prog w) A (match r with | some added=>pure added | none=>setAddHashedIn a x ((aa prog w).hash k) 99999) Q E s') E s:=by
   by_cases c:t1.plain=true
   ·rw[yL c];exact io (oR hs both)
   ·rw[yK c];exact io (yI (both true))
  cases gv with
  |true=>exact io (AM tail)
  |false=>exact io (yI tail)
end
theorem si(a:Value):checkBuiltinCall "set.__new__" ⟨[.type "set",a],[]⟩=pure ():=by kernel_rfl
theorem rh(a:Value):Builtin.Frozenset.newClass "set" ⟨[.type "set",a],[]⟩=pure (.type "set",[a]):=by kernel_rfl
def ddK:List Key→List Key→List Key
 |CH,[]=>CH
 |CH,k::r=>ddK (if k∈CH then CH else CH++[k]) r
theorem fx(k:Key):∀(l CH:List Key),ddK CH (l++[k])=if k∈ddK CH l then ddK CH l else ddK CH l++[k]
 | [],CH=>rfl
 |x::l,CH=>fx k l _
theorem dQ:∀(l CH:List Key),(ddK CH l).length≤CH.length+l.length
 | [],CH=>yM _
 |x::l,CH=>by
  have:=dQ l (if x∈CH then CH else CH++[x]);show(ddK (if x∈CH then CH else CH++[x]) l).length≤_;rw[zw];by_cases h:x∈CH
  ·rw[yL h]at this⊢;omega
  ·rw[yK h]at this⊢;rw[yR,Au]at this;omega
theorem dX:∀(l CH:List Key)(k:Key),k∈ddK CH l↔k∈CH∨k∈l
 | [],CH,k=>⟨.inl,fun h=>h.elim id (fun h=>nomatch h)⟩
 |x::l,CH,k=>by
  show k∈ddK (if x∈CH then CH else CH++[x]) l↔_;rw[dX l _ k];by_cases h:x∈CH
  ·rw[yL h,y8];constructor
   ·rintro(q | q)
    ·exact .inl q
    ·exact .inr (.inr q)
   ·rintro(q | rfl | q)
    ·exact .inl q
    ·exact .inl h
    ·exact .inr q
  ·rw[yK h,y8,ze,yP];constructor
   ·rintro((q | q) | q)
    ·exact .inl q
    ·exact .inr (.inl q)
    ·exact .inr (.inr q)
   ·rintro(q | q | q)
    ·exact .inl (.inl q)
    ·exact .inl (.inr q)
    ·exact .inr q
variable{prog:Program}{w:World}{A:Around}{E:Value→Shared→Prop}{s:Shared}
abbrev ay(w:World):Obj:={cls:=.type "set",dict:=none,data:=.set #[] 0 (.fresh 0 0 (!w.params.followText "set-order"))}
theorem Pa(a:Value){Q₁:Value→Shared→Prop}(h:Q₁ (.ref s.heap.objs.size) {s with heap:=s.heap.push (ay w)}):
  codeAny (model prog w) A (.call (.builtin "set.__new__") ⟨[.type "set",a],[]⟩) (wants Q₁ E) s:=by
 refine codeAny_call_builtin PySem.F.plain_set_new PySem.F.entry_set_new ?_;rw[si];refine yI ?_;unfold Builtin.«set.__new__»;rw[rh];refine io (yI (io ?_));unfold newSet setsByText;refine io (io (wpAny_askSetting (yI ?_)));exact AH (yI h)
theorem U9{h h':Heap}{a:Addr}{ks:List Key}(q:b9 prog w h a ks)(k:∀o,h.get? a=some o→h'.get? a=some o):b9 prog w h' a ks:=by
 obtain⟨o,es,ep,t,ho,r⟩:=q;exact⟨o,es,ep,t,k o ho,r⟩
theorem mj{h:Heap}{a:Addr}(e:h.get? a=some (ay w)):b9 prog w h a []:=
 ⟨_,#[],0,_,e,⟨rfl,rfl,rfl⟩,rfl,⟨[],BE _,.nil⟩,by rfl,⟨List.Pairwise.nil,rfl,rfl⟩,zO⟩
section
variable{prog:Program}{w:World}{A:Around}{R:Result→Shared→Prop}{I:Addr}{fp wr:List Addr}{n:Nat}{P:Nat→Value→Prop}{St:Nat→Heap→Prop}
theorem lB(W:Walks prog w A.in1 I fp wr n P St)(S:Addr)(hS:S∉fp)(ks:List Key)(hzn:ks.length=n)(hv:∀(i:Nat) v,P i v→∃k,ks[i]?=some k∧(aa prog w).is k v=true∧v.scannable=true)(hb:n+1<scanBound):
  ∀(m i:Nat)(s:Shared),n-i=m→i≤n→St i s.heap→b9 prog w s.heap S (ddK [] (ks.take i))→
   (∀h' tk,(∀b o,b∉S::wr→s.heap.get? b=some o→h'.get? b=some o)→b9 prog w h' S (ddK [] ks)→R (.ok (.ret .none)) {s with heap:=h',toks:=tk})→
   codeAny (model prog w) A (.builtin "set.update.loop" ⟨[.ref S,.ref I],[]⟩) R s:=by
 have hSw:S∉wr:=fun q=>hS (W.sub _ q);intro m
 induction m with
 |zero=>
  intro i s hk hi st so fin;obtain rfl:i=n:=by omega
  refine Aj PyProof.Rows.F.entry_set_update_loop ?_;rw[zY PyProof.Rows.F.plain_set_update_loop _];refine io (m:=pyNext (.ref I)) (W.done s _ _ st fun h' tk kp=>yI (fin h' tk (fun b o nb e=>kp b o (fun q=>nb (zS _ q)) e) ?_));rw[←hzn,zG]at so;exact U9 so fun o e=>kp S o hSw e
 |succ m ih=>
  intro i s hk hi st so fin;have Cz:i<n:=by omega
  refine Aj PyProof.Rows.F.entry_set_update_loop ?_;rw[zY PyProof.Rows.F.plain_set_update_loop _];refine io (m:=pyNext (.ref I)) (W.item i s _ _ Cz st fun v h1 tk1 pv st1 kp1=>?_);obtain⟨k,hkk,hk1,hk2⟩:=hv i v pv;have so1:=U9 so fun o e=>kp1 S o hSw e;refine io (m:=holding [v] (setAdd S v)) (zK ?_);unfold setAdd;refine zK (io ((aa prog w).pyHash hk1 ?_));have Cq:=dQ (ks.take i) [];rw[zu,Ai]at Cq;refine tF hk1 hk2 (s:={s with heap:=h1,toks:=tk1+1}) so1 (by omega) fun b h2 sb so2=>?_;have et:ks.take (i+1)=ks.take i++[k]:=by rw[List.take_add_one,hkk];rfl
  rw[←fx,←et]at so2;refine yI ⟨Bg PyProof.Rows.F.plain_set_update_loop _,ih (i+1) _ (by omega) Cz (W.frame _ _ _ st1 fun b hb o e=>(sb.2 b fun q=>hS (by rw[←q];exact hb)).trans e) so2 fun h' tk kp so'=>fin h' tk (fun b o nb e=>kp b o nb ?_) so'⟩;have nS:b≠S:=fun q=>nb (by rw[q];exact zL);exact(sb.2 b nS).trans (kp1 b o (fun q=>nb (zS _ q)) e)
end
theorem wa{k:Key}{u:Value}(r:RelV (kV k) u):(aa prog w).is k u=true∧u.scannable=true:=by
 cases k with
 |inl i=>obtain⟨t,rfl⟩:=r;exact⟨Wr prog w i t,rfl⟩
 |inr x=>obtain⟨t,rfl⟩:=r;exact⟨Sm prog w x t,rfl⟩
theorem li{l:Addr}{its:List Value}{ks:List Key}{R:Value→Shared→Prop}(hh:A.handled=none)(hl:s.heap.IsList l its.toArray)(hv:Vals (ks.map kV) its)(hb:its.length+1<scanBound)(h:∀(h':Heap) (tk:Nat),b9 prog w h' s.heap.objs.size (ddK [] ks)→(∀b o,b<s.heap.objs.size→s.heap.get? b=some o→h'.get? b=some o)→R .none {s with heap:=h',toks:=tk}):
  codeAny (model prog w) A (.call (.builtin "set.__init__") ⟨[.ref s.heap.objs.size,.ref l],[]⟩) (wants R E) {s with heap:=s.heap.push (ay w)}:=by
 have own:(s.heap.push (ay w)).get? s.heap.objs.size=some (ay w):=yY _ rfl;have ty:Shared.TypeIs {s with heap:=s.heap.push (ay w)} (.ref s.heap.objs.size) "set":=⟨_,own,rfl⟩;refine codeAny_call_builtin PySem.F.called_set.init.plain PySem.F.entry_set_init (check_set_init_1 ty ?_);obtain⟨⟨c0,d0,dt0,sl0⟩,ho,hc,nl,hd⟩:=hl;simp only at hc hd;subst hc hd;have ho1:(s.heap.push (ay w)).get? l=some {cls:=.type "list",dict:=d0,data:=.seq its.toArray nl,slots:=sl0}:=yJ _ ho;have hl1:(s.heap.push (ay w)).IsList l its.toArray:=⟨_,ho1,rfl,nl,rfl⟩;have f1:=PySem.F.sub_list_set;have f2:=PySem.F.sub_list_frozenset;have f3:(Value.type "list" == Value.type "dict")=false:=by decide
 unfold Builtin.«set.__init__» noKeywords Builtin.Frozenset.updateFrom;generalize hP:pyIter=PI
 wp_walk
 subst hP;refine BR hl1 (io (wpAny_runValue ?_));have lt0:l<s.heap.objs.size:=yV ho;have hz:ks.length=its.length:=by
  have:=hv.length;rw[pi]at this;exact this
 have ne0:l≠(s.heap.push (ay w)).objs.size:=by rw[BD];exact y4 (AG lt0)
 have nin:s.heap.objs.size∉[(s.heap.push (ay w)).objs.size,l]:=by
  rw[BD];simp only[List.mem_cons,List.not_mem_nil,or_false,not_or];exact⟨y4 (Nat.lt_succ_self _),Ah lt0⟩
 have hh3:A.in1.in1.handled=none:=by simp[hh]
 refine lB (Walks.list hh3 _ l ne0 its.toArray) s.heap.objs.size nin ks (by rw[zD];exact hz) (fun i v e=>?_) (by rw[zD];exact hb) (its.toArray.size-0) 0 _ (by omega) (Aa _) ?st ?_ ?_
 case st=>exact⟨⟨_,yY _ rfl,rfl,rfl⟩,hl1.push _⟩
 ·have e':its[i]?=some v:=by simpa using e
  have hi:i<ks.length:=by
   rw[hz];exact(yZ.mp e').1
  obtain⟨u,hu,ru⟩:=hv.get (i:=i) (x:=kV ks[i]) (by rw[zc,zF hi];rfl);rw[e']at hu;cases hu;exact⟨ks[i],zF hi,wa ru⟩
 ·have g2:((s.heap.push (ay w)).push {cls:=.type "list_iterator",data:=.fields #[.ref l,.int 0 0]}).get? s.heap.objs.size=some (ay w):=yJ _ own;exact mj g2
 ·intro h' tk kp so;refine yI (yI (h h' tk so fun b o hb2 e=>kp b o ?_ (yJ _ (yJ _ e))));simp only[List.mem_cons,List.not_mem_nil,or_false,not_or];exact⟨y4 hb2,by rw[BD];exact y4 (AG hb2)⟩
theorem Pe{l:Addr}{its:List Value}{ks:List Key}{Q:Value→Shared→Prop}(hh:A.handled=none)(hl:s.heap.IsList l its.toArray)(hv:Vals (ks.map kV) its)(hb:its.length+1<scanBound)(h:∀(h':Heap) (tk:Nat),b9 prog w h' s.heap.objs.size (ddK [] ks)→(∀b o,b<s.heap.objs.size→s.heap.get? b=some o→h'.get? b=some o)→Q (.ref s.heap.objs.size) {s with heap:=h',toks:=tk}):
  wpAny (model prog w) A (call (.type "set") [.ref l]) Q E s:=by
 obtain⟨c,tl,hmro⟩:=PySem.F.called_set.mro;have k1:=PySem.F.called_set.made;have k2:=PySem.F.called_set.sub;have k3:=PySem.F.called_set.notType;have k4:=PySem.F.called_set.canCreate;have k5:=PySem.F.typeCall_set_1 (.ref l);refine wpAny_call (codeAny_of_tree ?_);show wpAny _ _ (callAny (.type "set") _) _ _ _;refine yI ⟨Code.quiet_builtin _ (by decide +kernel),Aj PySem.F.entry_type_call ?_⟩;rw[Around.under_plain (weight_type_call_type "set" [.ref l] []) rfl]
 repeat (any_goals (first | assumption | wp_step))
 refine BZ (Pa (.ref l) (E:=E) (Q₁:=fun obj s1=>obj=.ref s.heap.objs.size∧s1={s with heap:=s.heap.push (ay w)}) ⟨rfl,rfl⟩) fun r s1 hr=>?_;cases r with
 |error e=>exact hr
 |ok fl=>
  cases fl with
  |ret obj=>
   obtain⟨rfl,rfl⟩:=hr;have own:(s.heap.push (ay w)).get? s.heap.objs.size=some (ay w):=yY _ rfl;have ty:Shared.TypeIs {s with heap:=s.heap.push (ay w)} (.ref s.heap.objs.size) "set":=⟨_,own,rfl⟩;have k6:=PySem.F.called_set.init.lookup;have k7:=PySem.F.called_set.init.bind (.ref s.heap.objs.size)
   repeat (any_goals (first | assumption | wp_step))
   refine codeAny_mono (li (R:=fun r s2=>r=.none∧∃h' tk,s2={s with heap:=h',toks:=tk}∧b9 prog w h' s.heap.objs.size (ddK [] ks)∧(∀b o,b<s.heap.objs.size→s.heap.get? b=some o→h'.get? b=some o)) (E:=E) (by simp[hh]) hl hv hb fun h' tk so kp=>⟨rfl,h',tk,rfl,so,kp⟩) fun r2 s2 hr2=>?_;cases r2 with
   |error e=>exact hr2
   |ok fl2=>
    cases fl2 with
    |ret r=>
     obtain⟨rfl,h',tk,rfl,so,kp⟩:=hr2
     repeat (any_goals (first | assumption | wp_step))
     exact h _ _ so kp
    |_=>exact hr2.elim
  |_=>exact hr.elim
def eA(prog:Program)(w:World)(a:Addr)(ks:List Key):HO:=.ext fun h=>b9 prog w h a ks
section
variable{X:Cx}
theorem lz(hc:X.calm=true):aK X (.type "set") (fun xs H Q=>∃(p:Addr)(ks:List Key),xs=[.ref p]∧SqL X.K H p (ks.map kV)∧ks.length<4000∧∀a,H a=none→Q (.ref a) (upd H a (eA X.prog X.w a (ddK [] ks)))):=by
 intro Cr s σ H xs us Q I r h;obtain⟨p,ks,rfl,hq,hz,q⟩:=h;obtain⟨u,rfl,ru⟩:=Xx r;cases ru;obtain⟨its,rv,pl,_⟩:=I.list hq;have hl:=rv.length;rw[pi]at hl;refine Pe (I.ok.hd hc) pl.isList rv (by unfold scanBound;omega) fun h' tk so kp=>?_;refine⟨.ref s.heap.objs.size,_,I.laid (t':=tk) (fun b o e=>kp b o (yV e) e) (yM _) (show ObjOk X.prog X.w _ h' _ (eA X.prog X.w s.heap.objs.size (ddK [] ks))from ?_),rfl,q _ (I.hok.fresh (yM _))⟩;refine⟨so,?_,fun h1 h2 a k=>?_⟩
 ·obtain⟨o,_,_,_,ho,_⟩:=so;exact⟨o,ho⟩
 ·exact U9 a k
end
theorem Xs:Slot "set_iterator" (Str.ofString "__next__") "set_iterator.__next__":=Slot.of (owner:="set_iterator") (n:="__next__") (by kernel_rfl) (by kernel_rfl) (by kernel_rfl) (by kernel_rfl) (.inl (by kernel_rfl)) (by kernel_rfl) (by kernel_rfl)
theorem Uq:Slot "set_iterator" (Str.ofString "__iter__") "set_iterator.__iter__":=Slot.of (owner:="set_iterator") (n:="__iter__") (by kernel_rfl) (by kernel_rfl) (by kernel_rfl) (by kernel_rfl) (.inl (by kernel_rfl)) (by kernel_rfl) (by kernel_rfl)
theorem Pg(a:Value):argsOk "set_iterator.__next__" {pos:=[a]}:=by kernel_rfl
theorem Ph(a:Value):argsOk "set_iterator.__iter__" {pos:=[a]}:=by kernel_rfl
theorem Qt:entryFor PySem.table "set_iterator.__next__"=some PySem.Builtin.«set_iterator.__next__»:=by kernel_rfl
theorem Qv:entryFor PySem.table "set.__iter__"=some PySem.Builtin.«frozenset.__iter__»:=by kernel_rfl
theorem iy:firstArgMember (.type "StopIteration") []=pure .none:=by kernel_rfl
theorem nW:ownMembersOf (.type "StopIteration") []=#[]:=by kernel_rfl
section
theorem Xr{α:Type}{Q:α→Shared→Prop}(hh:A.handled=none)(k:∀h' e,(∀b o,s.heap.get? b=some o→h'.get? b=some o)→Shared.TypeIs {s with heap:=h'} (.ref e) "StopIteration"→E (.ref e) {s with heap:=h'}):
  wpAny (model prog w) A (do
   let x ←newExc (.type "StopIteration") []
   raiseNew x:Sem α) Q E s:=by
 refine io ?_;unfold newExc;refine io (Cf ?_ (Aa _));rw[iy,nW];refine io (yI (AH (wpAny_raiseNew_none hh (k _ _ (fun b o e=>yJ _ (yJ _ e)) ⟨_,yY _ rfl,rfl⟩))))
theorem Ug{it:Addr}{Q:Option Value→Shared→Prop}(ty:s.TypeIs (.ref it) "set_iterator")(h:wpAny (model prog w) A.in1 (Builtin.«set_iterator.__next__» ⟨[.ref it],[]⟩) (fun fin s'=>∃v,fin=.done (.ret v)∧Q (some v) s') (fun e s'=>s'.TypeIs e "StopIteration"∧Q none s') s):
  wpAny (model prog w) A (pyNext (.ref it)) Q E s:=by
 unfold pyNext;refine io (wpAny_attempt ?_);refine wpAny_callSpecial?_slotG ty Xs.toG ?_;refine Af (Am Xs ty Qt (Q:=fun v s'=>Q (some v) s') h (Pg _)) (fun v s' q=>yI q) (fun e s' q=>?_);exact io (BF q.1 isSubtype_stop (by rw[yL rfl];exact yI q.2))
abbrev iS(first:Value)(i:Nat)(a:Addr)(n ep:Nat):Obj:={cls:=.type "set_iterator",data:=.fields #[first,.int i 0,.ref a,.int n 0,.int ep 0]}
theorem Re{Q:Bool→Shared→Prop}(q:Q (w.params.followText "set-order") s):wpAny (model prog w) A setsByText Q E s:=by
 unfold setsByText;exact io (wpAny_askSetting (yI q))
variable{a:Addr}{o:Obj}{es:Array (Int×Value)}{ep:Nat}{t:SetTable}
theorem Px{slot given:Nat}{Q:Option (Value×Nat)→Shared→Prop}(ht:w.params.followText "set-order"=true)(ho:s.heap.get? a=some o)(hd:o.data=.set es ep t)(fit:t.fits es.size=true)(q:Q ((pickOrder (w.params.setOrder a ep) es)[given]?.map fun e=>(e.2,slot)) s):wpAny (model prog w) A (setNext a slot given ep) Q E s:=by
 unfold setNext;refine io (Br ho hd fit ?_);refine io (Re ?_);rw[ht,if_pos rfl,if_neg (by simp)];refine io ?_;unfold setWalk;refine io (Br ho hd fit ?_);refine io (Re ?_);rw[ht,yL rfl];exact io (wpAny_askSetting (yI (yI q)))
theorem Q9{slot given:Nat}{Q:Option (Value×Nat)→Shared→Prop}(ht:w.params.followText "set-order"=false)(ho:s.heap.get? a=some o)(hd:o.data=.set es ep t)(fit:t.fits es.size=true)(g:Gd t true)(np:(!t.plain && decide (es.size > 1))=false)(q:Q (match es[SetTable.below t.place slot]?,t.place[SetTable.below t.place slot]? with
   |some e,some j=>some (e.2,j+1)
   |_,_=>none) s):wpAny (model prog w) A (setNext a slot given ep) Q E s:=by
 unfold setNext;refine io (Br ho hd fit ?_);refine io (Re ?_);rw[ht,yK (by decide)];show wpAny _ _ (if (!t.plain && decide (es.size > 1))=true then _ else _) _ _ _;rw[np,yK (by decide)];refine io (show wpAny _ _ (if (!t.led && !es.isEmpty)=true then _ else pure ()) _ _ _ from ?_);rw[g.led,if_neg (by simp)];refine yI (yI ?_);cases h1:es[SetTable.below t.place slot]? with
 |none=>rw[h1]at q;exact q
 |some e=>
  rw[h1]at q;cases h2:t.place[SetTable.below t.place slot]? with
  |none=>rw[h2]at q;exact q
  |some j=>rw[h2]at q;exact q
theorem je{place:Nat}{e:Int×Value}{Q:Value→Shared→Prop}(ho:s.heap.get? a=some o)(hd:o.data=.set es ep t)(fit:t.fits es.size=true)(he:es[place]?=some e)(q:Q e.2 s):wpAny (model prog w) A (setNextDrawn a place ep) Q E s:=by
 unfold setNextDrawn;refine io (Br ho hd fit ?_);dsimp only;rw[if_neg (by simp),he];exact yI q
theorem Wd{it:Addr}{first:Value}{i:Nat}{Q:PySem.Fin→Shared→Prop}(hit:s.heap.get? it=some (iS first i a es.size ep))(ho:s.heap.get? a=some o)(hd:o.data=.set es ep t)(fit:t.fits es.size=true)(q:wpAny (model prog w) A (match first with
   |.int slot _=>do
    let r ←setNext a slot.toNat i ep
    match r with
     |some (x,next)=>do
      setField (.ref it) 0 (rawInt next)
      setField (.ref it) 1 (rawInt (i+1))
      ret x
     |none=>do
      setField (.ref it) 2 .none
      let x ←newExc (.type "StopIteration") []
      raiseNew x
   |x=>do
    let y ←seqItems? first
    match y with
     |some places=>
      match places[i]? with
      |some (.int place _)=>do
       let x ←setNextDrawn a place.toNat ep
       setField (.ref it) 1 (rawInt (i+1))
       ret x
      |some val=>unsupported "internal:set_iterator"
      |none=>do
       setField (.ref it) 0 (rawInt 0)
       setField (.ref it) 2 .none
       let x ←newExc (.type "StopIteration") []
       raiseNew x
     |x=>unsupported "internal:set_iterator") Q E s):wpAny (model prog w) A (Builtin.«set_iterator.__next__» ⟨[.ref it],[]⟩) Q E s:=by
 unfold Builtin.«set_iterator.__next__»;refine io (show wpAny _ _ (pure (Value.ref it,[])) _ _ _ from yI ?_);refine io (BG hit rfl ?_);refine io (wpAny_setEntries_of ho hd fit ?_);rw[if_neg (by simp)];exact q
end
theorem T5{α:Type}:∀(l:List α)(i:Nat)(x:α),l[i]?=some x→(x::l.eraseIdx i).Perm l
 | [],i,x,h=>by simp at h
 |a::l,0,x,h=>by
  have e:a=x:=by simpa using h
  subst e;exact BE _
 |a::l,i+1,x,h=>by
  have ih:=T5 l i x (by simpa using h);show(x::a::l.eraseIdx i).Perm (a::l);exact(List.Perm.swap a x _).trans (ih.cons a)
theorem jY{α:Type}(next:Nat→Nat):∀(fuel k:Nat)(left:List α)(out:Array α),left.length≤fuel→(pickOrder.go next fuel k left out).toList.Perm (out.toList++left)
 | 0,k,left,out,h=>by
  have e:left=[]:=List.eq_nil_of_length_eq_zero (by omega);subst e;rw[AJ];exact BE _
 |fuel+1,k,left,out,h=>by
  show(match left[next k % left.length]? with
   |some x=>pickOrder.go next fuel (k+1) (left.eraseIdx (next k % left.length)) (out.push x)
   |none=>out).toList.Perm _
  cases e:left[next k % left.length]? with
  |none=>
   have l0:left=[]:=by
    cases left with
    |nil=>rfl
    |cons a l=>
     rw[List.getElem?_eq_none_iff]at e;have:=Nat.mod_lt (next k) (show 0<(a::l).length by simp);omega
   subst l0;rw[AJ]
  |some x=>
   have lt:=(yZ.mp e).1;have ih:=jY next fuel (k+1) (left.eraseIdx (next k % left.length)) (out.push x) (by rw[List.length_eraseIdx_of_lt lt];omega)
   refine ih.trans ?_;rw[Bb,zU];exact(T5 left _ x e).append_left _
theorem Ud{α:Type}(next:Nat→Nat)(xs:Array α):(pickOrder next xs).toList.Perm xs.toList:=by
 have:=jY next xs.size 0 xs.toList #[] (by rw[yU];exact yM _)
 show(pickOrder.go next xs.size 0 xs.toList #[]).toList.Perm xs.toList;simpa using this
theorem Qy{α:Type}:∀(n:Nat)(l:List α)(s:Shared){Q:List α→Shared→Prop},l.length=n→(∀o d,o.Perm l→Q o {s with drawn:=d})→wpAny (model prog w) A (drawOrder n l) Q E s
 | 0,l,s,Q,h,q=>by
  have e:l=[]:=List.eq_nil_of_length_eq_zero h;subst e;exact(yI (q [] s.drawn (BE _)):wpAny _ _ (pure []) _ _ _)
 |n+1,[],s,Q,h,q=>by simp at h
 |n+1,a::l,s,Q,h,q=>by
  show wpAny _ _ (choose Source.order (a::l).length >>= fun i=>match (a::l)[i]? with
   |some x=>do
    let r ←drawOrder n ((a::l).eraseIdx i)
    pure (x::r)
   |none=>unsupported "internal:drawOrder") _ _ _
  refine io ?_;intro Γ p hΓ;unfold choose;rw[Sem.wp_choose];refine⟨by simp,?_⟩;have lt:(model prog w).w.draws Source.order (s.drawn.get Source.order) % (a::l).length<(a::l).length:=Nat.mod_lt _ (by simp);generalize (model prog w).w.draws Source.order (s.drawn.get Source.order) % (a::l).length=i at lt⊢;obtain⟨x,hx⟩:∃x,(a::l)[i]?=some x:=⟨_,zF lt⟩;have main:wpAny (model prog w) A (match (a::l)[i]? with
   |some x=>do
    let r ←drawOrder n ((a::l).eraseIdx i)
    pure (x::r)
   |none=>unsupported "internal:drawOrder") Q E {s with drawn:=s.drawn.bump Source.order}:=by
   rw[hx];refine io (Qy n _ _ ?_ fun o d hp=>yI (q _ _ ?_))
   ·rw[List.length_eraseIdx_of_lt lt];simpa using h
   ·exact(hp.cons x).trans (T5 _ _ _ hx)
  exact main
def bx(ps:Array Nat):Nat→Nat
 | 0=>0
 |i+1=>ps.getD i 0+1
theorem pB{ps:Array Nat}{j b c:Nat}(h1:Cut ps j b)(h2:Cut ps j c):b=c:=by
 have k1:=h1.le;have k2:=h2.le;by_cases e:b<c
 ·have x:=h2.lo b (by omega) e;have y:=h1.hi b (by omega) (yM _);omega
 ·by_cases e2:c<b
  ·have x:=h1.lo c (by omega) e2;have y:=h2.hi c (by omega) (yM _);omega
  ·omega
theorem P2{ps:Array Nat}(h:Ris ps){i:Nat}(hi:i≤ps.size):SetTable.below ps (bx ps i)=i:=by
 refine pB (Si h _) ⟨hi,fun k hk lt=>?_,fun k hk le=>?_⟩
 ·cases i with
  |zero=>omega
  |succ i=>
   have e:bx ps (i+1)=ps[i]'(by omega)+1:=by
    show ps.getD i 0+1=_;simp[Array.getD,show i<ps.size by omega]
   rw[e];by_cases c:k=i
   ·subst c;omega
   ·have:=Tj h (i:=k) (k:=i) (by omega) (by omega);omega
 ·cases i with
  |zero=>exact Aa _
  |succ i=>
   have e:bx ps (i+1)=ps[i]'(by omega)+1:=by
    show ps.getD i 0+1=_;simp[Array.getD,show i<ps.size by omega]
   rw[e];have:=Tj h (i:=i) (k:=k) (by omega) hk;omega
theorem Qu:entryFor PySem.table "set_iterator.__iter__"=some PySem.Builtin.«dict_keyiterator.__iter__»:=by kernel_rfl
section
variable{prog:Program}{w:World}{A:Around}{a it:Addr}{o:Obj}{es:Array (Int×Value)}{ep:Nat}{t:SetTable}
theorem Rt{first:Value}{i n:Nat}(s:Shared)(Q E:Value→Shared→Prop)(hit:s.heap.get? it=some (iS first i a n ep))(q:Q (.ref it) s):wpAny (model prog w) A (pyIter (.ref it)) Q E s:=by
 have ty:s.TypeIs (.ref it) "set_iterator":=⟨_,hit,rfl⟩;refine Bs ty Uq (Am Uq ty Qu ?_ (Ph _));unfold Builtin.«dict_keyiterator.__iter__»;refine io (show wpAny _ _ (pure (Value.ref it,[])) _ _ _ from yI ?_);exact yI ⟨_,rfl,"set_iterator",_,ty,Xs.lookup,q⟩
theorem hG(hh:A.handled=none)(hne:a≠it)(ht:w.params.followText "set-order"=false)(hd:o.data=.set es ep t)(fit:t.fits es.size=true)(g:Gd t true)(np:(!t.plain && decide (es.size > 1))=false):
  Walks prog w A it [it,a] [it] es.size (fun i v=>(es.toList.map (·.2))[i]?=some v) (fun i h=>i≤es.size∧h.get? it=some (iS (.int (bx t.place i:Nat) 0) i a es.size ep)∧h.get? a=some o) where
 sub:=fun b hb=>by rw[yP.mp hb];exact .head _
 frame:=fun i h h' st k=>⟨st.1,k it (.head _) _ st.2.1,k a (.tail _ (.head _)) _ st.2.2⟩
 item:=fun i s Q E hi st q=>by
  obtain⟨_,hit,ho⟩:=st;have sz:t.place.size=es.size:=by
   unfold SetTable.fits at fit;rw[zW]at fit;simpa using fit.1
  refine Ug ⟨_,hit,rfl⟩ (Wd hit ho hd fit ?_);refine io (Q9 ht ho hd fit g np ?_);rw[show((bx t.place i:Nat):Int).toNat=bx t.place i from rfl,P2 g.ris (by omega),yN hi,yN (by omega)];refine wpAny_bind (wpAny_setField_rec hit (by simp) fun h1 e1 sb1=>?_);refine wpAny_bind (wpAny_setField_rec e1 (by simp) fun h2 e2 sb2=>?_);refine yI ⟨_,rfl,q _ h2 s.toks ?_ ⟨by omega,?_,?_⟩ fun b o nb e=>?_⟩
  ·rw[zc,yS,yN hi];rfl
  ·rw[e2];have es1:bx t.place (i+1)=t.place[i]'(by omega)+1:=by
    show t.place.getD i 0+1=_;simp[Array.getD,show i<t.place.size by omega]
   rw[es1];rfl
  ·rw[sb2.2 a hne,sb1.2 a hne];exact ho
  ·have ne:b≠it:=fun z=>nb (by rw[z];exact .head _);rw[sb2.2 b ne,sb1.2 b ne];exact e
 done:=fun s Q E st q=>by
  obtain⟨_,hit,ho⟩:=st;have sz:t.place.size=es.size:=by
   unfold SetTable.fits at fit;rw[zW]at fit;simpa using fit.1
  refine Ug ⟨_,hit,rfl⟩ (Wd hit ho hd fit ?_);refine io (Q9 ht ho hd fit g np ?_);rw[show((bx t.place es.size:Nat):Int).toNat=bx t.place es.size from rfl,P2 g.ris (by omega),AR (yM _)];refine wpAny_bind (wpAny_setField_rec hit (by simp) fun h1 e1 sb1=>?_);refine Xr (by simpa using hh) fun h' e k ty=>⟨ty,q h' s.toks fun b o nb eb=>k b o ?_⟩;have ne:b≠it:=fun z=>nb (by rw[z];exact .head _);show h1.get? b=some o;rw[sb1.2 b ne];exact eb
 self:=fun i s Q E st q=>Rt s Q E st.2.1 q
theorem l8(hh:A.handled=none)(hne:a≠it)(ht:w.params.followText "set-order"=true)(hd:o.data=.set es ep t)(fit:t.fits es.size=true):
  Walks prog w A it [it,a] [it] es.size (fun i v=>((pickOrder (w.params.setOrder a ep) es).toList.map (·.2))[i]?=some v) (fun i h=>h.get? it=some (iS (.int 0 0) i a es.size ep)∧h.get? a=some o) where
 sub:=fun b hb=>by rw[yP.mp hb];exact .head _
 frame:=fun i h h' st k=>⟨k it (.head _) _ st.1,k a (.tail _ (.head _)) _ st.2⟩
 item:=fun i s Q E hi st q=>by
  obtain⟨hit,ho⟩:=st;have sz:(pickOrder (w.params.setOrder a ep) es).size=es.size:=by
   have:=(Ud (w.params.setOrder a ep) es).length_eq;simpa using this
  refine Ug ⟨_,hit,rfl⟩ (Wd hit ho hd fit ?_);refine io (Px ht ho hd fit ?_);rw[yN (by omega)];refine wpAny_bind (wpAny_setField_rec hit (by simp) fun h1 e1 sb1=>?_);refine wpAny_bind (wpAny_setField_rec e1 (by simp) fun h2 e2 sb2=>?_);refine yI ⟨_,rfl,q _ h2 s.toks ?_ ⟨?_,?_⟩ fun b o nb e=>?_⟩
  ·rw[zc,yS,yN (by omega)];rfl
  ·rw[e2];rfl
  ·rw[sb2.2 a hne,sb1.2 a hne];exact ho
  ·have ne:b≠it:=fun z=>nb (by rw[z];exact .head _);rw[sb2.2 b ne,sb1.2 b ne];exact e
 done:=fun s Q E st q=>by
  obtain⟨hit,ho⟩:=st;have sz:(pickOrder (w.params.setOrder a ep) es).size=es.size:=by
   have:=(Ud (w.params.setOrder a ep) es).length_eq;simpa using this
  refine Ug ⟨_,hit,rfl⟩ (Wd hit ho hd fit ?_);refine io (Px ht ho hd fit ?_);rw[AR (by omega)];refine wpAny_bind (wpAny_setField_rec hit (by simp) fun h1 e1 sb1=>?_);refine Xr (by simpa using hh) fun h' e k ty=>⟨ty,q h' s.toks fun b o nb eb=>k b o ?_⟩;have ne:b≠it:=fun z=>nb (by rw[z];exact .head _);show h1.get? b=some o;rw[sb1.2 b ne];exact eb
 self:=fun i s Q E st q=>Rt s Q E st.1 q
abbrev plO(ord:List Nat):Obj:={cls:=.type "tuple",data:=.seq (ord.map fun i=>rawInt (i:Nat)).toArray}
theorem jp{T:Addr}{ord:List Nat}(hh:A.handled=none)(hne:a≠it)(hT:T≠it)(hp:ord.Perm (List.range es.size))(hd:o.data=.set es ep t)(fit:t.fits es.size=true):
  Walks prog w A it [it,a,T] [it] es.size (fun i v=>(ord.map fun j=>(es.getD j (0,.none)).2)[i]?=some v) (fun i h=>h.get? it=some (iS (.ref T) i a es.size ep)∧h.get? a=some o∧h.get? T=some (plO ord)) where
 sub:=fun b hb=>by rw[yP.mp hb];exact .head _
 frame:=fun i h h' st k=>⟨k it (.head _) _ st.1,k a (.tail _ (.head _)) _ st.2.1,k T (.tail _ (.tail _ (.head _))) _ st.2.2⟩
 item:=fun i s Q E hi st q=>by
  obtain⟨hit,ho,hpl⟩:=st;have ol:ord.length=es.size:=by rw[hp.length_eq,Bt]
  have lt:ord[i]'(by omega)<es.size:=Ce.mp (hp.mem_iff.mp (List.getElem_mem _));refine Ug ⟨_,hit,rfl⟩ (Wd hit ho hd fit ?_);refine io (wpAny_seqItems hpl rfl ?_);have eo:(ord.map fun i=>rawInt (i:Nat)).toArray[i]?=some (.int (ord[i]'(by omega):Nat) 0):=by
   rw[List.getElem?_toArray,zc,zF (by omega)];rfl
  dsimp only;rw[eo];refine io (je ho hd fit (place:=(((ord[i]'(by omega):Nat):Int)).toNat) (e:=es[ord[i]'(by omega)]) (by rw[show(((ord[i]'(by omega):Nat):Int)).toNat=ord[i]'(by omega)from rfl,yN lt]) ?_);refine wpAny_bind (wpAny_setField_rec hit (by simp) fun h1 e1 sb1=>?_);refine yI ⟨_,rfl,q _ h1 s.toks ?_ ⟨?_,?_,?_⟩ fun b o nb e=>?_⟩
  ·rw[zc,zF (by omega)];simp[Array.getD,lt]
  ·rw[e1];rfl
  ·rw[sb1.2 a hne];exact ho
  ·rw[sb1.2 T hT];exact hpl
  ·have ne:b≠it:=fun z=>nb (by rw[z];exact .head _);rw[sb1.2 b ne];exact e
 done:=fun s Q E st q=>by
  obtain⟨hit,ho,hpl⟩:=st;have ol:ord.length=es.size:=by rw[hp.length_eq,Bt]
  refine Ug ⟨_,hit,rfl⟩ (Wd hit ho hd fit ?_);refine io (wpAny_seqItems hpl rfl ?_);have eo:(ord.map fun i=>rawInt (i:Nat)).toArray[es.size]?=none:=by
   rw[List.getElem?_toArray,zc,BQ (by omega)];rfl
  dsimp only;rw[eo];refine wpAny_bind (wpAny_setField_rec hit (by simp) fun h1 e1 sb1=>?_);refine wpAny_bind (wpAny_setField_rec e1 (by simp) fun h2 e2 sb2=>?_);refine Xr (by simpa using hh) fun h' e k ty=>⟨ty,q h' s.toks fun b o nb eb=>k b o ?_⟩;have ne:b≠it:=fun z=>nb (by rw[z];exact .head _);show h2.get? b=some o;rw[sb2.2 b ne,sb1.2 b ne];exact eb
 self:=fun i s Q E st q=>Rt s Q E st.1 q
end
theorem gy{α β:Type}{F:α→β→Prop}{xs ys:List α}(p:xs.Perm ys):∀{zs:List β},Paired F ys zs→∃zs',zs'.Perm zs∧Paired F xs zs':=by
 induction p with
 |nil=>intro zs h;exact⟨zs,BE _,h⟩
 |cons x _ ih=>
  intro zs h;cases h with
  |cons f r=>
   obtain⟨zs',p,q⟩:=ih r;exact⟨_::zs',p.cons _,.cons f q⟩
 |swap x y l=>
  intro zs h;cases h with
  |cons f r=>
   cases r with
   |cons g r=>
    exact⟨_,List.Perm.swap _ _ _,.cons g (.cons f r)⟩
 |trans _ _ ih1 ih2=>
  intro zs h;obtain⟨z1,p1,q1⟩:=ih2 h;obtain⟨z2,p2,q2⟩:=ih1 q1;exact⟨z2,p2.trans p1,q2⟩
theorem Q6{α β γ:Type}{F:α→β→Prop}{G:γ→β→Prop}{f:α→γ}(h:∀a b,F a b→G (f a) b):∀{xs:List α}{zs:List β},Paired F xs zs→Paired G (xs.map f) zs
 |_,_,.nil=>.nil
 |_,_,.cons g r=>.cons (h _ _ g) (Q6 h r)
def IsK(P:Program)(w:World)(v:Value)(k:Key):Prop:=(aa P w).is k v=true
theorem Ri{P:Program}{w:World}{es:List (Int×Value)}{vs:List (Int×Value)}{ks:List Key}(h:∃fs,es.Perm fs∧Paired (jd P w) fs ks)(p:vs.Perm es):∃ks',ks'.Perm ks∧Paired (IsK P w) (vs.map (·.2)) ks':=by
 obtain⟨fs,p1,m⟩:=h;obtain⟨ks',p2,q⟩:=gy (p.trans p1) m;exact⟨ks',p2,Q6 (fun _ _ z=>z.1) q⟩
section
variable{prog:Program}{w:World}{A:Around}{E:Value→Shared→Prop}{s:Shared}{a:Addr}{ks:List Key}
theorem nJ{Q:Value→Shared→Prop}(G:b9 prog w s.heap a ks)(hb:ks.length≤sizeLine)(q:∀(it:Addr) (h':Heap) (d:Drawn) (vs:List Value) (fp:List Addr) (St:Nat→Heap→Prop),s.heap.objs.size≤it→(∀b o,s.heap.get? b=some o→h'.get? b=some o)→(∀b∈fp,b=a∨s.heap.objs.size≤b)→
   (∀A':Around,A'.handled=none→Walks prog w A' it fp [it] ks.length (fun i v=>vs[i]?=some v) St)→St 0 h'→vs.length=ks.length→(∃ks',ks'.Perm ks∧Paired (IsK prog w) vs ks')→Q (.ref it) {s with heap:=h',drawn:=d}):
  wpAny (model prog w) A (pyIter (.ref a)) Q E s:=by
 obtain⟨o,es,ep,t,ho,hex,hd,hf,fit,gd,nd⟩:=G;have len:=Sc hf;rw[yU]at len;have lta:a<s.heap.objs.size:=yV ho;have ty:s.TypeIs (.ref a) "set":=⟨o,ho,hex.1⟩;refine Bs ty PySem.F.slot_set_iter (Am PySem.F.slot_set_iter ty Qv ?_ (PySem.F.args_set_iter_1 _));unfold Builtin.«frozenset.__iter__»;refine io (show wpAny _ _ (pure a) _ _ _ from yI ?_);unfold Builtin.Frozenset.sizeOf;refine io (io (wpAny_setEntries_of ho hd fit (yI ?_)));unfold setDrawn;refine io (io (Br ho hd fit (io (Re (yI ?_)))));show wpAny _ _ (if (!w.params.followText "set-order" && (!t.plain && decide (es.size > 1)))=true then _ else _) _ _ _;have fin:∀(first:Value)(s1:Shared)(it:Addr),it=s1.heap.objs.size→s1.heap.get? a=some o→(∀b o,s.heap.get? b=some o→s1.heap.get? b=some o)→s.heap.objs.size≤it→s1={s with heap:=s1.heap,drawn:=s1.drawn}→
   (∀h',h'=s1.heap.push (iS first 0 a es.size ep)→∃(vs:List Value)(fp:List Addr)(St:Nat→Heap→Prop),(∀b∈fp,b=a∨s.heap.objs.size≤b)∧
   (∀A':Around,A'.handled=none→Walks prog w A' it fp [it] es.size (fun i v=>vs[i]?=some v) St)∧St 0 h'∧vs.length=ks.length∧(∃ks',ks'.Perm ks∧Paired (IsK prog w) vs ks'))→
   wpAny (model prog w) A.in1 (do
    let e ←setEpoch a
    let x ←newFields "set_iterator" [first,rawInt 0,.ref a,rawInt es.size,rawInt e]
    ret x) (fun fin s'=>∃v,fin=.done (.ret v)∧∃T' r,s'.TypeIs v T'∧typeLookup (.type T') (Str.ofString "__next__")=pure (some r)∧Q v s') E s1:=by
  intro first s1 it hit ho1 kp le es1 hw
  refine io (wpAny_setEpoch_of ho1 hd fit ?_);unfold newFields;refine io (AH ?_);obtain⟨vs,fp,St,h1,h2,h3,h4,h5⟩:=hw _ rfl;refine yI ⟨_,rfl,"set_iterator",_,⟨_,yY _ rfl,rfl⟩,Xs.lookup,?_⟩;rw[es1,←hit];rw[len]at h2;exact q it _ s1.drawn vs fp St le (fun b o e=>yJ _ (kp b o e)) h1 h2 h3 h4 h5
 by_cases ht:w.params.followText "set-order"=true
 ·rw[ht];rw[if_neg (by simp)];refine io (yI ?_);refine fin (rawInt 0) s s.heap.objs.size rfl ho (fun _ _ e=>e) (yM _) rfl fun h' eh=>?_;subst eh;refine⟨(pickOrder (w.params.setOrder a ep) es).toList.map (·.2),[s.heap.objs.size,a],_,?_,fun A' hA=>l8 hA (y4 lta) ht hd fit,⟨yY _ rfl,yJ _ ho⟩,?_,Ri hf (Ud _ _)⟩
  ·intro b hb
   rcases y8.mp hb with rfl | hb
   ·exact .inr (yM _)
   ·exact .inl (yP.mp hb)
  ·rw[pi,(Ud _ _).length_eq,yU,len]
 ·have ht:w.params.followText "set-order"=false:=z5.mpr ht;rw[ht]at gd⊢;by_cases hdr:(!t.plain && decide (es.size > 1))=true
  ·rw[hdr,yL (by decide)];refine io (Qy es.size (List.range es.size) s (Bt) fun ord d hp=>?_);have ol:ord.length=es.size:=by rw[hp.length_eq,Bt]
   refine io (Cf ?_ (by rw[pi];omega));refine fin (.ref s.heap.objs.size) _ (s.heap.objs.size+1) (by simp[Heap.size_push]) (Heap.get?_push_of_some _ ho) (fun b o e=>Heap.get?_push_of_some _ e) (by omega) rfl fun h' eh=>?_;subst eh;have hpe:(ord.map fun j=>es.getD j (0,.none)).Perm es.toList:=by
    have e:es.toList=(List.range es.size).map fun j=>es.getD j (0,.none):=by
     refine BV fun i=>?_;rw[yS,zc];by_cases hi:i<es.size
     ·rw[yN hi,List.getElem?_range hi];simp[Array.getD,hi]
     ·rw[AR (by omega),BQ (by rw[Bt];omega)];rfl
    rw[e];exact hp.map _
   have v:=Ri hf hpe;rw[zf]at v;refine⟨ord.map fun j=>(es.getD j (0,.none)).2,[s.heap.objs.size+1,a,s.heap.objs.size],_,?_,fun A' hA=>jp (it:=s.heap.objs.size+1) (T:=s.heap.objs.size) hA (y4 (AG lta)) (y4 (Nat.lt_succ_self _)) hp hd fit,⟨?_,yJ _ (yJ _ ho),yJ _ (yY _ rfl)⟩,?_,v⟩
   ·intro b hb
    rcases y8.mp hb with rfl | hb
    ·exact .inr (by omega)
    ·rcases y8.mp hb with rfl | hb
     ·exact .inl rfl
     ·rw[yP.mp hb];exact .inr (yM _)
   ·have:=yY (h:=s.heap.push (plO ord)) (o:=iS (.ref s.heap.objs.size) 0 a es.size ep) rfl;rw[BD]at this;exact this
   ·rw[pi,ol,len]
  ·have hdr:=z5.mpr hdr;rw[hdr,if_neg (by simp)];refine io (yI ?_);refine fin (rawInt 0) s s.heap.objs.size rfl ho (fun _ _ e=>e) (yM _) rfl fun h' eh=>?_;subst eh;refine⟨es.toList.map (·.2),[s.heap.objs.size,a],_,?_,fun A' hA=>hG hA (y4 lta) ht hd fit gd hdr,⟨Aa _,yY _ rfl,yJ _ ho⟩,?_,Ri hf (BE _)⟩
   ·intro b hb
    rcases y8.mp hb with rfl | hb
    ·exact .inr (yM _)
    ·exact .inl (yP.mp hb)
   ·rw[pi,yU,len]
theorem Uu{α:Type}{M:Model}{c:Bool}{X Y:Sem α}{Q:α→Shared→Prop}(h:c=true)(q:wpAny M A X Q E s):wpAny M A (if c=true then X else Y) Q E s:=by
 rw[yL h];exact q
theorem qD{Q:Bool→Shared→Prop}(ty:s.TypeIs (.ref a) "set")(q:Q false s):wpAny (model prog w) A (Builtin.List.listLengthHint (.ref a)) Q E s:=by
 have k1:typeLookup (.type "set") (Str.ofString "__len__")=pure (some (.builtin "set.__len__")):=by kernel_rfl
 have k2:splitId "set.__len__"=some ("set","__len__"):=by kernel_rfl
 have k3:isSubtype (.type "set") (.type "set")=pure true:=PySem.F.called_set.sub;unfold Builtin.List.listLengthHint;refine io (B9 ty k1 ?_);dsimp only;rw[k2];refine io (BF ty k3 ?_);rw[yK (by decide)];refine Uu (by kernel_rfl) (io (BI ty ?_));exact yI q
theorem rc:(Value.type "set" == Value.type "list")=false:=by decide
theorem wD:(Value.type "set" == Value.type "tuple")=false:=by decide
theorem i9{S:Addr}{res:Value}{c₀:Nat}{R:Result→Shared→Prop}(G:b9 prog w s.heap a ks)(hh:A.handled=none)(hb:ks.length≤sizeLine)(hS:S≠a)(eS:s.heap.get? S=some {cls:=.type "list",data:=.seq #[] c₀})(q:∀(g:Heap) (tk:Nat) (d:Drawn) (xs:Array Value) (c:Nat),(∀b o,b≠S→s.heap.get? b=some o→g.get? b=some o)→g.get? S=some {cls:=.type "list",data:=.seq xs c}→(∃ks',ks'.Perm ks∧Paired (IsK prog w) xs.toList ks')→R (.ok (.ret res)) {s with heap:=g,toks:=tk,drawn:=d}):
  wpAny (model prog w) A.in1 (Builtin.List.listExtendWith (.ref S) (.ref a) res) (fun fin s'=>match fin with
   |.done f=>R (.ok f) s'
   |.again c'=>c'.quiet=true∧codeAny (model prog w) A c' R s') (fun e s'=>R (.error e) s') s:=by
 have ty:s.TypeIs (.ref a) "set":=by
  obtain⟨o,es,ep,t,ho,hex,_⟩:=G;exact⟨o,ho,hex.1⟩
 unfold Builtin.List.listExtendWith;refine io (BI ty ?_);have sm:Builtin.List.listSameRef (.ref S) (.ref a)=false:=by
  unfold Builtin.List.listSameRef;simpa using hS
 rw[sm,rc,wD,yK (by decide)];refine io (nJ G hb fun it h1 d vs fp St le kp hf W st len pk=>?_);refine io (zK (qD (s:={s with heap:=h1,drawn:=d}) ?_ ?_))
 ·obtain⟨o,e,c⟩:=ty;exact⟨o,kp _ _ e,c⟩
 have lS:S<s.heap.objs.size:=yV eS;have nS:S∉fp:=fun hm=>by
  rcases hf S hm with z | z
  ·exact hS z
  ·exact absurd lS (Nat.not_lt.mpr z)
 have hA:A.in1.handled=none:=by simpa using hh
 have loop:∀(s2:Shared)(c:Nat),St 0 s2.heap→s2.heap.get? S=some {cls:=.type "list",data:=.seq #[] c}→(∀b o,b≠S→h1.get? b=some o→s2.heap.get? b=some o)→s2={s with heap:=s2.heap,drawn:=d}→
   codeAny (model prog w) A (.builtin "list.extend.loop" ⟨[.ref S,.ref it,res],[]⟩) R s2:=by
  intro s2 c st2 e2 k2 es2;refine codeAny_extend_loopS (W A.in1 hA).toS hb S nS res ks.length 0 s2 #[] c (by omega) (Aa _) st2 e2 (ItemsOf.nil _) fun s' xs c' mv eS' hx=>?_;have ex:s'={s with heap:=s'.heap,toks:=s'.toks,drawn:=d}:=by
   have h1:=mv.gens;have h2:=mv.drawn;have h3:=mv.os;rw[es2]at h1 h2 h3;obtain⟨a1,a2,a3,a4,a5⟩:=s';simp only at h1 h2 h3;subst h1 h2 h3;rfl
  have vx:xs.toList=vs:=by
   refine BV fun j=>?_;obtain⟨sz,at_⟩:=hx;rw[yS];by_cases hj:j<xs.size
   ·have:=at_ j xs[j] (yN hj);rw[yN hj,this]
   ·rw[AR (by omega),BQ (by omega)]
  rw[ex];refine q s'.heap s'.toks d xs c' (fun b o nb e=>mv.heap b o ?_ (k2 b o nb (kp b o e))) eS' (by rw[vx];exact pk);intro hm
  rcases y8.mp hm with z | z
  ·exact nb z
  ·have:=yP.mp z;have l2:b<s.heap.objs.size:=yV e;rw[this]at l2;exact absurd l2 (Nat.not_lt.mpr le)
 refine Uu (by kernel_rfl) (io (AM ?_));unfold Builtin.List.listTouch;have u1:=Bm (c:="list") (kp _ _ eS) (fun x=>x.push Value.none);have u2:=Bm (c:="list") u1 (fun x=>x.pop);refine wpAny_bind (wpAny_bind (listUpdate_at (kp _ _ eS) rfl (listUpdate_at u1 rfl ?_ (by simp[sizeLine_eq]) (by simp)) (by simp) (by simp[sizeLine_eq])));obtain⟨c2,u3⟩:∃c2,((h1.update S (Obj.mapSeq fun x=>x.push Value.none)).update S (Obj.mapSeq fun x=>x.pop)).get? S=some {cls:=.type "list",data:=.seq #[] c2}:=⟨_,u2⟩;have k2:∀b o,b≠S→h1.get? b=some o→((h1.update S (Obj.mapSeq fun x=>x.push Value.none)).update S (Obj.mapSeq fun x=>x.pop)).get? b=some o:=fun b o nb e=>by
  rw[BA _ _ _ _ nb,BA _ _ _ _ nb];exact e
 refine yI ⟨Bg AX _,loop _ c2 ((W A.in1 hA).frame 0 _ _ st fun b hb o e=>k2 b o (fun z=>nS (by rw[←z];exact hb)) e) u3 k2 rfl⟩
def vX(P:Program)(w:World)(s:Shared)(ks:List Key)(q:Result)(s':Shared):Prop:=
 ∃(g:Heap)(tk c:Nat)(d:Drawn)(xs:Array Value),q=.ok (.ret (.ref s.heap.objs.size))∧s'={s with heap:=g,toks:=tk,drawn:=d}∧(∀b o,s.heap.get? b=some o→g.get? b=some o)∧g.get? s.heap.objs.size=some {cls:=.type "list",dict:=none,data:=.seq xs c,slots:=#[]}∧(∃ks',ks'.Perm ks∧Paired (IsK P w) xs.toList ks')
theorem fc{R:List Value→Shared→Prop}(G:b9 prog w s.heap a ks)(hh:A.handled=none)(hb:ks.length≤sizeLine)(h:∀(g:Heap) (tk:Nat) (d:Drawn) (xs:Array Value),(∀b o,s.heap.get? b=some o→g.get? b=some o)→s.heap.objs.size<g.objs.size→(∃ks',ks'.Perm ks∧Paired (IsK prog w) xs.toList ks')→R xs.toList {s with heap:=g,toks:=tk,drawn:=d}):wpAny (model prog w) A (collect (.ref a)) R E s:=by
 have lt1:a<s.heap.objs.size:=by
  obtain⟨o,es,ep,t,ho,_⟩:=G;exact yV ho
 unfold collect;refine io (wpAny_runValue (Aj entry_proto_collect' ?_));rw[zY PySem.F.plain_proto_collect _];refine io (m:=newList []) (AH (yI ⟨Bg AN _,Aj entry_list_iadd' ?_⟩));rw[zY AN _];have own:(s.heap.push {cls:=.type "list",data:=.seq ([]:List Value).toArray}).get? s.heap.objs.size=some {cls:=.type "list",data:=.seq #[]}:=yY _ rfl;have run:=i9 (A:=A) (s:={s with heap:=s.heap.push {cls:=.type "list",data:=.seq ([]:List Value).toArray}}) (R:=vX prog w s ks) (U9 G fun o e=>yJ _ e) hh hb (Ah lt1) (res:=.ref s.heap.objs.size) own
  (fun g tk d xs c hk hS hx=>⟨g,tk,c,d,xs,rfl,rfl,fun b o e=>hk b o (y4 (yV e)) (yJ _ e),hS,hx⟩)
 refine Af run (fun fin s' y=>?_) (fun _ _ y=>by obtain⟨_,_,_,_,_,e,_⟩:=y;cases e);cases fin with
 |done f=>
  obtain⟨g,tk,c,d,xs,e,rfl,hk,hS,hx⟩:=y;cases e;exact io (m:=load s.heap.objs.size) (Cc hS (yI (h g tk d xs hk (yV hS) hx)))
 |again c1=>
  refine⟨y.1,BZ y.2 fun q s2 z=>?_⟩;obtain⟨g,tk,c,d,xs,rfl,rfl,hk,hS,hx⟩:=z;exact io (m:=load s.heap.objs.size) (Cc hS (yI (h g tk d xs hk (yV hS) hx)))
end
theorem Inv.drawnAs{X:Cx}{Cr:List (Addr×Obj)}{σ:St}{H:Hp}{s:Shared}(I:Inv X Cr σ H s)(d:Drawn):Inv X Cr σ H {s with drawn:=d}:=
 I.call (h':=s.heap) (g':=s.gens) (t':=s.toks) (d':=d) (ch:=[]) Un.refl I.hok I.bare (fun _ z=>nomatch z)
theorem Sk{P:Program}{w:World}:∀{vs:List Value}{ks:List Key},Paired (IsK P w) vs ks→(∀k∈ks,∃z,k=Sum.inl z)→∃ns:List Int,ks=ns.map Sum.inl∧IntsAre vs ns
 |_,_,.nil,_=>⟨[],rfl,.nil⟩
 |_,_,.cons f r,h=>by
  obtain⟨z,rfl⟩:=h _ (.head _);obtain⟨ns,rfl,q⟩:=Sk r fun k hk=>h k (.tail _ hk);obtain⟨t,rfl⟩:=mX f;exact⟨z::ns,rfl,.cons z t q⟩
theorem oM{xs ys:List Int}(h:(xs.map (Sum.inl:Int→Key)).Perm (ys.map Sum.inl)):xs.Perm ys:=by
 have:=h.filterMap Sum.getLeft?;rw[List.filterMap_map,List.filterMap_map]at this;simpa [Function.comp_def] using this
section
variable{X:Cx}
def tq(P:Program)(w:World):List V→Hp→VK→Prop:=fun xs H Q=>∃(d:Addr)(ns:List Int),xs=[.ref d]∧H d=some (eA P w d (ns.map Sum.inl))∧ns.length<64∧∀p,H p=none→Q (.ref p) (upd H p (.lst ((dh ns).map V.int)))
theorem e8(hc:X.calm=true):aK X (.builtin "sorted") (tq X.prog X.w):=by
 intro Cr s σ H xs us Q I rx h;obtain⟨d,ns,rfl,hd,h64,q⟩:=h;obtain⟨u,rfl,ru⟩:=Xx rx;cases ru;have G:b9 X.prog X.w s.heap d (ns.map Sum.inl):=(I.hok d _ hd).1;have hh:X.A.in1.handled=none:=by simpa using I.ok.hd hc
 refine Calls.call_function_entry kind_sorted plain_sorted entry_sorted (args_sorted1 _) ?_;unfold Builtin.«sorted»;refine io (m:=checkCount "sorted" 1 1 _) (yI ?_);refine io (fc (A:=X.A.in1) G hh (Ze (by rw[pi];omega)) fun g tk dr CH hk hsz hacc=>?_);obtain⟨ks',pk,pr⟩:=hacc;obtain⟨ns',rfl,hS⟩:=Sk pr fun k hk=>by
  obtain⟨z,_,rfl⟩:=yO.mp (pk.mem_iff.mp hk);exact⟨z,rfl⟩
 have pz:=oM pk;have al:CH.toList.length=ns.length:=by
  have e1:=zd pr;rw[pi]at e1;rw[e1,pz.length_eq]
 refine io (wpAny_newList ?_ (by exact Ze (by omega)));have hoL:(g.push (seqObj "list" CH.toList.toArray 0)).get? g.objs.size=some (seqObj "list" CH.toList.toArray 0):=yY _ rfl;refine io (zK (Am slot_list_sort ⟨_,hoL,rfl⟩ entry_list_sort (list_sort_tree hoL hS (by omega) fun out ms a1 a2 a3=>⟨_,rfl,?_⟩) (args_list_sort _)));refine yI ⟨_,rfl,?_⟩;have ess:=jA (a2.trans pz) a3;subst ess;obtain⟨e2,he2⟩:=sortedHeap_at (vs:=CH.toList) (out:=out) hoL;have hz:s.heap.objs.size≤g.objs.size:=AA hsz;refine⟨.ref g.objs.size,_,(I.drawnAs dr).laid (t':=tk) (o:=.lst ((dh ns).map V.int)) (fun b o e=>?_) hz ?_,rfl,q _ (I.hok.fresh hz)⟩
 ·have e':=hk b o e;have Cz:=yV e';rw[sortedHeap_old (y4 Cz) (by rw[Cn];exact AG Cz)];exact yJ _ e'
 ·refine⟨?_,out.toList,e2,U8 a1,by rw[Bu];exact he2⟩;rw[pi,(V1 ns).length_eq];exact Ze (by omega)
end
def gI(ns:List Int):List Int:=(ddK [] (ns.map Sum.inl)).filterMap Sum.getLeft?
theorem dN(ns:List Int):ddK [] (ns.map Sum.inl)=(gI ns).map Sum.inl:=by
 have h:∀k∈ddK [] (ns.map (Sum.inl:Int→Key)),∃z,k=Sum.inl z:=fun k hk=>by
  rcases(dX _ _ _).mp hk with q | q
  ·exact nomatch q
  ·obtain⟨z,_,rfl⟩:=yO.mp q;exact⟨z,rfl⟩
 unfold gI;generalize ddK [] (ns.map (Sum.inl:Int→Key))=l at h⊢
 induction l with
 |nil=>rfl
 |cons k l ih=>
  obtain⟨z,rfl⟩:=h k (.head _);rw[Bz];show Sum.inl z::l=Sum.inl z::_;rw[←ih fun k hk=>h k (.tail _ hk)]
theorem oV{ns:List Int}{z:Int}:z∈gI ns↔z∈ns:=by
 have h:=dX (ns.map Sum.inl) [] (Sum.inl z:Key);rw[dN,yO,yO]at h;constructor
 ·intro q
  rcases h.mp ⟨z,q,rfl⟩with e | ⟨y,hy,e⟩
  ·exact nomatch e
  ·cases e;exact hy
 ·intro q;obtain⟨y,hy,e⟩:=h.mpr (.inr ⟨z,q,rfl⟩);cases e;exact hy
theorem qB(ns:List Int):(gI ns).length≤ns.length:=by
 have h:=dQ (ns.map (Sum.inl:Int→Key)) [];rw[dN,pi,pi,Ai]at h;omega
section
variable{X:Cx}
theorem mG(hc:X.calm=true):aK X (.type "set") (fun xs H Q=>∃(p:Addr)(ns:List Int),xs=[.ref p]∧SqL X.K H p (ns.map V.int)∧ns.length<4000∧∀a,H a=none→Q (.ref a) (upd H a (eA X.prog X.w a ((gI ns).map Sum.inl)))):=by
 intro Cr s σ H xs us Q I r h;obtain⟨p,ns,rfl,hq,hz,q⟩:=h;refine lz hc Cr s σ H _ us Q I r ⟨p,ns.map Sum.inl,rfl,?_,by rw[pi];exact hz,fun a na=>?_⟩
 ·rw[zf];exact hq
 ·rw[dN];exact q a na
end
section
variable{X:Cx}
end
section
variable{X:Cx}{Cr:List (Addr×Obj)}{σ:St}{H:Hp}{s:Shared}
end
end L2
namespace L2
open PySem PySem.Spec PyProof.Rows
section
variable{α:Type}{K:W.Frag}{a:Addr}{xs:List V}{ks:List α}{k:Nat}{g:TG}{tt:TT}{te:TE}{σ:St}{H:Hp}{Q:VK}
end
end L2
namespace L2
open PySem PySem.Spec PyProof.Rows PySem.Builtin PySem.Builtin.Str
theorem dS{H H':Hp}{a l:Addr}{o:HO}(g:Grw a H H')(n:am a H l=none):Grw a H (upd H' l o):=fun b u e=>by
 have hb:b≠l:=fun q=>by rw[q,n]at e;cases e
 have e2:=g b u e;obtain⟨h1,h2⟩:=Z7 e2;rw[Zh h1,Zb hb];exact h2
end L2
namespace HT
open PySem PySem.Spec PyProof.Rows
section
variable{prog:Program}{w:World}{A:Around}{E:Value→Shared→Prop}{s:Shared}
end
end HT
namespace L2
open PySem PySem.Spec PyProof.Rows
section
variable{X:Cx}
end
theorem wJ{xs:List V}{k:Nat}:bU xs none (some (k:Int))=xs.take k:=by
 unfold bU;rw[HT.sIx_none,BW,Nat.sub_zero,HT.sIx_nat]
 rcases Nat.le_total k xs.length with h | h
 ·rw[Bn h]
 ·rw[Nat.min_eq_right h,Ac (yM _),Ac h]
theorem qR{xs:List V}{k:Nat}:bU xs (some (k:Int)) none=xs.drop k:=by
 unfold bU;rw[HT.sIx_none,HT.sIx_nat]
 rcases Nat.le_total k xs.length with h | h
 ·rw[Bn h,Ac (by rw[AB];omega)]
 ·rw[Nat.min_eq_right h,AC h,AC (yM _),List.take_nil]
section
variable{X:Cx}
end
section
variable{a l d:Addr}{fz:HO}{Hf H' H'':Hp}{xs:List V}{ts:List Th}
end
end L2
namespace HT
open PySem PySem.Spec PyProof.Rows
section
variable{prog:Program}{w:World}{A:Around}{E:Value→Shared→Prop}{s:Shared}
end
end HT
namespace L2
open PySem PySem.Spec PyProof.Rows
section
variable{X:Cx}
end
def aH(prog:Program)(w:World)(A:Around)(s:Shared)(κ:KeyKind)(kd:SortKind):Prop:=
 ∀(E:Value→Shared→Prop)(x y:Value)(a b:κ.α)(Q:Bool→Shared→Prop),κ.keyOf x=some a→κ.keyOf y=some b→Q (κ.blt a b) s→wpAny (model prog w) A (keyLt' kd x y) Q E s
structure Sst(kd:SortKind)(xs0:Array Keyed)(st:SortSt):Prop where
 pm:(arrOf st).Perm xs0
 kn:kindOf st=kd
 pd:pendingOf st=#[]
 fl:failedOf st=none
def Rz(κ:KeyKind)(xs:Array Keyed)(n:Nat):Prop:=∀i j,i≤j→j<n→κ.blt (KK κ xs j) (KK κ xs i)=false
section
variable{prog:Program}{w:World}{A:Around}{E:Value→Shared→Prop}{s:Shared}{κ:KeyKind}{kd:SortKind}{xs0:Array Keyed}{st:SortSt}
theorem Sst.sz(b:Sst kd xs0 st):(arrOf st).size=xs0.size:=b.pm.size_eq
theorem ltF{a b c:κ.α}(h:κ.blt b a=false)(g:κ.blt c b=false):κ.blt c a=false:=by
 rcases e:κ.blt c a with _ | _
 ·rfl
 ·rcases κ.negTrans c b a e with q | q
  ·rw[g]at q;exact q.symm
  ·rw[h]at q;exact q.symm
theorem ltA{a b:κ.α}(h:κ.blt a b=true):κ.blt b a=false:=by
 rcases e:κ.blt b a with _ | _
 ·rfl
 ·have q:=κ.trans a b a h e;rw[κ.irrefl]at q;exact q.symm
theorem Sx{i j:Nat}{Q:Unit→SortSt→Prop}(q:Q () (setArr st (mirror (arrOf st) i j ((j-i) / 2)))):wpS (model prog w) A E s (reverseSlice' i j) Q st:=by
 rw[reverseSlice'_eq];exact BJ q
end
def aD:KeyOrd where
 α:=Int
 blt a b:=decide (a<b)
 irrefl a:=zA (Int.lt_irrefl a)
 trans a b c h g:=yX (Int.lt_trans (yW h) (yW g))
 negTrans a b c h:=by
  have h:=yW h
  rcases Cg a b with q | q
  ·exact .inl (yX q)
  ·exact .inr (yX (by omega))
 total a b h g:=by
  have h:=z6 h;have g:=z6 g;omega
def b_(O U:KeyOrd)(a b:O.α×U.α):Bool:=O.blt a.1 b.1 || (!O.blt b.1 a.1 && U.blt a.2 b.2)
theorem Yk{O U:KeyOrd}{a b:O.α×U.α}:b_ O U a b=true↔O.blt a.1 b.1=true∨(a.1=b.1∧U.blt a.2 b.2=true):=by
 unfold b_;constructor
 ·intro h
  rcases e:O.blt a.1 b.1 with _ | _
  ·rw[e,Bool.false_or,zW,Bv]at h;exact .inr ⟨O.total _ _ e h.1,h.2⟩
  ·exact .inl rfl
 ·rintro(h | ⟨e,h⟩)
  ·rw[h,Bool.true_or]
  ·rw[e,O.irrefl,Bool.false_or,h];rfl
def bN(O U:KeyOrd):KeyOrd where
 α:=O.α×U.α
 blt:=b_ O U
 irrefl a:=by
  rcases e:b_ O U a a with _ | _
  ·rfl
  ·rcases Yk.mp e with h | ⟨_,h⟩
   ·rw[O.irrefl]at h;exact h.symm
   ·rw[U.irrefl]at h;exact h.symm
 trans a b c h g:=by
  rw[Yk]at *
  rcases h with h | ⟨e,h⟩
  ·rcases g with g | ⟨e',g⟩
   ·exact .inl (O.trans _ _ _ h g)
   ·exact .inl (e' ▸ h)
  ·rcases g with g | ⟨e',g⟩
   ·exact .inl (e ▸ g)
   ·exact .inr ⟨e.trans e',U.trans _ _ _ h g⟩
 negTrans a b c h:=by
  rw[Yk]at *;rw[Yk]
  rcases h with h | ⟨e,h⟩
  ·rcases O.negTrans _ b.1 _ h with q | q
   ·exact .inl (.inl q)
   ·exact .inr (.inl q)
  ·rcases e1:O.blt a.1 b.1 with _ | _
   ·rcases e2:O.blt b.1 a.1 with _ | _
    ·have ab:=O.total _ _ e1 e2
     rcases U.negTrans _ b.2 _ h with q | q
     ·exact .inl (.inr ⟨ab,q⟩)
     ·exact .inr (.inr ⟨ab.symm.trans e,q⟩)
    ·exact .inr (.inl (e ▸ e2))
   ·exact .inl (.inl rfl)
 total a b h g:=by
  have n1:∀{a b:O.α×U.α},b_ O U a b=false→O.blt a.1 b.1=false:=fun{a b} h=>by
   rcases e:O.blt a.1 b.1 with _ | _
   ·rfl
   ·rw[Yk.mpr (.inl e)]at h;exact h
  have e:=O.total _ _ (n1 h) (n1 g);have n2:∀{a b:O.α×U.α},a.1=b.1→b_ O U a b=false→U.blt a.2 b.2=false:=fun{a b} e h=>by
   rcases q:U.blt a.2 b.2 with _ | _
   ·rfl
   ·rw[Yk.mpr (.inr ⟨e,q⟩)]at h;exact h
  exact Ad e (U.total _ _ (n2 e h) (n2 e.symm g))
def dy(O:KeyOrd)(R:Value→O.α→Prop)(d:O.α):KeyKind:={O with keyOf:=fun v=>open Classical in if h:∃a,R v a then some h.choose else none,dflt:=d}
theorem N1{O:KeyOrd}{R:Value→O.α→Prop}{d:O.α}{v:Value}{a:O.α}(h:(dy O R d).keyOf v=some a):R v a:=by
 unfold dy at h;simp only at h
 split at h
 ·rename_i q;cases h;exact q.choose_spec
 ·cases h
theorem jJ{O:KeyOrd}{R:Value→O.α→Prop}{d:O.α}{v:Value}{a:O.α}(h:R v a):∃b,(dy O R d).keyOf v=some b:=by
 refine⟨(⟨a,h⟩:∃a,R v a).choose,?_⟩;unfold dy;simp only;rw[dif_pos ⟨a,h⟩]
def eqO(O:KeyOrd)(a b:O.α):Bool:=!O.blt a b && !O.blt b a
theorem Tv{O:KeyOrd}{a b:O.α}:eqO O a b=true↔a=b:=by
 unfold eqO;constructor
 ·intro h;rw[zW,Bv,Bv]at h;exact O.total _ _ h.1 h.2
 ·rintro rfl;rw[O.irrefl];rfl
def cy(h h':Heap):Prop:=∀b o,h.get? b=some o→o.cls=.type "tuple"→h'.get? b=some o
structure El(prog:Program)(w:World)(O:KeyOrd)(R:Heap→Value→O.α→Prop)(T:String):Prop where
 mono:∀{h h':Heap}{v:Value}{a:O.α},cy h h'→R h v a→R h' v a
 fn:∀{h:Heap}{v:Value}{a b:O.α},R h v a→R h v b→a=b
 ty:∀{s:Shared}{v:Value}{a:O.α},R s.heap v a→s.TypeIs v T
 eq:∀{A:Around}{E:Value→Shared→Prop}{s:Shared}{u v:Value}{a b:O.α}{Q:Bool→Shared→Prop},A.units+8<cLine→R s.heap u a→R s.heap v b→Q (eqO O a b) s→wpAny (model prog w) A (eqBool u v) Q E s
 lt:∀{A:Around}{E:Value→Shared→Prop}{s:Shared}{u v:Value}{a b:O.α}{Q:Bool→Shared→Prop}(f:Bool),(f=true→T≠"tuple")→A.units+8<cLine→R s.heap u a→R s.heap v b→Q (O.blt a b) s→wpAny (model prog w) A (oneLt' f u v) Q E s
theorem eqI(a b:Int):(a==b)=eqO aD a b:=by
 rw[Ab,zy];exact(Tv (O:=aD)).symm
def wC(_:Heap)(v:Value)(a:aD.α):Prop:=∃t,v=.int a t
theorem Tc{prog:Program}{w:World}:El prog w aD wC "int" where
 mono _ h:=h
 fn h g:=by
  obtain⟨t,rfl⟩:=h;obtain⟨u,e⟩:=g;cases e;rfl
 ty h:=by
  obtain⟨t,rfl⟩:=h;exact typeIs_int _ _ _
 eq {A E s u v a b Q} _ h g q:=by
  obtain⟨t,rfl⟩:=h;obtain⟨u,rfl⟩:=g;refine wpAny_eqBool_int ?_;exact(eqI a b) ▸ q
 lt {A E s u v a b Q} f _ _ h g q:=by
  obtain⟨t,rfl⟩:=h;obtain⟨u,rfl⟩:=g;cases f with
  |true=>exact oneLt_int q
  |false=>
   rw[oneLt'_eq];rw[yK yT];exact io (wpAny_richCompare_same (op:=.Lt) (typeIs_int _ _ _) (typeIs_int _ _ _) slot_int_lt (call_int_lt ⟨(fun x=>nomatch x),Aw q⟩))
def aU{O U:KeyOrd}(R:Heap→Value→O.α→Prop)(S:Heap→Value→U.α→Prop)(h:Heap)(v:Value)(a:O.α×U.α):Prop:=
 ∃c o n x y,v=.ref c∧h.get? c=some o∧o.cls=.type "tuple"∧o.data=.seq #[x,y] n∧R h x a.1∧S h y a.2
section
variable{prog:Program}{w:World}{O U:KeyOrd}{R:Heap→Value→O.α→Prop}{S:Heap→Value→U.α→Prop}{T V:String}
theorem Wc(e:El prog w O R T)(f:El prog w U S V){h h':Heap}{v:Value}{a:O.α×U.α}(st:cy h h')(p:aU R S h v a):aU R S h' v a:=by
 obtain⟨c,o,n,x,y,rfl,ho,hc,hd,h1,h2⟩:=p;exact⟨c,o,n,x,y,rfl,st _ _ ho hc,hc,hd,e.mono st h1,f.mono st h2⟩
theorem kH(e:El prog w O R T)(f:El prog w U S V){h:Heap}{v:Value}{a b:O.α×U.α}(p:aU R S h v a)(q:aU R S h v b):a=b:=by
 obtain⟨c,o,n,x,y,rfl,ho,hc,hd,h1,h2⟩:=p;obtain⟨c',o',n',x',y',e1,ho',hc',hd',g1,g2⟩:=q;cases e1;rw[ho]at ho';cases ho';rw[hd]at hd';cases hd';exact Ad (e.fn h1 g1) (f.fn h2 g2)
theorem lT(b:Bool)(x y:Value):keyLt' (tuples' b) x y=(do
  let xs ←Builtin.List.listItems x
  let ys ←Builtin.List.listItems y
  for ((p,q),i) in (xs.toList.zip ys.toList).zipIdx do
   if !(←eqBool p q)then return ←oneLt' (b && i==0) p q
  return decide (xs.size<ys.size)):=rfl
theorem rB(e:El prog w O R T)(f:El prog w U S V){A:Around}{E:Value→Shared→Prop}{s:Shared}{x y:Value}{a b:O.α×U.α}{Q:Bool→Shared→Prop}(hu:A.units+8<cLine)(bb:Bool)(hb:bb=true→T≠"tuple")(ha:aU R S s.heap x a)(hb':aU R S s.heap y b)(q:Q (b_ O U a b) s):wpAny (model prog w) A (keyLt' (tuples' bb) x y) Q E s:=by
 obtain⟨c,o,n,x1,x2,rfl,ho,hc,hd,h1,h2⟩:=ha;obtain⟨c',o',n',y1,y2,rfl,ho',hc',hd',g1,g2⟩:=hb';rw[lT];refine io (listItems_at ho hd ?_);refine io (listItems_at ho' hd' ?_);show wpAny _ _ (forIn [((x1,y1),0),((x2,y2),1)] _ _ >>= _) _ _ s;rw[B8];refine io (io (io (e.eq hu h1 g1 ?_)))
 rcases e1:eqO O a.1 b.1 with _ | _
 ·rw[Bool.not_false,yL rfl];have ne:a.1≠b.1:=fun z=>by rw[Tv.mpr z]at e1;cases e1
  have q:Q (O.blt a.1 b.1) s:=by
   have z:b_ O U a b=O.blt a.1 b.1:=by
    rw[Ab,Yk];exact⟨fun h=>h.elim id fun h=>absurd h.1 ne,.inl⟩
   rw[z]at q;exact q
  exact io (e.lt _ (fun z=>hb (by rw[zW]at z;exact z.1)) hu h1 g1 (yI (yI (yI q))))
 ·rw[Bool.not_true,yK yT];have ea:=Tv.mp e1;refine yI ?_;show wpAny _ _ (forIn [((x2,y2),1)] _ _) _ _ s;rw[B8];refine io (io (f.eq hu h2 g2 ?_))
  rcases e2:eqO U a.2 b.2 with _ | _
  ·rw[Bool.not_false,yL rfl];have q:Q (U.blt a.2 b.2) s:=by
    have z:b_ O U a b=U.blt a.2 b.2:=by
     rw[Ab,Yk];constructor
     ·rintro(h | h)
      ·rw[ea,O.irrefl]at h;cases h
      ·exact h.2
     ·exact fun h=>.inr ⟨ea,h⟩
    rw[z]at q;exact q
   exact io (f.lt _ (fun z=>by rw[zW]at z;exact absurd z.2 (by decide)) hu h2 g2 (yI (yI (yI q))))
  ·rw[Bool.not_true,yK yT];have eb:=Tv.mp e2;have q:Q false s:=by
    have z:b_ O U a b=false:=by
     rcases y:b_ O U a b with _ | _
     ·rfl
     ·rcases Yk.mp y with h | h
      ·rw[ea,O.irrefl]at h;exact h.symm
      ·rw[eb,U.irrefl]at h;exact h.2.symm
    rw[z]at q;exact q
   refine yI ?_;show wpAny _ _ (forIn [] _ _) _ _ s;rw[List.forIn_nil];exact yI (yI q)
theorem oy(e:El prog w O R T)(f:El prog w U S V){A:Around}{s:Shared}(hu:A.units+8<cLine)(d:O.α×U.α)(bb:Bool)(hb:bb=true→T≠"tuple"):aH prog w A s (dy (bN O U) (aU R S s.heap) d) (tuples' bb):=
 fun E x y a b Q ha hb' q=>rB e f hu bb hb (N1 ha) (N1 hb') q
theorem lq(a b:Int×Int):HT.lexLt [a.1,a.2] [b.1,b.2]=b_ aD aD a b:=by
 rw[Ab];refine Iff.trans ?_ (Yk (O:=aD) (U:=aD) (a:=a) (b:=b)).symm;rw[HT.lexLt_cons,HT.lexLt_cons,HT.lexLt_nil_nil];show _↔decide (a.1<b.1)=true∨(a.1=b.1∧decide (a.2<b.2)=true);rw[Ap,Ap];by_cases c:a.1=b.1
 ·rw[yL c];by_cases c2:a.2=b.2
  ·rw[yL c2];exact⟨fun h=>(by cases h),fun h=>by omega⟩
  ·rw[yK c2,Ap];exact⟨fun h=>.inr ⟨c,h⟩,fun h=>by omega⟩
 ·rw[yK c,Ap];exact⟨.inl,fun h=>by omega⟩
def wO:Heap→Value→(bN aD aD).α→Prop:=aU wC wC
theorem Rk{h:Heap}{v:Value}{a:Int×Int}(p:wO h v a):∃c its,v=.ref c∧IsTup h c its∧IntsAre its.toList [a.1,a.2]:=by
 obtain⟨c,o,n,x,y,rfl,ho,hc,hd,⟨t,rfl⟩,⟨u,rfl⟩⟩:=p;exact⟨c,_,rfl,⟨o,ho,hc,n,hd⟩,.cons _ _ (.cons _ _ .nil)⟩
theorem ju{h:Heap}{v:Value}{a:Int×Int}(p:wO h v a):∃c,v=.ref c∧IsTupleKey (aa prog w) h [.inl a.1,.inl a.2] c:=by
 obtain⟨c,o,n,x,y,rfl,ho,hc,hd,⟨t,rfl⟩,⟨u,rfl⟩⟩:=p;exact⟨c,rfl,o,_,n,ho,hc,hd,.cons (Wr prog w _ _) (.cons (Wr prog w _ _) .nil)⟩
theorem uS:El prog w (bN aD aD) wO "tuple" where
 mono st p:=Wc (prog:=prog) (w:=w) Tc Tc st p
 fn p q:=kH (prog:=prog) (w:=w) Tc Tc p q
 ty p:=by
  obtain⟨c,its,rfl,t,_⟩:=Rk p;exact t.typeIs
 eq {A E s u v a b Q} hu p p' q:=by
  obtain⟨c,rfl,k⟩:=ju (prog:=prog) (w:=w) p;obtain⟨c',rfl,k'⟩:=ju (prog:=prog) (w:=w) p';refine wpAny_eqBool_tuple (Nat.lt_of_le_of_lt (Nat.le_add_right _ 8) hu) k k' ?_;have z:decide (([.inl a.1,.inl a.2]:List Key)=[.inl b.1,.inl b.2])=eqO (bN aD aD) a b:=by
   rw[Ab,Ap,Tv];constructor
   ·intro h;injection h with h1 h2
    injection h2 with h2 _
    exact Ad (Cd h1) (Cd h2)
   ·rintro rfl;rfl
  rw[z];exact q
 lt {A E s u v a b Q} f hf hu p p' q:=by
  obtain⟨c,its,rfl,t,i⟩:=Rk p;obtain⟨c',its',rfl,t',i'⟩:=Rk p';cases f with
  |true=>exact absurd rfl (hf rfl)
  |false=>
   rw[oneLt'_eq];rw[yK yT];refine io (HT.lt_tupInts t t' i i' (Nat.lt_of_le_of_lt (Nat.le_add_right _ 8) hu) (Aw ?_));exact(lq a b) ▸ q
end
end L2
namespace L2T
open PySem PySem.Spec PyProof.Rows L2
def ky(κ:KeyKind)(p:Keyed):κ.α:=(κ.keyOf p.1).getD κ.dflt
def leK(κ:KeyKind)(p q:Keyed):Prop:=κ.blt (ky κ q) (ky κ p)=false
def Srt(κ:KeyKind)(l:List Keyed):Prop:=l.Pairwise (leK κ)
section
variable{κ:KeyKind}
theorem leK.refl(p:Keyed):leK κ p p:=κ.irrefl _
theorem leK.trans{p q r:Keyed}(h:leK κ p q)(g:leK κ q r):leK κ p r:=ltF h g
theorem leK.of{p q:Keyed}(h:κ.blt (ky κ p) (ky κ q)=true):leK κ p q:=ltA h
structure Mi(κ:KeyKind)(W out A B:List Keyed):Prop where
 pm:(out++(A++B)).Perm W
 so:Srt κ out
 sa:Srt κ A
 sb:Srt κ B
 le:∀x∈out,∀y∈A++B,leK κ x y
theorem Mi.a{W out X A B:List Keyed}(h:Mi κ W out (X++A) B)(hl:∀x∈X,∀y∈B,leK κ x y):Mi κ W (out++X) A B:=by
 have sa:=zM.mp h.sa;refine⟨?_,zM.mpr ⟨h.so,sa.1,fun x hx y hy=>h.le x hx y (zI _ (zI _ hy))⟩,sa.2.1,h.sb,?_⟩
 ·have:=h.pm;simpa [List.append_assoc] using this
 ·intro x hx y hy
  rcases ze.mp hx with hx | hx
  ·refine h.le x hx y ?_
   rcases ze.mp hy with hy | hy
   ·exact zI _ (y3 _ hy)
   ·exact y3 _ hy
  ·rcases ze.mp hy with hy | hy
   ·exact sa.2.2 x hx y hy
   ·exact hl x hx y hy
theorem Mi.sw{W out A B:List Keyed}(h:Mi κ W out A B):Mi κ W out B A:=
 ⟨((List.perm_append_comm).append_left out).trans h.pm,h.so,h.sb,h.sa,fun x hx y hy=>h.le x hx y (ze.mpr (Or.symm (ze.mp hy)))⟩
theorem Mi.b{W out X A B:List Keyed}(h:Mi κ W out A (X++B))(hl:∀x∈X,∀y∈A,leK κ x y):Mi κ W (out++X) A B:=(h.sw.a hl).sw
theorem Mi.fin{W out A B:List Keyed}(h:Mi κ W out A B)(hl:∀x∈A,∀y∈B,leK κ x y):(out++A++B).Perm W∧Srt κ (out++A++B):=by
 refine⟨by rw[zU];exact h.pm,?_⟩;rw[zU];exact zM.mpr ⟨h.so,zM.mpr ⟨h.sa,h.sb,hl⟩,h.le⟩
structure Mh(κ:KeyKind)(W out A B:List Keyed):Prop where
 pm:((A++B)++out).Perm W
 so:Srt κ out
 sa:Srt κ A
 sb:Srt κ B
 le:∀x∈A++B,∀y∈out,leK κ x y
theorem Mh.b{W out X A B:List Keyed}(h:Mh κ W out A (B++X))(hl:∀x∈X,∀y∈A,leK κ y x):Mh κ W (X++out) A B:=by
 have sb:=zM.mp h.sb;refine⟨?_,zM.mpr ⟨sb.2.1,h.so,fun x hx y hy=>h.le x (y3 _ (y3 _ hx)) y hy⟩,h.sa,sb.1,?_⟩
 ·have:=h.pm;simpa [List.append_assoc] using this
 ·intro x hx y hy
  rcases ze.mp hy with hy | hy
  ·rcases ze.mp hx with hx | hx
   ·exact hl y hy x hx
   ·exact sb.2.2 x hx y hy
  ·refine h.le x ?_ y hy
   rcases ze.mp hx with hx | hx
   ·exact zI _ hx
   ·exact y3 _ (zI _ hx)
theorem Mh.sw{W out A B:List Keyed}(h:Mh κ W out A B):Mh κ W out B A:=
 ⟨((List.perm_append_comm).append_right out).trans h.pm,h.so,h.sb,h.sa,fun x hx y hy=>h.le x (ze.mpr (Or.symm (ze.mp hx))) y hy⟩
theorem Mh.a{W out X A B:List Keyed}(h:Mh κ W out (A++X) B)(hl:∀x∈X,∀y∈B,leK κ y x):Mh κ W (X++out) A B:=(h.sw.b hl).sw
theorem Mh.fin{W out A B:List Keyed}(h:Mh κ W out A B)(hl:∀x∈A,∀y∈B,leK κ x y):(A++B++out).Perm W∧Srt κ (A++B++out):=
 ⟨h.pm,zM.mpr ⟨zM.mpr ⟨h.sa,h.sb,hl⟩,h.so,h.le⟩⟩
theorem Srt.at{l:List Keyed}(h:Srt κ l){i j:Nat}{x y:Keyed}(hij:i≤j)(hx:l[i]?=some x)(hy:l[j]?=some y):leK κ x y:=by
 rcases z9 i j with c | c
 ·obtain⟨hi,rfl⟩:=yZ.mp hx;obtain⟨hj,rfl⟩:=yZ.mp hy;exact AW.mp h i j hi hj c
 ·obtain rfl:i=j:=by omega
  rw[hx]at hy;cases hy;exact leK.refl _
theorem KK_ky{xs:Array Keyed}{i:Nat}{p:Keyed}(h:xs[i]?=some p):KK κ xs i=ky κ p:=by
 unfold KK ky;rw[h]
end
def aM:Bool→Keyed→Array Keyed→Nat→Nat→Nat→StateT SortSt Sem (Option Nat):=sortPriv% PySem.Builtin.gallop
def bq(left:Bool)(key:Keyed)(arr:Array Keyed)(base i:Nat):StateT SortSt Sem (Option Bool):=do
 let x ←elem' arr (base+i)
 if left then lt' x key else return (←lt' key x).map (!·)
theorem iH(left:Bool)(key:Keyed)(arr:Array Keyed)(base n hint:Nat):aM left key arr base n hint=(do
 let mut lastofs:=0
 let mut ofs:=1
 let mut lo:=0
 let mut hi:=0
 let some right ←bq left key arr base hint | return none
 if right then
  let maxofs:=n-hint
  for _ in [0:n] do
   if ofs ≥ maxofs then break
   let some more ←bq left key arr base (hint+ofs) | return none
   if !more then break
   lastofs:=ofs
   ofs:=2*ofs+1
  lo:=hint+lastofs+1
  hi:=hint+min ofs maxofs
 else
  let maxofs:=hint+1
  for _ in [0:n] do
   if ofs ≥ maxofs then break
   let some found ←bq left key arr base (hint-ofs) | return none
   if found then break
   lastofs:=ofs
   ofs:=2*ofs+1
  lo:=hint+1-min ofs maxofs
  hi:=hint-lastofs
 for _ in [0:n] do
  if lo ≥ hi then break
  let m:=lo+(hi-lo) / 2
  let some more ←bq left key arr base m | return none
  if more then lo:=m+1 else hi:=m
 return some hi):=rfl
section
variable{prog:Program}{w:World}{A:Around}{E:Value→Shared→Prop}{s:Shared}{κ:KeyKind}{kd:SortKind}{st:SortSt}
theorem P0{x y:Keyed}{Q:Option Bool→SortSt→Prop}(hc:aH prog w A s κ kd)(kn:kindOf st=kd)(hx:∃a,κ.keyOf x.1=some a)(hy:∃a,κ.keyOf y.1=some a)(q:Q (some (κ.blt (ky κ x) (ky κ y))) st):wpS (model prog w) A E s (lt' x y) Q st:=by
 obtain⟨a,ha⟩:=hx;obtain⟨b,hb⟩:=hy;have e1:ky κ x=a:=by unfold ky;rw[ha];rfl
 have e2:ky κ y=b:=by unfold ky;rw[hb];rfl
 rw[e1,e2]at q;rw[lt'_eq];refine y9 (Cp ?_);rw[kn];exact y9 (wpS_lift (wpAny_attempt (hc _ x.1 y.1 a b _ ha hb ⟨rfl,y7 q⟩)))
def bey(κ:KeyKind)(left:Bool)(key:Keyed)(p:Keyed):Bool:=if left then κ.blt (ky κ p) (ky κ key)else !κ.blt (ky κ key) (ky κ p)
theorem Vc{left:Bool}{key p q:Keyed}(h:leK κ p q)(g:bey κ left key q=true):bey κ left key p=true:=by
 unfold bey at g⊢;cases left with
 |true=>
  simp only[if_true]at g⊢
  rcases κ.negTrans _ (ky κ p) _ g with z | z
  ·rw[h]at z;cases z
  ·exact z
 |false=>
  simp only[Bool.false_eq_true,if_false,Bool.not_eq_true']at g⊢;exact ltF h g
theorem Ol{left:Bool}{key:Keyed}{arr:Array Keyed}{base i:Nat}{p:Keyed}{Q:Option Bool→SortSt→Prop}(hc:aH prog w A s κ kd)(kn:kindOf st=kd)(hk:KeysOf κ arr)(hy:∃a,κ.keyOf key.1=some a)(e:arr[base+i]?=some p)(q:Q (some (bey κ left key p)) st):wpS (model prog w) A E s (bq left key arr base i) Q st:=by
 unfold bq;rw[elem'_eq,e];have hx:∃a,κ.keyOf p.1=some a:=hk p (Bp.mpr (Array.mem_of_getElem? e));refine y9 (y7 ?_);cases left with
 |true=>exact P0 hc kn hx hy q
 |false=>exact y9 (P0 hc kn hy hx (y7 q))
def uD(left:Bool)(key:Keyed)(arr:Array Keyed)(base n lo0 hi0:Nat):StateT SortSt Sem (Option Nat):=do
 let mut lo:=lo0
 let mut hi:=hi0
 for _ in [0:n] do
  if lo ≥ hi then break
  let m:=lo+(hi-lo) / 2
  let some more ←bq left key arr base m | return none
  if more then lo:=m+1 else hi:=m
 return some hi
theorem Wb{left:Bool}{key:Keyed}{arr:Array Keyed}{base n hint:Nat}{Q:Option Nat→SortSt→Prop}(hc:aH prog w A s κ kd)(kn:kindOf st=kd)(hk:KeysOf κ arr)(hy:∃a,κ.keyOf key.1=some a)(hn:hint<n)(hs:base+n≤arr.size)(so:Srt κ ((arr.toList.drop base).take n))(fin:∀m,m≤n→(∀i p,i<m→arr[base+i]?=some p→bey κ left key p=true)→(∀i p,m≤i→i<n→arr[base+i]?=some p→bey κ left key p=false)→Q (some m) st):wpS (model prog w) A E s (aM left key arr base n hint) Q st:=by
 have at_:∀i,i<n→∃p,arr[base+i]?=some p∧((arr.toList.drop base).take n)[i]?=some p:=fun i hi=>by
  have hb:base+i<arr.size:=by omega
  refine⟨arr[base+i],yN hb,?_⟩;rw[z7,yL hi,Aq,yS];exact yN hb
 have up:∀{i j p q},i≤j→j<n→arr[base+i]?=some p→arr[base+j]?=some q→leK κ p q:=fun{i j p q} hij hj hp hq=>by
  obtain⟨p',e1,e2⟩:=at_ i (by omega);obtain⟨q',e3,e4⟩:=at_ j hj;rw[hp]at e1;rw[hq]at e3;cases e1;cases e3;exact so.at hij e2 e4
 rw[iH];obtain⟨ph,eh,_⟩:=at_ hint hn;refine y9 (Ol hc kn hk hy eh ?_);dsimp only;have last:∀lo hi,lo≤hi→hi≤n→(∀i p,i<lo→arr[base+i]?=some p→bey κ left key p=true)→(∀i p,hi≤i→i<n→arr[base+i]?=some p→bey κ left key p=false)→wpS (model prog w) A E s (uD left key arr base n lo hi) Q st:=by
  intro lo hi lh hn' g1 g2;unfold uD;refine y9 (AS (Ar (Q:=fun c u=>u=st∧∃m,c=(none,m,m)∧m≤n∧(∀i p,i<m→arr[base+i]?=some p→bey κ left key p=true)∧(∀i p,m≤i→i<n→arr[base+i]?=some p→bey κ left key p=false))
   (fun x c u=>u=st∧∃lo hi,c=(none,lo,hi)∧lo≤hi∧hi≤n∧hi+x≤n+lo∧(∀i p,i<lo→arr[base+i]?=some p→bey κ left key p=true)∧(∀i p,hi≤i→i<n→arr[base+i]?=some p→bey κ left key p=false)) ?_ ?_ ⟨rfl,lo,hi,rfl,lh,hn',by omega,g1,g2⟩) ?_)
  ·rintro x _ _ _ hx ⟨rfl,lo,hi,rfl,lh,hn',hh,g1,g2⟩;dsimp only
   rcases z9 lo hi with c | c
   ·rw[yK (by omega)];obtain⟨p,e,_⟩:=at_ (lo+(hi-lo) / 2) (by omega);refine y9 (Ol hc kn hk hy e ?_);dsimp only
    rcases b:bey κ left key p with _ | _
    ·rw[yK yT];refine y7 ⟨rfl,lo,lo+(hi-lo) / 2,rfl,by omega,by omega,by omega,g1,fun i q h1 h2 hq=>?_⟩
     rcases z:bey κ left key q with _ | _
     ·rfl
     ·rw[Vc (up h1 h2 e hq) z]at b;cases b
    ·rw[yL rfl];refine y7 ⟨rfl,lo+(hi-lo) / 2+1,hi,rfl,by omega,by omega,by omega,fun i q h1 hq=>?_,g2⟩;exact Vc (up (show i≤lo+(hi-lo) / 2 by omega) (by omega) hq e) b
   ·rw[yL c];obtain rfl:lo=hi:=by omega
    exact y7 ⟨rfl,lo,rfl,hn',g1,g2⟩
  ·rintro _ _ ⟨rfl,lo,hi,rfl,lh,hn',hh,g1,g2⟩;obtain rfl:lo=hi:=by omega
   exact⟨rfl,lo,rfl,hn',g1,g2⟩
  ·rintro _ _ ⟨rfl,m,rfl,hm,g1,g2⟩;exact y7 (fin m hm g1 g2)
 rcases b:bey κ left key ph with _ | _
 ·rw[yK yT];refine y9 (AS (Ar (Q:=fun c u=>u=st∧∃l o,c=(none,l,o)∧l<o∧l≤hint∧(∀p,arr[base+(hint-l)]?=some p→bey κ left key p=false)∧(hint+1≤o∨∀p,arr[base+(hint-o)]?=some p→bey κ left key p=true))
   (fun x c u=>u=st∧∃l o,c=(none,l,o)∧l<o∧l≤hint∧x<o∧(∀p,arr[base+(hint-l)]?=some p→bey κ left key p=false)) ?_ ?_ ⟨rfl,0,1,rfl,by omega,by omega,by omega,fun p hp=>by rw[Nat.sub_zero,eh]at hp;cases hp;exact b⟩) ?_)
  ·rintro x _ _ _ hx ⟨rfl,l,o,rfl,lo,lh,xo,g⟩;dsimp only
   rcases z9 o (hint+1)with c | c
   ·rw[yK (by omega)];obtain⟨p,e,_⟩:=at_ (hint-o) (by omega);refine y9 (Ol hc kn hk hy e ?_);dsimp only
    rcases z:bey κ left key p with _ | _
    ·rw[yK yT];exact y7 ⟨rfl,o,2*o+1,rfl,by omega,by omega,by omega,fun q hq=>by rw[e]at hq;cases hq;exact z⟩
    ·rw[yL rfl];exact y7 ⟨rfl,l,o,rfl,lo,lh,g,.inr fun q hq=>by rw[e]at hq;cases hq;exact z⟩
   ·rw[yL c];exact y7 ⟨rfl,l,o,rfl,lo,lh,g,.inl c⟩
  ·rintro _ _ ⟨rfl,l,o,rfl,lo,lh,xo,g⟩;exact⟨rfl,l,o,rfl,lo,lh,g,.inl (by omega)⟩
  ·rintro _ _ ⟨rfl,l,o,rfl,lo,lh,g,h⟩;refine last (hint+1-min o (hint+1)) (hint-l) (by omega) (by omega) (fun i p hi hp=>?_) fun i p h1 h2 hp=>?_
   ·rcases h with h | h
    ·omega
    ·rcases z9 hint o with c | c
     ·omega
     ·obtain⟨q,e,_⟩:=at_ (hint-o) (by omega);exact Vc (up (show i≤hint-o by omega) (by omega) hp e) (h q e)
   ·obtain⟨q,e,_⟩:=at_ (hint-l) (by omega)
    rcases z:bey κ left key p with _ | _
    ·rfl
    ·have:=Vc (up h1 h2 e hp) z;rw[g q e]at this;cases this
 ·rw[yL rfl];refine y9 (AS (Ar (Q:=fun c u=>u=st∧∃l o,c=(none,l,o)∧l<o∧hint+l<n∧(∀p,arr[base+(hint+l)]?=some p→bey κ left key p=true)∧(n-hint≤o∨∀p,arr[base+(hint+o)]?=some p→bey κ left key p=false))
   (fun x c u=>u=st∧∃l o,c=(none,l,o)∧l<o∧hint+l<n∧x<o∧(∀p,arr[base+(hint+l)]?=some p→bey κ left key p=true)) ?_ ?_ ⟨rfl,0,1,rfl,by omega,by omega,by omega,fun p hp=>by rw[Nat.add_zero,eh]at hp;cases hp;exact b⟩) ?_)
  ·rintro x _ _ _ hx ⟨rfl,l,o,rfl,lo,lh,xo,g⟩;dsimp only
   rcases z9 o (n-hint)with c | c
   ·rw[yK (by omega)];obtain⟨p,e,_⟩:=at_ (hint+o) (by omega);refine y9 (Ol hc kn hk hy e ?_);dsimp only
    rcases z:bey κ left key p with _ | _
    ·rw[yL (by rfl)];exact y7 ⟨rfl,l,o,rfl,lo,lh,g,.inr fun q hq=>by rw[e]at hq;cases hq;exact z⟩
    ·rw[yK (by decide)];exact y7 ⟨rfl,o,2*o+1,rfl,by omega,by omega,by omega,fun q hq=>by rw[e]at hq;cases hq;exact z⟩
   ·rw[yL c];exact y7 ⟨rfl,l,o,rfl,lo,lh,g,.inl c⟩
  ·rintro _ _ ⟨rfl,l,o,rfl,lo,lh,xo,g⟩;exact⟨rfl,l,o,rfl,lo,lh,g,.inl (by omega)⟩
  ·rintro _ _ ⟨rfl,l,o,rfl,lo,lh,g,h⟩;refine last (hint+l+1) (hint+min o (n-hint)) (by omega) (by omega) (fun i p hi hp=>?_) fun i p h1 h2 hp=>?_
   ·obtain⟨q,e,_⟩:=at_ (hint+l) (by omega);exact Vc (up (show i≤hint+l by omega) (by omega) hp e) (g q e)
   ·rcases h with h | h
    ·omega
    ·rcases z9 o (n-hint)with c | c
     ·obtain⟨q,e,_⟩:=at_ (hint+o) (by omega)
      rcases z:bey κ left key p with _ | _
      ·rfl
      ·have:=Vc (up (show hint+o≤i by omega) h2 e hp) z;rw[h q e]at this;cases this
     ·omega
end
end L2T
namespace L2T
open PySem PySem.Spec PyProof.Rows L2
def aB:Nat→StateT SortSt Sem Unit:=sortPriv% PySem.Builtin.setMinGallop
abbrev dk(st:SortSt)(g:Nat):SortSt:=SortSt.mk' (kindOf st) (arrOf st) (pendingOf st) g (failedOf st)
theorem X1(g:Nat):aB g=modify fun s=>dk s g:=rfl
def c8:Array Keyed→Array Keyed→StateT SortSt Sem (Array Keyed):=sortPriv% PySem.Builtin.mergeLo
theorem fZ(a b:Array Keyed):c8 a b=(do
 rule "list.sort.merge-lo"
 let total:=a.size+b.size
 let done (out:Array Keyed) (ia ib:Nat):=out++a.extract ia a.size++b.extract ib b.size
 let lastOfA (out:Array Keyed) (ia ib:Nat):=out++b.extract ib b.size++a.extract ia a.size
 let mut out:Array Keyed:=#[←elem' b 0]
 let mut ia:=0
 let mut ib:=1
 if ib==b.size then return done out ia ib
 if ia+1==a.size then return lastOfA out ia ib
 let mut CL:=gallopOf (←get)
 for _ in [0:total] do
  let mut acount:=0
  let mut bcount:=0
  for _ in [0:total] do
   let some bWins ←lt' (←elem' b ib) (←elem' a ia) | return done out ia ib
   if bWins then
    out:=out.push (←elem' b ib);ib:=ib+1;bcount:=bcount+1;acount:=0
    if ib==b.size then return done out ia ib
    if bcount ≥ CL then break
   else
    out:=out.push (←elem' a ia);ia:=ia+1;acount:=acount+1;bcount:=0
    if ia+1==a.size then return lastOfA out ia ib
    if acount ≥ CL then break
  rule "list.sort.gallop"
  CL:=CL+1
  for _ in [0:total] do
   if CL > 1 then CL:=CL-1
   aB CL
   let some k ←aM false (←elem' b ib) a ia (a.size-ia) 0 | return done out ia ib
   acount:=k
   if k > 0 then
    out:=out++a.extract ia (ia+k);ia:=ia+k
    if ia+1==a.size then return lastOfA out ia ib
    if ia==a.size then return done out ia ib
   out:=out.push (←elem' b ib);ib:=ib+1
   if ib==b.size then return done out ia ib
   let some k ←aM true (←elem' a ia) b ib (b.size-ib) 0 | return done out ia ib
   bcount:=k
   if k > 0 then
    out:=out++b.extract ib (ib+k);ib:=ib+k
    if ib==b.size then return done out ia ib
   out:=out.push (←elem' a ia);ia:=ia+1
   if ia+1==a.size then return lastOfA out ia ib
   if acount<7 && bcount<7 then break
  CL:=CL+1
  aB CL
 unsupported "internal:list.sort.merge-bound"):=rfl
section
variable{prog:Program}{w:World}{A:Around}{E:Value→Shared→Prop}{s:Shared}{κ:KeyKind}{kd:SortKind}{st:SortSt}
def GalS(st u:SortSt):Prop:=∃g,u=dk st g
theorem GalS.refl:GalS st st:=⟨gallopOf st,rfl⟩
theorem GalS.set{u:SortSt}(h:GalS st u)(g:Nat):GalS st (dk u g):=by
 obtain⟨_,rfl⟩:=h;exact⟨g,rfl⟩
theorem GalS.kn{u:SortSt}(h:GalS st u):kindOf u=kindOf st:=by
 obtain⟨_,rfl⟩:=h;rfl
theorem Rb(xs:Array Keyed)(i:Nat):(xs.extract i xs.size).toList=xs.toList.drop i:=by
 rw[Bw,AY,Ac];rw[AB,yU];exact yM _
theorem fM(xs:Array Keyed)(i k:Nat):(xs.extract i (i+k)).toList=(xs.toList.drop i).take k:=by
 rw[Bw,AY,Nat.add_sub_cancel_left]
theorem eu{xs:Array Keyed}{i:Nat}(h:i<xs.size):xs.toList.drop i=[xs[i]]++xs.toList.drop (i+1):=by
 rw[List.drop_eq_getElem_cons (by rw[yU];exact h)];rfl
theorem Qw(l:List Keyed)(i k:Nat):l.drop i=(l.drop i).take k++l.drop (i+k):=by
 rw[←BX,Ag]
theorem Yc{xs:Array Keyed}{i:Nat}(h:i<xs.size):elem' xs i=pure xs[i]:=by rw[elem'_eq,yN h]
theorem Va{xs:Array Keyed}{i:Nat}{y:Keyed}(h:y∈xs.toList.drop i):∃j,xs[i+j]?=some y∧i+j<xs.size:=by
 obtain⟨j,hj⟩:=AZ.mp h;rw[Aq,yS]at hj;exact⟨j,hj,(Bh.mp hj).1⟩
theorem Wy{xs:Array Keyed}{i k:Nat}{y:Keyed}(h:y∈(xs.toList.drop i).take k):∃j,xs[i+j]?=some y∧j<k∧i+j<xs.size:=by
 obtain⟨j,hj⟩:=AZ.mp h;rw[z7]at hj
 split at hj
 ·next c=>
  rw[Aq,yS]at hj;exact⟨j,hj,c,(Bh.mp hj).1⟩
 ·cases hj
theorem W3{xs:Array Keyed}(hk:KeysOf κ xs){i:Nat}(h:i<xs.size):∃a,κ.keyOf xs[i].1=some a:=hk _ (Bp.mpr (Array.getElem_mem h))
abbrev dn(a b out:Array Keyed)(ia ib:Nat):Array Keyed:=out++a.extract ia a.size++b.extract ib b.size
abbrev la(a b out:Array Keyed)(ia ib:Nat):Array Keyed:=out++b.extract ib b.size++a.extract ia a.size
abbrev T2:Type:=Option (Array Keyed)×Array Keyed×Nat×Nat×Nat×Nat×Nat
def lo3(a b out:Array Keyed)(ia ib mg k1 k2:Nat):StateT SortSt Sem (ForInStep T2):=do
 let x ←elem' a ia
 if (ia+1+1==a.size)=true then pure (.done (some (la a b (out.push x) (ia+1) ib),out.push x,ia+1,ib,mg,k1,k2))
 else if (decide (k1<7) && decide (k2<7))=true then pure (.done (none,out.push x,ia+1,ib,mg,k1,k2))
 else pure (.yield (none,out.push x,ia+1,ib,mg,k1,k2))
def lo2(a b out:Array Keyed)(ia ib mg k1 k20:Nat):StateT SortSt Sem (ForInStep T2):=do
 let x ←elem' b ib
 if (ib+1==b.size)=true then pure (.done (some (dn a b (out.push x) ia (ib+1)),out.push x,ia,ib+1,mg,k1,k20))
 else do
  let y ←elem' a ia
  let r ←aM true y b (ib+1) (b.size-(ib+1)) 0
  match r with
  |some k=>
   if k > 0 then
    if (ib+1+k==b.size)=true then pure (.done (some (dn a b (out.push x++b.extract (ib+1) (ib+1+k)) ia (ib+1+k)),out.push x++b.extract (ib+1) (ib+1+k),ia,ib+1+k,mg,k1,k))
    else lo3 a b (out.push x++b.extract (ib+1) (ib+1+k)) ia (ib+1+k) mg k1 k
   else lo3 a b (out.push x) ia (ib+1) mg k1 k
  |_=>pure (.done (some (dn a b (out.push x) ia (ib+1)),out.push x,ia,ib+1,mg,k1,k20))
def lo1(a b out:Array Keyed)(ia ib mg k10 k20:Nat):StateT SortSt Sem (ForInStep T2):=do
 aB mg
 let x ←elem' b ib
 let r ←aM false x a ia (a.size-ia) 0
 match r with
 |some k=>
  if k > 0 then
   if (ia+k+1==a.size)=true then pure (.done (some (la a b (out++a.extract ia (ia+k)) (ia+k) ib),out++a.extract ia (ia+k),ia+k,ib,mg,k,k20))
   else if (ia+k==a.size)=true then pure (.done (some (dn a b (out++a.extract ia (ia+k)) (ia+k) ib),out++a.extract ia (ia+k),ia+k,ib,mg,k,k20))
   else lo2 a b (out++a.extract ia (ia+k)) (ia+k) ib mg k k20
  else lo2 a b out ia ib mg k k20
 |_=>pure (.done (some (dn a b out ia ib),out,ia,ib,mg,k10,k20))
structure LoC(κ:KeyKind)(a b:Array Keyed):Prop where
 ha:KeysOf κ a
 hb:KeysOf κ b
 sa:Srt κ a.toList
 sb:Srt κ b.toList
 h1:∀x∈b.toList,∀y∈a.toList.drop (a.size-1),leK κ x y
structure Jl(κ:KeyKind)(a b out:Array Keyed)(ia ib:Nat):Prop where
 mi:Mi κ (a.toList++b.toList) out.toList (a.toList.drop ia) (b.toList.drop ib)
 ia1:ia+1<a.size
 ib1:ib<b.size
 sz:out.size=ia+ib
def Mgd(κ:KeyKind)(a b r:Array Keyed):Prop:=r.toList.Perm (a.toList++b.toList)∧Srt κ r.toList
def Rs(κ:KeyKind)(a b:Array Keyed)(N:Nat)(c:T2):Prop:=(∃r,c.1=some r∧Mgd κ a b r)∨(c.1=none∧Jl κ a b c.2.1 c.2.2.1 c.2.2.2.1∧N<c.2.1.size)
def Ps2(κ:KeyKind)(a b:Array Keyed)(st:SortSt)(N:Nat):ForInStep T2→SortSt→Prop:=fun r u=>GalS st u∧match r with
 |.done c=>Rs κ a b N c
 |.yield c=>c.1=none∧Jl κ a b c.2.1 c.2.2.1 c.2.2.2.1∧N<c.2.1.size
theorem fe{a b out:Array Keyed}{ia ib:Nat}(h:Mi κ (a.toList++b.toList) out.toList (a.toList.drop ia) (b.toList.drop ib))(e:ia=a.size∨ib=b.size):Mgd κ a b (dn a b out ia ib):=by
 have q:=h.fin fun x hx y hy=>by
  rcases e with rfl | rfl
  ·rw[AC (by rw[yU];exact yM _)]at hx;cases hx
  ·rw[AC (by rw[yU];exact yM _)]at hy;cases hy
 unfold Mgd dn;rw[zZ,zZ,Rb,Rb];exact q
theorem jV{a b out:Array Keyed}{ia ib:Nat}(C:LoC κ a b)(h:Mi κ (a.toList++b.toList) out.toList (a.toList.drop ia) (b.toList.drop ib))(e:ia+1=a.size):Mgd κ a b (la a b out ia ib):=by
 have q:=h.sw.fin fun x hx y hy=>C.h1 x (Bx hx) y (by rw[show a.size-1=ia by omega];exact hy);unfold Mgd la;rw[zZ,zZ,Rb,Rb];exact q
theorem nQ{a b out:Array Keyed}{ia ib:Nat}(h:Mi κ (a.toList++b.toList) out.toList (a.toList.drop ia) (b.toList.drop ib))(hb:ib<b.size)(hl:∀y∈a.toList.drop ia,leK κ b[ib] y):Mi κ (a.toList++b.toList) (out.push b[ib]).toList (a.toList.drop ia) (b.toList.drop (ib+1)):=by
 rw[eu hb]at h;rw[Bb];exact h.b fun x hx y hy=>by rw[yP.mp hx];exact hl y hy
theorem uk{a b out:Array Keyed}{ia ib:Nat}(h:Mi κ (a.toList++b.toList) out.toList (a.toList.drop ia) (b.toList.drop ib))(ha:ia<a.size)(hl:∀y∈b.toList.drop ib,leK κ a[ia] y):Mi κ (a.toList++b.toList) (out.push a[ia]).toList (a.toList.drop (ia+1)) (b.toList.drop ib):=by
 rw[eu ha]at h;rw[Bb];exact h.a fun x hx y hy=>by rw[yP.mp hx];exact hl y hy
theorem pQ{a b out:Array Keyed}{ia ib mg k1 k2 N:Nat}{u:SortSt}(C:LoC κ a b)(gu:GalS st u)(j:Jl κ a b out ia ib)(hN:N≤out.size)(hl:∀y∈b.toList.drop ib,leK κ (a[ia]'(by have:=j.ia1;omega)) y):wpS (model prog w) A E s (lo3 a b out ia ib mg k1 k2) (Ps2 κ a b st N) u:=by
 have i1:=j.ia1;unfold lo3;rw[Yc (show ia<a.size by omega)];refine y9 (y7 ?_);have m:=uk j.mi (show ia<a.size by omega) hl;have sz:=j.sz;have zz:(out.push (a[ia]'(by omega))).size=out.size+1:=AK _;by_cases c:ia+1+1=a.size
 ·rw[yL (by rw[zy];exact c)];exact y7 ⟨gu,.inl ⟨_,rfl,jV C m c⟩⟩
 ·rw[yK (by rw[zy];exact c)];have j2:Jl κ a b (out.push (a[ia]'(by omega))) (ia+1) ib:=⟨m,by omega,j.ib1,by rw[zz];omega⟩
  split
  ·exact y7 ⟨gu,.inr ⟨rfl,j2,by show N<(out.push _).size;omega⟩⟩
  ·exact y7 ⟨gu,rfl,j2,by show N<(out.push _).size;omega⟩
theorem px{a b out:Array Keyed}{ia ib mg k1 k2 N:Nat}{u:SortSt}(hc:aH prog w A s κ kd)(kn:kindOf st=kd)(C:LoC κ a b)(gu:GalS st u)(j:Jl κ a b out ia ib)(hN:N≤out.size)(hl:∀y∈a.toList.drop ia,leK κ (b[ib]'j.ib1) y):wpS (model prog w) A E s (lo2 a b out ia ib mg k1 k2) (Ps2 κ a b st N) u:=by
 have i1:=j.ia1;have i2:=j.ib1;unfold lo2;rw[Yc i2];refine y9 (y7 ?_);have m:=nQ j.mi i2 hl;have sz:=j.sz;have zz:(out.push b[ib]).size=out.size+1:=AK _;by_cases c:ib+1=b.size
 ·rw[yL (by rw[zy];exact c)];exact y7 ⟨gu,.inl ⟨_,rfl,fe m (.inr c)⟩⟩
 rw[yK (by rw[zy];exact c),Yc (show ia<a.size by omega)];refine y9 (y7 ?_);have kl:ib+1+(b.size-(ib+1))=b.size:=by omega
 refine y9 (Wb hc (gu.kn.trans kn) C.hb (W3 C.ha (show ia<a.size by omega)) (by omega) (by omega) (C.sb.sublist ((Bq _ _).trans (BS _ _))) fun k hk g1 g2=>?_);have lta:∀x,(∃i,i<k∧b[ib+1+i]?=some x)→∀y∈a.toList.drop ia,leK κ x y:=by
  rintro x ⟨i,hi,hx⟩ y hy;have q:κ.blt (ky κ x) (ky κ a[ia])=true:=g1 i x hi hx;obtain⟨n,hn,_⟩:=Va hy;refine(leK.of q).trans (C.sa.at (i:=ia) (j:=ia+n) (by omega) ?_ ?_)
  ·rw[yS];exact yN _
  ·rw[yS];exact hn
 have nlt:∀y∈b.toList.drop (ib+1+k),leK κ a[ia] y:=by
  intro y hy;obtain⟨n,hn,hs⟩:=Va hy;have q:κ.blt (ky κ y) (ky κ a[ia])=false:=g2 (k+n) y (by omega) (by omega) (by rw[←By];exact hn);exact q
 dsimp only;have m2:Mi κ (a.toList++b.toList) (out.push b[ib]++b.extract (ib+1) (ib+1+k)).toList (a.toList.drop ia) (b.toList.drop (ib+1+k)):=by
  rw[zZ,fM];rw[Qw b.toList (ib+1) k]at m;refine m.b fun x hx y hy=>?_;obtain⟨i,hi,ik,_⟩:=Wy hx;exact lta x ⟨i,ik,hi⟩ y hy
 have z2:(out.push b[ib]++b.extract (ib+1) (ib+1+k)).size=out.size+1+k:=by
  rw[Array.size_append,Bi,zz];omega
 by_cases k0:k > 0
 ·rw[yL k0];by_cases c2:ib+1+k=b.size
  ·rw[yL (by rw[zy];exact c2)];exact y7 ⟨gu,.inl ⟨_,rfl,fe m2 (.inr c2)⟩⟩
  ·rw[yK (by rw[zy];exact c2)];exact pQ C gu ⟨m2,i1,by omega,by rw[z2];omega⟩ (by omega) nlt
 ·rw[yK k0];obtain rfl:k=0:=by omega
  exact pQ C gu ⟨m,i1,by omega,by rw[zz];omega⟩ (by omega) nlt
theorem pG{a b out:Array Keyed}{ia ib mg k1 k2 N:Nat}{u:SortSt}(hc:aH prog w A s κ kd)(kn:kindOf st=kd)(C:LoC κ a b)(gu:GalS st u)(j:Jl κ a b out ia ib)(hN:N≤out.size):wpS (model prog w) A E s (lo1 a b out ia ib mg k1 k2) (Ps2 κ a b st N) u:=by
 have i1:=j.ia1;have i2:=j.ib1;have sz:=j.sz;have m:=j.mi;unfold lo1;rw[X1];refine y9 (BJ ?_);have gu:=gu.set mg;rw[Yc i2];refine y9 (y7 ?_);refine y9 (Wb hc (gu.kn.trans kn) C.ha (W3 C.hb i2) (by omega) (by omega) (C.sa.sublist ((Bq _ _).trans (BS _ _))) fun k hk g1 g2=>?_);have lea:∀x,(∃i,i<k∧a[ia+i]?=some x)→∀y∈b.toList.drop ib,leK κ x y:=by
  rintro x ⟨i,hi,hx⟩ y hy;have q:=g1 i x hi hx;unfold bey at q;rw[yK yT,Bv]at q;have q:leK κ x b[ib]:=q;obtain⟨n,hn,_⟩:=Va hy;refine q.trans (C.sb.at (i:=ib) (j:=ib+n) (by omega) ?_ ?_)
  ·rw[yS];exact yN _
  ·rw[yS];exact hn
 have ltb:∀y∈a.toList.drop (ia+k),leK κ b[ib] y:=by
  intro y hy;obtain⟨n,hn,hs⟩:=Va hy;have q:=g2 (k+n) y (by omega) (by omega) (by rw[←By];exact hn);unfold bey at q;rw[yK yT,Bool.not_eq_false']at q;exact leK.of q
 dsimp only;have m2:Mi κ (a.toList++b.toList) (out++a.extract ia (ia+k)).toList (a.toList.drop (ia+k)) (b.toList.drop ib):=by
  rw[zZ,fM];rw[Qw a.toList ia k]at m;refine m.a fun x hx y hy=>?_;obtain⟨i,hi,ik,_⟩:=Wy hx;exact lea x ⟨i,ik,hi⟩ y hy
 have z2:(out++a.extract ia (ia+k)).size=out.size+k:=by
  rw[Array.size_append,Bi];omega
 by_cases k0:k > 0
 ·rw[yL k0];by_cases c2:ia+k+1=a.size
  ·rw[yL (by rw[zy];exact c2)];exact y7 ⟨gu,.inl ⟨_,rfl,jV C m2 c2⟩⟩
  rw[yK (by rw[zy];exact c2)];by_cases c3:ia+k=a.size
  ·rw[yL (by rw[zy];exact c3)];exact y7 ⟨gu,.inl ⟨_,rfl,fe m2 (.inl c3)⟩⟩
  ·rw[yK (by rw[zy];exact c3)];exact px hc kn C gu ⟨m2,by omega,i2,by rw[z2];omega⟩ (by omega) ltb
 ·rw[yK k0];obtain rfl:k=0:=by omega
  exact px hc kn C gu j hN ltb
abbrev T1:Type:=Option (Array Keyed)×Array Keyed×Nat×Nat×Nat×Nat
abbrev T0:Type:=Option (Array Keyed)×Array Keyed×Nat×Nat×Nat
theorem hE{a b:Array Keyed}{Q:Array Keyed→SortSt→Prop}(hc:aH prog w A s κ kd)(kn:kindOf st=kd)(C:LoC κ a b)(a1:0<a.size)(b1:0<b.size)(h0:∀y∈a.toList,leK κ b[0] y)(fin:∀(m:Array Keyed) (u:SortSt),GalS st u→Mgd κ a b m→Q m u):wpS (model prog w) A E s (c8 a b) Q st:=by
 rw[fZ];refine y9 (m:=liftM (rule _)) (wpS_lift (AM ⟨rfl,?_⟩));rw[Yc b1];refine y9 (y7 ?_);dsimp only;have m0:Mi κ (a.toList++b.toList) (#[]:Array Keyed).toList (a.toList.drop 0) (b.toList.drop 0):=⟨BE _,List.Pairwise.nil,C.sa,C.sb,fun _ h=>nomatch h⟩;have m1:Mi κ (a.toList++b.toList) #[b[0]].toList (a.toList.drop 0) (b.toList.drop 1):=nQ m0 b1 h0;by_cases c:1=b.size
 ·rw[yL (by rw[zy];exact c)];exact y7 (fin _ _ .refl (fe m1 (.inr c)))
 rw[yK (by rw[zy];exact c)];by_cases c2:0+1=a.size
 ·rw[yL (by rw[zy];exact c2)];exact y7 (fin _ _ .refl (jV C m1 c2))
 rw[yK (by rw[zy];exact c2)];refine y9 (Cp ?_);have j1:Jl κ a b #[b[0]] 0 1:=⟨m1,by omega,by omega,rfl⟩;refine y9 (AS (Ar (β:=T0) (Q:=fun c u=>GalS st u∧∃r,c.1=some r∧Mgd κ a b r)
  (fun x c u=>GalS st u∧c.1=none∧Jl κ a b c.2.1 c.2.2.1 c.2.2.2.1∧x<c.2.1.size) ?_ ?_ ⟨.refl,rfl,j1,Nat.zero_lt_one⟩) ?_)
 ·rintro x ⟨_,out,ia,ib,mg⟩ u _ hx ⟨gu,rfl,j,hN⟩;dsimp only;have hN:x<out.size:=hN;refine y9 (AS (Ar (β:=T1) (Q:=fun c v=>GalS st v∧((∃r,c.1=some r∧Mgd κ a b r)∨(c.1=none∧Jl κ a b c.2.1 c.2.2.1 c.2.2.2.1∧out.size<c.2.1.size)))
   (fun y c v=>GalS st v∧c.1=none∧Jl κ a b c.2.1 c.2.2.1 c.2.2.2.1∧out.size+y≤c.2.1.size) ?_ ?_ ⟨gu,rfl,j,yM _⟩) ?_)
  ·rintro y ⟨_,Ct,ia2,ib2,ac,bc⟩ v _ hy ⟨gv,rfl,j2,hM⟩;dsimp only;have hM:out.size+y≤Ct.size:=hM;have i1:ia2+1<a.size:=j2.ia1;have i2:ib2<b.size:=j2.ib1;have sz:Ct.size=ia2+ib2:=j2.sz;rw[Yc i2,Yc (show ia2<a.size by omega)];refine y9 (y7 (y9 (y7 (y9 (P0 hc (gv.kn.trans kn) (W3 C.hb i2) (W3 C.ha (show ia2<a.size by omega)) ?_)))));dsimp only
   rcases bl:κ.blt (ky κ b[ib2]) (ky κ a[ia2])with _ | _
   ·rw[yK yT];refine y9 (y7 ?_);have m:=uk j2.mi (show ia2<a.size by omega) fun z hz=>by
     obtain⟨n,hn,_⟩:=Va hz;have q:leK κ a[ia2] b[ib2]:=bl;refine q.trans (C.sb.at (i:=ib2) (j:=ib2+n) (by omega) ?_ ?_)
     ·rw[yS];exact yN _
     ·rw[yS];exact hn
    have zz:(Ct.push (a[ia2]'(by omega))).size=Ct.size+1:=AK _;by_cases d:ia2+1+1=a.size
    ·rw[yL (by rw[zy];exact d)];exact y7 ⟨gv,.inl ⟨_,rfl,jV C m d⟩⟩
    ·rw[yK (by rw[zy];exact d)];have j3:Jl κ a b (Ct.push (a[ia2]'(by omega))) (ia2+1) ib2:=⟨m,by omega,i2,by rw[zz];omega⟩
     split
     ·exact y7 ⟨gv,.inr ⟨rfl,j3,by show _<(Ct.push _).size;omega⟩⟩
     ·exact y7 ⟨gv,rfl,j3,by show _≤(Ct.push _).size;omega⟩
   ·rw[yL rfl];refine y9 (y7 ?_);have m:=nQ j2.mi i2 fun z hz=>by
     obtain⟨n,hn,_⟩:=Va hz;have q:leK κ b[ib2] a[ia2]:=leK.of bl;refine q.trans (C.sa.at (i:=ia2) (j:=ia2+n) (by omega) ?_ ?_)
     ·rw[yS];exact yN _
     ·rw[yS];exact hn
    have zz:(Ct.push b[ib2]).size=Ct.size+1:=AK _;by_cases d:ib2+1=b.size
    ·rw[yL (by rw[zy];exact d)];exact y7 ⟨gv,.inl ⟨_,rfl,fe m (.inr d)⟩⟩
    ·rw[yK (by rw[zy];exact d)];have j3:Jl κ a b (Ct.push b[ib2]) ia2 (ib2+1):=⟨m,i1,by omega,by rw[zz];omega⟩
     split
     ·exact y7 ⟨gv,.inr ⟨rfl,j3,by show _<(Ct.push _).size;omega⟩⟩
     ·exact y7 ⟨gv,rfl,j3,by show _≤(Ct.push _).size;omega⟩
  ·rintro⟨_,Ct,ia2,ib2,ac,bc⟩ v ⟨gv,rfl,j2,hM⟩;have hM:out.size+max 0 (a.size+b.size)≤Ct.size:=hM;have i1:ia2+1<a.size:=j2.ia1;have i2:ib2<b.size:=j2.ib1;have sz:Ct.size=ia2+ib2:=j2.sz;omega
  ·rintro⟨r,Ct,ia2,ib2,ac,bc⟩ v ⟨gv,h⟩
   rcases h with⟨m,e,gm⟩|⟨e,j2,hM⟩
   ·have e:r=some m:=e;subst e;exact y7 ⟨gv,m,rfl,gm⟩
   have e:r=none:=e;subst e;have hM:out.size<Ct.size:=hM;refine y9 (m:=liftM (rule _)) (wpS_lift (AM ⟨rfl,?_⟩));refine y9 (AS (Ar (β:=T2) (Q:=fun c v=>GalS st v∧Rs κ a b out.size c)
    (fun y c v=>GalS st v∧c.1=none∧Jl κ a b c.2.1 c.2.2.1 c.2.2.2.1∧out.size+y<c.2.1.size) ?_ ?_ ⟨gv,rfl,j2,hM⟩) ?_)
   ·rintro y ⟨_,out3,ia3,ib3,mg3,k1,k2⟩ v3 _ hy ⟨g3,rfl,j3,h3⟩;have h3:out.size+y<out3.size:=h3;have upD:∀{c:T2}{v:SortSt},Ps2 κ a b st (out.size+(y+1)) (.done c) v→GalS st v∧Rs κ a b out.size c:=by
     rintro c v ⟨g,h⟩;refine⟨g,?_⟩
     rcases h with h | ⟨h1,h2,h3⟩
     ·exact .inl h
     ·exact .inr ⟨h1,h2,by omega⟩
    show wpS (model prog w) A E s (if mg3 > 1 then lo1 a b out3 ia3 ib3 (mg3-1) k1 k2 else lo1 a b out3 ia3 ib3 mg3 k1 k2) _ v3
    split
    ·refine AS (pG (N:=out.size+(y+1)) hc kn C g3 j3 (by omega)) fun r v h=>?_;cases r with
     |done c=>exact upD h
     |yield c=>exact h
    ·refine AS (pG (N:=out.size+(y+1)) hc kn C g3 j3 (by omega)) fun r v h=>?_;cases r with
     |done c=>exact upD h
     |yield c=>exact h
   ·rintro⟨_,out3,ia3,ib3,mg3,k1,k2⟩ v3 ⟨g3,rfl,j3,h3⟩;have h3:out.size+max 0 (a.size+b.size)<out3.size:=h3;have i1:ia3+1<a.size:=j3.ia1;have i2:ib3<b.size:=j3.ib1;have sz:out3.size=ia3+ib3:=j3.sz;omega
   ·rintro⟨r,out3,ia3,ib3,mg3,k1,k2⟩ v3 ⟨g3,h⟩
    rcases h with⟨m,e,gm⟩|⟨e,j3,h3⟩
    ·have e:r=some m:=e;subst e;exact y7 ⟨g3,m,rfl,gm⟩
    ·have e:r=none:=e;subst e;have h3:out.size<out3.size:=h3;dsimp only;rw[X1];exact y9 (BJ (y7 ⟨g3.set _,rfl,j3,by show x+1<out3.size;omega⟩))
 ·rintro⟨_,Ct,ia2,ib2,mg⟩ v ⟨gv,rfl,j2,hM⟩;have hM:max 0 (a.size+b.size)<Ct.size:=hM;have i1:ia2+1<a.size:=j2.ia1;have i2:ib2<b.size:=j2.ib1;have sz:Ct.size=ia2+ib2:=j2.sz;omega
 ·rintro⟨r,Ct,ia2,ib2,mg⟩ v ⟨gv,m,e,gm⟩;have e:r=some m:=e;subst e;exact y7 (fin m v gv gm)
end
end L2T
namespace L2T
open PySem PySem.Spec PyProof.Rows L2
def cX:Array Keyed→Array Keyed→StateT SortSt Sem (Array Keyed):=sortPriv% PySem.Builtin.mergeHi
theorem eZ(a b:Array Keyed):cX a b=(do
 rule "list.sort.merge-hi"
 let total:=a.size+b.size
 let done (out:Array Keyed) (na nb:Nat):=a.extract 0 na++b.extract 0 nb++out.reverse
 let firstOfB (out:Array Keyed) (na nb:Nat):=b.extract 0 nb++a.extract 0 na++out.reverse
 let mut na:=a.size-1
 let mut nb:=b.size
 let mut out:Array Keyed:=#[←elem' a na]
 if na==0 then return done out na nb
 if nb==1 then return firstOfB out na nb
 let mut CL:=gallopOf (←get)
 for _ in [0:total] do
  let mut acount:=0
  let mut bcount:=0
  for _ in [0:total] do
   let some aWins ←lt' (←elem' b (nb-1)) (←elem' a (na-1)) | return done out na nb
   if aWins then
    na:=na-1;out:=out.push (←elem' a na);acount:=acount+1;bcount:=0
    if na==0 then return done out na nb
    if acount ≥ CL then break
   else
    nb:=nb-1;out:=out.push (←elem' b nb);bcount:=bcount+1;acount:=0
    if nb==1 then return firstOfB out na nb
    if bcount ≥ CL then break
  rule "list.sort.gallop"
  CL:=CL+1
  for _ in [0:total] do
   if CL > 1 then CL:=CL-1
   aB CL
   let some at_ ←aM false (←elem' b (nb-1)) a 0 na (na-1) | return done out na nb
   let k:=na-at_
   acount:=k
   if k > 0 then
    out:=out++(a.extract at_ na).reverse;na:=at_
    if na==0 then return done out na nb
   nb:=nb-1;out:=out.push (←elem' b nb)
   if nb==1 then return firstOfB out na nb
   let some at_ ←aM true (←elem' a (na-1)) b 0 nb (nb-1) | return done out na nb
   let k:=nb-at_
   bcount:=k
   if k > 0 then
    out:=out++(b.extract at_ nb).reverse;nb:=at_
    if nb==1 then return firstOfB out na nb
    if nb==0 then return done out na nb
   na:=na-1;out:=out.push (←elem' a na)
   if na==0 then return done out na nb
   if acount<7 && bcount<7 then break
  CL:=CL+1
  aB CL
 unsupported "internal:list.sort.merge-bound"):=rfl
section
variable{prog:Program}{w:World}{A:Around}{E:Value→Shared→Prop}{s:Shared}{κ:KeyKind}{kd:SortKind}{st:SortSt}
theorem Op{xs:Array Keyed}{i:Nat}(h:i<xs.size):xs.toList.take (i+1)=xs.toList.take i++[xs[i]]:=by
 rw[List.take_add_one,yS,yN h];rfl
theorem Tm(xs:Array Keyed)(n:Nat):(xs.extract 0 n).toList=xs.toList.take n:=by
 rw[Bw,AY];rfl
theorem gP(xs:Array Keyed)(i n:Nat):(xs.extract i n).toList=(xs.toList.take n).drop i:=by
 rw[Bw,AY,List.drop_take]
theorem Rn{l:List Keyed}{i n:Nat}(h:i≤n):l.take n=l.take i++(l.take n).drop i:=by
 have e:=Ag i (l.take n);rw[List.take_take,Bn h]at e;exact e.symm
theorem Ub{xs:Array Keyed}{n:Nat}{y:Keyed}(h:y∈xs.toList.take n):∃j,xs[j]?=some y∧j<n∧j<xs.size:=by
 obtain⟨j,hj⟩:=AZ.mp h;rw[z7]at hj
 split at hj
 ·next c=>
  rw[yS]at hj;exact⟨j,hj,c,(Bh.mp hj).1⟩
 ·cases hj
theorem jF{xs:Array Keyed}{i n:Nat}{y:Keyed}(h:y∈(xs.toList.take n).drop i):∃j,xs[j]?=some y∧i≤j∧j<n∧j<xs.size:=by
 obtain⟨j,hj⟩:=AZ.mp h;rw[Aq,z7]at hj
 split at hj
 ·next c=>
  rw[yS]at hj;exact⟨i+j,hj,by omega,c,(Bh.mp hj).1⟩
 ·cases hj
abbrev dnH(a b out:Array Keyed)(na nb:Nat):Array Keyed:=a.extract 0 na++b.extract 0 nb++out.reverse
abbrev fbH(a b out:Array Keyed)(na nb:Nat):Array Keyed:=b.extract 0 nb++a.extract 0 na++out.reverse
abbrev H2:Type:=Option (Array Keyed)×Nat×Nat×Array Keyed×Nat×Nat×Nat
abbrev H1:Type:=Option (Array Keyed)×Nat×Nat×Array Keyed×Nat×Nat
abbrev H0:Type:=Option (Array Keyed)×Nat×Nat×Array Keyed×Nat
def hi3(a b out:Array Keyed)(na nb mg k1 k2:Nat):StateT SortSt Sem (ForInStep H2):=do
 let x ←elem' a (na-1)
 if (na-1==0)=true then pure (.done (some (dnH a b (out.push x) (na-1) nb),na-1,nb,out.push x,mg,k1,k2))
 else if (decide (k1<7) && decide (k2<7))=true then pure (.done (none,na-1,nb,out.push x,mg,k1,k2))
 else pure (.yield (none,na-1,nb,out.push x,mg,k1,k2))
def hi2(a b out:Array Keyed)(na nb mg k1 k20:Nat):StateT SortSt Sem (ForInStep H2):=do
 let x ←elem' b (nb-1)
 if (nb-1==1)=true then pure (.done (some (fbH a b (out.push x) na (nb-1)),na,nb-1,out.push x,mg,k1,k20))
 else do
  let y ←elem' a (na-1)
  let r ←aM true y b 0 (nb-1) (nb-1-1)
  match r with
  |some k=>
   if nb-1-k > 0 then
    if (k==1)=true then pure (.done (some (fbH a b (out.push x++(b.extract k (nb-1)).reverse) na k),na,k,out.push x++(b.extract k (nb-1)).reverse,mg,k1,nb-1-k))
    else if (k==0)=true then pure (.done (some (dnH a b (out.push x++(b.extract k (nb-1)).reverse) na k),na,k,out.push x++(b.extract k (nb-1)).reverse,mg,k1,nb-1-k))
    else hi3 a b (out.push x++(b.extract k (nb-1)).reverse) na k mg k1 (nb-1-k)
   else hi3 a b (out.push x) na (nb-1) mg k1 (nb-1-k)
  |_=>pure (.done (some (dnH a b (out.push x) na (nb-1)),na,nb-1,out.push x,mg,k1,k20))
def hi1(a b out:Array Keyed)(na nb mg k10 k20:Nat):StateT SortSt Sem (ForInStep H2):=do
 aB mg
 let x ←elem' b (nb-1)
 let r ←aM false x a 0 na (na-1)
 match r with
 |some k=>
  if na-k > 0 then
   if (k==0)=true then pure (.done (some (dnH a b (out++(a.extract k na).reverse) k nb),k,nb,out++(a.extract k na).reverse,mg,na-k,k20))
   else hi2 a b (out++(a.extract k na).reverse) k nb mg (na-k) k20
  else hi2 a b out na nb mg (na-k) k20
 |_=>pure (.done (some (dnH a b out na nb),na,nb,out,mg,k10,k20))
structure HiC(κ:KeyKind)(a b:Array Keyed):Prop where
 ha:KeysOf κ a
 hb:KeysOf κ b
 sa:Srt κ a.toList
 sb:Srt κ b.toList
 h0:∀x∈b.toList.take 1,∀y∈a.toList,leK κ x y
structure Jh(κ:KeyKind)(a b out:Array Keyed)(na nb:Nat):Prop where
 mi:Mh κ (a.toList++b.toList) out.toList.reverse (a.toList.take na) (b.toList.take nb)
 na1:0<na
 na2:na<a.size
 nb1:1<nb
 nb2:nb≤b.size
 sz:out.size+na+nb=a.size+b.size
def RsH(κ:KeyKind)(a b:Array Keyed)(N:Nat)(c:H2):Prop:=(∃r,c.1=some r∧Mgd κ a b r)∨(c.1=none∧Jh κ a b c.2.2.2.1 c.2.1 c.2.2.1∧N<c.2.2.2.1.size)
def PsH(κ:KeyKind)(a b:Array Keyed)(st:SortSt)(N:Nat):ForInStep H2→SortSt→Prop:=fun r u=>GalS st u∧match r with
 |.done c=>RsH κ a b N c
 |.yield c=>c.1=none∧Jh κ a b c.2.2.2.1 c.2.1 c.2.2.1∧N<c.2.2.2.1.size
theorem Qq{a b out:Array Keyed}{na nb:Nat}(h:Mh κ (a.toList++b.toList) out.toList.reverse (a.toList.take na) (b.toList.take nb))(e:na=0∨nb=0):Mgd κ a b (dnH a b out na nb):=by
 have q:=h.fin fun x hx y hy=>by
  rcases e with rfl | rfl
  ·rw[List.take_zero]at hx;cases hx
  ·rw[List.take_zero]at hy;cases hy
 unfold Mgd dnH;rw[zZ,zZ,Tm,Tm,BY];exact q
theorem dP{a b out:Array Keyed}{na nb:Nat}(C:HiC κ a b)(h:Mh κ (a.toList++b.toList) out.toList.reverse (a.toList.take na) (b.toList.take nb))(e:nb=1):Mgd κ a b (fbH a b out na nb):=by
 subst e;have q:=h.sw.fin fun x hx y hy=>C.h0 x hx y (AO hy);unfold Mgd fbH;rw[zZ,zZ,Tm,Tm,BY];exact q
theorem uP{a b out:Array Keyed}{na nb:Nat}(h:Mh κ (a.toList++b.toList) out.toList.reverse (a.toList.take na) (b.toList.take nb))(h0:0<nb)(hb:nb≤b.size)(hl:∀y∈a.toList.take na,leK κ y (b[nb-1]'(by omega))):Mh κ (a.toList++b.toList) (out.push (b[nb-1]'(by omega))).toList.reverse (a.toList.take na) (b.toList.take (nb-1)):=by
 have e:=Op (xs:=b) (i:=nb-1) (by omega);rw[show nb-1+1=nb by omega]at e;rw[e]at h;rw[Bb,List.reverse_append];exact h.b fun x hx y hy=>by rw[yP.mp hx];exact hl y hy
theorem qe{a b out:Array Keyed}{na nb:Nat}(h:Mh κ (a.toList++b.toList) out.toList.reverse (a.toList.take na) (b.toList.take nb))(h0:0<na)(ha:na≤a.size)(hl:∀y∈b.toList.take nb,leK κ y (a[na-1]'(by omega))):Mh κ (a.toList++b.toList) (out.push (a[na-1]'(by omega))).toList.reverse (a.toList.take (na-1)) (b.toList.take nb):=by
 have e:=Op (xs:=a) (i:=na-1) (by omega);rw[show na-1+1=na by omega]at e;rw[e]at h;rw[Bb,List.reverse_append];exact h.a fun x hx y hy=>by rw[yP.mp hx];exact hl y hy
theorem pY{a b out:Array Keyed}{na nb mg k1 k2 N:Nat}{u:SortSt}(C:HiC κ a b)(gu:GalS st u)(j:Jh κ a b out na nb)(hN:N≤out.size)(hl:∀y∈b.toList.take nb,leK κ y (a[na-1]'(by have:=j.na1;have:=j.na2;omega))):wpS (model prog w) A E s (hi3 a b out na nb mg k1 k2) (PsH κ a b st N) u:=by
 have i1:=j.na1;have i2:=j.na2;unfold hi3;rw[Yc (show na-1<a.size by omega)];refine y9 (y7 ?_);have m:=qe j.mi i1 (by omega) hl;have sz:=j.sz;have zz:(out.push (a[na-1]'(by omega))).size=out.size+1:=AK _;by_cases c:na-1=0
 ·rw[yL (by rw[zy];exact c)];exact y7 ⟨gu,.inl ⟨_,rfl,Qq m (.inl c)⟩⟩
 ·rw[yK (by rw[zy];exact c)];have j2:Jh κ a b (out.push (a[na-1]'(by omega))) (na-1) nb:=⟨m,by omega,by omega,j.nb1,j.nb2,by rw[zz];omega⟩
  split
  ·exact y7 ⟨gu,.inr ⟨rfl,j2,by show N<(out.push _).size;omega⟩⟩
  ·exact y7 ⟨gu,rfl,j2,by show N<(out.push _).size;omega⟩
theorem nK{a b out:Array Keyed}{na nb mg k1 k2 N:Nat}{u:SortSt}(hc:aH prog w A s κ kd)(kn:kindOf st=kd)(C:HiC κ a b)(gu:GalS st u)(j:Jh κ a b out na nb)(hN:N≤out.size)(hl:∀y∈a.toList.take na,leK κ y (b[nb-1]'(by have:=j.nb1;have:=j.nb2;omega))):wpS (model prog w) A E s (hi2 a b out na nb mg k1 k2) (PsH κ a b st N) u:=by
 have i1:=j.na1;have i2:=j.na2;have i3:=j.nb1;have i4:=j.nb2;unfold hi2;rw[Yc (show nb-1<b.size by omega)];refine y9 (y7 ?_);have m:=uP j.mi (by omega) i4 hl;have sz:=j.sz;have zz:(out.push (b[nb-1]'(by omega))).size=out.size+1:=AK _;by_cases c:nb-1=1
 ·rw[yL (by rw[zy];exact c)];exact y7 ⟨gu,.inl ⟨_,rfl,dP C m c⟩⟩
 rw[yK (by rw[zy];exact c),Yc (show na-1<a.size by omega)];refine y9 (y7 ?_);refine y9 (Wb hc (gu.kn.trans kn) C.hb (W3 C.ha (show na-1<a.size by omega)) (by omega) (by omega) (C.sb.sublist ((Bq _ _).trans (BS _ _))) fun k hk g1 g2=>?_);have gea:∀x∈(b.toList.take (nb-1)).drop k,∀y∈a.toList.take na,leK κ y x:=by
  intro x hx y hy;obtain⟨i,hi,ki,ib,_⟩:=jF hx;have q:κ.blt (ky κ x) (ky κ a[na-1])=false:=g2 i x ki ib (by rw[A5];exact hi);obtain⟨n,hn,nn,_⟩:=Ub hy;have q2:leK κ a[na-1] x:=q;refine leK.trans (C.sa.at (i:=n) (j:=na-1) (by omega) ?_ ?_) q2
  ·rw[yS];exact hn
  ·rw[yS];exact yN _
 have lta:∀y∈b.toList.take k,leK κ y a[na-1]:=by
  intro y hy;obtain⟨n,hn,nn,_⟩:=Ub hy;have q:κ.blt (ky κ y) (ky κ a[na-1])=true:=g1 n y nn (by rw[A5];exact hn);exact leK.of q
 dsimp only;have m2:Mh κ (a.toList++b.toList) (out.push (b[nb-1]'(by omega))++(b.extract k (nb-1)).reverse).toList.reverse (a.toList.take na) (b.toList.take k):=by
  rw[zZ,List.reverse_append,BY,List.reverse_reverse,gP];rw[Rn (l:=b.toList) hk]at m;exact m.b gea
 have z2:(out.push (b[nb-1]'(by omega))++(b.extract k (nb-1)).reverse).size=out.size+1+(nb-1-k):=by
  rw[Array.size_append,Array.size_reverse,Bi,zz];omega
 by_cases k0:nb-1-k > 0
 ·rw[yL k0];by_cases c2:k=1
  ·rw[yL (by rw[zy];exact c2)];exact y7 ⟨gu,.inl ⟨_,rfl,dP C m2 c2⟩⟩
  rw[yK (by rw[zy];exact c2)];by_cases c3:k=0
  ·rw[yL (by rw[zy];exact c3)];exact y7 ⟨gu,.inl ⟨_,rfl,Qq m2 (.inr c3)⟩⟩
  ·rw[yK (by rw[zy];exact c3)];exact pY C gu ⟨m2,i1,i2,by omega,by omega,by rw[z2];omega⟩ (by omega) lta
 ·rw[yK k0];obtain rfl:k=nb-1:=by omega
  exact pY C gu ⟨m,i1,i2,by omega,by omega,by rw[zz];omega⟩ (by omega) lta
theorem oz{a b out:Array Keyed}{na nb mg k1 k2 N:Nat}{u:SortSt}(hc:aH prog w A s κ kd)(kn:kindOf st=kd)(C:HiC κ a b)(gu:GalS st u)(j:Jh κ a b out na nb)(hN:N≤out.size):wpS (model prog w) A E s (hi1 a b out na nb mg k1 k2) (PsH κ a b st N) u:=by
 have i1:=j.na1;have i2:=j.na2;have i3:=j.nb1;have i4:=j.nb2;have sz:=j.sz;have m:=j.mi;unfold hi1;rw[X1];refine y9 (BJ ?_);have gu:=gu.set mg;rw[Yc (show nb-1<b.size by omega)];refine y9 (y7 ?_);refine y9 (Wb hc (gu.kn.trans kn) C.ha (W3 C.hb (show nb-1<b.size by omega)) (by omega) (by omega) (C.sa.sublist ((Bq _ _).trans (BS _ _))) fun k hk g1 g2=>?_);have gtb:∀x∈(a.toList.take na).drop k,∀y∈b.toList.take nb,leK κ y x:=by
  intro x hx y hy;obtain⟨i,hi,ki,ib,_⟩:=jF hx;have q:=g2 i x ki ib (by rw[A5];exact hi);unfold bey at q;rw[yK yT,Bool.not_eq_false']at q;obtain⟨n,hn,nn,_⟩:=Ub hy;refine leK.trans (C.sb.at (i:=n) (j:=nb-1) (by omega) ?_ ?_) (leK.of q)
  ·rw[yS];exact hn
  ·rw[yS];exact yN _
 have leb:∀y∈a.toList.take k,leK κ y b[nb-1]:=by
  intro y hy;obtain⟨n,hn,nn,_⟩:=Ub hy;have q:=g1 n y nn (by rw[A5];exact hn);unfold bey at q;rw[yK yT,Bv]at q;exact q
 dsimp only;have m2:Mh κ (a.toList++b.toList) (out++(a.extract k na).reverse).toList.reverse (a.toList.take k) (b.toList.take nb):=by
  rw[zZ,List.reverse_append,BY,List.reverse_reverse,gP];rw[Rn (l:=a.toList) hk]at m;exact m.a gtb
 have z2:(out++(a.extract k na).reverse).size=out.size+(na-k):=by
  rw[Array.size_append,Array.size_reverse,Bi];omega
 by_cases k0:na-k > 0
 ·rw[yL k0];by_cases c2:k=0
  ·rw[yL (by rw[zy];exact c2)];exact y7 ⟨gu,.inl ⟨_,rfl,Qq m2 (.inl c2)⟩⟩
  ·rw[yK (by rw[zy];exact c2)];exact nK hc kn C gu ⟨m2,by omega,by omega,i3,i4,by rw[z2];omega⟩ (by omega) leb
 ·rw[yK k0];obtain rfl:k=na:=by omega
  exact nK hc kn C gu j hN leb
theorem hW{a b:Array Keyed}{Q:Array Keyed→SortSt→Prop}(hc:aH prog w A s κ kd)(kn:kindOf st=kd)(C:HiC κ a b)(a1:0<a.size)(b1:0<b.size)(h1:∀y∈b.toList,leK κ y (a[a.size-1]'(by omega)))(fin:∀(m:Array Keyed) (u:SortSt),GalS st u→Mgd κ a b m→Q m u):wpS (model prog w) A E s (cX a b) Q st:=by
 rw[eZ];refine y9 (m:=liftM (rule _)) (wpS_lift (AM ⟨rfl,?_⟩));dsimp only;rw[Yc (show a.size-1<a.size by omega)];refine y9 (y7 ?_);have m0:Mh κ (a.toList++b.toList) (#[]:Array Keyed).toList.reverse (a.toList.take a.size) (b.toList.take b.size):=by
  rw[Ac (by rw[yU];exact yM _),Ac (by rw[yU];exact yM _)];exact⟨by rw[List.reverse_nil,AJ],List.Pairwise.nil,C.sa,C.sb,fun _ _ _ h=>nomatch h⟩
 have m1:Mh κ (a.toList++b.toList) #[a[a.size-1]].toList.reverse (a.toList.take (a.size-1)) (b.toList.take b.size):=qe m0 a1 (yM _) fun y hy=>h1 y (AO hy);by_cases c:a.size-1=0
 ·rw[yL (by rw[zy];exact c)];exact y7 (fin _ _ .refl (Qq m1 (.inl c)))
 rw[yK (by rw[zy];exact c)];by_cases c2:b.size=1
 ·rw[yL (by rw[zy];exact c2)];exact y7 (fin _ _ .refl (dP C m1 c2))
 rw[yK (by rw[zy];exact c2)];refine y9 (Cp ?_);have j1:Jh κ a b #[a[a.size-1]] (a.size-1) b.size:=⟨m1,by omega,by omega,by omega,by omega,by show 1+(a.size-1)+b.size=_;omega⟩;refine y9 (AS (Ar (β:=H0) (Q:=fun c u=>GalS st u∧∃r,c.1=some r∧Mgd κ a b r)
  (fun x c u=>GalS st u∧c.1=none∧Jh κ a b c.2.2.2.1 c.2.1 c.2.2.1∧x<c.2.2.2.1.size) ?_ ?_ ⟨.refl,rfl,j1,Nat.zero_lt_one⟩) ?_)
 ·rintro x ⟨_,na,nb,out,mg⟩ u _ hx ⟨gu,rfl,j,hN⟩;dsimp only;have hN:x<out.size:=hN;refine y9 (AS (Ar (β:=H1) (Q:=fun c v=>GalS st v∧((∃r,c.1=some r∧Mgd κ a b r)∨(c.1=none∧Jh κ a b c.2.2.2.1 c.2.1 c.2.2.1∧out.size<c.2.2.2.1.size)))
   (fun y c v=>GalS st v∧c.1=none∧Jh κ a b c.2.2.2.1 c.2.1 c.2.2.1∧out.size+y≤c.2.2.2.1.size) ?_ ?_ ⟨gu,rfl,j,yM _⟩) ?_)
  ·rintro y ⟨_,na2,nb2,Ct,ac,bc⟩ v _ hy ⟨gv,rfl,j2,hM⟩;dsimp only;have hM:out.size+y≤Ct.size:=hM;have i1:0<na2:=j2.na1;have i2:na2<a.size:=j2.na2;have i3:1<nb2:=j2.nb1;have i4:nb2≤b.size:=j2.nb2;have sz:Ct.size+na2+nb2=a.size+b.size:=j2.sz;have mi2:Mh κ (a.toList++b.toList) Ct.toList.reverse (a.toList.take na2) (b.toList.take nb2):=j2.mi;rw[Yc (show nb2-1<b.size by omega),Yc (show na2-1<a.size by omega)];refine y9 (y7 (y9 (y7 (y9 (P0 hc (gv.kn.trans kn) (W3 C.hb (show nb2-1<b.size by omega)) (W3 C.ha (show na2-1<a.size by omega)) ?_)))));dsimp only
   rcases bl:κ.blt (ky κ b[nb2-1]) (ky κ a[na2-1])with _ | _
   ·rw[yK yT];refine y9 (y7 ?_);have m:=uP mi2 (by omega) i4 fun z hz=>by
     obtain⟨n,hn,nn,_⟩:=Ub hz;have q:leK κ a[na2-1] b[nb2-1]:=bl;refine leK.trans (C.sa.at (i:=n) (j:=na2-1) (by omega) ?_ ?_) q
     ·rw[yS];exact hn
     ·rw[yS];exact yN _
    have zz:(Ct.push (b[nb2-1]'(by omega))).size=Ct.size+1:=AK _;by_cases d:nb2-1=1
    ·rw[yL (by rw[zy];exact d)];exact y7 ⟨gv,.inl ⟨_,rfl,dP C m d⟩⟩
    ·rw[yK (by rw[zy];exact d)];have j3:Jh κ a b (Ct.push (b[nb2-1]'(by omega))) na2 (nb2-1):=⟨m,i1,i2,by omega,by omega,by rw[zz];omega⟩
     split
     ·exact y7 ⟨gv,.inr ⟨rfl,j3,by show _<(Ct.push _).size;omega⟩⟩
     ·exact y7 ⟨gv,rfl,j3,by show _≤(Ct.push _).size;omega⟩
   ·rw[yL rfl];refine y9 (y7 ?_);have m:=qe mi2 i1 (by omega) fun z hz=>by
     obtain⟨n,hn,nn,_⟩:=Ub hz;have q:leK κ b[nb2-1] a[na2-1]:=leK.of bl;refine leK.trans (C.sb.at (i:=n) (j:=nb2-1) (by omega) ?_ ?_) q
     ·rw[yS];exact hn
     ·rw[yS];exact yN _
    have zz:(Ct.push (a[na2-1]'(by omega))).size=Ct.size+1:=AK _;by_cases d:na2-1=0
    ·rw[yL (by rw[zy];exact d)];exact y7 ⟨gv,.inl ⟨_,rfl,Qq m (.inl d)⟩⟩
    ·rw[yK (by rw[zy];exact d)];have j3:Jh κ a b (Ct.push (a[na2-1]'(by omega))) (na2-1) nb2:=⟨m,by omega,by omega,i3,i4,by rw[zz];omega⟩
     split
     ·exact y7 ⟨gv,.inr ⟨rfl,j3,by show _<(Ct.push _).size;omega⟩⟩
     ·exact y7 ⟨gv,rfl,j3,by show _≤(Ct.push _).size;omega⟩
  ·rintro⟨_,na2,nb2,Ct,ac,bc⟩ v ⟨gv,rfl,j2,hM⟩;have hM:out.size+max 0 (a.size+b.size)≤Ct.size:=hM;have i1:0<na2:=j2.na1;have sz:Ct.size+na2+nb2=a.size+b.size:=j2.sz;omega
  ·rintro⟨r,na2,nb2,Ct,ac,bc⟩ v ⟨gv,h⟩
   rcases h with⟨m,e,gm⟩|⟨e,j2,hM⟩
   ·have e:r=some m:=e;subst e;exact y7 ⟨gv,m,rfl,gm⟩
   have e:r=none:=e;subst e;have hM:out.size<Ct.size:=hM;refine y9 (m:=liftM (rule _)) (wpS_lift (AM ⟨rfl,?_⟩));refine y9 (AS (Ar (β:=H2) (Q:=fun c v=>GalS st v∧RsH κ a b out.size c)
    (fun y c v=>GalS st v∧c.1=none∧Jh κ a b c.2.2.2.1 c.2.1 c.2.2.1∧out.size+y<c.2.2.2.1.size) ?_ ?_ ⟨gv,rfl,j2,hM⟩) ?_)
   ·rintro y ⟨_,na3,nb3,out3,mg3,k1,k2⟩ v3 _ hy ⟨g3,rfl,j3,h3⟩;have h3:out.size+y<out3.size:=h3;have upD:∀{c:H2}{v:SortSt},PsH κ a b st (out.size+(y+1)) (.done c) v→GalS st v∧RsH κ a b out.size c:=by
     rintro c v ⟨g,h⟩;refine⟨g,?_⟩
     rcases h with h | ⟨h1,h2,h3⟩
     ·exact .inl h
     ·exact .inr ⟨h1,h2,by omega⟩
    show wpS (model prog w) A E s (if mg3 > 1 then hi1 a b out3 na3 nb3 (mg3-1) k1 k2 else hi1 a b out3 na3 nb3 mg3 k1 k2) _ v3
    split
    ·refine AS (oz (N:=out.size+(y+1)) hc kn C g3 j3 (by omega)) fun r v h=>?_;cases r with
     |done c=>exact upD h
     |yield c=>exact h
    ·refine AS (oz (N:=out.size+(y+1)) hc kn C g3 j3 (by omega)) fun r v h=>?_;cases r with
     |done c=>exact upD h
     |yield c=>exact h
   ·rintro⟨_,na3,nb3,out3,mg3,k1,k2⟩ v3 ⟨g3,rfl,j3,h3⟩;have h3:out.size+max 0 (a.size+b.size)<out3.size:=h3;have sz:out3.size+na3+nb3=a.size+b.size:=j3.sz;omega
   ·rintro⟨r,na3,nb3,out3,mg3,k1,k2⟩ v3 ⟨g3,h⟩
    rcases h with⟨m,e,gm⟩|⟨e,j3,h3⟩
    ·have e:r=some m:=e;subst e;exact y7 ⟨g3,m,rfl,gm⟩
    ·have e:r=none:=e;subst e;have h3:out.size<out3.size:=h3;dsimp only;rw[X1];exact y9 (BJ (y7 ⟨g3.set _,rfl,j3,by show x+1<out3.size;omega⟩))
 ·rintro⟨_,na2,nb2,Ct,mg⟩ v ⟨gv,rfl,j2,hM⟩;have hM:max 0 (a.size+b.size)<Ct.size:=hM;have sz:Ct.size+na2+nb2=a.size+b.size:=j2.sz;omega
 ·rintro⟨r,na2,nb2,Ct,mg⟩ v ⟨gv,m,e,gm⟩;have e:r=some m:=e;subst e;exact y7 (fin m v gv gm)
end
end L2T
namespace L2T
open PySem PySem.Spec PyProof.Rows L2
theorem tE(off:Nat):∀(m:List Keyed)(n:Nat)(arr:Array Keyed),off+n+m.length≤arr.size→
  ((m.zipIdx n).foldl (fun a (x:Keyed×Nat)=>a.setIfInBounds (off+x.2) x.1) arr).toList=arr.toList.take (off+n)++m++arr.toList.drop (off+n+m.length):=by
 intro m
 induction m with
 |nil=>
  intro n arr h;rw[List.zipIdx_nil,List.foldl_nil,AJ,Ai,Nat.add_zero,Ag]
 |cons p m ih=>
  intro n arr h;rw[zw]at h;rw[List.zipIdx_cons,Ca,ih (n+1) _ (by rw[Array.size_setIfInBounds];omega),Array.toList_setIfInBounds];have e1:(arr.toList.set (off+n) p).take (off+(n+1))=arr.toList.take (off+n)++[p]:=by
   rw[←By,List.take_add_one,List.getElem?_set_self (by rw[yU];omega),List.take_set_of_le (yM _)];rfl
  have e2:(arr.toList.set (off+n) p).drop (off+(n+1)+m.length)=arr.toList.drop (off+n+(p::m).length):=by
   rw[List.drop_set_of_lt (by omega),zw]
   congr 1
   omega
  rw[e1,e2,zU (arr.toList.take (off+n)) [p] m];rfl
theorem V2(l:List Keyed)(i k m:Nat):(l.drop i).take (k+m)=(l.drop i).take k++(l.drop (i+k)).take m:=by
 rw[List.take_add,BX]
theorem m5{arr:Array Keyed}{i n j:Nat}(hj:j<n)(h:i+j<arr.size):((arr.toList.drop i).take n)[j]?=some arr[i+j]:=by
 rw[z7,yL hj,Aq,yS];exact yN h
theorem dJ(xs:Array Keyed)(i j:Nat):(xs.extract i j).toList=(xs.toList.drop i).take (j-i):=by
 rw[Bw,AY]
def eN(i:Nat):StateT SortSt Sem Bool:=do
 let s ←get
 let (some (sa,na,power),some (sb,nb,_)):=((pendingOf s)[i]?,(pendingOf s)[i+1]?) | unsupported "internal:list.sort.pending"
 set (setPending s (((pendingOf s).setIfInBounds i (sa,na+nb,power)).eraseIdxIfInBounds (i+1)))
 let some k ←aM false (←elem' (arrOf s) sb) (arrOf s) sa na 0 | return false
 let (sa,na):=(sa+k,na-k)
 if na==0 then return true
 let some nb ←aM true (←elem' (arrOf s) (sa+na-1)) (arrOf s) sb nb (nb-1) | return false
 if nb==0 then return true
 let x:=(arrOf s).extract sa sb
 let y:=(arrOf s).extract sb (sb+nb)
 let merged ←if na≤nb then c8 x y else cX x y
 modify fun s=>setArr s (merged.toList.zipIdx.foldl (fun a (p,j)=>a.setIfInBounds (sa+j) p) (arrOf s))
 return (failedOf (←get)).isNone
theorem gf(i:Nat):mergeAt' i=eN i:=rfl
section
variable{prog:Program}{w:World}{A:Around}{E:Value→Shared→Prop}{s:Shared}{κ:KeyKind}{kd:SortKind}{st:SortSt}
theorem se{σ:Type}{M:Model}{x:σ}{Q:PUnit→σ→Prop}{u:σ}(h:Q ⟨⟩ x):wpS M A E s (set x:StateT σ Sem PUnit) Q u:=by
 unfold wpS;rw[StateT.run_set];exact yI ⟨rfl,h⟩
theorem Tt{xs:Array Keyed}(h:KeysOf κ xs)(i j:Nat):KeysOf κ (xs.extract i j):=fun p hp=>by
 rw[dJ]at hp;exact h p (Bx (AO hp))
structure MAt(κ:KeyKind)(st u:SortSt)(i sa na nb pw:Nat):Prop where
 kn:kindOf u=kindOf st
 fl:failedOf u=none
 pd:pendingOf u=((pendingOf st).setIfInBounds i (sa,na+nb,pw)).eraseIdxIfInBounds (i+1)
 arr:∃M,(arrOf u).toList=(arrOf st).toList.take sa++M++(arrOf st).toList.drop (sa+na+nb)∧M.Perm (((arrOf st).toList.drop sa).take (na+nb))∧Srt κ M
theorem iJ{i sa na nb pw pw2:Nat}{Q:Bool→SortSt→Prop}(hc:aH prog w A s κ kd)(kn:kindOf st=kd)(fl:failedOf st=none)(hk:KeysOf κ (arrOf st))(p1:(pendingOf st)[i]?=some (sa,na,pw))(p2:(pendingOf st)[i+1]?=some (sa+na,nb,pw2))(na1:0<na)(nb1:0<nb)(hs:sa+na+nb≤(arrOf st).size)(so1:Srt κ (((arrOf st).toList.drop sa).take na))(so2:Srt κ (((arrOf st).toList.drop (sa+na)).take nb))(fin:∀u,MAt κ st u i sa na nb pw→Q true u):wpS (model prog w) A E s (mergeAt' i) Q st:=by
 rw[gf];unfold eN;refine y9 (Cp ?_);rw[p1,p2];dsimp only;refine y9 (se ?_);generalize hst':setPending st (((pendingOf st).setIfInBounds i (sa,na+nb,pw)).eraseIdxIfInBounds (i+1))=CI;have kn':kindOf CI=kd:=by rw[←hst'];exact kn
 have ar':arrOf CI=arrOf st:=by rw[←hst']
 have fl':failedOf CI=none:=by rw[←hst'];exact fl
 have pd':pendingOf CI=((pendingOf st).setIfInBounds i (sa,na+nb,pw)).eraseIdxIfInBounds (i+1):=by rw[←hst']
 generalize hx:arrOf st=xs at hk hs so1 so2 ar'⊢;have done:∀(u:SortSt)(M:List Keyed),kindOf u=kd→failedOf u=none→pendingOf u=pendingOf CI→(arrOf u).toList=xs.toList.take sa++M++xs.toList.drop (sa+na+nb)→M.Perm ((xs.toList.drop sa).take (na+nb))→Srt κ M→Q true u:=fun u M a1 a2 a3 a4 a5 a6=>
  fin u ⟨a1.trans kn.symm,a2,a3.trans pd',M,by rw[hx];exact a4,by rw[hx];exact a5,a6⟩
 have whole:xs.toList=xs.toList.take sa++((xs.toList.drop sa).take na++(xs.toList.drop (sa+na)).take nb)++xs.toList.drop (sa+na+nb):=by
  rw[←V2,By,←BX,zU,Ag,Ag]
 have asis:Srt κ ((xs.toList.drop sa).take na++(xs.toList.drop (sa+na)).take nb)→Q true CI:=fun h=>
  done CI _ kn' fl' rfl (by rw[ar'];exact whole) (by rw[V2]) h
 have sb:sa+na<xs.size:=by omega
 rw[Yc sb];refine y9 (y7 ?_);have b0le:∀y∈(xs.toList.drop (sa+na)).take nb,leK κ xs[sa+na] y:=fun y hy=>by
  obtain⟨j,hj⟩:=AZ.mp hy;exact so2.at (i:=0) (j:=j) (Aa _) (m5 nb1 sb) hj
 refine y9 (Wb hc kn' hk (W3 hk sb) na1 (by omega) so1 fun k hkn g1 g2=>?_);dsimp only;have f1:∀x∈(xs.toList.drop sa).take k,leK κ x xs[sa+na]:=fun x hx=>by
  obtain⟨j,hj,jk,_⟩:=Wy hx;have q:=g1 j x jk hj;unfold bey at q;rw[yK yT,Bv]at q;exact q
 have f2:∀x∈(xs.toList.drop (sa+k)).take (na-k),leK κ xs[sa+na] x:=fun x hx=>by
  obtain⟨j,hj,jk,_⟩:=Wy hx;have q:=g2 (k+j) x (by omega) (by omega) (by rw[←By];exact hj);unfold bey at q;rw[yK yT,Bool.not_eq_false']at q;exact leK.of q
 by_cases c:na-k=0
 ·rw[yL (by rw[zy];exact c)];obtain rfl:k=na:=by omega
  exact y7 (asis (zM.mpr ⟨so1,so2,fun x hx y hy=>(f1 x hx).trans (b0le y hy)⟩))
 rw[yK (by rw[zy];exact c)];have el:sa+k+(na-k)-1=sa+na-1:=by omega
 have lt:sa+na-1<xs.size:=by omega
 rw[el,Yc lt];refine y9 (y7 ?_);have lale:∀x∈(xs.toList.drop sa).take na,leK κ x xs[sa+na-1]:=fun x hx=>by
  obtain⟨j,hj⟩:=AZ.mp hx;have jl:=(yZ.mp hj).1;rw[zu]at jl;refine so1.at (i:=j) (j:=na-1) (by omega) hj ?_;rw[m5 (show na-1<na by omega) (show sa+(na-1)<xs.size by omega)]
  congr 1
  congr 1
  omega
 refine y9 (Wb hc kn' hk (W3 hk lt) (by omega) (by omega) so2 fun m hm g3 g4=>?_);dsimp only;have f3:∀x∈(xs.toList.drop (sa+na)).take m,leK κ x xs[sa+na-1]:=fun x hx=>by
  obtain⟨j,hj,jk,_⟩:=Wy hx;have q:κ.blt (ky κ x) (ky κ xs[sa+na-1])=true:=g3 j x jk hj;exact leK.of q
 have f4:∀x∈(xs.toList.drop (sa+na+m)).take (nb-m),leK κ xs[sa+na-1] x:=fun x hx=>by
  obtain⟨j,hj,jk,_⟩:=Wy hx;have q:κ.blt (ky κ x) (ky κ xs[sa+na-1])=false:=g4 (m+j) x (by omega) (by omega) (by rw[←By];exact hj);exact q
 by_cases c2:m=0
 ·rw[yL (by rw[zy];exact c2)];subst c2;refine y7 (asis (zM.mpr ⟨so1,so2,fun x hx y hy=>(lale x hx).trans (f4 y ?_)⟩));exact hy
 rw[yK (by rw[zy];exact c2)];have e1:(xs.toList.drop sa).take na=(xs.toList.drop sa).take k++(xs.toList.drop (sa+k)).take (na-k):=by
  rw[←V2,Nat.add_sub_cancel' hkn]
 have e2:(xs.toList.drop (sa+na)).take nb=(xs.toList.drop (sa+na)).take m++(xs.toList.drop (sa+na+m)).take (nb-m):=by
  rw[←V2,Nat.add_sub_cancel' hm]
 have x1:(xs.extract (sa+k) (sa+na)).toList=(xs.toList.drop (sa+k)).take (na-k):=by
  rw[dJ,show sa+na-(sa+k)=na-k by omega]
 have y1:(xs.extract (sa+na) (sa+na+m)).toList=(xs.toList.drop (sa+na)).take m:=by
  rw[dJ,Nat.add_sub_cancel_left]
 have xz:(xs.extract (sa+k) (sa+na)).size=na-k:=by rw[Bi];omega
 have yz:(xs.extract (sa+na) (sa+na+m)).size=m:=by rw[Bi];omega
 rw[e1]at so1;rw[e2]at so2;have q1:=zM.mp so1;have q2:=zM.mp so2;have last:∀(mg:Array Keyed)(u:SortSt),GalS CI u→Mgd κ (xs.extract (sa+k) (sa+na)) (xs.extract (sa+na) (sa+na+m)) mg→
   Q (failedOf (setArr u (mg.toList.zipIdx.foldl (fun a (x:Keyed×Nat)=>a.setIfInBounds (sa+k+x.2) x.1) (arrOf u)))).isNone (setArr u (mg.toList.zipIdx.foldl (fun a (x:Keyed×Nat)=>a.setIfInBounds (sa+k+x.2) x.1) (arrOf u))):=by
  rintro mg _ ⟨g,rfl⟩ ⟨pm,sm⟩;rw[x1,y1]at pm;have ml:mg.toList.length=na-k+m:=by
   have:=pm.length_eq;rw[yR,←x1,←y1,yU (xs:=xs.extract (sa+k) (sa+na)),yU (xs:=xs.extract (sa+na) (sa+na+m)),xz,yz]at this;exact this
  have e0:(failedOf (setArr (dk CI g) (mg.toList.zipIdx.foldl (fun a (x:Keyed×Nat)=>a.setIfInBounds (sa+k+x.2) x.1) (arrOf (dk CI g))))).isNone=true:=by
   show(failedOf CI).isNone=true;rw[fl'];rfl
  rw[e0];have put:=tE (sa+k) mg.toList 0 xs (by rw[ml];omega);rw[ml,Nat.add_zero,show sa+k+(na-k+m)=sa+na+m by omega]at put;refine done _ ((xs.toList.drop sa).take k++mg.toList++(xs.toList.drop (sa+na+m)).take (nb-m)) kn' fl' rfl ?_ ?_ ?_
  ·show(mg.toList.zipIdx.foldl (fun a (x:Keyed×Nat)=>a.setIfInBounds (sa+k+x.2) x.1) (arrOf CI)).toList=_;rw[ar',put,List.take_add,show sa+na+nb=sa+na+m+(nb-m) by omega,←BX (i:=nb-m) (j:=sa+na+m)];simp only[List.append_assoc];rw[Ag]
  ·rw[V2,e1,e2];simp only[List.append_assoc];refine List.Perm.append_left _ ?_;rw[←zU];exact pm.append_right _
  ·have inm:∀x,x∈mg.toList→x∈(xs.toList.drop (sa+k)).take (na-k)∨x∈(xs.toList.drop (sa+na)).take m:=fun x hx=>ze.mp (pm.mem_iff.mp hx);have ins:∀x,x∈(xs.toList.drop (sa+k)).take (na-k)→x∈(xs.toList.drop sa).take na:=fun x hx=>by rw[e1];exact y3 _ hx
   have ink:∀x,x∈(xs.toList.drop sa).take k→x∈(xs.toList.drop sa).take na:=fun x hx=>by rw[e1];exact zI _ hx
   refine zM.mpr ⟨zM.mpr ⟨q1.1,sm,fun x hx y hy=>?_⟩,q2.2.1,fun x hx y hy=>?_⟩
   ·rcases inm y hy with h | h
    ·exact q1.2.2 x hx y h
    ·exact(f1 x hx).trans (b0le y (by rw[e2];exact zI _ h))
   ·rcases ze.mp hx with h | h
    ·exact(lale x (ink x h)).trans (f4 y hy)
    ·rcases inm x h with h | h
     ·exact(lale x (ins x h)).trans (f4 y hy)
     ·exact q2.2.2 x h y hy
 have fin2:∀(mg:Array Keyed)(u:SortSt),GalS CI u→Mgd κ (xs.extract (sa+k) (sa+na)) (xs.extract (sa+na) (sa+na+m)) mg→
   wpS (model prog w) A E s (do
    modify fun s=>setArr s (mg.toList.zipIdx.foldl (fun a (x:Keyed×Nat)=>a.setIfInBounds (sa+k+x.2) x.1) (arrOf s))
    return (failedOf (←get)).isNone) Q u:=fun mg u gu gm=>y9 (BJ (y9 (Cp (y7 (last mg u gu gm)))))
 have y0:(xs.extract (sa+na) (sa+na+m))[0]'(by omega)=xs[sa+na]:=by
  rw[Array.getElem_extract];rfl
 have xl:(xs.extract (sa+k) (sa+na))[(xs.extract (sa+k) (sa+na)).size-1]'(by omega)=xs[sa+na-1]:=by
  rw[Array.getElem_extract]
  congr 1
  omega
 by_cases c3:na-k≤m
 ·rw[yL c3];refine y9 (hE hc kn' ⟨Tt hk _ _,Tt hk _ _,by rw[x1];exact q1.2.1,by rw[y1];exact q2.1,fun x hx y hy=>?_⟩ (by omega) (by omega) (fun y hy=>?_) fun mg u gu gm=>fin2 mg u gu gm)
  ·rw[eu (by omega),AC (by rw[yU];omega),AJ]at hy;rw[yP.mp hy,xl];rw[y1]at hx;exact f3 x hx
  ·rw[y0];rw[x1]at hy;exact f2 y hy
 ·rw[yK c3];refine y9 (hW hc kn' ⟨Tt hk _ _,Tt hk _ _,by rw[x1];exact q1.2.1,by rw[y1];exact q2.1,fun x hx y hy=>?_⟩ (by omega) (by omega) (fun y hy=>?_) fun mg u gu gm=>fin2 mg u gu gm)
  ·rw[show(1:Nat)=0+1 from rfl,Op (by omega),List.take_zero,List.nil_append]at hx;rw[yP.mp hx,y0];rw[x1]at hy;exact f2 y hy
  ·rw[xl];rw[y1]at hy;exact f3 y hy
end
end L2T
namespace L2T
open PySem PySem.Spec PyProof.Rows L2
def oj(lo a n:Nat):StateT SortSt Sem AscSt:=forIn [a:n] ((none,a):AscSt) fun _ c=>do
 match ←ltAt' (lo+c.2) (lo+c.2-1) with
 |some b=>if b=true then pure (.done (none,c.2))else pure (.yield (none,c.2+1))
 |_=>pure (.done (some none,c.2))
def gC(lo m n:Nat):StateT SortSt Sem (Option Nat):=do
 reverseSlice' lo (lo+m)
 let c ←oj lo m n
 match c.1 with
 |some r=>pure r
 |none=>pure (some c.2)
def jO(lo m n:Nat):StateT SortSt Sem DescSt:=forIn [m:n] ((none,m,0):DescSt) fun _ c=>do
 match ←ltAt' (lo+c.2.1) (lo+c.2.1-1) with
 |some b=>
  if b=true then
   if c.2.2 > 0 then do
    reverseSlice' (lo+c.2.1-(c.2.2+1)) (lo+c.2.1)
    pure (.yield (none,c.2.1+1,0))
   else pure (.yield (none,c.2.1+1,0))
  else do
   match ←ltAt' (lo+c.2.1-1) (lo+c.2.1) with
   |some g=>if g=true then pure (.done (none,c.2.1,c.2.2))else pure (.yield (none,c.2.1+1,c.2.2+1))
   |_=>pure (.done (some none,c.2.1,c.2.2))
 |_=>pure (.done (some none,c.2.1,c.2.2))
def cZ(lo m n:Nat):StateT SortSt Sem (Option Nat):=do
 liftM (rule "list.sort.descending-run")
 let c ←jO lo (m+1) n
 match c.1 with
 |some r=>pure r
 |none=>
  if c.2.2 > 0 then do
   reverseSlice' (lo+c.2.1-(c.2.2+1)) (lo+c.2.1)
   gC lo c.2.1 n
  else gC lo c.2.1 n
theorem bnd{σ α β:Type}{m m':StateT σ Sem α}{f g:α→StateT σ Sem β}(h:m=m')(h2:∀a,f a=g a):m >>= f=m' >>= g:=by
 subst h;rw[show f=g from funext h2]
theorem k9(lo n:Nat):countRun' lo n=(do
  let c ←oj lo 1 n
  match c.1 with
  |some r=>pure r
  |none=>
   if (c.2==n)=true then pure (some c.2)
   else if c.2 > 1 then do
    match ←ltAt' lo (lo+c.2-1) with
    |some b=>if b=true then pure (some c.2)else do
      reverseSlice' lo (lo+c.2)
      cZ lo c.2 n
    |_=>pure none
   else cZ lo c.2 n):=by
 rw[countRun'_eq];unfold cZ gC jO oj;refine bnd rfl fun c=>?_;obtain⟨r,m⟩:=c;cases r with
 |some r=>rfl
 |none=>
  dsimp only
  split
  ·rfl
  ·split
   ·refine bnd rfl fun x=>?_;cases x with
    |none=>rfl
    |some b=>
     dsimp only
     split
     ·rfl
     ·refine bnd rfl fun _=>?_;refine bnd rfl fun _=>bnd rfl fun c2=>?_;obtain⟨r2,m2,q2⟩:=c2;cases r2 with
      |some r2=>rfl
      |none=>
       dsimp only
       split
       ·refine bnd rfl fun _=>?_;refine bnd rfl fun _=>bnd rfl fun c3=>?_;obtain⟨r3,m3⟩:=c3;cases r3 <;> rfl
       ·refine bnd rfl fun _=>bnd rfl fun c3=>?_;obtain⟨r3,m3⟩:=c3;cases r3 <;> rfl
   ·refine bnd rfl fun _=>bnd rfl fun c2=>?_;obtain⟨r2,m2,q2⟩:=c2;cases r2 with
    |some r2=>rfl
    |none=>
     dsimp only
     split
     ·refine bnd rfl fun _=>?_;refine bnd rfl fun _=>bnd rfl fun c3=>?_;obtain⟨r3,m3⟩:=c3;cases r3 <;> rfl
     ·refine bnd rfl fun _=>bnd rfl fun c3=>?_;obtain⟨r3,m3⟩:=c3;cases r3 <;> rfl
structure Sl(kd:SortKind)(CJ:SortSt)(lo:Nat)(u:SortSt):Prop where
 pm:(arrOf u).Perm (arrOf CJ)
 kn:kindOf u=kd
 pd:pendingOf u=pendingOf CJ
 fl:failedOf u=none
 lw:∀k,k<lo→(arrOf u)[k]?=(arrOf CJ)[k]?
def Rl(κ:KeyKind)(xs:Array Keyed)(lo n:Nat):Prop:=∀i j,i≤j→j<n→κ.blt (KK κ xs (lo+j)) (KK κ xs (lo+i))=false
def Fl'(κ:KeyKind)(xs:Array Keyed)(lo n:Nat):Prop:=∀i j,i≤j→j<n→κ.blt (KK κ xs (lo+i)) (KK κ xs (lo+j))=false
section
variable{prog:Program}{w:World}{A:Around}{E:Value→Shared→Prop}{s:Shared}{κ:KeyKind}{kd:SortKind}{CJ st:SortSt}{lo:Nat}
theorem Sl.sz(b:Sl kd CJ lo st):(arrOf st).size=(arrOf CJ).size:=b.pm.size_eq
theorem Sl.put(b:Sl kd CJ lo st){ys:Array Keyed}(p:ys.Perm (arrOf st))(h:∀k,k<lo→ys[k]?=(arrOf st)[k]?):Sl kd CJ lo (setArr st ys):=⟨p.trans b.pm,b.kn,b.pd,b.fl,fun k hk=>(h k hk).trans (b.lw k hk)⟩
theorem Sl.turn(b:Sl kd CJ lo st){i j:Nat}(hi:lo≤i)(hj:j≤(arrOf st).size):Sl kd CJ lo (setArr st (mirror (arrOf st) i j ((j-i) / 2))):=b.put (mirror_perm _ _ _ _) fun k hk=>by rw[getElem?_mirror_all hj,yK (by omega)]
theorem Rl.snoc{xs:Array Keyed}{m:Nat}(r:Rl κ xs lo m)(h1:1≤m)(h:κ.blt (KK κ xs (lo+m)) (KK κ xs (lo+m-1))=false):Rl κ xs lo (m+1):=by
 intro i j hij hj
 rcases z9 j m with l | l
 ·exact r i j hij l
 obtain rfl:j=m:=by omega
 rcases z9 i j with l2 | l2
 ·rw[show lo+j-1=lo+(j-1) by omega]at h;exact ltF (r i (j-1) (by omega) (by omega)) h
 ·obtain rfl:i=j:=by omega
  exact κ.irrefl _
theorem Fl'.snoc{xs:Array Keyed}{m:Nat}(r:Fl' κ xs lo m)(h1:1≤m)(h:κ.blt (KK κ xs (lo+m-1)) (KK κ xs (lo+m))=false):Fl' κ xs lo (m+1):=by
 intro i j hij hj
 rcases z9 j m with l | l
 ·exact r i j hij l
 obtain rfl:j=m:=by omega
 rcases z9 i j with l2 | l2
 ·rw[show lo+j-1=lo+(j-1) by omega]at h;exact ltF h (r i (j-1) (by omega) (by omega))
 ·obtain rfl:i=j:=by omega
  exact κ.irrefl _
theorem wq{xs:Array Keyed}:Rl κ xs lo 1:=fun i j hij hj=>by
 obtain rfl:i=j:=by omega
 exact κ.irrefl _
theorem one_Fl{xs:Array Keyed}:Fl' κ xs lo 1:=fun i j hij hj=>by
 obtain rfl:i=j:=by omega
 exact κ.irrefl _
theorem Fl'.same{xs ys:Array Keyed}{m:Nat}(r:Fl' κ xs lo m)(h:∀k,KK κ ys k=KK κ xs k):Fl' κ ys lo m:=fun i j hij hj=>by
 rw[h,h];exact r i j hij hj
theorem fq{i j:Nat}{Q:Option Bool→SortSt→Prop}(hc:aH prog w A s κ kd)(hk:KeysOf κ (arrOf CJ))(b:Sl kd CJ lo st)(hi:i<(arrOf CJ).size)(hj:j<(arrOf CJ).size)(q:Q (some (κ.blt (KK κ (arrOf st) i) (KK κ (arrOf st) j))) st):wpS (model prog w) A E s (ltAt' i j) Q st:=by
 have hk':KeysOf κ (arrOf st):=fun p hp=>hk p ((AT.mp b.pm).mem_iff.mp hp);have hi':i<(arrOf st).size:=by rw[b.sz];exact hi
 have hj':j<(arrOf st).size:=by rw[b.sz];exact hj
 rw[KK_ky (yN hi'),KK_ky (yN hj')]at q;rw[ltAt'_eq];refine y9 (Cp ?_);show wpS (model prog w) A E s (elem' (arrOf st) i >>= fun u=>elem' (arrOf st) j >>= fun v=>lt' u v) Q st;rw[Yc hi',Yc hj'];exact y9 (y7 (y9 (y7 (P0 hc b.kn (W3 hk' hi') (W3 hk' hj') q))))
theorem yB{a n:Nat}{Q:AscSt→SortSt→Prop}(hc:aH prog w A s κ kd)(hk:KeysOf κ (arrOf CJ))(hn:lo+n≤(arrOf CJ).size)(h1:1≤a)(h2:a≤n)(b:Sl kd CJ lo st)(r:Rl κ (arrOf st) lo a)(fin:∀m,a≤m→m≤n→Rl κ (arrOf st) lo m→(m<n→κ.blt (KK κ (arrOf st) (lo+m)) (KK κ (arrOf st) (lo+m-1))=true)→Q (none,m) st):wpS (model prog w) A E s (oj lo a n) Q st:=by
 unfold oj;refine Ar (fun i c u=>u=st∧c=(none,i)∧Rl κ (arrOf st) lo i) ?_ ?_ ⟨rfl,rfl,r⟩
 ·rintro i _ _ h3 h4 ⟨rfl,rfl,r'⟩;refine y9 (fq hc hk b (by show lo+i<_;omega) (by show lo+i-1<_;omega) ?_);dsimp only
  rcases e:κ.blt (KK κ (arrOf _) (lo+i)) (KK κ (arrOf _) (lo+i-1))with _ | _
  ·exact y7 ⟨rfl,rfl,r'.snoc (by omega) e⟩
  ·exact y7 (fin i h3 (by omega) r' fun _=>e)
 ·rintro _ _ ⟨rfl,rfl,r'⟩;rw[Nat.max_eq_right h2]at r'⊢;exact fin n h2 (yM _) r' fun q=>absurd q (Be _)
theorem m9{m n:Nat}{Q:Option Nat→SortSt→Prop}(hc:aH prog w A s κ kd)(hk:KeysOf κ (arrOf CJ))(hn:lo+n≤(arrOf CJ).size)(h1:1≤m)(h2:m≤n)(b:Sl kd CJ lo st)(r:Fl' κ (arrOf st) lo m)(fin:∀l u,Sl kd CJ lo u→1≤l→l≤n→Rl κ (arrOf u) lo l→Q (some l) u):wpS (model prog w) A E s (gC lo m n) Q st:=by
 unfold gC;have ml:lo+m≤(arrOf st).size:=by rw[b.sz];omega
 refine y9 (Sx ?_);have b':=b.turn (i:=lo) (yM _) ml;refine y9 (yB hc hk hn h1 h2 b' (fun i j hij hj=>?_) fun l h3 h4 r' _=>y7 (fin l _ b' (by omega) h4 r'));show κ.blt (KK κ (mirror (arrOf st) lo (lo+m) ((lo+m-lo) / 2)) (lo+j)) (KK κ (mirror (arrOf st) lo (lo+m) ((lo+m-lo) / 2)) (lo+i))=false;rw[KK_mirror ml,KK_mirror ml,yL ⟨by omega,by omega⟩,yL ⟨by omega,by omega⟩,show lo+(lo+m)-1-(lo+j)=lo+(m-1-j) by omega,show lo+(lo+m)-1-(lo+i)=lo+(m-1-i) by omega];exact r _ _ (by omega) (by omega)
theorem uZ{m n:Nat}{Q:DescSt→SortSt→Prop}(hc:aH prog w A s κ kd)(hk:KeysOf κ (arrOf CJ))(hn:lo+n≤(arrOf CJ).size)(h1:1≤m)(h2:m≤n)(b:Sl kd CJ lo st)(r:Fl' κ (arrOf st) lo m)(fin:∀l e u,Sl kd CJ lo u→m≤l→l≤n→Fl' κ (arrOf u) lo l→e+1≤l→(∀i,lo+l-(e+1)≤i→i<lo+l→KK κ (arrOf u) i=KK κ (arrOf u) (lo+l-1))→Q (none,l,e) u):
  wpS (model prog w) A E s (jO lo m n) Q st:=by
 unfold jO;refine Ar (fun i c u=>∃e,c=(none,i,e)∧Sl kd CJ lo u∧Fl' κ (arrOf u) lo i∧e+1≤i∧∀k,lo+i-(e+1)≤k→k<lo+i→KK κ (arrOf u) k=KK κ (arrOf u) (lo+i-1)) ?_ ?_ ⟨0,rfl,b,r,h1,fun k h3 h4=>by rw[show k=lo+m-1 by omega]⟩
 ·rintro i _ u h3 h4 ⟨e,rfl,b',r',he,al⟩;have il:lo+i≤(arrOf u).size:=by rw[b'.sz];omega
  dsimp only;refine y9 (fq hc hk b' (by omega) (by omega) ?_);dsimp only
  rcases e1:κ.blt (KK κ (arrOf u) (lo+i)) (KK κ (arrOf u) (lo+i-1))with _ | _
  ·rw[yK yT];refine y9 (fq hc hk b' (by omega) (by omega) ?_);dsimp only
   rcases e2:κ.blt (KK κ (arrOf u) (lo+i-1)) (KK κ (arrOf u) (lo+i))with _ | _
   ·have eq:KK κ (arrOf u) (lo+i)=KK κ (arrOf u) (lo+i-1):=κ.total _ _ e1 e2;refine y7 ⟨e+1,rfl,b',r'.snoc (by omega) e2,by omega,fun k h5 h6=>?_⟩;rw[show lo+(i+1)-1=lo+i by omega]
    rcases z9 k (lo+i)with l | l
    ·rw[eq];exact al k (by omega) l
    ·rw[show k=lo+i by omega]
   ·exact y7 (fin i e u b' h3 (by omega) r' he al)
  ·have up:=r'.snoc (by omega) (ltA e1);rw[yL rfl];by_cases c:e > 0
   ·rw[yL c];refine y9 (Sx ?_);exact y7 ⟨0,rfl,b'.turn (by omega) il,up.same (KK_mirror_equal il al),by omega,fun k h5 h6=>by rw[show k=lo+(i+1)-1 by omega]⟩
   ·rw[yK c];exact y7 ⟨0,rfl,b',up,by omega,fun k h5 h6=>by rw[show k=lo+(i+1)-1 by omega]⟩
 ·rintro _ u ⟨e,rfl,b',r',he,al⟩;rw[Nat.max_eq_right h2]at r' he al⊢;exact fin n e u b' h2 (yM _) r' he al
theorem kA{m n:Nat}{Q:Option Nat→SortSt→Prop}(hc:aH prog w A s κ kd)(hk:KeysOf κ (arrOf CJ))(hn:lo+n≤(arrOf CJ).size)(h2:m+1≤n)(b:Sl kd CJ lo st)(r:Fl' κ (arrOf st) lo (m+1))(fin:∀l u,Sl kd CJ lo u→1≤l→l≤n→Rl κ (arrOf u) lo l→Q (some l) u):wpS (model prog w) A E s (cZ lo m n) Q st:=by
 unfold cZ;refine y9 (m:=liftM (rule _)) (wpS_lift (AM ⟨rfl,?_⟩));refine y9 (uZ hc hk hn (by omega) h2 b r fun l e u b' h3 h4 r' he al=>?_);have ll:lo+l≤(arrOf u).size:=by rw[b'.sz];omega
 dsimp only;by_cases c:e > 0
 ·rw[yL c];refine y9 (Sx ?_);exact m9 (m:=l) hc hk hn (by omega) h4 (b'.turn (by omega) ll) (r'.same (KK_mirror_equal ll al)) fin
 ·rw[yK c];exact m9 (m:=l) hc hk hn (by omega) h4 b' r' fin
theorem tG{n:Nat}{Q:Option Nat→SortSt→Prop}(hc:aH prog w A s κ kd)(hk:KeysOf κ (arrOf CJ))(hn:lo+n≤(arrOf CJ).size)(h1:1≤n)(b:Sl kd CJ lo st)(fin:∀l u,Sl kd CJ lo u→1≤l→l≤n→Rl κ (arrOf u) lo l→Q (some l) u):wpS (model prog w) A E s (countRun' lo n) Q st:=by
 rw[k9];refine y9 (yB hc hk hn (yM 1) h1 b wq fun m h3 h4 r lt=>?_);dsimp only
 rcases z9 m n with c | c
 ·rw[yK (by rw[zy];omega)];have lt:=lt c;by_cases c2:m > 1
  ·rw[yL c2];refine y9 (fq hc hk b (by omega) (by omega) ?_);dsimp only
   rcases e:κ.blt (KK κ (arrOf st) lo) (KK κ (arrOf st) (lo+m-1))with _ | _
   ·rw[yK yT];have ml:lo+m≤(arrOf st).size:=by rw[b.sz];omega
    have al:∀k,lo≤k→k<lo+m→KK κ (arrOf st) k=KK κ (arrOf st) (lo+m-1):=fun k hk h=>by
     have q1:=r 0 (k-lo) (Aa _) (by omega);have q2:=r (k-lo) (m-1) (by omega) (by omega);rw[show lo+(k-lo)=k by omega,Nat.add_zero]at q1;rw[show lo+(k-lo)=k by omega,show lo+(m-1)=lo+m-1 by omega]at q2;exact κ.total _ _ (ltF e q1) q2
    refine y9 (Sx (kA hc hk hn (by omega) (b.turn (yM _) ml) ?_ fin));refine Fl'.same (xs:=arrOf st) (Fl'.snoc (fun i j hij hj=>?_) (by omega) (ltA lt)) (KK_mirror_equal ml al);rw[al (lo+i) (by omega) (by omega),al (lo+j) (by omega) (by omega)];exact κ.irrefl _
   ·rw[yL rfl];exact y7 (fin m st b h3 h4 r)
  ·rw[yK c2];obtain rfl:m=1:=by omega
   exact kA hc hk hn (by omega) b (one_Fl.snoc (by omega) (ltA lt)) fin
 ·obtain rfl:m=n:=by omega
  rw[yL (by rw[zy])];exact y7 (fin m st b h3 h4 r)
theorem x4{n ok:Nat}{Q:Bool→SortSt→Prop}(hc:aH prog w A s κ kd)(hk:KeysOf κ (arrOf CJ))(hn:lo+n≤(arrOf CJ).size)(h2:ok≤n)(b:Sl kd CJ lo st)(r:Rl κ (arrOf st) lo ok)(fin:∀u,Sl kd CJ lo u→Rl κ (arrOf u) lo n→Q true u):wpS (model prog w) A E s (binarySort' lo n ok) Q st:=by
 rw[binarySort'_eq];have bW:Rl κ (arrOf st) lo (min (max ok 1) n):=fun i j hij hj=>by
  rcases z9 j ok with l | l
  ·exact r i j hij l
  ·obtain rfl:i=j:=by omega
   exact κ.irrefl _
 refine y9 (AS (Ar (Q:=fun c u=>c=(none,())∧Sl kd CJ lo u∧Rl κ (arrOf u) lo n) (fun k c u=>c=(none,())∧Sl kd CJ lo u∧Rl κ (arrOf u) lo (min k n)) ?_ ?_ ⟨rfl,b,bW⟩) ?_)
 ·rintro k _ u h3 h4 ⟨rfl,b',r'⟩;rw[Bn (AA h4)]at r';have kl:lo+k<(arrOf CJ).size:=by omega
  have ks:lo+k<(arrOf u).size:=by rw[b'.sz];exact kl
  refine y9 (AS (Ar (Q:=fun c v=>v=u∧∃p,c=(none,p,p)∧p≤k∧(∀i,i<p→κ.blt (KK κ (arrOf u) (lo+k)) (KK κ (arrOf u) (lo+i))=false)∧∀i,p≤i→i<k→κ.blt (KK κ (arrOf u) (lo+k)) (KK κ (arrOf u) (lo+i))=true)
   (fun x c v=>v=u∧∃p q,c=(none,p,q)∧p≤q∧q≤k∧q+x≤k+p∧(∀i,i<p→κ.blt (KK κ (arrOf u) (lo+k)) (KK κ (arrOf u) (lo+i))=false)∧∀i,q≤i→i<k→κ.blt (KK κ (arrOf u) (lo+k)) (KK κ (arrOf u) (lo+i))=true) ?_ ?_
   ⟨rfl,0,k,rfl,Aa _,yM _,by omega,fun i h=>absurd h (Nat.not_lt_zero i),fun i h h'=>absurd h' (by omega)⟩) ?_)
  ·rintro x _ _ h5 h6 ⟨rfl,p,q,rfl,pq,qk,qx,lw,hi⟩;dsimp only
   rcases z9 p q with c | c
   ·rw[yK (by omega)];refine y9 (fq hc hk b' kl (by omega) ?_);dsimp only
    rcases e:κ.blt (KK κ (arrOf _) (lo+k)) (KK κ (arrOf _) (lo+(p+q) / 2))with _ | _
    ·refine y7 ⟨rfl,(p+q) / 2+1,q,rfl,by omega,qk,by omega,fun i h=>?_,hi⟩;exact ltF (r' i ((p+q) / 2) (by omega) (by omega)) e
    ·refine y7 ⟨rfl,p,(p+q) / 2,rfl,by omega,by omega,by omega,lw,fun i h h'=>?_⟩
     rcases κ.negTrans _ (KK κ (arrOf _) (lo+i)) _ e with z | z
     ·exact z
     ·rw[r' _ i h h']at z;cases z
   ·rw[yL c];obtain rfl:p=q:=by omega
    exact y7 ⟨rfl,p,rfl,qk,lw,hi⟩
  ·rintro _ _ ⟨rfl,p,q,rfl,pq,qk,qx,lw,hi⟩;obtain rfl:p=q:=by omega
   exact⟨rfl,p,rfl,qk,lw,hi⟩
  ·rintro _ _ ⟨rfl,p,rfl,pk,lw,hi⟩;show wpS (model prog w) A E s (moveDown' (lo+k) (lo+p) >>= fun _=>pure (ForInStep.yield (none,()))) _ _;rw[moveDown'_eq];refine y9 (BJ (y7 ⟨rfl,b'.put (bubble_perm _ _ _) (fun i hi=>?_),?_⟩))
   ·rw[getElem?_bubble ks _ (by omega),yK (by omega),yK (by omega)]
   rw[Bn h4];intro i j hij hj;show κ.blt (KK κ (bubble (arrOf _) (lo+k) (lo+k-(lo+p))) (lo+j)) (KK κ (bubble (arrOf _) (lo+k) (lo+k-(lo+p))) (lo+i))=false;have at_:∀i,KK κ (bubble (arrOf _) (lo+k) (lo+k-(lo+p))) (lo+i)=if i=p then KK κ (arrOf _) (lo+k)else if p<i∧i≤k then KK κ (arrOf _) (lo+(i-1))else KK κ (arrOf _) (lo+i):=fun i=>by
    rw[KK_bubble ks (Nat.sub_le _ _),show lo+k-(lo+k-(lo+p))=lo+p by omega];by_cases c1:i=p
    ·rw[yL c1,yL (by omega)]
    ·rw[yK c1,yK (by omega)];by_cases c2:p<i∧i≤k
     ·rw[yL c2,yL (by omega),show lo+i-1=lo+(i-1) by omega]
     ·rw[yK c2,yK (by omega)]
   rw[at_,at_]
   rcases Nat.lt_trichotomy j p with c | c | c
   ·rw[yK (by omega),yK (by omega),yK (by omega),yK (by omega)];exact r' i j hij (by omega)
   ·rw[yL c]
    rcases z9 i p with d | d
    ·rw[yK (by omega),yK (by omega)];exact lw i d
    ·rw[yL (by omega)];exact κ.irrefl _
   ·rw[yK (by omega),yL (by omega)]
    rcases Nat.lt_trichotomy i p with d | d | d
    ·rw[yK (by omega),yK (by omega)];exact r' i (j-1) (by omega) (by omega)
    ·rw[yL d];exact ltA (hi (j-1) (by omega) (by omega))
    ·rw[yK (by omega),yL (by omega)];exact r' (i-1) (j-1) (by omega) (by omega)
 ·rintro _ u ⟨h,b',r'⟩;refine⟨h,b',?_⟩;rw[show min (max (max ok 1) n) n=n by omega]at r';exact r'
 ·rintro _ u ⟨rfl,b',r'⟩;exact y7 (fin u b' r')
end
end L2T
namespace L2T
open PySem PySem.Spec PyProof.Rows L2
abbrev seg(L:List Keyed)(i n:Nat):List Keyed:=(L.drop i).take n
def Tile(κ:KeyKind)(L:List Keyed):Nat→List (Nat×Nat)→Nat→Prop
 |a,[],e=>a=e
 |a,(s,n)::ps,e=>s=a∧0<n∧Srt κ (seg L s n)∧Tile κ L (a+n) ps e
section
variable{κ:KeyKind}{L L':List Keyed}
theorem Tile.le{ps:List (Nat×Nat)}:∀{a e:Nat},Tile κ L a ps e→a+ps.length≤e:=by
 induction ps with
 |nil=>intro a e h;exact Nat.le_of_eq h
 |cons p ps ih=>
  intro a e h;have:=ih h.2.2.2;have:=h.2.1;rw[zw];omega
theorem Tile.hi{ps:List (Nat×Nat)}:∀{a e:Nat},Tile κ L a ps e→(∀s n,a≤s→s+n≤e→seg L' s n=seg L s n)→Tile κ L' a ps e:=by
 induction ps with
 |nil=>intro a e h _;exact h
 |cons p ps ih=>
  intro a e h g;obtain⟨h1,h2,h3,h4⟩:=h;have le:=h4.le;exact⟨h1,h2,by rw[g p.1 p.2 (by omega) (by omega)];exact h3,ih h4 fun s n hs=>g s n (by omega)⟩
theorem Tile.snoc{ps:List (Nat×Nat)}{n:Nat}:∀{a e:Nat},Tile κ L a ps e→0<n→Srt κ (seg L e n)→Tile κ L a (ps++[(e,n)]) (e+n):=by
 induction ps with
 |nil=>intro a e h h0 hs;cases h;exact⟨rfl,h0,hs,rfl⟩
 |cons p ps ih=>intro a e h h0 hs;exact⟨h.1,h.2.1,h.2.2.1,ih h.2.2.2 h0 hs⟩
theorem Tile.two{ps:List (Nat×Nat)}:∀{a e i sa na sb nb:Nat},Tile κ L a ps e→ps[i]?=some (sa,na)→ps[i+1]?=some (sb,nb)→sb=sa+na∧0<na∧0<nb∧a≤sa∧sa+na+nb≤e∧Srt κ (seg L sa na)∧Srt κ (seg L sb nb):=by
 induction ps with
 |nil=>intro a e i sa na sb nb _ h;cases h
 |cons p ps ih=>
  intro a e i sa na sb nb h g1 g2;cases i with
  |zero=>
   cases g1;cases ps with
   |nil=>cases g2
   |cons q ps=>
    cases g2;obtain⟨rfl,h2,h3,h4,h5,h6,h7⟩:=h;have:=h7.le;exact⟨h4,h2,h5,yM _,by omega,h3,h6⟩
  |succ i=>
   obtain⟨b1,b2,b3,b4,b5⟩:=ih h.2.2.2 g1 g2;exact⟨b1,b2,b3,by omega,b5⟩
theorem Tile.mrg{ps:List (Nat×Nat)}{sa na nb e:Nat}:∀{a i sb:Nat},Tile κ L a ps e→ps[i]?=some (sa,na)→ps[i+1]?=some (sb,nb)→
  Srt κ (seg L' sa (na+nb))→(∀s n,s+n≤sa→seg L' s n=seg L s n)→(∀s n,sa+na+nb≤s→seg L' s n=seg L s n)→Tile κ L' a ((ps.set i (sa,na+nb)).eraseIdx (i+1)) e:=by
 induction ps with
 |nil=>intro a i sb _ h;cases h
 |cons p ps ih=>
  intro a i sb h g1 g2 so lw hi;cases i with
  |zero=>
   cases g1;cases ps with
   |nil=>cases g2
   |cons q ps=>
    cases g2;obtain⟨rfl,h2,h3,h4,h5,h6,h7⟩:=h;refine⟨rfl,by omega,so,?_⟩;rw[←By];exact h7.hi fun s n hs _=>hi s n hs
  |succ i=>
   obtain⟨b1,b2,b3,b4,b5⟩:=h.2.2.2.two g1 g2;obtain⟨h1,h2,h3,h4⟩:=h;exact⟨h1,h2,by rw[lw p.1 p.2 (by omega)];exact h3,ih h4 g1 g2 so lw hi⟩
theorem rR{X M S:List Keyed}{s n sa:Nat}(hX:X=L.take sa)(hs:s+n≤sa)(hl:sa≤L.length):seg (X++M++S) s n=seg L s n:=by
 subst hX;refine BV fun j=>?_;rw[z7,z7]
 split
 ·rw[Aq,Aq,zU,List.getElem?_append_left (by rw[zu];omega),z7,yL (by omega)]
 ·rfl
theorem e9{X S:List Keyed}{s n t:Nat}(hX:X.length=t)(hS:S=L.drop t)(hs:t≤s):seg (X++S) s n=seg L s n:=by
 subst hS;unfold seg;rw[List.drop_append,AC (by omega),List.nil_append,BX,hX,show t+(s-t)=s by omega]
theorem Ui{α β:Type}(f:α→β):∀(l:List α)(i:Nat),(l.eraseIdx i).map f=(l.map f).eraseIdx i:=by
 intro l
 induction l with
 |nil=>intro i;rfl
 |cons x l ih=>
  intro i;cases i with
  |zero=>rfl
  |succ i=>
   show f x::(l.eraseIdx i).map f=f x::(l.map f).eraseIdx i;rw[ih]
abbrev pr(p:Nat×Nat×Nat):Nat×Nat:=(p.1,p.2.1)
abbrev pq(st:SortSt):List (Nat×Nat):=(pendingOf st).toList.map pr
structure SR(κ:KeyKind)(kd:SortKind)(xs0:Array Keyed)(e:Nat)(u:SortSt):Prop where
 pm:(arrOf u).Perm xs0
 kn:kindOf u=kd
 fl:failedOf u=none
 til:Tile κ (arrOf u).toList 0 (pq u) e
 le:e≤xs0.size
variable{prog:Program}{w:World}{A:Around}{E:Value→Shared→Prop}{s:Shared}{kd:SortKind}{xs0:Array Keyed}{st:SortSt}
theorem SR.keys{e:Nat}(hk:KeysOf κ xs0)(b:SR κ kd xs0 e st):KeysOf κ (arrOf st):=fun p hp=>hk p ((AT.mp b.pm).mem_iff.mp hp)
theorem SR.sz{e:Nat}(b:SR κ kd xs0 e st):(arrOf st).size=xs0.size:=b.pm.size_eq
theorem SR.pend{e:Nat}(b:SR κ kd xs0 e st){ps:Array (Nat×Nat×Nat)}(h:ps.toList.map pr=pq st):SR κ kd xs0 e (setPending st ps):=⟨b.pm,b.kn,b.fl,by
 show Tile κ (arrOf st).toList 0 (ps.toList.map pr) e;rw[h];exact b.til,b.le⟩
theorem gK{e i:Nat}{Q:Bool→SortSt→Prop}(hc:aH prog w A s κ kd)(hk:KeysOf κ xs0)(b:SR κ kd xs0 e st)(hi:i+1<(pendingOf st).size)(fin:∀v,SR κ kd xs0 e v→(pendingOf v).size+1=(pendingOf st).size→(∀s n,e≤s→seg (arrOf v).toList s n=seg (arrOf st).toList s n)→Q true v):wpS (model prog w) A E s (mergeAt' i) Q st:=by
 obtain⟨⟨sa,na,pw⟩,p1⟩:∃p,(pendingOf st)[i]?=some p:=⟨_,yN (by omega)⟩;obtain⟨⟨sb,nb,pw2⟩,p2⟩:∃p,(pendingOf st)[i+1]?=some p:=⟨_,yN hi⟩;have q1:(pq st)[i]?=some (sa,na):=by
  rw[zc,yS,p1];rfl
 have q2:(pq st)[i+1]?=some (sb,nb):=by
  rw[zc,yS,p2];rfl
 obtain⟨rfl,t1,t2,t3,t4,t5,t6⟩:=b.til.two q1 q2;have le:=b.le;have sz:=b.sz;refine iJ hc b.kn b.fl (b.keys hk) p1 p2 t1 t2 (by omega) t5 t6 fun u m=>?_;obtain⟨M,a1,a2,a3⟩:=m.arr;have ML:M.length=na+nb:=by
  rw[a2.length_eq,zu,AB,yU];omega
 have TL:((arrOf st).toList.take sa++M).length=sa+na+nb:=by
  rw[yR,zu,yU,ML];omega
 have pl:(pendingOf u).toList=((pendingOf st).toList.set i (sa,na+nb,pw)).eraseIdx (i+1):=by
  rw[m.pd,Array.toList_eraseIdxIfInBounds,Array.toList_setIfInBounds]
 refine fin u ⟨?_,m.kn.trans b.kn,m.fl,?_,b.le⟩ ?_ fun s n hs=>by rw[a1];exact e9 TL rfl (by omega)
 ·refine Array.Perm.trans (AT.mpr ?_) b.pm;rw[a1];have e:(arrOf st).toList=(arrOf st).toList.take sa++((arrOf st).toList.drop sa).take (na+nb)++(arrOf st).toList.drop (sa+na+nb):=by
   rw[By,←BX,zU,Ag,Ag]
  rw[zU];refine List.Perm.trans (List.Perm.append_left _ (a2.append_right _)) (List.Perm.of_eq ?_);rw[←zU];exact e.symm
 ·have e:pq u=((pq st).set i (sa,na+nb)).eraseIdx (i+1):=by
   show(pendingOf u).toList.map pr=_;rw[pl,Ui,List.map_set]
  rw[e];refine b.til.mrg q1 q2 ?_ ?_ ?_
  ·have e2:seg (arrOf u).toList sa (na+nb)=M:=by
    unfold seg;rw[a1,zU,List.drop_append,AC (by rw[zu,yU];omega),List.nil_append,zu,yU,show sa-min sa (arrOf st).size=0 by omega,BW,List.take_append_of_le_length (by omega),Ac (by omega)]
   rw[e2];exact a3
  ·intro s n hs;rw[a1];exact rR rfl hs (by rw[yU];omega)
  ·intro s n hs;rw[a1];exact e9 TL rfl hs
 ·rw[←yU (xs:=pendingOf u),pl,List.length_eraseIdx,List.length_set,yU,yL hi];omega
theorem ux{e:Nat}{v:SortSt}(b:SR κ kd xs0 e st)(h:Sl kd st e v):SR κ kd xs0 e v:=by
 have le:=b.le;refine⟨h.pm.trans b.pm,h.kn,h.fl,?_,b.le⟩;have e1:pq v=pq st:=by unfold pq;rw[h.pd]
 rw[e1];refine b.til.hi fun s n _ hs=>?_;refine BV fun j=>?_;rw[z7,z7]
 split
 ·rw[Aq,Aq,yS,yS];exact h.lw _ (by omega)
 ·rfl
theorem jU{xs:Array Keyed}{lo n:Nat}(r:Rl κ xs lo n):Srt κ (seg xs.toList lo n):=by
 refine AW.mpr fun i j hi hj hij=>?_;rw[zu,AB,yU]at hi hj;have e1:xs[lo+i]?=some ((seg xs.toList lo n)[i]):=by
  rw[List.getElem_take,List.getElem_drop,Array.getElem_toList];exact yN _
 have e2:xs[lo+j]?=some ((seg xs.toList lo n)[j]):=by
  rw[List.getElem_take,List.getElem_drop,Array.getElem_toList];exact yN _
 have:=r i j (by omega) (by omega);rw[KK_ky e1,KK_ky e2]at this;exact this
def mgl(size pw:Nat):StateT SortSt Sem (Option Unit×Unit):=forIn [0:size] ((none,()):Option Unit×Unit) fun _ _=>do
 let u ←get
 match (if (pendingOf u).size > 1 then(pendingOf u)[(pendingOf u).size-2]? else none) with
 |some (_,_,older)=>
  if older≤pw then pure (.done (none,()))else do
   let r ←mergeAt' ((pendingOf u).size-2)
   if (!r)=true then pure (.done (some (),()))else pure (.yield (none,()))
 |_=>pure (.done (none,()))
def dA(size lo n:Nat):StateT SortSt Sem (ForInStep (Option Unit×Nat)):=do
 let u ←get
 match (pendingOf u).back? with
 |some (s1,n1,_)=>do
  let c ←mgl size (power' size (2*s1+n1) (2*s1+n1+n1+n) size)
  match c.1 with
  |some r=>pure (.done (some r,lo))
  |none=>do
   modify fun s=>setPending s ((pendingOf s).modify ((pendingOf s).size-1) fun x=>(x.1,x.2.1,power' size (2*s1+n1) (2*s1+n1+n1+n) size))
   modify fun s=>setPending s ((pendingOf s).push (lo,n,0))
   pure (.yield (none,lo+n))
 |_=>do
  modify fun s=>setPending s ((pendingOf s).push (lo,n,0))
  pure (.yield (none,lo+n))
theorem vf{e size pw:Nat}{Q:Option Unit×Unit→SortSt→Prop}(hc:aH prog w A s κ kd)(hk:KeysOf κ xs0)(b:SR κ kd xs0 e st)(fin:∀v,SR κ kd xs0 e v→(∀s n,e≤s→seg (arrOf v).toList s n=seg (arrOf st).toList s n)→Q (none,()) v):wpS (model prog w) A E s (mgl size pw) Q st:=by
 unfold mgl;refine Ar (fun _ c v=>c=(none,())∧SR κ kd xs0 e v∧∀s n,e≤s→seg (arrOf v).toList s n=seg (arrOf st).toList s n) ?_ ?_ ⟨rfl,b,fun _ _ _=>rfl⟩
 ·rintro _ _ u _ _ ⟨rfl,b',g⟩;refine y9 (Cp ?_);by_cases c:(pendingOf u).size > 1
  ·rw[yL c];obtain⟨⟨p1,p2,p3⟩,hp⟩:∃p,(pendingOf u)[(pendingOf u).size-2]?=some p:=⟨_,yN (by omega)⟩;rw[hp];dsimp only
   split
   ·exact y7 (fin u b' g)
   ·exact y9 (gK hc hk b' (by omega) fun v bv _ gv=>y7 ⟨rfl,bv,fun s n hs=>(gv s n hs).trans (g s n hs)⟩)
  ·rw[yK c];exact y7 (fin u b' g)
 ·rintro _ u ⟨rfl,b',g⟩;exact fin u b' g
theorem SR.run{lo n:Nat}(b:SR κ kd xs0 lo st)(n1:0<n)(hn:lo+n≤xs0.size)(so:Srt κ (seg (arrOf st).toList lo n)):SR κ kd xs0 (lo+n) (setPending st ((pendingOf st).push (lo,n,0))):=by
 refine⟨b.pm,b.kn,b.fl,?_,hn⟩;show Tile κ (arrOf st).toList 0 (((pendingOf st).push (lo,n,0)).toList.map pr) (lo+n);rw[Bb,zk];exact b.til.snoc n1 so
theorem sS(f:Nat×Nat×Nat→Nat×Nat×Nat)(hf:∀x,pr (f x)=pr x):∀(l:List (Nat×Nat×Nat))(i:Nat),(l.modify i f).map pr=l.map pr:=by
 intro l
 induction l with
 |nil=>intro i;cases i <;> rfl
 |cons x l ih=>
  intro i;cases i with
  |zero=>
   show pr (f x)::l.map pr=pr x::l.map pr;rw[hf]
  |succ i=>
   show pr x::(l.modify i f).map pr=pr x::l.map pr;rw[ih]
theorem eM{lo n size:Nat}{Q:ForInStep (Option Unit×Nat)→SortSt→Prop}(hc:aH prog w A s κ kd)(hk:KeysOf κ xs0)(b:SR κ kd xs0 lo st)(n1:0<n)(hn:lo+n≤xs0.size)(so:Srt κ (seg (arrOf st).toList lo n))(fin:∀v,SR κ kd xs0 (lo+n) v→Q (.yield (none,lo+n)) v):wpS (model prog w) A E s (dA size lo n) Q st:=by
 unfold dA;refine y9 (Cp ?_);cases hb:(pendingOf st).back? with
 |none=>exact y9 (BJ (y7 (fin _ (b.run n1 hn so))))
 |some p=>
  obtain⟨s1,m1,pw⟩:=p;dsimp only;refine y9 (vf hc hk b fun v bv gv=>?_);dsimp only;refine y9 (BJ (y9 (BJ (y7 (fin _ ?_)))));refine SR.run (st:=setPending v _) (bv.pend ?_) n1 hn ?_
  ·rw[Array.toList_modify];exact sS (fun x=>(x.1,x.2.1,power' size (2*s1+m1) (2*s1+m1+m1+n) size)) (fun _=>rfl) _ _
  ·show Srt κ (seg (arrOf v).toList lo n);rw[gv lo n (yM _)];exact so
theorem Rz.of_srt{xs:Array Keyed}{n:Nat}(h:Srt κ (seg xs.toList 0 n))(hn:n≤xs.size):Rz κ xs n:=fun i j hij hj=>by
 have at_:∀k (hk:k<n),(seg xs.toList 0 n)[k]?=some (xs[k]'(by omega)):=fun k hk=>by
  rw[z7,yL hk,BW,yS];exact yN _
 have q:=h.at hij (at_ i (by omega)) (at_ j hj);rw[KK_ky (yN (show i<xs.size by omega)),KK_ky (yN (show j<xs.size by omega))];exact q
theorem rS:∀(f n r:Nat),0<n→0<minRun' f n r:=by
 intro f
 induction f with
 |zero=>
  intro n r h;show 0<n+r;omega
 |succ f ih=>
  intro n r h;rw[minRun'_succ]
  split
  ·omega
  ·exact ih _ _ (by omega)
theorem eqp{α:Type}{p p':StateT SortSt Sem α}{Q:α→SortSt→Prop}(h:p=p')(g:wpS (model prog w) A E s p' Q st):wpS (model prog w) A E s p Q st:=by
 rw[h];exact g
theorem runs_all{Q:Unit→SortSt→Prop}(hc:aH prog w A s κ kd)(hk:KeysOf κ xs0)(b:Sst kd xs0 st)(h1:1≤xs0.size)(fin:∀u,(arrOf u).Perm xs0→failedOf u=none→Rz κ (arrOf u) xs0.size→Q () u):wpS (model prog w) A E s sortRuns' Q st:=by
 rw[sortRuns'_eq];refine y9 (Cp ?_);simp only[b.sz];have s0:SR κ kd xs0 0 st:=⟨b.pm,b.kn,b.fl,by show Tile κ _ 0 ((pendingOf st).toList.map pr) 0;rw[b.pd];rfl,Aa _⟩;have mp:=rS xs0.size xs0.size 0 (by omega);generalize minRun' xs0.size xs0.size 0=mr at mp⊢;refine y9 (AS (Ar (β:=Option Unit×Nat) (Q:=fun c u=>c=(none,xs0.size)∧SR κ kd xs0 xs0.size u) (fun x c u=>∃lo,c=(none,lo)∧x≤lo∧SR κ kd xs0 lo u) ?_ ?_ ⟨0,rfl,yM _,s0⟩) ?_)
 ·rintro x _ u _ hx ⟨lo,rfl,xl,bu⟩;have le:=bu.le;have sz:=bu.sz;dsimp only
  rcases z9 lo xs0.size with c | c
  ·rw[yK (by omega)];have sl:Sl kd u lo u:=⟨Cb _,bu.kn,rfl,bu.fl,fun _ _=>rfl⟩;refine y9 (tG hc (bu.keys hk) (by omega) (by omega) sl fun l v bv l1 l2 r=>?_);dsimp only;have fin2:∀n v,0<n→SR κ kd xs0 (lo+n) v→∃lo',((none:Option Unit),lo+n)=(none,lo')∧x+1≤lo'∧SR κ kd xs0 lo' v:=fun n v hn h=>⟨lo+n,rfl,by omega,h⟩
   rcases z9 l mr with d | d
   ·rw[yL d];refine y9 (m:=liftM (rule _)) (wpS_lift (AM ⟨rfl,?_⟩));refine y9 (x4 hc (bu.keys hk) (n:=min (xs0.size-lo) mr) (by omega) (by omega) bv r fun y by' r3=>?_);rw[Bool.not_true,yK yT];refine eqp (p':=dA xs0.size lo (min (xs0.size-lo) mr)) ?_ ?_
    ·unfold dA mgl;refine bnd rfl fun u2=>?_;cases hb:(pendingOf u2).back? with
     |none=>rfl
     |some p=>
      obtain⟨s1,m1,pw⟩:=p;dsimp only;refine bnd ?_ fun c=>?_
      ·congr 1
      ·obtain⟨r4,u4⟩:=c;cases r4 <;> rfl
    refine AS (eM (size:=xs0.size) (Q:=fun r v=>r=.yield (none,lo+min (xs0.size-lo) mr)∧SR κ kd xs0 (lo+min (xs0.size-lo) mr) v) hc hk (ux bu by') (by omega) (by omega) (jU r3) fun v hv=>⟨rfl,hv⟩) ?_;rintro _ v ⟨rfl,hv⟩;exact fin2 _ v (by omega) hv
   ·rw[yK (by omega)];refine eqp (p':=dA xs0.size lo (l)) ?_ ?_
    ·unfold dA mgl;refine bnd rfl fun u2=>?_;cases hb:(pendingOf u2).back? with
     |none=>rfl
     |some p=>
      obtain⟨s1,m1,pw⟩:=p;dsimp only;refine bnd ?_ fun c=>?_
      ·congr 1
      ·obtain⟨r4,u4⟩:=c;cases r4 <;> rfl
    refine AS (eM (size:=xs0.size) (Q:=fun r v=>r=.yield (none,lo+l)∧SR κ kd xs0 (lo+l) v) hc hk (ux bu bv) (by omega) (by omega) (jU r) fun v hv=>⟨rfl,hv⟩) ?_;rintro _ v ⟨rfl,hv⟩;exact fin2 _ v (by omega) hv
  ·rw[yL c];obtain rfl:lo=xs0.size:=by omega
   exact y7 ⟨rfl,bu⟩
 ·rintro _ u ⟨lo,rfl,xl,bu⟩;have le:=bu.le;obtain rfl:lo=xs0.size:=by omega
  exact⟨rfl,bu⟩
 ·rintro _ u ⟨rfl,bu⟩;dsimp only;have pl:=bu.til.le;rw[pi,yU]at pl;refine y9 (AS (Ar (Q:=fun c v=>c=(none,())∧SR κ kd xs0 xs0.size v∧(pendingOf v).size≤1) (fun x c v=>c=(none,())∧SR κ kd xs0 xs0.size v∧((pendingOf v).size≤1∨(pendingOf v).size+x≤xs0.size)) ?_ ?_ ⟨rfl,bu,.inr (by omega)⟩) ?_)
  ·rintro x _ v _ hx ⟨rfl,bv,h⟩;refine y9 (Cp ?_)
   rcases z9 1 (pendingOf v).size with c | c
   ·rw[yK (by omega)];have next:∀i,i+1<(pendingOf v).size→wpS (model prog w) A E s (do
      let r ←mergeAt' i
      if (!r)=true then pure (ForInStep.done (some (),()))else pure (ForInStep.yield ((none:Option Unit),()))) (fun r CI=>match r with
       |.done c'=>c'=(none,())∧SR κ kd xs0 xs0.size CI∧(pendingOf CI).size≤1
       |.yield c'=>c'=(none,())∧SR κ kd xs0 xs0.size CI∧((pendingOf CI).size≤1∨(pendingOf CI).size+(x+1)≤xs0.size)) v:=fun i hi=>
     y9 (gK hc hk bv hi fun z bz hz _=>y7 ⟨rfl,bz,by omega⟩)
    refine AS (next _ ?_) fun r z hz=>?_
    ·repeat' split
     all_goals omega
    ·cases r with
     |done c'=>exact hz
     |yield c'=>exact hz
   ·rw[yL c];exact y7 ⟨rfl,bv,c⟩
  ·rintro _ v ⟨rfl,bv,h⟩;have:=bv.til.le;rw[pi,yU]at this;exact⟨rfl,bv,by omega⟩
  ·rintro _ v ⟨rfl,bv,h⟩;refine y7 (fin v bv.pm bv.fl ?_);have t:=bv.til;have sz:=bv.sz;cases hq:pq v with
   |nil=>
    rw[hq]at t;have t:0=xs0.size:=t;omega
   |cons p ps=>
    have pz:(pq v).length≤1:=by rw[pi,yU];exact h
    rw[hq]at t pz;rw[zw]at pz;obtain rfl:ps=[]:=List.length_eq_zero_iff.mp (by omega);obtain⟨t1,t2,t3,t4⟩:=t;have t4:0+p.2=xs0.size:=t4;rw[A5]at t4;have t1:p.1=0:=t1;rw[t1,t4]at t3;exact Rz.of_srt t3 (by omega)
end
end L2T
namespace L2
open PySem PySem.Spec PyProof.Rows
variable{prog:Program}{w:World}{A:Around}{E:Value→Shared→Prop}{s:Shared}
section
theorem Oi{M:Model}{β:Type}{f:Value→Sem β}(F:β→Prop):∀(vs:List Value),(∀v∈vs,∃y,F y∧∀Q:β→Shared→Prop,Q y s→wpAny M A (f v) Q E s)→∃ys:List β,ys.length=vs.length∧(∀y∈ys,F y)∧∀Q:List β→Shared→Prop,Q ys s→wpAny M A (vs.mapM f) Q E s
 | [],_=>⟨[],rfl,(fun _ h=>nomatch h),fun Q q=>by rw[List.mapM_nil];exact yI q⟩
 |v::vs,h=>by
  obtain⟨y,fy,hy⟩:=h v (.head _);obtain⟨ys,l,fys,hys⟩:=Oi F vs fun x hx=>h x (.tail _ hx);refine⟨y::ys,by rw[zw,zw,l],fun z hz=>?_,fun Q q=>?_⟩
  ·rcases y8.mp hz with e | e
   ·rw[e];exact fy
   ·exact fys z e
  ·rw[List.mapM_cons];exact io (hy _ (io (hys _ (yI q))))
theorem oU(v:Value):firstOfTuple' v=(do
  if (←typeOf v) != .type "tuple" then return none
  return (←Builtin.List.listItems v)[0]?):=rfl
variable{O U:KeyOrd}{R:Heap→Value→O.α→Prop}{S:Heap→Value→U.α→Prop}{T V:String}
theorem ma(e:El prog w O R T){vs:List Value}(h:∀v∈vs,∃a,aU R S s.heap v a)(hn:vs≠[]){Q:SortKind→Shared→Prop}(q:Q (tuples' (decide (T≠"tuple"))) s):wpAny (model prog w) A (keyKind' vs.toArray) Q E s:=by
 rw[keyKind'_eq,List.mapM_toArray];obtain⟨ys,yl,yf,hy⟩:=Oi (M:=model prog w) (A:=A) (E:=E) (s:=s) (f:=firstOfTuple') (fun y=>∃x,y=some x∧s.TypeIs x T) vs fun v hv=>by
  obtain⟨a,c,o,n,x,y,rfl,ho,hc,hd,h1,h2⟩:=h v hv;refine⟨some x,⟨x,rfl,e.ty h1⟩,fun Q q=>?_⟩;rw[oU];refine io (BI (T:="tuple") ⟨o,ho,hc⟩ ?_);rw[yK (by decide)];exact io (listItems_at ho hd (yI q))
 refine io (wpAny_map ?_);refine hy _ ?_;have al:ys.toArray.all (·.isSome)=true:=by
  rw[List.all_toArray,z4];intro y hy;obtain⟨x,rfl,_⟩:=yf y hy;rfl
 rw[yL al];refine io (AM ?_);rw[oneTypeOnly'_eq,List.filterMap_toArray,List.mapM_toArray];have ht:∀x∈ys.filterMap id,s.TypeIs x T:=fun x hx=>by
  obtain⟨y,hy,ey⟩:=List.mem_filterMap.mp hx;obtain⟨x',rfl,t⟩:=yf y hy;cases (show x'=x from zT ey);exact t
 obtain⟨ts,tl,tf,htt⟩:=Oi (M:=model prog w) (A:=A) (E:=E) (s:=s) (f:=typeOf) (fun y=>y=.type T) (ys.filterMap id) fun v hv=>⟨_,rfl,fun Q q=>BI (ht v hv) q⟩;refine io (io (wpAny_map ?_));refine htt _ ?_;have fl:(ys.filterMap id).length=ys.length:=by
  clear hy al ht htt tl tf yl
  induction ys with
  |nil=>rfl
  |cons y ys ih=>
   obtain⟨x,rfl,_⟩:=yf y (.head _);rw[show List.filterMap id (some x::ys)=x::ys.filterMap id from rfl,zw,zw,ih fun z hz=>yf z (.tail _ hz)]
 cases ts with
 |nil=>
  rw[Ai,fl,yl]at tl;exact absurd (List.eq_nil_of_length_eq_zero tl.symm) hn
 |cons t ts=>
  have t0:t=.type T:=tf t (.head _);subst t0;show wpAny _ _ (pure (if ((Value.type T::ts).toArray.all (· == Value.type T))=true then some (Value.type T)else none)) _ _ s;rw[yL (by
   rw[List.all_toArray,z4];intro y hy;rw[tf y hy];exact beq_self_eq_true _)]
  refine yI (yI ?_);have z:(some (Value.type T)).any (· != Value.type "tuple")=decide (T≠"tuple"):=by
   show(Value.type T != Value.type "tuple")=_;rw[Ab,bne_iff_ne,Ap];exact⟨fun h e=>h (by rw[e]),fun h e=>h (by injection e)⟩
  rw[z];exact q
def wM{O:KeyOrd}(R:Value→O.α→Prop)(vs:List Value):Prop:=vs.Pairwise fun x y=>∀a b,R x a→R y b→O.blt b a=false
theorem gh{vs:List Value}{p:Value×Value}(h:p∈vs.zip vs):p.1=p.2∧p.1∈vs:=mem_zip_self h
theorem iR{O:KeyOrd}{R:Value→O.α→Prop}(fn:∀{v a b},R v a→R v b→a=b){d:O.α}{vs:List Value}(hk:∀v∈vs,∃a,R v a){xs:Array Keyed}(pm:xs.Perm (pairsOf vs))(r:Rz (dy O R d) xs (pairsOf vs).size):
  (xs.map (·.2)).toList.Perm vs∧wM R (xs.map (·.2)).toList:=by
 have pl:xs.toList.Perm (vs.zip vs):=by rw[←pairsOf_toList];exact AT.mp pm
 have both:∀p∈xs.toList,p.1=p.2∧p.1∈vs:=fun p hp=>gh (pl.mem_iff.mp hp);rw[Array.toList_map];constructor
 ·have q:=pl.map Prod.snd;rw[List.map_snd_zip (yM _)]at q;exact q
 ·unfold wM;rw[AW];intro i j hi hj hij a b ha hb;rw[pi]at hi hj;have hi':i<xs.size:=by rw[←yU];exact hi
  have hj':j<xs.size:=by rw[←yU];exact hj
  have key:∀{k:Nat}(hk':k<xs.size){c:O.α},R xs[k].2 c→KK (dy O R d) xs k=c:=by
   intro k hk' c hc;have e:=(both xs[k] (Bp.mpr (Array.getElem_mem hk'))).1;rw[←e]at hc;obtain⟨c',h'⟩:=jJ (d:=d) hc;have:c'=c:=fn (N1 h') hc;unfold KK;rw[yN hk'];show((dy O R d).keyOf xs[k].1).getD _=c;rw[h',this];rfl
  rw[List.getElem_map,Array.getElem_toList]at ha hb;have q:=r i j (AA hij) (by rw[←pm.size_eq];exact hj');rw[key hi' ha,key hj' hb]at q;exact q
theorem f8{h:Heap}{l b:Addr}{g:Obj→Obj}{o1 o2:Obj}(lt:b<h.objs.size):(((h.update l g).push o1).push o2).get? b=(h.update l g).get? b:=by
 have l1:b<(h.update l g).objs.size:=by rw[BH];exact lt
 rw[Heap.get?_push_ne _ _ _ (y4 (by rw[Cn];exact AG l1)),Heap.get?_push_ne _ _ _ (y4 l1)]
theorem mx{h:Heap}{l:Addr}{vs:List Value}{n:Nat}(ho:h.get? l=some (seqObj "list" vs.toArray n))(o1 o2:Obj):cy h (((h.update l (Obj.mapSeq fun _=>#[])).push o1).push o2):=by
 intro b o hb hc;have ne:b≠l:=fun z=>by
  rw[z,ho]at hb;cases hb;exact absurd hc (by show ¬Value.type "list"=Value.type "tuple";intro z;injection z with z;exact absurd z (by decide))
 have lt:=yV hb;rw[f8 lt,BA _ _ _ _ ne];exact hb
theorem im(e:El prog w O R T)(f:El prog w U S V){l:Addr}{vs:List Value}{n:Nat}{P:Fin→Shared→Prop}(ho:s.heap.get? l=some (seqObj "list" vs.toArray n))(hk:∀v∈vs,∃a,aU R S s.heap v a)(h64:vs.length<1000)(hu:A.units+8<cLine)(d:O.α×U.α)(fin:∀out:Array Value,out.toList.Perm vs→wM (O:=bN O U) (aU R S s.heap) out.toList→P (.done (.ret .none)) {s with heap:=sortedHeap s.heap l vs out}):wpAny (model prog w) A (Builtin.«list.sort» ⟨[.ref l],[]⟩) P E s:=by
 rw[list_sort_plain];refine io (listItems_at ho rfl ?_);refine io (B7 ho rfl ?_);obtain⟨e1,ho1⟩:∃m,(s.heap.update l (Obj.mapSeq fun _=>#[])).get? l=some (seqObj "list" #[] m):=⟨_,Bm ho fun _=>#[]⟩;refine io (Co ho1 rfl ?_);refine io (Cf ?_);refine io (wpAny_newList ?_);refine zK ?_;have ll:=yV ho;have ho2:(((s.heap.update l (Obj.mapSeq fun _=>#[])).push (seqObj "tuple" vs.toArray 0)).push (seqObj "list" #[] 0)).get? l=some (seqObj "list" #[] e1):=by
  rw[f8 ll];exact ho1
 have st:=mx ho (seqObj "tuple" vs.toArray 0) (seqObj "list" #[] 0);have hk':∀v∈vs,∃a,aU R S (((s.heap.update l (Obj.mapSeq fun _=>#[])).push (seqObj "tuple" vs.toArray 0)).push (seqObj "list" #[] 0)) v a:=fun v hv=>let ⟨a,h⟩:=hk v hv;⟨a,Wc e f st h⟩
 have back:∀{v a},v∈vs→aU R S s.heap v a→aU R S (((s.heap.update l (Obj.mapSeq fun _=>#[])).push (seqObj "tuple" vs.toArray 0)).push (seqObj "list" #[] 0)) v a:=fun _ h=>Wc e f st h;show wpAny (model prog w) A _ P E {s with heap:=((s.heap.update l (Obj.mapSeq fun _=>#[])).push (seqObj "tuple" vs.toArray 0)).push (seqObj "list" #[] 0)};dsimp only;have vsz:vs.toArray.size=vs.length:=zD;have finish:∀u:SortSt,(arrOf u).Perm (pairsOf vs)→failedOf u=none→Rz (dy (bN O U) (aU R S (((s.heap.update l (Obj.mapSeq fun _=>#[])).push (seqObj "tuple" vs.toArray 0)).push (seqObj "list" #[] 0))) d) (arrOf u) (pairsOf vs).size→
   P (.done (.ret .none)) {s with heap:=sortedHeap s.heap l vs ((arrOf u).map (·.2))}:=fun u pm _ r=>by
  obtain⟨p1,p2⟩:=iR (O:=bN O U) (R:=aU R S (((s.heap.update l (Obj.mapSeq fun _=>#[])).push (seqObj "tuple" vs.toArray 0)).push (seqObj "list" #[] 0))) (fun h g=>kH e f h g) hk' pm r;exact fin _ p1 (p2.imp_of_mem fun{x y} hx hy h a b ha hb=>h a b (back (p1.mem_iff.mp hx) ha) (back (p1.mem_iff.mp hy) hb))
 by_cases c:vs.toArray.size<2
 ·rw[yL c,yL c];refine io (yI ?_);rw[StateT.run_pure];refine io (yI ?_);dsimp only;refine io (Co ho2 rfl ?_);refine io (B7 ho2 rfl ?_ (hsz2:=by rw[Array.size_map];show(pairsOf vs).size≤_;rw[BK];exact zP (AA h64) (by decide)));rw[show(e1 != e1)=false from bne_self_eq_false e1];rw[yK yT];refine yI (finish (SortSt.mk' general' (vs.toArray.zip vs.toArray) #[] 7 none) (Cb _) rfl fun i j hij hj=>?_);obtain rfl:i=j:=by rw[BK]at hj;omega
  exact(dy (bN O U) _ d).irrefl _
 ·rw[yK c,yK c];have vn:vs≠[]:=fun z=>by rw[z]at c;exact c (by decide)
  refine io (ma (O:=O) (U:=U) e hk' vn ?_);have hc:=oy (A:=A) (s:={s with heap:=((s.heap.update l (Obj.mapSeq fun _=>#[])).push (seqObj "tuple" vs.toArray 0)).push (seqObj "list" #[] 0)}) e f hu d (decide (T≠"tuple")) (fun z=>yW z);refine io (Af (L2T.runs_all (E:=E) (xs0:=pairsOf vs) (st:=SortSt.mk' (tuples' (decide (T≠"tuple"))) (vs.toArray.zip vs.toArray) #[] 7 none) (Q:=fun _ u=>(arrOf u).Perm (pairsOf vs)∧failedOf u=none∧Rz _ (arrOf u) (pairsOf vs).size) hc
   (fun p hp=>?_) ⟨Cb _,rfl,rfl,rfl⟩ (by rw[BK];omega) fun u a1 a2 a3=>⟨a1,a2,a3⟩) ?_ fun _ _ z=>z)
  ·rw[pairsOf_toList]at hp;obtain⟨a,ha⟩:=hk' p.1 (gh hp).2;exact jJ ha
  rintro⟨⟨⟩,u⟩ s2 ⟨rfl,pm,fl,r⟩;dsimp only;refine io (Co ho2 rfl ?_);refine io (B7 ho2 rfl ?_ (hsz2:=by rw[Array.size_map];exact zP (Nat.le_of_eq (pm.size_eq.trans (BK _))) (zP (AA h64) (by decide))));rw[fl];rw[show(e1 != e1)=false from bne_self_eq_false e1];rw[yK yT];exact yI (finish u pm fl r)
end
section
variable{X:Cx}
theorem mh{as:List Addr}{out:List Value}(h:out.Perm (as.map Value.ref)):∃bs:List Addr,bs.Perm as∧out=bs.map Value.ref:=by
 let g:Value→Addr:=fun v=>match v with | .ref a=>a | _=>0
 refine⟨out.map g,?_,?_⟩
 ·have q:=h.map g;rw[zf]at q;rw[show(g∘Value.ref)=id from rfl,List.map_id]at q;exact q
 ·rw[zf];have e:∀l:List Value,(∀v∈l,∃a,v=.ref a)→l=l.map (Value.ref∘g):=fun l hl=>by
   induction l with
   |nil=>rfl
   |cons v l ih=>
    obtain⟨a,rfl⟩:=hl v (.head _);rw[yQ,←ih fun x hx=>hl x (.tail _ hx)];rfl
  exact e out fun v hv=>by
   obtain⟨a,_,rfl⟩:=yO.mp (h.mem_iff.mp hv);exact⟨a,rfl⟩
theorem iD{Cr:List (Addr×Obj)}{σ:St}{H:Hp}{s:Shared}{a:Addr}{x y:V}(I:Inv X Cr σ H s)(h:H a=some (.tup [x,y])):∃o n u v,s.heap.get? a=some o∧o.cls=.type "tuple"∧o.data=.seq #[u,v] n∧RelV x u∧RelV y v:=by
 obtain⟨_,its,r,o,e1,e2,n,e3⟩:=(show ObjOk X.prog X.w H s.heap a (.tup [x,y])from I.hok a _ h);obtain⟨u,v,rfl,ru,rv⟩:=gi r;exact⟨o,n,u,v,e1,e2.1,e3,ru,rv⟩
def FII(H:Hp)(a:Addr)(k:(bN aD aD).α):Prop:=∃(i j:Int),H a=some (.tup [.int i,.int j])∧k=(i,j)
def FTI(H:Hp)(a:Addr)(k:(bN (bN aD aD) aD).α):Prop:=∃(b:Addr)(i j n:Int),H a=some (.tup [.ref b,.int n])∧H b=some (.tup [.int i,.int j])∧k=((i,j),n)
end
def RwD(h:Heap)(d:Addr)(es:Array DictEntry)(ep:Nat):Prop:=∃o,h.get? d=some o∧o.ExactDict∧o.data=.dict es ep
theorem RwD.typeIs{s:Shared}{d:Addr}{es:Array DictEntry}{ep:Nat}(x:RwD s.heap d es ep):s.TypeIs (.ref d) "dict":=let ⟨o,h,c,_⟩:=x;⟨o,h,c.1⟩
theorem RwD.at{h g:Heap}{d:Addr}{es:Array DictEntry}{ep:Nat}(x:RwD h d es ep)(k:∀o,h.get? d=some o→g.get? d=some o):RwD g d es ep:=let ⟨o,h,r⟩:=x;⟨o,k _ h,r⟩
theorem RwD.lt{h:Heap}{d:Addr}{es:Array DictEntry}{ep:Nat}(x:RwD h d es ep):d<h.objs.size:=let ⟨_,h,_⟩:=x;yV h
theorem Vy:Builtin.Dict_items.ownsTuple "dict_keyiterator"=false∧Builtin.Dict_items.ownsTuple "dict_valueiterator"=false∧Builtin.Dict_items.ownsTuple "dict_itemiterator"=true:=by decide
theorem V3(d:Addr):¬((Value.ref d==Value.none)=true):=yT
section
variable{prog:Program}{w:World}{A:Around}{E:Value→Shared→Prop}{s:Shared}{it d:Addr}{i ep:Nat}{es:Array DictEntry}
theorem bP{α β:Type}{M:Model}{a:α}{k:α→Sem β}{Q:β→Shared→Prop}(h:wpAny M A (k a) Q E s):wpAny M A (pure a >>= k) Q E s:=io (yI h)
theorem Uh{T id:String}{B:Builtin}{Q:Option Value→Shared→Prop}(ty:s.TypeIs (.ref it) T)(sl:Slot T (Str.ofString "__next__") id)(en:entryFor table id=some B)(ar:argsOk id {pos:=[.ref it]})(h:wpAny (model prog w) A.in1 (B ⟨[.ref it],[]⟩) (fun fin s'=>∃v,fin=.done (.ret v)∧Q (some v) s') (fun e s'=>s'.TypeIs e "StopIteration"∧Q none s') s):wpAny (model prog w) A (pyNext (.ref it)) Q E s:=by
 unfold pyNext;refine io (wpAny_attempt (wpAny_callSpecial?_slotG ty sl.toG (Af (Am sl ty en (Q:=fun v s'=>Q (some v) s') h ar) (fun v s' q=>yI q) (fun e s' q=>?_))));exact io (BF q.1 isSubtype_stop (by rw[yL rfl];exact yI q.2))
theorem kj{Q:Option Value→Shared→Prop}(zi:s.heap.IsKeyIter it d i es.size ep)(zm:RwD s.heap d es ep)(zx:i<es.size)(zq:∀g:Heap,g.IsKeyIter it d (i+1) es.size ep→Heap.SameBut it s.heap g→Q (some es[i].key) {s with heap:=g}):wpAny (model prog w) A (pyNext (.ref it)) Q E s:=by
 obtain⟨o,go,co,fo⟩:=id zi;obtain⟨od,yo,_,yd⟩:=zm;refine Uh zi.typeIs PySem.F.slot_dict_keyiterator_next PySem.F.entry_dict_keyiterator_next (PySem.F.args_dict_keyiterator_next_1 _) (bP (io (io (io (A7 zi.typeIs (yI (io (BG go fo ?_))))))));simp only[Vy.1,Bool.false_eq_true,if_false];show wpAny (model prog w) _ (if (Value.ref d==Value.none)=true then _ else _) _ _ s;rw[yK (V3 d)];refine bP (io (zE yo yd ?_));rw[if_neg (by simp)];refine bP (wpAny_bind (wpAny_dictEpoch yo yd ?_));rw[if_neg (by simp)];refine wpAny_pure ?_;simp only[show ¬((i:Int)<0)from by omega,if_false,Int.toNat_natCast,Array.getElem?_eq_getElem zx];refine io (io (A7 zi.typeIs (yI (io (wpAny_isOneOf_keyiter zi.typeIs ?_)))));show wpAny _ _ (setField (.ref it) 1 (rawInt ((i:Int)+1)) >>= fun _=>_) _ _ s;refine wpAny_bind (wpAny_setField go fo (by simp) ?_);have zj:(s.heap.update it (Obj.mapFields (·.setIfInBounds 1 (rawInt ((i:Int)+1))))).IsKeyIter it d (i+1) es.size ep:=⟨_,Heap.get?_update_self _ go (Obj.isFreed_of_fields (Obj.data_mapFields fo _)),(Obj.cls_mapFields ..).trans co,by rw[Obj.data_mapFields fo];simp[rawInt]⟩;have ty:Shared.TypeIs {s with heap:=s.heap.update it (Obj.mapFields (·.setIfInBounds 1 (rawInt ((i:Int)+1))))} (.ref it) "dict_keyiterator":=zj.typeIs;refine io (zK (io (wpAny_isOneOf_keyiter ty ?_)));show wpAny _ _ (pure es[i].key) _ _ {s with heap:=_};exact yI (yI ⟨_,rfl,zq _ zj (Bc ..)⟩)
theorem kO{Q:Option Value→Shared→Prop}(zh:A.handled=none)(zi:s.heap.IsKeyIter it d i es.size ep)(zm:RwD s.heap d es ep)(zx:es.size≤i)(zq:∀g:Heap,Heap.ExtBut it s.heap g→Q none {s with heap:=g}):wpAny (model prog w) A (pyNext (.ref it)) Q E s:=by
 obtain⟨o,go,co,fo⟩:=id zi;obtain⟨od,yo,_,yd⟩:=zm;refine Uh zi.typeIs PySem.F.slot_dict_keyiterator_next PySem.F.entry_dict_keyiterator_next (PySem.F.args_dict_keyiterator_next_1 _) (bP (io (io (io (A7 zi.typeIs (yI (io (BG go fo ?_))))))));simp only[Vy.1,Bool.false_eq_true,if_false];show wpAny (model prog w) _ (if (Value.ref d==Value.none)=true then _ else _) _ _ s;rw[yK (V3 d)];refine bP (io (zE yo yd ?_));rw[if_neg (by simp)];refine bP (wpAny_bind (wpAny_dictEpoch yo yd ?_));rw[if_neg (by simp)];refine wpAny_pure ?_;simp only[show ¬((i:Int)<0)from by omega,if_false,Int.toNat_natCast,Array.getElem?_eq_none zx];refine io (io (A7 zi.typeIs (yI ?_)));show wpAny _ _ (setField (.ref it) 0 .none >>= fun _=>_) _ _ s;refine wpAny_bind (wpAny_setField go fo (by simp) (Xr (by simpa using zh) fun g e k ty=>⟨ty,zq g fun b u nb eb=>k b u ?_⟩));exact(Ao _ _ (Ne.symm nb)).trans eb
theorem tK{Q:Option Value→Shared→Prop}(zi:s.heap.IsValIter it d i es.size ep)(zm:RwD s.heap d es ep)(zx:i<es.size)(zq:∀g:Heap,g.IsValIter it d (i+1) es.size ep→Heap.SameBut it s.heap g→Q (some es[i].val) {s with heap:=g}):wpAny (model prog w) A (pyNext (.ref it)) Q E s:=by
 obtain⟨o,go,co,fo⟩:=id zi;obtain⟨od,yo,_,yd⟩:=zm;refine Uh zi.typeIs PySem.F.slot_dict_valueiterator_next PySem.F.entry_dict_valueiterator_next (PySem.F.args_dict_valueiterator_next_1 _) (bP (io (io (io (A8 zi.typeIs (yI (io (BG go fo ?_))))))));simp only[Vy.2.1,Bool.false_eq_true,if_false];show wpAny (model prog w) _ (if (Value.ref d==Value.none)=true then _ else _) _ _ s;rw[yK (V3 d)];refine bP (io (zE yo yd ?_));rw[if_neg (by simp)];refine bP (wpAny_bind (wpAny_dictEpoch yo yd ?_));rw[if_neg (by simp)];refine wpAny_pure ?_;simp only[show ¬((i:Int)<0)from by omega,if_false,Int.toNat_natCast,Array.getElem?_eq_getElem zx];refine io (io (A8 zi.typeIs (yI (io (wpAny_isOneOf_valiter zi.typeIs ?_)))));show wpAny _ _ (setField (.ref it) 1 (rawInt ((i:Int)+1)) >>= fun _=>_) _ _ s;refine wpAny_bind (wpAny_setField go fo (by simp) ?_);have zj:(s.heap.update it (Obj.mapFields (·.setIfInBounds 1 (rawInt ((i:Int)+1))))).IsValIter it d (i+1) es.size ep:=⟨_,Heap.get?_update_self _ go (Obj.isFreed_of_fields (Obj.data_mapFields fo _)),(Obj.cls_mapFields ..).trans co,by rw[Obj.data_mapFields fo];simp[rawInt]⟩;have ty:Shared.TypeIs {s with heap:=s.heap.update it (Obj.mapFields (·.setIfInBounds 1 (rawInt ((i:Int)+1))))} (.ref it) "dict_valueiterator":=zj.typeIs;refine io (zK (io (wpAny_isOneOf_valiter ty ?_)));refine io (wpAny_isOneOf_valiter ty ?_);show wpAny _ _ (pure es[i].val) _ _ {s with heap:=_};exact yI (yI ⟨_,rfl,zq _ zj (Bc ..)⟩)
theorem t8{Q:Option Value→Shared→Prop}(zh:A.handled=none)(zi:s.heap.IsValIter it d i es.size ep)(zm:RwD s.heap d es ep)(zx:es.size≤i)(zq:∀g:Heap,Heap.ExtBut it s.heap g→Q none {s with heap:=g}):wpAny (model prog w) A (pyNext (.ref it)) Q E s:=by
 obtain⟨o,go,co,fo⟩:=id zi;obtain⟨od,yo,_,yd⟩:=zm;refine Uh zi.typeIs PySem.F.slot_dict_valueiterator_next PySem.F.entry_dict_valueiterator_next (PySem.F.args_dict_valueiterator_next_1 _) (bP (io (io (io (A8 zi.typeIs (yI (io (BG go fo ?_))))))));simp only[Vy.2.1,Bool.false_eq_true,if_false];show wpAny (model prog w) _ (if (Value.ref d==Value.none)=true then _ else _) _ _ s;rw[yK (V3 d)];refine bP (io (zE yo yd ?_));rw[if_neg (by simp)];refine bP (wpAny_bind (wpAny_dictEpoch yo yd ?_));rw[if_neg (by simp)];refine wpAny_pure ?_;simp only[show ¬((i:Int)<0)from by omega,if_false,Int.toNat_natCast,Array.getElem?_eq_none zx];refine io (io (A8 zi.typeIs (yI ?_)));show wpAny _ _ (setField (.ref it) 0 .none >>= fun _=>_) _ _ s;refine wpAny_bind (wpAny_setField go fo (by simp) (Xr (by simpa using zh) fun g e k ty=>⟨ty,zq g fun b u nb eb=>k b u ?_⟩));exact(Ao _ _ (Ne.symm nb)).trans eb
theorem kN{Q:Value→Shared→Prop}(lo:(d==sysModules)=false)(zm:RwD s.heap d es ep)(zq:Q (.ref s.heap.objs.size) {s with heap:=s.heap.push {cls:=.type "dict_keyiterator",data:=.fields #[.ref d,.int 0 0,.int es.size 0,.int ep 0]}}):wpAny (model prog w) A (pyIter (.ref d)) Q E s:=by
 obtain⟨o,yo,_,yd⟩:=id zm;refine Bs zm.typeIs PySem.F.slot_dict_iter (Am PySem.F.slot_dict_iter zm.typeIs PySem.F.entry_dict_iter (io (io (Av zm.typeIs ?_))) (PySem.F.args_dict_iter_1 _));show wpAny (model prog w) _ (pure (Value.ref d)) _ _ s;refine yI (show wpAny (model prog w) _ (Builtin.Dict.showsAll d >>= fun _=>_) _ _ s from io ?_);unfold Builtin.Dict.showsAll;rw[lo,yK (by decide)];refine yI (io (zE yo yd (io (Bo yo yd (io (AH (yI ⟨_,rfl,"dict_keyiterator",_,⟨_,yY _ rfl,rfl⟩,PySem.F.slot_dict_keyiterator_next.lookup,?_⟩)))))));simpa [rawInt] using zq
theorem rE{v:Addr}{Q:Value→Shared→Prop}(zv:s.heap.IsValuesView v d)(zm:RwD s.heap d es ep)(zq:Q (.ref s.heap.objs.size) {s with heap:=s.heap.push {cls:=.type "dict_valueiterator",data:=.fields #[.ref d,.int 0 0,.int es.size 0,.int ep 0]}}):wpAny (model prog w) A (pyIter (.ref v)) Q E s:=by
 obtain⟨ov,vo,_,vd⟩:=id zv;obtain⟨o,yo,_,yd⟩:=id zm;refine Bs zv.typeIs PySem.F.slot_dict_values_iter (Am PySem.F.slot_dict_values_iter zv.typeIs PySem.F.entry_dict_values_iter (bP (io (io (wpAny_field vo vd (x:=.ref d) rfl (yI (io ?_)))))) (PySem.F.args_dict_values_iter_1 _));unfold Builtin.Dict_items.newIterator;skip;refine io (zE yo yd (io (Bo yo yd ?_)));simp only[Vy.2.1,Bool.false_eq_true,if_false];refine wpAny_newObj_type (wpAny_pure ⟨_,rfl,"dict_valueiterator",_,⟨_,Heap.get?_push_size _ rfl,rfl⟩,PySem.F.slot_dict_valueiterator_next.lookup,by simpa [rawInt] using zq⟩)
theorem pS(zh:A.handled=none)(I d:Addr)(ne:d≠I)(es:Array DictEntry)(ep:Nat):Walks prog w A I [I,d] [I] es.size (fun i v=>∃e,es[i]?=some e∧v=e.key) (fun i h=>h.IsKeyIter I d i es.size ep∧RwD h d es ep) where
 sub:=fun b zb=>by rw[yP.mp zb];exact .head _
 frame:=fun _ _ _ st k=>⟨st.1.at fun o e=>k I (.head _) o e,st.2.at fun o e=>k d (.tail _ (.head _)) o e⟩
 item:=fun i s Q E zi st q=>kj st.1 st.2 zi fun g z sb=>q _ g s.toks ⟨_,yN zi,rfl⟩ ⟨z,st.2.at fun o e=>sb.extBut d o ne e⟩ fun b o nb e=>sb.extBut b o (fun z=>nb (by rw[z];exact .head _)) e
 done:=fun s Q E st q=>kO zh st.1 st.2 (yM _) fun g x=>q g s.toks fun b o nb e=>x b o (fun z=>nb (by rw[z];exact .head _)) e
 self:=fun _ _ _ _ st q=>wpAny_pyIter_keyiter st.1 q
theorem qm(zh:A.handled=none)(I d:Addr)(ne:d≠I)(es:Array DictEntry)(ep:Nat):Walks prog w A I [I,d] [I] es.size (fun i v=>∃e,es[i]?=some e∧v=e.val) (fun i h=>h.IsValIter I d i es.size ep∧RwD h d es ep) where
 sub:=fun b zb=>by rw[yP.mp zb];exact .head _
 frame:=fun _ _ _ st k=>⟨st.1.at fun o e=>k I (.head _) o e,st.2.at fun o e=>k d (.tail _ (.head _)) o e⟩
 item:=fun i s Q E zi st q=>tK st.1 st.2 zi fun g z sb=>q _ g s.toks ⟨_,yN zi,rfl⟩ ⟨z,st.2.at fun o e=>sb.extBut d o ne e⟩ fun b o nb e=>sb.extBut b o (fun z=>nb (by rw[z];exact .head _)) e
 done:=fun s Q E st q=>t8 zh st.1 st.2 (yM _) fun g x=>q g s.toks fun b o nb e=>x b o (fun z=>nb (by rw[z];exact .head _)) e
 self:=fun _ _ _ _ st q=>wpAny_pyIter_valiter st.1 q
theorem wo(lo:(d==sysModules)=false):W.KdlSrc prog w "dict" d d es.size (fun i v=>∃e,es[i]?=some e∧v=e.key) (fun h=>RwD h d es ep) where
 type:=fun _ z=>z.typeIs
 there:=fun _ z=>⟨z.lt,z.lt⟩
 keep:=fun _ _ z k=>z.at fun o e=>k d (.inl rfl) o e
 notList:=by decide
 notTuple:=by decide
 hint:=fun _ _ _ _ z q=>W.kdl_hint_dict z.typeIs q
 iter:=fun _ _ zh z=>⟨_,_,(fun _ _ q=>kN lo z q),pS zh _ d (y4 z.lt) es ep,⟨⟨_,yY _ rfl,rfl,rfl⟩,z.at fun o e=>yJ _ e⟩⟩
theorem vE{r:Addr}:W.KdlSrc prog w "dict_values" r d es.size (fun i v=>∃e,es[i]?=some e∧v=e.val) (fun h=>h.IsValuesView r d∧RwD h d es ep) where
 type:=fun _ z=>z.1.typeIs
 there:=fun _ z=>⟨let ⟨_,e,_⟩:=z.1;yV e,z.2.lt⟩
 keep:=fun _ _ z k=>⟨let ⟨o,e,x⟩:=z.1;⟨o,k r (.inl rfl) o e,x⟩,z.2.at fun o e=>k d (.inr rfl) o e⟩
 notList:=by decide
 notTuple:=by decide
 hint:=fun _ _ _ _ z q=>W.kdl_hint_values z.1.typeIs q
 iter:=fun _ _ zh z=>⟨_,_,(fun _ _ q=>rE z.1 z.2 q),qm zh _ d (y4 z.2.lt) es ep,⟨⟨_,yY _ rfl,rfl,rfl⟩,z.2.at fun o e=>yJ _ e⟩⟩
theorem fY{f:DictEntry→Value}{xs:Array Value}(h:ItemsOf (fun i v=>∃e,es[i]?=some e∧v=f e) xs es.size):xs.toList=es.toList.map f:=by
 obtain⟨sz,at_⟩:=h;refine BV fun j=>?_;rw[yS,zc,yS];by_cases hj:j<xs.size
 ·obtain⟨e,h1,h2⟩:=at_ j xs[j] (yN hj);rw[yN hj,h1,h2];rfl
 ·rw[AR (by omega),AR (by omega)];rfl
end
abbrev Sps:=List ((Int×Int)×Int)
def kk(p:Int×Int):List Key:=[.inl p.1,.inl p.2]
def af(ps:Sps):List (List Key×V):=ps.map fun p=>(kk p.1,.int p.2)
theorem Vo{p q:Int×Int}(e:kk p=kk q):p=q:=by
 unfold kk at e;injection e with e1 e2
 injection e2 with e2 _
 exact Ad (Cd e1) (Cd e2)
theorem Zs(ps:Sps):(af ps).length=ps.length:=pi _
theorem S3(ps:Sps):(af ps).map (·.1)=(ps.map (·.1)).map kk:=by
 unfold af;rw[zf,zf];rfl
def KsAt(H:Hp):List Addr→List (Int×Int)→Prop:=Paired fun b k=>H b=some (.tup [.int k.1,.int k.2])
theorem KsAt.mono{H H':Hp}{bs:List Addr}{ks:List (Int×Int)}(h:KsAt H bs ks)(g:∀b xs,H b=some (.tup xs)→H' b=some (.tup xs)):KsAt H' bs ks:=Paired.mapP h fun _ _ e=>g _ _ e
def leK(a b:Int×Int):Bool:=decide (a.1<b.1) || (decide (a.1=b.1) && decide (a.2≤b.2))
theorem Vn{a b:Int×Int}:leK a b=true↔a.1<b.1∨(a.1=b.1∧a.2≤b.2):=by
 unfold leK;simp only[Bool.or_eq_true,Bool.and_eq_true,decide_eq_true_iff]
theorem mq(a b:Int×Int):(leK a b || leK b a)=true:=by
 rw[Bool.or_eq_true,Vn,Vn];omega
theorem k8(a b c:Int×Int)(h1:leK a b=true)(h2:leK b c=true):leK a c=true:=by
 rw[Vn]at *;omega
theorem pZ{a b:Int×Int}(h1:leK a b=true)(h2:leK b a=true):a=b:=by
 rw[Vn]at h1 h2;exact Ad (by omega) (by omega)
def bd(ks:List (Int×Int)):List (Int×Int):=ks.mergeSort leK
theorem Yv(ks:List (Int×Int)):(bd ks).Perm ks:=List.mergeSort_perm _ _
theorem Ow(ks:List (Int×Int)):(bd ks).Pairwise (fun a b=>leK a b=true):=List.pairwise_mergeSort k8 mq ks
theorem f9:∀{l m:List (Int×Int)},l.Perm m→l.Pairwise (fun a b=>leK a b=true)→m.Pairwise (fun a b=>leK a b=true)→l=m
 | [],m,p,_,_=>List.Perm.nil_eq p
 |a::l,[],p,_,_=>absurd p.length_eq (by simp)
 |a::l,b::m,p,h1,h2=>by
  have e:a=b:=by
   rcases y8.mp (p.mem_iff.mp zL)with q | q
   ·exact q
   ·rcases y8.mp (p.mem_iff.mpr zL)with r | r
    ·exact r.symm
    ·exact pZ ((zR.mp h1).1 b r) ((zR.mp h2).1 a q)
  subst e;rw[f9 ((List.perm_cons a).mp p) (zR.mp h1).2 (zR.mp h2).2]
theorem lG{H:Hp}{as bs:List Addr}{ks:List (Int×Int)}(h:KsAt H as ks)(p:bs.Perm as)(pw:bs.Pairwise fun a b=>∀k l,FII H a k→FII H b l→(bN aD aD).blt l k=false):KsAt H bs (bd ks):=by
 let key:Addr→Int×Int:=fun b=>match H b with
  |some (.tup [.int i,.int j])=>(i,j)
  |_=>(0,0)
 have kat:∀{b:Addr}{k:Int×Int},H b=some (.tup [.int k.1,.int k.2])→key b=k:=fun{b k} e=>by
  show(match H b with | some (.tup [.int i,.int j])=>(i,j) | _=>(0,0))=k;rw[e]
 have all:∀{l:List Addr}{m:List (Int×Int)},KsAt H l m→l.map key=m∧∀b∈l,H b=some (.tup [.int (key b).1,.int (key b).2]):=fun{l m} r=>by
  induction r with
  |nil=>exact⟨rfl,fun _ h=>nomatch h⟩
  | @cons b k l m e _ ih=>
   have kb:=kat e;refine⟨by rw[yQ,kb,ih.1],fun c hc=>?_⟩
   rcases y8.mp hc with rfl | hc
   ·rw[kb];exact e
   ·exact ih.2 c hc
 obtain⟨e1,e2⟩:=all h;have atb:∀b∈bs,H b=some (.tup [.int (key b).1,.int (key b).2]):=fun b hb=>e2 b (p.mem_iff.mp hb);have back:∀{l:List Addr},(∀b∈l,H b=some (.tup [.int (key b).1,.int (key b).2]))→KsAt H l (l.map key):=fun{l} hl=>by
  induction l with
  |nil=>exact .nil
  |cons b l ih=>exact .cons (hl b (.head _)) (ih fun c hc=>hl c (.tail _ hc))
 have eq:bs.map key=bd ks:=by
  refine f9 ((p.map key).trans (by rw[e1];exact(Yv ks).symm)) (AU.mpr (pw.imp_of_mem fun{a b} ha hb q=>?_)) (Ow ks);have q:=q (key a) (key b) ⟨_,_,atb a ha,rfl⟩ ⟨_,_,atb b hb,rfl⟩;rw[Vn];by_cases c:(key a).1<(key b).1
  ·exact .inl c
  ·by_cases c2:(key b).1<(key a).1
   ·exact absurd (Yk (O:=aD) (U:=aD) (a:=key b) (b:=key a) |>.mpr (.inl (yX c2))) (by rw[show b_ aD aD (key b) (key a)=false from q];decide)
   ·have e:(key b).1=(key a).1:=by omega
    by_cases c3:(key b).2<(key a).2
    ·exact absurd (Yk (O:=aD) (U:=aD) (a:=key b) (b:=key a) |>.mpr (.inr ⟨e,yX c3⟩)) (by rw[show b_ aD aD (key b) (key a)=false from q];decide)
    ·exact .inr ⟨e.symm,by omega⟩
 rw[←eq];exact back atb
section
variable{X:Cx}
theorem Pt{O U:KeyOrd}{R:Heap→Value→O.α→Prop}{S:Heap→Value→U.α→Prop}{T W:String}(e:El X.prog X.w O R T)(f:El X.prog X.w U S W)(F:Hp→Addr→(bN O U).α→Prop)(br:∀{Cr:List (Addr×Obj)} {σ:St} {H:Hp} {s:Shared} {a:Addr} {k:O.α×U.α},Inv X Cr σ H s→F H a k→aU R S s.heap (.ref a) k)(d:O.α×U.α)(hu:X.A.units+64<cLine){Cr:List (Addr×Obj)}{s:Shared}{σ:St}{p:Addr}{Q:VK}(src:∀{E:Value→Shared→Prop} {C:List Value→Shared→Prop},(∀(g:Heap) (tk:Nat) (H:Hp) (as:List Addr),Inv X Cr σ H {s with heap:=g,toks:=tk}→as.length<1000→(∀a∈as,∃k,F H a k)→
   (∀bs:List Addr,bs.Perm as→(bs.Pairwise fun a b=>∀k l,F H a k→F H b l→(bN O U).blt l k=false)→∀q,H q=none→Q (.ref q) (upd H q (.lst (bs.map V.ref))))→C (as.map Value.ref) {s with heap:=g,toks:=tk})→wpAny (model X.prog X.w) X.A.in1 (collect (.ref p)) C E s):
  wpAny (model X.prog X.w) X.A (call (.builtin "sorted") [.ref p]) (EP X Cr σ Q) X.xe s:=by
 refine Calls.call_function_entry kind_sorted plain_sorted entry_sorted (args_sorted1 _) ?_;unfold Builtin.«sorted»;refine io (m:=checkCount "sorted" 1 1 _) (yI (io (src fun g tk H as I h64 hk q=>io (wpAny_newList ?_ (by rw[pi];exact Ze (by omega))))));have hoL:(g.push (seqObj "list" (as.map Value.ref).toArray 0)).get? g.objs.size=some (seqObj "list" (as.map Value.ref).toArray 0):=yY _ rfl;have st:cy g (g.push (seqObj "list" (as.map Value.ref).toArray 0)):=fun b ob e _=>yJ _ e;refine io (zK (Am slot_list_sort ⟨_,hoL,rfl⟩ entry_list_sort (im e f hoL (fun v hv=>?_) (by rw[pi];exact h64) (by show X.A.units+1+1+8<_;omega) d fun out op os=>⟨_,rfl,?_⟩) (args_list_sort _)))
 ·obtain⟨a,ha,rfl⟩:=yO.mp hv;obtain⟨k,fk⟩:=hk a ha;exact⟨k,Wc e f st (br I fk)⟩
 refine yI ⟨_,rfl,?_⟩;obtain⟨bs,bp,be⟩:=mh op;obtain⟨e2,he2⟩:=sortedHeap_at (vs:=as.map Value.ref) (out:=out) hoL;refine⟨.ref g.objs.size,_,I.laid (t':=tk) (o:=.lst (bs.map V.ref)) (fun b ob e=>?_) (yM _) ?_,rfl,q bs bp ?_ _ (I.hok.fresh (yM _))⟩
 ·have Cz:=yV e;rw[sortedHeap_old (y4 Cz) (by rw[Cn];exact AG Cz)];exact yJ _ e
 ·refine⟨by rw[pi,bp.length_eq];exact Ze (by omega),bs.map Value.ref,e2,Pw bs,?_⟩;rw[←be,Bu];exact he2
 ·rw[be]at os;exact(AU.mp os).imp_of_mem fun{a b} ha hb h k l fk fl=>h k l (Wc e f st (br I fk)) (Wc e f st (br I fl))
theorem Td{P:Program}{w:World}{H:Hp}{h:Heap}{d:Addr}{kvs:List (List Key×V)}(ok:HOk P w H h)(e:Rd H d (.dT kvs)):kvs.length≤sizeLine∧(d==sysModules)=false∧∃(xs:List (List Key×Addr×Value))(es:Array DictEntry)(ep:Nat),KT H kvs xs∧RwD h d es ep∧
  es.toList.map DictEntry.key=(xs.map fun x=>x.2.1).map Value.ref∧es.toList.map DictEntry.val=xs.map (fun x=>x.2.2)∧es.size=kvs.length:=by
 obtain⟨z,lo,xs,r,o,es,ep,h1,h2,h3,h4,_⟩:=(show ObjOk P w H h d (.dT kvs)from oX ok e);refine⟨z,lo,xs,es,ep,r,⟨o,h1,h2,h3⟩,?_,?_,?_⟩
 ·rw[h4,zf,zf];rfl
 ·rw[h4,zf];rfl
 ·rw[←yU,h4,pi,←zd r]
theorem uq{H:Hp}:∀{ps:Sps}{xs:List (List Key×Addr×Value)},KT H (af ps) xs→KsAt H (xs.map fun x=>x.2.1) (ps.map (·.1))
 | [],xs,r=>by
  cases (show KT H [] xs from r);exact .nil
 |p::ps,xs,r=>by
  cases (show KT H ((kk p.1,.int p.2)::af ps) xs from r) with
  |cons h t=>exact .cons h.2.1 (uq t)
def tN:List V→Hp→VK→Prop:=fun xs H Q=>∃(d:Addr)(ps:Sps),xs=[.ref d]∧H d=some (.dT (af ps))∧ps.length<1000∧∀bs:List Addr,KsAt H bs (bd (ps.map (·.1)))→∀q,H q=none→Q (.ref q) (upd H q (.lst (bs.map V.ref)))
theorem vN{H:Hp}{as:List Addr}{ks:List (Int×Int)}(h:KsAt H as ks):∀a∈as,∃k,FII H a k:=by
 induction h with
 |nil=>exact fun _ h=>nomatch h
 |cons e r ih=>exact fun b h=>(y8.mp h).elim (fun z=>by rw[z];exact⟨_,_,_,e,rfl⟩) (ih b)
theorem U4(hc:X.calm=true)(hu:X.A.units+64<cLine):aK X (.builtin "sorted") tN:=by
 intro Cr s σ H xs us Q I rx h;obtain⟨d,ps,rfl,hd,h64,q⟩:=h;obtain⟨u,rfl,ru⟩:=Xx rx;cases ru;obtain⟨_,lo,es0,es,ep,kt,raw,ek,_,sz⟩:=Td I.hok (.inl hd);rw[Zs]at sz;have ka:=uq kt;have al:(es0.map fun x=>x.2.1).length<1000:=by rw[pi,←zd kt,Zs];exact h64
 refine Pt (Tc (prog:=X.prog) (w:=X.w)) (Tc (prog:=X.prog) (w:=X.w)) FII (fun{Cr σ H s a k} I h=>?_) ((0:Int),(0:Int)) hu (fun{E C} hC=>?_)
 ·obtain⟨i,j,h,rfl⟩:=h;obtain⟨o,m,u,v,e1,e2,e3,⟨t,ru⟩,⟨t',rv⟩⟩:=iD I h;exact⟨a,o,m,u,v,rfl,e1,e2,e3,⟨t,ru⟩,⟨t',rv⟩⟩
 ·refine Ss (A:=X.A.in1) (wo lo) (by simpa using I.ok.hd hc) raw (Ze (by omega)) fun g tk CH kp lt it=>?_;rw[fY it,ek];exact hC g tk H _ (I.kept kp) al (vN ka) fun bs bp pw=>q bs (lG ka bp pw)
end
section
variable{X:Cx}
theorem S2{K:W.Frag}{H:Hp}{d:Addr}{kvs:List (List Key×V)}(h:H d=some (.dT kvs)):tyV K "dict" (.ref d) H:=.inr (.inr (.inl ⟨rfl,.inr ⟨kvs,h⟩⟩))
theorem iV{prog:Program}{w:World}(d:Addr)(lo:(d==sysModules)=false):MeetsIn prog w (Builtin.«dict.values» ⟨[.ref d],[]⟩) (fun _ R s=>s.TypeIs (.ref d) "dict"∧R (.ok (.ret (.ref s.heap.objs.size))) {s with heap:=s.heap.push {cls:=.type "dict_values",data:=.fields #[.ref d]}}):=
 .of_wp fun A R s ⟨ty,h⟩=>by
  refine io (io (Av ty (show wpAny (model prog w) _ (pure d) _ _ s from yI (io ?_))));unfold Builtin.Dict.showsAll;rw[lo,yK (by decide)];exact yI (io (AH (yI ⟨_,rfl,h⟩)))
theorem eJ{prog:Program}{w:World}(d:Addr)(lo:(d==sysModules)=false):MeetsIn prog w (Builtin.«dict.items» ⟨[.ref d],[]⟩) (fun _ R s=>s.TypeIs (.ref d) "dict"∧R (.ok (.ret (.ref s.heap.objs.size))) {s with heap:=s.heap.push {cls:=.type "dict_items",data:=.fields #[.ref d]}}):=
 .of_wp fun A R s ⟨ty,h⟩=>by
  unfold Builtin.«dict.items»;refine io (io (Av ty (show wpAny (model prog w) _ (pure d) _ _ s from yI (io ?_))));unfold Builtin.Dict.showsAll;rw[lo,yK (by decide)];exact yI (io (AH (yI ⟨_,rfl,h⟩)))
def oW(w:Addr→Addr→HO):V→List V→Hp→VK→Prop:=fun x vs H Q=>∃d kvs,x=.ref d∧vs=[]∧H d=some (.dT kvs)∧∀a,H a=none→Q (.ref a) (upd H a (w a d))
theorem Qa:MtR X "dict.values" (oW cP):=by
 intro Cr s σ H x vs v us Q I rx rv h;obtain⟨d,kvs,rfl,rfl,hd,q⟩:=h;cases rx;cases rv;obtain⟨_,lo,_,es,ep,_,raw,_⟩:=Td I.hok (.inl hd);refine B4 A4 raw.typeIs PySem.F.entry_dict_values (PySem.F.args_dict_values_1 _) (iV d lo) ⟨raw.typeIs,.ref s.heap.objs.size,_,I.laid (t':=s.toks) (o:=cP s.heap.objs.size d) (fun b o e=>yJ _ e) (yM _) ?_,rfl,q _ (I.hok.fresh (yM _))⟩;exact⟨⟨_,yY _ rfl,rfl,rfl⟩,⟨_,yY _ rfl⟩,fun h1 h2 x k=>let ⟨o,ho,r⟩:=x;⟨o,k o ho,r⟩⟩
theorem Py:MtR X "dict.items" (oW bV):=by
 intro Cr s σ H x vs v us Q I rx rv h;obtain⟨d,kvs,rfl,rfl,hd,q⟩:=h;cases rx;cases rv;obtain⟨_,lo,_,es,ep,_,raw,_⟩:=Td I.hok (.inl hd);refine B4 PySem.F.slot_dict_items raw.typeIs PySem.F.entry_dict_items (PySem.F.args_dict_items_1 _) (eJ d lo) ⟨raw.typeIs,.ref s.heap.objs.size,_,I.laid (t':=s.toks) (o:=bV s.heap.objs.size d) (fun b o e=>yJ _ e) (yM _) ?_,rfl,q _ (I.hok.fresh (yM _))⟩;exact⟨⟨_,yY _ rfl,rfl,rfl⟩,⟨_,yY _ rfl⟩,fun h1 h2 x k=>let ⟨o,ho,r⟩:=x;⟨o,k o ho,r⟩⟩
theorem rW{H:Hp}{kvs:List (List Key×V)}{xs:List (List Key×Addr×Value)}(h:KT H kvs xs):Vals (kvs.map (·.2)) (xs.map fun x=>x.2.2):=by
 induction h with
 |nil=>exact .nil
 |cons h t ih=>exact .cons h.2.2 ih
def qZ:List V→Hp→VK→Prop:=fun xs H Q=>∃(v d:Addr)(kvs:List (List Key×V)),xs=[.ref v]∧H v=some (cP v d)∧H d=some (.dT kvs)∧∀p,H p=none→Q (.ref p) (upd H p (.lst (kvs.map (·.2))))
theorem Su(hc:X.calm=true):aK X (.type "list") qZ:=by
 intro Cr s σ H xs us Q I rx h;obtain⟨v,d,kvs,rfl,hv,hd,q⟩:=h;obtain⟨u,rfl,ru⟩:=Xx rx;cases ru;obtain⟨z,lo,xs,es,ep,kt,raw,_,ev,sz⟩:=Td I.hok (.inl hd);obtain⟨view,_⟩:=(show ObjOk X.prog X.w H s.heap v (cP v d)from I.hok v _ hv);refine W.kdl_call (vE (es:=es) (ep:=ep)) (I.ok.hd hc) ⟨view,raw⟩ (by rw[sz];exact z) fun g tk CH c kp hD it=>?_;refine⟨.ref s.heap.objs.size,_,I.laid (t':=tk) (o:=.lst (kvs.map (·.2))) kp (yM _) ⟨by rw[pi];exact z,xs.map (fun x=>x.2.2),c,rW kt,?_⟩,rfl,q _ (I.hok.fresh (yM _))⟩;rw[←ev,←fY it,Bu];exact hD
end
section
variable{X:Cx}{Cr:List (Addr×Obj)}{σ:St}{H:Hp}{s:Shared}
theorem Ni{H:Hp}:∀{kvs:List (List Key×V)}{xs:List (List Key×Addr×Value)}{i:Nat}{p:List Key×V},KT H kvs xs→kvs[i]?=some p→∃x,xs[i]?=some x∧H x.2.1=some (.tup (p.1.map kV))∧RelV p.2 x.2.2
 |_,_,_,_,.nil,e=>by simp at e
 |_,_,0,_,.cons h _,e=>by
  rw[An]at e;cases e;exact⟨_,rfl,h.2.1,h.2.2⟩
 |_,_,i+1,_,.cons _ r,e=>Ni (i:=i) r (by simpa using e)
theorem Inv.thawT{d:Addr}{o:Obj}{kvs:List (List Key×V)}(nf:∀o u,X.H₀ d≠some (.frz o u))(I:Inv X Cr σ H s)(h:H d=some (.frz o (.dT kvs))):Inv X Cr σ (upd H d (.dT kvs)) s:=by
 have nd:∀b,H b=none→upd H d (.dT kvs) b=none:=fun b e=>by rw[Zb (Ne.symm (Zi h e))];exact e
 have ot:∀b u,H b=some u→u≠.frz o (.dT kvs)→upd H d (.dT kvs) b=some u:=fun b u e n=>by rw[Zb (V6 e h n)];exact e
 have tu:∀b xs,H b=some (.tup xs)→upd H d (.dT kvs) b=some (.tup xs):=fun b xs e=>ot b _ e (by intro z;cases z);refine⟨I.ok,I.os,I.bare,⟨I.base.keep,I.base.slot,fun b ob q n hx=>nd b (I.base.free b ob q n hx),I.base.there,fun b xs e=>tu b _ (I.base.tups b xs e),fun b ob u e=>?_,fun b ps e=>?_⟩,I.loc,I.cell,nd _ I.free,fun x c e=>nd c (I.freeC x c e),fun p hp=>?_,fun b u e=>?_,I.len⟩
 ·rw[Zb (fun z=>nf ob u (by rw[←z];exact e))];exact I.base.frzs b ob u e
 ·obtain⟨m,q⟩:=I.base.tbls b ps e;exact⟨m,ot b _ q (by intro z;cases z)⟩
 ·obtain⟨h1,h2,h3⟩:=I.pin p hp;exact⟨h1,nd _ h2,h3⟩
 ·by_cases hb:b=d
  ·subst hb;rw[Z4]at e;cases e;obtain⟨z,lo,xs,kt,r⟩:=(show ObjOk X.prog X.w H s.heap b (.dT kvs) from(I.hok b _ h).2);exact⟨z,lo,xs,KT.keeps kt tu,r⟩
  ·rw[Zb hb]at e;exact(I.hok b u e).stay (fun _ _ _ q=>q) (fun c q=>ot c _ q (by intro z;cases z)) fun c xs q=>tu c xs q
theorem Inv.freezeT{d:Addr}{kvs:List (List Key×V)}(I:Inv X Cr σ H s)(h:H d=some (.dT kvs)):∃o,Inv X Cr σ (upd H d (.frz o (.dT kvs))) s∧∀o u,X.H₀ d≠some (.frz o u):=by
 obtain⟨z,lo,xs,kt,o,es,ep,ho,r⟩:=(show ObjOk X.prog X.w H s.heap d (.dT kvs)from I.hok d _ h);have tu:∀b ys,H b=some (.tup ys)→upd H d (.frz o (.dT kvs)) b=some (.tup ys):=fun b ys e=>by rw[Zb (V6 e h (by intro z;cases z))];exact e
 refine⟨o,I.write (x:=d) (e:=d) (t':=s.toks) (h':=s.heap) (by rw[h];exact trivial) (.inl rfl) (fun _ _ _ q=>q) ⟨o,ho⟩ ⟨ho,z,lo,xs,KT.keeps kt tu,o,es,ep,ho,r⟩,fun o' u e=>?_⟩;have q:=I.base.frzs d o' u e;rw[h]at q;cases q
def wX(t:TE):TE:=fun σ H Q=>∃(d:Addr)(kvs:List (List Key×V)),H d=some (.dT kvs)∧∀o,t σ (upd H d (.frz o (.dT kvs))) fun v H2=>H2 d=some (.frz o (.dT kvs))∧Q v (upd H2 d (.dT kvs))
theorem jC{e:Expr}{t:TE}(h:PE X e t):PE X e (wX t):=by
 intro Cr s σ H Q I hw;obtain⟨d,kvs,hd,q⟩:=hw;obtain⟨o,I1,nf⟩:=I.freezeT hd;exact thn (h Cr s σ _ _ I1 (q o)) fun v s1 ⟨x,H1,I2,r,hd2,q2⟩=>⟨x,_,I2.thawT nf hd2,r,q2⟩
def lm(d:Addr)(kvs:List (List Key×V))(o:Obj):It:=⟨fun i H=>i<kvs.length∧H d=some (.frz o (.dT kvs)),fun i H x H'=>H'=H∧∃p b,kvs[i]?=some p∧x=.ref b∧H b=some (.tup (p.1.map kV)),fun i H=>kvs.length≤i∧H d=some (.frz o (.dT kvs))⟩
theorem rX{P:Program}{w:World}{K:W.Frag}{tg:Expr}{d it:Addr}{kvs:List (List Key×V)}{o:Obj}{es:Array DictEntry}{ep:Nat}(ex:o.ExactDict)(od:o.data=.dict es ep)(sz:es.size=kvs.length):
  Turn P w K tg (lm d kvs o) [it] it (fun i h=>h.IsKeyIter it d i es.size ep) where
 mem:=by simp
 obj:=fun i h st b hb=>by
  obtain⟨q,e,c,dd⟩:=st;rw[yP.mp hb];exact⟨q,e,fun v z=>by rw[dd]at z;cases z⟩
 keep:=fun i h h' st k=>st.at fun q e=>k it (.head _) q e
 item:=by
  intro X hP hw hK hc i Cr s σ H E I hf st hg;subst hP hw hK;obtain⟨hi,hd⟩:=hg;obtain⟨ho,z,lo,xs,kt,o',es',ep',h1,_,h3,h4,_⟩:=(show ObjOk X.prog X.w H s.heap d (.frz o (.dT kvs))from I.hok d _ hd);rw[ho]at h1;cases h1;rw[od]at h3;cases h3;obtain⟨f0,f1,f2,f3,f4,f5⟩:=hf it (.head _);have e1:kvs[i]?=some kvs[i]:=by simp[hi]
  obtain⟨x,ex1,hx,_⟩:=Ni kt e1;have ek:es[i].key=.ref x.2.1:=by
   have q:es.toList[i]?=some es[i]:=by rw[yS];exact yN (by omega)
   rw[h4,zc,ex1]at q;rw[←zT q];rfl
  refine kj st ⟨o,ho,ex,od⟩ (by omega) fun g CI sb=>?_;obtain⟨q,e,c,dd⟩:=id CI;have I1:Inv X Cr σ H {s with heap:=g}:=I.turned (t':=s.toks) (fun b ob hb eb=>(sb.2 b hb).trans eb) f0 f1 f3 f4 f5;exact⟨_,rfl,m6 (s:={s with heap:=g}) e c dd (by decide) ⟨.ref x.2.1,H,I1,ek,⟨rfl,_,_,e1,rfl,hx⟩,CI,fun b hb=>(hf b hb).1⟩⟩
 done:=by
  intro X hP hw hK hc i Cr s σ H E I hf st hg;subst hP hw hK;obtain⟨hi,hd⟩:=hg;obtain⟨ho,_⟩:=I.hok d _ hd;obtain⟨f0,f1,f2,f3,f4,f5⟩:=hf it (.head _);exact kO (I.ok.hd hc) st ⟨o,ho,ex,od⟩ (by omega) fun g eb=>⟨rfl,I.turned (t':=s.toks) (fun b ob hb e=>eb b ob hb e) f0 f1 f3 f4 f5⟩
 self:=fun _ _ _ _ _ st h=>wpAny_pyIter_keyiter st h
def v6(tl:TE):TI:=fun σ H R=>tl σ H fun x H1=>∃(d:Addr)(o:Obj)(kvs:List (List Key×V)),x=.ref d∧H1 d=some (.frz o (.dT kvs))∧R (lm d kvs o) H1
theorem Q0{tg l:Expr}{tl:TE}(hl:PE X l tl):PI X tg l (v6 tl):=by
 intro Cr s σ H R I h;refine thn (hl Cr s σ H _ I h) fun v s1 Cs=>?_;obtain⟨x,H1,I1,r1,q1⟩:=Cs;obtain⟨d,o,kvs,rfl,hd,q⟩:=q1;cases r1;obtain⟨ho,z,lo,xs,kt,o',es,ep,h1,h2,h3,h4,_⟩:=(show ObjOk X.prog X.w H1 s1.heap d (.frz o (.dT kvs))from I1.hok d _ hd);rw[ho]at h1;cases h1;have sz:es.size=kvs.length:=by rw[←yU,h4,pi,←zd kt]
 refine kN lo ⟨o,ho,h2,h3⟩ ⟨s1.heap.objs.size,[s1.heap.objs.size],_,_,H1,rfl,I1.kept (t':=s1.toks) (fun b ob e=>yJ _ e),rX h2 h3 sz,⟨_,yY _ rfl,rfl,rfl⟩,fun b hb=>?_,q⟩;rw[yP.mp hb];exact I1.fpOk (yM _) (I1.hok.fresh (yM _))
theorem Qz{d:Addr}{o:Obj}{kvs:List (List Key×V)}{k:Nat}{g:TG}{tt:TT}{te:TE}{σ:St}{H:Hp}{Q:VK}(Pv:Nat→List V→Hp→Prop)(h0:Pv 0 [] H)(hl:∀i ys H,Pv i ys H→H d=some (.frz o (.dT kvs)))(hs:∀i p b ys H (C:List V→Hp→Prop),kvs[i]?=some p→H b=some (.tup (p.1.map kV))→Pv i ys H→(∀ys' H',Pv (i+1) ys' H'→C ys' H')→ys.length<sizeLine∧g (.ref b) (List.replicate k none++σ) H fun σ2 H2=>Wk σ2 (List.replicate k none++σ)∧tt σ2 H2 fun ok H3=>
   if ok=true then te σ2 H3 fun y H4=>C (ys++[y]) H4 else C ys H3)(hz:∀i ys H,Pv i ys H→ys.length<sizeLine)(hd:∀ys H,Pv kvs.length ys H→ys.length≤sizeLine∧∀p,H p=none→Q (.ref p) (upd H p (.lst ys))):CompR (lm d kvs o) H k g tt te σ Q:=by
 refine⟨fun i m ys H=>m=kvs.length-i∧i≤kvs.length∧Pv i ys H,⟨kvs.length,by simp,Nat.zero_le _,h0⟩,?_⟩;rintro i m ys H ⟨rfl,hi,p⟩;have q:=hl i ys H p;by_cases Cz:i<kvs.length
 ·refine .inr ⟨⟨Cz,q⟩,hz i ys H p,fun v H' y=>?_⟩;obtain⟨e,p',b,hp',rfl,hb⟩:=y;subst e;exact(hs i p' b ys H' (fun ys' H'=>∃m',m'<kvs.length-i∧m'=kvs.length-(i+1)∧i+1≤kvs.length∧Pv (i+1) ys' H') hp' hb p fun ys' H' p'=>⟨_,by omega,rfl,Cz,p'⟩).2
 ·have e:i=kvs.length:=by omega
  subst e;exact .inl ⟨⟨yM _,q⟩,hd ys H p⟩
end
abbrev TKv:=List Key×Addr×Value
def cV(xs:List TKv):List TKv:=xs.foldl (fun CH x=>storedH CH x.1 x.2.1 x.2.2) []
def jP(kvs:List (List Key×V)):List (List Key×V):=kvs.foldl (fun CH kv=>aJ CH kv.1 kv.2) []
theorem lx(xs:List TKv)(x:TKv):cV (xs++[x])=storedH (cV xs) x.1 x.2.1 x.2.2:=by
 unfold cV;rw[List.foldl_append];rfl
theorem eY(xs:List TKv)(k:List Key)(a:Addr)(v:Value):(storedH xs k a v).length≤xs.length+1:=by
 unfold storedH
 split
 ·rw[pi];omega
 ·rw[yR];exact yM _
theorem O2:∀(ys xs:List TKv),(ys.foldl (fun CH x=>storedH CH x.1 x.2.1 x.2.2) xs).length≤xs.length+ys.length
 | [],xs=>yM _
 |y::ys,xs=>by
  have q:=O2 ys (storedH xs y.1 y.2.1 y.2.2);have l:=eY xs y.1 y.2.1 y.2.2;rw[Ca,zw];omega
theorem f6(xs:List TKv):(cV xs).length≤xs.length:=by
 have q:=O2 xs [];rw[Ai,A5]at q;exact q
theorem fI{xs:List TKv}{k:List Key}{a:Addr}{v:Value}{x:TKv}(h:x∈storedH xs k a v):(∃y∈xs,x.1=y.1∧x.2.1=y.2.1)∨(x.1=k∧x.2.1=a):=by
 unfold storedH at h
 split at h
 ·obtain⟨y,hy,rfl⟩:=yO.mp h;refine .inl ⟨y,hy,?_⟩;unfold putAt
  split <;> exact⟨rfl,rfl⟩
 ·rcases ze.mp h with q | q
  ·exact .inl ⟨x,q,rfl,rfl⟩
  ·rw[yP.mp q];exact .inr ⟨rfl,rfl⟩
theorem O1:∀{ys xs:List TKv}{x:TKv},x∈ys.foldl (fun CH x=>storedH CH x.1 x.2.1 x.2.2) xs→∃y,(y∈xs∨y∈ys)∧x.1=y.1∧x.2.1=y.2.1
 | [],xs,x,h=>⟨x,.inl h,rfl,rfl⟩
 |z::ys,xs,x,h=>by
  obtain⟨y,hy,e1,e2⟩:=O1 (ys:=ys) h
  rcases hy with hy | hy
  ·rcases fI hy with⟨u,hu,f1,f2⟩|⟨f1,f2⟩
   ·exact⟨u,.inl hu,e1.trans f1,e2.trans f2⟩
   ·exact⟨z,.inr (.head _),e1.trans f1,e2.trans f2⟩
  ·exact⟨y,.inr (.tail _ hy),e1,e2⟩
theorem qr{ys:List TKv}{x:TKv}(h:x∈cV ys):∃y∈ys,x.1=y.1∧x.2.1=y.2.1:=by
 obtain⟨y,hy,e⟩:=O1 h
 rcases hy with hy | hy
 ·exact nomatch hy
 ·exact⟨y,hy,e⟩
theorem wb{H:Hp}{more:List (List Key×V)}{rs:List TKv}{kvs:List (List Key×V)}{xs:List TKv}(a:KT H more rs)(b:KT H kvs xs):KT H (more.foldl (fun CH kv=>aJ CH kv.1 kv.2) kvs) (rs.foldl (fun CH x=>storedH CH x.1 x.2.1 x.2.2) xs):=by
 induction a generalizing kvs xs with
 |nil=>exact b
 | @cons p q more rs h t ih=>
  have e:=KT.put b p.1 h.2.1 h.2.2;have e2:KT H (aJ kvs p.1 p.2) (storedH xs q.1 q.2.1 q.2.2):=by
   rw[show storedH xs q.1 q.2.1 q.2.2=storedH xs p.1 q.2.1 q.2.2 by rw[h.1]];exact e
  exact ih e2
theorem xN{H:Hp}{kvs:List (List Key×V)}{xs:List TKv}(h:KT H kvs xs):KT H (jP kvs) (cV xs):=wb h .nil
theorem f_:∀(kvs CH:List (List Key×V)),((CH++kvs).map (·.1)).Nodup→kvs.foldl (fun CH kv=>aJ CH kv.1 kv.2) CH=CH++kvs
 | [],CH,_=>(AJ CH).symm
 |p::kvs,CH,h=>by
  have e:aP CH p.1=none:=by
   rw[zk,yQ]at h;have nin:p.1∉CH.map (·.1):=fun q=>(BU.mp h).2.2 p.1 q p.1 (.head _) rfl;have:∀l:List (List Key×V),p.1∉l.map (·.1)→aP l p.1=none:=fun l=>by
    induction l with
    |nil=>intro _;rfl
    |cons y l ih=>
     intro hl;rw[yQ,y8,not_or]at hl;rw[Y0 (fun z=>hl.1 z.symm)];exact ih hl.2
   exact this CH nin
  rw[Ca,py p.2 e,f_ kvs _ (by rw[zU];exact h),zU];rfl
theorem Qb{kvs:List (List Key×V)}(h:(kvs.map (·.1)).Nodup):jP kvs=kvs:=f_ kvs [] h
theorem Oo{h g:Heap}{ks:List Key}{a:Addr}(x:(tupleKind (aa prog w)).is h ks a)(k:∀o,h.get? a=some o→g.get? a=some o):(tupleKind (aa prog w)).is g ks a:=by
 obtain⟨o,its,n,h1,r⟩:=x;exact⟨o,its,n,k o h1,r⟩
def i5(prog:Program)(w:World)(h:Heap)(D:Addr)(xs:List TKv):Prop:=∃o es ep,h.get? D=some o∧o.ExactDict∧o.data=.dict es ep∧es.toList=xs.map (entryOfKey (tupleKind (aa prog w)))∧(xs.map (·.1)).Nodup
def j4(prog:Program)(w:World)(h:Heap)(p:TKv)(v:Value)(no:List Addr):Prop:=∃a o n,v=.ref a∧a∉no∧p.2.1∉no∧h.get? a=some o∧o.cls=.type "tuple"∧o.data=.seq #[.ref p.2.1,p.2.2] n∧(tupleKind (aa prog w)).is h p.1 p.2.1
theorem i8{R:Result→Shared→Prop}{I:Addr}{fp wr:List Addr}{n:Nat}{P:Nat→Value→Prop}{St:Nat→Heap→Prop}(W:Walks prog w A.in1 I fp wr n P St)(hu:A.units+1<cLine)(D:Addr)(hD:D∉fp)(ps:List TKv)(hpn:ps.length=n)(its:List Value)(hP:∀i v,P i v→its[i]?=some v)(hb:n≤100000):
  ∀(k i:Nat)(s:Shared),n-i=k→i≤n→St i s.heap→i5 prog w s.heap D (cV (ps.take i))→(∀(j:Nat) p,ps[j]?=some p→∃v,its[j]?=some v∧j4 prog w s.heap p v (D::wr))→
   (∀g tk,(∀b o,b∉D::wr→s.heap.get? b=some o→g.get? b=some o)→i5 prog w g D (cV ps)→R (.ok (.ret .none)) {s with heap:=g,toks:=tk})→
   codeAny (model prog w) A (.builtin "dict.update.loop" ⟨[.ref D,.ref I,rawInt i,.none],[]⟩) R s:=by
 have hDw:D∉wr:=fun q=>hD (W.sub _ q);intro k
 induction k with
 |zero=>
  intro i s hk hi st so tp fin;obtain rfl:i=n:=by omega
  refine Aj Sq ?_;rw[zY Wn _];refine io (m:=pyNext (.ref I)) (W.done s _ _ st fun h' tk kp=>io (m:=Builtin.Dict.addKeywords D []) (yI (yI (fin h' tk (fun b o nb e=>kp b o (fun q=>nb (zS _ q)) e) ?_))));rw[←hpn,zG]at so;obtain⟨o,es,ep,ho,r⟩:=so;exact⟨o,es,ep,kp D o hDw ho,r⟩
 |succ k ih=>
  intro i s hk hi st so tp fin;have Cz:i<n:=by omega
  refine Aj Sq ?_;rw[zY Wn _];refine io (m:=pyNext (.ref I)) (W.item i s _ _ Cz st fun v h1 tk1 pv st1 kp1=>?_);obtain⟨p,hp⟩:∃p,ps[i]?=some p:=⟨ps[i],zF (by omega)⟩;have kw:∀b o,b∉D::wr→s.heap.get? b=some o→h1.get? b=some o:=fun b o nb e=>kp1 b o (fun q=>nb (zS _ q)) e;have tp1:∀(j:Nat) p,ps[j]?=some p→∃v,its[j]?=some v∧j4 prog w h1 p v (D::wr):=fun j p e=>by
   obtain⟨v,hv,a,o,m,rfl,na,nk,ha,r1,r2,r3⟩:=tp j p e;exact⟨_,hv,a,o,m,rfl,na,nk,kw a o na ha,r1,r2,Oo r3 fun o e=>kw _ o nk e⟩
  obtain⟨v',hv',a,o,m,rfl,na,nk,ha,hc,hd,hkey⟩:=tp1 i p hp;obtain rfl:v=.ref a:=zT ((hP i v pv).symm.trans hv');have so1:h1.DictOfH (tupleKind (aa prog w)) D (cV (ps.take i)):=by
   obtain⟨o,es,ep,ho,r1,r2,r3,r4⟩:=so;refine⟨o,es,ep,kp1 D o hDw ho,r1,r2,r3,fun x hx=>?_,r4⟩;obtain⟨y,hy,e1,e2⟩:=qr hx;obtain⟨j,hj⟩:=Ay (AO hy);obtain⟨_,_,_,_,_,_,_,_,_,_,_,q⟩:=tp1 j y hj;rw[e1,e2];exact q
  refine io (zK (io (wpAny_tryCatch ?_)));unfold Builtin.Dict.pairItems;refine io (BI (T:="tuple") ⟨o,ha,hc⟩ ?_);rw[yL (by decide)];refine io (m:=seqItems? (.ref a)) ?_;unfold seqItems?;refine io (Cc ha ?_);rw[hd];refine yI (yI ?_);show wpAny _ _ (holding [Value.ref p.2.1,p.2.2] (dictSet D (.ref p.2.1) p.2.2)) _ _ _;have eb:=f6 (ps.take i);rw[zu]at eb;refine zK (wpAny_dictSet_heap (s:={s with heap:=h1,toks:=tk1}) (A1 hu) hkey so1 (fun g so2 sb=>?_) (by
   have:(100000:Nat)≤sizeLine:=by decide
   omega))
  have so3:i5 prog w g D (cV (ps.take (i+1))):=by
   rw[Zx hp,lx];obtain⟨o,es,ep,ho,r1,r2,r3,_,r4⟩:=so2;exact⟨o,es,ep,ho,r1,r2,r3,r4⟩
  have ks:∀b o,b≠D→h1.get? b=some o→g.get? b=some o:=fun b o nb e=>(sb.2 b nb).trans e;refine yI ⟨Bg Wn _,ih (i+1) _ (by omega) Cz (W.frame _ _ _ st1 fun b hb o e=>ks b o (fun q=>hD (by rw[←q];exact hb)) e) so3 (fun j p e=>?_) fun g' tk kp so'=>fin g' tk (fun b o nb e=>kp b o nb ?_) so'⟩
  ·obtain⟨v,hv,a,o,m,rfl,na,nk,ha,r1,r2,r3⟩:=tp1 j p e;have nD:∀{b:Addr},b∉D::wr→b≠D:=fun h z=>h (by rw[z];exact .head _);exact⟨_,hv,a,o,m,rfl,na,nk,ks a o (nD na) ha,r1,r2,Oo r3 fun o e=>ks _ o (nD nk) e⟩
  ·exact ks b o (fun z=>nb (by rw[z];exact .head _)) (kw b o nb e)
inductive TPsAt(H:Hp):List V→List (List Key×V)→Prop
 |nil:TPsAt H [] []
 |cons {c b:Addr} {xs:List V} {k:List Key} {v:V} {kvs:List (List Key×V)} (h:H c=some (.tup [.ref b,v])) (g:H b=some (.tup (k.map kV))) (r:TPsAt H xs kvs):TPsAt H (.ref c::xs) ((k,v)::kvs)
theorem Pf{l:Addr}{its:List Value}{k:Nat}{sl:Array (Option Value)}{ps:List TKv}{Q:Value→Shared→Prop}(hh:A.handled=none)(hu:A.units+3<cLine)(hl:s.heap.get? l=some {cls:=.type "tuple",dict:=none,data:=.seq its.toArray k,slots:=sl})(CK:its.length=ps.length)(hb:ps.length≤100000)(hp:∀(j:Nat) p,ps[j]?=some p→∃v,its[j]?=some v∧j4 prog w s.heap p v [])(h:∀g tk,(∀b o,s.heap.get? b=some o→g.get? b=some o)→i5 prog w g s.heap.objs.size (cV ps)→Q (.ref s.heap.objs.size) {s with heap:=g,toks:=tk}):wpAny (model prog w) A (call (.type "dict") [.ref l]) Q E s:=by
 refine callType_codes (Q₁:=fun obj s₁=>obj=.ref s.heap.objs.size∧s₁={s with heap:=s.heap.push {cls:=.type "dict",data:=.dict #[]}}) F.kt_called_dict (F.kt_typeCall_dict_1 _) F.entry_dict_init (kt_code_dict_new _ ⟨rfl,rfl⟩) ?_;rintro obj s₁ ⟨rfl,rfl⟩;have gD:(s.heap.push {cls:=.type "dict",data:=.dict #[]}).get? s.heap.objs.size=some {cls:=.type "dict",data:=.dict #[]}:=yY _ rfl;have hl1:(s.heap.push {cls:=.type "dict",data:=.dict #[]}).get? l=some {cls:=.type "tuple",dict:=none,data:=.seq its.toArray k,slots:=sl}:=yJ _ hl;refine⟨⟨_,gD,rfl⟩,F.args_dict_init_2 _ _,?_⟩;unfold Builtin.«dict.__init__»;refine io ?_;unfold Builtin.Dict.selfAndRest;refine io (Av ⟨_,gD,rfl⟩ (yI (a:=(s.heap.objs.size,[Value.ref l])) ?_));show wpAny (model prog w) _ (Builtin.Dict.updateFrom "dict.__init__" s.heap.objs.size (.ref l) [] .none) _ _ _;unfold Builtin.Dict.updateFrom;refine io (BI (T:="tuple") ⟨_,hl1,rfl⟩ ?_);rw[yL (by decide)];refine wpAny_bind (yD hl1 (by simpa using hh) fun g tk kp=>?_);rw[yL (by rfl)];have ltD:s.heap.objs.size<g.objs.size:=yV (kp _ _ gD);have ltl:l<s.heap.objs.size:=yV hl;have hl2:g.IsTuple l its.toArray:=⟨_,kp _ _ hl1,rfl,k,rfl⟩;refine io (AM (io (wpAny_pyIter_tuple hl2 (yI ⟨Bg Wn _,?_⟩))));have hne:l≠g.objs.size:=y4 (A3 ltl ltD);have nin:s.heap.objs.size∉[g.objs.size,l]:=fun q=>by
  rcases y8.mp q with q | q
  ·exact y4 ltD q
  ·exact Ah ltl (yP.mp q)
 have nout:∀{b:Addr},b<s.heap.objs.size→b∉[s.heap.objs.size,g.objs.size]:=fun{b} lt q=>by
  rcases y8.mp q with q | q
  ·exact y4 lt q
  ·exact y4 (A3 lt ltD) (yP.mp q)
 have keep:∀b o,s.heap.get? b=some o→(g.push {cls:=.type "tuple_iterator",data:=.fields #[.ref l,.int 0 0]}).get? b=some o:=fun b o e=>yJ _ (kp _ _ (yJ _ e));refine i8 (A:=A.in1) (Walks.tuple (by simpa using hh) g.objs.size l hne its.toArray) (by show A.units+1+1<cLine;omega) s.heap.objs.size nin ps (by rw[List.size_toArray];omega) its (fun i v e=>by simpa using e) (by rw[List.size_toArray];omega) its.toArray.size 0 _ (Nat.sub_zero _) (Nat.zero_le _) ⟨⟨_,Heap.get?_push_size _ rfl,rfl,rfl⟩,hl2.push _⟩ ⟨_,#[],0,Heap.get?_push_of_some _ (kp _ _ gD),⟨rfl,rfl,rfl⟩,rfl,rfl,List.nodup_nil⟩ (fun j p e=>?_) fun g' tk' kp' so'=>⟨rfl,h g' tk' (fun b o e=>kp' b o (nout (Heap.lt_size e)) ?_) so'⟩
 ·obtain⟨v,hv,a,o,m,rfl,_,_,ha,r1,r2,r3⟩:=hp j p e;have la:=yV ha;have lk:p.2.1<s.heap.objs.size:=by
   obtain⟨_,_,_,h1,_⟩:=r3;exact yV h1
  exact⟨_,hv,a,o,m,rfl,nout la,nout lk,yJ _ (kp _ _ (yJ _ ha)),r1,r2,Oo r3 fun o e=>yJ _ (kp _ _ (yJ _ e))⟩
 ·exact yJ _ (kp _ _ (yJ _ e))
section
variable{X:Cx}
theorem gQ{Cr:List (Addr×Obj)}{s:Shared}{σ:St}{H:Hp}(I:Inv X Cr σ H s):∀{ys:List V}{kvs:List (List Key×V)}{its:List Value},TPsAt H ys kvs→Vals ys its→∃ps:List TKv,KT H kvs ps∧its.length=ps.length∧∀(j:Nat) p,ps[j]?=some p→∃v,its[j]?=some v∧j4 X.prog X.w s.heap p v []
 |_,_,_,.nil,.nil=>⟨[],.nil,rfl,fun j p e=>by simp at e⟩
 |_,_,_,.cons (c:=c) (b:=b) (k:=k) (v:=v) h g r,.cons r1 t=>by
  obtain⟨ps,kt,le,at_⟩:=gQ I r t;obtain⟨_,its,rv,o,e1,e2,n,e3⟩:=(show ObjOk X.prog X.w H s.heap c (.tup [.ref b,v])from I.hok c _ h);obtain⟨u,x,rfl,ru,rx⟩:=gi rv;cases ru;cases r1;refine⟨(k,b,x)::ps,.cons ⟨rfl,g,rx⟩ kt,by rw[zw,zw,le],fun j p e=>?_⟩;cases j with
  |zero=>
   rw[An]at e;cases e;exact⟨_,rfl,c,o,n,rfl,zC,zC,e1,e2.1,e3,U1 I.hok g⟩
  |succ j=>exact at_ j p (by simpa using e)
def r8:List V→Hp→VK→Prop:=fun xs H Q=>∃(l:Addr)(ys:List V)(kvs:List (List Key×V)),xs=[.ref l]∧H l=some (.tup ys)∧TPsAt H ys kvs∧kvs.length≤1000∧∀p,H p=none→Q (.ref p) (upd H p (.dT (jP kvs)))
theorem U5(hc:X.calm=true)(hu:X.A.units+64<cLine):aK X (.type "dict") r8:=by
 intro Cr s σ H xs us Q I rx h;obtain⟨l,ys,kvs,rfl,hq,pa,CK,q⟩:=h;obtain⟨u,rfl,ru⟩:=Xx rx;cases ru;obtain⟨_,its,rv,⟨⟨c0,d0,dt0,sl0⟩,ho,hcl,m,hs⟩⟩:=(show ObjOk X.prog X.w H s.heap l (.tup ys)from I.hok l _ hq);simp only at hcl hs;obtain⟨hcl,hdn⟩:=hcl;subst hcl hdn hs;obtain⟨ps,kt,hl,hp⟩:=gQ I pa rv;have kl:=zd kt;refine Pf (I.ok.hd hc) (by omega) ho hl (by omega) hp fun g tk kp hD=>?_;have km:=xN kt;have ml:=f6 ps;refine⟨.ref s.heap.objs.size,_,I.laid (t':=tk) (o:=.dT (jP kvs)) kp (yM _) ⟨Ze (by rw[zd km];omega),AV.mpr (Ah I.big),cV ps,?_,hD⟩,rfl,q _ (I.hok.fresh (yM _))⟩;exact KT.keeps km fun b ys e=>by rw[Zb (Zi e (I.hok.fresh (yM _)))];exact e
end
theorem oC{kvs:List (List Key×V)}{k:List Key}(h:k∉kvs.map (·.1)):bE kvs k=kvs:=by
 unfold bE;refine BB.mpr fun p hp=>yX fun e=>h (yO.mpr ⟨p,hp,e⟩)
theorem jv{H:Hp}:∀{kvs:List (List Key×V)}{xs:List TKv}{k:List Key}{j:Nat}{q:Addr×Value},KT H kvs xs→(xs.map (·.1)).Nodup→xs[j]?=some (k,q)→KT H (bE kvs k) (xs.eraseIdx j)
 |_,_,_,_,_,.nil,_,e=>by simp at e
 |p::kvs,x::xs,k,0,q,.cons h t,nd,e=>by
  rw[An]at e;cases e;rw[yQ,zt]at nd;have ke:kvs.map (·.1)=xs.map (·.1):=by
   clear nd h
   induction t with
   |nil=>rfl
   |cons a _ ih=>rw[yQ,yQ,ih,a.1]
  have e1:bE (p::kvs) k=kvs:=by
   have o:=oC (kvs:=kvs) (k:=k) (by rw[ke];exact nd.1);unfold bE at o⊢;rw[List.filter_cons,if_neg (by simp[show p.1=k from h.1])];exact o
  rw[e1];exact t
 |p::kvs,x::xs,k,j+1,q,.cons h t,nd,e=>by
  rw[yQ,zt]at nd;have e:xs[j]?=some (k,q):=by simpa using e
  have ne:p.1≠k:=fun z=>nd.1 (yO.mpr ⟨(k,q),zB e,by rw[←h.1,z]⟩);have e1:bE (p::kvs) k=p::bE kvs k:=by
   unfold bE;rw[zN,yL (yX ne)]
  rw[e1,List.eraseIdx_cons_succ];exact .cons h (jv t nd.2 e)
theorem Ui{α β:Type}(f:α→β):∀(l:List α)(j:Nat),(l.map f).eraseIdx j=(l.eraseIdx j).map f
 | [],_=>rfl
 |_::_,0=>rfl
 |a::l,j+1=>by rw[yQ,List.eraseIdx_cons_succ,List.eraseIdx_cons_succ,yQ,Ui f l j]
theorem qp{xs:List TKv}(nd:(xs.map (·.1)).Nodup)(j:Nat):((xs.eraseIdx j).map (·.1)).Nodup:=nd.sublist ((List.eraseIdx_sublist xs j).map _)
theorem sQ{d a:Addr}{xs:List TKv}{k:List Key}{j:Nat}{q:Addr×Value}(hu:A.units+1<cLine)(hkey:(tupleKind (aa prog w)).is s.heap k a)(hm:s.heap.DictOfH (tupleKind (aa prog w)) d xs)(hz:xs.length≤sizeLine)(hj:xs[j]?=some (k,q)){Q:Fin→Shared→Prop}(h:∀g tk,i5 prog w g d (xs.eraseIdx j)→Heap.SameBut d s.heap g→Q (.done (.ret q.2)) {s with heap:=g,toks:=tk}):wpAny (model prog w) A.in1 (Builtin.«dict.pop» ⟨[.ref d,.ref a],[]⟩) Q E s:=by
 obtain⟨o,es,ep,ho,ex,hd,he,his,hn⟩:=id hm;have ty:s.TypeIs (.ref d) "dict":=hm.typeIs;unfold Builtin.«dict.pop»;refine io ?_;unfold Builtin.Dict.keyAndDefault;refine io (Av ty (show wpAny (model prog w) _ (pure (d,Value.ref a,none)) _ _ s from yI ?_));have jl:j<xs.length:=(yZ.mp hj).1;have sz:es.size=xs.length:=by rw[←yU,he,pi]
 have ne:es.isEmpty=false:=by
  rcases z:es.isEmpty with _ | _
  ·rfl
  ·have:=Array.isEmpty_iff_size_eq_zero.mp z;omega
 have ej:es[j]?=some (entryOfKey (tupleKind (aa prog w)) (k,q)):=by rw[←yS,he,zc,hj];rfl
 have kp:¬((keyPart (Value.ref a)).isSome=true):=yT;simp only[kp,if_false];refine io (zE ho hd (bP ?_));simp only[ne,Bool.false_eq_true,if_false];refine io ?_;unfold Builtin.Dict.takeOut;refine zK (io ((tupleKind (aa prog w)).pyHash (A1 hu) hkey (io (wpAny_dictFind_heap (A1 hu) hkey ho hd he his hn (fun hno=>absurd hj (hno j q)) fun i p hi=>?_))));have ij:i=j:=idxH_unique hn hi hj;subst ij;show wpAny (model prog w) _ (dictEntries d (keyPart (.ref a)) >>= fun l=>_) _ _ _;refine io (zE ho hd ?_);rw[ej];refine io (wpAny_updateDictKeys (hz:=?_) ho hd (yI ?_))
 ·rw[yK (by exact yT)];refine io (wpAny_letGo (yI (h _ _ ⟨_,_,ep+1,BP _ ho (Obj.isFreed_of_dict (Obj.data_mapDictKeys hd _)),ex.mapDictKeys _,Obj.data_mapDictKeys hd _,?_,qp hn i⟩ (Bc ..))));rw[Array.eraseIdxIfInBounds,dif_pos (by omega:i<es.size),Array.toList_eraseIdx,he];exact Ui _ _ _
 ·omega
section
variable{X:Cx}
def xQ:V→List V→Hp→VK→Prop:=fun x vs H Q=>∃(d a:Addr)(kvs:List (List Key×V))(k:List Key)(v:V),x=.ref d∧vs=[.ref a]∧H d=some (.dT kvs)∧H a=some (.tup (k.map kV))∧aP kvs k=some v∧Q v (upd H d (.dT (bE kvs k)))
theorem tJ{H:Hp}{kvs:List (List Key×V)}{xs:List TKv}{k:List Key}{v:V}(kt:KT H kvs xs):aP kvs k=some v→∃(j:Nat)(q:Addr×Value),xs[j]?=some (k,q)∧RelV v q.2:=by
 induction kt with
 |nil=>intro e;simp[aP]at e
 | @cons p x kvs xs h t ih=>
  intro e;by_cases z:p.1=k
  ·rw[Y6 z]at e;cases e;exact⟨0,x.2,by rw[An,←z,h.1],h.2.2⟩
  ·rw[Y0 z]at e;obtain⟨j,q,e1,e2⟩:=ih e;exact⟨j+1,q,by simpa using e1,e2⟩
theorem kY(hu:X.A.units+64<cLine):MtR X "dict.pop" xQ:=by
 intro Cr s σ H x vs v us Q I rx rv h;obtain⟨d,a,kvs,k,y,rfl,rfl,hd,ha,hv,q⟩:=h;cases rx;obtain⟨u,rfl,ru⟩:=Xx rv;cases ru;obtain⟨z,lo,xs,kt,dd⟩:=O4 I.hok hd;obtain⟨j,p,hj,rp⟩:=tJ kt hv;have hn:(xs.map (·.1)).Nodup:=by obtain⟨_,_,_,_,_,_,_,_,hn⟩:=dd;exact hn
 have tu:∀b ys,H b=some (.tup ys)→upd H d (.dT (bE kvs k)) b=some (.tup ys):=fun b ys e=>by rw[Zb (V6 e hd (by intro z;cases z))];exact e
 refine Am PySem.F.slot_dict_pop dd.typeIs PySem.F.entry_dict_pop (sQ (by omega) (U1 I.hok ha) dd (by rw[←zd kt];exact z) hj fun g tk raw sb=>⟨_,rfl,y,_,?_,rp,q⟩) (PySem.F.args_dict_pop_2 _ _);have hg:∃o,g.get? d=some o:=let ⟨o,_,_,e,_⟩:=raw;⟨o,e⟩
 exact I.write (x:=d) (e:=d) (t':=tk) (by rw[hd];exact trivial) (.inl rfl) (fun b u nb e=>(sb.2 b nb).trans e) hg ⟨zP (z8 _ _) z,lo,xs.eraseIdx j,KT.keeps (jv kt hn hj) tu,raw⟩
end
abbrev ItI(h:Heap)(it d:Addr)(i n ep:Nat)(f0 f1 ok ov:Value):Prop:=h.get? it=some {cls:=.type "dict_itemiterator",dict:=none,data:=.fields #[f0,f1,.ref d,.int i 0,.int n 0,.int ep 0,ok,ov],slots:=#[]}
abbrev duo(x y:Value):Obj:={cls:=.type "tuple",data:=.seq #[x,y]}
section
variable{prog:Program}{w:World}{A:Around}{E:Value→Shared→Prop}{s:Shared}{it d:Addr}{i ep:Nat}{es:Array DictEntry}{f0 f1 ok ov:Value}
theorem j5{v:Addr}{Q:Value→Shared→Prop}(zv:s.heap.IsItemsView v d)(zm:RwD s.heap d es ep)(zq:∀g:Heap,ItI g s.heap.objs.size d 0 es.size ep .none (.bool false) .none .none→g.objs.size=s.heap.objs.size+1→(∀b o,s.heap.get? b=some o→g.get? b=some o)→Q (.ref s.heap.objs.size) {s with heap:=g}):wpAny (model prog w) A (pyIter (.ref v)) Q E s:=by
 obtain⟨ou,vo,_,vd⟩:=id zv;obtain⟨o,yo,_,yd⟩:=id zm;refine Bs zv.typeIs PySem.F.slot_dict_items_iter (Am PySem.F.slot_dict_items_iter zv.typeIs PySem.F.entry_dict_items_iter (bP (io (io (wpAny_field vo vd (x:=.ref d) rfl (yI (io ?_)))))) (PySem.F.args_dict_items_iter_1 _));unfold Builtin.Dict_items.newIterator;skip;refine io (zE yo yd (io (Bo yo yd ?_)));simp only[Vy.2.2,if_true];refine wpAny_newObj_type (wpAny_pure ⟨_,rfl,"dict_itemiterator",_,⟨_,Heap.get?_push_size _ rfl,rfl⟩,PySem.F.slot_dict_itemiterator_next.lookup,?_⟩) (by simp only[sizeOk,Builtin.Dict_items.ownedTupleFields,List.size_toArray,List.length_append,List.length_cons,List.length_nil,sizeLine_eq];omega);refine zq _ ?_ (Cn _ _) fun b o e=>yJ _ e;unfold ItI;rw[yY _ rfl];simp[rawInt,Builtin.Dict_items.ownedTupleFields]
theorem jc{a:Addr}{Q:Option Obj→Shared→Prop}(ho:s.heap.get? a=none)(h:Q none s):wpAny (model prog w) A (loadIfAlive a) Q E s:=by
 have h':Q (s.heap.get? a) s:=by rw[ho];exact h
 exact fun _ _ _=>h'
theorem j6{Q:Option Value→Shared→Prop}(zi:ItI s.heap it d i es.size ep f0 f1 ok ov)(alt:f0=.none∨∃(a:Addr) (b:Bool),f0=rawInt a∧f1=.bool b)(zm:RwD s.heap d es ep)(zx:i<es.size)(zq:∀(g:Heap) (e0 e1 x y:Value),ItI g it d (i+1) es.size ep e0 e1 x y→(∃(a:Addr) (b:Bool),e0=rawInt a∧e1=.bool b)→g.get? s.heap.objs.size=some (duo es[i].key es[i].val)→g.objs.size=s.heap.objs.size+1→
   (∀b o,b≠it→s.heap.get? b=some o→g.get? b=some o)→Q (some (.ref s.heap.objs.size)) {s with heap:=g}):wpAny (model prog w) A (pyNext (.ref it)) Q E s:=by
 obtain⟨hp,gs,dr,tk,os⟩:=s;obtain⟨od,yo,_,yd⟩:=zm;have ty:Shared.TypeIs ⟨hp,gs,dr,tk,os⟩ (.ref it) "dict_itemiterator":=⟨_,zi,rfl⟩;refine Uh ty PySem.F.slot_dict_itemiterator_next PySem.F.entry_dict_itemiterator_next (PySem.F.args_dict_itemiterator_next_1 _) (bP (io (io (io (A2 ty (yI (io (BG zi rfl ?_))))))));simp only[Vy.2.2,if_true];show wpAny (model prog w) _ (if (Value.ref d==Value.none)=true then _ else _) _ _ _;rw[yK (V3 d)];refine bP (io (zE yo yd ?_));rw[if_neg (by simp)];refine bP (wpAny_bind (wpAny_dictEpoch yo yd ?_));rw[if_neg (by simp)];refine wpAny_pure ?_;simp only[show ¬((i:Int)<0)from by omega,if_false,Int.toNat_natCast,Array.getElem?_eq_getElem zx];refine io (io (A2 ty (yI (io (wpAny_isOneOf_itemiter ty ?_)))));show wpAny (model prog w) _ (setField (.ref it) 3 (rawInt ((i:Int)+1)) >>= fun _=>_) _ _ ⟨hp,gs,dr,tk,os⟩;refine wpAny_bind (wpAny_setField_rec zi (by simp) fun g1 e1 s1=>?_);have s1:Heap.SameBut it hp g1:=s1;have e1:ItI g1 it d (i+1) es.size ep f0 f1 ok ov:=by
  have q:((i+1:Nat):Int)=(i:Int)+1:=by omega
  unfold ItI;rw[q];simpa [rawInt] using e1
 have ty1:Shared.TypeIs ⟨g1,gs,dr,tk,os⟩ (.ref it) "dict_itemiterator":=⟨_,e1,rfl⟩;refine io (zK (io (wpAny_isOneOf_itemiter ty1 (io (wpAny_isOneOf_itemiter ty1 ?_)))));show wpAny (model prog w) _ (Builtin.Dict_items.pairFromOwner (.ref it) 6 es[i].key es[i].val) _ _ ⟨g1,gs,dr,tk,os⟩;unfold Builtin.Dict_items.pairFromOwner;refine io (Cf ?_);have e2:ItI (g1.push (duo es[i].key es[i].val)) it d (i+1) es.size ep f0 f1 ok ov:=yJ _ e1;generalize hz:g1.push (duo es[i].key es[i].val)=g2 at e2;have z1:g1.objs.size=hp.objs.size:=s1.1;have il:it<hp.objs.size:=yV zi;have t2:g2.get? hp.objs.size=some (duo es[i].key es[i].val):=by rw[←hz,←z1];exact yY _ rfl
 have z2:g2.objs.size=hp.objs.size+1:=by rw[←hz,BD,z1]
 have k2:∀b o,b≠it→hp.get? b=some o→g2.get? b=some o:=fun b o nb e=>by rw[←hz];exact yJ _ (s1.extBut b o nb e)
 have fin:∀(g:Heap)(x0 x1 x y:Value),ItI g it d (i+1) es.size ep x0 x1 x y→(∃(a:Addr)(b:Bool),x0=rawInt a∧x1=.bool b)→Heap.SameBut it g2 g→Q (some (.ref hp.objs.size)) ⟨g,gs,dr,tk,os⟩:=fun g x0 x1 x y h1 h2 sb=>
  zq g x0 x1 x y h1 h2 (sb.extBut _ _ (Ah il) t2) (by show g.objs.size=hp.objs.size+1;rw[sb.1,z2]) fun b o nb e=>sb.extBut b o nb (k2 b o nb e)
 show wpAny (model prog w) _ (Builtin.Dict_items.ownedTupleIsFree (.ref it) >>= fun _=>_) _ _ ⟨g2,gs,dr,tk,os⟩;rw[z1];unfold Builtin.Dict_items.ownedTupleIsFree
 rcases alt with rfl | ⟨a,b,rfl,rfl⟩
 ·refine io (io (wpAny_field e2 rfl (x:=.none) rfl (yI ?_)));simp only[if_true];refine wpAny_bind (wpAny_field e2 rfl (x:=ok) rfl (wpAny_bind (wpAny_field e2 rfl (x:=ov) rfl (wpAny_bind (wpAny_setField_rec e2 (by simp) fun g3 e3 s3=>wpAny_bind (wpAny_setField_rec e3 (by simp) fun g4 e4 s4=>wpAny_bind (wpAny_setField_rec e4 (by simp) fun g5 e5 s5=>wpAny_bind (wpAny_setField_rec e5 (by simp) fun g6 e6 s6=>?_))))))));refine io (wpAny_letGo (yI (yI ⟨_,rfl,fin g6 _ _ _ _ e6 ⟨_,_,rfl,rfl⟩ ?_⟩)));have s3:Heap.SameBut it g2 g3:=s3;have s4:Heap.SameBut it g3 g4:=s4;have s5:Heap.SameBut it g4 g5:=s5;have s6:Heap.SameBut it g5 g6:=s6;exact⟨by rw[s6.1,s5.1,s4.1,s3.1],fun c nc=>(s6.2 c nc).trans ((s5.2 c nc).trans ((s4.2 c nc).trans (s3.2 c nc)))⟩
 ·refine io (io (wpAny_field e2 rfl (x:=rawInt a) rfl ?_));show wpAny (model prog w) _ (loadIfAlive ((a:Int).toNat) >>= fun _=>_) _ _ _;rw[Int.toNat_natCast];cases a2:g2.get? a with
  |none=>
   refine io (jc a2 ?_);simp only[Option.isNone_none,if_true];refine yI ?_;simp only[if_true];refine wpAny_bind (wpAny_field e2 rfl (x:=ok) rfl (wpAny_bind (wpAny_field e2 rfl (x:=ov) rfl (wpAny_bind (wpAny_setField_rec e2 (by simp) fun g3 e3 s3=>wpAny_bind (wpAny_setField_rec e3 (by simp) fun g4 e4 s4=>wpAny_bind (wpAny_setField_rec e4 (by simp) fun g5 e5 s5=>wpAny_bind (wpAny_setField_rec e5 (by simp) fun g6 e6 s6=>?_))))))));refine io (wpAny_letGo (yI (yI ⟨_,rfl,fin g6 _ _ _ _ e6 ⟨_,_,rfl,rfl⟩ ?_⟩)));have s3:Heap.SameBut it g2 g3:=s3;have s4:Heap.SameBut it g3 g4:=s4;have s5:Heap.SameBut it g4 g5:=s5;have s6:Heap.SameBut it g5 g6:=s6;exact⟨by rw[s6.1,s5.1,s4.1,s3.1],fun c nc=>(s6.2 c nc).trans ((s5.2 c nc).trans ((s4.2 c nc).trans (s3.2 c nc)))⟩
  |some o=>
   refine io (W.kdx_alive a2 ?_);simp only[Option.isNone_some,Bool.false_eq_true,if_false];refine io (wpAny_field e2 rfl (x:=.bool b) rfl ?_);cases b with
   |true=>
    rw[yK (show ¬((Value.bool true != Value.bool true)=true)from yT)];refine yI ?_;simp only[Bool.false_eq_true,if_false];exact yI (yI ⟨_,rfl,fin g2 _ _ _ _ e2 ⟨_,_,rfl,rfl⟩ (Heap.SameBut.refl _ _)⟩)
   |false=>
    rw[yL (show(Value.bool false != Value.bool true)=true from rfl)];refine wpAny_bind (wpAny_setField_rec e2 (by simp) fun g3 e3 s3=>wpAny_pure ?_);simp only[Bool.false_eq_true,if_false];exact yI (yI ⟨_,rfl,fin g3 _ _ _ _ e3 ⟨_,_,rfl,rfl⟩ s3⟩)
theorem kK{Q:Option Value→Shared→Prop}(zh:A.handled=none)(zi:ItI s.heap it d i es.size ep f0 f1 ok ov)(zm:RwD s.heap d es ep)(zx:es.size≤i)(zq:∀g:Heap,Heap.ExtBut it s.heap g→Q none {s with heap:=g}):wpAny (model prog w) A (pyNext (.ref it)) Q E s:=by
 obtain⟨od,yo,_,yd⟩:=zm;have ty:s.TypeIs (.ref it) "dict_itemiterator":=⟨_,zi,rfl⟩;refine Uh ty PySem.F.slot_dict_itemiterator_next PySem.F.entry_dict_itemiterator_next (PySem.F.args_dict_itemiterator_next_1 _) (bP (io (io (io (A2 ty (yI (io (BG zi rfl ?_))))))));simp only[Vy.2.2,if_true];show wpAny (model prog w) _ (if (Value.ref d==Value.none)=true then _ else _) _ _ s;rw[yK (V3 d)];refine bP (io (zE yo yd ?_));rw[if_neg (by simp)];refine bP (wpAny_bind (wpAny_dictEpoch yo yd ?_));rw[if_neg (by simp)];refine wpAny_pure ?_;simp only[show ¬((i:Int)<0)from by omega,if_false,Int.toNat_natCast,Array.getElem?_eq_none zx];refine io (io (A2 ty (yI ?_)));show wpAny (model prog w) _ (setField (.ref it) 2 .none >>= fun _=>_) _ _ s;refine wpAny_bind (wpAny_setField zi rfl (by simp) (Xr (by simpa using zh) fun g e k ty=>⟨ty,zq g fun b u nb eb=>k b u ?_⟩));exact(Ao _ _ (Ne.symm nb)).trans eb
end
def beh(I n:Nat):List Addr:=(List.range n).map fun j=>I+1+j
theorem pC(I n:Nat):beh I (n+1)=beh I n++[I+1+n]:=by
 unfold beh;rw[List.range_succ,zk];rfl
theorem jE(I n:Nat):(beh I n).length=n:=by
 unfold beh;rw[pi,Bt]
theorem qd(I j:Nat):I+1+j≠I:=by omega
abbrev lsO(xs:Array Value)(c:Nat):Obj:={cls:=.type "list",data:=.seq xs c}
section
variable{prog:Program}{w:World}{A:Around}{E:Value→Shared→Prop}{s:Shared}{d:Addr}{ep:Nat}{es:Array DictEntry}{R:Result→Shared→Prop}
theorem hJ{S I:Addr}(zh:A.handled=none)(hSI:S<I)(hSd:d≠S)(hId:d≠I)(hn:es.size≤sizeLine)(res:Value){h0:Heap}(fin:∀(h:Heap) (tk c:Nat),(∀b o,b≠S→b≠I→h0.get? b=some o→h.get? b=some o)→h.get? S=some (lsO ((beh I es.size).map Value.ref).toArray c)→(∀(j:Nat) (hj:j<es.size),h.get? (I+1+j)=some (duo es[j].key es[j].val))→R (.ok (.ret res)) {s with heap:=h,toks:=tk}):
  ∀(k i:Nat)(h:Heap)(tk c:Nat)(f0 f1 ok ov:Value),es.size-i=k→i≤es.size→ItI h I d i es.size ep f0 f1 ok ov→(f0=.none∨∃(a:Addr)(b:Bool),f0=rawInt a∧f1=.bool b)→RwD h d es ep→(∀b o,b≠S→b≠I→h0.get? b=some o→h.get? b=some o)→
   h.get? S=some (lsO ((beh I i).map Value.ref).toArray c)→(∀(j:Nat)(hj:j<es.size),j<i→h.get? (I+1+j)=some (duo es[j].key es[j].val))→h.objs.size=I+1+i→
   codeAny (model prog w) A (.builtin "list.extend.loop" ⟨[.ref S,.ref I,res],[]⟩) R {s with heap:=h,toks:=tk}:=by
 have ne:S≠I:=y4 hSI;intro k
 induction k with
 |zero=>
  intro i h tk c f0 f1 ok ov hk hi st alt hD keep hS tp hz;obtain rfl:i=es.size:=by omega
  refine Aj PySem.F.entry_extend_loop ?_;rw[zY AX _];refine wpAny_bind (m:=pyNext (.ref I)) (kK (s:={s with heap:=h,toks:=tk}) (A:=A.in1) (by simpa using zh) st hD (Nat.le_refl _) fun g x=>wpAny_pure (fin g tk c (fun b o h1 h2 e=>x b o h2 (keep b o h1 h2 e)) (x S _ ne hS) fun j hj=>x _ _ (qd I j) (tp j hj hj)))
 |succ k ih=>
  intro i h tk c f0 f1 ok ov hk hi st alt hD keep hS tp hz;have Cz:i<es.size:=by omega
  refine Aj PySem.F.entry_extend_loop ?_;rw[zY AX _];refine io (m:=pyNext (.ref I)) (j6 (s:={s with heap:=h,toks:=tk}) (A:=A.in1) st alt hD Cz fun g x0 x1 x y CI al tg zg kp=>?_);dsimp only at tg zg kp al⊢;rw[hz]at tg zg⊢;have hSl:S<h.objs.size:=yV hS;have hS':=kp S _ ne hS;have up:∀b o,b≠S→g.get? b=some o→(g.update S (Obj.mapSeq (·.push (Value.ref (I+1+i))))).get? b=some o:=fun b o nb e=>(Ao _ _ (Ne.symm nb)).trans e;have hl:((beh I i).map Value.ref).toArray.size=i:=by rw[zD,pi,jE]
  obtain⟨c2,u2⟩:∃c2,(g.update S (Obj.mapSeq (·.push (Value.ref (I+1+i))))).get? S=some (lsO ((beh I (i+1)).map Value.ref).toArray c2):=by
   have u:=Bm (c:="list") hS' (fun x=>x.push (Value.ref (I+1+i)));rw[List.push_toArray]at u;rw[pC,zk];exact⟨_,u⟩
  show wpAny (model prog w) A.in1 (updateSeq S (·.push (Value.ref (I+1+i))) >>= fun _=>_) _ _ _;refine io (wpAny_updateSeq hS' rfl (yI ⟨Bg AX _,ih (i+1) _ tk c2 x0 x1 x y (by omega) Cz (up I _ (Ne.symm ne) CI) (.inr al) (hD.at fun o e=>up d o hSd (kp d o hId e)) (fun b o h1 h2 e=>up b o h1 (kp b o h2 (keep b o h1 h2 e))) u2 (fun j hj ji=>?_) ?_⟩) (by rw[hl];omega) (by rw[AK,hl];omega))
  ·by_cases z:j=i
   ·subst z;exact up _ _ (Ah (zH hSI (by omega))) tg
   ·exact up _ _ (Ah (zH hSI (by omega))) (kp _ _ (qd I j) (tp j hj (by omega)))
  ·rw[BH,zg];omega
theorem uO:(Value.type "dict_items" == Value.type "list")=false∧(Value.type "dict_items" == Value.type "tuple")=false:=by decide
theorem Nj{S r:Addr}(zh:A.handled=none)(zv:s.heap.IsItemsView r d)(zm:RwD s.heap d es ep)(hSr:S≠r)(hSd:d≠S)(hn:es.size≤sizeLine)(res:Value){c0:Nat}(eS:s.heap.get? S=some (lsO #[] c0))(fin:∀(h:Heap) (tk c:Nat),(∀b o,b≠S→s.heap.get? b=some o→h.get? b=some o)→h.get? S=some (lsO ((beh s.heap.objs.size es.size).map Value.ref).toArray c)→(∀(j:Nat) (hj:j<es.size),h.get? (s.heap.objs.size+1+j)=some (duo es[j].key es[j].val))→R (.ok (.ret res)) {s with heap:=h,toks:=tk}):
  wpAny (model prog w) A.in1 (Builtin.List.listExtendWith (.ref S) (.ref r) res) (fun fin s'=>match fin with
   |.done f=>R (.ok f) s'
   |.again c'=>c'.quiet=true∧codeAny (model prog w) A c' R s') (fun e s'=>R (.error e) s') s:=by
 have lS:S<s.heap.objs.size:=yV eS;unfold Builtin.List.listExtendWith;refine io (BI zv.typeIs ?_);have sm:Builtin.List.listSameRef (.ref S) (.ref r)=false:=by
  unfold Builtin.List.listSameRef;simpa using hSr
 rw[sm,uO.1,uO.2,yK (by decide)];refine io (j5 zv zm fun g1 st z1 kp=>?_);refine io (zK (W.kdx_hint (s:={s with heap:=g1}) (let ⟨o,ho,hc,_⟩:=zv;⟨o,kp _ _ ho,hc⟩) ?_));refine Uu (by kernel_rfl) (io (AM ?_));unfold Builtin.List.listTouch;skip;have u1:=Bm (c:="list") (kp _ _ eS) (fun x=>x.push Value.none);have u2:=Bm (c:="list") u1 (fun x=>x.pop);refine wpAny_bind (wpAny_bind (listUpdate_at (kp _ _ eS) rfl (listUpdate_at u1 rfl ?_ (by simp[sizeLine_eq]) (by simp)) (by simp) (by simp[sizeLine_eq])));obtain⟨c2,u3⟩:∃c2,((g1.update S (Obj.mapSeq fun x=>x.push Value.none)).update S (Obj.mapSeq fun x=>x.pop)).get? S=some (lsO #[] c2):=⟨_,u2⟩;have k2:∀b o,b≠S→g1.get? b=some o→((g1.update S (Obj.mapSeq fun x=>x.push Value.none)).update S (Obj.mapSeq fun x=>x.pop)).get? b=some o:=fun b o nb e=>by
  rw[BA _ _ _ _ nb,BA _ _ _ _ nb];exact e
 have z2:((g1.update S (Obj.mapSeq fun x=>x.push Value.none)).update S (Obj.mapSeq fun x=>x.pop)).objs.size=s.heap.objs.size+1:=by rw[BH,BH,z1]
 generalize (g1.update S (Obj.mapSeq fun x=>x.push Value.none)).update S (Obj.mapSeq fun x=>x.pop)=g2 at u3 k2 z2;refine yI ⟨Bg AX _,hJ (s:=s) (es:=es) (ep:=ep) (h0:=s.heap) zh lS hSd (y4 zm.lt) hn res (fun h tk c kh hS tp=>fin h tk c (fun b o nb e=>kh b o nb (y4 (yV e)) e) hS tp) es.size 0 g2 s.toks c2 .none (.bool false) .none .none (Nat.sub_zero _) (Aa _) (k2 _ _ (Ah lS) st) (.inl rfl) (zm.at fun o e=>k2 d o hSd (kp d o e)) (fun b o nb _ e=>k2 b o nb (kp b o e)) u3 (fun j hj ji=>absurd ji (Nat.not_lt_zero j)) z2⟩
def ColI(s:Shared)(es:Array DictEntry)(q:Result)(s':Shared):Prop:=∃(g:Heap)(tk c:Nat),q=.ok (.ret (.ref s.heap.objs.size))∧s'={s with heap:=g,toks:=tk}∧(∀b o,s.heap.get? b=some o→g.get? b=some o)∧
 g.get? s.heap.objs.size=some (lsO ((beh (s.heap.objs.size+1) es.size).map Value.ref).toArray c)∧∀(j:Nat)(hj:j<es.size),g.get? (s.heap.objs.size+1+1+j)=some (duo es[j].key es[j].val)
theorem P8{r:Addr}{C:List Value→Shared→Prop}(zh:A.handled=none)(zv:s.heap.IsItemsView r d)(zm:RwD s.heap d es ep)(hn:es.size≤sizeLine)(h:∀(g:Heap) (tk:Nat),(∀b o,s.heap.get? b=some o→g.get? b=some o)→(∀(j:Nat) (hj:j<es.size),g.get? (s.heap.objs.size+1+1+j)=some (duo es[j].key es[j].val))→C ((beh (s.heap.objs.size+1) es.size).map Value.ref) {s with heap:=g,toks:=tk}):wpAny (model prog w) A (collect (.ref r)) C E s:=by
 have lr:r<s.heap.objs.size:=let ⟨_,e,_⟩:=zv;yV e
 unfold collect;refine io (wpAny_runValue (Aj entry_proto_collect' ?_));rw[zY PySem.F.plain_proto_collect _];refine io (m:=newList []) (AH (yI ⟨Bg AN _,Aj entry_list_iadd' ?_⟩));rw[zY AN _];have own:(s.heap.push {cls:=.type "list",data:=.seq ([]:List Value).toArray}).get? s.heap.objs.size=some (lsO #[] 0):=yY _ rfl;have sz:(s.heap.push {cls:=.type "list",data:=.seq ([]:List Value).toArray}).objs.size=s.heap.objs.size+1:=Cn _ _;have run:=Nj (prog:=prog) (w:=w) (A:=A) (s:={s with heap:=s.heap.push {cls:=.type "list",data:=.seq ([]:List Value).toArray}}) (R:=ColI s es) (es:=es) (ep:=ep) (r:=r) zh (let ⟨o,e,x⟩:=zv;⟨o,yJ _ e,x⟩) (zm.at fun o e=>yJ _ e) (Ah lr) (y4 zm.lt) hn (.ref s.heap.objs.size) own
  (fun g tk c hk hS tp=>⟨g,tk,c,rfl,rfl,fun b o e=>hk b o (y4 (yV e)) (yJ _ e),by rw[←sz];exact hS,fun j hj=>by rw[←sz];exact tp j hj⟩)
 refine Af run (fun fin s' y=>?_) (fun _ _ y=>by obtain⟨_,_,_,e,_⟩:=y;cases e);have last:∀{g:Heap}{tk c:Nat},(∀b o,s.heap.get? b=some o→g.get? b=some o)→g.get? s.heap.objs.size=some (lsO ((beh (s.heap.objs.size+1) es.size).map Value.ref).toArray c)→(∀(j:Nat)(hj:j<es.size),g.get? (s.heap.objs.size+1+1+j)=some (duo es[j].key es[j].val))→
   wpAny (model prog w) A (load s.heap.objs.size >>= fun u=>match u.data with
    |.seq xs _=>pure xs.toList
    |_=>unsupported "internal:collect") C E {s with heap:=g,toks:=tk}:=fun{g tk c} hk hS tp=>io (Cc hS (yI (by rw[List.toList_toArray];exact h g tk hk tp)))
 cases fin with
 |done f=>
  obtain⟨g,tk,c,e,rfl,hk,hS,tp⟩:=y;cases e;exact last hk hS tp
 |again c1=>
  refine⟨y.1,BZ y.2 fun q s2 z=>?_⟩;obtain⟨g,tk,c,rfl,rfl,hk,hS,tp⟩:=z;exact last hk hS tp
end
def leP(a b:(Int×Int)×Int):Bool:=decide (a.1.1<b.1.1) || (decide (a.1.1=b.1.1) && (decide (a.1.2<b.1.2) || (decide (a.1.2=b.1.2) && decide (a.2≤b.2))))
theorem Ts{a b:(Int×Int)×Int}:leP a b=true↔a.1.1<b.1.1∨(a.1.1=b.1.1∧(a.1.2<b.1.2∨(a.1.2=b.1.2∧a.2≤b.2))):=by
 unfold leP;simp only[Bool.or_eq_true,Bool.and_eq_true,decide_eq_true_iff]
theorem lv(a b:(Int×Int)×Int):(leP a b || leP b a)=true:=by
 rw[Bool.or_eq_true,Ts,Ts];omega
theorem k_(a b c:(Int×Int)×Int)(h1:leP a b=true)(h2:leP b c=true):leP a c=true:=by
 rw[Ts]at *;omega
theorem gx{a b:(Int×Int)×Int}(h1:leP a b=true)(h2:leP b a=true):a=b:=by
 rw[Ts]at h1 h2;exact Ad (Ad (by omega) (by omega)) (by omega)
def aA(ps:Sps):Sps:=ps.mergeSort leP
theorem Zy(ps:Sps):(aA ps).Perm ps:=List.mergeSort_perm _ _
theorem Rq(ps:Sps):(aA ps).Pairwise (fun a b=>leP a b=true):=List.pairwise_mergeSort k_ lv ps
theorem N0{α:Type}{le:α→α→Bool}(anti:∀{a b},le a b=true→le b a=true→a=b):∀{l m:List α},l.Perm m→l.Pairwise (fun a b=>le a b=true)→m.Pairwise (fun a b=>le a b=true)→l=m
 | [],m,p,_,_=>List.Perm.nil_eq p
 |a::l,[],p,_,_=>absurd p.length_eq (by simp)
 |a::l,b::m,p,h1,h2=>by
  have e:a=b:=by
   rcases y8.mp (p.mem_iff.mp zL)with q | q
   ·exact q
   ·rcases y8.mp (p.mem_iff.mpr zL)with r | r
    ·exact r.symm
    ·exact anti ((zR.mp h1).1 b r) ((zR.mp h2).1 a q)
  subst e;rw[N0 anti ((List.perm_cons a).mp p) (zR.mp h1).2 (zR.mp h2).2]
theorem gB{α:Type}(F:Addr→α→Prop)(fu:∀{a k l},F a k→F a l→k=l){le:α→α→Bool}(anti:∀{a b},le a b=true→le b a=true→a=b){as bs:List Addr}{ks srt:List α}(h:Paired F as ks)(p:bs.Perm as)(pw:bs.Pairwise fun a b=>∀k l,F a k→F b l→le k l=true)(sp:srt.Perm ks)(sw:srt.Pairwise fun a b=>le a b=true):Paired F bs srt:=by
 classical
 cases ks with
 |nil=>
  cases h;rw[p.eq_nil,sp.eq_nil];exact .nil
 |cons k0 ks0=>
  let key:Addr→α:=fun a=>if h:∃k,F a k then Classical.choose h else k0
  have kat:∀{a k},F a k→key a=k:=fun{a k} f=>by
   have ex:∃k,F a k:=⟨k,f⟩;show(if h:∃k,F a k then Classical.choose h else k0)=k;rw[dif_pos ex];exact fu (Classical.choose_spec ex) f
  have all:∀{l:List Addr}{m:List α},Paired F l m→l.map key=m∧∀a∈l,F a (key a):=fun{l m} r=>by
   induction r with
   |nil=>exact⟨rfl,fun _ h=>nomatch h⟩
   | @cons b k l m e _ ih=>
    have kb:=kat e;refine⟨by rw[yQ,kb,ih.1],fun c hc=>?_⟩
    rcases y8.mp hc with z | hc
    ·rw[z,kb];exact e
    ·exact ih.2 c hc
  obtain⟨e1,e2⟩:=all h;have atb:∀b∈bs,F b (key b):=fun b hb=>e2 b (p.mem_iff.mp hb);have back:∀{l:List Addr},(∀b∈l,F b (key b))→Paired F l (l.map key):=fun{l} hl=>by
   induction l with
   |nil=>exact .nil
   |cons b l ih=>exact .cons (hl b (.head _)) (ih fun c hc=>hl c (.tail _ hc))
  have eq:bs.map key=srt:=N0 anti ((p.map key).trans (by rw[e1];exact sp.symm)) (AU.mpr (pw.imp_of_mem fun{a b} ha hb q=>q _ _ (atb a ha) (atb b hb))) sw;rw[←eq];exact back atb
def FT(H:Hp)(a:Addr)(p:(Int×Int)×Int):Prop:=∃b:Addr,H a=some (.tup [.ref b,.int p.2])∧H b=some (.tup [.int p.1.1,.int p.1.2])
theorem FT.fu{H:Hp}{a:Addr}{p q:(Int×Int)×Int}(h:FT H a p)(g:FT H a q):p=q:=by
 obtain⟨b,e1,e2⟩:=h;obtain⟨c,f1,f2⟩:=g;rw[e1]at f1;injection f1 with f1
 injection f1 with f1
 injection f1 with g1 g2
 injection g1 with g1
 injection g2 with g2 _
 injection g2 with g2
 subst g1;rw[e2]at f2;injection f2 with f2
 injection f2 with f2
 injection f2 with k1 k2
 injection k1 with k1
 injection k2 with k2 _
 injection k2 with k2
 exact Ad (Ad k1 k2) g2
theorem iz{H:Hp}{as:List Addr}{ps:Sps}(h:Paired (FT H) as ps):TPsAt H (as.map V.ref) (af ps):=by
 induction h with
 |nil=>exact .nil
 |cons h r ih=>
  obtain⟨_,e1,e2⟩:=h;exact .cons e1 e2 ih
theorem xP{p q:(Int×Int)×Int}(h:(bN (bN aD aD) aD).blt q p=false):leP p q=true:=by
 rw[Ts];have h:b_ (bN aD aD) aD q p=false:=h;by_cases c:p.1.1<q.1.1
 ·exact .inl c
 have no:∀{z:Bool},z=true→z=false→False:=fun a b=>by rw[a]at b;cases b
 have n1:¬q.1.1<p.1.1:=fun c=>no (Yk.mpr (.inl (Yk (O:=aD) (U:=aD).mpr (.inl (yX c))))) h;have e1:p.1.1=q.1.1:=by omega
 refine .inr ⟨e1,?_⟩;have n2:¬q.1.2<p.1.2:=fun c=>no (Yk.mpr (.inl (Yk (O:=aD) (U:=aD).mpr (.inr ⟨e1.symm,yX c⟩)))) h;by_cases c2:p.1.2<q.1.2
 ·exact .inl c2
 have e2:p.1.2=q.1.2:=by omega
 refine .inr ⟨e2,?_⟩;have n3:¬q.2<p.2:=fun c=>no (Yk.mpr (.inr ⟨Ad e1.symm e2.symm,yX c⟩)) h;omega
section
variable{X:Cx}
def sL:List V→Hp→VK→Prop:=fun xs H Q=>∃(v d:Addr)(ps:Sps),xs=[.ref v]∧H v=some (bV v d)∧H d=some (.dT (af ps))∧ps.length<1000∧
 ∀(H1:Hp)(as:List Addr),Same H H1→Paired (FT H1) as (aA ps)→∀q,H1 q=none→H q=none→Q (.ref q) (upd H1 q (.lst (as.map V.ref)))
theorem og{H:Hp}:∀{ps:Sps}{xs:List TKv}{j:Nat}{p:(Int×Int)×Int},KT H (af ps) xs→ps[j]?=some p→∃x,xs[j]?=some x∧H x.2.1=some (.tup [.int p.1.1,.int p.1.2])∧∃t,x.2.2=.int p.2 t:=fun{ps xs j p} kt e=>by
 have e2:(af ps)[j]?=some (kk p.1,.int p.2):=by unfold af;rw[zc,e];rfl
 obtain⟨x,h1,h2,t,h3⟩:=Ni kt e2;exact⟨x,h1,h2,t,h3⟩
theorem gJ(hc:X.calm=true)(hu:X.A.units+64<cLine):aK X (.builtin "sorted") sL:=by
 intro Cr s σ H xs us Q I rx h;obtain⟨v,d,ps,rfl,hv,hd,h64,q⟩:=h;obtain⟨u,rfl,ru⟩:=Xx rx;cases ru;obtain⟨_,lo,ks,es,ep,kt,raw,ek,ev,sz⟩:=Td I.hok (.inl hd);obtain⟨view,_⟩:=(show ObjOk X.prog X.w H s.heap v (bV v d)from I.hok v _ hv);rw[Zs]at sz;have kl:ks.length=ps.length:=by rw[←zd kt,Zs]
 let n:=s.heap.objs.size
 let L:Hp:=fun b=>if n+2≤b then(match ks[b-(n+2)]?,ps[b-(n+2)]? with
  |some x,some p=>some (.tup [.ref x.2.1,.int p.2])
  |_,_=>none)else none
 have Lat:∀(j:Nat)(x:TKv)(p:(Int×Int)×Int),ks[j]?=some x→ps[j]?=some p→L (n+1+1+j)=some (.tup [.ref x.2.1,.int p.2]):=fun j x p h1 h2=>by
  show(if n+2≤n+1+1+j then _ else none)=_;rw[yL (by omega),show n+1+1+j-(n+2)=j by omega,h1,h2]
 refine Pt (uS (prog:=X.prog) (w:=X.w)) (Tc (prog:=X.prog) (w:=X.w)) FTI (fun{Cr σ H s a k} I h=>?_) (((0:Int),(0:Int)),(0:Int)) hu (fun{E C} hC=>P8 (A:=X.A.in1) (by simpa using I.ok.hd hc) view raw (Ze (by omega)) fun g tk kp tp=>?_)
 ·obtain⟨b,i,j,n,h,hb,rfl⟩:=h;obtain⟨o,m,u,v,e1,e2,e3,ru,⟨t',rv⟩⟩:=iD I h;obtain⟨o2,m2,u2,v2,g1,g2,g3,⟨t2,ru2⟩,⟨t3,rv2⟩⟩:=iD I hb;exact⟨a,o,m,u,v,rfl,e1,e2,e3,⟨b,o2,m2,u2,v2,ru,g1,g2,g3,⟨t2,ru2⟩,⟨t3,rv2⟩⟩,⟨t',rv⟩⟩
 have ent:∀(j:Nat)(hj:j<es.size)(x:TKv),ks[j]?=some x→es[j].key=.ref x.2.1∧es[j].val=x.2.2:=fun j hj x hx=>by
  have q1:(es.toList.map DictEntry.key)[j]?=some es[j].key:=by rw[zc,yS,yN hj];rfl
  have q2:(es.toList.map DictEntry.val)[j]?=some es[j].val:=by rw[zc,yS,yN hj];rfl
  rw[ek,zc,zc,hx]at q1;rw[ev,zc,hx]at q2;exact⟨(zT q1).symm,(zT q2).symm⟩
 have nw:∀b o,n≤b→L b=some o→ObjOk X.prog X.w (over H n L) g b o:=fun b o hb e=>by
  have e:(if n+2≤b then(match ks[b-(n+2)]?,ps[b-(n+2)]? with
   |some x,some p=>some (HO.tup [.ref x.2.1,.int p.2])
   |_,_=>none)else none)=some o:=e
  by_cases hb2:n+2≤b
  ·rw[yL hb2]at e;have hj:b-(n+2)<ps.length:=by
    by_cases z:b-(n+2)<ps.length
    ·exact z
    ·rw[BQ (Nat.not_lt.mp z)]at e;cases z2:ks[b-(n+2)]? <;> rw[z2]at e <;> cases e
   have hp:ps[b-(n+2)]?=some ps[b-(n+2)]:=zF hj;obtain⟨x,hx,_,t,hv⟩:=og kt hp;rw[hx,hp]at e;cases e;have hje:b-(n+2)<es.size:=by omega
   obtain⟨k1,k2⟩:=ent _ hje x hx;have tb:=tp _ hje;rw[k1,k2,hv,show s.heap.objs.size+1+1+(b-(n+2))=b by show n+1+1+(b-(n+2))=b;omega]at tb;exact⟨Ze (leN rfl),[.ref x.2.1,.int _ t],.cons rfl (.cons ⟨t,rfl⟩ .nil),⟨_,tb,⟨rfl,rfl⟩,_,rfl⟩⟩
  ·rw[yK hb2]at e;cases e
 obtain⟨I',sm⟩:=I.over (t':=tk) kp nw;have pr:Paired (FT (over H n L)) (beh (n+1) es.size) ps:=by
  have go:∀(l:Sps)(m:Nat),(∀j p,l[j]?=some p→ps[m+j]?=some p)→m+l.length=ps.length→Paired (FT (over H n L)) ((List.range l.length).map fun j=>n+1+1+(m+j)) l:=fun l=>by
   induction l with
   |nil=>intro m _ _;exact .nil
   |cons p l ih=>
    intro m hl hm;have e0:=hl 0 p rfl;obtain⟨x,hx,hb,_⟩:=og kt e0;have q:=ih (m+1) (fun j p e=>by have:=hl (j+1) p (by simpa using e);rwa [show m+(j+1)=m+1+j by omega]at this) (by rw[List.length_cons]at hm;omega);rw[zw,List.range_succ_eq_map,yQ,zf];refine .cons ⟨x.2.1,?_,sm _ _ hb⟩ ?_
    ·rw[eW (by omega)];exact Lat (m+0) x p hx e0
    ·have ef:((fun j=>n+1+1+(m+j))∘Nat.succ)=fun j=>n+1+1+(m+1+j):=by
      funext j
      show n+1+1+(m+(j+1))=_;omega
     rw[ef];exact q
  have:=go ps 0 (fun j p e=>by rwa [A5]) (by omega);rw[sz];unfold beh;simpa using this
 refine hC g tk (over H n L) (beh (n+1) es.size) I' (by rw[jE];omega) (fun a ha=>?_) fun bs bp pw q0 nq=>?_
 ·have:∀{l:List Addr}{m:Sps},Paired (FT (over H n L)) l m→a∈l→∃k,FTI (over H n L) a k:=fun{l m} r=>by
   induction r with
   |nil=>intro h;exact nomatch h
   |cons e _ ih=>
    intro h
    rcases y8.mp h with z | h
    ·obtain⟨b,e1,e2⟩:=e;rw[z];exact⟨_,b,_,_,_,e1,e2,rfl⟩
    ·exact ih h
  exact this pr ha
 ·refine q (over H n L) bs sm (gB (FT (over H n L)) (fun f g=>f.fu g) (fun a b=>gx a b) pr bp (pw.imp fun{a b} h k l fk fl=>?_) (Zy ps) (Rq ps)) q0 nq ?_
  ·obtain⟨b1,e1,e2⟩:=fk;obtain⟨b2,f1,f2⟩:=fl;exact xP (h k l ⟨b1,_,_,_,e1,e2,rfl⟩ ⟨b2,_,_,_,f1,f2,rfl⟩)
  ·by_cases z:H q0=none
   ·exact z
   ·obtain⟨u,hu⟩:=Option.ne_none_iff_exists'.mp z;rw[sm _ _ hu]at nq;cases nq
end
section
variable{P:Program}{w:World}{A:Around}{E:Value→Shared→Prop}{s:Shared}{a b:Addr}{es:Array DictEntry}{ep e2:Nat}
theorem p6{nm:String}{Q:Bool→Shared→Prop}(ha:(a==sysModules)=false)(hb:(b==sysModules)=false)(ra:RwD s.heap a es ep)(rb:RwD s.heap b #[] e2)(h:Q (decide (es.size=0)) s):wpAny (model P w) A (Builtin.Dict.samePairs nm a b) Q E s:=by
 obtain⟨oa,ga,_,qa⟩:=ra;obtain⟨ob,gb,_,qb⟩:=rb;have sh:∀{d:Addr}{R:Unit→Shared→Prop},(d==sysModules)=false→R () s→wpAny (model P w) A (Builtin.Dict.showsAll d) R E s:=fun{d R} hd hr=>by
  unfold Builtin.Dict.showsAll;rw[yK (by rw[hd];decide)];exact yI hr
 unfold Builtin.Dict.samePairs;refine io (sh ha (io (sh hb (io (zE ga qa (io (zE gb qb ?_)))))));by_cases hl:es.size=0
 ·obtain rfl:es=#[]:=Array.eq_empty_of_size_eq_zero hl;rw[if_neg (by simp)];refine io (Bo ga qa (io ?_));rw[A9];exact yI (yI h)
 ·rw[if_pos (by simpa using hl)];rw[zA hl]at h;exact io (AM (yI h))
theorem Nc(ha:(a==sysModules)=false)(hb:(b==sysModules)=false):MeetsIn P w (Builtin.«dict.__ne__» ⟨[.ref a,.ref b],[]⟩) (fun _ R s=>RwD s.heap a es ep∧RwD s.heap b #[] e2∧R (.ok (.ret (.bool (!decide (es.size=0))))) s):=
 .of_wp fun A R s ⟨ra,rb,h⟩=>by
  show wpAny (model P w) _ (Builtin.Dict.dictSlotArgs "__ne__" ⟨[.ref a,.ref b],[]⟩ >>= fun _=>_) _ _ s;refine io ?_;unfold Builtin.Dict.dictSlotArgs;refine io (Av ra.typeIs (show wpAny (model P w) _ (pure (Value.ref a,Value.ref b)) _ _ s from yI (io (BF rb.typeIs isSubtype_dict_dict ?_))));rw[yK (by decide)];show wpAny (model P w) _ (Builtin.Dict.samePairs _ a b >>= fun _=>_) _ _ s;refine io (p6 ha hb ra rb ?_);have bt:∀c:Bool,(c==false)=!c:=fun c=>by cases c <;> rfl
  rw[bt];exact yI ⟨_,rfl,h⟩
end
theorem rP{X:Cx}(hu:X.A.units<cLine):OpR X (compareOp .NotEq) (fun x y H Q=>∃(a b:Addr)(kvs:List (List Key×V)),x=.ref a∧y=.ref b∧H a=some (.dT kvs)∧H b=some (.dT [])∧Q (.bl (!decide (kvs.length=0))) H):=by
 intro Cr s σ H x y v u Q I rx ry h;obtain⟨a,b,kvs,rfl,rfl,ea,eb,q⟩:=h;cases rx;cases ry;obtain⟨_,la,_,es,ep,_,ra,_,_,sz⟩:=Td I.hok (.inl ea);obtain⟨_,lb,_,e2,p2,_,rb,_,_,s2⟩:=Td I.hok (.inl eb);obtain rfl:e2=#[]:=Array.eq_empty_of_size_eq_zero s2;refine wpAny_richCompare_same_room (op:=.NotEq) ra.typeIs rb.typeIs PySem.F.slot_dict_ne (B4 PySem.F.slot_dict_ne ra.typeIs PySem.F.entry_dict_ne (PySem.F.args_dict_ne_2 _ _) (Nc la lb) ⟨ra,rb,?_⟩) hu;refine⟨(fun z=>nomatch z),.bl _,H,I,rfl,?_⟩;rw[sz];exact q
theorem rO{X:Cx}(hu:X.A.units+64<cLine):OpR X (compareOp .In) (fun x y H Q=>∃(a:Addr)(o:Option V),y=.ref a∧DGet H a x o∧Q (.bl o.isSome) H):=by
 intro Cr s σ H x y v u Q I rx ry h;obtain⟨a,o,rfl,g,q⟩:=h;cases ry;exact d_in (by omega) I g rx fun s' I'=>⟨.bl _,H,I',rfl,q⟩
theorem O5{it t:Addr}{items:Array Value}(hne:t≠it):∀(n i:Nat)(s:Shared)(Q:List Value→Shared→Prop),s.heap.IsListIter it t i→s.heap.IsList t items→i+n≤items.size→
  (∀h',h'.IsListIter it t (i+n)→Heap.SameBut it s.heap h'→Q ((items.toList.drop i).take n) {s with heap:=h'})→wpAny (model prog w) A (draw (.ref it) n) Q E s
 | 0,i,s,Q,hit,_,_,hQ=>by
  show wpAny _ _ (pure []) Q E s;exact wpAny_pure (by simpa using hQ s.heap hit (Heap.SameBut.refl ..))
 |n+1,i,s,Q,hit,ht,hle,hQ=>by
  have Cz:i<items.size:=by omega
  show wpAny _ _ (pyNext (.ref it) >>= _) Q E s;refine wpAny_bind (wpAny_pyNext_list_item hit ht (x:=items[i]) (by simp[Cz]) fun h1 hit1 hs1=>?_);refine io (zK (O5 hne n (i+1) _ _ hit1 (ht.extBut hs1.extBut hne) (by omega) fun h2 hit2 hs2=>yI ?_));have hd:items.toList.drop i=items[i]::items.toList.drop (i+1):=by simp[List.drop_eq_getElem_cons,Cz]
  have:=hQ h2 (by rw[show i+(n+1)=i+1+n by omega];exact hit2) (hs1.trans hs2);rw[hd,List.take_succ_cons]at this;exact this
theorem Ty{env:Env}{elts:List Expr}{x1}{pos:Pos}{t:Addr}{items:Array Value}{Q:Unit→Shared→Prop}(hh:A.handled=none)(ht:s.heap.IsList t items)(hn:(assignEach elts env).length=items.size)(hstar:(assignEach elts env).findIdx? (·.1)=none)(h:∀h',Heap.ExtBut s.heap.objs.size s.heap h'→wpAny (model prog w) A (assignInOrder ((assignEach elts env).map (·.2)) items.toList) Q E {s with heap:=h'}):
  wpAny (model prog w) A (assign (.Tuple elts x1 pos) env (.ref t)) Q E s:=by
 rw[assign_Tuple];refine io (wpAny_standAt ?_);unfold unpack;rw[hn,hstar];refine io (zK ?_);have Cz:t≠s.heap.objs.size:=by obtain⟨o,ho,_⟩:=ht;exact y4 (yV ho)
 unfold unpackItems;refine io ?_;unfold notIterableAtAll;refine io (B9 ht.typeIs slot_list_iter.lookup ?_);refine yI ?_;simp only[Bool.false_eq_true,if_false];refine io (zK (BR ht ?_));have htp:(s.heap.push {cls:=.type "list_iterator",data:=.fields #[.ref t,.int 0 0]}).IsList t items:=by
  obtain⟨o,ho,r⟩:=ht;exact⟨o,yJ _ ho,r⟩
 refine io (zK (O5 Cz items.size 0 _ _ ⟨_,yY _ rfl,rfl,rfl⟩ htp (by omega) fun h1 hit1 hs1=>?_));have hall:List.take items.size (List.drop 0 items.toList)=items.toList:=by
  rw[List.drop_zero];exact List.take_of_length_le (by simp)
 rw[hall];rw[if_neg (by simp)];have ht1:h1.IsList t items:=htp.extBut hs1.extBut Cz;refine wpAny_bind (wpAny_holding (wpAny_pyNext_list_end hh hit1 ht1 (by simp) fun h2 he2=>?_));simp only[Option.isSome_none,Bool.false_eq_true,if_false];exact yI (h h2 fun b o hb e=>he2 b o hb (hs1.extBut b o hb (yJ _ e)))
section
variable{X:Cx}{pos:Pos}
def gLst(K:W.Frag)(n:Nat)(t:TGs):TG:=fun v σ H Q=>∃a xs,v=.ref a∧SqL K H a xs∧xs.length=n∧t xs σ H Q
theorem vv{es:List Expr}{k:Nat}{t:TGs}{n:Nat}(hc:X.calm=true)(h:PGs X es t)(hn:(assignEach es X.env).length=n:=by rfl)(hst:(assignEach es X.env).findIdx? (·.1)=none:=by rfl):PG X (.Tuple es k pos) (gLst X.K n t):=by
 intro Cr s σ H v u Q I r hw;obtain⟨a,xs,e1,hq,hl,hw⟩:=hw;subst e1;cases r;obtain⟨its,rv,p,hz⟩:=I.list hq;refine Ty (I.ok.hd hc) p.isList (by simp[hn,←hl,rv.length]) hst fun h' hx=>?_;have I1:Inv X Cr σ H {s with heap:=h'}:=I.kept (t':=s.toks) fun b o e=>hx b o (y4 (yV e)) e;exact h Cr _ σ H xs _ Q I1 (by simpa using rv) hw
end
section
variable{X:Cx}
def x_(i:Nat):TE:=fun σ H Q=>match List.getD σ i none with
 |some v=>Q v H
 |none=>False
theorem qv{e:Expr}{i:Nat}(h:PE X e (wB i)):PE X e (x_ i):=fun Cr s σ H Q I q=>h Cr s σ H Q I (by
 unfold x_ at q;cases e1:List.getD σ i none with
 |none=>rw[e1]at q;exact q.elim
 |some v=>
  rw[e1]at q;refine⟨v,?_,q⟩;unfold List.getD at e1;cases e2:σ[i]? with
  |none=>rw[e2]at e1;cases e1
  |some o=>rw[e2]at e1;exact Ak some e1)
def qI(C:Int→Int→Prop)(g:Int→Int→V):R2:=fun x y H Q=>match x,y with
 |.int i,.int j=>C i j∧Q (g i j) H
 |_,_=>False
def qI0(g:Int→Int→V):R2:=fun x y H Q=>match x,y with
 |.int i,.int j=>Q (g i j) H
 |_,_=>False
theorem qi{C:Int→Int→Prop}{g:Int→Int→V}{f:Value→Value→Sem Value}(h:OpR X f (rI C g)):OpR X f (qI C g):=fun Cr s σ H x y v u Q I rx ry q=>h Cr s σ H x y v u Q I rx ry (by
 cases x <;> cases y <;> first | exact q.elim | exact⟨_,_,rfl,rfl,q.1,q.2⟩)
theorem qi0{g:Int→Int→V}{f:Value→Value→Sem Value}(h:OpR X f (rI0 g)):OpR X f (qI0 g):=fun Cr s σ H x y v u Q I rx ry q=>h Cr s σ H x y v u Q I rx ry (by
 cases x <;> cases y <;> first | exact q.elim | exact⟨_,_,rfl,rfl,q⟩)
def qIx(A:Hp→Addr→List V→Prop):R2:=fun x y H Q=>match x,y with
 |.ref p,.int i=>∃xs v,A H p xs∧atI xs i=some v∧Q v H
 |_,_=>False
theorem V4:IxR X (qIx (SqL X.K)):=fun a b Cr s σ H x y v u Q I rx ry q=>Yt a b Cr s σ H x y v u Q I rx ry (by
 cases x <;> cases y <;> first | exact q.elim | exact⟨_,q.choose,_,q.choose_spec.choose,rfl,rfl,q.choose_spec.choose_spec⟩)
def qK(Q:Bool→Hp→Prop):VK:=fun x H=>match x with
 |.bl k=>Q k H
 |_=>False
def yF(t:TE):TT:=fun σ H Q=>t σ H (qK Q)
theorem N4{op:CmpOp}{a b:Expr}{pos:Pos}{ta tb:TE}{r:R2}(ho:OpR X (compareOp op) r)(ha:PE X a ta)(hb:PE X b tb)(hm:behindInMarks op b=false):PT X (.Compare a [op] [b] pos) (yF (tOp r ta tb)):=by
 intro Cr s σ H Q I h;refine wpAny_isTrue_Compare1 (thn (ha Cr s σ H _ I h) fun v s1 ⟨x,H1,I1,r1,q1⟩=>thn (hb Cr s1 σ H1 _ I1 q1) fun u s2 ⟨y,H2,I2,r2,q2⟩=>
  thn (ho Cr s2 σ H2 x y v u _ I2 r1 r2 q2) fun c s3 ⟨z,H3,I3,r3,q3⟩=>?_) hm
 cases z <;> first | exact q3.elim | skip
 cases r3;exact Aw ⟨H3,I3,q3⟩
end
theorem Zp{X:Cx}{pos:Pos}(i:Nat){x:Str}{e:Expr}{te:TE}{pos':Pos}(hN:X.N.Nodup)(hi:X.N[i]?=some x)(hx:Loc X.env.scope x)(he:PE X e te)(hs:swapsWith e (some (.Name x pos')) pos.line X.env=pure false:=by rfl)(hf:X.fn x=true:=by rfl):PS X (.Assign [.Name x pos'] e pos) (oN te (fW i)):=@N8 _ _ i _ _ _ _ hN hi hx he hs (.inl hf)
theorem Y2{N P:List Str}{sc:Scope}(a:sc.kind=.function)(b:sc.isCoroutine=false)(c:sc.isGenerator=false)(d:N.take P.length=P)(h:N.Nodup∧(∀x∈P,sc.names.lookup x=some .local∨sc.names.lookup x=some .cell)∧∀y∈sc.names,y.2≠.free):FnScope N P sc:=⟨a,b,c,h.1,d,h.2.1,h.2.2⟩
theorem Sw{X:Cx}{own:List Str}{scope:Scope}(hc:X.calm=X.calm)(hk:scope.kind=.function)(h1:ip scope.names=true:=by rfl)(h2:iF X.env.scope.names scope.names=true:=by rfl)(h3:iT X.N scope.names=true:=by rfl):CompOk X own scope:=CompOk.of hc hk h1 h2 h3
theorem Yp{X:Cx}{a b:Expr}{ta tb:TE}{pos:Pos}{r:R2}(hr:IxR X r)(ha:PE X a ta)(hb:PE X b tb)(hs:jB b:=by exact fun _ _=>rfl):PE X (.Subscript a b pos) (tOp r ta tb):=xL hr ha hb hs
end L2
namespace K29
open PySem L2
def top(i:Nat):Stmt:=PySem.Challenge.pw_sumshare_k29_streams_that_fit.main.body.getD i (.Pass ⟨0,0,0,0⟩)
abbrev b0:Stmt:=top 1
theorem gc:FnScope ["thing"] ["thing"] (ad b0):=Y2 rfl rfl rfl rfl (by decide +kernel)
abbrev aY:Stmt:=top 2
theorem S5:FnScope ["thing","least"] ["thing","least"] (ad aY):=Y2 rfl rfl rfl rfl (by decide +kernel)
abbrev aQ:Stmt:=top 3
theorem Uy:FnScope ["thing","least","most"] ["thing","least","most"] (ad aQ):=Y2 rfl rfl rfl rfl (by decide +kernel)
abbrev a_:Stmt:=top 4
theorem X6:FnScope ["one","other","sums","key","count"] ["one","other"] (ad a_):=Y2 rfl rfl rfl rfl (by decide +kernel)
abbrev bZ:Stmt:=top 6
theorem Vw:FnScope ["stretch","height","index"] ["stretch"] (ad bZ):=Y2 rfl rfl rfl rfl (by decide +kernel)
abbrev cB:Stmt:=top 7
theorem Uw:FnScope ["stretch","height","index"] ["stretch"] (ad cB):=Y2 rfl rfl rfl rfl (by decide +kernel)
abbrev bJ:Stmt:=top 8
theorem Ve:FnScope ["stretch","height","index"] ["stretch"] (ad bJ):=Y2 rfl rfl rfl rfl (by decide +kernel)
abbrev bB:Stmt:=top 9
theorem Wu:FnScope ["thing","deep","height","index"] ["thing","deep"] (ad bB):=Y2 rfl rfl rfl rfl (by decide +kernel)
abbrev cE:Stmt:=top 11
theorem Rx:FnScope ["counts","stretch","many","parent"] ["counts","stretch","many"] (ad cE):=Y2 rfl rfl rfl rfl (by decide +kernel)
abbrev bM:Stmt:=top 13
theorem Oz:FnScope ["stream"] ["stream"] (ad bM):=Y2 rfl rfl rfl rfl (by decide +kernel)
theorem Yr:(["day","mark","number","many","stream"]:List Str).Nodup:=by decide +kernel
abbrev bi:Stmt:=top 15
theorem Rv:FnScope ["stream"] ["stream"] (ad bi):=Y2 rfl rfl rfl rfl (by decide +kernel)
theorem Yj:(["day","mark","number","many","stream"]:List Str).Nodup:=by decide +kernel
abbrev bO:Stmt:=top 16
theorem Yh:FnScope ["stream","ladder","paper","room","deep","counts","total","standing","stretch","many"] ["stream","ladder","paper"] (ad bO):=Y2 rfl rfl rfl rfl (by decide +kernel)
theorem T9:(["one","stream","ladder","paper","room","deep","counts","total","standing","stretch","many"]:List Str).Nodup:=by decide +kernel
abbrev aW:Stmt:=top 17
theorem Zj:FnScope ["stream","ladder","room","deep","pairs","total","counts","folds","standing","height","rests","rising"] ["stream","ladder"] (ad aW):=Y2 rfl rfl rfl rfl (by decide +kernel)
theorem Xk:(["stretch","many","stream","ladder","room","deep","pairs","total","counts","folds","standing","height","rests","rising"]:List Str).Nodup:=by decide +kernel
theorem Xj:(["stretch","many","stream","ladder","room","deep","pairs","total","counts","folds","standing","height","rests","rising"]:List Str).Nodup:=by decide +kernel
theorem Xi:(["stretch","many","stream","ladder","room","deep","pairs","total","counts","folds","standing","height","rests","rising"]:List Str).Nodup:=by decide +kernel
abbrev bH:Stmt:=top 18
theorem Ti:FnScope ["stream","ladder","paper"] ["stream","ladder"] (ad bH):=Y2 rfl rfl rfl rfl (by decide +kernel)
abbrev ie:Stmt:=top 20
theorem rG:FnScope ["stream","ladder"] ["stream","ladder"] (ad ie):=Y2 rfl rfl rfl rfl (by decide +kernel)
abbrev dL:Stmt:=top 22
theorem pN:FnScope ["_law_script"] ["_law_script"] (ad dL):=Y2 rfl rfl rfl rfl (by decide +kernel)
abbrev cW:Stmt:=top 23
theorem X9:FnScope ["_law_pen_here","_law_most","_law_found","_law_script","_law_at","_law_cell","_law_mixed"] ["_law_pen_here","_law_most"] (ad cW):=Y2 rfl rfl rfl rfl (by decide +kernel)
abbrev c_:Stmt:=top 24
theorem Pu:FnScope ["_law_pen_here","_law_way"] ["_law_pen_here"] (ad c_):=Y2 rfl rfl rfl rfl (by decide +kernel)
abbrev cf:Stmt:=top 25
theorem Ye:FnScope ["_law_pen_here","_law_deep","_law_most","_law_found","_law_top","_law_middle","_law_k","_law_way","_law_number"] ["_law_pen_here","_law_deep","_law_most"] (ad cf):=Y2 rfl rfl rfl rfl (by decide +kernel)
abbrev dq:Stmt:=top 26
theorem Ua:FnScope ["_law_pen_here","_law_deep","_law_most","_law_trees","_law_at"] ["_law_pen_here","_law_deep","_law_most"] (ad dq):=Y2 rfl rfl rfl rfl (by decide +kernel)
theorem S9:(["_law_k","_law_pen_here","_law_deep","_law_most","_law_trees","_law_at"]:List Str).Nodup:=by decide +kernel
abbrev bC:Stmt:=top 27
theorem gO:FnScope ["_law_tree_here"] ["_law_tree_here"] (ad bC):=Y2 rfl rfl rfl rfl (by decide +kernel)
abbrev bh:Stmt:=top 28
theorem Y3:FnScope ["_law_now","_law_deep","_law_bar","_law_height","_law_k","_law_parent","_law_pair","_law_whole","_law_told","_law_one","_law_many_here"] ["_law_now","_law_deep","_law_bar"] (ad bh):=Y2 rfl rfl rfl rfl (by decide +kernel)
theorem Xn:(["_law_other","_law_index","_law_now","_law_deep","_law_bar","_law_height","_law_k","_law_parent","_law_pair","_law_whole","_law_told","_law_one","_law_many_here"]:List Str).Nodup:=by decide +kernel
theorem Vt:(["_law_one","_law_now","_law_deep","_law_bar","_law_height","_law_k","_law_parent","_law_pair","_law_whole","_law_told","#9","_law_many_here"]:List Str).Nodup:=by decide +kernel
theorem Vs:(["_law_one","_law_now","_law_deep","_law_bar","_law_height","_law_k","_law_parent","_law_pair","_law_whole","_law_told","#9","_law_many_here"]:List Str).Nodup:=by decide +kernel
abbrev b7:Stmt:=top 29
theorem Xa:FnScope ["_law_now","_law_room","_law_deep","_law_bar","_law_told","_law_some"] ["_law_now","_law_room","_law_deep"] (ad b7):=Y2 rfl rfl rfl rfl (by decide +kernel)
abbrev ce:Stmt:=top 30
theorem fQ:FnScope ["_law_now","_law_room","_law_deep"] ["_law_now","_law_room","_law_deep"] (ad ce):=Y2 rfl rfl rfl rfl (by decide +kernel)
abbrev cO:Stmt:=top 31
theorem Ux:FnScope ["_law_one","_law_other","_law_found","_law_stretch"] ["_law_one","_law_other"] (ad cO):=Y2 rfl rfl rfl rfl (by decide +kernel)
abbrev bR:Stmt:=top 32
theorem Xq:FnScope ["_law_room","_law_deep","_law_tree_here","_law_now","_law_thing","_law_own"] ["_law_room","_law_deep","_law_tree_here"] (ad bR):=Y2 rfl rfl rfl rfl (by decide +kernel)
abbrev cJ:Stmt:=top 33
theorem Rw:FnScope ["_law_pen_here","_law_room"] ["_law_pen_here"] (ad cJ):=Y2 rfl rfl rfl rfl (by decide +kernel)
abbrev bY:Stmt:=top 34
theorem Yg:FnScope ["_law_pen_here","_law_deep","_law_most","_law_found","_law_k","_law_height","_law_index","_law_some","_law_other"] ["_law_pen_here","_law_deep","_law_most"] (ad bY):=Y2 rfl rfl rfl rfl (by decide +kernel)
abbrev cH:Stmt:=top 35
theorem Vg:FnScope ["_law_stretch","_law_found","_law_k"] ["_law_stretch"] (ad cH):=Y2 rfl rfl rfl rfl (by decide +kernel)
abbrev c7:Stmt:=top 36
theorem lH:FnScope ["_law_stretch"] ["_law_stretch"] (ad c7):=Y2 rfl rfl rfl rfl (by decide +kernel)
abbrev bD:Stmt:=top 37
theorem Zo:FnScope ["_law_stream_here","_law_now","_law_deep","_law_left","_law_day","_law_mark","_law_number","_law_many_here","_law_stretch","_law_due","_law_low","_law_high","_law_taken"] ["_law_stream_here","_law_now","_law_deep"] (ad bD):=Y2 rfl rfl rfl rfl (by decide +kernel)
theorem U0:(["_law_number","_law_stream_here","_law_now","_law_deep","_law_left","_law_day","_law_mark","#6","_law_many_here","_law_stretch","_law_due","_law_low","_law_high","_law_taken"]:List Str).Nodup:=by decide +kernel
abbrev cN:Stmt:=top 38
theorem Yl:FnScope ["_law_pen_here","_law_now","_law_found","_law_most","_law_stretch","_law_left","_law_many_here","_law_low","_law_number"] ["_law_pen_here","_law_now"] (ad cN):=Y2 rfl rfl rfl rfl (by decide +kernel)
abbrev dw:Stmt:=top 39
theorem Yn:FnScope ["_law_pen_here","_law_stream_here","_law_deep","_law_at","_law_day","_law_mark","_law_number","_law_many_here","_law_top","_law_some","_law_thing","_law_way"] ["_law_pen_here","_law_stream_here","_law_deep"] (ad dw):=Y2 rfl rfl rfl rfl (by decide +kernel)
abbrev cD:Stmt:=top 40
theorem Vf:FnScope ["_law_stream_here","_law_ladder_here","_law_now","_law_handed","_law_found","_law_inside"] ["_law_stream_here","_law_ladder_here","_law_now"] (ad cD):=Y2 rfl rfl rfl rfl (by decide +kernel)
theorem Tp:(["_law_thing","_law_stream_here","_law_ladder_here","_law_now","_law_handed","_law_found","_law_inside"]:List Str).Nodup:=by decide +kernel
abbrev cz:Stmt:=top 41
theorem Xp:FnScope ["_law_script","_law_pen_here","_law_turn","_law_room","_law_deep","_law_tree_here","_law_now","_law_stream_here","_law_ladder_here","_law_k"] ["_law_script"] (ad cz):=Y2 rfl rfl rfl rfl (by decide +kernel)
def bw(K:W.Frag):Sp:=fun vs H Q _=>∃(a S:Addr)(ns:List Int)(n:Int),vs=[.ref a,.int n]∧Pn K S ns H a∧0<n∧n<1073741824∧
 ∀(d:Int)(H':Hp),0≤d→d<n→Pn K S ns H' a→Grw a H H'→Q (.int d) H'
def uz(K:W.Frag):Sp:=fun vs H Q _=>∃(S:Addr)(ns:List Int),vs=[.ref S]∧SqL K H S (ns.map V.int)∧ns.length≤63∧
 ∀(p:Addr)(H':Hp),H p=none→Same H H'→Pn K S ns H' p→Q (.ref p) H'
section
variable{P:Program}{w:World}{K:W.Frag}{mg:Str→Option Value}{base:Heap}{f:Addr}{fd:FuncData}
theorem v7(F:Fun K "_law_pen" "_law_pen" dL f fd):FnOk P w K mg base CX0 1 f fd ["_law_script"] (uz K):=by
 refine F.ok pN (fun vs H Q E h=>?_) (fun cdv A outer s H vs Q E hr h=>?_)
 ·obtain⟨a,ns,rfl,_⟩:=h;rfl
 obtain⟨S,ns,rfl,hS,h63,hq⟩:=h;refine⟨_,(Z8 (Zg (Y1 (Z0 (qv (pv 0)) (Z0 Z3 (Z0 Z3 Z1)))))),?_⟩;refine⟨leN rfl,fun p np=>?_⟩;exact hq p _ np (Z6 np _) ⟨⟨0,0,Z4⟩,jX (Z6 np _) hS,h63⟩
theorem tR(aC:mg "len"=none)(F:Fun K "_law_take" "_law_take" cW f fd):FnOk P w K mg base CX0 1 f fd ["_law_pen_here","_law_most"] (bw K):=by
 refine F.ok X9 (fun vs H Q E h=>?_) (fun cdv A outer s H vs Q E hr h=>?_)
 ·obtain⟨a,S,ns,n,rfl,_⟩:=h;rfl
 obtain⟨a,S,ns,n,rfl,hp,h0,h1,hq⟩:=h;refine⟨_,(Z2 (Yu (N4 (qi0 To) (Yp V4 (qv (pv 0)) Z3) Z3 (Zk _)) (Z2 (Zp 2 X9.nd rfl (Or.inl rfl) (Z9 (qi Wg) (Yp V4 (qv (pv 0)) Z3) (qv (pv 1))))
 (Z2 (We (Z9 (qi Wq) (Yp V4 (qv (pv 0)) Z3) (qv (pv 1))) (iB (qv (pv 0)) Z3 Ru))
 (Z8 (Zg (qv (pv 2)))))) Zu)
 (Z2 (Zp 3 X9.nd rfl (Or.inl rfl) (Yp V4 (qv (pv 0)) Z3))
 (Z2 (Zp 4 X9.nd rfl (Or.inl rfl) (Yp V4 (qv (pv 0)) Z3))
 (Z2 (We (Z9 (qi0 Zm) (qv (pv 4)) Z3) (iB (qv (pv 0)) Z3 Ru))
 (Z2 (Zp 5 X9.nd rfl (Or.inl rfl) (Z9 (qi0 Zm) (Z9 (qi Xh) Z3 (qv (pv 4))) Z3))
 (Z2 (Yu (N4 (qi0 To) (Zf Zw rfl aC Az (Z0 (qv (pv 3)) Z1)) Z3 (Zk _)) (Z8 (Zp 5 X9.nd rfl (Or.inl rfl) (Z9 (qi0 Zm) (Yp V4 (qv (pv 3)) (Z9 (qi Wg) (qv (pv 4)) (Zf Zw rfl aC Az (Z0 (qv (pv 3)) Z1)))) (Z9 (qi Xh) Z3 (Z9 (qi Wq) (qv (pv 4)) (Zf Zw rfl aC Az (Z0 (qv (pv 3)) Z1))))))) Zu)
 (Z2 (Yu (PW.pt (N6 (N4 (qi0 ur) (qv (pv 4)) (Zf Zw rfl aC Az (Z0 (qv (pv 3)) Z1)) (Zk _)) (R1 (N4 (qi0 kI) (qv (pv 5)) (Z9 (qi N9) Z3 Z3) (Zk _))))) (Z2 (We (Z9 (qi Wq) (qv (pv 5)) (qv (pv 1))) (iB (qv (pv 0)) Z3 Ru))
 (Z8 (Zg (Z9 (qi Wg) (qv (pv 5)) (qv (pv 1)))))) Zu)
 (Z2 (Zp 6 X9.nd rfl (Or.inl rfl) (Z9 (qi Wg) (Z9 (qi Xh) (Z9 (qi0 Zm) (Z9 (qi0 Zm) (Z9 (qi Wg) (qv (pv 5)) Z3) (Z9 (qi Xh) Z3 (qv (pv 4)))) Z3) Z3) Z3))
 (Z2 (Zp 6 X9.nd rfl (Or.inl rfl) (Z9 (qi Wg) (Z9 (qi0 Zm) (Z9 (qi0 Zm) (Z9 (qi Xh) (qv (pv 6)) (qv (pv 6))) (Z9 (qi Xh) Z3 (qv (pv 6)))) (qv (pv 4))) Z3))
 (Z8 (Zg (Z9 (qi Wg) (Z9 (qi Wq) (Z9 (qi Wg) (Z9 (qi0 Zm) (Z9 (qi0 Zm) (Z9 (qi Xh) (qv (pv 6)) (qv (pv 6))) (Z9 (qi Xh) Z3 (qv (pv 6)))) (Z9 (qi Xh) Z3 (qv (pv 4)))) Z3) Z3) (qv (pv 1)))))))))))))),?_⟩
 obtain⟨i,r,e⟩:=hp.at_;have hl:(ns.map V.int).length=ns.length:=pi _;have few:=hp.few;refine⟨_,_,SqL.of e,gX _ _ _,?_⟩;refine Xm (fun c=>?_) (fun c=>?_)
 ·refine⟨_,_,SqL.of e,gX _ _ _,h0,?_⟩;refine⟨_,_,SqL.of e,gX _ _ _,⟨h0,h1⟩,a,_,2,_,rfl,rfl,e,rfl,?_⟩;exact hq _ _ (Bl _ (by omega)) (A0 _ h0) (hp.upd _ _) X2
 refine⟨_,_,SqL.of e,yH _ _ _,?_⟩;refine⟨_,_,SqL.of e,oJ _ _ _,?_⟩;refine⟨a,_,1,_,rfl,rfl,e,rfl,?_⟩;have hp1:=hp.upd (i+1) r;have g1:Grw a H (upd H a (.lst [.ref S,.int (i+1),.int r])):=X2;have e1:(upd H a (.lst [.ref S,.int (i+1),.int r])) a=some (.lst [.ref S,.int (i+1),.int r]):=Z4;have hS:=hp1.scr;refine⟨mE rfl rfl,?_⟩;refine⟨S,_,rfl,.inl hS,?_⟩;refine Xm (fun c=>?_) (fun c=>?_)
 focus
  have c:=yW c;rw[hl]at c;have hm:=Bl i (show(ns.length:Int)≠0 by omega);have hm2:=A0 i c;obtain⟨v,hv,hmem⟩:=qu (xs:=ns.map V.int) hm (by rw[hl];exact hm2);obtain⟨n1,_,rfl⟩:=yO.mp hmem;refine⟨S,_,rfl,.inl hS,by rw[hl];exact c,_,_,hS,by rw[hl];exact hv,?_⟩;refine⟨S,_,rfl,.inl hS,⟨by rw[hl];exact c,by rw[hl];omega⟩,mE rfl rfl,?_⟩
 all_goals
  refine⟨S,_,rfl,.inl hS,?_⟩;refine Xm (fun c1=>?_) (fun c1=>?_)
  focus
   refine⟨tj rfl rfl rfl,?_⟩;refine Xm (fun c2=>?_) (fun c2=>?_)
   focus
    refine⟨⟨h0,h1⟩,a,_,2,_,rfl,rfl,e1,rfl,?_⟩;refine⟨h0,?_⟩;exact hq _ _ (Bl _ (by omega)) (A0 _ h0) (hp1.upd _ _) (g1.trans X2)
  all_goals
   refine⟨Xz rfl,mE rfl rfl,mulR rfl rfl,Xz rfl,?_⟩;refine⟨yx _ _ _ rfl rfl,mE rfl rfl,Xz rfl,?_⟩;refine⟨yx _ _ _ rfl rfl,mE rfl rfl,mE rfl rfl,Xz rfl,xh rfl rfl,h0,?_⟩;exact hq _ _ (Bl _ (by omega)) (A0 _ h0) hp1 g1
end
end K29
namespace L2
open PySem PySem.Spec PyProof.Rows
theorem blk{p:Prop}(h:p):p:=h
end L2
namespace L2
open PySem
def wy(X:Cx)(ss:List Stmt):TS:=fun D σ H=>∃t:TS,PSs X ss t∧t D σ H
theorem Zd{X:Cx}{ss:List Stmt}:PSs X ss (wy X ss):=fun Cr s σ H D I ⟨_,h,q⟩=>h Cr s σ H D I q
section
variable{K:W.Frag}{a:Addr}{xs:List V}{g:TG}{tb:TS}{D:Ends}{σ:St}{H:Hp}
theorem X3(Pv:Nat→St→Hp→Prop)(h0:Pv 0 σ H)(hl:∀i σ H,i≤xs.length→Pv i σ H→SqL K H a xs)(hs:∀i x σ H (N B:St→Hp→Prop) (R:VK),(∀σ' H',Pv (i+1) σ' H'→N σ' H')→(∀v H',D.rt v H'→R v H')→xs[i]?=some x→Pv i σ H→g x σ H fun σ2 H2=>tb {nx:=N,rt:=R,bk:=B,ct:=N} σ2 H2)(hd:∀σ H,Pv xs.length σ H→D.nx σ H):
  ∃W:Nat→Nat→St→Hp→Prop,(∃m,W 0 m σ H)∧∀i m σ H,W i m σ H→
   ((Itl K a).stop i H∧D.nx σ H)∨((Itl K a).go i H∧∃N:St→Hp→Prop,(∀σ' H',N σ' H'→∃m',m'<m∧W (i+1) m' σ' H')∧∀x H',(Itl K a).yld i H x H'→g x σ H' fun σ2 H2=>tb {D with nx:=N,ct:=N,bk:=D.nx} σ2 H2):=
 nM Pv h0 hl (fun i x σ H hx p=>hs i x σ H _ _ _ (fun _ _ q=>q) (fun _ _ q=>q) hx p) hd
theorem X8{lo:Int}{n:Nat}(Pv:Nat→St→Hp→Prop)(h0:Pv 0 σ H)(hs:∀i σ H (N B:St→Hp→Prop) (R:VK),(∀σ' H',Pv (i+1) σ' H'→N σ' H')→(∀v H',D.rt v H'→R v H')→i<n→Pv i σ H→g (.int (lo+i)) σ H fun σ2 H2=>tb {nx:=N,rt:=R,bk:=B,ct:=N} σ2 H2)(hd:∀σ H,Pv n σ H→D.nx σ H):
  ∃W:Nat→Nat→St→Hp→Prop,(∃m,W 0 m σ H)∧∀i m σ H,W i m σ H→
   ((Itr lo n).stop i H∧D.nx σ H)∨((Itr lo n).go i H∧∃N:St→Hp→Prop,(∀σ' H',N σ' H'→∃m',m'<m∧W (i+1) m' σ' H')∧∀x H',(Itr lo n).yld i H x H'→g x σ H' fun σ2 H2=>tb {D with nx:=N,ct:=N,bk:=D.nx} σ2 H2):=
 lC Pv h0 (fun i σ H hi p=>hs i σ H _ _ _ (fun _ _ q=>q) (fun _ _ q=>q) hi p) hd
end
theorem V8{α:Type}{n:Nat}{P:List α→Prop}(h:∀a r,r.length=n→P (a::r)):∀us:List α,us.length=n+1→P us:=fun us e=>by
 cases us with
 |nil=>cases e
 |cons a r=>exact h a r (Nat.succ.inj e)
theorem Nf{α:Type}{P:List α→Prop}(h:P []):∀us:List α,us.length=0→P us:=fun us e=>by
 cases us with
 |nil=>exact h
 |cons a r=>cases e
theorem Fun.b1{K:W.Frag}{x qual:Str}{st:Stmt}{f:Addr}{fd:FuncData}{p0:Str}(F:Fun K x qual st f fd)(h:∀(kV doc pm:Value) (an:Option Addr) (cdv ct u0:Value),bindArgs (W.fnOf x qual (aI st) (aF st) (ad st) .none kV doc pm an cdv ct) ⟨[u0],[]⟩=pure [(p0,u0)]):Binds K fd [p0] []:=F.binds fun kV doc pm an cdv ct=>V8 fun u0=>Nf (h kV doc pm an cdv ct u0)
theorem Fun.b2{K:W.Frag}{x qual:Str}{st:Stmt}{f:Addr}{fd:FuncData}{p0 p1:Str}(F:Fun K x qual st f fd)(h:∀(kV doc pm:Value) (an:Option Addr) (cdv ct u0 u1:Value),bindArgs (W.fnOf x qual (aI st) (aF st) (ad st) .none kV doc pm an cdv ct) ⟨[u0,u1],[]⟩=pure [(p0,u0),(p1,u1)]):Binds K fd [p0,p1] []:=F.binds fun kV doc pm an cdv ct=>V8 fun u0=>V8 fun u1=>Nf (h kV doc pm an cdv ct u0 u1)
theorem Fun.b3{K:W.Frag}{x qual:Str}{st:Stmt}{f:Addr}{fd:FuncData}{p0 p1 p2:Str}(F:Fun K x qual st f fd)(h:∀(kV doc pm:Value) (an:Option Addr) (cdv ct u0 u1 u2:Value),bindArgs (W.fnOf x qual (aI st) (aF st) (ad st) .none kV doc pm an cdv ct) ⟨[u0,u1,u2],[]⟩=pure [(p0,u0),(p1,u1),(p2,u2)]):Binds K fd [p0,p1,p2] []:=F.binds fun kV doc pm an cdv ct=>V8 fun u0=>V8 fun u1=>V8 fun u2=>Nf (h kV doc pm an cdv ct u0 u1 u2)
end L2
namespace Ld
open PySem L2
def ag(k:Int×Int):Int×Int:=(k.1+1,k.2 / 2)
def ai(ps:Sps)(k:Int×Int):Option V:=aP (af ps) (kk k)
theorem Tq:∀(ps:Sps)(k:Int×Int),ai ps k=none∨∃n,ai ps k=some (.int n)
 | [],k=>.inl rfl
 |p::ps,k=>by
  unfold ai af;rw[yQ];by_cases e:kk p.1=kk k
  ·rw[Y6 e];exact .inr ⟨_,rfl⟩
  ·rw[Y0 e];exact Tq ps k
def ak(ps:Sps)(k:Int×Int)(n:Int):Sps:=if (ps.any fun p=>decide (p.1=k))=true then ps.map (fun p=>if p.1=k then(p.1,n)else p)else ps++[(k,n)]
def aq(ps:Sps)(k:Int×Int):Sps:=ps.filter fun p=>decide (p.1≠k)
theorem Qm{p q:Int×Int}:kk p=kk q↔p=q:=⟨Vo,fun e=>by rw[e]⟩
theorem Uz(ps:Sps)(k:Int×Int)(n:Int):aJ (af ps) (kk k) (.int n)=af (ak ps k n):=by
 have ea:((af ps).any fun kv=>decide (kv.1=kk k))=ps.any fun p=>decide (p.1=k):=by
  unfold af;rw[List.any_map]
  congr 1
  funext p
  exact decide_eq_decide.mpr Qm
 unfold aJ ak;rw[ea]
 split
 ·unfold af;rw[zf,zf]
  congr 1
  funext p
  show(if kk p.1=kk k then(kk p.1,V.int n) else(kk p.1,V.int p.2))=_;by_cases e:p.1=k
  ·rw[yL (Qm.mpr e)];show _=(kk (if p.1=k then(p.1,n)else p).1,V.int (if p.1=k then(p.1,n)else p).2);rw[yL e]
  ·rw[yK (fun z=>e (Vo z))];show _=(kk (if p.1=k then(p.1,n)else p).1,V.int (if p.1=k then(p.1,n)else p).2);rw[yK e]
 ·unfold af;rw[zk];rfl
theorem kD(ps:Sps)(k:Int×Int):bE (af ps) (kk k)=af (aq ps k):=by
 unfold bE aq af;rw[List.filter_map]
 congr 1
 refine List.filter_congr fun p _=>?_;exact decide_eq_decide.mpr (not_congr Qm)
theorem Rf{ps:Sps}{k:Int×Int}:(ps.any fun p=>decide (p.1=k))=true↔k∈ps.map (·.1):=by
 rw[List.any_eq_true,yO];exact⟨fun⟨p,h,e⟩=>⟨p,h,yW e⟩,fun⟨p,h,e⟩=>⟨p,h,yX e⟩⟩
theorem Xy(ps:Sps)(k:Int×Int)(n:Int):(ak ps k n).map (·.1)=if k∈ps.map (·.1)then ps.map (·.1)else ps.map (·.1)++[k]:=by
 unfold ak;by_cases h:k∈ps.map (·.1)
 ·rw[yL (Rf.mpr h),yL h,zf]
  congr 1
  funext p
  show(if p.1=k then(p.1,n)else p).1=p.1
  split <;> rfl
 ·rw[yK (fun z=>h (Rf.mp z)),yK h,zk];rfl
theorem Vb(ps:Sps)(k:Int×Int):(aq ps k).map (·.1)=(ps.map (·.1)).filter fun x=>decide (x≠k):=by
 unfold aq;rw[List.filter_map];rfl
theorem W5(ps:Sps)(k:Int×Int)(n:Int):(ak ps k n).length≤ps.length+1:=by
 unfold ak
 split
 ·rw[pi];omega
 ·rw[yR];exact yM _
theorem Qx(ps:Sps)(k:Int×Int):(aq ps k).length≤ps.length:=z8 _ _
theorem X5(ps:Sps)(k j:Int×Int)(n:Int):ai (ak ps k n) j=if j=k then some (.int n)else ai ps j:=by
 unfold ai;rw[←Uz,oQ];by_cases e:j=k
 ·rw[yL (Qm.mpr e),yL e]
 ·rw[yK (fun z=>e (Vo z)),yK e]
theorem Yo(p:(Int×Int)×Int)(ps:Sps)(j:Int×Int):ai (p::ps) j=if p.1=j then some (.int p.2)else ai ps j:=by
 unfold ai af;rw[yQ];by_cases e:p.1=j
 ·rw[yL e,Y6 (by show kk p.1=kk j;rw[e])]
 ·rw[yK e,Y0 (fun z=>e (Vo z))]
theorem Xd:∀(ps:Sps)(k j:Int×Int),ai (aq ps k) j=if j=k then none else ai ps j
 | [],k,j=>by
  show none=if j=k then none else none
  split <;> rfl
 |p::ps,k,j=>by
  have ih:=Xd ps k j;unfold aq at ih⊢;by_cases e:p.1=k
  ·rw[List.filter_cons,if_neg (by simpa using e),ih,Yo];by_cases z:j=k
   ·rw[yL z,yL z]
   ·rw[yK z,yK z,yK (fun q=>z (by rw[←q,e]))]
  ·rw[zN,yL (yX e),Yo,ih,Yo];by_cases z:j=k
   ·rw[yL z,yL z,yK (fun q=>e (by rw[q,z]))]
   ·rw[yK z,yK z]
theorem Vj(k:Int×Int):k≠ag k:=fun e=>by
 have:k.1=k.1+1:=Ak (·.1) e;omega
theorem Wj{ps:Sps}{k:Int×Int}:(ai ps k).isSome=true↔k∈ps.map (·.1):=by
 unfold ai;rw[←Wx,←Rf];have ea:((af ps).any fun kv=>decide (kv.1=kk k))=ps.any fun p=>decide (p.1=k):=by
  unfold af;rw[List.any_map]
  congr 1
  funext p
  exact decide_eq_decide.mpr Qm
 rw[ea]
theorem mR{ps:Sps}{k:Int×Int}(h:(ai ps k).isSome=true):∃m,ai ps k=some (.int m):=by
 rcases Tq ps k with z | z
 ·rw[z]at h;cases h
 ·exact z
def cnt(ps:Sps)(k:Int×Int):Int:=match ai ps k with
 |some (.int n)=>n
 |_=>0
theorem Ws:∀{ps:Sps}{p:(Int×Int)×Int},(ps.map (·.1)).Nodup→p∈ps→ai ps p.1=some (.int p.2)
 |q::ps,p,nd,h=>by
  rw[yQ,zt]at nd;rw[Yo]
  rcases y8.mp h with e | h
  ·rw[e,yL rfl]
  ·rw[yK (fun z=>nd.1 (by rw[z];exact yO.mpr ⟨p,h,rfl⟩))];exact Ws nd.2 h
theorem Wl{ps:Sps}{k:Int×Int}(h:k∈ps.map (·.1)):ai ps k=some (.int (cnt ps k)):=by
 obtain⟨m,e⟩:=mR (Wj.mpr h);unfold cnt;rw[e]
theorem Uj{ps:Sps}{k:Int×Int}(h:k∉ps.map (·.1)):ai ps k=none:=by
 rcases Tq ps k with z | ⟨n,z⟩
 ·exact z
 ·exact absurd (Wj.mp (by rw[z];rfl)) h
theorem Yd{ps:Sps}{p:(Int×Int)×Int}(nd:(ps.map (·.1)).Nodup)(h:p∈ps):cnt ps p.1=p.2:=by
 unfold cnt;rw[Ws nd h]
theorem Zz{ps:Sps}{k:Int×Int}(h:k∉ps.map (·.1)):cnt ps k=0:=by
 unfold cnt;rw[Uj h]
theorem W0(ps:Sps)(k:Int×Int):(ai ps k).getD (.int 0)=.int (cnt ps k):=by
 unfold cnt
 rcases Tq ps k with z | ⟨n,z⟩ <;> rw[z] <;> rfl
theorem Sg{ps qs:Sps}{j k:Int×Int}(h:ai ps j=ai qs k):cnt ps j=cnt qs k:=by
 unfold cnt;rw[h]
theorem Ym(ps:Sps)(k j:Int×Int)(n:Int):cnt (ak ps k n) j=if j=k then n else cnt ps j:=by
 unfold cnt;rw[X5];by_cases e:j=k
 ·rw[yL e,yL e]
 ·rw[yK e,yK e]
theorem gj(ps:Sps)(k j:Int×Int):cnt (aq ps k) j=if j=k then 0 else cnt ps j:=by
 unfold cnt;rw[Xd];by_cases e:j=k
 ·rw[yL e,yL e]
 ·rw[yK e,yK e]
theorem Qc{ps:Sps}{p:(Int×Int)×Int}(nd:(ps.map (·.1)).Nodup):p∈ps↔ai ps p.1=some (.int p.2):=by
 refine⟨Ws nd,fun h=>?_⟩;have hk:p.1∈ps.map (·.1):=Wj.mp (by rw[h];rfl);obtain⟨q,hq,e⟩:=yO.mp hk;have hq2:=Ws nd hq;rw[e,h]at hq2;injection hq2 with hq2
 injection hq2 with hq2
 have:q=p:=Ad e hq2.symm;rw[←this];exact hq
theorem V7{α β:Type}{f:α→β}{l:List α}(h:(l.map f).Nodup):l.Nodup:=(AU.mp h).imp fun h e=>h (by rw[e])
theorem R5{α:Type}[DecidableEq α]:∀{l m:List α},l.Nodup→m.Nodup→(∀a,a∈l↔a∈m)→l.Perm m
 | [],m,_,_,h=>by
  cases m with
  |nil=>exact .refl _
  |cons b m=>exact absurd ((h b).mpr (.head _)) zC
 |a::l,m,nl,nm,h=>by
  rw[zt]at nl;have ha:=(h a).mp (.head _);refine .trans (List.Perm.cons a (R5 nl.2 (nm.erase a) fun b=>?_)) (List.perm_cons_erase ha).symm;rw[nm.mem_erase_iff];refine⟨fun hb=>⟨fun e=>nl.1 (by rw[←e];exact hb),(h b).mp (.tail _ hb)⟩,fun⟨ne,hb⟩=>((y8.mp ((h b).mpr hb)).resolve_left ne)⟩
theorem V5{ps qs:Sps}(np:(ps.map (·.1)).Nodup)(nq:(qs.map (·.1)).Nodup)(h:∀k,ai ps k=ai qs k):ps.Perm qs:=
 R5 (V7 np) (V7 nq) fun p=>by rw[Qc np,Qc nq,h]
theorem Xc{ps qs:Sps}(h:ps.Perm qs)(np:(ps.map (·.1)).Nodup)(k:Int×Int):ai ps k=ai qs k:=by
 have nq:(qs.map (·.1)).Nodup:=(h.map _).nodup_iff.mp np;by_cases hk:k∈ps.map (·.1)
 ·obtain⟨p,hp,rfl⟩:=yO.mp hk;rw[Ws np hp,Ws nq (h.mem_iff.mp hp)]
 ·rw[Uj hk,Uj fun z=>hk ((h.map _).mem_iff.mpr z)]
def aj(ps:Sps):Int:=(ps.map (·.2)).sum
theorem Ro:∀{ps:Sps}{k:Int×Int},(ps.map (·.1)).Nodup→aj (aq ps k)=aj ps-cnt ps k
 | [],k,_=>by
  show(0:Int)=0-cnt [] k;rfl
 |p::ps,k,nd=>by
  rw[yQ,zt]at nd;have ih:=Ro (k:=k) nd.2;unfold aj aq at ih⊢;by_cases e:p.1=k
  ·have o:cnt ps k=0:=Zz (by rw[←e];exact nd.1);have c:cnt (p::ps) k=p.2:=by unfold cnt;rw[Yo,yL e]
   rw[List.filter_cons,if_neg (by simpa using e),ih,o,c,List.map_cons,List.sum_cons];omega
  ·have c:cnt (p::ps) k=cnt ps k:=by unfold cnt;rw[Yo,yK e]
   rw[zN,yL (yX e),yQ,zo,ih,c,yQ,zo];omega
theorem Y9{ps:Sps}{k:Int×Int}{n:Int}(nd:(ps.map (·.1)).Nodup):((ak ps k n).map (·.1)).Nodup:=by
 rw[Xy]
 split
 ·exact nd
 ·rename_i h;exact BU.mpr ⟨nd,zt.mpr ⟨zC,zO⟩,fun x hx y hy e=>h (by rw[yP.mp hy]at e;rw[←e];exact hx)⟩
theorem Vr{ps:Sps}{k:Int×Int}(nd:(ps.map (·.1)).Nodup):((aq ps k).map (·.1)).Nodup:=by
 rw[Vb];exact nd.filter _
theorem Wz{ps qs:Sps}(h:ps.Perm qs):aj ps=aj qs:=Vx (h.map _)
theorem Oq{ps:Sps}{k:Int×Int}{n:Int}(nd:(ps.map (·.1)).Nodup):aj (ak ps k n)=aj ps-cnt ps k+n:=by
 have h:(ak ps k n).Perm ((k,n)::aq ps k):=by
  have hk:k∉(aq ps k).map (·.1):=by
   rw[Vb];intro z;have:=(zn.mp z).2;simp at this
  refine V5 (Y9 nd) (by rw[yQ];exact zt.mpr ⟨hk,Vr nd⟩) fun j=>?_;rw[X5,Yo,Xd];by_cases e:j=k
  ·rw[yL e,yL e.symm]
  ·rw[yK e,yK (Ne.symm e),yK e]
 rw[Wz h];have:=Ro (k:=k) nd;unfold aj at this⊢;rw[yQ,zo,this];omega
end Ld
namespace Ld
open PySem L2
def cj(ps:Sps)(k:Int×Int)(m n:Int):Sps:=aq (ak (ak ps (ag k) n) k (m-m)) k
theorem mz{ps:Sps}{k:Int×Int}{m n:Int}(hk:k∈ps.map (·.1)):(cj ps k m n).map (·.1)=if ag k∈ps.map (·.1) then(ps.map (·.1)).filter (fun x=>decide (x≠k)) else(ps.map (·.1)).filter (fun x=>decide (x≠k))++[ag k]:=by
 unfold cj;have k2:k∈(ak ps (ag k) n).map (·.1):=by
  rw[Xy]
  split
  ·exact hk
  ·exact zI _ hk
 rw[Vb,Xy,yL k2,Xy]
 split
 ·rfl
 ·rw[AL,zN,yL (yX (Ne.symm (Vj k)))];rfl
def mea(or:Int)(ks:List (Int×Int)):Nat:=(ks.map fun k=>(or+1-k.1).toNat).sum
theorem Qf{or:Int}{k:Int×Int}:∀{ks:List (Int×Int)},ks.Nodup→k∈ks→mea or (ks.filter fun x=>decide (x≠k))+(or+1-k.1).toNat=mea or ks
 | [],_,h=>nomatch h
 |x::ks,nd,h=>by
  rw[zt]at nd;by_cases e:x=k
  ·subst e;have o:ks.filter (fun y=>decide (y≠x))=ks:=BB.mpr fun y hy=>yX fun z=>nd.1 (by rw[←z];exact hy);rw[List.filter_cons,if_neg (by simp),o];unfold mea;rw[yQ,zo];omega
  ·have hk:k∈ks:=(y8.mp h).resolve_left (Ne.symm e);have ih:=Qf (or:=or) nd.2 hk;rw[zN,yL (yX e)];unfold mea at ih⊢;rw[yQ,zo,yQ,zo];omega
theorem Qe{or:Int}{ks ls:List (Int×Int)}(h:ks.Perm ls):mea or ks=mea or ls:=(h.map _).sum_nat
theorem oZ{or:Int}(h:or≤20):∀{ks:List (Int×Int)},(∀k∈ks,0≤k.1)→mea or ks≤21*ks.length
 | [],_=>Aa _
 |k::ks,hk=>by
  have ih:=oZ h fun x hx=>hk x (.tail _ hx);have h0:=hk k (.head _);unfold mea at ih⊢;rw[yQ,zo,zw];omega
structure Kok(or:Int)(ks:List (Int×Int)):Prop where
 nd:ks.Nodup
 st:∀k∈ks,0≤k.1∧k.1≤or∧0≤k.2∧k.2<2^(or-k.1).toNat
theorem Kok.perm{or:Int}{ks ls:List (Int×Int)}(h:Kok or ks)(p:ls.Perm ks):Kok or ls:=⟨p.nodup_iff.mpr h.nd,fun k hk=>h.st k (p.mem_iff.mp hk)⟩
theorem Xo{m:Int}(h:m≤10):(1:Int)≤2^m.toNat∧(2:Int)^m.toNat≤1024:=by
 have a1:(2:Nat)^m.toNat≤2^10:=Nat.pow_le_pow_right (by decide) (by omega);have a2:0<(2:Nat)^m.toNat:=Nat.pow_pos (by decide);have a3:((2^m.toNat:Nat):Int)=(2:Int)^m.toNat:=by push_cast;rfl
 have a4:(2:Nat)^10=1024:=by decide
 rw[←a3];omega
theorem on{h or i:Int}(hd:h<or)(i1:i<2^(or-h).toNat):i / 2<2^(or-(h+1)).toNat:=by
 have e:(or-h).toNat=(or-(h+1)).toNat+1:=by omega
 rw[e,Ci]at i1;omega
theorem vH{or:Int}{k:Int×Int}(hd:k.1<or)(s:0≤k.1∧k.1≤or∧0≤k.2∧k.2<2^(or-k.1).toNat):0≤(ag k).1∧(ag k).1≤or∧0≤(ag k).2∧(ag k).2<2^(or-(ag k).1).toNat:=by
 have:=on hd s.2.2.2;show 0≤k.1+1∧k.1+1≤or∧0≤k.2 / 2∧k.2 / 2<2^(or-(k.1+1)).toNat;exact⟨by omega,by omega,by omega,this⟩
theorem tP{or:Int}{ps:Sps}{k:Int×Int}{m n:Int}(h:Kok or (ps.map (·.1)))(hk:k∈ps.map (·.1))(hd:k.1<or):Kok or ((cj ps k m n).map (·.1))∧mea or ((cj ps k m n).map (·.1))<mea or (ps.map (·.1))∧(cj ps k m n).length≤ps.length:=by
 rw[←pi (f:=(·.1)),←pi (as:=ps) (f:=(·.1)),mz hk];have mf:=Qf (or:=or) h.nd hk;have sk:=h.st k hk;have lf:((ps.map (·.1)).filter fun x=>decide (x≠k)).length<(ps.map (·.1)).length:=by
  refine Nat.lt_of_le_of_ne (z8 _ _) fun e=>?_;have:=List.length_filter_eq_length_iff.mp e k hk;simp at this
 have ndf:((ps.map (·.1)).filter fun x=>decide (x≠k)).Nodup:=h.nd.filter _;have stf:∀x∈(ps.map (·.1)).filter fun x=>decide (x≠k),0≤x.1∧x.1≤or∧0≤x.2∧x.2<2^(or-x.1).toNat:=fun x hx=>h.st x (zn.mp hx).1
 split
 ·exact⟨⟨ndf,stf⟩,by omega,by omega⟩
 ·rename_i np;refine⟨⟨?_,fun x hx=>?_⟩,?_,by rw[yR];exact lf⟩
  ·refine BU.mpr ⟨ndf,zt.mpr ⟨zC,zO⟩,fun x hx y hy e=>?_⟩;rw[yP.mp hy]at e;exact np (by rw[←e];exact(zn.mp hx).1)
  ·rcases ze.mp hx with hx | hx
   ·exact stf x hx
   ·rw[yP.mp hx];exact vH hd sk
  ·have e1:mea or ((ps.map (·.1)).filter (fun x=>decide (x≠k))++[ag k])=mea or ((ps.map (·.1)).filter fun x=>decide (x≠k))+(or+1-(k.1+1)).toNat:=by
    unfold mea;rw[zk,BN];rfl
   rw[e1];omega
def loK(h j:Int):Int×Int:=(h,2*j)
def hiK(h j:Int):Int×Int:=(h,2*j+1)
def upK(h j:Int):Int×Int:=(h+1,j)
def jn(ps:Sps)(h j:Int):Int:=cnt ps (loK h j)+cnt ps (hiK h j)+cnt ps (upK h j)
theorem Vk(h j:Int):ag (loK h j)=upK h j:=Ad rfl (show 2*j / 2=j by omega)
theorem Q5(h j:Int):ag (hiK h j)=upK h j:=Ad rfl (show(2*j+1) / 2=j by omega)
theorem ge(h j:Int):loK h j≠hiK h j:=fun e=>by
 have:2*j=2*j+1:=Ak (·.2) e;omega
theorem qg(h j:Int):loK h j≠upK h j:=fun e=>by
 have:h=h+1:=Ak (·.1) e;omega
theorem gH(h j:Int):hiK h j≠upK h j:=fun e=>by
 have:h=h+1:=Ak (·.1) e;omega
theorem Ra(k:Int×Int):k=loK k.1 (k.2 / 2)∨k=hiK k.1 (k.2 / 2):=by
 rcases Int.emod_two_eq k.2 with e | e
 ·exact .inl (Ad rfl (show k.2=2*(k.2 / 2) by omega))
 ·exact .inr (Ad rfl (show k.2=2*(k.2 / 2)+1 by omega))
def dB(ps:Sps)(k:Int×Int):Sps:=cj ps k (cnt ps k) (cnt ps (ag k)+cnt ps k)
def aO(ps:Sps)(k:Int×Int):Sps:=if k∈ps.map (·.1)then dB ps k else ps
def aG(ps:Sps)(k:Int×Int):Sps:=if k∈ps.map (·.1) then[(k,cnt ps k)] else[]
def aS(ps:Sps)(h j:Int):Sps:=aO (aO ps (loK h j)) (hiK h j)
def flP(ps:Sps)(h j:Int):Sps:=aG ps (loK h j)++aG ps (hiK h j)
def cx(ps:Sps)(h j:Int):Sps:=ak (aq (aq ps (loK h j)) (hiK h j)) (upK h j) (jn ps h j)
theorem Wt{ps:Sps}{k:Int×Int}(h:k∉ps.map (·.1)):aq ps k=ps:=BB.mpr fun p hp=>yX fun z=>h (yO.mpr ⟨p,hp,z⟩)
theorem Qg(ps:Sps)(k x:Int×Int):ai (dB ps k) x=if x=k then none else if x=ag k then some (.int (cnt ps (ag k)+cnt ps k))else ai ps x:=by
 unfold dB cj;rw[Xd,X5,X5];by_cases e:x=k
 ·rw[yL e,yL e]
 ·rw[yK e,yK e,yK e]
theorem mQ(ps:Sps)(k x:Int×Int):cnt (dB ps k) x=if x=k then 0 else if x=ag k then cnt ps (ag k)+cnt ps k else cnt ps x:=by
 unfold cnt;rw[Qg];by_cases e:x=k
 ·rw[yL e,yL e]
 ·rw[yK e,yK e];by_cases z:x=ag k
  ·rw[yL z,yL z];rfl
  ·rw[yK z,yK z]
theorem Ta(ps:Sps)(k x:Int×Int):ai (aO ps k) x=if x=k then none else if x=ag k∧k∈ps.map (·.1)then some (.int (cnt ps (ag k)+cnt ps k))else ai ps x:=by
 unfold aO;by_cases hk:k∈ps.map (·.1)
 ·rw[yL hk,Qg];by_cases e:x=k
  ·rw[yL e,yL e]
  ·rw[yK e,yK e];by_cases z:x=ag k
   ·rw[yL z,yL ⟨z,hk⟩]
   ·rw[yK z,yK fun q=>z q.1]
 ·rw[yK hk];by_cases e:x=k
  ·rw[yL e,e,Uj hk]
  ·rw[yK e,yK fun q=>hk q.2]
theorem Ul(ps:Sps)(k x:Int×Int):cnt (aO ps k) x=if x=k then 0 else if x=ag k then cnt ps (ag k)+cnt ps k else cnt ps x:=by
 unfold aO;by_cases hk:k∈ps.map (·.1)
 ·rw[yL hk,mQ]
 ·rw[yK hk];by_cases e:x=k
  ·rw[yL e,e,Zz hk]
  ·rw[yK e];by_cases z:x=ag k
   ·rw[yL z,z,Zz hk,B5]
   ·rw[yK z]
theorem hi_in{ps:Sps}{h j:Int}:hiK h j∈(aO ps (loK h j)).map (·.1)↔hiK h j∈ps.map (·.1):=by
 rw[←Wj,←Wj,Ta,yK (Ne.symm (ge h j)),Vk,yK fun q=>gH h j q.1]
theorem sY(ps:Sps)(h j:Int):aG (aO ps (loK h j)) (hiK h j)=aG ps (hiK h j):=by
 unfold aG;rw[Ul,yK (Ne.symm (ge h j)),Vk,yK (gH h j)];by_cases e:hiK h j∈ps.map (·.1)
 ·rw[yL e,yL (hi_in.mpr e)]
 ·rw[yK e,yK fun q=>e (hi_in.mp q)]
theorem Vm{ps:Sps}{h j:Int}(i:loK h j∈ps.map (·.1)∨hiK h j∈ps.map (·.1))(x:Int×Int):ai (aS ps h j) x=if x=loK h j∨x=hiK h j then none else if x=upK h j then some (.int (jn ps h j))else ai ps x:=by
 unfold aS;rw[Ta];have p1:cnt (aO ps (loK h j)) (ag (hiK h j))=cnt ps (upK h j)+cnt ps (loK h j):=by rw[Q5,Ul,yK (Ne.symm (qg h j)),Vk,yL rfl]
 have p2:cnt (aO ps (loK h j)) (hiK h j)=cnt ps (hiK h j):=by rw[Ul,yK (Ne.symm (ge h j)),Vk,yK (gH h j)]
 rw[p1,p2];by_cases e1:x=hiK h j
 ·rw[yL e1,yL (.inr e1)]
 ·rw[yK e1,Ta];by_cases e2:x=loK h j
  ·rw[yL (c:=x=loK h j∨x=hiK h j) (Or.inl e2),yK (c:=x=ag (hiK h j)∧_) fun q=>qg h j (by rw[←e2,←Q5];exact q.1),yL e2]
  ·rw[yK (c:=x=loK h j∨x=hiK h j) fun q=>q.elim e2 e1,yK (c:=x=loK h j) e2];by_cases e3:x=upK h j
   ·rw[yL e3];unfold jn;by_cases i2:hiK h j∈ps.map (·.1)
    ·rw[yL ⟨by rw[Q5];exact e3,hi_in.mpr i2⟩]
     congr 2
     omega
    ·have i1:=i.resolve_right i2;rw[yK fun q=>i2 (hi_in.mp q.2),yL ⟨by rw[Vk];exact e3,i1⟩,Zz i2,Vk]
     congr 2
     omega
   ·rw[yK e3,yK fun q=>e3 (by rw[←Q5];exact q.1),yK fun q=>e3 (by rw[←Vk];exact q.1)]
theorem iq(ps:Sps)(h j:Int)(x:Int×Int):ai (cx ps h j) x=if x=loK h j∨x=hiK h j then none else if x=upK h j then some (.int (jn ps h j))else ai ps x:=by
 unfold cx;rw[X5,Xd,Xd];by_cases e1:x=hiK h j
 ·rw[yK (by rw[e1];exact gH h j),yL e1,yL (.inr e1)]
 ·by_cases e2:x=loK h j
  ·have q:x≠upK h j:=by rw[e2];exact qg h j
   rw[yK q,yK e1,yL e2,yL (Or.inl e2)]
  ·rw[yK e1,yK e2,yK (c:=x=loK h j∨x=hiK h j) fun q=>q.elim e2 e1]
theorem Tu{ps:Sps}{k:Int×Int}(nd:(ps.map (·.1)).Nodup):((aO ps k).map (·.1)).Nodup:=by
 unfold aO
 split
 ·exact Vr (Y9 (Y9 nd))
 ·exact nd
theorem Vv{ps:Sps}{h j:Int}(nd:(ps.map (·.1)).Nodup):((aS ps h j).map (·.1)).Nodup:=Tu (Tu nd)
theorem pI{ps:Sps}{h j:Int}(nd:(ps.map (·.1)).Nodup):((cx ps h j).map (·.1)).Nodup:=Y9 (Vr (Vr nd))
theorem Ot{ps:Sps}{h j:Int}(nd:(ps.map (·.1)).Nodup)(i:loK h j∈ps.map (·.1)∨hiK h j∈ps.map (·.1)):(cx ps h j).Perm (aS ps h j):=V5 (pI nd) (Vv nd) fun k=>by rw[iq,Vm i]
theorem R9{ps qs:Sps}(p:ps.Perm qs)(nd:(ps.map (·.1)).Nodup)(h j:Int):jn ps h j=jn qs h j:=by
 unfold jn;rw[Sg (Xc p nd _),Sg (Xc p nd (hiK h j)),Sg (Xc p nd (upK h j))]
theorem Pr{ps qs:Sps}{h j:Int}(p:ps.Perm qs)(nd:(ps.map (·.1)).Nodup)(i:loK h j∈ps.map (·.1)∨hiK h j∈ps.map (·.1)):(aS ps h j).Perm (aS qs h j):=by
 have pk:=p.map (·.1);refine V5 (Vv nd) (Vv (pk.nodup_iff.mp nd)) fun k=>?_;rw[Vm i,Vm (i.imp pk.mem_iff.mp pk.mem_iff.mp),R9 p nd,Xc p nd]
theorem Po{ps qs:Sps}(p:ps.Perm qs)(nd:(ps.map (·.1)).Nodup)(k:Int×Int):aG ps k=aG qs k:=by
 have pk:=p.map (·.1);unfold aG;rw[Sg (Xc p nd k)];by_cases e:k∈ps.map (·.1)
 ·rw[yL e,yL (pk.mem_iff.mp e)]
 ·rw[yK e,yK fun q=>e (pk.mem_iff.mpr q)]
theorem jQ{ps qs:Sps}(p:ps.Perm qs)(nd:(ps.map (·.1)).Nodup)(h j:Int):flP ps h j=flP qs h j:=by
 unfold flP;rw[Po p nd,Po p nd]
theorem fj{or:Int}{ps:Sps}{k:Int×Int}(o:Kok or (ps.map (·.1)))(hd:k.1<or):Kok or ((aO ps k).map (·.1))∧mea or ((aO ps k).map (·.1))+(aG ps k).length≤mea or (ps.map (·.1))∧(aO ps k).length≤ps.length:=by
 unfold aO aG;by_cases hk:k∈ps.map (·.1)
 ·rw[yL hk,yL hk];have:=tP (m:=cnt ps k) (n:=cnt ps (ag k)+cnt ps k) o hk hd;exact⟨this.1,this.2.1,this.2.2⟩
 ·rw[yK hk,yK hk];exact⟨o,yM _,yM _⟩
theorem V0{or:Int}{ps:Sps}{h j:Int}(o:Kok or (ps.map (·.1)))(hd:h<or):Kok or ((aS ps h j).map (·.1))∧mea or ((aS ps h j).map (·.1))+(flP ps h j).length≤mea or (ps.map (·.1))∧(aS ps h j).length≤ps.length:=by
 have a:=fj (k:=loK h j) o hd;have b:=fj (k:=hiK h j) a.1 hd;rw[sY]at b;unfold flP aS;rw[yR];have:=a.2;have:=b.2;exact⟨b.1,by omega,by omega⟩
theorem jh{ps:Sps}{h j:Int}(i:loK h j∈ps.map (·.1)∨hiK h j∈ps.map (·.1)):0<(flP ps h j).length:=by
 unfold flP aG;rw[yR]
 rcases i with i | i
 ·rw[if_pos i];simp;omega
 ·rw[if_pos i];simp
theorem Pp{ps:Sps}{k:Int×Int}(nd:(ps.map (·.1)).Nodup):aj (aO ps k)=aj ps:=by
 unfold aO
 split
 ·unfold dB cj;have c1:cnt (ak (ak ps (ag k) (cnt ps (ag k)+cnt ps k)) k (cnt ps k-cnt ps k)) k=cnt ps k-cnt ps k:=by rw[Ym,yL rfl]
  have c2:cnt (ak ps (ag k) (cnt ps (ag k)+cnt ps k)) k=cnt ps k:=by rw[Ym,yK (Vj k)]
  rw[Ro (Y9 (Y9 nd)),Oq (Y9 nd),Oq nd,c1,c2];omega
 ·rfl
theorem lQ{ps:Sps}{h j:Int}(nd:(ps.map (·.1)).Nodup):aj (aS ps h j)=aj ps:=by
 unfold aS;rw[Pp (Tu nd),Pp nd]
structure Fst(or bar:Int)(ps:Sps)(h j:Int):Prop where
 in_:loK h j∈ps.map (·.1)∨hiK h j∈ps.map (·.1)
 hd:h<or
 le:jn ps h j≤bar
 first:∀k∈ps.map (·.1),k.1<or→jn ps k.1 (k.2 / 2)≤bar→h<k.1∨(h=k.1∧j≤k.2 / 2)
def Nof(or bar:Int)(ps:Sps):Prop:=∀k∈ps.map (·.1),k.1<or→bar<jn ps k.1 (k.2 / 2)
theorem Fst.key{or bar h j:Int}{ps:Sps}(f:Fst or bar ps h j):∃k∈ps.map (·.1),k.1=h∧k.2 / 2=j:=by
 rcases f.in_ with i | i
 ·exact⟨_,i,rfl,show 2*j / 2=j by omega⟩
 ·exact⟨_,i,rfl,show(2*j+1) / 2=j by omega⟩
theorem Fst.not{or bar h j:Int}{ps:Sps}(f:Fst or bar ps h j)(n:Nof or bar ps):False:=by
 obtain⟨k,hk,e1,e2⟩:=f.key;have:=n k hk (by rw[e1];exact f.hd);rw[e1,e2]at this;have:=f.le;omega
theorem Fst.uniq{or bar h j h' j':Int}{ps:Sps}(f:Fst or bar ps h j)(g:Fst or bar ps h' j'):h=h'∧j=j':=by
 obtain⟨k,hk,e1,e2⟩:=f.key;obtain⟨l,hl,d1,d2⟩:=g.key;have a:=f.first l hl (by rw[d1];exact g.hd) (by rw[d1,d2];exact g.le);have b:=g.first k hk (by rw[e1];exact f.hd) (by rw[e1,e2];exact f.le);rw[d1,d2]at a;rw[e1,e2]at b;omega
theorem Fst.perm{or bar h j:Int}{ps qs:Sps}(f:Fst or bar ps h j)(p:ps.Perm qs)(nd:(ps.map (·.1)).Nodup):Fst or bar qs h j:=by
 have pk:=p.map (·.1);refine⟨f.in_.imp pk.mem_iff.mp pk.mem_iff.mp,f.hd,by rw[←R9 p nd];exact f.le,fun k hk h1 h2=>f.first k (pk.mem_iff.mpr hk) h1 (by rw[R9 p nd];exact h2)⟩
theorem Q8{or bar:Int}{ps qs:Sps}(n:Nof or bar ps)(p:ps.Perm qs)(nd:(ps.map (·.1)).Nodup):Nof or bar qs:=fun k hk h1=>by
 rw[←R9 p nd];exact n k ((p.map (·.1)).mem_iff.mpr hk) h1
inductive Stl(or bar:Int):Sps→Sps→Sps→Prop
 |done {ps:Sps}:Nof or bar ps→Stl or bar ps [] ps
 |step {ps ps1 fs Cu:Sps} {h j:Int}:Fst or bar ps h j→ps1.Perm (aS ps h j)→Stl or bar ps1 fs Cu→Stl or bar ps (flP ps h j++fs) Cu
theorem kZ{or bar:Int}{ps fs Cu:Sps}(s:Stl or bar ps fs Cu):∀{qs gs qs':Sps},Stl or bar qs gs qs'→ps.Perm qs→(ps.map (·.1)).Nodup→fs=gs∧Cu.Perm qs':=by
 induction s with
 |done n=>
  intro qs gs qs' t p nd;cases t with
  |done _=>exact⟨rfl,p⟩
  |step f _ _=>exact(f.not (Q8 n p nd)).elim
 |step f p1 s ih=>
  intro qs gs qs' t p nd;cases t with
  |done n=>exact((f.perm p nd).not n).elim
  |step g q1 t=>
   obtain⟨rfl,rfl⟩:=(f.perm p nd).uniq g;obtain⟨e,r⟩:=ih t (p1.trans ((Pr p nd f.in_).trans q1.symm)) ((p1.map _).nodup_iff.mpr (Vv nd));exact⟨by rw[jQ p nd,e],r⟩
theorem t_{or bar:Int}{ps fs Cu:Sps}(s:Stl or bar ps fs Cu):(ps.map (·.1)).Nodup→(Cu.map (·.1)).Nodup∧Nof or bar Cu∧aj Cu=aj ps:=by
 induction s with
 |done n=>exact fun nd=>⟨nd,n,rfl⟩
 |step f p1 s ih=>
  intro nd;obtain⟨a,b,c⟩:=ih ((p1.map _).nodup_iff.mpr (Vv nd));exact⟨a,b,by rw[c,Wz p1,lQ nd]⟩
def Way(or bar:Int)(ps fs qs:Sps):Prop:=∀gs Cu,Stl or bar qs gs Cu→Stl or bar ps (fs++gs) Cu
theorem Way.refl{or bar:Int}{ps:Sps}:Way or bar ps [] ps:=fun _ _ s=>s
theorem Way.snoc{or bar h j:Int}{ps fs qs qs1:Sps}(w:Way or bar ps fs qs)(f:Fst or bar qs h j)(p:qs1.Perm (aS qs h j)):Way or bar ps (fs++flP qs h j) qs1:=fun gs Cu s=>by
 rw[zU];exact w _ _ (.step f p s)
theorem Way.done{or bar:Int}{ps fs qs:Sps}(w:Way or bar ps fs qs)(n:Nof or bar qs):Stl or bar ps fs qs:=by
 have:=w [] qs (.done n)
 rwa [AJ]at this
theorem Rr{ps qs:Sps}(p:ps.Perm qs):aA ps=aA qs:=N0 gx ((Zy ps).trans (p.trans (Zy qs).symm)) (Rq ps) (Rq qs)
end Ld
namespace K29
open PySem L2 Ld
def KAt(H:Hp)(p:Addr)(k:Int×Int):Prop:=H p=some (.tup [.int k.1,.int k.2])
structure LadAt(H:Hp)(q:Addr)(Cq or total:Int)(ps:Sps):Prop where
 at_:∃(c:Addr)(as:List Addr),H q=some (.tup [.int Cq,.int or,.ref c,.int total])∧H c=some (.tup (as.map V.ref))∧Paired (FT H) as ps
theorem Zv{H H':Hp}(g:Same H H'){a:Addr}{p:(Int×Int)×Int}(h:FT H a p):FT H' a p:=let ⟨b,e1,e2⟩:=h;⟨b,g _ _ e1,g _ _ e2⟩
theorem LadAt.mono{H H':Hp}(g:Same H H'){q:Addr}{Cq or total:Int}{ps:Sps}(h:LadAt H q Cq or total ps):LadAt H' q Cq or total ps:=let ⟨c,as,e1,e2,r⟩:=h.at_;⟨c,as,g _ _ e1,g _ _ e2,Paired.mapP r fun _ _ f=>Zv g f⟩
theorem Sb{H:Hp}:∀{as:List Addr}{ps:Sps}{j:Nat}{x:V},Paired (FT H) as ps→(as.map V.ref)[j]?=some x→∃a p,x=.ref a∧ps[j]?=some p∧FT H a p
 |_,_,_,_,.nil,e=>by simp at e
 |_,_,0,_,.cons h _,e=>by
  rw[yQ,An]at e;cases e;exact⟨_,_,rfl,rfl,h⟩
 |_,_,j+1,_,.cons _ r,e=>Sb (j:=j) r (by simpa using e)
theorem X7{H:Hp}{d b:Addr}{ps:Sps}{k:Int×Int}(e:H d=some (.dT (af ps)))(eb:KAt H b k):DGet H d (.ref b) (ai ps k):=DGet.t e eb
theorem qo{H:Hp}:∀{bs:List Addr}{ks:List (Int×Int)}{j:Nat}{x:V},KsAt H bs ks→(bs.map V.ref)[j]?=some x→∃b k,x=.ref b∧ks[j]?=some k∧KAt H b k
 |_,_,_,_,.nil,e=>by simp at e
 |_,_,0,_,.cons h _,e=>by
  rw[yQ,An]at e;cases e;exact⟨_,_,rfl,rfl,h⟩
 |_,_,j+1,_,.cons _ r,e=>qo (j:=j) r (by simpa using e)
theorem lP{H:Hp}{d q:Addr}{o u:HO}(e:H d=some u)(n:H q=none):Grw d H (upd H q o):=fun b w h=>by
 obtain⟨h1,h2⟩:=Z7 h;rw[Zh h1,Zb (Zi h2 n)];exact h2
def c5:Sp:=fun vs H Q _=>∃(p:Addr)(k:Int×Int),vs=[.ref p]∧KAt H p k∧∀q,H q=none→Q (.ref q) (upd H q (.tup [.int (ag k).1,.int (ag k).2]))
theorem om{α:Type}{R:α→α→Prop}{l:List α}(h:l.Pairwise R){i j:Nat}{a b:α}(ha:l[i]?=some a)(hb:l[j]?=some b)(ij:i<j):R a b:=by
 obtain⟨hi,rfl⟩:=yZ.mp ha;obtain⟨hj,rfl⟩:=yZ.mp hb;exact AW.mp h i j hi hj ij
variable{P:Program}{w:World}{K:W.Frag}{mg:Str→Option Value}{base:Heap}{f:Addr}{fd:FuncData}
theorem mO(F:Fun K "parent_of" "parent_of" bJ f fd):FnOk P w K mg base CX0 1 f fd ["stretch"] c5:=by
 refine F.ok Ve (fun vs H Q E h=>?_) (fun cdv A outer s H vs Q E hr h=>?_)
 ·obtain⟨p,k,rfl,_⟩:=h;rfl
 obtain⟨p,k,rfl,e,hq⟩:=h;refine⟨_,(Z2 (We (pv 0) (W1 rfl (Zc (Za (i:=1) Ve.nd rfl (Or.inl rfl)) (Zc (Za (i:=2) Ve.nd rfl (Or.inl rfl)) Yb))))
 (Z8 (Zg (Y4 (Z0 (Z9 Zm (pv 1) Z3) (Z0 (Z9 Wq (pv 2) Z3) Z1)))))),?_⟩
 exact⟨_,rfl,p,_,rfl,SqT.of e,rfl,_,_,rfl,_,_,rfl,rfl,_,rfl,_,_,rfl,rfl,_,rfl,_,_,rfl,rfl,⟨by decide,by decide⟩,leN rfl,hq⟩
def hgt:List Key→Int
 |.inl h::_=>h
 |_=>0
def we(or:Int)(kvs:List (List Key×V)):Nat:=(kvs.map fun kv=>(or+1-hgt kv.1).toNat).sum
theorem sM(or:Int)(ps:Sps):we or (af ps)=mea or (ps.map (·.1)):=by
 unfold we mea af;rw[zf,zf];rfl
def muD(or:Int)(d:Addr)(H:Hp):Nat:=match H d with
 |some (.dT kvs)=>we or kvs
 |_=>0
theorem hZ{or:Int}{d:Addr}{H:Hp}{ps:Sps}(e:H d=some (.dT (af ps))):muD or d H=mea or (ps.map (·.1)):=by
 unfold muD;rw[e];exact sM or ps
def FsAt(H:Hp)(l:Addr)(fs:Sps):Prop:=∃as:List Addr,H l=some (.lst (as.map V.ref))∧Paired (FT H) as fs
def tjs(ps:Sps)(h j:Int):Nat→Sps
 | 0=>[]
 | 1=>aG ps (loK h j)
 |_=>flP ps h j
theorem FsAt.same{H H':Hp}{l:Addr}{fs:Sps}(h:FsAt H l fs)(g:Same H H'):FsAt H' l fs:=let ⟨as,e,p⟩:=h;⟨as,g _ _ e,Paired.mapP p fun _ _ f=>Zv g f⟩
def idx(h:Int)(ps:Sps):List Int:=(ps.filter fun p=>decide (p.1.1=h)).map fun p=>p.1.2 / 2
def um:Sp:=fun vs H Q _=>∃(d:Addr)(or bar:Int)(ps:Sps),vs=[.ref d,.int or,.int bar]∧H d=some (.dT (af ps))∧Kok or (ps.map (·.1))∧0≤or∧or≤20∧ps.length<64∧
 (∀(l:Addr)(H':Hp),Nof or bar ps→Same H H'→H l=none→H' l=some (.lst [])→Q (.ref l) H')∧
 ∀(h j:Int)(l:Addr)(H':Hp),Fst or bar ps h j→Grw d H H'→H l=none→H' d=some (.dT (af (cx ps h j)))→FsAt H' l (flP ps h j)→Q (.ref l) H'
theorem S4{H H':Hp}{d:Addr}{o:Obj}{kvs:List (List Key×V)}(e:H d=some (.dT kvs))(g:Same (upd H d (.frz o (.dT kvs))) H'):Same H (upd H' d (.dT kvs)):=fun b u h=>by
 by_cases z:b=d
 ·rw[z]at h⊢;rw[e]at h;rw[←h];exact Z4
 ·rw[Zb z];exact g b u (by rw[Zb z];exact h)
theorem ue{H:Hp}{d b:Addr}{ps:Sps}{k:Int×Int}{o:Obj}(e:H d=some (.frz o (.dT (af ps))))(eb:KAt H b k):DGet H d (.ref b) (ai ps k):=.inr ⟨_,kk k,b,.inr ⟨o,e⟩,rfl,eb,rfl⟩
theorem g_{ps:Sps}{i:Nat}{p:List Key×V}(h:(af ps)[i]?=some p):∃q,ps[i]?=some q∧p=(kk q.1,.int q.2):=by
 unfold af at h;rw[zc]at h;cases e:ps[i]? with
 |none=>rw[e]at h;cases h
 |some q=>rw[e]at h;cases h;exact⟨q,rfl,rfl⟩
theorem sG{h j:Int}{ps:Sps}:j∈idx h ps↔∃k∈ps.map (·.1),k.1=h∧k.2 / 2=j:=by
 unfold idx;rw[yO];constructor
 ·rintro⟨p,hp,rfl⟩;obtain⟨a,b⟩:=zn.mp hp;exact⟨p.1,yO.mpr ⟨p,a,rfl⟩,yW b,rfl⟩
 ·rintro⟨k,hk,rfl,rfl⟩;obtain⟨p,hp,rfl⟩:=yO.mp hk;exact⟨p,zn.mpr ⟨hp,yX rfl⟩,rfl⟩
def ci(ps fs:Sps):Sps:=fs.foldl (fun a p=>aq a p.1) ps
theorem Qh:∀(fs ps:Sps)(x:Int×Int),ai (ci ps fs) x=if x∈fs.map (·.1)then none else ai ps x
 | [],ps,x=>by rw[B0,yK zC];rfl
 |p::fs,ps,x=>by
  have ih:=Qh fs (aq ps p.1) x;show ai (ci (aq ps p.1) fs) x=_;rw[ih,Xd,yQ];by_cases e:x=p.1
  ·rw[yL e,yL (show x∈p.1::fs.map (·.1) by rw[e];exact .head _)]
   split <;> rfl
  ·rw[yK e];by_cases z:x∈fs.map (·.1)
   ·rw[yL z,yL (zS _ z)]
   ·rw[yK z,yK fun q=>(y8.mp q).elim e z]
theorem jo{ps fs:Sps}{n:Nat}{p:(Int×Int)×Int}(h:fs[n]?=some p):ci ps (fs.take (n+1))=aq (ci ps (fs.take n)) p.1:=by
 unfold ci;rw[Zx h,List.foldl_append];rfl
theorem vP(ps:Sps)(h j:Int):(flP ps h j).length≤2:=by
 unfold flP aG;rw[yR]
 split <;> split <;> simp
theorem x9(ps:Sps)(h j:Int):((flP ps h j).map (·.1)).Nodup:=by
 unfold flP aG;have:=ge h j
 split <;> split <;> simp[this]
theorem xA(ps:Sps)(h j:Int):∀p∈flP ps h j,ai ps p.1=some (.int p.2):=fun p hp=>by
 unfold flP aG at hp
 rcases ze.mp hp with hp | hp
 ·split at hp
  ·rw[yP.mp hp];exact Wl (by assumption)
  ·cases hp
 ·split at hp
  ·rw[yP.mp hp];exact Wl (by assumption)
  ·cases hp
theorem ug(ps:Sps)(h j:Int):ci ps (flP ps h j)=aq (aq ps (loK h j)) (hiK h j):=by
 have out:hiK h j∉ps.map (·.1)→hiK h j∉(aq ps (loK h j)).map (·.1):=fun n z=>n (by rw[Vb]at z;exact(zn.mp z).1);unfold flP aG ci;by_cases i1:loK h j∈ps.map (·.1)
 ·by_cases i2:hiK h j∈ps.map (·.1)
  ·rw[yL i1,yL i2];rfl
  ·rw[yL i1,yK i2,Wt (out i2)];rfl
 ·by_cases i2:hiK h j∈ps.map (·.1)
  ·rw[yK i1,yL i2,Wt i1];rfl
  ·rw[yK i1,yK i2,Wt (out i2),Wt i1];rfl
theorem _root_.L2.Grw.tup{d x:Addr}{H H':Hp}{kvs:List (List Key×V)}{xs:List V}(g:Grw d H H')(ed:H d=some (.dT kvs))(e:H x=some (.tup xs)):H' x=some (.tup xs):=(Z7 (g x _ (by rw[Zh (V6 e ed (by intro z;cases z))];exact e))).2
theorem _root_.L2.Grw.lst{d x:Addr}{H H':Hp}{kvs:List (List Key×V)}{xs:List V}(g:Grw d H H')(ed:H d=some (.dT kvs))(e:H x=some (.lst xs)):H' x=some (.lst xs):=(Z7 (g x _ (by rw[Zh (V6 e ed (by intro z;cases z))];exact e))).2
theorem _root_.L2.Same.grw{d:Addr}{H H':Hp}(g:Same H H'):Grw d H H':=fun x w e=>by
 obtain⟨e1,e2⟩:=Z7 e;rw[Zh e1];exact g _ _ e2
theorem _root_.L2.Grw.refl{d:Addr}{H:Hp}:Grw d H H:=fun _ _ e=>e
theorem wn(ao:mg "range"=none)(ax:mg "sorted"=none)(mY:mg "set"=none)(ba:mg "sum"=none)(F:Fun K "_law_fold_once" "_law_fold_once" bh f fd):FnOk P w K mg base CX0 1 f fd ["_law_now","_law_deep","_law_bar"] um:=by
 refine F.ok Y3 (fun vs H Q E h=>?_) (fun cdv A outer s H vs Q E hr h=>?_)
 ·obtain⟨d,or,bar,ps,rfl,_⟩:=h;rfl
 obtain⟨d,or,bar,ps,rfl,e_d,kok,d0,d1,pl,hq0,hq1⟩:=h;refine⟨_,(Z2 (Yy zQ rfl (Xb rfl ao (Z0 (pv 1) Z1)) (Za (i:=3) Y3.nd rfl (Or.inr rfl))
 (Z8 (Yy zQ rfl (Yi (Zf (e8 rfl) rfl ax AI (Z0 (Y8 (mG rfl) rfl mY PyProof.Rows.boot_set (Z0 (jC (Wp (own:=["_law_other","_law_index"]) (Sw rfl rfl) (Q0 (pv 0))
  (fun _ _ _ _ _=>(Ue K 2 rfl rfl (Zc (Za (i:=0) Xn rfl (Or.inl rfl) (Or.inr rfl)) (Zc (Za (i:=1) Xn rfl (Or.inl rfl) (Or.inr rfl)) Yb)))) (fun _ _ _ _ _=>(Tl (Zn Wh (pv 0) (pv 5) (Zk _))))
  (fun _ _ _ _ _=>(Z9 Wq (pv 1) Z3)))) Z1)) Z1))) (Za (i:=4) Y3.nd rfl (Or.inl rfl))
 (Z2 (Zp 5 Y3.nd rfl (Or.inl rfl) (Y4 (Z0 (Z9 Zm (pv 3) Z3) (Z0 (pv 4) Z1))))
 (Z2 (Zp 6 Y3.nd rfl (Or.inl rfl) (Y1 (Z0 (Y4 (Z0 (pv 3) (Z0 (Z9 Xh Z3 (pv 4)) Z1))) (Z0 (Y4 (Z0 (pv 3) (Z0 (Z9 Zm (Z9 Xh Z3 (pv 4)) Z3) Z1))) Z1))))
 (T4 9 (Z2 (Zp 7 Y3.nd rfl (Or.inl rfl) (Zf (U3 rfl) rfl ba Bj (Z0 (nR ["_law_now","_law_deep","_law_bar","_law_height","_law_k","_law_parent","_law_pair","_law_whole","_law_told","#9","_law_many_here"] (Wp (own:=["_law_one"]) (Sw rfl rfl) (Yi (Z9 W2 (pv 6) (Y1 (Z0 (pv 5) Z1))))
  (fun _ _ _ _ _=>(Za (i:=0) Vt rfl (Or.inl rfl) (Or.inr rfl))) (fun _ _ _ _ _=>Vi)
  (fun _ _ _ _ _=>(Wf (X0 hr) (pv 1) (pv 0) Z3 ⟨rfl,rfl,rfl,rfl⟩)))) Z1)))
 (Z8 (Yu (Zn j7 (pv 7) (pv 2) (Zk _)) (T4 9 (Z2 (wL ["_law_now","_law_deep","_law_bar","_law_height","_law_k","_law_parent","_law_pair","_law_whole","_law_told","#9","_law_many_here"] (R4 (i:=8) (show List.Nodup (["_law_now","_law_deep","_law_bar","_law_height","_law_k","_law_parent","_law_pair","_law_whole","_law_told","#9","_law_many_here"]:List Str) by decide +kernel) rfl rfl (own:=["_law_one"]) (Sw rfl rfl) (Yi (pv 6))
  (fun _ _ _ _ _=>(Za (i:=0) Vs rfl (Or.inl rfl) (Or.inr rfl))) (fun _ _ _ _ _=>(Tl (Zn (rO hr.units) (pv 0) (pv 1) (by with_unfolding_all rfl))))
  (fun _ _ _ _ _=>(Y4 (Z0 (pv 0) (Z0 (Wo (X0 hr) (pv 1) (pv 0) (fun _ _=>rfl)) Z1))))))
 (Z2 (Yy zQ rfl (Yi (pv 8)) (W1 rfl (Zc (Za (i:=9) Y3.nd rfl (Or.inl rfl)) (Zc (Za (i:=10) Y3.nd rfl (Or.inl rfl)) Yb)))
 (Z8 (W6 (fX Al PySem.F.slot_dict_pop PySem.F.type_dict_pop (kY hr.units) (pv 0) (Z0 (pv 9) Z1)))))
 (Z2 (Wm (X0 hr) (pv 0) (pv 5) (pv 7) rfl)
 (Z8 (Zg (pv 8))))))) Zu))))))))) Zd),?_⟩
 refine⟨_,rfl,or,rfl,by omega,by omega,?_⟩;refine X8 (lo:=0) (n:=or.toNat) (fun i σ H'=>∃o3 o4 o5 o6 o7 o8 o9 o10:Option V,σ=[some (.ref d),some (.int or),some (.int bar),o3,o4,o5,o6,o7,o8,o9,o10]∧Same H H'∧∀k∈ps.map (·.1),k.1<(i:Int)→bar<jn ps k.1 (k.2 / 2)) ⟨_,_,_,_,_,_,_,_,rfl,Same.refl _,fun k hk z=>?_⟩ ?_ ?_
 ·have:=(kok.st k hk).1;omega
 ·rintro i σ H1 N B1 R hN hR hi ⟨o3,o4,o5,o6,o7,o8,o9,o10,rfl,g1,bef⟩;have hz:(0:Int)+(i:Int)=i:=BL _;generalize hh:(0:Int)+(i:Int)=h at hz⊢;have yA:=g1 _ _ e_d;have filt:∀n,((ps.take n).filter fun p=>decide (p.1.1=h)).length≤n:=fun n=>zP (z8 _ _) (by rw[zu];omega);refine⟨d,_,yA,fun o=>⟨_,rfl,d,o,_,rfl,Z4,?_⟩⟩;refine Qz (fun i ys H'=>Same (upd H1 d (.frz o (.dT (af ps)))) H'∧i≤ps.length∧ys=(idx h (ps.take i)).map V.int) ⟨Same.refl _,Aa _,rfl⟩ ?_ ?_ ?_ ?_
  ·rintro i ys H' ⟨g5,_⟩;exact g5 _ _ Z4
  ·rintro n p0 b ys H5 C hp0 Cw ⟨g5,_,rfl⟩ hC;obtain⟨p,hp5,rfl⟩:=g_ hp0;have il:n<ps.length:=(yZ.mp hp5).1;have fl:=filt n;have Cw:H5 b=some (.tup [.int p.1.1,.int p.1.2]):=Cw;have tk:=Zx hp5;refine⟨Zq (by unfold idx;rw[pi,pi];omega),b,_,rfl,SqT.of Cw,rfl,_,_,rfl,_,_,rfl,rfl,Wk.refl _,_,rfl,_,rfl,rfl,_,rfl,?_⟩;by_cases same:p.1.1=h
   ·rw[yX (by rw[same])];refine Wv ⟨_,rfl,_,_,rfl,rfl,⟨by decide,by decide⟩,hC _ _ ⟨g5,il,?_⟩⟩;unfold idx;rw[tk,AL,zN,yL (yX same),zk,zk];rfl
   ·rw[zA (fun z=>same (V.int.inj z))];refine Ww (hC _ _ ⟨g5,il,?_⟩);unfold idx;rw[tk,List.filter_append,List.filter_cons,if_neg (by simpa using same),List.filter_nil,List.append_nil]
  ·rintro i ys H' ⟨_,hl,rfl⟩;have fl:=filt i;exact Zq (by unfold idx;rw[pi,pi];omega)
  rintro ys H5 ⟨g5,_,rfl⟩;rw[Zs,zG];have fl:=filt ps.length;rw[zG]at fl;refine⟨Ze (by unfold idx;rw[pi,pi];omega),fun p n_p=>?_⟩;have pd:p≠d:=fun z=>by rw[z,g5 _ _ Z4]at n_p;cases n_p
  have g6:=g5.trans (Z6 n_p (.lst ((idx h ps).map V.int)));have sz:=S4 yA g6;have Cy:(upd (upd H5 p (.lst ((idx h ps).map V.int))) d (.dT (af ps))) p=some (.lst ((idx h ps).map V.int)):=by rw[Zb pd];exact Z4
  refine⟨g6 _ _ Z4,?_⟩;generalize upd (upd H5 p _) d _=H6 at sz Cy⊢;have il:(idx h ps).length≤ps.length:=by unfold idx;rw[pi];omega
  have ul:=qB (idx h ps);refine⟨p,_,rfl,SqL.of Cy,by omega,?_⟩;have gg:=g1.trans sz;clear sz g6 g5 n_p pd;intro q n_q;generalize hz:upd _ q _=H7;revert H7;refine blk ?_;intro H7 hz;have gz:=Zr hz n_q;have CF:=Y5 hz;clear hz;have gg:=gg.trans gz;refine⟨q,_,rfl,CF,by omega,?_⟩;intro l n_l;generalize hz:upd _ l _=H8;revert H8;refine blk ?_;intro H8 hz;have gz:=Zr hz n_l;have CB:=Y5 hz;clear hz;have gg:=gg.trans gz;have jm:∀j,j∈dh (gI (idx h ps))↔∃k∈ps.map (·.1),k.1=h∧k.2 / 2=j:=fun j=>by rw[(V1 _).mem_iff,oV,sG]
  have jw:=jz (gI (idx h ps));generalize dh (gI (idx h ps))=js at CB jm jw;clear CF ul il Cy fl;refine⟨l,rfl,⟨_,SqL.of CB⟩,?_⟩;refine X3 (xs:=js.map V.int) (fun n σ H'=>∃o4 o5 o6 o7 o8 o9 o10:Option V,σ=[some (.ref d),some (.int or),some (.int bar),some (.int h),o4,o5,o6,o7,o8,o9,o10]∧Same H8 H'∧∀(m:Nat)(j:Int),m<n→js[m]?=some j→bar<jn ps h j) ⟨_,_,_,_,_,_,_,rfl,Same.refl _,fun m _ hm=>absurd hm (Nat.not_lt_zero m)⟩ ?_ ?_ ?_
  ·rintro n σ H' _ ⟨_,_,_,_,_,_,_,_,g,_⟩;exact SqL.of (g _ _ CB)
  ·rintro n x σ H2 N2 B2 R2 hN2 hR2 hx ⟨o4,o5,o6,o7,o8,o9,o10,rfl,g2,bef2⟩;rw[zc]at hx;obtain⟨j,hj,rfl⟩:=zV.mp hx;have g8:=gg;have gg:=gg.trans g2;have aV:=gg _ _ e_d;have bL:=g2 _ _ CB;have gk:Same H2 H2:=Same.refl _;refine⟨_,rfl,_,_,rfl,rfl,_,rfl,leN rfl,?_⟩;intro u n_u;generalize hz:upd _ u _=G1;revert G1;refine blk ?_;intro G1 hz;have gz:=Zr hz n_u;have e_u:=Y5 hz;clear hz;have gg:=gg.trans gz;have aV:=gz _ _ aV;have gk:=gk.trans gz;refine⟨_,rfl,_,rfl,_,_,rfl,rfl,Or.inl ⟨by decide,by decide⟩,leN rfl,?_⟩;intro a n_a;generalize hz:upd _ a _=G2;revert G2;refine blk ?_;intro G2 hz;have gz:=Zr hz n_a;have CD:=Y5 hz;clear hz;have gg:=gg.trans gz;have aV:=gz _ _ aV;have e_u:=gz _ _ e_u;have gk:=gk.trans gz;refine⟨_,rfl,_,rfl,_,_,rfl,rfl,Or.inl ⟨by decide,by decide⟩,_,_,rfl,rfl,leN rfl,?_⟩;intro b n_b;generalize hz:upd _ b _=G3;revert G3;refine blk ?_;intro G3 hz;have gz:=Zr hz n_b;have Cw:=Y5 hz;clear hz;have gg:=gg.trans gz;have aV:=gz _ _ aV;have e_u:=gz _ _ e_u;have CD:=gz _ _ CD;have gk:=gk.trans gz;refine⟨leN rfl,?_⟩;intro pr n_pr;generalize hz:upd _ pr _=G4;revert G4;refine blk ?_;intro G4 hz;have gz:=Zr hz n_pr;have dH:=Y5 hz;clear hz;have gg:=gg.trans gz;have aV:=gz _ _ aV;have e_u:=gz _ _ e_u;have CD:=gz _ _ CD;have Cw:=gz _ _ Cw;have gk:=gk.trans gz;have CD:KAt G4 a (loK h j):=CD;have Cw:KAt G4 b (hiK h j):=Cw;have e_u:KAt G4 u (upK h j):=e_u;refine⟨⟨.inl rfl,.inl rfl,.inl rfl,.inl rfl,.inl rfl,.inl rfl,.inl rfl,.inl rfl,.inl rfl,.inr rfl,.inl rfl,trivial⟩,?_⟩;refine⟨_,rfl,_,rfl,leN rfl,?_⟩;intro pt n_pt;generalize hz:upd _ pt _=G5;revert G5;refine blk ?_;intro G5 hz;have gz:=Zr hz n_pt;have e_pt:=Y5 hz;clear hz;have gg:=gg.trans gz;have aV:=gz _ _ aV;have e_u:=gz _ _ e_u;have CD:=gz _ _ CD;have Cw:=gz _ _ Cw;have dH:=gz _ _ dH;have gk:=gk.trans gz;refine⟨pr,pt,_,_,rfl,rfl,dH,e_pt,leN rfl,?_⟩;intro pc n_pc;generalize hz:upd _ pc _=G6;revert G6;refine blk ?_;intro G6 hz;have gz:=Zr hz n_pc;have xk:=Y5 hz;clear hz;have gg:=gg.trans gz;have aV:=gz _ _ aV;have e_u:=gz _ _ e_u;have CD:=gz _ _ CD;have Cw:=gz _ _ Cw;have dH:=gz _ _ dH;have gk:=gk.trans gz;refine⟨pc,rfl,⟨_,SqL.of xk⟩,?_⟩;refine Xe (xs:=[.ref a,.ref b,.ref u]) (fun n ys H'=>H'=G6∧ys=([cnt ps (loK h j),cnt ps (hiK h j),cnt ps (upK h j)].take n).map V.int) ⟨rfl,rfl⟩ ?_ ?_ ?_
   ·rintro n ys H' _ ⟨rfl,_⟩;exact SqL.of xk
   ·rintro n x ys H' C hx ⟨rfl,rfl⟩ hC;obtain⟨o,ko,rfl,e_o,tk,n3⟩:∃(o:Addr)(ko:Int×Int),x=.ref o∧KAt H' o ko∧([cnt ps (loK h j),cnt ps (hiK h j),cnt ps (upK h j)].take (n+1)).map V.int=([cnt ps (loK h j),cnt ps (hiK h j),cnt ps (upK h j)].take n).map V.int++[V.int (cnt ps ko)]∧n<3:=by
     match n,hx with
     | 0,hx=>cases hx;exact⟨a,_,rfl,CD,rfl,by decide⟩
     | 1,hx=>cases hx;exact⟨b,_,rfl,Cw,rfl,by decide⟩
     | 2,hx=>cases hx;exact⟨u,_,rfl,e_u,rfl,by decide⟩
     |n+3,hx=>simp at hx
    refine⟨Zq (by rw[pi,zu];omega),Wk.refl _,?_⟩;refine⟨_,rfl,d,rfl,.inr ⟨_,.inl aV⟩,_,rfl,_,X7 aV e_o,?_⟩;rw[W0];exact hC _ _ ⟨rfl,tk.symm⟩
   rintro ys H' ⟨rfl,rfl⟩;refine⟨leN rfl,?_⟩;intro sl n_sl;generalize hz:upd _ sl _=G7;revert G7;refine blk ?_;intro G7 hz;have gz:=Zr hz n_sl;have yj:=Y5 hz;clear hz;have gg:=gg.trans gz;have aV:=gz _ _ aV;have e_u:=gz _ _ e_u;have CD:=gz _ _ CD;have Cw:=gz _ _ Cw;have dH:=gz _ _ dH;have gk:=gk.trans gz;refine⟨sl,_,rfl,SqL.of yj,?_⟩;have ej:(List.take [V.ref a,V.ref b,V.ref u].length [cnt ps (loK h j),cnt ps (hiK h j),cnt ps (upK h j)]).sum=jn ps h j:=by
    show[cnt ps (loK h j),cnt ps (hiK h j),cnt ps (upK h j)].sum=_;unfold jn;rw[zo,zo,zo,List.sum_nil];omega
   rw[ej];clear ej yj;refine⟨_,rfl,_,rfl,_,_,rfl,rfl,_,rfl,Xm (fun c=>?_) (fun c=>?_)⟩
   ·have ft:Fst or bar ps h j:=by
     obtain⟨k,hk,k1,k2⟩:=(jm j).mp (zB hj);refine⟨?_,by omega,yW c,fun k hk h1 h2=>?_⟩
     ·rcases Ra k with e | e
      ·rw[k1,k2]at e;exact .inl (by rw[←e];exact hk)
      ·rw[k1,k2]at e;exact .inr (by rw[←e];exact hk)
     ·rcases Int.lt_trichotomy h k.1 with z | z | z
      ·exact .inl z
      ·refine .inr ⟨z,?_⟩;obtain⟨m,hm⟩:=Ay ((jm (k.2 / 2)).mpr ⟨k,hk,z.symm,rfl⟩)
       rcases Nat.lt_trichotomy m n with y | y | y
       ·have:=bef2 m _ y hm;rw[z]at this;omega
       ·rw[y,hj]at hm;cases hm;exact zJ _
       ·exact om jw hj hm y
      ·have:=bef k hk (by omega);omega
    have gd:Grw d H G7:=fun x w e=>by
     obtain⟨e1,e2⟩:=Z7 e;rw[Zh e1];exact gg _ _ e2
    clear bef bef2 hN hN2 jm jw hj;refine⟨⟨.inl rfl,.inl rfl,.inl rfl,.inl rfl,.inl rfl,.inl rfl,.inl rfl,.inl rfl,.inl rfl,.inr rfl,.inl rfl,trivial⟩,_,rfl,pr,rfl,⟨_,SqL.of dH⟩,?_⟩;refine Xe (xs:=[.ref a,.ref b]) (fun n ys H'=>n≤2∧Same G7 H'∧∃as:List Addr,ys=as.map V.ref∧Paired (FT H') as (tjs ps h j n)) ⟨by decide,Same.refl _,[],rfl,.nil⟩ ?_ ?_ ?_
    ·rintro n ys H' _ ⟨_,g,_⟩;exact SqL.of (g _ _ dH)
    ·rintro n x ys H' C hx ⟨_,g,as,rfl,pf⟩ hC;obtain⟨o,ko,rfl,e_o,tk,n2⟩:∃(o:Addr)(ko:Int×Int),x=.ref o∧KAt H' o ko∧tjs ps h j (n+1)=tjs ps h j n++aG ps ko∧n<2:=by
      match n,hx with
      | 0,hx=>cases hx;exact⟨a,_,rfl,g _ _ CD,rfl,by decide⟩
      | 1,hx=>cases hx;exact⟨b,_,rfl,g _ _ Cw,rfl,by decide⟩
      |n+2,hx=>simp at hx
     have al:=zd pf;have tl:(tjs ps h j n).length≤n:=by
      match n,n2 with
      | 0,_=>exact yM _
      | 1,_=>show(aG ps (loK h j)).length≤1;unfold aG;split <;> simp
     rw[tk]at hC;generalize tjs ps h j n=ts at pf hC al tl;refine⟨Zq (by rw[pi];omega),Wk.refl _,?_⟩;refine⟨_,rfl,_,rfl,d,_,rfl,X7 (g _ _ aV) e_o,_,rfl,Xm (fun cc=>?_) (fun cc=>?_)⟩
     ·have kin:=Wj.mp cc;have et:aG ps ko=[(ko,cnt ps ko)]:=by unfold aG;rw[yL kin]
      rw[et]at hC;have gm:DGet H' d (.ref o) (some (.int (cnt ps ko))):=by rw[←Wl kin];exact X7 (g _ _ aV) e_o
      refine⟨_,rfl,_,rfl,_,rfl,d,_,rfl,gm,leN rfl,fun q nq=>hC _ _ ⟨n2,g.trans (Z6 nq _),as++[q],by rw[zk];rfl,Paired.snoc (Paired.mapP pf fun _ _ f=>Zv (Z6 nq _) f) ⟨o,Z4,Z6 nq _ _ _ e_o⟩⟩⟩
     ·have kin:ko∉ps.map (·.1):=fun z=>cc (Wj.mpr z);have et:aG ps ko=[]:=by unfold aG;rw[yK kin]
      rw[et,AJ]at hC;exact hC _ _ ⟨n2,g,as,rfl,pf⟩
    rintro ys H' ⟨_,gs,as,rfl,pf⟩;have pf:Paired (FT H') as (flP ps h j):=pf;have al:=zd pf;have tl:=vP ps h j;refine⟨Ze (by rw[pi];omega),fun T n_T=>⟨⟨.inl rfl,.inl rfl,.inl rfl,.inl rfl,.inl rfl,.inl rfl,.inl rfl,.inl rfl,.inl rfl,.inr rfl,.inl rfl,trivial⟩,?_⟩⟩;have sT:=Z6 n_T (.lst (as.map V.ref));have e_T:(upd H' T (.lst (as.map V.ref))) T=some (.lst (as.map V.ref)):=Z4;have nHT:H T=none:=gg.free (gs.free n_T);have pf:=Paired.mapP pf fun _ _ f=>Zv sT f;have gs:=gs.trans sT;generalize upd H' T (.lst (as.map V.ref))=G8 at pf gs e_T⊢;have bF:=gs _ _ aV;have e_u3:KAt G8 u (upK h j):=gs _ _ e_u;have gd:=gd.trans (Same.grw gs);have fnd:=x9 ps h j;have fin:=xA ps h j;have fdr:=ug ps h j;dsimp only;refine Yx (fun σ' H'=>∃o9 o10:Option V,σ'=[some (.ref d),some (.int or),some (.int bar),some (.int h),some (.int j),some (.ref u),some (.ref pr),some (.int (jn ps h j)),some (.ref T),o9,o10]∧Grw d G8 H'∧H' d=some (.dT (af (aq (aq ps (loK h j)) (hiK h j))))) ?_ ?_
    ·intro nx hnx;rw[←fdr]at hnx;generalize flP ps h j=fs at pf al tl fnd fin hnx;refine⟨_,rfl,T,rfl,⟨_,SqL.of e_T⟩,?_⟩;refine X3 (xs:=as.map V.ref) (fun n σ H'=>∃o9 o10:Option V,σ=[some (.ref d),some (.int or),some (.int bar),some (.int h),some (.int j),some (.ref u),some (.ref pr),some (.int (jn ps h j)),some (.ref T),o9,o10]∧Grw d G8 H'∧H' d=some (.dT (af (ci ps (fs.take n))))) ⟨_,_,rfl,Grw.refl,bF⟩ ?_ ?_ ?_
     ·rintro n σ H' _ ⟨_,_,_,g,_⟩;exact SqL.of (g.lst bF e_T)
     ·rintro n x σ H' N3 B3 R3 hN3 hR3 hx ⟨o9,o10,rfl,g,nO⟩;obtain⟨fa,p,rfl,hp,kb,wp,vi⟩:=Sb pf hx;have wp:=g.tup bF wp;have vi:=g.tup bF vi;refine⟨fa,_,rfl,SqT.of wp,rfl,_,_,rfl,_,_,rfl,rfl,?_⟩;have lk:ai (ci ps (fs.take n)) p.1=some (.int p.2):=by
       rw[Qh,yK fun z=>?_]
       ·exact fin p (zB hp)
       ·obtain⟨m,hm⟩:=Ay z;rw[zc,z7]at hm
        split at hm
        ·obtain⟨p',hp',e⟩:=zV.mp hm;have:=om fnd (i:=m) (j:=n) (a:=p'.1) (b:=p.1) (by rw[zc,hp'];rfl) (by rw[zc,hp];rfl) (by assumption);exact this e
        ·cases hm
      refine⟨_,rfl,S2 nO,_,rfl,d,kb,_,kk p.1,_,rfl,rfl,nO,vi,lk,?_⟩;refine hN3 _ _ ⟨_,_,rfl,g.trans X2,?_⟩;rw[jo hp,kD];exact Z4
     ·rintro σ H' ⟨o9,o10,rfl,g,nO⟩;rw[pi,al,zG]at nO;exact hnx _ _ ⟨_,_,rfl,g,nO⟩
    rintro σ' G9 ⟨o9,o10,rfl,g9,e_d9⟩;have dl:(aq (aq ps (loK h j)) (hiK h j)).length≤ps.length:=zP (Qx _ _) (Qx _ _);refine⟨_,rfl,_,rfl,_,rfl,d,_,rfl,DPut.t (k:=kk (upK h j)) e_d9 (g9.tup bF e_u3) (Zq (by rw[Zs];omega)),?_⟩;refine⟨_,rfl,hR2 _ _ (hR _ _ (hq1 h j T _ ft (gd.trans (g9.trans X2)) nHT ?_ ⟨as,?_,?_⟩))⟩
    ·unfold cx;rw[←Uz];exact Z4
    ·exact Grw.lst (d:=d) (g9.trans X2) bF e_T
    ·exact Paired.mapP pf fun _ _ ⟨y,e1,e2⟩=>⟨y,Grw.tup (d:=d) (g9.trans X2) bF e1,Grw.tup (d:=d) (g9.trans X2) bF e2⟩
   ·refine hN2 _ _ ⟨_,_,_,_,_,_,_,rfl,g2.trans gk,fun m j' hm e=>?_⟩
    rcases Nat.lt_succ_iff_lt_or_eq.mp hm with z | z
    ·exact bef2 m j' z e
    ·rw[z,hj]at e;cases e;have:=z6 (z5.mpr c);omega
  ·rintro σ H2 ⟨o4,o5,o6,o7,o8,o9,o10,rfl,g2,all2⟩;refine hN _ _ ⟨_,_,_,_,_,_,_,_,rfl,gg.trans g2,fun k hk z=>?_⟩
   rcases Cg k.1 h with y | y
   ·exact bef k hk (by omega)
   ·have kh:k.1=h:=by omega
    obtain⟨m,hm⟩:=Ay ((jm (k.2 / 2)).mpr ⟨k,hk,kh,rfl⟩);rw[kh];refine all2 m _ ?_ hm;rw[pi];exact(yZ.mp hm).1
 ·rintro σ H2 ⟨o3,o4,o5,o6,o7,o8,o9,o10,rfl,g2,all⟩;refine⟨_,(Z8 (Zg (Y1 Z1))),leN rfl,fun l nl=>hq0 l _ (fun k hk z=>all k hk (by omega)) (g2.trans (Z6 nl _)) (g2.free nl) Z4⟩
theorem FsAt.grw{d l:Addr}{H H':Hp}{kvs:List (List Key×V)}{fs:Sps}(g:Grw d H H')(ed:H d=some (.dT kvs))(h:FsAt H l fs):FsAt H' l fs:=by
 obtain⟨as,e,p⟩:=h;exact⟨as,Grw.lst (d:=d) g ed e,Paired.mapP p fun _ _ ⟨y,e1,e2⟩=>⟨y,Grw.tup (d:=d) g ed e1,Grw.tup (d:=d) g ed e2⟩⟩
def eU(p:(Int×Int)×Int):PyData:=.tuple [.tuple [.int p.1.1,.int p.1.2],.int p.2]
def b6(fs:Sps):List PyData:=fs.map eU
theorem yE{H:Hp}{a:Addr}{p:(Int×Int)×Int}(h:FT H a p):DV H (.ref a) (eU p):=by
 obtain⟨b,e1,e2⟩:=h;exact .tup e1 (.cons (.tup e2 (.cons (.int _) (.cons (.int _) .nil))) (.cons (.int _) .nil))
theorem nX{H:Hp}:∀{as:List Addr}{fs:Sps},Paired (FT H) as fs→DVs H (as.map V.ref) (b6 fs)
 |_,_,.nil=>.nil
 |_,_,.cons e r=>.cons (yE e) (nX r)
theorem nA(p:(Int×Int)×Int):(eU p).canLay0=true∧(eU p).depth≤4:=by
 unfold eU;refine⟨?_,?_⟩
 ·simp[PyData.canLay0,PyData.canLayAll0]
 ·simp[PyData.depth,PyData.depthAll]
theorem lR(fs:Sps):(PyData.list (b6 fs)).canLay0=true∧(PyData.list (b6 fs)).depth≤5:=Ql fs fun p _=>nA p
theorem FsAt.dv{H:Hp}{l:Addr}{fs:Sps}(h:FsAt H l fs):DV H (.ref l) (.list (b6 fs)):=by
 obtain⟨as,e,p⟩:=h;exact .lst e (nX p)
theorem R6:(PyData.list []).canLay0=true∧(PyData.list []).depth≤5:=⟨rfl,by decide⟩
theorem me(fs:Sps):(b6 fs).isEmpty=true↔fs=[]:=by
 unfold b6;cases fs <;> simp
def iZ:Sp:=fun vs H Q _=>∃(d:Addr)(Cq or:Int)(ps:Sps),vs=[.ref d,.int Cq,.int or]∧H d=some (.dT (af ps))∧Kok or (ps.map (·.1))∧1≤Cq∧Cq≤20∧0≤or∧or≤20∧ps.length<64∧
 ∀(t:Addr)(H':Hp)(fs qs:Sps),Grw d H H'→H t=none→H' d=some (.dT (af qs))→FsAt H' t fs→fs.length≤1400→Stl or (aj ps / Cq) ps fs qs→Kok or (qs.map (·.1))→qs.length≤ps.length→Q (.ref t) H'
theorem j8(ps:Sps):(af ps).map (·.2)=(ps.map (·.2)).map V.int:=by
 unfold af;rw[zf,zf];rfl
def muS(or:Int)(d:Addr)(σ:St)(H:Hp):Nat:=2*muD or d H+match List.getD σ 5 none with
 |some (V.ref l)=>(match H l with
  |some (HO.lst [])=>0
  |_=>1)
 |_=>1
theorem vc(or:Int)(d:Addr)(σ:St)(H:Hp):muS or d σ H≤2*muD or d H+1:=by
 unfold muS;refine Nat.add_le_add_left ?_ _
 split
 ·split <;> omega
 ·omega
theorem qC{or Cq bar:Int}{d t l:Addr}{H:Hp}{ss:Sps}(h:FsAt H l ss)(n:ss≠[]):muS or d [some (V.ref d),some (V.int Cq),some (V.int or),some (V.int bar),some (V.ref t),some (V.ref l)] H=2*muD or d H+1:=by
 obtain⟨as,e,p⟩:=h;unfold muS;show 2*muD or d H+(match H l with
  |some (HO.lst [])=>0
  |_=>1)=_
 rw[e];cases p with
 |nil=>exact absurd rfl n
 |cons _ _=>rfl
theorem qh{or Cq bar:Int}{d t l:Addr}{H:Hp}(h:H l=some (.lst [])):muS or d [some (V.ref d),some (V.int Cq),some (V.int or),some (V.int bar),some (V.ref t),some (V.ref l)] H=2*muD or d H:=by
 unfold muS;show 2*muD or d H+(match H l with
  |some (HO.lst [])=>0
  |_=>1)=_
 rw[h];rfl
theorem eO{α β:Type}{F:α→β→Prop}:∀{xs:List α}{ys:List β}{as:List α}{bs:List β},Paired F xs ys→Paired F as bs→Paired F (xs++as) (ys++bs)
 |_,_,_,_,.nil,h=>h
 |_,_,_,_,.cons e r,h=>.cons e (eO r h)
theorem kJ{ps:Sps}{h j:Int}(i:loK h j∈ps.map (·.1)∨hiK h j∈ps.map (·.1)):flP ps h j≠[]:=fun z=>by
 have:=jh i;rw[z]at this;cases this
structure Lsg(H H':Hp)(d t l:Addr)(or bar:Int)(n0 M:Nat)(ps qs fs ss:Sps):Prop where
 g:Grw d H H'
 ed:H' d=some (.dT (af qs))
 nt:H t=none
 et:FsAt H' t fs
 el:FsAt H' l ss
 ok:Kok or (qs.map (·.1))
 le:qs.length≤n0
 few:fs.length+ss.length+mea or (qs.map (·.1))≤M
 alt:(ss=[]∧Nof or bar qs∧Way or bar ps fs qs)∨(ss≠[]∧Way or bar ps (fs++ss) qs)
theorem q9(ba:mg "sum"=none)(av:mg "list"=none)(bX:Has P w K mg base "_law_fold_once" 1 ["_law_now","_law_deep","_law_bar"] um)(F:Fun K "_law_settle" "_law_settle" b7 f fd):FnOk P w K mg base CX0 2 f fd ["_law_now","_law_room","_law_deep"] iZ:=by
 refine F.ok Xa (fun vs H Q E h=>?_) (fun cdv A outer s H vs Q E hr h=>?_)
 ·obtain⟨d,Cq,or,ps,rfl,_⟩:=h;rfl
 obtain⟨d,Cq,or,ps,rfl,e_d,kok,r0,r1,d0,d1,pl,hq⟩:=h;refine⟨_,(Z2 (Zp 3 Xa.nd rfl (Or.inl rfl) (Z9 Wq (Zf (U3 rfl) rfl ba Bj (Z0 (Y8 (Su rfl) rfl av AD (Z0 (Q4 Al A4 PySem.F.type_dict_values Qa (pv 0)) Z1)) Z1)) (pv 1))) Zd),?_⟩;have gg:Same H H:=Same.refl _;refine⟨_,rfl,S2 e_d,d,_,rfl,rfl,e_d,?_⟩;intro v n_v;generalize hz:upd _ v _=H1;revert H1;refine blk ?_;intro H1 hz;have gz:=Zr hz n_v;have e_v:=Y5 hz;clear hz;have gg:=gg.trans gz;have e_d:=gz _ _ e_d;refine⟨v,d,_,rfl,e_v,e_d,?_⟩;rw[j8];intro w2 n_w2;generalize hz:upd _ w2 _=H2;revert H2;refine blk ?_;intro H2 hz;have gz:=Zr hz n_w2;have xB:=Y5 hz;clear hz;have gg:=gg.trans gz;have e_d:=gz _ _ e_d;refine⟨w2,_,rfl,SqL.of xB,_,rfl,_,_,rfl,rfl,⟨by omega,by omega⟩,?_⟩;show wy _ _ _ [_,_,_,some (V.int (aj ps / Cq)),_,_] _;generalize hbar:aj ps / Cq=bar at hq⊢;refine⟨_,(Z2 (Zp 4 Xa.nd rfl (Or.inl rfl) (Y1 Z1)) Zd),leN rfl,?_⟩;intro t n_t;generalize hz:upd _ t _=H3;revert H3;refine blk ?_;intro H3 hz;have gz:=Zr hz n_t;have CG:=Y5 hz;clear hz;have gg:=gg.trans gz;have e_d:=gz _ _ e_d;have nt:H t=none:=(by assumption:Same H H2).free n_t;have m0:mea or (ps.map (·.1))≤21*ps.length:=by
  have:=oZ d1 (ks:=ps.map (·.1)) fun k hk=>(kok.st k hk).1
  rwa [pi]at this
 have ft:FsAt H3 t []:=⟨[],CG,.nil⟩;clear e_v xB CG;refine⟨_,(Z2 (Zp 5 Xa.nd rfl (Or.inl rfl) (Z5 bX hr (Z0 (pv 0) (Z0 (pv 2) (Z0 (pv 3) Z1))))) Zd),?_⟩;refine Yx (fun σ' H'=>∃(l:Addr)(qs ss:Sps),σ'=[some (.ref d),some (.int Cq),some (.int or),some (.int bar),some (.ref t),some (.ref l)]∧Lsg H H' d t l or bar ps.length (mea or (ps.map (·.1))) ps qs [] ss) ?_ ?_
 ·intro nx hnx;refine⟨_,rfl,_,rfl,_,rfl,d,or,bar,ps,rfl,e_d,kok,d0,d1,pl,fun l H' nof g nl el=>hnx _ _ ⟨l,ps,[],rfl,⟨Same.grw (gg.trans g),g _ _ e_d,nt,ft.same g,⟨[],el,.nil⟩,kok,Nat.le_refl _,by simp,.inl ⟨rfl,nof,Way.refl⟩⟩⟩,fun h j l H' fst g nl ed fl=>hnx _ _ ⟨l,cx ps h j,flP ps h j,rfl,?_⟩⟩;have pm:=Ot kok.nd fst.in_;have so:=V0 (j:=j) kok fst.hd;exact⟨(Same.grw gg).trans g,ed,nt,ft.grw g e_d,fl,so.1.perm (pm.map _),by rw[pm.length_eq];exact so.2.2,by rw[Qe (pm.map _)];have:=so.2.1;rw[Ai];omega,.inr ⟨kJ fst.in_,Way.refl.snoc fst pm⟩⟩
 clear ft e_d gg;rintro σ' H4 ⟨l,qs,ss,rfl,lg⟩;generalize hM:mea or (ps.map (·.1))=M at lg m0;refine⟨_,(Z2 (Ry zQ (Zn (pV hr.units) (pv 5) (Y1 Z1) (Zk _)) (Z2 (Zp 4 Xa.nd rfl (Or.inl rfl) (Z9 W2 (pv 4) (pv 5)))
 (Z8 (Zp 5 Xa.nd rfl (Or.inl rfl) (Z5 bX hr (Z0 (pv 0) (Z0 (pv 2) (Z0 (pv 3) Z1)))))))) Zd),?_⟩
 refine Rh (fun σ H'=>∃(t l:Addr)(qs fs ss:Sps),σ=[some (.ref d),some (.int Cq),some (.int or),some (.int bar),some (.ref t),some (.ref l)]∧Lsg H H' d t l or bar ps.length M ps qs fs ss) (muS or d) ⟨t,l,qs,[],ss,rfl,lg⟩ ?_ ?_
 ·clear nt n_t;rintro σ H5 ⟨t,l,qs,fs,ss,rfl,lg⟩;refine⟨_,rfl,leN rfl,fun p np=>?_⟩;have sp:=Z6 np (.lst []);have Cy:(upd H5 p (.lst [])) p=some (.lst []):=Z4;have mu5:muD or d H5=mea or (qs.map (·.1)):=hZ lg.ed;have ms:=qC (or:=or) (d:=d) (Cq:=Cq) (bar:=bar) (t:=t) lg.el;have g6:=lg.g.trans (Same.grw sp);have ed6:=sp _ _ lg.ed;have et6:=lg.et.same sp;have el6:=lg.el.same sp;have ok6:=lg.ok;have le6:=lg.le;have few6:=lg.few;have alt6:=lg.alt;have nt6:=lg.nt;generalize upd H5 p (.lst [])=H6 at Cy g6 ed6 et6 el6⊢;refine⟨_,_,el6.dv,.lst Cy .nil,Yw (lR ss) (by decide),Yw R6 (by decide),_,rfl,?_⟩;rw[Rc]
  rcases alt6 with⟨rfl,nof,way⟩|⟨sn,way⟩
  ·refine Ww ⟨_,(Z8 (Zg (pv 4))),_,rfl,?_⟩;exact hq t _ fs qs g6 nt6 ed6 et6 (by omega) (way.done nof) ok6 le6
  ·have em:(b6 ss).isEmpty=false:=z5.mpr fun z=>sn ((me ss).mp z);rw[em];rw[mu5]at ms;have ms:=ms sn;obtain⟨as,CG,pt⟩:=et6;obtain⟨bs,CB,pb⟩:=el6;have al:=zd pt;have bl:=zd pb;refine Wv ⟨_,rfl,_,rfl,t,l,_,_,rfl,rfl,CG,CB,Ze (by rw[pi,pi];omega),fun u nu=>?_⟩;have su:=Z6 nu (.lst (as.map V.ref++bs.map V.ref));have fu:FsAt (upd H6 u (.lst (as.map V.ref++bs.map V.ref))) u (fs++ss):=⟨as++bs,by rw[zk];exact Z4,eO (Paired.mapP pt fun _ _ f=>Zv su f) (Paired.mapP pb fun _ _ f=>Zv su f)⟩;have nu6:H u=none:=by
    by_cases z:u=d
    ·rw[z,ed6]at nu;cases nu
    ·cases e:H u with
     |none=>rfl
     |some o=>
      have:=(Z7 (g6 u o (by rw[Zh z];exact e))).2;rw[this]at nu;cases nu
   have g6:=g6.trans (Same.grw su);have ed6:=su _ _ ed6;generalize upd H6 u (.lst (as.map V.ref++bs.map V.ref))=H7 at fu g6 ed6⊢;clear CG CB pt pb;refine⟨_,rfl,_,rfl,_,rfl,d,or,bar,qs,rfl,ed6,ok6,d0,d1,by omega,fun l' H' nof g nl el=>⟨⟨u,l',qs,fs++ss,[],rfl,⟨g6.trans (Same.grw g),g _ _ ed6,nu6,fu.same g,⟨[],el,.nil⟩,ok6,le6,by rw[yR,Ai];omega,.inl ⟨rfl,nof,way⟩⟩⟩,?_⟩,fun h j l' H' fst g nl ed fl=>⟨⟨u,l',cx qs h j,fs++ss,flP qs h j,rfl,?_⟩,?_⟩⟩
   ·have m1:muD or d H'=mea or (qs.map (·.1)):=hZ (g _ _ ed6);have:=qh (or:=or) (d:=d) (Cq:=Cq) (bar:=bar) (t:=u) el;rw[m1]at this;show muS or d [some (V.ref d),some (V.int Cq),some (V.int or),some (V.int bar),some (V.ref u),some (V.ref l')] H'<_;omega
   ·have pm:=Ot ok6.nd fst.in_;have so:=V0 (j:=j) ok6 fst.hd;exact⟨g6.trans g,ed,nu6,fu.grw g ed6,fl,so.1.perm (pm.map _),by rw[pm.length_eq];have:=so.2.2;omega,by rw[Qe (pm.map _),yR];have:=so.2.1;omega,.inr ⟨kJ fst.in_,way.snoc fst pm⟩⟩
   ·have pm:=Ot ok6.nd fst.in_;have so:=V0 (j:=j) ok6 fst.hd;have fp:=jh fst.in_;have m1:muD or d H'=mea or ((cx qs h j).map (·.1)):=hZ ed;rw[Qe (pm.map _)]at m1;have:=vc or d [some (V.ref d),some (V.int Cq),some (V.int or),some (V.int bar),some (V.ref u),some (V.ref l')] H';show muS or d [some (V.ref d),some (V.int Cq),some (V.int or),some (V.int bar),some (V.ref u),some (V.ref l')] H'<_;have:=so.2.1;omega
 ·rintro σ H' Q1 Q2 m ⟨v,e,lN,h⟩;exact⟨v,e,lN,fun p np=>let ⟨a,b,c1,c2,c3,c4,k,ek,r⟩:=h p np;⟨a,b,c1,c2,c3,c4,k,ek,m _ _ r⟩⟩
end K29
namespace Ld
open PySem L2
structure Pok(or:Int)(ps:Sps):Prop where
 kok:Kok or (ps.map (·.1))
 pos:∀p∈ps,1≤p.2
theorem Pok.perm{or:Int}{ps qs:Sps}(h:Pok or ps)(p:qs.Perm ps):Pok or qs:=⟨h.kok.perm (p.map _),fun x hx=>h.pos x (p.mem_iff.mp hx)⟩
theorem jM{or:Int}:Pok or []:=⟨⟨zO,fun _ h=>nomatch h⟩,fun _ h=>nomatch h⟩
theorem Uk{or:Int}{ps:Sps}(h:Pok or ps)(k:Int×Int):0≤cnt ps k:=by
 by_cases hk:k∈ps.map (·.1)
 ·obtain⟨p,hp,rfl⟩:=yO.mp hk;rw[Yd h.kok.nd hp];have:=h.pos p hp;omega
 ·rw[Zz hk];exact zJ _
theorem jT{or:Int}{ps:Sps}(h:Pok or ps){k:Int×Int}(hk:k∈ps.map (·.1)):1≤cnt ps k:=by
 obtain⟨p,hp,rfl⟩:=yO.mp hk;rw[Yd h.kok.nd hp];exact h.pos p hp
theorem j_{or:Int}{ps:Sps}{k:Int×Int}{n:Int}(h:Pok or ps)(hk:0≤k.1∧k.1≤or∧0≤k.2∧k.2<2^(or-k.1).toNat)(hn:1≤n):Pok or (ak ps k n):=by
 refine⟨⟨Y9 h.kok.nd,fun x hx=>?_⟩,fun p hp=>?_⟩
 ·rw[Xy]at hx
  split at hx
  ·exact h.kok.st x hx
  ·rcases ze.mp hx with hx | hx
   ·exact h.kok.st x hx
   ·rw[yP.mp hx];exact hk
 ·unfold ak at hp
  split at hp
  ·obtain⟨q,hq,rfl⟩:=yO.mp hp
   split
   ·exact hn
   ·exact h.pos q hq
  ·rcases ze.mp hp with hp | hp
   ·exact h.pos p hp
   ·rw[yP.mp hp];exact hn
theorem eV{or:Int}{ps:Sps}{h j:Int}(o:Pok or ps)(i:loK h j∈ps.map (·.1)∨hiK h j∈ps.map (·.1))(hd:h<or):Pok or (aS ps h j):=by
 have so:=V0 (j:=j) o.kok hd;refine⟨so.1,fun p hp=>?_⟩;have e:=Ws so.1.nd hp;rw[Vm i]at e
 split at e
 ·cases e
 ·split at e
  ·injection e with e
   injection e with e
   rw[←e];unfold jn;have a:=Uk o (loK h j);have b:=Uk o (hiK h j);have c:=Uk o (upK h j)
   rcases i with i | i
   ·have:=jT o i;omega
   ·have:=jT o i;omega
  ·exact o.pos p ((Qc o.kok.nd).mpr e)
theorem rJ{or bar:Int}{ps fs Cu:Sps}(s:Stl or bar ps fs Cu):Pok or ps→Pok or Cu∧Cu.length≤ps.length:=by
 induction s with
 |done n=>exact fun o=>⟨o,yM _⟩
 |step f p1 s ih=>
  intro o;have q:=eV o f.in_ f.hd;have z:=ih (q.perm p1);exact⟨z.1,zP z.2 (by rw[p1.length_eq];exact(V0 o.kok f.hd).2.2)⟩
theorem nV{or bar:Int}{ps fs Cu qs:Sps}(s:Stl or bar ps fs Cu)(p:ps.Perm qs)(nd:(ps.map (·.1)).Nodup):∃qs',Stl or bar qs fs qs'∧qs'.Perm Cu:=by
 cases s with
 |done n=>exact⟨qs,.done (Q8 n p nd),p.symm⟩
 |step f p1 s=>exact⟨Cu,by rw[jQ p nd];exact .step (f.perm p nd) (p1.trans (Pr p nd f.in_)) s,.refl _⟩
theorem pU{or bar:Int}{ps:Sps}:Nof or bar ps∨∃h j,Fst or bar ps h j:=by
 by_cases n:Nof or bar ps
 ·exact .inl n
 refine .inr ?_;have go:∀l:List (Int×Int),l.Pairwise (fun a b=>leK a b=true)→(∀k∈l,k∈ps.map (·.1))→(∃k∈l,k.1<or∧jn ps k.1 (k.2 / 2)≤bar)→∃k∈l,k.1<or∧jn ps k.1 (k.2 / 2)≤bar∧∀k'∈l,k'.1<or→jn ps k'.1 (k'.2 / 2)≤bar→k.1<k'.1∨(k.1=k'.1∧k.2 / 2≤k'.2 / 2):=by
  intro l
  induction l with
  |nil=>rintro _ _ ⟨k,hk,_⟩;cases hk
  |cons x l ih=>
   intro pw sub ex;rw[zR]at pw;by_cases c:x.1<or∧jn ps x.1 (x.2 / 2)≤bar
   ·refine⟨x,.head _,c.1,c.2,fun k' hk' _ _=>?_⟩
    rcases y8.mp hk' with e | hk'
    ·rw[e];exact .inr ⟨rfl,zJ _⟩
    ·rcases Vn.mp (pw.1 k' hk')with h | ⟨h,g⟩
     ·exact .inl h
     ·exact .inr ⟨h,by omega⟩
   ·obtain⟨k,hk,h1,h2⟩:=ex;have hk:k∈l:=(y8.mp hk).resolve_left fun e=>c (by rw[←e];exact⟨h1,h2⟩);obtain⟨k0,m,a1,a2,a3⟩:=ih pw.2 (fun z hz=>sub z (.tail _ hz)) ⟨k,hk,h1,h2⟩;refine⟨k0,.tail _ m,a1,a2,fun k' hk' b1 b2=>?_⟩
    rcases y8.mp hk' with e | hk'
    ·exact absurd (by rw[←e];exact⟨b1,b2⟩) c
    ·exact a3 k' hk' b1 b2
 have mk:∀k,k∈bd (ps.map (·.1))↔k∈ps.map (·.1):=fun k=>(Yv _).mem_iff;obtain⟨k,hk⟩:=Classical.not_forall.mp n;obtain⟨hk1,hk⟩:=Classical.not_imp.mp hk;obtain⟨hk2,hk⟩:=Classical.not_imp.mp hk;obtain⟨k0,m,a1,a2,a3⟩:=go (bd (ps.map (·.1))) (Ow _) (fun k h=>(mk k).mp h) ⟨k,(mk k).mpr hk1,hk2,by omega⟩;refine⟨k0.1,k0.2 / 2,?_,a1,a2,fun k' h1 h2 h3=>a3 k' ((mk k').mpr h1) h2 h3⟩
 rcases Ra k0 with e | e
 ·exact .inl (by rw[←e];exact(mk k0).mp m)
 ·exact .inr (by rw[←e];exact(mk k0).mp m)
theorem i_{or bar:Int}:∀(n:Nat)(ps:Sps),mea or (ps.map (·.1))≤n→Kok or (ps.map (·.1))→∃fs Cu,Stl or bar ps fs Cu
 |n,ps,hn,o=>by
  rcases pU (or:=or) (bar:=bar) (ps:=ps)with z | ⟨h,j,f⟩
  ·exact⟨[],ps,.done z⟩
  ·have so:=V0 (j:=j) o f.hd;have fp:=jh f.in_
   match n,hn with
   | 0,hn=>omega
   |n+1,hn=>
    obtain⟨fs,Cu,s⟩:=i_ n (aS ps h j) (by omega) so.1;exact⟨_,_,.step f (.refl _) s⟩
def cU(or bar:Int)(ps:Sps):Sps:=aA (Classical.epsilon fun Cu=>∃fs,Stl or bar ps fs Cu)
def wU(or bar:Int)(ps:Sps):Sps:=Classical.epsilon fun fs=>∃Cu,Stl or bar ps fs Cu
theorem R0{or bar:Int}{ps fs Cu:Sps}(s:Stl or bar ps fs Cu)(nd:(ps.map (·.1)).Nodup):cU or bar ps=aA Cu∧wU or bar ps=fs:=by
 refine⟨?_,?_⟩
 ·obtain⟨gs,t⟩:=Classical.epsilon_spec (p:=fun Cu=>∃fs,Stl or bar ps fs Cu) ⟨Cu,fs,s⟩;exact Rr (kZ t s (.refl _) nd).2
 ·obtain⟨qs,t⟩:=Classical.epsilon_spec (p:=fun fs=>∃Cu,Stl or bar ps fs Cu) ⟨fs,Cu,s⟩;exact(kZ t s (.refl _) nd).1
theorem rF{or bar:Int}{ps qs fs qs':Sps}(s:Stl or bar qs fs qs')(p:qs.Perm ps)(nd:(qs.map (·.1)).Nodup):cU or bar ps=aA qs'∧wU or bar ps=fs:=by
 obtain⟨Cu,t,p'⟩:=nV s p nd;have:=R0 t ((p.map _).nodup_iff.mp nd);exact⟨this.1.trans (Rr p'),this.2⟩
theorem jr(ps:Sps):aA (aA ps)=aA ps:=Rr (Zy ps)
theorem Uv{or bar:Int}{ps:Sps}(o:Pok or ps):Pok or (cU or bar ps)∧aA (cU or bar ps)=cU or bar ps∧Nof or bar (cU or bar ps)∧aj (cU or bar ps)=aj ps∧(cU or bar ps).length≤ps.length:=by
 obtain⟨fs,Cu,s⟩:=i_ (or:=or) (bar:=bar) _ ps (yM _) o.kok;have e:=(R0 s o.kok.nd).1;have f:=t_ s o.kok.nd;have g:=rJ s o;rw[e];refine⟨g.1.perm (Zy Cu),jr Cu,Q8 f.2.1 (Zy Cu).symm f.1,by rw[Wz (Zy Cu)];exact f.2.2,by rw[(Zy Cu).length_eq];exact g.2⟩
def az(xs ys:Sps):Sps:=ys.foldl (fun a p=>ak a p.1 (cnt a p.1+p.2)) xs
theorem P3(xs ys:Sps)(p:(Int×Int)×Int):az xs (ys++[p])=ak (az xs ys) p.1 (cnt (az xs ys) p.1+p.2):=by
 unfold az;rw[List.foldl_append];rfl
theorem Vd(xs ys:Sps)(p:(Int×Int)×Int):az xs (p::ys)=az (ak xs p.1 (cnt xs p.1+p.2)) ys:=rfl
theorem Te:∀{ys xs:Sps},(xs.map (·.1)).Nodup→((az xs ys).map (·.1)).Nodup
 | [],_,h=>h
 |_::ys,_,h=>Te (ys:=ys) (Y9 h)
theorem Up:∀(ys xs:Sps),(az xs ys).length≤xs.length+ys.length
 | [],xs=>yM _
 |p::ys,xs=>by
  have a:=Up ys (ak xs p.1 (cnt xs p.1+p.2));have b:=W5 xs p.1 (cnt xs p.1+p.2);rw[Vd,zw];omega
theorem eB:∀{ys xs:Sps},(xs.map (·.1)).Nodup→aj (az xs ys)=aj xs+aj ys
 | [],xs,_=>by
  show aj xs=aj xs+0;omega
 |p::ys,xs,h=>by
  rw[Vd,eB (Y9 h),Oq h];unfold aj;rw[yQ,zo];omega
theorem S0{or:Int}:∀{ys xs:Sps},Pok or xs→(∀p∈ys,1≤p.2∧0≤p.1.1∧p.1.1≤or∧0≤p.1.2∧p.1.2<2^(or-p.1.1).toNat)→Pok or (az xs ys)
 | [],_,h,_=>h
 |p::ys,xs,h,g=>by
  have gp:=g p (.head _);have:=Uk h p.1;exact S0 (ys:=ys) (j_ h gp.2 (by omega)) fun q hq=>g q (.tail _ hq)
theorem Pok.each{or:Int}{ys:Sps}(h:Pok or ys):∀p∈ys,1≤p.2∧0≤p.1.1∧p.1.1≤or∧0≤p.1.2∧p.1.2<2^(or-p.1.1).toNat:=fun p hp=>⟨h.pos p hp,h.kok.st p.1 (yO.mpr ⟨p,hp,rfl⟩)⟩
theorem Qi:∀{ys xs:Sps}(k:Int×Int),(ys.map (·.1)).Nodup→ai (az xs ys) k=if k∈ys.map (·.1)then some (.int (cnt xs k+cnt ys k))else ai xs k
 | [],xs,k,_=>by
  rw[B0,yK zC];rfl
 |p::ys,xs,k,nd=>by
  rw[yQ,zt]at nd;rw[Vd,Qi k nd.2,yQ];have cp:cnt (p::ys) k=if p.1=k then p.2 else cnt ys k:=by
   unfold cnt;rw[Yo]
   split <;> rename_i e
   ·split at e <;> rename_i z
    ·rw[yL z];injection e with e;injection e with e;exact e.symm
    ·rw[yK z,e]
   ·split at e <;> rename_i z
    ·exact absurd rfl (e p.2)
    ·rw[yK z]
     split
     ·rename_i n q;exact absurd q (e n)
     ·rfl
  by_cases e:p.1=k
  ·have hk:k∉ys.map (·.1):=by rw[←e];exact nd.1
   rw[yK hk,X5,yL e.symm,yL (show k∈p.1::ys.map (·.1) by rw[e];exact .head _),cp,yL e,e]
  ·rw[cp,yK e];by_cases hk:k∈ys.map (·.1)
   ·rw[yL hk,yL (zS _ hk),Ym,yK (Ne.symm e)]
   ·rw[yK hk,yK (fun q=>(y8.mp q).elim (fun z=>e z.symm) hk),X5,yK (Ne.symm e)]
theorem qX{xs ys us vs:Sps}(p:xs.Perm us)(q:ys.Perm vs)(nx:(xs.map (·.1)).Nodup)(ny:(ys.map (·.1)).Nodup):(az xs ys).Perm (az us vs):=by
 have nu:=(p.map (·.1)).nodup_iff.mp nx;have nv:=(q.map (·.1)).nodup_iff.mp ny;refine V5 (Te nx) (Te nu) fun k=>?_;rw[Qi k ny,Qi k nv,Xc p nx k,Sg (Xc p nx k),Sg (Xc q ny k)];by_cases hy:k∈ys.map (·.1)
 ·rw[yL hy,yL ((q.map _).mem_iff.mp hy)]
 ·rw[yK hy,yK fun z=>hy ((q.map _).mem_iff.mpr z)]
def bm(Cq or:Int)(xs ys:Sps):Sps:=cU or (aj (az xs ys) / Cq) (az xs ys)
structure Lok(Cq or:Int)(xs:Sps):Prop where
 pok:Pok or xs
 srt:aA xs=xs
 nof:Nof or (aj xs / Cq) xs
theorem tT{Cq or:Int}:Lok Cq or []:=⟨jM,by unfold aA;simp,fun _ h=>nomatch h⟩
theorem eK{Cq or:Int}{ps:Sps}(o:Pok or ps):Lok Cq or (cU or (aj ps / Cq) ps):=by
 obtain⟨a,b,c,d,_⟩:=Uv (bar:=aj ps / Cq) o;exact⟨a,b,by rw[d];exact c⟩
theorem R7{Cq or:Int}{xs ys:Sps}(hx:Pok or xs)(hy:Pok or ys):Lok Cq or (bm Cq or xs ys)∧aj (bm Cq or xs ys)=aj xs+aj ys∧(bm Cq or xs ys).length≤xs.length+ys.length:=by
 have o:=S0 hx hy.each;obtain⟨a,b,c,d,e⟩:=Uv (bar:=aj (az xs ys) / Cq) o;exact⟨eK o,by unfold bm;rw[d,eB hx.kok.nd],zP e (Up ys xs)⟩
def thL(Cq or:Int)(t:Th):Sps:=cU or (t.many / Cq) [((0,t.num),t.many)]
def cL(Cq or:Int)(ts:List Th):Sps:=ts.foldl (fun a t=>bm Cq or a (thL Cq or t)) []
def ThL(or:Int)(t:Th):Prop:=0≤t.num∧t.num<2^or.toNat∧1≤t.many
theorem Na{or:Int}{t:Th}(d0:0≤or)(h:ThL or t):Pok or [((0,t.num),t.many)]:=by
 refine⟨⟨zt.mpr ⟨zC,zO⟩,fun k hk=>?_⟩,fun p hp=>?_⟩
 ·have e:k=(0,t.num):=yP.mp hk;rw[e];refine⟨zJ _,d0,h.1,?_⟩;show t.num<2^(or-0).toNat;rw[Cj];exact h.2.1
 ·rw[yP.mp hp];exact h.2.2
theorem kL(t:Th):aj [((0,t.num),t.many)]=t.many:=by
 show t.many+0=t.many;omega
theorem iQ{Cq or:Int}{t:Th}(d0:0≤or)(h:ThL or t):Lok Cq or (thL Cq or t)∧aj (thL Cq or t)=t.many∧(thL Cq or t).length≤1:=by
 have o:=Na d0 h;have l:=eK (Cq:=Cq) o;obtain⟨a,b,c,d,e⟩:=Uv (bar:=t.many / Cq) o;rw[kL]at l d;exact⟨l,d,e⟩
theorem lc(Cq or:Int)(ts:List Th)(t:Th):cL Cq or (ts++[t])=bm Cq or (cL Cq or ts) (thL Cq or t):=by
 unfold cL;rw[List.foldl_append];rfl
def aR(ts:List Th):Int:=(ts.map (·.many)).sum
theorem kT{Cq or:Int}(d0:0≤or):∀(ts:List Th)(a:Sps),Lok Cq or a→(∀t∈ts,ThL or t)→Lok Cq or (ts.foldl (fun a t=>bm Cq or a (thL Cq or t)) a)∧aj (ts.foldl (fun a t=>bm Cq or a (thL Cq or t)) a)=aj a+aR ts∧(ts.foldl (fun a t=>bm Cq or a (thL Cq or t)) a).length≤a.length+ts.length
 | [],a,ha,_=>⟨ha,by show aj a=aj a+0;omega,yM _⟩
 |t::ts,a,ha,h=>by
  have ht:=iQ (Cq:=Cq) d0 (h t (.head _));have m:=R7 (Cq:=Cq) ha.pok ht.1.pok;obtain⟨i1,i2,i3⟩:=kT d0 ts _ m.1 fun x hx=>h x (.tail _ hx);refine⟨i1,?_,?_⟩
  ·rw[Ca,i2,m.2.1,ht.2.1];unfold aR;rw[yQ,zo];omega
  ·rw[Ca,zw];have:=m.2.2;have:=ht.2.2;omega
theorem Nh{Cq or:Int}(d0:0≤or){ts:List Th}(h:∀t∈ts,ThL or t):Lok Cq or (cL Cq or ts)∧aj (cL Cq or ts)=aR ts∧(cL Cq or ts).length≤ts.length:=by
 obtain⟨a,b,c⟩:=kT (Cq:=Cq) d0 ts [] tT h;refine⟨a,?_,?_⟩
 ·show aj (ts.foldl _ [])=_;rw[b];show(0:Int)+aR ts=aR ts;omega
 ·show(ts.foldl _ []).length≤_;rw[Ai,A5]at c;exact c
end Ld
namespace K29
open PySem L2 Ld
theorem v5{or h oh oi t:Int}(h0:0≤h)(h1:h≤oh)(h2:oh≤or)(i0:0≤oi)(i1:oi<2^(or-oh).toNat)(t0:0≤t)(t1:t<2^(oh-h).toNat):0≤oi*2^(oh-h).toNat+t∧oi*2^(oh-h).toNat+t<2^(or-h).toNat:=by
 have e:(or-h).toNat=(or-oh).toNat+(oh-h).toNat:=by omega
 have p:(0:Int)<2^(oh-h).toNat:=by
  have a3:((2^(oh-h).toNat:Nat):Int)=(2:Int)^(oh-h).toNat:=by push_cast;rfl
  have a2:0<(2:Nat)^(oh-h).toNat:=Nat.pow_pos (by decide);rw[←a3];omega
 rw[e,Int.pow_add];have q1:0≤oi*2^(oh-h).toNat:=Ck i0 (by omega);have q2:(oi+1)*2^(oh-h).toNat≤2^(or-oh).toNat*2^(oh-h).toNat:=AE (by omega) (by omega);rw[Ba,Ae]at q2;omega
theorem uW{K:W.Frag}{S:Addr}{ns:List Int}{H:Hp}{a d:Addr}{kvs:List (List Key×V)}{o:HO}(h:Pn K S ns H a)(e:H d=some (.dT kvs)):Pn K S ns (upd H d o) a:=by
 obtain⟨⟨i,r,ea⟩,s,f⟩:=h;refine⟨⟨i,r,by rw[Zb (V6 ea e (by intro z;cases z))];exact ea⟩,?_,f⟩
 rcases s with(s | ⟨u,s⟩) | s
 ·exact .inl (.inl (by rw[Zb (V6 s e (by intro z;cases z))];exact s))
 ·exact .inl (.inr ⟨u,by rw[Zb (V6 s e (by intro z;cases z))];exact s⟩)
 ·exact .inr s
def eX(K:W.Frag):Sp:=fun vs H Q _=>∃(a S:Addr)(ns:List Int)(or most:Int),vs=[.ref a,.int or,.int most]∧Pn K S ns H a∧1≤or∧or≤10∧0≤most∧most≤60∧∀(d:Addr)(H':Hp)(ps:Sps),H d=none→am a H' d=some (.dT (af ps))→Pok or ps→ps.length≤60→Pn K S ns H' a→Grw a H H'→Q (.ref d) H'
def ez(K:W.Frag):Sp:=fun vs H Q _=>∃(a S:Addr)(ns:List Int),vs=[.ref a]∧Pn K S ns H a∧∀(n:Int)(H':Hp),1≤n→Pn K S ns H' a→Grw a H H'→Q (.int n) H'
def kF(K:W.Frag):Sp:=fun vs H Q _=>∃(a S:Addr)(ns:List Int),vs=[.ref a]∧Pn K S ns H a∧∀(l:Addr)(Cq or:Int)(H':Hp),am a H' l=some (.lst [.int Cq,.int or])→1≤Cq→Cq≤20→1≤or→or≤10→Pn K S ns H' a→Grw a H H'→Q (.ref l) H'
def uB:Sp:=fun vs H Q _=>∃(d:Addr)(Cq or:Int)(ps:Sps),vs=[.ref d,.int Cq,.int or]∧H d=some (.dT (af ps))∧ps.length<64∧∀(r:Addr)(H':Hp),Same H H'→LadAt H' r Cq or (aj ps) (aA ps)→Q (.ref r) H'
variable{P:Program}{w:World}{K:W.Frag}{mg:Str→Option Value}{base:Heap}{f:Addr}{fd:FuncData}
theorem pX(ae:Has P w K mg base "_law_take" 1 ["_law_pen_here","_law_most"] (bw K))(F:Fun K "_law_sizes" "_law_sizes" cJ f fd):FnOk P w K mg base CX0 2 f fd ["_law_pen_here"] (kF K):=by
 refine F.ok Rw (fun vs H Q E h=>?_) (fun cdv A outer s H vs Q E hr h=>?_)
 ·obtain⟨a,S,ns,rfl,_⟩:=h;rfl
 obtain⟨a,S,ns,rfl,hp,hq⟩:=h;refine⟨_,(Z2 (Zp 1 Rw.nd rfl (Or.inl rfl) (Yp Yt (Y1 (Z0 Z3 (Z0 Z3 (Z0 Z3 (Z0 Z3 (Z0 Z3 (Z0 Z3 (Z0 Z3 (Z0 (Z9 Zm Z3 (Z5 ae hr (Z0 (pv 0) (Z0 Z3 Z1)))) Z1))))))))) (Z5 ae hr (Z0 (pv 0) (Z0 Z3 Z1)))))
 (Z8 (Zg (Y1 (Z0 (pv 1) (Z0 (Z9 Zm Z3 (Z5 ae hr (Z0 (pv 0) (Z0 (Yp Yt (Y1 (Z0 Z3 (Z0 Z3 (Z0 Z3 Z1)))) (Z5 ae hr (Z0 (pv 0) (Z0 Z3 Z1)))) Z1)))) Z1)))))),?_⟩
 refine⟨_,rfl,a,S,ns,20,rfl,hp,Xz rfl,ltI rfl,fun d1 H1 x0 x1 hp1 g1=>⟨_,_,rfl,rfl,leN rfl,fun p np=>?_⟩⟩;have x1:d1<20:=x1;have g2:=hp1.grw (Z6 np (.lst [.int 1,.int 2,.int 3,.int 4,.int 5,.int 8,.int 20,.int (1+d1)]));have pa:=hp1.ne np;have hp2:=hp1.laid (o:=.lst [.int 1,.int 2,.int 3,.int 4,.int 5,.int 8,.int 20,.int (1+d1)]) np;have Cy:am a (upd H1 p (.lst [.int 1,.int 2,.int 3,.int 4,.int 5,.int 8,.int 20,.int (1+d1)])) p=some (.lst [.int 1,.int 2,.int 3,.int 4,.int 5,.int 8,.int 20,.int (1+d1)]):=by rw[Zh pa];exact Z4
 refine⟨_,rfl,a,S,ns,8,rfl,hp2,Xz rfl,ltI rfl,fun d2 H3 y0 y1 hp3 g3=>?_⟩;have Cy:=g3 _ _ Cy;obtain⟨v,hv,mv⟩:=gA (d:=d2) (Z7 Cy).2 y0 y1;obtain⟨Cq,rfl,r0,r1⟩:∃z:Int,v=.int z∧1≤z∧z≤20:=by
  simp only[List.mem_cons,List.not_mem_nil,or_false]at mv
  rcases mv with rfl | rfl | rfl | rfl | rfl | rfl | rfl | rfl
  all_goals first | exact⟨_,rfl,by decide,by decide⟩ | exact⟨_,rfl,by omega,by omega⟩
 refine⟨p,_,_,_,rfl,rfl,Xf Cy,hv,?_⟩;refine⟨_,rfl,_,rfl,leN rfl,fun u nu=>?_⟩;have ua:=hp3.ne nu;have e_u:am a (upd H3 u (.lst [.int 3,.int 5,.int 10])) u=some (.lst [.int 3,.int 5,.int 10]):=by rw[Zh ua];exact Z4
 refine⟨_,rfl,a,S,ns,3,rfl,hp3.laid nu,Xz rfl,ltI rfl,fun d3 H4 z0 z1 hp4 g4=>?_⟩;have e_u:=g4 _ _ e_u;obtain⟨v,hv,mv⟩:=gA (d:=d3) (Z7 e_u).2 z0 z1;obtain⟨z,rfl,q0,q1⟩:∃z:Int,v=.int z∧0<z∧z≤10:=by
  simp only[List.mem_cons,List.not_mem_nil,or_false]at mv
  rcases mv with rfl | rfl | rfl <;> exact⟨_,rfl,by decide,by decide⟩
 refine⟨u,_,_,_,rfl,rfl,Xf e_u,hv,a,S,ns,z,rfl,hp4,q0,by omega,fun d4 H5 w0 w1 hp5 g5=>⟨_,_,rfl,rfl,leN rfl,fun l nl=>?_⟩⟩;exact hq l Cq (1+d4) _ (by rw[Zh (hp5.ne nl)];exact Z4) r0 r1 (by omega) (by omega) (hp5.laid nl) (g1.trans (g2.trans (g3.trans ((hp3.grw (Z6 nu _)).trans (g4.trans (g5.trans (hp5.grw (Z6 nl _))))))))
theorem md(ao:mg "range"=none)(cu:mg "int"=none)(ax:mg "sorted"=none)(aC:mg "len"=none)(cw:mg "min"=none)(ae:Has P w K mg base "_law_take" 1 ["_law_pen_here","_law_most"] (bw K))(bQ:Has P w K mg base "_law_many" 2 ["_law_pen_here"] (ez K))(F:Fun K "_law_counts" "_law_counts" bY f fd):FnOk P w K mg base CX0 3 f fd ["_law_pen_here","_law_deep","_law_most"] (eX K):=by
 refine F.ok Yg (fun vs H Q E h=>?_) (fun cdv A outer s H vs Q E hr h=>?_)
 ·obtain⟨a,S,ns,or,most,rfl,_⟩:=h;rfl
 obtain⟨a,S,ns,or,most,rfl,hp,d0,d1,m0,m1,hq⟩:=h;refine⟨_,(Z2 (Zp 3 Yg.nd rfl (Or.inl rfl) Q3) Zd),fun d n_d=>?_⟩;have nHd:am a H d=none:=by
  by_cases z:d=a
  ·unfold am;rw[yL z]
  ·rw[Zh z];exact n_d
 have gg:=hp.grw (Z6 n_d (.dT []));have e_d:am a (upd H d (.dT [])) d=some (.dT (af [])):=by rw[Zh (hp.ne n_d)];exact Z4
 have hp:=hp.laid (o:=.dT []) n_d;generalize upd H d (.dT [])=H1 at gg e_d hp⊢;refine⟨_,(Z2 (Yy zQ rfl (Xb rfl ao (Z0 (Z5 ae hr (Z0 (pv 0) (Z0 (Z9 Zm (pv 2) Z3) Z1))) Z1)) (Za (i:=4) Yg.nd rfl (Or.inl rfl))
 (Z2 (Zp 5 Yg.nd rfl (Or.inl rfl) (Z9 Xh (Z5 ae hr (Z0 (pv 0) (Z0 (Z9 Zm (pv 1) Z3) Z1))) (Y8 Od rfl cu PyProof.Rows.boot_int (Z0 (Xu Wh (Z5 ae hr (Z0 (pv 0) (Z0 Z3 Z1))) Z3 (Zk _)) Z1))))
 (Z2 (Zp 6 Yg.nd rfl (Or.inl rfl) (Z5 ae hr (Z0 (pv 0) (Z0 (Z9 Vz Z3 (Z9 X4 (pv 1) (pv 5))) Z1))))
 (Z2 (Yu (PW.pt (N6 (Zn (rP (Nat.lt_of_le_of_lt (Nat.le_add_right _ _) hr.units)) (pv 3) Q3 (Zk _)) (R1 (Zn Wh (Z5 ae hr (Z0 (pv 0) (Z0 Z3 Z1))) Z3 (Zk _))))) (Z2 (Zp 7 Yg.nd rfl (Or.inl rfl) (Zf (U4 rfl hr.units) rfl ax AI (Z0 (pv 3) Z1)))
 (Z2 (Zp 8 Yg.nd rfl (Or.inl rfl) (Yp Yt (pv 7) (Z5 ae hr (Z0 (pv 0) (Z0 (Zf Zw rfl aC Az (Z0 (pv 7) Z1)) Z1)))))
 (Z2 (Zp 5 Yg.nd rfl (Or.inl rfl) (Zf (Sh rfl) rfl cw PyProof.Rows.boot_min (Z0 (pv 5) (Z0 (Yp Ys (pv 8) Z3) Z1))))
 (Z8 (Zp 6 Yg.nd rfl (Or.inl rfl) (Z9 Zm (Z9 Vz (Yp Ys (pv 8) Z3) (Z9 X4 (Yp Ys (pv 8) Z3) (pv 5))) (Z5 ae hr (Z0 (pv 0) (Z0 (Z9 Vz Z3 (Z9 X4 (Yp Ys (pv 8) Z3) (pv 5))) Z1))))))))) Zu)
 (Z8 (Wm (X0 hr) (pv 3) (Y4 (Z0 (pv 5) (Z0 (pv 6) Z1))) (Z5 bQ hr (Z0 (pv 0) Z1)) rfl)))))) Zd),?_⟩
 refine⟨_,rfl,_,rfl,_,_,rfl,rfl,a,S,ns,_,rfl,hp,by omega,by omega,fun t H2 t0 t1 hp gz=>⟨t,rfl,by omega,by omega,?_⟩⟩;have gg:=gg.trans gz;have e_d:=gz _ _ e_d;refine X8 (lo:=0) (n:=t.toNat) (fun i σ H'=>∃(o4 o5 o6 o7 o8:Option V)(ps:Sps),σ=[some (.ref a),some (.int or),some (.int most),some (.ref d),o4,o5,o6,o7,o8]∧Pn K S ns H' a∧Grw a H H'∧am a H' d=some (.dT (af ps))∧Pok or ps∧ps.length≤i) ⟨_,_,_,_,_,[],rfl,hp,gg,e_d,⟨⟨zO,fun _ h=>nomatch h⟩,fun _ h=>nomatch h⟩,yM _⟩ ?_ ?_
 ·rintro i σ H3 N B1 R hN hR hi ⟨o4,o5,o6,o7,o8,ps,rfl,hp,gg,e_d,cok,pl⟩;refine⟨_,rfl,_,rfl,_,_,rfl,rfl,a,S,ns,_,rfl,hp,by omega,by omega,fun t1 H4 x0 x1 hp gz=>?_⟩;have gg:=gg.trans gz;have e_d:=gz _ _ e_d;refine⟨_,rfl,a,S,ns,2,rfl,hp,Xz rfl,ltI rfl,fun t2 H5 y0 y1 hp gz=>⟨rfl,.inr ⟨_,rfl,_,_,rfl,rfl,Or.inl ⟨by omega,by omega⟩,?_⟩⟩⟩;have gg:=gg.trans gz;have e_d:=gz _ _ e_d;obtain⟨h,hh,h0,h1⟩:∃h:Int,t1*(if decide (V.int t2=V.int 0)=true then 1 else 0)=h∧0≤h∧h≤or:=by
   refine⟨_,rfl,?_⟩
   split
   ·omega
   ·omega
  have hv:((fun i j=>V.int (i*j)) t1 (if decide (V.int t2=V.int 0)=true then 1 else 0))=V.int h:=Ak V.int hh;rw[hv];have tw:=Xo (m:=or-h) (by omega);refine⟨_,rfl,_,rfl,_,rfl,_,_,rfl,rfl,_,_,rfl,rfl,⟨by omega,by omega,by decide⟩,a,S,ns,_,rfl,hp,by rw[Ae];omega,by rw[Ae];omega,fun t3 H6 z0 z1 hp gz=>?_⟩;have gg:=gg.trans gz;have e_d:=gz _ _ e_d;rw[Ae]at z1;dsimp only;refine Yx (fun σ' H'=>∃(o4 o7 o8:Option V)(h i:Int),σ'=[some (.ref a),some (.int or),some (.int most),some (.ref d),o4,some (.int h),some (.int i),o7,o8]∧Pn K S ns H' a∧Grw a H H'∧am a H' d=some (.dT (af ps))∧0≤h∧h≤or∧0≤i∧i<2^(or-h).toNat) ?_ ?_
  ·intro nx hnx;have skip:∀{H':Hp}{o7 o8:Option V},Pn K S ns H' a→Grw a H H'→am a H' d=some (.dT (af ps))→nx [some (.ref a),some (.int or),some (.int most),some (.ref d),some (.int (0+(i:Int))),some (.int h),some (.int t3),o7,o8] H':=fun hp gg e_d=>hnx _ _ ⟨_,_,_,h,t3,rfl,hp,gg,e_d,h0,h1,z0,z1⟩;refine⟨_,rfl,fun e n_e=>?_⟩;have ea:=hp.ne n_e;have gz:=hp.grw (Z6 n_e (.dT []));have e_e:(upd H6 e (.dT [])) e=some (.dT []):=Z4;have gg:=gg.trans gz;have e_d:=gz _ _ e_d;have hp:=hp.laid (o:=.dT []) n_e;generalize upd H6 e (.dT [])=H7 at gg e_d hp e_e⊢;refine⟨d,e,_,rfl,rfl,(Z7 e_d).2,e_e,_,rfl,Xm (fun c0=>?_) (fun c0=>?_)⟩
   ·refine⟨_,rfl,a,S,ns,3,rfl,hp,Xz rfl,ltI rfl,fun t4 H8 _ _ hp gz=>⟨rfl,_,rfl,Xm (fun c1=>?_) (fun c1=>?_)⟩⟩
    ·have gg:=gg.trans gz;have e_d:=gz _ _ e_d;refine⟨_,rfl,d,ps,rfl,(Z7 e_d).2,by omega,fun bs ka l n_l=>?_⟩;have la:=hp.ne n_l;have sl:=Z6 n_l (.lst (bs.map V.ref));have gz:=hp.grw sl;have CB:am a (upd H8 l (.lst (bs.map V.ref))) l=some (.lst (bs.map V.ref)):=by rw[Zh la];exact Z4
     have gg:=gg.trans gz;have e_d:=gz _ _ e_d;have ka:=ka.mono fun b xs e=>sl b _ e;have hp:=hp.laid (o:=.lst (bs.map V.ref)) n_l;generalize upd H8 l (.lst (bs.map V.ref))=H9 at gg e_d hp CB ka⊢;have bl:=zd ka;rw[(Yv _).length_eq,pi]at bl;have pp:0<ps.length:=by
      rw[Zs]at c0
      rcases Nat.eq_zero_or_pos ps.length with z | z
      ·rw[z]at c0;exact absurd c0 (by decide)
      ·exact z
     have hp9:=hp;refine⟨_,rfl,_,rfl,_,rfl,l,_,rfl,.inl (Xf CB),a,S,ns,_,rfl,hp,by rw[pi];omega,by rw[pi];omega,fun t5 H10 u0 u1 hp gz=>?_⟩;have gg:=gg.trans gz;have e_d:=gz _ _ e_d;have CB:=gz _ _ CB;obtain⟨v,hv,mv⟩:=gA (d:=t5) (Z7 CB).2 u0 u1;obtain⟨jx,hj⟩:=Ay mv;obtain⟨b,k,rfl,hk,Cw⟩:=qo ka hj;have km:k∈ps.map (·.1):=(Yv _).mem_iff.mp (zB hk);obtain⟨k0,k1,k2,k3⟩:=cok.kok.st k km;have nba:b≠a:=fun z=>by
      obtain⟨i,r,ea⟩:=hp9.at_;rw[z]at Cw;unfold KAt at Cw;rw[ea]at Cw;cases Cw
     have Cw:am a H10 b=some (.tup [.int k.1,.int k.2]):=gz _ _ (by rw[Zh nba];exact Cw);refine⟨l,_,_,_,rfl,rfl,Xf CB,hv,?_⟩;refine⟨_,rfl,_,rfl,b,_,0,_,rfl,rfl,sB Cw,rfl,_,_,rfl,?_⟩;obtain⟨h2,e2,q0,q1,q2⟩:∃h2:Int,(if k.1<h then k.1 else h)=h2∧0≤h2∧h2≤k.1∧h2≤or:=by
      refine⟨_,rfl,?_⟩
      split <;> omega
     rw[e2];have tw2:=Xo (m:=k.1-h2) (by omega);have tw3:=Xo (m:=or-k.1) (by omega);refine⟨_,rfl,b,_,1,_,rfl,rfl,sB Cw,rfl,_,rfl,b,_,0,_,rfl,rfl,sB Cw,rfl,_,rfl,_,_,rfl,rfl,_,_,rfl,rfl,⟨by omega,by omega,by omega⟩,?_⟩;refine⟨_,rfl,_,rfl,b,_,0,_,rfl,rfl,sB Cw,rfl,_,rfl,_,_,rfl,rfl,_,_,rfl,rfl,⟨by omega,by omega,by decide⟩,a,S,ns,_,rfl,hp,by rw[Ae];omega,by rw[Ae];omega,fun t6 H11 v0 v1 hp gz=>⟨_,_,rfl,rfl,?_⟩⟩;rw[Ae]at v1;have ix:=v5 q0 q1 k1 k2 k3 v0 v1;exact hnx _ _ ⟨_,_,_,h2,_,rfl,hp,gg.trans gz,gz _ _ e_d,q0,q2,ix.1,ix.2⟩
    ·have gg:=gg.trans gz;exact skip hp gg (gz _ _ e_d)
   ·exact skip hp gg e_d
  rintro σ' H7 ⟨o4,o7,o8,h,i2,rfl,hp,gg,e_d,h0,h1,i0,i1⟩;refine⟨_,rfl,a,S,ns,rfl,hp,fun n H8 n1 hp gz=>?_⟩;have gg:=gg.trans gz;have e_d:=gz _ _ e_d;refine⟨_,rfl,_,rfl,_,rfl,leN rfl,fun q n_q=>?_⟩;have qa:=hp.ne n_q;have sq:=Z6 n_q (.tup [.int h,.int i2]);have gz:=hp.grw sq;have gg:=gg.trans gz;have e_d:=gz _ _ e_d;have CF:KAt (upd H8 q (.tup [.int h,.int i2])) q (h,i2):=Z4;have hp:=hp.laid (o:=.tup [.int h,.int i2]) n_q;generalize upd H8 q (.tup [.int h,.int i2])=H9 at gg e_d hp CF⊢;have da:=(Z7 e_d).1;refine⟨d,_,rfl,DPut.t (k:=kk (h,i2)) (Z7 e_d).2 CF (Zq (by rw[Zs];omega)),hN _ _ ⟨_,_,_,_,_,ak ps (h,i2) n,rfl,uW hp (Z7 e_d).2,dS gg nHd,?_,j_ cok ⟨h0,h1,i0,i1⟩ n1,?_⟩⟩
  ·rw[Zh da,←Uz];exact Z4
  ·have:=W5 ps (h,i2) n;omega
 ·rintro σ H3 ⟨o4,o5,o6,o7,o8,ps,rfl,hp,gg,e_d,cok,pl⟩;exact⟨_,(Z8 (Zg (pv 3))),_,rfl,hq d _ ps n_d e_d cok (by omega) hp gg⟩
theorem wg(ax:mg "sorted"=none)(bT:mg "tuple"=none)(ba:mg "sum"=none)(av:mg "list"=none)(F:Fun K "_law_ladder" "_law_ladder" ce f fd):FnOk P w K mg base CX0 1 f fd ["_law_now","_law_room","_law_deep"] uB:=by
 refine F.ok fQ (fun vs H Q E h=>?_) (fun cdv A outer s H vs Q E hr h=>?_)
 ·obtain⟨d,Cq,or,ps,rfl,_⟩:=h;rfl
 obtain⟨d,Cq,or,ps,rfl,e_d,pl,hq⟩:=h;refine⟨_,(Z8 (Zg (Y4 (Z0 (pv 1) (Z0 (pv 2) (Z0 (Y8 Pd rfl bT PyProof.Rows.boot_tuple (Z0 (Zf (gJ rfl hr.units) rfl ax AI (Z0 (Q4 Al PySem.F.slot_dict_items PySem.F.type_dict_items Py (pv 0)) Z1)) Z1)) (Z0 (Zf (U3 rfl) rfl ba Bj (Z0 (Y8 (Su rfl) rfl av AD (Z0 (Q4 Al A4 PySem.F.type_dict_values Qa (pv 0)) Z1)) Z1)) Z1))))))),?_⟩;have gg:Same H H:=Same.refl _;refine⟨_,rfl,_,rfl,_,rfl,S2 e_d,d,_,rfl,rfl,e_d,?_⟩;intro v n_v;generalize hz:upd _ v _=H1;revert H1;refine blk ?_;intro H1 hz;have gz:=Zr hz n_v;have e_v:=Y5 hz;clear hz;have gg:=gg.trans gz;have e_d:=gz _ _ e_d;refine⟨v,d,ps,rfl,e_v,e_d,by omega,fun H2 bs g2 pr l nl _=>?_⟩;have gg:=gg.trans g2;have e_d:=g2 _ _ e_d;have gz:=Z6 nl (.lst (bs.map V.ref));have CB:(upd H2 l (.lst (bs.map V.ref))) l=some (.lst (bs.map V.ref)):=Z4;have gg:=gg.trans gz;have e_d:=gz _ _ e_d;have pr:Paired (FT (upd H2 l (.lst (bs.map V.ref)))) bs (aA ps):=Paired.mapP pr fun _ _ f=>Zv gz f;generalize upd H2 l (.lst (bs.map V.ref))=H3 at gg e_d pr CB⊢;refine⟨l,_,rfl,.inl ⟨SqL.of CB,?_⟩⟩;intro c n_c;generalize hz:upd _ c _=H4;revert H4;refine blk ?_;intro H4 hz;have gz:=Zr hz n_c;have CA:=Y5 hz;clear hz;have gg:=gg.trans gz;have e_d:=gz _ _ e_d;have pr:=Paired.mapP pr fun _ _ f=>Zv gz f;refine⟨_,rfl,S2 e_d,d,_,rfl,rfl,e_d,?_⟩;intro v2 n_v2;generalize hz:upd _ v2 _=H5;revert H5;refine blk ?_;intro H5 hz;have gz:=Zr hz n_v2;have e_v2:=Y5 hz;clear hz;have gg:=gg.trans gz;have e_d:=gz _ _ e_d;have CA:=gz _ _ CA;have pr:=Paired.mapP pr fun _ _ f=>Zv gz f;refine⟨v2,d,_,rfl,e_v2,e_d,?_⟩;rw[j8];intro l2 dO;generalize hz:upd _ l2 _=H6;revert H6;refine blk ?_;intro H6 hz;have gz:=Zr hz dO;have bL:=Y5 hz;clear hz;have gg:=gg.trans gz;have CA:=gz _ _ CA;have pr:=Paired.mapP pr fun _ _ f=>Zv gz f;refine⟨l2,_,rfl,SqL.of bL,leN rfl,?_⟩;intro r n_r;generalize hz:upd _ r _=H7;revert H7;refine blk ?_;intro H7 hz;have gz:=Zr hz n_r;have e_r:=Y5 hz;clear hz;have gg:=gg.trans gz;have CA:=gz _ _ CA;have pr:=Paired.mapP pr fun _ _ f=>Zv gz f;exact hq r _ gg ⟨c,bs,e_r,CA,pr⟩
theorem rN(ae:Has P w K mg base "_law_take" 1 ["_law_pen_here","_law_most"] (bw K))(F:Fun K "_law_many" "_law_many" c_ f fd):FnOk P w K mg base CX0 2 f fd ["_law_pen_here"] (ez K):=by
 refine F.ok Pu (fun vs H Q E h=>?_) (fun cdv A outer s H vs Q E hr h=>?_)
 ·obtain⟨a,S,ns,rfl,_⟩:=h;rfl
 obtain⟨a,S,ns,rfl,hp,hq⟩:=h;refine⟨_,(Z2 (Zp 1 Pu.nd rfl (Or.inl rfl) (Z5 ae hr (Z0 (pv 0) (Z0 Z3 Z1))))
 (Z2 (Yu (Zn Wh (pv 1) Z3 (Zk _)) (Z8 (Zg (Z9 Zm (Z9 Zm Z3 (Z9 Xh (Z5 ae hr (Z0 (pv 0) (Z0 (Z9 N9 Z3 Z3) Z1))) (Z9 N9 Z3 Z3))) (Z5 ae hr (Z0 (pv 0) (Z0 (Z9 N9 Z3 Z3) Z1)))))) Zu)
 (Z8 (Zg (Z9 Zm Z3 (Z5 ae hr (Z0 (pv 0) (Z0 (Yp Yt (Y1 (Z0 Z3 (Z0 Z3 (Z0 Z3 (Z0 Z3 Z1))))) (Z9 Wg (pv 1) Z3)) Z1)))))))),?_⟩
 refine⟨_,rfl,a,S,ns,8,rfl,hp,Xz rfl,ltI rfl,fun way H1 w0 w1 hp1 g1=>?_⟩;refine⟨_,rfl,rfl,_,rfl,Xm (fun c=>?_) (fun c=>?_)⟩
 ·refine⟨_,rfl,_,_,rfl,rfl,tj rfl rfl rfl,a,S,ns,_,rfl,hp1,Xz rfl,ltI rfl,fun d1 H2 x0 x1 hp2 g2=>⟨_,_,rfl,rfl,tj rfl rfl rfl,?_⟩⟩;have x1:d1<1000000:=x1;refine⟨_,_,rfl,rfl,Or.inl ⟨by omega,by omega⟩,_,_,rfl,rfl,_,rfl,_,_,rfl,rfl,tj rfl rfl rfl,a,S,ns,_,rfl,hp2,Xz rfl,ltI rfl,fun d2 H3 y0 y1 hp3 g3=>⟨_,_,rfl,rfl,hq _ _ (by show 1≤1+d1*1000000+d2;omega) hp3 (g1.trans (g2.trans g3))⟩⟩
 ·refine⟨_,rfl,leN rfl,fun p np=>⟨_,rfl,_,_,rfl,rfl,Xz rfl,?_⟩⟩;have Cy:(upd H1 p (.lst [.int 1,.int 3,.int 3,.int 9])) p=some (.lst [.int 1,.int 3,.int 3,.int 9]):=Z4;have m0:=Bl way (show(4:Int)≠0 by decide);have m1:=A0 way (show(0:Int)<4 by decide);obtain⟨v,hv,mv⟩:=gA (d:=way % 4) Cy m0 m1;obtain⟨z,rfl,z0,z1⟩:∃z:Int,v=.int z∧0<z∧z<10:=by
   simp only[List.mem_cons,List.not_mem_nil,or_false]at mv
   rcases mv with rfl | rfl | rfl | rfl <;> exact⟨_,rfl,by decide,by decide⟩
  refine⟨p,_,_,_,rfl,rfl,SqL.of Cy,hv,a,S,ns,z,rfl,hp1.laid np,z0,by omega,fun d H3 y0 y1 hp3 g3=>⟨_,_,rfl,rfl,hq _ _ (by omega) hp3 (g1.trans ((hp1.grw (Z6 np _)).trans g3))⟩⟩
def aw(k:Int×Int):Int:=k.2*2^k.1.toNat
def au(k:Int×Int):Int:=(k.2+1)*2^k.1.toNat-1
def jR:Sp:=fun vs H Q _=>∃(p:Addr)(k:Int×Int),vs=[.ref p]∧KAt H p k∧0≤k.1∧k.1≤20∧0≤k.2∧k.2≤1000001∧Q (.int (aw k)) H
def qE:Sp:=fun vs H Q _=>∃(p:Addr)(k:Int×Int),vs=[.ref p]∧KAt H p k∧0≤k.1∧k.1≤20∧0≤k.2∧k.2≤1000000∧∀H',Same H H'→Q (.int (au k)) H'
theorem pW(F:Fun K "first_of" "first_of" bZ f fd):FnOk P w K mg base CX0 1 f fd ["stretch"] jR:=by
 refine F.ok Vw (fun vs H Q E h=>?_) (fun cdv A outer s H vs Q E hr h=>?_)
 ·obtain⟨p,k,rfl,_⟩:=h;rfl
 obtain⟨p,k,rfl,e,h0,h1,i0,i1,hq⟩:=h;refine⟨_,(Z2 (We (pv 0) (W1 rfl (Zc (Za (i:=1) Vw.nd rfl (Or.inl rfl)) (Zc (Za (i:=2) Vw.nd rfl (Or.inl rfl)) Yb))))
 (Z8 (Zg (Z9 Vz (pv 2) (pv 1))))),?_⟩
 exact⟨_,rfl,p,_,rfl,SqT.of e,rfl,_,_,rfl,_,_,rfl,rfl,_,rfl,_,rfl,_,_,rfl,rfl,⟨by omega,by omega,by omega⟩,hq⟩
theorem uj(jb:Has P w K mg base "first_of" 1 ["stretch"] jR)(F:Fun K "last_of" "last_of" cB f fd):FnOk P w K mg base CX0 2 f fd ["stretch"] qE:=by
 refine F.ok Uw (fun vs H Q E h=>?_) (fun cdv A outer s H vs Q E hr h=>?_)
 ·obtain⟨p,k,rfl,_⟩:=h;rfl
 obtain⟨p,k,rfl,e,h0,h1,i0,i1,hq⟩:=h;refine⟨_,(Z2 (We (pv 0) (W1 rfl (Zc (Za (i:=1) Uw.nd rfl (Or.inl rfl)) (Zc (Za (i:=2) Uw.nd rfl (Or.inl rfl)) Yb))))
 (Z8 (Zg (Z9 X4 (Z5 jb hr (Z0 (Y4 (Z0 (pv 1) (Z0 (Z9 Zm (pv 2) Z3) Z1))) Z1)) Z3)))),?_⟩
 exact⟨_,rfl,p,_,rfl,SqT.of e,rfl,_,_,rfl,_,_,rfl,rfl,_,rfl,_,rfl,_,_,rfl,rfl,leN rfl,fun q nq=>⟨q,(k.1,k.2+1),rfl,Z4,h0,h1,by show 0≤k.2+1;omega,by show k.2+1≤_;omega,_,_,rfl,rfl,hq _ (Z6 nq _)⟩⟩
def ThK(or:Int)(t:Th):Prop:=ThL or t∧PyData.strOk t.word=true
theorem tM{or:Int}{t:Th}(h:ThK or t):t.D.canLay0=true∧t.D.depth≤1:=by
 refine⟨?_,?_⟩
 ·simp[Th.D,PyData.canLay0,PyData.canLayAll0,h.2]
 ·simp[Th.D,PyData.depth,PyData.depthAll]
theorem qH{or:Int}{ts:List Th}(h:∀t∈ts,ThK or t):(bf ts).canLay0=true∧(bf ts).depth≤2:=Ql ts fun t ht=>tM (h t ht)
theorem jN{K:W.Frag}{S:Addr}{ns:List Int}{H0 H:Hp}{a L:Addr}{o:HO}(h0:Pn K S ns H0 a)(n:H0 L=none)(h:Pn K S ns H a)(la:L≠a):Pn K S ns (upd H L o) a:=by
 obtain⟨⟨i,r,ea⟩,s,f⟩:=h;refine⟨⟨i,r,by rw[Zb (Ne.symm la)];exact ea⟩,?_,f⟩;obtain⟨_,s0,_⟩:=h0
 rcases s0 with s0 | s0
 ·have ne:S≠L:=by
   rcases s0 with s0 | ⟨u,s0⟩
   ·exact Zi s0 n
   ·exact Zi s0 n
  rcases s with(s | ⟨u,s⟩) | s
  ·exact .inl (.inl (by rw[Zb ne];exact s))
  ·exact .inl (.inr ⟨u,by rw[Zb ne];exact s⟩)
  ·exact .inr s
 ·exact .inr s0
def TsAt(H:Hp):List V→List Th→Prop:=Paired fun x t=>∃c:Addr,x=.ref c∧H c=some (.tup t.vs)
theorem TsAt.get{H:Hp}:∀{xs:List V}{ts:List Th}{j:Nat}{x:V},TsAt H xs ts→xs[j]?=some x→∃c t,x=.ref c∧ts[j]?=some t∧H c=some (.tup t.vs)
 |_,_,_,_,.nil,e=>by simp at e
 |_,_,0,_,.cons h _,e=>by
  rw[An]at e;cases e;obtain⟨c,e,q⟩:=h;exact⟨c,_,e,rfl,q⟩
 |_,_,j+1,_,.cons _ r,e=>TsAt.get (j:=j) r (by simpa using e)
theorem TsAt.dvs{H:Hp}:∀{xs:List V}{ts:List Th},TsAt H xs ts→DVs H xs (ts.map Th.D)
 |_,_,.nil=>.nil
 |_,_,.cons ⟨c,e,h⟩ r=>by
  rw[e];exact .cons (Th.dv h) (TsAt.dvs r)
theorem TsAt.tup{H H':Hp}(g:∀c xs,H c=some (.tup xs)→H' c=some (.tup xs)){xs:List V}{ts:List Th}(h:TsAt H xs ts):TsAt H' xs ts:=Paired.mapP h fun _ _ ⟨c,e,q⟩=>⟨c,e,g _ _ q⟩
structure StrS(K:W.Frag)(S:Addr)(ns:List Int)(H0:Hp)(a L:Addr)(or:Int)(H:Hp)(xs:List V)(ts:List Th):Prop where
 pn:Pn K S ns H a
 g:Grw a H0 H
 eL:H L=some (.lst xs)
 ta:TsAt H xs ts
 ok:∀t∈ts,ThK or t
section
variable{K:W.Frag}{S a L:Addr}{ns:List Int}{H0 H H':Hp}{or:Int}{xs:List V}{ts:List Th}
theorem oD{c:Addr}{ys:List V}(hp:Pn K S ns H a)(g:Grw a H H')(e:H c=some (.tup ys)):H' c=some (.tup ys):=(Z7 (g _ _ (hp.tup e))).2
theorem StrS.grw(s:StrS K S ns H0 a L or H xs ts)(La:L≠a)(hp:Pn K S ns H' a)(g:Grw a H H'):StrS K S ns H0 a L or H' xs ts:=⟨hp,s.g.trans g,(Z7 (g L _ (by rw[Zh La];exact s.eL))).2,s.ta.tup fun c ys e=>oD s.pn g e,s.ok⟩
theorem StrS.laid{p:Addr}{o:HO}(s:StrS K S ns H0 a L or H xs ts)(La:L≠a)(n:H p=none):StrS K S ns H0 a L or (upd H p o) xs ts:=s.grw La (s.pn.laid n) (s.pn.grw (Z6 n o))
theorem StrS.put(s:StrS K S ns H0 a L or H xs ts)(La:L≠a){H1:Hp}(hp1:Pn K S ns H1 a)(n1:H1 L=none)(n0:am a H0 L=none){c:Addr}{t:Th}(ec:H c=some (.tup t.vs))(ht:ThK or t):StrS K S ns H0 a L or (upd H L (.lst (xs++[.ref c]))) (xs++[.ref c]) (ts++[t]):=by
 have tp:∀(b:Addr)(ys:List V),H b=some (.tup ys)→upd H L (.lst (xs++[.ref c])) b=some (.tup ys):=fun b ys e=>by rw[Zb (V6 e s.eL (by intro z;cases z))];exact e
 refine⟨jN hp1 n1 s.pn La,dS s.g n0,Z4,Paired.snoc (s.ta.tup tp) ⟨c,rfl,tp _ _ ec⟩,fun x hx=>?_⟩
 rcases ze.mp hx with hx | hx
 ·exact s.ok x hx
 ·rw[yP.mp hx];exact ht
end
def uJ(K:W.Frag):Sp:=fun vs H Q _=>∃(a S:Addr)(ns:List Int)(or most:Int),vs=[.ref a,.int or,.int most]∧Pn K S ns H a∧1≤or∧or≤10∧0≤most∧most≤60∧∀(L:Addr)(ts:List Th)(H':Hp),H L=none→(∀t∈ts,ThK or t)→(ts.length:Int)≤most→DV (am a H') (.ref L) (bf ts)→Pn K S ns H' a→Grw a H H'→Q (.ref L) H'
theorem Om:PyData.strOk "a"=true∧PyData.strOk "b"=true∧PyData.strOk "cd"=true:=by decide +kernel
theorem vI(ao:mg "range"=none)(aC:mg "len"=none)(ae:Has P w K mg base "_law_take" 1 ["_law_pen_here","_law_most"] (bw K))(bQ:Has P w K mg base "_law_many" 2 ["_law_pen_here"] (ez K))(F:Fun K "_law_stream" "_law_stream" cf f fd):FnOk P w K mg base CX0 3 f fd ["_law_pen_here","_law_deep","_law_most"] (uJ K):=by
 refine F.ok Ye (fun vs H Q E h=>?_) (fun cdv A outer s H vs Q E hr h=>?_)
 ·obtain⟨a,S,ns,or,most,rfl,_⟩:=h;rfl
 obtain⟨a,S,ns,or,most,rfl,hp,d0,d1,m0,m1,hq⟩:=h;have tw:=Xo (m:=or) d1;have hpH:=hp;refine⟨_,(Z2 (Zp 3 Ye.nd rfl (Or.inl rfl) (Y1 Z1)) Zd),leN rfl,fun L n_L=>?_⟩;have La:=hp.ne n_L;have nHL:am a H L=none:=by rw[Zh La];exact n_L
 have ss:StrS K S ns H a L or (upd H L (.lst [])) [] []:=⟨hp.laid n_L,hp.grw (Z6 n_L _),Z4,.nil,fun _ h=>absurd h zC⟩;generalize upd H L (.lst [])=H1 at ss⊢;clear hp;refine⟨_,(Z2 (Zp 4 Ye.nd rfl (Or.inl rfl) (Z9 Vz Z3 (pv 1))) Zd),_,rfl,_,_,rfl,rfl,⟨by omega,by omega,by decide⟩,?_⟩;show wy _ _ _ [_,_,_,_,some (V.int (1*2^or.toNat)),_,_,_,_] _;rw[Ae];obtain⟨top,htop⟩:∃top:Int,(2:Int)^or.toNat=top:=⟨_,rfl⟩;rw[htop]at tw⊢;refine⟨_,(Z2 (Zp 5 Ye.nd rfl (Or.inl rfl) (Z5 ae hr (Z0 (pv 0) (Z0 (pv 4) Z1)))) Zd),_,rfl,_,rfl,a,S,ns,top,rfl,ss.pn,by omega,by omega,fun mid H2 x0 x1 hp g2=>?_⟩;have ss:=ss.grw La hp g2;refine⟨_,(Z2 (Yy zQ rfl (Xb rfl ao (Z0 (Z5 ae hr (Z0 (pv 0) (Z0 (Z9 Zm (pv 2) Z3) Z1))) Z1)) (Za (i:=6) Ye.nd rfl (Or.inl rfl))
 (Z2 (Zp 7 Ye.nd rfl (Or.inl rfl) (Z5 ae hr (Z0 (pv 0) (Z0 Z3 Z1))))
 (Z2 (Zp 8 Ye.nd rfl (Or.inl rfl) (Z5 ae hr (Z0 (pv 0) (Z0 (pv 4) Z1))))
 (Z2 (Yu (PW.pt (N6 (Zn Wh (pv 7) Z3 (Zk _)) (R1 (Zn (pV hr.units) (pv 3) (Y1 Z1) (Zk _))))) (Z8 (Zp 8 Ye.nd rfl (Or.inl rfl) (Yp Ys (Yp Yt (pv 3) (Z5 ae hr (Z0 (pv 0) (Z0 (Zf Zw rfl aC Az (Z0 (pv 3) Z1)) Z1)))) Z3))) Zu)
 (Z2 (Yu (Zn Wh (pv 7) Z3 (Zk _)) (Z8 (Zp 8 Ye.nd rfl (Or.inl rfl) (Z9 Wg (Z9 Zm (pv 5) (Z5 ae hr (Z0 (pv 0) (Z0 Z3 Z1)))) (pv 4)))) Zu)
 (Z8 (W6 (fX PySem.F.plainAttrs_list PySem.F.slot_list_append PySem.F.type_list_append mM (pv 3) (Z0 (Y4 (Z0 (Z5 ae hr (Z0 (pv 0) (Z0 Z3 Z1))) (Z0 (Yp Yt (Y1 (Z0 S6 (Z0 S6 (Z0 S6 Z1)))) (Z5 ae hr (Z0 (pv 0) (Z0 Z3 Z1)))) (Z0 (pv 8) (Z0 (Z5 bQ hr (Z0 (pv 0) Z1)) Z1))))) Z1))))))))) Zd),?_⟩
 refine⟨_,rfl,_,rfl,_,_,rfl,rfl,a,S,ns,_,rfl,ss.pn,by omega,by omega,fun t H3 t0 t1 hp g3=>⟨t,rfl,by omega,by omega,?_⟩⟩;have ss:=ss.grw La hp g3;clear hp g3 g2;refine X8 (lo:=0) (n:=t.toNat) (fun i σ H'=>∃(o6 o7 o8:Option V)(xs:List V)(ts:List Th),σ=[some (.ref a),some (.int or),some (.int most),some (.ref L),some (.int top),some (.int mid),o6,o7,o8]∧StrS K S ns H a L or H' xs ts∧ts.length=i) ⟨_,_,_,_,_,rfl,ss,rfl⟩ ?_ ?_
 ·clear ss;rintro i σ H4 N B1 R hN hR hi ⟨o6,o7,o8,xs,ts,rfl,ss,tl⟩;have xl:=zd ss.ta;refine⟨_,rfl,a,S,ns,4,rfl,ss.pn,Xz rfl,ltI rfl,fun way H5 _ _ hp g=>?_⟩;have ss:=ss.grw La hp g;refine⟨_,rfl,_,rfl,a,S,ns,top,rfl,ss.pn,by omega,by omega,fun num H6 n0 n1 hp g=>?_⟩;have ss:=ss.grw La hp g;clear hp g;dsimp only;refine Yx (fun σ' H'=>∃(num:Int),σ'=[some (.ref a),some (.int or),some (.int most),some (.ref L),some (.int top),some (.int mid),some (.int (0+(i:Int))),some (.int way),some (.int num)]∧StrS K S ns H a L or H' xs ts∧0≤num∧num<top) ?_ ?_
  ·intro nx hnx;refine⟨_,rfl,rfl,_,rfl,Xm (fun c=>?_) (fun c=>?_)⟩
   ·refine⟨_,rfl,leN rfl,fun p np=>?_⟩;have s7:=ss.laid (o:=.lst []) La np;have Cy:(upd H6 p (.lst [])) p=some (.lst []):=Z4;generalize upd H6 p (.lst [])=H7 at s7 Cy⊢;refine⟨_,_,.lst s7.eL s7.ta.dvs,.lst Cy .nil,Yw (qH s7.ok) (by decide),Yw R6 (by decide),_,rfl,?_⟩;rw[Rc];by_cases hts:ts=[]
    ·have em:(ts.map Th.D).isEmpty=true:=by rw[hts];rfl
     rw[em];exact Ww (hnx _ _ ⟨num,rfl,s7,n0,n1⟩)
    ·have em:(ts.map Th.D).isEmpty=false:=by
      cases ts with
      |nil=>exact absurd rfl hts
      |cons _ _=>rfl
     rw[em];have tp:0<ts.length:=List.length_pos_iff.mpr hts;refine Wv ?_;refine⟨_,rfl,_,rfl,_,rfl,L,_,rfl,.inl (SqL.of s7.eL),a,S,ns,_,rfl,s7.pn,by omega,by omega,fun d H8 y0 y1 hp g=>?_⟩;have s8:=s7.grw La hp g;obtain⟨v,hv,mv⟩:=gA (d:=d) s8.eL y0 y1;obtain⟨jx,hj⟩:=Ay mv;obtain⟨c,t,rfl,ht,CA⟩:=s8.ta.get hj;have ok:=s8.ok t (zB ht);refine⟨L,_,_,_,rfl,rfl,SqL.of s8.eL,hv,c,_,2,_,rfl,rfl,SqT.of CA,rfl,?_⟩;exact hnx _ _ ⟨t.num,rfl,s8,ok.1.1,by rw[←htop];exact ok.1.2.1⟩
   ·exact hnx _ _ ⟨num,rfl,ss,n0,n1⟩
  clear ss n0 n1;rintro σ' H7 ⟨num,rfl,ss,n0,n1⟩;refine Yx (fun σ' H'=>∃(num:Int),σ'=[some (.ref a),some (.int or),some (.int most),some (.ref L),some (.int top),some (.int mid),some (.int (0+(i:Int))),some (.int way),some (.int num)]∧StrS K S ns H a L or H' xs ts∧0≤num∧num<top) ?_ ?_
  ·intro nx hnx;refine⟨_,rfl,rfl,_,rfl,Xm (fun c=>?_) (fun c=>?_)⟩
   ·refine⟨_,rfl,_,rfl,a,S,ns,4,rfl,ss.pn,Xz rfl,ltI rfl,fun d H8 _ _ hp g=>?_⟩;have s8:=ss.grw La hp g;refine⟨_,_,rfl,rfl,_,rfl,_,_,rfl,rfl,by omega,?_⟩;exact hnx _ _ ⟨(mid+d) % top,rfl,s8,Bl _ (by omega),A0 _ (by omega)⟩
   ·exact hnx _ _ ⟨num,rfl,ss,n0,n1⟩
  clear ss n0 n1;rintro σ' H8 ⟨num,rfl,ss,n0,n1⟩;refine⟨_,rfl,.inl ⟨rfl,_,SqL.of ss.eL⟩,_,rfl,a,S,ns,9,rfl,ss.pn,Xz rfl,ltI rfl,fun day H9 _ _ hp g=>?_⟩;have ss:=ss.grw La hp g;refine⟨leN rfl,fun p np=>?_⟩;have pa:=ss.pn.ne np;have gp:=ss.pn.grw (Z6 np (.lst [.str "a",.str "b",.str "cd"]));have ss:=ss.laid (o:=.lst [.str "a",.str "b",.str "cd"]) La np;have Cy:am a (upd H9 p (.lst [.str "a",.str "b",.str "cd"])) p=some (.lst [.str "a",.str "b",.str "cd"]):=by rw[Zh pa];exact Z4
  generalize upd H9 p (.lst [.str "a",.str "b",.str "cd"])=H10 at ss Cy⊢;refine⟨_,rfl,a,S,ns,3,rfl,ss.pn,Xz rfl,ltI rfl,fun d H11 y0 y1 hp g=>?_⟩;have Cy:=g _ _ Cy;have ss:=ss.grw La hp g;obtain⟨v,hv,mv⟩:=gA (d:=d) (Z7 Cy).2 y0 y1;obtain⟨wd,rfl,wok⟩:∃z:Str,v=.str z∧PyData.strOk z=true:=by
   simp only[List.mem_cons,List.not_mem_nil,or_false]at mv
   rcases mv with rfl | rfl | rfl
   ·exact⟨_,rfl,Om.1⟩
   ·exact⟨_,rfl,Om.2.1⟩
   ·exact⟨_,rfl,Om.2.2⟩
  refine⟨p,_,_,_,rfl,rfl,Xf Cy,hv,_,rfl,_,rfl,a,S,ns,rfl,ss.pn,fun many H12 mn hp g=>⟨leN rfl,fun c nc=>?_⟩⟩;have ss:=ss.grw La hp g;have ss:=ss.laid (o:=.tup [.int day,.str wd,.int num,.int many]) La nc;have CA:(upd H12 c (.tup [.int day,.str wd,.int num,.int many])) c=some (.tup (Th.mk day wd num many).vs):=Z4;generalize upd H12 c (.tup [.int day,.str wd,.int num,.int many])=H13 at ss CA⊢;have tk:ThK or ⟨day,wd,num,many⟩:=⟨⟨n0,by rw[htop];exact n1,mn⟩,wok⟩;refine⟨L,xs,_,rfl,rfl,ss.eL,Zq (by omega),?_⟩;exact hN _ _ ⟨_,_,_,_,_,rfl,ss.put La hpH n_L nHL CA tk,by rw[yR,tl];rfl⟩
 ·rintro σ H4 ⟨o6,o7,o8,xs,ts,rfl,ss,tl⟩;refine⟨_,(Z8 (Zg (pv 3))),_,rfl,hq L ts _ n_L ss.ok (by omega) (.lst (by rw[Zh La];exact ss.eL) (ss.ta.tup fun c ys e=>ss.pn.tup e).dvs) ss.pn ss.g⟩
section
variable{α:Type}
def evT(fs:List Th→α)(fm:α→α→α):Tr→α
 |.leaf ts=>fs ts
 |.node l r=>fm (evT fs fm l) (evT fs fm r)
end
theorem Uc{α β:Type}{R:α→β→Prop}:∀{xs us:List α}{ys ws:List β},Paired R xs ys→Paired R us ws→Paired R (xs++us) (ys++ws)
 |_,_,_,_,.nil,h=>h
 |_,_,_,_,.cons a r,h=>.cons a (Uc r h)
theorem Tb{p:Addr}{H0 H1 H2:Hp}(n:H0 p=none)(s:Same H0 H1)(g:Grw p H1 H2):Same H0 H2:=fun b u e=>(Z7 (g b u (by rw[Zh (Zi e n)];exact s b u e))).2
def glT(Cq or:Int)(t:Tr):Sps:=evT (cL Cq or) (bm Cq or) t
theorem Ps{α β:Type}{R:α→β→Prop}:∀{xs:List α}{ys:List β}(k:Nat),Paired R xs ys→k+1<xs.length→∃(xa:List α)(x1 x2:α)(xb:List α)(ya:List β)(y1 y2:β)(yb:List β),xs=xa++x1::x2::xb∧ys=ya++y1::y2::yb∧xa.length=k∧Paired R xa ya∧R x1 y1∧R x2 y2∧Paired R xb yb
 |_,_,k,.nil,h=>by simp at h
 |_,_,0,.cons h1 .nil,h=>by simp at h
 |_,_,0,.cons h1 (.cons h2 r),_=>⟨[],_,_,_,[],_,_,_,rfl,rfl,rfl,.nil,h1,h2,r⟩
 |_,_,k+1,.cons h1 r,h=>by
  obtain⟨xa,x1,x2,xb,ya,y1,y2,yb,e1,e2,e3,p1,r1,r2,p2⟩:=Ps k r (by simpa using h);exact⟨_::xa,x1,x2,xb,_::ya,y1,y2,yb,by rw[e1];rfl,by rw[e2];rfl,by rw[zw,e3],.cons h1 p1,r1,r2,p2⟩
theorem nY{xa xb:List V}{d:Int}(h:(xa.length:Int)=d):bU (xa++xb) none (some d)=xa:=by
 unfold bU;rw[←h,HT.sIx_none,HT.sIx_nat,BW,Nat.sub_zero,yR,Bn (Nat.le_add_right _ _),List.take_left]
theorem iX{xa xb:List V}{x1 x2:V}{d:Int}(h:(xa.length:Int)=d):bU (xa++x1::x2::xb) (some (d+2)) none=xb:=by
 have e:d+2=((xa.length+2:Nat):Int):=by omega
 have e2:xa++x1::x2::xb=(xa++[x1,x2])++xb:=by simp
 have e3:(xa++[x1,x2]).length=xa.length+2:=by simp
 unfold bU;rw[e,HT.sIx_none,HT.sIx_nat,e2,Bn (by rw[yR,e3];omega),←e3,List.drop_left,yR,Nat.add_sub_cancel_left,zG]
theorem sf{xa xb:List V}{x1:V}{d:Int}(h:(xa.length:Int)=d):atI (xa++x1::xb) d=some x1:=by
 rw[←h];exact dU (by simp)
theorem rL{xa xb:List V}{x1 x2:V}{d:Int}(h:(xa.length:Int)=d):atI (xa++x1::x2::xb) (d+1)=some x2:=by
 rw[←h];exact dU (j:=xa.length+1) (by simp)
def szs(ts:List Tr):Nat:=(ts.map fun t=>t.size+1).sum
def als(ts:List Tr):Nat:=(ts.map fun t=>t.all.length).sum
theorem Sz(xs ys:List Tr):szs (xs++ys)=szs xs+szs ys:=by unfold szs;rw[zk,BN]
theorem Rg(xs ys:List Tr):als (xs++ys)=als xs+als ys:=by unfold als;rw[zk,BN]
theorem Vu(t:Tr)(ts:List Tr):szs (t::ts)=t.size+1+szs ts:=by unfold szs;rw[yQ,zo]
theorem U6(t:Tr)(ts:List Tr):als (t::ts)=t.all.length+als ts:=by unfold als;rw[yQ,zo]
def Trk(or:Int)(t:Tr):Prop:=∀s∈t.streams,∀x∈s,ThK or x
theorem o_:∀t:Tr,t.ht<t.size
 |.leaf _=>Nat.zero_lt_one
 |.node l r=>by
  have a:=o_ l;have b:=o_ r;show max l.ht r.ht+1<l.size+r.size+1;omega
def muT(σ:St)(H:Hp):Nat:=match List.getD σ 3 none with
 |some (V.ref l)=>(match H l with
  |some (HO.lst xs)=>xs.length
  |_=>0)
 |_=>0
def xc(K:W.Frag):Sp:=fun vs H Q _=>∃(a S:Addr)(ns:List Int)(or most:Int),vs=[.ref a,.int or,.int most]∧Pn K S ns H a∧1≤or∧or≤10∧1≤most∧most≤20∧∀(v:V)(t:Tr)(H':Hp),Trk or t→(t.size:Int)+1≤2*most→(t.all.length:Int)≤6*most→DV (am a H') v t.D→Pn K S ns H' a→Grw a H H'→Q v H'
theorem yu(ao:mg "range"=none)(aC:mg "len"=none)(ae:Has P w K mg base "_law_take" 1 ["_law_pen_here","_law_most"] (bw K))(iI:Has P w K mg base "_law_stream" 3 ["_law_pen_here","_law_deep","_law_most"] (uJ K))(F:Fun K "_law_tree" "_law_tree" dq f fd):FnOk P w K mg base CX0 4 f fd ["_law_pen_here","_law_deep","_law_most"] (xc K):=by
 refine F.ok Ua (fun vs H Q E h=>?_) (fun cdv A outer s H vs Q E hr h=>?_)
 ·obtain⟨a,S,ns,or,most,rfl,_⟩:=h;rfl
 obtain⟨a,S,ns,or,most,rfl,hp,d0,d1,m0,m1,hq⟩:=h;refine⟨_,(Z2 (R4 (i:=3) Ua.nd rfl rfl (own:=["_law_k"]) (Sw rfl rfl) (Xb rfl ao (Z0 (Z9 Zm Z3 (Z5 ae hr (Z0 (pv 0) (Z0 (pv 2) Z1)))) Z1))
  (fun _ _ _ _ _=>(Za (i:=0) S9 rfl (Or.inl rfl) (Or.inr rfl))) (fun _ _ _ _ _=>Vi)
  (fun _ _ _ _ _=>(Z5 iI hr (Z0 (pv 1) (Z0 (pv 2) (Z0 Z3 Z1)))))) Zd),?_⟩
 refine⟨_,rfl,_,rfl,a,S,ns,most,rfl,hp,by omega,by omega,fun d H1 x0 x1 hp1 g1=>⟨_,_,rfl,rfl,1+d,rfl,by omega,by omega,?_⟩⟩;refine iO (fun i ys H'=>Pn K S ns H' a∧Grw a H H'∧∃trs:List Tr,trs.length=i∧(∀t∈trs,Trk or t)∧szs trs=2*i∧als trs≤6*i∧Paired (fun v t=>DV (am a H') v t.D) ys trs) ⟨hp1,g1,[],rfl,fun _ h=>absurd h zC,rfl,yM _,.nil⟩ ?_ ?_
 ·rintro i ys H2 C hi ⟨hp2,g2,trs,tl,ok,sz,al,pr⟩ hC;have yl:=zd pr;refine⟨Zq (by omega),Wk.refl _,_,rfl,_,rfl,a,S,ns,or,6,rfl,hp2,d0,d1,by decide,by decide,fun L ts H3 nL tk tsl dv hp3 g3=>hC _ _ ⟨hp3,g2.trans g3,trs++[.leaf ts],by rw[yR,tl];rfl,fun t ht=>?_,?_,?_,?_⟩⟩
  ·rcases ze.mp ht with h | h
   ·exact ok t h
   ·rw[yP.mp h];intro s hs;rw[yP.mp hs];exact tk
  ·rw[Sz,sz,Vu];show 2*i+(1+1+0)=2*(i+1);omega
  ·rw[Rg,U6];show als trs+(ts.length+0)≤6*(i+1);omega
  ·exact Uc (Paired.mapP pr fun _ _ h=>h.mono g3) (.cons dv .nil)
 rintro ys H2 ⟨hp,gg,trs,tl,ok,sz,al,pr⟩;have yl:=zd pr;refine⟨Ze (by omega),fun l nl=>?_⟩;have la:=hp.ne nl;have gl:=hp.grw (Z6 nl (.lst ys));have CB:am a (upd H2 l (.lst ys)) l=some (.lst ys):=by rw[Zh la];exact Z4
 have hp:=hp.laid (o:=.lst ys) nl;have gg:=gg.trans gl;have pr:=Paired.mapP pr fun _ _ h=>h.mono gl;generalize upd H2 l (.lst ys)=H3 at CB hp gg pr⊢;have tpos:1≤trs.length:=by omega
 have sz:(szs trs:Int)≤2*most:=by omega
 have al:(als trs:Int)≤6*most:=by omega
 have tsm:trs.length≤20:=by omega
 clear yl tl gl;refine⟨_,(Z2 (Ry zQ (Zn To (Zf Zw rfl aC Az (Z0 (pv 3) Z1)) Z3 (Zk _)) (Z2 (Zp 4 Ua.nd rfl (Or.inl rfl) (Z5 ae hr (Z0 (pv 0) (Z0 (Z9 X4 (Zf Zw rfl aC Az (Z0 (pv 3) Z1)) Z3) Z1))))
 (Z8 (Zp 3 Ua.nd rfl (Or.inl rfl) (Z9 W2 (Z9 W2 (Xg W4 (pv 3) W8 (W7 (pv 4))) (Y1 (Z0 (Y4 (Z0 S6 (Z0 (Yp Yt (pv 3) (pv 4)) (Z0 (Yp Yt (pv 3) (Z9 Zm (pv 4) Z3)) Z1)))) Z1))) (Xg W4 (pv 3) (W7 (Z9 Zm (pv 4) Z3)) W8)))))) Zd),?_⟩
 refine Rh (fun σ H'=>∃(l:Addr)(o4:Option V)(ys:List V)(trs:List Tr),σ=[some (.ref a),some (.int or),some (.int most),some (.ref l),o4]∧Pn K S ns H' a∧Grw a H H'∧am a H' l=some (.lst ys)∧Paired (fun v t=>DV (am a H') v t.D) ys trs∧(∀t∈trs,Trk or t)∧1≤trs.length∧trs.length≤20∧(szs trs:Int)≤2*most∧(als trs:Int)≤6*most) muT ⟨l,none,ys,trs,rfl,hp,gg,CB,pr,ok,tpos,tsm,sz,al⟩ ?_ ?_
 ·clear hp gg CB pr ok tpos tsm sz al;rintro σ H4 ⟨l,o4,ys,trs,rfl,hp,gg,CB,pr,ok,tpos,tsm,sz,al⟩;have yl:=zd pr;refine⟨_,rfl,l,_,rfl,.inl (Xf CB),_,_,rfl,rfl,_,rfl,Xm (fun c=>?_) (fun c=>?_)⟩
  ·have c:(1:Int)<(ys.length:Int):=yW c;have mu4:muT [some (.ref a),some (.int or),some (.int most),some (.ref l),o4] H4=ys.length:=by
    unfold muT;show(match H4 l with
     |some (HO.lst xs)=>xs.length
     |_=>0)=_
    rw[(Z7 CB).2]
   rw[mu4];refine⟨_,rfl,_,rfl,l,_,rfl,.inl (Xf CB),_,_,rfl,rfl,a,S,ns,_,rfl,hp,by omega,by omega,fun d H5 y0 y1 hp g5=>?_⟩;have gg:=gg.trans g5;have CB:=g5 _ _ CB;have pr:=Paired.mapP pr fun _ _ h=>h.mono g5;obtain⟨xa,x1,x2,xb,ta,t1,t2,tb,rfl,rfl,xal,pa,r1,r2,pb⟩:=Ps d.toNat pr (by omega);have xd:(xa.length:Int)=d:=by omega
   have ca:=nY (xb:=x1::x2::xb) xd;have cb:=iX (xb:=xb) (x1:=x1) (x2:=x2) xd;have a1:=sf (x1:=x1) (xb:=x2::xb) xd;have a2:=rL (x1:=x1) (x2:=x2) (xb:=xb) xd;have pal:=zd pa;have pbl:=zd pb;rw[yR,zw,zw]at tsm;have gk:Grw a H5 H5:=fun _ _ e=>e;refine⟨_,rfl,_,rfl,_,rfl,l,_,rfl,Xf CB,?_⟩;rw[ca];intro p1 n_p1;generalize hz:upd _ p1 _=G1;revert G1;refine blk ?_;intro G1 hz;have hw:=Zl hz n_p1 hp;have hp:=hw.1;have gz:=hw.2.1;have ne_p1:=hw.2.2.1;have qO:=hw.2.2.2;clear hw hz;have gg:=gg.trans gz;have CB:=gz _ _ CB;have gk:=gk.trans gz;refine⟨_,rfl,_,rfl,l,_,d,x1,rfl,rfl,Xf CB,a1,?_⟩;refine⟨_,rfl,_,rfl,_,_,rfl,rfl,l,_,d+1,x2,rfl,rfl,Xf CB,a2,leN rfl,?_⟩;intro c n_c;generalize hz:upd _ c _=G2;revert G2;refine blk ?_;intro G2 hz;have hw:=Zl hz n_c hp;have hp:=hw.1;have gz:=hw.2.1;have ne_c:=hw.2.2.1;have CA:=hw.2.2.2;clear hw hz;have gg:=gg.trans gz;have CB:=gz _ _ CB;have qO:=gz _ _ qO;have gk:=gk.trans gz;refine⟨leN rfl,?_⟩;intro p2 tU;generalize hz:upd _ p2 _=G3;revert G3;refine blk ?_;intro G3 hz;have hw:=Zl hz tU hp;have hp:=hw.1;have gz:=hw.2.1;have ne_p2:=hw.2.2.1;have cr:=hw.2.2.2;clear hw hz;have gg:=gg.trans gz;have CB:=gz _ _ CB;have qO:=gz _ _ qO;have CA:=gz _ _ CA;have gk:=gk.trans gz;refine⟨p1,p2,_,_,rfl,rfl,(Z7 qO).2,(Z7 cr).2,Ze (by rw[Au];omega),?_⟩;intro p3 n_p3;generalize hz:upd _ p3 _=G4;revert G4;refine blk ?_;intro G4 hz;have hw:=Zl hz n_p3 hp;have hp:=hw.1;have gz:=hw.2.1;have ne_p3:=hw.2.2.1;have iu:=hw.2.2.2;clear hw hz;have gg:=gg.trans gz;have CB:=gz _ _ CB;have CA:=gz _ _ CA;have gk:=gk.trans gz;refine⟨_,rfl,_,rfl,_,_,rfl,rfl,_,rfl,l,_,rfl,Xf CB,?_⟩;rw[cb];intro p4 n_p4;generalize hz:upd _ p4 _=G5;revert G5;refine blk ?_;intro G5 hz;have hw:=Zl hz n_p4 hp;have hp:=hw.1;have gz:=hw.2.1;have ne_p4:=hw.2.2.1;have e_p4:=hw.2.2.2;clear hw hz;have gg:=gg.trans gz;have CA:=gz _ _ CA;have iu:=gz _ _ iu;have gk:=gk.trans gz;refine⟨p3,p4,_,_,rfl,rfl,(Z7 iu).2,(Z7 e_p4).2,Ze (by rw[yR,Au];omega),?_⟩;intro p5 n_p5;generalize hz:upd _ p5 _=G6;revert G6;refine blk ?_;intro G6 hz;have hw:=Zl hz n_p5 hp;have hp:=hw.1;have gz:=hw.2.1;have ne_p5:=hw.2.2.1;have xD:=hw.2.2.2;clear hw hz;have gg:=gg.trans gz;have CA:=gz _ _ CA;have gk:=gk.trans gz;refine⟨⟨p5,_,_,ta++[.node t1 t2]++tb,rfl,hp,gg,xD,?_,?_,?_,?_,?_,?_⟩,?_⟩
   ·exact Uc (Uc (Paired.mapP pa fun _ _ h=>h.mono gk) (.cons (.tup CA (.cons (.str _) (.cons (r1.mono gk) (.cons (r2.mono gk) .nil)))) .nil)) (Paired.mapP pb fun _ _ h=>h.mono gk)
   ·intro t ht
    rcases ze.mp ht with ht | ht
    ·rcases ze.mp ht with ht | ht
     ·exact ok t (zI _ ht)
     ·rw[yP.mp ht];intro s hs
      rcases ze.mp hs with hs | hs
      ·exact ok t1 (y3 _ (.head _)) s hs
      ·exact ok t2 (y3 _ (.tail _ (.head _))) s hs
    ·exact ok t (y3 _ (.tail _ (.tail _ ht)))
   ·rw[yR,yR,Au];omega
   ·rw[yR,yR,Au];omega
   ·rw[Sz,Vu,Vu]at sz;rw[Sz,Sz,Vu];have:szs ([]:List Tr)=0:=rfl;show((szs ta+(t1.size+t2.size+1+1+szs [])+szs tb:Nat):Int)≤_;omega
   ·rw[Rg,U6,U6]at al;rw[Rg,Rg,U6];have:als ([]:List Tr)=0:=rfl;show((als ta+((t1.all++t2.all).length+als [])+als tb:Nat):Int)≤_;rw[yR];omega
   ·unfold muT;show(match G6 p5 with
     |some (HO.lst xs)=>xs.length
     |_=>0)<_
    rw[(Z7 xD).2];show(xa++[V.ref c]++xb).length<_;rw[yR,yR,Au,yR,zw,zw];omega
  ·have c:¬((1:Int)<(ys.length:Int)):=z6 (z5.mpr c);obtain⟨t,rfl⟩:∃t,trs=[t]:=List.length_eq_one_iff.mp (by omega);cases pr with
   |cons r1 r=>
   cases r;refine⟨_,(Z8 (Zg (Yp Yt (pv 3) Z3))),_,rfl,l,_,0,_,rfl,rfl,Xf CB,rfl,?_⟩;rw[Vu]at sz;rw[U6]at al;have s0:szs ([]:List Tr)=0:=rfl;have l0:als ([]:List Tr)=0:=rfl;exact hq _ t _ (ok t (.head _)) (by omega) (by omega) r1 hp gg
 ·rintro σ H' Q1 Q2 m ⟨v,e,p,ys,e1,e2,i,j,e3,e4,k,e5,r⟩;exact⟨v,e,p,ys,e1,e2,i,j,e3,e4,k,e5,m _ _ r⟩
end K29
namespace L2
open PySem PySem.Spec PyProof.Rows
variable{prog:Program}{w:World}{A:Around}{E:Value→Shared→Prop}{s:Shared}
section
variable{X:Cx}
end
section
variable{X:Cx}{x c n:Str}{p pos cpos epos np ap hpos:Pos}{e:Expr}{es:List Expr}{ta:TA}{tb:TS}{b₀:Stmt}{suite:List Stmt}{j k i:Nat}{ps:List Str}{sp:Sp}{S:Addr}
end
section
variable{P:Program}{w:World}{A:Around}{E:Value→Shared→Prop}{s:Shared}{a b:Addr}{va vb:List (Key×Value)}
end
theorem Oj{M:Model}{α:Type}{f:α→PUnit→Sem (ForInStep PUnit)}:∀(xs:List α),(∀x∈xs,∀Q:ForInStep PUnit→Shared→Prop,Q (.yield ⟨⟩) s→wpAny M A (f x ⟨⟩) Q E s)→∀{Q:PUnit→Shared→Prop},Q ⟨⟩ s→wpAny M A (forIn xs PUnit.unit f) Q E s
 | [],_,_,h=>by
  rw[List.forIn_nil];exact yI h
 |x::xs,hf,_,h=>by
  rw[B8];exact io (hf x (.head _) _ (Oj xs (fun y hy=>hf y (.tail _ hy)) h))
theorem my{f:Nat→PUnit→Sem (ForInStep PUnit)}:(forIn [:(#[]:Array DictEntry).size] PUnit.unit f:Sem PUnit)=forIn ([]:List Nat) PUnit.unit f:=by
 rw[A9];rfl
theorem vj:(some (Value.builtin "tuple.__eq__")==some (Value.builtin "object.__eq__"))=false:=by decide
theorem vy{es:List DictEntry}{e:DictEntry}(nd:(es.map (·.hash)).Nodup)(he:e∈es):¬(es.filter fun x=>x.hash==e.hash).length > 1:=by
 induction es with
 |nil=>cases he
 |cons x es ih=>
  rw[yQ,zt]at nd
  rcases y8.mp he with h | h
  ·have z:es.filter (fun y=>y.hash==e.hash)=[]:=List.filter_eq_nil_iff.mpr fun y hy c=>nd.1 (yO.mpr ⟨y,hy,by rw[←h];exact eq_of_beq c⟩);rw[zN,z]
   split <;> simp
  ·have ne:(x.hash==e.hash)=false:=AV.mpr fun c=>nd.1 (yO.mpr ⟨e,h,c.symm⟩);rw[zN,yK (by rw[ne];exact yT)];exact ih nd.2 h
theorem nG{l:Addr}{xs:List TKv}{Q:Value→Shared→Prop}(lo:(l==sysModules)=false)(hd:s.heap.DictOfH (tupleKind (aa prog w)) l xs)(hz:xs.length≤sizeLine)(hs:(xs.map fun x=>(tupleKind (aa prog w)).hash x.1).Nodup)(h:∀g,(∀b o,s.heap.get? b=some o→g.get? b=some o)→i5 prog w g s.heap.objs.size xs→Q (.ref s.heap.objs.size) {s with heap:=g}):wpAny (model prog w) A (call (.type "dict") [.ref l]) Q E s:=by
 obtain⟨o,es,ep,ho,ex,od,el,ek,nd⟩:=hd;refine callType_codes (Q₁:=fun obj s₁=>obj=.ref s.heap.objs.size∧s₁={s with heap:=s.heap.push {cls:=.type "dict",data:=.dict #[]}}) F.kt_called_dict (F.kt_typeCall_dict_1 _) F.entry_dict_init (kt_code_dict_new _ ⟨rfl,rfl⟩) ?_;rintro obj s₁ ⟨rfl,rfl⟩;have gD:(s.heap.push {cls:=.type "dict",data:=.dict #[]}).get? s.heap.objs.size=some {cls:=.type "dict",data:=.dict #[]}:=yY _ rfl;have hl1:(s.heap.push {cls:=.type "dict",data:=.dict #[]}).get? l=some o:=yJ _ ho;have ltl:l<s.heap.objs.size:=yV ho;refine⟨⟨_,gD,rfl⟩,F.args_dict_init_2 _ _,?_⟩;unfold Builtin.«dict.__init__»;refine io ?_;unfold Builtin.Dict.selfAndRest;refine io (Av ⟨_,gD,rfl⟩ (yI (a:=(s.heap.objs.size,[Value.ref l])) ?_));show wpAny (model prog w) _ (Builtin.Dict.updateFrom "dict.__init__" s.heap.objs.size (.ref l) [] .none) _ _ _;unfold Builtin.Dict.updateFrom;refine io (BI (T:="dict") ⟨_,hl1,ex.1⟩ ?_);rw[yK (by decide)];refine io ?_;unfold Builtin.Dict.merge;refine io ?_;unfold Builtin.Dict.readDirectly;refine io (BF (T:="dict") ⟨_,hl1,ex.1⟩ isSubtype_dict_dict ?_);rw[yK (by decide)];refine io (B9 (T:="dict") ⟨_,hl1,ex.1⟩ PySem.F.slot_dict_iter.lookup (yI ?_));rw[yL (by decide)];refine io (yI ?_);unfold Builtin.Dict.mergeDict;rw[yK (by rw[AV.mpr (Ah ltl)];exact yT)];refine io ?_;unfold Builtin.Dict.showsAll;rw[lo,yK yT];refine yI (io (zE hl1 od ?_));have fin:∀g,(∀b o,s.heap.get? b=some o→g.get? b=some o)→i5 prog w g s.heap.objs.size xs→wpAny (model prog w) A.in1.in1 (do
   Builtin.Dict.addKeywords s.heap.objs.size []
   ret Value.none) (fun fin s'=>
    match fin with
    |Fin.done f=>wants (fun r s₂=>r=Value.none∧Q (Value.ref s.heap.objs.size) s₂) E (Except.ok f) s'
    |Fin.again c'=>c'.quiet=true∧codeAny (model prog w) A.in1 c' (wants (fun r s₂=>r=Value.none∧Q (Value.ref s.heap.objs.size) s₂) E) s')
   (fun e s'=>wants (fun r s₂=>r=Value.none∧Q (Value.ref s.heap.objs.size) s₂) E (Except.error e) s') {s with heap:=g}:=fun g kp rw=>
  io (m:=Builtin.Dict.addKeywords s.heap.objs.size []) (yI (yI ⟨rfl,h g kp rw⟩))
 have kp0:∀b o,s.heap.get? b=some o→(s.heap.push {cls:=.type "dict",data:=.dict #[]}).get? b=some o:=fun b o e=>yJ _ e;have sz:es.size=xs.length:=by rw[←yU,el,pi]
 have hn:(es.toList.map (·.hash)).Nodup:=by
  rw[el,zf];exact hs
 dsimp only;cases hx:xs with
 |nil=>
  have e0:es=#[]:=Array.eq_empty_of_size_eq_zero (by rw[sz,hx];rfl);rw[if_neg (by rw[e0];simp)];refine io (Bo hl1 od (io (zE hl1 od ?_)));rw[e0];refine io ?_;rw[my];refine Oj [] (fun _ h=>absurd h zC) (yI ?_);exact fin _ kp0 ⟨_,#[],0,gD,⟨rfl,rfl,rfl⟩,rfl,by rw[hx];rfl,nd⟩
 |cons x0 xr=>
  have few:(decide (es.size≤8) && es.all fun e=>(keyPart e.key).isSome)=false:=by
   rw[Bool.and_eq_false_iff];refine .inr ?_;rw[←Array.all_toList,el,hx];rfl
  rw[yL (by rw[few];rfl)];refine io (zE gD rfl ?_);rw[yL (by decide)];refine io ?_;unfold Builtin.Dict.entriesForEmpty;refine io (zE hl1 od (io ?_));rw[←Array.forIn_toList];refine Oj _ (fun e he Q' hq'=>?_) (yI ?_)
  ·rw[el]at he;obtain⟨x,hxm,rfl⟩:=yO.mp he;obtain⟨ot,its,n,t1,t2,_⟩:=(show IsTupleKey (aa prog w) s.heap x.1 x.2.1 from ek x hxm);refine io ?_;show wpAny (model prog w) _ (do
    let __do_lift ←specialOf (.ref x.2.1) (Str.ofString "__eq__")
    pure (__do_lift==some (Value.builtin "object.__eq__"))) _ _ _
   refine io (B9 (T:="tuple") ⟨_,kp0 _ _ t1,t2⟩ PySem.F.slot_tuple_eq.lookup (yI ?_));rw[vj,yL (show(!false)=true from rfl)];have no:¬(es.filter fun y=>y.hash==(entryOfKey (tupleKind (aa prog w)) x).hash).size > 1:=by
    rw[←yU,Array.toList_filter];exact vy hn (by rw[el];exact he)
   rw[yK no];exact yI hq'
  ·have ne:es.isEmpty=false:=by
    rw[Array.isEmpty_eq_false_iff];intro z;rw[z,hx]at sz;cases sz
   rw[yL (by rw[ne];rfl)];refine io (wpAny_updateDictKeysTo gD rfl (yI ?_) (by rw[sz];omega));refine fin _ (fun b o e=>?_) ⟨_,es,1,BP _ gD rfl,⟨rfl,rfl,rfl⟩,rfl,el,nd⟩;exact(Ao _ _ (Ne.symm (y4 (yV e)))).trans (kp0 b o e)
section
variable{X:Cx}
def sD(P:Program)(w:World):List V→Hp→VK→Prop:=fun xs H Q=>∃(l:Addr)(kvs:List (List Key×V)),xs=[.ref l]∧H l=some (.dT kvs)∧(kvs.map fun kv=>(tupleKind (aa P w)).hash kv.1).Nodup∧∀p,H p=none→Q (.ref p) (upd H p (.dT kvs))
theorem jW{H:Hp}{kvs:List (List Key×V)}{xs:List TKv}(h:KT H kvs xs):xs.map (·.1)=kvs.map (·.1):=by
 induction h with
 |nil=>rfl
 |cons h r ih=>rw[yQ,yQ,ih,h.1]
theorem fK:aK X (.type "dict") (sD X.prog X.w):=by
 intro Cr s σ H xs us Q I rx h;obtain⟨l,kvs,rfl,hd,hn,q⟩:=h;obtain⟨u,rfl,ru⟩:=Xx rx;cases ru;obtain⟨z,lo,xs,kt,dd⟩:=O4 I.hok hd;have kl:=zd kt;have hn2:(xs.map fun x=>(tupleKind (aa X.prog X.w)).hash x.1).Nodup:=by
  have e:(xs.map fun x=>(tupleKind (aa X.prog X.w)).hash x.1)=(xs.map (·.1)).map (tupleKind (aa X.prog X.w)).hash:=by rw[zf];rfl
  rw[e,jW kt,zf];exact hn
 refine nG lo dd (by rw[←kl];exact z) hn2 fun g kp hD=>?_;refine⟨.ref s.heap.objs.size,_,I.laid (t':=s.toks) (o:=.dT kvs) kp (yM _) ⟨z,AV.mpr (Ah I.big),xs,?_,hD⟩,rfl,q _ (I.hok.fresh (yM _))⟩;exact KT.keeps kt fun b ys e=>by rw[Zb (Zi e (I.hok.fresh (yM _)))];exact e
def u6(tk tv:TE):TE:=fun σ H Q=>∀p,H p=none→tk σ (upd H p (.dT [])) fun x H1=>tv σ H1 fun v H2=>∃(b:Addr)(k:List Key),x=.ref b∧H2 p=some (.dT [])∧H2 b=some (.tup (k.map kV))∧Q (.ref p) (upd H2 p (.dT [(k,v)]))
theorem oF{pos:Pos}{k v:Expr}{tk tv:TE}(hu:X.A.units+64<cLine)(hk:PE X k tk)(hv:PE X v tv):PE X (.Dict [some k] [v] pos) (u6 tk tv):=by
 intro Cr s σ H Q I q;have hn:=I.hok.fresh (yM s.heap.objs.size);have I1:=I.laid (a:=s.heap.objs.size) (o:=.dT []) (h':=s.heap.push {cls:=.type "dict",data:=.dict #[]}) (t':=s.toks) (fun _ _ q=>yJ _ q) (yM _) (fw s.heap I.big);refine wpAny_Dict_any rfl rfl (fun z=>nomatch z) (Nat.le_of_ble_eq_true rfl) (thn (pF hk hv sr Cr _ σ _ (fun ps H2=>match ps with
  | [(x,v)]=>∃(b:Addr)(k:List Key),x=.ref b∧H2 s.heap.objs.size=some (.dT [])∧H2 b=some (.tup (k.map kV))∧Q (.ref s.heap.objs.size) (upd H2 s.heap.objs.size (.dT [(k,v)]))
  |_=>False) I1 (q _ hn)) fun ws s2 ⟨ps,H2,I2,rel,q1⟩=>?_)
 obtain⟨x,v,rfl,b,k,ex,e,eb,q2⟩:∃(x v:V),ps=[(x,v)]∧∃(b:Addr)(k:List Key),x=.ref b∧H2 s.heap.objs.size=some (.dT [])∧H2 b=some (.tup (k.map kV))∧Q (.ref s.heap.objs.size) (upd H2 s.heap.objs.size (.dT [(k,v)])):=by
  cases ps with
  |nil=>exact q1.elim
  |cons p ps=>
   obtain⟨x,v⟩:=p;cases ps with
   |nil=>exact⟨x,v,rfl,q1⟩
   |cons _ _=>exact q1.elim
 subst ex;cases rel with
 | @cons a c as bs h1 r=>
 cases r;obtain⟨u,r⟩:=c;cases (show u=Value.ref b from h1.1);obtain⟨z,hd,xs,rel,dd⟩:=O4 I2.hok e;cases rel;unfold storeAll;rw[B8];refine io (io (wpAny_dictSet_heap (show X.A.units<cLine by omega) (U1 I2.hok eb) dd (fun h' dd' hs=>yI ?_) (Aa _)));show wpAny _ _ (forIn [] PUnit.unit _) _ _ _;rw[List.forIn_nil];refine yI ?_;obtain⟨q,es,ep,hq,h2,h3,h4,_,h5⟩:=dd';refine⟨.ref s.heap.objs.size,_,dI (ob:=.dT [(k,v)]) I2 (by rw[e];exact True.intro) hs ⟨q,hq⟩ ⟨Ze (by show 1≤_;omega),hd,_,(KT.put (kvs:=[]) (xs:=[]) .nil k eb h1.2).keeps fun c ys ec=>?_,q,es,ep,hq,h2,h3,h4,h5⟩,rfl,q2⟩;rw[Zb (V6 ec e (fun z=>nomatch z))];exact ec
def xC(D:Ends)(d:Addr)(kvs:List (List Key×V))(o:Obj):Ends where
 nx:=fun σ2 H2=>H2 d=some (.frz o (.dT kvs))∧D.nx σ2 (upd H2 d (.dT kvs))
 rt:=fun v H2=>H2 d=some (.frz o (.dT kvs))∧D.rt v (upd H2 d (.dT kvs))
 bk:=fun σ2 H2=>H2 d=some (.frz o (.dT kvs))∧D.bk σ2 (upd H2 d (.dT kvs))
 ct:=fun σ2 H2=>H2 d=some (.frz o (.dT kvs))∧D.ct σ2 (upd H2 d (.dT kvs))
def xF(t:TS):TS:=fun D σ H=>∃(d:Addr)(kvs:List (List Key×V)),H d=some (.dT kvs)∧∀o,t (xC D d kvs o) σ (upd H d (.frz o (.dT kvs)))
theorem sH{st:Stmt}{t:TS}(h:PS X st t):PS X st (xF t):=by
 intro Cr s σ H D I hw;obtain⟨d,kvs,hd,q⟩:=hw;obtain⟨o,I1,nf⟩:=I.freezeT hd;refine thn (h Cr s σ _ _ I1 (q o)) fun f s1 hf=>?_;cases f with
 |next=>
  obtain⟨σ2,H2,I2,hd2,q2⟩:=hf;exact⟨σ2,_,I2.thawT nf hd2,q2⟩
 |brk=>
  obtain⟨σ2,H2,I2,hd2,q2⟩:=hf;exact⟨σ2,_,I2.thawT nf hd2,q2⟩
 |cont=>
  obtain⟨σ2,H2,I2,hd2,q2⟩:=hf;exact⟨σ2,_,I2.thawT nf hd2,q2⟩
 |ret u=>
  obtain⟨v,σ2,H2,I2,r,hd2,q2⟩:=hf;exact⟨v,σ2,_,I2.thawT nf hd2,r,q2⟩
end
theorem mH{d:Addr}{o:Obj}{kvs:List (List Key×V)}{g:TG}{tb:TS}{D:Ends}{σ:St}{H:Hp}(Pv:Nat→St→Hp→Prop)(h0:Pv 0 σ H)(hl:∀i σ H,Pv i σ H→H d=some (.frz o (.dT kvs)))(hs:∀i p b σ H (N B1:St→Hp→Prop) (R:VK),(∀σ' H',Pv (i+1) σ' H'→N σ' H')→(∀v H',D.rt v H'→R v H')→kvs[i]?=some p→H b=some (.tup (p.1.map kV))→Pv i σ H→g (.ref b) σ H fun σ2 H2=>tb {nx:=N,rt:=R,bk:=B1,ct:=N} σ2 H2)(hd:∀σ H,Pv kvs.length σ H→D.nx σ H):
  ∃W:Nat→Nat→St→Hp→Prop,(∃m,W 0 m σ H)∧∀i m σ H,W i m σ H→
   ((lm d kvs o).stop i H∧D.nx σ H)∨((lm d kvs o).go i H∧∃N:St→Hp→Prop,(∀σ' H',N σ' H'→∃m',m'<m∧W (i+1) m' σ' H')∧∀x H',(lm d kvs o).yld i H x H'→g x σ H' fun σ2 H2=>tb {D with nx:=N,ct:=N,bk:=D.nx} σ2 H2):=by
 refine⟨fun i m σ H=>m=kvs.length-i∧i≤kvs.length∧Pv i σ H,⟨kvs.length,by simp,Nat.zero_le _,h0⟩,?_⟩;rintro i m σ H ⟨rfl,hi,p⟩;have q:=hl i σ H p;by_cases Cz:i<kvs.length
 ·refine .inr ⟨⟨Cz,q⟩,Pv (i+1),fun σ' H' p'=>⟨kvs.length-(i+1),by omega,rfl,Cz,p'⟩,fun x H' y=>?_⟩;obtain⟨e,p',b,hp',rfl,hb⟩:=y;subst e;exact hs i p' b σ _ (Pv (i+1)) D.nx D.rt (fun _ _ h=>h) (fun _ _ h=>h) hp' hb p
 ·have e:i=kvs.length:=by omega
  subst e;exact .inl ⟨⟨yM _,q⟩,hd σ H p⟩
end L2
namespace Ld
open PySem L2
def nod:Nat→List Nat→Bool
 | 0,xs=>decide (xs.length≤1)
 |n+1,xs=>if decide (xs.length≤1)then true else nod n ((xs.filter fun x=>x % 2==0).map (· / 2)) && nod n ((xs.filter fun x=>!(x % 2==0)).map (· / 2))
theorem ff{α:Type}{xs:List α}(h:xs.length≤1):xs.Nodup:=by
 match xs,h with
 | [],_=>exact zO
 | [x],_=>exact zt.mpr ⟨zC,zO⟩
theorem i7:∀(n:Nat)(xs:List Nat),nod n xs=true→xs.Nodup
 | 0,xs,h=>ff (yW h)
 |n+1,xs,h=>by
  unfold nod at h
  split at h
  ·rename_i c;exact ff (yW c)
  ·obtain⟨h1,h2⟩:=(zW _ _).mp h;have a:=V7 (i7 n _ h1);have b:=V7 (i7 n _ h2);have p:(xs.filter (fun x=>x % 2==0)++xs.filter (fun x=>!(x % 2==0))).Perm xs:=List.filter_append_perm _ _;refine p.nodup_iff.mp (BU.mpr ⟨a,b,fun x hx y hy e=>?_⟩);have c1:=(zn.mp hx).2;have c2:=(zn.mp hy).2;rw[←e]at c2;simp[c1]at c2
def pK(h i:Int):Int:=reduceHash (Builtin.Tuple.tupleHashOf [hashInt h,hashInt i])
def allK:List (Nat×Nat):=(List.range 11).flatMap fun h=>(List.range (2^(10-h))).map fun i=>(h,i)
def qF(k:Nat×Nat):Nat:=(pK k.1 k.2+18446744073709551616).toNat
theorem re:nod 70 (allK.map qF)=true:=by decide +kernel
theorem uU:(allK.map qF).Nodup:=i7 70 _ re
theorem rf{h i:Nat}(hh:h≤10)(hi:i<2^(10-h)):(h,i)∈allK:=List.mem_flatMap.mpr ⟨h,Ce.mpr (by omega),yO.mpr ⟨i,Ce.mpr hi,rfl⟩⟩
theorem O0{α β:Type}{f:α→β}:∀{l:List α},(l.map f).Nodup→∀{a b:α},a∈l→b∈l→f a=f b→a=b
 |x::l,nd,a,b,ha,hb,e=>by
  rw[yQ,zt]at nd
  rcases y8.mp ha with ha | ha
  ·rcases y8.mp hb with hb | hb
   ·rw[ha,hb]
   ·exact absurd (yO.mpr ⟨b,hb,by rw[←e,ha]⟩) nd.1
  ·rcases y8.mp hb with hb | hb
   ·exact absurd (yO.mpr ⟨a,ha,by rw[e,hb]⟩) nd.1
   ·exact O0 nd.2 ha hb e
theorem uh{or:Int}(d1:or≤10){k l:Int×Int}(hk:0≤k.1∧k.1≤or∧0≤k.2∧k.2<2^(or-k.1).toNat)(hl:0≤l.1∧l.1≤or∧0≤l.2∧l.2<2^(or-l.1).toNat)(e:pK k.1 k.2=pK l.1 l.2):k=l:=by
 have go:∀{k:Int×Int},(0≤k.1∧k.1≤or∧0≤k.2∧k.2<2^(or-k.1).toNat)→(k.1.toNat,k.2.toNat)∈allK:=fun{k} hk=>by
  refine rf (by omega) ?_;have a:(2:Nat)^(or-k.1).toNat≤2^(10-k.1.toNat):=Nat.pow_le_pow_right (by decide) (by omega);have b:((2^(or-k.1).toNat:Nat):Int)=(2:Int)^(or-k.1).toNat:=by push_cast;rfl
  have c:=hk.2.2.2;rw[←b]at c;omega
 have e2:qF (k.1.toNat,k.2.toNat)=qF (l.1.toNat,l.2.toNat):=by
  unfold qF;rw[show(((k.1.toNat,k.2.toNat):Nat×Nat).1:Int)=k.1 from Int.toNat_of_nonneg hk.1,show(((k.1.toNat,k.2.toNat):Nat×Nat).2:Int)=k.2 from Int.toNat_of_nonneg hk.2.2.1,show(((l.1.toNat,l.2.toNat):Nat×Nat).1:Int)=l.1 from Int.toNat_of_nonneg hl.1,show(((l.1.toNat,l.2.toNat):Nat×Nat).2:Int)=l.2 from Int.toNat_of_nonneg hl.2.2.1,e]
 have e3:=O0 uU (go hk) (go hl) e2;injection e3 with e4 e5
 exact Ad (by omega) (by omega)
theorem qy{or:Int}(d1:or≤10){ks:List (Int×Int)}(o:Kok or ks):(ks.map fun k=>pK k.1 k.2).Nodup:=
 AU.mpr (o.nd.imp_of_mem fun{a b} ha hb ne e=>ne (uh d1 (o.st a ha) (o.st b hb) e))
end Ld
namespace K29
open PySem L2 Ld
theorem sj{P:Program}{w:World}{or:Int}(d1:or≤10){ps:Sps}(o:Kok or (ps.map (·.1))):((af ps).map fun kv=>(tupleKind (aa P w)).hash kv.1).Nodup:=by
 have h:=qy d1 o;have e:((af ps).map fun kv=>(tupleKind (aa P w)).hash kv.1)=(ps.map (·.1)).map fun k=>pK k.1 k.2:=by
  unfold af;rw[zf,zf];rfl
 rw[e];exact h
theorem eP{Cq or:Int}{qs rs as bs fs qs':Sps}(p:qs.Perm as)(q:rs.Perm bs)(nq:(qs.map (·.1)).Nodup)(nr:(rs.map (·.1)).Nodup)(s:Stl or (aj (az qs rs) / Cq) (az qs rs) fs qs'):qs'.Perm (bm Cq or as bs):=by
 have pp:=qX p q nq nr;have e:=(rF s pp (Te nq)).1;rw[Wz pp]at e;unfold bm;rw[e];exact(Zy qs').symm
theorem Qo{Cq or:Int}(d0:0≤or):∀{t:Tr},(∀s∈t.streams,∀x∈s,ThL or x)→Lok Cq or (glT Cq or t)∧aj (glT Cq or t)=aR t.all∧(glT Cq or t).length≤t.all.length
 |.leaf ts,h=>Nh d0 (h ts (.head _))
 |.node l r,h=>by
  obtain⟨a1,a2,a3⟩:=Qo (Cq:=Cq) d0 (t:=l) fun s hs=>h s (zI _ hs);obtain⟨b1,b2,b3⟩:=Qo (Cq:=Cq) d0 (t:=r) fun s hs=>h s (y3 _ hs);obtain⟨c1,c2,c3⟩:=R7 (Cq:=Cq) a1.pok b1.pok;refine⟨c1,?_,?_⟩
  ·show aj (bm Cq or (glT Cq or l) (glT Cq or r))=aR (l.all++r.all);rw[c2,a2,b2];unfold aR;rw[zk,BN]
  ·show(bm Cq or (glT Cq or l) (glT Cq or r)).length≤(l.all++r.all).length;rw[yR];omega
def oT:Sp:=fun vs H Q _=>∃(d1 d2:Addr)(or:Int)(xs ys:Sps),vs=[.ref d1,.ref d2]∧H d1=some (.dT (af xs))∧H d2=some (.dT (af ys))∧or≤10∧Kok or (xs.map (·.1))∧(ys.map (·.1)).Nodup∧xs.length+ys.length≤500∧∀(d:Addr)(H':Hp),Same H H'→H d=none→H' d=some (.dT (af (az xs ys)))→Q (.ref d) H'
def jG(m:Nat):Sp:=fun vs H Q _=>∃(v:V)(Cq or:Int)(t:Tr),vs=[.int Cq,.int or,v]∧DV H v t.D∧t.ht<m∧(∀s∈t.streams,∀x∈s,ThL or x)∧t.all.length≤62∧1≤Cq∧Cq≤20∧0≤or∧or≤10∧∀(d:Addr)(qs:Sps)(H':Hp),Same H H'→H d=none→H' d=some (.dT (af qs))→qs.Perm (glT Cq or t)→Q (.ref d) H'
variable{P:Program}{w:World}{K:W.Frag}{mg:Str→Option Value}{base:Heap}{f:Addr}{fd:FuncData}
theorem wv(aX:mg "dict"=none)(F:Fun K "_law_added" "_law_added" cO f fd):FnOk P w K mg base CX0 1 f fd ["_law_one","_law_other"] oT:=by
 refine F.ok Ux (fun vs H Q E h=>?_) (fun cdv A outer s H vs Q E hr h=>?_)
 ·obtain⟨d1,d2,or,xs,ys,rfl,_⟩:=h;rfl
 obtain⟨d1,d2,or,xs,ys,rfl,e1,e2,dp,kok,ny,len,hq⟩:=h;refine⟨_,(Z2 (Zp 2 Ux.nd rfl (Or.inl rfl) (Y8 fK rfl aX BM (Z0 (pv 0) Z1))) Zd),?_⟩;refine⟨_,rfl,d1,_,rfl,e1,sj dp kok,fun d n_d=>?_⟩;have sm:=Z6 n_d (.dT (af xs));have ed:(upd H d (.dT (af xs))) d=some (.dT (af xs)):=Z4;have e22:=sm _ _ e2;generalize upd H d (.dT (af xs))=H1 at sm ed e22⊢;have dd:d≠d2:=(Zi e2 n_d).symm;refine⟨_,(Z2 (sH (Yy zQ rfl (Q0 (pv 1)) (Za (i:=3) Ux.nd rfl (Or.inl rfl))
 (Z8 (Wm (X0 hr) (pv 2) (pv 3) (Z9 Zm (Wf (X0 hr) (pv 2) (pv 3) Z3 ⟨rfl,rfl,rfl,rfl⟩) (Wo (X0 hr) (pv 1) (pv 3) (fun _ _=>rfl))) rfl)))) Zd),?_⟩
 refine⟨d2,_,e22,fun o=>⟨_,rfl,d2,o,_,rfl,Z4,?_⟩⟩;refine mH (fun i σ H'=>∃(o3:Option V),σ=[some (.ref d1),some (.ref d2),some (.ref d),o3]∧(∀b w,b≠d2→H b=some w→H' b=some w)∧H' d2=some (.frz o (.dT (af ys)))∧H' d=some (.dT (af (az xs (ys.take i))))∧(az xs (ys.take i)).length≤xs.length+i) ⟨_,rfl,fun b w nb e=>by rw[Zb nb];exact sm _ _ e,Z4,by rw[Zb dd];exact ed,yM _⟩ ?_ ?_ ?_
 ·rintro i σ H' ⟨_,_,_,e,_⟩;exact e
 ·rintro i p0 b σ H' N B1 R hN hR hp0 Cw ⟨o3,rfl,kp,ef,ed,al⟩;obtain⟨p,hp,rfl⟩:=g_ hp0;have il:i<ys.length:=(yZ.mp hp).1;have Cw:KAt H' b p.1:=Cw;have st:az xs (ys.take (i+1))=ak (az xs (ys.take i)) p.1 (cnt (az xs (ys.take i)) p.1+p.2):=by rw[Zx hp,P3]
  rw[st]at hN;generalize az xs (ys.take i)=zs at ed al hN;have l1:=W5 zs p.1 (cnt zs p.1+p.2);have lk:=Ws ny (zB hp);refine⟨_,rfl,d,rfl,.inr ⟨_,.inl ed⟩,_,rfl,_,X7 ed Cw,_,rfl,_,rfl,d2,.int p.2,rfl,by rw[←lk];exact ue ef Cw,_,p.2,W0 _ _,rfl,_,rfl,_,rfl,d,_,rfl,DPut.t (k:=kk p.1) ed Cw (Zq (by rw[Zs];omega)),?_⟩;refine hN _ _ ⟨_,rfl,fun x w nx e=>?_,by rw[Zb (Ne.symm dd)];exact ef,by rw[←Uz];exact Z4,by omega⟩;rw[Zb (Zi e n_d)];exact kp x w nx e
 ·rintro σ H' ⟨o3,rfl,kp,ef,ed,_⟩;rw[Zs,zG]at ed;refine⟨ef,_,(Z8 (Zg (pv 2))),_,rfl,hq d _ (fun b w e=>?_) n_d (by rw[Zb dd];exact ed)⟩;by_cases z:b=d2
  ·rw[z]at e⊢;rw[e2]at e;rw[←e];exact Z4
  ·rw[Zb z];exact kp b w z e
theorem v4{m:Nat}(bS:Has P w K mg base "_law_grown" (2+m) ["_law_room","_law_deep","_law_tree_here"] (jG m))(bo:Has P w K mg base "_law_added" 1 ["_law_one","_law_other"] oT)(aT:Has P w K mg base "_law_settle" 2 ["_law_now","_law_room","_law_deep"] iZ)(ah:mg "isinstance"=none)(av:mg "list"=none)(F:Fun K "_law_grown" "_law_grown" bR f fd):FnOk P w K mg base CX0 (2+m+1) f fd ["_law_room","_law_deep","_law_tree_here"] (jG (m+1)):=by
 refine F.ok Xq (fun vs H Q E h=>?_) (fun cdv A outer s H vs Q E hr h=>?_)
 ·obtain⟨v,Cq,or,t,rfl,_⟩:=h;rfl
 obtain⟨v,Cq,or,t,rfl,dv,ht,tw,tal,r0,r1,d0,dp,hq⟩:=h;refine⟨_,(Z2 (Zp 3 Xq.nd rfl (Or.inl rfl) Q3) Zd),fun p0 np0=>?_⟩;have sm:=Z6 np0 (.dT []);have ep:(upd H p0 (.dT [])) p0=some (.dT (af [])):=Z4;generalize upd H p0 (.dT [])=H1 at sm ep⊢;refine⟨_,(Z2 (Yu (T3 (Zf Um rfl ah As (Z0 (pv 2) (Z0 (Uf (v:=.ty "list") rfl av AD rfl) Z1)))) (Z2 (Yy zQ rfl (Yi (pv 2)) (Za (i:=4) Xq.nd rfl (Or.inl rfl))
 (Z2 (Zp 5 Xq.nd rfl (Or.inl rfl) (oF hr.units (Y4 (Z0 Z3 (Z0 (Yp Ys (pv 4) Z3) Z1))) (Yp Ys (pv 4) Z3)))
 (Z2 (W6 (Z5 aT hr (Z0 (pv 5) (Z0 (pv 0) (Z0 (pv 1) Z1)))))
 (Z2 (Zp 3 Xq.nd rfl (Or.inl rfl) (Z5 bo hr (Z0 (pv 3) (Z0 (pv 5) Z1))))
 (Z8 (W6 (Z5 aT hr (Z0 (pv 3) (Z0 (pv 0) (Z0 (pv 1) Z1))))))))))
 (Z8 (Zg (pv 3)))) Zu) Zd),?_⟩
 cases t with
 |leaf ts=>
  obtain⟨b,xs,rfl,eb,qb⟩:=DV.list_inv dv;have tw:∀x∈ts,ThL or x:=tw ts (.head _);have tal:ts.length≤62:=tal;have xl:=qb.length;rw[pi]at xl;refine⟨_,rfl,_,_,"list",_,rfl,TyOf.lst (sm _ _ eb),m7,_,rfl,Wv ?_⟩;refine⟨_,rfl,b,rfl,⟨_,SqL.of (sm _ _ eb)⟩,?_⟩;refine X3 (xs:=xs) (fun n σ H'=>∃(d:Addr)(o4 o5:Option V)(qs:Sps),σ=[some (.int Cq),some (.int or),some (.ref b),some (.ref d),o4,o5]∧Same H H'∧H d=none∧H' d=some (.dT (af qs))∧qs.Perm (cL Cq or (ts.take n))) ⟨p0,_,_,[],rfl,sm,np0,ep,.refl _⟩ ?_ ?_ ?_
  ·rintro n σ H' _ ⟨_,_,_,_,_,g,_⟩;exact SqL.of (g _ _ eb)
  ·rintro n x σ H2 N B1 R hN hR hx ⟨d,o4,o5,qs,rfl,g,nd,ed,pm⟩;obtain⟨t,c,hth,rfl,ec,hm⟩:=DVs.th_at qb hx;have nl:n<ts.length:=(yZ.mp hth).1;obtain⟨oka,_,len⟩:=Nh (Cq:=Cq) d0 fun u hu=>tw u (AO (i:=n) hu);rw[zu]at len;have e:cL Cq or (ts.take (n+1))=bm Cq or (cL Cq or (ts.take n)) (thL Cq or t):=by rw[Zx hth,lc]
   rw[e]at hN;generalize cL Cq or (ts.take n)=la at pm oka len hN;have ql:=pm.length_eq;have ot:=Na d0 (tw t hm);have ec:=g _ _ ec;intro p np;have sp:=Z6 np (.dT []);have Cy:(upd H2 p (.dT [])) p=some (.dT []):=Z4;have nHp:H p=none:=g.free np;have g:=g.trans sp;have ec:=sp _ _ ec;have ed:=sp _ _ ed;have pd:p≠d:=(Zi (by assumption:H2 d=some (.dT (af qs))) np).symm;generalize upd H2 p (.dT [])=H3 at g ec ed Cy⊢;refine⟨_,rfl,c,_,2,_,rfl,rfl,SqT.of ec,rfl,leN rfl,fun k nk=>?_⟩;have sk:=Z6 nk (.tup [.int 0,.int t.num]);have e_k:(upd H3 k (.tup [.int 0,.int t.num])) k=some (.tup [.int 0,.int t.num]):=Z4;have g:=g.trans sk;have ec:=sk _ _ ec;have ed:=sk _ _ ed;have Cy:=sk _ _ Cy;generalize upd H3 k (.tup [.int 0,.int t.num])=H4 at g ec ed Cy e_k⊢;refine⟨_,rfl,c,_,3,_,rfl,rfl,SqT.of ec,rfl,k,kk (0,t.num),rfl,Cy,e_k,?_⟩;have g5:Same H (upd H4 p (.dT (af [((0,t.num),t.many)]))):=Vh g nHp;have ed5:(upd H4 p (.dT (af [((0,t.num),t.many)]))) d=some (.dT (af qs)):=by rw[Zb (Ne.symm pd)];exact ed
   have ep5:(upd H4 p (.dT (af [((0,t.num),t.many)]))) p=some (.dT (af [((0,t.num),t.many)])):=Z4;show _;refine⟨_,rfl,_,rfl,_,rfl,p,Cq,or,[((0,t.num),t.many)],rfl,ep5,ot.kok,r0,r1,d0,by omega,by show 1<64;omega,fun t1 H6 fs1 rs g6 nt1 ep6 _ _ st1 kr rl=>?_⟩;rw[kL]at st1;have pr:rs.Perm (thL Cq or t):=by
    have:=(R0 st1 ot.kok.nd).1;unfold thL;rw[this];exact(Zy rs).symm
   have g:=Tb nHp g5 g6;have ed6:H6 d=some (.dT (af qs)):=(Z7 (g6 d _ (by rw[Zh (Ne.symm pd)];exact ed5))).2;have rl:rs.length≤1:=rl;have kq:Kok or (qs.map (·.1)):=oka.pok.kok.perm (pm.map _);clear g5 ed5 ep5 g6 e_k Cy ec ed;refine⟨_,rfl,_,rfl,d,p,or,qs,rs,rfl,ed6,ep6,dp,kq,kr.nd,by omega,fun d' H7 g7 nd' ed7=>?_⟩;have nHd:H d'=none:=g.free nd';have g:=g.trans g7;have al:=Up rs qs;have okt:=(iQ (Cq:=Cq) d0 (tw t hm)).1;have oka2:Pok or (az qs rs):=S0 (oka.pok.perm pm) (okt.pok.perm pr).each;refine⟨_,rfl,_,rfl,_,rfl,d',Cq,or,az qs rs,rfl,ed7,oka2.kok,r0,r1,d0,by omega,by omega,fun t2 H8 fs2 us g8 nt2 ed8 _ _ st2 ku ul=>?_⟩;exact hN _ _ ⟨d',_,_,us,rfl,Tb nHd g g8,nHd,ed8,eP pm pr kq.nd kr.nd st2⟩
  ·rintro σ H2 ⟨d,o4,o5,qs,rfl,g,nd,ed,pm⟩;rw[xl,zG]at pm;exact⟨_,rfl,hq d qs _ g nd ed pm⟩
 |node l r=>
  obtain⟨a,mm,x,y,rfl,e,hx,hy⟩:=DV.node_inv dv;have ht:max l.ht r.ht+1<m+1:=ht;have tal:(l.all++r.all).length≤62:=tal;rw[yR]at tal;have twl:∀s∈l.streams,∀x∈s,ThL or x:=fun s hs=>tw s (zI _ hs);have twr:∀s∈r.streams,∀x∈s,ThL or x:=fun s hs=>tw s (y3 _ hs);obtain⟨a1,_,a3⟩:=Qo (Cq:=Cq) d0 twl;obtain⟨b1,_,b3⟩:=Qo (Cq:=Cq) d0 twr;refine⟨_,rfl,_,_,"list",_,rfl,TyOf.tup (sm _ _ e),pA,_,rfl,Ww ?_⟩;refine⟨_,(Z2 (Zp 3 Xq.nd rfl (Or.inl rfl) (Z5 bo hr (Z0 (Z5 bS hr (Z0 (pv 0) (Z0 (pv 1) (Z0 (Yp Ys (pv 2) Z3) Z1)))) (Z0 (Z5 bS hr (Z0 (pv 0) (Z0 (pv 1) (Z0 (Yp Ys (pv 2) Z3) Z1)))) Z1)))) Zd),?_⟩;refine⟨_,rfl,_,rfl,_,rfl,a,_,1,_,rfl,rfl,SqT.of (sm _ _ e),oJ _ _ _,x,Cq,or,l,rfl,hx.mono sm,by omega,twl,by omega,r0,r1,d0,dp,fun e1 qs H2 g2 n1 ed1 p1=>?_⟩;have gg:=sm.trans g2;refine⟨_,rfl,_,rfl,_,rfl,a,_,2,_,rfl,rfl,SqT.of (gg _ _ e),gX _ _ _,y,Cq,or,r,rfl,hy.mono gg,by omega,twr,by omega,r0,r1,d0,dp,fun e2 rs H3 g3 n2 ed2 p2=>?_⟩;have gg:=gg.trans g3;have l1:=p1.length_eq;have l2:=p2.length_eq;have kq:Kok or (qs.map (·.1)):=a1.pok.kok.perm (p1.map _);have kr:Kok or (rs.map (·.1)):=b1.pok.kok.perm (p2.map _);refine⟨e1,e2,or,qs,rs,rfl,g3 _ _ ed1,ed2,dp,kq,kr.nd,by omega,fun d H4 g4 n4 ed4=>?_⟩;have nHd:H d=none:=gg.free n4;have gg:=gg.trans g4;have al:=Up rs qs;have oka2:Pok or (az qs rs):=S0 (a1.pok.perm p1) (b1.pok.perm p2).each;refine⟨_,(Z2 (W6 (Z5 aT hr (Z0 (pv 3) (Z0 (pv 0) (Z0 (pv 1) Z1))))) Zd),?_⟩;refine⟨_,rfl,_,rfl,_,rfl,d,Cq,or,az qs rs,rfl,ed4,oka2.kok,r0,r1,d0,by omega,by omega,fun t2 H8 fs2 us g8 nt2 ed8 _ _ st2 ku ul=>?_⟩;exact⟨_,(Z8 (Zg (pv 3))),_,rfl,hq d us _ (Tb nHd gg g8) nHd ed8 (eP p1 p2 kq.nd kr.nd st2)⟩
theorem uH(bo:Has P w K mg base "_law_added" 1 ["_law_one","_law_other"] oT)(aT:Has P w K mg base "_law_settle" 2 ["_law_now","_law_room","_law_deep"] iZ)(ah:mg "isinstance"=none)(av:mg "list"=none)(F:Fun K "_law_grown" "_law_grown" bR f fd)(b:Binds K fd ["_law_room","_law_deep","_law_tree_here"] [])(hm:mg "_law_grown"=some (.ref f)):
  ∀m:Nat,Has P w K mg base "_law_grown" (2+m) ["_law_room","_law_deep","_law_tree_here"] (jG m)
 | 0=>Has.of (kM fun vs H Q E h=>by
   obtain⟨v,Cq,or,t,_,_,h1,_⟩:=h;omega) b F.kp hm
 |m+1=>Has.of (v4 (uH bo aT ah av F b hm m) bo aT ah av F) b F.kp hm
def kQ(m:Nat):Sp:=fun vs H Q _=>∃(v:V)(t:Tr),vs=[v]∧DV H v t.D∧t.ht<m∧t.all.length≤100000∧∀(r:Addr)(H':Hp),Same H H'→H r=none→DV H' (.ref r) (bf t.all)→Q (.ref r) H'
theorem tV{m:Nat}(bA:Has P w K mg base "_law_things" m ["_law_tree_here"] (kQ m))(ah:mg "isinstance"=none)(av:mg "list"=none)(F:Fun K "_law_things" "_law_things" bC f fd):FnOk P w K mg base CX0 (m+1) f fd ["_law_tree_here"] (kQ (m+1)):=by
 refine F.ok gO (fun vs H Q E h=>?_) (fun cdv A outer s H vs Q E hr h=>?_)
 ·obtain⟨v,t,rfl,_⟩:=h;rfl
 obtain⟨v,t,rfl,dv,ht,hl,hq⟩:=h;refine⟨_,(Z2 (Yu (T3 (Zf Um rfl ah As (Z0 (pv 0) (Z0 (Uf (v:=.ty "list") rfl av AD rfl) Z1)))) (Z8 (Zg (Y8 Tx rfl av AD (Z0 (pv 0) Z1)))) Zu)
 (Z8 (Zg (Z9 W2 (Z5 bA hr (Z0 (Yp Ys (pv 0) Z3) Z1)) (Z5 bA hr (Z0 (Yp Ys (pv 0) Z3) Z1)))))),?_⟩
 cases t with
 |leaf ts=>
  obtain⟨a,xs,rfl,e,q⟩:=DV.list_inv dv;refine⟨_,rfl,_,_,"list",_,rfl,TyOf.lst e,m7,_,rfl,Wv ?_⟩;refine⟨_,rfl,a,xs,rfl,.inl (SqL.of e),fun r hn=>?_⟩;exact hq r _ (Z6 hn _) hn (.lst Z4 (q.mono (Z6 hn _)))
 |node l r=>
  obtain⟨a,mm,x,y,rfl,e,hx,hy⟩:=DV.node_inv dv;have ht:max l.ht r.ht+1<m+1:=ht;have hl:(l.all++r.all).length≤100000:=hl;rw[yR]at hl;refine⟨_,rfl,_,_,"list",_,rfl,TyOf.tup e,pA,_,rfl,Ww ?_⟩;refine⟨_,rfl,a,_,1,_,rfl,rfl,SqT.of e,oJ _ _ _,x,l,rfl,hx,by omega,by omega,fun r1 H1 g1 _ dv1=>?_⟩;refine⟨_,rfl,a,_,2,_,rfl,rfl,SqT.of (g1 _ _ e),gX _ _ _,y,r,rfl,hy.mono g1,by omega,by omega,fun r2 H2 g2 _ dv2=>?_⟩;obtain⟨a1,xs1,e1,f1,q1⟩:=DV.list_inv dv1;obtain⟨a2,xs2,e2,f2,q2⟩:=DV.list_inv dv2;cases e1;cases e2;have l1:=q1.length;have l2:=q2.length;rw[pi]at l1 l2;refine⟨r1,r2,xs1,xs2,rfl,rfl,g2 _ _ f1,f2,Ze (by omega),fun p hn=>?_⟩;refine hq p _ (g1.trans (g2.trans (Z6 hn _))) (g1.free (g2.free hn)) (.lst Z4 ?_);show DVs _ (xs1++xs2) ((l.all++r.all).map Th.D);rw[zk];exact(q1.mono (g2.trans (Z6 hn _))).append (q2.mono (Z6 hn _))
theorem nN(ah:mg "isinstance"=none)(av:mg "list"=none)(F:Fun K "_law_things" "_law_things" bC f fd)(b:Binds K fd ["_law_tree_here"] [])(hm:mg "_law_things"=some (.ref f)):
  ∀m:Nat,Has P w K mg base "_law_things" m ["_law_tree_here"] (kQ m)
 | 0=>Has.of (kM fun vs H Q E h=>by
   obtain⟨v,t,_,_,h1,_⟩:=h;omega) b F.kp hm
 |m+1=>Has.of (tV (nN ah av F b hm m) ah av F) b F.kp hm
def wS(g:Int×Int→Int)(ps:Sps):Int:=(ps.map fun p=>p.2*g p.1).sum
theorem U7{g:Int×Int→Int}{ps qs:Sps}(h:ps.Perm qs):wS g ps=wS g qs:=Vx (h.map _)
theorem Sy{g:Int×Int→Int}{k:Int×Int}{ps:Sps}:(ps.map (·.1)).Nodup→wS g (aq ps k)=wS g ps-cnt ps k*g k:=by
 induction ps with
 |nil=>
  intro _;show(0:Int)=0-cnt [] k*g k;rw[show cnt [] k=0 from rfl,Int.zero_mul];rfl
 |cons p ps ih=>
  intro nd;rw[yQ,zt]at nd;have ih:=ih nd.2;unfold wS aq at ih⊢;by_cases e:p.1=k
  ·have o:cnt ps k=0:=Zz (by rw[←e];exact nd.1);have c:cnt (p::ps) k=p.2:=by unfold cnt;rw[Yo,yL e]
   rw[List.filter_cons,if_neg (by simpa using e),ih,o,c,List.map_cons,List.sum_cons,e,Int.zero_mul];omega
  ·have c:cnt (p::ps) k=cnt ps k:=by unfold cnt;rw[Yo,yK e]
   rw[zN,yL (yX e),yQ,zo,ih,c,yQ,zo];omega
theorem S1{g:Int×Int→Int}{ps:Sps}{k:Int×Int}{n:Int}(nd:(ps.map (·.1)).Nodup):wS g (ak ps k n)=wS g ps-cnt ps k*g k+n*g k:=by
 have h:(ak ps k n).Perm ((k,n)::aq ps k):=by
  have hk:k∉(aq ps k).map (·.1):=by
   rw[Vb];intro z;have:=(zn.mp z).2;simp at this
  refine V5 (Y9 nd) (by rw[yQ];exact zt.mpr ⟨hk,Vr nd⟩) fun j=>?_;rw[X5,Yo,Xd];by_cases e:j=k
  ·rw[yL e,yL e.symm]
  ·rw[yK e,yK (Ne.symm e),yK e]
 rw[U7 h];have:=Sy (g:=g) (k:=k) nd;unfold wS at this⊢;rw[yQ,zo,this];show n*g k+_=_;omega
theorem Se{ps:Sps}(nd:(ps.map (·.1)).Nodup)(pos:∀p∈ps,0≤p.2)(k:Int×Int):0≤cnt ps k:=by
 by_cases h:k∈ps.map (·.1)
 ·obtain⟨p,hp,rfl⟩:=yO.mp h;rw[Yd nd hp];exact pos p hp
 ·rw[Zz h];exact zJ _
theorem jL{g:Int×Int→Int}{ps:Sps}{k:Int×Int}(nd:(ps.map (·.1)).Nodup):wS g (aO ps k)=wS g ps+(if k∈ps.map (·.1)then cnt ps k*(g (ag k)-g k)else 0):=by
 unfold aO;by_cases h:k∈ps.map (·.1)
 ·rw[yL h,yL h];unfold dB cj;have n1:=Y9 (k:=ag k) (n:=cnt ps (ag k)+cnt ps k) nd;have n2:=Y9 (k:=k) (n:=cnt ps k-cnt ps k) n1;have c1:cnt (ak (ak ps (ag k) (cnt ps (ag k)+cnt ps k)) k (cnt ps k-cnt ps k)) k=0:=by rw[Ym,yL rfl,Int.sub_self]
  have c2:cnt (ak ps (ag k) (cnt ps (ag k)+cnt ps k)) k=cnt ps k:=by rw[Ym,yK (Vj k)]
  rw[Sy n2,c1,S1 n1,c2,S1 nd,Int.sub_self,Int.zero_mul,Ba,Int.mul_sub];omega
 ·rw[yK h,yK h,B5]
def cT(g:Int×Int→Int):Prop:=∀h j,0≤h→0≤j→g (upK h j)≤g (loK h j)∧g (upK h j)≤g (hiK h j)
theorem rm{g:Int×Int→Int}{or bar h j:Int}{ps:Sps}(G:cT g)(o:Pok or ps)(f:Fst or bar ps h j):wS g (aS ps h j)≤wS g ps:=by
 have hj:0≤h∧0≤j:=by
  rcases f.in_ with i | i
  ·obtain⟨a,_,b,_⟩:=o.kok.st _ i;have a:0≤h:=a;have b:0≤2*j:=b;omega
  ·obtain⟨a,_,b,_⟩:=o.kok.st _ i;have a:0≤h:=a;have b:0≤2*j+1:=b;omega
 obtain⟨g1,g2⟩:=G h j hj.1 hj.2;have nd:=o.kok.nd;have c0:=fun k=>Se nd (fun p hp=>by have:=o.pos p hp;omega) k;unfold aS;rw[jL (Tu nd),jL nd,Vk,Q5,Ul,yK (Ne.symm (ge h j)),Vk,yK (gH h j)];have m1:cnt ps (loK h j)*(g (upK h j)-g (loK h j))≤0:=Int.mul_nonpos_of_nonneg_of_nonpos (c0 _) (by omega);have m2:cnt ps (hiK h j)*(g (upK h j)-g (hiK h j))≤0:=Int.mul_nonpos_of_nonneg_of_nonpos (c0 _) (by omega)
 split <;> split <;> omega
theorem vw{g:Int×Int→Int}{or bar:Int}(G:cT g){ps fs Cu:Sps}(s:Stl or bar ps fs Cu):Pok or ps→wS g Cu≤wS g ps:=by
 induction s with
 |done n=>exact fun _=>zJ _
 |step f p1 s ih=>
  intro o;have h:=ih ((eV o f.in_ f.hd).perm p1);rw[U7 p1]at h;exact Ax h (rm G o f)
theorem On{g:Int×Int→Int}:∀{ys xs:Sps},(xs.map (·.1)).Nodup→wS g (az xs ys)=wS g xs+wS g ys:=by
 intro ys
 induction ys with
 |nil=>
  intro xs _;show wS g xs=wS g xs+0;omega
 |cons p ys ih=>
  intro xs h;rw[Vd,ih (Y9 h),S1 h,Ba];have e:wS g (p::ys)=p.2*g p.1+wS g ys:=by
   unfold wS;rw[yQ,zo]
  rw[e];omega
theorem kR{g:Int×Int→Int}{or bar:Int}{ps:Sps}(G:cT g)(o:Pok or ps):wS g (cU or bar ps)≤wS g ps:=by
 obtain⟨fs,Cu,s⟩:=i_ (or:=or) (bar:=bar) _ ps (yM _) o.kok;rw[(R0 s o.kok.nd).1,U7 (Zy Cu)];exact vw G s o
theorem qJ{g:Int×Int→Int}{Cq or:Int}{xs ys:Sps}(G:cT g)(hx:Pok or xs)(hy:Pok or ys):wS g (bm Cq or xs ys)≤wS g xs+wS g ys:=by
 have h:=kR (bar:=aj (az xs ys) / Cq) G (S0 hx hy.each);rw[On hx.kok.nd]at h;exact h
def wT(g:Int×Int→Int)(ts:List Th):Int:=(ts.map fun t=>t.many*g (0,t.num)).sum
theorem iL(g:Int×Int→Int)(a b:List Th):wT g (a++b)=wT g a+wT g b:=by
 unfold wT;rw[zk,BN]
theorem xR{g:Int×Int→Int}{Cq or:Int}{t:Th}(G:cT g)(d0:0≤or)(h:ThL or t):wS g (thL Cq or t)≤t.many*g (0,t.num):=by
 have q:=kR (bar:=t.many / Cq) G (Na d0 h);have e:wS g [((0,t.num),t.many)]=t.many*g (0,t.num):=B5 _;rw[e]at q;exact q
theorem mT{g:Int×Int→Int}{Cq or:Int}(G:cT g)(d0:0≤or):∀(ts:List Th)(a:Sps),Pok or a→(∀t∈ts,ThL or t)→wS g (ts.foldl (fun a t=>bm Cq or a (thL Cq or t)) a)≤wS g a+wT g ts:=by
 intro ts
 induction ts with
 |nil=>
  intro a _ _;show wS g a≤wS g a+0;omega
 |cons t ts ih=>
  intro a o h;have ht:=h t (.head _);have ot:=(iQ (Cq:=Cq) d0 ht).1.pok;have q:=ih (bm Cq or a (thL Cq or t)) (R7 o ot).1.pok fun x hx=>h x (.tail _ hx);have m:=qJ (Cq:=Cq) G o ot;have w:=xR (Cq:=Cq) G d0 ht;have e:wT g (t::ts)=t.many*g (0,t.num)+wT g ts:=iL g [t] ts |>.trans (by unfold wT;simp);rw[e];show wS g (ts.foldl _ (bm Cq or a (thL Cq or t)))≤_;omega
theorem vR{g:Int×Int→Int}{Cq or:Int}{ts:List Th}(G:cT g)(d0:0≤or)(h:∀t∈ts,ThL or t):wS g (cL Cq or ts)≤wT g ts:=by
 have q:=mT (Cq:=Cq) G d0 ts [] jM h;have e:wS g []=0:=rfl;rw[e,BL]at q;exact q
def Dom(ps:Sps)(ts:List Th):Prop:=∀g,cT g→wS g ps≤wT g ts
theorem sZ{Cq or:Int}{ts:List Th}(d0:0≤or)(h:∀t∈ts,ThL or t):Dom (cL Cq or ts) ts:=fun g G=>vR G d0 h
theorem rV{Cq or:Int}{xs ys:Sps}{a b:List Th}(hx:Pok or xs)(hy:Pok or ys)(da:Dom xs a)(db:Dom ys b):Dom (bm Cq or xs ys) (a++b):=fun g G=>by
 have m:=qJ (Cq:=Cq) G hx hy;have:=da g G;have:=db g G;rw[iL];omega
theorem gt{ps:Sps}{a b:List Th}(p:a.Perm b)(h:Dom ps a):Dom ps b:=fun g G=>by
 have:=h g G;have e:wT g a=wT g b:=Vx (p.map _);omega
theorem nH{h:Int}(h0:0≤h):(2:Int)^(h+1).toNat=2^h.toNat*2:=by
 rw[show(h+1).toNat=h.toNat+1 by omega,Ci]
theorem Yz(n:Nat):(0:Int)<2^n:=Int.pow_pos (by decide)
theorem ox{h j:Int}(h0:0≤h):aw (upK h j)≤aw (loK h j)∧aw (upK h j)≤aw (hiK h j):=by
 have p:=Yz h.toNat;have e:=nH h0;unfold aw upK loK hiK;show j*2^(h+1).toNat≤2*j*2^h.toNat∧j*2^(h+1).toNat≤(2*j+1)*2^h.toNat;rw[e];generalize (2:Int)^h.toNat=q at p;have e1:j*(q*2)=2*j*q:=by rw[←AQ,Cm (j*q) 2,AQ]
 rw[e1,Ba,Ae];omega
theorem qG{h j:Int}(h0:0≤h):au (loK h j)≤au (upK h j)∧au (hiK h j)≤au (upK h j):=by
 have p:=Yz h.toNat;have e:=nH h0;unfold au upK loK hiK;show(2*j+1)*2^h.toNat-1≤(j+1)*2^(h+1).toNat-1∧(2*j+1+1)*2^h.toNat-1≤(j+1)*2^(h+1).toNat-1;rw[e];generalize (2:Int)^h.toNat=q at p;have e1:(j+1)*(q*2)=2*j*q+q+q:=by
  rw[Ba,Ae,←AQ,Cm (j*q) 2,AQ];omega
 have e2:(2*j+1+1)*q=2*j*q+q+q:=by rw[Ba,Ba,Ae]
 rw[e1,e2,Ba,Ae];omega
theorem uC(n:Int):aw (0,n)=n:=by
 show n*2^(0:Int).toNat=n;rw[show(0:Int).toNat=0 from rfl,Int.pow_zero,Bf]
theorem uN(n:Int):au (0,n)=n:=by
 show(n+1)*2^(0:Int).toNat-1=n;rw[show(0:Int).toNat=0 from rfl,Int.pow_zero,Bf];omega
def ind(b:Prop)[Decidable b]:Int:=if b then 1 else 0
theorem eQ{a b:Prop}[Decidable a][Decidable b](h:a→b):ind a≤ind b:=by
 unfold ind;by_cases c:a
 ·rw[yL c,yL (h c)];exact zJ _
 ·rw[yK c]
  split <;> decide
theorem vq(g:Int×Int→Int)(ps:Sps):wS (fun k=>-g k) ps=-wS g ps:=by
 unfold wS
 induction ps with
 |nil=>rfl
 |cons p ps ih=>
  rw[yQ,zo,yQ,zo,ih,Int.mul_neg];omega
theorem u_(g:Int×Int→Int)(ts:List Th):wT (fun k=>-g k) ts=-wT g ts:=by
 unfold wT
 induction ts with
 |nil=>rfl
 |cons p ps ih=>
  rw[yQ,zo,yQ,zo,ih,Int.mul_neg];omega
theorem vp{Cq or:Int}(d0:0≤or){t:Tr}:(∀s∈t.streams,∀x∈s,ThL or x)→Dom (glT Cq or t) t.all∧Pok or (glT Cq or t):=by
 induction t with
 |leaf ts=>exact fun h=>⟨sZ d0 (h ts (.head _)),(Nh d0 (h ts (.head _))).1.pok⟩
 |node l r il ir=>
  intro h;obtain⟨a1,a2⟩:=il fun s hs=>h s (zI _ hs);obtain⟨b1,b2⟩:=ir fun s hs=>h s (y3 _ hs);exact⟨rV a2 b2 a1 b1,(R7 a2 b2).1.pok⟩
theorem sv{α:Type}(l:List α):(l.map fun _=>(0:Int)).sum=0:=by
 induction l with
 |nil=>rfl
 |cons x l ih=>rw[yQ,zo,ih];rfl
theorem vB{k:Int×Int}:aw k≤au k:=by
 have p:=Yz k.1.toNat;unfold aw au;rw[Ba,Ae];omega
def wit(s k:Int×Int):Prop:=aw s≤aw k∧au k≤au s
instance (s k:Int×Int):Decidable (wit s k):=inferInstanceAs (Decidable (_∧_))
def gin(s k:Int×Int):Int:=ind (wit s k)
theorem Sa{p:Prop}[Decidable p]:0≤ind p:=by
 unfold ind
 split <;> decide
theorem Xw{p:Prop}[Decidable p](h:p):ind p=1:=yL h
theorem Wa{p:Prop}[Decidable p](h:¬p):ind p=0:=yK h
theorem qN(s:Int×Int):cT (gin s):=fun h j h0 _=>by
 have a:=ox (j:=j) h0;have b:=qG (j:=j) h0;exact⟨eQ fun z=>⟨Ax z.1 a.1,Ax b.1 z.2⟩,eQ fun z=>⟨Ax z.1 a.2,Ax b.2 z.2⟩⟩
theorem Pi{s:Int×Int}{n:Int}:wit s (0,n)↔aw s≤n∧n≤au s:=by
 unfold wit;rw[uC,uN]
theorem jg(k:Int×Int):au k=aw k+2^k.1.toNat-1:=by
 unfold aw au;rw[Ba,Ae]
theorem uo{s k:Int×Int}(s0:0≤s.1)(k0:0≤k.1)(h:wit s k):k.1≤s.1:=by
 rcases Cg s.1 k.1 with c | c
 ·have a:=jg s;have b:=jg k;have p:(2:Int)^k.1.toNat=2^(k.1.toNat-s.1.toNat-1)*2^s.1.toNat*2:=by
   rw[AQ,←Ci,←Int.pow_add]
   congr 1
   omega
  have q:=Yz s.1.toNat;have q2:1*2^s.1.toNat≤(2:Int)^(k.1.toNat-s.1.toNat-1)*2^s.1.toNat:=AE (Yz _) (Bd q);obtain⟨h1,h2⟩:=h;omega
 ·exact c
theorem gL{s k:Int×Int}(k0:0≤k.1)(le:k.1≤s.1){n:Int}(a:aw k≤n)(b:n≤au k)(c:aw s≤n)(d:n≤au s):wit s k:=by
 unfold aw at a c;unfold au at b d;have pk:=Yz k.1.toNat;have e:(2:Int)^s.1.toNat=2^(s.1.toNat-k.1.toNat)*2^k.1.toNat:=by
  rw[←Int.pow_add]
  congr 1
  omega
 have pm:=Yz (s.1.toNat-k.1.toNat);unfold wit aw au;rw[e];rw[e]at c d;rw[←AQ]at c d;rw[←AQ,←AQ];generalize (2:Int)^(s.1.toNat-k.1.toNat)=m at c d pm⊢;generalize (2:Int)^k.1.toNat=w at a b c d pk⊢;have l1:s.2*m<k.2+1:=by
  have:s.2*m*w<(k.2+1)*w:=by omega
  exact Int.lt_of_mul_lt_mul_right this (Bd pk)
 have l2:k.2<(s.2+1)*m:=by
  have:k.2*w<(s.2+1)*m*w:=by omega
  exact Int.lt_of_mul_lt_mul_right this (Bd pk)
 have m1:s.2*m*w≤k.2*w:=AE (by omega) (Bd pk);have m2:(k.2+1)*w≤(s.2+1)*m*w:=AE (by omega) (Bd pk);exact⟨m1,by omega⟩
theorem Yq(g:Int×Int→Int)(p:(Int×Int)×Int)(ps:Sps):wS g (p::ps)=p.2*g p.1+wS g ps:=by
 unfold wS;rw[yQ,zo]
theorem kU{g:Int×Int→Int}(h:∀k,0≤g k){ps:Sps}:(∀p∈ps,0≤p.2)→0≤wS g ps:=by
 induction ps with
 |nil=>exact fun _=>zJ _
 |cons p ps ih=>
  intro pos;rw[Yq];have a:=Ck (pos p (.head _)) (h p.1);have b:=ih fun x hx=>pos x (.tail _ hx);omega
theorem Tf{g:Int×Int→Int}{ps:Sps}:(∀p∈ps,p.2=0∨g p.1=0)→wS g ps=0:=by
 induction ps with
 |nil=>exact fun _=>rfl
 |cons p ps ih=>
  intro h;rw[Yq,ih fun x hx=>h x (.tail _ hx)]
  rcases h p (.head _)with z | z
  ·rw[z,Int.zero_mul];rfl
  ·rw[z,B6];rfl
theorem W9(ps:Sps):wS (fun _=>1) ps=aj ps:=by
 unfold wS aj;exact Ak List.sum (AF fun p _=>Bf _)
theorem sum_cons(p:(Int×Int)×Int)(ps:Sps):aj (p::ps)=p.2+aj ps:=by
 unfold aj;rw[yQ,zo]
structure Can(ps ls:Sps):Prop where
 each:∀s:Int×Int,0≤s.1→wS (gin s) ps≤wS (gin s) ls
 all:aj ps=aj ls
structure Tkn(lo hi c:Int)(ls ls':Sps)(due:Int):Prop where
 keys:ls'.map (·.1)=ls.map (·.1)
 nn:∀p∈ls',0≤p.2
 d0:0≤due
 d1:due≤c
 one:∀g:Int×Int→Int,(∀n,lo≤n→n≤hi→g (0,n)=1)→wS g ls'=wS g ls-(c-due)
 zer:∀g:Int×Int→Int,(∀n,lo≤n→n≤hi→g (0,n)=0)→wS g ls'=wS g ls
 dn:∀g:Int×Int→Int,(∀k,0≤g k)→wS g ls'≤wS g ls
theorem wZ{lo hi c:Int}{ls:Sps}(c0:0≤c)(nn:∀p∈ls,0≤p.2):Tkn lo hi c ls ls c:=
 ⟨rfl,nn,c0,zJ _,fun g _=>by rw[Int.sub_self,Cj],fun _ _=>rfl,fun _ _=>zJ _⟩
theorem pj{lo hi c due n:Int}{ls ls':Sps}(T:Tkn lo hi c ls ls' due)(nd:(ls.map (·.1)).Nodup)(hn:(0,n)∈ls.map (·.1))(n0:lo≤n)(n1:n≤hi):Tkn lo hi c ls (ak ls' (0,n) (cnt ls' (0,n)-min due (cnt ls' (0,n)))) (due-min due (cnt ls' (0,n))):=by
 have nd':(ls'.map (·.1)).Nodup:=by rw[T.keys];exact nd
 have cn:0≤cnt ls' (0,n):=Se nd' T.nn _;have d0:=T.d0;have d1:=T.d1;have t0:0≤min due (cnt ls' (0,n)):=by omega
 have t1:min due (cnt ls' (0,n))≤due:=Int.min_le_left _ _;have t2:min due (cnt ls' (0,n))≤cnt ls' (0,n):=Int.min_le_right _ _;have w:=fun g:Int×Int→Int=>S1 (g:=g) (k:=(0,n)) (n:=cnt ls' (0,n)-min due (cnt ls' (0,n))) nd';generalize min due (cnt ls' (0,n))=t at *;have w2:∀g:Int×Int→Int,wS g (ak ls' (0,n) (cnt ls' (0,n)-t))=wS g ls'-t*g (0,n):=fun g=>by
  rw[w g,Int.sub_mul];omega
 refine⟨?_,fun p hp=>?_,by omega,by omega,fun g h=>?_,fun g h=>?_,fun g h=>?_⟩
 ·rw[Xy,yL (by rw[T.keys];exact hn)];exact T.keys
 ·unfold ak at hp
  split at hp
  ·obtain⟨q,hq,e⟩:=yO.mp hp
   split at e
   ·rw[←e];show 0≤cnt ls' (0,n)-t;omega
   ·rw[←e];exact T.nn q hq
  ·rcases ze.mp hp with z | z
   ·exact T.nn p z
   ·rw[yP.mp z];show 0≤cnt ls' (0,n)-t;omega
 ·rw[w2,T.one g h,h n n0 n1];omega
 ·rw[w2,T.zer g h,h n n0 n1];omega
 ·rw[w2];have a:=T.dn g h;have b:=Ck t0 (h (0,n));omega
theorem lM{k:Int×Int}{c due:Int}{ls ls':Sps}(T:Tkn (aw k) (au k) c ls ls' due)(nd:(ls.map (·.1)).Nodup)(h0:∀p∈ls,p.1.1=0)(z:∀n,aw k≤n→n≤au k→cnt ls' (0,n)=0):wS (gin k) ls=c-due:=by
 have a:=T.one (gin k) fun n x y=>Xw (Pi.mpr ⟨x,y⟩);have b:wS (gin k) ls'=0:=Tf fun p hp=>by
  have hk:p.1∈ls.map (·.1):=by rw[←T.keys];exact yO.mpr ⟨p,hp,rfl⟩
  obtain⟨q,hq,e⟩:=yO.mp hk;have e0:p.1=(0,p.1.2):=Ad (by rw[←e];exact h0 q hq) rfl;by_cases w:wit k p.1
  ·rw[e0]at w;have y:=z p.1.2 (Pi.mp w).1 (Pi.mp w).2;rw[←e0,Yd (by rw[T.keys];exact nd) hp]at y;exact .inl y
  ·exact .inr (Wa w)
 omega
section
variable{k:Int×Int}{c:Int}{rem ls ls':Sps}
theorem lD{due:Int}(c0:0≤c)(pos:∀p∈rem,0≤p.2)(e:wS (gin k) ls=c-due)(d:0<due)(h0:0≤k.1):¬Can ((k,c)::rem) ls:=fun C=>by
 have a:=C.each k h0;rw[Yq]at a;have b:gin k k=1:=Xw ⟨zJ _,zJ _⟩;have d:=kU (g:=gin k) (fun _=>Sa) pos;have e2:((k,c):(Int×Int)×Int).2*gin k ((k,c):(Int×Int)×Int).1=c:=by
  show c*gin k k=c;rw[b,Bf]
 rw[e2]at a;omega
theorem lJ(T:Tkn (aw k) (au k) c ls ls' 0)(C:Can rem ls'):Can ((k,c)::rem) ls:=by
 refine⟨fun s s0=>?_,?_⟩
 ·have a:=C.each s s0;rw[Yq];show c*gin s k+wS (gin s) rem≤wS (gin s) ls;by_cases w:wit s k
  ·have b:=T.one (gin s) fun n x y=>Xw (Pi.mpr ⟨Ax w.1 x,Ax y w.2⟩);have e:gin s k=1:=Xw w;rw[e,Bf];omega
  ·have e:gin s k=0:=Wa w;have b:=T.dn (gin s) fun _=>Sa;rw[e,B6];omega
 ·have b:=T.one (fun _=>1) fun _ _ _=>rfl;have a:=C.all;rw[W9,W9]at b;rw[sum_cons];show c+aj rem=aj ls;omega
theorem sg(T:Tkn (aw k) (au k) c ls ls' 0)(k0:0≤k.1)(up:∀p∈rem,k.1≤p.1.1)(C:Can ((k,c)::rem) ls):Can rem ls':=by
 refine⟨fun s s0=>?_,?_⟩
 ·have a:=C.each s s0;rw[Yq]at a;have a:c*gin s k+wS (gin s) rem≤wS (gin s) ls:=a;by_cases w:wit s k
  ·have b:=T.one (gin s) fun n x y=>Xw (Pi.mpr ⟨Ax w.1 x,Ax y w.2⟩);have e:gin s k=1:=Xw w;rw[e,Bf]at a;omega
  ·have e:gin s k=0:=Wa w;rw[e,B6]at a;by_cases m:∃n,(aw k≤n∧n≤au k)∧aw s≤n∧n≤au s
   ·obtain⟨n,⟨m1,m2⟩,m3,m4⟩:=m;have lt:s.1<k.1:=by
     rcases Cg s.1 k.1 with c | c
     ·exact c
     ·exact absurd (gL k0 c m1 m2 m3 m4) w
    have z:wS (gin s) rem=0:=Tf fun p hp=>.inr (Wa fun q=>by
     have:=uo s0 (by have:=up p hp;omega) q;have:=up p hp;omega)
    rw[z];exact kU (fun _=>Sa) T.nn
   ·have b:=T.zer (gin s) fun n x y=>Wa fun q=>m ⟨n,⟨x,y⟩,Pi.mp q⟩;omega
 ·have b:=T.one (fun _=>1) fun _ _ _=>rfl;have a:=C.all;rw[W9,W9]at b;rw[sum_cons]at a;have a:c+aj rem=aj ls:=a;omega
end
theorem sA{ls:Sps}(nn:∀p∈ls,0≤p.2):Can [] ls↔aj ls=0:=by
 refine⟨fun C=>C.all.symm,fun e=>⟨fun s _=>kU (fun _=>Sa) nn,e.symm⟩⟩
def a8(ts:List Th):Sps:=az [] (ts.map fun t=>((0,t.num),t.many))
theorem nZ(g:Int×Int→Int)(ts:List Th):wS g (a8 ts)=wT g ts:=by
 unfold a8;rw[On (xs:=[]) zO];show 0+_=_;rw[BL];unfold wS wT;rw[zf];rfl
theorem jH{ps:Sps}{ts:List Th}(h:Dom ps ts):Can ps (a8 ts):=by
 refine⟨fun s _=>?_,?_⟩
 ·rw[nZ];exact h _ (qN s)
 ·have a:=h (fun _=>1) fun _ _ _ _=>⟨zJ _,zJ _⟩;have b:=h (fun k=>-(fun _=>1) k) fun _ _ _ _=>⟨zJ _,zJ _⟩;rw[vq,u_]at b;rw[←W9,←W9,nZ];omega
def sC:Sp:=fun vs H Q _=>∃(p:Addr)(k:Int×Int),vs=[.ref p]∧KAt H p k∧0≤k.1∧k.1≤20∧Q (.int (aw k)) H
def vO:Sp:=fun vs H Q _=>∃(p:Addr)(k:Int×Int),vs=[.ref p]∧KAt H p k∧0≤k.1∧k.1≤20∧∀H',Same H H'→Q (.int (au k)) H'
theorem xI(ao:mg "range"=none)(F:Fun K "_law_first" "_law_first" cH f fd):FnOk P w K mg base CX0 1 f fd ["_law_stretch"] sC:=by
 refine F.ok Vg (fun vs H Q E h=>?_) (fun cdv A outer s H vs Q E hr h=>?_)
 ·obtain⟨p,k,rfl,_⟩:=h;rfl
 obtain⟨p,k,rfl,e,h0,h1,hq⟩:=h;refine⟨_,(Z2 (Zp 1 Vg.nd rfl (Or.inl rfl) (Yp Ys (pv 0) Z3))
 (Z2 (Yy zQ rfl (Xb rfl ao (Z0 (Yp Ys (pv 0) Z3) Z1)) (Za (i:=2) Vg.nd rfl (Or.inl rfl))
 (Z8 (Zp 1 Vg.nd rfl (Or.inl rfl) (Z9 Xh Z3 (pv 1)))))
 (Z8 (Zg (pv 1))))),?_⟩
 refine⟨_,rfl,p,_,1,_,rfl,rfl,SqT.of e,rfl,?_⟩;refine⟨_,rfl,p,_,0,_,rfl,rfl,SqT.of e,rfl,k.1,rfl,by omega,by omega,?_⟩;refine X8 (lo:=0) (n:=k.1.toNat) (fun i σ H'=>H'=H∧∃o2:Option V,σ=[some (.ref p),some (.int (k.2*2^i)),o2]) ⟨rfl,none,by rw[Int.pow_zero,Bf];rfl⟩ ?_ ?_
 ·rintro i σ H' N B1 R hN hR hi ⟨rfl,o2,rfl⟩;refine⟨_,rfl,_,_,rfl,rfl,Or.inl ⟨by decide,by decide⟩,hN _ _ ⟨rfl,some (.int (0+(i:Int))),?_⟩⟩;rw[Ci,show k.2*(2^i*2)=2*(k.2*2^i) by rw[←AQ,Cm]];rfl
 ·rintro σ H' ⟨rfl,o2,rfl⟩;exact⟨_,rfl,hq⟩
theorem yh(bn:Has P w K mg base "_law_first" 1 ["_law_stretch"] sC)(F:Fun K "_law_last" "_law_last" c7 f fd):FnOk P w K mg base CX0 2 f fd ["_law_stretch"] vO:=by
 refine F.ok lH (fun vs H Q E h=>?_) (fun cdv A outer s H vs Q E hr h=>?_)
 ·obtain⟨p,k,rfl,_⟩:=h;rfl
 obtain⟨p,k,rfl,e,h0,h1,hq⟩:=h;refine⟨_,(Z8 (Zg (Z9 X4 (Z5 bn hr (Z0 (Y4 (Z0 (Yp Ys (pv 0) Z3) (Z0 (Z9 Zm (Yp Ys (pv 0) Z3) Z3) Z1))) Z1)) Z3))),?_⟩;exact⟨_,rfl,p,_,0,_,rfl,rfl,SqT.of e,rfl,_,rfl,p,_,1,_,rfl,rfl,SqT.of e,rfl,_,_,rfl,rfl,leN rfl,fun q nq=>⟨q,(k.1,k.2+1),rfl,Z4,h0,h1,_,_,rfl,rfl,hq _ (Z6 nq _)⟩⟩
end K29
namespace L2
open PySem PySem.Spec PyProof.Rows
section
variable{prog:Program}{w:World}{A:Around}{E:Value→Shared→Prop}{s:Shared}
theorem rH{κ:KeyKind}(hO:κ.OneLt):aH prog w A s κ oneType':=fun E x y a b Q h1 h2 q=>by
 rw[keyLt'_oneType];exact hO prog w A E s x y a b h1 h2 q
theorem pP{κ:KeyKind}(hO:κ.OneLt){l:Addr}{vs:List Value}{n:Nat}{P:Fin→Shared→Prop}(ho:s.heap.get? l=some (seqObj "list" vs.toArray n))(h0:KeysOf κ (pairsOf vs))(hkk:∀v₁ v₂ rest,vs=v₁::v₂::rest→keyKind' (v₁::v₂::rest).toArray=pure oneType')(hl:vs.length<1000)(fin:∀u:SortSt,(arrOf u).Perm (pairsOf vs)→SortedToK κ (arrOf u) (pairsOf vs).size→P (.done (.ret .none)) {s with heap:=sortedHeap s.heap l vs ((arrOf u).map (·.2))}):
  wpAny (model prog w) A (Builtin.«list.sort» ⟨[.ref l],[]⟩) P E s:=by
 rw[list_sort_plain];refine io (listItems_at ho rfl ?_);refine io (B7 ho rfl ?_);obtain⟨e1,ho1⟩:∃m,(s.heap.update l (Obj.mapSeq fun _=>#[])).get? l=some (seqObj "list" #[] m):=⟨_,Bm ho fun _=>#[]⟩;refine io (Co ho1 rfl ?_);refine io (Cf ?_);refine io (wpAny_newList ?_);refine zK ?_;have ll:=yV ho;have ho2:(((s.heap.update l (Obj.mapSeq fun _=>#[])).push (seqObj "tuple" vs.toArray 0)).push (seqObj "list" #[] 0)).get? l=some (seqObj "list" #[] e1):=by
  rw[Heap.get?_push_ne _ _ _ (by rw[Cn,BH];exact y4 (AG ll)),Heap.get?_push_ne _ _ _ (by rw[BH];exact y4 ll)];exact ho1
 show wpAny (model prog w) A _ P E {s with heap:=((s.heap.update l (Obj.mapSeq fun _=>#[])).push (seqObj "tuple" vs.toArray 0)).push (seqObj "list" #[] 0)};dsimp only;have vsz:vs.toArray.size=vs.length:=zD;by_cases c:vs.toArray.size<2
 ·rw[yL c,yL c];refine io (yI ?_);rw[StateT.run_pure];refine io (yI ?_);dsimp only;refine io (Co ho2 rfl ?_);refine io (B7 ho2 rfl ?_ (hsz2:=by rw[Array.size_map];show(pairsOf vs).size≤_;rw[BK];exact zP (AA hl) (by decide)));rw[show(e1 != e1)=false from bne_self_eq_false e1];rw[yK yT];refine yI (fin (SortSt.mk' general' (vs.toArray.zip vs.toArray) #[] 7 none) (Cb _) fun i j hij hj=>?_);obtain rfl:i=j:=by rw[BK]at hj;omega
  exact κ.irrefl _
 ·rw[yK c,yK c];obtain⟨v₁,v₂,rest,rfl⟩:∃v₁ v₂ rest,vs=v₁::v₂::rest:=by
   match vs,vsz,c with
   | [],_,c=>exact absurd (by decide) c
   | [_],_,c=>exact absurd (by show 1<2;decide) c
   |v₁::v₂::rest,_,_=>exact⟨v₁,v₂,rest,rfl⟩
  rw[hkk _ _ _ rfl];refine io (yI ?_);refine io (Af (L2T.runs_all (E:=E) (xs0:=pairsOf (v₁::v₂::rest)) (st:=SortSt.mk' oneType' ((v₁::v₂::rest).toArray.zip (v₁::v₂::rest).toArray) #[] 7 none) (Q:=fun _ u=>(arrOf u).Perm (pairsOf (v₁::v₂::rest))∧failedOf u=none∧Rz κ (arrOf u) (pairsOf (v₁::v₂::rest)).size) (rH hO) h0
   ⟨Cb _,rfl,rfl,rfl⟩ (by rw[BK];omega) fun u a1 a2 a3=>⟨a1,a2,a3⟩) ?_ fun _ _ z=>z)
  rintro⟨⟨⟩,u⟩ s2 ⟨rfl,pm,fl,r⟩;dsimp only;refine io (Co ho2 rfl ?_);refine io (B7 ho2 rfl ?_ (hsz2:=by rw[Array.size_map];exact zP (Nat.le_of_eq (pm.size_eq.trans (BK _))) (zP (AA hl) (by decide))));rw[fl];rw[show(e1 != e1)=false from bne_self_eq_false e1];rw[yK yT];exact yI (fin u pm r)
@[reducible] def intKind:KeyKind where
 α:=Int
 blt a b:=decide (a<b)
 irrefl a:=zA (Int.lt_irrefl a)
 trans a b c h g:=yX (Int.lt_trans (yW h) (yW g))
 negTrans a b c h:=by
  have:=yW h;by_cases q:a<b
  ·exact .inl (yX q)
  ·exact .inr (yX (by omega))
 total a b h g:=by
  have h:=z6 h;have g:=z6 g;omega
 keyOf v:=match v with
  |.int n _=>some n
  |_=>none
 dflt:=0
theorem sN:intKind.OneLt:=fun prog w A E s x y a b Q h1 h2 q=>by
 cases x with
 |int n t=>
  cases y with
  |int m u=>
   cases h1;cases h2;exact oneLt_int q
  |_=>cases h2
 |_=>cases h1
theorem ng{vs:List Value}{ns:List Int}(h:IntsAre vs ns):KeysOf intKind (pairsOf vs):=fun p hp=>by
 obtain⟨n,t,e⟩:=h.intKeys p hp;exact⟨n,by rw[e]⟩
theorem iw{vs:List Value}{ns:List Int}(h:IntsAre vs ns){xs:Array Keyed}(p:xs.Perm (pairsOf vs))(r:SortedToK intKind xs (pairsOf vs).size):SortedTo xs (pairsOf vs).size:=by
 have at_:∀i,i<(pairsOf vs).size→K xs i=KK intKind xs i:=fun i hi=>by
  have hi':i<xs.size:=by rw[p.size_eq];exact hi
  obtain⟨n,t,e⟩:=h.intKeys xs[i] ((AT.mp p).mem_iff.mp (Bp.mpr (Array.getElem_mem hi')));rw[K_eq hi',L2T.KK_ky (yN hi')];unfold L2T.ky;rw[e];rfl
 intro i j hij hj;have q:decide (KK intKind xs j<KK intKind xs i)=false:=r i j hij hj;have q:=z6 q;rw[at_ i (by omega),at_ j hj];exact Int.not_lt.mp q
theorem lX{l:Addr}{vs:List Value}{ns:List Int}{n:Nat}{P:Fin→Shared→Prop}(ho:s.heap.get? l=some (seqObj "list" vs.toArray n))(hI:IntsAre vs ns)(hl:vs.length<1000)(fin:∀(out:Array Value) (ms:List Int),IntsAre out.toList ms→ms.Perm ns→ms.Pairwise (·≤·)→P (.done (.ret .none)) {s with heap:=sortedHeap s.heap l vs out}):
  wpAny (model prog w) A (Builtin.«list.sort» ⟨[.ref l],[]⟩) P E s:=
 pP sN ho (ng hI) (fun v1 v2 rest e=>keyKind_ints (by rw[←e];exact hI)) hl fun u pm r=>by
  obtain⟨ms,a1,a2,a3⟩:=sorted_out hI pm (iw hI pm r);exact fin _ ms a1 a2 a3
end
section
variable{X:Cx}
end
section
variable{X:Cx}
theorem l_{P:Program}{w:World}:∀{us:List Value}{ws:List (Key×Value)}{zs:List Int},us.length=ws.length→(∀(j:Nat)(u:Value),us[j]?=some u→∃k x,ws[j]?=some (k,x)∧(aa P w).is k u=true)→ws.map (·.1)=zs.map Sum.inl→Vals (zs.map V.int) us:=by
 intro us
 induction us with
 |nil=>
  intro ws zs hl _ e;cases ws with
  |nil=>
   cases zs with
   |nil=>exact .nil
   |cons z zs=>simp at e
  |cons x ws=>simp at hl
 |cons u us ih=>
  intro ws zs hl h e;cases ws with
  |nil=>simp at hl
  |cons p ws=>
   cases zs with
   |nil=>simp at e
   |cons z zs=>
    rw[yQ,yQ]at e;injection e with e1 e2
    obtain⟨k',x',q,hk⟩:=h 0 u rfl;have q:p=(k',x'):=by simpa using q
    subst q;have e1:k'=Sum.inl z:=e1;subst e1;obtain⟨t,rfl⟩:=mX hk;exact .cons ⟨t,rfl⟩ (ih (by simpa using hl) (fun j v hv=>by simpa using h (j+1) v (by simpa using hv)) e2)
def sI:List V→Hp→VK→Prop:=fun xs H Q=>∃(d:Addr)(kvs:List (Key×V))(zs:List Int),xs=[.ref d]∧H d=some (.dK kvs)∧kvs.map (·.1)=zs.map Sum.inl∧zs.length<1000∧∀p,H p=none→Q (.ref p) (upd H p (.lst ((dh zs).map V.int)))
theorem eT(hc:X.calm=true):aK X (.builtin "sorted") sI:=by
 intro Cr s σ H xs us Q I rx h;obtain⟨d,kvs,zs,rfl,hd,hzs,h64,q⟩:=h;obtain⟨u,rfl,ru⟩:=Xx rx;cases ru;obtain⟨_,lo,es,kv,hD⟩:=jZ I.hok hd;obtain⟨ep,hat⟩:=hD.dictAt;have kk:es.map (·.1)=zs.map Sum.inl:=by rw[←hzs,KV.keys kv]
 have hl:es.length=zs.length:=by
  have e:=Ak List.length kk;rw[pi,pi]at e;exact e
 have hh:X.A.in1.handled=none:=by simpa using I.ok.hd hc
 refine Calls.call_function_entry kind_sorted plain_sorted entry_sorted (args_sorted1 _) ?_;unfold Builtin.«sorted»;refine io (m:=checkCount "sorted" 1 1 _) (yI ?_);refine io (Ss (A:=X.A.in1) (W.kdl_dict (knd:=aa X.prog X.w) (kvs:=es) (ep:=ep) lo) hh hat (Ze (by omega)) fun g tk CH hk hsz hacc=>?_);have al:CH.toList.length=es.length:=by rw[yU];exact hacc.1
 have hS:IntsAre CH.toList zs:=Qn (l_ (P:=X.prog) (w:=X.w) al (fun j u e=>hacc.2 j u (by rw[←yS];exact e)) kk);refine io (wpAny_newList ?_ (by exact Ze (by omega)));have hoL:(g.push (seqObj "list" CH.toList.toArray 0)).get? g.objs.size=some (seqObj "list" CH.toList.toArray 0):=yY _ rfl;refine io (zK (Am slot_list_sort ⟨_,hoL,rfl⟩ entry_list_sort (lX hoL hS (by omega) fun out ms a1 a2 a3=>⟨_,rfl,?_⟩) (args_list_sort _)));refine yI ⟨_,rfl,?_⟩;have ess:=jA a2 a3;subst ess;obtain⟨e2,he2⟩:=sortedHeap_at (vs:=CH.toList) (out:=out) hoL;have hz:s.heap.objs.size≤g.objs.size:=AA hsz;refine⟨.ref g.objs.size,_,I.laid (t':=tk) (o:=.lst ((dh zs).map V.int)) (fun b o e=>?_) hz ?_,rfl,q _ (I.hok.fresh hz)⟩
 ·have e':=hk b o e;have Cz:=yV e';rw[sortedHeap_old (y4 Cz) (by rw[Cn];exact AG Cz)];exact yJ _ e'
 ·refine⟨?_,out.toList,e2,U8 a1,by rw[Bu];exact he2⟩;rw[pi,(V1 zs).length_eq];exact Ze (by omega)
def uf:List V→Hp→VK→Prop:=fun xs H Q=>∃(v d:Addr)(kvs:List (Key×V)),xs=[.ref v]∧H v=some (cP v d)∧H d=some (.dK kvs)∧∀p,H p=none→Q (.ref p) (upd H p (.lst (kvs.map (·.2))))
theorem eR(hc:X.calm=true):aK X (.type "list") uf:=by
 intro Cr s σ H xs us Q I rx h;obtain⟨v,d,kvs,rfl,hv,hd,q⟩:=h;obtain⟨u,rfl,ru⟩:=Xx rx;cases ru;obtain⟨z,lo,es,kv,hD⟩:=jZ I.hok hd;obtain⟨ep,hat⟩:=hD.dictAt;obtain⟨view,_⟩:=(show ObjOk X.prog X.w H s.heap v (cP v d)from I.hok v _ hv);have hl:es.length=kvs.length:=by
  have e:=Ak List.length (KV.keys kv);rw[pi,pi]at e;exact e.symm
 refine W.kdl_call (W.kdl_values (knd:=aa X.prog X.w) (r:=v) (kvs:=es) (ep:=ep)) (I.ok.hd hc) ⟨view,hat⟩ (by rw[hl];exact z) fun g tk CH c kp hD it=>?_;refine⟨.ref s.heap.objs.size,_,I.laid (t':=tk) (o:=.lst (kvs.map (·.2))) kp (yM _) ⟨by rw[pi];exact z,es.map (·.2),c,Rj kv,?_⟩,rfl,q _ (I.hok.fresh (yM _))⟩;have ea:CH.toList=es.map (·.2):=W.kdl_vals_eq CH.toList (by rw[yU];exact it.1) fun j u e=>it.2 j u (by rw[←yS];exact e);rw[←ea,Bu];exact hD
end
end L2
namespace Ld
open PySem L2
def izv(ls:Sps):List (Key×V):=ls.map fun p=>(.inl p.1.2,.int p.2)
def Hz(ls:Sps):Prop:=∀p∈ls,p.1.1=0
theorem qM(ls:Sps):(izv ls).length=ls.length:=pi _
theorem sU(ls:Sps):(izv ls).map (·.1)=(ls.map fun p=>p.1.2).map Sum.inl:=by
 unfold izv;rw[zf,zf];rfl
theorem tz(ls:Sps):(izv ls).map (·.2)=(ls.map (·.2)).map V.int:=by
 unfold izv;rw[zf,zf];rfl
theorem n_{ls:Sps}(n:Int):Hz ls→aP (izv ls) (.inl n)=ai ls (0,n):=by
 induction ls with
 |nil=>exact fun _=>rfl
 |cons p ls ih=>
  intro h;have e:p.1=(0,p.1.2):=Ad (h p (.head _)) rfl;unfold ai af izv;rw[yQ,yQ];by_cases c:p.1.2=n
  ·rw[Y6 (p:=(Sum.inl p.1.2,V.int p.2)) (by rw[c]),Y6 (p:=(kk p.1,V.int p.2)) (by rw[e,c])]
  ·rw[Y0 (p:=(Sum.inl p.1.2,V.int p.2)) (fun z=>c (Cd z)),Y0 (p:=(kk p.1,V.int p.2)) (fun z=>c (by rw[Vo z]))];exact ih fun q hq=>h q (.tail _ hq)
theorem nU{ls:Sps}(n v:Int)(h:Hz ls):aJ (izv ls) (.inl n) (.int v)=izv (ak ls (0,n) v):=by
 have iff:∀p∈ls,((Sum.inl p.1.2:Key)=.inl n)↔p.1=(0,n):=fun p hp=>⟨fun z=>Ad (h p hp) (Cd z),fun z=>by rw[z]⟩;have ea:((izv ls).any fun kv=>decide (kv.1=.inl n))=ls.any fun p=>decide (p.1=(0,n)):=by
  unfold izv;rw[List.any_map];clear h
  induction ls with
  |nil=>rfl
  |cons p ls ih=>
   rw[List.any_cons,List.any_cons,ih fun q hq=>iff q (.tail _ hq)]
   congr 1
   show decide ((Sum.inl p.1.2:Key)=.inl n)=_;by_cases c:p.1=(0,n)
   ·rw[yX c,yX ((iff p (.head _)).mpr c)]
   ·rw[zA c,zA (fun z=>c ((iff p (.head _)).mp z))]
 unfold aJ ak;rw[ea]
 split
 ·unfold izv;rw[zf,zf];refine AF fun p hp=>?_;show(if (Sum.inl p.1.2:Key)=.inl n then(Sum.inl p.1.2,V.int v) else(Sum.inl p.1.2,V.int p.2))=(fun p:(Int×Int)×Int=>((Sum.inl p.1.2:Key),V.int p.2)) (if p.1=(0,n) then(p.1,v)else p);by_cases c:p.1=(0,n)
  ·rw[yL c,yL ((iff p hp).mpr c)]
  ·rw[yK c,yK (fun z=>c ((iff p hp).mp z))]
 ·unfold izv;rw[zk];rfl
theorem pE{ls:Sps}{n v:Int}(h:Hz ls):Hz (ak ls (0,n) v):=fun p hp=>by
 unfold ak at hp
 split at hp
 ·obtain⟨q,hq,e⟩:=yO.mp hp
  split at e
  ·rw[←e];exact h q hq
  ·rw[←e];exact h q hq
 ·rcases ze.mp hp with z | z
  ·exact h p z
  ·rw[yP.mp z]
end Ld
namespace K29
open PySem L2 Ld
def uM:Sp:=fun vs H Q _=>∃(r d:Addr)(or:Int)(ts:List Th)(qs:Sps),vs=[.ref r,.ref d,.int or]∧DV H (.ref r) (bf ts)∧H d=some (.dT (af qs))∧(qs.map (·.1)).Nodup∧(∀p∈qs,0≤p.1.1∧p.1.1≤20∧0≤p.2)∧(∀t∈ts,0≤t.many)∧qs.length<500∧ts.length<500∧∀(b:Bool)(H':Hp),Same H H'→(b=true↔Can qs (a8 ts))→Q (.bl b) H'
theorem oH(ts:List Th)(t:Th):a8 (ts++[t])=ak (a8 ts) (0,t.num) (cnt (a8 ts) (0,t.num)+t.many):=by
 unfold a8;rw[zk];exact P3 _ _ _
theorem n8(ts:List Th):((a8 ts).map (·.1)).Nodup:=Te zO
theorem vh{ls:Sps}{k:Int×Int}{n:Int}(h:∀p∈ls,0≤p.2)(n0:0≤n):∀p∈ak ls k n,0≤p.2:=fun p hp=>by
 unfold ak at hp
 split at hp
 ·obtain⟨q,hq,e⟩:=yO.mp hp
  split at e
  ·rw[←e];exact n0
  ·rw[←e];exact h q hq
 ·rcases ze.mp hp with z | z
  ·exact h p z
  ·rw[yP.mp z];exact n0
theorem P1{ps qs ls:Sps}(p:ps.Perm qs):Can ps ls↔Can qs ls:=
 ⟨fun C=>⟨fun s h=>by rw[←U7 p];exact C.each s h,by rw[←Wz p];exact C.all⟩,fun C=>⟨fun s h=>by rw[U7 p];exact C.each s h,by rw[Wz p];exact C.all⟩⟩
def cK(qs:Sps)(i:Nat):Sps:=((bd (qs.map (·.1))).drop i).map fun k=>(k,cnt qs k)
theorem fg{qs:Sps}(nd:(qs.map (·.1)).Nodup):(cK qs 0).Perm qs:=by
 unfold cK;rw[BW];refine((Yv _).map _).trans ?_;rw[zf];refine List.Perm.of_eq ?_;have e:qs.map ((fun k=>(k,cnt qs k))∘fun x=>x.1)=qs.map id:=AF fun p hp=>by
  show(p.1,cnt qs p.1)=p;rw[Yd nd hp]
 rw[e,List.map_id]
theorem uR{qs:Sps}{i:Nat}{k:Int×Int}(h:(bd (qs.map (·.1)))[i]?=some k):cK qs i=(k,cnt qs k)::cK qs (i+1):=by
 unfold cK;obtain⟨hi,e⟩:=yZ.mp h;rw[List.drop_eq_getElem_cons hi,e,yQ]
theorem s_{qs:Sps}{i:Nat}{p:(Int×Int)×Int}(nd:(qs.map (·.1)).Nodup)(h:p∈cK qs i):p∈qs:=by
 obtain⟨k,hk,rfl⟩:=yO.mp h;have km:=(Yv _).mem_iff.mp (Bx hk);obtain⟨q,hq,e⟩:=yO.mp km;rw[←e,Yd nd hq];exact hq
theorem u8{qs:Sps}{i:Nat}{k:Int×Int}(h:(bd (qs.map (·.1)))[i]?=some k):∀p∈cK qs (i+1),k.1≤p.1.1:=fun p hp=>by
 obtain⟨l,hl,rfl⟩:=yO.mp hp;obtain⟨j,hj,e⟩:=A6.mp hl;have g:(bd (qs.map (·.1)))[i+1+j]?=some l:=by
  rw[←Aq,zF hj,e]
 have:=Vn.mp (om (Ow _) h g (by omega));show k.1≤l.1;omega
theorem iC{α β:Type}{R:α→β→Prop}:∀{xs:List α}{ys:List β}{j:Nat}{x:α},Paired R xs ys→xs[j]?=some x→∃y,ys[j]?=some y∧R x y:=by
 intro xs
 induction xs with
 |nil=>intro ys j x _ e;simp at e
 |cons z zs ih=>
  intro ys j x p e;cases p with
  |cons r p=>
   cases j with
   |zero=>
    rw[An]at e;cases e;exact⟨_,rfl,r⟩
   |succ j=>
    rw[List.getElem?_cons_succ]at e;obtain⟨y,hy,h⟩:=ih p e;exact⟨y,by rw[List.getElem?_cons_succ];exact hy,h⟩
theorem wz(a b:Int):(if b<a then b else a)=min a b:=by
 split <;> omega
variable{P:Program}{w:World}{K:W.Frag}{mg:Str→Option Value}{base:Heap}{f:Addr}{fd:FuncData}
theorem wc(ax:mg "sorted"=none)(cw:mg "min"=none)(ba:mg "sum"=none)(av:mg "list"=none)(bn:Has P w K mg base "_law_first" 1 ["_law_stretch"] sC)(du:Has P w K mg base "_law_last" 2 ["_law_stretch"] vO)(F:Fun K "_law_is_dealt" "_law_is_dealt" bD f fd):FnOk P w K mg base CX0 3 f fd ["_law_stream_here","_law_now","_law_deep"] uM:=by
 refine F.ok Zo (fun vs H Q E h=>?_) (fun cdv A outer s H vs Q E hr h=>?_)
 ·obtain⟨r,d,or,ts,qs,rfl,_⟩:=h;rfl
 obtain⟨r,d,or,ts,qs,rfl,dv,e_d,nd,kb,tp,ql,tl,hq⟩:=h;refine⟨_,(Z2 (Zp 3 Zo.nd rfl (Or.inl rfl) qQ) Zd),?_⟩;intro L n_L;have e_L:(upd H L (.dK [])) L=some (.dK (izv (a8 []))):=Z4;have gg:Same H (upd H L (.dK [])):=Z6 n_L _;generalize upd H L (.dK [])=H1 at e_L gg⊢;obtain⟨_,xs,e0,e_r,ds⟩:=DV.list_inv dv;cases e0;have xl:=ds.length;rw[pi]at xl;refine⟨_,(Z2 (Yy zQ rfl (Yi (pv 0)) (W1 rfl (Zc (Za (i:=4) Zo.nd rfl (Or.inl rfl)) (Zc (Za (i:=5) Zo.nd rfl (Or.inl rfl)) (Zc (Za (i:=6) Zo.nd rfl (Or.inl rfl)) (Zc (Za (i:=7) Zo.nd rfl (Or.inl rfl)) Yb)))))
 (Z8 (Wm (X0 hr) (pv 3) (pv 6) (Z9 Zm (Wf (X0 hr) (pv 3) (pv 6) Z3 ⟨rfl,rfl,rfl,rfl⟩) (pv 7)) rfl))) Zd),?_⟩
 refine⟨_,rfl,r,rfl,⟨_,SqL.of (gg _ _ e_r)⟩,?_⟩;refine X3 (xs:=xs) (fun i σ H'=>∃(o4 o5 o6 o7:Option V),σ=[some (.ref r),some (.ref d),some (.int or),some (.ref L),o4,o5,o6,o7,none,none,none,none,none]∧Same H H'∧H' L=some (.dK (izv (a8 (ts.take i))))∧Hz (a8 (ts.take i))∧(a8 (ts.take i)).length≤i∧∀p∈a8 (ts.take i),0≤p.2) ⟨_,_,_,_,rfl,gg,e_L,(fun _ h=>nomatch h),yM _,(fun _ h=>nomatch h)⟩ ?_ ?_ ?_
 ·rintro i σ H' _ ⟨_,_,_,_,_,g,_⟩;exact SqL.of (g _ _ e_r)
 ·clear e_L gg;rintro i x σ H' N B1 R hN hR hx ⟨o4,o5,o6,o7,rfl,g,eL,hz,ll,nn⟩;obtain⟨t,c,ht,rfl,ec,hm⟩:=DVs.th_at ds hx;have nl:i<ts.length:=(yZ.mp ht).1;rw[Zx ht,oH]at hN;have nd':=n8 (ts.take i);generalize a8 (ts.take i)=ls at eL hz ll nn nd' hN;have l1:=W5 ls (0,t.num) (cnt ls (0,t.num)+t.many);refine⟨c,_,rfl,SqT.of (g _ _ ec),rfl,_,_,rfl,_,_,rfl,_,_,rfl,_,_,rfl,rfl,?_⟩;refine⟨_,rfl,L,rfl,.inl ⟨_,.inl eL⟩,_,rfl,_,DGet.k (k:=.inl t.num) eL,_,rfl,_,t.many,(by rw[n_ _ hz];exact W0 _ _),rfl,_,rfl,_,rfl,L,_,rfl,DPut.k (k:=.inl t.num) eL (Zq (by rw[qM];omega)),?_⟩;refine hN _ _ ⟨_,_,_,_,rfl,Vh g n_L,?_,pE hz,by omega,vh nn ?_⟩
  ·rw[←nU _ _ hz];exact Z4
  ·have:=Se nd' nn (0,t.num);have:=tp t hm;omega
 clear e_L gg;rintro σ H2 ⟨o4,o5,o6,o7,rfl,g2,e_L,hz,ll,nn⟩;rw[xl,zG]at e_L hz ll nn;refine⟨_,(Z2 (Yy zQ rfl (Yi (Zf (U4 rfl hr.units) rfl ax AI (Z0 (pv 1) Z1))) (Za (i:=8) Zo.nd rfl (Or.inl rfl))
 (Z2 (Zp 9 Zo.nd rfl (Or.inl rfl) (Wo (X0 hr) (pv 1) (pv 8) (fun _ _=>rfl)))
 (Z2 (@N8 _ _ 10 _ _ _ _ Zo.nd rfl (Or.inr rfl) (Z5 bn hr (Z0 (pv 8) Z1)) (by rfl) (by first | exact .inl rfl | exact .inr rfl))
 (Z2 (@N8 _ _ 11 _ _ _ _ Zo.nd rfl (Or.inr rfl) (Z5 du hr (Z0 (pv 8) Z1)) (by rfl) (by first | exact .inl rfl | exact .inr rfl))
 (T4 6 (Z2 (Yy zQ rfl (Yi (nR ["_law_stream_here","_law_now","_law_deep","_law_left","_law_day","_law_mark","#6","_law_many_here","_law_stretch","_law_due","_law_low","_law_high","_law_taken"] (Wp (own:=["_law_number"]) (Sw rfl rfl) (Yi (Zf (eT rfl) rfl ax AI (Z0 (pv 3) Z1)))
  (fun _ _ _ _ _=>(Za (i:=0) U0 rfl (Or.inl rfl) (Or.inr rfl))) (fun _ _ _ _ _=>(Tl (o0 j7 j7 (pv 11) (pv 0) (pv 12))))
  (fun _ _ _ _ _=>(pv 0))))) (Za (i:=6) Zo.nd rfl (Or.inl rfl))
 (Z2 (Zp 12 Zo.nd rfl (Or.inl rfl) (Zf (Sh rfl) rfl cw PyProof.Rows.boot_min (Z0 (pv 9) (Z0 (Wo (X0 hr) (pv 3) (pv 6) (fun _ _=>rfl)) Z1))))
 (Z2 (Wm (X0 hr) (pv 3) (pv 6) (Z9 X4 (Wo (X0 hr) (pv 3) (pv 6) (fun _ _=>rfl)) (pv 12)) rfl)
 (Z8 (Zp 9 Zo.nd rfl (Or.inl rfl) (Z9 X4 (pv 9) (pv 12)))))))
 (Z8 (Yu (Zn To (pv 9) Z3 (Zk _)) (Z8 (Zg Ur)) Zu)))))))) Zd),?_⟩
 refine⟨_,rfl,d,qs,rfl,g2 _ _ e_d,by omega,fun bs ka l n_l=>?_⟩;have g3:=Z6 n_l (.lst (bs.map V.ref));have CB:(upd H2 l (.lst (bs.map V.ref))) l=some (.lst (bs.map V.ref)):=Z4;have e_L:=g3 _ _ e_L;have ka:=ka.mono fun b xs e=>g3 b _ e;have g2:=g2.trans g3;clear n_l g3;generalize upd H2 l (.lst (bs.map V.ref))=H3 at CB e_L ka g2⊢;have lL:l≠L:=fun z=>by rw[z,e_L]at CB;cases CB
 have CB:am L H3 l=some (.lst (bs.map V.ref)):=by rw[Zh lL];exact CB
 have ka:KsAt (am L H3) bs (bd (qs.map (·.1))):=ka.mono fun b xs e=>by rw[Zh (fun z=>by rw[z,e_L]at e;cases e)];exact e
 have bl:=zd ka;have sl:(bd (qs.map (·.1))).length=qs.length:=by rw[(Yv _).length_eq,pi]
 have nL:=n8 ts;have c0:Can qs (a8 ts)↔Can (cK qs 0) (a8 ts):=(P1 (fg nd)).symm;obtain⟨l0,hl0⟩:∃l0:Sps,l0=a8 ts:=⟨_,rfl⟩;rw[←hl0]at e_L hz ll nn nL c0 hq;clear hl0;refine⟨l,rfl,⟨_,Xf CB⟩,?_⟩;refine X3 (xs:=bs.map V.ref) (fun i σ H'=>∃(o4 o5 o6 o7 o8 o9 o10 o11 o12:Option V)(ls:Sps),σ=[some (.ref r),some (.ref d),some (.int or),some (.ref L),o4,o5,o6,o7,o8,o9,o10,o11,o12]∧Same H H'∧Grw L H3 H'∧H' L=some (.dK (izv ls))∧Hz ls∧ls.map (·.1)=l0.map (·.1)∧(∀p∈ls,0≤p.2)∧(Can qs l0↔Can (cK qs i) ls)) ⟨_,_,_,_,_,_,_,_,_,l0,rfl,g2,Same.refl _,e_L,hz,rfl,nn,c0⟩ ?_ ?_ ?_
 ·rintro i σ H' _ ⟨_,_,_,_,_,_,_,_,_,_,_,_,g,_⟩;exact Xf (g _ _ CB)
 ·clear e_L hz nn c0 g2;rintro i x σ H4 N B1 R hN hR hx ⟨o4,o5,o6,o7,o8,o9,o10,o11,o12,ls,rfl,g,gw,e_L,hz,keys,nn,cn⟩;rw[zc]at hx;obtain⟨b,hb,rfl⟩:=zV.mp hx;obtain⟨k,hk,Cw⟩:=iC ka hb;have Cw:am L H3 b=some (.tup [.int k.1,.int k.2]):=Cw;have km:k∈qs.map (·.1):=(Yv _).mem_iff.mp (zB hk);obtain⟨p0,hp0,ep0⟩:=yO.mp km;obtain⟨k0,k1,_⟩:=kb p0 hp0;rw[ep0]at k0 k1;have cq:0≤cnt qs k:=Se nd (fun p hp=>(kb p hp).2.2) k;have nds:(ls.map (·.1)).Nodup:=by rw[keys];exact nL
  have lls:ls.length≤ts.length:=by
   have:=Ak List.length keys;rw[pi,pi]at this;omega
  have kat:∀{H':Hp},Grw L H3 H'→KAt H' b k:=fun g=>(Z7 (g _ _ Cw)).2;refine⟨_,rfl,_,rfl,d,_,rfl,(by rw[←Wl km];exact X7 (g _ _ e_d) (kat gw)),?_⟩;refine⟨_,rfl,b,k,rfl,kat gw,k0,k1,?_⟩;refine⟨_,rfl,b,k,rfl,kat gw,k0,k1,fun H5 g5=>?_⟩;have gw:=gw.trans (U2 e_L g5);have g:=g.trans g5;have e_L:=g5 _ _ e_L;clear g5;refine⟨⟨.inl rfl,.inl rfl,.inl rfl,.inl rfl,.inl rfl,.inl rfl,.inr rfl,.inl rfl,.inl rfl,.inl rfl,.inl rfl,.inl rfl,.inl rfl,trivial⟩,_,rfl,L,_,ls.map (fun p=>p.1.2),rfl,e_L,sU ls,by rw[pi];omega,fun p n_p=>?_⟩;have sp:=V1 (ls.map fun p=>p.1.2);have sl2:=sp.length_eq;rw[pi]at sl2;have mem:∀n,n∈dh (ls.map fun p=>p.1.2)↔(0,n)∈ls.map (·.1):=fun n=>by
   rw[sp.mem_iff];refine⟨fun h=>?_,fun h=>?_⟩
   ·obtain⟨q,hq,e⟩:=yO.mp h;exact yO.mpr ⟨q,hq,Ad (hz q hq) e⟩
   ·obtain⟨q,hq,e⟩:=yO.mp h;exact yO.mpr ⟨q,hq,by rw[e]⟩
  generalize dh (ls.map fun p=>p.1.2)=ss at sl2 mem n_p⊢;have g6:=Z6 n_p (.lst (ss.map V.int));have Cy:(upd H5 p (.lst (ss.map V.int))) p=some (.lst (ss.map V.int)):=Z4;have gw:=gw.trans (U2 e_L g6);have g:=g.trans g6;have e_L:=g6 _ _ e_L;clear g6 n_p sp;generalize upd H5 p (.lst (ss.map V.int))=H6 at Cy gw g e_L⊢;refine⟨p,rfl,⟨_,SqL.of Cy⟩,?_⟩;refine Xe (xs:=ss.map V.int) (fun i ys H'=>H'=H6∧ys=(((ss.take i).filter fun n=>decide (aw k≤n∧n≤au k)).map V.int)) ⟨rfl,rfl⟩ ?_ ?_ ?_
  ·rintro i ys H' _ ⟨rfl,_⟩;exact SqL.of Cy
  ·rintro i y ys H' C hy ⟨rfl,rfl⟩ hC;rw[zc]at hy;obtain⟨n,hn,rfl⟩:=zV.mp hy;have fl:=z8 (fun n:Int=>decide (aw k≤n∧n≤au k)) (ss.take i);rw[zu]at fl;have tk:=Zx hn;refine⟨Zq (by rw[pi];omega),Wk.refl _,_,rfl,_,rfl,_,_,rfl,rfl,_,rfl,?_⟩;by_cases c1:aw k≤n
   ·rw[yX c1];refine Wv ⟨_,rfl,_,_,rfl,rfl,_,rfl,?_⟩;by_cases c2:n≤au k
    ·rw[yX c2];refine Wv ⟨_,rfl,hC _ _ ⟨rfl,?_⟩⟩;rw[tk,AL,zN,yL (yX ⟨c1,c2⟩),zk];rfl
    ·rw[zA c2];refine Ww (hC _ _ ⟨rfl,?_⟩);rw[tk,List.filter_append,List.filter_cons,if_neg (by simpa using fun _=>by omega),List.filter_nil,List.append_nil]
   ·rw[zA c1];refine Ww ⟨_,rfl,Ww (hC _ _ ⟨rfl,?_⟩)⟩;rw[tk,List.filter_append,List.filter_cons,if_neg (by simpa using fun z=>absurd z c1),List.filter_nil,List.append_nil]
  rintro ys H' ⟨rfl,rfl⟩;rw[show(ss.map V.int).length=ss.length from pi _,zG];have fl:=z8 (fun n:Int=>decide (aw k≤n∧n≤au k)) ss;have fm:∀n∈ss.filter (fun n=>decide (aw k≤n∧n≤au k)),n∈ss∧aw k≤n∧n≤au k:=fun n hn=>⟨(zn.mp hn).1,yW (zn.mp hn).2⟩;have fa:∀n∈ss,aw k≤n→n≤au k→n∈ss.filter (fun n=>decide (aw k≤n∧n≤au k)):=fun n hn a b=>zn.mpr ⟨hn,yX ⟨a,b⟩⟩;generalize ss.filter (fun n=>decide (aw k≤n∧n≤au k))=zs at fl fm fa⊢;refine⟨Ze (by rw[pi];omega),fun p2 tU=>?_⟩;have g7:=Z6 tU (.lst (zs.map V.int));have cr:(upd H' p2 (.lst (zs.map V.int))) p2=some (.lst (zs.map V.int)):=Z4;have gw:=gw.trans (U2 e_L g7);have g:=g.trans g7;have e_L:=g7 _ _ e_L;clear g7 tU Cy;generalize upd H' p2 (.lst (zs.map V.int))=H7 at cr gw g e_L⊢;have pL:p2≠L:=fun z=>by rw[z,e_L]at cr;cases cr
  have cr:am L H7 p2=some (.lst (zs.map V.int)):=by rw[Zh pL];exact cr
  refine⟨p2,rfl,⟨_,Xf cr⟩,?_⟩;refine X3 (xs:=zs.map V.int) (fun j σ H'=>∃(o6 o12:Option V)(lt:Sps)(due:Int),σ=[some (.ref r),some (.ref d),some (.int or),some (.ref L),o4,o5,o6,o7,some (.ref b),some (.int due),some (.int (aw k)),some (.int (au k)),o12]∧Same H H'∧Grw L H3 H'∧Grw L H7 H'∧H' L=some (.dK (izv lt))∧Hz lt∧Tkn (aw k) (au k) (cnt qs k) ls lt due∧(due=0∨∀n∈zs.take j,cnt lt (0,n)=0)) ⟨_,_,ls,_,rfl,g,gw,Same.refl _,e_L,hz,wZ cq nn,.inr fun _ h=>nomatch h⟩ ?_ ?_ ?_
  ·rintro j σ H' _ ⟨_,_,_,_,_,_,_,g,_⟩;exact Xf (g _ _ cr)
  ·clear e_L g gw;rintro j y σ H8 N2 B2 R2 hN2 hR2 hy ⟨o6,o12,lt,due,rfl,g,gw,gv,e_L,hzt,tk,dz⟩;rw[zc]at hy;obtain⟨n,hn,rfl⟩:=zV.mp hy;obtain⟨n0,n1,n2⟩:=fm n (zB hn);have nk:(0,n)∈ls.map (·.1):=(mem n).mp n0;have nkt:(0,n)∈lt.map (·.1):=by rw[tk.keys];exact nk
   have ltl:lt.length≤ts.length:=by
    have:=Ak List.length tk.keys;rw[pi,pi]at this;omega
   have dg:DGet H8 L (kV (.inl n)) (some (.int (cnt lt (0,n)))):=by
    have q:=DGet.k (k:=.inl n) e_L;rw[n_ _ hzt,Wl nkt]at q;exact q
   refine⟨_,rfl,_,rfl,_,rfl,L,_,rfl,dg,due,cnt lt (0,n),rfl,?_⟩;rw[wz];have ts':=pj tk nds nk n1 n2;refine⟨_,rfl,_,rfl,L,_,rfl,dg,_,rfl,_,_,rfl,rfl,_,rfl,_,rfl,L,_,rfl,DPut.k (k:=.inl n) e_L (Zq (by rw[qM];omega)),?_⟩;refine⟨_,rfl,_,rfl,_,_,rfl,rfl,hN2 _ _ ⟨_,_,ak lt (0,n) (cnt lt (0,n)-min due (cnt lt (0,n))),due-min due (cnt lt (0,n)),rfl,Vh g n_L,gw.trans X2,gv.trans X2,?_,pE hzt,ts',?_⟩⟩
   ·rw[←nU _ _ hzt];exact Z4
   ·have d0:=tk.d0;by_cases c:due≤cnt lt (0,n)
    ·exact .inl (by omega)
    ·refine .inr fun m hm=>?_;rw[Ym]
     split
     ·omega
     ·rename_i ne;rw[Zx hn]at hm
      rcases ze.mp hm with z | z
      ·rcases dz with dz | dz
       ·have:=Se (by rw[tk.keys];exact nds) tk.nn (0,n);omega
       ·exact dz m z
      ·exact absurd (by rw[yP.mp z]) ne
  ·clear e_L g gw;rintro σ H8 ⟨o6,o12,lt,due,rfl,g,gw,gv,e_L,hzt,tk,dz⟩;rw[pi,zG]at dz;rw[uR hk]at cn;refine⟨_,rfl,_,_,rfl,rfl,_,rfl,?_⟩;have d0:=tk.d0;by_cases c:due > 0
   ·rw[yX c];have zr:∀n,aw k≤n→n≤au k→cnt lt (0,n)=0:=fun n a b=>by
     rcases dz with dz | dz
     ·omega
     ·by_cases m:n∈ss
      ·exact dz n (fa n m a b)
      ·exact Zz fun z=>m ((mem n).mpr (by rw[←tk.keys];exact z))
    have sh:=lM tk nds hz zr;have no:=lD (rem:=cK qs (i+1)) cq (fun p hp=>(kb p (s_ nd hp)).2.2) sh c k0;exact Wv (hR _ _ (hq false _ g ⟨(fun z=>nomatch z),fun C=>absurd (cn.mp C) no⟩))
   ·rw[zA c];have e0:due=0:=by omega
    rw[e0]at tk;refine Ww (hN _ _ ⟨_,_,_,_,_,_,_,_,_,lt,rfl,g,gw,e_L,hzt,tk.keys.trans keys,tk.nn,?_⟩);exact cn.trans ⟨fun C=>sg tk k0 (u8 hk) C,fun C=>lJ tk C⟩
 ·clear e_L hz nn c0 g2;rintro σ H4 ⟨o4,o5,o6,o7,o8,o9,o10,o11,o12,ls,rfl,g,gw,e_L,hz,keys,nn,cn⟩;rw[pi,bl]at cn;have er:cK qs (bd (qs.map (·.1))).length=[]:=by
   unfold cK;rw[List.drop_length];rfl
  rw[er]at cn;refine⟨_,(Z8 (Zg (Xu Wh (Zf (U3 rfl) rfl ba Bj (Z0 (Y8 (eR rfl) rfl av AD (Z0 (Q4 Al A4 PySem.F.type_dict_values mD (pv 3)) Z1)) Z1)) Z3 (Zk _)))),?_⟩;refine⟨_,rfl,.inr (.inr (.inl ⟨rfl,.inl ⟨_,e_L⟩⟩)),L,_,rfl,rfl,e_L,?_⟩;have gg:=g;intro v n_v;generalize hz:upd _ v _=H5;revert H5;refine blk ?_;intro H5 hz;have gz:=Zr hz n_v;have e_v:=Y5 hz;clear hz;have gg:=gg.trans gz;have e_L:=gz _ _ e_L;refine⟨v,L,_,rfl,e_v,e_L,?_⟩;rw[tz];intro l2 dO;generalize hz:upd _ l2 _=H6;revert H6;refine blk ?_;intro H6 hz;have gz:=Zr hz dO;have bL:=Y5 hz;clear hz;have gg:=gg.trans gz;refine⟨l2,_,rfl,SqL.of bL,rfl,?_⟩;refine hq _ _ gg ?_;rw[cn,sA nn];refine⟨fun z=>?_,fun z=>yX ?_⟩
  ·have:=yW z;injection this
  ·show V.int (aj ls)=V.int 0;rw[z]
def dD:Sp:=fun vs H Q _=>∃(x:V)(T:String),vs=[x]∧Kd H x T∧Q (.bl (whV x)) H
def xu:Sp:=fun vs H Q _=>∃(x:V)(T:String)(l:Int),vs=[x,.int l]∧Kd H x T∧Q (.bl (wF x l)) H
def xy:Sp:=fun vs H Q _=>∃(i l m:Int),vs=[.int i,.int l,.int m]∧Q (.bl (decide (l≤i) && decide (i≤m))) H
theorem gW(ah:mg "isinstance"=none)(cu:mg "int"=none)(cA:mg "bool"=none)(F:Fun K "is_whole" "is_whole" b0 f fd):FnOk P w K mg base CX0 1 f fd ["thing"] dD:=by
 refine F.ok gc (fun vs H Q E h=>?_) (fun cdv A outer s H vs Q E hr h=>?_)
 ·obtain⟨x,T,rfl,_⟩:=h;rfl
 obtain⟨x,T,rfl,hk,hq⟩:=h;refine⟨_,(Z8 (Zg (T6 (Zf Um rfl ah As (Z0 (pv 0) (Z0 (Uf (v:=.ty "int") rfl cu PyProof.Rows.boot_int rfl) Z1))) (S7 (vY (Zf Um rfl ah As (Z0 (pv 0) (Z0 (Uf (v:=.ty "bool") rfl cA PyProof.Rows.boot_bool rfl) Z1)))))))),?_⟩;rw[←hk.wh]at hq;refine⟨_,rfl,_,_,"int",_,rfl,hk.ty,hk.kit (by decide) rfl,_,rfl,?_⟩;refine Xm (fun c=>?_) (fun c=>?_)
 ·refine⟨_,rfl,_,_,"bool",_,rfl,hk.ty,hk.kit (by decide) rfl,_,rfl,?_⟩;rw[c,Bool.true_and]at hq;exact hq
 ·rw[z5.mpr c,BC]at hq;exact hq
theorem S8(i6:Has P w K mg base "is_whole" 1 ["thing"] dD)(F:Fun K "is_whole_from" "is_whole_from" aY f fd):FnOk P w K mg base CX0 2 f fd ["thing","least"] xu:=by
 refine F.ok S5 (fun vs H Q E h=>?_) (fun cdv A outer s H vs Q E hr h=>?_)
 ·obtain⟨x,T,l,rfl,_⟩:=h;rfl
 obtain⟨x,T,l,rfl,hk,hq⟩:=h;refine⟨_,(Z8 (Zg (T6 (Z5 i6 hr (Z0 (pv 0) Z1)) (S7 (Xu kI (pv 0) (pv 1) (Zk _)))))),?_⟩;refine⟨_,rfl,x,T,rfl,hk,_,rfl,?_⟩;cases x with
 |int i=>exact Wv ⟨_,rfl,_,rfl,_,_,rfl,rfl,hq⟩
 |_=>exact Ww hq
theorem T8(cQ:Has P w K mg base "is_whole_from" 2 ["thing","least"] xu)(F:Fun K "is_whole_within" "is_whole_within" aQ f fd):FnOk P w K mg base CX0 3 f fd ["thing","least","most"] xy:=by
 refine F.ok Uy (fun vs H Q E h=>?_) (fun cdv A outer s H vs Q E hr h=>?_)
 ·obtain⟨i,l,m,rfl,_⟩:=h;rfl
 obtain⟨i,l,m,rfl,hq⟩:=h;refine⟨_,(Z8 (Zg (T6 (Z5 cQ hr (Z0 (pv 0) (Z0 (pv 1) Z1))) (S7 (Xu j7 (pv 0) (pv 2) (Zk _)))))),?_⟩;refine⟨_,rfl,_,rfl,.int i,"int",l,rfl,.int _,_,rfl,?_⟩;refine Xm (fun c=>?_) (fun c=>?_)
 ·have c:decide (l≤i)=true:=c;rw[c,Bool.true_and]at hq;exact⟨_,rfl,_,rfl,_,_,rfl,rfl,hq⟩
 ·have c:decide (l≤i)=false:=z5.mpr c;rw[c,BC]at hq;exact hq
def a7(ps:Sps)(k:Int×Int)(m:Int):Sps:=if cnt ps k-m=0 then aq (ak (ak ps (ag k) (cnt ps (ag k)+m)) k (cnt ps k-m)) k else ak (ak ps (ag k) (cnt ps (ag k)+m)) k (cnt ps k-m)
def cM(ts:List Th):Sps:=ts.map fun t=>((0,t.num),t.many)
def aE(ts:List Th):Sps:=az [] (cM ts)
def PprAt(H:Hp)(p:Addr)(ps:Sps):Prop:=∃as:List Addr,H p=some (.lst (as.map V.ref))∧Paired (FT H) as ps
theorem PprAt.mono{H H':Hp}{p:Addr}{ps:Sps}(g:Same H H')(h:PprAt H p ps):PprAt H' p ps:=let ⟨as,e,r⟩:=h;⟨as,g _ _ e,Paired.mapP r fun _ _ f=>Zv g f⟩
def eqB(ps qs:Sps):Bool:=decide (ps.length=qs.length) && ps.all fun p=>decide (p∈qs)
def cR(or:Int)(qs:Sps):Sps→Sps→Bool
 |ps,[]=>eqB ps qs
 |ps,(k,m)::r=>if m<1∨or≤k.1∨cnt ps k<m then false else cR or qs (a7 ps k m) r
def inB(or:Int)(k:Int×Int):Bool:=decide (0≤k.2) && decide (k.2≤2^or.toNat-1)
def di(or total:Int)(ts:List Th)(qs Cv:Sps):Bool:=decide (aR ts=total) && ((aE ts).all fun e=>inB or e.1) && cR or qs (aE ts) Cv
def kz:Sp:=fun vs H Q _=>∃(d p:Addr)(ps:Sps)(k:Int×Int)(m:Int),vs=[.ref d,.ref p,.int m]∧H d=some (.dT (af ps))∧KAt H p k∧k∈ps.map (·.1)∧ps.length<100000∧∀(H':Hp),Grw d H H'→H' d=some (.dT (af (a7 ps k m)))→Q .non H'
def iE:Sp:=fun vs H Q _=>∃(c1 c2:Addr)(bs:List Addr)(ys:Sps),vs=[.ref c1,.ref c2]∧H c1=some (.tup [])∧H c2=some (.lst (bs.map V.ref))∧Paired (FT H) bs ys∧ys.length≤1000∧∀(d:Addr)(H':Hp),H d=none→Same H H'→H' d=some (.dT (af (az [] ys)))→Q (.ref d) H'
def uw:Sp:=fun vs H Q _=>∃(r:Addr)(ts:List Th),vs=[.ref r]∧DV H (.ref r) (bf ts)∧ts.length≤1000∧∀H',Same H H'→Q (.int (aR ts)) H'
def p_:Sp:=fun vs H Q _=>∃(r:Addr)(ts:List Th),vs=[.ref r]∧DV H (.ref r) (bf ts)∧ts.length≤1000∧∀(d:Addr)(H':Hp),H d=none→Same H H'→H' d=some (.dT (af (aE ts)))→Q (.ref d) H'
def oe:Sp:=fun vs H Q _=>∃(p:Addr)(n or:Int),vs=[.ref p,.int or]∧KAt H p (0,n)∧0≤or∧or≤20∧∀H',Same H H'→Q (.bl (inB or (0,n))) H'
def fG:Sp:=fun vs H Q _=>∃(r q p:Addr)(ts:List Th)(Cq or total:Int)(qs Cv:Sps),vs=[.ref r,.ref q,.ref p]∧DV H (.ref r) (bf ts)∧ts.length≤1000∧LadAt H q Cq or total qs∧(qs.map (·.1)).Nodup∧qs.length≤400∧0≤or∧or≤20∧PprAt H p Cv∧Cv.length≤20000∧∀H',Same H H'→Q (.bl (di or total ts qs Cv)) H'
theorem mN{p:Addr}{H0 H1 H2:Hp}(n:H0 p=none)(s:Same H0 H1)(g:Grw p H1 H2):Same H0 H2:=fun b u e=>(Z7 (g b u (by rw[Zh (Zi e n)];exact s b u e))).2
theorem mW(ps:Sps)(k:Int×Int)(m:Int):(a7 ps k m).length≤ps.length+2:=by
 have a:=W5 ps (ag k) (cnt ps (ag k)+m);have b:=W5 (ak ps (ag k) (cnt ps (ag k)+m)) k (cnt ps k-m);unfold a7
 split
 ·have:=Qx (ak (ak ps (ag k) (cnt ps (ag k)+m)) k (cnt ps k-m)) k;omega
 ·omega
theorem xi{ps:Sps}(nd:(ps.map (·.1)).Nodup):((af ps).map (·.1)).Nodup:=by
 rw[S3];exact AU.mpr (nd.imp fun h e=>h (Vo e))
theorem qA(bG:Has P w K mg base "parent_of" 1 ["stretch"] c5)(F:Fun K "fold_up" "fold_up" cE f fd):FnOk P w K mg base CX0 2 f fd ["counts","stretch","many"] kz:=by
 refine F.ok Rx (fun vs H Q E h=>?_) (fun cdv A outer s H vs Q E hr h=>?_)
 ·obtain⟨d,p,ps,k,m,rfl,_⟩:=h;rfl
 obtain⟨d,p,ps,k,m,rfl,e_d,Cy,hk,pl,hq⟩:=h;have lk:=Wl hk;obtain⟨c,hc⟩:∃c,c=cnt ps k:=⟨_,rfl⟩;rw[←hc]at lk;unfold a7 at hq;rw[←hc]at hq;refine⟨_,(Z2 (Zp 3 Rx.nd rfl (Or.inl rfl) (Z5 bG hr (Z0 (pv 1) Z1))) Zd),?_⟩;refine⟨_,rfl,p,k,rfl,Cy,fun q nq=>?_⟩;have g1:=lP (o:=.tup [.int (ag k).1,.int (ag k).2]) e_d nq;have s1:=Z6 nq (.tup [.int (ag k).1,.int (ag k).2]);have CF:KAt (upd H q (.tup [.int (ag k).1,.int (ag k).2])) q (ag k):=Z4;have e_d:=s1 _ _ e_d;have Cy:KAt _ p k:=s1 _ _ Cy;generalize upd H q (.tup [.int (ag k).1,.int (ag k).2])=H1 at g1 CF e_d Cy⊢;have tupd:∀{H:Hp}{b:Addr}{j:Int×Int}{kvs:List (List Key×V)}{o:HO},H d=some (.dT kvs)→KAt H b j→KAt (upd H d o) b j:=fun{H b j kvs o} e eb=>by
  show upd H d o b=_;rw[Zb (V6 eb e (by intro z;cases z))];exact eb
 refine⟨_,(Z2 (Wm (X0 hr) (pv 0) (pv 3) (Z9 Zm (Wf (X0 hr) (pv 0) (pv 3) Z3 ⟨rfl,rfl,rfl,rfl⟩) (pv 2)) rfl) Zd),?_⟩;obtain⟨n0,hn0,h0⟩:∃n,n=cnt ps (ag k)∧(ai ps (ag k)).getD (.int 0)=.int n:=⟨_,rfl,W0 _ _⟩;rw[←hn0]at hq;have l1:=W5 ps (ag k) (n0+m);refine⟨_,rfl,d,rfl,.inr ⟨_,.inl e_d⟩,_,rfl,_,X7 e_d CF,_,rfl,n0,m,h0,rfl,_,rfl,_,rfl,d,_,rfl,DPut.t (k:=kk (ag k)) e_d CF (Zq (by rw[Zs];omega)),?_⟩;have g2:Grw d H (upd H1 d (.dT (aJ (af ps) (kk (ag k)) (.int (n0+m))))):=g1.trans X2;have cr:=tupd (o:=.dT (aJ (af ps) (kk (ag k)) (.int (n0+m)))) e_d Cy;have aV:(upd H1 d (.dT (aJ (af ps) (kk (ag k)) (.int (n0+m))))) d=some (.dT (af (ak ps (ag k) (n0+m)))):=by rw[←Uz];exact Z4
 generalize upd H1 d (.dT (aJ (af ps) (kk (ag k)) (.int (n0+m))))=H2 at g2 cr aV⊢;refine⟨_,(Z2 (Wm (X0 hr) (pv 0) (pv 1) (Z9 X4 (Wo (X0 hr) (pv 0) (pv 1) (fun _ _=>rfl)) (pv 2)) rfl) Zd),?_⟩;have lk2:ai (ak ps (ag k) (n0+m)) k=some (.int c):=by rw[X5,yK (Vj k)];exact lk
 generalize ak ps (ag k) (n0+m)=qs at hq aV lk2 l1;have l2:=W5 qs k (c-m);refine⟨_,rfl,_,rfl,d,.int c,rfl,by rw[←lk2];exact X7 aV cr,_,rfl,_,_,rfl,rfl,_,rfl,_,rfl,d,_,rfl,DPut.t (k:=kk k) aV cr (Zq (by rw[Zs];omega)),?_⟩;have g3:Grw d H (upd H2 d (.dT (aJ (af qs) (kk k) (.int (c-m))))):=g2.trans X2;have iu:=tupd (o:=.dT (aJ (af qs) (kk k) (.int (c-m)))) aV cr;have bF:(upd H2 d (.dT (aJ (af qs) (kk k) (.int (c-m))))) d=some (.dT (af (ak qs k (c-m)))):=by rw[show af (ak qs k (c-m))=aJ (af qs) (kk k) (.int (c-m)) from(Uz _ _ _).symm];exact Z4
 generalize upd H2 d (.dT (aJ (af qs) (kk k) (.int (c-m))))=H3 at g3 iu bF⊢;refine⟨_,(Z8 (Yu (Zn Wh (Wo (X0 hr) (pv 0) (pv 1) (fun _ _=>rfl)) Z3 (Zk _)) (Z8 (W6 (fX Al PySem.F.slot_dict_pop PySem.F.type_dict_pop (kY hr.units) (pv 0) (Z0 (pv 1) Z1)))) Zu)),?_⟩;have lk3:ai (ak qs k (c-m)) k=some (.int (c-m)):=by rw[X5,yL rfl]
 generalize ak qs k (c-m)=rs at hq bF lk3 l2;refine⟨_,rfl,_,rfl,d,.int (c-m),rfl,by rw[←lk3];exact X7 bF iu,rfl,_,rfl,Xm (fun z=>?_) (fun z=>?_)⟩
 ·have z:c-m=0:=by simpa using z
  rw[yL z]at hq;refine⟨_,rfl,S2 bF,_,rfl,d,p,_,kk k,_,rfl,rfl,bF,iu,lk3,?_⟩;refine hq _ (g3.trans X2) ?_;rw[←kD];exact Z4
 ·have z:¬(c-m=0):=by simpa using z
  rw[yK z]at hq;exact hq _ g3 bF
theorem rA(aX:mg "dict"=none)(F:Fun K "added_counts" "added_counts" a_ f fd):FnOk P w K mg base CX0 1 f fd ["one","other"] iE:=by
 refine F.ok X6 (fun vs H Q E h=>?_) (fun cdv A outer s H vs Q E hr h=>?_)
 ·obtain⟨c1,c2,bs,ys,rfl,_⟩:=h;rfl
 obtain⟨c1,c2,bs,ys,rfl,e1,e2,p2,xl,hq⟩:=h;refine⟨_,(Z2 (Zp 2 X6.nd rfl (Or.inl rfl) (Y8 (U5 rfl hr.units) rfl aX BM (Z0 (pv 0) Z1))) Zd),?_⟩;have nd:((af []).map (·.1)).Nodup:=zO;refine⟨_,rfl,c1,_,af [],rfl,e1,iz (as:=[]) .nil,by rw[Zs];exact Aa _,fun d n_d=>?_⟩;rw[Qb nd];have sm:=Z6 n_d (.dT (af []));have ed:(upd H d (.dT (af []))) d=some (.dT (af [])):=Z4;generalize upd H d (.dT (af []))=H1 at sm ed⊢;have bl:=zd p2;refine⟨_,(Z2 (Yy zQ rfl (Yi (pv 1)) (W1 rfl (Zc (Za (i:=3) X6.nd rfl (Or.inl rfl)) (Zc (Za (i:=4) X6.nd rfl (Or.inl rfl)) Yb)))
 (Z8 (Wm (X0 hr) (pv 2) (pv 3) (Z9 Zm (Wf (X0 hr) (pv 2) (pv 3) Z3 ⟨rfl,rfl,rfl,rfl⟩) (pv 4)) rfl))) Zd),?_⟩
 refine⟨_,rfl,c2,rfl,⟨_,SqL.of (sm _ _ e2)⟩,?_⟩;refine X3 (xs:=bs.map V.ref) (fun i σ H'=>∃(o3 o4:Option V),σ=[some (.ref c1),some (.ref c2),some (.ref d),o3,o4]∧Same H H'∧H' d=some (.dT (af (az [] (ys.take i))))∧(az [] (ys.take i)).length≤i) ⟨_,_,rfl,sm,ed,yM _⟩ ?_ ?_ ?_
 ·rintro i σ H' _ ⟨_,_,_,g,_⟩;exact SqL.of (g _ _ e2)
 ·rintro i x σ H' N B1 R hN hR hx ⟨o3,o4,rfl,g,ed,al⟩;obtain⟨a,p,rfl,hp,b,CD,Cw⟩:=Sb p2 hx;have il:i<ys.length:=(yZ.mp hp).1;have CD:=g _ _ CD;have Cw:KAt H' b p.1:=g _ _ Cw;have st:az [] (ys.take (i+1))=ak (az [] (ys.take i)) p.1 (cnt (az [] (ys.take i)) p.1+p.2):=by rw[Zx hp,P3]
  rw[st]at hN;generalize az [] (ys.take i)=zs at ed al hN;have l1:=W5 zs p.1 (cnt zs p.1+p.2);refine⟨a,_,rfl,SqT.of CD,rfl,_,_,rfl,_,_,rfl,rfl,?_⟩;refine⟨_,rfl,d,rfl,.inr ⟨_,.inl ed⟩,_,rfl,_,X7 ed Cw,_,rfl,_,p.2,W0 _ _,rfl,_,rfl,_,rfl,d,_,rfl,DPut.t (k:=kk p.1) ed Cw (Zq (by rw[Zs];omega)),?_⟩;refine hN _ _ ⟨_,_,rfl,fun x w e=>?_,by rw[←Uz];exact Z4,by omega⟩;rw[Zb (Zi e n_d)];exact g _ _ e
 ·rintro σ H' ⟨o3,o4,rfl,g,ed,_⟩;rw[pi,bl,zG]at ed;exact⟨_,(Z8 (Zg (pv 2))),_,rfl,hq d _ n_d g ed⟩
theorem vJ(ba:mg "sum"=none)(F:Fun K "things_in" "things_in" bM f fd):FnOk P w K mg base CX0 1 f fd ["stream"] uw:=by
 refine F.ok Oz (fun vs H Q E h=>?_) (fun cdv A outer s H vs Q E hr h=>?_)
 ·obtain⟨r,ts,rfl,_⟩:=h;rfl
 obtain⟨r,ts,rfl,hd,tl,hq⟩:=h;refine⟨_,(Z8 (Zg (Zf (U3 rfl) rfl ba Bj (Z0 (Wp (own:=["day","mark","number","many"]) (Sw rfl rfl) (Yi (pv 0))
  (fun _ _ _ _ _=>(Ue K 4 rfl rfl (Zc (Za (i:=0) Yr rfl (Or.inl rfl) (Or.inr rfl)) (Zc (Za (i:=1) Yr rfl (Or.inl rfl) (Or.inr rfl)) (Zc (Za (i:=2) Yr rfl (Or.inl rfl) (Or.inr rfl)) (Zc (Za (i:=3) Yr rfl (Or.inl rfl) (Or.inr rfl)) Yb)))))) (fun _ _ _ _ _=>Vi)
  (fun _ _ _ _ _=>(pv 3))) Z1)))),?_⟩
 obtain⟨_,xs,e0,e_r,ds⟩:=DV.list_inv hd;cases e0;refine⟨_,rfl,r,rfl,⟨_,SqL.of e_r⟩,gU (fun _=>true) (fun t=>.int t.many) e_r ds (by omega) ?_ ?_⟩
 ·rintro t c ys C mt ec h1 _;exact⟨c,_,rfl,SqT.of ec,rfl,_,_,rfl,_,_,rfl,_,_,rfl,_,_,rfl,rfl,Wk.refl _,_,rfl,h1 rfl⟩
 intro q nq;refine⟨q,ts.map Th.many,rfl,SqL.of ?_,hq _ (Z6 nq _)⟩;rw[Z4,BB.mpr (fun _ _=>rfl),zf];rfl
theorem vM(a9:Has P w K mg base "added_counts" 1 ["one","other"] iE)(F:Fun K "standing_of" "standing_of" bi f fd):FnOk P w K mg base CX0 2 f fd ["stream"] p_:=by
 refine F.ok Rv (fun vs H Q E h=>?_) (fun cdv A outer s H vs Q E hr h=>?_)
 ·obtain⟨r,ts,rfl,_⟩:=h;rfl
 obtain⟨r,ts,rfl,hd,tl,hq⟩:=h;refine⟨_,(Z8 (Zg (Z5 a9 hr (Z0 (Y4 Z1) (Z0 (Wp (own:=["day","mark","number","many"]) (Sw rfl rfl) (Yi (pv 0))
  (fun _ _ _ _ _=>(Ue K 4 rfl rfl (Zc (Za (i:=0) Yj rfl (Or.inl rfl) (Or.inr rfl)) (Zc (Za (i:=1) Yj rfl (Or.inl rfl) (Or.inr rfl)) (Zc (Za (i:=2) Yj rfl (Or.inl rfl) (Or.inr rfl)) (Zc (Za (i:=3) Yj rfl (Or.inl rfl) (Or.inr rfl)) Yb)))))) (fun _ _ _ _ _=>Vi)
  (fun _ _ _ _ _=>(Y4 (Z0 (Y4 (Z0 Z3 (Z0 (pv 2) Z1))) (Z0 (pv 3) Z1))))) Z1))))),?_⟩
 obtain⟨_,xs,e0,e_r,ds⟩:=DV.list_inv hd;cases e0;have xl:=ds.length;rw[pi]at xl;refine⟨leN rfl,fun c n_c=>?_⟩;have s1:=Z6 n_c (.tup []);have CA:(upd H c (.tup [])) c=some (.tup []):=Z4;generalize upd H c (.tup [])=H1 at s1 CA⊢;have yn:=s1 _ _ e_r;refine⟨_,rfl,r,rfl,⟨_,SqL.of yn⟩,?_⟩;refine Xe (xs:=xs) (fun n ys H'=>∃bs:List Addr,Same H1 H'∧ys=bs.map V.ref∧Paired (FT H') bs ((cM ts).take n)) ⟨[],Same.refl _,rfl,.nil⟩ ?_ ?_ ?_
 ·rintro n ys H' _ ⟨_,g,_⟩;exact SqL.of (g _ _ yn)
 ·rintro n x ys H' C hx ⟨bs,g,rfl,pr⟩ hC;have nl:=(yZ.mp hx).1;obtain⟨t,c',ht,rfl,ec,mt⟩:=DVs.th_at ds hx;have ec:=g _ _ (s1 _ _ ec);have bl:=zd pr;rw[zu]at bl;refine⟨Zq (by rw[pi];omega),c',_,rfl,SqT.of ec,rfl,_,_,rfl,_,_,rfl,_,_,rfl,_,_,rfl,rfl,Wk.refl _,_,rfl,leN rfl,fun a na=>?_⟩;have g1:=Z6 na (.tup [.int 0,.int t.num]);have CD:KAt (upd H' a (.tup [.int 0,.int t.num])) a (0,t.num):=Z4;generalize upd H' a (.tup [.int 0,.int t.num])=H2 at g1 CD⊢;refine⟨_,rfl,leN rfl,fun b nb=>?_⟩;have g2:=Z6 nb (.tup [.ref a,.int t.many]);have Cw:(upd H2 b (.tup [.ref a,.int t.many])) b=some (.tup [.ref a,.int t.many]):=Z4;have CD:KAt _ a (0,t.num):=g2 _ _ CD;generalize upd H2 b (.tup [.ref a,.int t.many])=H3 at g2 CD Cw⊢;refine hC _ _ ⟨bs++[b],g.trans (g1.trans g2),by rw[zk];rfl,?_⟩;have h2:(cM ts)[n]?=some ((0,t.num),t.many):=by
   unfold cM;rw[zc,ht];rfl
  rw[Zx h2];exact Paired.snoc (Paired.mapP pr fun _ _ f=>Zv (g1.trans g2) f) ⟨a,Cw,CD⟩
 rintro ys H' ⟨bs,g,rfl,pr⟩;have sl:(cM ts).length=ts.length:=pi _;rw[xl,←sl,zG]at pr;have bl:=zd pr;refine⟨Ze (by rw[pi];omega),fun l nl=>?_⟩;have g2:=Z6 nl (.lst (bs.map V.ref));refine⟨c,l,bs,cM ts,rfl,g2 _ _ (g _ _ CA),Z4,Paired.mapP pr fun _ _ f=>Zv g2 f,by omega,fun d H3 nd g3 ed=>?_⟩;exact hq d _ (s1.free (g.free (g2.free nd))) (s1.trans (g.trans (g2.trans g3))) ed
theorem P6(ah:mg "isinstance"=none)(bT:mg "tuple"=none)(aC:mg "len"=none)(bg:Has P w K mg base "is_whole_within" 3 ["thing","least","most"] xy)(lj:Has P w K mg base "last_of" 2 ["stretch"] qE)(F:Fun K "is_stretch" "is_stretch" bB f fd):FnOk P w K mg base CX0 4 f fd ["thing","deep"] oe:=by
 refine F.ok Wu (fun vs H Q E h=>?_) (fun cdv A outer s H vs Q E hr h=>?_)
 ·obtain⟨p,n,or,rfl,_⟩:=h;rfl
 obtain⟨p,n,or,rfl,e,d0,d1,hq⟩:=h;refine⟨_,(Z2 (Yu (PW.pt (fi (N7 (T3 (Zf Um rfl ah As (Z0 (pv 0) (Z0 (Uf (v:=.ty "tuple") rfl bT PyProof.Rows.boot_tuple rfl) Z1))))) (N5 (Zn uA (Zf Zw rfl aC Az (Z0 (pv 0) Z1)) Z3 (Zk _))))) (Z8 (Zg Ur)) Zu)
 (Z2 (We (pv 0) (W1 rfl (Zc (Za (i:=2) Wu.nd rfl (Or.inl rfl)) (Zc (Za (i:=3) Wu.nd rfl (Or.inl rfl)) Yb))))
 (Z8 (Zg (T6 (Z5 bg hr (Z0 (pv 2) (Z0 Z3 (Z0 (pv 1) Z1)))) (S7 (Z5 bg hr (Z0 (pv 3) (Z0 Z3 (Z0 (Z5 lj hr (Z0 (Y4 (Z0 (Z9 X4 (pv 1) (pv 2)) (Z0 Z3 Z1))) Z1)) Z1)))))))))),?_⟩
 have kp:Kd H (.ref p) "tuple":=.tup e;refine⟨_,rfl,_,_,"tuple",_,rfl,kp.ty,kp.kit (by decide) rfl,_,rfl,Ww ?_⟩;refine⟨_,rfl,p,_,rfl,.inr (SqT.of e),rfl,_,rfl,Ww ?_⟩;refine⟨_,rfl,p,_,rfl,SqT.of e,rfl,_,_,rfl,_,_,rfl,rfl,?_⟩;refine⟨_,rfl,_,rfl,0,0,or,rfl,_,rfl,?_⟩;rw[yX (zJ 0),yX d0];refine Wv ⟨_,rfl,_,rfl,_,rfl,_,_,rfl,rfl,leN rfl,fun r nr=>⟨r,(or-0,0),rfl,Z4,by show 0≤or-0;omega,by show or-0≤20;omega,zJ _,by show(0:Int)≤_;decide,fun H' g=>⟨n,0,_,rfl,?_⟩⟩⟩;have e2:au (or-0,0)=2^or.toNat-1:=by
  unfold au;show(0+1)*(2:Int)^(or-0).toNat-1=_;rw[Cj,BL,Ae]
 rw[e2];exact hq _ ((Z6 nr _).trans g)
end K29
namespace L2
open PySem PySem.Spec PyProof.Rows
section
variable{P:Program}{w:World}{A:Around}{E:Value→Shared→Prop}{s:Shared}{a b:Addr}{xa xb:List TKv}{H:Hp}{ps qs:Sps}
theorem T7{α β:Type}{F:α→β→Prop}:∀{xs:List α}{ys:List β}{i:Nat}{x:α},Paired F xs ys→xs[i]?=some x→∃y,ys[i]?=some y∧F x y
 |_,_,_,_,.nil,e=>by simp at e
 |_,_,0,_,.cons a _,e=>by simp at e;subst e;exact⟨_,rfl,a⟩
 |_,_,i+1,x,.cons _ r,e=>by
  obtain⟨y,h1,h2⟩:=T7 (i:=i) r (by simpa using e);exact⟨y,by simpa using h1,h2⟩
theorem qz{α β:Type}{f:α→β}:∀{l:List α},(l.map f).Nodup→∀{a b:α},a∈l→b∈l→f a=f b→a=b
 |x::l,nd,a,b,ha,hb,e=>by
  rw[yQ,zt]at nd
  rcases y8.mp ha with ha | ha
  ·rcases y8.mp hb with hb | hb
   ·rw[ha,hb]
   ·exact absurd (yO.mpr ⟨b,hb,by rw[←e,ha]⟩) nd.1
  ·rcases y8.mp hb with hb | hb
   ·exact absurd (yO.mpr ⟨a,ha,by rw[e,hb]⟩) nd.1
   ·exact qz nd.2 ha hb e
theorem ut{ps:Sps}{xs:List TKv}(r:KT H (af ps) xs){j:Nat}{x:TKv}(h:xs[j]?=some x):∃p t,ps[j]?=some p∧x.1=kk p.1∧x.2.2=.int p.2 t:=by
 have kl:=zd r;rw[Zs]at kl;have hj:j<ps.length:=by rw[kl];exact(yZ.mp h).1
 obtain⟨p,hp⟩:∃p,ps[j]?=some p:=⟨ps[j],zF hj⟩;have e2:(af ps)[j]?=some (kk p.1,.int p.2):=by unfold af;rw[zc,hp];rfl
 obtain⟨y,hy,f⟩:=T7 r e2;rw[h]at hy;cases hy;obtain⟨f1,_,t,f3⟩:=f;exact⟨p,t,hp,f1.symm,f3⟩
theorem qc{nm:String}{Q:Bool→Shared→Prop}(hu:A.units<cLine)(ha:(a==sysModules)=false)(hb:(b==sysModules)=false)(da:s.heap.DictOfH (tupleKind (aa P w)) a xa)(db:s.heap.DictOfH (tupleKind (aa P w)) b xb)(ra:KT H (af ps) xa)(rb:KT H (af qs) xb)(h:Q (decide (ps.length=qs.length) && ps.all fun p=>decide (p∈qs)) s):
  wpAny (model P w) A (Builtin.Dict.samePairs nm a b) Q E s:=by
 obtain⟨oa,ea,pa,ga,xca,qa,ta,ka,na⟩:=da;obtain⟨ob,eb,pb,gb,xcb,qb,tb,kb,nb⟩:=db;have la:ea.size=ps.length:=by rw[←yU,ta,pi,←zd ra,Zs]
 have lb:eb.size=qs.length:=by rw[←yU,tb,pi,←zd rb,Zs]
 have sh:∀{d:Addr}{R:Unit→Shared→Prop},(d==sysModules)=false→R () s→wpAny (model P w) A (Builtin.Dict.showsAll d) R E s:=fun{d R} hd hr=>by
  unfold Builtin.Dict.showsAll;rw[yK (by rw[hd];decide)];exact yI hr
 unfold Builtin.Dict.samePairs;refine io (sh ha (io (sh hb (io (zE ga qa (io (zE gb qb ?_)))))));by_cases hl:ps.length=qs.length
 ·rw[if_neg (by rw[la,lb,hl];simp)];refine io (Bo ga qa (io ?_));rw[A9];refine Af (wpAny_forIn_list _ (fun rest r s'=>∃i,rest=List.range' i (ea.size-i)∧i≤ea.size∧r=(none,())∧s=s'∧∀p∈ps.take i,p∈qs)
   (fun r s'=>s=s'∧((r=(none,())∧(ps.all fun p=>decide (p∈qs))=true)∨(r=(some false,())∧(ps.all fun p=>decide (p∈qs))=false))) ?_ ?_ _ _ ⟨0,?_,Aa _,rfl,rfl,?_⟩) ?_ (fun _ _ z=>z)
  ·rintro x rest r s' ⟨i,he,hi,rfl,rfl,hp⟩;have hin:i<ea.size:=by
    rcases z9 i ea.size with z | z
    ·exact z
    ·rw[Nat.sub_eq_zero_of_le z]at he;cases he
   rw[show ea.size-i=(ea.size-(i+1))+1 by omega,List.range'_succ]at he;obtain⟨rfl,rfl⟩:=List.cons.inj he.symm;have hge:ea[i]?=some ea[i]:=yN hin;have hx:(xa.map (entryOfKey (tupleKind (aa P w))))[i]?=some ea[i]:=by rw[←ta,yS];exact hge
   rw[zc]at hx;obtain⟨x,hxi,hxe⟩:=zV.mp hx;obtain⟨p,t,hpi,e1,e2⟩:=ut ra hxi;have tk:ps.take (i+1)=ps.take i++[p]:=Zx hpi;have fF:p∉qs→(ps.all fun p=>decide (p∈qs))=false:=fun hs=>List.all_eq_false.mpr ⟨p,zB hpi,by rw[zA hs];decide⟩;have fT:p∈qs→∀q∈ps.take (i+1),q∈qs:=fun hs q hq=>by
    rw[tk]at hq
    rcases ze.mp hq with z | z
    ·exact hp q z
    ·rw[yP.mp z];exact hs
   have kx:ea[i].key=.ref x.2.1:=by rw[←hxe];rfl
   have hv:ea[i].val=.int p.2 t:=by rw[←hxe];exact e2
   have hh:ea[i].hash=(tupleKind (aa P w)).hash x.1:=by rw[←hxe];rfl
   refine io (zE ga qa ?_);rw[hge];refine io (zK (io ?_));rw[kx,hh];refine wpAny_dictFind_heap (show A.units<cLine from hu) (ka x (zB hxi)) gb qb tb kb nb (fun no=>?_) (fun j q hj=>?_)
   ·refine yI ?_;rw[yL (by decide)];refine yI ⟨rfl,.inr ⟨rfl,fF fun hm=>?_⟩⟩;obtain⟨j,hj⟩:=Ay hm;have e3:(af qs)[j]?=some (kk p.1,.int p.2):=by unfold af;rw[zc,hj];rfl
    obtain⟨y,hy,f⟩:=T7 rb e3;refine no j y.2 ?_;rw[hy,e1];exact Ak some (Ad f.1.symm rfl)
   ·obtain⟨p2,t2,hp2,e3,e4⟩:=ut rb hj;have e3:x.1=kk p2.1:=e3;have ke:p.1=p2.1:=Vo (e1.symm.trans e3);have hbj:eb[j]?=some (entryOfKey (tupleKind (aa P w)) (x.1,q)):=by
     rw[←yS,tb,zc,hj];rfl
    refine io (zE gb qb ?_);rw[hbj];refine zK ?_;rw[hv,show(entryOfKey (tupleKind (aa P w)) (x.1,q)).val=.int p2.2 t2 from e4];refine wpAny_eqBool_int ?_;by_cases z:p.2=p2.2
    ·rw[if_neg (by simp[z])];refine io (Bo ga qa ?_);rw[if_neg (by simp)];refine yI ⟨i+1,rfl,by omega,rfl,rfl,fT ?_⟩;rw[show p=p2 from Ad ke z];exact zB hp2
    ·rw[if_pos (by simp[z])];refine yI ⟨rfl,.inr ⟨rfl,fF fun hm=>z ?_⟩⟩;have nq:(qs.map (·.1)).Nodup:=by
      have:(xb.map (·.1))=(af qs).map (·.1):=jW rb;rw[this,S3]at nb;exact(AU.mp nb).imp fun h e=>h (by rw[e])
     have:=qz nq hm (zB hp2) ke;rw[this]
  ·rintro r s' ⟨i,he,hi,rfl,rfl,hp⟩;refine⟨rfl,.inl ⟨rfl,?_⟩⟩;have hz:ea.size-i=0:=by
    cases hq:ea.size-i with
    |zero=>rfl
    |succ q=>rw[hq,List.range'_succ]at he;cases he
   rw[Ac (by omega)]at hp;exact z4.mpr fun p hm=>yX (hp p hm)
  ·simp
  ·intro p hp;simp at hp
  ·rintro r s' ⟨rfl,⟨rfl,hv⟩|⟨rfl,hv⟩⟩
   ·rw[hv,yX hl]at h;exact yI h
   ·rw[hv,Bool.and_false]at h;exact yI h
 ·rw[if_pos (by rw[la,lb];simpa using hl)];rw[zA hl,BC]at h;exact io (AM (yI h))
end
section
variable{P:Program}{w:World}{A:Around}{E:Value→Shared→Prop}{s:Shared}{a b:Addr}{xa xb:List TKv}{ps qs:Sps}
theorem Qd(H:Hp)(ha:(a==sysModules)=false)(hb:(b==sysModules)=false):MeetsIn P w (Builtin.«dict.__eq__» ⟨[.ref a,.ref b],[]⟩) (fun A R s=>A.in1.units<cLine∧s.heap.DictOfH (tupleKind (aa P w)) a xa∧s.heap.DictOfH (tupleKind (aa P w)) b xb∧
  KT H (af ps) xa∧KT H (af qs) xb∧R (.ok (.ret (.bool (decide (ps.length=qs.length) && ps.all fun p=>decide (p∈qs))))) s):=
 .of_wp fun A R s ⟨hu,da,db,ra,rb,h⟩=>by
  show wpAny _ _ (Builtin.Dict.dictSlotArgs "__eq__" ⟨[.ref a,.ref b],[]⟩ >>= _) _ _ s;refine io ?_;unfold Builtin.Dict.dictSlotArgs;refine io (Av da.typeIs ?_);show wpAny _ _ (pure (Value.ref a,Value.ref b)) _ _ s;refine yI ?_;refine io (BF db.typeIs isSubtype_dict_dict ?_);rw[yK (by decide)];show wpAny _ _ (Builtin.Dict.samePairs _ a b >>= _) _ _ s;refine io (qc (show A.in1.units<cLine from hu) ha hb da db ra rb ?_);have bt:∀c:Bool,(c==true)=c:=fun c=>by cases c <;> rfl
  rw[bt];exact yI ⟨_,rfl,h⟩
def yq:R2:=fun x y H Q=>∃a b ps qs,x=.ref a∧y=.ref b∧H a=some (.dT (af ps))∧H b=some (.dT (af qs))∧Q (.bl (decide (ps.length=qs.length) && ps.all fun p=>decide (p∈qs))) H
theorem rq{X:Cx}(hu:X.A.units+64<cLine):OpR X (compareOp .Eq) yq:=by
 intro Cr s σ H x y v u Q I rx ry h;obtain⟨a,b,ps,qs,rfl,rfl,ea,eb,q⟩:=h;cases rx;cases ry;obtain⟨za,ha,va,ra,da⟩:=O4 I.hok ea;obtain⟨zb,hb,vb,rb,db⟩:=O4 I.hok eb;refine wpAny_richCompare_same_room (op:=.Eq) da.typeIs db.typeIs PySem.F.slot_dict_eq (B4 PySem.F.slot_dict_eq da.typeIs PySem.F.entry_dict_eq (PySem.F.args_dict_eq_2 _ _) (Qd H ha hb) ⟨?_,da,db,ra,rb,?_⟩) (by omega)
 ·exact(show X.A.units+1<cLine by omega)
 ·exact⟨(fun z=>nomatch z),.bl _,H,I,rfl,q⟩
end
end L2
namespace K29
open PySem L2 Ld
theorem Uo:∀{ys xs:Sps}{k:Int×Int},k∈(az xs ys).map (·.1)→k∈xs.map (·.1)∨k∈ys.map (·.1)
 | [],_,_,h=>.inl h
 |p::ys,xs,k,h=>by
  rw[Vd]at h
  rcases Uo h with h | h
  ·rw[Xy]at h
   split at h
   ·exact .inl h
   ·rcases ze.mp h with h | h
    ·exact .inl h
    ·rw[yP.mp h];exact .inr (.head _)
  ·exact .inr (.tail _ h)
theorem gN{ts:List Th}{e:(Int×Int)×Int}(h:e∈aE ts):∃n,e.1=(0,n):=by
 rcases Uo (yO.mpr ⟨e,h,rfl⟩)with h | h
 ·exact absurd h zC
 ·unfold cM at h;rw[zf]at h;obtain⟨t,_,e⟩:=yO.mp h;exact⟨t.num,e.symm⟩
theorem Ov(ts:List Th):(aE ts).length≤ts.length:=by
 have:=Up (cM ts) [];rw[Ai,A5,show(cM ts).length=ts.length from pi _]at this;exact this
theorem nI{α:Type}{l:List α}{i:Nat}{x:α}(h:l[i]?=some x):l.drop i=x::l.drop (i+1):=by
 obtain⟨hi,e⟩:=yZ.mp h;rw[List.drop_eq_getElem_cons hi,e]
theorem Sf{ps:Sps}{k:Int×Int}(h:1≤cnt ps k):k∈ps.map (·.1):=Classical.byContradiction fun n=>by
 rw[Zz n]at h;omega
section
variable{P:Program}{w:World}{K:W.Frag}{mg:Str→Option Value}{base:Heap}{f:Addr}{fd:FuncData}
theorem mo(oS:mg "all"=none)(aX:mg "dict"=none)(bj:Has P w K mg base "standing_of" 2 ["stream"] p_)(gn:Has P w K mg base "things_in" 1 ["stream"] uw)(ei:Has P w K mg base "is_stretch" 4 ["thing","deep"] oe)(mB:Has P w K mg base "fold_up" 2 ["counts","stretch","many"] kz)(F:Fun K "is_folded" "is_folded" bO f fd):FnOk P w K mg base CX0 5 f fd ["stream","ladder","paper"] fG:=by
 refine F.ok Yh (fun vs H Q E h=>?_) (fun cdv A outer s H vs Q E hr h=>?_)
 ·obtain⟨r,q,p,ts,Cq,or,total,qs,Cv,rfl,_⟩:=h;rfl
 obtain⟨r,q,p,ts,Cq,or,total,qs,Cv,rfl,k_r,tl,lad,nq,ql,d0,d1,⟨bs,Cy,pb⟩,pl,hq⟩:=h;obtain⟨c,as,CF,CA,pr⟩:=lad.at_;have sl:=Ov ts;have hF:aR ts≠total∨((aE ts).all fun e=>inB or e.1)=false→di or total ts qs Cv=false:=fun h=>by
  unfold di
  rcases h with h | h
  ·rw[zA h,BC,BC]
  ·rw[h,Bool.and_false,BC]
 have hT:aR ts=total→((aE ts).all fun e=>inB or e.1)=true→di or total ts qs Cv=cR or qs (aE ts) Cv:=fun h1 h2=>by
  unfold di;rw[yX h1,h2,Bool.true_and,Bool.true_and]
 generalize di or total ts qs Cv=B at hq hF hT;refine⟨_,(Z2 (We (pv 1) (W1 rfl (Zc (Za (i:=3) Yh.nd rfl (Or.inl rfl)) (Zc (Za (i:=4) Yh.nd rfl (Or.inr rfl)) (Zc (Za (i:=5) Yh.nd rfl (Or.inl rfl)) (Zc (Za (i:=6) Yh.nd rfl (Or.inl rfl)) Yb)))))) Zd),?_⟩;refine⟨_,rfl,q,_,rfl,SqT.of CF,rfl,_,_,rfl,_,_,rfl,_,_,rfl,_,_,rfl,rfl,?_⟩;refine⟨_,(Z2 (Zp 7 Yh.nd rfl (Or.inl rfl) (Z5 bj hr (Z0 (pv 0) Z1))) Zd),?_⟩;refine⟨_,rfl,r,ts,rfl,k_r,tl,fun d H1 n_d g1 e_d=>?_⟩;refine⟨_,(Z2 (Yu (PW.pt (fi (Zn uA (Z5 gn hr (Z0 (pv 0) Z1)) (pv 6) (Zk _)) (N5 (N7 (T3 (Zf (pR rfl) rfl oS PyProof.Rows.boot_all (Z0 (jC (Wp (own:=["one"]) (Sw rfl rfl) (Q0 (pv 7))
  (fun _ _ _ _ _=>(Za (i:=0) T9 rfl (Or.inl rfl) (Or.inr rfl))) (fun _ _ _ _ _=>Vi)
  (fun _ _ _ _ _=>(Z5 ei hr (Z0 (pv 0) (Z0 (pv 5) Z1)))))) Z1))))))) (Z8 (Zg Ur)) Zu) Zd),?_⟩
 refine⟨_,rfl,r,ts,rfl,k_r.mono g1,tl,fun H2 g2=>⟨_,rfl,rfl,_,rfl,Xm (fun c1=>Wv ?_) (fun c1=>?_)⟩⟩
 ·have c1:aR ts≠total:=by simpa using c1
  rw[hF (.inl c1)]at hq;exact hq _ (g1.trans g2)
 have c1:aR ts=total:=by simpa using c1
 have hF2:=fun h=>hF (.inr h);have hT:=hT c1;clear hF;have e_d:=g2 _ _ e_d;have gg:=g1.trans g2;clear g1 g2;have nS:∀e∈aE ts,∃n,e.1=(0,n):=fun e h=>gN h;generalize aE ts=S at e_d sl hF2 hT nS;refine⟨d,_,e_d,fun o=>⟨_,rfl,d,o,_,rfl,Z4,?_⟩⟩;refine Qz (fun i ys H'=>Same (upd H2 d (.frz o (.dT (af S)))) H'∧ys=((S.take i).map fun e=>inB or e.1).map V.bl) ⟨Same.refl _,rfl⟩ ?_ ?_ ?_ ?_
 ·rintro i ys H' ⟨g5,_⟩;exact g5 _ _ Z4
 ·rintro i p0 b ys H5 C hp0 Cw ⟨g5,rfl⟩ hC;obtain⟨e,he,rfl⟩:=g_ hp0;have em:=zB he;obtain⟨n,hn⟩:=nS e em;have Cw:KAt H5 b e.1:=Cw;rw[hn]at Cw;refine⟨Zq (by rw[pi,pi,zu];omega),Wk.refl _,_,rfl,_,rfl,b,n,or,rfl,Cw,d0,d1,fun H6 g6=>hC _ _ ⟨g5.trans g6,?_⟩⟩;rw[Zx he,zk,zk];show _=_++[V.bl (inB or e.1)];rw[hn]
 ·rintro i ys H' ⟨_,rfl⟩;exact Zq (by rw[pi,pi,zu];omega)
 rintro ys H5 ⟨g5,rfl⟩;rw[Zs,zG];refine⟨Ze (by rw[pi,pi];omega),fun l n_l=>?_⟩;have ld:l≠d:=fun z=>by rw[z,g5 _ _ Z4]at n_l;cases n_l
 have g6:=g5.trans (Z6 n_l (.lst ((S.map fun e=>inB or e.1).map V.bl)));have sz:=S4 e_d g6;have gg:=gg.trans sz;have bF:=sz _ _ e_d;refine⟨g6 _ _ Z4,l,_,rfl,SqL.of (by rw[Zb ld];exact Z4),?_⟩;rw[List.all_map];generalize upd (upd H5 l (.lst ((S.map fun e=>inB or e.1).map V.bl))) d (.dT (af S))=H6 at gg bF⊢;clear sz g6 g5 e_d;refine⟨_,rfl,Xm (fun c2=>?_) (fun c2=>?_)⟩
 ·have c2:(S.all fun e=>inB or e.1)=false:=by simpa using c2
  rw[hF2 c2]at hq;exact hq _ gg
 have c2:(S.all fun e=>inB or e.1)=true:=by simpa using c2
 rw[hT c2]at hq;clear hT hF2 c1 c2 nS;refine⟨_,(Z2 (Yy zQ rfl (Yi (pv 2)) (W1 rfl (Zc (Za (i:=8) Yh.nd rfl (Or.inl rfl)) (Zc (Za (i:=9) Yh.nd rfl (Or.inl rfl)) Yb)))
 (Z2 (Yu (PW.pt (fi (Zn ur (pv 9) Z3 (Zk _)) (fi (Zn kI (Yp Ys (pv 8) Z3) (pv 4) (Zk _)) (N5 (Zn To (pv 9) (Wf (X0 hr) (pv 7) (pv 8) Z3 ⟨rfl,rfl,rfl,rfl⟩) (Zk _)))))) (Z8 (Zg Ur)) Zu)
 (Z8 (W6 (Z5 mB hr (Z0 (pv 7) (Z0 (pv 8) (Z0 (pv 9) Z1)))))))) Zd),?_⟩
 refine⟨_,rfl,p,rfl,⟨_,SqL.of (gg _ _ Cy)⟩,?_⟩;have bl:=zd pb;refine X3 (xs:=bs.map V.ref) (fun i σ H'=>∃(o8 o9:Option V)(ps:Sps),σ=[some (.ref r),some (.ref q),some (.ref p),some (.int Cq),some (.int or),some (.ref c),some (.int total),some (.ref d),o8,o9]∧Same H H'∧H' d=some (.dT (af ps))∧ps.length≤1000+2*i∧cR or qs ps (Cv.drop i)=cR or qs S Cv) ⟨_,_,S,rfl,gg,bF,by omega,rfl⟩ ?_ ?_ ?_
 ·rintro i σ H' _ ⟨_,_,_,_,g,_⟩;exact SqL.of (g _ _ Cy)
 ·rintro i x σ H' N B1 R hN hR hx ⟨o8,o9,ps,rfl,g,ed,al,key⟩;obtain⟨a,⟨k,m⟩,rfl,hp,b,CD,Cw⟩:=Sb pb hx;have il:i<Cv.length:=(yZ.mp hp).1;have CD:=g _ _ CD;have Cw:KAt H' b k:=g _ _ Cw;rw[nI hp]at key;have key:(if m<1∨or≤k.1∨cnt ps k<m then false else cR or qs (a7 ps k m) (Cv.drop (i+1)))=cR or qs S Cv:=key;refine⟨a,_,rfl,SqT.of CD,rfl,_,_,rfl,_,_,rfl,rfl,?_⟩;refine⟨_,rfl,_,_,rfl,rfl,_,rfl,Xm (fun c1=>Wv ?_) (fun c1=>?_)⟩
  ·rw[yL (.inl (yW c1))]at key;rw[←key]at hq;exact hR _ _ (hq _ g)
  have c1:¬m<1:=z6 (z5.mpr c1);refine⟨_,rfl,b,_,0,_,rfl,rfl,SqT.of Cw,rfl,_,rfl,_,_,rfl,rfl,_,rfl,Xm (fun c2=>Wv ?_) (fun c2=>?_)⟩
  ·rw[yL (.inr (.inl (yW c2)))]at key;rw[←key]at hq;exact hR _ _ (hq _ g)
  have c2:¬or≤k.1:=z6 (z5.mpr c2);refine⟨_,rfl,_,rfl,d,rfl,.inr ⟨_,.inl ed⟩,_,rfl,_,X7 ed Cw,_,_,rfl,W0 _ _,_,rfl,Xm (fun c3=>?_) (fun c3=>?_)⟩
  ·rw[yL (.inr (.inr (yW c3)))]at key;rw[←key]at hq;exact hR _ _ (hq _ g)
  have c3:¬cnt ps k<m:=z6 (z5.mpr c3);rw[yK fun h=>h.elim c1 fun h=>h.elim c2 c3]at key;have l1:=mW ps k m;refine⟨_,rfl,_,rfl,_,rfl,d,b,ps,k,m,rfl,ed,Cw,Sf (by omega),by omega,fun H3 g3 e3=>?_⟩;exact hN _ _ ⟨_,_,_,rfl,mN n_d g g3,e3,by omega,key⟩
 ·rintro σ H' ⟨o8,o9,ps,rfl,g,ed,al,key⟩;rw[pi,bl,List.drop_length]at key;have key:eqB ps qs=cR or qs S Cv:=key;rw[←key]at hq;refine⟨_,(Z8 (Zg (Xu (rq hr.units) (pv 7) (Y8 (U5 rfl hr.units) rfl aX BM (Z0 (pv 5) Z1)) (Zk _)))),?_⟩;refine⟨_,rfl,_,rfl,c,_,_,rfl,g _ _ CA,iz (Paired.mapP pr fun _ _ f=>Zv g f),by rw[Zs];omega,fun z nz=>?_⟩;rw[Qb (xi nq)];have g4:=Z6 nz (.dT (af qs));exact⟨d,z,ps,qs,rfl,rfl,g4 _ _ ed,Z4,hq _ (g.trans g4)⟩
end
theorem Xv{ps:Sps}{k:Int×Int}{n:Int}{p:(Int×Int)×Int}(h:p∈ak ps k n):p=(k,n)∨(p∈ps∧p.1≠k):=by
 unfold ak at h
 split at h
 ·obtain⟨q,hq,rfl⟩:=yO.mp h
  split
  ·rename_i e;exact .inl (by rw[e])
  ·rename_i e;exact .inr ⟨hq,e⟩
 ·rename_i na
  rcases ze.mp h with h | h
  ·exact .inr ⟨h,fun e=>na (Rf.mpr (yO.mpr ⟨p,h,e⟩))⟩
  ·exact .inl (yP.mp h)
theorem dY{ps:Sps}(nn:∀p∈ps,0≤p.2)(nd:(ps.map (·.1)).Nodup)(k:Int×Int):0≤cnt ps k:=by
 by_cases hk:k∈ps.map (·.1)
 ·obtain⟨p,hp,rfl⟩:=yO.mp hk;rw[Yd nd hp];exact nn p hp
 ·rw[Zz hk];exact zJ _
def mv(f:Int×Int→Int)(k:Int×Int)(m:Int):Int×Int→Int:=fun x=>if x=k then f k-m else if x=ag k then f x+m else f x
theorem lE(ps:Sps)(k:Int×Int)(m:Int)(x:Int×Int):cnt (a7 ps k m) x=mv (cnt ps) k m x:=by
 unfold a7 mv
 split
 ·rename_i z;rw[gj];by_cases e:x=k
  ·rw[yL e,yL e,z]
  ·rw[yK e,yK e,Ym,yK e,Ym];by_cases q:x=ag k
   ·rw[yL q,yL q,q]
   ·rw[yK q,yK q]
 ·rw[Ym];by_cases e:x=k
  ·rw[yL e,yL e]
  ·rw[yK e,yK e,Ym];by_cases q:x=ag k
   ·rw[yL q,yL q,q]
   ·rw[yK q,yK q]
def c6(ls:Sps)(k:Int×Int)(m:Int):Sps:=ak (ak ls k (cnt ls k-m)) (ag k) (cnt (ak ls k (cnt ls k-m)) (ag k)+m)
theorem O9(ls:Sps)(k:Int×Int)(m:Int)(x:Int×Int):cnt (c6 ls k m) x=mv (cnt ls) k m x:=by
 unfold c6 mv;rw[Ym,Ym,Ym,yK (Ne.symm (Vj k))];by_cases e:x=k
 ·rw[yL e,yK (by rw[e];exact Vj k),yL e]
 ·by_cases q:x=ag k
  ·rw[yL q,yK e,yL q,q]
  ·rw[yK q,yK e,yK e,yK q]
def mL(or:Int)(qs:Sps):Sps→Sps→Bool
 |ls,[]=>eqB qs (ls.filter fun p=>decide (0<p.2))
 |ls,(k,m)::r=>if m<1∨¬(0≤k.1∧k.1<or)∨cnt ls k<m then false else mL or qs (c6 ls k m) r
structure Tab(ls:Sps):Prop where
 nd:(ls.map (·.1)).Nodup
 nn:∀p∈ls,0≤p.2
 ht:∀p∈ls,0≤p.1.1
structure Pos(ps:Sps):Prop where
 nd:(ps.map (·.1)).Nodup
 pos:∀p∈ps,0<p.2
theorem gE{ls:Sps}{k:Int×Int}{m:Int}(t:Tab ls)(m1:1≤m)(k0:0≤k.1)(c:m≤cnt ls k):Tab (c6 ls k m):=by
 have a:=dY t.nn t.nd;unfold c6;rw[Ym,yK (Ne.symm (Vj k))];refine⟨Y9 (Y9 t.nd),fun p hp=>?_,fun p hp=>?_⟩
 ·rcases Xv hp with rfl | ⟨hp,_⟩
  ·have:=a (ag k);show 0≤cnt ls (ag k)+m;omega
  ·rcases Xv hp with rfl | ⟨hp,_⟩
   ·show 0≤cnt ls k-m;omega
   ·exact t.nn p hp
 ·rcases Xv hp with rfl | ⟨hp,_⟩
  ·show 0≤k.1+1;omega
  ·rcases Xv hp with rfl | ⟨hp,_⟩
   ·exact k0
   ·exact t.ht p hp
theorem eC{ps:Sps}{k:Int×Int}{m:Int}(t:Pos ps)(m1:1≤m)(c:m≤cnt ps k):Pos (a7 ps k m):=by
 have a:=dY (fun p hp=>Bd (t.pos p hp)) t.nd;have core:∀p∈ak (ak ps (ag k) (cnt ps (ag k)+m)) k (cnt ps k-m),p.1≠k→0<p.2:=fun p hp n=>by
  rcases Xv hp with rfl | ⟨hp,_⟩
  ·exact absurd rfl n
  ·rcases Xv hp with rfl | ⟨hp,_⟩
   ·have:=a (ag k);show 0<cnt ps (ag k)+m;omega
   ·exact t.pos p hp
 unfold a7
 split
 ·refine⟨Vr (Y9 (Y9 t.nd)),fun p hp=>?_⟩;obtain⟨h1,h2⟩:=zn.mp hp;exact core p h1 (yW h2)
 ·rename_i z;refine⟨Y9 (Y9 t.nd),fun p hp=>?_⟩;by_cases e:p.1=k
  ·rcases Xv hp with rfl | ⟨_,n⟩
   ·show 0<cnt ps k-m;omega
   ·exact absurd e n
  ·exact core p hp e
theorem Rp{α:Type}[DecidableEq α]:∀{l m:List α},l.Nodup→(∀a∈l,a∈m)→m.length≤l.length→∀a∈m,a∈l
 | [],m,_,_,h,a,ha=>by
  rw[Ai]at h;rw[List.length_eq_zero_iff.mp (Nat.le_zero.mp h)]at ha;exact ha
 |x::l,m,nd,s,h,a,ha=>by
  rw[zt]at nd;have hx:=s x (.head _);have le:=List.length_erase_of_mem hx;have lp:=List.length_pos_of_mem hx;rw[zw]at h;by_cases e:a=x
  ·rw[e];exact .head _
  ·refine .tail _ (Rp (m:=m.erase x) nd.2 (fun y hy=>?_) (by omega) a ((List.mem_erase_of_ne e).mpr ha));exact(List.mem_erase_of_ne fun(z:y=x)=>nd.1 (by rw[←z];exact hy)).mpr (s y (.tail _ hy))
theorem V9{ps qs:Sps}(np:ps.Nodup)(nq:qs.Nodup):eqB ps qs=true↔ps.Perm qs:=by
 unfold eqB;rw[zW];refine⟨fun⟨h1,h2⟩=>?_,fun h=>⟨yX h.length_eq,z4.mpr fun p hp=>yX (h.mem_iff.mp hp)⟩⟩;have h1:=yW h1;have s:∀a∈ps,a∈qs:=fun a ha=>yW (z4.mp h2 a ha);exact R5 np nq fun a=>⟨s a,Rp np s (by omega) a⟩
theorem Pm{ps ls:Sps}(t:Pos ps)(u:Tab ls)(e:∀k,cnt ps k=cnt ls k):ps.Perm (ls.filter fun p=>decide (0<p.2)):=by
 refine R5 (V7 t.nd) ((V7 u.nd).filter _) fun p=>⟨fun hp=>?_,fun hp=>?_⟩
 ·have h1:=Yd t.nd hp;have h2:=t.pos p hp;rw[e]at h1;have hk:p.1∈ls.map (·.1):=Sf (by omega);obtain⟨q,hq,eq⟩:=yO.mp hk;have h3:=Yd u.nd hq;have:q=p:=Ad eq (by rw[←h3,←h1,eq]);rw[←this];refine zn.mpr ⟨hq,yX ?_⟩;rw[this];exact h2
 ·obtain⟨hq,h2⟩:=zn.mp hp;have h2:=yW h2;have h1:=Yd u.nd hq;rw[←e]at h1;have hk:p.1∈ps.map (·.1):=Sf (by omega);obtain⟨q,hq,eq⟩:=yO.mp hk;have h3:=Yd t.nd hq;have:q=p:=Ad eq (by rw[←h3,←h1,eq]);rw[←this];exact hq
theorem iW{or:Int}{qs:Sps}(nq:(qs.map (·.1)).Nodup):∀(r:Sps){ps ls:Sps},Pos ps→Tab ls→(∀k,cnt ps k=cnt ls k)→cR or qs ps r=mL or qs ls r
 | [],ps,ls,t,u,e=>by
  have w:=Pm t u e;have n1:=V7 t.nd;have n2:=V7 nq;have n3:=(V7 u.nd).filter (fun p=>decide (0<p.2));show eqB ps qs=eqB qs _;refine Ab.mpr ⟨fun h=>?_,fun h=>?_⟩
  ·exact(V9 n2 n3).mpr (((V9 n1 n2).mp h).symm.trans w)
  ·exact(V9 n1 n2).mpr (w.trans ((V9 n2 n3).mp h).symm)
 | (k,m)::r,ps,ls,t,u,e=>by
  show(if m<1∨or≤k.1∨cnt ps k<m then false else cR or qs (a7 ps k m) r)=(if m<1∨¬(0≤k.1∧k.1<or)∨cnt ls k<m then false else mL or qs (c6 ls k m) r);have ek:=e k;by_cases h1:m<1
  ·rw[yL (.inl h1),yL (.inl h1)]
  ·by_cases h2:cnt ps k<m
   ·rw[yL (.inr (.inr h2)),yL (.inr (.inr (by omega)))]
   ·have hk:k∈ls.map (·.1):=Sf (by omega);obtain⟨q,hq,eq⟩:=yO.mp hk;have h0:=u.ht q hq;rw[eq]at h0;by_cases h3:or≤k.1
    ·rw[yL (.inr (.inl h3)),yL (.inr (.inl fun z=>by omega))]
    ·rw[yK fun h=>h.elim h1 fun h=>h.elim h3 h2,yK fun h=>h.elim h1 fun h=>h.elim (fun z=>z ⟨h0,by omega⟩) fun z=>by omega];refine iW nq r (eC t (by omega) (by omega)) (gE u (by omega) h0 (by omega)) fun x=>?_;rw[lE,O9];unfold mv;rw[e k,e x]
theorem R8:∀{ys xs:Sps}{k:Int×Int},k∈xs.map (·.1)∨k∈ys.map (·.1)→k∈(az xs ys).map (·.1)
 | [],_,_,h=>h.elim id fun h=>nomatch h
 |p::ys,xs,k,h=>by
  rw[Vd];have kp:k∈xs.map (·.1)∨k=p.1→k∈(ak xs p.1 (cnt xs p.1+p.2)).map (·.1):=fun h=>by
   rw[Xy]
   split
   ·rename_i z
    rcases h with h | h
    ·exact h
    ·rw[h];exact z
   ·rcases h with h | h
    ·exact zI _ h
    ·rw[h];exact y3 _ (.head _)
  rcases h with h | h
  ·exact R8 (.inl (kp (.inl h)))
  ·rw[yQ]at h
   rcases y8.mp h with h | h
   ·exact R8 (.inl (kp (.inr h)))
   ·exact R8 (.inr h)
theorem dG:∀{ys xs:Sps},Pos xs→(∀p∈ys,0<p.2)→Pos (az xs ys)
 | [],_,h,_=>h
 |p::ys,xs,h,g=>by
  refine dG (ys:=ys) ⟨Y9 h.nd,fun q hq=>?_⟩ fun q hq=>g q (.tail _ hq)
  rcases Xv hq with rfl | ⟨hq,_⟩
  ·have:=dY (fun p hp=>Bd (h.pos p hp)) h.nd p.1;have:=g p (.head _);show 0<cnt xs p.1+p.2;omega
  ·exact h.pos q hq
theorem Tg{ts:List Th}(h:∀t∈ts,1≤t.many):Pos (aE ts):=by
 refine dG ⟨zO,fun _ h=>nomatch h⟩ fun p hp=>?_;obtain⟨t,ht,rfl⟩:=yO.mp hp;exact h t ht
theorem Ou{ts:List Th}(h:∀t∈ts,1≤t.many):Tab (aE ts):=by
 have p:=Tg h;refine⟨p.nd,fun q hq=>Bd (p.pos q hq),fun q hq=>?_⟩;obtain⟨n,e⟩:=gN hq;rw[e];exact zJ _
theorem kc(ts:List Th):aj (aE ts)=aR ts:=by
 unfold aE;rw[eB (xs:=[]) zO];unfold aj aR cM;rw[zf];show(0:Int)+_=_;rw[BL];rfl
def tX(or total:Int)(ts:List Th)(qs Cv:Sps):Bool:=(ts.all fun t=>decide (t.num<2^or.toNat)) && (decide (aj (aE ts)=total) && mL or qs (aE ts) Cv)
theorem kC{or total:Int}{ts:List Th}{qs Cv:Sps}(h:∀t∈ts,0≤t.num∧1≤t.many)(nq:(qs.map (·.1)).Nodup):di or total ts qs Cv=tX or total ts qs Cv:=by
 have hm:=fun t ht=>(h t ht).2;unfold di tX;rw[kc,iW nq Cv (Tg hm) (Ou hm) fun _=>rfl];have al:((aE ts).all fun e=>inB or e.1)=ts.all fun t=>decide (t.num<2^or.toNat):=by
  refine Ab.mpr ⟨fun z=>?_,fun z=>?_⟩
  ·refine z4.mpr fun t ht=>yX ?_;have hk:(0,t.num)∈(aE ts).map (·.1):=R8 (.inr (yO.mpr ⟨((0,t.num),t.many),yO.mpr ⟨t,ht,rfl⟩,rfl⟩));obtain⟨e,he,ee⟩:=yO.mp hk;have:=z4.mp z e he;unfold inB at this;rw[ee,zW]at this;have:=yW this.2;have:t.num≤2^or.toNat-1:=this;omega
  ·refine z4.mpr fun e he=>?_
   rcases Uo (yO.mpr ⟨e,he,rfl⟩)with q | q
   ·exact absurd q zC
   ·unfold cM at q;rw[zf]at q;obtain⟨t,ht,ee⟩:=yO.mp q;have:=yW (z4.mp z t ht);have t0:=(h t ht).1;unfold inB;rw[←ee,zW];exact⟨yX t0,yX (show t.num≤2^or.toNat-1 by omega)⟩
 rw[al];cases decide (aR ts=total) <;> cases (ts.all fun t=>decide (t.num<2^or.toNat)) <;> rfl
inductive Run(or:Int):(Int×Int→Int)→Sps→(Int×Int→Int)→Prop
 |nil (f:Int×Int→Int):Run or f [] f
 |cons {f g:Int×Int→Int} {k:Int×Int} {m:Int} {r:Sps}:1≤m→0≤k.1→k.1<or→m≤f k→Run or (mv f k m) r g→Run or f ((k,m)::r) g
theorem Run.app{or:Int}{f g h:Int×Int→Int}{r s:Sps}(a:Run or f r g)(b:Run or g s h):Run or f (r++s) h:=by
 induction a with
 |nil _=>exact b
 |cons h1 h2 h3 h4 _ ih=>exact .cons h1 h2 h3 h4 (ih b)
theorem Run.chk{or:Int}{qs:Sps}{f g:Int×Int→Int}{r:Sps}(a:Run or f r g)(pq:Pos qs)(eq:∀k,cnt qs k=g k):∀{ls:Sps},Tab ls→(∀k,cnt ls k=f k)→mL or qs ls r=true:=by
 induction a with
 |nil f=>
  intro ls t e;exact(V9 (V7 pq.nd) ((V7 t.nd).filter _)).mpr (Pm pq t fun k=>by rw[eq,e])
 | @cons f g k m r h1 h2 h3 h4 _ ih=>
  intro ls t e;have ek:=e k;show(if m<1∨¬(0≤k.1∧k.1<or)∨cnt ls k<m then false else mL or qs (c6 ls k m) r)=true;rw[yK fun z=>z.elim (fun z=>by omega) fun z=>z.elim (fun z=>z ⟨h2,h3⟩) fun z=>by omega];refine ih eq (gE t h1 h2 (by omega)) fun x=>?_;rw[O9];unfold mv;rw[e k,e x]
def exc(qs st:Sps):Sps:=(st.map fun p=>(p.1,p.2-cnt qs p.1)).filter fun p=>decide (0<p.2)
def upS(fs:Sps):Sps:=az [] (fs.map fun p=>(ag p.1,p.2))
def stn(qs st:Sps):Nat→Sps
 | 0=>st
 |n+1=>upS (exc qs (stn qs st n))
def cv(qs st:Sps):Nat→Sps
 | 0=>[]
 |n+1=>cv qs st n++exc qs (stn qs st n)
theorem dE(qs st:Sps):(exc qs st).length≤st.length:=by
 unfold exc;refine zP (z8 _ _) ?_;rw[pi];exact yM _
theorem rn(fs:Sps):(upS fs).length≤fs.length:=by
 have:=Up (fs.map fun p=>(ag p.1,p.2)) [];rw[Ai,A5,pi]at this;exact this
theorem jD(qs st:Sps)(n:Nat):(stn qs st n).length≤st.length:=by
 induction n with
 |zero=>exact yM _
 |succ n ih=>exact zP (rn _) (zP (dE _ _) ih)
theorem fU(qs st:Sps)(n:Nat):(cv qs st n).length≤n*st.length:=by
 induction n with
 |zero=>exact Aa _
 |succ n ih=>
  show(cv qs st n++exc qs (stn qs st n)).length≤_;have a:=dE qs (stn qs st n);have b:=jD qs st n;rw[yR,Nat.succ_mul];omega
theorem Vq{qs st:Sps}{p:(Int×Int)×Int}(h:p∈exc qs st):0<p.2∧∃q∈st,q.1=p.1∧p.2=q.2-cnt qs q.1:=by
 obtain⟨h1,h2⟩:=zn.mp h;obtain⟨q,hq,e⟩:=yO.mp h1;exact⟨yW h2,q,hq,by rw[←e],by rw[←e]⟩
theorem p7{qs st:Sps}(nd:(st.map (·.1)).Nodup):((exc qs st).map (·.1)).Nodup:=by
 refine List.Sublist.nodup (List.Sublist.map _ List.filter_sublist) ?_;rw[zf];exact nd
theorem r_{qs st:Sps}(nd:(st.map (·.1)).Nodup){p:(Int×Int)×Int}(hp:p∈st)(h:cnt qs p.1≤p.2):cnt (exc qs st) p.1=p.2-cnt qs p.1:=by
 by_cases c:0<p.2-cnt qs p.1
 ·exact Yd (p:=(p.1,p.2-cnt qs p.1)) (p7 nd) (zn.mpr ⟨yO.mpr ⟨p,hp,rfl⟩,yX c⟩)
 ·rw[Zz fun z=>?_]
  ·omega
  ·obtain⟨q,hq,e⟩:=yO.mp z;obtain⟨h1,r,hr,e1,e2⟩:=Vq hq;have er:r.1=p.1:=e1.trans e;have:r=p:=by
    have a:=Yd nd hr;have b:=Yd nd hp;exact Ad er (by rw[←a,←b,er])
   rw[this]at e2;omega
theorem swS{g:Int×Int→Int}{ks:List (Int×Int)}:∀{A:Sps},(A.map (·.1)).Nodup→ks.Nodup→(∀p∈A,p.1∈ks)→(ks.map fun k=>cnt A k*g k).sum=wS g A:=by
 induction ks with
 |nil=>
  intro A _ _ h;cases A with
  |nil=>rfl
  |cons p A=>exact absurd (h p (.head _)) zC
 |cons k ks ih=>
  intro A nd nk h;rw[zt]at nk;have q:=ih (A:=aq A k) (Vr nd) nk.2 fun p hp=>by
   obtain⟨h1,h2⟩:=zn.mp hp
   rcases y8.mp (h p h1)with z | z
   ·exact absurd z (yW h2)
   ·exact z
  have e:(ks.map fun j=>cnt (aq A k) j*g j)=ks.map fun j=>cnt A j*g j:=AF fun j hj=>by
   rw[gj,yK fun z:j=k=>nk.1 (by rw[←z];exact hj)]
  rw[e,Sy nd]at q;rw[yQ,zo];omega
theorem jf{A:Sps}(nd:(A.map (·.1)).Nodup)(k:Int×Int):wS (fun x=>if x=k then 1 else 0) A=cnt A k:=by
 by_cases h:k∈A.map (·.1)
 ·have q:=swS (g:=fun x=>if x=k then 1 else 0) (ks:=A.map (·.1)) nd nd fun p hp=>yO.mpr ⟨p,hp,rfl⟩;rw[←q];have main:∀(ks:List (Int×Int)),ks.Nodup→k∈ks→(ks.map fun j=>cnt A j*(if j=k then 1 else 0)).sum=cnt A k:=by
   intro ks
   induction ks with
   |nil=>exact fun _ h=>nomatch h
   |cons j ks ih=>
    intro nk hk;rw[zt]at nk;rw[yQ,zo];by_cases c:j=k
    ·have z:(ks.map fun j=>cnt A j*(if j=k then(1:Int)else 0)).sum=0:=by
      have e:(ks.map fun j=>cnt A j*(if j=k then(1:Int)else 0))=ks.map fun _=>(0:Int):=AF fun i hi=>by
       rw[yK fun z:i=k=>nk.1 (by rw[c,←z];exact hi),B6]
      rw[e];exact sv _
     rw[z,yL c,Bf,c,B5]
    ·rcases y8.mp hk with e | e
     ·exact absurd e.symm c
     ·rw[ih nk.2 e,yK c,B6,BL]
  exact main _ nd h
 ·rw[Zz h];refine Tf fun p hp=>.inr (yK fun z=>h (by rw[←z];exact yO.mpr ⟨p,hp,rfl⟩))
theorem nj(ys:Sps)(k:Int×Int):cnt (az [] ys) k=wS (fun x=>if x=k then 1 else 0) ys:=by
 rw[←jf (Te (xs:=[]) zO),On (xs:=[]) zO];exact BL _
def pin(l:Sps)(x:Int×Int):Int:=wS (fun k=>if ag k=x then 1 else 0) l
theorem sX(l:Sps)(x:Int×Int):cnt (upS l) x=pin l x:=by
 unfold upS pin;rw[nj];unfold wS;rw[zf];rfl
theorem qj(g:Int×Int→Int)(l:Sps):wS g (upS l)=wS (fun k=>g (ag k)) l:=by
 unfold upS;rw[On (xs:=[]) zO];show 0+_=_;rw[BL];unfold wS;rw[zf];rfl
theorem ud{or i:Int}(i0:0≤i)(i1:i<or):∀(l:Sps)(f:Int×Int→Int),(l.map (·.1)).Nodup→(∀p∈l,p.1.1=i∧1≤p.2∧p.2≤f p.1)→Run or f l fun x=>f x-cnt l x+pin l x:=by
 intro l
 induction l with
 |nil=>
  intro f _ _;have e:(fun x=>f x-cnt [] x+pin [] x)=f:=funext fun x=>by
   show f x-0+0=f x;omega
  rw[e];exact .nil f
 |cons p l ih=>
  intro f nd h;obtain⟨p1,p2,p3⟩:=h p (.head _);rw[yQ,zt]at nd;have q:=ih (mv f p.1 p.2) nd.2 fun r hr=>by
   obtain⟨a,b,c⟩:=h r (.tail _ hr);refine⟨a,b,?_⟩;unfold mv;rw[yK fun z=>nd.1 (by rw[←z];exact yO.mpr ⟨r,hr,rfl⟩),yK fun z=>?_]
   ·exact c
   ·have:r.1.1=p.1.1+1:=Ak (·.1) z;omega
  have e:(fun x=>f x-cnt (p::l) x+pin (p::l) x)=fun x=>mv f p.1 p.2 x-cnt l x+pin l x:=funext fun x=>by
   unfold pin;rw[Yq];have cc:cnt (p::l) x=if x=p.1 then p.2 else cnt l x:=by
    by_cases z:x=p.1
    ·rw[yL z,z];exact Yd (by rw[yQ,zt];exact nd) (.head _)
    ·rw[yK z];unfold cnt ai af;rw[yQ,Y0 (p:=(kk p.1,V.int p.2)) fun y=>z (Vo y).symm]
   rw[cc];unfold mv;by_cases z:x=p.1
   ·rw[yL z,yL z,yK (by rw[z];exact fun y=>Vj p.1 y.symm),B6,z,Zz nd.1];omega
   ·rw[yK z,yK z];by_cases y:x=ag p.1
    ·rw[yL y,yL y.symm,Bf];omega
    ·rw[yK y,yK fun w=>y w.symm,B6];omega
  have e2:p::l=(p.1,p.2)::l:=rfl;rw[e,e2];exact .cons p2 (by rw[p1];exact i0) (by rw[p1];exact i1) p3 q
def bI(qs:Sps)(i:Int):Sps:=qs.filter fun p=>decide (i≤p.1.1)
def atH(qs:Sps)(i:Int):Sps:=qs.filter fun p=>decide (p.1.1=i)
theorem Qr(g:Int×Int→Int)(qs:Sps)(i:Int):wS g (bI qs i)=wS g (atH qs i)+wS g (bI qs (i+1)):=by
 induction qs with
 |nil=>rfl
 |cons p qs ih=>
  unfold bI atH at ih⊢;rw[zN,zN,zN]
  rcases Int.lt_trichotomy p.1.1 i with c | c | c
  ·rw[if_neg (by simpa using c),if_neg (by simpa using (by omega:¬p.1.1=i)),if_neg (by simpa using (by omega:p.1.1<i+1))];exact ih
  ·rw[if_pos (decide_eq_true (by omega)),if_pos (decide_eq_true c),if_neg (by simpa using (by omega:p.1.1<i+1)),Yq,Yq,ih];omega
  ·rw[if_pos (decide_eq_true (by omega)),if_neg (by simpa using (by omega:¬p.1.1=i)),if_pos (decide_eq_true (by omega)),Yq,Yq,ih];omega
theorem dZ{qs:Sps}{P:(Int×Int)×Int→Bool}(nd:(qs.map (·.1)).Nodup):((qs.filter P).map (·.1)).Nodup:=List.Sublist.nodup (List.Sublist.map _ List.filter_sublist) nd
theorem dR{qs:Sps}{P:(Int×Int)×Int→Bool}(nd:(qs.map (·.1)).Nodup){k:Int×Int}(h:∀p∈qs,p.1=k→P p=true):cnt (qs.filter P) k=cnt qs k:=by
 by_cases c:k∈qs.map (·.1)
 ·obtain⟨p,hp,e⟩:=yO.mp c;rw[←e,Yd nd hp,Yd (dZ nd) (zn.mpr ⟨hp,h p hp e⟩)]
 ·rw[Zz c,Zz fun z=>?_];obtain⟨p,hp,e⟩:=yO.mp z;exact c (by rw[←e];exact yO.mpr ⟨p,(zn.mp hp).1,rfl⟩)
structure Stq(or i:Int)(qs st:Sps):Prop where
 nd:(st.map (·.1)).Nodup
 pos:∀p∈st,0<p.2
 at_:∀p∈st,p.1.1=i∧0≤p.1.2∧p.1.2<2^(or-i).toNat
 can:Can (bI qs i) st
theorem wH{s k:Int×Int}(h0:0≤s.1)(e:k.1=s.1)(w:wit s k):k=s:=by
 refine Ad e ?_;obtain⟨a,b⟩:=w;unfold aw at a;unfold au at b;rw[e]at a b;have p:=Yz s.1.toNat;have l1:s.2≤k.2:=Int.le_of_mul_le_mul_right a p;have l2:k.2+1≤s.2+1:=Int.le_of_mul_le_mul_right (by omega) p;omega
theorem Os{or i:Int}{qs st:Sps}(i0:0≤i)(o:Pok or qs)(S:Stq or i qs st){k:Int×Int}(hk:k.1=i):cnt qs k≤cnt st k:=by
 have c:=S.can.each k (by omega);have e1:wS (gin k) st=cnt st k:=by
  rw[←jf S.nd k];unfold wS;refine Ak List.sum (AF fun p hp=>?_)
  congr 1
  show gin k p.1=if p.1=k then 1 else 0
  by_cases z:p.1=k
  ·rw[yL z,z];exact Xw ⟨zJ _,zJ _⟩
  ·rw[yK z];exact Wa fun w=>z (wH (by omega) (by rw[(S.at_ p hp).1,hk]) w)
 have e2:cnt qs k≤wS (gin k) (bI qs i):=by
  rw[←dR (P:=fun p=>decide (i≤p.1.1)) o.kok.nd (k:=k) fun p _ e=>yX (by rw[e,hk];exact zJ _),←jf (dZ o.kok.nd) k];have main:∀l:Sps,(∀p∈l,0≤p.2)→wS (fun x=>if x=k then 1 else 0) l≤wS (gin k) l:=by
   intro l
   induction l with
   |nil=>exact fun _=>zJ _
   |cons p l ih=>
    intro h;rw[Yq,Yq];have a:=ih fun q hq=>h q (.tail _ hq);have b:p.2*(if p.1=k then 1 else 0)≤p.2*gin k p.1:=Int.mul_le_mul_of_nonneg_left (by
     by_cases z:p.1=k
     ·rw[yL z,z];exact Int.le_of_eq (Xw ⟨zJ _,zJ _⟩).symm
     ·rw[yK z];exact Sa) (h p (.head _))
    omega
  exact main _ fun p hp=>by have:=o.pos p (zn.mp hp).1;omega
 omega
theorem rj{s k:Int×Int}(h0:0≤k.1)(lt:k.1<s.1)(k2:0≤k.2):gin s (ag k)=gin s k:=by
 have up:=ox (h:=k.1) (j:=k.2 / 2) h0;have dn:=qG (h:=k.1) (j:=k.2 / 2) h0;have ep:ag k=upK k.1 (k.2 / 2):=rfl;have le:aw (ag k)≤aw k∧au k≤au (ag k):=by
  rw[ep]
  rcases Ra k with e | e
  ·rw[←e]at up dn;exact⟨up.1,dn.1⟩
  ·rw[←e]at up dn;exact⟨up.2,dn.2⟩
 by_cases w:wit s k
 ·have f:=vB (k:=k);have m:wit s (ag k):=gL (n:=aw k) (by show 0≤k.1+1;omega) (by show k.1+1≤s.1;omega) le.1 (Ax f le.2) w.1 (Ax f w.2);exact(Xw m).trans (Xw w).symm
 ·have m:¬wit s (ag k):=fun z=>w ⟨Ax z.1 le.1,Ax le.2 z.2⟩;exact(Wa m).trans (Wa w).symm
theorem n6{qs st:Sps}(g:Int×Int→Int)(h:∀p∈st,cnt qs p.1≤p.2):wS g (exc qs st)=wS g st-(st.map fun p=>cnt qs p.1*g p.1).sum:=by
 induction st with
 |nil=>rfl
 |cons p st ih=>
  have q:=ih fun x hx=>h x (.tail _ hx);have l:=h p (.head _);unfold exc at q⊢;rw[yQ,zN,Yq,yQ,zo];by_cases c:0<p.2-cnt qs p.1
  ·rw[yL (yX c),Yq,q];show(p.2-cnt qs p.1)*g p.1+_=_;rw[Int.sub_mul];omega
  ·rw[if_neg (by simpa using (by omega:p.2≤cnt qs p.1)),q];have e:p.2=cnt qs p.1:=by omega
   rw[e];omega
theorem oE{or i:Int}{qs st:Sps}(i0:0≤i)(i1:i<or)(o:Pok or qs)(S:Stq or i qs st):Stq or (i+1) qs (upS (exc qs st)):=by
 have le:∀p∈st,cnt qs p.1≤p.2:=fun p hp=>by
  have:=Os i0 o S (S.at_ p hp).1;rw[Yd S.nd hp]at this;exact this
 have key:∀g:Int×Int→Int,(st.map fun p=>cnt qs p.1*g p.1).sum=wS g (atH qs i):=fun g=>by
  have q:=swS (g:=g) (A:=atH qs i) (ks:=st.map (·.1)) (dZ o.kok.nd) S.nd fun p hp=>by
   obtain⟨h1,h2⟩:=zn.mp hp;have hh:=yW h2;have a:=Os i0 o S hh;have b:=Yd o.kok.nd h1;have c:=o.pos p h1;exact Sf (by omega)
  rw[←q,zf];refine Ak List.sum (AF fun p hp=>?_);show cnt qs p.1*g p.1=cnt (atH qs i) p.1*g p.1;unfold atH;rw[dR o.kok.nd fun r _ e=>yX (by rw[e];exact(S.at_ p hp).1)]
 have exP:∀p∈exc qs st,p.1.1=i∧0≤p.1.2∧p.1.2<2^(or-i).toNat:=fun p hp=>by
  obtain⟨_,q,hq,e,_⟩:=Vq hp;rw[←e];exact S.at_ q hq
 have upos:∀p∈upS (exc qs st),0<p.2:=(dG (xs:=[]) ⟨zO,fun _ h=>nomatch h⟩ fun p hp=>by
  obtain⟨q,hq,rfl⟩:=yO.mp hp;exact(Vq hq).1).pos
 refine⟨Te (xs:=[]) zO,upos,fun p hp=>?_,⟨fun s s0=>?_,?_⟩⟩
 ·have h:=Uo (xs:=[]) (yO.mpr ⟨p,hp,rfl⟩)
  rcases h with h | h
  ·exact absurd h zC
  ·rw[zf]at h;obtain⟨q,hq,e⟩:=yO.mp h;obtain⟨a,b,c⟩:=exP q hq;have e1:p.1=(q.1.1+1,q.1.2 / 2):=e.symm;rw[e1];refine⟨by show q.1.1+1=i+1;omega,by show 0≤q.1.2 / 2;omega,?_⟩;show q.1.2 / 2<2^(or-(i+1)).toNat;have pw:(2:Int)^(or-i).toNat=2^(or-(i+1)).toNat*2:=by
    rw[←Ci]
    congr 1
    omega
   omega
 ·rcases Cg i s.1 with c | c
  ·rw[qj];have e:wS (fun k=>gin s (ag k)) (exc qs st)=wS (gin s) (exc qs st):=by
    unfold wS;refine Ak List.sum (AF fun p hp=>?_);obtain⟨a,b,_⟩:=exP p hp;show p.2*gin s (ag p.1)=_;rw[rj (by omega) (by omega) b]
   rw[e,n6 _ le,key];have:=S.can.each s s0;rw[Qr]at this;omega
  ·have z:wS (gin s) (bI qs (i+1))=0:=Tf fun p hp=>.inr (Wa fun w=>by
    obtain⟨h1,h2⟩:=zn.mp hp;have:=yW h2;have:=uo s0 (by omega) w;omega)
   rw[z];exact kU (fun _=>Sa) fun p hp=>Bd (upos p hp)
 ·have a:=S.can.all;have b:=n6 (fun _=>1) le;have c:=qj (fun _=>1) (exc qs st);have d:=Qr (fun _=>1) qs i;have kk:(st.map fun p=>cnt qs p.1*1).sum=wS (fun _=>1) (atH qs i):=key fun _=>1;rw[kk]at b;rw[←W9,←W9]at a⊢;rw[c];show wS (fun _=>1) (bI qs (i+1))=wS (fun _=>1) (exc qs st);omega
theorem tW{or:Int}{qs st:Sps}(o:Pok or qs)(S:Stq or 0 qs st):∀n:Nat,(n:Int)≤or→Stq or n qs (stn qs st n)∧Run or (cnt st) (cv qs st n) fun k=>if k.1<n then cnt qs k else cnt (stn qs st n) k:=by
 intro n
 induction n with
 |zero=>
  intro _;refine⟨S,?_⟩;have e:(fun k:Int×Int=>if k.1<((0:Nat):Int)then cnt qs k else cnt (stn qs st 0) k)=cnt st:=funext fun k=>by
   split
   ·rename_i h;have h:k.1<0:=h;rw[Zz fun z=>?_,Zz fun z=>?_]
    ·obtain⟨p,hp,e⟩:=yO.mp z;have:=(S.at_ p hp).1;rw[e]at this;omega
    ·have:=(o.kok.st k z).1;omega
   ·rfl
  rw[e];exact .nil _
 |succ n ih=>
  intro h;obtain⟨S',R⟩:=ih (by omega);have i0:(0:Int)≤n:=by omega
  have i1:(n:Int)<or:=by omega
  refine⟨oE i0 i1 o S',?_⟩;have le:∀p∈stn qs st n,cnt qs p.1≤p.2:=fun p hp=>by
   have:=Os i0 o S' (S'.at_ p hp).1;rw[Yd S'.nd hp]at this;exact this
  show Run or (cnt st) (cv qs st n++exc qs (stn qs st n)) _;refine R.app ?_;have q:=ud i0 i1 (exc qs (stn qs st n)) (fun k=>if k.1<(n:Int)then cnt qs k else cnt (stn qs st n) k) (p7 S'.nd) fun p hp=>by
   obtain⟨a,r,hr,e1,e2⟩:=Vq hp;have ra:=(S'.at_ r hr).1;rw[e1]at ra;refine⟨ra,by omega,?_⟩;rw[yK (by omega)];have c1:=Yd S'.nd hr;rw[e1]at c1 e2;have:=le r hr;rw[e1]at this;have c0:0≤cnt qs p.1:=Uk o p.1;omega
  have e:(fun k:Int×Int=>if k.1<((n+1:Nat):Int)then cnt qs k else cnt (stn qs st (n+1)) k)=fun x=>(if x.1<(n:Int)then cnt qs x else cnt (stn qs st n) x)-cnt (exc qs (stn qs st n)) x+pin (exc qs (stn qs st n)) x:=funext fun x=>by
   have ex0:x.1≠n→cnt (exc qs (stn qs st n)) x=0:=fun z=>Zz fun y=>by
    obtain⟨p,hp,e⟩:=yO.mp y;obtain⟨_,r,hr,e1,_⟩:=Vq hp;have:=(S'.at_ r hr).1;rw[e1,e]at this;exact z this
   have pn0:x.1≠n+1→pin (exc qs (stn qs st n)) x=0:=fun z=>Tf fun p hp=>.inr (yK fun y=>by
    obtain⟨_,r,hr,e1,_⟩:=Vq hp;have a:=(S'.at_ r hr).1;rw[e1]at a;have b:p.1.1+1=x.1:=Ak (·.1) y;omega)
   rcases Int.lt_trichotomy x.1 n with c | c | c
   ·rw[yL (by omega),yL c,ex0 (by omega),pn0 (by omega)];omega
   ·rw[yL (by omega),yK (by omega),pn0 (by omega)];by_cases m:x∈(stn qs st n).map (·.1)
    ·obtain⟨p,hp,e⟩:=yO.mp m;rw[←e,r_ S'.nd hp (le p hp),Yd S'.nd hp];omega
    ·have a:=Os i0 o S' c;have b:=Uk o x;rw[Zz m]at a⊢;rw[Zz (ps:=exc qs (stn qs st n)) fun y=>m ?_]
     ·omega
     ·obtain⟨p,hp,e⟩:=yO.mp y;obtain⟨_,r,hr,e1,_⟩:=Vq hp;rw[←e,←e1];exact yO.mpr ⟨r,hr,rfl⟩
   ·have s0:cnt (stn qs st n) x=0:=Zz fun y=>by
     obtain⟨p,hp,e⟩:=yO.mp y;have:=(S'.at_ p hp).1;rw[e]at this;omega
    rw[yK (by omega),yK (by omega),s0,ex0 (by omega)];show cnt (upS (exc qs (stn qs st n))) x=_;rw[sX];omega
  rw[e];exact q
theorem tZ{or:Int}{qs st:Sps}(d0:0≤or)(o:Pok or qs)(S:Stq or 0 qs st):Run or (cnt st) (cv qs st or.toNat) (cnt qs):=by
 obtain⟨S',R⟩:=tW o S or.toNat (by omega);have en:((or.toNat:Nat):Int)=or:=by omega
 rw[en]at S' R;have e:(fun k:Int×Int=>if k.1<or then cnt qs k else cnt (stn qs st or.toNat) k)=cnt qs:=funext fun k=>by
  split
  ·rfl
  ·rename_i c;have e2:(2:Int)^(or-or).toNat=1:=by rw[Int.sub_self];rfl
   have k1:∀p∈stn qs st or.toNat,p.1=(or,0):=fun p hp=>by
    obtain⟨a,b,d⟩:=S'.at_ p hp;exact Ad a (by rw[e2]at d;show p.1.2=0;omega)
   have k2:∀p∈bI qs or,p.1=(or,0):=fun p hp=>by
    obtain⟨h1,h2⟩:=zn.mp hp;have h2:=yW h2;obtain⟨a,b,x,y⟩:=o.kok.st p.1 (yO.mpr ⟨p,h1,rfl⟩);have e3:p.1.1=or:=by omega
    rw[e3,e2]at y;exact Ad e3 (by show p.1.2=0;omega)
   by_cases z:k=(or,0)
   ·have a:=swS (g:=fun _=>1) (ks:=[(or,0)]) S'.nd (zt.mpr ⟨zC,zO⟩) fun p hp=>by rw[k1 p hp];exact .head _
    have b:=swS (g:=fun _=>1) (ks:=[(or,0)]) (A:=bI qs or) (dZ o.kok.nd) (zt.mpr ⟨zC,zO⟩) fun p hp=>by rw[k2 p hp];exact .head _
    have t:=S'.can.all;rw[W9]at a b;rw[yQ,B0,zo,List.sum_nil,Bf]at a b;have f:=dR (P:=fun p=>decide (or≤p.1.1)) o.kok.nd (k:=(or,0)) fun p _ e=>yX (by rw[e];exact zJ _);rw[z];unfold bI at b t;omega
   ·rw[Zz fun y=>?_,Zz fun y=>?_]
    ·obtain⟨p,hp,e⟩:=yO.mp y;have h1:or≤k.1:=by omega
     exact z (by rw[←e];exact k2 p (zn.mpr ⟨hp,yX (by rw[e];exact h1)⟩))
    ·obtain⟨p,hp,e⟩:=yO.mp y;exact z (by rw[←e];exact k1 p hp)
 rw[e]at R;exact R
theorem nE{g:Int×Int→Int}{ps:Sps}{k:Int×Int}{m:Int}(nd:(ps.map (·.1)).Nodup):wS g (a7 ps k m)=wS g ps+m*(g (ag k)-g k):=by
 have n1:=Y9 (k:=ag k) (n:=cnt ps (ag k)+m) nd;have n2:=Y9 (k:=k) (n:=cnt ps k-m) n1;have a:=S1 (g:=g) (k:=ag k) (n:=cnt ps (ag k)+m) nd;have b:=S1 (g:=g) (k:=k) (n:=cnt ps k-m) n1;have c:cnt (ak ps (ag k) (cnt ps (ag k)+m)) k=cnt ps k:=by rw[Ym,yK (Vj k)]
 rw[c,a]at b;have w:wS g (ak (ak ps (ag k) (cnt ps (ag k)+m)) k (cnt ps k-m))=wS g ps+m*(g (ag k)-g k):=by
  rw[b,Ba,Int.sub_mul,Int.mul_sub];omega
 unfold a7
 split
 ·rename_i z;rw[Sy n2,Ym,yL rfl,w,z,Int.zero_mul,Cj]
 ·exact w
theorem sP{or:Int}{qs:Sps}(nq:(qs.map (·.1)).Nodup):∀(r:Sps){ps:Sps},Pos ps→(∀p∈ps,0≤p.1.1∧0≤p.1.2)→cR or qs ps r=true→∀g,cT g→wS g qs≤wS g ps:=by
 intro r
 induction r with
 |nil=>
  intro ps t _ h g G;have p:=(V9 (V7 t.nd) (V7 nq)).mp h;rw[U7 p];exact zJ _
 |cons p r ih=>
  intro ps t hn h g G;obtain⟨k,m⟩:=p;have h:(if m<1∨or≤k.1∨cnt ps k<m then false else cR or qs (a7 ps k m) r)=true:=h;by_cases c:m<1∨or≤k.1∨cnt ps k<m
  ·rw[yL c]at h;cases h
  ·rw[yK c]at h;have m1:1≤m:=by omega
   have mc:m≤cnt ps k:=by omega
   have hk:k∈ps.map (·.1):=Sf (by omega);obtain⟨q,hq,e⟩:=yO.mp hk;obtain⟨a,b⟩:=hn q hq;rw[e]at a b;have st:=ih (eC t m1 mc) (fun p hp=>by
    have kk:∀x∈(a7 ps k m).map (·.1),x∈ps.map (·.1)∨x=ag k:=fun x hx=>by
     have hx:x∈(ak (ak ps (ag k) (cnt ps (ag k)+m)) k (cnt ps k-m)).map (·.1):=by
      unfold a7 at hx
      split at hx
      ·obtain⟨y,hy,e⟩:=yO.mp hx;exact yO.mpr ⟨y,(zn.mp hy).1,e⟩
      ·exact hx
     obtain⟨y,hy,e⟩:=yO.mp hx
     rcases Xv hy with z | ⟨z,_⟩
     ·rw[←e,z];exact .inl hk
     ·rcases Xv z with y2 | ⟨y2,_⟩
      ·rw[←e,y2];exact .inr rfl
      ·rw[←e];exact .inl (yO.mpr ⟨y,y2,rfl⟩)
    rcases kk p.1 (yO.mpr ⟨p,hp,rfl⟩)with z | z
    ·obtain⟨y,hy,e⟩:=yO.mp z;rw[←e];exact hn y hy
    ·rw[z];exact⟨by show 0≤k.1+1;omega,by show 0≤k.2 / 2;omega⟩) h g G
   rw[nE t.nd]at st;have fl:g (ag k)≤g k:=by
    have z:=G k.1 (k.2 / 2) a (by omega)
    rcases Ra k with e | e
    ·rw[←e]at z;exact z.1
    ·rw[←e]at z;exact z.2
   have:m*(g (ag k)-g k)≤0:=by
    have:=Ck (show 0≤m by omega) (show 0≤g k-g (ag k) by omega);rw[Int.mul_sub]at this⊢;omega
   omega
theorem t9{or total:Int}{ts:List Th}{qs Cv:Sps}(nq:(qs.map (·.1)).Nodup)(h:∀t∈ts,0≤t.num∧1≤t.many)(e:di or total ts qs Cv=true):Dom qs ts∧aR ts=total∧∀t∈ts,t.num<2^or.toNat:=by
 have hm:=fun t ht=>(h t ht).2;rw[kC h nq]at e;unfold tX at e;rw[zW,zW]at e;obtain⟨e1,e2,e3⟩:=e;rw[←iW nq Cv (Tg hm) (Ou hm) fun _=>rfl]at e3;refine⟨fun g G=>?_,by rw[←kc];exact yW e2,fun t ht=>yW (z4.mp e1 t ht)⟩;have q:=sP nq Cv (Tg hm) (fun p hp=>?_) e3 g G
 ·rw[←nZ];exact q
 ·rcases Uo (xs:=[]) (yO.mpr ⟨p,hp,rfl⟩)with z | z
  ·exact absurd z zC
  ·unfold cM at z;rw[zf]at z;obtain⟨t,ht,e⟩:=yO.mp z;rw[←e];exact⟨zJ _,(h t ht).1⟩
theorem vU{or:Int}{ts:List Th}{qs:Sps}(d0:0≤or)(o:Pok or qs)(h:∀t∈ts,0≤t.num∧1≤t.many):di or (aj qs) ts qs (cv qs (aE ts) or.toNat)=true↔(∀t∈ts,t.num<2^or.toNat)∧Can qs (a8 ts):=by
 have hm:=fun t ht=>(h t ht).2;refine⟨fun e=>?_,fun⟨e1,C⟩=>?_⟩
 ·obtain⟨a,b,c⟩:=t9 o.kok.nd h e;exact⟨c,jH a⟩
 ·have pq:Pos qs:=⟨o.kok.nd,fun p hp=>by have:=o.pos p hp;omega⟩;have sp:=Tg hm;have S:Stq or 0 qs (aE ts):=by
   refine⟨sp.nd,sp.pos,fun p hp=>?_,?_⟩
   ·rcases Uo (xs:=[]) (yO.mpr ⟨p,hp,rfl⟩)with z | z
    ·exact absurd z zC
    ·unfold cM at z;rw[zf]at z;obtain⟨t,ht,e⟩:=yO.mp z;rw[←e];exact⟨rfl,(h t ht).1,by rw[Cj];exact e1 t ht⟩
   ·have ef:bI qs 0=qs:=BB.mpr fun p hp=>yX (o.kok.st p.1 (yO.mpr ⟨p,hp,rfl⟩)).1;rw[ef];exact C
  have R:=tZ d0 o S;rw[kC h o.kok.nd];unfold tX;rw[R.chk pq (fun _=>rfl) (Ou hm) fun _=>rfl,zW,zW];exact⟨z4.mpr fun t ht=>yX (e1 t ht),yX C.all.symm,rfl⟩
end K29
namespace L2
open PySem PySem.Spec PyProof.Rows
section
variable{prog:Program}{w:World}{A:Around}{E:Value→Shared→Prop}{s:Shared}{it d:Addr}{i ep:Nat}{es:Array DictEntry}{f0 f1 ok ov:Value}
theorem lu{n:Nat}{Q:Value→Shared→Prop}(hit:ItI s.heap it d i n ep f0 f1 ok ov)(h:Q (.ref it) s):wpAny (model prog w) A (pyIter (.ref it)) Q E s:=by
 have hT:s.TypeIs (.ref it) "dict_itemiterator":=⟨_,hit,rfl⟩;refine Bs hT PySem.F.slot_dict_itemiterator_iter (Am PySem.F.slot_dict_itemiterator_iter hT W.kcp_entry ?_ (PySem.F.args_dict_itemiterator_iter_1 _));show wpAny _ _ (ret (.ref it)) _ _ s;exact yI ⟨_,rfl,"dict_itemiterator",_,hT,PySem.F.slot_dict_itemiterator_next.lookup,h⟩
end
def w6(it d:Addr)(n ep:Nat)(i:Nat)(h:Heap):Prop:=∃f0 f1 ok ov,ItI h it d i n ep f0 f1 ok ov∧(f0=.none∨∃(a:Addr)(b:Bool),f0=rawInt a∧f1=.bool b)
section
variable{X:Cx}{Cr:List (Addr×Obj)}{σ:St}{H:Hp}{s:Shared}
def ve(d:Addr)(kvs:List (List Key×V))(o:Obj):It:=⟨fun i H=>i<kvs.length∧H d=some (.frz o (.dT kvs)),fun i H x H'=>∃T p b,kvs[i]?=some p∧x=.ref T∧H b=some (.tup (p.1.map kV))∧H T=none∧H'=upd H T (.tup [.ref b,p.2]),fun i H=>kvs.length≤i∧H d=some (.frz o (.dT kvs))⟩
def sO(tl:TE):TI:=fun σ H R=>tl σ H fun x H1=>∃(v d:Addr)(kvs:List (List Key×V)),x=.ref v∧H1 v=some (bV v d)∧H1 d=some (.dT kvs)∧∀o,R (ve d kvs o) (upd H1 d (.frz o (.dT kvs)))
theorem gF{d:Addr}{o:Obj}{kvs:List (List Key×V)}{k:Nat}{g:TG}{tt:TT}{te:TE}{σ:St}{H:Hp}{Q:VK}(Pv:Nat→List V→Hp→Prop)(h0:Pv 0 [] H)(hl:∀i ys H,Pv i ys H→H d=some (.frz o (.dT kvs))∧ys.length<sizeLine)(hs:∀i p b T ys H (C:List V→Hp→Prop),kvs[i]?=some p→H b=some (.tup (p.1.map kV))→H T=none→Pv i ys H→(∀ys' H',Pv (i+1) ys' H'→C ys' H')→g (.ref T) (List.replicate k none++σ) (upd H T (.tup [.ref b,p.2])) fun σ2 H2=>Wk σ2 (List.replicate k none++σ)∧tt σ2 H2 fun ok H3=>
   if ok=true then te σ2 H3 fun y H4=>C (ys++[y]) H4 else C ys H3)(hd:∀ys H,Pv kvs.length ys H→ys.length≤sizeLine∧∀p,H p=none→Q (.ref p) (upd H p (.lst ys))):CompR (ve d kvs o) H k g tt te σ Q:=by
 refine⟨fun i m ys H=>m=kvs.length-i∧i≤kvs.length∧Pv i ys H,⟨kvs.length,by simp,Nat.zero_le _,h0⟩,?_⟩;rintro i m ys H ⟨rfl,hi,p⟩;have q:=hl i ys H p;by_cases Cz:i<kvs.length
 ·refine .inr ⟨⟨Cz,q.1⟩,q.2,fun v H' y=>?_⟩;obtain⟨T,p',b,hp',rfl,hb,nT,rfl⟩:=y;exact hs i p' b T ys H (fun ys' H'=>∃m',m'<kvs.length-i∧m'=kvs.length-(i+1)∧i+1≤kvs.length∧Pv (i+1) ys' H') hp' hb nT p fun ys' H' p'=>⟨_,by omega,rfl,Cz,p'⟩
 ·have e:i=kvs.length:=by omega
  subst e;exact .inl ⟨⟨yM _,q.1⟩,hd ys H p⟩
end
section
variable{X:Cx}{Cr:List (Addr×Obj)}{σ:St}{H:Hp}{s:Shared}
theorem wu{prog:Program}{w:World}{A:Around}{E:Value→Shared→Prop}{elts:List Expr}{k:Nat}{pos:Pos}{it d T:Addr}{i n ep:Nat}{f0 f1 ok ov:Value}{Q:Unit→Shared→Prop}(he:ItI s.heap it d i n ep f0 f1 ok ov)(alt:∃(a:Addr) (b:Bool),f0=rawInt a∧f1=.bool b)(hQ:∀h',w6 it d n ep i h'→(∀b o,b≠it→s.heap.get? b=some o→h'.get? b=some o)→Q () {s with heap:=h'}):wpAny (model prog w) A (letOwnedTupleGo (.Tuple elts k pos) (.ref it) (.ref T)) Q E s:=by
 unfold letOwnedTupleGo;refine io (Cc he ?_);show wpAny _ _ (if (["enumerate","zip","dict_itemiterator","dict_reverseitemiterator","odict_iterator","itertools.zip_longest","itertools.pairwise"].contains "dict_itemiterator" && (#[f0,f1,.ref d,.int i 0,.int n 0,.int ep 0,ok,ov]:Array Value)[0]? == some (rawInt T))=true then _ else _) Q E s;by_cases c:(["enumerate","zip","dict_itemiterator","dict_reverseitemiterator","odict_iterator","itertools.zip_longest","itertools.pairwise"].contains "dict_itemiterator" && (#[f0,f1,.ref d,.int i 0,.int n 0,.int ep 0,ok,ov]:Array Value)[0]? == some (rawInt T))=true
 ·rw[yL c];refine io (AM ?_);show wpAny _ _ (setField (.ref it) 0 .none) Q E s;exact wpAny_setField_rec he (by simp) fun h' he' hs'=>hQ h' ⟨.none,f1,ok,ov,he',.inl rfl⟩ hs'.extBut
 ·rw[yK c];exact yI (hQ s.heap ⟨f0,f1,ok,ov,he,.inr alt⟩ fun _ _ _ e=>e)
theorem oG{P:Program}{w:World}{K:W.Frag}{elts:List Expr}{k:Nat}{np:Pos}{d it:Addr}{kvs:List (List Key×V)}{o:Obj}{es:Array DictEntry}{ep:Nat}(ex:o.ExactDict)(od:o.data=.dict es ep)(sz:es.size=kvs.length):
  Turn P w K (.Tuple elts k np) (ve d kvs o) [it] it (w6 it d es.size ep) where
 mem:=by simp
 obj:=fun i h st b hb=>by
  obtain⟨f0,f1,ok,ov,q,_⟩:=st;rw[yP.mp hb];exact⟨_,q,fun v z=>(nomatch z)⟩
 keep:=fun i h h' st k=>by
  obtain⟨f0,f1,ok,ov,q,r⟩:=st;exact⟨f0,f1,ok,ov,k it (.head _) _ q,r⟩
 item:=by
  intro X hP hw hK hc i Cr s σ H E I hf st hg;subst hP hw hK;obtain⟨hi,hd⟩:=hg;obtain⟨ho,z,lo,xs,kt,o',es',ep',h1,_,h3,h4,_⟩:=(show ObjOk X.prog X.w H s.heap d (.frz o (.dT kvs))from I.hok d _ hd);rw[ho]at h1;cases h1;rw[od]at h3;cases h3;have e1:kvs[i]?=some kvs[i]:=by simp[hi]
  obtain⟨x,ex1,hx,rx⟩:=Ni kt e1;have eq:es[i]=⟨es[i].hash,.ref x.2.1,x.2.2⟩:=by
   have q:es.toList[i]?=some es[i]:=by rw[yS];exact yN (by omega)
   rw[h4,zc,ex1]at q;rw[←zT q];rfl
  have ek:es[i].key=.ref x.2.1:=by rw[eq]
  have ev:es[i].val=x.2.2:=by rw[eq]
  obtain⟨f0,f1,ok,ov,q,alt⟩:=st;refine j6 q alt ⟨o,ho,ex,od⟩ (by omega) fun g e0 e1' a b CI al tg zg kp=>⟨_,rfl,?_⟩;refine wu (s:={s with heap:=g}) CI al fun h' st2 kp2=>?_;have itl:it≠s.heap.objs.size:=y4 (yV q);have ni:H it=none:=(hf it (.head _)).1;refine⟨.ref s.heap.objs.size,upd H s.heap.objs.size (.tup [.ref x.2.1,kvs[i].2]),?_,rfl,⟨_,_,_,e1,rfl,hx,I.hok.fresh (yM _),rfl⟩,st2,fun c hc=>?_⟩
  ·refine I.zipped (t':=s.toks) (ch:=[it]) (fun c v hc e=>kp2 c v (fun z=>hc (by rw[z];exact .head _)) (kp c v (fun z=>hc (by rw[z];exact .head _)) e)) hf (yM _) ⟨by show(2:Nat)≤sizeLine;decide,[.ref x.2.1,x.2.2],.cons rfl (.cons rx .nil),?_⟩;rw[ek,ev]at tg;exact⟨_,kp2 _ _ (Ne.symm itl) tg,⟨rfl,rfl⟩,_,rfl⟩
  ·rw[yP.mp hc,Zb itl];exact ni
 done:=by
  intro X hP hw hK hc i Cr s σ H E I hf st hg;subst hP hw hK;obtain⟨hi,hd⟩:=hg;obtain⟨ho,_⟩:=I.hok d _ hd;obtain⟨f0,f1,f2,f3,f4,f5⟩:=hf it (.head _);obtain⟨_,_,_,_,q,_⟩:=st;exact kK (I.ok.hd hc) q ⟨o,ho,ex,od⟩ (by omega) fun g eb=>⟨rfl,I.turned (t':=s.toks) (fun b ob hb e=>eb b ob hb e) f0 f1 f3 f4 f5⟩
 self:=fun _ _ _ _ _ st h=>by
  obtain⟨_,_,_,_,q,_⟩:=st;exact lu q h
theorem iY{elts:List Expr}{k:Nat}{np:Pos}{l:Expr}{tl:TE}(hl:PE X l tl):PI X (.Tuple elts k np) l (sO tl):=by
 intro Cr s σ H R I h;refine thn (hl Cr s σ H _ I h) fun v s1 Cs=>?_;obtain⟨x,H1,I1,r1,q1⟩:=Cs;obtain⟨v,d,kvs,rfl,hv,hd,q⟩:=q1;cases r1;obtain⟨view,_⟩:=(show ObjOk X.prog X.w H1 s1.heap v (bV v d)from I1.hok v _ hv);obtain⟨o,I2,_⟩:=I1.freezeT hd;obtain⟨ho,z,lo,xs,kt,o',es,ep,h1,h2,h3,h4,_⟩:=(show ObjOk X.prog X.w _ s1.heap d (.frz o (.dT kvs))from I2.hok d _ Z4);rw[ho]at h1;cases h1;have sz:es.size=kvs.length:=by rw[←yU,h4,pi,←zd kt]
 refine j5 view ⟨o,ho,h2,h3⟩ fun g st zg kp=>⟨s1.heap.objs.size,[s1.heap.objs.size],_,_,_,rfl,I2.kept (t':=s1.toks) kp,oG h2 h3 sz,⟨_,_,_,_,st,.inl rfl⟩,fun b hb=>?_,q o⟩;rw[yP.mp hb];exact I2.fpOk (yM _) (I2.hok.fresh (yM _))
def thwE(D:Ends)(d:Addr)(kvs:List (List Key×V)):Ends where
 nx:=fun σ H2=>∃o,H2 d=some (.frz o (.dT kvs))∧D.nx σ (upd H2 d (.dT kvs))
 rt:=fun v H2=>∃o,H2 d=some (.frz o (.dT kvs))∧D.rt v (upd H2 d (.dT kvs))
 bk:=fun σ H2=>∃o,H2 d=some (.frz o (.dT kvs))∧D.bk σ (upd H2 d (.dT kvs))
 ct:=fun σ H2=>∃o,H2 d=some (.frz o (.dT kvs))∧D.ct σ (upd H2 d (.dT kvs))
def xw(t:TS):TS:=fun D σ H=>∃(d:Addr)(kvs:List (List Key×V)),H d=some (.dT kvs)∧t (thwE D d kvs) σ H
theorem rg{st:Stmt}{t:TS}(h:PS X st t):PS X st (xw t):=by
 intro Cr s σ H D I hw;obtain⟨d,kvs,hd,q⟩:=hw;obtain⟨_,_,nf⟩:=I.freezeT hd;refine thn (h Cr s σ H _ I q) fun f s1 hf=>?_;cases f with
 |next=>
  obtain⟨σ2,H2,I2,o,hd2,q2⟩:=hf;exact⟨σ2,_,I2.thawT nf hd2,q2⟩
 |brk=>
  obtain⟨σ2,H2,I2,o,hd2,q2⟩:=hf;exact⟨σ2,_,I2.thawT nf hd2,q2⟩
 |cont=>
  obtain⟨σ2,H2,I2,o,hd2,q2⟩:=hf;exact⟨σ2,_,I2.thawT nf hd2,q2⟩
 |ret u=>
  obtain⟨v,σ2,H2,I2,r,o,hd2,q2⟩:=hf;exact⟨v,σ2,_,I2.thawT nf hd2,r,q2⟩
end
end L2
namespace K29
open PySem L2 Ld
theorem wG{ps:Sps}{i:Nat}{p0:List Key×V}(h:(af ps)[i]?=some p0):∃p,ps[i]?=some p∧(kk p.1,V.int p.2)=p0:=by
 unfold af at h;rw[zc]at h;obtain⟨p,hp,e⟩:=zV.mp h;exact⟨p,hp,e⟩
structure Tw(H:Hp)(d L:Addr)(qs fs:Sps)(as:List Addr)(H':Hp):Prop where
 gS:Same H H'
 e_d:H' d=some (.dT (af qs))
 e_L:H' L=some (.lst (as.map V.ref))
 pL:Paired (FT (am L H')) as fs
theorem Tw.same{H H1 H2:Hp}{d L:Addr}{qs fs:Sps}{as:List Addr}(h:Tw H d L qs fs as H1)(g:Same H1 H2):Tw H d L qs fs as H2:=
 ⟨h.gS.trans g,g _ _ h.e_d,g _ _ h.e_L,Paired.mapP h.pL fun _ _ f=>Zv (U2 h.e_L g) f⟩
def uF:Sp:=fun vs H Q _=>∃(r q:Addr)(ts:List Th)(Cq or total:Int)(qs:Sps),vs=[.ref r,.ref q]∧DV H (.ref r) (bf ts)∧ts.length≤500∧LadAt H q Cq or total qs∧(qs.map (·.1)).Nodup∧qs.length≤400∧0≤or∧or≤20∧∀(p:Addr)(H':Hp),H p=none→Same H H'→PprAt H' p (cv qs (aE ts) or.toNat)→Q (.ref p) H'
variable{P:Program}{w:World}{K:W.Frag}{mg:Str→Option Value}{base:Heap}{f:Addr}{fd:FuncData}
theorem u5(aX:mg "dict"=none)(ao:mg "range"=none)(bj:Has P w K mg base "standing_of" 2 ["stream"] p_)(bG:Has P w K mg base "parent_of" 1 ["stretch"] c5)(a9:Has P w K mg base "added_counts" 1 ["one","other"] iE)(F:Fun K "folds_towards" "folds_towards" aW f fd):FnOk P w K mg base CX0 3 f fd ["stream","ladder"] uF:=by
 refine F.ok Zj (fun vs H Q E h=>?_) (fun cdv A outer s H vs Q E hr h=>?_)
 ·obtain⟨r,q,ts,Cq,or,total,qs,rfl,_⟩:=h;rfl
 obtain⟨r,q,ts,Cq,or,total,qs,rfl,dv,tl,lad,nq,ql,d0,d1,hq⟩:=h;obtain⟨cc,cs,CF,CA,pr⟩:=lad.at_;have cl:=zd pr;have nd:((af qs).map (·.1)).Nodup:=by
  rw[S3];exact AU.mpr (nq.imp fun h e=>h (Vo e))
 refine⟨_,(Z2 (We (pv 1) (W1 rfl (Zc (Za (i:=2) Zj.nd rfl (Or.inl rfl)) (Zc (Za (i:=3) Zj.nd rfl (Or.inl rfl)) (Zc (Za (i:=4) Zj.nd rfl (Or.inl rfl)) (Zc (Za (i:=5) Zj.nd rfl (Or.inl rfl)) Yb)))))) Zd),?_⟩;refine⟨_,rfl,q,_,rfl,SqT.of CF,rfl,_,_,rfl,_,_,rfl,_,_,rfl,_,_,rfl,rfl,?_⟩;refine⟨_,(Z2 (@N8 _ _ 6 _ _ _ _ Zj.nd rfl (Or.inr rfl) (Y8 (U5 rfl hr.units) rfl aX BM (Z0 (pv 4) Z1)) (by rfl) (by first | exact .inl rfl | exact .inr rfl)) Zd),?_⟩;refine⟨_,rfl,cc,_,_,rfl,CA,iz pr,by rw[Zs];omega,fun d n_d=>?_⟩;rw[Qb nd];have gg:=Z6 n_d (.dT (af qs));have e_d:(upd H d (.dT (af qs))) d=some (.dT (af qs)):=Z4;generalize upd H d (.dT (af qs))=H1 at gg e_d⊢;refine⟨_,(Z2 (Zp 7 Zj.nd rfl (Or.inl rfl) (Y1 Z1)) Zd),?_⟩;refine⟨leN rfl,fun L n_L=>?_⟩;have ym:H L=none:=gg.free n_L;have gz:=Z6 n_L (.lst []);have e_L:(upd H1 L (.lst [])) L=some (.lst (([]:List Addr).map V.ref)):=Z4;have gg:=gg.trans gz;have e_d:=gz _ _ e_d;generalize upd H1 L (.lst [])=H2 at gg e_d e_L⊢;have tw:Tw H d L qs [] [] H2:=⟨gg,e_d,e_L,.nil⟩;clear e_d e_L gz gg n_d n_L;refine⟨_,(Z2 (Zp 8 Zj.nd rfl (Or.inl rfl) (Z5 bj hr (Z0 (pv 0) Z1))) Zd),?_⟩;refine⟨_,rfl,r,ts,rfl,dv.mono tw.gS,by omega,fun sd H3 _ g3 e_s=>?_⟩;have tw:=tw.same g3;have sl:=Ov ts;refine⟨_,(Z2 (Yy zQ rfl (Xb rfl ao (Z0 (pv 3) Z1)) (Za (i:=9) Zj.nd rfl (Or.inl rfl))
 (Z2 (rg (R4 (i:=10) Zj.nd rfl rfl (own:=["stretch","many"]) (Sw rfl rfl) (iY (Q4 Al PySem.F.slot_dict_items PySem.F.type_dict_items Py (pv 8)))
  (fun _ _ _ _ _=>(Ue K 2 rfl rfl (Zc (Za (i:=0) Xk rfl (Or.inl rfl) (Or.inr rfl)) (Zc (Za (i:=1) Xk rfl (Or.inl rfl) (Or.inr rfl)) Yb)))) (fun _ _ _ _ _=>Vi)
  (fun _ _ _ _ _=>(Y4 (Z0 (pv 0) (Z0 (Z9 X4 (pv 1) (Wf (X0 hr) (pv 8) (pv 0) Z3 ⟨rfl,rfl,rfl,rfl⟩)) Z1))))))
 (Z2 (R4 (i:=11) Zj.nd rfl rfl (own:=["stretch","many"]) (Sw rfl rfl) (Yi (pv 10))
  (fun _ _ _ _ _=>(Ue K 2 rfl rfl (Zc (Za (i:=0) Xj rfl (Or.inl rfl) (Or.inr rfl)) (Zc (Za (i:=1) Xj rfl (Or.inl rfl) (Or.inr rfl)) Yb)))) (fun _ _ _ _ _=>(Tl (Zn To (pv 1) Z3 (Zk _))))
  (fun _ _ _ _ _=>(Y4 (Z0 (pv 0) (Z0 (pv 1) Z1)))))
 (Z2 (W6 (fX PySem.F.plainAttrs_list PySem.F.slot_list_extend PySem.F.type_list_extend l9 (pv 7) (Z0 (pv 11) Z1)))
 (Z8 (Zp 8 Zj.nd rfl (Or.inl rfl) (Z5 a9 hr (Z0 (Y4 Z1) (Z0 (Wp (own:=["stretch","many"]) (Sw rfl rfl) (Yi (pv 11))
  (fun _ _ _ _ _=>(Ue K 2 rfl rfl (Zc (Za (i:=0) Xi rfl (Or.inl rfl) (Or.inr rfl)) (Zc (Za (i:=1) Xi rfl (Or.inl rfl) (Or.inr rfl)) Yb)))) (fun _ _ _ _ _=>Vi)
  (fun _ _ _ _ _=>(Y4 (Z0 (Z5 bG hr (Z0 (pv 0) Z1)) (Z0 (pv 1) Z1))))) Z1))))))))) Zd),?_⟩
 refine⟨_,rfl,or,rfl,by omega,by omega,?_⟩;refine X8 (lo:=0) (n:=or.toNat) (fun i σ H'=>∃(o9 o10 o11:Option V)(sd:Addr)(as:List Addr),σ=[some (.ref r),some (.ref q),some (.int Cq),some (.int or),some (.ref cc),some (.int total),some (.ref d),some (.ref L),some (.ref sd),o9,o10,o11]∧Tw H d L qs (cv qs (aE ts) i) as H'∧H' sd=some (.dT (af (stn qs (aE ts) i)))) ⟨_,_,_,sd,[],rfl,tw,e_s⟩ ?_ ?_
 ·clear tw e_s g3;rintro i σ H4 N B1 R hN hR hi ⟨o9,o10,o11,sd,as,rfl,tw,e_s⟩;have fl:=fU qs (aE ts) i;have stl:=jD qs (aE ts) i;have asl:=zd tw.pL;have fb:i*(aE ts).length≤20*500:=Nat.mul_le_mul (by omega) (by omega);have hF:cv qs (aE ts) (i+1)=cv qs (aE ts) i++exc qs (stn qs (aE ts) i):=rfl;have hS:stn qs (aE ts) (i+1)=upS (exc qs (stn qs (aE ts) i)):=rfl;rw[hF,hS]at hN;generalize stn qs (aE ts) i=st at e_s stl hN;refine⟨sd,_,e_s,?_⟩;refine⟨_,rfl,S2 e_s,sd,_,rfl,rfl,e_s,fun v n_v=>?_⟩;have gz:=Z6 n_v (bV v sd);have tw:=tw.same gz;have e_s:=gz _ _ e_s;have e_v:(upd H4 v (bV v sd)) v=some (bV v sd):=Z4;generalize upd H4 v (bV v sd)=H5 at tw e_s e_v⊢;refine⟨v,sd,_,rfl,e_v,e_s,fun o=>?_⟩;have ds:d≠sd→(upd H5 sd (.frz o (.dT (af st)))) d=some (.dT (af qs)):=fun z=>by rw[Zb z];exact tw.e_d
  refine gF (fun j ys H'=>Same (upd H5 sd (.frz o (.dT (af st)))) H'∧∃bs:List Addr,ys=bs.map V.ref∧Paired (FT H') bs ((st.take j).map fun p=>(p.1,p.2-cnt qs p.1))) ⟨Same.refl _,[],rfl,.nil⟩ ?_ ?_ ?_
  ·rintro j ys H' ⟨g,bs,rfl,pb⟩;have bl:=zd pb;rw[pi,zu]at bl;exact⟨g _ _ Z4,Zq (by rw[pi];omega)⟩
  ·rintro j p0 b T ys H' C hp0 Cw n_T ⟨g,bs,rfl,pb⟩ hC;obtain⟨p,hp,rfl⟩:=wG hp0;have gT:=Z6 n_T (.tup [.ref b,.int p.2]);have e_T:(upd H' T (.tup [.ref b,.int p.2])) T=some (.tup [.ref b,.int p.2]):=Z4;have pb:=Paired.mapP pb fun _ _ f=>Zv gT f;have Cw:KAt (upd H' T (.tup [.ref b,.int p.2])) b p.1:=gT _ _ Cw;have g:=g.trans gT;generalize upd H' T (.tup [.ref b,.int p.2])=H6 at e_T pb Cw g⊢;have dg:∃v0,DGet H6 d (.ref b) v0∧v0.getD (.int 0)=.int (cnt qs p.1):=by
    by_cases z:d=sd
    ·have a:=tw.e_d;rw[z,e_s]at a;injection a with a
     injection a with a
     rw[z];exact⟨_,.inr ⟨_,kk p.1,b,.inr ⟨o,g _ _ Z4⟩,rfl,Cw,rfl⟩,by rw[a];exact W0 _ _⟩
    ·exact⟨_,X7 (g _ _ (ds z)) Cw,W0 _ _⟩
   have isd:IsD H6 d:=by
    by_cases z:d=sd
    ·rw[z];exact .inr ⟨_,.inr ⟨o,g _ _ Z4⟩⟩
    ·exact .inr ⟨_,.inl (g _ _ (ds z))⟩
   obtain⟨v0,dg1,dg2⟩:=dg;refine⟨T,_,rfl,SqT.of e_T,rfl,_,_,rfl,_,_,rfl,rfl,Wk.refl _,_,rfl,_,rfl,_,rfl,d,rfl,isd,_,rfl,v0,dg1,p.2,cnt qs p.1,rfl,dg2,leN rfl,fun u n_u=>hC _ _ ⟨g.trans (Z6 n_u _),bs++[u],by rw[zk];rfl,?_⟩⟩;rw[Zx hp,zk];have gu:=Z6 n_u (.tup [.ref b,.int (p.2-cnt qs p.1)]);exact Paired.snoc (Paired.mapP pb fun _ _ f=>Zv gu f) ⟨b,Z4,gu _ _ Cw⟩
  rintro ys H6 ⟨g6,bs,rfl,pb⟩;rw[Zs,zG]at pb;have bl:=zd pb;rw[pi]at bl;refine⟨Ze (by rw[pi];omega),fun p n_p=>?_⟩;have g7:=g6.trans (Z6 n_p (.lst (bs.map V.ref)));have pd:p≠sd:=fun z=>by rw[z,g6 _ _ Z4]at n_p;cases n_p
  have sz:=S4 e_s g7;have Cy:(upd (upd H6 p (.lst (bs.map V.ref))) sd (.dT (af st))) p=some (.lst (bs.map V.ref)):=by rw[Zb pd];exact Z4
  have tS:∀{x:Addr}{xs:List V},H6 x=some (.tup xs)→(upd (upd H6 p (.lst (bs.map V.ref))) sd (.dT (af st))) x=some (.tup xs):=fun{x xs} e=>by
   rw[Zb (fun z=>by rw[z,g6 _ _ Z4]at e;cases e),Zb (Zi e n_p)];exact e
  have pb:=Paired.mapP pb fun _ _ ⟨y,f1,f2⟩=>(⟨y,tS f1,tS f2⟩:FT _ _ _);refine⟨o,g7 _ _ Z4,?_⟩;have tw:=tw.same sz;clear tS g6 g7 n_p sz e_v ds n_v;generalize upd (upd H6 p (.lst (bs.map V.ref))) sd (.dT (af st))=H7 at Cy pb tw⊢;refine⟨_,rfl,p,rfl,⟨_,SqL.of Cy⟩,?_⟩;refine Xe (xs:=bs.map V.ref) (fun j ys H'=>Same H7 H'∧∃us:List Addr,ys=us.map V.ref∧us.length≤j∧Paired (FT H') us (((st.map fun p=>(p.1,p.2-cnt qs p.1)).take j).filter fun p=>decide (0<p.2))) ⟨Same.refl _,[],rfl,yM _,.nil⟩ ?_ ?_ ?_
  ·rintro j ys H' _ ⟨g,_⟩;exact SqL.of (g _ _ Cy)
  ·rintro j x ys H' C hx ⟨g,us,rfl,ul,pu⟩ hC;obtain⟨a,p1,rfl,hp1,b,e1,e2⟩:=Sb pb hx;have jl:=(yZ.mp hp1).1;rw[pi]at jl;refine⟨Zq (by rw[pi];omega),a,_,rfl,SqT.of (g _ _ e1),rfl,_,_,rfl,_,_,rfl,rfl,Wk.refl _,_,rfl,_,_,rfl,rfl,_,rfl,?_⟩;by_cases c:p1.2 > 0
   ·rw[yX c];refine Wv ⟨_,rfl,_,rfl,leN rfl,fun u n_u=>hC _ _ ⟨g.trans (Z6 n_u _),us++[u],by rw[zk];rfl,by rw[yR];show us.length+1≤_;omega,?_⟩⟩;rw[Zx hp1,AL,zN,yL (yX c)];have gu:=Z6 n_u (.tup [.ref b,.int p1.2]);exact Paired.snoc (Paired.mapP pu fun _ _ f=>Zv gu f) ⟨b,Z4,gu _ _ (g _ _ e2)⟩
   ·rw[zA c];refine Ww (hC _ _ ⟨g,us,rfl,by omega,?_⟩);rw[Zx hp1,List.filter_append,List.filter_cons,if_neg (by simpa using c),List.filter_nil,List.append_nil];exact pu
  rintro ys H8 ⟨g8,us,rfl,ul,pu⟩;rw[show(bs.map V.ref).length=(st.map fun p=>(p.1,p.2-cnt qs p.1)).length by rw[pi,pi,bl],zG]at pu;rw[pi,bl]at ul;have pu:Paired (FT H8) us (exc qs st):=pu;refine⟨Ze (by rw[pi];omega),fun l n_l=>?_⟩;have lL:l≠L:=fun z=>by rw[z,g8 _ _ tw.e_L]at n_l;cases n_l
  have gz:=g8.trans (Z6 n_l (.lst (us.map V.ref)));have tw:=tw.same gz;have pu:=Paired.mapP pu fun _ _ f=>Zv (Z6 n_l (.lst (us.map V.ref))) f;have CB:(upd H8 l (.lst (us.map V.ref))) l=some (.lst (us.map V.ref)):=Z4;clear gz g8 pb Cy;generalize upd H8 l (.lst (us.map V.ref))=H9 at tw pu CB⊢;have exl:=dE qs st;have ull:=zd pu;refine⟨_,rfl,.inl ⟨rfl,_,SqL.of tw.e_L⟩,_,rfl,L,l,_,_,rfl,rfl,tw.e_L,CB,Ze (by rw[pi,pi];omega),?_⟩;have tL:∀{x:Addr}{xs:List V}{o:HO},H9 x=some (.tup xs)→(upd H9 L o) x=some (.tup xs):=fun{x xs o} e=>by
   rw[Zb (fun z=>by rw[z,tw.e_L]at e;cases e)];exact e
  have hL:∀{x:Addr}{xs:List V}{o:HO},H9 x=some (.tup xs)→am L (upd H9 L o) x=some (.tup xs):=fun{x xs o} e=>by
   rw[Zh (fun z=>by rw[z,tw.e_L]at e;cases e)];exact tL e
  rw[←zk];have tw2:Tw H d L qs (cv qs (aE ts) i++exc qs st) (as++us) (upd H9 L (.lst ((as++us).map V.ref))):=by
   refine⟨Vh tw.gS ym,?_,Z4,Uc ?_ ?_⟩
   ·rw[Zb (fun z=>by have:=tw.e_d;rw[z,tw.e_L]at this;cases this)];exact tw.e_d
   ·exact Paired.mapP tw.pL fun _ _ ⟨y,f1,f2⟩=>⟨y,hL (Z7 f1).2,hL (Z7 f2).2⟩
   ·exact Paired.mapP pu fun _ _ ⟨y,f1,f2⟩=>⟨y,hL f1,hL f2⟩
  have pu2:Paired (FT (upd H9 L (.lst ((as++us).map V.ref)))) us (exc qs st):=Paired.mapP pu fun _ _ ⟨y,f1,f2⟩=>⟨y,tL f1,tL f2⟩;have bL:(upd H9 L (.lst ((as++us).map V.ref))) l=some (.lst (us.map V.ref)):=by rw[Zb lL];exact CB
  clear tw pu CB tL hL;generalize upd H9 L (.lst ((as++us).map V.ref))=G1 at tw2 pu2 bL⊢;refine⟨leN rfl,fun t n_t=>?_⟩;have gz:=Z6 n_t (.tup []);have tw2:=tw2.same gz;have pu2:=Paired.mapP pu2 fun _ _ f=>Zv gz f;have bL:=gz _ _ bL;have CG:(upd G1 t (.tup [])) t=some (.tup []):=Z4;clear gz n_t;generalize upd G1 t (.tup [])=G2 at tw2 pu2 bL CG⊢;refine⟨_,rfl,l,rfl,⟨_,SqL.of bL⟩,?_⟩;refine Xe (xs:=us.map V.ref) (fun j ys H'=>Same G2 H'∧∃ws:List Addr,ys=ws.map V.ref∧Paired (FT H') ws (((exc qs st).take j).map fun p=>(ag p.1,p.2))) ⟨Same.refl _,[],rfl,.nil⟩ ?_ ?_ ?_
  ·rintro j ys H' _ ⟨g,_⟩;exact SqL.of (g _ _ bL)
  ·rintro j x ys H' C hx ⟨g,ws,rfl,pw⟩ hC;obtain⟨a,p1,rfl,hp1,b,e1,e2⟩:=Sb pu2 hx;have jl:=(yZ.mp hp1).1;have wl:=zd pw;rw[pi,zu]at wl;refine⟨Zq (by rw[pi];omega),a,_,rfl,SqT.of (g _ _ e1),rfl,_,_,rfl,_,_,rfl,rfl,Wk.refl _,_,rfl,b,p1.1,rfl,g _ _ e2,fun y n_y=>?_⟩;have g1:=Z6 n_y (.tup [.int (ag p1.1).1,.int (ag p1.1).2]);have e_y:KAt (upd H' y (.tup [.int (ag p1.1).1,.int (ag p1.1).2])) y (ag p1.1):=Z4;have pw:=Paired.mapP pw fun _ _ f=>Zv g1 f;have g:=g.trans g1;generalize upd H' y (.tup [.int (ag p1.1).1,.int (ag p1.1).2])=G3 at e_y pw g⊢;refine⟨_,rfl,leN rfl,fun u n_u=>hC _ _ ⟨g.trans (Z6 n_u _),ws++[u],by rw[zk];rfl,?_⟩⟩;have gu:=Z6 n_u (.tup [.ref y,.int p1.2]);rw[Zx hp1,zk];exact Paired.snoc (Paired.mapP pw fun _ _ f=>Zv gu f) ⟨y,Z4,gu _ _ e_y⟩
  rintro ys G3 ⟨g3,ws,rfl,pw⟩;rw[pi,ull,zG]at pw;have wl:=zd pw;rw[pi]at wl;refine⟨Ze (by rw[pi];omega),fun m n_m=>?_⟩;have gz:=g3.trans (Z6 n_m (.lst (ws.map V.ref)));have tw2:=tw2.same gz;have CG:=gz _ _ CG;have pw:=Paired.mapP pw fun _ _ f=>Zv (Z6 n_m (.lst (ws.map V.ref))) f;have e_m:(upd G3 m (.lst (ws.map V.ref))) m=some (.lst (ws.map V.ref)):=Z4;clear gz g3 n_m;generalize upd G3 m (.lst (ws.map V.ref))=G4 at tw2 CG pw e_m⊢;refine⟨t,m,ws,_,rfl,CG,e_m,pw,by rw[pi];omega,fun sd2 G5 _ g5 e_s2=>?_⟩;exact hN _ _ ⟨_,_,_,sd2,as++us,rfl,tw2.same g5,e_s2⟩
 ·rintro σ H4 ⟨o9,o10,o11,sd,as,rfl,tw,e_s⟩;refine⟨_,(Z8 (Zg (pv 7))),?_⟩;exact⟨_,rfl,hq L _ ym tw.gS ⟨as,tw.e_L,Paired.mapP tw.pL fun _ _ f=>Zv Xl f⟩⟩
def yG:Sp:=fun vs H Q _=>∃(r q:Addr)(ts:List Th)(Cq or:Int)(qs:Sps),vs=[.ref r,.ref q]∧DV H (.ref r) (bf ts)∧ts.length≤500∧LadAt H q Cq or (aj qs) qs∧Pok or qs∧qs.length≤400∧0≤or∧or≤20∧(∀t∈ts,0≤t.num∧1≤t.many)∧(¬((∀t∈ts,t.num<2^or.toNat)∧Can qs (a8 ts))→∀H',Same H H'→Q .non H')∧((∀t∈ts,t.num<2^or.toNat)∧Can qs (a8 ts)→∀(p:Addr)(H':Hp),H p=none→Same H H'→PprAt H' p (cv qs (aE ts) or.toNat)→Q (.ref p) H')
def iP:Sp:=fun vs H Q _=>∃(r q:Addr)(ts:List Th)(Cq or:Int)(qs:Sps),vs=[.ref r,.ref q]∧DV H (.ref r) (bf ts)∧ts.length≤500∧LadAt H q Cq or (aj qs) qs∧Pok or qs∧qs.length≤400∧0≤or∧or≤20∧(∀t∈ts,0≤t.num∧1≤t.many)∧∀(b:Bool)(H':Hp),Same H H'→(b=true↔(∀t∈ts,t.num<2^or.toNat)∧Can qs (a8 ts))→Q (.bl b) H'
theorem yC(cS:Has P w K mg base "folds_towards" 3 ["stream","ladder"] uF)(gR:Has P w K mg base "is_folded" 5 ["stream","ladder","paper"] fG)(F:Fun K "paper_for" "paper_for" bH f fd):FnOk P w K mg base CX0 6 f fd ["stream","ladder"] yG:=by
 refine F.ok Ti (fun vs H Q E h=>?_) (fun cdv A outer s H vs Q E hr h=>?_)
 ·obtain⟨r,q,ts,Cq,or,qs,rfl,_⟩:=h;rfl
 obtain⟨r,q,ts,Cq,or,qs,rfl,dv,tl,lad,o,ql,d0,d1,th,hq0,hq1⟩:=h;have sl:=Ov ts;have fl:=fU qs (aE ts) or.toNat;have fb:or.toNat*(aE ts).length≤20*500:=Nat.mul_le_mul (by omega) (by omega);refine⟨_,(Z2 (Zp 2 Ti.nd rfl (Or.inl rfl) (Z5 cS hr (Z0 (pv 0) (Z0 (pv 1) Z1)))) Zd),?_⟩;refine⟨_,rfl,_,rfl,r,q,ts,Cq,or,_,qs,rfl,dv,tl,lad,o.kok.nd,ql,d0,d1,fun p H1 n_p g1 pp=>?_⟩;refine⟨_,(Z8 (Zg (pH (T3 (Z5 gR hr (Z0 (pv 0) (Z0 (pv 1) (Z0 (pv 2) Z1))))) (pv 2) pD))),?_⟩;refine⟨_,rfl,_,rfl,_,rfl,r,q,p,ts,Cq,or,_,qs,_,rfl,dv.mono g1,by omega,lad.mono g1,o.kok.nd,ql,d0,d1,pp,by omega,fun H2 g2=>?_⟩;have ok:=vU d0 o th;refine⟨_,rfl,?_⟩;cases e:di or (aj qs) ts qs (cv qs (aE ts) or.toNat) with
 |true=>
  refine Wv ⟨_,rfl,hq1 (ok.mp e) p H2 n_p (g1.trans g2) (pp.mono g2)⟩
 |false=>
  refine Ww (hq0 (fun z=>?_) H2 (g1.trans g2));rw[ok.mpr z]at e;cases e
theorem rC(eF:Has P w K mg base "paper_for" 6 ["stream","ladder"] yG)(F:Fun K "fits" "fits" ie f fd):FnOk P w K mg base CX0 7 f fd ["stream","ladder"] iP:=by
 refine F.ok rG (fun vs H Q E h=>?_) (fun cdv A outer s H vs Q E hr h=>?_)
 ·obtain⟨r,q,ts,Cq,or,qs,rfl,_⟩:=h;rfl
 obtain⟨r,q,ts,Cq,or,qs,rfl,dv,tl,lad,o,ql,d0,d1,th,hq⟩:=h;refine⟨_,(Z8 (Zg (Xu rM (Z5 eF hr (Z0 (pv 0) (Z0 (pv 1) Z1))) pD (Zk _)))),?_⟩;refine⟨_,rfl,_,rfl,r,q,ts,Cq,or,qs,rfl,dv,tl,lad,o,ql,d0,d1,th,fun no H1 g1=>⟨rfl,?_⟩,fun yes p H1 _ g1 _=>⟨rfl,?_⟩⟩
 ·exact hq false _ g1 ⟨(fun z=>nomatch z),fun z=>absurd z no⟩
 ·exact hq true _ g1 ⟨fun _=>yes,fun _=>rfl⟩
theorem tD{g:Int×Int→Int}(G:cT g):∀(h:Nat)(j n:Int),0≤j→aw ((h:Int),j)≤n→n≤au ((h:Int),j)→g ((h:Int),j)≤g (0,n):=by
 intro h
 induction h with
 |zero=>
  intro j n _ a b;have e1:aw (((0:Nat):Int),j)=j:=uC j;have e2:au (((0:Nat):Int),j)=j:=uN j;have e:j=n:=by omega
  rw[e];exact zJ _
 |succ h ih=>
  intro j n j0 a b;have z:=G (h:Int) j (by omega) j0;have e:(((h+1:Nat):Int),j)=upK h j:=Ad (by show((h+1:Nat):Int)=(h:Int)+1;omega) rfl;rw[e]at a b⊢;have p:=Yz h;have pw:(2:Int)^(h+1)=2^h*2:=Ci _ _;have t1:((h:Int)+1).toNat=h+1:=by omega
  have t0:((h:Int)).toNat=h:=by omega
  have f1:aw (upK h j)=j*(2^h*2):=by show j*2^((h:Int)+1).toNat=_;rw[t1,pw]
  have l1:au (upK h j)=(j+1)*(2^h*2)-1:=by show(j+1)*2^((h:Int)+1).toNat-1=_;rw[t1,pw]
  have f2:aw ((h:Int),2*j)=2*j*2^h:=by show 2*j*2^((h:Int)).toNat=_;rw[t0]
  have l2:au ((h:Int),2*j)=(2*j+1)*2^h-1:=by show(2*j+1)*2^((h:Int)).toNat-1=_;rw[t0]
  have f3:aw ((h:Int),2*j+1)=(2*j+1)*2^h:=by show(2*j+1)*2^((h:Int)).toNat=_;rw[t0]
  have l3:au ((h:Int),2*j+1)=(2*j+1+1)*2^h-1:=by show(2*j+1+1)*2^((h:Int)).toNat-1=_;rw[t0]
  have q1:j*(2^h*2)=2*j*2^h:=by rw[Cm (2^h) 2,←AQ,Cm j 2]
  have q2:(j+1)*(2^h*2)=(2*j+1+1)*2^h:=by rw[Cm (2^h) 2,←AQ];congr 1;omega
  rcases Cg n ((2*j+1)*2^h)with c | c
  ·exact Ax z.1 (ih (2*j) n (by omega) (by omega) (by omega))
  ·exact Ax z.2 (ih (2*j+1) n (by omega) (by omega) (by omega))
theorem sy{g:Int×Int→Int}(G:cT g){k:Int×Int}(k0:0≤k.1)(k2:0≤k.2){n:Int}(a:aw k≤n)(b:n≤au k):g k≤g (0,n):=by
 have e:((k.1.toNat:Nat):Int)=k.1:=by omega
 have q:=tD G k.1.toNat k.2 n k2;rw[e]at q;exact q a b
theorem m8(g:Int×Int→Int)(a b:Sps):wS g (a++b)=wS g a+wS g b:=by
 unfold wS;rw[zk,BN]
theorem oI(g:Int×Int→Int)(k:Int×Int)(n:Int):wS g [(k,n)]=n*g k:=by
 rw[Yq];exact B5 _
theorem wf(g:Int×Int→Int)(t:Th):wT g [t]=t.many*g (0,t.num):=by
 unfold wT;rw[yQ,B0,zo,List.sum_nil,B5]
theorem tY{A:Sps}{k:Int×Int}{x m day n:Int}{wd:Str}{ts:List Th}(k0:0≤k.1)(k2:0≤k.2)(a:aw k≤n)(b:n≤au k)(m0:0≤m)(h:Dom (A++[(k,x)]) ts):Dom (A++[(k,x+m)]) (ts++[⟨day,wd,n,m⟩]):=fun g G=>by
 have q:=h g G;have r:=Int.mul_le_mul_of_nonneg_left (sy G k0 k2 a b) m0;rw[m8,oI]at q⊢;rw[iL,wf,Ba];show wS g A+(x*g k+m*g k)≤wT g ts+m*g (0,n);omega
theorem Sd{ps qs:Sps}{ts:List Th}(p:ps.Perm qs)(h:Dom ps ts):Dom qs ts:=fun g G=>by
 have e:wS g qs=wS g ps:=Vx (p.symm.map _);rw[e];exact h g G
theorem qU{α:Type}(xs:List α)(y:α)(i:Nat):(xs++[y]).Perm (xs.take i++y::xs.drop i):=by
 have e:=Ag i xs;have p:(xs.take i++y::xs.drop i).Perm (y::(xs.take i++xs.drop i)):=List.perm_middle;rw[e]at p;exact(List.perm_append_singleton y xs).trans p.symm
theorem oK{α β:Type}{R:α→β→Prop}{xs:List α}{ys:List β}(h:Paired R xs ys):∀n,Paired R (xs.take n) (ys.take n):=by
 induction h with
 |nil=>intro n;rw[List.take_nil,List.take_nil];exact .nil
 |cons a _ ih=>
  intro n;cases n with
  |zero=>exact .nil
  |succ n=>exact .cons a (ih n)
theorem pT{α β:Type}{R:α→β→Prop}{xs:List α}{ys:List β}(h:Paired R xs ys):∀n,Paired R (xs.drop n) (ys.drop n):=by
 induction h with
 |nil=>intro n;rw[List.drop_nil,List.drop_nil];exact .nil
 |cons a r ih=>
  intro n;cases n with
  |zero=>exact .cons a r
  |succ n=>exact ih n
structure DeS(K:W.Frag)(S:Addr)(ns:List Int)(H0:Hp)(a L l:Addr)(or:Int)(bs:List Addr)(ks:List (Int×Int))(H:Hp)(xs:List V)(ts:List Th):Prop where
 ss:StrS K S ns H0 a L or H xs ts
 el:H l=some (.lst (bs.map V.ref))
 ka:KsAt H bs ks
section
variable{K:W.Frag}{S a L l:Addr}{ns:List Int}{H0 H H':Hp}{or:Int}{xs:List V}{ts:List Th}{bs:List Addr}{ks:List (Int×Int)}
theorem DeS.grw(h:DeS K S ns H0 a L l or bs ks H xs ts)(La:L≠a)(la:l≠a)(hp:Pn K S ns H' a)(g:Grw a H H'):DeS K S ns H0 a L l or bs ks H' xs ts:=⟨h.ss.grw La hp g,(Z7 (g l _ (by rw[Zh la];exact h.el))).2,h.ka.mono fun b xs e=>oD h.ss.pn g e⟩
theorem DeS.same(h:DeS K S ns H0 a L l or bs ks H xs ts)(La:L≠a)(la:l≠a)(g:Same H H'):DeS K S ns H0 a L l or bs ks H' xs ts:=h.grw La la (h.ss.pn.same g) (h.ss.pn.grw g)
theorem DeS.ins(h:DeS K S ns H0 a L l or bs ks H xs ts)(La:L≠a)(lL:l≠L){H1:Hp}(hp1:Pn K S ns H1 a)(n1:H1 L=none)(n0:am a H0 L=none){c:Addr}{t:Th}(ec:H c=some (.tup t.vs))(ht:ThK or t)(i:Nat):DeS K S ns H0 a L l or bs ks (upd H L (.lst (xs.take i++.ref c::xs.drop i))) (xs.take i++.ref c::xs.drop i) (ts.take i++t::ts.drop i):=by
 have tp:∀(b:Addr)(ys:List V),H b=some (.tup ys)→upd H L (.lst (xs.take i++.ref c::xs.drop i)) b=some (.tup ys):=fun b ys e=>by rw[Zb (V6 e h.ss.eL (by intro z;cases z))];exact e
 have ta:=h.ss.ta.tup tp;refine⟨⟨jN hp1 n1 h.ss.pn La,dS h.ss.g n0,Z4,Uc (oK ta i) (.cons ⟨c,rfl,tp _ _ ec⟩ (pT ta i)),fun x hx=>?_⟩,by rw[Zb lL];exact h.el,h.ka.mono tp⟩
 rcases ze.mp hx with hx | hx
 ·exact h.ss.ok x (AO hx)
 rcases y8.mp hx with rfl | hx
 ·exact ht
 ·exact h.ss.ok x (Bx hx)
end
def muD9(σ:St)(_:Hp):Nat:=match List.getD σ 5 none with
 |some (.int n)=>n.toNat
 |_=>0
theorem xm:PyData.strOk "ab"=true:=by decide +kernel
def uu(K:W.Frag):Sp:=fun vs H Q _=>∃(a S d:Addr)(ns:List Int)(or:Int)(qs:Sps),vs=[.ref a,.ref d]∧Pn K S ns H a∧am a H d=some (.dT (af qs))∧Pok or qs∧1≤or∧or≤10∧qs.length≤60∧∀(L:Addr)(ts:List Th)(H':Hp),H L=none→(∀t∈ts,ThK or t)→ts.length≤161+qs.length→Dom qs ts→DV (am a H') (.ref L) (bf ts)→Pn K S ns H' a→Grw a H H'→Q (.ref L) H'
theorem t7{or:Int}{k:Int×Int}(h0:0≤k.1)(h1:k.1≤or)(h2:0≤k.2)(h3:k.2<2^(or-k.1).toNat):au k≤2^or.toNat-1:=by
 unfold au;have e:(2:Int)^or.toNat=2^(or-k.1).toNat*2^k.1.toNat:=by
  rw[←Int.pow_add,show(or-k.1).toNat+k.1.toNat=or.toNat by omega]
 have p:=Yz k.1.toNat;have q:(k.2+1)*2^k.1.toNat≤2^(or-k.1).toNat*2^k.1.toNat:=AE (by omega) (by omega);omega
theorem uX(cw:mg "min"=none)(aC:mg "len"=none)(ax:mg "sorted"=none)(ae:Has P w K mg base "_law_take" 1 ["_law_pen_here","_law_most"] (bw K))(bQ:Has P w K mg base "_law_many" 2 ["_law_pen_here"] (ez K))(bn:Has P w K mg base "_law_first" 1 ["_law_stretch"] sC)(du:Has P w K mg base "_law_last" 2 ["_law_stretch"] vO)(F:Fun K "_law_dealt" "_law_dealt" cN f fd):FnOk P w K mg base CX0 4 f fd ["_law_pen_here","_law_now"] (uu K):=by
 refine F.ok Yl (fun vs H Q E h=>?_) (fun cdv A outer s H vs Q E hr h=>?_)
 ·obtain⟨a,S,d,ns,or,qs,rfl,_⟩:=h;rfl
 obtain⟨a,S,d,ns,or,qs,rfl,hp,e_d,po,d0,d1,pl,hq⟩:=h;have hpH:=hp;have nd:=po.kok.nd;refine⟨_,(Z2 (Zp 2 Yl.nd rfl (Or.inl rfl) (Y1 Z1)) Zd),leN rfl,fun L n_L=>?_⟩;have La:=hp.ne n_L;have nHL:am a H L=none:=by rw[Zh La];exact n_L
 have ss:StrS K S ns H a L or (upd H L (.lst [])) [] []:=⟨hp.laid n_L,hp.grw (Z6 n_L _),Z4,.nil,fun _ h=>absurd h zC⟩;generalize upd H L (.lst [])=H1 at ss⊢;clear hp;refine⟨_,(Z2 (Zp 3 Yl.nd rfl (Or.inl rfl) (Yp Yt (Y1 (Z0 Z3 (Z0 Z3 (Z0 Z3 (Z0 Z3 Z1))))) (Z5 ae hr (Z0 (pv 0) (Z0 Z3 Z1))))) Zd),?_⟩;refine Yx (fun σ' H'=>∃most:Int,σ'=[some (.ref a),some (.ref d),some (.ref L),some (.int most),none,none,none,none,none]∧StrS K S ns H a L or H' [] []∧40≤most∧most≤160) ?_ ?_
 ·intro nx hnx;refine⟨leN rfl,fun u n_u=>?_⟩;have ua:=ss.pn.ne n_u;have ss:=ss.laid (o:=.lst [.int 40,.int 40,.int 40,.int 160]) La n_u;have e_u:am a (upd H1 u (.lst [.int 40,.int 40,.int 40,.int 160])) u=some (.lst [.int 40,.int 40,.int 40,.int 160]):=by rw[Zh ua];exact Z4
  generalize upd H1 u (.lst [.int 40,.int 40,.int 40,.int 160])=H2 at ss e_u⊢;refine⟨_,rfl,a,S,ns,4,rfl,ss.pn,Xz rfl,ltI rfl,fun z H3 y0 y1 hp g=>?_⟩;have ss:=ss.grw La hp g;have e_u:=(Z7 (g _ _ e_u)).2
  rcases(show z=0∨z=1∨z=2∨z=3 by omega)with rfl | rfl | rfl | rfl
  ·exact⟨u,_,0,_,rfl,rfl,SqL.of e_u,rfl,hnx _ _ ⟨40,rfl,ss,by decide,by decide⟩⟩
  ·exact⟨u,_,1,_,rfl,rfl,SqL.of e_u,rfl,hnx _ _ ⟨40,rfl,ss,by decide,by decide⟩⟩
  ·exact⟨u,_,2,_,rfl,rfl,SqL.of e_u,rfl,hnx _ _ ⟨40,rfl,ss,by decide,by decide⟩⟩
  ·exact⟨u,_,3,_,rfl,rfl,SqL.of e_u,rfl,hnx _ _ ⟨160,rfl,ss,by decide,by decide⟩⟩
 clear ss;rintro σ H2 ⟨most,rfl,ss,mo0,mo1⟩;refine⟨_,(Z2 (Yy zQ rfl (Yi (Zf (U4 rfl hr.units) rfl ax AI (Z0 (pv 1) Z1))) (Za (i:=4) Yl.nd rfl (Or.inl rfl))
 (Z2 (Zp 5 Yl.nd rfl (Or.inl rfl) (Wo (X0 hr) (pv 1) (pv 4) (fun _ _=>rfl)))
 (Z8 (Ry zQ (Zn To (pv 5) Z3 (Zk _)) (Z2 (Zp 6 Yl.nd rfl (Or.inl rfl) (Zf (Sh rfl) rfl cw PyProof.Rows.boot_min (Z0 (pv 5) (Z0 (Z5 bQ hr (Z0 (pv 0) Z1)) Z1))))
 (Z2 (Yu (Zn To (Zf Zw rfl aC Az (Z0 (pv 2) Z1)) (pv 3) (Zk _)) (Z8 (Zp 6 Yl.nd rfl (Or.inl rfl) (pv 5))) Zu)
 (Z2 (Zp 7 Yl.nd rfl (Or.inl rfl) (Z5 bn hr (Z0 (pv 4) Z1)))
 (Z2 (Zp 8 Yl.nd rfl (Or.inl rfl) (Z9 Zm (pv 7) (Z5 ae hr (Z0 (pv 0) (Z0 (Z9 Zm (Z9 X4 (Z5 du hr (Z0 (pv 4) Z1)) (pv 7)) Z3) Z1)))))
 (Z2 (W6 (fX PySem.F.plainAttrs_list PySem.F.slot_list_insert PySem.F.type_list_insert mV (pv 2) (Z0 (Z5 ae hr (Z0 (pv 0) (Z0 (Z9 Zm (Zf Zw rfl aC Az (Z0 (pv 2) Z1)) Z3) Z1))) (Z0 (Y4 (Z0 (Z5 ae hr (Z0 (pv 0) (Z0 Z3 Z1))) (Z0 S6 (Z0 (pv 8) (Z0 (pv 6) Z1))))) Z1))))
 (Z8 (Zp 5 Yl.nd rfl (Or.inl rfl) (Z9 X4 (pv 5) (pv 6))))))))))))) Zd),?_⟩
 refine⟨_,rfl,d,qs,rfl,(Z7 (ss.g _ _ e_d)).2,by omega,fun bs ka l n_l=>?_⟩;have la:=ss.pn.ne n_l;have lL:l≠L:=fun z=>by rw[z,ss.eL]at n_l;cases n_l
 have ka:=ka.mono fun b xs e=>Z6 n_l (.lst (bs.map V.ref)) b _ e;have de:DeS K S ns H a L l or bs (bd (qs.map (·.1))) (upd H2 l (.lst (bs.map V.ref))) [] []:=⟨ss.laid La n_l,Z4,ka⟩;generalize upd H2 l (.lst (bs.map V.ref))=H3 at de⊢;clear ss ka n_l;have sl:(bd (qs.map (·.1))).length=qs.length:=by rw[(Yv _).length_eq,pi]
 have bl:=zd de.ka;refine⟨l,rfl,⟨_,SqL.of de.el⟩,?_⟩;refine X3 (xs:=bs.map V.ref) (fun i σ H'=>∃(o4 o5 o6 o7 o8:Option V)(xs:List V)(ts:List Th),σ=[some (.ref a),some (.ref d),some (.ref L),some (.int most),o4,o5,o6,o7,o8]∧DeS K S ns H a L l or bs (bd (qs.map (·.1))) H' xs ts∧ts.length≤161+i∧Dom (((bd (qs.map (·.1))).take i).map fun k=>(k,cnt qs k)) ts) ⟨_,_,_,_,_,[],[],rfl,de,Aa _,fun _ _=>zJ _⟩ ?_ ?_ ?_
 ·rintro i σ H' _ ⟨_,_,_,_,_,_,_,_,de,_⟩;exact SqL.of de.el
 ·clear de;rintro i x σ H4 N B1 R hN hR hx ⟨o4,o5,o6,o7,o8,xs,ts,rfl,de,tl,dm⟩;rw[zc]at hx;obtain⟨b,hb,rfl⟩:=zV.mp hx;obtain⟨k,hk,Cw⟩:=iC de.ka hb;have il:=(yZ.mp hk).1;have km:k∈qs.map (·.1):=(Yv _).mem_iff.mp (zB hk);obtain⟨k0,k1,k2,k3⟩:=po.kok.st k km;have lt:=t7 k0 k1 k2 k3;have z0:0≤aw k:=Ck k2 (Bd (Yz _));have fl:=jg k;have tw:=Xo (m:=k.1) (by omega);have c0:0≤cnt qs k:=Se nd (fun p hp=>by have:=po.pos p hp;omega) k;refine⟨_,rfl,_,rfl,d,_,rfl,(by rw[←Wl km];exact X7 (Z7 (de.ss.g _ _ e_d)).2 Cw),?_⟩;have kat:∀{H':Hp}{xs:List V}{ts:List Th},DeS K S ns H a L l or bs (bd (qs.map (·.1))) H' xs ts→KAt H' b k:=fun h=>by
   obtain⟨k',hk',e⟩:=iC h.ka hb;rw[hk]at hk';cases hk';exact e
  clear Cw;obtain⟨cn,hcn⟩:∃cn:Int,cnt qs k=cn:=⟨_,rfl⟩;rw[hcn]at c0⊢;refine Rh (fun σ H'=>∃(o6 o7 o8:Option V)(lf:Int)(xs:List V)(ts:List Th),σ=[some (.ref a),some (.ref d),some (.ref L),some (.int most),some (.ref b),some (.int lf),o6,o7,o8]∧DeS K S ns H a L l or bs (bd (qs.map (·.1))) H' xs ts∧0≤lf∧(0<lf→ts.length≤161+i)∧ts.length≤162+i∧Dom ((((bd (qs.map (·.1))).take i).map fun k=>(k,cnt qs k))++[(k,cn-lf)]) ts) muD9 ⟨_,_,_,cn,xs,ts,rfl,de,c0,fun _=>tl,by omega,fun g G=>by
   rw[m8,oI,Int.sub_self,Int.zero_mul,B5];exact dm g G⟩ ?_ ?_
  ·clear de dm tl;rintro σ H5 ⟨o6,o7,o8,lf,xs,ts,rfl,de,l0,tl1,tl2,dm⟩;refine⟨_,rfl,_,_,rfl,rfl,_,rfl,Xm (fun cl=>?_) (fun cl=>?_)⟩
   ·have cl:lf > 0:=yW cl;have tl:=tl1 cl;have xl:=zd de.ss.ta;refine⟨_,rfl,_,rfl,a,S,ns,rfl,de.ss.pn,fun n H6 n1 hp g=>⟨lf,n,rfl,?_⟩⟩;have de:=de.grw La la hp g;obtain⟨m,hm,m1,m2⟩:∃m:Int,(if n<lf then n else lf)=m∧1≤m∧m≤lf:=⟨_,rfl,by split <;> omega,by split <;> omega⟩;rw[hm];clear hm hp g;dsimp only;refine Yx (fun σ' H'=>∃m:Int,σ'=[some (.ref a),some (.ref d),some (.ref L),some (.int most),some (.ref b),some (.int lf),some (.int m),o7,o8]∧H'=H6∧1≤m∧m≤lf∧(160<ts.length→m=lf)) ?_ ?_
    ·intro nx hnx;refine⟨_,rfl,L,_,rfl,.inl (SqL.of de.ss.eL),_,rfl,_,_,rfl,rfl,_,rfl,Xm (fun c2=>?_) (fun c2=>?_)⟩
     ·exact⟨_,rfl,hnx _ _ ⟨lf,rfl,rfl,by omega,zJ _,fun _=>rfl⟩⟩
     ·have c2:¬((xs.length:Int) > most):=z6 (z5.mpr c2);exact hnx _ _ ⟨m,rfl,rfl,m1,m2,fun z=>by omega⟩
    rintro σ' H' ⟨m,rfl,rfl,m1,m2,m3⟩;refine⟨_,rfl,b,k,rfl,kat de,k0,by omega,?_⟩;refine⟨_,rfl,_,rfl,_,rfl,b,k,rfl,kat de,k0,by omega,fun H7 g7=>?_⟩;have de:=de.same La la g7;refine⟨_,rfl,_,_,rfl,rfl,_,_,rfl,rfl,a,S,ns,_,rfl,de.ss.pn,by omega,by omega,fun dd H8 x0 x1 hp g=>⟨_,_,rfl,rfl,?_⟩⟩;have de:=de.grw La la hp g;clear hp g g7;obtain⟨num,hnum⟩:∃num:Int,aw k+dd=num:=⟨_,rfl⟩;have q0:aw k≤num:=by omega
    have q1:num≤au k:=by omega
    dsimp only;rw[hnum];refine⟨_,rfl,.inl ⟨rfl,_,SqL.of de.ss.eL⟩,_,rfl,_,rfl,L,_,rfl,.inl (SqL.of de.ss.eL),_,_,rfl,rfl,a,S,ns,_,rfl,de.ss.pn,by omega,by omega,fun ix H9 i0 i1 hp g=>?_⟩;have de:=de.grw La la hp g;obtain⟨j,rfl⟩:∃j:Nat,ix=(j:Int):=⟨ix.toNat,by omega⟩;refine⟨_,rfl,a,S,ns,5,rfl,de.ss.pn,Xz rfl,ltI rfl,fun day H10 _ _ hp g=>?_⟩;have de:=de.grw La la hp g;clear hp g;refine⟨_,rfl,_,rfl,leN rfl,fun u n_u=>?_⟩;have de:=de.same La la (Z6 n_u (.tup [.int day,.str "ab",.int num,.int m]));have e_u:(upd H10 u (.tup [.int day,.str "ab",.int num,.int m])) u=some (.tup (Th.mk day "ab" num m).vs):=Z4;generalize upd H10 u (.tup [.int day,.str "ab",.int num,.int m])=H11 at de e_u⊢;refine⟨L,xs,j,.ref u,rfl,rfl,de.ss.eL,by omega,Zq (by omega),by omega,?_⟩;have de:=de.ins La lL hpH n_L nHL e_u ⟨⟨by show 0≤num;omega,by show num<_;omega,m1⟩,xm⟩ j;have pm:=qU ts ⟨day,"ab",num,m⟩ j;have pe:=pm.length_eq;rw[yR]at pe;have pe:ts.length+1=(ts.take j++(⟨day,"ab",num,m⟩:Th)::ts.drop j).length:=pe;refine⟨_,rfl,_,rfl,_,_,rfl,rfl,⟨_,_,_,lf-m,_,_,rfl,de,by omega,fun z=>?_,?_,?_⟩,?_⟩
    ·by_cases y:160<ts.length
     ·have:=m3 y;omega
     ·omega
    ·omega
    ·have q:=tY (day:=day) (wd:="ab") k0 k2 q0 q1 (by omega:0≤m) dm;rw[show cn-lf+m=cn-(lf-m) by omega]at q;exact gt pm q
    ·show(lf-m).toNat<lf.toNat;omega
   ·have cl:¬lf > 0:=z6 (z5.mpr cl);have e0:lf=0:=by omega
    refine hN _ _ ⟨_,_,_,_,_,xs,ts,rfl,de,by omega,?_⟩;rw[Zx hk,zk];rw[e0,Cj]at dm;show Dom (_++[(k,cnt qs k)]) ts;rw[hcn];exact dm
  ·rintro σ H' Q1 Q2 m ⟨a1,b1,a2,b2,c1,c2,t,g,r⟩;exact⟨a1,b1,a2,b2,c1,c2,t,g,m _ _ r⟩
 ·rintro σ H4 ⟨o4,o5,o6,o7,o8,xs,ts,rfl,de,tl,dm⟩;have el:(bs.map V.ref).length=(bd (qs.map (·.1))).length:=by rw[pi];exact bl
  rw[el]at tl dm;rw[zG]at dm;refine⟨_,(Z8 (Zg (pv 2))),_,rfl,hq L ts H4 n_L de.ss.ok (by omega) (Sd ?_ dm) (.lst (by rw[Zh La];exact de.ss.eL) (de.ss.ta.tup fun x ys e=>?_).dvs) de.ss.pn de.ss.g⟩
  ·have p:=fg nd;unfold cK at p;rw[BW]at p;exact p
  ·exact de.ss.pn.tup e
theorem Nb(z:Int):Builtin.bitNot (Builtin.bitNot z)=z:=by
 unfold Builtin.bitNot;omega
theorem nF{x y:Int}(hx:0≤x)(hy:0≤y):0≤Builtin.bitXor x y:=by
 have nx:¬(0≤Builtin.bitNot x):=by unfold Builtin.bitNot;omega
 have ny:¬(0≤Builtin.bitNot y):=by unfold Builtin.bitNot;omega
 have e1:Builtin.bitAnd x y=((x.toNat &&& y.toNat:Nat):Int):=by
  unfold Builtin.bitAnd;rw[yX hx,yX hy]
 have e2:Builtin.bitAnd (Builtin.bitNot x) (Builtin.bitNot y)=Builtin.bitNot ((x.toNat ||| y.toNat:Nat):Int):=by
  unfold Builtin.bitAnd;rw[zA nx,zA ny,Nb,Nb]
 unfold Builtin.bitXor Builtin.bitOr;rw[e1,e2,Nb];have a:=Nat.and_le_left (n:=x.toNat) (m:=y.toNat);have b:=Nat.left_le_or (n:=x.toNat) (m:=y.toNat);omega
def ThB(t:Th):Prop:=0≤t.num∧1≤t.many∧PyData.strOk t.word=true
theorem ThB.lay{t:Th}(h:ThB t):t.D.canLay0=true∧t.D.depth≤1:=by
 refine⟨?_,?_⟩
 ·simp[Th.D,PyData.canLay0,PyData.canLayAll0,h.2.2]
 ·simp[Th.D,PyData.depth,PyData.depthAll]
theorem Rm{ts:List Th}(h:∀t∈ts,ThB t):(bf ts).canLay0=true∧(bf ts).depth≤2:=Ql ts fun t ht=>(h t ht).lay
def AllT(G:Hp)(xs:List V):Prop:=∀x∈xs,∃(c:Addr)(t:Th),x=.ref c∧G c=some (.tup t.vs)∧ThB t
section
variable{G G':Hp}{xs ys:List V}
theorem AllT.mono(h:AllT G xs)(g:Same G G'):AllT G' xs:=fun x hx=>let ⟨c,t,e,q,b⟩:=h x hx;⟨c,t,e,g _ _ q,b⟩
theorem AllT.app(h:AllT G xs)(k:AllT G ys):AllT G (xs++ys):=fun x hx=>by
 rcases ze.mp hx with hx | hx
 ·exact h x hx
 ·exact k x hx
theorem AllT.cut(h:AllT G xs)(lo hi:Option Int):AllT G (bU xs lo hi):=fun x hx=>h x (Bx (AO hx))
theorem Tz{c:Addr}{t:Th}(e:G c=some (.tup t.vs))(h:ThB t):AllT G [.ref c]:=fun x hx=>by
 rw[yP.mp hx];exact⟨c,t,rfl,e,h⟩
theorem AllT.ts:∀{xs:List V},AllT G xs→∃ts,TsAt G xs ts∧∀t∈ts,ThB t:=by
 intro xs
 induction xs with
 |nil=>exact fun _=>⟨[],.nil,fun _ h=>absurd h zC⟩
 |cons x xs ih=>
  intro h;obtain⟨ts,ta,tb⟩:=ih fun y hy=>h y (.tail _ hy);obtain⟨c,t,e,q,b⟩:=h x (.head _);refine⟨t::ts,.cons ⟨c,e,q⟩ ta,fun y hy=>?_⟩
  rcases y8.mp hy with rfl | hy
  ·exact b
  ·exact tb y hy
theorem cut2(xs:List V){k:Nat}(h:k<xs.length):(bU xs none (some (k:Int))).length+(bU xs (some ((k:Int)+1)) none).length+1=xs.length:=by
 rw[wJ,show((k:Int)+1)=((k+1:Nat):Int) by omega,qR,zu,AB];omega
end
def uy(K:W.Frag):Sp:=fun vs H Q _=>∃(a S r:Addr)(ns:List Int)(or:Int)(xs:List V),vs=[.ref a,.ref r,.int or]∧Pn K S ns H a∧am a H r=some (.lst xs)∧AllT (am a H) xs∧xs.length≤300∧1≤or∧or≤10∧∀(L:Addr)(us:List V)(H':Hp),am a H' L=some (.lst us)→AllT (am a H') us→us.length≤xs.length+1→Pn K S ns H' a→Grw a H H'→Q (.ref L) H'
theorem u9(aC:mg "len"=none)(oo:mg "max"=none)(ae:Has P w K mg base "_law_take" 1 ["_law_pen_here","_law_most"] (bw K))(F:Fun K "_law_bent" "_law_bent" dw f fd):FnOk P w K mg base CX0 2 f fd ["_law_pen_here","_law_stream_here","_law_deep"] (uy K):=by
 refine F.ok Yn (fun vs H Q E h=>?_) (fun cdv A outer s H vs Q E hr h=>?_)
 ·obtain⟨a,S,r,ns,or,xs,rfl,_⟩:=h;rfl
 obtain⟨a,S,r,ns,or,xs,rfl,hp,v9,k_x0,xl,d0,d1,hq⟩:=h;have e_r:=v9;have k_xs:=k_x0;have gg:Grw a H H:=Same.refl _;have tw:=Xo (m:=or) d1;refine⟨_,(Z2 (Yu (Zn (hV hr.units) (pv 1) (Y1 Z1) (Zk _)) (Z8 (Zg (Xg W4 (Y1 (Z0 (Y4 (Z0 Z3 (Z0 S6 (Z0 (Z5 ae hr (Z0 (pv 0) (Z0 (Z9 Vz Z3 (pv 2)) Z1))) (Z0 Z3 Z1))))) Z1)) W8 (W7 (Z5 ae hr (Z0 (pv 0) (Z0 Z3 Z1))))))) Zu) Zd),?_⟩;refine Yx (fun σ' H'=>σ'=[some (.ref a),some (.ref r),some (.int or),none,none,none,none,none,none,none,none,none]∧Pn K S ns H' a∧Grw a H H'∧0<xs.length) ?_ ?_
 ·intro nx hnx;refine⟨_,rfl,leN rfl,?_⟩;intro p n_p;generalize hz:upd _ p _=H1;revert H1;refine blk ?_;intro H1 hz;have hw:=Zl hz n_p hp;have hp:=hw.1;have gz:=hw.2.1;have ne_p:=hw.2.2.1;have Cy:=hw.2.2.2;clear hw hz;have gg:=gg.trans gz;have e_r:=gz _ _ e_r;have k_xs:=k_xs.mono gz;obtain⟨ts,ta,tb⟩:=k_xs.ts;have sl:=Rm tb;refine⟨_,_,.lst (Z7 e_r).2 (ta.tup fun c ys e=>(Z7 e).2).dvs,.lst (Z7 Cy).2 .nil,Yw sl (by decide),Yw R6 (by decide),_,rfl,?_⟩;rw[Rc];have tl:=zd ta;cases ts with
  |nil=>
   refine Wv ?_;refine⟨_,rfl,_,rfl,_,_,rfl,rfl,⟨by omega,by omega,by decide⟩,a,S,ns,_,rfl,hp,by rw[Ae];omega,by rw[Ae];omega,fun x H2 x0 x1 hp g=>⟨leN rfl,?_⟩⟩;have gg:=gg.trans g;intro c n_c;generalize hz:upd _ c _=H3;revert H3;refine blk ?_;intro H3 hz;have hw:=Zl hz n_c hp;have hp:=hw.1;have gz:=hw.2.1;have ne_c:=hw.2.2.1;have CA:=hw.2.2.2;clear hw hz;have gg:=gg.trans gz;refine⟨leN rfl,?_⟩;intro l n_l;generalize hz:upd _ l _=H4;revert H4;refine blk ?_;intro H4 hz;have hw:=Zl hz n_l hp;have hp:=hw.1;have gz:=hw.2.1;have ne_l:=hw.2.2.1;have CB:=hw.2.2.2;clear hw hz;have gg:=gg.trans gz;have CA:=gz _ _ CA;refine⟨_,rfl,a,S,ns,2,rfl,hp,Xz rfl,ltI rfl,fun z H5 _ _ hp g=>?_⟩;have gg:=gg.trans g;have CA:=g _ _ CA;have CB:=g _ _ CB;refine⟨z,rfl,l,_,rfl,Xf CB,?_⟩;intro q n_q;generalize hz:upd _ q _=H6;revert H6;refine blk ?_;intro H6 hz;have hw:=Zl hz n_q hp;have hp:=hw.1;have gz:=hw.2.1;have ne_q:=hw.2.2.1;have CF:=hw.2.2.2;clear hw hz;have gg:=gg.trans gz;have CA:=gz _ _ CA;have cl:=Sr [.ref c] none (some z);have cl:(bU [.ref c] none (some z)).length≤1:=cl;exact hq q _ H6 CF ((Tz (t:=⟨0,"a",x,1⟩) CA ⟨x0,leI rfl,Om.1⟩).cut _ _) (by omega) hp gg
  |cons t ts=>
   refine Ww (hnx _ _ ⟨rfl,hp,gg,?_⟩);rw[tl];exact Nat.succ_pos _
 clear hp gg e_r k_xs;rintro σ H1 ⟨rfl,hp,gg,xp⟩;have e_r:=gg _ _ v9;have k_xs:=k_x0.mono gg;refine⟨_,(Z2 (Zp 3 Yn.nd rfl (Or.inl rfl) (Z5 ae hr (Z0 (pv 0) (Z0 (Zf Zw rfl aC Az (Z0 (pv 1) Z1)) Z1)))) Zd),?_⟩;refine⟨_,rfl,_,rfl,r,_,rfl,.inl (Xf e_r),a,S,ns,_,rfl,hp,by omega,by omega,fun ix H2 y0 y1 hp g=>?_⟩;have gg:=gg.trans g;have e_r:=g _ _ e_r;have k_xs:=k_xs.mono g;clear g;obtain⟨v,hv,mv⟩:=gA (d:=ix) (Z7 e_r).2 y0 y1;obtain⟨j,rfl⟩:∃j:Nat,ix=(j:Int):=⟨ix.toNat,by omega⟩;have jl:j<xs.length:=by omega
 obtain⟨c,t,rfl,CA,tb⟩:=k_xs v mv;obtain⟨b1,b2,b3⟩:=tb;refine⟨_,(Z2 (We (Yp Yt (pv 1) (pv 3)) (W1 rfl (Zc (Za (i:=4) Yn.nd rfl (Or.inl rfl)) (Zc (Za (i:=5) Yn.nd rfl (Or.inl rfl)) (Zc (Za (i:=6) Yn.nd rfl (Or.inl rfl)) (Zc (Za (i:=7) Yn.nd rfl (Or.inl rfl)) Yb)))))) Zd),?_⟩;refine⟨_,rfl,_,rfl,r,_,_,_,rfl,rfl,Xf e_r,hv,c,_,rfl,SqT.of (Z7 CA).2,rfl,_,_,rfl,_,_,rfl,_,_,rfl,_,_,rfl,rfl,?_⟩;refine⟨_,(Z2 (Zp 8 Yn.nd rfl (Or.inl rfl) (Z9 Vz Z3 (pv 2))) Zd),?_⟩;refine⟨_,rfl,_,_,rfl,rfl,⟨by omega,by omega,by decide⟩,?_⟩;dsimp only;rw[Ae];obtain⟨top,htop⟩:∃top:Int,2^or.toNat=top:=⟨_,rfl⟩;rw[htop]at tw⊢;refine⟨_,(Z2 (Zp 9 Yn.nd rfl (Or.inl rfl) (Y1 (Z0 (Z9 pM (pv 6) Z3) (Z0 (Z9 pM (pv 6) (Z9 Wq (pv 8) Z3)) (Z0 Z3 (Z0 (Z9 X4 (pv 8) Z3) (Z0 (Z5 ae hr (Z0 (pv 0) (Z0 (pv 8) Z1))) (Z0 (pv 8) (Z0 (Z9 Zm (pv 8) (Z5 ae hr (Z0 (pv 0) (Z0 Z3 Z1)))) (Z0 (Z9 Zm (pv 6) Z3) Z1)))))))))) Zd),?_⟩;refine⟨_,rfl,_,_,rfl,rfl,_,rfl,_,rfl,_,_,rfl,rfl,⟨by decide,by decide⟩,_,_,rfl,rfl,_,rfl,_,_,rfl,rfl,?_⟩;refine⟨_,rfl,_,rfl,a,S,ns,_,rfl,hp,by omega,by omega,fun x5 H3 z0 z1 hp g=>?_⟩;have gg:=gg.trans g;have e_r:=g _ _ e_r;have k_xs:=k_xs.mono g;have CA:=g _ _ CA;clear g;refine⟨_,rfl,_,rfl,_,rfl,a,S,ns,9,rfl,hp,Xz rfl,ltI rfl,fun x7 H4 w0 w1 hp g=>?_⟩;have gg:=gg.trans g;have e_r:=g _ _ e_r;have k_xs:=k_xs.mono g;have CA:=g _ _ CA;clear g;refine⟨_,_,rfl,rfl,_,rfl,_,_,rfl,rfl,leN rfl,?_⟩;obtain⟨us,hu,ul,up⟩:∃us:List Int,[V.int (Builtin.bitXor t.num 1),V.int (Builtin.bitXor t.num (top / 2)),V.int 0,V.int (top-1),V.int x5,V.int top,V.int (top+x7),V.int (t.num+1)]=us.map V.int∧us.length=8∧∀n∈us,0≤n:=by
  refine⟨[_,_,_,_,_,_,_,_],rfl,rfl,fun n hn=>?_⟩;have q1:=nF b1 (show(0:Int)≤1 by decide);have q2:=nF b1 (show(0:Int)≤top / 2 by omega);simp only[List.mem_cons,List.not_mem_nil,or_false]at hn
  rcases hn with rfl | rfl | rfl | rfl | rfl | rfl | rfl | rfl <;> omega
 intro so n_so;generalize hz:upd _ so _=H5;revert H5;refine blk ?_;intro H5 hz;have hw:=Zl hz n_so hp;have hp:=hw.1;have gz:=hw.2.1;have ne_so:=hw.2.2.1;have iN:=hw.2.2.2;clear hw hz;have gg:=gg.trans gz;have e_r:=gz _ _ e_r;have k_xs:=k_xs.mono gz;have CA:=gz _ _ CA;have iN:am a H5 so=some (.lst (us.map V.int)):=by rw[←hu];exact iN
 clear hu;refine⟨_,(Z2 (Zp 10 Yn.nd rfl (Or.inl rfl) (Y4 (Z0 (pv 4) (Z0 (pv 5) (Z0 (Yp Yt (pv 9) (Z5 ae hr (Z0 (pv 0) (Z0 Z3 Z1)))) (Z0 (pv 7) Z1)))))) Zd),?_⟩;refine⟨_,rfl,_,rfl,_,rfl,_,rfl,a,S,ns,8,rfl,hp,Xz rfl,ltI rfl,fun z H6 q0 q1 hp g=>?_⟩;have gg:=gg.trans g;have e_r:=g _ _ e_r;have k_xs:=k_xs.mono g;have iN:=g _ _ iN;clear g;obtain⟨v2,hv2,mv2⟩:=gA (d:=z) (Z7 iN).2 q0 (by rw[pi,ul];exact q1);obtain⟨n5,hn5,rfl⟩:=yO.mp mv2;refine⟨so,_,z,_,rfl,rfl,Xf iN,hv2,_,rfl,leN rfl,?_⟩;intro th n_th;generalize hz:upd _ th _=H7;revert H7;refine blk ?_;intro H7 hz;have hw:=Zl hz n_th hp;have hp:=hw.1;have gz:=hw.2.1;have ne_th:=hw.2.2.1;have aN:=hw.2.2.2;clear hw hz;have gg:=gg.trans gz;have e_r:=gz _ _ e_r;have k_xs:=k_xs.mono gz;have p5:ThB ⟨t.day,t.word,n5,t.many⟩:=⟨up n5 hn5,b2,b3⟩;have aN:am a H7 th=some (.tup (Th.mk t.day t.word n5 t.many).vs):=aN;refine⟨_,(Z2 (Zp 11 Yn.nd rfl (Or.inl rfl) (Z5 ae hr (Z0 (pv 0) (Z0 Z3 Z1)))) Zd),?_⟩;refine⟨_,rfl,a,S,ns,8,rfl,hp,Xz rfl,ltI rfl,fun way H8 _ _ hp g=>?_⟩;have gg:=gg.trans g;have e_r:=g _ _ e_r;have k_xs:=k_xs.mono g;have aN:=g _ _ aN;clear g;refine⟨_,(Z2 (Yu (Zn Wh (pv 11) Z3 (Zk _)) (Z8 (Zp 10 Yn.nd rfl (Or.inl rfl) (Y4 (Z0 (pv 4) (Z0 (pv 5) (Z0 (pv 6) (Z0 (Zf (mI rfl) rfl oo PyProof.Rows.boot_max (Z0 Z3 (Z0 (Z9 X4 (Z9 Zm (pv 7) (Z5 ae hr (Z0 (pv 0) (Z0 Z3 Z1)))) Z3) Z1))) Z1))))))) Zu) Zd),?_⟩;refine Yx (fun σ' H'=>∃(th:Addr)(t2:Th),σ'=[some (.ref a),some (.ref r),some (.int or),some (.int (j:Int)),some (.int t.day),some (.str t.word),some (.int t.num),some (.int t.many),some (.int top),some (.ref so),some (.ref th),some (.int way)]∧Pn K S ns H' a∧Grw a H H'∧am a H' th=some (.tup t2.vs)∧ThB t2) ?_ ?_
 ·intro nx hnx;refine⟨_,rfl,rfl,_,rfl,Xm (fun _=>?_) (fun _=>?_)⟩
  ·refine⟨_,rfl,_,rfl,_,rfl,_,rfl,_,rfl,a,S,ns,3,rfl,hp,Xz rfl,ltI rfl,fun z3 H9 _ _ hp g=>?_⟩;have gg:=gg.trans g;refine⟨_,_,rfl,rfl,_,_,rfl,rfl,1,_,rfl,leN rfl,?_⟩;intro tg n_tg;generalize hz:upd _ tg _=H10;revert H10;refine blk ?_;intro H10 hz;have hw:=Zl hz n_tg hp;have hp:=hw.1;have gz:=hw.2.1;have ne_tg:=hw.2.2.1;have e_tg:=hw.2.2.2;clear hw hz;have gg:=gg.trans gz;refine hnx _ _ ⟨tg,⟨t.day,t.word,t.num,if t.many+z3-1 > 1 then t.many+z3-1 else 1⟩,rfl,hp,gg,e_tg,b1,?_,b3⟩;show 1≤(if t.many+z3-1 > 1 then t.many+z3-1 else 1)
   split <;> omega
  ·exact hnx _ _ ⟨th,_,rfl,hp,gg,aN,p5⟩
 clear hp gg e_r k_xs aN p5 iN hv2 mv2;rintro σ H9 ⟨th,t2,rfl,hp,gg,aN,tb2⟩;have e_r:=gg _ _ v9;have k_xs:=k_x0.mono gg;have c2:=cut2 xs jl;refine⟨_,(Z2 (Yu (Zn Wh (pv 11) Z3 (Zk _)) (Z8 (Zg (Z9 W2 (Xg W4 (pv 1) W8 (W7 (pv 3))) (Xg W4 (pv 1) (W7 (Z9 Zm (pv 3) Z3)) W8)))) Zu) Zd),?_⟩;refine⟨_,rfl,rfl,_,rfl,Xm (fun _=>?_) (fun _=>?_)⟩
 ·refine⟨_,rfl,_,rfl,_,rfl,r,_,rfl,Xf e_r,?_⟩;intro l1 jj;generalize hz:upd _ l1 _=H20;revert H20;refine blk ?_;intro H20 hz;have hw:=Zl hz jj hp;have hp:=hw.1;have gz:=hw.2.1;have ne_l1:=hw.2.2.1;have b8:=hw.2.2.2;clear hw hz;have gg:=gg.trans gz;have e_r:=gz _ _ e_r;have k_xs:=k_xs.mono gz;refine⟨_,rfl,_,rfl,_,_,rfl,rfl,_,rfl,r,_,rfl,Xf e_r,?_⟩;intro l2 dO;generalize hz:upd _ l2 _=H21;revert H21;refine blk ?_;intro H21 hz;have hw:=Zl hz dO hp;have hp:=hw.1;have gz:=hw.2.1;have ne_l2:=hw.2.2.1;have bL:=hw.2.2.2;clear hw hz;have gg:=gg.trans gz;have b8:=gz _ _ b8;have k_xs:=k_xs.mono gz;refine⟨l1,l2,_,_,rfl,rfl,(Z7 b8).2,(Z7 bL).2,Ze (by omega),?_⟩;intro l3 ig;generalize hz:upd _ l3 _=H22;revert H22;refine blk ?_;intro H22 hz;have hw:=Zl hz ig hp;have hp:=hw.1;have gz:=hw.2.1;have ne_l3:=hw.2.2.1;have dj:=hw.2.2.2;clear hw hz;have gg:=gg.trans gz;have k_xs:=k_xs.mono gz;exact hq l3 _ _ dj ((k_xs.cut _ _).app (k_xs.cut _ _)) (by rw[yR];omega) hp gg
 refine⟨_,(Z2 (Yu (Zn Wh (pv 11) Z3 (Zk _)) (Z8 (Zg (Z9 W2 (pv 1) (Y1 (Z0 (Yp Yt (pv 1) (pv 3)) Z1))))) Zu) Zd),?_⟩;refine⟨_,rfl,rfl,_,rfl,Xm (fun _=>?_) (fun _=>?_)⟩
 ·refine⟨_,rfl,_,rfl,_,rfl,r,_,_,_,rfl,rfl,Xf e_r,hv,leN rfl,?_⟩;have k_c:AllT (am a H9) [.ref c]:=fun x hx=>by rw[yP.mp hx];exact k_xs _ mv
  intro l1 jj;generalize hz:upd _ l1 _=H20;revert H20;refine blk ?_;intro H20 hz;have hw:=Zl hz jj hp;have hp:=hw.1;have gz:=hw.2.1;have ne_l1:=hw.2.2.1;have b8:=hw.2.2.2;clear hw hz;have gg:=gg.trans gz;have e_r:=gz _ _ e_r;have k_xs:=k_xs.mono gz;have k_c:=k_c.mono gz;refine⟨r,l1,_,_,rfl,rfl,(Z7 e_r).2,(Z7 b8).2,Ze (by show xs.length+1≤_;omega),?_⟩;intro l3 ig;generalize hz:upd _ l3 _=H22;revert H22;refine blk ?_;intro H22 hz;have hw:=Zl hz ig hp;have hp:=hw.1;have gz:=hw.2.1;have ne_l3:=hw.2.2.1;have dj:=hw.2.2.2;clear hw hz;have gg:=gg.trans gz;have k_xs:=k_xs.mono gz;have k_c:=k_c.mono gz;exact hq l3 _ _ dj (k_xs.app k_c) (by rw[yR];exact yM _) hp gg
 refine⟨_,(Z2 (Yu (PW.pt (N6 (Zn Wh (pv 11) Z3 (Zk _)) (R1 (Zn To (pv 7) Z3 (Zk _))))) (Z8 (Zg (Z9 W2 (Z9 W2 (Z9 W2 (Xg W4 (pv 1) W8 (W7 (pv 3))) (Y1 (Z0 (Y4 (Z0 (pv 4) (Z0 (pv 5) (Z0 (pv 6) (Z0 (Z9 X4 (pv 7) Z3) Z1))))) Z1))) (Xg W4 (pv 1) (W7 (Z9 Zm (pv 3) Z3)) W8)) (Y1 (Z0 (Y4 (Z0 (pv 4) (Z0 (pv 5) (Z0 (Yp Ys (pv 10) Z3) (Z0 Z3 Z1))))) Z1))))) Zu) Zd),?_⟩;refine Yx (fun σ' H'=>σ'=[some (.ref a),some (.ref r),some (.int or),some (.int (j:Int)),some (.int t.day),some (.str t.word),some (.int t.num),some (.int t.many),some (.int top),some (.ref so),some (.ref th),some (.int way)]∧H'=H9) ?_ ?_
 ·intro nx hnx;refine⟨_,rfl,rfl,_,rfl,Xm (fun _=>?_) (fun _=>hnx _ _ ⟨rfl,rfl⟩)⟩;refine⟨_,rfl,_,_,rfl,rfl,_,rfl,Xm (fun cm=>?_) (fun _=>hnx _ _ ⟨rfl,rfl⟩)⟩
  ·have cm:t.many > 1:=yW cm;refine⟨_,rfl,_,rfl,_,rfl,r,_,rfl,Xf e_r,?_⟩;intro l1 jj;generalize hz:upd _ l1 _=H20;revert H20;refine blk ?_;intro H20 hz;have hw:=Zl hz jj hp;have hp:=hw.1;have gz:=hw.2.1;have ne_l1:=hw.2.2.1;have b8:=hw.2.2.2;clear hw hz;have gg:=gg.trans gz;have e_r:=gz _ _ e_r;have k_xs:=k_xs.mono gz;have aN:=gz _ _ aN;refine⟨_,rfl,_,rfl,_,rfl,_,rfl,_,_,rfl,rfl,leN rfl,?_⟩;intro m1 n_m1;generalize hz:upd _ m1 _=H21;revert H21;refine blk ?_;intro H21 hz;have hw:=Zl hz n_m1 hp;have hp:=hw.1;have gz:=hw.2.1;have ne_m1:=hw.2.2.1;have cg:=hw.2.2.2;clear hw hz;have gg:=gg.trans gz;have e_r:=gz _ _ e_r;have k_xs:=k_xs.mono gz;have aN:=gz _ _ aN;have b8:=gz _ _ b8;refine⟨leN rfl,?_⟩;intro l2 dO;generalize hz:upd _ l2 _=H22;revert H22;refine blk ?_;intro H22 hz;have hw:=Zl hz dO hp;have hp:=hw.1;have gz:=hw.2.1;have ne_l2:=hw.2.2.1;have bL:=hw.2.2.2;clear hw hz;have gg:=gg.trans gz;have e_r:=gz _ _ e_r;have k_xs:=k_xs.mono gz;have aN:=gz _ _ aN;have b8:=gz _ _ b8;have cg:=gz _ _ cg;refine⟨l1,l2,_,_,rfl,rfl,(Z7 b8).2,(Z7 bL).2,Ze (by show _+1≤_;omega),?_⟩;intro l3 ig;generalize hz:upd _ l3 _=H23;revert H23;refine blk ?_;intro H23 hz;have hw:=Zl hz ig hp;have hp:=hw.1;have gz:=hw.2.1;have ne_l3:=hw.2.2.1;have dj:=hw.2.2.2;clear hw hz;have gg:=gg.trans gz;have e_r:=gz _ _ e_r;have k_xs:=k_xs.mono gz;have aN:=gz _ _ aN;have cg:=gz _ _ cg;refine⟨_,rfl,_,rfl,_,_,rfl,rfl,_,rfl,r,_,rfl,Xf e_r,?_⟩;intro l4 vS;generalize hz:upd _ l4 _=H24;revert H24;refine blk ?_;intro H24 hz;have hw:=Zl hz vS hp;have hp:=hw.1;have gz:=hw.2.1;have ne_l4:=hw.2.2.1;have ww:=hw.2.2.2;clear hw hz;have gg:=gg.trans gz;have k_xs:=k_xs.mono gz;have aN:=gz _ _ aN;have cg:=gz _ _ cg;have dj:=gz _ _ dj;refine⟨l3,l4,_,_,rfl,rfl,(Z7 dj).2,(Z7 ww).2,Ze (by rw[yR];show _+1+_≤_;omega),?_⟩;intro l5 vt;generalize hz:upd _ l5 _=H25;revert H25;refine blk ?_;intro H25 hz;have hw:=Zl hz vt hp;have hp:=hw.1;have gz:=hw.2.1;have ne_l5:=hw.2.2.1;have iM:=hw.2.2.2;clear hw hz;have gg:=gg.trans gz;have k_xs:=k_xs.mono gz;have aN:=gz _ _ aN;have cg:=gz _ _ cg;refine⟨_,rfl,_,rfl,_,rfl,th,_,2,_,rfl,rfl,SqT.of (Z7 aN).2,rfl,leN rfl,?_⟩;intro m2 n_m2;generalize hz:upd _ m2 _=H26;revert H26;refine blk ?_;intro H26 hz;have hw:=Zl hz n_m2 hp;have hp:=hw.1;have gz:=hw.2.1;have ne_m2:=hw.2.2.1;have nh:=hw.2.2.2;clear hw hz;have gg:=gg.trans gz;have k_xs:=k_xs.mono gz;have cg:=gz _ _ cg;have iM:=gz _ _ iM;refine⟨leN rfl,?_⟩;intro l6 n_l6;generalize hz:upd _ l6 _=H27;revert H27;refine blk ?_;intro H27 hz;have hw:=Zl hz n_l6 hp;have hp:=hw.1;have gz:=hw.2.1;have ne_l6:=hw.2.2.1;have e_l6:=hw.2.2.2;clear hw hz;have gg:=gg.trans gz;have k_xs:=k_xs.mono gz;have cg:=gz _ _ cg;have nh:=gz _ _ nh;have iM:=gz _ _ iM;refine⟨l5,l6,_,_,rfl,rfl,(Z7 iM).2,(Z7 e_l6).2,Ze (by rw[yR,yR];show _+1+_+1≤_;omega),?_⟩;intro l7 n_l7;generalize hz:upd _ l7 _=H28;revert H28;refine blk ?_;intro H28 hz;have hw:=Zl hz n_l7 hp;have hp:=hw.1;have gz:=hw.2.1;have ne_l7:=hw.2.2.1;have e_l7:=hw.2.2.2;clear hw hz;have gg:=gg.trans gz;have k_xs:=k_xs.mono gz;have cg:=gz _ _ cg;have nh:=gz _ _ nh;refine hq l7 _ _ e_l7 ((((k_xs.cut _ _).app (Tz (t:=⟨t.day,t.word,t.num,t.many-1⟩) cg ⟨b1,by show 1≤t.many-1;omega,b3⟩)).app (k_xs.cut _ _)).app (Tz (t:=⟨t.day,t.word,t2.num,1⟩) nh ⟨tb2.1,leI rfl,b3⟩)) ?_ hp gg;rw[yR,yR,yR];show _+1+_+1≤_;omega
 rintro σ H' ⟨rfl,rfl⟩;refine⟨_,(Z8 (Zg (Z9 W2 (Z9 W2 (Xg W4 (pv 1) W8 (W7 (pv 3))) (Y1 (Z0 (pv 10) Z1))) (Xg W4 (pv 1) (W7 (Z9 Zm (pv 3) Z3)) W8)))),?_⟩;refine⟨_,rfl,_,rfl,_,rfl,r,_,rfl,Xf e_r,?_⟩;intro l1 jj;generalize hz:upd _ l1 _=H20;revert H20;refine blk ?_;intro H20 hz;have hw:=Zl hz jj hp;have hp:=hw.1;have gz:=hw.2.1;have ne_l1:=hw.2.2.1;have b8:=hw.2.2.2;clear hw hz;have gg:=gg.trans gz;have e_r:=gz _ _ e_r;have k_xs:=k_xs.mono gz;have aN:=gz _ _ aN;refine⟨_,rfl,leN rfl,?_⟩;intro l2 dO;generalize hz:upd _ l2 _=H22;revert H22;refine blk ?_;intro H22 hz;have hw:=Zl hz dO hp;have hp:=hw.1;have gz:=hw.2.1;have ne_l2:=hw.2.2.1;have bL:=hw.2.2.2;clear hw hz;have gg:=gg.trans gz;have e_r:=gz _ _ e_r;have k_xs:=k_xs.mono gz;have aN:=gz _ _ aN;have b8:=gz _ _ b8;refine⟨l1,l2,_,_,rfl,rfl,(Z7 b8).2,(Z7 bL).2,Ze (by show _+1≤_;omega),?_⟩;intro l3 ig;generalize hz:upd _ l3 _=H23;revert H23;refine blk ?_;intro H23 hz;have hw:=Zl hz ig hp;have hp:=hw.1;have gz:=hw.2.1;have ne_l3:=hw.2.2.1;have dj:=hw.2.2.2;clear hw hz;have gg:=gg.trans gz;have e_r:=gz _ _ e_r;have k_xs:=k_xs.mono gz;have aN:=gz _ _ aN;refine⟨_,rfl,_,rfl,_,_,rfl,rfl,_,rfl,r,_,rfl,Xf e_r,?_⟩;intro l4 vS;generalize hz:upd _ l4 _=H24;revert H24;refine blk ?_;intro H24 hz;have hw:=Zl hz vS hp;have hp:=hw.1;have gz:=hw.2.1;have ne_l4:=hw.2.2.1;have ww:=hw.2.2.2;clear hw hz;have gg:=gg.trans gz;have k_xs:=k_xs.mono gz;have aN:=gz _ _ aN;have dj:=gz _ _ dj;refine⟨l3,l4,_,_,rfl,rfl,(Z7 dj).2,(Z7 ww).2,Ze (by rw[yR];show _+1+_≤_;omega),?_⟩;intro l5 vt;generalize hz:upd _ l5 _=H25;revert H25;refine blk ?_;intro H25 hz;have hw:=Zl hz vt hp;have hp:=hw.1;have gz:=hw.2.1;have ne_l5:=hw.2.2.1;have iM:=hw.2.2.2;clear hw hz;have gg:=gg.trans gz;have k_xs:=k_xs.mono gz;have aN:=gz _ _ aN;refine hq l5 _ _ iM (((k_xs.cut _ _).app (Tz aN tb2)).app (k_xs.cut _ _)) ?_ hp gg;rw[yR,yR];show _+1+_≤_;omega
theorem w5{K:W.Frag}:W.kitOne K (.type "bool") (.type "bool")=some true:=j9 (by decide +kernel)
theorem vV(or:Int)(ts:List Th):((ts.filter fun t=>decide (t.num ≥ 2^or.toNat)).map Th.D).isEmpty=true↔∀t∈ts,t.num<2^or.toNat:=by
 rw[List.isEmpty_iff,List.map_eq_nil_iff,List.filter_eq_nil_iff];refine⟨fun h t ht=>?_,fun h t ht=>?_⟩
 ·have:=h t ht;rw[Ap]at this;omega
 ·have:=h t ht;rw[Ap];omega
def uL:Sp:=fun vs H Q _=>∃(r q d:Addr)(Cq or:Int)(ts:List Th)(qs:Sps),vs=[.ref r,.ref q,.ref d]∧DV H (.ref r) (bf ts)∧(∀t∈ts,ThB t)∧ts.length≤400∧LadAt H q Cq or (aj (aA qs)) (aA qs)∧H d=some (.dT (af qs))∧Pok or qs∧qs.length≤60∧1≤or∧or≤10∧∀H',Same H H'→Q (.bl true) H'
theorem wN(ah:mg "isinstance"=none)(cA:mg "bool"=none)(av:mg "list"=none)(d_:Has P w K mg base "fits" 7 ["stream","ladder"] iP)(dM:Has P w K mg base "_law_is_dealt" 3 ["_law_stream_here","_law_now","_law_deep"] uM)(F:Fun K "_law_right" "_law_right" cD f fd):FnOk P w K mg base CX0 8 f fd ["_law_stream_here","_law_ladder_here","_law_now"] uL:=by
 refine F.ok Vf (fun vs H Q E h=>?_) (fun cdv A outer s H vs Q E hr h=>?_)
 ·obtain⟨r,q,d,Cq,or,ts,qs,rfl,_⟩:=h;rfl
 obtain⟨r,q,d,Cq,or,ts,qs,rfl,k_r,tb,tl,lad,e_d,po,pl,d0,d1,hq⟩:=h;have sp:=Zy qs;have po2:Pok or (aA qs):=po.perm sp;have sl:=sp.length_eq;have ly:=Rm tb;have tw:=Xo (m:=or) d1;have gg:Same H H:=Same.refl _;obtain⟨_,xs,e0,e_r,dx⟩:=DV.list_inv k_r;cases e0;have xl:=dx.length;rw[pi]at xl;refine⟨_,(Z2 (Zp 3 Vf.nd rfl (Or.inl rfl) (Y8 Tx rfl av AD (Z0 (pv 0) Z1))) Zd),?_⟩;refine⟨_,rfl,r,xs,rfl,.inl (SqL.of e_r),?_⟩;intro h n_h;generalize hz:upd _ h _=H1;revert H1;refine blk ?_;intro H1 hz;have gz:=Zr hz n_h;have e_h:=Y5 hz;clear hz;have gg:=gg.trans gz;have e_d:=gz _ _ e_d;have k_h:DV H1 (.ref h) (bf ts):=.lst e_h (dx.mono gg);have k_r:=k_r.mono gg;have lad:=lad.mono gg;refine⟨_,(Z2 (Zp 4 Vf.nd rfl (Or.inl rfl) (Z5 d_ hr (Z0 (pv 3) (Z0 (pv 1) Z1)))) Zd),?_⟩;refine⟨_,rfl,_,rfl,h,q,ts,Cq,or,aA qs,rfl,k_h,by omega,lad,po2,by omega,by omega,by omega,fun t ht=>⟨(tb t ht).1,(tb t ht).2.1⟩,fun b H2 g2 hb=>?_⟩;have gg:=gg.trans g2;have e_d:=g2 _ _ e_d;have k_h:=k_h.mono g2;have k_r:=k_r.mono g2;have lad:=lad.mono g2;obtain⟨c0,as,CF,_⟩:=lad.at_;obtain⟨_,xs,e0,e_r,dx⟩:=DV.list_inv k_r;cases e0;refine⟨_,(Z2 (Zp 5 Vf.nd rfl (Or.inl rfl) (Xu (hV hr.units) (Wp (own:=["_law_thing"]) (Sw rfl rfl) (Yi (pv 0))
  (fun _ _ _ _ _=>(Za (i:=0) Tp rfl (Or.inl rfl) (Or.inr rfl))) (fun _ _ _ _ _=>(Tl (Zn kI (Yp (kG K rfl) (pv 0) Z3) (Z9 Vz Z3 (Yp (kG K rfl) (pv 2) Z3)) (Zk _))))
  (fun _ _ _ _ _=>(pv 0))) (Y1 Z1) (Zk _))) Zd),?_⟩
 refine⟨_,rfl,r,rfl,⟨_,SqL.of e_r⟩,?_⟩;refine Xe (xs:=xs) (fun i ys H'=>H'=H2∧TsAt H2 ys ((ts.take i).filter fun t=>decide (t.num ≥ 2^or.toNat))) ⟨rfl,.nil⟩ ?_ ?_ ?_
 ·rintro i ys H' _ ⟨rfl,_⟩;exact SqL.of e_r
 ·rintro i x ys H' C hx ⟨rfl,ta⟩ hC;obtain⟨t,c,ht,rfl,ec,_⟩:=DVs.th_at dx hx;have yl:=zd ta;have fl:=z8 (fun t:Th=>decide (t.num ≥ 2^or.toNat)) (ts.take i);rw[zu]at fl;have tk:=Zx ht;refine⟨Zq (by omega),Wk.refl _,_,rfl,c,_,2,_,rfl,rfl,SqT.of ec,rfl,_,rfl,q,_,1,_,rfl,rfl,SqT.of CF,rfl,_,_,rfl,rfl,⟨by omega,by omega,by decide⟩,_,_,rfl,rfl,_,rfl,?_⟩;by_cases cc:t.num ≥ 1*2^or.toNat
  ·rw[yX cc];rw[Ae]at cc;refine Wv ⟨_,rfl,hC _ _ ⟨rfl,?_⟩⟩;rw[tk,AL,zN,yL (yX cc),List.filter_nil];exact Paired.snoc ta ⟨c,rfl,ec⟩
  ·rw[zA cc];rw[Ae]at cc;refine Ww (hC _ _ ⟨rfl,?_⟩);rw[tk,AL,zN,yK (by rw[Ap];exact cc),List.filter_nil,AJ];exact ta
 rintro ys H' ⟨rfl,ta⟩;rw[dx.length,pi,zG]at ta;have yl:=zd ta;have fl:=z8 (fun t:Th=>decide (t.num ≥ 2^or.toNat)) ts;have tf:∀t∈ts.filter (fun t=>decide (t.num ≥ 2^or.toNat)),ThB t:=fun t ht=>tb t (zn.mp ht).1;have ii:=vV or ts;generalize ts.filter (fun t=>decide (t.num ≥ 2^or.toNat))=us at ta yl fl tf ii;refine⟨Ze (by omega),fun p n_p=>⟨leN rfl,?_⟩⟩;have g3:=Z6 n_p (.lst ys);have Cy:(upd H' p (.lst ys)) p=some (.lst ys):=Z4;have ta:=ta.tup fun c ys e=>g3 _ _ e;generalize upd H' p (.lst ys)=H3 at g3 Cy ta⊢;intro e n_e;have g4:=Z6 n_e (.lst []);have e_e:(upd H3 e (.lst [])) e=some (.lst []):=Z4;have k_p:DV (upd H3 e (.lst [])) (.ref p) (bf us):=.lst (g4 _ _ Cy) (ta.tup fun c ys e=>g4 _ _ e).dvs;have g5:=g3.trans g4;generalize upd H3 e (.lst [])=H4 at g4 e_e k_p g5⊢;refine⟨_,_,k_p,.lst e_e .nil,Yw (Rm tf) (by decide),Yw R6 (by decide),?_⟩;rw[Rc];have gg:=gg.trans g5;have e_d:=g5 _ _ e_d;have k_h:=k_h.mono g5;have k_r:=k_r.mono g5;have CF:=g5 _ _ CF;clear k_p e_e Cy ta g3 g4 g5;generalize (us.map Th.D).isEmpty=ins at ii⊢;refine⟨_,(Z8 (Zg (T6 (Zf Um rfl ah As (Z0 (pv 4) (Z0 (Uf (v:=.ty "bool") rfl cA PyProof.Rows.boot_bool rfl) Z1))) (T6 (Xu Wh (pv 4) (T6 (pv 5) (S7 (Z5 dM hr (Z0 (pv 0) (Z0 (pv 2) (Z0 (Yp Ys (pv 1) Z3) Z1)))))) (Zk _)) (S7 (Xu (hV hr.units) (pv 3) (pv 0) (Zk _))))))),?_⟩;refine⟨_,rfl,_,_,"bool",_,rfl,TyOf.bl _,w5,_,rfl,Wv ?_⟩;have fin:∀(H5:Hp),Same H4 H5→∀(v:Bool),(v=true↔(∀t∈ts,t.num<2^or.toNat)∧Can (aA qs) (a8 ts))→decide (V.bl b=V.bl v)=true:=fun H5 _ v hv=>by
  rw[Ap];have:b=v:=by
   rw[Ab,hb,hv]
  rw[this]
 have nd:=po.kok.nd;have done:∀(H5:Hp),Same H4 H5→∃d1 d2,DV H5 (.ref h) d1∧DV H5 (.ref r) d2∧SeqAt.shaped d1=true∧SeqAt.shaped d2=true∧Q (.bl (PyData.eqv d1 d2)) H5:=fun H5 g5=>by
  refine⟨_,_,k_h.mono g5,k_r.mono g5,Yw ly (by decide),Yw ly (by decide),?_⟩;rw[m_ ly];exact hq _ (gg.trans g5)
 cases ins with
 |true=>
  refine⟨_,rfl,_,rfl,_,rfl,Wv ?_⟩;refine⟨_,rfl,_,rfl,_,rfl,q,_,1,_,rfl,rfl,SqT.of CF,rfl,r,d,or,ts,qs,rfl,k_r,e_d,nd,fun p hp=>?_,fun x hx=>?_,by omega,by omega,fun v H5 g5 hv=>⟨rfl,_,rfl,?_⟩⟩
  ·obtain⟨x1,x2,_⟩:=po.kok.st p.1 (yO.mpr ⟨p,hp,rfl⟩);have:=po.pos p hp;exact⟨x1,by omega,by omega⟩
  ·have:=(tb x hx).2.1;omega
  rw[fin H5 g5 v ⟨fun z=>⟨ii.mp rfl,(P1 sp).mpr (hv.mp z)⟩,fun z=>hv.mpr ((P1 sp).mp z.2)⟩];exact Wv ⟨_,rfl,_,rfl,done H5 g5⟩
 |false=>
  refine⟨_,rfl,_,rfl,_,rfl,Ww ⟨rfl,_,rfl,?_⟩⟩;rw[fin H4 (Same.refl _) false ⟨fun z=>(nomatch z),fun z=>ii.mpr z.1⟩];exact Wv ⟨_,rfl,_,rfl,done H4 (Same.refl _)⟩
def kg(K:W.Frag):Sp:=fun vs H Q _=>∃(a:Addr)(ns:List Int),vs=[.ref a]∧SqL K H a (ns.map V.int)∧ns.length≤63∧∀H',Q (.bl true) H'
theorem wQ{t:Tr}{or:Int}(h:Trk or t):∀x∈t.all,ThK or x:=fun x hx=>by
 rw[Tr.all_eq]at hx;obtain⟨s,hs,hx⟩:=List.mem_flatten.mp hx;exact h s hs x hx
section
variable{K:W.Frag}{S a:Addr}{ns:List Int}{H H':Hp}
theorem wj(h:Pn K S ns H a):∀{xs:List V}{ts:List Th},DVs H xs (ts.map Th.D)→DVs (am a H) xs (ts.map Th.D):=by
 intro xs
 induction xs with
 |nil=>
  intro ts d;cases ts with
  |nil=>exact .nil
  |cons t ts=>obtain⟨_,_,e,_⟩:=DVs.cons_inv d;cases e
 |cons z zs ih2=>
  intro ts d;cases ts with
  |nil=>have:=d.nil_inv;cases this
  |cons t ts=>
   obtain⟨z',zr,e,d4,d5⟩:=DVs.cons_inv d;cases e;refine .cons ?_ (ih2 d5);obtain⟨c,cs,rfl,ec,d6⟩:=DV.tup_inv d4;refine .tup (h.tup ec) ?_;obtain⟨_,_,rfl,k1,d6⟩:=d6.cons_inv;obtain⟨_,_,rfl,k2,d6⟩:=d6.cons_inv;obtain⟨_,_,rfl,k3,d6⟩:=d6.cons_inv;obtain⟨_,_,rfl,k4,d6⟩:=d6.cons_inv;have:=d6.nil_inv;subst this;cases k1;cases k2;cases k3;cases k4;exact .cons (.int _) (.cons (.str _) (.cons (.int _) (.cons (.int _) .nil)))
theorem wm(h:Pn K S ns H a){r:Addr}{ts:List Th}(ne:r≠a)(d:DV H (.ref r) (bf ts)):DV (am a H) (.ref r) (bf ts):=by
 obtain⟨_,xs,e0,e,q⟩:=DV.list_inv d;cases e0;exact .lst (by rw[Zh ne];exact e) (wj h q)
theorem uV(h:Pn K S ns H a){q:Addr}{Cq or total:Int}{ps:Sps}(l:LadAt H q Cq or total ps):LadAt (am a H) q Cq or total ps:=let ⟨c,as,e1,e2,r⟩:=l.at_;⟨c,as,h.tup e1,h.tup e2,Paired.mapP r fun _ _ ⟨y,f1,f2⟩=>⟨y,h.tup f1,h.tup f2⟩⟩
end
theorem rQ(qs:Sps):aj (aA qs)=aj qs:=Vx ((Zy qs).map _)
theorem jK{H:Hp}:∀{xs:List V}{ds:List PyData},DVs H xs ds→DVs H xs.reverse ds.reverse
 |_,_,.nil=>.nil
 |_,_,.cons h t=>by
  rw[List.reverse_cons,List.reverse_cons];exact(jK t).append (.cons h .nil)
theorem jy{H:Hp}{or:Int}:∀{xs:List V}{ts:List Th},DVs H xs (ts.map Th.D)→(∀t∈ts,ThK or t)→AllT H xs:=fun{xs ts} d h x hx=>by
 obtain⟨j,hj⟩:=Ay hx;obtain⟨t,c,ht,rfl,ec,_⟩:=DVs.th_at d hj;have k:=h t (zB ht);exact⟨c,t,rfl,ec,k.1.1,k.1.2.2,k.2⟩
structure Tn(K:W.Frag)(S a d q:Addr)(ns:List Int)(Cq or:Int)(qs:Sps)(H:Hp):Prop where
 pn:Pn K S ns H a
 ed:am a H d=some (.dT (af qs))
 lad:LadAt (am a H) q Cq or (aj (aA qs)) (aA qs)
section
variable{K:W.Frag}{S a d q:Addr}{ns:List Int}{Cq or:Int}{qs:Sps}{H H':Hp}
theorem Tn.step(h:Tn K S a d q ns Cq or qs H)(hp:Pn K S ns H' a)(g:Grw a H H'):Tn K S a d q ns Cq or qs H':=⟨hp,g _ _ h.ed,h.lad.mono g⟩
theorem Tn.same(h:Tn K S a d q ns Cq or qs H)(g:Same H H'):Tn K S a d q ns Cq or qs H':=h.step (h.pn.same g) (h.pn.grw g)
end
theorem vT(ao:mg "range"=none)(cu:mg "int"=none)(sx:Has P w K mg base "_law_pen" 1 ["_law_script"] (uz K))(mF:Has P w K mg base "_law_sizes" 2 ["_law_pen_here"] (kF K))(iA:Has P w K mg base "_law_counts" 3 ["_law_pen_here","_law_deep","_law_most"] (eX K))(pO:Has P w K mg base "_law_tree" 4 ["_law_pen_here","_law_deep","_law_most"] (xc K))(bA:Has P w K mg base "_law_things" 40 ["_law_tree_here"] (kQ 40))(ae:Has P w K mg base "_law_take" 1 ["_law_pen_here","_law_most"] (bw K))(bS:Has P w K mg base "_law_grown" (2+8) ["_law_room","_law_deep","_law_tree_here"] (jG 8))(jq:Has P w K mg base "_law_ladder" 1 ["_law_now","_law_room","_law_deep"] uB)(cI:Has P w K mg base "_law_dealt" 4 ["_law_pen_here","_law_now"] (uu K))(oY:Has P w K mg base "_law_bent" 2 ["_law_pen_here","_law_stream_here","_law_deep"] (uy K))(dC:Has P w K mg base "_law_right" 8 ["_law_stream_here","_law_ladder_here","_law_now"] uL)(d_:Has P w K mg base "fits" 7 ["stream","ladder"] iP)(F:Fun K "law" "law" cz f fd):FnOk P w K mg base CX0 41 f fd ["_law_script"] (kg K):=by
 refine F.ok Xp (fun vs H Q E h=>?_) (fun cdv A outer s H vs Q E hr h=>?_)
 ·obtain⟨S,ns,rfl,_⟩:=h;rfl
 obtain⟨S,ns,rfl,hS,h63,hq⟩:=h;refine⟨_,(Z2 (Zp 1 Xp.nd rfl (Or.inl rfl) (Z5 sx hr (Z0 (pv 0) Z1))) Zd),?_⟩;refine⟨_,rfl,S,ns,rfl,hS,h63,fun a H1 n_a g1 hp=>?_⟩;clear hS g1 n_a;refine⟨_,(Z2 (Yy zQ rfl (Xb rfl ao (Z0 Z3 Z1)) (Za (i:=2) Xp.nd rfl (Or.inl rfl))
 (Z2 (We (Z5 mF hr (Z0 (pv 1) Z1)) (vv rfl (Zc (Za (i:=3) Xp.nd rfl (Or.inl rfl)) (Zc (Za (i:=4) Xp.nd rfl (Or.inl rfl)) Yb))))
 (Z2 (Zp 5 Xp.nd rfl (Or.inl rfl) (Z5 pO hr (Z0 (pv 1) (Z0 (pv 4) (Z0 Z3 Z1)))))
 (Z2 (Zp 6 Xp.nd rfl (Or.inl rfl) (Z5 bS hr (Z0 (pv 3) (Z0 (pv 4) (Z0 (pv 5) Z1)))))
 (Z2 (Zp 7 Xp.nd rfl (Or.inl rfl) (Z5 bA hr (Z0 (pv 5) Z1)))
 (Z2 (Yu (Zn Wh (Z5 ae hr (Z0 (pv 1) (Z0 Z3 Z1))) Z3 (Zk _)) (Z2 (Zp 6 Xp.nd rfl (Or.inl rfl) (Z5 iA hr (Z0 (pv 1) (Z0 (pv 4) (Z0 Z3 Z1)))))
 (Z8 (Zp 7 Xp.nd rfl (Or.inl rfl) (Z5 cI hr (Z0 (pv 1) (Z0 (pv 6) Z1)))))) Zu)
 (Z2 (Zp 8 Xp.nd rfl (Or.inl rfl) (Z5 jq hr (Z0 (pv 6) (Z0 (pv 3) (Z0 (pv 4) Z1)))))
 (Z2 (Yu (PW.pt (fi (Zn kf (Z5 d_ hr (Z0 (vC (pv 7) (yi wx Z3)) (Z0 (pv 8) Z1))) Ur (Zk _)) (N5 (Zn kf (Z5 d_ hr (Z0 (Z5 cI hr (Z0 (pv 1) (Z0 (pv 6) Z1))) (Z0 (pv 8) Z1))) Ur (Zk _))))) (Z8 (Zg Ur)) Zu)
 (Z2 (Yu (N7 (T3 (Z5 dC hr (Z0 (Y1 Z1) (Z0 (pv 8) (Z0 (pv 6) Z1)))))) (Z8 (Zg Ur)) Zu)
 (Z8 (Yy zQ rfl (Xb rfl ao (Z0 Z3 Z1)) (Za (i:=9) Xp.nd rfl (Or.inl rfl))
 (Z2 (Zp 7 Xp.nd rfl (Or.inl rfl) (Z5 oY hr (Z0 (pv 1) (Z0 (Yp Yt (Y1 (Z0 (pv 7) (Z0 (Z5 cI hr (Z0 (pv 1) (Z0 (pv 6) Z1))) Z1))) (Y8 Od rfl cu PyProof.Rows.boot_int (Z0 (Xu Wh (Z9 Wg (pv 9) Z3) Z3 (Zk _)) Z1))) (Z0 (pv 4) Z1)))))
 (Z8 (Yu (N7 (T3 (Z5 dC hr (Z0 (pv 7) (Z0 (pv 8) (Z0 (pv 6) Z1)))))) (Z8 (Zg Ur)) Zu)))))))))))))) Zd),?_⟩
 refine⟨3,rfl,leI rfl,ltI rfl,?_⟩;refine X8 (lo:=0) (n:=3) (fun i σ H'=>∃(o2 o3 o4 o5 o6 o7 o8 o9:Option V),σ=[some (.ref S),some (.ref a),o2,o3,o4,o5,o6,o7,o8,o9]∧Pn K S ns H' a) ⟨_,_,_,_,_,_,_,_,rfl,hp⟩ ?_ ?_
 ·clear hp;rintro i σ H2 N B R hN hR hi ⟨o2,o3,o4,o5,o6,o7,o8,o9,rfl,hp⟩;refine⟨_,rfl,a,S,ns,rfl,hp,fun l Cq or H3 CB r0 r1 d0 d1 hp g=>⟨l,_,rfl,Xf CB,rfl,_,_,rfl,_,_,rfl,rfl,?_⟩⟩;clear CB g;refine⟨_,rfl,_,rfl,a,S,ns,or,4,rfl,hp,d0,d1,by decide,by decide,fun v t H4 tk tsz tal k_v hp g4=>?_⟩;have hht:=o_ t;have tw:∀s∈t.streams,∀x∈s,ThL or x:=fun s hs x hx=>(tk s hs x hx).1;refine⟨_,rfl,_,rfl,_,rfl,v,Cq,or,t,rfl,k_v.mono Xl,by omega,tw,by omega,r0,r1,by omega,by omega,fun d1' qs1 H5 g5 n_d e_d pm=>?_⟩;have da:=hp.ne n_d;have k_v:=k_v.mono (hp.grw g5);have hp:=hp.same g5;have e_d:am a H5 d1'=some (.dT (af qs1)):=by rw[Zh da];exact e_d
  refine⟨_,rfl,v,t,rfl,k_v.mono Xl,by omega,by omega,fun r1' H6 g6 n_r k_r=>?_⟩;have ra:=hp.ne n_r;have e_d:=hp.grw g6 _ _ e_d;have hp:=hp.same g6;have k_r:=wm hp ra k_r;obtain⟨ok,_,len⟩:=Qo (Cq:=Cq) (by omega) tw;have po1:Pok or qs1:=ok.pok.perm pm;have pl1:qs1.length≤24:=by rw[pm.length_eq];omega
  have dm1:Dom qs1 t.all:=Sd pm.symm (vp (Cq:=Cq) (by omega) tw).1;have ta:=wQ tk;clear ok len g4 g5 g6 k_v;dsimp only;refine Yx (fun σ' H'=>∃(d r:Addr)(qs:Sps)(ts:List Th),σ'=[some (.ref S),some (.ref a),some (.int (0+(i:Int))),some (.int Cq),some (.int or),some v,some (.ref d),some (.ref r),o8,o9]∧Pn K S ns H' a∧am a H' d=some (.dT (af qs))∧Pok or qs∧qs.length≤60∧DV (am a H') (.ref r) (bf ts)∧(∀t∈ts,ThK or t)∧Dom qs ts∧ts.length≤221) ?_ ?_
  ·intro nx hnx;refine⟨_,rfl,a,S,ns,2,rfl,hp,Xz rfl,ltI rfl,fun z H7 _ _ hp g=>⟨rfl,_,rfl,Xm (fun _=>?_) (fun _=>?_)⟩⟩
   ·refine⟨_,rfl,_,rfl,a,S,ns,or,9,rfl,hp,d0,d1,by decide,by decide,fun c0 H8 ps0 _ e_0 po0 pl0 hp g=>?_⟩;refine⟨_,rfl,_,rfl,a,S,c0,ns,or,ps0,rfl,hp,e_0,po0,d0,d1,pl0,fun L ts H9 _ okt tl dm k_L hp g9=>?_⟩;exact hnx _ _ ⟨c0,L,ps0,ts,rfl,hp,g9 _ _ e_0,po0,pl0,k_L,okt,dm,by omega⟩
   ·exact hnx _ _ ⟨d1',r1',qs1,t.all,rfl,hp,g _ _ e_d,po1,by omega,k_r.mono g,ta,dm1,by omega⟩
  clear hp e_d po1 pl1 dm1 ta k_r;rintro σ' H7 ⟨d,r,qs,ts,rfl,hp,e_d,po,pl,k_r,okt,dm,tl⟩;have sp:=Zy qs;have po2:Pok or (aA qs):=po.perm sp;have sl:(aA qs).length=qs.length:=sp.length_eq;have dm2:∀{us:List Th},Dom qs us→Can (aA qs) (a8 us):=fun h=>jH (Sd sp.symm h);refine⟨_,rfl,_,rfl,_,rfl,d,Cq,or,qs,rfl,(Z7 e_d).2,by omega,fun q H8 g CC=>?_⟩;have e_d:=hp.grw g _ _ e_d;have k_r:=k_r.mono (hp.grw g);have hp:=hp.same g;have CC:=uV hp CC;rw[←rQ]at CC;have tn:Tn K S a d q ns Cq or qs H8:=⟨hp,e_d,CC⟩;clear g hp e_d CC;obtain⟨_,xs,e0,e_r,dx⟩:=DV.list_inv k_r;cases e0;have xl:=dx.length;rw[pi]at xl;have k_x:=jy dx okt;refine⟨_,rfl,1,rfl,r,xs,rfl,rfl,Xf e_r,fun p n_p=>?_⟩;have g:=tn.pn.grw (Z6 n_p (.lst xs.reverse));have pa:=tn.pn.ne n_p;have k_p:DV (am a (upd H8 p (.lst xs.reverse))) (.ref p) (bf ts.reverse):=.lst (by rw[Zh pa];exact Z4) (by rw[List.map_reverse];exact jK (dx.mono g));have tn:=tn.same (Z6 n_p (.lst xs.reverse));have e_r:=g _ _ e_r;have k_x:=k_x.mono g;generalize upd H8 p (.lst xs.reverse)=H9 at g k_p tn e_r k_x⊢;clear g dx k_r n_p;refine⟨_,rfl,p,q,ts.reverse,Cq,or,aA qs,rfl,k_p.mono Xl,by rw[List.length_reverse];omega,tn.lad.mono Xl,po2,by omega,by omega,by omega,fun x hx=>?_,fun b H10 g10 hb=>?_⟩
  ·have:=okt x (List.mem_reverse.mp hx);exact⟨this.1.1,this.1.2.2⟩
  have eb:b=true:=hb.mpr ⟨fun x hx=>(okt x (List.mem_reverse.mp hx)).1.2.1,dm2 (gt (List.reverse_perm ts).symm dm)⟩;subst eb;clear hb;have e_r:=tn.pn.grw g10 _ _ e_r;have k_x:=k_x.mono (tn.pn.grw g10);have tn:=tn.same g10;refine⟨_,rfl,rfl,_,rfl,Ww ?_⟩;refine⟨_,rfl,_,rfl,a,S,d,ns,or,qs,rfl,tn.pn,tn.ed,po,d0,d1,pl,fun L us H11 _ oku ul dmu k_L hp g11=>?_⟩;have e_r:=g11 _ _ e_r;have k_x:=k_x.mono g11;have tn:=tn.step hp g11;refine⟨_,rfl,L,q,us,Cq,or,aA qs,rfl,k_L.mono Xl,by omega,tn.lad.mono Xl,po2,by omega,by omega,by omega,fun x hx=>⟨(oku x hx).1.1,(oku x hx).1.2.2⟩,fun b H12 g12 hb=>?_⟩;have eb:b=true:=hb.mpr ⟨fun x hx=>(oku x hx).1.2.1,dm2 dmu⟩;subst eb;clear hb k_L;have e_r:=tn.pn.grw g12 _ _ e_r;have k_x:=k_x.mono (tn.pn.grw g12);have tn:=tn.same g12;refine⟨_,rfl,rfl,_,rfl,Ww ?_⟩;refine⟨leN rfl,fun e n_e=>?_⟩;have g:=tn.pn.grw (Z6 n_e (.lst []));have tn:=tn.same (Z6 n_e (.lst []));have e_e:(upd H12 e (.lst [])) e=some (.lst []):=Z4;have e_r:=g _ _ e_r;have k_x:=k_x.mono g;generalize upd H12 e (.lst [])=H13 at g tn e_e e_r k_x⊢;refine⟨_,rfl,_,rfl,e,q,d,Cq,or,[],qs,rfl,.lst e_e .nil,fun _ h=>absurd h zC,Aa _,tn.lad.mono Xl,(Z7 tn.ed).2,po,pl,d0,d1,fun H14 g14=>⟨_,rfl,Ww ?_⟩⟩;have e_r:=tn.pn.grw g14 _ _ e_r;have k_x:=k_x.mono (tn.pn.grw g14);have tn:=tn.same g14;clear g e_e g14 g12 g11 g10;refine⟨5,rfl,leI rfl,ltI rfl,?_⟩;refine X8 (lo:=0) (n:=5) (fun j σ H'=>∃(o9:Option V)(s:Addr)(ys:List V),σ=[some (.ref S),some (.ref a),some (.int (0+(i:Int))),some (.int Cq),some (.int or),some v,some (.ref d),some (.ref s),some (.ref q),o9]∧Tn K S a d q ns Cq or qs H'∧am a H' s=some (.lst ys)∧AllT (am a H') ys∧ys.length≤221+j) ⟨_,r,xs,rfl,tn,e_r,k_x,by omega⟩ ?_ ?_
  ·clear tn e_r k_x;rintro j σ H15 N2 B2 R2 hN2 hR2 hj ⟨o9,s,ys,rfl,tn,e_s,k_y,yl⟩;refine⟨_,rfl,_,rfl,_,rfl,_,rfl,a,S,d,ns,or,qs,rfl,tn.pn,tn.ed,po,d0,d1,pl,fun L us H16 n_L oku ul dmu k_L hp g16=>⟨leN rfl,fun M n_M=>?_⟩⟩;have e_s:=g16 _ _ e_s;have k_y:=k_y.mono g16;have tn:=tn.step hp g16;have Ma:=tn.pn.ne n_M;have g:=tn.pn.grw (Z6 n_M (.lst [.ref s,.ref L]));have tn:=tn.same (Z6 n_M (.lst [.ref s,.ref L]));have e_M:am a (upd H16 M (.lst [.ref s,.ref L])) M=some (.lst [.ref s,.ref L]):=by rw[Zh Ma];exact Z4
   have e_s:=g _ _ e_s;have k_y:=k_y.mono g;have k_L:=k_L.mono g;generalize upd H16 M (.lst [.ref s,.ref L])=H17 at g tn e_M e_s k_y k_L⊢;clear g g16 hp n_M;refine⟨_,rfl,_,_,rfl,rfl,Xz rfl,rfl,.inr ⟨_,rfl,?_⟩⟩;obtain⟨_,xs2,e0,e_L,dx2⟩:=DV.list_inv k_L;cases e0;have xl2:=dx2.length;rw[pi]at xl2;have k_x2:=jy dx2 oku;obtain⟨bb,hbb⟩:∃bb:Bool,decide (V.int ((0+(j:Int)) % 2)=V.int 1)=bb:=⟨_,rfl⟩;dsimp only;rw[hbb];obtain⟨s',zs,hat,e_z,k_z,zl⟩:∃(s':Addr)(zs:List V),atI [V.ref s,.ref L] (if bb=true then 1 else 0)=some (.ref s')∧am a H17 s'=some (.lst zs)∧AllT (am a H17) zs∧zs.length≤221+j:=by
    cases bb
    ·exact⟨s,ys,rfl,e_s,k_y,yl⟩
    ·exact⟨L,xs2,rfl,e_L,k_x2,by omega⟩
   refine⟨M,_,_,_,rfl,rfl,Xf e_M,hat,_,rfl,a,S,s',ns,or,zs,rfl,tn.pn,e_z,k_z,by omega,d0,d1,fun L3 us3 H18 e_3 k_3 l_3 hp g18=>?_⟩;have tn:=tn.step hp g18;obtain⟨ts3,ta3,tb3⟩:=k_3.ts;have tl3:=zd ta3;refine⟨_,rfl,_,rfl,_,rfl,L3,q,d,Cq,or,ts3,qs,rfl,.lst (Z7 e_3).2 (ta3.tup fun c ys e=>(Z7 e).2).dvs,tb3,by omega,tn.lad.mono Xl,(Z7 tn.ed).2,po,pl,d0,d1,fun H19 g19=>⟨_,rfl,Ww (hN2 _ _ ⟨_,L3,us3,rfl,tn.same g19,tn.pn.grw g19 _ _ e_3,k_3.mono (tn.pn.grw g19),by omega⟩)⟩⟩
  ·rintro σ H15 ⟨o9,s,ys,rfl,tn,_⟩;exact hN _ _ ⟨_,_,_,_,_,_,_,_,rfl,tn.pn⟩
 ·rintro σ H' ⟨o2,o3,o4,o5,o6,o7,o8,o9,rfl,_⟩;exact⟨_,(Z8 (Zg Ur)),hq _⟩
end K29
namespace Hd
open PySem PySem.W
section
variable{α β:Type}
def fN(n:Nat)(k:Nat→α):α:=Nat.casesOn n (k 0) fun m=>k (Nat.succ m)
theorem Ut(n:Nat)(k:Nat→α):fN n k=k n:=by cases n <;> rfl
def fV(v:Value)(k:Value→α):α:=match v with
 |.ref a=>fN a fun a=>k (.ref a)
 |.str s t=>fN t fun t=>k (.str s t)
 |.int i t=>fN t fun t=>k (.int i t)
 |v=>k v
theorem So(v:Value)(k:Value→α):fV v k=k v:=by cases v <;> simp only[fV,Ut]
def fO(f:β→(β→α)→α)(o:Option β)(k:Option β→α):α:=match o with
 |none=>k none
 |some x=>f x fun x=>k (some x)
theorem kB{f:β→(β→α)→α}(hf:∀x k,f x k=k x)(o:Option β)(k:Option β→α):fO f o k=k o:=by cases o <;> simp only[fO,hf]
def fL(f:β→(β→α)→α)(l:List β):(List β→α)→α:=
 @List.rec β (fun _=>(List β→α)→α) (fun k=>k []) (fun x _ ih k=>f x fun x=>ih fun r=>k (x::r)) l
theorem uG{f:β→(β→α)→α}(hf:∀x k,f x k=k x)(l:List β):∀k:List β→α,fL f l k=k l:=by
 induction l with
 |nil=>intro k;rfl
 |cons x r ih=>
  intro k;show f x (fun x=>fL f r fun r=>k (x::r))=_;rw[hf,ih]
def fA(f:β→(β→α)→α)(l:Array β)(k:Array β→α):α:=match l with
 |⟨l⟩=>fL f l fun l=>k ⟨l⟩
theorem jI{f:β→(β→α)→α}(hf:∀x k,f x k=k x)(l:Array β)(k:Array β→α):fA f l k=k l:=by
 cases l;simp only[fA,uG hf]
def fE(e:DictEntry)(k:DictEntry→α):α:=match e with
 |⟨h,a,b⟩=>fV a fun a=>fV b fun b=>k ⟨h,a,b⟩
theorem xj(e:DictEntry)(k:DictEntry→α):fE e k=k e:=by cases e;simp only[fE,So]
def fF(e:FuncData)(k:FuncData→α):α:=match e with
 |⟨a,b,c,d,e,g,cl,df,kd,dc,pm,an,cd,ct,bl⟩=>fN g fun g=>fV df fun df=>fV kd fun kd=>fV dc fun dc=>fV pm fun pm=>fO fN an fun an=>fV cd fun cd=>fV ct fun ct=>fN bl fun bl=>k ⟨a,b,c,d,e,g,cl,df,kd,dc,pm,an,cd,ct,bl⟩
theorem yw(e:FuncData)(k:FuncData→α):fF e k=k e:=by cases e;simp only[fF,So,Ut,kB Ut]
def fC(e:ClassData)(k:ClassData→α):α:=match e with
 |⟨a,b,c,d,e,f,g,h,i,j,l⟩=>fL fV b fun b=>fL fV c fun c=>fN d fun d=>fL fV h fun h=>k ⟨a,b,c,d,e,f,g,h,i,j,l⟩
theorem xO(e:ClassData)(k:ClassData→α):fC e k=k e:=by cases e;simp only[fC,uG So,Ut]
def fD(d:Data)(k:Data→α):α:=match d with
 |.seq xs n=>fA fV xs fun xs=>fN n fun n=>k (.seq xs n)
 |.dict xs n=>fA fE xs fun xs=>fN n fun n=>k (.dict xs n)
 |.fields xs=>fA fV xs fun xs=>k (.fields xs)
 |.cell v=>fO fV v fun v=>k (.cell v)
 |.prim v=>fV v fun v=>k (.prim v)
 |.func f=>fF f fun f=>k (.func f)
 |.cls f=>fC f fun f=>k (.cls f)
 |d=>k d
theorem yk(d:Data)(k:Data→α):fD d k=k d:=by cases d <;> simp only[fD,jI So,jI xj,Ut,kB So,So,yw,xO]
def fJ(o:Obj)(k:Obj→α):α:=match o with
 |⟨c,d,x,s⟩=>fV c fun c=>fO fN d fun d=>fD x fun x=>fA (fO fV) s fun s=>k ⟨c,d,x,s⟩
theorem uI(o:Obj)(k:Obj→α):fJ o k=k o:=by cases o;simp only[fJ,So,kB Ut,yk,jI (kB So)]
def fB(t:BT):(BT→α)→α:=
 @BT.rec (fun _=>(BT→α)→α) (fun k=>k .nil) (fun v _ _ il ir k=>fJ v fun v=>il fun l=>ir fun r=>k (.node v l r)) t
theorem xq(t:BT):∀k:BT→α,fB t k=k t:=by
 induction t with
 |nil=>intro k;rfl
 |node v l r il ir=>
  intro k;show fJ v (fun v=>fB l fun l=>fB r fun r=>k (.node v l r))=_;rw[uI,il,ir]
def fR(d:Drawn)(k:Drawn→α):α:=match d with
 |⟨a,b,c,d⟩=>fN a fun a=>fN b fun b=>fN c fun c=>fN d fun d=>k ⟨a,b,c,d⟩
theorem uK(d:Drawn)(k:Drawn→α):fR d k=k d:=by cases d;simp only[fR,Ut]
def fS(s:SharedT)(k:SharedT→α):α:=match s with
 |⟨t,n,life,g,d,tk,os⟩=>fB t fun t=>fN n fun n=>fR d fun d=>fN tk fun tk=>k ⟨t,n,life,g,d,tk,os⟩
theorem uv(s:SharedT)(k:SharedT→α):fS s k=k s:=by cases s;simp only[fS,xq,Ut,uK]
def fP(d:Pos)(k:Pos→α):α:=match d with
 |⟨a,b,c,d⟩=>fN a fun a=>fN b fun b=>fN c fun c=>fN d fun d=>k ⟨a,b,c,d⟩
theorem yr(d:Pos)(k:Pos→α):fP d k=k d:=by cases d;simp only[fP,Ut]
def fH(s:Shared)(k:Shared→α):α:=match s with
 |⟨⟨l,life⟩,g,d,tk,os⟩=>fA fJ l fun l=>fR d fun d=>fN tk fun tk=>k ⟨⟨l,life⟩,g,d,tk,os⟩
theorem yp(s:Shared)(k:Shared→α):fH s k=k s:=by obtain⟨⟨l,life⟩,g,d,tk,os⟩:=s;simp only[fH,jI uI,Ut,uK]
end
section
variable{α:Type}
def hd(tb:String→Option Builtin)(p:Program)(w:World)(m:Nat)(ann:Option Value)(env:Env)(q:Pos)(F:Nat)(fin:SharedT→Code→Pos→Option α)(l:List Stmt):SharedT→Code→Pos→Option α:=
 @List.rec Stmt (fun _=>SharedT→Code→Pos→Option α) fin (fun st _ ih s c pos=>match segRunT tb p w m ann 1 F s (pieceOf st env c pos [topFrame q]) with
  |some (.next,s',c',p')=>fS s' fun s'=>fP p' fun p'=>ih s' c' p'
  |_=>none) l
theorem sR{tb:String→Option Builtin}{p:Program}{w:World}{m:Nat}{ann:Option Value}{env:Env}{q:Pos}{F:Nat}{fin:SharedT→Code→Pos→Option α}{st:Stmt}{l:List Stmt}{s:SharedT}{c:Code}{pos:Pos}{r:α}(h:hd tb p w m ann env q F fin (st::l) s c pos=some r):∃s' c' p',segRunT tb p w m ann 1 F s (pieceOf st env c pos [topFrame q])=some (.next,s',c',p')∧hd tb p w m ann env q F fin l s' c' p'=some r:=by
 have h:(match segRunT tb p w m ann 1 F s (pieceOf st env c pos [topFrame q]) with
  |some (.next,s',c',p')=>fS s' fun s'=>fP p' fun p'=>hd tb p w m ann env q F fin l s' c' p'
  |_=>none)=some r:=h
 split at h
 ·rename_i s' c' p' e;rw[uv,yr]at h;exact⟨s',c',p',e,h⟩
 ·cases h
theorem vZ{tb:String→Option Builtin}{p:Program}{w:World}{n₀:Nat}{ann:Option Value}{env:Env}{q:Pos}{n N:Nat}{s s' r:Shared}{st:Stmt}{rest:List Stmt}{c c':Code}{pos p':Pos}(h:segRun tb p w n₀ ann 1 n s (pieceOf st env c pos [topFrame q])=some (.next,s',c',p'))(k:topRun tb p w n₀ ann N s' (restOf rest env c' p' [topFrame q])=some r):topRun tb p w n₀ ann (n+N) s (restOf (st::rest) env c pos [topFrame q])=some r:=by
 obtain⟨a,ha,hN⟩:=seg_top (res:=id) (K':=fun f=>match f with | .next=>(execs rest env).wrap doneF (leaveH env) id id | f=>doneF f) (H':=leaveH env) (B:=[topFrame q]) rfl n s (pieceOf st env c pos [topFrame q])
  ⟨(exec st env).wrap (fun f=>match f with | .next=>(execs rest env).wrap doneF (leaveH env) id id | f=>doneF f) (leaveH env) id id,c,pos,[topFrame q]⟩ _ _ _ _ ⟨rfl,rfl,.inl ⟨rfl,rfl,_,rfl,rfl⟩⟩ h
 obtain rfl:a=.next:=ha;have:=hN N r k;unfold restOf;rw[execs_cons_wrap];exact this
theorem oO{tb:String→Option Builtin}{p:Program}{w:World}{m:Nat}{ann:Option Value}{env:Env}{q:Pos}{F:Nat}{fin:SharedT→Code→Pos→Option α}{r:α}:∀(l:List Stmt)(s:SharedT)(c:Code)(pos:Pos),hd tb p w m ann env q F fin l s c pos=some r→
  ∃s' c' p',fin s' c' p'=some r∧∀N z,topRun tb p w m ann N s'.abs (restOf [] env c' p' [topFrame q])=some z→topRun tb p w m ann (l.length*F+N) s.abs (restOf l env c pos [topFrame q])=some z
 | [],s,c,pos,h=>⟨s,c,pos,h,fun N z hz=>by rw[Ai,Nat.zero_mul,A5];exact hz⟩
 |st::l,s,c,pos,h=>by
  obtain⟨s',c',p',e,h⟩:=sR h;obtain⟨s2,c2,p2,hf,hN⟩:=oO l s' c' p' h;refine⟨s2,c2,p2,hf,fun N z hz=>?_⟩;have:=vZ (segRun_of e) (hN N z hz);rw[zw,Nat.succ_mul,show l.length*F+F+N=F+(l.length*F+N) by omega];exact this
def xf{γ:Type}(tb:String→Option Builtin)(p:Program)(w:World)(m:Nat)(ann:Option Value)(env:Env)(q:Pos)(look:Shared→γ)(s:SharedT)(c:Code)(pos:Pos):Option γ:=
 match topRun tb p w m ann 50 s.abs (restOf [] env c pos [topFrame q]) with
 |some r=>fH r fun r=>some (look r)
 |none=>none
def ofL(l:List Obj):Nat→BT→BT:=@List.rec Obj (fun _=>Nat→BT→BT) (fun _ t=>t) (fun o _ ih i t=>ih (Nat.succ i) (t.ins i o)) l
def toT(s:Shared):SharedT:=match s with
 |⟨⟨⟨l⟩,life⟩,g,d,tk,os⟩=>⟨ofL l 0 .nil,l.length,life,g,d,tk,os⟩
def pre(p:Program)(w:World)(os:OsState):Option (Shared×Thread):=topGo treeTable p w 11 (some (.ref 6)) 12 ⟨boot_heap w.params,⟨[]⟩,boot_drawn,boot_toks,os⟩ (topStub p)
def zp:Pos:=⟨0,0,0,0⟩
def rk(p:Program):Env:={scope:=p.main.scope,locals:=mainNs,globals:=mainNs,cells:=[],code:=.ref 13,frame:=some 14}
def sa(p:Program)(w:World)(os:OsState):Shared:=match pre p w os with
 |some (s,_)=>s
 |none=>⟨{},#[],{},0,os⟩
def hc(p:Program):Code:=.body (behindTheImports p) (rk p)
def blk(p:Program)(w:World)(os:OsState):Option (Flow×Shared×Code×Pos):=segRun treeTable p w 11 (some (.ref 6)) 1 1 (sa p w os) (blockOf (behindTheImports p) (rk p) (hc p) zp [topFrame zp])
def chk{γ:Type}(p:Program)(look:Shared→γ)(w:World)(os:OsState):Option γ:=
 fS (toT (sa p w os)) fun s=>hd treeTable p w 11 (some (.ref 6)) (rk p) zp 600 (xf treeTable p w 11 (some (.ref 6)) (rk p) zp look) (behindTheImports p) s (hc p) zp
end
theorem rD{p q:Program}{loose:List Str}{Xt:Shared→Bool}{α:Type}{Yf:Shared→α}{Ya:World→α}(e:opening p=plainProg p.main.scope.names)(f:∀s,fenceModules? p s=some s)(hpre:∀(w:World) (os:OsState),pre p w os=some (sa p w os,⟨denote treeTable (hc p),hc p,zp,[topFrame zp]⟩))(hblk:∀(w:World) (os:OsState),blk p w os=some (.next,(toT (sa p w os)).abs,hc p,zp))(size:∀w:World,((boot_heap w.params).isNs mainGlobals && (Array.mk ([]:List GenState)).size==0,(boot_heap w.params).objs.size,(boot_heap w.params).nsMap mainGlobals "__annotations__")=(true,11,some (.ref 6)))(len:Nat.ble (behindTheImports p).length 1600=true)(hchk:∀(w:World) (os:OsState),chk p (fun s=>((staticsOk (importedModules p.main.body) (boot_heap w.params) s.heap && namesBound p s.heap && gensDone s && laidKept (boot_heap w.params) s.heap),openSeen q loose (importedModules p.main.body) Xt true s,Yf s)) w os=some (true,openGood q loose,Ya w)):
  LeftO p q loose Xt Yf Ya 1000000 true:=fun w=>by
 obtain⟨⟨h,gs,d,k,os⟩,e1,e'⟩:=zV.mp (boot_open (p:=p) (N:=1000000) e rfl f w);obtain⟨rfl,rfl,rfl,rfl⟩:h=boot_heap w.params∧gs=⟨[]⟩∧d=boot_drawn∧k=boot_toks:=by simpa using e'
 obtain⟨z1,z2,z3⟩:_∧_∧_:=by simpa only[Prod.mk.injEq] using size w
 have hc1:=hchk w os;unfold chk at hc1;rw[uv]at hc1;obtain⟨s2,c2,p2,hf,hN⟩:=oO _ _ _ _ hc1;unfold xf at hf
 split at hf
 case h_2=>cases hf
 rename_i r hr;rw[yp]at hf;obtain⟨l1,l2,l3⟩:_∧_∧_:=by simpa only[Option.some.injEq,Prod.mk.injEq] using hf
 have a1:=hN _ _ hr;have a2:=piece_block (hblk w os) a1;have a3:=go_top (hpre w os) a2;have le:12+(1+((behindTheImports p).length*600+50))≤1000000:=by
  have:=Nat.le_of_ble_eq_true len;omega
 have a4:=topRun_mono (1000000-(12+(1+((behindTheImports p).length*600+50)))) _ _ _ _ a3;rw[show 12+(1+((behindTheImports p).length*600+50))+(1000000-(12+(1+((behindTheImports p).length*600+50))))=1000000 by omega]at a4;have t:topFrom treeTable p w 1000000 ⟨boot_heap w.params,⟨[]⟩,boot_drawn,boot_toks,os⟩=some r:=by
  unfold topFrom;dsimp only;rw[z1,z2,z3,a4];show(match staticsOk (importedModules p.main.body) (boot_heap w.params) r.heap && namesBound p r.heap && gensDone r && laidKept (boot_heap w.params) r.heap with | true=>_ | false=>_)=_;rw[l1]
 unfold openEnds;rw[e1];show(topFrom treeTable p w 1000000 _).map _=_;rw[t];exact Ak some (Ad l2 l3)
def cF(p q:Program)(as:List Addr)(w:World)(os:OsState):=
 chk p (fun s=>((staticsOk (importedModules p.main.body) (boot_heap w.params) s.heap && namesBound p s.heap && gensDone s && laidKept (boot_heap w.params) s.heap),openSeen q [] (importedModules p.main.body) (fun s=>xlAt q [] s && recOk [] s) true s,as.map s.heap.get?)) w os
def cG(q:Program):=openGood q []
theorem cF_:@cF=@cF:=rfl
theorem cG_:@cG=@cG:=rfl
end Hd
def PySem.W.Fast.tw14598715356260435866:PySem.Params→PySem.Obj:=PySem.W.boot_o_0
theorem PySem.W.Fast.te14598715356260435866:PySem.W.boot_o_0=PySem.W.Fast.tw14598715356260435866:=rfl
lay_quick Hd.cF Hd.cG
name_quick cFQ for Hd.cF by Hd.cF_
name_quick cGQ for Hd.cG by Hd.cG_
namespace Hd
open PySem PySem.W
theorem hS(w:World):((boot_heap w.params).isNs mainGlobals && (Array.mk ([]:List GenState)).size==0,(boot_heap w.params).objs.size,(boot_heap w.params).nsMap mainGlobals "__annotations__")=(true,11,some (.ref 6)):=by kernel_rfl
theorem wY(p q:Program)(as:List Addr)(w:World)(os:OsState):cF p q as w os=W.Fast.cFQ p q as w os:=by rw[←W.Fast.cFQ_eq]
theorem wR(q:Program):openGood q []=W.Fast.cGQ q:=by rw[←W.Fast.cGQ_eq];rfl
theorem left{p q:Program}(e:opening p=plainProg p.main.scope.names)(f:∀s,fenceModules? p s=some s)(hpre:∀(w:World) (os:OsState),pre p w os=some (sa p w os,⟨denote treeTable (hc p),hc p,zp,[topFrame zp]⟩))(hblk:∀(w:World) (os:OsState),blk p w os=some (.next,(toT (sa p w os)).abs,hc p,zp))(len:Nat.ble (behindTheImports p).length 1600=true){K:Params→Frag}{as:List Addr}{ek:∀P,as=(K P).map (·.1)}(h:∀(w:World) (os:OsState),W.Fast.cFQ p q as w os=some (true,W.Fast.cGQ q,(K w.params).map fun p=>some p.2)):
  LeftO p q [] (fun s=>xlAt q [] s && recOk [] s) (Hook.obs (kHook K as ek)) (Hook.val (kHook K as ek)) 1000000 true:=
 rD e f hpre hblk hS len fun w os=>(wY p q as w os).trans ((h w os).trans (by rw[wR];rfl))
end Hd
namespace L2
open PySem PyProof.Rows
structure Df(K:W.Frag)(mg:Str→Option Value)(x:Str)(st:Stmt):Prop where
 ex:∃(f:Addr)(fd:FuncData),Fun K x x st f fd∧mg x=some (.ref f)
section
variable{P:Program}{w:World}{K:W.Frag}{mg:Str→Option Value}{base h:Heap}{x:Str}{st:Stmt}{k:Nat}{ps:List Str}{sp:Sp}{p0 p1 p2 p3:Str}
theorem df_mk(X:K.In h)(G:h.Ns mainGlobals mg){f:Addr}{oc:Value}{od an:Option Addr}{osl:Array (Option Value)}{kV doc pm cdv ct:Value}(a:W.nsIn K mainGlobals x=some (some (.ref f)))(l:K.lookup f=some ⟨oc,od,.func (W.fnOf x x (aI st) (aF st) (ad st) .none kV doc pm an cdv ct),osl⟩)(c:W.codeIn K cdv x=true)(k:W.keepIn K (.ref f)=true):Df K mg x st:=⟨f,_,n9 l c k,W.mg_of X G a⟩
theorem Df.has(d:Df K mg x st)(ok:∀{f:Addr} {fd:FuncData},Fun K x x st f fd→FnOk P w K mg base CX0 k f fd ps sp)(b:∀{f:Addr} {fd:FuncData},Fun K x x st f fd→Binds K fd ps []):Has P w K mg base x k ps sp:=let ⟨_,_,F,m⟩:=d.ex;Has.of (ok F) (b F) F.kp m
theorem Df.h1(d:Df K mg x st)(ok:∀{f:Addr} {fd:FuncData},Fun K x x st f fd→FnOk P w K mg base CX0 k f fd [p0] sp)(h:∀(kV doc pm:Value) (an:Option Addr) (cdv ct u0:Value),bindArgs (W.fnOf x x (aI st) (aF st) (ad st) .none kV doc pm an cdv ct) ⟨[u0],[]⟩=pure [(p0,u0)]):Has P w K mg base x k [p0] sp:=d.has ok fun F=>F.b1 h
theorem Df.h2(d:Df K mg x st)(ok:∀{f:Addr} {fd:FuncData},Fun K x x st f fd→FnOk P w K mg base CX0 k f fd [p0,p1] sp)(h:∀(kV doc pm:Value) (an:Option Addr) (cdv ct u0 u1:Value),bindArgs (W.fnOf x x (aI st) (aF st) (ad st) .none kV doc pm an cdv ct) ⟨[u0,u1],[]⟩=pure [(p0,u0),(p1,u1)]):Has P w K mg base x k [p0,p1] sp:=d.has ok fun F=>F.b2 h
theorem Df.h3(d:Df K mg x st)(ok:∀{f:Addr} {fd:FuncData},Fun K x x st f fd→FnOk P w K mg base CX0 k f fd [p0,p1,p2] sp)(h:∀(kV doc pm:Value) (an:Option Addr) (cdv ct u0 u1 u2:Value),bindArgs (W.fnOf x x (aI st) (aF st) (ad st) .none kV doc pm an cdv ct) ⟨[u0,u1,u2],[]⟩=pure [(p0,u0),(p1,u1),(p2,u2)]):Has P w K mg base x k [p0,p1,p2] sp:=d.has ok fun F=>F.b3 h
end
end L2
namespace K29
open PySem L2 Ld
theorem all_mk{l:W.OpenLaw}{w:World}{K:W.Frag}{h:Heap}{mg:Str→Option Value}{fa f34:Addr}(X:K.In h)(G:h.Ns mainGlobals mg)(hfa:mg "law"=some (.ref fa)){od34 an34:Option Addr}{sl34:Array (Option Value)}{oc34 kV34 dc34 pm34 cd34 ct34:Value}(d0:Df K mg "is_whole" b0)(d1:Df K mg "is_whole_from" aY)(d2:Df K mg "is_whole_within" aQ)(d3:Df K mg "added_counts" a_)(d4:Df K mg "first_of" bZ)(d5:Df K mg "last_of" cB)(d6:Df K mg "parent_of" bJ)(d7:Df K mg "is_stretch" bB)(d8:Df K mg "fold_up" cE)(d9:Df K mg "things_in" bM)(d10:Df K mg "standing_of" bi)(d11:Df K mg "is_folded" bO)(d12:Df K mg "folds_towards" aW)(d13:Df K mg "paper_for" bH)(d14:Df K mg "fits" ie)(d15:Df K mg "_law_pen" dL)(d16:Df K mg "_law_take" cW)(d17:Df K mg "_law_many" c_)(d18:Df K mg "_law_stream" cf)(d19:Df K mg "_law_tree" dq)(d20:Df K mg "_law_things" bC)(d21:Df K mg "_law_fold_once" bh)(d22:Df K mg "_law_settle" b7)(d23:Df K mg "_law_ladder" ce)(d24:Df K mg "_law_added" cO)(d25:Df K mg "_law_grown" bR)(d26:Df K mg "_law_sizes" cJ)(d27:Df K mg "_law_counts" bY)(d28:Df K mg "_law_first" cH)(d29:Df K mg "_law_last" c7)(d30:Df K mg "_law_is_dealt" bD)(d31:Df K mg "_law_dealt" cN)(d32:Df K mg "_law_bent" dw)(d33:Df K mg "_law_right" cD)(a34:W.nsIn K mainGlobals "law"=some (some (.ref f34)))(l34:K.lookup f34=some ⟨oc34,od34,.func (W.fnOf "law" "law" (aI cz) (aF cz) (ad cz) .none kV34 dc34 pm34 an34 cd34 ct34),sl34⟩)(c34:W.codeIn K cd34 "law"=true)(k34:W.keepIn K (.ref f34)=true)(aC:mg "len"=none)(ah:mg "isinstance"=none)(ao:mg "range"=none)(av:mg "list"=none)(ax:mg "sorted"=none)(bT:mg "tuple"=none)(aX:mg "dict"=none)(ba:mg "sum"=none)(cu:mg "int"=none)(cA:mg "bool"=none)(oS:mg "all"=none)(cw:mg "min"=none)(oo:mg "max"=none)(mY:mg "set"=none)
  :∃fd:FuncData,(∀(s:Shared)(v:Value),BindsTo s fd ⟨[v],[]⟩ [("_law_script",v)])∧∀base:Heap,K.In base→base.Ns mainGlobals mg→FnOk l.prog w K mg base CX0 41 fa fd ["_law_script"] (kg K):=by
 have e:=hfa.symm.trans (W.mg_of X G a34);cases e;obtain⟨f20,v20,F20,m20⟩:=d20.ex;have b20:Binds K _ ["_law_tree_here"] []:=F20.b1 fun _ _ _ _ _ _ _=>rfl;obtain⟨f25,v25,F25,m25⟩:=d25.ex;have b25:Binds K _ ["_law_room","_law_deep","_law_tree_here"] []:=F25.b3 fun _ _ _ _ _ _ _ _ _=>rfl;have F34:=n9 (st:=cz) l34 c34 k34;refine⟨W.fnOf "law" "law" (aI cz) (aF cz) (ad cz) .none kV34 dc34 pm34 an34 cd34 ct34,fun s v=>.of_eq rfl,fun base kb nb=>?_⟩;have yt:=d15.h1 (v7 (P:=l.prog) (w:=w) (mg:=mg) (base:=base)) (by intros;rfl);have bK:=d16.h2 (tR (P:=l.prog) (w:=w) (mg:=mg) (base:=base) aC) (by intros;rfl);have iK:=d17.h1 (rN bK) (by intros;rfl);have q_:=d26.h1 (pX bK) (by intros;rfl);have qw:=d27.h3 (md ao cu ax aC cw bK iK) (by intros;rfl);have qS:=d18.h3 (vI ao aC bK iK) (by intros;rfl);have wP:=d19.h3 (yu ao aC bK qS) (by intros;rfl);have qf:=nN (P:=l.prog) (w:=w) (mg:=mg) (base:=base) ah av F20 b20 m20 40;have xW:=d21.h3 (wn (P:=l.prog) (w:=w) (mg:=mg) (base:=base) ao ax mY ba) (by intros;rfl);have vG:=d22.h3 (q9 ba av xW) (by intros;rfl);have xZ:=d23.h3 (wg (P:=l.prog) (w:=w) (mg:=mg) (base:=base) ax bT ba av) (by intros;rfl);have sK:=d24.h2 (wv (P:=l.prog) (w:=w) (mg:=mg) (base:=base) aX) (by intros;rfl);have sE:=uH sK vG ah av F25 b25 m25 8;have vQ:=d28.h1 (xI (P:=l.prog) (w:=w) (mg:=mg) (base:=base) ao) (by intros;rfl);have xV:=d29.h1 (yh vQ) (by intros;rfl);have x6:=d30.h3 (wc ax cw ba av vQ xV) (by intros;rfl);have xJ:=d31.h2 (uX cw aC ax bK iK vQ xV) (by intros;rfl);have yy:=d32.h3 (u9 aC oo bK) (by intros;rfl);have ui:=d4.h1 (pW (P:=l.prog) (w:=w) (mg:=mg) (base:=base)) (by intros;rfl);have vW:=d5.h1 (uj ui) (by intros;rfl);have h1:=d0.h1 (gW (P:=l.prog) (w:=w) (mg:=mg) (base:=base) ah cu cA) (by intros;rfl);have h2:=d1.h2 (S8 h1) (by intros;rfl);have h3:=d2.h3 (T8 h2) (by intros;rfl);have h6:=d6.h1 (mO (P:=l.prog) (w:=w) (mg:=mg) (base:=base)) (by intros;rfl);have h7:=d8.h3 (qA h6) (by intros;rfl);have h8:=d3.h2 (rA (P:=l.prog) (w:=w) (mg:=mg) (base:=base) aX) (by intros;rfl);have h9:=d9.h1 (vJ (P:=l.prog) (w:=w) (mg:=mg) (base:=base) ba) (by intros;rfl);have h10:=d10.h1 (vM h8) (by intros;rfl);have h11:=d7.h2 (P6 ah bT aC h3 vW) (by intros;rfl);have h12:=d11.h3 (mo oS aX h10 h9 h11 h7) (by intros;rfl);have h13:=d12.h2 (u5 aX ao h10 h6 h8) (by intros;rfl);have h14:=d13.h2 (yC h13 h12) (by intros;rfl);have h15:=d14.h2 (rC h14) (by intros;rfl);have ye:=d33.h3 (wN ah cA av h15 x6) (by intros;rfl);exact vT ao cu yt q_ qw wP qf bK sE xZ xJ yy ye h15 F34
theorem walk{l:W.OpenLaw}{q:Program}{loose:List Str}{XP:(Str→Option Value)→Heap→Prop}{YP:World→Heap→Prop}{d:DefRec}{K:Params→W.Frag}(hn:l.most=some 63)(hdf:d.params.defaults=[])(hY:∀(w:World) (h:Heap),YP w h→(K w.params).In h)(F:∀(w:World) (mg:Str→Option Value) (fa:Addr) (h:Heap),(K w.params).In h→h.Ns mainGlobals mg→mg d.name=some (.ref fa)→
   ∃fd:FuncData,(∀(s:Shared) (u:Value),BindsTo s fd ⟨[u],[]⟩ [("_law_script",u)])∧∀base:Heap,(K w.params).In base→base.Ns mainGlobals mg→FnOk l.prog w (K w.params) mg base CX0 41 fa fd ["_law_script"] (kg (K w.params))):
  W.WalkO q loose XP YP l.row.toRowW d [] (fun f vs=>PySem.call f vs):=
 L2.walk_of (n:=63) (k:=41) (x:="_law_script") (CX:=fun _=>CX0) (sp:=fun w=>kg (K w.params)) hn (by decide) hdf ⟨rfl,by decide,by decide⟩ hY F (fun _ _ a ns hl _ hS=>⟨a,ns,rfl,hS,hl,fun _=>rfl⟩) fun _ _ _ _ _ z=>z
end K29
def PySem.W.Fast.tw2768778326688105130:PySem.Program:=PySem.Challenge.pw_sumshare_k29_streams_that_fit
theorem PySem.W.Fast.te2768778326688105130:PySem.Challenge.pw_sumshare_k29_streams_that_fit=PySem.W.Fast.tw2768778326688105130:=rfl
def K29.qv:PySem.Program:=PySem.W.view PySem.Challenge.pw_sumshare_k29_streams_that_fit [1,2,3,4,6,7,8,9,11,13,15,16,17,18,20,22,23,24,25,26,27,28,29,30,31,32,33,34,35,36,37,38,39,40,41]
open PySem PySem.W PyProof.Rows
local macro_rules | `(tactic| o_head $H)=>`(tactic| (refine holds_open (q:=K29.qv) (loose:=[]) (Xt:=fun s=>xlAt K29.qv [] s && recOk [] s) (XP:=XL K29.qv []) (Yf:=Hook.obs $H) (Ya:=Hook.val $H) (YP:=Hook.says $H) (N:=1000000) ?hl (Hook.of $H) (Hook.keeps $H) (fun s e=>xl_of s (Bool.and_eq_true_iff.mp e).1) XL.keeps (by rfl) (by rfl) (by rfl) (fun s e=>recFacts_of (Bool.and_eq_true_iff.mp e).2) (by rfl) (by first | assumption | decide +kernel) (by decide +kernel) ⟨rfl,rfl,rfl,rfl,rfl,by decide +kernel⟩ ?hw ?hc;(case hl=>exact Hd.left (p:=PySem.Challenge.pw_sumshare_k29_streams_that_fit) rfl (fun _=>rfl) (fun w os=>by kernel_rfl) (fun w os=>by kernel_rfl) rfl fun w os=>by kernel_rfl)))
set_option maxRecDepth 100000 in
set_option maxHeartbeats 0 in
theorem PySem.Challenge.cw_sumshare_k29_streams_that_fit_holds : PySem.Challenge.rw_sumshare_k29_streams_that_fit.Holds := by
 w_on;o_law;k_head;(case hw=>w_witness2)
 k_fill
 refine K29.walk (l:=PySem.Challenge.rw_sumshare_k29_streams_that_fit) rfl rfl (fun w h Y=>PySem.W.kIn_of Y) ?F
 case F=>
  intro w mg fa h KX G hmg
  refine' K29.all_mk KX G hmg (L2.df_mk KX G ?_ ?_ ?_ ?_) (L2.df_mk KX G ?_ ?_ ?_ ?_) (L2.df_mk KX G ?_ ?_ ?_ ?_) (L2.df_mk KX G ?_ ?_ ?_ ?_) (L2.df_mk KX G ?_ ?_ ?_ ?_) (L2.df_mk KX G ?_ ?_ ?_ ?_) (L2.df_mk KX G ?_ ?_ ?_ ?_) (L2.df_mk KX G ?_ ?_ ?_ ?_) (L2.df_mk KX G ?_ ?_ ?_ ?_) (L2.df_mk KX G ?_ ?_ ?_ ?_) (L2.df_mk KX G ?_ ?_ ?_ ?_) (L2.df_mk KX G ?_ ?_ ?_ ?_) (L2.df_mk KX G ?_ ?_ ?_ ?_) (L2.df_mk KX G ?_ ?_ ?_ ?_) (L2.df_mk KX G ?_ ?_ ?_ ?_) (L2.df_mk KX G ?_ ?_ ?_ ?_) (L2.df_mk KX G ?_ ?_ ?_ ?_) (L2.df_mk KX G ?_ ?_ ?_ ?_) (L2.df_mk KX G ?_ ?_ ?_ ?_) (L2.df_mk KX G ?_ ?_ ?_ ?_) (L2.df_mk KX G ?_ ?_ ?_ ?_) (L2.df_mk KX G ?_ ?_ ?_ ?_) (L2.df_mk KX G ?_ ?_ ?_ ?_) (L2.df_mk KX G ?_ ?_ ?_ ?_) (L2.df_mk KX G ?_ ?_ ?_ ?_) (L2.df_mk KX G ?_ ?_ ?_ ?_) (L2.df_mk KX G ?_ ?_ ?_ ?_) (L2.df_mk KX G ?_ ?_ ?_ ?_) (L2.df_mk KX G ?_ ?_ ?_ ?_) (L2.df_mk KX G ?_ ?_ ?_ ?_) (L2.df_mk KX G ?_ ?_ ?_ ?_) (L2.df_mk KX G ?_ ?_ ?_ ?_) (L2.df_mk KX G ?_ ?_ ?_ ?_) (L2.df_mk KX G ?_ ?_ ?_ ?_) ?a34 ?l34 ?c34 ?k34 (zX KX G ?_) (zX KX G ?_) (zX KX G ?_) (zX KX G ?_) (zX KX G ?_) (zX KX G ?_) (zX KX G ?_) (zX KX G ?_) (zX KX G ?_) (zX KX G ?_) (zX KX G ?_) (zX KX G ?_) (zX KX G ?_) (zX KX G ?_)
  (case a34=>k_is);(case l34=>k_is);(case c34=>k_is);(case k34=>k_is)
  any_goals k_is
