import PyProof.Rows.All
import Wide.All
import OpenK.AllK
import Wide.FinOn
import Lean
import PyProof.EqAt
import PyProof.EqKinds
import PyProof.TupleCall
import PySem.Challenge.RW_sumshare_k34_whole_papers_where_it_fits
set_option Elab.async false
set_option linter.all false
set_option maxRecDepth 100000
section
open PySem PySem.Spec PyProof.Rows
theorem ae:type_of%@PySem.wpAny_bind:=@PySem.wpAny_bind
theorem az.{u0,u1}:type_of%@List.length_map.{u0,u1}:=@List.length_map.{u0,u1}
theorem io:type_of%@PySem.Heap.get?_push_of_some:=@PySem.Heap.get?_push_of_some
theorem pi.{u0}:type_of%@if_neg.{u0}:=@if_neg.{u0}
theorem zC:type_of%@PySem.wpAny_pure:=@PySem.wpAny_pure
theorem zD:type_of%@Nat.le_refl:=@Nat.le_refl
theorem zE.{u0}:type_of%@if_pos.{u0}:=@if_pos.{u0}
theorem zF.{u0,u1}:type_of%@List.mem_map.{u0,u1}:=@List.mem_map.{u0,u1}
theorem zG.{u0}:type_of%@List.mem_singleton.{u0}:=@List.mem_singleton.{u0}
theorem zH.{u0,u1}:type_of%@List.map_cons.{u0,u1}:=@List.map_cons.{u0,u1}
theorem zI.{u0}:type_of%@List.length_append.{u0}:=@List.length_append.{u0}
theorem zJ.{u0}:type_of%@Array.getElem?_eq_getElem.{u0}:=@Array.getElem?_eq_getElem.{u0}
theorem zK:type_of%@Bool.false_ne_true:=@Bool.false_ne_true
theorem zL.{u0}:type_of%@Array.getElem?_toList.{u0}:=@Array.getElem?_toList.{u0}
theorem zM.{u0}:type_of%@List.getElem?_eq_some_iff.{u0}:=@List.getElem?_eq_some_iff.{u0}
theorem zN:type_of%@PySem.Heap.lt_size:=@PySem.Heap.lt_size
theorem zO:type_of%@of_decide_eq_true:=@of_decide_eq_true
theorem zP:type_of%@decide_eq_true:=@decide_eq_true
theorem zQ:type_of%@PyProof.Rows.wpS_pure:=@PyProof.Rows.wpS_pure
theorem zR.{u0}:type_of%@List.mem_append_right.{u0}:=@List.mem_append_right.{u0}
theorem zS:type_of%@PyProof.Rows.wpS_bind:=@PyProof.Rows.wpS_bind
theorem zT.{u0}:type_of%@List.mem_append.{u0}:=@List.mem_append.{u0}
theorem zU.{u0}:type_of%@Array.length_toList.{u0}:=@Array.length_toList.{u0}
theorem zV:type_of%@PySem.Paired.length:=@PySem.Paired.length
theorem zW.{u0,u1}:type_of%@List.map_append.{u0,u1}:=@List.map_append.{u0,u1}
theorem zX:type_of%@Nat.ne_of_lt:=@Nat.ne_of_lt
theorem zY:type_of%@PySem.Heap.get?_push_size:=@PySem.Heap.get?_push_size
theorem zZ.{u0}:type_of%@List.mem_cons.{u0}:=@List.mem_cons.{u0}
theorem z5.{u0}:type_of%@List.length_take.{u0}:=@List.length_take.{u0}
theorem z6:type_of%@Nat.lt_of_lt_of_le:=@Nat.lt_of_lt_of_le
theorem z7.{u0}:type_of%@List.mem_of_getElem?.{u0}:=@List.mem_of_getElem?.{u0}
theorem z8.{u0}:type_of%@List.size_toArray.{u0}:=@List.size_toArray.{u0}
theorem z9.{u0,u1}:type_of%@List.getElem?_map.{u0,u1}:=@List.getElem?_map.{u0,u1}
theorem Aa.{u0}:type_of%@Option.some.inj.{u0}:=@Option.some.inj.{u0}
theorem Ab.{u0}:type_of%@List.take_length.{u0}:=@List.take_length.{u0}
theorem Ac.{u0}:type_of%@List.sum_cons.{u0}:=@List.sum_cons.{u0}
theorem Ad.{u0}:type_of%@beq_iff_eq.{u0}:=@beq_iff_eq.{u0}
theorem Ae.{u0}:type_of%@List.nodup_cons.{u0}:=@List.nodup_cons.{u0}
theorem Af:type_of%@PySem.mem_of_lookup:=@PySem.mem_of_lookup
theorem Ag.{u0}:type_of%@List.append_assoc.{u0}:=@List.append_assoc.{u0}
theorem Ah:type_of%@Int.le_refl:=@Int.le_refl
theorem Ai.{u0}:type_of%@List.mem_append_left.{u0}:=@List.mem_append_left.{u0}
theorem Aj.{u0}:type_of%@List.mem_filter.{u0}:=@List.mem_filter.{u0}
theorem Ak.{u0}:type_of%@List.length_cons.{u0}:=@List.length_cons.{u0}
theorem Al.{u0,u1,u2}:type_of%@List.map_map.{u0,u1,u2}:=@List.map_map.{u0,u1,u2}
theorem Am.{u0}:type_of%@List.not_mem_nil.{u0}:=@List.not_mem_nil.{u0}
theorem An.{u0}:type_of%@List.nodup_nil.{u0}:=@List.nodup_nil.{u0}
theorem Ao:type_of%@PySem.PassesOwn.never:=@PySem.PassesOwn.never
theorem Ap:type_of%@Bool.and_eq_true:=@Bool.and_eq_true
theorem Aq.{u0}:type_of%@List.pairwise_append.{u0}:=@List.pairwise_append.{u0}
theorem Ar:type_of%@PySem.F.plainAttrs_list:=@PySem.F.plainAttrs_list
theorem As:type_of%@decide_eq_false:=@decide_eq_false
theorem At:type_of%@Nat.le_trans:=@Nat.le_trans
theorem Au.{u0}:type_of%@List.mem_cons_self.{u0}:=@List.mem_cons_self.{u0}
theorem Av:type_of%@PySem.wpAny_dictEntries:=@PySem.wpAny_dictEntries
theorem Aw.{u0}:type_of%@List.append_nil.{u0}:=@List.append_nil.{u0}
theorem Ax:type_of%@PySem.wpAny_holding:=@PySem.wpAny_holding
theorem Ay.{u0}:type_of%@List.mem_cons_of_mem.{u0}:=@List.mem_cons_of_mem.{u0}
theorem Az.{u0}:type_of%@List.all_eq_true.{u0}:=@List.all_eq_true.{u0}
theorem AA.{u0}:type_of%@List.filter_cons.{u0}:=@List.filter_cons.{u0}
theorem AB.{u0}:type_of%@List.length_filter_le.{u0}:=@List.length_filter_le.{u0}
theorem AC:type_of%@PyProof.Rows.boot_isinstance:=@PyProof.Rows.boot_isinstance
theorem AD.{u0}:type_of%@Array.toList_append.{u0}:=@Array.toList_append.{u0}
theorem AE:type_of%@Nat.lt_or_ge:=@Nat.lt_or_ge
theorem AF.{u0}:type_of%@List.getElem?_eq_getElem.{u0}:=@List.getElem?_eq_getElem.{u0}
theorem AG:type_of%@Bool.eq_false_iff:=@Bool.eq_false_iff
theorem AH:type_of%@Nat.ne_of_gt:=@Nat.ne_of_gt
theorem AI:type_of%@Int.one_mul:=@Int.one_mul
theorem AJ:type_of%@of_decide_eq_false:=@of_decide_eq_false
theorem AK.{u0}:type_of%@List.getElem?_take.{u0}:=@List.getElem?_take.{u0}
theorem AL:type_of%@PySem.W.mg_none_of:=@PySem.W.mg_none_of
theorem AM.{u0}:type_of%@List.take_append_drop.{u0}:=@List.take_append_drop.{u0}
theorem AN:type_of%@Bool.eq_iff_iff:=@Bool.eq_iff_iff
theorem AO.{u0}:type_of%@List.length_nil.{u0}:=@List.length_nil.{u0}
theorem AQ:type_of%@PySem.F.plainAttrs_dict:=@PySem.F.plainAttrs_dict
theorem AR.{u0}:type_of%@List.getElem?_cons_zero.{u0}:=@List.getElem?_cons_zero.{u0}
theorem AS:type_of%@Int.mul_le_mul_of_nonneg_right:=@Int.mul_le_mul_of_nonneg_right
theorem AT.{u0,u1}:type_of%@Prod.ext.{u0,u1}:=@Prod.ext.{u0,u1}
theorem AU:type_of%@PySem.wpAny_mono:=@PySem.wpAny_mono
theorem AV.{u0,u1}:type_of%@Option.map_eq_some_iff.{u0,u1}:=@Option.map_eq_some_iff.{u0,u1}
theorem AW:type_of%@PyProof.Rows.wpS_forRange:=@PyProof.Rows.wpS_forRange
theorem AX.{u0,u1}:type_of%@congrArg.{u0,u1}:=@congrArg.{u0,u1}
theorem AY.{u0}:type_of%@List.length_singleton.{u0}:=@List.length_singleton.{u0}
theorem AZ:type_of%@PySem.wpAny_newObj_type:=@PySem.wpAny_newObj_type
theorem A0:type_of%@PySem.Around.under_plainId:=@PySem.Around.under_plainId
theorem A1.{u0}:type_of%@List.getElem?_drop.{u0}:=@List.getElem?_drop.{u0}
theorem A2.{u0}:type_of%@List.mem_of_mem_take.{u0}:=@List.mem_of_mem_take.{u0}
theorem A3.{u0}:type_of%@List.pairwise_cons.{u0}:=@List.pairwise_cons.{u0}
theorem A4:type_of%@PySem.wpAny_call_entry:=@PySem.wpAny_call_entry
theorem A5:type_of%@PySem.Heap.get?_update_other:=@PySem.Heap.get?_update_other
theorem A6:type_of%@PyProof.Rows.boot_dict:=@PyProof.Rows.boot_dict
theorem A7:type_of%@Int.le_of_lt:=@Int.le_of_lt
theorem A8.{u0,u1}:type_of%@List.pairwise_map.{u0,u1}:=@List.pairwise_map.{u0,u1}
theorem A9.{u0}:type_of%@List.mem_iff_getElem?.{u0}:=@List.mem_iff_getElem?.{u0}
theorem Ba:type_of%@PySem.wpAny_notOrdered_dict:=@PySem.wpAny_notOrdered_dict
theorem Bb:type_of%@Int.mul_assoc:=@Int.mul_assoc
theorem Bc:type_of%@Nat.lt_trans:=@Nat.lt_trans
theorem Bd:type_of%@Nat.lt_irrefl:=@Nat.lt_irrefl
theorem Be:type_of%@PySem.wpAny_truthy_bool:=@PySem.wpAny_truthy_bool
theorem Bf:type_of%@PyProof.Rows.wpS_mono:=@PyProof.Rows.wpS_mono
theorem Bg.{u0}:type_of%@List.take_of_length_le.{u0}:=@List.take_of_length_le.{u0}
theorem Bh:type_of%@PyProof.Rows.boot_list:=@PyProof.Rows.boot_list
theorem Bi.{u0}:type_of%@Array.size_push.{u0}:=@Array.size_push.{u0}
theorem Bj.{u0}:type_of%@List.sum_append.{u0}:=@List.sum_append.{u0}
theorem Bk:type_of%@PyProof.Rows.slot_tuple_getitem:=@PyProof.Rows.slot_tuple_getitem
theorem Bl.{u0}:type_of%@List.extract_eq_take_drop.{u0}:=@List.extract_eq_take_drop.{u0}
theorem Bm.{u0,u1}:type_of%@List.mem_filterMap.{u0,u1}:=@List.mem_filterMap.{u0,u1}
theorem Bn:type_of%@PySem.tupleKind_room_in1:=@PySem.tupleKind_room_in1
theorem Bo:type_of%@PySem.wpAny_rule:=@PySem.wpAny_rule
theorem Bp:type_of%@PySem.wpAny_typeNameOfWhole_itemiter:=@PySem.wpAny_typeNameOfWhole_itemiter
theorem Bq:type_of%@Nat.le_of_lt:=@Nat.le_of_lt
theorem Br:type_of%@PySem.wpAny_typeOf:=@PySem.wpAny_typeOf
theorem Bs:type_of%@Nat.zero_add:=@Nat.zero_add
theorem Bt:type_of%@PySem.F.slot_list_append:=@PySem.F.slot_list_append
theorem Bu:type_of%@PySem.F.type_list_append:=@PySem.F.type_list_append
theorem Bv:type_of%@Int.le_trans:=@Int.le_trans
theorem Bw:type_of%@PySem.wpAny_typeNameOfWhole_keyiter:=@PySem.wpAny_typeNameOfWhole_keyiter
theorem Bx:type_of%@PySem.wpAny_typeNameOfWhole_valiter:=@PySem.wpAny_typeNameOfWhole_valiter
theorem By:type_of%@Int.add_mul:=@Int.add_mul
theorem Bz:type_of%@PySem.F.slot_dict_items:=@PySem.F.slot_dict_items
theorem BA.{u0,u1}:type_of%@List.foldl_cons.{u0,u1}:=@List.foldl_cons.{u0,u1}
theorem BB:type_of%@PySem.codeAny_builtin:=@PySem.codeAny_builtin
theorem BC.{u0}:type_of%@beq_eq_false_iff_ne.{u0}:=@beq_eq_false_iff_ne.{u0}
theorem BD.{u0,u1}:type_of%@List.map_congr_left.{u0,u1}:=@List.map_congr_left.{u0,u1}
theorem BE.{u0}:type_of%@List.drop_of_length_le.{u0}:=@List.drop_of_length_le.{u0}
theorem BF:type_of%@Int.zero_add:=@Int.zero_add
theorem BG:type_of%@Int.mul_one:=@Int.mul_one
theorem BH:type_of%@PySem.wpAny_field:=@PySem.wpAny_field
theorem BI:type_of%@Nat.zero_le:=@Nat.zero_le
theorem BJ.{u0}:type_of%@List.length_drop.{u0}:=@List.length_drop.{u0}
theorem BK:type_of%@decide_eq_true_iff:=@decide_eq_true_iff
theorem BL.{u0}:type_of%@Array.getElem?_eq_some_iff.{u0}:=@Array.getElem?_eq_some_iff.{u0}
theorem BM.{u0}:type_of%@Array.size_extract.{u0}:=@Array.size_extract.{u0}
theorem BN.{u0}:type_of%@Array.perm_iff_toList_perm.{u0}:=@Array.perm_iff_toList_perm.{u0}
theorem BO:type_of%@Int.le_of_mul_le_mul_right:=@Int.le_of_mul_le_mul_right
theorem BP.{u0}:type_of%@List.pairwise_iff_getElem.{u0}:=@List.pairwise_iff_getElem.{u0}
theorem BQ:type_of%@PySem.F.plain_extend_loop:=@PySem.F.plain_extend_loop
theorem BR:type_of%@PySem.wpAny_passesOwn:=@PySem.wpAny_passesOwn
theorem BS:type_of%@PySem.Paired.snoc:=@PySem.Paired.snoc
theorem BU:type_of%@Bool.not_eq_true':=@Bool.not_eq_true'
theorem BV.{u0}:type_of%@Array.toList_extract.{u0}:=@Array.toList_extract.{u0}
theorem BW:type_of%@Nat.add_assoc:=@Nat.add_assoc
theorem BX.{u0}:type_of%@List.replicate_succ.{u0}:=@List.replicate_succ.{u0}
theorem BY:type_of%@Bool.false_and:=@Bool.false_and
theorem BZ.{u0}:type_of%@List.eraseIdx_cons_succ.{u0}:=@List.eraseIdx_cons_succ.{u0}
theorem B0.{u0,u1}:type_of%@List.lookup_cons.{u0,u1}:=@List.lookup_cons.{u0,u1}
theorem B3:type_of%@PySem.F.plain_list_iadd:=@PySem.F.plain_list_iadd
theorem B4:type_of%@PySem.F.type_dict_items:=@PySem.F.type_dict_items
theorem B5:type_of%@PySem.wpAny_Call_Name_kw:=@PySem.wpAny_Call_Name_kw
theorem B6:type_of%@Int.emod_lt_of_pos:=@Int.emod_lt_of_pos
theorem B7.{u0}:type_of%@List.filter_append.{u0}:=@List.filter_append.{u0}
theorem B8:type_of%@PyProof.Rows.wpS_modify:=@PyProof.Rows.wpS_modify
theorem B9:type_of%@Int.mul_zero:=@Int.mul_zero
theorem Ca:type_of%@Int.emod_nonneg:=@Int.emod_nonneg
theorem Cb:type_of%@PySem.W.kia_one:=@PySem.W.kia_one
theorem Cc:type_of%@PySem.plainId_quiet:=@PySem.plainId_quiet
theorem Cd:type_of%@PySem.F.slot_list_pop:=@PySem.F.slot_list_pop
theorem Ce:type_of%@PySem.F.type_list_pop:=@PySem.F.type_list_pop
theorem Cf.{u0,u1}:type_of%@List.filterMap_append.{u0,u1}:=@List.filterMap_append.{u0,u1}
theorem Cg.{u0}:type_of%@List.take_sublist.{u0}:=@List.take_sublist.{u0}
theorem Ci.{u0}:type_of%@Array.toList_push.{u0}:=@Array.toList_push.{u0}
theorem Cj.{u0}:type_of%@Array.mem_toList_iff.{u0}:=@Array.mem_toList_iff.{u0}
theorem Ck.{u0}:type_of%@List.drop_drop.{u0}:=@List.drop_drop.{u0}
theorem Cm.{u0}:type_of%@Array.toList_reverse.{u0}:=@Array.toList_reverse.{u0}
theorem Cn:type_of%@PySem.wpAny_fieldsOf:=@PySem.wpAny_fieldsOf
theorem Co.{u0}:type_of%@List.getElem?_of_mem.{u0}:=@List.getElem?_of_mem.{u0}
theorem Cp:type_of%@PySem.boot_len:=@PySem.boot_len
theorem Cq:type_of%@PySem.wpAny_dictEpoch:=@PySem.wpAny_dictEpoch
theorem Cr:type_of%@PySem.codeAny_mono:=@PySem.codeAny_mono
theorem Cs.{u0,u1}:type_of%@List.map_nil.{u0,u1}:=@List.map_nil.{u0,u1}
theorem Ct:type_of%@Int.mul_nonneg:=@Int.mul_nonneg
theorem Cu:type_of%@Int.add_zero:=@Int.add_zero
theorem Cv:type_of%@PySem.wpAny_load:=@PySem.wpAny_load
theorem Cw:type_of%@PySem.call_meets:=@PySem.call_meets
theorem Cy:type_of%@PyProof.Rows.wpS_get:=@PyProof.Rows.wpS_get
end
namespace L2
open PySem PySem.Spec PyProof.Rows
abbrev Key:=Sum Int Str
def fG:Key→Value→Bool
 |.inl k,v=>Value.isInt k v
 |.inr x,v=>Value.isStrOf x v
def keyH(w:World):Key→Int
 |.inl k=>hashInt k
 |.inr x=>hashStr w x
theorem Yr:∀{k:Key}{v:Value},fG k v=true→(∃i t,k=Sum.inl i∧v=Value.int i t)∨(∃x t,k=Sum.inr x∧v=Value.str x t)
 |.inl i,v,h=>by
  obtain⟨t,e⟩:=Value.isInt_shape (k:=i) (v:=v) h;exact .inl ⟨i,t,rfl,e⟩
 |.inr x,v,h=>by
  obtain⟨t,e⟩:=Value.isStrOf_shape (x:=x) (v:=v) h;exact .inr ⟨x,t,rfl,e⟩
theorem n9(i:Int)(t:Tok):fG (.inl i) (.int i t)=true:=by simp[fG,Value.isInt]
theorem oC(x:Str)(t:Tok):fG (.inr x) (.str x t)=true:=by simp[fG,Value.isStrOf]
theorem wq(a b:Int):decide ((Sum.inl a:Key)=Sum.inl b)=(a==b):=by
 by_cases e:a=b
 ·subst e;simp
 ·have h:¬(Sum.inl a:Key)=Sum.inl b:=fun q=>e (Sum.inl.inj q);rw[As h];exact(BC.mpr e).symm
theorem wI(a b:Str):decide ((Sum.inr a:Key)=Sum.inr b)=decide (a=b):=by
 by_cases e:a=b
 ·subst e;simp
 ·have h:¬(Sum.inr a:Key)=Sum.inr b:=fun q=>e (Sum.inr.inj q);rw[As h,As e]
theorem wm(a:Int)(b:Str):decide ((Sum.inl a:Key)=Sum.inr b)=false:=As (fun q=>nomatch q)
theorem xt(a:Str)(b:Int):decide ((Sum.inr a:Key)=Sum.inl b)=false:=As (fun q=>nomatch q)
def ak(prog:Program)(w:World):PySem.KeyKind prog w Key where
 is:=fG
 hash:=keyH w
 inj:=fun v a b ha hb=>by
  rcases Yr ha with⟨i,t,rfl,rfl⟩|⟨x,t,rfl,rfl⟩
  ·rcases Yr hb with⟨j,u,rfl,e⟩|⟨y,u,rfl,e⟩
   ·injection e with e1 _;rw[e1]
   ·exact nomatch e
  ·rcases Yr hb with⟨j,u,rfl,e⟩|⟨y,u,rfl,e⟩
   ·exact nomatch e
   ·injection e with e1 _;rw[e1]
 byValue:=fun k v h=>by
  rcases Yr h with⟨i,t,rfl,rfl⟩|⟨x,t,rfl,rfl⟩ <;> rfl
 pyHash:=fun hv h=>by
  rcases Yr hv with⟨i,t,rfl,rfl⟩|⟨x,t,rfl,rfl⟩
  ·exact wpAny_pyHash_int h
  ·exact wpAny_pyHash_str h
 eqBool:=fun hu hv h=>by
  rcases Yr hu with⟨i,t,rfl,rfl⟩|⟨x,t,rfl,rfl⟩
  ·rcases Yr hv with⟨j,u,rfl,rfl⟩|⟨y,u,rfl,rfl⟩
   ·rw[wq]at h;exact wpAny_eqBool_int h
   ·rw[wm]at h;exact SeqAt.EqAt.int_str i t y u _ _ _ _ h
  ·rcases Yr hv with⟨j,u,rfl,rfl⟩|⟨y,u,rfl,rfl⟩
   ·rw[xt]at h;exact SeqAt.EqAt.str_int x t j u _ _ _ _ h
   ·rw[wI]at h;exact wpAny_eqBool_str h
 «strs»:=fun k x t v h=>by
  rcases Yr h with⟨i,u,rfl,e⟩|⟨y,u,rfl,e⟩
  ·exact nomatch e
  ·injection e with e1 _
   subst e1;cases v <;> rfl
theorem Ur(prog:Program)(w:World)(i:Int)(t:Tok):(ak prog w).is (.inl i) (.int i t)=true:=n9 i t
theorem jg(prog:Program)(w:World)(x:Str)(t:Tok):(ak prog w).is (.inr x) (.str x t)=true:=oC x t
inductive V where
 |non | bl (b:Bool) | int (i:Int) | str (x:Str) | byt (b:Array UInt8) | flt (b:UInt64) | ref (a:Addr) | ty (n:String)
 deriving DecidableEq
def RelV:V→Value→Prop
 |.non,u=>u=Value.none
 |.bl b,u=>u=Value.bool b
 |.int i,u=>∃t,u=Value.int i t
 |.str x,u=>∃t,u=Value.str x t
 |.byt b,u=>∃t,u=Value.bytes b t
 |.flt b,u=>∃t,u=Value.float b t
 |.ref a,u=>u=Value.ref a
 |.ty n,u=>u=Value.type n
abbrev Vals:List V→List Value→Prop:=Paired RelV
theorem Vals.length{xs:List V}{us:List Value}(r:Vals xs us):xs.length=us.length:=zV r
theorem Vals.get:∀{xs:List V}{us:List Value}{i:Nat}{x:V},Vals xs us→xs[i]?=some x→∃u,us[i]?=some u∧RelV x u
 |_,_,_,_,.nil,e=>by simp at e
 |_,_,0,_,.cons r _,e=>by simp at e;subst e;exact⟨_,rfl,r⟩
 |_,_,i+1,x,.cons _ t,e=>by
  obtain⟨u,h1,h2⟩:=Vals.get (i:=i) (x:=x) t (by simpa using e);exact⟨u,by simpa using h1,h2⟩
theorem Vals.set{x:V}{u:Value}(r:RelV x u):∀{xs:List V}{us:List Value}(i:Nat),Vals xs us→Vals (xs.set i x) (us.set i u)
 |_,_,_,.nil=>.nil
 |_,_,0,.cons _ t=>.cons r t
 |_,_,i+1,.cons q t=>.cons q (Vals.set r i t)
theorem Vals.append{xs ys:List V}{us ws:List Value}(h:Vals xs us)(s:Vals ys ws):Vals (xs++ys) (us++ws):=by
 induction h with
 |nil=>exact s
 |cons r t ih=>exact .cons r ih
theorem Vals.take:∀{xs:List V}{us:List Value}(n:Nat),Vals xs us→Vals (xs.take n) (us.take n)
 |_,_,0,_=>.nil
 |_,_,_+1,.nil=>.nil
 |_,_,n+1,.cons r t=>.cons r (Vals.take n t)
theorem Vals.drop:∀{xs:List V}{us:List Value}(n:Nat),Vals xs us→Vals (xs.drop n) (us.drop n)
 |_,_,0,r=>r
 |_,_,_+1,.nil=>.nil
 |_,_,n+1,.cons _ t=>Vals.drop n t
def RelO:Option V→Option Value→Prop
 |some v,some u=>RelV v u
 |none,none=>True
 |_,_=>False
def KV{κ:Type}:List (κ×V)→List (κ×Value)→Prop:=Paired fun(p:κ×V)(q:κ×Value)=>p.1=q.1∧RelV p.2 q.2
def kV:Key→V
 |.inl i=>.int i
 |.inr x=>.str x
inductive HO where
 |lst (xs:List V)
 |tup (xs:List V)
 |dK (kvs:List (Key×V)) | dT (kvs:List (List Key×V))
 |set (S:Int→Bool) (n:Nat)
 |ins (C dx:Addr) (fs:List (Str×V))
 |own (x:Addr)
 |xd (fs:List (Str×V))
 |met (f x:Addr)
 |rng (lo hi:Int)
 |frz (o:Obj) (u:HO)
 |tbl (ps:Array Value)
 |ext (φ:Heap→Prop)
abbrev Hp:=Addr→Option HO
def upd(H:Hp)(a:Addr)(o:HO):Hp:=fun b=>if b=a then some o else H b
theorem Z2{H:Hp}{a:Addr}{o:HO}:upd H a o a=some o:=by unfold upd;rw[zE rfl]
theorem Za{H:Hp}{a b:Addr}{o:HO}(h:b≠a):upd H a o b=H b:=by unfold upd;rw[pi h]
theorem kZ{H:Hp}{a:Addr}{o u:HO}:upd (upd H a o) a u=upd H a u:=by
 funext b;unfold upd;split <;> rfl
theorem Uh{H:Hp}{a b:Addr}{o u:HO}(h:H a=some o)(h':H b=some u)(d:o≠u):a≠b:=by
 intro e;subst e;rw[h]at h';exact d (Aa h')
theorem Zd{H:Hp}{a b:Addr}{o:HO}(h:H a=some o)(h':H b=none):a≠b:=by
 intro e;subst e;rw[h]at h';cases h'
def TupN(h:Heap)(a:Addr)(items:Array Value):Prop:=∃o,h.get? a=some o∧(o.cls=.type "tuple"∧o.dict=none)∧∃n,o.data=.seq items n
theorem TupN.tup{h:Heap}{a:Addr}{items:Array Value}(x:TupN h a items):IsTup h a items:=let ⟨o,e,c,n,d⟩:=x;⟨o,e,c.1,n,d⟩
theorem TupN.new(h:Heap)(items:Array Value):TupN (h.push {cls:=.type "tuple",data:=.seq items}) h.objs.size items:=⟨_,zY _ rfl,⟨rfl,rfl⟩,_,rfl⟩
section
variable(P:Program)(w:World)
def ObjOk(H:Hp)(h:Heap)(a:Addr):HO→Prop
 |.lst xs=>xs.length≤sizeLine∧∃(its:List Value)(n:Nat),Vals xs its∧h.get? a=some {cls:=.type "list",data:=.seq its.toArray n}
 |.tup xs=>xs.length≤sizeLine∧∃its:List Value,Vals xs its∧TupN h a its.toArray
 |.dK kvs=>kvs.length≤sizeLine∧(a==sysModules)=false∧∃vs,KV kvs vs∧h.DictOf (ak P w) a vs
 |.dT kvs=>kvs.length≤sizeLine∧(a==sysModules)=false∧∃xs:List (List Key×Addr×Value),
   Paired (fun(p:List Key×V)(q:List Key×Addr×Value)=>p.1=q.1∧H q.2.1=some (.tup (p.1.map kV))∧RelV p.2 q.2.2) kvs xs∧
   ∃o es ep,h.get? a=some o∧o.ExactDict∧o.data=.dict es ep∧es.toList=xs.map (entryOfKey (tupleKind (ak P w)))∧(xs.map (·.1)).Nodup
 |.set S n=>h.SetOf (intKind P w) a S n
 |.ins C dx fs=>H dx=some (.own a)∧fs.length≤1000∧dx≠a∧h.get? a=some (W.instObj C dx)∧
   ∃mA,h.Ns1 dx mA∧(∀f,RelO (fs.lookup f) (mA f))∧PySem.Within mA (fs.map (·.1))
 |.own _=>∃o,h.get? a=some o
 |.xd fs=>∃mA,h.Ns1 a mA∧∀f,RelO (fs.lookup f) (mA f)
 |.rng lo hi=>∃t u v,h.get? a=some {cls:=.type "range",data:=.fields #[.int lo t,.int hi u,.int 1 v]}
 |.frz o u=>h.get? a=some o∧ObjOk H h a u
 |.tbl ps=>h.get? a=some {cls:=.none,data:=.fields ps}
 |.met f x=>h.get? a=some (W.methodObj (.ref f) (.ref x))
 |.ext φ=>φ h∧(∃o,h.get? a=some o)∧∀h1 h2:Heap,φ h1→(∀o,h1.get? a=some o→h2.get? a=some o)→φ h2
def HOk(H:Hp)(h:Heap):Prop:=∀a o,H a=some o→ObjOk P w H h a o
end
section
variable{P:Program}{w:World}{H H':Hp}{h h':Heap}{a:Addr}{o:HO}
theorem ObjOk.lt(x:ObjOk P w H h a o):a<h.objs.size:=by
 cases o with
 |lst xs=>obtain⟨_,_,_,_,e⟩:=x;exact zN e
 |tup xs=>obtain⟨_,_,_,p⟩:=x;exact p.tup.lt
 |dK kvs=>obtain⟨_,_,_,_,o,_,_,e,_⟩:=x;exact zN e
 |dT kvs=>obtain⟨_,_,_,_,o,_,_,e,_⟩:=x;exact zN e
 |set S n=>obtain⟨o,_,_,_,e,_⟩:=x;exact zN e
 |ins C dx fs=>obtain⟨_,_,_,e,_⟩:=x;exact zN e
 |own y=>obtain⟨_,e⟩:=x;exact zN e
 |xd fs=>obtain⟨_,⟨_,_,_,e,_⟩,_⟩:=x;exact zN e
 |rng lo hi=>obtain⟨_,_,_,e⟩:=x;exact zN e
 |frz ob u=>obtain⟨e,_⟩:=x;exact zN e
 |tbl ps=>exact zN (show h.get? a=some _ from x)
 |met f y=>exact zN (show h.get? a=some _ from x)
 |ext φ=>obtain⟨_,⟨_,e⟩,_⟩:=x;exact zN e
theorem Paired.mapP{α β:Type}{F G:α→β→Prop}{l₁:List α}{l₂:List β}(h:Paired F l₁ l₂)(f:∀a b,F a b→G a b):Paired G l₁ l₂:=by
 induction h with
 |nil=>exact .nil
 |cons r t ih=>exact .cons (f _ _ r) ih
theorem ObjOk.stay(x:ObjOk P w H h a o)(k:∀b u,(b=a∨H b=some (.own a))→h.get? b=some u→h'.get? b=some u)(ho:∀b,H b=some (.own a)→H' b=some (.own a))(ht:∀b xs,H b=some (.tup xs)→H' b=some (.tup xs)):ObjOk P w H' h' a o:=by
 induction o with
 |lst xs=>obtain⟨z,its,n,r,e⟩:=x;exact⟨z,its,n,r,k _ _ (.inl rfl) e⟩
 |tup xs=>obtain⟨z,its,r,ob,e,c⟩:=x;exact⟨z,its,r,ob,k _ _ (.inl rfl) e,c⟩
 |dK kvs=>obtain⟨z,y,vs,r,ob,es,ep,e,c⟩:=x;exact⟨z,y,vs,r,ob,es,ep,k _ _ (.inl rfl) e,c⟩
 |dT kvs=>
  obtain⟨z,y,xs,r,ob,es,ep,e,c⟩:=x;exact⟨z,y,xs,Paired.mapP r fun p q z=>⟨z.1,ht _ _ z.2.1,z.2.2⟩,ob,es,ep,k _ _ (.inl rfl) e,c⟩
 |set S n=>obtain⟨ob,es,ep,t,e,c⟩:=x;exact⟨ob,es,ep,t,k _ _ (.inl rfl) e,c⟩
 |ins C dx fs=>
  obtain⟨d,z,ne,e,mA,⟨od,es,ep,e2,c⟩,r⟩:=x;exact⟨ho _ d,z,ne,k _ _ (.inl rfl) e,mA,⟨od,es,ep,k _ _ (.inr d) e2,c⟩,r⟩
 |own y=>obtain⟨ob,e⟩:=x;exact⟨ob,k _ _ (.inl rfl) e⟩
 |xd fs=>obtain⟨mA,⟨od,es,ep,e,c⟩,r⟩:=x;exact⟨mA,⟨od,es,ep,k _ _ (.inl rfl) e,c⟩,r⟩
 |rng lo hi=>obtain⟨t,u,v,e⟩:=x;exact⟨t,u,v,k _ _ (.inl rfl) e⟩
 |frz ob u ih=>obtain⟨e,q⟩:=x;exact⟨k _ _ (.inl rfl) e,ih q⟩
 |tbl ps=>
  have e:h.get? a=some {cls:=.none,data:=.fields ps}:=x;show h'.get? a=some {cls:=.none,data:=.fields ps};exact k a _ (.inl rfl) e
 |met f y=>
  have e:h.get? a=some (W.methodObj (.ref f) (.ref y)):=x;show h'.get? a=some (W.methodObj (.ref f) (.ref y));exact k a _ (.inl rfl) e
 |ext φ=>obtain⟨p,⟨o,e⟩,st⟩:=x;exact⟨st _ _ p fun o q=>k _ _ (.inl rfl) q,⟨o,k _ _ (.inl rfl) e⟩,st⟩
theorem HOk.lt(x:HOk P w H h)(e:H a=some o):a<h.objs.size:=(x a o e).lt
theorem HOk.fresh(x:HOk P w H h)(e:h.objs.size≤a):H a=none:=by
 cases q:H a with
 |none=>rfl
 |some u=>exact absurd (z6 (x.lt q) e) (Bd _)
theorem HOk.kept(x:HOk P w H h)(k:∀b u,h.get? b=some u→h'.get? b=some u):HOk P w H h':=fun a o e=>
 (x a o e).stay (fun b u _ q=>k b u q) (fun _ q=>q) fun _ _ q=>q
theorem HOk.laid(x:HOk P w H h)(k:∀b u,h.get? b=some u→h'.get? b=some u)(hp:h.objs.size≤a)(new:ObjOk P w (upd H a o) h' a o):HOk P w (upd H a o) h':=fun b u e=>by
 have hn:=x.fresh hp;by_cases hb:b=a
 ·subst hb;rw[Z2]at e;cases e;exact new
 ·rw[Za hb]at e;exact(x b u e).stay (fun c v _ q=>k c v q) (fun c q=>by rw[Za (Zd q hn)];exact q) fun c xs q=>by rw[Za (Zd q hn)];exact q
end
def Rd(H:Hp)(a:Addr)(u:HO):Prop:=H a=some u∨∃o,H a=some (.frz o u)
theorem Rd.ok{P:Program}{w:World}{H:Hp}{h:Heap}{a:Addr}{u:HO}(r:Rd H a u)(x:HOk P w H h):ObjOk P w H h a u:=by
 rcases r with r | ⟨o,r⟩
 ·exact x a u r
 ·obtain⟨_,q⟩:=x a _ r;exact q
def Mut:Option HO→Prop
 |some (.lst _)=>True
 |some (.dK _)=>True
 |some (.dT _)=>True
 |some (.set _ _)=>True
 |some (.ins _ _ _)=>True
 |some (.ext _)=>True
 |_=>False
section
variable{P:Program}{w:World}{H:Hp}{h h':Heap}{x e:Addr}{o':HO}
theorem HOk.write(ok:HOk P w H h)(mu:Mut (H x))(he:e=x∨H e=some (.own x))(k:∀b u,b≠e→h.get? b=some u→h'.get? b=some u)(heo:∃u,h'.get? e=some u)(new:ObjOk P w (upd H x o') h' x o'):HOk P w (upd H x o') h':=fun b u q=>by
 have nown:∀c y,H c=some (.own y)→c≠x:=fun c y r z=>by subst z;rw[r]at mu;exact mu
 have ntup:∀c xs,H c=some (.tup xs)→c≠x:=fun c xs r z=>by subst z;rw[r]at mu;exact mu
 by_cases hb:b=x
 ·subst hb;rw[Z2]at q;cases q;exact new
 ·rw[Za hb]at q;by_cases hbe:b=e
  ·have q':H b=some (.own x):=by
    rcases he with z | z
    ·exact absurd (hbe.trans z) hb
    ·rw[hbe];exact z
   rw[q]at q';cases q';obtain⟨v,hv⟩:=heo;exact⟨v,by rw[hbe];exact hv⟩
  ·refine(ok b u q).stay (fun c v hc r=>k c v ?_ r) (fun c r=>by rw[Za (nown c b r)];exact r) fun c xs r=>by rw[Za (ntup c xs r)];exact r
   rcases hc with rfl | hc
   ·exact hbe
   ·rintro rfl
    rcases he with z | z
    ·exact nown c b hc z
    ·rw[hc]at z;cases z;exact hb rfl
end
structure Un(fs ex:List Addr)(H H':Hp)(h h':Heap):Prop where
 keep:∀b o,h.get? b=some o→H b=none→b∉fs→b∉ex→h'.get? b=some o
 slot:∀b o,h.get? b=some o→H b=none→b∈fs→b∉ex→∃sl,h'.get? b=some {o with slots:=sl}
 free:∀b o,h.get? b=some o→H b=none→b∉ex→H' b=none
 there:∀b o,h.get? b=some o→b∉ex→∃o',h'.get? b=some o'
 tups:∀b xs,H b=some (.tup xs)→H' b=some (.tup xs)
 frzs:∀b o u,H b=some (.frz o u)→H' b=some (.frz o u)
 tbls:∀b ps,H b=some (.tbl ps)→∃more,H' b=some (.tbl (ps++more))
section
variable{fs fs' ex ex':List Addr}{H H1 H2:Hp}{h h1 h2 h':Heap}{a x e:Addr}{o:HO}
theorem Un.any(u:Un fs ex H H1 h h1){b:Addr}{ob:Obj}(q:h.get? b=some ob)(n:H b=none)(hx:b∉ex):∃sl,h1.get? b=some {ob with slots:=sl}:=by
 by_cases hb:b∈fs
 ·exact u.slot b ob q n hb hx
 ·exact⟨ob.slots,u.keep b ob q n hb hx⟩
theorem Un.kept(k:∀b u,h.get? b=some u→h'.get? b=some u):Un fs ex H H h h':=
 ⟨fun b ob q _ _ _=>k b ob q,fun b ob q _ _ _=>⟨ob.slots,k b ob q⟩,fun _ _ _ n _=>n,fun b ob q _=>⟨ob,k b ob q⟩,fun _ _ q=>q,fun _ _ _ q=>q,fun _ ps q=>⟨#[],by rw[q];simp⟩⟩
theorem Un.refl:Un fs ex H H h h:=Un.kept fun _ _ q=>q
theorem Un.laid(k:∀b u,h.get? b=some u→h'.get? b=some u)(hp:h.objs.size≤a)(hn:H a=none):Un fs ex H (upd H a o) h h' where
 keep:=fun b u q _ _ _=>k b u q
 slot:=fun b u q _ _ _=>⟨u.slots,k b u q⟩
 free:=fun b u q n _=>by rw[Za (zX (z6 (zN q) hp))];exact n
 there:=fun b u q _=>⟨u,k b u q⟩
 tups:=fun b xs q=>by rw[Za (Zd q hn)];exact q
 frzs:=fun b u xs q=>by rw[Za (Zd q hn)];exact q
 tbls:=fun b ps q=>⟨#[],by rw[Za (Zd q hn),q];simp⟩
theorem Un.write(mu:Mut (H x))(he:e=x∨H e=some (.own x))(k:∀b u,b≠e→h.get? b=some u→h'.get? b=some u)(heo:∃u,h'.get? e=some u):Un fs ex H (upd H x o) h h':=by
 have hx:∀b,H b=none→b≠x:=fun b n z=>by subst z;rw[n]at mu;exact mu
 have hb:∀b,H b=none→b≠e:=fun b n z=>by
  subst z
  rcases he with r | r
  ·exact hx b n r
  ·rw[n]at r;cases r
 have hm:∀b u,H b=some u→¬Mut (some u)→b≠x:=fun b u q nm z=>by subst z;rw[q]at mu;exact nm mu
 refine⟨fun b u q n _ _=>k b u (hb b n) q,fun b u q n _ _=>⟨u.slots,k b u (hb b n) q⟩,fun b u q n _=>by rw[Za (hx b n)];exact n,fun b u q _=>?_,
  fun b xs q=>by rw[Za (hm b _ q fun z=>z)];exact q,fun b u xs q=>by rw[Za (hm b _ q fun z=>z)];exact q,fun b ps q=>⟨#[],by rw[Za (hm b _ q fun z=>z),q];simp⟩⟩
 by_cases hbe:b=e
 ·subst hbe;exact heo
 ·exact⟨u,k b u hbe q⟩
end
def trk(h:Heap)(H:Hp):List Addr:=(List.range h.objs.size).filter fun a=>(H a).isSome
def e8(h:Heap)(H:Hp):Heap:=W.hideAll h (trk h H)
theorem n5(h:Heap)(H:Hp):(e8 h H).objs.size=h.objs.size:=W.hideAll_size _ _
theorem pS{h:Heap}{H:Hp}{b:Addr}{o:Obj}(e:h.get? b=some o)(n:H b=none):(e8 h H).get? b=some o:=
 W.hideAll_get _ e fun hm=>by
  have q:(H b).isSome=true:=(Aj.mp hm).2;rw[n]at q;simp at q
theorem uJ{h:Heap}{H:Hp}{b:Addr}{o:Obj}(e:(e8 h H).get? b=some o):h.get? b=some o∧H b=none:=by
 have e':h.get? b=some o:=W.of_hideAll (trk h H) e;refine⟨e',?_⟩;cases q:H b with
 |none=>rfl
 |some x=>
  have hm:b∈trk h H:=List.mem_filter.mpr ⟨List.mem_range.mpr (Heap.lt_size e'),by simp[q]⟩;have z:(e8 h H).get? b=none:=W.hideAll_none (trk h H) hm;rw[z]at e;cases e
structure Mod(K:W.Frag)(mg:Str→Option Value)(base:Heap):Prop where
 kin:K.In base
 glob:base.Ns mainGlobals mg
 blt:∃mb,base.Ns builtinsNs mb∧∀x:Str,x≠"__name__"→mb x=bootBuiltins x
 nolimit:base.NoLimit
structure Cx where
 prog:Program
 w:World
 K:W.Frag
 mg:Str→Option Value
 base:Heap
 A:Around
 N:List Str
 s₀:Shared
 H₀:Hp
 env:Env
 outer:List Env
 stack:List Env
 ex:List Addr
 fn:Str→Bool
 calm:Bool
 pn:List (Addr×Obj)
 xe:Value→Shared→Prop
def frs(l:List Env):List Addr:=l.filterMap (·.frame)
abbrev Cx.fs(X:Cx):List Addr:=frs X.outer
def Vis(sc:Scope)(x:Str):Prop:=sc.names.lookup x=some .local∨sc.names.lookup x=some .cell∨sc.names.lookup x=some .free
def Loc(sc:Scope)(x:Str):Prop:=sc.names.lookup x=some .local∨sc.names.lookup x=some .cell
def Look(env:Env)(h:Heap)(m:Str→Option Value)(x:Str)(u:Value):Prop:=
 (env.kindOf x=some .local∧m x=some u)∨((env.kindOf x=some .cell∨env.kindOf x=some .free)∧∃c,env.cells.lookup x=some c∧h.IsCell c (some u))
structure Cx.Ok(X:Cx):Prop where
 mod:Mod X.K X.mg X.base
 kind:X.env.scope.kind=.function
 glob:X.env.globals=mainGlobals
 blt:X.env.builtins=builtinsNs
 above:X.s₀.heap.objs.size≤X.env.locals
 inj:∀x y c,X.env.cells.lookup x=some c→X.env.cells.lookup y=some c→x=y
 has:∀x,(X.env.kindOf x=some .cell∨X.env.kindOf x=some .free)→∃c,X.env.cells.lookup x=some c
 cab:∀x c,X.fn x=true→X.env.cells.lookup x=some c→X.s₀.heap.objs.size≤c
 hd:X.calm=true→X.A.handled=none
 frames:X.A.frames=some X.stack
 stk:X.stack=X.outer∨(X.stack=X.env::X.outer∧X.env.frame=some X.env.locals)
 exf:∀b∈X.ex,b≠X.env.locals∧∀x c,X.env.cells.lookup x=some c→c≠b
 bs:∀b o,X.base.get? b=some o→X.s₀.heap.get? b=some o∧X.H₀ b=none
 bsz:X.base.objs.size≤X.s₀.heap.objs.size
 noex:∀b o,X.base.get? b=some o→b∉X.ex
 exfs:∀b∈X.ex,b∉X.fs
 funs:X.s₀.heap.FunFrames X.base X.outer
 frf:∀b∈X.fs,X.H₀ b=none
structure Inv(X:Cx)(CA:List (Addr×Obj))(σ:List (Option V))(H:Hp)(s:Shared):Prop where
 ok:X.Ok
 os:s.os=X.s₀.os
 bare:AllBare s.gens
 base:Un X.fs X.ex X.H₀ H X.s₀.heap s.heap
 loc:∃m,s.heap.Ns X.env.locals m∧∀(i:Nat)(x:Str)(v:V),X.N[i]?=some x→σ[i]?=some (some v)→Vis X.env.scope x→∃u,RelV v u∧Look X.env s.heap m x u
 cell:∀x c,X.env.cells.lookup x=some c→∃v,s.heap.IsCell c v
 free:H X.env.locals=none
 freeC:∀x c,X.env.cells.lookup x=some c→H c=none
 pin:∀p∈X.pn++CA,s.heap.get? p.1=some p.2∧H p.1=none∧p.1≠X.env.locals∧p.1∉X.fs∧∀v,p.2.data≠.cell v
 hok:HOk X.prog X.w H s.heap
 len:σ.length=X.N.length
section
variable{X:Cx}{CA:List (Addr×Obj)}{σ:List (Option V)}{H H':Hp}{s:Shared}{h':Heap}
theorem Cx.Ok.nofr(ok:X.Ok){b:Addr}{o:Obj}(e:X.base.get? b=some o):b∉X.fs:=fun hb=>by
 have:=(ok.funs.mem hb).1;rw[e]at this;cases this
theorem Inv.bs(I:Inv X CA σ H s):∀b o,X.base.get? b=some o→s.heap.get? b=some o∧H b=none:=fun b o e=>
 ⟨I.base.keep b o (I.ok.bs b o e).1 (I.ok.bs b o e).2 (I.ok.nofr e) (I.ok.noex b o e),I.base.free b o (I.ok.bs b o e).1 (I.ok.bs b o e).2 (I.ok.noex b o e)⟩
theorem Inv.bk(I:Inv X CA σ H s):∀b o,X.base.get? b=some o→s.heap.get? b=some o:=fun b o e=>(I.bs b o e).1
theorem Inv.mod(I:Inv X CA σ H s):Mod X.K X.mg X.base:=I.ok.mod
theorem Inv.kIn(I:Inv X CA σ H s):X.K.In s.heap:=I.ok.mod.kin.keeps I.bk
theorem Inv.lt(I:Inv X CA σ H s):X.env.locals<s.heap.objs.size:=let ⟨_,hn,_⟩:=I.loc;hn.lt
theorem Inv.sz(I:Inv X CA σ H s):X.s₀.heap.objs.size≤s.heap.objs.size:=At I.ok.above (Bq I.lt)
theorem Inv.nofs(I:Inv X CA σ H s){a:Addr}(h:s.heap.objs.size≤a):a∉X.fs:=fun hb=>by
 obtain⟨_,o,ho,_⟩:=I.ok.funs.mem hb;exact absurd (z6 (zN ho) (At I.sz h)) (Bd _)
theorem Inv.cne(I:Inv X CA σ H s):∀x c,X.env.cells.lookup x=some c→c≠X.env.locals:=fun x c e z=>by
 obtain⟨v,o,ho,hd⟩:=I.cell x c e;obtain⟨m,⟨o',es,ep,ho',hd',_⟩,_⟩:=I.loc;rw[z,ho']at ho;cases ho;rw[hd']at hd;cases hd
theorem Inv.funs(I:Inv X CA σ H s):s.heap.FunFrames X.base X.outer:=by
 have all:∀(l:List Env),(∀b∈frs l,b∈X.fs)→X.s₀.heap.FunFrames X.base l→s.heap.FunFrames X.base l:=by
  intro l
  induction l with
  |nil=>intro _ _;trivial
  |cons env r ih=>
   intro hs hl;obtain⟨hk,⟨L,o,hf,hn,ho,hd⟩,hr⟩:=hl;have hL:L∈X.fs:=hs L (by unfold frs;rw[List.filterMap_cons,hf];exact Au);obtain⟨sl,e⟩:=I.base.slot L o ho (I.ok.frf L hL) hL fun z=>I.ok.exfs L z hL;exact⟨hk,⟨L,_,hf,hn,e,hd⟩,ih (fun b hb=>hs b (by unfold frs;rw[List.filterMap_cons,hf];exact Ay _ hb)) hr⟩
 exact all X.outer (fun _ hb=>hb) I.ok.funs
theorem Inv.stack(I:Inv X CA σ H s):s.heap.FunFrames X.base X.stack:=by
 rcases I.ok.stk with e | ⟨e,hf⟩
 ·rw[e];exact I.funs
 ·rw[e];obtain⟨m,hn,_⟩:=I.loc;refine .cons (by rw[I.ok.kind];decide) hf hn ?_ I.funs;exact Heap.get?_none_of_le (At I.ok.bsz I.ok.above)
theorem Inv.stkSub(I:Inv X CA σ H s):∀b∈frs X.stack,b∈X.env.locals::X.fs:=fun b hb=>by
 rcases I.ok.stk with e | ⟨e,hf⟩
 ·rw[e]at hb;exact Ay _ hb
 ·rw[e]at hb;unfold frs at hb;rw[List.filterMap_cons,hf]at hb;exact hb
theorem Inv.stkFree(I:Inv X CA σ H s):∀b∈frs X.stack,H b=none:=fun b hb=>by
 rcases zZ.mp (I.stkSub b hb)with e | hb
 ·rw[e];exact I.free
 ·obtain⟨_,o,ho,_⟩:=I.ok.funs.mem hb;exact I.base.free b o ho (I.ok.frf b hb) fun z=>I.ok.exfs b z hb
theorem Inv.step{g':Array GenState}{t':Nat}{d':Drawn}{ch:List Addr}(I:Inv X CA σ H s)(hch:∀b∈ch,(b∈X.ex∨X.s₀.heap.objs.size≤b)∧b≠X.env.locals∧(∀x c,X.env.cells.lookup x=some c→c≠b)∧∀p∈X.pn++CA,p.1≠b)(keep:∀b o,b≠X.env.locals→b∉X.fs→b∉ch→s.heap.get? b=some o→H b=none→h'.get? b=some o)(slot:∀b o,b≠X.env.locals→b∈X.fs→b∉ch→s.heap.get? b=some o→H b=none→∃sl,h'.get? b=some {o with slots:=sl})(free:∀b o,b∉ch→s.heap.get? b=some o→H b=none→H' b=none)(there:∀b o,b∉ch→s.heap.get? b=some o→∃o',h'.get? b=some o')(tups:∀b xs,H b=some (.tup xs)→H' b=some (.tup xs))(frzs:∀b o u,H b=some (.frz o u)→H' b=some (.frz o u))(tbls:∀b ps,H b=some (.tbl ps)→∃more,H' b=some (.tbl (ps++more)))(ns:∀m,s.heap.Ns X.env.locals m→h'.Ns X.env.locals m)(hok:HOk X.prog X.w H' h')(hg:AllBare g'):
  Inv X CA σ H' {s with heap:=h',gens:=g',drawn:=d',toks:=t'}:=by
 have neL:∀b o,X.s₀.heap.get? b=some o→b≠X.env.locals:=fun b o e=>zX (z6 (zN e) I.ok.above);have neC:∀b o,X.s₀.heap.get? b=some o→b∉X.ex→b∉ch:=fun b o e hx hb=>by
  rcases(hch b hb).1 with z | z
  ·exact hx z
  ·exact absurd (z6 (zN e) z) (Bd _)
 have cellK:∀x c,X.env.cells.lookup x=some c→∀v,s.heap.IsCell c v→h'.IsCell c v:=fun x c e v ⟨o,ho,hd⟩=>by
  have nch:c∉ch:=fun z=>(hch c z).2.2.1 x c e rfl;by_cases hc:c∈X.fs
  ·obtain⟨sl,q⟩:=slot c o (I.cne x c e) hc nch ho (I.freeC x c e);exact⟨_,q,hd⟩
  ·exact⟨o,keep c o (I.cne x c e) hc nch ho (I.freeC x c e),hd⟩
 refine⟨I.ok,I.os,hg,⟨fun b o e n hb hx=>?_,fun b o e n hb hx=>?_,fun b o e n hx=>?_,fun b o e hx=>?_,fun b xs e=>tups b xs (I.base.tups b xs e),fun b o xs e=>frzs b o xs (I.base.frzs b o xs e),fun b ps e=>?_⟩,?_,fun x c e=>?_,?_,fun x c e=>?_,fun p hp=>?_,hok,I.len⟩
 ·exact keep b o (neL b o e) hb (neC b o e hx) (I.base.keep b o e n hb hx) (I.base.free b o e n hx)
 ·obtain⟨sl,e1⟩:=I.base.slot b o e n hb hx;obtain⟨sl',e2⟩:=slot b _ (neL b o e) hb (neC b o e hx) e1 (I.base.free b o e n hx);exact⟨sl',e2⟩
 ·obtain⟨o',e1⟩:=I.base.there b o e hx;exact free b o' (neC b o e hx) e1 (I.base.free b o e n hx)
 ·obtain⟨o',e1⟩:=I.base.there b o e hx;exact there b o' (neC b o e hx) e1
 ·obtain⟨m1,e1⟩:=I.base.tbls b ps e;obtain⟨m2,e2⟩:=tbls b _ e1;exact⟨m1++m2,by rw[e2,Array.append_assoc]⟩
 ·obtain⟨m,hn,hl⟩:=I.loc;refine⟨m,ns m hn,fun i x v e1 e2 e3=>?_⟩;obtain⟨u,r,l⟩:=hl i x v e1 e2 e3;refine⟨u,r,?_⟩
  rcases l with l | ⟨k,c,e,z⟩
  ·exact .inl l
  ·exact .inr ⟨k,c,e,cellK x c e _ z⟩
 ·obtain⟨v,z⟩:=I.cell x c e;exact⟨v,cellK x c e v z⟩
 ·obtain⟨m,⟨o,_,_,ho,_⟩,_⟩:=I.loc;exact free _ o (fun z=>(hch _ z).2.1 rfl) ho I.free
 ·obtain⟨v,o,ho,hd⟩:=I.cell x c e;exact free c o (fun z=>(hch c z).2.2.1 x c e rfl) ho (I.freeC x c e)
 ·obtain⟨e,n,ne,nf,d⟩:=I.pin p hp;have nch:p.1∉ch:=fun z=>(hch p.1 z).2.2.2 p hp rfl;exact⟨keep p.1 p.2 ne nf nch e n,free p.1 p.2 nch e n,ne,nf,d⟩
theorem Inv.un{t':Nat}(I:Inv X CA σ H s)(u:Un X.fs [] H H' s.heap h')(hok:HOk X.prog X.w H' h'):Inv X CA σ H' {s with heap:=h',toks:=t'}:=by
 obtain⟨m,⟨o,es,ep,ho,r⟩,_⟩:=id I.loc;obtain⟨sl,hL⟩:=u.any ho I.free (by simp);exact I.step (g':=s.gens) (d':=s.drawn) (ch:=[]) (fun _ z=>nomatch z) (fun b o _ hb _ e n=>u.keep b o e n hb (by simp)) (fun b o _ hb _ e n=>u.slot b o e n hb (by simp)) (fun b o _ e n=>u.free b o e n (by simp)) (fun b o _ e=>u.there b o e (by simp)) u.tups u.frzs u.tbls (fun m' hm=>by
  obtain⟨o',es',ep',ho',r'⟩:=hm;rw[ho]at ho';cases ho';exact⟨_,es',ep',hL,r'⟩) hok I.bare
theorem Inv.call{g':Array GenState}{t':Nat}{d':Drawn}{ch:List Addr}(I:Inv X CA σ H s)(u:Un (frs X.stack) ch H H' s.heap h')(hok:HOk X.prog X.w H' h')(hg:AllBare g')(hch:∀b∈ch,(b∈X.ex∨X.s₀.heap.objs.size≤b)∧b≠X.env.locals∧(∀x c,X.env.cells.lookup x=some c→c≠b)∧∀p∈X.pn++CA,p.1≠b):
  Inv X CA σ H' {s with heap:=h',gens:=g',drawn:=d',toks:=t'}:=by
 obtain⟨m,⟨o,es,ep,ho,r⟩,_⟩:=id I.loc;obtain⟨sl,hL⟩:=u.any ho I.free fun z=>(hch _ z).2.1 rfl;exact I.step (ch:=ch) hch (fun b o hL hb hc e n=>u.keep b o e n (fun z=>(zZ.mp (I.stkSub b z)).elim hL hb) hc) (fun b o _ _ hc e n=>u.any e n hc) (fun b o hc e n=>u.free b o e n hc) (fun b o hc e=>u.there b o e hc) u.tups u.frzs u.tbls (fun m' hm=>by
  obtain⟨o',es',ep',ho',r'⟩:=hm;rw[ho]at ho';cases ho';exact⟨_,es',ep',hL,r'⟩) hok hg
theorem Inv.turned{t':Nat}{it:Addr}(I:Inv X CA σ H s)(k:∀b o,b≠it→s.heap.get? b=some o→h'.get? b=some o)(hn:H it=none)(hL:it≠X.env.locals)(h1:it∈X.ex∨X.s₀.heap.objs.size≤it)(h2:∀x c,X.env.cells.lookup x=some c→c≠it)(h3:∀p∈X.pn++CA,p.1≠it):Inv X CA σ H {s with heap:=h',toks:=t'}:=by
 have nit:∀b u,H b=some u→b≠it:=fun b u e z=>by rw[z,hn]at e;cases e
 refine I.step (g':=s.gens) (d':=s.drawn) (ch:=[it]) (fun b hb=>?_) (fun b o _ _ hc e _=>k b o (fun z=>hc (by simp[z])) e) (fun b o _ _ hc e _=>⟨o.slots,k b o (fun z=>hc (by simp[z])) e⟩) (fun _ _ _ _ n=>n)
  (fun b o hc e=>⟨o,k b o (fun z=>hc (by simp[z])) e⟩) (fun _ _ e=>e) (fun _ _ _ e=>e) (fun b ps e=>⟨#[],by rw[e];simp⟩) (fun m hm=>?_) (fun b u e=>?_) I.bare
 ·have e:b=it:=by simpa using hb
  subst e;exact⟨h1,hL,h2,h3⟩
 ·obtain⟨o,es,ep,ho,r⟩:=hm;exact⟨o,es,ep,k _ o (Ne.symm hL) ho,r⟩
 ·refine(I.hok b u e).stay (fun c v hc q=>k c v ?_ q) (fun _ q=>q) fun _ _ q=>q
  rcases hc with z | z
  ·rw[z];exact nit b u e
  ·exact nit c _ z
theorem Inv.tok(I:Inv X CA σ H s)(t:Nat):Inv X CA σ H {s with toks:=t}:=I.un (h':=s.heap) (t':=t) Un.refl I.hok
theorem Inv.kept{t':Nat}(I:Inv X CA σ H s)(k:∀b u,s.heap.get? b=some u→h'.get? b=some u):Inv X CA σ H {s with heap:=h',toks:=t'}:=I.un (Un.kept k) (I.hok.kept k)
theorem Inv.laid{a:Addr}{o:HO}{t':Nat}(I:Inv X CA σ H s)(k:∀b u,s.heap.get? b=some u→h'.get? b=some u)(hp:s.heap.objs.size≤a)(new:ObjOk X.prog X.w (upd H a o) h' a o):
  Inv X CA σ (upd H a o) {s with heap:=h',toks:=t'}:=I.un (Un.laid k hp (I.hok.fresh hp)) (I.hok.laid k hp new)
theorem Inv.write{x e:Addr}{o:HO}{t':Nat}(I:Inv X CA σ H s)(mu:Mut (H x))(he:e=x∨H e=some (.own x))(k:∀b u,b≠e→s.heap.get? b=some u→h'.get? b=some u)(heo:∃u,h'.get? e=some u)(new:ObjOk X.prog X.w (upd H x o) h' x o):Inv X CA σ (upd H x o) {s with heap:=h',toks:=t'}:=I.un (Un.write mu he k heo) (I.hok.write mu he k heo new)
theorem Inv.weak{σ':List (Option V)}(I:Inv X CA σ H s)(hl:σ'.length=σ.length)(w:∀(i:Nat) v,σ'[i]?=some (some v)→σ[i]?=some (some v)):Inv X CA σ' H s:=
 ⟨I.ok,I.os,I.bare,I.base,let ⟨m,hn,hl'⟩:=I.loc;⟨m,hn,fun i x v e1 e2 e3=>hl' i x v e1 (w i v e2) e3⟩,I.cell,I.free,I.freeC,I.pin,I.hok,hl.trans I.len⟩
theorem Inv.pins_of{pins':List (Addr×Obj)}(I:Inv X CA σ H s)(h:∀p∈pins',s.heap.get? p.1=some p.2∧H p.1=none∧p.1≠X.env.locals∧p.1∉X.fs∧∀v,p.2.data≠.cell v):Inv X pins' σ H s:=
 ⟨I.ok,I.os,I.bare,I.base,I.loc,I.cell,I.free,I.freeC,fun p hp=>(zT.mp hp).elim (fun z=>I.pin p (Ai _ z)) (h p),I.hok,I.len⟩
theorem iK{N:List Str}(hN:N.Nodup){i j:Nat}{x:Str}(a:N[i]?=some x)(b:N[j]?=some x):i=j:=by
 obtain⟨h1,e1⟩:=zM.mp a;obtain⟨h2,e2⟩:=zM.mp b;exact(List.getElem_inj hN).mp (e1.trans e2.symm)
theorem Oj{M:Model}{A:Around}{E:Value→Shared→Prop}{i:Nat}{x:Str}{v:V}{u:Value}{Q:Unit→Shared→Prop}(I:Inv X CA σ H s)(hN:X.N.Nodup)(hi:X.N[i]?=some x)(hx:Loc X.env.scope x)(r:RelV v u)(h:∀s',Inv X CA (σ.set i (some v)) H s'→(∃a,Heap.SameBut a s.heap s'.heap∧(a=X.env.locals∨X.env.cells.lookup x=some a))→Q () s')(hf:X.fn x=true∨X.env.scope.names.lookup x=some .local:=by first | exact .inl rfl | exact .inr rfl | assumption):wpAny M A (storeName X.env x u) Q E s:=by
 obtain⟨m,hn,hl⟩:=id I.loc;have hcls:(X.env.scope.kind==.class || (X.env.scope.kind==.module && X.env.locals != X.env.globals))=false:=by rw[I.ok.kind];rfl
 have hiσ:i<σ.length:=by rw[I.len];exact(zM.mp hi).1
 have cne:=I.cne;have tracked:∀{a:Addr}{h':Heap},(∃o,s.heap.get? a=some o∧H a=none)→Heap.SameBut a s.heap h'→HOk X.prog X.w H h':=fun{a h'} ha hs b ob e=>by
  obtain⟨_,_,hfree⟩:=ha;refine(I.hok b ob e).stay (fun c w' hc q=>(hs.2 c ?_).trans q) (fun _ q=>q) fun _ _ q=>q;rintro rfl
  rcases hc with rfl | hc
  ·rw[hfree]at e;cases e
  ·rw[hfree]at hc;cases hc
 rcases hx with hk | hk
 ·refine wpAny_storeName_local hk hn (fun h' hn' hs=>?_) hcls;obtain⟨oL,_,_,hoL,_⟩:=id hn;refine h _ ⟨I.ok,I.os,I.bare,⟨fun b o e n hb hx=>?_,fun b o e n hb hx=>?_,I.base.free,fun b o e hx=>?_,I.base.tups,I.base.frzs,I.base.tbls⟩,⟨_,hn',fun j y v' e1 e2 e3=>?_⟩,fun y c e=>?_,I.free,I.freeC,fun p hp=>?_,tracked ⟨oL,hoL,I.free⟩ hs,by simpa using I.len⟩ ⟨_,hs,.inl rfl⟩
  ·exact(hs.2 b (zX (z6 (zN e) I.ok.above))).trans (I.base.keep b o e n hb hx)
  ·obtain⟨sl,e1⟩:=I.base.slot b o e n hb hx;exact⟨sl,(hs.2 b (zX (z6 (zN e) I.ok.above))).trans e1⟩
  ·obtain⟨o',e1⟩:=I.base.there b o e hx;exact⟨o',(hs.2 b (zX (z6 (zN e) I.ok.above))).trans e1⟩
  ·by_cases hj:j=i
   ·subst hj;rw[hi]at e1;cases e1;rw[List.getElem?_set_self hiσ]at e2;cases e2;exact⟨u,r,.inl ⟨hk,by simp⟩⟩
   ·rw[List.getElem?_set_ne (Ne.symm hj)]at e2;obtain⟨u',r',q⟩:=hl j y v' e1 e2 e3;refine⟨u',r',?_⟩
    rcases q with⟨k,e⟩|⟨k,c,e,z⟩
    ·refine .inl ⟨k,?_⟩;have:y≠x:=fun e=>hj (iK hN e1 (e ▸ hi));simp[this,e]
    ·exact .inr ⟨k,c,e,z.sameBut hs (cne y c e)⟩
  ·obtain⟨w',z⟩:=I.cell y c e;exact⟨w',z.sameBut hs (cne y c e)⟩
  ·obtain⟨e,n,ne,nf,d⟩:=I.pin p hp;exact⟨(hs.2 p.1 ne).trans e,n,ne,nf,d⟩
 ·have hfn:X.fn x=true:=by
   rcases hf with z | z
   ·exact z
   ·rw[z]at hk;cases hk
  obtain⟨c,hc⟩:=I.ok.has x (.inl hk);obtain⟨w',z⟩:=I.cell x c hc;refine wpAny_storeName_cell I.ok.kind hk hc z (fun h' hc' hs=>?_);obtain⟨oc,hoc,hocd⟩:=id z;refine h {s with heap:=h'} ⟨I.ok,I.os,I.bare,⟨fun b o e n hb hx=>?_,fun b o e n hb hx=>?_,I.base.free,fun b o e hx=>?_,I.base.tups,I.base.frzs,I.base.tbls⟩,⟨m,hn.sameBut hs (Ne.symm (cne x c hc)),fun j y v' e1 e2 e3=>?_⟩,fun y c' e=>?_,I.free,I.freeC,fun p hp=>?_,tracked ⟨oc,hoc,I.freeC x c hc⟩ hs,by simpa using I.len⟩ ⟨c,hs,.inr hc⟩
  ·exact(hs.2 b (zX (z6 (zN e) (I.ok.cab x c hfn hc)))).trans (I.base.keep b o e n hb hx)
  ·obtain⟨sl,e1⟩:=I.base.slot b o e n hb hx;exact⟨sl,(hs.2 b (zX (z6 (zN e) (I.ok.cab x c hfn hc)))).trans e1⟩
  ·obtain⟨o',e1⟩:=I.base.there b o e hx;exact⟨o',(hs.2 b (zX (z6 (zN e) (I.ok.cab x c hfn hc)))).trans e1⟩
  ·by_cases hj:j=i
   ·subst hj;rw[hi]at e1;cases e1;rw[List.getElem?_set_self hiσ]at e2;cases e2;exact⟨u,r,.inr ⟨.inl hk,c,hc,hc'⟩⟩
   ·rw[List.getElem?_set_ne (Ne.symm hj)]at e2;obtain⟨u',r',q⟩:=hl j y v' e1 e2 e3;refine⟨u',r',?_⟩
    rcases q with q | ⟨k,c',e,z'⟩
    ·exact .inl q
    ·refine .inr ⟨k,c',e,z'.sameBut hs ?_⟩;rintro rfl;exact hj (iK hN e1 (I.ok.inj _ _ _ e hc ▸ hi))
  ·by_cases hcc:c'=c
   ·subst hcc;exact⟨_,hc'⟩
   ·obtain⟨w2,z2⟩:=I.cell y c' e;exact⟨w2,z2.sameBut hs hcc⟩
  ·obtain⟨e,n,ne,nf,d⟩:=I.pin p hp;refine⟨(hs.2 p.1 ?_).trans e,n,ne,nf,d⟩;intro q;rw[q,hoc]at e;have q':oc=p.2:=Aa e;exact d w' (by rw[←q'];exact hocd)
theorem i9{M:Model}{A:Around}{E:Value→Shared→Prop}{i:Nat}{x:Str}{v:V}{u:Value}{Q:Unit→Shared→Prop}(I:Inv X CA σ H s)(hN:X.N.Nodup)(hi:X.N[i]?=some x)(hx:Loc X.env.scope x)(r:RelV v u)(h:∀s',Inv X CA (σ.set i (some v)) H s'→Q () s')(hf:X.fn x=true∨X.env.scope.names.lookup x=some .local:=by first | exact .inl rfl | exact .inr rfl | assumption):wpAny M A (storeName X.env x u) Q E s:=
 Oj I hN hi hx r (fun s' I' _=>h s' I') hf
theorem Inv.call'{s':Shared}{ch:List Addr}(I:Inv X CA σ H s)(ho:s'.os=s.os)(u:Un (frs X.stack) ch H H' s.heap s'.heap)(hok:HOk X.prog X.w H' s'.heap)(hg:AllBare s'.gens)(hch:∀b∈ch,(b∈X.ex∨X.s₀.heap.objs.size≤b)∧b≠X.env.locals∧(∀x c,X.env.cells.lookup x=some c→c≠b)∧∀p∈X.pn++CA,p.1≠b):Inv X CA σ H' s':=by
 obtain⟨h',g',d',t',o'⟩:=s';have e:o'=s.os:=ho;subst e;exact I.call (g':=g') (t':=t') (d':=d') u hok hg hch
end
abbrev XK:=Value→Option Addr→Hp→Prop
abbrev St:=List (Option V)
abbrev VK:=V→Hp→Prop
abbrev TE:=St→Hp→VK→Prop
abbrev TT:=St→Hp→(Bool→Hp→Prop)→Prop
abbrev TA:=St→Hp→(List V→Hp→Prop)→Prop
structure Ends where
 nx:St→Hp→Prop
 rt:VK
 bk:St→Hp→Prop:=fun _ _=>False
 ct:St→Hp→Prop:=fun _ _=>False
abbrev TS:=Ends→St→Hp→Prop
def EP(X:Cx)(CA:List (Addr×Obj))(σ:St)(Q:VK)(u:Value)(s':Shared):Prop:=∃v H',Inv X CA σ H' s'∧RelV v u∧Q v H'
def TP(X:Cx)(CA:List (Addr×Obj))(σ:St)(Q:Bool→Hp→Prop)(b:Bool)(s':Shared):Prop:=∃H',Inv X CA σ H' s'∧Q b H'
def AP(X:Cx)(CA:List (Addr×Obj))(σ:St)(Q:List V→Hp→Prop)(us:List Value)(s':Shared):Prop:=∃vs H',Inv X CA σ H' s'∧Vals vs us∧Q vs H'
def SP(X:Cx)(CA:List (Addr×Obj))(D:Ends)(f:Flow)(s':Shared):Prop:=
 match f with
 |.next=>∃σ' H',Inv X CA σ' H' s'∧D.nx σ' H'
 |.brk=>∃σ' H',Inv X CA σ' H' s'∧D.bk σ' H'
 |.cont=>∃σ' H',Inv X CA σ' H' s'∧D.ct σ' H'
 |.ret u=>∃v σ' H',Inv X CA σ' H' s'∧RelV v u∧D.rt v H'
def PE(X:Cx)(e:Expr)(t:TE):Prop:=
 ∀(CA:List (Addr×Obj))(s:Shared)(σ:St)(H:Hp)(Q:VK),Inv X CA σ H s→t σ H Q→wpAny (model X.prog X.w) X.A (eval e X.env) (EP X CA σ Q) X.xe s
def PT(X:Cx)(e:Expr)(t:TT):Prop:=
 ∀(CA:List (Addr×Obj))(s:Shared)(σ:St)(H:Hp)(Q:Bool→Hp→Prop),Inv X CA σ H s→t σ H Q→wpAny (model X.prog X.w) X.A (isTrue e X.env (eval e X.env)) (TP X CA σ Q) X.xe s
def PW(X:Cx)(e:Expr)(t:TT):Prop:=
 ∀(whole:Sem Value)(CA:List (Addr×Obj))(s:Shared)(σ:St)(H:Hp)(Q:Bool→Hp→Prop),Inv X CA σ H s→t σ H Q→wpAny (model X.prog X.w) X.A (isTrue e X.env whole) (TP X CA σ Q) X.xe s
theorem PW.pt{X:Cx}{e:Expr}{t:TT}(h:PW X e t):PT X e t:=h _
def PA(X:Cx)(es:List Expr)(t:TA):Prop:=
 ∀(pos:Pos)(CA:List (Addr×Obj))(s:Shared)(σ:St)(H:Hp)(Q:List V→Hp→Prop),Inv X CA σ H s→t σ H Q→wpAny (model X.prog X.w) X.A (spliced (backTo pos (starEach es X.env))) (AP X CA σ Q) X.xe s
def PS(X:Cx)(st:Stmt)(t:TS):Prop:=
 ∀(CA:List (Addr×Obj))(s:Shared)(σ:St)(H:Hp)(D:Ends),Inv X CA σ H s→t D σ H→wpAny (model X.prog X.w) X.A (exec st X.env) (SP X CA D) X.xe s
def PSs(X:Cx)(st:List Stmt)(t:TS):Prop:=
 ∀(CA:List (Addr×Obj))(s:Shared)(σ:St)(H:Hp)(D:Ends),Inv X CA σ H s→t D σ H→wpAny (model X.prog X.w) X.A (execs st X.env) (SP X CA D) X.xe s
theorem thn{α:Type}{t:Sem α}{Q Q':α→Shared→Prop}{M:Model}{A:Around}{E:Value→Shared→Prop}{s:Shared}(h:wpAny M A t Q E s)(hQ:∀a s,Q a s→Q' a s):wpAny M A t Q' E s:=AU h hQ fun _ _ x=>x
section
variable{X:Cx}
def wZ(i:Nat):TE:=fun σ H Q=>∃v,σ[i]?=some (some v)∧Q v H
def tC(v:V):TE:=fun _ H Q=>Q v H
theorem pV{i:Nat}{x:Str}{pos:Pos}(hN:X.N[i]?=some x)(hv:Vis X.env.scope x)(hd:(x==("__debug__":Str))=false:=by decide)(hcd:(x==("__classdict__":Str))=false:=by decide):PE X (.Name x pos) (wZ i):=by
 intro CA s σ H Q I h;obtain⟨v,e,h⟩:=h;obtain⟨m,hn,hl⟩:=I.loc;obtain⟨u,r,l⟩:=hl i x v hN e hv;have fin:EP X CA σ Q u s:=⟨v,H,I,r,h⟩
 rcases l with⟨hk,hm⟩|⟨hk,c,hc,hcell⟩
 ·exact wpAny_Name (wpAny_loadName_local I.ok.kind hk hn hm fin) hd
 ·rcases hk with hk | hk
  ·exact wpAny_Name (wpAny_loadName_cell I.ok.kind hk hc hcell fin) hd
  ·exact wpAny_Name (wpAny_loadName_free I.ok.kind hk hc hcell fin hcd) hd
theorem Z5{i j pos}:PE X (.Constant (.int i) j pos) (tC (.int i)):=fun _ _ _ H _ I h=>wpAny_Constant_int ⟨.int i,H,I.tok _,⟨_,rfl⟩,h⟩
theorem Xn{b j pos}:PE X (.Constant (.bool b) j pos) (tC (.bl b)):=fun _ _ _ H _ I h=>Constant_bool ⟨.bl b,H,I,rfl,h⟩
theorem W1{j pos}:PE X (.Constant .none j pos) (tC .non):=fun _ _ _ H _ I h=>Constant_none ⟨.non,H,I,rfl,h⟩
theorem Um{x j pos}:PE X (.Constant (.str x) j pos) (tC (.str x)):=fun _ _ _ H _ I h=>Calls.Constant_str ⟨.str x,H,I.tok _,⟨_,rfl⟩,h⟩
def Gl(X:Cx)(x:Str):Prop:=X.env.kindOf x=some .globalImplicit
theorem f7{E:Value→Shared→Prop}{CA:List (Addr×Obj)}{s:Shared}{σ:St}{H:Hp}{x:Str}{u:Value}{pos:Pos}{Q:Value→Shared→Prop}(I:Inv X CA σ H s)(hg:Gl X x)(hm:X.mg x=some u)(h:Q u s)(hd:(x==("__debug__":Str))=false:=by decide):wpAny (model X.prog X.w) X.A (eval (.Name x pos) X.env) Q E s:=
 Calls.Name_function_global I.ok.kind hg (Calls.loadGlobal_global (by rw[I.ok.glob];exact I.mod.glob.keeps I.bk) hm h) hd
theorem Pi{E:Value→Shared→Prop}{CA:List (Addr×Obj)}{s:Shared}{σ:St}{H:Hp}{x:Str}{u:Value}{pos:Pos}{Q:Value→Shared→Prop}(I:Inv X CA σ H s)(hg:Gl X x)(hm:X.mg x=none)(hv:bootBuiltins x=some u)(h:Q u s)(hn:x≠"__name__":=by decide)(hd:(x==("__debug__":Str))=false:=by decide):wpAny (model X.prog X.w) X.A (eval (.Name x pos) X.env) Q E s:=by
 obtain⟨mb,h1,h2⟩:=I.mod.blt;exact Calls.Name_function_global I.ok.kind hg (Calls.loadGlobal_builtin (by rw[I.ok.glob];exact I.mod.glob.keeps I.bk) hm (by rw[I.ok.blt];exact h1.keeps I.bk) ((h2 x hn).trans hv) h) hd
theorem sn{x:Str}{v:V}{u:Value}{pos:Pos}(hg:Gl X x)(hm:X.mg x=some u)(r:RelV v u)(hd:(x==("__debug__":Str))=false:=by decide):PE X (.Name x pos) (tC v):=
 fun _ _ _ H _ I h=>f7 I hg hm ⟨v,H,I,r,h⟩ hd
theorem V5{x:Str}{v:V}{u:Value}{pos:Pos}(hg:Gl X x)(hm:X.mg x=none)(hv:bootBuiltins x=some u)(r:RelV v u)(hn:x≠"__name__":=by decide)(hd:(x==("__debug__":Str))=false:=by decide):PE X (.Name x pos) (tC v):=
 fun _ _ _ H _ I h=>Pi I hg hm hv ⟨v,H,I,r,h⟩ hn hd
variable{a b:Expr}{ta tb:TE}{pos:Pos}
def tB(t:TE):TT:=fun σ H Q=>t σ H fun x H1=>∃c,x=.bl c∧Q c H1
theorem Wd{e:Expr}{t:TE}(h:PE X e t)(he:∀whole,isTrue e X.env whole=(do let v ←whole;standAt e.pos;holding [v] (truthy v)):=by intro _;rfl):PT X e (tB t):=by
 intro CA s σ H Q I hw;refine isTrue_plain (thn (h CA s σ H _ I hw) fun v s1 ⟨x,H1,I1,r1,q1⟩=>?_) (he _);obtain⟨d,rfl,q⟩:=q1;cases r1;exact Be ⟨H1,I1,q⟩
variable{tA tB':TT}{rest:List Expr}
def tAnd(t u:TT):TT:=fun σ H Q=>t σ H fun c H1=>if c=true then u σ H1 Q else Q false H1
def tOr(t u:TT):TT:=fun σ H Q=>t σ H fun c H1=>if c=true then Q true H1 else u σ H1 Q
def tNot(t:TT):TT:=fun σ H Q=>t σ H fun c H1=>Q (!c) H1
theorem gh(ha:PT X a tA):PW X (.BoolOp .And [a] pos) tA:=by
 intro wh CA s σ H Q I h;refine isTrue_and (thn (ha CA s σ H Q I h) fun c s1 e=>?_);cases c with
 |true=>exact isTrue_and_nil e
 |false=>exact e
theorem Vc(ha:PT X a tA):PW X (.BoolOp .Or [a] pos) tA:=by
 intro wh CA s σ H Q I h;refine isTrue_or (thn (ha CA s σ H Q I h) fun c s1 e=>?_);cases c with
 |false=>exact isTrue_or_nil e
 |true=>exact e
theorem kg(ha:PT X a tA)(hb:PW X (.BoolOp .And (b::rest) pos) tB'):PW X (.BoolOp .And (a::b::rest) pos) (tAnd tA tB'):=by
 intro wh CA s σ H Q I h;refine isTrue_and (thn (ha CA s σ H _ I h) fun c s1 CB=>?_);obtain⟨H1,I1,q1⟩:=CB;cases c with
 |true=>exact hb wh CA s1 σ H1 Q I1 q1
 |false=>exact⟨H1,I1,q1⟩
theorem V3(ha:PT X a tA)(hb:PW X (.BoolOp .Or (b::rest) pos) tB'):PW X (.BoolOp .Or (a::b::rest) pos) (tOr tA tB'):=by
 intro wh CA s σ H Q I h;refine isTrue_or (thn (ha CA s σ H _ I h) fun c s1 CB=>?_);obtain⟨H1,I1,q1⟩:=CB;cases c with
 |true=>exact⟨H1,I1,q1⟩
 |false=>exact hb wh CA s1 σ H1 Q I1 q1
theorem Vd(ha:PT X a tA):PT X (.UnaryOp .Not a pos) (tNot tA):=by
 intro CA s σ H Q I h;exact isTrue_not (ha CA s σ H (fun c H1=>Q (!c) H1) I h)
def zA(ta tb:TE):TE:=fun σ H Q=>ta σ H fun x H1=>∃c,x=.bl c∧if c=true then tb σ H1 Q else Q (.bl false) H1
def yE(ta:TE):TE:=fun σ H Q=>ta σ H fun x H1=>∃c,x=.bl c∧Q (.bl (!c)) H1
theorem Rf{op}{t:TE}(h:PE X a t):PE X (.BoolOp op [a] pos) t:=fun CA s σ H Q I hw=>BoolOp_one (h CA s σ H Q I hw)
theorem Rg(ha:PE X a ta)(hb:PE X (.BoolOp .And (b::rest) pos) tb):PE X (.BoolOp .And (a::b::rest) pos) (zA ta tb):=by
 intro CA s σ H Q I h;refine BoolOp_and (thn (ha CA s σ H _ I h) fun v s1 CB=>?_);obtain⟨x,H1,I1,r1,q1⟩:=CB;obtain⟨c,rfl,q1⟩:=q1;cases r1;refine Be ?_;cases c with
 |true=>exact hb CA s1 σ H1 Q I1 q1
 |false=>exact⟨.bl false,H1,I1,rfl,q1⟩
theorem wk(ha:PE X a ta):PE X (.UnaryOp .Not a pos) (yE ta):=by
 intro CA s σ H Q I h;refine UnaryOp_ (thn (ha CA s σ H _ I h) fun v s1 CB=>?_);obtain⟨x,H1,I1,r1,q1⟩:=CB;obtain⟨c,rfl,q1⟩:=q1;cases r1;exact not_of (Be ⟨.bl (!c),H1,I1,rfl,q1⟩)
def tIf(t:TT)(ta tb:TE):TE:=fun σ H Q=>t σ H fun c H1=>if c=true then ta σ H1 Q else tb σ H1 Q
theorem p8{c:Expr}(hc:PT X c tA)(ha:PE X a ta)(hb:PE X b tb):PE X (.IfExp c a b pos) (tIf tA ta tb):=by
 intro CA s σ H Q I h;refine wpAny_IfExp (thn (hc CA s σ H _ I h) fun d s1 CB=>?_);obtain⟨H1,I1,q1⟩:=CB;cases d with
 |true=>exact ha CA s1 σ H1 Q I1 q1
 |false=>exact hb CA s1 σ H1 Q I1 q1
end
def SqL(K:W.Frag)(H:Hp)(a:Addr)(xs:List V):Prop:=
 Rd H a (.lst xs)∨
  ∃(o:Obj)(its:Array Value)(n:Nat),K.lookup a=some o∧o.cls=.type "list"∧o.dict=none∧o.data=.seq its n∧its.size≤sizeLine∧Vals xs its.toList
def SqT(K:W.Frag)(H:Hp)(a:Addr)(xs:List V):Prop:=
 Rd H a (.tup xs)∨
  ∃(o:Obj)(its:Array Value)(n:Nat),K.lookup a=some o∧o.cls=.type "tuple"∧o.data=.seq its n∧its.size≤sizeLine∧Vals xs its.toList
def absV:Value→Option V
 |.none=>some .non
 |.bool b=>some (.bl b)
 |.int i _=>some (.int i)
 |.str x _=>some (.str x)
 |.bytes b _=>some (.byt b)
 |.float b _=>some (.flt b)
 |.ref a=>some (.ref a)
 |.type n=>some (.ty n)
 |_=>none
theorem RelV.abs{x:V}{u:Value}(r:RelV x u):absV u=some x:=by
 cases x with
 |non=>cases r;rfl
 |bl _=>cases r;rfl
 |int _=>obtain⟨t,rfl⟩:=r;rfl
 |str _=>obtain⟨t,rfl⟩:=r;rfl
 |byt _=>obtain⟨t,rfl⟩:=r;rfl
 |flt _=>obtain⟨t,rfl⟩:=r;rfl
 |ref _=>cases r;rfl
 |ty _=>cases r;rfl
theorem RelV.inj{x y:V}{u:Value}(r:RelV x u)(q:RelV y u):x=y:=Aa (r.abs.symm.trans q.abs)
theorem Vals.inj{xs ys:List V}{us:List Value}(h:Vals xs us)(g:Vals ys us):xs=ys:=by
 induction h generalizing ys with
 |nil=>cases g;rfl
 |cons r t ih=>
  cases g with
  |cons r' t'=>rw[r.inj r',ih t']
section
variable{X:Cx}{CA:List (Addr×Obj)}{σ:St}{H:Hp}{s:Shared}{a:Addr}{xs ys:List V}
theorem SqL.of{K:W.Frag}(h:H a=some (.lst xs)):SqL K H a xs:=.inl (.inl h)
theorem SqT.of{K:W.Frag}(h:H a=some (.tup xs)):SqT K H a xs:=.inl (.inl h)
theorem Inv.list(I:Inv X CA σ H s)(h:SqL X.K H a xs):∃its:List Value,Vals xs its∧PlainL s.heap a its.toArray∧xs.length≤sizeLine:=by
 rcases h with h | ⟨o,its,n,hk,hc,hd,hs,hz,r⟩
 ·obtain⟨z,its,n,r,e⟩:=h.ok I.hok;exact⟨its,r,⟨_,n,e,rfl,rfl,rfl⟩,z⟩
 ·refine⟨its.toList,r,⟨o,n,I.kIn a o hk,hc,hd,by simpa using hs⟩,?_⟩;have e:=r.length;simp only[Array.length_toList]at e;omega
theorem Inv.tuple(I:Inv X CA σ H s)(h:SqT X.K H a xs):∃its:List Value,Vals xs its∧IsTup s.heap a its.toArray∧xs.length≤sizeLine:=by
 rcases h with h | ⟨o,its,n,hk,hc,hs,hz,r⟩
 ·obtain⟨z,its,r,p⟩:=h.ok I.hok;exact⟨its,r,p.tup,z⟩
 ·refine⟨its.toList,r,⟨o,I.kIn a o hk,hc,n,by simpa using hs⟩,?_⟩;have e:=r.length;simp only[Array.length_toList]at e;omega
theorem Inv.list_inj(I:Inv X CA σ H s)(h:SqL X.K H a xs)(h':SqL X.K H a ys):xs=ys:=by
 obtain⟨its,r,⟨o,n,e,_,_,d⟩,_⟩:=I.list h;obtain⟨its',r',⟨o',n',e',_,_,d'⟩,_⟩:=I.list h';rw[e]at e';cases e';rw[d]at d';injection d' with d1 _
 have:its=its':=by simpa using congrArg Array.toList d1
 subst this;exact r.inj r'
theorem Inv.tuple_inj(I:Inv X CA σ H s)(h:SqT X.K H a xs)(h':SqT X.K H a ys):xs=ys:=by
 obtain⟨its,r,⟨o,e,_,n,d⟩,_⟩:=I.tuple h;obtain⟨its',r',⟨o',e',_,n',d'⟩,_⟩:=I.tuple h';rw[e]at e';cases e';rw[d]at d';injection d' with d1 _
 have:its=its':=by simpa using congrArg Array.toList d1
 subst this;exact r.inj r'
end
abbrev Cx.wish(X:Cx)(E:Value→Shared→Prop):Cx:={X with xe:=E}
abbrev Cx.nox(X:Cx):Cx:=X.wish fun _ _=>False
theorem Cx.Ok.wish{X:Cx}(ok:X.Ok)(E:Value→Shared→Prop):(X.wish E).Ok:=
 ⟨ok.mod,ok.kind,ok.glob,ok.blt,ok.above,ok.inj,ok.has,ok.cab,ok.hd,ok.frames,ok.stk,ok.exf,ok.bs,ok.bsz,ok.noex,ok.exfs,ok.funs,ok.frf⟩
theorem Cx.Ok.unwish{X:Cx}{E:Value→Shared→Prop}(ok:(X.wish E).Ok):X.Ok:=
 ⟨ok.mod,ok.kind,ok.glob,ok.blt,ok.above,ok.inj,ok.has,ok.cab,ok.hd,ok.frames,ok.stk,ok.exf,ok.bs,ok.bsz,ok.noex,ok.exfs,ok.funs,ok.frf⟩
section
variable{X:Cx}{CA:List (Addr×Obj)}{σ:St}{H:Hp}{s:Shared}{E:Value→Shared→Prop}
theorem Inv.wish(I:Inv X CA σ H s)(E:Value→Shared→Prop):Inv (X.wish E) CA σ H s:=⟨I.ok.wish E,I.os,I.bare,I.base,I.loc,I.cell,I.free,I.freeC,I.pin,I.hok,I.len⟩
theorem Inv.unwish(I:Inv (X.wish E) CA σ H s):Inv X CA σ H s:=⟨I.ok.unwish,I.os,I.bare,I.base,I.loc,I.cell,I.free,I.freeC,I.pin,I.hok,I.len⟩
theorem SP.unwish{D:Ends}{f:Flow}{s':Shared}(h:SP (X.wish E) CA D f s'):SP X CA D f s':=by
 cases f with
 |next=>obtain⟨σ',H',I,q⟩:=h;exact⟨σ',H',I.unwish,q⟩
 |brk=>obtain⟨σ',H',I,q⟩:=h;exact⟨σ',H',I.unwish,q⟩
 |cont=>obtain⟨σ',H',I,q⟩:=h;exact⟨σ',H',I.unwish,q⟩
 |ret u=>obtain⟨v,σ',H',I,r,q⟩:=h;exact⟨v,σ',H',I.unwish,r,q⟩
theorem PSs.nox{st:List Stmt}{t:TS}(h:PSs X.nox st t):PSs X st t:=fun CA s σ H D I hw=>
 AU (h CA s σ H D (I.wish _) hw) (fun _ _ q=>q.unwish) fun _ _ z=>False.elim z
end
section
variable{X:Cx}{st:Stmt}{rest:List Stmt}{t u:TS}{e:Expr}{te:TE}{pos:Pos}
def zc:TS:=fun D σ H=>D.nx σ H
def xW(t u:TS):TS:=fun D σ H=>t {D with nx:=u D} σ H
theorem Zr:PSs X [] zc:=fun _ _ σ H _ I h=>wpAny_execs_nil ⟨σ,H,I,h⟩
theorem Z3(h1:PS X st t)(h2:PSs X rest u):PSs X (st::rest) (xW t u):=by
 intro CA s σ H D I h;refine wpAny_execs_cons (thn (h1 CA s σ H {D with nx:=u D} I h) fun f s1 q=>?_);cases f with
 |next=>
  obtain⟨σ',H',I',q⟩:=q;exact h2 CA s1 σ' H' D I' q
 |ret v=>exact q
 |brk=>exact q
 |cont=>exact q
theorem Z7(h1:PS X st t):PSs X [st] t:=by
 intro CA s σ H D I h;refine wpAny_execs_cons (thn (h1 CA s σ H D I h) fun f s1 q=>?_);cases f with
 |next=>exact wpAny_execs_nil q
 |ret v=>exact q
 |brk=>exact q
 |cont=>exact q
theorem Inv.quiet{CA:List (Addr×Obj)}{σ:St}{H:Hp}{s:Shared}(I:Inv X CA σ H s):interactive X.env=false:=by simp[interactive,I.ok.kind]
def yi(te:TE):TS:=fun D σ H=>te σ H fun _ H1=>D.nx σ H1
theorem Xj(he:PE X e te)(hs:swapsWith e none pos.line X.env=pure false:=by rfl):PS X (.Expr e pos) (yi te):=by
 intro CA s σ H D I h;exact wpAny_Expr_any (thn (he CA s σ H _ I h) fun v s1 ⟨x,H1,I1,r1,q1⟩=>⟨σ,H1,I1,q1⟩) I.quiet hs
def tRet(te:TE):TS:=fun D σ H=>te σ H D.rt
theorem Zc(he:PE X e te):PS X (.Return (some e) pos) (tRet te):=by
 intro CA s σ H D I h;exact wpAny_Return_some (thn (he CA s σ H _ I h) fun v s1 ⟨x,H1,I1,r1,q1⟩=>⟨x,σ,H1,I1,r1,q1⟩)
def tIfS(c:TT)(t u:TS):TS:=fun D σ H=>c σ H fun b H1=>if b=true then t D σ H1 else u D σ H1
theorem Y8{c:Expr}{a b:List Stmt}{tc:TT}(hc:PT X c tc)(ha:PSs X a t)(hb:PSs X b u):PS X (.If c a b pos) (tIfS tc t u):=by
 intro CA s σ H D I h;refine wpAny_If (thn (hc CA s σ H _ I h) fun d s1 CB=>?_);obtain⟨H1,I1,q1⟩:=CB;cases d with
 |true=>exact ha CA s1 σ H1 D I1 q1
 |false=>exact hb CA s1 σ H1 D I1 q1
def vY:TS:=fun _ _ _=>False
theorem i7:PS X st vY:=fun _ _ _ _ _ _ h=>h.elim
end
abbrev TG:=V→St→Hp→(St→Hp→Prop)→Prop
abbrev TGs:=List V→St→Hp→(St→Hp→Prop)→Prop
def PG(X:Cx)(target:Expr)(t:TG):Prop:=
 ∀(CA:List (Addr×Obj))(s:Shared)(σ:St)(H:Hp)(v:V)(u:Value)(Q:St→Hp→Prop),Inv X CA σ H s→RelV v u→t v σ H Q→
  wpAny (model X.prog X.w) X.A (assign target X.env u) (fun _ s'=>∃σ' H',Inv X CA σ' H' s'∧Q σ' H') X.xe s
def PGs(X:Cx)(ts:List Expr)(t:TGs):Prop:=
 ∀(CA:List (Addr×Obj))(s:Shared)(σ:St)(H:Hp)(vs:List V)(us:List Value)(Q:St→Hp→Prop),Inv X CA σ H s→Vals vs us→t vs σ H Q→
  wpAny (model X.prog X.w) X.A (assignInOrder ((assignEach ts X.env).map (·.2)) us) (fun _ s'=>∃σ' H',Inv X CA σ' H' s'∧Q σ' H') X.xe s
abbrev wu:=V→V→V→Hp→(Hp→Prop)→Prop
def yQ(X:Cx)(t:wu):Prop:=
 ∀(CA:List (Addr×Obj))(s:Shared)(σ:St)(H:Hp)(o i v:V)(ov iv u:Value)(Q:Hp→Prop),Inv X CA σ H s→RelV o ov→RelV i iv→RelV v u→t o i v H Q→
  wpAny (model X.prog X.w) X.A (setItem ov iv u) (fun _ s'=>∃H',Inv X CA σ H' s'∧Q H') X.xe s
section
variable{X:Cx}{pos:Pos}
def jc(i:Nat):TG:=fun v σ H Q=>Q (σ.set i (some v)) H
theorem Z9{i:Nat}{x:Str}(hN:X.N.Nodup)(hi:X.N[i]?=some x)(hx:Loc X.env.scope x)(hf:X.fn x=true∨X.env.scope.names.lookup x=some .local:=by first | exact .inl rfl | exact .inr rfl | assumption):PG X (.Name x pos) (jc i):=by
 intro CA s σ H v u Q I r h;exact wpAny_assign_Name (i9 I hN hi hx r (fun s' I'=>⟨_,H,I',h⟩) hf)
def gNil:TGs:=fun vs σ H Q=>vs=[]∧Q σ H
def yA(t:TG)(u:TGs):TGs:=fun vs σ H Q=>∃v r,vs=v::r∧t v σ H fun σ' H'=>u r σ' H' Q
theorem Zo:PGs X [] gNil:=by
 intro CA s σ H vs us Q I r h;obtain⟨e,h⟩:=h;subst e;cases r;exact assignInOrder_nil ⟨σ,H,I,h⟩
theorem Z8{e:Expr}{es:List Expr}{t:TG}{u:TGs}(h1:PG X e t)(h2:PGs X es u)(hs:(assignEach (e::es) X.env).map (·.2)=assign e X.env::(assignEach es X.env).map (·.2):=by rfl):PGs X (e::es) (yA t u):=by
 intro CA s σ H vs us Q I r h;obtain⟨v,vr,e1,h⟩:=h;subst e1;cases r with
 |cons r rr=>
  rw[hs];refine assignInOrder_cons (thn (h1 CA s σ H _ _ _ I r h) fun _ s1 CB=>?_);obtain⟨σ1,H1,I1,q1⟩:=CB;exact h2 CA s1 σ1 H1 _ _ Q I1 rr q1
def yK(K:W.Frag)(n:Nat)(t:TGs):TG:=fun v σ H Q=>∃a xs,v=.ref a∧SqT K H a xs∧xs.length=n∧t xs σ H Q
theorem Y6{es:List Expr}{k:Nat}{t:TGs}{n:Nat}(hc:X.calm=true)(h:PGs X es t)(hn:(assignEach es X.env).length=n:=by rfl)(hst:(assignEach es X.env).findIdx? (·.1)=none:=by rfl):PG X (.Tuple es k pos) (yK X.K n t):=by
 intro CA s σ H v u Q I r hw;obtain⟨a,xs,e1,hq,hl,hw⟩:=hw;subst e1;cases r;obtain⟨its,rv,ht,hz⟩:=I.tuple hq;refine assign_Tuple_tuple (I.ok.hd hc) ht (by simp[hn,←hl,rv.length]) hst fun h' hx=>?_;have I1:Inv X CA σ H {s with heap:=h'}:=I.kept (t':=s.toks) fun b o e=>hx b o (zX (zN e)) e;exact h CA _ σ H xs _ Q I1 (by simpa using rv) hw
def gSub(to ti:TE)(t:wu):TG:=fun v σ H Q=>to σ H fun o H1=>ti σ H1 fun i H2=>t o i v H2 fun H3=>Q σ H3
theorem qd{o i:Expr}{to ti:TE}{t:wu}(ho:PE X o to)(hi:PE X i ti)(hs:yQ X t)(ha:∀v,assign (.Subscript o i pos) X.env v=(do
   let ov ←holding [v] (eval o X.env)
   let iv ←holding [v,ov] (eval i X.env)
   standAt pos
   holding [v,ov,iv] (setItem ov iv v)
   release [v,ov,iv] []):=by intro _;rfl):PG X (.Subscript o i pos) (gSub to ti t):=by
 intro CA s σ H v u Q I r h;rw[ha];refine ae (Ax (thn (ho CA s σ H _ I h) fun ov s1 CB=>?_));obtain⟨x,H1,I1,r1,q1⟩:=CB;refine ae (Ax (thn (hi CA s1 σ H1 _ I1 q1) fun iv s2 CB=>?_));obtain⟨y,H2,I2,r2,q2⟩:=CB;refine ae (wpAny_standAt (ae (Ax (thn (hs CA s2 σ H2 x y v ov iv u _ I2 r1 r2 r q2) fun _ s3 CB=>?_))));obtain⟨H3,I3,q3⟩:=CB;exact wpAny_release ⟨σ,H3,I3,q3⟩
def qe(te:TE)(g:TG):TS:=fun D σ H=>te σ H fun x H1=>g x σ H1 D.nx
theorem Yt{tg e:Expr}{te:TE}{g:TG}(he:PE X e te)(hg:PG X tg g)(hs:swapsWithSole [tg] e pos.line X.env=pure false:=by rfl)(hw:swappedStores [tg] e X.env=pure none:=by rfl)(h1:(assignEach [tg] X.env).map (·.2)=[assign tg X.env]:=by rfl):PS X (.Assign [tg] e pos) (qe te g):=by
 intro CA s σ H D I h;refine wpAny_Assign_stores (thn (he CA s σ H _ I h) fun v s1 ⟨x,H1,I1,r1,q1⟩=>?_) hs hw;rw[h1];exact thn (hg CA s1 σ H1 x v _ I1 r1 q1) fun _ s2 q=>q
theorem kT{i:Nat}{x:Str}{e:Expr}{te:TE}{pos':Pos}(hN:X.N.Nodup)(hi:X.N[i]?=some x)(hx:Loc X.env.scope x)(he:PE X e te)(hs:swapsWith e (some (.Name x pos')) pos.line X.env=pure false:=by rfl)(hf:X.fn x=true∨X.env.scope.names.lookup x=some .local:=by first | exact .inl rfl | exact .inr rfl | assumption):
  PS X (.Assign [.Name x pos'] e pos) (qe te (jc i)):=by
 intro CA s σ H D I h;refine wpAny_Assign_Name (thn (he CA s σ H _ I h) fun v s1 CB=>?_) hs;obtain⟨y,H1,I1,r1,q1⟩:=CB;exact i9 I1 hN hi hx r1 (fun s2 I2=>⟨_,H1,I2,q1⟩) hf
end
section
variable{X:Cx}{pos:Pos}
def pW(c:TT)(tb:TS):TS:=fun D σ H=>∃W:Nat→St→Hp→Prop,(∃m,W m σ H)∧∀m σ H,W m σ H→
 c σ H fun b H1=>if b=true then ∃N:St→Hp→Prop,(∀σ' H',N σ' H'→∃m',m'<m∧W m' σ' H')∧tb {D with nx:=N,ct:=N,bk:=D.nx} σ H1 else D.nx σ H1
theorem iD{c:Expr}{body:List Stmt}{tc:TT}{tb:TS}(hp:PassesOwn (model X.prog X.w) X.A X.env X.xe)(hc:PT X c tc)(hb:PSs X body tb):PS X (.While c body [] pos) (pW tc tb):=by
 intro CA s σ H D I h;obtain⟨W,⟨m0,w0⟩,turn⟩:=h;refine wpAny_While (codeAny_whileLoop (fun n s'=>∃σ' H',Inv X CA σ' H' s'∧W n σ' H') ?_ m0 ⟨σ,H,I,w0⟩);rintro n s1 ⟨σ1,H1,I1,w1⟩;refine BR hp (thn (hc CA s1 σ1 H1 _ I1 (turn n σ1 H1 w1)) fun b s2 CB=>?_);obtain⟨H2,I2,q2⟩:=CB;cases b with
 |true=>
  obtain⟨N,hN,q2⟩:=q2;rw[zE rfl];refine BR hp (thn (hb CA s2 σ1 H2 _ I2 q2) fun f s3 q3=>?_);cases f with
  |next=>
   obtain⟨σ3,H3,I3,n3⟩:=q3;obtain⟨m',hm,w3⟩:=hN σ3 H3 n3;exact⟨m',hm,σ3,H3,I3,w3⟩
  |cont=>
   obtain⟨σ3,H3,I3,n3⟩:=q3;obtain⟨m',hm,w3⟩:=hN σ3 H3 n3;exact⟨m',hm,σ3,H3,I3,w3⟩
  |brk=>exact q3
  |ret v=>exact q3
 |false=>
  rw[pi zK];exact wpAny_execs_nil ⟨σ1,H2,I2,q2⟩
end
structure It where
 go:Nat→Hp→Prop
 yld:Nat→Hp→V→Hp→Prop
 stop:Nat→Hp→Prop
def dh(X:Cx)(CA:List (Addr×Obj))(H:Hp)(b:Addr):Prop:=
 H b=none∧b≠X.env.locals∧b∉X.fs∧(b∈X.ex∨X.s₀.heap.objs.size≤b)∧(∀x c,X.env.cells.lookup x=some c→c≠b)∧∀p∈X.pn++CA,p.1≠b
theorem Inv.fpOk{X:Cx}{CA:List (Addr×Obj)}{σ:St}{H H':Hp}{s:Shared}{b:Addr}(I:Inv X CA σ H s)(hb:s.heap.objs.size≤b)(hn:H' b=none):dh X CA H' b:=by
 refine⟨hn,AH (z6 I.lt hb),I.nofs hb,.inr (At I.sz hb),fun x c e z=>?_,fun p hp z=>?_⟩
 ·obtain⟨v,q⟩:=I.cell x c e;exact absurd (z6 q.lt (by rw[z];exact hb)) (Bd _)
 ·exact absurd (z6 (zN (I.pin p hp).1) (by rw[z];exact hb)) (Bd _)
structure Turn(P:Program)(w:World)(K:W.Frag)(tg:Expr)(J:It)(fp:List Addr)(it:Addr)(tn:Nat→Heap→Prop):Prop where
 mem:it∈fp
 obj:∀i h,tn i h→∀b∈fp,∃o,h.get? b=some o∧∀v,o.data≠.cell v
 keep:∀i h h',tn i h→(∀b∈fp,∀o,h.get? b=some o→h'.get? b=some o)→tn i h'
 item:∀(X:Cx),X.prog=P→X.w=w→X.K=K→X.calm=true→∀(i:Nat)(CA:List (Addr×Obj))(s:Shared)(σ:St)(H:Hp)(E:Value→Shared→Prop),Inv X CA σ H s→(∀b∈fp,dh X CA H b)→tn i s.heap→J.go i H→
  wpAny (model P w) X.A (pyNext (.ref it)) (fun r s1=>∃u,r=some u∧
   wpAny (model P w) X.A (letOwnedTupleGo tg (.ref it) u) (fun _ s2=>∃x H',Inv X CA σ H' s2∧RelV x u∧J.yld i H x H'∧tn (i+1) s2.heap∧∀b∈fp,H' b=none) E s1) E s
 done:∀(X:Cx),X.prog=P→X.w=w→X.K=K→X.calm=true→∀(i:Nat)(CA:List (Addr×Obj))(s:Shared)(σ:St)(H:Hp)(E:Value→Shared→Prop),Inv X CA σ H s→(∀b∈fp,dh X CA H b)→tn i s.heap→J.stop i H→
  wpAny (model P w) X.A (pyNext (.ref it)) (fun r s1=>r=none∧Inv X CA σ H s1) E s
 self:∀(A:Around)(i:Nat)(s:Shared)(Q:Value→Shared→Prop)(E:Value→Shared→Prop),tn i s.heap→Q (.ref it) s→wpAny (model P w) A (pyIter (.ref it)) Q E s
abbrev TI:=St→Hp→(It→Hp→Prop)→Prop
def PIE(X:Cx)(CA:List (Addr×Obj))(σ:St)(tg:Expr)(R:It→Hp→Prop)(itv:Value)(s2:Shared):Prop:=
 ∃(it:Addr)(fp:List Addr)(tn:Nat→Heap→Prop)(J:It)(H':Hp),itv=.ref it∧Inv X CA σ H' s2∧Turn X.prog X.w X.K tg J fp it tn∧tn 0 s2.heap∧(∀b∈fp,dh X CA H' b)∧R J H'
def PI(X:Cx)(tg iter:Expr)(wi:TI):Prop:=
 ∀(CA:List (Addr×Obj))(s:Shared)(σ:St)(H:Hp)(R:It→Hp→Prop),Inv X CA σ H s→wi σ H R→
  wpAny (model X.prog X.w) X.A (eval iter X.env) (fun v s1=>wpAny (model X.prog X.w) X.A (pyIter v) (PIE X CA σ tg R) X.xe s1) X.xe s
theorem kY{M:Model}{A:Around}{E:Value→Shared→Prop}{s:Shared}{tg:Expr}{it:Addr}{u:Value}{o:Obj}{n:String}{vs:Array Value}{Q:Unit→Shared→Prop}(ho:s.heap.get? it=some o)(hc:o.cls=.type n)(hd:o.data=.fields vs)(hn:["enumerate","zip","dict_itemiterator","dict_reverseitemiterator","odict_iterator","itertools.zip_longest","itertools.pairwise"].contains n=false)(hQ:Q () s):wpAny M A (letOwnedTupleGo tg (.ref it) u) Q E s:=by
 unfold letOwnedTupleGo;cases tg <;> first
  |exact zC hQ
  | (cases u <;> first
    |exact zC hQ
    | (refine ae (Cv ho ?_)
       rw[hc,hd];show wpAny M A (if (["enumerate","zip","dict_itemiterator","dict_reverseitemiterator","odict_iterator","itertools.zip_longest","itertools.pairwise"].contains n && vs[0]? == some (rawInt _))=true then _ else _) Q E s;rw[pi (by intro h;rw[hn,BY]at h;cases h)];exact zC hQ))
def Itl(K:W.Frag)(a:Addr):It:=
 ⟨fun i H=>∃xs x,SqL K H a xs∧xs[i]?=some x,fun i H x H'=>H'=H∧∀xs,SqL K H a xs→xs[i]?=some x,fun i H=>∃xs,SqL K H a xs∧xs.length≤i⟩
def Itt(K:W.Frag)(a:Addr):It:=
 ⟨fun i H=>∃xs x,SqT K H a xs∧xs[i]?=some x,fun i H x H'=>H'=H∧∀xs,SqT K H a xs→xs[i]?=some x,fun i H=>∃xs,SqT K H a xs∧xs.length≤i⟩
def Itr(lo:Int)(n:Nat):It:=⟨fun i _=>i<n,fun i H x H'=>H'=H∧x=.int (lo+i),fun i _=>n≤i⟩
theorem n_{P:Program}{w:World}{K:W.Frag}{tg:Expr}(a it:Addr):Turn P w K tg (Itl K a) [it] it (fun i h=>h.IsListIter it a i) where
 mem:=by simp
 obj:=fun i h st b hb=>by
  have e:b=it:=by simpa using hb
  subst e;obtain⟨o,e,c,d⟩:=st;exact⟨o,e,fun v z=>by rw[d]at z;cases z⟩
 keep:=fun i h h' st k=>st.at fun o e=>k it (by simp) o e
 item:=by
  intro X hP hw hK hc i CA s σ H E I hf st hg;subst hP hw hK;obtain⟨xs,x,hq,hx⟩:=hg;obtain⟨its,rv,p,hz⟩:=I.list hq;obtain⟨u,hu,ru⟩:=rv.get hx;obtain⟨f0,f1,f2,f3,f4,f5⟩:=hf it (by simp);refine wpAny_pyNext_list_item st p.isList (x:=u) (by simpa using hu) fun h' CP sb=>?_;have I1:Inv X CA σ H {s with heap:=h'}:=I.turned (t':=s.toks) (fun b o hb e=>(sb.2 b hb).trans e) f0 f1 f3 f4 f5;obtain⟨o,e,c,d⟩:=id CP;exact⟨u,rfl,kY (s:={s with heap:=h'}) e c d (by decide) ⟨x,H,I1,ru,⟨rfl,fun ys hy=>by rw[I.list_inj hy hq];exact hx⟩,CP,fun b hb=>(hf b hb).1⟩⟩
 done:=by
  intro X hP hw hK hc i CA s σ H E I hf st hg;subst hP hw hK;obtain⟨xs,hq,hx⟩:=hg;obtain⟨its,rv,p,hz⟩:=I.list hq;obtain⟨f0,f1,f2,f3,f4,f5⟩:=hf it (by simp);have hl:=rv.length;exact wpAny_pyNext_list_end (I.ok.hd hc) st p.isList (by simp;omega) fun h' eb=>⟨rfl,I.turned (t':=s.toks) (fun b o hb e=>eb b o hb e) f0 f1 f3 f4 f5⟩
 self:=fun _ _ _ _ _ st h=>wpAny_pyIter_listiter st h
theorem kN{P:Program}{w:World}{K:W.Frag}{tg:Expr}(a it:Addr):Turn P w K tg (Itt K a) [it] it (fun i h=>h.IsTupleIter it a i) where
 mem:=by simp
 obj:=fun i h st b hb=>by
  have e:b=it:=by simpa using hb
  subst e;obtain⟨o,e,c,d⟩:=st;exact⟨o,e,fun v z=>by rw[d]at z;cases z⟩
 keep:=fun i h h' st k=>st.at fun o e=>k it (by simp) o e
 item:=by
  intro X hP hw hK hc i CA s σ H E I hf st hg;subst hP hw hK;obtain⟨xs,x,hq,hx⟩:=hg;obtain⟨its,rv,p,hz⟩:=I.tuple hq;obtain⟨u,hu,ru⟩:=rv.get hx;obtain⟨f0,f1,f2,f3,f4,f5⟩:=hf it (by simp);refine wpAny_pyNext_tuple_item st (show s.heap.IsTuple a its.toArray from p) (x:=u) (by simpa using hu) fun h' CP sb=>?_;have I1:Inv X CA σ H {s with heap:=h'}:=I.turned (t':=s.toks) (fun b o hb e=>(sb.2 b hb).trans e) f0 f1 f3 f4 f5;obtain⟨o,e,c,d⟩:=id CP;exact⟨u,rfl,kY (s:={s with heap:=h'}) e c d (by decide) ⟨x,H,I1,ru,⟨rfl,fun ys hy=>by rw[I.tuple_inj hy hq];exact hx⟩,CP,fun b hb=>(hf b hb).1⟩⟩
 done:=by
  intro X hP hw hK hc i CA s σ H E I hf st hg;subst hP hw hK;obtain⟨xs,hq,hx⟩:=hg;obtain⟨its,rv,p,hz⟩:=I.tuple hq;obtain⟨f0,f1,f2,f3,f4,f5⟩:=hf it (by simp);have hl:=rv.length;exact wpAny_pyNext_tuple_end (I.ok.hd hc) st (show s.heap.IsTuple a its.toArray from p) (by simp;omega) fun h' eb=>⟨rfl,I.turned (t':=s.toks) (fun b o hb e=>eb b o hb e) f0 f1 f3 f4 f5⟩
 self:=fun _ _ _ _ _ st h=>wpAny_pyIter_tupleiter st h
theorem kB{P:Program}{w:World}{K:PySem.W.Frag}{tg:Expr}(it:Addr)(lo:Int)(n:Nat):Turn P w K tg (Itr lo n) [it] it (fun i h=>IsRangeIter h it (lo+(i:Nat)*1) ((n:Int)-(i:Nat)) 1) where
 mem:=by simp
 obj:=fun i h st b hb=>by
  have e:b=it:=by simpa using hb
  subst e;exact⟨_,st,fun v z=>by
   have z':Data.fields _=Data.cell v:=z;cases z'⟩
 keep:=fun i h h' st k=>k it (by simp) _ st
 item:=by
  intro X hP hw hK hc i CA s σ H E I hf st hg;subst hP hw hK;obtain⟨f0,f1,f2,f3,f4,f5⟩:=hf it (by simp);have W:=Walks.range (prog:=X.prog) (w:=X.w) (I.ok.hd hc) it lo 1 n;refine W.item i s _ _ hg st fun v h' tk hv CP kk=>?_;obtain⟨t,rfl⟩:=hv;have I1:Inv X CA σ H {s with heap:=h',toks:=tk}:=I.turned (fun b o hb e=>kk b o (by simpa using hb) e) f0 f1 f3 f4 f5;refine⟨_,rfl,kY (s:={s with heap:=h',toks:=tk}) (n:="range_iterator") CP rfl rfl (by decide) ⟨.int (lo+i),H,I1,⟨t,?_⟩,⟨rfl,rfl⟩,CP,fun b hb=>(hf b hb).1⟩⟩;rw[BG]
 done:=by
  intro X hP hw hK hc i CA s σ H E I hf st hg;subst hP hw hK;obtain⟨f0,f1,f2,f3,f4,f5⟩:=hf it (by simp);exact wpAny_pyNext_range_end (I.ok.hd hc) st (by have:n≤i:=hg;omega) fun h' eb=>⟨rfl,I.turned (t':=s.toks) (fun b o hb e=>eb b o hb e) f0 f1 f3 f4 f5⟩
 self:=fun _ _ _ _ _ st h=>wpAny_pyIter_rangeiter st h
section
variable{X:Cx}{tg:Expr}
def yO(K:W.Frag)(tl:TE):TI:=fun σ H R=>tl σ H fun x H1=>∃a,x=.ref a∧(∃xs,SqL K H1 a xs)∧R (Itl K a) H1
def iTup(K:W.Frag)(tl:TE):TI:=fun σ H R=>tl σ H fun x H1=>∃a,x=.ref a∧(∃xs,SqT K H1 a xs)∧R (Itt K a) H1
theorem Yw{l:Expr}{tl:TE}(hl:PE X l tl):PI X tg l (yO X.K tl):=by
 intro CA s σ H R I h;refine thn (hl CA s σ H _ I h) fun v s1 CB=>?_;obtain⟨x,H1,I1,r1,q1⟩:=CB;obtain⟨a,e,⟨xs,hq⟩,q⟩:=q1;subst e;cases r1;obtain⟨its,rv,p,hz⟩:=I1.list hq;refine wpAny_pyIter_list p.isList ?_;refine⟨s1.heap.objs.size,[s1.heap.objs.size],_,_,H1,rfl,I1.kept (t':=s1.toks) fun b o e=>io _ e,n_ a _,⟨_,zY _ rfl,rfl,rfl⟩,fun b hb=>?_,q⟩;have e:b=s1.heap.objs.size:=by simpa using hb
 subst e;exact I1.fpOk (zD _) (I1.hok.fresh (zD _))
theorem P2{l:Expr}{tl:TE}(hl:PE X l tl):PI X tg l (iTup X.K tl):=by
 intro CA s σ H R I h;refine thn (hl CA s σ H _ I h) fun v s1 CB=>?_;obtain⟨x,H1,I1,r1,q1⟩:=CB;obtain⟨a,e,⟨xs,hq⟩,q⟩:=q1;subst e;cases r1;obtain⟨its,rv,p,hz⟩:=I1.tuple hq;refine wpAny_pyIter_tuple (show s1.heap.IsTuple a its.toArray from p) ?_;refine⟨s1.heap.objs.size,[s1.heap.objs.size],_,_,H1,rfl,I1.kept (t':=s1.toks) fun b o e=>io _ e,kN a _,⟨_,zY _ rfl,rfl,rfl⟩,fun b hb=>?_,q⟩;have e:b=s1.heap.objs.size:=by simpa using hb
 subst e;exact I1.fpOk (zD _) (I1.hok.fresh (zD _))
theorem i_{CA:List (Addr×Obj)}{σ:St}{H:Hp}{s:Shared}{R:It→Hp→Prop}{E:Value→Shared→Prop}{lo hi:Int}{t u v:Tok}{tk:Nat}(I:Inv X CA σ H s)(h1:-(2^62)≤lo)(h2:lo<2^62)(h3:-(2^62)≤hi)(h4:hi<2^62)(q:R (Itr lo (hi-lo).toNat) H):wpAny (model X.prog X.w) X.A (pyIter (.ref s.heap.objs.size)) (PIE X CA σ tg R) E {s with heap:=s.heap.push {cls:=.type "range",data:=.fields #[.int lo t,.int hi u,.int 1 v]},toks:=tk}:=by
 refine wpAny_pyIter_range (IsRange.new ..) (small_one h1 h2 h3 h4) ?_;have I1:Inv X CA σ H {s with heap:=s.heap.push {cls:=.type "range",data:=.fields #[.int lo t,.int hi u,.int 1 v]},toks:=tk}:=I.kept fun b o e=>io _ e;refine⟨(s.heap.push {cls:=.type "range",data:=.fields #[.int lo t,.int hi u,.int 1 v]}).objs.size,[(s.heap.push {cls:=.type "range",data:=.fields #[.int lo t,.int hi u,.int 1 v]}).objs.size],_,_,H,rfl,
  I1.kept (t':=tk) fun b o e=>io _ e,kB _ lo (hi-lo).toNat,?_,fun b hb=>?_,q⟩
 ·have e1:lo+((0:Nat):Int)*1=lo:=by simp
  have e2:(((hi-lo).toNat:Nat):Int)-((0:Nat):Int)=Builtin.Range.rangeSize lo hi 1:=by rw[rangeSize_one];split <;> omega
  show IsRangeIter _ _ (lo+((0:Nat):Int)*1) ((((hi-lo).toNat:Nat):Int)-((0:Nat):Int)) 1;rw[e1,e2];exact zY _ rfl
 ·have e:b=(s.heap.push {cls:=.type "range",data:=.fields #[.int lo t,.int hi u,.int 1 v]}).objs.size:=by simpa using hb
  subst e;exact I1.fpOk (zD _) (I1.hok.fresh (zD _))
def zn(ta:TA):TI:=fun σ H R=>ta σ H fun vs H1=>∃j:Int,vs=[.int j]∧-(2^62)≤j∧j<2^62∧R (Itr 0 j.toNat) H1
def x4(ta:TA):TI:=fun σ H R=>ta σ H fun vs H1=>∃i j:Int,vs=[.int i,.int j]∧(-(2^62)≤i∧i<2^62∧-(2^62)≤j∧j<2^62)∧R (Itr i (j-i).toNat) H1
theorem Uz{a:Expr}{ta:TA}{p pos:Pos}(hg:Gl X "range")(hm:X.mg "range"=none)(ha:PA X [a] ta)(hs:starEach [a] X.env=[(false,eval a X.env)]:=by rfl):PI X tg (.Call (.Name "range" p) [a] [] pos) (zn ta):=by
 intro CA s σ H R I h;refine Call_ (Pi I hg hm boot_range (PyProof.Rows.callWith_type1 (thn (ha pos CA s σ H _ I h) fun us s1 ⟨vs,H1,I1,r1,q1⟩=>?_) hs rfl));obtain⟨j,e,q1,q2,q⟩:=q1;subst e;cases r1 with
 |cons r rr=>
  cases rr;obtain⟨t,rfl⟩:=r;exact call_range_1 (i_ I1 (by omega) (by omega) q1 q2 (by simpa using q))
theorem nM{a b:Expr}{ta:TA}{p pos:Pos}(hg:Gl X "range")(hm:X.mg "range"=none)(ha:PA X [a,b] ta)(hs:starEach [a,b] X.env=[(false,eval a X.env),(false,eval b X.env)]:=by rfl)(hs2:starEach [b] X.env=[(false,eval b X.env)]:=by rfl):
  PI X tg (.Call (.Name "range" p) [a,b] [] pos) (x4 ta):=by
 intro CA s σ H R I h;refine Call_ (Pi I hg hm boot_range (PyProof.Rows.callWith_type1 (thn (ha pos CA s σ H _ I h) fun us s1 ⟨vs,H1,I1,r1,q1⟩=>?_) (by rw[hs,hs2]) (by rw[hs2];rfl)));obtain⟨i,j,e,⟨q1,q2,q3,q4⟩,q⟩:=q1;subst e;cases r1 with
 |cons r rr=>
  cases rr with
  |cons r' rr=>
   cases rr;obtain⟨t,rfl⟩:=r;obtain⟨t',rfl⟩:=r';exact call_range_2 (i_ I1 q1 q2 q3 q4 q)
def tFor(wi:TI)(g:TG)(tb:TS):TS:=fun D σ H=>wi σ H fun J H1=>∃W:Nat→Nat→St→Hp→Prop,(∃m,W 0 m σ H1)∧∀i m σ H,W i m σ H→
 (J.stop i H∧D.nx σ H)∨(J.go i H∧∃N:St→Hp→Prop,(∀σ' H',N σ' H'→∃m',m'<m∧W (i+1) m' σ' H')∧∀x H',J.yld i H x H'→g x σ H' fun σ2 H2=>tb {D with nx:=N,ct:=N,bk:=D.nx} σ2 H2)
def eP(fp:List Addr)(h:Heap):List (Addr×Obj):=fp.filterMap fun b=>(h.get? b).map fun o=>(b,o)
theorem U7{fp:List Addr}{h:Heap}{b:Addr}{o:Obj}(hb:b∈fp)(e:h.get? b=some o):(b,o)∈eP fp h:=Bm.mpr ⟨b,hb,by rw[e];rfl⟩
theorem nZ{fp:List Addr}{h:Heap}{p:Addr×Obj}(hp:p∈eP fp h):p.1∈fp∧h.get? p.1=some p.2:=by
 obtain⟨b,hb,e⟩:=Bm.mp hp;cases q:h.get? b with
 |none=>rw[q]at e;cases e
 |some o=>
  rw[q]at e;have e':(b,o)=p:=Aa e;subst e';exact⟨hb,q⟩
theorem Inv.pinned{CA:List (Addr×Obj)}{σ:St}{H:Hp}{s:Shared}{fp:List Addr}(I:Inv X CA σ H s)(hf:∀b∈fp,dh X CA H b)(ho:∀b∈fp,∃o,s.heap.get? b=some o∧∀v,o.data≠.cell v):Inv X (CA++eP fp s.heap) σ H s:=
 I.pins_of fun p hp=>(zT.mp hp).elim (fun z=>I.pin p (zR _ z)) fun z=>by
  obtain⟨hb,e⟩:=nZ z;obtain⟨f0,f1,f2,_⟩:=hf p.1 hb;obtain⟨o,e',d⟩:=ho p.1 hb;rw[e]at e';cases e';exact⟨e,f0,f1,f2,d⟩
theorem Inv.unpinned{CA pl:List (Addr×Obj)}{σ:St}{H:Hp}{s:Shared}(I:Inv X (CA++pl) σ H s):Inv X CA σ H s:=I.pins_of fun p hp=>I.pin p (zR _ (Ai _ hp))
theorem X8{iter:Expr}{body:List Stmt}{wi:TI}{g:TG}{tb:TS}{pos:Pos}(hp:PassesOwn (model X.prog X.w) X.A X.env X.xe)(hc:X.calm=true)(hi:PI X tg iter wi)(hg:PG X tg g)(hb:PSs X body tb)(hs:∀x,foldedSetIterable iter X.env x=pure x:=by intro _;rfl):PS X (.For tg iter body [] pos) (tFor wi g tb):=by
 intro CA s σ H D I h;refine wpAny_For (thn (hi CA s σ H _ I h) fun v s1 h1=>thn h1 fun itv s2 h2=>?_) hs;obtain⟨it,fp,tn,J,H2,e,I2,T,st2,f2,W,⟨m0,w0⟩,turn⟩:=h2;subst e;have stat:∀{H':Hp},(∀b∈fp,H' b=none)→∀b∈fp,dh X CA H' b:=fun hn b hb=>⟨hn b hb,(f2 b hb).2⟩;refine codeAny_forLoop_any (fun n s'=>∃i σ' H',Inv X CA σ' H' s'∧tn i s'.heap∧(∀b∈fp,H' b=none)∧W i n σ' H') ?_ m0 ⟨0,σ,H2,I2,st2,fun b hb=>(f2 b hb).1,w0⟩;rintro n s3 ⟨i,σ3,H3,I3,st3,fr3,w3⟩
 rcases turn i n σ3 H3 w3 with⟨stop,qn⟩|⟨go,N,hN,step⟩
 ·refine BR hp (thn (T.done X rfl rfl rfl hc i CA s3 σ3 H3 X.xe I3 (stat fr3) st3 stop) fun r s4 CB=>?_);obtain⟨hr,I4⟩:=CB;subst hr;exact wpAny_execs_nil ⟨σ3,H3,I4,qn⟩
 ·refine BR hp (thn (T.item X rfl rfl rfl hc i CA s3 σ3 H3 X.xe I3 (stat fr3) st3 go) fun r s4 CB=>?_);obtain⟨u,hr,h4⟩:=CB;subst hr;refine BR hp (thn h4 fun _ s5 CB=>?_);obtain⟨x,H5,I5,r5,y5,st5,fr5⟩:=CB;have I5':=I5.pinned (stat fr5) (T.obj _ _ st5);refine BR hp (thn (hg _ s5 σ3 H5 x u _ I5' r5 (step x H5 y5)) fun _ s6 CB=>?_);obtain⟨σ6,H6,I6,q6⟩:=CB;refine BR hp (thn (hb _ s6 σ6 H6 _ I6 q6) fun f s7 q7=>?_);have again:∀{σ7:St}{H7:Hp},Inv X (CA++eP fp s5.heap) σ7 H7 s7→N σ7 H7→∃m,m<n∧∃i σ' H',Inv X CA σ' H' s7∧tn i s7.heap∧(∀b∈fp,H' b=none)∧W i m σ' H':=fun{σ7 H7} I7 n7=>by
   obtain⟨m',hm,w7⟩:=hN σ7 H7 n7;refine⟨m',hm,i+1,σ7,H7,I7.unpinned,T.keep _ _ _ st5 fun b hb o e=>(I7.pin (b,o) (zR _ (zR _ (U7 hb e)))).1,fun b hb=>?_,w7⟩;obtain⟨o,e,d⟩:=T.obj _ _ st5 b hb;exact(I7.pin (b,o) (zR _ (zR _ (U7 hb e)))).2.1
  cases f with
  |next=>obtain⟨σ7,H7,I7,n7⟩:=q7;exact again I7 n7
  |cont=>obtain⟨σ7,H7,I7,n7⟩:=q7;exact again I7 n7
  |brk=>obtain⟨σ7,H7,I7,q7⟩:=q7;exact⟨σ7,H7,I7.unpinned,q7⟩
  |ret v=>obtain⟨x7,σ7,H7,I7,r7,q7⟩:=q7;exact⟨x7,σ7,H7,I7.unpinned,r7,q7⟩
end
theorem Pq{K:PySem.W.Frag}{a:Addr}{xs:List V}{g:TG}{tb:TS}{D:Ends}{σ:St}{H:Hp}(Pv:Nat→St→Hp→Prop)(h0:Pv 0 σ H)(hl:∀i σ H,i≤xs.length→Pv i σ H→SqL K H a xs)(hs:∀i x σ H,xs[i]?=some x→Pv i σ H→g x σ H fun σ2 H2=>tb {D with nx:=Pv (i+1),ct:=Pv (i+1),bk:=D.nx} σ2 H2)(hd:∀σ H,Pv xs.length σ H→D.nx σ H):
  ∃W:Nat→Nat→St→Hp→Prop,(∃m,W 0 m σ H)∧∀i m σ H,W i m σ H→
   ((Itl K a).stop i H∧D.nx σ H)∨((Itl K a).go i H∧∃N:St→Hp→Prop,(∀σ' H',N σ' H'→∃m',m'<m∧W (i+1) m' σ' H')∧∀x H',(Itl K a).yld i H x H'→g x σ H' fun σ2 H2=>tb {D with nx:=N,ct:=N,bk:=D.nx} σ2 H2):=by
 refine⟨fun i m σ H=>m=xs.length-i∧i≤xs.length∧Pv i σ H,⟨xs.length,by simp,Nat.zero_le _,h0⟩,?_⟩;rintro i m σ H ⟨rfl,hi,p⟩;have q:=hl i σ H hi p;by_cases CI:i<xs.length
 ·refine .inr ⟨⟨xs,xs[i],q,by simp[CI]⟩,Pv (i+1),fun σ' H' p'=>⟨xs.length-(i+1),by omega,rfl,CI,p'⟩,fun x H' y=>?_⟩;obtain⟨e,y⟩:=y;subst e;exact hs i x σ _ (y xs q) p
 ·have e:i=xs.length:=by omega
  subst e;exact .inl ⟨⟨xs,q,zD _⟩,hd σ H p⟩
theorem tD{K:PySem.W.Frag}{a:Addr}{xs:List V}{g:TG}{tb:TS}{D:Ends}{σ:St}{H:Hp}(Pv:Nat→St→Hp→Prop)(h0:Pv 0 σ H)(hl:∀i σ H,i≤xs.length→Pv i σ H→SqT K H a xs)(hs:∀i x σ H,xs[i]?=some x→Pv i σ H→g x σ H fun σ2 H2=>tb {D with nx:=Pv (i+1),ct:=Pv (i+1),bk:=D.nx} σ2 H2)(hd:∀σ H,Pv xs.length σ H→D.nx σ H):
  ∃W:Nat→Nat→St→Hp→Prop,(∃m,W 0 m σ H)∧∀i m σ H,W i m σ H→
   ((Itt K a).stop i H∧D.nx σ H)∨((Itt K a).go i H∧∃N:St→Hp→Prop,(∀σ' H',N σ' H'→∃m',m'<m∧W (i+1) m' σ' H')∧∀x H',(Itt K a).yld i H x H'→g x σ H' fun σ2 H2=>tb {D with nx:=N,ct:=N,bk:=D.nx} σ2 H2):=by
 refine⟨fun i m σ H=>m=xs.length-i∧i≤xs.length∧Pv i σ H,⟨xs.length,by simp,Nat.zero_le _,h0⟩,?_⟩;rintro i m σ H ⟨rfl,hi,p⟩;have q:=hl i σ H hi p;by_cases CI:i<xs.length
 ·refine .inr ⟨⟨xs,xs[i],q,by simp[CI]⟩,Pv (i+1),fun σ' H' p'=>⟨xs.length-(i+1),by omega,rfl,CI,p'⟩,fun x H' y=>?_⟩;obtain⟨e,y⟩:=y;subst e;exact hs i x σ _ (y xs q) p
 ·have e:i=xs.length:=by omega
  subst e;exact .inl ⟨⟨xs,q,zD _⟩,hd σ H p⟩
theorem oJ{lo:Int}{n:Nat}{g:TG}{tb:TS}{D:Ends}{σ:St}{H:Hp}(Pv:Nat→St→Hp→Prop)(h0:Pv 0 σ H)(hs:∀i σ H,i<n→Pv i σ H→g (.int (lo+i)) σ H fun σ2 H2=>tb {D with nx:=Pv (i+1),ct:=Pv (i+1),bk:=D.nx} σ2 H2)(hd:∀σ H,Pv n σ H→D.nx σ H):
  ∃W:Nat→Nat→St→Hp→Prop,(∃m,W 0 m σ H)∧∀i m σ H,W i m σ H→
   ((Itr lo n).stop i H∧D.nx σ H)∨((Itr lo n).go i H∧∃N:St→Hp→Prop,(∀σ' H',N σ' H'→∃m',m'<m∧W (i+1) m' σ' H')∧∀x H',(Itr lo n).yld i H x H'→g x σ H' fun σ2 H2=>tb {D with nx:=N,ct:=N,bk:=D.nx} σ2 H2):=by
 refine⟨fun i m σ H=>m=n-i∧i≤n∧Pv i σ H,⟨n,by simp,Nat.zero_le _,h0⟩,?_⟩;rintro i m σ H ⟨rfl,hi,p⟩;by_cases CI:i<n
 ·refine .inr ⟨CI,Pv (i+1),fun σ' H' p'=>⟨n-(i+1),by omega,rfl,CI,p'⟩,fun x H' y=>?_⟩;obtain⟨e,y⟩:=y;subst e y;exact hs i σ _ CI p
 ·have e:i=n:=by omega
  subst e;exact .inl ⟨zD _,hd σ H p⟩
theorem qB{c:TT}{tb:TS}{D:Ends}{σ:St}{H:Hp}(Pv:St→Hp→Prop)(μ:St→Hp→Nat)(h0:Pv σ H)(hs:∀σ H,Pv σ H→c σ H fun b H1=>if b=true then tb {D with nx:=fun σ' H'=>Pv σ' H'∧μ σ' H'<μ σ H,ct:=fun σ' H'=>Pv σ' H'∧μ σ' H'<μ σ H,bk:=D.nx} σ H1 else D.nx σ H1)(mono:∀σ H Q Q',(∀b H1,Q b H1→Q' b H1)→c σ H Q→c σ H Q'):pW c tb D σ H:=by
 refine⟨fun m σ H=>m=μ σ H∧Pv σ H,⟨_,rfl,h0⟩,?_⟩;rintro m σ H ⟨rfl,p⟩;refine mono σ H _ _ (fun b H1 q=>?_) (hs σ H p);cases b with
 |true=>exact⟨_,fun σ' H' ⟨p',l⟩=>⟨_,l,rfl,p'⟩,q⟩
 |false=>exact q
abbrev R2:=V→V→Hp→VK→Prop
def OpR(X:Cx)(f:Value→Value→Sem Value)(r:R2):Prop:=
 ∀(CA:List (Addr×Obj))(s:Shared)(σ:St)(H:Hp)(x y:V)(v u:Value)(Q:VK),Inv X CA σ H s→RelV x v→RelV y u→r x y H Q→
  wpAny (model X.prog X.w) X.A (f v u) (EP X CA σ Q) X.xe s
def bN(X:Cx)(f:Value)(r:List V→Hp→VK→Prop):Prop:=
 ∀(CA:List (Addr×Obj))(s:Shared)(σ:St)(H:Hp)(xs:List V)(us:List Value)(Q:VK),Inv X CA σ H s→Vals xs us→r xs H Q→
  wpAny (model X.prog X.w) X.A (call f us) (EP X CA σ Q) X.xe s
def tOp(r:R2)(ta tb:TE):TE:=fun σ H Q=>ta σ H fun x H1=>tb σ H1 fun y H2=>r x y H2 Q
def rI(C:Int→Int→Prop)(g:Int→Int→V):R2:=fun x y H Q=>∃i j,x=.int i∧y=.int j∧C i j∧Q (g i j) H
def rI0(g:Int→Int→V):R2:=fun x y H Q=>∃i j,x=.int i∧y=.int j∧Q (g i j) H
section
variable{X:Cx}{a b c:Expr}{ta tb tc:TE}{pos:Pos}
theorem wb(ha:PE X a ta)(hb:PE X b tb){CA:List (Addr×Obj)}{s:Shared}{σ:St}{H:Hp}{R:V→V→Hp→Prop}(I:Inv X CA σ H s)(h:ta σ H fun x H1=>tb σ H1 fun y H2=>R x y H2){Q:Value→Shared→Prop}{f:Value→Value→Sem Value}(hf:∀v u s2 x y H2,Inv X CA σ H2 s2→RelV x v→RelV y u→R x y H2→wpAny (model X.prog X.w) X.A (f v u) Q X.xe s2):
  wpAny (model X.prog X.w) X.A (eval a X.env) (fun v s₁=>wpAny (model X.prog X.w) X.A (eval b X.env) (fun u s₂=>wpAny (model X.prog X.w) X.A (f v u) Q X.xe s₂) X.xe s₁) X.xe s:=by
 refine thn (ha CA s σ H _ I h) fun v s1 CB=>?_;obtain⟨x,H1,I1,r1,q1⟩:=CB;refine thn (hb CA s1 σ H1 _ I1 q1) fun u s2 CB=>?_;obtain⟨y,H2,I2,r2,q2⟩:=CB;exact hf v u s2 x y H2 I2 r1 r2 q2
theorem Ze{op:Operator}{r:R2}(ho:OpR X (binaryOp op) r)(ha:PE X a ta)(hb:PE X b tb):PE X (.BinOp a op b pos) (tOp r ta tb):=by
 intro CA s σ H Q I h;exact wpAny_BinOp (wb ha hb I h fun v u s2 x y H2 I2 rx ry q=>ho CA s2 σ H2 x y v u Q I2 rx ry q)
theorem opI{f:Value→Value→Sem Value}{C:Int→Int→Prop}{g:Int→Int→Int}(rule:∀(i j:Int) (t u:Tok) (s:Shared) (Q:Value→Shared→Prop) (E:Value→Shared→Prop),C i j→Q (.int (g i j) s.toks) {s with toks:=s.toks+1}→wpAny (model X.prog X.w) X.A (f (.int i t) (.int j u)) Q E s):
  OpR X f (rI C fun i j=>.int (g i j)):=by
 intro CA s σ H x y v u Q I rx ry h;obtain⟨i,j,rfl,rfl,hc,q⟩:=h;obtain⟨t,rfl⟩:=rx;obtain⟨t',rfl⟩:=ry;exact rule i j t t' s _ _ hc ⟨.int (g i j),H,I.tok _,⟨_,rfl⟩,q⟩
theorem yb{f:Value→Value→Sem Value}{g:Int→Int→Int}(rule:∀(i j:Int) (t u:Tok) (s:Shared) (Q:Value→Shared→Prop) (E:Value→Shared→Prop),Q (.int (g i j) s.toks) {s with toks:=s.toks+1}→wpAny (model X.prog X.w) X.A (f (.int i t) (.int j u)) Q E s):
  OpR X f (rI0 fun i j=>.int (g i j)):=by
 intro CA s σ H x y v u Q I rx ry h;obtain⟨i,j,rfl,rfl,q⟩:=h;obtain⟨t,rfl⟩:=rx;obtain⟨t',rfl⟩:=ry;exact rule i j t t' s _ _ ⟨.int (g i j),H,I.tok _,⟨_,rfl⟩,q⟩
theorem r8{f:Value→Value→Sem Value}{g:Int→Int→Bool}(rule:∀(i j:Int) (t u:Tok) (s:Shared) (Q:Value→Shared→Prop) (E:Value→Shared→Prop),Q (.bool (g i j)) s→wpAny (model X.prog X.w) X.A (f (.int i t) (.int j u)) Q E s):
  OpR X f (rI0 fun i j=>.bl (g i j)):=by
 intro CA s σ H x y v u Q I rx ry h;obtain⟨i,j,rfl,rfl,q⟩:=h;obtain⟨t,rfl⟩:=rx;obtain⟨t',rfl⟩:=ry;exact rule i j t t' s _ _ ⟨.bl (g i j),H,I,rfl,q⟩
def y4(i j:Int):Prop:=0<j∧j<1073741824
def v5(i j:Int):Prop:=0≤j∧j≤1000000∧i.natAbs<2^64
def CMul(i j:Int):Prop:=(-(2^64)<i∧i<2^64)∨(-(2^64)<j∧j<2^64)
theorem CMul.ok{i j:Int}(h:CMul i j):IntMulOk i j:=by
 rcases h with⟨h1,h2⟩|⟨h1,h2⟩
 ·exact .of_left (intBits_le_64 h1 h2)
 ·exact .of_right (intBits_le_64 h1 h2)
theorem jY(k:Nat):(0:Int)≤2^k:=by
 rw[two_pow_cast];exact Int.natCast_nonneg _
theorem Zu:OpR X (binaryOp .Add) (rI0 fun i j=>.int (i+j)):=yb fun _ _ _ _ _ _ _ q=>add_int q
theorem Xl:OpR X (binaryOp .Sub) (rI0 fun i j=>.int (i-j)):=yb fun _ _ _ _ _ _ _ q=>sub_int q
theorem Vg:OpR X (binaryOp .Mult) (rI CMul fun i j=>.int (i*j)):=opI fun _ _ _ _ _ _ _ hc q=>mul_int q hc.ok
theorem T3:OpR X (binaryOp .FloorDiv) (rI y4 fun i j=>.int (i / j)):=opI fun i j _ _ _ _ _ hc q=>by
 have h1:(0:Int)<j:=hc.1;have h2:j<1073741824:=hc.2;exact floordiv_int (by omega) (by rw[Int.fdiv_eq_ediv_of_nonneg i (by omega)];exact q) (.inl (PyProof.noPylong_small (by omega)))
theorem W0:OpR X (binaryOp .Mod) (rI (fun _ j=>0<j) fun i j=>.int (i % j)):=opI fun i j _ _ _ _ _ hc q=>by
 have h1:(0:Int)<j:=hc;exact mod_int' (by omega) (by rw[Int.fmod_eq_emod_of_nonneg i (by omega)];exact q)
theorem jX:OpR X (binaryOp .Pow) (rI v5 fun i j=>.int (i^j.toNat)):=opI fun _ _ _ _ _ _ _ hc q=>pow_int_small hc.1 hc.2.1 hc.2.2 q
theorem Tq:OpR X (binaryOp .LShift) (rI v5 fun i j=>.int (i*2^j.toNat)):=opI fun _ _ _ _ _ _ _ hc q=>lshift_int_small hc.1 hc.2.1 hc.2.2 q
theorem qA:OpR X (binaryOp .RShift) (rI (fun _ j=>0≤j) fun i j=>.int (i / 2^j.toNat)):=opI fun i j _ _ _ _ _ hc q=>
 rshift_int hc (by rw[Int.fdiv_eq_ediv_of_nonneg i (jY _)];exact q)
end
def yG:V→V→Bool
 |.non,.non=>true | .non,.int _=>true | .int _,.non=>true | .non,.bl _=>true | .bl _,.non=>true | .non,.str _=>true | .str _,.non=>true
 |.int _,.int _=>true | .bl _,.bl _=>true | .str _,.str _=>true | .byt _,.byt _=>true
 |.int _,.str _=>true | .str _,.int _=>true | .bl _,.str _=>true | .str _,.bl _=>true
 |_,_=>false
def rEq:R2:=fun x y H Q=>yG x y=true∧Q (.bl (decide (x=y))) H
def rNe:R2:=fun x y H Q=>yG x y=true∧Q (.bl (!decide (x=y))) H
theorem m5{i j:Int}:decide (V.int i=V.int j)=(i==j):=by
 rw[AN];simp
theorem pO{i j:Bool}:decide (V.bl i=V.bl j)=(i==j):=by
 rw[AN];simp
theorem ma{i j:Str}:decide (V.str i=V.str j)=(i==j):=by
 rw[AN];simp
theorem lq{i j:Array UInt8}:decide (V.byt i=V.byt j)=(i.toList==j.toList):=by
 rw[AN];cases i;cases j;simp
section
variable{X:Cx}{a b c:Expr}{ta tb tc:TE}{pos:Pos}
theorem Zz{CA:List (Addr×Obj)}{σ:St}{H:Hp}{s:Shared}{Q:VK}{k k':Bool}(I:Inv X CA σ H s)(q:Q (.bl k) H)(e:k=k'):EP X CA σ Q (.bool k') s:=by
 subst e;exact⟨.bl k,H,I,rfl,q⟩
theorem Sj:OpR X (compareOp .Eq) rEq:=by
 intro CA s σ H x y v u Q I rx ry h;obtain⟨hs,q⟩:=h;cases x with
 |non=>
  cases rx;cases y with
  |non=>cases ry;exact PySem.EqNone.eq_none_none (Zz I q (by simp))
  |bl j=>cases ry;exact PySem.EqNone.eq_none_bool (Zz I q (by simp))
  |int j=>obtain⟨t',rfl⟩:=ry;exact PySem.EqNone.eq_none_int (Zz I q (by simp))
  |str j=>obtain⟨t',rfl⟩:=ry;exact PySem.EqNone.eq_none_str (Zz I q (by simp))
  |_=>exact absurd (show false=true from hs) zK
 |bl i=>
  cases rx;cases y with
  |non=>cases ry;exact PySem.EqNone.eq_bool_none (Zz I q (by simp))
  |bl j=>cases ry;exact eq_bool (Zz I q pO)
  |str j=>obtain⟨t',rfl⟩:=ry;exact PySem.EqMixed.eq_bool_str (Zz I q (by simp))
  |_=>exact absurd (show false=true from hs) zK
 |int i=>
  obtain⟨t,rfl⟩:=rx;cases y with
  |non=>cases ry;exact PySem.EqNone.eq_int_none (Zz I q (by simp))
  |int j=>obtain⟨t',rfl⟩:=ry;exact eq_int (Zz I q m5)
  |str j=>obtain⟨t',rfl⟩:=ry;exact PySem.EqMixed.eq_int_str (Zz I q (by simp))
  |_=>exact absurd (show false=true from hs) zK
 |str i=>
  obtain⟨t,rfl⟩:=rx;cases y with
  |non=>cases ry;exact PySem.EqNone.eq_str_none (Zz I q (by simp))
  |bl j=>cases ry;exact PySem.EqMixed.eq_str_bool (Zz I q (by simp))
  |int j=>obtain⟨t',rfl⟩:=ry;exact PySem.EqMixed.eq_str_int (Zz I q (by simp))
  |str j=>obtain⟨t',rfl⟩:=ry;exact eq_str (Zz I q ma)
  |_=>exact absurd (show false=true from hs) zK
 |byt i=>
  obtain⟨t,rfl⟩:=rx;cases y with
  |byt j=>obtain⟨t',rfl⟩:=ry;exact W.eq_bytes (Zz I q lq)
  |_=>exact absurd (show false=true from hs) zK
 |_=>cases y <;> exact absurd (show false=true from hs) zK
theorem P5:OpR X (compareOp .NotEq) rNe:=by
 intro CA s σ H x y v u Q I rx ry h;obtain⟨hs,q⟩:=h;cases x with
 |non=>
  cases rx;cases y with
  |non=>cases ry;exact PySem.EqNone.ne_none_none (Zz I q (by simp))
  |bl j=>cases ry;exact PySem.EqNone.ne_none_bool (Zz I q (by simp))
  |int j=>obtain⟨t',rfl⟩:=ry;exact PySem.EqNone.ne_none_int (Zz I q (by simp))
  |str j=>obtain⟨t',rfl⟩:=ry;exact PySem.EqNone.ne_none_str (Zz I q (by simp))
  |_=>exact absurd (show false=true from hs) zK
 |bl i=>
  cases rx;cases y with
  |non=>cases ry;exact PySem.EqNone.ne_bool_none (Zz I q (by simp))
  |bl j=>cases ry;exact ne_bool (Zz I q (AX not pO))
  |str j=>obtain⟨t',rfl⟩:=ry;exact PySem.EqMixed.ne_bool_str (Zz I q (by simp))
  |_=>exact absurd (show false=true from hs) zK
 |int i=>
  obtain⟨t,rfl⟩:=rx;cases y with
  |non=>cases ry;exact PySem.EqNone.ne_int_none (Zz I q (by simp))
  |int j=>obtain⟨t',rfl⟩:=ry;exact ne_int (Zz I q (AX not m5))
  |str j=>obtain⟨t',rfl⟩:=ry;exact PySem.EqMixed.ne_int_str (Zz I q (by simp))
  |_=>exact absurd (show false=true from hs) zK
 |str i=>
  obtain⟨t,rfl⟩:=rx;cases y with
  |non=>cases ry;exact PySem.EqNone.ne_str_none (Zz I q (by simp))
  |bl j=>cases ry;exact PySem.EqMixed.ne_str_bool (Zz I q (by simp))
  |int j=>obtain⟨t',rfl⟩:=ry;exact PySem.EqMixed.ne_str_int (Zz I q (by simp))
  |str j=>obtain⟨t',rfl⟩:=ry;exact ne_str (Zz I q (AX not ma))
  |_=>exact absurd (show false=true from hs) zK
 |byt i=>
  obtain⟨t,rfl⟩:=rx;cases y with
  |byt j=>obtain⟨t',rfl⟩:=ry;exact W.ne_bytes (Zz I q (AX not lq))
  |_=>exact absurd (show false=true from hs) zK
 |_=>cases y <;> exact absurd (show false=true from hs) zK
theorem Rr:OpR X (compareOp .Lt) (rI0 fun i j=>.bl (decide (i<j))):=r8 fun _ _ _ _ _ _ _ q=>lt_int q
theorem uR:OpR X (compareOp .LtE) (rI0 fun i j=>.bl (decide (i≤j))):=r8 fun _ _ _ _ _ _ _ q=>le_int q
theorem Rt:OpR X (compareOp .Gt) (rI0 fun i j=>.bl (decide (j<i))):=r8 fun _ _ _ _ _ _ _ q=>gt_int q
theorem jd:OpR X (compareOp .GtE) (rI0 fun i j=>.bl (decide (j≤i))):=r8 fun _ _ _ _ _ _ _ q=>ge_int q
theorem P6:OpR X (compareOp .Is) (fun x y H Q=>y=.non∧Q (.bl (decide (x=.non))) H):=by
 intro CA s σ H x y v u Q I rx ry h;obtain⟨rfl,q⟩:=h;cases ry;refine is_none_gen (Zz I q ?_);cases x <;> first
  | (cases rx;rfl)
  | (obtain⟨t,rfl⟩:=rx;rfl)
theorem Si:OpR X (compareOp .IsNot) (fun x y H Q=>y=.non∧Q (.bl (!decide (x=.non))) H):=by
 intro CA s σ H x y v u Q I rx ry h;obtain⟨rfl,q⟩:=h;cases ry;refine isnot_none_gen (Zz I q ?_);cases x <;> first
  | (cases rx;rfl)
  | (obtain⟨t,rfl⟩:=rx;rfl)
theorem Zh(b:Expr){op:CmpOp}(h:op≠.In:=by decide)(h2:op≠.NotIn:=by decide):behindInMarks op b=false:=by
 have e1:(op==CmpOp.In)=false:=by cases op <;> first | rfl | exact absurd rfl h
 have e2:(op==CmpOp.NotIn)=false:=by cases op <;> first | rfl | exact absurd rfl h2
 cases b <;> simp[behindInMarks,e1,e2]
theorem Xz{op:CmpOp}{r:R2}(ho:OpR X (compareOp op) r)(ha:PE X a ta)(hb:PE X b tb)(hm:behindInMarks op b=false):PE X (.Compare a [op] [b] pos) (tOp r ta tb):=by
 intro CA s σ H Q I h;exact wpAny_Compare1 (wb ha hb I h fun v u s2 x y H2 I2 rx ry q=>ho CA s2 σ H2 x y v u Q I2 rx ry q) hm
def zf(t:TE):TT:=fun σ H Q=>t σ H fun x H'=>∃k,x=.bl k∧Q k H'
theorem Zi{op:CmpOp}{r:R2}(ho:OpR X (compareOp op) r)(ha:PE X a ta)(hb:PE X b tb)(hm:behindInMarks op b=false):PT X (.Compare a [op] [b] pos) (zf (tOp r ta tb)):=by
 intro CA s σ H Q I h;refine wpAny_isTrue_Compare1 (thn (ha CA s σ H _ I h) fun v s1 ⟨x,H1,I1,r1,q1⟩=>thn (hb CA s1 σ H1 _ I1 q1) fun u s2 ⟨y,H2,I2,r2,q2⟩=>
  thn (ho CA s2 σ H2 x y v u _ I2 r1 r2 q2) fun c s3 ⟨z,H3,I3,r3,k,e,q3⟩=>?_) hm
 subst e;cases r3;exact Be ⟨H3,I3,q3⟩
theorem gO:(sizeLine:Nat)<2^63:=by rw[sizeLine_eq];decide
theorem kI:OpR X (binaryOp .Add) (fun x y H Q=>∃i j,x=.str i∧y=.str j∧i.length+j.length≤sizeLine∧Q (.str (i++j)) H):=by
 intro CA s σ H x y v u Q I rx ry h;obtain⟨i,j,rfl,rfl,hz,q⟩:=h;obtain⟨t,rfl⟩:=rx;obtain⟨t',rfl⟩:=ry;exact add_str (fun t' tk=>⟨.str (i++j),H,I.tok _,⟨_,rfl⟩,q⟩) hz
theorem V1{x:V}{us:List Value}(r:Vals [x] us):∃u,us=[u]∧RelV x u:=by
 cases r with
 |cons r1 r2=>cases r2;exact⟨_,rfl,r1⟩
theorem qX{x y:V}{us:List Value}(r:Vals [x,y] us):∃u w',us=[u,w']∧RelV x u∧RelV y w':=by
 cases r with
 |cons r1 r2=>
  cases r2 with
  |cons r3 r4=>cases r4;exact⟨_,_,rfl,r1,r3⟩
theorem N3:bN X (.type "int") (fun xs H Q=>(∃i,xs=[.int i]∧Q (.int i) H)∨∃k,xs=[.bl k]∧Q (.int (if k then 1 else 0)) H):=by
 intro CA s σ H xs us Q I r h
 rcases h with⟨i,rfl,q⟩|⟨k,rfl,q⟩
 ·obtain⟨u,rfl,t,rfl⟩:=V1 r;exact call_int_int ⟨.int i,H,I,⟨_,rfl⟩,q⟩
 ·obtain⟨u,rfl,r1⟩:=V1 r;cases r1;exact call_int_bool ⟨.int (if k then 1 else 0),H,I.tok _,⟨_,rfl⟩,q⟩
end
structure ObjM(h:Heap)(x dx C:Addr)(mA:Str→Option Value):Prop where
 obj:h.get? x=some (W.instObj C dx)
 ns:h.Ns1 dx mA
 ne:dx≠x
theorem oH{h:Heap}{dx:Addr}{mA:Str→Option Value}(n:h.Ns1 dx mA):∃od,h.get? dx=some od∧∀name,W.lookIn name od=some (mA name):=by
 obtain⟨o,es,ep,ho,hd,hk,_,hm⟩:=n;refine⟨o,ho,fun name=>?_⟩;have e:=hm name;unfold nsFind findBy at e;rw[←Array.find?_toList]at e;unfold W.lookIn;rw[hd];dsimp only
 split
 ·rename_i y q;rw[q]at e;exact AX some e
 ·rename_i q;rw[q]at e;have a:es.toList.any (·.refKey)=false:=by
   rw[List.any_eq_false];intro y hy;obtain⟨z,t,hkey⟩:=hk y (Cj.mp hy);simp[DictEntry.refKey,hkey]
  have a':¬es.toList.any (·.refKey)=true:=by rw[a];exact zK
  rw[pi a'];exact AX some e
theorem ObjM.look{h:Heap}{x dx C:Addr}{mA:Str→Option Value}(I:ObjM h x dx C mA):∃od,W.InstAt h x (W.instObj C dx) C (some od)∧∀name,W.lookIn name od=some (mA name):=
 let ⟨od,ho,hl⟩:=oH I.ns
 ⟨od,⟨I.obj,rfl,rfl,ho⟩,hl⟩
section
variable{prog:Program}{w:World}{A:Around}{E:Value→Shared→Prop}{s:Shared}{K:W.Frag}{x dx C f:Addr}{mA:Str→Option Value}{name:Str}{v:Value}
end
theorem RelO.some_of{v:V}{o:Option Value}(r:RelO (some v) o):∃u,o=some u∧RelV v u:=by
 cases o with
 |none=>exact(show False from r).elim
 |some u=>exact⟨u,rfl,r⟩
section
variable{P:Program}{w:World}{H H':Hp}{h h':Heap}{a C dx:Addr}{fs fs':List (Str×V)}
theorem uy(hok:HOk P w H h)(e:H a=some (.ins C dx fs)):∃mA,ObjM h a dx C mA∧(∀f,RelO (fs.lookup f) (mA f))∧PySem.Within mA (fs.map (·.1))∧fs.length≤1000∧H dx=some (.own a):=by
 obtain⟨d,z,ne,ob,mA,n,r,q⟩:=(show ObjOk P w H h a (.ins C dx fs)from hok a _ e);exact⟨mA,⟨ob,n,ne⟩,r,q,z,d⟩
end
structure Cls(K:W.Frag)(C:Addr):Prop where
 pg:W.plainGet K C Str.empty=true
 hd:W.hasDictIn K C=true
 po:W.plainOver K C=true
 sa:W.findIn K (.ref C) "__setattr__"=some (some (.builtin "object.__setattr__"))
theorem Cls.get{K:W.Frag}{C:Addr}(c:Cls K C)(f:Str):W.plainGet K C f=true:=c.pg
section
variable{X:Cx}{CA:List (Addr×Obj)}{σ:St}{H:Hp}{s:Shared}{a C dx:Addr}{fs:List (Str×V)}{f:Str}{v:V}{A:Around}{E:Value→Shared→Prop}
end
section
variable{X:Cx}{o e value:Expr}{f:Str}{pos pos' tpos:Pos}{ta tv:TE}
end
section
variable{X:Cx}{CA:List (Addr×Obj)}{σ:St}{H:Hp}{s:Shared}{A:Around}{E:Value→Shared→Prop}{Q:Value→Shared→Prop}{c:Value}{b:Bool}
inductive TyOf(K:W.Frag)(H:Hp):V→Value→Prop where
 |non:TyOf K H .non (.type "NoneType")
 |bl (x:Bool):TyOf K H (.bl x) (.type "bool")
 |int (i:Int):TyOf K H (.int i) (.type "int")
 |str (x:Str):TyOf K H (.str x) (.type "str")
 |flt (x:UInt64):TyOf K H (.flt x) (.type "float")
 |lst {a:Addr} {xs:List V} (e:H a=some (.lst xs)):TyOf K H (.ref a) (.type "list")
 |frz {a:Addr} {o:Obj} {xs:List V} (e:H a=some (.frz o (.lst xs))):TyOf K H (.ref a) (.type "list")
 |tup {a:Addr} {xs:List V} (e:H a=some (.tup xs)):TyOf K H (.ref a) (.type "tuple")
 |dK {a:Addr} {kvs:List (Key×V)} (e:H a=some (.dK kvs)):TyOf K H (.ref a) (.type "dict")
 |dT {a:Addr} {kvs:List (List Key×V)} (e:H a=some (.dT kvs)):TyOf K H (.ref a) (.type "dict")
 |ins {a C dx:Addr} {fs:List (Str×V)} (e:H a=some (.ins C dx fs)) (cl:Cls K C) (ha:W.findIn K (.ref C) "__class__"=some (some (.builtin "object.__class__")))
   (hn:W.specialIn K (.builtin "object.__class__") "__get__"=some (some (.builtin "getset_descriptor.__get__"))) (htk:W.takesIn K (.builtin "object.__class__")=some true)
   (hm:W.mroIn K C (.type "object")=some true):TyOf K H (.ref a) (.ref C)
theorem og{x:V}{u t:Value}(I:Inv X CA σ H s)(rx:RelV x u)(ty:TyOf X.K H x t)(e:W.kitOne X.K t c=some b)(h:∀tk,Q (.bool b) {s with toks:=tk}):
  wpAny (model X.prog X.w) A (call (.builtin "isinstance") [u,c]) Q E s:=by
 cases ty with
 |non=>cases (show u=Value.none from rx);exact Cb W.kitx_none I.kIn True.intro e (fun z=>nomatch z) h
 |bl y=>cases (show u=Value.bool y from rx);exact Cb W.kitx_bool I.kIn True.intro e (fun z=>nomatch z) h
 |int i=>obtain⟨t,q⟩:=(show ∃t,u=Value.int i t from rx);cases q;exact Cb W.kitx_int I.kIn True.intro e (fun z=>nomatch z) h
 |str y=>obtain⟨t,q⟩:=(show ∃t,u=Value.str y t from rx);cases q;exact Cb W.kitx_str I.kIn True.intro e (fun z=>nomatch z) h
 |flt y=>obtain⟨t,q⟩:=(show ∃t,u=Value.float y t from rx);cases q;exact Cb W.kitx_float I.kIn True.intro e (fun z=>nomatch z) h
 | @lst a xs ea=>
  cases (show u=Value.ref a from rx);obtain⟨_,_,n,_,h1⟩:=(show ObjOk X.prog X.w H s.heap a (.lst xs)from I.hok a _ ea);exact Cb W.kitx_list I.kIn ⟨_,h1,rfl⟩ e (fun z=>nomatch z) h
 | @frz a ob xs ea=>
  cases (show u=Value.ref a from rx);obtain⟨_,_,_,n,_,h1⟩:=(show ObjOk X.prog X.w H s.heap a (.frz ob (.lst xs))from I.hok a _ ea);exact Cb W.kitx_list I.kIn ⟨_,h1,rfl⟩ e (fun z=>nomatch z) h
 | @tup a xs ea=>
  cases (show u=Value.ref a from rx);obtain⟨_,_,_,p⟩:=(show ObjOk X.prog X.w H s.heap a (.tup xs)from I.hok a _ ea);obtain⟨o,h1,h2,_⟩:=p;exact Cb W.kitx_tuple I.kIn ⟨o,h1,h2.1⟩ e (fun z=>nomatch z) h
 | @dK a kvs ea=>
  cases (show u=Value.ref a from rx);obtain⟨_,_,vs,_,p⟩:=(show ObjOk X.prog X.w H s.heap a (.dK kvs)from I.hok a _ ea);obtain⟨o,es,ep,h1,h2,_⟩:=p;exact Cb W.kitx_dict I.kIn ⟨o,h1,h2.1⟩ e (fun z=>nomatch z) h
 | @dT a kvs ea=>
  cases (show u=Value.ref a from rx);obtain⟨_,_,xs,_,o,es,ep,h1,h2,_⟩:=(show ObjOk X.prog X.w H s.heap a (.dT kvs)from I.hok a _ ea);exact Cb W.kitx_dict I.kIn ⟨o,h1,h2.1⟩ e (fun z=>nomatch z) h
 | @ins a C dx fs ea cl ha hn htk hm=>
  cases (show u=Value.ref a from rx);obtain⟨mA,O,_⟩:=uy I.hok ea;obtain⟨od,J,_⟩:=O.look;exact Cb (W.kitx_own (cl.get _) cl.hd ha hn htk hm) I.kIn J e (fun z=>nomatch z) h
end
structure Room(k:Nat)(A:Around):Prop where
 hd:A.handled=none
 dp:A.depth+3*k+5<recursionLimit
 un:A.units+16*k+200<cLine
theorem Room.mono{j k:Nat}{A:Around}(r:Room k A)(h:j≤k):Room j A:=⟨r.hd,by have:=r.dp;omega,by have:=r.un;omega⟩
theorem Room.deeper{k:Nat}{A:Around}(r:Room (k+1) A)(env:Env):Room k (A.deeper env):=
 ⟨r.hd,by have:=r.dp;show A.depth+1+3*k+5<_;omega,by have:=r.un;show A.units+3+16*k+200<_;omega⟩
theorem Room.depth{k:Nat}{A:Around}(r:Room k A):A.depth<recursionLimit:=by have:=r.dp;omega
theorem Room.units{k:Nat}{A:Around}(r:Room k A):A.units+64<cLine:=by have:=r.un;omega
def tNil:TA:=fun _ H Q=>Q [] H
def ze(ta:TE)(tr:TA):TA:=fun σ H Q=>ta σ H fun x H1=>tr σ H1 fun xs H2=>Q (x::xs) H2
section
variable{X:Cx}{e:Expr}{es:List Expr}{te:TE}{t:TA}{pos:Pos}
theorem Z1:PA X [] tNil:=fun _ _ _ _ H Q I h=>Calls.spliced_nil ⟨[],H,I,.nil,h⟩
theorem Z0(ha:PE X e te)(hr:PA X es t)(hs:starEach (e::es) X.env=(false,eval e X.env)::starEach es X.env:=by rfl):PA X (e::es) (ze te t):=by
 intro pos CA s σ H Q I h;rw[hs];show wpAny _ _ (spliced ((false,eval e X.env)::backTo pos (starEach es X.env))) _ _ s;refine Calls.spliced_cons (thn (ha CA s σ H _ I h) fun u s1 CB=>?_);obtain⟨x,H1,I1,r1,q1⟩:=CB;exact thn (hr pos CA s1 σ H1 _ I1 q1) fun us s2 ⟨xs,H2,I2,r2,q2⟩=>⟨x::xs,H2,I2,.cons r1 r2,q2⟩
def tTup(t:TA):TE:=fun σ H Q=>t σ H fun xs H1=>xs.length≤sizeLine∧∀p,H1 p=none→Q (.ref p) (upd H1 p (.tup xs))
def tLst(t:TA):TE:=fun σ H Q=>t σ H fun xs H1=>xs.length≤sizeLine∧∀p,H1 p=none→Q (.ref p) (upd H1 p (.lst xs))
theorem Zn{x1}(h:PA X es t):PE X (.Tuple es x1 pos) (tTup t):=by
 intro CA s σ H Q I hq;refine wpAny_Tuple_spliced (thn (h pos CA s σ H _ I hq) fun us s1 ⟨xs,H1,I1,r,z,q⟩=>⟨by rw[←r.length];exact z,?_⟩);have hf:H1 s1.heap.objs.size=none:=I1.hok.fresh (zD _);refine⟨.ref s1.heap.objs.size,upd H1 s1.heap.objs.size (.tup xs),I1.laid (t':=s1.toks) (fun b u e=>io _ e) (zD _) ?_,rfl,q _ hf⟩;exact⟨z,us,r,TupN.new _ _⟩
theorem Yl(h:PA X es t):PE X (.List es pos) (tLst t):=by
 intro CA s σ H Q I hq;refine wpAny_List_spliced (thn (h pos CA s σ H _ I hq) fun us s1 ⟨xs,H1,I1,r,z,q⟩=>⟨by rw[←r.length];exact z,?_⟩);have hf:H1 s1.heap.objs.size=none:=I1.hok.fresh (zD _);refine⟨.ref s1.heap.objs.size,upd H1 s1.heap.objs.size (.lst xs),I1.laid (t':=s1.toks) (fun b u e=>io _ e) (zD _) ?_,rfl,q _ hf⟩;exact⟨z,us,0,r,zY _ rfl⟩
end
abbrev Sp:=List V→Hp→VK→XK→Prop
abbrev CXT:=List Env→Hp→Shared→XK→Value→Shared→Prop
structure Env0(P:Program)(w:World)(K:W.Frag)(mg:Str→Option Value)(base:Heap)(A:Around)(outer:List Env)(s:Shared)(H:Hp):Prop where
 frames:A.frames=some outer
 mod:Mod K mg base
 bs:∀b o,base.get? b=some o→s.heap.get? b=some o∧H b=none
 bsz:base.objs.size≤s.heap.objs.size
 funs:s.heap.FunFrames base outer
 frf:∀b∈frs outer,H b=none
 hok:HOk P w H s.heap
 bare:AllBare s.gens
def CE(outer:List Env)(P:Program)(w:World)(H:Hp)(s:Shared)(Q:VK)(u:Value)(s':Shared):Prop:=
 ∃v H',s'.os=s.os∧AllBare s'.gens∧Un (frs outer) [] H H' s.heap s'.heap∧HOk P w H' s'.heap∧RelV v u∧Q v H'
def CR(CX:CXT)(outer:List Env)(P:Program)(w:World)(H:Hp)(s:Shared)(Q:VK)(E:XK)(r:Result)(s':Shared):Prop:=
 match r with
 |.ok (.ret u)=>CE outer P w H s Q u s'
 |.ok _=>False
 |.error e=>CX outer H s E e s'
structure FnOk(P:Program)(w:World)(K:W.Frag)(mg:Str→Option Value)(base:Heap)(CX:CXT)(k:Nat)(f:Addr)(fd:FuncData)(ps:List Str)(sp:Sp):Prop where
 len:∀vs H Q E,sp vs H Q E→vs.length=ps.length
 run:∀(A:Around)(outer:List Env)(s:Shared)(H:Hp)(args:Args)(us:List Value)(vs:List V)(Q:VK)(E:XK),Room k A→Env0 P w K mg base A outer s H→BindsTo s fd args (ps.zip us)→Vals vs us→sp vs H Q E→
  codeAny (model P w) A (.call (.ref f) args) (CR CX outer P w H s Q E) s
theorem FnOk.mono{P:Program}{w:World}{K:W.Frag}{mg:Str→Option Value}{base:Heap}{CX:CXT}{j k:Nat}{f:Addr}{fd:FuncData}{ps:List Str}{sp:Sp}(F:FnOk P w K mg base CX j f fd ps sp)(h:j≤k):
  FnOk P w K mg base CX k f fd ps sp:=⟨F.len,fun A outer s H args us vs Q E hr=>F.run A outer s H args us vs Q E (hr.mono h)⟩
section
variable{X:Cx}{CA:List (Addr×Obj)}{σ:St}{H:Hp}{s s':Shared}
theorem Inv.env0(I:Inv X CA σ H s):Env0 X.prog X.w X.K X.mg X.base X.A X.stack s H:=
 ⟨I.ok.frames,I.ok.mod,I.bs,At I.ok.bsz I.sz,I.stack,I.stkFree,I.hok,I.bare⟩
theorem Inv.after{Q:VK}{u:Value}(I:Inv X CA σ H s)(h:CE X.stack X.prog X.w H s Q u s'):EP X CA σ Q u s':=by
 obtain⟨v,H',os,bare,un,hok,r,q⟩:=h;obtain⟨hh,g,d,t,os'⟩:=s';obtain rfl:os'=s.os:=os;exact⟨v,H',I.call (h':=hh) (g':=g) (d':=d) (t':=t) (ch:=[]) un hok bare (fun b z=>absurd z (by simp)),r,q⟩
end
def uX(sp:Sp)(dvs:List V)(E:XK)(t:TA):TE:=fun σ H Q=>t σ H fun vs H1=>sp (vs++dvs) H1 Q E
def Binds(K:W.Frag)(fd:FuncData)(ps:List Str)(ds:List Value):Prop:=
 ∀(s:Shared)(us:List Value),K.In s.heap→(us++ds).length=ps.length→BindsTo s fd ⟨us,[]⟩ (ps.zip (us++ds))
theorem Binds.all{K:W.Frag}{fd:FuncData}{ps:List Str}(h:∀us:List Value,us.length=ps.length→bindArgs fd ⟨us,[]⟩=pure (ps.zip us)):Binds K fd ps []:=fun s us _ hl=>by
 rw[Aw]at hl⊢;exact .of_eq (h us hl)
def jP(CX:CXT)(X:Cx)(E:XK):Prop:=∀(CA:List (Addr×Obj))(σ:St)(H:Hp)(s:Shared)(e:Value)(s':Shared),Inv X CA σ H s→CX X.stack H s E e s'→X.xe e s'
section
variable{X:Cx}{CX:CXT}{k:Nat}{f C:Addr}{fd:FuncData}{ps:List Str}{sp:Sp}{dvs:List V}{ds:List Value}{E:XK}{x m:Str}{p pos apos:Pos}{e o:Expr}{es:List Expr}{ta:TE}{t:TA}
theorem qm{CA:List (Addr×Obj)}{σ:St}{H:Hp}{s:Shared}{Q:VK}{us:List Value}{vs:List V}(F:FnOk X.prog X.w X.K X.mg X.base CX k f fd ps sp)(hr:Room k X.A)(hb:Binds X.K fd ps ds)(hd:Vals dvs ds)(hx:jP CX X E)(I:Inv X CA σ H s)(r:Vals vs us)(h:sp (vs++dvs) H Q E):wpAny (model X.prog X.w) X.A (call (.ref f) us) (EP X CA σ Q) X.xe s:=by
 have r2:Vals (vs++dvs) (us++ds):=r.append hd;have hl:(us++ds).length=ps.length:=by rw[←r2.length];exact F.len _ _ _ _ h
 refine wpAny_call (Cr (F.run X.A X.stack s H ⟨us,[]⟩ (us++ds) (vs++dvs) Q E hr I.env0 (hb s us I.kIn hl) r2 h) fun r s' hq=>?_);cases r with
 |error e=>exact hx CA σ H s e s' I hq
 |ok fl=>
  cases fl with
  |ret u=>exact I.after hq
  |next=>exact False.elim hq
  |brk=>exact False.elim hq
  |cont=>exact False.elim hq
theorem sS(F:FnOk X.prog X.w X.K X.mg X.base CX k f fd ps sp)(hr:Room k X.A)(hg:Gl X x)(hm:X.mg x=some (.ref f))(hk:W.keepIn X.K (.ref f)=true)(hb:Binds X.K fd ps ds)(hd:Vals dvs ds)(hx:jP CX X E)(ha:PA X (e::es) t)(hdb:(x==("__debug__":Str))=false:=by decide)(he:starEach (e::es) X.env=(false,eval e X.env)::starEach es X.env:=by rfl)(hpl:(backTo pos (starEach es X.env)).any (·.1)=false:=by rfl):
  PE X (.Call (.Name x p) (e::es) [] pos) (uX sp dvs E t):=by
 intro CA s σ H Q I h;refine B5 (f7 I hg hm ?_ hdb);refine W.callWith_K (h₀:=X.base) I.ok.mod.kin hk (thn (ha pos CA s σ H _ I h) fun us s1 ⟨vs,H1,I1,r,q⟩=>⟨I1.kIn,?_⟩) he hpl;exact qm F hr hb hd hx I1 r q
end
section
variable{X:Cx}{CX:CXT}{k:Nat}{f C:Addr}{fd:FuncData}{ps ks:List Str}{sp:Sp}{E:XK}{x m:Str}{p pos apos kpos:Pos}{e o:Expr}{es:List Expr}{kws:List Keyword}{te ta:TE}{t tk:TA}{nm:Option Str}
variable{g:List Value→List Value→List Value}{gV:List V→List V→List V}
end
structure FnScope(N P:List Str)(sc:Scope):Prop where
 kind:sc.kind=.function
 co:sc.isCoroutine=false
 gen:sc.isGenerator=false
 nd:N.Nodup
 pre:N.take P.length=P
 par:∀x∈P,sc.names.lookup x=some .local∨sc.names.lookup x=some .cell
 nofree:∀y∈sc.names,y.2≠.free
theorem N4{kindOf:Str→Option NameKind}{x:Str}:∀{binds:List (Str×Value)}{m:Str→Option Value},(∀v,(x,v)∉binds)→bindL kindOf binds m x=m x
 | [],_,_=>rfl
 | (n,v)::r,m,h=>by
  unfold bindL;rw[N4 fun w hw=>h w (Ay _ hw)]
  split
  ·have:x≠n:=by rintro rfl;exact h v Au
   simp[this]
  ·rfl
theorem N6{kindOf:Str→Option NameKind}{x:Str}:∀{binds:List (Str×Value)}{m:Str→Option Value},(∀v,(x,v)∉binds)→bindC kindOf binds m x=m x
 | [],_,_=>rfl
 | (n,v)::r,m,h=>by
  unfold bindC;rw[N6 fun w hw=>h w (Ay _ hw)]
  split
  ·rfl
  ·have:x≠n:=by rintro rfl;exact h v Au
   simp[this]
theorem N5{kindOf:Str→Option NameKind}{x:Str}{v:Value}:∀{P:List Str}{vs:List Value}{i:Nat}{m:Str→Option Value},P.Nodup→P[i]?=some x→vs[i]?=some v→kindOf x=some .local→
  bindL kindOf (P.zip vs) m x=some v
 | [],_,_,_,_,h,_,_=>by simp at h
 |_::_,[],_,_,_,_,h,_=>by simp at h
 |p::P,w::vs,0,m,nd,h1,h2,hk=>by
  simp at h1 h2;subst h1;subst h2;show bindL kindOf ((p,w)::P.zip vs) m p=_;unfold bindL;rw[N4 fun v hv=>(Ae.mp nd).1 (List.of_mem_zip hv).1,zE hk];simp
 |p::P,w::vs,i+1,m,nd,h1,h2,hk=>by
  show bindL kindOf ((p,w)::P.zip vs) m x=_;unfold bindL;exact N5 (i:=i) (List.nodup_cons.mp nd).2 (by simpa using h1) (by simpa using h2) hk
theorem N7{kindOf:Str→Option NameKind}{x:Str}{v:Value}:∀{P:List Str}{vs:List Value}{i:Nat}{m:Str→Option Value},P.Nodup→P[i]?=some x→vs[i]?=some v→kindOf x≠some .local→
  bindC kindOf (P.zip vs) m x=some v
 | [],_,_,_,_,h,_,_=>by simp at h
 |_::_,[],_,_,_,_,h,_=>by simp at h
 |p::P,w::vs,0,m,nd,h1,h2,hk=>by
  simp at h1 h2;subst h1;subst h2;show bindC kindOf ((p,w)::P.zip vs) m p=_;unfold bindC;rw[N6 fun v hv=>(Ae.mp nd).1 (List.of_mem_zip hv).1,pi hk];simp
 |p::P,w::vs,i+1,m,nd,h1,h2,hk=>by
  show bindC kindOf ((p,w)::P.zip vs) m x=_;unfold bindC;exact N7 (i:=i) (List.nodup_cons.mp nd).2 (by simpa using h1) (by simpa using h2) hk
def cU(N:List Str)(vs:List V):St:=vs.map some++List.replicate (N.length-vs.length) none
def nN(CX:CXT)(P:Program)(w:World)(K:W.Frag)(mg:Str→Option Value)(base:Heap)(N:List Str)(qual:Str)(scope:Scope)(f:Addr)(cd:Value)(A:Around)(outer:List Env)(s:Shared)(H:Hp)(E:XK):Cx where
 prog:=P
 w:=w
 K:=K
 mg:=mg
 base:=base
 A:=A.deeper (envOfC qual scope s.heap.objs.size f cd)
 N:=N
 s₀:=s
 H₀:=H
 env:=envOfC qual scope s.heap.objs.size f cd
 outer:=outer
 stack:=envOfC qual scope s.heap.objs.size f cd::outer
 ex:=[]
 calm:=true
 fn:=fun _=>true
 pn:=[]
 xe:=fun e s'=>wpAny (model P w) (A.deeper (envOfC qual scope s.heap.objs.size f cd)) (leaving (envOfC qual scope s.heap.objs.size f cd) e) (fun _ s''=>CX outer H s E e s'') (fun e' s''=>CX outer H s E e' s'') s'
theorem R3{sc:Scope}{n:Nat}{x:Str}(h:sc.names.lookup x=some .cell):∃c,(cellsFrom n sc.names []).lookup x=some c:=by
 have q:=W.cellsFrom_some sc.names n [] (.inl h);exact Option.isSome_iff_exists.mp q
theorem oP{CX:CXT}{P:Program}{w:World}{K:W.Frag}{mg:Str→Option Value}{base:Heap}{N ps:List Str}{qual:Str}{scope:Scope}{f:Addr}{cd:Value}{A:Around}{outer:List Env}{s s1:Shared}{H:Hp}{E:XK}{us:List Value}{vs:List V}(S:FnScope N ps scope)(hd:A.handled=none)(e0:Env0 P w K mg base A outer s H)(hl:vs.length=ps.length)(r:Vals vs us)(x:InCallC s s.heap.objs.size (bindL (envOfC qual scope s.heap.objs.size f cd).kindOf (ps.zip us) fun _=>none) (cellsFrom (s.heap.objs.size+1) scope.names []) (bindC (envOfC qual scope s.heap.objs.size f cd).kindOf (ps.zip us) fun _=>none) s1):
  Inv (nN CX P w K mg base N qual scope f cd A outer s H E) [] (cU N vs) H s1:=by
 have hpl:ps.length≤N.length:=by have:=AX List.length S.pre;rw[z5]at this;omega
 obtain⟨h1,tk,rfl,hk⟩:=x.done;have noA:∀b:Addr,b∉(nN CX P w K mg base N qual scope f cd A outer s H E).ex:=fun b z=>absurd (show b∈([]:List Addr)from z) (by simp);refine⟨⟨e0.mod,S.kind,rfl,rfl,zD _,fun y z c h1 h2=>?_,fun y hy=>?_,fun y c _ h=>?_,fun _=>hd,Around.frames_deeper e0.frames,.inr ⟨rfl,rfl⟩,fun b z=>absurd z (noA b),e0.bs,e0.bsz,fun b _ _=>noA b,fun b z=>absurd z (noA b),e0.funs,e0.frf⟩,
  rfl,e0.bare,Un.kept hk,⟨_,x.toInCall.ns,fun i y v h1 h2 h3=>?_⟩,fun y c h=>⟨_,x.cell y c h⟩,e0.hok.fresh (Nat.le_refl _),fun y c h=>?_,fun p hp=>absurd (show p∈([]:List (Addr×Obj))from hp) (by simp),e0.hok.kept hk,?_⟩
 ·exact name_of_addr x.apart (Af h1) (Af h2)
 ·have hy:scope.names.lookup y=some .cell∨scope.names.lookup y=some .free:=hy
  rcases hy with hy | hy
  ·exact R3 hy
  ·exact absurd rfl (S.nofree _ (Af hy))
 ·exact Bq (x.above y c (Af h))
 ·have hi:i<vs.length:=by
   unfold cU at h2;by_cases hi:i<vs.length
   ·exact hi
   ·rw[List.getElem?_append_right (by simpa using hi)]at h2;rw[List.getElem?_replicate]at h2
    split at h2 <;> cases h2
  have ha:vs[i]?=some v:=by
   unfold cU at h2;rw[List.getElem?_append_left (by simpa using hi),List.getElem?_map]at h2;cases e:vs[i]? with
   |none=>rw[e]at h2;cases h2
   |some a=>rw[e]at h2;cases h2;rfl
  obtain⟨u,hu,rv⟩:=r.get ha;have hp:ps[i]?=some y:=by
   rw[←S.pre,List.getElem?_take_of_lt (by omega)];exact h1
  have ndP:ps.Nodup:=by rw[←S.pre];exact S.nd.sublist (Cg _ _)
  refine⟨u,rv,?_⟩
  rcases S.par y (z7 hp)with k | k
  ·exact .inl ⟨k,N5 ndP hp hu k⟩
  ·obtain⟨c,e⟩:=R3 (n:=s.heap.objs.size+1) k;refine .inr ⟨.inl k,c,e,?_⟩;have q:=x.cell y c e;rw[N7 ndP hp hu (by show scope.names.lookup y≠_;rw[k];decide)]at q;exact q
 ·exact e0.hok.fresh (Bq (x.above y c (Af h)))
 ·unfold cU;show _=N.length;rw[zI,az,List.length_replicate];omega
theorem rK{CX:CXT}{P:Program}{w:World}{K:W.Frag}{mg:Str→Option Value}{base:Heap}{k:Nat}{f:Addr}{name qual:Str}{params:Arguments}{body:List Stmt}{scope:Scope}{dV kV doc pm cdv ct oc:Value}{an od:Option Addr}{osl:Array (Option Value)}{N ps:List Str}{sp:Sp}(lk:K.lookup f=some ⟨oc,od,.func (W.fnOf name qual params body scope dV kV doc pm an cdv ct),osl⟩)(hcd:W.codeIn K cdv qual=true)(S:FnScope N ps scope)(len:∀vs H Q E,sp vs H Q E→vs.length=ps.length)(hbody:∀(A:Around) (outer:List Env) (s:Shared) (H:Hp) (vs:List V) (Q:VK) (E:XK),Room k (A.deeper (envOfC qual scope s.heap.objs.size f cdv))→sp vs H Q E→
   ∃t,PSs (nN CX P w K mg base N qual scope f cdv A outer s H E) body t∧t {nx:=fun _ H'=>Q .non H',rt:=Q} (cU N vs) H):
  FnOk P w K mg base CX (k+1) f (W.fnOf name qual params body scope dV kV doc pm an cdv ct) ps sp:=by
 refine⟨len,fun A outer s H args us vs Q E hr e0 hb r hsp=>?_⟩;have hl:=len _ _ _ _ hsp;have KX:K.In s.heap:=e0.mod.kin.keeps fun b o e=>(e0.bs b o e).1;have lim:s.heap.NoLimit:=e0.mod.nolimit.keeps fun b o e=>(e0.bs b o e).1;have hkind:∀y∈ps.zip us,scope.names.lookup y.1=some .local∨(scope.names.lookup y.1=some .cell∧((cellsFrom (s.heap.objs.size+1) scope.names []).lookup y.1).isSome=true):=fun⟨n,v⟩ hy=>by
  rcases S.par n (List.of_mem_zip hy).1 with q | q
  ·exact .inl q
  ·exact .inr ⟨q,W.cellsFrom_some _ _ _ (.inl q)⟩
 refine codeAny_call_function hr.depth (KX _ _ lk) rfl S.co S.gen rfl (W.codeRec_of KX hcd) (hb _ _ _ _ ?_);refine wpAny_newFunctionEnv_cells S.kind hkind fun env he s1 x=>?_;subst he;refine⟨lim.keeps x.toInCall.keep,codeAny_func ?_⟩;obtain⟨t,ht,hq⟩:=hbody A outer s H vs Q E (hr.deeper _) hsp;have I:Inv (nN CX P w K mg base N qual scope f cdv A outer s H E) [] (cU N vs) H s1:=oP S hr.hd e0 hl r x;refine AU (ht [] s1 (cU N vs) H _ I hq) (fun fl s' hs=>?_) fun e s' hs=>hs;have fin:∀{σ':St}{H':Hp}{v:V}{u:Value},Inv (nN CX P w K mg base N qual scope f cdv A outer s H E) [] σ' H' s'→RelV v u→Q v H'→CE outer P w H s Q u s':=
  fun{σ' H' v u} J rv q=>⟨v,H',J.os,J.bare,J.base,J.hok,rv,q⟩
 cases fl with
 |ret u=>
  obtain⟨v,σ',H',J,rv,q⟩:=hs;exact fin J rv q
 |next=>
  obtain⟨σ',H',J,q⟩:=hs;exact fin (v:=V.non) (u:=Value.none) J rfl q
 |brk=>
  obtain⟨_,_,_,q⟩:=hs;exact False.elim q
 |cont=>
  obtain⟨_,_,_,q⟩:=hs;exact False.elim q
section
variable{X:Cx}{x:Str}{p pos:Pos}{e:Expr}{es:List Expr}{t:TA}{id T:String}{r:List V→Hp→VK→Prop}
def tCB(r:List V→Hp→VK→Prop)(t:TA):TE:=fun σ H Q=>t σ H fun vs H1=>r vs H1 Q
theorem Y1(hc:bN X (.builtin id) r)(hg:Gl X x)(hm:X.mg x=none)(hv:bootBuiltins x=some (.builtin id))(ha:PA X (e::es) t)(hn:x≠"__name__":=by decide)(hdb:(x==("__debug__":Str))=false:=by decide)(he:starEach (e::es) X.env=(false,eval e X.env)::starEach es X.env:=by rfl)(hpl:(backTo pos (starEach es X.env)).any (·.1)=false:=by rfl):PE X (.Call (.Name x p) (e::es) [] pos) (tCB r t):=by
 intro CA s σ H Q I h;refine B5 (Pi I hg hm hv ?_ hn hdb);exact PyProof.Rows.callWith_builtin1 (thn (ha pos CA s σ H _ I h) fun us s1 ⟨vs,H1,I1,r1,q1⟩=>hc CA s1 σ H1 vs us Q I1 r1 q1) he hpl
theorem Y9(hc:bN X (.type T) r)(hg:Gl X x)(hm:X.mg x=none)(hv:bootBuiltins x=some (.type T))(ha:PA X (e::es) t)(hn:x≠"__name__":=by decide)(hdb:(x==("__debug__":Str))=false:=by decide)(he:starEach (e::es) X.env=(false,eval e X.env)::starEach es X.env:=by rfl)(hpl:(backTo pos (starEach es X.env)).any (·.1)=false:=by rfl):PE X (.Call (.Name x p) (e::es) [] pos) (tCB r t):=by
 intro CA s σ H Q I h;refine B5 (Pi I hg hm hv ?_ hn hdb);exact PyProof.Rows.callWith_type1 (thn (ha pos CA s σ H _ I h) fun us s1 ⟨vs,H1,I1,r1,q1⟩=>hc CA s1 σ H1 vs us Q I1 r1 q1) he hpl
end
end L2
namespace HT
open PySem PyProof.Rows
def lexLt:List Int→List Int→Bool
 | [],[]=>false
 | [],_::_=>true
 |_::_,[]=>false
 |x::xs,y::ys=>if x=y then lexLt xs ys else decide (x<y)
theorem lexLt_cons(x y:Int)(xs ys:List Int):lexLt (x::xs) (y::ys)=if x=y then lexLt xs ys else decide (x<y):=rfl
theorem lexLt_nil_nil:lexLt [] []=false:=rfl
theorem Pg(y:Int)(ys:List Int):lexLt [] (y::ys)=true:=rfl
theorem Ph(x:Int)(xs:List Int):lexLt (x::xs) []=false:=rfl
theorem rX(A:Around)(s:Shared)(a:Int)(t:Tok)(c:Int)(u:Tok):∃e,SeqAt.EqAt A s (.int a t) (.int c u) e∧(e=true↔a=c):=
 ⟨(a==c),SeqAt.EqAt.int_int a t c u,by simp⟩
theorem pI(A:Around)(s:Shared)(a:Int)(t:Tok)(c:Int)(u:Tok)(prog:Program)(w:World)(E:Value→Shared→Prop)(Q:Value→Shared→Prop)(h:Q (.bool (decide (a<c))) s):
  wpAny (model prog w) A (richCompare .Lt (.int a t) (.int c u)) Q E s:=
 (PyProof.Rows.lt_int h:wpAny (model prog w) A (compareOp .Lt (.int a t) (.int c u)) Q E s)
section
open PySem.SeqAt
open PySem.AutoSeq1 (wpAny_loadPart')
open PySem.MeetsSeq PySem.MeetsSeq2 PySem.MeetsSeq3
theorem O4(l b:Addr)(items items2:Array Value)(n n2:Nat)(dd dd2:Option Addr)(sl sl2:Array (Option Value))(ns ms:List Int)(hi:IntsAre items.toList ns)(hj:IntsAre items2.toList ms):
  Meets (Builtin.«tuple.__lt__» ⟨[.ref l,.ref b],[]⟩)
   (fun _ R s=>s.heap.get? l=some {cls:=.type "tuple",dict:=dd,data:=.seq items n,slots:=sl}∧s.heap.get? b=some {cls:=.type "tuple",dict:=dd2,data:=.seq items2 n2,slots:=sl2}∧
    R (.ok (.ret (.bool (lexLt ns ms)))) s):=
 .of_wp fun prog w A R s h=>by
  obtain⟨hp,g,d,tk,os⟩:=s;obtain⟨hl,hb,h⟩:=h;have f2:=AutoSeq1.sub_tuple_tuple;have z1:items.size=ns.length:=by rw[←hi.length];simp
  have z2:items2.size=ms.length:=by rw[←hj.length];simp
  wp_walk using wpAny_loadPart' hl,wpAny_loadPart' hb,wpAny_forIn_list _ (fun rest b s'=>b.1=none∧s'=⟨hp,g,d,tk,os⟩∧∃(vs ws:List Value)(ns' ms':List Int),rest=vs.zip ws∧
   IntsAre vs ns'∧IntsAre ws ms'∧ns'.length+items2.size=ms'.length+items.size∧R (.ok (.ret (.bool (lexLt ns' ms')))) ⟨hp,g,d,tk,os⟩) _
  case turn=>
   rintro⟨y,x⟩ rest b s' ⟨hb',rfl,vs,ws,ns',ms',hz,hvi,hwi,CS,hR⟩;cases hvi with
   |nil=>rw[List.zip_nil_left]at hz;cases hz
   |cons a t hvi'=>
    cases hwi with
    |nil=>rw[List.zip_nil_right]at hz;cases hz
    |cons c u hwi'=>
     rw[List.zip_cons_cons]at hz;injection hz with hyx hrest
     injection hyx with hy hx
     subst hy hx;rw[lexLt_cons]at hR;simp only[List.length_cons]at CS;obtain⟨e,he,hiff⟩:=rX A.in1 ⟨hp,g,d,tk,os⟩ a t c u;refine ae (he prog w _ _ ?_);cases e with
     |true=>
      rw[zE (hiff.mp rfl)]at hR
      wp_walk
      exact⟨rfl,rfl,_,_,_,_,hrest,hvi',hwi',by omega,hR⟩
     |false=>
      rw[pi (fun q=>absurd (hiff.mpr q) zK)]at hR;have hri:=pI A.in1 ⟨hp,g,d,tk,os⟩ a t c u prog w
      wp_walk using hri
      exact⟨_,rfl,by simpa using hR⟩
  case fin=>
   rintro⟨b1,b2⟩ s' ⟨hb',rfl,vs,ws,ns',ms',hz,hvi,hwi,CS,hR⟩;simp only at hb';subst hb';have hv:lexLt ns' ms'=decide (items.size<items2.size):=by
    cases hvi with
    |nil=>
     cases hwi with
     |nil=>
      simp only[List.length_nil]at CS;rw[lexLt_nil_nil];exact(As (by omega)).symm
     |cons c u hw=>
      simp only[List.length_nil,List.length_cons]at CS;rw[Pg];exact(zP (by omega)).symm
    |cons a t hv=>
     cases hwi with
     |nil=>
      simp only[List.length_nil,List.length_cons]at CS;rw[Ph];exact(As (by omega)).symm
     |cons c u hw=>
      rw[List.zip_cons_cons]at hz;cases hz
   rw[hv]at hR
   wp_walk
   exact⟨_,rfl,by simpa [Builtin.Tuple.tupleCompareSizes] using hR⟩
  case h=>
   exact⟨rfl,rfl,items.toList,items2.toList,ns,ms,rfl,hi,hj,by omega,h⟩
end
section
variable{prog:Program}{w:World}{A:Around}{E:Value→Shared→Prop}{s:Shared}
theorem lt_tupInts{l b:Addr}{items items2:Array Value}{ns ms:List Int}{Q:Value→Shared→Prop}(hl:IsTup s.heap l items)(hb:IsTup s.heap b items2)(hi:IntsAre items.toList ns)(hj:IntsAre items2.toList ms)(hu:A.units<cLine)(h:Q (.bool (lexLt ns ms)) s):wpAny (model prog w) A (compareOp .Lt (.ref l) (.ref b)) Q E s:=by
 obtain⟨⟨cls,dd,data,sl⟩,ho,hc,n,hd⟩:=id hl;obtain⟨⟨cls2,dd2,data2,sl2⟩,ho2,hc2,n2,hd2⟩:=id hb;simp only at hc hd hc2 hd2;subst hc hd hc2 hd2;exact richCompare_meets_room (op:=.Lt) ⟨_,ho,rfl⟩ ⟨_,ho2,rfl⟩ PySem.F.slot_tuple_lt PySem.F.entry_tuple_lt (PySem.F.args_tuple_lt_2 _ _) (O4 l b items items2 n n2 dd dd2 sl sl2 ns ms hi hj)
  ⟨ho,ho2,show Value.bool (lexLt ns ms)≠Value.notImplemented∧Q (.bool (lexLt ns ms)) s from⟨(fun x=>nomatch x),h⟩⟩ hu
def sIx(n d:Nat):Option Int→Nat
 |none=>d
 |some v=>if v<0 then(v+(n:Int)).toNat else min v.toNat n
theorem w_(n d:Nat)(hd:d≤n)(o:Option Int):sIx n d o≤n:=by
 cases o with
 |none=>exact hd
 |some v=>
  show(if v<0 then(v+(n:Int)).toNat else min v.toNat n)≤n;by_cases hv:v<0
  ·rw[zE hv];omega
  ·rw[pi hv];exact Nat.min_le_right _ _
theorem mO(v:Int)(n d:Nat):(if v<0 then max (v+(n:Int)) 0 else min v (n:Int))=((sIx n d (some v):Nat):Int):=by
 show(if v<0 then max (v+(n:Int)) 0 else min v (n:Int))=(((if v<0 then(v+(n:Int)).toNat else min v.toNat n):Nat):Int);by_cases hv:v<0
 ·simp only[if_pos hv];omega
 ·simp only[if_neg hv];omega
theorem kK(lo hi:Option Int)(n:Nat):Builtin.Slice.sliceAdjust lo hi 1 (n:Int)=(((sIx n 0 lo:Nat):Int),((sIx n n hi:Nat):Int)):=by
 have h1:¬((1:Int)<0):=by omega
 unfold Builtin.Slice.sliceAdjust;simp only[h1,if_false];refine AT ?_ ?_
 ·cases lo with
  |none=>rfl
  |some v=>exact mO v n 0
 ·cases hi with
  |none=>rfl
  |some v=>exact mO v n n
theorem kj(i j:Nat):Builtin.Slice.slicePlaces (i:Int) (j:Int) 1=j-i:=by
 unfold Builtin.Slice.slicePlaces;have h1:(1:Int) > 0:=by omega
 simp only[h1,if_true,Int.ediv_one]
 split <;> omega
theorem Qx{v:Value}{o:Option Int}{Q:Option Int→Shared→Prop}(p:IsPart v o)(h:Q o s):wpAny (model prog w) A (Builtin.Slice.slicePartIndex v) Q E s:=by
 cases p with
 |none=>exact slicePart_none h
 |int i t=>exact slicePart_int h
theorem Vo{sl:Addr}{vl vu:Value}{lo hi:Option Int}{n:Nat}{Q:Int×Int×Nat→Shared→Prop}(hs:s.heap.IsSliceOf sl vl vu .none)(pl:IsPart vl lo)(pu:IsPart vu hi)(h:Q (((sIx n 0 lo:Nat):Int),1,sIx n n hi-sIx n 0 lo) s):wpAny (model prog w) A (Builtin.Slice.sliceApplied (.ref sl) (pure (n:Int))) Q E s:=by
 obtain⟨os,hos,hcs,hds⟩:=id hs;unfold Builtin.Slice.sliceApplied Builtin.Slice.sliceFields;refine ae (ae (BH hos hds (x:=vl) rfl (ae (BH hos hds (x:=vu) rfl (ae (BH hos hds (x:=.none) rfl (zC ?_)))))));refine ae (slicePart_none ?_);show wpAny _ _ (if ((1:Int)==0)=true then _ else _) _ _ s;rw[pi (by decide)];refine ae (Qx pl (ae (Qx pu (ae (zC ?_)))));show wpAny _ _ (match Builtin.Slice.sliceAdjust lo hi 1 (n:Int)with | (lo,hi)=>pure (lo,(1:Int),Builtin.Slice.slicePlaces lo hi 1)) _ _ s;rw[kK lo hi n];show wpAny _ _ (pure (((sIx n 0 lo:Nat):Int),(1:Int),Builtin.Slice.slicePlaces ((sIx n 0 lo:Nat):Int) ((sIx n n hi:Nat):Int) 1)) _ _ s;rw[kj];exact zC h
theorem rk(xs:Array Value)(i k:Nat):((List.range k).filterMap fun(m:Nat)=>xs[((i:Int)+(m:Int)*1).toNat]?).toArray=((xs.toList.drop i).take k).toArray:=by
 have e:(fun(m:Nat)=>xs[((i:Int)+(m:Int)*1).toNat]?)=fun m=>xs[i+m]?:=by
  funext m
  have:((i:Int)+(m:Int)*1).toNat=i+m:=by omega
  rw[this]
 rw[e];have:=pick_run xs i k;rw[List.filterMap_map]at this;have e2:((fun x=>xs[x]?)∘fun x=>i+x)=fun m=>xs[i+m]?:=rfl;rw[e2]at this;rw[this]
theorem getItem_tuple_cut{t sl:Addr}{items:Array Value}{vl vu:Value}{lo hi:Option Int}{Q:Value→Shared→Prop}(ht:IsTup s.heap t items)(hs:s.heap.IsSliceOf sl vl vu .none)(pl:IsPart vl lo)(pu:IsPart vu hi)(hw:¬(sIx items.size 0 lo=0∧sIx items.size items.size hi=items.size))(h:Q (.ref s.heap.objs.size) {s with heap:=s.heap.push {cls:=.type "tuple",data:=.seq ((items.toList.drop (sIx items.size 0 lo)).take (sIx items.size items.size hi-sIx items.size 0 lo)).toArray}})(hsz:items.size≤sizeLine):wpAny (model prog w) A (getItem (.ref t) (.ref sl)) Q E s:=by
 have htake:sizeOk (.seq ((items.toList.drop (sIx items.size 0 lo)).take (sIx items.size items.size hi-sIx items.size 0 lo)).toArray):=by
  show((items.toList.drop (sIx items.size 0 lo)).take (sIx items.size items.size hi-sIx items.size 0 lo)).toArray.size≤sizeLine;rw[z8,z5,BJ,zU];omega
 have hj:sIx items.size items.size hi≤items.size:=w_ _ _ (zD _) hi;obtain⟨os,hos,hcs,hds⟩:=id hs;have hTs:s.TypeIs (.ref sl) "slice":=⟨os,hos,hcs⟩;unfold getItem
 try with_reducible refine Ax ?_
 first | refine ae (zC ?_) | skip
 refine ae (wpAny_sequenceKey ht.typeIs (by decide) ?_);refine ae (wpAny_callSpecial?_slot (name:=Str.ofString "__getitem__") ht.typeIs Bk
  (A4 Bk ht.typeIs entry_tuple_getitem ?_ (args_tuple_getitem _ _)))
 show wpAny _ _ (Builtin.Tuple.tupleItemsOf (.ref t) >>= _) _ _ s;refine ae (tupleItemsOf_ ht ?_);refine ae (Br hTs ?_);rw[zE (by decide)];refine ae (Vo hs pl pu ?_);have hno:¬((((sIx items.size 0 lo:Nat):Int)==0 && (1:Int)==1 && (sIx items.size items.size hi-sIx items.size 0 lo)==items.size)=true):=by
  intro q;rw[Ap,Ap]at q;have q1:((sIx items.size 0 lo:Nat):Int)=0:=eq_of_beq q.1.1;have q2:sIx items.size items.size hi-sIx items.size 0 lo=items.size:=eq_of_beq q.2;exact hw ⟨by omega,by omega⟩
 show wpAny _ _ (if (((sIx items.size 0 lo:Nat):Int)==0 && (1:Int)==1 && (sIx items.size items.size hi-sIx items.size 0 lo)==items.size)=true then _ else _) _ _ s;rw[pi hno,rk]
 first
  |exact ae (m:=Builtin.Tuple.tupleExact _) (AZ (zC ⟨_,rfl,zC h⟩) htake)
  |exact ae (m:=Builtin.Tuple.tupleExact _) (AZ (ae (zC (zC ⟨_,rfl,zC h⟩))) htake)
  |exact ae (ae (m:=Builtin.Tuple.tupleExact _) (AZ (zC (zC ⟨_,rfl,zC h⟩)) htake))
  |exact ae (ae (m:=Builtin.Tuple.tupleExact _) (AZ (zC ⟨_,rfl,zC h⟩) htake))
end
end HT
namespace L2
open PySem PySem.Spec PyProof.Rows
abbrev TO:=St→Hp→(Option Int→Hp→Prop)→Prop
def PO(X:Cx)(e:Option Expr)(t:TO):Prop:=
 ∀(CA:List (Addr×Obj))(s:Shared)(σ:St)(H:Hp)(Q:Option Int→Hp→Prop),Inv X CA σ H s→t σ H Q→
  wpAny (model X.prog X.w) X.A (evalPart e X.env) (fun u s'=>∃o H',Inv X CA σ H' s'∧IsPart u o∧Q o H') X.xe s
def sB:TO:=fun _ H Q=>Q none H
def y_(t:TE):TO:=fun σ H Q=>t σ H fun x H1=>∃i,x=.int i∧Q (some i) H1
theorem Pl{ns:List Int}:∀{us:List Value},Vals (ns.map V.int) us→IntsAre us ns:=by
 induction ns with
 |nil=>intro us r;rw[Cs]at r;cases r;exact .nil
 |cons n ns ih=>
  intro us r;rw[zH]at r;cases r with
  |cons r1 r2=>
   obtain⟨t,e⟩:=r1;subst e;exact .cons n t (ih r2)
section
variable{X:Cx}{e:Expr}{te:TE}{lo hi:Option Expr}{tl th:TO}{pos p2:Pos}
theorem mP:PO X none sB:=by
 intro CA s σ H Q I h;rw[evalPart_none];exact zC ⟨none,H,I,.none,h⟩
theorem Qa(h:PE X e te):PO X (some e) (y_ te):=by
 intro CA s σ H Q I hw;rw[evalPart_some];refine thn (h CA s σ H _ I hw) fun u s1 CB=>?_;obtain⟨x,H1,I1,r1,q1⟩:=CB;obtain⟨i,rfl,q⟩:=q1;obtain⟨t,rfl⟩:=r1;exact⟨some i,H1,I1,.int i t,q⟩
def SlR(X:Cx)(r:V→Option Int→Option Int→Hp→VK→Prop):Prop:=
 ∀(CA:List (Addr×Obj))(s:Shared)(σ:St)(H:Hp)(x:V)(v vl vu:Value)(lo hi:Option Int)(sl:Addr)(Q:VK),Inv X CA σ H s→RelV x v→s.heap.IsSliceOf sl vl vu .none→IsPart vl lo→IsPart vu hi→r x lo hi H Q→
  ∃T id,typeLookup (.type T) "__getitem__"=pure (some (.builtin id))∧s.TypeIs v T∧wpAny (model X.prog X.w) X.A (getItem v (.ref sl)) (EP X CA σ Q) X.xe s
def tSl(r:V→Option Int→Option Int→Hp→VK→Prop)(te:TE)(tl th:TO):TE:=fun σ H Q=>te σ H fun x H1=>tl σ H1 fun l H2=>th σ H2 fun u H3=>r x l u H3 Q
theorem jv{r:V→Option Int→Option Int→Hp→VK→Prop}(hr:SlR X r)(he:PE X e te)(hl:PO X lo tl)(hu:PO X hi th):PE X (.Subscript e (.Slice lo hi none p2) pos) (tSl r te tl th):=by
 intro CA s σ H Q I h;refine Subscript_ (thn (he CA s σ H _ I h) fun v s1 CB=>?_);obtain⟨x,H1,I1,r1,q1⟩:=CB;refine wpAny_Slice (thn (hl CA s1 σ H1 _ I1 q1) fun vl s2 ⟨l,H2,I2,pl,q2⟩=>thn (hu CA s2 σ H2 _ I2 q2) fun vu s3 CB=>?_);obtain⟨u,H3,I3,pu,q3⟩:=CB;rw[evalPart_none];refine zC ?_;have I4:Inv X CA σ H3 {s3 with heap:=s3.heap.push {cls:=.type "slice",data:=.fields #[vl,vu,.none]}}:=I3.kept (t':=s3.toks) fun b ob q=>io _ q;obtain⟨T,id,hT,ht,hg⟩:=hr CA {s3 with heap:=s3.heap.push {cls:=.type "slice",data:=.fields #[vl,vu,.none]}} σ H3 x v vl vu l u s3.heap.objs.size Q I4 r1 (Heap.IsSliceOf.new ..) pl pu q3;show wpAny (model X.prog X.w) X.A (subscriptTail e (.Slice lo hi none p2) v (.ref s3.heap.objs.size)) (EP X CA σ Q) X.xe {s3 with heap:=s3.heap.push {cls:=.type "slice",data:=.fields #[vl,vu,.none]}};exact tail_any (ops:=[.ref s3.heap.objs.size,v]) ht hT hg (by with_unfolding_all rfl)
def oB(xs:List V)(lo hi:Option Int):List V:=(xs.drop (HT.sIx xs.length 0 lo)).take (HT.sIx xs.length xs.length hi-HT.sIx xs.length 0 lo)
theorem jb(xs:List V)(lo hi:Option Int):(oB xs lo hi).length≤xs.length:=by
 unfold oB;rw[z5,BJ];omega
def rSlT(K:W.Frag):V→Option Int→Option Int→Hp→VK→Prop:=fun x lo hi H Q=>∃a xs,x=.ref a∧SqT K H a xs∧
 ¬(HT.sIx xs.length 0 lo=0∧HT.sIx xs.length xs.length hi=xs.length)∧∀p,H p=none→Q (.ref p) (upd H p (.tup (oB xs lo hi)))
theorem vV:SlR X (rSlT X.K):=by
 intro CA s σ H x v vl vu lo hi sl Q I rx hs pl pu h;obtain⟨a,xs,rfl,hx,hw,q⟩:=h;cases rx;obtain⟨its,r,ht,hz⟩:=I.tuple hx;have CS:its.toArray.size=xs.length:=by rw[z8];exact r.length.symm
 refine⟨"tuple",_,PyProof.Rows.slot_tuple_getitem.lookup,ht.typeIs,?_⟩;refine HT.getItem_tuple_cut ht hs pl pu (by rw[CS];exact hw) ?_ (by rw[CS];exact hz);rw[CS];refine⟨.ref s.heap.objs.size,_,I.laid (t':=s.toks) (o:=.tup (oB xs lo hi)) (fun b ob q=>io _ q) (zD _) ?_,rfl,q _ (I.hok.fresh (zD _))⟩;exact⟨At (jb xs lo hi) hz,_,(r.drop (HT.sIx xs.length 0 lo)).take (HT.sIx xs.length xs.length hi-HT.sIx xs.length 0 lo),TupN.new _ _⟩
end
def ixN(n:Nat)(i:Int):Option Nat:=if 0≤i then(if i<n then some i.toNat else none)else if -(n:Int)≤i then some (i+n).toNat else none
def atI{α:Type}(xs:List α)(i:Int):Option α:=(ixN xs.length i).bind fun j=>xs[j]?
theorem mX{n:Nat}{i:Int}{j:Nat}(h:ixN n i=some j):seqIndex? i n=some j∧j<n∧-(n:Int)≤i∧i<n:=by
 unfold ixN at h;by_cases h0:0≤i
 ·rw[zE h0]at h;by_cases h1:i<n
  ·rw[zE h1]at h;have e:i.toNat=j:=Aa h;exact⟨by rw[seqIndex_of h0 h1,e],by omega,by omega,h1⟩
  ·rw[pi h1]at h;cases h
 ·rw[pi h0]at h;by_cases h1:-(n:Int)≤i
  ·rw[zE h1]at h;have e:(i+n).toNat=j:=Aa h;exact⟨by rw[seqIndex_neg (by omega) h1,e],by omega,h1,by omega⟩
  ·rw[pi h1]at h;cases h
theorem mG{α:Type}{xs:List α}{i:Int}{v:α}(h:atI xs i=some v):∃j,seqIndex? i xs.length=some j∧xs[j]?=some v∧j<xs.length∧-(xs.length:Int)≤i∧i<xs.length:=by
 unfold atI at h;cases e:ixN xs.length i with
 |none=>rw[e]at h;cases h
 |some j=>
  rw[e]at h;obtain⟨h1,h2,h3,h4⟩:=mX e;exact⟨j,h1,h,h2,h3,h4⟩
theorem k9{α:Type}{xs:List α}{j:Nat}{v:α}(h:xs[j]?=some v):atI xs (j:Int)=some v:=by
 have hj:j<xs.length:=(zM.mp h).1;have e:ixN xs.length (j:Int)=some j:=by
  unfold ixN;rw[if_pos (by omega),if_pos (by omega)];simp
 unfold atI;rw[e];exact h
def mU(b:Expr):Prop:=∀o i,subscripted b false o i=operate [o,i] (getItem o i)
def IxR(X:Cx)(r:R2):Prop:=
 ∀(value slice:Expr)(CA:List (Addr×Obj))(s:Shared)(σ:St)(H:Hp)(x y:V)(v u:Value)(Q:VK),Inv X CA σ H s→RelV x v→RelV y u→r x y H Q→
  subscripted slice false v u=operate [v,u] (getItem v u)→wpAny (model X.prog X.w) X.A (subscriptTail value slice v u) (EP X CA σ Q) X.xe s
def MtR(X:Cx)(id:String)(r:V→List V→Hp→VK→Prop):Prop:=
 ∀(CA:List (Addr×Obj))(s:Shared)(σ:St)(H:Hp)(x:V)(xs:List V)(v:Value)(us:List Value)(Q:VK),Inv X CA σ H s→RelV x v→Vals xs us→r x xs H Q→
  wpAny (model X.prog X.w) X.A (call (.builtin id) (v::us)) (EP X CA σ Q) X.xe s
section
variable{X:Cx}{a b:Expr}{ta tb:TE}{pos:Pos}
theorem yu{r:R2}(hr:IxR X r)(ha:PE X a ta)(hb:PE X b tb)(hs:mU b):PE X (.Subscript a b pos) (tOp r ta tb):=by
 intro CA s σ H Q I h;exact Subscript_ (wb ha hb I h fun v u s2 x y H2 I2 rx ry q=>hr a b CA s2 σ H2 x y v u Q I2 rx ry q (hs _ _))
def rIxL(K:W.Frag):R2:=fun x y H Q=>∃p xs i v,x=.ref p∧y=.int i∧SqL K H p xs∧atI xs i=some v∧Q v H
def ye(K:W.Frag):R2:=fun x y H Q=>∃p xs i v,x=.ref p∧y=.int i∧SqT K H p xs∧atI xs i=some v∧Q v H
theorem T8:IxR X (rIxL X.K):=by
 intro value slice CA s σ H x y v u Q I rx ry h hs;obtain⟨p,xs,i,z,rfl,rfl,hq,he,q⟩:=h;cases rx;obtain⟨t,rfl⟩:=ry;obtain⟨its,r,pl,hz⟩:=I.list hq;obtain⟨j,h1,h2,h3,h4,h5⟩:=mG he;obtain⟨w,ew,rw'⟩:=r.get h2;have hl:=r.length;have hn:=gO;have fin:EP X CA σ Q w s:=⟨z,H,I,rw',q⟩;by_cases h0:0≤i
 ·have hj:i.toNat=j:=by
   rw[seqIndex_of h0 h5]at h1;exact Aa h1
  exact item_listR pl.isList h0 (by omega) (by rw[hj];simpa using ew) fin hs
 ·have hj:(i+(its.toArray.size:Int)).toNat=j:=by
   rw[seqIndex_neg (by omega) h4]at h1;rw[z8,←hl];exact Aa h1
  exact subscriptTail_builtinR (x:=w) pl.isList.typeIs slot_list_getitem.lookup
   (wpAny_getItem_list_neg (Q:=fun r s'=>r=w∧EP X CA σ Q r s') pl.isList (by omega) (by rw[List.size_toArray] <;> omega) (by omega) (by rw[hj];simpa using ew) ⟨rfl,fin⟩) hs
theorem Xd:IxR X (ye X.K):=by
 intro value slice CA s σ H x y v u Q I rx ry h hs;obtain⟨p,xs,i,z,rfl,rfl,hq,he,q⟩:=h;cases rx;obtain⟨t,rfl⟩:=ry;obtain⟨its,r,pl,hz⟩:=I.tuple hq;obtain⟨j,h1,h2,h3,h4,h5⟩:=mG he;obtain⟨w,ew,rw'⟩:=r.get h2;have hl:=r.length;have hn:=gO;have fin:EP X CA σ Q w s:=⟨z,H,I,rw',q⟩;exact subscriptTail_builtinR (x:=w) pl.typeIs slot_tuple_getitem.lookup
  (getItem_tuple (j:=j) (Q:=fun r s'=>r=w∧EP X CA σ Q r s') pl (by omega) (by omega) (by rw[List.size_toArray,←hl];exact h1) (by simpa using ew) ⟨rfl,fin⟩) hs
theorem kq(its:List Value)(n j:Nat)(u:Value):Obj.mapSeq (·.setIfInBounds j u) {cls:=.type "list",data:=.seq its.toArray n}={cls:=.type "list",data:=.seq (its.set j u).toArray n}:=by
 simp[Obj.mapSeq]
theorem Inv.lst{CA:List (Addr×Obj)}{σ:St}{H:Hp}{s:Shared}{p:Addr}{xs:List V}(I:Inv X CA σ H s)(h:H p=some (.lst xs)):
  ∃(its:List Value)(n:Nat),Vals xs its∧s.heap.get? p=some {cls:=.type "list",data:=.seq its.toArray n}∧xs.length≤sizeLine:=by
 obtain⟨z,its,n,r,e⟩:=I.hok p _ h;exact⟨its,n,r,e,z⟩
theorem Inv.lstUpd{CA:List (Addr×Obj)}{σ:St}{H:Hp}{s:Shared}{p:Addr}{xs ys:List V}{its its':List Value}{n n':Nat}{f:Obj→Obj}(I:Inv X CA σ H s)(h:H p=some (.lst xs))(ho:s.heap.get? p=some {cls:=.type "list",data:=.seq its.toArray n})(hf:f {cls:=.type "list",data:=.seq its.toArray n}={cls:=.type "list",data:=.seq its'.toArray n'})(r:Vals ys its')(hz:ys.length≤sizeLine)(t:Nat):
  Inv X CA σ (upd H p (.lst ys)) {s with heap:=s.heap.update p f,toks:=t}:=by
 have e:(s.heap.update p f).get? p=some {cls:=.type "list",data:=.seq its'.toArray n'}:=by
  rw[Heap.get?_update_self f ho (by rw[hf] <;> rfl),hf]
 refine I.write (x:=p) (e:=p) (by rw[h];trivial) (.inl rfl) (fun b u hb q=>(A5 _ _ (Ne.symm hb)).trans q) ⟨_,e⟩ ?_;exact⟨hz,its',n',r,e⟩
def xL:V→V→V→Hp→(Hp→Prop)→Prop:=fun o i v H Q=>∃p xs k j,o=.ref p∧i=.int k∧H p=some (.lst xs)∧ixN xs.length k=some j∧Q (upd H p (.lst (xs.set j v)))
theorem gZ:yQ X xL:=by
 intro CA s σ H o i v ov iv u Q I ro ri rv h;obtain⟨p,xs,k,j,rfl,rfl,hp,hj,q⟩:=h;cases ro;obtain⟨t,rfl⟩:=ri;obtain⟨its,n,r,ho,hz⟩:=I.lst hp;obtain⟨h1,h2,h3,h4⟩:=mX hj;have hl:=r.length;have hn:=gO;have I':Inv X CA σ (upd H p (.lst (xs.set j v))) {s with heap:=s.heap.update p (Obj.mapSeq (·.setIfInBounds j u))}:=
  I.lstUpd hp ho (kq its n j u) (r.set rv j) (by rw[List.length_set];exact hz) s.toks
 by_cases h0:0≤k
 ·have hk:k.toNat=j:=by
   rw[seqIndex_of h0 h4]at h1;exact Aa h1
  exact W.ki_setAt ho h0 (by omega) (by rw[z8,←hl];exact h4) (by rw[hk];exact⟨_,I',q⟩)
 ·have hk:(k+(its.toArray.size:Int)).toNat=j:=by
   rw[seqIndex_neg (by omega) h3]at h1;rw[z8,←hl];exact Aa h1
  exact W.ki_setBack ho (by omega) (by rw[z8,←hl];exact h3) (by omega) (by rw[hk];exact⟨_,I',q⟩)
theorem Xf:bN X (.builtin "len") (fun xs H Q=>∃p ys,xs=[.ref p]∧(SqL X.K H p ys∨SqT X.K H p ys)∧Q (.int ys.length) H):=by
 intro CA s σ H xs us Q I r h;obtain⟨p,ys,rfl,hq,q⟩:=h;obtain⟨u,rfl,rx⟩:=V1 r;cases rx;have hn:=gO
 rcases hq with hq | hq
 ·obtain⟨its,r',pl,hz⟩:=I.list hq;have CS:=r'.length;exact Calls.call_len_list pl.isList (by simp only[List.size_toArray] <;> omega) ⟨.int ys.length,H,I.tok _,⟨s.toks+1,by rw[List.size_toArray,CS]⟩,q⟩
 ·obtain⟨its,r',pl,hz⟩:=I.tuple hq;have CS:=r'.length;exact len_tuple pl (by simp only[List.size_toArray] <;> omega) ⟨.int ys.length,H,I.tok _,⟨s.toks+1,by rw[List.size_toArray,CS]⟩,q⟩
theorem Ud:bN X (.type "list") (fun xs H Q=>∃p ys,xs=[.ref p]∧(SqL X.K H p ys∨SqT X.K H p ys)∧∀l,H l=none→Q (.ref l) (upd H l (.lst ys))):=by
 intro CA s σ H xs us Q I r h;obtain⟨p,ys,rfl,hq,q⟩:=h;obtain⟨u,rfl,rx⟩:=V1 r;cases rx;have fin:∀(its:List Value),Vals ys its→ys.length≤sizeLine→∀(h':Heap)(c':Nat),(∀b o',s.heap.get? b=some o'→h'.get? b=some o')→
   h'.get? s.heap.objs.size=some {cls:=.type "list",dict:=none,data:=.seq its.toArray c',slots:=#[]}→EP X CA σ Q (.ref s.heap.objs.size) {s with heap:=h'}:=fun its r' hz h' c' kp e=>
  ⟨.ref s.heap.objs.size,_,I.laid (t':=s.toks) kp (zD _) (show ObjOk X.prog X.w _ h' _ (.lst ys) from⟨hz,its,c',r',e⟩),rfl,q _ (I.hok.fresh (zD _))⟩
 rcases hq with hq | hq
 ·obtain⟨its,r',pl,hz⟩:=I.list hq;have CS:=r'.length;obtain⟨o,ho,hc,n,hd⟩:=pl.isList;exact call_list_seq p (.inl rfl) ho hc hd (fun h' c' kp e=>fin its r' hz h' c' kp e) (by simp only[List.size_toArray] <;> omega)
 ·obtain⟨its,r',pl,hz⟩:=I.tuple hq;have CS:=r'.length;obtain⟨o,ho,hc,n,hd⟩:=pl;exact call_list_seq p (.inr rfl) ho hc hd (fun h' c' kp e=>fin its r' hz h' c' kp e) (by simp only[List.size_toArray] <;> omega)
theorem Tg:bN X (.type "tuple") (fun xs H Q=>∃p ys,xs=[.ref p]∧((SqL X.K H p ys∧∀l,H l=none→Q (.ref l) (upd H l (.tup ys)))∨(SqT X.K H p ys∧Q (.ref p) H))):=by
 intro CA s σ H xs us Q I r h;obtain⟨p,ys,rfl,h⟩:=h;obtain⟨u,rfl,rx⟩:=V1 r;cases rx
 rcases h with⟨hq,q⟩|⟨hq,q⟩
 ·obtain⟨its,r',pl,hz⟩:=I.list hq;have CS:=r'.length;refine call_tuple_list pl.isList (fun h' kp=>?_) (by simp only[List.size_toArray] <;> omega);have I1:Inv X CA σ H {s with heap:=h'}:=I.kept (t':=s.toks) kp;have I2:Inv X CA σ (upd H h'.objs.size (.tup ys)) {s with heap:=h'.push {cls:=.type "tuple",data:=.seq its.toArray}}:=
   I1.laid (t':=s.toks) (fun b o e=>io _ e) (zD _) (show ObjOk X.prog X.w _ _ _ (.tup ys) from⟨hz,its,r',TupN.new _ _⟩)
  exact⟨.ref h'.objs.size,_,I2,rfl,q _ (I1.hok.fresh (zD _))⟩
 ·obtain⟨its,r',pl,hz⟩:=I.tuple hq;exact call_tuple_same pl ⟨.ref p,H,I,rfl,q⟩
def tyV(K:W.Frag)(T:String)(x:V)(H:Hp):Prop:=match x with
 |.str _=>T="str"
 |.int _=>T="int"
 |.ref p=>(T="list"∧∃xs,SqL K H p xs)∨(T="tuple"∧∃o,K.lookup p=some o∧o.cls=.type "tuple"∧o.dict=none)∨
   (T="dict"∧((∃kvs,H p=some (.dK kvs))∨∃kvs,H p=some (.dT kvs)))∨(T="set"∧∃S n,H p=some (.set S n))
 |_=>False
theorem rJ{CA:List (Addr×Obj)}{σ:St}{H:Hp}{s:Shared}{T:String}{x:V}{v:Value}(I:Inv X CA σ H s)(r:RelV x v)(ty:tyV X.K T x H):
  s.TypeIs v T∧∀a,v=.ref a→∃ob,s.heap.get? a=some ob∧ob.dict=none:=by
 cases x with
 |str z=>
  obtain⟨t,rfl⟩:=r;cases (show T="str" from ty);exact⟨typeIs_str s z t,fun _ e=>nomatch e⟩
 |int i=>
  obtain⟨t,rfl⟩:=r;cases (show T="int" from ty);exact⟨typeIs_int s i t,fun _ e=>nomatch e⟩
 |ref p=>
  cases r
  rcases ty with⟨rfl,xs,hq⟩|⟨rfl,o,hk,hc,hd⟩|⟨rfl,hk⟩|⟨rfl,S,n,hk⟩
  ·obtain⟨its,_,pl,_⟩:=I.list hq;refine⟨pl.isList.typeIs,fun a e=>?_⟩;cases e;obtain⟨o,n,e,c,hd,_⟩:=pl;exact⟨o,e,hd⟩
  ·refine⟨⟨o,I.kIn p o hk,hc⟩,fun a e=>?_⟩;cases e;exact⟨o,I.kIn _ o hk,hd⟩
  ·have z:∃o,s.heap.get? p=some o∧o.ExactDict:=by
    rcases hk with⟨kvs,hk⟩|⟨kvs,hk⟩
    ·obtain⟨_,_,_,_,o,_,_,e,ex,_⟩:=I.hok p _ hk;exact⟨o,e,ex⟩
    ·obtain⟨_,_,_,_,o,_,_,e,ex,_⟩:=I.hok p _ hk;exact⟨o,e,ex⟩
   obtain⟨o,e,ex⟩:=z;refine⟨⟨o,e,ex.1⟩,fun a e2=>?_⟩;cases e2;exact⟨o,e,ex.2.1⟩
  ·obtain⟨o,_,_,_,e,ex,_⟩:=I.hok p _ hk;refine⟨⟨o,e,ex.1⟩,fun a e2=>?_⟩;cases e2;exact⟨o,e,ex.2.1⟩
 |_=>exact False.elim ty
def tBM0(K:W.Frag)(T:String)(r:V→List V→Hp→VK→Prop)(to:TE):TE:=fun σ H Q=>to σ H fun x H1=>tyV K T x H1∧r x [] H1 Q
def tBM(K:W.Frag)(T:String)(r:V→List V→Hp→VK→Prop)(to:TE)(t:TA):TE:=fun σ H Q=>to σ H fun x H1=>tyV K T x H1∧t σ H1 fun xs H2=>r x xs H2 Q
variable{o e:Expr}{es:List Expr}{to:TE}{t:TA}{name:Str}{apos cpos:Pos}{T id:String}{r:V→List V→Hp→VK→Prop}
theorem U5(pa:PlainAttrs T)(slot:Slot T name id)(hty:typeOf (.builtin id)=pure (.type "method_descriptor"))(hm:MtR X id r)(ho:PE X o to)(hbase:attributeBase o name X.env (eval o X.env)=eval o X.env:=by rfl)(hline:(apos.endLine==cpos.line)=true:=by rfl):PE X (.Call (.Attribute o name apos) [] [] cpos) (tBM0 X.K T r to):=by
 intro CA s σ H Q I h;refine wpAny_Call_method0_late hbase hline (thn (ho CA s σ H _ I h) fun v s1 CB=>?_);obtain⟨x,H1,I1,r1,ty,q1⟩:=CB;obtain⟨h1,h2⟩:=rJ I1 r1 ty;exact⟨T,id,pa,slot,hty,h1,h2,Calls.callWith_builtin rfl (PySem.evalArgs_none (hm CA s1 σ H1 x [] v [] Q I1 r1 .nil q1))⟩
theorem Uo(pa:PlainAttrs T)(slot:Slot T name id)(hty:typeOf (.builtin id)=pure (.type "method_descriptor"))(hm:MtR X id r)(ho:PE X o to)(ha:PA X (e::es) t)(hbase:attributeBase o name X.env (eval o X.env)=eval o X.env:=by rfl)(hfew:((backTo cpos (starEach (e::es) X.env)).all (fun x=>!x.1) && (backToKw cpos (keywordEach [] X.env)).all (fun x=>x.1.isSome)
   && decide ((e::es).length+([]:List Keyword).length+(if ([]:List Keyword).isEmpty then 0 else 1)<30))=true:=by rfl)(hline:(apos.endLine==cpos.line)=true:=by rfl)(hs:starEach (e::es) X.env=(false,eval e X.env)::starEach es X.env:=by rfl)(hplain:(backTo cpos (starEach es X.env)).any (·.1)=false:=by rfl):
  PE X (.Call (.Attribute o name apos) (e::es) [] cpos) (tBM X.K T r to t):=by
 intro CA s σ H Q I h;refine wpAny_Call_method_late hbase hfew hline rfl (thn (ho CA s σ H _ I h) fun v s1 CB=>?_);obtain⟨x,H1,I1,r1,ty,q1⟩:=CB;obtain⟨h1,h2⟩:=rJ I1 r1 ty;refine⟨T,id,pa,slot,hty,h1,h2,?_⟩;have hA:=ha cpos CA s1 σ H1 _ I1 q1;rw[hs]at hA⊢;refine Calls.callWith_builtin (by show(false || (backTo cpos (starEach es X.env)).any (·.1))=false;rw[hplain] <;> rfl) (Calls.evalArgs_plain ?_);exact thn hA fun us s2 ⟨vs,H2,I2,r2,q2⟩=>hm CA s2 σ H2 x vs v us Q I2 r1 r2 q2
end
def MtM(X:Cx)(id:String)(r:V→List V→Hp→VK→Prop):Prop:=
 ∀(CA:List (Addr×Obj))(s:Shared)(σ:St)(H:Hp)(x:V)(xs:List V)(v:Value)(us:List Value)(Q:VK),Inv X CA σ H s→RelV x v→Vals xs us→r x xs H Q→
  wpAny (model X.prog X.w) X.A (call (.builtin id) (v::us)) (EP X CA σ Q) X.xe s
theorem Vals.one{x:V}{us:List Value}(h:Vals [x] us):∃u,us=[u]∧RelV x u:=by
 cases h with
 |cons r t=>
  cases t;exact⟨_,rfl,r⟩
theorem Vals.zero:∀{us:List Value},Vals [] us→us=[]
 |_,.nil=>rfl
theorem Vals.dropLast{xs:List V}{us:List Value}(h:Vals xs us):Vals xs.dropLast us.dropLast:=by
 induction h with
 |nil=>exact .nil
 |cons r t ih=>
  cases t with
  |nil=>exact .nil
  |cons q t'=>exact .cons r ih
theorem Vals.rep{xs:List V}{us:List Value}(h:Vals xs us):∀k:Nat,Vals (List.replicate k xs).flatten (List.replicate k us).flatten
 | 0=>.nil
 |k+1=>by
  rw[BX,BX,List.flatten_cons,List.flatten_cons];exact Vals.append h (Vals.rep h k)
theorem kC{α:Type}(l:List α):l.eraseIdx (l.length-1)=l.dropLast:=by
 induction l with
 |nil=>rfl
 |cons a r ih=>
  cases r with
  |nil=>rfl
  |cons b r=>
   have e:(a::b::r).length-1=((b::r).length-1)+1:=by
    have h1:(a::b::r).length=r.length+2:=rfl;have h2:(b::r).length=r.length+1:=rfl;omega
   rw[e,BZ,ih]
   all_goals rfl
theorem Ou(its:List Value):∀(k:Nat)(CO:List Value),
  List.foldl (fun x1 x2=>x1++x2) CO.toArray (List.replicate k its.toArray)=(CO++(List.replicate k its).flatten).toArray
 | 0,CO=>by simp
 |k+1,CO=>by
  have e:CO.toArray++its.toArray=(CO++its).toArray:=by simp
  have e2:(CO++its)++(List.replicate k its).flatten=CO++(List.replicate (k+1) its).flatten:=by
   rw[BX,List.flatten_cons,Ag]
  rw[←e2,←Ou its k (CO++its),←e,BX,BA]
section
variable{X:Cx}{CA:List (Addr×Obj)}{σ:St}{H:Hp}{s:Shared}{l b:Addr}{xs ys zs:List V}
theorem Inv.lset{its its':List Value}{n:Nat}{f:Array Value→Array Value}{t':Nat}(I:Inv X CA σ H s)(hH:H l=some (.lst xs))(e:s.heap.get? l=some {cls:=.type "list",data:=.seq its.toArray n})(hf:f its.toArray=its'.toArray)(hv:Vals ys its')(hz:ys.length≤sizeLine):
  Inv X CA σ (upd H l (.lst ys)) {s with heap:=s.heap.update l (Obj.mapSeq f),toks:=t'}:=by
 have q:=PySem.IsL.update e f;rw[hf]at q;refine I.write (x:=l) (e:=l) (by rw[hH];exact trivial) (.inl rfl) (fun b' u hb hu=>(A5 s.heap (Obj.mapSeq f) (Ne.symm hb)).trans hu) ⟨_,q⟩ ?_;exact⟨hz,its',_,hv,q⟩
theorem Inv.lnew{its:List Value}{t':Nat}(I:Inv X CA σ H s)(hv:Vals ys its)(hz:ys.length≤sizeLine):
  Inv X CA σ (upd H s.heap.objs.size (.lst ys)) {s with heap:=s.heap.push {cls:=.type "list",data:=.seq its.toArray},toks:=t'}:=
 I.laid (fun _ _ q=>io _ q) (zD _) ⟨hz,its,0,hv,zY _ rfl⟩
theorem Inv.fresh(I:Inv X CA σ H s):H s.heap.objs.size=none:=I.hok.fresh (zD _)
theorem Inv.lstM(I:Inv X CA σ H s)(hH:H l=some (.lst xs)):xs.length≤sizeLine∧∃(its:List Value)(n:Nat),Vals xs its∧xs.length=its.length∧s.heap.get? l=some {cls:=.type "list",data:=.seq its.toArray n}:=by
 obtain⟨z,its,n,r,e⟩:=I.hok l _ hH;exact⟨z,its,n,r,r.length,e⟩
theorem Sn{n:Nat}(h:n≤sizeLine):Builtin.List.listTooLong n=false:=by
 unfold Builtin.List.listTooLong;exact As (by omega)
end
section
variable{X:Cx}
def uv:V→List V→Hp→VK→Prop:=fun x vs H Q=>∃l xs y,x=.ref l∧vs=[y]∧H l=some (.lst xs)∧xs.length<sizeLine∧Q .non (upd H l (.lst (xs++[y])))
theorem Vt:MtM X "list.append" uv:=by
 intro CA s σ H x vs v us Q I rx rv h;obtain⟨l,xs,y,rfl,rfl,hH,hz,q⟩:=h;cases rx;obtain⟨u,rfl,ru⟩:=rv.one;obtain⟨z,its,n,r,hl,e⟩:=I.lstM hH;refine Cw F.slot_list_append ⟨_,e,rfl⟩ F.entry_list_append (F.args_list_append_2 _ _) (PySem.list_append l its.toArray n u (by rw[z8];omega)) ⟨e,?_⟩;refine⟨.non,_,I.lset (its':=its++[u]) hH e (by simp) (r.append (.cons ru .nil)) ?_,rfl,q⟩;rw[zI,AY];omega
def sM:V→List V→Hp→VK→Prop:=fun x vs H Q=>∃l b xs zs,x=.ref l∧vs=[.ref b]∧H l=some (.lst xs)∧H b=some (.lst zs)∧xs.length+zs.length≤sizeLine∧Q .non (upd H l (.lst (xs++zs)))
theorem Rm:MtM X "list.extend" sM:=by
 intro CA s σ H x vs v us Q I rx rv h;obtain⟨l,b,xs,zs,rfl,rfl,hH,hB,hz,q⟩:=h;cases rx;obtain⟨u,rfl,ru⟩:=rv.one;cases ru;obtain⟨z,its,n,r,hl,e⟩:=I.lstM hH;obtain⟨z2,its2,n2,r2,hl2,e2⟩:=I.lstM hB;have hsz:its.toArray.size+its2.toArray.size≤sizeLine:=by rw[z8,z8];omega
 have hlong:¬(!its.toArray.isEmpty && Builtin.List.listTooLong (its.toArray.size+its2.toArray.size))=true:=by
  rw[Sn hsz,Bool.and_false];exact zK
 refine Cw F.slot_list_extend ⟨_,e,rfl⟩ F.entry_list_extend (F.args_list_extend_2 _ _)
  (AutoSeq1.list_extend_list_list_0 l its.toArray n b its2.toArray n2 hlong (by rw[z8];omega) (by omega)) ⟨e,e2,?_⟩
 refine⟨.non,_,I.lset (its':=its++its2) hH e (by simp) (r.append r2) ?_,rfl,q⟩;rw[zI];omega
def rPop:V→List V→Hp→VK→Prop:=fun x vs H Q=>∃l xs y,x=.ref l∧vs=[]∧H l=some (.lst xs)∧xs[xs.length-1]?=some y∧Q y (upd H l (.lst xs.dropLast))
theorem gL:MtM X "list.pop" rPop:=by
 intro CA s σ H x vs v us Q I rx rv h;obtain⟨l,xs,y,rfl,rfl,hH,hy,q⟩:=h;cases rx;have hus:=rv.zero;subst hus;obtain⟨z,its,n,r,hl,e⟩:=I.lstM hH;obtain⟨u,hu,ru⟩:=r.get hy;have hy':its.toArray[its.toArray.size-1]?=some u:=by
  show its.toArray[its.length-1]?=some u;rw[←zL,←hl];exact hu
 refine Cw F.slot_list_pop ⟨_,e,rfl⟩ F.entry_list_pop (F.args_list_pop_1 _) (MeetsSeq.list_pop_last l its.toArray n u hy' (by rw[z8];omega)) ⟨e,?_⟩;refine⟨y,_,I.lset (its':=its.dropLast) hH e ?_ r.dropLast ?_,ru,q⟩
 ·show its.toArray.eraseIdxIfInBounds (its.toArray.size-1)=its.dropLast.toArray;rw[z8,List.eraseIdxIfInBounds_toArray,kC]
 ·rw[List.length_dropLast];omega
def rCat:R2:=fun x y H Q=>∃l b xs zs,x=.ref l∧y=.ref b∧H l=some (.lst xs)∧H b=some (.lst zs)∧xs.length+zs.length≤sizeLine∧∀p,H p=none→Q (.ref p) (upd H p (.lst (xs++zs)))
theorem fX:OpR X (binaryOp .Add) rCat:=by
 intro CA s σ H x y v u Q I rx ry h;obtain⟨l,b,xs,zs,rfl,rfl,hH,hB,hz,q⟩:=h;cases rx;cases ry;obtain⟨z,its,n,r,hl,e⟩:=I.lstM hH;obtain⟨z2,its2,n2,r2,hl2,e2⟩:=I.lstM hB;refine PySem.P.add_list e e2 ?_ (by rw[z8,z8];omega);have ea:its.toArray++its2.toArray=(its++its2).toArray:=by simp
 rw[ea];exact⟨.ref _,_,I.lnew (t':=s.toks) (r.append r2) (by rw[zI];omega),rfl,q _ I.fresh⟩
def rRep:R2:=fun x y H Q=>∃l k xs,x=.ref l∧y=.int k∧H l=some (.lst xs)∧-(2^63)≤k∧k<2^63∧xs.length*k.toNat≤sizeLine∧
 ∀p,H p=none→Q (.ref p) (upd H p (.lst (List.replicate k.toNat xs).flatten))
theorem sj{α:Type}(xs:List α)(k:Nat):(List.replicate k xs).flatten.length=k*xs.length:=by
 induction k with
 |zero=>simp
 |succ k ih=>rw[BX,List.flatten_cons,zI,ih,Nat.succ_mul,Nat.add_comm]
theorem we:OpR X (binaryOp .Mult) rRep:=by
 intro CA s σ H x y v u Q I rx ry h;obtain⟨l,k,xs,rfl,rfl,hH,h1,h2,hz,q⟩:=h;cases rx;obtain⟨t,rfl⟩:=ry;obtain⟨z,its,n,r,hl,e⟩:=I.lstM hH;have CS:its.toArray.size*k.toNat≤sizeLine:=by rw[z8,←hl];exact hz
 have hcap:¬its.toArray.size*k.toNat > (2^63-1) / 8:=by
  have:(sizeLine:Nat)≤(2^63-1) / 8:=by decide
  omega
 have hfit:¬(!Builtin.List.listFitsIndex k)=true:=by
  rw[fitsIndex_both h1 h2];exact zK
 have hlong:¬Builtin.List.listTooLong (its.toArray.size*k.toNat)=true:=by
  rw[Sn CS];exact zK
 have hnew:List.foldl (fun x1 x2=>x1++x2) #[] (List.replicate (if its.toArray.isEmpty=true then 0 else k.toNat) its.toArray)=(List.replicate k.toNat its).flatten.toArray:=by
  have f0:∀m:Nat,List.foldl (fun x1 x2=>x1++x2) #[] (List.replicate m its.toArray)=(List.replicate m its).flatten.toArray:=fun m=>by
   have:=Ou its m [];rw[List.nil_append]at this;exact this
  rw[f0];cases its with
  |nil=>simp
  |cons a r'=>rw[if_neg (by simp)]
 refine wpAny_binaryOp_repeat_ref (T:="list") (U:="int") (by decide) ⟨_,e,rfl⟩ (fun s'=>typeIs_int s' k t) noFill_list_mul F.fills_int_mul F.slot_int_rmul repeat_list F.slot_int_index.lookup
  (Cw F.slot_int_rmul (typeIs_int s k t) F.entry_int_rmul (F.args_int_rmul_2 _ _) (int___rmul___int_list k t l its.toArray n)
   ⟨e,rfl,⟨_,e,rfl⟩,Cw F.slot_list_mul ⟨_,e,rfl⟩ F.entry_list_mul (F.args_list_mul_2 _ _) (AutoListH.list___mul___list_int_3 l its.toArray n k t hfit hcap hlong) ⟨e,?_⟩⟩)
 rw[hnew];exact⟨.ref _,_,I.lnew (t':=s.toks) (r.rep k.toNat) (by rw[sj,Nat.mul_comm];exact hz),rfl,q _ I.fresh⟩
end
section
variable{prog:Program}{w:World}{A:Around}{E:Value→Shared→Prop}{s:Shared}
theorem oM(its its2:List Value)(a c:Nat):its.toArray.extract 0 a++its2.toArray++its.toArray.extract c its.toArray.size=(its.take a++its2++its.drop c).toArray:=by
 apply Array.toList_inj.mp
 first
  | (simp
     exact List.take_of_length_le (by simp))
  |simp[List.take_of_length_le]
  |simp
end
section
variable{X:Cx}
end
end L2
namespace Att
open PySem PySem.W PySem.Calls PyProof.Rows
theorem Q4{P:Params}{h:Heap}:∀(ns:List Int)(vs:List Value),WellAll P h vs (ns.map WData.int)→IntsAre vs ns:=by
 intro ns
 induction ns with
 |nil=>
  intro vs w;rw[Cs]at w;cases w;exact .nil
 |cons n ns ih=>
  intro vs w;rw[zH]at w;cases w with
  |cons a b=>
   cases a;exact .cons _ _ (ih _ b)
theorem oO{l:OpenLaw}{n:Nat}(hn:l.most=some n){P:Params}{h:Heap}{args:List WData}{vals:List Value}(hpre:l.row.toRowW.claim.pre args=true)(hwl:WellAll P h vals args):
  ∃a vs ns,vals=[Value.ref a]∧args=[WData.list (ns.map WData.int)]∧h.get? a=some {cls:=.type "list",data:=.seq vs.toArray}∧IntsAre vs ns∧ns.length≤n:=by
 have hsh:WShape.hasAll [] args [.list .int]=true:=(pre_splitW hpre).1;have hc:l.pre.holds [] {args:=args}=true:=(pre_splitW hpre).2;obtain⟨d,r,rfl,h1,h2⟩:=hasAllW_cons hsh;obtain rfl:=hasAllW_nil h2;obtain⟨xs,rfl,h3⟩:=hasW_list h1;obtain⟨ns,rfl⟩:=items_int h3;have CS:ns.length≤n:=by
  unfold OpenLaw.pre at hc;have h4:(WTm.not (.lt (.lit (.int (n:Int))) (.len (.arg 0)))).holds [] {args:=[.list (ns.map .int)]}=true:=by
   have h4:=(holds_andW hc).1;rw[hn]at h4;exact h4
  have h5:=condW_of h4 (w_not (w_lt w_lit (w_len_list (w_arg rfl))));rw[az]at h5;refine Nat.le_of_not_lt fun q=>?_;have q':(n:Int)<((ns.length:Nat):Int):=by omega
  first
   | (rw[zP q']at h5;exact absurd h5 (by decide))
   | (simp at h5;omega)
 cases hwl with
 |cons w1 w2=>
  cases w2;cases w1 with
  |list ho hall=>exact⟨_,_,ns,rfl,rfl,ho,Q4 ns _ hall,CS⟩
theorem nO(l:OpenLaw)(args:List WData):l.row.toRowW.claim.post args (.bool true) args=true:=
 postW_of (r:=l.row.toRowW) (X:=(true==true))
  (show WShape.has [] (.bool true) .bool=true by first | rfl | decide | simp[WShape.has,WShape.arms,WShape.armsAll])
  (show(WTm.eq .res (.lit (.bool true))).value [] {args:=args,res:=some (.bool true),after:=args}=some (.bool (true==true))from w_eq_bool (w_res rfl) w_lit) rfl
theorem attach_call{l:OpenLaw}{n:Nat}{q:Program}{loose:List Str}{XP:(Str→Option Value)→Heap→Prop}{YP:World→Heap→Prop}{d:DefRec}(hn:l.most=some n)(hdf:d.params.defaults=[])(call:∀(w:World) (s₀ s₁:Shared) (mg mb:Str→Option Value) (fa:Addr) (o:Obj) (pm cd doc:Value) (a:Addr) (vs:List Value) (ns:List Int),
   Ground q loose [] XP w s₀ mg mb s₁.heap→YP w s₁.heap→
   s₁.heap.get? fa=some o→o.data=.func (docDef d.name d.params d.body d.scope pm cd doc)→s₁.heap.CodeRec cd d.name→mg d.name=some (.ref fa)→
   s₁.heap.get? a=some {cls:=.type "list",data:=.seq vs.toArray}→IntsAre vs ns→ns.length≤n→s₁.gens=#[]→
   codeAny (model l.prog w) callerA (.call (.ref fa) ⟨[.ref a],[]⟩) (fun r s'=>r=.ok (.ret (.bool true))∧OldK s₁.heap s'.heap∧s'.os=s₁.os∧AllBare s'.gens) s₁):
  WalkO q loose XP YP l.row.toRowW d [] (fun f vs=>PySem.call f vs):=by
 intro w s₀ s₁ mg mb G Y fa o pm cd doc dV kV ho hd hcd hD hmg hg args vals as hpre hlay hrd hwl hlo;obtain rfl:dV=.none:=Dflts.none hD hdf;obtain rfl:kV=.none:=Dflts.noKw hD;obtain⟨a,vs,ns,rfl,rfl,hobj,hints,CS⟩:=oO hn hpre hwl;refine enter_call (Cr (call w s₀ s₁ mg mb fa o pm cd doc a vs ns G Y ho (fd_plain hd) hcd hmg hobj hints CS hg) fun r s' hq=>?_);obtain⟨rfl,h2,h3,h4⟩:=hq;exact⟨.inl ⟨.bool true,.bool true,[],rfl,fun _=>rfl,.bool true,nO l _,fun _=>⟨List.Pairwise.nil,fun _ hm=>(nomatch hm)⟩⟩,h2,h3,h4⟩
section
variable{prog:Program}{w:World}{A:Around}{E:Value→Shared→Prop}{s:Shared}{K:Frag}
end
end Att
namespace L2
open PySem PySem.Spec PyProof.Rows
theorem R5:∀{vs:List Value}{ns:List Int},IntsAre vs ns→Vals (ns.map V.int) vs
 |_,_,.nil=>.nil
 |_,_,.cons n t h=>.cons ⟨t,rfl⟩ (R5 h)
end L2
namespace L2
open PySem PySem.Spec PyProof.Rows
def aB(s:Stmt):Arguments:=match s with
 |.FunctionDef _ a _ _ _ _ _ _ _ _=>a
 |_=>{posonlyargs:=[],args:=[],vararg:=none,kwonlyargs:=[],kw_defaults:=[],kwarg:=none,defaults:=[]}
def aA(s:Stmt):List Stmt:=match s with
 |.FunctionDef _ _ b _ _ _ _ _ _ _=>b
 |_=>[]
def aa(s:Stmt):Scope:=match s with
 |.FunctionDef _ _ _ _ _ _ sc _ _ _=>sc
 |_=>{kind:=.function,names:=[],isGenerator:=false,isCoroutine:=false}
abbrev CX0:CXT:=fun _ _ _ _ _ _=>False
abbrev E0:XK:=fun _ _ _=>False
theorem zy{X:Cx}:jP CX0 X E0:=fun _ _ _ _ _ _ _ h=>h.elim
structure Fun(K:W.Frag)(x qual:Str)(st:Stmt)(f:Addr)(fd:FuncData):Prop where
 ex:∃(oc:Value)(od:Option Addr)(kV doc pm:Value)(an:Option Addr)(cdv ct:Value)(osl:Array (Option Value)),
  fd=W.fnOf x qual (aB st) (aA st) (aa st) .none kV doc pm an cdv ct∧K.lookup f=some ⟨oc,od,.func fd,osl⟩∧W.codeIn K cdv qual=true
 kp:W.keepIn K (.ref f)=true
section
variable{P:Program}{w:World}{K:W.Frag}{mg:Str→Option Value}{base:Heap}
theorem Fun.ok{x qual:Str}{st:Stmt}{f:Addr}{fd:FuncData}{N ps:List Str}{k:Nat}{sp:Sp}(F:Fun K x qual st f fd)(S:FnScope N ps (aa st))(len:∀vs H Q E,sp vs H Q E→vs.length=ps.length)(hbody:∀(cdv:Value) (A:Around) (outer:List Env) (s:Shared) (H:Hp) (vs:List V) (Q:VK) (E:XK),Room k (A.deeper (envOfC qual (aa st) s.heap.objs.size f cdv))→sp vs H Q E→
   ∃t,PSs (nN CX0 P w K mg base N qual (aa st) f cdv A outer s H E).nox (aA st) t∧t {nx:=fun _ H'=>Q .non H',rt:=Q} (cU N vs) H):FnOk P w K mg base CX0 (k+1) f fd ps sp:=by
 obtain⟨oc,od,kV,doc,pm,an,cdv,ct,osl,rfl,lk,hcd⟩:=F.ex;refine rK lk hcd S len fun A outer s H vs Q E hr hsp=>?_;obtain⟨t,h,q⟩:=hbody cdv A outer s H vs Q E hr hsp;exact⟨t,h.nox,q⟩
theorem Fun.binds{x qual:Str}{st:Stmt}{f:Addr}{fd:FuncData}{ps:List Str}(F:Fun K x qual st f fd)(h:∀(kV doc pm:Value) (an:Option Addr) (cdv ct:Value) (us:List Value),us.length=ps.length→bindArgs (W.fnOf x qual (aB st) (aA st) (aa st) .none kV doc pm an cdv ct) ⟨us,[]⟩=pure (ps.zip us)):Binds K fd ps []:=by
 obtain⟨oc,od,kV,doc,pm,an,cdv,ct,osl,rfl,lk,hcd⟩:=F.ex;exact .all (h kV doc pm an cdv ct)
theorem gq{x qual:Str}{st:Stmt}{f:Addr}{oc:Value}{od an:Option Addr}{osl:Array (Option Value)}{kV doc pm cdv ct:Value}(l:K.lookup f=some ⟨oc,od,.func (W.fnOf x qual (aB st) (aA st) (aa st) .none kV doc pm an cdv ct),osl⟩)(c:W.codeIn K cdv qual=true)(k:W.keepIn K (.ref f)=true):Fun K x qual st f (W.fnOf x qual (aB st) (aA st) (aa st) .none kV doc pm an cdv ct):=⟨⟨oc,od,kV,doc,pm,an,cdv,ct,osl,rfl,l,c⟩,k⟩
end
theorem Yg{A:Around}{k:Nat}(hr:Room k A):A.units+1<cLine:=Nat.lt_of_le_of_lt (Nat.add_le_add_left (by decide:1≤64) _) hr.units
section
variable{X:Cx}
theorem pv(i:Nat){x:Str}{pos:Pos}(hN:X.N[i]?=some x:=by rfl)(hv:Vis X.env.scope x:=by first | exact Or.inl rfl | exact Or.inr (Or.inl rfl) | exact Or.inr (Or.inr rfl))(hd:(x==("__debug__":Str))=false:=by decide)(hcd:(x==("__classdict__":Str))=false:=by decide):PE X (.Name x pos) (wZ i):=pV hN hv hd hcd
end
theorem Xg{A B:Prop}(h:B):if false=true then A else B:=by
 rw[pi zK];exact h
theorem U9{A B:Prop}(h:A):if true=true then A else B:=by
 rw[zE rfl];exact h
theorem Xh{c A B:Prop}[Decidable c](h1:c→A)(h2:¬c→B):if c then A else B:=by
 by_cases h:c
 ·rw[zE h];exact h1 h
 ·rw[pi h];exact h2 h
def Same(H H':Hp):Prop:=∀b o,H b=some o→H' b=some o
theorem Same.refl(H:Hp):Same H H:=fun _ _ h=>h
theorem Same.trans{H H1 H2:Hp}(a:Same H H1)(b:Same H1 H2):Same H H2:=fun c o h=>b c o (a c o h)
theorem Same.free{H H':Hp}(e:Same H H'){l:Addr}(h:H' l=Option.none):H l=Option.none:=by
 cases q:H l with
 |none=>rfl
 |some o=>
  rw[e l o q]at h;cases h
end L2
set_option maxHeartbeats 4000000
set_option bootstrap.genMatcherCode false
set_option genInjectivity false
set_option genSizeOf false
noncomputable section
namespace L2
open PySem PySem.Spec PyProof.Rows
theorem Pr{α β:Type}{f:α→β→Sem (ForInStep β)}{g:β→α→β}:∀(l:List α)(c:β),(∀x∈l,∀c,f x c=pure (.yield (g c x)))→forIn l c f=pure (l.foldl g c)
 | [],_,_=>rfl
 |x::l,c,h=>by
  rw[List.forIn_cons,h x Au,pure_bind];exact Pr l (g c x) fun y hy=>h y (Ay _ hy)
def a7(env:Env)(CO:List (Str×Addr))(x:Str×NameKind):List (Str×Addr):=if x.2==.free then(x.1,(env.cells.lookup x.1).getD 0)::CO else CO
def aI(env:Env)(names:List (Str×NameKind)):List (Str×Addr):=names.foldl (a7 env) []
theorem Tf{scope:Scope}{env:Env}(h:∀x∈scope.names,x.2=.free→∃c,env.cells.lookup x.1=some c):closureFor scope env=pure (aI env scope.names):=by
 simp only[closureFor];rw[Pr (g:=a7 env) scope.names [] (fun x hx c=>by
  obtain⟨n,kind⟩:=x;by_cases hk:kind=.free
  ·subst hk;obtain⟨a,ha⟩:=h _ hx rfl;have ha':env.cells.lookup n=some a:=ha;simp[a7,cellOf,ha']
  ·have hb:(kind==NameKind.free)=false:=by simpa using hk
   simp[a7,hb])]
 rfl
theorem Tb{env:Env}:∀(names:List (Str×NameKind))(CO:List (Str×Addr)),(∀x∈names,x.2=.free→∃c,env.cells.lookup x.1=some c)→(∀p∈CO,env.cells.lookup p.1=some p.2)→
  ∀p∈names.foldl (a7 env) CO,env.cells.lookup p.1=some p.2
 | [],_,_,h=>h
 |x::r,CO,hn,h=>by
  refine Tb r _ (fun y hy=>hn y (Ay _ hy)) ?_;intro p hp;unfold a7 at hp
  split at hp
  ·rename_i hk
   rcases zZ.mp hp with e | e
   ·subst e;obtain⟨c,hc⟩:=hn x List.mem_cons_self (by simpa using hk);show env.cells.lookup x.1=some ((env.cells.lookup x.1).getD 0);rw[hc];rfl
   ·exact h p e
  ·exact h p hp
theorem N2{env:Env}:∀(names:List (Str×NameKind))(CO:List (Str×Addr))(p:Str×Addr),p∈CO→p∈names.foldl (a7 env) CO
 | [],_,_,h=>h
 |x::r,CO,p,h=>by
  refine N2 r _ p ?_;unfold a7
  split
  ·exact Ay _ h
  ·exact h
theorem Wu{env:Env}:∀(names:List (Str×NameKind))(CO:List (Str×Addr))(x:Str),(x,NameKind.free)∈names→∃c,(x,c)∈names.foldl (a7 env) CO
 |y::r,CO,x,h=>by
  rcases zZ.mp h with e | e
  ·subst e;exact⟨_,N2 r _ _ (by unfold a7;rw[zE (by rfl)];exact Au)⟩
  ·exact Wu r _ x e
theorem X7{α:Type}:∀{l:List (Str×α)}{x:Str}{c:α},(x,c)∈l→∃d,l.lookup x=some d
 | (y,d)::r,x,c,h=>by
  rw[B0];cases e:x==y with
  |true=>exact⟨d,rfl⟩
  |false=>
   rcases zZ.mp h with q | q
   ·cases q;rw[beq_self_eq_true]at e;cases e
   ·exact X7 q
theorem Wz(env:Env):∀(names:List (Str×NameKind))(x:Str),(names.map fun(n,k)=>if (k==NameKind.free && env.scope.kind==.function && env.kindOf n==some .cell) then(n,NameKind.cell) else(n,k)).lookup x =
  (names.lookup x).map fun k=>if (k==NameKind.free && env.scope.kind==.function && env.kindOf x==some .cell)then NameKind.cell else k
 | [],_=>rfl
 | (n,k)::r,x=>by
  have ih:=Wz env r x;show List.lookup x ((if (k==NameKind.free && env.scope.kind==.function && env.kindOf n==some .cell)=true then(n,NameKind.cell) else(n,k))::_)=_;have hr:((n,k)::r).lookup x=(match x==n with | true=>some k | false=>r.lookup x):=B0 ..;rw[hr];by_cases hc:(k==NameKind.free && env.scope.kind==.function && env.kindOf n==some .cell)=true
  ·rw[zE hc,B0];cases hx:x==n with
   |true=>
    have e:x=n:=eq_of_beq hx;subst e;show some NameKind.cell=some (if (k==NameKind.free && env.scope.kind==.function && env.kindOf x==some .cell)=true then NameKind.cell else k);rw[zE hc]
   |false=>exact ih
  ·rw[pi hc,B0];cases hx:x==n with
   |true=>
    have e:x=n:=eq_of_beq hx;subst e;show some k=some (if (k==NameKind.free && env.scope.kind==.function && env.kindOf x==some .cell)=true then NameKind.cell else k);rw[pi hc]
   |false=>exact ih
def cxC(X:Cx)(own:List Str)(scope:Scope)(cl:List (Str×Addr))(C:Addr)(s:Shared)(H:Hp)(fp:List Addr):Cx:=
 {X with N:=own++X.N,s₀:=s,H₀:=H,env:=compEnvC scope cl C X.env,outer:=X.stack,stack:=X.stack,ex:=fp,fn:=fun _=>false,xe:=fun _ _=>False}
def PTs(X:Cx)(ifs:List Expr)(t:TT):Prop:=
 ∀(CA:List (Addr×Obj))(s:Shared)(σ:St)(H:Hp)(Q:Bool→Hp→Prop),Inv X CA σ H s→t σ H Q→
  wpAny (model X.prog X.w) X.A (forIn ifs true fun c r=>if r=true then do let ok ←isTrue c X.env (eval c X.env);pure (ForInStep.yield ok)else pure (ForInStep.yield r)) (TP X CA σ Q) X.xe s
def tAll:TT:=fun _ H Q=>Q true H
theorem Wh{X:Cx}:PTs X [] tAll:=fun _ _ _ H _ I h=>wpAny_tests_nil ⟨H,I,h⟩
theorem Se{X:Cx}{c:Expr}{t:TT}(h:PT X c t):PTs X [c] t:=fun CA s σ H Q I q=>wpAny_tests_one (h CA s σ H Q I q)
def Wk:St→St→Prop
 | [],[]=>True
 |_::r,none::t=>Wk r t
 |a::r,some v::t=>a=some v∧Wk r t
 |_,_=>False
theorem Wk.len:∀{a b:St},Wk a b→b.length=a.length
 | [],[],_=>rfl
 |_::r,none::t,h=>AX (·+1) (Wk.len (a:=r) (b:=t) h)
 |_::r,some _::t,h=>AX (·+1) (Wk.len (a:=r) (b:=t) h.2)
 | [],none::_,h=>h.elim
 | [],some _::_,h=>h.elim
 |_::_,[],h=>h.elim
theorem Wk.get:∀{a b:St}(i:Nat)(v:V),Wk a b→b[i]?=some (some v)→a[i]?=some (some v)
 |_::_,none::_,0,v,_,e=>by simp at e
 |_::_,some _::_,0,v,h,e=>by simp at e⊢;rw[h.1,e]
 |_::r,none::t,i+1,v,h,e=>by simp at e⊢;exact Wk.get (a:=r) (b:=t) i v h e
 |_::r,some _::t,i+1,v,h,e=>by simp at e⊢;exact Wk.get (a:=r) (b:=t) i v h.2 e
 | [],[],i,v,h,e=>by simp at e
 | [],none::_,_,_,h,_=>h.elim
 | [],some _::_,_,_,h,_=>h.elim
 |_::_,[],_,_,h,_=>h.elim
theorem Wk.refl:∀(a:St),Wk a a
 | []=>trivial
 |none::r=>Wk.refl r
 |some _::r=>⟨rfl,Wk.refl r⟩
def CompR(J:It)(H:Hp)(k:Nat)(g:TG)(tt:TT)(te:TE)(σ:St)(Q:VK):Prop:=∃W:Nat→Nat→List V→Hp→Prop,(∃m,W 0 m [] H)∧∀i m ys H,W i m ys H→
 (J.stop i H∧ys.length≤sizeLine∧∀p,H p=none→Q (.ref p) (upd H p (.lst ys)))∨
 (J.go i H∧ys.length<sizeLine∧∀x H',J.yld i H x H'→g x (List.replicate k none++σ) H' fun σ2 H2=>Wk σ2 (List.replicate k none++σ)∧tt σ2 H2 fun ok H3=>
  if ok=true then te σ2 H3 fun y H4=>∃m',m'<m∧W (i+1) m' (ys++[y]) H4 else ∃m',m'<m∧W (i+1) m' ys H3)
def ip(wi:TI)(g:TG)(tt:TT)(te:TE)(k:Nat):TE:=fun σ H Q=>wi σ H fun J H1=>CompR J H1 k g tt te σ Q
theorem iL{prog:Program}{w:World}{A:Around}{R:Result→Shared→Prop}{s:Shared}{elt target iter:Expr}{ifs:List Expr}{scope:Scope}{pos:Pos}{it CO:Value}{env:Env}(I:Nat→Shared→Prop)(turn:∀n s,I n s→wpAny (model prog w) A (pyNext it) (fun r s₁=>match r with
   |none=>R (.ok .next) s₁
   |some v=>wpAny (model prog w) A (letOwnedTupleGo target it v) (fun _ s₁'=>wpAny (model prog w) A (assign target env v) (fun _ s₂=>
     wpAny (model prog w) A (forIn ifs true fun c r=>if r=true then do let ok ←isTrue c env (eval c env);pure (ForInStep.yield ok)else pure (ForInStep.yield r)) (fun ok s₃=>
      if ok=true then wpAny (model prog w) A (eval elt env) (fun x s₄=>
       wpAny (model prog w) A (call (.builtin "list.append") [CO,x]) (fun _ s₅=>∃m,m<n∧I m s₅) (fun _ _=>False) s₄) (fun _ _=>False) s₃
      else ∃m,m<n∧I m s₃) (fun _ _=>False) s₂) (fun _ _=>False) s₁') (fun _ _=>False) s₁) (fun _ _=>False) s)(n:Nat)(h:I n s):
  codeAny (model prog w) A (.compLoop (.ListComp elt [⟨target,iter,ifs,0⟩] scope pos) 0 it CO env) R s:=by
 refine codeAny_loop rfl I (fun n s hI=>?_) n h;show wpAny _ A ((compTurn (.ListComp elt [⟨target,iter,ifs,0⟩] scope pos) 0 it CO env).onRaise (fun x=>do noteFrame x env;theTreesLotGoes x)) _ _ s;refine wpAny_noted ?_;rw[compTurn_list];refine ae (wpAny_standAt (ae (AU (turn n s hI) (fun r s₁ h₁=>?_) fun _ _ h'=>h'.elim)));cases r with
 |none=>exact zC h₁
 |some v=>
  refine ae (AU h₁ (fun _ s₁' h₁'=>?_) fun _ _ h'=>h'.elim);refine ae (AU h₁' (fun _ s₂ h₂=>ae (AU h₂ (fun ok s₃ h₃=>?_) fun _ _ h'=>h'.elim)) fun _ _ h'=>h'.elim);cases ok with
  |false=>exact zC ⟨rfl,h₃⟩
  |true=>
   exact ae (ae (AU h₃ (fun x s₄ h₄=>ae (AU h₄ (fun _ s₅ h₅=>zC (zC ⟨rfl,h₅⟩)) fun _ _ h'=>h'.elim)) fun _ _ h'=>h'.elim))
abbrev lo(its:List Value)(n:Nat):Obj:={cls:=.type "list",data:=.seq its.toArray n}
structure TurnP(Pc:Cx→Prop)(P:Program)(w:World)(K:W.Frag)(tg:Expr)(J:It)(fp:List Addr)(it:Addr)(tn:Nat→Heap→Prop):Prop where
 obj:∀i h,tn i h→∀b∈fp,∃o,h.get? b=some o∧∀v,o.data≠.cell v
 keep:∀i h h',tn i h→(∀b∈fp,∀o,h.get? b=some o→h'.get? b=some o)→tn i h'
 item:∀(X:Cx),X.prog=P→X.w=w→X.K=K→Pc X→∀(i:Nat)(CA:List (Addr×Obj))(s:Shared)(σ:St)(H:Hp)(E:Value→Shared→Prop),Inv X CA σ H s→(∀b∈fp,dh X CA H b)→tn i s.heap→J.go i H→
  wpAny (model P w) X.A (pyNext (.ref it)) (fun r s1=>∃u,r=some u∧
   wpAny (model P w) X.A (letOwnedTupleGo tg (.ref it) u) (fun _ s2=>∃x H',Inv X CA σ H' s2∧RelV x u∧J.yld i H x H'∧tn (i+1) s2.heap∧∀b∈fp,H' b=none) E s1) E s
 done:∀(X:Cx),X.prog=P→X.w=w→X.K=K→Pc X→∀(i:Nat)(CA:List (Addr×Obj))(s:Shared)(σ:St)(H:Hp)(E:Value→Shared→Prop),Inv X CA σ H s→(∀b∈fp,dh X CA H b)→tn i s.heap→J.stop i H→
  wpAny (model P w) X.A (pyNext (.ref it)) (fun r s1=>r=none∧Inv X CA σ H s1) E s
 self:∀(A:Around)(i:Nat)(s:Shared)(Q:Value→Shared→Prop)(E:Value→Shared→Prop),tn i s.heap→Q (.ref it) s→wpAny (model P w) A (pyIter (.ref it)) Q E s
def PIP(Pc:Cx→Prop)(X:Cx)(tg iter:Expr)(wi:TI):Prop:=
 ∀(CA:List (Addr×Obj))(s:Shared)(σ:St)(H:Hp)(R:It→Hp→Prop),Inv X CA σ H s→wi σ H R→
  wpAny (model X.prog X.w) X.A (eval iter X.env) (fun v s1=>wpAny (model X.prog X.w) X.A (pyIter v) (fun itv s2=>∃(it:Addr)(fp:List Addr)(tn:Nat→Heap→Prop)(J:It)(H':Hp),itv=.ref it∧Inv X CA σ H' s2∧TurnP Pc X.prog X.w X.K tg J fp it tn∧tn 0 s2.heap∧(∀b∈fp,dh X CA H' b)∧R J H') X.xe s1) X.xe s
theorem PI.p{X:Cx}{tg iter:Expr}{wi:TI}(h:PI X tg iter wi):PIP (fun X=>X.calm=true) X tg iter wi:=fun CA s σ H R I q=>AU (h CA s σ H R I q) (fun v s1 h1=>AU h1 (fun itv s2 ⟨it,fp,tn,J,H',e,I',T,t0,f,r⟩=>⟨it,fp,tn,J,H',e,I',⟨T.obj,T.keep,T.item,T.done,T.self⟩,t0,f,r⟩) fun _ _ z=>z) fun _ _ z=>z
structure CompOk(X:Cx)(own:List Str)(scope:Scope):Prop where
 cell:∀y∈scope.names,y.2≠.cell
 kind:scope.kind=.function
 names:∀y∈scope.names,y.2=.local→scope.names.lookup y.1=some .local
 fr:∀y∈scope.names,y.2=.free→X.env.scope.names.lookup y.1=some .cell∨X.env.scope.names.lookup y.1=some .free
 loc:∀y∈X.N,scope.names.lookup y≠some .local
def kO(names:List (Str×NameKind)):Bool:=names.all fun y=>(y.2 != .cell) && (y.2 != .local || names.lookup y.1==some .local)
def kS(outer names:List (Str×NameKind)):Bool:=names.all fun y=>y.2 != .free || outer.lookup y.1==some .cell || outer.lookup y.1==some .free
def kc(N:List Str)(names:List (Str×NameKind)):Bool:=N.all fun y=>names.lookup y != some .local
theorem CompOk.of{X:Cx}{own:List Str}{scope:Scope}(hc:X.calm=X.calm)(hk:scope.kind=.function)(h1:kO scope.names=true)(h2:kS X.env.scope.names scope.names=true)(h3:kc X.N scope.names=true):CompOk X own scope:=by
 unfold kO at h1;unfold kS at h2;unfold kc at h3;rw[Az]at h1 h2 h3;refine⟨fun y hy=>?_,hk,fun y hy hl=>?_,fun y hy hf=>?_,fun y hy=>?_⟩
 ·have:=h1 y hy;rw[Ap]at this;exact bne_iff_ne.mp this.1
 ·have:=h1 y hy;rw[Ap,hl]at this;simpa using this.2
 ·have:=h2 y hy;rw[hf]at this;simpa using this
 ·exact bne_iff_ne.mp (h3 y hy)
section
variable{X:Cx}{own:List Str}{scope:Scope}{CA:List (Addr×Obj)}{σ:St}{H:Hp}{s:Shared}{fp:List Addr}
theorem CompOk.cells(O:CompOk X own scope)(ok:X.Ok):∀x∈scope.names,x.2=.free→∃c,X.env.cells.lookup x.1=some c:=fun x hx hk=>ok.has x.1 (O.fr x hx hk)
theorem CompOk.sub(O:CompOk X own scope)(ok:X.Ok):∀x c,(aI X.env scope.names).lookup x=some c→X.env.cells.lookup x=some c:=fun x c e=>
 Tb scope.names [] (O.cells ok) (fun _ h=>nomatch h) (x,c) (Af e)
theorem CompOk.free_of(O:CompOk X own scope){cl:List (Str×Addr)}{C:Addr}{x:Str}(h:(compEnvC scope cl C X.env).kindOf x=some .cell∨(compEnvC scope cl C X.env).kindOf x=some .free):scope.names.lookup x=some .free:=by
 have e:(compEnvC scope cl C X.env).kindOf x=(scope.names.lookup x).map fun k=>if (k==NameKind.free && X.env.scope.kind==.function && X.env.kindOf x==some .cell)then NameKind.cell else k:=Wz X.env scope.names x
 rw[e]at h;cases q:scope.names.lookup x with
 |none=>rw[q]at h;simp at h
 |some k=>
  rw[q]at h;by_cases hk:k=.free
  ·rw[hk]
  ·have hc:k≠.cell:=O.cell (x,k) (Af q);have hb:(k==NameKind.free)=false:=by simpa using hk
   have hr:¬((k==NameKind.free && X.env.scope.kind==.function && X.env.kindOf x==some .cell)=true):=by rw[hb];exact zK
   have h:some (if (k==NameKind.free && X.env.scope.kind==.function && X.env.kindOf x==some .cell)=true then NameKind.cell else k)=some NameKind.cell∨some (if (k==NameKind.free && X.env.scope.kind==.function && X.env.kindOf x==some .cell)=true then NameKind.cell else k)=some NameKind.free:=h;rw[pi hr]at h
   rcases h with h | h
   ·exact absurd (Aa h) hc
   ·exact absurd (Aa h) hk
theorem CompOk.look(O:CompOk X own scope)(ok:X.Ok){x:Str}(h:scope.names.lookup x=some .free):∃c,(aI X.env scope.names).lookup x=some c∧X.env.cells.lookup x=some c:=by
 obtain⟨c,hc⟩:=Wu scope.names [] (env:=X.env) x (Af h);obtain⟨d,hd⟩:=X7 hc;exact⟨d,hd,O.sub ok x d hd⟩
theorem j6(I:Inv X CA σ H s){b:Addr}(h1:b≠X.env.locals)(h2:b∉X.fs):b∉frs X.stack:=fun z=>(zZ.mp (I.stkSub b z)).elim h1 h2
theorem oR(O:CompOk X own scope)(I:Inv X CA σ H s)(hf:∀b∈fp,dh X CA H b)(ho:∀b∈fp,∃o,s.heap.get? b=some o){h₁:Heap}{C:Addr}{tk:Nat}{m:Str→Option Value}(hC:s.heap.objs.size<C)(hD:h₁.get? s.heap.objs.size=some (lo [] 0))(old:∀b o,s.heap.get? b=some o→h₁.get? b=some o)(hns:h₁.Ns C m):
  Inv (cxC X own scope (aI X.env scope.names) C s H fp) (CA++[(s.heap.objs.size,lo [] 0)]) (List.replicate own.length none++σ) H {s with heap:=h₁,toks:=tk}:=by
 have ltD:∀{b:Addr}{o:Obj},s.heap.get? b=some o→b<s.heap.objs.size:=fun e=>zN e;have nC:∀{b:Addr}{o:Obj},s.heap.get? b=some o→b≠C:=fun e=>zX (Bc (ltD e) hC);have hsub:=O.sub I.ok;refine⟨⟨I.ok.mod,by show(relabel scope X.env).kind=_;exact O.kind,I.ok.glob,I.ok.blt,Bq hC,fun x y c h1 h2=>I.ok.inj x y c (hsub x c h1) (hsub y c h2),fun x hx=>?_,fun x c hx _=>absurd (show false=true from hx) zK,I.ok.hd,I.ok.frames,.inl rfl,fun b hb=>⟨?_,fun x c e=>?_⟩,I.bs,At I.ok.bsz I.sz,fun b o e hb=>?_,fun b hb=>j6 I (hf b hb).2.1 (hf b hb).2.2.1,I.stack,I.stkFree⟩,
  rfl,I.bare,Un.kept old,⟨m,hns,fun i x v e1 e2 e3=>?_⟩,fun x c e=>?_,I.hok.fresh (Bq hC),fun x c e=>I.freeC x c (hsub x c e),fun p hp=>?_,I.hok.kept old,?_⟩
 ·obtain⟨c,hc,_⟩:=O.look I.ok (O.free_of hx);exact⟨c,hc⟩
 ·obtain⟨o,e⟩:=ho b hb;exact nC e
 ·exact(hf b hb).2.2.2.2.1 x c (hsub x c e)
 ·rcases(hf b hb).2.2.2.1 with z | z
  ·exact I.ok.noex b o e z
  ·exact absurd (z6 (zN e) (At I.ok.bsz z)) (Bd _)
 ·have e1:(own++X.N)[i]?=some x:=e1;by_cases hi:i<own.length
  ·rw[List.getElem?_append_left (by simpa using hi),List.getElem?_replicate,if_pos hi]at e2;cases e2
  ·rw[List.getElem?_append_right (by simpa using hi),List.length_replicate]at e2;rw[List.getElem?_append_right (by simpa using hi)]at e1;have nl:(compEnvC scope (aI X.env scope.names) C X.env).kindOf x≠some .local:=by
    have e:(compEnvC scope (aI X.env scope.names) C X.env).kindOf x=(scope.names.lookup x).map fun k=>if (k==NameKind.free && X.env.scope.kind==.function && X.env.kindOf x==some .cell)then NameKind.cell else k:=Wz X.env scope.names x
    rw[e];intro z;cases q:scope.names.lookup x with
    |none=>rw[q]at z;simp at z
    |some k=>
     rw[q]at z;by_cases hk:k=.local
     ·exact O.loc x (z7 e1) (by rw[q,hk])
     ·have z:some (if (k==NameKind.free && X.env.scope.kind==.function && X.env.kindOf x==some .cell)=true then NameKind.cell else k)=some NameKind.local:=z;by_cases hc:(k==NameKind.free && X.env.scope.kind==.function && X.env.kindOf x==some .cell)=true
      ·rw[zE hc]at z;cases z
      ·rw[pi hc]at z;exact hk (Aa z)
   have hv:(compEnvC scope (aI X.env scope.names) C X.env).kindOf x=some .cell∨(compEnvC scope (aI X.env scope.names) C X.env).kindOf x=some .free:=by
    rcases e3 with z | z | z
    ·exact absurd z nl
    ·exact .inl z
    ·exact .inr z
   have hfree:=O.free_of hv;have hout:=O.fr (x,.free) (Af hfree) rfl;obtain⟨m0,hn0,hl0⟩:=I.loc;obtain⟨u,r,l⟩:=hl0 _ x v e1 e2 (hout.elim (fun z=>.inr (.inl z)) fun z=>.inr (.inr z));refine⟨u,r,.inr ⟨hv,?_⟩⟩
   rcases l with⟨k,_⟩|⟨_,c,ec,z⟩
   ·have k':X.env.scope.names.lookup x=some .local:=k
    rcases hout with q | q
    ·rw[q]at k';cases k'
    ·rw[q]at k';cases k'
   ·obtain⟨d,hd1,hd2⟩:=O.look I.ok hfree;rw[ec]at hd2;cases hd2;obtain⟨oc,hoc,hdc⟩:=z;exact⟨c,hd1,oc,old _ _ hoc,hdc⟩
 ·obtain⟨v,o,hoc,hdc⟩:=I.cell x c (hsub x c e);exact⟨v,o,old _ _ hoc,hdc⟩
 ·have hp:p∈X.pn++(CA++[(s.heap.objs.size,lo [] 0)]):=hp;rw[←Ag]at hp
  rcases zT.mp hp with hp | hp
  ·obtain⟨e,n,ne,nf,d⟩:=I.pin p hp;exact⟨old _ _ e,n,nC e,j6 I ne nf,d⟩
  ·cases zG.mp hp;refine⟨hD,I.hok.fresh (zD _),zX hC,fun z=>?_,fun v z=>by cases z⟩;have z:=I.stkSub _ z
   rcases zZ.mp z with z | z
   ·exact absurd z (AH I.lt)
   ·exact I.nofs (zD _) z
 ·show(List.replicate own.length none++σ).length=(own++X.N).length;rw[zI,zI,List.length_replicate,I.len]
theorem Oz{cl:List (Str×Addr)}{C:Addr}{its:List Value}{n:Nat}{σ':St}{H':Hp}{s':Shared}{ys:List V}{h':Heap}(I:Inv X CA σ H s)(hf:∀b∈fp,dh X CA H b)(hC:s.heap.objs.size<C)(I':Inv (cxC X own scope cl C s H fp) (CA++[(s.heap.objs.size,lo its n)]) σ' H' s')(hv:Vals ys its)(hz:ys.length≤sizeLine)(hs:Heap.SameBut C s'.heap h'):
  Inv X CA σ (upd H' s.heap.objs.size (.lst ys)) {s' with heap:=h'}:=by
 obtain⟨eD,nD,neD,_,_⟩:=I'.pin (s.heap.objs.size,lo its n) (zR _ (zR _ Au));have nC:∀{b:Addr}{o:Obj},s.heap.get? b=some o→b≠C:=fun e=>zX (Bc (zN e) hC);have nDD:∀{b:Addr}{o:Obj},s.heap.get? b=some o→b≠s.heap.objs.size:=fun e=>zX (zN e);have same:∀{b:Addr}{o:Obj},b≠C→s'.heap.get? b=some o→h'.get? b=some o:=fun hb e=>(hs.2 _ hb).trans e;have fC:H' C=none:=I'.free;have hb:Un (frs X.stack) fp H H' s.heap s'.heap:=I'.base;have hot:∀{b:Addr}{u:HO},H b=some u→b≠s.heap.objs.size:=fun e=>zX (I.hok.lt e);refine I.call' (s':={s' with heap:=h'}) (ch:=fp) I'.os ⟨fun b o e q n1 n2=>same (nC e) (hb.keep b o e q n1 n2),fun b o e q n1 n2=>?_,fun b o e q n2=>?_,fun b o e n2=>?_,fun b xs e=>?_,fun b o u e=>?_,fun b ps e=>?_⟩ ?_ I'.bare fun b hb'=>?_
 ·obtain⟨sl,q2⟩:=hb.slot b o e q n1 n2;exact⟨sl,same (nC e) q2⟩
 ·rw[Za (nDD e)];exact hb.free b o e q n2
 ·obtain⟨o',q2⟩:=hb.there b o e n2;exact⟨o',same (nC e) q2⟩
 ·rw[Za (hot e)];exact hb.tups b xs e
 ·rw[Za (hot e)];exact hb.frzs b o u e
 ·obtain⟨more,q2⟩:=hb.tbls b ps e;exact⟨more,by rw[Za (hot e)];exact q2⟩
 ·intro b u e;by_cases hbD:b=s.heap.objs.size
  ·subst hbD;rw[Z2]at e;cases e;exact⟨hz,its,n,hv,same neD eD⟩
  ·rw[Za hbD]at e;have nD':∀{c:Addr}{w:HO},H' c=some w→c≠s.heap.objs.size:=fun q z=>by
    rw[z]at q;have z2:H' s.heap.objs.size=none:=nD;rw[z2]at q;cases q
   refine(I'.hok b u e).stay (fun c v hc q=>same ?_ q) (fun c q=>by rw[Za (nD' q)];exact q) fun c xs q=>by rw[Za (nD' q)];exact q
   rintro rfl
   rcases hc with z | z
   ·rw[←z,fC]at e;cases e
   ·rw[fC]at z;cases z
 ·obtain⟨_,f1,_,f3,f4,f5⟩:=hf b hb';exact⟨f3,f1,f4,f5⟩
theorem jJ{prog:Program}{w:World}{A:Around}{E:Value→Shared→Prop}{s:Shared}{l:Addr}{its:List Value}{n:Nat}{u:Value}{Q:Value→Shared→Prop}(e:s.heap.get? l=some (lo its n))(hz:its.length≤sizeLine)(h:Q .none {s with heap:=s.heap.update l (Obj.mapSeq (·.push u))}):wpAny (model prog w) A (call (.builtin "list.append") [.ref l,u]) Q E s:=
 Cw F.slot_list_append ⟨_,e,rfl⟩ F.entry_list_append (F.args_list_append_2 _ _) (PySem.list_append l its.toArray n u (by rw[z8];omega)) ⟨e,h⟩
theorem N0{tg iter elt:Expr}{ifs:List Expr}{pos pos0:Pos}{wi:TI}{g:TG}{tt:TT}{te:TE}{use:Option (Value→Sem Unit)}{Qp:Value→Shared→Prop}{Pc:Cx→Prop}(hpc:∀cl C s H fp,Pc (cxC X own scope cl C s H fp))(O:CompOk X own scope)(hi:PIP Pc X tg iter wi)(hg:∀cl C s H fp,PG (cxC X own scope cl C s H fp) tg g)(ht:∀cl C s H fp,PTs (cxC X own scope cl C s H fp) ifs tt)(he:∀cl C s H fp,PE (cxC X own scope cl C s H fp) elt te)(hs:∀x,foldedSetIterable iter X.env x=pure x){CA:List (Addr×Obj)}{s:Shared}{σ:St}{H:Hp}{Q:VK}(I:Inv X CA σ H s)(h:ip wi g tt te own.length σ H Q)(fin:∀(s2:Shared) (H2:Hp) (fp:List Addr) (C:Addr) (cl:List (Str×Addr)) (its:List Value) (nn:Nat) (σ':St) (H':Hp) (s5:Shared) (ys:List V),Inv X CA σ H2 s2→(∀b∈fp,dh X CA H2 b)→s2.heap.objs.size<C→
   Inv (cxC X own scope cl C s2 H2 fp) (CA++[(s2.heap.objs.size,lo its nn)]) σ' H' s5→Vals ys its→ys.length≤sizeLine→(∀p,H' p=none→Q (.ref p) (upd H' p (.lst ys)))→
   compPost (model X.prog X.w) X.A X.xe use Qp (.ref s2.heap.objs.size) C (.ok .next) s5):
  wpAny (model X.prog X.w) X.A (comprehension (.ListComp elt [⟨tg,iter,ifs,0⟩] scope pos) scope X.env pos0 (newList []) false (eval iter X.env) use) Qp X.xe s:=by
 refine wpAny_comprehension_free (use:=use) rfl hs (Tf (O.cells I.ok)) O.kind O.names (thn (hi CA s σ H _ I h) fun v s1 h1=>thn h1 fun itv s2 h2=>?_);obtain⟨it,fp,tn,J,H2,rfl,I2,T,st2,f2,W,⟨m0,w0⟩,turn⟩:=h2;refine wpAny_newObj_type (wpAny_newFunctionEnv O.cell (by intro y hy;simp at hy) (fun h₁ hns₁ hsb₁=>?_) O.kind);dsimp only at hns₁ hsb₁ ⊢;generalize hH2:s2.heap.push {cls:=.type "list",dict:=none,data:=.seq ([]:List Value).toArray}=Hh at hns₁ hsb₁ ⊢;have hCs:Hh.objs.size=s2.heap.objs.size+1:=by rw[←hH2,Heap.size_push]
 have hC:s2.heap.objs.size<Hh.objs.size:=by rw[hCs];exact Nat.lt_succ_self _
 have old:∀b o,s2.heap.get? b=some o→h₁.get? b=some o:=fun b o e=>hsb₁.extBut b o (zX (Bc (zN e) hC)) (io _ (hH2 ▸ io _ e));have hacc:h₁.get? s2.heap.objs.size=some (lo [] 0):=hsb₁.extBut _ _ (zX hC) (io _ (hH2 ▸ zY _ rfl));have hob:∀b∈fp,∃o,s2.heap.get? b=some o:=fun b hb=>let ⟨o,e,_⟩:=T.obj _ _ st2 b hb;⟨o,e⟩
 have st3:tn 0 h₁:=T.keep _ _ _ st2 fun b _ o e=>old b o e;have pinlt:∀p∈X.pn++CA,p.1<s2.heap.objs.size:=fun p hp=>zN (I2.pin p hp).1;have loop:∀s₃:Shared,s₃={s2 with heap:=h₁,toks:=s2.toks+([]:List (Str×Value)).length}→
   codeAny (model X.prog X.w) X.A (.compLoop (.ListComp elt [⟨tg,iter,ifs,0⟩] scope pos) 0 (.ref it) (.ref s2.heap.objs.size) (compEnvC scope (aI X.env scope.names) Hh.objs.size X.env))
    (compPost (model X.prog X.w) X.A X.xe use Qp (.ref s2.heap.objs.size) Hh.objs.size) s₃:=by
  rintro s₃ rfl;have I3:=oR (tk:=s2.toks+([]:List (Str×Value)).length) O I2 f2 hob hC hacc old hns₁;have stat:∀{o:Obj}{H':Hp},(∀b∈fp,H' b=none)→∀b∈fp,dh (cxC X own scope (aI X.env scope.names) Hh.objs.size s2 H2 fp) (CA++[(s2.heap.objs.size,o)]) H' b:=fun{o H'} hn b hb=>by
   obtain⟨o',eo⟩:=hob b hb;refine⟨hn b hb,zX (Bc (zN eo) hC),j6 I2 (f2 b hb).2.1 (f2 b hb).2.2.1,.inl hb,fun x c e=>(f2 b hb).2.2.2.2.1 x c (O.sub I2.ok x c e),fun p hp=>?_⟩;have hp:p∈X.pn++(CA++[(s2.heap.objs.size,o)]):=hp;rw[←Ag]at hp
   rcases zT.mp hp with hp | hp
   ·exact(f2 b hb).2.2.2.2.2 p hp
   ·cases zG.mp hp;exact AH (zN eo)
  refine iL (fun n s'=>∃i ys its nn σ' H',Inv (cxC X own scope (aI X.env scope.names) Hh.objs.size s2 H2 fp) (CA++[(s2.heap.objs.size,lo its nn)]) σ' H' s'∧Wk σ' (List.replicate own.length none++σ)∧tn i s'.heap∧(∀b∈fp,H' b=none)∧Vals ys its∧W i n ys H')
   ?_ m0 ⟨0,[],[],0,_,H2,I3,Wk.refl _,st3,fun b hb=>(f2 b hb).1,.nil,w0⟩
  rintro n s4 ⟨i,ys,its,nn,σ4,H4,I4',wk4,st4,fr4,vs4,w4⟩;have I4:=I4'.weak (σ':=List.replicate own.length none++σ) wk4.len (fun i v=>wk4.get i v)
  rcases turn i n ys H4 w4 with⟨stop,hz,qn⟩|⟨go,hz,step⟩
  ·refine thn (T.done (cxC X own scope (aI X.env scope.names) Hh.objs.size s2 H2 fp) rfl rfl rfl (hpc _ _ _ _ _) i _ s4 _ H4 (fun _ _=>False) I4 (stat fr4) st4 stop) fun r s5 CB=>?_;obtain⟨hr,I5⟩:=CB;subst hr;exact fin s2 H2 fp Hh.objs.size _ its nn _ H4 s5 ys I2 f2 hC I5 vs4 hz qn
  ·refine thn (T.item (cxC X own scope (aI X.env scope.names) Hh.objs.size s2 H2 fp) rfl rfl rfl (hpc _ _ _ _ _) i _ s4 _ H4 (fun _ _=>False) I4 (stat fr4) st4 go) fun r s5 CB=>?_;obtain⟨u,hr,h5⟩:=CB;subst hr;refine thn h5 fun _ s6 CB=>?_;obtain⟨x,H6,I6,r6,y6,st6,fr6⟩:=CB;have I6':=I6.pinned (stat fr6) (T.obj _ _ st6);refine thn (hg _ _ _ _ _ _ s6 _ H6 x u _ I6' r6 (step x H6 y6)) fun _ s7 CB=>?_;obtain⟨σ7,H7,I7,wk7,q7⟩:=CB;refine thn (ht _ _ _ _ _ _ s7 σ7 H7 _ I7 q7) fun ok s8 CB=>?_;obtain⟨H8,I8,q8⟩:=CB;have again:∀{σ9:St}{H9:Hp}{s9:Shared},Inv (cxC X own scope (aI X.env scope.names) Hh.objs.size s2 H2 fp) ((CA++[(s2.heap.objs.size,lo its nn)])++eP fp s6.heap) σ9 H9 s9→tn (i+1) s9.heap∧∀b∈fp,H9 b=none:=fun{σ9 H9 s9} I9=>
    ⟨T.keep _ _ _ st6 fun b hb o e=>(I9.pin (b,o) (zR _ (zR _ (U7 hb e)))).1,fun b hb=>by
     obtain⟨o,e,d⟩:=T.obj _ _ st6 b hb;exact(I9.pin (b,o) (zR _ (zR _ (U7 hb e)))).2.1⟩
   cases ok with
   |false=>
    rw[pi zK]at q8⊢;obtain⟨m',hm,w8⟩:=q8;obtain⟨a1,a2⟩:=again I8;exact⟨m',hm,i+1,ys,its,nn,σ7,H8,I8.unpinned,wk7,a1,a2,vs4,w8⟩
   |true=>
    rw[zE rfl]at q8⊢;refine thn (he _ _ _ _ _ _ s8 σ7 H8 _ I8 q8) fun yv s9 CB=>?_;obtain⟨y,H9,I9,r9,m',hm,w9⟩:=CB;obtain⟨a1,a2⟩:=again I9;obtain⟨eD,nD,neD,nfD,_⟩:=I9.pin (s2.heap.objs.size,lo its nn) (zR _ (Ai _ (zR _ Au)));have CS:=vs4.length;refine jJ eD (by omega) ?_;have upd9:=PySem.IsL.update (l:=s2.heap.objs.size) eD (·.push yv);have uother:∀b o,b≠s2.heap.objs.size→s9.heap.get? b=some o→(s9.heap.update s2.heap.objs.size (Obj.mapSeq (·.push yv))).get? b=some o:=fun b o hb e=>(A5 s9.heap (Obj.mapSeq (·.push yv)) (Ne.symm hb)).trans e;have I9a:Inv (cxC X own scope (aI X.env scope.names) Hh.objs.size s2 H2 fp) CA σ7 H9 s9:=I9.unpinned.unpinned;have I9b:Inv (cxC X own scope (aI X.env scope.names) Hh.objs.size s2 H2 fp) CA σ7 H9 {s9 with heap:=s9.heap.update s2.heap.objs.size (Obj.mapSeq (·.push yv))}:=
     I9a.turned (t':=s9.toks) uother nD neD (.inr (zD _)) (fun x c e z=>by
      obtain⟨v,o,hoc,_⟩:=I2.cell x c (O.sub I2.ok x c e);exact absurd z (zX (zN hoc))) fun p hp=>zX (pinlt p hp)
    have e2:(its.toArray.push yv)=(its++[yv]).toArray:=by simp
    have upd9':∃n2,(s9.heap.update s2.heap.objs.size (Obj.mapSeq (·.push yv))).get? s2.heap.objs.size=some (lo (its++[yv]) n2):=⟨_,by rw[upd9,e2]⟩;obtain⟨n2,upd9'⟩:=upd9';have I9c:=I9b.pins_of (pins':=CA++[(s2.heap.objs.size,lo (its++[yv]) n2)]) fun p hp=>by
     rcases zT.mp hp with hp | hp
     ·exact I9b.pin p (zR _ hp)
     ·cases zG.mp hp;exact⟨upd9',nD,neD,nfD,fun v z=>by cases z⟩
    refine⟨m',hm,i+1,ys++[y],its++[yv],n2,σ7,H9,I9c,wk7,T.keep _ _ _ a1 fun b hb o e=>uother b o ?_ e,a2,vs4.append (.cons r9 .nil),w9⟩;obtain⟨o',eo⟩:=hob b hb;exact zX (zN eo)
 exact codeAny_compStart_list (loop _ rfl) (T.self _ 0 _ _ _ st3 (loop _ rfl))
theorem pe_compP{Pc:Cx→Prop}{tg iter elt:Expr}{ifs:List Expr}{pos:Pos}{wi:TI}{g:TG}{tt:TT}{te:TE}(hpc:∀cl C s H fp,Pc (cxC X own scope cl C s H fp))(O:CompOk X own scope)(hi:PIP Pc X tg iter wi)(hg:∀cl C s H fp,PG (cxC X own scope cl C s H fp) tg g)(ht:∀cl C s H fp,PTs (cxC X own scope cl C s H fp) ifs tt)(he:∀cl C s H fp,PE (cxC X own scope cl C s H fp) elt te)(hs:∀x,foldedSetIterable iter X.env x=pure x:=by intro _;rfl):
  PE X (.ListComp elt [⟨tg,iter,ifs,0⟩] scope pos) (ip wi g tt te own.length):=by
 intro CA s σ H Q I h;rw[eval_ListComp];refine N0 hpc O hi hg ht he hs I h fun s2 H2 fp C cl its nn σ' H' s5 ys I2 f2 hC I5 vs hz qn=>?_;obtain⟨mm,hnm,_⟩:=I5.loc;exact⟨mm,hnm,fun h' hs'=>⟨.ref s2.heap.objs.size,_,Oz I2 f2 hC I5 vs hz hs',rfl,qn _ (I5.pin (s2.heap.objs.size,lo its nn) (zR _ (zR _ Au))).2.1⟩⟩
theorem Xy{tg iter elt:Expr}{ifs:List Expr}{pos:Pos}{wi:TI}{g:TG}{tt:TT}{te:TE}(O:CompOk X own scope)(hi:PI X tg iter wi)(hg:∀cl C s H fp,PG (cxC X own scope cl C s H fp) tg g)(ht:∀cl C s H fp,PTs (cxC X own scope cl C s H fp) ifs tt)(he:∀cl C s H fp,PE (cxC X own scope cl C s H fp) elt te)(hs:∀x,foldedSetIterable iter X.env x=pure x:=by intro _;rfl)(hc:X.calm=true:=by rfl):
  PE X (.ListComp elt [⟨tg,iter,ifs,0⟩] scope pos) (ip wi g tt te own.length):=
 pe_compP (Pc:=fun X=>X.calm=true) (fun _ _ _ _ _=>hc) O hi.p hg ht he hs
theorem ps_setCP{Pc:Cx→Prop}{i:Nat}{x:Str}{tg iter elt:Expr}{ifs:List Expr}{pos pos' cpos:Pos}{wi:TI}{g:TG}{tt:TT}{te:TE}(hN:X.N.Nodup)(hix:X.N[i]?=some x)(hl:X.env.scope.names.lookup x=some .local)(hpc:∀cl C s H fp,Pc (cxC X own scope cl C s H fp))(O:CompOk X own scope)(hi:PIP Pc X tg iter wi)(hg:∀cl C s H fp,PG (cxC X own scope cl C s H fp) tg g)(ht:∀cl C s H fp,PTs (cxC X own scope cl C s H fp) ifs tt)(he:∀cl C s H fp,PE (cxC X own scope cl C s H fp) elt te)(hs:∀x,foldedSetIterable iter X.env x=pure x:=by intro _;rfl)(hsw:swapsWith (.ListComp elt [⟨tg,iter,ifs,0⟩] scope cpos) (some (.Name x pos')) pos.line X.env=pure true:=by rfl):
  PS X (.Assign [.Name x pos'] (.ListComp elt [⟨tg,iter,ifs,0⟩] scope cpos) pos) (qe (ip wi g tt te own.length) (jc i)):=by
 intro CA s σ H D I h;rw[exec_Assign_Name_used _ _ _ _ hsw];refine ae (wpAny_standAt (ae (m:=evalThenUse _ X.env _) ?_));show wpAny _ _ (comprehension (.ListComp elt [⟨tg,iter,ifs,0⟩] scope cpos) scope X.env _ (newList []) false (eval iter X.env) (some (assign (.Name x pos') X.env)) >>= fun _=>_) _ _ s;refine ae (thn (N0 (Qp:=fun _ s'=>SP X CA D .next s') hpc O hi hg ht he hs I h fun s2 H2 fp C cl its nn σ' H' s5 ys I2 f2 hC I5 vs hz qn=>?_) fun _ s' hq=>zC (zC hq));have Ix:Inv X CA σ (upd H' s2.heap.objs.size (.lst ys)) s5:=Oz I2 f2 hC I5 vs hz (Heap.SameBut.refl _ _);obtain⟨mm,hnm,_⟩:=I5.loc;have fC:H' C=none:=I5.free;have nCD:C≠s2.heap.objs.size:=AH hC;refine wpAny_assign_Name (Oj (v:=.ref s2.heap.objs.size) Ix hN hix (.inl hl) rfl (fun s6 I6 sb=>?_) (.inr hl));obtain⟨a,sb,ha⟩:=sb;have nLC:X.env.locals≠C:=zX (Bc I2.lt hC);have cC:∀y c,X.env.cells.lookup y=some c→c≠C:=fun y c e=>by
  obtain⟨v,o,ho,_⟩:=I2.cell y c e;exact zX (Bc (zN ho) hC)
 have naC:C≠a:=by
  rcases ha with rfl | ha
  ·exact Ne.symm nLC
  ·exact Ne.symm (cC x a ha)
 refine⟨mm,hnm.sameBut sb naC,fun h' hs'=>⟨_,_,I6.turned (t':=s6.toks) (fun b o hb e=>(hs'.2 b hb).trans e) (by rw[Za nCD];exact fC) (Ne.symm nLC) (.inr (At I2.sz (Bq hC))) cC (fun p hp=>zX (Bc (zN (I2.pin p hp).1) hC)),qn _ (I5.pin (s2.heap.objs.size,lo its nn) (zR _ (zR _ Au))).2.1⟩⟩
theorem gJ{i:Nat}{x:Str}{tg iter elt:Expr}{ifs:List Expr}{pos pos' cpos:Pos}{wi:TI}{g:TG}{tt:TT}{te:TE}(hN:X.N.Nodup)(hix:X.N[i]?=some x)(hl:X.env.scope.names.lookup x=some .local)(O:CompOk X own scope)(hi:PI X tg iter wi)(hg:∀cl C s H fp,PG (cxC X own scope cl C s H fp) tg g)(ht:∀cl C s H fp,PTs (cxC X own scope cl C s H fp) ifs tt)(he:∀cl C s H fp,PE (cxC X own scope cl C s H fp) elt te)(hs:∀x,foldedSetIterable iter X.env x=pure x:=by intro _;rfl)(hsw:swapsWith (.ListComp elt [⟨tg,iter,ifs,0⟩] scope cpos) (some (.Name x pos')) pos.line X.env=pure true:=by rfl)(hc:X.calm=true:=by rfl):
  PS X (.Assign [.Name x pos'] (.ListComp elt [⟨tg,iter,ifs,0⟩] scope cpos) pos) (qe (ip wi g tt te own.length) (jc i)):=
 ps_setCP (Pc:=fun X=>X.calm=true) hN hix hl (fun _ _ _ _ _=>hc) O hi.p hg ht he hs hsw
end
section
variable{X:Cx}{pos:Pos}
theorem V4(K:W.Frag)(n:Nat){es:List Expr}{k:Nat}{t:TGs}(hK:X.K=K)(hc:X.calm=true)(h:PGs X es t)(hn:(assignEach es X.env).length=n:=by rfl)(hst:(assignEach es X.env).findIdx? (·.1)=none:=by rfl):PG X (.Tuple es k pos) (yK K n t):=by
 subst hK;exact Y6 hc h hn hst
theorem ge(K:W.Frag)(hK:X.K=K):IxR X (ye K):=by subst hK;exact Xd
end
mutual
inductive DV(H:Hp):V→PyData→Prop
 |non:DV H .non .none
 |bl (b:Bool):DV H (.bl b) (.bool b)
 |int (i:Int):DV H (.int i) (.int i)
 |str (x:Str):DV H (.str x) (.str x)
 |lst {a:Addr} {xs:List V} {ds:List PyData}:H a=some (.lst xs)→DVs H xs ds→DV H (.ref a) (.list ds)
 |tup {a:Addr} {xs:List V} {ds:List PyData}:H a=some (.tup xs)→DVs H xs ds→DV H (.ref a) (.tuple ds)
inductive DVs(H:Hp):List V→List PyData→Prop
 |nil:DVs H [] []
 |cons {v:V} {vs:List V} {d:PyData} {ds:List PyData}:DV H v d→DVs H vs ds→DVs H (v::vs) (d::ds)
end
mutual
theorem DV.mono{H H':Hp}(g:Same H H'):∀{v:V}{d:PyData},DV H v d→DV H' v d
 |_,_,.non=>.non
 |_,_,.bl b=>.bl b
 |_,_,.int i=>.int i
 |_,_,.str x=>.str x
 |_,_,.lst e r=>.lst (g _ _ e) (DVs.mono g r)
 |_,_,.tup e r=>.tup (g _ _ e) (DVs.mono g r)
theorem DVs.mono{H H':Hp}(g:Same H H'):∀{vs:List V}{ds:List PyData},DVs H vs ds→DVs H' vs ds
 |_,_,.nil=>.nil
 |_,_,.cons h r=>.cons (DV.mono g h) (DVs.mono g r)
end
theorem DVs.length{H:Hp}:∀{vs:List V}{ds:List PyData},DVs H vs ds→vs.length=ds.length
 |_,_,.nil=>rfl
 |_,_,.cons _ r=>AX (·+1) r.length
theorem DVs.append{H:Hp}:∀{vs ws:List V}{ds es:List PyData},DVs H vs ds→DVs H ws es→DVs H (vs++ws) (ds++es)
 |_,_,_,_,.nil,s=>s
 |_,_,_,_,.cons h r,s=>.cons h (DVs.append r s)
theorem DVs.getV{H:Hp}:∀{vs:List V}{ds:List PyData}{i:Nat}{v:V},DVs H vs ds→vs[i]?=some v→∃d,ds[i]?=some d∧DV H v d
 |_,_,_,_,.nil,e=>by simp at e
 |_,_,0,_,.cons h _,e=>by simp at e;subst e;exact⟨_,rfl,h⟩
 |_,_,i+1,d,.cons _ r,e=>by
  obtain⟨v,h1,h2⟩:=DVs.getV (i:=i) (v:=d) r (by simpa using e);exact⟨v,by simpa using h1,h2⟩
section
variable{X:Cx}{CA:List (Addr×Obj)}{σ:St}{H:Hp}{s:Shared}
mutual
theorem DV.reads(I:Inv X CA σ H s):∀{v:V}{d:PyData}{u:Value},DV H v d→RelV v u→∃as,Reads s.heap u d as
 |_,_,_,.non,r=>by cases r;exact⟨_,Reads.none⟩
 |_,_,_,.bl b,r=>by cases r;exact⟨_,Reads.bool b⟩
 |_,_,_,.int i,r=>by obtain⟨t,rfl⟩:=r;exact⟨_,Reads.int i t⟩
 |_,_,_,.str x,r=>by obtain⟨t,rfl⟩:=r;exact⟨_,Reads.str x t⟩
 |_,_,_,.lst e q,r=>by
  cases r;obtain⟨its,n,rv,ho,_⟩:=I.lst e;obtain⟨as,p⟩:=DVs.reads I q rv;exact⟨_,reads_list_at ho rfl rfl (by simpa using p)⟩
 |_,_,_,.tup e q,r=>by
  cases r;obtain⟨its,rv,⟨o,ho,hc,n,hd⟩,_⟩:=I.tuple (SqT.of e);obtain⟨as,p⟩:=DVs.reads I q rv;exact⟨_,reads_tuple_at ho hc hd (by simpa using p)⟩
theorem DVs.reads(I:Inv X CA σ H s):∀{vs:List V}{ds:List PyData}{us:List Value},DVs H vs ds→Vals vs us→∃as,ReadsAll s.heap us ds as
 |_,_,_,.nil,r=>by cases r;exact⟨_,ReadsAll.nil⟩
 |_,_,_,.cons h t,r=>by
  cases r with
  |cons r1 r2=>
   obtain⟨as,p⟩:=DV.reads I h r1;obtain⟨bs,q⟩:=DVs.reads I t r2;exact⟨_,ReadsAll.cons p q⟩
end
end
def rEqD:R2:=fun x y H Q=>∃d e,DV H x d∧DV H y e∧SeqAt.shaped d=true∧SeqAt.shaped e=true∧Q (.bl (PyData.eqv d e)) H
def rNeD:R2:=fun x y H Q=>∃d e,DV H x d∧DV H y e∧SeqAt.shaped d=true∧SeqAt.shaped e=true∧Q (.bl (!PyData.eqv d e)) H
section
variable{X:Cx}
theorem wK(hu:X.A.units+64<cLine):OpR X (compareOp .Eq) rEqD:=by
 intro CA s σ H x y v u Q I rx ry h;obtain⟨d,e,h1,h2,s1,s2,q⟩:=h;obtain⟨as,p1⟩:=h1.reads I rx;obtain⟨bs,p2⟩:=h2.reads I ry;exact eq_dataH p1 p2 s1 s2 hu ⟨.bl _,H,I,rfl,q⟩
theorem gK(hu:X.A.units+64<cLine):OpR X (compareOp .NotEq) rNeD:=by
 intro CA s σ H x y v u Q I rx ry h;obtain⟨d,e,h1,h2,s1,s2,q⟩:=h;obtain⟨as,p1⟩:=h1.reads I rx;obtain⟨bs,p2⟩:=h2.reads I ry;exact ne_dataH p1 p2 s1 s2 hu ⟨.bl _,H,I,rfl,q⟩
def rIs(K:W.Frag):List V→Hp→VK→Prop:=fun xs H Q=>∃x t T b,xs=[x,.ty T]∧TyOf K H x t∧W.kitOne K t (.type T)=some b∧Q (.bl b) H
theorem V8:bN X (.builtin "isinstance") (rIs X.K):=by
 intro CA s σ H xs us Q I r h;obtain⟨x,t,T,b,rfl,ty,e,q⟩:=h;obtain⟨u,w',rfl,ru,rt⟩:=qX r;cases (show w'=Value.type T from rt);exact og I ru ty e fun tk=>⟨.bl b,H,I.tok _,rfl,q⟩
def vI:V→List V→Hp→VK→Prop:=fun x vs H Q=>∃z y ps,x=.str z∧vs=[.str y]∧(decide (z.length<y.length) || decide (Builtin.Str.strKind z<Builtin.Str.strKind y))=false∧(y.length==0)=false∧
 (Builtin.Str.occurrences z y 0 z.length (z.length+1)).isEmpty=false∧z.length≤sizeLine∧Builtin.Str.partsBetween z (Builtin.Str.occurrences z y 0 z.length (z.length+1)) y.length=ps∧ps.length≤sizeLine∧∀l,H l=none→Q (.ref l) (upd H l (.lst (ps.map V.str)))
theorem Oi:∀(ps:List Str)(k:Nat),Vals (ps.map V.str) (strsFrom k ps)
 | [],_=>.nil
 |p::ps,k=>.cons ⟨_,rfl⟩ (Oi ps _)
theorem px:MtR X "str.split" vI:=by
 intro CA s σ H x vs v us Q I rx rv h;obtain⟨z,y,ps,rfl,rfl,h1,h2,h3,h4,rfl,h5,q⟩:=h;obtain⟨t,rfl⟩:=rx;obtain⟨u,rfl,t',rfl⟩:=V1 rv;refine Cw F.slot_str_split (typeIs_str s z t) F.entry_str_split (F.args_str_split_2 _ _) (meets_str_split_sep z y t t' h1 h2 h3 h4 h5) ?_;refine⟨.ref s.heap.objs.size,_,I.laid (o:=.lst (_:List V)) (fun b ob q=>io _ q) (zD _) ⟨?_,_,0,Oi _ _,zY _ rfl⟩,rfl,q _ (I.hok.fresh (zD _))⟩;rw[az];exact h5
end
structure Has(P:Program)(w:World)(K:W.Frag)(mg:Str→Option Value)(base:Heap)(x:Str)(k:Nat)(ps:List Str)(sp:Sp):Prop where
 ex:∃f fd,FnOk P w K mg base CX0 k f fd ps sp∧Binds K fd ps []∧W.keepIn K (.ref f)=true∧mg x=some (.ref f)
section
variable{X:Cx}{j k:Nat}{ps:List Str}{sp:Sp}{x:Str}{p pos:Pos}{e:Expr}{es:List Expr}{t:TA}
theorem Z4(h:Has X.prog X.w X.K X.mg X.base x j ps sp)(hr:Room k X.A)(ha:PA X (e::es) t)(hg:Gl X x:=by rfl)(hj:j≤k:=by first | decide | omega)(hdb:(x==("__debug__":Str))=false:=by decide)(he:starEach (e::es) X.env=(false,eval e X.env)::starEach es X.env:=by rfl)(hpl:(backTo pos (starEach es X.env)).any (·.1)=false:=by rfl):
  PE X (.Call (.Name x p) (e::es) [] pos) (uX sp [] E0 t):=by
 intro CA s σ H Q I q;obtain⟨f,fd,F,b,kp,m⟩:=h.ex;refine sS (CX:=CX0) (E:=E0) (dvs:=[]) (F.mono hj) hr hg m kp b .nil ?_ ha hdb he hpl CA s σ H Q I q;exact fun _ _ _ _ _ _ _ z=>z.elim
end
def ao(a:Addr)(H:Hp):Hp:=fun b=>if b=a then none else H b
theorem Rp{a:Addr}{H:Hp}:ao a H a=none:=by unfold ao;rw[zE rfl]
theorem Zg{a b:Addr}{H:Hp}(h:b≠a):ao a H b=H b:=by unfold ao;rw[pi h]
theorem Zf{a b:Addr}{H:Hp}{o:HO}(h:ao a H b=some o):b≠a∧H b=some o:=by
 unfold ao at h;by_cases e:b=a
 ·rw[zE e]at h;cases h
 ·rw[pi e]at h;exact⟨e,h⟩
theorem Yi{a:Addr}{H:Hp}:Same (ao a H) H:=fun _ _ h=>(Zf h).2
theorem Z6{H:Hp}{p:Addr}(h:H p=none)(o:HO):Same H (upd H p o):=fun b u q=>by rw[Za (Zd q h)];exact q
abbrev Grw(a:Addr)(H H':Hp):Prop:=Same (ao a H) (ao a H')
theorem Us{a:Addr}{H H':Hp}{o:HO}(ha:H a=some o)(g:Same H H'):Grw a H H':=fun b u q=>by
 obtain⟨h1,h2⟩:=Zf q;rw[Zg h1];exact g b u h2
theorem X3{a:Addr}{H:Hp}{o:HO}:Grw a H (upd H a o):=fun b u q=>by
 obtain⟨h1,h2⟩:=Zf q;rw[Zg h1,Za h1];exact h2
theorem X5{a p:Addr}{H:Hp}{o:HO}(h:H p=none):Grw a H (upd H p o):=fun b u q=>by
 obtain⟨h1,h2⟩:=Zf q;rw[Zg h1,Za (Zd h2 h)];exact h2
def PenAt(H:Hp)(a:Addr):Prop:=∃p q r:Int,H a=some (.lst [.int p,.int q,.int r])
theorem PenAt.same{H H':Hp}{a:Addr}(h:PenAt H a)(g:Same H H'):PenAt H' a:=by
 obtain⟨p,q,r,e⟩:=h;exact⟨p,q,r,g _ _ e⟩
theorem PenAt.laid{H:Hp}{a p:Addr}{o:HO}(h:PenAt H a)(hp:H p=none):PenAt (upd H p o) a:=h.same (Z6 hp o)
theorem PenAt.ne{H:Hp}{a p:Addr}(h:PenAt H a)(hp:H p=none):p≠a:=by
 obtain⟨x,y,z,e⟩:=h;exact fun q=>by rw[q,e]at hp;cases hp
theorem Xx{j:Int}(h:decide (0<j)=true):0<j:=zO h
theorem ltI{i j:Int}(h:decide (i<j)=true):i<j:=zO h
theorem leI{i j:Int}(h:decide (i≤j)=true):i≤j:=zO h
theorem leN{i j:Nat}(h:decide (i≤j)=true):i≤j:=zO h
theorem uY{i j:Int}(h1:decide (0<j)=true)(h2:decide (j<1073741824)=true):y4 i j:=⟨zO h1,zO h2⟩
theorem kP{i j:Int}(h1:decide (0≤j)=true)(h2:decide (j≤1000000)=true)(h3:decide (i.natAbs<2^64)=true):v5 i j:=⟨zO h1,zO h2,zO h3⟩
theorem oh{i j:Int}(h1:decide (-(2^64)<i)=true)(h2:decide (i<2^64)=true):CMul i j:=Or.inl ⟨zO h1,zO h2⟩
theorem mulR{i j:Int}(h1:decide (-(2^64)<j)=true)(h2:decide (j<2^64)=true):CMul i j:=Or.inr ⟨zO h1,zO h2⟩
theorem xY(x m y:Int)(h0:decide (0<m)=true)(h1:decide (m<4294967296)=true):CMul (x % m) y:=by
 have h0:=zO h0;have h1:=zO h1;exact Or.inl ⟨by have:=Ca x (show m≠0 by omega);omega,by have:=B6 x h0;omega⟩
theorem qy(a b c:V):atI [a,b,c] 0=some a:=rfl
theorem vf(a b c:V):atI [a,b,c] 1=some b:=rfl
theorem k_(a b c:V):atI [a,b,c] 2=some c:=rfl
theorem f9{α:Type}{xs:List α}{i:Int}(h0:0≤i)(h1:i<xs.length):∃v,atI xs i=some v∧v∈xs:=by
 have hi:i.toNat<xs.length:=by omega
 have e:((i.toNat:Nat):Int)=i:=by omega
 refine⟨xs[i.toNat],?_,List.getElem_mem hi⟩;have q:=k9 (xs:=xs) (j:=i.toNat) (v:=xs[i.toNat]) (AF hi);rw[e]at q;exact q
theorem at3{x y z:V}{d:Int}(h0:0≤d)(h1:d<3):∃v,atI [x,y,z] d=some v∧(v=x∨v=y∨v=z):=by
 obtain⟨v,h,m⟩:=f9 (xs:=[x,y,z]) h0 h1;exact⟨v,h,by simpa using m⟩
theorem Sw{a b:Addr}{H H':Hp}{o:HO}(g:Grw a H H')(hb:b≠a)(h:H b=some o):H' b=some o:=by
 have q:=g b o (by rw[Zg hb];exact h);exact(Zf q).2
theorem Zl{n:Nat}(h:n≤1000000):n≤sizeLine:=At h (by decide)
theorem Zj{n:Nat}(h:n<1000000):n<sizeLine:=z6 h (by decide)
theorem jS{lo:Int}{n k:Nat}{g:TG}{tt:TT}{te:TE}{σ:St}{H:Hp}{Q:VK}(Pv:Nat→List V→Hp→Prop)(h0:Pv 0 [] H)(hs:∀i ys H (C:List V→Hp→Prop),i<n→Pv i ys H→(∀ys' H',Pv (i+1) ys' H'→C ys' H')→ys.length<sizeLine∧g (.int (lo+i)) (List.replicate k none++σ) H fun σ2 H2=>Wk σ2 (List.replicate k none++σ)∧tt σ2 H2 fun ok H3=>
   if ok=true then te σ2 H3 fun y H4=>C (ys++[y]) H4 else C ys H3)(hd:∀ys H,Pv n ys H→ys.length≤sizeLine∧∀p,H p=none→Q (.ref p) (upd H p (.lst ys))):
  CompR (Itr lo n) H k g tt te σ Q:=by
 refine⟨fun i m ys H=>m=n-i∧i≤n∧Pv i ys H,⟨n,by simp,Nat.zero_le _,h0⟩,?_⟩;rintro i m ys H ⟨rfl,hi,p⟩;by_cases CI:i<n
 ·have q:=hs i ys H (fun ys' H'=>∃m',m'<n-i∧m'=n-(i+1)∧i+1≤n∧Pv (i+1) ys' H') CI p fun ys' H' p'=>⟨_,by omega,rfl,CI,p'⟩;refine .inr ⟨CI,q.1,fun x H' y=>?_⟩;obtain⟨e,y⟩:=y;subst e y;exact q.2
 ·have e:i=n:=by omega
  subst e;exact .inl ⟨zD _,hd ys H p⟩
theorem Ws{K:W.Frag}{a:Addr}{xs:List V}{k:Nat}{g:TG}{tt:TT}{te:TE}{σ:St}{H:Hp}{Q:VK}(Pv:Nat→List V→Hp→Prop)(h0:Pv 0 [] H)(hl:∀i ys H,i≤xs.length→Pv i ys H→SqL K H a xs)(hs:∀i x ys H (C:List V→Hp→Prop),xs[i]?=some x→Pv i ys H→(∀ys' H',Pv (i+1) ys' H'→C ys' H')→ys.length<sizeLine∧g x (List.replicate k none++σ) H fun σ2 H2=>Wk σ2 (List.replicate k none++σ)∧tt σ2 H2 fun ok H3=>
   if ok=true then te σ2 H3 fun y H4=>C (ys++[y]) H4 else C ys H3)(hd:∀ys H,Pv xs.length ys H→ys.length≤sizeLine∧∀p,H p=none→Q (.ref p) (upd H p (.lst ys))):
  CompR (Itl K a) H k g tt te σ Q:=by
 refine⟨fun i m ys H=>m=xs.length-i∧i≤xs.length∧Pv i ys H,⟨xs.length,by simp,Nat.zero_le _,h0⟩,?_⟩;rintro i m ys H ⟨rfl,hi,p⟩;have q:=hl i ys H hi p;by_cases CI:i<xs.length
 ·have r:=hs i xs[i] ys H (fun ys' H'=>∃m',m'<xs.length-i∧m'=xs.length-(i+1)∧i+1≤xs.length∧Pv (i+1) ys' H') (by simp[CI]) p fun ys' H' p'=>⟨_,by omega,rfl,CI,p'⟩;refine .inr ⟨⟨xs,xs[i],q,by simp[CI]⟩,r.1,fun x H' y=>?_⟩;obtain⟨e,y⟩:=y;subst e;have ex:xs[i]?=some x:=y xs q;have ex2:xs[i]=x:=by simpa [CI] using ex
  rw[←ex2];exact r.2
 ·have e:i=xs.length:=by omega
  subst e;exact .inl ⟨⟨xs,q,zD _⟩,hd ys H p⟩
def wordA:Str:="q abcdefgh aq qa abcdefgi ea zz eaq abd abc e bcdefgh za "
def wordB:Str:="qae acb ae abcdefg z qq aea az abcd xabcd eae abce eq"
def words:List Str:=["q","abcdefgh","aq","qa","abcdefgi","ea","zz","eaq","abd","abc","e","bcdefgh","za","qae","acb","ae","abcdefg","z","qq","aea","az","abcd","xabcd","eae","abce","eq"]
theorem jK:Builtin.Str.partsBetween (wordA++wordB) (Builtin.Str.occurrences (wordA++wordB) " " 0 (wordA++wordB).length ((wordA++wordB).length+1)) (" ":Str).length=words:=by decide +kernel
theorem xv:(decide ((wordA++wordB).length<(" ":Str).length) || decide (Builtin.Str.strKind (wordA++wordB)<Builtin.Str.strKind " "))=false:=by decide +kernel
theorem xr:(((" ":Str).length==0)=false):=by decide +kernel
theorem wC:(Builtin.Str.occurrences (wordA++wordB) " " 0 (wordA++wordB).length ((wordA++wordB).length+1)).isEmpty=false:=by decide +kernel
theorem xF:(wordA++wordB).length≤sizeLine:=by decide +kernel
theorem tP:wordA.length+wordB.length≤sizeLine:=by decide +kernel
theorem p5:∀x∈words,PyData.strOk x=true:=by decide +kernel
structure Th where
 day:Int
 word:Str
 num:Int
 many:Int
def Th.D(t:Th):PyData:=.tuple [.int t.day,.str t.word,.int t.num,.int t.many]
def Th.vs(t:Th):List V:=[.int t.day,.str t.word,.int t.num,.int t.many]
structure Th.Ok(t:Th):Prop where
 day:0≤t.day
 word:t.word∈words
 num:0≤t.num
 many:1≤t.many
 numU:t.num<1073741824
 manyU:t.many≤1000000000
theorem Th.dv{H:Hp}{r:Addr}{t:Th}(h:H r=some (.tup t.vs)):DV H (.ref r) t.D:=.tup h (.cons (.int _) (.cons (.str _) (.cons (.int _) (.cons (.int _) .nil))))
inductive Tr where
 |leaf (ts:List Th)
 |node (l r:Tr)
abbrev aS(ts:List Th):PyData:=.list (ts.map Th.D)
def Tr.D:Tr→PyData
 |.leaf ts=>aS ts
 |.node l r=>.tuple [.str "merged",l.D,r.D]
def Tr.streams:Tr→List (List Th)
 |.leaf ts=>[ts]
 |.node l r=>l.streams++r.streams
def Tr.size:Tr→Nat
 |.leaf _=>1
 |.node l r=>l.size+r.size+1
def Tr.ht:Tr→Nat
 |.leaf _=>0
 |.node l r=>max l.ht r.ht+1
def Tr.all:Tr→List Th
 |.leaf ts=>ts
 |.node l r=>l.all++r.all
def Tr.Ok:Tr→Prop
 |.leaf ts=>∀t∈ts,t.Ok
 |.node l r=>l.Ok∧r.Ok
theorem Tr.size_pos:∀t:Tr,0<t.size
 |.leaf _=>Nat.zero_lt_one
 |.node _ _=>Nat.succ_pos _
theorem Tr.all_eq:∀t:Tr,t.all=t.streams.flatten
 |.leaf ts=>by simp[Tr.all,Tr.streams]
 |.node l r=>by
  show l.all++r.all=(l.streams++r.streams).flatten;rw[List.flatten_append,all_eq l,all_eq r]
theorem mF{α:Type}{f:α→PyData}{n:Nat}:∀(xs:List α),(∀x∈xs,(f x).canLay0=true∧(f x).depth≤n)→PyData.canLayAll0 (xs.map f)=true∧PyData.depthAll (xs.map f)≤n
 | [],_=>by simp[PyData.canLayAll0,PyData.depthAll]
 |x::xs,h=>by
  have h1:=h x Au;have h2:=mF xs fun y hy=>h y (Ay _ hy);rw[zH,PyData.canLayAll0,PyData.depthAll,h1.1,h2.1];exact⟨rfl,Nat.max_le.mpr ⟨h1.2,h2.2⟩⟩
theorem iB{α:Type}{f:α→PyData}{n:Nat}(xs:List α)(h:∀x∈xs,(f x).canLay0=true∧(f x).depth≤n):(PyData.list (xs.map f)).canLay0=true∧(PyData.list (xs.map f)).depth≤n+1:=by
 have q:=mF xs h;rw[PyData.canLay0,PyData.depth];exact⟨q.1,Nat.succ_le_succ q.2⟩
theorem X6{d:PyData}{n:Nat}(h:d.canLay0=true∧d.depth≤n)(hn:n≤64):SeqAt.shaped d=true:=by
 unfold SeqAt.shaped;rw[h.1,Bool.true_and];exact zP (At h.2 hn)
theorem Pu{d:PyData}{n:Nat}(h:d.canLay0=true∧d.depth≤n):PyData.eqv d d=true:=SeqAt.eqv_refl d h.1
theorem lN(ds:List PyData):PyData.eqv (.list ds) (.list [])=ds.isEmpty:=by
 cases ds <;> simp[PyData.eqv,PyData.eqvAll]
theorem DV.list_inv{H:Hp}{v:V}{ds:List PyData}(h:DV H v (.list ds)):∃a xs,v=.ref a∧H a=some (.lst xs)∧DVs H xs ds:=by
 cases h with
 |lst e r=>exact⟨_,_,rfl,e,r⟩
theorem DV.tup_inv{H:Hp}{v:V}{ds:List PyData}(h:DV H v (.tuple ds)):∃a xs,v=.ref a∧H a=some (.tup xs)∧DVs H xs ds:=by
 cases h with
 |tup e r=>exact⟨_,_,rfl,e,r⟩
theorem DVs.cons_inv{H:Hp}{vs:List V}{d:PyData}{ds:List PyData}(h:DVs H vs (d::ds)):∃x r,vs=x::r∧DV H x d∧DVs H r ds:=by
 cases h with
 |cons a b=>exact⟨_,_,rfl,a,b⟩
theorem DVs.nil_inv{H:Hp}{vs:List V}(h:DVs H vs []):vs=[]:=by
 cases h with
 |nil=>rfl
theorem DV.node_inv{H:Hp}{v:V}{l r:Tr}(h:DV H v (Tr.node l r).D):∃a m x y,v=.ref a∧H a=some (.tup [m,x,y])∧DV H x l.D∧DV H y r.D:=by
 obtain⟨a,xs,rfl,e,q⟩:=DV.tup_inv h;obtain⟨m,r1,rfl,_,q1⟩:=q.cons_inv;obtain⟨x,r2,rfl,hx,q2⟩:=q1.cons_inv;obtain⟨y,r3,rfl,hy,q3⟩:=q2.cons_inv;have:=q3.nil_inv;subst this;exact⟨a,m,x,y,rfl,e,hx,hy⟩
theorem X9{H H':Hp}{a:Addr}{o:HO}(g:Same H H')(h:H a=none):Same H (upd H' a o):=fun b u q=>by rw[Za (Zd q h)];exact g b u q
theorem Has.of{P:Program}{w:World}{K:W.Frag}{mg:Str→Option Value}{base:Heap}{x:Str}{k:Nat}{ps:List Str}{sp:Sp}{f:Addr}{fd:FuncData}(F:FnOk P w K mg base CX0 k f fd ps sp)(b:Binds K fd ps [])(kp:W.keepIn K (.ref f)=true)(m:mg x=some (.ref f)):
  Has P w K mg base x k ps sp:=⟨f,fd,F,b,kp,m⟩
theorem sK{P:Program}{w:World}{K:W.Frag}{mg:Str→Option Value}{base:Heap}{k:Nat}{ps:List Str}{sp:Sp}{f:Addr}{fd:FuncData}(no:∀vs H Q E,¬sp vs H Q E):FnOk P w K mg base CX0 k f fd ps sp:=
 ⟨fun vs H Q E h=>absurd h (no vs H Q E),fun A outer s H args us vs Q E _ _ _ _ h=>absurd h (no vs H Q E)⟩
def yZ(t T:String):Option Bool:=if (Value.type t==Value.type T)=true then some true else if W.kitMeta T=true then(PySem.fastBuiltinMro t).map (·.contains (.type T))else none
theorem mS{K:W.Frag}{t T:String}{b:Bool}(h:yZ t T=some b):W.kitOne K (.type t) (.type T)=some b:=h
theorem kJ{K:W.Frag}:W.kitOne K (.type "list") (.type "list")=some true:=mS (by decide +kernel)
theorem xD{K:W.Frag}:W.kitOne K (.type "tuple") (.type "list")=some false:=mS (by decide +kernel)
section
variable{X:Cx}
theorem mD{ns:List Int}{us:List Value}(r:Vals (ns.map V.int) us){i:Nat}{u:Value}(h:us[i]?=some u):∃t,u=.int (ns.getD i 0) t:=IntsAre.int_at (Pl r) i u h
theorem iE(hc:X.calm=true):bN X (.builtin "sum") (fun xs H Q=>∃(p:Addr)(ns:List Int),xs=[.ref p]∧SqL X.K H p (ns.map V.int)∧Q (.int ns.sum) H):=by
 intro CA s σ H xs us Q I r h;obtain⟨p,ns,rfl,hq,q⟩:=h;obtain⟨u,rfl,ru⟩:=V1 r;cases ru;obtain⟨its,rv,pl,hz⟩:=I.list hq;have hl:=rv.length;rw[az]at hl;have CI:p<s.heap.objs.size:=by
  obtain⟨o,n,e,_⟩:=pl;exact zN e
 refine call_sum_walkG (wpAny_pyIter_list pl.isList ?_);have hh:X.A.in1.handled=none:=by simpa using I.ok.hd hc
 refine⟨s.heap.objs.size,_,_,_,_,_,fun i=>ns.getD i 0,rfl,Walks.list hh _ p (zX CI) its.toArray,⟨⟨_,zY _ rfl,rfl,rfl⟩,pl.isList.push _⟩,fun b hb=>?_,fun i v hv=>?_,fun h' tk t' kp=>?_⟩
 ·rw[Heap.size_push]
  rcases zZ.mp hb with e | e
  ·rw[e];exact Nat.lt_succ_self _
  ·rw[zG.mp e];exact Nat.lt_succ_of_lt CI
 ·exact mD rv (by simpa using hv)
 ·have e:preSum (fun i=>ns.getD i 0) its.toArray.size=ns.sum:=by
   rw[PyProof.Rows.preSum_getD,z8,←hl,Ab]
  rw[e];refine⟨.int ns.sum,H,I.kept fun b o eb=>kp b o ?_ (io _ eb),⟨_,rfl⟩,q⟩;intro hb;rw[zG.mp hb]at eb;exact absurd (zN eb) (Bd _)
end
section
variable{prog:Program}{w:World}{A:Around}{R:Result→Shared→Prop}{I:Addr}{fp wr:List Addr}{n:Nat}{P:Nat→Value→Prop}{St:Nat→Heap→Prop}
end
variable{prog:Program}{w:World}{A:Around}{E:Value→Shared→Prop}{s:Shared}
section
variable{X:Cx}
end
theorem DV.th_inv{H:Hp}{v:V}{t:Th}(h:DV H v t.D):∃c,v=.ref c∧H c=some (.tup t.vs):=by
 obtain⟨c,xs,rfl,e,q⟩:=DV.tup_inv h;obtain⟨_,_,rfl,k1,q⟩:=q.cons_inv;obtain⟨_,_,rfl,k2,q⟩:=q.cons_inv;obtain⟨_,_,rfl,k3,q⟩:=q.cons_inv;obtain⟨_,_,rfl,k4,q⟩:=q.cons_inv;have:=q.nil_inv;subst this;cases k1;cases k2;cases k3;cases k4;exact⟨c,rfl,e⟩
theorem DVs.th_at{H:Hp}{xs:List V}{ts:List Th}{i:Nat}{x:V}(h:DVs H xs (ts.map Th.D))(hx:xs[i]?=some x):∃t c,ts[i]?=some t∧x=.ref c∧H c=some (.tup t.vs)∧t∈ts:=by
 obtain⟨d,hd,dv⟩:=DVs.getV h hx;rw[z9]at hd;obtain⟨t,ht,rfl⟩:=AV.mp hd;obtain⟨c,rfl,e⟩:=DV.th_inv dv;exact⟨t,c,ht,rfl,e,z7 ht⟩
theorem Zv{α:Type}{l:List α}{i:Nat}{x:α}(h:l[i]?=some x):l.take (i+1)=l.take i++[x]:=by rw[List.take_add_one,h];rfl
theorem je{K:W.Frag}{a:Addr}{xs:List V}{ts:List Th}{k:Nat}{g:TG}{tt:TT}{te:TE}{σ:St}{H:Hp}{Q:VK}(p:Th→Bool)(f:Th→V)(e:H a=some (.lst xs))(dv:DVs H xs (ts.map Th.D))(hl:ts.length≤100000)(hs:∀(t:Th) (c:Addr) (ys:List V) (C:List V→Hp→Prop),t∈ts→H c=some (.tup t.vs)→(p t=true→C (ys++[f t]) H)→(p t=false→C ys H)→g (.ref c) (List.replicate k none++σ) H fun σ2 H2=>Wk σ2 (List.replicate k none++σ)∧tt σ2 H2 fun ok H3=>
   if ok=true then te σ2 H3 fun y H4=>C (ys++[y]) H4 else C ys H3)(hd:∀q,H q=none→Q (.ref q) (upd H q (.lst ((ts.filter p).map f)))):
  CompR (Itl K a) H k g tt te σ Q:=by
 have dl:=dv.length;rw[az]at dl;have le:∀i,(((ts.take i).filter p).map f).length≤100000:=fun i=>by
  rw[az];have h1:=AB p (ts.take i);rw[z5]at h1;omega
 refine Ws (xs:=xs) (fun i ys H'=>H'=H∧ys=((ts.take i).filter p).map f) ⟨rfl,rfl⟩ ?_ ?_ ?_
 ·rintro i ys H' _ ⟨rfl,_⟩;exact SqL.of e
 ·rintro i x ys H' C hx ⟨rfl,rfl⟩ hC;obtain⟨t,c,ht,rfl,ec,hm⟩:=DVs.th_at dv hx;refine⟨Zj (by have:=le i;omega),hs t c _ C hm ec (fun hp=>hC _ _ ⟨rfl,?_⟩) (fun hp=>hC _ _ ⟨rfl,?_⟩)⟩
  ·rw[Zv ht,B7,zW,AA,hp];rfl
  ·rw[Zv ht,B7,AA,hp];simp
 ·rintro ys H' ⟨rfl,rfl⟩;rw[dl,Ab];refine⟨Zl (by have:=le ts.length;rw[Ab]at this;omega),hd⟩
section
variable{κ:Type}[DecidableEq κ]
def bn(kvs:List (κ×V))(k:κ):Option V:=(kvs.find? fun kv=>decide (kv.1=k)).map (·.2)
def aG(kvs:List (κ×V))(k:κ)(v:V):List (κ×V):=
 if (kvs.any fun kv=>decide (kv.1=k))=true then kvs.map (fun kv=>if kv.1=k then(kv.1,v)else kv)else kvs++[(k,v)]
def cg(kvs:List (κ×V))(k:κ):List (κ×V):=kvs.filter fun kv=>decide (kv.1≠k)
theorem Yn{p:κ×V}{r:List (κ×V)}{k:κ}(e:p.1=k):bn (p::r) k=some p.2:=by simp[bn,List.find?_cons,e]
theorem Yc{p:κ×V}{r:List (κ×V)}{k:κ}(e:¬p.1=k):bn (p::r) k=bn r k:=by simp[bn,List.find?_cons,e]
theorem Vj(k:κ):∀kvs:List (κ×V),(kvs.any fun kv=>decide (kv.1=k))=(bn kvs k).isSome
 | []=>rfl
 |p::r=>by
  rw[List.any_cons];by_cases e:p.1=k
  ·simp only[Yn e,decide_eq_true e,Bool.true_or,Option.isSome_some]
  ·rw[Yc e,As e,Bool.false_or];exact Vj k r
theorem ig(k j:κ)(y:V):∀kvs:List (κ×V),bn (kvs.map fun kv=>if kv.1=k then(kv.1,y)else kv) j=(bn kvs j).map fun x=>if j=k then y else x
 | []=>rfl
 |p::r=>by
  have ih:=ig k j y r;rw[zH];by_cases h:p.1=k
  ·rw[zE h];by_cases e:p.1=j
   ·rw[Yn (p:=(p.1,y)) e,Yn e,Option.map_some,zE (e.symm.trans h)]
   ·rw[Yc (p:=(p.1,y)) e,Yc e,ih]
  ·rw[pi h];by_cases e:p.1=j
   ·rw[Yn (p:=p) e,Yn e,Option.map_some,pi (fun z=>h (e.trans z))]
   ·rw[Yc (p:=p) e,Yc e,ih]
theorem Od(k j:κ)(y:V):∀kvs:List (κ×V),bn kvs k=none→bn (kvs++[(k,y)]) j=if j=k then some y else bn kvs j
 | [],_=>by
  by_cases e:k=j
  ·rw[zE e.symm];exact Yn (p:=(k,y)) e
  ·rw[pi (fun z=>e z.symm)];exact Yc (p:=(k,y)) e
 |p::r,hn=>by
  rw[List.cons_append];have hk:¬p.1=k:=fun z=>by rw[Yn z]at hn;cases hn
  rw[Yc hk]at hn;have ih:=Od k j y r hn;by_cases e:p.1=j
  ·rw[Yn e,Yn e,pi (fun z=>hk (e.trans z))]
  ·rw[Yc e,Yc e,ih]
theorem py(kvs:List (κ×V))(k j:κ)(y:V):bn (aG kvs k y) j=if j=k then some y else bn kvs j:=by
 unfold aG;by_cases a:(kvs.any fun kv=>decide (kv.1=k))=true
 ·rw[zE a,ig];rw[Vj]at a;by_cases e:j=k
  ·obtain⟨x,hx⟩:=Option.isSome_iff_exists.mp a;rw[zE e,e,hx,Option.map_some,zE rfl]
  ·rw[pi e];cases bn kvs j with
   |none=>rfl
   |some x=>rw[Option.map_some,pi e]
 ·rw[pi a];refine Od k j y kvs ?_;rw[Vj]at a;cases q:bn kvs k with
  |none=>rfl
  |some x=>rw[q]at a;exact(a rfl).elim
theorem Ru(kvs:List (κ×V))(k:κ)(v:V):(aG kvs k v).length≤kvs.length+1:=by
 unfold aG
 split
 ·rw[az];omega
 ·rw[zI,Ak,AO];omega
theorem pA{kvs:List (κ×V)}{k:κ}(v:V)(h:bn kvs k=none):aG kvs k v=kvs++[(k,v)]:=by
 unfold aG;rw[Vj,h];exact pi (by decide)
theorem RelO.isSome_eq{o:Option V}{u:Option Value}(r:RelO o u):o.isSome=u.isSome:=by
 cases o with
 |none=>cases u with
  |none=>rfl
  |some _=>exact(show False from r).elim
 |some _=>cases u with
  |none=>exact(show False from r).elim
  |some _=>rfl
theorem RelO.getD{o:Option V}{u:Option Value}{d:V}{d':Value}(r:RelO o u)(rd:RelV d d'):RelV (o.getD d) (u.getD d'):=by
 cases o with
 |none=>cases u with
  |none=>exact rd
  |some _=>exact(show False from r).elim
 |some _=>cases u with
  |none=>exact(show False from r).elim
  |some _=>exact r
theorem KV.val{kvs:List (κ×V)}{vs:List (κ×Value)}(r:KV kvs vs)(k:κ):RelO (bn kvs k) (valueAt vs k):=by
 unfold KV at r
 induction r with
 |nil=>exact True.intro
 | @cons p q ps qs h t ih=>
  obtain⟨h1,h2⟩:=h;by_cases e:p.1=k
  ·have e':q.1=k:=h1.symm.trans e;have b:valueAt (q::qs) k=some q.2:=by simp[valueAt,List.find?_cons,e']
   rw[Yn e,b];exact h2
  ·have e':¬q.1=k:=fun z=>e (h1.trans z);have b:valueAt (q::qs) k=valueAt qs k:=by simp[valueAt,List.find?_cons,e']
   rw[Yc e,b];exact ih
theorem KV.any{kvs:List (κ×V)}{vs:List (κ×Value)}(r:KV kvs vs)(k:κ):(kvs.any fun kv=>decide (kv.1=k))=vs.any fun kv=>decide (kv.1=k):=by
 unfold KV at r
 induction r with
 |nil=>rfl
 |cons h t ih=>rw[List.any_cons,List.any_cons,ih,h.1]
theorem KV.repl{kvs:List (κ×V)}{vs:List (κ×Value)}(r:KV kvs vs)(k:κ){y:V}{u:Value}(ry:RelV y u):
  KV (kvs.map fun kv=>if kv.1=k then(kv.1,y)else kv) (vs.map fun kv=>if kv.1=k then(kv.1,u)else kv):=by
 unfold KV at r⊢
 induction r with
 |nil=>exact .nil
 | @cons p q ps qs h t ih=>
  rw[zH,zH];refine .cons ?_ ih;obtain⟨h1,h2⟩:=h;by_cases e:p.1=k
  ·rw[zE e,zE (h1.symm.trans e)];exact⟨h1,ry⟩
  ·rw[pi e,pi (fun z=>e (h1.trans z))];exact⟨h1,h2⟩
theorem KV.put{kvs:List (κ×V)}{vs:List (κ×Value)}(r:KV kvs vs)(k:κ){y:V}{u:Value}(ry:RelV y u):KV (aG kvs k y) (stored vs k u):=by
 unfold aG stored;rw[r.any k];by_cases e:(vs.any fun kv=>decide (kv.1=k))=true
 ·rw[zE e,zE e];exact r.repl k ry
 ·rw[pi e,pi e];exact BS r ⟨rfl,ry⟩
theorem KV.length{kvs:List (κ×V)}{vs:List (κ×Value)}(r:KV kvs vs):kvs.length=vs.length:=zV r
end
theorem jC{P:Program}{w:World}{k:Key}{u:Value}(r:RelV (kV k) u):(ak P w).is k u=true:=by
 cases k with
 |inl i=>obtain⟨t,e⟩:=(show ∃t,u=Value.int i t from r);subst e;exact Ur P w i t
 |inr x=>obtain⟨t,e⟩:=(show ∃t,u=Value.str x t from r);subst e;exact jg P w x t
theorem Op{P:Program}{w:World}:∀{ks:List Key}{us:List Value},Vals (ks.map kV) us→ItemsAre (ak P w) ks us
 | [],_,r=>by rw[Cs]at r;cases r;exact .nil
 |k::ks,_,r=>by
  rw[zH]at r;cases r with
  |cons h t=>exact .cons (jC h) (Op t)
abbrev KT(H:Hp):List (List Key×V)→List (List Key×Addr×Value)→Prop:=Paired fun p q=>p.1=q.1∧H q.2.1=some (.tup (p.1.map kV))∧RelV p.2 q.2.2
theorem KT.val{H:Hp}{kvs:List (List Key×V)}{xs:List (List Key×Addr×Value)}(r:KT H kvs xs)(k:List Key):RelO (bn kvs k) ((atKey xs k).map (·.2)):=by
 induction r with
 |nil=>exact True.intro
 | @cons p q ps qs h t ih=>
  obtain⟨h1,_,h2⟩:=h;by_cases e:p.1=k
  ·have e':q.1=k:=h1.symm.trans e;have b:atKey (q::qs) k=some q.2:=by simp[atKey,List.find?_cons,e']
   rw[Yn e,b];exact h2
  ·have e':¬q.1=k:=fun z=>e (h1.trans z);have b:atKey (q::qs) k=atKey qs k:=by simp[atKey,List.find?_cons,e']
   rw[Yc e,b];exact ih
theorem KT.repl{H:Hp}{kvs:List (List Key×V)}{xs:List (List Key×Addr×Value)}(r:KT H kvs xs)(k:List Key){y:V}{u:Value}(ry:RelV y u):
  KT H (kvs.map fun kv=>if kv.1=k then(kv.1,y)else kv) (xs.map (putAt k u)):=by
 induction r with
 |nil=>exact .nil
 | @cons p q ps qs h t ih=>
  rw[zH,zH];refine .cons ?_ ih;obtain⟨h1,h2,h3⟩:=h;unfold putAt;by_cases e:p.1=k
  ·rw[zE e,zE (h1.symm.trans e)];exact⟨h1,h2,ry⟩
  ·rw[pi e,pi (fun z=>e (h1.trans z))];exact⟨h1,h2,h3⟩
theorem KT.put{H:Hp}{kvs:List (List Key×V)}{xs:List (List Key×Addr×Value)}(r:KT H kvs xs)(k:List Key){b:Addr}{y:V}{u:Value}(hb:H b=some (.tup (k.map kV)))(ry:RelV y u):
  KT H (aG kvs k y) (storedH xs k b u):=by
 have e:(kvs.any fun kv=>decide (kv.1=k))=(atKey xs k).isSome:=by
  rw[Vj,(r.val k).isSome_eq,Option.isSome_map]
 unfold aG storedH;rw[e];by_cases q:(atKey xs k).isSome=true
 ·rw[zE q,zE q];exact r.repl k ry
 ·rw[pi q,pi q];exact BS r ⟨rfl,hb,ry⟩
theorem KT.keeps{H H':Hp}{kvs:List (List Key×V)}{xs:List (List Key×Addr×Value)}(r:KT H kvs xs)(ht:∀b ys,H b=some (.tup ys)→H' b=some (.tup ys)):KT H' kvs xs:=
 Paired.mapP r fun _ _ z=>⟨z.1,ht _ _ z.2.1,z.2.2⟩
section
variable{P:Program}{w:World}{H:Hp}{h:Heap}{a:Addr}
theorem qG{u:HO}(ok:HOk P w H h)(e:Rd H a u):ObjOk P w H h a u:=e.ok ok
theorem Oy{kvs:List (Key×V)}(ok:HOk P w H h)(e:Rd H a (.dK kvs)):kvs.length≤sizeLine∧(a==sysModules)=false∧∃vs,KV kvs vs∧h.DictOf (ak P w) a vs:=
 show ObjOk P w H h a (.dK kvs)from qG ok e
theorem x9{kvs:List (Key×V)}(ok:HOk P w H h)(e:H a=some (.dK kvs)):kvs.length≤sizeLine∧(a==sysModules)=false∧∃vs,KV kvs vs∧h.DictOf (ak P w) a vs:=Oy ok (.inl e)
theorem Ty{ks:List Key}(ok:HOk P w H h)(e:H a=some (.tup (ks.map kV))):(tupleKind (ak P w)).is h ks a:=by
 obtain⟨_,its,r,o,h1,h2,n,h3⟩:=(show ObjOk P w H h a (.tup (ks.map kV))from ok a _ e);exact⟨o,its.toArray,n,h1,h2.1,h3,by simpa using Op r⟩
theorem Ox{kvs:List (List Key×V)}(ok:HOk P w H h)(e:Rd H a (.dT kvs)):kvs.length≤sizeLine∧(a==sysModules)=false∧
  ∃xs,KT H kvs xs∧h.DictOfH (tupleKind (ak P w)) a xs:=by
 obtain⟨z,y,xs,r,o,es,ep,h1,h2,h3,h4,h5⟩:=(show ObjOk P w H h a (.dT kvs)from qG ok e);refine⟨z,y,xs,r,o,es,ep,h1,h2,h3,h4,fun x hx=>?_,h5⟩;have all:∀{l:List (List Key×V)}{m:List (List Key×Addr×Value)},KT H l m→∀x∈m,(tupleKind (ak P w)).is h x.1 x.2.1:=by
  intro l m q
  induction q with
  |nil=>intro x hx;exact nomatch hx
  | @cons p q ps qs hq t ih=>
   intro x hx
   rcases zZ.mp hx with e | hx
   ·subst e;exact Ty ok (by rw[←hq.1];exact hq.2.1)
   ·exact ih x hx
 exact all r x hx
theorem k7{kvs:List (List Key×V)}(ok:HOk P w H h)(e:H a=some (.dT kvs)):kvs.length≤sizeLine∧(a==sysModules)=false∧
  ∃xs,KT H kvs xs∧h.DictOfH (tupleKind (ak P w)) a xs:=Ox ok (.inl e)
end
def DGet(H:Hp)(a:Addr)(y:V)(r:Option V):Prop:=
 (∃kvs k,Rd H a (.dK kvs)∧y=kV k∧r=bn kvs k)∨∃kvs k b,Rd H a (.dT kvs)∧y=.ref b∧H b=some (.tup (k.map kV))∧r=bn kvs k
def DPut(H:Hp)(a:Addr)(y v:V)(H':Hp):Prop:=
 (∃kvs k,H a=some (.dK kvs)∧y=kV k∧kvs.length<sizeLine∧H'=upd H a (.dK (aG kvs k v)))∨
 ∃kvs k b,H a=some (.dT kvs)∧y=.ref b∧H b=some (.tup (k.map kV))∧kvs.length<sizeLine∧H'=upd H a (.dT (aG kvs k v))
theorem DGet.t{H:Hp}{a b:Addr}{kvs:List (List Key×V)}{k:List Key}(e:H a=some (.dT kvs))(eb:H b=some (.tup (k.map kV))):DGet H a (.ref b) (bn kvs k):=.inr ⟨kvs,k,b,.inl e,rfl,eb,rfl⟩
theorem DPut.t{H:Hp}{a b:Addr}{kvs:List (List Key×V)}{k:List Key}{v:V}(e:H a=some (.dT kvs))(eb:H b=some (.tup (k.map kV)))(hl:kvs.length<sizeLine):
  DPut H a (.ref b) v (upd H a (.dT (aG kvs k v))):=.inr ⟨kvs,k,b,e,rfl,eb,hl,rfl⟩
section
variable{X:Cx}{CA:List (Addr×Obj)}{σ:St}{H:Hp}{s:Shared}{a:Addr}{y v:V}{u r:Value}{o:Option V}{A:Around}{E:Value→Shared→Prop}
theorem Inv.big(I:Inv X CA σ H s):sysModules<s.heap.objs.size:=by
 have h:mainGlobals<s.heap.objs.size:=(I.mod.glob.keeps I.bk).lt;exact Bc (by decide) h
theorem nU{Q:Value→Shared→Prop}(hu:A.units+1<cLine)(I:Inv X CA σ H s)(g:DGet H a y (some v))(ry:RelV y u)(h:∀w' s',Inv X CA σ H s'→RelV v w'→Q w' s'):
  wpAny (model X.prog X.w) A (getItem (.ref a) u) Q E s:=by
 rcases g with⟨kvs,k,e,ey,l⟩|⟨kvs,k,b,e,ey,eb,l⟩
 ·subst ey;obtain⟨z,hd,vs,rel,dd⟩:=Oy I.hok e;obtain⟨w',hw,rw'⟩:=RelO.some_of (v:=v) (o:=valueAt vs k) (by rw[l];exact rel.val k);exact wpAny_getItem_of (jC ry) dd.mapOf hw (h w' _ (I.tok _) rw')
 ·subst ey;cases (show u=Value.ref b from ry);obtain⟨z,hd,xs,rel,dd⟩:=Ox I.hok e;obtain⟨w',hw,rw'⟩:=RelO.some_of (v:=v) (o:=(atKey xs k).map (·.2)) (by rw[l];exact rel.val k);obtain⟨p,hp,hp2⟩:=AV.mp hw;refine wpAny_getItem_heap (Bn hu) (Ty I.hok eb) dd hp ?_;rw[hp2];exact h w' _ (I.tok _) rw'
theorem d_in{Q:Value→Shared→Prop}(hu:A.units+1<cLine)(I:Inv X CA σ H s)(g:DGet H a y o)(ry:RelV y u)(h:∀s',Inv X CA σ H s'→Q (.bool o.isSome) s'):
  wpAny (model X.prog X.w) A (compareOp .In u (.ref a)) Q E s:=by
 rcases g with⟨kvs,k,e,ey,l⟩|⟨kvs,k,b,e,ey,eb,l⟩
 ·subst ey;obtain⟨z,hd,vs,rel,dd⟩:=Oy I.hok e;refine wpAny_in_of (jC ry) hd dd.mapOf ?_;rw[←(rel.val k).isSome_eq,←l];exact h _ (I.tok _)
 ·subst ey;cases (show u=Value.ref b from ry);obtain⟨z,hd,xs,rel,dd⟩:=Ox I.hok e;refine wpAny_in_heap (Bn hu) (Ty I.hok eb) hd dd ?_;have q:=(rel.val k).isSome_eq;rw[Option.isSome_map]at q;rw[←q,←l];exact h _ (I.tok _)
theorem lK{h':Heap}{t':Nat}{ob:HO}(I:Inv X CA σ H s)(mu:Mut (H a))(hs:Heap.SameBut a s.heap h')(he:∃q,h'.get? a=some q)(new:ObjOk X.prog X.w (upd H a ob) h' a ob):
  Inv X CA σ (upd H a ob) {s with heap:=h',toks:=t'}:=
 I.write (x:=a) (e:=a) mu (.inl rfl) (fun b q hb z=>(hs.2 b hb).trans z) he new
theorem vK{P:Program}{w:World}{H':Hp}{h':Heap}{kvs:List (Key×V)}{vs:List (Key×Value)}(z:kvs.length≤sizeLine)(hd:(a==sysModules)=false)(rel:KV kvs vs)(dd:h'.DictOf (ak P w) a vs):
  ObjOk P w H' h' a (.dK kvs):=⟨z,hd,vs,rel,dd⟩
theorem oA{H':Hp}{Q:Unit→Shared→Prop}(hu:A.units+1<cLine)(I:Inv X CA σ H s)(g:DPut H a y v H')(ry:RelV y u)(rv:RelV v r)(h:∀s',Inv X CA σ H' s'→Q () s'):
  wpAny (model X.prog X.w) A (setItem (.ref a) u r) Q E s:=by
 rcases g with⟨kvs,k,e,ey,l,eH⟩|⟨kvs,k,b,e,ey,eb,l,eH⟩
 ·subst ey eH;obtain⟨z,hd,vs,rel,dd⟩:=x9 I.hok e;have hz:vs.length≤sizeLine:=by rw[←rel.length];exact z
  have hl:(aG kvs k v).length≤sizeLine:=by have:=Ru kvs k v;omega
  refine wpAny_setItem_pairs (hsz:=hz) (jC ry) dd fun h' dd' hs=>h _ ?_;have he:∃q,h'.get? a=some q:=let ⟨q,_,_,hq,_⟩:=dd';⟨q,hq⟩
  exact lK I (by rw[e];exact True.intro) hs he (vK hl hd (rel.put k rv) dd')
 ·subst ey eH;cases (show u=Value.ref b from ry);obtain⟨z,hd,xs,rel,dd⟩:=k7 I.hok e;have hz:xs.length≤sizeLine:=by rw[←zV rel];exact z
  have hl:(aG kvs k v).length≤sizeLine:=by have:=Ru kvs k v;omega
  refine wpAny_setItem_heap (hsz:=hz) (Bn hu) (Ty I.hok eb) dd fun h' dd' hs=>h _ ?_;obtain⟨q,es,ep,hq,h2,h3,h4,_,h5⟩:=dd';refine lK I (by rw[e];exact True.intro) hs ⟨q,hq⟩ ⟨hl,hd,_,(rel.put k eb rv).keeps fun c ys ec=>?_,q,es,ep,hq,h2,h3,h4,h5⟩;rw[Za (Uh ec e (fun z=>nomatch z))];exact ec
end
section
variable{X:Cx}{CA:List (Addr×Obj)}{σ:St}{H:Hp}{s:Shared}{a:Addr}{kvs:List (Key×V)}{k:Key}{u:Value}{A:Around}{E:Value→Shared→Prop}
end
def x6(i:Expr):Prop:=∀ov iv,subscripted i false ov iv=operate [ov,iv] (getItem ov iv)
theorem sO{prog:Program}{w:World}{A:Around}{E:Value→Shared→Prop}{s:Shared}{env:Env}{value slice:Expr}{pos:Pos}{T id:String}{Q:Value→Shared→Prop}(hl:typeLookup (.type T) "__getitem__"=pure (some (.builtin id)))(hs:x6 slice)(h:wpAny (model prog w) A (eval value env) (fun o s₁=>wpAny (model prog w) A (eval slice env) (fun i s₂=>s₂.TypeIs o T∧wpAny (model prog w) A (getItem o i) Q E s₂) E s₁) E s):
  wpAny (model prog w) A (eval (.Subscript value slice pos) env) Q E s:=by
 refine Subscript_ (AU h (fun o s₁ h₁=>AU h₁ (fun i s₂ h₂=>?_) fun _ _ x=>x) fun _ _ x=>x);obtain⟨hT,h₂⟩:=h₂;unfold subscriptTail;refine ae ?_;rw[getitemInPython_of_ne hT.not_modules];refine ae (wpAny_specialOf hT hl ?_);have fin:wpAny (model prog w) A (subscripted slice false o i) (fun r s₃=>wpAny (model prog w) A (letTemporaryGo value o r >>= fun _=>pure r) Q E s₃) E s₂:=by
  rw[hs o i];exact wpAny_operating (AU h₂ (fun r s₃ h₃=>ae (wpAny_letTemporaryGo (zC h₃))) fun _ _ x=>x)
 first
  |exact zC (ae fin)
  |exact ae (zC (ae fin))
  |exact ae fin
theorem i8{X:Cx}{CA:List (Addr×Obj)}{σ:St}{H:Hp}{s:Shared}{a:Addr}{y:V}{o:Option V}(I:Inv X CA σ H s)(g:DGet H a y o):s.TypeIs (.ref a) "dict":=by
 rcases g with⟨kvs,k,e,_,_⟩|⟨kvs,k,b,e,_,_,_⟩
 ·obtain⟨_,_,vs,_,dd⟩:=Oy I.hok e;exact dd.typeIs
 ·obtain⟨_,_,xs,_,dd⟩:=Ox I.hok e;exact dd.typeIs
def yI(td ty:TE):TE:=fun σ H Q=>td σ H fun x H1=>ty σ H1 fun y H2=>∃a v,x=.ref a∧DGet H2 a y (some v)∧Q v H2
def zd(td ty tv:TE):TS:=fun D σ H=>tv σ H fun v H1=>td σ H1 fun x H2=>ty σ H2 fun y H3=>∃a H4,x=.ref a∧DPut H3 a y v H4∧D.nx σ H4
section
variable{X:Cx}{o i e value:Expr}{pos pos' tpos:Pos}{td ty tv:TE}
theorem Wi(hu:X.A.units+1<cLine)(ho:PE X o td)(hi:PE X i ty)(hs:x6 i):PE X (.Subscript o i pos) (yI td ty):=by
 intro CA s σ H Q I h;refine sO PySem.F.slot_dict_getitem.lookup hs (thn (ho CA s σ H _ I h) fun u s1 ⟨x,H1,I1,rx,q1⟩=>thn (hi CA s1 σ H1 _ I1 q1) fun iv s2 CB=>?_);obtain⟨y,H2,I2,ry,a,v,ex,g,q2⟩:=CB;subst ex;obtain rfl:u=Value.ref a:=rx;exact⟨i8 I2 g,nU hu I2 g ry fun w' s3 I3 rw'=>⟨v,H2,I3,rw',q2⟩⟩
theorem W5(hu:X.A.units+1<cLine)(ho:PE X o td)(hi:PE X i ty)(hv:PE X value tv)(hs:swapsWith value (some (.Subscript o i pos')) pos.line X.env=pure false):
  PS X (.Assign [.Subscript o i pos'] value pos) (zd td ty tv):=by
 intro CA s σ H D I h;refine wpAny_Assign_Subscript (thn (hv CA s σ H _ I h) fun r s1 ⟨v,H1,I1,rv,q1⟩=>thn (ho CA s1 σ H1 _ I1 q1) fun u s2 ⟨x,H2,I2,rx,q2⟩=>thn (hi CA s2 σ H2 _ I2 q2) fun iv s3 CB=>?_) hs;obtain⟨y,H3,I3,ry,a,H4,ex,g,q3⟩:=CB;subst ex;obtain rfl:u=Value.ref a:=rx;exact oA hu I3 g ry rv fun s4 I4=>⟨σ,H4,I4,q3⟩
end
theorem rD{P:Program}{w:World}{H:Hp}(h:Heap)(hb:sysModules<h.objs.size):ObjOk P w H (h.push {cls:=.type "dict",data:=.dict #[]}) h.objs.size (.dT []):=
 ⟨BI _,BC.mpr (Ne.symm (zX hb)),[],.nil,_,#[],0,zY _ rfl,⟨rfl,rfl,rfl⟩,rfl,rfl,An⟩
def wX:TE:=fun _ H Q=>∀p,H p=none→Q (.ref p) (upd H p (.dT []))
section
variable{X:Cx}{pos:Pos}
theorem iM:PE X (.Dict [] [] pos) wX:=fun CA s σ H Q I h=>
 wpAny_Dict_empty ⟨.ref s.heap.objs.size,_,I.laid (a:=s.heap.objs.size) (o:=.dT []) (t':=s.toks) (fun _ _ q=>io _ q) (zD _) (rD s.heap I.big),rfl,h _ (I.hok.fresh (zD _))⟩
end
structure M2(X:Cx)(o:Expr)(m:Str)(apos:Pos)(e f:Expr)(cpos:Pos):Prop where
 base:attributeBase o m X.env (eval o X.env)=eval o X.env
 few:((backTo cpos (starEach [e,f] X.env)).all (fun x=>!x.1) && (backToKw cpos (keywordEach [] X.env)).all (fun x=>x.1.isSome)
  && decide (([e,f]:List Expr).length+([]:List Keyword).length+(if ([]:List Keyword).isEmpty then 0 else 1)<30))=true
 line:(apos.endLine==cpos.line)=true
 trees:backTo cpos (starEach [e,f] X.env)=[(false,eval e X.env),(false,eval f X.env)]
def IsD(H:Hp)(a:Addr):Prop:=(∃kvs,Rd H a (.dK kvs))∨∃kvs,Rd H a (.dT kvs)
theorem wW{X:Cx}{CA:List (Addr×Obj)}{σ:St}{H:Hp}{s:Shared}{a:Addr}(I:Inv X CA σ H s)(d:IsD H a):
  s.TypeIs (.ref a) "dict"∧(∀b,Value.ref a=.ref b→∃ob,s.heap.get? b=some ob∧ob.dict=none)∧(a==sysModules)=false:=by
 rcases d with⟨kvs,e⟩|⟨kvs,e⟩
 ·obtain⟨_,hd,vs,_,dd⟩:=Oy I.hok e;refine⟨dd.typeIs,fun b q=>?_,hd⟩;cases q;obtain⟨ob,_,_,h1,h2,_⟩:=dd;exact⟨ob,h1,h2.2.1⟩
 ·obtain⟨_,hd,xs,_,dd⟩:=Ox I.hok e;refine⟨dd.typeIs,fun b q=>?_,hd⟩;cases q;obtain⟨ob,_,_,h1,h2,_⟩:=dd;exact⟨ob,h1,h2.2.1⟩
section
variable{X:Cx}{CA:List (Addr×Obj)}{σ:St}{H:Hp}{s:Shared}{a:Addr}{y d:V}{u r:Value}{o:Option V}{A:Around}{E:Value→Shared→Prop}
theorem v6{Q:Value→Shared→Prop}(hu:A.units+1<cLine)(I:Inv X CA σ H s)(g:DGet H a y o)(ry:RelV y u)(rd:RelV d r)(h:∀w' s',Inv X CA σ H s'→RelV (o.getD d) w'→Q w' s'):
  wpAny (model X.prog X.w) A (call (.builtin "dict.get") [.ref a,u,r]) Q E s:=by
 rcases g with⟨kvs,k,e,ey,l⟩|⟨kvs,k,b,e,ey,eb,l⟩
 ·subst ey;obtain⟨z,hd,vs,rel,dd⟩:=Oy I.hok e;refine call_meetsIn PySem.F.slot_dict_get dd.typeIs PySem.F.entry_dict_get (PySem.F.args_dict_get_3 _ _ _) (meets_dict_get_default (ak X.prog X.w) a (jC ry) hd r) ⟨_,dd.mapOf,h _ _ (I.tok _) ?_⟩;rw[l];exact(rel.val k).getD rd
 ·subst ey;cases (show u=Value.ref b from ry);obtain⟨z,hd,xs,rel,dd⟩:=Ox I.hok e;refine call_meetsIn PySem.F.slot_dict_get dd.typeIs PySem.F.entry_dict_get (PySem.F.args_dict_get_3 _ _ _) (meetsH_dict_get_default (tupleKind (ak X.prog X.w)) a b hd r) ⟨Bn hu,k,xs,Ty I.hok eb,dd,h _ _ (I.tok _) ?_⟩;rw[l];exact(rel.val k).getD rd
end
def wj(td ty tx:TE):TE:=fun σ H Q=>td σ H fun x H1=>∃a,x=.ref a∧IsD H1 a∧ty σ H1 fun y H2=>tx σ H2 fun z H3=>∃o,DGet H3 a y o∧Q (o.getD z) H3
section
variable{X:Cx}{o e f:Expr}{apos cpos:Pos}{td ty tx:TE}
theorem X1(hu:X.A.units+1<cLine)(ho:PE X o td)(he:PE X e ty)(hf:PE X f tx)(m:M2 X o "get" apos e f cpos):PE X (.Call (.Attribute o "get" apos) [e,f] [] cpos) (wj td ty tx):=by
 intro CA s σ H Q I h;refine wpAny_Call_method m.base m.few m.line AQ PySem.F.slot_dict_get PySem.F.type_dict_get (thn (ho CA s σ H _ I h) fun u s1 CB=>?_);obtain⟨x,H1,I1,rx,a,ex,d,q1⟩:=CB;subst ex;obtain rfl:u=Value.ref a:=rx;obtain⟨t1,t2,_⟩:=wW I1 d;refine⟨t1,t2,?_⟩;rw[m.trees];refine Calls.callWith_builtin rfl (Calls.evalArgs_plain (Calls.spliced_cons (thn (he CA s1 σ H1 _ I1 q1) fun iv s2 ⟨y,H2,I2,ry,q2⟩=>
  Calls.spliced_cons (thn (hf CA s2 σ H2 _ I2 q2) fun fv s3 ⟨z,H3,I3,rz,ov,g,q3⟩=>Calls.spliced_nil ?_))))
 exact v6 hu I3 g ry rz fun w' s4 I4 rw'=>⟨_,H3,I4,rw',q3⟩
end
section
variable{X:Cx}{CA:List (Addr×Obj)}{σ:St}{H:Hp}{s:Shared}{a:Addr}{kvs:List (Key×V)}{A:Around}{E:Value→Shared→Prop}
end
section
variable{X:Cx}{CA:List (Addr×Obj)}{σ:St}{H:Hp}{s:Shared}{a:Addr}{y:V}{u:Value}{A:Around}{E:Value→Shared→Prop}
end
section
variable{X:Cx}
end
section
variable{κ:Type}[DecidableEq κ]
end
section
variable{X:Cx}{tg:Expr}
theorem oQ{bs:List Bool}:(List.range bs.length).all (fun i=>bs.getD i true)=bs.all id:=by
 rw[AN,Az,Az];constructor
 ·intro h b hb;obtain⟨i,hi,rfl⟩:=List.mem_iff_getElem.mp hb;have q:=h i (List.mem_range.mpr hi);rw[List.getD_eq_getElem?_getD,AF hi]at q;exact q
 ·intro h i hi;have hi:=List.mem_range.mp hi;have q:=h bs[i] (List.getElem_mem hi);rw[List.getD_eq_getElem?_getD,AF hi];exact q
theorem q5(hc:X.calm=true):bN X (.builtin "all") (fun xs H Q=>∃(p:Addr)(bs:List Bool),xs=[.ref p]∧SqL X.K H p (bs.map V.bl)∧Q (.bl (bs.all id)) H):=by
 intro CA s σ H xs us Q I r h;obtain⟨p,bs,rfl,hq,q⟩:=h;obtain⟨u,rfl,ru⟩:=V1 r;cases ru;obtain⟨its,rv,pl,hz⟩:=I.list hq;have hl:=rv.length;rw[az]at hl;have CI:p<s.heap.objs.size:=by
  obtain⟨o,n,e,_⟩:=pl;exact zN e
 have hh:X.A.in1.handled=none:=by simpa using I.ok.hd hc
 refine call_all_walk (wpAny_pyIter_list pl.isList ⟨s.heap.objs.size,_,_,_,_,_,fun i=>bs.getD i true,rfl,Walks.list hh _ p (zX CI) its.toArray,⟨⟨_,zY _ rfl,rfl,rfl⟩,pl.isList.push _⟩,fun i v s' Q' E' hv hQ=>?_,fun h' tk kp=>?_⟩)
 ·have hv':its[i]?=some v:=by simpa using hv
  have hi:i<bs.length:=by rw[hl];exact(zM.mp hv').1
  obtain⟨u,hu,ru⟩:=rv.get (i:=i) (x:=.bl bs[i]) (by rw[z9,AF hi];rfl);rw[hv']at hu;cases hu;cases (show v=Value.bool bs[i]from ru);have e:bs.getD i true=bs[i]:=by rw[List.getD_eq_getElem?_getD,AF hi];rfl
  simp only[e]at hQ;exact Be hQ
 ·have e:(List.range its.toArray.size).all (fun i=>bs.getD i true)=bs.all id:=by
   rw[z8,←hl];exact oQ
  simp only[e];refine⟨.bl (bs.all id),H,I.kept fun b o eb=>kp b o ?_ (io _ eb),rfl,q⟩;intro hb;rw[zG.mp hb]at eb;exact absurd (zN eb) (Bd _)
end
section
variable{X:Cx}
end
section
theorem jz{a c n:Nat}(hac:a≤c)(han:a≤n):sliceBounds (some (a:Int)) (some (c:Int)) none n=((a:Int),((min c n:Nat):Int),1):=by
 simp only[sliceBounds,Option.getD_none];have h1:¬((a:Int)<0):=by omega
 have h2:¬((c:Int)<0):=by omega
 simp only[h1,h2,if_false,show(1:Int) > 0 by decide,if_true]
 congr 1
 ·omega
 ·congr 1;omega
set_option maxRecDepth 100000 in
theorem Qy{l b sl:Addr}{items new:Array Value}{n n2:Nat}{vl vu:Value}{a c:Nat}{Q:Unit→Shared→Prop}(e:s.heap.get? l=some {cls:=.type "list",data:=.seq items n})(e2:s.heap.get? b=some {cls:=.type "list",data:=.seq new n2})(hne:l≠b)(hs:s.heap.IsSliceOf sl vl vu .none)(pl:IsPart vl (some (a:Int)))(pu:IsPart vu (some (c:Int)))(hac:a≤c)(han:a≤items.size)(hsz:items.size+new.size≤sizeLine)(h:Q () {s with heap:=s.heap.update l (Obj.mapSeq fun xs=>xs.extract 0 a++new++xs.extract (min c items.size) xs.size)}):
  wpAny (model prog w) A (setItem (.ref l) (.ref sl) (.ref b)) Q E s:=by
 have hl:s.heap.IsList l items:=PySem.IsL.isList e;have hb:s.heap.IsList b new:=PySem.IsL.isList e2;obtain⟨os,hos,hcs,hds⟩:=id hs;have hTs:s.TypeIs (.ref sl) "slice":=⟨os,hos,hcs⟩;have hstep:¬((rawPart none==rawInt 0)=true):=zK;have hsame:Builtin.List.listSameRef (.ref l) (.ref b)=false:=by
  unfold Builtin.List.listSameRef;exact BC.mpr hne
 have hmax:(max (a:Int) (((min c items.size:Nat):Int))).toNat=min c items.size:=by omega
 have hz':((fun xs:Array Value=>xs.extract 0 a++new++xs.extract (min c items.size) xs.size) items).size≤sizeLine+1:=by
  simp only[Array.size_append,Array.size_extract];omega
 unfold setItem
 try with_reducible refine Ax ?_
 first | refine ae (zC ?_) | skip
 refine ae (wpAny_sequenceKey hl.typeIs (by decide) ?_);refine ae (wpAny_callSpecial?_slot (name:=Str.ofString "__setitem__") hl.typeIs slot_list_setitem
  (A4 slot_list_setitem hl.typeIs entry_list_setitem ?_ (args_list_setitem _ _ _)))
 show wpAny _ _ (Builtin.List.listSubscript? (.ref sl) >>= _) _ _ s;refine ae ?_;unfold Builtin.List.listSubscript?;refine ae (wpAny_specialOf hTs slice_no_index ?_);simp only[Option.isNone_none,if_true];refine zC ?_;show wpAny _ _ (typeOf (.ref sl) >>= _) _ _ s;refine ae (Br hTs ?_)
 first
  |rw[pi (by decide)]
  |refine W.KFB.if_not (by decide) ?_
 rw[listSliceParts_eq];refine ae (ae (BH hos hds (x:=.none) rfl (ae (wpAny_listPart .none ?_))));rw[pi hstep];refine ae (BH hos hds (x:=vl) rfl (ae (wpAny_listPart pl ?_)));refine ae (BH hos hds (x:=vu) rfl (ae (wpAny_listPart pu (zC ?_))))
 first
  |simp only[hsame,Bool.false_eq_true,if_false]
  |refine W.KFB.if_not hsame ?_
  | (dsimp only
     rw[pi (by rw[hsame];exact zK)])
 refine ae (m:=Builtin.List.listAllItems (.ref b) "must assign iterable to extended slice") ?_;unfold Builtin.List.listAllItems;refine ae (Br hb.typeIs ?_)
 first
  |refine W.KFB.if_so (by decide) ?_
  |rw[zE (by decide)]
  |simp only[beq_self_eq_true,Bool.true_or,if_true]
 unfold Builtin.List.listItems;refine ae (wpAny_seqItems e2 rfl (zC ?_));refine ae (ae (wpAny_seqItems e rfl (zC ?_)));refine wpAny_bind (wpAny_of_eq ((sliceIndices_raw (some (a:Int)) (some (c:Int)) none items.size (by simp)).trans (congrArg (pure:Int×Int×Int→Sem (Int×Int×Int)) (jz hac han))) ?_);show wpAny _ _ (if ((1:Int)==1)=true then _ else _) _ _ s;rw[zE (by decide)];refine ae (Bo ?_)
 first
  |simp only[Sn hsz,Bool.false_eq_true,if_false]
  |refine W.KFB.if_not (Sn hsz) ?_
 first | refine ae (zC ?_) | skip
 show wpAny _ _ (updateSeq l (fun xs=>xs.extract 0 ((a:Int)).toNat++new++xs.extract (max (a:Int) (((min c items.size:Nat):Int))).toNat xs.size) >>= _) _ _ s;rw[hmax,Int.toNat_natCast];refine ae (wpAny_updateSeq (hz:=At (Nat.le_add_right _ _) hsz) (_hz':=hz') e rfl ?_);refine ae (wpAny_letGo ?_)
 first
  |exact ae (zC (zC ⟨.none,rfl,zC h⟩))
  |exact zC ⟨.none,rfl,zC h⟩
end
section
variable{X:Cx}{o e:Expr}{to te:TE}{lo hi:Option Expr}{tl th:TO}{pos p2:Pos}
def gSlc(to:TE)(tl th:TO):TG:=fun v σ H Q=>to σ H fun ov H1=>tl σ H1 fun l H2=>th σ H2 fun u H3=>∃(p b:Addr)(xs ys:List V)(a c:Nat),ov=.ref p∧v=.ref b∧l=some (a:Int)∧u=some (c:Int)∧H3 p=some (.lst xs)∧H3 b=some (.lst ys)∧p≠b∧a≤c∧a≤xs.length∧
 xs.length+ys.length≤sizeLine∧Q σ (upd H3 p (.lst (xs.take a++ys++xs.drop (min c xs.length))))
theorem wy(ho:PE X o to)(hl:PO X lo tl)(hu:PO X hi th)(ha:∀v,assign (.Subscript o (.Slice lo hi none p2) pos) X.env v=(do
   let ov ←holding [v] (eval o X.env)
   let iv ←holding [v,ov] (eval (.Slice lo hi none p2) X.env)
   standAt pos
   holding [v,ov,iv] (setItem ov iv v)
   release [iv,v,ov] []):=by intro _;rfl):PG X (.Subscript o (.Slice lo hi none p2) pos) (gSlc to tl th):=by
 intro CA s σ H v u Q I r h;rw[ha];refine ae (Ax (thn (ho CA s σ H _ I h) fun ov s1 CB=>?_));obtain⟨x,H1,I1,r1,q1⟩:=CB;refine ae (Ax (wpAny_Slice (thn (hl CA s1 σ H1 _ I1 q1) fun vl s2 ⟨l,H2,I2,pl,q2⟩=>thn (hu CA s2 σ H2 _ I2 q2) fun vu s3 CB=>?_)));obtain⟨uu,H3,I3,pu,q3⟩:=CB;rw[evalPart_none];refine zC ?_;obtain⟨p,b,xs,ys,a,c,rfl,rfl,rfl,rfl,hp,hb,hne,hac,han,hz,q⟩:=q3;cases r1;cases r;have I4:Inv X CA σ H3 {s3 with heap:=s3.heap.push {cls:=.type "slice",data:=.fields #[vl,vu,.none]}}:=I3.kept (t':=s3.toks) fun b ob q=>io _ q;obtain⟨z,its,n,rv,CS,e⟩:=I4.lstM hp;obtain⟨z2,its2,n2,rv2,hlen2,e2⟩:=I4.lstM hb;refine ae (wpAny_standAt (ae (Ax (Qy (a:=a) (c:=c) e e2 hne (Heap.IsSliceOf.new ..) pl pu hac (by rw[z8];omega) (by rw[z8,z8];omega) (wpAny_release ⟨σ,_,?_,q⟩)))));refine I4.lset (its':=its.take a++its2++its.drop (min c xs.length)) (t':=s3.toks) hp e ?_ (Vals.append (Vals.append (rv.take _) rv2) (rv.drop _)) ?_
 ·have e3:min c its.toArray.size=min c xs.length:=by rw[z8,CS]
  rw[e3];exact oM its its2 a (min c xs.length)
 ·rw[zI,zI,z5,BJ];omega
end
section
open PySem.AutoSeq1 (wpAny_loadPart')
open PySem.MeetsSeq PySem.MeetsSeq2 PySem.MeetsSeq3
end
section
variable{X:Cx}
end
theorem Zp{H H1:Hp}{p:Addr}{o:HO}(h:upd H p o=H1)(n:H p=none):Same H H1:=h ▸ Z6 n o
theorem Y2{H H1:Hp}{p:Addr}{o:HO}(h:upd H p o=H1):H1 p=some o:=h ▸ Z2
inductive Kd(H:Hp):V→String→Prop
 |non:Kd H .non "NoneType"
 |bl (b:Bool):Kd H (.bl b) "bool"
 |int (i:Int):Kd H (.int i) "int"
 |str (z:Str):Kd H (.str z) "str"
 |lst {a:Addr} {xs:List V} (e:H a=some (.lst xs)):Kd H (.ref a) "list"
 |tup {a:Addr} {xs:List V} (e:H a=some (.tup xs)):Kd H (.ref a) "tuple"
 |dK {a:Addr} {kvs:List (Key×V)} (e:H a=some (.dK kvs)):Kd H (.ref a) "dict"
theorem Kd.ty{K:W.Frag}{H:Hp}{x:V}{T:String}(h:Kd H x T):TyOf K H x (.type T):=by
 cases h with
 |non=>exact .non
 |bl b=>exact .bl b
 |int i=>exact .int i
 |str z=>exact .str z
 |lst e=>exact .lst e
 |tup e=>exact .tup e
 |dK e=>exact .dK e
def kds:List String:=["NoneType","bool","int","str","list","tuple","dict"]
def kus:List String:=["int","bool","str","list","tuple"]
def qr(T U:String):Bool:=(T==U) || (T == "bool" && U == "int")
theorem sf:∀T∈kds,∀U∈kus,yZ T U=some (qr T U):=by decide +kernel
theorem Kd.mem{H:Hp}{x:V}{T:String}(h:Kd H x T):T∈kds:=by cases h <;> decide
theorem Kd.kit{K:W.Frag}{H:Hp}{x:V}{T U:String}{b:Bool}(h:Kd H x T)(hU:U∈kus)(e:qr T U=b):W.kitOne K (.type T) (.type U)=some b:=by
 subst e;exact mS (sf T h.mem U hU)
def whV:V→Bool
 |.int _=>true
 |_=>false
def wF:V→Int→Bool
 |.int i,l=>decide (l≤i)
 |_,_=>false
theorem Kd.wh{H:Hp}{x:V}{T:String}(h:Kd H x T):(qr T "int" && !qr T "bool")=whV x:=by
 cases h <;> (first | rfl | (simp[qr,whV]))
theorem im{X:Cx}{x:Str}{v:V}{pos:Pos}(hg:Gl X x)(h:∃u,X.mg x=some u∧RelV v u)(hd:(x==("__debug__":Str))=false:=by decide):PE X (.Name x pos) (tC v):=by
 obtain⟨u,hm,r⟩:=h;exact sn hg hm r hd
section
variable{X:Cx}{x:Str}{p pos:Pos}{e:Expr}{es:List Expr}{kws:List Keyword}{ks:List Str}{t tk:TA}{id:String}{r:List V→List V→Hp→VK→Prop}
end
section
variable{prog:Program}{w:World}{A:Around}{E:Value→Shared→Prop}{s:Shared}{T:String}{r d:Addr}{n:Nat}{P:Nat→Value→Prop}{OK:Heap→Prop}
def v_(s:Shared)(P:Nat→Value→Prop)(n:Nat)(q:Result)(s':Shared):Prop:=
 ∃(g:Heap)(tk c:Nat)(xs:Array Value),q=.ok (.ret (.ref s.heap.objs.size))∧s'={s with heap:=g,toks:=tk}∧(∀b o,s.heap.get? b=some o→g.get? b=some o)∧g.get? s.heap.objs.size=some {cls:=.type "list",dict:=none,data:=.seq xs c,slots:=#[]}∧ItemsOf P xs n
theorem ic{R:List Value→Shared→Prop}(K:W.KdlSrc prog w T r d n P OK)(hh:A.handled=none)(hok:OK s.heap)(hn:n≤sizeLine)(h:∀(g:Heap) (tk:Nat) (xs:Array Value),(∀b o,s.heap.get? b=some o→g.get? b=some o)→s.heap.objs.size<g.objs.size→ItemsOf P xs n→R xs.toList {s with heap:=g,toks:=tk}):wpAny (model prog w) A (collect (.ref r)) R E s:=by
 obtain⟨lt1,lt2⟩:=K.there _ hok;unfold collect;refine ae (wpAny_runValue (BB entry_proto_collect' ?_));rw[A0 PySem.F.plain_proto_collect _];refine ae (m:=newList []) (AZ (zC ⟨Cc B3 _,BB entry_list_iadd' ?_⟩));rw[A0 B3 _];have own:(s.heap.push {cls:=.type "list",data:=.seq ([]:List Value).toArray}).get? s.heap.objs.size=some {cls:=.type "list",data:=.seq #[]}:=zY _ rfl;have run:=W.kdl_extend (A:=A) (s:={s with heap:=s.heap.push {cls:=.type "list",data:=.seq ([]:List Value).toArray}}) (R:=v_ s P n) K hh (K.keep _ _ hok fun _ _ _ e=>io _ e) s.heap.objs.size (AH lt1) (AH lt2) (.ref s.heap.objs.size) 0 own
  (fun g tk xs c hk hS hx=>⟨g,tk,c,xs,rfl,rfl,fun b o e=>hk b o (zX (zN e)) (io _ e),hS,hx⟩) hn
 refine AU run (fun fin s' y=>?_) (fun _ _ y=>by obtain⟨_,_,_,_,e,_⟩:=y;cases e);cases fin with
 |done f=>
  obtain⟨g,tk,c,xs,e,rfl,hk,hS,hx⟩:=y;cases e;exact ae (m:=load s.heap.objs.size) (Cv hS (zC (h g tk xs hk (zN hS) hx)))
 |again c1=>
  refine⟨y.1,Cr y.2 fun q s2 z=>?_⟩;obtain⟨g,tk,c,xs,rfl,rfl,hk,hS,hx⟩:=z;exact ae (m:=load s.heap.objs.size) (Cv hS (zC (h g tk xs hk (zN hS) hx)))
end
def fg(a d:Addr):HO:=.ext fun h=>h.IsValuesView a d
def bg(a d:Addr):HO:=.ext fun h=>h.IsItemsView a d
section
variable{X:Cx}{CA:List (Addr×Obj)}{σ:St}{H:Hp}{s:Shared}
def over(H:Hp)(n:Nat)(L:Hp):Hp:=fun b=>if b<n then H b else L b
theorem P4{H L:Hp}{n:Nat}{b:Addr}(h:b<n):over H n L b=H b:=zE h
theorem iY{H L:Hp}{n:Nat}{b:Addr}(h:n≤b):over H n L b=L b:=pi (Nat.not_lt.mpr h)
theorem Inv.over{L:Hp}{g:Heap}{t':Nat}(I:Inv X CA σ H s)(k:∀b u,s.heap.get? b=some u→g.get? b=some u)(new:∀b o,s.heap.objs.size≤b→L b=some o→ObjOk X.prog X.w (over H s.heap.objs.size L) g b o):
  Inv X CA σ (L2.over H s.heap.objs.size L) {s with heap:=g,toks:=t'}∧Same H (L2.over H s.heap.objs.size L):=by
 have old:∀b o,H b=some o→L2.over H s.heap.objs.size L b=some o:=fun b o e=>by rw[P4 (I.hok b o e).lt];exact e
 have fre:∀b u,s.heap.get? b=some u→H b=none→L2.over H s.heap.objs.size L b=none:=fun b u e n=>by rw[P4 (zN e)];exact n
 refine⟨I.un ⟨fun b u e _ _ _=>k b u e,fun b u e _ _ _=>⟨u.slots,k b u e⟩,fun b u e n _=>fre b u e n,fun b u e _=>⟨u,k b u e⟩,fun b xs e=>old b _ e,fun b o u e=>old b _ e,fun b ps e=>⟨#[],by rw[old b _ e];simp⟩⟩ ?_,old⟩;intro b o e;by_cases hb:b<s.heap.objs.size
 ·rw[P4 hb]at e;exact(I.hok b o e).stay (fun c u _ q=>k c u q) (fun c q=>old c _ q) fun c xs q=>old c _ q
 ·have hb:=Nat.not_lt.mp hb;rw[iY hb]at e;exact new b o hb e
theorem Oo:∀as:List Addr,Vals (as.map V.ref) (as.map Value.ref)
 | []=>.nil
 |_::as=>.cons rfl (Oo as)
end
def yk(i j:Int):Prop:=0<j∧j<1000000000000000000000000000000000000000000000000000000000000
theorem rQ{X:Cx}:OpR X (binaryOp .FloorDiv) (rI yk fun i j=>.int (i / j)):=opI fun i j _ _ _ _ _ hc q=>by
 have h1:(0:Int)<j:=hc.1;have h2:j<1000000000000000000000000000000000000000000000000000000000000:=hc.2;refine floordiv_int (by omega) (by rw[Int.fdiv_eq_ediv_of_nonneg i (by omega)];exact q) (.inl (PyProof.noPylong_of_log2 ?_));have hn:j.natAbs≠0:=by omega
 have hl:j.natAbs<2^400:=z6 (show j.natAbs<1000000000000000000000000000000000000000000000000000000000000 by omega) (by decide +kernel);exact Bc ((Nat.log2_lt hn).mpr hl) (by decide)
section
variable{X:Cx}
end
section
variable{X:Cx}
end
theorem fZ:typeLookup (.type "list") "keys"=pure none:=am_miss_of_fast (by decide +kernel)
theorem O8:typeLookup (.type "tuple") "keys"=pure none:=am_miss_of_fast (by decide +kernel)
theorem Rw:entryFor table "dict.update.loop"=some Builtin.«dict.update.loop»:=entryFor_of_tree (by kernel_rfl)
theorem W8:plainId "dict.update.loop"=true:=by decide +kernel
theorem yH{a:Addr}{xs:Array Value}{k:Nat}{sl:Array (Option Value)}{Q:Option Value→Shared→Prop}(hx:s.heap.get? a=some {cls:=.type "tuple",dict:=none,data:=.seq xs k,slots:=sl})(hA:A.handled=none)(h:∀g tk,(∀b o,s.heap.get? b=some o→g.get? b=some o)→Q none {s with heap:=g,toks:=tk}):wpAny (model prog w) A (getAttr? (.ref a) "keys") Q E s:=by
 obtain⟨hp,g,d,tk,os⟩:=s;have hT:∀tk',(⟨hp,g,d,tk',os⟩:Shared).TypeIs (.ref a) "tuple":=fun _=>⟨_,hx,rfl⟩;have f1:=sub_AttributeError;have f3:=F.slot_tuple_getattribute.lookup;have f4:=F.slot_tuple_getattribute.bind (.ref a);have f5:=am_tuple_getattr_none;unfold getAttr? getAttrBy? getAttrBy
 repeat (any_goals (first | assumption | exact hT _ | ((with_reducible show wpAny _ _ (call (Value.builtin "tuple.__getattribute__") _ _) _ _ _);refine call_meets F.slot_tuple_getattribute (hT _) am_entry_tuple_getattribute (F.args_tuple_getattribute_2 _ _) (meets_getattribute_miss_tuple a xs k sl "keys" _ O8 (by decide +kernel) (by decide +kernel)) ⟨hx,by simpa using hA,fun h' tk' e hx'=>?_⟩) | wp_step))
 obtain⟨t',u',he⟩:=hx'.there;show wpAny _ _ (getattributeRaised _ _ _ _ _ _ _) _ _ _;unfold getattributeRaised
 repeat (any_goals (first | assumption | wp_step))
 exact h _ _ hx'.keeps
theorem yh{a:Addr}{xs:Array Value}{k:Nat}{sl:Array (Option Value)}{Q:Option Value→Shared→Prop}(hx:s.heap.get? a=some {cls:=.type "list",dict:=none,data:=.seq xs k,slots:=sl})(hA:A.handled=none)(h:∀g tk,(∀b o,s.heap.get? b=some o→g.get? b=some o)→Q none {s with heap:=g,toks:=tk}):wpAny (model prog w) A (getAttr? (.ref a) "keys") Q E s:=by
 obtain⟨hp,g,d,tk,os⟩:=s;have hT:∀tk',(⟨hp,g,d,tk',os⟩:Shared).TypeIs (.ref a) "list":=fun _=>⟨_,hx,rfl⟩;have f1:=sub_AttributeError;have f3:=F.slot_list_getattribute.lookup;have f4:=F.slot_list_getattribute.bind (.ref a);have f5:=am_list_getattr_none;unfold getAttr? getAttrBy? getAttrBy
 repeat (any_goals (first | assumption | exact hT _ | ((with_reducible show wpAny _ _ (call (Value.builtin "list.__getattribute__") _ _) _ _ _);refine call_meets F.slot_list_getattribute (hT _) am_entry_list_getattribute (F.args_list_getattribute_2 _ _) (meets_getattribute_miss_list a xs k sl "keys" _ fZ (by decide +kernel) (by decide +kernel)) ⟨hx,by simpa using hA,fun h' tk' e hx'=>?_⟩) | wp_step))
 obtain⟨t',u',he⟩:=hx'.there;show wpAny _ _ (getattributeRaised _ _ _ _ _ _ _) _ _ _;unfold getattributeRaised
 repeat (any_goals (first | assumption | wp_step))
 exact h _ _ hx'.keeps
section
variable{X:Cx}{CA:List (Addr×Obj)}{σ:St}{H:Hp}{s:Shared}
end
theorem iR{l m:List Int}(p:l.Perm m):l.sum=m.sum:=by
 induction p with
 |nil=>rfl
 |cons x _ ih=>rw[Ac,Ac,ih]
 |swap x y l=>simp only[List.sum_cons];omega
 |trans _ _ a b=>exact a.trans b
theorem PenAt.tup{H:Hp}{a p:Addr}{xs:List V}(h:PenAt H a)(e:H p=some (.tup xs)):ao a H p=some (.tup xs):=by
 have ne:p≠a:=fun q=>by
  subst q;obtain⟨_,_,_,e'⟩:=h;rw[e]at e';cases e'
 rw[Zg ne];exact e
section
variable{X:Cx}
end
end L2
namespace L2
open PySem PySem.Spec PyProof.Rows
section
variable{X:Cx}{N':List Str}{CA:List (Addr×Obj)}{σ:St}{H:Hp}{s:Shared}
end
theorem Sa{t u:TS}{D:Ends}{σ:St}{H:Hp}(R:St→Hp→Prop)(main:∀nx:St→Hp→Prop,(∀σ' H',R σ' H'→nx σ' H')→t {D with nx:=nx} σ H)(fin:∀σ' H',R σ' H'→u D σ' H'):xW t u D σ H:=main _ fin
section
variable{M:Model}{A:Around}{E:Value→Shared→Prop}{s:Shared}{env:Env}{outer l:List Env}{L e:Addr}{base:Heap}{cls a0 fl:Value}{Q:Unit→Shared→Prop}
end
theorem mR{l:List Env}{env:Env}{b:Addr}(h:env∈l)(e:env.frame=some b):b∈frs l:=Bm.mpr ⟨env,h,e⟩
section
variable{M:Model}{A:Around}{E:Value→Shared→Prop}{s:Shared}{env:Env}{outer:List Env}{L a T:Addr}{cls:Value}{Q:Unit→Shared→Prop}
end
section
variable{P:Program}{w:World}{K:W.Frag}{mg:Str→Option Value}{base:Heap}{N:List Str}{qual:Str}{scope:Scope}{f:Addr}{cd:Value}{A:Around}{outer:List Env}{s:Shared}{H:Hp}{E:XK}
end
section
variable{P:Program}{w:World}{K:W.Frag}{mg:Str→Option Value}{base:Heap}{N:List Str}{qual:Str}{scope:Scope}{f:Addr}{cd:Value}{A:Around}{outer:List Env}{s:Shared}{H:Hp}{E:XK}
variable{j k:Nat}{ps:List Str}{sp:Sp}{x:Str}{p pos:Pos}{e:Expr}{es:List Expr}{t:TA}
end
section
variable{prog:Program}{w:World}{A:Around}{E:Value→Shared→Prop}{h:Heap}{g:Array GenState}{d:Drawn}{t:Nat}{os:OsState}{a C:Addr}{o:Obj}{K:W.Frag}
end
section
variable{X:Cx}{CA:List (Addr×Obj)}{σ:St}{H:Hp}{s:Shared}
end
section
variable{X:Cx}{x c n:Str}{p pos cpos epos np hpos:Pos}{e:Expr}{es:List Expr}{ta:TA}{tb:TS}{b₀:Stmt}{suite:List Stmt}{j k i:Nat}{ps:List Str}{sp:Sp}{S:Addr}
end
end L2
namespace L2
open PySem PySem.Spec PyProof.Rows
theorem iS{K:W.Frag}{a:Addr}{xs:List V}{k:Nat}{g:TG}{tt:TT}{te:TE}{σ:St}{H:Hp}{Q:VK}(Pv:Nat→List V→Hp→Prop)(h0:Pv 0 [] H)(hl:∀i ys H,i≤xs.length→Pv i ys H→SqT K H a xs)(hs:∀i x ys H (C:List V→Hp→Prop),xs[i]?=some x→Pv i ys H→(∀ys' H',Pv (i+1) ys' H'→C ys' H')→ys.length<sizeLine∧g x (List.replicate k none++σ) H fun σ2 H2=>Wk σ2 (List.replicate k none++σ)∧tt σ2 H2 fun ok H3=>
   if ok=true then te σ2 H3 fun y H4=>C (ys++[y]) H4 else C ys H3)(hd:∀ys H,Pv xs.length ys H→ys.length≤sizeLine∧∀p,H p=none→Q (.ref p) (upd H p (.lst ys))):
  CompR (Itt K a) H k g tt te σ Q:=by
 refine⟨fun i m ys H=>m=xs.length-i∧i≤xs.length∧Pv i ys H,⟨xs.length,by simp,Nat.zero_le _,h0⟩,?_⟩;rintro i m ys H ⟨rfl,hi,p⟩;have q:=hl i ys H hi p;by_cases CI:i<xs.length
 ·have r:=hs i xs[i] ys H (fun ys' H'=>∃m',m'<xs.length-i∧m'=xs.length-(i+1)∧i+1≤xs.length∧Pv (i+1) ys' H') (by simp[CI]) p fun ys' H' p'=>⟨_,by omega,rfl,CI,p'⟩;refine .inr ⟨⟨xs,xs[i],q,by simp[CI]⟩,r.1,fun x H' y=>?_⟩;obtain⟨e,y⟩:=y;subst e;have ex:xs[i]?=some x:=y xs q;have ex2:xs[i]=x:=by simpa [CI] using ex
  rw[←ex2];exact r.2
 ·have e:i=xs.length:=by omega
  subst e;exact .inl ⟨⟨xs,q,zD _⟩,hd ys H p⟩
section
variable{P:Program}{w:World}{K:W.Frag}{mg:Str→Option Value}{base:Heap}{CX:CXT}{k:Nat}{f:Addr}{fd:FuncData}{ps:List Str}{sp sp':Sp}
end
def Cal(base:Heap)(f:Addr):Prop:=∃oc od fd sl,base.get? f=some ⟨oc,od,.func fd,sl⟩
theorem on{M:Model}{f:Addr}{base:Heap}(c:Cal base f)(h:Heap)(k:∀b o,base.get? b=some o→h.get? b=some o):∃q,(q=Keeper.frame∨q=Keeper.machine∨q=Keeper.boundFrame)∧W.Looks M h (keeperOf (.ref f)) q:=by
 obtain⟨oc,od,fd,sl,e⟩:=c;refine⟨.frame,.inl rfl,fun A Q E s kk q=>?_⟩;exact ae (Cv (kk _ _ (k _ _ e)) (zC q))
def xj(P:Program)(w:World)(K:W.Frag)(mg:Str→Option Value)(base:Heap)(k i:Nat)(t:TA):TE:=fun σ H Q=>∃(f:Addr)(fd:FuncData)(ps:List Str)(sp:Sp),σ[i]?=some (some (.ref f))∧FnOk P w K mg base CX0 k f fd ps sp∧Binds K fd ps []∧Cal base f∧
 t σ H fun vs H1=>sp vs H1 Q E0
section
variable{X:Cx}{k i:Nat}{x:Str}{p pos:Pos}{e:Expr}{es:List Expr}{t:TA}
theorem ie(hr:Room k X.A)(ha:PA X (e::es) t)(hN:X.N[i]?=some x:=by rfl)(hv:Vis X.env.scope x:=by first | exact Or.inl rfl | exact Or.inr (Or.inl rfl) | exact Or.inr (Or.inr rfl))(hd:(x==("__debug__":Str))=false:=by decide)(hcd:(x==("__classdict__":Str))=false:=by decide)(he:starEach (e::es) X.env=(false,eval e X.env)::starEach es X.env:=by rfl)(hpl:(backTo pos (starEach es X.env)).any (·.1)=false:=by rfl):
  PE X (.Call (.Name x p) (e::es) [] pos) (xj X.prog X.w X.K X.mg X.base k i t):=by
 intro CA s σ H Q I h;obtain⟨f,fd,ps,sp,hs,F,b,c,q⟩:=h;refine B5 (thn (pV hN hv hd hcd CA s σ H (fun v H'=>v=.ref f∧H'=H) I ⟨_,hs,rfl,rfl⟩) fun u s1 z=>?_);obtain⟨v,H',I1,r,rfl,rfl⟩:=z;cases (show u=Value.ref f from r);have hh:=ha pos CA s1 σ H' _ I1 q;show wpAny _ _ (callWith pos (.ref f) [] (backTo pos (starEach (e::es) X.env)) []) _ _ _;rw[he]at hh⊢;refine W.callWith_of (P:=fun h=>∀b o,X.base.get? b=some o→h.get? b=some o) (by show((false || (backTo pos (starEach es X.env)).any (·.1)) || false)=false;rw[hpl];rfl) (fun h k=>on c h k) (Calls.evalArgs_plain (thn hh fun us s2 z=>?_));obtain⟨vs,H2,I2,r2,q2⟩:=z;exact⟨I2.bk,qm (dvs:=[]) (ds:=[]) F hr b .nil zy I2 r2 (by rw[Aw];exact q2)⟩
end
def crO(q:Str)(c:Addr):HO:=.ext fun h=>h.CodeRec (.ref c) q
structure LamAt(T:Addr)(pos:Pos)(q:Str)(H:Hp):Prop where
 tab:H T=some (.tbl #[])∨∃c,H T=some (.tbl #[rawInt pos.line,rawInt pos.col,.ref c])∧H c=some (crO q c)
theorem LamAt.mono{T:Addr}{pos:Pos}{q:Str}{H H':Hp}(h:LamAt T pos q H)(g:Same H H'):LamAt T pos q H':=by
 rcases h.tab with e | ⟨c,e,ec⟩
 ·exact⟨.inl (g _ _ e)⟩
 ·exact⟨.inr ⟨c,g _ _ e,g _ _ ec⟩⟩
def pE(P:Program)(w:World)(K:W.Frag)(mg:Str→Option Value)(base:Heap)(N:List Str)(qual:Str)(sc:Scope)(f:Addr)(cd:Value)(cl:List (Str×Addr))(A:Around)(outer:List Env)(s:Shared)(H:Hp):Cx where
 prog:=P
 w:=w
 K:=K
 mg:=mg
 base:=base
 A:=A.deeper (W.envX qual sc s.heap.objs.size f cd cl)
 N:=N
 s₀:=s
 H₀:=H
 env:=W.envX qual sc s.heap.objs.size f cd cl
 outer:=outer
 stack:=W.envX qual sc s.heap.objs.size f cd cl::outer
 ex:=[]
 calm:=true
 fn:=fun _=>false
 pn:=[]
 xe:=fun _ _=>False
structure LamScope(ps fr:List Str)(sc:Scope):Prop where
 kind:sc.kind=.function
 co:sc.isCoroutine=false
 gen:sc.isGenerator=false
 cell:∀x∈sc.names,x.2≠.cell
 par:∀x∈ps,sc.names.lookup x=some .local
 free:∀x,sc.names.lookup x=some .free→x∈fr
 fre:∀x∈fr,sc.names.lookup x=some .free
 nd:(ps++fr).Nodup
theorem jf{x:Str}:∀{ps:List Str}{us:List Value}{i:Nat}{u:Value},ps.Nodup→ps[i]?=some x→us[i]?=some u→(ps.zip us).reverse.lookup x=some u:=by
 intro ps us i u nd h1 h2;have hm:(x,u)∈(ps.zip us).reverse:=List.mem_reverse.mpr (z7 (i:=i) (by rw[List.getElem?_zip_eq_some];exact⟨h1,h2⟩));have ndz:((ps.zip us).reverse.map (·.1)).Nodup:=by
  rw[List.map_reverse];refine(List.reverse_perm _).nodup_iff.mpr (nd.sublist ?_);exact(by
   clear hm h1 h2
   induction ps generalizing us with
   |nil=>exact List.nil_sublist _
   |cons p ps ih=>
    cases us with
    |nil=>exact List.nil_sublist _
    |cons v us=>exact(ih (Ae.mp nd).2).cons₂ _)
 revert hm ndz;generalize (ps.zip us).reverse=l;intro hm ndz
 induction l with
 |nil=>exact nomatch hm
 |cons q l ih=>
  rw[zH,Ae]at ndz
  rcases zZ.mp hm with e | e
  ·rw[←e,B0,beq_self_eq_true]
  ·have ne:(x==q.1)=false:=by
    refine BC.mpr fun z=>ndz.1 (zF.mpr ⟨(x,u),e,z⟩)
   obtain⟨q1,q2⟩:=q;rw[B0];dsimp only at ne⊢;rw[ne];exact ih e ndz.2
theorem p7{P:Program}{w:World}{K:W.Frag}{mg:Str→Option Value}{B:Heap}{k:Nat}{a c':Addr}{qual:Str}{params:Arguments}{body:Expr}{sc:Scope}{cl:List (Str×Addr)}{pm ctv:Value}{ps fr:List Str}{us:List V}{sp:Sp}(ha:B.get? a=some (W.kla_obj "<lambda>" qual params body sc cl pm c' ctv))(S:LamScope ps fr sc)(hul:us.length=fr.length)(hcl:∀(i:Nat) x v,fr[i]?=some x→us[i]?=some v→∃c u,cl.lookup x=some c∧B.IsCell c (some u)∧RelV v u)(inj:∀x y c,cl.lookup x=some c→cl.lookup y=some c→x=y)(call:∀x c,cl.lookup x=some c→∃v,B.IsCell c v)(rec:∀vs H Q E,sp vs H Q E→H c'=some (crO qual c'))(len:∀vs H Q E,sp vs H Q E→vs.length=ps.length)(hbody:∀(A:Around) (outer:List Env) (s:Shared) (H:Hp) (vs:List V) (Q:VK) (E:XK),Room k (A.deeper (W.envX qual sc s.heap.objs.size a (.ref c') cl))→sp vs H Q E→
   ∃t,PE (pE P w K mg B (ps++fr) qual sc a (.ref c') cl A outer s H) body t∧t (vs.map some++us.map some) H Q):
  FnOk P w K mg B CX0 (k+1) a (W.kla_fn "<lambda>" qual params body sc cl pm (.ref c') ctv) ps sp:=by
 refine⟨len,fun A outer s H args ws vs Q E hr e0 hb r hsp=>?_⟩;have hl:=len _ _ _ _ hsp;have keep:=fun b o e=>(e0.bs b o e).1;have lim:s.heap.NoLimit:=e0.mod.nolimit.keeps keep;obtain⟨crec,_⟩:=(show ObjOk P w H s.heap c' (crO qual c')from e0.hok c' _ (rec _ _ _ _ hsp));have npS:ps.Nodup:=(List.nodup_append.mp S.nd).1;refine W.kla_callFunE hr.depth (keep _ _ ha) rfl S.co S.gen rfl crec (hb _ _ _ _ ?_);refine wpAny_newFunctionEnv S.cell (fun y hy=>S.par y.1 (List.of_mem_zip hy).1) (fun h₁ hns hsb=>⟨lim.fresh _ hsb,?_⟩) S.kind;show codeAny _ _ (.expr body (W.envX qual sc s.heap.objs.size a (.ref c') cl)) _ _;have hk₁:∀b o,s.heap.get? b=some o→h₁.get? b=some o:=fun b o e=>hsb.extBut b o (zX (zN e)) (io _ e);obtain⟨t,ht,hq⟩:=hbody A outer s H vs Q E (hr.deeper _) hsp;have cellK:∀c v,B.IsCell c v→h₁.IsCell c v:=fun c v ⟨o,e,d⟩=>⟨o,hk₁ _ _ (keep _ _ e),d⟩;have I:Inv (pE P w K mg B (ps++fr) qual sc a (.ref c') cl A outer s H) [] (vs.map some++us.map some) H {s with heap:=h₁,toks:=s.toks+(ps.zip ws).length}:=by
  have noA:∀b:Addr,b∉(pE P w K mg B (ps++fr) qual sc a (.ref c') cl A outer s H).ex:=fun b z=>absurd (show b∈([]:List Addr)from z) (by simp);refine⟨⟨e0.mod,S.kind,rfl,rfl,zD _,inj,fun x hx=>?_,(fun x c h _=>Bool.noConfusion h),fun _=>hr.hd,Around.frames_deeper e0.frames,.inr ⟨rfl,rfl⟩,fun b z=>absurd z (noA b),e0.bs,e0.bsz,fun b _ _=>noA b,fun b z=>absurd z (noA b),e0.funs,e0.frf⟩,
   rfl,e0.bare,Un.kept hk₁,⟨_,hns,fun i y v h1 h2 h3=>?_⟩,fun x c e=>?_,e0.hok.fresh (Nat.le_refl _),fun x c e=>?_,fun p hp=>absurd (show p∈([]:List (Addr×Obj))from hp) (by simp),e0.hok.kept hk₁,?_⟩
  ·have hx:sc.names.lookup x=some .cell∨sc.names.lookup x=some .free:=hx
   rcases hx with hx | hx
   ·exact absurd rfl (S.cell _ (Af hx))
   ·obtain⟨i,hi⟩:=A9.mp (S.free x hx);have CI:i<us.length:=by rw[hul];exact(zM.mp hi).1
    obtain⟨c,u,e,_⟩:=hcl i x us[i] hi (by simp[CI]);exact⟨c,e⟩
  ·have h1:(ps++fr)[i]?=some y:=h1;by_cases hi:i<vs.length
   ·rw[List.getElem?_append_left (by rw[←hl];exact hi)]at h1;rw[List.getElem?_append_left (by simpa using hi),List.getElem?_map]at h2;obtain⟨v',hv,e⟩:=AV.mp h2;cases e;obtain⟨u,hu,rv⟩:=r.get hv;exact⟨u,rv,.inl ⟨S.par y (z7 h1),jf npS h1 hu⟩⟩
   ·have hi:vs.length≤i:=by omega
    rw[List.getElem?_append_right (by rw[←hl];exact hi)]at h1;rw[List.getElem?_append_right (by simpa using hi),List.getElem?_map,List.length_map]at h2;obtain⟨v',hv,e⟩:=AV.mp h2;cases e;rw[hl]at hv;obtain⟨c,u,e1,e2,rv⟩:=hcl _ y v h1 hv;exact⟨u,rv,.inr ⟨.inr (S.fre y (z7 h1)),c,e1,cellK _ _ e2⟩⟩
  ·obtain⟨v,z⟩:=call x c e;exact⟨v,cellK _ _ z⟩
  ·obtain⟨v,o,z,_⟩:=call x c e;exact(e0.bs c o z).2
  ·show _=(ps++fr).length;rw[zI,az,az,zI,hl,hul]
 refine W.kla_codeExpr (AU (ht [] _ _ H Q I hq) (fun v s' hs=>?_) fun _ _ z=>False.elim z);obtain⟨v',H',J,rv,q⟩:=hs;exact⟨v',H',J.os,J.bare,J.base,J.hok,rv,q⟩
def foO(ob:Obj)(a:Addr):HO:=.ext fun h=>h.get? a=some ob
theorem wJ{P:Program}{w:World}{H:Hp}{h:Heap}{q:Str}{c:Addr}(r:h.CodeRec (.ref c) q):ObjOk P w H h c (crO q c):=by
 refine⟨r,?_,fun h1 h2 z k=>?_⟩
 ·obtain⟨c2,oc,vs,tq,e,ho,_⟩:=r;cases e;exact⟨oc,ho⟩
 ·obtain⟨c2,oc,vs,tq,e,ho,r⟩:=z;cases e;exact⟨c,oc,vs,tq,rfl,k _ ho,r⟩
theorem rj{P:Program}{w:World}{H:Hp}{h:Heap}{ob:Obj}{a:Addr}(e:h.get? a=some ob):ObjOk P w H h a (foO ob a):=⟨e,⟨ob,e⟩,fun _ _ z k=>k _ z⟩
def tLam(T:Addr)(pos:Pos)(q:Str)(mk:Value→Addr→Value→Obj):TE:=fun σ H Q=>LamAt T pos q H∧∀(a c:Addr)(pm ctv:Value)(H':Hp),Same (ao T H) (ao T H')→H a=none→a≠c→H' T=some (.tbl #[rawInt pos.line,rawInt pos.col,.ref c])→H' c=some (crO q c)→
 H' a=some (foO (mk pm c ctv) a)→Q (.ref a) H'
theorem vT(pos:Pos)(c:Value):codeAmong pos [rawInt pos.line,rawInt pos.col,c]=some c:=codeAmong_snoc [] trivial rfl
section
variable{X:Cx}{params:Arguments}{body:Expr}{sc:Scope}{pos:Pos}{c T:Addr}
theorem p_(hc:X.env.code=.ref c)(C:W.CodeHd X.base c T)(hgP:mainGlobals≠T)(hB:X.base.BuiltinsAt X.mg T)(hf:∀x∈sc.names,x.2=.free→∃c,X.env.cells.lookup x.1=some c)(hdef:defaultsOf params X.env=([],[]):=by rfl):
  PE X (.Lambda params body sc pos) (tLam T pos (X.env.qual++"<lambda>") fun pm c' ctv=>W.kla_obj "<lambda>" (X.env.qual++"<lambda>") params body sc (aI X.env sc.names) pm c' ctv):=by
 intro CA s σ H Q I h;obtain⟨L,q⟩:=h;refine W.kla_eval hdef ?_;have hcl:=Tf hf;have tl:H T≠none:=by
  rcases L.tab with e | ⟨_,e,_⟩ <;> (rw[e];exact fun z=>nomatch z)
 have fresh:∀b,s.heap.objs.size≤b→H b=none:=fun b hb=>I.hok.fresh hb
 rcases L.tab with e | ⟨c',e,ec⟩
 ·have hP:s.heap.get? T=some (W.tabObj #[]):=I.hok T _ e;refine W.kla_makeFunction hcl I.ok.glob (I.mod.glob.keeps I.bk) hc (C.keeps I.bk) hP trivial rfl hgP (hB.keeps I.bk) fun c' ctv h' tk hx hge CI hrec hT=>?_;have hT:h'.get? T=some (W.tabObj #[rawInt pos.line,rawInt pos.col,.ref c']):=hT;have Tlt:T<s.heap.objs.size:=zN hP;have sz:s.heap.objs.size≤h'.objs.size:=Bq (Nat.lt_of_le_of_lt hge CI);have na:H h'.objs.size=none:=fresh _ sz;have nc:H c'=none:=fresh _ hge;have cT:c'≠T:=AH (z6 Tlt hge);have aT:h'.objs.size≠T:=AH (z6 Tlt sz);have ac:h'.objs.size≠c':=AH CI;have kp:∀b o,b≠T→s.heap.get? b=some o→(h'.push (W.kla_obj "<lambda>" (X.env.qual++"<lambda>") params body sc (aI X.env sc.names) ((X.mg "__name__").getD .none) c' ctv)).get? b=some o:=fun b o nb e=>io _ (hx b o nb e);have eT:=io (W.kla_obj "<lambda>" (X.env.qual++"<lambda>") params body sc (aI X.env sc.names) ((X.mg "__name__").getD .none) c' ctv) hT;have ea:(h'.push (W.kla_obj "<lambda>" (X.env.qual++"<lambda>") params body sc (aI X.env sc.names) ((X.mg "__name__").getD .none) c' ctv)).get? h'.objs.size=some (W.kla_obj "<lambda>" (X.env.qual++"<lambda>") params body sc (aI X.env sc.names) ((X.mg "__name__").getD .none) c' ctv):=zY _ rfl;have er:(h'.push (W.kla_obj "<lambda>" (X.env.qual++"<lambda>") params body sc (aI X.env sc.names) ((X.mg "__name__").getD .none) c' ctv)).CodeRec (.ref c') (X.env.qual++"<lambda>"):=by
   obtain⟨c2,oc,vs,tq,e,ho,r⟩:=hrec;exact⟨c2,oc,vs,tq,e,io _ ho,r⟩
  generalize (h'.push (W.kla_obj "<lambda>" (X.env.qual++"<lambda>") params body sc (aI X.env sc.names) ((X.mg "__name__").getD .none) c' ctv))=g at kp eT ea er⊢;generalize hHn:upd (upd (upd H T (.tbl #[rawInt pos.line,rawInt pos.col,.ref c'])) c' (crO (X.env.qual++"<lambda>") c')) h'.objs.size (foO (W.kla_obj "<lambda>" (X.env.qual++"<lambda>") params body sc (aI X.env sc.names) ((X.mg "__name__").getD .none) c' ctv) h'.objs.size)=Hn;have at_a:Hn h'.objs.size=some (foO (W.kla_obj "<lambda>" (X.env.qual++"<lambda>") params body sc (aI X.env sc.names) ((X.mg "__name__").getD .none) c' ctv) h'.objs.size):=by rw[←hHn];exact Z2
  have at_c:Hn c'=some (crO (X.env.qual++"<lambda>") c'):=by rw[←hHn,Za (Ne.symm ac)];exact Z2
  have at_T:Hn T=some (.tbl #[rawInt pos.line,rawInt pos.col,.ref c']):=by rw[←hHn,Za (Ne.symm aT),Za (Ne.symm cT)];exact Z2
  have at_o:∀b,b≠h'.objs.size→b≠c'→b≠T→Hn b=H b:=fun b n1 n2 n3=>by rw[←hHn,Za n1,Za n2,Za n3]
  have at_s:∀b u,H b=some u→b≠T→Hn b=some u:=fun b u e nT=>by rw[at_o b (Zd e na) (Zd e nc) nT];exact e
  have un:Un X.fs [] H Hn s.heap g:=by
   have nT:∀b,H b=none→b≠T:=fun b n z=>by rw[z]at n;exact tl n
   refine⟨fun b o e n _ _=>kp b o (nT b n) e,fun b o e n _ _=>⟨o.slots,kp b o (nT b n) e⟩,fun b o e n _=>?_,fun b o e _=>?_,fun b xs e'=>at_s b _ e' (fun z=>by rw[z,e]at e';cases e'),fun b o xs e'=>at_s b _ e' (fun z=>by rw[z,e]at e';cases e'),fun b ps e'=>?_⟩
   ·have lt:=zN e;rw[at_o b (zX (z6 lt sz)) (zX (z6 lt hge)) (nT b n)];exact n
   ·by_cases z:b=T
    ·subst z;exact⟨_,eT⟩
    ·exact⟨o,kp b o z e⟩
   ·by_cases z:b=T
    ·subst z;rw[e]at e';cases e';exact⟨#[rawInt pos.line,rawInt pos.col,.ref c'],at_T⟩
    ·exact⟨#[],by rw[at_s b _ e' z];simp⟩
  have hok:HOk X.prog X.w Hn g:=fun b u eb=>by
   by_cases h1:b=h'.objs.size
   ·subst h1;rw[at_a]at eb;cases eb;exact rj ea
   by_cases h2:b=c'
   ·subst h2;rw[at_c]at eb;cases eb;exact wJ er
   by_cases h3:b=T
   ·subst h3;rw[at_T]at eb;cases eb;exact eT
   rw[at_o b h1 h2 h3]at eb;refine(I.hok b u eb).stay (fun d v hd qq=>kp d v (fun z=>?_) qq) (fun d qq=>at_s d _ qq (fun z=>by rw[z,e]at qq;cases qq)) fun d xs qq=>at_s d _ qq (fun z=>by rw[z,e]at qq;cases qq)
   rcases hd with y | y
   ·exact h3 (y.symm.trans z)
   ·rw[z,e]at y;cases y
  refine⟨.ref h'.objs.size,Hn,I.un (h':=g) (t':=tk) un hok,rfl,q _ c' _ ctv Hn (fun b u eb=>?_) na ac at_T at_c at_a⟩;obtain⟨b1,b2⟩:=Zf eb;rw[Zg b1];exact at_s b u b2 b1
 ·have hP:s.heap.get? T=some (W.tabObj #[rawInt pos.line,rawInt pos.col,.ref c']):=I.hok T _ e;refine W.kla_makeFunctionHit (cv:=.ref c') hcl I.ok.glob (I.mod.glob.keeps I.bk) hc (C.keeps I.bk) hP trivial (vT pos _) (hB.keeps I.bk) fun ctv h' tk hk hz=>?_;have na:H h'.objs.size=none:=fresh _ hz;have ac:h'.objs.size≠c':=fun z=>by rw[z,ec]at na;cases na
  have aT:h'.objs.size≠T:=fun z=>by rw[z,e]at na;cases na
  refine⟨.ref h'.objs.size,_,I.laid (t':=tk) (a:=h'.objs.size) (o:=foO (W.kla_obj "<lambda>" (X.env.qual++"<lambda>") params body sc (aI X.env sc.names) ((X.mg "__name__").getD .none) c' ctv) h'.objs.size) (fun b u eb=>io _ (hk b u eb)) hz (rj (zY _ rfl)),rfl,?_⟩;refine q _ c' _ ctv _ (fun b u eb=>?_) na ac (by rw[Za (Ne.symm aT)];exact e) (by rw[Za (Ne.symm ac)];exact ec) Z2;obtain⟨b1,b2⟩:=Zf eb;rw[Zg b1,Za (Zd b2 na)];exact b2
end
def uk(base h:Heap)(as:List Addr):Heap:=W.hideAll h ((List.range h.objs.size).filter fun b=>(base.get? b).isNone && !decide (b∈as))
theorem O3{base h:Heap}{as:List Addr}{b:Addr}{o:Obj}(e:h.get? b=some o)(k:(∃u,base.get? b=some u)∨b∈as):(uk base h as).get? b=some o:=W.hideAll_get _ e fun z=>by
 have z2:=(Aj.mp z).2;rw[Ap]at z2
 rcases k with⟨u,k⟩ | k
 ·rw[k]at z2;exact Bool.noConfusion z2.1
 ·rw[zP k]at z2;exact Bool.noConfusion z2.2
theorem l6{base h:Heap}{as:List Addr}{b:Addr}{o:Obj}(e:(uk base h as).get? b=some o):h.get? b=some o∧((∃u,base.get? b=some u)∨b∈as):=by
 have e1:=W.of_hideAll _ e;refine⟨e1,?_⟩;cases k:base.get? b with
 |some u=>exact .inl ⟨u,rfl⟩
 |none=>
  by_cases m:b∈as
  ·exact .inr m
  ·have:(uk base h as).get? b=none:=W.hideAll_none _ (Aj.mpr ⟨List.mem_range.mpr (zN e1),by rw[k,As m];rfl⟩);rw[e]at this;cases this
theorem Ut{base B h:Heap}:∀{l:List Env},h.FunFrames base l→(∀L∈frs l,B.get? L=none)→h.FunFrames B l
 | [],_,_=>trivial
 |env::l,⟨hk,⟨L,o,hf,_,ho,hd⟩,hr⟩,hn=>⟨hk,⟨L,o,hf,hn L (mR (.head _) hf),ho,hd⟩,Ut hr fun L' hL=>hn L' (by
  obtain⟨e,he,q⟩:=Bm.mp hL;exact mR (.tail _ he) q)⟩
theorem Inv.drop{X:Cx}{CA:List (Addr×Obj)}{σ:St}{H:Hp}{s:Shared}{a:Addr}{φ:Heap→Prop}(I:Inv X CA σ H s)(ea:H a=some (.ext φ)):Inv X CA σ (ao a H) s:=by
 have nn:∀b,H b=none→ao a H b=none:=fun b n=>by
  by_cases z:b=a
  ·rw[z];exact Rp
  ·rw[Zg z];exact n
 have ne:∀b u,H b=some u→(∀ψ,u≠.ext ψ)→ao a H b=some u:=fun b u e n=>by
  rw[Zg (fun z=>by rw[z,ea]at e;exact n φ (Aa e).symm)];exact e
 refine⟨I.ok,I.os,I.bare,⟨I.base.keep,I.base.slot,fun b o e n hx=>nn b (I.base.free b o e n hx),I.base.there,fun b xs e=>ne b _ (I.base.tups b xs e) (fun _ z=>nomatch z),fun b o xs e=>ne b _ (I.base.frzs b o xs e) (fun _ z=>nomatch z),fun b ps e=>?_⟩,I.loc,I.cell,nn _ I.free,fun x c e=>nn c (I.freeC x c e),fun p hp=>?_,fun b u e=>?_,I.len⟩
 ·obtain⟨m,z⟩:=I.base.tbls b ps e;exact⟨m,ne b _ z (fun _ z=>nomatch z)⟩
 ·obtain⟨z1,z2,z3⟩:=I.pin p hp;exact⟨z1,nn _ z2,z3⟩
 ·obtain⟨b1,b2⟩:=Zf e;exact(I.hok b u b2).stay (fun _ _ _ q=>q) (fun c q=>ne c _ q (fun _ z=>nomatch z)) fun c xs q=>ne c _ q (fun _ z=>nomatch z)
structure HasB(P:Program)(w:World)(K:W.Frag)(mg:Str→Option Value)(x:Str)(k:Nat)(ps:List Str)(sp:Heap→Sp):Prop where
 ex:∃f fd,(∀base:Heap,K.In base→base.Ns mainGlobals mg→FnOk P w K mg base CX0 k f fd ps (sp base))∧Binds K fd ps []∧W.keepIn K (.ref f)=true∧mg x=some (.ref f)
structure Wid(X:Cx)(σ:St)(a:Addr)(ob:Obj)(B:Heap):Prop where
 kin:X.K.In B
 glb:B.Ns mainGlobals X.mg
 sub:∀b o,X.base.get? b=some o→B.get? b=some o
 fn:B.get? a=some ob
 cell:∀(i:Nat) x v,X.N[i]?=some x→σ[i]?=some (some v)→X.env.scope.names.lookup x=some .cell→∃c u,X.env.cells.lookup x=some c∧B.IsCell c (some u)∧RelV v u
 cells:∀x c,X.env.cells.lookup x=some c→∃v,B.IsCell c v
 inj:∀x y c,X.env.cells.lookup x=some c→X.env.cells.lookup y=some c→x=y
def xp(X:Cx)(sp:Heap→Sp)(t:TA):TE:=fun σ H Q=>t σ H fun vs H1=>∃a ob,H1 a=some (foO ob a)∧∀B,Wid X σ a ob B→sp B vs (ao a H1) Q E0
section
variable{X:Cx}{j k:Nat}{ps:List Str}{sp:Heap→Sp}{x:Str}{p pos:Pos}{e:Expr}{es:List Expr}{t:TA}
theorem jp(h:HasB X.prog X.w X.K X.mg x j ps sp)(hfn:∀x,X.fn x=true)(hst:X.stack=X.env::X.outer)(hfr:X.env.frame=some X.env.locals)(hr:Room k X.A)(ha:PA X (e::es) t)(hg:Gl X x:=by rfl)(hj:j≤k:=by first | decide | omega)(hdb:(x==("__debug__":Str))=false:=by decide)(he:starEach (e::es) X.env=(false,eval e X.env)::starEach es X.env:=by rfl)(hpl:(backTo pos (starEach es X.env)).any (·.1)=false:=by rfl):
  PE X (.Call (.Name x p) (e::es) [] pos) (xp X sp t):=by
 intro CA s σ H Q I q;obtain⟨f,fd,F,b,kp,m⟩:=h.ex;refine B5 (f7 I hg m ?_ hdb);refine W.callWith_K (h₀:=X.base) I.ok.mod.kin kp (thn (ha pos CA s σ H _ I q) fun us s1 z=>?_) he hpl;obtain⟨vs,H1,I1,r,a,ob,ea,q⟩:=z;refine⟨I1.kIn,?_⟩;have I2:Inv X CA σ (ao a H1) s1:=I1.drop ea;have oa:s1.heap.get? a=some ob:=(show ObjOk X.prog X.w H1 s1.heap a (foO ob a)from I1.hok a _ ea).1;generalize hB:uk X.base s1.heap (a::X.env.cells.filterMap fun d=>X.env.cells.lookup d.1)=B;have cin:∀y c,X.env.cells.lookup y=some c→c∈a::X.env.cells.filterMap fun d=>X.env.cells.lookup d.1:=fun y c z=>.tail _ (Bm.mpr ⟨(y,c),Af z,z⟩);have cou:∀b,b∈a::X.env.cells.filterMap (fun d=>X.env.cells.lookup d.1)→b=a∨∃y,X.env.cells.lookup y=some b:=fun b hb=>by
  rcases zZ.mp hb with z | z
  ·exact .inl z
  ·obtain⟨d,_,e⟩:=Bm.mp z;exact .inr ⟨d.1,e⟩
 have sub:∀b o,X.base.get? b=some o→B.get? b=some o:=fun b o z=>hB ▸ O3 (I1.bk b o z) (.inl ⟨o,z⟩);have up:∀b o,B.get? b=some o→s1.heap.get? b=some o∧ao a H1 b=none:=fun b o z=>by
  rw[←hB]at z;obtain⟨z1,z2⟩:=l6 z;refine⟨z1,?_⟩
  rcases z2 with⟨u,z2⟩ | z2
  ·exact(I2.bs b u z2).2
  ·rcases cou b z2 with z3 | ⟨y,z3⟩
   ·rw[z3];exact Rp
   ·exact I2.freeC y b z3
 have clB:∀y c v,X.env.cells.lookup y=some c→s1.heap.IsCell c v→B.IsCell c v:=fun y c v e ⟨o,z,d⟩=>⟨o,hB ▸ O3 z (.inr (cin y c e)),d⟩;have nB:∀L∈frs X.stack,B.get? L=none:=fun L hL=>by
  cases z:B.get? L with
  |none=>rfl
  |some o=>
   exfalso;rw[←hB]at z;obtain⟨z1,z2⟩:=l6 z
   rcases z2 with⟨u,z2⟩ | z2
   ·have:=(I1.stack.mem hL).1;rw[z2]at this;cases this
   ·rcases cou L z2 with z3 | ⟨y,z3⟩
    ·have:=I1.stkFree L hL;rw[z3,ea]at this;cases this
    ·rcases zZ.mp (I1.stkSub L hL)with z4 | z4
     ·exact I1.cne y L z3 z4
     ·obtain⟨_,o',ho',_⟩:=I1.ok.funs.mem z4;exact absurd (z6 (zN ho') (I1.ok.cab y L (hfn y) z3)) (Bd _)
 have md:=I1.ok.mod;have kinB:X.K.In B:=fun b o z=>sub b o (md.kin b o z);have glbB:B.Ns mainGlobals X.mg:=md.glob.keeps sub;have modB:Mod X.K X.mg B:=⟨kinB,glbB,let ⟨mb,h1,h2⟩:=md.blt;⟨mb,h1.keeps sub,h2⟩,md.nolimit.keeps sub⟩;have szB:B.objs.size≤s1.heap.objs.size:=by rw[←hB];exact Nat.le_of_eq (W.hideAll_size _ _)
 have e0:Env0 X.prog X.w X.K X.mg B X.A X.stack s1 (ao a H1):=⟨I2.ok.frames,modB,up,szB,Ut I1.stack nB,I2.stkFree,I2.hok,I2.bare⟩;have wid:Wid X σ a ob B:=by
  refine⟨kinB,glbB,sub,hB ▸ O3 oa (.inr (.head _)),fun i y v h1 h2 h3=>?_,fun y c z=>?_,I1.ok.inj⟩
  ·obtain⟨mm,_,hl⟩:=I1.loc;obtain⟨u,rv,lk⟩:=hl i y v h1 h2 (.inr (.inl h3))
   rcases lk with⟨h4,_⟩|⟨_,c,h5,h6⟩
   ·have h4:X.env.scope.names.lookup y=some .local:=h4;rw[h3]at h4;cases h4
   ·exact⟨c,u,h5,clB y c _ h5 h6,rv⟩
  ·obtain⟨v,h6⟩:=I1.cell y c z;exact⟨v,clB y c v z h6⟩
 have hsp:=q B wid;have FB:=(F B kinB glbB).mono hj;have hl:us.length=ps.length:=by rw[←r.length];exact FB.len _ _ _ _ hsp
 have hbi:=b s1 us I1.kIn (by rw[Aw];exact hl);rw[Aw]at hbi;refine wpAny_call (Cr (FB.run X.A X.stack s1 (ao a H1) ⟨us,[]⟩ us vs Q E0 hr e0 hbi r hsp) fun r s' hq=>?_);cases r with
 |error e=>exact False.elim hq
 |ok fl=>
  cases fl with
  |ret u=>exact I2.after hq
  |next=>exact False.elim hq
  |brk=>exact False.elim hq
  |cont=>exact False.elim hq
end
def entH(Ts:List Addr)(s:Hp):Hp:=fun b=>if b∈Ts then some (.tbl #[])else s b
theorem nF{P:Program}{w:World}{K:W.Frag}{mg mb:Str→Option Value}{k:Nat}{fa a:Addr}{fd:FuncData}{x:Str}{sp:Sp}{s₁:Shared}{vs:List Value}{ns:List Int}{tabs:List (Addr×Addr)}(KX:K.In s₁.heap)(hns:s₁.heap.Ns mainGlobals mg)(hb:s₁.heap.Ns builtinsNs mb)(hbb:∀x:Str,x≠"__name__"→mb x=bootBuiltins x)(hlim:s₁.heap.NoLimit)(hg:s₁.gens=#[])(hbm:∃bm ob,mg "__builtins__"=some (.ref bm)∧bm≠builtinsNs∧s₁.heap.get? bm=some ob∧ob.cls=.type "module"∧ob.dict=some builtinsNs∧ob.data=.plain)(hT:W.TabsAt tabs s₁.heap)(hKT:∀T∈tabs.map (·.2),K.lookup T=none)(ha:s₁.heap.get? a=some {cls:=.type "list",data:=.seq vs.toArray})(hi:IntsAre vs ns)(hl:ns.length≤sizeLine)(hr:Room k callerA)(F:∀base:Heap,K.In base→base.Ns mainGlobals mg→(∀T∈tabs.map (·.2),base.BuiltinsAt mg T)→FnOk P w K mg base CX0 k fa fd [x] sp)(hbind:∀(s:Shared) (u:Value),BindsTo s fd ⟨[u],[]⟩ [(x,u)])(hsp:∀H:Hp,SqL K H a (ns.map V.int)→(∀T∈tabs.map (·.2),H T=some (.tbl #[]))→sp [.ref a] H (fun v _=>v=.bl true) fun _ _ _=>False):
  codeAny (model P w) callerA (.call (.ref fa) ⟨[.ref a],[]⟩) (fun r s'=>r=.ok (.ret (.bool true))∧OldK s₁.heap s'.heap∧s'.os=s₁.os∧AllBare s'.gens) s₁:=by
 have rv:=R5 hi;have lenV:=hi.length;have tabO:∀T∈tabs.map (·.2),s₁.heap.get? T=some (W.tabObj #[]):=fun T h=>by
  obtain⟨q,hq,rfl⟩:=zF.mp h;exact(hT q hq).2
 have aT:a∉tabs.map (·.2):=fun z=>by
  have:=tabO a z;rw[ha]at this;cases this
 have core:∀S:Hp,SqL K S a (ns.map V.int)→HOk P w S s₁.heap→(∀b,S b≠none→b=a)→(S a≠none→K.lookup a=none)→(∀b u,S b=some u→∃o xs,u=.frz o (.lst xs))→
   codeAny (model P w) callerA (.call (.ref fa) ⟨[.ref a],[]⟩) (fun r s'=>r=.ok (.ret (.bool true))∧OldK s₁.heap s'.heap∧s'.os=s₁.os∧AllBare s'.gens) s₁:=by
  intro S hS hokS hA hK hfrz;generalize hHd:entH (tabs.map (·.2)) S=H;have HT:∀b,b∈tabs.map (·.2)→H b=some (.tbl #[]):=fun b h=>by rw[←hHd];exact zE h
  have HS:∀b,b∉tabs.map (·.2)→H b=S b:=fun b h=>by rw[←hHd];exact pi h
  have hok:HOk P w H s₁.heap:=fun b u e=>by
   by_cases m:b∈tabs.map (·.2)
   ·rw[HT b m]at e;cases e;exact tabO b m
   ·rw[HS b m]at e;obtain⟨o,xs,rfl⟩:=hfrz b u e;exact hokS b _ e
  have noN:∀{b:Addr}{o:Obj},s₁.heap.get? b=some o→(∀ps,o≠W.tabObj ps)→(∀xs n,o.data≠.seq xs n)→H b=none:=fun{b o} e n1 n2=>by
   by_cases m:b∈tabs.map (·.2)
   ·exact absurd (Aa (e.symm.trans (tabO b m))) (n1 #[])
   ·rw[HS b m];cases q:S b with
    |none=>rfl
    |some u=>
     have e':b=a:=hA b (by rw[q];exact fun z=>nomatch z);subst e';rw[ha]at e;cases e;exact absurd rfl (n2 _ _)
  have base_of:∀{b:Addr}{o:Obj},s₁.heap.get? b=some o→H b=none→(e8 s₁.heap H).get? b=some o:=fun e n=>pS e n;have nsK:∀{b:Addr}{m:Str→Option Value},s₁.heap.Ns b m→(e8 s₁.heap H).Ns b m:=fun{b m} ⟨o,es,ep,e,d,r⟩=>⟨o,es,ep,base_of e (noN e (fun ps z=>by rw[z]at d;cases d) fun xs n z=>by rw[z]at d;cases d),d,r⟩;have hKb:K.In (e8 s₁.heap H):=fun b o e=>base_of (KX b o e) (by
   by_cases m:b∈tabs.map (·.2)
   ·rw[hKT b m]at e;cases e
   ·rw[HS b m];cases q:S b with
    |none=>rfl
    |some u=>
     have e':b=a:=hA b (by rw[q];exact fun z=>nomatch z);subst e';rw[hK (by rw[q];exact fun z=>nomatch z)]at e;cases e)
  have hM:Mod K mg (e8 s₁.heap H):=⟨hKb,nsK hns,⟨mb,nsK hb,hbb⟩,let ⟨mc,h1,h2⟩:=hlim;⟨mc,nsK h1,h2⟩⟩;have hBt:∀T∈tabs.map (·.2),(e8 s₁.heap H).BuiltinsAt mg T:=fun T m=>by
   obtain⟨bm,ob,b1,b2,b3,b4,b5,b6⟩:=hbm;refine⟨bm,ob,b1,b2,fun z=>?_,fun z=>?_,base_of b3 (noN b3 (fun ps z=>by rw[z]at b6;cases b6) fun xs n z=>by rw[z]at b6;cases b6),b4,b5,b6⟩
   ·obtain⟨o,es,ep,e,d,_⟩:=hns;rw[z,e]at b3;cases b3;rw[b6]at d;cases d
   ·rw[z,tabO T m]at b3;cases b3;cases b6
  have e0:Env0 P w K mg (e8 s₁.heap H) callerA [] s₁ H:=⟨rfl,hM,fun b o e=>uJ e,Nat.le_of_eq (n5 _ _),trivial,fun b hb=>absurd (show b∈([]:List Addr)from hb) (by simp),hok,.of_eq hg⟩;have hS':SqL K H a (ns.map V.int):=by
   rcases hS with(h | ⟨o,h⟩) | h
   ·exact .inl (.inl (by rw[HS a aT];exact h))
   ·exact .inl (.inr ⟨o,by rw[HS a aT];exact h⟩)
   ·exact .inr h
  refine Cr ((F _ hKb (nsK hns) hBt).run callerA [] s₁ H ⟨[.ref a],[]⟩ [.ref a] [.ref a] _ _ hr e0 (hbind s₁ (.ref a)) (.cons rfl .nil) (hsp H hS' HT)) fun r s' h=>?_;cases r with
  |error e=>exact False.elim h
  |ok fl=>
   cases fl with
   |next=>exact False.elim h
   |brk=>exact False.elim h
   |cont=>exact False.elim h
   |ret u=>
    obtain⟨v,H',os,bare,un,hok',r',q⟩:=h;have q':v=.bl true:=q;subst q';obtain rfl:u=Value.bool true:=r';have oth:∀b o,s₁.heap.get? b=some o→b∉tabs.map (·.2)→s'.heap.get? b=some o:=fun b o e m=>by
     cases q:H b with
     |none=>exact un.keep b o e q (by intro z;exact absurd (show b∈([]:List Addr)from z) (by simp)) (by simp)
     |some u=>
      obtain⟨ob,xs,rfl⟩:=hfrz b u (by rw[←HS b m];exact q);have z2:=un.frzs b ob _ q;obtain⟨e1,_⟩:=hok b _ q;obtain⟨e2,_⟩:=hok' b _ z2;rw[e]at e1;cases e1;exact e2
    have tab:∀b,b∈tabs.map (·.2)→∃more,s'.heap.get? b=some (W.tabObj more):=fun b m=>by
     obtain⟨more,z⟩:=un.tbls b #[] (HT b m);exact⟨_,hok' b _ z⟩
    refine⟨rfl,⟨fun b o e=>?_,fun b o e=>?_⟩,os,bare⟩
    ·by_cases m:b∈tabs.map (·.2)
     ·obtain⟨more,z⟩:=tab b m;obtain⟨t,ht,rfl⟩:=zF.mp m;rw[tabO _ m]at e;cases e;refine .inr (.inl ⟨((hT t ht).1.tab (hT t ht).2).isCodeTable,rfl,#[],more,rfl,?_⟩);rw[z];simp
     ·exact .inl (oth b o e m)
    ·by_cases m:b∈tabs.map (·.2)
     ·obtain⟨more,z⟩:=tab b m;exact⟨_,z⟩
     ·exact⟨o,oth b o e m⟩
 cases hk:K.lookup a with
 |some o=>
  have e:=KX a o hk;rw[ha]at e;cases e;refine core (fun _=>none) (.inr ⟨_,vs.toArray,_,hk,rfl,rfl,rfl,by rw[List.size_toArray,lenV];exact hl,by simpa using rv⟩) (fun b u z=>by have z':(none:Option HO)=some u:=z;cases z') (fun b z=>absurd rfl z) (fun z=>absurd rfl z) (fun b u z=>by have z':(none:Option HO)=some u:=z;cases z')
 |none=>
  refine core (fun b=>if b=a then some (.frz {cls:=.type "list",data:=.seq vs.toArray} (.lst (ns.map V.int)))else none) (.inl (.inr ⟨{cls:=.type "list",data:=.seq vs.toArray},zE rfl⟩)) (fun b u z=>?_) (fun b z=>?_) (fun _=>hk) fun b u z=>?_
  ·by_cases hb:b=a
   ·have z':=(zE hb).symm.trans z;cases z';subst hb;exact⟨ha,by rw[az];exact hl,vs,_,rv,ha⟩
   ·have z':=(pi hb).symm.trans z;cases z'
  ·by_cases hb:b=a
   ·exact hb
   ·exact absurd (pi hb) z
  ·by_cases hb:b=a
   ·have z':=(zE hb).symm.trans z;cases z';exact⟨_,_,rfl⟩
   ·have z':=(pi hb).symm.trans z;cases z'
theorem walk_T{l:W.OpenLaw}{n k:Nat}{q:Program}{loose:List Str}{XP:(Str→Option Value)→Heap→Prop}{YP:World→Heap→Prop}{d:DefRec}{K:Params→W.Frag}{sp:World→Sp}{x:Str}{tabs:List (Addr×Addr)}(hn:l.most=some n)(hn2:n≤sizeLine)(hdf:d.params.defaults=[])(hr:Room k callerA)(hY:∀(w:World) (h:Heap),YP w h→(K w.params).In h)(hT:∀(w:World) (mg mb:Str→Option Value) (loose':List Str) (mean:ExcName→Option Value) (h:Heap),Top q loose' mean mg mb h→(K w.params).In h→W.TabsAt tabs h)(hKT:∀(w:World),∀T∈tabs.map (·.2),(K w.params).lookup T=none)(F:∀(w:World) (mg:Str→Option Value) (fa:Addr) (h:Heap),(K w.params).In h→h.Ns mainGlobals mg→mg d.name=some (.ref fa)→
   ∃fd:FuncData,(∀(s:Shared) (u:Value),BindsTo s fd ⟨[u],[]⟩ [(x,u)])∧
    ∀base:Heap,(K w.params).In base→base.Ns mainGlobals mg→(∀T∈tabs.map (·.2),base.BuiltinsAt mg T)→FnOk l.prog w (K w.params) mg base CX0 k fa fd [x] (sp w))(hsp:∀(w:World) (H:Hp) (a:Addr) (ns:List Int),ns.length≤n→SqL (K w.params) H a (ns.map V.int)→(∀T∈tabs.map (·.2),H T=some (.tbl #[]))→sp w [.ref a] H (fun v _=>v=.bl true) fun _ _ _=>False):
  W.WalkO q loose XP YP l.row.toRowW d [] (fun f vs=>PySem.call f vs):=by
 refine Att.attach_call hn hdf fun w s₀ s₁ mg mb fa o pm cd doc a vs ns G Y ho hd hcd hmg hobj hints CS hg=>?_;have KX:=hY w _ Y;obtain⟨fd,hb,hF⟩:=F w mg fa _ KX G.T.g hmg;exact nF KX G.T.g G.T.b G.T.builtins G.T.nolimit hg G.T.bmain (hT w mg mb _ _ _ G.T KX) (hKT w) hobj hints (At CS hn2) hr hF hb (fun H hS hTT=>hsp w H a ns CS hS hTT)
def wG(K:W.Frag):List V→Hp→VK→Prop:=fun xs H Q=>∃p ys,xs=[.ref p]∧(SqL K H p ys∨SqT K H p ys)∧∀l,H l=none→Q (.ref l) (upd H l (.lst ys))
theorem Oa{X:Cx}(K:W.Frag)(hK:X.K=K):bN X (.type "list") (wG K):=by subst hK;exact Ud
section
variable{X:Cx}{CA:List (Addr×Obj)}{σ:St}{H:Hp}{s:Shared}{h':Heap}
theorem Inv.zipped{t':Nat}{ch:List Addr}{T:Addr}{o:HO}(I:Inv X CA σ H s)(k:∀b o,b∉ch→s.heap.get? b=some o→h'.get? b=some o)(hc:∀b∈ch,dh X CA H b)(hT:s.heap.objs.size≤T)(new:ObjOk X.prog X.w (upd H T o) h' T o):Inv X CA σ (upd H T o) {s with heap:=h',toks:=t'}:=by
 have hn:=I.hok.fresh hT;have nit:∀b u,H b=some u→b∉ch:=fun b u e z=>by rw[(hc b z).1]at e;cases e
 have up:∀{b:Addr}{u:HO},H b=some u→upd H T o b=some u:=fun{b u} e=>by rw[Za (Zd e hn)];exact e
 refine I.step (g':=s.gens) (d':=s.drawn) (ch:=ch) (fun b hb=>?_) (fun b o _ _ hc e _=>k b o hc e) (fun b o _ _ hc e _=>⟨o.slots,k b o hc e⟩) (fun b o' _ e n=>?_) (fun b o hc e=>⟨o,k b o hc e⟩) (fun _ _ e=>up e) (fun _ _ _ e=>up e) (fun b ps e=>⟨#[],by rw[up e];simp⟩) (fun m hm=>?_) (fun b u e=>?_) I.bare
 ·obtain⟨f0,f1,f2,f3,f4,f5⟩:=hc b hb;exact⟨f3,f1,f4,f5⟩
 ·rw[Za (zX (z6 (zN e) hT))];exact n
 ·obtain⟨o,es,ep,ho,r⟩:=hm;exact⟨o,es,ep,k _ o (fun z=>(hc _ z).2.1 rfl) ho,r⟩
 ·by_cases hb:b=T
  ·subst hb;rw[Z2]at e;cases e;exact new
  ·rw[Za hb]at e;refine(I.hok b u e).stay (fun c v hc q=>k c v ?_ q) (fun _ q=>up q) fun _ _ q=>up q
   rcases hc with z | z
   ·rw[z];exact nit b u e
   ·exact nit c _ z
end
theorem sA{X:Cx}:OpR X (compareOp .IsNot) (fun x y H Q=>∃k:Bool,x=.bl k∧y=.bl true∧Q (.bl (!k)) H):=by
 intro CA s σ H x y v u Q I rx ry h;obtain⟨k,rfl,rfl,q⟩:=h;cases rx;cases ry;exact wpAny_isNot_plain (by cases k <;> rfl) (Zz I q (by cases k <;> rfl))
end L2
namespace L2
open PySem PySem.Spec PyProof.Rows
section
variable{X:Cx}
end
section
variable{K:W.Frag}{S:Addr}{ns:List Int}{H H':Hp}{a p:Addr}
end
end L2
namespace L2
open PySem PySem.Spec PyProof.Rows
section
variable{prog:Program}{w:World}{A:Around}{E:Value→Shared→Prop}{s:Shared}{a:Addr}{ks:List Key}
end
variable{prog:Program}{w:World}{A:Around}{E:Value→Shared→Prop}{s:Shared}
section
variable{prog:Program}{w:World}{A:Around}{R:Result→Shared→Prop}{I:Addr}{fp wr:List Addr}{n:Nat}{P:Nat→Value→Prop}{St:Nat→Heap→Prop}
end
section
variable{X:Cx}
end
theorem jQ:firstArgMember (.type "StopIteration") []=pure .none:=by kernel_rfl
theorem qz:ownMembersOf (.type "StopIteration") []=#[]:=by kernel_rfl
section
theorem To{α:Type}{Q:α→Shared→Prop}(hh:A.handled=none)(k:∀h' e,(∀b o,s.heap.get? b=some o→h'.get? b=some o)→Shared.TypeIs {s with heap:=h'} (.ref e) "StopIteration"→E (.ref e) {s with heap:=h'}):
  wpAny (model prog w) A (do
   let x ←newExc (.type "StopIteration") []
   raiseNew x:Sem α) Q E s:=by
 refine ae ?_;unfold newExc;refine ae (wpAny_newTuple ?_ (BI _));rw[jQ,qz];refine ae (zC (AZ (wpAny_raiseNew_none hh (k _ _ (fun b o e=>io _ (io _ e)) ⟨_,zY _ rfl,rfl⟩))))
variable{a:Addr}{o:Obj}{es:Array (Int×Value)}{ep:Nat}{t:SetTable}
end
section
variable{prog:Program}{w:World}{A:Around}{a it:Addr}{o:Obj}{es:Array (Int×Value)}{ep:Nat}{t:SetTable}
end
section
variable{prog:Program}{w:World}{A:Around}{E:Value→Shared→Prop}{s:Shared}{a:Addr}{ks:List Key}
theorem j4{α:Type}{M:Model}{c:Bool}{X Y:Sem α}{Q:α→Shared→Prop}(h:c=true)(q:wpAny M A X Q E s):wpAny M A (if c=true then X else Y) Q E s:=by
 rw[zE h];exact q
end
section
variable{X:Cx}
end
section
variable{X:Cx}
end
section
variable{X:Cx}
theorem vH:OpR X (compareOp .Is) (fun x y H Q=>∃k:Bool,x=.bl k∧y=.bl true∧Q (.bl k) H):=by
 intro CA s σ H x y v u Q I rx ry h;obtain⟨k,rfl,rfl,q⟩:=h;cases rx;cases ry;exact wpAny_is_plain (by cases k <;> rfl) (Zz I q (by cases k <;> rfl))
end
section
variable{X:Cx}{CA:List (Addr×Obj)}{σ:St}{H:Hp}{s:Shared}
end
end L2
namespace L2
open PySem PySem.Spec PyProof.Rows
section
variable{α:Type}{K:W.Frag}{a:Addr}{xs:List V}{ks:List α}{k:Nat}{g:TG}{tt:TT}{te:TE}{σ:St}{H:Hp}{Q:VK}
end
end L2
namespace L2
open PySem PySem.Spec PyProof.Rows PySem.Builtin PySem.Builtin.Str
theorem PenAt.put{H:Hp}{a l:Addr}{o:HO}(h:PenAt H a)(n:l≠a):PenAt (upd H l o) a:=by
 obtain⟨p,q,r,e⟩:=h;exact⟨p,q,r,by rw[Za (Ne.symm n)];exact e⟩
theorem tW{H H':Hp}{a l:Addr}{o:HO}(g:Grw a H H')(n:ao a H l=none):Grw a H (upd H' l o):=fun b u e=>by
 have hb:b≠l:=fun q=>by rw[q,n]at e;cases e
 have e2:=g b u e;obtain⟨h1,h2⟩:=Zf e2;rw[Zg h1,Za hb];exact h2
end L2
namespace HT
open PySem PySem.Spec PyProof.Rows
section
variable{prog:Program}{w:World}{A:Around}{E:Value→Shared→Prop}{s:Shared}
theorem getItem_tuple_whole{t sl:Addr}{items:Array Value}{vl vu:Value}{lo hi:Option Int}{Q:Value→Shared→Prop}(ht:IsTup s.heap t items)(hs:s.heap.IsSliceOf sl vl vu .none)(pl:IsPart vl lo)(pu:IsPart vu hi)(hw:sIx items.size 0 lo=0∧sIx items.size items.size hi=items.size)(h:Q (.ref t) s):wpAny (model prog w) A (getItem (.ref t) (.ref sl)) Q E s:=by
 obtain⟨os,hos,hcs,hds⟩:=id hs;have hTs:s.TypeIs (.ref sl) "slice":=⟨os,hos,hcs⟩;have ty:=ht.typeIs;unfold getItem
 try with_reducible refine Ax ?_
 first | refine ae (zC ?_) | skip
 refine ae (wpAny_sequenceKey ht.typeIs (by decide) ?_);refine ae (wpAny_callSpecial?_slot (name:=Str.ofString "__getitem__") ht.typeIs Bk
  (A4 Bk ht.typeIs entry_tuple_getitem ?_ (args_tuple_getitem _ _)))
 show wpAny _ _ (Builtin.Tuple.tupleItemsOf (.ref t) >>= _) _ _ s;refine ae (tupleItemsOf_ ht ?_);refine ae (Br hTs ?_);rw[zE (by decide)];refine ae (Vo hs pl pu ?_);have hyes:(((sIx items.size 0 lo:Nat):Int)==0 && (1:Int)==1 && (sIx items.size items.size hi-sIx items.size 0 lo)==items.size)=true:=by
  rw[hw.1,hw.2];simp
 show wpAny _ _ (if (((sIx items.size 0 lo:Nat):Int)==0 && (1:Int)==1 && (sIx items.size items.size hi-sIx items.size 0 lo)==items.size)=true then _ else _) _ _ s;rw[zE hyes];refine ae (m:=Builtin.Tuple.tupleIsExact (.ref t)) ?_;refine ae (Br ty (zC ?_));rw[zE (by decide)];refine ae (m:=rule _) (Bo ?_);exact zC ⟨_,rfl,zC h⟩
end
end HT
namespace L2
open PySem PySem.Spec PyProof.Rows
section
variable{X:Cx}
def rSlG:V→Option Int→Option Int→Hp→VK→Prop:=fun x lo hi H Q=>∃a xs,x=.ref a∧H a=some (.tup xs)∧∀(c:Addr)(H':Hp),Same H H'→H' c=some (.tup (oB xs lo hi))→Q (.ref c) H'
theorem lR:SlR X rSlG:=by
 intro CA s σ H x v vl vu lo hi sl Q I rx hs pl pu h;obtain⟨a,xs,rfl,hx,q⟩:=h;by_cases hw:HT.sIx xs.length 0 lo=0∧HT.sIx xs.length xs.length hi=xs.length
 ·cases rx;obtain⟨its,r,ht,hz⟩:=I.tuple (SqT.of hx);have CS:its.toArray.size=xs.length:=by rw[z8];exact r.length.symm
  refine⟨"tuple",_,PyProof.Rows.slot_tuple_getitem.lookup,ht.typeIs,?_⟩;refine HT.getItem_tuple_whole ht hs pl pu (by rw[CS];exact hw) ⟨.ref a,H,I,rfl,q a H (Same.refl _) ?_⟩;unfold oB;rw[hw.1,hw.2,List.drop_zero,Nat.sub_zero,Ab];exact hx
 ·exact vV CA s σ H _ v vl vu lo hi sl Q I rx hs pl pu ⟨a,xs,rfl,SqT.of hx,hw,fun p np=>q p _ (Z6 np _) Z2⟩
end
section
variable{X:Cx}
end
section
variable{a l d:Addr}{fz:HO}{Hf H' H'':Hp}{xs:List V}{ts:List Th}
end
end L2
namespace HT
open PySem PySem.Spec PyProof.Rows
section
variable{prog:Program}{w:World}{A:Around}{E:Value→Shared→Prop}{s:Shared}
end
end HT
namespace L2
open PySem PySem.Spec PyProof.Rows
section
variable{X:Cx}
end
def aX(prog:Program)(w:World)(A:Around)(s:Shared)(κ:KeyKind)(kd:SortKind):Prop:=
 ∀(E:Value→Shared→Prop)(x y:Value)(a b:κ.α)(Q:Bool→Shared→Prop),κ.keyOf x=some a→κ.keyOf y=some b→Q (κ.blt a b) s→wpAny (model prog w) A (keyLt' kd x y) Q E s
structure Sst(kd:SortKind)(xs0:Array Keyed)(st:SortSt):Prop where
 pm:(arrOf st).Perm xs0
 kn:kindOf st=kd
 pd:pendingOf st=#[]
 fl:failedOf st=none
def Rz(κ:KeyKind)(xs:Array Keyed)(n:Nat):Prop:=∀i j,i≤j→j<n→κ.blt (KK κ xs j) (KK κ xs i)=false
section
variable{prog:Program}{w:World}{A:Around}{E:Value→Shared→Prop}{s:Shared}{κ:KeyKind}{kd:SortKind}{xs0:Array Keyed}{st:SortSt}
theorem Sst.sz(b:Sst kd xs0 st):(arrOf st).size=xs0.size:=b.pm.size_eq
theorem ltF{a b c:κ.α}(h:κ.blt b a=false)(g:κ.blt c b=false):κ.blt c a=false:=by
 rcases e:κ.blt c a with _ | _
 ·rfl
 ·rcases κ.negTrans c b a e with q | q
  ·rw[g]at q;exact q.symm
  ·rw[h]at q;exact q.symm
theorem ltA{a b:κ.α}(h:κ.blt a b=true):κ.blt b a=false:=by
 rcases e:κ.blt b a with _ | _
 ·rfl
 ·have q:=κ.trans a b a h e;rw[κ.irrefl]at q;exact q.symm
theorem Q5{i j:Nat}{Q:Unit→SortSt→Prop}(q:Q () (setArr st (mirror (arrOf st) i j ((j-i) / 2)))):wpS (model prog w) A E s (reverseSlice' i j) Q st:=by
 rw[reverseSlice'_eq];exact B8 q
end
def aL:KeyOrd where
 α:=Int
 blt a b:=decide (a<b)
 irrefl a:=As (Int.lt_irrefl a)
 trans a b c h g:=zP (Int.lt_trans (zO h) (zO g))
 negTrans a b c h:=by
  have h:=zO h
  rcases Int.lt_or_le a b with q | q
  ·exact .inl (zP q)
  ·exact .inr (zP (by omega))
 total a b h g:=by
  have h:=AJ h;have g:=AJ g;omega
def cW(O U:KeyOrd)(a b:O.α×U.α):Bool:=O.blt a.1 b.1 || (!O.blt b.1 a.1 && U.blt a.2 b.2)
theorem Yq{O U:KeyOrd}{a b:O.α×U.α}:cW O U a b=true↔O.blt a.1 b.1=true∨(a.1=b.1∧U.blt a.2 b.2=true):=by
 unfold cW;constructor
 ·intro h
  rcases e:O.blt a.1 b.1 with _ | _
  ·rw[e,Bool.false_or,Ap,BU]at h;exact .inr ⟨O.total _ _ e h.1,h.2⟩
  ·exact .inl rfl
 ·rintro(h | ⟨e,h⟩)
  ·rw[h,Bool.true_or]
  ·rw[e,O.irrefl,Bool.false_or,h];rfl
def cx(O U:KeyOrd):KeyOrd where
 α:=O.α×U.α
 blt:=cW O U
 irrefl a:=by
  rcases e:cW O U a a with _ | _
  ·rfl
  ·rcases Yq.mp e with h | ⟨_,h⟩
   ·rw[O.irrefl]at h;exact h.symm
   ·rw[U.irrefl]at h;exact h.symm
 trans a b c h g:=by
  rw[Yq]at *
  rcases h with h | ⟨e,h⟩
  ·rcases g with g | ⟨e',g⟩
   ·exact .inl (O.trans _ _ _ h g)
   ·exact .inl (e' ▸ h)
  ·rcases g with g | ⟨e',g⟩
   ·exact .inl (e ▸ g)
   ·exact .inr ⟨e.trans e',U.trans _ _ _ h g⟩
 negTrans a b c h:=by
  rw[Yq]at *;rw[Yq]
  rcases h with h | ⟨e,h⟩
  ·rcases O.negTrans _ b.1 _ h with q | q
   ·exact .inl (.inl q)
   ·exact .inr (.inl q)
  ·rcases e1:O.blt a.1 b.1 with _ | _
   ·rcases e2:O.blt b.1 a.1 with _ | _
    ·have ab:=O.total _ _ e1 e2
     rcases U.negTrans _ b.2 _ h with q | q
     ·exact .inl (.inr ⟨ab,q⟩)
     ·exact .inr (.inr ⟨ab.symm.trans e,q⟩)
    ·exact .inr (.inl (e ▸ e2))
   ·exact .inl (.inl rfl)
 total a b h g:=by
  have n1:∀{a b:O.α×U.α},cW O U a b=false→O.blt a.1 b.1=false:=fun{a b} h=>by
   rcases e:O.blt a.1 b.1 with _ | _
   ·rfl
   ·rw[Yq.mpr (.inl e)]at h;exact h
  have e:=O.total _ _ (n1 h) (n1 g);have n2:∀{a b:O.α×U.α},a.1=b.1→cW O U a b=false→U.blt a.2 b.2=false:=fun{a b} e h=>by
   rcases q:U.blt a.2 b.2 with _ | _
   ·rfl
   ·rw[Yq.mpr (.inr ⟨e,q⟩)]at h;exact h
  exact AT e (U.total _ _ (n2 e h) (n2 e.symm g))
def fc(O:KeyOrd)(R:Value→O.α→Prop)(d:O.α):KeyKind:={O with keyOf:=fun v=>open Classical in if h:∃a,R v a then some h.choose else none,dflt:=d}
theorem gP{O:KeyOrd}{R:Value→O.α→Prop}{d:O.α}{v:Value}{a:O.α}(h:(fc O R d).keyOf v=some a):R v a:=by
 unfold fc at h;simp only at h
 split at h
 ·rename_i q;cases h;exact q.choose_spec
 ·cases h
theorem my{O:KeyOrd}{R:Value→O.α→Prop}{d:O.α}{v:Value}{a:O.α}(h:R v a):∃b,(fc O R d).keyOf v=some b:=by
 refine⟨(⟨a,h⟩:∃a,R v a).choose,?_⟩;unfold fc;simp only;rw[dif_pos ⟨a,h⟩]
def eqO(O:KeyOrd)(a b:O.α):Bool:=!O.blt a b && !O.blt b a
theorem Sy{O:KeyOrd}{a b:O.α}:eqO O a b=true↔a=b:=by
 unfold eqO;constructor
 ·intro h;rw[Ap,BU,BU]at h;exact O.total _ _ h.1 h.2
 ·rintro rfl;rw[O.irrefl];rfl
def dq(h h':Heap):Prop:=∀b o,h.get? b=some o→o.cls=.type "tuple"→h'.get? b=some o
structure El(prog:Program)(w:World)(O:KeyOrd)(R:Heap→Value→O.α→Prop)(T:String):Prop where
 mono:∀{h h':Heap}{v:Value}{a:O.α},dq h h'→R h v a→R h' v a
 fn:∀{h:Heap}{v:Value}{a b:O.α},R h v a→R h v b→a=b
 ty:∀{s:Shared}{v:Value}{a:O.α},R s.heap v a→s.TypeIs v T
 eq:∀{A:Around}{E:Value→Shared→Prop}{s:Shared}{u v:Value}{a b:O.α}{Q:Bool→Shared→Prop},A.units+8<cLine→R s.heap u a→R s.heap v b→Q (eqO O a b) s→wpAny (model prog w) A (eqBool u v) Q E s
 lt:∀{A:Around}{E:Value→Shared→Prop}{s:Shared}{u v:Value}{a b:O.α}{Q:Bool→Shared→Prop}(f:Bool),(f=true→T≠"tuple")→A.units+8<cLine→R s.heap u a→R s.heap v b→Q (O.blt a b) s→wpAny (model prog w) A (oneLt' f u v) Q E s
theorem eqI(a b:Int):(a==b)=eqO aL a b:=by
 rw[AN,Ad];exact(Sy (O:=aL)).symm
def xh(_:Heap)(v:Value)(a:aL.α):Prop:=∃t,v=.int a t
theorem S1{prog:Program}{w:World}:El prog w aL xh "int" where
 mono _ h:=h
 fn h g:=by
  obtain⟨t,rfl⟩:=h;obtain⟨u,e⟩:=g;cases e;rfl
 ty h:=by
  obtain⟨t,rfl⟩:=h;exact typeIs_int _ _ _
 eq {A E s u v a b Q} _ h g q:=by
  obtain⟨t,rfl⟩:=h;obtain⟨u,rfl⟩:=g;refine wpAny_eqBool_int ?_;exact(eqI a b) ▸ q
 lt {A E s u v a b Q} f _ _ h g q:=by
  obtain⟨t,rfl⟩:=h;obtain⟨u,rfl⟩:=g;cases f with
  |true=>exact oneLt_int q
  |false=>
   rw[oneLt'_eq];rw[pi zK];exact ae (wpAny_richCompare_same (op:=.Lt) (typeIs_int _ _ _) (typeIs_int _ _ _) slot_int_lt (call_int_lt ⟨(fun x=>nomatch x),Be q⟩))
def bq{O U:KeyOrd}(R:Heap→Value→O.α→Prop)(S:Heap→Value→U.α→Prop)(h:Heap)(v:Value)(a:O.α×U.α):Prop:=
 ∃c o n x y,v=.ref c∧h.get? c=some o∧o.cls=.type "tuple"∧o.data=.seq #[x,y] n∧R h x a.1∧S h y a.2
section
variable{prog:Program}{w:World}{O U:KeyOrd}{R:Heap→Value→O.α→Prop}{S:Heap→Value→U.α→Prop}{T V:String}
theorem Wq(e:El prog w O R T)(f:El prog w U S V){h h':Heap}{v:Value}{a:O.α×U.α}(st:dq h h')(p:bq R S h v a):bq R S h' v a:=by
 obtain⟨c,o,n,x,y,rfl,ho,hc,hd,h1,h2⟩:=p;exact⟨c,o,n,x,y,rfl,st _ _ ho hc,hc,hd,e.mono st h1,f.mono st h2⟩
theorem l8(e:El prog w O R T)(f:El prog w U S V){h:Heap}{v:Value}{a b:O.α×U.α}(p:bq R S h v a)(q:bq R S h v b):a=b:=by
 obtain⟨c,o,n,x,y,rfl,ho,hc,hd,h1,h2⟩:=p;obtain⟨c',o',n',x',y',e1,ho',hc',hd',g1,g2⟩:=q;cases e1;rw[ho]at ho';cases ho';rw[hd]at hd';cases hd';exact AT (e.fn h1 g1) (f.fn h2 g2)
theorem oK(b:Bool)(x y:Value):keyLt' (tuples' b) x y=(do
  let xs ←Builtin.List.listItems x
  let ys ←Builtin.List.listItems y
  for ((p,q),i) in (xs.toList.zip ys.toList).zipIdx do
   if !(←eqBool p q)then return ←oneLt' (b && i==0) p q
  return decide (xs.size<ys.size)):=rfl
theorem sC(e:El prog w O R T)(f:El prog w U S V){A:Around}{E:Value→Shared→Prop}{s:Shared}{x y:Value}{a b:O.α×U.α}{Q:Bool→Shared→Prop}(hu:A.units+8<cLine)(bb:Bool)(hb:bb=true→T≠"tuple")(ha:bq R S s.heap x a)(hb':bq R S s.heap y b)(q:Q (cW O U a b) s):wpAny (model prog w) A (keyLt' (tuples' bb) x y) Q E s:=by
 obtain⟨c,o,n,x1,x2,rfl,ho,hc,hd,h1,h2⟩:=ha;obtain⟨c',o',n',y1,y2,rfl,ho',hc',hd',g1,g2⟩:=hb';rw[oK];refine ae (listItems_at ho hd ?_);refine ae (listItems_at ho' hd' ?_);show wpAny _ _ (forIn [((x1,y1),0),((x2,y2),1)] _ _ >>= _) _ _ s;rw[List.forIn_cons];refine ae (ae (ae (e.eq hu h1 g1 ?_)))
 rcases e1:eqO O a.1 b.1 with _ | _
 ·rw[Bool.not_false,zE rfl];have ne:a.1≠b.1:=fun z=>by rw[Sy.mpr z]at e1;cases e1
  have q:Q (O.blt a.1 b.1) s:=by
   have z:cW O U a b=O.blt a.1 b.1:=by
    rw[AN,Yq];exact⟨fun h=>h.elim id fun h=>absurd h.1 ne,.inl⟩
   rw[z]at q;exact q
  exact ae (e.lt _ (fun z=>hb (by rw[Ap]at z;exact z.1)) hu h1 g1 (zC (zC (zC q))))
 ·rw[Bool.not_true,pi zK];have ea:=Sy.mp e1;refine zC ?_;show wpAny _ _ (forIn [((x2,y2),1)] _ _) _ _ s;rw[List.forIn_cons];refine ae (ae (f.eq hu h2 g2 ?_))
  rcases e2:eqO U a.2 b.2 with _ | _
  ·rw[Bool.not_false,zE rfl];have q:Q (U.blt a.2 b.2) s:=by
    have z:cW O U a b=U.blt a.2 b.2:=by
     rw[AN,Yq];constructor
     ·rintro(h | h)
      ·rw[ea,O.irrefl]at h;cases h
      ·exact h.2
     ·exact fun h=>.inr ⟨ea,h⟩
    rw[z]at q;exact q
   exact ae (f.lt _ (fun z=>by rw[Ap]at z;exact absurd z.2 (by decide)) hu h2 g2 (zC (zC (zC q))))
  ·rw[Bool.not_true,pi zK];have eb:=Sy.mp e2;have q:Q false s:=by
    have z:cW O U a b=false:=by
     rcases y:cW O U a b with _ | _
     ·rfl
     ·rcases Yq.mp y with h | h
      ·rw[ea,O.irrefl]at h;exact h.symm
      ·rw[eb,U.irrefl]at h;exact h.2.symm
    rw[z]at q;exact q
   refine zC ?_;show wpAny _ _ (forIn [] _ _) _ _ s;rw[List.forIn_nil];exact zC (zC q)
theorem pC(e:El prog w O R T)(f:El prog w U S V){A:Around}{s:Shared}(hu:A.units+8<cLine)(d:O.α×U.α)(bb:Bool)(hb:bb=true→T≠"tuple"):aX prog w A s (fc (cx O U) (bq R S s.heap) d) (tuples' bb):=
 fun E x y a b Q ha hb' q=>sC e f hu bb hb (gP ha) (gP hb') q
theorem nG(a b:Int×Int):HT.lexLt [a.1,a.2] [b.1,b.2]=cW aL aL a b:=by
 rw[AN];refine Iff.trans ?_ (Yq (O:=aL) (U:=aL) (a:=a) (b:=b)).symm;rw[HT.lexLt_cons,HT.lexLt_cons,HT.lexLt_nil_nil];show _↔decide (a.1<b.1)=true∨(a.1=b.1∧decide (a.2<b.2)=true);rw[BK,BK];by_cases c:a.1=b.1
 ·rw[zE c];by_cases c2:a.2=b.2
  ·rw[zE c2];exact⟨fun h=>(by cases h),fun h=>by omega⟩
  ·rw[pi c2,BK];exact⟨fun h=>.inr ⟨c,h⟩,fun h=>by omega⟩
 ·rw[pi c,BK];exact⟨.inl,fun h=>by omega⟩
def vS:Heap→Value→(cx aL aL).α→Prop:=bq xh xh
theorem Qn{h:Heap}{v:Value}{a:Int×Int}(p:vS h v a):∃c its,v=.ref c∧IsTup h c its∧IntsAre its.toList [a.1,a.2]:=by
 obtain⟨c,o,n,x,y,rfl,ho,hc,hd,⟨t,rfl⟩,⟨u,rfl⟩⟩:=p;exact⟨c,_,rfl,⟨o,ho,hc,n,hd⟩,.cons _ _ (.cons _ _ .nil)⟩
theorem mV{h:Heap}{v:Value}{a:Int×Int}(p:vS h v a):∃c,v=.ref c∧IsTupleKey (ak prog w) h [.inl a.1,.inl a.2] c:=by
 obtain⟨c,o,n,x,y,rfl,ho,hc,hd,⟨t,rfl⟩,⟨u,rfl⟩⟩:=p;exact⟨c,rfl,o,_,n,ho,hc,hd,.cons (Ur prog w _ _) (.cons (Ur prog w _ _) .nil)⟩
theorem vX:El prog w (cx aL aL) vS "tuple" where
 mono st p:=Wq (prog:=prog) (w:=w) S1 S1 st p
 fn p q:=l8 (prog:=prog) (w:=w) S1 S1 p q
 ty p:=by
  obtain⟨c,its,rfl,t,_⟩:=Qn p;exact t.typeIs
 eq {A E s u v a b Q} hu p p' q:=by
  obtain⟨c,rfl,k⟩:=mV (prog:=prog) (w:=w) p;obtain⟨c',rfl,k'⟩:=mV (prog:=prog) (w:=w) p';refine wpAny_eqBool_tuple (Nat.lt_of_le_of_lt (Nat.le_add_right _ 8) hu) k k' ?_;have z:decide (([.inl a.1,.inl a.2]:List Key)=[.inl b.1,.inl b.2])=eqO (cx aL aL) a b:=by
   rw[AN,BK,Sy];constructor
   ·intro h;injection h with h1 h2
    injection h2 with h2 _
    exact AT (Sum.inl.inj h1) (Sum.inl.inj h2)
   ·rintro rfl;rfl
  rw[z];exact q
 lt {A E s u v a b Q} f hf hu p p' q:=by
  obtain⟨c,its,rfl,t,i⟩:=Qn p;obtain⟨c',its',rfl,t',i'⟩:=Qn p';cases f with
  |true=>exact absurd rfl (hf rfl)
  |false=>
   rw[oneLt'_eq];rw[pi zK];refine ae (HT.lt_tupInts t t' i i' (Nat.lt_of_le_of_lt (Nat.le_add_right _ 8) hu) (Be ?_));exact(nG a b) ▸ q
end
end L2
namespace L2T
open PySem PySem.Spec PyProof.Rows L2
def ky(κ:KeyKind)(p:Keyed):κ.α:=(κ.keyOf p.1).getD κ.dflt
def leK(κ:KeyKind)(p q:Keyed):Prop:=κ.blt (ky κ q) (ky κ p)=false
def Srt(κ:KeyKind)(l:List Keyed):Prop:=l.Pairwise (leK κ)
section
variable{κ:KeyKind}
theorem leK.refl(p:Keyed):leK κ p p:=κ.irrefl _
theorem leK.trans{p q r:Keyed}(h:leK κ p q)(g:leK κ q r):leK κ p r:=ltF h g
theorem leK.of{p q:Keyed}(h:κ.blt (ky κ p) (ky κ q)=true):leK κ p q:=ltA h
structure Mi(κ:KeyKind)(W out A B:List Keyed):Prop where
 pm:(out++(A++B)).Perm W
 so:Srt κ out
 sa:Srt κ A
 sb:Srt κ B
 le:∀x∈out,∀y∈A++B,leK κ x y
theorem Mi.a{W out X A B:List Keyed}(h:Mi κ W out (X++A) B)(hl:∀x∈X,∀y∈B,leK κ x y):Mi κ W (out++X) A B:=by
 have sa:=Aq.mp h.sa;refine⟨?_,Aq.mpr ⟨h.so,sa.1,fun x hx y hy=>h.le x hx y (Ai _ (Ai _ hy))⟩,sa.2.1,h.sb,?_⟩
 ·have:=h.pm;simpa [List.append_assoc] using this
 ·intro x hx y hy
  rcases zT.mp hx with hx | hx
  ·refine h.le x hx y ?_
   rcases zT.mp hy with hy | hy
   ·exact Ai _ (zR _ hy)
   ·exact zR _ hy
  ·rcases zT.mp hy with hy | hy
   ·exact sa.2.2 x hx y hy
   ·exact hl x hx y hy
theorem Mi.sw{W out A B:List Keyed}(h:Mi κ W out A B):Mi κ W out B A:=
 ⟨((List.perm_append_comm).append_left out).trans h.pm,h.so,h.sb,h.sa,fun x hx y hy=>h.le x hx y (zT.mpr (Or.symm (zT.mp hy)))⟩
theorem Mi.b{W out X A B:List Keyed}(h:Mi κ W out A (X++B))(hl:∀x∈X,∀y∈A,leK κ x y):Mi κ W (out++X) A B:=(h.sw.a hl).sw
theorem Mi.fin{W out A B:List Keyed}(h:Mi κ W out A B)(hl:∀x∈A,∀y∈B,leK κ x y):(out++A++B).Perm W∧Srt κ (out++A++B):=by
 refine⟨by rw[Ag];exact h.pm,?_⟩;rw[Ag];exact Aq.mpr ⟨h.so,Aq.mpr ⟨h.sa,h.sb,hl⟩,h.le⟩
structure Mh(κ:KeyKind)(W out A B:List Keyed):Prop where
 pm:((A++B)++out).Perm W
 so:Srt κ out
 sa:Srt κ A
 sb:Srt κ B
 le:∀x∈A++B,∀y∈out,leK κ x y
theorem Mh.b{W out X A B:List Keyed}(h:Mh κ W out A (B++X))(hl:∀x∈X,∀y∈A,leK κ y x):Mh κ W (X++out) A B:=by
 have sb:=Aq.mp h.sb;refine⟨?_,Aq.mpr ⟨sb.2.1,h.so,fun x hx y hy=>h.le x (zR _ (zR _ hx)) y hy⟩,h.sa,sb.1,?_⟩
 ·have:=h.pm;simpa [List.append_assoc] using this
 ·intro x hx y hy
  rcases zT.mp hy with hy | hy
  ·rcases zT.mp hx with hx | hx
   ·exact hl y hy x hx
   ·exact sb.2.2 x hx y hy
  ·refine h.le x ?_ y hy
   rcases zT.mp hx with hx | hx
   ·exact Ai _ hx
   ·exact zR _ (Ai _ hx)
theorem Mh.sw{W out A B:List Keyed}(h:Mh κ W out A B):Mh κ W out B A:=
 ⟨((List.perm_append_comm).append_right out).trans h.pm,h.so,h.sb,h.sa,fun x hx y hy=>h.le x (zT.mpr (Or.symm (zT.mp hx))) y hy⟩
theorem Mh.a{W out X A B:List Keyed}(h:Mh κ W out (A++X) B)(hl:∀x∈X,∀y∈B,leK κ y x):Mh κ W (X++out) A B:=(h.sw.b hl).sw
theorem Mh.fin{W out A B:List Keyed}(h:Mh κ W out A B)(hl:∀x∈A,∀y∈B,leK κ x y):(A++B++out).Perm W∧Srt κ (A++B++out):=
 ⟨h.pm,Aq.mpr ⟨Aq.mpr ⟨h.sa,h.sb,hl⟩,h.so,h.le⟩⟩
theorem Srt.at{l:List Keyed}(h:Srt κ l){i j:Nat}{x y:Keyed}(hij:i≤j)(hx:l[i]?=some x)(hy:l[j]?=some y):leK κ x y:=by
 rcases AE i j with c | c
 ·obtain⟨hi,rfl⟩:=zM.mp hx;obtain⟨hj,rfl⟩:=zM.mp hy;exact BP.mp h i j hi hj c
 ·obtain rfl:i=j:=by omega
  rw[hx]at hy;cases hy;exact leK.refl _
theorem N8{xs:Array Keyed}{i:Nat}{p:Keyed}(h:xs[i]?=some p):KK κ xs i=ky κ p:=by
 unfold KK ky;rw[h]
end
def a9:Bool→Keyed→Array Keyed→Nat→Nat→Nat→StateT SortSt Sem (Option Nat):=sortPriv% PySem.Builtin.gallop
def ca(aF:Bool)(key:Keyed)(arr:Array Keyed)(base i:Nat):StateT SortSt Sem (Option Bool):=do
 let x ←elem' arr (base+i)
 if aF then lt' x key else return (←lt' key x).map (!·)
theorem jV(aF:Bool)(key:Keyed)(arr:Array Keyed)(base n hint:Nat):a9 aF key arr base n hint=(do
 let mut lastofs:=0
 let mut ofs:=1
 let mut lo:=0
 let mut hi:=0
 let some right ←ca aF key arr base hint | return none
 if right then
  let maxofs:=n-hint
  for _ in [0:n] do
   if ofs ≥ maxofs then break
   let some more ←ca aF key arr base (hint+ofs) | return none
   if !more then break
   lastofs:=ofs
   ofs:=2*ofs+1
  lo:=hint+lastofs+1
  hi:=hint+min ofs maxofs
 else
  let maxofs:=hint+1
  for _ in [0:n] do
   if ofs ≥ maxofs then break
   let some found ←ca aF key arr base (hint-ofs) | return none
   if found then break
   lastofs:=ofs
   ofs:=2*ofs+1
  lo:=hint+1-min ofs maxofs
  hi:=hint-lastofs
 for _ in [0:n] do
  if lo ≥ hi then break
  let m:=lo+(hi-lo) / 2
  let some more ←ca aF key arr base m | return none
  if more then lo:=m+1 else hi:=m
 return some hi):=rfl
section
variable{prog:Program}{w:World}{A:Around}{E:Value→Shared→Prop}{s:Shared}{κ:KeyKind}{kd:SortKind}{st:SortSt}
theorem O1{x y:Keyed}{Q:Option Bool→SortSt→Prop}(hc:aX prog w A s κ kd)(kn:kindOf st=kd)(hx:∃a,κ.keyOf x.1=some a)(hy:∃a,κ.keyOf y.1=some a)(q:Q (some (κ.blt (ky κ x) (ky κ y))) st):wpS (model prog w) A E s (lt' x y) Q st:=by
 obtain⟨a,ha⟩:=hx;obtain⟨b,hb⟩:=hy;have e1:ky κ x=a:=by unfold ky;rw[ha];rfl
 have e2:ky κ y=b:=by unfold ky;rw[hb];rfl
 rw[e1,e2]at q;rw[lt'_eq];refine zS (Cy ?_);rw[kn];exact zS (wpS_lift (wpAny_attempt (hc _ x.1 y.1 a b _ ha hb ⟨rfl,zQ q⟩)))
def bey(κ:KeyKind)(aF:Bool)(key:Keyed)(p:Keyed):Bool:=if aF then κ.blt (ky κ p) (ky κ key)else !κ.blt (ky κ key) (ky κ p)
theorem Vx{aF:Bool}{key p q:Keyed}(h:leK κ p q)(g:bey κ aF key q=true):bey κ aF key p=true:=by
 unfold bey at g⊢;cases aF with
 |true=>
  simp only[if_true]at g⊢
  rcases κ.negTrans _ (ky κ p) _ g with z | z
  ·rw[h]at z;cases z
  ·exact z
 |false=>
  simp only[Bool.false_eq_true,if_false,Bool.not_eq_true']at g⊢;exact ltF h g
theorem Nb{aF:Bool}{key:Keyed}{arr:Array Keyed}{base i:Nat}{p:Keyed}{Q:Option Bool→SortSt→Prop}(hc:aX prog w A s κ kd)(kn:kindOf st=kd)(hk:KeysOf κ arr)(hy:∃a,κ.keyOf key.1=some a)(e:arr[base+i]?=some p)(q:Q (some (bey κ aF key p)) st):wpS (model prog w) A E s (ca aF key arr base i) Q st:=by
 unfold ca;rw[elem'_eq,e];have hx:∃a,κ.keyOf p.1=some a:=hk p (Cj.mpr (Array.mem_of_getElem? e));refine zS (zQ ?_);cases aF with
 |true=>exact O1 hc kn hx hy q
 |false=>exact zS (O1 hc kn hy hx (zQ q))
def vp(aF:Bool)(key:Keyed)(arr:Array Keyed)(base n lo0 hi0:Nat):StateT SortSt Sem (Option Nat):=do
 let mut lo:=lo0
 let mut hi:=hi0
 for _ in [0:n] do
  if lo ≥ hi then break
  let m:=lo+(hi-lo) / 2
  let some more ←ca aF key arr base m | return none
  if more then lo:=m+1 else hi:=m
 return some hi
theorem Wo{aF:Bool}{key:Keyed}{arr:Array Keyed}{base n hint:Nat}{Q:Option Nat→SortSt→Prop}(hc:aX prog w A s κ kd)(kn:kindOf st=kd)(hk:KeysOf κ arr)(hy:∃a,κ.keyOf key.1=some a)(hn:hint<n)(hs:base+n≤arr.size)(so:Srt κ ((arr.toList.drop base).take n))(fin:∀m,m≤n→(∀i p,i<m→arr[base+i]?=some p→bey κ aF key p=true)→(∀i p,m≤i→i<n→arr[base+i]?=some p→bey κ aF key p=false)→Q (some m) st):wpS (model prog w) A E s (a9 aF key arr base n hint) Q st:=by
 have at_:∀i,i<n→∃p,arr[base+i]?=some p∧((arr.toList.drop base).take n)[i]?=some p:=fun i hi=>by
  have hb:base+i<arr.size:=by omega
  refine⟨arr[base+i],zJ hb,?_⟩;rw[AK,zE hi,A1,zL];exact zJ hb
 have up:∀{i j p q},i≤j→j<n→arr[base+i]?=some p→arr[base+j]?=some q→leK κ p q:=fun{i j p q} hij hj hp hq=>by
  obtain⟨p',e1,e2⟩:=at_ i (by omega);obtain⟨q',e3,e4⟩:=at_ j hj;rw[hp]at e1;rw[hq]at e3;cases e1;cases e3;exact so.at hij e2 e4
 rw[jV];obtain⟨ph,eh,_⟩:=at_ hint hn;refine zS (Nb hc kn hk hy eh ?_);dsimp only;have last:∀lo hi,lo≤hi→hi≤n→(∀i p,i<lo→arr[base+i]?=some p→bey κ aF key p=true)→(∀i p,hi≤i→i<n→arr[base+i]?=some p→bey κ aF key p=false)→wpS (model prog w) A E s (vp aF key arr base n lo hi) Q st:=by
  intro lo hi lh hn' g1 g2;unfold vp;refine zS (Bf (AW (Q:=fun c u=>u=st∧∃m,c=(none,m,m)∧m≤n∧(∀i p,i<m→arr[base+i]?=some p→bey κ aF key p=true)∧(∀i p,m≤i→i<n→arr[base+i]?=some p→bey κ aF key p=false))
   (fun x c u=>u=st∧∃lo hi,c=(none,lo,hi)∧lo≤hi∧hi≤n∧hi+x≤n+lo∧(∀i p,i<lo→arr[base+i]?=some p→bey κ aF key p=true)∧(∀i p,hi≤i→i<n→arr[base+i]?=some p→bey κ aF key p=false)) ?_ ?_ ⟨rfl,lo,hi,rfl,lh,hn',by omega,g1,g2⟩) ?_)
  ·rintro x _ _ _ hx ⟨rfl,lo,hi,rfl,lh,hn',hh,g1,g2⟩;dsimp only
   rcases AE lo hi with c | c
   ·rw[pi (by omega)];obtain⟨p,e,_⟩:=at_ (lo+(hi-lo) / 2) (by omega);refine zS (Nb hc kn hk hy e ?_);dsimp only
    rcases b:bey κ aF key p with _ | _
    ·rw[pi zK];refine zQ ⟨rfl,lo,lo+(hi-lo) / 2,rfl,by omega,by omega,by omega,g1,fun i q h1 h2 hq=>?_⟩
     rcases z:bey κ aF key q with _ | _
     ·rfl
     ·rw[Vx (up h1 h2 e hq) z]at b;cases b
    ·rw[zE rfl];refine zQ ⟨rfl,lo+(hi-lo) / 2+1,hi,rfl,by omega,by omega,by omega,fun i q h1 hq=>?_,g2⟩;exact Vx (up (show i≤lo+(hi-lo) / 2 by omega) (by omega) hq e) b
   ·rw[zE c];obtain rfl:lo=hi:=by omega
    exact zQ ⟨rfl,lo,rfl,hn',g1,g2⟩
  ·rintro _ _ ⟨rfl,lo,hi,rfl,lh,hn',hh,g1,g2⟩;obtain rfl:lo=hi:=by omega
   exact⟨rfl,lo,rfl,hn',g1,g2⟩
  ·rintro _ _ ⟨rfl,m,rfl,hm,g1,g2⟩;exact zQ (fin m hm g1 g2)
 rcases b:bey κ aF key ph with _ | _
 ·rw[pi zK];refine zS (Bf (AW (Q:=fun c u=>u=st∧∃l o,c=(none,l,o)∧l<o∧l≤hint∧(∀p,arr[base+(hint-l)]?=some p→bey κ aF key p=false)∧(hint+1≤o∨∀p,arr[base+(hint-o)]?=some p→bey κ aF key p=true))
   (fun x c u=>u=st∧∃l o,c=(none,l,o)∧l<o∧l≤hint∧x<o∧(∀p,arr[base+(hint-l)]?=some p→bey κ aF key p=false)) ?_ ?_ ⟨rfl,0,1,rfl,by omega,by omega,by omega,fun p hp=>by rw[Nat.sub_zero,eh]at hp;cases hp;exact b⟩) ?_)
  ·rintro x _ _ _ hx ⟨rfl,l,o,rfl,lo,lh,xo,g⟩;dsimp only
   rcases AE o (hint+1)with c | c
   ·rw[pi (by omega)];obtain⟨p,e,_⟩:=at_ (hint-o) (by omega);refine zS (Nb hc kn hk hy e ?_);dsimp only
    rcases z:bey κ aF key p with _ | _
    ·rw[pi zK];exact zQ ⟨rfl,o,2*o+1,rfl,by omega,by omega,by omega,fun q hq=>by rw[e]at hq;cases hq;exact z⟩
    ·rw[zE rfl];exact zQ ⟨rfl,l,o,rfl,lo,lh,g,.inr fun q hq=>by rw[e]at hq;cases hq;exact z⟩
   ·rw[zE c];exact zQ ⟨rfl,l,o,rfl,lo,lh,g,.inl c⟩
  ·rintro _ _ ⟨rfl,l,o,rfl,lo,lh,xo,g⟩;exact⟨rfl,l,o,rfl,lo,lh,g,.inl (by omega)⟩
  ·rintro _ _ ⟨rfl,l,o,rfl,lo,lh,g,h⟩;refine last (hint+1-min o (hint+1)) (hint-l) (by omega) (by omega) (fun i p hi hp=>?_) fun i p h1 h2 hp=>?_
   ·rcases h with h | h
    ·omega
    ·rcases AE hint o with c | c
     ·omega
     ·obtain⟨q,e,_⟩:=at_ (hint-o) (by omega);exact Vx (up (show i≤hint-o by omega) (by omega) hp e) (h q e)
   ·obtain⟨q,e,_⟩:=at_ (hint-l) (by omega)
    rcases z:bey κ aF key p with _ | _
    ·rfl
    ·have:=Vx (up h1 h2 e hp) z;rw[g q e]at this;cases this
 ·rw[zE rfl];refine zS (Bf (AW (Q:=fun c u=>u=st∧∃l o,c=(none,l,o)∧l<o∧hint+l<n∧(∀p,arr[base+(hint+l)]?=some p→bey κ aF key p=true)∧(n-hint≤o∨∀p,arr[base+(hint+o)]?=some p→bey κ aF key p=false))
   (fun x c u=>u=st∧∃l o,c=(none,l,o)∧l<o∧hint+l<n∧x<o∧(∀p,arr[base+(hint+l)]?=some p→bey κ aF key p=true)) ?_ ?_ ⟨rfl,0,1,rfl,by omega,by omega,by omega,fun p hp=>by rw[Nat.add_zero,eh]at hp;cases hp;exact b⟩) ?_)
  ·rintro x _ _ _ hx ⟨rfl,l,o,rfl,lo,lh,xo,g⟩;dsimp only
   rcases AE o (n-hint)with c | c
   ·rw[pi (by omega)];obtain⟨p,e,_⟩:=at_ (hint+o) (by omega);refine zS (Nb hc kn hk hy e ?_);dsimp only
    rcases z:bey κ aF key p with _ | _
    ·rw[zE (by rfl)];exact zQ ⟨rfl,l,o,rfl,lo,lh,g,.inr fun q hq=>by rw[e]at hq;cases hq;exact z⟩
    ·rw[pi (by decide)];exact zQ ⟨rfl,o,2*o+1,rfl,by omega,by omega,by omega,fun q hq=>by rw[e]at hq;cases hq;exact z⟩
   ·rw[zE c];exact zQ ⟨rfl,l,o,rfl,lo,lh,g,.inl c⟩
  ·rintro _ _ ⟨rfl,l,o,rfl,lo,lh,xo,g⟩;exact⟨rfl,l,o,rfl,lo,lh,g,.inl (by omega)⟩
  ·rintro _ _ ⟨rfl,l,o,rfl,lo,lh,g,h⟩;refine last (hint+l+1) (hint+min o (n-hint)) (by omega) (by omega) (fun i p hi hp=>?_) fun i p h1 h2 hp=>?_
   ·obtain⟨q,e,_⟩:=at_ (hint+l) (by omega);exact Vx (up (show i≤hint+l by omega) (by omega) hp e) (g q e)
   ·rcases h with h | h
    ·omega
    ·rcases AE o (n-hint)with c | c
     ·obtain⟨q,e,_⟩:=at_ (hint+o) (by omega)
      rcases z:bey κ aF key p with _ | _
      ·rfl
      ·have:=Vx (up (show hint+o≤i by omega) h2 e hp) z;rw[h q e]at this;cases this
     ·omega
end
end L2T
namespace L2T
open PySem PySem.Spec PyProof.Rows L2
def aH:Nat→StateT SortSt Sem Unit:=sortPriv% PySem.Builtin.setMinGallop
abbrev eR(st:SortSt)(g:Nat):SortSt:=SortSt.mk' (kindOf st) (arrOf st) (pendingOf st) g (failedOf st)
theorem Xe(g:Nat):aH g=modify fun s=>eR s g:=rfl
def eO:Array Keyed→Array Keyed→StateT SortSt Sem (Array Keyed):=sortPriv% PySem.Builtin.mergeLo
theorem hO(a b:Array Keyed):eO a b=(do
 rule "list.sort.merge-lo"
 let total:=a.size+b.size
 let done (out:Array Keyed) (ia ib:Nat):=out++a.extract ia a.size++b.extract ib b.size
 let lastOfA (out:Array Keyed) (ia ib:Nat):=out++b.extract ib b.size++a.extract ia a.size
 let mut out:Array Keyed:=#[←elem' b 0]
 let mut ia:=0
 let mut ib:=1
 if ib==b.size then return done out ia ib
 if ia+1==a.size then return lastOfA out ia ib
 let mut CT:=gallopOf (←get)
 for _ in [0:total] do
  let mut acount:=0
  let mut bcount:=0
  for _ in [0:total] do
   let some bWins ←lt' (←elem' b ib) (←elem' a ia) | return done out ia ib
   if bWins then
    out:=out.push (←elem' b ib);ib:=ib+1;bcount:=bcount+1;acount:=0
    if ib==b.size then return done out ia ib
    if bcount ≥ CT then break
   else
    out:=out.push (←elem' a ia);ia:=ia+1;acount:=acount+1;bcount:=0
    if ia+1==a.size then return lastOfA out ia ib
    if acount ≥ CT then break
  rule "list.sort.gallop"
  CT:=CT+1
  for _ in [0:total] do
   if CT > 1 then CT:=CT-1
   aH CT
   let some k ←a9 false (←elem' b ib) a ia (a.size-ia) 0 | return done out ia ib
   acount:=k
   if k > 0 then
    out:=out++a.extract ia (ia+k);ia:=ia+k
    if ia+1==a.size then return lastOfA out ia ib
    if ia==a.size then return done out ia ib
   out:=out.push (←elem' b ib);ib:=ib+1
   if ib==b.size then return done out ia ib
   let some k ←a9 true (←elem' a ia) b ib (b.size-ib) 0 | return done out ia ib
   bcount:=k
   if k > 0 then
    out:=out++b.extract ib (ib+k);ib:=ib+k
    if ib==b.size then return done out ia ib
   out:=out.push (←elem' a ia);ia:=ia+1
   if ia+1==a.size then return lastOfA out ia ib
   if acount<7 && bcount<7 then break
  CT:=CT+1
  aH CT
 unsupported "internal:list.sort.merge-bound"):=rfl
section
variable{prog:Program}{w:World}{A:Around}{E:Value→Shared→Prop}{s:Shared}{κ:KeyKind}{kd:SortKind}{st:SortSt}
def GalS(st u:SortSt):Prop:=∃g,u=eR st g
theorem GalS.refl:GalS st st:=⟨gallopOf st,rfl⟩
theorem GalS.set{u:SortSt}(h:GalS st u)(g:Nat):GalS st (eR u g):=by
 obtain⟨_,rfl⟩:=h;exact⟨g,rfl⟩
theorem GalS.kn{u:SortSt}(h:GalS st u):kindOf u=kindOf st:=by
 obtain⟨_,rfl⟩:=h;rfl
theorem Qh(xs:Array Keyed)(i:Nat):(xs.extract i xs.size).toList=xs.toList.drop i:=by
 rw[BV,Bl,Bg];rw[BJ,zU];exact zD _
theorem jr(xs:Array Keyed)(i k:Nat):(xs.extract i (i+k)).toList=(xs.toList.drop i).take k:=by
 rw[BV,Bl,Nat.add_sub_cancel_left]
theorem gn{xs:Array Keyed}{i:Nat}(h:i<xs.size):xs.toList.drop i=[xs[i]]++xs.toList.drop (i+1):=by
 rw[List.drop_eq_getElem_cons (by rw[zU];exact h)];rfl
theorem Pz(l:List Keyed)(i k:Nat):l.drop i=(l.drop i).take k++l.drop (i+k):=by
 rw[←Ck,AM]
theorem Yk{xs:Array Keyed}{i:Nat}(h:i<xs.size):elem' xs i=pure xs[i]:=by rw[elem'_eq,zJ h]
theorem Vw{xs:Array Keyed}{i:Nat}{y:Keyed}(h:y∈xs.toList.drop i):∃j,xs[i+j]?=some y∧i+j<xs.size:=by
 obtain⟨j,hj⟩:=A9.mp h;rw[A1,zL]at hj;exact⟨j,hj,(BL.mp hj).1⟩
theorem Vm{xs:Array Keyed}{i k:Nat}{y:Keyed}(h:y∈(xs.toList.drop i).take k):∃j,xs[i+j]?=some y∧j<k∧i+j<xs.size:=by
 obtain⟨j,hj⟩:=A9.mp h;rw[AK]at hj
 split at hj
 ·next c=>
  rw[A1,zL]at hj;exact⟨j,hj,c,(BL.mp hj).1⟩
 ·cases hj
theorem We{xs:Array Keyed}(hk:KeysOf κ xs){i:Nat}(h:i<xs.size):∃a,κ.keyOf xs[i].1=some a:=hk _ (Cj.mpr (Array.getElem_mem h))
abbrev dn(a b out:Array Keyed)(ia ib:Nat):Array Keyed:=out++a.extract ia a.size++b.extract ib b.size
abbrev la(a b out:Array Keyed)(ia ib:Nat):Array Keyed:=out++b.extract ib b.size++a.extract ia a.size
abbrev T2:Type:=Option (Array Keyed)×Array Keyed×Nat×Nat×Nat×Nat×Nat
def lo3(a b out:Array Keyed)(ia ib mg k1 k2:Nat):StateT SortSt Sem (ForInStep T2):=do
 let x ←elem' a ia
 if (ia+1+1==a.size)=true then pure (.done (some (la a b (out.push x) (ia+1) ib),out.push x,ia+1,ib,mg,k1,k2))
 else if (decide (k1<7) && decide (k2<7))=true then pure (.done (none,out.push x,ia+1,ib,mg,k1,k2))
 else pure (.yield (none,out.push x,ia+1,ib,mg,k1,k2))
def lo2(a b out:Array Keyed)(ia ib mg k1 k20:Nat):StateT SortSt Sem (ForInStep T2):=do
 let x ←elem' b ib
 if (ib+1==b.size)=true then pure (.done (some (dn a b (out.push x) ia (ib+1)),out.push x,ia,ib+1,mg,k1,k20))
 else do
  let y ←elem' a ia
  let r ←a9 true y b (ib+1) (b.size-(ib+1)) 0
  match r with
  |some k=>
   if k > 0 then
    if (ib+1+k==b.size)=true then pure (.done (some (dn a b (out.push x++b.extract (ib+1) (ib+1+k)) ia (ib+1+k)),out.push x++b.extract (ib+1) (ib+1+k),ia,ib+1+k,mg,k1,k))
    else lo3 a b (out.push x++b.extract (ib+1) (ib+1+k)) ia (ib+1+k) mg k1 k
   else lo3 a b (out.push x) ia (ib+1) mg k1 k
  |_=>pure (.done (some (dn a b (out.push x) ia (ib+1)),out.push x,ia,ib+1,mg,k1,k20))
def lo1(a b out:Array Keyed)(ia ib mg k10 k20:Nat):StateT SortSt Sem (ForInStep T2):=do
 aH mg
 let x ←elem' b ib
 let r ←a9 false x a ia (a.size-ia) 0
 match r with
 |some k=>
  if k > 0 then
   if (ia+k+1==a.size)=true then pure (.done (some (la a b (out++a.extract ia (ia+k)) (ia+k) ib),out++a.extract ia (ia+k),ia+k,ib,mg,k,k20))
   else if (ia+k==a.size)=true then pure (.done (some (dn a b (out++a.extract ia (ia+k)) (ia+k) ib),out++a.extract ia (ia+k),ia+k,ib,mg,k,k20))
   else lo2 a b (out++a.extract ia (ia+k)) (ia+k) ib mg k k20
  else lo2 a b out ia ib mg k k20
 |_=>pure (.done (some (dn a b out ia ib),out,ia,ib,mg,k10,k20))
structure LoC(κ:KeyKind)(a b:Array Keyed):Prop where
 ha:KeysOf κ a
 hb:KeysOf κ b
 sa:Srt κ a.toList
 sb:Srt κ b.toList
 h1:∀x∈b.toList,∀y∈a.toList.drop (a.size-1),leK κ x y
structure Jl(κ:KeyKind)(a b out:Array Keyed)(ia ib:Nat):Prop where
 mi:Mi κ (a.toList++b.toList) out.toList (a.toList.drop ia) (b.toList.drop ib)
 ia1:ia+1<a.size
 ib1:ib<b.size
 sz:out.size=ia+ib
def Mgd(κ:KeyKind)(a b r:Array Keyed):Prop:=r.toList.Perm (a.toList++b.toList)∧Srt κ r.toList
def Rs(κ:KeyKind)(a b:Array Keyed)(N:Nat)(c:T2):Prop:=(∃r,c.1=some r∧Mgd κ a b r)∨(c.1=none∧Jl κ a b c.2.1 c.2.2.1 c.2.2.2.1∧N<c.2.1.size)
def Ps2(κ:KeyKind)(a b:Array Keyed)(st:SortSt)(N:Nat):ForInStep T2→SortSt→Prop:=fun r u=>GalS st u∧match r with
 |.done c=>Rs κ a b N c
 |.yield c=>c.1=none∧Jl κ a b c.2.1 c.2.2.1 c.2.2.2.1∧N<c.2.1.size
theorem iI{a b out:Array Keyed}{ia ib:Nat}(h:Mi κ (a.toList++b.toList) out.toList (a.toList.drop ia) (b.toList.drop ib))(e:ia=a.size∨ib=b.size):Mgd κ a b (dn a b out ia ib):=by
 have q:=h.fin fun x hx y hy=>by
  rcases e with rfl | rfl
  ·rw[BE (by rw[zU];exact zD _)]at hx;cases hx
  ·rw[BE (by rw[zU];exact zD _)]at hy;cases hy
 unfold Mgd dn;rw[AD,AD,Qh,Qh];exact q
theorem mL{a b out:Array Keyed}{ia ib:Nat}(C:LoC κ a b)(h:Mi κ (a.toList++b.toList) out.toList (a.toList.drop ia) (b.toList.drop ib))(e:ia+1=a.size):Mgd κ a b (la a b out ia ib):=by
 have q:=h.sw.fin fun x hx y hy=>C.h1 x (List.mem_of_mem_drop hx) y (by rw[show a.size-1=ia by omega];exact hy);unfold Mgd la;rw[AD,AD,Qh,Qh];exact q
theorem qC{a b out:Array Keyed}{ia ib:Nat}(h:Mi κ (a.toList++b.toList) out.toList (a.toList.drop ia) (b.toList.drop ib))(hb:ib<b.size)(hl:∀y∈a.toList.drop ia,leK κ b[ib] y):Mi κ (a.toList++b.toList) (out.push b[ib]).toList (a.toList.drop ia) (b.toList.drop (ib+1)):=by
 rw[gn hb]at h;rw[Ci];exact h.b fun x hx y hy=>by rw[zG.mp hx];exact hl y hy
theorem u_{a b out:Array Keyed}{ia ib:Nat}(h:Mi κ (a.toList++b.toList) out.toList (a.toList.drop ia) (b.toList.drop ib))(ha:ia<a.size)(hl:∀y∈b.toList.drop ib,leK κ a[ia] y):Mi κ (a.toList++b.toList) (out.push a[ia]).toList (a.toList.drop (ia+1)) (b.toList.drop ib):=by
 rw[gn ha]at h;rw[Ci];exact h.a fun x hx y hy=>by rw[zG.mp hx];exact hl y hy
theorem rc{a b out:Array Keyed}{ia ib mg k1 k2 N:Nat}{u:SortSt}(C:LoC κ a b)(gu:GalS st u)(j:Jl κ a b out ia ib)(hN:N≤out.size)(hl:∀y∈b.toList.drop ib,leK κ (a[ia]'(by have:=j.ia1;omega)) y):wpS (model prog w) A E s (lo3 a b out ia ib mg k1 k2) (Ps2 κ a b st N) u:=by
 have i1:=j.ia1;unfold lo3;rw[Yk (show ia<a.size by omega)];refine zS (zQ ?_);have m:=u_ j.mi (show ia<a.size by omega) hl;have sz:=j.sz;have zz:(out.push (a[ia]'(by omega))).size=out.size+1:=Bi _;by_cases c:ia+1+1=a.size
 ·rw[zE (by rw[Ad];exact c)];exact zQ ⟨gu,.inl ⟨_,rfl,mL C m c⟩⟩
 ·rw[pi (by rw[Ad];exact c)];have j2:Jl κ a b (out.push (a[ia]'(by omega))) (ia+1) ib:=⟨m,by omega,j.ib1,by rw[zz];omega⟩
  split
  ·exact zQ ⟨gu,.inr ⟨rfl,j2,by show N<(out.push _).size;omega⟩⟩
  ·exact zQ ⟨gu,rfl,j2,by show N<(out.push _).size;omega⟩
theorem qg{a b out:Array Keyed}{ia ib mg k1 k2 N:Nat}{u:SortSt}(hc:aX prog w A s κ kd)(kn:kindOf st=kd)(C:LoC κ a b)(gu:GalS st u)(j:Jl κ a b out ia ib)(hN:N≤out.size)(hl:∀y∈a.toList.drop ia,leK κ (b[ib]'j.ib1) y):wpS (model prog w) A E s (lo2 a b out ia ib mg k1 k2) (Ps2 κ a b st N) u:=by
 have i1:=j.ia1;have i2:=j.ib1;unfold lo2;rw[Yk i2];refine zS (zQ ?_);have m:=qC j.mi i2 hl;have sz:=j.sz;have zz:(out.push b[ib]).size=out.size+1:=Bi _;by_cases c:ib+1=b.size
 ·rw[zE (by rw[Ad];exact c)];exact zQ ⟨gu,.inl ⟨_,rfl,iI m (.inr c)⟩⟩
 rw[pi (by rw[Ad];exact c),Yk (show ia<a.size by omega)];refine zS (zQ ?_);have kl:ib+1+(b.size-(ib+1))=b.size:=by omega
 refine zS (Wo hc (gu.kn.trans kn) C.hb (We C.ha (show ia<a.size by omega)) (by omega) (by omega) (C.sb.sublist ((Cg _ _).trans (List.drop_sublist _ _))) fun k hk g1 g2=>?_);have lta:∀x,(∃i,i<k∧b[ib+1+i]?=some x)→∀y∈a.toList.drop ia,leK κ x y:=by
  rintro x ⟨i,hi,hx⟩ y hy;have q:κ.blt (ky κ x) (ky κ a[ia])=true:=g1 i x hi hx;obtain⟨n,hn,_⟩:=Vw hy;refine(leK.of q).trans (C.sa.at (i:=ia) (j:=ia+n) (by omega) ?_ ?_)
  ·rw[zL];exact zJ _
  ·rw[zL];exact hn
 have nlt:∀y∈b.toList.drop (ib+1+k),leK κ a[ia] y:=by
  intro y hy;obtain⟨n,hn,hs⟩:=Vw hy;have q:κ.blt (ky κ y) (ky κ a[ia])=false:=g2 (k+n) y (by omega) (by omega) (by rw[←BW];exact hn);exact q
 dsimp only;have m2:Mi κ (a.toList++b.toList) (out.push b[ib]++b.extract (ib+1) (ib+1+k)).toList (a.toList.drop ia) (b.toList.drop (ib+1+k)):=by
  rw[AD,jr];rw[Pz b.toList (ib+1) k]at m;refine m.b fun x hx y hy=>?_;obtain⟨i,hi,ik,_⟩:=Vm hx;exact lta x ⟨i,ik,hi⟩ y hy
 have z2:(out.push b[ib]++b.extract (ib+1) (ib+1+k)).size=out.size+1+k:=by
  rw[Array.size_append,BM,zz];omega
 by_cases k0:k > 0
 ·rw[zE k0];by_cases c2:ib+1+k=b.size
  ·rw[zE (by rw[Ad];exact c2)];exact zQ ⟨gu,.inl ⟨_,rfl,iI m2 (.inr c2)⟩⟩
  ·rw[pi (by rw[Ad];exact c2)];exact rc C gu ⟨m2,i1,by omega,by rw[z2];omega⟩ (by omega) nlt
 ·rw[pi k0];obtain rfl:k=0:=by omega
  exact rc C gu ⟨m,i1,by omega,by rw[zz];omega⟩ (by omega) nlt
theorem rO{a b out:Array Keyed}{ia ib mg k1 k2 N:Nat}{u:SortSt}(hc:aX prog w A s κ kd)(kn:kindOf st=kd)(C:LoC κ a b)(gu:GalS st u)(j:Jl κ a b out ia ib)(hN:N≤out.size):wpS (model prog w) A E s (lo1 a b out ia ib mg k1 k2) (Ps2 κ a b st N) u:=by
 have i1:=j.ia1;have i2:=j.ib1;have sz:=j.sz;have m:=j.mi;unfold lo1;rw[Xe];refine zS (B8 ?_);have gu:=gu.set mg;rw[Yk i2];refine zS (zQ ?_);refine zS (Wo hc (gu.kn.trans kn) C.ha (We C.hb i2) (by omega) (by omega) (C.sa.sublist ((Cg _ _).trans (List.drop_sublist _ _))) fun k hk g1 g2=>?_);have lea:∀x,(∃i,i<k∧a[ia+i]?=some x)→∀y∈b.toList.drop ib,leK κ x y:=by
  rintro x ⟨i,hi,hx⟩ y hy;have q:=g1 i x hi hx;unfold bey at q;rw[pi zK,BU]at q;have q:leK κ x b[ib]:=q;obtain⟨n,hn,_⟩:=Vw hy;refine q.trans (C.sb.at (i:=ib) (j:=ib+n) (by omega) ?_ ?_)
  ·rw[zL];exact zJ _
  ·rw[zL];exact hn
 have ltb:∀y∈a.toList.drop (ia+k),leK κ b[ib] y:=by
  intro y hy;obtain⟨n,hn,hs⟩:=Vw hy;have q:=g2 (k+n) y (by omega) (by omega) (by rw[←BW];exact hn);unfold bey at q;rw[pi zK,Bool.not_eq_false']at q;exact leK.of q
 dsimp only;have m2:Mi κ (a.toList++b.toList) (out++a.extract ia (ia+k)).toList (a.toList.drop (ia+k)) (b.toList.drop ib):=by
  rw[AD,jr];rw[Pz a.toList ia k]at m;refine m.a fun x hx y hy=>?_;obtain⟨i,hi,ik,_⟩:=Vm hx;exact lea x ⟨i,ik,hi⟩ y hy
 have z2:(out++a.extract ia (ia+k)).size=out.size+k:=by
  rw[Array.size_append,BM];omega
 by_cases k0:k > 0
 ·rw[zE k0];by_cases c2:ia+k+1=a.size
  ·rw[zE (by rw[Ad];exact c2)];exact zQ ⟨gu,.inl ⟨_,rfl,mL C m2 c2⟩⟩
  rw[pi (by rw[Ad];exact c2)];by_cases c3:ia+k=a.size
  ·rw[zE (by rw[Ad];exact c3)];exact zQ ⟨gu,.inl ⟨_,rfl,iI m2 (.inl c3)⟩⟩
  ·rw[pi (by rw[Ad];exact c3)];exact qg hc kn C gu ⟨m2,by omega,i2,by rw[z2];omega⟩ (by omega) ltb
 ·rw[pi k0];obtain rfl:k=0:=by omega
  exact qg hc kn C gu j hN ltb
abbrev T1:Type:=Option (Array Keyed)×Array Keyed×Nat×Nat×Nat×Nat
abbrev T0:Type:=Option (Array Keyed)×Array Keyed×Nat×Nat×Nat
theorem jN{a b:Array Keyed}{Q:Array Keyed→SortSt→Prop}(hc:aX prog w A s κ kd)(kn:kindOf st=kd)(C:LoC κ a b)(a1:0<a.size)(b1:0<b.size)(h0:∀y∈a.toList,leK κ b[0] y)(fin:∀(m:Array Keyed) (u:SortSt),GalS st u→Mgd κ a b m→Q m u):wpS (model prog w) A E s (eO a b) Q st:=by
 rw[hO];refine zS (m:=liftM (rule _)) (wpS_lift (Bo ⟨rfl,?_⟩));rw[Yk b1];refine zS (zQ ?_);dsimp only;have m0:Mi κ (a.toList++b.toList) (#[]:Array Keyed).toList (a.toList.drop 0) (b.toList.drop 0):=⟨List.Perm.refl _,List.Pairwise.nil,C.sa,C.sb,fun _ h=>nomatch h⟩;have m1:Mi κ (a.toList++b.toList) #[b[0]].toList (a.toList.drop 0) (b.toList.drop 1):=qC m0 b1 h0;by_cases c:1=b.size
 ·rw[zE (by rw[Ad];exact c)];exact zQ (fin _ _ .refl (iI m1 (.inr c)))
 rw[pi (by rw[Ad];exact c)];by_cases c2:0+1=a.size
 ·rw[zE (by rw[Ad];exact c2)];exact zQ (fin _ _ .refl (mL C m1 c2))
 rw[pi (by rw[Ad];exact c2)];refine zS (Cy ?_);have j1:Jl κ a b #[b[0]] 0 1:=⟨m1,by omega,by omega,rfl⟩;refine zS (Bf (AW (β:=T0) (Q:=fun c u=>GalS st u∧∃r,c.1=some r∧Mgd κ a b r)
  (fun x c u=>GalS st u∧c.1=none∧Jl κ a b c.2.1 c.2.2.1 c.2.2.2.1∧x<c.2.1.size) ?_ ?_ ⟨.refl,rfl,j1,Nat.zero_lt_one⟩) ?_)
 ·rintro x ⟨_,out,ia,ib,mg⟩ u _ hx ⟨gu,rfl,j,hN⟩;dsimp only;have hN:x<out.size:=hN;refine zS (Bf (AW (β:=T1) (Q:=fun c v=>GalS st v∧((∃r,c.1=some r∧Mgd κ a b r)∨(c.1=none∧Jl κ a b c.2.1 c.2.2.1 c.2.2.2.1∧out.size<c.2.1.size)))
   (fun y c v=>GalS st v∧c.1=none∧Jl κ a b c.2.1 c.2.2.1 c.2.2.2.1∧out.size+y≤c.2.1.size) ?_ ?_ ⟨gu,rfl,j,zD _⟩) ?_)
  ·rintro y ⟨_,CC,ia2,ib2,ac,bc⟩ v _ hy ⟨gv,rfl,j2,hM⟩;dsimp only;have hM:out.size+y≤CC.size:=hM;have i1:ia2+1<a.size:=j2.ia1;have i2:ib2<b.size:=j2.ib1;have sz:CC.size=ia2+ib2:=j2.sz;rw[Yk i2,Yk (show ia2<a.size by omega)];refine zS (zQ (zS (zQ (zS (O1 hc (gv.kn.trans kn) (We C.hb i2) (We C.ha (show ia2<a.size by omega)) ?_)))));dsimp only
   rcases bl:κ.blt (ky κ b[ib2]) (ky κ a[ia2])with _ | _
   ·rw[pi zK];refine zS (zQ ?_);have m:=u_ j2.mi (show ia2<a.size by omega) fun z hz=>by
     obtain⟨n,hn,_⟩:=Vw hz;have q:leK κ a[ia2] b[ib2]:=bl;refine q.trans (C.sb.at (i:=ib2) (j:=ib2+n) (by omega) ?_ ?_)
     ·rw[zL];exact zJ _
     ·rw[zL];exact hn
    have zz:(CC.push (a[ia2]'(by omega))).size=CC.size+1:=Bi _;by_cases d:ia2+1+1=a.size
    ·rw[zE (by rw[Ad];exact d)];exact zQ ⟨gv,.inl ⟨_,rfl,mL C m d⟩⟩
    ·rw[pi (by rw[Ad];exact d)];have j3:Jl κ a b (CC.push (a[ia2]'(by omega))) (ia2+1) ib2:=⟨m,by omega,i2,by rw[zz];omega⟩
     split
     ·exact zQ ⟨gv,.inr ⟨rfl,j3,by show _<(CC.push _).size;omega⟩⟩
     ·exact zQ ⟨gv,rfl,j3,by show _≤(CC.push _).size;omega⟩
   ·rw[zE rfl];refine zS (zQ ?_);have m:=qC j2.mi i2 fun z hz=>by
     obtain⟨n,hn,_⟩:=Vw hz;have q:leK κ b[ib2] a[ia2]:=leK.of bl;refine q.trans (C.sa.at (i:=ia2) (j:=ia2+n) (by omega) ?_ ?_)
     ·rw[zL];exact zJ _
     ·rw[zL];exact hn
    have zz:(CC.push b[ib2]).size=CC.size+1:=Bi _;by_cases d:ib2+1=b.size
    ·rw[zE (by rw[Ad];exact d)];exact zQ ⟨gv,.inl ⟨_,rfl,iI m (.inr d)⟩⟩
    ·rw[pi (by rw[Ad];exact d)];have j3:Jl κ a b (CC.push b[ib2]) ia2 (ib2+1):=⟨m,i1,by omega,by rw[zz];omega⟩
     split
     ·exact zQ ⟨gv,.inr ⟨rfl,j3,by show _<(CC.push _).size;omega⟩⟩
     ·exact zQ ⟨gv,rfl,j3,by show _≤(CC.push _).size;omega⟩
  ·rintro⟨_,CC,ia2,ib2,ac,bc⟩ v ⟨gv,rfl,j2,hM⟩;have hM:out.size+max 0 (a.size+b.size)≤CC.size:=hM;have i1:ia2+1<a.size:=j2.ia1;have i2:ib2<b.size:=j2.ib1;have sz:CC.size=ia2+ib2:=j2.sz;omega
  ·rintro⟨r,CC,ia2,ib2,ac,bc⟩ v ⟨gv,h⟩
   rcases h with⟨m,e,gm⟩|⟨e,j2,hM⟩
   ·have e:r=some m:=e;subst e;exact zQ ⟨gv,m,rfl,gm⟩
   have e:r=none:=e;subst e;have hM:out.size<CC.size:=hM;refine zS (m:=liftM (rule _)) (wpS_lift (Bo ⟨rfl,?_⟩));refine zS (Bf (AW (β:=T2) (Q:=fun c v=>GalS st v∧Rs κ a b out.size c)
    (fun y c v=>GalS st v∧c.1=none∧Jl κ a b c.2.1 c.2.2.1 c.2.2.2.1∧out.size+y<c.2.1.size) ?_ ?_ ⟨gv,rfl,j2,hM⟩) ?_)
   ·rintro y ⟨_,out3,ia3,ib3,mg3,k1,k2⟩ v3 _ hy ⟨g3,rfl,j3,h3⟩;have h3:out.size+y<out3.size:=h3;have upD:∀{c:T2}{v:SortSt},Ps2 κ a b st (out.size+(y+1)) (.done c) v→GalS st v∧Rs κ a b out.size c:=by
     rintro c v ⟨g,h⟩;refine⟨g,?_⟩
     rcases h with h | ⟨h1,h2,h3⟩
     ·exact .inl h
     ·exact .inr ⟨h1,h2,by omega⟩
    show wpS (model prog w) A E s (if mg3 > 1 then lo1 a b out3 ia3 ib3 (mg3-1) k1 k2 else lo1 a b out3 ia3 ib3 mg3 k1 k2) _ v3
    split
    ·refine Bf (rO (N:=out.size+(y+1)) hc kn C g3 j3 (by omega)) fun r v h=>?_;cases r with
     |done c=>exact upD h
     |yield c=>exact h
    ·refine Bf (rO (N:=out.size+(y+1)) hc kn C g3 j3 (by omega)) fun r v h=>?_;cases r with
     |done c=>exact upD h
     |yield c=>exact h
   ·rintro⟨_,out3,ia3,ib3,mg3,k1,k2⟩ v3 ⟨g3,rfl,j3,h3⟩;have h3:out.size+max 0 (a.size+b.size)<out3.size:=h3;have i1:ia3+1<a.size:=j3.ia1;have i2:ib3<b.size:=j3.ib1;have sz:out3.size=ia3+ib3:=j3.sz;omega
   ·rintro⟨r,out3,ia3,ib3,mg3,k1,k2⟩ v3 ⟨g3,h⟩
    rcases h with⟨m,e,gm⟩|⟨e,j3,h3⟩
    ·have e:r=some m:=e;subst e;exact zQ ⟨g3,m,rfl,gm⟩
    ·have e:r=none:=e;subst e;have h3:out.size<out3.size:=h3;dsimp only;rw[Xe];exact zS (B8 (zQ ⟨g3.set _,rfl,j3,by show x+1<out3.size;omega⟩))
 ·rintro⟨_,CC,ia2,ib2,mg⟩ v ⟨gv,rfl,j2,hM⟩;have hM:max 0 (a.size+b.size)<CC.size:=hM;have i1:ia2+1<a.size:=j2.ia1;have i2:ib2<b.size:=j2.ib1;have sz:CC.size=ia2+ib2:=j2.sz;omega
 ·rintro⟨r,CC,ia2,ib2,mg⟩ v ⟨gv,m,e,gm⟩;have e:r=some m:=e;subst e;exact zQ (fin m v gv gm)
end
end L2T
namespace L2T
open PySem PySem.Spec PyProof.Rows L2
def eK:Array Keyed→Array Keyed→StateT SortSt Sem (Array Keyed):=sortPriv% PySem.Builtin.mergeHi
theorem js(a b:Array Keyed):eK a b=(do
 rule "list.sort.merge-hi"
 let total:=a.size+b.size
 let done (out:Array Keyed) (na nb:Nat):=a.extract 0 na++b.extract 0 nb++out.reverse
 let firstOfB (out:Array Keyed) (na nb:Nat):=b.extract 0 nb++a.extract 0 na++out.reverse
 let mut na:=a.size-1
 let mut nb:=b.size
 let mut out:Array Keyed:=#[←elem' a na]
 if na==0 then return done out na nb
 if nb==1 then return firstOfB out na nb
 let mut CT:=gallopOf (←get)
 for _ in [0:total] do
  let mut acount:=0
  let mut bcount:=0
  for _ in [0:total] do
   let some aWins ←lt' (←elem' b (nb-1)) (←elem' a (na-1)) | return done out na nb
   if aWins then
    na:=na-1;out:=out.push (←elem' a na);acount:=acount+1;bcount:=0
    if na==0 then return done out na nb
    if acount ≥ CT then break
   else
    nb:=nb-1;out:=out.push (←elem' b nb);bcount:=bcount+1;acount:=0
    if nb==1 then return firstOfB out na nb
    if bcount ≥ CT then break
  rule "list.sort.gallop"
  CT:=CT+1
  for _ in [0:total] do
   if CT > 1 then CT:=CT-1
   aH CT
   let some at_ ←a9 false (←elem' b (nb-1)) a 0 na (na-1) | return done out na nb
   let k:=na-at_
   acount:=k
   if k > 0 then
    out:=out++(a.extract at_ na).reverse;na:=at_
    if na==0 then return done out na nb
   nb:=nb-1;out:=out.push (←elem' b nb)
   if nb==1 then return firstOfB out na nb
   let some at_ ←a9 true (←elem' a (na-1)) b 0 nb (nb-1) | return done out na nb
   let k:=nb-at_
   bcount:=k
   if k > 0 then
    out:=out++(b.extract at_ nb).reverse;nb:=at_
    if nb==1 then return firstOfB out na nb
    if nb==0 then return done out na nb
   na:=na-1;out:=out.push (←elem' a na)
   if na==0 then return done out na nb
   if acount<7 && bcount<7 then break
  CT:=CT+1
  aH CT
 unsupported "internal:list.sort.merge-bound"):=rfl
section
variable{prog:Program}{w:World}{A:Around}{E:Value→Shared→Prop}{s:Shared}{κ:KeyKind}{kd:SortKind}{st:SortSt}
theorem Ng{xs:Array Keyed}{i:Nat}(h:i<xs.size):xs.toList.take (i+1)=xs.toList.take i++[xs[i]]:=by
 rw[List.take_add_one,zL,zJ h];rfl
theorem Sf(xs:Array Keyed)(n:Nat):(xs.extract 0 n).toList=xs.toList.take n:=by
 rw[BV,Bl];rfl
theorem iC(xs:Array Keyed)(i n:Nat):(xs.extract i n).toList=(xs.toList.take n).drop i:=by
 rw[BV,Bl,List.drop_take]
theorem Qs{l:List Keyed}{i n:Nat}(h:i≤n):l.take n=l.take i++(l.take n).drop i:=by
 have e:=AM i (l.take n);rw[List.take_take,Nat.min_eq_left h]at e;exact e.symm
theorem Uy{xs:Array Keyed}{n:Nat}{y:Keyed}(h:y∈xs.toList.take n):∃j,xs[j]?=some y∧j<n∧j<xs.size:=by
 obtain⟨j,hj⟩:=A9.mp h;rw[AK]at hj
 split at hj
 ·next c=>
  rw[zL]at hj;exact⟨j,hj,c,(BL.mp hj).1⟩
 ·cases hj
theorem lQ{xs:Array Keyed}{i n:Nat}{y:Keyed}(h:y∈(xs.toList.take n).drop i):∃j,xs[j]?=some y∧i≤j∧j<n∧j<xs.size:=by
 obtain⟨j,hj⟩:=A9.mp h;rw[A1,AK]at hj
 split at hj
 ·next c=>
  rw[zL]at hj;exact⟨i+j,hj,by omega,c,(BL.mp hj).1⟩
 ·cases hj
abbrev dnH(a b out:Array Keyed)(na nb:Nat):Array Keyed:=a.extract 0 na++b.extract 0 nb++out.reverse
abbrev fbH(a b out:Array Keyed)(na nb:Nat):Array Keyed:=b.extract 0 nb++a.extract 0 na++out.reverse
abbrev H2:Type:=Option (Array Keyed)×Nat×Nat×Array Keyed×Nat×Nat×Nat
abbrev H1:Type:=Option (Array Keyed)×Nat×Nat×Array Keyed×Nat×Nat
abbrev H0:Type:=Option (Array Keyed)×Nat×Nat×Array Keyed×Nat
def hi3(a b out:Array Keyed)(na nb mg k1 k2:Nat):StateT SortSt Sem (ForInStep H2):=do
 let x ←elem' a (na-1)
 if (na-1==0)=true then pure (.done (some (dnH a b (out.push x) (na-1) nb),na-1,nb,out.push x,mg,k1,k2))
 else if (decide (k1<7) && decide (k2<7))=true then pure (.done (none,na-1,nb,out.push x,mg,k1,k2))
 else pure (.yield (none,na-1,nb,out.push x,mg,k1,k2))
def hi2(a b out:Array Keyed)(na nb mg k1 k20:Nat):StateT SortSt Sem (ForInStep H2):=do
 let x ←elem' b (nb-1)
 if (nb-1==1)=true then pure (.done (some (fbH a b (out.push x) na (nb-1)),na,nb-1,out.push x,mg,k1,k20))
 else do
  let y ←elem' a (na-1)
  let r ←a9 true y b 0 (nb-1) (nb-1-1)
  match r with
  |some k=>
   if nb-1-k > 0 then
    if (k==1)=true then pure (.done (some (fbH a b (out.push x++(b.extract k (nb-1)).reverse) na k),na,k,out.push x++(b.extract k (nb-1)).reverse,mg,k1,nb-1-k))
    else if (k==0)=true then pure (.done (some (dnH a b (out.push x++(b.extract k (nb-1)).reverse) na k),na,k,out.push x++(b.extract k (nb-1)).reverse,mg,k1,nb-1-k))
    else hi3 a b (out.push x++(b.extract k (nb-1)).reverse) na k mg k1 (nb-1-k)
   else hi3 a b (out.push x) na (nb-1) mg k1 (nb-1-k)
  |_=>pure (.done (some (dnH a b (out.push x) na (nb-1)),na,nb-1,out.push x,mg,k1,k20))
def hi1(a b out:Array Keyed)(na nb mg k10 k20:Nat):StateT SortSt Sem (ForInStep H2):=do
 aH mg
 let x ←elem' b (nb-1)
 let r ←a9 false x a 0 na (na-1)
 match r with
 |some k=>
  if na-k > 0 then
   if (k==0)=true then pure (.done (some (dnH a b (out++(a.extract k na).reverse) k nb),k,nb,out++(a.extract k na).reverse,mg,na-k,k20))
   else hi2 a b (out++(a.extract k na).reverse) k nb mg (na-k) k20
  else hi2 a b out na nb mg (na-k) k20
 |_=>pure (.done (some (dnH a b out na nb),na,nb,out,mg,k10,k20))
structure HiC(κ:KeyKind)(a b:Array Keyed):Prop where
 ha:KeysOf κ a
 hb:KeysOf κ b
 sa:Srt κ a.toList
 sb:Srt κ b.toList
 h0:∀x∈b.toList.take 1,∀y∈a.toList,leK κ x y
structure Jh(κ:KeyKind)(a b out:Array Keyed)(na nb:Nat):Prop where
 mi:Mh κ (a.toList++b.toList) out.toList.reverse (a.toList.take na) (b.toList.take nb)
 na1:0<na
 na2:na<a.size
 nb1:1<nb
 nb2:nb≤b.size
 sz:out.size+na+nb=a.size+b.size
def RsH(κ:KeyKind)(a b:Array Keyed)(N:Nat)(c:H2):Prop:=(∃r,c.1=some r∧Mgd κ a b r)∨(c.1=none∧Jh κ a b c.2.2.2.1 c.2.1 c.2.2.1∧N<c.2.2.2.1.size)
def PsH(κ:KeyKind)(a b:Array Keyed)(st:SortSt)(N:Nat):ForInStep H2→SortSt→Prop:=fun r u=>GalS st u∧match r with
 |.done c=>RsH κ a b N c
 |.yield c=>c.1=none∧Jh κ a b c.2.2.2.1 c.2.1 c.2.2.1∧N<c.2.2.2.1.size
theorem Pn{a b out:Array Keyed}{na nb:Nat}(h:Mh κ (a.toList++b.toList) out.toList.reverse (a.toList.take na) (b.toList.take nb))(e:na=0∨nb=0):Mgd κ a b (dnH a b out na nb):=by
 have q:=h.fin fun x hx y hy=>by
  rcases e with rfl | rfl
  ·rw[List.take_zero]at hx;cases hx
  ·rw[List.take_zero]at hy;cases hy
 unfold Mgd dnH;rw[AD,AD,Sf,Sf,Cm];exact q
theorem gi{a b out:Array Keyed}{na nb:Nat}(C:HiC κ a b)(h:Mh κ (a.toList++b.toList) out.toList.reverse (a.toList.take na) (b.toList.take nb))(e:nb=1):Mgd κ a b (fbH a b out na nb):=by
 subst e;have q:=h.sw.fin fun x hx y hy=>C.h0 x hx y (A2 hy);unfold Mgd fbH;rw[AD,AD,Sf,Sf,Cm];exact q
theorem uW{a b out:Array Keyed}{na nb:Nat}(h:Mh κ (a.toList++b.toList) out.toList.reverse (a.toList.take na) (b.toList.take nb))(h0:0<nb)(hb:nb≤b.size)(hl:∀y∈a.toList.take na,leK κ y (b[nb-1]'(by omega))):Mh κ (a.toList++b.toList) (out.push (b[nb-1]'(by omega))).toList.reverse (a.toList.take na) (b.toList.take (nb-1)):=by
 have e:=Ng (xs:=b) (i:=nb-1) (by omega);rw[show nb-1+1=nb by omega]at e;rw[e]at h;rw[Ci,List.reverse_append];exact h.b fun x hx y hy=>by rw[zG.mp hx];exact hl y hy
theorem oX{a b out:Array Keyed}{na nb:Nat}(h:Mh κ (a.toList++b.toList) out.toList.reverse (a.toList.take na) (b.toList.take nb))(h0:0<na)(ha:na≤a.size)(hl:∀y∈b.toList.take nb,leK κ y (a[na-1]'(by omega))):Mh κ (a.toList++b.toList) (out.push (a[na-1]'(by omega))).toList.reverse (a.toList.take (na-1)) (b.toList.take nb):=by
 have e:=Ng (xs:=a) (i:=na-1) (by omega);rw[show na-1+1=na by omega]at e;rw[e]at h;rw[Ci,List.reverse_append];exact h.a fun x hx y hy=>by rw[zG.mp hx];exact hl y hy
theorem qf{a b out:Array Keyed}{na nb mg k1 k2 N:Nat}{u:SortSt}(C:HiC κ a b)(gu:GalS st u)(j:Jh κ a b out na nb)(hN:N≤out.size)(hl:∀y∈b.toList.take nb,leK κ y (a[na-1]'(by have:=j.na1;have:=j.na2;omega))):wpS (model prog w) A E s (hi3 a b out na nb mg k1 k2) (PsH κ a b st N) u:=by
 have i1:=j.na1;have i2:=j.na2;unfold hi3;rw[Yk (show na-1<a.size by omega)];refine zS (zQ ?_);have m:=oX j.mi i1 (by omega) hl;have sz:=j.sz;have zz:(out.push (a[na-1]'(by omega))).size=out.size+1:=Bi _;by_cases c:na-1=0
 ·rw[zE (by rw[Ad];exact c)];exact zQ ⟨gu,.inl ⟨_,rfl,Pn m (.inl c)⟩⟩
 ·rw[pi (by rw[Ad];exact c)];have j2:Jh κ a b (out.push (a[na-1]'(by omega))) (na-1) nb:=⟨m,by omega,by omega,j.nb1,j.nb2,by rw[zz];omega⟩
  split
  ·exact zQ ⟨gu,.inr ⟨rfl,j2,by show N<(out.push _).size;omega⟩⟩
  ·exact zQ ⟨gu,rfl,j2,by show N<(out.push _).size;omega⟩
theorem qW{a b out:Array Keyed}{na nb mg k1 k2 N:Nat}{u:SortSt}(hc:aX prog w A s κ kd)(kn:kindOf st=kd)(C:HiC κ a b)(gu:GalS st u)(j:Jh κ a b out na nb)(hN:N≤out.size)(hl:∀y∈a.toList.take na,leK κ y (b[nb-1]'(by have:=j.nb1;have:=j.nb2;omega))):wpS (model prog w) A E s (hi2 a b out na nb mg k1 k2) (PsH κ a b st N) u:=by
 have i1:=j.na1;have i2:=j.na2;have i3:=j.nb1;have i4:=j.nb2;unfold hi2;rw[Yk (show nb-1<b.size by omega)];refine zS (zQ ?_);have m:=uW j.mi (by omega) i4 hl;have sz:=j.sz;have zz:(out.push (b[nb-1]'(by omega))).size=out.size+1:=Bi _;by_cases c:nb-1=1
 ·rw[zE (by rw[Ad];exact c)];exact zQ ⟨gu,.inl ⟨_,rfl,gi C m c⟩⟩
 rw[pi (by rw[Ad];exact c),Yk (show na-1<a.size by omega)];refine zS (zQ ?_);refine zS (Wo hc (gu.kn.trans kn) C.hb (We C.ha (show na-1<a.size by omega)) (by omega) (by omega) (C.sb.sublist ((Cg _ _).trans (List.drop_sublist _ _))) fun k hk g1 g2=>?_);have gea:∀x∈(b.toList.take (nb-1)).drop k,∀y∈a.toList.take na,leK κ y x:=by
  intro x hx y hy;obtain⟨i,hi,ki,ib,_⟩:=lQ hx;have q:κ.blt (ky κ x) (ky κ a[na-1])=false:=g2 i x ki ib (by rw[Bs];exact hi);obtain⟨n,hn,nn,_⟩:=Uy hy;have q2:leK κ a[na-1] x:=q;refine leK.trans (C.sa.at (i:=n) (j:=na-1) (by omega) ?_ ?_) q2
  ·rw[zL];exact hn
  ·rw[zL];exact zJ _
 have lta:∀y∈b.toList.take k,leK κ y a[na-1]:=by
  intro y hy;obtain⟨n,hn,nn,_⟩:=Uy hy;have q:κ.blt (ky κ y) (ky κ a[na-1])=true:=g1 n y nn (by rw[Bs];exact hn);exact leK.of q
 dsimp only;have m2:Mh κ (a.toList++b.toList) (out.push (b[nb-1]'(by omega))++(b.extract k (nb-1)).reverse).toList.reverse (a.toList.take na) (b.toList.take k):=by
  rw[AD,List.reverse_append,Cm,List.reverse_reverse,iC];rw[Qs (l:=b.toList) hk]at m;exact m.b gea
 have z2:(out.push (b[nb-1]'(by omega))++(b.extract k (nb-1)).reverse).size=out.size+1+(nb-1-k):=by
  rw[Array.size_append,Array.size_reverse,BM,zz];omega
 by_cases k0:nb-1-k > 0
 ·rw[zE k0];by_cases c2:k=1
  ·rw[zE (by rw[Ad];exact c2)];exact zQ ⟨gu,.inl ⟨_,rfl,gi C m2 c2⟩⟩
  rw[pi (by rw[Ad];exact c2)];by_cases c3:k=0
  ·rw[zE (by rw[Ad];exact c3)];exact zQ ⟨gu,.inl ⟨_,rfl,Pn m2 (.inr c3)⟩⟩
  ·rw[pi (by rw[Ad];exact c3)];exact qf C gu ⟨m2,i1,i2,by omega,by omega,by rw[z2];omega⟩ (by omega) lta
 ·rw[pi k0];obtain rfl:k=nb-1:=by omega
  exact qf C gu ⟨m,i1,i2,by omega,by omega,by rw[zz];omega⟩ (by omega) lta
theorem qQ{a b out:Array Keyed}{na nb mg k1 k2 N:Nat}{u:SortSt}(hc:aX prog w A s κ kd)(kn:kindOf st=kd)(C:HiC κ a b)(gu:GalS st u)(j:Jh κ a b out na nb)(hN:N≤out.size):wpS (model prog w) A E s (hi1 a b out na nb mg k1 k2) (PsH κ a b st N) u:=by
 have i1:=j.na1;have i2:=j.na2;have i3:=j.nb1;have i4:=j.nb2;have sz:=j.sz;have m:=j.mi;unfold hi1;rw[Xe];refine zS (B8 ?_);have gu:=gu.set mg;rw[Yk (show nb-1<b.size by omega)];refine zS (zQ ?_);refine zS (Wo hc (gu.kn.trans kn) C.ha (We C.hb (show nb-1<b.size by omega)) (by omega) (by omega) (C.sa.sublist ((Cg _ _).trans (List.drop_sublist _ _))) fun k hk g1 g2=>?_);have gtb:∀x∈(a.toList.take na).drop k,∀y∈b.toList.take nb,leK κ y x:=by
  intro x hx y hy;obtain⟨i,hi,ki,ib,_⟩:=lQ hx;have q:=g2 i x ki ib (by rw[Bs];exact hi);unfold bey at q;rw[pi zK,Bool.not_eq_false']at q;obtain⟨n,hn,nn,_⟩:=Uy hy;refine leK.trans (C.sb.at (i:=n) (j:=nb-1) (by omega) ?_ ?_) (leK.of q)
  ·rw[zL];exact hn
  ·rw[zL];exact zJ _
 have leb:∀y∈a.toList.take k,leK κ y b[nb-1]:=by
  intro y hy;obtain⟨n,hn,nn,_⟩:=Uy hy;have q:=g1 n y nn (by rw[Bs];exact hn);unfold bey at q;rw[pi zK,BU]at q;exact q
 dsimp only;have m2:Mh κ (a.toList++b.toList) (out++(a.extract k na).reverse).toList.reverse (a.toList.take k) (b.toList.take nb):=by
  rw[AD,List.reverse_append,Cm,List.reverse_reverse,iC];rw[Qs (l:=a.toList) hk]at m;exact m.a gtb
 have z2:(out++(a.extract k na).reverse).size=out.size+(na-k):=by
  rw[Array.size_append,Array.size_reverse,BM];omega
 by_cases k0:na-k > 0
 ·rw[zE k0];by_cases c2:k=0
  ·rw[zE (by rw[Ad];exact c2)];exact zQ ⟨gu,.inl ⟨_,rfl,Pn m2 (.inl c2)⟩⟩
  ·rw[pi (by rw[Ad];exact c2)];exact qW hc kn C gu ⟨m2,by omega,by omega,i3,i4,by rw[z2];omega⟩ (by omega) leb
 ·rw[pi k0];obtain rfl:k=na:=by omega
  exact qW hc kn C gu j hN leb
theorem kW{a b:Array Keyed}{Q:Array Keyed→SortSt→Prop}(hc:aX prog w A s κ kd)(kn:kindOf st=kd)(C:HiC κ a b)(a1:0<a.size)(b1:0<b.size)(h1:∀y∈b.toList,leK κ y (a[a.size-1]'(by omega)))(fin:∀(m:Array Keyed) (u:SortSt),GalS st u→Mgd κ a b m→Q m u):wpS (model prog w) A E s (eK a b) Q st:=by
 rw[js];refine zS (m:=liftM (rule _)) (wpS_lift (Bo ⟨rfl,?_⟩));dsimp only;rw[Yk (show a.size-1<a.size by omega)];refine zS (zQ ?_);have m0:Mh κ (a.toList++b.toList) (#[]:Array Keyed).toList.reverse (a.toList.take a.size) (b.toList.take b.size):=by
  rw[Bg (by rw[zU];exact zD _),Bg (by rw[zU];exact zD _)];exact⟨by rw[List.reverse_nil,Aw],List.Pairwise.nil,C.sa,C.sb,fun _ _ _ h=>nomatch h⟩
 have m1:Mh κ (a.toList++b.toList) #[a[a.size-1]].toList.reverse (a.toList.take (a.size-1)) (b.toList.take b.size):=oX m0 a1 (zD _) fun y hy=>h1 y (A2 hy);by_cases c:a.size-1=0
 ·rw[zE (by rw[Ad];exact c)];exact zQ (fin _ _ .refl (Pn m1 (.inl c)))
 rw[pi (by rw[Ad];exact c)];by_cases c2:b.size=1
 ·rw[zE (by rw[Ad];exact c2)];exact zQ (fin _ _ .refl (gi C m1 c2))
 rw[pi (by rw[Ad];exact c2)];refine zS (Cy ?_);have j1:Jh κ a b #[a[a.size-1]] (a.size-1) b.size:=⟨m1,by omega,by omega,by omega,by omega,by show 1+(a.size-1)+b.size=_;omega⟩;refine zS (Bf (AW (β:=H0) (Q:=fun c u=>GalS st u∧∃r,c.1=some r∧Mgd κ a b r)
  (fun x c u=>GalS st u∧c.1=none∧Jh κ a b c.2.2.2.1 c.2.1 c.2.2.1∧x<c.2.2.2.1.size) ?_ ?_ ⟨.refl,rfl,j1,Nat.zero_lt_one⟩) ?_)
 ·rintro x ⟨_,na,nb,out,mg⟩ u _ hx ⟨gu,rfl,j,hN⟩;dsimp only;have hN:x<out.size:=hN;refine zS (Bf (AW (β:=H1) (Q:=fun c v=>GalS st v∧((∃r,c.1=some r∧Mgd κ a b r)∨(c.1=none∧Jh κ a b c.2.2.2.1 c.2.1 c.2.2.1∧out.size<c.2.2.2.1.size)))
   (fun y c v=>GalS st v∧c.1=none∧Jh κ a b c.2.2.2.1 c.2.1 c.2.2.1∧out.size+y≤c.2.2.2.1.size) ?_ ?_ ⟨gu,rfl,j,zD _⟩) ?_)
  ·rintro y ⟨_,na2,nb2,CC,ac,bc⟩ v _ hy ⟨gv,rfl,j2,hM⟩;dsimp only;have hM:out.size+y≤CC.size:=hM;have i1:0<na2:=j2.na1;have i2:na2<a.size:=j2.na2;have i3:1<nb2:=j2.nb1;have i4:nb2≤b.size:=j2.nb2;have sz:CC.size+na2+nb2=a.size+b.size:=j2.sz;have mi2:Mh κ (a.toList++b.toList) CC.toList.reverse (a.toList.take na2) (b.toList.take nb2):=j2.mi;rw[Yk (show nb2-1<b.size by omega),Yk (show na2-1<a.size by omega)];refine zS (zQ (zS (zQ (zS (O1 hc (gv.kn.trans kn) (We C.hb (show nb2-1<b.size by omega)) (We C.ha (show na2-1<a.size by omega)) ?_)))));dsimp only
   rcases bl:κ.blt (ky κ b[nb2-1]) (ky κ a[na2-1])with _ | _
   ·rw[pi zK];refine zS (zQ ?_);have m:=uW mi2 (by omega) i4 fun z hz=>by
     obtain⟨n,hn,nn,_⟩:=Uy hz;have q:leK κ a[na2-1] b[nb2-1]:=bl;refine leK.trans (C.sa.at (i:=n) (j:=na2-1) (by omega) ?_ ?_) q
     ·rw[zL];exact hn
     ·rw[zL];exact zJ _
    have zz:(CC.push (b[nb2-1]'(by omega))).size=CC.size+1:=Bi _;by_cases d:nb2-1=1
    ·rw[zE (by rw[Ad];exact d)];exact zQ ⟨gv,.inl ⟨_,rfl,gi C m d⟩⟩
    ·rw[pi (by rw[Ad];exact d)];have j3:Jh κ a b (CC.push (b[nb2-1]'(by omega))) na2 (nb2-1):=⟨m,i1,i2,by omega,by omega,by rw[zz];omega⟩
     split
     ·exact zQ ⟨gv,.inr ⟨rfl,j3,by show _<(CC.push _).size;omega⟩⟩
     ·exact zQ ⟨gv,rfl,j3,by show _≤(CC.push _).size;omega⟩
   ·rw[zE rfl];refine zS (zQ ?_);have m:=oX mi2 i1 (by omega) fun z hz=>by
     obtain⟨n,hn,nn,_⟩:=Uy hz;have q:leK κ b[nb2-1] a[na2-1]:=leK.of bl;refine leK.trans (C.sb.at (i:=n) (j:=nb2-1) (by omega) ?_ ?_) q
     ·rw[zL];exact hn
     ·rw[zL];exact zJ _
    have zz:(CC.push (a[na2-1]'(by omega))).size=CC.size+1:=Bi _;by_cases d:na2-1=0
    ·rw[zE (by rw[Ad];exact d)];exact zQ ⟨gv,.inl ⟨_,rfl,Pn m (.inl d)⟩⟩
    ·rw[pi (by rw[Ad];exact d)];have j3:Jh κ a b (CC.push (a[na2-1]'(by omega))) (na2-1) nb2:=⟨m,by omega,by omega,i3,i4,by rw[zz];omega⟩
     split
     ·exact zQ ⟨gv,.inr ⟨rfl,j3,by show _<(CC.push _).size;omega⟩⟩
     ·exact zQ ⟨gv,rfl,j3,by show _≤(CC.push _).size;omega⟩
  ·rintro⟨_,na2,nb2,CC,ac,bc⟩ v ⟨gv,rfl,j2,hM⟩;have hM:out.size+max 0 (a.size+b.size)≤CC.size:=hM;have i1:0<na2:=j2.na1;have sz:CC.size+na2+nb2=a.size+b.size:=j2.sz;omega
  ·rintro⟨r,na2,nb2,CC,ac,bc⟩ v ⟨gv,h⟩
   rcases h with⟨m,e,gm⟩|⟨e,j2,hM⟩
   ·have e:r=some m:=e;subst e;exact zQ ⟨gv,m,rfl,gm⟩
   have e:r=none:=e;subst e;have hM:out.size<CC.size:=hM;refine zS (m:=liftM (rule _)) (wpS_lift (Bo ⟨rfl,?_⟩));refine zS (Bf (AW (β:=H2) (Q:=fun c v=>GalS st v∧RsH κ a b out.size c)
    (fun y c v=>GalS st v∧c.1=none∧Jh κ a b c.2.2.2.1 c.2.1 c.2.2.1∧out.size+y<c.2.2.2.1.size) ?_ ?_ ⟨gv,rfl,j2,hM⟩) ?_)
   ·rintro y ⟨_,na3,nb3,out3,mg3,k1,k2⟩ v3 _ hy ⟨g3,rfl,j3,h3⟩;have h3:out.size+y<out3.size:=h3;have upD:∀{c:H2}{v:SortSt},PsH κ a b st (out.size+(y+1)) (.done c) v→GalS st v∧RsH κ a b out.size c:=by
     rintro c v ⟨g,h⟩;refine⟨g,?_⟩
     rcases h with h | ⟨h1,h2,h3⟩
     ·exact .inl h
     ·exact .inr ⟨h1,h2,by omega⟩
    show wpS (model prog w) A E s (if mg3 > 1 then hi1 a b out3 na3 nb3 (mg3-1) k1 k2 else hi1 a b out3 na3 nb3 mg3 k1 k2) _ v3
    split
    ·refine Bf (qQ (N:=out.size+(y+1)) hc kn C g3 j3 (by omega)) fun r v h=>?_;cases r with
     |done c=>exact upD h
     |yield c=>exact h
    ·refine Bf (qQ (N:=out.size+(y+1)) hc kn C g3 j3 (by omega)) fun r v h=>?_;cases r with
     |done c=>exact upD h
     |yield c=>exact h
   ·rintro⟨_,na3,nb3,out3,mg3,k1,k2⟩ v3 ⟨g3,rfl,j3,h3⟩;have h3:out.size+max 0 (a.size+b.size)<out3.size:=h3;have sz:out3.size+na3+nb3=a.size+b.size:=j3.sz;omega
   ·rintro⟨r,na3,nb3,out3,mg3,k1,k2⟩ v3 ⟨g3,h⟩
    rcases h with⟨m,e,gm⟩|⟨e,j3,h3⟩
    ·have e:r=some m:=e;subst e;exact zQ ⟨g3,m,rfl,gm⟩
    ·have e:r=none:=e;subst e;have h3:out.size<out3.size:=h3;dsimp only;rw[Xe];exact zS (B8 (zQ ⟨g3.set _,rfl,j3,by show x+1<out3.size;omega⟩))
 ·rintro⟨_,na2,nb2,CC,mg⟩ v ⟨gv,rfl,j2,hM⟩;have hM:max 0 (a.size+b.size)<CC.size:=hM;have sz:CC.size+na2+nb2=a.size+b.size:=j2.sz;omega
 ·rintro⟨r,na2,nb2,CC,mg⟩ v ⟨gv,m,e,gm⟩;have e:r=some m:=e;subst e;exact zQ (fin m v gv gm)
end
end L2T
namespace L2T
open PySem PySem.Spec PyProof.Rows L2
theorem uI(off:Nat):∀(m:List Keyed)(n:Nat)(arr:Array Keyed),off+n+m.length≤arr.size→
  ((m.zipIdx n).foldl (fun a (x:Keyed×Nat)=>a.setIfInBounds (off+x.2) x.1) arr).toList=arr.toList.take (off+n)++m++arr.toList.drop (off+n+m.length):=by
 intro m
 induction m with
 |nil=>
  intro n arr h;rw[List.zipIdx_nil,List.foldl_nil,Aw,AO,Nat.add_zero,AM]
 |cons p m ih=>
  intro n arr h;rw[Ak]at h;rw[List.zipIdx_cons,BA,ih (n+1) _ (by rw[Array.size_setIfInBounds];omega),Array.toList_setIfInBounds];have e1:(arr.toList.set (off+n) p).take (off+(n+1))=arr.toList.take (off+n)++[p]:=by
   rw[←BW,List.take_add_one,List.getElem?_set_self (by rw[zU];omega),List.take_set_of_le (zD _)];rfl
  have e2:(arr.toList.set (off+n) p).drop (off+(n+1)+m.length)=arr.toList.drop (off+n+(p::m).length):=by
   rw[List.drop_set_of_lt (by omega),Ak]
   congr 1
   omega
  rw[e1,e2,Ag (arr.toList.take (off+n)) [p] m];rfl
theorem Vp(l:List Keyed)(i k m:Nat):(l.drop i).take (k+m)=(l.drop i).take k++(l.drop (i+k)).take m:=by
 rw[List.take_add,Ck]
theorem rq{arr:Array Keyed}{i n j:Nat}(hj:j<n)(h:i+j<arr.size):((arr.toList.drop i).take n)[j]?=some arr[i+j]:=by
 rw[AK,zE hj,A1,zL];exact zJ h
theorem gy(xs:Array Keyed)(i j:Nat):(xs.extract i j).toList=(xs.toList.drop i).take (j-i):=by
 rw[BV,Bl]
def jh(i:Nat):StateT SortSt Sem Bool:=do
 let s ←get
 let (some (sa,na,power),some (sb,nb,_)):=((pendingOf s)[i]?,(pendingOf s)[i+1]?) | unsupported "internal:list.sort.pending"
 set (setPending s (((pendingOf s).setIfInBounds i (sa,na+nb,power)).eraseIdxIfInBounds (i+1)))
 let some k ←a9 false (←elem' (arrOf s) sb) (arrOf s) sa na 0 | return false
 let (sa,na):=(sa+k,na-k)
 if na==0 then return true
 let some nb ←a9 true (←elem' (arrOf s) (sa+na-1)) (arrOf s) sb nb (nb-1) | return false
 if nb==0 then return true
 let x:=(arrOf s).extract sa sb
 let y:=(arrOf s).extract sb (sb+nb)
 let merged ←if na≤nb then eO x y else eK x y
 modify fun s=>setArr s (merged.toList.zipIdx.foldl (fun a (p,j)=>a.setIfInBounds (sa+j) p) (arrOf s))
 return (failedOf (←get)).isNone
theorem hG(i:Nat):mergeAt' i=jh i:=rfl
section
variable{prog:Program}{w:World}{A:Around}{E:Value→Shared→Prop}{s:Shared}{κ:KeyKind}{kd:SortKind}{st:SortSt}
theorem tY{σ:Type}{M:Model}{x:σ}{Q:PUnit→σ→Prop}{u:σ}(h:Q ⟨⟩ x):wpS M A E s (set x:StateT σ Sem PUnit) Q u:=by
 unfold wpS;rw[StateT.run_set];exact zC ⟨rfl,h⟩
theorem Sv{xs:Array Keyed}(h:KeysOf κ xs)(i j:Nat):KeysOf κ (xs.extract i j):=fun p hp=>by
 rw[gy]at hp;exact h p (List.mem_of_mem_drop (A2 hp))
structure MAt(κ:KeyKind)(st u:SortSt)(i sa na nb pw:Nat):Prop where
 kn:kindOf u=kindOf st
 fl:failedOf u=none
 pd:pendingOf u=((pendingOf st).setIfInBounds i (sa,na+nb,pw)).eraseIdxIfInBounds (i+1)
 arr:∃M,(arrOf u).toList=(arrOf st).toList.take sa++M++(arrOf st).toList.drop (sa+na+nb)∧M.Perm (((arrOf st).toList.drop sa).take (na+nb))∧Srt κ M
theorem kD{i sa na nb pw pw2:Nat}{Q:Bool→SortSt→Prop}(hc:aX prog w A s κ kd)(kn:kindOf st=kd)(fl:failedOf st=none)(hk:KeysOf κ (arrOf st))(p1:(pendingOf st)[i]?=some (sa,na,pw))(p2:(pendingOf st)[i+1]?=some (sa+na,nb,pw2))(na1:0<na)(nb1:0<nb)(hs:sa+na+nb≤(arrOf st).size)(so1:Srt κ (((arrOf st).toList.drop sa).take na))(so2:Srt κ (((arrOf st).toList.drop (sa+na)).take nb))(fin:∀u,MAt κ st u i sa na nb pw→Q true u):wpS (model prog w) A E s (mergeAt' i) Q st:=by
 rw[hG];unfold jh;refine zS (Cy ?_);rw[p1,p2];dsimp only;refine zS (tY ?_);generalize hst':setPending st (((pendingOf st).setIfInBounds i (sa,na+nb,pw)).eraseIdxIfInBounds (i+1))=CP;have kn':kindOf CP=kd:=by rw[←hst'];exact kn
 have ar':arrOf CP=arrOf st:=by rw[←hst']
 have fl':failedOf CP=none:=by rw[←hst'];exact fl
 have pd':pendingOf CP=((pendingOf st).setIfInBounds i (sa,na+nb,pw)).eraseIdxIfInBounds (i+1):=by rw[←hst']
 generalize hx:arrOf st=xs at hk hs so1 so2 ar'⊢;have done:∀(u:SortSt)(M:List Keyed),kindOf u=kd→failedOf u=none→pendingOf u=pendingOf CP→(arrOf u).toList=xs.toList.take sa++M++xs.toList.drop (sa+na+nb)→M.Perm ((xs.toList.drop sa).take (na+nb))→Srt κ M→Q true u:=fun u M a1 a2 a3 a4 a5 a6=>
  fin u ⟨a1.trans kn.symm,a2,a3.trans pd',M,by rw[hx];exact a4,by rw[hx];exact a5,a6⟩
 have whole:xs.toList=xs.toList.take sa++((xs.toList.drop sa).take na++(xs.toList.drop (sa+na)).take nb)++xs.toList.drop (sa+na+nb):=by
  rw[←Vp,BW,←Ck,Ag,AM,AM]
 have asis:Srt κ ((xs.toList.drop sa).take na++(xs.toList.drop (sa+na)).take nb)→Q true CP:=fun h=>
  done CP _ kn' fl' rfl (by rw[ar'];exact whole) (by rw[Vp]) h
 have sb:sa+na<xs.size:=by omega
 rw[Yk sb];refine zS (zQ ?_);have b0le:∀y∈(xs.toList.drop (sa+na)).take nb,leK κ xs[sa+na] y:=fun y hy=>by
  obtain⟨j,hj⟩:=A9.mp hy;exact so2.at (i:=0) (j:=j) (BI _) (rq nb1 sb) hj
 refine zS (Wo hc kn' hk (We hk sb) na1 (by omega) so1 fun k hkn g1 g2=>?_);dsimp only;have f1:∀x∈(xs.toList.drop sa).take k,leK κ x xs[sa+na]:=fun x hx=>by
  obtain⟨j,hj,jk,_⟩:=Vm hx;have q:=g1 j x jk hj;unfold bey at q;rw[pi zK,BU]at q;exact q
 have f2:∀x∈(xs.toList.drop (sa+k)).take (na-k),leK κ xs[sa+na] x:=fun x hx=>by
  obtain⟨j,hj,jk,_⟩:=Vm hx;have q:=g2 (k+j) x (by omega) (by omega) (by rw[←BW];exact hj);unfold bey at q;rw[pi zK,Bool.not_eq_false']at q;exact leK.of q
 by_cases c:na-k=0
 ·rw[zE (by rw[Ad];exact c)];obtain rfl:k=na:=by omega
  exact zQ (asis (Aq.mpr ⟨so1,so2,fun x hx y hy=>(f1 x hx).trans (b0le y hy)⟩))
 rw[pi (by rw[Ad];exact c)];have el:sa+k+(na-k)-1=sa+na-1:=by omega
 have lt:sa+na-1<xs.size:=by omega
 rw[el,Yk lt];refine zS (zQ ?_);have lale:∀x∈(xs.toList.drop sa).take na,leK κ x xs[sa+na-1]:=fun x hx=>by
  obtain⟨j,hj⟩:=A9.mp hx;have jl:=(zM.mp hj).1;rw[z5]at jl;refine so1.at (i:=j) (j:=na-1) (by omega) hj ?_;rw[rq (show na-1<na by omega) (show sa+(na-1)<xs.size by omega)]
  congr 1
  congr 1
  omega
 refine zS (Wo hc kn' hk (We hk lt) (by omega) (by omega) so2 fun m hm g3 g4=>?_);dsimp only;have f3:∀x∈(xs.toList.drop (sa+na)).take m,leK κ x xs[sa+na-1]:=fun x hx=>by
  obtain⟨j,hj,jk,_⟩:=Vm hx;have q:κ.blt (ky κ x) (ky κ xs[sa+na-1])=true:=g3 j x jk hj;exact leK.of q
 have f4:∀x∈(xs.toList.drop (sa+na+m)).take (nb-m),leK κ xs[sa+na-1] x:=fun x hx=>by
  obtain⟨j,hj,jk,_⟩:=Vm hx;have q:κ.blt (ky κ x) (ky κ xs[sa+na-1])=false:=g4 (m+j) x (by omega) (by omega) (by rw[←BW];exact hj);exact q
 by_cases c2:m=0
 ·rw[zE (by rw[Ad];exact c2)];subst c2;refine zQ (asis (Aq.mpr ⟨so1,so2,fun x hx y hy=>(lale x hx).trans (f4 y ?_)⟩));exact hy
 rw[pi (by rw[Ad];exact c2)];have e1:(xs.toList.drop sa).take na=(xs.toList.drop sa).take k++(xs.toList.drop (sa+k)).take (na-k):=by
  rw[←Vp,Nat.add_sub_cancel' hkn]
 have e2:(xs.toList.drop (sa+na)).take nb=(xs.toList.drop (sa+na)).take m++(xs.toList.drop (sa+na+m)).take (nb-m):=by
  rw[←Vp,Nat.add_sub_cancel' hm]
 have x1:(xs.extract (sa+k) (sa+na)).toList=(xs.toList.drop (sa+k)).take (na-k):=by
  rw[gy,show sa+na-(sa+k)=na-k by omega]
 have y1:(xs.extract (sa+na) (sa+na+m)).toList=(xs.toList.drop (sa+na)).take m:=by
  rw[gy,Nat.add_sub_cancel_left]
 have xz:(xs.extract (sa+k) (sa+na)).size=na-k:=by rw[BM];omega
 have yz:(xs.extract (sa+na) (sa+na+m)).size=m:=by rw[BM];omega
 rw[e1]at so1;rw[e2]at so2;have q1:=Aq.mp so1;have q2:=Aq.mp so2;have last:∀(mg:Array Keyed)(u:SortSt),GalS CP u→Mgd κ (xs.extract (sa+k) (sa+na)) (xs.extract (sa+na) (sa+na+m)) mg→
   Q (failedOf (setArr u (mg.toList.zipIdx.foldl (fun a (x:Keyed×Nat)=>a.setIfInBounds (sa+k+x.2) x.1) (arrOf u)))).isNone (setArr u (mg.toList.zipIdx.foldl (fun a (x:Keyed×Nat)=>a.setIfInBounds (sa+k+x.2) x.1) (arrOf u))):=by
  rintro mg _ ⟨g,rfl⟩ ⟨pm,sm⟩;rw[x1,y1]at pm;have ml:mg.toList.length=na-k+m:=by
   have:=pm.length_eq;rw[zI,←x1,←y1,zU (xs:=xs.extract (sa+k) (sa+na)),zU (xs:=xs.extract (sa+na) (sa+na+m)),xz,yz]at this;exact this
  have e0:(failedOf (setArr (eR CP g) (mg.toList.zipIdx.foldl (fun a (x:Keyed×Nat)=>a.setIfInBounds (sa+k+x.2) x.1) (arrOf (eR CP g))))).isNone=true:=by
   show(failedOf CP).isNone=true;rw[fl'];rfl
  rw[e0];have put:=uI (sa+k) mg.toList 0 xs (by rw[ml];omega);rw[ml,Nat.add_zero,show sa+k+(na-k+m)=sa+na+m by omega]at put;refine done _ ((xs.toList.drop sa).take k++mg.toList++(xs.toList.drop (sa+na+m)).take (nb-m)) kn' fl' rfl ?_ ?_ ?_
  ·show(mg.toList.zipIdx.foldl (fun a (x:Keyed×Nat)=>a.setIfInBounds (sa+k+x.2) x.1) (arrOf CP)).toList=_;rw[ar',put,List.take_add,show sa+na+nb=sa+na+m+(nb-m) by omega,←Ck (i:=nb-m) (j:=sa+na+m)];simp only[List.append_assoc];rw[AM]
  ·rw[Vp,e1,e2];simp only[List.append_assoc];refine List.Perm.append_left _ ?_;rw[←Ag];exact pm.append_right _
  ·have inm:∀x,x∈mg.toList→x∈(xs.toList.drop (sa+k)).take (na-k)∨x∈(xs.toList.drop (sa+na)).take m:=fun x hx=>zT.mp (pm.mem_iff.mp hx);have ins:∀x,x∈(xs.toList.drop (sa+k)).take (na-k)→x∈(xs.toList.drop sa).take na:=fun x hx=>by rw[e1];exact zR _ hx
   have ink:∀x,x∈(xs.toList.drop sa).take k→x∈(xs.toList.drop sa).take na:=fun x hx=>by rw[e1];exact Ai _ hx
   refine Aq.mpr ⟨Aq.mpr ⟨q1.1,sm,fun x hx y hy=>?_⟩,q2.2.1,fun x hx y hy=>?_⟩
   ·rcases inm y hy with h | h
    ·exact q1.2.2 x hx y h
    ·exact(f1 x hx).trans (b0le y (by rw[e2];exact Ai _ h))
   ·rcases zT.mp hx with h | h
    ·exact(lale x (ink x h)).trans (f4 y hy)
    ·rcases inm x h with h | h
     ·exact(lale x (ins x h)).trans (f4 y hy)
     ·exact q2.2.2 x h y hy
 have fin2:∀(mg:Array Keyed)(u:SortSt),GalS CP u→Mgd κ (xs.extract (sa+k) (sa+na)) (xs.extract (sa+na) (sa+na+m)) mg→
   wpS (model prog w) A E s (do
    modify fun s=>setArr s (mg.toList.zipIdx.foldl (fun a (x:Keyed×Nat)=>a.setIfInBounds (sa+k+x.2) x.1) (arrOf s))
    return (failedOf (←get)).isNone) Q u:=fun mg u gu gm=>zS (B8 (zS (Cy (zQ (last mg u gu gm)))))
 have y0:(xs.extract (sa+na) (sa+na+m))[0]'(by omega)=xs[sa+na]:=by
  rw[Array.getElem_extract];rfl
 have xl:(xs.extract (sa+k) (sa+na))[(xs.extract (sa+k) (sa+na)).size-1]'(by omega)=xs[sa+na-1]:=by
  rw[Array.getElem_extract]
  congr 1
  omega
 by_cases c3:na-k≤m
 ·rw[zE c3];refine zS (jN hc kn' ⟨Sv hk _ _,Sv hk _ _,by rw[x1];exact q1.2.1,by rw[y1];exact q2.1,fun x hx y hy=>?_⟩ (by omega) (by omega) (fun y hy=>?_) fun mg u gu gm=>fin2 mg u gu gm)
  ·rw[gn (by omega),BE (by rw[zU];omega),Aw]at hy;rw[zG.mp hy,xl];rw[y1]at hx;exact f3 x hx
  ·rw[y0];rw[x1]at hy;exact f2 y hy
 ·rw[pi c3];refine zS (kW hc kn' ⟨Sv hk _ _,Sv hk _ _,by rw[x1];exact q1.2.1,by rw[y1];exact q2.1,fun x hx y hy=>?_⟩ (by omega) (by omega) (fun y hy=>?_) fun mg u gu gm=>fin2 mg u gu gm)
  ·rw[show(1:Nat)=0+1 from rfl,Ng (by omega),List.take_zero,List.nil_append]at hx;rw[zG.mp hx,y0];rw[x1]at hy;exact f2 y hy
  ·rw[xl];rw[y1]at hy;exact f3 y hy
end
end L2T
namespace L2T
open PySem PySem.Spec PyProof.Rows L2
def qY(lo a n:Nat):StateT SortSt Sem AscSt:=forIn [a:n] ((none,a):AscSt) fun _ c=>do
 match ←ltAt' (lo+c.2) (lo+c.2-1) with
 |some b=>if b=true then pure (.done (none,c.2))else pure (.yield (none,c.2+1))
 |_=>pure (.done (some none,c.2))
def hE(lo m n:Nat):StateT SortSt Sem (Option Nat):=do
 reverseSlice' lo (lo+m)
 let c ←qY lo m n
 match c.1 with
 |some r=>pure r
 |none=>pure (some c.2)
def lu(lo m n:Nat):StateT SortSt Sem DescSt:=forIn [m:n] ((none,m,0):DescSt) fun _ c=>do
 match ←ltAt' (lo+c.2.1) (lo+c.2.1-1) with
 |some b=>
  if b=true then
   if c.2.2 > 0 then do
    reverseSlice' (lo+c.2.1-(c.2.2+1)) (lo+c.2.1)
    pure (.yield (none,c.2.1+1,0))
   else pure (.yield (none,c.2.1+1,0))
  else do
   match ←ltAt' (lo+c.2.1-1) (lo+c.2.1) with
   |some g=>if g=true then pure (.done (none,c.2.1,c.2.2))else pure (.yield (none,c.2.1+1,c.2.2+1))
   |_=>pure (.done (some none,c.2.1,c.2.2))
 |_=>pure (.done (some none,c.2.1,c.2.2))
def eX(lo m n:Nat):StateT SortSt Sem (Option Nat):=do
 liftM (rule "list.sort.descending-run")
 let c ←lu lo (m+1) n
 match c.1 with
 |some r=>pure r
 |none=>
  if c.2.2 > 0 then do
   reverseSlice' (lo+c.2.1-(c.2.2+1)) (lo+c.2.1)
   hE lo c.2.1 n
  else hE lo c.2.1 n
theorem bnd{σ α β:Type}{m m':StateT σ Sem α}{f g:α→StateT σ Sem β}(h:m=m')(h2:∀a,f a=g a):m >>= f=m' >>= g:=by
 subst h;rw[show f=g from funext h2]
theorem oo(lo n:Nat):countRun' lo n=(do
  let c ←qY lo 1 n
  match c.1 with
  |some r=>pure r
  |none=>
   if (c.2==n)=true then pure (some c.2)
   else if c.2 > 1 then do
    match ←ltAt' lo (lo+c.2-1) with
    |some b=>if b=true then pure (some c.2)else do
      reverseSlice' lo (lo+c.2)
      eX lo c.2 n
    |_=>pure none
   else eX lo c.2 n):=by
 rw[countRun'_eq];unfold eX hE lu qY;refine bnd rfl fun c=>?_;obtain⟨r,m⟩:=c;cases r with
 |some r=>rfl
 |none=>
  dsimp only
  split
  ·rfl
  ·split
   ·refine bnd rfl fun x=>?_;cases x with
    |none=>rfl
    |some b=>
     dsimp only
     split
     ·rfl
     ·refine bnd rfl fun _=>?_;refine bnd rfl fun _=>bnd rfl fun c2=>?_;obtain⟨r2,m2,q2⟩:=c2;cases r2 with
      |some r2=>rfl
      |none=>
       dsimp only
       split
       ·refine bnd rfl fun _=>?_;refine bnd rfl fun _=>bnd rfl fun c3=>?_;obtain⟨r3,m3⟩:=c3;cases r3 <;> rfl
       ·refine bnd rfl fun _=>bnd rfl fun c3=>?_;obtain⟨r3,m3⟩:=c3;cases r3 <;> rfl
   ·refine bnd rfl fun _=>bnd rfl fun c2=>?_;obtain⟨r2,m2,q2⟩:=c2;cases r2 with
    |some r2=>rfl
    |none=>
     dsimp only
     split
     ·refine bnd rfl fun _=>?_;refine bnd rfl fun _=>bnd rfl fun c3=>?_;obtain⟨r3,m3⟩:=c3;cases r3 <;> rfl
     ·refine bnd rfl fun _=>bnd rfl fun c3=>?_;obtain⟨r3,m3⟩:=c3;cases r3 <;> rfl
structure Sl(kd:SortKind)(CQ:SortSt)(lo:Nat)(u:SortSt):Prop where
 pm:(arrOf u).Perm (arrOf CQ)
 kn:kindOf u=kd
 pd:pendingOf u=pendingOf CQ
 fl:failedOf u=none
 lw:∀k,k<lo→(arrOf u)[k]?=(arrOf CQ)[k]?
def Rl(κ:KeyKind)(xs:Array Keyed)(lo n:Nat):Prop:=∀i j,i≤j→j<n→κ.blt (KK κ xs (lo+j)) (KK κ xs (lo+i))=false
def Fl'(κ:KeyKind)(xs:Array Keyed)(lo n:Nat):Prop:=∀i j,i≤j→j<n→κ.blt (KK κ xs (lo+i)) (KK κ xs (lo+j))=false
section
variable{prog:Program}{w:World}{A:Around}{E:Value→Shared→Prop}{s:Shared}{κ:KeyKind}{kd:SortKind}{CQ st:SortSt}{lo:Nat}
theorem Sl.sz(b:Sl kd CQ lo st):(arrOf st).size=(arrOf CQ).size:=b.pm.size_eq
theorem Sl.put(b:Sl kd CQ lo st){ys:Array Keyed}(p:ys.Perm (arrOf st))(h:∀k,k<lo→ys[k]?=(arrOf st)[k]?):Sl kd CQ lo (setArr st ys):=⟨p.trans b.pm,b.kn,b.pd,b.fl,fun k hk=>(h k hk).trans (b.lw k hk)⟩
theorem Sl.turn(b:Sl kd CQ lo st){i j:Nat}(hi:lo≤i)(hj:j≤(arrOf st).size):Sl kd CQ lo (setArr st (mirror (arrOf st) i j ((j-i) / 2))):=b.put (mirror_perm _ _ _ _) fun k hk=>by rw[getElem?_mirror_all hj,pi (by omega)]
theorem Rl.snoc{xs:Array Keyed}{m:Nat}(r:Rl κ xs lo m)(h1:1≤m)(h:κ.blt (KK κ xs (lo+m)) (KK κ xs (lo+m-1))=false):Rl κ xs lo (m+1):=by
 intro i j hij hj
 rcases AE j m with l | l
 ·exact r i j hij l
 obtain rfl:j=m:=by omega
 rcases AE i j with l2 | l2
 ·rw[show lo+j-1=lo+(j-1) by omega]at h;exact ltF (r i (j-1) (by omega) (by omega)) h
 ·obtain rfl:i=j:=by omega
  exact κ.irrefl _
theorem Fl'.snoc{xs:Array Keyed}{m:Nat}(r:Fl' κ xs lo m)(h1:1≤m)(h:κ.blt (KK κ xs (lo+m-1)) (KK κ xs (lo+m))=false):Fl' κ xs lo (m+1):=by
 intro i j hij hj
 rcases AE j m with l | l
 ·exact r i j hij l
 obtain rfl:j=m:=by omega
 rcases AE i j with l2 | l2
 ·rw[show lo+j-1=lo+(j-1) by omega]at h;exact ltF h (r i (j-1) (by omega) (by omega))
 ·obtain rfl:i=j:=by omega
  exact κ.irrefl _
theorem w5{xs:Array Keyed}:Rl κ xs lo 1:=fun i j hij hj=>by
 obtain rfl:i=j:=by omega
 exact κ.irrefl _
theorem one_Fl{xs:Array Keyed}:Fl' κ xs lo 1:=fun i j hij hj=>by
 obtain rfl:i=j:=by omega
 exact κ.irrefl _
theorem Fl'.same{xs ys:Array Keyed}{m:Nat}(r:Fl' κ xs lo m)(h:∀k,KK κ ys k=KK κ xs k):Fl' κ ys lo m:=fun i j hij hj=>by
 rw[h,h];exact r i j hij hj
theorem iU{i j:Nat}{Q:Option Bool→SortSt→Prop}(hc:aX prog w A s κ kd)(hk:KeysOf κ (arrOf CQ))(b:Sl kd CQ lo st)(hi:i<(arrOf CQ).size)(hj:j<(arrOf CQ).size)(q:Q (some (κ.blt (KK κ (arrOf st) i) (KK κ (arrOf st) j))) st):wpS (model prog w) A E s (ltAt' i j) Q st:=by
 have hk':KeysOf κ (arrOf st):=fun p hp=>hk p ((BN.mp b.pm).mem_iff.mp hp);have hi':i<(arrOf st).size:=by rw[b.sz];exact hi
 have hj':j<(arrOf st).size:=by rw[b.sz];exact hj
 rw[N8 (zJ hi'),N8 (zJ hj')]at q;rw[ltAt'_eq];refine zS (Cy ?_);show wpS (model prog w) A E s (elem' (arrOf st) i >>= fun u=>elem' (arrOf st) j >>= fun v=>lt' u v) Q st;rw[Yk hi',Yk hj'];exact zS (zQ (zS (zQ (O1 hc b.kn (We hk' hi') (We hk' hj') q))))
theorem zk{a n:Nat}{Q:AscSt→SortSt→Prop}(hc:aX prog w A s κ kd)(hk:KeysOf κ (arrOf CQ))(hn:lo+n≤(arrOf CQ).size)(h1:1≤a)(h2:a≤n)(b:Sl kd CQ lo st)(r:Rl κ (arrOf st) lo a)(fin:∀m,a≤m→m≤n→Rl κ (arrOf st) lo m→(m<n→κ.blt (KK κ (arrOf st) (lo+m)) (KK κ (arrOf st) (lo+m-1))=true)→Q (none,m) st):wpS (model prog w) A E s (qY lo a n) Q st:=by
 unfold qY;refine AW (fun i c u=>u=st∧c=(none,i)∧Rl κ (arrOf st) lo i) ?_ ?_ ⟨rfl,rfl,r⟩
 ·rintro i _ _ h3 h4 ⟨rfl,rfl,r'⟩;refine zS (iU hc hk b (by show lo+i<_;omega) (by show lo+i-1<_;omega) ?_);dsimp only
  rcases e:κ.blt (KK κ (arrOf _) (lo+i)) (KK κ (arrOf _) (lo+i-1))with _ | _
  ·exact zQ ⟨rfl,rfl,r'.snoc (by omega) e⟩
  ·exact zQ (fin i h3 (by omega) r' fun _=>e)
 ·rintro _ _ ⟨rfl,rfl,r'⟩;rw[Nat.max_eq_right h2]at r'⊢;exact fin n h2 (zD _) r' fun q=>absurd q (Bd _)
theorem pQ{m n:Nat}{Q:Option Nat→SortSt→Prop}(hc:aX prog w A s κ kd)(hk:KeysOf κ (arrOf CQ))(hn:lo+n≤(arrOf CQ).size)(h1:1≤m)(h2:m≤n)(b:Sl kd CQ lo st)(r:Fl' κ (arrOf st) lo m)(fin:∀l u,Sl kd CQ lo u→1≤l→l≤n→Rl κ (arrOf u) lo l→Q (some l) u):wpS (model prog w) A E s (hE lo m n) Q st:=by
 unfold hE;have ml:lo+m≤(arrOf st).size:=by rw[b.sz];omega
 refine zS (Q5 ?_);have b':=b.turn (i:=lo) (zD _) ml;refine zS (zk hc hk hn h1 h2 b' (fun i j hij hj=>?_) fun l h3 h4 r' _=>zQ (fin l _ b' (by omega) h4 r'));show κ.blt (KK κ (mirror (arrOf st) lo (lo+m) ((lo+m-lo) / 2)) (lo+j)) (KK κ (mirror (arrOf st) lo (lo+m) ((lo+m-lo) / 2)) (lo+i))=false;rw[KK_mirror ml,KK_mirror ml,zE ⟨by omega,by omega⟩,zE ⟨by omega,by omega⟩,show lo+(lo+m)-1-(lo+j)=lo+(m-1-j) by omega,show lo+(lo+m)-1-(lo+i)=lo+(m-1-i) by omega];exact r _ _ (by omega) (by omega)
theorem wd{m n:Nat}{Q:DescSt→SortSt→Prop}(hc:aX prog w A s κ kd)(hk:KeysOf κ (arrOf CQ))(hn:lo+n≤(arrOf CQ).size)(h1:1≤m)(h2:m≤n)(b:Sl kd CQ lo st)(r:Fl' κ (arrOf st) lo m)(fin:∀l e u,Sl kd CQ lo u→m≤l→l≤n→Fl' κ (arrOf u) lo l→e+1≤l→(∀i,lo+l-(e+1)≤i→i<lo+l→KK κ (arrOf u) i=KK κ (arrOf u) (lo+l-1))→Q (none,l,e) u):
  wpS (model prog w) A E s (lu lo m n) Q st:=by
 unfold lu;refine AW (fun i c u=>∃e,c=(none,i,e)∧Sl kd CQ lo u∧Fl' κ (arrOf u) lo i∧e+1≤i∧∀k,lo+i-(e+1)≤k→k<lo+i→KK κ (arrOf u) k=KK κ (arrOf u) (lo+i-1)) ?_ ?_ ⟨0,rfl,b,r,h1,fun k h3 h4=>by rw[show k=lo+m-1 by omega]⟩
 ·rintro i _ u h3 h4 ⟨e,rfl,b',r',he,al⟩;have il:lo+i≤(arrOf u).size:=by rw[b'.sz];omega
  dsimp only;refine zS (iU hc hk b' (by omega) (by omega) ?_);dsimp only
  rcases e1:κ.blt (KK κ (arrOf u) (lo+i)) (KK κ (arrOf u) (lo+i-1))with _ | _
  ·rw[pi zK];refine zS (iU hc hk b' (by omega) (by omega) ?_);dsimp only
   rcases e2:κ.blt (KK κ (arrOf u) (lo+i-1)) (KK κ (arrOf u) (lo+i))with _ | _
   ·have eq:KK κ (arrOf u) (lo+i)=KK κ (arrOf u) (lo+i-1):=κ.total _ _ e1 e2;refine zQ ⟨e+1,rfl,b',r'.snoc (by omega) e2,by omega,fun k h5 h6=>?_⟩;rw[show lo+(i+1)-1=lo+i by omega]
    rcases AE k (lo+i)with l | l
    ·rw[eq];exact al k (by omega) l
    ·rw[show k=lo+i by omega]
   ·exact zQ (fin i e u b' h3 (by omega) r' he al)
  ·have up:=r'.snoc (by omega) (ltA e1);rw[zE rfl];by_cases c:e > 0
   ·rw[zE c];refine zS (Q5 ?_);exact zQ ⟨0,rfl,b'.turn (by omega) il,up.same (KK_mirror_equal il al),by omega,fun k h5 h6=>by rw[show k=lo+(i+1)-1 by omega]⟩
   ·rw[pi c];exact zQ ⟨0,rfl,b',up,by omega,fun k h5 h6=>by rw[show k=lo+(i+1)-1 by omega]⟩
 ·rintro _ u ⟨e,rfl,b',r',he,al⟩;rw[Nat.max_eq_right h2]at r' he al⊢;exact fin n e u b' h2 (zD _) r' he al
theorem mN{m n:Nat}{Q:Option Nat→SortSt→Prop}(hc:aX prog w A s κ kd)(hk:KeysOf κ (arrOf CQ))(hn:lo+n≤(arrOf CQ).size)(h2:m+1≤n)(b:Sl kd CQ lo st)(r:Fl' κ (arrOf st) lo (m+1))(fin:∀l u,Sl kd CQ lo u→1≤l→l≤n→Rl κ (arrOf u) lo l→Q (some l) u):wpS (model prog w) A E s (eX lo m n) Q st:=by
 unfold eX;refine zS (m:=liftM (rule _)) (wpS_lift (Bo ⟨rfl,?_⟩));refine zS (wd hc hk hn (by omega) h2 b r fun l e u b' h3 h4 r' he al=>?_);have ll:lo+l≤(arrOf u).size:=by rw[b'.sz];omega
 dsimp only;by_cases c:e > 0
 ·rw[zE c];refine zS (Q5 ?_);exact pQ (m:=l) hc hk hn (by omega) h4 (b'.turn (by omega) ll) (r'.same (KK_mirror_equal ll al)) fin
 ·rw[pi c];exact pQ (m:=l) hc hk hn (by omega) h4 b' r' fin
theorem sQ{n:Nat}{Q:Option Nat→SortSt→Prop}(hc:aX prog w A s κ kd)(hk:KeysOf κ (arrOf CQ))(hn:lo+n≤(arrOf CQ).size)(h1:1≤n)(b:Sl kd CQ lo st)(fin:∀l u,Sl kd CQ lo u→1≤l→l≤n→Rl κ (arrOf u) lo l→Q (some l) u):wpS (model prog w) A E s (countRun' lo n) Q st:=by
 rw[oo];refine zS (zk hc hk hn (zD 1) h1 b w5 fun m h3 h4 r lt=>?_);dsimp only
 rcases AE m n with c | c
 ·rw[pi (by rw[Ad];omega)];have lt:=lt c;by_cases c2:m > 1
  ·rw[zE c2];refine zS (iU hc hk b (by omega) (by omega) ?_);dsimp only
   rcases e:κ.blt (KK κ (arrOf st) lo) (KK κ (arrOf st) (lo+m-1))with _ | _
   ·rw[pi zK];have ml:lo+m≤(arrOf st).size:=by rw[b.sz];omega
    have al:∀k,lo≤k→k<lo+m→KK κ (arrOf st) k=KK κ (arrOf st) (lo+m-1):=fun k hk h=>by
     have q1:=r 0 (k-lo) (BI _) (by omega);have q2:=r (k-lo) (m-1) (by omega) (by omega);rw[show lo+(k-lo)=k by omega,Nat.add_zero]at q1;rw[show lo+(k-lo)=k by omega,show lo+(m-1)=lo+m-1 by omega]at q2;exact κ.total _ _ (ltF e q1) q2
    refine zS (Q5 (mN hc hk hn (by omega) (b.turn (zD _) ml) ?_ fin));refine Fl'.same (xs:=arrOf st) (Fl'.snoc (fun i j hij hj=>?_) (by omega) (ltA lt)) (KK_mirror_equal ml al);rw[al (lo+i) (by omega) (by omega),al (lo+j) (by omega) (by omega)];exact κ.irrefl _
   ·rw[zE rfl];exact zQ (fin m st b h3 h4 r)
  ·rw[pi c2];obtain rfl:m=1:=by omega
   exact mN hc hk hn (by omega) b (one_Fl.snoc (by omega) (ltA lt)) fin
 ·obtain rfl:m=n:=by omega
  rw[zE (by rw[Ad])];exact zQ (fin m st b h3 h4 r)
theorem zw{n ok:Nat}{Q:Bool→SortSt→Prop}(hc:aX prog w A s κ kd)(hk:KeysOf κ (arrOf CQ))(hn:lo+n≤(arrOf CQ).size)(h2:ok≤n)(b:Sl kd CQ lo st)(r:Rl κ (arrOf st) lo ok)(fin:∀u,Sl kd CQ lo u→Rl κ (arrOf u) lo n→Q true u):wpS (model prog w) A E s (binarySort' lo n ok) Q st:=by
 rw[binarySort'_eq];have cU:Rl κ (arrOf st) lo (min (max ok 1) n):=fun i j hij hj=>by
  rcases AE j ok with l | l
  ·exact r i j hij l
  ·obtain rfl:i=j:=by omega
   exact κ.irrefl _
 refine zS (Bf (AW (Q:=fun c u=>c=(none,())∧Sl kd CQ lo u∧Rl κ (arrOf u) lo n) (fun k c u=>c=(none,())∧Sl kd CQ lo u∧Rl κ (arrOf u) lo (min k n)) ?_ ?_ ⟨rfl,b,cU⟩) ?_)
 ·rintro k _ u h3 h4 ⟨rfl,b',r'⟩;rw[Nat.min_eq_left (Bq h4)]at r';have kl:lo+k<(arrOf CQ).size:=by omega
  have ks:lo+k<(arrOf u).size:=by rw[b'.sz];exact kl
  refine zS (Bf (AW (Q:=fun c v=>v=u∧∃p,c=(none,p,p)∧p≤k∧(∀i,i<p→κ.blt (KK κ (arrOf u) (lo+k)) (KK κ (arrOf u) (lo+i))=false)∧∀i,p≤i→i<k→κ.blt (KK κ (arrOf u) (lo+k)) (KK κ (arrOf u) (lo+i))=true)
   (fun x c v=>v=u∧∃p q,c=(none,p,q)∧p≤q∧q≤k∧q+x≤k+p∧(∀i,i<p→κ.blt (KK κ (arrOf u) (lo+k)) (KK κ (arrOf u) (lo+i))=false)∧∀i,q≤i→i<k→κ.blt (KK κ (arrOf u) (lo+k)) (KK κ (arrOf u) (lo+i))=true) ?_ ?_
   ⟨rfl,0,k,rfl,BI _,zD _,by omega,fun i h=>absurd h (Nat.not_lt_zero i),fun i h h'=>absurd h' (by omega)⟩) ?_)
  ·rintro x _ _ h5 h6 ⟨rfl,p,q,rfl,pq,qk,qx,lw,hi⟩;dsimp only
   rcases AE p q with c | c
   ·rw[pi (by omega)];refine zS (iU hc hk b' kl (by omega) ?_);dsimp only
    rcases e:κ.blt (KK κ (arrOf _) (lo+k)) (KK κ (arrOf _) (lo+(p+q) / 2))with _ | _
    ·refine zQ ⟨rfl,(p+q) / 2+1,q,rfl,by omega,qk,by omega,fun i h=>?_,hi⟩;exact ltF (r' i ((p+q) / 2) (by omega) (by omega)) e
    ·refine zQ ⟨rfl,p,(p+q) / 2,rfl,by omega,by omega,by omega,lw,fun i h h'=>?_⟩
     rcases κ.negTrans _ (KK κ (arrOf _) (lo+i)) _ e with z | z
     ·exact z
     ·rw[r' _ i h h']at z;cases z
   ·rw[zE c];obtain rfl:p=q:=by omega
    exact zQ ⟨rfl,p,rfl,qk,lw,hi⟩
  ·rintro _ _ ⟨rfl,p,q,rfl,pq,qk,qx,lw,hi⟩;obtain rfl:p=q:=by omega
   exact⟨rfl,p,rfl,qk,lw,hi⟩
  ·rintro _ _ ⟨rfl,p,rfl,pk,lw,hi⟩;show wpS (model prog w) A E s (moveDown' (lo+k) (lo+p) >>= fun _=>pure (ForInStep.yield (none,()))) _ _;rw[moveDown'_eq];refine zS (B8 (zQ ⟨rfl,b'.put (bubble_perm _ _ _) (fun i hi=>?_),?_⟩))
   ·rw[getElem?_bubble ks _ (by omega),pi (by omega),pi (by omega)]
   rw[Nat.min_eq_left h4];intro i j hij hj;show κ.blt (KK κ (bubble (arrOf _) (lo+k) (lo+k-(lo+p))) (lo+j)) (KK κ (bubble (arrOf _) (lo+k) (lo+k-(lo+p))) (lo+i))=false;have at_:∀i,KK κ (bubble (arrOf _) (lo+k) (lo+k-(lo+p))) (lo+i)=if i=p then KK κ (arrOf _) (lo+k)else if p<i∧i≤k then KK κ (arrOf _) (lo+(i-1))else KK κ (arrOf _) (lo+i):=fun i=>by
    rw[KK_bubble ks (Nat.sub_le _ _),show lo+k-(lo+k-(lo+p))=lo+p by omega];by_cases c1:i=p
    ·rw[zE c1,zE (by omega)]
    ·rw[pi c1,pi (by omega)];by_cases c2:p<i∧i≤k
     ·rw[zE c2,zE (by omega),show lo+i-1=lo+(i-1) by omega]
     ·rw[pi c2,pi (by omega)]
   rw[at_,at_]
   rcases Nat.lt_trichotomy j p with c | c | c
   ·rw[pi (by omega),pi (by omega),pi (by omega),pi (by omega)];exact r' i j hij (by omega)
   ·rw[zE c]
    rcases AE i p with d | d
    ·rw[pi (by omega),pi (by omega)];exact lw i d
    ·rw[zE (by omega)];exact κ.irrefl _
   ·rw[pi (by omega),zE (by omega)]
    rcases Nat.lt_trichotomy i p with d | d | d
    ·rw[pi (by omega),pi (by omega)];exact r' i (j-1) (by omega) (by omega)
    ·rw[zE d];exact ltA (hi (j-1) (by omega) (by omega))
    ·rw[pi (by omega),zE (by omega)];exact r' (i-1) (j-1) (by omega) (by omega)
 ·rintro _ u ⟨h,b',r'⟩;refine⟨h,b',?_⟩;rw[show min (max (max ok 1) n) n=n by omega]at r';exact r'
 ·rintro _ u ⟨rfl,b',r'⟩;exact zQ (fin u b' r')
end
end L2T
namespace L2T
open PySem PySem.Spec PyProof.Rows L2
abbrev seg(L:List Keyed)(i n:Nat):List Keyed:=(L.drop i).take n
def Tile(κ:KeyKind)(L:List Keyed):Nat→List (Nat×Nat)→Nat→Prop
 |a,[],e=>a=e
 |a,(s,n)::ps,e=>s=a∧0<n∧Srt κ (seg L s n)∧Tile κ L (a+n) ps e
section
variable{κ:KeyKind}{L L':List Keyed}
theorem Tile.le{ps:List (Nat×Nat)}:∀{a e:Nat},Tile κ L a ps e→a+ps.length≤e:=by
 induction ps with
 |nil=>intro a e h;exact Nat.le_of_eq h
 |cons p ps ih=>
  intro a e h;have:=ih h.2.2.2;have:=h.2.1;rw[Ak];omega
theorem Tile.hi{ps:List (Nat×Nat)}:∀{a e:Nat},Tile κ L a ps e→(∀s n,a≤s→s+n≤e→seg L' s n=seg L s n)→Tile κ L' a ps e:=by
 induction ps with
 |nil=>intro a e h _;exact h
 |cons p ps ih=>
  intro a e h g;obtain⟨h1,h2,h3,h4⟩:=h;have le:=h4.le;exact⟨h1,h2,by rw[g p.1 p.2 (by omega) (by omega)];exact h3,ih h4 fun s n hs=>g s n (by omega)⟩
theorem Tile.snoc{ps:List (Nat×Nat)}{n:Nat}:∀{a e:Nat},Tile κ L a ps e→0<n→Srt κ (seg L e n)→Tile κ L a (ps++[(e,n)]) (e+n):=by
 induction ps with
 |nil=>intro a e h h0 hs;cases h;exact⟨rfl,h0,hs,rfl⟩
 |cons p ps ih=>intro a e h h0 hs;exact⟨h.1,h.2.1,h.2.2.1,ih h.2.2.2 h0 hs⟩
theorem Tile.two{ps:List (Nat×Nat)}:∀{a e i sa na sb nb:Nat},Tile κ L a ps e→ps[i]?=some (sa,na)→ps[i+1]?=some (sb,nb)→sb=sa+na∧0<na∧0<nb∧a≤sa∧sa+na+nb≤e∧Srt κ (seg L sa na)∧Srt κ (seg L sb nb):=by
 induction ps with
 |nil=>intro a e i sa na sb nb _ h;cases h
 |cons p ps ih=>
  intro a e i sa na sb nb h g1 g2;cases i with
  |zero=>
   cases g1;cases ps with
   |nil=>cases g2
   |cons q ps=>
    cases g2;obtain⟨rfl,h2,h3,h4,h5,h6,h7⟩:=h;have:=h7.le;exact⟨h4,h2,h5,zD _,by omega,h3,h6⟩
  |succ i=>
   obtain⟨b1,b2,b3,b4,b5⟩:=ih h.2.2.2 g1 g2;exact⟨b1,b2,b3,by omega,b5⟩
theorem Tile.mrg{ps:List (Nat×Nat)}{sa na nb e:Nat}:∀{a i sb:Nat},Tile κ L a ps e→ps[i]?=some (sa,na)→ps[i+1]?=some (sb,nb)→
  Srt κ (seg L' sa (na+nb))→(∀s n,s+n≤sa→seg L' s n=seg L s n)→(∀s n,sa+na+nb≤s→seg L' s n=seg L s n)→Tile κ L' a ((ps.set i (sa,na+nb)).eraseIdx (i+1)) e:=by
 induction ps with
 |nil=>intro a i sb _ h;cases h
 |cons p ps ih=>
  intro a i sb h g1 g2 so lw hi;cases i with
  |zero=>
   cases g1;cases ps with
   |nil=>cases g2
   |cons q ps=>
    cases g2;obtain⟨rfl,h2,h3,h4,h5,h6,h7⟩:=h;refine⟨rfl,by omega,so,?_⟩;rw[←BW];exact h7.hi fun s n hs _=>hi s n hs
  |succ i=>
   obtain⟨b1,b2,b3,b4,b5⟩:=h.2.2.2.two g1 g2;obtain⟨h1,h2,h3,h4⟩:=h;exact⟨h1,h2,by rw[lw p.1 p.2 (by omega)];exact h3,ih h4 g1 g2 so lw hi⟩
theorem tK{X M S:List Keyed}{s n sa:Nat}(hX:X=L.take sa)(hs:s+n≤sa)(hl:sa≤L.length):seg (X++M++S) s n=seg L s n:=by
 subst hX;refine List.ext_getElem? fun j=>?_;rw[AK,AK]
 split
 ·rw[A1,A1,Ag,List.getElem?_append_left (by rw[z5];omega),AK,zE (by omega)]
 ·rfl
theorem ja{X S:List Keyed}{s n t:Nat}(hX:X.length=t)(hS:S=L.drop t)(hs:t≤s):seg (X++S) s n=seg L s n:=by
 subst hS;unfold seg;rw[List.drop_append,BE (by omega),List.nil_append,Ck,hX,show t+(s-t)=s by omega]
theorem T6{α β:Type}(f:α→β):∀(l:List α)(i:Nat),(l.eraseIdx i).map f=(l.map f).eraseIdx i:=by
 intro l
 induction l with
 |nil=>intro i;rfl
 |cons x l ih=>
  intro i;cases i with
  |zero=>rfl
  |succ i=>
   show f x::(l.eraseIdx i).map f=f x::(l.map f).eraseIdx i;rw[ih]
abbrev pr(p:Nat×Nat×Nat):Nat×Nat:=(p.1,p.2.1)
abbrev pq(st:SortSt):List (Nat×Nat):=(pendingOf st).toList.map pr
structure SR(κ:KeyKind)(kd:SortKind)(xs0:Array Keyed)(e:Nat)(u:SortSt):Prop where
 pm:(arrOf u).Perm xs0
 kn:kindOf u=kd
 fl:failedOf u=none
 til:Tile κ (arrOf u).toList 0 (pq u) e
 le:e≤xs0.size
variable{prog:Program}{w:World}{A:Around}{E:Value→Shared→Prop}{s:Shared}{kd:SortKind}{xs0:Array Keyed}{st:SortSt}
theorem SR.keys{e:Nat}(hk:KeysOf κ xs0)(b:SR κ kd xs0 e st):KeysOf κ (arrOf st):=fun p hp=>hk p ((BN.mp b.pm).mem_iff.mp hp)
theorem SR.sz{e:Nat}(b:SR κ kd xs0 e st):(arrOf st).size=xs0.size:=b.pm.size_eq
theorem SR.pend{e:Nat}(b:SR κ kd xs0 e st){ps:Array (Nat×Nat×Nat)}(h:ps.toList.map pr=pq st):SR κ kd xs0 e (setPending st ps):=⟨b.pm,b.kn,b.fl,by
 show Tile κ (arrOf st).toList 0 (ps.toList.map pr) e;rw[h];exact b.til,b.le⟩
theorem iZ{e i:Nat}{Q:Bool→SortSt→Prop}(hc:aX prog w A s κ kd)(hk:KeysOf κ xs0)(b:SR κ kd xs0 e st)(hi:i+1<(pendingOf st).size)(fin:∀v,SR κ kd xs0 e v→(pendingOf v).size+1=(pendingOf st).size→(∀s n,e≤s→seg (arrOf v).toList s n=seg (arrOf st).toList s n)→Q true v):wpS (model prog w) A E s (mergeAt' i) Q st:=by
 obtain⟨⟨sa,na,pw⟩,p1⟩:∃p,(pendingOf st)[i]?=some p:=⟨_,zJ (by omega)⟩;obtain⟨⟨sb,nb,pw2⟩,p2⟩:∃p,(pendingOf st)[i+1]?=some p:=⟨_,zJ hi⟩;have q1:(pq st)[i]?=some (sa,na):=by
  rw[z9,zL,p1];rfl
 have q2:(pq st)[i+1]?=some (sb,nb):=by
  rw[z9,zL,p2];rfl
 obtain⟨rfl,t1,t2,t3,t4,t5,t6⟩:=b.til.two q1 q2;have le:=b.le;have sz:=b.sz;refine kD hc b.kn b.fl (b.keys hk) p1 p2 t1 t2 (by omega) t5 t6 fun u m=>?_;obtain⟨M,a1,a2,a3⟩:=m.arr;have ML:M.length=na+nb:=by
  rw[a2.length_eq,z5,BJ,zU];omega
 have TL:((arrOf st).toList.take sa++M).length=sa+na+nb:=by
  rw[zI,z5,zU,ML];omega
 have pl:(pendingOf u).toList=((pendingOf st).toList.set i (sa,na+nb,pw)).eraseIdx (i+1):=by
  rw[m.pd,Array.toList_eraseIdxIfInBounds,Array.toList_setIfInBounds]
 refine fin u ⟨?_,m.kn.trans b.kn,m.fl,?_,b.le⟩ ?_ fun s n hs=>by rw[a1];exact ja TL rfl (by omega)
 ·refine Array.Perm.trans (BN.mpr ?_) b.pm;rw[a1];have e:(arrOf st).toList=(arrOf st).toList.take sa++((arrOf st).toList.drop sa).take (na+nb)++(arrOf st).toList.drop (sa+na+nb):=by
   rw[BW,←Ck,Ag,AM,AM]
  rw[Ag];refine List.Perm.trans (List.Perm.append_left _ (a2.append_right _)) (List.Perm.of_eq ?_);rw[←Ag];exact e.symm
 ·have e:pq u=((pq st).set i (sa,na+nb)).eraseIdx (i+1):=by
   show(pendingOf u).toList.map pr=_;rw[pl,T6,List.map_set]
  rw[e];refine b.til.mrg q1 q2 ?_ ?_ ?_
  ·have e2:seg (arrOf u).toList sa (na+nb)=M:=by
    unfold seg;rw[a1,Ag,List.drop_append,BE (by rw[z5,zU];omega),List.nil_append,z5,zU,show sa-min sa (arrOf st).size=0 by omega,List.drop_zero,List.take_append_of_le_length (by omega),Bg (by omega)]
   rw[e2];exact a3
  ·intro s n hs;rw[a1];exact tK rfl hs (by rw[zU];omega)
  ·intro s n hs;rw[a1];exact ja TL rfl hs
 ·rw[←zU (xs:=pendingOf u),pl,List.length_eraseIdx,List.length_set,zU,zE hi];omega
theorem uU{e:Nat}{v:SortSt}(b:SR κ kd xs0 e st)(h:Sl kd st e v):SR κ kd xs0 e v:=by
 have le:=b.le;refine⟨h.pm.trans b.pm,h.kn,h.fl,?_,b.le⟩;have e1:pq v=pq st:=by unfold pq;rw[h.pd]
 rw[e1];refine b.til.hi fun s n _ hs=>?_;refine List.ext_getElem? fun j=>?_;rw[AK,AK]
 split
 ·rw[A1,A1,zL,zL];exact h.lw _ (by omega)
 ·rfl
theorem mo{xs:Array Keyed}{lo n:Nat}(r:Rl κ xs lo n):Srt κ (seg xs.toList lo n):=by
 refine BP.mpr fun i j hi hj hij=>?_;rw[z5,BJ,zU]at hi hj;have e1:xs[lo+i]?=some ((seg xs.toList lo n)[i]):=by
  rw[List.getElem_take,List.getElem_drop,Array.getElem_toList];exact zJ _
 have e2:xs[lo+j]?=some ((seg xs.toList lo n)[j]):=by
  rw[List.getElem_take,List.getElem_drop,Array.getElem_toList];exact zJ _
 have:=r i j (by omega) (by omega);rw[N8 e1,N8 e2]at this;exact this
def mgl(size pw:Nat):StateT SortSt Sem (Option Unit×Unit):=forIn [0:size] ((none,()):Option Unit×Unit) fun _ _=>do
 let u ←get
 match (if (pendingOf u).size > 1 then(pendingOf u)[(pendingOf u).size-2]? else none) with
 |some (_,_,older)=>
  if older≤pw then pure (.done (none,()))else do
   let r ←mergeAt' ((pendingOf u).size-2)
   if (!r)=true then pure (.done (some (),()))else pure (.yield (none,()))
 |_=>pure (.done (none,()))
def fq(size lo n:Nat):StateT SortSt Sem (ForInStep (Option Unit×Nat)):=do
 let u ←get
 match (pendingOf u).back? with
 |some (s1,n1,_)=>do
  let c ←mgl size (power' size (2*s1+n1) (2*s1+n1+n1+n) size)
  match c.1 with
  |some r=>pure (.done (some r,lo))
  |none=>do
   modify fun s=>setPending s ((pendingOf s).modify ((pendingOf s).size-1) fun x=>(x.1,x.2.1,power' size (2*s1+n1) (2*s1+n1+n1+n) size))
   modify fun s=>setPending s ((pendingOf s).push (lo,n,0))
   pure (.yield (none,lo+n))
 |_=>do
  modify fun s=>setPending s ((pendingOf s).push (lo,n,0))
  pure (.yield (none,lo+n))
theorem vD{e size pw:Nat}{Q:Option Unit×Unit→SortSt→Prop}(hc:aX prog w A s κ kd)(hk:KeysOf κ xs0)(b:SR κ kd xs0 e st)(fin:∀v,SR κ kd xs0 e v→(∀s n,e≤s→seg (arrOf v).toList s n=seg (arrOf st).toList s n)→Q (none,()) v):wpS (model prog w) A E s (mgl size pw) Q st:=by
 unfold mgl;refine AW (fun _ c v=>c=(none,())∧SR κ kd xs0 e v∧∀s n,e≤s→seg (arrOf v).toList s n=seg (arrOf st).toList s n) ?_ ?_ ⟨rfl,b,fun _ _ _=>rfl⟩
 ·rintro _ _ u _ _ ⟨rfl,b',g⟩;refine zS (Cy ?_);by_cases c:(pendingOf u).size > 1
  ·rw[zE c];obtain⟨⟨p1,p2,p3⟩,hp⟩:∃p,(pendingOf u)[(pendingOf u).size-2]?=some p:=⟨_,zJ (by omega)⟩;rw[hp];dsimp only
   split
   ·exact zQ (fin u b' g)
   ·exact zS (iZ hc hk b' (by omega) fun v bv _ gv=>zQ ⟨rfl,bv,fun s n hs=>(gv s n hs).trans (g s n hs)⟩)
  ·rw[pi c];exact zQ (fin u b' g)
 ·rintro _ u ⟨rfl,b',g⟩;exact fin u b' g
theorem SR.run{lo n:Nat}(b:SR κ kd xs0 lo st)(n1:0<n)(hn:lo+n≤xs0.size)(so:Srt κ (seg (arrOf st).toList lo n)):SR κ kd xs0 (lo+n) (setPending st ((pendingOf st).push (lo,n,0))):=by
 refine⟨b.pm,b.kn,b.fl,?_,hn⟩;show Tile κ (arrOf st).toList 0 (((pendingOf st).push (lo,n,0)).toList.map pr) (lo+n);rw[Ci,zW];exact b.til.snoc n1 so
theorem uB(f:Nat×Nat×Nat→Nat×Nat×Nat)(hf:∀x,pr (f x)=pr x):∀(l:List (Nat×Nat×Nat))(i:Nat),(l.modify i f).map pr=l.map pr:=by
 intro l
 induction l with
 |nil=>intro i;cases i <;> rfl
 |cons x l ih=>
  intro i;cases i with
  |zero=>
   show pr (f x)::l.map pr=pr x::l.map pr;rw[hf]
  |succ i=>
   show pr x::(l.modify i f).map pr=pr x::l.map pr;rw[ih]
theorem jE{lo n size:Nat}{Q:ForInStep (Option Unit×Nat)→SortSt→Prop}(hc:aX prog w A s κ kd)(hk:KeysOf κ xs0)(b:SR κ kd xs0 lo st)(n1:0<n)(hn:lo+n≤xs0.size)(so:Srt κ (seg (arrOf st).toList lo n))(fin:∀v,SR κ kd xs0 (lo+n) v→Q (.yield (none,lo+n)) v):wpS (model prog w) A E s (fq size lo n) Q st:=by
 unfold fq;refine zS (Cy ?_);cases hb:(pendingOf st).back? with
 |none=>exact zS (B8 (zQ (fin _ (b.run n1 hn so))))
 |some p=>
  obtain⟨s1,m1,pw⟩:=p;dsimp only;refine zS (vD hc hk b fun v bv gv=>?_);dsimp only;refine zS (B8 (zS (B8 (zQ (fin _ ?_)))));refine SR.run (st:=setPending v _) (bv.pend ?_) n1 hn ?_
  ·rw[Array.toList_modify];exact uB (fun x=>(x.1,x.2.1,power' size (2*s1+m1) (2*s1+m1+m1+n) size)) (fun _=>rfl) _ _
  ·show Srt κ (seg (arrOf v).toList lo n);rw[gv lo n (zD _)];exact so
theorem Rz.of_srt{xs:Array Keyed}{n:Nat}(h:Srt κ (seg xs.toList 0 n))(hn:n≤xs.size):Rz κ xs n:=fun i j hij hj=>by
 have at_:∀k (hk:k<n),(seg xs.toList 0 n)[k]?=some (xs[k]'(by omega)):=fun k hk=>by
  rw[AK,zE hk,List.drop_zero,zL];exact zJ _
 have q:=h.at hij (at_ i (by omega)) (at_ j hj);rw[N8 (zJ (show i<xs.size by omega)),N8 (zJ (show j<xs.size by omega))];exact q
theorem tU:∀(f n r:Nat),0<n→0<minRun' f n r:=by
 intro f
 induction f with
 |zero=>
  intro n r h;show 0<n+r;omega
 |succ f ih=>
  intro n r h;rw[minRun'_succ]
  split
  ·omega
  ·exact ih _ _ (by omega)
theorem eqp{α:Type}{p p':StateT SortSt Sem α}{Q:α→SortSt→Prop}(h:p=p')(g:wpS (model prog w) A E s p' Q st):wpS (model prog w) A E s p Q st:=by
 rw[h];exact g
theorem runs_all{Q:Unit→SortSt→Prop}(hc:aX prog w A s κ kd)(hk:KeysOf κ xs0)(b:Sst kd xs0 st)(h1:1≤xs0.size)(fin:∀u,(arrOf u).Perm xs0→failedOf u=none→Rz κ (arrOf u) xs0.size→Q () u):wpS (model prog w) A E s sortRuns' Q st:=by
 rw[sortRuns'_eq];refine zS (Cy ?_);simp only[b.sz];have s0:SR κ kd xs0 0 st:=⟨b.pm,b.kn,b.fl,by show Tile κ _ 0 ((pendingOf st).toList.map pr) 0;rw[b.pd];rfl,BI _⟩;have mp:=tU xs0.size xs0.size 0 (by omega);generalize minRun' xs0.size xs0.size 0=mr at mp⊢;refine zS (Bf (AW (β:=Option Unit×Nat) (Q:=fun c u=>c=(none,xs0.size)∧SR κ kd xs0 xs0.size u) (fun x c u=>∃lo,c=(none,lo)∧x≤lo∧SR κ kd xs0 lo u) ?_ ?_ ⟨0,rfl,zD _,s0⟩) ?_)
 ·rintro x _ u _ hx ⟨lo,rfl,xl,bu⟩;have le:=bu.le;have sz:=bu.sz;dsimp only
  rcases AE lo xs0.size with c | c
  ·rw[pi (by omega)];have sl:Sl kd u lo u:=⟨Array.Perm.refl _,bu.kn,rfl,bu.fl,fun _ _=>rfl⟩;refine zS (sQ hc (bu.keys hk) (by omega) (by omega) sl fun l v bv l1 l2 r=>?_);dsimp only;have fin2:∀n v,0<n→SR κ kd xs0 (lo+n) v→∃lo',((none:Option Unit),lo+n)=(none,lo')∧x+1≤lo'∧SR κ kd xs0 lo' v:=fun n v hn h=>⟨lo+n,rfl,by omega,h⟩
   rcases AE l mr with d | d
   ·rw[zE d];refine zS (m:=liftM (rule _)) (wpS_lift (Bo ⟨rfl,?_⟩));refine zS (zw hc (bu.keys hk) (n:=min (xs0.size-lo) mr) (by omega) (by omega) bv r fun y by' r3=>?_);rw[Bool.not_true,pi zK];refine eqp (p':=fq xs0.size lo (min (xs0.size-lo) mr)) ?_ ?_
    ·unfold fq mgl;refine bnd rfl fun u2=>?_;cases hb:(pendingOf u2).back? with
     |none=>rfl
     |some p=>
      obtain⟨s1,m1,pw⟩:=p;dsimp only;refine bnd ?_ fun c=>?_
      ·congr 1
      ·obtain⟨r4,u4⟩:=c;cases r4 <;> rfl
    refine Bf (jE (size:=xs0.size) (Q:=fun r v=>r=.yield (none,lo+min (xs0.size-lo) mr)∧SR κ kd xs0 (lo+min (xs0.size-lo) mr) v) hc hk (uU bu by') (by omega) (by omega) (mo r3) fun v hv=>⟨rfl,hv⟩) ?_;rintro _ v ⟨rfl,hv⟩;exact fin2 _ v (by omega) hv
   ·rw[pi (by omega)];refine eqp (p':=fq xs0.size lo (l)) ?_ ?_
    ·unfold fq mgl;refine bnd rfl fun u2=>?_;cases hb:(pendingOf u2).back? with
     |none=>rfl
     |some p=>
      obtain⟨s1,m1,pw⟩:=p;dsimp only;refine bnd ?_ fun c=>?_
      ·congr 1
      ·obtain⟨r4,u4⟩:=c;cases r4 <;> rfl
    refine Bf (jE (size:=xs0.size) (Q:=fun r v=>r=.yield (none,lo+l)∧SR κ kd xs0 (lo+l) v) hc hk (uU bu bv) (by omega) (by omega) (mo r) fun v hv=>⟨rfl,hv⟩) ?_;rintro _ v ⟨rfl,hv⟩;exact fin2 _ v (by omega) hv
  ·rw[zE c];obtain rfl:lo=xs0.size:=by omega
   exact zQ ⟨rfl,bu⟩
 ·rintro _ u ⟨lo,rfl,xl,bu⟩;have le:=bu.le;obtain rfl:lo=xs0.size:=by omega
  exact⟨rfl,bu⟩
 ·rintro _ u ⟨rfl,bu⟩;dsimp only;have pl:=bu.til.le;rw[az,zU]at pl;refine zS (Bf (AW (Q:=fun c v=>c=(none,())∧SR κ kd xs0 xs0.size v∧(pendingOf v).size≤1) (fun x c v=>c=(none,())∧SR κ kd xs0 xs0.size v∧((pendingOf v).size≤1∨(pendingOf v).size+x≤xs0.size)) ?_ ?_ ⟨rfl,bu,.inr (by omega)⟩) ?_)
  ·rintro x _ v _ hx ⟨rfl,bv,h⟩;refine zS (Cy ?_)
   rcases AE 1 (pendingOf v).size with c | c
   ·rw[pi (by omega)];have next:∀i,i+1<(pendingOf v).size→wpS (model prog w) A E s (do
      let r ←mergeAt' i
      if (!r)=true then pure (ForInStep.done (some (),()))else pure (ForInStep.yield ((none:Option Unit),()))) (fun r CP=>match r with
       |.done c'=>c'=(none,())∧SR κ kd xs0 xs0.size CP∧(pendingOf CP).size≤1
       |.yield c'=>c'=(none,())∧SR κ kd xs0 xs0.size CP∧((pendingOf CP).size≤1∨(pendingOf CP).size+(x+1)≤xs0.size)) v:=fun i hi=>
     zS (iZ hc hk bv hi fun z bz hz _=>zQ ⟨rfl,bz,by omega⟩)
    refine Bf (next _ ?_) fun r z hz=>?_
    ·repeat' split
     all_goals omega
    ·cases r with
     |done c'=>exact hz
     |yield c'=>exact hz
   ·rw[zE c];exact zQ ⟨rfl,bv,c⟩
  ·rintro _ v ⟨rfl,bv,h⟩;have:=bv.til.le;rw[az,zU]at this;exact⟨rfl,bv,by omega⟩
  ·rintro _ v ⟨rfl,bv,h⟩;refine zQ (fin v bv.pm bv.fl ?_);have t:=bv.til;have sz:=bv.sz;cases hq:pq v with
   |nil=>
    rw[hq]at t;have t:0=xs0.size:=t;omega
   |cons p ps=>
    have pz:(pq v).length≤1:=by rw[az,zU];exact h
    rw[hq]at t pz;rw[Ak]at pz;obtain rfl:ps=[]:=List.length_eq_zero_iff.mp (by omega);obtain⟨t1,t2,t3,t4⟩:=t;have t4:0+p.2=xs0.size:=t4;rw[Bs]at t4;have t1:p.1=0:=t1;rw[t1,t4]at t3;exact Rz.of_srt t3 (by omega)
end
end L2T
namespace L2
open PySem PySem.Spec PyProof.Rows
variable{prog:Program}{w:World}{A:Around}{E:Value→Shared→Prop}{s:Shared}
section
theorem Na{M:Model}{β:Type}{f:Value→Sem β}(F:β→Prop):∀(vs:List Value),(∀v∈vs,∃y,F y∧∀Q:β→Shared→Prop,Q y s→wpAny M A (f v) Q E s)→∃ys:List β,ys.length=vs.length∧(∀y∈ys,F y)∧∀Q:List β→Shared→Prop,Q ys s→wpAny M A (vs.mapM f) Q E s
 | [],_=>⟨[],rfl,(fun _ h=>nomatch h),fun Q q=>by rw[List.mapM_nil];exact zC q⟩
 |v::vs,h=>by
  obtain⟨y,fy,hy⟩:=h v (.head _);obtain⟨ys,l,fys,hys⟩:=Na F vs fun x hx=>h x (.tail _ hx);refine⟨y::ys,by rw[Ak,Ak,l],fun z hz=>?_,fun Q q=>?_⟩
  ·rcases zZ.mp hz with e | e
   ·rw[e];exact fy
   ·exact fys z e
  ·rw[List.mapM_cons];exact ae (hy _ (ae (hys _ (zC q))))
theorem pZ(v:Value):firstOfTuple' v=(do
  if (←typeOf v) != .type "tuple" then return none
  return (←Builtin.List.listItems v)[0]?):=rfl
variable{O U:KeyOrd}{R:Heap→Value→O.α→Prop}{S:Heap→Value→U.α→Prop}{T V:String}
theorem ng(e:El prog w O R T){vs:List Value}(h:∀v∈vs,∃a,bq R S s.heap v a)(hn:vs≠[]){Q:SortKind→Shared→Prop}(q:Q (tuples' (decide (T≠"tuple"))) s):wpAny (model prog w) A (keyKind' vs.toArray) Q E s:=by
 rw[keyKind'_eq,List.mapM_toArray];obtain⟨ys,yl,yf,hy⟩:=Na (M:=model prog w) (A:=A) (E:=E) (s:=s) (f:=firstOfTuple') (fun y=>∃x,y=some x∧s.TypeIs x T) vs fun v hv=>by
  obtain⟨a,c,o,n,x,y,rfl,ho,hc,hd,h1,h2⟩:=h v hv;refine⟨some x,⟨x,rfl,e.ty h1⟩,fun Q q=>?_⟩;rw[pZ];refine ae (Br (T:="tuple") ⟨o,ho,hc⟩ ?_);rw[pi (by decide)];exact ae (listItems_at ho hd (zC q))
 refine ae (wpAny_map ?_);refine hy _ ?_;have al:ys.toArray.all (·.isSome)=true:=by
  rw[List.all_toArray,Az];intro y hy;obtain⟨x,rfl,_⟩:=yf y hy;rfl
 rw[zE al];refine ae (Bo ?_);rw[oneTypeOnly'_eq,List.filterMap_toArray,List.mapM_toArray];have ht:∀x∈ys.filterMap id,s.TypeIs x T:=fun x hx=>by
  obtain⟨y,hy,ey⟩:=Bm.mp hx;obtain⟨x',rfl,t⟩:=yf y hy;cases (show x'=x from Aa ey);exact t
 obtain⟨ts,tl,tf,htt⟩:=Na (M:=model prog w) (A:=A) (E:=E) (s:=s) (f:=typeOf) (fun y=>y=.type T) (ys.filterMap id) fun v hv=>⟨_,rfl,fun Q q=>Br (ht v hv) q⟩;refine ae (ae (wpAny_map ?_));refine htt _ ?_;have fl:(ys.filterMap id).length=ys.length:=by
  clear hy al ht htt tl tf yl
  induction ys with
  |nil=>rfl
  |cons y ys ih=>
   obtain⟨x,rfl,_⟩:=yf y (.head _);rw[show List.filterMap id (some x::ys)=x::ys.filterMap id from rfl,Ak,Ak,ih fun z hz=>yf z (.tail _ hz)]
 cases ts with
 |nil=>
  rw[AO,fl,yl]at tl;exact absurd (List.eq_nil_of_length_eq_zero tl.symm) hn
 |cons t ts=>
  have t0:t=.type T:=tf t (.head _);subst t0;show wpAny _ _ (pure (if ((Value.type T::ts).toArray.all (· == Value.type T))=true then some (Value.type T)else none)) _ _ s;rw[zE (by
   rw[List.all_toArray,Az];intro y hy;rw[tf y hy];exact beq_self_eq_true _)]
  refine zC (zC ?_);have z:(some (Value.type T)).any (· != Value.type "tuple")=decide (T≠"tuple"):=by
   show(Value.type T != Value.type "tuple")=_;rw[AN,bne_iff_ne,BK];exact⟨fun h e=>h (by rw[e]),fun h e=>h (by injection e)⟩
  rw[z];exact q
def wz{O:KeyOrd}(R:Value→O.α→Prop)(vs:List Value):Prop:=vs.Pairwise fun x y=>∀a b,R x a→R y b→O.blt b a=false
theorem iQ{vs:List Value}{p:Value×Value}(h:p∈vs.zip vs):p.1=p.2∧p.1∈vs:=mem_zip_self h
theorem kR{O:KeyOrd}{R:Value→O.α→Prop}(fn:∀{v a b},R v a→R v b→a=b){d:O.α}{vs:List Value}(hk:∀v∈vs,∃a,R v a){xs:Array Keyed}(pm:xs.Perm (pairsOf vs))(r:Rz (fc O R d) xs (pairsOf vs).size):
  (xs.map (·.2)).toList.Perm vs∧wz R (xs.map (·.2)).toList:=by
 have pl:xs.toList.Perm (vs.zip vs):=by rw[←pairsOf_toList];exact BN.mp pm
 have both:∀p∈xs.toList,p.1=p.2∧p.1∈vs:=fun p hp=>iQ (pl.mem_iff.mp hp);rw[Array.toList_map];constructor
 ·have q:=pl.map Prod.snd;rw[List.map_snd_zip (zD _)]at q;exact q
 ·unfold wz;rw[BP];intro i j hi hj hij a b ha hb;rw[az]at hi hj;have hi':i<xs.size:=by rw[←zU];exact hi
  have hj':j<xs.size:=by rw[←zU];exact hj
  have key:∀{k:Nat}(hk':k<xs.size){c:O.α},R xs[k].2 c→KK (fc O R d) xs k=c:=by
   intro k hk' c hc;have e:=(both xs[k] (Cj.mpr (Array.getElem_mem hk'))).1;rw[←e]at hc;obtain⟨c',h'⟩:=my (d:=d) hc;have:c'=c:=fn (gP h') hc;unfold KK;rw[zJ hk'];show((fc O R d).keyOf xs[k].1).getD _=c;rw[h',this];rfl
  rw[List.getElem_map,Array.getElem_toList]at ha hb;have q:=r i j (Bq hij) (by rw[←pm.size_eq];exact hj');rw[key hi' ha,key hj' hb]at q;exact q
theorem i5{h:Heap}{l b:Addr}{g:Obj→Obj}{o1 o2:Obj}(lt:b<h.objs.size):(((h.update l g).push o1).push o2).get? b=(h.update l g).get? b:=by
 have l1:b<(h.update l g).objs.size:=by rw[Heap.size_update];exact lt
 rw[Heap.get?_push_ne _ _ _ (zX (by rw[size_push'];exact Nat.lt_succ_of_lt l1)),Heap.get?_push_ne _ _ _ (zX l1)]
theorem oG{h:Heap}{l:Addr}{vs:List Value}{n:Nat}(ho:h.get? l=some (seqObj "list" vs.toArray n))(o1 o2:Obj):dq h (((h.update l (Obj.mapSeq fun _=>#[])).push o1).push o2):=by
 intro b o hb hc;have ne:b≠l:=fun z=>by
  rw[z,ho]at hb;cases hb;exact absurd hc (by show ¬Value.type "list"=Value.type "tuple";intro z;injection z with z;exact absurd z (by decide))
 have lt:=zN hb;rw[i5 lt,Heap.get?_update_ne _ _ _ _ ne];exact hb
theorem j_(e:El prog w O R T)(f:El prog w U S V){l:Addr}{vs:List Value}{n:Nat}{P:Fin→Shared→Prop}(ho:s.heap.get? l=some (seqObj "list" vs.toArray n))(hk:∀v∈vs,∃a,bq R S s.heap v a)(h64:vs.length<1000)(hu:A.units+8<cLine)(d:O.α×U.α)(fin:∀out:Array Value,out.toList.Perm vs→wz (O:=cx O U) (bq R S s.heap) out.toList→P (.done (.ret .none)) {s with heap:=sortedHeap s.heap l vs out}):wpAny (model prog w) A (Builtin.«list.sort» ⟨[.ref l],[]⟩) P E s:=by
 rw[list_sort_plain];refine ae (listItems_at ho rfl ?_);refine ae (listUpdate_at ho rfl ?_);obtain⟨e1,ho1⟩:∃m,(s.heap.update l (Obj.mapSeq fun _=>#[])).get? l=some (seqObj "list" #[] m):=⟨_,get?_update_seq ho fun _=>#[]⟩;refine ae (seqEpoch_at ho1 rfl ?_);refine ae (wpAny_newTuple ?_);refine ae (wpAny_newList ?_);refine Ax ?_;have ll:=zN ho;have ho2:(((s.heap.update l (Obj.mapSeq fun _=>#[])).push (seqObj "tuple" vs.toArray 0)).push (seqObj "list" #[] 0)).get? l=some (seqObj "list" #[] e1):=by
  rw[i5 ll];exact ho1
 have st:=oG ho (seqObj "tuple" vs.toArray 0) (seqObj "list" #[] 0);have hk':∀v∈vs,∃a,bq R S (((s.heap.update l (Obj.mapSeq fun _=>#[])).push (seqObj "tuple" vs.toArray 0)).push (seqObj "list" #[] 0)) v a:=fun v hv=>let ⟨a,h⟩:=hk v hv;⟨a,Wq e f st h⟩
 have back:∀{v a},v∈vs→bq R S s.heap v a→bq R S (((s.heap.update l (Obj.mapSeq fun _=>#[])).push (seqObj "tuple" vs.toArray 0)).push (seqObj "list" #[] 0)) v a:=fun _ h=>Wq e f st h;show wpAny (model prog w) A _ P E {s with heap:=((s.heap.update l (Obj.mapSeq fun _=>#[])).push (seqObj "tuple" vs.toArray 0)).push (seqObj "list" #[] 0)};dsimp only;have vsz:vs.toArray.size=vs.length:=z8;have finish:∀u:SortSt,(arrOf u).Perm (pairsOf vs)→failedOf u=none→Rz (fc (cx O U) (bq R S (((s.heap.update l (Obj.mapSeq fun _=>#[])).push (seqObj "tuple" vs.toArray 0)).push (seqObj "list" #[] 0))) d) (arrOf u) (pairsOf vs).size→
   P (.done (.ret .none)) {s with heap:=sortedHeap s.heap l vs ((arrOf u).map (·.2))}:=fun u pm _ r=>by
  obtain⟨p1,p2⟩:=kR (O:=cx O U) (R:=bq R S (((s.heap.update l (Obj.mapSeq fun _=>#[])).push (seqObj "tuple" vs.toArray 0)).push (seqObj "list" #[] 0))) (fun h g=>l8 e f h g) hk' pm r;exact fin _ p1 (p2.imp_of_mem fun{x y} hx hy h a b ha hb=>h a b (back (p1.mem_iff.mp hx) ha) (back (p1.mem_iff.mp hy) hb))
 by_cases c:vs.toArray.size<2
 ·rw[zE c,zE c];refine ae (zC ?_);rw[StateT.run_pure];refine ae (zC ?_);dsimp only;refine ae (seqEpoch_at ho2 rfl ?_);refine ae (listUpdate_at ho2 rfl ?_ (hsz2:=by rw[Array.size_map];show(pairsOf vs).size≤_;rw[pairsOf_size];exact At (Bq h64) (by decide)));rw[show(e1 != e1)=false from bne_self_eq_false e1];rw[pi zK];refine zC (finish (SortSt.mk' general' (vs.toArray.zip vs.toArray) #[] 7 none) (Array.Perm.refl _) rfl fun i j hij hj=>?_);obtain rfl:i=j:=by rw[pairsOf_size]at hj;omega
  exact(fc (cx O U) _ d).irrefl _
 ·rw[pi c,pi c];have vn:vs≠[]:=fun z=>by rw[z]at c;exact c (by decide)
  refine ae (ng (O:=O) (U:=U) e hk' vn ?_);have hc:=pC (A:=A) (s:={s with heap:=((s.heap.update l (Obj.mapSeq fun _=>#[])).push (seqObj "tuple" vs.toArray 0)).push (seqObj "list" #[] 0)}) e f hu d (decide (T≠"tuple")) (fun z=>zO z);refine ae (AU (L2T.runs_all (E:=E) (xs0:=pairsOf vs) (st:=SortSt.mk' (tuples' (decide (T≠"tuple"))) (vs.toArray.zip vs.toArray) #[] 7 none) (Q:=fun _ u=>(arrOf u).Perm (pairsOf vs)∧failedOf u=none∧Rz _ (arrOf u) (pairsOf vs).size) hc
   (fun p hp=>?_) ⟨Array.Perm.refl _,rfl,rfl,rfl⟩ (by rw[pairsOf_size];omega) fun u a1 a2 a3=>⟨a1,a2,a3⟩) ?_ fun _ _ z=>z)
  ·rw[pairsOf_toList]at hp;obtain⟨a,ha⟩:=hk' p.1 (iQ hp).2;exact my ha
  rintro⟨⟨⟩,u⟩ s2 ⟨rfl,pm,fl,r⟩;dsimp only;refine ae (seqEpoch_at ho2 rfl ?_);refine ae (listUpdate_at ho2 rfl ?_ (hsz2:=by rw[Array.size_map];exact At (Nat.le_of_eq (pm.size_eq.trans (pairsOf_size _))) (At (Bq h64) (by decide))));rw[fl];rw[show(e1 != e1)=false from bne_self_eq_false e1];rw[pi zK];exact zC (finish u pm fl r)
end
section
variable{X:Cx}
theorem nj{as:List Addr}{out:List Value}(h:out.Perm (as.map Value.ref)):∃bs:List Addr,bs.Perm as∧out=bs.map Value.ref:=by
 let g:Value→Addr:=fun v=>match v with | .ref a=>a | _=>0
 refine⟨out.map g,?_,?_⟩
 ·have q:=h.map g;rw[Al]at q;rw[show(g∘Value.ref)=id from rfl,List.map_id]at q;exact q
 ·rw[Al];have e:∀l:List Value,(∀v∈l,∃a,v=.ref a)→l=l.map (Value.ref∘g):=fun l hl=>by
   induction l with
   |nil=>rfl
   |cons v l ih=>
    obtain⟨a,rfl⟩:=hl v (.head _);rw[zH,←ih fun x hx=>hl x (.tail _ hx)];rfl
  exact e out fun v hv=>by
   obtain⟨a,_,rfl⟩:=zF.mp (h.mem_iff.mp hv);exact⟨a,rfl⟩
theorem kA{CA:List (Addr×Obj)}{σ:St}{H:Hp}{s:Shared}{a:Addr}{x y:V}(I:Inv X CA σ H s)(h:H a=some (.tup [x,y])):∃o n u v,s.heap.get? a=some o∧o.cls=.type "tuple"∧o.data=.seq #[u,v] n∧RelV x u∧RelV y v:=by
 obtain⟨_,its,r,o,e1,e2,n,e3⟩:=(show ObjOk X.prog X.w H s.heap a (.tup [x,y])from I.hok a _ h);obtain⟨u,v,rfl,ru,rv⟩:=qX r;exact⟨o,n,u,v,e1,e2.1,e3,ru,rv⟩
def FII(H:Hp)(a:Addr)(k:(cx aL aL).α):Prop:=∃(i j:Int),H a=some (.tup [.int i,.int j])∧k=(i,j)
def FTI(H:Hp)(a:Addr)(k:(cx (cx aL aL) aL).α):Prop:=∃(b:Addr)(i j n:Int),H a=some (.tup [.ref b,.int n])∧H b=some (.tup [.int i,.int j])∧k=((i,j),n)
end
def RwD(h:Heap)(d:Addr)(es:Array DictEntry)(ep:Nat):Prop:=∃o,h.get? d=some o∧o.ExactDict∧o.data=.dict es ep
theorem RwD.typeIs{s:Shared}{d:Addr}{es:Array DictEntry}{ep:Nat}(x:RwD s.heap d es ep):s.TypeIs (.ref d) "dict":=let ⟨o,h,c,_⟩:=x;⟨o,h,c.1⟩
theorem RwD.at{h g:Heap}{d:Addr}{es:Array DictEntry}{ep:Nat}(x:RwD h d es ep)(k:∀o,h.get? d=some o→g.get? d=some o):RwD g d es ep:=let ⟨o,h,r⟩:=x;⟨o,k _ h,r⟩
theorem RwD.lt{h:Heap}{d:Addr}{es:Array DictEntry}{ep:Nat}(x:RwD h d es ep):d<h.objs.size:=let ⟨_,h,_⟩:=x;zN h
theorem Up:Builtin.Dict_items.ownsTuple "dict_keyiterator"=false∧Builtin.Dict_items.ownsTuple "dict_valueiterator"=false∧Builtin.Dict_items.ownsTuple "dict_itemiterator"=true:=by decide
theorem Vs(d:Addr):¬((Value.ref d==Value.none)=true):=zK
section
variable{prog:Program}{w:World}{A:Around}{E:Value→Shared→Prop}{s:Shared}{it d:Addr}{i ep:Nat}{es:Array DictEntry}
theorem bP{α β:Type}{M:Model}{a:α}{k:α→Sem β}{Q:β→Shared→Prop}(h:wpAny M A (k a) Q E s):wpAny M A (pure a >>= k) Q E s:=ae (zC h)
theorem T4{T id:String}{B:Builtin}{Q:Option Value→Shared→Prop}(ty:s.TypeIs (.ref it) T)(sl:Slot T (Str.ofString "__next__") id)(en:entryFor table id=some B)(ar:argsOk id {pos:=[.ref it]})(h:wpAny (model prog w) A.in1 (B ⟨[.ref it],[]⟩) (fun fin s'=>∃v,fin=.done (.ret v)∧Q (some v) s') (fun e s'=>s'.TypeIs e "StopIteration"∧Q none s') s):wpAny (model prog w) A (pyNext (.ref it)) Q E s:=by
 unfold pyNext;refine ae (wpAny_attempt (wpAny_callSpecial?_slotG ty sl.toG (AU (A4 sl ty en (Q:=fun v s'=>Q (some v) s') h ar) (fun v s' q=>zC q) (fun e s' q=>?_))));exact ae (wpAny_isInstance q.1 isSubtype_stop (by rw[zE rfl];exact zC q.2))
theorem lX{Q:Option Value→Shared→Prop}(zi:s.heap.IsKeyIter it d i es.size ep)(zm:RwD s.heap d es ep)(zx:i<es.size)(zq:∀g:Heap,g.IsKeyIter it d (i+1) es.size ep→Heap.SameBut it s.heap g→Q (some es[i].key) {s with heap:=g}):wpAny (model prog w) A (pyNext (.ref it)) Q E s:=by
 obtain⟨o,go,co,fo⟩:=id zi;obtain⟨od,yo,_,yd⟩:=zm;refine T4 zi.typeIs PySem.F.slot_dict_keyiterator_next PySem.F.entry_dict_keyiterator_next (PySem.F.args_dict_keyiterator_next_1 _) (bP (ae (ae (ae (Bw zi.typeIs (zC (ae (Cn go fo ?_))))))));simp only[Up.1,Bool.false_eq_true,if_false];show wpAny (model prog w) _ (if (Value.ref d==Value.none)=true then _ else _) _ _ s;rw[pi (Vs d)];refine bP (ae (Av yo yd ?_));rw[if_neg (by simp)];refine bP (wpAny_bind (wpAny_dictEpoch yo yd ?_));rw[if_neg (by simp)];refine wpAny_pure ?_;simp only[show ¬((i:Int)<0)from by omega,if_false,Int.toNat_natCast,Array.getElem?_eq_getElem zx];refine ae (ae (Bw zi.typeIs (zC (ae (wpAny_isOneOf_keyiter zi.typeIs ?_)))));show wpAny _ _ (setField (.ref it) 1 (rawInt ((i:Int)+1)) >>= fun _=>_) _ _ s;refine wpAny_bind (wpAny_setField go fo (by simp) ?_);have zj:(s.heap.update it (Obj.mapFields (·.setIfInBounds 1 (rawInt ((i:Int)+1))))).IsKeyIter it d (i+1) es.size ep:=⟨_,Heap.get?_update_self _ go (Obj.isFreed_of_fields (Obj.data_mapFields fo _)),(Obj.cls_mapFields ..).trans co,by rw[Obj.data_mapFields fo];simp[rawInt]⟩;have ty:Shared.TypeIs {s with heap:=s.heap.update it (Obj.mapFields (·.setIfInBounds 1 (rawInt ((i:Int)+1))))} (.ref it) "dict_keyiterator":=zj.typeIs;refine ae (Ax (ae (wpAny_isOneOf_keyiter ty ?_)));show wpAny _ _ (pure es[i].key) _ _ {s with heap:=_};exact zC (zC ⟨_,rfl,zq _ zj (Heap.SameBut.update ..)⟩)
theorem mI{Q:Option Value→Shared→Prop}(zh:A.handled=none)(zi:s.heap.IsKeyIter it d i es.size ep)(zm:RwD s.heap d es ep)(zx:es.size≤i)(zq:∀g:Heap,Heap.ExtBut it s.heap g→Q none {s with heap:=g}):wpAny (model prog w) A (pyNext (.ref it)) Q E s:=by
 obtain⟨o,go,co,fo⟩:=id zi;obtain⟨od,yo,_,yd⟩:=zm;refine T4 zi.typeIs PySem.F.slot_dict_keyiterator_next PySem.F.entry_dict_keyiterator_next (PySem.F.args_dict_keyiterator_next_1 _) (bP (ae (ae (ae (Bw zi.typeIs (zC (ae (Cn go fo ?_))))))));simp only[Up.1,Bool.false_eq_true,if_false];show wpAny (model prog w) _ (if (Value.ref d==Value.none)=true then _ else _) _ _ s;rw[pi (Vs d)];refine bP (ae (Av yo yd ?_));rw[if_neg (by simp)];refine bP (wpAny_bind (wpAny_dictEpoch yo yd ?_));rw[if_neg (by simp)];refine wpAny_pure ?_;simp only[show ¬((i:Int)<0)from by omega,if_false,Int.toNat_natCast,Array.getElem?_eq_none zx];refine ae (ae (Bw zi.typeIs (zC ?_)));show wpAny _ _ (setField (.ref it) 0 .none >>= fun _=>_) _ _ s;refine wpAny_bind (wpAny_setField go fo (by simp) (To (by simpa using zh) fun g e k ty=>⟨ty,zq g fun b u nb eb=>k b u ?_⟩));exact(A5 _ _ (Ne.symm nb)).trans eb
theorem t_{Q:Option Value→Shared→Prop}(zi:s.heap.IsValIter it d i es.size ep)(zm:RwD s.heap d es ep)(zx:i<es.size)(zq:∀g:Heap,g.IsValIter it d (i+1) es.size ep→Heap.SameBut it s.heap g→Q (some es[i].val) {s with heap:=g}):wpAny (model prog w) A (pyNext (.ref it)) Q E s:=by
 obtain⟨o,go,co,fo⟩:=id zi;obtain⟨od,yo,_,yd⟩:=zm;refine T4 zi.typeIs PySem.F.slot_dict_valueiterator_next PySem.F.entry_dict_valueiterator_next (PySem.F.args_dict_valueiterator_next_1 _) (bP (ae (ae (ae (Bx zi.typeIs (zC (ae (Cn go fo ?_))))))));simp only[Up.2.1,Bool.false_eq_true,if_false];show wpAny (model prog w) _ (if (Value.ref d==Value.none)=true then _ else _) _ _ s;rw[pi (Vs d)];refine bP (ae (Av yo yd ?_));rw[if_neg (by simp)];refine bP (wpAny_bind (wpAny_dictEpoch yo yd ?_));rw[if_neg (by simp)];refine wpAny_pure ?_;simp only[show ¬((i:Int)<0)from by omega,if_false,Int.toNat_natCast,Array.getElem?_eq_getElem zx];refine ae (ae (Bx zi.typeIs (zC (ae (wpAny_isOneOf_valiter zi.typeIs ?_)))));show wpAny _ _ (setField (.ref it) 1 (rawInt ((i:Int)+1)) >>= fun _=>_) _ _ s;refine wpAny_bind (wpAny_setField go fo (by simp) ?_);have zj:(s.heap.update it (Obj.mapFields (·.setIfInBounds 1 (rawInt ((i:Int)+1))))).IsValIter it d (i+1) es.size ep:=⟨_,Heap.get?_update_self _ go (Obj.isFreed_of_fields (Obj.data_mapFields fo _)),(Obj.cls_mapFields ..).trans co,by rw[Obj.data_mapFields fo];simp[rawInt]⟩;have ty:Shared.TypeIs {s with heap:=s.heap.update it (Obj.mapFields (·.setIfInBounds 1 (rawInt ((i:Int)+1))))} (.ref it) "dict_valueiterator":=zj.typeIs;refine ae (Ax (ae (wpAny_isOneOf_valiter ty ?_)));refine ae (wpAny_isOneOf_valiter ty ?_);show wpAny _ _ (pure es[i].val) _ _ {s with heap:=_};exact zC (zC ⟨_,rfl,zq _ zj (Heap.SameBut.update ..)⟩)
theorem tj{Q:Option Value→Shared→Prop}(zh:A.handled=none)(zi:s.heap.IsValIter it d i es.size ep)(zm:RwD s.heap d es ep)(zx:es.size≤i)(zq:∀g:Heap,Heap.ExtBut it s.heap g→Q none {s with heap:=g}):wpAny (model prog w) A (pyNext (.ref it)) Q E s:=by
 obtain⟨o,go,co,fo⟩:=id zi;obtain⟨od,yo,_,yd⟩:=zm;refine T4 zi.typeIs PySem.F.slot_dict_valueiterator_next PySem.F.entry_dict_valueiterator_next (PySem.F.args_dict_valueiterator_next_1 _) (bP (ae (ae (ae (Bx zi.typeIs (zC (ae (Cn go fo ?_))))))));simp only[Up.2.1,Bool.false_eq_true,if_false];show wpAny (model prog w) _ (if (Value.ref d==Value.none)=true then _ else _) _ _ s;rw[pi (Vs d)];refine bP (ae (Av yo yd ?_));rw[if_neg (by simp)];refine bP (wpAny_bind (wpAny_dictEpoch yo yd ?_));rw[if_neg (by simp)];refine wpAny_pure ?_;simp only[show ¬((i:Int)<0)from by omega,if_false,Int.toNat_natCast,Array.getElem?_eq_none zx];refine ae (ae (Bx zi.typeIs (zC ?_)));show wpAny _ _ (setField (.ref it) 0 .none >>= fun _=>_) _ _ s;refine wpAny_bind (wpAny_setField go fo (by simp) (To (by simpa using zh) fun g e k ty=>⟨ty,zq g fun b u nb eb=>k b u ?_⟩));exact(A5 _ _ (Ne.symm nb)).trans eb
theorem mw{Q:Value→Shared→Prop}(lo:(d==sysModules)=false)(zm:RwD s.heap d es ep)(zq:Q (.ref s.heap.objs.size) {s with heap:=s.heap.push {cls:=.type "dict_keyiterator",data:=.fields #[.ref d,.int 0 0,.int es.size 0,.int ep 0]}}):wpAny (model prog w) A (pyIter (.ref d)) Q E s:=by
 obtain⟨o,yo,_,yd⟩:=id zm;refine wpAny_pyIter_slot zm.typeIs PySem.F.slot_dict_iter (A4 PySem.F.slot_dict_iter zm.typeIs PySem.F.entry_dict_iter (ae (ae (Ba zm.typeIs ?_))) (PySem.F.args_dict_iter_1 _));show wpAny (model prog w) _ (pure (Value.ref d)) _ _ s;refine zC (show wpAny (model prog w) _ (Builtin.Dict.showsAll d >>= fun _=>_) _ _ s from ae ?_);unfold Builtin.Dict.showsAll;rw[lo,pi (by decide)];refine zC (ae (Av yo yd (ae (Cq yo yd (ae (AZ (zC ⟨_,rfl,"dict_keyiterator",_,⟨_,zY _ rfl,rfl⟩,PySem.F.slot_dict_keyiterator_next.lookup,?_⟩)))))));simpa [rawInt] using zq
theorem sT{v:Addr}{Q:Value→Shared→Prop}(zv:s.heap.IsValuesView v d)(zm:RwD s.heap d es ep)(zq:Q (.ref s.heap.objs.size) {s with heap:=s.heap.push {cls:=.type "dict_valueiterator",data:=.fields #[.ref d,.int 0 0,.int es.size 0,.int ep 0]}}):wpAny (model prog w) A (pyIter (.ref v)) Q E s:=by
 obtain⟨ov,vo,_,vd⟩:=id zv;obtain⟨o,yo,_,yd⟩:=id zm;refine wpAny_pyIter_slot zv.typeIs PySem.F.slot_dict_values_iter (A4 PySem.F.slot_dict_values_iter zv.typeIs PySem.F.entry_dict_values_iter (bP (ae (ae (BH vo vd (x:=.ref d) rfl (zC (ae ?_)))))) (PySem.F.args_dict_values_iter_1 _));unfold Builtin.Dict_items.newIterator;skip;refine ae (Av yo yd (ae (Cq yo yd ?_)));simp only[Up.2.1,Bool.false_eq_true,if_false];refine wpAny_newObj_type (wpAny_pure ⟨_,rfl,"dict_valueiterator",_,⟨_,Heap.get?_push_size _ rfl,rfl⟩,PySem.F.slot_dict_valueiterator_next.lookup,by simpa [rawInt] using zq⟩)
theorem qo(zh:A.handled=none)(I d:Addr)(ne:d≠I)(es:Array DictEntry)(ep:Nat):Walks prog w A I [I,d] [I] es.size (fun i v=>∃e,es[i]?=some e∧v=e.key) (fun i h=>h.IsKeyIter I d i es.size ep∧RwD h d es ep) where
 sub:=fun b zb=>by rw[zG.mp zb];exact .head _
 frame:=fun _ _ _ st k=>⟨st.1.at fun o e=>k I (.head _) o e,st.2.at fun o e=>k d (.tail _ (.head _)) o e⟩
 item:=fun i s Q E zi st q=>lX st.1 st.2 zi fun g z sb=>q _ g s.toks ⟨_,zJ zi,rfl⟩ ⟨z,st.2.at fun o e=>sb.extBut d o ne e⟩ fun b o nb e=>sb.extBut b o (fun z=>nb (by rw[z];exact .head _)) e
 done:=fun s Q E st q=>mI zh st.1 st.2 (zD _) fun g x=>q g s.toks fun b o nb e=>x b o (fun z=>nb (by rw[z];exact .head _)) e
 self:=fun _ _ _ _ st q=>wpAny_pyIter_keyiter st.1 q
theorem qZ(zh:A.handled=none)(I d:Addr)(ne:d≠I)(es:Array DictEntry)(ep:Nat):Walks prog w A I [I,d] [I] es.size (fun i v=>∃e,es[i]?=some e∧v=e.val) (fun i h=>h.IsValIter I d i es.size ep∧RwD h d es ep) where
 sub:=fun b zb=>by rw[zG.mp zb];exact .head _
 frame:=fun _ _ _ st k=>⟨st.1.at fun o e=>k I (.head _) o e,st.2.at fun o e=>k d (.tail _ (.head _)) o e⟩
 item:=fun i s Q E zi st q=>t_ st.1 st.2 zi fun g z sb=>q _ g s.toks ⟨_,zJ zi,rfl⟩ ⟨z,st.2.at fun o e=>sb.extBut d o ne e⟩ fun b o nb e=>sb.extBut b o (fun z=>nb (by rw[z];exact .head _)) e
 done:=fun s Q E st q=>tj zh st.1 st.2 (zD _) fun g x=>q g s.toks fun b o nb e=>x b o (fun z=>nb (by rw[z];exact .head _)) e
 self:=fun _ _ _ _ st q=>wpAny_pyIter_valiter st.1 q
theorem xG(lo:(d==sysModules)=false):W.KdlSrc prog w "dict" d d es.size (fun i v=>∃e,es[i]?=some e∧v=e.key) (fun h=>RwD h d es ep) where
 type:=fun _ z=>z.typeIs
 there:=fun _ z=>⟨z.lt,z.lt⟩
 keep:=fun _ _ z k=>z.at fun o e=>k d (.inl rfl) o e
 notList:=by decide
 notTuple:=by decide
 hint:=fun _ _ _ _ z q=>W.kdl_hint_dict z.typeIs q
 iter:=fun _ _ zh z=>⟨_,_,(fun _ _ q=>mw lo z q),qo zh _ d (zX z.lt) es ep,⟨⟨_,zY _ rfl,rfl,rfl⟩,z.at fun o e=>io _ e⟩⟩
theorem qN{f:DictEntry→Value}{xs:Array Value}(h:ItemsOf (fun i v=>∃e,es[i]?=some e∧v=f e) xs es.size):xs.toList=es.toList.map f:=by
 obtain⟨sz,at_⟩:=h;refine List.ext_getElem? fun j=>?_;rw[zL,z9,zL];by_cases hj:j<xs.size
 ·obtain⟨e,h1,h2⟩:=at_ j xs[j] (zJ hj);rw[zJ hj,h1,h2];rfl
 ·rw[Array.getElem?_eq_none (by omega),Array.getElem?_eq_none (by omega)];rfl
end
abbrev Sps:=List ((Int×Int)×Int)
def kk(p:Int×Int):List Key:=[.inl p.1,.inl p.2]
def af(ps:Sps):List (List Key×V):=ps.map fun p=>(kk p.1,.int p.2)
theorem Vh{p q:Int×Int}(e:kk p=kk q):p=q:=by
 unfold kk at e;injection e with e1 e2
 injection e2 with e2 _
 exact AT (Sum.inl.inj e1) (Sum.inl.inj e2)
theorem Zk(ps:Sps):(af ps).length=ps.length:=az _
theorem Vk(ps:Sps):(af ps).map (·.1)=(ps.map (·.1)).map kk:=by
 unfold af;rw[Al,Al];rfl
def KsAt(H:Hp):List Addr→List (Int×Int)→Prop:=Paired fun b k=>H b=some (.tup [.int k.1,.int k.2])
theorem KsAt.mono{H H':Hp}{bs:List Addr}{ks:List (Int×Int)}(h:KsAt H bs ks)(g:∀b xs,H b=some (.tup xs)→H' b=some (.tup xs)):KsAt H' bs ks:=Paired.mapP h fun _ _ e=>g _ _ e
def leK(a b:Int×Int):Bool:=decide (a.1<b.1) || (decide (a.1=b.1) && decide (a.2≤b.2))
theorem U8{a b:Int×Int}:leK a b=true↔a.1<b.1∨(a.1=b.1∧a.2≤b.2):=by
 unfold leK;simp only[Bool.or_eq_true,Bool.and_eq_true,decide_eq_true_iff]
theorem nJ(a b:Int×Int):(leK a b || leK b a)=true:=by
 rw[Bool.or_eq_true,U8,U8];omega
theorem m_(a b c:Int×Int)(h1:leK a b=true)(h2:leK b c=true):leK a c=true:=by
 rw[U8]at *;omega
theorem re{a b:Int×Int}(h1:leK a b=true)(h2:leK b a=true):a=b:=by
 rw[U8]at h1 h2;exact AT (by omega) (by omega)
def ff(ks:List (Int×Int)):List (Int×Int):=ks.mergeSort leK
theorem R7(ks:List (Int×Int)):(ff ks).Perm ks:=List.mergeSort_perm _ _
theorem Nk(ks:List (Int×Int)):(ff ks).Pairwise (fun a b=>leK a b=true):=List.pairwise_mergeSort m_ nJ ks
theorem jF:∀{l m:List (Int×Int)},l.Perm m→l.Pairwise (fun a b=>leK a b=true)→m.Pairwise (fun a b=>leK a b=true)→l=m
 | [],m,p,_,_=>List.Perm.nil_eq p
 |a::l,[],p,_,_=>absurd p.length_eq (by simp)
 |a::l,b::m,p,h1,h2=>by
  have e:a=b:=by
   rcases zZ.mp (p.mem_iff.mp Au)with q | q
   ·exact q
   ·rcases zZ.mp (p.mem_iff.mpr Au)with r | r
    ·exact r.symm
    ·exact re ((A3.mp h1).1 b r) ((A3.mp h2).1 a q)
  subst e;rw[jF ((List.perm_cons a).mp p) (A3.mp h1).2 (A3.mp h2).2]
theorem nV{H:Hp}{as bs:List Addr}{ks:List (Int×Int)}(h:KsAt H as ks)(p:bs.Perm as)(pw:bs.Pairwise fun a b=>∀k l,FII H a k→FII H b l→(cx aL aL).blt l k=false):KsAt H bs (ff ks):=by
 let key:Addr→Int×Int:=fun b=>match H b with
  |some (.tup [.int i,.int j])=>(i,j)
  |_=>(0,0)
 have kat:∀{b:Addr}{k:Int×Int},H b=some (.tup [.int k.1,.int k.2])→key b=k:=fun{b k} e=>by
  show(match H b with | some (.tup [.int i,.int j])=>(i,j) | _=>(0,0))=k;rw[e]
 have all:∀{l:List Addr}{m:List (Int×Int)},KsAt H l m→l.map key=m∧∀b∈l,H b=some (.tup [.int (key b).1,.int (key b).2]):=fun{l m} r=>by
  induction r with
  |nil=>exact⟨rfl,fun _ h=>nomatch h⟩
  | @cons b k l m e _ ih=>
   have kb:=kat e;refine⟨by rw[zH,kb,ih.1],fun c hc=>?_⟩
   rcases zZ.mp hc with rfl | hc
   ·rw[kb];exact e
   ·exact ih.2 c hc
 obtain⟨e1,e2⟩:=all h;have atb:∀b∈bs,H b=some (.tup [.int (key b).1,.int (key b).2]):=fun b hb=>e2 b (p.mem_iff.mp hb);have back:∀{l:List Addr},(∀b∈l,H b=some (.tup [.int (key b).1,.int (key b).2]))→KsAt H l (l.map key):=fun{l} hl=>by
  induction l with
  |nil=>exact .nil
  |cons b l ih=>exact .cons (hl b (.head _)) (ih fun c hc=>hl c (.tail _ hc))
 have eq:bs.map key=ff ks:=by
  refine jF ((p.map key).trans (by rw[e1];exact(R7 ks).symm)) (A8.mpr (pw.imp_of_mem fun{a b} ha hb q=>?_)) (Nk ks);have q:=q (key a) (key b) ⟨_,_,atb a ha,rfl⟩ ⟨_,_,atb b hb,rfl⟩;rw[U8];by_cases c:(key a).1<(key b).1
  ·exact .inl c
  ·by_cases c2:(key b).1<(key a).1
   ·exact absurd (Yq (O:=aL) (U:=aL) (a:=key b) (b:=key a) |>.mpr (.inl (zP c2))) (by rw[show cW aL aL (key b) (key a)=false from q];decide)
   ·have e:(key b).1=(key a).1:=by omega
    by_cases c3:(key b).2<(key a).2
    ·exact absurd (Yq (O:=aL) (U:=aL) (a:=key b) (b:=key a) |>.mpr (.inr ⟨e,zP c3⟩)) (by rw[show cW aL aL (key b) (key a)=false from q];decide)
    ·exact .inr ⟨e.symm,by omega⟩
 rw[←eq];exact back atb
section
variable{X:Cx}
theorem Om{O U:KeyOrd}{R:Heap→Value→O.α→Prop}{S:Heap→Value→U.α→Prop}{T W:String}(e:El X.prog X.w O R T)(f:El X.prog X.w U S W)(F:Hp→Addr→(cx O U).α→Prop)(br:∀{CA:List (Addr×Obj)} {σ:St} {H:Hp} {s:Shared} {a:Addr} {k:O.α×U.α},Inv X CA σ H s→F H a k→bq R S s.heap (.ref a) k)(d:O.α×U.α)(hu:X.A.units+64<cLine){CA:List (Addr×Obj)}{s:Shared}{σ:St}{p:Addr}{Q:VK}(src:∀{E:Value→Shared→Prop} {C:List Value→Shared→Prop},(∀(g:Heap) (tk:Nat) (H:Hp) (as:List Addr),Inv X CA σ H {s with heap:=g,toks:=tk}→as.length<1000→(∀a∈as,∃k,F H a k)→
   (∀bs:List Addr,bs.Perm as→(bs.Pairwise fun a b=>∀k l,F H a k→F H b l→(cx O U).blt l k=false)→∀q,H q=none→Q (.ref q) (upd H q (.lst (bs.map V.ref))))→C (as.map Value.ref) {s with heap:=g,toks:=tk})→wpAny (model X.prog X.w) X.A.in1 (collect (.ref p)) C E s):
  wpAny (model X.prog X.w) X.A (call (.builtin "sorted") [.ref p]) (EP X CA σ Q) X.xe s:=by
 refine Calls.call_function_entry kind_sorted plain_sorted entry_sorted (args_sorted1 _) ?_;unfold Builtin.«sorted»;refine ae (m:=checkCount "sorted" 1 1 _) (zC (ae (src fun g tk H as I h64 hk q=>ae (wpAny_newList ?_ (by rw[az];exact Zl (by omega))))));have hoL:(g.push (seqObj "list" (as.map Value.ref).toArray 0)).get? g.objs.size=some (seqObj "list" (as.map Value.ref).toArray 0):=zY _ rfl;have st:dq g (g.push (seqObj "list" (as.map Value.ref).toArray 0)):=fun b ob e _=>io _ e;refine ae (Ax (A4 slot_list_sort ⟨_,hoL,rfl⟩ entry_list_sort (j_ e f hoL (fun v hv=>?_) (by rw[az];exact h64) (by show X.A.units+1+1+8<_;omega) d fun out op os=>⟨_,rfl,?_⟩) (args_list_sort _)))
 ·obtain⟨a,ha,rfl⟩:=zF.mp hv;obtain⟨k,fk⟩:=hk a ha;exact⟨k,Wq e f st (br I fk)⟩
 refine zC ⟨_,rfl,?_⟩;obtain⟨bs,bp,be⟩:=nj op;obtain⟨e2,he2⟩:=sortedHeap_at (vs:=as.map Value.ref) (out:=out) hoL;refine⟨.ref g.objs.size,_,I.laid (t':=tk) (o:=.lst (bs.map V.ref)) (fun b ob e=>?_) (zD _) ?_,rfl,q bs bp ?_ _ (I.hok.fresh (zD _))⟩
 ·have CI:=zN e;rw[sortedHeap_old (zX CI) (by rw[size_push'];exact Nat.lt_succ_of_lt CI)];exact io _ e
 ·refine⟨by rw[az,bp.length_eq];exact Zl (by omega),bs.map Value.ref,e2,Oo bs,?_⟩;rw[←be,Array.toArray_toList];exact he2
 ·rw[be]at os;exact(A8.mp os).imp_of_mem fun{a b} ha hb h k l fk fl=>h k l (Wq e f st (br I fk)) (Wq e f st (br I fl))
theorem Py{P:Program}{w:World}{H:Hp}{h:Heap}{d:Addr}{kvs:List (List Key×V)}(ok:HOk P w H h)(e:Rd H d (.dT kvs)):kvs.length≤sizeLine∧(d==sysModules)=false∧∃(xs:List (List Key×Addr×Value))(es:Array DictEntry)(ep:Nat),KT H kvs xs∧RwD h d es ep∧
  es.toList.map DictEntry.key=(xs.map fun x=>x.2.1).map Value.ref∧es.toList.map DictEntry.val=xs.map (fun x=>x.2.2)∧es.size=kvs.length:=by
 obtain⟨z,lo,xs,r,o,es,ep,h1,h2,h3,h4,_⟩:=(show ObjOk P w H h d (.dT kvs)from qG ok e);refine⟨z,lo,xs,es,ep,r,⟨o,h1,h2,h3⟩,?_,?_,?_⟩
 ·rw[h4,Al,Al];rfl
 ·rw[h4,Al];rfl
 ·rw[←zU,h4,az,←zV r]
theorem uT{H:Hp}:∀{ps:Sps}{xs:List (List Key×Addr×Value)},KT H (af ps) xs→KsAt H (xs.map fun x=>x.2.1) (ps.map (·.1))
 | [],xs,r=>by
  cases (show KT H [] xs from r);exact .nil
 |p::ps,xs,r=>by
  cases (show KT H ((kk p.1,.int p.2)::af ps) xs from r) with
  |cons h t=>exact .cons h.2.1 (uT t)
def tV:List V→Hp→VK→Prop:=fun xs H Q=>∃(d:Addr)(ps:Sps),xs=[.ref d]∧H d=some (.dT (af ps))∧ps.length<1000∧∀bs:List Addr,KsAt H bs (ff (ps.map (·.1)))→∀q,H q=none→Q (.ref q) (upd H q (.lst (bs.map V.ref)))
theorem wn{H:Hp}{as:List Addr}{ks:List (Int×Int)}(h:KsAt H as ks):∀a∈as,∃k,FII H a k:=by
 induction h with
 |nil=>exact fun _ h=>nomatch h
 |cons e r ih=>exact fun b h=>(zZ.mp h).elim (fun z=>by rw[z];exact⟨_,_,_,e,rfl⟩) (ih b)
theorem iO(hc:X.calm=true)(hu:X.A.units+64<cLine):bN X (.builtin "sorted") tV:=by
 intro CA s σ H xs us Q I rx h;obtain⟨d,ps,rfl,hd,h64,q⟩:=h;obtain⟨u,rfl,ru⟩:=V1 rx;cases ru;obtain⟨_,lo,es0,es,ep,kt,raw,ek,_,sz⟩:=Py I.hok (.inl hd);rw[Zk]at sz;have ka:=uT kt;have al:(es0.map fun x=>x.2.1).length<1000:=by rw[az,←zV kt,Zk];exact h64
 refine Om (S1 (prog:=X.prog) (w:=X.w)) (S1 (prog:=X.prog) (w:=X.w)) FII (fun{CA σ H s a k} I h=>?_) ((0:Int),(0:Int)) hu (fun{E C} hC=>?_)
 ·obtain⟨i,j,h,rfl⟩:=h;obtain⟨o,m,u,v,e1,e2,e3,⟨t,ru⟩,⟨t',rv⟩⟩:=kA I h;exact⟨a,o,m,u,v,rfl,e1,e2,e3,⟨t,ru⟩,⟨t',rv⟩⟩
 ·refine ic (A:=X.A.in1) (xG lo) (by simpa using I.ok.hd hc) raw (Zl (by omega)) fun g tk CO kp lt it=>?_;rw[qN it,ek];exact hC g tk H _ (I.kept kp) al (wn ka) fun bs bp pw=>q bs (nV ka bp pw)
end
section
variable{X:Cx}
theorem Ti{K:W.Frag}{H:Hp}{d:Addr}{kvs:List (List Key×V)}(h:H d=some (.dT kvs)):tyV K "dict" (.ref d) H:=.inr (.inr (.inl ⟨rfl,.inr ⟨kvs,h⟩⟩))
theorem jO{prog:Program}{w:World}(d:Addr)(lo:(d==sysModules)=false):MeetsIn prog w (Builtin.«dict.values» ⟨[.ref d],[]⟩) (fun _ R s=>s.TypeIs (.ref d) "dict"∧R (.ok (.ret (.ref s.heap.objs.size))) {s with heap:=s.heap.push {cls:=.type "dict_values",data:=.fields #[.ref d]}}):=
 .of_wp fun A R s ⟨ty,h⟩=>by
  refine ae (ae (Ba ty (show wpAny (model prog w) _ (pure d) _ _ s from zC (ae ?_))));unfold Builtin.Dict.showsAll;rw[lo,pi (by decide)];exact zC (ae (AZ (zC ⟨_,rfl,h⟩)))
theorem i6{prog:Program}{w:World}(d:Addr)(lo:(d==sysModules)=false):MeetsIn prog w (Builtin.«dict.items» ⟨[.ref d],[]⟩) (fun _ R s=>s.TypeIs (.ref d) "dict"∧R (.ok (.ret (.ref s.heap.objs.size))) {s with heap:=s.heap.push {cls:=.type "dict_items",data:=.fields #[.ref d]}}):=
 .of_wp fun A R s ⟨ty,h⟩=>by
  unfold Builtin.«dict.items»;refine ae (ae (Ba ty (show wpAny (model prog w) _ (pure d) _ _ s from zC (ae ?_))));unfold Builtin.Dict.showsAll;rw[lo,pi (by decide)];exact zC (ae (AZ (zC ⟨_,rfl,h⟩)))
def rA(w:Addr→Addr→HO):V→List V→Hp→VK→Prop:=fun x vs H Q=>∃d kvs,x=.ref d∧vs=[]∧H d=some (.dT kvs)∧∀a,H a=none→Q (.ref a) (upd H a (w a d))
theorem jI:MtR X "dict.values" (rA fg):=by
 intro CA s σ H x vs v us Q I rx rv h;obtain⟨d,kvs,rfl,rfl,hd,q⟩:=h;cases rx;cases rv;obtain⟨_,lo,_,es,ep,_,raw,_⟩:=Py I.hok (.inl hd);refine call_meetsIn PySem.F.slot_dict_values raw.typeIs PySem.F.entry_dict_values (PySem.F.args_dict_values_1 _) (jO d lo) ⟨raw.typeIs,.ref s.heap.objs.size,_,I.laid (t':=s.toks) (o:=fg s.heap.objs.size d) (fun b o e=>io _ e) (zD _) ?_,rfl,q _ (I.hok.fresh (zD _))⟩;exact⟨⟨_,zY _ rfl,rfl,rfl⟩,⟨_,zY _ rfl⟩,fun h1 h2 x k=>let ⟨o,ho,r⟩:=x;⟨o,k o ho,r⟩⟩
theorem T5:MtR X "dict.items" (rA bg):=by
 intro CA s σ H x vs v us Q I rx rv h;obtain⟨d,kvs,rfl,rfl,hd,q⟩:=h;cases rx;cases rv;obtain⟨_,lo,_,es,ep,_,raw,_⟩:=Py I.hok (.inl hd);refine call_meetsIn Bz raw.typeIs PySem.F.entry_dict_items (PySem.F.args_dict_items_1 _) (i6 d lo) ⟨raw.typeIs,.ref s.heap.objs.size,_,I.laid (t':=s.toks) (o:=bg s.heap.objs.size d) (fun b o e=>io _ e) (zD _) ?_,rfl,q _ (I.hok.fresh (zD _))⟩;exact⟨⟨_,zY _ rfl,rfl,rfl⟩,⟨_,zY _ rfl⟩,fun h1 h2 x k=>let ⟨o,ho,r⟩:=x;⟨o,k o ho,r⟩⟩
theorem sX{H:Hp}{kvs:List (List Key×V)}{xs:List (List Key×Addr×Value)}(h:KT H kvs xs):Vals (kvs.map (·.2)) (xs.map fun x=>x.2.2):=by
 induction h with
 |nil=>exact .nil
 |cons h t ih=>exact .cons h.2.2 ih
end
section
variable{X:Cx}{CA:List (Addr×Obj)}{σ:St}{H:Hp}{s:Shared}
theorem Pj{H:Hp}:∀{kvs:List (List Key×V)}{xs:List (List Key×Addr×Value)}{i:Nat}{p:List Key×V},KT H kvs xs→kvs[i]?=some p→∃x,xs[i]?=some x∧H x.2.1=some (.tup (p.1.map kV))∧RelV p.2 x.2.2
 |_,_,_,_,.nil,e=>by simp at e
 |_,_,0,_,.cons h _,e=>by
  rw[AR]at e;cases e;exact⟨_,rfl,h.2.1,h.2.2⟩
 |_,_,i+1,_,.cons _ r,e=>Pj (i:=i) r (by simpa using e)
theorem Inv.thawT{d:Addr}{o:Obj}{kvs:List (List Key×V)}(nf:∀o u,X.H₀ d≠some (.frz o u))(I:Inv X CA σ H s)(h:H d=some (.frz o (.dT kvs))):Inv X CA σ (upd H d (.dT kvs)) s:=by
 have nd:∀b,H b=none→upd H d (.dT kvs) b=none:=fun b e=>by rw[Za (Ne.symm (Zd h e))];exact e
 have ot:∀b u,H b=some u→u≠.frz o (.dT kvs)→upd H d (.dT kvs) b=some u:=fun b u e n=>by rw[Za (Uh e h n)];exact e
 have tu:∀b xs,H b=some (.tup xs)→upd H d (.dT kvs) b=some (.tup xs):=fun b xs e=>ot b _ e (by intro z;cases z);refine⟨I.ok,I.os,I.bare,⟨I.base.keep,I.base.slot,fun b ob q n hx=>nd b (I.base.free b ob q n hx),I.base.there,fun b xs e=>tu b _ (I.base.tups b xs e),fun b ob u e=>?_,fun b ps e=>?_⟩,I.loc,I.cell,nd _ I.free,fun x c e=>nd c (I.freeC x c e),fun p hp=>?_,fun b u e=>?_,I.len⟩
 ·rw[Za (fun z=>nf ob u (by rw[←z];exact e))];exact I.base.frzs b ob u e
 ·obtain⟨m,q⟩:=I.base.tbls b ps e;exact⟨m,ot b _ q (by intro z;cases z)⟩
 ·obtain⟨h1,h2,h3⟩:=I.pin p hp;exact⟨h1,nd _ h2,h3⟩
 ·by_cases hb:b=d
  ·subst hb;rw[Z2]at e;cases e;obtain⟨z,lo,xs,kt,r⟩:=(show ObjOk X.prog X.w H s.heap b (.dT kvs) from(I.hok b _ h).2);exact⟨z,lo,xs,KT.keeps kt tu,r⟩
  ·rw[Za hb]at e;exact(I.hok b u e).stay (fun _ _ _ q=>q) (fun c q=>ot c _ q (by intro z;cases z)) fun c xs q=>tu c xs q
theorem Inv.freezeT{d:Addr}{kvs:List (List Key×V)}(I:Inv X CA σ H s)(h:H d=some (.dT kvs)):∃o,Inv X CA σ (upd H d (.frz o (.dT kvs))) s∧∀o u,X.H₀ d≠some (.frz o u):=by
 obtain⟨z,lo,xs,kt,o,es,ep,ho,r⟩:=(show ObjOk X.prog X.w H s.heap d (.dT kvs)from I.hok d _ h);have tu:∀b ys,H b=some (.tup ys)→upd H d (.frz o (.dT kvs)) b=some (.tup ys):=fun b ys e=>by rw[Za (Uh e h (by intro z;cases z))];exact e
 refine⟨o,I.write (x:=d) (e:=d) (t':=s.toks) (h':=s.heap) (by rw[h];exact trivial) (.inl rfl) (fun _ _ _ q=>q) ⟨o,ho⟩ ⟨ho,z,lo,xs,KT.keeps kt tu,o,es,ep,ho,r⟩,fun o' u e=>?_⟩;have q:=I.base.frzs d o' u e;rw[h]at q;cases q
def yx(t:TE):TE:=fun σ H Q=>∃(d:Addr)(kvs:List (List Key×V)),H d=some (.dT kvs)∧∀o,t σ (upd H d (.frz o (.dT kvs))) fun v H2=>H2 d=some (.frz o (.dT kvs))∧Q v (upd H2 d (.dT kvs))
theorem mq{e:Expr}{t:TE}(h:PE X e t):PE X e (yx t):=by
 intro CA s σ H Q I hw;obtain⟨d,kvs,hd,q⟩:=hw;obtain⟨o,I1,nf⟩:=I.freezeT hd;exact thn (h CA s σ _ _ I1 (q o)) fun v s1 ⟨x,H1,I2,r,hd2,q2⟩=>⟨x,_,I2.thawT nf hd2,r,q2⟩
def oN(d:Addr)(kvs:List (List Key×V))(o:Obj):It:=⟨fun i H=>i<kvs.length∧H d=some (.frz o (.dT kvs)),fun i H x H'=>H'=H∧∃p b,kvs[i]?=some p∧x=.ref b∧H b=some (.tup (p.1.map kV)),fun i H=>kvs.length≤i∧H d=some (.frz o (.dT kvs))⟩
theorem sE{P:Program}{w:World}{K:W.Frag}{tg:Expr}{d it:Addr}{kvs:List (List Key×V)}{o:Obj}{es:Array DictEntry}{ep:Nat}(ex:o.ExactDict)(od:o.data=.dict es ep)(sz:es.size=kvs.length):
  Turn P w K tg (oN d kvs o) [it] it (fun i h=>h.IsKeyIter it d i es.size ep) where
 mem:=by simp
 obj:=fun i h st b hb=>by
  obtain⟨q,e,c,dd⟩:=st;rw[zG.mp hb];exact⟨q,e,fun v z=>by rw[dd]at z;cases z⟩
 keep:=fun i h h' st k=>st.at fun q e=>k it (.head _) q e
 item:=by
  intro X hP hw hK hc i CA s σ H E I hf st hg;subst hP hw hK;obtain⟨hi,hd⟩:=hg;obtain⟨ho,z,lo,xs,kt,o',es',ep',h1,_,h3,h4,_⟩:=(show ObjOk X.prog X.w H s.heap d (.frz o (.dT kvs))from I.hok d _ hd);rw[ho]at h1;cases h1;rw[od]at h3;cases h3;obtain⟨f0,f1,f2,f3,f4,f5⟩:=hf it (.head _);have e1:kvs[i]?=some kvs[i]:=by simp[hi]
  obtain⟨x,ex1,hx,_⟩:=Pj kt e1;have ek:es[i].key=.ref x.2.1:=by
   have q:es.toList[i]?=some es[i]:=by rw[zL];exact zJ (by omega)
   rw[h4,z9,ex1]at q;rw[←Aa q];rfl
  refine lX st ⟨o,ho,ex,od⟩ (by omega) fun g CP sb=>?_;obtain⟨q,e,c,dd⟩:=id CP;have I1:Inv X CA σ H {s with heap:=g}:=I.turned (t':=s.toks) (fun b ob hb eb=>(sb.2 b hb).trans eb) f0 f1 f3 f4 f5;exact⟨_,rfl,kY (s:={s with heap:=g}) e c dd (by decide) ⟨.ref x.2.1,H,I1,ek,⟨rfl,_,_,e1,rfl,hx⟩,CP,fun b hb=>(hf b hb).1⟩⟩
 done:=by
  intro X hP hw hK hc i CA s σ H E I hf st hg;subst hP hw hK;obtain⟨hi,hd⟩:=hg;obtain⟨ho,_⟩:=I.hok d _ hd;obtain⟨f0,f1,f2,f3,f4,f5⟩:=hf it (.head _);exact mI (I.ok.hd hc) st ⟨o,ho,ex,od⟩ (by omega) fun g eb=>⟨rfl,I.turned (t':=s.toks) (fun b ob hb e=>eb b ob hb e) f0 f1 f3 f4 f5⟩
 self:=fun _ _ _ _ _ st h=>wpAny_pyIter_keyiter st h
def v9(tl:TE):TI:=fun σ H R=>tl σ H fun x H1=>∃(d:Addr)(o:Obj)(kvs:List (List Key×V)),x=.ref d∧H1 d=some (.frz o (.dT kvs))∧R (oN d kvs o) H1
theorem Sh{tg l:Expr}{tl:TE}(hl:PE X l tl):PI X tg l (v9 tl):=by
 intro CA s σ H R I h;refine thn (hl CA s σ H _ I h) fun v s1 CB=>?_;obtain⟨x,H1,I1,r1,q1⟩:=CB;obtain⟨d,o,kvs,rfl,hd,q⟩:=q1;cases r1;obtain⟨ho,z,lo,xs,kt,o',es,ep,h1,h2,h3,h4,_⟩:=(show ObjOk X.prog X.w H1 s1.heap d (.frz o (.dT kvs))from I1.hok d _ hd);rw[ho]at h1;cases h1;have sz:es.size=kvs.length:=by rw[←zU,h4,az,←zV kt]
 refine mw lo ⟨o,ho,h2,h3⟩ ⟨s1.heap.objs.size,[s1.heap.objs.size],_,_,H1,rfl,I1.kept (t':=s1.toks) (fun b ob e=>io _ e),sE h2 h3 sz,⟨_,zY _ rfl,rfl,rfl⟩,fun b hb=>?_,q⟩;rw[zG.mp hb];exact I1.fpOk (zD _) (I1.hok.fresh (zD _))
theorem S2{d:Addr}{o:Obj}{kvs:List (List Key×V)}{k:Nat}{g:TG}{tt:TT}{te:TE}{σ:St}{H:Hp}{Q:VK}(Pv:Nat→List V→Hp→Prop)(h0:Pv 0 [] H)(hl:∀i ys H,Pv i ys H→H d=some (.frz o (.dT kvs)))(hs:∀i p b ys H (C:List V→Hp→Prop),kvs[i]?=some p→H b=some (.tup (p.1.map kV))→Pv i ys H→(∀ys' H',Pv (i+1) ys' H'→C ys' H')→ys.length<sizeLine∧g (.ref b) (List.replicate k none++σ) H fun σ2 H2=>Wk σ2 (List.replicate k none++σ)∧tt σ2 H2 fun ok H3=>
   if ok=true then te σ2 H3 fun y H4=>C (ys++[y]) H4 else C ys H3)(hz:∀i ys H,Pv i ys H→ys.length<sizeLine)(hd:∀ys H,Pv kvs.length ys H→ys.length≤sizeLine∧∀p,H p=none→Q (.ref p) (upd H p (.lst ys))):CompR (oN d kvs o) H k g tt te σ Q:=by
 refine⟨fun i m ys H=>m=kvs.length-i∧i≤kvs.length∧Pv i ys H,⟨kvs.length,by simp,Nat.zero_le _,h0⟩,?_⟩;rintro i m ys H ⟨rfl,hi,p⟩;have q:=hl i ys H p;by_cases CI:i<kvs.length
 ·refine .inr ⟨⟨CI,q⟩,hz i ys H p,fun v H' y=>?_⟩;obtain⟨e,p',b,hp',rfl,hb⟩:=y;subst e;exact(hs i p' b ys H' (fun ys' H'=>∃m',m'<kvs.length-i∧m'=kvs.length-(i+1)∧i+1≤kvs.length∧Pv (i+1) ys' H') hp' hb p fun ys' H' p'=>⟨_,by omega,rfl,CI,p'⟩).2
 ·have e:i=kvs.length:=by omega
  subst e;exact .inl ⟨⟨zD _,q⟩,hd ys H p⟩
end
abbrev TKv:=List Key×Addr×Value
def dj(xs:List TKv):List TKv:=xs.foldl (fun CO x=>storedH CO x.1 x.2.1 x.2.2) []
def fj(kvs:List (List Key×V)):List (List Key×V):=kvs.foldl (fun CO kv=>aG CO kv.1 kv.2) []
theorem oI(xs:List TKv)(x:TKv):dj (xs++[x])=storedH (dj xs) x.1 x.2.1 x.2.2:=by
 unfold dj;rw[List.foldl_append];rfl
theorem iw(xs:List TKv)(k:List Key)(a:Addr)(v:Value):(storedH xs k a v).length≤xs.length+1:=by
 unfold storedH
 split
 ·rw[az];omega
 ·rw[zI];exact zD _
theorem Ow:∀(ys xs:List TKv),(ys.foldl (fun CO x=>storedH CO x.1 x.2.1 x.2.2) xs).length≤xs.length+ys.length
 | [],xs=>zD _
 |y::ys,xs=>by
  have q:=Ow ys (storedH xs y.1 y.2.1 y.2.2);have l:=iw xs y.1 y.2.1 y.2.2;rw[BA,Ak];omega
theorem P9(xs:List TKv):(dj xs).length≤xs.length:=by
 have q:=Ow xs [];rw[AO,Bs]at q;exact q
theorem iW{xs:List TKv}{k:List Key}{a:Addr}{v:Value}{x:TKv}(h:x∈storedH xs k a v):(∃y∈xs,x.1=y.1∧x.2.1=y.2.1)∨(x.1=k∧x.2.1=a):=by
 unfold storedH at h
 split at h
 ·obtain⟨y,hy,rfl⟩:=zF.mp h;refine .inl ⟨y,hy,?_⟩;unfold putAt
  split <;> exact⟨rfl,rfl⟩
 ·rcases zT.mp h with q | q
  ·exact .inl ⟨x,q,rfl,rfl⟩
  ·rw[zG.mp q];exact .inr ⟨rfl,rfl⟩
theorem Ov:∀{ys xs:List TKv}{x:TKv},x∈ys.foldl (fun CO x=>storedH CO x.1 x.2.1 x.2.2) xs→∃y,(y∈xs∨y∈ys)∧x.1=y.1∧x.2.1=y.2.1
 | [],xs,x,h=>⟨x,.inl h,rfl,rfl⟩
 |z::ys,xs,x,h=>by
  obtain⟨y,hy,e1,e2⟩:=Ov (ys:=ys) h
  rcases hy with hy | hy
  ·rcases iW hy with⟨u,hu,f1,f2⟩|⟨f1,f2⟩
   ·exact⟨u,.inl hu,e1.trans f1,e2.trans f2⟩
   ·exact⟨z,.inr (.head _),e1.trans f1,e2.trans f2⟩
  ·exact⟨y,.inr (.tail _ hy),e1,e2⟩
theorem o_{ys:List TKv}{x:TKv}(h:x∈dj ys):∃y∈ys,x.1=y.1∧x.2.1=y.2.1:=by
 obtain⟨y,hy,e⟩:=Ov h
 rcases hy with hy | hy
 ·exact nomatch hy
 ·exact⟨y,hy,e⟩
theorem w6{H:Hp}{more:List (List Key×V)}{rs:List TKv}{kvs:List (List Key×V)}{xs:List TKv}(a:KT H more rs)(b:KT H kvs xs):KT H (more.foldl (fun CO kv=>aG CO kv.1 kv.2) kvs) (rs.foldl (fun CO x=>storedH CO x.1 x.2.1 x.2.2) xs):=by
 induction a generalizing kvs xs with
 |nil=>exact b
 | @cons p q more rs h t ih=>
  have e:=KT.put b p.1 h.2.1 h.2.2;have e2:KT H (aG kvs p.1 p.2) (storedH xs q.1 q.2.1 q.2.2):=by
   rw[show storedH xs q.1 q.2.1 q.2.2=storedH xs p.1 q.2.1 q.2.2 by rw[h.1]];exact e
  exact ih e2
theorem uP{H:Hp}{kvs:List (List Key×V)}{xs:List TKv}(h:KT H kvs xs):KT H (fj kvs) (dj xs):=w6 h .nil
theorem jx:∀(kvs CO:List (List Key×V)),((CO++kvs).map (·.1)).Nodup→kvs.foldl (fun CO kv=>aG CO kv.1 kv.2) CO=CO++kvs
 | [],CO,_=>(Aw CO).symm
 |p::kvs,CO,h=>by
  have e:bn CO p.1=none:=by
   rw[zW,zH]at h;have nin:p.1∉CO.map (·.1):=fun q=>(List.nodup_append.mp h).2.2 p.1 q p.1 (.head _) rfl;have:∀l:List (List Key×V),p.1∉l.map (·.1)→bn l p.1=none:=fun l=>by
    induction l with
    |nil=>intro _;rfl
    |cons y l ih=>
     intro hl;rw[zH,zZ,not_or]at hl;rw[Yc (fun z=>hl.1 z.symm)];exact ih hl.2
   exact this CO nin
  rw[BA,pA p.2 e,jx kvs _ (by rw[Ag];exact h),Ag];rfl
theorem Wy{kvs:List (List Key×V)}(h:(kvs.map (·.1)).Nodup):fj kvs=kvs:=jx kvs [] h
theorem Q9{h g:Heap}{ks:List Key}{a:Addr}(x:(tupleKind (ak prog w)).is h ks a)(k:∀o,h.get? a=some o→g.get? a=some o):(tupleKind (ak prog w)).is g ks a:=by
 obtain⟨o,its,n,h1,r⟩:=x;exact⟨o,its,n,k o h1,r⟩
def nX(prog:Program)(w:World)(h:Heap)(D:Addr)(xs:List TKv):Prop:=∃o es ep,h.get? D=some o∧o.ExactDict∧o.data=.dict es ep∧es.toList=xs.map (entryOfKey (tupleKind (ak prog w)))∧(xs.map (·.1)).Nodup
def jH(prog:Program)(w:World)(h:Heap)(p:TKv)(v:Value)(no:List Addr):Prop:=∃a o n,v=.ref a∧a∉no∧p.2.1∉no∧h.get? a=some o∧o.cls=.type "tuple"∧o.data=.seq #[.ref p.2.1,p.2.2] n∧(tupleKind (ak prog w)).is h p.1 p.2.1
theorem O0{R:Result→Shared→Prop}{I:Addr}{fp wr:List Addr}{n:Nat}{P:Nat→Value→Prop}{St:Nat→Heap→Prop}(W:Walks prog w A.in1 I fp wr n P St)(hu:A.units+1<cLine)(D:Addr)(hD:D∉fp)(ps:List TKv)(hpn:ps.length=n)(its:List Value)(hP:∀i v,P i v→its[i]?=some v)(hb:n≤100000):
  ∀(k i:Nat)(s:Shared),n-i=k→i≤n→St i s.heap→nX prog w s.heap D (dj (ps.take i))→(∀(j:Nat) p,ps[j]?=some p→∃v,its[j]?=some v∧jH prog w s.heap p v (D::wr))→
   (∀g tk,(∀b o,b∉D::wr→s.heap.get? b=some o→g.get? b=some o)→nX prog w g D (dj ps)→R (.ok (.ret .none)) {s with heap:=g,toks:=tk})→
   codeAny (model prog w) A (.builtin "dict.update.loop" ⟨[.ref D,.ref I,rawInt i,.none],[]⟩) R s:=by
 have hDw:D∉wr:=fun q=>hD (W.sub _ q);intro k
 induction k with
 |zero=>
  intro i s hk hi st so tp fin;obtain rfl:i=n:=by omega
  refine BB Rw ?_;rw[A0 W8 _];refine ae (m:=pyNext (.ref I)) (W.done s _ _ st fun h' tk kp=>ae (m:=Builtin.Dict.addKeywords D []) (zC (zC (fin h' tk (fun b o nb e=>kp b o (fun q=>nb (Ay _ q)) e) ?_))));rw[←hpn,Ab]at so;obtain⟨o,es,ep,ho,r⟩:=so;exact⟨o,es,ep,kp D o hDw ho,r⟩
 |succ k ih=>
  intro i s hk hi st so tp fin;have CI:i<n:=by omega
  refine BB Rw ?_;rw[A0 W8 _];refine ae (m:=pyNext (.ref I)) (W.item i s _ _ CI st fun v h1 tk1 pv st1 kp1=>?_);obtain⟨p,hp⟩:∃p,ps[i]?=some p:=⟨ps[i],AF (by omega)⟩;have kw:∀b o,b∉D::wr→s.heap.get? b=some o→h1.get? b=some o:=fun b o nb e=>kp1 b o (fun q=>nb (Ay _ q)) e;have tp1:∀(j:Nat) p,ps[j]?=some p→∃v,its[j]?=some v∧jH prog w h1 p v (D::wr):=fun j p e=>by
   obtain⟨v,hv,a,o,m,rfl,na,nk,ha,r1,r2,r3⟩:=tp j p e;exact⟨_,hv,a,o,m,rfl,na,nk,kw a o na ha,r1,r2,Q9 r3 fun o e=>kw _ o nk e⟩
  obtain⟨v',hv',a,o,m,rfl,na,nk,ha,hc,hd,hkey⟩:=tp1 i p hp;obtain rfl:v=.ref a:=Aa ((hP i v pv).symm.trans hv');have so1:h1.DictOfH (tupleKind (ak prog w)) D (dj (ps.take i)):=by
   obtain⟨o,es,ep,ho,r1,r2,r3,r4⟩:=so;refine⟨o,es,ep,kp1 D o hDw ho,r1,r2,r3,fun x hx=>?_,r4⟩;obtain⟨y,hy,e1,e2⟩:=o_ hx;obtain⟨j,hj⟩:=Co (A2 hy);obtain⟨_,_,_,_,_,_,_,_,_,_,_,q⟩:=tp1 j y hj;rw[e1,e2];exact q
  refine ae (Ax (ae (wpAny_tryCatch ?_)));unfold Builtin.Dict.pairItems;refine ae (Br (T:="tuple") ⟨o,ha,hc⟩ ?_);rw[zE (by decide)];refine ae (m:=seqItems? (.ref a)) ?_;unfold seqItems?;refine ae (Cv ha ?_);rw[hd];refine zC (zC ?_);show wpAny _ _ (holding [Value.ref p.2.1,p.2.2] (dictSet D (.ref p.2.1) p.2.2)) _ _ _;have eb:=P9 (ps.take i);rw[z5]at eb;refine Ax (wpAny_dictSet_heap (s:={s with heap:=h1,toks:=tk1}) (Bn hu) hkey so1 (fun g so2 sb=>?_) (by
   have:(100000:Nat)≤sizeLine:=by decide
   omega))
  have so3:nX prog w g D (dj (ps.take (i+1))):=by
   rw[Zv hp,oI];obtain⟨o,es,ep,ho,r1,r2,r3,_,r4⟩:=so2;exact⟨o,es,ep,ho,r1,r2,r3,r4⟩
  have ks:∀b o,b≠D→h1.get? b=some o→g.get? b=some o:=fun b o nb e=>(sb.2 b nb).trans e;refine zC ⟨Cc W8 _,ih (i+1) _ (by omega) CI (W.frame _ _ _ st1 fun b hb o e=>ks b o (fun q=>hD (by rw[←q];exact hb)) e) so3 (fun j p e=>?_) fun g' tk kp so'=>fin g' tk (fun b o nb e=>kp b o nb ?_) so'⟩
  ·obtain⟨v,hv,a,o,m,rfl,na,nk,ha,r1,r2,r3⟩:=tp1 j p e;have nD:∀{b:Addr},b∉D::wr→b≠D:=fun h z=>h (by rw[z];exact .head _);exact⟨_,hv,a,o,m,rfl,na,nk,ks a o (nD na) ha,r1,r2,Q9 r3 fun o e=>ks _ o (nD nk) e⟩
  ·exact ks b o (fun z=>nb (by rw[z];exact .head _)) (kw b o nb e)
inductive TPsAt(H:Hp):List V→List (List Key×V)→Prop
 |nil:TPsAt H [] []
 |cons {c b:Addr} {xs:List V} {k:List Key} {v:V} {kvs:List (List Key×V)} (h:H c=some (.tup [.ref b,v])) (g:H b=some (.tup (k.map kV))) (r:TPsAt H xs kvs):TPsAt H (.ref c::xs) ((k,v)::kvs)
theorem Ob{l:Addr}{its:List Value}{k:Nat}{sl:Array (Option Value)}{ps:List TKv}{Q:Value→Shared→Prop}(hh:A.handled=none)(hu:A.units+3<cLine)(hl:s.heap.get? l=some {cls:=.type "tuple",dict:=none,data:=.seq its.toArray k,slots:=sl})(CS:its.length=ps.length)(hb:ps.length≤100000)(hp:∀(j:Nat) p,ps[j]?=some p→∃v,its[j]?=some v∧jH prog w s.heap p v [])(h:∀g tk,(∀b o,s.heap.get? b=some o→g.get? b=some o)→nX prog w g s.heap.objs.size (dj ps)→Q (.ref s.heap.objs.size) {s with heap:=g,toks:=tk}):wpAny (model prog w) A (call (.type "dict") [.ref l]) Q E s:=by
 refine callType_codes (Q₁:=fun obj s₁=>obj=.ref s.heap.objs.size∧s₁={s with heap:=s.heap.push {cls:=.type "dict",data:=.dict #[]}}) F.kt_called_dict (F.kt_typeCall_dict_1 _) F.entry_dict_init (kt_code_dict_new _ ⟨rfl,rfl⟩) ?_;rintro obj s₁ ⟨rfl,rfl⟩;have gD:(s.heap.push {cls:=.type "dict",data:=.dict #[]}).get? s.heap.objs.size=some {cls:=.type "dict",data:=.dict #[]}:=zY _ rfl;have hl1:(s.heap.push {cls:=.type "dict",data:=.dict #[]}).get? l=some {cls:=.type "tuple",dict:=none,data:=.seq its.toArray k,slots:=sl}:=io _ hl;refine⟨⟨_,gD,rfl⟩,F.args_dict_init_2 _ _,?_⟩;unfold Builtin.«dict.__init__»;refine ae ?_;unfold Builtin.Dict.selfAndRest;refine ae (Ba ⟨_,gD,rfl⟩ (zC (a:=(s.heap.objs.size,[Value.ref l])) ?_));show wpAny (model prog w) _ (Builtin.Dict.updateFrom "dict.__init__" s.heap.objs.size (.ref l) [] .none) _ _ _;unfold Builtin.Dict.updateFrom;refine ae (Br (T:="tuple") ⟨_,hl1,rfl⟩ ?_);rw[zE (by decide)];refine wpAny_bind (yH hl1 (by simpa using hh) fun g tk kp=>?_);rw[zE (by rfl)];have ltD:s.heap.objs.size<g.objs.size:=zN (kp _ _ gD);have ltl:l<s.heap.objs.size:=zN hl;have hl2:g.IsTuple l its.toArray:=⟨_,kp _ _ hl1,rfl,k,rfl⟩;refine ae (Bo (ae (wpAny_pyIter_tuple hl2 (zC ⟨Cc W8 _,?_⟩))));have hne:l≠g.objs.size:=zX (Bc ltl ltD);have nin:s.heap.objs.size∉[g.objs.size,l]:=fun q=>by
  rcases zZ.mp q with q | q
  ·exact zX ltD q
  ·exact AH ltl (zG.mp q)
 have nout:∀{b:Addr},b<s.heap.objs.size→b∉[s.heap.objs.size,g.objs.size]:=fun{b} lt q=>by
  rcases zZ.mp q with q | q
  ·exact zX lt q
  ·exact zX (Bc lt ltD) (zG.mp q)
 have keep:∀b o,s.heap.get? b=some o→(g.push {cls:=.type "tuple_iterator",data:=.fields #[.ref l,.int 0 0]}).get? b=some o:=fun b o e=>io _ (kp _ _ (io _ e));refine O0 (A:=A.in1) (Walks.tuple (by simpa using hh) g.objs.size l hne its.toArray) (by show A.units+1+1<cLine;omega) s.heap.objs.size nin ps (by rw[List.size_toArray];omega) its (fun i v e=>by simpa using e) (by rw[List.size_toArray];omega) its.toArray.size 0 _ (Nat.sub_zero _) (Nat.zero_le _) ⟨⟨_,Heap.get?_push_size _ rfl,rfl,rfl⟩,hl2.push _⟩ ⟨_,#[],0,Heap.get?_push_of_some _ (kp _ _ gD),⟨rfl,rfl,rfl⟩,rfl,rfl,List.nodup_nil⟩ (fun j p e=>?_) fun g' tk' kp' so'=>⟨rfl,h g' tk' (fun b o e=>kp' b o (nout (Heap.lt_size e)) ?_) so'⟩
 ·obtain⟨v,hv,a,o,m,rfl,_,_,ha,r1,r2,r3⟩:=hp j p e;have la:=zN ha;have lk:p.2.1<s.heap.objs.size:=by
   obtain⟨_,_,_,h1,_⟩:=r3;exact zN h1
  exact⟨_,hv,a,o,m,rfl,nout la,nout lk,io _ (kp _ _ (io _ ha)),r1,r2,Q9 r3 fun o e=>io _ (kp _ _ (io _ e))⟩
 ·exact io _ (kp _ _ (io _ e))
section
variable{X:Cx}
theorem Qq{CA:List (Addr×Obj)}{s:Shared}{σ:St}{H:Hp}(I:Inv X CA σ H s):∀{ys:List V}{kvs:List (List Key×V)}{its:List Value},TPsAt H ys kvs→Vals ys its→∃ps:List TKv,KT H kvs ps∧its.length=ps.length∧∀(j:Nat) p,ps[j]?=some p→∃v,its[j]?=some v∧jH X.prog X.w s.heap p v []
 |_,_,_,.nil,.nil=>⟨[],.nil,rfl,fun j p e=>by simp at e⟩
 |_,_,_,.cons (c:=c) (b:=b) (k:=k) (v:=v) h g r,.cons r1 t=>by
  obtain⟨ps,kt,le,at_⟩:=Qq I r t;obtain⟨_,its,rv,o,e1,e2,n,e3⟩:=(show ObjOk X.prog X.w H s.heap c (.tup [.ref b,v])from I.hok c _ h);obtain⟨u,x,rfl,ru,rx⟩:=qX rv;cases ru;cases r1;refine⟨(k,b,x)::ps,.cons ⟨rfl,g,rx⟩ kt,by rw[Ak,Ak,le],fun j p e=>?_⟩;cases j with
  |zero=>
   rw[AR]at e;cases e;exact⟨_,rfl,c,o,n,rfl,Am,Am,e1,e2.1,e3,Ty I.hok g⟩
  |succ j=>exact at_ j p (by simpa using e)
def su:List V→Hp→VK→Prop:=fun xs H Q=>∃(l:Addr)(ys:List V)(kvs:List (List Key×V)),xs=[.ref l]∧H l=some (.tup ys)∧TPsAt H ys kvs∧kvs.length≤1000∧∀p,H p=none→Q (.ref p) (upd H p (.dT (fj kvs)))
theorem Xu(hc:X.calm=true)(hu:X.A.units+64<cLine):bN X (.type "dict") su:=by
 intro CA s σ H xs us Q I rx h;obtain⟨l,ys,kvs,rfl,hq,pa,CS,q⟩:=h;obtain⟨u,rfl,ru⟩:=V1 rx;cases ru;obtain⟨_,its,rv,⟨⟨c0,d0,dt0,sl0⟩,ho,hcl,m,hs⟩⟩:=(show ObjOk X.prog X.w H s.heap l (.tup ys)from I.hok l _ hq);simp only at hcl hs;obtain⟨hcl,hdn⟩:=hcl;subst hcl hdn hs;obtain⟨ps,kt,hl,hp⟩:=Qq I pa rv;have kl:=zV kt;refine Ob (I.ok.hd hc) (by omega) ho hl (by omega) hp fun g tk kp hD=>?_;have km:=uP kt;have ml:=P9 ps;refine⟨.ref s.heap.objs.size,_,I.laid (t':=tk) (o:=.dT (fj kvs)) kp (zD _) ⟨Zl (by rw[zV km];omega),BC.mpr (AH I.big),dj ps,?_,hD⟩,rfl,q _ (I.hok.fresh (zD _))⟩;exact KT.keeps km fun b ys e=>by rw[Za (Zd e (I.hok.fresh (zD _)))];exact e
end
theorem qD{kvs:List (List Key×V)}{k:List Key}(h:k∉kvs.map (·.1)):cg kvs k=kvs:=by
 unfold cg;refine List.filter_eq_self.mpr fun p hp=>zP fun e=>h (zF.mpr ⟨p,hp,e⟩)
theorem mT{H:Hp}:∀{kvs:List (List Key×V)}{xs:List TKv}{k:List Key}{j:Nat}{q:Addr×Value},KT H kvs xs→(xs.map (·.1)).Nodup→xs[j]?=some (k,q)→KT H (cg kvs k) (xs.eraseIdx j)
 |_,_,_,_,_,.nil,_,e=>by simp at e
 |p::kvs,x::xs,k,0,q,.cons h t,nd,e=>by
  rw[AR]at e;cases e;rw[zH,Ae]at nd;have ke:kvs.map (·.1)=xs.map (·.1):=by
   clear nd h
   induction t with
   |nil=>rfl
   |cons a _ ih=>rw[zH,zH,ih,a.1]
  have e1:cg (p::kvs) k=kvs:=by
   have o:=qD (kvs:=kvs) (k:=k) (by rw[ke];exact nd.1);unfold cg at o⊢;rw[List.filter_cons,if_neg (by simp[show p.1=k from h.1])];exact o
  rw[e1];exact t
 |p::kvs,x::xs,k,j+1,q,.cons h t,nd,e=>by
  rw[zH,Ae]at nd;have e:xs[j]?=some (k,q):=by simpa using e
  have ne:p.1≠k:=fun z=>nd.1 (zF.mpr ⟨(k,q),z7 e,by rw[←h.1,z]⟩);have e1:cg (p::kvs) k=p::cg kvs k:=by
   unfold cg;rw[AA,zE (zP ne)]
  rw[e1,BZ];exact .cons h (mT t nd.2 e)
theorem T6{α β:Type}(f:α→β):∀(l:List α)(j:Nat),(l.map f).eraseIdx j=(l.eraseIdx j).map f
 | [],_=>rfl
 |_::_,0=>rfl
 |a::l,j+1=>by rw[zH,BZ,BZ,zH,T6 f l j]
theorem qH{xs:List TKv}(nd:(xs.map (·.1)).Nodup)(j:Nat):((xs.eraseIdx j).map (·.1)).Nodup:=nd.sublist ((List.eraseIdx_sublist xs j).map _)
theorem uE{d a:Addr}{xs:List TKv}{k:List Key}{j:Nat}{q:Addr×Value}(hu:A.units+1<cLine)(hkey:(tupleKind (ak prog w)).is s.heap k a)(hm:s.heap.DictOfH (tupleKind (ak prog w)) d xs)(hz:xs.length≤sizeLine)(hj:xs[j]?=some (k,q)){Q:Fin→Shared→Prop}(h:∀g tk,nX prog w g d (xs.eraseIdx j)→Heap.SameBut d s.heap g→Q (.done (.ret q.2)) {s with heap:=g,toks:=tk}):wpAny (model prog w) A.in1 (Builtin.«dict.pop» ⟨[.ref d,.ref a],[]⟩) Q E s:=by
 obtain⟨o,es,ep,ho,ex,hd,he,his,hn⟩:=id hm;have ty:s.TypeIs (.ref d) "dict":=hm.typeIs;unfold Builtin.«dict.pop»;refine ae ?_;unfold Builtin.Dict.keyAndDefault;refine ae (Ba ty (show wpAny (model prog w) _ (pure (d,Value.ref a,none)) _ _ s from zC ?_));have jl:j<xs.length:=(zM.mp hj).1;have sz:es.size=xs.length:=by rw[←zU,he,az]
 have ne:es.isEmpty=false:=by
  rcases z:es.isEmpty with _ | _
  ·rfl
  ·have:=Array.isEmpty_iff_size_eq_zero.mp z;omega
 have ej:es[j]?=some (entryOfKey (tupleKind (ak prog w)) (k,q)):=by rw[←zL,he,z9,hj];rfl
 have kp:¬((keyPart (Value.ref a)).isSome=true):=zK;simp only[kp,if_false];refine ae (Av ho hd (bP ?_));simp only[ne,Bool.false_eq_true,if_false];refine ae ?_;unfold Builtin.Dict.takeOut;refine Ax (ae ((tupleKind (ak prog w)).pyHash (Bn hu) hkey (ae (wpAny_dictFind_heap (Bn hu) hkey ho hd he his hn (fun hno=>absurd hj (hno j q)) fun i p hi=>?_))));have ij:i=j:=idxH_unique hn hi hj;subst ij;show wpAny (model prog w) _ (dictEntries d (keyPart (.ref a)) >>= fun l=>_) _ _ _;refine ae (Av ho hd ?_);rw[ej];refine ae (wpAny_updateDictKeys (hz:=?_) ho hd (zC ?_))
 ·rw[pi (by exact zK)];refine ae (wpAny_letGo (zC (h _ _ ⟨_,_,ep+1,Heap.get?_update_self _ ho (Obj.isFreed_of_dict (Obj.data_mapDictKeys hd _)),ex.mapDictKeys _,Obj.data_mapDictKeys hd _,?_,qH hn i⟩ (Heap.SameBut.update ..))));rw[Array.eraseIdxIfInBounds,dif_pos (by omega:i<es.size),Array.toList_eraseIdx,he];exact T6 _ _ _
 ·omega
section
variable{X:Cx}
def yX:V→List V→Hp→VK→Prop:=fun x vs H Q=>∃(d a:Addr)(kvs:List (List Key×V))(k:List Key)(v:V),x=.ref d∧vs=[.ref a]∧H d=some (.dT kvs)∧H a=some (.tup (k.map kV))∧bn kvs k=some v∧Q v (upd H d (.dT (cg kvs k)))
theorem uF{H:Hp}{kvs:List (List Key×V)}{xs:List TKv}{k:List Key}{v:V}(kt:KT H kvs xs):bn kvs k=some v→∃(j:Nat)(q:Addr×Value),xs[j]?=some (k,q)∧RelV v q.2:=by
 induction kt with
 |nil=>intro e;simp[bn]at e
 | @cons p x kvs xs h t ih=>
  intro e;by_cases z:p.1=k
  ·rw[Yn z]at e;cases e;exact⟨0,x.2,by rw[AR,←z,h.1],h.2.2⟩
  ·rw[Yc z]at e;obtain⟨j,q,e1,e2⟩:=ih e;exact⟨j+1,q,by simpa using e1,e2⟩
theorem lP(hu:X.A.units+64<cLine):MtR X "dict.pop" yX:=by
 intro CA s σ H x vs v us Q I rx rv h;obtain⟨d,a,kvs,k,y,rfl,rfl,hd,ha,hv,q⟩:=h;cases rx;obtain⟨u,rfl,ru⟩:=V1 rv;cases ru;obtain⟨z,lo,xs,kt,dd⟩:=k7 I.hok hd;obtain⟨j,p,hj,rp⟩:=uF kt hv;have hn:(xs.map (·.1)).Nodup:=by obtain⟨_,_,_,_,_,_,_,_,hn⟩:=dd;exact hn
 have tu:∀b ys,H b=some (.tup ys)→upd H d (.dT (cg kvs k)) b=some (.tup ys):=fun b ys e=>by rw[Za (Uh e hd (by intro z;cases z))];exact e
 refine A4 PySem.F.slot_dict_pop dd.typeIs PySem.F.entry_dict_pop (uE (by omega) (Ty I.hok ha) dd (by rw[←zV kt];exact z) hj fun g tk raw sb=>⟨_,rfl,y,_,?_,rp,q⟩) (PySem.F.args_dict_pop_2 _ _);have hg:∃o,g.get? d=some o:=let ⟨o,_,_,e,_⟩:=raw;⟨o,e⟩
 exact I.write (x:=d) (e:=d) (t':=tk) (by rw[hd];exact trivial) (.inl rfl) (fun b u nb e=>(sb.2 b nb).trans e) hg ⟨At (AB _ _) z,lo,xs.eraseIdx j,KT.keeps (mT kt hn hj) tu,raw⟩
end
abbrev ItI(h:Heap)(it d:Addr)(i n ep:Nat)(f0 f1 ok ov:Value):Prop:=h.get? it=some {cls:=.type "dict_itemiterator",dict:=none,data:=.fields #[f0,f1,.ref d,.int i 0,.int n 0,.int ep 0,ok,ov],slots:=#[]}
abbrev duo(x y:Value):Obj:={cls:=.type "tuple",data:=.seq #[x,y]}
section
variable{prog:Program}{w:World}{A:Around}{E:Value→Shared→Prop}{s:Shared}{it d:Addr}{i ep:Nat}{es:Array DictEntry}{f0 f1 ok ov:Value}
theorem gx{v:Addr}{Q:Value→Shared→Prop}(zv:s.heap.IsItemsView v d)(zm:RwD s.heap d es ep)(zq:∀g:Heap,ItI g s.heap.objs.size d 0 es.size ep .none (.bool false) .none .none→g.objs.size=s.heap.objs.size+1→(∀b o,s.heap.get? b=some o→g.get? b=some o)→Q (.ref s.heap.objs.size) {s with heap:=g}):wpAny (model prog w) A (pyIter (.ref v)) Q E s:=by
 obtain⟨ou,vo,_,vd⟩:=id zv;obtain⟨o,yo,_,yd⟩:=id zm;refine wpAny_pyIter_slot zv.typeIs PySem.F.slot_dict_items_iter (A4 PySem.F.slot_dict_items_iter zv.typeIs PySem.F.entry_dict_items_iter (bP (ae (ae (BH vo vd (x:=.ref d) rfl (zC (ae ?_)))))) (PySem.F.args_dict_items_iter_1 _));unfold Builtin.Dict_items.newIterator;skip;refine ae (Av yo yd (ae (Cq yo yd ?_)));simp only[Up.2.2,if_true];refine wpAny_newObj_type (wpAny_pure ⟨_,rfl,"dict_itemiterator",_,⟨_,Heap.get?_push_size _ rfl,rfl⟩,PySem.F.slot_dict_itemiterator_next.lookup,?_⟩) (by simp only[sizeOk,Builtin.Dict_items.ownedTupleFields,List.size_toArray,List.length_append,List.length_cons,List.length_nil,sizeLine_eq];omega);refine zq _ ?_ (size_push' _ _) fun b o e=>io _ e;unfold ItI;rw[zY _ rfl];simp[rawInt,Builtin.Dict_items.ownedTupleFields]
theorem jR{a:Addr}{Q:Option Obj→Shared→Prop}(ho:s.heap.get? a=none)(h:Q none s):wpAny (model prog w) A (loadIfAlive a) Q E s:=by
 have h':Q (s.heap.get? a) s:=by rw[ho];exact h
 exact fun _ _ _=>h'
theorem f6{Q:Option Value→Shared→Prop}(zi:ItI s.heap it d i es.size ep f0 f1 ok ov)(alt:f0=.none∨∃(a:Addr) (b:Bool),f0=rawInt a∧f1=.bool b)(zm:RwD s.heap d es ep)(zx:i<es.size)(zq:∀(g:Heap) (e0 e1 x y:Value),ItI g it d (i+1) es.size ep e0 e1 x y→(∃(a:Addr) (b:Bool),e0=rawInt a∧e1=.bool b)→g.get? s.heap.objs.size=some (duo es[i].key es[i].val)→g.objs.size=s.heap.objs.size+1→
   (∀b o,b≠it→s.heap.get? b=some o→g.get? b=some o)→Q (some (.ref s.heap.objs.size)) {s with heap:=g}):wpAny (model prog w) A (pyNext (.ref it)) Q E s:=by
 obtain⟨hp,gs,dr,tk,os⟩:=s;obtain⟨od,yo,_,yd⟩:=zm;have ty:Shared.TypeIs ⟨hp,gs,dr,tk,os⟩ (.ref it) "dict_itemiterator":=⟨_,zi,rfl⟩;refine T4 ty PySem.F.slot_dict_itemiterator_next PySem.F.entry_dict_itemiterator_next (PySem.F.args_dict_itemiterator_next_1 _) (bP (ae (ae (ae (Bp ty (zC (ae (Cn zi rfl ?_))))))));simp only[Up.2.2,if_true];show wpAny (model prog w) _ (if (Value.ref d==Value.none)=true then _ else _) _ _ _;rw[pi (Vs d)];refine bP (ae (Av yo yd ?_));rw[if_neg (by simp)];refine bP (wpAny_bind (wpAny_dictEpoch yo yd ?_));rw[if_neg (by simp)];refine wpAny_pure ?_;simp only[show ¬((i:Int)<0)from by omega,if_false,Int.toNat_natCast,Array.getElem?_eq_getElem zx];refine ae (ae (Bp ty (zC (ae (wpAny_isOneOf_itemiter ty ?_)))));show wpAny (model prog w) _ (setField (.ref it) 3 (rawInt ((i:Int)+1)) >>= fun _=>_) _ _ ⟨hp,gs,dr,tk,os⟩;refine wpAny_bind (wpAny_setField_rec zi (by simp) fun g1 e1 s1=>?_);have s1:Heap.SameBut it hp g1:=s1;have e1:ItI g1 it d (i+1) es.size ep f0 f1 ok ov:=by
  have q:((i+1:Nat):Int)=(i:Int)+1:=by omega
  unfold ItI;rw[q];simpa [rawInt] using e1
 have ty1:Shared.TypeIs ⟨g1,gs,dr,tk,os⟩ (.ref it) "dict_itemiterator":=⟨_,e1,rfl⟩;refine ae (Ax (ae (wpAny_isOneOf_itemiter ty1 (ae (wpAny_isOneOf_itemiter ty1 ?_)))));show wpAny (model prog w) _ (Builtin.Dict_items.pairFromOwner (.ref it) 6 es[i].key es[i].val) _ _ ⟨g1,gs,dr,tk,os⟩;unfold Builtin.Dict_items.pairFromOwner;refine ae (wpAny_newTuple ?_);have e2:ItI (g1.push (duo es[i].key es[i].val)) it d (i+1) es.size ep f0 f1 ok ov:=io _ e1;generalize hz:g1.push (duo es[i].key es[i].val)=g2 at e2;have z1:g1.objs.size=hp.objs.size:=s1.1;have il:it<hp.objs.size:=zN zi;have t2:g2.get? hp.objs.size=some (duo es[i].key es[i].val):=by rw[←hz,←z1];exact zY _ rfl
 have z2:g2.objs.size=hp.objs.size+1:=by rw[←hz,Heap.size_push,z1]
 have k2:∀b o,b≠it→hp.get? b=some o→g2.get? b=some o:=fun b o nb e=>by rw[←hz];exact io _ (s1.extBut b o nb e)
 have fin:∀(g:Heap)(x0 x1 x y:Value),ItI g it d (i+1) es.size ep x0 x1 x y→(∃(a:Addr)(b:Bool),x0=rawInt a∧x1=.bool b)→Heap.SameBut it g2 g→Q (some (.ref hp.objs.size)) ⟨g,gs,dr,tk,os⟩:=fun g x0 x1 x y h1 h2 sb=>
  zq g x0 x1 x y h1 h2 (sb.extBut _ _ (AH il) t2) (by show g.objs.size=hp.objs.size+1;rw[sb.1,z2]) fun b o nb e=>sb.extBut b o nb (k2 b o nb e)
 show wpAny (model prog w) _ (Builtin.Dict_items.ownedTupleIsFree (.ref it) >>= fun _=>_) _ _ ⟨g2,gs,dr,tk,os⟩;rw[z1];unfold Builtin.Dict_items.ownedTupleIsFree
 rcases alt with rfl | ⟨a,b,rfl,rfl⟩
 ·refine ae (ae (BH e2 rfl (x:=.none) rfl (zC ?_)));simp only[if_true];refine wpAny_bind (wpAny_field e2 rfl (x:=ok) rfl (wpAny_bind (wpAny_field e2 rfl (x:=ov) rfl (wpAny_bind (wpAny_setField_rec e2 (by simp) fun g3 e3 s3=>wpAny_bind (wpAny_setField_rec e3 (by simp) fun g4 e4 s4=>wpAny_bind (wpAny_setField_rec e4 (by simp) fun g5 e5 s5=>wpAny_bind (wpAny_setField_rec e5 (by simp) fun g6 e6 s6=>?_))))))));refine ae (wpAny_letGo (zC (zC ⟨_,rfl,fin g6 _ _ _ _ e6 ⟨_,_,rfl,rfl⟩ ?_⟩)));have s3:Heap.SameBut it g2 g3:=s3;have s4:Heap.SameBut it g3 g4:=s4;have s5:Heap.SameBut it g4 g5:=s5;have s6:Heap.SameBut it g5 g6:=s6;exact⟨by rw[s6.1,s5.1,s4.1,s3.1],fun c nc=>(s6.2 c nc).trans ((s5.2 c nc).trans ((s4.2 c nc).trans (s3.2 c nc)))⟩
 ·refine ae (ae (BH e2 rfl (x:=rawInt a) rfl ?_));show wpAny (model prog w) _ (loadIfAlive ((a:Int).toNat) >>= fun _=>_) _ _ _;rw[Int.toNat_natCast];cases a2:g2.get? a with
  |none=>
   refine ae (jR a2 ?_);simp only[Option.isNone_none,if_true];refine zC ?_;simp only[if_true];refine wpAny_bind (wpAny_field e2 rfl (x:=ok) rfl (wpAny_bind (wpAny_field e2 rfl (x:=ov) rfl (wpAny_bind (wpAny_setField_rec e2 (by simp) fun g3 e3 s3=>wpAny_bind (wpAny_setField_rec e3 (by simp) fun g4 e4 s4=>wpAny_bind (wpAny_setField_rec e4 (by simp) fun g5 e5 s5=>wpAny_bind (wpAny_setField_rec e5 (by simp) fun g6 e6 s6=>?_))))))));refine ae (wpAny_letGo (zC (zC ⟨_,rfl,fin g6 _ _ _ _ e6 ⟨_,_,rfl,rfl⟩ ?_⟩)));have s3:Heap.SameBut it g2 g3:=s3;have s4:Heap.SameBut it g3 g4:=s4;have s5:Heap.SameBut it g4 g5:=s5;have s6:Heap.SameBut it g5 g6:=s6;exact⟨by rw[s6.1,s5.1,s4.1,s3.1],fun c nc=>(s6.2 c nc).trans ((s5.2 c nc).trans ((s4.2 c nc).trans (s3.2 c nc)))⟩
  |some o=>
   refine ae (W.kdx_alive a2 ?_);simp only[Option.isNone_some,Bool.false_eq_true,if_false];refine ae (BH e2 rfl (x:=.bool b) rfl ?_);cases b with
   |true=>
    rw[pi (show ¬((Value.bool true != Value.bool true)=true)from zK)];refine zC ?_;simp only[Bool.false_eq_true,if_false];exact zC (zC ⟨_,rfl,fin g2 _ _ _ _ e2 ⟨_,_,rfl,rfl⟩ (Heap.SameBut.refl _ _)⟩)
   |false=>
    rw[zE (show(Value.bool false != Value.bool true)=true from rfl)];refine wpAny_bind (wpAny_setField_rec e2 (by simp) fun g3 e3 s3=>wpAny_pure ?_);simp only[Bool.false_eq_true,if_false];exact zC (zC ⟨_,rfl,fin g3 _ _ _ _ e3 ⟨_,_,rfl,rfl⟩ s3⟩)
theorem fW{Q:Option Value→Shared→Prop}(zh:A.handled=none)(zi:ItI s.heap it d i es.size ep f0 f1 ok ov)(zm:RwD s.heap d es ep)(zx:es.size≤i)(zq:∀g:Heap,Heap.ExtBut it s.heap g→Q none {s with heap:=g}):wpAny (model prog w) A (pyNext (.ref it)) Q E s:=by
 obtain⟨od,yo,_,yd⟩:=zm;have ty:s.TypeIs (.ref it) "dict_itemiterator":=⟨_,zi,rfl⟩;refine T4 ty PySem.F.slot_dict_itemiterator_next PySem.F.entry_dict_itemiterator_next (PySem.F.args_dict_itemiterator_next_1 _) (bP (ae (ae (ae (Bp ty (zC (ae (Cn zi rfl ?_))))))));simp only[Up.2.2,if_true];show wpAny (model prog w) _ (if (Value.ref d==Value.none)=true then _ else _) _ _ s;rw[pi (Vs d)];refine bP (ae (Av yo yd ?_));rw[if_neg (by simp)];refine bP (wpAny_bind (wpAny_dictEpoch yo yd ?_));rw[if_neg (by simp)];refine wpAny_pure ?_;simp only[show ¬((i:Int)<0)from by omega,if_false,Int.toNat_natCast,Array.getElem?_eq_none zx];refine ae (ae (Bp ty (zC ?_)));show wpAny (model prog w) _ (setField (.ref it) 2 .none >>= fun _=>_) _ _ s;refine wpAny_bind (wpAny_setField zi rfl (by simp) (To (by simpa using zh) fun g e k ty=>⟨ty,zq g fun b u nb eb=>k b u ?_⟩));exact(A5 _ _ (Ne.symm nb)).trans eb
end
def beh(I n:Nat):List Addr:=(List.range n).map fun j=>I+1+j
theorem pP(I n:Nat):beh I (n+1)=beh I n++[I+1+n]:=by
 unfold beh;rw[List.range_succ,zW];rfl
theorem mE(I n:Nat):(beh I n).length=n:=by
 unfold beh;rw[az,List.length_range]
theorem qU(I j:Nat):I+1+j≠I:=by omega
abbrev lsO(xs:Array Value)(c:Nat):Obj:={cls:=.type "list",data:=.seq xs c}
section
variable{prog:Program}{w:World}{A:Around}{E:Value→Shared→Prop}{s:Shared}{d:Addr}{ep:Nat}{es:Array DictEntry}{R:Result→Shared→Prop}
theorem kH{S I:Addr}(zh:A.handled=none)(hSI:S<I)(hSd:d≠S)(hId:d≠I)(hn:es.size≤sizeLine)(res:Value){h0:Heap}(fin:∀(h:Heap) (tk c:Nat),(∀b o,b≠S→b≠I→h0.get? b=some o→h.get? b=some o)→h.get? S=some (lsO ((beh I es.size).map Value.ref).toArray c)→(∀(j:Nat) (hj:j<es.size),h.get? (I+1+j)=some (duo es[j].key es[j].val))→R (.ok (.ret res)) {s with heap:=h,toks:=tk}):
  ∀(k i:Nat)(h:Heap)(tk c:Nat)(f0 f1 ok ov:Value),es.size-i=k→i≤es.size→ItI h I d i es.size ep f0 f1 ok ov→(f0=.none∨∃(a:Addr)(b:Bool),f0=rawInt a∧f1=.bool b)→RwD h d es ep→(∀b o,b≠S→b≠I→h0.get? b=some o→h.get? b=some o)→
   h.get? S=some (lsO ((beh I i).map Value.ref).toArray c)→(∀(j:Nat)(hj:j<es.size),j<i→h.get? (I+1+j)=some (duo es[j].key es[j].val))→h.objs.size=I+1+i→
   codeAny (model prog w) A (.builtin "list.extend.loop" ⟨[.ref S,.ref I,res],[]⟩) R {s with heap:=h,toks:=tk}:=by
 have ne:S≠I:=zX hSI;intro k
 induction k with
 |zero=>
  intro i h tk c f0 f1 ok ov hk hi st alt hD keep hS tp hz;obtain rfl:i=es.size:=by omega
  refine BB PySem.F.entry_extend_loop ?_;rw[A0 BQ _];refine wpAny_bind (m:=pyNext (.ref I)) (fW (s:={s with heap:=h,toks:=tk}) (A:=A.in1) (by simpa using zh) st hD (Nat.le_refl _) fun g x=>wpAny_pure (fin g tk c (fun b o h1 h2 e=>x b o h2 (keep b o h1 h2 e)) (x S _ ne hS) fun j hj=>x _ _ (qU I j) (tp j hj hj)))
 |succ k ih=>
  intro i h tk c f0 f1 ok ov hk hi st alt hD keep hS tp hz;have CI:i<es.size:=by omega
  refine BB PySem.F.entry_extend_loop ?_;rw[A0 BQ _];refine ae (m:=pyNext (.ref I)) (f6 (s:={s with heap:=h,toks:=tk}) (A:=A.in1) st alt hD CI fun g x0 x1 x y CP al tg zg kp=>?_);dsimp only at tg zg kp al⊢;rw[hz]at tg zg⊢;have hSl:S<h.objs.size:=zN hS;have hS':=kp S _ ne hS;have up:∀b o,b≠S→g.get? b=some o→(g.update S (Obj.mapSeq (·.push (Value.ref (I+1+i))))).get? b=some o:=fun b o nb e=>(A5 _ _ (Ne.symm nb)).trans e;have hl:((beh I i).map Value.ref).toArray.size=i:=by rw[z8,az,mE]
  obtain⟨c2,u2⟩:∃c2,(g.update S (Obj.mapSeq (·.push (Value.ref (I+1+i))))).get? S=some (lsO ((beh I (i+1)).map Value.ref).toArray c2):=by
   have u:=get?_update_seq (c:="list") hS' (fun x=>x.push (Value.ref (I+1+i)));rw[List.push_toArray]at u;rw[pP,zW];exact⟨_,u⟩
  show wpAny (model prog w) A.in1 (updateSeq S (·.push (Value.ref (I+1+i))) >>= fun _=>_) _ _ _;refine ae (wpAny_updateSeq hS' rfl (zC ⟨Cc BQ _,ih (i+1) _ tk c2 x0 x1 x y (by omega) CI (up I _ (Ne.symm ne) CP) (.inr al) (hD.at fun o e=>up d o hSd (kp d o hId e)) (fun b o h1 h2 e=>up b o h1 (kp b o h2 (keep b o h1 h2 e))) u2 (fun j hj ji=>?_) ?_⟩) (by rw[hl];omega) (by rw[Bi,hl];omega))
  ·by_cases z:j=i
   ·subst z;exact up _ _ (AH (z6 hSI (by omega))) tg
   ·exact up _ _ (AH (z6 hSI (by omega))) (kp _ _ (qU I j) (tp j hj (by omega)))
  ·rw[Heap.size_update,zg];omega
theorem uV:(Value.type "dict_items" == Value.type "list")=false∧(Value.type "dict_items" == Value.type "tuple")=false:=by decide
theorem gX{S r:Addr}(zh:A.handled=none)(zv:s.heap.IsItemsView r d)(zm:RwD s.heap d es ep)(hSr:S≠r)(hSd:d≠S)(hn:es.size≤sizeLine)(res:Value){c0:Nat}(eS:s.heap.get? S=some (lsO #[] c0))(fin:∀(h:Heap) (tk c:Nat),(∀b o,b≠S→s.heap.get? b=some o→h.get? b=some o)→h.get? S=some (lsO ((beh s.heap.objs.size es.size).map Value.ref).toArray c)→(∀(j:Nat) (hj:j<es.size),h.get? (s.heap.objs.size+1+j)=some (duo es[j].key es[j].val))→R (.ok (.ret res)) {s with heap:=h,toks:=tk}):
  wpAny (model prog w) A.in1 (Builtin.List.listExtendWith (.ref S) (.ref r) res) (fun fin s'=>match fin with
   |.done f=>R (.ok f) s'
   |.again c'=>c'.quiet=true∧codeAny (model prog w) A c' R s') (fun e s'=>R (.error e) s') s:=by
 have lS:S<s.heap.objs.size:=zN eS;unfold Builtin.List.listExtendWith;refine ae (Br zv.typeIs ?_);have sm:Builtin.List.listSameRef (.ref S) (.ref r)=false:=by
  unfold Builtin.List.listSameRef;simpa using hSr
 rw[sm,uV.1,uV.2,pi (by decide)];refine ae (gx zv zm fun g1 st z1 kp=>?_);refine ae (Ax (W.kdx_hint (s:={s with heap:=g1}) (let ⟨o,ho,hc,_⟩:=zv;⟨o,kp _ _ ho,hc⟩) ?_));refine j4 (by kernel_rfl) (ae (Bo ?_));unfold Builtin.List.listTouch;skip;have u1:=get?_update_seq (c:="list") (kp _ _ eS) (fun x=>x.push Value.none);have u2:=get?_update_seq (c:="list") u1 (fun x=>x.pop);refine wpAny_bind (wpAny_bind (listUpdate_at (kp _ _ eS) rfl (listUpdate_at u1 rfl ?_ (by simp[sizeLine_eq]) (by simp)) (by simp) (by simp[sizeLine_eq])));obtain⟨c2,u3⟩:∃c2,((g1.update S (Obj.mapSeq fun x=>x.push Value.none)).update S (Obj.mapSeq fun x=>x.pop)).get? S=some (lsO #[] c2):=⟨_,u2⟩;have k2:∀b o,b≠S→g1.get? b=some o→((g1.update S (Obj.mapSeq fun x=>x.push Value.none)).update S (Obj.mapSeq fun x=>x.pop)).get? b=some o:=fun b o nb e=>by
  rw[Heap.get?_update_ne _ _ _ _ nb,Heap.get?_update_ne _ _ _ _ nb];exact e
 have z2:((g1.update S (Obj.mapSeq fun x=>x.push Value.none)).update S (Obj.mapSeq fun x=>x.pop)).objs.size=s.heap.objs.size+1:=by rw[Heap.size_update,Heap.size_update,z1]
 generalize (g1.update S (Obj.mapSeq fun x=>x.push Value.none)).update S (Obj.mapSeq fun x=>x.pop)=g2 at u3 k2 z2;refine zC ⟨Cc BQ _,kH (s:=s) (es:=es) (ep:=ep) (h0:=s.heap) zh lS hSd (zX zm.lt) hn res (fun h tk c kh hS tp=>fin h tk c (fun b o nb e=>kh b o nb (zX (zN e)) e) hS tp) es.size 0 g2 s.toks c2 .none (.bool false) .none .none (Nat.sub_zero _) (BI _) (k2 _ _ (AH lS) st) (.inl rfl) (zm.at fun o e=>k2 d o hSd (kp d o e)) (fun b o nb _ e=>k2 b o nb (kp b o e)) u3 (fun j hj ji=>absurd ji (Nat.not_lt_zero j)) z2⟩
def ColI(s:Shared)(es:Array DictEntry)(q:Result)(s':Shared):Prop:=∃(g:Heap)(tk c:Nat),q=.ok (.ret (.ref s.heap.objs.size))∧s'={s with heap:=g,toks:=tk}∧(∀b o,s.heap.get? b=some o→g.get? b=some o)∧
 g.get? s.heap.objs.size=some (lsO ((beh (s.heap.objs.size+1) es.size).map Value.ref).toArray c)∧∀(j:Nat)(hj:j<es.size),g.get? (s.heap.objs.size+1+1+j)=some (duo es[j].key es[j].val)
theorem O9{r:Addr}{C:List Value→Shared→Prop}(zh:A.handled=none)(zv:s.heap.IsItemsView r d)(zm:RwD s.heap d es ep)(hn:es.size≤sizeLine)(h:∀(g:Heap) (tk:Nat),(∀b o,s.heap.get? b=some o→g.get? b=some o)→(∀(j:Nat) (hj:j<es.size),g.get? (s.heap.objs.size+1+1+j)=some (duo es[j].key es[j].val))→C ((beh (s.heap.objs.size+1) es.size).map Value.ref) {s with heap:=g,toks:=tk}):wpAny (model prog w) A (collect (.ref r)) C E s:=by
 have lr:r<s.heap.objs.size:=let ⟨_,e,_⟩:=zv;zN e
 unfold collect;refine ae (wpAny_runValue (BB entry_proto_collect' ?_));rw[A0 PySem.F.plain_proto_collect _];refine ae (m:=newList []) (AZ (zC ⟨Cc B3 _,BB entry_list_iadd' ?_⟩));rw[A0 B3 _];have own:(s.heap.push {cls:=.type "list",data:=.seq ([]:List Value).toArray}).get? s.heap.objs.size=some (lsO #[] 0):=zY _ rfl;have sz:(s.heap.push {cls:=.type "list",data:=.seq ([]:List Value).toArray}).objs.size=s.heap.objs.size+1:=size_push' _ _;have run:=gX (prog:=prog) (w:=w) (A:=A) (s:={s with heap:=s.heap.push {cls:=.type "list",data:=.seq ([]:List Value).toArray}}) (R:=ColI s es) (es:=es) (ep:=ep) (r:=r) zh (let ⟨o,e,x⟩:=zv;⟨o,io _ e,x⟩) (zm.at fun o e=>io _ e) (AH lr) (zX zm.lt) hn (.ref s.heap.objs.size) own
  (fun g tk c hk hS tp=>⟨g,tk,c,rfl,rfl,fun b o e=>hk b o (zX (zN e)) (io _ e),by rw[←sz];exact hS,fun j hj=>by rw[←sz];exact tp j hj⟩)
 refine AU run (fun fin s' y=>?_) (fun _ _ y=>by obtain⟨_,_,_,e,_⟩:=y;cases e);have last:∀{g:Heap}{tk c:Nat},(∀b o,s.heap.get? b=some o→g.get? b=some o)→g.get? s.heap.objs.size=some (lsO ((beh (s.heap.objs.size+1) es.size).map Value.ref).toArray c)→(∀(j:Nat)(hj:j<es.size),g.get? (s.heap.objs.size+1+1+j)=some (duo es[j].key es[j].val))→
   wpAny (model prog w) A (load s.heap.objs.size >>= fun u=>match u.data with
    |.seq xs _=>pure xs.toList
    |_=>unsupported "internal:collect") C E {s with heap:=g,toks:=tk}:=fun{g tk c} hk hS tp=>ae (Cv hS (zC (by rw[List.toList_toArray];exact h g tk hk tp)))
 cases fin with
 |done f=>
  obtain⟨g,tk,c,e,rfl,hk,hS,tp⟩:=y;cases e;exact last hk hS tp
 |again c1=>
  refine⟨y.1,Cr y.2 fun q s2 z=>?_⟩;obtain⟨g,tk,c,rfl,rfl,hk,hS,tp⟩:=z;exact last hk hS tp
end
def leP(a b:(Int×Int)×Int):Bool:=decide (a.1.1<b.1.1) || (decide (a.1.1=b.1.1) && (decide (a.1.2<b.1.2) || (decide (a.1.2=b.1.2) && decide (a.2≤b.2))))
theorem Su{a b:(Int×Int)×Int}:leP a b=true↔a.1.1<b.1.1∨(a.1.1=b.1.1∧(a.1.2<b.1.2∨(a.1.2=b.1.2∧a.2≤b.2))):=by
 unfold leP;simp only[Bool.or_eq_true,Bool.and_eq_true,decide_eq_true_iff]
theorem oi(a b:(Int×Int)×Int):(leP a b || leP b a)=true:=by
 rw[Bool.or_eq_true,Su,Su];omega
theorem nK(a b c:(Int×Int)×Int)(h1:leP a b=true)(h2:leP b c=true):leP a c=true:=by
 rw[Su]at *;omega
theorem iu{a b:(Int×Int)×Int}(h1:leP a b=true)(h2:leP b a=true):a=b:=by
 rw[Su]at h1 h2;exact AT (AT (by omega) (by omega)) (by omega)
def aQ(ps:Sps):Sps:=ps.mergeSort leP
theorem Y0(ps:Sps):(aQ ps).Perm ps:=List.mergeSort_perm _ _
theorem Qv(ps:Sps):(aQ ps).Pairwise (fun a b=>leP a b=true):=List.pairwise_mergeSort nK oi ps
theorem f_{α:Type}{le:α→α→Bool}(anti:∀{a b},le a b=true→le b a=true→a=b):∀{l m:List α},l.Perm m→l.Pairwise (fun a b=>le a b=true)→m.Pairwise (fun a b=>le a b=true)→l=m
 | [],m,p,_,_=>List.Perm.nil_eq p
 |a::l,[],p,_,_=>absurd p.length_eq (by simp)
 |a::l,b::m,p,h1,h2=>by
  have e:a=b:=by
   rcases zZ.mp (p.mem_iff.mp Au)with q | q
   ·exact q
   ·rcases zZ.mp (p.mem_iff.mpr Au)with r | r
    ·exact r.symm
    ·exact anti ((A3.mp h1).1 b r) ((A3.mp h2).1 a q)
  subst e;rw[f_ anti ((List.perm_cons a).mp p) (A3.mp h1).2 (A3.mp h2).2]
theorem iJ{α:Type}(F:Addr→α→Prop)(fu:∀{a k l},F a k→F a l→k=l){le:α→α→Bool}(anti:∀{a b},le a b=true→le b a=true→a=b){as bs:List Addr}{ks srt:List α}(h:Paired F as ks)(p:bs.Perm as)(pw:bs.Pairwise fun a b=>∀k l,F a k→F b l→le k l=true)(sp:srt.Perm ks)(sw:srt.Pairwise fun a b=>le a b=true):Paired F bs srt:=by
 classical
 cases ks with
 |nil=>
  cases h;rw[p.eq_nil,sp.eq_nil];exact .nil
 |cons k0 ks0=>
  let key:Addr→α:=fun a=>if h:∃k,F a k then Classical.choose h else k0
  have kat:∀{a k},F a k→key a=k:=fun{a k} f=>by
   have ex:∃k,F a k:=⟨k,f⟩;show(if h:∃k,F a k then Classical.choose h else k0)=k;rw[dif_pos ex];exact fu (Classical.choose_spec ex) f
  have all:∀{l:List Addr}{m:List α},Paired F l m→l.map key=m∧∀a∈l,F a (key a):=fun{l m} r=>by
   induction r with
   |nil=>exact⟨rfl,fun _ h=>nomatch h⟩
   | @cons b k l m e _ ih=>
    have kb:=kat e;refine⟨by rw[zH,kb,ih.1],fun c hc=>?_⟩
    rcases zZ.mp hc with z | hc
    ·rw[z,kb];exact e
    ·exact ih.2 c hc
  obtain⟨e1,e2⟩:=all h;have atb:∀b∈bs,F b (key b):=fun b hb=>e2 b (p.mem_iff.mp hb);have back:∀{l:List Addr},(∀b∈l,F b (key b))→Paired F l (l.map key):=fun{l} hl=>by
   induction l with
   |nil=>exact .nil
   |cons b l ih=>exact .cons (hl b (.head _)) (ih fun c hc=>hl c (.tail _ hc))
  have eq:bs.map key=srt:=f_ anti ((p.map key).trans (by rw[e1];exact sp.symm)) (A8.mpr (pw.imp_of_mem fun{a b} ha hb q=>q _ _ (atb a ha) (atb b hb))) sw;rw[←eq];exact back atb
def FT(H:Hp)(a:Addr)(p:(Int×Int)×Int):Prop:=∃b:Addr,H a=some (.tup [.ref b,.int p.2])∧H b=some (.tup [.int p.1.1,.int p.1.2])
theorem FT.fu{H:Hp}{a:Addr}{p q:(Int×Int)×Int}(h:FT H a p)(g:FT H a q):p=q:=by
 obtain⟨b,e1,e2⟩:=h;obtain⟨c,f1,f2⟩:=g;rw[e1]at f1;injection f1 with f1
 injection f1 with f1
 injection f1 with g1 g2
 injection g1 with g1
 injection g2 with g2 _
 injection g2 with g2
 subst g1;rw[e2]at f2;injection f2 with f2
 injection f2 with f2
 injection f2 with k1 k2
 injection k1 with k1
 injection k2 with k2 _
 injection k2 with k2
 exact AT (AT k1 k2) g2
theorem Tz{H:Hp}{as:List Addr}{ps:Sps}(h:Paired (FT H) as ps):TPsAt H (as.map V.ref) (af ps):=by
 induction h with
 |nil=>exact .nil
 |cons h r ih=>
  obtain⟨_,e1,e2⟩:=h;exact .cons e1 e2 ih
theorem x3{p q:(Int×Int)×Int}(h:(cx (cx aL aL) aL).blt q p=false):leP p q=true:=by
 rw[Su];have h:cW (cx aL aL) aL q p=false:=h;by_cases c:p.1.1<q.1.1
 ·exact .inl c
 have no:∀{z:Bool},z=true→z=false→False:=fun a b=>by rw[a]at b;cases b
 have n1:¬q.1.1<p.1.1:=fun c=>no (Yq.mpr (.inl (Yq (O:=aL) (U:=aL).mpr (.inl (zP c))))) h;have e1:p.1.1=q.1.1:=by omega
 refine .inr ⟨e1,?_⟩;have n2:¬q.1.2<p.1.2:=fun c=>no (Yq.mpr (.inl (Yq (O:=aL) (U:=aL).mpr (.inr ⟨e1.symm,zP c⟩)))) h;by_cases c2:p.1.2<q.1.2
 ·exact .inl c2
 have e2:p.1.2=q.1.2:=by omega
 refine .inr ⟨e2,?_⟩;have n3:¬q.2<p.2:=fun c=>no (Yq.mpr (.inr ⟨AT e1.symm e2.symm,zP c⟩)) h;omega
section
variable{X:Cx}
def sR:List V→Hp→VK→Prop:=fun xs H Q=>∃(v d:Addr)(ps:Sps),xs=[.ref v]∧H v=some (bg v d)∧H d=some (.dT (af ps))∧ps.length<1000∧
 ∀(H1:Hp)(as:List Addr),Same H H1→Paired (FT H1) as (aQ ps)→∀q,H1 q=none→H q=none→Q (.ref q) (upd H1 q (.lst (as.map V.ref)))
theorem pT{H:Hp}:∀{ps:Sps}{xs:List TKv}{j:Nat}{p:(Int×Int)×Int},KT H (af ps) xs→ps[j]?=some p→∃x,xs[j]?=some x∧H x.2.1=some (.tup [.int p.1.1,.int p.1.2])∧∃t,x.2.2=.int p.2 t:=fun{ps xs j p} kt e=>by
 have e2:(af ps)[j]?=some (kk p.1,.int p.2):=by unfold af;rw[z9,e];rfl
 obtain⟨x,h1,h2,t,h3⟩:=Pj kt e2;exact⟨x,h1,h2,t,h3⟩
theorem Ry(hc:X.calm=true)(hu:X.A.units+64<cLine):bN X (.builtin "sorted") sR:=by
 intro CA s σ H xs us Q I rx h;obtain⟨v,d,ps,rfl,hv,hd,h64,q⟩:=h;obtain⟨u,rfl,ru⟩:=V1 rx;cases ru;obtain⟨_,lo,ks,es,ep,kt,raw,ek,ev,sz⟩:=Py I.hok (.inl hd);obtain⟨view,_⟩:=(show ObjOk X.prog X.w H s.heap v (bg v d)from I.hok v _ hv);rw[Zk]at sz;have kl:ks.length=ps.length:=by rw[←zV kt,Zk]
 let n:=s.heap.objs.size
 let L:Hp:=fun b=>if n+2≤b then(match ks[b-(n+2)]?,ps[b-(n+2)]? with
  |some x,some p=>some (.tup [.ref x.2.1,.int p.2])
  |_,_=>none)else none
 have Lat:∀(j:Nat)(x:TKv)(p:(Int×Int)×Int),ks[j]?=some x→ps[j]?=some p→L (n+1+1+j)=some (.tup [.ref x.2.1,.int p.2]):=fun j x p h1 h2=>by
  show(if n+2≤n+1+1+j then _ else none)=_;rw[zE (by omega),show n+1+1+j-(n+2)=j by omega,h1,h2]
 refine Om (vX (prog:=X.prog) (w:=X.w)) (S1 (prog:=X.prog) (w:=X.w)) FTI (fun{CA σ H s a k} I h=>?_) (((0:Int),(0:Int)),(0:Int)) hu (fun{E C} hC=>O9 (A:=X.A.in1) (by simpa using I.ok.hd hc) view raw (Zl (by omega)) fun g tk kp tp=>?_)
 ·obtain⟨b,i,j,n,h,hb,rfl⟩:=h;obtain⟨o,m,u,v,e1,e2,e3,ru,⟨t',rv⟩⟩:=kA I h;obtain⟨o2,m2,u2,v2,g1,g2,g3,⟨t2,ru2⟩,⟨t3,rv2⟩⟩:=kA I hb;exact⟨a,o,m,u,v,rfl,e1,e2,e3,⟨b,o2,m2,u2,v2,ru,g1,g2,g3,⟨t2,ru2⟩,⟨t3,rv2⟩⟩,⟨t',rv⟩⟩
 have ent:∀(j:Nat)(hj:j<es.size)(x:TKv),ks[j]?=some x→es[j].key=.ref x.2.1∧es[j].val=x.2.2:=fun j hj x hx=>by
  have q1:(es.toList.map DictEntry.key)[j]?=some es[j].key:=by rw[z9,zL,zJ hj];rfl
  have q2:(es.toList.map DictEntry.val)[j]?=some es[j].val:=by rw[z9,zL,zJ hj];rfl
  rw[ek,z9,z9,hx]at q1;rw[ev,z9,hx]at q2;exact⟨(Aa q1).symm,(Aa q2).symm⟩
 have nw:∀b o,n≤b→L b=some o→ObjOk X.prog X.w (over H n L) g b o:=fun b o hb e=>by
  have e:(if n+2≤b then(match ks[b-(n+2)]?,ps[b-(n+2)]? with
   |some x,some p=>some (HO.tup [.ref x.2.1,.int p.2])
   |_,_=>none)else none)=some o:=e
  by_cases hb2:n+2≤b
  ·rw[zE hb2]at e;have hj:b-(n+2)<ps.length:=by
    by_cases z:b-(n+2)<ps.length
    ·exact z
    ·rw[List.getElem?_eq_none (Nat.not_lt.mp z)]at e;cases z2:ks[b-(n+2)]? <;> rw[z2]at e <;> cases e
   have hp:ps[b-(n+2)]?=some ps[b-(n+2)]:=AF hj;obtain⟨x,hx,_,t,hv⟩:=pT kt hp;rw[hx,hp]at e;cases e;have hje:b-(n+2)<es.size:=by omega
   obtain⟨k1,k2⟩:=ent _ hje x hx;have tb:=tp _ hje;rw[k1,k2,hv,show s.heap.objs.size+1+1+(b-(n+2))=b by show n+1+1+(b-(n+2))=b;omega]at tb;exact⟨Zl (leN rfl),[.ref x.2.1,.int _ t],.cons rfl (.cons ⟨t,rfl⟩ .nil),⟨_,tb,⟨rfl,rfl⟩,_,rfl⟩⟩
  ·rw[pi hb2]at e;cases e
 obtain⟨I',sm⟩:=I.over (t':=tk) kp nw;have pr:Paired (FT (over H n L)) (beh (n+1) es.size) ps:=by
  have go:∀(l:Sps)(m:Nat),(∀j p,l[j]?=some p→ps[m+j]?=some p)→m+l.length=ps.length→Paired (FT (over H n L)) ((List.range l.length).map fun j=>n+1+1+(m+j)) l:=fun l=>by
   induction l with
   |nil=>intro m _ _;exact .nil
   |cons p l ih=>
    intro m hl hm;have e0:=hl 0 p rfl;obtain⟨x,hx,hb,_⟩:=pT kt e0;have q:=ih (m+1) (fun j p e=>by have:=hl (j+1) p (by simpa using e);rwa [show m+(j+1)=m+1+j by omega]at this) (by rw[List.length_cons]at hm;omega);rw[Ak,List.range_succ_eq_map,zH,Al];refine .cons ⟨x.2.1,?_,sm _ _ hb⟩ ?_
    ·rw[iY (by omega)];exact Lat (m+0) x p hx e0
    ·have ef:((fun j=>n+1+1+(m+j))∘Nat.succ)=fun j=>n+1+1+(m+1+j):=by
      funext j
      show n+1+1+(m+(j+1))=_;omega
     rw[ef];exact q
  have:=go ps 0 (fun j p e=>by rwa [Bs]) (by omega);rw[sz];unfold beh;simpa using this
 refine hC g tk (over H n L) (beh (n+1) es.size) I' (by rw[mE];omega) (fun a ha=>?_) fun bs bp pw q0 nq=>?_
 ·have:∀{l:List Addr}{m:Sps},Paired (FT (over H n L)) l m→a∈l→∃k,FTI (over H n L) a k:=fun{l m} r=>by
   induction r with
   |nil=>intro h;exact nomatch h
   |cons e _ ih=>
    intro h
    rcases zZ.mp h with z | h
    ·obtain⟨b,e1,e2⟩:=e;rw[z];exact⟨_,b,_,_,_,e1,e2,rfl⟩
    ·exact ih h
  exact this pr ha
 ·refine q (over H n L) bs sm (iJ (FT (over H n L)) (fun f g=>f.fu g) (fun a b=>iu a b) pr bp (pw.imp fun{a b} h k l fk fl=>?_) (Y0 ps) (Qv ps)) q0 nq ?_
  ·obtain⟨b1,e1,e2⟩:=fk;obtain⟨b2,f1,f2⟩:=fl;exact x3 (h k l ⟨b1,_,_,_,e1,e2,rfl⟩ ⟨b2,_,_,_,f1,f2,rfl⟩)
  ·by_cases z:H q0=none
   ·exact z
   ·obtain⟨u,hu⟩:=Option.ne_none_iff_exists'.mp z;rw[sm _ _ hu]at nq;cases nq
end
section
variable{P:Program}{w:World}{A:Around}{E:Value→Shared→Prop}{s:Shared}{a b:Addr}{es:Array DictEntry}{ep e2:Nat}
end
theorem uH{X:Cx}(hu:X.A.units+64<cLine):OpR X (compareOp .In) (fun x y H Q=>∃(a:Addr)(o:Option V),y=.ref a∧DGet H a x o∧Q (.bl o.isSome) H):=by
 intro CA s σ H x y v u Q I rx ry h;obtain⟨a,o,rfl,g,q⟩:=h;cases ry;exact d_in (by omega) I g rx fun s' I'=>⟨.bl _,H,I',rfl,q⟩
section
variable{X:Cx}{pos:Pos}
end
section
variable{X:Cx}
def yJ(i:Nat):TE:=fun σ H Q=>match List.getD σ i none with
 |some v=>Q v H
 |none=>False
theorem qv{e:Expr}{i:Nat}(h:PE X e (wZ i)):PE X e (yJ i):=fun CA s σ H Q I q=>h CA s σ H Q I (by
 unfold yJ at q;cases e1:List.getD σ i none with
 |none=>rw[e1]at q;exact q.elim
 |some v=>
  rw[e1]at q;refine⟨v,?_,q⟩;unfold List.getD at e1;cases e2:σ[i]? with
  |none=>rw[e2]at e1;cases e1
  |some o=>rw[e2]at e1;exact AX some e1)
def qI(C:Int→Int→Prop)(g:Int→Int→V):R2:=fun x y H Q=>match x,y with
 |.int i,.int j=>C i j∧Q (g i j) H
 |_,_=>False
def qI0(g:Int→Int→V):R2:=fun x y H Q=>match x,y with
 |.int i,.int j=>Q (g i j) H
 |_,_=>False
theorem qi{C:Int→Int→Prop}{g:Int→Int→V}{f:Value→Value→Sem Value}(h:OpR X f (rI C g)):OpR X f (qI C g):=fun CA s σ H x y v u Q I rx ry q=>h CA s σ H x y v u Q I rx ry (by
 cases x <;> cases y <;> first | exact q.elim | exact⟨_,_,rfl,rfl,q.1,q.2⟩)
theorem qi0{g:Int→Int→V}{f:Value→Value→Sem Value}(h:OpR X f (rI0 g)):OpR X f (qI0 g):=fun CA s σ H x y v u Q I rx ry q=>h CA s σ H x y v u Q I rx ry (by
 cases x <;> cases y <;> first | exact q.elim | exact⟨_,_,rfl,rfl,q⟩)
def qEq:R2:=fun x y H Q=>match x,y with
 |.int i,.int j=>Q (.bl (decide (i=j))) H
 |_,_=>False
theorem uG(i j:Int):decide (V.int i=V.int j)=decide (i=j):=decide_eq_decide.mpr ⟨fun h=>V.int.inj h,fun h=>by rw[h]⟩
theorem qeq{f:Value→Value→Sem Value}(h:OpR X f rEq):OpR X f qEq:=fun CA s σ H x y v u Q I rx ry q=>h CA s σ H x y v u Q I rx ry (by
 cases x <;> cases y <;> first | exact q.elim | exact⟨rfl,by rw[uG];exact q⟩)
def qIx(A:Hp→Addr→List V→Prop):R2:=fun x y H Q=>match x,y with
 |.ref p,.int i=>∃xs v,A H p xs∧atI xs i=some v∧Q v H
 |_,_=>False
theorem Xa:IxR X (qIx (SqL X.K)):=fun a b CA s σ H x y v u Q I rx ry q=>T8 a b CA s σ H x y v u Q I rx ry (by
 cases x <;> cases y <;> first | exact q.elim | exact⟨_,q.choose,_,q.choose_spec.choose,rfl,rfl,q.choose_spec.choose_spec⟩)
def qK(Q:Bool→Hp→Prop):VK:=fun x H=>match x with
 |.bl k=>Q k H
 |_=>False
def yW(t:TE):TT:=fun σ H Q=>t σ H (qK Q)
theorem Ul{op:CmpOp}{a b:Expr}{pos:Pos}{ta tb:TE}{r:R2}(ho:OpR X (compareOp op) r)(ha:PE X a ta)(hb:PE X b tb)(hm:behindInMarks op b=false):PT X (.Compare a [op] [b] pos) (yW (tOp r ta tb)):=by
 intro CA s σ H Q I h;refine wpAny_isTrue_Compare1 (thn (ha CA s σ H _ I h) fun v s1 ⟨x,H1,I1,r1,q1⟩=>thn (hb CA s1 σ H1 _ I1 q1) fun u s2 ⟨y,H2,I2,r2,q2⟩=>
  thn (ho CA s2 σ H2 x y v u _ I2 r1 r2 q2) fun c s3 ⟨z,H3,I3,r3,q3⟩=>?_) hm
 cases z <;> first | exact q3.elim | skip
 cases r3;exact Be ⟨H3,I3,q3⟩
end
theorem blk{p:Prop}(h:p):p:=h
theorem Zy{X:Cx}{pos:Pos}(i:Nat){x:Str}{e:Expr}{te:TE}{pos':Pos}(hN:X.N.Nodup)(hi:X.N[i]?=some x)(hx:Loc X.env.scope x)(he:PE X e te)(hs:swapsWith e (some (.Name x pos')) pos.line X.env=pure false:=by rfl)(hf:X.fn x=true:=by rfl):PS X (.Assign [.Name x pos'] e pos) (qe te (jc i)):=@kT _ _ i _ _ _ _ hN hi hx he hs (.inl hf)
theorem Zq{N P:List Str}{sc:Scope}(a:sc.kind=.function)(b:sc.isCoroutine=false)(c:sc.isGenerator=false)(d:N.take P.length=P)(h:N.Nodup∧(∀x∈P,sc.names.lookup x=some .local∨sc.names.lookup x=some .cell)∧∀y∈sc.names,y.2≠.free):FnScope N P sc:=⟨a,b,c,h.1,d,h.2.1,h.2.2⟩
theorem R0{X:Cx}{own:List Str}{scope:Scope}(hc:X.calm=X.calm)(hk:scope.kind=.function)(h1:kO scope.names=true:=by rfl)(h2:kS X.env.scope.names scope.names=true:=by rfl)(h3:kc X.N scope.names=true:=by rfl):CompOk X own scope:=CompOk.of hc hk h1 h2 h3
theorem Xb{X:Cx}{a b:Expr}{ta tb:TE}{pos:Pos}{r:R2}(hr:IxR X r)(ha:PE X a ta)(hb:PE X b tb)(hs:mU b:=by exact fun _ _=>rfl):PE X (.Subscript a b pos) (tOp r ta tb):=yu hr ha hb hs
end L2
namespace K34
open PySem L2
def top(i:Nat):Stmt:=PySem.Challenge.pw_sumshare_k34_whole_papers_where_it_fits.main.body.getD i (.Pass ⟨0,0,0,0⟩)
abbrev c5:Stmt:=top 1
theorem iT:FnScope ["thing"] ["thing"] (aa c5):=Zq rfl rfl rfl rfl (by decide +kernel)
abbrev bB:Stmt:=top 2
theorem Rc:FnScope ["thing","least"] ["thing","least"] (aa bB):=Zq rfl rfl rfl rfl (by decide +kernel)
abbrev bh:Stmt:=top 3
theorem Tn:FnScope ["thing","least","most"] ["thing","least","most"] (aa bh):=Zq rfl rfl rfl rfl (by decide +kernel)
abbrev bf:Stmt:=top 4
theorem Y4:FnScope ["one","other","sums","key","count"] ["one","other"] (aa bf):=Zq rfl rfl rfl rfl (by decide +kernel)
abbrev cX:Stmt:=top 10
theorem Uk:FnScope ["stretch","height","index"] ["stretch"] (aa cX):=Zq rfl rfl rfl rfl (by decide +kernel)
abbrev dE:Stmt:=top 11
theorem Tm:FnScope ["stretch","height","index"] ["stretch"] (aa dE):=Zq rfl rfl rfl rfl (by decide +kernel)
abbrev cL:Stmt:=top 12
theorem U0:FnScope ["stretch","height","index"] ["stretch"] (aa cL):=Zq rfl rfl rfl rfl (by decide +kernel)
abbrev dH:Stmt:=top 13
theorem U1:FnScope ["stretch","height","index","lesser"] ["stretch"] (aa dH):=Zq rfl rfl rfl rfl (by decide +kernel)
abbrev ce:Stmt:=top 14
theorem Vb:FnScope ["thing","deep","height","index"] ["thing","deep"] (aa ce):=Zq rfl rfl rfl rfl (by decide +kernel)
abbrev eB:Stmt:=top 16
theorem Vr:FnScope ["ladder","room","deep","counts","total"] ["ladder"] (aa eB):=Zq rfl rfl rfl rfl (by decide +kernel)
abbrev bU:Stmt:=top 17
theorem Ww:FnScope ["counts","stretch","one","other"] ["counts","stretch"] (aa bU):=Zq rfl rfl rfl rfl (by decide +kernel)
abbrev bx:Stmt:=top 18
theorem Vq:FnScope ["deep","bar","counts","stretch"] ["deep","bar","counts"] (aa bx):=Zq rfl rfl rfl rfl (by decide +kernel)
abbrev cQ:Stmt:=top 19
theorem U3:FnScope ["counts","stretch","many","parent"] ["counts","stretch","many"] (aa cQ):=Zq rfl rfl rfl rfl (by decide +kernel)
abbrev bV:Stmt:=top 20
theorem Zw:FnScope ["ladder","room","deep","pairs","total","bar","counts","folds","stretch","one"] ["ladder"] (aa bV):=Zq rfl rfl rfl rfl (by decide +kernel)
abbrev dM:Stmt:=top 21
theorem ku:FnScope ["ladder"] ["ladder"] (aa dM):=Zq rfl rfl rfl rfl (by decide +kernel)
abbrev c6:Stmt:=top 23
theorem V2:FnScope ["tree","steps","waiting","here"] ["tree"] (aa c6):=Zq rfl rfl rfl rfl (by decide +kernel)
abbrev cb:Stmt:=top 24
theorem O5:FnScope ["tree"] ["tree"] (aa cb):=Zq rfl rfl rfl rfl (by decide +kernel)
theorem Tc:(["step","tree"]:List Str).Nodup:=by decide +kernel
abbrev cD:Stmt:=top 25
theorem Vz:FnScope ["tree","things","stream"] ["tree"] (aa cD):=Zq rfl rfl rfl rfl (by decide +kernel)
abbrev gr:Stmt:=top 26
theorem Uj:FnScope ["tree","of_stream","of_two","kept","step","other","one"] ["tree","of_stream","of_two"] (aa gr):=Zq rfl rfl rfl rfl (by decide +kernel)
abbrev bK:Stmt:=top 28
theorem Q3:FnScope ["room","deep"] ["room","deep"] (aa bK):=Zq rfl rfl rfl rfl (by decide +kernel)
abbrev bO:Stmt:=top 29
theorem X4:FnScope ["room","deep","thing","day","mark","number","many"] ["room","deep","thing"] (aa bO):=Zq rfl rfl rfl rfl (by decide +kernel)
abbrev bG:Stmt:=top 30
theorem Ym:FnScope ["one","other","room","deep","counts","total","sums"] ["one","other"] (aa bG):=Zq rfl rfl rfl rfl (by decide +kernel)
abbrev a_:Stmt:=top 31
theorem R8:FnScope ["one","other"] ["one","other"] (aa a_):=Zq rfl rfl rfl rfl (by decide +kernel)
abbrev cK:Stmt:=top 32
theorem Wg:FnScope ["room","deep","stream","ladder","thing"] ["room","deep","stream"] (aa cK):=Zq rfl rfl rfl rfl (by decide +kernel)
abbrev ai:Stmt:=top 33
theorem Q0:FnScope ["room","deep","tree"] ["room","deep","tree"] (aa ai):=Zq rfl rfl rfl rfl (by decide +kernel)
abbrev cz:Stmt:=top 35
theorem f8:FnScope ["stream"] ["stream"] (aa cz):=Zq rfl rfl rfl rfl (by decide +kernel)
theorem Yx:(["day","mark","number","many","stream"]:List Str).Nodup:=by decide +kernel
abbrev aJ:Stmt:=top 37
theorem Zx:FnScope ["one","other","ladder","paper","late_ladder","late_paper","both","folds"] ["one","other"] (aa aJ):=Zq rfl rfl rfl rfl (by decide +kernel)
abbrev aZ:Stmt:=top 38
theorem Yo:FnScope ["room","deep","stream","kept","thing"] ["room","deep","stream"] (aa aZ):=Zq rfl rfl rfl rfl (by decide +kernel)
abbrev ah:Stmt:=top 39
theorem Wc:FnScope ["room","deep","tree","ladder","paper"] ["room","deep","tree"] (aa ah):=Zq rfl rfl rfl rfl (by decide +kernel)
abbrev bW:Stmt:=top 40
theorem Qz:FnScope ["stream"] ["stream"] (aa bW):=Zq rfl rfl rfl rfl (by decide +kernel)
theorem Yj:(["day","mark","number","many","stream"]:List Str).Nodup:=by decide +kernel
abbrev cB:Stmt:=top 41
theorem Yp:FnScope ["stream","ladder","paper","room","deep","counts","total","standing","stretch","many"] ["stream","ladder","paper"] (aa cB):=Zq rfl rfl rfl rfl (by decide +kernel)
theorem Td:(["one","stream","ladder","paper","room","deep","counts","total","standing","stretch","many"]:List Str).Nodup:=by decide +kernel
abbrev bA:Stmt:=top 42
theorem Zm:FnScope ["stream","ladder","room","deep","pairs","total","counts","folds","standing","height","rests","rising"] ["stream","ladder"] (aa bA):=Zq rfl rfl rfl rfl (by decide +kernel)
theorem Xr:(["stretch","many","stream","ladder","room","deep","pairs","total","counts","folds","standing","height","rests","rising"]:List Str).Nodup:=by decide +kernel
theorem Xq:(["stretch","many","stream","ladder","room","deep","pairs","total","counts","folds","standing","height","rests","rising"]:List Str).Nodup:=by decide +kernel
theorem Xp:(["stretch","many","stream","ladder","room","deep","pairs","total","counts","folds","standing","height","rests","rising"]:List Str).Nodup:=by decide +kernel
abbrev cI:Stmt:=top 43
theorem Sb:FnScope ["stream","ladder","paper"] ["stream","ladder"] (aa cI):=Zq rfl rfl rfl rfl (by decide +kernel)
abbrev bC:Stmt:=top 45
theorem R9:FnScope ["ladder"] ["ladder"] (aa bC):=Zq rfl rfl rfl rfl (by decide +kernel)
theorem Xo:(["stretch","count","ladder"]:List Str).Nodup:=by decide +kernel
abbrev bo:Stmt:=top 46
theorem Sd:FnScope ["ladder"] ["ladder"] (aa bo):=Zq rfl rfl rfl rfl (by decide +kernel)
theorem Xi:(["stretch","count","ladder"]:List Str).Nodup:=by decide +kernel
abbrev jU:Stmt:=top 48
theorem t8:FnScope ["stream","ladder"] ["stream","ladder"] (aa jU):=Zq rfl rfl rfl rfl (by decide +kernel)
abbrev cN:Stmt:=top 49
theorem gt:FnScope ["places"] ["places"] (aa cN):=Zq rfl rfl rfl rfl (by decide +kernel)
theorem Wf:(["number","count","places"]:List Str).Nodup:=by decide +kernel
abbrev eZ:Stmt:=top 50
theorem m7:FnScope ["ladder"] ["ladder"] (aa eZ):=Zq rfl rfl rfl rfl (by decide +kernel)
abbrev dC:Stmt:=top 51
theorem kz:FnScope ["ladder"] ["ladder"] (aa dC):=Zq rfl rfl rfl rfl (by decide +kernel)
abbrev gd:Stmt:=top 53
theorem Sc:FnScope ["_law_script","_law_k","_law_cell"] ["_law_script","_law_k"] (aa gd):=Zq rfl rfl rfl rfl (by decide +kernel)
abbrev eM:Stmt:=top 54
theorem Ux:FnScope ["_law_pen_here","_law_size","_law_drawn","_law_number"] ["_law_pen_here","_law_size"] (aa eM):=Zq rfl rfl rfl rfl (by decide +kernel)
abbrev eU:Stmt:=top 55
theorem Ra:FnScope ["_law_pen_here","_law_k","_law_some"] ["_law_pen_here","_law_k"] (aa eU):=Zq rfl rfl rfl rfl (by decide +kernel)
abbrev eG:Stmt:=top 56
theorem nP:FnScope ["_law_pen_here"] ["_law_pen_here"] (aa eG):=Zq rfl rfl rfl rfl (by decide +kernel)
abbrev dB:Stmt:=top 57
theorem U2:FnScope ["_law_pen_here","_law_marks","_law_deep","_law_day","_law_number"] ["_law_pen_here","_law_marks","_law_deep"] (aa dB):=Zq rfl rfl rfl rfl (by decide +kernel)
abbrev cV:Stmt:=top 58
theorem iN:FnScope ["_law_pen_here","_law_marks","_law_deep","_law_most"] ["_law_pen_here","_law_marks","_law_deep","_law_most"] (aa cV):=Zq rfl rfl rfl rfl (by decide +kernel)
theorem Tu:(["_law_k","_law_pen_here","_law_marks","_law_deep","_law_most"]:List Str).Nodup:=by decide +kernel
abbrev dz:Stmt:=top 59
theorem Rb:FnScope ["_law_pen_here","_law_marks","_law_deep","_law_most","_law_parts","_law_left","_law_one"] ["_law_pen_here","_law_marks","_law_deep","_law_most","_law_parts"] (aa dz):=Zq rfl rfl rfl rfl (by decide +kernel)
abbrev eI:Stmt:=top 60
theorem nA:FnScope ["_law_pen_here"] ["_law_pen_here"] (aa eI):=Zq rfl rfl rfl rfl (by decide +kernel)
abbrev bZ:Stmt:=top 61
theorem X0:FnScope ["_law_stream_here","_law_found","_law_day","_law_mark","_law_number","_law_many_here"] ["_law_stream_here"] (aa bZ):=Zq rfl rfl rfl rfl (by decide +kernel)
abbrev eC:Stmt:=top 62
theorem Y5:FnScope ["_law_stream_here","_law_ladder","_law_room_here","_law_deep","_law_counts","_law_total","_law_here","_law_within","_law_height","_law_index","_law_count","_law_above","_law_stretch","_law_there"] ["_law_stream_here","_law_ladder"] (aa eC):=Zq rfl rfl rfl rfl (by decide +kernel)
theorem Rk:(["_law_leaf","_law_stream_here","_law_ladder","_law_room_here","_law_deep","_law_counts","_law_total","_law_here","_law_within","_law_height","_law_index","_law_count","_law_above","_law_stretch","_law_there"]:List Str).Nodup:=by decide +kernel
theorem Rj:(["_law_leaf","_law_stream_here","_law_ladder","_law_room_here","_law_deep","_law_counts","_law_total","_law_here","_law_within","_law_height","_law_index","_law_count","_law_above","_law_stretch","_law_there"]:List Str).Nodup:=by decide +kernel
abbrev dO:Stmt:=top 63
theorem Wv:FnScope ["_law_stream_here","_law_ladder","_law_paper","_law_standing","_law_stretch","_law_many_here","_law_parent"] ["_law_stream_here","_law_ladder","_law_paper"] (aa dO):=Zq rfl rfl rfl rfl (by decide +kernel)
theorem So:(["_law_one","_law_stream_here","_law_ladder","_law_paper","_law_standing","_law_stretch","_law_many_here","_law_parent"]:List Str).Nodup:=by decide +kernel
abbrev dG:Stmt:=top 64
theorem Xk:FnScope ["_law_stream_here","_law_ladder","_law_due","_law_handed","_law_found","_law_said","_law_again"] ["_law_stream_here","_law_ladder"] (aa dG):=Zq rfl rfl rfl rfl (by decide +kernel)
abbrev bR:Stmt:=top 65
theorem Ug:FnScope ["_law_room_here","_law_deep","_law_tree_here","_law_ladder","_law_paper"] ["_law_room_here","_law_deep","_law_tree_here","_law_ladder"] (aa bR):=Zq rfl rfl rfl rfl (by decide +kernel)
abbrev dN:Stmt:=top 66
theorem Yb:FnScope ["_law_pen_here","_law_deep","_law_stream_here","_law_found","_law_k","_law_at","_law_day","_law_mark","_law_number","_law_many_here","_law_near","_law_part","_law_left"] ["_law_pen_here","_law_deep","_law_stream_here"] (aa dN):=Zq rfl rfl rfl rfl (by decide +kernel)
abbrev de:Stmt:=top 67
theorem Xv:FnScope ["_law_script","_law_pen_here","_law_deep","_law_room_here","_law_tree_here","_law_stream_here","_law_ladder","_law_first","_law_some","_law_k","_law_other_here","_law_strange","_law_less"] ["_law_script"] (aa de):=Zq rfl rfl rfl rfl (by decide +kernel)
def b_:Sp:=fun vs H Q _=>∃(a:Addr)(n:Int),vs=[.ref a,.int n]∧PenAt H a∧0<n∧n<1000000000000000000000000000000000000000000000000000000000000∧
 ∀(d:Int)(H':Hp),0≤d→d<n→PenAt H' a→Grw a H H'→Q (.int d) H'
def vi(K:W.Frag):Sp:=fun vs H Q _=>∃(a:Addr)(ns:List Int)(k:Int),vs=[.ref a,.int k]∧SqL K H a (ns.map V.int)∧0≤k∧
 ∀(p:Addr)(H':Hp),H p=none→Same H H'→PenAt H' p→Q (.ref p) H'
def qO:Sp:=fun vs H Q _=>∃(x:V)(k:Int),vs=[x,.int k]∧∀(z:Str)(H':Hp),z∈words→Same H H'→Q (.str z) H'
def oT:Sp:=fun vs H Q _=>∃(a:Addr),vs=[.ref a]∧PenAt H a∧∀(m:Int)(H':Hp),1≤m→m≤1000000000→PenAt H' a→Grw a H H'→Q (.int m) H'
def lJ:Sp:=fun vs H Q _=>∃(a:Addr)(n k:Int),vs=[.ref a,.int n,.int k]∧PenAt H a∧0<n∧n<1073741824∧0≤k∧k<30∧
 ∀(r:Addr)(t:Th)(H':Hp),t.Ok→t.num<2^k.toNat→ao a H' r=some (.tup t.vs)→PenAt H' a→Grw a H H'→Q (.ref r) H'
def eY:Sp:=fun vs H Q _=>∃(a:Addr)(n k l:Int),vs=[.ref a,.int n,.int k,.int l]∧PenAt H a∧0<n∧n<1073741824∧0≤k∧k<30∧0≤l∧l<1000∧
 ∀(r:Addr)(ts:List Th)(H':Hp),(∀t∈ts,t.Ok)→(∀t∈ts,t.num<2^k.toNat)→(ts.length:Int)≤l→DV (ao a H') (.ref r) (.list (ts.map Th.D))→PenAt H' a→Grw a H H'→Q (.ref r) H'
variable{P:Program}{w:World}{K:W.Frag}{mg:Str→Option Value}{base:Heap}{f:Addr}{fd:FuncData}
theorem sx(F:Fun K "_law_draw" "_law_draw" eM f fd):FnOk P w K mg base CX0 1 f fd ["_law_pen_here","_law_size"] b_:=by
 refine F.ok Ux (fun vs H Q E h=>?_) (fun cdv A outer s H vs Q E hr h=>?_)
 ·obtain⟨a,n,rfl,_⟩:=h;rfl
 obtain⟨a,n,rfl,⟨p,q,r,e⟩,h0,h1,hq⟩:=h;refine⟨_,(Z3 (Yt (Ze (qi0 Zu) (Xb Xa (qv (pv 0)) Z5) Z5) (qd (qv (pv 0)) Z5 gZ))
 (Z3 (Y8 (Ul (qi0 Rt) (Xb Xa (qv (pv 0)) Z5) Z5 (Zh _)) (Z3 (Zy 2 Ux.nd rfl (Or.inl rfl) (Ze (qi W0) (Xb Xa (qv (pv 0)) Z5) (qv (pv 1))))
 (Z3 (Yt (Ze rQ (Xb Xa (qv (pv 0)) Z5) (qv (pv 1))) (qd (qv (pv 0)) Z5 gZ))
 (Z7 (Zc (qv (pv 2)))))) Zr)
 (Z3 (Zy 3 Ux.nd rfl (Or.inl rfl) (Ze (qi W0) (Ze (qi Vg) (Ze (qi0 Zu) (Ze (qi0 Zu) (Xb Xa (qv (pv 0)) Z5) (Ze (qi Vg) Z5 (Xb Xa (qv (pv 0)) Z5))) Z5) Z5) Z5))
 (Z3 (Zy 3 Ux.nd rfl (Or.inl rfl) (Ze (qi W0) (Ze (qi Vg) (qv (pv 3)) (Ze (qi0 Zu) (Ze (qi0 Zu) (Ze (qi W0) (qv (pv 3)) Z5) (Xb Xa (qv (pv 0)) Z5)) Z5)) Z5))
 (Z7 (Zc (Ze (qi W0) (Ze (qi T3) (Ze (qi W0) (Ze (qi Vg) (qv (pv 3)) (Ze (qi0 Zu) (Ze (qi W0) (qv (pv 3)) Z5) Z5)) Z5) Z5) (qv (pv 1))))))))),?_⟩
 refine⟨_,_,SqL.of e,k_ _ _ _,a,_,2,_,rfl,rfl,e,rfl,?_⟩;have e1:upd H a (.lst [.int p,.int q,.int (r+1)]) a=some (.lst [.int p,.int q,.int (r+1)]):=Z2;refine⟨_,_,SqL.of e1,qy _ _ _,?_⟩;refine Xh (fun c=>?_) (fun c=>?_)
 ·refine⟨_,_,SqL.of e1,qy _ _ _,h0,?_⟩;refine⟨_,_,SqL.of e1,qy _ _ _,_,_,rfl,rfl,⟨h0,h1⟩,a,_,0,_,rfl,rfl,e1,rfl,?_⟩;refine hq (p % n) _ (Ca _ (by omega)) (B6 _ h0) ⟨_,_,_,Z2⟩ ?_;rw[kZ];exact X3
 ·refine⟨_,_,SqL.of e1,vf _ _ _,_,_,SqL.of e1,k_ _ _ _,oh rfl rfl,mulR rfl rfl,Xx rfl,?_⟩;refine⟨Xx rfl,_,_,SqL.of e1,k_ _ _ _,xY _ _ _ rfl rfl,Xx rfl,?_⟩;refine⟨Xx rfl,xY _ _ _ rfl rfl,Xx rfl,uY rfl rfl,h0,?_⟩;exact hq _ _ (Ca _ (by omega)) (B6 _ h0) ⟨_,_,_,e1⟩ X3
theorem vB(F:Fun K "_law_pen" "_law_pen" gd f fd)(bT:mg "len"=none):FnOk P w K mg base CX0 1 f fd ["_law_script","_law_k"] (vi K):=by
 refine F.ok Sc (fun vs H Q E h=>?_) (fun cdv A outer s H vs Q E hr h=>?_)
 ·obtain⟨a,ns,k,rfl,_⟩:=h;rfl
 obtain⟨a,ns,k,rfl,hS,h0,hq⟩:=h;have hl:(ns.map V.int).length=ns.length:=az _;refine⟨_,(Z3 (Zy 2 Sc.nd rfl (Or.inl rfl) (Ze (qi0 Zu) (Ze (qi Vg) Z5 (qv (pv 1))) Z5))
 (Z3 (Y8 (Ul (qi0 Rr) (qv (pv 1)) (Y1 Xf rfl bT Cp (Z0 (qv (pv 0)) Z1)) (Zh _)) (Z7 (Zy 2 Sc.nd rfl (Or.inl rfl) (Xb Xa (qv (pv 0)) (qv (pv 1))))) (Z7 (Y8 (Ul (qi0 Rt) (Y1 Xf rfl bT Cp (Z0 (qv (pv 0)) Z1)) Z5 (Zh _)) (Z7 (Zy 2 Sc.nd rfl (Or.inl rfl) (Ze (qi0 Zu) (Xb Xa (qv (pv 0)) (Ze (qi W0) (qv (pv 1)) (Y1 Xf rfl bT Cp (Z0 (qv (pv 0)) Z1)))) (Ze (qi Vg) Z5 (qv (pv 1)))))) Zr)))
 (Z3 (Y8 (Ul (qi0 jd) (qv (pv 2)) (Ze (qi jX) Z5 Z5) (Zh _)) (Z7 (Zc (Yl (Z0 (Ze (qi0 Xl) (qv (pv 2)) (Ze (qi jX) Z5 Z5)) (Z0 (Ze (qi W0) (qv (pv 2)) Z5) (Z0 Z5 Z1)))))) Zr)
 (Z7 (Zc (Yl (Z0 Z5 (Z0 (Ze (qi0 Zu) (Ze (qi W0) (qv (pv 2)) Z5) (Ze (qi Vg) Z5 (qv (pv 1)))) (Z0 Z5 Z1))))))))),?_⟩
 refine⟨oh rfl rfl,?_⟩;refine⟨a,_,rfl,.inl hS,?_⟩;have atn:∀i:Int,0≤i→i<ns.length→∃v:Int,atI (ns.map V.int) i=some (.int v):=fun i h1 h2=>by
  obtain⟨v,hv,hm⟩:=f9 (xs:=ns.map V.int) h1 (by rw[hl];exact h2);obtain⟨n,_,rfl⟩:=zF.mp hm;exact⟨n,hv⟩
 have fin:∀x y z:Int,∀p,H p=none→Q (.ref p) (upd H p (.lst [.int x,.int y,.int z])):=fun x y z p hp=>hq p _ hp (Z6 hp _) ⟨x,y,z,Z2⟩;refine Xh (fun c=>?_) (fun c=>?_)
 ·have c:=zO c;rw[hl]at c;obtain⟨v,hv⟩:=atn k h0 c;refine⟨_,_,hS,hv,?_⟩;refine⟨kP rfl rfl rfl,?_⟩;refine Xh (fun c=>?_) (fun c=>?_)
  ·refine⟨kP rfl rfl rfl,Xx rfl,leN rfl,fin _ _ _⟩
  ·refine⟨Xx rfl,oh rfl rfl,leN rfl,fin _ _ _⟩
 ·refine⟨a,_,rfl,.inl hS,?_⟩;refine Xh (fun c=>?_) (fun c=>?_)
  ·have c:=zO c;rw[hl]at c;have hm:=Ca k (show(ns.length:Int)≠0 by omega);have hm2:=B6 k c;obtain⟨v,hv⟩:=atn (k % (ns.length:Int)) hm hm2;refine⟨a,_,rfl,.inl hS,by rw[hl];exact c,_,_,hS,by rw[hl];exact hv,oh rfl rfl,?_⟩;refine⟨kP rfl rfl rfl,?_⟩;refine Xh (fun c=>?_) (fun c=>?_)
   ·refine⟨kP rfl rfl rfl,Xx rfl,leN rfl,fin _ _ _⟩
   ·refine⟨Xx rfl,oh rfl rfl,leN rfl,fin _ _ _⟩
  ·refine⟨kP rfl rfl rfl,?_⟩;refine Xh (fun c=>?_) (fun c=>?_)
   ·refine⟨kP rfl rfl rfl,Xx rfl,leN rfl,fin _ _ _⟩
   ·refine⟨Xx rfl,oh rfl rfl,leN rfl,fin _ _ _⟩
theorem tO(F:Fun K "_law_word" "_law_word" eU f fd):FnOk P w K mg base CX0 1 f fd ["_law_pen_here","_law_k"] qO:=by
 refine F.ok Ra (fun vs H Q E h=>?_) (fun cdv A outer s H vs Q E hr h=>?_)
 ·obtain⟨x,k,rfl,_⟩:=h;rfl
 obtain⟨x,k,rfl,hq⟩:=h;refine⟨_,(Z3 (Zy 2 Ra.nd rfl (Or.inl rfl) Um)
 (Z3 (Zy 2 Ra.nd rfl (Or.inl rfl) (Ze kI (pv 2) Um))
 (Z7 (Zc (Xb T8 (Uo PySem.F.plainAttrs_str PySem.F.slot_str_split PySem.F.type_str_split px (pv 2) (Z0 Um Z1)) (Ze W0 (pv 1) Z5)))))),?_⟩
 refine⟨_,rfl,wordA,wordB,rfl,rfl,tP,?_⟩;refine⟨_,rfl,rfl,wordA++wordB," ",words,rfl,rfl,xv,xr,wC,xF,jK,by decide,fun l hl=>?_⟩;obtain⟨v,hv,hm⟩:=f9 (xs:=words.map V.str) (i:=k % 26) (Ca _ (by decide)) (by rw[az];exact B6 _ (by decide));obtain⟨z,hz,rfl⟩:=zF.mp hm;refine⟨_,rfl,_,_,rfl,rfl,Xx rfl,l,_,_,_,rfl,rfl,SqL.of Z2,hv,?_⟩;exact hq z _ hz (Z6 hl _)
theorem tM(aj:Has P w K mg base "_law_draw" 1 ["_law_pen_here","_law_size"] b_)(F:Fun K "_law_many" "_law_many" eG f fd):FnOk P w K mg base CX0 2 f fd ["_law_pen_here"] oT:=by
 refine F.ok nP (fun vs H Q E h=>?_) (fun cdv A outer s H vs Q E hr h=>?_)
 ·obtain⟨a,rfl,_⟩:=h;rfl
 obtain⟨a,rfl,hp,hq⟩:=h;refine⟨_,(Z3 (Y8 (Ul (qeq Sj) (Z4 aj hr (Z0 (qv (pv 0)) (Z0 Z5 Z1))) Z5 (Zh _)) (Z7 (Zc (Ze (qi0 Zu) Z5 (Z4 aj hr (Z0 (qv (pv 0)) (Z0 (Ze (qi0 Xl) (Ze (qi jX) Z5 Z5) Z5) Z1)))))) Zr)
 (Z7 (Zc (Ze (qi0 Zu) Z5 (Z4 aj hr (Z0 (qv (pv 0)) (Z0 (Xb Xa (Yl (Z0 Z5 (Z0 Z5 (Z0 Z5 Z1)))) (Z4 aj hr (Z0 (qv (pv 0)) (Z0 Z5 Z1)))) Z1))))))),?_⟩
 refine⟨a,6,rfl,hp,Xx rfl,ltI rfl,fun d1 H1 _ _ hp1 g1=>?_⟩;refine Xh (fun c=>?_) (fun c=>?_)
 ·refine⟨kP rfl rfl rfl,a,_,rfl,hp1,Xx rfl,ltI rfl,fun d2 H2 x0 x1 hp2 g2=>?_⟩;have x1:d2<999999999:=x1;exact hq _ _ (by omega) (by omega) hp2 (g1.trans g2)
 ·refine⟨leN rfl,fun p hn=>⟨a,3,rfl,hp1.laid hn,Xx rfl,ltI rfl,fun d2 H2 x0 x1 hp2 g2=>?_⟩⟩;obtain⟨v,hv,hm⟩:=at3 (x:=.int 1) (y:=.int 2) (z:=.int 9) x0 x1;have hpa:=hp1.ne hn;have e2:H2 p=some (.lst [.int 1,.int 2,.int 9]):=Sw g2 hpa Z2;refine⟨_,v,SqL.of e2,hv,?_⟩;obtain⟨n,rfl,n0,n1⟩:∃n:Int,v=.int n∧0<n∧n<10:=by
   rcases hm with rfl | rfl | rfl
   ·exact⟨_,rfl,by decide,by decide⟩
   ·exact⟨_,rfl,by decide,by decide⟩
   ·exact⟨_,rfl,by decide,by decide⟩
  refine⟨a,n,rfl,hp2,n0,by omega,fun d3 H3 y0 y1 hp3 g3=>?_⟩;exact hq _ _ (by omega) (by omega) hp3 (g1.trans ((X5 hn).trans (g2.trans g3)))
theorem qM(aj:Has P w K mg base "_law_draw" 1 ["_law_pen_here","_law_size"] b_)(qt:Has P w K mg base "_law_word" 1 ["_law_pen_here","_law_k"] qO)(oV:Has P w K mg base "_law_many" 2 ["_law_pen_here"] oT)(F:Fun K "_law_thing" "_law_thing" dB f fd):FnOk P w K mg base CX0 3 f fd ["_law_pen_here","_law_marks","_law_deep"] lJ:=by
 refine F.ok U2 (fun vs H Q E h=>?_) (fun cdv A outer s H vs Q E hr h=>?_)
 ·obtain⟨a,n,k,rfl,_⟩:=h;rfl
 obtain⟨a,n,k,rfl,hp,n0,n1,k0,k1,hq⟩:=h;refine⟨_,(Z3 (Zy 3 U2.nd rfl (Or.inl rfl) (Ze (qi Vg) (Z4 aj hr (Z0 (qv (pv 0)) (Z0 Z5 Z1))) (Xb Xa (Yl (Z0 Z5 (Z0 Z5 (Z0 Z5 Z1)))) (Z4 aj hr (Z0 (qv (pv 0)) (Z0 Z5 Z1))))))
 (Z3 (Zy 4 U2.nd rfl (Or.inl rfl) (Z4 aj hr (Z0 (qv (pv 0)) (Z0 (Ze (qi Tq) Z5 (qv (pv 2))) Z1))))
 (Z3 (Y8 (Ul (qeq Sj) (Z4 aj hr (Z0 (qv (pv 0)) (Z0 Z5 Z1))) Z5 (Zh _)) (Z7 (Zy 4 U2.nd rfl (Or.inl rfl) (Ze (qi T3) (qv (pv 4)) Z5))) Zr)
 (Z7 (Zc (Zn (Z0 (qv (pv 3)) (Z0 (Z4 qt hr (Z0 (qv (pv 0)) (Z0 (Z4 aj hr (Z0 (qv (pv 0)) (Z0 (qv (pv 1)) Z1))) Z1))) (Z0 (qv (pv 4)) (Z0 (Z4 oV hr (Z0 (qv (pv 0)) Z1)) Z1)))))))))),?_⟩
 refine⟨a,9,rfl,hp,Xx rfl,ltI rfl,fun d1 H1 x0 x1 hp1 g1=>⟨leN rfl,fun p hn=>⟨a,3,rfl,hp1.laid hn,Xx rfl,ltI rfl,fun d2 H2 y0 y1 hp2 g2=>?_⟩⟩⟩;obtain⟨v,hv,hm⟩:=at3 (x:=.int 1) (y:=.int 1) (z:=.int 1000) y0 y1;have e2:H2 p=some (.lst [.int 1,.int 1,.int 1000]):=Sw g2 (hp1.ne hn) Z2;have gg:=g1.trans ((X5 hn).trans g2);obtain⟨m,rfl,m0⟩:∃m:Int,v=.int m∧0<m:=by
  rcases hm with rfl | rfl | rfl
  ·exact⟨_,rfl,by decide⟩
  ·exact⟨_,rfl,by decide⟩
  ·exact⟨_,rfl,by decide⟩
 refine⟨_,_,SqL.of e2,hv,Or.inl ⟨by omega,by omega⟩,?_⟩;have day0:0≤d1*m:=Ct x0 (by omega);obtain⟨kn,rfl⟩:=Int.eq_ofNat_of_zero_le k0;have hsh:(1:Int)*2^kn≤536870912∧0<(1:Int)*2^kn:=by
  have a1:(2:Nat)^kn≤2^29:=Nat.pow_le_pow_right (by decide) (by omega);have a2:0<(2:Nat)^kn:=Nat.pow_pos (by decide);have a3:((2^kn:Nat):Int)=(2:Int)^kn:=by push_cast;rfl
  rw[AI,←a3];have a4:(2:Nat)^29=536870912:=by decide
  omega
 refine⟨⟨by omega,by omega,by decide⟩,a,_,rfl,hp2,hsh.2,by show(1:Int)*2^kn<_;omega,fun d3 H3 z0 z1 hp3 g3=>?_⟩;have z1:d3<(1:Int)*2^kn:=z1;have z2:d3<(2:Int)^kn:=by rw[←AI ((2:Int)^kn)];exact z1
 refine⟨a,3,rfl,hp3,Xx rfl,ltI rfl,fun d4 H4 _ _ hp4 g4=>?_⟩;have g5:=gg.trans (g3.trans g4);refine Xh (fun c=>?_) (fun c=>?_)
 ·refine⟨uY rfl rfl,?_⟩;refine⟨a,_,rfl,hp4,n0,by omega,fun d5 H5 _ _ hp5 g6=>⟨_,_,rfl,fun z H6 hz g7=>⟨a,rfl,hp5.same g7,fun mm H7 q0 q1 hp7 g8=>⟨leN rfl,fun r hr7=>?_⟩⟩⟩⟩;refine hq r ⟨d1*m,z,d3 / 4,mm⟩ _ ⟨day0,hz,Int.ediv_nonneg z0 (by decide),q0,by have:=Int.ediv_le_self 4 z0;show d3 / 4<_;omega,q1⟩ (by have:=Int.ediv_le_self 4 z0;show d3 / 4<2^kn;omega) (by rw[Zg (hp7.ne hr7)];exact Z2) (hp7.laid hr7) ?_;obtain⟨_,_,_,e5⟩:=hp5;exact g5.trans (g6.trans ((Us e5 g7).trans (g8.trans (X5 hr7))))
 ·refine⟨a,_,rfl,hp4,n0,by omega,fun d5 H5 _ _ hp5 g6=>⟨_,_,rfl,fun z H6 hz g7=>⟨a,rfl,hp5.same g7,fun mm H7 q0 q1 hp7 g8=>⟨leN rfl,fun r hr7=>?_⟩⟩⟩⟩;refine hq r ⟨d1*m,z,d3,mm⟩ _ ⟨day0,hz,z0,q0,by show d3<_;omega,q1⟩ (by show d3<2^kn;omega) (by rw[Zg (hp7.ne hr7)];exact Z2) (hp7.laid hr7) ?_;obtain⟨_,_,_,e5⟩:=hp5;exact g5.trans (g6.trans ((Us e5 g7).trans (g8.trans (X5 hr7))))
theorem m8(aj:Has P w K mg base "_law_draw" 1 ["_law_pen_here","_law_size"] b_)(n8:Has P w K mg base "_law_thing" 3 ["_law_pen_here","_law_marks","_law_deep"] lJ)(aN:mg "range"=none)(F:Fun K "_law_stream" "_law_stream" cV f fd):FnOk P w K mg base CX0 4 f fd ["_law_pen_here","_law_marks","_law_deep","_law_most"] eY:=by
 refine F.ok iN (fun vs H Q E h=>?_) (fun cdv A outer s H vs Q E hr h=>?_)
 ·obtain⟨a,n,k,l,rfl,_⟩:=h;rfl
 obtain⟨a,n,k,l,rfl,hp,n0,n1,k0,k1,l0,l1,hq⟩:=h;refine⟨_,(Z7 (Zc (Xy (own:=["_law_k"]) (R0 rfl rfl) (Uz rfl aN (Z0 (Z4 aj hr (Z0 (qv (pv 0)) (Z0 (Ze (qi0 Zu) (qv (pv 3)) Z5) Z1))) Z1))
  (fun _ _ _ _ _=>(Z9 (i:=0) Tu rfl (Or.inl rfl) (Or.inr rfl))) (fun _ _ _ _ _=>Wh)
  (fun _ _ _ _ _=>(Z4 n8 hr (Z0 (pv 1) (Z0 (pv 2) (Z0 (pv 3) Z1)))))))),?_⟩
 refine⟨a,_,rfl,hp,by omega,by omega,fun d H1 x0 x1 hp1 g1=>⟨d,rfl,by omega,by omega,?_⟩⟩;refine jS (fun i ys H'=>PenAt H' a∧Grw a H H'∧∃ts:List Th,ts.length=i∧(∀t∈ts,t.Ok)∧(∀t∈ts,t.num<2^k.toNat)∧DVs (ao a H') ys (ts.map Th.D)) ⟨hp1,g1,[],rfl,(fun _ h=>nomatch h),(fun _ h=>nomatch h),DVs.nil⟩ ?_ ?_
 ·rintro i ys H2 C hi ⟨hp2,g2,ts,hl,hok,hkk,dv⟩ hC;have hyl:=dv.length;rw[az]at hyl;refine⟨Zj (by omega),Wk.refl _,_,rfl,_,rfl,_,rfl,a,n,k,rfl,hp2,n0,n1,k0,k1,fun r t H3 ht hkt hr3 hp3 g3=>hC _ _ ⟨hp3,g2.trans g3,ts++[t],by rw[zI,hl];rfl,?_,?_,?_⟩⟩
  ·intro t' ht'
   rcases zT.mp ht' with h | h
   ·exact hok t' h
   ·rw[zG.mp h];exact ht
  ·intro t' ht'
   rcases zT.mp ht' with h | h
   ·exact hkk t' h
   ·rw[zG.mp h];exact hkt
  ·rw[zW];exact(dv.mono g3).append (.cons (Th.dv hr3) .nil)
 ·rintro ys H2 ⟨hp2,g2,ts,hl,hok,hkk,dv⟩;have hyl:=dv.length;rw[az]at hyl;refine⟨Zl (by omega),fun p hn=>hq p ts _ hok hkk (by omega) ?_ (hp2.laid hn) (g2.trans (X5 hn))⟩;have e:ao a (upd H2 p (.lst ys)) p=some (.lst ys):=by rw[Zg (hp2.ne hn)];exact Z2
  exact .lst e (dv.mono (X5 hn))
def gk(m:Nat):Sp:=fun vs H Q _=>∃(a:Addr)(n k l p:Int),vs=[.ref a,.int n,.int k,.int l,.int p]∧PenAt H a∧0<n∧n<1073741824∧0≤k∧k<30∧0≤l∧l<1000∧1≤p∧p≤m∧m≤1000∧
 ∀(v:V)(t:Tr)(H':Hp),t.Ok→(∀x∈t.all,x.num<2^k.toNat)→(t.size:Int)≤2*p-1→(t.ht:Int)<p→(t.all.length:Int)≤l*p→DV (ao a H') v t.D→PenAt H' a→Grw a H H'→Q v H'
theorem qR{m:Nat}(aj:Has P w K mg base "_law_draw" 1 ["_law_pen_here","_law_size"] b_)(b9:Has P w K mg base "_law_stream" 4 ["_law_pen_here","_law_marks","_law_deep","_law_most"] eY)(cw:Has P w K mg base "_law_tree" (4+m) ["_law_pen_here","_law_marks","_law_deep","_law_most","_law_parts"] (gk m))(F:Fun K "_law_tree" "_law_tree" dz f fd):FnOk P w K mg base CX0 (4+m+1) f fd ["_law_pen_here","_law_marks","_law_deep","_law_most","_law_parts"] (gk (m+1)):=by
 refine F.ok Rb (fun vs H Q E h=>?_) (fun cdv A outer s H vs Q E hr h=>?_)
 ·obtain⟨a,n,k,l,p,rfl,_⟩:=h;rfl
 obtain⟨a,n,k,l,p,rfl,hp,n0,n1,k0,k1,l0,l1,p0,p1,pm,hq⟩:=h;refine⟨_,(Z3 (Y8 (PW.pt (V3 (Ul (qi0 Rr) (qv (pv 4)) Z5 (Zh _)) (Vc (Ul (qeq Sj) (Z4 aj hr (Z0 (qv (pv 0)) (Z0 Z5 Z1))) Z5 (Zh _))))) (Z7 (Zc (Z4 b9 hr (Z0 (qv (pv 0)) (Z0 (qv (pv 1)) (Z0 (qv (pv 2)) (Z0 (qv (pv 3)) Z1))))))) Zr)
 (Z3 (Zy 5 Rb.nd rfl (Or.inl rfl) (Ze (qi0 Zu) Z5 (Z4 aj hr (Z0 (qv (pv 0)) (Z0 (Ze (qi0 Xl) (qv (pv 4)) Z5) Z1)))))
 (Z3 (Zy 6 Rb.nd rfl (Or.inl rfl) (Z4 cw hr (Z0 (qv (pv 0)) (Z0 (qv (pv 1)) (Z0 (qv (pv 2)) (Z0 (qv (pv 3)) (Z0 (qv (pv 5)) Z1)))))))
 (Z7 (Zc (Zn (Z0 Um (Z0 (qv (pv 6)) (Z0 (Z4 cw hr (Z0 (qv (pv 0)) (Z0 (qv (pv 1)) (Z0 (qv (pv 2)) (Z0 (qv (pv 3)) (Z0 (Ze (qi0 Xl) (qv (pv 4)) (qv (pv 5))) Z1)))))) Z1))))))))),?_⟩
 have leaf:∀(r:Addr)(ts:List Th)(H':Hp),(∀t∈ts,t.Ok)→(∀t∈ts,t.num<2^k.toNat)→(ts.length:Int)≤l→DV (ao a H') (.ref r) (.list (ts.map Th.D))→PenAt H' a→Grw a H H'→Q (.ref r) H':=fun r ts H' hok hkk CS dv hp' g'=>by
  refine hq (.ref r) (.leaf ts) H' hok hkk ?_ ?_ ?_ dv hp' g'
  ·show((1:Nat):Int)≤_;omega
  ·show((0:Nat):Int)<_;omega
  ·show(ts.length:Int)≤l*p;have q:l*1≤l*p:=Int.mul_le_mul_of_nonneg_left p0 l0;omega
 refine Xh (fun c=>U9 ?_) (fun c=>?_)
 ·exact⟨a,n,k,l,rfl,hp,n0,n1,k0,k1,l0,l1,leaf⟩
 ·have c:=AJ (AG.mpr c);refine⟨a,5,rfl,hp,Xx rfl,ltI rfl,fun d H1 _ _ hp1 g1=>?_⟩;refine Xh (fun c=>?_) (fun c=>?_)
  ·exact⟨a,n,k,l,rfl,hp1,n0,n1,k0,k1,l0,l1,fun r ts H' hok hkk CS dv hp' g'=>leaf r ts H' hok hkk CS dv hp' (g1.trans g')⟩
  ·refine⟨a,p-1,rfl,hp1,by omega,by omega,fun d2 H2 x0 x1 hp2 g2=>?_⟩;refine⟨a,n,k,l,_,rfl,hp2,n0,n1,k0,k1,l0,l1,by omega,by omega,by omega,fun v1 t1 H3 ok1 kk1 sz1 ht1 al1 dv1 hp3 g3=>?_⟩;refine⟨a,n,k,l,_,rfl,hp3,n0,n1,k0,k1,l0,l1,by omega,by omega,by omega,fun v2 t2 H4 ok2 kk2 sz2 ht2 al2 dv2 hp4 g4=>⟨leN rfl,fun r hn=>?_⟩⟩;refine hq (.ref r) (.node t1 t2) _ ⟨ok1,ok2⟩ (fun x hx=>(zT.mp hx).elim (kk1 x) (kk2 x)) ?_ ?_ ?_ ?_ (hp4.laid hn) (g1.trans (g2.trans (g3.trans (g4.trans (X5 hn)))))
   ·show((t1.size+t2.size+1:Nat):Int)≤_;omega
   ·show((max t1.ht t2.ht+1:Nat):Int)<_;omega
   ·show((t1.all++t2.all).length:Int)≤_;have q:l*(1+d2)+l*(p-(1+d2))=l*p:=by
     rw[←Int.mul_add]
     congr 1
     omega
    rw[zI];omega
   ·have e:ao a (upd H4 r (.tup [.str "merged",v1,v2])) r=some (.tup [.str "merged",v1,v2]):=by rw[Zg (hp4.ne hn)];exact Z2
    exact .tup e (.cons (.str _) (.cons (dv1.mono (g4.trans (X5 hn))) (.cons (dv2.mono (X5 hn)) .nil)))
theorem lj(aj:Has P w K mg base "_law_draw" 1 ["_law_pen_here","_law_size"] b_)(b9:Has P w K mg base "_law_stream" 4 ["_law_pen_here","_law_marks","_law_deep","_law_most"] eY)(F:Fun K "_law_tree" "_law_tree" dz f fd)(b:Binds K fd ["_law_pen_here","_law_marks","_law_deep","_law_most","_law_parts"] [])(hm:mg "_law_tree"=some (.ref f)):
  ∀m:Nat,Has P w K mg base "_law_tree" (4+m) ["_law_pen_here","_law_marks","_law_deep","_law_most","_law_parts"] (gk m)
 | 0=>Has.of (sK fun vs H Q E h=>by
   obtain⟨a,n,k,l,p,_,_,_,_,_,_,_,_,h1,h2,_⟩:=h;omega) b F.kp hm
 |m+1=>Has.of (qR aj b9 (lj aj b9 F b hm m) F) b F.kp hm
end K34
namespace L2
open PySem
def tRun(X:Cx)(ss:List Stmt):TS:=fun D σ H=>∃t:TS,PSs X ss t∧t D σ H
theorem Zb{X:Cx}{ss:List Stmt}:PSs X ss (tRun X ss):=fun CA s σ H D I ⟨_,h,q⟩=>h CA s σ H D I q
section
variable{K:W.Frag}{a:Addr}{xs:List V}{g:TG}{tb:TS}{D:Ends}{σ:St}{H:Hp}
theorem Xs(Pv:Nat→St→Hp→Prop)(h0:Pv 0 σ H)(hl:∀i σ H,i≤xs.length→Pv i σ H→SqL K H a xs)(hs:∀i x σ H (N B:St→Hp→Prop) (R:VK),(∀σ' H',Pv (i+1) σ' H'→N σ' H')→(∀v H',D.rt v H'→R v H')→xs[i]?=some x→Pv i σ H→g x σ H fun σ2 H2=>tb {nx:=N,rt:=R,bk:=B,ct:=N} σ2 H2)(hd:∀σ H,Pv xs.length σ H→D.nx σ H):
  ∃W:Nat→Nat→St→Hp→Prop,(∃m,W 0 m σ H)∧∀i m σ H,W i m σ H→
   ((Itl K a).stop i H∧D.nx σ H)∨((Itl K a).go i H∧∃N:St→Hp→Prop,(∀σ' H',N σ' H'→∃m',m'<m∧W (i+1) m' σ' H')∧∀x H',(Itl K a).yld i H x H'→g x σ H' fun σ2 H2=>tb {D with nx:=N,ct:=N,bk:=D.nx} σ2 H2):=
 Pq Pv h0 hl (fun i x σ H hx p=>hs i x σ H _ _ _ (fun _ _ q=>q) (fun _ _ q=>q) hx p) hd
theorem Pp(Pv:Nat→St→Hp→Prop)(h0:Pv 0 σ H)(hl:∀i σ H,i≤xs.length→Pv i σ H→SqT K H a xs)(hs:∀i x σ H (N B:St→Hp→Prop) (R:VK),(∀σ' H',Pv (i+1) σ' H'→N σ' H')→(∀v H',D.rt v H'→R v H')→xs[i]?=some x→Pv i σ H→g x σ H fun σ2 H2=>tb {nx:=N,rt:=R,bk:=B,ct:=N} σ2 H2)(hd:∀σ H,Pv xs.length σ H→D.nx σ H):
  ∃W:Nat→Nat→St→Hp→Prop,(∃m,W 0 m σ H)∧∀i m σ H,W i m σ H→
   ((Itt K a).stop i H∧D.nx σ H)∨((Itt K a).go i H∧∃N:St→Hp→Prop,(∀σ' H',N σ' H'→∃m',m'<m∧W (i+1) m' σ' H')∧∀x H',(Itt K a).yld i H x H'→g x σ H' fun σ2 H2=>tb {D with nx:=N,ct:=N,bk:=D.nx} σ2 H2):=
 tD Pv h0 hl (fun i x σ H hx p=>hs i x σ H _ _ _ (fun _ _ q=>q) (fun _ _ q=>q) hx p) hd
theorem Ua{lo:Int}{n:Nat}(Pv:Nat→St→Hp→Prop)(h0:Pv 0 σ H)(hs:∀i σ H (N B:St→Hp→Prop) (R:VK),(∀σ' H',Pv (i+1) σ' H'→N σ' H')→(∀v H',D.rt v H'→R v H')→i<n→Pv i σ H→g (.int (lo+i)) σ H fun σ2 H2=>tb {nx:=N,rt:=R,bk:=B,ct:=N} σ2 H2)(hd:∀σ H,Pv n σ H→D.nx σ H):
  ∃W:Nat→Nat→St→Hp→Prop,(∃m,W 0 m σ H)∧∀i m σ H,W i m σ H→
   ((Itr lo n).stop i H∧D.nx σ H)∨((Itr lo n).go i H∧∃N:St→Hp→Prop,(∀σ' H',N σ' H'→∃m',m'<m∧W (i+1) m' σ' H')∧∀x H',(Itr lo n).yld i H x H'→g x σ H' fun σ2 H2=>tb {D with nx:=N,ct:=N,bk:=D.nx} σ2 H2):=
 oJ Pv h0 (fun i σ H hi p=>hs i σ H _ _ _ (fun _ _ q=>q) (fun _ _ q=>q) hi p) hd
end
theorem Yh{α:Type}{n:Nat}{P:List α→Prop}(h:∀a r,r.length=n→P (a::r)):∀us:List α,us.length=n+1→P us:=fun us e=>by
 cases us with
 |nil=>cases e
 |cons a r=>exact h a r (Nat.succ.inj e)
theorem Ss{α:Type}{P:List α→Prop}(h:P []):∀us:List α,us.length=0→P us:=fun us e=>by
 cases us with
 |nil=>exact h
 |cons a r=>cases e
theorem Fun.b1{K:W.Frag}{x qual:Str}{st:Stmt}{f:Addr}{fd:FuncData}{p0:Str}(F:Fun K x qual st f fd)(h:∀(kV doc pm:Value) (an:Option Addr) (cdv ct u0:Value),bindArgs (W.fnOf x qual (aB st) (aA st) (aa st) .none kV doc pm an cdv ct) ⟨[u0],[]⟩=pure [(p0,u0)]):Binds K fd [p0] []:=F.binds fun kV doc pm an cdv ct=>Yh fun u0=>Ss (h kV doc pm an cdv ct u0)
theorem Fun.b2{K:W.Frag}{x qual:Str}{st:Stmt}{f:Addr}{fd:FuncData}{p0 p1:Str}(F:Fun K x qual st f fd)(h:∀(kV doc pm:Value) (an:Option Addr) (cdv ct u0 u1:Value),bindArgs (W.fnOf x qual (aB st) (aA st) (aa st) .none kV doc pm an cdv ct) ⟨[u0,u1],[]⟩=pure [(p0,u0),(p1,u1)]):Binds K fd [p0,p1] []:=F.binds fun kV doc pm an cdv ct=>Yh fun u0=>Yh fun u1=>Ss (h kV doc pm an cdv ct u0 u1)
theorem Fun.b3{K:W.Frag}{x qual:Str}{st:Stmt}{f:Addr}{fd:FuncData}{p0 p1 p2:Str}(F:Fun K x qual st f fd)(h:∀(kV doc pm:Value) (an:Option Addr) (cdv ct u0 u1 u2:Value),bindArgs (W.fnOf x qual (aB st) (aA st) (aa st) .none kV doc pm an cdv ct) ⟨[u0,u1,u2],[]⟩=pure [(p0,u0),(p1,u1),(p2,u2)]):Binds K fd [p0,p1,p2] []:=F.binds fun kV doc pm an cdv ct=>Yh fun u0=>Yh fun u1=>Yh fun u2=>Ss (h kV doc pm an cdv ct u0 u1 u2)
theorem Fun.b4{K:W.Frag}{x qual:Str}{st:Stmt}{f:Addr}{fd:FuncData}{p0 p1 p2 p3:Str}(F:Fun K x qual st f fd)(h:∀(kV doc pm:Value) (an:Option Addr) (cdv ct u0 u1 u2 u3:Value),bindArgs (W.fnOf x qual (aB st) (aA st) (aa st) .none kV doc pm an cdv ct) ⟨[u0,u1,u2,u3],[]⟩=pure [(p0,u0),(p1,u1),(p2,u2),(p3,u3)]):Binds K fd [p0,p1,p2,p3] []:=F.binds fun kV doc pm an cdv ct=>Yh fun u0=>Yh fun u1=>Yh fun u2=>Yh fun u3=>Ss (h kV doc pm an cdv ct u0 u1 u2 u3)
theorem Fun.b5{K:W.Frag}{x qual:Str}{st:Stmt}{f:Addr}{fd:FuncData}{p0 p1 p2 p3 p4:Str}(F:Fun K x qual st f fd)(h:∀(kV doc pm:Value) (an:Option Addr) (cdv ct u0 u1 u2 u3 u4:Value),bindArgs (W.fnOf x qual (aB st) (aA st) (aa st) .none kV doc pm an cdv ct) ⟨[u0,u1,u2,u3,u4],[]⟩=pure [(p0,u0),(p1,u1),(p2,u2),(p3,u3),(p4,u4)]):Binds K fd [p0,p1,p2,p3,p4] []:=F.binds fun kV doc pm an cdv ct=>Yh fun u0=>Yh fun u1=>Yh fun u2=>Yh fun u3=>Yh fun u4=>Ss (h kV doc pm an cdv ct u0 u1 u2 u3 u4)
end L2
namespace Ld
open PySem L2
def ad(k:Int×Int):Int×Int:=(k.1+1,k.2 / 2)
def aw(ps:Sps)(k:Int×Int):Option V:=bn (af ps) (kk k)
theorem Sr:∀(ps:Sps)(k:Int×Int),aw ps k=none∨∃n,aw ps k=some (.int n)
 | [],k=>.inl rfl
 |p::ps,k=>by
  unfold aw af;rw[zH];by_cases e:kk p.1=kk k
  ·rw[Yn e];exact .inr ⟨_,rfl⟩
  ·rw[Yc e];exact Sr ps k
def au(ps:Sps)(k:Int×Int)(n:Int):Sps:=if (ps.any fun p=>decide (p.1=k))=true then ps.map (fun p=>if p.1=k then(p.1,n)else p)else ps++[(k,n)]
def aW(ps:Sps)(k:Int×Int):Sps:=ps.filter fun p=>decide (p.1≠k)
theorem Pk{p q:Int×Int}:kk p=kk q↔p=q:=⟨Vh,fun e=>by rw[e]⟩
theorem Wx(ps:Sps)(k:Int×Int)(n:Int):aG (af ps) (kk k) (.int n)=af (au ps k n):=by
 have ea:((af ps).any fun kv=>decide (kv.1=kk k))=ps.any fun p=>decide (p.1=k):=by
  unfold af;rw[List.any_map]
  congr 1
  funext p
  exact decide_eq_decide.mpr Pk
 unfold aG au;rw[ea]
 split
 ·unfold af;rw[Al,Al]
  congr 1
  funext p
  show(if kk p.1=kk k then(kk p.1,V.int n) else(kk p.1,V.int p.2))=_;by_cases e:p.1=k
  ·rw[zE (Pk.mpr e)];show _=(kk (if p.1=k then(p.1,n)else p).1,V.int (if p.1=k then(p.1,n)else p).2);rw[zE e]
  ·rw[pi (fun z=>e (Vh z))];show _=(kk (if p.1=k then(p.1,n)else p).1,V.int (if p.1=k then(p.1,n)else p).2);rw[pi e]
 ·unfold af;rw[zW];rfl
theorem li(ps:Sps)(k:Int×Int):cg (af ps) (kk k)=af (aW ps k):=by
 unfold cg aW af;rw[List.filter_map]
 congr 1
 refine List.filter_congr fun p _=>?_;exact decide_eq_decide.mpr (not_congr Pk)
theorem Qj{ps:Sps}{k:Int×Int}:(ps.any fun p=>decide (p.1=k))=true↔k∈ps.map (·.1):=by
 rw[List.any_eq_true,zF];exact⟨fun⟨p,h,e⟩=>⟨p,h,zO e⟩,fun⟨p,h,e⟩=>⟨p,h,zP e⟩⟩
theorem Xw(ps:Sps)(k:Int×Int)(n:Int):(au ps k n).map (·.1)=if k∈ps.map (·.1)then ps.map (·.1)else ps.map (·.1)++[k]:=by
 unfold au;by_cases h:k∈ps.map (·.1)
 ·rw[zE (Qj.mpr h),zE h,Al]
  congr 1
  funext p
  show(if p.1=k then(p.1,n)else p).1=p.1
  split <;> rfl
 ·rw[pi (fun z=>h (Qj.mp z)),pi h,zW];rfl
theorem T9(ps:Sps)(k:Int×Int):(aW ps k).map (·.1)=(ps.map (·.1)).filter fun x=>decide (x≠k):=by
 unfold aW;rw[List.filter_map];rfl
theorem W4(ps:Sps)(k:Int×Int)(n:Int):(au ps k n).length≤ps.length+1:=by
 unfold au
 split
 ·rw[az];omega
 ·rw[zI];exact zD _
theorem qJ(ps:Sps)(k:Int×Int):(aW ps k).length≤ps.length:=AB _ _
theorem Xc(ps:Sps)(k j:Int×Int)(n:Int):aw (au ps k n) j=if j=k then some (.int n)else aw ps j:=by
 unfold aw;rw[←Wx,py];by_cases e:j=k
 ·rw[zE (Pk.mpr e),zE e]
 ·rw[pi (fun z=>e (Vh z)),pi e]
theorem X2(p:(Int×Int)×Int)(ps:Sps)(j:Int×Int):aw (p::ps) j=if p.1=j then some (.int p.2)else aw ps j:=by
 unfold aw af;rw[zH];by_cases e:p.1=j
 ·rw[zE e,Yn (by show kk p.1=kk j;rw[e])]
 ·rw[pi e,Yc (fun z=>e (Vh z))]
theorem Vu:∀(ps:Sps)(k j:Int×Int),aw (aW ps k) j=if j=k then none else aw ps j
 | [],k,j=>by
  show none=if j=k then none else none
  split <;> rfl
 |p::ps,k,j=>by
  have ih:=Vu ps k j;unfold aW at ih⊢;by_cases e:p.1=k
  ·rw[List.filter_cons,if_neg (by simpa using e),ih,X2];by_cases z:j=k
   ·rw[zE z,zE z]
   ·rw[pi z,pi z,pi (fun q=>z (by rw[←q,e]))]
  ·rw[AA,zE (zP e),X2,ih,X2];by_cases z:j=k
   ·rw[zE z,zE z,pi (fun q=>e (by rw[q,z]))]
   ·rw[pi z,pi z]
theorem Ve(k:Int×Int):k≠ad k:=fun e=>by
 have:k.1=k.1+1:=AX (·.1) e;omega
theorem V0{ps:Sps}{k:Int×Int}:(aw ps k).isSome=true↔k∈ps.map (·.1):=by
 unfold aw;rw[←Vj,←Qj];have ea:((af ps).any fun kv=>decide (kv.1=kk k))=ps.any fun p=>decide (p.1=k):=by
  unfold af;rw[List.any_map]
  congr 1
  funext p
  exact decide_eq_decide.mpr Pk
 rw[ea]
theorem oq{ps:Sps}{k:Int×Int}(h:(aw ps k).isSome=true):∃m,aw ps k=some (.int m):=by
 rcases Sr ps k with z | z
 ·rw[z]at h;cases h
 ·exact z
def cnt(ps:Sps)(k:Int×Int):Int:=match aw ps k with
 |some (.int n)=>n
 |_=>0
theorem Wj:∀{ps:Sps}{p:(Int×Int)×Int},(ps.map (·.1)).Nodup→p∈ps→aw ps p.1=some (.int p.2)
 |q::ps,p,nd,h=>by
  rw[zH,Ae]at nd;rw[X2]
  rcases zZ.mp h with e | h
  ·rw[e,zE rfl]
  ·rw[pi (fun z=>nd.1 (by rw[z];exact zF.mpr ⟨p,h,rfl⟩))];exact Wj nd.2 h
theorem Pe{ps:Sps}{k:Int×Int}(h:k∈ps.map (·.1)):aw ps k=some (.int (cnt ps k)):=by
 obtain⟨m,e⟩:=oq (V0.mpr h);unfold cnt;rw[e]
theorem T7{ps:Sps}{k:Int×Int}(h:k∉ps.map (·.1)):aw ps k=none:=by
 rcases Sr ps k with z | ⟨n,z⟩
 ·exact z
 ·exact absurd (V0.mp (by rw[z];rfl)) h
theorem Yu{ps:Sps}{p:(Int×Int)×Int}(nd:(ps.map (·.1)).Nodup)(h:p∈ps):cnt ps p.1=p.2:=by
 unfold cnt;rw[Wj nd h]
theorem Y3{ps:Sps}{k:Int×Int}(h:k∉ps.map (·.1)):cnt ps k=0:=by
 unfold cnt;rw[T7 h]
theorem Ys(ps:Sps)(k:Int×Int):(aw ps k).getD (.int 0)=.int (cnt ps k):=by
 unfold cnt
 rcases Sr ps k with z | ⟨n,z⟩ <;> rw[z] <;> rfl
theorem Rq{ps qs:Sps}{j k:Int×Int}(h:aw ps j=aw qs k):cnt ps j=cnt qs k:=by
 unfold cnt;rw[h]
theorem Yy(ps:Sps)(k j:Int×Int)(n:Int):cnt (au ps k n) j=if j=k then n else cnt ps j:=by
 unfold cnt;rw[Xc];by_cases e:j=k
 ·rw[zE e,zE e]
 ·rw[pi e,pi e]
theorem jq(ps:Sps)(k j:Int×Int):cnt (aW ps k) j=if j=k then 0 else cnt ps j:=by
 unfold cnt;rw[Vu];by_cases e:j=k
 ·rw[zE e,zE e]
 ·rw[pi e,pi e]
theorem Pa{ps:Sps}{p:(Int×Int)×Int}(nd:(ps.map (·.1)).Nodup):p∈ps↔aw ps p.1=some (.int p.2):=by
 refine⟨Wj nd,fun h=>?_⟩;have hk:p.1∈ps.map (·.1):=V0.mp (by rw[h];rfl);obtain⟨q,hq,e⟩:=zF.mp hk;have hq2:=Wj nd hq;rw[e,h]at hq2;injection hq2 with hq2
 injection hq2 with hq2
 have:q=p:=AT e hq2.symm;rw[←this];exact hq
theorem Uq{α β:Type}{f:α→β}{l:List α}(h:(l.map f).Nodup):l.Nodup:=(A8.mp h).imp fun h e=>h (by rw[e])
theorem Qb{α:Type}[DecidableEq α]:∀{l m:List α},l.Nodup→m.Nodup→(∀a,a∈l↔a∈m)→l.Perm m
 | [],m,_,_,h=>by
  cases m with
  |nil=>exact .refl _
  |cons b m=>exact absurd ((h b).mpr (.head _)) Am
 |a::l,m,nl,nm,h=>by
  rw[Ae]at nl;have ha:=(h a).mp (.head _);refine .trans (List.Perm.cons a (Qb nl.2 (nm.erase a) fun b=>?_)) (List.perm_cons_erase ha).symm;rw[nm.mem_erase_iff];refine⟨fun hb=>⟨fun e=>nl.1 (by rw[←e];exact hb),(h b).mp (.tail _ hb)⟩,fun⟨ne,hb⟩=>((zZ.mp ((h b).mpr hb)).resolve_left ne)⟩
theorem Re{ps qs:Sps}(np:(ps.map (·.1)).Nodup)(nq:(qs.map (·.1)).Nodup)(h:∀k,aw ps k=aw qs k):ps.Perm qs:=
 Qb (Uq np) (Uq nq) fun p=>by rw[Pa np,Pa nq,h]
theorem Wr{ps qs:Sps}(h:ps.Perm qs)(np:(ps.map (·.1)).Nodup)(k:Int×Int):aw ps k=aw qs k:=by
 have nq:(qs.map (·.1)).Nodup:=(h.map _).nodup_iff.mp np;by_cases hk:k∈ps.map (·.1)
 ·obtain⟨p,hp,rfl⟩:=zF.mp hk;rw[Wj np hp,Wj nq (h.mem_iff.mp hp)]
 ·rw[T7 hk,T7 fun z=>hk ((h.map _).mem_iff.mpr z)]
def ag(ps:Sps):Int:=(ps.map (·.2)).sum
theorem S6:∀{ps:Sps}{k:Int×Int},(ps.map (·.1)).Nodup→ag (aW ps k)=ag ps-cnt ps k
 | [],k,_=>by
  show(0:Int)=0-cnt [] k;rfl
 |p::ps,k,nd=>by
  rw[zH,Ae]at nd;have ih:=S6 (k:=k) nd.2;unfold ag aW at ih⊢;by_cases e:p.1=k
  ·have o:cnt ps k=0:=Y3 (by rw[←e];exact nd.1);have c:cnt (p::ps) k=p.2:=by unfold cnt;rw[X2,zE e]
   rw[List.filter_cons,if_neg (by simpa using e),ih,o,c,List.map_cons,List.sum_cons];omega
  ·have c:cnt (p::ps) k=cnt ps k:=by unfold cnt;rw[X2,pi e]
   rw[AA,zE (zP e),zH,Ac,ih,c,zH,Ac];omega
theorem Ye{ps:Sps}{k:Int×Int}{n:Int}(nd:(ps.map (·.1)).Nodup):((au ps k n).map (·.1)).Nodup:=by
 rw[Xw]
 split
 ·exact nd
 ·rename_i h;exact List.nodup_append.mpr ⟨nd,Ae.mpr ⟨Am,An⟩,fun x hx y hy e=>h (by rw[zG.mp hy]at e;rw[←e];exact hx)⟩
theorem Sz{ps:Sps}{k:Int×Int}(nd:(ps.map (·.1)).Nodup):((aW ps k).map (·.1)).Nodup:=by
 rw[T9];exact nd.filter _
theorem Vn{ps qs:Sps}(h:ps.Perm qs):ag ps=ag qs:=iR (h.map _)
theorem Nh{ps:Sps}{k:Int×Int}{n:Int}(nd:(ps.map (·.1)).Nodup):ag (au ps k n)=ag ps-cnt ps k+n:=by
 have h:(au ps k n).Perm ((k,n)::aW ps k):=by
  have hk:k∉(aW ps k).map (·.1):=by
   rw[T9];intro z;have:=(Aj.mp z).2;simp at this
  refine Re (Ye nd) (by rw[zH];exact Ae.mpr ⟨hk,Sz nd⟩) fun j=>?_;rw[Xc,X2,Vu];by_cases e:j=k
  ·rw[zE e,zE e.symm]
  ·rw[pi e,pi (Ne.symm e),pi e]
 rw[Vn h];have:=S6 (k:=k) nd;unfold ag at this⊢;rw[zH,Ac,this];omega
end Ld
namespace Ld
open PySem L2
def ci(ps:Sps)(k:Int×Int)(m n:Int):Sps:=aW (au (au ps (ad k) n) k (m-m)) k
theorem nR{ps:Sps}{k:Int×Int}{m n:Int}(hk:k∈ps.map (·.1)):(ci ps k m n).map (·.1)=if ad k∈ps.map (·.1) then(ps.map (·.1)).filter (fun x=>decide (x≠k)) else(ps.map (·.1)).filter (fun x=>decide (x≠k))++[ad k]:=by
 unfold ci;have k2:k∈(au ps (ad k) n).map (·.1):=by
  rw[Xw]
  split
  ·exact hk
  ·exact Ai _ hk
 rw[T9,Xw,zE k2,Xw]
 split
 ·rfl
 ·rw[B7,AA,zE (zP (Ne.symm (Ve k)))];rfl
def mea(or:Int)(ks:List (Int×Int)):Nat:=(ks.map fun k=>(or+1-k.1).toNat).sum
theorem Pd{or:Int}{k:Int×Int}:∀{ks:List (Int×Int)},ks.Nodup→k∈ks→mea or (ks.filter fun x=>decide (x≠k))+(or+1-k.1).toNat=mea or ks
 | [],_,h=>nomatch h
 |x::ks,nd,h=>by
  rw[Ae]at nd;by_cases e:x=k
  ·subst e;have o:ks.filter (fun y=>decide (y≠x))=ks:=List.filter_eq_self.mpr fun y hy=>zP fun z=>nd.1 (by rw[←z];exact hy);rw[List.filter_cons,if_neg (by simp),o];unfold mea;rw[zH,Ac];omega
  ·have hk:k∈ks:=(zZ.mp h).resolve_left (Ne.symm e);have ih:=Pd (or:=or) nd.2 hk;rw[AA,zE (zP e)];unfold mea at ih⊢;rw[zH,Ac,zH,Ac];omega
theorem h_{or:Int}{ks ls:List (Int×Int)}(h:ks.Perm ls):mea or ks=mea or ls:=(h.map _).sum_nat
theorem pX{or:Int}(h:or≤20):∀{ks:List (Int×Int)},(∀k∈ks,0≤k.1)→mea or ks≤21*ks.length
 | [],_=>BI _
 |k::ks,hk=>by
  have ih:=pX h fun x hx=>hk x (.tail _ hx);have h0:=hk k (.head _);unfold mea at ih⊢;rw[zH,Ac,Ak];omega
structure Kok(or:Int)(ks:List (Int×Int)):Prop where
 nd:ks.Nodup
 st:∀k∈ks,0≤k.1∧k.1≤or∧0≤k.2∧k.2<2^(or-k.1).toNat
theorem Kok.perm{or:Int}{ks ls:List (Int×Int)}(h:Kok or ks)(p:ls.Perm ks):Kok or ls:=⟨p.nodup_iff.mpr h.nd,fun k hk=>h.st k (p.mem_iff.mp hk)⟩
theorem R6{m:Int}(h:m≤10):(1:Int)≤2^m.toNat∧(2:Int)^m.toNat≤1024:=by
 have a1:(2:Nat)^m.toNat≤2^10:=Nat.pow_le_pow_right (by decide) (by omega);have a2:0<(2:Nat)^m.toNat:=Nat.pow_pos (by decide);have a3:((2^m.toNat:Nat):Int)=(2:Int)^m.toNat:=by push_cast;rfl
 have a4:(2:Nat)^10=1024:=by decide
 rw[←a3];omega
theorem rV{h or i:Int}(hd:h<or)(i1:i<2^(or-h).toNat):i / 2<2^(or-(h+1)).toNat:=by
 have e:(or-h).toNat=(or-(h+1)).toNat+1:=by omega
 rw[e,Int.pow_succ]at i1;omega
theorem vW{or:Int}{k:Int×Int}(hd:k.1<or)(s:0≤k.1∧k.1≤or∧0≤k.2∧k.2<2^(or-k.1).toNat):0≤(ad k).1∧(ad k).1≤or∧0≤(ad k).2∧(ad k).2<2^(or-(ad k).1).toNat:=by
 have:=rV hd s.2.2.2;show 0≤k.1+1∧k.1+1≤or∧0≤k.2 / 2∧k.2 / 2<2^(or-(k.1+1)).toNat;exact⟨by omega,by omega,by omega,this⟩
theorem tJ{or:Int}{ps:Sps}{k:Int×Int}{m n:Int}(h:Kok or (ps.map (·.1)))(hk:k∈ps.map (·.1))(hd:k.1<or):Kok or ((ci ps k m n).map (·.1))∧mea or ((ci ps k m n).map (·.1))<mea or (ps.map (·.1))∧(ci ps k m n).length≤ps.length:=by
 rw[←az (f:=(·.1)),←az (as:=ps) (f:=(·.1)),nR hk];have mf:=Pd (or:=or) h.nd hk;have sk:=h.st k hk;have lf:((ps.map (·.1)).filter fun x=>decide (x≠k)).length<(ps.map (·.1)).length:=by
  refine Nat.lt_of_le_of_ne (AB _ _) fun e=>?_;have:=List.length_filter_eq_length_iff.mp e k hk;simp at this
 have ndf:((ps.map (·.1)).filter fun x=>decide (x≠k)).Nodup:=h.nd.filter _;have stf:∀x∈(ps.map (·.1)).filter fun x=>decide (x≠k),0≤x.1∧x.1≤or∧0≤x.2∧x.2<2^(or-x.1).toNat:=fun x hx=>h.st x (Aj.mp hx).1
 split
 ·exact⟨⟨ndf,stf⟩,by omega,by omega⟩
 ·rename_i np;refine⟨⟨?_,fun x hx=>?_⟩,?_,by rw[zI];exact lf⟩
  ·refine List.nodup_append.mpr ⟨ndf,Ae.mpr ⟨Am,An⟩,fun x hx y hy e=>?_⟩;rw[zG.mp hy]at e;exact np (by rw[←e];exact(Aj.mp hx).1)
  ·rcases zT.mp hx with hx | hx
   ·exact stf x hx
   ·rw[zG.mp hx];exact vW hd sk
  ·have e1:mea or ((ps.map (·.1)).filter (fun x=>decide (x≠k))++[ad k])=mea or ((ps.map (·.1)).filter fun x=>decide (x≠k))+(or+1-(k.1+1)).toNat:=by
    unfold mea;rw[zW,Bj];rfl
   rw[e1];omega
def loK(h j:Int):Int×Int:=(h,2*j)
def hiK(h j:Int):Int×Int:=(h,2*j+1)
def upK(h j:Int):Int×Int:=(h+1,j)
def jn(ps:Sps)(h j:Int):Int:=cnt ps (loK h j)+cnt ps (hiK h j)+cnt ps (upK h j)
theorem Vf(h j:Int):ad (loK h j)=upK h j:=AT rfl (show 2*j / 2=j by omega)
theorem P3(h j:Int):ad (hiK h j)=upK h j:=AT rfl (show(2*j+1) / 2=j by omega)
theorem iA(h j:Int):loK h j≠hiK h j:=fun e=>by
 have:2*j=2*j+1:=AX (·.2) e;omega
theorem uM(h j:Int):loK h j≠upK h j:=fun e=>by
 have:h=h+1:=AX (·.1) e;omega
theorem iq(h j:Int):hiK h j≠upK h j:=fun e=>by
 have:h=h+1:=AX (·.1) e;omega
theorem Qf(k:Int×Int):k=loK k.1 (k.2 / 2)∨k=hiK k.1 (k.2 / 2):=by
 rcases Int.emod_two_eq k.2 with e | e
 ·exact .inl (AT rfl (show k.2=2*(k.2 / 2) by omega))
 ·exact .inr (AT rfl (show k.2=2*(k.2 / 2)+1 by omega))
def fM(ps:Sps)(k:Int×Int):Sps:=ci ps k (cnt ps k) (cnt ps (ad k)+cnt ps k)
def aC(ps:Sps)(k:Int×Int):Sps:=if k∈ps.map (·.1)then fM ps k else ps
def aP(ps:Sps)(k:Int×Int):Sps:=if k∈ps.map (·.1) then[(k,cnt ps k)] else[]
def aY(ps:Sps)(h j:Int):Sps:=aC (aC ps (loK h j)) (hiK h j)
def flP(ps:Sps)(h j:Int):Sps:=aP ps (loK h j)++aP ps (hiK h j)
theorem Pf(ps:Sps)(k x:Int×Int):aw (fM ps k) x=if x=k then none else if x=ad k then some (.int (cnt ps (ad k)+cnt ps k))else aw ps x:=by
 unfold fM ci;rw[Vu,Xc,Xc];by_cases e:x=k
 ·rw[zE e,zE e]
 ·rw[pi e,pi e,pi e]
theorem oD(ps:Sps)(k x:Int×Int):cnt (fM ps k) x=if x=k then 0 else if x=ad k then cnt ps (ad k)+cnt ps k else cnt ps x:=by
 unfold cnt;rw[Pf];by_cases e:x=k
 ·rw[zE e,zE e]
 ·rw[pi e,pi e];by_cases z:x=ad k
  ·rw[zE z,zE z];rfl
  ·rw[pi z,pi z]
theorem Tx(ps:Sps)(k x:Int×Int):aw (aC ps k) x=if x=k then none else if x=ad k∧k∈ps.map (·.1)then some (.int (cnt ps (ad k)+cnt ps k))else aw ps x:=by
 unfold aC;by_cases hk:k∈ps.map (·.1)
 ·rw[zE hk,Pf];by_cases e:x=k
  ·rw[zE e,zE e]
  ·rw[pi e,pi e];by_cases z:x=ad k
   ·rw[zE z,zE ⟨z,hk⟩]
   ·rw[pi z,pi fun q=>z q.1]
 ·rw[pi hk];by_cases e:x=k
  ·rw[zE e,e,T7 hk]
  ·rw[pi e,pi fun q=>hk q.2]
theorem Wt(ps:Sps)(k x:Int×Int):cnt (aC ps k) x=if x=k then 0 else if x=ad k then cnt ps (ad k)+cnt ps k else cnt ps x:=by
 unfold aC;by_cases hk:k∈ps.map (·.1)
 ·rw[zE hk,oD]
 ·rw[pi hk];by_cases e:x=k
  ·rw[zE e,e,Y3 hk]
  ·rw[pi e];by_cases z:x=ad k
   ·rw[zE z,z,Y3 hk,Cu]
   ·rw[pi z]
theorem hi_in{ps:Sps}{h j:Int}:hiK h j∈(aC ps (loK h j)).map (·.1)↔hiK h j∈ps.map (·.1):=by
 rw[←V0,←V0,Tx,pi (Ne.symm (iA h j)),Vf,pi fun q=>iq h j q.1]
theorem Nd(ps:Sps)(h j:Int):aP (aC ps (loK h j)) (hiK h j)=aP ps (hiK h j):=by
 unfold aP;rw[Wt,pi (Ne.symm (iA h j)),Vf,pi (iq h j)];by_cases e:hiK h j∈ps.map (·.1)
 ·rw[zE e,zE (hi_in.mpr e)]
 ·rw[pi e,pi fun q=>e (hi_in.mp q)]
theorem Tv{ps:Sps}{h j:Int}(i:loK h j∈ps.map (·.1)∨hiK h j∈ps.map (·.1))(x:Int×Int):aw (aY ps h j) x=if x=loK h j∨x=hiK h j then none else if x=upK h j then some (.int (jn ps h j))else aw ps x:=by
 unfold aY;rw[Tx];have p1:cnt (aC ps (loK h j)) (ad (hiK h j))=cnt ps (upK h j)+cnt ps (loK h j):=by rw[P3,Wt,pi (Ne.symm (uM h j)),Vf,zE rfl]
 have p2:cnt (aC ps (loK h j)) (hiK h j)=cnt ps (hiK h j):=by rw[Wt,pi (Ne.symm (iA h j)),Vf,pi (iq h j)]
 rw[p1,p2];by_cases e1:x=hiK h j
 ·rw[zE e1,zE (.inr e1)]
 ·rw[pi e1,Tx];by_cases e2:x=loK h j
  ·rw[zE (c:=x=loK h j∨x=hiK h j) (Or.inl e2),pi (c:=x=ad (hiK h j)∧_) fun q=>uM h j (by rw[←e2,←P3];exact q.1),zE e2]
  ·rw[pi (c:=x=loK h j∨x=hiK h j) fun q=>q.elim e2 e1,pi (c:=x=loK h j) e2];by_cases e3:x=upK h j
   ·rw[zE e3];unfold jn;by_cases i2:hiK h j∈ps.map (·.1)
    ·rw[zE ⟨by rw[P3];exact e3,hi_in.mpr i2⟩]
     congr 2
     omega
    ·have i1:=i.resolve_right i2;rw[pi fun q=>i2 (hi_in.mp q.2),zE ⟨by rw[Vf];exact e3,i1⟩,Y3 i2,Vf]
     congr 2
     omega
   ·rw[pi e3,pi fun q=>e3 (by rw[←P3];exact q.1),pi fun q=>e3 (by rw[←Vf];exact q.1)]
theorem Sx{ps:Sps}{k:Int×Int}(nd:(ps.map (·.1)).Nodup):((aC ps k).map (·.1)).Nodup:=by
 unfold aC
 split
 ·exact Sz (Ye (Ye nd))
 ·exact nd
theorem S8{ps:Sps}{h j:Int}(nd:(ps.map (·.1)).Nodup):((aY ps h j).map (·.1)).Nodup:=Sx (Sx nd)
theorem Qe{ps qs:Sps}(p:ps.Perm qs)(nd:(ps.map (·.1)).Nodup)(h j:Int):jn ps h j=jn qs h j:=by
 unfold jn;rw[Rq (Wr p nd _),Rq (Wr p nd (hiK h j)),Rq (Wr p nd (upK h j))]
theorem Ol{ps qs:Sps}{h j:Int}(p:ps.Perm qs)(nd:(ps.map (·.1)).Nodup)(i:loK h j∈ps.map (·.1)∨hiK h j∈ps.map (·.1)):(aY ps h j).Perm (aY qs h j):=by
 have pk:=p.map (·.1);refine Re (S8 nd) (S8 (pk.nodup_iff.mp nd)) fun k=>?_;rw[Tv i,Tv (i.imp pk.mem_iff.mp pk.mem_iff.mp),Qe p nd,Wr p nd]
theorem Of{ps qs:Sps}(p:ps.Perm qs)(nd:(ps.map (·.1)).Nodup)(k:Int×Int):aP ps k=aP qs k:=by
 have pk:=p.map (·.1);unfold aP;rw[Rq (Wr p nd k)];by_cases e:k∈ps.map (·.1)
 ·rw[zE e,zE (pk.mem_iff.mp e)]
 ·rw[pi e,pi fun q=>e (pk.mem_iff.mpr q)]
theorem k6{ps qs:Sps}(p:ps.Perm qs)(nd:(ps.map (·.1)).Nodup)(h j:Int):flP ps h j=flP qs h j:=by
 unfold flP;rw[Of p nd,Of p nd]
theorem Pt{or:Int}{ps:Sps}{k:Int×Int}(o:Kok or (ps.map (·.1)))(hd:k.1<or):Kok or ((aC ps k).map (·.1))∧mea or ((aC ps k).map (·.1))+(aP ps k).length≤mea or (ps.map (·.1))∧(aC ps k).length≤ps.length:=by
 unfold aC aP;by_cases hk:k∈ps.map (·.1)
 ·rw[zE hk,zE hk];have:=tJ (m:=cnt ps k) (n:=cnt ps (ad k)+cnt ps k) o hk hd;exact⟨this.1,this.2.1,this.2.2⟩
 ·rw[pi hk,pi hk];exact⟨o,zD _,zD _⟩
theorem Ui{or:Int}{ps:Sps}{h j:Int}(o:Kok or (ps.map (·.1)))(hd:h<or):Kok or ((aY ps h j).map (·.1))∧mea or ((aY ps h j).map (·.1))+(flP ps h j).length≤mea or (ps.map (·.1))∧(aY ps h j).length≤ps.length:=by
 have a:=Pt (k:=loK h j) o hd;have b:=Pt (k:=hiK h j) a.1 hd;rw[Nd]at b;unfold flP aY;rw[zI];have:=a.2;have:=b.2;exact⟨b.1,by omega,by omega⟩
theorem pH{ps:Sps}{h j:Int}(i:loK h j∈ps.map (·.1)∨hiK h j∈ps.map (·.1)):0<(flP ps h j).length:=by
 unfold flP aP;rw[zI]
 rcases i with i | i
 ·rw[if_pos i];simp;omega
 ·rw[if_pos i];simp
theorem Oh{ps:Sps}{k:Int×Int}(nd:(ps.map (·.1)).Nodup):ag (aC ps k)=ag ps:=by
 unfold aC
 split
 ·unfold fM ci;have c1:cnt (au (au ps (ad k) (cnt ps (ad k)+cnt ps k)) k (cnt ps k-cnt ps k)) k=cnt ps k-cnt ps k:=by rw[Yy,zE rfl]
  have c2:cnt (au ps (ad k) (cnt ps (ad k)+cnt ps k)) k=cnt ps k:=by rw[Yy,pi (Ve k)]
  rw[S6 (Ye (Ye nd)),Nh (Ye nd),Nh nd,c1,c2];omega
 ·rfl
theorem Og{ps:Sps}{h j:Int}(nd:(ps.map (·.1)).Nodup):ag (aY ps h j)=ag ps:=by
 unfold aY;rw[Oh (Sx nd),Oh nd]
structure Fst(or bar:Int)(ps:Sps)(h j:Int):Prop where
 in_:loK h j∈ps.map (·.1)∨hiK h j∈ps.map (·.1)
 hd:h<or
 le:jn ps h j≤bar
 first:∀k∈ps.map (·.1),k.1<or→jn ps k.1 (k.2 / 2)≤bar→h<k.1∨(h=k.1∧j≤k.2 / 2)
def Nof(or bar:Int)(ps:Sps):Prop:=∀k∈ps.map (·.1),k.1<or→bar<jn ps k.1 (k.2 / 2)
theorem Fst.key{or bar h j:Int}{ps:Sps}(f:Fst or bar ps h j):∃k∈ps.map (·.1),k.1=h∧k.2 / 2=j:=by
 rcases f.in_ with i | i
 ·exact⟨_,i,rfl,show 2*j / 2=j by omega⟩
 ·exact⟨_,i,rfl,show(2*j+1) / 2=j by omega⟩
theorem Fst.not{or bar h j:Int}{ps:Sps}(f:Fst or bar ps h j)(n:Nof or bar ps):False:=by
 obtain⟨k,hk,e1,e2⟩:=f.key;have:=n k hk (by rw[e1];exact f.hd);rw[e1,e2]at this;have:=f.le;omega
theorem Fst.uniq{or bar h j h' j':Int}{ps:Sps}(f:Fst or bar ps h j)(g:Fst or bar ps h' j'):h=h'∧j=j':=by
 obtain⟨k,hk,e1,e2⟩:=f.key;obtain⟨l,hl,d1,d2⟩:=g.key;have a:=f.first l hl (by rw[d1];exact g.hd) (by rw[d1,d2];exact g.le);have b:=g.first k hk (by rw[e1];exact f.hd) (by rw[e1,e2];exact f.le);rw[d1,d2]at a;rw[e1,e2]at b;omega
theorem Fst.perm{or bar h j:Int}{ps qs:Sps}(f:Fst or bar ps h j)(p:ps.Perm qs)(nd:(ps.map (·.1)).Nodup):Fst or bar qs h j:=by
 have pk:=p.map (·.1);refine⟨f.in_.imp pk.mem_iff.mp pk.mem_iff.mp,f.hd,by rw[←Qe p nd];exact f.le,fun k hk h1 h2=>f.first k (pk.mem_iff.mpr hk) h1 (by rw[Qe p nd];exact h2)⟩
theorem P8{or bar:Int}{ps qs:Sps}(n:Nof or bar ps)(p:ps.Perm qs)(nd:(ps.map (·.1)).Nodup):Nof or bar qs:=fun k hk h1=>by
 rw[←Qe p nd];exact n k ((p.map (·.1)).mem_iff.mpr hk) h1
inductive Stl(or bar:Int):Sps→Sps→Sps→Prop
 |done {ps:Sps}:Nof or bar ps→Stl or bar ps [] ps
 |step {ps ps1 fs CD:Sps} {h j:Int}:Fst or bar ps h j→ps1.Perm (aY ps h j)→Stl or bar ps1 fs CD→Stl or bar ps (flP ps h j++fs) CD
theorem mQ{or bar:Int}{ps fs CD:Sps}(s:Stl or bar ps fs CD):∀{qs gs qs':Sps},Stl or bar qs gs qs'→ps.Perm qs→(ps.map (·.1)).Nodup→fs=gs∧CD.Perm qs':=by
 induction s with
 |done n=>
  intro qs gs qs' t p nd;cases t with
  |done _=>exact⟨rfl,p⟩
  |step f _ _=>exact(f.not (P8 n p nd)).elim
 |step f p1 s ih=>
  intro qs gs qs' t p nd;cases t with
  |done n=>exact((f.perm p nd).not n).elim
  |step g q1 t=>
   obtain⟨rfl,rfl⟩:=(f.perm p nd).uniq g;obtain⟨e,r⟩:=ih t (p1.trans ((Ol p nd f.in_).trans q1.symm)) ((p1.map _).nodup_iff.mpr (S8 nd));exact⟨by rw[k6 p nd,e],r⟩
theorem m4{or bar:Int}{ps fs CD:Sps}(s:Stl or bar ps fs CD):(ps.map (·.1)).Nodup→(CD.map (·.1)).Nodup∧Nof or bar CD∧ag CD=ag ps:=by
 induction s with
 |done n=>exact fun nd=>⟨nd,n,rfl⟩
 |step f p1 s ih=>
  intro nd;obtain⟨a,b,c⟩:=ih ((p1.map _).nodup_iff.mpr (S8 nd));exact⟨a,b,by rw[c,Vn p1,Og nd]⟩
def Way(or bar:Int)(ps fs qs:Sps):Prop:=∀gs CD,Stl or bar qs gs CD→Stl or bar ps (fs++gs) CD
theorem Way.refl{or bar:Int}{ps:Sps}:Way or bar ps [] ps:=fun _ _ s=>s
theorem Way.snoc{or bar h j:Int}{ps fs qs qs1:Sps}(w:Way or bar ps fs qs)(f:Fst or bar qs h j)(p:qs1.Perm (aY qs h j)):Way or bar ps (fs++flP qs h j) qs1:=fun gs CD s=>by
 rw[Ag];exact w _ _ (.step f p s)
theorem Way.done{or bar:Int}{ps fs qs:Sps}(w:Way or bar ps fs qs)(n:Nof or bar qs):Stl or bar ps fs qs:=by
 have:=w [] qs (.done n)
 rwa [Aw]at this
theorem Qw{ps qs:Sps}(p:ps.Perm qs):aQ ps=aQ qs:=f_ iu ((Y0 ps).trans (p.trans (Y0 qs).symm)) (Qv ps) (Qv qs)
end Ld
namespace K34
open PySem L2 Ld
def KAt(H:Hp)(p:Addr)(k:Int×Int):Prop:=H p=some (.tup [.int k.1,.int k.2])
def NsAt(H:Hp):List V→List (Int×Int)→Prop:=Paired fun x p=>∃c:Addr,x=.ref c∧KAt H c p
theorem NsAt.mono{H H':Hp}(g:Same H H'){xs:List V}{ps:List (Int×Int)}(h:NsAt H xs ps):NsAt H' xs ps:=Paired.mapP h fun _ _ ⟨c,e,q⟩=>⟨c,e,g _ _ q⟩
theorem NsAt.len{H:Hp}{xs:List V}{ps:List (Int×Int)}(h:NsAt H xs ps):xs.length=ps.length:=zV h
theorem NsAt.get{H:Hp}:∀{xs:List V}{ps:List (Int×Int)}{j:Nat}{x:V},NsAt H xs ps→xs[j]?=some x→∃c p,x=.ref c∧ps[j]?=some p∧KAt H c p
 |_,_,_,_,.nil,e=>by simp at e
 |_,_,0,_,.cons h _,e=>by
  rw[AR]at e;cases e;obtain⟨c,e,q⟩:=h;exact⟨c,_,e,rfl,q⟩
 |_,_,j+1,_,.cons _ r,e=>NsAt.get (j:=j) r (by simpa using e)
theorem NsAt.snoc{H:Hp}{xs:List V}{ps:List (Int×Int)}{c:Addr}{p:Int×Int}(h:NsAt H xs ps)(e:KAt H c p):NsAt H (xs++[.ref c]) (ps++[p]):=BS h ⟨c,rfl,e⟩
structure LadAt(H:Hp)(q:Addr)(Cz or total:Int)(ps:Sps):Prop where
 at_:∃(c:Addr)(as:List Addr),H q=some (.tup [.int Cz,.int or,.ref c,.int total])∧H c=some (.tup (as.map V.ref))∧Paired (FT H) as ps
theorem Zs{H H':Hp}(g:Same H H'){a:Addr}{p:(Int×Int)×Int}(h:FT H a p):FT H' a p:=let ⟨b,e1,e2⟩:=h;⟨b,g _ _ e1,g _ _ e2⟩
theorem LadAt.mono{H H':Hp}(g:Same H H'){q:Addr}{Cz or total:Int}{ps:Sps}(h:LadAt H q Cz or total ps):LadAt H' q Cz or total ps:=let ⟨c,as,e1,e2,r⟩:=h.at_;⟨c,as,g _ _ e1,g _ _ e2,Paired.mapP r fun _ _ f=>Zs g f⟩
theorem Vi{H:Hp}:∀{as:List Addr}{ps:Sps}{j:Nat}{x:V},Paired (FT H) as ps→(as.map V.ref)[j]?=some x→∃a p,x=.ref a∧ps[j]?=some p∧FT H a p
 |_,_,_,_,.nil,e=>by simp at e
 |_,_,0,_,.cons h _,e=>by
  rw[zH,AR]at e;cases e;exact⟨_,_,rfl,rfl,h⟩
 |_,_,j+1,_,.cons _ r,e=>Vi (j:=j) r (by simpa using e)
theorem Y7{H:Hp}{d b:Addr}{ps:Sps}{k:Int×Int}(e:H d=some (.dT (af ps)))(eb:KAt H b k):DGet H d (.ref b) (aw ps k):=DGet.t e eb
theorem rn{H:Hp}:∀{bs:List Addr}{ks:List (Int×Int)}{j:Nat}{x:V},KsAt H bs ks→(bs.map V.ref)[j]?=some x→∃b k,x=.ref b∧ks[j]?=some k∧KAt H b k
 |_,_,_,_,.nil,e=>by simp at e
 |_,_,0,_,.cons h _,e=>by
  rw[zH,AR]at e;cases e;exact⟨_,_,rfl,rfl,h⟩
 |_,_,j+1,_,.cons _ r,e=>rn (j:=j) r (by simpa using e)
theorem Os{H:Hp}{d q:Addr}{o u:HO}(e:H d=some u)(n:H q=none):Grw d H (upd H q o):=fun b w h=>by
 obtain⟨h1,h2⟩:=Zf h;rw[Zg h1,Za (Zd h2 n)];exact h2
def cO:Sp:=fun vs H Q _=>∃(p:Addr)(k:Int×Int),vs=[.ref p]∧KAt H p k∧∀q,H q=none→Q (.ref q) (upd H q (.tup [.int (ad k).1,.int (ad k).2]))
def kQ:Sp:=fun vs H Q _=>∃(p:Addr)(k:Int×Int),vs=[.ref p]∧KAt H p k∧∀(q a b:Addr)(H':Hp),Same H H'→H' q=some (.tup [.ref a,.ref b])→KAt H' a (loK k.1 (k.2 / 2))→KAt H' b (hiK k.1 (k.2 / 2))→Q (.ref q) H'
def u8:Sp:=fun vs H Q _=>∃(q:Addr)(Cz or total:Int)(ps:Sps),vs=[.ref q]∧LadAt H q Cz or total ps∧1≤Cz∧Cz≤20∧Q (.int (total / Cz)) H
def lE:Sp:=fun vs H Q _=>∃(d p:Addr)(ps:Sps)(k:Int×Int),vs=[.ref d,.ref p]∧H d=some (.dT (af ps))∧KAt H p k∧∀(H':Hp),Same H H'→Q (.int (jn ps k.1 (k.2 / 2))) H'
def yN:Sp:=fun vs H Q _=>∃(or bar:Int)(d:Addr)(ps:Sps),vs=[.int or,.int bar,.ref d]∧H d=some (.dT (af ps))∧ps.length<64∧(∀H',Same H H'→Nof or bar ps→Q .non H')∧∀(p:Addr)(k:Int×Int)(H':Hp),Same H H'→KAt H' p k→Fst or bar ps k.1 (k.2 / 2)→Q (.ref p) H'
def rm:Sp:=fun vs H Q _=>∃(d p:Addr)(ps:Sps)(k:Int×Int)(m:Int),vs=[.ref d,.ref p,.int m]∧H d=some (.dT (af ps))∧KAt H p k∧aw ps k=some (.int m)∧ps.length<1000∧∀(H':Hp),Grw d H H'→H' d=some (.dT (af (ci ps k m (cnt ps (ad k)+m))))→Q .non H'
theorem l_(i:Int):i-i % 2=2*(i / 2):=by omega
theorem pG{a b:Int×Int}(h:leK a b=true):a.1<b.1∨(a.1=b.1∧a.2 / 2≤b.2 / 2):=by
 rcases U8.mp h with h | ⟨h,g⟩
 ·exact .inl h
 ·exact .inr ⟨h,by omega⟩
theorem ya{α:Type}{R:α→α→Prop}{l:List α}(h:l.Pairwise R){i j:Nat}{a b:α}(ha:l[i]?=some a)(hb:l[j]?=some b)(ij:i<j):R a b:=by
 obtain⟨hi,rfl⟩:=zM.mp ha;obtain⟨hj,rfl⟩:=zM.mp hb;exact BP.mp h i j hi hj ij
variable{P:Program}{w:World}{K:W.Frag}{mg:Str→Option Value}{base:Heap}{f:Addr}{fd:FuncData}
theorem Rh(F:Fun K "parent_of" "parent_of" cL f fd):FnOk P w K mg base CX0 1 f fd ["stretch"] cO:=by
 refine F.ok U0 (fun vs H Q E h=>?_) (fun cdv A outer s H vs Q E hr h=>?_)
 ·obtain⟨p,k,rfl,_⟩:=h;rfl
 obtain⟨p,k,rfl,e,hq⟩:=h;refine⟨_,(Z3 (Yt (pv 0) (Y6 rfl (Z8 (Z9 (i:=1) U0.nd rfl (Or.inl rfl)) (Z8 (Z9 (i:=2) U0.nd rfl (Or.inl rfl)) Zo))))
 (Z7 (Zc (Zn (Z0 (Ze Zu (pv 1) Z5) (Z0 (Ze T3 (pv 2) Z5) Z1)))))),?_⟩
 exact⟨_,rfl,p,_,rfl,SqT.of e,rfl,_,_,rfl,_,_,rfl,rfl,_,rfl,_,_,rfl,rfl,_,rfl,_,_,rfl,rfl,⟨by decide,by decide⟩,leN rfl,hq⟩
theorem lC(F:Fun K "pair_of" "pair_of" dH f fd):FnOk P w K mg base CX0 1 f fd ["stretch"] kQ:=by
 refine F.ok U1 (fun vs H Q E h=>?_) (fun cdv A outer s H vs Q E hr h=>?_)
 ·obtain⟨p,k,rfl,_⟩:=h;rfl
 obtain⟨p,k,rfl,e,hq⟩:=h;refine⟨_,(Z3 (Yt (pv 0) (Y6 rfl (Z8 (Z9 (i:=1) U1.nd rfl (Or.inl rfl)) (Z8 (Z9 (i:=2) U1.nd rfl (Or.inl rfl)) Zo))))
 (Z3 (Zy 3 U1.nd rfl (Or.inl rfl) (Ze Xl (pv 2) (Ze W0 (pv 2) Z5)))
 (Z7 (Zc (Zn (Z0 (Zn (Z0 (pv 1) (Z0 (pv 3) Z1))) (Z0 (Zn (Z0 (pv 1) (Z0 (Ze Zu (pv 3) Z5) Z1))) Z1))))))),?_⟩
 have gg:Same H H:=Same.refl _;refine⟨_,rfl,p,_,rfl,SqT.of e,rfl,_,_,rfl,_,_,rfl,rfl,_,rfl,_,rfl,_,_,rfl,rfl,Xx rfl,_,_,rfl,rfl,_,rfl,_,rfl,leN rfl,?_⟩;intro a n_a;generalize hz:upd _ a _=H1;revert H1;refine blk ?_;intro H1 hz;have gz:=Zp hz n_a;have CL:=Y2 hz;clear hz;have gg:=gg.trans gz;refine⟨_,rfl,_,rfl,_,_,rfl,rfl,leN rfl,?_⟩;intro b n_b;generalize hz:upd _ b _=H2;revert H2;refine blk ?_;intro H2 hz;have gz:=Zp hz n_b;have CG:=Y2 hz;clear hz;have gg:=gg.trans gz;have CL:=gz _ _ CL;refine⟨leN rfl,?_⟩;intro q n_q;generalize hz:upd _ q _=H3;revert H3;refine blk ?_;intro H3 hz;have gz:=Zp hz n_q;have CM:=Y2 hz;clear hz;have gg:=gg.trans gz;have CL:=gz _ _ CL;have CG:=gz _ _ CG;exact hq q a b _ gg CM (by show _=some (HO.tup [V.int k.1,V.int (2*(k.2 / 2))]);rw[←l_];exact CL) (by show _=some (HO.tup [V.int k.1,V.int (2*(k.2 / 2)+1)]);rw[←l_];exact CG)
theorem xA(F:Fun K "bar_of" "bar_of" eB f fd):FnOk P w K mg base CX0 1 f fd ["ladder"] u8:=by
 refine F.ok Vr (fun vs H Q E h=>?_) (fun cdv A outer s H vs Q E hr h=>?_)
 ·obtain⟨q,Cz,or,total,ps,rfl,_⟩:=h;rfl
 obtain⟨q,Cz,or,total,ps,rfl,lad,r0,r1,hq⟩:=h;refine⟨_,(Z3 (Yt (pv 0) (Y6 rfl (Z8 (Z9 (i:=1) Vr.nd rfl (Or.inl rfl)) (Z8 (Z9 (i:=2) Vr.nd rfl (Or.inl rfl)) (Z8 (Z9 (i:=3) Vr.nd rfl (Or.inl rfl)) (Z8 (Z9 (i:=4) Vr.nd rfl (Or.inl rfl)) Zo))))))
 (Z7 (Zc (Ze T3 (pv 4) (pv 1))))),?_⟩
 obtain⟨c,as,CM,CJ,pr⟩:=lad.at_;exact⟨_,rfl,q,_,rfl,SqT.of CM,rfl,_,_,rfl,_,_,rfl,_,_,rfl,_,_,rfl,rfl,_,rfl,_,rfl,_,_,rfl,rfl,⟨by omega,by omega⟩,hq⟩
theorem p6(dA:Has P w K mg base "pair_of" 1 ["stretch"] kQ)(aR:Has P w K mg base "parent_of" 1 ["stretch"] cO)(F:Fun K "joint_count" "joint_count" bU f fd):FnOk P w K mg base CX0 2 f fd ["counts","stretch"] lE:=by
 refine F.ok Ww (fun vs H Q E h=>?_) (fun cdv A outer s H vs Q E hr h=>?_)
 ·obtain⟨d,p,ps,k,rfl,_⟩:=h;rfl
 obtain⟨d,p,ps,k,rfl,e_d,CH,hq⟩:=h;refine⟨_,(Z3 (Yt (Z4 dA hr (Z0 (pv 1) Z1)) (Y6 rfl (Z8 (Z9 (i:=2) Ww.nd rfl (Or.inl rfl)) (Z8 (Z9 (i:=3) Ww.nd rfl (Or.inl rfl)) Zo))))
 (Z7 (Zc (Ze Zu (Ze Zu (X1 (Yg hr) (pv 0) (pv 2) Z5 ⟨rfl,rfl,rfl,rfl⟩) (X1 (Yg hr) (pv 0) (pv 3) Z5 ⟨rfl,rfl,rfl,rfl⟩)) (X1 (Yg hr) (pv 0) (Z4 aR hr (Z0 (pv 1) Z1)) Z5 ⟨rfl,rfl,rfl,rfl⟩))))),?_⟩
 refine⟨_,rfl,p,k,rfl,CH,fun q a b H1 g1 CM CL CG=>⟨q,_,rfl,SqT.of CM,rfl,_,_,rfl,_,_,rfl,rfl,?_⟩⟩;have e_d:=g1 _ _ e_d;refine⟨_,rfl,d,rfl,.inr ⟨_,.inl e_d⟩,_,rfl,_,Y7 e_d CL,?_⟩;refine⟨_,rfl,d,rfl,.inr ⟨_,.inl e_d⟩,_,rfl,_,Y7 e_d CG,_,_,Ys _ _,Ys _ _,?_⟩;refine⟨_,rfl,d,rfl,.inr ⟨_,.inl e_d⟩,_,rfl,p,k,rfl,g1 _ _ CH,fun r nr=>?_⟩;have g2:=Z6 nr (.tup [.int (ad k).1,.int (ad k).2]);exact⟨_,Y7 (g2 _ _ e_d) Z2,_,_,rfl,Ys _ (ad k),hq _ (g1.trans g2)⟩
theorem x5(bj:mg "sorted"=none)(e7:Has P w K mg base "joint_count" 2 ["counts","stretch"] lE)(F:Fun K "first_folding" "first_folding" bx f fd):FnOk P w K mg base CX0 3 f fd ["deep","bar","counts"] yN:=by
 refine F.ok Vq (fun vs H Q E h=>?_) (fun cdv A outer s H vs Q E hr h=>?_)
 ·obtain⟨or,bar,d,ps,rfl,_⟩:=h;rfl
 obtain⟨or,bar,d,ps,rfl,e_d,h64,hq0,hq1⟩:=h;refine⟨_,(Z3 (X8 Ao rfl (Yw (Y1 (iO rfl hr.units) rfl bj PyProof.Rows.boot_sorted (Z0 (pv 2) Z1))) (Z9 (i:=3) Vq.nd rfl (Or.inl rfl))
 (Z7 (Y8 (PW.pt (kg (Zi Rr (Xb Xd (pv 3) Z5) (pv 0) (Zh _)) (gh (Zi uR (Z4 e7 hr (Z0 (pv 2) (Z0 (pv 3) Z1))) (pv 1) (Zh _))))) (Z7 (Zc (pv 3))) Zr)))
 (Z7 (Zc W1))),?_⟩
 have gg:Same H H:=Same.refl _;refine⟨_,rfl,d,ps,rfl,e_d,by omega,fun bs ka=>?_⟩;intro l n_l;generalize hz:upd _ l _=H1;revert H1;refine blk ?_;intro H1 hz;have gz:=Zp hz n_l;have CK:=Y2 hz;clear hz;have gg:=gg.trans gz;have ka:=ka.mono fun b xs e=>gg b _ e;have bl:=zV ka;have mk:∀k,k∈ff (ps.map (·.1))↔k∈ps.map (·.1):=fun k=>(R7 _).mem_iff;refine⟨l,rfl,⟨_,SqL.of CK⟩,?_⟩;refine Xs (xs:=bs.map V.ref) (fun i σ H'=>∃o3:Option V,σ=[some (.int or),some (.int bar),some (.ref d),o3]∧Same H1 H'∧∀(n:Nat)(k:Int×Int),n<i→(ff (ps.map (·.1)))[n]?=some k→k.1<or→bar<jn ps k.1 (k.2 / 2)) ⟨_,rfl,Same.refl _,fun n _ hn=>absurd hn (Nat.not_lt_zero n)⟩ ?_ ?_ ?_
 ·rintro i σ H' _ ⟨_,_,g,_⟩;exact SqL.of (g _ _ CK)
 ·rintro i x σ H2 N B1 R hN hR hx ⟨o3,rfl,g2,bef⟩;obtain⟨b,k,rfl,hk,CG⟩:=rn ka hx;have CG:=g2 _ _ CG;have dX:=g2 _ _ (gg _ _ e_d);have km:k∈ps.map (·.1):=(mk k).mp (z7 hk);have nxt:(k.1<or→bar<jn ps k.1 (k.2 / 2))→∀(n:Nat)(k:Int×Int),n<i+1→(ff (ps.map (·.1)))[n]?=some k→k.1<or→bar<jn ps k.1 (k.2 / 2):=fun c n k' hn e=>by
   rcases Nat.lt_succ_iff_lt_or_eq.mp hn with z | z
   ·exact bef n k' z e
   ·rw[z,hk]at e;cases e;exact c
  refine⟨_,rfl,b,_,0,_,rfl,rfl,SqT.of CG,rfl,_,rfl,_,_,rfl,rfl,_,rfl,Xh (fun c=>?_) (fun c=>?_)⟩
  ·refine⟨_,rfl,_,rfl,d,b,ps,k,rfl,dX,CG,fun H3 g3=>⟨_,rfl,_,_,rfl,rfl,_,rfl,Xh (fun c2=>?_) (fun c2=>?_)⟩⟩
   ·refine⟨_,rfl,hR _ _ (hq1 b k _ (gg.trans (g2.trans g3)) (g3 _ _ CG) ⟨?_,zO c,zO c2,fun k' hk' h1 h2=>?_⟩)⟩
    ·rcases Qf k with e | e
     ·exact .inl (by rw[←e];exact km)
     ·exact .inr (by rw[←e];exact km)
    ·obtain⟨n,hn⟩:=Co ((mk k').mpr hk')
     rcases AE n i with z | z
     ·have:=bef n k' z hn h1;omega
     ·rcases Nat.lt_or_eq_of_le z with z | z
      ·exact pG (ya (Nk _) hk hn z)
      ·rw[←z,hk]at hn;cases hn;exact .inr ⟨rfl,Ah _⟩
   ·exact hN _ _ ⟨_,rfl,g2.trans g3,nxt fun _=>by have:=AJ (AG.mpr c2);omega⟩
  ·exact hN _ _ ⟨_,rfl,g2,nxt fun z=>absurd (zP z) c⟩
 ·rintro σ H2 ⟨_,rfl,g2,all⟩;refine hq0 _ (gg.trans g2) fun k hk h1=>?_;obtain⟨n,hn⟩:=Co ((mk k).mpr hk);refine all n k ?_ hn h1;rw[az,bl];exact(zM.mp hn).1
theorem t7(aR:Has P w K mg base "parent_of" 1 ["stretch"] cO)(F:Fun K "fold_up" "fold_up" cQ f fd):FnOk P w K mg base CX0 2 f fd ["counts","stretch","many"] rm:=by
 refine F.ok U3 (fun vs H Q E h=>?_) (fun cdv A outer s H vs Q E hr h=>?_)
 ·obtain⟨d,p,ps,k,m,rfl,_⟩:=h;rfl
 obtain⟨d,p,ps,k,m,rfl,e_d,CH,lk,pl,hq⟩:=h;refine⟨_,(Z3 (Zy 3 U3.nd rfl (Or.inl rfl) (Z4 aR hr (Z0 (pv 1) Z1))) Zb),?_⟩;refine⟨_,rfl,p,k,rfl,CH,fun q nq=>?_⟩;have g1:=Os (o:=.tup [.int (ad k).1,.int (ad k).2]) e_d nq;have s1:=Z6 nq (.tup [.int (ad k).1,.int (ad k).2]);have CM:KAt (upd H q (.tup [.int (ad k).1,.int (ad k).2])) q (ad k):=Z2;have e_d:=s1 _ _ e_d;have CH:KAt _ p k:=s1 _ _ CH;generalize upd H q (.tup [.int (ad k).1,.int (ad k).2])=H1 at g1 CM e_d CH⊢;have tupd:∀{H:Hp}{b:Addr}{j:Int×Int}{kvs:List (List Key×V)}{o:HO},H d=some (.dT kvs)→KAt H b j→KAt (upd H d o) b j:=fun{H b j kvs o} e eb=>by
  show upd H d o b=_;rw[Za (Uh eb e (by intro z;cases z))];exact eb
 refine⟨_,(Z3 (W5 (Yg hr) (pv 0) (pv 3) (Ze Zu (X1 (Yg hr) (pv 0) (pv 3) Z5 ⟨rfl,rfl,rfl,rfl⟩) (pv 2)) rfl) Zb),?_⟩;obtain⟨n0,hn0,h0⟩:∃n,n=cnt ps (ad k)∧(aw ps (ad k)).getD (.int 0)=.int n:=⟨_,rfl,Ys _ _⟩;have l1:=W4 ps (ad k) (n0+m);refine⟨_,rfl,d,rfl,.inr ⟨_,.inl e_d⟩,_,rfl,_,Y7 e_d CM,_,rfl,n0,m,h0,rfl,_,rfl,_,rfl,d,_,rfl,DPut.t (k:=kk (ad k)) e_d CM (Zj (by rw[Zk];omega)),?_⟩;have g2:Grw d H (upd H1 d (.dT (aG (af ps) (kk (ad k)) (.int (n0+m))))):=g1.trans X3;have gA:=tupd (o:=.dT (aG (af ps) (kk (ad k)) (.int (n0+m)))) e_d CH;have dX:(upd H1 d (.dT (aG (af ps) (kk (ad k)) (.int (n0+m))))) d=some (.dT (af (au ps (ad k) (n0+m)))):=by rw[←Wx];exact Z2
 generalize upd H1 d (.dT (aG (af ps) (kk (ad k)) (.int (n0+m))))=H2 at g2 gA dX⊢;refine⟨_,(Z3 (W5 (Yg hr) (pv 0) (pv 1) (Ze Xl (Wi (Yg hr) (pv 0) (pv 1) (fun _ _=>rfl)) (pv 2)) rfl) Zb),?_⟩;have lk2:aw (au ps (ad k) (n0+m)) k=some (.int m):=by rw[Xc,pi (Ve k)];exact lk
 have l2:=W4 (au ps (ad k) (n0+m)) k (m-m);refine⟨_,rfl,_,rfl,d,.int m,rfl,by rw[←lk2];exact Y7 dX gA,_,rfl,_,_,rfl,rfl,_,rfl,_,rfl,d,_,rfl,DPut.t (k:=kk k) dX gA (Zj (by rw[Zk];omega)),?_⟩;have g3:Grw d H (upd H2 d (.dT (aG (af (au ps (ad k) (n0+m))) (kk k) (.int (m-m))))):=g2.trans X3;have jL:=tupd (o:=.dT (aG (af (au ps (ad k) (n0+m))) (kk k) (.int (m-m)))) dX gA;have du:(upd H2 d (.dT (aG (af (au ps (ad k) (n0+m))) (kk k) (.int (m-m))))) d=some (.dT (af (au (au ps (ad k) (n0+m)) k (m-m)))):=by rw[show af (au (au ps (ad k) (n0+m)) k (m-m))=aG (af (au ps (ad k) (n0+m))) (kk k) (.int (m-m)) from(Wx _ _ _).symm];exact Z2
 generalize upd H2 d (.dT (aG (af (au ps (ad k) (n0+m))) (kk k) (.int (m-m))))=H3 at g3 jL du⊢;refine⟨_,(Z7 (Y8 (Zi Sj (Wi (Yg hr) (pv 0) (pv 1) (fun _ _=>rfl)) Z5 (Zh _)) (Z7 (Xj (Uo AQ PySem.F.slot_dict_pop PySem.F.type_dict_pop (lP hr.units) (pv 0) (Z0 (pv 1) Z1)))) Zr)),?_⟩;have lk3:aw (au (au ps (ad k) (n0+m)) k (m-m)) k=some (.int (m-m)):=by rw[Xc,zE rfl]
 refine⟨_,rfl,_,rfl,d,.int (m-m),rfl,by rw[←lk3];exact Y7 du jL,rfl,_,rfl,?_⟩;rw[zP (by rw[Int.sub_self])];refine U9 ⟨_,rfl,Ti du,_,rfl,d,p,_,kk k,_,rfl,rfl,du,jL,lk3,?_⟩;refine hq _ (g3.trans X3) ?_;rw[←hn0];unfold ci;rw[←li];exact Z2
def hgt:List Key→Int
 |.inl h::_=>h
 |_=>0
def wB(or:Int)(kvs:List (List Key×V)):Nat:=(kvs.map fun kv=>(or+1-hgt kv.1).toNat).sum
theorem uK(or:Int)(ps:Sps):wB or (af ps)=mea or (ps.map (·.1)):=by
 unfold wB mea af;rw[Al,Al];rfl
def muD(or:Int)(d:Addr)(H:Hp):Nat:=match H d with
 |some (.dT kvs)=>wB or kvs
 |_=>0
theorem kF{or:Int}{d:Addr}{H:Hp}{ps:Sps}(e:H d=some (.dT (af ps))):muD or d H=mea or (ps.map (·.1)):=by
 unfold muD;rw[e];exact uK or ps
def FsAt(H:Hp)(l:Addr)(fs:Sps):Prop:=∃as:List Addr,H l=some (.lst (as.map V.ref))∧Paired (FT H) as fs
def ju:Sp:=fun vs H Q _=>∃(q:Addr)(Cz or total:Int)(ps:Sps),vs=[.ref q]∧LadAt H q Cz or total ps∧1≤Cz∧Cz≤20∧or≤20∧Kok or (ps.map (·.1))∧ps.length<64∧
 ∀(t r l:Addr)(H':Hp)(fs CD:Sps),Same H H'→H' t=some (.tup [.ref r,.ref l])→H l=none→LadAt H' r Cz or total (aQ CD)→FsAt H' l fs→fs.length≤1400→Stl or (total / Cz) ps fs CD→Kok or (CD.map (·.1))→CD.length≤ps.length→Q (.ref t) H'
def pjs(ps:Sps)(h j:Int):Nat→Sps
 | 0=>ps
 | 1=>aC ps (loK h j)
 |_=>aY ps h j
def tjs(ps:Sps)(h j:Int):Nat→Sps
 | 0=>[]
 | 1=>aP ps (loK h j)
 |_=>flP ps h j
def kjs(h j:Int):Nat→Int×Int
 | 0=>loK h j
 |_=>hiK h j
theorem rL(ps:Sps)(h j:Int){i:Nat}(hi:i<2):pjs ps h j (i+1)=aC (pjs ps h j i) (kjs h j i)∧tjs ps h j (i+1)=tjs ps h j i++aP (pjs ps h j i) (kjs h j i):=by
 match i,hi with
 | 0,_=>exact⟨rfl,rfl⟩
 | 1,_=>exact⟨rfl,by show aP ps _++aP ps _=aP ps _++aP (aC ps (loK h j)) (hiK h j);rw[Nd]⟩
structure Stg(H H':Hp)(d L:Addr)(or bar:Int)(n0 M:Nat)(ps0 ps fs:Sps):Prop where
 sm:Same H H'
 ed:H' d=some (.dT (af ps))
 eL:FsAt H' L fs
 ok:Kok or (ps.map (·.1))
 le:ps.length≤n0
 few:fs.length+mea or (ps.map (·.1))≤M
theorem FsAt.same{H H':Hp}{l:Addr}{fs:Sps}(h:FsAt H l fs)(g:Same H H'):FsAt H' l fs:=let ⟨as,e,p⟩:=h;⟨as,g _ _ e,Paired.mapP p fun _ _ f=>Zs g f⟩
theorem Stg.same{H H1 H2:Hp}{d L:Addr}{or bar:Int}{n0 M:Nat}{ps0 ps fs:Sps}(s:Stg H H1 d L or bar n0 M ps0 ps fs)(g:Same H1 H2):Stg H H2 d L or bar n0 M ps0 ps fs:=⟨s.sm.trans g,g _ _ s.ed,s.eL.same g,s.ok,s.le,s.few⟩
theorem wQ(aM:mg "dict"=none)(bj:mg "sorted"=none)(bF:mg "tuple"=none)(oY:Has P w K mg base "bar_of" 1 ["ladder"] u8)(cj:Has P w K mg base "first_folding" 3 ["deep","bar","counts"] yN)(dA:Has P w K mg base "pair_of" 1 ["stretch"] kQ)(dP:Has P w K mg base "fold_up" 2 ["counts","stretch","many"] rm)(F:Fun K "settling_of" "settling_of" bV f fd):FnOk P w K mg base CX0 4 f fd ["ladder"] ju:=by
 refine F.ok Zw (fun vs H Q E h=>?_) (fun cdv A outer s H vs Q E hr h=>?_)
 ·obtain⟨q,Cz,or,total,ps,rfl,_⟩:=h;rfl
 obtain⟨q,Cz,or,total,ps,rfl,lad,r0,r1,d1,kok,pl,hq⟩:=h;obtain⟨c,as,CM,CJ,pr⟩:=lad.at_;refine⟨_,(Z3 (Yt (pv 0) (Y6 rfl (Z8 (Z9 (i:=1) Zw.nd rfl (Or.inl rfl)) (Z8 (Z9 (i:=2) Zw.nd rfl (Or.inl rfl)) (Z8 (Z9 (i:=3) Zw.nd rfl (Or.inl rfl)) (Z8 (Z9 (i:=4) Zw.nd rfl (Or.inl rfl)) Zo)))))) Zb),?_⟩;refine⟨_,rfl,q,_,rfl,SqT.of CM,rfl,_,_,rfl,_,_,rfl,_,_,rfl,_,_,rfl,rfl,?_⟩;refine⟨_,(Z3 (Zy 5 Zw.nd rfl (Or.inl rfl) (Z4 oY hr (Z0 (pv 0) Z1))) Zb),?_⟩;refine⟨_,rfl,q,Cz,or,total,ps,rfl,lad,r0,r1,?_⟩;refine⟨_,(Z3 (Zy 6 Zw.nd rfl (Or.inl rfl) (Y9 (Xu rfl hr.units) rfl aM A6 (Z0 (pv 3) Z1))) Zb),?_⟩;have nd:((af ps).map (·.1)).Nodup:=by
  rw[Vk];exact A8.mpr (kok.nd.imp fun h e=>h (Vh e))
 refine⟨_,rfl,c,_,_,rfl,CJ,Tz pr,by rw[Zk];omega,fun d n_d=>?_⟩;rw[Wy nd];have sm0:=Z6 n_d (.dT (af ps));have ed0:(upd H d (.dT (af ps))) d=some (.dT (af ps)):=Z2;generalize upd H d (.dT (af ps))=H1 at sm0 ed0⊢;refine⟨_,(Z3 (Zy 7 Zw.nd rfl (Or.inl rfl) (Yl Z1)) Zb),?_⟩;refine⟨leN rfl,fun L n_L=>?_⟩;have sm1:=Z6 n_L (.lst []);have eL0:(upd H1 L (.lst [])) L=some (.lst []):=Z2;generalize upd H1 L (.lst [])=H2 at sm1 eL0⊢;have nHL:H L=none:=sm0.free n_L;have m0:mea or (ps.map (·.1))≤21*ps.length:=by
  have:=pX d1 (ks:=ps.map (·.1)) fun k hk=>(kok.st k hk).1
  rwa [az]at this
 have sg:Stg H H2 d L or (total / Cz) ps.length (mea or (ps.map (·.1))) ps ps []:=⟨sm0.trans sm1,sm1 _ _ ed0,⟨[],eL0,.nil⟩,kok,zD _,by rw[AO];omega⟩;have dL:d≠L:=Zd ed0 n_L;generalize hbar:total / Cz=bar at sg hq⊢;generalize mea or (ps.map (·.1))=M at m0 sg;refine⟨_,(Z3 (Zy 8 Zw.nd rfl (Or.inl rfl) (Z4 cj hr (Z0 (pv 2) (Z0 (pv 5) (Z0 (pv 6) Z1))))) Zb),?_⟩;refine Sa (fun σ' H'=>∃(o8:V)(CD:Sps)(fs:Sps),σ'=[some (.ref q),some (.int Cz),some (.int or),some (.ref c),some (.int total),some (.int bar),some (.ref d),some (.ref L),some o8,none]∧Stg H H' d L or bar ps.length M ps CD fs∧Way or bar ps fs CD∧((o8=.non∧Nof or bar CD)∨∃(p:Addr)(k:Int×Int),o8=.ref p∧KAt H' p k∧Fst or bar CD k.1 (k.2 / 2))) ?_ ?_
 ·intro nx hnx;exact⟨_,rfl,_,rfl,_,rfl,or,_,d,ps,rfl,sg.ed,pl,fun H' g n=>hnx _ _ ⟨.non,ps,[],rfl,sg.same g,Way.refl,.inl ⟨rfl,n⟩⟩,fun p k H' g ek ft=>hnx _ _ ⟨.ref p,ps,[],rfl,sg.same g,Way.refl,.inr ⟨p,k,rfl,ek,ft⟩⟩⟩
 rintro σ' H3 ⟨o8,ps1,fs,rfl,sg,way,alt⟩;refine⟨_,(Z3 (iD Ao (Zi Si (pv 8) W1 (Zh _)) (Z3 (X8 Ao rfl (P2 (Z4 dA hr (Z0 (pv 8) Z1))) (Z9 (i:=9) Zw.nd rfl (Or.inl rfl))
 (Z7 (Y8 (Zi (uH hr.units) (pv 9) (pv 6) (by with_unfolding_all rfl)) (Z3 (Xj (Uo Ar Bt Bu Vt (pv 7) (Z0 (Zn (Z0 (pv 9) (Z0 (Wi (Yg hr) (pv 6) (pv 9) (fun _ _=>rfl)) Z1))) Z1)))
 (Z7 (Xj (Z4 dP hr (Z0 (pv 6) (Z0 (pv 9) (Z0 (Wi (Yg hr) (pv 6) (pv 9) (fun _ _=>rfl)) Z1))))))) Zr)))
 (Z7 (Zy 8 Zw.nd rfl (Or.inl rfl) (Z4 cj hr (Z0 (pv 2) (Z0 (pv 5) (Z0 (pv 6) Z1)))))))) Zb),?_⟩
 refine qB (fun σ H'=>∃(o8:V)(o9:Option V)(CD:Sps)(fs:Sps),σ=[some (.ref q),some (.int Cz),some (.int or),some (.ref c),some (.int total),some (.int bar),some (.ref d),some (.ref L),some o8,o9]∧Stg H H' d L or bar ps.length M ps CD fs∧Way or bar ps fs CD∧((o8=.non∧Nof or bar CD)∨∃(p:Addr)(k:Int×Int),o8=.ref p∧KAt H' p k∧Fst or bar CD k.1 (k.2 / 2))) (fun _ H'=>muD or d H') ⟨o8,none,ps1,fs,rfl,sg,way,alt⟩ ?_ ?_
 ·rintro σ H4 ⟨o8,o9,ps2,fs,rfl,sg,way,alt⟩;refine⟨_,rfl,rfl,_,rfl,?_⟩
  rcases alt with⟨rfl,nof⟩|⟨p,k,rfl,CH,ft⟩
  ·rw[zP rfl];refine Xg ⟨_,(Z7 (Zc (Zn (Z0 (Zn (Z0 (pv 1) (Z0 (pv 2) (Z0 (Y9 Tg rfl bF PyProof.Rows.boot_tuple (Z0 (Y1 (Ry rfl hr.units) rfl bj PyProof.Rows.boot_sorted (Z0 (U5 AQ Bz B4 T5 (pv 6)) Z1)) Z1)) (Z0 (pv 4) Z1))))) (Z0 (pv 7) Z1))))),?_⟩;refine⟨_,rfl,_,rfl,_,rfl,Ti sg.ed,d,_,rfl,rfl,sg.ed,fun v nv=>?_⟩;have g1:=Z6 nv (bg v d);have e_v:(upd H4 v (bg v d)) v=some (bg v d):=Z2;have sg:=sg.same g1;generalize upd H4 v (bg v d)=H5 at e_v sg⊢;have pl2:=sg.le;refine⟨v,d,ps2,rfl,e_v,sg.ed,by omega,fun H6 bs g6 pr6 l nl _=>?_⟩;have sg:=sg.same g6;have gg:Same H6 H6:=Same.refl _;have gz:=Z6 nl (.lst (bs.map V.ref));have CK:(upd H6 l (.lst (bs.map V.ref))) l=some (.lst (bs.map V.ref)):=Z2;have sg:=sg.same gz;have gg:=gg.trans gz;generalize upd H6 l (.lst (bs.map V.ref))=H7 at CK sg gg gz⊢;refine⟨l,_,rfl,.inl ⟨SqL.of CK,?_⟩⟩;intro u n_u;generalize hz:upd _ u _=H8;revert H8;refine blk ?_;intro H8 hz;have gz:=Zp hz n_u;have e_u:=Y2 hz;clear hz;have gg:=gg.trans gz;have sg:=sg.same gz;refine⟨_,rfl,leN rfl,?_⟩;intro r n_r;generalize hz:upd _ r _=H9;revert H9;refine blk ?_;intro H9 hz;have gz:=Zp hz n_r;have e_r:=Y2 hz;clear hz;have gg:=gg.trans gz;have e_u:=gz _ _ e_u;have sg:=sg.same gz;refine⟨_,rfl,leN rfl,?_⟩;intro t n_t;generalize hz:upd _ t _=H10;revert H10;refine blk ?_;intro H10 hz;have gz:=Zp hz n_t;have CN:=Y2 hz;clear hz;have gg:=gg.trans gz;have e_u:=gz _ _ e_u;have e_r:=gz _ _ e_r;have sg:=sg.same gz;have few:=sg.few;exact hq t r L _ fs ps2 sg.sm CN nHL ⟨u,bs,e_r,e_u,Paired.mapP pr6 fun _ _ f=>Zs gg f⟩ sg.eL (by omega) (way.done nof) sg.ok sg.le
  ·rw[As (fun z=>by cases z)];refine U9 ⟨_,rfl,p,k,rfl,CH,fun t a b H5 g5 CN CL CG=>⟨t,rfl,⟨_,SqT.of CN⟩,?_⟩⟩;have mu4:muD or d H4=mea or (ps2.map (·.1)):=kF sg.ed;rw[mu4];have sg5:=sg.same g5;generalize k.1=h at ft CL CG;generalize k.2 / 2=jj at ft CL CG;have hd:=ft.hd;refine Pp (xs:=[.ref a,.ref b]) (fun j σ H'=>∃(o9:Option V),σ=[some (.ref q),some (.int Cz),some (.int or),some (.ref c),some (.int total),some (.int bar),some (.ref d),some (.ref L),some (.ref p),o9]∧Stg H H' d L or bar ps.length M ps (pjs ps2 h jj j) (fs++tjs ps2 h jj j)∧H' t=some (.tup [.ref a,.ref b])∧KAt H' a (loK h jj)∧KAt H' b (hiK h jj)) ⟨_,rfl,by rw[show fs++tjs ps2 h jj 0=fs from Aw fs];exact sg5,CN,CL,CG⟩ ?_ ?_ ?_
   ·rintro j σ H' _ ⟨_,_,_,e,_⟩;exact SqT.of e
   ·rintro j x σ H6 N B1 R hN hR hx ⟨o9,rfl,sg,CN,CL,CG⟩;obtain⟨o,rfl,e_o,j2⟩:∃(o:Addr),x=.ref o∧KAt H6 o (kjs h jj j)∧j<2:=by
     match j,hx with
     | 0,hx=>
      cases hx;exact⟨a,rfl,CL,by decide⟩
     | 1,hx=>
      cases hx;exact⟨b,rfl,CG,by decide⟩
     |j+2,hx=>simp at hx
    obtain⟨nx1,nx2⟩:=rL ps2 h jj j2;rw[nx1,nx2,←Ag]at hN;have kh:(kjs h jj j).1=h:=by
     match j with
     | 0=>rfl
     |_+1=>rfl
    generalize pjs ps2 h jj j=ps3 at sg hN;generalize fs++tjs ps2 h jj j=fs3 at sg hN;generalize kjs h jj j=ko at e_o hN kh;refine⟨_,rfl,_,rfl,d,_,rfl,Y7 sg.ed e_o,_,rfl,Xh (fun cc=>?_) (fun cc=>?_)⟩
    ·have kin:=V0.mp cc;have hm:=Pe kin;have nxo:=Pt (k:=ko) sg.ok (by rw[kh];exact hd);have ef:aC ps3 ko=ci ps3 ko (cnt ps3 ko) (cnt ps3 (ad ko)+cnt ps3 ko):=by unfold aC;rw[zE kin];rfl
     have et:aP ps3 ko=[(ko,cnt ps3 ko)]:=by unfold aP;rw[zE kin]
     rw[et]at hN nxo;generalize cnt ps3 ko=m at hm ef hN;have gm:DGet H6 d (.ref o) (some (.int m)):=by rw[←hm];exact Y7 sg.ed e_o
     obtain⟨fas,eL,pF⟩:=sg.eL;refine⟨_,rfl,.inl ⟨rfl,_,SqL.of eL⟩,_,rfl,_,rfl,_,rfl,d,_,rfl,gm,leN rfl,fun u nu=>?_⟩;have s7:=Z6 nu (.tup [.ref o,.int m]);have sg:=sg.same s7;have CN:=s7 _ _ CN;have CL:KAt _ a _:=s7 _ _ CL;have CG:KAt _ b _:=s7 _ _ CG;have e_o:KAt _ o _:=s7 _ _ e_o;have eL:=s7 _ _ eL;have pF:=Paired.mapP pF fun _ _ f=>Zs s7 f;have fu:FT (upd H6 u (.tup [.ref o,.int m])) u (ko,m):=⟨o,Z2,e_o⟩;generalize upd H6 u (.tup [.ref o,.int m])=H7 at sg CN CL CG e_o eL pF fu⊢;have few:=sg.few;have fal:=zV pF;have tL:∀{x:Addr}{xs:List V}{o:HO},H7 x=some (.tup xs)→upd H7 L o x=some (.tup xs):=fun{x xs o} e=>by rw[Za (Uh e eL (by intro z;cases z))];exact e
     refine⟨L,_,_,rfl,rfl,eL,Zj (by rw[az];omega),?_⟩;have sm8:Same H (upd H7 L (.lst (fas.map V.ref++[.ref u]))):=fun x w e=>by rw[Za (Zd e nHL)];exact sg.sm _ _ e
     have ed8:(upd H7 L (.lst (fas.map V.ref++[.ref u]))) d=some (.dT (af ps3)):=by rw[Za dL];exact sg.ed
     have eL8:(upd H7 L (.lst (fas.map V.ref++[.ref u]))) L=some (.lst ((fas++[u]).map V.ref)):=by rw[zW];exact Z2
     have tF:∀{x:Addr}{p:(Int×Int)×Int},FT H7 x p→FT (upd H7 L (.lst (fas.map V.ref++[.ref u]))) x p:=fun{x p} ⟨y,e1,e2⟩=>⟨y,tL e1,tL e2⟩;have pF8:Paired (FT (upd H7 L (.lst (fas.map V.ref++[.ref u])))) (fas++[u]) (fs3++[(ko,m)]):=BS (Paired.mapP pF fun _ _ f=>tF f) (tF fu);have CN:=tL (o:=.lst (fas.map V.ref++[.ref u])) CN;have CL:KAt _ a _:=tL (o:=.lst (fas.map V.ref++[.ref u])) CL;have CG:KAt _ b _:=tL (o:=.lst (fas.map V.ref++[.ref u])) CG;have e_o:KAt _ o _:=tL (o:=.lst (fas.map V.ref++[.ref u])) e_o;generalize upd H7 L (.lst (fas.map V.ref++[.ref u]))=H8 at sm8 ed8 eL8 CN CL CG e_o pF8⊢;have gm8:DGet H8 d (.ref o) (some (.int m)):=by rw[←hm];exact Y7 ed8 e_o
     have le3:=sg.le;refine⟨_,rfl,_,rfl,_,rfl,_,rfl,d,_,rfl,gm8,d,o,ps3,ko,m,rfl,ed8,e_o,hm,by omega,fun H9 g9 e9=>?_⟩;rw[←ef]at e9;have nx2:=nxo.2.1;have nx3:=nxo.2.2;rw[AY]at nx2;have td:∀{x:Addr}{xs:List V},H8 x=some (.tup xs)→H9 x=some (.tup xs):=fun{x xs} e=>(Zf (g9 x _ (by rw[Zg (Uh e ed8 (by intro z;cases z))];exact e))).2;refine hN _ _ ⟨_,rfl,⟨fun x w e=>(Zf (g9 x _ (by rw[Zg (Zd e n_d)];exact sm8 _ _ e))).2,e9,⟨fas++[u],(Zf (g9 L _ (by rw[Zg (Ne.symm dL)];exact eL8))).2,Paired.mapP pF8 fun _ _ ⟨y,e1,e2⟩=>⟨y,td e1,td e2⟩⟩,nxo.1,by omega,by rw[zI,AY];omega⟩,td CN,td CL,td CG⟩
    ·have kin:ko∉ps3.map (·.1):=fun z=>cc (V0.mpr z);have ef:aC ps3 ko=ps3:=by unfold aC;rw[pi kin]
     have et:aP ps3 ko=[]:=by unfold aP;rw[pi kin]
     rw[ef,et,Aw]at hN;exact hN _ _ ⟨_,rfl,sg,CN,CL,CG⟩
   ·rintro σ H6 ⟨o9,rfl,sg,_,_,_⟩;have sg:Stg H H6 d L or bar ps.length M ps (aY ps2 h jj) (fs++flP ps2 h jj):=sg;have way:=way.snoc ft (.refl _);have so:=Ui (j:=jj) sg5.ok hd;have fp:=pH ft.in_;have le3:=sg.le;generalize aY ps2 h jj=ps3 at sg way so le3;generalize fs++flP ps2 h jj=fs3 at sg way;have less:mea or (ps3.map (·.1))<mea or (ps2.map (·.1)):=by omega
    refine⟨_,rfl,_,rfl,_,rfl,or,_,d,ps3,rfl,sg.ed,by omega,fun H' g n=>⟨⟨.non,o9,ps3,fs3,rfl,sg.same g,way,.inl ⟨rfl,n⟩⟩,?_⟩,fun p' k' H' g ek ft'=>⟨⟨.ref p',o9,ps3,fs3,rfl,sg.same g,way,.inr ⟨p',k',rfl,ek,ft'⟩⟩,?_⟩⟩
    ·rw[kF (sg.same g).ed];exact less
    ·rw[kF (sg.same g).ed];exact less
 ·rintro σ H' Q1 Q2 m ⟨v,e,e2,b,e3,r⟩;exact⟨v,e,e2,b,e3,m _ _ r⟩
def kX:Sp:=fun vs H Q _=>∃(q:Addr)(Cz or total:Int)(ps:Sps),vs=[.ref q]∧LadAt H q Cz or total ps∧1≤Cz∧Cz≤20∧or≤20∧Kok or (ps.map (·.1))∧ps.length<64∧
 ∀(r:Addr)(H':Hp)(fs CD:Sps),Same H H'→LadAt H' r Cz or total (aQ CD)→Stl or (total / Cz) ps fs CD→Kok or (CD.map (·.1))→CD.length≤ps.length→Q (.ref r) H'
theorem vU(a8:Has P w K mg base "settling_of" 4 ["ladder"] ju)(F:Fun K "settled" "settled" dM f fd):FnOk P w K mg base CX0 5 f fd ["ladder"] kX:=by
 refine F.ok ku (fun vs H Q E h=>?_) (fun cdv A outer s H vs Q E hr h=>?_)
 ·obtain⟨q,Cz,or,total,ps,rfl,_⟩:=h;rfl
 obtain⟨q,Cz,or,total,ps,rfl,lad,r0,r1,d1,kok,pl,hq⟩:=h;refine⟨_,(Z7 (Zc (Xb Xd (Z4 a8 hr (Z0 (pv 0) Z1)) Z5))),?_⟩;exact⟨_,rfl,q,Cz,or,total,ps,rfl,lad,r0,r1,d1,kok,pl,fun t r l H' fs CD g CN nl lad' fa f1 st ok' pl'=>⟨t,_,0,_,rfl,rfl,SqT.of CN,rfl,hq r H' fs CD g lad' st ok' pl'⟩⟩
end K34
namespace Ld
open PySem L2
structure Pok(or:Int)(ps:Sps):Prop where
 kok:Kok or (ps.map (·.1))
 pos:∀p∈ps,1≤p.2
theorem Pok.perm{or:Int}{ps qs:Sps}(h:Pok or ps)(p:qs.Perm ps):Pok or qs:=⟨h.kok.perm (p.map _),fun x hx=>h.pos x (p.mem_iff.mp hx)⟩
theorem mW{or:Int}:Pok or []:=⟨⟨An,fun _ h=>nomatch h⟩,fun _ h=>nomatch h⟩
theorem Uc{or:Int}{ps:Sps}(h:Pok or ps)(k:Int×Int):0≤cnt ps k:=by
 by_cases hk:k∈ps.map (·.1)
 ·obtain⟨p,hp,rfl⟩:=zF.mp hk;rw[Yu h.kok.nd hp];have:=h.pos p hp;omega
 ·rw[Y3 hk];exact Ah _
theorem R1{or:Int}{ps:Sps}(h:Pok or ps){k:Int×Int}(hk:k∈ps.map (·.1)):1≤cnt ps k:=by
 obtain⟨p,hp,rfl⟩:=zF.mp hk;rw[Yu h.kok.nd hp];exact h.pos p hp
theorem sJ{or:Int}{ps:Sps}{k:Int×Int}{n:Int}(h:Pok or ps)(hk:0≤k.1∧k.1≤or∧0≤k.2∧k.2<2^(or-k.1).toNat)(hn:1≤n):Pok or (au ps k n):=by
 refine⟨⟨Ye h.kok.nd,fun x hx=>?_⟩,fun p hp=>?_⟩
 ·rw[Xw]at hx
  split at hx
  ·exact h.kok.st x hx
  ·rcases zT.mp hx with hx | hx
   ·exact h.kok.st x hx
   ·rw[zG.mp hx];exact hk
 ·unfold au at hp
  split at hp
  ·obtain⟨q,hq,rfl⟩:=zF.mp hp
   split
   ·exact hn
   ·exact h.pos q hq
  ·rcases zT.mp hp with hp | hp
   ·exact h.pos p hp
   ·rw[zG.mp hp];exact hn
theorem S7{or:Int}{ps:Sps}{h j:Int}(o:Pok or ps)(i:loK h j∈ps.map (·.1)∨hiK h j∈ps.map (·.1))(hd:h<or):Pok or (aY ps h j):=by
 have so:=Ui (j:=j) o.kok hd;refine⟨so.1,fun p hp=>?_⟩;have e:=Wj so.1.nd hp;rw[Tv i]at e
 split at e
 ·cases e
 ·split at e
  ·injection e with e
   injection e with e
   rw[←e];unfold jn;have a:=Uc o (loK h j);have b:=Uc o (hiK h j);have c:=Uc o (upK h j)
   rcases i with i | i
   ·have:=R1 o i;omega
   ·have:=R1 o i;omega
  ·exact o.pos p ((Pa o.kok.nd).mpr e)
theorem lG{or bar:Int}{ps fs CD:Sps}(s:Stl or bar ps fs CD):Pok or ps→Pok or CD∧CD.length≤ps.length:=by
 induction s with
 |done n=>exact fun o=>⟨o,zD _⟩
 |step f p1 s ih=>
  intro o;have q:=S7 o f.in_ f.hd;have z:=ih (q.perm p1);exact⟨z.1,At z.2 (by rw[p1.length_eq];exact(Ui o.kok f.hd).2.2)⟩
theorem qV{or bar:Int}{ps fs CD qs:Sps}(s:Stl or bar ps fs CD)(p:ps.Perm qs)(nd:(ps.map (·.1)).Nodup):∃qs',Stl or bar qs fs qs'∧qs'.Perm CD:=by
 cases s with
 |done n=>exact⟨qs,.done (P8 n p nd),p.symm⟩
 |step f p1 s=>exact⟨CD,by rw[k6 p nd];exact .step (f.perm p nd) (p1.trans (Ol p nd f.in_)) s,.refl _⟩
theorem rf{or bar:Int}{ps:Sps}:Nof or bar ps∨∃h j,Fst or bar ps h j:=by
 by_cases n:Nof or bar ps
 ·exact .inl n
 refine .inr ?_;have go:∀l:List (Int×Int),l.Pairwise (fun a b=>leK a b=true)→(∀k∈l,k∈ps.map (·.1))→(∃k∈l,k.1<or∧jn ps k.1 (k.2 / 2)≤bar)→∃k∈l,k.1<or∧jn ps k.1 (k.2 / 2)≤bar∧∀k'∈l,k'.1<or→jn ps k'.1 (k'.2 / 2)≤bar→k.1<k'.1∨(k.1=k'.1∧k.2 / 2≤k'.2 / 2):=by
  intro l
  induction l with
  |nil=>rintro _ _ ⟨k,hk,_⟩;cases hk
  |cons x l ih=>
   intro pw sub ex;rw[A3]at pw;by_cases c:x.1<or∧jn ps x.1 (x.2 / 2)≤bar
   ·refine⟨x,.head _,c.1,c.2,fun k' hk' _ _=>?_⟩
    rcases zZ.mp hk' with e | hk'
    ·rw[e];exact .inr ⟨rfl,Ah _⟩
    ·rcases U8.mp (pw.1 k' hk')with h | ⟨h,g⟩
     ·exact .inl h
     ·exact .inr ⟨h,by omega⟩
   ·obtain⟨k,hk,h1,h2⟩:=ex;have hk:k∈l:=(zZ.mp hk).resolve_left fun e=>c (by rw[←e];exact⟨h1,h2⟩);obtain⟨k0,m,a1,a2,a3⟩:=ih pw.2 (fun z hz=>sub z (.tail _ hz)) ⟨k,hk,h1,h2⟩;refine⟨k0,.tail _ m,a1,a2,fun k' hk' b1 b2=>?_⟩
    rcases zZ.mp hk' with e | hk'
    ·exact absurd (by rw[←e];exact⟨b1,b2⟩) c
    ·exact a3 k' hk' b1 b2
 have mk:∀k,k∈ff (ps.map (·.1))↔k∈ps.map (·.1):=fun k=>(R7 _).mem_iff;obtain⟨k,hk⟩:=Classical.not_forall.mp n;obtain⟨hk1,hk⟩:=Classical.not_imp.mp hk;obtain⟨hk2,hk⟩:=Classical.not_imp.mp hk;obtain⟨k0,m,a1,a2,a3⟩:=go (ff (ps.map (·.1))) (Nk _) (fun k h=>(mk k).mp h) ⟨k,(mk k).mpr hk1,hk2,by omega⟩;refine⟨k0.1,k0.2 / 2,?_,a1,a2,fun k' h1 h2 h3=>a3 k' ((mk k').mpr h1) h2 h3⟩
 rcases Qf k0 with e | e
 ·exact .inl (by rw[←e];exact(mk k0).mp m)
 ·exact .inr (by rw[←e];exact(mk k0).mp m)
theorem Tj{or bar:Int}:∀(n:Nat)(ps:Sps),mea or (ps.map (·.1))≤n→Kok or (ps.map (·.1))→∃fs CD,Stl or bar ps fs CD
 |n,ps,hn,o=>by
  rcases rf (or:=or) (bar:=bar) (ps:=ps)with z | ⟨h,j,f⟩
  ·exact⟨[],ps,.done z⟩
  ·have so:=Ui (j:=j) o f.hd;have fp:=pH f.in_
   match n,hn with
   | 0,hn=>omega
   |n+1,hn=>
    obtain⟨fs,CD,s⟩:=Tj n (aY ps h j) (by omega) so.1;exact⟨_,_,.step f (.refl _) s⟩
def b8(or bar:Int)(ps:Sps):Sps:=aQ (Classical.epsilon fun CD=>∃fs,Stl or bar ps fs CD)
def dJ(or bar:Int)(ps:Sps):Sps:=Classical.epsilon fun fs=>∃CD,Stl or bar ps fs CD
theorem W3{or bar:Int}{ps fs CD:Sps}(s:Stl or bar ps fs CD)(nd:(ps.map (·.1)).Nodup):b8 or bar ps=aQ CD∧dJ or bar ps=fs:=by
 refine⟨?_,?_⟩
 ·obtain⟨gs,t⟩:=Classical.epsilon_spec (p:=fun CD=>∃fs,Stl or bar ps fs CD) ⟨CD,fs,s⟩;exact Qw (mQ t s (.refl _) nd).2
 ·obtain⟨qs,t⟩:=Classical.epsilon_spec (p:=fun fs=>∃CD,Stl or bar ps fs CD) ⟨fs,CD,s⟩;exact(mQ t s (.refl _) nd).1
theorem lF{or bar:Int}{ps qs fs qs':Sps}(s:Stl or bar qs fs qs')(p:qs.Perm ps)(nd:(qs.map (·.1)).Nodup):b8 or bar ps=aQ qs'∧dJ or bar ps=fs:=by
 obtain⟨CD,t,p'⟩:=qV s p nd;have:=W3 t ((p.map _).nodup_iff.mp nd);exact⟨this.1.trans (Qw p'),this.2⟩
theorem nL{or bar:Int}{ps qs:Sps}(o:Kok or (ps.map (·.1)))(p:ps.Perm qs):b8 or bar ps=b8 or bar qs∧dJ or bar ps=dJ or bar qs:=by
 obtain⟨fs,CD,s⟩:=Tj (or:=or) (bar:=bar) _ ps (zD _) o;have a:=W3 s o.nd;have b:=lF s p o.nd;exact⟨a.1.trans b.1.symm,a.2.trans b.2.symm⟩
theorem jM(ps:Sps):aQ (aQ ps)=aQ ps:=Qw (Y0 ps)
theorem Tl{or bar:Int}{ps:Sps}(o:Pok or ps):Pok or (b8 or bar ps)∧aQ (b8 or bar ps)=b8 or bar ps∧Nof or bar (b8 or bar ps)∧ag (b8 or bar ps)=ag ps∧(b8 or bar ps).length≤ps.length:=by
 obtain⟨fs,CD,s⟩:=Tj (or:=or) (bar:=bar) _ ps (zD _) o.kok;have e:=(W3 s o.kok.nd).1;have f:=m4 s o.kok.nd;have g:=lG s o;rw[e];refine⟨g.1.perm (Y0 CD),jM CD,P8 f.2.1 (Y0 CD).symm f.1,by rw[Vn (Y0 CD)];exact f.2.2,by rw[(Y0 CD).length_eq];exact g.2⟩
def ay(xs ys:Sps):Sps:=ys.foldl (fun a p=>au a p.1 (cnt a p.1+p.2)) xs
theorem R4(xs ys:Sps)(p:(Int×Int)×Int):ay xs (ys++[p])=au (ay xs ys) p.1 (cnt (ay xs ys) p.1+p.2):=by
 unfold ay;rw[List.foldl_append];rfl
theorem Wb(xs ys:Sps)(p:(Int×Int)×Int):ay xs (p::ys)=ay (au xs p.1 (cnt xs p.1+p.2)) ys:=rfl
theorem Uv:∀{ys xs:Sps},(xs.map (·.1)).Nodup→((ay xs ys).map (·.1)).Nodup
 | [],_,h=>h
 |_::ys,_,h=>Uv (ys:=ys) (Ye h)
theorem Wn:∀(ys xs:Sps),(ay xs ys).length≤xs.length+ys.length
 | [],xs=>zD _
 |p::ys,xs=>by
  have a:=Wn ys (au xs p.1 (cnt xs p.1+p.2));have b:=W4 xs p.1 (cnt xs p.1+p.2);rw[Wb,Ak];omega
theorem Ue:∀{ys xs:Sps},(xs.map (·.1)).Nodup→ag (ay xs ys)=ag xs+ag ys
 | [],xs,_=>by
  show ag xs=ag xs+0;omega
 |p::ys,xs,h=>by
  rw[Wb,Ue (Ye h),Nh h];unfold ag;rw[zH,Ac];omega
theorem Uf{or:Int}:∀{ys xs:Sps},Pok or xs→(∀p∈ys,1≤p.2∧0≤p.1.1∧p.1.1≤or∧0≤p.1.2∧p.1.2<2^(or-p.1.1).toNat)→Pok or (ay xs ys)
 | [],_,h,_=>h
 |p::ys,xs,h,g=>by
  have gp:=g p (.head _);have:=Uc h p.1;exact Uf (ys:=ys) (sJ h gp.2 (by omega)) fun q hq=>g q (.tail _ hq)
theorem Pok.each{or:Int}{ys:Sps}(h:Pok or ys):∀p∈ys,1≤p.2∧0≤p.1.1∧p.1.1≤or∧0≤p.1.2∧p.1.2<2^(or-p.1.1).toNat:=fun p hp=>⟨h.pos p hp,h.kok.st p.1 (zF.mpr ⟨p,hp,rfl⟩)⟩
theorem iP:∀{ys xs:Sps}(k:Int×Int),(ys.map (·.1)).Nodup→aw (ay xs ys) k=if k∈ys.map (·.1)then some (.int (cnt xs k+cnt ys k))else aw xs k
 | [],xs,k,_=>by
  rw[Cs,pi Am];rfl
 |p::ys,xs,k,nd=>by
  rw[zH,Ae]at nd;rw[Wb,iP k nd.2,zH];have cp:cnt (p::ys) k=if p.1=k then p.2 else cnt ys k:=by
   unfold cnt;rw[X2]
   split <;> rename_i e
   ·split at e <;> rename_i z
    ·rw[zE z];injection e with e;injection e with e;exact e.symm
    ·rw[pi z,e]
   ·split at e <;> rename_i z
    ·exact absurd rfl (e p.2)
    ·rw[pi z]
     split
     ·rename_i n q;exact absurd q (e n)
     ·rfl
  by_cases e:p.1=k
  ·have hk:k∉ys.map (·.1):=by rw[←e];exact nd.1
   rw[pi hk,Xc,zE e.symm,zE (show k∈p.1::ys.map (·.1) by rw[e];exact .head _),cp,zE e,e]
  ·rw[cp,pi e];by_cases hk:k∈ys.map (·.1)
   ·rw[zE hk,zE (Ay _ hk),Yy,pi (Ne.symm e)]
   ·rw[pi hk,pi (fun q=>(zZ.mp q).elim (fun z=>e z.symm) hk),Xc,pi (Ne.symm e)]
def aO(Cz or:Int)(xs ys:Sps):Sps:=b8 or (ag (ay xs ys) / Cz) (ay xs ys)
structure Lok(Cz or:Int)(xs:Sps):Prop where
 pok:Pok or xs
 srt:aQ xs=xs
 nof:Nof or (ag xs / Cz) xs
theorem mZ{Cz or:Int}:Lok Cz or []:=⟨mW,by unfold aQ;simp,fun _ h=>nomatch h⟩
theorem jt{Cz or:Int}{ps:Sps}(o:Pok or ps):Lok Cz or (b8 or (ag ps / Cz) ps):=by
 obtain⟨a,b,c,d,_⟩:=Tl (bar:=ag ps / Cz) o;exact⟨a,b,by rw[d];exact c⟩
theorem U6{Cz or:Int}{xs ys:Sps}(hx:Pok or xs)(hy:Pok or ys):Lok Cz or (aO Cz or xs ys)∧ag (aO Cz or xs ys)=ag xs+ag ys∧(aO Cz or xs ys).length≤xs.length+ys.length:=by
 have o:=Uf hx hy.each;obtain⟨a,b,c,d,e⟩:=Tl (bar:=ag (ay xs ys) / Cz) o;exact⟨jt o,by unfold aO;rw[d,Ue hx.kok.nd],At e (Wn ys xs)⟩
def thL(Cz or:Int)(t:Th):Sps:=b8 or (t.many / Cz) [((0,t.num),t.many)]
def cf(Cz or:Int)(ts:List Th):Sps:=ts.foldl (fun a t=>aO Cz or a (thL Cz or t)) []
def ThL(or:Int)(t:Th):Prop:=0≤t.num∧t.num<2^or.toNat∧1≤t.many
theorem Sm{or:Int}{t:Th}(d0:0≤or)(h:ThL or t):Pok or [((0,t.num),t.many)]:=by
 refine⟨⟨Ae.mpr ⟨Am,An⟩,fun k hk=>?_⟩,fun p hp=>?_⟩
 ·have e:k=(0,t.num):=zG.mp hk;rw[e];refine⟨Ah _,d0,h.1,?_⟩;show t.num<2^(or-0).toNat;rw[Int.sub_zero];exact h.2.1
 ·rw[zG.mp hp];exact h.2.2
theorem mY(t:Th):ag [((0,t.num),t.many)]=t.many:=by
 show t.many+0=t.many;omega
theorem Qr{Cz or:Int}{t:Th}(d0:0≤or)(h:ThL or t):Lok Cz or (thL Cz or t)∧ag (thL Cz or t)=t.many∧(thL Cz or t).length≤1:=by
 have o:=Sm d0 h;have l:=jt (Cz:=Cz) o;obtain⟨a,b,c,d,e⟩:=Tl (bar:=t.many / Cz) o;rw[mY]at l d;exact⟨l,d,e⟩
theorem oj(Cz or:Int)(ts:List Th)(t:Th):cf Cz or (ts++[t])=aO Cz or (cf Cz or ts) (thL Cz or t):=by
 unfold cf;rw[List.foldl_append];rfl
def aK(ts:List Th):Int:=(ts.map (·.many)).sum
theorem lV{Cz or:Int}(d0:0≤or):∀(ts:List Th)(a:Sps),Lok Cz or a→(∀t∈ts,ThL or t)→Lok Cz or (ts.foldl (fun a t=>aO Cz or a (thL Cz or t)) a)∧ag (ts.foldl (fun a t=>aO Cz or a (thL Cz or t)) a)=ag a+aK ts∧(ts.foldl (fun a t=>aO Cz or a (thL Cz or t)) a).length≤a.length+ts.length
 | [],a,ha,_=>⟨ha,by show ag a=ag a+0;omega,zD _⟩
 |t::ts,a,ha,h=>by
  have ht:=Qr (Cz:=Cz) d0 (h t (.head _));have m:=U6 (Cz:=Cz) ha.pok ht.1.pok;obtain⟨i1,i2,i3⟩:=lV d0 ts _ m.1 fun x hx=>h x (.tail _ hx);refine⟨i1,?_,?_⟩
  ·rw[BA,i2,m.2.1,ht.2.1];unfold aK;rw[zH,Ac];omega
  ·rw[BA,Ak];have:=m.2.2;have:=ht.2.2;omega
theorem Qd{Cz or:Int}(d0:0≤or){ts:List Th}(h:∀t∈ts,ThL or t):Lok Cz or (cf Cz or ts)∧ag (cf Cz or ts)=aK ts∧(cf Cz or ts).length≤ts.length:=by
 obtain⟨a,b,c⟩:=lV (Cz:=Cz) d0 ts [] mZ h;refine⟨a,?_,?_⟩
 ·show ag (ts.foldl _ [])=_;rw[b];show(0:Int)+aK ts=aK ts;omega
 ·show(ts.foldl _ []).length≤_;rw[AO,Bs]at c;exact c
end Ld
namespace K34
open PySem L2 Ld
def aE(k:Int×Int):Int:=k.2*2^k.1.toNat
def aD(k:Int×Int):Int:=(k.2+1)*2^k.1.toNat-1
def gI:Sp:=fun vs H Q _=>∃(p:Addr)(k:Int×Int),vs=[.ref p]∧KAt H p k∧0≤k.1∧k.1≤20∧0≤k.2∧k.2≤1000001∧Q (.int (aE k)) H
def gF:Sp:=fun vs H Q _=>∃(p:Addr)(k:Int×Int),vs=[.ref p]∧KAt H p k∧0≤k.1∧k.1≤20∧0≤k.2∧k.2≤1000000∧∀H',Same H H'→Q (.int (aD k)) H'
def v7:Sp:=fun vs H Q _=>∃(Cz or:Int),vs=[.int Cz,.int or]∧∀(q:Addr)(H':Hp),Same H H'→LadAt H' q Cz or 0 []→Q (.ref q) H'
def xy:Sp:=fun vs H Q _=>∃(r:Addr)(Cz or:Int)(t:Th),vs=[.int Cz,.int or,.ref r]∧H r=some (.tup t.vs)∧ThL or t∧0≤or∧or≤20∧∀(q:Addr)(H':Hp),Same H H'→LadAt H' q Cz or t.many [((0,t.num),t.many)]→Q (.ref q) H'
def xT:Sp:=fun vs H Q _=>∃(c1 c2:Addr)(as bs:List Addr)(xs ys:Sps),vs=[.ref c1,.ref c2]∧H c1=some (.tup (as.map V.ref))∧Paired (FT H) as xs∧H c2=some (.tup (bs.map V.ref))∧Paired (FT H) bs ys∧(xs.map (·.1)).Nodup∧xs.length+ys.length≤500∧∀(d:Addr)(H':Hp),Same H H'→H' d=some (.dT (af (ay xs ys)))→Q (.ref d) H'
def sy:Sp:=fun vs H Q _=>∃(q1 q2:Addr)(Cz or s1 s2:Int)(xs ys:Sps),vs=[.ref q1,.ref q2]∧LadAt H q1 Cz or s1 xs∧LadAt H q2 Cz or s2 ys∧(xs.map (·.1)).Nodup∧xs.length+ys.length<64∧∀(q:Addr)(H':Hp),Same H H'→LadAt H' q Cz or (s1+s2) (aQ (ay xs ys))→Q (.ref q) H'
def p9:Sp:=fun vs H Q _=>∃(q1 q2:Addr)(Cz or:Int)(xs ys:Sps),vs=[.ref q1,.ref q2]∧LadAt H q1 Cz or (ag xs) xs∧LadAt H q2 Cz or (ag ys) ys∧Pok or xs∧Pok or ys∧1≤Cz∧Cz≤20∧or≤20∧xs.length+ys.length<64∧∀(q:Addr)(H':Hp),Same H H'→LadAt H' q Cz or (ag (aO Cz or xs ys)) (aO Cz or xs ys)→Q (.ref q) H'
def wg:Sp:=fun vs H Q _=>∃(v:V)(Cz or:Int)(ts:List Th),vs=[.int Cz,.int or,v]∧DV H v (aS ts)∧(∀t∈ts,ThL or t)∧1≤Cz∧Cz≤20∧0≤or∧or≤20∧ts.length<63∧∀(q:Addr)(H':Hp),Same H H'→LadAt H' q Cz or (ag (cf Cz or ts)) (cf Cz or ts)→Q (.ref q) H'
theorem wp(a b:Int):(PyData.tuple [.int a,.int b]).canLay0=true∧(PyData.tuple [.int a,.int b]).depth≤3:=by
 refine⟨?_,?_⟩
 ·simp[PyData.canLay0,PyData.canLayAll0]
 ·simp[PyData.depth,PyData.depthAll]
variable{P:Program}{w:World}{K:W.Frag}{mg:Str→Option Value}{base:Heap}{f:Addr}{fd:FuncData}
theorem P7(F:Fun K "first_of" "first_of" cX f fd):FnOk P w K mg base CX0 1 f fd ["stretch"] gI:=by
 refine F.ok Uk (fun vs H Q E h=>?_) (fun cdv A outer s H vs Q E hr h=>?_)
 ·obtain⟨p,k,rfl,_⟩:=h;rfl
 obtain⟨p,k,rfl,e,h0,h1,i0,i1,hq⟩:=h;refine⟨_,(Z3 (Yt (pv 0) (Y6 rfl (Z8 (Z9 (i:=1) Uk.nd rfl (Or.inl rfl)) (Z8 (Z9 (i:=2) Uk.nd rfl (Or.inl rfl)) Zo))))
 (Z7 (Zc (Ze Tq (pv 2) (pv 1))))),?_⟩
 exact⟨_,rfl,p,_,rfl,SqT.of e,rfl,_,_,rfl,_,_,rfl,rfl,_,rfl,_,rfl,_,_,rfl,rfl,⟨by omega,by omega,by omega⟩,hq⟩
theorem gQ(cZ:Has P w K mg base "first_of" 1 ["stretch"] gI)(F:Fun K "last_of" "last_of" dE f fd):FnOk P w K mg base CX0 2 f fd ["stretch"] gF:=by
 refine F.ok Tm (fun vs H Q E h=>?_) (fun cdv A outer s H vs Q E hr h=>?_)
 ·obtain⟨p,k,rfl,_⟩:=h;rfl
 obtain⟨p,k,rfl,e,h0,h1,i0,i1,hq⟩:=h;refine⟨_,(Z3 (Yt (pv 0) (Y6 rfl (Z8 (Z9 (i:=1) Tm.nd rfl (Or.inl rfl)) (Z8 (Z9 (i:=2) Tm.nd rfl (Or.inl rfl)) Zo))))
 (Z7 (Zc (Ze Xl (Z4 cZ hr (Z0 (Zn (Z0 (pv 1) (Z0 (Ze Zu (pv 2) Z5) Z1))) Z1)) Z5)))),?_⟩
 exact⟨_,rfl,p,_,rfl,SqT.of e,rfl,_,_,rfl,_,_,rfl,rfl,_,rfl,_,rfl,_,_,rfl,rfl,leN rfl,fun q nq=>⟨q,(k.1,k.2+1),rfl,Z2,h0,h1,by show 0≤k.2+1;omega,by show k.2+1≤_;omega,_,_,rfl,rfl,hq _ (Z6 nq _)⟩⟩
theorem vx(F:Fun K "empty_ladder" "empty_ladder" bK f fd):FnOk P w K mg base CX0 1 f fd ["room","deep"] v7:=by
 refine F.ok Q3 (fun vs H Q E h=>?_) (fun cdv A outer s H vs Q E hr h=>?_)
 ·obtain⟨Cz,or,rfl,_⟩:=h;rfl
 obtain⟨Cz,or,rfl,hq⟩:=h;refine⟨_,(Z7 (Zc (Zn (Z0 (pv 0) (Z0 (pv 1) (Z0 (Zn Z1) (Z0 Z5 Z1))))))),?_⟩;have gg:Same H H:=Same.refl _;refine⟨_,rfl,_,rfl,leN rfl,?_⟩;intro c n_c;generalize hz:upd _ c _=H1;revert H1;refine blk ?_;intro H1 hz;have gz:=Zp hz n_c;have CJ:=Y2 hz;clear hz;have gg:=gg.trans gz;refine⟨leN rfl,?_⟩;intro q n_q;generalize hz:upd _ q _=H2;revert H2;refine blk ?_;intro H2 hz;have gz:=Zp hz n_q;have CM:=Y2 hz;clear hz;have gg:=gg.trans gz;have CJ:=gz _ _ CJ;exact hq q _ gg ⟨c,[],CM,CJ,.nil⟩
theorem vk(b7:Has P w K mg base "last_of" 2 ["stretch"] gF)(F:Fun K "thing_ladder" "thing_ladder" bO f fd):FnOk P w K mg base CX0 3 f fd ["room","deep","thing"] xy:=by
 refine F.ok X4 (fun vs H Q E h=>?_) (fun cdv A outer s H vs Q E hr h=>?_)
 ·obtain⟨r,Cz,or,t,rfl,_⟩:=h;rfl
 obtain⟨r,Cz,or,t,rfl,e_r,ok,d0,d1,hq⟩:=h;refine⟨_,(Z3 (Yt (pv 2) (Y6 rfl (Z8 (Z9 (i:=3) X4.nd rfl (Or.inl rfl)) (Z8 (Z9 (i:=4) X4.nd rfl (Or.inl rfl)) (Z8 (Z9 (i:=5) X4.nd rfl (Or.inl rfl)) (Z8 (Z9 (i:=6) X4.nd rfl (Or.inl rfl)) Zo))))))
 (Z3 (Y8 (Zi Rt (pv 5) (Z4 b7 hr (Z0 (Zn (Z0 (pv 1) (Z0 Z5 Z1))) Z1)) (Zh _)) (Z7 i7) Zr)
 (Z7 (Zc (Zn (Z0 (pv 0) (Z0 (pv 1) (Z0 (Zn (Z0 (Zn (Z0 (Zn (Z0 Z5 (Z0 (pv 5) Z1))) (Z0 (pv 6) Z1))) Z1)) (Z0 (pv 6) Z1))))))))),?_⟩
 have gg:Same H H:=Same.refl _;refine⟨_,rfl,r,_,rfl,SqT.of e_r,rfl,_,_,rfl,_,_,rfl,_,_,rfl,_,_,rfl,rfl,?_⟩;refine⟨_,rfl,_,rfl,leN rfl,?_⟩;intro k n_k;generalize hz:upd _ k _=H1;revert H1;refine blk ?_;intro H1 hz;have gz:=Zp hz n_k;have e_k:=Y2 hz;clear hz;have gg:=gg.trans gz;refine⟨k,(or,0),rfl,e_k,d0,d1,Ah _,by show(0:Int)≤_;omega,fun H2 g2=>⟨_,_,rfl,rfl,_,rfl,?_⟩⟩;have gg:=gg.trans g2;have lt:¬t.num > aD (or,0):=by
  have:=ok.2.1;show ¬(t.num > (0+1)*2^or.toNat-1);rw[BF,AI];omega
 rw[As lt];refine Xg ?_;refine⟨_,rfl,_,rfl,_,rfl,leN rfl,?_⟩;intro a n_a;generalize hz:upd _ a _=G1;revert G1;refine blk ?_;intro G1 hz;have gz:=Zp hz n_a;have CL:=Y2 hz;clear hz;have gg:=gg.trans gz;refine⟨_,rfl,leN rfl,?_⟩;intro b n_b;generalize hz:upd _ b _=G2;revert G2;refine blk ?_;intro G2 hz;have gz:=Zp hz n_b;have CG:=Y2 hz;clear hz;have gg:=gg.trans gz;have CL:=gz _ _ CL;refine⟨leN rfl,?_⟩;intro c n_c;generalize hz:upd _ c _=G3;revert G3;refine blk ?_;intro G3 hz;have gz:=Zp hz n_c;have CJ:=Y2 hz;clear hz;have gg:=gg.trans gz;have CL:=gz _ _ CL;have CG:=gz _ _ CG;refine⟨_,rfl,leN rfl,?_⟩;intro q n_q;generalize hz:upd _ q _=G4;revert G4;refine blk ?_;intro G4 hz;have gz:=Zp hz n_q;have CM:=Y2 hz;clear hz;have gg:=gg.trans gz;have CL:=gz _ _ CL;have CG:=gz _ _ CG;have CJ:=gz _ _ CJ;exact hq q _ gg ⟨c,[b],CM,CJ,.cons ⟨a,CG,CL⟩ .nil⟩
theorem zu(aM:mg "dict"=none)(F:Fun K "added_counts" "added_counts" bf f fd):FnOk P w K mg base CX0 1 f fd ["one","other"] xT:=by
 refine F.ok Y4 (fun vs H Q E h=>?_) (fun cdv A outer s H vs Q E hr h=>?_)
 ·obtain⟨c1,c2,as,bs,xs,ys,rfl,_⟩:=h;rfl
 obtain⟨c1,c2,as,bs,xs,ys,rfl,e1,p1,e2,p2,nx,xl,hq⟩:=h;refine⟨_,(Z3 (Zy 2 Y4.nd rfl (Or.inl rfl) (Y9 (Xu rfl hr.units) rfl aM A6 (Z0 (pv 0) Z1))) Zb),?_⟩;have nd:((af xs).map (·.1)).Nodup:=by
  rw[Vk];exact A8.mpr (nx.imp fun h e=>h (Vh e))
 refine⟨_,rfl,c1,_,_,rfl,e1,Tz p1,by rw[Zk];omega,fun d n_d=>?_⟩;rw[Wy nd];have sm:=Z6 n_d (.dT (af xs));have ed:(upd H d (.dT (af xs))) d=some (.dT (af xs)):=Z2;generalize upd H d (.dT (af xs))=H1 at sm ed⊢;have bl:=zV p2;refine⟨_,(Z3 (X8 Ao rfl (P2 (pv 1)) (Y6 rfl (Z8 (Z9 (i:=3) Y4.nd rfl (Or.inl rfl)) (Z8 (Z9 (i:=4) Y4.nd rfl (Or.inl rfl)) Zo)))
 (Z7 (W5 (Yg hr) (pv 2) (pv 3) (Ze Zu (X1 (Yg hr) (pv 2) (pv 3) Z5 ⟨rfl,rfl,rfl,rfl⟩) (pv 4)) rfl))) Zb),?_⟩
 refine⟨_,rfl,c2,rfl,⟨_,SqT.of (sm _ _ e2)⟩,?_⟩;refine Pp (xs:=bs.map V.ref) (fun i σ H'=>∃(o3 o4:Option V),σ=[some (.ref c1),some (.ref c2),some (.ref d),o3,o4]∧Same H H'∧H' d=some (.dT (af (ay xs (ys.take i))))∧(ay xs (ys.take i)).length≤xs.length+i) ⟨_,_,rfl,sm,ed,zD _⟩ ?_ ?_ ?_
 ·rintro i σ H' _ ⟨_,_,_,g,_⟩;exact SqT.of (g _ _ e2)
 ·rintro i x σ H' N B1 R hN hR hx ⟨o3,o4,rfl,g,ed,al⟩;obtain⟨a,p,rfl,hp,b,CL,CG⟩:=Vi p2 hx;have il:i<ys.length:=(zM.mp hp).1;have CL:=g _ _ CL;have CG:KAt H' b p.1:=g _ _ CG;have st:ay xs (ys.take (i+1))=au (ay xs (ys.take i)) p.1 (cnt (ay xs (ys.take i)) p.1+p.2):=by rw[Zv hp,R4]
  rw[st]at hN;generalize ay xs (ys.take i)=zs at ed al hN;have l1:=W4 zs p.1 (cnt zs p.1+p.2);refine⟨a,_,rfl,SqT.of CL,rfl,_,_,rfl,_,_,rfl,rfl,?_⟩;refine⟨_,rfl,d,rfl,.inr ⟨_,.inl ed⟩,_,rfl,_,Y7 ed CG,_,rfl,_,p.2,Ys _ _,rfl,_,rfl,_,rfl,d,_,rfl,DPut.t (k:=kk p.1) ed CG (Zj (by rw[Zk];omega)),?_⟩;refine hN _ _ ⟨_,_,rfl,fun x w e=>?_,by rw[←Wx];exact Z2,by omega⟩;rw[Za (Zd e n_d)];exact g _ _ e
 ·rintro σ H' ⟨o3,o4,rfl,g,ed,_⟩;rw[az,bl,Ab]at ed;exact⟨_,(Z7 (Zc (pv 2))),_,rfl,hq d _ g ed⟩
theorem yP(bj:mg "sorted"=none)(bF:mg "tuple"=none)(aU:Has P w K mg base "added_counts" 1 ["one","other"] xT)(F:Fun K "added_ladder" "added_ladder" bG f fd):FnOk P w K mg base CX0 2 f fd ["one","other"] sy:=by
 refine F.ok Ym (fun vs H Q E h=>?_) (fun cdv A outer s H vs Q E hr h=>?_)
 ·obtain⟨q1,q2,Cz,or,s1,s2,xs,ys,rfl,_⟩:=h;rfl
 obtain⟨q1,q2,Cz,or,s1,s2,xs,ys,rfl,l1,l2,nx,xl,hq⟩:=h;obtain⟨c1,as,e1,f1,p1⟩:=l1.at_;obtain⟨c2,bs,e2,f2,p2⟩:=l2.at_;refine⟨_,(Z3 (Y8 (Zi (gK hr.units) (jv lR (pv 0) mP (Qa Z5)) (jv lR (pv 1) mP (Qa Z5)) (Zh _)) (Z7 i7) Zr) Zb),?_⟩;refine⟨_,rfl,_,rfl,q1,_,rfl,e1,fun u1 H1 g1 d1=>⟨_,rfl,_,rfl,q2,_,rfl,g1 _ _ e2,fun u2 H2 g2 d2=>?_⟩⟩;have ll:=wp Cz or;have x1:DV H2 (.ref u1) (.tuple [.int Cz,.int or]):=.tup (g2 _ _ d1) (.cons (.int _) (.cons (.int _) .nil));have x2:DV H2 (.ref u2) (.tuple [.int Cz,.int or]):=.tup d2 (.cons (.int _) (.cons (.int _) .nil));refine⟨_,_,x1,x2,X6 ll (by decide),X6 ll (by decide),_,rfl,?_⟩;rw[Pu ll];have gg:=g1.trans g2;refine Xg ⟨_,(Z3 (Yt (pv 0) (Y6 rfl (Z8 (Z9 (i:=2) Ym.nd rfl (Or.inl rfl)) (Z8 (Z9 (i:=3) Ym.nd rfl (Or.inl rfl)) (Z8 (Z9 (i:=4) Ym.nd rfl (Or.inl rfl)) (Z8 (Z9 (i:=5) Ym.nd rfl (Or.inl rfl)) Zo)))))) Zb),?_⟩;refine⟨_,rfl,q1,_,rfl,SqT.of (gg _ _ e1),rfl,_,_,rfl,_,_,rfl,_,_,rfl,_,_,rfl,rfl,?_⟩;refine⟨_,(Z3 (Zy 6 Ym.nd rfl (Or.inl rfl) (Z4 aU hr (Z0 (pv 4) (Z0 (Xb Xd (pv 1) Z5) Z1)))) Zb),?_⟩;refine⟨_,rfl,_,rfl,q2,_,2,_,rfl,rfl,SqT.of (gg _ _ e2),rfl,c1,c2,as,bs,xs,ys,rfl,gg _ _ f1,Paired.mapP p1 fun _ _ f=>Zs gg f,gg _ _ f2,Paired.mapP p2 fun _ _ f=>Zs gg f,nx,by omega,fun d H3 g3 ed=>?_⟩;have gg:=gg.trans g3;have al:=Wn ys xs;refine⟨_,(Z7 (Zc (Zn (Z0 (pv 2) (Z0 (pv 3) (Z0 (Y9 Tg rfl bF PyProof.Rows.boot_tuple (Z0 (Y1 (Ry rfl hr.units) rfl bj PyProof.Rows.boot_sorted (Z0 (U5 AQ Bz B4 T5 (pv 6)) Z1)) Z1)) (Z0 (Ze Zu (pv 5) (Xb Xd (pv 1) Z5)) Z1))))))),?_⟩;refine⟨_,rfl,_,rfl,_,rfl,Ti ed,d,_,rfl,rfl,ed,?_⟩;intro v n_v;generalize hz:upd _ v _=H4;revert H4;refine blk ?_;intro H4 hz;have gz:=Zp hz n_v;have e_v:=Y2 hz;clear hz;have gg:=gg.trans gz;have ed:=gz _ _ ed;refine⟨v,d,_,rfl,e_v,ed,by omega,fun H6 ds g6 pr6 l nl _=>?_⟩;have gz:=Z6 nl (.lst (ds.map V.ref));have CK:(upd H6 l (.lst (ds.map V.ref))) l=some (.lst (ds.map V.ref)):=Z2;have gg:=gg.trans (g6.trans gz);have pr6:=Paired.mapP pr6 fun _ _ f=>Zs gz f;generalize upd H6 l (.lst (ds.map V.ref))=H7 at CK gg pr6⊢;refine⟨l,_,rfl,.inl ⟨SqL.of CK,?_⟩⟩;intro c n_c;generalize hz:upd _ c _=H8;revert H8;refine blk ?_;intro H8 hz;have gz:=Zp hz n_c;have CJ:=Y2 hz;clear hz;have gg:=gg.trans gz;have pr6:=Paired.mapP pr6 fun _ _ f=>Zs gz f;refine⟨_,rfl,_,rfl,q2,_,3,_,rfl,rfl,SqT.of (gg _ _ e2),rfl,_,_,rfl,rfl,leN rfl,?_⟩;intro q n_q;generalize hz:upd _ q _=H9;revert H9;refine blk ?_;intro H9 hz;have gz:=Zp hz n_q;have CM:=Y2 hz;clear hz;have gg:=gg.trans gz;have CJ:=gz _ _ CJ;exact hq q _ gg ⟨c,ds,CM,CJ,Paired.mapP pr6 fun _ _ f=>Zs gz f⟩
theorem yU(bI:Has P w K mg base "added_ladder" 2 ["one","other"] sy)(dI:Has P w K mg base "settled" 5 ["ladder"] kX)(F:Fun K "merged_ladder" "merged_ladder" a_ f fd):FnOk P w K mg base CX0 6 f fd ["one","other"] p9:=by
 refine F.ok R8 (fun vs H Q E h=>?_) (fun cdv A outer s H vs Q E hr h=>?_)
 ·obtain⟨q1,q2,Cz,or,xs,ys,rfl,_⟩:=h;rfl
 obtain⟨q1,q2,Cz,or,xs,ys,rfl,l1,l2,ox,oy,r0,r1,d1,xl,hq⟩:=h;refine⟨_,(Z7 (Zc (Z4 dI hr (Z0 (Z4 bI hr (Z0 (pv 0) (Z0 (pv 1) Z1))) Z1)))),?_⟩;have al:=Wn ys xs;have po:=Uf ox oy.each;have pm:=Y0 (ay xs ys);refine⟨_,rfl,_,rfl,q1,q2,Cz,or,_,_,xs,ys,rfl,l1,l2,ox.kok.nd,xl,fun q H1 g1 lad=>?_⟩;refine⟨q,Cz,or,_,_,rfl,lad,r0,r1,d1,po.kok.perm (pm.map _),by rw[pm.length_eq];omega,fun r H2 fs CD g2 lad2 st _ _=>hq r _ (g1.trans g2) ?_⟩;have es:ag xs+ag ys=ag (ay xs ys):=(Ue ox.kok.nd).symm;rw[es]at st lad2;have e:=(lF st pm (po.perm pm).kok.nd).1;have e2:aO Cz or xs ys=aQ CD:=e;have e3:ag (aQ CD)=ag (ay xs ys):=by
  rw[Vn (Y0 CD),(m4 st (po.perm pm).kok.nd).2.2,Vn pm]
 rw[e2,e3];exact lad2
theorem yn(bQ:Has P w K mg base "empty_ladder" 1 ["room","deep"] v7)(dZ:Has P w K mg base "merged_ladder" 6 ["one","other"] p9)(dI:Has P w K mg base "settled" 5 ["ladder"] kX)(bJ:Has P w K mg base "thing_ladder" 3 ["room","deep","thing"] xy)(F:Fun K "ladder_of" "ladder_of" cK f fd):FnOk P w K mg base CX0 7 f fd ["room","deep","stream"] wg:=by
 refine F.ok Wg (fun vs H Q E h=>?_) (fun cdv A outer s H vs Q E hr h=>?_)
 ·obtain⟨v,Cz,or,ts,rfl,_⟩:=h;rfl
 obtain⟨v,Cz,or,ts,rfl,dv,tw,r0,r1,d0,d1,tl,hq⟩:=h;obtain⟨b,xs,rfl,eb,qb⟩:=DV.list_inv dv;have xl:=qb.length;rw[az]at xl;refine⟨_,(Z3 (Zy 3 Wg.nd rfl (Or.inl rfl) (Z4 bQ hr (Z0 (pv 0) (Z0 (pv 1) Z1)))) Zb),?_⟩;refine⟨_,rfl,_,rfl,Cz,or,rfl,fun p0 H0 s0 l0=>?_⟩;refine⟨_,(Z3 (X8 Ao rfl (Yw (pv 2)) (Z9 (i:=4) Wg.nd rfl (Or.inl rfl))
 (Z7 (Zy 3 Wg.nd rfl (Or.inl rfl) (Z4 dZ hr (Z0 (pv 3) (Z0 (Z4 dI hr (Z0 (Z4 bJ hr (Z0 (pv 0) (Z0 (pv 1) (Z0 (pv 4) Z1)))) Z1)) Z1)))))) Zb),?_⟩
 refine⟨_,rfl,b,rfl,⟨_,SqL.of (s0 _ _ eb)⟩,?_⟩;refine Xs (xs:=xs) (fun n σ H'=>∃(o4:Option V)(p:Addr),σ=[some (.int Cz),some (.int or),some (.ref b),some (.ref p),o4]∧Same H H'∧LadAt H' p Cz or (ag (cf Cz or (ts.take n))) (cf Cz or (ts.take n))) ⟨_,p0,rfl,s0,l0⟩ ?_ ?_ ?_
 ·rintro n σ H' _ ⟨_,_,_,g,_⟩;exact SqL.of (g _ _ eb)
 ·rintro n x σ H' N B1 R hN hR hx ⟨o4,p,rfl,g,dp⟩;obtain⟨t,c,ht,rfl,ec,hm⟩:=DVs.th_at qb hx;have nl:n<ts.length:=(zM.mp ht).1;have twn:∀u∈ts.take n,ThL or u:=fun u hu=>tw u (A2 hu);obtain⟨oka,_,len⟩:=Qd (Cz:=Cz) d0 twn;rw[z5]at len;have e:cf Cz or (ts.take (n+1))=aO Cz or (cf Cz or (ts.take n)) (thL Cz or t):=by rw[Zv ht,oj]
  rw[e]at hN;generalize cf Cz or (ts.take n)=la at dp oka len hN;have ot:=Sm d0 (tw t hm);obtain⟨okt,sut,lent⟩:=Qr (Cz:=Cz) d0 (tw t hm);refine⟨_,rfl,_,rfl,_,rfl,_,rfl,c,Cz,or,t,rfl,g _ _ ec,tw t hm,d0,d1,fun q1 H1 s1 l1=>?_⟩;refine⟨q1,Cz,or,t.many,_,rfl,l1,r0,r1,d1,ot.kok,by show 1<64;omega,fun r H2 fs CD s2 l2 st _ _=>?_⟩;have e2:thL Cz or t=aQ CD:=(W3 st ot.kok.nd).1;rw[←e2]at l2;rw[←sut]at l2;refine⟨p,r,Cz,or,la,thL Cz or t,rfl,dp.mono (s1.trans s2),l2,oka.pok,okt.pok,r0,r1,d1,by omega,fun q H3 s3 l3=>?_⟩;exact hN _ _ ⟨_,q,rfl,g.trans (s1.trans (s2.trans s3)),l3⟩
 ·rintro σ H' ⟨o4,p,rfl,g,dp⟩;rw[xl,Ab]at dp;exact⟨_,(Z7 (Zc (pv 3))),_,rfl,hq p _ g dp⟩
def ax:Tr→List (Option (List Th))
 |.leaf ts=>[some ts]
 |.node l r=>ax l++ax r++[none]
def eJ:Option Tr→List (Option (List Th))
 |none=>[none]
 |some t=>ax t
theorem Wp:∀t:Tr,(ax t).length=t.size
 |.leaf ts=>rfl
 |.node l r=>by
  show(ax l++ax r++[none]).length=l.size+r.size+1;rw[zI,zI,Wp l,Wp r];rfl
def wtO:Option Tr→Nat
 |none=>1
 |some t=>2*t.size
abbrev wsz(tk:List (Option Tr)):Nat:=(tk.map wtO).sum
theorem N9:∀tk:List (Option Tr),tk.length≤wsz tk
 | []=>zD _
 |none::r=>by
  have:=N9 r;simp only[wsz,List.map_cons,List.sum_cons,List.length_cons,wtO]at *;omega
 |some t::r=>by
  have:=N9 r;have:=t.size_pos;simp only[wsz,List.map_cons,List.sum_cons,List.length_cons,wtO]at *;omega
def WV(H:Hp)(v:V):Option Tr→Prop
 |none=>v=.non
 |some t=>DV H v t.D
def SV(H:Hp)(v:V):Option (List Th)→Prop
 |none=>v=.non
 |some ts=>DV H v (aS ts)
theorem P1{α:Type}{R:Hp→V→α→Prop}(hm:∀{H H':Hp},Same H H'→∀{v x},R H v x→R H' v x){H H':Hp}(g:Same H H'):∀{vs:List V}{xs:List α},Paired (R H) vs xs→Paired (R H') vs xs
 |_,_,.nil=>.nil
 |_,_,.cons h r=>.cons (hm g h) (P1 hm g r)
theorem W6{α β:Type}{R:α→β→Prop}:∀{xs us:List α}{ys ws:List β},Paired R xs ys→Paired R us ws→Paired R (xs++us) (ys++ws)
 |_,_,_,_,.nil,h=>h
 |_,_,_,_,.cons a r,h=>.cons a (W6 r h)
theorem Sg{α β:Type}{R:α→β→Prop}:∀{ys:List β}{xs:List α}{y:β},Paired R xs (ys++[y])→∃xs' x,xs=xs'++[x]∧Paired R xs' ys∧R x y
 | [],_,_,.cons a .nil=>⟨[],_,rfl,.nil,a⟩
 |_::_,_,_,.cons a r=>by
  obtain⟨xs',x,e,r',h⟩:=Sg r;exact⟨_::xs',x,by rw[e];rfl,.cons a r',h⟩
theorem U4{α β:Type}{R:α→β→Prop}:∀{xs:List α}{ys:List β},Paired R xs ys→xs.length=ys.length
 |_,_,.nil=>rfl
 |_,_,.cons _ r=>AX (·+1) (U4 r)
theorem gw{α β:Type}{R:α→β→Prop}:∀{xs:List α}{ys:List β}{i:Nat}{x:α},Paired R xs ys→xs[i]?=some x→∃y,ys[i]?=some y∧R x y
 |_,_,_,_,.nil,e=>by simp at e
 |_,_,0,_,.cons a _,e=>by simp at e;subst e;exact⟨_,rfl,a⟩
 |_,_,i+1,x,.cons _ r,e=>by
  obtain⟨y,h1,h2⟩:=gw (i:=i) r (by simpa using e);exact⟨y,by simpa using h1,h2⟩
def ei:Sp:=fun vs H Q _=>∃(v:V)(t:Tr)(G:Hp),vs=[v]∧Same G H∧DV G v t.D∧t.size≤1000∧
 ∀(r:Addr)(ls:List V)(H':Hp),Same H H'→H r=none→H' r=some (.lst ls)→Paired (SV G) ls (ax t)→Q (.ref r) H'
theorem qc(am:mg "isinstance"=none)(bi:mg "list"=none)(bT:mg "len"=none)(F:Fun K "steps_in" "steps_in" c6 f fd):FnOk P w K mg base CX0 1 f fd ["tree"] ei:=by
 refine F.ok V2 (fun vs H Q E h=>?_) (fun cdv A outer s H vs Q E hr h=>?_)
 ·obtain⟨v,t,G,rfl,_⟩:=h;rfl
 obtain⟨v,t,G,rfl,gG,dv,hsz,hq⟩:=h;refine⟨_,(Z3 (Zy 1 V2.nd rfl (Or.inl rfl) (Yl Z1))
 (Z3 (Zy 2 V2.nd rfl (Or.inl rfl) (Yl (Z0 (pv 0) Z1)))
 (Z3 (iD Ao (Zi Rt (Y1 Xf rfl bT Cp (Z0 (pv 2) Z1)) Z5 (Zh _)) (Z3 (Zy 3 V2.nd rfl (Or.inl rfl) (U5 Ar Cd Ce gL (pv 2)))
 (Z7 (Y8 (PW.pt (V3 (Zi P6 (pv 3) W1 (Zh _)) (Vc (Wd (Y1 V8 rfl am AC (Z0 (pv 3) (Z0 (V5 (v:=.ty "list") rfl bi Bh rfl) Z1))))))) (Z7 (Xj (Uo Ar Bt Bu Vt (pv 1) (Z0 (pv 3) Z1)))) (Z7 (Xj (Uo Ar PySem.F.slot_list_extend PySem.F.type_list_extend Rm (pv 2) (Z0 (Yl (Z0 W1 (Z0 (Xb Xd (pv 3) Z5) (Z0 (Xb Xd (pv 3) Z5) Z1)))) Z1))))))))
 (Z7 (Zc (pv 1)))))),?_⟩
 refine⟨leN rfl,fun Fa hFa=>?_⟩;refine⟨_,rfl,leN rfl,fun Wa hWa=>?_⟩;have hne:Wa≠Fa:=fun e=>by rw[e,Z2]at hWa;cases hWa
 have hWa0:H Wa=none:=by rw[Za hne]at hWa;exact hWa
 refine⟨fun m σ H1=>∃(ws ls:List V)(tk:List (Option Tr))(dn:List (Option (List Th)))(o:Option V),σ=[some v,some (.ref Fa),some (.ref Wa),o]∧Same H H1∧H1 Wa=some (.lst ws)∧H1 Fa=some (.lst ls)∧
   Paired (WV G) ws tk∧Paired (SV G) ls dn∧dn++tk.reverse.flatMap eJ=ax t∧wsz tk+dn.length≤3000∧m=wsz tk,
  ⟨2*t.size,[v],[],[some t],[],none,rfl,(Z6 hFa _).trans (Z6 hWa _),Z2,by rw[Za (Ne.symm hne)];exact Z2,.cons dv .nil,.nil,by simp[eJ],by simp[wsz,wtO];omega,by simp[wsz,wtO]⟩,?_⟩
 rintro m σ H1 ⟨ws,ls,tk,dn,o,rfl,g1,eW,eF,dW,dF,hsum,CS,rfl⟩;have dl:=U4 dW;refine⟨_,rfl,Wa,ws,rfl,.inl (SqL.of eW),_,_,rfl,rfl,_,rfl,?_⟩;refine Xh (fun c=>?_) (fun c=>?_)
 ·have c:(0:Int)<(ws.length:Int):=zO c;obtain⟨tk',t1,rfl⟩:∃tk' t1,tk=tk'++[t1]:=by
   have:tk≠[]:=fun e=>by rw[e,AO]at dl;omega
   exact⟨tk.dropLast,tk.getLast this,(List.dropLast_concat_getLast this).symm⟩
  refine⟨fun σ' H'=>∃m',m'<wsz (tk'++[t1])∧_,fun _ _ h=>h,?_⟩;obtain⟨ws',y,rfl,dW',dy⟩:=Sg dW;refine⟨_,rfl,.inl ⟨rfl,_,SqL.of eW⟩,Wa,_,y,rfl,rfl,eW,by simp,?_⟩;rw[List.dropLast_concat];have g4:Same H (upd H1 Wa (.lst ws')):=X9 g1 hWa0;have eW4:upd H1 Wa (.lst ws') Wa=some (.lst ws'):=Z2;have eF4:upd H1 Wa (.lst ws') Fa=some (.lst ls):=by rw[Za (Ne.symm hne)];exact eF
  revert g4 eW4 eF4;generalize upd H1 Wa (.lst ws')=H4;intro g4 eW4 eF4;have hts:wsz (tk'++[t1])=wsz tk'+wtO t1:=by simp[wsz]
  rw[hts]at CS;have tl:=N9 tk';have dl:=U4 dW';have dl2:=U4 dF;cases t1 with
  |none=>
   cases (show y=V.non from dy);have hlen2:wsz tk'+1+dn.length≤3000:=CS;refine⟨_,rfl,rfl,_,rfl,U9 (U9 ?_)⟩;refine⟨_,rfl,.inl ⟨rfl,_,SqL.of eF4⟩,_,rfl,Fa,ls,_,rfl,rfl,eF4,Zj (by omega),?_⟩;refine⟨wsz tk',by rw[hts];show wsz tk'<wsz tk'+1;omega,ws',ls++[.non],tk',dn++[none],_,rfl,X9 g4 hFa,by rw[Za hne];exact eW4,Z2,dW',W6 dF (.cons (show SV G .non none from rfl) .nil),?_,by rw[zI];show wsz tk'+(dn.length+1)≤3000;omega,rfl⟩;rw[←hsum];simp[eJ]
  |some t1=>
  have hpos:=t1.size_pos;have dy:DV G y t1.D:=dy;cases t1 with
  |leaf ts=>
   obtain⟨b,xs,rfl,eb,qb⟩:=DV.list_inv dy;have hlen2:wsz tk'+2*1+dn.length≤3000:=CS;refine⟨_,rfl,rfl,_,rfl,Xg ?_⟩;refine⟨_,rfl,_,_,"list",_,rfl,TyOf.lst (g4 _ _ (gG _ _ eb)),kJ,_,rfl,U9 ?_⟩;refine⟨_,rfl,.inl ⟨rfl,_,SqL.of eF4⟩,_,rfl,Fa,ls,_,rfl,rfl,eF4,Zj (by omega),?_⟩;refine⟨wsz tk',by rw[hts];show wsz tk'<wsz tk'+2*1;omega,ws',ls++[.ref b],tk',dn++[some ts],_,rfl,X9 g4 hFa,by rw[Za hne];exact eW4,Z2,dW',W6 dF (.cons (show SV G (.ref b) (some ts)from dy) .nil),?_,by rw[zI];show wsz tk'+(dn.length+1)≤3000;omega,rfl⟩;rw[←hsum];simp[eJ,ax]
  |node l r=>
   obtain⟨b,mm,x,y,rfl,eb,dx,dy2⟩:=DV.node_inv dy;have eb4:=g4 _ _ (gG _ _ eb);have hlen2:wsz tk'+2*(l.size+r.size+1)+dn.length≤3000:=CS;refine⟨_,rfl,rfl,_,rfl,Xg ?_⟩;refine⟨_,rfl,_,_,"list",_,rfl,TyOf.tup eb4,xD,_,rfl,Xg ?_⟩;refine⟨_,rfl,.inl ⟨rfl,_,SqL.of eW4⟩,_,rfl,b,_,2,_,rfl,rfl,SqT.of eb4,k_ _ _ _,_,rfl,b,_,1,_,rfl,rfl,SqT.of eb4,vf _ _ _,leN rfl,fun q nq=>?_⟩;have g5:=g4.trans (Z6 nq (.lst [.non,y,x]));have eW5:upd H4 q (.lst [.non,y,x]) Wa=some (.lst ws'):=by rw[Za (Zd eW4 nq)];exact eW4
   have eF5:upd H4 q (.lst [.non,y,x]) Fa=some (.lst ls):=by rw[Za (Zd eF4 nq)];exact eF4
   have eq5:upd H4 q (.lst [.non,y,x]) q=some (.lst [.non,y,x]):=Z2;refine⟨Wa,q,ws',[.non,y,x],rfl,rfl,eW5,eq5,Zl (by show ws'.length+3≤_;omega),?_⟩;have nw:wsz (tk'++[none,some r,some l])=wsz tk'+(1+2*r.size+2*l.size):=by simp[wsz,wtO];omega
   refine⟨wsz (tk'++[none,some r,some l]),?_,ws'++[.non,y,x],ls,tk'++[none,some r,some l],dn,_,rfl,X9 g5 hWa0,Z2,by rw[Za (Ne.symm hne)];exact eF5,?_,dF,?_,?_,rfl⟩
   ·rw[hts,nw];show _<wsz tk'+2*(l.size+r.size+1);omega
   ·exact W6 dW' (.cons (show WV G .non none from rfl) (.cons (show WV G y (some r)from dy2) (.cons (show WV G x (some l)from dx) .nil)))
   ·rw[←hsum];simp[eJ,ax]
   ·rw[nw];omega
 ·have c:¬((0:Int)<(ws.length:Int)):=AJ (AG.mpr c);have e:tk=[]:=List.eq_nil_of_length_eq_zero (by omega);subst e;refine⟨_,rfl,?_⟩;have e:dn=ax t:=by simpa using hsum
  subst e;exact hq Fa ls _ g1 hFa eF dF
section
variable{α:Type}
def evT(fs:List Th→α)(fm:α→α→α):Tr→α
 |.leaf ts=>fs ts
 |.node l r=>fm (evT fs fm l) (evT fs fm r)
def nY(fs:List Th→α)(fm:α→α→α):List (Option (List Th))→List α→Option (List α)
 | [],st=>some st
 |some ts::r,st=>nY fs fm r (fs ts::st)
 |none::r,y::x::st=>nY fs fm r (fm x y::st)
 |none::_,_=>none
theorem Rn(fs:List Th→α)(fm:α→α→α):∀(t:Tr)(r:List (Option (List Th)))(st:List α),nY fs fm (ax t++r) st=nY fs fm r (evT fs fm t::st)
 |.leaf ts,r,st=>rfl
 |.node a b,r,st=>by
  show nY fs fm (ax a++ax b++[none]++r) st=_;rw[Ag,Ag,Rn fs fm a,Rn fs fm b];rfl
def wgt(ss:List (Option (List Th))):Nat:=(ss.map fun o=>match o with
 |some ts=>ts.length
 |none=>0).sum
theorem rP(o:Option (List Th))(ss:List (Option (List Th))):wgt (o::ss)=(match o with
 |some ts=>ts.length
 |none=>0)+wgt ss:=by
 unfold wgt;rw[zH,Ac]
theorem S3:∀t:Tr,wgt (ax t)=t.all.length
 |.leaf ts=>by show ts.length+0=ts.length;omega
 |.node a b=>by
  have h:∀xs ys,wgt (xs++ys)=wgt xs+wgt ys:=fun xs ys=>by unfold wgt;rw[zW,Bj]
  show wgt (ax a++ax b++[none])=(a.all++b.all).length;rw[h,h,S3 a,S3 b,zI];rfl
def isFs(P:Program)(w:World)(K:W.Frag)(mg:Str→Option Value)(base:Heap)(k:Nat)(Rep:Hp→V→α→Prop)(fs:List Th→α)(Hh:Hp)(f:Addr)(OkS:List Th→Prop):Prop:=∃(fd:FuncData)(ps:List Str)(sp:Sp),FnOk P w K mg base CX0 k f fd ps sp∧Binds K fd ps []∧Cal base f∧
 ∀(H:Hp)(v:V)(ts:List Th)(Q:VK)(a:Addr)(ys:List V),Same Hh H→H a=some (.lst ys)→DV H v (aS ts)→OkS ts→(∀(p:V)(H':Hp),Same H H'→Rep (ao a H') p (fs ts)→Q p H')→sp [v] H Q E0
def isFm(P:Program)(w:World)(K:W.Frag)(mg:Str→Option Value)(base:Heap)(k:Nat)(Rep:Hp→V→α→Prop)(fm:α→α→α)(Hh:Hp)(f:Addr)(I:α→Prop)(wt:α→Nat)(NN:Nat):Prop:=∃(fd:FuncData)(ps:List Str)(sp:Sp),FnOk P w K mg base CX0 k f fd ps sp∧Binds K fd ps []∧Cal base f∧
 ∀(H:Hp)(u v:V)(x y:α)(Q:VK)(a:Addr)(ys:List V),Same Hh H→H a=some (.lst ys)→Rep (ao a H) u x→Rep (ao a H) v y→I x→I y→wt x+wt y≤NN→(∀(p:V)(H':Hp),Same H H'→Rep (ao a H') p (fm x y)→Q p H')→sp [u,v] H Q E0
def eu(P:Program)(w:World)(K:W.Frag)(mg:Str→Option Value)(k:Nat)(base:Heap):Sp:=fun vs H Q _=>∃(α:Type)(Rep:Hp→V→α→Prop)(fs:List Th→α)(fm:α→α→α)(I:α→Prop)(wt:α→Nat)(NN:Nat)(OkS:List Th→Prop)(v:V)(f1 f2:Addr)(t:Tr),
 vs=[v,.ref f1,.ref f2]∧DV H v t.D∧t.size≤1000∧(∀s∈t.streams,OkS s)∧isFs P w K mg base k Rep fs H f1 OkS∧isFm P w K mg base k Rep fm H f2 I wt NN∧(∀ts,OkS ts→I (fs ts)∧wt (fs ts)=ts.length)∧(∀x y,I x→I y→wt x+wt y≤NN→I (fm x y)∧wt (fm x y)=wt x+wt y)∧wgt (ax t)≤NN∧
 (∀{H H':Hp},Same H H'→∀{v x},Rep H v x→Rep H' v x)∧∀(p:V)(H':Hp),Same H H'→Rep H' p (evT fs fm t)→Q p H'
end
theorem Va:∀(t:Tr)(ts:List Th),some ts∈ax t→ts∈t.streams
 |.leaf s,ts,h=>by
  have:=zG.mp h;cases this;exact .head _
 |.node a b,ts,h=>by
  show ts∈a.streams++b.streams
  rcases zT.mp (show some ts∈ax a++ax b++[none]from h)with h | h
  ·rcases zT.mp h with h | h
   ·exact Ai _ (Va a ts h)
   ·exact zR _ (Va b ts h)
  ·exact nomatch zG.mp h
theorem S0{p:Addr}{H0 H1 H2:Hp}(n:H0 p=none)(s:Same H0 H1)(g:Grw p H1 H2):Same H0 H2:=fun b u e=>(Zf (g b u (by rw[Zg (Zd e n)];exact s b u e))).2
theorem sZ{a:Addr}{H:Hp}{o:HO}:Same (ao a H) (upd H a o):=fun b u q=>by
 obtain⟨h1,h2⟩:=Zf q;rw[Za h1];exact h2
theorem qL{k:Nat}(hk:1≤k)(cY:Has P w K mg base "steps_in" 1 ["tree"] ei)(F:Fun K "grown" "grown" gr f fd):FnOk P w K mg base CX0 (k+1) f fd ["tree","of_stream","of_two"] (eu P w K mg k base):=by
 refine F.ok Uj (fun vs H Q E h=>?_) (fun cdv A outer s H vs Q E hr h=>?_)
 ·obtain⟨_,_,_,_,_,_,_,_,v,f1,f2,t,rfl,_⟩:=h;rfl
 obtain⟨α,Rep,fs,fm,I,wt,NN,OkS,v,f1,f2,t,rfl,dv,hsz,hok,⟨fd1,ps1,sp1,F1,B1,C1,u1⟩,⟨fd2,ps2,sp2,F2,B2,C2,u2⟩,I1,I2,wN,mono,hq⟩:=h;refine⟨_,(Z3 (Zy 3 Uj.nd rfl (Or.inl rfl) (Yl Z1))
 (Z3 (X8 Ao rfl (Yw (Z4 cY hr (Z0 (pv 0) Z1))) (Z9 (i:=4) Uj.nd rfl (Or.inl rfl))
 (Z7 (Y8 (Zi P6 (pv 4) W1 (Zh _)) (Z3 (Zy 5 Uj.nd rfl (Or.inl rfl) (U5 Ar Cd Ce gL (pv 3)))
 (Z3 (Zy 6 Uj.nd rfl (Or.inl rfl) (U5 Ar Cd Ce gL (pv 3)))
 (Z7 (Xj (Uo Ar Bt Bu Vt (pv 3) (Z0 (ie (i:=2) hr (Z0 (pv 6) (Z0 (pv 5) Z1))) Z1)))))) (Z7 (Xj (Uo Ar Bt Bu Vt (pv 3) (Z0 (ie (i:=1) hr (Z0 (pv 4) Z1)) Z1)))))))
 (Z7 (Zc (U5 Ar Cd Ce gL (pv 3)))))),?_⟩
 refine⟨leN rfl,fun kp nkp=>?_⟩;refine⟨_,rfl,v,t,H,rfl,Z6 nkp _,dv,hsz,fun r ls H2 s2 nr er pr=>?_⟩;have ekp:H2 kp=some (.lst []):=s2 _ _ Z2;have sH:Same H H2:=(Z6 nkp _).trans s2;have krne:r≠kp:=fun z=>by rw[z,Z2]at nr;cases nr
 have lsl:=U4 pr;rw[Wp]at lsl;refine⟨r,rfl,⟨_,SqL.of er⟩,?_⟩;refine Pq (xs:=ls) (fun i σ H'=>∃(o4 o5 o6:Option V)(vs:List V)(st:List α),σ=[some v,some (.ref f1),some (.ref f2),some (.ref kp),o4,o5,o6]∧Grw kp H2 H'∧H' kp=some (.lst vs)∧Paired (Rep (ao kp H')) vs st.reverse∧(∀x∈st,I x)∧(st.map wt).sum+wgt ((ax t).drop i)≤NN∧st.length≤i∧nY fs fm ((ax t).drop i) st=some [evT fs fm t])
  ⟨_,_,_,[],[],rfl,Same.refl _,ekp,.nil,(fun _ h=>nomatch h),by show 0+wgt (ax t)≤NN;omega,zD _,?_⟩ ?_ ?_ ?_
 ·have:=Rn fs fm t [] [];rw[Aw]at this;exact this
 ·rintro i σ H' _ ⟨_,_,_,_,_,_,g,_⟩;exact SqL.of (Zf (g _ _ (by rw[Zg krne];exact er))).2
 ·rintro i x σ H' hx ⟨o4,o5,o6,vs,st,rfl,g,ek,pst,ist,wst,stl,hm⟩;obtain⟨o,ho,sv⟩:=gw pr hx;have hd:(ax t).drop i=o::(ax t).drop (i+1):=by
   have CI:=(zM.mp ho).1;rw[List.drop_eq_getElem_cons CI]
   congr 1
   exact(zM.mp ho).2
  rw[hd]at hm wst;rw[rP]at wst;have ilt:i<ls.length:=(zM.mp hx).1;have vl:=U4 pst;rw[List.length_reverse]at vl;cases o with
  |none=>
   cases (show x=V.non from sv);refine⟨_,rfl,rfl,_,rfl,U9 ?_⟩
   match st,hm,ist,wst,stl,pst,vl with
   |y::x::CP,hm,ist,wst,stl,pst,vl=>
   have wst:wt y+(wt x+(CP.map wt).sum)+(0+wgt ((ax t).drop (i+1)))≤NN:=wst;have wxy:wt x+wt y≤NN:=by omega
   have e:(y::x::CP).reverse=CP.reverse++[x]++[y]:=by simp
   rw[e]at pst;obtain⟨vs1,b,rfl,pst1,rb⟩:=Sg pst;obtain⟨vs2,a,rfl,pst2,ra⟩:=Sg pst1;refine⟨_,rfl,.inl ⟨rfl,_,SqL.of ek⟩,kp,_,b,rfl,rfl,ek,by simp,?_⟩;rw[List.dropLast_concat];refine⟨_,rfl,.inl ⟨rfl,_,SqL.of Z2⟩,kp,_,a,rfl,rfl,Z2,by simp,?_⟩;rw[List.dropLast_concat,kZ];have gc:Grw kp H' (upd H' kp (.lst vs2)):=X3;have ec:upd H' kp (.lst vs2) kp=some (.lst vs2):=Z2;generalize upd H' kp (.lst vs2)=Hc at gc ec⊢;have sc:Same H Hc:=S0 nkp sH (g.trans gc);refine⟨_,rfl,.inl ⟨rfl,_,SqL.of ec⟩,f2,fd2,ps2,sp2,rfl,F2,B2,C2,_,rfl,_,rfl,?_⟩;refine u2 Hc a b x y _ kp vs2 sc ec (mono gc ra) (mono gc rb) (ist x (.tail _ (.head _))) (ist y (.head _)) wxy fun p H3 s3 rp=>?_;have ek3:=s3 _ _ ec;have g3:Grw kp Hc H3:=Us ec s3;refine⟨kp,vs2,p,rfl,rfl,ek3,Zj (by rw[List.length_append,List.length_append]at vl;simp at vl;simp at stl;omega),?_⟩;refine⟨_,_,_,vs2++[p],fm x y::CP,rfl,g.trans (gc.trans (g3.trans X3)),Z2,?_,fun z hz=>?_,by show wt (fm x y)+(CP.map wt).sum+wgt ((ax t).drop (i+1))≤NN;rw[(I2 _ _ (ist x (.tail _ (.head _))) (ist y (.head _)) wxy).2];omega,by simp at stl⊢;omega,hm⟩
   ·rw[List.reverse_cons];refine W6 (P1 (R:=Rep) mono (gc.trans (g3.trans X3)) pst2) (.cons ?_ .nil);exact mono X3 rp
   ·rcases zZ.mp hz with rfl | hz
    ·exact(I2 _ _ (ist x (.tail _ (.head _))) (ist y (.head _)) wxy).1
    ·exact ist z (.tail _ (.tail _ hz))
  |some ts=>
   have sv:DV H x (aS ts):=sv;obtain⟨b,xs,rfl,eb,qb⟩:=DV.list_inv sv;refine⟨_,rfl,rfl,_,rfl,Xg ?_⟩;have oks:=hok ts (Va t ts (z7 ho));have sc:Same H H':=S0 nkp sH g;have dvx:DV H' (.ref b) (aS ts):=sv.mono sc;refine⟨_,rfl,.inl ⟨rfl,_,SqL.of ek⟩,f1,fd1,ps1,sp1,rfl,F1,B1,C1,_,rfl,?_⟩;refine u1 H' (.ref b) ts _ kp vs sc ek dvx oks fun p H3 s3 rp=>?_;have ek3:=s3 _ _ ek;have g3:Grw kp H' H3:=Us ek s3;refine⟨kp,vs,p,rfl,rfl,ek3,Zj (by omega),?_⟩;refine⟨_,_,_,vs++[p],fs ts::st,rfl,g.trans (g3.trans X3),Z2,?_,fun z hz=>?_,by show wt (fs ts)+(st.map wt).sum+wgt ((ax t).drop (i+1))≤NN;rw[(I1 _ oks).2];have wst:(st.map wt).sum+(ts.length+wgt ((ax t).drop (i+1)))≤NN:=wst;omega,by simp;omega,hm⟩
   ·rw[List.reverse_cons];refine W6 (P1 (R:=Rep) mono (g3.trans X3) pst) (.cons ?_ .nil);exact mono X3 rp
   ·rcases zZ.mp hz with rfl | hz
    ·exact(I1 _ oks).1
    ·exact ist z hz
 ·rintro σ H' ⟨o4,o5,o6,vs,st,rfl,g,ek,pst,ist,wst,stl,hm⟩;rw[lsl,←Wp,List.drop_length]at hm;have hst:st=[evT fs fm t]:=Aa hm;subst hst
  match vs,pst with
  | [p],.cons rp .nil=>
  refine⟨_,rfl,.inl ⟨rfl,_,SqL.of ek⟩,kp,_,p,rfl,rfl,ek,rfl,?_⟩;exact hq p _ (X9 (S0 nkp sH g) nkp) (mono sZ rp)
def lamE(st:Stmt):Expr:=match aA st with
 | [.Return (some (.Call _ (_::e::_) _ _)) _]=>e
 |_=>.Constant .none 0 ⟨0,0,0,0⟩
def dD(e:Expr):Pos:=match e with
 |.Lambda _ _ _ p=>p
 |_=>⟨0,0,0,0⟩
def bD(e:Expr):Scope:=match e with
 |.Lambda _ _ sc _=>sc
 |_=>{kind:=.function,names:=[],isGenerator:=false,isCoroutine:=false}
abbrev cr:Expr:=lamE ai
abbrev qGT:Str:=("grown_ladder":Str)++".<locals>."++"<lambda>"
theorem scL:LamScope ["stream"] ["room","deep"] (bD cr):=⟨rfl,rfl,rfl,by decide +kernel,by decide +kernel,fun x h=>by
  have:∀y∈(bD cr).names,y.2=.free→y.1="room"∨y.1="deep":=by decide +kernel
  rcases this (x,.free) (Af h) rfl with e | e
  ·have e:x="room":=e;rw[e];exact .head _
  ·have e:x="deep":=e;rw[e];exact .tail _ (.head _),by decide +kernel,by decide +kernel⟩
mutual
theorem V7{H:Hp}{a:Addr}(n1:∀xs,H a≠some (.lst xs))(n2:∀xs,H a≠some (.tup xs)):∀{v:V}{d:PyData},DV H v d→DV (ao a H) v d
 |_,_,.non=>.non
 |_,_,.bl b=>.bl b
 |_,_,.int i=>.int i
 |_,_,.str x=>.str x
 |_,_,.lst e r=>.lst (by rw[Zg (fun z=>n1 _ (z ▸ e))];exact e) (Px n1 n2 r)
 |_,_,.tup e r=>.tup (by rw[Zg (fun z=>n2 _ (z ▸ e))];exact e) (Px n1 n2 r)
theorem Px{H:Hp}{a:Addr}(n1:∀xs,H a≠some (.lst xs))(n2:∀xs,H a≠some (.tup xs)):∀{vs:List V}{ds:List PyData},DVs H vs ds→DVs (ao a H) vs ds
 |_,_,.nil=>.nil
 |_,_,.cons h r=>.cons (V7 n1 n2 h) (Px n1 n2 r)
end
theorem Ro{H:Hp}{a:Addr}{xs:List V}(e:H a=some (.lst xs)){q:Addr}{Cz or total:Int}{ps:Sps}(h:LadAt H q Cz or total ps):LadAt (ao a H) q Cz or total ps:=by
 have tp:∀{b:Addr}{ys:List V},H b=some (.tup ys)→ao a H b=some (.tup ys):=fun{b ys} h=>by
  rw[Zg (fun z=>by rw[z,e]at h;cases h)];exact h
 obtain⟨c,as,e1,e2,r⟩:=h.at_;exact⟨c,as,tp e1,tp e2,Paired.mapP r fun _ _ ⟨y,f1,f2⟩=>⟨y,tp f1,tp f2⟩⟩
def glT(Cz or:Int)(t:Tr):Sps:=evT (cf Cz or) (aO Cz or) t
def fsL(Cz or:Int)(ts:List Th):Sps×Nat:=(cf Cz or ts,ts.length)
def fmL(Cz or:Int)(x y:Sps×Nat):Sps×Nat:=(aO Cz or x.1 y.1,x.2+y.2)
theorem kE(Cz or:Int):∀t:Tr,(evT (fsL Cz or) (fmL Cz or) t).1=glT Cz or t
 |.leaf ts=>rfl
 |.node a b=>by
  show aO Cz or (evT (fsL Cz or) (fmL Cz or) a).1 (evT (fsL Cz or) (fmL Cz or) b).1=aO Cz or (glT Cz or a) (glT Cz or b);rw[kE Cz or a,kE Cz or b]
def RepL(Cz or:Int)(H:Hp)(v:V)(x:Sps×Nat):Prop:=∃p:Addr,v=.ref p∧LadAt H p Cz or (ag x.1) x.1
def xM(T:Addr):Sp:=fun vs H Q _=>∃(v:V)(Cz or:Int)(t:Tr),vs=[.int Cz,.int or,v]∧1≤Cz∧Cz≤20∧0≤or∧or≤20∧DV H v t.D∧t.size≤1000∧(∀s∈t.streams,∀x∈s,ThL or x)∧t.all.length≤62∧LamAt T (dD cr) qGT H∧
 ∀(p:Addr) H',Same (ao T H) (ao T H')→LamAt T (dD cr) qGT H'→LadAt H' p Cz or (ag (glT Cz or t)) (glT Cz or t)→Q (.ref p) H'
def wY(c:Addr)(Cz or:Int):Sp:=fun vs H Q _=>∃(v:V)(ts:List Th),vs=[v]∧H c=some (crO qGT c)∧DV H v (aS ts)∧(∀t∈ts,ThL or t)∧ts.length≤62∧∀(p:Addr) H',Same H H'→LadAt H' p Cz or (ag (cf Cz or ts)) (cf Cz or ts)→Q (.ref p) H'
theorem Qk:∀(t:Tr)(s:List Th),s∈t.streams→s.length≤t.all.length
 |.leaf ts,s,h=>by rw[zG.mp h];exact zD _
 |.node a b,s,h=>by
  show s.length≤(a.all++b.all).length;rw[zI]
  rcases zT.mp h with h | h
  ·have:=Qk a s h;omega
  ·have:=Qk b s h;omega
theorem yr{c T f2:Addr}{oc:Value}{od an:Option Addr}{osl:Array (Option Value)}{kV doc pm ct:Value}{fd2:FuncData}(lk:K.lookup f=some ⟨oc,od,.func (W.fnOf "grown_ladder" "grown_ladder" (aB ai) (aA ai) (aa ai) .none kV doc pm an (.ref c) ct),osl⟩)(hcd:W.codeIn K (.ref c) "grown_ladder"=true)(C:W.CodeHd base c T)(hgP:mainGlobals≠T)(hB:base.BuiltinsAt mg T)(hb_grown:HasB P w K mg "grown" 9 ["tree","of_stream","of_two"] (eu P w K mg 8))(hT:∀base:Heap,K.In base→base.Ns mainGlobals mg→Has P w K mg base "ladder_of" 7 ["room","deep","stream"] wg)(hM:∀base:Heap,K.In base→base.Ns mainGlobals mg→Has P w K mg base "merged_ladder" 6 ["one","other"] p9)(m2:mg "merged_ladder"=some (.ref f2))(F2:Fun K "merged_ladder" "merged_ladder" a_ f2 fd2):
  FnOk P w K mg base CX0 10 f (W.fnOf "grown_ladder" "grown_ladder" (aB ai) (aA ai) (aa ai) .none kV doc pm an (.ref c) ct) ["room","deep","tree"] (xM T):=by
 refine rK (k:=9) lk hcd Q0 (fun vs H Q E h=>?_) (fun A outer s H vs Q E hr h=>?_)
 ·obtain⟨v,Cz,or,t,rfl,_⟩:=h;rfl
 obtain⟨v,Cz,or,t,rfl,r0,r1,d0,d1,dv,hsz,tw,tal,lam,hq⟩:=h;have xk:∃u,mg "merged_ladder"=some u∧RelV (.ref f2) u:=⟨_,m2,rfl⟩;have hf:∀x∈(bD cr).names,x.2=.free→∃c',(PyProof.Rows.envOfC "grown_ladder" (aa ai) s.heap.objs.size f (.ref c)).cells.lookup x.1=some c':=fun x hx hk=>by
  have:∀y∈(bD cr).names,y.2=.free→(aa ai).names.lookup y.1=some .cell:=by decide +kernel
  exact R3 (this x hx hk)
 refine⟨_,Z7 (Zc (jp hb_grown (fun _=>rfl) rfl rfl hr (Z0 (pv 2) (Z0 (p_ (c:=c) (T:=T) (sc:=bD cr) rfl C hgP hB hf) (Z0 (im rfl xk) Z1))))),?_⟩;refine⟨_,rfl,lam,fun a c' pm2 ctv H1 g1 na nac eT ec ea=>?_⟩;have tT:H T≠none:=by
  rcases lam.tab with e | ⟨_,e,_⟩ <;> (rw[e];exact fun z=>nomatch z)
 have nT1:∀xs,H T≠some (.lst xs):=by
  rcases lam.tab with e | ⟨_,e,_⟩ <;> (rw[e];exact fun _ z=>nomatch z)
 have nT2:∀xs,H T≠some (.tup xs):=by
  rcases lam.tab with e | ⟨_,e,_⟩ <;> (rw[e];exact fun _ z=>nomatch z)
 have aT:a≠T:=fun z=>tT (z ▸ na);have dv1:DV H1 v t.D:=((V7 nT1 nT2 dv).mono g1).mono Yi;have dva:DV (ao a H1) v t.D:=V7 (by rw[ea];exact fun _ z=>nomatch z) (by rw[ea];exact fun _ z=>nomatch z) dv1;refine⟨a,_,ea,fun B wid=>?_⟩;have wfn:=wid.fn;have ec2:ao a H1 c'=some (crO qGT c'):=by rw[Zg (Ne.symm nac)];exact ec
 have cls:∀x d,(aI (PyProof.Rows.envOfC "grown_ladder" (aa ai) s.heap.objs.size f (.ref c)) (bD cr).names).lookup x=some d→(PyProof.Rows.envOfC "grown_ladder" (aa ai) s.heap.objs.size f (.ref c)).cells.lookup x=some d:=fun x d e=>Tb _ [] hf (fun _ h=>nomatch h) (x,d) (Af e);refine⟨Sps×Nat,RepL Cz or,fsL Cz or,fmL Cz or,fun x=>Pok or x.1∧x.1.length≤x.2,fun x=>x.2,62,fun ts=>(∀x∈ts,ThL or x)∧ts.length≤62,v,a,f2,t,rfl,dva,hsz,fun s hs=>⟨tw s hs,At (Qk t s hs) tal⟩,?_,?_,fun ts h=>?_,fun x y h1 h2 h3=>?_,by rw[S3];exact tal,?_,?_⟩
 ·refine⟨_,["stream"],wY c' Cz or,p7 (k:=7) (us:=[.int Cz,.int or]) (fr:=["room","deep"]) wfn scL rfl ?_ (fun x y d e1 e2=>wid.inj x y d (cls x d e1) (cls y d e2)) (fun x d e=>wid.cells x d (cls x d e)) (fun vs H Q E h=>?_) (fun vs H Q E h=>?_) (fun A outer s H vs Q E hr h=>?_),?_,⟨_,_,_,_,wfn⟩,?_⟩
  ·intro i x u h1 h2
   match i,h1,h2 with
   | 0,h1,h2=>
    cases h1;cases h2;obtain⟨c2,u2,e1,e2,rv⟩:=wid.cell 0 "room" (.int Cz) rfl rfl rfl;obtain⟨c3,hc3⟩:=Wu (bD cr).names [] (env:=PyProof.Rows.envOfC "grown_ladder" (aa ai) s.heap.objs.size f (.ref c)) "room" (Af (scL.fre "room" (.head _)));obtain⟨c4,hc4⟩:=X7 hc3;have e3:=cls _ _ hc4;have e4:c4=c2:=Aa (e3.symm.trans e1);subst e4;exact⟨c4,u2,hc4,e2,rv⟩
   | 1,h1,h2=>
    cases h1;cases h2;obtain⟨c2,u2,e1,e2,rv⟩:=wid.cell 1 "deep" (.int or) rfl rfl rfl;obtain⟨c3,hc3⟩:=Wu (bD cr).names [] (env:=PyProof.Rows.envOfC "grown_ladder" (aa ai) s.heap.objs.size f (.ref c)) "deep" (Af (scL.fre "deep" (.tail _ (.head _))));obtain⟨c4,hc4⟩:=X7 hc3;have e3:=cls _ _ hc4;have e4:c4=c2:=Aa (e3.symm.trans e1);subst e4;exact⟨c4,u2,hc4,e2,rv⟩
  ·obtain⟨_,_,_,e,_⟩:=h;exact e
  ·obtain⟨_,_,rfl,_⟩:=h;rfl
  ·obtain⟨u,ts,rfl,e,d,ok,tl,hq2⟩:=h;have iz:=hT B wid.kin wid.glb;refine⟨_,Z4 iz hr (Z0 (pv 1) (Z0 (pv 2) (Z0 (pv 0) Z1))),?_⟩;exact⟨_,rfl,_,rfl,_,rfl,u,Cz,or,ts,rfl,d,ok,r0,r1,d0,d1,by omega,hq2⟩
  ·exact .all fun us hl=>match us,hl with | [_],_=>rfl
  ·exact fun H u ts Q b ys s eb d ok hq2=>⟨u,ts,rfl,s _ _ ec2,d,ok.1,ok.2,fun p H' s' d'=>hq2 (.ref p) H' s' ⟨p,rfl,Ro (s' _ _ eb) d'⟩⟩
 ·obtain⟨f',fd',FM,bM,kM,mM⟩:=(hM B wid.kin wid.glb).ex;have e:f'=f2:=by
   rw[m2]at mM;cases mM;rfl
  subst e;obtain⟨oc2,od2,kV2,doc2,pm3,an2,cdv2,ct2,osl2,_,lk2,_⟩:=F2.ex;refine⟨fd',["one","other"],p9,FM.mono (by decide),bM,⟨_,_,_,_,wid.kin _ _ lk2⟩,?_⟩;rintro H u u' x y Q b ys s eb ⟨p,rfl,d⟩ ⟨q,rfl,d2⟩ ix iy wxy hq2;have a1:x.1.length≤x.2:=ix.2;have a2:y.1.length≤y.2:=iy.2;have wxy:x.2+y.2≤62:=wxy;exact⟨p,q,Cz,or,x.1,y.1,rfl,d.mono Yi,d2.mono Yi,ix.1,iy.1,r0,r1,d1,by omega,fun p' H' s' d'=>hq2 (.ref p') H' s' ⟨p',rfl,Ro (s' _ _ eb) d'⟩⟩
 ·obtain⟨o,_,l⟩:=Qd (Cz:=Cz) d0 h.1;exact⟨⟨o.pok,l⟩,rfl⟩
 ·obtain⟨o,_,l⟩:=U6 (Cz:=Cz) h1.1 h2.1;have a1:x.1.length≤x.2:=h1.2;have a2:y.1.length≤y.2:=h2.2;exact⟨⟨o.pok,by show(aO Cz or x.1 y.1).length≤x.2+y.2;omega⟩,rfl⟩
 ·rintro H H' g v x ⟨p,rfl,d⟩;exact⟨p,rfl,d.mono g⟩
 ·rintro p H' g ⟨p,rfl,d⟩;rw[kE]at d;refine hq p H' ?_ ?_ d
  ·intro b u e;obtain⟨b1,b2⟩:=Zf e;have:=g1 b u e;obtain⟨_,e3⟩:=Zf this;rw[Zg b1];exact g b u (by rw[Zg (Zd b2 na)];exact e3)
  ·exact⟨.inr ⟨c',g _ _ (by rw[Zg (Ne.symm aT)];exact eT),g _ _ ec2⟩⟩
def wS(g:Int×Int→Int)(ps:Sps):Int:=(ps.map fun p=>p.2*g p.1).sum
theorem Q7{g:Int×Int→Int}{ps qs:Sps}(h:ps.Perm qs):wS g ps=wS g qs:=iR (h.map _)
theorem Q8{g:Int×Int→Int}{k:Int×Int}{ps:Sps}:(ps.map (·.1)).Nodup→wS g (aW ps k)=wS g ps-cnt ps k*g k:=by
 induction ps with
 |nil=>
  intro _;show(0:Int)=0-cnt [] k*g k;rw[show cnt [] k=0 from rfl,Int.zero_mul];rfl
 |cons p ps ih=>
  intro nd;rw[zH,Ae]at nd;have ih:=ih nd.2;unfold wS aW at ih⊢;by_cases e:p.1=k
  ·have o:cnt ps k=0:=Y3 (by rw[←e];exact nd.1);have c:cnt (p::ps) k=p.2:=by unfold cnt;rw[X2,zE e]
   rw[List.filter_cons,if_neg (by simpa using e),ih,o,c,List.map_cons,List.sum_cons,e,Int.zero_mul];omega
  ·have c:cnt (p::ps) k=cnt ps k:=by unfold cnt;rw[X2,pi e]
   rw[AA,zE (zP e),zH,Ac,ih,c,zH,Ac];omega
theorem Ql{g:Int×Int→Int}{ps:Sps}{k:Int×Int}{n:Int}(nd:(ps.map (·.1)).Nodup):wS g (au ps k n)=wS g ps-cnt ps k*g k+n*g k:=by
 have h:(au ps k n).Perm ((k,n)::aW ps k):=by
  have hk:k∉(aW ps k).map (·.1):=by
   rw[T9];intro z;have:=(Aj.mp z).2;simp at this
  refine Re (Ye nd) (by rw[zH];exact Ae.mpr ⟨hk,Sz nd⟩) fun j=>?_;rw[Xc,X2,Vu];by_cases e:j=k
  ·rw[zE e,zE e.symm]
  ·rw[pi e,pi (Ne.symm e),pi e]
 rw[Q7 h];have:=Q8 (g:=g) (k:=k) nd;unfold wS at this⊢;rw[zH,Ac,this];show n*g k+_=_;omega
theorem vA{ps:Sps}(nd:(ps.map (·.1)).Nodup)(pos:∀p∈ps,0≤p.2)(k:Int×Int):0≤cnt ps k:=by
 by_cases h:k∈ps.map (·.1)
 ·obtain⟨p,hp,rfl⟩:=zF.mp h;rw[Yu nd hp];exact pos p hp
 ·rw[Y3 h];exact Ah _
theorem mJ{g:Int×Int→Int}{ps:Sps}{k:Int×Int}(nd:(ps.map (·.1)).Nodup):wS g (aC ps k)=wS g ps+(if k∈ps.map (·.1)then cnt ps k*(g (ad k)-g k)else 0):=by
 unfold aC;by_cases h:k∈ps.map (·.1)
 ·rw[zE h,zE h];unfold fM ci;have n1:=Ye (k:=ad k) (n:=cnt ps (ad k)+cnt ps k) nd;have n2:=Ye (k:=k) (n:=cnt ps k-cnt ps k) n1;have c1:cnt (au (au ps (ad k) (cnt ps (ad k)+cnt ps k)) k (cnt ps k-cnt ps k)) k=0:=by rw[Yy,zE rfl,Int.sub_self]
  have c2:cnt (au ps (ad k) (cnt ps (ad k)+cnt ps k)) k=cnt ps k:=by rw[Yy,pi (Ve k)]
  rw[Q8 n2,c1,Ql n1,c2,Ql nd,Int.sub_self,Int.zero_mul,By,Int.mul_sub];omega
 ·rw[pi h,pi h,Cu]
def eg(g:Int×Int→Int):Prop:=∀h j,0≤h→0≤j→g (upK h j)≤g (loK h j)∧g (upK h j)≤g (hiK h j)
theorem sV{g:Int×Int→Int}{or bar h j:Int}{ps:Sps}(G:eg g)(o:Pok or ps)(f:Fst or bar ps h j):wS g (aY ps h j)≤wS g ps:=by
 have hj:0≤h∧0≤j:=by
  rcases f.in_ with i | i
  ·obtain⟨a,_,b,_⟩:=o.kok.st _ i;have a:0≤h:=a;have b:0≤2*j:=b;omega
  ·obtain⟨a,_,b,_⟩:=o.kok.st _ i;have a:0≤h:=a;have b:0≤2*j+1:=b;omega
 obtain⟨g1,g2⟩:=G h j hj.1 hj.2;have nd:=o.kok.nd;have c0:=fun k=>vA nd (fun p hp=>by have:=o.pos p hp;omega) k;unfold aY;rw[mJ (Sx nd),mJ nd,Vf,P3,Wt,pi (Ne.symm (iA h j)),Vf,pi (iq h j)];have m1:cnt ps (loK h j)*(g (upK h j)-g (loK h j))≤0:=Int.mul_nonpos_of_nonneg_of_nonpos (c0 _) (by omega);have m2:cnt ps (hiK h j)*(g (upK h j)-g (hiK h j))≤0:=Int.mul_nonpos_of_nonneg_of_nonpos (c0 _) (by omega)
 split <;> split <;> omega
theorem vF{g:Int×Int→Int}{or bar:Int}(G:eg g){ps fs CD:Sps}(s:Stl or bar ps fs CD):Pok or ps→wS g CD≤wS g ps:=by
 induction s with
 |done n=>exact fun _=>Ah _
 |step f p1 s ih=>
  intro o;have h:=ih ((S7 o f.in_ f.hd).perm p1);rw[Q7 p1]at h;exact Bv h (sV G o f)
theorem Qm{g:Int×Int→Int}:∀{ys xs:Sps},(xs.map (·.1)).Nodup→wS g (ay xs ys)=wS g xs+wS g ys:=by
 intro ys
 induction ys with
 |nil=>
  intro xs _;show wS g xs=wS g xs+0;omega
 |cons p ys ih=>
  intro xs h;rw[Wb,ih (Ye h),Ql h,By];have e:wS g (p::ys)=p.2*g p.1+wS g ys:=by
   unfold wS;rw[zH,Ac]
  rw[e];omega
theorem lO{g:Int×Int→Int}{or bar:Int}{ps:Sps}(G:eg g)(o:Pok or ps):wS g (b8 or bar ps)≤wS g ps:=by
 obtain⟨fs,CD,s⟩:=Tj (or:=or) (bar:=bar) _ ps (zD _) o.kok;rw[(W3 s o.kok.nd).1,Q7 (Y0 CD)];exact vF G s o
theorem rH{g:Int×Int→Int}{Cz or:Int}{xs ys:Sps}(G:eg g)(hx:Pok or xs)(hy:Pok or ys):wS g (aO Cz or xs ys)≤wS g xs+wS g ys:=by
 have h:=lO (bar:=ag (ay xs ys) / Cz) G (Uf hx hy.each);rw[Qm hx.kok.nd]at h;exact h
def wT(g:Int×Int→Int)(ts:List Th):Int:=(ts.map fun t=>t.many*g (0,t.num)).sum
theorem rB(g:Int×Int→Int)(a b:List Th):wT g (a++b)=wT g a+wT g b:=by
 unfold wT;rw[zW,Bj]
theorem ym{g:Int×Int→Int}{Cz or:Int}{t:Th}(G:eg g)(d0:0≤or)(h:ThL or t):wS g (thL Cz or t)≤t.many*g (0,t.num):=by
 have q:=lO (bar:=t.many / Cz) G (Sm d0 h);have e:wS g [((0,t.num),t.many)]=t.many*g (0,t.num):=Cu _;rw[e]at q;exact q
theorem nI{g:Int×Int→Int}{Cz or:Int}(G:eg g)(d0:0≤or):∀(ts:List Th)(a:Sps),Pok or a→(∀t∈ts,ThL or t)→wS g (ts.foldl (fun a t=>aO Cz or a (thL Cz or t)) a)≤wS g a+wT g ts:=by
 intro ts
 induction ts with
 |nil=>
  intro a _ _;show wS g a≤wS g a+0;omega
 |cons t ts ih=>
  intro a o h;have ht:=h t (.head _);have ot:=(Qr (Cz:=Cz) d0 ht).1.pok;have q:=ih (aO Cz or a (thL Cz or t)) (U6 o ot).1.pok fun x hx=>h x (.tail _ hx);have m:=rH (Cz:=Cz) G o ot;have w:=ym (Cz:=Cz) G d0 ht;have e:wT g (t::ts)=t.many*g (0,t.num)+wT g ts:=rB g [t] ts |>.trans (by unfold wT;simp);rw[e];show wS g (ts.foldl _ (aO Cz or a (thL Cz or t)))≤_;omega
theorem wP{g:Int×Int→Int}{Cz or:Int}{ts:List Th}(G:eg g)(d0:0≤or)(h:∀t∈ts,ThL or t):wS g (cf Cz or ts)≤wT g ts:=by
 have q:=nI (Cz:=Cz) G d0 ts [] mW h;have e:wS g []=0:=rfl;rw[e,BF]at q;exact q
def Dom(ps:Sps)(ts:List Th):Prop:=∀g,eg g→wS g ps≤wT g ts
theorem tR{Cz or:Int}{ts:List Th}(d0:0≤or)(h:∀t∈ts,ThL or t):Dom (cf Cz or ts) ts:=fun g G=>wP G d0 h
theorem ux{Cz or:Int}{xs ys:Sps}{a b:List Th}(hx:Pok or xs)(hy:Pok or ys)(da:Dom xs a)(db:Dom ys b):Dom (aO Cz or xs ys) (a++b):=fun g G=>by
 have m:=rH (Cz:=Cz) G hx hy;have:=da g G;have:=db g G;rw[rB];omega
theorem pY{h:Int}(h0:0≤h):(2:Int)^(h+1).toNat=2^h.toNat*2:=by
 rw[show(h+1).toNat=h.toNat+1 by omega,Int.pow_succ]
theorem Yd(n:Nat):(0:Int)<2^n:=Int.pow_pos (by decide)
theorem qw{h j:Int}(h0:0≤h):aE (upK h j)≤aE (loK h j)∧aE (upK h j)≤aE (hiK h j):=by
 have p:=Yd h.toNat;have e:=pY h0;unfold aE upK loK hiK;show j*2^(h+1).toNat≤2*j*2^h.toNat∧j*2^(h+1).toNat≤(2*j+1)*2^h.toNat;rw[e];generalize (2:Int)^h.toNat=q at p;have e1:j*(q*2)=2*j*q:=by rw[←Bb,Int.mul_comm (j*q) 2,Bb]
 rw[e1,By,AI];omega
theorem pR{h j:Int}(h0:0≤h):aD (loK h j)≤aD (upK h j)∧aD (hiK h j)≤aD (upK h j):=by
 have p:=Yd h.toNat;have e:=pY h0;unfold aD upK loK hiK;show(2*j+1)*2^h.toNat-1≤(j+1)*2^(h+1).toNat-1∧(2*j+1+1)*2^h.toNat-1≤(j+1)*2^(h+1).toNat-1;rw[e];generalize (2:Int)^h.toNat=q at p;have e1:(j+1)*(q*2)=2*j*q+q+q:=by
  rw[By,AI,←Bb,Int.mul_comm (j*q) 2,Bb];omega
 have e2:(2*j+1+1)*q=2*j*q+q+q:=by rw[By,By,AI]
 rw[e1,e2,By,AI];omega
theorem vm(n:Int):aE (0,n)=n:=by
 show n*2^(0:Int).toNat=n;rw[show(0:Int).toNat=0 from rfl,Int.pow_zero,BG]
theorem vv(n:Int):aD (0,n)=n:=by
 show(n+1)*2^(0:Int).toNat-1=n;rw[show(0:Int).toNat=0 from rfl,Int.pow_zero,BG];omega
def ind(b:Prop)[Decidable b]:Int:=if b then 1 else 0
theorem jA{a b:Prop}[Decidable a][Decidable b](h:a→b):ind a≤ind b:=by
 unfold ind;by_cases c:a
 ·rw[zE c,zE (h c)];exact Ah _
 ·rw[pi c]
  split <;> decide
theorem wM(g:Int×Int→Int)(ps:Sps):wS (fun k=>-g k) ps=-wS g ps:=by
 unfold wS
 induction ps with
 |nil=>rfl
 |cons p ps ih=>
  rw[zH,Ac,zH,Ac,ih,Int.mul_neg];omega
theorem vL(g:Int×Int→Int)(ts:List Th):wT (fun k=>-g k) ts=-wT g ts:=by
 unfold wT
 induction ts with
 |nil=>rfl
 |cons p ps ih=>
  rw[zH,Ac,zH,Ac,ih,Int.mul_neg];omega
theorem ww{Cz or:Int}(d0:0≤or){t:Tr}:(∀s∈t.streams,∀x∈s,ThL or x)→Dom (glT Cz or t) t.all∧Pok or (glT Cz or t):=by
 induction t with
 |leaf ts=>exact fun h=>⟨tR d0 (h ts (.head _)),(Qd d0 (h ts (.head _))).1.pok⟩
 |node l r il ir=>
  intro h;obtain⟨a1,a2⟩:=il fun s hs=>h s (Ai _ hs);obtain⟨b1,b2⟩:=ir fun s hs=>h s (zR _ hs);exact⟨ux a2 b2 a1 b1,(U6 a2 b2).1.pok⟩
theorem uA{α:Type}(l:List α):(l.map fun _=>(0:Int)).sum=0:=by
 induction l with
 |nil=>rfl
 |cons x l ih=>rw[zH,Ac,ih];rfl
theorem xn{k:Int×Int}:aE k≤aD k:=by
 have p:=Yd k.1.toNat;unfold aE aD;rw[By,AI];omega
def wit(s k:Int×Int):Prop:=aE s≤aE k∧aD k≤aD s
instance (s k:Int×Int):Decidable (wit s k):=inferInstanceAs (Decidable (_∧_))
def gin(s k:Int×Int):Int:=ind (wit s k)
theorem kL{p:Prop}[Decidable p]:0≤ind p:=by
 unfold ind
 split <;> decide
theorem V6{p:Prop}[Decidable p](h:p):ind p=1:=zE h
theorem Wm{p:Prop}[Decidable p](h:¬p):ind p=0:=pi h
theorem oZ(s:Int×Int):eg (gin s):=fun h j h0 _=>by
 have a:=qw (j:=j) h0;have b:=pR (j:=j) h0;exact⟨jA fun z=>⟨Bv z.1 a.1,Bv b.1 z.2⟩,jA fun z=>⟨Bv z.1 a.2,Bv b.2 z.2⟩⟩
theorem wit_0{s:Int×Int}{n:Int}:wit s (0,n)↔aE s≤n∧n≤aD s:=by
 unfold wit;rw[vm,vv]
theorem pM(k:Int×Int):aD k=aE k+2^k.1.toNat-1:=by
 unfold aE aD;rw[By,AI]
theorem uO{s k:Int×Int}(s0:0≤s.1)(k0:0≤k.1)(h:wit s k):k.1≤s.1:=by
 rcases Int.lt_or_le s.1 k.1 with c | c
 ·have a:=pM s;have b:=pM k;have p:(2:Int)^k.1.toNat=2^(k.1.toNat-s.1.toNat-1)*2^s.1.toNat*2:=by
   rw[Bb,←Int.pow_succ,←Int.pow_add]
   congr 1
   omega
  have q:=Yd s.1.toNat;have q2:1*2^s.1.toNat≤(2:Int)^(k.1.toNat-s.1.toNat-1)*2^s.1.toNat:=AS (Yd _) (A7 q);obtain⟨h1,h2⟩:=h;omega
 ·exact c
theorem jG{s k:Int×Int}(k0:0≤k.1)(le:k.1≤s.1){n:Int}(a:aE k≤n)(b:n≤aD k)(c:aE s≤n)(d:n≤aD s):wit s k:=by
 unfold aE at a c;unfold aD at b d;have pk:=Yd k.1.toNat;have e:(2:Int)^s.1.toNat=2^(s.1.toNat-k.1.toNat)*2^k.1.toNat:=by
  rw[←Int.pow_add]
  congr 1
  omega
 have pm:=Yd (s.1.toNat-k.1.toNat);unfold wit aE aD;rw[e];rw[e]at c d;rw[←Bb]at c d;rw[←Bb,←Bb];generalize (2:Int)^(s.1.toNat-k.1.toNat)=m at c d pm⊢;generalize (2:Int)^k.1.toNat=w at a b c d pk⊢;have l1:s.2*m<k.2+1:=by
  have:s.2*m*w<(k.2+1)*w:=by omega
  exact Int.lt_of_mul_lt_mul_right this (A7 pk)
 have l2:k.2<(s.2+1)*m:=by
  have:k.2*w<(s.2+1)*m*w:=by omega
  exact Int.lt_of_mul_lt_mul_right this (A7 pk)
 have m1:s.2*m*w≤k.2*w:=AS (by omega) (A7 pk);have m2:(k.2+1)*w≤(s.2+1)*m*w:=AS (by omega) (A7 pk);exact⟨m1,by omega⟩
theorem Yv(g:Int×Int→Int)(p:(Int×Int)×Int)(ps:Sps):wS g (p::ps)=p.2*g p.1+wS g ps:=by
 unfold wS;rw[zH,Ac]
theorem uZ{g:Int×Int→Int}(h:∀k,0≤g k){ps:Sps}:(∀p∈ps,0≤p.2)→0≤wS g ps:=by
 induction ps with
 |nil=>exact fun _=>Ah _
 |cons p ps ih=>
  intro pos;rw[Yv];have a:=Ct (pos p (.head _)) (h p.1);have b:=ih fun x hx=>pos x (.tail _ hx);omega
theorem Q6{g:Int×Int→Int}{ps:Sps}:(∀p∈ps,p.2=0∨g p.1=0)→wS g ps=0:=by
 induction ps with
 |nil=>exact fun _=>rfl
 |cons p ps ih=>
  intro h;rw[Yv,ih fun x hx=>h x (.tail _ hx)]
  rcases h p (.head _)with z | z
  ·rw[z,Int.zero_mul];rfl
  ·rw[z,B9];rfl
theorem Sk(ps:Sps):wS (fun _=>1) ps=ag ps:=by
 unfold wS ag;exact AX List.sum (BD fun p _=>BG _)
theorem sum_cons(p:(Int×Int)×Int)(ps:Sps):ag (p::ps)=p.2+ag ps:=by
 unfold ag;rw[zH,Ac]
structure Can(ps ls:Sps):Prop where
 each:∀s:Int×Int,0≤s.1→wS (gin s) ps≤wS (gin s) ls
 all:ag ps=ag ls
section
variable{k:Int×Int}{c:Int}{rem ls ls':Sps}
end
def eV(ts:List Th):Sps:=ay [] (ts.map fun t=>((0,t.num),t.many))
theorem oS(g:Int×Int→Int)(ts:List Th):wS g (eV ts)=wT g ts:=by
 unfold eV;rw[Qm (xs:=[]) An];show 0+_=_;rw[BF];unfold wS wT;rw[Al];rfl
theorem fY{ps:Sps}{ts:List Th}(h:Dom ps ts):Can ps (eV ts):=by
 refine⟨fun s _=>?_,?_⟩
 ·rw[oS];exact h _ (oZ s)
 ·have a:=h (fun _=>1) fun _ _ _ _=>⟨Ah _,Ah _⟩;have b:=h (fun k=>-(fun _=>1) k) fun _ _ _ _=>⟨Ah _,Ah _⟩;rw[wM,vL]at b;rw[←Sk,←Sk,oS];omega
def fh:Sp:=fun vs H Q _=>∃(x:V)(T:String),vs=[x]∧Kd H x T∧Q (.bl (whV x)) H
def yy:Sp:=fun vs H Q _=>∃(x:V)(T:String)(l:Int),vs=[x,.int l]∧Kd H x T∧Q (.bl (wF x l)) H
def yL:Sp:=fun vs H Q _=>∃(i l m:Int),vs=[.int i,.int l,.int m]∧Q (.bl (decide (l≤i) && decide (i≤m))) H
theorem jy(am:mg "isinstance"=none)(dm:mg "int"=none)(c8:mg "bool"=none)(F:Fun K "is_whole" "is_whole" c5 f fd):FnOk P w K mg base CX0 1 f fd ["thing"] fh:=by
 refine F.ok iT (fun vs H Q E h=>?_) (fun cdv A outer s H vs Q E hr h=>?_)
 ·obtain⟨x,T,rfl,_⟩:=h;rfl
 obtain⟨x,T,rfl,hk,hq⟩:=h;refine⟨_,(Z7 (Zc (Rg (Y1 V8 rfl am AC (Z0 (pv 0) (Z0 (V5 (v:=.ty "int") rfl dm PyProof.Rows.boot_int rfl) Z1))) (Rf (wk (Y1 V8 rfl am AC (Z0 (pv 0) (Z0 (V5 (v:=.ty "bool") rfl c8 PyProof.Rows.boot_bool rfl) Z1)))))))),?_⟩;rw[←hk.wh]at hq;refine⟨_,rfl,_,_,"int",_,rfl,hk.ty,hk.kit (by decide) rfl,_,rfl,?_⟩;refine Xh (fun c=>?_) (fun c=>?_)
 ·refine⟨_,rfl,_,_,"bool",_,rfl,hk.ty,hk.kit (by decide) rfl,_,rfl,?_⟩;rw[c,Bool.true_and]at hq;exact hq
 ·rw[AG.mpr c,BY]at hq;exact hq
theorem Ri(kf:Has P w K mg base "is_whole" 1 ["thing"] fh)(F:Fun K "is_whole_from" "is_whole_from" bB f fd):FnOk P w K mg base CX0 2 f fd ["thing","least"] yy:=by
 refine F.ok Rc (fun vs H Q E h=>?_) (fun cdv A outer s H vs Q E hr h=>?_)
 ·obtain⟨x,T,l,rfl,_⟩:=h;rfl
 obtain⟨x,T,l,rfl,hk,hq⟩:=h;refine⟨_,(Z7 (Zc (Rg (Z4 kf hr (Z0 (pv 0) Z1)) (Rf (Xz jd (pv 0) (pv 1) (Zh _)))))),?_⟩;refine⟨_,rfl,x,T,rfl,hk,_,rfl,?_⟩;cases x with
 |int i=>exact U9 ⟨_,rfl,_,rfl,_,_,rfl,rfl,hq⟩
 |_=>exact Xg hq
theorem Tt(dS:Has P w K mg base "is_whole_from" 2 ["thing","least"] yy)(F:Fun K "is_whole_within" "is_whole_within" bh f fd):FnOk P w K mg base CX0 3 f fd ["thing","least","most"] yL:=by
 refine F.ok Tn (fun vs H Q E h=>?_) (fun cdv A outer s H vs Q E hr h=>?_)
 ·obtain⟨i,l,m,rfl,_⟩:=h;rfl
 obtain⟨i,l,m,rfl,hq⟩:=h;refine⟨_,(Z7 (Zc (Rg (Z4 dS hr (Z0 (pv 0) (Z0 (pv 1) Z1))) (Rf (Xz uR (pv 0) (pv 2) (Zh _)))))),?_⟩;refine⟨_,rfl,_,rfl,.int i,"int",l,rfl,.int _,_,rfl,?_⟩;refine Xh (fun c=>?_) (fun c=>?_)
 ·have c:decide (l≤i)=true:=c;rw[c,Bool.true_and]at hq;exact⟨_,rfl,_,rfl,_,_,rfl,rfl,hq⟩
 ·have c:decide (l≤i)=false:=AG.mpr c;rw[c,BY]at hq;exact hq
end K34
namespace L2
open PySem PySem.Spec PyProof.Rows
variable{prog:Program}{w:World}{A:Around}{E:Value→Shared→Prop}{s:Shared}
theorem O2{l:Addr}{its:List Value}{k:Nat}{sl:Array (Option Value)}{ps:List TKv}{Q:Value→Shared→Prop}(hh:A.handled=none)(hu:A.units+3<cLine)(hl:s.heap.get? l=some {cls:=.type "list",dict:=none,data:=.seq its.toArray k,slots:=sl})(CS:its.length=ps.length)(hb:ps.length≤100000)(hp:∀(j:Nat) p,ps[j]?=some p→∃v,its[j]?=some v∧jH prog w s.heap p v [])(h:∀g tk,(∀b o,s.heap.get? b=some o→g.get? b=some o)→nX prog w g s.heap.objs.size (dj ps)→Q (.ref s.heap.objs.size) {s with heap:=g,toks:=tk}):wpAny (model prog w) A (call (.type "dict") [.ref l]) Q E s:=by
 refine callType_codes (Q₁:=fun obj s₁=>obj=.ref s.heap.objs.size∧s₁={s with heap:=s.heap.push {cls:=.type "dict",data:=.dict #[]}}) F.kt_called_dict (F.kt_typeCall_dict_1 _) F.entry_dict_init (kt_code_dict_new _ ⟨rfl,rfl⟩) ?_;rintro obj s₁ ⟨rfl,rfl⟩;have gD:(s.heap.push {cls:=.type "dict",data:=.dict #[]}).get? s.heap.objs.size=some {cls:=.type "dict",data:=.dict #[]}:=zY _ rfl;have hl1:(s.heap.push {cls:=.type "dict",data:=.dict #[]}).get? l=some {cls:=.type "list",dict:=none,data:=.seq its.toArray k,slots:=sl}:=io _ hl;refine⟨⟨_,gD,rfl⟩,F.args_dict_init_2 _ _,?_⟩;unfold Builtin.«dict.__init__»;refine ae ?_;unfold Builtin.Dict.selfAndRest;refine ae (Ba ⟨_,gD,rfl⟩ (zC (a:=(s.heap.objs.size,[Value.ref l])) ?_));show wpAny (model prog w) _ (Builtin.Dict.updateFrom "dict.__init__" s.heap.objs.size (.ref l) [] .none) _ _ _;unfold Builtin.Dict.updateFrom;refine ae (Br (T:="list") ⟨_,hl1,rfl⟩ ?_);rw[zE (by decide)];refine wpAny_bind (yh hl1 (by simpa using hh) fun g tk kp=>?_);rw[zE (by rfl)];have ltD:s.heap.objs.size<g.objs.size:=zN (kp _ _ gD);have ltl:l<s.heap.objs.size:=zN hl;have hl2:g.IsList l its.toArray:=⟨_,kp _ _ hl1,rfl,k,rfl⟩;refine ae (Bo (ae (wpAny_pyIter_list hl2 (zC ⟨Cc W8 _,?_⟩))));have hne:l≠g.objs.size:=zX (Bc ltl ltD);have nin:s.heap.objs.size∉[g.objs.size,l]:=fun q=>by
  rcases zZ.mp q with q | q
  ·exact zX ltD q
  ·exact AH ltl (zG.mp q)
 have nout:∀{b:Addr},b<s.heap.objs.size→b∉[s.heap.objs.size,g.objs.size]:=fun{b} lt q=>by
  rcases zZ.mp q with q | q
  ·exact zX lt q
  ·exact zX (Bc lt ltD) (zG.mp q)
 have keep:∀b o,s.heap.get? b=some o→(g.push {cls:=.type "list_iterator",data:=.fields #[.ref l,.int 0 0]}).get? b=some o:=fun b o e=>io _ (kp _ _ (io _ e));refine O0 (A:=A.in1) (Walks.list (by simpa using hh) g.objs.size l hne its.toArray) (by show A.units+1+1<cLine;omega) s.heap.objs.size nin ps (by rw[List.size_toArray];omega) its (fun i v e=>by simpa using e) (by rw[List.size_toArray];omega) its.toArray.size 0 _ (Nat.sub_zero _) (Nat.zero_le _) ⟨⟨_,Heap.get?_push_size _ rfl,rfl,rfl⟩,hl2.push _⟩ ⟨_,#[],0,Heap.get?_push_of_some _ (kp _ _ gD),⟨rfl,rfl,rfl⟩,rfl,rfl,List.nodup_nil⟩ (fun j p e=>?_) fun g' tk' kp' so'=>⟨rfl,h g' tk' (fun b o e=>kp' b o (nout (Heap.lt_size e)) ?_) so'⟩
 ·obtain⟨v,hv,a,o,m,rfl,_,_,ha,r1,r2,r3⟩:=hp j p e;have la:=zN ha;have lk:p.2.1<s.heap.objs.size:=by
   obtain⟨_,_,_,h1,_⟩:=r3;exact zN h1
  exact⟨_,hv,a,o,m,rfl,nout la,nout lk,io _ (kp _ _ (io _ ha)),r1,r2,Q9 r3 fun o e=>io _ (kp _ _ (io _ e))⟩
 ·exact io _ (kp _ _ (io _ e))
section
variable{X:Cx}
def sY(K:W.Frag):List V→Hp→VK→Prop:=fun xs H Q=>∃(l:Addr)(ys:List V)(kvs:List (List Key×V)),xs=[.ref l]∧SqL K H l ys∧TPsAt H ys kvs∧kvs.length≤1000∧∀p,H p=none→Q (.ref p) (upd H p (.dT (fj kvs)))
theorem jB(hc:X.calm=true)(hu:X.A.units+64<cLine):bN X (.type "dict") (sY X.K):=by
 intro CA s σ H xs us Q I rx h;obtain⟨l,ys,kvs,rfl,hq,pa,CS,q⟩:=h;obtain⟨u,rfl,ru⟩:=V1 rx;cases ru;obtain⟨its,rv,⟨⟨c0,d0,dt0,sl0⟩,m,ho,hcl,hdn,hs⟩,_⟩:=I.list hq;simp only at hcl hdn hs;subst hcl hdn hs;obtain⟨ps,kt,hl,hp⟩:=Qq I pa rv;have kl:=zV kt;refine O2 (I.ok.hd hc) (by omega) ho hl (by omega) hp fun g tk kp hD=>?_;have km:=uP kt;have ml:=P9 ps;refine⟨.ref s.heap.objs.size,_,I.laid (t':=tk) (o:=.dT (fj kvs)) kp (zD _) ⟨Zl (by rw[zV km];omega),BC.mpr (AH I.big),dj ps,?_,hD⟩,rfl,q _ (I.hok.fresh (zD _))⟩;exact KT.keeps km fun b ys e=>by rw[Za (Zd e (I.hok.fresh (zD _)))];exact e
end
section
variable{X:Cx}{x c n:Str}{p pos cpos epos np ap hpos:Pos}{e:Expr}{es:List Expr}{ta:TA}{tb:TS}{b₀:Stmt}{suite:List Stmt}{j k i:Nat}{ps:List Str}{sp:Sp}{S:Addr}
end
section
variable{P:Program}{w:World}{A:Around}{E:Value→Shared→Prop}{s:Shared}{a b:Addr}{va vb:List (Key×Value)}
end
section
variable{X:Cx}
theorem sF{H:Hp}{kvs:List (List Key×V)}{xs:List TKv}(h:KT H kvs xs):xs.map (·.1)=kvs.map (·.1):=by
 induction h with
 |nil=>rfl
 |cons h r ih=>rw[zH,zH,ih,h.1]
def xU(D:Ends)(d:Addr)(kvs:List (List Key×V))(o:Obj):Ends where
 nx:=fun σ2 H2=>H2 d=some (.frz o (.dT kvs))∧D.nx σ2 (upd H2 d (.dT kvs))
 rt:=fun v H2=>H2 d=some (.frz o (.dT kvs))∧D.rt v (upd H2 d (.dT kvs))
 bk:=fun σ2 H2=>H2 d=some (.frz o (.dT kvs))∧D.bk σ2 (upd H2 d (.dT kvs))
 ct:=fun σ2 H2=>H2 d=some (.frz o (.dT kvs))∧D.ct σ2 (upd H2 d (.dT kvs))
def xR(t:TS):TS:=fun D σ H=>∃(d:Addr)(kvs:List (List Key×V)),H d=some (.dT kvs)∧∀o,t (xU D d kvs o) σ (upd H d (.frz o (.dT kvs)))
theorem lB{st:Stmt}{t:TS}(h:PS X st t):PS X st (xR t):=by
 intro CA s σ H D I hw;obtain⟨d,kvs,hd,q⟩:=hw;obtain⟨o,I1,nf⟩:=I.freezeT hd;refine thn (h CA s σ _ _ I1 (q o)) fun f s1 hf=>?_;cases f with
 |next=>
  obtain⟨σ2,H2,I2,hd2,q2⟩:=hf;exact⟨σ2,_,I2.thawT nf hd2,q2⟩
 |brk=>
  obtain⟨σ2,H2,I2,hd2,q2⟩:=hf;exact⟨σ2,_,I2.thawT nf hd2,q2⟩
 |cont=>
  obtain⟨σ2,H2,I2,hd2,q2⟩:=hf;exact⟨σ2,_,I2.thawT nf hd2,q2⟩
 |ret u=>
  obtain⟨v,σ2,H2,I2,r,hd2,q2⟩:=hf;exact⟨v,σ2,_,I2.thawT nf hd2,r,q2⟩
end
theorem oE{d:Addr}{o:Obj}{kvs:List (List Key×V)}{g:TG}{tb:TS}{D:Ends}{σ:St}{H:Hp}(Pv:Nat→St→Hp→Prop)(h0:Pv 0 σ H)(hl:∀i σ H,Pv i σ H→H d=some (.frz o (.dT kvs)))(hs:∀i p b σ H (N B1:St→Hp→Prop) (R:VK),(∀σ' H',Pv (i+1) σ' H'→N σ' H')→(∀v H',D.rt v H'→R v H')→kvs[i]?=some p→H b=some (.tup (p.1.map kV))→Pv i σ H→g (.ref b) σ H fun σ2 H2=>tb {nx:=N,rt:=R,bk:=B1,ct:=N} σ2 H2)(hd:∀σ H,Pv kvs.length σ H→D.nx σ H):
  ∃W:Nat→Nat→St→Hp→Prop,(∃m,W 0 m σ H)∧∀i m σ H,W i m σ H→
   ((oN d kvs o).stop i H∧D.nx σ H)∨((oN d kvs o).go i H∧∃N:St→Hp→Prop,(∀σ' H',N σ' H'→∃m',m'<m∧W (i+1) m' σ' H')∧∀x H',(oN d kvs o).yld i H x H'→g x σ H' fun σ2 H2=>tb {D with nx:=N,ct:=N,bk:=D.nx} σ2 H2):=by
 refine⟨fun i m σ H=>m=kvs.length-i∧i≤kvs.length∧Pv i σ H,⟨kvs.length,by simp,Nat.zero_le _,h0⟩,?_⟩;rintro i m σ H ⟨rfl,hi,p⟩;have q:=hl i σ H p;by_cases CI:i<kvs.length
 ·refine .inr ⟨⟨CI,q⟩,Pv (i+1),fun σ' H' p'=>⟨kvs.length-(i+1),by omega,rfl,CI,p'⟩,fun x H' y=>?_⟩;obtain⟨e,p',b,hp',rfl,hb⟩:=y;subst e;exact hs i p' b σ _ (Pv (i+1)) D.nx D.rt (fun _ _ h=>h) (fun _ _ h=>h) hp' hb p
 ·have e:i=kvs.length:=by omega
  subst e;exact .inl ⟨⟨zD _,q⟩,hd σ H p⟩
end L2
namespace K34
open PySem L2 Ld
def bE(ps:Sps)(k:Int×Int)(m:Int):Sps:=if cnt ps k-m=0 then aW (au (au ps (ad k) (cnt ps (ad k)+m)) k (cnt ps k-m)) k else au (au ps (ad k) (cnt ps (ad k)+m)) k (cnt ps k-m)
def cm(ts:List Th):Sps:=ts.map fun t=>((0,t.num),t.many)
def av(ts:List Th):Sps:=ay [] (cm ts)
def PprAt(H:Hp)(p:Addr)(ps:Sps):Prop:=∃as:List Addr,H p=some (.lst (as.map V.ref))∧Paired (FT H) as ps
theorem PprAt.mono{H H':Hp}{p:Addr}{ps:Sps}(g:Same H H')(h:PprAt H p ps):PprAt H' p ps:=let ⟨as,e,r⟩:=h;⟨as,g _ _ e,Paired.mapP r fun _ _ f=>Zs g f⟩
def eqB(ps qs:Sps):Bool:=decide (ps.length=qs.length) && ps.all fun p=>decide (p∈qs)
def dU(or:Int)(qs:Sps):Sps→Sps→Bool
 |ps,[]=>eqB ps qs
 |ps,(k,m)::r=>if m<1∨or≤k.1∨cnt ps k<m then false else dU or qs (bE ps k m) r
def inB(or:Int)(k:Int×Int):Bool:=decide (0≤k.2) && decide (k.2≤2^or.toNat-1)
def eQ(or total:Int)(ts:List Th)(qs CF:Sps):Bool:=decide (aK ts=total) && ((av ts).all fun e=>inB or e.1) && dU or qs (av ts) CF
def lA:Sp:=fun vs H Q _=>∃(d p:Addr)(ps:Sps)(k:Int×Int)(m:Int),vs=[.ref d,.ref p,.int m]∧H d=some (.dT (af ps))∧KAt H p k∧k∈ps.map (·.1)∧ps.length<100000∧∀(H':Hp),Grw d H H'→H' d=some (.dT (af (bE ps k m)))→Q .non H'
def jZ:Sp:=fun vs H Q _=>∃(c1 c2:Addr)(bs:List Addr)(ys:Sps),vs=[.ref c1,.ref c2]∧H c1=some (.tup [])∧H c2=some (.lst (bs.map V.ref))∧Paired (FT H) bs ys∧ys.length≤1000∧∀(d:Addr)(H':Hp),H d=none→Same H H'→H' d=some (.dT (af (ay [] ys)))→Q (.ref d) H'
def uL:Sp:=fun vs H Q _=>∃(r:Addr)(ts:List Th),vs=[.ref r]∧DV H (.ref r) (aS ts)∧ts.length≤1000∧∀H',Same H H'→Q (.int (aK ts)) H'
def fI:Sp:=fun vs H Q _=>∃(r:Addr)(ts:List Th),vs=[.ref r]∧DV H (.ref r) (aS ts)∧ts.length≤1000∧∀(d:Addr)(H':Hp),H d=none→Same H H'→H' d=some (.dT (af (av ts)))→Q (.ref d) H'
def rZ:Sp:=fun vs H Q _=>∃(p:Addr)(n or:Int),vs=[.ref p,.int or]∧KAt H p (0,n)∧0≤or∧or≤20∧∀H',Same H H'→Q (.bl (inB or (0,n))) H'
def di:Sp:=fun vs H Q _=>∃(r q p:Addr)(ts:List Th)(Cz or total:Int)(qs CF:Sps),vs=[.ref r,.ref q,.ref p]∧DV H (.ref r) (aS ts)∧ts.length≤1000∧LadAt H q Cz or total qs∧(qs.map (·.1)).Nodup∧qs.length≤400∧0≤or∧or≤20∧PprAt H p CF∧CF.length≤20000∧∀H',Same H H'→Q (.bl (eQ or total ts qs CF)) H'
theorem oz{p:Addr}{H0 H1 H2:Hp}(n:H0 p=none)(s:Same H0 H1)(g:Grw p H1 H2):Same H0 H2:=fun b u e=>(Zf (g b u (by rw[Zg (Zd e n)];exact s b u e))).2
theorem nH(ps:Sps)(k:Int×Int)(m:Int):(bE ps k m).length≤ps.length+2:=by
 have a:=W4 ps (ad k) (cnt ps (ad k)+m);have b:=W4 (au ps (ad k) (cnt ps (ad k)+m)) k (cnt ps k-m);unfold bE
 split
 ·have:=qJ (au (au ps (ad k) (cnt ps (ad k)+m)) k (cnt ps k-m)) k;omega
 ·omega
theorem rM{ps:Sps}(nd:(ps.map (·.1)).Nodup):((af ps).map (·.1)).Nodup:=by
 rw[Vk];exact A8.mpr (nd.imp fun h e=>h (Vh e))
section
variable{P:Program}{w:World}{K:W.Frag}{mg:Str→Option Value}{base:Heap}{f:Addr}{fd:FuncData}
theorem qP(aR:Has P w K mg base "parent_of" 1 ["stretch"] cO)(F:Fun K "fold_up" "fold_up" cQ f fd):FnOk P w K mg base CX0 2 f fd ["counts","stretch","many"] lA:=by
 refine F.ok U3 (fun vs H Q E h=>?_) (fun cdv A outer s H vs Q E hr h=>?_)
 ·obtain⟨d,p,ps,k,m,rfl,_⟩:=h;rfl
 obtain⟨d,p,ps,k,m,rfl,e_d,CH,hk,pl,hq⟩:=h;have lk:=Pe hk;obtain⟨c,hc⟩:∃c,c=cnt ps k:=⟨_,rfl⟩;rw[←hc]at lk;unfold bE at hq;rw[←hc]at hq;refine⟨_,(Z3 (Zy 3 U3.nd rfl (Or.inl rfl) (Z4 aR hr (Z0 (pv 1) Z1))) Zb),?_⟩;refine⟨_,rfl,p,k,rfl,CH,fun q nq=>?_⟩;have g1:=Os (o:=.tup [.int (ad k).1,.int (ad k).2]) e_d nq;have s1:=Z6 nq (.tup [.int (ad k).1,.int (ad k).2]);have CM:KAt (upd H q (.tup [.int (ad k).1,.int (ad k).2])) q (ad k):=Z2;have e_d:=s1 _ _ e_d;have CH:KAt _ p k:=s1 _ _ CH;generalize upd H q (.tup [.int (ad k).1,.int (ad k).2])=H1 at g1 CM e_d CH⊢;have tupd:∀{H:Hp}{b:Addr}{j:Int×Int}{kvs:List (List Key×V)}{o:HO},H d=some (.dT kvs)→KAt H b j→KAt (upd H d o) b j:=fun{H b j kvs o} e eb=>by
  show upd H d o b=_;rw[Za (Uh eb e (by intro z;cases z))];exact eb
 refine⟨_,(Z3 (W5 (Yg hr) (pv 0) (pv 3) (Ze Zu (X1 (Yg hr) (pv 0) (pv 3) Z5 ⟨rfl,rfl,rfl,rfl⟩) (pv 2)) rfl) Zb),?_⟩;obtain⟨n0,hn0,h0⟩:∃n,n=cnt ps (ad k)∧(aw ps (ad k)).getD (.int 0)=.int n:=⟨_,rfl,Ys _ _⟩;rw[←hn0]at hq;have l1:=W4 ps (ad k) (n0+m);refine⟨_,rfl,d,rfl,.inr ⟨_,.inl e_d⟩,_,rfl,_,Y7 e_d CM,_,rfl,n0,m,h0,rfl,_,rfl,_,rfl,d,_,rfl,DPut.t (k:=kk (ad k)) e_d CM (Zj (by rw[Zk];omega)),?_⟩;have g2:Grw d H (upd H1 d (.dT (aG (af ps) (kk (ad k)) (.int (n0+m))))):=g1.trans X3;have gA:=tupd (o:=.dT (aG (af ps) (kk (ad k)) (.int (n0+m)))) e_d CH;have dX:(upd H1 d (.dT (aG (af ps) (kk (ad k)) (.int (n0+m))))) d=some (.dT (af (au ps (ad k) (n0+m)))):=by rw[←Wx];exact Z2
 generalize upd H1 d (.dT (aG (af ps) (kk (ad k)) (.int (n0+m))))=H2 at g2 gA dX⊢;refine⟨_,(Z3 (W5 (Yg hr) (pv 0) (pv 1) (Ze Xl (Wi (Yg hr) (pv 0) (pv 1) (fun _ _=>rfl)) (pv 2)) rfl) Zb),?_⟩;have lk2:aw (au ps (ad k) (n0+m)) k=some (.int c):=by rw[Xc,pi (Ve k)];exact lk
 generalize au ps (ad k) (n0+m)=qs at hq dX lk2 l1;have l2:=W4 qs k (c-m);refine⟨_,rfl,_,rfl,d,.int c,rfl,by rw[←lk2];exact Y7 dX gA,_,rfl,_,_,rfl,rfl,_,rfl,_,rfl,d,_,rfl,DPut.t (k:=kk k) dX gA (Zj (by rw[Zk];omega)),?_⟩;have g3:Grw d H (upd H2 d (.dT (aG (af qs) (kk k) (.int (c-m))))):=g2.trans X3;have jL:=tupd (o:=.dT (aG (af qs) (kk k) (.int (c-m)))) dX gA;have du:(upd H2 d (.dT (aG (af qs) (kk k) (.int (c-m))))) d=some (.dT (af (au qs k (c-m)))):=by rw[show af (au qs k (c-m))=aG (af qs) (kk k) (.int (c-m)) from(Wx _ _ _).symm];exact Z2
 generalize upd H2 d (.dT (aG (af qs) (kk k) (.int (c-m))))=H3 at g3 jL du⊢;refine⟨_,(Z7 (Y8 (Zi Sj (Wi (Yg hr) (pv 0) (pv 1) (fun _ _=>rfl)) Z5 (Zh _)) (Z7 (Xj (Uo AQ PySem.F.slot_dict_pop PySem.F.type_dict_pop (lP hr.units) (pv 0) (Z0 (pv 1) Z1)))) Zr)),?_⟩;have lk3:aw (au qs k (c-m)) k=some (.int (c-m)):=by rw[Xc,zE rfl]
 generalize au qs k (c-m)=rs at hq du lk3 l2;refine⟨_,rfl,_,rfl,d,.int (c-m),rfl,by rw[←lk3];exact Y7 du jL,rfl,_,rfl,Xh (fun z=>?_) (fun z=>?_)⟩
 ·have z:c-m=0:=by simpa using z
  rw[zE z]at hq;refine⟨_,rfl,Ti du,_,rfl,d,p,_,kk k,_,rfl,rfl,du,jL,lk3,?_⟩;refine hq _ (g3.trans X3) ?_;rw[←li];exact Z2
 ·have z:¬(c-m=0):=by simpa using z
  rw[pi z]at hq;exact hq _ g3 du
theorem ur(aM:mg "dict"=none)(F:Fun K "added_counts" "added_counts" bf f fd):FnOk P w K mg base CX0 1 f fd ["one","other"] jZ:=by
 refine F.ok Y4 (fun vs H Q E h=>?_) (fun cdv A outer s H vs Q E hr h=>?_)
 ·obtain⟨c1,c2,bs,ys,rfl,_⟩:=h;rfl
 obtain⟨c1,c2,bs,ys,rfl,e1,e2,p2,xl,hq⟩:=h;refine⟨_,(Z3 (Zy 2 Y4.nd rfl (Or.inl rfl) (Y9 (Xu rfl hr.units) rfl aM A6 (Z0 (pv 0) Z1))) Zb),?_⟩;have nd:((af []).map (·.1)).Nodup:=An;refine⟨_,rfl,c1,_,af [],rfl,e1,Tz (as:=[]) .nil,by rw[Zk];exact BI _,fun d n_d=>?_⟩;rw[Wy nd];have sm:=Z6 n_d (.dT (af []));have ed:(upd H d (.dT (af []))) d=some (.dT (af [])):=Z2;generalize upd H d (.dT (af []))=H1 at sm ed⊢;have bl:=zV p2;refine⟨_,(Z3 (X8 Ao rfl (Yw (pv 1)) (Y6 rfl (Z8 (Z9 (i:=3) Y4.nd rfl (Or.inl rfl)) (Z8 (Z9 (i:=4) Y4.nd rfl (Or.inl rfl)) Zo)))
 (Z7 (W5 (Yg hr) (pv 2) (pv 3) (Ze Zu (X1 (Yg hr) (pv 2) (pv 3) Z5 ⟨rfl,rfl,rfl,rfl⟩) (pv 4)) rfl))) Zb),?_⟩
 refine⟨_,rfl,c2,rfl,⟨_,SqL.of (sm _ _ e2)⟩,?_⟩;refine Xs (xs:=bs.map V.ref) (fun i σ H'=>∃(o3 o4:Option V),σ=[some (.ref c1),some (.ref c2),some (.ref d),o3,o4]∧Same H H'∧H' d=some (.dT (af (ay [] (ys.take i))))∧(ay [] (ys.take i)).length≤i) ⟨_,_,rfl,sm,ed,zD _⟩ ?_ ?_ ?_
 ·rintro i σ H' _ ⟨_,_,_,g,_⟩;exact SqL.of (g _ _ e2)
 ·rintro i x σ H' N B1 R hN hR hx ⟨o3,o4,rfl,g,ed,al⟩;obtain⟨a,p,rfl,hp,b,CL,CG⟩:=Vi p2 hx;have il:i<ys.length:=(zM.mp hp).1;have CL:=g _ _ CL;have CG:KAt H' b p.1:=g _ _ CG;have st:ay [] (ys.take (i+1))=au (ay [] (ys.take i)) p.1 (cnt (ay [] (ys.take i)) p.1+p.2):=by rw[Zv hp,R4]
  rw[st]at hN;generalize ay [] (ys.take i)=zs at ed al hN;have l1:=W4 zs p.1 (cnt zs p.1+p.2);refine⟨a,_,rfl,SqT.of CL,rfl,_,_,rfl,_,_,rfl,rfl,?_⟩;refine⟨_,rfl,d,rfl,.inr ⟨_,.inl ed⟩,_,rfl,_,Y7 ed CG,_,rfl,_,p.2,Ys _ _,rfl,_,rfl,_,rfl,d,_,rfl,DPut.t (k:=kk p.1) ed CG (Zj (by rw[Zk];omega)),?_⟩;refine hN _ _ ⟨_,_,rfl,fun x w e=>?_,by rw[←Wx];exact Z2,by omega⟩;rw[Za (Zd e n_d)];exact g _ _ e
 ·rintro σ H' ⟨o3,o4,rfl,g,ed,_⟩;rw[az,bl,Ab]at ed;exact⟨_,(Z7 (Zc (pv 2))),_,rfl,hq d _ n_d g ed⟩
theorem wH(eN:mg "sum"=none)(F:Fun K "things_in" "things_in" cz f fd):FnOk P w K mg base CX0 1 f fd ["stream"] uL:=by
 refine F.ok f8 (fun vs H Q E h=>?_) (fun cdv A outer s H vs Q E hr h=>?_)
 ·obtain⟨r,ts,rfl,_⟩:=h;rfl
 obtain⟨r,ts,rfl,hd,tl,hq⟩:=h;refine⟨_,(Z7 (Zc (Y1 (iE rfl) rfl eN PyProof.Rows.boot_sum (Z0 (Xy (own:=["day","mark","number","many"]) (R0 rfl rfl) (Yw (pv 0))
  (fun _ _ _ _ _=>(V4 K 4 rfl rfl (Z8 (Z9 (i:=0) Yx rfl (Or.inl rfl) (Or.inr rfl)) (Z8 (Z9 (i:=1) Yx rfl (Or.inl rfl) (Or.inr rfl)) (Z8 (Z9 (i:=2) Yx rfl (Or.inl rfl) (Or.inr rfl)) (Z8 (Z9 (i:=3) Yx rfl (Or.inl rfl) (Or.inr rfl)) Zo)))))) (fun _ _ _ _ _=>Wh)
  (fun _ _ _ _ _=>(pv 3))) Z1)))),?_⟩
 obtain⟨_,xs,e0,e_r,ds⟩:=DV.list_inv hd;cases e0;refine⟨_,rfl,r,rfl,⟨_,SqL.of e_r⟩,je (fun _=>true) (fun t=>.int t.many) e_r ds (by omega) ?_ ?_⟩
 ·rintro t c ys C mt ec h1 _;exact⟨c,_,rfl,SqT.of ec,rfl,_,_,rfl,_,_,rfl,_,_,rfl,_,_,rfl,rfl,Wk.refl _,_,rfl,h1 rfl⟩
 intro q nq;refine⟨q,ts.map Th.many,rfl,SqL.of ?_,hq _ (Z6 nq _)⟩;rw[Z2,List.filter_eq_self.mpr (fun _ _=>rfl),Al];rfl
theorem xq(aU:Has P w K mg base "added_counts" 1 ["one","other"] jZ)(F:Fun K "standing_of" "standing_of" bW f fd):FnOk P w K mg base CX0 2 f fd ["stream"] fI:=by
 refine F.ok Qz (fun vs H Q E h=>?_) (fun cdv A outer s H vs Q E hr h=>?_)
 ·obtain⟨r,ts,rfl,_⟩:=h;rfl
 obtain⟨r,ts,rfl,hd,tl,hq⟩:=h;refine⟨_,(Z7 (Zc (Z4 aU hr (Z0 (Zn Z1) (Z0 (Xy (own:=["day","mark","number","many"]) (R0 rfl rfl) (Yw (pv 0))
  (fun _ _ _ _ _=>(V4 K 4 rfl rfl (Z8 (Z9 (i:=0) Yj rfl (Or.inl rfl) (Or.inr rfl)) (Z8 (Z9 (i:=1) Yj rfl (Or.inl rfl) (Or.inr rfl)) (Z8 (Z9 (i:=2) Yj rfl (Or.inl rfl) (Or.inr rfl)) (Z8 (Z9 (i:=3) Yj rfl (Or.inl rfl) (Or.inr rfl)) Zo)))))) (fun _ _ _ _ _=>Wh)
  (fun _ _ _ _ _=>(Zn (Z0 (Zn (Z0 Z5 (Z0 (pv 2) Z1))) (Z0 (pv 3) Z1))))) Z1))))),?_⟩
 obtain⟨_,xs,e0,e_r,ds⟩:=DV.list_inv hd;cases e0;have xl:=ds.length;rw[az]at xl;refine⟨leN rfl,fun c n_c=>?_⟩;have s1:=Z6 n_c (.tup []);have CJ:(upd H c (.tup [])) c=some (.tup []):=Z2;generalize upd H c (.tup [])=H1 at s1 CJ⊢;have yS:=s1 _ _ e_r;refine⟨_,rfl,r,rfl,⟨_,SqL.of yS⟩,?_⟩;refine Ws (xs:=xs) (fun n ys H'=>∃bs:List Addr,Same H1 H'∧ys=bs.map V.ref∧Paired (FT H') bs ((cm ts).take n)) ⟨[],Same.refl _,rfl,.nil⟩ ?_ ?_ ?_
 ·rintro n ys H' _ ⟨_,g,_⟩;exact SqL.of (g _ _ yS)
 ·rintro n x ys H' C hx ⟨bs,g,rfl,pr⟩ hC;have nl:=(zM.mp hx).1;obtain⟨t,c',ht,rfl,ec,mt⟩:=DVs.th_at ds hx;have ec:=g _ _ (s1 _ _ ec);have bl:=zV pr;rw[z5]at bl;refine⟨Zj (by rw[az];omega),c',_,rfl,SqT.of ec,rfl,_,_,rfl,_,_,rfl,_,_,rfl,_,_,rfl,rfl,Wk.refl _,_,rfl,leN rfl,fun a na=>?_⟩;have g1:=Z6 na (.tup [.int 0,.int t.num]);have CL:KAt (upd H' a (.tup [.int 0,.int t.num])) a (0,t.num):=Z2;generalize upd H' a (.tup [.int 0,.int t.num])=H2 at g1 CL⊢;refine⟨_,rfl,leN rfl,fun b nb=>?_⟩;have g2:=Z6 nb (.tup [.ref a,.int t.many]);have CG:(upd H2 b (.tup [.ref a,.int t.many])) b=some (.tup [.ref a,.int t.many]):=Z2;have CL:KAt _ a (0,t.num):=g2 _ _ CL;generalize upd H2 b (.tup [.ref a,.int t.many])=H3 at g2 CL CG⊢;refine hC _ _ ⟨bs++[b],g.trans (g1.trans g2),by rw[zW];rfl,?_⟩;have h2:(cm ts)[n]?=some ((0,t.num),t.many):=by
   unfold cm;rw[z9,ht];rfl
  rw[Zv h2];exact BS (Paired.mapP pr fun _ _ f=>Zs (g1.trans g2) f) ⟨a,CG,CL⟩
 rintro ys H' ⟨bs,g,rfl,pr⟩;have sl:(cm ts).length=ts.length:=az _;rw[xl,←sl,Ab]at pr;have bl:=zV pr;refine⟨Zl (by rw[az];omega),fun l nl=>?_⟩;have g2:=Z6 nl (.lst (bs.map V.ref));refine⟨c,l,bs,cm ts,rfl,g2 _ _ (g _ _ CJ),Z2,Paired.mapP pr fun _ _ f=>Zs g2 f,by omega,fun d H3 nd g3 ed=>?_⟩;exact hq d _ (s1.free (g.free (g2.free nd))) (s1.trans (g.trans (g2.trans g3))) ed
theorem O7(am:mg "isinstance"=none)(bF:mg "tuple"=none)(bT:mg "len"=none)(bS:Has P w K mg base "is_whole_within" 3 ["thing","least","most"] yL)(b7:Has P w K mg base "last_of" 2 ["stretch"] gF)(F:Fun K "is_stretch" "is_stretch" ce f fd):FnOk P w K mg base CX0 4 f fd ["thing","deep"] rZ:=by
 refine F.ok Vb (fun vs H Q E h=>?_) (fun cdv A outer s H vs Q E hr h=>?_)
 ·obtain⟨p,n,or,rfl,_⟩:=h;rfl
 obtain⟨p,n,or,rfl,e,d0,d1,hq⟩:=h;refine⟨_,(Z3 (Y8 (PW.pt (V3 (Vd (Wd (Y1 V8 rfl am AC (Z0 (pv 0) (Z0 (V5 (v:=.ty "tuple") rfl bF PyProof.Rows.boot_tuple rfl) Z1))))) (Vc (Zi P5 (Y1 Xf rfl bT Cp (Z0 (pv 0) Z1)) Z5 (Zh _))))) (Z7 (Zc Xn)) Zr)
 (Z3 (Yt (pv 0) (Y6 rfl (Z8 (Z9 (i:=2) Vb.nd rfl (Or.inl rfl)) (Z8 (Z9 (i:=3) Vb.nd rfl (Or.inl rfl)) Zo))))
 (Z7 (Zc (Rg (Z4 bS hr (Z0 (pv 2) (Z0 Z5 (Z0 (pv 1) Z1)))) (Rf (Z4 bS hr (Z0 (pv 3) (Z0 Z5 (Z0 (Z4 b7 hr (Z0 (Zn (Z0 (Ze Xl (pv 1) (pv 2)) (Z0 Z5 Z1))) Z1)) Z1)))))))))),?_⟩
 have kp:Kd H (.ref p) "tuple":=.tup e;refine⟨_,rfl,_,_,"tuple",_,rfl,kp.ty,kp.kit (by decide) rfl,_,rfl,Xg ?_⟩;refine⟨_,rfl,p,_,rfl,.inr (SqT.of e),rfl,_,rfl,Xg ?_⟩;refine⟨_,rfl,p,_,rfl,SqT.of e,rfl,_,_,rfl,_,_,rfl,rfl,?_⟩;refine⟨_,rfl,_,rfl,0,0,or,rfl,_,rfl,?_⟩;rw[zP (Ah 0),zP d0];refine U9 ⟨_,rfl,_,rfl,_,rfl,_,_,rfl,rfl,leN rfl,fun r nr=>⟨r,(or-0,0),rfl,Z2,by show 0≤or-0;omega,by show or-0≤20;omega,Ah _,by show(0:Int)≤_;decide,fun H' g=>⟨n,0,_,rfl,?_⟩⟩⟩;have e2:aD (or-0,0)=2^or.toNat-1:=by
  unfold aD;show(0+1)*(2:Int)^(or-0).toNat-1=_;rw[Int.sub_zero,BF,AI]
 rw[e2];exact hq _ ((Z6 nr _).trans g)
end
end K34
namespace L2
open PySem PySem.Spec PyProof.Rows
section
variable{P:Program}{w:World}{A:Around}{E:Value→Shared→Prop}{s:Shared}{a b:Addr}{xa xb:List TKv}{H:Hp}{ps qs:Sps}
theorem Tp{α β:Type}{F:α→β→Prop}:∀{xs:List α}{ys:List β}{i:Nat}{x:α},Paired F xs ys→xs[i]?=some x→∃y,ys[i]?=some y∧F x y
 |_,_,_,_,.nil,e=>by simp at e
 |_,_,0,_,.cons a _,e=>by simp at e;subst e;exact⟨_,rfl,a⟩
 |_,_,i+1,x,.cons _ r,e=>by
  obtain⟨y,h1,h2⟩:=Tp (i:=i) r (by simpa using e);exact⟨y,by simpa using h1,h2⟩
theorem pN{α β:Type}{f:α→β}:∀{l:List α},(l.map f).Nodup→∀{a b:α},a∈l→b∈l→f a=f b→a=b
 |x::l,nd,a,b,ha,hb,e=>by
  rw[zH,Ae]at nd
  rcases zZ.mp ha with ha | ha
  ·rcases zZ.mp hb with hb | hb
   ·rw[ha,hb]
   ·exact absurd (zF.mpr ⟨b,hb,by rw[←e,ha]⟩) nd.1
  ·rcases zZ.mp hb with hb | hb
   ·exact absurd (zF.mpr ⟨a,ha,by rw[e,hb]⟩) nd.1
   ·exact pN nd.2 ha hb e
theorem vc{ps:Sps}{xs:List TKv}(r:KT H (af ps) xs){j:Nat}{x:TKv}(h:xs[j]?=some x):∃p t,ps[j]?=some p∧x.1=kk p.1∧x.2.2=.int p.2 t:=by
 have kl:=zV r;rw[Zk]at kl;have hj:j<ps.length:=by rw[kl];exact(zM.mp h).1
 obtain⟨p,hp⟩:∃p,ps[j]?=some p:=⟨ps[j],AF hj⟩;have e2:(af ps)[j]?=some (kk p.1,.int p.2):=by unfold af;rw[z9,hp];rfl
 obtain⟨y,hy,f⟩:=Tp r e2;rw[h]at hy;cases hy;obtain⟨f1,_,t,f3⟩:=f;exact⟨p,t,hp,f1.symm,f3⟩
theorem rF{nm:String}{Q:Bool→Shared→Prop}(hu:A.units<cLine)(ha:(a==sysModules)=false)(hb:(b==sysModules)=false)(da:s.heap.DictOfH (tupleKind (ak P w)) a xa)(db:s.heap.DictOfH (tupleKind (ak P w)) b xb)(ra:KT H (af ps) xa)(rb:KT H (af qs) xb)(h:Q (decide (ps.length=qs.length) && ps.all fun p=>decide (p∈qs)) s):
  wpAny (model P w) A (Builtin.Dict.samePairs nm a b) Q E s:=by
 obtain⟨oa,ea,pa,ga,xca,qa,ta,ka,na⟩:=da;obtain⟨ob,eb,pb,gb,xcb,qb,tb,kb,nb⟩:=db;have la:ea.size=ps.length:=by rw[←zU,ta,az,←zV ra,Zk]
 have lb:eb.size=qs.length:=by rw[←zU,tb,az,←zV rb,Zk]
 have sh:∀{d:Addr}{R:Unit→Shared→Prop},(d==sysModules)=false→R () s→wpAny (model P w) A (Builtin.Dict.showsAll d) R E s:=fun{d R} hd hr=>by
  unfold Builtin.Dict.showsAll;rw[pi (by rw[hd];decide)];exact zC hr
 unfold Builtin.Dict.samePairs;refine ae (sh ha (ae (sh hb (ae (Av ga qa (ae (Av gb qb ?_)))))));by_cases hl:ps.length=qs.length
 ·rw[if_neg (by rw[la,lb,hl];simp)];refine ae (Cq ga qa (ae ?_));rw[Std.Legacy.Range.forIn_eq_forIn_range'];refine AU (wpAny_forIn_list _ (fun rest r s'=>∃i,rest=List.range' i (ea.size-i)∧i≤ea.size∧r=(none,())∧s=s'∧∀p∈ps.take i,p∈qs)
   (fun r s'=>s=s'∧((r=(none,())∧(ps.all fun p=>decide (p∈qs))=true)∨(r=(some false,())∧(ps.all fun p=>decide (p∈qs))=false))) ?_ ?_ _ _ ⟨0,?_,BI _,rfl,rfl,?_⟩) ?_ (fun _ _ z=>z)
  ·rintro x rest r s' ⟨i,he,hi,rfl,rfl,hp⟩;have hin:i<ea.size:=by
    rcases AE i ea.size with z | z
    ·exact z
    ·rw[Nat.sub_eq_zero_of_le z]at he;cases he
   rw[show ea.size-i=(ea.size-(i+1))+1 by omega,List.range'_succ]at he;obtain⟨rfl,rfl⟩:=List.cons.inj he.symm;have hge:ea[i]?=some ea[i]:=zJ hin;have hx:(xa.map (entryOfKey (tupleKind (ak P w))))[i]?=some ea[i]:=by rw[←ta,zL];exact hge
   rw[z9]at hx;obtain⟨x,hxi,hxe⟩:=AV.mp hx;obtain⟨p,t,hpi,e1,e2⟩:=vc ra hxi;have tk:ps.take (i+1)=ps.take i++[p]:=Zv hpi;have fF:p∉qs→(ps.all fun p=>decide (p∈qs))=false:=fun hs=>List.all_eq_false.mpr ⟨p,z7 hpi,by rw[As hs];decide⟩;have fT:p∈qs→∀q∈ps.take (i+1),q∈qs:=fun hs q hq=>by
    rw[tk]at hq
    rcases zT.mp hq with z | z
    ·exact hp q z
    ·rw[zG.mp z];exact hs
   have kx:ea[i].key=.ref x.2.1:=by rw[←hxe];rfl
   have hv:ea[i].val=.int p.2 t:=by rw[←hxe];exact e2
   have hh:ea[i].hash=(tupleKind (ak P w)).hash x.1:=by rw[←hxe];rfl
   refine ae (Av ga qa ?_);rw[hge];refine ae (Ax (ae ?_));rw[kx,hh];refine wpAny_dictFind_heap (show A.units<cLine from hu) (ka x (z7 hxi)) gb qb tb kb nb (fun no=>?_) (fun j q hj=>?_)
   ·refine zC ?_;rw[zE (by decide)];refine zC ⟨rfl,.inr ⟨rfl,fF fun hm=>?_⟩⟩;obtain⟨j,hj⟩:=Co hm;have e3:(af qs)[j]?=some (kk p.1,.int p.2):=by unfold af;rw[z9,hj];rfl
    obtain⟨y,hy,f⟩:=Tp rb e3;refine no j y.2 ?_;rw[hy,e1];exact AX some (AT f.1.symm rfl)
   ·obtain⟨p2,t2,hp2,e3,e4⟩:=vc rb hj;have e3:x.1=kk p2.1:=e3;have ke:p.1=p2.1:=Vh (e1.symm.trans e3);have hbj:eb[j]?=some (entryOfKey (tupleKind (ak P w)) (x.1,q)):=by
     rw[←zL,tb,z9,hj];rfl
    refine ae (Av gb qb ?_);rw[hbj];refine Ax ?_;rw[hv,show(entryOfKey (tupleKind (ak P w)) (x.1,q)).val=.int p2.2 t2 from e4];refine wpAny_eqBool_int ?_;by_cases z:p.2=p2.2
    ·rw[if_neg (by simp[z])];refine ae (Cq ga qa ?_);rw[if_neg (by simp)];refine zC ⟨i+1,rfl,by omega,rfl,rfl,fT ?_⟩;rw[show p=p2 from AT ke z];exact z7 hp2
    ·rw[if_pos (by simp[z])];refine zC ⟨rfl,.inr ⟨rfl,fF fun hm=>z ?_⟩⟩;have nq:(qs.map (·.1)).Nodup:=by
      have:(xb.map (·.1))=(af qs).map (·.1):=sF rb;rw[this,Vk]at nb;exact(A8.mp nb).imp fun h e=>h (by rw[e])
     have:=pN nq hm (z7 hp2) ke;rw[this]
  ·rintro r s' ⟨i,he,hi,rfl,rfl,hp⟩;refine⟨rfl,.inl ⟨rfl,?_⟩⟩;have hz:ea.size-i=0:=by
    cases hq:ea.size-i with
    |zero=>rfl
    |succ q=>rw[hq,List.range'_succ]at he;cases he
   rw[Bg (by omega)]at hp;exact Az.mpr fun p hm=>zP (hp p hm)
  ·simp
  ·intro p hp;simp at hp
  ·rintro r s' ⟨rfl,⟨rfl,hv⟩|⟨rfl,hv⟩⟩
   ·rw[hv,zP hl]at h;exact zC h
   ·rw[hv,Bool.and_false]at h;exact zC h
 ·rw[if_pos (by rw[la,lb];simpa using hl)];rw[As hl,BY]at h;exact ae (Bo (zC h))
end
section
variable{P:Program}{w:World}{A:Around}{E:Value→Shared→Prop}{s:Shared}{a b:Addr}{xa xb:List TKv}{ps qs:Sps}
theorem Pb(H:Hp)(ha:(a==sysModules)=false)(hb:(b==sysModules)=false):MeetsIn P w (Builtin.«dict.__eq__» ⟨[.ref a,.ref b],[]⟩) (fun A R s=>A.in1.units<cLine∧s.heap.DictOfH (tupleKind (ak P w)) a xa∧s.heap.DictOfH (tupleKind (ak P w)) b xb∧
  KT H (af ps) xa∧KT H (af qs) xb∧R (.ok (.ret (.bool (decide (ps.length=qs.length) && ps.all fun p=>decide (p∈qs))))) s):=
 .of_wp fun A R s ⟨hu,da,db,ra,rb,h⟩=>by
  show wpAny _ _ (Builtin.Dict.dictSlotArgs "__eq__" ⟨[.ref a,.ref b],[]⟩ >>= _) _ _ s;refine ae ?_;unfold Builtin.Dict.dictSlotArgs;refine ae (Ba da.typeIs ?_);show wpAny _ _ (pure (Value.ref a,Value.ref b)) _ _ s;refine zC ?_;refine ae (wpAny_isInstance db.typeIs isSubtype_dict_dict ?_);rw[pi (by decide)];show wpAny _ _ (Builtin.Dict.samePairs _ a b >>= _) _ _ s;refine ae (rF (show A.in1.units<cLine from hu) ha hb da db ra rb ?_);have bt:∀c:Bool,(c==true)=c:=fun c=>by cases c <;> rfl
  rw[bt];exact zC ⟨_,rfl,h⟩
def y8:R2:=fun x y H Q=>∃a b ps qs,x=.ref a∧y=.ref b∧H a=some (.dT (af ps))∧H b=some (.dT (af qs))∧Q (.bl (decide (ps.length=qs.length) && ps.all fun p=>decide (p∈qs))) H
theorem lU{X:Cx}(hu:X.A.units+64<cLine):OpR X (compareOp .Eq) y8:=by
 intro CA s σ H x y v u Q I rx ry h;obtain⟨a,b,ps,qs,rfl,rfl,ea,eb,q⟩:=h;cases rx;cases ry;obtain⟨za,ha,va,ra,da⟩:=k7 I.hok ea;obtain⟨zb,hb,vb,rb,db⟩:=k7 I.hok eb;refine wpAny_richCompare_same_room (op:=.Eq) da.typeIs db.typeIs PySem.F.slot_dict_eq (call_meetsIn PySem.F.slot_dict_eq da.typeIs PySem.F.entry_dict_eq (PySem.F.args_dict_eq_2 _ _) (Pb H ha hb) ⟨?_,da,db,ra,rb,?_⟩) (by omega)
 ·exact(show X.A.units+1<cLine by omega)
 ·exact⟨(fun z=>nomatch z),.bl _,H,I,rfl,q⟩
end
end L2
namespace K34
open PySem L2 Ld
theorem V9:∀{ys xs:Sps}{k:Int×Int},k∈(ay xs ys).map (·.1)→k∈xs.map (·.1)∨k∈ys.map (·.1)
 | [],_,_,h=>.inl h
 |p::ys,xs,k,h=>by
  rw[Wb]at h
  rcases V9 h with h | h
  ·rw[Xw]at h
   split at h
   ·exact .inl h
   ·rcases zT.mp h with h | h
    ·exact .inl h
    ·rw[zG.mp h];exact .inr (.head _)
  ·exact .inr (.tail _ h)
theorem Qu{ts:List Th}{e:(Int×Int)×Int}(h:e∈av ts):∃n,e.1=(0,n):=by
 rcases V9 (zF.mpr ⟨e,h,rfl⟩)with h | h
 ·exact absurd h Am
 ·unfold cm at h;rw[Al]at h;obtain⟨t,_,e⟩:=zF.mp h;exact⟨t.num,e.symm⟩
theorem Vy(ts:List Th):(av ts).length≤ts.length:=by
 have:=Wn (cm ts) [];rw[AO,Bs,show(cm ts).length=ts.length from az _]at this;exact this
theorem Qo{ps:Sps}{i:Nat}{p:List Key×V}(h:(af ps)[i]?=some p):∃q,ps[i]?=some q∧p=(kk q.1,.int q.2):=by
 unfold af at h;rw[z9]at h;cases e:ps[i]? with
 |none=>rw[e]at h;cases h
 |some q=>rw[e]at h;cases h;exact⟨q,rfl,rfl⟩
theorem Vl{H H':Hp}{d:Addr}{o:Obj}{kvs:List (List Key×V)}(e:H d=some (.dT kvs))(g:Same (upd H d (.frz o (.dT kvs))) H'):Same H (upd H' d (.dT kvs)):=fun b u h=>by
 by_cases z:b=d
 ·rw[z]at h⊢;rw[e]at h;rw[←h];exact Z2
 ·rw[Za z];exact g b u (by rw[Za z];exact h)
theorem jw{α:Type}{l:List α}{i:Nat}{x:α}(h:l[i]?=some x):l.drop i=x::l.drop (i+1):=by
 obtain⟨hi,e⟩:=zM.mp h;rw[List.drop_eq_getElem_cons hi,e]
theorem Uu{ps:Sps}{k:Int×Int}(h:1≤cnt ps k):k∈ps.map (·.1):=Classical.byContradiction fun n=>by
 rw[Y3 n]at h;omega
section
variable{P:Program}{w:World}{K:W.Frag}{mg:Str→Option Value}{base:Heap}{f:Addr}{fd:FuncData}
theorem om(pD:mg "all"=none)(aM:mg "dict"=none)(bX:Has P w K mg base "standing_of" 2 ["stream"] fI)(iF:Has P w K mg base "things_in" 1 ["stream"] uL)(gC:Has P w K mg base "is_stretch" 4 ["thing","deep"] rZ)(dP:Has P w K mg base "fold_up" 2 ["counts","stretch","many"] lA)(F:Fun K "is_folded" "is_folded" cB f fd):FnOk P w K mg base CX0 5 f fd ["stream","ladder","paper"] di:=by
 refine F.ok Yp (fun vs H Q E h=>?_) (fun cdv A outer s H vs Q E hr h=>?_)
 ·obtain⟨r,q,p,ts,Cz,or,total,qs,CF,rfl,_⟩:=h;rfl
 obtain⟨r,q,p,ts,Cz,or,total,qs,CF,rfl,k_r,tl,lad,nq,ql,d0,d1,⟨bs,CH,pb⟩,pl,hq⟩:=h;obtain⟨c,as,CM,CJ,pr⟩:=lad.at_;have sl:=Vy ts;have hF:aK ts≠total∨((av ts).all fun e=>inB or e.1)=false→eQ or total ts qs CF=false:=fun h=>by
  unfold eQ
  rcases h with h | h
  ·rw[As h,BY,BY]
  ·rw[h,Bool.and_false,BY]
 have hT:aK ts=total→((av ts).all fun e=>inB or e.1)=true→eQ or total ts qs CF=dU or qs (av ts) CF:=fun h1 h2=>by
  unfold eQ;rw[zP h1,h2,Bool.true_and,Bool.true_and]
 generalize eQ or total ts qs CF=B at hq hF hT;refine⟨_,(Z3 (Yt (pv 1) (Y6 rfl (Z8 (Z9 (i:=3) Yp.nd rfl (Or.inl rfl)) (Z8 (Z9 (i:=4) Yp.nd rfl (Or.inr rfl)) (Z8 (Z9 (i:=5) Yp.nd rfl (Or.inl rfl)) (Z8 (Z9 (i:=6) Yp.nd rfl (Or.inl rfl)) Zo)))))) Zb),?_⟩;refine⟨_,rfl,q,_,rfl,SqT.of CM,rfl,_,_,rfl,_,_,rfl,_,_,rfl,_,_,rfl,rfl,?_⟩;refine⟨_,(Z3 (Zy 7 Yp.nd rfl (Or.inl rfl) (Z4 bX hr (Z0 (pv 0) Z1))) Zb),?_⟩;refine⟨_,rfl,r,ts,rfl,k_r,tl,fun d H1 n_d g1 e_d=>?_⟩;refine⟨_,(Z3 (Y8 (PW.pt (V3 (Zi P5 (Z4 iF hr (Z0 (pv 0) Z1)) (pv 6) (Zh _)) (Vc (Vd (Wd (Y1 (q5 rfl) rfl pD PyProof.Rows.boot_all (Z0 (mq (Xy (own:=["one"]) (R0 rfl rfl) (Sh (pv 7))
  (fun _ _ _ _ _=>(Z9 (i:=0) Td rfl (Or.inl rfl) (Or.inr rfl))) (fun _ _ _ _ _=>Wh)
  (fun _ _ _ _ _=>(Z4 gC hr (Z0 (pv 0) (Z0 (pv 5) Z1)))))) Z1))))))) (Z7 (Zc Xn)) Zr) Zb),?_⟩
 refine⟨_,rfl,r,ts,rfl,k_r.mono g1,tl,fun H2 g2=>⟨_,rfl,rfl,_,rfl,Xh (fun c1=>U9 ?_) (fun c1=>?_)⟩⟩
 ·have c1:aK ts≠total:=by simpa using c1
  rw[hF (.inl c1)]at hq;exact hq _ (g1.trans g2)
 have c1:aK ts=total:=by simpa using c1
 have hF2:=fun h=>hF (.inr h);have hT:=hT c1;clear hF;have e_d:=g2 _ _ e_d;have gg:=g1.trans g2;clear g1 g2;have nS:∀e∈av ts,∃n,e.1=(0,n):=fun e h=>Qu h;generalize av ts=S at e_d sl hF2 hT nS;refine⟨d,_,e_d,fun o=>⟨_,rfl,d,o,_,rfl,Z2,?_⟩⟩;refine S2 (fun i ys H'=>Same (upd H2 d (.frz o (.dT (af S)))) H'∧ys=((S.take i).map fun e=>inB or e.1).map V.bl) ⟨Same.refl _,rfl⟩ ?_ ?_ ?_ ?_
 ·rintro i ys H' ⟨g5,_⟩;exact g5 _ _ Z2
 ·rintro i p0 b ys H5 C hp0 CG ⟨g5,rfl⟩ hC;obtain⟨e,he,rfl⟩:=Qo hp0;have em:=z7 he;obtain⟨n,hn⟩:=nS e em;have CG:KAt H5 b e.1:=CG;rw[hn]at CG;refine⟨Zj (by rw[az,az,z5];omega),Wk.refl _,_,rfl,_,rfl,b,n,or,rfl,CG,d0,d1,fun H6 g6=>hC _ _ ⟨g5.trans g6,?_⟩⟩;rw[Zv he,zW,zW];show _=_++[V.bl (inB or e.1)];rw[hn]
 ·rintro i ys H' ⟨_,rfl⟩;exact Zj (by rw[az,az,z5];omega)
 rintro ys H5 ⟨g5,rfl⟩;rw[Zk,Ab];refine⟨Zl (by rw[az,az];omega),fun l n_l=>?_⟩;have ld:l≠d:=fun z=>by rw[z,g5 _ _ Z2]at n_l;cases n_l
 have g6:=g5.trans (Z6 n_l (.lst ((S.map fun e=>inB or e.1).map V.bl)));have sz:=Vl e_d g6;have gg:=gg.trans sz;have du:=sz _ _ e_d;refine⟨g6 _ _ Z2,l,_,rfl,SqL.of (by rw[Za ld];exact Z2),?_⟩;rw[List.all_map];generalize upd (upd H5 l (.lst ((S.map fun e=>inB or e.1).map V.bl))) d (.dT (af S))=H6 at gg du⊢;clear sz g6 g5 e_d;refine⟨_,rfl,Xh (fun c2=>?_) (fun c2=>?_)⟩
 ·have c2:(S.all fun e=>inB or e.1)=false:=by simpa using c2
  rw[hF2 c2]at hq;exact hq _ gg
 have c2:(S.all fun e=>inB or e.1)=true:=by simpa using c2
 rw[hT c2]at hq;clear hT hF2 c1 c2 nS;refine⟨_,(Z3 (X8 Ao rfl (Yw (pv 2)) (Y6 rfl (Z8 (Z9 (i:=8) Yp.nd rfl (Or.inl rfl)) (Z8 (Z9 (i:=9) Yp.nd rfl (Or.inl rfl)) Zo)))
 (Z3 (Y8 (PW.pt (V3 (Zi Rr (pv 9) Z5 (Zh _)) (V3 (Zi jd (Xb Xd (pv 8) Z5) (pv 4) (Zh _)) (Vc (Zi Rt (pv 9) (X1 (Yg hr) (pv 7) (pv 8) Z5 ⟨rfl,rfl,rfl,rfl⟩) (Zh _)))))) (Z7 (Zc Xn)) Zr)
 (Z7 (Xj (Z4 dP hr (Z0 (pv 7) (Z0 (pv 8) (Z0 (pv 9) Z1)))))))) Zb),?_⟩
 refine⟨_,rfl,p,rfl,⟨_,SqL.of (gg _ _ CH)⟩,?_⟩;have bl:=zV pb;refine Xs (xs:=bs.map V.ref) (fun i σ H'=>∃(o8 o9:Option V)(ps:Sps),σ=[some (.ref r),some (.ref q),some (.ref p),some (.int Cz),some (.int or),some (.ref c),some (.int total),some (.ref d),o8,o9]∧Same H H'∧H' d=some (.dT (af ps))∧ps.length≤1000+2*i∧dU or qs ps (CF.drop i)=dU or qs S CF) ⟨_,_,S,rfl,gg,du,by omega,rfl⟩ ?_ ?_ ?_
 ·rintro i σ H' _ ⟨_,_,_,_,g,_⟩;exact SqL.of (g _ _ CH)
 ·rintro i x σ H' N B1 R hN hR hx ⟨o8,o9,ps,rfl,g,ed,al,key⟩;obtain⟨a,⟨k,m⟩,rfl,hp,b,CL,CG⟩:=Vi pb hx;have il:i<CF.length:=(zM.mp hp).1;have CL:=g _ _ CL;have CG:KAt H' b k:=g _ _ CG;rw[jw hp]at key;have key:(if m<1∨or≤k.1∨cnt ps k<m then false else dU or qs (bE ps k m) (CF.drop (i+1)))=dU or qs S CF:=key;refine⟨a,_,rfl,SqT.of CL,rfl,_,_,rfl,_,_,rfl,rfl,?_⟩;refine⟨_,rfl,_,_,rfl,rfl,_,rfl,Xh (fun c1=>U9 ?_) (fun c1=>?_)⟩
  ·rw[zE (.inl (zO c1))]at key;rw[←key]at hq;exact hR _ _ (hq _ g)
  have c1:¬m<1:=AJ (AG.mpr c1);refine⟨_,rfl,b,_,0,_,rfl,rfl,SqT.of CG,rfl,_,rfl,_,_,rfl,rfl,_,rfl,Xh (fun c2=>U9 ?_) (fun c2=>?_)⟩
  ·rw[zE (.inr (.inl (zO c2)))]at key;rw[←key]at hq;exact hR _ _ (hq _ g)
  have c2:¬or≤k.1:=AJ (AG.mpr c2);refine⟨_,rfl,_,rfl,d,rfl,.inr ⟨_,.inl ed⟩,_,rfl,_,Y7 ed CG,_,_,rfl,Ys _ _,_,rfl,Xh (fun c3=>?_) (fun c3=>?_)⟩
  ·rw[zE (.inr (.inr (zO c3)))]at key;rw[←key]at hq;exact hR _ _ (hq _ g)
  have c3:¬cnt ps k<m:=AJ (AG.mpr c3);rw[pi fun h=>h.elim c1 fun h=>h.elim c2 c3]at key;have l1:=nH ps k m;refine⟨_,rfl,_,rfl,_,rfl,d,b,ps,k,m,rfl,ed,CG,Uu (by omega),by omega,fun H3 g3 e3=>?_⟩;exact hN _ _ ⟨_,_,_,rfl,oz n_d g g3,e3,by omega,key⟩
 ·rintro σ H' ⟨o8,o9,ps,rfl,g,ed,al,key⟩;rw[az,bl,List.drop_length]at key;have key:eqB ps qs=dU or qs S CF:=key;rw[←key]at hq;refine⟨_,(Z7 (Zc (Xz (lU hr.units) (pv 7) (Y9 (Xu rfl hr.units) rfl aM A6 (Z0 (pv 5) Z1)) (Zh _)))),?_⟩;refine⟨_,rfl,_,rfl,c,_,_,rfl,g _ _ CJ,Tz (Paired.mapP pr fun _ _ f=>Zs g f),by rw[Zk];omega,fun z nz=>?_⟩;rw[Wy (rM nq)];have g4:=Z6 nz (.dT (af qs));exact⟨d,z,ps,qs,rfl,rfl,g4 _ _ ed,Z2,hq _ (g.trans g4)⟩
end
theorem W7{ps:Sps}{k:Int×Int}{n:Int}{p:(Int×Int)×Int}(h:p∈au ps k n):p=(k,n)∨(p∈ps∧p.1≠k):=by
 unfold au at h
 split at h
 ·obtain⟨q,hq,rfl⟩:=zF.mp h
  split
  ·rename_i e;exact .inl (by rw[e])
  ·rename_i e;exact .inr ⟨hq,e⟩
 ·rename_i na
  rcases zT.mp h with h | h
  ·exact .inr ⟨h,fun e=>na (Qj.mpr (zF.mpr ⟨p,h,e⟩))⟩
  ·exact .inl (zG.mp h)
theorem Qi{ps:Sps}(nn:∀p∈ps,0≤p.2)(nd:(ps.map (·.1)).Nodup)(k:Int×Int):0≤cnt ps k:=by
 by_cases hk:k∈ps.map (·.1)
 ·obtain⟨p,hp,rfl⟩:=zF.mp hk;rw[Yu nd hp];exact nn p hp
 ·rw[Y3 hk];exact Ah _
def mv(f:Int×Int→Int)(k:Int×Int)(m:Int):Int×Int→Int:=fun x=>if x=k then f k-m else if x=ad k then f x+m else f x
theorem n6(ps:Sps)(k:Int×Int)(m:Int)(x:Int×Int):cnt (bE ps k m) x=mv (cnt ps) k m x:=by
 unfold bE mv
 split
 ·rename_i z;rw[jq];by_cases e:x=k
  ·rw[zE e,zE e,z]
  ·rw[pi e,pi e,Yy,pi e,Yy];by_cases q:x=ad k
   ·rw[zE q,zE q,q]
   ·rw[pi q,pi q]
 ·rw[Yy];by_cases e:x=k
  ·rw[zE e,zE e]
  ·rw[pi e,pi e,Yy];by_cases q:x=ad k
   ·rw[zE q,zE q,q]
   ·rw[pi q,pi q]
def b0(ls:Sps)(k:Int×Int)(m:Int):Sps:=au (au ls k (cnt ls k-m)) (ad k) (cnt (au ls k (cnt ls k-m)) (ad k)+m)
theorem N1(ls:Sps)(k:Int×Int)(m:Int)(x:Int×Int):cnt (b0 ls k m) x=mv (cnt ls) k m x:=by
 unfold b0 mv;rw[Yy,Yy,Yy,pi (Ne.symm (Ve k))];by_cases e:x=k
 ·rw[zE e,pi (by rw[e];exact Ve k),zE e]
 ·by_cases q:x=ad k
  ·rw[zE q,pi e,zE q,q]
  ·rw[pi q,pi e,pi e,pi q]
def e_(or:Int)(qs:Sps):Sps→Sps→Bool
 |ls,[]=>eqB qs (ls.filter fun p=>decide (0<p.2))
 |ls,(k,m)::r=>if m<1∨¬(0≤k.1∧k.1<or)∨cnt ls k<m then false else e_ or qs (b0 ls k m) r
structure Tab(ls:Sps):Prop where
 nd:(ls.map (·.1)).Nodup
 nn:∀p∈ls,0≤p.2
 ht:∀p∈ls,0≤p.1.1
structure Pos(ps:Sps):Prop where
 nd:(ps.map (·.1)).Nodup
 pos:∀p∈ps,0<p.2
theorem hZ{ls:Sps}{k:Int×Int}{m:Int}(t:Tab ls)(m1:1≤m)(k0:0≤k.1)(c:m≤cnt ls k):Tab (b0 ls k m):=by
 have a:=Qi t.nn t.nd;unfold b0;rw[Yy,pi (Ne.symm (Ve k))];refine⟨Ye (Ye t.nd),fun p hp=>?_,fun p hp=>?_⟩
 ·rcases W7 hp with rfl | ⟨hp,_⟩
  ·have:=a (ad k);show 0≤cnt ls (ad k)+m;omega
  ·rcases W7 hp with rfl | ⟨hp,_⟩
   ·show 0≤cnt ls k-m;omega
   ·exact t.nn p hp
 ·rcases W7 hp with rfl | ⟨hp,_⟩
  ·show 0≤k.1+1;omega
  ·rcases W7 hp with rfl | ⟨hp,_⟩
   ·exact k0
   ·exact t.ht p hp
theorem iH{ps:Sps}{k:Int×Int}{m:Int}(t:Pos ps)(m1:1≤m)(c:m≤cnt ps k):Pos (bE ps k m):=by
 have a:=Qi (fun p hp=>A7 (t.pos p hp)) t.nd;have core:∀p∈au (au ps (ad k) (cnt ps (ad k)+m)) k (cnt ps k-m),p.1≠k→0<p.2:=fun p hp n=>by
  rcases W7 hp with rfl | ⟨hp,_⟩
  ·exact absurd rfl n
  ·rcases W7 hp with rfl | ⟨hp,_⟩
   ·have:=a (ad k);show 0<cnt ps (ad k)+m;omega
   ·exact t.pos p hp
 unfold bE
 split
 ·refine⟨Sz (Ye (Ye t.nd)),fun p hp=>?_⟩;obtain⟨h1,h2⟩:=Aj.mp hp;exact core p h1 (zO h2)
 ·rename_i z;refine⟨Ye (Ye t.nd),fun p hp=>?_⟩;by_cases e:p.1=k
  ·rcases W7 hp with rfl | ⟨_,n⟩
   ·show 0<cnt ps k-m;omega
   ·exact absurd e n
  ·exact core p hp e
theorem Qt{α:Type}[DecidableEq α]:∀{l m:List α},l.Nodup→(∀a∈l,a∈m)→m.length≤l.length→∀a∈m,a∈l
 | [],m,_,_,h,a,ha=>by
  rw[AO]at h;rw[List.length_eq_zero_iff.mp (Nat.le_zero.mp h)]at ha;exact ha
 |x::l,m,nd,s,h,a,ha=>by
  rw[Ae]at nd;have hx:=s x (.head _);have le:=List.length_erase_of_mem hx;have lp:=List.length_pos_of_mem hx;rw[Ak]at h;by_cases e:a=x
  ·rw[e];exact .head _
  ·refine .tail _ (Qt (m:=m.erase x) nd.2 (fun y hy=>?_) (by omega) a ((List.mem_erase_of_ne e).mpr ha));exact(List.mem_erase_of_ne fun(z:y=x)=>nd.1 (by rw[←z];exact hy)).mpr (s y (.tail _ hy))
theorem Vv{ps qs:Sps}(np:ps.Nodup)(nq:qs.Nodup):eqB ps qs=true↔ps.Perm qs:=by
 unfold eqB;rw[Ap];refine⟨fun⟨h1,h2⟩=>?_,fun h=>⟨zP h.length_eq,Az.mpr fun p hp=>zP (h.mem_iff.mp hp)⟩⟩;have h1:=zO h1;have s:∀a∈ps,a∈qs:=fun a ha=>zO (Az.mp h2 a ha);exact Qb np nq fun a=>⟨s a,Qt np s (by omega) a⟩
theorem Oe{ps ls:Sps}(t:Pos ps)(u:Tab ls)(e:∀k,cnt ps k=cnt ls k):ps.Perm (ls.filter fun p=>decide (0<p.2)):=by
 refine Qb (Uq t.nd) ((Uq u.nd).filter _) fun p=>⟨fun hp=>?_,fun hp=>?_⟩
 ·have h1:=Yu t.nd hp;have h2:=t.pos p hp;rw[e]at h1;have hk:p.1∈ls.map (·.1):=Uu (by omega);obtain⟨q,hq,eq⟩:=zF.mp hk;have h3:=Yu u.nd hq;have:q=p:=AT eq (by rw[←h3,←h1,eq]);rw[←this];refine Aj.mpr ⟨hq,zP ?_⟩;rw[this];exact h2
 ·obtain⟨hq,h2⟩:=Aj.mp hp;have h2:=zO h2;have h1:=Yu u.nd hq;rw[←e]at h1;have hk:p.1∈ps.map (·.1):=Uu (by omega);obtain⟨q,hq,eq⟩:=zF.mp hk;have h3:=Yu t.nd hq;have:q=p:=AT eq (by rw[←h3,←h1,eq]);rw[←this];exact hq
theorem kr{or:Int}{qs:Sps}(nq:(qs.map (·.1)).Nodup):∀(r:Sps){ps ls:Sps},Pos ps→Tab ls→(∀k,cnt ps k=cnt ls k)→dU or qs ps r=e_ or qs ls r
 | [],ps,ls,t,u,e=>by
  have w:=Oe t u e;have n1:=Uq t.nd;have n2:=Uq nq;have n3:=(Uq u.nd).filter (fun p=>decide (0<p.2));show eqB ps qs=eqB qs _;refine AN.mpr ⟨fun h=>?_,fun h=>?_⟩
  ·exact(Vv n2 n3).mpr (((Vv n1 n2).mp h).symm.trans w)
  ·exact(Vv n1 n2).mpr (w.trans ((Vv n2 n3).mp h).symm)
 | (k,m)::r,ps,ls,t,u,e=>by
  show(if m<1∨or≤k.1∨cnt ps k<m then false else dU or qs (bE ps k m) r)=(if m<1∨¬(0≤k.1∧k.1<or)∨cnt ls k<m then false else e_ or qs (b0 ls k m) r);have ek:=e k;by_cases h1:m<1
  ·rw[zE (.inl h1),zE (.inl h1)]
  ·by_cases h2:cnt ps k<m
   ·rw[zE (.inr (.inr h2)),zE (.inr (.inr (by omega)))]
   ·have hk:k∈ls.map (·.1):=Uu (by omega);obtain⟨q,hq,eq⟩:=zF.mp hk;have h0:=u.ht q hq;rw[eq]at h0;by_cases h3:or≤k.1
    ·rw[zE (.inr (.inl h3)),zE (.inr (.inl fun z=>by omega))]
    ·rw[pi fun h=>h.elim h1 fun h=>h.elim h3 h2,pi fun h=>h.elim h1 fun h=>h.elim (fun z=>z ⟨h0,by omega⟩) fun z=>by omega];refine kr nq r (iH t (by omega) (by omega)) (hZ u (by omega) h0 (by omega)) fun x=>?_;rw[n6,N1];unfold mv;rw[e k,e x]
theorem Sq:∀{ys xs:Sps}{k:Int×Int},k∈xs.map (·.1)∨k∈ys.map (·.1)→k∈(ay xs ys).map (·.1)
 | [],_,_,h=>h.elim id fun h=>nomatch h
 |p::ys,xs,k,h=>by
  rw[Wb];have kp:k∈xs.map (·.1)∨k=p.1→k∈(au xs p.1 (cnt xs p.1+p.2)).map (·.1):=fun h=>by
   rw[Xw]
   split
   ·rename_i z
    rcases h with h | h
    ·exact h
    ·rw[h];exact z
   ·rcases h with h | h
    ·exact Ai _ h
    ·rw[h];exact zR _ (.head _)
  rcases h with h | h
  ·exact Sq (.inl (kp (.inl h)))
  ·rw[zH]at h
   rcases zZ.mp h with h | h
   ·exact Sq (.inl (kp (.inr h)))
   ·exact Sq (.inr h)
theorem gE:∀{ys xs:Sps},Pos xs→(∀p∈ys,0<p.2)→Pos (ay xs ys)
 | [],_,h,_=>h
 |p::ys,xs,h,g=>by
  refine gE (ys:=ys) ⟨Ye h.nd,fun q hq=>?_⟩ fun q hq=>g q (.tail _ hq)
  rcases W7 hq with rfl | ⟨hq,_⟩
  ·have:=Qi (fun p hp=>A7 (h.pos p hp)) h.nd p.1;have:=g p (.head _);show 0<cnt xs p.1+p.2;omega
  ·exact h.pos q hq
theorem Uw{ts:List Th}(h:∀t∈ts,1≤t.many):Pos (av ts):=by
 refine gE ⟨An,fun _ h=>nomatch h⟩ fun p hp=>?_;obtain⟨t,ht,rfl⟩:=zF.mp hp;exact h t ht
theorem S9{ts:List Th}(h:∀t∈ts,1≤t.many):Tab (av ts):=by
 have p:=Uw h;refine⟨p.nd,fun q hq=>A7 (p.pos q hq),fun q hq=>?_⟩;obtain⟨n,e⟩:=Qu hq;rw[e];exact Ah _
theorem Nj(ts:List Th):ag (av ts)=aK ts:=by
 unfold av;rw[Ue (xs:=[]) An];unfold ag aK cm;rw[Al];show(0:Int)+_=_;rw[BF];rfl
def j7(or total:Int)(ts:List Th)(qs CF:Sps):Bool:=(ts.all fun t=>decide (t.num<2^or.toNat)) && (decide (ag (av ts)=total) && e_ or qs (av ts) CF)
theorem Qg{or total:Int}{ts:List Th}{qs CF:Sps}(h:∀t∈ts,0≤t.num∧1≤t.many)(nq:(qs.map (·.1)).Nodup):eQ or total ts qs CF=j7 or total ts qs CF:=by
 have hm:=fun t ht=>(h t ht).2;unfold eQ j7;rw[Nj,kr nq CF (Uw hm) (S9 hm) fun _=>rfl];have al:((av ts).all fun e=>inB or e.1)=ts.all fun t=>decide (t.num<2^or.toNat):=by
  refine AN.mpr ⟨fun z=>?_,fun z=>?_⟩
  ·refine Az.mpr fun t ht=>zP ?_;have hk:(0,t.num)∈(av ts).map (·.1):=Sq (.inr (zF.mpr ⟨((0,t.num),t.many),zF.mpr ⟨t,ht,rfl⟩,rfl⟩));obtain⟨e,he,ee⟩:=zF.mp hk;have:=Az.mp z e he;unfold inB at this;rw[ee,Ap]at this;have:=zO this.2;have:t.num≤2^or.toNat-1:=this;omega
  ·refine Az.mpr fun e he=>?_
   rcases V9 (zF.mpr ⟨e,he,rfl⟩)with q | q
   ·exact absurd q Am
   ·unfold cm at q;rw[Al]at q;obtain⟨t,ht,ee⟩:=zF.mp q;have:=zO (Az.mp z t ht);have t0:=(h t ht).1;unfold inB;rw[←ee,Ap];exact⟨zP t0,zP (show t.num≤2^or.toNat-1 by omega)⟩
 rw[al];cases decide (aK ts=total) <;> cases (ts.all fun t=>decide (t.num<2^or.toNat)) <;> rfl
inductive Run(or:Int):(Int×Int→Int)→Sps→(Int×Int→Int)→Prop
 |nil (f:Int×Int→Int):Run or f [] f
 |cons {f g:Int×Int→Int} {k:Int×Int} {m:Int} {r:Sps}:1≤m→0≤k.1→k.1<or→m≤f k→Run or (mv f k m) r g→Run or f ((k,m)::r) g
theorem Run.app{or:Int}{f g h:Int×Int→Int}{r s:Sps}(a:Run or f r g)(b:Run or g s h):Run or f (r++s) h:=by
 induction a with
 |nil _=>exact b
 |cons h1 h2 h3 h4 _ ih=>exact .cons h1 h2 h3 h4 (ih b)
theorem Run.add{or:Int}{f g x:Int×Int→Int}{r:Sps}(hx:∀k,0≤x k)(a:Run or f r g):Run or (fun k=>f k+x k) r (fun k=>g k+x k):=by
 induction a with
 |nil _=>exact .nil _
 | @cons f g k m r h1 h2 h3 h4 _ ih=>
  have e:mv (fun k=>f k+x k) k m=fun y=>mv f k m y+x y:=funext fun y=>by
   unfold mv
   split
   ·rename_i e;show f k+x k-m=f k-m+x y;rw[e];omega
   ·split
    ·show f y+x y+m=f y+m+x y;omega
    ·rfl
  refine .cons h1 h2 h3 (by have:=hx k;show m≤f k+x k;omega) ?_;rw[e];exact ih
theorem Run.addL{or:Int}{f g x:Int×Int→Int}{r:Sps}(hx:∀k,0≤x k)(a:Run or f r g):Run or (fun k=>x k+f k) r (fun k=>x k+g k):=by
 have:=a.add hx;have e1:(fun k=>x k+f k)=fun k=>f k+x k:=funext fun k=>Int.add_comm _ _;have e2:(fun k=>x k+g k)=fun k=>g k+x k:=funext fun k=>Int.add_comm _ _;rw[e1,e2];exact this
theorem Run.chk{or:Int}{qs:Sps}{f g:Int×Int→Int}{r:Sps}(a:Run or f r g)(pq:Pos qs)(eq:∀k,cnt qs k=g k):∀{ls:Sps},Tab ls→(∀k,cnt ls k=f k)→e_ or qs ls r=true:=by
 induction a with
 |nil f=>
  intro ls t e;exact(Vv (Uq pq.nd) ((Uq t.nd).filter _)).mpr (Oe pq t fun k=>by rw[eq,e])
 | @cons f g k m r h1 h2 h3 h4 _ ih=>
  intro ls t e;have ek:=e k;show(if m<1∨¬(0≤k.1∧k.1<or)∨cnt ls k<m then false else e_ or qs (b0 ls k m) r)=true;rw[pi fun z=>z.elim (fun z=>by omega) fun z=>z.elim (fun z=>z ⟨h2,h3⟩) fun z=>by omega];refine ih eq (hZ t h1 h2 (by omega)) fun x=>?_;rw[N1];unfold mv;rw[e k,e x]
theorem On{or:Int}{ps:Sps}{k:Int×Int}(h0:0≤k.1)(hd:k.1<or)(c1:k∈ps.map (·.1)→1≤cnt ps k):Run or (cnt ps) (aP ps k) (cnt (aC ps k)):=by
 unfold aP
 split
 ·rename_i hk;refine .cons (c1 hk) h0 hd (Ah _) ?_;have e:mv (cnt ps) k (cnt ps k)=cnt (aC ps k):=funext fun x=>by
   rw[Wt];unfold mv
   split
   ·omega
   ·split
    ·rename_i q;rw[q]
    ·rfl
  rw[e];exact .nil _
 ·rename_i hk;have e:aC ps k=ps:=by unfold aC;rw[pi hk]
  rw[e];exact .nil _
theorem qj{or h j:Int}{ps:Sps}(o:Pok or ps)(h0:0≤h)(hd:h<or):Run or (cnt ps) (flP ps h j) (cnt (aY ps h j)):=by
 unfold flP aY;refine(On (k:=loK h j) h0 hd fun hk=>R1 o hk).app ?_;rw[←Nd];refine On (k:=hiK h j) h0 hd fun hk=>?_;rw[Wt,pi (Ne.symm (iA h j)),Vf,pi (iq h j)];exact R1 o (hi_in.mp hk)
theorem g_{ps qs:Sps}(p:ps.Perm qs)(nd:(ps.map (·.1)).Nodup):cnt ps=cnt qs:=funext fun k=>Rq (Wr p nd k)
theorem uw{or bar:Int}{ps fs CD:Sps}(s:Stl or bar ps fs CD):Pok or ps→Run or (cnt ps) fs (cnt CD):=by
 induction s with
 |done n=>exact fun _=>.nil _
 |step f p1 s ih=>
  intro o;have q:=S7 o f.in_ f.hd;have q1:=q.perm p1;obtain⟨k,hk,e,_⟩:=f.key;have h0:=(o.kok.st k hk).1;rw[e]at h0;refine(qj o h0 f.hd).app ?_;rw[←g_ p1 q1.kok.nd];exact ih q1
theorem ut{or bar:Int}{ps fs CD:Sps}(s:Stl or bar ps fs CD):Kok or (ps.map (·.1))→fs.length+mea or (CD.map (·.1))≤mea or (ps.map (·.1)):=by
 induction s with
 |done n=>exact fun _=>by simp
 | @step ps ps1 fs CD h j f p1 s ih=>
  intro o;have so:=Ui (j:=j) o f.hd;have:=ih (so.1.perm (p1.map _));rw[h_ (p1.map _)]at this;rw[zI];have:=so.2.1;omega
theorem lW{or bar:Int}{ps:Sps}(o:Pok or ps):Run or (cnt ps) (dJ or bar ps) (cnt (b8 or bar ps)):=by
 obtain⟨fs,CD,s⟩:=Tj (or:=or) (bar:=bar) _ ps (zD _) o.kok;have e:=W3 s o.kok.nd;rw[e.1,e.2,←g_ (Y0 CD).symm (lG s o).1.kok.nd];exact uw s o
theorem lm{or bar:Int}{ps:Sps}(o:Pok or ps):(dJ or bar ps).length+mea or ((b8 or bar ps).map (·.1))≤mea or (ps.map (·.1)):=by
 obtain⟨fs,CD,s⟩:=Tj (or:=or) (bar:=bar) _ ps (zD _) o.kok;have e:=W3 s o.kok.nd;rw[e.1,e.2,h_ ((Y0 CD).map _)];exact ut s o.kok
theorem ue(or:Int)(ps:Sps)(k:Int×Int)(n:Int):mea or ((au ps k n).map (·.1))≤mea or (ps.map (·.1))+(or+1-k.1).toNat:=by
 rw[Xw]
 split
 ·omega
 ·unfold mea;rw[zW,Bj];exact zD _
theorem lg(or:Int):∀(ys xs:Sps),mea or ((ay xs ys).map (·.1))≤mea or (xs.map (·.1))+mea or (ys.map (·.1))
 | [],xs=>zD _
 |p::ys,xs=>by
  have a:=lg or ys (au xs p.1 (cnt xs p.1+p.2));have b:=ue or xs p.1 (cnt xs p.1+p.2);have c:mea or ((p::ys).map (·.1))=(or+1-p.1.1).toNat+mea or (ys.map (·.1)):=by
   unfold mea;rw[zH,zH,Ac]
  rw[Wb];omega
theorem qF{xs ys:Sps}(ny:(ys.map (·.1)).Nodup):cnt (ay xs ys)=fun k=>cnt xs k+cnt ys k:=funext fun k=>by
 have e:=iP (xs:=xs) k ny;by_cases hk:k∈ys.map (·.1)
 ·rw[zE hk]at e;unfold cnt at e⊢;rw[e]
 ·rw[pi hk]at e;rw[Rq e,Y3 hk,Cu]
def exc(qs st:Sps):Sps:=(st.map fun p=>(p.1,p.2-cnt qs p.1)).filter fun p=>decide (0<p.2)
def upS(fs:Sps):Sps:=ay [] (fs.map fun p=>(ad p.1,p.2))
def stn(qs st:Sps):Nat→Sps
 | 0=>st
 |n+1=>upS (exc qs (stn qs st n))
def c_(qs st:Sps):Nat→Sps
 | 0=>[]
 |n+1=>c_ qs st n++exc qs (stn qs st n)
theorem gY(qs st:Sps):(exc qs st).length≤st.length:=by
 unfold exc;refine At (AB _ _) ?_;rw[az];exact zD _
theorem uq(fs:Sps):(upS fs).length≤fs.length:=by
 have:=Wn (fs.map fun p=>(ad p.1,p.2)) [];rw[AO,Bs,az]at this;exact this
theorem lD(qs st:Sps)(n:Nat):(stn qs st n).length≤st.length:=by
 induction n with
 |zero=>exact zD _
 |succ n ih=>exact At (uq _) (At (gY _ _) ih)
theorem Ps(qs st:Sps)(n:Nat):(c_ qs st n).length≤n*st.length:=by
 induction n with
 |zero=>exact BI _
 |succ n ih=>
  show(c_ qs st n++exc qs (stn qs st n)).length≤_;have a:=gY qs (stn qs st n);have b:=lD qs st n;rw[zI,Nat.succ_mul];omega
theorem Ub{qs st:Sps}{p:(Int×Int)×Int}(h:p∈exc qs st):0<p.2∧∃q∈st,q.1=p.1∧p.2=q.2-cnt qs q.1:=by
 obtain⟨h1,h2⟩:=Aj.mp h;obtain⟨q,hq,e⟩:=zF.mp h1;exact⟨zO h2,q,hq,by rw[←e],by rw[←e]⟩
theorem pf{qs st:Sps}(nd:(st.map (·.1)).Nodup):((exc qs st).map (·.1)).Nodup:=by
 refine List.Sublist.nodup (List.Sublist.map _ List.filter_sublist) ?_;rw[Al];exact nd
theorem uC{qs st:Sps}(nd:(st.map (·.1)).Nodup){p:(Int×Int)×Int}(hp:p∈st)(h:cnt qs p.1≤p.2):cnt (exc qs st) p.1=p.2-cnt qs p.1:=by
 by_cases c:0<p.2-cnt qs p.1
 ·exact Yu (p:=(p.1,p.2-cnt qs p.1)) (pf nd) (Aj.mpr ⟨zF.mpr ⟨p,hp,rfl⟩,zP c⟩)
 ·rw[Y3 fun z=>?_]
  ·omega
  ·obtain⟨q,hq,e⟩:=zF.mp z;obtain⟨h1,r,hr,e1,e2⟩:=Ub hq;have er:r.1=p.1:=e1.trans e;have:r=p:=by
    have a:=Yu nd hr;have b:=Yu nd hp;exact AT er (by rw[←a,←b,er])
   rw[this]at e2;omega
theorem swS{g:Int×Int→Int}{ks:List (Int×Int)}:∀{A:Sps},(A.map (·.1)).Nodup→ks.Nodup→(∀p∈A,p.1∈ks)→(ks.map fun k=>cnt A k*g k).sum=wS g A:=by
 induction ks with
 |nil=>
  intro A _ _ h;cases A with
  |nil=>rfl
  |cons p A=>exact absurd (h p (.head _)) Am
 |cons k ks ih=>
  intro A nd nk h;rw[Ae]at nk;have q:=ih (A:=aW A k) (Sz nd) nk.2 fun p hp=>by
   obtain⟨h1,h2⟩:=Aj.mp hp
   rcases zZ.mp (h p h1)with z | z
   ·exact absurd z (zO h2)
   ·exact z
  have e:(ks.map fun j=>cnt (aW A k) j*g j)=ks.map fun j=>cnt A j*g j:=BD fun j hj=>by
   rw[jq,pi fun z:j=k=>nk.1 (by rw[←z];exact hj)]
  rw[e,Q8 nd]at q;rw[zH,Ac];omega
theorem Nc{A:Sps}(nd:(A.map (·.1)).Nodup)(k:Int×Int):wS (fun x=>if x=k then 1 else 0) A=cnt A k:=by
 by_cases h:k∈A.map (·.1)
 ·have q:=swS (g:=fun x=>if x=k then 1 else 0) (ks:=A.map (·.1)) nd nd fun p hp=>zF.mpr ⟨p,hp,rfl⟩;rw[←q];have main:∀(ks:List (Int×Int)),ks.Nodup→k∈ks→(ks.map fun j=>cnt A j*(if j=k then 1 else 0)).sum=cnt A k:=by
   intro ks
   induction ks with
   |nil=>exact fun _ h=>nomatch h
   |cons j ks ih=>
    intro nk hk;rw[Ae]at nk;rw[zH,Ac];by_cases c:j=k
    ·have z:(ks.map fun j=>cnt A j*(if j=k then(1:Int)else 0)).sum=0:=by
      have e:(ks.map fun j=>cnt A j*(if j=k then(1:Int)else 0))=ks.map fun _=>(0:Int):=BD fun i hi=>by
       rw[pi fun z:i=k=>nk.1 (by rw[c,←z];exact hi),B9]
      rw[e];exact uA _
     rw[z,zE c,BG,c,Cu]
    ·rcases zZ.mp hk with e | e
     ·exact absurd e.symm c
     ·rw[ih nk.2 e,pi c,B9,BF]
  exact main _ nd h
 ·rw[Y3 h];refine Q6 fun p hp=>.inr (pi fun z=>h (by rw[←z];exact zF.mpr ⟨p,hp,rfl⟩))
theorem pB(ys:Sps)(k:Int×Int):cnt (ay [] ys) k=wS (fun x=>if x=k then 1 else 0) ys:=by
 rw[←Nc (Uv (xs:=[]) An),Qm (xs:=[]) An];exact BF _
def pin(l:Sps)(x:Int×Int):Int:=wS (fun k=>if ad k=x then 1 else 0) l
theorem tz(l:Sps)(x:Int×Int):cnt (upS l) x=pin l x:=by
 unfold upS pin;rw[pB];unfold wS;rw[Al];rfl
theorem o0(g:Int×Int→Int)(l:Sps):wS g (upS l)=wS (fun k=>g (ad k)) l:=by
 unfold upS;rw[Qm (xs:=[]) An];show 0+_=_;rw[BF];unfold wS;rw[Al];rfl
theorem uj{or i:Int}(i0:0≤i)(i1:i<or):∀(l:Sps)(f:Int×Int→Int),(l.map (·.1)).Nodup→(∀p∈l,p.1.1=i∧1≤p.2∧p.2≤f p.1)→Run or f l fun x=>f x-cnt l x+pin l x:=by
 intro l
 induction l with
 |nil=>
  intro f _ _;have e:(fun x=>f x-cnt [] x+pin [] x)=f:=funext fun x=>by
   show f x-0+0=f x;omega
  rw[e];exact .nil f
 |cons p l ih=>
  intro f nd h;obtain⟨p1,p2,p3⟩:=h p (.head _);rw[zH,Ae]at nd;have q:=ih (mv f p.1 p.2) nd.2 fun r hr=>by
   obtain⟨a,b,c⟩:=h r (.tail _ hr);refine⟨a,b,?_⟩;unfold mv;rw[pi fun z=>nd.1 (by rw[←z];exact zF.mpr ⟨r,hr,rfl⟩),pi fun z=>?_]
   ·exact c
   ·have:r.1.1=p.1.1+1:=AX (·.1) z;omega
  have e:(fun x=>f x-cnt (p::l) x+pin (p::l) x)=fun x=>mv f p.1 p.2 x-cnt l x+pin l x:=funext fun x=>by
   unfold pin;rw[Yv];have cc:cnt (p::l) x=if x=p.1 then p.2 else cnt l x:=by
    by_cases z:x=p.1
    ·rw[zE z,z];exact Yu (by rw[zH,Ae];exact nd) (.head _)
    ·rw[pi z];unfold cnt aw af;rw[zH,Yc (p:=(kk p.1,V.int p.2)) fun y=>z (Vh y).symm]
   rw[cc];unfold mv;by_cases z:x=p.1
   ·rw[zE z,zE z,pi (by rw[z];exact fun y=>Ve p.1 y.symm),B9,z,Y3 nd.1];omega
   ·rw[pi z,pi z];by_cases y:x=ad p.1
    ·rw[zE y,zE y.symm,BG];omega
    ·rw[pi y,pi fun w=>y w.symm,B9];omega
  have e2:p::l=(p.1,p.2)::l:=rfl;rw[e,e2];exact .cons p2 (by rw[p1];exact i0) (by rw[p1];exact i1) p3 q
def cn(qs:Sps)(i:Int):Sps:=qs.filter fun p=>decide (i≤p.1.1)
def atH(qs:Sps)(i:Int):Sps:=qs.filter fun p=>decide (p.1.1=i)
theorem Po(g:Int×Int→Int)(qs:Sps)(i:Int):wS g (cn qs i)=wS g (atH qs i)+wS g (cn qs (i+1)):=by
 induction qs with
 |nil=>rfl
 |cons p qs ih=>
  unfold cn atH at ih⊢;rw[AA,AA,AA]
  rcases Int.lt_trichotomy p.1.1 i with c | c | c
  ·rw[if_neg (by simpa using c),if_neg (by simpa using (by omega:¬p.1.1=i)),if_neg (by simpa using (by omega:p.1.1<i+1))];exact ih
  ·rw[if_pos (decide_eq_true (by omega)),if_pos (decide_eq_true c),if_neg (by simpa using (by omega:p.1.1<i+1)),Yv,Yv,ih];omega
  ·rw[if_pos (decide_eq_true (by omega)),if_neg (by simpa using (by omega:¬p.1.1=i)),if_pos (decide_eq_true (by omega)),Yv,Yv,ih];omega
theorem fQ{qs:Sps}{P:(Int×Int)×Int→Bool}(nd:(qs.map (·.1)).Nodup):((qs.filter P).map (·.1)).Nodup:=List.Sublist.nodup (List.Sublist.map _ List.filter_sublist) nd
theorem gW{qs:Sps}{P:(Int×Int)×Int→Bool}(nd:(qs.map (·.1)).Nodup){k:Int×Int}(h:∀p∈qs,p.1=k→P p=true):cnt (qs.filter P) k=cnt qs k:=by
 by_cases c:k∈qs.map (·.1)
 ·obtain⟨p,hp,e⟩:=zF.mp c;rw[←e,Yu nd hp,Yu (fQ nd) (Aj.mpr ⟨hp,h p hp e⟩)]
 ·rw[Y3 c,Y3 fun z=>?_];obtain⟨p,hp,e⟩:=zF.mp z;exact c (by rw[←e];exact zF.mpr ⟨p,(Aj.mp hp).1,rfl⟩)
structure Stq(or i:Int)(qs st:Sps):Prop where
 nd:(st.map (·.1)).Nodup
 pos:∀p∈st,0<p.2
 at_:∀p∈st,p.1.1=i∧0≤p.1.2∧p.1.2<2^(or-i).toNat
 can:Can (cn qs i) st
theorem vN{s k:Int×Int}(h0:0≤s.1)(e:k.1=s.1)(w:wit s k):k=s:=by
 refine AT e ?_;obtain⟨a,b⟩:=w;unfold aE at a;unfold aD at b;rw[e]at a b;have p:=Yd s.1.toNat;have l1:s.2≤k.2:=BO a p;have l2:k.2+1≤s.2+1:=BO (by omega) p;omega
theorem Ni{or i:Int}{qs st:Sps}(i0:0≤i)(o:Pok or qs)(S:Stq or i qs st){k:Int×Int}(hk:k.1=i):cnt qs k≤cnt st k:=by
 have c:=S.can.each k (by omega);have e1:wS (gin k) st=cnt st k:=by
  rw[←Nc S.nd k];unfold wS;refine AX List.sum (BD fun p hp=>?_)
  congr 1
  show gin k p.1=if p.1=k then 1 else 0
  by_cases z:p.1=k
  ·rw[zE z,z];exact V6 ⟨Ah _,Ah _⟩
  ·rw[pi z];exact Wm fun w=>z (vN (by omega) (by rw[(S.at_ p hp).1,hk]) w)
 have e2:cnt qs k≤wS (gin k) (cn qs i):=by
  rw[←gW (P:=fun p=>decide (i≤p.1.1)) o.kok.nd (k:=k) fun p _ e=>zP (by rw[e,hk];exact Ah _),←Nc (fQ o.kok.nd) k];have main:∀l:Sps,(∀p∈l,0≤p.2)→wS (fun x=>if x=k then 1 else 0) l≤wS (gin k) l:=by
   intro l
   induction l with
   |nil=>exact fun _=>Ah _
   |cons p l ih=>
    intro h;rw[Yv,Yv];have a:=ih fun q hq=>h q (.tail _ hq);have b:p.2*(if p.1=k then 1 else 0)≤p.2*gin k p.1:=Int.mul_le_mul_of_nonneg_left (by
     by_cases z:p.1=k
     ·rw[zE z,z];exact Int.le_of_eq (V6 ⟨Ah _,Ah _⟩).symm
     ·rw[pi z];exact kL) (h p (.head _))
    omega
  exact main _ fun p hp=>by have:=o.pos p (Aj.mp hp).1;omega
 omega
theorem tG{s k:Int×Int}(h0:0≤k.1)(lt:k.1<s.1)(k2:0≤k.2):gin s (ad k)=gin s k:=by
 have up:=qw (h:=k.1) (j:=k.2 / 2) h0;have dn:=pR (h:=k.1) (j:=k.2 / 2) h0;have ep:ad k=upK k.1 (k.2 / 2):=rfl;have le:aE (ad k)≤aE k∧aD k≤aD (ad k):=by
  rw[ep]
  rcases Qf k with e | e
  ·rw[←e]at up dn;exact⟨up.1,dn.1⟩
  ·rw[←e]at up dn;exact⟨up.2,dn.2⟩
 by_cases w:wit s k
 ·have f:=xn (k:=k);have m:wit s (ad k):=jG (n:=aE k) (by show 0≤k.1+1;omega) (by show k.1+1≤s.1;omega) le.1 (Bv f le.2) w.1 (Bv f w.2);exact(V6 m).trans (V6 w).symm
 ·have m:¬wit s (ad k):=fun z=>w ⟨Bv z.1 le.1,Bv le.2 z.2⟩;exact(Wm m).trans (Wm w).symm
theorem pe{qs st:Sps}(g:Int×Int→Int)(h:∀p∈st,cnt qs p.1≤p.2):wS g (exc qs st)=wS g st-(st.map fun p=>cnt qs p.1*g p.1).sum:=by
 induction st with
 |nil=>rfl
 |cons p st ih=>
  have q:=ih fun x hx=>h x (.tail _ hx);have l:=h p (.head _);unfold exc at q⊢;rw[zH,AA,Yv,zH,Ac];by_cases c:0<p.2-cnt qs p.1
  ·rw[zE (zP c),Yv,q];show(p.2-cnt qs p.1)*g p.1+_=_;rw[Int.sub_mul];omega
  ·rw[if_neg (by simpa using (by omega:p.2≤cnt qs p.1)),q];have e:p.2=cnt qs p.1:=by omega
   rw[e];omega
theorem rC{or i:Int}{qs st:Sps}(i0:0≤i)(i1:i<or)(o:Pok or qs)(S:Stq or i qs st):Stq or (i+1) qs (upS (exc qs st)):=by
 have le:∀p∈st,cnt qs p.1≤p.2:=fun p hp=>by
  have:=Ni i0 o S (S.at_ p hp).1;rw[Yu S.nd hp]at this;exact this
 have key:∀g:Int×Int→Int,(st.map fun p=>cnt qs p.1*g p.1).sum=wS g (atH qs i):=fun g=>by
  have q:=swS (g:=g) (A:=atH qs i) (ks:=st.map (·.1)) (fQ o.kok.nd) S.nd fun p hp=>by
   obtain⟨h1,h2⟩:=Aj.mp hp;have hh:=zO h2;have a:=Ni i0 o S hh;have b:=Yu o.kok.nd h1;have c:=o.pos p h1;exact Uu (by omega)
  rw[←q,Al];refine AX List.sum (BD fun p hp=>?_);show cnt qs p.1*g p.1=cnt (atH qs i) p.1*g p.1;unfold atH;rw[gW o.kok.nd fun r _ e=>zP (by rw[e];exact(S.at_ p hp).1)]
 have exP:∀p∈exc qs st,p.1.1=i∧0≤p.1.2∧p.1.2<2^(or-i).toNat:=fun p hp=>by
  obtain⟨_,q,hq,e,_⟩:=Ub hp;rw[←e];exact S.at_ q hq
 have upos:∀p∈upS (exc qs st),0<p.2:=(gE (xs:=[]) ⟨An,fun _ h=>nomatch h⟩ fun p hp=>by
  obtain⟨q,hq,rfl⟩:=zF.mp hp;exact(Ub hq).1).pos
 refine⟨Uv (xs:=[]) An,upos,fun p hp=>?_,⟨fun s s0=>?_,?_⟩⟩
 ·have h:=V9 (xs:=[]) (zF.mpr ⟨p,hp,rfl⟩)
  rcases h with h | h
  ·exact absurd h Am
  ·rw[Al]at h;obtain⟨q,hq,e⟩:=zF.mp h;obtain⟨a,b,c⟩:=exP q hq;have e1:p.1=(q.1.1+1,q.1.2 / 2):=e.symm;rw[e1];refine⟨by show q.1.1+1=i+1;omega,by show 0≤q.1.2 / 2;omega,?_⟩;show q.1.2 / 2<2^(or-(i+1)).toNat;have pw:(2:Int)^(or-i).toNat=2^(or-(i+1)).toNat*2:=by
    rw[←Int.pow_succ]
    congr 1
    omega
   omega
 ·rcases Int.lt_or_le i s.1 with c | c
  ·rw[o0];have e:wS (fun k=>gin s (ad k)) (exc qs st)=wS (gin s) (exc qs st):=by
    unfold wS;refine AX List.sum (BD fun p hp=>?_);obtain⟨a,b,_⟩:=exP p hp;show p.2*gin s (ad p.1)=_;rw[tG (by omega) (by omega) b]
   rw[e,pe _ le,key];have:=S.can.each s s0;rw[Po]at this;omega
  ·have z:wS (gin s) (cn qs (i+1))=0:=Q6 fun p hp=>.inr (Wm fun w=>by
    obtain⟨h1,h2⟩:=Aj.mp hp;have:=zO h2;have:=uO s0 (by omega) w;omega)
   rw[z];exact uZ (fun _=>kL) fun p hp=>A7 (upos p hp)
 ·have a:=S.can.all;have b:=pe (fun _=>1) le;have c:=o0 (fun _=>1) (exc qs st);have d:=Po (fun _=>1) qs i;have kk:(st.map fun p=>cnt qs p.1*1).sum=wS (fun _=>1) (atH qs i):=key fun _=>1;rw[kk]at b;rw[←Sk,←Sk]at a⊢;rw[c];show wS (fun _=>1) (cn qs (i+1))=wS (fun _=>1) (exc qs st);omega
theorem sL{or:Int}{qs st:Sps}(o:Pok or qs)(S:Stq or 0 qs st):∀n:Nat,(n:Int)≤or→Stq or n qs (stn qs st n)∧Run or (cnt st) (c_ qs st n) fun k=>if k.1<n then cnt qs k else cnt (stn qs st n) k:=by
 intro n
 induction n with
 |zero=>
  intro _;refine⟨S,?_⟩;have e:(fun k:Int×Int=>if k.1<((0:Nat):Int)then cnt qs k else cnt (stn qs st 0) k)=cnt st:=funext fun k=>by
   split
   ·rename_i h;have h:k.1<0:=h;rw[Y3 fun z=>?_,Y3 fun z=>?_]
    ·obtain⟨p,hp,e⟩:=zF.mp z;have:=(S.at_ p hp).1;rw[e]at this;omega
    ·have:=(o.kok.st k z).1;omega
   ·rfl
  rw[e];exact .nil _
 |succ n ih=>
  intro h;obtain⟨S',R⟩:=ih (by omega);have i0:(0:Int)≤n:=by omega
  have i1:(n:Int)<or:=by omega
  refine⟨rC i0 i1 o S',?_⟩;have le:∀p∈stn qs st n,cnt qs p.1≤p.2:=fun p hp=>by
   have:=Ni i0 o S' (S'.at_ p hp).1;rw[Yu S'.nd hp]at this;exact this
  show Run or (cnt st) (c_ qs st n++exc qs (stn qs st n)) _;refine R.app ?_;have q:=uj i0 i1 (exc qs (stn qs st n)) (fun k=>if k.1<(n:Int)then cnt qs k else cnt (stn qs st n) k) (pf S'.nd) fun p hp=>by
   obtain⟨a,r,hr,e1,e2⟩:=Ub hp;have ra:=(S'.at_ r hr).1;rw[e1]at ra;refine⟨ra,by omega,?_⟩;rw[pi (by omega)];have c1:=Yu S'.nd hr;rw[e1]at c1 e2;have:=le r hr;rw[e1]at this;have c0:0≤cnt qs p.1:=Uc o p.1;omega
  have e:(fun k:Int×Int=>if k.1<((n+1:Nat):Int)then cnt qs k else cnt (stn qs st (n+1)) k)=fun x=>(if x.1<(n:Int)then cnt qs x else cnt (stn qs st n) x)-cnt (exc qs (stn qs st n)) x+pin (exc qs (stn qs st n)) x:=funext fun x=>by
   have ex0:x.1≠n→cnt (exc qs (stn qs st n)) x=0:=fun z=>Y3 fun y=>by
    obtain⟨p,hp,e⟩:=zF.mp y;obtain⟨_,r,hr,e1,_⟩:=Ub hp;have:=(S'.at_ r hr).1;rw[e1,e]at this;exact z this
   have pn0:x.1≠n+1→pin (exc qs (stn qs st n)) x=0:=fun z=>Q6 fun p hp=>.inr (pi fun y=>by
    obtain⟨_,r,hr,e1,_⟩:=Ub hp;have a:=(S'.at_ r hr).1;rw[e1]at a;have b:p.1.1+1=x.1:=AX (·.1) y;omega)
   rcases Int.lt_trichotomy x.1 n with c | c | c
   ·rw[zE (by omega),zE c,ex0 (by omega),pn0 (by omega)];omega
   ·rw[zE (by omega),pi (by omega),pn0 (by omega)];by_cases m:x∈(stn qs st n).map (·.1)
    ·obtain⟨p,hp,e⟩:=zF.mp m;rw[←e,uC S'.nd hp (le p hp),Yu S'.nd hp];omega
    ·have a:=Ni i0 o S' c;have b:=Uc o x;rw[Y3 m]at a⊢;rw[Y3 (ps:=exc qs (stn qs st n)) fun y=>m ?_]
     ·omega
     ·obtain⟨p,hp,e⟩:=zF.mp y;obtain⟨_,r,hr,e1,_⟩:=Ub hp;rw[←e,←e1];exact zF.mpr ⟨r,hr,rfl⟩
   ·have s0:cnt (stn qs st n) x=0:=Y3 fun y=>by
     obtain⟨p,hp,e⟩:=zF.mp y;have:=(S'.at_ p hp).1;rw[e]at this;omega
    rw[pi (by omega),pi (by omega),s0,ex0 (by omega)];show cnt (upS (exc qs (stn qs st n))) x=_;rw[tz];omega
  rw[e];exact q
theorem uo{or:Int}{qs st:Sps}(d0:0≤or)(o:Pok or qs)(S:Stq or 0 qs st):Run or (cnt st) (c_ qs st or.toNat) (cnt qs):=by
 obtain⟨S',R⟩:=sL o S or.toNat (by omega);have en:((or.toNat:Nat):Int)=or:=by omega
 rw[en]at S' R;have e:(fun k:Int×Int=>if k.1<or then cnt qs k else cnt (stn qs st or.toNat) k)=cnt qs:=funext fun k=>by
  split
  ·rfl
  ·rename_i c;have e2:(2:Int)^(or-or).toNat=1:=by rw[Int.sub_self];rfl
   have k1:∀p∈stn qs st or.toNat,p.1=(or,0):=fun p hp=>by
    obtain⟨a,b,d⟩:=S'.at_ p hp;exact AT a (by rw[e2]at d;show p.1.2=0;omega)
   have k2:∀p∈cn qs or,p.1=(or,0):=fun p hp=>by
    obtain⟨h1,h2⟩:=Aj.mp hp;have h2:=zO h2;obtain⟨a,b,x,y⟩:=o.kok.st p.1 (zF.mpr ⟨p,h1,rfl⟩);have e3:p.1.1=or:=by omega
    rw[e3,e2]at y;exact AT e3 (by show p.1.2=0;omega)
   by_cases z:k=(or,0)
   ·have a:=swS (g:=fun _=>1) (ks:=[(or,0)]) S'.nd (Ae.mpr ⟨Am,An⟩) fun p hp=>by rw[k1 p hp];exact .head _
    have b:=swS (g:=fun _=>1) (ks:=[(or,0)]) (A:=cn qs or) (fQ o.kok.nd) (Ae.mpr ⟨Am,An⟩) fun p hp=>by rw[k2 p hp];exact .head _
    have t:=S'.can.all;rw[Sk]at a b;rw[zH,Cs,Ac,List.sum_nil,BG]at a b;have f:=gW (P:=fun p=>decide (or≤p.1.1)) o.kok.nd (k:=(or,0)) fun p _ e=>zP (by rw[e];exact Ah _);rw[z];unfold cn at b t;omega
   ·rw[Y3 fun y=>?_,Y3 fun y=>?_]
    ·obtain⟨p,hp,e⟩:=zF.mp y;have h1:or≤k.1:=by omega
     exact z (by rw[←e];exact k2 p (Aj.mpr ⟨hp,zP (by rw[e];exact h1)⟩))
    ·obtain⟨p,hp,e⟩:=zF.mp y;exact z (by rw[←e];exact k1 p hp)
 rw[e]at R;exact R
theorem qS{g:Int×Int→Int}{ps:Sps}{k:Int×Int}{m:Int}(nd:(ps.map (·.1)).Nodup):wS g (bE ps k m)=wS g ps+m*(g (ad k)-g k):=by
 have n1:=Ye (k:=ad k) (n:=cnt ps (ad k)+m) nd;have n2:=Ye (k:=k) (n:=cnt ps k-m) n1;have a:=Ql (g:=g) (k:=ad k) (n:=cnt ps (ad k)+m) nd;have b:=Ql (g:=g) (k:=k) (n:=cnt ps k-m) n1;have c:cnt (au ps (ad k) (cnt ps (ad k)+m)) k=cnt ps k:=by rw[Yy,pi (Ve k)]
 rw[c,a]at b;have w:wS g (au (au ps (ad k) (cnt ps (ad k)+m)) k (cnt ps k-m))=wS g ps+m*(g (ad k)-g k):=by
  rw[b,By,Int.sub_mul,Int.mul_sub];omega
 unfold bE
 split
 ·rename_i z;rw[Q8 n2,Yy,zE rfl,w,z,Int.zero_mul,Int.sub_zero]
 ·exact w
theorem uc{or:Int}{qs:Sps}(nq:(qs.map (·.1)).Nodup):∀(r:Sps){ps:Sps},Pos ps→(∀p∈ps,0≤p.1.1∧0≤p.1.2)→dU or qs ps r=true→∀g,eg g→wS g qs≤wS g ps:=by
 intro r
 induction r with
 |nil=>
  intro ps t _ h g G;have p:=(Vv (Uq t.nd) (Uq nq)).mp h;rw[Q7 p];exact Ah _
 |cons p r ih=>
  intro ps t hn h g G;obtain⟨k,m⟩:=p;have h:(if m<1∨or≤k.1∨cnt ps k<m then false else dU or qs (bE ps k m) r)=true:=h;by_cases c:m<1∨or≤k.1∨cnt ps k<m
  ·rw[zE c]at h;cases h
  ·rw[pi c]at h;have m1:1≤m:=by omega
   have mc:m≤cnt ps k:=by omega
   have hk:k∈ps.map (·.1):=Uu (by omega);obtain⟨q,hq,e⟩:=zF.mp hk;obtain⟨a,b⟩:=hn q hq;rw[e]at a b;have st:=ih (iH t m1 mc) (fun p hp=>by
    have kk:∀x∈(bE ps k m).map (·.1),x∈ps.map (·.1)∨x=ad k:=fun x hx=>by
     have hx:x∈(au (au ps (ad k) (cnt ps (ad k)+m)) k (cnt ps k-m)).map (·.1):=by
      unfold bE at hx
      split at hx
      ·obtain⟨y,hy,e⟩:=zF.mp hx;exact zF.mpr ⟨y,(Aj.mp hy).1,e⟩
      ·exact hx
     obtain⟨y,hy,e⟩:=zF.mp hx
     rcases W7 hy with z | ⟨z,_⟩
     ·rw[←e,z];exact .inl hk
     ·rcases W7 z with y2 | ⟨y2,_⟩
      ·rw[←e,y2];exact .inr rfl
      ·rw[←e];exact .inl (zF.mpr ⟨y,y2,rfl⟩)
    rcases kk p.1 (zF.mpr ⟨p,hp,rfl⟩)with z | z
    ·obtain⟨y,hy,e⟩:=zF.mp z;rw[←e];exact hn y hy
    ·rw[z];exact⟨by show 0≤k.1+1;omega,by show 0≤k.2 / 2;omega⟩) h g G
   rw[qS t.nd]at st;have fl:g (ad k)≤g k:=by
    have z:=G k.1 (k.2 / 2) a (by omega)
    rcases Qf k with e | e
    ·rw[←e]at z;exact z.1
    ·rw[←e]at z;exact z.2
   have:m*(g (ad k)-g k)≤0:=by
    have:=Ct (show 0≤m by omega) (show 0≤g k-g (ad k) by omega);rw[Int.mul_sub]at this⊢;omega
   omega
theorem sP{or total:Int}{ts:List Th}{qs CF:Sps}(nq:(qs.map (·.1)).Nodup)(h:∀t∈ts,0≤t.num∧1≤t.many)(e:eQ or total ts qs CF=true):Dom qs ts∧aK ts=total∧∀t∈ts,t.num<2^or.toNat:=by
 have hm:=fun t ht=>(h t ht).2;rw[Qg h nq]at e;unfold j7 at e;rw[Ap,Ap]at e;obtain⟨e1,e2,e3⟩:=e;rw[←kr nq CF (Uw hm) (S9 hm) fun _=>rfl]at e3;refine⟨fun g G=>?_,by rw[←Nj];exact zO e2,fun t ht=>zO (Az.mp e1 t ht)⟩;have q:=uc nq CF (Uw hm) (fun p hp=>?_) e3 g G
 ·rw[←oS];exact q
 ·rcases V9 (xs:=[]) (zF.mpr ⟨p,hp,rfl⟩)with z | z
  ·exact absurd z Am
  ·unfold cm at z;rw[Al]at z;obtain⟨t,ht,e⟩:=zF.mp z;rw[←e];exact⟨Ah _,(h t ht).1⟩
theorem qp{or:Int}{ts:List Th}{qs:Sps}(d0:0≤or)(o:Pok or qs)(h:∀t∈ts,0≤t.num∧1≤t.many):eQ or (ag qs) ts qs (c_ qs (av ts) or.toNat)=true↔(∀t∈ts,t.num<2^or.toNat)∧Can qs (eV ts):=by
 have hm:=fun t ht=>(h t ht).2;refine⟨fun e=>?_,fun⟨e1,C⟩=>?_⟩
 ·obtain⟨a,b,c⟩:=sP o.kok.nd h e;exact⟨c,fY a⟩
 ·have pq:Pos qs:=⟨o.kok.nd,fun p hp=>by have:=o.pos p hp;omega⟩;have sp:=Uw hm;have S:Stq or 0 qs (av ts):=by
   refine⟨sp.nd,sp.pos,fun p hp=>?_,?_⟩
   ·rcases V9 (xs:=[]) (zF.mpr ⟨p,hp,rfl⟩)with z | z
    ·exact absurd z Am
    ·unfold cm at z;rw[Al]at z;obtain⟨t,ht,e⟩:=zF.mp z;rw[←e];exact⟨rfl,(h t ht).1,by rw[Int.sub_zero];exact e1 t ht⟩
   ·have ef:cn qs 0=qs:=List.filter_eq_self.mpr fun p hp=>zP (o.kok.st p.1 (zF.mpr ⟨p,hp,rfl⟩)).1;rw[ef];exact C
  have R:=uo d0 o S;rw[Qg h o.kok.nd];unfold j7;rw[R.chk pq (fun _=>rfl) (S9 hm) fun _=>rfl,Ap,Ap];exact⟨Az.mpr fun t ht=>zP (e1 t ht),zP C.all.symm,rfl⟩
end K34
namespace L2
open PySem PySem.Spec PyProof.Rows
section
variable{prog:Program}{w:World}{A:Around}{E:Value→Shared→Prop}{s:Shared}{it d:Addr}{i ep:Nat}{es:Array DictEntry}{f0 f1 ok ov:Value}
theorem Oq{n:Nat}{Q:Value→Shared→Prop}(hit:ItI s.heap it d i n ep f0 f1 ok ov)(h:Q (.ref it) s):wpAny (model prog w) A (pyIter (.ref it)) Q E s:=by
 have hT:s.TypeIs (.ref it) "dict_itemiterator":=⟨_,hit,rfl⟩;refine wpAny_pyIter_slot hT PySem.F.slot_dict_itemiterator_iter (A4 PySem.F.slot_dict_itemiterator_iter hT W.kcp_entry ?_ (PySem.F.args_dict_itemiterator_iter_1 _));show wpAny _ _ (ret (.ref it)) _ _ s;exact zC ⟨_,rfl,"dict_itemiterator",_,hT,PySem.F.slot_dict_itemiterator_next.lookup,h⟩
end
def xm(it d:Addr)(n ep:Nat)(i:Nat)(h:Heap):Prop:=∃f0 f1 ok ov,ItI h it d i n ep f0 f1 ok ov∧(f0=.none∨∃(a:Addr)(b:Bool),f0=rawInt a∧f1=.bool b)
section
variable{X:Cx}{CA:List (Addr×Obj)}{σ:St}{H:Hp}{s:Shared}
theorem j8(hc:X.calm=true):bN X (.builtin "sum") (fun xs H Q=>∃(v d:Addr)(kvs:List (List Key×V))(ns:List Int),xs=[.ref v]∧H v=some (fg v d)∧H d=some (.dT kvs)∧kvs.map (·.2)=ns.map V.int∧Q (.int ns.sum) H):=by
 intro CA s σ H xs us Q I rx h;obtain⟨v,d,kvs,ns,rfl,hv,hd,hns,q⟩:=h;obtain⟨u,rfl,ru⟩:=V1 rx;cases ru;obtain⟨z,lo,xs,es,ep,kt,raw,_,ev,sz⟩:=Py I.hok (.inl hd);obtain⟨view,_⟩:=(show ObjOk X.prog X.w H s.heap v (fg v d)from I.hok v _ hv);have hI:IntsAre (xs.map fun x=>x.2.2) ns:=Pl (by rw[←hns];exact sX kt);have hV:Vals (ns.map V.int) (xs.map fun x=>x.2.2):=R5 hI;have hl:es.size=ns.length:=by
  have e1:=hI.length;rw[←ev,az,zU]at e1;exact e1
 have CI:d<s.heap.objs.size:=raw.lt;refine call_sum_walkG (sT view raw ?_);have hh:X.A.in1.handled=none:=by simpa using I.ok.hd hc
 refine⟨s.heap.objs.size,_,_,_,_,_,fun i=>ns.getD i 0,rfl,qZ hh _ d (zX CI) es ep,⟨⟨_,zY _ rfl,rfl,rfl⟩,raw.at fun o e=>io _ e⟩,fun b hb=>?_,fun i v hv=>?_,fun h' tk t' kp=>?_⟩
 ·rw[Heap.size_push]
  rcases zZ.mp hb with e | e
  ·rw[e];exact Nat.lt_succ_self _
  ·rw[zG.mp e];exact Nat.lt_succ_of_lt CI
 ·obtain⟨e,he,rfl⟩:=hv;exact mD hV (by rw[←ev,z9,zL,he];rfl)
 ·have e:preSum (fun i=>ns.getD i 0) es.size=ns.sum:=by
   rw[PyProof.Rows.preSum_getD,hl,Ab]
  rw[e];refine⟨.int ns.sum,H,I.kept fun b o eb=>kp b o ?_ (io _ eb),⟨_,rfl⟩,q⟩;intro hb;rw[zG.mp hb]at eb;exact absurd (zN eb) (Bd _)
def sN(d:Addr)(kvs:List (List Key×V))(o:Obj):It:=⟨fun i H=>i<kvs.length∧H d=some (.frz o (.dT kvs)),fun i H x H'=>∃T p b,kvs[i]?=some p∧x=.ref T∧H b=some (.tup (p.1.map kV))∧H T=none∧H'=upd H T (.tup [.ref b,p.2]),fun i H=>kvs.length≤i∧H d=some (.frz o (.dT kvs))⟩
theorem ui{P:Program}{w:World}{K:W.Frag}{nm:Str}{np:Pos}{d it:Addr}{kvs:List (List Key×V)}{o:Obj}{es:Array DictEntry}{ep:Nat}(ex:o.ExactDict)(od:o.data=.dict es ep)(sz:es.size=kvs.length):
  Turn P w K (.Name nm np) (sN d kvs o) [it] it (xm it d es.size ep) where
 mem:=by simp
 obj:=fun i h st b hb=>by
  obtain⟨f0,f1,ok,ov,q,_⟩:=st;rw[zG.mp hb];exact⟨_,q,fun v z=>(nomatch z)⟩
 keep:=fun i h h' st k=>by
  obtain⟨f0,f1,ok,ov,q,r⟩:=st;exact⟨f0,f1,ok,ov,k it (.head _) _ q,r⟩
 item:=by
  intro X hP hw hK hc i CA s σ H E I hf st hg;subst hP hw hK;obtain⟨hi,hd⟩:=hg;obtain⟨ho,z,lo,xs,kt,o',es',ep',h1,_,h3,h4,_⟩:=(show ObjOk X.prog X.w H s.heap d (.frz o (.dT kvs))from I.hok d _ hd);rw[ho]at h1;cases h1;rw[od]at h3;cases h3;have e1:kvs[i]?=some kvs[i]:=by simp[hi]
  obtain⟨x,ex1,hx,rx⟩:=Pj kt e1;have eq:es[i]=⟨es[i].hash,.ref x.2.1,x.2.2⟩:=by
   have q:es.toList[i]?=some es[i]:=by rw[zL];exact zJ (by omega)
   rw[h4,z9,ex1]at q;rw[←Aa q];rfl
  have ek:es[i].key=.ref x.2.1:=by rw[eq]
  have ev:es[i].val=x.2.2:=by rw[eq]
  obtain⟨f0,f1,ok,ov,q,alt⟩:=st;refine f6 q alt ⟨o,ho,ex,od⟩ (by omega) fun g e0 e1' a b CP al tg zg kp=>⟨_,rfl,?_⟩;show wpAny (model X.prog X.w) X.A (pure ()) _ E _;have itl:it≠s.heap.objs.size:=zX (zN q);have ni:H it=none:=(hf it (.head _)).1;refine zC ⟨.ref s.heap.objs.size,upd H s.heap.objs.size (.tup [.ref x.2.1,kvs[i].2]),?_,rfl,⟨_,_,_,e1,rfl,hx,I.hok.fresh (zD _),rfl⟩,⟨e0,e1',a,b,CP,.inr al⟩,fun c hc=>?_⟩
  ·refine I.zipped (t':=s.toks) (ch:=[it]) (fun c v hc e=>kp c v (fun z=>hc (by rw[z];exact .head _)) e) hf (zD _) ⟨by show(2:Nat)≤sizeLine;decide,[.ref x.2.1,x.2.2],.cons rfl (.cons rx .nil),?_⟩;rw[ek,ev]at tg;exact⟨_,tg,⟨rfl,rfl⟩,_,rfl⟩
  ·rw[zG.mp hc,Za itl];exact ni
 done:=by
  intro X hP hw hK hc i CA s σ H E I hf st hg;subst hP hw hK;obtain⟨hi,hd⟩:=hg;obtain⟨ho,_⟩:=I.hok d _ hd;obtain⟨f0,f1,f2,f3,f4,f5⟩:=hf it (.head _);obtain⟨_,_,_,_,q,_⟩:=st;exact fW (I.ok.hd hc) q ⟨o,ho,ex,od⟩ (by omega) fun g eb=>⟨rfl,I.turned (t':=s.toks) (fun b ob hb e=>eb b ob hb e) f0 f1 f3 f4 f5⟩
 self:=fun _ _ _ _ _ st h=>by
  obtain⟨_,_,_,_,q,_⟩:=st;exact Oq q h
def mH(tl:TE):TI:=fun σ H R=>tl σ H fun x H1=>∃(v d:Addr)(kvs:List (List Key×V)),x=.ref v∧H1 v=some (bg v d)∧H1 d=some (.dT kvs)∧∀o,R (sN d kvs o) (upd H1 d (.frz o (.dT kvs)))
theorem oF{nm:Str}{np:Pos}{l:Expr}{tl:TE}(hl:PE X l tl):PI X (.Name nm np) l (mH tl):=by
 intro CA s σ H R I h;refine thn (hl CA s σ H _ I h) fun v s1 CB=>?_;obtain⟨x,H1,I1,r1,q1⟩:=CB;obtain⟨v,d,kvs,rfl,hv,hd,q⟩:=q1;cases r1;obtain⟨view,_⟩:=(show ObjOk X.prog X.w H1 s1.heap v (bg v d)from I1.hok v _ hv);obtain⟨o,I2,_⟩:=I1.freezeT hd;obtain⟨ho,z,lo,xs,kt,o',es,ep,h1,h2,h3,h4,_⟩:=(show ObjOk X.prog X.w _ s1.heap d (.frz o (.dT kvs))from I2.hok d _ Z2);rw[ho]at h1;cases h1;have sz:es.size=kvs.length:=by rw[←zU,h4,az,←zV kt]
 refine gx view ⟨o,ho,h2,h3⟩ fun g st zg kp=>⟨s1.heap.objs.size,[s1.heap.objs.size],_,_,_,rfl,I2.kept (t':=s1.toks) kp,ui h2 h3 sz,⟨_,_,_,_,st,.inl rfl⟩,fun b hb=>?_,q o⟩;rw[zG.mp hb];exact I2.fpOk (zD _) (I2.hok.fresh (zD _))
def tThw(t:TE):TE:=fun σ H Q=>∃(d:Addr)(kvs:List (List Key×V)),H d=some (.dT kvs)∧t σ H fun v H2=>∃o,H2 d=some (.frz o (.dT kvs))∧Q v (upd H2 d (.dT kvs))
theorem sq{e:Expr}{t:TE}(h:PE X e t):PE X e (tThw t):=by
 intro CA s σ H Q I hw;obtain⟨d,kvs,hd,q⟩:=hw;obtain⟨_,_,nf⟩:=I.freezeT hd;exact thn (h CA s σ _ _ I q) fun v s1 ⟨x,H1,I2,r,o,hd2,q2⟩=>⟨x,_,I2.thawT nf hd2,r,q2⟩
theorem Rx{d:Addr}{o:Obj}{kvs:List (List Key×V)}{k:Nat}{g:TG}{tt:TT}{te:TE}{σ:St}{H:Hp}{Q:VK}(Pv:Nat→List V→Hp→Prop)(h0:Pv 0 [] H)(hl:∀i ys H,Pv i ys H→H d=some (.frz o (.dT kvs))∧ys.length<sizeLine)(hs:∀i p b T ys H (C:List V→Hp→Prop),kvs[i]?=some p→H b=some (.tup (p.1.map kV))→H T=none→Pv i ys H→(∀ys' H',Pv (i+1) ys' H'→C ys' H')→g (.ref T) (List.replicate k none++σ) (upd H T (.tup [.ref b,p.2])) fun σ2 H2=>Wk σ2 (List.replicate k none++σ)∧tt σ2 H2 fun ok H3=>
   if ok=true then te σ2 H3 fun y H4=>C (ys++[y]) H4 else C ys H3)(hd:∀ys H,Pv kvs.length ys H→ys.length≤sizeLine∧∀p,H p=none→Q (.ref p) (upd H p (.lst ys))):CompR (sN d kvs o) H k g tt te σ Q:=by
 refine⟨fun i m ys H=>m=kvs.length-i∧i≤kvs.length∧Pv i ys H,⟨kvs.length,by simp,Nat.zero_le _,h0⟩,?_⟩;rintro i m ys H ⟨rfl,hi,p⟩;have q:=hl i ys H p;by_cases CI:i<kvs.length
 ·refine .inr ⟨⟨CI,q.1⟩,q.2,fun v H' y=>?_⟩;obtain⟨T,p',b,hp',rfl,hb,nT,rfl⟩:=y;exact hs i p' b T ys H (fun ys' H'=>∃m',m'<kvs.length-i∧m'=kvs.length-(i+1)∧i+1≤kvs.length∧Pv (i+1) ys' H') hp' hb nT p fun ys' H' p'=>⟨_,by omega,rfl,CI,p'⟩
 ·have e:i=kvs.length:=by omega
  subst e;exact .inl ⟨⟨zD _,q.1⟩,hd ys H p⟩
end
section
variable{X:Cx}{CA:List (Addr×Obj)}{σ:St}{H:Hp}{s:Shared}
theorem vz{prog:Program}{w:World}{A:Around}{E:Value→Shared→Prop}{elts:List Expr}{k:Nat}{pos:Pos}{it d T:Addr}{i n ep:Nat}{f0 f1 ok ov:Value}{Q:Unit→Shared→Prop}(he:ItI s.heap it d i n ep f0 f1 ok ov)(alt:∃(a:Addr) (b:Bool),f0=rawInt a∧f1=.bool b)(hQ:∀h',xm it d n ep i h'→(∀b o,b≠it→s.heap.get? b=some o→h'.get? b=some o)→Q () {s with heap:=h'}):wpAny (model prog w) A (letOwnedTupleGo (.Tuple elts k pos) (.ref it) (.ref T)) Q E s:=by
 unfold letOwnedTupleGo;refine ae (Cv he ?_);show wpAny _ _ (if (["enumerate","zip","dict_itemiterator","dict_reverseitemiterator","odict_iterator","itertools.zip_longest","itertools.pairwise"].contains "dict_itemiterator" && (#[f0,f1,.ref d,.int i 0,.int n 0,.int ep 0,ok,ov]:Array Value)[0]? == some (rawInt T))=true then _ else _) Q E s;by_cases c:(["enumerate","zip","dict_itemiterator","dict_reverseitemiterator","odict_iterator","itertools.zip_longest","itertools.pairwise"].contains "dict_itemiterator" && (#[f0,f1,.ref d,.int i 0,.int n 0,.int ep 0,ok,ov]:Array Value)[0]? == some (rawInt T))=true
 ·rw[zE c];refine ae (Bo ?_);show wpAny _ _ (setField (.ref it) 0 .none) Q E s;exact wpAny_setField_rec he (by simp) fun h' he' hs'=>hQ h' ⟨.none,f1,ok,ov,he',.inl rfl⟩ hs'.extBut
 ·rw[pi c];exact zC (hQ s.heap ⟨f0,f1,ok,ov,he,.inr alt⟩ fun _ _ _ e=>e)
theorem qE{P:Program}{w:World}{K:W.Frag}{elts:List Expr}{k:Nat}{np:Pos}{d it:Addr}{kvs:List (List Key×V)}{o:Obj}{es:Array DictEntry}{ep:Nat}(ex:o.ExactDict)(od:o.data=.dict es ep)(sz:es.size=kvs.length):
  Turn P w K (.Tuple elts k np) (sN d kvs o) [it] it (xm it d es.size ep) where
 mem:=by simp
 obj:=fun i h st b hb=>by
  obtain⟨f0,f1,ok,ov,q,_⟩:=st;rw[zG.mp hb];exact⟨_,q,fun v z=>(nomatch z)⟩
 keep:=fun i h h' st k=>by
  obtain⟨f0,f1,ok,ov,q,r⟩:=st;exact⟨f0,f1,ok,ov,k it (.head _) _ q,r⟩
 item:=by
  intro X hP hw hK hc i CA s σ H E I hf st hg;subst hP hw hK;obtain⟨hi,hd⟩:=hg;obtain⟨ho,z,lo,xs,kt,o',es',ep',h1,_,h3,h4,_⟩:=(show ObjOk X.prog X.w H s.heap d (.frz o (.dT kvs))from I.hok d _ hd);rw[ho]at h1;cases h1;rw[od]at h3;cases h3;have e1:kvs[i]?=some kvs[i]:=by simp[hi]
  obtain⟨x,ex1,hx,rx⟩:=Pj kt e1;have eq:es[i]=⟨es[i].hash,.ref x.2.1,x.2.2⟩:=by
   have q:es.toList[i]?=some es[i]:=by rw[zL];exact zJ (by omega)
   rw[h4,z9,ex1]at q;rw[←Aa q];rfl
  have ek:es[i].key=.ref x.2.1:=by rw[eq]
  have ev:es[i].val=x.2.2:=by rw[eq]
  obtain⟨f0,f1,ok,ov,q,alt⟩:=st;refine f6 q alt ⟨o,ho,ex,od⟩ (by omega) fun g e0 e1' a b CP al tg zg kp=>⟨_,rfl,?_⟩;refine vz (s:={s with heap:=g}) CP al fun h' st2 kp2=>?_;have itl:it≠s.heap.objs.size:=zX (zN q);have ni:H it=none:=(hf it (.head _)).1;refine⟨.ref s.heap.objs.size,upd H s.heap.objs.size (.tup [.ref x.2.1,kvs[i].2]),?_,rfl,⟨_,_,_,e1,rfl,hx,I.hok.fresh (zD _),rfl⟩,st2,fun c hc=>?_⟩
  ·refine I.zipped (t':=s.toks) (ch:=[it]) (fun c v hc e=>kp2 c v (fun z=>hc (by rw[z];exact .head _)) (kp c v (fun z=>hc (by rw[z];exact .head _)) e)) hf (zD _) ⟨by show(2:Nat)≤sizeLine;decide,[.ref x.2.1,x.2.2],.cons rfl (.cons rx .nil),?_⟩;rw[ek,ev]at tg;exact⟨_,kp2 _ _ (Ne.symm itl) tg,⟨rfl,rfl⟩,_,rfl⟩
  ·rw[zG.mp hc,Za itl];exact ni
 done:=by
  intro X hP hw hK hc i CA s σ H E I hf st hg;subst hP hw hK;obtain⟨hi,hd⟩:=hg;obtain⟨ho,_⟩:=I.hok d _ hd;obtain⟨f0,f1,f2,f3,f4,f5⟩:=hf it (.head _);obtain⟨_,_,_,_,q,_⟩:=st;exact fW (I.ok.hd hc) q ⟨o,ho,ex,od⟩ (by omega) fun g eb=>⟨rfl,I.turned (t':=s.toks) (fun b ob hb e=>eb b ob hb e) f0 f1 f3 f4 f5⟩
 self:=fun _ _ _ _ _ st h=>by
  obtain⟨_,_,_,_,q,_⟩:=st;exact Oq q h
theorem j5{elts:List Expr}{k:Nat}{np:Pos}{l:Expr}{tl:TE}(hl:PE X l tl):PI X (.Tuple elts k np) l (mH tl):=by
 intro CA s σ H R I h;refine thn (hl CA s σ H _ I h) fun v s1 CB=>?_;obtain⟨x,H1,I1,r1,q1⟩:=CB;obtain⟨v,d,kvs,rfl,hv,hd,q⟩:=q1;cases r1;obtain⟨view,_⟩:=(show ObjOk X.prog X.w H1 s1.heap v (bg v d)from I1.hok v _ hv);obtain⟨o,I2,_⟩:=I1.freezeT hd;obtain⟨ho,z,lo,xs,kt,o',es,ep,h1,h2,h3,h4,_⟩:=(show ObjOk X.prog X.w _ s1.heap d (.frz o (.dT kvs))from I2.hok d _ Z2);rw[ho]at h1;cases h1;have sz:es.size=kvs.length:=by rw[←zU,h4,az,←zV kt]
 refine gx view ⟨o,ho,h2,h3⟩ fun g st zg kp=>⟨s1.heap.objs.size,[s1.heap.objs.size],_,_,_,rfl,I2.kept (t':=s1.toks) kp,qE h2 h3 sz,⟨_,_,_,_,st,.inl rfl⟩,fun b hb=>?_,q o⟩;rw[zG.mp hb];exact I2.fpOk (zD _) (I2.hok.fresh (zD _))
def thwE(D:Ends)(d:Addr)(kvs:List (List Key×V)):Ends where
 nx:=fun σ H2=>∃o,H2 d=some (.frz o (.dT kvs))∧D.nx σ (upd H2 d (.dT kvs))
 rt:=fun v H2=>∃o,H2 d=some (.frz o (.dT kvs))∧D.rt v (upd H2 d (.dT kvs))
 bk:=fun σ H2=>∃o,H2 d=some (.frz o (.dT kvs))∧D.bk σ (upd H2 d (.dT kvs))
 ct:=fun σ H2=>∃o,H2 d=some (.frz o (.dT kvs))∧D.ct σ (upd H2 d (.dT kvs))
def xZ(t:TS):TS:=fun D σ H=>∃(d:Addr)(kvs:List (List Key×V)),H d=some (.dT kvs)∧t (thwE D d kvs) σ H
theorem s_{st:Stmt}{t:TS}(h:PS X st t):PS X st (xZ t):=by
 intro CA s σ H D I hw;obtain⟨d,kvs,hd,q⟩:=hw;obtain⟨_,_,nf⟩:=I.freezeT hd;refine thn (h CA s σ H _ I q) fun f s1 hf=>?_;cases f with
 |next=>
  obtain⟨σ2,H2,I2,o,hd2,q2⟩:=hf;exact⟨σ2,_,I2.thawT nf hd2,q2⟩
 |brk=>
  obtain⟨σ2,H2,I2,o,hd2,q2⟩:=hf;exact⟨σ2,_,I2.thawT nf hd2,q2⟩
 |cont=>
  obtain⟨σ2,H2,I2,o,hd2,q2⟩:=hf;exact⟨σ2,_,I2.thawT nf hd2,q2⟩
 |ret u=>
  obtain⟨v,σ2,H2,I2,r,o,hd2,q2⟩:=hf;exact⟨v,σ2,_,I2.thawT nf hd2,r,q2⟩
end
end L2
namespace K34
open PySem L2 Ld
theorem v8{ps:Sps}{i:Nat}{p0:List Key×V}(h:(af ps)[i]?=some p0):∃p,ps[i]?=some p∧(kk p.1,V.int p.2)=p0:=by
 unfold af at h;rw[z9]at h;obtain⟨p,hp,e⟩:=AV.mp h;exact⟨p,hp,e⟩
structure Tw(H:Hp)(d L:Addr)(qs fs:Sps)(as:List Addr)(H':Hp):Prop where
 gS:Same H H'
 e_d:H' d=some (.dT (af qs))
 e_L:H' L=some (.lst (as.map V.ref))
 pL:Paired (FT (ao L H')) as fs
theorem Tw.same{H H1 H2:Hp}{d L:Addr}{qs fs:Sps}{as:List Addr}(h:Tw H d L qs fs as H1)(g:Same H1 H2):Tw H d L qs fs as H2:=
 ⟨h.gS.trans g,g _ _ h.e_d,g _ _ h.e_L,Paired.mapP h.pL fun _ _ f=>Zs (Us h.e_L g) f⟩
def vw:Sp:=fun vs H Q _=>∃(r q:Addr)(ts:List Th)(Cz or total:Int)(qs:Sps),vs=[.ref r,.ref q]∧DV H (.ref r) (aS ts)∧ts.length≤500∧LadAt H q Cz or total qs∧(qs.map (·.1)).Nodup∧qs.length≤400∧0≤or∧or≤20∧∀(p:Addr)(H':Hp),H p=none→Same H H'→PprAt H' p (c_ qs (av ts) or.toNat)→Q (.ref p) H'
variable{P:Program}{w:World}{K:W.Frag}{mg:Str→Option Value}{base:Heap}{f:Addr}{fd:FuncData}
theorem vP(aM:mg "dict"=none)(aN:mg "range"=none)(bX:Has P w K mg base "standing_of" 2 ["stream"] fI)(aR:Has P w K mg base "parent_of" 1 ["stretch"] cO)(aU:Has P w K mg base "added_counts" 1 ["one","other"] jZ)(F:Fun K "folds_towards" "folds_towards" bA f fd):FnOk P w K mg base CX0 3 f fd ["stream","ladder"] vw:=by
 refine F.ok Zm (fun vs H Q E h=>?_) (fun cdv A outer s H vs Q E hr h=>?_)
 ·obtain⟨r,q,ts,Cz,or,total,qs,rfl,_⟩:=h;rfl
 obtain⟨r,q,ts,Cz,or,total,qs,rfl,dv,tl,lad,nq,ql,d0,d1,hq⟩:=h;obtain⟨cc,cs,CM,CJ,pr⟩:=lad.at_;have cl:=zV pr;have nd:((af qs).map (·.1)).Nodup:=by
  rw[Vk];exact A8.mpr (nq.imp fun h e=>h (Vh e))
 refine⟨_,(Z3 (Yt (pv 1) (Y6 rfl (Z8 (Z9 (i:=2) Zm.nd rfl (Or.inl rfl)) (Z8 (Z9 (i:=3) Zm.nd rfl (Or.inl rfl)) (Z8 (Z9 (i:=4) Zm.nd rfl (Or.inl rfl)) (Z8 (Z9 (i:=5) Zm.nd rfl (Or.inl rfl)) Zo)))))) Zb),?_⟩;refine⟨_,rfl,q,_,rfl,SqT.of CM,rfl,_,_,rfl,_,_,rfl,_,_,rfl,_,_,rfl,rfl,?_⟩;refine⟨_,(Z3 (@kT _ _ 6 _ _ _ _ Zm.nd rfl (Or.inr rfl) (Y9 (Xu rfl hr.units) rfl aM A6 (Z0 (pv 4) Z1)) (by rfl) (by first | exact .inl rfl | exact .inr rfl)) Zb),?_⟩;refine⟨_,rfl,cc,_,_,rfl,CJ,Tz pr,by rw[Zk];omega,fun d n_d=>?_⟩;rw[Wy nd];have gg:=Z6 n_d (.dT (af qs));have e_d:(upd H d (.dT (af qs))) d=some (.dT (af qs)):=Z2;generalize upd H d (.dT (af qs))=H1 at gg e_d⊢;refine⟨_,(Z3 (Zy 7 Zm.nd rfl (Or.inl rfl) (Yl Z1)) Zb),?_⟩;refine⟨leN rfl,fun L n_L=>?_⟩;have yV:H L=none:=gg.free n_L;have gz:=Z6 n_L (.lst []);have e_L:(upd H1 L (.lst [])) L=some (.lst (([]:List Addr).map V.ref)):=Z2;have gg:=gg.trans gz;have e_d:=gz _ _ e_d;generalize upd H1 L (.lst [])=H2 at gg e_d e_L⊢;have tw:Tw H d L qs [] [] H2:=⟨gg,e_d,e_L,.nil⟩;clear e_d e_L gz gg n_d n_L;refine⟨_,(Z3 (Zy 8 Zm.nd rfl (Or.inl rfl) (Z4 bX hr (Z0 (pv 0) Z1))) Zb),?_⟩;refine⟨_,rfl,r,ts,rfl,dv.mono tw.gS,by omega,fun sd H3 _ g3 e_s=>?_⟩;have tw:=tw.same g3;have sl:=Vy ts;refine⟨_,(Z3 (X8 Ao rfl (Uz rfl aN (Z0 (pv 3) Z1)) (Z9 (i:=9) Zm.nd rfl (Or.inl rfl))
 (Z3 (s_ (gJ (i:=10) Zm.nd rfl rfl (own:=["stretch","many"]) (R0 rfl rfl) (j5 (U5 AQ Bz B4 T5 (pv 8)))
  (fun _ _ _ _ _=>(V4 K 2 rfl rfl (Z8 (Z9 (i:=0) Xr rfl (Or.inl rfl) (Or.inr rfl)) (Z8 (Z9 (i:=1) Xr rfl (Or.inl rfl) (Or.inr rfl)) Zo)))) (fun _ _ _ _ _=>Wh)
  (fun _ _ _ _ _=>(Zn (Z0 (pv 0) (Z0 (Ze Xl (pv 1) (X1 (Yg hr) (pv 8) (pv 0) Z5 ⟨rfl,rfl,rfl,rfl⟩)) Z1))))))
 (Z3 (gJ (i:=11) Zm.nd rfl rfl (own:=["stretch","many"]) (R0 rfl rfl) (Yw (pv 10))
  (fun _ _ _ _ _=>(V4 K 2 rfl rfl (Z8 (Z9 (i:=0) Xq rfl (Or.inl rfl) (Or.inr rfl)) (Z8 (Z9 (i:=1) Xq rfl (Or.inl rfl) (Or.inr rfl)) Zo)))) (fun _ _ _ _ _=>(Se (Zi Rt (pv 1) Z5 (Zh _))))
  (fun _ _ _ _ _=>(Zn (Z0 (pv 0) (Z0 (pv 1) Z1)))))
 (Z3 (Xj (Uo Ar PySem.F.slot_list_extend PySem.F.type_list_extend Rm (pv 7) (Z0 (pv 11) Z1)))
 (Z7 (Zy 8 Zm.nd rfl (Or.inl rfl) (Z4 aU hr (Z0 (Zn Z1) (Z0 (Xy (own:=["stretch","many"]) (R0 rfl rfl) (Yw (pv 11))
  (fun _ _ _ _ _=>(V4 K 2 rfl rfl (Z8 (Z9 (i:=0) Xp rfl (Or.inl rfl) (Or.inr rfl)) (Z8 (Z9 (i:=1) Xp rfl (Or.inl rfl) (Or.inr rfl)) Zo)))) (fun _ _ _ _ _=>Wh)
  (fun _ _ _ _ _=>(Zn (Z0 (Z4 aR hr (Z0 (pv 0) Z1)) (Z0 (pv 1) Z1))))) Z1))))))))) Zb),?_⟩
 refine⟨_,rfl,or,rfl,by omega,by omega,?_⟩;refine Ua (lo:=0) (n:=or.toNat) (fun i σ H'=>∃(o9 o10 o11:Option V)(sd:Addr)(as:List Addr),σ=[some (.ref r),some (.ref q),some (.int Cz),some (.int or),some (.ref cc),some (.int total),some (.ref d),some (.ref L),some (.ref sd),o9,o10,o11]∧Tw H d L qs (c_ qs (av ts) i) as H'∧H' sd=some (.dT (af (stn qs (av ts) i)))) ⟨_,_,_,sd,[],rfl,tw,e_s⟩ ?_ ?_
 ·clear tw e_s g3;rintro i σ H4 N B1 R hN hR hi ⟨o9,o10,o11,sd,as,rfl,tw,e_s⟩;have fl:=Ps qs (av ts) i;have stl:=lD qs (av ts) i;have asl:=zV tw.pL;have fb:i*(av ts).length≤20*500:=Nat.mul_le_mul (by omega) (by omega);have hF:c_ qs (av ts) (i+1)=c_ qs (av ts) i++exc qs (stn qs (av ts) i):=rfl;have hS:stn qs (av ts) (i+1)=upS (exc qs (stn qs (av ts) i)):=rfl;rw[hF,hS]at hN;generalize stn qs (av ts) i=st at e_s stl hN;refine⟨sd,_,e_s,?_⟩;refine⟨_,rfl,Ti e_s,sd,_,rfl,rfl,e_s,fun v n_v=>?_⟩;have gz:=Z6 n_v (bg v sd);have tw:=tw.same gz;have e_s:=gz _ _ e_s;have e_v:(upd H4 v (bg v sd)) v=some (bg v sd):=Z2;generalize upd H4 v (bg v sd)=H5 at tw e_s e_v⊢;refine⟨v,sd,_,rfl,e_v,e_s,fun o=>?_⟩;have ds:d≠sd→(upd H5 sd (.frz o (.dT (af st)))) d=some (.dT (af qs)):=fun z=>by rw[Za z];exact tw.e_d
  refine Rx (fun j ys H'=>Same (upd H5 sd (.frz o (.dT (af st)))) H'∧∃bs:List Addr,ys=bs.map V.ref∧Paired (FT H') bs ((st.take j).map fun p=>(p.1,p.2-cnt qs p.1))) ⟨Same.refl _,[],rfl,.nil⟩ ?_ ?_ ?_
  ·rintro j ys H' ⟨g,bs,rfl,pb⟩;have bl:=zV pb;rw[az,z5]at bl;exact⟨g _ _ Z2,Zj (by rw[az];omega)⟩
  ·rintro j p0 b T ys H' C hp0 CG n_T ⟨g,bs,rfl,pb⟩ hC;obtain⟨p,hp,rfl⟩:=v8 hp0;have gT:=Z6 n_T (.tup [.ref b,.int p.2]);have e_T:(upd H' T (.tup [.ref b,.int p.2])) T=some (.tup [.ref b,.int p.2]):=Z2;have pb:=Paired.mapP pb fun _ _ f=>Zs gT f;have CG:KAt (upd H' T (.tup [.ref b,.int p.2])) b p.1:=gT _ _ CG;have g:=g.trans gT;generalize upd H' T (.tup [.ref b,.int p.2])=H6 at e_T pb CG g⊢;have dg:∃v0,DGet H6 d (.ref b) v0∧v0.getD (.int 0)=.int (cnt qs p.1):=by
    by_cases z:d=sd
    ·have a:=tw.e_d;rw[z,e_s]at a;injection a with a
     injection a with a
     rw[z];exact⟨_,.inr ⟨_,kk p.1,b,.inr ⟨o,g _ _ Z2⟩,rfl,CG,rfl⟩,by rw[a];exact Ys _ _⟩
    ·exact⟨_,Y7 (g _ _ (ds z)) CG,Ys _ _⟩
   have isd:IsD H6 d:=by
    by_cases z:d=sd
    ·rw[z];exact .inr ⟨_,.inr ⟨o,g _ _ Z2⟩⟩
    ·exact .inr ⟨_,.inl (g _ _ (ds z))⟩
   obtain⟨v0,dg1,dg2⟩:=dg;refine⟨T,_,rfl,SqT.of e_T,rfl,_,_,rfl,_,_,rfl,rfl,Wk.refl _,_,rfl,_,rfl,_,rfl,d,rfl,isd,_,rfl,v0,dg1,p.2,cnt qs p.1,rfl,dg2,leN rfl,fun u n_u=>hC _ _ ⟨g.trans (Z6 n_u _),bs++[u],by rw[zW];rfl,?_⟩⟩;rw[Zv hp,zW];have gu:=Z6 n_u (.tup [.ref b,.int (p.2-cnt qs p.1)]);exact BS (Paired.mapP pb fun _ _ f=>Zs gu f) ⟨b,Z2,gu _ _ CG⟩
  rintro ys H6 ⟨g6,bs,rfl,pb⟩;rw[Zk,Ab]at pb;have bl:=zV pb;rw[az]at bl;refine⟨Zl (by rw[az];omega),fun p n_p=>?_⟩;have g7:=g6.trans (Z6 n_p (.lst (bs.map V.ref)));have pd:p≠sd:=fun z=>by rw[z,g6 _ _ Z2]at n_p;cases n_p
  have sz:=Vl e_s g7;have CH:(upd (upd H6 p (.lst (bs.map V.ref))) sd (.dT (af st))) p=some (.lst (bs.map V.ref)):=by rw[Za pd];exact Z2
  have tS:∀{x:Addr}{xs:List V},H6 x=some (.tup xs)→(upd (upd H6 p (.lst (bs.map V.ref))) sd (.dT (af st))) x=some (.tup xs):=fun{x xs} e=>by
   rw[Za (fun z=>by rw[z,g6 _ _ Z2]at e;cases e),Za (Zd e n_p)];exact e
  have pb:=Paired.mapP pb fun _ _ ⟨y,f1,f2⟩=>(⟨y,tS f1,tS f2⟩:FT _ _ _);refine⟨o,g7 _ _ Z2,?_⟩;have tw:=tw.same sz;clear tS g6 g7 n_p sz e_v ds n_v;generalize upd (upd H6 p (.lst (bs.map V.ref))) sd (.dT (af st))=H7 at CH pb tw⊢;refine⟨_,rfl,p,rfl,⟨_,SqL.of CH⟩,?_⟩;refine Ws (xs:=bs.map V.ref) (fun j ys H'=>Same H7 H'∧∃us:List Addr,ys=us.map V.ref∧us.length≤j∧Paired (FT H') us (((st.map fun p=>(p.1,p.2-cnt qs p.1)).take j).filter fun p=>decide (0<p.2))) ⟨Same.refl _,[],rfl,zD _,.nil⟩ ?_ ?_ ?_
  ·rintro j ys H' _ ⟨g,_⟩;exact SqL.of (g _ _ CH)
  ·rintro j x ys H' C hx ⟨g,us,rfl,ul,pu⟩ hC;obtain⟨a,p1,rfl,hp1,b,e1,e2⟩:=Vi pb hx;have jl:=(zM.mp hp1).1;rw[az]at jl;refine⟨Zj (by rw[az];omega),a,_,rfl,SqT.of (g _ _ e1),rfl,_,_,rfl,_,_,rfl,rfl,Wk.refl _,_,rfl,_,_,rfl,rfl,_,rfl,?_⟩;by_cases c:p1.2 > 0
   ·rw[zP c];refine U9 ⟨_,rfl,_,rfl,leN rfl,fun u n_u=>hC _ _ ⟨g.trans (Z6 n_u _),us++[u],by rw[zW];rfl,by rw[zI];show us.length+1≤_;omega,?_⟩⟩;rw[Zv hp1,B7,AA,zE (zP c)];have gu:=Z6 n_u (.tup [.ref b,.int p1.2]);exact BS (Paired.mapP pu fun _ _ f=>Zs gu f) ⟨b,Z2,gu _ _ (g _ _ e2)⟩
   ·rw[As c];refine Xg (hC _ _ ⟨g,us,rfl,by omega,?_⟩);rw[Zv hp1,List.filter_append,List.filter_cons,if_neg (by simpa using c),List.filter_nil,List.append_nil];exact pu
  rintro ys H8 ⟨g8,us,rfl,ul,pu⟩;rw[show(bs.map V.ref).length=(st.map fun p=>(p.1,p.2-cnt qs p.1)).length by rw[az,az,bl],Ab]at pu;rw[az,bl]at ul;have pu:Paired (FT H8) us (exc qs st):=pu;refine⟨Zl (by rw[az];omega),fun l n_l=>?_⟩;have lL:l≠L:=fun z=>by rw[z,g8 _ _ tw.e_L]at n_l;cases n_l
  have gz:=g8.trans (Z6 n_l (.lst (us.map V.ref)));have tw:=tw.same gz;have pu:=Paired.mapP pu fun _ _ f=>Zs (Z6 n_l (.lst (us.map V.ref))) f;have CK:(upd H8 l (.lst (us.map V.ref))) l=some (.lst (us.map V.ref)):=Z2;clear gz g8 pb CH;generalize upd H8 l (.lst (us.map V.ref))=H9 at tw pu CK⊢;have exl:=gY qs st;have ull:=zV pu;refine⟨_,rfl,.inl ⟨rfl,_,SqL.of tw.e_L⟩,_,rfl,L,l,_,_,rfl,rfl,tw.e_L,CK,Zl (by rw[az,az];omega),?_⟩;have tL:∀{x:Addr}{xs:List V}{o:HO},H9 x=some (.tup xs)→(upd H9 L o) x=some (.tup xs):=fun{x xs o} e=>by
   rw[Za (fun z=>by rw[z,tw.e_L]at e;cases e)];exact e
  have hL:∀{x:Addr}{xs:List V}{o:HO},H9 x=some (.tup xs)→ao L (upd H9 L o) x=some (.tup xs):=fun{x xs o} e=>by
   rw[Zg (fun z=>by rw[z,tw.e_L]at e;cases e)];exact tL e
  rw[←zW];have tw2:Tw H d L qs (c_ qs (av ts) i++exc qs st) (as++us) (upd H9 L (.lst ((as++us).map V.ref))):=by
   refine⟨X9 tw.gS yV,?_,Z2,W6 ?_ ?_⟩
   ·rw[Za (fun z=>by have:=tw.e_d;rw[z,tw.e_L]at this;cases this)];exact tw.e_d
   ·exact Paired.mapP tw.pL fun _ _ ⟨y,f1,f2⟩=>⟨y,hL (Zf f1).2,hL (Zf f2).2⟩
   ·exact Paired.mapP pu fun _ _ ⟨y,f1,f2⟩=>⟨y,hL f1,hL f2⟩
  have pu2:Paired (FT (upd H9 L (.lst ((as++us).map V.ref)))) us (exc qs st):=Paired.mapP pu fun _ _ ⟨y,f1,f2⟩=>⟨y,tL f1,tL f2⟩;have fU:(upd H9 L (.lst ((as++us).map V.ref))) l=some (.lst (us.map V.ref)):=by rw[Za lL];exact CK
  clear tw pu CK tL hL;generalize upd H9 L (.lst ((as++us).map V.ref))=G1 at tw2 pu2 fU⊢;refine⟨leN rfl,fun t n_t=>?_⟩;have gz:=Z6 n_t (.tup []);have tw2:=tw2.same gz;have pu2:=Paired.mapP pu2 fun _ _ f=>Zs gz f;have fU:=gz _ _ fU;have CN:(upd G1 t (.tup [])) t=some (.tup []):=Z2;clear gz n_t;generalize upd G1 t (.tup [])=G2 at tw2 pu2 fU CN⊢;refine⟨_,rfl,l,rfl,⟨_,SqL.of fU⟩,?_⟩;refine Ws (xs:=us.map V.ref) (fun j ys H'=>Same G2 H'∧∃ws:List Addr,ys=ws.map V.ref∧Paired (FT H') ws (((exc qs st).take j).map fun p=>(ad p.1,p.2))) ⟨Same.refl _,[],rfl,.nil⟩ ?_ ?_ ?_
  ·rintro j ys H' _ ⟨g,_⟩;exact SqL.of (g _ _ fU)
  ·rintro j x ys H' C hx ⟨g,ws,rfl,pw⟩ hC;obtain⟨a,p1,rfl,hp1,b,e1,e2⟩:=Vi pu2 hx;have jl:=(zM.mp hp1).1;have wl:=zV pw;rw[az,z5]at wl;refine⟨Zj (by rw[az];omega),a,_,rfl,SqT.of (g _ _ e1),rfl,_,_,rfl,_,_,rfl,rfl,Wk.refl _,_,rfl,b,p1.1,rfl,g _ _ e2,fun y n_y=>?_⟩;have g1:=Z6 n_y (.tup [.int (ad p1.1).1,.int (ad p1.1).2]);have e_y:KAt (upd H' y (.tup [.int (ad p1.1).1,.int (ad p1.1).2])) y (ad p1.1):=Z2;have pw:=Paired.mapP pw fun _ _ f=>Zs g1 f;have g:=g.trans g1;generalize upd H' y (.tup [.int (ad p1.1).1,.int (ad p1.1).2])=G3 at e_y pw g⊢;refine⟨_,rfl,leN rfl,fun u n_u=>hC _ _ ⟨g.trans (Z6 n_u _),ws++[u],by rw[zW];rfl,?_⟩⟩;have gu:=Z6 n_u (.tup [.ref y,.int p1.2]);rw[Zv hp1,zW];exact BS (Paired.mapP pw fun _ _ f=>Zs gu f) ⟨y,Z2,gu _ _ e_y⟩
  rintro ys G3 ⟨g3,ws,rfl,pw⟩;rw[az,ull,Ab]at pw;have wl:=zV pw;rw[az]at wl;refine⟨Zl (by rw[az];omega),fun m n_m=>?_⟩;have gz:=g3.trans (Z6 n_m (.lst (ws.map V.ref)));have tw2:=tw2.same gz;have CN:=gz _ _ CN;have pw:=Paired.mapP pw fun _ _ f=>Zs (Z6 n_m (.lst (ws.map V.ref))) f;have e_m:(upd G3 m (.lst (ws.map V.ref))) m=some (.lst (ws.map V.ref)):=Z2;clear gz g3 n_m;generalize upd G3 m (.lst (ws.map V.ref))=G4 at tw2 CN pw e_m⊢;refine⟨t,m,ws,_,rfl,CN,e_m,pw,by rw[az];omega,fun sd2 G5 _ g5 e_s2=>?_⟩;exact hN _ _ ⟨_,_,_,sd2,as++us,rfl,tw2.same g5,e_s2⟩
 ·rintro σ H4 ⟨o9,o10,o11,sd,as,rfl,tw,e_s⟩;refine⟨_,(Z7 (Zc (pv 7))),?_⟩;exact⟨_,rfl,hq L _ yV tw.gS ⟨as,tw.e_L,Paired.mapP tw.pL fun _ _ f=>Zs Yi f⟩⟩
def si:Sp:=fun vs H Q _=>∃(r q:Addr)(ts:List Th)(Cz or:Int)(qs:Sps),vs=[.ref r,.ref q]∧DV H (.ref r) (aS ts)∧ts.length≤500∧LadAt H q Cz or (ag qs) qs∧Pok or qs∧qs.length≤400∧0≤or∧or≤20∧(∀t∈ts,0≤t.num∧1≤t.many)∧(¬((∀t∈ts,t.num<2^or.toNat)∧Can qs (eV ts))→∀H',Same H H'→Q .non H')∧((∀t∈ts,t.num<2^or.toNat)∧Can qs (eV ts)→∀(p:Addr)(H':Hp),H p=none→Same H H'→PprAt H' p (c_ qs (av ts) or.toNat)→Q (.ref p) H')
def pc:Sp:=fun vs H Q _=>∃(r q:Addr)(ts:List Th)(Cz or:Int)(qs:Sps),vs=[.ref r,.ref q]∧DV H (.ref r) (aS ts)∧ts.length≤500∧LadAt H q Cz or (ag qs) qs∧Pok or qs∧qs.length≤400∧0≤or∧or≤20∧(∀t∈ts,0≤t.num∧1≤t.many)∧∀(b:Bool)(H':Hp),Same H H'→(b=true↔(∀t∈ts,t.num<2^or.toNat)∧Can qs (eV ts))→Q (.bl b) H'
theorem xP(d_:Has P w K mg base "folds_towards" 3 ["stream","ladder"] vw)(bw:Has P w K mg base "is_folded" 5 ["stream","ladder","paper"] di)(F:Fun K "paper_for" "paper_for" cI f fd):FnOk P w K mg base CX0 6 f fd ["stream","ladder"] si:=by
 refine F.ok Sb (fun vs H Q E h=>?_) (fun cdv A outer s H vs Q E hr h=>?_)
 ·obtain⟨r,q,ts,Cz,or,qs,rfl,_⟩:=h;rfl
 obtain⟨r,q,ts,Cz,or,qs,rfl,dv,tl,lad,o,ql,d0,d1,th,hq0,hq1⟩:=h;have sl:=Vy ts;have fl:=Ps qs (av ts) or.toNat;have fb:or.toNat*(av ts).length≤20*500:=Nat.mul_le_mul (by omega) (by omega);refine⟨_,(Z3 (Zy 2 Sb.nd rfl (Or.inl rfl) (Z4 d_ hr (Z0 (pv 0) (Z0 (pv 1) Z1)))) Zb),?_⟩;refine⟨_,rfl,_,rfl,r,q,ts,Cz,or,_,qs,rfl,dv,tl,lad,o.kok.nd,ql,d0,d1,fun p H1 n_p g1 pp=>?_⟩;refine⟨_,(Z7 (Zc (p8 (Wd (Z4 bw hr (Z0 (pv 0) (Z0 (pv 1) (Z0 (pv 2) Z1))))) (pv 2) W1))),?_⟩;refine⟨_,rfl,_,rfl,_,rfl,r,q,p,ts,Cz,or,_,qs,_,rfl,dv.mono g1,by omega,lad.mono g1,o.kok.nd,ql,d0,d1,pp,by omega,fun H2 g2=>?_⟩;have ok:=qp d0 o th;refine⟨_,rfl,?_⟩;cases e:eQ or (ag qs) ts qs (c_ qs (av ts) or.toNat) with
 |true=>
  refine U9 ⟨_,rfl,hq1 (ok.mp e) p H2 n_p (g1.trans g2) (pp.mono g2)⟩
 |false=>
  refine Xg (hq0 (fun z=>?_) H2 (g1.trans g2));rw[ok.mpr z]at e;cases e
theorem tX(bd:Has P w K mg base "paper_for" 6 ["stream","ladder"] si)(F:Fun K "fits" "fits" jU f fd):FnOk P w K mg base CX0 7 f fd ["stream","ladder"] pc:=by
 refine F.ok t8 (fun vs H Q E h=>?_) (fun cdv A outer s H vs Q E hr h=>?_)
 ·obtain⟨r,q,ts,Cz,or,qs,rfl,_⟩:=h;rfl
 obtain⟨r,q,ts,Cz,or,qs,rfl,dv,tl,lad,o,ql,d0,d1,th,hq⟩:=h;refine⟨_,(Z7 (Zc (Xz Si (Z4 bd hr (Z0 (pv 0) (Z0 (pv 1) Z1))) W1 (Zh _)))),?_⟩;refine⟨_,rfl,_,rfl,r,q,ts,Cz,or,qs,rfl,dv,tl,lad,o,ql,d0,d1,th,fun no H1 g1=>⟨rfl,?_⟩,fun yes p H1 _ g1 _=>⟨rfl,?_⟩⟩
 ·exact hq false _ g1 ⟨(fun z=>nomatch z),fun z=>absurd z no⟩
 ·exact hq true _ g1 ⟨fun _=>yes,fun _=>rfl⟩
theorem Tk:∀t:Tr,(ax t).filterMap id=t.streams
 |.leaf ts=>rfl
 |.node l r=>by
  show(ax l++ax r++[none]).filterMap id=l.streams++r.streams;rw[Cf,Cf,Tk l,Tk r];exact Aw _
def fK:Sp:=fun vs H Q _=>∃(v:V)(t:Tr),vs=[v]∧DV H v t.D∧t.ht≤50∧t.size≤1000∧
 ∀(r:Addr)(ls:List V)(H':Hp),Same H H'→H r=none→H' r=some (.lst ls)→DVs H' ls (t.streams.map aS)→(∀x∈ls,∃q,x=.ref q∧H q=none∧q≠r)→Q (.ref r) H'
def c7:Sp:=fun vs H Q _=>∃(v:V)(t:Tr),vs=[v]∧DV H v t.D∧t.ht≤50∧t.size≤1000∧t.all.length≤100000∧
 ∀(r:Addr)(xs:List V)(H':Hp),Same H H'→H r=none→H' r=some (.lst xs)→DVs H' xs (t.all.map Th.D)→Q (.ref r) H'
theorem O6(bi:mg "list"=none)(cY:Has P w K mg base "steps_in" 1 ["tree"] ei)(F:Fun K "streams_in" "streams_in" cb f fd):FnOk P w K mg base CX0 2 f fd ["tree"] fK:=by
 refine F.ok O5 (fun vs H Q E h=>?_) (fun cdv A outer s H vs Q E hr h=>?_)
 ·obtain⟨v,t,rfl,_⟩:=h;rfl
 obtain⟨v,t,rfl,dv,tht,tsz,hq⟩:=h;refine⟨_,(Z7 (Zc (Xy (own:=["step"]) (R0 rfl rfl) (Yw (Z4 cY hr (Z0 (pv 0) Z1)))
  (fun _ _ _ _ _=>(Z9 (i:=0) Tc rfl (Or.inl rfl) (Or.inr rfl))) (fun _ _ _ _ _=>(Se (Zi Si (pv 0) W1 (Zh _))))
  (fun _ _ _ _ _=>(Y9 (Oa K rfl) rfl bi Bh (Z0 (pv 0) Z1)))))),?_⟩
 refine⟨_,rfl,v,t,H,rfl,Same.refl _,dv,tsz,fun r0 ls H1 g1 n0 e0 pr=>?_⟩;have pl:=U4 pr;rw[Wp]at pl;refine⟨r0,rfl,⟨_,SqL.of e0⟩,?_⟩;refine Ws (xs:=ls) (fun n ys H'=>Same H1 H'∧DVs H' ys ((((ax t).take n).filterMap id).map aS)∧ys.length≤n∧∀x∈ys,∃q,x=.ref q∧H q=none∧H' q≠none) ⟨Same.refl _,.nil,zD _,(fun _ h=>nomatch h)⟩ ?_ ?_ ?_
 ·rintro n ys H' _ ⟨g,_⟩;exact SqL.of (g _ _ e0)
 ·rintro n x ys H' C hx ⟨g,pa,yl,fr⟩ hC;obtain⟨o,ho,sv⟩:=gw pr hx;have lt:n<ls.length:=(zM.mp hx).1;refine⟨Zj (by omega),Wk.refl _,_,rfl,rfl,_,rfl,?_⟩;cases o with
  |none=>
   have sv:x=.non:=sv;subst sv;refine Xg (hC _ _ ⟨g,?_,by omega,fr⟩);rw[Zv ho,Cf];simpa using pa
  |some ts=>
   have sv:DV H x (aS ts):=sv;obtain⟨b,xs,rfl,eb,qb⟩:=DV.list_inv sv;refine U9 ⟨_,rfl,b,xs,rfl,.inl (SqL.of (g _ _ (g1 _ _ eb))),fun u nu=>?_⟩;refine hC _ _ ⟨g.trans (Z6 nu _),?_,by rw[zI];show ys.length+1≤_;omega,?_⟩
   ·rw[Zv ho,Cf,zW];exact(pa.mono (Z6 nu _)).append (.cons (.lst Z2 (qb.mono (g1.trans (g.trans (Z6 nu _))))) .nil)
   ·intro y hy
    rcases zT.mp hy with h | h
    ·obtain⟨q,e,q1,q2⟩:=fr y h;refine⟨q,e,q1,fun z=>?_⟩;by_cases c:q=u
     ·rw[c,Z2]at z;cases z
     ·rw[Za c]at z;exact q2 z
    ·rw[zG.mp h];exact⟨u,rfl,g1.free (g.free nu),by rw[Z2];exact fun z=>nomatch z⟩
 ·rintro ys H' ⟨g,pa,yl,fr⟩;have e:(((ax t).take ls.length).filterMap id)=t.streams:=by
   rw[pl,←Wp t,Ab];exact Tk t
  rw[e]at pa;refine⟨Zl (by omega),fun p np=>hq p ys _ (g1.trans (g.trans (Z6 np _))) (g1.free (g.free np)) Z2 (pa.mono (Z6 np _)) fun x hx=>?_⟩;obtain⟨q,e,q1,q2⟩:=fr x hx;exact⟨q,e,q1,fun z=>q2 (z ▸ np)⟩
theorem gM(gj:Has P w K mg base "streams_in" 2 ["tree"] fK)(F:Fun K "stream_of" "stream_of" cD f fd):FnOk P w K mg base CX0 3 f fd ["tree"] c7:=by
 refine F.ok Vz (fun vs H Q E h=>?_) (fun cdv A outer s H vs Q E hr h=>?_)
 ·obtain⟨v,t,rfl,_⟩:=h;rfl
 obtain⟨v,t,rfl,dv,hht,hsz,hal,hq⟩:=h;refine⟨_,(Z3 (Zy 1 Vz.nd rfl (Or.inl rfl) (Yl Z1))
 (Z3 (X8 Ao rfl (Yw (Z4 gj hr (Z0 (pv 0) Z1))) (Z9 (i:=2) Vz.nd rfl (Or.inl rfl))
 (Z7 (Xj (Uo Ar PySem.F.slot_list_extend PySem.F.type_list_extend Rm (pv 1) (Z0 (pv 2) Z1)))))
 (Z7 (Zc (pv 1))))),?_⟩
 refine⟨leN rfl,fun Ta hTa=>?_⟩;refine⟨_,rfl,v,t,rfl,dv.mono (Z6 hTa _),hht,hsz,fun r ls H1 g1 hr1 er dl hfr=>?_⟩;have lT:H1 Ta=some (.lst []):=g1 _ _ Z2;have rT:Ta≠r:=fun e=>by rw[←e,Z2]at hr1;cases hr1
 refine⟨r,rfl,⟨ls,SqL.of er⟩,?_⟩;have dll:=dl.length;rw[az]at dll;have sub:Same (ao Ta H1) H1:=Yi;have dl':DVs (ao Ta H1) ls (t.streams.map aS):=by
  have main:∀(ls:List V)(ss:List (List Th)),DVs H1 ls (ss.map aS)→(∀x∈ls,∃q,x=.ref q∧upd H Ta (.lst []) q=none∧q≠r)→DVs (ao Ta H1) ls (ss.map aS):=by
   intro ls
   induction ls with
   |nil=>
    intro ss d _;cases ss with
    |nil=>exact .nil
    |cons s ss=>obtain⟨_,_,e,_⟩:=DVs.cons_inv d;cases e
   |cons x xs ih=>
    intro ss d hf;cases ss with
    |nil=>have:=d.nil_inv;cases this
    |cons s ss=>
     obtain⟨x',r',e,d1,d2⟩:=DVs.cons_inv d;cases e;refine .cons ?_ (ih ss d2 fun y hy=>hf y (Ay _ hy));obtain⟨q,rfl,hq0,_⟩:=hf x Au;obtain⟨a,ys,e,e2,d3⟩:=DV.list_inv d1;cases e;have nq:q≠Ta:=fun e=>by rw[e,Z2]at hq0;cases hq0
     have things:∀(ys:List V)(ts:List Th),DVs H1 ys (ts.map Th.D)→DVs (ao Ta H1) ys (ts.map Th.D):=by
      intro ys
      induction ys with
      |nil=>
       intro ts d;cases ts with
       |nil=>exact .nil
       |cons t ts=>obtain⟨_,_,e,_⟩:=DVs.cons_inv d;cases e
      |cons z zs ih2=>
       intro ts d;cases ts with
       |nil=>have:=d.nil_inv;cases this
       |cons t ts=>
        obtain⟨z',zr,e,d4,d5⟩:=DVs.cons_inv d;cases e;refine .cons ?_ (ih2 ts d5);obtain⟨c,cs,rfl,ec,d6⟩:=DV.tup_inv d4;have nc:c≠Ta:=fun e=>by rw[e,lT]at ec;cases ec
        refine .tup (by rw[Zg nc];exact ec) ?_;obtain⟨_,_,rfl,k1,d6⟩:=d6.cons_inv;obtain⟨_,_,rfl,k2,d6⟩:=d6.cons_inv;obtain⟨_,_,rfl,k3,d6⟩:=d6.cons_inv;obtain⟨_,_,rfl,k4,d6⟩:=d6.cons_inv;have:=d6.nil_inv;subst this;cases k1;cases k2;cases k3;cases k4;exact .cons (.int _) (.cons (.str _) (.cons (.int _) (.cons (.int _) .nil)))
     exact .lst (by rw[Zg nq];exact e2) (things ys s d3)
  exact main ls t.streams dl hfr
 refine Pq (xs:=ls) (fun i σ H2=>∃(xs:List V)(o:Option V),σ=[some v,some (.ref Ta),o]∧Same (ao Ta H1) H2∧H2 Ta=some (.lst xs)∧DVs (ao Ta H1) xs ((t.streams.take i).flatten.map Th.D)) ⟨[],none,rfl,Yi,lT,.nil⟩ ?_ ?_ ?_
 ·rintro i σ H2 hi ⟨xs,o,rfl,g2,eT,dx⟩;exact SqL.of (g2 _ _ (by rw[Zg (Ne.symm rT)];exact er))
 ·rintro i x σ H2 hx ⟨xs,o,rfl,g2,eT,dx⟩;obtain⟨d,hd,dv1⟩:=DVs.getV dl' hx;rw[z9]at hd;obtain⟨ts,hts,rfl⟩:=AV.mp hd;obtain⟨a,ys,rfl,ea,da⟩:=DV.list_inv dv1;have lx:=dx.length;have ly:=da.length;rw[az]at lx ly;have hle:(t.streams.take (i+1)).flatten.length≤100000:=by
   have e:t.all.length=((t.streams.take (i+1)).flatten++(t.streams.drop (i+1)).flatten).length:=by
    rw[←List.flatten_append,AM,←Tr.all_eq]
   rw[zI]at e;omega
  have et:(t.streams.take (i+1)).flatten=(t.streams.take i).flatten++ts:=by
   rw[List.take_add_one,hts,List.flatten_append];simp
  rw[et,zI]at hle;refine⟨_,rfl,.inl ⟨rfl,_,SqL.of eT⟩,_,rfl,Ta,a,xs,ys,rfl,rfl,eT,g2 _ _ ea,Zl (by omega),?_⟩;refine⟨xs++ys,_,rfl,X9 g2 Rp,Z2,?_⟩;rw[et,zW];exact dx.append da
 ·rintro σ H2 ⟨xs,o,rfl,g2,eT,dx⟩;refine⟨_,rfl,?_⟩;rw[dll,Ab,←Tr.all_eq]at dx;refine hq Ta xs H2 ?_ hTa eT (dx.mono g2);exact fun b u hb=>g2 b u (by rw[Zg (Zd hb hTa)];exact g1 b u (Z6 hTa _ b u hb))
theorem ii{α β:Type}(f:α→β){l:List α}{i:Nat}{a:α}(h:l[i]?=some a):(l.take (i+1)).map f=(l.take i).map f++[f a]:=by
 rw[Zv h,zW];rfl
def qT(ps:Sps):List (Int×Int):=ps.map fun p=>(aE p.1,p.2)
def hW(ps:Sps):List (Int×Int):=ps.map fun p=>(aD p.1,p.2)
def Stc(k:Int×Int):Prop:=0≤k.1∧k.1≤20∧0≤k.2∧k.2≤1000000
def Sts(ps:Sps):Prop:=∀p∈ps,Stc p.1
theorem Kok.sts{or:Int}{ps:Sps}(h:Kok or (ps.map (·.1)))(d1:or≤10):Sts ps:=fun p hp=>by
 obtain⟨a,b,c,d⟩:=h.st p.1 (zF.mpr ⟨p,hp,rfl⟩);have:=R6 (m:=or-p.1.1) (by omega);exact⟨a,by omega,c,by omega⟩
def k5(f:Sps→List (Int×Int)):Sp:=fun vs H Q _=>∃(q:Addr)(Cz or total:Int)(ps:Sps),vs=[.ref q]∧LadAt H q Cz or total ps∧Sts ps∧ps.length≤200∧∀(l:Addr)(xs:List V)(H':Hp),Same H H'→H' l=some (.lst xs)→NsAt H' xs (f ps)→Q (.ref l) H'
theorem tI(cZ:Has P w K mg base "first_of" 1 ["stretch"] gI)(F:Fun K "lowest_places" "lowest_places" bC f fd):FnOk P w K mg base CX0 3 f fd ["ladder"] (k5 qT):=by
 refine F.ok R9 (fun vs H Q E h=>?_) (fun cdv A outer s H vs Q E hr h=>?_)
 ·obtain⟨q,Cz,or,total,ps,rfl,_⟩:=h;rfl
 obtain⟨q,Cz,or,total,ps,rfl,lad,st,pl,hq⟩:=h;refine⟨_,(Z7 (Zc (Xy (own:=["stretch","count"]) (R0 rfl rfl) (P2 (Xb Xd (pv 0) Z5))
  (fun _ _ _ _ _=>(V4 K 2 rfl rfl (Z8 (Z9 (i:=0) Xo rfl (Or.inl rfl) (Or.inr rfl)) (Z8 (Z9 (i:=1) Xo rfl (Or.inl rfl) (Or.inr rfl)) Zo)))) (fun _ _ _ _ _=>Wh)
  (fun _ _ _ _ _=>(Zn (Z0 (Z4 cZ hr (Z0 (pv 0) Z1)) (Z0 (pv 1) Z1))))))),?_⟩
 obtain⟨c,as,CM,CJ,pr⟩:=lad.at_;have al:=zV pr;refine⟨_,rfl,q,_,2,_,rfl,rfl,SqT.of CM,rfl,c,rfl,⟨_,SqT.of CJ⟩,?_⟩;refine iS (xs:=as.map V.ref) (fun i ys H'=>Same H H'∧NsAt H' ys ((ps.take i).map fun p=>(aE p.1,p.2))) ⟨Same.refl _,.nil⟩ ?_ ?_ ?_
 ·rintro i ys H' _ ⟨g,_⟩;exact SqT.of (g _ _ CJ)
 ·rintro i x ys H1 C hx ⟨gg,na⟩ hC;obtain⟨a,p,rfl,hp,b,CL,CG⟩:=Vi pr hx;have yl:=na.len;rw[az,z5]at yl;obtain⟨h0,h1,i0,i1⟩:=st p (z7 hp);refine⟨Zj (by omega),a,_,rfl,SqT.of (gg _ _ CL),rfl,_,_,rfl,_,_,rfl,rfl,Wk.refl _,_,rfl,b,p.1,rfl,gg _ _ CG,h0,h1,i0,by omega,_,rfl,leN rfl,?_⟩;intro t n_t;generalize hz:upd _ t _=H2;revert H2;refine blk ?_;intro H2 hz;have gz:=Zp hz n_t;have CN:=Y2 hz;clear hz;have gg:=gg.trans gz;refine hC _ _ ⟨gg,?_⟩;rw[ii _ hp];exact(na.mono gz).snoc (p:=(aE p.1,p.2)) CN
 rintro ys H1 ⟨gg,na⟩;have yl:=na.len;rw[az,az,z5]at yl;refine⟨Zl (by omega),?_⟩;intro l n_l;generalize hz:upd _ l _=H2;revert H2;refine blk ?_;intro H2 hz;have gz:=Zp hz n_l;have CK:=Y2 hz;clear hz;have gg:=gg.trans gz;have na:=na.mono gz;rw[az,al,Ab]at na;exact hq l ys _ gg CK na
theorem pj(b7:Has P w K mg base "last_of" 2 ["stretch"] gF)(F:Fun K "highest_places" "highest_places" bo f fd):FnOk P w K mg base CX0 3 f fd ["ladder"] (k5 hW):=by
 refine F.ok Sd (fun vs H Q E h=>?_) (fun cdv A outer s H vs Q E hr h=>?_)
 ·obtain⟨q,Cz,or,total,ps,rfl,_⟩:=h;rfl
 obtain⟨q,Cz,or,total,ps,rfl,lad,st,pl,hq⟩:=h;refine⟨_,(Z7 (Zc (Xy (own:=["stretch","count"]) (R0 rfl rfl) (P2 (Xb Xd (pv 0) Z5))
  (fun _ _ _ _ _=>(V4 K 2 rfl rfl (Z8 (Z9 (i:=0) Xi rfl (Or.inl rfl) (Or.inr rfl)) (Z8 (Z9 (i:=1) Xi rfl (Or.inl rfl) (Or.inr rfl)) Zo)))) (fun _ _ _ _ _=>Wh)
  (fun _ _ _ _ _=>(Zn (Z0 (Z4 b7 hr (Z0 (pv 0) Z1)) (Z0 (pv 1) Z1))))))),?_⟩
 obtain⟨c,as,CM,CJ,pr⟩:=lad.at_;have al:=zV pr;refine⟨_,rfl,q,_,2,_,rfl,rfl,SqT.of CM,rfl,c,rfl,⟨_,SqT.of CJ⟩,?_⟩;refine iS (xs:=as.map V.ref) (fun i ys H'=>Same H H'∧NsAt H' ys ((ps.take i).map fun p=>(aD p.1,p.2))) ⟨Same.refl _,.nil⟩ ?_ ?_ ?_
 ·rintro i ys H' _ ⟨g,_⟩;exact SqT.of (g _ _ CJ)
 ·rintro i x ys H1 C hx ⟨gg,na⟩ hC;obtain⟨a,p,rfl,hp,b,CL,CG⟩:=Vi pr hx;have yl:=na.len;rw[az,z5]at yl;have s1:=st p (z7 hp);refine⟨Zj (by omega),a,_,rfl,SqT.of (gg _ _ CL),rfl,_,_,rfl,_,_,rfl,rfl,Wk.refl _,_,rfl,b,p.1,rfl,gg _ _ CG,s1.1,s1.2.1,s1.2.2.1,s1.2.2.2,fun H2 g2=>⟨_,rfl,leN rfl,?_⟩⟩;have gg:=gg.trans g2;have na:=na.mono g2;intro t n_t;generalize hz:upd _ t _=H3;revert H3;refine blk ?_;intro H3 hz;have gz:=Zp hz n_t;have CN:=Y2 hz;clear hz;have gg:=gg.trans gz;refine hC _ _ ⟨gg,?_⟩;rw[ii _ hp];exact(na.mono gz).snoc (p:=(aD p.1,p.2)) CN
 rintro ys H1 ⟨gg,na⟩;have yl:=na.len;rw[az,az,z5]at yl;refine⟨Zl (by omega),?_⟩;intro l n_l;generalize hz:upd _ l _=H2;revert H2;refine blk ?_;intro H2 hz;have gz:=Zp hz n_l;have CK:=Y2 hz;clear hz;have gg:=gg.trans gz;have na:=na.mono gz;rw[az,al,Ab]at na;exact hq l ys _ gg CK na
theorem se{g:Int×Int→Int}(G:eg g):∀(h:Nat)(j n:Int),0≤j→aE ((h:Int),j)≤n→n≤aD ((h:Int),j)→g ((h:Int),j)≤g (0,n):=by
 intro h
 induction h with
 |zero=>
  intro j n _ a b;have e1:aE (((0:Nat):Int),j)=j:=vm j;have e2:aD (((0:Nat):Int),j)=j:=vv j;have e:j=n:=by omega
  rw[e];exact Ah _
 |succ h ih=>
  intro j n j0 a b;have z:=G (h:Int) j (by omega) j0;have e:(((h+1:Nat):Int),j)=upK h j:=AT (by show((h+1:Nat):Int)=(h:Int)+1;omega) rfl;rw[e]at a b⊢;have p:=Yd h;have pw:(2:Int)^(h+1)=2^h*2:=Int.pow_succ _ _;have t1:((h:Int)+1).toNat=h+1:=by omega
  have t0:((h:Int)).toNat=h:=by omega
  have f1:aE (upK h j)=j*(2^h*2):=by show j*2^((h:Int)+1).toNat=_;rw[t1,pw]
  have l1:aD (upK h j)=(j+1)*(2^h*2)-1:=by show(j+1)*2^((h:Int)+1).toNat-1=_;rw[t1,pw]
  have f2:aE ((h:Int),2*j)=2*j*2^h:=by show 2*j*2^((h:Int)).toNat=_;rw[t0]
  have l2:aD ((h:Int),2*j)=(2*j+1)*2^h-1:=by show(2*j+1)*2^((h:Int)).toNat-1=_;rw[t0]
  have f3:aE ((h:Int),2*j+1)=(2*j+1)*2^h:=by show(2*j+1)*2^((h:Int)).toNat=_;rw[t0]
  have l3:aD ((h:Int),2*j+1)=(2*j+1+1)*2^h-1:=by show(2*j+1+1)*2^((h:Int)).toNat-1=_;rw[t0]
  have q1:j*(2^h*2)=2*j*2^h:=by rw[Int.mul_comm (2^h) 2,←Bb,Int.mul_comm j 2]
  have q2:(j+1)*(2^h*2)=(2*j+1+1)*2^h:=by rw[Int.mul_comm (2^h) 2,←Bb];congr 1;omega
  rcases Int.lt_or_le n ((2*j+1)*2^h)with c | c
  ·exact Bv z.1 (ih (2*j) n (by omega) (by omega) (by omega))
  ·exact Bv z.2 (ih (2*j+1) n (by omega) (by omega) (by omega))
theorem ud{g:Int×Int→Int}(G:eg g){k:Int×Int}(k0:0≤k.1)(k2:0≤k.2){n:Int}(a:aE k≤n)(b:n≤aD k):g k≤g (0,n):=by
 have e:((k.1.toNat:Nat):Int)=k.1:=by omega
 have q:=se G k.1.toNat k.2 n k2;rw[e]at q;exact q a b
def dt(ns:List (Int×Int)):List Th:=ns.map fun p=>⟨0,"a",p.1,p.2⟩
theorem wO{f:Int×Int→Int}{or:Int}{ps:Sps}(o:Pok or ps)(hf:∀p∈ps,aE p.1≤f p.1∧f p.1≤aD p.1):Dom ps (dt (ps.map fun p=>(f p.1,p.2))):=fun g G=>by
 have st:=o.kok.st;have po:=o.pos;clear o
 induction ps with
 |nil=>exact Ah _
 |cons p ps ih=>
  have q:=ih (fun x hx=>hf x (.tail _ hx)) (fun k hk=>st k (.tail _ hk)) fun x hx=>po x (.tail _ hx);obtain⟨a,_,c,_⟩:=st p.1 (.head _);obtain⟨x,y⟩:=hf p (.head _);have r:=ud G a c x y;have m:=Int.mul_le_mul_of_nonneg_left r (show 0≤p.2 by have:=po p (.head _);omega);rw[Yv];show p.2*g p.1+wS g ps≤p.2*g (0,f p.1)+wT g (dt (ps.map fun p=>(f p.1,p.2)));omega
theorem l9{or:Int}{k:Int×Int}(h0:0≤k.1)(h1:k.1≤or)(h2:0≤k.2)(h3:k.2<2^(or-k.1).toNat):aD k≤2^or.toNat-1:=by
 unfold aD;have e:(2:Int)^or.toNat=2^(or-k.1).toNat*2^k.1.toNat:=by
  rw[←Int.pow_add,show(or-k.1).toNat+k.1.toNat=or.toNat by omega]
 have p:=Yd k.1.toNat;have q:(k.2+1)*2^k.1.toNat≤2^(or-k.1).toNat*2^k.1.toNat:=AS (by omega) (by omega);omega
def TsAt(H:Hp):List V→List Th→Prop:=Paired fun x t=>∃c:Addr,x=.ref c∧H c=some (.tup t.vs)
theorem TsAt.dvs{H:Hp}:∀{xs:List V}{ts:List Th},TsAt H xs ts→DVs H xs (ts.map Th.D)
 |_,_,.nil=>.nil
 |_,_,.cons ⟨c,e,h⟩ r=>by
  rw[e];exact .cons (Th.dv h) (TsAt.dvs r)
theorem TsAt.tup{H H':Hp}(g:∀c xs,H c=some (.tup xs)→H' c=some (.tup xs)){xs:List V}{ts:List Th}(h:TsAt H xs ts):TsAt H' xs ts:=Paired.mapP h fun _ _ ⟨c,e,q⟩=>⟨c,e,g _ _ q⟩
theorem wR{f:Int×Int→Int}{or:Int}{ps:Sps}(o:Pok or ps)(hf:∀p∈ps,aE p.1≤f p.1∧f p.1≤aD p.1):∀t∈dt (ps.map fun p=>(f p.1,p.2)),0≤t.num∧t.num<2^or.toNat∧1≤t.many∧t.word="a":=fun t ht=>by
 obtain⟨q,hq,rfl⟩:=zF.mp ht;obtain⟨p,hp,rfl⟩:=zF.mp hq;obtain⟨a,b,c,d⟩:=o.kok.st p.1 (zF.mpr ⟨p,hp,rfl⟩);obtain⟨x,y⟩:=hf p hp;have l:=l9 a b c d;have z:0≤aE p.1:=Ct c (A7 (Yd _));exact⟨by show 0≤f p.1;omega,by show f p.1<_;omega,o.pos p hp,rfl⟩
def wE:Sp:=fun vs H Q _=>∃(l:Addr)(xs:List V)(ns:List (Int×Int)),vs=[.ref l]∧H l=some (.lst xs)∧NsAt H xs ns∧ns.length≤300∧∀(r:Addr)(H':Hp),H r=none→Same H H'→DV H' (.ref r) (aS (dt ns))→Q (.ref r) H'
def mh(F:Sps→List (Int×Int)):Sp:=fun vs H Q _=>∃(q:Addr)(Cz or total:Int)(ps:Sps),vs=[.ref q]∧LadAt H q Cz or total ps∧Sts ps∧ps.length≤200∧∀(r:Addr)(H':Hp),H r=none→Same H H'→DV H' (.ref r) (aS (dt (F ps)))→Q (.ref r) H'
theorem yw(F:Fun K "stream_at" "stream_at" cN f fd):FnOk P w K mg base CX0 1 f fd ["places"] wE:=by
 refine F.ok gt (fun vs H Q E h=>?_) (fun cdv A outer s H vs Q E hr h=>?_)
 ·obtain⟨l,xs,ns,rfl,_⟩:=h;rfl
 obtain⟨l,xs,ns,rfl,CK,na,nl,hq⟩:=h;have xl:=na.len;refine⟨_,(Z7 (Zc (Xy (own:=["number","count"]) (R0 rfl rfl) (Yw (pv 0))
  (fun _ _ _ _ _=>(V4 K 2 rfl rfl (Z8 (Z9 (i:=0) Wf rfl (Or.inl rfl) (Or.inr rfl)) (Z8 (Z9 (i:=1) Wf rfl (Or.inl rfl) (Or.inr rfl)) Zo)))) (fun _ _ _ _ _=>Wh)
  (fun _ _ _ _ _=>(Zn (Z0 Z5 (Z0 Um (Z0 (pv 0) (Z0 (pv 1) Z1))))))))),?_⟩
 refine⟨_,rfl,l,rfl,⟨_,SqL.of CK⟩,?_⟩;refine Ws (xs:=xs) (fun i ys H'=>Same H H'∧TsAt H' ys (dt (ns.take i))) ⟨Same.refl _,.nil⟩ (fun i ys H' _ h=>SqL.of (h.1 _ _ CK)) ?_ ?_
 ·rintro i x ys H' C hx ⟨g,ta⟩ hC;obtain⟨c,p,rfl,hp,CJ⟩:=na.get hx;have il:=(zM.mp hp).1;have yl:=zV ta;unfold dt at yl;rw[az,z5]at yl;refine⟨Zj (by omega),c,_,rfl,SqT.of (g _ _ CJ),rfl,_,_,rfl,_,_,rfl,rfl,Wk.refl _,_,rfl,_,rfl,leN rfl,fun u n_u=>hC _ _ ⟨g.trans (Z6 n_u _),?_⟩⟩;unfold dt;rw[Zv hp,zW];exact BS (ta.tup fun c ys e=>Z6 n_u _ _ _ e) ⟨u,rfl,Z2⟩
 ·rintro ys H' ⟨g,ta⟩;rw[xl,Ab]at ta;have yl:=zV ta;unfold dt at yl;rw[az]at yl;refine⟨Zl (by omega),fun r n_r=>hq r _ (g.free n_r) (g.trans (Z6 n_r _)) (.lst Z2 ?_)⟩;exact(ta.tup fun c ys e=>Z6 n_r _ _ _ e).dvs
theorem m6(cJ:Has P w K mg base "stream_at" 1 ["places"] wE)(dY:Has P w K mg base "lowest_places" 3 ["ladder"] (k5 qT))(F:Fun K "lowest" "lowest" eZ f fd):FnOk P w K mg base CX0 4 f fd ["ladder"] (mh qT):=by
 refine F.ok m7 (fun vs H Q E h=>?_) (fun cdv A outer s H vs Q E hr h=>?_)
 ·obtain⟨q,Cz,or,total,ps,rfl,_⟩:=h;rfl
 obtain⟨q,Cz,or,total,ps,rfl,lad,st,pl,hq⟩:=h;refine⟨_,(Z7 (Zc (Z4 cJ hr (Z0 (Z4 dY hr (Z0 (pv 0) Z1)) Z1)))),?_⟩;exact⟨_,rfl,q,Cz,or,total,ps,rfl,lad,st,pl,fun l xs H1 g1 e1 n1=>⟨l,xs,_,rfl,e1,n1,by unfold qT;rw[az];omega,fun r H2 nr g2 d=>hq r H2 (g1.free nr) (g1.trans g2) d⟩⟩
theorem jW(cJ:Has P w K mg base "stream_at" 1 ["places"] wE)(dQ:Has P w K mg base "highest_places" 3 ["ladder"] (k5 hW))(F:Fun K "highest" "highest" dC f fd):FnOk P w K mg base CX0 4 f fd ["ladder"] (mh hW):=by
 refine F.ok kz (fun vs H Q E h=>?_) (fun cdv A outer s H vs Q E hr h=>?_)
 ·obtain⟨q,Cz,or,total,ps,rfl,_⟩:=h;rfl
 obtain⟨q,Cz,or,total,ps,rfl,lad,st,pl,hq⟩:=h;refine⟨_,(Z7 (Zc (Z4 cJ hr (Z0 (Z4 dQ hr (Z0 (pv 0) Z1)) Z1)))),?_⟩;exact⟨_,rfl,q,Cz,or,total,ps,rfl,lad,st,pl,fun l xs H1 g1 e1 n1=>⟨l,xs,_,rfl,e1,n1,by unfold hW;rw[az];omega,fun r H2 nr g2 d=>hq r H2 (g1.free nr) (g1.trans g2) d⟩⟩
def tot(ys:Sps)(k:Int×Int):Int:=(ys.map fun p=>if p.1=k then p.2 else 0).sum
theorem tE(xs ys:Sps)(k:Int×Int):tot (xs++ys) k=tot xs k+tot ys k:=by
 unfold tot;rw[zW,Bj]
theorem hJ:∀(ys xs:Sps)(k:Int×Int),cnt (ay xs ys) k=cnt xs k+tot ys k
 | [],xs,k=>by
  show cnt xs k=cnt xs k+0;omega
 |p::ys,xs,k=>by
  rw[Wb,hJ ys,Yy];unfold tot;rw[zH,Ac];by_cases e:k=p.1
  ·rw[zE e,zE e.symm,e];omega
  ·rw[pi e,pi (Ne.symm e)];omega
theorem gR(ts:List Th)(k:Int×Int):cnt (av ts) k=tot (cm ts) k:=by
 unfold av;rw[hJ];show(0:Int)+_=_;omega
theorem uf(ts us:List Th)(k:Int×Int):cnt (av (ts++us)) k=cnt (av ts) k+cnt (av us) k:=by
 rw[gR,gR,gR];unfold cm;rw[zW,tE]
def m9(Cz or:Int)(xs ys:Sps):Sps:=dJ or (ag (ay xs ys) / Cz) (ay xs ys)
def thP(Cz or:Int)(t:Th):Sps:=dJ or (t.many / Cz) [((0,t.num),t.many)]
def nh(Cz or:Int)(a:Sps×Sps)(t:Th):Sps×Sps:=(aO Cz or a.1 (thL Cz or t),a.2++thP Cz or t++m9 Cz or a.1 (thL Cz or t))
def lfP(Cz or:Int)(ts:List Th):Sps×Sps:=ts.foldl (nh Cz or) ([],[])
def ldT(Cz or:Int):Tr→Sps×Sps
 |.leaf ts=>lfP Cz or ts
 |.node l r=>(aO Cz or (ldT Cz or l).1 (ldT Cz or r).1,(ldT Cz or l).2++(ldT Cz or r).2++m9 Cz or (ldT Cz or l).1 (ldT Cz or r).1)
theorem rN(Cz or:Int)(ts:List Th)(t:Th):lfP Cz or (ts++[t])=nh Cz or (lfP Cz or ts) t:=by
 unfold lfP;rw[List.foldl_append];rfl
structure LdOk(Cz or:Int)(ts:List Th)(a:Sps×Sps):Prop where
 lok:Lok Cz or a.1
 sum:ag a.1=aK ts
 len:a.1.length≤ts.length
 run:Run or (cnt (av ts)) a.2 (cnt a.1)
 few:a.2.length+mea or (a.1.map (·.1))≤21*ts.length
 mn:∀t∈ts,ThL or t
 bnd:∀p∈a.2,1≤p.2∧p.2≤aK ts
theorem mz:∀{ps:Sps},(∀p∈ps,0≤p.2)→0≤ag ps
 | [],_=>Ah _
 |p::ps,h=>by
  have a:=mz fun q hq=>h q (.tail _ hq);have b:=h p (.head _);unfold ag at a⊢;rw[zH,Ac];omega
theorem gU{or:Int}:∀{ts:List Th},(∀t∈ts,ThL or t)→0≤aK ts
 | [],_=>Ah _
 |t::ts,h=>by
  have a:=gU fun q hq=>h q (.tail _ hq);have b:=(h t (.head _)).2.2;unfold aK at a⊢;rw[zH,Ac];omega
theorem wf{or:Int}{ps:Sps}(o:Pok or ps)(k:Int×Int):cnt ps k≤ag ps:=by
 have a:=S6 (k:=k) o.kok.nd;have b:=mz (ps:=aW ps k) fun p hp=>by
  have:=o.pos p (Aj.mp hp).1;omega
 omega
theorem jm{or:Int}{ps:Sps}(o:Pok or ps){k:Int×Int}{p:(Int×Int)×Int}(h:p∈aP ps k):1≤p.2∧p.2≤ag ps:=by
 unfold aP at h
 split at h
 ·rename_i hk;rw[zG.mp h];exact⟨R1 o hk,wf o k⟩
 ·exact absurd h Am
theorem sD{or bar:Int}{ps fs CD:Sps}(s:Stl or bar ps fs CD):Pok or ps→∀p∈fs,1≤p.2∧p.2≤ag ps:=by
 induction s with
 |done n=>exact fun _ _ h=>nomatch h
 |step f p1 s ih=>
  intro o p hp
  rcases zT.mp hp with hp | hp
  ·rcases zT.mp hp with hp | hp
   ·exact jm o hp
   ·exact jm o hp
  ·have:=ih ((S7 o f.in_ f.hd).perm p1) p hp;rw[Vn p1,Og o.kok.nd]at this;exact this
theorem lY{or bar:Int}{ps:Sps}(o:Pok or ps):∀p∈dJ or bar ps,1≤p.2∧p.2≤ag ps:=by
 obtain⟨fs,CD,s⟩:=Tj (or:=or) (bar:=bar) _ ps (zD _) o.kok;have e:=W3 s o.kok.nd;rw[e.2];exact sD s o
theorem wA{Cz or:Int}{xs ys:Sps}(hx:Pok or xs)(hy:Pok or ys):b8 or ((ag xs+ag ys) / Cz) (aQ (ay xs ys))=aO Cz or xs ys∧dJ or ((ag xs+ag ys) / Cz) (aQ (ay xs ys))=m9 Cz or xs ys∧ag xs+ag ys=ag (aO Cz or xs ys):=by
 have o:=Uf hx hy.each;have e:=nL (bar:=(ag xs+ag ys) / Cz) o.kok (Y0 (ay xs ys)).symm;rw[←e.1,←e.2];unfold aO m9;rw[Ue hx.kok.nd];refine⟨rfl,rfl,?_⟩;have m:=U6 (Cz:=Cz) hx hy;unfold aO at m;rw[Ue hx.kok.nd]at m;exact m.2.1.symm
theorem j9{Cz or:Int}{ts us:List Th}{a b:Sps×Sps}(ha:LdOk Cz or ts a)(hb:LdOk Cz or us b):LdOk Cz or (ts++us) (aO Cz or a.1 b.1,a.2++b.2++m9 Cz or a.1 b.1):=by
 have m:=U6 (Cz:=Cz) ha.lok.pok hb.lok.pok;have o:=Uf ha.lok.pok hb.lok.pok.each;have l1:=ha.len;have l2:=hb.len;have f1:=ha.few;have f2:=hb.few;refine⟨m.1,?_,?_,?_,?_,fun t ht=>(zT.mp ht).elim (ha.mn t) (hb.mn t),fun p hp=>?_⟩
 ·show ag (aO Cz or a.1 b.1)=_;rw[m.2.1,ha.sum,hb.sum];unfold aK;rw[zW,Bj]
 ·rw[zI];have:=m.2.2;show(aO Cz or a.1 b.1).length≤_;omega
 ·have e0:cnt (av (ts++us))=fun k=>cnt (av ts) k+cnt (av us) k:=funext fun k=>uf ts us k;have tb:=S9 (ts:=us) fun t ht=>(hb.mn t ht).2.2;have r1:=ha.run.add (x:=cnt (av us)) (Qi tb.nn tb.nd);have r2:=hb.run.addL (x:=cnt a.1) (Uc ha.lok.pok);have r3:=lW (bar:=ag (ay a.1 b.1) / Cz) o;rw[e0];refine(r1.app r2).app ?_;rw[←qF hb.lok.pok.kok.nd];exact r3
 ·have r3:=lm (bar:=ag (ay a.1 b.1) / Cz) o;have r4:=lg or b.1 a.1;show(a.2++b.2++dJ or (ag (ay a.1 b.1) / Cz) (ay a.1 b.1)).length+mea or ((b8 or (ag (ay a.1 b.1) / Cz) (ay a.1 b.1)).map (·.1))≤_;rw[zI,zI,zI];omega
 ·have z1:=gU ha.mn;have z2:=gU hb.mn;have ms:aK (ts++us)=aK ts+aK us:=by
   unfold aK;rw[zW,Bj]
  rw[ms]
  rcases zT.mp hp with hp | hp
  ·rcases zT.mp hp with hp | hp
   ·have:=ha.bnd p hp;omega
   ·have:=hb.bnd p hp;omega
  ·have:=lY o p hp;rw[Ue ha.lok.pok.kok.nd,ha.sum,hb.sum]at this;exact this
theorem kG{Cz or:Int}:LdOk Cz or [] ([],[]):=⟨mZ,rfl,zD _,.nil _,zD _,(fun _ h=>nomatch h),fun _ h=>nomatch h⟩
theorem uS{Cz or:Int}{t:Th}(d0:0≤or)(d1:or≤20)(h:ThL or t):LdOk Cz or [t] (thL Cz or t,thP Cz or t):=by
 have o:=Sm d0 h;have a:=Qr (Cz:=Cz) d0 h;have r:=lW (bar:=t.many / Cz) o;have l:=lm (bar:=t.many / Cz) o;have e:av [t]=[((0,t.num),0+t.many)]:=rfl;refine⟨a.1,?_,a.2.2,?_,?_,fun x hx=>by rw[zG.mp hx];exact h,fun p hp=>?_⟩
 ·show ag (thL Cz or t)=t.many+0;rw[a.2.1,Cu]
 ·rw[e,BF];exact r
 ·have m:mea or ([((0,t.num),t.many)].map (·.1))=(or+1-0).toNat+0:=rfl;show(dJ or (t.many / Cz) [((0,t.num),t.many)]).length+mea or ((b8 or (t.many / Cz) [((0,t.num),t.many)]).map (·.1))≤21*1;omega
 ·have:=lY o p hp;rw[mY]at this;show 1≤p.2∧p.2≤t.many+0;omega
theorem tN{Cz or:Int}{ts:List Th}{t:Th}{a:Sps×Sps}(d0:0≤or)(d1:or≤20)(ha:LdOk Cz or ts a)(h:ThL or t):LdOk Cz or (ts++[t]) (nh Cz or a t):=j9 ha (uS d0 d1 h)
theorem Qc{Cz or:Int}(d0:0≤or)(d1:or≤20):∀(us ts:List Th)(a:Sps×Sps),LdOk Cz or ts a→(∀t∈us,ThL or t)→LdOk Cz or (ts++us) (us.foldl (nh Cz or) a)
 | [],ts,a,ha,_=>by rw[Aw];exact ha
 |u::us,ts,a,ha,h=>by
  have:=Qc d0 d1 us (ts++[u]) (nh Cz or a u) (tN d0 d1 ha (h u (.head _))) fun t ht=>h t (.tail _ ht);rw[Ag]at this;exact this
theorem rG{Cz or:Int}(d0:0≤or)(d1:or≤20):∀{t:Tr},(∀x∈t.all,ThL or x)→LdOk Cz or t.all (ldT Cz or t)
 |.leaf ts,h=>Qc d0 d1 ts [] ([],[]) kG h
 |.node l r,h=>j9 (rG d0 d1 fun x hx=>h x (Ai _ hx)) (rG d0 d1 fun x hx=>h x (zR _ hx))
theorem wc{Cz or:Int}{ts:List Th}{a:Sps×Sps}(h:LdOk Cz or ts a):j7 or (ag a.1) ts a.1 a.2=true:=by
 have hm:∀t∈ts,1≤t.many:=fun t ht=>(h.mn t ht).2.2;unfold j7;rw[Nj,h.sum,zP rfl,h.run.chk ⟨h.lok.pok.kok.nd,fun p hp=>by have:=h.lok.pok.pos p hp;omega⟩ (fun _=>rfl) (S9 hm) fun _=>rfl,Az.mpr fun t ht=>zP (h.mn t ht).2.1];rfl
theorem lH{H:Hp}{p q r:Addr}{as bs:List Addr}{xs ys:Sps}(pa:Paired (FT H) as xs)(pb:Paired (FT H) bs ys)(nr:H r=none):PprAt (upd H r (.lst (as.map V.ref++bs.map V.ref))) r (xs++ys):=
 ⟨as++bs,by rw[zW];exact Z2,W6 (Paired.mapP pa fun _ _ f=>Zs (Z6 nr _) f) (Paired.mapP pb fun _ _ f=>Zs (Z6 nr _) f)⟩
theorem nE{Cz or:Int}{ts us:List Th}{a b:Sps×Sps}(o1:LdOk Cz or ts a)(o2:LdOk Cz or us b)(tl:ts.length+us.length<60):(a.1.map (·.1)).Nodup∧a.1.length+b.1.length<64∧Kok or ((aQ (ay a.1 b.1)).map (·.1))∧(aQ (ay a.1 b.1)).length<64:=by
 have n1:=o1.len;have n2:=o2.len;have al:=Wn b.1 a.1;have sl:=(Y0 (ay a.1 b.1)).length_eq;exact⟨o1.lok.pok.kok.nd,by omega,(Uf o1.lok.pok o2.lok.pok.each).kok.perm ((Y0 (ay a.1 b.1)).map _),by omega⟩
def PrAt(H:Hp)(w:Addr)(Cz or:Int)(a:Sps×Sps)(l:Addr):Prop:=∃q:Addr,H w=some (.tup [.ref q,.ref l])∧LadAt H q Cz or (ag a.1) a.1∧PprAt H l a.2
theorem PrAt.mono{H H':Hp}(g:Same H H'){w l:Addr}{Cz or:Int}{a:Sps×Sps}(h:PrAt H w Cz or a l):PrAt H' w Cz or a l:=let ⟨q,e,la,pp⟩:=h;⟨q,g _ _ e,la.mono g,pp.mono g⟩
def zB(Cz or:Int)(a b:Sps×Sps):Sps×Sps:=(aO Cz or a.1 b.1,a.2++b.2++m9 Cz or a.1 b.1)
def qh:Sp:=fun vs H Q _=>∃(w1 w2 l1 l2:Addr)(Cz or:Int)(ts us:List Th)(a b:Sps×Sps),vs=[.ref w1,.ref w2]∧PrAt H w1 Cz or a l1∧PrAt H w2 Cz or b l2∧LdOk Cz or ts a∧LdOk Cz or us b∧ts.length+us.length<60∧1≤Cz∧Cz≤20∧or≤20∧∀(w l:Addr) H',Same H H'→H l=none→PrAt H' w Cz or (zB Cz or a b) l→Q (.ref w) H'
def wa:Sp:=fun vs H Q _=>∃(v:V)(Cz or:Int)(ts:List Th),vs=[.int Cz,.int or,v]∧DV H v (aS ts)∧(∀t∈ts,ThL or t)∧1≤Cz∧Cz≤20∧0≤or∧or≤20∧ts.length<60∧∀(w l:Addr)(H':Hp),Same H H'→H l=none→PrAt H' w Cz or (lfP Cz or ts) l→Q (.ref w) H'
theorem xJ(a8:Has P w K mg base "settling_of" 4 ["ladder"] ju)(bI:Has P w K mg base "added_ladder" 2 ["one","other"] sy)(F:Fun K "merged_with_folds" "merged_with_folds" aJ f fd):FnOk P w K mg base CX0 5 f fd ["one","other"] qh:=by
 refine F.ok Zx (fun vs H Q E h=>?_) (fun cdv A outer s H vs Q E hr h=>?_)
 ·obtain⟨w1,w2,l1,l2,Cz,or,ts,us,a,b,rfl,_⟩:=h;rfl
 obtain⟨w1,w2,l1,l2,Cz,or,ts,us,a,b,rfl,⟨q1,e1,lad1,pp1⟩,⟨q2,e2,lad2,pp2⟩,o1,o2,tl,r0,r1,d1,hq⟩:=h;have mf:=nE o1 o2 (by omega);have me:=wA (Cz:=Cz) o1.lok.pok o2.lok.pok;have f1:=o1.few;have f2:=o2.few;refine⟨_,(Z3 (Yt (pv 0) (Y6 rfl (Z8 (Z9 (i:=2) Zx.nd rfl (Or.inl rfl)) (Z8 (Z9 (i:=3) Zx.nd rfl (Or.inl rfl)) Zo))))
 (Z3 (Yt (pv 1) (Y6 rfl (Z8 (Z9 (i:=4) Zx.nd rfl (Or.inl rfl)) (Z8 (Z9 (i:=5) Zx.nd rfl (Or.inl rfl)) Zo))))
 (Z3 (Yt (Z4 a8 hr (Z0 (Z4 bI hr (Z0 (pv 2) (Z0 (pv 4) Z1))) Z1)) (Y6 rfl (Z8 (Z9 (i:=6) Zx.nd rfl (Or.inl rfl)) (Z8 (Z9 (i:=7) Zx.nd rfl (Or.inl rfl)) Zo))))
 (Z7 (Zc (Zn (Z0 (pv 6) (Z0 (Ze fX (Ze fX (pv 3) (pv 5)) (pv 7)) Z1)))))))),?_⟩
 refine⟨_,rfl,w1,_,rfl,SqT.of e1,rfl,_,_,rfl,_,_,rfl,rfl,?_⟩;refine⟨_,rfl,w2,_,rfl,SqT.of e2,rfl,_,_,rfl,_,_,rfl,rfl,?_⟩;refine⟨_,rfl,_,rfl,q1,q2,Cz,or,_,_,a.1,b.1,rfl,lad1,lad2,mf.1,mf.2.1,fun q G1 g0 l3=>⟨q,Cz,or,_,_,rfl,l3,r0,r1,d1,mf.2.2.1,mf.2.2.2,fun t r l H3 fs CD g3 e3 nl lad3 pp3 fl st _ _=>?_⟩⟩;obtain⟨x1,x2⟩:=W3 st mf.2.2.1.nd;rw[←x1,me.1,me.2.2]at lad3;have pp3:PprAt H3 l fs:=pp3;rw[←x2,me.2.1]at pp3 fl;have g3:=g0.trans g3;refine⟨t,_,rfl,SqT.of e3,rfl,_,_,rfl,_,_,rfl,rfl,?_⟩;obtain⟨as,b1,c1⟩:=pp1.mono g3;obtain⟨bs,b2,c2⟩:=pp2.mono g3;obtain⟨cs,b3,c3⟩:=pp3;have n1:=zV c1;have n2:=zV c2;have n3:=zV c3;refine⟨_,rfl,_,rfl,_,rfl,l1,l2,_,_,rfl,rfl,b1,b2,Zl (by rw[az,az];omega),fun u nu=>?_⟩;have g4:=Z6 nu (.lst (as.map V.ref++bs.map V.ref));have pu:=lH (p:=l1) (q:=l2) c1 c2 nu;have b3:=g4 _ _ b3;have c3:=Paired.mapP c3 fun _ _ f=>Zs g4 f;have lad4:=lad3.mono g4;have gg:=g3.trans g4;generalize upd H3 u (.lst (as.map V.ref++bs.map V.ref))=H4 at pu b3 c3 lad4 gg⊢;obtain⟨us,bu,cu⟩:=pu;have nu2:=zV cu;rw[zI]at nu2;refine⟨_,rfl,u,l,_,_,rfl,rfl,bu,b3,Zl (by rw[az,az];omega),fun z nz=>?_⟩;have g5:=Z6 nz (.lst (us.map V.ref++cs.map V.ref));have pz:=lH (p:=u) (q:=l) cu c3 nz;have lad5:=lad4.mono g5;have nz0:=gg.free nz;have gg:=gg.trans g5;generalize upd H4 z (.lst (us.map V.ref++cs.map V.ref))=H5 at pz lad5 gg⊢;refine⟨leN rfl,fun w nw=>?_⟩;have g6:=Z6 nw (.tup [.ref r,.ref z]);exact hq w z _ (gg.trans g6) nz0 ⟨r,Z2,lad5.mono g6,pz.mono g6⟩
theorem xS(bQ:Has P w K mg base "empty_ladder" 1 ["room","deep"] v7)(cR:Has P w K mg base "merged_with_folds" 5 ["one","other"] qh)(a8:Has P w K mg base "settling_of" 4 ["ladder"] ju)(bJ:Has P w K mg base "thing_ladder" 3 ["room","deep","thing"] xy)(F:Fun K "stream_with_folds" "stream_with_folds" aZ f fd):FnOk P w K mg base CX0 6 f fd ["room","deep","stream"] wa:=by
 refine F.ok Yo (fun vs H Q E h=>?_) (fun cdv A outer s H vs Q E hr h=>?_)
 ·obtain⟨v,Cz,or,ts,rfl,_⟩:=h;rfl
 obtain⟨v,Cz,or,ts,rfl,dv,tw,r0,r1,d0,d1,tl,hq⟩:=h;obtain⟨b,xs,rfl,eb,qb⟩:=DV.list_inv dv;have xl:=qb.length;rw[az]at xl;refine⟨_,(Z3 (Zy 3 Yo.nd rfl (Or.inl rfl) (Zn (Z0 (Z4 bQ hr (Z0 (pv 0) (Z0 (pv 1) Z1))) (Z0 (Yl Z1) Z1))))
 (Z3 (X8 Ao rfl (Yw (pv 2)) (Z9 (i:=4) Yo.nd rfl (Or.inl rfl))
 (Z7 (Zy 3 Yo.nd rfl (Or.inl rfl) (Z4 cR hr (Z0 (pv 3) (Z0 (Z4 a8 hr (Z0 (Z4 bJ hr (Z0 (pv 0) (Z0 (pv 1) (Z0 (pv 4) Z1)))) Z1)) Z1))))))
 (Z7 (Zc (pv 3))))),?_⟩
 refine⟨_,rfl,_,rfl,Cz,or,rfl,fun q0 H0 s0 l0=>?_⟩;refine⟨leN rfl,fun p0 n0=>?_⟩;have g1:=Z6 n0 (.lst []);have ep0:(upd H0 p0 (.lst [])) p0=some (.lst []):=Z2;have np0:=s0.free n0;have l0:=l0.mono g1;have s0:=s0.trans g1;generalize upd H0 p0 (.lst [])=H1 at ep0 l0 s0⊢;refine⟨leN rfl,fun w0 nw=>?_⟩;have g2:=Z6 nw (.tup [.ref q0,.ref p0]);have pr0:PrAt (upd H1 w0 (.tup [.ref q0,.ref p0])) w0 Cz or (lfP Cz or (ts.take 0)) p0:=⟨q0,Z2,l0.mono g2,[],g2 _ _ ep0,.nil⟩;have s0:=s0.trans g2;generalize upd H1 w0 (.tup [.ref q0,.ref p0])=H2 at pr0 s0⊢;refine⟨_,rfl,b,rfl,⟨_,SqL.of (s0 _ _ eb)⟩,?_⟩;refine Xs (xs:=xs) (fun n σ H'=>∃(o4:Option V)(p l:Addr),σ=[some (.int Cz),some (.int or),some (.ref b),some (.ref p),o4]∧Same H H'∧H l=none∧PrAt H' p Cz or (lfP Cz or (ts.take n)) l) ⟨_,w0,p0,rfl,s0,np0,pr0⟩ ?_ ?_ ?_
 ·rintro n σ H' _ ⟨_,_,_,_,g,_⟩;exact SqL.of (g _ _ eb)
 ·rintro n x σ H' N B1 R hN hR hx ⟨o4,p,l,rfl,g,nl,pr⟩;obtain⟨t,c,ht,rfl,ec,hm⟩:=DVs.th_at qb hx;have il:n<ts.length:=(zM.mp ht).1;have o1:LdOk Cz or (ts.take n) (lfP Cz or (ts.take n)):=Qc d0 d1 (ts.take n) [] ([],[]) kG fun t ht=>tw t (A2 ht);have o2:=uS (Cz:=Cz) d0 d1 (tw t hm);have ok1:=(Sm d0 (tw t hm)).kok;rw[Zv ht,rN]at hN;refine⟨_,rfl,_,rfl,_,rfl,_,rfl,c,Cz,or,t,rfl,g _ _ ec,tw t hm,d0,d1,fun q1 H3 s3 l3=>?_⟩;refine⟨q1,Cz,or,t.many,_,rfl,l3,r0,r1,d1,ok1,(show(1:Nat)<64 by decide),fun w1 q2 l2 H4 fs CD s4 e4 nl2 l4 pp4 _ st _ _=>?_⟩;obtain⟨x1,x2⟩:=W3 st ok1.nd;have es:t.many=ag (thL Cz or t):=((Qr (Cz:=Cz) d0 (tw t hm)).2.1).symm;have pr1:PrAt H4 w1 Cz or (thL Cz or t,thP Cz or t) l2:=by
   refine⟨q2,e4,?_,?_⟩
   ·show LadAt H4 q2 Cz or (ag (thL Cz or t)) (thL Cz or t);rw[←es];show LadAt H4 q2 Cz or t.many (b8 or (t.many / Cz) [((0,t.num),t.many)]);rw[x1];exact l4
   ·show PprAt H4 l2 (dJ or (t.many / Cz) [((0,t.num),t.many)]);rw[x2];exact pp4
  refine⟨p,w1,l,l2,Cz,or,_,_,_,_,rfl,pr.mono (s3.trans s4),pr1,o1,o2,by rw[z5,AY];omega,r0,r1,d1,fun w2 l5 H5 s5 nl5 pr5=>?_⟩;have gg:=g.trans (s3.trans s4);exact hN _ _ ⟨_,w2,l5,rfl,gg.trans s5,gg.free nl5,pr5⟩
 ·rintro σ H' ⟨o4,p,l,rfl,g,nl,pr⟩;rw[xl,Ab]at pr;exact⟨_,rfl,hq p l H' g nl pr⟩
def y3(st:Stmt):Expr:=match aA st with
 |.Assign _ (.Call _ (_::e::_) _ _) _::_=>e
 |_=>.Constant .none 0 ⟨0,0,0,0⟩
abbrev cE:Expr:=y3 ah
abbrev qPT:Str:=("ladder_paper":Str)++".<locals>."++"<lambda>"
theorem scP:LamScope ["stream"] ["room","deep"] (bD cE):=⟨rfl,rfl,rfl,by decide +kernel,by decide +kernel,fun x h=>by
  have:∀y∈(bD cE).names,y.2=.free→y.1="room"∨y.1="deep":=by decide +kernel
  rcases this (x,.free) (Af h) rfl with e | e
  ·have e:x="room":=e;rw[e];exact .head _
  ·have e:x="deep":=e;rw[e];exact .tail _ (.head _),by decide +kernel,by decide +kernel⟩
theorem mB{H:Hp}{a:Addr}{xs:List V}(e:H a=some (.lst xs)){w l:Addr}{Cz or:Int}{x:Sps×Sps}(n:l≠a)(h:PrAt H w Cz or x l):PrAt (ao a H) w Cz or x l:=by
 have tp:∀{b:Addr}{ys:List V},H b=some (.tup ys)→ao a H b=some (.tup ys):=fun{b ys} h=>by
  rw[Zg (fun z=>by rw[z,e]at h;cases h)];exact h
 obtain⟨q,e1,la,as,e2,r⟩:=h;exact⟨q,tp e1,Ro e la,as,by rw[Zg n];exact e2,Paired.mapP r fun _ _ ⟨y,f1,f2⟩=>⟨y,tp f1,tp f2⟩⟩
abbrev Pw:Type:=(Sps×Sps)×List Th
def fsP(Cz or:Int)(ts:List Th):Pw:=(lfP Cz or ts,ts)
def fmP(Cz or:Int)(x y:Pw):Pw:=(zB Cz or x.1 y.1,x.2++y.2)
theorem wx(Cz or:Int):∀t:Tr,evT (fsP Cz or) (fmP Cz or) t=(ldT Cz or t,t.all)
 |.leaf ts=>rfl
 |.node a b=>by
  show fmP Cz or (evT (fsP Cz or) (fmP Cz or) a) (evT (fsP Cz or) (fmP Cz or) b)=_;rw[wx Cz or a,wx Cz or b];rfl
def RepP(H0:Hp)(Cz or:Int)(H:Hp)(v:V)(x:Pw):Prop:=∃p l:Addr,v=.ref p∧PrAt H p Cz or x.1 l∧H0 l=none
def yC(T:Addr):Sp:=fun vs H Q _=>∃(v:V)(Cz or:Int)(t:Tr),vs=[.int Cz,.int or,v]∧1≤Cz∧Cz≤20∧0≤or∧or≤20∧DV H v t.D∧t.size≤1000∧(∀s∈t.streams,∀x∈s,ThL or x)∧t.all.length≤59∧LamAt T (dD cE) qPT H∧
 ∀(l:Addr) H',Same (ao T H) (ao T H')→LamAt T (dD cE) qPT H'→H l=none→PprAt H' l (ldT Cz or t).2→Q (.ref l) H'
def wD(c:Addr)(Cz or:Int):Sp:=fun vs H Q _=>∃(v:V)(ts:List Th),vs=[v]∧H c=some (crO qPT c)∧DV H v (aS ts)∧(∀t∈ts,ThL or t)∧ts.length≤59∧∀(p l:Addr) H',Same H H'→H l=none→PrAt H' p Cz or (lfP Cz or ts) l→Q (.ref p) H'
theorem yg{c T f2:Addr}{oc:Value}{od an:Option Addr}{osl:Array (Option Value)}{kV doc pm ct:Value}{fd2:FuncData}(lk:K.lookup f=some ⟨oc,od,.func (W.fnOf "ladder_paper" "ladder_paper" (aB ah) (aA ah) (aa ah) .none kV doc pm an (.ref c) ct),osl⟩)(hcd:W.codeIn K (.ref c) "ladder_paper"=true)(C:W.CodeHd base c T)(hgP:mainGlobals≠T)(hB:base.BuiltinsAt mg T)(hb_grown:HasB P w K mg "grown" 9 ["tree","of_stream","of_two"] (eu P w K mg 8))(hT:∀base:Heap,K.In base→base.Ns mainGlobals mg→Has P w K mg base "stream_with_folds" 6 ["room","deep","stream"] wa)(hM:∀base:Heap,K.In base→base.Ns mainGlobals mg→Has P w K mg base "merged_with_folds" 5 ["one","other"] qh)(m2:mg "merged_with_folds"=some (.ref f2))(F2:Fun K "merged_with_folds" "merged_with_folds" aJ f2 fd2):
  FnOk P w K mg base CX0 10 f (W.fnOf "ladder_paper" "ladder_paper" (aB ah) (aA ah) (aa ah) .none kV doc pm an (.ref c) ct) ["room","deep","tree"] (yC T):=by
 refine rK (k:=9) lk hcd Wc (fun vs H Q E h=>?_) (fun A outer s H vs Q E hr h=>?_)
 ·obtain⟨v,Cz,or,t,rfl,_⟩:=h;rfl
 obtain⟨v,Cz,or,t,rfl,r0,r1,d0,d1,dv,hsz,tw,tal,lam,hq⟩:=h;have xk:∃u,mg "merged_with_folds"=some u∧RelV (.ref f2) u:=⟨_,m2,rfl⟩;have hf:∀x∈(bD cE).names,x.2=.free→∃c',(PyProof.Rows.envOfC "ladder_paper" (aa ah) s.heap.objs.size f (.ref c)).cells.lookup x.1=some c':=fun x hx hk=>by
  have:∀y∈(bD cE).names,y.2=.free→(aa ah).names.lookup y.1=some .cell:=by decide +kernel
  exact R3 (this x hx hk)
 refine⟨_,Z3 (Yt (jp hb_grown (fun _=>rfl) rfl rfl hr (Z0 (pv 2) (Z0 (p_ (c:=c) (T:=T) (sc:=bD cE) rfl C hgP hB hf) (Z0 (im rfl xk) Z1)))) (Y6 rfl (Z8 (Z9 (i:=3) Wc.nd rfl (Or.inl rfl)) (Z8 (Z9 (i:=4) Wc.nd rfl (Or.inl rfl)) Zo)))) (Z7 (Zc (pv 4))),?_⟩;refine⟨_,rfl,lam,fun a c' pm2 ctv H1 g1 na nac eT ec ea=>?_⟩;have tT:H T≠none:=by
  rcases lam.tab with e | ⟨_,e,_⟩ <;> (rw[e];exact fun z=>nomatch z)
 have nT1:∀xs,H T≠some (.lst xs):=by
  rcases lam.tab with e | ⟨_,e,_⟩ <;> (rw[e];exact fun _ z=>nomatch z)
 have nT2:∀xs,H T≠some (.tup xs):=by
  rcases lam.tab with e | ⟨_,e,_⟩ <;> (rw[e];exact fun _ z=>nomatch z)
 have aT:a≠T:=fun z=>tT (z ▸ na);have dv1:DV H1 v t.D:=((V7 nT1 nT2 dv).mono g1).mono Yi;have dva:DV (ao a H1) v t.D:=V7 (by rw[ea];exact fun _ z=>nomatch z) (by rw[ea];exact fun _ z=>nomatch z) dv1;refine⟨a,_,ea,fun B wid=>?_⟩;have wfn:=wid.fn;have ec2:ao a H1 c'=some (crO qPT c'):=by rw[Zg (Ne.symm nac)];exact ec
 have cls:∀x d,(aI (PyProof.Rows.envOfC "ladder_paper" (aa ah) s.heap.objs.size f (.ref c)) (bD cE).names).lookup x=some d→(PyProof.Rows.envOfC "ladder_paper" (aa ah) s.heap.objs.size f (.ref c)).cells.lookup x=some d:=fun x d e=>Tb _ [] hf (fun _ h=>nomatch h) (x,d) (Af e);refine⟨Pw,RepP (ao a H1) Cz or,fsP Cz or,fmP Cz or,fun x=>LdOk Cz or x.2 x.1,fun x=>x.2.length,59,fun ts=>(∀x∈ts,ThL or x)∧ts.length≤59,v,a,f2,t,rfl,dva,hsz,fun s hs=>⟨tw s hs,At (Qk t s hs) tal⟩,?_,?_,fun ts h=>?_,fun x y h1 h2 h3=>?_,by rw[S3];exact tal,?_,?_⟩
 ·refine⟨_,["stream"],wD c' Cz or,p7 (k:=7) (us:=[.int Cz,.int or]) (fr:=["room","deep"]) wfn scP rfl ?_ (fun x y d e1 e2=>wid.inj x y d (cls x d e1) (cls y d e2)) (fun x d e=>wid.cells x d (cls x d e)) (fun vs H Q E h=>?_) (fun vs H Q E h=>?_) (fun A outer s H vs Q E hr h=>?_),?_,⟨_,_,_,_,wfn⟩,?_⟩
  ·intro i x u h1 h2
   match i,h1,h2 with
   | 0,h1,h2=>
    cases h1;cases h2;obtain⟨c2,u2,e1,e2,rv⟩:=wid.cell 0 "room" (.int Cz) rfl rfl rfl;obtain⟨c3,hc3⟩:=Wu (bD cE).names [] (env:=PyProof.Rows.envOfC "ladder_paper" (aa ah) s.heap.objs.size f (.ref c)) "room" (Af (scP.fre "room" (.head _)));obtain⟨c4,hc4⟩:=X7 hc3;have e3:=cls _ _ hc4;have e4:c4=c2:=Aa (e3.symm.trans e1);subst e4;exact⟨c4,u2,hc4,e2,rv⟩
   | 1,h1,h2=>
    cases h1;cases h2;obtain⟨c2,u2,e1,e2,rv⟩:=wid.cell 1 "deep" (.int or) rfl rfl rfl;obtain⟨c3,hc3⟩:=Wu (bD cE).names [] (env:=PyProof.Rows.envOfC "ladder_paper" (aa ah) s.heap.objs.size f (.ref c)) "deep" (Af (scP.fre "deep" (.tail _ (.head _))));obtain⟨c4,hc4⟩:=X7 hc3;have e3:=cls _ _ hc4;have e4:c4=c2:=Aa (e3.symm.trans e1);subst e4;exact⟨c4,u2,hc4,e2,rv⟩
  ·obtain⟨_,_,_,e,_⟩:=h;exact e
  ·obtain⟨_,_,rfl,_⟩:=h;rfl
  ·obtain⟨u,ts,rfl,e,d,ok,tl,hq2⟩:=h;have cS:=hT B wid.kin wid.glb;refine⟨_,Z4 cS hr (Z0 (pv 1) (Z0 (pv 2) (Z0 (pv 0) Z1))),?_⟩;exact⟨_,rfl,_,rfl,_,rfl,u,Cz,or,ts,rfl,d,ok,r0,r1,d0,d1,by omega,hq2⟩
  ·exact .all fun us hl=>match us,hl with | [_],_=>rfl
  ·exact fun H u ts Q a' ys s ea' d ok hq2=>⟨u,ts,rfl,s _ _ ec2,d,ok.1,ok.2,fun p l H' s' nl d'=>hq2 (.ref p) H' s' ⟨p,l,rfl,mB (s' _ _ ea') (fun z=>by rw[z,ea']at nl;cases nl) d',s.free nl⟩⟩
 ·obtain⟨f',fd',FM,bM,kM,mM⟩:=(hM B wid.kin wid.glb).ex;have e:f'=f2:=by
   rw[m2]at mM;cases mM;rfl
  subst e;obtain⟨oc2,od2,kV2,doc2,pm3,an2,cdv2,ct2,osl2,_,lk2,_⟩:=F2.ex;refine⟨fd',["one","other"],qh,FM.mono (by decide),bM,⟨_,_,_,_,wid.kin _ _ lk2⟩,?_⟩;rintro H u u' x y Q a' ys s ea' ⟨p,l,rfl,d,n1⟩ ⟨q,l',rfl,d2,n2⟩ ix iy wxy hq2;have wxy:x.2.length+y.2.length≤59:=wxy;exact⟨p,q,l,l',Cz,or,x.2,y.2,x.1,y.1,rfl,d.mono Yi,d2.mono Yi,ix,iy,by omega,r0,r1,d1,fun p' l'' H' s' nl d'=>hq2 (.ref p') H' s' ⟨p',l'',rfl,mB (s' _ _ ea') (fun z=>by rw[z,ea']at nl;cases nl) d',s.free nl⟩⟩
 ·exact⟨Qc d0 d1 ts [] ([],[]) kG h.1,rfl⟩
 ·exact⟨j9 h1 h2,zI⟩
 ·rintro H H' g v x ⟨p,l,rfl,d,n⟩;exact⟨p,l,rfl,d.mono g,n⟩
 ·rintro p H' g ⟨p,l,rfl,⟨q,e1,la,pp⟩,nl⟩;rw[wx]at pp;have lT:H l=none:=by
   cases z:H l with
   |none=>rfl
   |some u=>
    by_cases hT:l=T
    ·rw[hT,Zg (Ne.symm aT),eT]at nl;cases nl
    ·have w1:=(Zf (g1 l u (by rw[Zg hT];exact z))).2;rw[Zg (Zd z na),w1]at nl;cases nl
  refine⟨p,_,rfl,SqT.of e1,rfl,_,_,rfl,_,_,rfl,rfl,_,rfl,?_⟩;refine hq l H' ?_ ?_ lT pp
  ·intro b u e;obtain⟨b1,b2⟩:=Zf e;have:=g1 b u e;obtain⟨_,e3⟩:=Zf this;rw[Zg b1];exact g b u (by rw[Zg (Zd b2 na)];exact e3)
  ·exact⟨.inr ⟨c',g _ _ (by rw[Zg (Ne.symm aT)];exact eT),g _ _ ec2⟩⟩
def vj:Sp:=fun vs H Q _=>∃(r q p:Addr)(ts:List Th)(Cz or total:Int)(qs CF:Sps),vs=[.ref r,.ref q,.ref p]∧DV H (.ref r) (aS ts)∧ts.length≤200∧LadAt H q Cz or total qs∧(qs.map (·.1)).Nodup∧qs.length≤400∧PprAt H p CF∧CF.length≤700∧e_ or qs (av ts) CF=true∧∀H',Same H H'→Q (.bl true) H'
theorem pK{ts:List Th}{i:Nat}{t:Th}(h:ts[i]?=some t):av (ts.take (i+1))=au (av (ts.take i)) (0,t.num) (cnt (av (ts.take i)) (0,t.num)+t.many):=by
 unfold av cm;rw[Zv h,zW,zH,Cs,R4]
theorem P0{ps:Sps}{k:Int×Int}{n:Int}(h:k∈ps.map (·.1)):(au ps k n).length=ps.length:=by
 have:=AX List.length (Xw ps k n);rw[zE h,az,az]at this;exact this
theorem n4{ls:Sps}{k:Int×Int}{m:Int}(h:k∈ls.map (·.1)):(b0 ls k m).length≤ls.length+1:=by
 have a:=P0 (n:=cnt ls k-m) h;have b:=W4 (au ls k (cnt ls k-m)) (ad k) (cnt (au ls k (cnt ls k-m)) (ad k)+m);unfold b0;omega
theorem oU{ls:Sps}{k:Int×Int}{m:Int}(h:(ls.map (·.1)).Nodup):((b0 ls k m).map (·.1)).Nodup:=Ye (Ye h)
theorem W2{α:Type}{l:List α}{f:α→Bool}{i:Nat}{x:α}(h:l[i]?=some x):(l.take (i+1)).filter f=(l.take i).filter f++(if f x=true then[x] else[]):=by
 rw[Zv h,B7,AA,List.filter_nil]
theorem tQ(ps:Sps):(af ps).map (·.2)=(ps.map (·.2)).map V.int:=by
 unfold af;rw[Al,Al];rfl
theorem wU(F:Fun K "_law_at_leaves" "_law_at_leaves" bZ f fd):FnOk P w K mg base CX0 1 f fd ["_law_stream_here"] fI:=by
 refine F.ok X0 (fun vs H Q E h=>?_) (fun cdv A outer s H vs Q E hr h=>?_)
 ·obtain⟨r,ts,rfl,_⟩:=h;rfl
 obtain⟨r,ts,rfl,k_r,tl,hq⟩:=h;obtain⟨_,xs,e0,e_r,dx⟩:=DV.list_inv k_r;cases e0;have xl:=dx.length;rw[az]at xl;refine⟨_,(Z3 (Zy 1 X0.nd rfl (Or.inl rfl) iM) Zb),fun d n_d=>?_⟩;have g1:=Z6 n_d (.dT []);have e_d:(upd H d (.dT [])) d=some (.dT (af (av (ts.take 0)))):=Z2;generalize upd H d (.dT [])=H1 at g1 e_d⊢;refine⟨_,(Z3 (X8 Ao rfl (Yw (pv 0)) (Y6 rfl (Z8 (Z9 (i:=2) X0.nd rfl (Or.inl rfl)) (Z8 (Z9 (i:=3) X0.nd rfl (Or.inl rfl)) (Z8 (Z9 (i:=4) X0.nd rfl (Or.inl rfl)) (Z8 (Z9 (i:=5) X0.nd rfl (Or.inl rfl)) Zo)))))
 (Z7 (W5 (Yg hr) (pv 1) (Zn (Z0 Z5 (Z0 (pv 4) Z1))) (Ze Zu (X1 (Yg hr) (pv 1) (Zn (Z0 Z5 (Z0 (pv 4) Z1))) Z5 ⟨rfl,rfl,rfl,rfl⟩) (pv 5)) rfl))) Zb),?_⟩
 refine⟨_,rfl,r,rfl,⟨_,SqL.of (g1 _ _ e_r)⟩,?_⟩;refine Xs (xs:=xs) (fun i σ H'=>∃(o2 o3 o4 o5:Option V),σ=[some (.ref r),some (.ref d),o2,o3,o4,o5]∧Same H H'∧H' d=some (.dT (af (av (ts.take i))))) ⟨_,_,_,_,rfl,g1,e_d⟩ ?_ ?_ ?_
 ·rintro i σ H' _ ⟨_,_,_,_,_,g,_⟩;exact SqL.of (g _ _ e_r)
 ·rintro i x σ H' N B1 R hN hR hx ⟨o2,o3,o4,o5,rfl,g,ed⟩;obtain⟨t,c',ht,rfl,ec,mt⟩:=DVs.th_at dx hx;have ec:=g _ _ ec;have il:i<ts.length:=(zM.mp ht).1;refine⟨c',_,rfl,SqT.of ec,rfl,_,_,rfl,_,_,rfl,_,_,rfl,_,_,rfl,rfl,?_⟩;have st:=pK ht;have sl:=Vy (ts.take i);rw[z5]at sl;rw[st]at hN;generalize av (ts.take i)=zs at ed sl hN;refine⟨_,rfl,d,rfl,.inr ⟨_,.inl ed⟩,_,rfl,leN rfl,fun a na=>?_⟩;have s2:=Z6 na (.tup [.int 0,.int t.num]);have CL:KAt (upd H' a (.tup [.int 0,.int t.num])) a (0,t.num):=Z2;have g2:=g.trans s2;have ed2:=s2 _ _ ed;generalize upd H' a (.tup [.int 0,.int t.num])=H2 at g2 CL ed2⊢;refine⟨_,Y7 ed2 CL,_,rfl,_,_,Ys _ _,rfl,_,rfl,_,rfl,leN rfl,fun b nb=>?_⟩;have s3:=Z6 nb (.tup [.int 0,.int t.num]);have CG:KAt (upd H2 b (.tup [.int 0,.int t.num])) b (0,t.num):=Z2;have g3:=g2.trans s3;have ed3:=s3 _ _ ed2;generalize upd H2 b (.tup [.int 0,.int t.num])=H3 at g3 CG ed3⊢;refine⟨d,_,rfl,DPut.t (k:=kk (0,t.num)) ed3 CG (Zj (by rw[Zk];omega)),?_⟩;refine hN _ _ ⟨_,_,_,_,rfl,fun x w e=>?_,by rw[←Wx];exact Z2⟩;rw[Za (Zd e n_d)];exact g3 _ _ e
 rintro σ H2 ⟨o2,o3,o4,o5,rfl,gg,ed⟩;rw[xl,Ab]at ed;exact⟨_,(Z7 (Zc (pv 1))),_,rfl,hq d _ n_d gg ed⟩
theorem xg(aM:mg "dict"=none)(bY:Has P w K mg base "_law_at_leaves" 1 ["_law_stream_here"] fI)(F:Fun K "_law_shows" "_law_shows" dO f fd):FnOk P w K mg base CX0 2 f fd ["_law_stream_here","_law_ladder","_law_paper"] vj:=by
 refine F.ok Wv (fun vs H Q E h=>?_) (fun cdv A outer s H vs Q E hr h=>?_)
 ·obtain⟨r,q,p,ts,Cz,or,total,qs,CF,rfl,_⟩:=h;rfl
 obtain⟨r,q,p,ts,Cz,or,total,qs,CF,rfl,k_r,tl,lad,nq,ql,⟨bs,CH,pb⟩,pl,ck,hq⟩:=h;obtain⟨c,as,CM,CJ,pr⟩:=lad.at_;refine⟨_,(Z3 (Zy 3 Wv.nd rfl (Or.inl rfl) (Z4 bY hr (Z0 (pv 0) Z1))) Zb),?_⟩;refine⟨_,rfl,r,ts,rfl,k_r,by omega,fun d H1 n_d gg ed=>?_⟩;have sl:=Vy ts;have nS:((av ts).map (·.1)).Nodup:=Uv An;generalize av ts=S at ed ck sl nS;refine⟨_,(Z3 (X8 Ao rfl (Yw (pv 2)) (Y6 rfl (Z8 (Z9 (i:=4) Wv.nd rfl (Or.inl rfl)) (Z8 (Z9 (i:=5) Wv.nd rfl (Or.inl rfl)) Zo)))
 (Z3 (Y8 (PW.pt (V3 (Zi Rr (pv 5) Z5 (Zh _)) (V3 (Zi jd (Xb Xd (pv 4) Z5) (Xb Xd (pv 1) Z5) (Zh _)) (Vc (Zi Rr (X1 (Yg hr) (pv 3) (pv 4) Z5 ⟨rfl,rfl,rfl,rfl⟩) (pv 5) (Zh _)))))) (Z7 (Zc Xn)) Zr)
 (Z3 (Zy 6 Wv.nd rfl (Or.inl rfl) (Zn (Z0 (Ze Zu (Xb Xd (pv 4) Z5) Z5) (Z0 (Ze T3 (Xb Xd (pv 4) Z5) Z5) Z1))))
 (Z3 (W5 (Yg hr) (pv 3) (pv 4) (Ze Xl (Wi (Yg hr) (pv 3) (pv 4) (fun _ _=>rfl)) (pv 5)) rfl)
 (Z7 (W5 (Yg hr) (pv 3) (pv 6) (Ze Zu (X1 (Yg hr) (pv 3) (pv 6) Z5 ⟨rfl,rfl,rfl,rfl⟩) (pv 5)) rfl)))))) Zb),?_⟩
 refine⟨_,rfl,p,rfl,⟨_,SqL.of (gg _ _ CH)⟩,?_⟩;have bl:=zV pb;refine Xs (xs:=bs.map V.ref) (fun i σ H'=>∃(o4 o5 o6:Option V)(ls:Sps),σ=[some (.ref r),some (.ref q),some (.ref p),some (.ref d),o4,o5,o6]∧Same H H'∧H' d=some (.dT (af ls))∧ls.length≤200+i∧(ls.map (·.1)).Nodup∧e_ or qs ls (CF.drop i)=true) ⟨_,_,_,S,rfl,gg,ed,by omega,nS,ck⟩ ?_ ?_ ?_
 ·rintro i σ H' _ ⟨_,_,_,_,_,g,_⟩;exact SqL.of (g _ _ CH)
 ·rintro i x σ H' N B1 R hN hR hx ⟨o4,o5,o6,ls,rfl,g,ed,al,nl,key⟩;obtain⟨a,⟨k,m⟩,rfl,hp,b,CL,CG⟩:=Vi pb hx;have il:i<CF.length:=(zM.mp hp).1;have CL:=g _ _ CL;have CG:KAt H' b k:=g _ _ CG;rw[jw hp]at key;have key:(if m<1∨¬(0≤k.1∧k.1<or)∨cnt ls k<m then false else e_ or qs (b0 ls k m) (CF.drop (i+1)))=true:=key;by_cases cc:m<1∨¬(0≤k.1∧k.1<or)∨cnt ls k<m
  ·rw[zE cc]at key;cases key
  rw[pi cc]at key;have c1:¬m<1:=fun z=>cc (.inl z);have c4:¬cnt ls k<m:=fun z=>cc (.inr (.inr z));have c3:k.1<or:=Classical.byContradiction fun z=>cc (.inr (.inl fun y=>z y.2));refine⟨a,_,rfl,SqT.of CL,rfl,_,_,rfl,_,_,rfl,rfl,?_⟩;refine⟨_,rfl,_,_,rfl,rfl,_,rfl,Xh (fun z=>absurd (zO z) c1) (fun _=>?_)⟩;refine⟨_,rfl,b,_,0,_,rfl,rfl,SqT.of CG,rfl,_,rfl,q,_,1,_,rfl,rfl,SqT.of (g _ _ CM),rfl,_,_,rfl,rfl,_,rfl,Xh (fun z=>absurd (show or≤k.1 from zO z) (by omega)) (fun _=>?_)⟩;refine⟨_,rfl,d,rfl,.inr ⟨_,.inl ed⟩,_,rfl,_,Y7 ed CG,_,rfl,_,_,Ys _ _,rfl,_,rfl,Xh (fun z=>absurd (zO z) c4) (fun _=>?_)⟩;have hk:k∈ls.map (·.1):=Uu (by omega);have lk:=Pe hk;have l1:=n4 (m:=m) hk;have l0:=P0 (n:=cnt ls k-m) hk;have n1:=oU (k:=k) (m:=m) nl;refine⟨_,rfl,b,_,0,_,rfl,rfl,SqT.of CG,rfl,_,_,rfl,rfl,_,rfl,b,_,1,_,rfl,rfl,SqT.of CG,rfl,_,_,rfl,rfl,⟨by decide,by decide⟩,leN rfl,fun u nu=>?_⟩;have s4:=Z6 nu (.tup [.int (k.1+1),.int (k.2 / 2)]);have e_u:KAt (upd H' u (.tup [.int (k.1+1),.int (k.2 / 2)])) u (ad k):=Z2;have g4:=g.trans s4;have ed4:=s4 _ _ ed;have vR:KAt _ b k:=s4 _ _ CG;generalize upd H' u (.tup [.int (k.1+1),.int (k.2 / 2)])=H4 at g4 e_u ed4 vR⊢;refine⟨_,rfl,_,rfl,d,.int (cnt ls k),rfl,by rw[←lk];exact Y7 ed4 vR,_,rfl,_,_,rfl,rfl,_,rfl,_,rfl,d,_,rfl,DPut.t (k:=kk k) ed4 vR (Zj (by rw[Zk];omega)),?_⟩;have tupd:∀{H:Hp}{b:Addr}{j:Int×Int}{kvs:List (List Key×V)}{o:HO},H d=some (.dT kvs)→KAt H b j→KAt (upd H d o) b j:=fun{H b j kvs o} e eb=>by
   show upd H d o b=_;rw[Za (Uh eb e (by intro z;cases z))];exact eb
  have sm5:∀{H0:Hp}{o:HO},Same H H0→Same H (upd H0 d o):=fun g x w e=>by
   rw[Za (Zd e n_d)];exact g _ _ e
  have g5:=sm5 (o:=.dT (aG (af ls) (kk k) (.int (cnt ls k-m)))) g4;have xx:=tupd (o:=.dT (aG (af ls) (kk k) (.int (cnt ls k-m)))) ed4 e_u;have ed5:(upd H4 d (.dT (aG (af ls) (kk k) (.int (cnt ls k-m))))) d=some (.dT (af (au ls k (cnt ls k-m)))):=by rw[←Wx];exact Z2
  generalize upd H4 d (.dT (aG (af ls) (kk k) (.int (cnt ls k-m))))=H5 at g5 xx ed5⊢;refine⟨_,rfl,d,rfl,.inr ⟨_,.inl ed5⟩,_,rfl,_,Y7 ed5 xx,_,rfl,_,_,Ys _ _,rfl,_,rfl,_,rfl,d,_,rfl,DPut.t (k:=kk (ad k)) ed5 xx (Zj (by rw[Zk];omega)),?_⟩;exact hN _ _ ⟨_,_,_,b0 ls k m,rfl,sm5 g5,by unfold b0;rw[←Wx (au ls k (cnt ls k-m))];exact Z2,by omega,n1,key⟩
 ·rintro σ H' ⟨o4,o5,o6,ls,rfl,g,ed,al,nl,key⟩;rw[az,bl]at al;rw[az,bl,List.drop_length]at key;have key:eqB qs (ls.filter fun p=>decide (0<p.2))=true:=key;rw[←key]at hq;refine⟨_,(Z7 (Zc (Xz (lU hr.units) (Y9 (Xu rfl hr.units) rfl aM A6 (Z0 (Xb Xd (pv 1) Z5) Z1)) (Y9 (jB rfl hr.units) rfl aM A6 (Z0 (sq (Xy (own:=["_law_one"]) (R0 rfl rfl) (oF (U5 AQ Bz B4 T5 (pv 3)))
  (fun _ _ _ _ _=>(Z9 (i:=0) So rfl (Or.inl rfl) (Or.inr rfl))) (fun _ _ _ _ _=>(Se (Zi Rt (Xb (ge K rfl) (pv 0) Z5) Z5 (Zh _))))
  (fun _ _ _ _ _=>(pv 0)))) Z1)) (Zh _)))),?_⟩
  refine⟨_,rfl,q,_,2,_,rfl,rfl,SqT.of (g _ _ CM),rfl,c,_,_,rfl,g _ _ CJ,Tz (Paired.mapP pr fun _ _ f=>Zs g f),by rw[Zk];omega,fun z nz=>?_⟩;rw[Wy (rM nq)];have s4:=Z6 nz (.dT (af qs));have g4:=g.trans s4;have e_z:(upd H' z (.dT (af qs))) z=some (.dT (af qs)):=Z2;have ed:=s4 _ _ ed;generalize upd H' z (.dT (af qs))=H4 at g4 e_z ed⊢;refine⟨d,_,ed,_,rfl,Ti ed,d,_,rfl,rfl,ed,fun v nv=>?_⟩;have s5:=Z6 nv (bg v d);have g5:=g4.trans s5;have e_z:=s5 _ _ e_z;have ed5:=s5 _ _ ed;have e_v:(upd H4 v (bg v d)) v=some (bg v d):=Z2;generalize upd H4 v (bg v d)=H5 at g5 e_z ed5 e_v⊢;refine⟨v,d,_,rfl,e_v,ed5,fun o=>?_⟩;refine Rx (fun i ys H'=>Same (upd H5 d (.frz o (.dT (af ls)))) H'∧∃as:List Addr,ys=as.map V.ref∧Paired (FT H') as ((ls.take i).filter fun p=>decide (0<p.2))) ⟨Same.refl _,[],rfl,.nil⟩ ?_ ?_ ?_
  ·rintro i ys H' ⟨g6,as,rfl,pa⟩;refine⟨g6 _ _ Z2,Zj ?_⟩;have:=zV pa;have l2:=AB (fun p:(Int×Int)×Int=>decide (0<p.2)) (ls.take i);rw[z5]at l2;rw[az];omega
  ·rintro i p0 b T ys H6 C hp0 CG nT ⟨g6,as,rfl,pa⟩ hC;obtain⟨e,he,rfl⟩:=Qo hp0;have CG:KAt H6 b e.1:=CG;have s7:=Z6 nT (.tup [.ref b,.int e.2]);have e_T:(upd H6 T (.tup [.ref b,.int e.2])) T=some (.tup [.ref b,.int e.2]):=Z2;have CG:KAt (upd H6 T (.tup [.ref b,.int e.2])) b e.1:=s7 _ _ CG;have g7:=g6.trans s7;have pa:=Paired.mapP pa fun _ _ f=>Zs s7 f;generalize upd H6 T (.tup [.ref b,.int e.2])=H7 at g7 e_T CG pa⊢;refine⟨Wk.refl _,_,rfl,T,_,1,_,rfl,rfl,SqT.of e_T,rfl,_,_,rfl,rfl,_,rfl,Xh (fun c1=>?_) (fun c1=>?_)⟩
   ·refine⟨_,rfl,hC _ _ ⟨g7,as++[T],by rw[zW];rfl,?_⟩⟩;rw[W2 he,zE c1];exact BS pa ⟨b,e_T,CG⟩
   ·refine hC _ _ ⟨g7,as,rfl,?_⟩;rw[W2 he,pi c1,Aw];exact pa
  rintro ys H6 ⟨g6,as,rfl,pa⟩;rw[Zk,Ab]at pa;have fl:=AB (fun p:(Int×Int)×Int=>decide (0<p.2)) ls;have nf:((ls.filter fun p=>decide (0<p.2)).map (·.1)).Nodup:=List.Sublist.nodup (List.filter_sublist.map _) nl;generalize (ls.filter fun p=>decide (0<p.2))=fs at hq pa fl nf;have al2:=zV pa;refine⟨Zl (by rw[az];omega),fun l n_l=>?_⟩;have ld:l≠d:=fun z=>by rw[z,g6 _ _ Z2]at n_l;cases n_l
  have s7:=Z6 n_l (.lst (as.map V.ref));have g7:=g6.trans s7;have sz:=Vl ed5 g7;refine⟨o,g7 _ _ Z2,?_⟩;have pa:Paired (FT (upd (upd H6 l (.lst (as.map V.ref))) d (.dT (af ls)))) as fs:=Paired.mapP pa fun x y fx=>by
   obtain⟨b,f1,f2⟩:=Zs s7 fx;have k1:=g7 d _ Z2;exact⟨b,by rw[Za (Uh f1 k1 (by intro z;cases z))];exact f1,by rw[Za (Uh f2 k1 (by intro z;cases z))];exact f2⟩
  have CK:(upd (upd H6 l (.lst (as.map V.ref))) d (.dT (af ls))) l=some (.lst (as.map V.ref)):=by rw[Za ld];exact Z2
  generalize upd (upd H6 l (.lst (as.map V.ref))) d (.dT (af ls))=H7 at sz pa CK⊢;refine⟨l,_,_,rfl,SqL.of CK,Tz pa,by rw[Zk];omega,fun y ny=>?_⟩;rw[Wy (rM nf)];have s8:=Z6 ny (.dT (af fs));exact⟨z,y,qs,fs,rfl,rfl,s8 _ _ (sz _ _ e_z),Z2,hq _ (g5.trans (sz.trans s8))⟩
def aV(or:Int)(p:(Int×Int)×Int):Sps:=(List.range (or+1-p.1.1).toNat).map fun(i:Nat)=>((p.1.1+(i:Int),p.1.2 / 2^i),p.2)
def dR(or:Int)(qs:Sps):Sps:=ay [] (qs.flatMap (aV or))
theorem t9{a b q:Int}(hb:0<b):a / b=q↔q*b≤a∧a<(q+1)*b:=
 ⟨fun e=>⟨by rw[←e];exact Int.ediv_mul_le a (by omega),by rw[←e];exact Int.lt_ediv_add_one_mul_self a hb⟩,fun⟨x,y⟩=>by
  have h1:=(Int.le_ediv_iff_mul_le hb).mpr x;have h2:=Int.ediv_lt_of_lt_mul hb y;omega⟩
theorem vt(g:Int×Int→Int)(a b:Sps):wS g (a++b)=wS g a+wS g b:=by
 unfold wS;rw[zW,Bj]
theorem mj(c h:Int)(f:Nat→Int×Int)(hf:∀i:Nat,(f i).1=h+(i:Int))(s:Int×Int):∀n:Nat,wS (fun x=>if x=s then 1 else 0) ((List.range n).map fun i=>(f i,c))=if s.1<h+(n:Int)∧h≤s.1∧f (s.1-h).toNat=s then c else 0
 | 0=>by
  rw[pi (by omega)];rfl
 |n+1=>by
  rw[List.range_succ,zW,vt,mj c h f hf s n];show _+(c*(if f n=s then 1 else 0)+0)=_;have hn:=hf n;by_cases e:f n=s
  ·rw[e]at hn;have t:(s.1-h).toNat=n:=by omega
   rw[pi (by omega),zE e,zE ⟨by omega,by omega,by rw[t];exact e⟩];omega
  ·rw[pi e];by_cases q:s.1<h+(n:Int)∧h≤s.1∧f (s.1-h).toNat=s
   ·rw[zE q,zE ⟨by omega,q.2⟩];omega
   ·rw[pi q,pi (fun z=>?_)]
    ·omega
    by_cases y:s.1<h+(n:Int)
    ·exact q ⟨y,z.2⟩
    ·have t:(s.1-h).toNat=n:=by omega
     rw[t]at z;exact e z.2.2
theorem lz{s k:Int×Int}(k0:0≤k.1)(le:k.1≤s.1):wit s k↔k.2 / 2^(s.1-k.1).toNat=s.2:=by
 have A:=Yd k.1.toNat;have B:=Yd (s.1-k.1).toNat;have e:(2:Int)^s.1.toNat=2^(s.1-k.1).toNat*2^k.1.toNat:=by
  rw[←Int.pow_add]
  congr 1
  omega
 rw[t9 B];unfold wit aE aD;rw[e,←Bb,←Bb];constructor
 ·rintro⟨x,y⟩;have x:=BO x A;have y:=BO (show(k.2+1)*2^k.1.toNat≤(s.2+1)*2^(s.1-k.1).toNat*2^k.1.toNat by omega) A;exact⟨x,by omega⟩
 ·rintro⟨x,y⟩;have x:=AS x (A7 A);have y:=AS (show k.2+1≤(s.2+1)*2^(s.1-k.1).toNat by omega) (A7 A);exact⟨x,by omega⟩
theorem ub{or:Int}{p:(Int×Int)×Int}{s:Int×Int}(p0:0≤p.1.1)(s0:0≤s.1)(s1:s.1≤or):wS (fun x=>if x=s then 1 else 0) (aV or p)=p.2*gin s p.1:=by
 unfold aV;rw[mj p.2 p.1.1 (fun(i:Nat)=>(p.1.1+(i:Int),p.1.2 / 2^i)) (fun _=>rfl) s];by_cases le:p.1.1≤s.1
 ·have w:=lz p0 le;have hh:s.1<p.1.1+((or+1-p.1.1).toNat:Int):=by omega
  by_cases d:p.1.2 / 2^(s.1-p.1.1).toNat=s.2
  ·rw[zE ⟨hh,le,AT (by show p.1.1+((s.1-p.1.1).toNat:Int)=s.1;omega) d⟩,show gin s p.1=1 from V6 (w.mpr d),BG]
  ·rw[pi fun z=>d (AX Prod.snd z.2.2),show gin s p.1=0 from Wm fun z=>d (w.mp z),B9]
 ·rw[pi fun z=>le z.2.1,show gin s p.1=0 from Wm fun z=>le (uO s0 p0 z),B9]
theorem pU{or:Int}{s:Int×Int}(s0:0≤s.1)(s1:s.1≤or):∀{qs:Sps},(∀p∈qs,0≤p.1.1)→wS (fun x=>if x=s then 1 else 0) (qs.flatMap (aV or))=wS (gin s) qs:=by
 intro qs
 induction qs with
 |nil=>intro _;rfl
 |cons p qs ih=>
  intro h;rw[List.flatMap_cons,vt,ih fun x hx=>h x (.tail _ hx),ub (h p (.head _)) s0 s1,Yv]
theorem lI{or:Int}{s:Int×Int}{qs:Sps}(h:∀p∈qs,0≤p.1.1)(s0:0≤s.1)(s1:s.1≤or):cnt (dR or qs) s=wS (gin s) qs:=by
 unfold dR;rw[←Nc (Uv (xs:=[]) An),Qm (xs:=[]) An,pU s0 s1 h];show 0+_=_;omega
theorem q_{or:Int}{qs:Sps}(h:∀p∈qs,0≤p.1.1){e:(Int×Int)×Int}(he:e∈dR or qs):0≤e.1.1∧e.1.1≤or:=by
 rcases V9 (zF.mpr ⟨e,he,rfl⟩)with q | q
 ·exact absurd q Am
 ·obtain⟨x,hx,ex⟩:=zF.mp q;obtain⟨p,hp,hx⟩:=List.mem_flatMap.mp hx;obtain⟨i,hi,rfl⟩:=zF.mp hx;have hi:=List.mem_range.mp hi;have p0:=h p hp;rw[←ex];show 0≤p.1.1+(i:Int)∧p.1.1+(i:Int)≤or;omega
theorem tH{g:Int×Int→Int}{ps:Sps}:(∀p∈ps,g p.1=1)→wS g ps=ag ps:=by
 induction ps with
 |nil=>intro _;rfl
 |cons p ps ih=>
  intro h;rw[Yv,sum_cons,ih fun x hx=>h x (.tail _ hx),h p (.head _),BG]
theorem wL{s:Int×Int}{ps:Sps}:(∀p∈ps,0≤p.2)→wS (gin s) ps≤ag ps:=by
 induction ps with
 |nil=>intro _;exact Ah _
 |cons p ps ih=>
  intro h;have a:=ih fun x hx=>h x (.tail _ hx);have b:=h p (.head _);rw[Yv,sum_cons];by_cases w:wit s p.1
  ·rw[show gin s p.1=1 from V6 w,BG];omega
  ·rw[show gin s p.1=0 from Wm w,B9];omega
theorem ug{or:Int}{qs:Sps}{ts:List Th}(d0:0≤or)(o:Pok or qs)(h:∀t∈ts,0≤t.num∧1≤t.many):
  (ag (av ts)=ag qs∧(∀e∈dR or qs,e.2≤wS (gin e.1) (av ts))∧∀e∈av ts,e.1.2<2^or.toNat)↔(∀t∈ts,t.num<2^or.toNat)∧Can qs (eV ts):=by
 have st:=fun p (hp:p∈qs)=>o.kok.st p.1 (zF.mpr ⟨p,hp,rfl⟩);have p0:∀p∈qs,0≤p.1.1:=fun p hp=>(st p hp).1;have nW:((dR or qs).map (·.1)).Nodup:=Uv (xs:=[]) An;have sp:=Uw fun t ht=>(h t ht).2;have nn:∀p∈av ts,0≤p.2:=fun p hp=>A7 (sp.pos p hp);have qn:∀p∈qs,0≤p.2:=fun p hp=>by have:=o.pos p hp;omega
 have leaf:∀e∈av ts,∃t∈ts,e.1=(0,t.num):=fun e he=>by
  rcases V9 (zF.mpr ⟨e,he,rfl⟩)with q | q
  ·exact absurd q Am
  ·unfold cm at q;rw[Al]at q;obtain⟨t,ht,ee⟩:=zF.mp q;exact⟨t,ht,ee.symm⟩
 constructor
 ·rintro⟨h1,h2,h3⟩;have inn:∀t∈ts,t.num<2^or.toNat:=fun t ht=>by
   have hk:(0,t.num)∈(av ts).map (·.1):=Sq (.inr (zF.mpr ⟨((0,t.num),t.many),zF.mpr ⟨t,ht,rfl⟩,rfl⟩));obtain⟨e,he,ee⟩:=zF.mp hk;have:=h3 e he;rw[ee]at this;exact this
  refine⟨inn,fun s s0=>?_,h1.symm⟩;show wS (gin s) qs≤wS (gin s) (av ts);have z:=uZ (g:=gin s) (fun _=>kL) nn;by_cases s1:s.1≤or
  ·have c:=lI p0 s0 s1;by_cases c1:1≤wS (gin s) qs
   ·obtain⟨e,he,ee⟩:=zF.mp (Uu (show 1≤cnt (dR or qs) s by omega));have q:=Yu nW he;have r:=h2 e he;rw[ee]at q r;omega
   ·omega
  ·by_cases w:∃p∈qs,wit s p.1
   ·obtain⟨p,hp,w⟩:=w;obtain⟨a,b,c,d⟩:=st p hp;have l:=l9 a b c d;have f0:0≤aE p.1:=Ct c (A7 (Yd _));have fl:aE p.1≤aD p.1:=by
     have A:=Yd p.1.1.toNat;unfold aE aD;rw[By];omega
    have e1:aE (or,0)=0:=by
     show 0*(2:Int)^or.toNat=0;omega
    have e2:aD (or,0)=2^or.toNat-1:=by
     show(0+1)*(2:Int)^or.toNat-1=_;rw[BF,AI]
    have wt:=jG (s:=s) (k:=(or,0)) d0 (show or≤s.1 by omega) (n:=aE p.1) (by omega) (by omega) w.1 (by have:=w.2;omega);have al:wS (gin s) (av ts)=ag (av ts):=tH fun e he=>by
     obtain⟨t,ht,ee⟩:=leaf e he;have t0:=(h t ht).1;have t1:=inn t ht;have w1:=wt.1;have w2:=wt.2;rw[ee];exact V6 (wit_0.mpr ⟨by omega,by omega⟩)
    have:=wL (s:=s) qn;omega
   ·have:wS (gin s) qs=0:=Q6 fun p hp=>.inr (Wm fun z=>w ⟨p,hp,z⟩);omega
 ·rintro⟨inn,C⟩;refine⟨C.all.symm,fun e he=>?_,fun e he=>?_⟩
  ·obtain⟨a,b⟩:=q_ p0 he;have q:=Yu nW he;rw[lI p0 a b]at q;have r:=C.each e.1 a;rw[q]at r;exact r
  ·obtain⟨t,ht,ee⟩:=leaf e he;rw[ee];exact inn t ht
theorem ua{ts:List Th}{s:Int×Int}(s0:0≤s.1):(((av ts).filter fun e=>decide (e.1.2 / 2^s.1.toNat=s.2)).map (·.2)).sum=wS (gin s) (av ts):=by
 have hz:∀e∈av ts,e.1.1=0:=fun e he=>by
  obtain⟨n,en⟩:=Qu he;rw[en]
 generalize av ts=S at hz
 induction S with
 |nil=>rfl
 |cons e S ih=>
  have ih:=ih fun x hx=>hz x (.tail _ hx);have z:=hz e (.head _);have w:=lz (s:=s) (k:=e.1) (by omega) (by omega);rw[z,Int.sub_zero]at w;rw[Yv,AA];by_cases d:e.1.2 / 2^s.1.toNat=s.2
  ·rw[zE (zP d),zH,Ac,ih,show gin s e.1=1 from V6 (w.mpr d),BG]
  ·rw[if_neg (by simpa using d),ih,show gin s e.1=0 from Wm fun y=>d (w.mp y),Int.mul_zero,Int.zero_add]
def vq:Sp:=fun vs H Q _=>∃(r q:Addr)(ts:List Th)(Cz or:Int)(qs:Sps),vs=[.ref r,.ref q]∧DV H (.ref r) (aS ts)∧ts.length≤200∧LadAt H q Cz or (ag qs) qs∧Pok or qs∧qs.length≤60∧0≤or∧or≤10∧(∀t∈ts,0≤t.num∧1≤t.many)∧∀(b:Bool)(H':Hp),Same H H'→(b=true↔(∀t∈ts,t.num<2^or.toNat)∧Can qs (eV ts))→Q (.bl b) H'
theorem mC{H:Hp}{d b:Addr}{ps:Sps}{k:Int×Int}{o:Obj}(e:H d=some (.frz o (.dT (af ps))))(eb:KAt H b k):DGet H d (.ref b) (aw ps k):=.inr ⟨_,kk k,b,.inr ⟨o,e⟩,rfl,eb,rfl⟩
theorem iX{or:Int}(d1:or≤10):∀{qs:Sps},(∀p∈qs,0≤p.1.1)→(qs.flatMap (aV or)).length≤11*qs.length:=by
 intro qs
 induction qs with
 |nil=>intro _;exact zD _
 |cons p qs ih=>
  intro h;have a:=ih fun x hx=>h x (.tail _ hx);have b:=h p (.head _);rw[List.flatMap_cons,zI,Ak];have c:(aV or p).length=(or+1-p.1.1).toNat:=by
   unfold aV;rw[az,List.length_range]
  omega
theorem kU{α:Type}{l:List α}{f:α→Bool}:(l.filter f).isEmpty=true↔∀x∈l,f x=false:=by
 rw[List.isEmpty_iff,List.filter_eq_nil_iff];exact⟨fun h x hx=>AG.mpr (h x hx),fun h x hx z=>by rw[h x hx]at z;cases z⟩
def gN(e:(Int×Int)×Int):PyData:=.tuple [.int e.1.1,.int e.1.2]
theorem iG(l:Sps):(PyData.list (l.map gN)).canLay0=true∧(PyData.list (l.map gN)).depth≤3:=iB l fun p _=>by
 refine⟨?_,?_⟩
 ·simp[gN,PyData.canLay0,PyData.canLayAll0]
 ·simp[gN,PyData.depth,PyData.depthAll]
theorem jD{H:Hp}{d:Addr}{o:Obj}{kvs:List (List Key×V)}(e:H d=some (.frz o (.dT kvs))):∀{ys:List V}{l:Sps},DVs H ys (l.map gN)→DVs (upd H d (.dT kvs)) ys (l.map gN)
 | [],[],_=>.nil
 | [],_::_,h=>by obtain⟨_,_,z,_⟩:=DVs.cons_inv h;cases z
 |_::_,[],h=>by have:=h.nil_inv;cases this
 |y::ys,p::l,h=>by
  obtain⟨x,r,z,h1,h2⟩:=DVs.cons_inv h;cases z;obtain⟨b,xs,rfl,eb,h3⟩:=DV.tup_inv h1;obtain⟨_,_,rfl,k1,h3⟩:=h3.cons_inv;obtain⟨_,_,rfl,k2,h3⟩:=h3.cons_inv;have:=h3.nil_inv;subst this;cases k1;cases k2;exact .cons (.tup (by rw[Za (fun z=>by rw[z,e]at eb;cases eb)];exact eb) (.cons (.int _) (.cons (.int _) .nil))) (jD e h2)
theorem wv(eN:mg "sum"=none)(aN:mg "range"=none)(bY:Has P w K mg base "_law_at_leaves" 1 ["_law_stream_here"] fI)(F:Fun K "_law_fits" "_law_fits" eC f fd):FnOk P w K mg base CX0 2 f fd ["_law_stream_here","_law_ladder"] vq:=by
 refine F.ok Y5 (fun vs H Q E h=>?_) (fun cdv A outer s H vs Q E hr h=>?_)
 ·obtain⟨r,q,ts,Cz,or,qs,rfl,_⟩:=h;rfl
 obtain⟨r,q,ts,Cz,or,qs,rfl,k_r,tl,lad,ok,ql,d0,d1,th,hq⟩:=h;obtain⟨c,as,CM,CJ,pr⟩:=lad.at_;have fi:=ug d0 ok th;have p0:∀p∈qs,0≤p.1.1:=fun p hp=>(ok.kok.st p.1 (zF.mpr ⟨p,hp,rfl⟩)).1;have rl:=iX d1 p0;have wl:=Wn (qs.flatMap (aV or)) [];have sl:=Vy ts;have sgin:∀s:Int×Int,0≤s.1→(((av ts).filter fun e=>decide (e.1.2 / 2^s.1.toNat=s.2)).map (·.2)).sum=wS (gin s) (av ts):=fun s s0=>ua s0;have nS:((av ts).map (·.1)).Nodup:=Uv An;refine⟨_,(Z3 (Yt (pv 1) (Y6 rfl (Z8 (Z9 (i:=2) Y5.nd rfl (Or.inl rfl)) (Z8 (Z9 (i:=3) Y5.nd rfl (Or.inr rfl)) (Z8 (Z9 (i:=4) Y5.nd rfl (Or.inl rfl)) (Z8 (Z9 (i:=5) Y5.nd rfl (Or.inl rfl)) Zo)))))) Zb),?_⟩;refine⟨_,rfl,q,_,rfl,SqT.of CM,rfl,_,_,rfl,_,_,rfl,_,_,rfl,_,_,rfl,rfl,?_⟩;refine⟨_,(Z3 (@kT _ _ 6 _ _ _ _ Y5.nd rfl (Or.inr rfl) (Z4 bY hr (Z0 (pv 0) Z1)) (by rfl) (by first | exact .inl rfl | exact .inr rfl)) Zb),?_⟩;refine⟨_,rfl,r,ts,rfl,k_r,by omega,fun d H1 n_d gg ed=>?_⟩;generalize av ts=S at ed fi sl sgin nS;refine⟨_,(Z3 (Y8 (Zi P5 (Y1 (j8 rfl) rfl eN PyProof.Rows.boot_sum (Z0 (U5 AQ PySem.F.slot_dict_values PySem.F.type_dict_values jI (pv 6)) Z1)) (pv 5) (Zh _)) (Z7 (Zc Xn)) Zr) Zb),?_⟩;refine⟨_,rfl,Ti ed,d,_,rfl,rfl,ed,fun v nv=>?_⟩;have s3:=Z6 nv (fg v d);refine⟨v,d,_,S.map (·.2),rfl,Z2,s3 _ _ ed,tQ S,?_⟩;have gg:=gg.trans s3;have ed:=s3 _ _ ed;generalize upd H1 v (fg v d)=H2 at gg ed⊢;refine⟨_,rfl,rfl,_,rfl,Xh (fun c1=>?_) (fun c1=>?_)⟩
 ·have c1:¬ag S=ag qs:=by
   intro z;have:¬(S.map (·.2)).sum=ag qs:=by simpa using c1
   exact this z
  exact hq false _ gg ⟨(fun z=>nomatch z),fun z=>absurd (fi.mpr z).1 c1⟩
 have c1:ag S=ag qs:=by
  have:(S.map (·.2)).sum=ag qs:=by simpa using c1
  exact this
 refine⟨_,(Z3 (Zy 7 Y5.nd rfl (Or.inl rfl) iM) Zb),fun w0 n_w=>?_⟩;have tZ:H w0=none:=gg.free n_w;have dw:d≠w0:=fun z=>by rw[z,n_w]at ed;cases ed
 have s4:=Z6 n_w (.dT []);have e_w:(upd H2 w0 (.dT [])) w0=some (.dT (af (ay [] ((qs.take 0).flatMap (aV or))))):=Z2;have gg:=gg.trans s4;have ed:=s4 _ _ ed;clear s4 n_w s3 nv;generalize upd H2 w0 (.dT [])=H3 at gg ed e_w⊢;refine⟨_,(Z3 (X8 Ao rfl (P2 (pv 4)) (Y6 rfl (Z8 (Y6 rfl (Z8 (Z9 (i:=8) Y5.nd rfl (Or.inr rfl)) (Z8 (Z9 (i:=9) Y5.nd rfl (Or.inr rfl)) Zo))) (Z8 (Z9 (i:=10) Y5.nd rfl (Or.inl rfl)) Zo)))
 (Z7 (X8 Ao rfl (nM rfl aN (Z0 (pv 8) (Z0 (Ze Zu (pv 3) Z5) Z1))) (Z9 (i:=11) Y5.nd rfl (Or.inl rfl))
 (Z3 (Zy 12 Y5.nd rfl (Or.inl rfl) (Zn (Z0 (pv 11) (Z0 (Ze qA (pv 9) (Ze Xl (pv 11) (pv 8))) Z1))))
 (Z7 (W5 (Yg hr) (pv 7) (pv 12) (Ze Zu (X1 (Yg hr) (pv 7) (pv 12) Z5 ⟨rfl,rfl,rfl,rfl⟩) (pv 10)) rfl)))))) Zb),?_⟩
 refine⟨_,rfl,c,rfl,⟨_,SqT.of (gg _ _ CJ)⟩,?_⟩;have al:=zV pr;refine Pp (xs:=as.map V.ref) (fun i σ H'=>∃(o8 o9 o10 o11 o12 o13:Option V),σ=[some (.ref r),some (.ref q),some (.int Cz),some (.int or),some (.ref c),some (.int (ag qs)),some (.ref d),some (.ref w0),o8,o9,o10,o11,o12,o13]∧Same H H'∧H' d=some (.dT (af S))∧H' w0=some (.dT (af (ay [] ((qs.take i).flatMap (aV or)))))) ⟨_,_,_,_,_,_,rfl,gg,ed,e_w⟩ ?_ ?_ ?_
 ·rintro i σ H' _ ⟨_,_,_,_,_,_,_,g,_⟩;exact SqT.of (g _ _ CJ)
 ·clear gg ed e_w;rintro i x σ H' N B1 R hN hR hx ⟨o8,o9,o10,o11,o12,o13,rfl,gg,ed,e_w⟩;obtain⟨a,⟨⟨h,j⟩,m⟩,rfl,hp,b,CL,CG⟩:=Vi pr hx;have il:i<qs.length:=(zM.mp hp).1;have h0:0≤h:=p0 _ (z7 hp);have h1:h≤or:=(ok.kok.st (h,j) (zF.mpr ⟨_,z7 hp,rfl⟩)).2.1;have tk:(qs.take (i+1)).flatMap (aV or)=(qs.take i).flatMap (aV or)++aV or ((h,j),m):=by rw[Zv hp,List.flatMap_append,List.flatMap_cons,List.flatMap_nil,Aw]
  have rl2:=iX (qs:=qs.take i) d1 fun p hp=>p0 p (A2 hp);rw[z5]at rl2;rw[tk]at hN;generalize (qs.take i).flatMap (aV or)=B at e_w hN rl2;have CL:=gg _ _ CL;have CG:KAt H' b (h,j):=gg _ _ CG;refine⟨a,_,rfl,SqT.of CL,rfl,_,_,rfl,b,_,rfl,SqT.of CG,rfl,_,_,rfl,_,_,rfl,rfl,_,_,rfl,rfl,?_⟩;refine⟨_,rfl,_,rfl,_,_,rfl,rfl,h,or+1,rfl,⟨by omega,by omega,by omega,by omega⟩,?_⟩;refine Ua (lo:=h) (n:=(or+1-h).toNat) (fun t σ H'=>∃(o11 o12:Option V),σ=[some (.ref r),some (.ref q),some (.int Cz),some (.int or),some (.ref c),some (.int (ag qs)),some (.ref d),some (.ref w0),some (.int h),some (.int j),some (.int m),o11,o12,o13]∧Same H H'∧H' d=some (.dT (af S))∧H' w0=some (.dT (af (ay [] (B++(aV or ((h,j),m)).take t))))) ⟨_,_,rfl,gg,ed,by rw[List.take_zero,Aw];exact e_w⟩ ?_ ?_
  ·clear gg ed e_w CL CG;rintro t σ H' N B1 R hN hR ht ⟨o11,o12,rfl,gg,ed,e_w⟩;have row:(aV or ((h,j),m))[t]?=some ((h+(t:Int),j / 2^t),m):=by
    unfold aV;rw[z9,List.getElem?_range ht];rfl
   have st:ay [] (B++(aV or ((h,j),m)).take (t+1))=au (ay [] (B++(aV or ((h,j),m)).take t)) (h+(t:Int),j / 2^t) (cnt (ay [] (B++(aV or ((h,j),m)).take t)) (h+(t:Int),j / 2^t)+m):=by
    rw[Zv row,←Ag,R4]
   have zl:=Wn (B++(aV or ((h,j),m)).take t) [];rw[zI,z5,AO]at zl;rw[st]at hN;generalize ay [] (B++(aV or ((h,j),m)).take t)=zs at e_w hN zl;refine⟨_,rfl,_,rfl,_,rfl,_,rfl,_,_,rfl,rfl,_,_,rfl,rfl,by show 0≤h+(t:Int)-h;omega,leN rfl,fun u n_u=>?_⟩;have tt:(h+(t:Int)-h).toNat=t:=by omega
   have s5:=Z6 n_u (.tup [.int (h+(t:Int)),.int (j / 2^(h+(t:Int)-h).toNat)]);have e_u:KAt (upd H' u (.tup [.int (h+(t:Int)),.int (j / 2^(h+(t:Int)-h).toNat)])) u (h+(t:Int),j / 2^t):=by
    show upd H' u _ u=some (.tup [.int (h+(t:Int)),.int (j / 2^t)]);rw[Z2,tt]
   have gg:=gg.trans s5;have ed:=s5 _ _ ed;have e_w:=s5 _ _ e_w;generalize upd H' u (.tup [.int (h+(t:Int)),.int (j / 2^(h+(t:Int)-h).toNat)])=H4 at e_u gg ed e_w⊢;refine⟨_,rfl,w0,rfl,.inr ⟨_,.inl e_w⟩,_,rfl,_,Y7 e_w e_u,_,rfl,_,m,Ys _ _,rfl,_,rfl,_,rfl,w0,_,rfl,DPut.t (k:=kk (h+(t:Int),j / 2^t)) e_w e_u (Zj (by rw[Zk];omega)),?_⟩;refine hN _ _ ⟨_,_,rfl,fun x w e=>?_,by rw[Za dw];exact ed,by rw[←Wx];exact Z2⟩;rw[Za (Zd e tZ)];exact gg _ _ e
  ·rintro σ H' ⟨o11,o12,rfl,gg,ed,e_w⟩;rw[Bg (by unfold aV;rw[az,List.length_range];exact zD _)]at e_w;exact hN _ _ ⟨_,_,_,_,_,_,rfl,gg,ed,e_w⟩
 clear gg ed e_w;rintro σ H4 ⟨o8,o9,o10,o11,o12,o13,rfl,gg,ed,e_w⟩;rw[az,al,Ab]at e_w;have e_w:H4 w0=some (.dT (af (dR or qs))):=e_w;have wl:(dR or qs).length≤660:=by unfold dR;rw[AO]at wl;omega
 have nW:((dR or qs).map (·.1)).Nodup:=Uv An;have wh:∀e∈dR or qs,0≤e.1.1:=fun e he=>(q_ p0 he).1;generalize dR or qs=W at e_w wl nW wh fi;refine⟨_,(Z3 (lB (X8 Ao rfl (Sh (pv 7)) (Y6 rfl (Z8 (Z9 (i:=8) Y5.nd rfl (Or.inr rfl)) (Z8 (Z9 (i:=9) Y5.nd rfl (Or.inr rfl)) Zo)))
 (Z3 (lB (gJ (i:=13) Y5.nd rfl rfl (own:=["_law_leaf"]) (R0 rfl rfl) (Sh (pv 6))
  (fun _ _ _ _ _=>(Z9 (i:=0) Rk rfl (Or.inl rfl) (Or.inr rfl))) (fun _ _ _ _ _=>(Se (Zi Sj (Ze qA (Xb (ge K rfl) (pv 0) Z5) (pv 9)) (pv 10) (Zh _))))
  (fun _ _ _ _ _=>(Wi (Yg hr) (pv 7) (pv 0) (fun _ _=>rfl)))))
 (Z7 (Y8 (Zi Rr (Y1 (iE rfl) rfl eN PyProof.Rows.boot_sum (Z0 (pv 13) Z1)) (Wi (Yg hr) (pv 7) (Zn (Z0 (pv 8) (Z0 (pv 9) Z1))) (fun _ _=>rfl)) (Zh _)) (Z7 (Zc Xn)) Zr))))) Zb),?_⟩
 refine⟨w0,_,e_w,fun o=>⟨_,rfl,w0,o,_,rfl,Z2,?_⟩⟩;have sH:Same H (upd H4 w0 (.frz o (.dT (af W)))):=fun x u e=>by
  rw[Za (Zd e tZ)];exact gg _ _ e
 refine oE (fun i σ H'=>∃(o8 o9 o13:Option V),σ=[some (.ref r),some (.ref q),some (.int Cz),some (.int or),some (.ref c),some (.int (ag qs)),some (.ref d),some (.ref w0),o8,o9,o10,o11,o12,o13]∧Same H H'∧H' d=some (.dT (af S))∧H' w0=some (.frz o (.dT (af W)))∧∀e∈W.take i,e.2≤wS (gin e.1) S) ⟨_,_,_,rfl,sH,by rw[Za dw];exact ed,Z2,fun _ h=>absurd h Am⟩ ?_ ?_ ?_
 ·rintro i σ H' ⟨_,_,_,_,_,_,e,_⟩;exact e
 ·clear gg ed e_w sH;rintro i p1 b σ H5 N B1 R hN hR hp1 CG ⟨o8,o9,o13,rfl,gg,ed,e_w,al5⟩;obtain⟨⟨⟨h,j⟩,m⟩,hp,rfl⟩:=Qo hp1;have me:=z7 hp;have h0:0≤h:=wh _ me;have CG:KAt H5 b (h,j):=CG;refine⟨b,_,rfl,SqT.of CG,rfl,_,_,rfl,_,_,rfl,rfl,?_⟩;refine⟨d,_,ed,fun o2=>⟨_,rfl,d,o2,_,rfl,Z2,?_⟩⟩;refine S2 (fun t ys H'=>Same (upd H5 d (.frz o2 (.dT (af S)))) H'∧ys=(((S.take t).filter fun e=>decide (e.1.2 / 2^h.toNat=j)).map (·.2)).map V.int) ⟨Same.refl _,rfl⟩ ?_ ?_ ?_ ?_
  ·rintro t ys H' ⟨g,_⟩;exact g _ _ Z2
  ·rintro t p2 b2 ys H6 C hp2 gB ⟨g6,rfl⟩ hC;obtain⟨e,he,rfl⟩:=Qo hp2;have gB:KAt H6 b2 e.1:=gB;have lk:aw S e.1=some (.int e.2):=Wj nS (z7 he);refine⟨Zj ?_,Wk.refl _,_,rfl,b2,_,1,_,rfl,rfl,SqT.of gB,rfl,_,rfl,_,_,rfl,rfl,h0,_,rfl,rfl,_,rfl,Xh (fun c2=>?_) (fun c2=>?_)⟩
   ·have:=AB (fun e:(Int×Int)×Int=>decide (e.1.2 / 2^h.toNat=j)) (S.take t);rw[z5]at this;rw[az,az];omega
   ·have c2:e.1.2 / 2^h.toNat=j:=by simpa using c2
    refine⟨_,rfl,_,rfl,d,.int e.2,rfl,by rw[←lk];exact mC (g6 _ _ Z2) gB,hC _ _ ⟨g6,?_⟩⟩;rw[W2 he,zE (zP c2),zW,zW];rfl
   ·have c2:¬e.1.2 / 2^h.toNat=j:=by simpa using c2
    refine hC _ _ ⟨g6,?_⟩;rw[W2 he,if_neg (by simpa using c2),List.append_nil]
  ·rintro t ys H' ⟨_,rfl⟩;have:=AB (fun e:(Int×Int)×Int=>decide (e.1.2 / 2^h.toNat=j)) (S.take t);rw[z5]at this;exact Zj (by rw[az,az];omega)
  rintro ys H6 ⟨g6,rfl⟩;rw[Zk,Ab];have fl:=AB (fun e:(Int×Int)×Int=>decide (e.1.2 / 2^h.toNat=j)) S;have sg:=sgin (h,j) h0;have sg:((S.filter fun e=>decide (e.1.2 / 2^h.toNat=j)).map (·.2)).sum=wS (gin (h,j)) S:=sg;generalize (S.filter fun e=>decide (e.1.2 / 2^h.toNat=j))=fs at fl sg⊢;refine⟨Zl (by rw[az,az];omega),fun l n_l=>?_⟩;have ld:l≠d:=fun z=>by rw[z,g6 _ _ Z2]at n_l;cases n_l
  have g7:=g6.trans (Z6 n_l (.lst ((fs.map (·.2)).map V.int)));have sz:=Vl ed g7;have gg:=gg.trans sz;have e_w:=sz _ _ e_w;have ed:=sz _ _ ed;have CK:(upd (upd H6 l (.lst ((fs.map (·.2)).map V.int))) d (.dT (af S))) l=some (.lst ((fs.map (·.2)).map V.int)):=by rw[Za ld];exact Z2
  refine⟨g7 _ _ Z2,?_⟩;clear sz g7 n_l g6;generalize upd (upd H6 l (.lst ((fs.map (·.2)).map V.int))) d (.dT (af S))=H7 at gg e_w ed CK⊢;have lk:aw W (h,j)=some (.int m):=Wj nW me;refine⟨_,rfl,l,fs.map (·.2),rfl,SqL.of CK,_,rfl,_,rfl,_,rfl,leN rfl,fun u n_u=>?_⟩;have s8:=Z6 n_u (.tup [.int h,.int j]);have e_u:KAt (upd H7 u (.tup [.int h,.int j])) u (h,j):=Z2;have gg:=gg.trans s8;have e_w:=s8 _ _ e_w;have ed:=s8 _ _ ed;generalize upd H7 u (.tup [.int h,.int j])=H8 at gg e_w ed e_u⊢;refine⟨w0,.int m,rfl,by rw[←lk];exact mC e_w e_u,_,_,rfl,rfl,_,rfl,Xh (fun c2=>?_) (fun c2=>?_)⟩
  ·have c2:(fs.map (·.2)).sum<m:=zO c2;refine hR _ _ ⟨e_w,hq false _ (fun x u e=>by rw[Za (Zd e tZ)];exact gg _ _ e) ⟨(fun z=>nomatch z),fun z=>?_⟩⟩;have:=(fi.mpr z).2.1 _ me;have:m≤wS (gin (h,j)) S:=this;omega
  ·have c2:¬(fs.map (·.2)).sum<m:=AJ (AG.mpr c2);refine hN _ _ ⟨_,_,_,rfl,gg,ed,e_w,fun e he=>?_⟩;rw[Zv hp]at he
   rcases zT.mp he with he | he
   ·exact al5 e he
   ·rw[zG.mp he];show m≤wS (gin (h,j)) S;omega
 clear gg ed e_w sH;rintro σ H5 ⟨o8,o9,o13,rfl,gg,ed,e_w,al5⟩;rw[Zk,Ab]at al5;refine⟨e_w,?_⟩;have gg:Same H (upd H5 w0 (.dT (af W))):=fun x u e=>by
  rw[Za (Zd e tZ)];exact gg _ _ e
 have ed:(upd H5 w0 (.dT (af W))) d=some (.dT (af S)):=by rw[Za dw];exact ed
 clear e_w;generalize upd H5 w0 (.dT (af W))=H6 at gg ed⊢;refine⟨_,(Z7 (Zc (Xz (wK hr.units) (mq (Xy (own:=["_law_leaf"]) (R0 rfl rfl) (Sh (pv 6))
  (fun _ _ _ _ _=>(Z9 (i:=0) Rj rfl (Or.inl rfl) (Or.inr rfl))) (fun _ _ _ _ _=>(Se (Zi jd (Xb (ge K rfl) (pv 0) Z5) (Ze Tq Z5 (pv 4)) (Zh _))))
  (fun _ _ _ _ _=>(pv 0)))) (Yl Z1) (Zh _)))),?_⟩
 refine⟨d,_,ed,fun o2=>⟨_,rfl,d,o2,_,rfl,Z2,?_⟩⟩;refine S2 (fun t ys H'=>Same (upd H6 d (.frz o2 (.dT (af S)))) H'∧ys.length≤t∧DVs H' ys (((S.take t).filter fun e=>decide (2^or.toNat≤e.1.2)).map gN)) ⟨Same.refl _,zD _,.nil⟩ ?_ ?_ ?_ ?_
 ·rintro t ys H' ⟨g,_⟩;exact g _ _ Z2
 ·rintro t p2 b2 ys H7 C hp2 gB ⟨g7,yl,dv⟩ hC;obtain⟨e,he,rfl⟩:=Qo hp2;have tl2:=(zM.mp he).1;have gB:KAt H7 b2 e.1:=gB;have e1:(1:Int)*2^or.toNat=2^or.toNat:=AI _;refine⟨Zj (by omega),Wk.refl _,_,rfl,b2,_,1,_,rfl,rfl,SqT.of gB,rfl,_,rfl,_,_,rfl,rfl,⟨by omega,by omega,by decide⟩,_,_,rfl,rfl,_,rfl,Xh (fun c2=>?_) (fun c2=>?_)⟩
  ·have c2:(1:Int)*2^or.toNat≤e.1.2:=zO c2;refine⟨_,rfl,hC _ _ ⟨g7,by rw[zI];show ys.length+1≤_;omega,?_⟩⟩;rw[W2 he,zE (zP (by omega)),zW];exact dv.append (.cons (.tup gB (.cons (.int _) (.cons (.int _) .nil))) .nil)
  ·have c2:¬(1:Int)*2^or.toNat≤e.1.2:=AJ (AG.mpr c2);refine hC _ _ ⟨g7,by omega,?_⟩;rw[W2 he,if_neg (by simpa using (by omega:e.1.2<2^or.toNat)),List.append_nil];exact dv
 ·rintro t ys H' ⟨g,yl,dv⟩;have dl:=dv.length;have:=AB (fun e:(Int×Int)×Int=>decide (2^or.toNat≤e.1.2)) (S.take t);rw[az]at dl;rw[z5]at this;exact Zj (by omega)
 rintro ys H7 ⟨g7,yl,dv⟩;rw[Zk,Ab]at dv;rw[Zk]at yl;refine⟨Zl (by omega),fun l n_l=>?_⟩;have ld:l≠d:=fun z=>by rw[z,g7 _ _ Z2]at n_l;cases n_l
 have s8:=Z6 n_l (.lst ys);have g8:=g7.trans s8;have sz:=Vl ed g8;have gg:=gg.trans sz;have fz:=g8 _ _ Z2;have dv:=dv.mono s8;have CK:(upd (upd H7 l (.lst ys)) d (.dT (af S))) l=some (.lst ys):=by rw[Za ld];exact Z2
 refine⟨g8 _ _ Z2,leN rfl,fun z n_z=>?_⟩;have s9:=Z6 n_z (.lst []);have lay:=iG (S.filter fun e=>decide (2^or.toNat≤e.1.2));have nil_lay:=iG [];have dk:DVs (upd (upd H7 l (.lst ys)) d (.dT (af S))) ys ((S.filter fun e=>decide (2^or.toNat≤e.1.2)).map gN):=jD fz dv;refine⟨_,_,.lst (s9 _ _ CK) (dk.mono s9),.lst Z2 .nil,X6 lay (by decide),X6 nil_lay (by decide),?_⟩;rw[lN];refine hq _ _ (gg.trans s9) ?_;rw[show((S.filter fun e=>decide (2^or.toNat≤e.1.2)).map gN).isEmpty=(S.filter fun e=>decide (2^or.toNat≤e.1.2)).isEmpty by cases (S.filter fun e=>decide (2^or.toNat≤e.1.2)) <;> rfl,kU,←fi];refine⟨fun y=>⟨c1,al5,fun e he=>?_⟩,fun y e he=>?_⟩
 ·have:=AJ (y e he);omega
 ·have:=y.2.2 e he;exact As (by omega)
theorem rg{t:Th}(h:PyData.strOk t.word=true):t.D.canLay0=true∧t.D.depth≤1:=by
 unfold Th.D;simp[PyData.canLay0,PyData.canLayAll0,PyData.depth,PyData.depthAll,h]
def Tho(t:Th):Prop:=0≤t.num∧1≤t.many∧PyData.strOk t.word=true
theorem Nf{ts:List Th}(h:∀t∈ts,Tho t):(aS ts).canLay0=true∧(aS ts).depth≤2:=iB ts fun t ht=>rg (h t ht).2.2
theorem vh{K:W.Frag}:W.kitOne K (.type "bool") (.type "bool")=some true:=mS (by decide +kernel)
def ve:Sp:=fun vs H Q _=>∃(r q:Addr)(ts:List Th)(Cz or:Int)(qs:Sps),vs=[.ref r,.ref q]∧DV H (.ref r) (aS ts)∧ts.length≤60∧LadAt H q Cz or (ag qs) qs∧Pok or qs∧qs.length≤60∧0≤or∧or≤10∧(∀t∈ts,Tho t)∧∀H',Same H H'→Q (.bl true) H'
theorem vC(am:mg "isinstance"=none)(c8:mg "bool"=none)(bi:mg "list"=none)(oW:Has P w K mg base "_law_fits" 2 ["_law_stream_here","_law_ladder"] vq)(bd:Has P w K mg base "paper_for" 6 ["stream","ladder"] si)(rY:Has P w K mg base "fits" 7 ["stream","ladder"] pc)(fw:Has P w K mg base "_law_shows" 2 ["_law_stream_here","_law_ladder","_law_paper"] vj)(bw:Has P w K mg base "is_folded" 5 ["stream","ladder","paper"] di)(F:Fun K "_law_right" "_law_right" dG f fd):FnOk P w K mg base CX0 8 f fd ["_law_stream_here","_law_ladder"] ve:=by
 refine F.ok Xk (fun vs H Q E h=>?_) (fun cdv A outer s H vs Q E hr h=>?_)
 ·obtain⟨r,q,ts,Cz,or,qs,rfl,_⟩:=h;rfl
 obtain⟨r,q,ts,Cz,or,qs,rfl,k_r,tl,lad,ok,ql,d0,d1,tho,hq⟩:=h;have th:∀t∈ts,0≤t.num∧1≤t.many:=fun t ht=>⟨(tho t ht).1,(tho t ht).2.1⟩;have lay:=Nf tho;have towk:=qp d0 ok th;have sl:=Vy ts;have fl:=Ps qs (av ts) or.toNat;have fb:or.toNat*(av ts).length≤10*60:=Nat.mul_le_mul (by omega) (by omega);obtain⟨_,xs,e0,e_r,dx⟩:=DV.list_inv k_r;cases e0;refine⟨_,(Z3 (Zy 2 Xk.nd rfl (Or.inl rfl) (Z4 oW hr (Z0 (pv 0) (Z0 (pv 1) Z1)))) Zb),?_⟩;refine⟨_,rfl,_,rfl,r,q,ts,Cz,or,qs,rfl,k_r,by omega,lad,ok,ql,d0,d1,th,fun due H1 gg hb=>?_⟩;refine⟨_,(Z3 (Zy 3 Xk.nd rfl (Or.inl rfl) (Y9 Ud rfl bi Bh (Z0 (pv 0) Z1))) Zb),?_⟩;refine⟨_,rfl,r,xs,rfl,.inl (SqL.of (gg _ _ e_r)),?_⟩;intro h n_h;generalize hz:upd _ h _=H2;revert H2;refine blk ?_;intro H2 hz;have gz:=Zp hz n_h;have e_h:=Y2 hz;clear hz;have gg:=gg.trans gz;have k_h:DV H2 (.ref h) (aS ts):=.lst e_h (dx.mono gg);have k_r:=k_r.mono gg;have lad:=lad.mono gg;clear e_h gz n_h;refine⟨_,(Z3 (Zy 4 Xk.nd rfl (Or.inl rfl) (Z4 bd hr (Z0 (pv 3) (Z0 (pv 1) Z1)))) Zb),?_⟩;refine⟨_,rfl,_,rfl,h,q,ts,Cz,or,qs,rfl,k_h,by omega,lad,ok,by omega,d0,by omega,th,fun no H3 g3=>?_,fun yes p H3 n_p g3 pp=>?_⟩
 ·have gg:=gg.trans g3;have k_h:=k_h.mono g3;have k_r:=k_r.mono g3;have lad:=lad.mono g3;have db:due=false:=AG.mpr fun z=>no (hb.mp z);refine⟨_,(Z3 (Zy 5 Xk.nd rfl (Or.inl rfl) (Z4 rY hr (Z0 (pv 0) (Z0 (pv 1) Z1)))) Zb),?_⟩;refine⟨_,rfl,_,rfl,r,q,ts,Cz,or,qs,rfl,k_r,by omega,lad,ok,by omega,d0,by omega,th,fun b H4 g4 hb2=>?_⟩;have bb:b=false:=AG.mpr fun z=>no (hb2.mp z);subst db bb;refine⟨_,(Z3 (Y8 (PW.pt (V3 (Vd (Wd (Y1 V8 rfl am AC (Z0 (pv 5) (Z0 (V5 (v:=.ty "bool") rfl c8 PyProof.Rows.boot_bool rfl) Z1))))) (V3 (Zi P5 (pv 5) (pv 2) (Zh _)) (Vc (Zi (gK hr.units) (pv 3) (pv 0) (Zh _)))))) (Z7 (Zc Xn)) Zr) Zb),?_⟩;refine⟨_,rfl,_,_,"bool",_,rfl,TyOf.bl _,vh,_,rfl,Xg ?_⟩;refine⟨_,rfl,_,rfl,rfl,_,rfl,Xg ?_⟩;refine⟨_,rfl,_,rfl,_,_,k_h.mono g4,k_r.mono g4,X6 lay (by decide),X6 lay (by decide),?_⟩;rw[Pu lay];refine⟨_,rfl,Xg ?_⟩;refine⟨_,(Z3 (Y8 (Zi P5 (Xz Si (pv 4) W1 (Zh _)) (pv 2) (Zh _)) (Z7 (Zc Xn)) Zr) Zb),?_⟩;refine⟨_,rfl,rfl,_,rfl,rfl,_,rfl,Xg ?_⟩;refine⟨_,(Z3 (Y8 (Zi P6 (pv 4) W1 (Zh _)) (Z7 (Zc Xn)) Zr) Zb),?_⟩;refine⟨_,rfl,rfl,_,rfl,U9 ?_⟩;exact hq _ (gg.trans g4)
 ·have n_pH:H p=none:=gg.free n_p;have K_h:=k_h;have K_r:=k_r;have L2:=lad;have s2:Same H2 H3:=g3;have g2:Same H H2:=gg;have gg:=gg.trans g3;have k_h:=k_h.mono g3;have k_r:=k_r.mono g3;have lad:=lad.mono g3;have fB:=towk.mpr yes;have ck:e_ or qs (av ts) (c_ qs (av ts) or.toNat)=true:=by
   rw[Qg th ok.kok.nd]at fB;unfold j7 at fB;rw[Ap,Ap]at fB;exact fB.2.2
  have db:due=true:=hb.mpr yes;subst db;refine⟨_,(Z3 (Zy 5 Xk.nd rfl (Or.inl rfl) (Z4 rY hr (Z0 (pv 0) (Z0 (pv 1) Z1)))) Zb),?_⟩;refine⟨_,rfl,_,rfl,r,q,ts,Cz,or,qs,rfl,k_r,by omega,lad,ok,by omega,d0,by omega,th,fun b H4 g4 hb2=>?_⟩;have bb:b=true:=hb2.mpr yes;subst bb;have gg:=gg.trans g4;have s2:=s2.trans g4;have k_h:=k_h.mono g4;have k_r:=k_r.mono g4;have lad:=lad.mono g4;have pp:=pp.mono g4;clear g3 g4;refine⟨_,(Z3 (Y8 (PW.pt (V3 (Vd (Wd (Y1 V8 rfl am AC (Z0 (pv 5) (Z0 (V5 (v:=.ty "bool") rfl c8 PyProof.Rows.boot_bool rfl) Z1))))) (V3 (Zi P5 (pv 5) (pv 2) (Zh _)) (Vc (Zi (gK hr.units) (pv 3) (pv 0) (Zh _)))))) (Z7 (Zc Xn)) Zr) Zb),?_⟩;refine⟨_,rfl,_,_,"bool",_,rfl,TyOf.bl _,vh,_,rfl,Xg ?_⟩;refine⟨_,rfl,_,rfl,rfl,_,rfl,Xg ?_⟩;refine⟨_,rfl,_,rfl,_,_,k_h,k_r,X6 lay (by decide),X6 lay (by decide),?_⟩;rw[Pu lay];refine⟨_,rfl,Xg ?_⟩;refine⟨_,(Z3 (Y8 (Zi P5 (Xz Si (pv 4) W1 (Zh _)) (pv 2) (Zh _)) (Z7 (Zc Xn)) Zr) Zb),?_⟩;refine⟨_,rfl,rfl,_,rfl,rfl,_,rfl,Xg ?_⟩;refine⟨_,(Z3 (Y8 (Zi P6 (pv 4) W1 (Zh _)) (Z7 (Zc Xn)) Zr) Zb),?_⟩;refine⟨_,rfl,rfl,_,rfl,Xg ?_⟩;refine⟨_,(Z3 (Y8 (PW.pt (V3 (Vd (Wd (Y1 V8 rfl am AC (Z0 (pv 4) (Z0 (V5 (v:=.ty "list") rfl bi Bh rfl) Z1))))) (Vc (Vd (Wd (Z4 fw hr (Z0 (pv 0) (Z0 (pv 1) (Z0 (pv 4) Z1))))))))) (Z7 (Zc Xn)) Zr) Zb),?_⟩;obtain⟨as,CH,pr⟩:=pp;have al:=zV pr;refine⟨_,rfl,_,_,"list",_,rfl,TyOf.lst CH,kJ,_,rfl,Xg ?_⟩;refine⟨_,rfl,_,rfl,_,rfl,r,q,p,ts,Cz,or,_,qs,_,rfl,k_r,by omega,lad,ok.kok.nd,by omega,⟨as,CH,pr⟩,by omega,ck,fun H5 g5=>⟨_,rfl,Xg ?_⟩⟩;have gg:=gg.trans g5;have s2:=s2.trans g5;have k_h:=k_h.mono g5;have k_r:=k_r.mono g5;have lad:=lad.mono g5;have CH:=g5 _ _ CH;have pr:=Paired.mapP pr fun _ _ f=>Zs g5 f;refine⟨_,(Z3 (Y8 (Zi sA (Z4 bw hr (Z0 (pv 0) (Z0 (pv 1) (Z0 (pv 4) Z1)))) Xn (Zh _)) (Z7 (Zc Xn)) Zr) Zb),?_⟩;refine⟨_,rfl,_,rfl,_,rfl,r,q,p,ts,Cz,or,_,qs,_,rfl,k_r,by omega,lad,ok.kok.nd,by omega,d0,by omega,⟨as,CH,pr⟩,by omega,fun H6 g6=>?_⟩;rw[fB];refine⟨true,rfl,rfl,_,rfl,Xg ?_⟩;have gg:=gg.trans g6;have s2:=s2.trans g6;have CH:=g6 _ _ CH;clear g5 g6 pr k_h k_r lad;refine⟨_,(Z3 (Xj (Uo Ar Bt Bu Vt (pv 4) (Z0 (Zn (Z0 (Zn (Z0 Z5 (Z0 Z5 Z1))) (Z0 Z5 Z1))) Z1))) Zb),?_⟩;refine⟨_,rfl,.inl ⟨rfl,_,SqL.of CH⟩,leN rfl,?_⟩;intro u1 n_u1;generalize hz:upd _ u1 _=H7;revert H7;refine blk ?_;intro H7 hz;have gz:=Zp hz n_u1;have e_u1:=Y2 hz;clear hz;have gg:=gg.trans gz;have CH:=gz _ _ CH;have s2:=s2.trans gz;refine⟨leN rfl,?_⟩;intro u2 n_u2;generalize hz:upd _ u2 _=H8;revert H8;refine blk ?_;intro H8 hz;have gz:=Zp hz n_u2;have e_u2:=Y2 hz;clear hz;have gg:=gg.trans gz;have CH:=gz _ _ CH;have s2:=s2.trans gz;refine⟨p,_,_,rfl,rfl,CH,Zj (by rw[az];omega),?_⟩;have s9:=X9 (o:=.lst (as.map V.ref++[.ref u2])) s2 n_p;generalize upd H8 p (.lst (as.map V.ref++[.ref u2]))=H9 at s9⊢;refine⟨_,(Z3 (Zy 6 Xk.nd rfl (Or.inl rfl) (Z4 bd hr (Z0 (pv 3) (Z0 (pv 1) Z1)))) Zb),?_⟩;refine⟨_,rfl,_,rfl,h,q,ts,Cz,or,qs,rfl,K_h.mono s9,by omega,L2.mono s9,ok,by omega,d0,by omega,th,fun no _ _=>absurd yes no,fun _ p2 G3 n_p2 g3 pp=>?_⟩;have s9:=s9.trans g3;obtain⟨as,CH,pr⟩:=pp;have al:=zV pr;refine⟨_,(Z7 (Zc (Rg (Y1 V8 rfl am AC (Z0 (pv 6) (Z0 (V5 (v:=.ty "list") rfl bi Bh rfl) Z1))) (Rf (Z4 fw hr (Z0 (pv 0) (Z0 (pv 1) (Z0 (pv 6) Z1)))))))),?_⟩;refine⟨_,rfl,_,_,"list",_,rfl,TyOf.lst CH,kJ,_,rfl,U9 ?_⟩;exact⟨_,rfl,_,rfl,_,rfl,r,q,p2,ts,Cz,or,_,qs,_,rfl,K_r.mono s9,by omega,L2.mono s9,ok.kok.nd,by omega,⟨as,CH,pr⟩,by omega,ck,fun H5 g5=>hq _ (g2.trans (s9.trans g5))⟩
def Thm(t:Th):Prop:=0≤t.num∧1≤t.many∧t.many≤1000000000∧PyData.strOk t.word=true
theorem TsAt.of{H:Hp}{ts:List Th}:∀{xs:List V},DVs H xs (ts.map Th.D)→TsAt H xs ts:=by
 induction ts with
 |nil=>
  intro xs h;have:=h.nil_inv;subst this;exact .nil
 |cons t ts ih=>
  intro xs h;obtain⟨x,r,rfl,_,h2⟩:=DVs.cons_inv h;obtain⟨t',c,ht,rfl,e,_⟩:=DVs.th_at (i:=0) h rfl;cases ht;exact .cons ⟨c,rfl,e⟩ (ih h2)
structure Ot(H0:Hp)(a L:Addr)(n:Nat)(H:Hp)(xs:List V)(us:List Th):Prop where
 pen:PenAt H a
 g:Grw a H0 H
 e:H L=some (.lst xs)
 ta:TsAt H xs us
 ok:∀t∈us,Thm t
 len:us.length≤n
section
variable{H0 H H':Hp}{a L p:Addr}{n:Nat}{xs:List V}{us:List Th}
theorem Ot.xl(h:Ot H0 a L n H xs us):xs.length=us.length:=zV h.ta
theorem Ot.grw(h:Ot H0 a L n H xs us)(la:L≠a)(hp:PenAt H' a)(g:Grw a H H'):Ot H0 a L n H' xs us:=⟨hp,h.g.trans g,Sw g la h.e,h.ta.tup fun c ys e=>(Zf (g _ _ (h.pen.tup e))).2,h.ok,h.len⟩
theorem Ot.lay(h:Ot H0 a L n H xs us)(la:L≠a){o:HO}(hz:upd H p o=H')(np:H p=none):Ot H0 a L n H' xs us∧H' p=some o∧p≠a:=by
 subst hz;exact⟨h.grw la (h.pen.laid np) (X5 np),Z2,h.pen.ne np⟩
theorem q9{α β:Type}{R:α→β→Prop}{xs:List α}{ys:List β}(h:Paired R xs ys):∀n,Paired R (xs.take n) (ys.take n):=by
 induction h with
 |nil=>intro n;rw[List.take_nil,List.take_nil];exact .nil
 |cons h _ ih=>
  intro n;cases n with
  |zero=>exact .nil
  |succ n=>exact .cons h (ih n)
theorem rR{α β:Type}{R:α→β→Prop}{xs:List α}{ys:List β}(h:Paired R xs ys):∀n,Paired R (xs.drop n) (ys.drop n):=by
 induction h with
 |nil=>intro n;rw[List.drop_nil,List.drop_nil];exact .nil
 |cons h r ih=>
  intro n;cases n with
  |zero=>exact .cons h r
  |succ n=>exact ih n
theorem Ot.put(h:Ot H0 a L n H xs us)(la:L≠a)(n0:ao a H0 L=none){i:Nat}(il:i<us.length){ys:List V}{ws:List Th}(ty:TsAt H ys ws)(ow:∀t∈ws,Thm t)(wl:ws.length≤2):Ot H0 a L (n+1) (upd H L (.lst (xs.take i++ys++xs.drop (min (i+1) xs.length)))) (xs.take i++ys++xs.drop (min (i+1) xs.length)) (us.take i++ws++us.drop (i+1)):=by
 have xl:=h.xl;have hm:min (i+1) xs.length=i+1:=by omega
 have st:∀(c:Addr)(zs:List V),H c=some (.tup zs)→upd H L (.lst (xs.take i++ys++xs.drop (min (i+1) xs.length))) c=some (.tup zs):=fun c zs e=>by
  rw[Za (fun z=>by rw[z,h.e]at e;cases e)];exact e
 refine⟨h.pen.put la,tW h.g n0,Z2,?_,fun t ht=>?_,?_⟩
 ·refine TsAt.tup st ?_;rw[hm];exact W6 (W6 (q9 h.ta i) ty) (rR h.ta (i+1))
 ·rcases zT.mp ht with ht | ht
  ·rcases zT.mp ht with ht | ht
   ·exact h.ok t (A2 ht)
   ·exact ow t ht
  ·exact h.ok t (List.mem_of_mem_drop ht)
 ·have:=h.len;rw[zI,zI,z5,BJ];omega
theorem xi:∀{xs:List V}{ts:List Th}{j:Nat}{x:V},TsAt H xs ts→xs[j]?=some x→∃c t,x=.ref c∧ts[j]?=some t∧H c=some (.tup t.vs):=by
 intro xs ts j x h
 induction h generalizing j with
 |nil=>intro e;rw[List.getElem?_nil]at e;cases e
 |cons h r ih=>
  intro e;cases j with
  |zero=>
   rw[AR]at e;cases e;obtain⟨c,e,q⟩:=h;exact⟨c,_,e,rfl,q⟩
  |succ j=>exact ih (by rw[List.getElem?_cons_succ]at e;exact e)
theorem S5{ts:List Th}(h:∀t∈ts,Thm t):∀t∈ts,Tho t:=fun t ht=>⟨(h t ht).1,(h t ht).2.1,(h t ht).2.2.2⟩
end
def u9:Sp:=fun vs H Q _=>∃(a r:Addr)(or:Int)(ts:List Th),vs=[.ref a,.int or,.ref r]∧PenAt H a∧DV (ao a H) (.ref r) (aS ts)∧ts.length≤40∧0≤or∧or≤10∧(∀t∈ts,Thm t)∧∀(L:Addr)(us:List Th)(H':Hp),(∀t∈us,Thm t)→us.length≤ts.length+3→DV (ao a H') (.ref L) (aS us)→PenAt H' a→Grw a H H'→Q (.ref L) H'
theorem vM(bi:mg "list"=none)(aN:mg "range"=none)(bT:mg "len"=none)(dm:mg "int"=none)(aj:Has P w K mg base "_law_draw" 1 ["_law_pen_here","_law_size"] b_)(F:Fun K "_law_other" "_law_other" dN f fd):FnOk P w K mg base CX0 2 f fd ["_law_pen_here","_law_deep","_law_stream_here"] u9:=by
 refine F.ok Yb (fun vs H Q E h=>?_) (fun cdv A outer s H vs Q E hr h=>?_)
 ·obtain⟨a,r,or,ts,rfl,_⟩:=h;rfl
 obtain⟨a,r,or,ts,rfl,pen,k_r,tl,d0,d1,thm,hq⟩:=h;obtain⟨_,xs,e0,e_r,dx⟩:=DV.list_inv k_r;cases e0;have tw:=R6 (m:=or) d1;refine⟨_,(Z3 (Zy 3 Yb.nd rfl (Or.inl rfl) (Y9 Ud rfl bi Bh (Z0 (pv 2) Z1))) Zb),?_⟩;refine⟨_,rfl,r,xs,rfl,.inl (SqL.of (Yi _ _ e_r)),fun L n_L=>?_⟩;have la:=pen.ne n_L;have n0:ao a H L=none:=by rw[Zg la];exact n_L
 have ot:Ot H a L (ts.length+0) (upd H L (.lst xs)) xs ts:=⟨pen.laid n_L,X5 n_L,Z2,(TsAt.of (dx.mono Yi)).tup fun c ys e=>Z6 n_L _ _ _ e,thm,zD _⟩;clear n_L pen k_r dx e_r;generalize upd H L (.lst xs)=H1 at ot⊢;refine⟨_,(Z3 (X8 Ao rfl (Uz rfl aN (Z0 (Ze Zu Z5 (Z4 aj hr (Z0 (pv 0) (Z0 Z5 Z1)))) Z1)) (Z9 (i:=4) Yb.nd rfl (Or.inl rfl))
 (Z7 (Y8 (Zi (gK hr.units) (pv 3) (Yl Z1) (Zh _)) (Z3 (Zy 5 Yb.nd rfl (Or.inl rfl) (Z4 aj hr (Z0 (pv 0) (Z0 (Y1 Xf rfl bT Cp (Z0 (pv 3) Z1)) Z1))))
 (Z3 (Yt (Xb T8 (pv 3) (pv 5)) (Y6 rfl (Z8 (Z9 (i:=6) Yb.nd rfl (Or.inl rfl)) (Z8 (Z9 (i:=7) Yb.nd rfl (Or.inl rfl)) (Z8 (Z9 (i:=8) Yb.nd rfl (Or.inl rfl)) (Z8 (Z9 (i:=9) Yb.nd rfl (Or.inl rfl)) Zo))))))
 (Z3 (Zy 10 Yb.nd rfl (Or.inl rfl) (Yl (Z0 (Ze Xl (Ze Zu (pv 8) Z5) (Ze Vg (Ze W0 (pv 8) Z5) Z5)) (Z0 (Ze Zu (Ze Vg (Ze T3 (pv 8) Z5) Z5) (Z4 aj hr (Z0 (pv 0) (Z0 Z5 Z1)))) (Z0 (Z4 aj hr (Z0 (pv 0) (Z0 (Ze Tq Z5 (pv 1)) Z1))) Z1)))))
 (Z3 (Zy 10 Yb.nd rfl (Or.inl rfl) (Xb T8 (pv 10) (Z4 aj hr (Z0 (pv 0) (Z0 Z5 Z1)))))
 (Z3 (Zy 11 Yb.nd rfl (Or.inl rfl) (Ze Zu Z5 (Z4 aj hr (Z0 (pv 0) (Z0 (pv 9) Z1)))))
 (Z3 (Zy 12 Yb.nd rfl (Or.inl rfl) (Ze we (Yl (Z0 (Zn (Z0 (pv 6) (Z0 (pv 7) (Z0 (pv 8) (Z0 (Ze Xl (pv 9) (pv 11)) Z1))))) Z1)) (Y9 N3 rfl dm PyProof.Rows.boot_int (Z0 (Xz Rr (pv 11) (pv 9) (Zh _)) Z1))))
 (Z7 (Yt (Ze fX (Yl (Z0 (Zn (Z0 (pv 6) (Z0 (pv 7) (Z0 (Ze W0 (pv 10) (Ze Tq Z5 (pv 1))) (Z0 (pv 11) Z1))))) Z1)) (pv 12)) (wy (pv 3) (Qa (pv 5)) (Qa (Ze Zu (pv 5) Z5))))))))))) Zr))) Zb),?_⟩
 refine⟨_,rfl,a,3,rfl,ot.pen,Xx rfl,ltI rfl,fun d1' H2 x0 x1 hp g=>⟨_,_,rfl,rfl,1+d1',rfl,by omega,by omega,?_⟩⟩;have ot:=ot.grw la hp g;clear hp g;have x1:d1'<3:=x1;refine Ua (lo:=0) (n:=(1+d1').toNat) (fun i σ H'=>∃(o4 o5 o6 o7 o8 o9 o10 o11 o12:Option V)(xs:List V)(us:List Th),σ=[some (.ref a),some (.int or),some (.ref r),some (.ref L),o4,o5,o6,o7,o8,o9,o10,o11,o12]∧Ot H a L (ts.length+i) H' xs us) ⟨_,_,_,_,_,_,_,_,_,_,_,rfl,ot⟩ ?_ ?_
 ·clear ot;rintro i σ H3 N B1 R hN hR hi ⟨o4,o5,o6,o7,o8,o9,o10,o11,o12,xs,us,rfl,ot⟩;have ul:=ot.len;have xl:=ot.xl;refine⟨_,rfl,leN rfl,fun e n_e=>?_⟩;generalize hz:upd _ e _=H4;revert H4;refine blk ?_;intro H4 hz;obtain⟨ot,e_e,_⟩:=ot.lay la hz n_e;clear hz n_e;refine⟨_,_,.lst ot.e ot.ta.dvs,.lst e_e .nil,X6 (Nf (S5 ot.ok)) (by decide),X6 (Nf (ts:=[]) (fun _ h=>nomatch h)) (by decide),?_⟩;rw[lN];clear e_e;by_cases u0:us=[]
  ·rw[u0];refine⟨_,rfl,Xg (hN _ _ ⟨_,_,_,_,_,_,_,_,_,xs,us,rfl,⟨ot.pen,ot.g,ot.e,ot.ta,ot.ok,by omega⟩⟩)⟩
  have up:0<us.length:=List.length_pos_iff.mpr u0;rw[show(us.map Th.D).isEmpty=false by cases us with | nil=>exact absurd rfl u0 | cons=>rfl];refine⟨_,rfl,U9 ?_⟩;refine⟨_,rfl,_,rfl,L,xs,rfl,.inl (SqL.of ot.e),a,_,rfl,ot.pen,by omega,by omega,fun at_ H5 y0 y1 hp g=>?_⟩;have ot:=ot.grw la hp g;clear hp g;obtain⟨j,rfl⟩:=Int.eq_ofNat_of_zero_le y0;have jl:j<xs.length:=by omega
  obtain⟨x,hx2⟩:∃x,xs[j]?=some x:=⟨_,AF jl⟩;have hx:=k9 hx2;obtain⟨c,t,rfl,ht,CJ⟩:=xi ot.ta hx2;have tm:=ot.ok t (z7 ht);have il:=(zM.mp ht).1;obtain⟨t0,t1,t2,t3⟩:=tm;refine⟨_,rfl,_,rfl,L,_,_,_,rfl,rfl,SqL.of ot.e,hx,c,_,rfl,SqT.of CJ,rfl,_,_,rfl,_,_,rfl,_,_,rfl,_,_,rfl,rfl,?_⟩;clear CJ hx hx2;refine⟨_,rfl,_,_,rfl,rfl,_,rfl,_,_,rfl,rfl,Xx rfl,_,_,rfl,rfl,Or.inr ⟨by decide,by decide⟩,_,_,rfl,rfl,?_⟩;refine⟨_,rfl,_,_,rfl,rfl,⟨by decide,by decide⟩,_,_,rfl,rfl,Or.inr ⟨by decide,by decide⟩,_,rfl,a,4,rfl,ot.pen,Xx rfl,ltI rfl,fun d2 H6 _ _ hp g=>⟨_,_,rfl,rfl,?_⟩⟩;have ot:=ot.grw la hp g;clear hp g;refine⟨_,rfl,_,rfl,_,_,rfl,rfl,⟨by omega,by omega,by decide⟩,a,_,rfl,ot.pen,by rw[AI];omega,by rw[AI];omega,fun d3 H7 _ _ hp g=>⟨leN rfl,fun nl yc=>?_⟩⟩;have ot:=ot.grw la hp g;clear hp g;generalize hz:upd _ nl _=H8;revert H8;refine blk ?_;intro H8 hz;obtain⟨ot,sr,nla⟩:=ot.lay la hz yc;clear hz yc;refine⟨_,rfl,_,rfl,a,3,rfl,ot.pen,Xx rfl,ltI rfl,fun d4 H9 z0 z1 hp g=>?_⟩;have sr:=Sw g nla sr;have ot:=ot.grw la hp g;clear hp g;obtain⟨v,hv,hm⟩:=at3 (x:=.int (t.num+1-t.num % 2*2)) (y:=.int (t.num / 4*4+d2)) (z:=.int d3) z0 z1;obtain⟨near,rfl⟩:∃n:Int,v=.int n:=by
   rcases hm with rfl | rfl | rfl <;> exact⟨_,rfl⟩
  refine⟨nl,_,_,_,rfl,rfl,SqL.of sr,hv,?_⟩;clear hv hm sr;refine⟨_,rfl,_,rfl,a,t.many,rfl,ot.pen,by omega,by omega,fun d5 H10 p0 p1 hp g=>⟨_,_,rfl,rfl,?_⟩⟩;have ot:=ot.grw la hp g;clear hp g;refine⟨_,rfl,_,rfl,_,rfl,_,rfl,_,rfl,_,_,rfl,rfl,leN rfl,fun c1 y9=>?_⟩;generalize hz:upd _ c1 _=H11;revert H11;refine blk ?_;intro H11 hz;obtain⟨ot,cH,c1a⟩:=ot.lay la hz y9;clear hz y9;refine⟨leN rfl,fun l1 wo=>?_⟩;have cH:=Z6 wo (.lst [.ref c1]) _ _ cH;generalize hz:upd _ l1 _=H12 at cH;obtain⟨ot,yY,l1a⟩:=ot.lay la hz wo;clear hz wo;refine⟨_,rfl,_,rfl,_,_,rfl,rfl,.inr ⟨_,rfl,?_⟩⟩;obtain⟨zs,ws,tsA,wl,ow,ez,k0,k1⟩:∃(zs:List V)(ws:List Th),(∀{G:Hp},G c1=some (.tup [.int t.day,.str t.word,.int t.num,.int (t.many-(1+d5))])→TsAt G zs ws)∧ws.length≤1∧(∀t∈ws,Thm t)∧(List.replicate (if decide (1+d5<t.many)=true then(1:Int)else 0).toNat [V.ref c1]).flatten=zs∧0≤(if decide (1+d5<t.many)=true then(1:Int)else 0)∧(if decide (1+d5<t.many)=true then(1:Int)else 0)≤1:=by
   by_cases q:1+d5<t.many
   ·rw[zP q];exact⟨[.ref c1],[⟨t.day,t.word,t.num,t.many-(1+d5)⟩],fun e=>.cons ⟨c1,rfl,e⟩ .nil,zD _,fun x hx=>by rw[zG.mp hx];exact⟨t0,by show 1≤t.many-(1+d5);omega,by show t.many-(1+d5)≤_;omega,t3⟩,rfl,by decide,by decide⟩
   ·rw[As q];exact⟨[],[],fun _=>.nil,by decide,(fun _ h=>nomatch h),rfl,by decide,by decide⟩
  have zl:∀{G:Hp},G c1=some (.tup [.int t.day,.str t.word,.int t.num,.int (t.many-(1+d5))])→zs.length≤1:=fun e=>by have:=zV (tsA e);omega
  generalize (if decide (1+d5<t.many)=true then(1:Int)else 0)=kk0 at ez k0 k1⊢;refine⟨l1,_,_,rfl,rfl,yY,by omega,by omega,Zl (by show 1*kk0.toNat≤_;omega),fun lf vE=>?_⟩;rw[ez];have cH:=Z6 vE (.lst zs) _ _ cH;generalize hz:upd _ lf _=H13 at cH;obtain⟨ot,jo,lfa⟩:=ot.lay la hz vE;clear hz vE yY;refine⟨_,rfl,_,rfl,_,rfl,_,rfl,_,_,rfl,rfl,⟨by omega,by omega,by decide⟩,_,_,rfl,rfl,by rw[AI];omega,_,rfl,leN rfl,fun c2 vJ=>?_⟩;have gz:=Z6 vJ (.tup [.int t.day,.str t.word,.int (near % (1*2^or.toNat)),.int (1+d5)]);have cH:=gz _ _ cH;have jo:=gz _ _ jo;clear gz;generalize hz:upd _ c2 _=H14 at cH jo;obtain⟨ot,jT,c2a⟩:=ot.lay la hz vJ;clear hz vJ;refine⟨leN rfl,fun l2 xu=>?_⟩;have gz:=Z6 xu (.lst [.ref c2]);have cH:=gz _ _ cH;have jo:=gz _ _ jo;have jT:=gz _ _ jT;clear gz;generalize hz:upd _ l2 _=H15 at cH jo jT;obtain⟨ot,fU,l2a⟩:=ot.lay la hz xu;clear hz xu;have zl:=zl cH;refine⟨_,rfl,l2,lf,_,_,rfl,rfl,fU,jo,Zl (by show 1+zs.length≤_;omega),fun b n_b=>?_⟩;have bL:L≠b:=fun z=>by have:=ot.e;rw[z,n_b]at this;cases this
  have gz:=Z6 n_b (.lst ([.ref c2]++zs));have cH:=gz _ _ cH;have jT:=gz _ _ jT;clear gz fU jo;generalize hz:upd _ b _=H16 at cH jT;obtain⟨ot,CG,ba⟩:=ot.lay la hz n_b;clear hz n_b;refine⟨_,rfl,_,rfl,_,rfl,_,rfl,_,_,rfl,rfl,_,rfl,L,b,xs,_,j,j+1,rfl,rfl,rfl,rfl,ot.e,CG,bL,by omega,by omega,Zl (by rw[zI,AY];omega),?_⟩;have nt:Thm ⟨t.day,t.word,near % (1*2^or.toNat),1+d5⟩:=⟨Ca _ (by rw[AI];omega),by show 1≤1+d5;omega,by show 1+d5≤_;omega,t3⟩;refine hN _ _ ⟨_,_,_,_,_,_,_,_,_,_,_,rfl,ot.put la n0 (by omega) (ws:=⟨t.day,t.word,near % (1*2^or.toNat),1+d5⟩::ws) (.cons ⟨c2,rfl,jT⟩ (tsA cH)) (fun x hx=>?_) (by rw[Ak];omega)⟩
  rcases zZ.mp hx with rfl | hx
  ·exact nt
  ·exact ow x hx
 ·rintro σ H3 ⟨o4,o5,o6,o7,o8,o9,o10,o11,o12,xs,us,rfl,ot⟩;have ul:=ot.len;refine⟨_,(Z7 (Zc (pv 3))),?_⟩;refine⟨_,rfl,hq L us H3 ot.ok (by omega) (.lst (by rw[Zg la];exact ot.e) ?_) ot.pen ot.g⟩;exact(ot.ta.tup fun c ys e=>ot.pen.tup e).dvs
abbrev sU(T:Addr)(H:Hp):Prop:=LamAt T (dD cr) qGT H
abbrev oe(T:Addr)(H:Hp):Prop:=LamAt T (dD cE) qPT H
section
variable{T T':Addr}{pos pos':PySem.Pos}{q q':Str}{H H':Hp}
theorem W9(h:LamAt T pos q H):(∀xs,H T≠some (.lst xs))∧(∀xs,H T≠some (.tup xs))∧H T≠none:=by
 refine⟨?_,?_,?_⟩
 ·rcases h.tab with e | ⟨_,e,_⟩ <;> (rw[e];exact fun _ z=>nomatch z)
 ·rcases h.tab with e | ⟨_,e,_⟩ <;> (rw[e];exact fun _ z=>nomatch z)
 ·rcases h.tab with e | ⟨_,e,_⟩ <;> (rw[e];exact fun z=>nomatch z)
theorem lZ(l:LamAt T pos q H)(l':LamAt T' pos' q' H)(ne:T≠T')(k:∀x o,H x=some o→(∀xs,o≠.lst xs)→x≠T'→H' x=some o):LamAt T pos q H':=by
 rcases l.tab with e | ⟨c,e,ec⟩
 ·exact⟨.inl (k _ _ e (fun _ z=>nomatch z) ne)⟩
 ·refine⟨.inr ⟨c,k _ _ e (fun _ z=>nomatch z) ne,k _ _ ec (fun _ z=>nomatch z) fun z=>?_⟩⟩
  rcases l'.tab with f | ⟨_,f,_⟩ <;> (rw[z,f]at ec;exact nomatch ec)
theorem iV(l:LamAt T pos q H)(k:∀x o,H x=some o→(∀xs,o≠.lst xs)→H' x=some o):LamAt T pos q H':=by
 rcases l.tab with e | ⟨c,e,ec⟩
 ·exact⟨.inl (k _ _ e fun _ z=>nomatch z)⟩
 ·exact⟨.inr ⟨c,k _ _ e (fun _ z=>nomatch z),k _ _ ec (fun _ z=>nomatch z)⟩⟩
end
def w3(a T1 T2:Addr)(H:Hp):Hp:=ao T2 (ao T1 (ao a H))
structure Wl(a T1 T2:Addr)(H:Hp):Prop where
 pen:PenAt H a
 l1:sU T1 H
 l2:oe T2 H
 ne:T1≠T2
section
variable{a T1 T2:Addr}{H H':Hp}
theorem S4{b:Addr}{o:HO}(h:w3 a T1 T2 H b=some o):b≠T2∧b≠T1∧b≠a∧H b=some o:=by
 obtain⟨h1,h⟩:=Zf h;obtain⟨h2,h⟩:=Zf h;obtain⟨h3,h⟩:=Zf h;exact⟨h1,h2,h3,h⟩
theorem Zt:Same (w3 a T1 T2 H) H:=fun _ _ h=>(S4 h).2.2.2
theorem xE:Same (w3 a T1 T2 H) (ao a H):=fun b o h=>by
 obtain⟨_,_,h3,h⟩:=S4 h;rw[Zg h3];exact h
theorem Oc{b:Addr}{o:HO}(h:H b=some o)(n1:b≠a)(n2:b≠T1)(n3:b≠T2):w3 a T1 T2 H b=some o:=by
 show ao T2 (ao T1 (ao a H)) b=some o;rw[Zg n3,Zg n2,Zg n1];exact h
theorem lv(k:Same (w3 a T1 T2 H) H'):Same (w3 a T1 T2 H) (w3 a T1 T2 H'):=fun b o h=>by
 obtain⟨h1,h2,h3,_⟩:=S4 h;exact Oc (k b o h) h3 h2 h1
theorem Wl.same(h:Wl a T1 T2 H)(g:Same H H'):Wl a T1 T2 H'∧Same (w3 a T1 T2 H) (w3 a T1 T2 H'):=⟨⟨h.pen.same g,h.l1.mono g,h.l2.mono g,h.ne⟩,lv fun b o e=>g _ _ (Zt _ _ e)⟩
theorem Wl.grw(h:Wl a T1 T2 H)(hp:PenAt H' a)(g:Grw a H H'):Wl a T1 T2 H'∧Same (w3 a T1 T2 H) (w3 a T1 T2 H'):=by
 obtain⟨_,_,_,ea⟩:=h.pen;have k:∀x o,H x=some o→(∀xs,o≠.lst xs)→H' x=some o:=fun x o e n=>(Zf (g x o (by rw[Zg (fun z=>by rw[z,ea]at e;exact n _ (Aa e).symm)];exact e))).2;refine⟨⟨hp,iV h.l1 k,iV h.l2 k,h.ne⟩,lv fun b o e=>?_⟩;exact(Zf (g b o (xE _ _ e))).2
theorem Wl.tt1(h:Wl a T1 T2 H)(g:Same (ao T1 H) (ao T1 H'))(l:sU T1 H'):Wl a T1 T2 H'∧Same (w3 a T1 T2 H) (w3 a T1 T2 H'):=by
 have k:∀x o,H x=some o→x≠T1→H' x=some o:=fun x o e n=>(Zf (g x o (by rw[Zg n];exact e))).2;obtain⟨p,q,r,ea⟩:=h.pen;refine⟨⟨⟨p,q,r,k _ _ ea fun z=>(W9 h.l1).1 _ (by rw[←z];exact ea)⟩,l,lZ h.l2 h.l1 (Ne.symm h.ne) fun x o e _ n=>k x o e n,h.ne⟩,lv fun b o e=>?_⟩;obtain⟨_,h2,_,e⟩:=S4 e;exact k b o e h2
theorem Wl.tt2(h:Wl a T1 T2 H)(g:Same (ao T2 H) (ao T2 H'))(l:oe T2 H'):Wl a T1 T2 H'∧Same (w3 a T1 T2 H) (w3 a T1 T2 H'):=by
 have k:∀x o,H x=some o→x≠T2→H' x=some o:=fun x o e n=>(Zf (g x o (by rw[Zg n];exact e))).2;obtain⟨p,q,r,ea⟩:=h.pen;refine⟨⟨⟨p,q,r,k _ _ ea fun z=>(W9 h.l2).1 _ (by rw[←z];exact ea)⟩,lZ h.l1 h.l2 h.ne fun x o e _ n=>k x o e n,l,h.ne⟩,lv fun b o e=>?_⟩;obtain⟨h1,_,_,e⟩:=S4 e;exact k b o e h1
theorem Wl.fresh(h:Wl a T1 T2 H){b:Addr}{H1:Hp}(n:H b=none)(s:Same H H1)(g:Grw b H1 H'):Wl a T1 T2 H'∧Same (w3 a T1 T2 H) (w3 a T1 T2 H'):=h.same fun x o e=>(Zf (g x o (by rw[Zg (fun z=>by rw[z,n]at e;exact nomatch e)];exact s _ _ e))).2
theorem Wl.ne3(h:Wl a T1 T2 H){b:Addr}(n:H b=none):b≠a∧b≠T1∧b≠T2:=by
 obtain⟨_,_,_,ea⟩:=h.pen;exact⟨fun z=>(by rw[z,ea]at n;exact nomatch n),fun z=>(W9 h.l1).2.2 (by rw[←z];exact n),fun z=>(W9 h.l2).2.2 (by rw[←z];exact n)⟩
theorem Wl.tup(h:Wl a T1 T2 H){b:Addr}{xs:List V}(e:H b=some (.tup xs)):w3 a T1 T2 H b=some (.tup xs):=by
 obtain⟨_,_,_,ea⟩:=h.pen;exact Oc e (Uh e ea (by intro z;cases z)) (fun z=>(W9 h.l1).2.1 xs (by rw[←z];exact e)) (fun z=>(W9 h.l2).2.1 xs (by rw[←z];exact e))
theorem Wl.lay(h:Wl a T1 T2 H){b:Addr}{o:HO}(e:upd H b o=H')(n:H b=none):Wl a T1 T2 H'∧Same (w3 a T1 T2 H) (w3 a T1 T2 H')∧w3 a T1 T2 H' b=some o:=by
 subst e;obtain⟨h1,h2⟩:=h.same (Z6 n o);obtain⟨n1,n2,n3⟩:=h.ne3 n;exact⟨h1,h2,Oc Z2 n1 n2 n3⟩
theorem Wl.dv(h:Wl a T1 T2 H){v:V}{d:PyData}(e:DV (ao a H) v d):DV (w3 a T1 T2 H) v d:=by
 have e1:DV (ao T1 (ao a H)) v d:=V7 (fun xs z=>(W9 h.l1).1 xs (Zf z).2) (fun xs z=>(W9 h.l1).2.1 xs (Zf z).2) e;exact V7 (fun xs z=>(W9 h.l2).1 xs (Zf (Zf z).2).2) (fun xs z=>(W9 h.l2).2.1 xs (Zf (Zf z).2).2) e1
theorem Wl.lad(h:Wl a T1 T2 H){q:Addr}{Cz or total:Int}{ps:Sps}(l:LadAt H q Cz or total ps):LadAt (w3 a T1 T2 H) q Cz or total ps:=by
 obtain⟨c,as,e1,e2,r⟩:=l.at_;exact⟨c,as,h.tup e1,h.tup e2,Paired.mapP r fun _ _ ⟨y,f1,f2⟩=>⟨y,h.tup f1,h.tup f2⟩⟩
theorem Wl.lst(h:Wl a T1 T2 H){b:Addr}{xs:List V}(e:H b=some (.lst xs))(n:b≠a):w3 a T1 T2 H b=some (.lst xs):=Oc e n (fun z=>(W9 h.l1).1 _ (by rw[←z];exact e)) (fun z=>(W9 h.l2).1 _ (by rw[←z];exact e))
theorem Wl.str(h:Wl a T1 T2 H){r:Addr}{ts:List Th}(n:r≠a)(d:DV H (.ref r) (aS ts)):DV (w3 a T1 T2 H) (.ref r) (aS ts):=by
 obtain⟨_,xs,e0,e,q⟩:=DV.list_inv d;cases e0;exact .lst (h.lst e n) ((TsAt.of q).tup fun c ys e=>h.tup e).dvs
end
theorem Pm{Cz or:Int}(d0:0≤or):∀{t:Tr},(∀s∈t.streams,∀x∈s,ThL or x)→Lok Cz or (glT Cz or t)∧ag (glT Cz or t)=aK t.all∧(glT Cz or t).length≤t.all.length
 |.leaf ts,h=>Qd d0 (h ts (.head _))
 |.node l r,h=>by
  obtain⟨a1,a2,a3⟩:=Pm (Cz:=Cz) d0 (t:=l) fun s hs=>h s (Ai _ hs);obtain⟨b1,b2,b3⟩:=Pm (Cz:=Cz) d0 (t:=r) fun s hs=>h s (zR _ hs);obtain⟨c1,c2,c3⟩:=U6 (Cz:=Cz) a1.pok b1.pok;refine⟨c1,?_,?_⟩
  ·show ag (aO Cz or (glT Cz or l) (glT Cz or r))=aK (l.all++r.all);rw[c2,a2,b2];unfold aK;rw[zW,Bj]
  ·show(aO Cz or (glT Cz or l) (glT Cz or r)).length≤(l.all++r.all).length;rw[zI];omega
def rE:Sp:=fun vs H Q _=>∃(a:Addr),vs=[.ref a]∧PenAt H a∧∀(m:Int)(H':Hp),1≤m→m≤20→PenAt H' a→Grw a H H'→Q (.int m) H'
def lc(K:W.Frag)(T1 T2:Addr):Sp:=fun vs H Q _=>∃(a:Addr)(ns:List Int),vs=[.ref a]∧SqL K H a (ns.map V.int)∧ns.length≤63∧sU T1 H∧oe T2 H∧∀H',Q (.bl true) H'
theorem Yz{K:W.Frag}{H H':Hp}{a:Addr}{xs:List V}(s:Same H H')(h:SqL K H a xs):SqL K H' a xs:=by
 rcases h with h | h
 ·rcases h with h | ⟨o,h⟩
  ·exact .inl (.inl (s _ _ h))
  ·exact .inl (.inr ⟨o,s _ _ h⟩)
 ·exact .inr h
theorem gH:∀{t:Tr},t.Ok→∀x∈t.all,x.Ok
 |.leaf _,h,x,hx=>h x hx
 |.node _ _,h,x,hx=>(zT.mp hx).elim (gH h.1 x) (gH h.2 x)
theorem Xm{p:Th→Prop}:∀{t:Tr},(∀x∈t.all,p x)→∀s∈t.streams,∀x∈s,p x
 |.leaf ts,h,s,hs,x,hx=>by rw[zG.mp hs]at hx;exact h x hx
 |.node l r,h,s,hs,x,hx=>by
  rcases zT.mp (show s∈l.streams++r.streams from hs)with z | z
  ·exact Xm (t:=l) (fun y hy=>h y (Ai _ hy)) s z x hx
  ·exact Xm (t:=r) (fun y hy=>h y (zR _ hy)) s z x hx
theorem xf{K:W.Frag}{a T1 T2 S:Addr}{xs:List V}{H H1:Hp}(h:SqL K H S xs)(l1:sU T1 H)(l2:oe T2 H)(n:H a=none)(s:Same H H1):SqL K (w3 a T1 T2 H1) S xs:=by
 rcases h with(e | ⟨o,e⟩) | e
 ·refine .inl (.inl (Oc (s _ _ e) (fun z=>by rw[z,n]at e;cases e) (fun z=>(W9 l1).1 _ (by rw[←z];exact e)) (fun z=>(W9 l2).1 _ (by rw[←z];exact e))))
 ·refine .inl (.inr ⟨o,Oc (s _ _ e) (fun z=>by rw[z,n]at e;cases e) (fun z=>?_) (fun z=>?_)⟩)
  ·rcases l1.tab with f | ⟨_,f,_⟩ <;> (rw[z,f]at e;cases e)
  ·rcases l2.tab with f | ⟨_,f,_⟩ <;> (rw[z,f]at e;cases e)
 ·exact .inr e
theorem l7{a:Addr}{H:Hp}(h:PenAt H a):∀{ts:List Th}{xs:List V},DVs H xs (ts.map Th.D)→DVs (ao a H) xs (ts.map Th.D)
 | [],xs,d=>by
  have:=DVs.nil_inv d;subst this;exact .nil
 |t::ts,xs,d=>by
  obtain⟨x,r,rfl,_,d2⟩:=DVs.cons_inv d;obtain⟨t',c,ht,rfl,e,_⟩:=DVs.th_at (i:=0) d rfl;cases ht;exact .cons (Th.dv (h.tup e)) (l7 h d2)
theorem gf{a:Addr}{H:Hp}(h:PenAt H a):∀{t:Tr}{v:V},DV H v t.D→DV (ao a H) v t.D
 |.leaf ts,v,d=>by
  obtain⟨b,xs,rfl,eb,qb⟩:=DV.list_inv d;have ne:b≠a:=fun z=>by
   obtain⟨p,q,r,ea⟩:=h;rw[z,ea]at eb;cases eb;obtain⟨_,_,_,e,_⟩:=DVs.th_at (i:=0) qb rfl;cases e
  exact .lst (by rw[Zg ne];exact eb) (l7 h qb)
 |.node l r,v,d=>by
  obtain⟨b,xs,rfl,e,q⟩:=DV.tup_inv d;obtain⟨m,r1,rfl,hm,q1⟩:=q.cons_inv;obtain⟨x,r2,rfl,hx,q2⟩:=q1.cons_inv;obtain⟨y,r3,rfl,hy,q3⟩:=q2.cons_inv;have:=q3.nil_inv;subst this;cases hm;exact .tup (h.tup e) (.cons (.str _) (.cons (gf h hx) (.cons (gf h hy) .nil)))
theorem xB(Cz or:Int):∀(us:List Th)(a:Sps×Sps),(us.foldl (nh Cz or) a).1=us.foldl (fun a t=>aO Cz or a (thL Cz or t)) a.1:=by
 intro us
 induction us with
 |nil=>intro a;rfl
 |cons u us ih=>
  intro a;rw[BA,BA,ih];rfl
theorem wV(Cz or:Int):∀t:Tr,(ldT Cz or t).1=glT Cz or t:=by
 intro t
 induction t with
 |leaf ts=>exact xB Cz or ts ([],[])
 |node l r hl hr=>
  show aO Cz or (ldT Cz or l).1 (ldT Cz or r).1=aO Cz or (glT Cz or l) (glT Cz or r);rw[hl,hr]
theorem u6:PyData.strOk "a"=true:=by decide +kernel
theorem sG{or:Int}{ts:List Th}(h:∀x∈ts,ThL or x):∀t∈ts,0≤t.num∧1≤t.many:=fun t ht=>⟨(h t ht).1,(h t ht).2.2⟩
def xV(U:Addr):Sp:=fun vs H Q _=>∃(v:V)(q:Addr)(Cz or:Int)(t:Tr),vs=[.int Cz,.int or,v,.ref q]∧1≤Cz∧Cz≤20∧0≤or∧or≤10∧DV H v t.D∧t.size≤20∧t.ht≤20∧(∀x∈t.all,ThL or x)∧t.all.length≤50∧LadAt H q Cz or (ag (glT Cz or t)) (glT Cz or t)∧oe U H∧
 ∀H',Same (ao U H) (ao U H')→oe U H'→Q (.bl true) H'
theorem sW(aj:Has P w K mg base "_law_draw" 1 ["_law_pen_here","_law_size"] b_)(F:Fun K "_law_room" "_law_room" eI f fd):FnOk P w K mg base CX0 2 f fd ["_law_pen_here"] rE:=by
 refine F.ok nA (fun vs H Q E h=>?_) (fun cdv A outer s H vs Q E hr h=>?_)
 ·obtain⟨a,rfl,_⟩:=h;rfl
 obtain⟨a,rfl,hp,hq⟩:=h;refine⟨_,(Z7 (Zc (Xb T8 (Yl (Z0 Z5 (Z0 Z5 (Z0 Z5 (Z0 (Ze Zu Z5 (Z4 aj hr (Z0 (pv 0) (Z0 Z5 Z1)))) Z1))))) (Z4 aj hr (Z0 (pv 0) (Z0 Z5 Z1)))))),?_⟩;refine⟨_,rfl,a,20,rfl,hp,Xx rfl,ltI rfl,fun d1 H1 x0 x1 hp1 g1=>⟨_,_,rfl,rfl,?_⟩⟩;have x1:d1<20:=x1;refine⟨leN rfl,fun p hn=>⟨_,rfl,a,4,rfl,hp1.laid hn,Xx rfl,ltI rfl,fun d2 H2 y0 y1 hp2 g2=>?_⟩⟩;have hpa:=hp1.ne hn;have e2:H2 p=some (.lst [.int 1,.int 2,.int 3,.int (1+d1)]):=Sw g2 hpa Z2;obtain⟨v,hv,hm⟩:=f9 (xs:=[V.int 1,.int 2,.int 3,.int (1+d1)]) y0 y1;refine⟨p,_,_,v,rfl,rfl,SqL.of e2,hv,?_⟩;have gg:=g1.trans ((X5 hn).trans g2);simp only[List.mem_cons,List.not_mem_nil,or_false]at hm
 rcases hm with rfl | rfl | rfl | rfl
 ·exact hq _ _ (by decide) (by decide) hp2 gg
 ·exact hq _ _ (by decide) (by decide) hp2 gg
 ·exact hq _ _ (by decide) (by decide) hp2 gg
 ·exact hq _ _ (by omega) (by omega) hp2 gg
theorem zo{U:Addr}(eE:Has P w K mg base "ladder_paper" 10 ["room","deep","tree"] (yC U))(cA:Has P w K mg base "stream_of" 3 ["tree"] c7)(bw:Has P w K mg base "is_folded" 5 ["stream","ladder","paper"] di)(F:Fun K "_law_tree_shown" "_law_tree_shown" bR f fd):FnOk P w K mg base CX0 11 f fd ["_law_room_here","_law_deep","_law_tree_here","_law_ladder"] (xV U):=by
 refine F.ok Ug (fun vs H Q E h=>?_) (fun cdv A outer s H vs Q E hr h=>?_)
 ·obtain⟨v,q,Cz,or,t,rfl,_⟩:=h;rfl
 obtain⟨v,q,Cz,or,t,rfl,r0,r1,d0,d1,dv,tsz,tht,ta,tl,lad,lam,hq⟩:=h;refine⟨_,(Z3 (Zy 4 Ug.nd rfl (Or.inl rfl) (Z4 eE hr (Z0 (pv 0) (Z0 (pv 1) (Z0 (pv 2) Z1))))) Zb),?_⟩;refine⟨_,rfl,_,rfl,_,rfl,v,Cz,or,t,rfl,r0,r1,d0,by omega,dv,by omega,Xm ta,by omega,lam,fun l H1 g1 l1 nl pp=>?_⟩;have dv:=((V7 (W9 lam).1 (W9 lam).2.1 dv).mono g1).mono Yi;have lad:LadAt H1 q Cz or (ag (glT Cz or t)) (glT Cz or t):=by
  obtain⟨c,as,e1,e2,r⟩:=lad.at_;have tp:∀{b:Addr}{ys:List V},H b=some (.tup ys)→H1 b=some (.tup ys):=fun{b ys} e=>(Zf (g1 b _ (by rw[Zg (fun z=>(W9 lam).2.1 _ (by rw[←z];exact e))];exact e))).2;exact⟨c,as,tp e1,tp e2,Paired.mapP r fun _ _ ⟨y,f1,f2⟩=>⟨y,tp f1,tp f2⟩⟩
 have ok:=rG (Cz:=Cz) d0 (show or≤20 by omega) ta;have due:=wc ok;have fe:=wV Cz or t;have lf:=ok.few;have ln:=ok.len;rw[←Qg (sG ta) ok.lok.pok.kok.nd,fe]at due;have nd:=ok.lok.pok.kok.nd;rw[fe]at nd ln;refine⟨_,(Z7 (Zc (Xz vH (Z4 bw hr (Z0 (Z4 cA hr (Z0 (pv 2) Z1)) (Z0 (pv 3) (Z0 (pv 4) Z1)))) Xn (Zh _)))),?_⟩;refine⟨_,rfl,v,t,rfl,dv,by omega,by omega,by omega,fun r xs H2 g2 n_r e_r ds=>?_⟩;refine⟨_,rfl,_,rfl,r,q,l,t.all,Cz,or,_,_,_,rfl,.lst e_r ds,by omega,lad.mono g2,nd,by omega,d0,by omega,pp.mono g2,by omega,fun H3 g3=>?_⟩;rw[due];refine⟨true,rfl,rfl,hq _ (fun b u e=>?_) (l1.mono (g2.trans g3))⟩;obtain⟨n,e1⟩:=Zf (g1 b u e);rw[Zg n];exact g3 _ _ (g2 _ _ e1)
theorem xw{T1 T2:Addr}(nT:T1≠T2)(eA:Has P w K mg base "_law_pen" 1 ["_law_script","_law_k"] (vi K))(aj:Has P w K mg base "_law_draw" 1 ["_law_pen_here","_law_size"] b_)(rU:Has P w K mg base "_law_room" 2 ["_law_pen_here"] rE)(cw:Has P w K mg base "_law_tree" 8 ["_law_pen_here","_law_marks","_law_deep","_law_most","_law_parts"] (gk 4))(cA:Has P w K mg base "stream_of" 3 ["tree"] c7)(bH:Has P w K mg base "grown_ladder" 10 ["room","deep","tree"] (xM T1))(cy:Has P w K mg base "_law_tree_shown" 11 ["_law_room_here","_law_deep","_law_tree_here","_law_ladder"] (xV T2))(rW:Has P w K mg base "lowest" 4 ["ladder"] (mh qT))(nQ:Has P w K mg base "highest" 4 ["ladder"] (mh hW))(cP:Has P w K mg base "_law_right" 8 ["_law_stream_here","_law_ladder"] ve)(bd:Has P w K mg base "paper_for" 6 ["stream","ladder"] si)(ol:Has P w K mg base "_law_other" 2 ["_law_pen_here","_law_deep","_law_stream_here"] u9)(aN:mg "range"=none)(dm:mg "int"=none)(F:Fun K "law" "law" de f fd):FnOk P w K mg base CX0 20 f fd ["_law_script"] (lc K T1 T2):=by
 refine F.ok Xv (fun vs H Q E h=>?_) (fun cdv A outer s H vs Q E hr h=>?_)
 ·obtain⟨a,ns,rfl,_⟩:=h;rfl
 obtain⟨S,ns,rfl,hS,h63,lam1,lam2,hq⟩:=h;refine⟨_,(Z3 (Zy 1 Xv.nd rfl (Or.inl rfl) (Z4 eA hr (Z0 (pv 0) (Z0 Z5 Z1)))) Zb),?_⟩;refine⟨_,rfl,S,ns,0,rfl,hS,by omega,fun a H1 na s1 hp=>?_⟩;have wl:Wl a T1 T2 H1:=⟨hp,lam1.mono s1,lam2.mono s1,nT⟩;have hS:=xf hS lam1 lam2 na s1;clear hp lam1 lam2 s1 na;refine⟨_,(Z3 (Zy 2 Xv.nd rfl (Or.inl rfl) (Xb T8 (Yl (Z0 (Ze Zu Z5 (Z4 aj hr (Z0 (pv 1) (Z0 Z5 Z1)))) (Z0 Z5 Z1))) (Y9 N3 rfl dm PyProof.Rows.boot_int (Z0 (Xz Sj (Z4 aj hr (Z0 (pv 1) (Z0 Z5 Z1))) Z5 (Zh _)) Z1)))) Zb),?_⟩;refine⟨_,rfl,a,5,rfl,wl.pen,Xx rfl,ltI rfl,fun x1 H2 x10 x11 hp g2=>⟨_,_,rfl,rfl,leN rfl,fun dl ndl=>?_⟩⟩;obtain⟨wl,sm⟩:=wl.grw hp g2;have hS:=Yz sm hS;clear sm hp g2;generalize hz:upd _ dl _=H3;revert H3;refine blk ?_;intro H3 hz;obtain⟨wl,sm,uh⟩:=wl.lay hz ndl;have hS:=Yz sm hS;clear sm hz ndl;refine⟨_,rfl,a,8,rfl,wl.pen,Xx rfl,ltI rfl,fun x2 H4 x20 x21 hp g4=>⟨rfl,.inr ⟨_,rfl,?_⟩⟩⟩;obtain⟨wl,sm⟩:=wl.grw hp g4;have hS:=Yz sm hS;have uh:=sm _ _ uh;clear sm hp g4;have x11:x1<5:=x11;obtain⟨or,hdp,d0,d1⟩:∃or:Int,atI [V.int (1+x1),.int 10] (if decide (V.int x2=V.int 3)=true then(1:Int)else 0)=some (.int or)∧1≤or∧or≤10:=by
  by_cases q:decide (V.int x2=V.int 3)=true
  ·exact⟨10,by rw[zE q];rfl,by decide,by decide⟩
  ·exact⟨1+x1,by rw[pi q];rfl,by omega,by omega⟩
 refine⟨dl,_,_,_,rfl,rfl,SqL.of (Zt _ _ uh),hdp,?_⟩;clear uh hdp;have tw2:=R6 (m:=or) d1;refine⟨_,(Z3 (Zy 3 Xv.nd rfl (Or.inl rfl) (Z4 rU hr (Z0 (pv 1) Z1))) Zb),?_⟩;refine⟨_,rfl,a,rfl,wl.pen,fun Cz H5 r0 r1 hp g5=>?_⟩;obtain⟨wl,sm⟩:=wl.grw hp g5;have hS:=Yz sm hS;clear sm hp g5;refine⟨_,(Z3 (Zy 4 Xv.nd rfl (Or.inl rfl) (Z4 cw hr (Z0 (Z4 eA hr (Z0 (pv 0) (Z0 Z5 Z1))) (Z0 Z5 (Z0 (pv 2) (Z0 Z5 (Z0 Z5 Z1))))))) Zb),?_⟩;refine⟨_,rfl,S,ns,1,rfl,Yz Zt hS,by omega,fun b H7 nb s7 hpb=>?_⟩;refine⟨_,rfl,b,4,or,7,4,rfl,hpb,by decide,by decide,by omega,by omega,by decide,by decide,by decide,by decide,by decide,fun v t H8 tok tkk tsz tht tal dv _ g8=>?_⟩;obtain⟨wl,sm⟩:=wl.fresh nb s7 g8;have hS:=Yz sm hS;have dv:=wl.dv (gf wl.pen (dv.mono Yi));clear sm nb s7 hpb g8;have tok:=gH tok;have tl:t.all.length≤28:=by omega
 have ta:∀x∈t.all,ThL or x:=fun x hx=>⟨(tok x hx).num,tkk x hx,(tok x hx).many⟩;have thm:∀x∈t.all,Thm x:=fun x hx=>⟨(tok x hx).num,(tok x hx).many,(tok x hx).manyU,p5 _ (tok x hx).word⟩;have tw:=Xm ta;have ts9:t.size≤7:=by omega
 have th9:t.ht<4:=by omega
 clear tsz tht tal tkk tok;refine⟨_,(Z3 (Zy 5 Xv.nd rfl (Or.inl rfl) (Z4 cA hr (Z0 (pv 4) Z1))) Zb),?_⟩;refine⟨_,rfl,v,t,rfl,dv.mono Zt,by omega,by omega,by omega,fun r xs H9 g9 n_r e_r ds=>?_⟩;have ra:=(wl.ne3 n_r).1;obtain⟨wl,sm⟩:=wl.same g9;have hS:=Yz sm hS;have dv:=dv.mono sm;have k_r:=wl.str ra (.lst e_r ds);clear sm g9 n_r e_r ds;obtain⟨go,gs,gl⟩:=Pm (Cz:=Cz) (by omega) tw;have dom:=(ww (Cz:=Cz) (by omega) tw).1;refine⟨_,(Z3 (Zy 6 Xv.nd rfl (Or.inl rfl) (Z4 bH hr (Z0 (pv 3) (Z0 (pv 2) (Z0 (pv 4) Z1))))) Zb),?_⟩;refine⟨_,rfl,_,rfl,_,rfl,v,Cz,or,t,rfl,r0,r1,by omega,by omega,dv.mono Zt,by omega,tw,by omega,wl.l1,fun q H10 g10 l10 lad=>?_⟩;obtain⟨wl,sm⟩:=wl.tt1 g10 l10;have hS:=Yz sm hS;have dv:=dv.mono sm;have k_r:=k_r.mono sm;have lad:=wl.lad lad;clear sm g10 l10;refine⟨_,(Z3 (Zy 7 Xv.nd rfl (Or.inl rfl) (Z4 aj hr (Z0 (pv 1) (Z0 Z5 Z1)))) Zb),?_⟩;refine⟨_,rfl,a,2,rfl,wl.pen,Xx rfl,ltI rfl,fun fst H11 _ _ hp g11=>?_⟩;obtain⟨wl,sm⟩:=wl.grw hp g11;obtain⟨G,gG,hS,dv,k_r,lad⟩:∃G:Hp,Same G (w3 a T1 T2 H11)∧SqL K G S (ns.map V.int)∧DV G v t.D∧DV G (.ref r) (aS t.all)∧LadAt G q Cz or (ag (glT Cz or t)) (glT Cz or t):=⟨_,Same.refl _,Yz sm hS,dv.mono sm,k_r.mono sm,lad.mono sm⟩;clear sm hp g11;have pok:=go.pok;refine⟨_,(Z3 (Y8 (PW.pt (kg (Zi Sj (pv 7) Z5 (Zh _)) (gh (Vd (Wd (Z4 cy hr (Z0 (pv 3) (Z0 (pv 2) (Z0 (pv 4) (Z0 (pv 6) Z1)))))))))) (Z7 (Zc Xn)) Zr) Zb),?_⟩;refine Sa (fun σ H'=>σ=[some (.ref S),some (.ref a),some (.int or),some (.int Cz),some v,some (.ref r),some (.ref q),some (.int fst),none,none,none,none,none]∧Wl a T1 T2 H'∧Same G (w3 a T1 T2 H')) (fun nx hnx=>?_) ?_
 ·refine⟨_,rfl,rfl,_,rfl,Xh (fun c=>?_) (fun c=>Xg (hnx _ _ ⟨rfl,wl,gG⟩))⟩;refine⟨_,rfl,_,rfl,_,rfl,_,rfl,v,q,Cz,or,t,rfl,r0,r1,by omega,d1,(dv.mono gG).mono Zt,by omega,by omega,ta,by omega,(lad.mono gG).mono Zt,wl.l2,fun H2 g2 l2=>⟨_,rfl,Xg ?_⟩⟩;obtain⟨wl,sm⟩:=wl.tt2 g2 l2;exact hnx _ _ ⟨rfl,wl,gG.trans sm⟩
 clear wl gG;rintro σ H12 ⟨rfl,wl,gG⟩;refine⟨_,(Z3 (X8 Ao rfl (Yw (Yl (Z0 (pv 5) (Z0 (Z4 rW hr (Z0 (pv 6) Z1)) (Z0 (Z4 nQ hr (Z0 (pv 6) Z1)) Z1))))) (Z9 (i:=8) Xv.nd rfl (Or.inl rfl))
 (Z7 (Y8 (PW.pt (V3 (Vd (Wd (Z4 cP hr (Z0 (pv 8) (Z0 (pv 6) Z1))))) (Vc (Zi P6 (Z4 bd hr (Z0 (pv 8) (Z0 (pv 6) Z1))) W1 (Zh _))))) (Z7 (Zc Xn)) Zr))) Zb),?_⟩
 have sts:Sts (glT Cz or t):=Kok.sts pok.kok d1;refine⟨_,rfl,_,rfl,q,Cz,or,_,_,rfl,(lad.mono gG).mono Zt,sts,by omega,fun rl H13 yT g13 k_rl=>?_⟩;have rla:=(wl.ne3 yT).1;obtain⟨wl,sm⟩:=wl.same g13;have gG:=gG.trans sm;have k_rl:=wl.str rla k_rl;clear sm g13 yT;refine⟨_,rfl,q,Cz,or,_,_,rfl,(lad.mono gG).mono Zt,sts,by omega,fun rh H14 yM g14 k_rh=>⟨leN rfl,fun ll x8=>?_⟩⟩;have rha:=(wl.ne3 yM).1;obtain⟨wl,sm⟩:=wl.same g14;have gG:=gG.trans sm;have k_rl:=k_rl.mono sm;have k_rh:=wl.str rha k_rh;clear sm g14 yM;generalize hz:upd _ ll _=H15;revert H15;refine blk ?_;intro H15 hz;obtain⟨wl,sm,vZ⟩:=wl.lay hz x8;have gG:=gG.trans sm;have k_rl:=k_rl.mono sm;have k_rh:=k_rh.mono sm;clear sm hz x8;refine⟨ll,rfl,⟨_,SqL.of (Zt _ _ vZ)⟩,?_⟩;have each:∀x∈[V.ref r,.ref rl,.ref rh],∃(r':Addr)(us:List Th),x=.ref r'∧DV (w3 a T1 T2 H15) (.ref r') (aS us)∧us.length≤60∧(∀t∈us,Tho t)∧(∀t∈us,t.num<2^or.toNat)∧Can (glT Cz or t) (eV us):=by
  have at_:∀(f:Int×Int→Int),(∀k:Int×Int,aE k≤f k∧f k≤aD k)→(dt ((glT Cz or t).map fun p=>(f p.1,p.2))).length≤60∧(∀x∈dt ((glT Cz or t).map fun p=>(f p.1,p.2)),Tho x)∧(∀x∈dt ((glT Cz or t).map fun p=>(f p.1,p.2)),x.num<2^or.toNat)∧Can (glT Cz or t) (eV (dt ((glT Cz or t).map fun p=>(f p.1,p.2)))):=fun f hf=>by
   have o:=wR pok fun p _=>hf p.1;refine⟨by unfold dt;rw[az,az];omega,fun x hx=>?_,fun x hx=>(o x hx).2.1,fY (wO pok fun p _=>hf p.1)⟩;obtain⟨a1,a2,a3,a4⟩:=o x hx;exact⟨a1,a3,by rw[a4];exact u6⟩
  have fl:∀k:Int×Int,aE k≤aD k:=fun k=>by
   have A:=Yd k.1.toNat;unfold aE aD;rw[By];omega
  intro x hx;simp only[List.mem_cons,List.not_mem_nil,or_false]at hx
  rcases hx with rfl | rfl | rfl
  ·exact⟨r,t.all,rfl,k_r.mono gG,by omega,S5 thm,fun x hx=>(ta x hx).2.1,fY dom⟩
  ·obtain⟨c1,c2,c3,c4⟩:=at_ aE fun k=>⟨Ah _,fl k⟩;exact⟨rl,_,rfl,k_rl,c1,c2,c3,c4⟩
  ·obtain⟨c1,c2,c3,c4⟩:=at_ aD fun k=>⟨fl k,Ah _⟩;exact⟨rh,_,rfl,k_rh,c1,c2,c3,c4⟩
 have lad15:=lad.mono gG;refine Xs (xs:=[V.ref r,.ref rl,.ref rh]) (fun i σ H'=>∃o8:Option V,σ=[some (.ref S),some (.ref a),some (.int or),some (.int Cz),some v,some (.ref r),some (.ref q),some (.int fst),o8,none,none,none,none]∧Wl a T1 T2 H'∧Same (w3 a T1 T2 H15) (w3 a T1 T2 H')) ⟨_,rfl,wl,Same.refl _⟩ ?_ ?_ ?_
 ·rintro i σ H' _ ⟨_,_,_,g⟩;exact SqL.of (Zt _ _ (g _ _ vZ))
 ·clear wl;rintro i x σ H' N B1 R hN hR hx ⟨o8,rfl,wl,g⟩;obtain⟨r',us,rfl,k,ul,tho,inn,can⟩:=each x (z7 hx);refine⟨_,rfl,_,rfl,r',q,us,Cz,or,_,rfl,(k.mono g).mono Zt,by omega,(lad15.mono g).mono Zt,pok,by omega,by omega,d1,tho,fun H16 g16=>⟨_,rfl,Xg ?_⟩⟩;obtain⟨wl,sm⟩:=wl.same g16;have g:=g.trans sm;clear sm g16;refine⟨_,rfl,_,rfl,r',q,us,Cz,or,_,rfl,(k.mono g).mono Zt,by omega,(lad15.mono g).mono Zt,pok,by omega,by omega,by omega,fun x hx=>⟨(tho x hx).1,(tho x hx).2.1⟩,fun no _ _=>absurd ⟨inn,can⟩ no,fun _ p H17 _ g17 _=>⟨rfl,_,rfl,Xg ?_⟩⟩;obtain⟨wl,sm⟩:=wl.same g17;exact hN _ _ ⟨_,rfl,wl,g.trans sm⟩
 clear wl;rintro σ H18 ⟨o8,rfl,wl,g⟩;have gG:=gG.trans g;clear g lad15 each k_rl k_rh vZ;refine⟨_,(Z3 (X8 Ao rfl (Uz rfl aN (Z0 Z5 Z1)) (Z9 (i:=9) Xv.nd rfl (Or.inl rfl))
 (Z7 (Y8 (Vd (Wd (Z4 cP hr (Z0 (Z4 ol hr (Z0 (Z4 eA hr (Z0 (pv 0) (Z0 (Ze Zu Z5 (pv 9)) Z1))) (Z0 (pv 2) (Z0 (pv 5) Z1)))) (Z0 (pv 6) Z1))))) (Z7 (Zc Xn)) Zr))) Zb),?_⟩
 refine⟨4,rfl,leI rfl,ltI rfl,?_⟩;refine Ua (lo:=0) (n:=4) (fun i σ H'=>∃o9:Option V,σ=[some (.ref S),some (.ref a),some (.int or),some (.int Cz),some v,some (.ref r),some (.ref q),some (.int fst),o8,o9,none,none,none]∧Wl a T1 T2 H'∧Same G (w3 a T1 T2 H')) ⟨_,rfl,wl,gG⟩ ?_ ?_
 ·clear wl gG;rintro i σ H19 N B1 R hN hR hi ⟨o9,rfl,wl,gG⟩;refine⟨_,rfl,_,rfl,_,_,rfl,rfl,S,ns,_,rfl,Yz Zt (Yz gG hS),by omega,fun b H20 nb s20 hpb=>?_⟩;have sb:Same G (ao b H20):=fun x u e=>by
   have e1:=Zt _ _ (gG _ _ e);rw[Zg (Zd e1 nb)];exact s20 _ _ e1
  refine⟨_,rfl,_,rfl,b,r,or,t.all,rfl,hpb,k_r.mono sb,by omega,by omega,d1,thm,fun L us H21 um ul dL _ g21=>?_⟩;obtain⟨wl,sm⟩:=wl.fresh nb s20 g21;have gG:=gG.trans sm;clear sm nb s20 hpb g21 sb;refine⟨_,rfl,L,q,us,Cz,or,_,rfl,dL.mono Yi,by omega,(lad.mono gG).mono Zt,pok,by omega,by omega,d1,S5 um,fun H22 g22=>⟨_,rfl,Xg ?_⟩⟩;obtain⟨wl,sm⟩:=wl.same g22;exact hN _ _ ⟨_,rfl,wl,gG.trans sm⟩
 clear wl gG;rintro σ H23 ⟨o9,rfl,wl,gG⟩;refine⟨_,(Z3 (Zy 10 Xv.nd rfl (Or.inl rfl) (Z4 cw hr (Z0 (Z4 eA hr (Z0 (pv 0) (Z0 Z5 Z1))) (Z0 Z5 (Z0 (pv 2) (Z0 Z5 (Z0 Z5 Z1))))))) Zb),?_⟩;refine⟨_,rfl,S,ns,2,rfl,Yz Zt (Yz gG hS),by omega,fun b H24 nb s24 hpb=>?_⟩;refine⟨_,rfl,b,4,or,7,4,rfl,hpb,by decide,by decide,by omega,by omega,by decide,by decide,by decide,by decide,by decide,fun v2 t2 H25 tok2 tkk2 tsz2 tht2 tal2 dv2 _ g25=>?_⟩;obtain⟨wl,sm⟩:=wl.fresh nb s24 g25;have gG:=gG.trans sm;have dv2:=wl.dv (gf wl.pen (dv2.mono Yi));clear sm nb s24 hpb g25 hS;have tok2:=gH tok2;have tl2:t2.all.length≤28:=by omega
 have ta2:∀x∈t2.all,ThL or x:=fun x hx=>⟨(tok2 x hx).num,tkk2 x hx,(tok2 x hx).many⟩;have tw3:=Xm ta2;have sz2:t2.size≤7:=by omega
 clear tsz2 tht2 tal2 tkk2 tok2;obtain⟨go2,gs2,gl2⟩:=Pm (Cz:=Cz) (by omega) tw3;refine⟨_,(Z3 (Zy 11 Xv.nd rfl (Or.inl rfl) (Z4 bH hr (Z0 (pv 3) (Z0 (pv 2) (Z0 (pv 10) Z1))))) Zb),?_⟩;refine⟨_,rfl,_,rfl,_,rfl,v2,Cz,or,t2,rfl,r0,r1,by omega,by omega,dv2.mono Zt,by omega,tw3,by omega,wl.l1,fun q2 H26 g26 l26 lad2=>?_⟩;obtain⟨wl,sm⟩:=wl.tt1 g26 l26;have gG:=gG.trans sm;have dv2:=dv2.mono sm;have lad2:=wl.lad lad2;clear sm g26 l26;refine⟨_,(Z3 (Zy 12 Xv.nd rfl (Or.inl rfl) (Ze Xl (Xb Xd (pv 6) Z5) (Xb Xd (pv 11) Z5))) Zb),?_⟩;obtain⟨cq,aq,CM,_⟩:=lad.at_;obtain⟨cq2,aq2,xH,_⟩:=lad2.at_;refine⟨_,rfl,q,_,3,_,rfl,rfl,SqT.of (Zt _ _ (gG _ _ CM)),rfl,_,rfl,q2,_,3,_,rfl,rfl,SqT.of (Zt _ _ xH),rfl,_,_,rfl,rfl,?_⟩;clear CM xH;refine⟨_,(Z3 (Y8 (Zi Rt (pv 12) Z5 (Zh _)) (Z7 (Zy 11 Xv.nd rfl (Or.inl rfl) (Z4 bH hr (Z0 (pv 3) (Z0 (pv 2) (Z0 (Zn (Z0 Um (Z0 (pv 10) (Z0 (Yl (Z0 (Zn (Z0 Z5 (Z0 Um (Z0 (Z4 aj hr (Z0 (pv 1) (Z0 (Ze Tq Z5 (pv 2)) Z1))) (Z0 (pv 12) Z1))))) Z1)) Z1)))) Z1)))))) Zr) Zb),?_⟩;refine Sa (fun σ H'=>∃(q3:Addr)(qs:Sps),σ=[some (.ref S),some (.ref a),some (.int or),some (.int Cz),some v,some (.ref r),some (.ref q),some (.int fst),o8,o9,some v2,some (.ref q3),some (.int (ag (glT Cz or t)-ag (glT Cz or t2)))]∧Wl a T1 T2 H'∧Same G (w3 a T1 T2 H')∧LadAt (w3 a T1 T2 H') q3 Cz or (ag qs) qs∧Pok or qs∧qs.length≤60) (fun nx hnx=>?_) ?_
 ·refine⟨_,rfl,_,_,rfl,rfl,_,rfl,Xh (fun c=>?_) (fun c=>hnx _ _ ⟨q2,_,rfl,wl,gG,lad2,go2.pok,by omega⟩)⟩;have c:(ag (glT Cz or t)-ag (glT Cz or t2)) > 0:=zO c;refine⟨_,rfl,_,rfl,_,rfl,_,rfl,_,rfl,_,_,rfl,rfl,⟨by omega,by omega,by decide⟩,a,_,rfl,wl.pen,by rw[AI];omega,by rw[AI];omega,fun d G1 y0 y1 hp g=>⟨_,rfl,leN rfl,fun c1 n1=>?_⟩⟩;have y1:d<1*2^or.toNat:=y1;rw[AI]at y1;obtain⟨wl,sm⟩:=wl.grw hp g;have gG:=gG.trans sm;have dv2:=dv2.mono sm;clear sm hp g lad2;generalize hz:upd _ c1 _=G2;revert G2;refine blk ?_;intro G2 hz;obtain⟨wl,sm,e1⟩:=wl.lay hz n1;have gG:=gG.trans sm;have dv2:=dv2.mono sm;clear sm hz n1;refine⟨leN rfl,fun c2 n2=>?_⟩;generalize hz:upd _ c2 _=G3;revert G3;refine blk ?_;intro G3 hz;obtain⟨wl,sm,e2⟩:=wl.lay hz n2;have gG:=gG.trans sm;have dv2:=dv2.mono sm;have e1:=sm _ _ e1;clear sm hz n2;refine⟨leN rfl,fun c3 n3=>?_⟩;generalize hz:upd _ c3 _=G4;revert G4;refine blk ?_;intro G4 hz;obtain⟨wl,sm,e3⟩:=wl.lay hz n3;have gG:=gG.trans sm;have dv2:=dv2.mono sm;have e1:=sm _ _ e1;have e2:=sm _ _ e2;clear sm hz n3;have ta3:∀x∈(Tr.node t2 (.leaf [⟨0,"a",d,(ag (glT Cz or t)-ag (glT Cz or t2))⟩])).all,ThL or x:=fun x hx=>by
   rcases zT.mp (show x∈t2.all++[⟨0,"a",d,(ag (glT Cz or t)-ag (glT Cz or t2))⟩]from hx)with hx | hx
   ·exact ta2 x hx
   ·rw[zG.mp hx];exact⟨y0,y1,by show 1≤(ag (glT Cz or t)-ag (glT Cz or t2));omega⟩
  have al3:(Tr.node t2 (.leaf [⟨0,"a",d,(ag (glT Cz or t)-ag (glT Cz or t2))⟩])).all.length≤29:=by
   show(t2.all++[_]).length≤29;rw[zI,AY];omega
  have tw4:=Xm ta3;obtain⟨go3,gs3,gl3⟩:=Pm (Cz:=Cz) (by omega) tw4;refine⟨.ref c3,Cz,or,.node t2 (.leaf [⟨0,"a",d,(ag (glT Cz or t)-ag (glT Cz or t2))⟩]),rfl,r0,r1,by omega,by omega,.tup (Zt _ _ e3) (.cons (.str _) (.cons (dv2.mono Zt) (.cons (.lst (Zt _ _ e2) (.cons (Th.dv (t:=⟨0,"a",d,(ag (glT Cz or t)-ag (glT Cz or t2))⟩) (Zt _ _ e1)) .nil)) .nil))),by show t2.size+1+1≤1000;omega,tw4,by omega,wl.l1,fun q3 G5 g5 l5 lad3=>?_⟩;obtain⟨wl,sm⟩:=wl.tt1 g5 l5;exact hnx _ _ ⟨q3,_,rfl,wl,gG.trans sm,wl.lad lad3,go3.pok,by omega⟩
 clear wl gG lad2 dv2;rintro σ H27 ⟨q3,qs,rfl,wl,gG,lad3,pok3,ql3⟩;refine⟨_,(Z3 (Y8 (PW.pt (kg (Zi Sj (pv 7) Z5 (Zh _)) (gh (Vd (Wd (Z4 cy hr (Z0 (pv 3) (Z0 (pv 2) (Z0 (pv 4) (Z0 (pv 6) Z1)))))))))) (Z7 (Zc Xn)) Zr) Zb),?_⟩;refine Sa (fun σ H'=>σ=[some (.ref S),some (.ref a),some (.int or),some (.int Cz),some v,some (.ref r),some (.ref q),some (.int fst),o8,o9,some v2,some (.ref q3),some (.int (ag (glT Cz or t)-ag (glT Cz or t2)))]∧Wl a T1 T2 H'∧Same (w3 a T1 T2 H27) (w3 a T1 T2 H')) (fun nx hnx=>?_) ?_
 ·refine⟨_,rfl,rfl,_,rfl,Xh (fun c=>?_) (fun c=>Xg (hnx _ _ ⟨rfl,wl,Same.refl _⟩))⟩;refine⟨_,rfl,_,rfl,_,rfl,_,rfl,v,q,Cz,or,t,rfl,r0,r1,by omega,d1,(dv.mono gG).mono Zt,by omega,by omega,ta,by omega,(lad.mono gG).mono Zt,wl.l2,fun H2 g2 l2=>⟨_,rfl,Xg ?_⟩⟩;obtain⟨wl,sm⟩:=wl.tt2 g2 l2;exact hnx _ _ ⟨rfl,wl,sm⟩
 clear wl;rintro σ H28 ⟨rfl,wl,g28⟩;have gG:=gG.trans g28;refine⟨_,(Z7 (Zc (Rg (Z4 cP hr (Z0 (pv 5) (Z0 (pv 11) Z1))) (Rf (Z4 cP hr (Z0 (Ze fX (pv 5) (Yl (Z0 (Zn (Z0 Z5 (Z0 Um (Z0 (Ze Tq Z5 (pv 2)) (Z0 Z5 Z1))))) Z1))) (Z0 (pv 6) Z1))))))),?_⟩;refine⟨_,rfl,_,rfl,r,q3,t.all,Cz,or,qs,rfl,(k_r.mono gG).mono Zt,by omega,(lad3.mono g28).mono Zt,pok3,by omega,by omega,d1,S5 thm,fun H29 g29=>⟨_,rfl,U9 ?_⟩⟩;obtain⟨wl,sm⟩:=wl.same g29;have gG:=gG.trans sm;clear sm g29 g28 lad3;refine⟨_,rfl,_,rfl,_,_,rfl,rfl,⟨by omega,by omega,by decide⟩,leN rfl,fun c1 n1=>?_⟩;generalize hz:upd _ c1 _=G2;revert G2;refine blk ?_;intro G2 hz;obtain⟨wl,sm,e1⟩:=wl.lay hz n1;have gG:=gG.trans sm;clear sm hz n1;refine⟨leN rfl,fun c2 n2=>?_⟩;generalize hz:upd _ c2 _=G3;revert G3;refine blk ?_;intro G3 hz;obtain⟨wl,sm,e2⟩:=wl.lay hz n2;have gG:=gG.trans sm;have e1:=sm _ _ e1;clear sm hz n2;obtain⟨_,xs,e0,e_r,dx⟩:=DV.list_inv (k_r.mono gG);cases e0;have xl:=dx.length;rw[az]at xl;refine⟨r,c2,xs,_,rfl,rfl,Zt _ _ e_r,Zt _ _ e2,Zl (by rw[AY];omega),fun c3 n3=>?_⟩;generalize hz:upd _ c3 _=G4;revert G4;refine blk ?_;intro G4 hz;obtain⟨wl,sm,e3⟩:=wl.lay hz n3;have gG:=gG.trans sm;have dx:=dx.mono sm;have e1:=sm _ _ e1;clear sm hz n3;refine⟨_,rfl,c3,q,t.all++[⟨0,"a",1*2^or.toNat,1⟩],Cz,or,_,rfl,.lst (Zt _ _ e3) ?_,by rw[zI,AY];omega,(lad.mono gG).mono Zt,pok,by omega,by omega,d1,fun x hx=>?_,fun H30 _=>hq _⟩
 ·rw[zW];exact(dx.mono Zt).append (.cons (Th.dv (Zt _ _ e1)) .nil)
 ·rcases zT.mp hx with hx | hx
  ·exact S5 thm x hx
  ·rw[zG.mp hx];exact⟨by show 0≤1*(2:Int)^or.toNat;rw[AI];omega,Ah _,u6⟩
end K34
namespace Hd
open PySem PySem.W
section
variable{α β:Type}
def fN(n:Nat)(k:Nat→α):α:=Nat.casesOn n (k 0) fun m=>k (Nat.succ m)
theorem Te(n:Nat)(k:Nat→α):fN n k=k n:=by cases n <;> rfl
def fV(v:Value)(k:Value→α):α:=match v with
 |.ref a=>fN a fun a=>k (.ref a)
 |.str s t=>fN t fun t=>k (.str s t)
 |.int i t=>fN t fun t=>k (.int i t)
 |v=>k v
theorem Rv(v:Value)(k:Value→α):fV v k=k v:=by cases v <;> simp only[fV,Te]
def fO(f:β→(β→α)→α)(o:Option β)(k:Option β→α):α:=match o with
 |none=>k none
 |some x=>f x fun x=>k (some x)
theorem mK{f:β→(β→α)→α}(hf:∀x k,f x k=k x)(o:Option β)(k:Option β→α):fO f o k=k o:=by cases o <;> simp only[fO,hf]
def fL(f:β→(β→α)→α)(l:List β):(List β→α)→α:=
 @List.rec β (fun _=>(List β→α)→α) (fun k=>k []) (fun x _ ih k=>f x fun x=>ih fun r=>k (x::r)) l
theorem uQ{f:β→(β→α)→α}(hf:∀x k,f x k=k x)(l:List β):∀k:List β→α,fL f l k=k l:=by
 induction l with
 |nil=>intro k;rfl
 |cons x r ih=>
  intro k;show f x (fun x=>fL f r fun r=>k (x::r))=_;rw[hf,ih]
def fA(f:β→(β→α)→α)(l:Array β)(k:Array β→α):α:=match l with
 |⟨l⟩=>fL f l fun l=>k ⟨l⟩
theorem lM{f:β→(β→α)→α}(hf:∀x k,f x k=k x)(l:Array β)(k:Array β→α):fA f l k=k l:=by
 cases l;simp only[fA,uQ hf]
def fE(e:DictEntry)(k:DictEntry→α):α:=match e with
 |⟨h,a,b⟩=>fV a fun a=>fV b fun b=>k ⟨h,a,b⟩
theorem xI(e:DictEntry)(k:DictEntry→α):fE e k=k e:=by cases e;simp only[fE,Rv]
def fF(e:FuncData)(k:FuncData→α):α:=match e with
 |⟨a,b,c,d,e,g,cl,df,kd,dc,pm,an,cd,ct,bl⟩=>fN g fun g=>fV df fun df=>fV kd fun kd=>fV dc fun dc=>fV pm fun pm=>fO fN an fun an=>fV cd fun cd=>fV ct fun ct=>fN bl fun bl=>k ⟨a,b,c,d,e,g,cl,df,kd,dc,pm,an,cd,ct,bl⟩
theorem yq(e:FuncData)(k:FuncData→α):fF e k=k e:=by cases e;simp only[fF,Rv,Te,mK Te]
def fC(e:ClassData)(k:ClassData→α):α:=match e with
 |⟨a,b,c,d,e,f,g,h,i,j,l⟩=>fL fV b fun b=>fL fV c fun c=>fN d fun d=>fL fV h fun h=>k ⟨a,b,c,d,e,f,g,h,i,j,l⟩
theorem yR(e:ClassData)(k:ClassData→α):fC e k=k e:=by cases e;simp only[fC,uQ Rv,Te]
def fD(d:Data)(k:Data→α):α:=match d with
 |.seq xs n=>fA fV xs fun xs=>fN n fun n=>k (.seq xs n)
 |.dict xs n=>fA fE xs fun xs=>fN n fun n=>k (.dict xs n)
 |.fields xs=>fA fV xs fun xs=>k (.fields xs)
 |.cell v=>fO fV v fun v=>k (.cell v)
 |.prim v=>fV v fun v=>k (.prim v)
 |.func f=>fF f fun f=>k (.func f)
 |.cls f=>fC f fun f=>k (.cls f)
 |d=>k d
theorem yB(d:Data)(k:Data→α):fD d k=k d:=by cases d <;> simp only[fD,lM Rv,lM xI,Te,mK Rv,Rv,yq,yR]
def fJ(o:Obj)(k:Obj→α):α:=match o with
 |⟨c,d,x,s⟩=>fV c fun c=>fO fN d fun d=>fD x fun x=>fA (fO fV) s fun s=>k ⟨c,d,x,s⟩
theorem uN(o:Obj)(k:Obj→α):fJ o k=k o:=by cases o;simp only[fJ,Rv,mK Te,yB,lM (mK Rv)]
def fB(t:BT):(BT→α)→α:=
 @BT.rec (fun _=>(BT→α)→α) (fun k=>k .nil) (fun v _ _ il ir k=>fJ v fun v=>il fun l=>ir fun r=>k (.node v l r)) t
theorem xQ(t:BT):∀k:BT→α,fB t k=k t:=by
 induction t with
 |nil=>intro k;rfl
 |node v l r il ir=>
  intro k;show fJ v (fun v=>fB l fun l=>fB r fun r=>k (.node v l r))=_;rw[uN,il,ir]
def fR(d:Drawn)(k:Drawn→α):α:=match d with
 |⟨a,b,c,d⟩=>fN a fun a=>fN b fun b=>fN c fun c=>fN d fun d=>k ⟨a,b,c,d⟩
theorem u5(d:Drawn)(k:Drawn→α):fR d k=k d:=by cases d;simp only[fR,Te]
def fS(s:SharedT)(k:SharedT→α):α:=match s with
 |⟨t,n,life,g,d,tk,os⟩=>fB t fun t=>fN n fun n=>fR d fun d=>fN tk fun tk=>k ⟨t,n,life,g,d,tk,os⟩
theorem u7(s:SharedT)(k:SharedT→α):fS s k=k s:=by cases s;simp only[fS,xQ,Te,u5]
def fP(d:Pos)(k:Pos→α):α:=match d with
 |⟨a,b,c,d⟩=>fN a fun a=>fN b fun b=>fN c fun c=>fN d fun d=>k ⟨a,b,c,d⟩
theorem yt(d:Pos)(k:Pos→α):fP d k=k d:=by cases d;simp only[fP,Te]
def fH(s:Shared)(k:Shared→α):α:=match s with
 |⟨⟨l,life⟩,g,d,tk,os⟩=>fA fJ l fun l=>fR d fun d=>fN tk fun tk=>k ⟨⟨l,life⟩,g,d,tk,os⟩
theorem xO(s:Shared)(k:Shared→α):fH s k=k s:=by obtain⟨⟨l,life⟩,g,d,tk,os⟩:=s;simp only[fH,lM uN,Te,u5]
end
section
variable{α:Type}
def hd(tb:String→Option Builtin)(p:Program)(w:World)(m:Nat)(ann:Option Value)(env:Env)(q:Pos)(F:Nat)(fin:SharedT→Code→Pos→Option α)(l:List Stmt):SharedT→Code→Pos→Option α:=
 @List.rec Stmt (fun _=>SharedT→Code→Pos→Option α) fin (fun st _ ih s c pos=>match segRunT tb p w m ann 1 F s (pieceOf st env c pos [topFrame q]) with
  |some (.next,s',c',p')=>fS s' fun s'=>fP p' fun p'=>ih s' c' p'
  |_=>none) l
theorem r_{tb:String→Option Builtin}{p:Program}{w:World}{m:Nat}{ann:Option Value}{env:Env}{q:Pos}{F:Nat}{fin:SharedT→Code→Pos→Option α}{st:Stmt}{l:List Stmt}{s:SharedT}{c:Code}{pos:Pos}{r:α}(h:hd tb p w m ann env q F fin (st::l) s c pos=some r):∃s' c' p',segRunT tb p w m ann 1 F s (pieceOf st env c pos [topFrame q])=some (.next,s',c',p')∧hd tb p w m ann env q F fin l s' c' p'=some r:=by
 have h:(match segRunT tb p w m ann 1 F s (pieceOf st env c pos [topFrame q]) with
  |some (.next,s',c',p')=>fS s' fun s'=>fP p' fun p'=>hd tb p w m ann env q F fin l s' c' p'
  |_=>none)=some r:=h
 split at h
 ·rename_i s' c' p' e;rw[u7,yt]at h;exact⟨s',c',p',e,h⟩
 ·cases h
theorem vO{tb:String→Option Builtin}{p:Program}{w:World}{n₀:Nat}{ann:Option Value}{env:Env}{q:Pos}{n N:Nat}{s s' r:Shared}{st:Stmt}{rest:List Stmt}{c c':Code}{pos p':Pos}(h:segRun tb p w n₀ ann 1 n s (pieceOf st env c pos [topFrame q])=some (.next,s',c',p'))(k:topRun tb p w n₀ ann N s' (restOf rest env c' p' [topFrame q])=some r):topRun tb p w n₀ ann (n+N) s (restOf (st::rest) env c pos [topFrame q])=some r:=by
 obtain⟨a,ha,hN⟩:=seg_top (res:=id) (K':=fun f=>match f with | .next=>(execs rest env).wrap doneF (leaveH env) id id | f=>doneF f) (H':=leaveH env) (B:=[topFrame q]) rfl n s (pieceOf st env c pos [topFrame q])
  ⟨(exec st env).wrap (fun f=>match f with | .next=>(execs rest env).wrap doneF (leaveH env) id id | f=>doneF f) (leaveH env) id id,c,pos,[topFrame q]⟩ _ _ _ _ ⟨rfl,rfl,.inl ⟨rfl,rfl,_,rfl,rfl⟩⟩ h
 obtain rfl:a=.next:=ha;have:=hN N r k;unfold restOf;rw[execs_cons_wrap];exact this
theorem rS{tb:String→Option Builtin}{p:Program}{w:World}{m:Nat}{ann:Option Value}{env:Env}{q:Pos}{F:Nat}{fin:SharedT→Code→Pos→Option α}{r:α}:∀(l:List Stmt)(s:SharedT)(c:Code)(pos:Pos),hd tb p w m ann env q F fin l s c pos=some r→
  ∃s' c' p',fin s' c' p'=some r∧∀N z,topRun tb p w m ann N s'.abs (restOf [] env c' p' [topFrame q])=some z→topRun tb p w m ann (l.length*F+N) s.abs (restOf l env c pos [topFrame q])=some z
 | [],s,c,pos,h=>⟨s,c,pos,h,fun N z hz=>by rw[AO,Nat.zero_mul,Bs];exact hz⟩
 |st::l,s,c,pos,h=>by
  obtain⟨s',c',p',e,h⟩:=r_ h;obtain⟨s2,c2,p2,hf,hN⟩:=rS l s' c' p' h;refine⟨s2,c2,p2,hf,fun N z hz=>?_⟩;have:=vO (segRun_of e) (hN N z hz);rw[Ak,Nat.succ_mul,show l.length*F+F+N=F+(l.length*F+N) by omega];exact this
def yD{γ:Type}(tb:String→Option Builtin)(p:Program)(w:World)(m:Nat)(ann:Option Value)(env:Env)(q:Pos)(look:Shared→γ)(s:SharedT)(c:Code)(pos:Pos):Option γ:=
 match topRun tb p w m ann 50 s.abs (restOf [] env c pos [topFrame q]) with
 |some r=>fH r fun r=>some (look r)
 |none=>none
def ofL(l:List Obj):Nat→BT→BT:=@List.rec Obj (fun _=>Nat→BT→BT) (fun _ t=>t) (fun o _ ih i t=>ih (Nat.succ i) (t.ins i o)) l
def toT(s:Shared):SharedT:=match s with
 |⟨⟨⟨l⟩,life⟩,g,d,tk,os⟩=>⟨ofL l 0 .nil,l.length,life,g,d,tk,os⟩
def pre(p:Program)(w:World)(os:OsState):Option (Shared×Thread):=topGo treeTable p w 11 (some (.ref 6)) 12 ⟨boot_heap w.params,⟨[]⟩,boot_drawn,boot_toks,os⟩ (topStub p)
def zp:Pos:=⟨0,0,0,0⟩
def uz(p:Program):Env:={scope:=p.main.scope,locals:=mainNs,globals:=mainNs,cells:=[],code:=.ref 13,frame:=some 14}
def sa(p:Program)(w:World)(os:OsState):Shared:=match pre p w os with
 |some (s,_)=>s
 |none=>⟨{},#[],{},0,os⟩
def hc(p:Program):Code:=.body (behindTheImports p) (uz p)
def blk(p:Program)(w:World)(os:OsState):Option (Flow×Shared×Code×Pos):=segRun treeTable p w 11 (some (.ref 6)) 1 1 (sa p w os) (blockOf (behindTheImports p) (uz p) (hc p) zp [topFrame zp])
def chk{γ:Type}(p:Program)(look:Shared→γ)(w:World)(os:OsState):Option γ:=
 fS (toT (sa p w os)) fun s=>hd treeTable p w 11 (some (.ref 6)) (uz p) zp 600 (yD treeTable p w 11 (some (.ref 6)) (uz p) zp look) (behindTheImports p) s (hc p) zp
end
theorem mx{p q:Program}{loose:List Str}{Xt:Shared→Bool}{α:Type}{Yf:Shared→α}{Ya:World→α}(e:opening p=plainProg p.main.scope.names)(f:∀s,fenceModules? p s=some s)(hpre:∀(w:World) (os:OsState),pre p w os=some (sa p w os,⟨denote treeTable (hc p),hc p,zp,[topFrame zp]⟩))(hblk:∀(w:World) (os:OsState),blk p w os=some (.next,(toT (sa p w os)).abs,hc p,zp))(size:∀w:World,((boot_heap w.params).isNs mainGlobals && (Array.mk ([]:List GenState)).size==0,(boot_heap w.params).objs.size,(boot_heap w.params).nsMap mainGlobals "__annotations__")=(true,11,some (.ref 6)))(len:Nat.ble (behindTheImports p).length 1600=true)(hchk:∀(w:World) (os:OsState),chk p (fun s=>((staticsOk (importedModules p.main.body) (boot_heap w.params) s.heap && namesBound p s.heap && gensDone s && laidKept (boot_heap w.params) s.heap),openSeen q loose (importedModules p.main.body) Xt true s,Yf s)) w os=some (true,openGood q loose,Ya w)):
  LeftO p q loose Xt Yf Ya 1000000 true:=fun w=>by
 obtain⟨⟨h,gs,d,k,os⟩,e1,e'⟩:=AV.mp (boot_open (p:=p) (N:=1000000) e rfl f w);obtain⟨rfl,rfl,rfl,rfl⟩:h=boot_heap w.params∧gs=⟨[]⟩∧d=boot_drawn∧k=boot_toks:=by simpa using e'
 obtain⟨z1,z2,z3⟩:_∧_∧_:=by simpa only[Prod.mk.injEq] using size w
 have hc1:=hchk w os;unfold chk at hc1;rw[u7]at hc1;obtain⟨s2,c2,p2,hf,hN⟩:=rS _ _ _ _ hc1;unfold yD at hf
 split at hf
 case h_2=>cases hf
 rename_i r hr;rw[xO]at hf;obtain⟨l1,l2,l3⟩:_∧_∧_:=by simpa only[Option.some.injEq,Prod.mk.injEq] using hf
 have a1:=hN _ _ hr;have a2:=piece_block (hblk w os) a1;have a3:=go_top (hpre w os) a2;have le:12+(1+((behindTheImports p).length*600+50))≤1000000:=by
  have:=Nat.le_of_ble_eq_true len;omega
 have a4:=topRun_mono (1000000-(12+(1+((behindTheImports p).length*600+50)))) _ _ _ _ a3;rw[show 12+(1+((behindTheImports p).length*600+50))+(1000000-(12+(1+((behindTheImports p).length*600+50))))=1000000 by omega]at a4;have t:topFrom treeTable p w 1000000 ⟨boot_heap w.params,⟨[]⟩,boot_drawn,boot_toks,os⟩=some r:=by
  unfold topFrom;dsimp only;rw[z1,z2,z3,a4];show(match staticsOk (importedModules p.main.body) (boot_heap w.params) r.heap && namesBound p r.heap && gensDone r && laidKept (boot_heap w.params) r.heap with | true=>_ | false=>_)=_;rw[l1]
 unfold openEnds;rw[e1];show(topFrom treeTable p w 1000000 _).map _=_;rw[t];exact AX some (AT l2 l3)
def cF(p q:Program)(as:List Addr)(w:World)(os:OsState):=
 chk p (fun s=>((staticsOk (importedModules p.main.body) (boot_heap w.params) s.heap && namesBound p s.heap && gensDone s && laidKept (boot_heap w.params) s.heap),openSeen q [] (importedModules p.main.body) (fun s=>xlAt q [] s && recOk [] s) true s,as.map s.heap.get?)) w os
def cM(p q:Program)(as ts:List Addr)(w:World)(os:OsState):=
 chk p (fun s=>((staticsOk (importedModules p.main.body) (boot_heap w.params) s.heap && namesBound p s.heap && gensDone s && laidKept (boot_heap w.params) s.heap),openSeen q [] (importedModules p.main.body) (fun s=>xlAt q [] s && recOk [] s) true s,(as.map s.heap.get?,ts.map s.heap.get?))) w os
def cG(q:Program):=openGood q []
theorem cF_:@cF=@cF:=rfl
theorem cM_:@cM=@cM:=rfl
theorem cG_:@cG=@cG:=rfl
end Hd
def PySem.W.Fast.tw14598715356260435866:PySem.Params→PySem.Obj:=PySem.W.boot_o_0
theorem PySem.W.Fast.te14598715356260435866:PySem.W.boot_o_0=PySem.W.Fast.tw14598715356260435866:=rfl
lay_quick Hd.cF Hd.cM Hd.cG
name_quick cFQ for Hd.cF by Hd.cF_
name_quick cMQ for Hd.cM by Hd.cM_
name_quick cGQ for Hd.cG by Hd.cG_
namespace Hd
open PySem PySem.W
theorem hS(w:World):((boot_heap w.params).isNs mainGlobals && (Array.mk ([]:List GenState)).size==0,(boot_heap w.params).objs.size,(boot_heap w.params).nsMap mainGlobals "__annotations__")=(true,11,some (.ref 6)):=by kernel_rfl
theorem xX(p q:Program)(as:List Addr)(w:World)(os:OsState):cF p q as w os=W.Fast.cFQ p q as w os:=by rw[←W.Fast.cFQ_eq]
theorem y7(p q:Program)(as ts:List Addr)(w:World)(os:OsState):cM p q as ts w os=W.Fast.cMQ p q as ts w os:=by rw[←W.Fast.cMQ_eq]
theorem vg(q:Program):openGood q []=W.Fast.cGQ q:=by rw[←W.Fast.cGQ_eq];rfl
theorem aF{p q:Program}(e:opening p=plainProg p.main.scope.names)(f:∀s,fenceModules? p s=some s)(hpre:∀(w:World) (os:OsState),pre p w os=some (sa p w os,⟨denote treeTable (hc p),hc p,zp,[topFrame zp]⟩))(hblk:∀(w:World) (os:OsState),blk p w os=some (.next,(toT (sa p w os)).abs,hc p,zp))(len:Nat.ble (behindTheImports p).length 1600=true){K:Params→Frag}{as:List Addr}{ek:∀P,as=(K P).map (·.1)}(h:∀(w:World) (os:OsState),W.Fast.cFQ p q as w os=some (true,W.Fast.cGQ q,(K w.params).map fun p=>some p.2)):
  LeftO p q [] (fun s=>xlAt q [] s && recOk [] s) (Hook.obs (kHook K as ek)) (Hook.val (kHook K as ek)) 1000000 true:=
 mx e f hpre hblk hS len fun w os=>(xX p q as w os).trans ((h w os).trans (by rw[vg];rfl))
theorem leftM{p q:Program}(e:opening p=plainProg p.main.scope.names)(f:∀s,fenceModules? p s=some s)(hpre:∀(w:World) (os:OsState),pre p w os=some (sa p w os,⟨denote treeTable (hc p),hc p,zp,[topFrame zp]⟩))(hblk:∀(w:World) (os:OsState),blk p w os=some (.next,(toT (sa p w os)).abs,hc p,zp))(len:Nat.ble (behindTheImports p).length 1600=true){K:Params→Frag}{as:List Addr}{ek:∀P,as=(K P).map (·.1)}{ts:List Addr}(h:∀(w:World) (os:OsState),W.Fast.cMQ p q as ts w os=some (true,W.Fast.cGQ q,((K w.params).map fun p=>some p.2),ts.map fun _=>some (tabObj #[]))):
  LeftO p q [] (fun s=>xlAt q [] s && recOk [] s) (Hook.obs (kmHook K as ek ts)) (Hook.val (kmHook K as ek ts)) 1000000 true:=
 mx e f hpre hblk hS len fun w os=>(y7 p q as ts w os).trans ((h w os).trans (by rw[vg];rfl))
end Hd
namespace L2
open PySem PyProof.Rows
structure Df(K:W.Frag)(mg:Str→Option Value)(x:Str)(st:Stmt):Prop where
 ex:∃(f:Addr)(fd:FuncData),Fun K x x st f fd∧mg x=some (.ref f)
section
variable{P:Program}{w:World}{K:W.Frag}{mg:Str→Option Value}{base h:Heap}{x:Str}{st:Stmt}{k:Nat}{ps:List Str}{sp:Sp}{p0 p1 p2 p3:Str}
theorem df_mk(X:K.In h)(G:h.Ns mainGlobals mg){f:Addr}{oc:Value}{od an:Option Addr}{osl:Array (Option Value)}{kV doc pm cdv ct:Value}(a:W.nsIn K mainGlobals x=some (some (.ref f)))(l:K.lookup f=some ⟨oc,od,.func (W.fnOf x x (aB st) (aA st) (aa st) .none kV doc pm an cdv ct),osl⟩)(c:W.codeIn K cdv x=true)(k:W.keepIn K (.ref f)=true):Df K mg x st:=⟨f,_,gq l c k,W.mg_of X G a⟩
theorem Df.has(d:Df K mg x st)(ok:∀{f:Addr} {fd:FuncData},Fun K x x st f fd→FnOk P w K mg base CX0 k f fd ps sp)(b:∀{f:Addr} {fd:FuncData},Fun K x x st f fd→Binds K fd ps []):Has P w K mg base x k ps sp:=let ⟨_,_,F,m⟩:=d.ex;Has.of (ok F) (b F) F.kp m
theorem Df.h1(d:Df K mg x st)(ok:∀{f:Addr} {fd:FuncData},Fun K x x st f fd→FnOk P w K mg base CX0 k f fd [p0] sp)(h:∀(kV doc pm:Value) (an:Option Addr) (cdv ct u0:Value),bindArgs (W.fnOf x x (aB st) (aA st) (aa st) .none kV doc pm an cdv ct) ⟨[u0],[]⟩=pure [(p0,u0)]):Has P w K mg base x k [p0] sp:=d.has ok fun F=>F.b1 h
theorem Df.h2(d:Df K mg x st)(ok:∀{f:Addr} {fd:FuncData},Fun K x x st f fd→FnOk P w K mg base CX0 k f fd [p0,p1] sp)(h:∀(kV doc pm:Value) (an:Option Addr) (cdv ct u0 u1:Value),bindArgs (W.fnOf x x (aB st) (aA st) (aa st) .none kV doc pm an cdv ct) ⟨[u0,u1],[]⟩=pure [(p0,u0),(p1,u1)]):Has P w K mg base x k [p0,p1] sp:=d.has ok fun F=>F.b2 h
theorem Df.h3(d:Df K mg x st)(ok:∀{f:Addr} {fd:FuncData},Fun K x x st f fd→FnOk P w K mg base CX0 k f fd [p0,p1,p2] sp)(h:∀(kV doc pm:Value) (an:Option Addr) (cdv ct u0 u1 u2:Value),bindArgs (W.fnOf x x (aB st) (aA st) (aa st) .none kV doc pm an cdv ct) ⟨[u0,u1,u2],[]⟩=pure [(p0,u0),(p1,u1),(p2,u2)]):Has P w K mg base x k [p0,p1,p2] sp:=d.has ok fun F=>F.b3 h
theorem Df.h4(d:Df K mg x st)(ok:∀{f:Addr} {fd:FuncData},Fun K x x st f fd→FnOk P w K mg base CX0 k f fd [p0,p1,p2,p3] sp)(h:∀(kV doc pm:Value) (an:Option Addr) (cdv ct u0 u1 u2 u3:Value),bindArgs (W.fnOf x x (aB st) (aA st) (aa st) .none kV doc pm an cdv ct) ⟨[u0,u1,u2,u3],[]⟩=pure [(p0,u0),(p1,u1),(p2,u2),(p3,u3)]):Has P w K mg base x k [p0,p1,p2,p3] sp:=d.has ok fun F=>F.b4 h
end
end L2
namespace K34
open PySem L2 Ld
theorem all_mk{c_0 T0 c_1 T1:Addr}{l:W.OpenLaw}{w:World}{K:W.Frag}{h:Heap}{mg:Str→Option Value}{fa f24 f28 f53:Addr}(X:K.In h)(G:h.Ns mainGlobals mg)(hfa:mg "law"=some (.ref fa)){od24 an24 od28 an28 od53 an53:Option Addr}{sl24 sl28 sl53:Array (Option Value)}{oc24 kV24 dc24 pm24 ct24 oc28 kV28 dc28 pm28 ct28 oc53 kV53 dc53 pm53 ct53 cd53:Value}(d0:Df K mg "is_whole" c5)(d1:Df K mg "is_whole_from" bB)(d2:Df K mg "is_whole_within" bh)(d3:Df K mg "added_counts" bf)(d4:Df K mg "first_of" cX)(d5:Df K mg "last_of" dE)(d6:Df K mg "parent_of" cL)(d7:Df K mg "pair_of" dH)(d8:Df K mg "is_stretch" ce)(d9:Df K mg "bar_of" eB)(d10:Df K mg "joint_count" bU)(d11:Df K mg "first_folding" bx)(d12:Df K mg "fold_up" cQ)(d13:Df K mg "settling_of" bV)(d14:Df K mg "settled" dM)(d15:Df K mg "steps_in" c6)(d16:Df K mg "streams_in" cb)(d17:Df K mg "stream_of" cD)(d18:Df K mg "grown" gr)(d19:Df K mg "empty_ladder" bK)(d20:Df K mg "thing_ladder" bO)(d21:Df K mg "added_ladder" bG)(d22:Df K mg "merged_ladder" a_)(d23:Df K mg "ladder_of" cK)(a24:W.nsIn K mainGlobals "grown_ladder"=some (some (.ref f24)))(l24:K.lookup f24=some ⟨oc24,od24,.func (W.fnOf "grown_ladder" "grown_ladder" (aB ai) (aA ai) (aa ai) .none kV24 dc24 pm24 an24 (.ref c_0) ct24),sl24⟩)(c24:W.codeIn K (.ref c_0) "grown_ladder"=true)(k24:W.keepIn K (.ref f24)=true)(d25:Df K mg "things_in" cz)(d26:Df K mg "merged_with_folds" aJ)(d27:Df K mg "stream_with_folds" aZ)(a28:W.nsIn K mainGlobals "ladder_paper"=some (some (.ref f28)))(l28:K.lookup f28=some ⟨oc28,od28,.func (W.fnOf "ladder_paper" "ladder_paper" (aB ah) (aA ah) (aa ah) .none kV28 dc28 pm28 an28 (.ref c_1) ct28),sl28⟩)(c28:W.codeIn K (.ref c_1) "ladder_paper"=true)(k28:W.keepIn K (.ref f28)=true)(d29:Df K mg "standing_of" bW)(d30:Df K mg "is_folded" cB)(d31:Df K mg "folds_towards" bA)(d32:Df K mg "paper_for" cI)(d33:Df K mg "lowest_places" bC)(d34:Df K mg "highest_places" bo)(d35:Df K mg "fits" jU)(d36:Df K mg "stream_at" cN)(d37:Df K mg "lowest" eZ)(d38:Df K mg "highest" dC)(d39:Df K mg "_law_pen" gd)(d40:Df K mg "_law_draw" eM)(d41:Df K mg "_law_word" eU)(d42:Df K mg "_law_many" eG)(d43:Df K mg "_law_thing" dB)(d44:Df K mg "_law_stream" cV)(d45:Df K mg "_law_tree" dz)(d46:Df K mg "_law_room" eI)(d47:Df K mg "_law_at_leaves" bZ)(d48:Df K mg "_law_fits" eC)(d49:Df K mg "_law_shows" dO)(d50:Df K mg "_law_right" dG)(d51:Df K mg "_law_tree_shown" bR)(d52:Df K mg "_law_other" dN)(a53:W.nsIn K mainGlobals "law"=some (some (.ref f53)))(l53:K.lookup f53=some ⟨oc53,od53,.func (W.fnOf "law" "law" (aB de) (aA de) (aa de) .none kV53 dc53 pm53 an53 cd53 ct53),sl53⟩)(c53:W.codeIn K cd53 "law"=true)(k53:W.keepIn K (.ref f53)=true)(bT:mg "len"=none)(am:mg "isinstance"=none)(aN:mg "range"=none)(bi:mg "list"=none)(bj:mg "sorted"=none)(bF:mg "tuple"=none)(aM:mg "dict"=none)(eN:mg "sum"=none)(dm:mg "int"=none)(c8:mg "bool"=none)(pD:mg "all"=none)(hcT0:W.codeHdIn K c_0 T0=true)(hgP0:mainGlobals≠T0)(hcT1:W.codeHdIn K c_1 T1=true)(hgP1:mainGlobals≠T1)(hne01:T0≠T1)
  :∃fd:FuncData,(∀(s:Shared)(v:Value),BindsTo s fd ⟨[v],[]⟩ [("_law_script",v)])∧∀base:Heap,K.In base→base.Ns mainGlobals mg→(∀U∈([(c_0,T0),(c_1,T1)]:List (Addr×Addr)).map (·.2),base.BuiltinsAt mg U)→FnOk l.prog w K mg base CX0 20 fa fd ["_law_script"] (lc K T0 T1):=by
 have e:=hfa.symm.trans (W.mg_of X G a53);cases e;obtain⟨f18,v18,F18,m18⟩:=d18.ex;have b18:Binds K _ ["tree","of_stream","of_two"] []:=F18.b3 fun _ _ _ _ _ _ _ _ _=>rfl;obtain⟨f22,v22,F22,m22⟩:=d22.ex;have F24:=gq (st:=ai) l24 c24 k24;have m24:=W.mg_of X G a24;have b24:Binds K _ ["room","deep","tree"] []:=F24.b3 fun _ _ _ _ _ _ _ _ _=>rfl;obtain⟨f26,v26,F26,m26⟩:=d26.ex;have F28:=gq (st:=ah) l28 c28 k28;have m28:=W.mg_of X G a28;have b28:Binds K _ ["room","deep","tree"] []:=F28.b3 fun _ _ _ _ _ _ _ _ _=>rfl;obtain⟨f45,v45,F45,m45⟩:=d45.ex;have b45:Binds K _ ["_law_pen_here","_law_marks","_law_deep","_law_most","_law_parts"] []:=F45.b5 fun _ _ _ _ _ _ _ _ _ _ _=>rfl;have F53:=gq (st:=de) l53 c53 k53;refine⟨W.fnOf "law" "law" (aB de) (aA de) (aa de) .none kV53 dc53 pm53 an53 cd53 ct53,fun s v=>.of_eq rfl,fun base kb nb hBt=>?_⟩;have x_:=d39.h2 (fun F=>vB (P:=l.prog) (w:=w) (mg:=mg) (base:=base) F bT) (by intros;rfl);have c9:=d40.h2 (sx (P:=l.prog) (w:=w) (mg:=mg) (base:=base)) (by intros;rfl);have xc:=d41.h2 (tO (P:=l.prog) (w:=w) (mg:=mg) (base:=base)) (by intros;rfl);have vQ:=d42.h1 (tM c9) (by intros;rfl);have sI:=d43.h3 (qM c9 xc vQ) (by intros;rfl);have pJ:=d44.h4 (m8 c9 sI aN) (by intros;rfl);have vG:=lj c9 pJ F45 b45 m45 4;have xC:=d46.h1 (sW c9) (by intros;rfl);have H_stl:∀base:Heap,K.In base→base.Ns mainGlobals mg→Has l.prog w K mg base "settling_of" 4 ["ladder"] ju:=fun base _ _=>(d13.h1 (wQ aM bj bF (d9.h1 (xA (base:=base)) (by intros;rfl)) (d11.h3 (x5 bj (d10.h2 (p6 (d7.h1 (lC (base:=base)) (by intros;rfl)) (d6.h1 (Rh (base:=base)) (by intros;rfl))) (by intros;rfl))) (by intros;rfl)) (d7.h1 (lC (base:=base)) (by intros;rfl)) (d12.h3 (t7 (d6.h1 (Rh (base:=base)) (by intros;rfl))) (by intros;rfl))) (by intros;rfl));have H_al:∀base:Heap,K.In base→base.Ns mainGlobals mg→Has l.prog w K mg base "added_ladder" 2 ["one","other"] sy:=fun base _ _=>(d21.h2 (yP bj bF (d3.h2 (zu (base:=base) aM) (by intros;rfl))) (by intros;rfl));have H_set:∀base:Heap,K.In base→base.Ns mainGlobals mg→Has l.prog w K mg base "settled" 5 ["ladder"] kX:=fun base kb nb=>(d14.h1 (vU (H_stl base kb nb)) (by intros;rfl));have H_ml:∀base:Heap,K.In base→base.Ns mainGlobals mg→Has l.prog w K mg base "merged_ladder" 6 ["one","other"] p9:=fun base kb nb=>(d22.h2 (yU (H_al base kb nb) (H_set base kb nb)) (by intros;rfl));have H_lo:∀base:Heap,K.In base→base.Ns mainGlobals mg→Has l.prog w K mg base "ladder_of" 7 ["room","deep","stream"] wg:=fun base kb nb=>(d23.h3 (yn (d19.h2 (vx (base:=base)) (by intros;rfl)) (H_ml base kb nb) (H_set base kb nb) (d20.h3 (vk (d5.h1 (gQ (d4.h1 (P7 (base:=base)) (by intros;rfl))) (by intros;rfl))) (by intros;rfl))) (by intros;rfl));have H_mf:∀base:Heap,K.In base→base.Ns mainGlobals mg→Has l.prog w K mg base "merged_with_folds" 5 ["one","other"] qh:=fun base kb nb=>(d26.h2 (xJ (H_stl base kb nb) (H_al base kb nb)) (by intros;rfl));have H_sf:∀base:Heap,K.In base→base.Ns mainGlobals mg→Has l.prog w K mg base "stream_with_folds" 6 ["room","deep","stream"] wa:=fun base kb nb=>(d27.h3 (xS (d19.h2 (vx (base:=base)) (by intros;rfl)) (H_mf base kb nb) (H_stl base kb nb) (d20.h3 (vk (d5.h1 (gQ (d4.h1 (P7 (base:=base)) (by intros;rfl))) (by intros;rfl))) (by intros;rfl))) (by intros;rfl));have H_st:∀base:Heap,K.In base→base.Ns mainGlobals mg→Has l.prog w K mg base "steps_in" 1 ["tree"] ei:=fun base _ _=>d15.h1 (qc (base:=base) am bi bT) (by intros;rfl);have H_gr:HasB l.prog w K mg "grown" 9 ["tree","of_stream","of_two"] (eu l.prog w K mg 8):=⟨_,_,fun base kb nb=>qL (k:=8) (by decide) (H_st base kb nb) F18,b18,F18.kp,m18⟩;have h_gl:=Has.of (yr (T:=T0) l24 c24 (W.codeHd_of_K kb hcT0) hgP0 (hBt T0 (.head _)) H_gr H_lo H_ml m22 F22) b24 F24.kp m24;have h_lp:=Has.of (yg (T:=T1) l28 c28 (W.codeHd_of_K kb hcT1) hgP1 (hBt T1 (.tail _ (.head _))) H_gr H_sf H_mf m26 F26) b28 F28.kp m28;have h_si:=d16.h1 (O6 bi (H_st base kb nb)) (by intros;rfl);have yF:=d17.h1 (gM h_si) (by intros;rfl);have k8:=d4.h1 (P7 (P:=l.prog) (w:=w) (mg:=mg) (base:=base)) (by intros;rfl);have qu:=d5.h1 (gQ k8) (by intros;rfl);have v4:=d33.h1 (tI k8) (by intros;rfl);have uD:=d34.h1 (pj qu) (by intros;rfl);have yj:=d36.h1 (yw (P:=l.prog) (w:=w) (mg:=mg) (base:=base)) (by intros;rfl);have h_lo:=d37.h1 (m6 yj v4) (by intros;rfl);have h_hi:=d38.h1 (jW yj uD) (by intros;rfl);have h1:=d0.h1 (jy (P:=l.prog) (w:=w) (mg:=mg) (base:=base) am dm c8) (by intros;rfl);have h2:=d1.h2 (Ri h1) (by intros;rfl);have h3:=d2.h3 (Tt h2) (by intros;rfl);have h6:=d6.h1 (Rh (P:=l.prog) (w:=w) (mg:=mg) (base:=base)) (by intros;rfl);have h7:=d12.h3 (qP h6) (by intros;rfl);have h8:=d3.h2 (ur (P:=l.prog) (w:=w) (mg:=mg) (base:=base) aM) (by intros;rfl);have h9:=d25.h1 (wH (P:=l.prog) (w:=w) (mg:=mg) (base:=base) eN) (by intros;rfl);have h10:=d29.h1 (xq h8) (by intros;rfl);have h11:=d8.h2 (O7 am bF bT h3 qu) (by intros;rfl);have h12:=d30.h3 (om pD aM h10 h9 h11 h7) (by intros;rfl);have h13:=d31.h2 (vP aM aN h10 h6 h8) (by intros;rfl);have h14:=d32.h2 (xP h13 h12) (by intros;rfl);have h15:=d35.h2 (tX h14) (by intros;rfl);have vy:=d47.h1 (wU (P:=l.prog) (w:=w) (mg:=mg) (base:=base)) (by intros;rfl);have yp:=d49.h3 (xg aM vy) (by intros;rfl);have zt:=d48.h2 (wv eN aN vy) (by intros;rfl);have xK:=d50.h2 (vC am c8 bi zt h14 h15 yp h12) (by intros;rfl);have xN:=d52.h3 (vM bi aN bT dm c9) (by intros;rfl);have h_ts:=d51.h4 (zo h_lp yF h12) (by intros;rfl);exact xw hne01 x_ c9 xC vG yF h_gl h_ts h_lo h_hi xK h14 xN aN dm F53
theorem walk{l:W.OpenLaw}{q:Program}{loose:List Str}{XP:(Str→Option Value)→Heap→Prop}{YP:World→Heap→Prop}{d:DefRec}{K:Params→W.Frag}{c_0 T0 c_1 T1:Addr}(hn:l.most=some 63)(hdf:d.params.defaults=[])(hY:∀(w:World) (h:Heap),YP w h→(K w.params).In h)(hT:∀(w:World) (mg mb:Str→Option Value) (loose':List Str) (mean:ExcName→Option Value) (h:Heap),PyProof.Rows.Top q loose' mean mg mb h→(K w.params).In h→W.TabsAt [(c_0,T0),(c_1,T1)] h)(hKT0:∀(w:World),(K w.params).lookup T0=none)(hKT1:∀(w:World),(K w.params).lookup T1=none)(F:∀(w:World) (mg:Str→Option Value) (fa:Addr) (h:Heap),(K w.params).In h→h.Ns mainGlobals mg→mg d.name=some (.ref fa)→
   ∃fd:FuncData,(∀(s:Shared) (u:Value),BindsTo s fd ⟨[u],[]⟩ [("_law_script",u)])∧∀base:Heap,(K w.params).In base→base.Ns mainGlobals mg→(∀U∈([(c_0,T0),(c_1,T1)]:List (Addr×Addr)).map (·.2),base.BuiltinsAt mg U)→FnOk l.prog w (K w.params) mg base CX0 20 fa fd ["_law_script"] (lc (K w.params) T0 T1)):
  W.WalkO q loose XP YP l.row.toRowW d [] (fun f vs=>PySem.call f vs):=
 L2.walk_T (n:=63) (k:=20) (x:="_law_script") (tabs:=[(c_0,T0),(c_1,T1)]) (sp:=fun w=>lc (K w.params) T0 T1) hn (by decide) hdf ⟨rfl,by decide,by decide⟩ hY hT (fun w U h=>by
  have h:U∈[T0,T1]:=h;simp only[List.mem_cons,List.not_mem_nil,or_false]at h
  rcases h with h | h
  ·rw[h];exact hKT0 w
  ·rw[h];exact hKT1 w
  ) F (fun _ _ a ns hl hS hTT=>⟨a,ns,rfl,hS,hl,⟨.inl (hTT T0 (.head _))⟩,⟨.inl (hTT T1 (.tail _ (.head _)))⟩,fun _=>rfl⟩)
end K34
def PySem.W.Fast.tw18224517177106311695:PySem.Program:=PySem.Challenge.pw_sumshare_k34_whole_papers_where_it_fits
theorem PySem.W.Fast.te18224517177106311695:PySem.Challenge.pw_sumshare_k34_whole_papers_where_it_fits=PySem.W.Fast.tw18224517177106311695:=rfl
def K34.qv:PySem.Program:=PySem.W.view PySem.Challenge.pw_sumshare_k34_whole_papers_where_it_fits [1,2,3,4,6,7,8,10,11,12,13,14,16,17,18,19,20,21,23,24,25,26,28,29,30,31,32,33,35,37,38,39,40,41,42,43,45,46,48,49,50,51,53,54,55,56,57,58,59,60,61,62,63,64,65,66,67]
open PySem PySem.W PyProof.Rows
local macro_rules | `(tactic| o_head $H)=>`(tactic| (refine holds_open (q:=K34.qv) (loose:=[]) (Xt:=fun s=>xlAt K34.qv [] s && recOk [] s) (XP:=XL K34.qv []) (Yf:=Hook.obs $H) (Ya:=Hook.val $H) (YP:=Hook.says $H) (N:=1000000) ?hl (Hook.of $H) (Hook.keeps $H) (fun s e=>xl_of s (Bool.and_eq_true_iff.mp e).1) XL.keeps (by rfl) (by rfl) (by rfl) (fun s e=>recFacts_of (Bool.and_eq_true_iff.mp e).2) (by rfl) (by first | assumption | decide +kernel) (by decide +kernel) ⟨rfl,rfl,rfl,rfl,rfl,by decide +kernel⟩ ?hw ?hc;(case hl=>exact Hd.leftM (p:=PySem.Challenge.pw_sumshare_k34_whole_papers_where_it_fits) rfl (fun _=>rfl) (fun w os=>by kernel_rfl) (fun w os=>by kernel_rfl) rfl fun w os=>by kernel_rfl)))
set_option maxRecDepth 100000 in
set_option maxHeartbeats 0 in
theorem PySem.Challenge.cw_sumshare_k34_whole_papers_where_it_fits_holds : PySem.Challenge.rw_sumshare_k34_whole_papers_where_it_fits.Holds := by
 w_on;o_law;k_head;(case hw=>w_witness2)
 k_fill
 refine K34.walk (l:=PySem.Challenge.rw_sumshare_k34_whole_papers_where_it_fits) (c_0:=223) (T0:=219) (c_1:=249) (T1:=245) rfl rfl (fun w h Y=>PySem.W.km_in_of Y) (fun w mg mb lo mean h TT X=>List.forall_mem_cons.mpr ⟨PySem.W.tab_of (x:=PySem.Str.ofString "grown_ladder") (c:=223) (P:=219) TT X rfl (by kernel_rfl),List.forall_mem_cons.mpr ⟨PySem.W.tab_of (x:=PySem.Str.ofString "ladder_paper") (c:=249) (P:=245) TT X rfl (by kernel_rfl),fun _ h=>nomatch h⟩⟩) (fun w=>by kernel_rfl) (fun w=>by kernel_rfl) ?F
 case F=>
  intro w mg fa h KX G hmg
  refine' K34.all_mk (c_0:=223) (T0:=219) (c_1:=249) (T1:=245) KX G hmg (L2.df_mk KX G ?_ ?_ ?_ ?_) (L2.df_mk KX G ?_ ?_ ?_ ?_) (L2.df_mk KX G ?_ ?_ ?_ ?_) (L2.df_mk KX G ?_ ?_ ?_ ?_) (L2.df_mk KX G ?_ ?_ ?_ ?_) (L2.df_mk KX G ?_ ?_ ?_ ?_) (L2.df_mk KX G ?_ ?_ ?_ ?_) (L2.df_mk KX G ?_ ?_ ?_ ?_) (L2.df_mk KX G ?_ ?_ ?_ ?_) (L2.df_mk KX G ?_ ?_ ?_ ?_) (L2.df_mk KX G ?_ ?_ ?_ ?_) (L2.df_mk KX G ?_ ?_ ?_ ?_) (L2.df_mk KX G ?_ ?_ ?_ ?_) (L2.df_mk KX G ?_ ?_ ?_ ?_) (L2.df_mk KX G ?_ ?_ ?_ ?_) (L2.df_mk KX G ?_ ?_ ?_ ?_) (L2.df_mk KX G ?_ ?_ ?_ ?_) (L2.df_mk KX G ?_ ?_ ?_ ?_) (L2.df_mk KX G ?_ ?_ ?_ ?_) (L2.df_mk KX G ?_ ?_ ?_ ?_) (L2.df_mk KX G ?_ ?_ ?_ ?_) (L2.df_mk KX G ?_ ?_ ?_ ?_) (L2.df_mk KX G ?_ ?_ ?_ ?_) (L2.df_mk KX G ?_ ?_ ?_ ?_) ?a24 ?l24 ?c24 ?k24 (L2.df_mk KX G ?_ ?_ ?_ ?_) (L2.df_mk KX G ?_ ?_ ?_ ?_) (L2.df_mk KX G ?_ ?_ ?_ ?_) ?a28 ?l28 ?c28 ?k28 (L2.df_mk KX G ?_ ?_ ?_ ?_) (L2.df_mk KX G ?_ ?_ ?_ ?_) (L2.df_mk KX G ?_ ?_ ?_ ?_) (L2.df_mk KX G ?_ ?_ ?_ ?_) (L2.df_mk KX G ?_ ?_ ?_ ?_) (L2.df_mk KX G ?_ ?_ ?_ ?_) (L2.df_mk KX G ?_ ?_ ?_ ?_) (L2.df_mk KX G ?_ ?_ ?_ ?_) (L2.df_mk KX G ?_ ?_ ?_ ?_) (L2.df_mk KX G ?_ ?_ ?_ ?_) (L2.df_mk KX G ?_ ?_ ?_ ?_) (L2.df_mk KX G ?_ ?_ ?_ ?_) (L2.df_mk KX G ?_ ?_ ?_ ?_) (L2.df_mk KX G ?_ ?_ ?_ ?_) (L2.df_mk KX G ?_ ?_ ?_ ?_) (L2.df_mk KX G ?_ ?_ ?_ ?_) (L2.df_mk KX G ?_ ?_ ?_ ?_) (L2.df_mk KX G ?_ ?_ ?_ ?_) (L2.df_mk KX G ?_ ?_ ?_ ?_) (L2.df_mk KX G ?_ ?_ ?_ ?_) (L2.df_mk KX G ?_ ?_ ?_ ?_) (L2.df_mk KX G ?_ ?_ ?_ ?_) (L2.df_mk KX G ?_ ?_ ?_ ?_) (L2.df_mk KX G ?_ ?_ ?_ ?_) ?a53 ?l53 ?c53 ?k53 (AL KX G ?_) (AL KX G ?_) (AL KX G ?_) (AL KX G ?_) (AL KX G ?_) (AL KX G ?_) (AL KX G ?_) (AL KX G ?_) (AL KX G ?_) (AL KX G ?_) (AL KX G ?_) ?hcT0 ?hgP0 ?hcT1 ?hgP1 ?hne01
  (case a24=>k_is);(case l24=>k_is);(case c24=>k_is);(case k24=>k_is)
  (case a28=>k_is);(case l28=>k_is);(case c28=>k_is);(case k28=>k_is)
  (case a53=>k_is);(case l53=>k_is);(case c53=>k_is);(case k53=>k_is)
  (case hcT0=>kernel_rfl);(case hgP0=>decide)
  (case hcT1=>kernel_rfl);(case hgP1=>decide)
  (case hne01=>decide)
  any_goals k_is
