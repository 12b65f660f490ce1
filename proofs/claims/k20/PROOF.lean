import PyProof.Rows.All
import Wide.All
import OpenK.AllK
import Wide.FinOn
import Lean
import PyProof.EqAt
import PyProof.EqKinds
import PyProof.TupleCall
import PySem.Challenge.RW_sumshare_k20_whole_papers_of_merged_tree
set_option Elab.async false
set_option linter.all false
set_option maxRecDepth 100000
section
open PySem PySem.Spec PyProof.Rows
theorem ae:type_of%@PySem.wpAny_bind:=@PySem.wpAny_bind
theorem aq.{u0,u1}:type_of%@List.length_map.{u0,u1}:=@List.length_map.{u0,u1}
theorem az:type_of%@PySem.Heap.get?_push_of_some:=@PySem.Heap.get?_push_of_some
theorem io:type_of%@PySem.wpAny_pure:=@PySem.wpAny_pure
theorem pi:type_of%@Nat.le_refl:=@Nat.le_refl
theorem wC.{u0}:type_of%@Array.getElem?_eq_getElem.{u0}:=@Array.getElem?_eq_getElem.{u0}
theorem wD:type_of%@PySem.Heap.get?_push_size:=@PySem.Heap.get?_push_size
theorem wE:type_of%@PySem.Heap.lt_size:=@PySem.Heap.lt_size
theorem wG.{u0}:type_of%@Array.length_toList.{u0}:=@Array.length_toList.{u0}
theorem wH.{u0}:type_of%@List.length_append.{u0}:=@List.length_append.{u0}
theorem wI.{u0}:type_of%@Array.getElem?_toList.{u0}:=@Array.getElem?_toList.{u0}
theorem wJ:type_of%@Bool.false_ne_true:=@Bool.false_ne_true
theorem wK.{u0}:type_of%@if_neg.{u0}:=@if_neg.{u0}
theorem wL.{u0}:type_of%@List.getElem?_eq_some_iff.{u0}:=@List.getElem?_eq_some_iff.{u0}
theorem wM.{u0}:type_of%@if_pos.{u0}:=@if_pos.{u0}
theorem wN:type_of%@PyProof.Rows.wpS_pure:=@PyProof.Rows.wpS_pure
theorem wO.{u0,u1}:type_of%@List.map_append.{u0,u1}:=@List.map_append.{u0,u1}
theorem wP.{u0}:type_of%@List.mem_append_right.{u0}:=@List.mem_append_right.{u0}
theorem wQ:type_of%@PyProof.Rows.wpS_bind:=@PyProof.Rows.wpS_bind
theorem wR.{u0}:type_of%@List.mem_singleton.{u0}:=@List.mem_singleton.{u0}
theorem wS:type_of%@Nat.ne_of_lt:=@Nat.ne_of_lt
theorem wT.{u0}:type_of%@List.length_take.{u0}:=@List.length_take.{u0}
theorem wU:type_of%@of_decide_eq_true:=@of_decide_eq_true
theorem wV:type_of%@decide_eq_true:=@decide_eq_true
theorem wW.{u0,u1}:type_of%@List.mem_map.{u0,u1}:=@List.mem_map.{u0,u1}
theorem wX.{u0}:type_of%@List.mem_cons.{u0}:=@List.mem_cons.{u0}
theorem wY.{u0}:type_of%@List.mem_append.{u0}:=@List.mem_append.{u0}
theorem wZ.{u0}:type_of%@List.mem_of_getElem?.{u0}:=@List.mem_of_getElem?.{u0}
theorem xc.{u0}:type_of%@List.pairwise_cons.{u0}:=@List.pairwise_cons.{u0}
theorem xf.{u0}:type_of%@List.mem_cons_self.{u0}:=@List.mem_cons_self.{u0}
theorem xg:type_of%@decide_eq_false:=@decide_eq_false
theorem xh.{u0}:type_of%@List.size_toArray.{u0}:=@List.size_toArray.{u0}
theorem xi.{u0,u1}:type_of%@List.getElem?_map.{u0,u1}:=@List.getElem?_map.{u0,u1}
theorem xj.{u0}:type_of%@List.getElem?_eq_getElem.{u0}:=@List.getElem?_eq_getElem.{u0}
theorem xk:type_of%@Nat.lt_of_lt_of_le:=@Nat.lt_of_lt_of_le
theorem xm.{u0,u1}:type_of%@Option.map_eq_some_iff.{u0,u1}:=@Option.map_eq_some_iff.{u0,u1}
theorem xn.{u0}:type_of%@beq_iff_eq.{u0}:=@beq_iff_eq.{u0}
theorem xp.{u0}:type_of%@List.take_length.{u0}:=@List.take_length.{u0}
theorem xq.{u0}:type_of%@List.length_cons.{u0}:=@List.length_cons.{u0}
theorem xr.{u0}:type_of%@List.mem_cons_of_mem.{u0}:=@List.mem_cons_of_mem.{u0}
theorem xt.{u0,u1}:type_of%@List.map_cons.{u0,u1}:=@List.map_cons.{u0,u1}
theorem xu:type_of%@PySem.mem_of_lookup:=@PySem.mem_of_lookup
theorem xv.{u0}:type_of%@List.mem_append_left.{u0}:=@List.mem_append_left.{u0}
theorem xw.{u0}:type_of%@List.append_assoc.{u0}:=@List.append_assoc.{u0}
theorem xx.{u0}:type_of%@List.pairwise_append.{u0}:=@List.pairwise_append.{u0}
theorem xA.{u0}:type_of%@Option.some.inj.{u0}:=@Option.some.inj.{u0}
theorem xB:type_of%@PyProof.Rows.boot_isinstance:=@PyProof.Rows.boot_isinstance
theorem xC.{u0}:type_of%@List.filter_cons.{u0}:=@List.filter_cons.{u0}
theorem xD.{u0,u1,u2}:type_of%@List.map_map.{u0,u1,u2}:=@List.map_map.{u0,u1,u2}
theorem xE:type_of%@PySem.W.mg_none_of:=@PySem.W.mg_none_of
theorem xF.{u0}:type_of%@List.append_nil.{u0}:=@List.append_nil.{u0}
theorem xG.{u0}:type_of%@List.nodup_cons.{u0}:=@List.nodup_cons.{u0}
theorem xH:type_of%@PySem.F.plainAttrs_list:=@PySem.F.plainAttrs_list
theorem xI.{u0}:type_of%@List.length_drop.{u0}:=@List.length_drop.{u0}
theorem xJ:type_of%@Bool.and_eq_true:=@Bool.and_eq_true
theorem xK.{u0}:type_of%@List.take_of_length_le.{u0}:=@List.take_of_length_le.{u0}
theorem xL.{u0}:type_of%@List.mem_iff_getElem?.{u0}:=@List.mem_iff_getElem?.{u0}
theorem xM.{u0}:type_of%@List.take_append_drop.{u0}:=@List.take_append_drop.{u0}
theorem xN.{u0}:type_of%@Array.toList_append.{u0}:=@Array.toList_append.{u0}
theorem xO:type_of%@Bool.eq_false_iff:=@Bool.eq_false_iff
theorem xP:type_of%@Nat.lt_or_ge:=@Nat.lt_or_ge
theorem xQ:type_of%@PySem.wpAny_holding:=@PySem.wpAny_holding
theorem xR.{u0}:type_of%@List.sum_cons.{u0}:=@List.sum_cons.{u0}
theorem xS:type_of%@PySem.PassesOwn.never:=@PySem.PassesOwn.never
theorem xT.{u0}:type_of%@List.getElem?_take.{u0}:=@List.getElem?_take.{u0}
theorem xU.{u0}:type_of%@List.length_replicate.{u0}:=@List.length_replicate.{u0}
theorem xV.{u0}:type_of%@List.length_filter_le.{u0}:=@List.length_filter_le.{u0}
theorem xW.{u0}:type_of%@List.mem_filter.{u0}:=@List.mem_filter.{u0}
theorem xX:type_of%@PySem.wpAny_mono:=@PySem.wpAny_mono
theorem xY.{u0}:type_of%@List.nodup_nil.{u0}:=@List.nodup_nil.{u0}
theorem xZ:type_of%@PySem.boot_len:=@PySem.boot_len
theorem x3:type_of%@Nat.le_trans:=@Nat.le_trans
theorem x4:type_of%@Nat.ne_of_gt:=@Nat.ne_of_gt
theorem x5.{u0}:type_of%@List.getElem?_drop.{u0}:=@List.getElem?_drop.{u0}
theorem x6:type_of%@PyProof.Rows.wpS_forRange:=@PyProof.Rows.wpS_forRange
theorem x8.{u0}:type_of%@List.sum_append.{u0}:=@List.sum_append.{u0}
theorem x9:type_of%@PySem.wpAny_call_entry:=@PySem.wpAny_call_entry
theorem ya:type_of%@Nat.le_add_right:=@Nat.le_add_right
theorem yc:type_of%@Nat.zero_le:=@Nat.zero_le
theorem yd.{u0}:type_of%@List.length_singleton.{u0}:=@List.length_singleton.{u0}
theorem ye:type_of%@Nat.le_of_lt:=@Nat.le_of_lt
theorem yg:type_of%@PyProof.Rows.boot_tuple:=@PyProof.Rows.boot_tuple
theorem yh.{u0}:type_of%@List.filter_append.{u0}:=@List.filter_append.{u0}
theorem yi:type_of%@PySem.Around.under_plainId:=@PySem.Around.under_plainId
theorem yj.{u0}:type_of%@List.mem_of_mem_take.{u0}:=@List.mem_of_mem_take.{u0}
theorem yk:type_of%@Bool.eq_iff_iff:=@Bool.eq_iff_iff
theorem ym:type_of%@PySem.codeAny_builtin:=@PySem.codeAny_builtin
theorem yn.{u0}:type_of%@List.all_eq_true.{u0}:=@List.all_eq_true.{u0}
theorem yo.{u0}:type_of%@List.drop_of_length_le.{u0}:=@List.drop_of_length_le.{u0}
theorem yp:type_of%@PySem.wpAny_newObj_type:=@PySem.wpAny_newObj_type
theorem yq:type_of%@Nat.lt_succ_of_lt:=@Nat.lt_succ_of_lt
theorem yr:type_of%@Bool.false_and:=@Bool.false_and
theorem yt:type_of%@PyProof.Rows.boot_sorted:=@PyProof.Rows.boot_sorted
theorem yu:type_of%@Nat.lt_trans:=@Nat.lt_trans
theorem yw.{u0,u1}:type_of%@List.mem_filterMap.{u0,u1}:=@List.mem_filterMap.{u0,u1}
theorem yx:type_of%@PySem.wpAny_truthy_bool:=@PySem.wpAny_truthy_bool
theorem yy.{u0,u1}:type_of%@congrArg.{u0,u1}:=@congrArg.{u0,u1}
theorem yA:type_of%@PySem.Heap.size_push:=@PySem.Heap.size_push
theorem yB.{u0}:type_of%@List.getD_eq_getElem?_getD.{u0}:=@List.getD_eq_getElem?_getD.{u0}
theorem yC:type_of%@PySem.wpAny_seqItems:=@PySem.wpAny_seqItems
theorem yD:type_of%@PyProof.Rows.wpS_mono:=@PyProof.Rows.wpS_mono
theorem yE:type_of%@PySem.F.slot_tuple_iterator_next:=@PySem.F.slot_tuple_iterator_next
theorem yF.{u0}:type_of%@Array.size_push.{u0}:=@Array.size_push.{u0}
theorem yG.{u0}:type_of%@List.pairwise_iff_getElem.{u0}:=@List.pairwise_iff_getElem.{u0}
theorem yH.{u0}:type_of%@List.extract_eq_take_drop.{u0}:=@List.extract_eq_take_drop.{u0}
theorem yI:type_of%@PyProof.Rows.boot_all:=@PyProof.Rows.boot_all
theorem yJ:type_of%@of_decide_eq_false:=@of_decide_eq_false
theorem yK:type_of%@Nat.lt_irrefl:=@Nat.lt_irrefl
theorem yL.{u0}:type_of%@List.eq_nil_of_length_eq_zero.{u0}:=@List.eq_nil_of_length_eq_zero.{u0}
theorem yM.{u0}:type_of%@List.take_sublist.{u0}:=@List.take_sublist.{u0}
theorem yN:type_of%@PySem.wpAny_callSpecial?_slot:=@PySem.wpAny_callSpecial?_slot
theorem yO.{u0}:type_of%@Array.toList_push.{u0}:=@Array.toList_push.{u0}
theorem yP:type_of%@Bool.not_eq_true':=@Bool.not_eq_true'
theorem yQ:type_of%@PySem.wpAny_rule:=@PySem.wpAny_rule
theorem yR:type_of%@PyProof.Rows.callWith_type1:=@PyProof.Rows.callWith_type1
theorem yS:type_of%@PySem.wpAny_field:=@PySem.wpAny_field
theorem yT:type_of%@PySem.wpAny_Call_Name_kw:=@PySem.wpAny_Call_Name_kw
theorem yU.{u0}:type_of%@Array.getElem?_eq_some_iff.{u0}:=@Array.getElem?_eq_some_iff.{u0}
theorem yV.{u0}:type_of%@Array.size_extract.{u0}:=@Array.size_extract.{u0}
theorem yW.{u0}:type_of%@Array.perm_iff_toList_perm.{u0}:=@Array.perm_iff_toList_perm.{u0}
theorem yX.{u0}:type_of%@Option.ne_none_iff_exists'.{u0}:=@Option.ne_none_iff_exists'.{u0}
theorem yY:type_of%@PySem.wpAny_passesOwn:=@PySem.wpAny_passesOwn
theorem yZ.{u0}:type_of%@List.length_nil.{u0}:=@List.length_nil.{u0}
theorem y3:type_of%@Nat.min_eq_left:=@Nat.min_eq_left
theorem y4.{u0}:type_of%@List.reverse_cons.{u0}:=@List.reverse_cons.{u0}
theorem y7.{u0}:type_of%@List.mem_iff_getElem.{u0}:=@List.mem_iff_getElem.{u0}
theorem y8.{u0}:type_of%@List.nodup_append.{u0}:=@List.nodup_append.{u0}
theorem y9:type_of%@PySem.wpAny_setState_of:=@PySem.wpAny_setState_of
theorem zc:type_of%@List.length_range:=@List.length_range
theorem zd.{u0}:type_of%@Array.toList_extract.{u0}:=@Array.toList_extract.{u0}
theorem ze:type_of%@PySem.F.slot_dict_values:=@PySem.F.slot_dict_values
theorem zf:type_of%@Nat.add_assoc:=@Nat.add_assoc
theorem zg:type_of%@PySem.F.slot_list_append:=@PySem.F.slot_list_append
theorem zh:type_of%@PySem.F.type_list_append:=@PySem.F.type_list_append
theorem zi.{u0,u1}:type_of%@List.filterMap_cons.{u0,u1}:=@List.filterMap_cons.{u0,u1}
theorem zj.{u0}:type_of%@List.filter_sublist.{u0}:=@List.filter_sublist.{u0}
theorem zk.{u0,u1}:type_of%@List.lookup_cons.{u0,u1}:=@List.lookup_cons.{u0,u1}
theorem zm:type_of%@PySem.F.plain_list_iadd:=@PySem.F.plain_list_iadd
theorem zn.{u0}:type_of%@List.Perm.refl.{u0}:=@List.Perm.refl.{u0}
theorem zo:type_of%@PySem.codeAny_mono:=@PySem.codeAny_mono
theorem zq:type_of%@PySem.Heap.get?_update_other:=@PySem.Heap.get?_update_other
theorem zt:type_of%@PySem.Calls.callWith_builtin:=@PySem.Calls.callWith_builtin
theorem zu:type_of%@Nat.lt_of_le_of_lt:=@Nat.lt_of_le_of_lt
theorem zv:type_of%@Int.emod_lt_of_pos:=@Int.emod_lt_of_pos
theorem zx.{u0}:type_of%@Array.getElem?_eq_none.{u0}:=@Array.getElem?_eq_none.{u0}
theorem zy:type_of%@PyProof.Rows.wpS_modify:=@PyProof.Rows.wpS_modify
theorem zA:type_of%@Nat.zero_add:=@Nat.zero_add
theorem zB:type_of%@PySem.Paired.length:=@PySem.Paired.length
theorem zC:type_of%@PySem.W.kia_one:=@PySem.W.kia_one
theorem zD:type_of%@PySem.F.slot_list_pop:=@PySem.F.slot_list_pop
theorem zE:type_of%@PySem.F.type_list_pop:=@PySem.F.type_list_pop
theorem zF.{u0,u1}:type_of%@List.filterMap_append.{u0,u1}:=@List.filterMap_append.{u0,u1}
theorem zG:type_of%@PySem.F.slot_zip_next:=@PySem.F.slot_zip_next
theorem zH:type_of%@PyProof.Rows.boot_sum:=@PyProof.Rows.boot_sum
theorem zI.{u0}:type_of%@List.take_add_one.{u0}:=@List.take_add_one.{u0}
theorem zJ.{u0}:type_of%@List.drop_sublist.{u0}:=@List.drop_sublist.{u0}
theorem zK.{u0,u1}:type_of%@List.foldl_append.{u0,u1}:=@List.foldl_append.{u0,u1}
theorem zL.{u0}:type_of%@Array.mem_toList_iff.{u0}:=@Array.mem_toList_iff.{u0}
theorem zM:type_of%@Bool.and_false:=@Bool.and_false
theorem zN.{u0}:type_of%@List.drop_drop.{u0}:=@List.drop_drop.{u0}
theorem zO.{u0}:type_of%@List.mem_of_mem_drop.{u0}:=@List.mem_of_mem_drop.{u0}
theorem zP.{u0}:type_of%@Array.toList_reverse.{u0}:=@Array.toList_reverse.{u0}
theorem zQ:type_of%@Bool.and_eq_true_iff:=@Bool.and_eq_true_iff
theorem zR:type_of%@PySem.wpAny_typeOf:=@PySem.wpAny_typeOf
theorem zS:type_of%@Nat.lt_succ_self:=@Nat.lt_succ_self
theorem zU:type_of%@Bool.true_and:=@Bool.true_and
theorem zV:type_of%@PySem.plainId_quiet:=@PySem.plainId_quiet
theorem zW:type_of%@PySem.wpAny_newList:=@PySem.wpAny_newList
theorem zX:type_of%@PySem.wpAny_loadPart':=@PySem.wpAny_loadPart'
theorem zY:type_of%@Int.emod_nonneg:=@Int.emod_nonneg
theorem zZ:type_of%@PySem.wpAny_load:=@PySem.wpAny_load
theorem z5:type_of%@Int.le_refl:=@Int.le_refl
theorem z6.{u0,u1}:type_of%@Sum.inr.inj.{u0,u1}:=@Sum.inr.inj.{u0,u1}
theorem z7:type_of%@PyProof.Rows.wpS_get:=@PyProof.Rows.wpS_get
end
namespace L2
open PySem PySem.Spec PyProof.Rows
abbrev Key:=Sum Int Str
def dI:Key→Value→Bool
 |.inl k,v=>Value.isInt k v
 |.inr x,v=>Value.isStrOf x v
def keyH(w:World):Key→Int
 |.inl k=>hashInt k
 |.inr x=>hashStr w x
theorem Y0:∀{k:Key}{v:Value},dI k v=true→(∃i t,k=Sum.inl i∧v=Value.int i t)∨(∃x t,k=Sum.inr x∧v=Value.str x t)
 |.inl i,v,h=>by
  obtain⟨t,e⟩:=Value.isInt_shape (k:=i) (v:=v) h;exact .inl ⟨i,t,rfl,e⟩
 |.inr x,v,h=>by
  obtain⟨t,e⟩:=Value.isStrOf_shape (x:=x) (v:=v) h;exact .inr ⟨x,t,rfl,e⟩
theorem kR(i:Int)(t:Tok):dI (.inl i) (.int i t)=true:=by simp[dI,Value.isInt]
theorem me(x:Str)(t:Tok):dI (.inr x) (.str x t)=true:=by simp[dI,Value.isStrOf]
theorem uq(a b:Int):decide ((Sum.inl a:Key)=Sum.inl b)=(a==b):=by
 by_cases e:a=b
 ·subst e;simp
 ·have h:¬(Sum.inl a:Key)=Sum.inl b:=fun q=>e (Sum.inl.inj q);rw[xg h];exact(beq_eq_false_iff_ne.mpr e).symm
theorem tQ(a b:Str):decide ((Sum.inr a:Key)=Sum.inr b)=decide (a=b):=by
 by_cases e:a=b
 ·subst e;simp
 ·have h:¬(Sum.inr a:Key)=Sum.inr b:=fun q=>e (z6 q);rw[xg h,xg e]
theorem uM(a:Int)(b:Str):decide ((Sum.inl a:Key)=Sum.inr b)=false:=xg (fun q=>nomatch q)
theorem ux(a:Str)(b:Int):decide ((Sum.inr a:Key)=Sum.inl b)=false:=xg (fun q=>nomatch q)
def ad(prog:Program)(w:World):PySem.KeyKind prog w Key where
 is:=dI
 hash:=keyH w
 inj:=fun v a b ha hb=>by
  rcases Y0 ha with⟨i,t,rfl,rfl⟩|⟨x,t,rfl,rfl⟩
  ·rcases Y0 hb with⟨j,u,rfl,e⟩|⟨y,u,rfl,e⟩
   ·injection e with e1 _;rw[e1]
   ·exact nomatch e
  ·rcases Y0 hb with⟨j,u,rfl,e⟩|⟨y,u,rfl,e⟩
   ·exact nomatch e
   ·injection e with e1 _;rw[e1]
 byValue:=fun k v h=>by
  rcases Y0 h with⟨i,t,rfl,rfl⟩|⟨x,t,rfl,rfl⟩ <;> rfl
 pyHash:=fun hv h=>by
  rcases Y0 hv with⟨i,t,rfl,rfl⟩|⟨x,t,rfl,rfl⟩
  ·exact wpAny_pyHash_int h
  ·exact wpAny_pyHash_str h
 eqBool:=fun hu hv h=>by
  rcases Y0 hu with⟨i,t,rfl,rfl⟩|⟨x,t,rfl,rfl⟩
  ·rcases Y0 hv with⟨j,u,rfl,rfl⟩|⟨y,u,rfl,rfl⟩
   ·rw[uq]at h;exact wpAny_eqBool_int h
   ·rw[uM]at h;exact SeqAt.EqAt.int_str i t y u _ _ _ _ h
  ·rcases Y0 hv with⟨j,u,rfl,rfl⟩|⟨y,u,rfl,rfl⟩
   ·rw[ux]at h;exact SeqAt.EqAt.str_int x t j u _ _ _ _ h
   ·rw[tQ]at h;exact wpAny_eqBool_str h
 «strs»:=fun k x t v h=>by
  rcases Y0 h with⟨i,u,rfl,e⟩|⟨y,u,rfl,e⟩
  ·exact nomatch e
  ·injection e with e1 _
   subst e1;cases v <;> rfl
theorem Sa(prog:Program)(w:World)(i:Int)(t:Tok):(ad prog w).is (.inl i) (.int i t)=true:=kR i t
theorem Vh(prog:Program)(w:World)(x:Str)(t:Tok):(ad prog w).is (.inr x) (.str x t)=true:=me x t
inductive V where
 |non | bl (b:Bool) | int (i:Int) | str (x:Str) | byt (b:Array UInt8) | flt (b:UInt64) | ref (a:Addr) | ty (n:String)
 deriving DecidableEq
def RelV:V→Value→Prop
 |.non,u=>u=Value.none
 |.bl b,u=>u=Value.bool b
 |.int i,u=>∃t,u=Value.int i t
 |.str x,u=>∃t,u=Value.str x t
 |.byt b,u=>∃t,u=Value.bytes b t
 |.flt b,u=>∃t,u=Value.float b t
 |.ref a,u=>u=Value.ref a
 |.ty n,u=>u=Value.type n
abbrev Vals:List V→List Value→Prop:=Paired RelV
theorem Vals.length{xs:List V}{us:List Value}(r:Vals xs us):xs.length=us.length:=zB r
theorem Vals.get:∀{xs:List V}{us:List Value}{i:Nat}{x:V},Vals xs us→xs[i]?=some x→∃u,us[i]?=some u∧RelV x u
 |_,_,_,_,.nil,e=>by simp at e
 |_,_,0,_,.cons r _,e=>by simp at e;subst e;exact⟨_,rfl,r⟩
 |_,_,i+1,x,.cons _ t,e=>by
  obtain⟨u,h1,h2⟩:=Vals.get (i:=i) (x:=x) t (by simpa using e);exact⟨u,by simpa using h1,h2⟩
theorem Vals.set{x:V}{u:Value}(r:RelV x u):∀{xs:List V}{us:List Value}(i:Nat),Vals xs us→Vals (xs.set i x) (us.set i u)
 |_,_,_,.nil=>.nil
 |_,_,0,.cons _ t=>.cons r t
 |_,_,i+1,.cons q t=>.cons q (Vals.set r i t)
theorem Vals.append{xs ys:List V}{us ws:List Value}(h:Vals xs us)(s:Vals ys ws):Vals (xs++ys) (us++ws):=by
 induction h with
 |nil=>exact s
 |cons r t ih=>exact .cons r ih
theorem Vals.take:∀{xs:List V}{us:List Value}(n:Nat),Vals xs us→Vals (xs.take n) (us.take n)
 |_,_,0,_=>.nil
 |_,_,_+1,.nil=>.nil
 |_,_,n+1,.cons r t=>.cons r (Vals.take n t)
theorem Vals.drop:∀{xs:List V}{us:List Value}(n:Nat),Vals xs us→Vals (xs.drop n) (us.drop n)
 |_,_,0,r=>r
 |_,_,_+1,.nil=>.nil
 |_,_,n+1,.cons _ t=>Vals.drop n t
def RelO:Option V→Option Value→Prop
 |some v,some u=>RelV v u
 |none,none=>True
 |_,_=>False
def KV{κ:Type}:List (κ×V)→List (κ×Value)→Prop:=Paired fun(p:κ×V)(q:κ×Value)=>p.1=q.1∧RelV p.2 q.2
def kV:Key→V
 |.inl i=>.int i
 |.inr x=>.str x
inductive HO where
 |lst (xs:List V)
 |tup (xs:List V)
 |dK (kvs:List (Key×V)) | dT (kvs:List (List Key×V))
 |set (S:Int→Bool) (n:Nat)
 |ins (C dx:Addr) (fs:List (Str×V))
 |own (x:Addr)
 |xd (fs:List (Str×V))
 |met (f x:Addr)
 |rng (lo hi:Int)
 |frz (o:Obj) (u:HO)
 |tbl (ps:Array Value)
 |ext (φ:Heap→Prop)
abbrev Hp:=Addr→Option HO
def upd(H:Hp)(a:Addr)(o:HO):Hp:=fun b=>if b=a then some o else H b
theorem Z5{H:Hp}{a:Addr}{o:HO}:upd H a o a=some o:=by unfold upd;rw[wM rfl]
theorem Z9{H:Hp}{a b:Addr}{o:HO}(h:b≠a):upd H a o b=H b:=by unfold upd;rw[wK h]
theorem jY{H:Hp}{a:Addr}{o u:HO}:upd (upd H a o) a u=upd H a u:=by
 funext b;unfold upd;split <;> rfl
theorem mH{H:Hp}{a b:Addr}{o u:HO}(h:H a=some o)(h':H b=some u)(d:o≠u):a≠b:=by
 intro e;subst e;rw[h]at h';exact d (xA h')
theorem Zh{H:Hp}{a b:Addr}{o:HO}(h:H a=some o)(h':H b=none):a≠b:=by
 intro e;subst e;rw[h]at h';cases h'
def TupN(h:Heap)(a:Addr)(items:Array Value):Prop:=∃o,h.get? a=some o∧(o.cls=.type "tuple"∧o.dict=none)∧∃n,o.data=.seq items n
theorem TupN.tup{h:Heap}{a:Addr}{items:Array Value}(x:TupN h a items):IsTup h a items:=let ⟨o,e,c,n,d⟩:=x;⟨o,e,c.1,n,d⟩
theorem TupN.new(h:Heap)(items:Array Value):TupN (h.push {cls:=.type "tuple",data:=.seq items}) h.objs.size items:=⟨_,wD _ rfl,⟨rfl,rfl⟩,_,rfl⟩
section
variable(P:Program)(w:World)
def ObjOk(H:Hp)(h:Heap)(a:Addr):HO→Prop
 |.lst xs=>xs.length≤sizeLine∧∃(its:List Value)(n:Nat),Vals xs its∧h.get? a=some {cls:=.type "list",data:=.seq its.toArray n}
 |.tup xs=>xs.length≤sizeLine∧∃its:List Value,Vals xs its∧TupN h a its.toArray
 |.dK kvs=>kvs.length≤sizeLine∧(a==sysModules)=false∧∃vs,KV kvs vs∧h.DictOf (ad P w) a vs
 |.dT kvs=>kvs.length≤sizeLine∧(a==sysModules)=false∧∃xs:List (List Key×Addr×Value),
   Paired (fun(p:List Key×V)(q:List Key×Addr×Value)=>p.1=q.1∧H q.2.1=some (.tup (p.1.map kV))∧RelV p.2 q.2.2) kvs xs∧
   ∃o es ep,h.get? a=some o∧o.ExactDict∧o.data=.dict es ep∧es.toList=xs.map (entryOfKey (tupleKind (ad P w)))∧(xs.map (·.1)).Nodup
 |.set S n=>h.SetOf (intKind P w) a S n
 |.ins C dx fs=>H dx=some (.own a)∧fs.length≤1000∧dx≠a∧h.get? a=some (W.instObj C dx)∧
   ∃mA,h.Ns1 dx mA∧(∀f,RelO (fs.lookup f) (mA f))∧PySem.Within mA (fs.map (·.1))
 |.own _=>∃o,h.get? a=some o
 |.xd fs=>∃mA,h.Ns1 a mA∧∀f,RelO (fs.lookup f) (mA f)
 |.rng lo hi=>∃t u v,h.get? a=some {cls:=.type "range",data:=.fields #[.int lo t,.int hi u,.int 1 v]}
 |.frz o u=>h.get? a=some o∧ObjOk H h a u
 |.tbl ps=>h.get? a=some {cls:=.none,data:=.fields ps}
 |.met f x=>h.get? a=some (W.methodObj (.ref f) (.ref x))
 |.ext φ=>φ h∧(∃o,h.get? a=some o)∧∀h1 h2:Heap,φ h1→(∀o,h1.get? a=some o→h2.get? a=some o)→φ h2
def HOk(H:Hp)(h:Heap):Prop:=∀a o,H a=some o→ObjOk P w H h a o
end
section
variable{P:Program}{w:World}{H H':Hp}{h h':Heap}{a:Addr}{o:HO}
theorem ObjOk.lt(x:ObjOk P w H h a o):a<h.objs.size:=by
 cases o with
 |lst xs=>obtain⟨_,_,_,_,e⟩:=x;exact wE e
 |tup xs=>obtain⟨_,_,_,p⟩:=x;exact p.tup.lt
 |dK kvs=>obtain⟨_,_,_,_,o,_,_,e,_⟩:=x;exact wE e
 |dT kvs=>obtain⟨_,_,_,_,o,_,_,e,_⟩:=x;exact wE e
 |set S n=>obtain⟨o,_,_,_,e,_⟩:=x;exact wE e
 |ins C dx fs=>obtain⟨_,_,_,e,_⟩:=x;exact wE e
 |own y=>obtain⟨_,e⟩:=x;exact wE e
 |xd fs=>obtain⟨_,⟨_,_,_,e,_⟩,_⟩:=x;exact wE e
 |rng lo hi=>obtain⟨_,_,_,e⟩:=x;exact wE e
 |frz ob u=>obtain⟨e,_⟩:=x;exact wE e
 |tbl ps=>exact wE (show h.get? a=some _ from x)
 |met f y=>exact wE (show h.get? a=some _ from x)
 |ext φ=>obtain⟨_,⟨_,e⟩,_⟩:=x;exact wE e
theorem Paired.mapP{α β:Type}{F G:α→β→Prop}{l₁:List α}{l₂:List β}(h:Paired F l₁ l₂)(f:∀a b,F a b→G a b):Paired G l₁ l₂:=by
 induction h with
 |nil=>exact .nil
 |cons r t ih=>exact .cons (f _ _ r) ih
theorem ObjOk.stay(x:ObjOk P w H h a o)(k:∀b u,(b=a∨H b=some (.own a))→h.get? b=some u→h'.get? b=some u)(ho:∀b,H b=some (.own a)→H' b=some (.own a))(ht:∀b xs,H b=some (.tup xs)→H' b=some (.tup xs)):ObjOk P w H' h' a o:=by
 induction o with
 |lst xs=>obtain⟨z,its,n,r,e⟩:=x;exact⟨z,its,n,r,k _ _ (.inl rfl) e⟩
 |tup xs=>obtain⟨z,its,r,ob,e,c⟩:=x;exact⟨z,its,r,ob,k _ _ (.inl rfl) e,c⟩
 |dK kvs=>obtain⟨z,y,vs,r,ob,es,ep,e,c⟩:=x;exact⟨z,y,vs,r,ob,es,ep,k _ _ (.inl rfl) e,c⟩
 |dT kvs=>
  obtain⟨z,y,xs,r,ob,es,ep,e,c⟩:=x;exact⟨z,y,xs,Paired.mapP r fun p q z=>⟨z.1,ht _ _ z.2.1,z.2.2⟩,ob,es,ep,k _ _ (.inl rfl) e,c⟩
 |set S n=>obtain⟨ob,es,ep,t,e,c⟩:=x;exact⟨ob,es,ep,t,k _ _ (.inl rfl) e,c⟩
 |ins C dx fs=>
  obtain⟨d,z,ne,e,mA,⟨od,es,ep,e2,c⟩,r⟩:=x;exact⟨ho _ d,z,ne,k _ _ (.inl rfl) e,mA,⟨od,es,ep,k _ _ (.inr d) e2,c⟩,r⟩
 |own y=>obtain⟨ob,e⟩:=x;exact⟨ob,k _ _ (.inl rfl) e⟩
 |xd fs=>obtain⟨mA,⟨od,es,ep,e,c⟩,r⟩:=x;exact⟨mA,⟨od,es,ep,k _ _ (.inl rfl) e,c⟩,r⟩
 |rng lo hi=>obtain⟨t,u,v,e⟩:=x;exact⟨t,u,v,k _ _ (.inl rfl) e⟩
 |frz ob u ih=>obtain⟨e,q⟩:=x;exact⟨k _ _ (.inl rfl) e,ih q⟩
 |tbl ps=>
  have e:h.get? a=some {cls:=.none,data:=.fields ps}:=x;show h'.get? a=some {cls:=.none,data:=.fields ps};exact k a _ (.inl rfl) e
 |met f y=>
  have e:h.get? a=some (W.methodObj (.ref f) (.ref y)):=x;show h'.get? a=some (W.methodObj (.ref f) (.ref y));exact k a _ (.inl rfl) e
 |ext φ=>obtain⟨p,⟨o,e⟩,st⟩:=x;exact⟨st _ _ p fun o q=>k _ _ (.inl rfl) q,⟨o,k _ _ (.inl rfl) e⟩,st⟩
theorem HOk.lt(x:HOk P w H h)(e:H a=some o):a<h.objs.size:=(x a o e).lt
theorem HOk.fresh(x:HOk P w H h)(e:h.objs.size≤a):H a=none:=by
 cases q:H a with
 |none=>rfl
 |some u=>exact absurd (xk (x.lt q) e) (yK _)
theorem HOk.kept(x:HOk P w H h)(k:∀b u,h.get? b=some u→h'.get? b=some u):HOk P w H h':=fun a o e=>
 (x a o e).stay (fun b u _ q=>k b u q) (fun _ q=>q) fun _ _ q=>q
theorem HOk.laid(x:HOk P w H h)(k:∀b u,h.get? b=some u→h'.get? b=some u)(hp:h.objs.size≤a)(new:ObjOk P w (upd H a o) h' a o):HOk P w (upd H a o) h':=fun b u e=>by
 have hn:=x.fresh hp;by_cases hb:b=a
 ·subst hb;rw[Z5]at e;cases e;exact new
 ·rw[Z9 hb]at e;exact(x b u e).stay (fun c v _ q=>k c v q) (fun c q=>by rw[Z9 (Zh q hn)];exact q) fun c xs q=>by rw[Z9 (Zh q hn)];exact q
end
def Rd(H:Hp)(a:Addr)(u:HO):Prop:=H a=some u∨∃o,H a=some (.frz o u)
theorem Rd.ok{P:Program}{w:World}{H:Hp}{h:Heap}{a:Addr}{u:HO}(r:Rd H a u)(x:HOk P w H h):ObjOk P w H h a u:=by
 rcases r with r | ⟨o,r⟩
 ·exact x a u r
 ·obtain⟨_,q⟩:=x a _ r;exact q
def Mut:Option HO→Prop
 |some (.lst _)=>True
 |some (.dK _)=>True
 |some (.dT _)=>True
 |some (.set _ _)=>True
 |some (.ins _ _ _)=>True
 |some (.ext _)=>True
 |_=>False
section
variable{P:Program}{w:World}{H:Hp}{h h':Heap}{x e:Addr}{o':HO}
theorem HOk.write(ok:HOk P w H h)(mu:Mut (H x))(he:e=x∨H e=some (.own x))(k:∀b u,b≠e→h.get? b=some u→h'.get? b=some u)(heo:∃u,h'.get? e=some u)(new:ObjOk P w (upd H x o') h' x o'):HOk P w (upd H x o') h':=fun b u q=>by
 have nown:∀c y,H c=some (.own y)→c≠x:=fun c y r z=>by subst z;rw[r]at mu;exact mu
 have ntup:∀c xs,H c=some (.tup xs)→c≠x:=fun c xs r z=>by subst z;rw[r]at mu;exact mu
 by_cases hb:b=x
 ·subst hb;rw[Z5]at q;cases q;exact new
 ·rw[Z9 hb]at q;by_cases hbe:b=e
  ·have q':H b=some (.own x):=by
    rcases he with z | z
    ·exact absurd (hbe.trans z) hb
    ·rw[hbe];exact z
   rw[q]at q';cases q';obtain⟨v,hv⟩:=heo;exact⟨v,by rw[hbe];exact hv⟩
  ·refine(ok b u q).stay (fun c v hc r=>k c v ?_ r) (fun c r=>by rw[Z9 (nown c b r)];exact r) fun c xs r=>by rw[Z9 (ntup c xs r)];exact r
   rcases hc with rfl | hc
   ·exact hbe
   ·rintro rfl
    rcases he with z | z
    ·exact nown c b hc z
    ·rw[hc]at z;cases z;exact hb rfl
end
structure Un(fs ex:List Addr)(H H':Hp)(h h':Heap):Prop where
 keep:∀b o,h.get? b=some o→H b=none→b∉fs→b∉ex→h'.get? b=some o
 slot:∀b o,h.get? b=some o→H b=none→b∈fs→b∉ex→∃sl,h'.get? b=some {o with slots:=sl}
 free:∀b o,h.get? b=some o→H b=none→b∉ex→H' b=none
 there:∀b o,h.get? b=some o→b∉ex→∃o',h'.get? b=some o'
 tups:∀b xs,H b=some (.tup xs)→H' b=some (.tup xs)
 frzs:∀b o u,H b=some (.frz o u)→H' b=some (.frz o u)
 tbls:∀b ps,H b=some (.tbl ps)→∃more,H' b=some (.tbl (ps++more))
section
variable{fs fs' ex ex':List Addr}{H H1 H2:Hp}{h h1 h2 h':Heap}{a x e:Addr}{o:HO}
theorem Un.any(u:Un fs ex H H1 h h1){b:Addr}{ob:Obj}(q:h.get? b=some ob)(n:H b=none)(hx:b∉ex):∃sl,h1.get? b=some {ob with slots:=sl}:=by
 by_cases hb:b∈fs
 ·exact u.slot b ob q n hb hx
 ·exact⟨ob.slots,u.keep b ob q n hb hx⟩
theorem Un.kept(k:∀b u,h.get? b=some u→h'.get? b=some u):Un fs ex H H h h':=
 ⟨fun b ob q _ _ _=>k b ob q,fun b ob q _ _ _=>⟨ob.slots,k b ob q⟩,fun _ _ _ n _=>n,fun b ob q _=>⟨ob,k b ob q⟩,fun _ _ q=>q,fun _ _ _ q=>q,fun _ ps q=>⟨#[],by rw[q];simp⟩⟩
theorem Un.refl:Un fs ex H H h h:=Un.kept fun _ _ q=>q
theorem Un.laid(k:∀b u,h.get? b=some u→h'.get? b=some u)(hp:h.objs.size≤a)(hn:H a=none):Un fs ex H (upd H a o) h h' where
 keep:=fun b u q _ _ _=>k b u q
 slot:=fun b u q _ _ _=>⟨u.slots,k b u q⟩
 free:=fun b u q n _=>by rw[Z9 (wS (xk (wE q) hp))];exact n
 there:=fun b u q _=>⟨u,k b u q⟩
 tups:=fun b xs q=>by rw[Z9 (Zh q hn)];exact q
 frzs:=fun b u xs q=>by rw[Z9 (Zh q hn)];exact q
 tbls:=fun b ps q=>⟨#[],by rw[Z9 (Zh q hn),q];simp⟩
theorem Un.write(mu:Mut (H x))(he:e=x∨H e=some (.own x))(k:∀b u,b≠e→h.get? b=some u→h'.get? b=some u)(heo:∃u,h'.get? e=some u):Un fs ex H (upd H x o) h h':=by
 have hx:∀b,H b=none→b≠x:=fun b n z=>by subst z;rw[n]at mu;exact mu
 have hb:∀b,H b=none→b≠e:=fun b n z=>by
  subst z
  rcases he with r | r
  ·exact hx b n r
  ·rw[n]at r;cases r
 have hm:∀b u,H b=some u→¬Mut (some u)→b≠x:=fun b u q nm z=>by subst z;rw[q]at mu;exact nm mu
 refine⟨fun b u q n _ _=>k b u (hb b n) q,fun b u q n _ _=>⟨u.slots,k b u (hb b n) q⟩,fun b u q n _=>by rw[Z9 (hx b n)];exact n,fun b u q _=>?_,
  fun b xs q=>by rw[Z9 (hm b _ q fun z=>z)];exact q,fun b u xs q=>by rw[Z9 (hm b _ q fun z=>z)];exact q,fun b ps q=>⟨#[],by rw[Z9 (hm b _ q fun z=>z),q];simp⟩⟩
 by_cases hbe:b=e
 ·subst hbe;exact heo
 ·exact⟨u,k b u hbe q⟩
end
def trk(h:Heap)(H:Hp):List Addr:=(List.range h.objs.size).filter fun a=>(H a).isSome
def ei(h:Heap)(H:Hp):Heap:=W.hideAll h (trk h H)
theorem lY(h:Heap)(H:Hp):(ei h H).objs.size=h.objs.size:=W.hideAll_size _ _
theorem ox{h:Heap}{H:Hp}{b:Addr}{o:Obj}(e:h.get? b=some o)(n:H b=none):(ei h H).get? b=some o:=
 W.hideAll_get _ e fun hm=>by
  have q:(H b).isSome=true:=(xW.mp hm).2;rw[n]at q;simp at q
theorem rH{h:Heap}{H:Hp}{b:Addr}{o:Obj}(e:(ei h H).get? b=some o):h.get? b=some o∧H b=none:=by
 have e':h.get? b=some o:=W.of_hideAll (trk h H) e;refine⟨e',?_⟩;cases q:H b with
 |none=>rfl
 |some x=>
  have hm:b∈trk h H:=List.mem_filter.mpr ⟨List.mem_range.mpr (Heap.lt_size e'),by simp[q]⟩;have z:(ei h H).get? b=none:=W.hideAll_none (trk h H) hm;rw[z]at e;cases e
structure Mod(K:W.Frag)(mg:Str→Option Value)(base:Heap):Prop where
 kin:K.In base
 glob:base.Ns mainGlobals mg
 blt:∃mb,base.Ns builtinsNs mb∧∀x:Str,x≠"__name__"→mb x=bootBuiltins x
 nolimit:base.NoLimit
structure Cx where
 prog:Program
 w:World
 K:W.Frag
 mg:Str→Option Value
 base:Heap
 A:Around
 N:List Str
 s₀:Shared
 H₀:Hp
 env:Env
 outer:List Env
 stack:List Env
 ex:List Addr
 fn:Str→Bool
 calm:Bool
 pn:List (Addr×Obj)
 xe:Value→Shared→Prop
def frs(l:List Env):List Addr:=l.filterMap (·.frame)
abbrev Cx.fs(X:Cx):List Addr:=frs X.outer
def Vis(sc:Scope)(x:Str):Prop:=sc.names.lookup x=some .local∨sc.names.lookup x=some .cell∨sc.names.lookup x=some .free
def Loc(sc:Scope)(x:Str):Prop:=sc.names.lookup x=some .local∨sc.names.lookup x=some .cell
def Look(env:Env)(h:Heap)(m:Str→Option Value)(x:Str)(u:Value):Prop:=
 (env.kindOf x=some .local∧m x=some u)∨((env.kindOf x=some .cell∨env.kindOf x=some .free)∧∃c,env.cells.lookup x=some c∧h.IsCell c (some u))
structure Cx.Ok(X:Cx):Prop where
 mod:Mod X.K X.mg X.base
 kind:X.env.scope.kind=.function
 glob:X.env.globals=mainGlobals
 blt:X.env.builtins=builtinsNs
 above:X.s₀.heap.objs.size≤X.env.locals
 inj:∀x y c,X.env.cells.lookup x=some c→X.env.cells.lookup y=some c→x=y
 has:∀x,(X.env.kindOf x=some .cell∨X.env.kindOf x=some .free)→∃c,X.env.cells.lookup x=some c
 cab:∀x c,X.fn x=true→X.env.cells.lookup x=some c→X.s₀.heap.objs.size≤c
 hd:X.calm=true→X.A.handled=none
 frames:X.A.frames=some X.stack
 stk:X.stack=X.outer∨(X.stack=X.env::X.outer∧X.env.frame=some X.env.locals)
 exf:∀b∈X.ex,b≠X.env.locals∧∀x c,X.env.cells.lookup x=some c→c≠b
 bs:∀b o,X.base.get? b=some o→X.s₀.heap.get? b=some o∧X.H₀ b=none
 bsz:X.base.objs.size≤X.s₀.heap.objs.size
 noex:∀b o,X.base.get? b=some o→b∉X.ex
 exfs:∀b∈X.ex,b∉X.fs
 funs:X.s₀.heap.FunFrames X.base X.outer
 frf:∀b∈X.fs,X.H₀ b=none
structure Inv(X:Cx)(or:List (Addr×Obj))(σ:List (Option V))(H:Hp)(s:Shared):Prop where
 ok:X.Ok
 os:s.os=X.s₀.os
 bare:AllBare s.gens
 base:Un X.fs X.ex X.H₀ H X.s₀.heap s.heap
 loc:∃m,s.heap.Ns X.env.locals m∧∀(i:Nat)(x:Str)(v:V),X.N[i]?=some x→σ[i]?=some (some v)→Vis X.env.scope x→∃u,RelV v u∧Look X.env s.heap m x u
 cell:∀x c,X.env.cells.lookup x=some c→∃v,s.heap.IsCell c v
 free:H X.env.locals=none
 freeC:∀x c,X.env.cells.lookup x=some c→H c=none
 pin:∀p∈X.pn++or,s.heap.get? p.1=some p.2∧H p.1=none∧p.1≠X.env.locals∧p.1∉X.fs∧∀v,p.2.data≠.cell v
 hok:HOk X.prog X.w H s.heap
 len:σ.length=X.N.length
section
variable{X:Cx}{or:List (Addr×Obj)}{σ:List (Option V)}{H H':Hp}{s:Shared}{h':Heap}
theorem Cx.Ok.nofr(ok:X.Ok){b:Addr}{o:Obj}(e:X.base.get? b=some o):b∉X.fs:=fun hb=>by
 have:=(ok.funs.mem hb).1;rw[e]at this;cases this
theorem Inv.bs(I:Inv X or σ H s):∀b o,X.base.get? b=some o→s.heap.get? b=some o∧H b=none:=fun b o e=>
 ⟨I.base.keep b o (I.ok.bs b o e).1 (I.ok.bs b o e).2 (I.ok.nofr e) (I.ok.noex b o e),I.base.free b o (I.ok.bs b o e).1 (I.ok.bs b o e).2 (I.ok.noex b o e)⟩
theorem Inv.bk(I:Inv X or σ H s):∀b o,X.base.get? b=some o→s.heap.get? b=some o:=fun b o e=>(I.bs b o e).1
theorem Inv.mod(I:Inv X or σ H s):Mod X.K X.mg X.base:=I.ok.mod
theorem Inv.kIn(I:Inv X or σ H s):X.K.In s.heap:=I.ok.mod.kin.keeps I.bk
theorem Inv.lt(I:Inv X or σ H s):X.env.locals<s.heap.objs.size:=let ⟨_,hn,_⟩:=I.loc;hn.lt
theorem Inv.sz(I:Inv X or σ H s):X.s₀.heap.objs.size≤s.heap.objs.size:=x3 I.ok.above (ye I.lt)
theorem Inv.nofs(I:Inv X or σ H s){a:Addr}(h:s.heap.objs.size≤a):a∉X.fs:=fun hb=>by
 obtain⟨_,o,ho,_⟩:=I.ok.funs.mem hb;exact absurd (xk (wE ho) (x3 I.sz h)) (yK _)
theorem Inv.cne(I:Inv X or σ H s):∀x c,X.env.cells.lookup x=some c→c≠X.env.locals:=fun x c e z=>by
 obtain⟨v,o,ho,hd⟩:=I.cell x c e;obtain⟨m,⟨o',es,ep,ho',hd',_⟩,_⟩:=I.loc;rw[z,ho']at ho;cases ho;rw[hd']at hd;cases hd
theorem Inv.funs(I:Inv X or σ H s):s.heap.FunFrames X.base X.outer:=by
 have all:∀(l:List Env),(∀b∈frs l,b∈X.fs)→X.s₀.heap.FunFrames X.base l→s.heap.FunFrames X.base l:=by
  intro l
  induction l with
  |nil=>intro _ _;trivial
  |cons env r ih=>
   intro hs hl;obtain⟨hk,⟨L,o,hf,hn,ho,hd⟩,hr⟩:=hl;have hL:L∈X.fs:=hs L (by unfold frs;rw[zi,hf];exact xf);obtain⟨sl,e⟩:=I.base.slot L o ho (I.ok.frf L hL) hL fun z=>I.ok.exfs L z hL;exact⟨hk,⟨L,_,hf,hn,e,hd⟩,ih (fun b hb=>hs b (by unfold frs;rw[zi,hf];exact xr _ hb)) hr⟩
 exact all X.outer (fun _ hb=>hb) I.ok.funs
theorem Inv.stack(I:Inv X or σ H s):s.heap.FunFrames X.base X.stack:=by
 rcases I.ok.stk with e | ⟨e,hf⟩
 ·rw[e];exact I.funs
 ·rw[e];obtain⟨m,hn,_⟩:=I.loc;refine .cons (by rw[I.ok.kind];decide) hf hn ?_ I.funs;exact Heap.get?_none_of_le (x3 I.ok.bsz I.ok.above)
theorem Inv.stkSub(I:Inv X or σ H s):∀b∈frs X.stack,b∈X.env.locals::X.fs:=fun b hb=>by
 rcases I.ok.stk with e | ⟨e,hf⟩
 ·rw[e]at hb;exact xr _ hb
 ·rw[e]at hb;unfold frs at hb;rw[zi,hf]at hb;exact hb
theorem Inv.stkFree(I:Inv X or σ H s):∀b∈frs X.stack,H b=none:=fun b hb=>by
 rcases wX.mp (I.stkSub b hb)with e | hb
 ·rw[e];exact I.free
 ·obtain⟨_,o,ho,_⟩:=I.ok.funs.mem hb;exact I.base.free b o ho (I.ok.frf b hb) fun z=>I.ok.exfs b z hb
theorem Inv.step{g':Array GenState}{t':Nat}{d':Drawn}{ch:List Addr}(I:Inv X or σ H s)(hch:∀b∈ch,(b∈X.ex∨X.s₀.heap.objs.size≤b)∧b≠X.env.locals∧(∀x c,X.env.cells.lookup x=some c→c≠b)∧∀p∈X.pn++or,p.1≠b)(keep:∀b o,b≠X.env.locals→b∉X.fs→b∉ch→s.heap.get? b=some o→H b=none→h'.get? b=some o)(slot:∀b o,b≠X.env.locals→b∈X.fs→b∉ch→s.heap.get? b=some o→H b=none→∃sl,h'.get? b=some {o with slots:=sl})(free:∀b o,b∉ch→s.heap.get? b=some o→H b=none→H' b=none)(there:∀b o,b∉ch→s.heap.get? b=some o→∃o',h'.get? b=some o')(tups:∀b xs,H b=some (.tup xs)→H' b=some (.tup xs))(frzs:∀b o u,H b=some (.frz o u)→H' b=some (.frz o u))(tbls:∀b ps,H b=some (.tbl ps)→∃more,H' b=some (.tbl (ps++more)))(ns:∀m,s.heap.Ns X.env.locals m→h'.Ns X.env.locals m)(hok:HOk X.prog X.w H' h')(hg:AllBare g'):
  Inv X or σ H' {s with heap:=h',gens:=g',drawn:=d',toks:=t'}:=by
 have neL:∀b o,X.s₀.heap.get? b=some o→b≠X.env.locals:=fun b o e=>wS (xk (wE e) I.ok.above);have neC:∀b o,X.s₀.heap.get? b=some o→b∉X.ex→b∉ch:=fun b o e hx hb=>by
  rcases(hch b hb).1 with z | z
  ·exact hx z
  ·exact absurd (xk (wE e) z) (yK _)
 have cellK:∀x c,X.env.cells.lookup x=some c→∀v,s.heap.IsCell c v→h'.IsCell c v:=fun x c e v ⟨o,ho,hd⟩=>by
  have nch:c∉ch:=fun z=>(hch c z).2.2.1 x c e rfl;by_cases hc:c∈X.fs
  ·obtain⟨sl,q⟩:=slot c o (I.cne x c e) hc nch ho (I.freeC x c e);exact⟨_,q,hd⟩
  ·exact⟨o,keep c o (I.cne x c e) hc nch ho (I.freeC x c e),hd⟩
 refine⟨I.ok,I.os,hg,⟨fun b o e n hb hx=>?_,fun b o e n hb hx=>?_,fun b o e n hx=>?_,fun b o e hx=>?_,fun b xs e=>tups b xs (I.base.tups b xs e),fun b o xs e=>frzs b o xs (I.base.frzs b o xs e),fun b ps e=>?_⟩,?_,fun x c e=>?_,?_,fun x c e=>?_,fun p hp=>?_,hok,I.len⟩
 ·exact keep b o (neL b o e) hb (neC b o e hx) (I.base.keep b o e n hb hx) (I.base.free b o e n hx)
 ·obtain⟨sl,e1⟩:=I.base.slot b o e n hb hx;obtain⟨sl',e2⟩:=slot b _ (neL b o e) hb (neC b o e hx) e1 (I.base.free b o e n hx);exact⟨sl',e2⟩
 ·obtain⟨o',e1⟩:=I.base.there b o e hx;exact free b o' (neC b o e hx) e1 (I.base.free b o e n hx)
 ·obtain⟨o',e1⟩:=I.base.there b o e hx;exact there b o' (neC b o e hx) e1
 ·obtain⟨m1,e1⟩:=I.base.tbls b ps e;obtain⟨m2,e2⟩:=tbls b _ e1;exact⟨m1++m2,by rw[e2,Array.append_assoc]⟩
 ·obtain⟨m,hn,hl⟩:=I.loc;refine⟨m,ns m hn,fun i x v e1 e2 e3=>?_⟩;obtain⟨u,r,l⟩:=hl i x v e1 e2 e3;refine⟨u,r,?_⟩
  rcases l with l | ⟨k,c,e,z⟩
  ·exact .inl l
  ·exact .inr ⟨k,c,e,cellK x c e _ z⟩
 ·obtain⟨v,z⟩:=I.cell x c e;exact⟨v,cellK x c e v z⟩
 ·obtain⟨m,⟨o,_,_,ho,_⟩,_⟩:=I.loc;exact free _ o (fun z=>(hch _ z).2.1 rfl) ho I.free
 ·obtain⟨v,o,ho,hd⟩:=I.cell x c e;exact free c o (fun z=>(hch c z).2.2.1 x c e rfl) ho (I.freeC x c e)
 ·obtain⟨e,n,ne,nf,d⟩:=I.pin p hp;have nch:p.1∉ch:=fun z=>(hch p.1 z).2.2.2 p hp rfl;exact⟨keep p.1 p.2 ne nf nch e n,free p.1 p.2 nch e n,ne,nf,d⟩
theorem Inv.un{t':Nat}(I:Inv X or σ H s)(u:Un X.fs [] H H' s.heap h')(hok:HOk X.prog X.w H' h'):Inv X or σ H' {s with heap:=h',toks:=t'}:=by
 obtain⟨m,⟨o,es,ep,ho,r⟩,_⟩:=id I.loc;obtain⟨sl,hL⟩:=u.any ho I.free (by simp);exact I.step (g':=s.gens) (d':=s.drawn) (ch:=[]) (fun _ z=>nomatch z) (fun b o _ hb _ e n=>u.keep b o e n hb (by simp)) (fun b o _ hb _ e n=>u.slot b o e n hb (by simp)) (fun b o _ e n=>u.free b o e n (by simp)) (fun b o _ e=>u.there b o e (by simp)) u.tups u.frzs u.tbls (fun m' hm=>by
  obtain⟨o',es',ep',ho',r'⟩:=hm;rw[ho]at ho';cases ho';exact⟨_,es',ep',hL,r'⟩) hok I.bare
theorem Inv.call{g':Array GenState}{t':Nat}{d':Drawn}{ch:List Addr}(I:Inv X or σ H s)(u:Un (frs X.stack) ch H H' s.heap h')(hok:HOk X.prog X.w H' h')(hg:AllBare g')(hch:∀b∈ch,(b∈X.ex∨X.s₀.heap.objs.size≤b)∧b≠X.env.locals∧(∀x c,X.env.cells.lookup x=some c→c≠b)∧∀p∈X.pn++or,p.1≠b):
  Inv X or σ H' {s with heap:=h',gens:=g',drawn:=d',toks:=t'}:=by
 obtain⟨m,⟨o,es,ep,ho,r⟩,_⟩:=id I.loc;obtain⟨sl,hL⟩:=u.any ho I.free fun z=>(hch _ z).2.1 rfl;exact I.step (ch:=ch) hch (fun b o hL hb hc e n=>u.keep b o e n (fun z=>(wX.mp (I.stkSub b z)).elim hL hb) hc) (fun b o _ _ hc e n=>u.any e n hc) (fun b o hc e n=>u.free b o e n hc) (fun b o hc e=>u.there b o e hc) u.tups u.frzs u.tbls (fun m' hm=>by
  obtain⟨o',es',ep',ho',r'⟩:=hm;rw[ho]at ho';cases ho';exact⟨_,es',ep',hL,r'⟩) hok hg
theorem Inv.turned{t':Nat}{it:Addr}(I:Inv X or σ H s)(k:∀b o,b≠it→s.heap.get? b=some o→h'.get? b=some o)(hn:H it=none)(hL:it≠X.env.locals)(h1:it∈X.ex∨X.s₀.heap.objs.size≤it)(h2:∀x c,X.env.cells.lookup x=some c→c≠it)(h3:∀p∈X.pn++or,p.1≠it):Inv X or σ H {s with heap:=h',toks:=t'}:=by
 have nit:∀b u,H b=some u→b≠it:=fun b u e z=>by rw[z,hn]at e;cases e
 refine I.step (g':=s.gens) (d':=s.drawn) (ch:=[it]) (fun b hb=>?_) (fun b o _ _ hc e _=>k b o (fun z=>hc (by simp[z])) e) (fun b o _ _ hc e _=>⟨o.slots,k b o (fun z=>hc (by simp[z])) e⟩) (fun _ _ _ _ n=>n)
  (fun b o hc e=>⟨o,k b o (fun z=>hc (by simp[z])) e⟩) (fun _ _ e=>e) (fun _ _ _ e=>e) (fun b ps e=>⟨#[],by rw[e];simp⟩) (fun m hm=>?_) (fun b u e=>?_) I.bare
 ·have e:b=it:=by simpa using hb
  subst e;exact⟨h1,hL,h2,h3⟩
 ·obtain⟨o,es,ep,ho,r⟩:=hm;exact⟨o,es,ep,k _ o (Ne.symm hL) ho,r⟩
 ·refine(I.hok b u e).stay (fun c v hc q=>k c v ?_ q) (fun _ q=>q) fun _ _ q=>q
  rcases hc with z | z
  ·rw[z];exact nit b u e
  ·exact nit c _ z
theorem Inv.tok(I:Inv X or σ H s)(t:Nat):Inv X or σ H {s with toks:=t}:=I.un (h':=s.heap) (t':=t) Un.refl I.hok
theorem Inv.kept{t':Nat}(I:Inv X or σ H s)(k:∀b u,s.heap.get? b=some u→h'.get? b=some u):Inv X or σ H {s with heap:=h',toks:=t'}:=I.un (Un.kept k) (I.hok.kept k)
theorem Inv.laid{a:Addr}{o:HO}{t':Nat}(I:Inv X or σ H s)(k:∀b u,s.heap.get? b=some u→h'.get? b=some u)(hp:s.heap.objs.size≤a)(new:ObjOk X.prog X.w (upd H a o) h' a o):
  Inv X or σ (upd H a o) {s with heap:=h',toks:=t'}:=I.un (Un.laid k hp (I.hok.fresh hp)) (I.hok.laid k hp new)
theorem Inv.write{x e:Addr}{o:HO}{t':Nat}(I:Inv X or σ H s)(mu:Mut (H x))(he:e=x∨H e=some (.own x))(k:∀b u,b≠e→s.heap.get? b=some u→h'.get? b=some u)(heo:∃u,h'.get? e=some u)(new:ObjOk X.prog X.w (upd H x o) h' x o):Inv X or σ (upd H x o) {s with heap:=h',toks:=t'}:=I.un (Un.write mu he k heo) (I.hok.write mu he k heo new)
theorem Inv.weak{σ':List (Option V)}(I:Inv X or σ H s)(hl:σ'.length=σ.length)(w:∀(i:Nat) v,σ'[i]?=some (some v)→σ[i]?=some (some v)):Inv X or σ' H s:=
 ⟨I.ok,I.os,I.bare,I.base,let ⟨m,hn,hl'⟩:=I.loc;⟨m,hn,fun i x v e1 e2 e3=>hl' i x v e1 (w i v e2) e3⟩,I.cell,I.free,I.freeC,I.pin,I.hok,hl.trans I.len⟩
theorem Inv.pins_of{pins':List (Addr×Obj)}(I:Inv X or σ H s)(h:∀p∈pins',s.heap.get? p.1=some p.2∧H p.1=none∧p.1≠X.env.locals∧p.1∉X.fs∧∀v,p.2.data≠.cell v):Inv X pins' σ H s:=
 ⟨I.ok,I.os,I.bare,I.base,I.loc,I.cell,I.free,I.freeC,fun p hp=>(wY.mp hp).elim (fun z=>I.pin p (xv _ z)) (h p),I.hok,I.len⟩
theorem gI{N:List Str}(hN:N.Nodup){i j:Nat}{x:Str}(a:N[i]?=some x)(b:N[j]?=some x):i=j:=by
 obtain⟨h1,e1⟩:=wL.mp a;obtain⟨h2,e2⟩:=wL.mp b;exact(List.getElem_inj hN).mp (e1.trans e2.symm)
theorem P6{M:Model}{A:Around}{E:Value→Shared→Prop}{i:Nat}{x:Str}{v:V}{u:Value}{Q:Unit→Shared→Prop}(I:Inv X or σ H s)(hN:X.N.Nodup)(hi:X.N[i]?=some x)(hx:Loc X.env.scope x)(r:RelV v u)(h:∀s',Inv X or (σ.set i (some v)) H s'→(∃a,Heap.SameBut a s.heap s'.heap∧(a=X.env.locals∨X.env.cells.lookup x=some a))→Q () s')(hf:X.fn x=true∨X.env.scope.names.lookup x=some .local:=by first | exact .inl rfl | exact .inr rfl | assumption):wpAny M A (storeName X.env x u) Q E s:=by
 obtain⟨m,hn,hl⟩:=id I.loc;have hcls:(X.env.scope.kind==.class || (X.env.scope.kind==.module && X.env.locals != X.env.globals))=false:=by rw[I.ok.kind];rfl
 have hiσ:i<σ.length:=by rw[I.len];exact(wL.mp hi).1
 have cne:=I.cne;have tracked:∀{a:Addr}{h':Heap},(∃o,s.heap.get? a=some o∧H a=none)→Heap.SameBut a s.heap h'→HOk X.prog X.w H h':=fun{a h'} ha hs b ob e=>by
  obtain⟨_,_,hfree⟩:=ha;refine(I.hok b ob e).stay (fun c w' hc q=>(hs.2 c ?_).trans q) (fun _ q=>q) fun _ _ q=>q;rintro rfl
  rcases hc with rfl | hc
  ·rw[hfree]at e;cases e
  ·rw[hfree]at hc;cases hc
 rcases hx with hk | hk
 ·refine wpAny_storeName_local hk hn (fun h' hn' hs=>?_) hcls;obtain⟨oL,_,_,hoL,_⟩:=id hn;refine h _ ⟨I.ok,I.os,I.bare,⟨fun b o e n hb hx=>?_,fun b o e n hb hx=>?_,I.base.free,fun b o e hx=>?_,I.base.tups,I.base.frzs,I.base.tbls⟩,⟨_,hn',fun j y v' e1 e2 e3=>?_⟩,fun y c e=>?_,I.free,I.freeC,fun p hp=>?_,tracked ⟨oL,hoL,I.free⟩ hs,by simpa using I.len⟩ ⟨_,hs,.inl rfl⟩
  ·exact(hs.2 b (wS (xk (wE e) I.ok.above))).trans (I.base.keep b o e n hb hx)
  ·obtain⟨sl,e1⟩:=I.base.slot b o e n hb hx;exact⟨sl,(hs.2 b (wS (xk (wE e) I.ok.above))).trans e1⟩
  ·obtain⟨o',e1⟩:=I.base.there b o e hx;exact⟨o',(hs.2 b (wS (xk (wE e) I.ok.above))).trans e1⟩
  ·by_cases hj:j=i
   ·subst hj;rw[hi]at e1;cases e1;rw[List.getElem?_set_self hiσ]at e2;cases e2;exact⟨u,r,.inl ⟨hk,by simp⟩⟩
   ·rw[List.getElem?_set_ne (Ne.symm hj)]at e2;obtain⟨u',r',q⟩:=hl j y v' e1 e2 e3;refine⟨u',r',?_⟩
    rcases q with⟨k,e⟩|⟨k,c,e,z⟩
    ·refine .inl ⟨k,?_⟩;have:y≠x:=fun e=>hj (gI hN e1 (e ▸ hi));simp[this,e]
    ·exact .inr ⟨k,c,e,z.sameBut hs (cne y c e)⟩
  ·obtain⟨w',z⟩:=I.cell y c e;exact⟨w',z.sameBut hs (cne y c e)⟩
  ·obtain⟨e,n,ne,nf,d⟩:=I.pin p hp;exact⟨(hs.2 p.1 ne).trans e,n,ne,nf,d⟩
 ·have hfn:X.fn x=true:=by
   rcases hf with z | z
   ·exact z
   ·rw[z]at hk;cases hk
  obtain⟨c,hc⟩:=I.ok.has x (.inl hk);obtain⟨w',z⟩:=I.cell x c hc;refine wpAny_storeName_cell I.ok.kind hk hc z (fun h' hc' hs=>?_);obtain⟨oc,hoc,hocd⟩:=id z;refine h {s with heap:=h'} ⟨I.ok,I.os,I.bare,⟨fun b o e n hb hx=>?_,fun b o e n hb hx=>?_,I.base.free,fun b o e hx=>?_,I.base.tups,I.base.frzs,I.base.tbls⟩,⟨m,hn.sameBut hs (Ne.symm (cne x c hc)),fun j y v' e1 e2 e3=>?_⟩,fun y c' e=>?_,I.free,I.freeC,fun p hp=>?_,tracked ⟨oc,hoc,I.freeC x c hc⟩ hs,by simpa using I.len⟩ ⟨c,hs,.inr hc⟩
  ·exact(hs.2 b (wS (xk (wE e) (I.ok.cab x c hfn hc)))).trans (I.base.keep b o e n hb hx)
  ·obtain⟨sl,e1⟩:=I.base.slot b o e n hb hx;exact⟨sl,(hs.2 b (wS (xk (wE e) (I.ok.cab x c hfn hc)))).trans e1⟩
  ·obtain⟨o',e1⟩:=I.base.there b o e hx;exact⟨o',(hs.2 b (wS (xk (wE e) (I.ok.cab x c hfn hc)))).trans e1⟩
  ·by_cases hj:j=i
   ·subst hj;rw[hi]at e1;cases e1;rw[List.getElem?_set_self hiσ]at e2;cases e2;exact⟨u,r,.inr ⟨.inl hk,c,hc,hc'⟩⟩
   ·rw[List.getElem?_set_ne (Ne.symm hj)]at e2;obtain⟨u',r',q⟩:=hl j y v' e1 e2 e3;refine⟨u',r',?_⟩
    rcases q with q | ⟨k,c',e,z'⟩
    ·exact .inl q
    ·refine .inr ⟨k,c',e,z'.sameBut hs ?_⟩;rintro rfl;exact hj (gI hN e1 (I.ok.inj _ _ _ e hc ▸ hi))
  ·by_cases hcc:c'=c
   ·subst hcc;exact⟨_,hc'⟩
   ·obtain⟨w2,z2⟩:=I.cell y c' e;exact⟨w2,z2.sameBut hs hcc⟩
  ·obtain⟨e,n,ne,nf,d⟩:=I.pin p hp;refine⟨(hs.2 p.1 ?_).trans e,n,ne,nf,d⟩;intro q;rw[q,hoc]at e;have q':oc=p.2:=xA e;exact d w' (by rw[←q'];exact hocd)
theorem Nb{M:Model}{A:Around}{E:Value→Shared→Prop}{i:Nat}{x:Str}{v:V}{u:Value}{Q:Unit→Shared→Prop}(I:Inv X or σ H s)(hN:X.N.Nodup)(hi:X.N[i]?=some x)(hx:Loc X.env.scope x)(r:RelV v u)(h:∀s',Inv X or (σ.set i (some v)) H s'→Q () s')(hf:X.fn x=true∨X.env.scope.names.lookup x=some .local:=by first | exact .inl rfl | exact .inr rfl | assumption):wpAny M A (storeName X.env x u) Q E s:=
 P6 I hN hi hx r (fun s' I' _=>h s' I') hf
theorem Inv.call'{s':Shared}{ch:List Addr}(I:Inv X or σ H s)(ho:s'.os=s.os)(u:Un (frs X.stack) ch H H' s.heap s'.heap)(hok:HOk X.prog X.w H' s'.heap)(hg:AllBare s'.gens)(hch:∀b∈ch,(b∈X.ex∨X.s₀.heap.objs.size≤b)∧b≠X.env.locals∧(∀x c,X.env.cells.lookup x=some c→c≠b)∧∀p∈X.pn++or,p.1≠b):Inv X or σ H' s':=by
 obtain⟨h',g',d',t',o'⟩:=s';have e:o'=s.os:=ho;subst e;exact I.call (g':=g') (t':=t') (d':=d') u hok hg hch
end
abbrev XK:=Value→Option Addr→Hp→Prop
abbrev St:=List (Option V)
abbrev VK:=V→Hp→Prop
abbrev TE:=St→Hp→VK→Prop
abbrev TT:=St→Hp→(Bool→Hp→Prop)→Prop
abbrev TA:=St→Hp→(List V→Hp→Prop)→Prop
structure Ends where
 nx:St→Hp→Prop
 rt:VK
 bk:St→Hp→Prop:=fun _ _=>False
 ct:St→Hp→Prop:=fun _ _=>False
abbrev TS:=Ends→St→Hp→Prop
def EP(X:Cx)(or:List (Addr×Obj))(σ:St)(Q:VK)(u:Value)(s':Shared):Prop:=∃v H',Inv X or σ H' s'∧RelV v u∧Q v H'
def TP(X:Cx)(or:List (Addr×Obj))(σ:St)(Q:Bool→Hp→Prop)(b:Bool)(s':Shared):Prop:=∃H',Inv X or σ H' s'∧Q b H'
def AP(X:Cx)(or:List (Addr×Obj))(σ:St)(Q:List V→Hp→Prop)(us:List Value)(s':Shared):Prop:=∃vs H',Inv X or σ H' s'∧Vals vs us∧Q vs H'
def SP(X:Cx)(or:List (Addr×Obj))(D:Ends)(f:Flow)(s':Shared):Prop:=
 match f with
 |.next=>∃σ' H',Inv X or σ' H' s'∧D.nx σ' H'
 |.brk=>∃σ' H',Inv X or σ' H' s'∧D.bk σ' H'
 |.cont=>∃σ' H',Inv X or σ' H' s'∧D.ct σ' H'
 |.ret u=>∃v σ' H',Inv X or σ' H' s'∧RelV v u∧D.rt v H'
def PE(X:Cx)(e:Expr)(t:TE):Prop:=
 ∀(or:List (Addr×Obj))(s:Shared)(σ:St)(H:Hp)(Q:VK),Inv X or σ H s→t σ H Q→wpAny (model X.prog X.w) X.A (eval e X.env) (EP X or σ Q) X.xe s
def PT(X:Cx)(e:Expr)(t:TT):Prop:=
 ∀(or:List (Addr×Obj))(s:Shared)(σ:St)(H:Hp)(Q:Bool→Hp→Prop),Inv X or σ H s→t σ H Q→wpAny (model X.prog X.w) X.A (isTrue e X.env (eval e X.env)) (TP X or σ Q) X.xe s
def PW(X:Cx)(e:Expr)(t:TT):Prop:=
 ∀(whole:Sem Value)(or:List (Addr×Obj))(s:Shared)(σ:St)(H:Hp)(Q:Bool→Hp→Prop),Inv X or σ H s→t σ H Q→wpAny (model X.prog X.w) X.A (isTrue e X.env whole) (TP X or σ Q) X.xe s
theorem PW.pt{X:Cx}{e:Expr}{t:TT}(h:PW X e t):PT X e t:=h _
def PA(X:Cx)(es:List Expr)(t:TA):Prop:=
 ∀(pos:Pos)(or:List (Addr×Obj))(s:Shared)(σ:St)(H:Hp)(Q:List V→Hp→Prop),Inv X or σ H s→t σ H Q→wpAny (model X.prog X.w) X.A (spliced (backTo pos (starEach es X.env))) (AP X or σ Q) X.xe s
def PS(X:Cx)(st:Stmt)(t:TS):Prop:=
 ∀(or:List (Addr×Obj))(s:Shared)(σ:St)(H:Hp)(D:Ends),Inv X or σ H s→t D σ H→wpAny (model X.prog X.w) X.A (exec st X.env) (SP X or D) X.xe s
def PSs(X:Cx)(st:List Stmt)(t:TS):Prop:=
 ∀(or:List (Addr×Obj))(s:Shared)(σ:St)(H:Hp)(D:Ends),Inv X or σ H s→t D σ H→wpAny (model X.prog X.w) X.A (execs st X.env) (SP X or D) X.xe s
theorem thn{α:Type}{t:Sem α}{Q Q':α→Shared→Prop}{M:Model}{A:Around}{E:Value→Shared→Prop}{s:Shared}(h:wpAny M A t Q E s)(hQ:∀a s,Q a s→Q' a s):wpAny M A t Q' E s:=xX h hQ fun _ _ x=>x
section
variable{X:Cx}
def uD(i:Nat):TE:=fun σ H Q=>∃v,σ[i]?=some (some v)∧Q v H
def tC(v:V):TE:=fun _ H Q=>Q v H
theorem oI{i:Nat}{x:Str}{pos:Pos}(hN:X.N[i]?=some x)(hv:Vis X.env.scope x)(hd:(x==("__debug__":Str))=false:=by decide)(hcd:(x==("__classdict__":Str))=false:=by decide):PE X (.Name x pos) (uD i):=by
 intro or s σ H Q I h;obtain⟨v,e,h⟩:=h;obtain⟨m,hn,hl⟩:=I.loc;obtain⟨u,r,l⟩:=hl i x v hN e hv;have fin:EP X or σ Q u s:=⟨v,H,I,r,h⟩
 rcases l with⟨hk,hm⟩|⟨hk,c,hc,hcell⟩
 ·exact wpAny_Name (wpAny_loadName_local I.ok.kind hk hn hm fin) hd
 ·rcases hk with hk | hk
  ·exact wpAny_Name (wpAny_loadName_cell I.ok.kind hk hc hcell fin) hd
  ·exact wpAny_Name (wpAny_loadName_free I.ok.kind hk hc hcell fin hcd) hd
theorem Z3{i j pos}:PE X (.Constant (.int i) j pos) (tC (.int i)):=fun _ _ _ H _ I h=>wpAny_Constant_int ⟨.int i,H,I.tok _,⟨_,rfl⟩,h⟩
theorem X6{b j pos}:PE X (.Constant (.bool b) j pos) (tC (.bl b)):=fun _ _ _ H _ I h=>Constant_bool ⟨.bl b,H,I,rfl,h⟩
theorem Of{j pos}:PE X (.Constant .none j pos) (tC .non):=fun _ _ _ H _ I h=>Constant_none ⟨.non,H,I,rfl,h⟩
theorem Wf{x j pos}:PE X (.Constant (.str x) j pos) (tC (.str x)):=fun _ _ _ H _ I h=>Calls.Constant_str ⟨.str x,H,I.tok _,⟨_,rfl⟩,h⟩
def Gl(X:Cx)(x:Str):Prop:=X.env.kindOf x=some .globalImplicit
theorem On{E:Value→Shared→Prop}{or:List (Addr×Obj)}{s:Shared}{σ:St}{H:Hp}{x:Str}{u:Value}{pos:Pos}{Q:Value→Shared→Prop}(I:Inv X or σ H s)(hg:Gl X x)(hm:X.mg x=some u)(h:Q u s)(hd:(x==("__debug__":Str))=false:=by decide):wpAny (model X.prog X.w) X.A (eval (.Name x pos) X.env) Q E s:=
 Calls.Name_function_global I.ok.kind hg (Calls.loadGlobal_global (by rw[I.ok.glob];exact I.mod.glob.keeps I.bk) hm h) hd
theorem Um{E:Value→Shared→Prop}{or:List (Addr×Obj)}{s:Shared}{σ:St}{H:Hp}{x:Str}{u:Value}{pos:Pos}{Q:Value→Shared→Prop}(I:Inv X or σ H s)(hg:Gl X x)(hm:X.mg x=none)(hv:bootBuiltins x=some u)(h:Q u s)(hn:x≠"__name__":=by decide)(hd:(x==("__debug__":Str))=false:=by decide):wpAny (model X.prog X.w) X.A (eval (.Name x pos) X.env) Q E s:=by
 obtain⟨mb,h1,h2⟩:=I.mod.blt;exact Calls.Name_function_global I.ok.kind hg (Calls.loadGlobal_builtin (by rw[I.ok.glob];exact I.mod.glob.keeps I.bk) hm (by rw[I.ok.blt];exact h1.keeps I.bk) ((h2 x hn).trans hv) h) hd
theorem rg{x:Str}{v:V}{u:Value}{pos:Pos}(hg:Gl X x)(hm:X.mg x=some u)(r:RelV v u)(hd:(x==("__debug__":Str))=false:=by decide):PE X (.Name x pos) (tC v):=
 fun _ _ _ H _ I h=>On I hg hm ⟨v,H,I,r,h⟩ hd
theorem Xe{x:Str}{v:V}{u:Value}{pos:Pos}(hg:Gl X x)(hm:X.mg x=none)(hv:bootBuiltins x=some u)(r:RelV v u)(hn:x≠"__name__":=by decide)(hd:(x==("__debug__":Str))=false:=by decide):PE X (.Name x pos) (tC v):=
 fun _ _ _ H _ I h=>Um I hg hm hv ⟨v,H,I,r,h⟩ hn hd
variable{a b:Expr}{ta tb:TE}{pos:Pos}
def tB(t:TE):TT:=fun σ H Q=>t σ H fun x H1=>∃c,x=.bl c∧Q c H1
theorem X4{e:Expr}{t:TE}(h:PE X e t)(he:∀whole,isTrue e X.env whole=(do let v ←whole;standAt e.pos;holding [v] (truthy v)):=by intro _;rfl):PT X e (tB t):=by
 intro or s σ H Q I hw;refine isTrue_plain (thn (h or s σ H _ I hw) fun v s1 ⟨x,H1,I1,r1,q1⟩=>?_) (he _);obtain⟨d,rfl,q⟩:=q1;cases r1;exact yx ⟨H1,I1,q⟩
variable{tA tB':TT}{rest:List Expr}
def tOr(t u:TT):TT:=fun σ H Q=>t σ H fun c H1=>if c=true then Q true H1 else u σ H1 Q
def tNot(t:TT):TT:=fun σ H Q=>t σ H fun c H1=>Q (!c) H1
theorem Xn(ha:PT X a tA):PW X (.BoolOp .Or [a] pos) tA:=by
 intro wh or s σ H Q I h;refine isTrue_or (thn (ha or s σ H Q I h) fun c s1 e=>?_);cases c with
 |false=>exact isTrue_or_nil e
 |true=>exact e
theorem Wm(ha:PT X a tA)(hb:PW X (.BoolOp .Or (b::rest) pos) tB'):PW X (.BoolOp .Or (a::b::rest) pos) (tOr tA tB'):=by
 intro wh or s σ H Q I h;refine isTrue_or (thn (ha or s σ H _ I h) fun c s1 z8=>?_);obtain⟨H1,I1,q1⟩:=z8;cases c with
 |true=>exact⟨H1,I1,q1⟩
 |false=>exact hb wh or s1 σ H1 Q I1 q1
theorem X7(ha:PT X a tA):PT X (.UnaryOp .Not a pos) (tNot tA):=by
 intro or s σ H Q I h;exact isTrue_not (ha or s σ H (fun c H1=>Q (!c) H1) I h)
def u_(ta tb:TE):TE:=fun σ H Q=>ta σ H fun x H1=>∃c,x=.bl c∧if c=true then tb σ H1 Q else Q (.bl false) H1
def wx(ta:TE):TE:=fun σ H Q=>ta σ H fun x H1=>∃c,x=.bl c∧Q (.bl (!c)) H1
theorem Ug{op}{t:TE}(h:PE X a t):PE X (.BoolOp op [a] pos) t:=fun or s σ H Q I hw=>BoolOp_one (h or s σ H Q I hw)
theorem Wz(ha:PE X a ta)(hb:PE X (.BoolOp .And (b::rest) pos) tb):PE X (.BoolOp .And (a::b::rest) pos) (u_ ta tb):=by
 intro or s σ H Q I h;refine BoolOp_and (thn (ha or s σ H _ I h) fun v s1 z8=>?_);obtain⟨x,H1,I1,r1,q1⟩:=z8;obtain⟨c,rfl,q1⟩:=q1;cases r1;refine yx ?_;cases c with
 |true=>exact hb or s1 σ H1 Q I1 q1
 |false=>exact⟨.bl false,H1,I1,rfl,q1⟩
theorem tK(ha:PE X a ta):PE X (.UnaryOp .Not a pos) (wx ta):=by
 intro or s σ H Q I h;refine UnaryOp_ (thn (ha or s σ H _ I h) fun v s1 z8=>?_);obtain⟨x,H1,I1,r1,q1⟩:=z8;obtain⟨c,rfl,q1⟩:=q1;cases r1;exact not_of (yx ⟨.bl (!c),H1,I1,rfl,q1⟩)
end
def SqL(K:W.Frag)(H:Hp)(a:Addr)(xs:List V):Prop:=
 Rd H a (.lst xs)∨
  ∃(o:Obj)(its:Array Value)(n:Nat),K.lookup a=some o∧o.cls=.type "list"∧o.dict=none∧o.data=.seq its n∧its.size≤sizeLine∧Vals xs its.toList
def SqT(K:W.Frag)(H:Hp)(a:Addr)(xs:List V):Prop:=
 Rd H a (.tup xs)∨
  ∃(o:Obj)(its:Array Value)(n:Nat),K.lookup a=some o∧o.cls=.type "tuple"∧o.data=.seq its n∧its.size≤sizeLine∧Vals xs its.toList
def absV:Value→Option V
 |.none=>some .non
 |.bool b=>some (.bl b)
 |.int i _=>some (.int i)
 |.str x _=>some (.str x)
 |.bytes b _=>some (.byt b)
 |.float b _=>some (.flt b)
 |.ref a=>some (.ref a)
 |.type n=>some (.ty n)
 |_=>none
theorem RelV.abs{x:V}{u:Value}(r:RelV x u):absV u=some x:=by
 cases x with
 |non=>cases r;rfl
 |bl _=>cases r;rfl
 |int _=>obtain⟨t,rfl⟩:=r;rfl
 |str _=>obtain⟨t,rfl⟩:=r;rfl
 |byt _=>obtain⟨t,rfl⟩:=r;rfl
 |flt _=>obtain⟨t,rfl⟩:=r;rfl
 |ref _=>cases r;rfl
 |ty _=>cases r;rfl
theorem RelV.inj{x y:V}{u:Value}(r:RelV x u)(q:RelV y u):x=y:=xA (r.abs.symm.trans q.abs)
theorem Vals.inj{xs ys:List V}{us:List Value}(h:Vals xs us)(g:Vals ys us):xs=ys:=by
 induction h generalizing ys with
 |nil=>cases g;rfl
 |cons r t ih=>
  cases g with
  |cons r' t'=>rw[r.inj r',ih t']
section
variable{X:Cx}{or:List (Addr×Obj)}{σ:St}{H:Hp}{s:Shared}{a:Addr}{xs ys:List V}
theorem SqL.of{K:W.Frag}(h:H a=some (.lst xs)):SqL K H a xs:=.inl (.inl h)
theorem SqT.of{K:W.Frag}(h:H a=some (.tup xs)):SqT K H a xs:=.inl (.inl h)
theorem Inv.list(I:Inv X or σ H s)(h:SqL X.K H a xs):∃its:List Value,Vals xs its∧PlainL s.heap a its.toArray∧xs.length≤sizeLine:=by
 rcases h with h | ⟨o,its,n,hk,hc,hd,hs,hz,r⟩
 ·obtain⟨z,its,n,r,e⟩:=h.ok I.hok;exact⟨its,r,⟨_,n,e,rfl,rfl,rfl⟩,z⟩
 ·refine⟨its.toList,r,⟨o,n,I.kIn a o hk,hc,hd,by simpa using hs⟩,?_⟩;have e:=r.length;simp only[Array.length_toList]at e;omega
theorem Inv.tuple(I:Inv X or σ H s)(h:SqT X.K H a xs):∃its:List Value,Vals xs its∧IsTup s.heap a its.toArray∧xs.length≤sizeLine:=by
 rcases h with h | ⟨o,its,n,hk,hc,hs,hz,r⟩
 ·obtain⟨z,its,r,p⟩:=h.ok I.hok;exact⟨its,r,p.tup,z⟩
 ·refine⟨its.toList,r,⟨o,I.kIn a o hk,hc,n,by simpa using hs⟩,?_⟩;have e:=r.length;simp only[Array.length_toList]at e;omega
theorem Inv.list_inj(I:Inv X or σ H s)(h:SqL X.K H a xs)(h':SqL X.K H a ys):xs=ys:=by
 obtain⟨its,r,⟨o,n,e,_,_,d⟩,_⟩:=I.list h;obtain⟨its',r',⟨o',n',e',_,_,d'⟩,_⟩:=I.list h';rw[e]at e';cases e';rw[d]at d';injection d' with d1 _
 have:its=its':=by simpa using congrArg Array.toList d1
 subst this;exact r.inj r'
theorem Inv.tuple_inj(I:Inv X or σ H s)(h:SqT X.K H a xs)(h':SqT X.K H a ys):xs=ys:=by
 obtain⟨its,r,⟨o,e,_,n,d⟩,_⟩:=I.tuple h;obtain⟨its',r',⟨o',e',_,n',d'⟩,_⟩:=I.tuple h';rw[e]at e';cases e';rw[d]at d';injection d' with d1 _
 have:its=its':=by simpa using congrArg Array.toList d1
 subst this;exact r.inj r'
end
abbrev Cx.wish(X:Cx)(E:Value→Shared→Prop):Cx:={X with xe:=E}
abbrev Cx.nox(X:Cx):Cx:=X.wish fun _ _=>False
theorem Cx.Ok.wish{X:Cx}(ok:X.Ok)(E:Value→Shared→Prop):(X.wish E).Ok:=
 ⟨ok.mod,ok.kind,ok.glob,ok.blt,ok.above,ok.inj,ok.has,ok.cab,ok.hd,ok.frames,ok.stk,ok.exf,ok.bs,ok.bsz,ok.noex,ok.exfs,ok.funs,ok.frf⟩
theorem Cx.Ok.unwish{X:Cx}{E:Value→Shared→Prop}(ok:(X.wish E).Ok):X.Ok:=
 ⟨ok.mod,ok.kind,ok.glob,ok.blt,ok.above,ok.inj,ok.has,ok.cab,ok.hd,ok.frames,ok.stk,ok.exf,ok.bs,ok.bsz,ok.noex,ok.exfs,ok.funs,ok.frf⟩
section
variable{X:Cx}{or:List (Addr×Obj)}{σ:St}{H:Hp}{s:Shared}{E:Value→Shared→Prop}
theorem Inv.wish(I:Inv X or σ H s)(E:Value→Shared→Prop):Inv (X.wish E) or σ H s:=⟨I.ok.wish E,I.os,I.bare,I.base,I.loc,I.cell,I.free,I.freeC,I.pin,I.hok,I.len⟩
theorem Inv.unwish(I:Inv (X.wish E) or σ H s):Inv X or σ H s:=⟨I.ok.unwish,I.os,I.bare,I.base,I.loc,I.cell,I.free,I.freeC,I.pin,I.hok,I.len⟩
theorem SP.unwish{D:Ends}{f:Flow}{s':Shared}(h:SP (X.wish E) or D f s'):SP X or D f s':=by
 cases f with
 |next=>obtain⟨σ',H',I,q⟩:=h;exact⟨σ',H',I.unwish,q⟩
 |brk=>obtain⟨σ',H',I,q⟩:=h;exact⟨σ',H',I.unwish,q⟩
 |cont=>obtain⟨σ',H',I,q⟩:=h;exact⟨σ',H',I.unwish,q⟩
 |ret u=>obtain⟨v,σ',H',I,r,q⟩:=h;exact⟨v,σ',H',I.unwish,r,q⟩
theorem PSs.nox{st:List Stmt}{t:TS}(h:PSs X.nox st t):PSs X st t:=fun or s σ H D I hw=>
 xX (h or s σ H D (I.wish _) hw) (fun _ _ q=>q.unwish) fun _ _ z=>False.elim z
end
section
variable{X:Cx}{st:Stmt}{rest:List Stmt}{t u:TS}{e:Expr}{te:TE}{pos:Pos}
def wj:TS:=fun D σ H=>D.nx σ H
def vE(t u:TS):TS:=fun D σ H=>t {D with nx:=u D} σ H
theorem Zq:PSs X [] wj:=fun _ _ σ H _ I h=>wpAny_execs_nil ⟨σ,H,I,h⟩
theorem Z2(h1:PS X st t)(h2:PSs X rest u):PSs X (st::rest) (vE t u):=by
 intro or s σ H D I h;refine wpAny_execs_cons (thn (h1 or s σ H {D with nx:=u D} I h) fun f s1 q=>?_);cases f with
 |next=>
  obtain⟨σ',H',I',q⟩:=q;exact h2 or s1 σ' H' D I' q
 |ret v=>exact q
 |brk=>exact q
 |cont=>exact q
theorem Z6(h1:PS X st t):PSs X [st] t:=by
 intro or s σ H D I h;refine wpAny_execs_cons (thn (h1 or s σ H D I h) fun f s1 q=>?_);cases f with
 |next=>exact wpAny_execs_nil q
 |ret v=>exact q
 |brk=>exact q
 |cont=>exact q
theorem Inv.quiet{or:List (Addr×Obj)}{σ:St}{H:Hp}{s:Shared}(I:Inv X or σ H s):interactive X.env=false:=by simp[interactive,I.ok.kind]
def vi(te:TE):TS:=fun D σ H=>te σ H fun _ H1=>D.nx σ H1
theorem Wx(he:PE X e te)(hs:swapsWith e none pos.line X.env=pure false:=by rfl):PS X (.Expr e pos) (vi te):=by
 intro or s σ H D I h;exact wpAny_Expr_any (thn (he or s σ H _ I h) fun v s1 ⟨x,H1,I1,r1,q1⟩=>⟨σ,H1,I1,q1⟩) I.quiet hs
def tRet(te:TE):TS:=fun D σ H=>te σ H D.rt
theorem Zd(he:PE X e te):PS X (.Return (some e) pos) (tRet te):=by
 intro or s σ H D I h;exact wpAny_Return_some (thn (he or s σ H _ I h) fun v s1 ⟨x,H1,I1,r1,q1⟩=>⟨x,σ,H1,I1,r1,q1⟩)
def tIfS(c:TT)(t u:TS):TS:=fun D σ H=>c σ H fun b H1=>if b=true then t D σ H1 else u D σ H1
theorem Ye{c:Expr}{a b:List Stmt}{tc:TT}(hc:PT X c tc)(ha:PSs X a t)(hb:PSs X b u):PS X (.If c a b pos) (tIfS tc t u):=by
 intro or s σ H D I h;refine wpAny_If (thn (hc or s σ H _ I h) fun d s1 z8=>?_);obtain⟨H1,I1,q1⟩:=z8;cases d with
 |true=>exact ha or s1 σ H1 D I1 q1
 |false=>exact hb or s1 σ H1 D I1 q1
def s_:TS:=fun _ _ _=>False
theorem qd:PS X st s_:=fun _ _ _ _ _ _ h=>h.elim
end
abbrev TG:=V→St→Hp→(St→Hp→Prop)→Prop
abbrev TGs:=List V→St→Hp→(St→Hp→Prop)→Prop
def PG(X:Cx)(target:Expr)(t:TG):Prop:=
 ∀(or:List (Addr×Obj))(s:Shared)(σ:St)(H:Hp)(v:V)(u:Value)(Q:St→Hp→Prop),Inv X or σ H s→RelV v u→t v σ H Q→
  wpAny (model X.prog X.w) X.A (assign target X.env u) (fun _ s'=>∃σ' H',Inv X or σ' H' s'∧Q σ' H') X.xe s
def PGs(X:Cx)(ts:List Expr)(t:TGs):Prop:=
 ∀(or:List (Addr×Obj))(s:Shared)(σ:St)(H:Hp)(vs:List V)(us:List Value)(Q:St→Hp→Prop),Inv X or σ H s→Vals vs us→t vs σ H Q→
  wpAny (model X.prog X.w) X.A (assignInOrder ((assignEach ts X.env).map (·.2)) us) (fun _ s'=>∃σ' H',Inv X or σ' H' s'∧Q σ' H') X.xe s
abbrev sP:=V→V→V→Hp→(Hp→Prop)→Prop
def vU(X:Cx)(t:sP):Prop:=
 ∀(or:List (Addr×Obj))(s:Shared)(σ:St)(H:Hp)(o i v:V)(ov iv u:Value)(Q:Hp→Prop),Inv X or σ H s→RelV o ov→RelV i iv→RelV v u→t o i v H Q→
  wpAny (model X.prog X.w) X.A (setItem ov iv u) (fun _ s'=>∃H',Inv X or σ H' s'∧Q H') X.xe s
section
variable{X:Cx}{pos:Pos}
def gB(i:Nat):TG:=fun v σ H Q=>Q (σ.set i (some v)) H
theorem Z7{i:Nat}{x:Str}(hN:X.N.Nodup)(hi:X.N[i]?=some x)(hx:Loc X.env.scope x)(hf:X.fn x=true∨X.env.scope.names.lookup x=some .local:=by first | exact .inl rfl | exact .inr rfl | assumption):PG X (.Name x pos) (gB i):=by
 intro or s σ H v u Q I r h;exact wpAny_assign_Name (Nb I hN hi hx r (fun s' I'=>⟨_,H,I',h⟩) hf)
def gNil:TGs:=fun vs σ H Q=>vs=[]∧Q σ H
def vh(t:TG)(u:TGs):TGs:=fun vs σ H Q=>∃v r,vs=v::r∧t v σ H fun σ' H'=>u r σ' H' Q
theorem Y6:PGs X [] gNil:=by
 intro or s σ H vs us Q I r h;obtain⟨e,h⟩:=h;subst e;cases r;exact assignInOrder_nil ⟨σ,H,I,h⟩
theorem Za{e:Expr}{es:List Expr}{t:TG}{u:TGs}(h1:PG X e t)(h2:PGs X es u)(hs:(assignEach (e::es) X.env).map (·.2)=assign e X.env::(assignEach es X.env).map (·.2):=by rfl):PGs X (e::es) (vh t u):=by
 intro or s σ H vs us Q I r h;obtain⟨v,vr,e1,h⟩:=h;subst e1;cases r with
 |cons r rr=>
  rw[hs];refine assignInOrder_cons (thn (h1 or s σ H _ _ _ I r h) fun _ s1 z8=>?_);obtain⟨σ1,H1,I1,q1⟩:=z8;exact h2 or s1 σ1 H1 _ _ Q I1 rr q1
def vN(K:W.Frag)(n:Nat)(t:TGs):TG:=fun v σ H Q=>∃a xs,v=.ref a∧SqT K H a xs∧xs.length=n∧t xs σ H Q
theorem X9{es:List Expr}{k:Nat}{t:TGs}{n:Nat}(hc:X.calm=true)(h:PGs X es t)(hn:(assignEach es X.env).length=n:=by rfl)(hst:(assignEach es X.env).findIdx? (·.1)=none:=by rfl):PG X (.Tuple es k pos) (vN X.K n t):=by
 intro or s σ H v u Q I r hw;obtain⟨a,xs,e1,hq,hl,hw⟩:=hw;subst e1;cases r;obtain⟨its,rv,ht,hz⟩:=I.tuple hq;refine assign_Tuple_tuple (I.ok.hd hc) ht (by simp[hn,←hl,rv.length]) hst fun h' hx=>?_;have I1:Inv X or σ H {s with heap:=h'}:=I.kept (t':=s.toks) fun b o e=>hx b o (wS (wE e)) e;exact h or _ σ H xs _ Q I1 (by simpa using rv) hw
def gSub(to ti:TE)(t:sP):TG:=fun v σ H Q=>to σ H fun o H1=>ti σ H1 fun i H2=>t o i v H2 fun H3=>Q σ H3
theorem nj{o i:Expr}{to ti:TE}{t:sP}(ho:PE X o to)(hi:PE X i ti)(hs:vU X t)(ha:∀v,assign (.Subscript o i pos) X.env v=(do
   let ov ←holding [v] (eval o X.env)
   let iv ←holding [v,ov] (eval i X.env)
   standAt pos
   holding [v,ov,iv] (setItem ov iv v)
   release [v,ov,iv] []):=by intro _;rfl):PG X (.Subscript o i pos) (gSub to ti t):=by
 intro or s σ H v u Q I r h;rw[ha];refine ae (xQ (thn (ho or s σ H _ I h) fun ov s1 z8=>?_));obtain⟨x,H1,I1,r1,q1⟩:=z8;refine ae (xQ (thn (hi or s1 σ H1 _ I1 q1) fun iv s2 z8=>?_));obtain⟨y,H2,I2,r2,q2⟩:=z8;refine ae (wpAny_standAt (ae (xQ (thn (hs or s2 σ H2 x y v ov iv u _ I2 r1 r2 r q2) fun _ s3 z8=>?_))));obtain⟨H3,I3,q3⟩:=z8;exact wpAny_release ⟨σ,H3,I3,q3⟩
def pK(te:TE)(g:TG):TS:=fun D σ H=>te σ H fun x H1=>g x σ H1 D.nx
theorem W0{tg e:Expr}{te:TE}{g:TG}(he:PE X e te)(hg:PG X tg g)(hs:swapsWithSole [tg] e pos.line X.env=pure false:=by rfl)(hw:swappedStores [tg] e X.env=pure none:=by rfl)(h1:(assignEach [tg] X.env).map (·.2)=[assign tg X.env]:=by rfl):PS X (.Assign [tg] e pos) (pK te g):=by
 intro or s σ H D I h;refine wpAny_Assign_stores (thn (he or s σ H _ I h) fun v s1 ⟨x,H1,I1,r1,q1⟩=>?_) hs hw;rw[h1];exact thn (hg or s1 σ H1 x v _ I1 r1 q1) fun _ s2 q=>q
theorem R9{i:Nat}{x:Str}{e:Expr}{te:TE}{pos':Pos}(hN:X.N.Nodup)(hi:X.N[i]?=some x)(hx:Loc X.env.scope x)(he:PE X e te)(hs:swapsWith e (some (.Name x pos')) pos.line X.env=pure false:=by rfl)(hf:X.fn x=true∨X.env.scope.names.lookup x=some .local:=by first | exact .inl rfl | exact .inr rfl | assumption):
  PS X (.Assign [.Name x pos'] e pos) (pK te (gB i)):=by
 intro or s σ H D I h;refine wpAny_Assign_Name (thn (he or s σ H _ I h) fun v s1 z8=>?_) hs;obtain⟨y,H1,I1,r1,q1⟩:=z8;exact Nb I1 hN hi hx r1 (fun s2 I2=>⟨_,H1,I2,q1⟩) hf
end
section
variable{X:Cx}{pos:Pos}
def sX(c:TT)(tb:TS):TS:=fun D σ H=>∃W:Nat→St→Hp→Prop,(∃m,W m σ H)∧∀m σ H,W m σ H→
 c σ H fun b H1=>if b=true then ∃N:St→Hp→Prop,(∀σ' H',N σ' H'→∃m',m'<m∧W m' σ' H')∧tb {D with nx:=N,ct:=N,bk:=D.nx} σ H1 else D.nx σ H1
theorem pM{c:Expr}{body:List Stmt}{tc:TT}{tb:TS}(hp:PassesOwn (model X.prog X.w) X.A X.env X.xe)(hc:PT X c tc)(hb:PSs X body tb):PS X (.While c body [] pos) (sX tc tb):=by
 intro or s σ H D I h;obtain⟨W,⟨m0,w0⟩,turn⟩:=h;refine wpAny_While (codeAny_whileLoop (fun n s'=>∃σ' H',Inv X or σ' H' s'∧W n σ' H') ?_ m0 ⟨σ,H,I,w0⟩);rintro n s1 ⟨σ1,H1,I1,w1⟩;refine yY hp (thn (hc or s1 σ1 H1 _ I1 (turn n σ1 H1 w1)) fun b s2 z8=>?_);obtain⟨H2,I2,q2⟩:=z8;cases b with
 |true=>
  obtain⟨N,hN,q2⟩:=q2;rw[wM rfl];refine yY hp (thn (hb or s2 σ1 H2 _ I2 q2) fun f s3 q3=>?_);cases f with
  |next=>
   obtain⟨σ3,H3,I3,n3⟩:=q3;obtain⟨m',hm,w3⟩:=hN σ3 H3 n3;exact⟨m',hm,σ3,H3,I3,w3⟩
  |cont=>
   obtain⟨σ3,H3,I3,n3⟩:=q3;obtain⟨m',hm,w3⟩:=hN σ3 H3 n3;exact⟨m',hm,σ3,H3,I3,w3⟩
  |brk=>exact q3
  |ret v=>exact q3
 |false=>
  rw[wK wJ];exact wpAny_execs_nil ⟨σ1,H2,I2,q2⟩
end
structure It where
 go:Nat→Hp→Prop
 yld:Nat→Hp→V→Hp→Prop
 stop:Nat→Hp→Prop
def cw(X:Cx)(or:List (Addr×Obj))(H:Hp)(b:Addr):Prop:=
 H b=none∧b≠X.env.locals∧b∉X.fs∧(b∈X.ex∨X.s₀.heap.objs.size≤b)∧(∀x c,X.env.cells.lookup x=some c→c≠b)∧∀p∈X.pn++or,p.1≠b
theorem Inv.fpOk{X:Cx}{or:List (Addr×Obj)}{σ:St}{H H':Hp}{s:Shared}{b:Addr}(I:Inv X or σ H s)(hb:s.heap.objs.size≤b)(hn:H' b=none):cw X or H' b:=by
 refine⟨hn,x4 (xk I.lt hb),I.nofs hb,.inr (x3 I.sz hb),fun x c e z=>?_,fun p hp z=>?_⟩
 ·obtain⟨v,q⟩:=I.cell x c e;exact absurd (xk q.lt (by rw[z];exact hb)) (yK _)
 ·exact absurd (xk (wE (I.pin p hp).1) (by rw[z];exact hb)) (yK _)
structure Turn(P:Program)(w:World)(K:W.Frag)(tg:Expr)(J:It)(fp:List Addr)(it:Addr)(tn:Nat→Heap→Prop):Prop where
 mem:it∈fp
 obj:∀i h,tn i h→∀b∈fp,∃o,h.get? b=some o∧∀v,o.data≠.cell v
 keep:∀i h h',tn i h→(∀b∈fp,∀o,h.get? b=some o→h'.get? b=some o)→tn i h'
 item:∀(X:Cx),X.prog=P→X.w=w→X.K=K→X.calm=true→∀(i:Nat)(or:List (Addr×Obj))(s:Shared)(σ:St)(H:Hp)(E:Value→Shared→Prop),Inv X or σ H s→(∀b∈fp,cw X or H b)→tn i s.heap→J.go i H→
  wpAny (model P w) X.A (pyNext (.ref it)) (fun r s1=>∃u,r=some u∧
   wpAny (model P w) X.A (letOwnedTupleGo tg (.ref it) u) (fun _ s2=>∃x H',Inv X or σ H' s2∧RelV x u∧J.yld i H x H'∧tn (i+1) s2.heap∧∀b∈fp,H' b=none) E s1) E s
 done:∀(X:Cx),X.prog=P→X.w=w→X.K=K→X.calm=true→∀(i:Nat)(or:List (Addr×Obj))(s:Shared)(σ:St)(H:Hp)(E:Value→Shared→Prop),Inv X or σ H s→(∀b∈fp,cw X or H b)→tn i s.heap→J.stop i H→
  wpAny (model P w) X.A (pyNext (.ref it)) (fun r s1=>r=none∧Inv X or σ H s1) E s
 self:∀(A:Around)(i:Nat)(s:Shared)(Q:Value→Shared→Prop)(E:Value→Shared→Prop),tn i s.heap→Q (.ref it) s→wpAny (model P w) A (pyIter (.ref it)) Q E s
abbrev TI:=St→Hp→(It→Hp→Prop)→Prop
def PIE(X:Cx)(or:List (Addr×Obj))(σ:St)(tg:Expr)(R:It→Hp→Prop)(itv:Value)(s2:Shared):Prop:=
 ∃(it:Addr)(fp:List Addr)(tn:Nat→Heap→Prop)(J:It)(H':Hp),itv=.ref it∧Inv X or σ H' s2∧Turn X.prog X.w X.K tg J fp it tn∧tn 0 s2.heap∧(∀b∈fp,cw X or H' b)∧R J H'
def PI(X:Cx)(tg iter:Expr)(wi:TI):Prop:=
 ∀(or:List (Addr×Obj))(s:Shared)(σ:St)(H:Hp)(R:It→Hp→Prop),Inv X or σ H s→wi σ H R→
  wpAny (model X.prog X.w) X.A (eval iter X.env) (fun v s1=>wpAny (model X.prog X.w) X.A (pyIter v) (PIE X or σ tg R) X.xe s1) X.xe s
theorem Pj{M:Model}{A:Around}{E:Value→Shared→Prop}{s:Shared}{tg:Expr}{it:Addr}{u:Value}{o:Obj}{n:String}{vs:Array Value}{Q:Unit→Shared→Prop}(ho:s.heap.get? it=some o)(hc:o.cls=.type n)(hd:o.data=.fields vs)(hn:["enumerate","zip","dict_itemiterator","dict_reverseitemiterator","odict_iterator","itertools.zip_longest","itertools.pairwise"].contains n=false)(hQ:Q () s):wpAny M A (letOwnedTupleGo tg (.ref it) u) Q E s:=by
 unfold letOwnedTupleGo;cases tg <;> first
  |exact io hQ
  | (cases u <;> first
    |exact io hQ
    | (refine ae (zZ ho ?_)
       rw[hc,hd];show wpAny M A (if (["enumerate","zip","dict_itemiterator","dict_reverseitemiterator","odict_iterator","itertools.zip_longest","itertools.pairwise"].contains n && vs[0]? == some (rawInt _))=true then _ else _) Q E s;rw[wK (by intro h;rw[hn,yr]at h;cases h)];exact io hQ))
def Itl(K:W.Frag)(a:Addr):It:=
 ⟨fun i H=>∃xs x,SqL K H a xs∧xs[i]?=some x,fun i H x H'=>H'=H∧∀xs,SqL K H a xs→xs[i]?=some x,fun i H=>∃xs,SqL K H a xs∧xs.length≤i⟩
def Itt(K:W.Frag)(a:Addr):It:=
 ⟨fun i H=>∃xs x,SqT K H a xs∧xs[i]?=some x,fun i H x H'=>H'=H∧∀xs,SqT K H a xs→xs[i]?=some x,fun i H=>∃xs,SqT K H a xs∧xs.length≤i⟩
def Itr(lo:Int)(n:Nat):It:=⟨fun i _=>i<n,fun i H x H'=>H'=H∧x=.int (lo+i),fun i _=>n≤i⟩
theorem lM{P:Program}{w:World}{K:W.Frag}{tg:Expr}(a it:Addr):Turn P w K tg (Itl K a) [it] it (fun i h=>h.IsListIter it a i) where
 mem:=by simp
 obj:=fun i h st b hb=>by
  have e:b=it:=by simpa using hb
  subst e;obtain⟨o,e,c,d⟩:=st;exact⟨o,e,fun v z=>by rw[d]at z;cases z⟩
 keep:=fun i h h' st k=>st.at fun o e=>k it (by simp) o e
 item:=by
  intro X hP hw hK hc i or s σ H E I hf st hg;subst hP hw hK;obtain⟨xs,x,hq,hx⟩:=hg;obtain⟨its,rv,p,hz⟩:=I.list hq;obtain⟨u,hu,ru⟩:=rv.get hx;obtain⟨f0,f1,f2,f3,f4,f5⟩:=hf it (by simp);refine wpAny_pyNext_list_item st p.isList (x:=u) (by simpa using hu) fun h' Aj sb=>?_;have I1:Inv X or σ H {s with heap:=h'}:=I.turned (t':=s.toks) (fun b o hb e=>(sb.2 b hb).trans e) f0 f1 f3 f4 f5;obtain⟨o,e,c,d⟩:=id Aj;exact⟨u,rfl,Pj (s:={s with heap:=h'}) e c d (by decide) ⟨x,H,I1,ru,⟨rfl,fun ys hy=>by rw[I.list_inj hy hq];exact hx⟩,Aj,fun b hb=>(hf b hb).1⟩⟩
 done:=by
  intro X hP hw hK hc i or s σ H E I hf st hg;subst hP hw hK;obtain⟨xs,hq,hx⟩:=hg;obtain⟨its,rv,p,hz⟩:=I.list hq;obtain⟨f0,f1,f2,f3,f4,f5⟩:=hf it (by simp);have hl:=rv.length;exact wpAny_pyNext_list_end (I.ok.hd hc) st p.isList (by simp;omega) fun h' eb=>⟨rfl,I.turned (t':=s.toks) (fun b o hb e=>eb b o hb e) f0 f1 f3 f4 f5⟩
 self:=fun _ _ _ _ _ st h=>wpAny_pyIter_listiter st h
theorem jd{P:Program}{w:World}{K:W.Frag}{tg:Expr}(a it:Addr):Turn P w K tg (Itt K a) [it] it (fun i h=>h.IsTupleIter it a i) where
 mem:=by simp
 obj:=fun i h st b hb=>by
  have e:b=it:=by simpa using hb
  subst e;obtain⟨o,e,c,d⟩:=st;exact⟨o,e,fun v z=>by rw[d]at z;cases z⟩
 keep:=fun i h h' st k=>st.at fun o e=>k it (by simp) o e
 item:=by
  intro X hP hw hK hc i or s σ H E I hf st hg;subst hP hw hK;obtain⟨xs,x,hq,hx⟩:=hg;obtain⟨its,rv,p,hz⟩:=I.tuple hq;obtain⟨u,hu,ru⟩:=rv.get hx;obtain⟨f0,f1,f2,f3,f4,f5⟩:=hf it (by simp);refine wpAny_pyNext_tuple_item st (show s.heap.IsTuple a its.toArray from p) (x:=u) (by simpa using hu) fun h' Aj sb=>?_;have I1:Inv X or σ H {s with heap:=h'}:=I.turned (t':=s.toks) (fun b o hb e=>(sb.2 b hb).trans e) f0 f1 f3 f4 f5;obtain⟨o,e,c,d⟩:=id Aj;exact⟨u,rfl,Pj (s:={s with heap:=h'}) e c d (by decide) ⟨x,H,I1,ru,⟨rfl,fun ys hy=>by rw[I.tuple_inj hy hq];exact hx⟩,Aj,fun b hb=>(hf b hb).1⟩⟩
 done:=by
  intro X hP hw hK hc i or s σ H E I hf st hg;subst hP hw hK;obtain⟨xs,hq,hx⟩:=hg;obtain⟨its,rv,p,hz⟩:=I.tuple hq;obtain⟨f0,f1,f2,f3,f4,f5⟩:=hf it (by simp);have hl:=rv.length;exact wpAny_pyNext_tuple_end (I.ok.hd hc) st (show s.heap.IsTuple a its.toArray from p) (by simp;omega) fun h' eb=>⟨rfl,I.turned (t':=s.toks) (fun b o hb e=>eb b o hb e) f0 f1 f3 f4 f5⟩
 self:=fun _ _ _ _ _ st h=>wpAny_pyIter_tupleiter st h
theorem iS{P:Program}{w:World}{K:PySem.W.Frag}{tg:Expr}(it:Addr)(lo:Int)(n:Nat):Turn P w K tg (Itr lo n) [it] it (fun i h=>IsRangeIter h it (lo+(i:Nat)*1) ((n:Int)-(i:Nat)) 1) where
 mem:=by simp
 obj:=fun i h st b hb=>by
  have e:b=it:=by simpa using hb
  subst e;exact⟨_,st,fun v z=>by
   have z':Data.fields _=Data.cell v:=z;cases z'⟩
 keep:=fun i h h' st k=>k it (by simp) _ st
 item:=by
  intro X hP hw hK hc i or s σ H E I hf st hg;subst hP hw hK;obtain⟨f0,f1,f2,f3,f4,f5⟩:=hf it (by simp);have W:=Walks.range (prog:=X.prog) (w:=X.w) (I.ok.hd hc) it lo 1 n;refine W.item i s _ _ hg st fun v h' tk hv Aj kk=>?_;obtain⟨t,rfl⟩:=hv;have I1:Inv X or σ H {s with heap:=h',toks:=tk}:=I.turned (fun b o hb e=>kk b o (by simpa using hb) e) f0 f1 f3 f4 f5;refine⟨_,rfl,Pj (s:={s with heap:=h',toks:=tk}) (n:="range_iterator") Aj rfl rfl (by decide) ⟨.int (lo+i),H,I1,⟨t,?_⟩,⟨rfl,rfl⟩,Aj,fun b hb=>(hf b hb).1⟩⟩;rw[Int.mul_one]
 done:=by
  intro X hP hw hK hc i or s σ H E I hf st hg;subst hP hw hK;obtain⟨f0,f1,f2,f3,f4,f5⟩:=hf it (by simp);exact wpAny_pyNext_range_end (I.ok.hd hc) st (by have:n≤i:=hg;omega) fun h' eb=>⟨rfl,I.turned (t':=s.toks) (fun b o hb e=>eb b o hb e) f0 f1 f3 f4 f5⟩
 self:=fun _ _ _ _ _ st h=>wpAny_pyIter_rangeiter st h
section
variable{X:Cx}{tg:Expr}
def vY(K:W.Frag)(tl:TE):TI:=fun σ H R=>tl σ H fun x H1=>∃a,x=.ref a∧(∃xs,SqL K H1 a xs)∧R (Itl K a) H1
def iTup(K:W.Frag)(tl:TE):TI:=fun σ H R=>tl σ H fun x H1=>∃a,x=.ref a∧(∃xs,SqT K H1 a xs)∧R (Itt K a) H1
theorem Zy{l:Expr}{tl:TE}(hl:PE X l tl):PI X tg l (vY X.K tl):=by
 intro or s σ H R I h;refine thn (hl or s σ H _ I h) fun v s1 z8=>?_;obtain⟨x,H1,I1,r1,q1⟩:=z8;obtain⟨a,e,⟨xs,hq⟩,q⟩:=q1;subst e;cases r1;obtain⟨its,rv,p,hz⟩:=I1.list hq;refine wpAny_pyIter_list p.isList ?_;refine⟨s1.heap.objs.size,[s1.heap.objs.size],_,_,H1,rfl,I1.kept (t':=s1.toks) fun b o e=>az _ e,lM a _,⟨_,wD _ rfl,rfl,rfl⟩,fun b hb=>?_,q⟩;have e:b=s1.heap.objs.size:=by simpa using hb
 subst e;exact I1.fpOk (pi _) (I1.hok.fresh (pi _))
theorem Rb{l:Expr}{tl:TE}(hl:PE X l tl):PI X tg l (iTup X.K tl):=by
 intro or s σ H R I h;refine thn (hl or s σ H _ I h) fun v s1 z8=>?_;obtain⟨x,H1,I1,r1,q1⟩:=z8;obtain⟨a,e,⟨xs,hq⟩,q⟩:=q1;subst e;cases r1;obtain⟨its,rv,p,hz⟩:=I1.tuple hq;refine wpAny_pyIter_tuple (show s1.heap.IsTuple a its.toArray from p) ?_;refine⟨s1.heap.objs.size,[s1.heap.objs.size],_,_,H1,rfl,I1.kept (t':=s1.toks) fun b o e=>az _ e,jd a _,⟨_,wD _ rfl,rfl,rfl⟩,fun b hb=>?_,q⟩;have e:b=s1.heap.objs.size:=by simpa using hb
 subst e;exact I1.fpOk (pi _) (I1.hok.fresh (pi _))
theorem oi{or:List (Addr×Obj)}{σ:St}{H:Hp}{s:Shared}{R:It→Hp→Prop}{E:Value→Shared→Prop}{lo hi:Int}{t u v:Tok}{tk:Nat}(I:Inv X or σ H s)(h1:-(2^62)≤lo)(h2:lo<2^62)(h3:-(2^62)≤hi)(h4:hi<2^62)(q:R (Itr lo (hi-lo).toNat) H):wpAny (model X.prog X.w) X.A (pyIter (.ref s.heap.objs.size)) (PIE X or σ tg R) E {s with heap:=s.heap.push {cls:=.type "range",data:=.fields #[.int lo t,.int hi u,.int 1 v]},toks:=tk}:=by
 refine wpAny_pyIter_range (IsRange.new ..) (small_one h1 h2 h3 h4) ?_;have I1:Inv X or σ H {s with heap:=s.heap.push {cls:=.type "range",data:=.fields #[.int lo t,.int hi u,.int 1 v]},toks:=tk}:=I.kept fun b o e=>az _ e;refine⟨(s.heap.push {cls:=.type "range",data:=.fields #[.int lo t,.int hi u,.int 1 v]}).objs.size,[(s.heap.push {cls:=.type "range",data:=.fields #[.int lo t,.int hi u,.int 1 v]}).objs.size],_,_,H,rfl,
  I1.kept (t':=tk) fun b o e=>az _ e,iS _ lo (hi-lo).toNat,?_,fun b hb=>?_,q⟩
 ·have e1:lo+((0:Nat):Int)*1=lo:=by simp
  have e2:(((hi-lo).toNat:Nat):Int)-((0:Nat):Int)=Builtin.Range.rangeSize lo hi 1:=by rw[rangeSize_one];split <;> omega
  show IsRangeIter _ _ (lo+((0:Nat):Int)*1) ((((hi-lo).toNat:Nat):Int)-((0:Nat):Int)) 1;rw[e1,e2];exact wD _ rfl
 ·have e:b=(s.heap.push {cls:=.type "range",data:=.fields #[.int lo t,.int hi u,.int 1 v]}).objs.size:=by simpa using hb
  subst e;exact I1.fpOk (pi _) (I1.hok.fresh (pi _))
def wt(ta:TA):TI:=fun σ H R=>ta σ H fun vs H1=>∃j:Int,vs=[.int j]∧-(2^62)≤j∧j<2^62∧R (Itr 0 j.toNat) H1
theorem lj{a:Expr}{ta:TA}{p pos:Pos}(hg:Gl X "range")(hm:X.mg "range"=none)(ha:PA X [a] ta)(hs:starEach [a] X.env=[(false,eval a X.env)]:=by rfl):PI X tg (.Call (.Name "range" p) [a] [] pos) (wt ta):=by
 intro or s σ H R I h;refine Call_ (Um I hg hm boot_range (yR (thn (ha pos or s σ H _ I h) fun us s1 ⟨vs,H1,I1,r1,q1⟩=>?_) hs rfl));obtain⟨j,e,q1,q2,q⟩:=q1;subst e;cases r1 with
 |cons r rr=>
  cases rr;obtain⟨t,rfl⟩:=r;exact call_range_1 (oi I1 (by omega) (by omega) q1 q2 (by simpa using q))
def tFor(wi:TI)(g:TG)(tb:TS):TS:=fun D σ H=>wi σ H fun J H1=>∃W:Nat→Nat→St→Hp→Prop,(∃m,W 0 m σ H1)∧∀i m σ H,W i m σ H→
 (J.stop i H∧D.nx σ H)∨(J.go i H∧∃N:St→Hp→Prop,(∀σ' H',N σ' H'→∃m',m'<m∧W (i+1) m' σ' H')∧∀x H',J.yld i H x H'→g x σ H' fun σ2 H2=>tb {D with nx:=N,ct:=N,bk:=D.nx} σ2 H2)
def dU(fp:List Addr)(h:Heap):List (Addr×Obj):=fp.filterMap fun b=>(h.get? b).map fun o=>(b,o)
theorem V0{fp:List Addr}{h:Heap}{b:Addr}{o:Obj}(hb:b∈fp)(e:h.get? b=some o):(b,o)∈dU fp h:=yw.mpr ⟨b,hb,by rw[e];rfl⟩
theorem mB{fp:List Addr}{h:Heap}{p:Addr×Obj}(hp:p∈dU fp h):p.1∈fp∧h.get? p.1=some p.2:=by
 obtain⟨b,hb,e⟩:=yw.mp hp;cases q:h.get? b with
 |none=>rw[q]at e;cases e
 |some o=>
  rw[q]at e;have e':(b,o)=p:=xA e;subst e';exact⟨hb,q⟩
theorem Inv.pinned{or:List (Addr×Obj)}{σ:St}{H:Hp}{s:Shared}{fp:List Addr}(I:Inv X or σ H s)(hf:∀b∈fp,cw X or H b)(ho:∀b∈fp,∃o,s.heap.get? b=some o∧∀v,o.data≠.cell v):Inv X (or++dU fp s.heap) σ H s:=
 I.pins_of fun p hp=>(wY.mp hp).elim (fun z=>I.pin p (wP _ z)) fun z=>by
  obtain⟨hb,e⟩:=mB z;obtain⟨f0,f1,f2,_⟩:=hf p.1 hb;obtain⟨o,e',d⟩:=ho p.1 hb;rw[e]at e';cases e';exact⟨e,f0,f1,f2,d⟩
theorem Inv.unpinned{or pl:List (Addr×Obj)}{σ:St}{H:Hp}{s:Shared}(I:Inv X (or++pl) σ H s):Inv X or σ H s:=I.pins_of fun p hp=>I.pin p (wP _ (xv _ hp))
theorem X8{iter:Expr}{body:List Stmt}{wi:TI}{g:TG}{tb:TS}{pos:Pos}(hp:PassesOwn (model X.prog X.w) X.A X.env X.xe)(hc:X.calm=true)(hi:PI X tg iter wi)(hg:PG X tg g)(hb:PSs X body tb)(hs:∀x,foldedSetIterable iter X.env x=pure x:=by intro _;rfl):PS X (.For tg iter body [] pos) (tFor wi g tb):=by
 intro or s σ H D I h;refine wpAny_For (thn (hi or s σ H _ I h) fun v s1 h1=>thn h1 fun itv s2 h2=>?_) hs;obtain⟨it,fp,tn,J,H2,e,I2,T,st2,f2,W,⟨m0,w0⟩,turn⟩:=h2;subst e;have stat:∀{H':Hp},(∀b∈fp,H' b=none)→∀b∈fp,cw X or H' b:=fun hn b hb=>⟨hn b hb,(f2 b hb).2⟩;refine codeAny_forLoop_any (fun n s'=>∃i σ' H',Inv X or σ' H' s'∧tn i s'.heap∧(∀b∈fp,H' b=none)∧W i n σ' H') ?_ m0 ⟨0,σ,H2,I2,st2,fun b hb=>(f2 b hb).1,w0⟩;rintro n s3 ⟨i,σ3,H3,I3,st3,fr3,w3⟩
 rcases turn i n σ3 H3 w3 with⟨stop,qn⟩|⟨go,N,hN,step⟩
 ·refine yY hp (thn (T.done X rfl rfl rfl hc i or s3 σ3 H3 X.xe I3 (stat fr3) st3 stop) fun r s4 z8=>?_);obtain⟨hr,I4⟩:=z8;subst hr;exact wpAny_execs_nil ⟨σ3,H3,I4,qn⟩
 ·refine yY hp (thn (T.item X rfl rfl rfl hc i or s3 σ3 H3 X.xe I3 (stat fr3) st3 go) fun r s4 z8=>?_);obtain⟨u,hr,h4⟩:=z8;subst hr;refine yY hp (thn h4 fun _ s5 z8=>?_);obtain⟨x,H5,I5,r5,y5,st5,fr5⟩:=z8;have I5':=I5.pinned (stat fr5) (T.obj _ _ st5);refine yY hp (thn (hg _ s5 σ3 H5 x u _ I5' r5 (step x H5 y5)) fun _ s6 z8=>?_);obtain⟨σ6,H6,I6,q6⟩:=z8;refine yY hp (thn (hb _ s6 σ6 H6 _ I6 q6) fun f s7 q7=>?_);have again:∀{σ7:St}{H7:Hp},Inv X (or++dU fp s5.heap) σ7 H7 s7→N σ7 H7→∃m,m<n∧∃i σ' H',Inv X or σ' H' s7∧tn i s7.heap∧(∀b∈fp,H' b=none)∧W i m σ' H':=fun{σ7 H7} I7 n7=>by
   obtain⟨m',hm,w7⟩:=hN σ7 H7 n7;refine⟨m',hm,i+1,σ7,H7,I7.unpinned,T.keep _ _ _ st5 fun b hb o e=>(I7.pin (b,o) (wP _ (wP _ (V0 hb e)))).1,fun b hb=>?_,w7⟩;obtain⟨o,e,d⟩:=T.obj _ _ st5 b hb;exact(I7.pin (b,o) (wP _ (wP _ (V0 hb e)))).2.1
  cases f with
  |next=>obtain⟨σ7,H7,I7,n7⟩:=q7;exact again I7 n7
  |cont=>obtain⟨σ7,H7,I7,n7⟩:=q7;exact again I7 n7
  |brk=>obtain⟨σ7,H7,I7,q7⟩:=q7;exact⟨σ7,H7,I7.unpinned,q7⟩
  |ret v=>obtain⟨x7,σ7,H7,I7,r7,q7⟩:=q7;exact⟨x7,σ7,H7,I7.unpinned,r7,q7⟩
end
theorem Xm{K:PySem.W.Frag}{a:Addr}{xs:List V}{g:TG}{tb:TS}{D:Ends}{σ:St}{H:Hp}(Pv:Nat→St→Hp→Prop)(h0:Pv 0 σ H)(hl:∀i σ H,i≤xs.length→Pv i σ H→SqL K H a xs)(hs:∀i x σ H,xs[i]?=some x→Pv i σ H→g x σ H fun σ2 H2=>tb {D with nx:=Pv (i+1),ct:=Pv (i+1),bk:=D.nx} σ2 H2)(hd:∀σ H,Pv xs.length σ H→D.nx σ H):
  ∃W:Nat→Nat→St→Hp→Prop,(∃m,W 0 m σ H)∧∀i m σ H,W i m σ H→
   ((Itl K a).stop i H∧D.nx σ H)∨((Itl K a).go i H∧∃N:St→Hp→Prop,(∀σ' H',N σ' H'→∃m',m'<m∧W (i+1) m' σ' H')∧∀x H',(Itl K a).yld i H x H'→g x σ H' fun σ2 H2=>tb {D with nx:=N,ct:=N,bk:=D.nx} σ2 H2):=by
 refine⟨fun i m σ H=>m=xs.length-i∧i≤xs.length∧Pv i σ H,⟨xs.length,by simp,Nat.zero_le _,h0⟩,?_⟩;rintro i m σ H ⟨rfl,hi,p⟩;have q:=hl i σ H hi p;by_cases Ac:i<xs.length
 ·refine .inr ⟨⟨xs,xs[i],q,by simp[Ac]⟩,Pv (i+1),fun σ' H' p'=>⟨xs.length-(i+1),by omega,rfl,Ac,p'⟩,fun x H' y=>?_⟩;obtain⟨e,y⟩:=y;subst e;exact hs i x σ _ (y xs q) p
 ·have e:i=xs.length:=by omega
  subst e;exact .inl ⟨⟨xs,q,pi _⟩,hd σ H p⟩
theorem jT{K:PySem.W.Frag}{a:Addr}{xs:List V}{g:TG}{tb:TS}{D:Ends}{σ:St}{H:Hp}(Pv:Nat→St→Hp→Prop)(h0:Pv 0 σ H)(hl:∀i σ H,i≤xs.length→Pv i σ H→SqT K H a xs)(hs:∀i x σ H,xs[i]?=some x→Pv i σ H→g x σ H fun σ2 H2=>tb {D with nx:=Pv (i+1),ct:=Pv (i+1),bk:=D.nx} σ2 H2)(hd:∀σ H,Pv xs.length σ H→D.nx σ H):
  ∃W:Nat→Nat→St→Hp→Prop,(∃m,W 0 m σ H)∧∀i m σ H,W i m σ H→
   ((Itt K a).stop i H∧D.nx σ H)∨((Itt K a).go i H∧∃N:St→Hp→Prop,(∀σ' H',N σ' H'→∃m',m'<m∧W (i+1) m' σ' H')∧∀x H',(Itt K a).yld i H x H'→g x σ H' fun σ2 H2=>tb {D with nx:=N,ct:=N,bk:=D.nx} σ2 H2):=by
 refine⟨fun i m σ H=>m=xs.length-i∧i≤xs.length∧Pv i σ H,⟨xs.length,by simp,Nat.zero_le _,h0⟩,?_⟩;rintro i m σ H ⟨rfl,hi,p⟩;have q:=hl i σ H hi p;by_cases Ac:i<xs.length
 ·refine .inr ⟨⟨xs,xs[i],q,by simp[Ac]⟩,Pv (i+1),fun σ' H' p'=>⟨xs.length-(i+1),by omega,rfl,Ac,p'⟩,fun x H' y=>?_⟩;obtain⟨e,y⟩:=y;subst e;exact hs i x σ _ (y xs q) p
 ·have e:i=xs.length:=by omega
  subst e;exact .inl ⟨⟨xs,q,pi _⟩,hd σ H p⟩
abbrev R2:=V→V→Hp→VK→Prop
def OpR(X:Cx)(f:Value→Value→Sem Value)(r:R2):Prop:=
 ∀(or:List (Addr×Obj))(s:Shared)(σ:St)(H:Hp)(x y:V)(v u:Value)(Q:VK),Inv X or σ H s→RelV x v→RelV y u→r x y H Q→
  wpAny (model X.prog X.w) X.A (f v u) (EP X or σ Q) X.xe s
def UnR(X:Cx)(f:Value→Sem Value)(r:V→Hp→VK→Prop):Prop:=
 ∀(or:List (Addr×Obj))(s:Shared)(σ:St)(H:Hp)(x:V)(v:Value)(Q:VK),Inv X or σ H s→RelV x v→r x H Q→
  wpAny (model X.prog X.w) X.A (f v) (EP X or σ Q) X.xe s
def aV(X:Cx)(f:Value)(r:List V→Hp→VK→Prop):Prop:=
 ∀(or:List (Addr×Obj))(s:Shared)(σ:St)(H:Hp)(xs:List V)(us:List Value)(Q:VK),Inv X or σ H s→Vals xs us→r xs H Q→
  wpAny (model X.prog X.w) X.A (call f us) (EP X or σ Q) X.xe s
def tOp(r:R2)(ta tb:TE):TE:=fun σ H Q=>ta σ H fun x H1=>tb σ H1 fun y H2=>r x y H2 Q
def tUn(r:V→Hp→VK→Prop)(ta:TE):TE:=fun σ H Q=>ta σ H fun x H1=>r x H1 Q
def rI(C:Int→Int→Prop)(g:Int→Int→V):R2:=fun x y H Q=>∃i j,x=.int i∧y=.int j∧C i j∧Q (g i j) H
def rI0(g:Int→Int→V):R2:=fun x y H Q=>∃i j,x=.int i∧y=.int j∧Q (g i j) H
def rU(g:Int→V):V→Hp→VK→Prop:=fun x H Q=>∃i,x=.int i∧Q (g i) H
section
variable{X:Cx}{a b c:Expr}{ta tb tc:TE}{pos:Pos}
theorem tm(ha:PE X a ta)(hb:PE X b tb){or:List (Addr×Obj)}{s:Shared}{σ:St}{H:Hp}{R:V→V→Hp→Prop}(I:Inv X or σ H s)(h:ta σ H fun x H1=>tb σ H1 fun y H2=>R x y H2){Q:Value→Shared→Prop}{f:Value→Value→Sem Value}(hf:∀v u s2 x y H2,Inv X or σ H2 s2→RelV x v→RelV y u→R x y H2→wpAny (model X.prog X.w) X.A (f v u) Q X.xe s2):
  wpAny (model X.prog X.w) X.A (eval a X.env) (fun v s₁=>wpAny (model X.prog X.w) X.A (eval b X.env) (fun u s₂=>wpAny (model X.prog X.w) X.A (f v u) Q X.xe s₂) X.xe s₁) X.xe s:=by
 refine thn (ha or s σ H _ I h) fun v s1 z8=>?_;obtain⟨x,H1,I1,r1,q1⟩:=z8;refine thn (hb or s1 σ H1 _ I1 q1) fun u s2 z8=>?_;obtain⟨y,H2,I2,r2,q2⟩:=z8;exact hf v u s2 x y H2 I2 r1 r2 q2
theorem Zi{op:Operator}{r:R2}(ho:OpR X (binaryOp op) r)(ha:PE X a ta)(hb:PE X b tb):PE X (.BinOp a op b pos) (tOp r ta tb):=by
 intro or s σ H Q I h;exact wpAny_BinOp (tm ha hb I h fun v u s2 x y H2 I2 rx ry q=>ho or s2 σ H2 x y v u Q I2 rx ry q)
theorem v0{op:UnaryOp}{r:V→Hp→VK→Prop}(ho:UnR X (unaryOp op) r)(ha:PE X a ta):PE X (.UnaryOp op a pos) (tUn r ta):=by
 intro or s σ H Q I h;exact UnaryOp_ (thn (ha or s σ H _ I h) fun v s1 ⟨x,H1,I1,r1,q1⟩=>ho or s1 σ H1 x v Q I1 r1 q1)
theorem opI{f:Value→Value→Sem Value}{C:Int→Int→Prop}{g:Int→Int→Int}(rule:∀(i j:Int) (t u:Tok) (s:Shared) (Q:Value→Shared→Prop) (E:Value→Shared→Prop),C i j→Q (.int (g i j) s.toks) {s with toks:=s.toks+1}→wpAny (model X.prog X.w) X.A (f (.int i t) (.int j u)) Q E s):
  OpR X f (rI C fun i j=>.int (g i j)):=by
 intro or s σ H x y v u Q I rx ry h;obtain⟨i,j,rfl,rfl,hc,q⟩:=h;obtain⟨t,rfl⟩:=rx;obtain⟨t',rfl⟩:=ry;exact rule i j t t' s _ _ hc ⟨.int (g i j),H,I.tok _,⟨_,rfl⟩,q⟩
theorem vI{f:Value→Value→Sem Value}{g:Int→Int→Int}(rule:∀(i j:Int) (t u:Tok) (s:Shared) (Q:Value→Shared→Prop) (E:Value→Shared→Prop),Q (.int (g i j) s.toks) {s with toks:=s.toks+1}→wpAny (model X.prog X.w) X.A (f (.int i t) (.int j u)) Q E s):
  OpR X f (rI0 fun i j=>.int (g i j)):=by
 intro or s σ H x y v u Q I rx ry h;obtain⟨i,j,rfl,rfl,q⟩:=h;obtain⟨t,rfl⟩:=rx;obtain⟨t',rfl⟩:=ry;exact rule i j t t' s _ _ ⟨.int (g i j),H,I.tok _,⟨_,rfl⟩,q⟩
theorem qV{f:Value→Value→Sem Value}{g:Int→Int→Bool}(rule:∀(i j:Int) (t u:Tok) (s:Shared) (Q:Value→Shared→Prop) (E:Value→Shared→Prop),Q (.bool (g i j)) s→wpAny (model X.prog X.w) X.A (f (.int i t) (.int j u)) Q E s):
  OpR X f (rI0 fun i j=>.bl (g i j)):=by
 intro or s σ H x y v u Q I rx ry h;obtain⟨i,j,rfl,rfl,q⟩:=h;obtain⟨t,rfl⟩:=rx;obtain⟨t',rfl⟩:=ry;exact rule i j t t' s _ _ ⟨.bl (g i j),H,I,rfl,q⟩
def vj(i j:Int):Prop:=0<j∧j<1073741824
def ud(i j:Int):Prop:=0≤j∧j≤1000000∧i.natAbs<2^64
def CMul(i j:Int):Prop:=(-(2^64)<i∧i<2^64)∨(-(2^64)<j∧j<2^64)
theorem CMul.ok{i j:Int}(h:CMul i j):IntMulOk i j:=by
 rcases h with⟨h1,h2⟩|⟨h1,h2⟩
 ·exact .of_left (intBits_le_64 h1 h2)
 ·exact .of_right (intBits_le_64 h1 h2)
theorem Zw:OpR X (binaryOp .Add) (rI0 fun i j=>.int (i+j)):=vI fun _ _ _ _ _ _ _ q=>add_int q
theorem Tu:OpR X (binaryOp .Sub) (rI0 fun i j=>.int (i-j)):=vI fun _ _ _ _ _ _ _ q=>sub_int q
theorem Vc:OpR X (binaryOp .Mult) (rI CMul fun i j=>.int (i*j)):=opI fun _ _ _ _ _ _ _ hc q=>mul_int q hc.ok
theorem ko:OpR X (binaryOp .FloorDiv) (rI vj fun i j=>.int (i / j)):=opI fun i j _ _ _ _ _ hc q=>by
 have h1:(0:Int)<j:=hc.1;have h2:j<1073741824:=hc.2;exact floordiv_int (by omega) (by rw[Int.fdiv_eq_ediv_of_nonneg i (by omega)];exact q) (.inl (PyProof.noPylong_small (by omega)))
theorem W1:OpR X (binaryOp .Mod) (rI (fun _ j=>0<j) fun i j=>.int (i % j)):=opI fun i j _ _ _ _ _ hc q=>by
 have h1:(0:Int)<j:=hc;exact mod_int' (by omega) (by rw[Int.fmod_eq_emod_of_nonneg i (by omega)];exact q)
theorem iC:OpR X (binaryOp .Pow) (rI ud fun i j=>.int (i^j.toNat)):=opI fun _ _ _ _ _ _ _ hc q=>pow_int_small hc.1 hc.2.1 hc.2.2 q
theorem uo:OpR X (binaryOp .LShift) (rI ud fun i j=>.int (i*2^j.toNat)):=opI fun _ _ _ _ _ _ _ hc q=>lshift_int_small hc.1 hc.2.1 hc.2.2 q
theorem unI{f:Value→Sem Value}{g:Int→Int}(rule:∀(i:Int) (t:Tok) (s:Shared) (Q:Value→Shared→Prop) (E:Value→Shared→Prop),Q (.int (g i) s.toks) {s with toks:=s.toks+1}→wpAny (model X.prog X.w) X.A (f (.int i t)) Q E s):
  UnR X f (rU fun i=>.int (g i)):=by
 intro or s σ H x v Q I rx h;obtain⟨i,rfl,q⟩:=h;obtain⟨t,rfl⟩:=rx;exact rule i t s _ _ ⟨.int (g i),H,I.tok _,⟨_,rfl⟩,q⟩
theorem uT:UnR X (unaryOp .USub) (rU fun i=>.int (-i)):=unI fun _ _ _ _ _ q=>neg_int q
end
def wf:V→V→Bool
 |.non,.non=>true | .non,.int _=>true | .int _,.non=>true | .non,.bl _=>true | .bl _,.non=>true | .non,.str _=>true | .str _,.non=>true
 |.int _,.int _=>true | .bl _,.bl _=>true | .str _,.str _=>true | .byt _,.byt _=>true
 |.int _,.str _=>true | .str _,.int _=>true | .bl _,.str _=>true | .str _,.bl _=>true
 |_,_=>false
def rEq:R2:=fun x y H Q=>wf x y=true∧Q (.bl (decide (x=y))) H
def rNe:R2:=fun x y H Q=>wf x y=true∧Q (.bl (!decide (x=y))) H
theorem j9{i j:Int}:decide (V.int i=V.int j)=(i==j):=by
 rw[yk];simp
theorem m8{i j:Bool}:decide (V.bl i=V.bl j)=(i==j):=by
 rw[yk];simp
theorem jr{i j:Str}:decide (V.str i=V.str j)=(i==j):=by
 rw[yk];simp
theorem jq{i j:Array UInt8}:decide (V.byt i=V.byt j)=(i.toList==j.toList):=by
 rw[yk];cases i;cases j;simp
section
variable{X:Cx}{a b c:Expr}{ta tb tc:TE}{pos:Pos}
theorem Zm{or:List (Addr×Obj)}{σ:St}{H:Hp}{s:Shared}{Q:VK}{k k':Bool}(I:Inv X or σ H s)(q:Q (.bl k) H)(e:k=k'):EP X or σ Q (.bool k') s:=by
 subst e;exact⟨.bl k,H,I,rfl,q⟩
theorem jB:OpR X (compareOp .Eq) rEq:=by
 intro or s σ H x y v u Q I rx ry h;obtain⟨hs,q⟩:=h;cases x with
 |non=>
  cases rx;cases y with
  |non=>cases ry;exact PySem.EqNone.eq_none_none (Zm I q (by simp))
  |bl j=>cases ry;exact PySem.EqNone.eq_none_bool (Zm I q (by simp))
  |int j=>obtain⟨t',rfl⟩:=ry;exact PySem.EqNone.eq_none_int (Zm I q (by simp))
  |str j=>obtain⟨t',rfl⟩:=ry;exact PySem.EqNone.eq_none_str (Zm I q (by simp))
  |_=>exact absurd (show false=true from hs) wJ
 |bl i=>
  cases rx;cases y with
  |non=>cases ry;exact PySem.EqNone.eq_bool_none (Zm I q (by simp))
  |bl j=>cases ry;exact eq_bool (Zm I q m8)
  |str j=>obtain⟨t',rfl⟩:=ry;exact PySem.EqMixed.eq_bool_str (Zm I q (by simp))
  |_=>exact absurd (show false=true from hs) wJ
 |int i=>
  obtain⟨t,rfl⟩:=rx;cases y with
  |non=>cases ry;exact PySem.EqNone.eq_int_none (Zm I q (by simp))
  |int j=>obtain⟨t',rfl⟩:=ry;exact eq_int (Zm I q j9)
  |str j=>obtain⟨t',rfl⟩:=ry;exact PySem.EqMixed.eq_int_str (Zm I q (by simp))
  |_=>exact absurd (show false=true from hs) wJ
 |str i=>
  obtain⟨t,rfl⟩:=rx;cases y with
  |non=>cases ry;exact PySem.EqNone.eq_str_none (Zm I q (by simp))
  |bl j=>cases ry;exact PySem.EqMixed.eq_str_bool (Zm I q (by simp))
  |int j=>obtain⟨t',rfl⟩:=ry;exact PySem.EqMixed.eq_str_int (Zm I q (by simp))
  |str j=>obtain⟨t',rfl⟩:=ry;exact eq_str (Zm I q jr)
  |_=>exact absurd (show false=true from hs) wJ
 |byt i=>
  obtain⟨t,rfl⟩:=rx;cases y with
  |byt j=>obtain⟨t',rfl⟩:=ry;exact W.eq_bytes (Zm I q jq)
  |_=>exact absurd (show false=true from hs) wJ
 |_=>cases y <;> exact absurd (show false=true from hs) wJ
theorem S9:OpR X (compareOp .NotEq) rNe:=by
 intro or s σ H x y v u Q I rx ry h;obtain⟨hs,q⟩:=h;cases x with
 |non=>
  cases rx;cases y with
  |non=>cases ry;exact PySem.EqNone.ne_none_none (Zm I q (by simp))
  |bl j=>cases ry;exact PySem.EqNone.ne_none_bool (Zm I q (by simp))
  |int j=>obtain⟨t',rfl⟩:=ry;exact PySem.EqNone.ne_none_int (Zm I q (by simp))
  |str j=>obtain⟨t',rfl⟩:=ry;exact PySem.EqNone.ne_none_str (Zm I q (by simp))
  |_=>exact absurd (show false=true from hs) wJ
 |bl i=>
  cases rx;cases y with
  |non=>cases ry;exact PySem.EqNone.ne_bool_none (Zm I q (by simp))
  |bl j=>cases ry;exact ne_bool (Zm I q (yy not m8))
  |str j=>obtain⟨t',rfl⟩:=ry;exact PySem.EqMixed.ne_bool_str (Zm I q (by simp))
  |_=>exact absurd (show false=true from hs) wJ
 |int i=>
  obtain⟨t,rfl⟩:=rx;cases y with
  |non=>cases ry;exact PySem.EqNone.ne_int_none (Zm I q (by simp))
  |int j=>obtain⟨t',rfl⟩:=ry;exact ne_int (Zm I q (yy not j9))
  |str j=>obtain⟨t',rfl⟩:=ry;exact PySem.EqMixed.ne_int_str (Zm I q (by simp))
  |_=>exact absurd (show false=true from hs) wJ
 |str i=>
  obtain⟨t,rfl⟩:=rx;cases y with
  |non=>cases ry;exact PySem.EqNone.ne_str_none (Zm I q (by simp))
  |bl j=>cases ry;exact PySem.EqMixed.ne_str_bool (Zm I q (by simp))
  |int j=>obtain⟨t',rfl⟩:=ry;exact PySem.EqMixed.ne_str_int (Zm I q (by simp))
  |str j=>obtain⟨t',rfl⟩:=ry;exact ne_str (Zm I q (yy not jr))
  |_=>exact absurd (show false=true from hs) wJ
 |byt i=>
  obtain⟨t,rfl⟩:=rx;cases y with
  |byt j=>obtain⟨t',rfl⟩:=ry;exact W.ne_bytes (Zm I q (yy not jq))
  |_=>exact absurd (show false=true from hs) wJ
 |_=>cases y <;> exact absurd (show false=true from hs) wJ
theorem oz:OpR X (compareOp .Lt) (rI0 fun i j=>.bl (decide (i<j))):=qV fun _ _ _ _ _ _ _ q=>lt_int q
theorem pT:OpR X (compareOp .LtE) (rI0 fun i j=>.bl (decide (i≤j))):=qV fun _ _ _ _ _ _ _ q=>le_int q
theorem Ri:OpR X (compareOp .Gt) (rI0 fun i j=>.bl (decide (j<i))):=qV fun _ _ _ _ _ _ _ q=>gt_int q
theorem pY:OpR X (compareOp .GtE) (rI0 fun i j=>.bl (decide (j≤i))):=qV fun _ _ _ _ _ _ _ q=>ge_int q
theorem Pa:OpR X (compareOp .Lt) (fun x y H Q=>∃i j,x=.str i∧y=.str j∧Q (.bl (decide (i.cps.toList<j.cps.toList))) H):=by
 intro or s σ H x y v u Q I rx ry h;obtain⟨i,j,rfl,rfl,q⟩:=h;obtain⟨t,rfl⟩:=rx;obtain⟨t',rfl⟩:=ry;exact lt_str (Zm I q rfl)
theorem lV:OpR X (compareOp .In) (fun x y H Q=>∃i j,x=.str i∧y=.str j∧Q (.bl (!(Builtin.Str.occurrences j i 0 j.length 1).isEmpty)) H):=by
 intro or s σ H x y v u Q I rx ry h;obtain⟨i,j,rfl,rfl,q⟩:=h;obtain⟨t,rfl⟩:=rx;obtain⟨t',rfl⟩:=ry;exact in_str (Zm I q rfl)
theorem p7:OpR X (compareOp .Is) (fun x y H Q=>y=.non∧Q (.bl (decide (x=.non))) H):=by
 intro or s σ H x y v u Q I rx ry h;obtain⟨rfl,q⟩:=h;cases ry;refine is_none_gen (Zm I q ?_);cases x <;> first
  | (cases rx;rfl)
  | (obtain⟨t,rfl⟩:=rx;rfl)
theorem rB:OpR X (compareOp .IsNot) (fun x y H Q=>y=.non∧Q (.bl (!decide (x=.non))) H):=by
 intro or s σ H x y v u Q I rx ry h;obtain⟨rfl,q⟩:=h;cases ry;refine isnot_none_gen (Zm I q ?_);cases x <;> first
  | (cases rx;rfl)
  | (obtain⟨t,rfl⟩:=rx;rfl)
theorem Zl(b:Expr){op:CmpOp}(h:op≠.In:=by decide)(h2:op≠.NotIn:=by decide):behindInMarks op b=false:=by
 have e1:(op==CmpOp.In)=false:=by cases op <;> first | rfl | exact absurd rfl h
 have e2:(op==CmpOp.NotIn)=false:=by cases op <;> first | rfl | exact absurd rfl h2
 cases b <;> simp[behindInMarks,e1,e2]
theorem X5{op:CmpOp}{r:R2}(ho:OpR X (compareOp op) r)(ha:PE X a ta)(hb:PE X b tb)(hm:behindInMarks op b=false):PE X (.Compare a [op] [b] pos) (tOp r ta tb):=by
 intro or s σ H Q I h;exact wpAny_Compare1 (tm ha hb I h fun v u s2 x y H2 I2 rx ry q=>ho or s2 σ H2 x y v u Q I2 rx ry q) hm
def vG(t:TE):TT:=fun σ H Q=>t σ H fun x H'=>∃k,x=.bl k∧Q k H'
theorem Zs{op:CmpOp}{r:R2}(ho:OpR X (compareOp op) r)(ha:PE X a ta)(hb:PE X b tb)(hm:behindInMarks op b=false):PT X (.Compare a [op] [b] pos) (vG (tOp r ta tb)):=by
 intro or s σ H Q I h;refine wpAny_isTrue_Compare1 (thn (ha or s σ H _ I h) fun v s1 ⟨x,H1,I1,r1,q1⟩=>thn (hb or s1 σ H1 _ I1 q1) fun u s2 ⟨y,H2,I2,r2,q2⟩=>
  thn (ho or s2 σ H2 x y v u _ I2 r1 r2 q2) fun c s3 ⟨z,H3,I3,r3,k,e,q3⟩=>?_) hm
 subst e;cases r3;exact yx ⟨H3,I3,q3⟩
theorem Rq:(sizeLine:Nat)<2^63:=by rw[sizeLine_eq];decide
theorem ij:OpR X (binaryOp .Add) (fun x y H Q=>∃i j,x=.str i∧y=.str j∧i.length+j.length≤sizeLine∧Q (.str (i++j)) H):=by
 intro or s σ H x y v u Q I rx ry h;obtain⟨i,j,rfl,rfl,hz,q⟩:=h;obtain⟨t,rfl⟩:=rx;obtain⟨t',rfl⟩:=ry;exact add_str (fun t' tk=>⟨.str (i++j),H,I.tok _,⟨_,rfl⟩,q⟩) hz
theorem Xx{x:V}{us:List Value}(r:Vals [x] us):∃u,us=[u]∧RelV x u:=by
 cases r with
 |cons r1 r2=>cases r2;exact⟨_,rfl,r1⟩
theorem oX{x y:V}{us:List Value}(r:Vals [x,y] us):∃u w',us=[u,w']∧RelV x u∧RelV y w':=by
 cases r with
 |cons r1 r2=>
  cases r2 with
  |cons r3 r4=>cases r4;exact⟨_,_,rfl,r1,r3⟩
theorem k9(hc:X.calm=true):aV X (.builtin "min") (fun xs H Q=>∃i j,xs=[.int i,.int j]∧Q (.int (if j<i then j else i)) H):=by
 intro or s σ H xs us Q I r h;obtain⟨i,j,rfl,q⟩:=h;obtain⟨u,w',rfl,⟨t,rfl⟩,⟨t',rfl⟩⟩:=oX r;refine min_two_ints (I.ok.hd hc) fun h' tk k=>⟨_,H,I.kept k,?_,q⟩;by_cases hj:j<i
 ·rw[wM hj,wM hj];exact⟨_,rfl⟩
 ·rw[wK hj,wK hj];exact⟨_,rfl⟩
end
structure ObjM(h:Heap)(x dx C:Addr)(mA:Str→Option Value):Prop where
 obj:h.get? x=some (W.instObj C dx)
 ns:h.Ns1 dx mA
 ne:dx≠x
theorem kU{h:Heap}{dx:Addr}{mA:Str→Option Value}(n:h.Ns1 dx mA):∃od,h.get? dx=some od∧∀name,W.lookIn name od=some (mA name):=by
 obtain⟨o,es,ep,ho,hd,hk,_,hm⟩:=n;refine⟨o,ho,fun name=>?_⟩;have e:=hm name;unfold nsFind findBy at e;rw[←Array.find?_toList]at e;unfold W.lookIn;rw[hd];dsimp only
 split
 ·rename_i y q;rw[q]at e;exact yy some e
 ·rename_i q;rw[q]at e;have a:es.toList.any (·.refKey)=false:=by
   rw[List.any_eq_false];intro y hy;obtain⟨z,t,hkey⟩:=hk y (zL.mp hy);simp[DictEntry.refKey,hkey]
  have a':¬es.toList.any (·.refKey)=true:=by rw[a];exact wJ
  rw[wK a'];exact yy some e
theorem ObjM.look{h:Heap}{x dx C:Addr}{mA:Str→Option Value}(I:ObjM h x dx C mA):∃od,W.InstAt h x (W.instObj C dx) C (some od)∧∀name,W.lookIn name od=some (mA name):=
 let ⟨od,ho,hl⟩:=kU I.ns
 ⟨od,⟨I.obj,rfl,rfl,ho⟩,hl⟩
section
variable{prog:Program}{w:World}{A:Around}{E:Value→Shared→Prop}{s:Shared}{K:W.Frag}{x dx C f:Addr}{mA:Str→Option Value}{name:Str}{v:Value}
end
theorem RelO.some_of{v:V}{o:Option Value}(r:RelO (some v) o):∃u,o=some u∧RelV v u:=by
 cases o with
 |none=>exact(show False from r).elim
 |some u=>exact⟨u,rfl,r⟩
section
variable{P:Program}{w:World}{H H':Hp}{h h':Heap}{a C dx:Addr}{fs fs':List (Str×V)}
theorem qF(hok:HOk P w H h)(e:H a=some (.ins C dx fs)):∃mA,ObjM h a dx C mA∧(∀f,RelO (fs.lookup f) (mA f))∧PySem.Within mA (fs.map (·.1))∧fs.length≤1000∧H dx=some (.own a):=by
 obtain⟨d,z,ne,ob,mA,n,r,q⟩:=(show ObjOk P w H h a (.ins C dx fs)from hok a _ e);exact⟨mA,⟨ob,n,ne⟩,r,q,z,d⟩
end
structure Cls(K:W.Frag)(C:Addr):Prop where
 pg:W.plainGet K C Str.empty=true
 hd:W.hasDictIn K C=true
 po:W.plainOver K C=true
 sa:W.findIn K (.ref C) "__setattr__"=some (some (.builtin "object.__setattr__"))
theorem Cls.get{K:W.Frag}{C:Addr}(c:Cls K C)(f:Str):W.plainGet K C f=true:=c.pg
section
variable{X:Cx}{or:List (Addr×Obj)}{σ:St}{H:Hp}{s:Shared}{a C dx:Addr}{fs:List (Str×V)}{f:Str}{v:V}{A:Around}{E:Value→Shared→Prop}
end
section
variable{X:Cx}{o e value:Expr}{f:Str}{pos pos' tpos:Pos}{ta tv:TE}
end
section
variable{X:Cx}{or:List (Addr×Obj)}{σ:St}{H:Hp}{s:Shared}{A:Around}{E:Value→Shared→Prop}{Q:Value→Shared→Prop}{c:Value}{b:Bool}
inductive TyOf(K:W.Frag)(H:Hp):V→Value→Prop where
 |non:TyOf K H .non (.type "NoneType")
 |bl (x:Bool):TyOf K H (.bl x) (.type "bool")
 |int (i:Int):TyOf K H (.int i) (.type "int")
 |str (x:Str):TyOf K H (.str x) (.type "str")
 |flt (x:UInt64):TyOf K H (.flt x) (.type "float")
 |lst {a:Addr} {xs:List V} (e:H a=some (.lst xs)):TyOf K H (.ref a) (.type "list")
 |frz {a:Addr} {o:Obj} {xs:List V} (e:H a=some (.frz o (.lst xs))):TyOf K H (.ref a) (.type "list")
 |tup {a:Addr} {xs:List V} (e:H a=some (.tup xs)):TyOf K H (.ref a) (.type "tuple")
 |dK {a:Addr} {kvs:List (Key×V)} (e:H a=some (.dK kvs)):TyOf K H (.ref a) (.type "dict")
 |dT {a:Addr} {kvs:List (List Key×V)} (e:H a=some (.dT kvs)):TyOf K H (.ref a) (.type "dict")
 |ins {a C dx:Addr} {fs:List (Str×V)} (e:H a=some (.ins C dx fs)) (cl:Cls K C) (ha:W.findIn K (.ref C) "__class__"=some (some (.builtin "object.__class__")))
   (hn:W.specialIn K (.builtin "object.__class__") "__get__"=some (some (.builtin "getset_descriptor.__get__"))) (htk:W.takesIn K (.builtin "object.__class__")=some true)
   (hm:W.mroIn K C (.type "object")=some true):TyOf K H (.ref a) (.ref C)
theorem mn{x:V}{u t:Value}(I:Inv X or σ H s)(rx:RelV x u)(ty:TyOf X.K H x t)(e:W.kitOne X.K t c=some b)(h:∀tk,Q (.bool b) {s with toks:=tk}):
  wpAny (model X.prog X.w) A (call (.builtin "isinstance") [u,c]) Q E s:=by
 cases ty with
 |non=>cases (show u=Value.none from rx);exact zC W.kitx_none I.kIn True.intro e (fun z=>nomatch z) h
 |bl y=>cases (show u=Value.bool y from rx);exact zC W.kitx_bool I.kIn True.intro e (fun z=>nomatch z) h
 |int i=>obtain⟨t,q⟩:=(show ∃t,u=Value.int i t from rx);cases q;exact zC W.kitx_int I.kIn True.intro e (fun z=>nomatch z) h
 |str y=>obtain⟨t,q⟩:=(show ∃t,u=Value.str y t from rx);cases q;exact zC W.kitx_str I.kIn True.intro e (fun z=>nomatch z) h
 |flt y=>obtain⟨t,q⟩:=(show ∃t,u=Value.float y t from rx);cases q;exact zC W.kitx_float I.kIn True.intro e (fun z=>nomatch z) h
 | @lst a xs ea=>
  cases (show u=Value.ref a from rx);obtain⟨_,_,n,_,h1⟩:=(show ObjOk X.prog X.w H s.heap a (.lst xs)from I.hok a _ ea);exact zC W.kitx_list I.kIn ⟨_,h1,rfl⟩ e (fun z=>nomatch z) h
 | @frz a ob xs ea=>
  cases (show u=Value.ref a from rx);obtain⟨_,_,_,n,_,h1⟩:=(show ObjOk X.prog X.w H s.heap a (.frz ob (.lst xs))from I.hok a _ ea);exact zC W.kitx_list I.kIn ⟨_,h1,rfl⟩ e (fun z=>nomatch z) h
 | @tup a xs ea=>
  cases (show u=Value.ref a from rx);obtain⟨_,_,_,p⟩:=(show ObjOk X.prog X.w H s.heap a (.tup xs)from I.hok a _ ea);obtain⟨o,h1,h2,_⟩:=p;exact zC W.kitx_tuple I.kIn ⟨o,h1,h2.1⟩ e (fun z=>nomatch z) h
 | @dK a kvs ea=>
  cases (show u=Value.ref a from rx);obtain⟨_,_,vs,_,p⟩:=(show ObjOk X.prog X.w H s.heap a (.dK kvs)from I.hok a _ ea);obtain⟨o,es,ep,h1,h2,_⟩:=p;exact zC W.kitx_dict I.kIn ⟨o,h1,h2.1⟩ e (fun z=>nomatch z) h
 | @dT a kvs ea=>
  cases (show u=Value.ref a from rx);obtain⟨_,_,xs,_,o,es,ep,h1,h2,_⟩:=(show ObjOk X.prog X.w H s.heap a (.dT kvs)from I.hok a _ ea);exact zC W.kitx_dict I.kIn ⟨o,h1,h2.1⟩ e (fun z=>nomatch z) h
 | @ins a C dx fs ea cl ha hn htk hm=>
  cases (show u=Value.ref a from rx);obtain⟨mA,O,_⟩:=qF I.hok ea;obtain⟨od,J,_⟩:=O.look;exact zC (W.kitx_own (cl.get _) cl.hd ha hn htk hm) I.kIn J e (fun z=>nomatch z) h
end
structure Room(k:Nat)(A:Around):Prop where
 hd:A.handled=none
 dp:A.depth+3*k+5<recursionLimit
 un:A.units+16*k+200<cLine
theorem Room.mono{j k:Nat}{A:Around}(r:Room k A)(h:j≤k):Room j A:=⟨r.hd,by have:=r.dp;omega,by have:=r.un;omega⟩
theorem Room.deeper{k:Nat}{A:Around}(r:Room (k+1) A)(env:Env):Room k (A.deeper env):=
 ⟨r.hd,by have:=r.dp;show A.depth+1+3*k+5<_;omega,by have:=r.un;show A.units+3+16*k+200<_;omega⟩
theorem Room.depth{k:Nat}{A:Around}(r:Room k A):A.depth<recursionLimit:=by have:=r.dp;omega
theorem Room.units{k:Nat}{A:Around}(r:Room k A):A.units+64<cLine:=by have:=r.un;omega
def wm:TA:=fun _ H Q=>Q [] H
def sn(ta:TE)(tr:TA):TA:=fun σ H Q=>ta σ H fun x H1=>tr σ H1 fun xs H2=>Q (x::xs) H2
section
variable{X:Cx}{e:Expr}{es:List Expr}{te:TE}{t:TA}{pos:Pos}
theorem Z1:PA X [] wm:=fun _ _ _ _ H Q I h=>Calls.spliced_nil ⟨[],H,I,.nil,h⟩
theorem Z0(ha:PE X e te)(hr:PA X es t)(hs:starEach (e::es) X.env=(false,eval e X.env)::starEach es X.env:=by rfl):PA X (e::es) (sn te t):=by
 intro pos or s σ H Q I h;rw[hs];show wpAny _ _ (spliced ((false,eval e X.env)::backTo pos (starEach es X.env))) _ _ s;refine Calls.spliced_cons (thn (ha or s σ H _ I h) fun u s1 z8=>?_);obtain⟨x,H1,I1,r1,q1⟩:=z8;exact thn (hr pos or s1 σ H1 _ I1 q1) fun us s2 ⟨xs,H2,I2,r2,q2⟩=>⟨x::xs,H2,I2,.cons r1 r2,q2⟩
def tTup(t:TA):TE:=fun σ H Q=>t σ H fun xs H1=>xs.length≤sizeLine∧∀p,H1 p=none→Q (.ref p) (upd H1 p (.tup xs))
def tLst(t:TA):TE:=fun σ H Q=>t σ H fun xs H1=>xs.length≤sizeLine∧∀p,H1 p=none→Q (.ref p) (upd H1 p (.lst xs))
theorem Yh{x1}(h:PA X es t):PE X (.Tuple es x1 pos) (tTup t):=by
 intro or s σ H Q I hq;refine wpAny_Tuple_spliced (thn (h pos or s σ H _ I hq) fun us s1 ⟨xs,H1,I1,r,z,q⟩=>⟨by rw[←r.length];exact z,?_⟩);have hf:H1 s1.heap.objs.size=none:=I1.hok.fresh (pi _);refine⟨.ref s1.heap.objs.size,upd H1 s1.heap.objs.size (.tup xs),I1.laid (t':=s1.toks) (fun b u e=>az _ e) (pi _) ?_,rfl,q _ hf⟩;exact⟨z,us,r,TupN.new _ _⟩
theorem Y4(h:PA X es t):PE X (.List es pos) (tLst t):=by
 intro or s σ H Q I hq;refine wpAny_List_spliced (thn (h pos or s σ H _ I hq) fun us s1 ⟨xs,H1,I1,r,z,q⟩=>⟨by rw[←r.length];exact z,?_⟩);have hf:H1 s1.heap.objs.size=none:=I1.hok.fresh (pi _);refine⟨.ref s1.heap.objs.size,upd H1 s1.heap.objs.size (.lst xs),I1.laid (t':=s1.toks) (fun b u e=>az _ e) (pi _) ?_,rfl,q _ hf⟩;exact⟨z,us,0,r,wD _ rfl⟩
end
abbrev Sp:=List V→Hp→VK→XK→Prop
abbrev CXT:=List Env→Hp→Shared→XK→Value→Shared→Prop
structure Env0(P:Program)(w:World)(K:W.Frag)(mg:Str→Option Value)(base:Heap)(A:Around)(outer:List Env)(s:Shared)(H:Hp):Prop where
 frames:A.frames=some outer
 mod:Mod K mg base
 bs:∀b o,base.get? b=some o→s.heap.get? b=some o∧H b=none
 bsz:base.objs.size≤s.heap.objs.size
 funs:s.heap.FunFrames base outer
 frf:∀b∈frs outer,H b=none
 hok:HOk P w H s.heap
 bare:AllBare s.gens
def CE(outer:List Env)(P:Program)(w:World)(H:Hp)(s:Shared)(Q:VK)(u:Value)(s':Shared):Prop:=
 ∃v H',s'.os=s.os∧AllBare s'.gens∧Un (frs outer) [] H H' s.heap s'.heap∧HOk P w H' s'.heap∧RelV v u∧Q v H'
def CR(CX:CXT)(outer:List Env)(P:Program)(w:World)(H:Hp)(s:Shared)(Q:VK)(E:XK)(r:Result)(s':Shared):Prop:=
 match r with
 |.ok (.ret u)=>CE outer P w H s Q u s'
 |.ok _=>False
 |.error e=>CX outer H s E e s'
structure FnOk(P:Program)(w:World)(K:W.Frag)(mg:Str→Option Value)(base:Heap)(CX:CXT)(k:Nat)(f:Addr)(fd:FuncData)(ps:List Str)(sp:Sp):Prop where
 len:∀vs H Q E,sp vs H Q E→vs.length=ps.length
 run:∀(A:Around)(outer:List Env)(s:Shared)(H:Hp)(args:Args)(us:List Value)(vs:List V)(Q:VK)(E:XK),Room k A→Env0 P w K mg base A outer s H→BindsTo s fd args (ps.zip us)→Vals vs us→sp vs H Q E→
  codeAny (model P w) A (.call (.ref f) args) (CR CX outer P w H s Q E) s
theorem FnOk.mono{P:Program}{w:World}{K:W.Frag}{mg:Str→Option Value}{base:Heap}{CX:CXT}{j k:Nat}{f:Addr}{fd:FuncData}{ps:List Str}{sp:Sp}(F:FnOk P w K mg base CX j f fd ps sp)(h:j≤k):
  FnOk P w K mg base CX k f fd ps sp:=⟨F.len,fun A outer s H args us vs Q E hr=>F.run A outer s H args us vs Q E (hr.mono h)⟩
section
variable{X:Cx}{or:List (Addr×Obj)}{σ:St}{H:Hp}{s s':Shared}
theorem Inv.env0(I:Inv X or σ H s):Env0 X.prog X.w X.K X.mg X.base X.A X.stack s H:=
 ⟨I.ok.frames,I.ok.mod,I.bs,x3 I.ok.bsz I.sz,I.stack,I.stkFree,I.hok,I.bare⟩
theorem Inv.after{Q:VK}{u:Value}(I:Inv X or σ H s)(h:CE X.stack X.prog X.w H s Q u s'):EP X or σ Q u s':=by
 obtain⟨v,H',os,bare,un,hok,r,q⟩:=h;obtain⟨hh,g,d,t,os'⟩:=s';obtain rfl:os'=s.os:=os;exact⟨v,H',I.call (h':=hh) (g':=g) (d':=d) (t':=t) (ch:=[]) un hok bare (fun b z=>absurd z (by simp)),r,q⟩
end
def sx(sp:Sp)(dvs:List V)(E:XK)(t:TA):TE:=fun σ H Q=>t σ H fun vs H1=>sp (vs++dvs) H1 Q E
def Binds(K:W.Frag)(fd:FuncData)(ps:List Str)(ds:List Value):Prop:=
 ∀(s:Shared)(us:List Value),K.In s.heap→(us++ds).length=ps.length→BindsTo s fd ⟨us,[]⟩ (ps.zip (us++ds))
theorem Binds.all{K:W.Frag}{fd:FuncData}{ps:List Str}(h:∀us:List Value,us.length=ps.length→bindArgs fd ⟨us,[]⟩=pure (ps.zip us)):Binds K fd ps []:=fun s us _ hl=>by
 rw[xF]at hl⊢;exact .of_eq (h us hl)
def iF(CX:CXT)(X:Cx)(E:XK):Prop:=∀(or:List (Addr×Obj))(σ:St)(H:Hp)(s:Shared)(e:Value)(s':Shared),Inv X or σ H s→CX X.stack H s E e s'→X.xe e s'
section
variable{X:Cx}{CX:CXT}{k:Nat}{f C:Addr}{fd:FuncData}{ps:List Str}{sp:Sp}{dvs:List V}{ds:List Value}{E:XK}{x m:Str}{p pos apos:Pos}{e o:Expr}{es:List Expr}{ta:TE}{t:TA}
theorem pF{or:List (Addr×Obj)}{σ:St}{H:Hp}{s:Shared}{Q:VK}{us:List Value}{vs:List V}(F:FnOk X.prog X.w X.K X.mg X.base CX k f fd ps sp)(hr:Room k X.A)(hb:Binds X.K fd ps ds)(hd:Vals dvs ds)(hx:iF CX X E)(I:Inv X or σ H s)(r:Vals vs us)(h:sp (vs++dvs) H Q E):wpAny (model X.prog X.w) X.A (call (.ref f) us) (EP X or σ Q) X.xe s:=by
 have r2:Vals (vs++dvs) (us++ds):=r.append hd;have hl:(us++ds).length=ps.length:=by rw[←r2.length];exact F.len _ _ _ _ h
 refine wpAny_call (zo (F.run X.A X.stack s H ⟨us,[]⟩ (us++ds) (vs++dvs) Q E hr I.env0 (hb s us I.kIn hl) r2 h) fun r s' hq=>?_);cases r with
 |error e=>exact hx or σ H s e s' I hq
 |ok fl=>
  cases fl with
  |ret u=>exact I.after hq
  |next=>exact False.elim hq
  |brk=>exact False.elim hq
  |cont=>exact False.elim hq
theorem rR(F:FnOk X.prog X.w X.K X.mg X.base CX k f fd ps sp)(hr:Room k X.A)(hg:Gl X x)(hm:X.mg x=some (.ref f))(hk:W.keepIn X.K (.ref f)=true)(hb:Binds X.K fd ps ds)(hd:Vals dvs ds)(hx:iF CX X E)(ha:PA X (e::es) t)(hdb:(x==("__debug__":Str))=false:=by decide)(he:starEach (e::es) X.env=(false,eval e X.env)::starEach es X.env:=by rfl)(hpl:(backTo pos (starEach es X.env)).any (·.1)=false:=by rfl):
  PE X (.Call (.Name x p) (e::es) [] pos) (sx sp dvs E t):=by
 intro or s σ H Q I h;refine yT (On I hg hm ?_ hdb);refine W.callWith_K (h₀:=X.base) I.ok.mod.kin hk (thn (ha pos or s σ H _ I h) fun us s1 ⟨vs,H1,I1,r,q⟩=>⟨I1.kIn,?_⟩) he hpl;exact pF F hr hb hd hx I1 r q
end
def PK(X:Cx)(kws:List Keyword)(t:TA):Prop:=
 ∀(pos:Pos)(or:List (Addr×Obj))(s:Shared)(σ:St)(H:Hp)(Q:List V→Hp→Prop),Inv X or σ H s→t σ H Q→wpAny (model X.prog X.w) X.A (evalAll ((backToKw pos (keywordEach kws X.env)).map (·.2))) (AP X or σ Q) X.xe s
section
variable{X:Cx}{CX:CXT}{k:Nat}{f C:Addr}{fd:FuncData}{ps ks:List Str}{sp:Sp}{E:XK}{x m:Str}{p pos apos kpos:Pos}{e o:Expr}{es:List Expr}{kws:List Keyword}{te ta:TE}{t tk:TA}{nm:Option Str}
theorem uu:PK X [] wm:=fun _ _ _ _ H Q I h=>wpAny_evalAll_nil ⟨[],H,I,.nil,h⟩
theorem sj(ha:PE X e te)(hr:PK X kws t):PK X (⟨nm,e,kpos⟩::kws) (sn te t):=by
 intro pos or s σ H Q I h;show wpAny _ _ (evalAll ((do let v ←eval e X.env;standAt pos;pure v)::(backToKw pos (keywordEach kws X.env)).map (·.2))) _ _ s;refine wpAny_evalAll_cons (ae (thn (ha or s σ H _ I h) fun u s1 ⟨x,H1,I1,r1,q1⟩=>ae (wpAny_standAt (io ?_))));exact thn (hr pos or s1 σ H1 _ I1 q1) fun us s2 ⟨xs,H2,I2,r2,q2⟩=>⟨x::xs,H2,I2,.cons r1 r2,q2⟩
variable{g:List Value→List Value→List Value}{gV:List V→List V→List V}
end
structure FnScope(N P:List Str)(sc:Scope):Prop where
 kind:sc.kind=.function
 co:sc.isCoroutine=false
 gen:sc.isGenerator=false
 nd:N.Nodup
 pre:N.take P.length=P
 par:∀x∈P,sc.names.lookup x=some .local∨sc.names.lookup x=some .cell
 nofree:∀y∈sc.names,y.2≠.free
theorem Pr{kindOf:Str→Option NameKind}{x:Str}:∀{binds:List (Str×Value)}{m:Str→Option Value},(∀v,(x,v)∉binds)→bindL kindOf binds m x=m x
 | [],_,_=>rfl
 | (n,v)::r,m,h=>by
  unfold bindL;rw[Pr fun w hw=>h w (xr _ hw)]
  split
  ·have:x≠n:=by rintro rfl;exact h v xf
   simp[this]
  ·rfl
theorem Pu{kindOf:Str→Option NameKind}{x:Str}:∀{binds:List (Str×Value)}{m:Str→Option Value},(∀v,(x,v)∉binds)→bindC kindOf binds m x=m x
 | [],_,_=>rfl
 | (n,v)::r,m,h=>by
  unfold bindC;rw[Pu fun w hw=>h w (xr _ hw)]
  split
  ·rfl
  ·have:x≠n:=by rintro rfl;exact h v xf
   simp[this]
theorem Pt{kindOf:Str→Option NameKind}{x:Str}{v:Value}:∀{P:List Str}{vs:List Value}{i:Nat}{m:Str→Option Value},P.Nodup→P[i]?=some x→vs[i]?=some v→kindOf x=some .local→
  bindL kindOf (P.zip vs) m x=some v
 | [],_,_,_,_,h,_,_=>by simp at h
 |_::_,[],_,_,_,_,h,_=>by simp at h
 |p::P,w::vs,0,m,nd,h1,h2,hk=>by
  simp at h1 h2;subst h1;subst h2;show bindL kindOf ((p,w)::P.zip vs) m p=_;unfold bindL;rw[Pr fun v hv=>(xG.mp nd).1 (List.of_mem_zip hv).1,wM hk];simp
 |p::P,w::vs,i+1,m,nd,h1,h2,hk=>by
  show bindL kindOf ((p,w)::P.zip vs) m x=_;unfold bindL;exact Pt (i:=i) (List.nodup_cons.mp nd).2 (by simpa using h1) (by simpa using h2) hk
theorem Pw{kindOf:Str→Option NameKind}{x:Str}{v:Value}:∀{P:List Str}{vs:List Value}{i:Nat}{m:Str→Option Value},P.Nodup→P[i]?=some x→vs[i]?=some v→kindOf x≠some .local→
  bindC kindOf (P.zip vs) m x=some v
 | [],_,_,_,_,h,_,_=>by simp at h
 |_::_,[],_,_,_,_,h,_=>by simp at h
 |p::P,w::vs,0,m,nd,h1,h2,hk=>by
  simp at h1 h2;subst h1;subst h2;show bindC kindOf ((p,w)::P.zip vs) m p=_;unfold bindC;rw[Pu fun v hv=>(xG.mp nd).1 (List.of_mem_zip hv).1,wK hk];simp
 |p::P,w::vs,i+1,m,nd,h1,h2,hk=>by
  show bindC kindOf ((p,w)::P.zip vs) m x=_;unfold bindC;exact Pw (i:=i) (List.nodup_cons.mp nd).2 (by simpa using h1) (by simpa using h2) hk
def cx(N:List Str)(vs:List V):St:=vs.map some++List.replicate (N.length-vs.length) none
def kB(CX:CXT)(P:Program)(w:World)(K:W.Frag)(mg:Str→Option Value)(base:Heap)(N:List Str)(qual:Str)(scope:Scope)(f:Addr)(cd:Value)(A:Around)(outer:List Env)(s:Shared)(H:Hp)(E:XK):Cx where
 prog:=P
 w:=w
 K:=K
 mg:=mg
 base:=base
 A:=A.deeper (envOfC qual scope s.heap.objs.size f cd)
 N:=N
 s₀:=s
 H₀:=H
 env:=envOfC qual scope s.heap.objs.size f cd
 outer:=outer
 stack:=envOfC qual scope s.heap.objs.size f cd::outer
 ex:=[]
 calm:=true
 fn:=fun _=>true
 pn:=[]
 xe:=fun e s'=>wpAny (model P w) (A.deeper (envOfC qual scope s.heap.objs.size f cd)) (leaving (envOfC qual scope s.heap.objs.size f cd) e) (fun _ s''=>CX outer H s E e s'') (fun e' s''=>CX outer H s E e' s'') s'
theorem Tf{sc:Scope}{n:Nat}{x:Str}(h:sc.names.lookup x=some .cell):∃c,(cellsFrom n sc.names []).lookup x=some c:=by
 have q:=W.cellsFrom_some sc.names n [] (.inl h);exact Option.isSome_iff_exists.mp q
theorem mC{CX:CXT}{P:Program}{w:World}{K:W.Frag}{mg:Str→Option Value}{base:Heap}{N ps:List Str}{qual:Str}{scope:Scope}{f:Addr}{cd:Value}{A:Around}{outer:List Env}{s s1:Shared}{H:Hp}{E:XK}{us:List Value}{vs:List V}(S:FnScope N ps scope)(hd:A.handled=none)(e0:Env0 P w K mg base A outer s H)(hl:vs.length=ps.length)(r:Vals vs us)(x:InCallC s s.heap.objs.size (bindL (envOfC qual scope s.heap.objs.size f cd).kindOf (ps.zip us) fun _=>none) (cellsFrom (s.heap.objs.size+1) scope.names []) (bindC (envOfC qual scope s.heap.objs.size f cd).kindOf (ps.zip us) fun _=>none) s1):
  Inv (kB CX P w K mg base N qual scope f cd A outer s H E) [] (cx N vs) H s1:=by
 have hpl:ps.length≤N.length:=by have:=yy List.length S.pre;rw[wT]at this;omega
 obtain⟨h1,tk,rfl,hk⟩:=x.done;have noA:∀b:Addr,b∉(kB CX P w K mg base N qual scope f cd A outer s H E).ex:=fun b z=>absurd (show b∈([]:List Addr)from z) (by simp);refine⟨⟨e0.mod,S.kind,rfl,rfl,pi _,fun y z c h1 h2=>?_,fun y hy=>?_,fun y c _ h=>?_,fun _=>hd,Around.frames_deeper e0.frames,.inr ⟨rfl,rfl⟩,fun b z=>absurd z (noA b),e0.bs,e0.bsz,fun b _ _=>noA b,fun b z=>absurd z (noA b),e0.funs,e0.frf⟩,
  rfl,e0.bare,Un.kept hk,⟨_,x.toInCall.ns,fun i y v h1 h2 h3=>?_⟩,fun y c h=>⟨_,x.cell y c h⟩,e0.hok.fresh (Nat.le_refl _),fun y c h=>?_,fun p hp=>absurd (show p∈([]:List (Addr×Obj))from hp) (by simp),e0.hok.kept hk,?_⟩
 ·exact name_of_addr x.apart (xu h1) (xu h2)
 ·have hy:scope.names.lookup y=some .cell∨scope.names.lookup y=some .free:=hy
  rcases hy with hy | hy
  ·exact Tf hy
  ·exact absurd rfl (S.nofree _ (xu hy))
 ·exact ye (x.above y c (xu h))
 ·have hi:i<vs.length:=by
   unfold cx at h2;by_cases hi:i<vs.length
   ·exact hi
   ·rw[List.getElem?_append_right (by simpa using hi)]at h2;rw[List.getElem?_replicate]at h2
    split at h2 <;> cases h2
  have ha:vs[i]?=some v:=by
   unfold cx at h2;rw[List.getElem?_append_left (by simpa using hi),List.getElem?_map]at h2;cases e:vs[i]? with
   |none=>rw[e]at h2;cases h2
   |some a=>rw[e]at h2;cases h2;rfl
  obtain⟨u,hu,rv⟩:=r.get ha;have hp:ps[i]?=some y:=by
   rw[←S.pre,List.getElem?_take_of_lt (by omega)];exact h1
  have ndP:ps.Nodup:=by rw[←S.pre];exact S.nd.sublist (yM _ _)
  refine⟨u,rv,?_⟩
  rcases S.par y (wZ hp)with k | k
  ·exact .inl ⟨k,Pt ndP hp hu k⟩
  ·obtain⟨c,e⟩:=Tf (n:=s.heap.objs.size+1) k;refine .inr ⟨.inl k,c,e,?_⟩;have q:=x.cell y c e;rw[Pw ndP hp hu (by show scope.names.lookup y≠_;rw[k];decide)]at q;exact q
 ·exact e0.hok.fresh (ye (x.above y c (xu h)))
 ·unfold cx;show _=N.length;rw[wH,aq,xU];omega
theorem nX{CX:CXT}{P:Program}{w:World}{K:W.Frag}{mg:Str→Option Value}{base:Heap}{k:Nat}{f:Addr}{name qual:Str}{params:Arguments}{body:List Stmt}{scope:Scope}{dV kV doc pm cdv ct oc:Value}{an od:Option Addr}{osl:Array (Option Value)}{N ps:List Str}{sp:Sp}(lk:K.lookup f=some ⟨oc,od,.func (W.fnOf name qual params body scope dV kV doc pm an cdv ct),osl⟩)(hcd:W.codeIn K cdv qual=true)(S:FnScope N ps scope)(len:∀vs H Q E,sp vs H Q E→vs.length=ps.length)(hbody:∀(A:Around) (outer:List Env) (s:Shared) (H:Hp) (vs:List V) (Q:VK) (E:XK),Room k (A.deeper (envOfC qual scope s.heap.objs.size f cdv))→sp vs H Q E→
   ∃t,PSs (kB CX P w K mg base N qual scope f cdv A outer s H E) body t∧t {nx:=fun _ H'=>Q .non H',rt:=Q} (cx N vs) H):
  FnOk P w K mg base CX (k+1) f (W.fnOf name qual params body scope dV kV doc pm an cdv ct) ps sp:=by
 refine⟨len,fun A outer s H args us vs Q E hr e0 hb r hsp=>?_⟩;have hl:=len _ _ _ _ hsp;have KX:K.In s.heap:=e0.mod.kin.keeps fun b o e=>(e0.bs b o e).1;have lim:s.heap.NoLimit:=e0.mod.nolimit.keeps fun b o e=>(e0.bs b o e).1;have hkind:∀y∈ps.zip us,scope.names.lookup y.1=some .local∨(scope.names.lookup y.1=some .cell∧((cellsFrom (s.heap.objs.size+1) scope.names []).lookup y.1).isSome=true):=fun⟨n,v⟩ hy=>by
  rcases S.par n (List.of_mem_zip hy).1 with q | q
  ·exact .inl q
  ·exact .inr ⟨q,W.cellsFrom_some _ _ _ (.inl q)⟩
 refine codeAny_call_function hr.depth (KX _ _ lk) rfl S.co S.gen rfl (W.codeRec_of KX hcd) (hb _ _ _ _ ?_);refine wpAny_newFunctionEnv_cells S.kind hkind fun env he s1 x=>?_;subst he;refine⟨lim.keeps x.toInCall.keep,codeAny_func ?_⟩;obtain⟨t,ht,hq⟩:=hbody A outer s H vs Q E (hr.deeper _) hsp;have I:Inv (kB CX P w K mg base N qual scope f cdv A outer s H E) [] (cx N vs) H s1:=mC S hr.hd e0 hl r x;refine xX (ht [] s1 (cx N vs) H _ I hq) (fun fl s' hs=>?_) fun e s' hs=>hs;have fin:∀{σ':St}{H':Hp}{v:V}{u:Value},Inv (kB CX P w K mg base N qual scope f cdv A outer s H E) [] σ' H' s'→RelV v u→Q v H'→CE outer P w H s Q u s':=
  fun{σ' H' v u} J rv q=>⟨v,H',J.os,J.bare,J.base,J.hok,rv,q⟩
 cases fl with
 |ret u=>
  obtain⟨v,σ',H',J,rv,q⟩:=hs;exact fin J rv q
 |next=>
  obtain⟨σ',H',J,q⟩:=hs;exact fin (v:=V.non) (u:=Value.none) J rfl q
 |brk=>
  obtain⟨_,_,_,q⟩:=hs;exact False.elim q
 |cont=>
  obtain⟨_,_,_,q⟩:=hs;exact False.elim q
section
variable{X:Cx}{x:Str}{p pos:Pos}{e:Expr}{es:List Expr}{t:TA}{id T:String}{r:List V→Hp→VK→Prop}
def tCB(r:List V→Hp→VK→Prop)(t:TA):TE:=fun σ H Q=>t σ H fun vs H1=>r vs H1 Q
theorem Zg(hc:aV X (.builtin id) r)(hg:Gl X x)(hm:X.mg x=none)(hv:bootBuiltins x=some (.builtin id))(ha:PA X (e::es) t)(hn:x≠"__name__":=by decide)(hdb:(x==("__debug__":Str))=false:=by decide)(he:starEach (e::es) X.env=(false,eval e X.env)::starEach es X.env:=by rfl)(hpl:(backTo pos (starEach es X.env)).any (·.1)=false:=by rfl):PE X (.Call (.Name x p) (e::es) [] pos) (tCB r t):=by
 intro or s σ H Q I h;refine yT (Um I hg hm hv ?_ hn hdb);exact PyProof.Rows.callWith_builtin1 (thn (ha pos or s σ H _ I h) fun us s1 ⟨vs,H1,I1,r1,q1⟩=>hc or s1 σ H1 vs us Q I1 r1 q1) he hpl
theorem Xv(hc:aV X (.type T) r)(hg:Gl X x)(hm:X.mg x=none)(hv:bootBuiltins x=some (.type T))(ha:PA X (e::es) t)(hn:x≠"__name__":=by decide)(hdb:(x==("__debug__":Str))=false:=by decide)(he:starEach (e::es) X.env=(false,eval e X.env)::starEach es X.env:=by rfl)(hpl:(backTo pos (starEach es X.env)).any (·.1)=false:=by rfl):PE X (.Call (.Name x p) (e::es) [] pos) (tCB r t):=by
 intro or s σ H Q I h;refine yT (Um I hg hm hv ?_ hn hdb);exact yR (thn (ha pos or s σ H _ I h) fun us s1 ⟨vs,H1,I1,r1,q1⟩=>hc or s1 σ H1 vs us Q I1 r1 q1) he hpl
end
end L2
namespace HT
open PySem PyProof.Rows
section
open PySem.SeqAt
open PySem.AutoSeq1 (wpAny_loadPart')
open PySem.MeetsSeq PySem.MeetsSeq2 PySem.MeetsSeq3
end
section
variable{prog:Program}{w:World}{A:Around}{E:Value→Shared→Prop}{s:Shared}
def sIx(n d:Nat):Option Int→Nat
 |none=>d
 |some v=>if v<0 then(v+(n:Int)).toNat else min v.toNat n
theorem sIx_none(n d:Nat):sIx n d none=d:=rfl
theorem sIx_nat(n d k:Nat):sIx n d (some (k:Int))=min k n:=by
 show(if (k:Int)<0 then((k:Int)+(n:Int)).toNat else min (k:Int).toNat n)=min k n;rw[wK (by omega),Int.toNat_natCast]
theorem tz(n d:Nat)(hd:d≤n)(o:Option Int):sIx n d o≤n:=by
 cases o with
 |none=>exact hd
 |some v=>
  show(if v<0 then(v+(n:Int)).toNat else min v.toNat n)≤n;by_cases hv:v<0
  ·rw[wM hv];omega
  ·rw[wK hv];exact Nat.min_le_right _ _
theorem jK(v:Int)(n d:Nat):(if v<0 then max (v+(n:Int)) 0 else min v (n:Int))=((sIx n d (some v):Nat):Int):=by
 show(if v<0 then max (v+(n:Int)) 0 else min v (n:Int))=(((if v<0 then(v+(n:Int)).toNat else min v.toNat n):Nat):Int);by_cases hv:v<0
 ·simp only[if_pos hv];omega
 ·simp only[if_neg hv];omega
theorem gW(lo hi:Option Int)(n:Nat):Builtin.Slice.sliceAdjust lo hi 1 (n:Int)=(((sIx n 0 lo:Nat):Int),((sIx n n hi:Nat):Int)):=by
 have h1:¬((1:Int)<0):=by omega
 unfold Builtin.Slice.sliceAdjust;simp only[h1,if_false];refine Prod.ext ?_ ?_
 ·cases lo with
  |none=>rfl
  |some v=>exact jK v n 0
 ·cases hi with
  |none=>rfl
  |some v=>exact jK v n n
theorem i9(i j:Nat):Builtin.Slice.slicePlaces (i:Int) (j:Int) 1=j-i:=by
 unfold Builtin.Slice.slicePlaces;have h1:(1:Int) > 0:=by omega
 simp only[h1,if_true,Int.ediv_one]
 split <;> omega
theorem R0{v:Value}{o:Option Int}{Q:Option Int→Shared→Prop}(p:IsPart v o)(h:Q o s):wpAny (model prog w) A (Builtin.Slice.slicePartIndex v) Q E s:=by
 cases p with
 |none=>exact slicePart_none h
 |int i t=>exact slicePart_int h
theorem To{sl:Addr}{vl vu:Value}{lo hi:Option Int}{n:Nat}{Q:Int×Int×Nat→Shared→Prop}(hs:s.heap.IsSliceOf sl vl vu .none)(pl:IsPart vl lo)(pu:IsPart vu hi)(h:Q (((sIx n 0 lo:Nat):Int),1,sIx n n hi-sIx n 0 lo) s):wpAny (model prog w) A (Builtin.Slice.sliceApplied (.ref sl) (pure (n:Int))) Q E s:=by
 obtain⟨os,hos,hcs,hds⟩:=id hs;unfold Builtin.Slice.sliceApplied Builtin.Slice.sliceFields;refine ae (ae (yS hos hds (x:=vl) rfl (ae (yS hos hds (x:=vu) rfl (ae (yS hos hds (x:=.none) rfl (io ?_)))))));refine ae (slicePart_none ?_);show wpAny _ _ (if ((1:Int)==0)=true then _ else _) _ _ s;rw[wK (by decide)];refine ae (R0 pl (ae (R0 pu (ae (io ?_)))));show wpAny _ _ (match Builtin.Slice.sliceAdjust lo hi 1 (n:Int)with | (lo,hi)=>pure (lo,(1:Int),Builtin.Slice.slicePlaces lo hi 1)) _ _ s;rw[gW lo hi n];show wpAny _ _ (pure (((sIx n 0 lo:Nat):Int),(1:Int),Builtin.Slice.slicePlaces ((sIx n 0 lo:Nat):Int) ((sIx n n hi:Nat):Int) 1)) _ _ s;rw[i9];exact io h
theorem oZ(xs:Array Value)(i k:Nat):((List.range k).filterMap fun(m:Nat)=>xs[((i:Int)+(m:Int)*1).toNat]?).toArray=((xs.toList.drop i).take k).toArray:=by
 have e:(fun(m:Nat)=>xs[((i:Int)+(m:Int)*1).toNat]?)=fun m=>xs[i+m]?:=by
  funext m
  have:((i:Int)+(m:Int)*1).toNat=i+m:=by omega
  rw[this]
 rw[e];have:=pick_run xs i k;rw[List.filterMap_map]at this;have e2:((fun x=>xs[x]?)∘fun x=>i+x)=fun m=>xs[i+m]?:=rfl;rw[e2]at this;rw[this]
theorem getItem_tuple_cut{t sl:Addr}{items:Array Value}{vl vu:Value}{lo hi:Option Int}{Q:Value→Shared→Prop}(ht:IsTup s.heap t items)(hs:s.heap.IsSliceOf sl vl vu .none)(pl:IsPart vl lo)(pu:IsPart vu hi)(hw:¬(sIx items.size 0 lo=0∧sIx items.size items.size hi=items.size))(h:Q (.ref s.heap.objs.size) {s with heap:=s.heap.push {cls:=.type "tuple",data:=.seq ((items.toList.drop (sIx items.size 0 lo)).take (sIx items.size items.size hi-sIx items.size 0 lo)).toArray}})(hsz:items.size≤sizeLine):wpAny (model prog w) A (getItem (.ref t) (.ref sl)) Q E s:=by
 have htake:sizeOk (.seq ((items.toList.drop (sIx items.size 0 lo)).take (sIx items.size items.size hi-sIx items.size 0 lo)).toArray):=by
  show((items.toList.drop (sIx items.size 0 lo)).take (sIx items.size items.size hi-sIx items.size 0 lo)).toArray.size≤sizeLine;rw[xh,wT,xI,wG];omega
 have hj:sIx items.size items.size hi≤items.size:=tz _ _ (pi _) hi;obtain⟨os,hos,hcs,hds⟩:=id hs;have hTs:s.TypeIs (.ref sl) "slice":=⟨os,hos,hcs⟩;unfold getItem
 try with_reducible refine xQ ?_
 first | refine ae (io ?_) | skip
 refine ae (wpAny_sequenceKey ht.typeIs (by decide) ?_);refine ae (yN (name:=Str.ofString "__getitem__") ht.typeIs PyProof.Rows.slot_tuple_getitem
  (x9 PyProof.Rows.slot_tuple_getitem ht.typeIs entry_tuple_getitem ?_ (args_tuple_getitem _ _)))
 show wpAny _ _ (Builtin.Tuple.tupleItemsOf (.ref t) >>= _) _ _ s;refine ae (tupleItemsOf_ ht ?_);refine ae (zR hTs ?_);rw[wM (by decide)];refine ae (To hs pl pu ?_);have hno:¬((((sIx items.size 0 lo:Nat):Int)==0 && (1:Int)==1 && (sIx items.size items.size hi-sIx items.size 0 lo)==items.size)=true):=by
  intro q;rw[xJ,xJ]at q;have q1:((sIx items.size 0 lo:Nat):Int)=0:=eq_of_beq q.1.1;have q2:sIx items.size items.size hi-sIx items.size 0 lo=items.size:=eq_of_beq q.2;exact hw ⟨by omega,by omega⟩
 show wpAny _ _ (if (((sIx items.size 0 lo:Nat):Int)==0 && (1:Int)==1 && (sIx items.size items.size hi-sIx items.size 0 lo)==items.size)=true then _ else _) _ _ s;rw[wK hno,oZ]
 first
  |exact ae (m:=Builtin.Tuple.tupleExact _) (yp (io ⟨_,rfl,io h⟩) htake)
  |exact ae (m:=Builtin.Tuple.tupleExact _) (yp (ae (io (io ⟨_,rfl,io h⟩))) htake)
  |exact ae (ae (m:=Builtin.Tuple.tupleExact _) (yp (io (io ⟨_,rfl,io h⟩)) htake))
  |exact ae (ae (m:=Builtin.Tuple.tupleExact _) (yp (io ⟨_,rfl,io h⟩) htake))
end
end HT
namespace L2
open PySem PySem.Spec PyProof.Rows
abbrev TO:=St→Hp→(Option Int→Hp→Prop)→Prop
def PO(X:Cx)(e:Option Expr)(t:TO):Prop:=
 ∀(or:List (Addr×Obj))(s:Shared)(σ:St)(H:Hp)(Q:Option Int→Hp→Prop),Inv X or σ H s→t σ H Q→
  wpAny (model X.prog X.w) X.A (evalPart e X.env) (fun u s'=>∃o H',Inv X or σ H' s'∧IsPart u o∧Q o H') X.xe s
def rV:TO:=fun _ H Q=>Q none H
def vR(t:TE):TO:=fun σ H Q=>t σ H fun x H1=>∃i,x=.int i∧Q (some i) H1
theorem Ru{ns:List Int}:∀{us:List Value},Vals (ns.map V.int) us→IntsAre us ns:=by
 induction ns with
 |nil=>intro us r;rw[List.map_nil]at r;cases r;exact .nil
 |cons n ns ih=>
  intro us r;rw[xt]at r;cases r with
  |cons r1 r2=>
   obtain⟨t,e⟩:=r1;subst e;exact .cons n t (ih r2)
section
variable{X:Cx}{e:Expr}{te:TE}{lo hi:Option Expr}{tl th:TO}{pos p2:Pos}
theorem Vu:PO X none rV:=by
 intro or s σ H Q I h;rw[evalPart_none];exact io ⟨none,H,I,.none,h⟩
theorem Vt(h:PE X e te):PO X (some e) (vR te):=by
 intro or s σ H Q I hw;rw[evalPart_some];refine thn (h or s σ H _ I hw) fun u s1 z8=>?_;obtain⟨x,H1,I1,r1,q1⟩:=z8;obtain⟨i,rfl,q⟩:=q1;obtain⟨t,rfl⟩:=r1;exact⟨some i,H1,I1,.int i t,q⟩
def SlR(X:Cx)(r:V→Option Int→Option Int→Hp→VK→Prop):Prop:=
 ∀(or:List (Addr×Obj))(s:Shared)(σ:St)(H:Hp)(x:V)(v vl vu:Value)(lo hi:Option Int)(sl:Addr)(Q:VK),Inv X or σ H s→RelV x v→s.heap.IsSliceOf sl vl vu .none→IsPart vl lo→IsPart vu hi→r x lo hi H Q→
  ∃T id,typeLookup (.type T) "__getitem__"=pure (some (.builtin id))∧s.TypeIs v T∧wpAny (model X.prog X.w) X.A (getItem v (.ref sl)) (EP X or σ Q) X.xe s
def tSl(r:V→Option Int→Option Int→Hp→VK→Prop)(te:TE)(tl th:TO):TE:=fun σ H Q=>te σ H fun x H1=>tl σ H1 fun l H2=>th σ H2 fun u H3=>r x l u H3 Q
theorem Wo{r:V→Option Int→Option Int→Hp→VK→Prop}(hr:SlR X r)(he:PE X e te)(hl:PO X lo tl)(hu:PO X hi th):PE X (.Subscript e (.Slice lo hi none p2) pos) (tSl r te tl th):=by
 intro or s σ H Q I h;refine Subscript_ (thn (he or s σ H _ I h) fun v s1 z8=>?_);obtain⟨x,H1,I1,r1,q1⟩:=z8;refine wpAny_Slice (thn (hl or s1 σ H1 _ I1 q1) fun vl s2 ⟨l,H2,I2,pl,q2⟩=>thn (hu or s2 σ H2 _ I2 q2) fun vu s3 z8=>?_);obtain⟨u,H3,I3,pu,q3⟩:=z8;rw[evalPart_none];refine io ?_;have I4:Inv X or σ H3 {s3 with heap:=s3.heap.push {cls:=.type "slice",data:=.fields #[vl,vu,.none]}}:=I3.kept (t':=s3.toks) fun b ob q=>az _ q;obtain⟨T,id,hT,ht,hg⟩:=hr or {s3 with heap:=s3.heap.push {cls:=.type "slice",data:=.fields #[vl,vu,.none]}} σ H3 x v vl vu l u s3.heap.objs.size Q I4 r1 (Heap.IsSliceOf.new ..) pl pu q3;show wpAny (model X.prog X.w) X.A (subscriptTail e (.Slice lo hi none p2) v (.ref s3.heap.objs.size)) (EP X or σ Q) X.xe {s3 with heap:=s3.heap.push {cls:=.type "slice",data:=.fields #[vl,vu,.none]}};exact tail_any (ops:=[.ref s3.heap.objs.size,v]) ht hT hg (by with_unfolding_all rfl)
def cr(xs:List V)(lo hi:Option Int):List V:=(xs.drop (HT.sIx xs.length 0 lo)).take (HT.sIx xs.length xs.length hi-HT.sIx xs.length 0 lo)
theorem Sd(xs:List V)(lo hi:Option Int):(cr xs lo hi).length≤xs.length:=by
 unfold cr;rw[wT,xI];omega
def rSlT(K:W.Frag):V→Option Int→Option Int→Hp→VK→Prop:=fun x lo hi H Q=>∃a xs,x=.ref a∧SqT K H a xs∧
 ¬(HT.sIx xs.length 0 lo=0∧HT.sIx xs.length xs.length hi=xs.length)∧∀p,H p=none→Q (.ref p) (upd H p (.tup (cr xs lo hi)))
theorem uN:SlR X (rSlT X.K):=by
 intro or s σ H x v vl vu lo hi sl Q I rx hs pl pu h;obtain⟨a,xs,rfl,hx,hw,q⟩:=h;cases rx;obtain⟨its,r,ht,hz⟩:=I.tuple hx;have Al:its.toArray.size=xs.length:=by rw[xh];exact r.length.symm
 refine⟨"tuple",_,PyProof.Rows.slot_tuple_getitem.lookup,ht.typeIs,?_⟩;refine HT.getItem_tuple_cut ht hs pl pu (by rw[Al];exact hw) ?_ (by rw[Al];exact hz);rw[Al];refine⟨.ref s.heap.objs.size,_,I.laid (t':=s.toks) (o:=.tup (cr xs lo hi)) (fun b ob q=>az _ q) (pi _) ?_,rfl,q _ (I.hok.fresh (pi _))⟩;exact⟨x3 (Sd xs lo hi) hz,_,(r.drop (HT.sIx xs.length 0 lo)).take (HT.sIx xs.length xs.length hi-HT.sIx xs.length 0 lo),TupN.new _ _⟩
end
def ixN(n:Nat)(i:Int):Option Nat:=if 0≤i then(if i<n then some i.toNat else none)else if -(n:Int)≤i then some (i+n).toNat else none
def atI{α:Type}(xs:List α)(i:Int):Option α:=(ixN xs.length i).bind fun j=>xs[j]?
theorem jH{n:Nat}{i:Int}{j:Nat}(h:ixN n i=some j):seqIndex? i n=some j∧j<n∧-(n:Int)≤i∧i<n:=by
 unfold ixN at h;by_cases h0:0≤i
 ·rw[wM h0]at h;by_cases h1:i<n
  ·rw[wM h1]at h;have e:i.toNat=j:=xA h;exact⟨by rw[seqIndex_of h0 h1,e],by omega,by omega,h1⟩
  ·rw[wK h1]at h;cases h
 ·rw[wK h0]at h;by_cases h1:-(n:Int)≤i
  ·rw[wM h1]at h;have e:(i+n).toNat=j:=xA h;exact⟨by rw[seqIndex_neg (by omega) h1,e],by omega,h1,by omega⟩
  ·rw[wK h1]at h;cases h
theorem j4{α:Type}{xs:List α}{i:Int}{v:α}(h:atI xs i=some v):∃j,seqIndex? i xs.length=some j∧xs[j]?=some v∧j<xs.length∧-(xs.length:Int)≤i∧i<xs.length:=by
 unfold atI at h;cases e:ixN xs.length i with
 |none=>rw[e]at h;cases h
 |some j=>
  rw[e]at h;obtain⟨h1,h2,h3,h4⟩:=jH e;exact⟨j,h1,h,h2,h3,h4⟩
theorem N1{α:Type}{xs:List α}{j:Nat}{v:α}(h:xs[j]?=some v):atI xs (j:Int)=some v:=by
 have hj:j<xs.length:=(wL.mp h).1;have e:ixN xs.length (j:Int)=some j:=by
  unfold ixN;rw[if_pos (by omega),if_pos (by omega)];simp
 unfold atI;rw[e];exact h
def ku(b:Expr):Prop:=∀o i,subscripted b false o i=operate [o,i] (getItem o i)
def IxR(X:Cx)(r:R2):Prop:=
 ∀(value slice:Expr)(or:List (Addr×Obj))(s:Shared)(σ:St)(H:Hp)(x y:V)(v u:Value)(Q:VK),Inv X or σ H s→RelV x v→RelV y u→r x y H Q→
  subscripted slice false v u=operate [v,u] (getItem v u)→wpAny (model X.prog X.w) X.A (subscriptTail value slice v u) (EP X or σ Q) X.xe s
def MtR(X:Cx)(id:String)(r:V→List V→Hp→VK→Prop):Prop:=
 ∀(or:List (Addr×Obj))(s:Shared)(σ:St)(H:Hp)(x:V)(xs:List V)(v:Value)(us:List Value)(Q:VK),Inv X or σ H s→RelV x v→Vals xs us→r x xs H Q→
  wpAny (model X.prog X.w) X.A (call (.builtin id) (v::us)) (EP X or σ Q) X.xe s
section
variable{X:Cx}{a b:Expr}{ta tb:TE}{pos:Pos}
theorem vT{r:R2}(hr:IxR X r)(ha:PE X a ta)(hb:PE X b tb)(hs:ku b):PE X (.Subscript a b pos) (tOp r ta tb):=by
 intro or s σ H Q I h;exact Subscript_ (tm ha hb I h fun v u s2 x y H2 I2 rx ry q=>hr a b or s2 σ H2 x y v u Q I2 rx ry q (hs _ _))
def rIxL(K:W.Frag):R2:=fun x y H Q=>∃p xs i v,x=.ref p∧y=.int i∧SqL K H p xs∧atI xs i=some v∧Q v H
def vz(K:W.Frag):R2:=fun x y H Q=>∃p xs i v,x=.ref p∧y=.int i∧SqT K H p xs∧atI xs i=some v∧Q v H
theorem Tc:IxR X (rIxL X.K):=by
 intro value slice or s σ H x y v u Q I rx ry h hs;obtain⟨p,xs,i,z,rfl,rfl,hq,he,q⟩:=h;cases rx;obtain⟨t,rfl⟩:=ry;obtain⟨its,r,pl,hz⟩:=I.list hq;obtain⟨j,h1,h2,h3,h4,h5⟩:=j4 he;obtain⟨w,ew,rw'⟩:=r.get h2;have hl:=r.length;have hn:=Rq;have fin:EP X or σ Q w s:=⟨z,H,I,rw',q⟩;by_cases h0:0≤i
 ·have hj:i.toNat=j:=by
   rw[seqIndex_of h0 h5]at h1;exact xA h1
  exact item_listR pl.isList h0 (by omega) (by rw[hj];simpa using ew) fin hs
 ·have hj:(i+(its.toArray.size:Int)).toNat=j:=by
   rw[seqIndex_neg (by omega) h4]at h1;rw[xh,←hl];exact xA h1
  exact subscriptTail_builtinR (x:=w) pl.isList.typeIs slot_list_getitem.lookup
   (wpAny_getItem_list_neg (Q:=fun r s'=>r=w∧EP X or σ Q r s') pl.isList (by omega) (by rw[List.size_toArray] <;> omega) (by omega) (by rw[hj];simpa using ew) ⟨rfl,fin⟩) hs
theorem Yv:IxR X (vz X.K):=by
 intro value slice or s σ H x y v u Q I rx ry h hs;obtain⟨p,xs,i,z,rfl,rfl,hq,he,q⟩:=h;cases rx;obtain⟨t,rfl⟩:=ry;obtain⟨its,r,pl,hz⟩:=I.tuple hq;obtain⟨j,h1,h2,h3,h4,h5⟩:=j4 he;obtain⟨w,ew,rw'⟩:=r.get h2;have hl:=r.length;have hn:=Rq;have fin:EP X or σ Q w s:=⟨z,H,I,rw',q⟩;exact subscriptTail_builtinR (x:=w) pl.typeIs slot_tuple_getitem.lookup
  (getItem_tuple (j:=j) (Q:=fun r s'=>r=w∧EP X or σ Q r s') pl (by omega) (by omega) (by rw[List.size_toArray,←hl];exact h1) (by simpa using ew) ⟨rfl,fin⟩) hs
theorem iq(its:List Value)(n j:Nat)(u:Value):Obj.mapSeq (·.setIfInBounds j u) {cls:=.type "list",data:=.seq its.toArray n}={cls:=.type "list",data:=.seq (its.set j u).toArray n}:=by
 simp[Obj.mapSeq]
theorem Inv.lst{or:List (Addr×Obj)}{σ:St}{H:Hp}{s:Shared}{p:Addr}{xs:List V}(I:Inv X or σ H s)(h:H p=some (.lst xs)):
  ∃(its:List Value)(n:Nat),Vals xs its∧s.heap.get? p=some {cls:=.type "list",data:=.seq its.toArray n}∧xs.length≤sizeLine:=by
 obtain⟨z,its,n,r,e⟩:=I.hok p _ h;exact⟨its,n,r,e,z⟩
theorem Inv.lstUpd{or:List (Addr×Obj)}{σ:St}{H:Hp}{s:Shared}{p:Addr}{xs ys:List V}{its its':List Value}{n n':Nat}{f:Obj→Obj}(I:Inv X or σ H s)(h:H p=some (.lst xs))(ho:s.heap.get? p=some {cls:=.type "list",data:=.seq its.toArray n})(hf:f {cls:=.type "list",data:=.seq its.toArray n}={cls:=.type "list",data:=.seq its'.toArray n'})(r:Vals ys its')(hz:ys.length≤sizeLine)(t:Nat):
  Inv X or σ (upd H p (.lst ys)) {s with heap:=s.heap.update p f,toks:=t}:=by
 have e:(s.heap.update p f).get? p=some {cls:=.type "list",data:=.seq its'.toArray n'}:=by
  rw[Heap.get?_update_self f ho (by rw[hf] <;> rfl),hf]
 refine I.write (x:=p) (e:=p) (by rw[h];trivial) (.inl rfl) (fun b u hb q=>(zq _ _ (Ne.symm hb)).trans q) ⟨_,e⟩ ?_;exact⟨hz,its',n',r,e⟩
def vP:V→V→V→Hp→(Hp→Prop)→Prop:=fun o i v H Q=>∃p xs k j,o=.ref p∧i=.int k∧H p=some (.lst xs)∧ixN xs.length k=some j∧Q (upd H p (.lst (xs.set j v)))
theorem Ng:vU X vP:=by
 intro or s σ H o i v ov iv u Q I ro ri rv h;obtain⟨p,xs,k,j,rfl,rfl,hp,hj,q⟩:=h;cases ro;obtain⟨t,rfl⟩:=ri;obtain⟨its,n,r,ho,hz⟩:=I.lst hp;obtain⟨h1,h2,h3,h4⟩:=jH hj;have hl:=r.length;have hn:=Rq;have I':Inv X or σ (upd H p (.lst (xs.set j v))) {s with heap:=s.heap.update p (Obj.mapSeq (·.setIfInBounds j u))}:=
  I.lstUpd hp ho (iq its n j u) (r.set rv j) (by rw[List.length_set];exact hz) s.toks
 by_cases h0:0≤k
 ·have hk:k.toNat=j:=by
   rw[seqIndex_of h0 h4]at h1;exact xA h1
  exact W.ki_setAt ho h0 (by omega) (by rw[xh,←hl];exact h4) (by rw[hk];exact⟨_,I',q⟩)
 ·have hk:(k+(its.toArray.size:Int)).toNat=j:=by
   rw[seqIndex_neg (by omega) h3]at h1;rw[xh,←hl];exact xA h1
  exact W.ki_setBack ho (by omega) (by rw[xh,←hl];exact h3) (by omega) (by rw[hk];exact⟨_,I',q⟩)
theorem O8(lo hi:Option Int)(n:Nat):(sliceBounds lo hi none n).1=((HT.sIx n 0 lo:Nat):Int)∧(sliceBounds lo hi none n).2.1=((HT.sIx n n hi:Nat):Int)∧(sliceBounds lo hi none n).2.2=1:=by
 refine⟨?_,?_,rfl⟩
 ·cases lo with
  |none=>simp[sliceBounds,HT.sIx]
  |some i=>
   simp only[sliceBounds,HT.sIx,Option.getD_none,show(1:Int) > 0 by decide,if_true];by_cases h:i<0
   ·simp only[h,if_true] <;> omega
   ·simp only[h,if_false] <;> omega
 ·cases hi with
  |none=>simp[sliceBounds,HT.sIx]
  |some i=>
   simp only[sliceBounds,HT.sIx,Option.getD_none,show(1:Int) > 0 by decide,if_true];by_cases h:i<0
   ·simp only[h,if_true] <;> omega
   ·simp only[h,if_false] <;> omega
theorem Qj(its:List Value)(lo hi:Option Int):slicePick its.toArray lo hi none=((its.drop (HT.sIx its.length 0 lo)).take (HT.sIx its.length its.length hi-HT.sIx its.length 0 lo)).toArray:=by
 obtain⟨h1,h2,h3⟩:=O8 lo hi its.toArray.size;unfold slicePick;rw[h1,h2,h3];simp only[sliceRange_one,pick_run,List.size_toArray] <;> rfl
def rSlL(K:W.Frag):V→Option Int→Option Int→Hp→VK→Prop:=fun x lo hi H Q=>∃a xs,x=.ref a∧SqL K H a xs∧∀p,H p=none→Q (.ref p) (upd H p (.lst (cr xs lo hi)))
theorem Uw:SlR X (rSlL X.K):=by
 intro or s σ H x v vl vu lo hi sl Q I rx hs pl pu h;obtain⟨a,xs,rfl,hx,q⟩:=h;cases rx;obtain⟨its,r,ht,hz⟩:=I.list hx;have Al:=r.length;refine⟨"list",_,slot_list_getitem.lookup,ht.isList.typeIs,?_⟩;refine wpAny_getItem_list_slice ht.isList hs pl pu .none (by simp) ?_ (by rw[List.size_toArray] <;> omega);rw[Qj,←Al];refine⟨.ref s.heap.objs.size,_,I.laid (t':=s.toks) (o:=.lst (cr xs lo hi)) (fun b ob q=>az _ q) (pi _) ?_,rfl,q _ (I.hok.fresh (pi _))⟩;exact⟨x3 (Sd xs lo hi) hz,_,0,(r.drop (HT.sIx xs.length 0 lo)).take (HT.sIx xs.length xs.length hi-HT.sIx xs.length 0 lo),wD _ rfl⟩
theorem Zt:aV X (.builtin "len") (fun xs H Q=>∃p ys,xs=[.ref p]∧(SqL X.K H p ys∨SqT X.K H p ys)∧Q (.int ys.length) H):=by
 intro or s σ H xs us Q I r h;obtain⟨p,ys,rfl,hq,q⟩:=h;obtain⟨u,rfl,rx⟩:=Xx r;cases rx;have hn:=Rq
 rcases hq with hq | hq
 ·obtain⟨its,r',pl,hz⟩:=I.list hq;have Al:=r'.length;exact Calls.call_len_list pl.isList (by simp only[List.size_toArray] <;> omega) ⟨.int ys.length,H,I.tok _,⟨s.toks+1,by rw[List.size_toArray,Al]⟩,q⟩
 ·obtain⟨its,r',pl,hz⟩:=I.tuple hq;have Al:=r'.length;exact len_tuple pl (by simp only[List.size_toArray] <;> omega) ⟨.int ys.length,H,I.tok _,⟨s.toks+1,by rw[List.size_toArray,Al]⟩,q⟩
theorem Ti:aV X (.builtin "len") (fun xs H Q=>∃z,xs=[.str z]∧z.length≤sizeLine∧Q (.int z.length) H):=by
 intro or s σ H xs us Q I r h;obtain⟨z,rfl,hz,q⟩:=h;obtain⟨u,rfl,t,rfl⟩:=Xx r;have hn:=Rq;exact len_str (by omega) ⟨.int z.length,H,I.tok _,⟨_,rfl⟩,q⟩
theorem Oz:aV X (.type "list") (fun xs H Q=>∃p ys,xs=[.ref p]∧(SqL X.K H p ys∨SqT X.K H p ys)∧∀l,H l=none→Q (.ref l) (upd H l (.lst ys))):=by
 intro or s σ H xs us Q I r h;obtain⟨p,ys,rfl,hq,q⟩:=h;obtain⟨u,rfl,rx⟩:=Xx r;cases rx;have fin:∀(its:List Value),Vals ys its→ys.length≤sizeLine→∀(h':Heap)(c':Nat),(∀b o',s.heap.get? b=some o'→h'.get? b=some o')→
   h'.get? s.heap.objs.size=some {cls:=.type "list",dict:=none,data:=.seq its.toArray c',slots:=#[]}→EP X or σ Q (.ref s.heap.objs.size) {s with heap:=h'}:=fun its r' hz h' c' kp e=>
  ⟨.ref s.heap.objs.size,_,I.laid (t':=s.toks) kp (pi _) (show ObjOk X.prog X.w _ h' _ (.lst ys) from⟨hz,its,c',r',e⟩),rfl,q _ (I.hok.fresh (pi _))⟩
 rcases hq with hq | hq
 ·obtain⟨its,r',pl,hz⟩:=I.list hq;have Al:=r'.length;obtain⟨o,ho,hc,n,hd⟩:=pl.isList;exact call_list_seq p (.inl rfl) ho hc hd (fun h' c' kp e=>fin its r' hz h' c' kp e) (by simp only[List.size_toArray] <;> omega)
 ·obtain⟨its,r',pl,hz⟩:=I.tuple hq;have Al:=r'.length;obtain⟨o,ho,hc,n,hd⟩:=pl;exact call_list_seq p (.inr rfl) ho hc hd (fun h' c' kp e=>fin its r' hz h' c' kp e) (by simp only[List.size_toArray] <;> omega)
theorem Ub:aV X (.type "tuple") (fun xs H Q=>∃p ys,xs=[.ref p]∧((SqL X.K H p ys∧∀l,H l=none→Q (.ref l) (upd H l (.tup ys)))∨(SqT X.K H p ys∧Q (.ref p) H))):=by
 intro or s σ H xs us Q I r h;obtain⟨p,ys,rfl,h⟩:=h;obtain⟨u,rfl,rx⟩:=Xx r;cases rx
 rcases h with⟨hq,q⟩|⟨hq,q⟩
 ·obtain⟨its,r',pl,hz⟩:=I.list hq;have Al:=r'.length;refine call_tuple_list pl.isList (fun h' kp=>?_) (by simp only[List.size_toArray] <;> omega);have I1:Inv X or σ H {s with heap:=h'}:=I.kept (t':=s.toks) kp;have I2:Inv X or σ (upd H h'.objs.size (.tup ys)) {s with heap:=h'.push {cls:=.type "tuple",data:=.seq its.toArray}}:=
   I1.laid (t':=s.toks) (fun b o e=>az _ e) (pi _) (show ObjOk X.prog X.w _ _ _ (.tup ys) from⟨hz,its,r',TupN.new _ _⟩)
  exact⟨.ref h'.objs.size,_,I2,rfl,q _ (I1.hok.fresh (pi _))⟩
 ·obtain⟨its,r',pl,hz⟩:=I.tuple hq;exact call_tuple_same pl ⟨.ref p,H,I,rfl,q⟩
def tyV(K:W.Frag)(T:String)(x:V)(H:Hp):Prop:=match x with
 |.str _=>T="str"
 |.int _=>T="int"
 |.ref p=>(T="list"∧∃xs,SqL K H p xs)∨(T="tuple"∧∃o,K.lookup p=some o∧o.cls=.type "tuple"∧o.dict=none)∨
   (T="dict"∧((∃kvs,H p=some (.dK kvs))∨∃kvs,H p=some (.dT kvs)))∨(T="set"∧∃S n,H p=some (.set S n))
 |_=>False
theorem p8{or:List (Addr×Obj)}{σ:St}{H:Hp}{s:Shared}{T:String}{x:V}{v:Value}(I:Inv X or σ H s)(r:RelV x v)(ty:tyV X.K T x H):
  s.TypeIs v T∧∀a,v=.ref a→∃ob,s.heap.get? a=some ob∧ob.dict=none:=by
 cases x with
 |str z=>
  obtain⟨t,rfl⟩:=r;cases (show T="str" from ty);exact⟨typeIs_str s z t,fun _ e=>nomatch e⟩
 |int i=>
  obtain⟨t,rfl⟩:=r;cases (show T="int" from ty);exact⟨typeIs_int s i t,fun _ e=>nomatch e⟩
 |ref p=>
  cases r
  rcases ty with⟨rfl,xs,hq⟩|⟨rfl,o,hk,hc,hd⟩|⟨rfl,hk⟩|⟨rfl,S,n,hk⟩
  ·obtain⟨its,_,pl,_⟩:=I.list hq;refine⟨pl.isList.typeIs,fun a e=>?_⟩;cases e;obtain⟨o,n,e,c,hd,_⟩:=pl;exact⟨o,e,hd⟩
  ·refine⟨⟨o,I.kIn p o hk,hc⟩,fun a e=>?_⟩;cases e;exact⟨o,I.kIn _ o hk,hd⟩
  ·have z:∃o,s.heap.get? p=some o∧o.ExactDict:=by
    rcases hk with⟨kvs,hk⟩|⟨kvs,hk⟩
    ·obtain⟨_,_,_,_,o,_,_,e,ex,_⟩:=I.hok p _ hk;exact⟨o,e,ex⟩
    ·obtain⟨_,_,_,_,o,_,_,e,ex,_⟩:=I.hok p _ hk;exact⟨o,e,ex⟩
   obtain⟨o,e,ex⟩:=z;refine⟨⟨o,e,ex.1⟩,fun a e2=>?_⟩;cases e2;exact⟨o,e,ex.2.1⟩
  ·obtain⟨o,_,_,_,e,ex,_⟩:=I.hok p _ hk;refine⟨⟨o,e,ex.1⟩,fun a e2=>?_⟩;cases e2;exact⟨o,e,ex.2.1⟩
 |_=>exact False.elim ty
def tBM0(K:W.Frag)(T:String)(r:V→List V→Hp→VK→Prop)(to:TE):TE:=fun σ H Q=>to σ H fun x H1=>tyV K T x H1∧r x [] H1 Q
def tBM(K:W.Frag)(T:String)(r:V→List V→Hp→VK→Prop)(to:TE)(t:TA):TE:=fun σ H Q=>to σ H fun x H1=>tyV K T x H1∧t σ H1 fun xs H2=>r x xs H2 Q
variable{o e:Expr}{es:List Expr}{to:TE}{t:TA}{name:Str}{apos cpos:Pos}{T id:String}{r:V→List V→Hp→VK→Prop}
theorem Rf(pa:PlainAttrs T)(slot:Slot T name id)(hty:typeOf (.builtin id)=pure (.type "method_descriptor"))(hm:MtR X id r)(ho:PE X o to)(hbase:attributeBase o name X.env (eval o X.env)=eval o X.env:=by rfl)(hline:(apos.endLine==cpos.line)=true:=by rfl):PE X (.Call (.Attribute o name apos) [] [] cpos) (tBM0 X.K T r to):=by
 intro or s σ H Q I h;refine wpAny_Call_method0_late hbase hline (thn (ho or s σ H _ I h) fun v s1 z8=>?_);obtain⟨x,H1,I1,r1,ty,q1⟩:=z8;obtain⟨h1,h2⟩:=p8 I1 r1 ty;exact⟨T,id,pa,slot,hty,h1,h2,zt rfl (PySem.evalArgs_none (hm or s1 σ H1 x [] v [] Q I1 r1 .nil q1))⟩
theorem S7(pa:PlainAttrs T)(slot:Slot T name id)(hty:typeOf (.builtin id)=pure (.type "method_descriptor"))(hm:MtR X id r)(ho:PE X o to)(ha:PA X (e::es) t)(hbase:attributeBase o name X.env (eval o X.env)=eval o X.env:=by rfl)(hfew:((backTo cpos (starEach (e::es) X.env)).all (fun x=>!x.1) && (backToKw cpos (keywordEach [] X.env)).all (fun x=>x.1.isSome)
   && decide ((e::es).length+([]:List Keyword).length+(if ([]:List Keyword).isEmpty then 0 else 1)<30))=true:=by rfl)(hline:(apos.endLine==cpos.line)=true:=by rfl)(hs:starEach (e::es) X.env=(false,eval e X.env)::starEach es X.env:=by rfl)(hplain:(backTo cpos (starEach es X.env)).any (·.1)=false:=by rfl):
  PE X (.Call (.Attribute o name apos) (e::es) [] cpos) (tBM X.K T r to t):=by
 intro or s σ H Q I h;refine wpAny_Call_method_late hbase hfew hline rfl (thn (ho or s σ H _ I h) fun v s1 z8=>?_);obtain⟨x,H1,I1,r1,ty,q1⟩:=z8;obtain⟨h1,h2⟩:=p8 I1 r1 ty;refine⟨T,id,pa,slot,hty,h1,h2,?_⟩;have hA:=ha cpos or s1 σ H1 _ I1 q1;rw[hs]at hA⊢;refine zt (by show(false || (backTo cpos (starEach es X.env)).any (·.1))=false;rw[hplain] <;> rfl) (Calls.evalArgs_plain ?_);exact thn hA fun us s2 ⟨vs,H2,I2,r2,q2⟩=>hm or s2 σ H2 x vs v us Q I2 r1 r2 q2
end
def MtM(X:Cx)(id:String)(r:V→List V→Hp→VK→Prop):Prop:=
 ∀(or:List (Addr×Obj))(s:Shared)(σ:St)(H:Hp)(x:V)(xs:List V)(v:Value)(us:List Value)(Q:VK),Inv X or σ H s→RelV x v→Vals xs us→r x xs H Q→
  wpAny (model X.prog X.w) X.A (call (.builtin id) (v::us)) (EP X or σ Q) X.xe s
theorem Vals.one{x:V}{us:List Value}(h:Vals [x] us):∃u,us=[u]∧RelV x u:=by
 cases h with
 |cons r t=>
  cases t;exact⟨_,rfl,r⟩
theorem Vals.zero:∀{us:List Value},Vals [] us→us=[]
 |_,.nil=>rfl
theorem Vals.dropLast{xs:List V}{us:List Value}(h:Vals xs us):Vals xs.dropLast us.dropLast:=by
 induction h with
 |nil=>exact .nil
 |cons r t ih=>
  cases t with
  |nil=>exact .nil
  |cons q t'=>exact .cons r ih
theorem Vals.reverse{xs:List V}{us:List Value}(h:Vals xs us):Vals xs.reverse us.reverse:=by
 induction h with
 |nil=>exact .nil
 |cons r t ih=>rw[y4,y4];exact Vals.append ih (.cons r .nil)
theorem ii{α:Type}(l:List α):l.eraseIdx (l.length-1)=l.dropLast:=by
 induction l with
 |nil=>rfl
 |cons a r ih=>
  cases r with
  |nil=>rfl
  |cons b r=>
   have e:(a::b::r).length-1=((b::r).length-1)+1:=by
    have h1:(a::b::r).length=r.length+2:=rfl;have h2:(b::r).length=r.length+1:=rfl;omega
   rw[e,List.eraseIdx_cons_succ,ih]
   all_goals rfl
section
variable{X:Cx}{or:List (Addr×Obj)}{σ:St}{H:Hp}{s:Shared}{l b:Addr}{xs ys zs:List V}
theorem Inv.lset{its its':List Value}{n:Nat}{f:Array Value→Array Value}{t':Nat}(I:Inv X or σ H s)(hH:H l=some (.lst xs))(e:s.heap.get? l=some {cls:=.type "list",data:=.seq its.toArray n})(hf:f its.toArray=its'.toArray)(hv:Vals ys its')(hz:ys.length≤sizeLine):
  Inv X or σ (upd H l (.lst ys)) {s with heap:=s.heap.update l (Obj.mapSeq f),toks:=t'}:=by
 have q:=PySem.IsL.update e f;rw[hf]at q;refine I.write (x:=l) (e:=l) (by rw[hH];exact trivial) (.inl rfl) (fun b' u hb hu=>(zq s.heap (Obj.mapSeq f) (Ne.symm hb)).trans hu) ⟨_,q⟩ ?_;exact⟨hz,its',_,hv,q⟩
theorem Inv.lnew{its:List Value}{t':Nat}(I:Inv X or σ H s)(hv:Vals ys its)(hz:ys.length≤sizeLine):
  Inv X or σ (upd H s.heap.objs.size (.lst ys)) {s with heap:=s.heap.push {cls:=.type "list",data:=.seq its.toArray},toks:=t'}:=
 I.laid (fun _ _ q=>az _ q) (pi _) ⟨hz,its,0,hv,wD _ rfl⟩
theorem Inv.fresh(I:Inv X or σ H s):H s.heap.objs.size=none:=I.hok.fresh (pi _)
theorem Inv.lstM(I:Inv X or σ H s)(hH:H l=some (.lst xs)):xs.length≤sizeLine∧∃(its:List Value)(n:Nat),Vals xs its∧xs.length=its.length∧s.heap.get? l=some {cls:=.type "list",data:=.seq its.toArray n}:=by
 obtain⟨z,its,n,r,e⟩:=I.hok l _ hH;exact⟨z,its,n,r,r.length,e⟩
theorem oq{n:Nat}(h:n≤sizeLine):Builtin.List.listTooLong n=false:=by
 unfold Builtin.List.listTooLong;exact xg (by omega)
end
section
variable{X:Cx}
def rM:V→List V→Hp→VK→Prop:=fun x vs H Q=>∃l xs y,x=.ref l∧vs=[y]∧H l=some (.lst xs)∧xs.length<sizeLine∧Q .non (upd H l (.lst (xs++[y])))
theorem Vy:MtM X "list.append" rM:=by
 intro or s σ H x vs v us Q I rx rv h;obtain⟨l,xs,y,rfl,rfl,hH,hz,q⟩:=h;cases rx;obtain⟨u,rfl,ru⟩:=rv.one;obtain⟨z,its,n,r,hl,e⟩:=I.lstM hH;refine call_meets F.slot_list_append ⟨_,e,rfl⟩ F.entry_list_append (F.args_list_append_2 _ _) (PySem.list_append l its.toArray n u (by rw[xh];omega)) ⟨e,?_⟩;refine⟨.non,_,I.lset (its':=its++[u]) hH e (by simp) (r.append (.cons ru .nil)) ?_,rfl,q⟩;rw[wH,yd];omega
def rO:V→List V→Hp→VK→Prop:=fun x vs H Q=>∃l b xs zs,x=.ref l∧vs=[.ref b]∧H l=some (.lst xs)∧H b=some (.lst zs)∧xs.length+zs.length≤sizeLine∧Q .non (upd H l (.lst (xs++zs)))
theorem Pe:MtM X "list.extend" rO:=by
 intro or s σ H x vs v us Q I rx rv h;obtain⟨l,b,xs,zs,rfl,rfl,hH,hB,hz,q⟩:=h;cases rx;obtain⟨u,rfl,ru⟩:=rv.one;cases ru;obtain⟨z,its,n,r,hl,e⟩:=I.lstM hH;obtain⟨z2,its2,n2,r2,hl2,e2⟩:=I.lstM hB;have hsz:its.toArray.size+its2.toArray.size≤sizeLine:=by rw[xh,xh];omega
 have hlong:¬(!its.toArray.isEmpty && Builtin.List.listTooLong (its.toArray.size+its2.toArray.size))=true:=by
  rw[oq hsz,zM];exact wJ
 refine call_meets F.slot_list_extend ⟨_,e,rfl⟩ F.entry_list_extend (F.args_list_extend_2 _ _)
  (AutoSeq1.list_extend_list_list_0 l its.toArray n b its2.toArray n2 hlong (by rw[xh];omega) (by omega)) ⟨e,e2,?_⟩
 refine⟨.non,_,I.lset (its':=its++its2) hH e (by simp) (r.append r2) ?_,rfl,q⟩;rw[wH];omega
def rPop:V→List V→Hp→VK→Prop:=fun x vs H Q=>∃l xs y,x=.ref l∧vs=[]∧H l=some (.lst xs)∧xs[xs.length-1]?=some y∧Q y (upd H l (.lst xs.dropLast))
theorem Oi:MtM X "list.pop" rPop:=by
 intro or s σ H x vs v us Q I rx rv h;obtain⟨l,xs,y,rfl,rfl,hH,hy,q⟩:=h;cases rx;have hus:=rv.zero;subst hus;obtain⟨z,its,n,r,hl,e⟩:=I.lstM hH;obtain⟨u,hu,ru⟩:=r.get hy;have hy':its.toArray[its.toArray.size-1]?=some u:=by
  show its.toArray[its.length-1]?=some u;rw[←wI,←hl];exact hu
 refine call_meets F.slot_list_pop ⟨_,e,rfl⟩ F.entry_list_pop (F.args_list_pop_1 _) (MeetsSeq.list_pop_last l its.toArray n u hy' (by rw[xh];omega)) ⟨e,?_⟩;refine⟨y,_,I.lset (its':=its.dropLast) hH e ?_ r.dropLast ?_,ru,q⟩
 ·show its.toArray.eraseIdxIfInBounds (its.toArray.size-1)=its.dropLast.toArray;rw[xh,List.eraseIdxIfInBounds_toArray,ii]
 ·rw[List.length_dropLast];omega
def rCat:R2:=fun x y H Q=>∃l b xs zs,x=.ref l∧y=.ref b∧H l=some (.lst xs)∧H b=some (.lst zs)∧xs.length+zs.length≤sizeLine∧∀p,H p=none→Q (.ref p) (upd H p (.lst (xs++zs)))
theorem Vd:OpR X (binaryOp .Add) rCat:=by
 intro or s σ H x y v u Q I rx ry h;obtain⟨l,b,xs,zs,rfl,rfl,hH,hB,hz,q⟩:=h;cases rx;cases ry;obtain⟨z,its,n,r,hl,e⟩:=I.lstM hH;obtain⟨z2,its2,n2,r2,hl2,e2⟩:=I.lstM hB;refine PySem.P.add_list e e2 ?_ (by rw[xh,xh];omega);have ea:its.toArray++its2.toArray=(its++its2).toArray:=by simp
 rw[ea];exact⟨.ref _,_,I.lnew (t':=s.toks) (r.append r2) (by rw[wH];omega),rfl,q _ I.fresh⟩
end
section
variable{prog:Program}{w:World}{A:Around}{E:Value→Shared→Prop}{s:Shared}
end
section
variable{X:Cx}
end
end L2
namespace Att
open PySem PySem.W PySem.Calls PyProof.Rows
theorem Sg{P:Params}{h:Heap}:∀(ns:List Int)(vs:List Value),WellAll P h vs (ns.map WData.int)→IntsAre vs ns:=by
 intro ns
 induction ns with
 |nil=>
  intro vs w;rw[List.map_nil]at w;cases w;exact .nil
 |cons n ns ih=>
  intro vs w;rw[xt]at w;cases w with
  |cons a b=>
   cases a;exact .cons _ _ (ih _ b)
theorem mh{l:OpenLaw}{n:Nat}(hn:l.most=some n){P:Params}{h:Heap}{args:List WData}{vals:List Value}(hpre:l.row.toRowW.claim.pre args=true)(hwl:WellAll P h vals args):
  ∃a vs ns,vals=[Value.ref a]∧args=[WData.list (ns.map WData.int)]∧h.get? a=some {cls:=.type "list",data:=.seq vs.toArray}∧IntsAre vs ns∧ns.length≤n:=by
 have hsh:WShape.hasAll [] args [.list .int]=true:=(pre_splitW hpre).1;have hc:l.pre.holds [] {args:=args}=true:=(pre_splitW hpre).2;obtain⟨d,r,rfl,h1,h2⟩:=hasAllW_cons hsh;obtain rfl:=hasAllW_nil h2;obtain⟨xs,rfl,h3⟩:=hasW_list h1;obtain⟨ns,rfl⟩:=items_int h3;have Al:ns.length≤n:=by
  unfold OpenLaw.pre at hc;have h4:(WTm.not (.lt (.lit (.int (n:Int))) (.len (.arg 0)))).holds [] {args:=[.list (ns.map .int)]}=true:=by
   have h4:=(holds_andW hc).1;rw[hn]at h4;exact h4
  have h5:=condW_of h4 (w_not (w_lt w_lit (w_len_list (w_arg rfl))));rw[aq]at h5;refine Nat.le_of_not_lt fun q=>?_;have q':(n:Int)<((ns.length:Nat):Int):=by omega
  first
   | (rw[wV q']at h5;exact absurd h5 (by decide))
   | (simp at h5;omega)
 cases hwl with
 |cons w1 w2=>
  cases w2;cases w1 with
  |list ho hall=>exact⟨_,_,ns,rfl,rfl,ho,Sg ns _ hall,Al⟩
theorem lZ(l:OpenLaw)(args:List WData):l.row.toRowW.claim.post args (.bool true) args=true:=
 postW_of (r:=l.row.toRowW) (X:=(true==true))
  (show WShape.has [] (.bool true) .bool=true by first | rfl | decide | simp[WShape.has,WShape.arms,WShape.armsAll])
  (show(WTm.eq .res (.lit (.bool true))).value [] {args:=args,res:=some (.bool true),after:=args}=some (.bool (true==true))from w_eq_bool (w_res rfl) w_lit) rfl
theorem attach_call{l:OpenLaw}{n:Nat}{q:Program}{loose:List Str}{XP:(Str→Option Value)→Heap→Prop}{YP:World→Heap→Prop}{d:DefRec}(hn:l.most=some n)(hdf:d.params.defaults=[])(call:∀(w:World) (s₀ s₁:Shared) (mg mb:Str→Option Value) (fa:Addr) (o:Obj) (pm cd doc:Value) (a:Addr) (vs:List Value) (ns:List Int),
   Ground q loose [] XP w s₀ mg mb s₁.heap→YP w s₁.heap→
   s₁.heap.get? fa=some o→o.data=.func (docDef d.name d.params d.body d.scope pm cd doc)→s₁.heap.CodeRec cd d.name→mg d.name=some (.ref fa)→
   s₁.heap.get? a=some {cls:=.type "list",data:=.seq vs.toArray}→IntsAre vs ns→ns.length≤n→s₁.gens=#[]→
   codeAny (model l.prog w) callerA (.call (.ref fa) ⟨[.ref a],[]⟩) (fun r s'=>r=.ok (.ret (.bool true))∧OldK s₁.heap s'.heap∧s'.os=s₁.os∧AllBare s'.gens) s₁):
  WalkO q loose XP YP l.row.toRowW d [] (fun f vs=>PySem.call f vs):=by
 intro w s₀ s₁ mg mb G Y fa o pm cd doc dV kV ho hd hcd hD hmg hg args vals as hpre hlay hrd hwl hlo;obtain rfl:dV=.none:=Dflts.none hD hdf;obtain rfl:kV=.none:=Dflts.noKw hD;obtain⟨a,vs,ns,rfl,rfl,hobj,hints,Al⟩:=mh hn hpre hwl;refine enter_call (zo (call w s₀ s₁ mg mb fa o pm cd doc a vs ns G Y ho (fd_plain hd) hcd hmg hobj hints Al hg) fun r s' hq=>?_);obtain⟨rfl,h2,h3,h4⟩:=hq;exact⟨.inl ⟨.bool true,.bool true,[],rfl,fun _=>rfl,.bool true,lZ l _,fun _=>⟨List.Pairwise.nil,fun _ hm=>(nomatch hm)⟩⟩,h2,h3,h4⟩
section
variable{prog:Program}{w:World}{A:Around}{E:Value→Shared→Prop}{s:Shared}{K:Frag}
end
end Att
namespace L2
open PySem PySem.Spec PyProof.Rows
theorem Vo:∀{vs:List Value}{ns:List Int},IntsAre vs ns→Vals (ns.map V.int) vs
 |_,_,.nil=>.nil
 |_,_,.cons n t h=>.cons ⟨t,rfl⟩ (Vo h)
end L2
namespace L2
open PySem PySem.Spec PyProof.Rows
def aB(s:Stmt):Arguments:=match s with
 |.FunctionDef _ a _ _ _ _ _ _ _ _=>a
 |_=>{posonlyargs:=[],args:=[],vararg:=none,kwonlyargs:=[],kw_defaults:=[],kwarg:=none,defaults:=[]}
def av(s:Stmt):List Stmt:=match s with
 |.FunctionDef _ _ b _ _ _ _ _ _ _=>b
 |_=>[]
def aa(s:Stmt):Scope:=match s with
 |.FunctionDef _ _ _ _ _ _ sc _ _ _=>sc
 |_=>{kind:=.function,names:=[],isGenerator:=false,isCoroutine:=false}
abbrev CX0:CXT:=fun _ _ _ _ _ _=>False
abbrev E0:XK:=fun _ _ _=>False
theorem vB{X:Cx}:iF CX0 X E0:=fun _ _ _ _ _ _ _ h=>h.elim
structure Fun(K:W.Frag)(x qual:Str)(st:Stmt)(f:Addr)(fd:FuncData):Prop where
 ex:∃(oc:Value)(od:Option Addr)(kV doc pm:Value)(an:Option Addr)(cdv ct:Value)(osl:Array (Option Value)),
  fd=W.fnOf x qual (aB st) (av st) (aa st) .none kV doc pm an cdv ct∧K.lookup f=some ⟨oc,od,.func fd,osl⟩∧W.codeIn K cdv qual=true
 kp:W.keepIn K (.ref f)=true
section
variable{P:Program}{w:World}{K:W.Frag}{mg:Str→Option Value}{base:Heap}
theorem Fun.ok{x qual:Str}{st:Stmt}{f:Addr}{fd:FuncData}{N ps:List Str}{k:Nat}{sp:Sp}(F:Fun K x qual st f fd)(S:FnScope N ps (aa st))(len:∀vs H Q E,sp vs H Q E→vs.length=ps.length)(hbody:∀(cdv:Value) (A:Around) (outer:List Env) (s:Shared) (H:Hp) (vs:List V) (Q:VK) (E:XK),Room k (A.deeper (envOfC qual (aa st) s.heap.objs.size f cdv))→sp vs H Q E→
   ∃t,PSs (kB CX0 P w K mg base N qual (aa st) f cdv A outer s H E).nox (av st) t∧t {nx:=fun _ H'=>Q .non H',rt:=Q} (cx N vs) H):FnOk P w K mg base CX0 (k+1) f fd ps sp:=by
 obtain⟨oc,od,kV,doc,pm,an,cdv,ct,osl,rfl,lk,hcd⟩:=F.ex;refine nX lk hcd S len fun A outer s H vs Q E hr hsp=>?_;obtain⟨t,h,q⟩:=hbody cdv A outer s H vs Q E hr hsp;exact⟨t,h.nox,q⟩
theorem Fun.binds{x qual:Str}{st:Stmt}{f:Addr}{fd:FuncData}{ps:List Str}(F:Fun K x qual st f fd)(h:∀(kV doc pm:Value) (an:Option Addr) (cdv ct:Value) (us:List Value),us.length=ps.length→bindArgs (W.fnOf x qual (aB st) (av st) (aa st) .none kV doc pm an cdv ct) ⟨us,[]⟩=pure (ps.zip us)):Binds K fd ps []:=by
 obtain⟨oc,od,kV,doc,pm,an,cdv,ct,osl,rfl,lk,hcd⟩:=F.ex;exact .all (h kV doc pm an cdv ct)
theorem Ot{x qual:Str}{st:Stmt}{f:Addr}{oc:Value}{od an:Option Addr}{osl:Array (Option Value)}{kV doc pm cdv ct:Value}(l:K.lookup f=some ⟨oc,od,.func (W.fnOf x qual (aB st) (av st) (aa st) .none kV doc pm an cdv ct),osl⟩)(c:W.codeIn K cdv qual=true)(k:W.keepIn K (.ref f)=true):Fun K x qual st f (W.fnOf x qual (aB st) (av st) (aa st) .none kV doc pm an cdv ct):=⟨⟨oc,od,kV,doc,pm,an,cdv,ct,osl,rfl,l,c⟩,k⟩
end
theorem Td{A:Around}{k:Nat}(hr:Room k A):A.units+1<cLine:=zu (Nat.add_le_add_left (by decide:1≤64) _) hr.units
section
variable{X:Cx}
theorem pv(i:Nat){x:Str}{pos:Pos}(hN:X.N[i]?=some x:=by rfl)(hv:Vis X.env.scope x:=by first | exact Or.inl rfl | exact Or.inr (Or.inl rfl) | exact Or.inr (Or.inr rfl))(hd:(x==("__debug__":Str))=false:=by decide)(hcd:(x==("__classdict__":Str))=false:=by decide):PE X (.Name x pos) (uD i):=oI hN hv hd hcd
end
theorem Yu{A B:Prop}(h:B):if false=true then A else B:=by
 rw[wK wJ];exact h
theorem Wg{A B:Prop}(h:A):if true=true then A else B:=by
 rw[wM rfl];exact h
theorem V2{c A B:Prop}[Decidable c](h1:c→A)(h2:¬c→B):if c then A else B:=by
 by_cases h:c
 ·rw[wM h];exact h1 h
 ·rw[wK h];exact h2 h
def Same(H H':Hp):Prop:=∀b o,H b=some o→H' b=some o
theorem Same.refl(H:Hp):Same H H:=fun _ _ h=>h
theorem Same.trans{H H1 H2:Hp}(a:Same H H1)(b:Same H1 H2):Same H H2:=fun c o h=>b c o (a c o h)
theorem Same.free{H H':Hp}(e:Same H H'){l:Addr}(h:H' l=Option.none):H l=Option.none:=by
 cases q:H l with
 |none=>rfl
 |some o=>
  rw[e l o q]at h;cases h
end L2
set_option maxHeartbeats 4000000
set_option bootstrap.genMatcherCode false
set_option genInjectivity false
set_option genSizeOf false
noncomputable section
namespace L2
open PySem PySem.Spec PyProof.Rows
theorem Ry{α β:Type}{f:α→β→Sem (ForInStep β)}{g:β→α→β}:∀(l:List α)(c:β),(∀x∈l,∀c,f x c=pure (.yield (g c x)))→forIn l c f=pure (l.foldl g c)
 | [],_,_=>rfl
 |x::l,c,h=>by
  rw[List.forIn_cons,h x xf,pure_bind];exact Ry l (g c x) fun y hy=>h y (xr _ hy)
def aO(env:Env)(Ai:List (Str×Addr))(x:Str×NameKind):List (Str×Addr):=if x.2==.free then(x.1,(env.cells.lookup x.1).getD 0)::Ai else Ai
def aJ(env:Env)(names:List (Str×NameKind)):List (Str×Addr):=names.foldl (aO env) []
theorem Ua{scope:Scope}{env:Env}(h:∀x∈scope.names,x.2=.free→∃c,env.cells.lookup x.1=some c):closureFor scope env=pure (aJ env scope.names):=by
 simp only[closureFor];rw[Ry (g:=aO env) scope.names [] (fun x hx c=>by
  obtain⟨n,kind⟩:=x;by_cases hk:kind=.free
  ·subst hk;obtain⟨a,ha⟩:=h _ hx rfl;have ha':env.cells.lookup n=some a:=ha;simp[aO,cellOf,ha']
  ·have hb:(kind==NameKind.free)=false:=by simpa using hk
   simp[aO,hb])]
 rfl
theorem U2{env:Env}:∀(names:List (Str×NameKind))(Ai:List (Str×Addr)),(∀x∈names,x.2=.free→∃c,env.cells.lookup x.1=some c)→(∀p∈Ai,env.cells.lookup p.1=some p.2)→
  ∀p∈names.foldl (aO env) Ai,env.cells.lookup p.1=some p.2
 | [],_,_,h=>h
 |x::r,Ai,hn,h=>by
  refine U2 r _ (fun y hy=>hn y (xr _ hy)) ?_;intro p hp;unfold aO at hp
  split at hp
  ·rename_i hk
   rcases wX.mp hp with e | e
   ·subst e;obtain⟨c,hc⟩:=hn x List.mem_cons_self (by simpa using hk);show env.cells.lookup x.1=some ((env.cells.lookup x.1).getD 0);rw[hc];rfl
   ·exact h p e
  ·exact h p hp
theorem Pp{env:Env}:∀(names:List (Str×NameKind))(Ai:List (Str×Addr))(p:Str×Addr),p∈Ai→p∈names.foldl (aO env) Ai
 | [],_,_,h=>h
 |x::r,Ai,p,h=>by
  refine Pp r _ p ?_;unfold aO
  split
  ·exact xr _ h
  ·exact h
theorem U3{env:Env}:∀(names:List (Str×NameKind))(Ai:List (Str×Addr))(x:Str),(x,NameKind.free)∈names→∃c,(x,c)∈names.foldl (aO env) Ai
 |y::r,Ai,x,h=>by
  rcases wX.mp h with e | e
  ·subst e;exact⟨_,Pp r _ _ (by unfold aO;rw[wM (by rfl)];exact xf)⟩
  ·exact U3 r _ x e
theorem Xf{α:Type}:∀{l:List (Str×α)}{x:Str}{c:α},(x,c)∈l→∃d,l.lookup x=some d
 | (y,d)::r,x,c,h=>by
  rw[zk];cases e:x==y with
  |true=>exact⟨d,rfl⟩
  |false=>
   rcases wX.mp h with q | q
   ·cases q;rw[beq_self_eq_true]at e;cases e
   ·exact Xf q
theorem W3(env:Env):∀(names:List (Str×NameKind))(x:Str),(names.map fun(n,k)=>if (k==NameKind.free && env.scope.kind==.function && env.kindOf n==some .cell) then(n,NameKind.cell) else(n,k)).lookup x =
  (names.lookup x).map fun k=>if (k==NameKind.free && env.scope.kind==.function && env.kindOf x==some .cell)then NameKind.cell else k
 | [],_=>rfl
 | (n,k)::r,x=>by
  have ih:=W3 env r x;show List.lookup x ((if (k==NameKind.free && env.scope.kind==.function && env.kindOf n==some .cell)=true then(n,NameKind.cell) else(n,k))::_)=_;have hr:((n,k)::r).lookup x=(match x==n with | true=>some k | false=>r.lookup x):=zk ..;rw[hr];by_cases hc:(k==NameKind.free && env.scope.kind==.function && env.kindOf n==some .cell)=true
  ·rw[wM hc,zk];cases hx:x==n with
   |true=>
    have e:x=n:=eq_of_beq hx;subst e;show some NameKind.cell=some (if (k==NameKind.free && env.scope.kind==.function && env.kindOf x==some .cell)=true then NameKind.cell else k);rw[wM hc]
   |false=>exact ih
  ·rw[wK hc,zk];cases hx:x==n with
   |true=>
    have e:x=n:=eq_of_beq hx;subst e;show some k=some (if (k==NameKind.free && env.scope.kind==.function && env.kindOf x==some .cell)=true then NameKind.cell else k);rw[wK hc]
   |false=>exact ih
def cxC(X:Cx)(own:List Str)(scope:Scope)(cl:List (Str×Addr))(C:Addr)(s:Shared)(H:Hp)(fp:List Addr):Cx:=
 {X with N:=own++X.N,s₀:=s,H₀:=H,env:=compEnvC scope cl C X.env,outer:=X.stack,stack:=X.stack,ex:=fp,fn:=fun _=>false,xe:=fun _ _=>False}
def PTs(X:Cx)(ifs:List Expr)(t:TT):Prop:=
 ∀(or:List (Addr×Obj))(s:Shared)(σ:St)(H:Hp)(Q:Bool→Hp→Prop),Inv X or σ H s→t σ H Q→
  wpAny (model X.prog X.w) X.A (forIn ifs true fun c r=>if r=true then do let ok ←isTrue c X.env (eval c X.env);pure (ForInStep.yield ok)else pure (ForInStep.yield r)) (TP X or σ Q) X.xe s
def tAll:TT:=fun _ H Q=>Q true H
theorem Yt{X:Cx}:PTs X [] tAll:=fun _ _ _ H _ I h=>wpAny_tests_nil ⟨H,I,h⟩
theorem Ob{X:Cx}{c:Expr}{t:TT}(h:PT X c t):PTs X [c] t:=fun or s σ H Q I q=>wpAny_tests_one (h or s σ H Q I q)
def Wk:St→St→Prop
 | [],[]=>True
 |_::r,none::t=>Wk r t
 |a::r,some v::t=>a=some v∧Wk r t
 |_,_=>False
theorem Wk.len:∀{a b:St},Wk a b→b.length=a.length
 | [],[],_=>rfl
 |_::r,none::t,h=>yy (·+1) (Wk.len (a:=r) (b:=t) h)
 |_::r,some _::t,h=>yy (·+1) (Wk.len (a:=r) (b:=t) h.2)
 | [],none::_,h=>h.elim
 | [],some _::_,h=>h.elim
 |_::_,[],h=>h.elim
theorem Wk.get:∀{a b:St}(i:Nat)(v:V),Wk a b→b[i]?=some (some v)→a[i]?=some (some v)
 |_::_,none::_,0,v,_,e=>by simp at e
 |_::_,some _::_,0,v,h,e=>by simp at e⊢;rw[h.1,e]
 |_::r,none::t,i+1,v,h,e=>by simp at e⊢;exact Wk.get (a:=r) (b:=t) i v h e
 |_::r,some _::t,i+1,v,h,e=>by simp at e⊢;exact Wk.get (a:=r) (b:=t) i v h.2 e
 | [],[],i,v,h,e=>by simp at e
 | [],none::_,_,_,h,_=>h.elim
 | [],some _::_,_,_,h,_=>h.elim
 |_::_,[],_,_,h,_=>h.elim
theorem Wk.refl:∀(a:St),Wk a a
 | []=>trivial
 |none::r=>Wk.refl r
 |some _::r=>⟨rfl,Wk.refl r⟩
def CompR(J:It)(H:Hp)(k:Nat)(g:TG)(tt:TT)(te:TE)(σ:St)(Q:VK):Prop:=∃W:Nat→Nat→List V→Hp→Prop,(∃m,W 0 m [] H)∧∀i m ys H,W i m ys H→
 (J.stop i H∧ys.length≤sizeLine∧∀p,H p=none→Q (.ref p) (upd H p (.lst ys)))∨
 (J.go i H∧ys.length<sizeLine∧∀x H',J.yld i H x H'→g x (List.replicate k none++σ) H' fun σ2 H2=>Wk σ2 (List.replicate k none++σ)∧tt σ2 H2 fun ok H3=>
  if ok=true then te σ2 H3 fun y H4=>∃m',m'<m∧W (i+1) m' (ys++[y]) H4 else ∃m',m'<m∧W (i+1) m' ys H3)
def gN(wi:TI)(g:TG)(tt:TT)(te:TE)(k:Nat):TE:=fun σ H Q=>wi σ H fun J H1=>CompR J H1 k g tt te σ Q
theorem fQ{prog:Program}{w:World}{A:Around}{R:Result→Shared→Prop}{s:Shared}{elt target iter:Expr}{ifs:List Expr}{scope:Scope}{pos:Pos}{it Ai:Value}{env:Env}(I:Nat→Shared→Prop)(turn:∀n s,I n s→wpAny (model prog w) A (pyNext it) (fun r s₁=>match r with
   |none=>R (.ok .next) s₁
   |some v=>wpAny (model prog w) A (letOwnedTupleGo target it v) (fun _ s₁'=>wpAny (model prog w) A (assign target env v) (fun _ s₂=>
     wpAny (model prog w) A (forIn ifs true fun c r=>if r=true then do let ok ←isTrue c env (eval c env);pure (ForInStep.yield ok)else pure (ForInStep.yield r)) (fun ok s₃=>
      if ok=true then wpAny (model prog w) A (eval elt env) (fun x s₄=>
       wpAny (model prog w) A (call (.builtin "list.append") [Ai,x]) (fun _ s₅=>∃m,m<n∧I m s₅) (fun _ _=>False) s₄) (fun _ _=>False) s₃
      else ∃m,m<n∧I m s₃) (fun _ _=>False) s₂) (fun _ _=>False) s₁') (fun _ _=>False) s₁) (fun _ _=>False) s)(n:Nat)(h:I n s):
  codeAny (model prog w) A (.compLoop (.ListComp elt [⟨target,iter,ifs,0⟩] scope pos) 0 it Ai env) R s:=by
 refine codeAny_loop rfl I (fun n s hI=>?_) n h;show wpAny _ A ((compTurn (.ListComp elt [⟨target,iter,ifs,0⟩] scope pos) 0 it Ai env).onRaise (fun x=>do noteFrame x env;theTreesLotGoes x)) _ _ s;refine wpAny_noted ?_;rw[compTurn_list];refine ae (wpAny_standAt (ae (xX (turn n s hI) (fun r s₁ h₁=>?_) fun _ _ h'=>h'.elim)));cases r with
 |none=>exact io h₁
 |some v=>
  refine ae (xX h₁ (fun _ s₁' h₁'=>?_) fun _ _ h'=>h'.elim);refine ae (xX h₁' (fun _ s₂ h₂=>ae (xX h₂ (fun ok s₃ h₃=>?_) fun _ _ h'=>h'.elim)) fun _ _ h'=>h'.elim);cases ok with
  |false=>exact io ⟨rfl,h₃⟩
  |true=>
   exact ae (ae (xX h₃ (fun x s₄ h₄=>ae (xX h₄ (fun _ s₅ h₅=>io (io ⟨rfl,h₅⟩)) fun _ _ h'=>h'.elim)) fun _ _ h'=>h'.elim))
abbrev lo(its:List Value)(n:Nat):Obj:={cls:=.type "list",data:=.seq its.toArray n}
structure TurnP(Pc:Cx→Prop)(P:Program)(w:World)(K:W.Frag)(tg:Expr)(J:It)(fp:List Addr)(it:Addr)(tn:Nat→Heap→Prop):Prop where
 obj:∀i h,tn i h→∀b∈fp,∃o,h.get? b=some o∧∀v,o.data≠.cell v
 keep:∀i h h',tn i h→(∀b∈fp,∀o,h.get? b=some o→h'.get? b=some o)→tn i h'
 item:∀(X:Cx),X.prog=P→X.w=w→X.K=K→Pc X→∀(i:Nat)(or:List (Addr×Obj))(s:Shared)(σ:St)(H:Hp)(E:Value→Shared→Prop),Inv X or σ H s→(∀b∈fp,cw X or H b)→tn i s.heap→J.go i H→
  wpAny (model P w) X.A (pyNext (.ref it)) (fun r s1=>∃u,r=some u∧
   wpAny (model P w) X.A (letOwnedTupleGo tg (.ref it) u) (fun _ s2=>∃x H',Inv X or σ H' s2∧RelV x u∧J.yld i H x H'∧tn (i+1) s2.heap∧∀b∈fp,H' b=none) E s1) E s
 done:∀(X:Cx),X.prog=P→X.w=w→X.K=K→Pc X→∀(i:Nat)(or:List (Addr×Obj))(s:Shared)(σ:St)(H:Hp)(E:Value→Shared→Prop),Inv X or σ H s→(∀b∈fp,cw X or H b)→tn i s.heap→J.stop i H→
  wpAny (model P w) X.A (pyNext (.ref it)) (fun r s1=>r=none∧Inv X or σ H s1) E s
 self:∀(A:Around)(i:Nat)(s:Shared)(Q:Value→Shared→Prop)(E:Value→Shared→Prop),tn i s.heap→Q (.ref it) s→wpAny (model P w) A (pyIter (.ref it)) Q E s
def PIP(Pc:Cx→Prop)(X:Cx)(tg iter:Expr)(wi:TI):Prop:=
 ∀(or:List (Addr×Obj))(s:Shared)(σ:St)(H:Hp)(R:It→Hp→Prop),Inv X or σ H s→wi σ H R→
  wpAny (model X.prog X.w) X.A (eval iter X.env) (fun v s1=>wpAny (model X.prog X.w) X.A (pyIter v) (fun itv s2=>∃(it:Addr)(fp:List Addr)(tn:Nat→Heap→Prop)(J:It)(H':Hp),itv=.ref it∧Inv X or σ H' s2∧TurnP Pc X.prog X.w X.K tg J fp it tn∧tn 0 s2.heap∧(∀b∈fp,cw X or H' b)∧R J H') X.xe s1) X.xe s
theorem PI.p{X:Cx}{tg iter:Expr}{wi:TI}(h:PI X tg iter wi):PIP (fun X=>X.calm=true) X tg iter wi:=fun or s σ H R I q=>xX (h or s σ H R I q) (fun v s1 h1=>xX h1 (fun itv s2 ⟨it,fp,tn,J,H',e,I',T,t0,f,r⟩=>⟨it,fp,tn,J,H',e,I',⟨T.obj,T.keep,T.item,T.done,T.self⟩,t0,f,r⟩) fun _ _ z=>z) fun _ _ z=>z
structure CompOk(X:Cx)(own:List Str)(scope:Scope):Prop where
 cell:∀y∈scope.names,y.2≠.cell
 kind:scope.kind=.function
 names:∀y∈scope.names,y.2=.local→scope.names.lookup y.1=some .local
 fr:∀y∈scope.names,y.2=.free→X.env.scope.names.lookup y.1=some .cell∨X.env.scope.names.lookup y.1=some .free
 loc:∀y∈X.N,scope.names.lookup y≠some .local
def iJ(names:List (Str×NameKind)):Bool:=names.all fun y=>(y.2 != .cell) && (y.2 != .local || names.lookup y.1==some .local)
def gY(outer names:List (Str×NameKind)):Bool:=names.all fun y=>y.2 != .free || outer.lookup y.1==some .cell || outer.lookup y.1==some .free
def iz(N:List Str)(names:List (Str×NameKind)):Bool:=N.all fun y=>names.lookup y != some .local
theorem CompOk.of{X:Cx}{own:List Str}{scope:Scope}(hc:X.calm=X.calm)(hk:scope.kind=.function)(h1:iJ scope.names=true)(h2:gY X.env.scope.names scope.names=true)(h3:iz X.N scope.names=true):CompOk X own scope:=by
 unfold iJ at h1;unfold gY at h2;unfold iz at h3;rw[yn]at h1 h2 h3;refine⟨fun y hy=>?_,hk,fun y hy hl=>?_,fun y hy hf=>?_,fun y hy=>?_⟩
 ·have:=h1 y hy;rw[xJ]at this;exact bne_iff_ne.mp this.1
 ·have:=h1 y hy;rw[xJ,hl]at this;simpa using this.2
 ·have:=h2 y hy;rw[hf]at this;simpa using this
 ·exact bne_iff_ne.mp (h3 y hy)
section
variable{X:Cx}{own:List Str}{scope:Scope}{or:List (Addr×Obj)}{σ:St}{H:Hp}{s:Shared}{fp:List Addr}
theorem CompOk.cells(O:CompOk X own scope)(ok:X.Ok):∀x∈scope.names,x.2=.free→∃c,X.env.cells.lookup x.1=some c:=fun x hx hk=>ok.has x.1 (O.fr x hx hk)
theorem CompOk.sub(O:CompOk X own scope)(ok:X.Ok):∀x c,(aJ X.env scope.names).lookup x=some c→X.env.cells.lookup x=some c:=fun x c e=>
 U2 scope.names [] (O.cells ok) (fun _ h=>nomatch h) (x,c) (xu e)
theorem CompOk.free_of(O:CompOk X own scope){cl:List (Str×Addr)}{C:Addr}{x:Str}(h:(compEnvC scope cl C X.env).kindOf x=some .cell∨(compEnvC scope cl C X.env).kindOf x=some .free):scope.names.lookup x=some .free:=by
 have e:(compEnvC scope cl C X.env).kindOf x=(scope.names.lookup x).map fun k=>if (k==NameKind.free && X.env.scope.kind==.function && X.env.kindOf x==some .cell)then NameKind.cell else k:=W3 X.env scope.names x
 rw[e]at h;cases q:scope.names.lookup x with
 |none=>rw[q]at h;simp at h
 |some k=>
  rw[q]at h;by_cases hk:k=.free
  ·rw[hk]
  ·have hc:k≠.cell:=O.cell (x,k) (xu q);have hb:(k==NameKind.free)=false:=by simpa using hk
   have hr:¬((k==NameKind.free && X.env.scope.kind==.function && X.env.kindOf x==some .cell)=true):=by rw[hb];exact wJ
   have h:some (if (k==NameKind.free && X.env.scope.kind==.function && X.env.kindOf x==some .cell)=true then NameKind.cell else k)=some NameKind.cell∨some (if (k==NameKind.free && X.env.scope.kind==.function && X.env.kindOf x==some .cell)=true then NameKind.cell else k)=some NameKind.free:=h;rw[wK hr]at h
   rcases h with h | h
   ·exact absurd (xA h) hc
   ·exact absurd (xA h) hk
theorem CompOk.look(O:CompOk X own scope)(ok:X.Ok){x:Str}(h:scope.names.lookup x=some .free):∃c,(aJ X.env scope.names).lookup x=some c∧X.env.cells.lookup x=some c:=by
 obtain⟨c,hc⟩:=U3 scope.names [] (env:=X.env) x (xu h);obtain⟨d,hd⟩:=Xf hc;exact⟨d,hd,O.sub ok x d hd⟩
theorem iB(I:Inv X or σ H s){b:Addr}(h1:b≠X.env.locals)(h2:b∉X.fs):b∉frs X.stack:=fun z=>(wX.mp (I.stkSub b z)).elim h1 h2
theorem mN(O:CompOk X own scope)(I:Inv X or σ H s)(hf:∀b∈fp,cw X or H b)(ho:∀b∈fp,∃o,s.heap.get? b=some o){h₁:Heap}{C:Addr}{tk:Nat}{m:Str→Option Value}(hC:s.heap.objs.size<C)(hD:h₁.get? s.heap.objs.size=some (lo [] 0))(old:∀b o,s.heap.get? b=some o→h₁.get? b=some o)(hns:h₁.Ns C m):
  Inv (cxC X own scope (aJ X.env scope.names) C s H fp) (or++[(s.heap.objs.size,lo [] 0)]) (List.replicate own.length none++σ) H {s with heap:=h₁,toks:=tk}:=by
 have ltD:∀{b:Addr}{o:Obj},s.heap.get? b=some o→b<s.heap.objs.size:=fun e=>wE e;have nC:∀{b:Addr}{o:Obj},s.heap.get? b=some o→b≠C:=fun e=>wS (yu (ltD e) hC);have hsub:=O.sub I.ok;refine⟨⟨I.ok.mod,by show(relabel scope X.env).kind=_;exact O.kind,I.ok.glob,I.ok.blt,ye hC,fun x y c h1 h2=>I.ok.inj x y c (hsub x c h1) (hsub y c h2),fun x hx=>?_,fun x c hx _=>absurd (show false=true from hx) wJ,I.ok.hd,I.ok.frames,.inl rfl,fun b hb=>⟨?_,fun x c e=>?_⟩,I.bs,x3 I.ok.bsz I.sz,fun b o e hb=>?_,fun b hb=>iB I (hf b hb).2.1 (hf b hb).2.2.1,I.stack,I.stkFree⟩,
  rfl,I.bare,Un.kept old,⟨m,hns,fun i x v e1 e2 e3=>?_⟩,fun x c e=>?_,I.hok.fresh (ye hC),fun x c e=>I.freeC x c (hsub x c e),fun p hp=>?_,I.hok.kept old,?_⟩
 ·obtain⟨c,hc,_⟩:=O.look I.ok (O.free_of hx);exact⟨c,hc⟩
 ·obtain⟨o,e⟩:=ho b hb;exact nC e
 ·exact(hf b hb).2.2.2.2.1 x c (hsub x c e)
 ·rcases(hf b hb).2.2.2.1 with z | z
  ·exact I.ok.noex b o e z
  ·exact absurd (xk (wE e) (x3 I.ok.bsz z)) (yK _)
 ·have e1:(own++X.N)[i]?=some x:=e1;by_cases hi:i<own.length
  ·rw[List.getElem?_append_left (by simpa using hi),List.getElem?_replicate,if_pos hi]at e2;cases e2
  ·rw[List.getElem?_append_right (by simpa using hi),List.length_replicate]at e2;rw[List.getElem?_append_right (by simpa using hi)]at e1;have nl:(compEnvC scope (aJ X.env scope.names) C X.env).kindOf x≠some .local:=by
    have e:(compEnvC scope (aJ X.env scope.names) C X.env).kindOf x=(scope.names.lookup x).map fun k=>if (k==NameKind.free && X.env.scope.kind==.function && X.env.kindOf x==some .cell)then NameKind.cell else k:=W3 X.env scope.names x
    rw[e];intro z;cases q:scope.names.lookup x with
    |none=>rw[q]at z;simp at z
    |some k=>
     rw[q]at z;by_cases hk:k=.local
     ·exact O.loc x (wZ e1) (by rw[q,hk])
     ·have z:some (if (k==NameKind.free && X.env.scope.kind==.function && X.env.kindOf x==some .cell)=true then NameKind.cell else k)=some NameKind.local:=z;by_cases hc:(k==NameKind.free && X.env.scope.kind==.function && X.env.kindOf x==some .cell)=true
      ·rw[wM hc]at z;cases z
      ·rw[wK hc]at z;exact hk (xA z)
   have hv:(compEnvC scope (aJ X.env scope.names) C X.env).kindOf x=some .cell∨(compEnvC scope (aJ X.env scope.names) C X.env).kindOf x=some .free:=by
    rcases e3 with z | z | z
    ·exact absurd z nl
    ·exact .inl z
    ·exact .inr z
   have hfree:=O.free_of hv;have hout:=O.fr (x,.free) (xu hfree) rfl;obtain⟨m0,hn0,hl0⟩:=I.loc;obtain⟨u,r,l⟩:=hl0 _ x v e1 e2 (hout.elim (fun z=>.inr (.inl z)) fun z=>.inr (.inr z));refine⟨u,r,.inr ⟨hv,?_⟩⟩
   rcases l with⟨k,_⟩|⟨_,c,ec,z⟩
   ·have k':X.env.scope.names.lookup x=some .local:=k
    rcases hout with q | q
    ·rw[q]at k';cases k'
    ·rw[q]at k';cases k'
   ·obtain⟨d,hd1,hd2⟩:=O.look I.ok hfree;rw[ec]at hd2;cases hd2;obtain⟨oc,hoc,hdc⟩:=z;exact⟨c,hd1,oc,old _ _ hoc,hdc⟩
 ·obtain⟨v,o,hoc,hdc⟩:=I.cell x c (hsub x c e);exact⟨v,o,old _ _ hoc,hdc⟩
 ·have hp:p∈X.pn++(or++[(s.heap.objs.size,lo [] 0)]):=hp;rw[←xw]at hp
  rcases wY.mp hp with hp | hp
  ·obtain⟨e,n,ne,nf,d⟩:=I.pin p hp;exact⟨old _ _ e,n,nC e,iB I ne nf,d⟩
  ·cases wR.mp hp;refine⟨hD,I.hok.fresh (pi _),wS hC,fun z=>?_,fun v z=>by cases z⟩;have z:=I.stkSub _ z
   rcases wX.mp z with z | z
   ·exact absurd z (x4 I.lt)
   ·exact I.nofs (pi _) z
 ·show(List.replicate own.length none++σ).length=(own++X.N).length;rw[wH,wH,xU,I.len]
theorem Pn{cl:List (Str×Addr)}{C:Addr}{its:List Value}{n:Nat}{σ':St}{H':Hp}{s':Shared}{ys:List V}{h':Heap}(I:Inv X or σ H s)(hf:∀b∈fp,cw X or H b)(hC:s.heap.objs.size<C)(I':Inv (cxC X own scope cl C s H fp) (or++[(s.heap.objs.size,lo its n)]) σ' H' s')(hv:Vals ys its)(hz:ys.length≤sizeLine)(hs:Heap.SameBut C s'.heap h'):
  Inv X or σ (upd H' s.heap.objs.size (.lst ys)) {s' with heap:=h'}:=by
 obtain⟨eD,nD,neD,_,_⟩:=I'.pin (s.heap.objs.size,lo its n) (wP _ (wP _ xf));have nC:∀{b:Addr}{o:Obj},s.heap.get? b=some o→b≠C:=fun e=>wS (yu (wE e) hC);have nDD:∀{b:Addr}{o:Obj},s.heap.get? b=some o→b≠s.heap.objs.size:=fun e=>wS (wE e);have same:∀{b:Addr}{o:Obj},b≠C→s'.heap.get? b=some o→h'.get? b=some o:=fun hb e=>(hs.2 _ hb).trans e;have fC:H' C=none:=I'.free;have hb:Un (frs X.stack) fp H H' s.heap s'.heap:=I'.base;have hot:∀{b:Addr}{u:HO},H b=some u→b≠s.heap.objs.size:=fun e=>wS (I.hok.lt e);refine I.call' (s':={s' with heap:=h'}) (ch:=fp) I'.os ⟨fun b o e q n1 n2=>same (nC e) (hb.keep b o e q n1 n2),fun b o e q n1 n2=>?_,fun b o e q n2=>?_,fun b o e n2=>?_,fun b xs e=>?_,fun b o u e=>?_,fun b ps e=>?_⟩ ?_ I'.bare fun b hb'=>?_
 ·obtain⟨sl,q2⟩:=hb.slot b o e q n1 n2;exact⟨sl,same (nC e) q2⟩
 ·rw[Z9 (nDD e)];exact hb.free b o e q n2
 ·obtain⟨o',q2⟩:=hb.there b o e n2;exact⟨o',same (nC e) q2⟩
 ·rw[Z9 (hot e)];exact hb.tups b xs e
 ·rw[Z9 (hot e)];exact hb.frzs b o u e
 ·obtain⟨more,q2⟩:=hb.tbls b ps e;exact⟨more,by rw[Z9 (hot e)];exact q2⟩
 ·intro b u e;by_cases hbD:b=s.heap.objs.size
  ·subst hbD;rw[Z5]at e;cases e;exact⟨hz,its,n,hv,same neD eD⟩
  ·rw[Z9 hbD]at e;have nD':∀{c:Addr}{w:HO},H' c=some w→c≠s.heap.objs.size:=fun q z=>by
    rw[z]at q;have z2:H' s.heap.objs.size=none:=nD;rw[z2]at q;cases q
   refine(I'.hok b u e).stay (fun c v hc q=>same ?_ q) (fun c q=>by rw[Z9 (nD' q)];exact q) fun c xs q=>by rw[Z9 (nD' q)];exact q
   rintro rfl
   rcases hc with z | z
   ·rw[←z,fC]at e;cases e
   ·rw[fC]at z;cases z
 ·obtain⟨_,f1,_,f3,f4,f5⟩:=hf b hb';exact⟨f3,f1,f4,f5⟩
theorem iV{prog:Program}{w:World}{A:Around}{E:Value→Shared→Prop}{s:Shared}{l:Addr}{its:List Value}{n:Nat}{u:Value}{Q:Value→Shared→Prop}(e:s.heap.get? l=some (lo its n))(hz:its.length≤sizeLine)(h:Q .none {s with heap:=s.heap.update l (Obj.mapSeq (·.push u))}):wpAny (model prog w) A (call (.builtin "list.append") [.ref l,u]) Q E s:=
 call_meets F.slot_list_append ⟨_,e,rfl⟩ F.entry_list_append (F.args_list_append_2 _ _) (PySem.list_append l its.toArray n u (by rw[xh];omega)) ⟨e,h⟩
theorem Po{tg iter elt:Expr}{ifs:List Expr}{pos pos0:Pos}{wi:TI}{g:TG}{tt:TT}{te:TE}{use:Option (Value→Sem Unit)}{Qp:Value→Shared→Prop}{Pc:Cx→Prop}(hpc:∀cl C s H fp,Pc (cxC X own scope cl C s H fp))(O:CompOk X own scope)(hi:PIP Pc X tg iter wi)(hg:∀cl C s H fp,PG (cxC X own scope cl C s H fp) tg g)(ht:∀cl C s H fp,PTs (cxC X own scope cl C s H fp) ifs tt)(he:∀cl C s H fp,PE (cxC X own scope cl C s H fp) elt te)(hs:∀x,foldedSetIterable iter X.env x=pure x){or:List (Addr×Obj)}{s:Shared}{σ:St}{H:Hp}{Q:VK}(I:Inv X or σ H s)(h:gN wi g tt te own.length σ H Q)(fin:∀(s2:Shared) (H2:Hp) (fp:List Addr) (C:Addr) (cl:List (Str×Addr)) (its:List Value) (nn:Nat) (σ':St) (H':Hp) (s5:Shared) (ys:List V),Inv X or σ H2 s2→(∀b∈fp,cw X or H2 b)→s2.heap.objs.size<C→
   Inv (cxC X own scope cl C s2 H2 fp) (or++[(s2.heap.objs.size,lo its nn)]) σ' H' s5→Vals ys its→ys.length≤sizeLine→(∀p,H' p=none→Q (.ref p) (upd H' p (.lst ys)))→
   compPost (model X.prog X.w) X.A X.xe use Qp (.ref s2.heap.objs.size) C (.ok .next) s5):
  wpAny (model X.prog X.w) X.A (comprehension (.ListComp elt [⟨tg,iter,ifs,0⟩] scope pos) scope X.env pos0 (newList []) false (eval iter X.env) use) Qp X.xe s:=by
 refine wpAny_comprehension_free (use:=use) rfl hs (Ua (O.cells I.ok)) O.kind O.names (thn (hi or s σ H _ I h) fun v s1 h1=>thn h1 fun itv s2 h2=>?_);obtain⟨it,fp,tn,J,H2,rfl,I2,T,st2,f2,W,⟨m0,w0⟩,turn⟩:=h2;refine wpAny_newObj_type (wpAny_newFunctionEnv O.cell (by intro y hy;simp at hy) (fun h₁ hns₁ hsb₁=>?_) O.kind);dsimp only at hns₁ hsb₁ ⊢;generalize hH2:s2.heap.push {cls:=.type "list",dict:=none,data:=.seq ([]:List Value).toArray}=Hh at hns₁ hsb₁ ⊢;have hCs:Hh.objs.size=s2.heap.objs.size+1:=by rw[←hH2,yA]
 have hC:s2.heap.objs.size<Hh.objs.size:=by rw[hCs];exact zS _
 have old:∀b o,s2.heap.get? b=some o→h₁.get? b=some o:=fun b o e=>hsb₁.extBut b o (wS (yu (wE e) hC)) (az _ (hH2 ▸ az _ e));have hacc:h₁.get? s2.heap.objs.size=some (lo [] 0):=hsb₁.extBut _ _ (wS hC) (az _ (hH2 ▸ wD _ rfl));have hob:∀b∈fp,∃o,s2.heap.get? b=some o:=fun b hb=>let ⟨o,e,_⟩:=T.obj _ _ st2 b hb;⟨o,e⟩
 have st3:tn 0 h₁:=T.keep _ _ _ st2 fun b _ o e=>old b o e;have pinlt:∀p∈X.pn++or,p.1<s2.heap.objs.size:=fun p hp=>wE (I2.pin p hp).1;have loop:∀s₃:Shared,s₃={s2 with heap:=h₁,toks:=s2.toks+([]:List (Str×Value)).length}→
   codeAny (model X.prog X.w) X.A (.compLoop (.ListComp elt [⟨tg,iter,ifs,0⟩] scope pos) 0 (.ref it) (.ref s2.heap.objs.size) (compEnvC scope (aJ X.env scope.names) Hh.objs.size X.env))
    (compPost (model X.prog X.w) X.A X.xe use Qp (.ref s2.heap.objs.size) Hh.objs.size) s₃:=by
  rintro s₃ rfl;have I3:=mN (tk:=s2.toks+([]:List (Str×Value)).length) O I2 f2 hob hC hacc old hns₁;have stat:∀{o:Obj}{H':Hp},(∀b∈fp,H' b=none)→∀b∈fp,cw (cxC X own scope (aJ X.env scope.names) Hh.objs.size s2 H2 fp) (or++[(s2.heap.objs.size,o)]) H' b:=fun{o H'} hn b hb=>by
   obtain⟨o',eo⟩:=hob b hb;refine⟨hn b hb,wS (yu (wE eo) hC),iB I2 (f2 b hb).2.1 (f2 b hb).2.2.1,.inl hb,fun x c e=>(f2 b hb).2.2.2.2.1 x c (O.sub I2.ok x c e),fun p hp=>?_⟩;have hp:p∈X.pn++(or++[(s2.heap.objs.size,o)]):=hp;rw[←xw]at hp
   rcases wY.mp hp with hp | hp
   ·exact(f2 b hb).2.2.2.2.2 p hp
   ·cases wR.mp hp;exact x4 (wE eo)
  refine fQ (fun n s'=>∃i ys its nn σ' H',Inv (cxC X own scope (aJ X.env scope.names) Hh.objs.size s2 H2 fp) (or++[(s2.heap.objs.size,lo its nn)]) σ' H' s'∧Wk σ' (List.replicate own.length none++σ)∧tn i s'.heap∧(∀b∈fp,H' b=none)∧Vals ys its∧W i n ys H')
   ?_ m0 ⟨0,[],[],0,_,H2,I3,Wk.refl _,st3,fun b hb=>(f2 b hb).1,.nil,w0⟩
  rintro n s4 ⟨i,ys,its,nn,σ4,H4,I4',wk4,st4,fr4,vs4,w4⟩;have I4:=I4'.weak (σ':=List.replicate own.length none++σ) wk4.len (fun i v=>wk4.get i v)
  rcases turn i n ys H4 w4 with⟨stop,hz,qn⟩|⟨go,hz,step⟩
  ·refine thn (T.done (cxC X own scope (aJ X.env scope.names) Hh.objs.size s2 H2 fp) rfl rfl rfl (hpc _ _ _ _ _) i _ s4 _ H4 (fun _ _=>False) I4 (stat fr4) st4 stop) fun r s5 z8=>?_;obtain⟨hr,I5⟩:=z8;subst hr;exact fin s2 H2 fp Hh.objs.size _ its nn _ H4 s5 ys I2 f2 hC I5 vs4 hz qn
  ·refine thn (T.item (cxC X own scope (aJ X.env scope.names) Hh.objs.size s2 H2 fp) rfl rfl rfl (hpc _ _ _ _ _) i _ s4 _ H4 (fun _ _=>False) I4 (stat fr4) st4 go) fun r s5 z8=>?_;obtain⟨u,hr,h5⟩:=z8;subst hr;refine thn h5 fun _ s6 z8=>?_;obtain⟨x,H6,I6,r6,y6,st6,fr6⟩:=z8;have I6':=I6.pinned (stat fr6) (T.obj _ _ st6);refine thn (hg _ _ _ _ _ _ s6 _ H6 x u _ I6' r6 (step x H6 y6)) fun _ s7 z8=>?_;obtain⟨σ7,H7,I7,wk7,q7⟩:=z8;refine thn (ht _ _ _ _ _ _ s7 σ7 H7 _ I7 q7) fun ok s8 z8=>?_;obtain⟨H8,I8,q8⟩:=z8;have again:∀{σ9:St}{H9:Hp}{s9:Shared},Inv (cxC X own scope (aJ X.env scope.names) Hh.objs.size s2 H2 fp) ((or++[(s2.heap.objs.size,lo its nn)])++dU fp s6.heap) σ9 H9 s9→tn (i+1) s9.heap∧∀b∈fp,H9 b=none:=fun{σ9 H9 s9} I9=>
    ⟨T.keep _ _ _ st6 fun b hb o e=>(I9.pin (b,o) (wP _ (wP _ (V0 hb e)))).1,fun b hb=>by
     obtain⟨o,e,d⟩:=T.obj _ _ st6 b hb;exact(I9.pin (b,o) (wP _ (wP _ (V0 hb e)))).2.1⟩
   cases ok with
   |false=>
    rw[wK wJ]at q8⊢;obtain⟨m',hm,w8⟩:=q8;obtain⟨a1,a2⟩:=again I8;exact⟨m',hm,i+1,ys,its,nn,σ7,H8,I8.unpinned,wk7,a1,a2,vs4,w8⟩
   |true=>
    rw[wM rfl]at q8⊢;refine thn (he _ _ _ _ _ _ s8 σ7 H8 _ I8 q8) fun yv s9 z8=>?_;obtain⟨y,H9,I9,r9,m',hm,w9⟩:=z8;obtain⟨a1,a2⟩:=again I9;obtain⟨eD,nD,neD,nfD,_⟩:=I9.pin (s2.heap.objs.size,lo its nn) (wP _ (xv _ (wP _ xf)));have Al:=vs4.length;refine iV eD (by omega) ?_;have upd9:=PySem.IsL.update (l:=s2.heap.objs.size) eD (·.push yv);have uother:∀b o,b≠s2.heap.objs.size→s9.heap.get? b=some o→(s9.heap.update s2.heap.objs.size (Obj.mapSeq (·.push yv))).get? b=some o:=fun b o hb e=>(zq s9.heap (Obj.mapSeq (·.push yv)) (Ne.symm hb)).trans e;have I9a:Inv (cxC X own scope (aJ X.env scope.names) Hh.objs.size s2 H2 fp) or σ7 H9 s9:=I9.unpinned.unpinned;have I9b:Inv (cxC X own scope (aJ X.env scope.names) Hh.objs.size s2 H2 fp) or σ7 H9 {s9 with heap:=s9.heap.update s2.heap.objs.size (Obj.mapSeq (·.push yv))}:=
     I9a.turned (t':=s9.toks) uother nD neD (.inr (pi _)) (fun x c e z=>by
      obtain⟨v,o,hoc,_⟩:=I2.cell x c (O.sub I2.ok x c e);exact absurd z (wS (wE hoc))) fun p hp=>wS (pinlt p hp)
    have e2:(its.toArray.push yv)=(its++[yv]).toArray:=by simp
    have upd9':∃n2,(s9.heap.update s2.heap.objs.size (Obj.mapSeq (·.push yv))).get? s2.heap.objs.size=some (lo (its++[yv]) n2):=⟨_,by rw[upd9,e2]⟩;obtain⟨n2,upd9'⟩:=upd9';have I9c:=I9b.pins_of (pins':=or++[(s2.heap.objs.size,lo (its++[yv]) n2)]) fun p hp=>by
     rcases wY.mp hp with hp | hp
     ·exact I9b.pin p (wP _ hp)
     ·cases wR.mp hp;exact⟨upd9',nD,neD,nfD,fun v z=>by cases z⟩
    refine⟨m',hm,i+1,ys++[y],its++[yv],n2,σ7,H9,I9c,wk7,T.keep _ _ _ a1 fun b hb o e=>uother b o ?_ e,a2,vs4.append (.cons r9 .nil),w9⟩;obtain⟨o',eo⟩:=hob b hb;exact wS (wE eo)
 exact codeAny_compStart_list (loop _ rfl) (T.self _ 0 _ _ _ st3 (loop _ rfl))
theorem pe_compP{Pc:Cx→Prop}{tg iter elt:Expr}{ifs:List Expr}{pos:Pos}{wi:TI}{g:TG}{tt:TT}{te:TE}(hpc:∀cl C s H fp,Pc (cxC X own scope cl C s H fp))(O:CompOk X own scope)(hi:PIP Pc X tg iter wi)(hg:∀cl C s H fp,PG (cxC X own scope cl C s H fp) tg g)(ht:∀cl C s H fp,PTs (cxC X own scope cl C s H fp) ifs tt)(he:∀cl C s H fp,PE (cxC X own scope cl C s H fp) elt te)(hs:∀x,foldedSetIterable iter X.env x=pure x:=by intro _;rfl):
  PE X (.ListComp elt [⟨tg,iter,ifs,0⟩] scope pos) (gN wi g tt te own.length):=by
 intro or s σ H Q I h;rw[eval_ListComp];refine Po hpc O hi hg ht he hs I h fun s2 H2 fp C cl its nn σ' H' s5 ys I2 f2 hC I5 vs hz qn=>?_;obtain⟨mm,hnm,_⟩:=I5.loc;exact⟨mm,hnm,fun h' hs'=>⟨.ref s2.heap.objs.size,_,Pn I2 f2 hC I5 vs hz hs',rfl,qn _ (I5.pin (s2.heap.objs.size,lo its nn) (wP _ (wP _ xf))).2.1⟩⟩
theorem Yo{tg iter elt:Expr}{ifs:List Expr}{pos:Pos}{wi:TI}{g:TG}{tt:TT}{te:TE}(O:CompOk X own scope)(hi:PI X tg iter wi)(hg:∀cl C s H fp,PG (cxC X own scope cl C s H fp) tg g)(ht:∀cl C s H fp,PTs (cxC X own scope cl C s H fp) ifs tt)(he:∀cl C s H fp,PE (cxC X own scope cl C s H fp) elt te)(hs:∀x,foldedSetIterable iter X.env x=pure x:=by intro _;rfl)(hc:X.calm=true:=by rfl):
  PE X (.ListComp elt [⟨tg,iter,ifs,0⟩] scope pos) (gN wi g tt te own.length):=
 pe_compP (Pc:=fun X=>X.calm=true) (fun _ _ _ _ _=>hc) O hi.p hg ht he hs
theorem ps_setCP{Pc:Cx→Prop}{i:Nat}{x:Str}{tg iter elt:Expr}{ifs:List Expr}{pos pos' cpos:Pos}{wi:TI}{g:TG}{tt:TT}{te:TE}(hN:X.N.Nodup)(hix:X.N[i]?=some x)(hl:X.env.scope.names.lookup x=some .local)(hpc:∀cl C s H fp,Pc (cxC X own scope cl C s H fp))(O:CompOk X own scope)(hi:PIP Pc X tg iter wi)(hg:∀cl C s H fp,PG (cxC X own scope cl C s H fp) tg g)(ht:∀cl C s H fp,PTs (cxC X own scope cl C s H fp) ifs tt)(he:∀cl C s H fp,PE (cxC X own scope cl C s H fp) elt te)(hs:∀x,foldedSetIterable iter X.env x=pure x:=by intro _;rfl)(hsw:swapsWith (.ListComp elt [⟨tg,iter,ifs,0⟩] scope cpos) (some (.Name x pos')) pos.line X.env=pure true:=by rfl):
  PS X (.Assign [.Name x pos'] (.ListComp elt [⟨tg,iter,ifs,0⟩] scope cpos) pos) (pK (gN wi g tt te own.length) (gB i)):=by
 intro or s σ H D I h;rw[exec_Assign_Name_used _ _ _ _ hsw];refine ae (wpAny_standAt (ae (m:=evalThenUse _ X.env _) ?_));show wpAny _ _ (comprehension (.ListComp elt [⟨tg,iter,ifs,0⟩] scope cpos) scope X.env _ (newList []) false (eval iter X.env) (some (assign (.Name x pos') X.env)) >>= fun _=>_) _ _ s;refine ae (thn (Po (Qp:=fun _ s'=>SP X or D .next s') hpc O hi hg ht he hs I h fun s2 H2 fp C cl its nn σ' H' s5 ys I2 f2 hC I5 vs hz qn=>?_) fun _ s' hq=>io (io hq));have Ix:Inv X or σ (upd H' s2.heap.objs.size (.lst ys)) s5:=Pn I2 f2 hC I5 vs hz (Heap.SameBut.refl _ _);obtain⟨mm,hnm,_⟩:=I5.loc;have fC:H' C=none:=I5.free;have nCD:C≠s2.heap.objs.size:=x4 hC;refine wpAny_assign_Name (P6 (v:=.ref s2.heap.objs.size) Ix hN hix (.inl hl) rfl (fun s6 I6 sb=>?_) (.inr hl));obtain⟨a,sb,ha⟩:=sb;have nLC:X.env.locals≠C:=wS (yu I2.lt hC);have cC:∀y c,X.env.cells.lookup y=some c→c≠C:=fun y c e=>by
  obtain⟨v,o,ho,_⟩:=I2.cell y c e;exact wS (yu (wE ho) hC)
 have naC:C≠a:=by
  rcases ha with rfl | ha
  ·exact Ne.symm nLC
  ·exact Ne.symm (cC x a ha)
 refine⟨mm,hnm.sameBut sb naC,fun h' hs'=>⟨_,_,I6.turned (t':=s6.toks) (fun b o hb e=>(hs'.2 b hb).trans e) (by rw[Z9 nCD];exact fC) (Ne.symm nLC) (.inr (x3 I2.sz (ye hC))) cC (fun p hp=>wS (yu (wE (I2.pin p hp).1) hC)),qn _ (I5.pin (s2.heap.objs.size,lo its nn) (wP _ (wP _ xf))).2.1⟩⟩
theorem j6{i:Nat}{x:Str}{tg iter elt:Expr}{ifs:List Expr}{pos pos' cpos:Pos}{wi:TI}{g:TG}{tt:TT}{te:TE}(hN:X.N.Nodup)(hix:X.N[i]?=some x)(hl:X.env.scope.names.lookup x=some .local)(O:CompOk X own scope)(hi:PI X tg iter wi)(hg:∀cl C s H fp,PG (cxC X own scope cl C s H fp) tg g)(ht:∀cl C s H fp,PTs (cxC X own scope cl C s H fp) ifs tt)(he:∀cl C s H fp,PE (cxC X own scope cl C s H fp) elt te)(hs:∀x,foldedSetIterable iter X.env x=pure x:=by intro _;rfl)(hsw:swapsWith (.ListComp elt [⟨tg,iter,ifs,0⟩] scope cpos) (some (.Name x pos')) pos.line X.env=pure true:=by rfl)(hc:X.calm=true:=by rfl):
  PS X (.Assign [.Name x pos'] (.ListComp elt [⟨tg,iter,ifs,0⟩] scope cpos) pos) (pK (gN wi g tt te own.length) (gB i)):=
 ps_setCP (Pc:=fun X=>X.calm=true) hN hix hl (fun _ _ _ _ _=>hc) O hi.p hg ht he hs hsw
end
section
variable{X:Cx}{pos:Pos}
theorem Vw(K:W.Frag)(n:Nat){es:List Expr}{k:Nat}{t:TGs}(hK:X.K=K)(hc:X.calm=true)(h:PGs X es t)(hn:(assignEach es X.env).length=n:=by rfl)(hst:(assignEach es X.env).findIdx? (·.1)=none:=by rfl):PG X (.Tuple es k pos) (vN K n t):=by
 subst hK;exact X9 hc h hn hst
theorem sg(K:W.Frag)(hK:X.K=K):IxR X (vz K):=by subst hK;exact Yv
end
mutual
inductive DV(H:Hp):V→PyData→Prop
 |non:DV H .non .none
 |bl (b:Bool):DV H (.bl b) (.bool b)
 |int (i:Int):DV H (.int i) (.int i)
 |str (x:Str):DV H (.str x) (.str x)
 |lst {a:Addr} {xs:List V} {ds:List PyData}:H a=some (.lst xs)→DVs H xs ds→DV H (.ref a) (.list ds)
 |tup {a:Addr} {xs:List V} {ds:List PyData}:H a=some (.tup xs)→DVs H xs ds→DV H (.ref a) (.tuple ds)
inductive DVs(H:Hp):List V→List PyData→Prop
 |nil:DVs H [] []
 |cons {v:V} {vs:List V} {d:PyData} {ds:List PyData}:DV H v d→DVs H vs ds→DVs H (v::vs) (d::ds)
end
mutual
theorem DV.mono{H H':Hp}(g:Same H H'):∀{v:V}{d:PyData},DV H v d→DV H' v d
 |_,_,.non=>.non
 |_,_,.bl b=>.bl b
 |_,_,.int i=>.int i
 |_,_,.str x=>.str x
 |_,_,.lst e r=>.lst (g _ _ e) (DVs.mono g r)
 |_,_,.tup e r=>.tup (g _ _ e) (DVs.mono g r)
theorem DVs.mono{H H':Hp}(g:Same H H'):∀{vs:List V}{ds:List PyData},DVs H vs ds→DVs H' vs ds
 |_,_,.nil=>.nil
 |_,_,.cons h r=>.cons (DV.mono g h) (DVs.mono g r)
end
theorem DVs.length{H:Hp}:∀{vs:List V}{ds:List PyData},DVs H vs ds→vs.length=ds.length
 |_,_,.nil=>rfl
 |_,_,.cons _ r=>yy (·+1) r.length
theorem DVs.append{H:Hp}:∀{vs ws:List V}{ds es:List PyData},DVs H vs ds→DVs H ws es→DVs H (vs++ws) (ds++es)
 |_,_,_,_,.nil,s=>s
 |_,_,_,_,.cons h r,s=>.cons h (DVs.append r s)
theorem DVs.getV{H:Hp}:∀{vs:List V}{ds:List PyData}{i:Nat}{v:V},DVs H vs ds→vs[i]?=some v→∃d,ds[i]?=some d∧DV H v d
 |_,_,_,_,.nil,e=>by simp at e
 |_,_,0,_,.cons h _,e=>by simp at e;subst e;exact⟨_,rfl,h⟩
 |_,_,i+1,d,.cons _ r,e=>by
  obtain⟨v,h1,h2⟩:=DVs.getV (i:=i) (v:=d) r (by simpa using e);exact⟨v,by simpa using h1,h2⟩
section
variable{X:Cx}{or:List (Addr×Obj)}{σ:St}{H:Hp}{s:Shared}
mutual
theorem DV.reads(I:Inv X or σ H s):∀{v:V}{d:PyData}{u:Value},DV H v d→RelV v u→∃as,Reads s.heap u d as
 |_,_,_,.non,r=>by cases r;exact⟨_,Reads.none⟩
 |_,_,_,.bl b,r=>by cases r;exact⟨_,Reads.bool b⟩
 |_,_,_,.int i,r=>by obtain⟨t,rfl⟩:=r;exact⟨_,Reads.int i t⟩
 |_,_,_,.str x,r=>by obtain⟨t,rfl⟩:=r;exact⟨_,Reads.str x t⟩
 |_,_,_,.lst e q,r=>by
  cases r;obtain⟨its,n,rv,ho,_⟩:=I.lst e;obtain⟨as,p⟩:=DVs.reads I q rv;exact⟨_,reads_list_at ho rfl rfl (by simpa using p)⟩
 |_,_,_,.tup e q,r=>by
  cases r;obtain⟨its,rv,⟨o,ho,hc,n,hd⟩,_⟩:=I.tuple (SqT.of e);obtain⟨as,p⟩:=DVs.reads I q rv;exact⟨_,reads_tuple_at ho hc hd (by simpa using p)⟩
theorem DVs.reads(I:Inv X or σ H s):∀{vs:List V}{ds:List PyData}{us:List Value},DVs H vs ds→Vals vs us→∃as,ReadsAll s.heap us ds as
 |_,_,_,.nil,r=>by cases r;exact⟨_,ReadsAll.nil⟩
 |_,_,_,.cons h t,r=>by
  cases r with
  |cons r1 r2=>
   obtain⟨as,p⟩:=DV.reads I h r1;obtain⟨bs,q⟩:=DVs.reads I t r2;exact⟨_,ReadsAll.cons p q⟩
end
end
def rEqD:R2:=fun x y H Q=>∃d e,DV H x d∧DV H y e∧SeqAt.shaped d=true∧SeqAt.shaped e=true∧Q (.bl (PyData.eqv d e)) H
def rNeD:R2:=fun x y H Q=>∃d e,DV H x d∧DV H y e∧SeqAt.shaped d=true∧SeqAt.shaped e=true∧Q (.bl (!PyData.eqv d e)) H
section
variable{X:Cx}
theorem oJ(hu:X.A.units+64<cLine):OpR X (compareOp .Eq) rEqD:=by
 intro or s σ H x y v u Q I rx ry h;obtain⟨d,e,h1,h2,s1,s2,q⟩:=h;obtain⟨as,p1⟩:=h1.reads I rx;obtain⟨bs,p2⟩:=h2.reads I ry;exact eq_dataH p1 p2 s1 s2 hu ⟨.bl _,H,I,rfl,q⟩
theorem tP(hu:X.A.units+64<cLine):OpR X (compareOp .NotEq) rNeD:=by
 intro or s σ H x y v u Q I rx ry h;obtain⟨d,e,h1,h2,s1,s2,q⟩:=h;obtain⟨as,p1⟩:=h1.reads I rx;obtain⟨bs,p2⟩:=h2.reads I ry;exact ne_dataH p1 p2 s1 s2 hu ⟨.bl _,H,I,rfl,q⟩
def rIs(K:W.Frag):List V→Hp→VK→Prop:=fun xs H Q=>∃x t T b,xs=[x,.ty T]∧TyOf K H x t∧W.kitOne K t (.type T)=some b∧Q (.bl b) H
theorem Xi:aV X (.builtin "isinstance") (rIs X.K):=by
 intro or s σ H xs us Q I r h;obtain⟨x,t,T,b,rfl,ty,e,q⟩:=h;obtain⟨u,w',rfl,ru,rt⟩:=oX r;cases (show w'=Value.type T from rt);exact mn I ru ty e fun tk=>⟨.bl b,H,I.tok _,rfl,q⟩
def uI:V→List V→Hp→VK→Prop:=fun x vs H Q=>∃z y ps,x=.str z∧vs=[.str y]∧(decide (z.length<y.length) || decide (Builtin.Str.strKind z<Builtin.Str.strKind y))=false∧(y.length==0)=false∧
 (Builtin.Str.occurrences z y 0 z.length (z.length+1)).isEmpty=false∧z.length≤sizeLine∧Builtin.Str.partsBetween z (Builtin.Str.occurrences z y 0 z.length (z.length+1)) y.length=ps∧ps.length≤sizeLine∧∀l,H l=none→Q (.ref l) (upd H l (.lst (ps.map V.str)))
theorem P5:∀(ps:List Str)(k:Nat),Vals (ps.map V.str) (strsFrom k ps)
 | [],_=>.nil
 |p::ps,k=>.cons ⟨_,rfl⟩ (P5 ps _)
theorem ow:MtR X "str.split" uI:=by
 intro or s σ H x vs v us Q I rx rv h;obtain⟨z,y,ps,rfl,rfl,h1,h2,h3,h4,rfl,h5,q⟩:=h;obtain⟨t,rfl⟩:=rx;obtain⟨u,rfl,t',rfl⟩:=Xx rv;refine call_meets F.slot_str_split (typeIs_str s z t) F.entry_str_split (F.args_str_split_2 _ _) (meets_str_split_sep z y t t' h1 h2 h3 h4 h5) ?_;refine⟨.ref s.heap.objs.size,_,I.laid (o:=.lst (_:List V)) (fun b ob q=>az _ q) (pi _) ⟨?_,_,0,P5 _ _,wD _ rfl⟩,rfl,q _ (I.hok.fresh (pi _))⟩;rw[aq];exact h5
end
structure Has(P:Program)(w:World)(K:W.Frag)(mg:Str→Option Value)(base:Heap)(x:Str)(k:Nat)(ps:List Str)(sp:Sp):Prop where
 ex:∃f fd,FnOk P w K mg base CX0 k f fd ps sp∧Binds K fd ps []∧W.keepIn K (.ref f)=true∧mg x=some (.ref f)
section
variable{X:Cx}{j k:Nat}{ps:List Str}{sp:Sp}{x:Str}{p pos:Pos}{e:Expr}{es:List Expr}{t:TA}
theorem Z4(h:Has X.prog X.w X.K X.mg X.base x j ps sp)(hr:Room k X.A)(ha:PA X (e::es) t)(hg:Gl X x:=by rfl)(hj:j≤k:=by first | decide | omega)(hdb:(x==("__debug__":Str))=false:=by decide)(he:starEach (e::es) X.env=(false,eval e X.env)::starEach es X.env:=by rfl)(hpl:(backTo pos (starEach es X.env)).any (·.1)=false:=by rfl):
  PE X (.Call (.Name x p) (e::es) [] pos) (sx sp [] E0 t):=by
 intro or s σ H Q I q;obtain⟨f,fd,F,b,kp,m⟩:=h.ex;refine rR (CX:=CX0) (E:=E0) (dvs:=[]) (F.mono hj) hr hg m kp b .nil ?_ ha hdb he hpl or s σ H Q I q;exact fun _ _ _ _ _ _ _ z=>z.elim
end
def am(a:Addr)(H:Hp):Hp:=fun b=>if b=a then none else H b
theorem S1{a:Addr}{H:Hp}:am a H a=none:=by unfold am;rw[wM rfl]
theorem Ze{a b:Addr}{H:Hp}(h:b≠a):am a H b=H b:=by unfold am;rw[wK h]
theorem Zb{a b:Addr}{H:Hp}{o:HO}(h:am a H b=some o):b≠a∧H b=some o:=by
 unfold am at h;by_cases e:b=a
 ·rw[wM e]at h;cases h
 ·rw[wK e]at h;exact⟨e,h⟩
theorem Yd{a:Addr}{H:Hp}:Same (am a H) H:=fun _ _ h=>(Zb h).2
theorem Zc{H:Hp}{p:Addr}(h:H p=none)(o:HO):Same H (upd H p o):=fun b u q=>by rw[Z9 (Zh q h)];exact q
abbrev Grw(a:Addr)(H H':Hp):Prop:=Same (am a H) (am a H')
theorem Vj{a:Addr}{H H':Hp}{o:HO}(ha:H a=some o)(g:Same H H'):Grw a H H':=fun b u q=>by
 obtain⟨h1,h2⟩:=Zb q;rw[Ze h1];exact g b u h2
theorem Xh{a:Addr}{H:Hp}{o:HO}:Grw a H (upd H a o):=fun b u q=>by
 obtain⟨h1,h2⟩:=Zb q;rw[Ze h1,Z9 h1];exact h2
theorem Yr{a p:Addr}{H:Hp}{o:HO}(h:H p=none):Grw a H (upd H p o):=fun b u q=>by
 obtain⟨h1,h2⟩:=Zb q;rw[Ze h1,Z9 (Zh h2 h)];exact h2
def PenAt(H:Hp)(a:Addr):Prop:=∃p q r:Int,H a=some (.lst [.int p,.int q,.int r])
theorem PenAt.same{H H':Hp}{a:Addr}(h:PenAt H a)(g:Same H H'):PenAt H' a:=by
 obtain⟨p,q,r,e⟩:=h;exact⟨p,q,r,g _ _ e⟩
theorem PenAt.laid{H:Hp}{a p:Addr}{o:HO}(h:PenAt H a)(hp:H p=none):PenAt (upd H p o) a:=h.same (Zc hp o)
theorem PenAt.ne{H:Hp}{a p:Addr}(h:PenAt H a)(hp:H p=none):p≠a:=by
 obtain⟨x,y,z,e⟩:=h;exact fun q=>by rw[q,e]at hp;cases hp
theorem W4{j:Int}(h:decide (0<j)=true):0<j:=wU h
theorem ltI{i j:Int}(h:decide (i<j)=true):i<j:=wU h
theorem leN{i j:Nat}(h:decide (i≤j)=true):i≤j:=wU h
theorem sA{i j:Int}(h1:decide (0<j)=true)(h2:decide (j<1073741824)=true):vj i j:=⟨wU h1,wU h2⟩
theorem gU{i j:Int}(h1:decide (0≤j)=true)(h2:decide (j≤1000000)=true)(h3:decide (i.natAbs<2^64)=true):ud i j:=⟨wU h1,wU h2,wU h3⟩
theorem kQ{i j:Int}(h1:decide (-(2^64)<i)=true)(h2:decide (i<2^64)=true):CMul i j:=Or.inl ⟨wU h1,wU h2⟩
theorem mulR{i j:Int}(h1:decide (-(2^64)<j)=true)(h2:decide (j<2^64)=true):CMul i j:=Or.inr ⟨wU h1,wU h2⟩
theorem wk(x m y:Int)(h0:decide (0<m)=true)(h1:decide (m<4294967296)=true):CMul (x % m) y:=by
 have h0:=wU h0;have h1:=wU h1;exact Or.inl ⟨by have:=zY x (show m≠0 by omega);omega,by have:=zv x h0;omega⟩
theorem nG(a b c:V):atI [a,b,c] 0=some a:=rfl
theorem sK(a b c:V):atI [a,b,c] 1=some b:=rfl
theorem kh(a b c:V):atI [a,b,c] 2=some c:=rfl
theorem N2{α:Type}{xs:List α}{i:Int}(h0:0≤i)(h1:i<xs.length):∃v,atI xs i=some v∧v∈xs:=by
 have hi:i.toNat<xs.length:=by omega
 have e:((i.toNat:Nat):Int)=i:=by omega
 refine⟨xs[i.toNat],?_,List.getElem_mem hi⟩;have q:=N1 (xs:=xs) (j:=i.toNat) (v:=xs[i.toNat]) (xj hi);rw[e]at q;exact q
theorem at3{x y z:V}{d:Int}(h0:0≤d)(h1:d<3):∃v,atI [x,y,z] d=some v∧(v=x∨v=y∨v=z):=by
 obtain⟨v,h,m⟩:=N2 (xs:=[x,y,z]) h0 h1;exact⟨v,h,by simpa using m⟩
theorem Sk{a b:Addr}{H H':Hp}{o:HO}(g:Grw a H H')(hb:b≠a)(h:H b=some o):H' b=some o:=by
 have q:=g b o (by rw[Ze hb];exact h);exact(Zb q).2
theorem Zf{n:Nat}(h:n≤1000000):n≤sizeLine:=x3 h (by decide)
theorem Zk{n:Nat}(h:n<1000000):n<sizeLine:=xk h (by decide)
theorem iI{lo:Int}{n k:Nat}{g:TG}{tt:TT}{te:TE}{σ:St}{H:Hp}{Q:VK}(Pv:Nat→List V→Hp→Prop)(h0:Pv 0 [] H)(hs:∀i ys H (C:List V→Hp→Prop),i<n→Pv i ys H→(∀ys' H',Pv (i+1) ys' H'→C ys' H')→ys.length<sizeLine∧g (.int (lo+i)) (List.replicate k none++σ) H fun σ2 H2=>Wk σ2 (List.replicate k none++σ)∧tt σ2 H2 fun ok H3=>
   if ok=true then te σ2 H3 fun y H4=>C (ys++[y]) H4 else C ys H3)(hd:∀ys H,Pv n ys H→ys.length≤sizeLine∧∀p,H p=none→Q (.ref p) (upd H p (.lst ys))):
  CompR (Itr lo n) H k g tt te σ Q:=by
 refine⟨fun i m ys H=>m=n-i∧i≤n∧Pv i ys H,⟨n,by simp,Nat.zero_le _,h0⟩,?_⟩;rintro i m ys H ⟨rfl,hi,p⟩;by_cases Ac:i<n
 ·have q:=hs i ys H (fun ys' H'=>∃m',m'<n-i∧m'=n-(i+1)∧i+1≤n∧Pv (i+1) ys' H') Ac p fun ys' H' p'=>⟨_,by omega,rfl,Ac,p'⟩;refine .inr ⟨Ac,q.1,fun x H' y=>?_⟩;obtain⟨e,y⟩:=y;subst e y;exact q.2
 ·have e:i=n:=by omega
  subst e;exact .inl ⟨pi _,hd ys H p⟩
theorem X3{K:W.Frag}{a:Addr}{xs:List V}{k:Nat}{g:TG}{tt:TT}{te:TE}{σ:St}{H:Hp}{Q:VK}(Pv:Nat→List V→Hp→Prop)(h0:Pv 0 [] H)(hl:∀i ys H,i≤xs.length→Pv i ys H→SqL K H a xs)(hs:∀i x ys H (C:List V→Hp→Prop),xs[i]?=some x→Pv i ys H→(∀ys' H',Pv (i+1) ys' H'→C ys' H')→ys.length<sizeLine∧g x (List.replicate k none++σ) H fun σ2 H2=>Wk σ2 (List.replicate k none++σ)∧tt σ2 H2 fun ok H3=>
   if ok=true then te σ2 H3 fun y H4=>C (ys++[y]) H4 else C ys H3)(hd:∀ys H,Pv xs.length ys H→ys.length≤sizeLine∧∀p,H p=none→Q (.ref p) (upd H p (.lst ys))):
  CompR (Itl K a) H k g tt te σ Q:=by
 refine⟨fun i m ys H=>m=xs.length-i∧i≤xs.length∧Pv i ys H,⟨xs.length,by simp,Nat.zero_le _,h0⟩,?_⟩;rintro i m ys H ⟨rfl,hi,p⟩;have q:=hl i ys H hi p;by_cases Ac:i<xs.length
 ·have r:=hs i xs[i] ys H (fun ys' H'=>∃m',m'<xs.length-i∧m'=xs.length-(i+1)∧i+1≤xs.length∧Pv (i+1) ys' H') (by simp[Ac]) p fun ys' H' p'=>⟨_,by omega,rfl,Ac,p'⟩;refine .inr ⟨⟨xs,xs[i],q,by simp[Ac]⟩,r.1,fun x H' y=>?_⟩;obtain⟨e,y⟩:=y;subst e;have ex:xs[i]?=some x:=y xs q;have ex2:xs[i]=x:=by simpa [Ac] using ex
  rw[←ex2];exact r.2
 ·have e:i=xs.length:=by omega
  subst e;exact .inl ⟨⟨xs,q,pi _⟩,hd ys H p⟩
def wordA:Str:="q abcdefgh aq qa abcdefgi ea zz eaq abd abc e bcdefgh za "
def wordB:Str:="qae acb ae abcdefg z qq aea az abcd xabcd eae abce eq"
def words:List Str:=["q","abcdefgh","aq","qa","abcdefgi","ea","zz","eaq","abd","abc","e","bcdefgh","za","qae","acb","ae","abcdefg","z","qq","aea","az","abcd","xabcd","eae","abce","eq"]
theorem hZ:Builtin.Str.partsBetween (wordA++wordB) (Builtin.Str.occurrences (wordA++wordB) " " 0 (wordA++wordB).length ((wordA++wordB).length+1)) (" ":Str).length=words:=by decide +kernel
theorem uY:(decide ((wordA++wordB).length<(" ":Str).length) || decide (Builtin.Str.strKind (wordA++wordB)<Builtin.Str.strKind " "))=false:=by decide +kernel
theorem uX:(((" ":Str).length==0)=false):=by decide +kernel
theorem tY:(Builtin.Str.occurrences (wordA++wordB) " " 0 (wordA++wordB).length ((wordA++wordB).length+1)).isEmpty=false:=by decide +kernel
theorem uz:(wordA++wordB).length≤sizeLine:=by decide +kernel
theorem qP:wordA.length+wordB.length≤sizeLine:=by decide +kernel
theorem pA:∀x∈words,PyData.strOk x=true:=by decide +kernel
structure Th where
 day:Int
 word:Str
 num:Int
 many:Int
def Th.D(t:Th):PyData:=.tuple [.int t.day,.str t.word,.int t.num,.int t.many]
def Th.vs(t:Th):List V:=[.int t.day,.str t.word,.int t.num,.int t.many]
structure Th.Ok(t:Th):Prop where
 day:0≤t.day
 word:t.word∈words
 num:0≤t.num
 many:1≤t.many
 numU:t.num<1073741824
 manyU:t.many≤1000000000
theorem Th.dv{H:Hp}{r:Addr}{t:Th}(h:H r=some (.tup t.vs)):DV H (.ref r) t.D:=.tup h (.cons (.int _) (.cons (.str _) (.cons (.int _) (.cons (.int _) .nil))))
inductive Tr where
 |leaf (ts:List Th)
 |node (l r:Tr)
abbrev bF(ts:List Th):PyData:=.list (ts.map Th.D)
def Tr.D:Tr→PyData
 |.leaf ts=>bF ts
 |.node l r=>.tuple [.str "merged",l.D,r.D]
def Tr.streams:Tr→List (List Th)
 |.leaf ts=>[ts]
 |.node l r=>l.streams++r.streams
def Tr.size:Tr→Nat
 |.leaf _=>1
 |.node l r=>l.size+r.size+1
def Tr.ht:Tr→Nat
 |.leaf _=>0
 |.node l r=>max l.ht r.ht+1
def Tr.all:Tr→List Th
 |.leaf ts=>ts
 |.node l r=>l.all++r.all
def Tr.Ok:Tr→Prop
 |.leaf ts=>∀t∈ts,t.Ok
 |.node l r=>l.Ok∧r.Ok
theorem Tr.size_pos:∀t:Tr,0<t.size
 |.leaf _=>Nat.zero_lt_one
 |.node _ _=>Nat.succ_pos _
theorem Tr.all_eq:∀t:Tr,t.all=t.streams.flatten
 |.leaf ts=>by simp[Tr.all,Tr.streams]
 |.node l r=>by
  show l.all++r.all=(l.streams++r.streams).flatten;rw[List.flatten_append,all_eq l,all_eq r]
theorem Xu{d:PyData}{n:Nat}(h:d.canLay0=true∧d.depth≤n)(hn:n≤64):SeqAt.shaped d=true:=by
 unfold SeqAt.shaped;rw[h.1,zU];exact wV (x3 h.2 hn)
theorem gQ{d:PyData}{n:Nat}(h:d.canLay0=true∧d.depth≤n):PyData.eqv d d=true:=SeqAt.eqv_refl d h.1
theorem qY(ds:List PyData):PyData.eqv (.list ds) (.list [])=ds.isEmpty:=by
 cases ds <;> simp[PyData.eqv,PyData.eqvAll]
theorem DV.list_inv{H:Hp}{v:V}{ds:List PyData}(h:DV H v (.list ds)):∃a xs,v=.ref a∧H a=some (.lst xs)∧DVs H xs ds:=by
 cases h with
 |lst e r=>exact⟨_,_,rfl,e,r⟩
theorem DV.tup_inv{H:Hp}{v:V}{ds:List PyData}(h:DV H v (.tuple ds)):∃a xs,v=.ref a∧H a=some (.tup xs)∧DVs H xs ds:=by
 cases h with
 |tup e r=>exact⟨_,_,rfl,e,r⟩
theorem DVs.cons_inv{H:Hp}{vs:List V}{d:PyData}{ds:List PyData}(h:DVs H vs (d::ds)):∃x r,vs=x::r∧DV H x d∧DVs H r ds:=by
 cases h with
 |cons a b=>exact⟨_,_,rfl,a,b⟩
theorem DVs.nil_inv{H:Hp}{vs:List V}(h:DVs H vs []):vs=[]:=by
 cases h with
 |nil=>rfl
theorem DV.node_inv{H:Hp}{v:V}{l r:Tr}(h:DV H v (Tr.node l r).D):∃a m x y,v=.ref a∧H a=some (.tup [m,x,y])∧DV H x l.D∧DV H y r.D:=by
 obtain⟨a,xs,rfl,e,q⟩:=DV.tup_inv h;obtain⟨m,r1,rfl,_,q1⟩:=q.cons_inv;obtain⟨x,r2,rfl,hx,q2⟩:=q1.cons_inv;obtain⟨y,r3,rfl,hy,q3⟩:=q2.cons_inv;have:=q3.nil_inv;subst this;exact⟨a,m,x,y,rfl,e,hx,hy⟩
theorem Yj{H H':Hp}{a:Addr}{o:HO}(g:Same H H')(h:H a=none):Same H (upd H' a o):=fun b u q=>by rw[Z9 (Zh q h)];exact g b u q
theorem Has.of{P:Program}{w:World}{K:W.Frag}{mg:Str→Option Value}{base:Heap}{x:Str}{k:Nat}{ps:List Str}{sp:Sp}{f:Addr}{fd:FuncData}(F:FnOk P w K mg base CX0 k f fd ps sp)(b:Binds K fd ps [])(kp:W.keepIn K (.ref f)=true)(m:mg x=some (.ref f)):
  Has P w K mg base x k ps sp:=⟨f,fd,F,b,kp,m⟩
theorem rE{P:Program}{w:World}{K:W.Frag}{mg:Str→Option Value}{base:Heap}{k:Nat}{ps:List Str}{sp:Sp}{f:Addr}{fd:FuncData}(no:∀vs H Q E,¬sp vs H Q E):FnOk P w K mg base CX0 k f fd ps sp:=
 ⟨fun vs H Q E h=>absurd h (no vs H Q E),fun A outer s H args us vs Q E _ _ _ _ h=>absurd h (no vs H Q E)⟩
def vF(t T:String):Option Bool:=if (Value.type t==Value.type T)=true then some true else if W.kitMeta T=true then(PySem.fastBuiltinMro t).map (·.contains (.type T))else none
theorem mG{K:W.Frag}{t T:String}{b:Bool}(h:vF t T=some b):W.kitOne K (.type t) (.type T)=some b:=h
theorem uZ{K:W.Frag}:W.kitOne K (.type "list") (.type "list")=some true:=mG (by decide +kernel)
theorem uR{K:W.Frag}:W.kitOne K (.type "tuple") (.type "list")=some false:=mG (by decide +kernel)
section
variable{X:Cx}
theorem rn{ns:List Int}{us:List Value}(r:Vals (ns.map V.int) us){i:Nat}{u:Value}(h:us[i]?=some u):∃t,u=.int (ns.getD i 0) t:=IntsAre.int_at (Ru r) i u h
theorem Tg(hc:X.calm=true):aV X (.builtin "sum") (fun xs H Q=>∃(p:Addr)(ns:List Int),xs=[.ref p]∧SqL X.K H p (ns.map V.int)∧Q (.int ns.sum) H):=by
 intro or s σ H xs us Q I r h;obtain⟨p,ns,rfl,hq,q⟩:=h;obtain⟨u,rfl,ru⟩:=Xx r;cases ru;obtain⟨its,rv,pl,hz⟩:=I.list hq;have hl:=rv.length;rw[aq]at hl;have Ac:p<s.heap.objs.size:=by
  obtain⟨o,n,e,_⟩:=pl;exact wE e
 refine call_sum_walkG (wpAny_pyIter_list pl.isList ?_);have hh:X.A.in1.handled=none:=by simpa using I.ok.hd hc
 refine⟨s.heap.objs.size,_,_,_,_,_,fun i=>ns.getD i 0,rfl,Walks.list hh _ p (wS Ac) its.toArray,⟨⟨_,wD _ rfl,rfl,rfl⟩,pl.isList.push _⟩,fun b hb=>?_,fun i v hv=>?_,fun h' tk t' kp=>?_⟩
 ·rw[yA]
  rcases wX.mp hb with e | e
  ·rw[e];exact zS _
  ·rw[wR.mp e];exact yq Ac
 ·exact rn rv (by simpa using hv)
 ·have e:preSum (fun i=>ns.getD i 0) its.toArray.size=ns.sum:=by
   rw[PyProof.Rows.preSum_getD,xh,←hl,xp]
  rw[e];refine⟨.int ns.sum,H,I.kept fun b o eb=>kp b o ?_ (az _ eb),⟨_,rfl⟩,q⟩;intro hb;rw[wR.mp hb]at eb;exact absurd (wE eb) (yK _)
end
section
variable{prog:Program}{w:World}{A:Around}{R:Result→Shared→Prop}{I:Addr}{fp wr:List Addr}{n:Nat}{P:Nat→Value→Prop}{St:Nat→Heap→Prop}
end
variable{prog:Program}{w:World}{A:Around}{E:Value→Shared→Prop}{s:Shared}
section
variable{X:Cx}
end
theorem DV.th_inv{H:Hp}{v:V}{t:Th}(h:DV H v t.D):∃c,v=.ref c∧H c=some (.tup t.vs):=by
 obtain⟨c,xs,rfl,e,q⟩:=DV.tup_inv h;obtain⟨_,_,rfl,k1,q⟩:=q.cons_inv;obtain⟨_,_,rfl,k2,q⟩:=q.cons_inv;obtain⟨_,_,rfl,k3,q⟩:=q.cons_inv;obtain⟨_,_,rfl,k4,q⟩:=q.cons_inv;have:=q.nil_inv;subst this;cases k1;cases k2;cases k3;cases k4;exact⟨c,rfl,e⟩
theorem DVs.th_at{H:Hp}{xs:List V}{ts:List Th}{i:Nat}{x:V}(h:DVs H xs (ts.map Th.D))(hx:xs[i]?=some x):∃t c,ts[i]?=some t∧x=.ref c∧H c=some (.tup t.vs)∧t∈ts:=by
 obtain⟨d,hd,dv⟩:=DVs.getV h hx;rw[xi]at hd;obtain⟨t,ht,rfl⟩:=xm.mp hd;obtain⟨c,rfl,e⟩:=DV.th_inv dv;exact⟨t,c,ht,rfl,e,wZ ht⟩
theorem Zo{α:Type}{l:List α}{i:Nat}{x:α}(h:l[i]?=some x):l.take (i+1)=l.take i++[x]:=by rw[zI,h];rfl
theorem gD{K:W.Frag}{a:Addr}{xs:List V}{ts:List Th}{k:Nat}{g:TG}{tt:TT}{te:TE}{σ:St}{H:Hp}{Q:VK}(p:Th→Bool)(f:Th→V)(e:H a=some (.lst xs))(dv:DVs H xs (ts.map Th.D))(hl:ts.length≤100000)(hs:∀(t:Th) (c:Addr) (ys:List V) (C:List V→Hp→Prop),t∈ts→H c=some (.tup t.vs)→(p t=true→C (ys++[f t]) H)→(p t=false→C ys H)→g (.ref c) (List.replicate k none++σ) H fun σ2 H2=>Wk σ2 (List.replicate k none++σ)∧tt σ2 H2 fun ok H3=>
   if ok=true then te σ2 H3 fun y H4=>C (ys++[y]) H4 else C ys H3)(hd:∀q,H q=none→Q (.ref q) (upd H q (.lst ((ts.filter p).map f)))):
  CompR (Itl K a) H k g tt te σ Q:=by
 have dl:=dv.length;rw[aq]at dl;have le:∀i,(((ts.take i).filter p).map f).length≤100000:=fun i=>by
  rw[aq];have h1:=xV p (ts.take i);rw[wT]at h1;omega
 refine X3 (xs:=xs) (fun i ys H'=>H'=H∧ys=((ts.take i).filter p).map f) ⟨rfl,rfl⟩ ?_ ?_ ?_
 ·rintro i ys H' _ ⟨rfl,_⟩;exact SqL.of e
 ·rintro i x ys H' C hx ⟨rfl,rfl⟩ hC;obtain⟨t,c,ht,rfl,ec,hm⟩:=DVs.th_at dv hx;refine⟨Zk (by have:=le i;omega),hs t c _ C hm ec (fun hp=>hC _ _ ⟨rfl,?_⟩) (fun hp=>hC _ _ ⟨rfl,?_⟩)⟩
  ·rw[Zo ht,yh,wO,xC,hp];rfl
  ·rw[Zo ht,yh,xC,hp];simp
 ·rintro ys H' ⟨rfl,rfl⟩;rw[dl,xp];refine⟨Zf (by have:=le ts.length;rw[xp]at this;omega),hd⟩
section
variable{κ:Type}[DecidableEq κ]
def aX(kvs:List (κ×V))(k:κ):Option V:=(kvs.find? fun kv=>decide (kv.1=k)).map (·.2)
def bo(kvs:List (κ×V))(k:κ)(v:V):List (κ×V):=
 if (kvs.any fun kv=>decide (kv.1=k))=true then kvs.map (fun kv=>if kv.1=k then(kv.1,v)else kv)else kvs++[(k,v)]
theorem Ur{p:κ×V}{r:List (κ×V)}{k:κ}(e:p.1=k):aX (p::r) k=some p.2:=by simp[aX,List.find?_cons,e]
theorem Us{p:κ×V}{r:List (κ×V)}{k:κ}(e:¬p.1=k):aX (p::r) k=aX r k:=by simp[aX,List.find?_cons,e]
theorem Ut(k:κ):∀kvs:List (κ×V),(kvs.any fun kv=>decide (kv.1=k))=(aX kvs k).isSome
 | []=>rfl
 |p::r=>by
  rw[List.any_cons];by_cases e:p.1=k
  ·simp only[Ur e,decide_eq_true e,Bool.true_or,Option.isSome_some]
  ·rw[Us e,xg e,Bool.false_or];exact Ut k r
theorem Vi(kvs:List (κ×V))(k:κ)(v:V):(bo kvs k v).length≤kvs.length+1:=by
 unfold bo
 split
 ·rw[aq];omega
 ·rw[wH,xq,yZ];omega
theorem o_{kvs:List (κ×V)}{k:κ}(v:V)(h:aX kvs k=none):bo kvs k v=kvs++[(k,v)]:=by
 unfold bo;rw[Ut,h];exact wK (by decide)
theorem RelO.isSome_eq{o:Option V}{u:Option Value}(r:RelO o u):o.isSome=u.isSome:=by
 cases o with
 |none=>cases u with
  |none=>rfl
  |some _=>exact(show False from r).elim
 |some _=>cases u with
  |none=>exact(show False from r).elim
  |some _=>rfl
theorem RelO.getD{o:Option V}{u:Option Value}{d:V}{d':Value}(r:RelO o u)(rd:RelV d d'):RelV (o.getD d) (u.getD d'):=by
 cases o with
 |none=>cases u with
  |none=>exact rd
  |some _=>exact(show False from r).elim
 |some _=>cases u with
  |none=>exact(show False from r).elim
  |some _=>exact r
theorem KV.val{kvs:List (κ×V)}{vs:List (κ×Value)}(r:KV kvs vs)(k:κ):RelO (aX kvs k) (valueAt vs k):=by
 unfold KV at r
 induction r with
 |nil=>exact True.intro
 | @cons p q ps qs h t ih=>
  obtain⟨h1,h2⟩:=h;by_cases e:p.1=k
  ·have e':q.1=k:=h1.symm.trans e;have b:valueAt (q::qs) k=some q.2:=by simp[valueAt,List.find?_cons,e']
   rw[Ur e,b];exact h2
  ·have e':¬q.1=k:=fun z=>e (h1.trans z);have b:valueAt (q::qs) k=valueAt qs k:=by simp[valueAt,List.find?_cons,e']
   rw[Us e,b];exact ih
theorem KV.any{kvs:List (κ×V)}{vs:List (κ×Value)}(r:KV kvs vs)(k:κ):(kvs.any fun kv=>decide (kv.1=k))=vs.any fun kv=>decide (kv.1=k):=by
 unfold KV at r
 induction r with
 |nil=>rfl
 |cons h t ih=>rw[List.any_cons,List.any_cons,ih,h.1]
theorem KV.repl{kvs:List (κ×V)}{vs:List (κ×Value)}(r:KV kvs vs)(k:κ){y:V}{u:Value}(ry:RelV y u):
  KV (kvs.map fun kv=>if kv.1=k then(kv.1,y)else kv) (vs.map fun kv=>if kv.1=k then(kv.1,u)else kv):=by
 unfold KV at r⊢
 induction r with
 |nil=>exact .nil
 | @cons p q ps qs h t ih=>
  rw[xt,xt];refine .cons ?_ ih;obtain⟨h1,h2⟩:=h;by_cases e:p.1=k
  ·rw[wM e,wM (h1.symm.trans e)];exact⟨h1,ry⟩
  ·rw[wK e,wK (fun z=>e (h1.trans z))];exact⟨h1,h2⟩
theorem KV.put{kvs:List (κ×V)}{vs:List (κ×Value)}(r:KV kvs vs)(k:κ){y:V}{u:Value}(ry:RelV y u):KV (bo kvs k y) (stored vs k u):=by
 unfold bo stored;rw[r.any k];by_cases e:(vs.any fun kv=>decide (kv.1=k))=true
 ·rw[wM e,wM e];exact r.repl k ry
 ·rw[wK e,wK e];exact Paired.snoc r ⟨rfl,ry⟩
theorem KV.keys{kvs:List (κ×V)}{vs:List (κ×Value)}(r:KV kvs vs):kvs.map (·.1)=vs.map (·.1):=by
 unfold KV at r
 induction r with
 |nil=>rfl
 |cons h t ih=>rw[xt,xt,ih,h.1]
theorem KV.length{kvs:List (κ×V)}{vs:List (κ×Value)}(r:KV kvs vs):kvs.length=vs.length:=zB r
end
theorem fG{P:Program}{w:World}{k:Key}{u:Value}(r:RelV (kV k) u):(ad P w).is k u=true:=by
 cases k with
 |inl i=>obtain⟨t,e⟩:=(show ∃t,u=Value.int i t from r);subst e;exact Sa P w i t
 |inr x=>obtain⟨t,e⟩:=(show ∃t,u=Value.str x t from r);subst e;exact Vh P w x t
theorem Pi{P:Program}{w:World}:∀{ks:List Key}{us:List Value},Vals (ks.map kV) us→ItemsAre (ad P w) ks us
 | [],_,r=>by rw[List.map_nil]at r;cases r;exact .nil
 |k::ks,_,r=>by
  rw[xt]at r;cases r with
  |cons h t=>exact .cons (fG h) (Pi t)
abbrev KT(H:Hp):List (List Key×V)→List (List Key×Addr×Value)→Prop:=Paired fun p q=>p.1=q.1∧H q.2.1=some (.tup (p.1.map kV))∧RelV p.2 q.2.2
theorem KT.val{H:Hp}{kvs:List (List Key×V)}{xs:List (List Key×Addr×Value)}(r:KT H kvs xs)(k:List Key):RelO (aX kvs k) ((atKey xs k).map (·.2)):=by
 induction r with
 |nil=>exact True.intro
 | @cons p q ps qs h t ih=>
  obtain⟨h1,_,h2⟩:=h;by_cases e:p.1=k
  ·have e':q.1=k:=h1.symm.trans e;have b:atKey (q::qs) k=some q.2:=by simp[atKey,List.find?_cons,e']
   rw[Ur e,b];exact h2
  ·have e':¬q.1=k:=fun z=>e (h1.trans z);have b:atKey (q::qs) k=atKey qs k:=by simp[atKey,List.find?_cons,e']
   rw[Us e,b];exact ih
theorem KT.repl{H:Hp}{kvs:List (List Key×V)}{xs:List (List Key×Addr×Value)}(r:KT H kvs xs)(k:List Key){y:V}{u:Value}(ry:RelV y u):
  KT H (kvs.map fun kv=>if kv.1=k then(kv.1,y)else kv) (xs.map (putAt k u)):=by
 induction r with
 |nil=>exact .nil
 | @cons p q ps qs h t ih=>
  rw[xt,xt];refine .cons ?_ ih;obtain⟨h1,h2,h3⟩:=h;unfold putAt;by_cases e:p.1=k
  ·rw[wM e,wM (h1.symm.trans e)];exact⟨h1,h2,ry⟩
  ·rw[wK e,wK (fun z=>e (h1.trans z))];exact⟨h1,h2,h3⟩
theorem KT.put{H:Hp}{kvs:List (List Key×V)}{xs:List (List Key×Addr×Value)}(r:KT H kvs xs)(k:List Key){b:Addr}{y:V}{u:Value}(hb:H b=some (.tup (k.map kV)))(ry:RelV y u):
  KT H (bo kvs k y) (storedH xs k b u):=by
 have e:(kvs.any fun kv=>decide (kv.1=k))=(atKey xs k).isSome:=by
  rw[Ut,(r.val k).isSome_eq,Option.isSome_map]
 unfold bo storedH;rw[e];by_cases q:(atKey xs k).isSome=true
 ·rw[wM q,wM q];exact r.repl k ry
 ·rw[wK q,wK q];exact Paired.snoc r ⟨rfl,hb,ry⟩
theorem KT.keeps{H H':Hp}{kvs:List (List Key×V)}{xs:List (List Key×Addr×Value)}(r:KT H kvs xs)(ht:∀b ys,H b=some (.tup ys)→H' b=some (.tup ys)):KT H' kvs xs:=
 Paired.mapP r fun _ _ z=>⟨z.1,ht _ _ z.2.1,z.2.2⟩
section
variable{P:Program}{w:World}{H:Hp}{h:Heap}{a:Addr}
theorem sM{u:HO}(ok:HOk P w H h)(e:Rd H a u):ObjOk P w H h a u:=e.ok ok
theorem Q8{kvs:List (Key×V)}(ok:HOk P w H h)(e:Rd H a (.dK kvs)):kvs.length≤sizeLine∧(a==sysModules)=false∧∃vs,KV kvs vs∧h.DictOf (ad P w) a vs:=
 show ObjOk P w H h a (.dK kvs)from sM ok e
theorem Pl{kvs:List (Key×V)}(ok:HOk P w H h)(e:H a=some (.dK kvs)):kvs.length≤sizeLine∧(a==sysModules)=false∧∃vs,KV kvs vs∧h.DictOf (ad P w) a vs:=Q8 ok (.inl e)
theorem Op{ks:List Key}(ok:HOk P w H h)(e:H a=some (.tup (ks.map kV))):(tupleKind (ad P w)).is h ks a:=by
 obtain⟨_,its,r,o,h1,h2,n,h3⟩:=(show ObjOk P w H h a (.tup (ks.map kV))from ok a _ e);exact⟨o,its.toArray,n,h1,h2.1,h3,by simpa using Pi r⟩
theorem ff{kvs:List (List Key×V)}(ok:HOk P w H h)(e:Rd H a (.dT kvs)):kvs.length≤sizeLine∧(a==sysModules)=false∧
  ∃xs,KT H kvs xs∧h.DictOfH (tupleKind (ad P w)) a xs:=by
 obtain⟨z,y,xs,r,o,es,ep,h1,h2,h3,h4,h5⟩:=(show ObjOk P w H h a (.dT kvs)from sM ok e);refine⟨z,y,xs,r,o,es,ep,h1,h2,h3,h4,fun x hx=>?_,h5⟩;have all:∀{l:List (List Key×V)}{m:List (List Key×Addr×Value)},KT H l m→∀x∈m,(tupleKind (ad P w)).is h x.1 x.2.1:=by
  intro l m q
  induction q with
  |nil=>intro x hx;exact nomatch hx
  | @cons p q ps qs hq t ih=>
   intro x hx
   rcases wX.mp hx with e | hx
   ·subst e;exact Op ok (by rw[←hq.1];exact hq.2.1)
   ·exact ih x hx
 exact all r x hx
theorem vW{kvs:List (List Key×V)}(ok:HOk P w H h)(e:H a=some (.dT kvs)):kvs.length≤sizeLine∧(a==sysModules)=false∧
  ∃xs,KT H kvs xs∧h.DictOfH (tupleKind (ad P w)) a xs:=ff ok (.inl e)
end
def DGet(H:Hp)(a:Addr)(y:V)(r:Option V):Prop:=
 (∃kvs k,Rd H a (.dK kvs)∧y=kV k∧r=aX kvs k)∨∃kvs k b,Rd H a (.dT kvs)∧y=.ref b∧H b=some (.tup (k.map kV))∧r=aX kvs k
def DPut(H:Hp)(a:Addr)(y v:V)(H':Hp):Prop:=
 (∃kvs k,H a=some (.dK kvs)∧y=kV k∧kvs.length<sizeLine∧H'=upd H a (.dK (bo kvs k v)))∨
 ∃kvs k b,H a=some (.dT kvs)∧y=.ref b∧H b=some (.tup (k.map kV))∧kvs.length<sizeLine∧H'=upd H a (.dT (bo kvs k v))
theorem DGet.k{H:Hp}{a:Addr}{kvs:List (Key×V)}{k:Key}(e:H a=some (.dK kvs)):DGet H a (kV k) (aX kvs k):=.inl ⟨kvs,k,.inl e,rfl,rfl⟩
theorem DPut.k{H:Hp}{a:Addr}{kvs:List (Key×V)}{k:Key}{v:V}(e:H a=some (.dK kvs))(hl:kvs.length<sizeLine):DPut H a (kV k) v (upd H a (.dK (bo kvs k v))):=.inl ⟨kvs,k,e,rfl,hl,rfl⟩
section
variable{X:Cx}{or:List (Addr×Obj)}{σ:St}{H:Hp}{s:Shared}{a:Addr}{y v:V}{u r:Value}{o:Option V}{A:Around}{E:Value→Shared→Prop}
theorem Inv.big(I:Inv X or σ H s):sysModules<s.heap.objs.size:=by
 have h:mainGlobals<s.heap.objs.size:=(I.mod.glob.keeps I.bk).lt;exact yu (by decide) h
theorem lr{Q:Value→Shared→Prop}(hu:A.units+1<cLine)(I:Inv X or σ H s)(g:DGet H a y (some v))(ry:RelV y u)(h:∀w' s',Inv X or σ H s'→RelV v w'→Q w' s'):
  wpAny (model X.prog X.w) A (getItem (.ref a) u) Q E s:=by
 rcases g with⟨kvs,k,e,ey,l⟩|⟨kvs,k,b,e,ey,eb,l⟩
 ·subst ey;obtain⟨z,hd,vs,rel,dd⟩:=Q8 I.hok e;obtain⟨w',hw,rw'⟩:=RelO.some_of (v:=v) (o:=valueAt vs k) (by rw[l];exact rel.val k);exact wpAny_getItem_of (fG ry) dd.mapOf hw (h w' _ (I.tok _) rw')
 ·subst ey;cases (show u=Value.ref b from ry);obtain⟨z,hd,xs,rel,dd⟩:=ff I.hok e;obtain⟨w',hw,rw'⟩:=RelO.some_of (v:=v) (o:=(atKey xs k).map (·.2)) (by rw[l];exact rel.val k);obtain⟨p,hp,hp2⟩:=xm.mp hw;refine wpAny_getItem_heap (tupleKind_room_in1 hu) (Op I.hok eb) dd hp ?_;rw[hp2];exact h w' _ (I.tok _) rw'
theorem jD{h':Heap}{t':Nat}{ob:HO}(I:Inv X or σ H s)(mu:Mut (H a))(hs:Heap.SameBut a s.heap h')(he:∃q,h'.get? a=some q)(new:ObjOk X.prog X.w (upd H a ob) h' a ob):
  Inv X or σ (upd H a ob) {s with heap:=h',toks:=t'}:=
 I.write (x:=a) (e:=a) mu (.inl rfl) (fun b q hb z=>(hs.2 b hb).trans z) he new
theorem uJ{P:Program}{w:World}{H':Hp}{h':Heap}{kvs:List (Key×V)}{vs:List (Key×Value)}(z:kvs.length≤sizeLine)(hd:(a==sysModules)=false)(rel:KV kvs vs)(dd:h'.DictOf (ad P w) a vs):
  ObjOk P w H' h' a (.dK kvs):=⟨z,hd,vs,rel,dd⟩
theorem lB{H':Hp}{Q:Unit→Shared→Prop}(hu:A.units+1<cLine)(I:Inv X or σ H s)(g:DPut H a y v H')(ry:RelV y u)(rv:RelV v r)(h:∀s',Inv X or σ H' s'→Q () s'):
  wpAny (model X.prog X.w) A (setItem (.ref a) u r) Q E s:=by
 rcases g with⟨kvs,k,e,ey,l,eH⟩|⟨kvs,k,b,e,ey,eb,l,eH⟩
 ·subst ey eH;obtain⟨z,hd,vs,rel,dd⟩:=Pl I.hok e;have hz:vs.length≤sizeLine:=by rw[←rel.length];exact z
  have hl:(bo kvs k v).length≤sizeLine:=by have:=Vi kvs k v;omega
  refine wpAny_setItem_pairs (hsz:=hz) (fG ry) dd fun h' dd' hs=>h _ ?_;have he:∃q,h'.get? a=some q:=let ⟨q,_,_,hq,_⟩:=dd';⟨q,hq⟩
  exact jD I (by rw[e];exact True.intro) hs he (uJ hl hd (rel.put k rv) dd')
 ·subst ey eH;cases (show u=Value.ref b from ry);obtain⟨z,hd,xs,rel,dd⟩:=vW I.hok e;have hz:xs.length≤sizeLine:=by rw[←zB rel];exact z
  have hl:(bo kvs k v).length≤sizeLine:=by have:=Vi kvs k v;omega
  refine wpAny_setItem_heap (hsz:=hz) (tupleKind_room_in1 hu) (Op I.hok eb) dd fun h' dd' hs=>h _ ?_;obtain⟨q,es,ep,hq,h2,h3,h4,_,h5⟩:=dd';refine jD I (by rw[e];exact True.intro) hs ⟨q,hq⟩ ⟨hl,hd,_,(rel.put k eb rv).keeps fun c ys ec=>?_,q,es,ep,hq,h2,h3,h4,h5⟩;rw[Z9 (mH ec e (fun z=>nomatch z))];exact ec
end
section
variable{X:Cx}{or:List (Addr×Obj)}{σ:St}{H:Hp}{s:Shared}{a:Addr}{kvs:List (Key×V)}{k:Key}{u:Value}{A:Around}{E:Value→Shared→Prop}
theorem vZ{Q:Value→Shared→Prop}(I:Inv X or σ H s)(e:Rd H a (.dK kvs))(h:∀t s',Inv X or σ H s'→Q (.int kvs.length t) s'):wpAny (model X.prog X.w) A (call (.builtin "len") [.ref a]) Q E s:=by
 obtain⟨z,hd,vs,rel,dd⟩:=Q8 I.hok e;refine call_len_dict hd dd (by rw[←rel.length];rw[sizeLine_eq]at z;omega) ?_;rw[←rel.length];exact h _ _ (I.tok _)
end
def v8(i:Expr):Prop:=∀ov iv,subscripted i false ov iv=operate [ov,iv] (getItem ov iv)
theorem rX{prog:Program}{w:World}{A:Around}{E:Value→Shared→Prop}{s:Shared}{env:Env}{value slice:Expr}{pos:Pos}{T id:String}{Q:Value→Shared→Prop}(hl:typeLookup (.type T) "__getitem__"=pure (some (.builtin id)))(hs:v8 slice)(h:wpAny (model prog w) A (eval value env) (fun o s₁=>wpAny (model prog w) A (eval slice env) (fun i s₂=>s₂.TypeIs o T∧wpAny (model prog w) A (getItem o i) Q E s₂) E s₁) E s):
  wpAny (model prog w) A (eval (.Subscript value slice pos) env) Q E s:=by
 refine Subscript_ (xX h (fun o s₁ h₁=>xX h₁ (fun i s₂ h₂=>?_) fun _ _ x=>x) fun _ _ x=>x);obtain⟨hT,h₂⟩:=h₂;unfold subscriptTail;refine ae ?_;rw[getitemInPython_of_ne hT.not_modules];refine ae (wpAny_specialOf hT hl ?_);have fin:wpAny (model prog w) A (subscripted slice false o i) (fun r s₃=>wpAny (model prog w) A (letTemporaryGo value o r >>= fun _=>pure r) Q E s₃) E s₂:=by
  rw[hs o i];exact wpAny_operating (xX h₂ (fun r s₃ h₃=>ae (wpAny_letTemporaryGo (io h₃))) fun _ _ x=>x)
 first
  |exact io (ae fin)
  |exact ae (io (ae fin))
  |exact ae fin
theorem fx{X:Cx}{or:List (Addr×Obj)}{σ:St}{H:Hp}{s:Shared}{a:Addr}{y:V}{o:Option V}(I:Inv X or σ H s)(g:DGet H a y o):s.TypeIs (.ref a) "dict":=by
 rcases g with⟨kvs,k,e,_,_⟩|⟨kvs,k,b,e,_,_,_⟩
 ·obtain⟨_,_,vs,_,dd⟩:=Q8 I.hok e;exact dd.typeIs
 ·obtain⟨_,_,xs,_,dd⟩:=ff I.hok e;exact dd.typeIs
def vD(td ty:TE):TE:=fun σ H Q=>td σ H fun x H1=>ty σ H1 fun y H2=>∃a v,x=.ref a∧DGet H2 a y (some v)∧Q v H2
def we(td ty tv:TE):TS:=fun D σ H=>tv σ H fun v H1=>td σ H1 fun x H2=>ty σ H2 fun y H3=>∃a H4,x=.ref a∧DPut H3 a y v H4∧D.nx σ H4
section
variable{X:Cx}{o i e value:Expr}{pos pos' tpos:Pos}{td ty tv:TE}
theorem Og(hu:X.A.units+1<cLine)(ho:PE X o td)(hi:PE X i ty)(hs:v8 i):PE X (.Subscript o i pos) (vD td ty):=by
 intro or s σ H Q I h;refine rX PySem.F.slot_dict_getitem.lookup hs (thn (ho or s σ H _ I h) fun u s1 ⟨x,H1,I1,rx,q1⟩=>thn (hi or s1 σ H1 _ I1 q1) fun iv s2 z8=>?_);obtain⟨y,H2,I2,ry,a,v,ex,g,q2⟩:=z8;subst ex;obtain rfl:u=Value.ref a:=rx;exact⟨fx I2 g,lr hu I2 g ry fun w' s3 I3 rw'=>⟨v,H2,I3,rw',q2⟩⟩
theorem Oc(hu:X.A.units+1<cLine)(ho:PE X o td)(hi:PE X i ty)(hv:PE X value tv)(hs:swapsWith value (some (.Subscript o i pos')) pos.line X.env=pure false):
  PS X (.Assign [.Subscript o i pos'] value pos) (we td ty tv):=by
 intro or s σ H D I h;refine wpAny_Assign_Subscript (thn (hv or s σ H _ I h) fun r s1 ⟨v,H1,I1,rv,q1⟩=>thn (ho or s1 σ H1 _ I1 q1) fun u s2 ⟨x,H2,I2,rx,q2⟩=>thn (hi or s2 σ H2 _ I2 q2) fun iv s3 z8=>?_) hs;obtain⟨y,H3,I3,ry,a,H4,ex,g,q3⟩:=z8;subst ex;obtain rfl:u=Value.ref a:=rx;exact lB hu I3 g ry rv fun s4 I4=>⟨σ,H4,I4,q3⟩
end
theorem oj{P:Program}{w:World}{H:Hp}(h:Heap)(hb:sysModules<h.objs.size):ObjOk P w H (h.push {cls:=.type "dict",data:=.dict #[]}) h.objs.size (.dK []):=
 ⟨yc _,beq_eq_false_iff_ne.mpr (Ne.symm (wS hb)),[],.nil,Heap.DictOf.new h⟩
def uL:TE:=fun _ H Q=>∀p,H p=none→Q (.ref p) (upd H p (.dK []))
section
variable{X:Cx}{pos:Pos}
theorem oK:PE X (.Dict [] [] pos) uL:=fun or s σ H Q I h=>
 wpAny_Dict_empty ⟨.ref s.heap.objs.size,_,I.laid (a:=s.heap.objs.size) (o:=.dK []) (t':=s.toks) (fun _ _ q=>az _ q) (pi _) (oj s.heap I.big),rfl,h _ (I.hok.fresh (pi _))⟩
end
def cb(kvs more:List (Key×V)):List (Key×V):=more.foldl (fun Ai kv=>bo Ai kv.1 kv.2) kvs
theorem KV.merge:∀{more:List (Key×V)}{rs:List (Key×Value)}{kvs:List (Key×V)}{vs:List (Key×Value)},KV more rs→KV kvs vs→KV (cb kvs more) (merged vs rs):=by
 intro more rs kvs vs r;unfold KV at r
 induction r generalizing kvs vs with
 |nil=>intro q;exact q
 | @cons p q ps qs h t ih=>
  intro r0;have e:KV (bo kvs p.1 p.2) (stored vs q.1 q.2):=by
   have:=r0.put p.1 h.2;rw[←h.1];exact this
  exact ih e
theorem U8:∀(more kvs:List (Key×V)),(cb kvs more).length≤kvs.length+more.length
 | [],kvs=>by show kvs.length≤kvs.length+0;omega
 |p::r,kvs=>by
  have h1:=U8 r (bo kvs p.1 p.2);have h2:=Vi kvs p.1 p.2;show(cb (bo kvs p.1 p.2) r).length≤_;rw[xq];omega
structure M2(X:Cx)(o:Expr)(m:Str)(apos:Pos)(e f:Expr)(cpos:Pos):Prop where
 base:attributeBase o m X.env (eval o X.env)=eval o X.env
 few:((backTo cpos (starEach [e,f] X.env)).all (fun x=>!x.1) && (backToKw cpos (keywordEach [] X.env)).all (fun x=>x.1.isSome)
  && decide (([e,f]:List Expr).length+([]:List Keyword).length+(if ([]:List Keyword).isEmpty then 0 else 1)<30))=true
 line:(apos.endLine==cpos.line)=true
 trees:backTo cpos (starEach [e,f] X.env)=[(false,eval e X.env),(false,eval f X.env)]
def IsD(H:Hp)(a:Addr):Prop:=(∃kvs,Rd H a (.dK kvs))∨∃kvs,Rd H a (.dT kvs)
theorem nJ{X:Cx}{or:List (Addr×Obj)}{σ:St}{H:Hp}{s:Shared}{a:Addr}(I:Inv X or σ H s)(d:IsD H a):
  s.TypeIs (.ref a) "dict"∧(∀b,Value.ref a=.ref b→∃ob,s.heap.get? b=some ob∧ob.dict=none)∧(a==sysModules)=false:=by
 rcases d with⟨kvs,e⟩|⟨kvs,e⟩
 ·obtain⟨_,hd,vs,_,dd⟩:=Q8 I.hok e;refine⟨dd.typeIs,fun b q=>?_,hd⟩;cases q;obtain⟨ob,_,_,h1,h2,_⟩:=dd;exact⟨ob,h1,h2.2.1⟩
 ·obtain⟨_,hd,xs,_,dd⟩:=ff I.hok e;refine⟨dd.typeIs,fun b q=>?_,hd⟩;cases q;obtain⟨ob,_,_,h1,h2,_⟩:=dd;exact⟨ob,h1,h2.2.1⟩
section
variable{X:Cx}{or:List (Addr×Obj)}{σ:St}{H:Hp}{s:Shared}{a:Addr}{y d:V}{u r:Value}{o:Option V}{A:Around}{E:Value→Shared→Prop}
theorem tN{Q:Value→Shared→Prop}(hu:A.units+1<cLine)(I:Inv X or σ H s)(g:DGet H a y o)(ry:RelV y u)(rd:RelV d r)(h:∀w' s',Inv X or σ H s'→RelV (o.getD d) w'→Q w' s'):
  wpAny (model X.prog X.w) A (call (.builtin "dict.get") [.ref a,u,r]) Q E s:=by
 rcases g with⟨kvs,k,e,ey,l⟩|⟨kvs,k,b,e,ey,eb,l⟩
 ·subst ey;obtain⟨z,hd,vs,rel,dd⟩:=Q8 I.hok e;refine call_meetsIn PySem.F.slot_dict_get dd.typeIs PySem.F.entry_dict_get (PySem.F.args_dict_get_3 _ _ _) (meets_dict_get_default (ad X.prog X.w) a (fG ry) hd r) ⟨_,dd.mapOf,h _ _ (I.tok _) ?_⟩;rw[l];exact(rel.val k).getD rd
 ·subst ey;cases (show u=Value.ref b from ry);obtain⟨z,hd,xs,rel,dd⟩:=ff I.hok e;refine call_meetsIn PySem.F.slot_dict_get dd.typeIs PySem.F.entry_dict_get (PySem.F.args_dict_get_3 _ _ _) (meetsH_dict_get_default (tupleKind (ad X.prog X.w)) a b hd r) ⟨tupleKind_room_in1 hu,k,xs,Op I.hok eb,dd,h _ _ (I.tok _) ?_⟩;rw[l];exact(rel.val k).getD rd
end
def sT(td ty tx:TE):TE:=fun σ H Q=>td σ H fun x H1=>∃a,x=.ref a∧IsD H1 a∧ty σ H1 fun y H2=>tx σ H2 fun z H3=>∃o,DGet H3 a y o∧Q (o.getD z) H3
section
variable{X:Cx}{o e f:Expr}{apos cpos:Pos}{td ty tx:TE}
theorem Rc(hu:X.A.units+1<cLine)(ho:PE X o td)(he:PE X e ty)(hf:PE X f tx)(m:M2 X o "get" apos e f cpos):PE X (.Call (.Attribute o "get" apos) [e,f] [] cpos) (sT td ty tx):=by
 intro or s σ H Q I h;refine wpAny_Call_method m.base m.few m.line PySem.F.plainAttrs_dict PySem.F.slot_dict_get PySem.F.type_dict_get (thn (ho or s σ H _ I h) fun u s1 z8=>?_);obtain⟨x,H1,I1,rx,a,ex,d,q1⟩:=z8;subst ex;obtain rfl:u=Value.ref a:=rx;obtain⟨t1,t2,_⟩:=nJ I1 d;refine⟨t1,t2,?_⟩;rw[m.trees];refine zt rfl (Calls.evalArgs_plain (Calls.spliced_cons (thn (he or s1 σ H1 _ I1 q1) fun iv s2 ⟨y,H2,I2,ry,q2⟩=>
  Calls.spliced_cons (thn (hf or s2 σ H2 _ I2 q2) fun fv s3 ⟨z,H3,I3,rz,ov,g,q3⟩=>Calls.spliced_nil ?_))))
 exact tN hu I3 g ry rz fun w' s4 I4 rw'=>⟨_,H3,I4,rw',q3⟩
end
section
variable{X:Cx}{or:List (Addr×Obj)}{σ:St}{H:Hp}{s:Shared}{a:Addr}{kvs:List (Key×V)}{A:Around}{E:Value→Shared→Prop}
end
section
variable{X:Cx}{or:List (Addr×Obj)}{σ:St}{H:Hp}{s:Shared}{a:Addr}{y:V}{u:Value}{A:Around}{E:Value→Shared→Prop}
end
section
variable{X:Cx}
theorem lL:aV X (.builtin "len") (fun xs H Q=>∃a kvs,xs=[V.ref a]∧H a=some (.dK kvs)∧Q (.int kvs.length) H):=by
 intro or s σ H xs us Q I r h;obtain⟨a,kvs,rfl,ha,q⟩:=h;obtain⟨u,rfl,ru⟩:=Xx r;cases ru;exact vZ I (.inl ha) fun t s' I'=>⟨.int kvs.length,H,I',⟨t,rfl⟩,q⟩
end
section
variable{κ:Type}[DecidableEq κ]
theorem q4{kvs:List (κ×V)}{k:κ}{v:V}(h:aX kvs k=some v):k∈kvs.map (·.1):=by
 have q:(kvs.any fun kv=>decide (kv.1=k))=true:=by
  rw[Ut,h]
  all_goals rfl
 obtain⟨p,hp,e⟩:=List.any_eq_true.mp q;exact wW.mpr ⟨p,hp,wU e⟩
end
def Its(x:Str):It:=⟨fun i _=>i<x.cps.size,fun i H v H'=>H'=H∧∃c,x.cps[i]?=some c∧v=.str ⟨#[c]⟩,fun i _=>x.cps.size≤i⟩
theorem lC{P:Program}{w:World}{K:W.Frag}{tg:Expr}(x:Str)(t:Tok)(it:Addr):Turn P w K tg (Its x) [it] it (fun i h=>h.IsStrIter it "str_ascii_iterator" x t i) where
 mem:=by simp
 obj:=fun i h st b hb=>by
  obtain⟨o,e,c,d⟩:=st;have q:b=it:=by simpa using hb
  subst q;exact⟨o,e,fun v z=>by rw[d]at z;cases z⟩
 keep:=fun i h h' st k=>let ⟨o,e,r⟩:=st;⟨o,k it (by simp) o e,r⟩
 item:=by
  intro X hP hw hK hc i or s σ H E I hf st hg;subst hP hw hK;have hg:i<x.cps.size:=hg;obtain⟨f0,f1,f2,f3,f4,f5⟩:=hf it (by simp);refine wpAny_pyNext_ascii_item st (c:=x.cps[i]) (by simp[hg]) fun h' Aj sb=>?_;obtain⟨o,e,c,d⟩:=id Aj;exact⟨_,rfl,Pj (s:={s with heap:=h',toks:=s.toks+1}) e c d (by decide) ⟨.str ⟨#[x.cps[i]]⟩,H,I.turned (t':=s.toks+1) (fun b o hb e=>(sb.2 b hb).trans e) f0 f1 f3 f4 f5,⟨_,rfl⟩,⟨rfl,_,by simp[hg],rfl⟩,Aj,fun b hb=>(hf b hb).1⟩⟩
 done:=by
  intro X hP hw hK hc i or s σ H E I hf st hg;subst hP hw hK;have hg:x.cps.size≤i:=hg;obtain⟨f0,f1,f2,f3,f4,f5⟩:=hf it (by simp);exact wpAny_pyNext_ascii_end (I.ok.hd hc) st (by simp;omega) fun h' eb=>⟨rfl,I.turned (t':=s.toks) (fun b o hb e=>eb b o hb e) f0 f1 f3 f4 f5⟩
 self:=fun _ _ _ _ _ st h=>wpAny_pyIter_striter_ascii st h
theorem lQ{P:Program}{w:World}{K:W.Frag}{tg:Expr}(x:Str)(t:Tok)(it:Addr):Turn P w K tg (Its x) [it] it (fun i h=>h.IsStrIter it "str_iterator" x t i) where
 mem:=by simp
 obj:=fun i h st b hb=>by
  obtain⟨o,e,c,d⟩:=st;have q:b=it:=by simpa using hb
  subst q;exact⟨o,e,fun v z=>by rw[d]at z;cases z⟩
 keep:=fun i h h' st k=>let ⟨o,e,r⟩:=st;⟨o,k it (by simp) o e,r⟩
 item:=by
  intro X hP hw hK hc i or s σ H E I hf st hg;subst hP hw hK;have hg:i<x.cps.size:=hg;obtain⟨f0,f1,f2,f3,f4,f5⟩:=hf it (by simp);refine wpAny_pyNext_wide_item st (c:=x.cps[i]) (by simp[hg]) fun h' Aj sb=>?_;obtain⟨o,e,c,d⟩:=id Aj;exact⟨_,rfl,Pj (s:={s with heap:=h',toks:=s.toks+1}) e c d (by decide) ⟨.str ⟨#[x.cps[i]]⟩,H,I.turned (t':=s.toks+1) (fun b o hb e=>(sb.2 b hb).trans e) f0 f1 f3 f4 f5,⟨_,rfl⟩,⟨rfl,_,by simp[hg],rfl⟩,Aj,fun b hb=>(hf b hb).1⟩⟩
 done:=by
  intro X hP hw hK hc i or s σ H E I hf st hg;subst hP hw hK;have hg:x.cps.size≤i:=hg;obtain⟨f0,f1,f2,f3,f4,f5⟩:=hf it (by simp);exact wpAny_pyNext_wide_end (I.ok.hd hc) st (by simp;omega) fun h' eb=>⟨rfl,I.turned (t':=s.toks) (fun b o hb e=>eb b o hb e) f0 f1 f3 f4 f5⟩
 self:=fun _ _ _ _ _ st h=>wpAny_pyIter_striter_wide st h
def iStr(tl:TE):TI:=fun σ H R=>tl σ H fun v H1=>∃x,v=.str x∧R (Its x) H1
section
variable{X:Cx}{tg:Expr}
theorem uB{l:Expr}{tl:TE}(hl:PE X l tl):PI X tg l (iStr tl):=by
 intro or s σ H R I h;refine thn (hl or s σ H _ I h) fun v s1 z8=>?_;obtain⟨x,H1,I1,r1,q1⟩:=z8;obtain⟨z,e,q⟩:=q1;subst e;obtain⟨t,rfl⟩:=r1;have fp:∀b∈[s1.heap.objs.size],cw X or H1 b:=fun b hb=>by
  have e:b=s1.heap.objs.size:=by simpa using hb
  subst e;exact I1.fpOk (pi _) (I1.hok.fresh (pi _))
 cases ha:z.cps.all (·<128) with
 |true=>exact wpAny_pyIter_ascii ha ⟨s1.heap.objs.size,[s1.heap.objs.size],_,_,H1,rfl,I1.kept (t':=s1.toks) (fun b o e=>az _ e),lC z t _,⟨_,wD _ rfl,rfl,rfl⟩,fp,q⟩
 |false=>exact wpAny_pyIter_wide ha ⟨s1.heap.objs.size,[s1.heap.objs.size],_,_,H1,rfl,I1.kept (t':=s1.toks) (fun b o e=>az _ e),lQ z t _,⟨_,wD _ rfl,rfl,rfl⟩,fp,q⟩
theorem oQ{x:Str}{k:Nat}{g:TG}{tt:TT}{te:TE}{σ:St}{H:Hp}{Q:VK}(Pv:Nat→List V→Hp→Prop)(h0:Pv 0 [] H)(hs:∀i c ys H (C:List V→Hp→Prop),x.cps[i]?=some c→Pv i ys H→(∀ys' H',Pv (i+1) ys' H'→C ys' H')→ys.length<sizeLine∧g (.str ⟨#[c]⟩) (List.replicate k none++σ) H fun σ2 H2=>Wk σ2 (List.replicate k none++σ)∧tt σ2 H2 fun ok H3=>
   if ok=true then te σ2 H3 fun y H4=>C (ys++[y]) H4 else C ys H3)(hd:∀ys H,Pv x.cps.size ys H→ys.length≤sizeLine∧∀p,H p=none→Q (.ref p) (upd H p (.lst ys))):CompR (Its x) H k g tt te σ Q:=by
 refine⟨fun i m ys H=>m=x.cps.size-i∧i≤x.cps.size∧Pv i ys H,⟨x.cps.size,by simp,Nat.zero_le _,h0⟩,?_⟩;rintro i m ys H ⟨rfl,hi,p⟩;by_cases Ac:i<x.cps.size
 ·have r:=hs i x.cps[i] ys H (fun ys' H'=>∃m',m'<x.cps.size-i∧m'=x.cps.size-(i+1)∧i+1≤x.cps.size∧Pv (i+1) ys' H') (by simp[Ac]) p fun ys' H' p'=>⟨_,by omega,rfl,Ac,p'⟩;refine .inr ⟨Ac,r.1,fun v H' y=>?_⟩;obtain⟨e,c,hc,rfl⟩:=y;subst e;have ec:x.cps[i]=c:=by simpa [Ac] using hc
  rw[←ec];exact r.2
 ·have e:i=x.cps.size:=by omega
  subst e;exact .inl ⟨pi _,hd ys H p⟩
theorem mj{bs:List Bool}:(List.range bs.length).all (fun i=>bs.getD i true)=bs.all id:=by
 rw[yk,yn,yn];constructor
 ·intro h b hb;obtain⟨i,hi,rfl⟩:=y7.mp hb;have q:=h i (List.mem_range.mpr hi);rw[yB,xj hi]at q;exact q
 ·intro h i hi;have hi:=List.mem_range.mp hi;have q:=h bs[i] (List.getElem_mem hi);rw[yB,xj hi];exact q
theorem Wt(hc:X.calm=true):aV X (.builtin "all") (fun xs H Q=>∃(p:Addr)(bs:List Bool),xs=[.ref p]∧SqL X.K H p (bs.map V.bl)∧Q (.bl (bs.all id)) H):=by
 intro or s σ H xs us Q I r h;obtain⟨p,bs,rfl,hq,q⟩:=h;obtain⟨u,rfl,ru⟩:=Xx r;cases ru;obtain⟨its,rv,pl,hz⟩:=I.list hq;have hl:=rv.length;rw[aq]at hl;have Ac:p<s.heap.objs.size:=by
  obtain⟨o,n,e,_⟩:=pl;exact wE e
 have hh:X.A.in1.handled=none:=by simpa using I.ok.hd hc
 refine call_all_walk (wpAny_pyIter_list pl.isList ⟨s.heap.objs.size,_,_,_,_,_,fun i=>bs.getD i true,rfl,Walks.list hh _ p (wS Ac) its.toArray,⟨⟨_,wD _ rfl,rfl,rfl⟩,pl.isList.push _⟩,fun i v s' Q' E' hv hQ=>?_,fun h' tk kp=>?_⟩)
 ·have hv':its[i]?=some v:=by simpa using hv
  have hi:i<bs.length:=by rw[hl];exact(wL.mp hv').1
  obtain⟨u,hu,ru⟩:=rv.get (i:=i) (x:=.bl bs[i]) (by rw[xi,xj hi];rfl);rw[hv']at hu;cases hu;cases (show v=Value.bool bs[i]from ru);have e:bs.getD i true=bs[i]:=by rw[yB,xj hi];rfl
  simp only[e]at hQ;exact yx hQ
 ·have e:(List.range its.toArray.size).all (fun i=>bs.getD i true)=bs.all id:=by
   rw[xh,←hl];exact mj
  simp only[e];refine⟨.bl (bs.all id),H,I.kept fun b o eb=>kp b o ?_ (az _ eb),rfl,q⟩;intro hb;rw[wR.mp hb]at eb;exact absurd (wE eb) (yK _)
end
section
variable{X:Cx}
end
section
variable{X:Cx}{o e:Expr}{to te:TE}{lo hi:Option Expr}{tl th:TO}{pos p2:Pos}
end
section
open PySem.AutoSeq1 (wpAny_loadPart')
open PySem.MeetsSeq PySem.MeetsSeq2 PySem.MeetsSeq3
end
section
variable{X:Cx}
end
theorem Zj{H H1:Hp}{p:Addr}{o:HO}(h:upd H p o=H1)(n:H p=none):Same H H1:=h ▸ Zc n o
theorem Zp{H H1:Hp}{p:Addr}{o:HO}(h:upd H p o=H1):H1 p=some o:=h ▸ Z5
inductive Kd(H:Hp):V→String→Prop
 |non:Kd H .non "NoneType"
 |bl (b:Bool):Kd H (.bl b) "bool"
 |int (i:Int):Kd H (.int i) "int"
 |str (z:Str):Kd H (.str z) "str"
 |lst {a:Addr} {xs:List V} (e:H a=some (.lst xs)):Kd H (.ref a) "list"
 |tup {a:Addr} {xs:List V} (e:H a=some (.tup xs)):Kd H (.ref a) "tuple"
 |dK {a:Addr} {kvs:List (Key×V)} (e:H a=some (.dK kvs)):Kd H (.ref a) "dict"
theorem Kd.ty{K:W.Frag}{H:Hp}{x:V}{T:String}(h:Kd H x T):TyOf K H x (.type T):=by
 cases h with
 |non=>exact .non
 |bl b=>exact .bl b
 |int i=>exact .int i
 |str z=>exact .str z
 |lst e=>exact .lst e
 |tup e=>exact .tup e
 |dK e=>exact .dK e
def kds:List String:=["NoneType","bool","int","str","list","tuple","dict"]
def kus:List String:=["int","bool","str","list","tuple"]
def i0(T U:String):Bool:=(T==U) || (T == "bool" && U == "int")
theorem rF:∀T∈kds,∀U∈kus,vF T U=some (i0 T U):=by decide +kernel
theorem Kd.mem{H:Hp}{x:V}{T:String}(h:Kd H x T):T∈kds:=by cases h <;> decide
theorem Kd.kit{K:W.Frag}{H:Hp}{x:V}{T U:String}{b:Bool}(h:Kd H x T)(hU:U∈kus)(e:i0 T U=b):W.kitOne K (.type T) (.type U)=some b:=by
 subst e;exact mG (rF T h.mem U hU)
def whV:V→Bool
 |.int _=>true
 |_=>false
def wF:V→Int→Bool
 |.int i,l=>decide (l≤i)
 |_,_=>false
theorem Kd.wh{H:Hp}{x:V}{T:String}(h:Kd H x T):(i0 T "int" && !i0 T "bool")=whV x:=by
 cases h <;> (first | rfl | (simp[i0,whV]))
theorem Wp{X:Cx}{x:Str}{v:V}{pos:Pos}(hg:Gl X x)(h:∃u,X.mg x=some u∧RelV v u)(hd:(x==("__debug__":Str))=false:=by decide):PE X (.Name x pos) (tC v):=by
 obtain⟨u,hm,r⟩:=h;exact rg hg hm r hd
def letters:Str:="abcdefghijklmnopqrstuvwxyz"
def sgB(c:Nat):Bool:=!(Builtin.Str.occurrences letters ⟨#[c]⟩ 0 letters.length 1).isEmpty
def mkS(z:Str):Bool:=decide (1≤z.length) && decide (z.length≤8) && z.cps.toList.all sgB
def mkB:V→Bool
 |.str z=>mkS z
 |_=>false
theorem mS:∀z∈words,mkS z=true:=by decide +kernel
def mY(X:Cx)(f:Value)(ks:List Str)(r:List V→List V→Hp→VK→Prop):Prop:=
 ∀(or:List (Addr×Obj))(s:Shared)(σ:St)(H:Hp)(xs zs:List V)(us ws:List Value)(Q:VK),Inv X or σ H s→Vals xs us→Vals zs ws→r xs zs H Q→
  wpAny (model X.prog X.w) X.A (call f us (ks.zip ws)) (EP X or σ Q) X.xe s
def tCBK(r:List V→List V→Hp→VK→Prop)(t tk:TA):TE:=fun σ H Q=>t σ H fun vs H1=>tk σ H1 fun zs H2=>r vs zs H2 Q
section
variable{X:Cx}{x:Str}{p pos:Pos}{e:Expr}{es:List Expr}{kws:List Keyword}{ks:List Str}{t tk:TA}{id:String}{r:List V→List V→Hp→VK→Prop}
theorem mz(hc:mY X (.builtin id) ks r)(hg:Gl X x)(hm:X.mg x=none)(hv:bootBuiltins x=some (.builtin id))(ha:PA X (e::es) t)(hk:PK X kws tk)(hks:(backToKw pos (keywordEach kws X.env)).filterMap (·.1)=ks:=by rfl)(hn:x≠"__name__":=by decide)(hdb:(x==("__debug__":Str))=false:=by decide)(he:backTo pos (starEach (e::es) X.env)=(false,eval e X.env)::backTo pos (starEach es X.env):=by rfl)(hpl:(backTo pos (starEach (e::es) X.env)).any (·.1)=false:=by rfl)(hall:(backToKw pos (keywordEach kws X.env)).all (·.1.isSome)=true:=by rfl)(hkn:(backToKw pos (keywordEach kws X.env)).any (·.1.isNone)=false:=by rfl):
  PE X (.Call (.Name x p) (e::es) kws pos) (tCBK r t tk):=by
 intro or s σ H Q I h;refine yT (Um I hg hm hv ?_ hn hdb);refine callWith_kw (thn (ha pos or s σ H _ I h) fun us s1 ⟨vs,H1,I1,r1,q1⟩=>thn (hk pos or s1 σ H1 _ I1 q1) fun ws s2 ⟨zs,H2,I2,r2,q2⟩=>?_) he hpl hall hkn;rw[hks];exact hc or s2 σ H2 vs zs us ws Q I2 r1 r2 q2
end
section
variable{prog:Program}{w:World}{A:Around}{E:Value→Shared→Prop}{s:Shared}{T:String}{r d:Addr}{n:Nat}{P:Nat→Value→Prop}{OK:Heap→Prop}
def uH(s:Shared)(P:Nat→Value→Prop)(n:Nat)(q:Result)(s':Shared):Prop:=
 ∃(g:Heap)(tk c:Nat)(xs:Array Value),q=.ok (.ret (.ref s.heap.objs.size))∧s'={s with heap:=g,toks:=tk}∧(∀b o,s.heap.get? b=some o→g.get? b=some o)∧g.get? s.heap.objs.size=some {cls:=.type "list",dict:=none,data:=.seq xs c,slots:=#[]}∧ItemsOf P xs n
theorem Se{R:List Value→Shared→Prop}(K:W.KdlSrc prog w T r d n P OK)(hh:A.handled=none)(hok:OK s.heap)(hn:n≤sizeLine)(h:∀(g:Heap) (tk:Nat) (xs:Array Value),(∀b o,s.heap.get? b=some o→g.get? b=some o)→s.heap.objs.size<g.objs.size→ItemsOf P xs n→R xs.toList {s with heap:=g,toks:=tk}):wpAny (model prog w) A (collect (.ref r)) R E s:=by
 obtain⟨lt1,lt2⟩:=K.there _ hok;unfold collect;refine ae (wpAny_runValue (ym entry_proto_collect' ?_));rw[yi PySem.F.plain_proto_collect _];refine ae (m:=newList []) (yp (io ⟨zV zm _,ym entry_list_iadd' ?_⟩));rw[yi zm _];have own:(s.heap.push {cls:=.type "list",data:=.seq ([]:List Value).toArray}).get? s.heap.objs.size=some {cls:=.type "list",data:=.seq #[]}:=wD _ rfl;have run:=W.kdl_extend (A:=A) (s:={s with heap:=s.heap.push {cls:=.type "list",data:=.seq ([]:List Value).toArray}}) (R:=uH s P n) K hh (K.keep _ _ hok fun _ _ _ e=>az _ e) s.heap.objs.size (x4 lt1) (x4 lt2) (.ref s.heap.objs.size) 0 own
  (fun g tk xs c hk hS hx=>⟨g,tk,c,xs,rfl,rfl,fun b o e=>hk b o (wS (wE e)) (az _ e),hS,hx⟩) hn
 refine xX run (fun fin s' y=>?_) (fun _ _ y=>by obtain⟨_,_,_,_,e,_⟩:=y;cases e);cases fin with
 |done f=>
  obtain⟨g,tk,c,xs,e,rfl,hk,hS,hx⟩:=y;cases e;exact ae (m:=load s.heap.objs.size) (zZ hS (io (h g tk xs hk (wE hS) hx)))
 |again c1=>
  refine⟨y.1,zo y.2 fun q s2 z=>?_⟩;obtain⟨g,tk,c,xs,rfl,rfl,hk,hS,hx⟩:=z;exact ae (m:=load s.heap.objs.size) (zZ hS (io (h g tk xs hk (wE hS) hx)))
end
def bY(a d:Addr):HO:=.ext fun h=>h.IsValuesView a d
section
variable{X:Cx}{or:List (Addr×Obj)}{σ:St}{H:Hp}{s:Shared}
theorem m9{K:W.Frag}{d:Addr}{kvs:List (Key×V)}(h:H d=some (.dK kvs)):tyV K "dict" (.ref d) H:=.inr (.inr (.inl ⟨rfl,.inl ⟨kvs,h⟩⟩))
def wz(w:Addr→Addr→HO):V→List V→Hp→VK→Prop:=fun x vs H Q=>∃d kvs,x=.ref d∧vs=[]∧H d=some (.dK kvs)∧∀a,H a=none→Q (.ref a) (upd H a (w a d))
theorem lu:MtR X "dict.values" (wz bY):=by
 intro or s σ H x vs v us Q I rx rv h;obtain⟨d,kvs,rfl,rfl,hd,q⟩:=h;cases rx;cases rv;obtain⟨_,lo,ws,_,hD⟩:=Pl I.hok hd;refine call_meetsIn ze hD.typeIs PySem.F.entry_dict_values (PySem.F.args_dict_values_1 _) (meets_dict_values (ad X.prog X.w) d lo) ⟨⟨ws,hD⟩,?_⟩;refine⟨.ref s.heap.objs.size,_,I.laid (t':=s.toks) (o:=bY s.heap.objs.size d) (fun b o e=>az _ e) (pi _) ?_,rfl,q _ (I.hok.fresh (pi _))⟩;exact⟨⟨_,wD _ rfl,rfl,rfl⟩,⟨_,wD _ rfl⟩,fun h1 h2 ⟨o,ho,r⟩ k=>⟨o,k o ho,r⟩⟩
theorem Ss:∀{kvs:List (Key×V)}{ws:List (Key×Value)},KV kvs ws→Vals (kvs.map (·.2)) (ws.map (·.2))
 |_,_,.nil=>.nil
 |_,_,.cons a r=>.cons a.2 (Ss r)
def re:List V→List V→Hp→VK→Prop:=fun xs zs H Q=>∃(v d:Addr)(kvs:List (Key×V))(ns:List Int),xs=[.ref v]∧zs=[.bl true]∧H v=some (bY v d)∧H d=some (.dK kvs)∧kvs.map (·.2)=ns.map V.int∧ns.length<64∧
 ∀(p:Addr)(ms:List Int),H p=none→ms.Perm ns→ms.Pairwise (· ≥ ·)→Q (.ref p) (upd H p (.lst (ms.map V.int)))
theorem gO(hc:X.calm=true):mY X (.builtin "sorted") [Str.ofString "reverse"] re:=by
 intro or s σ H xs zs us ws Q I rx rz h;obtain⟨v,d,kvs,ns,rfl,rfl,hv,hd,hns,h64,q⟩:=h;obtain⟨u,rfl,ru⟩:=Xx rx;cases ru;obtain⟨u,rfl,ru⟩:=Xx rz;cases ru;obtain⟨_,lo,es,kv,hD⟩:=Pl I.hok hd;obtain⟨view,_⟩:=(show ObjOk X.prog X.w H s.heap v (bY v d)from I.hok v _ hv);obtain⟨ep,hat⟩:=hD.dictAt;have hI:IntsAre (es.map (·.2)) ns:=Ru (by rw[←hns];exact Ss kv);have hl:es.length=ns.length:=by
  have e1:=hI.length;rw[aq]at e1;exact e1
 have hh:X.A.in1.handled=none:=by simpa using I.ok.hd hc
 show wpAny _ _ (call (.builtin "sorted") [.ref v] [(Str.ofString "reverse",.bool true)]) _ _ _;refine call_function_entry_kw kind_sorted plain_sorted entry_sorted (args_sorted_rev _ _) ?_;unfold Builtin.«sorted»;refine ae (m:=checkCount "sorted" 1 1 _) (io ?_);refine ae (Se (A:=X.A.in1) (W.kdl_values (knd:=ad X.prog X.w) (r:=v) (kvs:=es) (ep:=ep)) hh ⟨view,hat⟩ (Zf (by omega)) fun h' tk Ai hk hsz hacc=>?_);have ea:Ai.toList=es.map (·.2):=W.kdl_vals_eq Ai.toList (by rw[wG];exact hacc.1) fun j u e=>hacc.2 j u (by rw[←wI];exact e);rw[ea];have Al:(es.map (·.2)).length<64:=by rw[aq];omega
 refine ae (zW ?_ (by exact Zf (by omega)));have hoL:(h'.push (seqObj "list" (es.map (·.2)).toArray 0)).get? h'.objs.size=some (seqObj "list" (es.map (·.2)).toArray 0):=wD _ rfl;refine ae (xQ (wpAny_call_entry_kw slot_list_sort ⟨_,hoL,rfl⟩ entry_list_sort (list_sort_tree_rev hoL hI Al fun out ns' a1 a2 a3=>⟨_,rfl,?_⟩) (args_list_sort_rev _ _)));refine io ⟨_,rfl,?_⟩;obtain⟨e2,he2⟩:=sortedHeap_at (vs:=es.map (·.2)) (out:=out) hoL;have hz:s.heap.objs.size≤h'.objs.size:=ye hsz;refine⟨.ref h'.objs.size,_,I.laid (t':=tk) (o:=.lst (ns'.map V.int)) (fun b o e=>?_) hz ?_,rfl,q _ ns' (I.hok.fresh hz) a2 a3⟩
 ·have e':=hk b o e;have Ac:=wE e';rw[sortedHeap_old (wS Ac) (by rw[size_push'];exact yq Ac)];exact az _ e'
 ·refine⟨?_,out.toList,e2,Vo a1,by simpa using he2⟩;rw[aq,a2.length_eq];exact Zf (by omega)
inductive PairsAt(H:Hp):List V→List (Key×V)→Prop
 |nil:PairsAt H [] []
 |cons {a:Addr} {xs:List V} {k:Key} {v:V} {kvs:List (Key×V)} (h:H a=some (.tup [kV k,v])) (r:PairsAt H xs kvs):PairsAt H (.ref a::xs) ((k,v)::kvs)
theorem PairsAt.mono{H H':Hp}(g:Same H H'):∀{xs:List V}{kvs:List (Key×V)},PairsAt H xs kvs→PairsAt H' xs kvs
 |_,_,.nil=>.nil
 |_,_,.cons h r=>.cons (g _ _ h) (r.mono g)
theorem PairsAt.length{H:Hp}:∀{xs:List V}{kvs:List (Key×V)},PairsAt H xs kvs→xs.length=kvs.length
 |_,_,.nil=>rfl
 |_,_,.cons _ r=>yy (·+1) r.length
theorem PairsAt.append{H:Hp}:∀{xs ys:List V}{ks ls:List (Key×V)},PairsAt H xs ks→PairsAt H ys ls→PairsAt H (xs++ys) (ks++ls)
 |_,_,_,_,.nil,s=>s
 |_,_,_,_,.cons h r,s=>.cons h (r.append s)
theorem m6{P:Program}{w:World}{k:Key}{u:Value}(h:(ad P w).is k u=true):RelV (kV k) u:=by
 rcases Y0 (show dI k u=true from h) with⟨i,t,rfl,rfl⟩|⟨x,t,rfl,rfl⟩
 ·exact⟨t,rfl⟩
 ·exact⟨t,rfl⟩
theorem KV.get:∀{kvs:List (Key×V)}{ws:List (Key×Value)}{j:Nat}{p:Key×V}{q:Key×Value},KV kvs ws→kvs[j]?=some p→ws[j]?=some q→p.1=q.1∧RelV p.2 q.2
 |_,_,_,_,_,.nil,e,_=>by simp at e
 |_,_,0,_,_,.cons h _,e1,e2=>by
  simp at e1 e2;subst e1 e2;exact h
 |_,_,j+1,_,_,.cons _ r,e1,e2=>KV.get (j:=j) r (by simpa using e1) (by simpa using e2)
theorem P7:∀as:List Addr,Vals (as.map V.ref) (as.map Value.ref)
 | []=>.nil
 |_::as=>.cons rfl (P7 as)
def tRev(K:W.Frag)(te ts:TE):TE:=fun σ H Q=>te σ H fun x H1=>ts σ H1 fun y H2=>∃(a:Addr)(xs:List V),x=.ref a∧y=.int (-1)∧SqL K H2 a xs∧∀p,H2 p=none→Q (.ref p) (upd H2 p (.lst xs.reverse))
theorem uk{e st:Expr}{te ts:TE}{pos p2:Pos}(he:PE X e te)(hs:PE X st ts):PE X (.Subscript e (.Slice none none (some st) p2) pos) (tRev X.K te ts):=by
 intro or s σ H Q I h;refine Subscript_ (thn (he or s σ H _ I h) fun v s1 z8=>?_);obtain⟨x,H1,I1,r1,q1⟩:=z8;refine wpAny_Slice ?_;rw[evalPart_none];refine io (io ?_);rw[evalPart_some];refine thn (hs or s1 σ H1 _ I1 q1) fun vk s2 z8=>?_;obtain⟨y,H2,I2,r2,q2⟩:=z8;obtain⟨a,xs,rfl,rfl,hx,q⟩:=q2;cases r1;obtain⟨t,rfl⟩:=r2;have I4:Inv X or σ H2 {s2 with heap:=s2.heap.push {cls:=.type "slice",data:=.fields #[.none,.none,.int (-1) t]}}:=I2.kept (t':=s2.toks) fun b ob q=>az _ q;obtain⟨its,r,ht,hz⟩:=I4.list hx;have Al:=r.length;show wpAny (model X.prog X.w) X.A (subscriptTail e (.Slice none none (some st) p2) (.ref a) (.ref s2.heap.objs.size)) (EP X or σ Q) X.xe {s2 with heap:=s2.heap.push {cls:=.type "slice",data:=.fields #[.none,.none,.int (-1) t]}};refine tail_any (ops:=[.ref a,.ref s2.heap.objs.size]) ht.isList.typeIs slot_list_getitem.lookup ?_ (by with_unfolding_all rfl);refine wpAny_getItem_list_slice ht.isList (Heap.IsSliceOf.new ..) .none .none (.int (-1) t) (by decide) ?_ (by rw[xh];omega);rw[W.krv_pick];refine⟨.ref _,_,I4.laid (t':=s2.toks) (o:=.lst xs.reverse) (fun b ob q=>az _ q) (pi _) ?_,rfl,q _ (I4.hok.fresh (pi _))⟩;exact⟨by rw[List.length_reverse];exact hz,its.reverse,0,r.reverse,wD _ rfl⟩
theorem Inv.thaw{d:Addr}{o:Obj}{kvs:List (Key×V)}(nf:∀o u,X.H₀ d≠some (.frz o u))(I:Inv X or σ H s)(h:H d=some (.frz o (.dK kvs))):Inv X or σ (upd H d (.dK kvs)) s:=by
 have nd:∀b,H b=none→upd H d (.dK kvs) b=none:=fun b e=>by rw[Z9 (Ne.symm (Zh h e))];exact e
 have ot:∀b u,H b=some u→u≠.frz o (.dK kvs)→upd H d (.dK kvs) b=some u:=fun b u e n=>by rw[Z9 (mH e h n)];exact e
 refine⟨I.ok,I.os,I.bare,⟨I.base.keep,I.base.slot,fun b ob q n hx=>nd b (I.base.free b ob q n hx),I.base.there,fun b xs e=>ot b _ (I.base.tups b xs e) (by intro z;cases z),fun b ob u e=>?_,fun b ps e=>?_⟩,I.loc,I.cell,nd _ I.free,fun x c e=>nd c (I.freeC x c e),fun p hp=>?_,fun b u e=>?_,I.len⟩
 ·have hb:b≠d:=fun z=>nf ob u (by rw[←z];exact e);rw[Z9 hb];exact I.base.frzs b ob u e
 ·obtain⟨m,q⟩:=I.base.tbls b ps e;exact⟨m,ot b _ q (by intro z;cases z)⟩
 ·obtain⟨h1,h2,h3⟩:=I.pin p hp;exact⟨h1,nd _ h2,h3⟩
 ·by_cases hb:b=d
  ·subst hb;rw[Z5]at e;cases e;exact(I.hok b _ h).2
  ·rw[Z9 hb]at e;exact(I.hok b u e).stay (fun _ _ _ q=>q) (fun c q=>ot c _ q (by intro z;cases z)) fun c xs q=>ot c _ q (by intro z;cases z)
theorem Inv.freeze{d:Addr}{kvs:List (Key×V)}(I:Inv X or σ H s)(h:H d=some (.dK kvs)):∃o,Inv X or σ (upd H d (.frz o (.dK kvs))) s∧∀o u,X.H₀ d≠some (.frz o u):=by
 obtain⟨z,lo,vs,kv,o,es,ep,ho,r⟩:=(show ObjOk X.prog X.w H s.heap d (.dK kvs)from I.hok d _ h);refine⟨o,I.write (x:=d) (e:=d) (t':=s.toks) (h':=s.heap) (by rw[h];exact trivial) (.inl rfl) (fun _ _ _ q=>q) ⟨o,ho⟩ ⟨ho,z,lo,vs,kv,o,es,ep,ho,r⟩,fun o' u e=>?_⟩;have q:=I.base.frzs d o' u e;rw[h]at q;cases q
def tFrz(t:TE):TE:=fun σ H Q=>∃(d:Addr)(kvs:List (Key×V)),H d=some (.dK kvs)∧∀o,t σ (upd H d (.frz o (.dK kvs))) fun v H2=>H2 d=some (.frz o (.dK kvs))∧Q v (upd H2 d (.dK kvs))
theorem uc{e:Expr}{t:TE}(h:PE X e t):PE X e (tFrz t):=by
 intro or s σ H Q I hw;obtain⟨d,kvs,hd,q⟩:=hw;obtain⟨o,I1,nf⟩:=I.freeze hd;exact thn (h or s σ _ _ I1 (q o)) fun v s1 ⟨x,H1,I2,r,hd2,q2⟩=>⟨x,_,I2.thaw nf hd2,r,q2⟩
end
def vd(i j:Int):Prop:=0<j∧j<1000000000000000000000000000000000000000000000000000000000000
theorem pJ{X:Cx}:OpR X (binaryOp .FloorDiv) (rI vd fun i j=>.int (i / j)):=opI fun i j _ _ _ _ _ hc q=>by
 have h1:(0:Int)<j:=hc.1;have h2:j<1000000000000000000000000000000000000000000000000000000000000:=hc.2;refine floordiv_int (by omega) (by rw[Int.fdiv_eq_ediv_of_nonneg i (by omega)];exact q) (.inl (PyProof.noPylong_of_log2 ?_));have hn:j.natAbs≠0:=by omega
 have hl:j.natAbs<2^400:=xk (show j.natAbs<1000000000000000000000000000000000000000000000000000000000000 by omega) (by decide +kernel);exact yu ((Nat.log2_lt hn).mpr hl) (by decide)
def leS(a b:Str):Bool:=!decide (b.cps.toList<a.cps.toList)
theorem ma(a b:Str):(leS a b || leS b a)=true:=by
 unfold leS;by_cases h:b.cps.toList<a.cps.toList
 ·have h2:¬a.cps.toList<b.cps.toList:=fun q=>List.lt_irrefl _ (List.lt_trans h q);simp[h2]
 ·simp[h]
theorem Pg(a b c:Str)(h1:leS a b=true)(h2:leS b c=true):leS a c=true:=by
 unfold leS at *;simp only[Bool.not_eq_true',decide_eq_false_iff_not]at *;exact fun q=>(List.not_lt.mp h1:a.cps.toList≤b.cps.toList) |> fun x=>(List.le_trans x (List.not_lt.mp h2)) q
theorem Rr{a b:Str}(h1:leS a b=true)(h2:leS b a=true):a=b:=by
 unfold leS at *;simp only[Bool.not_eq_true',decide_eq_false_iff_not]at *;have e:a.cps.toList=b.cps.toList:=List.le_antisymm (List.not_lt.mp h1) (List.not_lt.mp h2);obtain⟨⟨x⟩⟩:=a;obtain⟨⟨y⟩⟩:=b;simp at e;rw[e]
def bf(zs:List Str):List Str:=zs.mergeSort leS
theorem Zn(zs:List Str):(bf zs).Perm zs:=List.mergeSort_perm _ _
theorem Uv(zs:List Str):(bf zs).Pairwise (fun a b=>leS a b=true):=List.pairwise_mergeSort Pg ma zs
theorem R6:∀{l m:List Str},l.Perm m→l.Pairwise (fun a b=>leS a b=true)→m.Pairwise (fun a b=>leS a b=true)→l=m
 | [],m,p,_,_=>List.Perm.nil_eq p
 |a::l,[],p,_,_=>absurd p.length_eq (by simp)
 |a::l,b::m,p,h1,h2=>by
  have e:a=b:=by
   rcases wX.mp (p.mem_iff.mp xf)with q | q
   ·exact q
   ·rcases wX.mp (p.mem_iff.mpr xf)with r | r
    ·exact r.symm
    ·exact Rr ((xc.mp h1).1 b r) ((xc.mp h2).1 a q)
  subst e;rw[R6 ((List.perm_cons a).mp p) (xc.mp h1).2 (xc.mp h2).2]
theorem R5:∀(p:Str)(l:List Str),risingS p l=true→(p::l).Pairwise (fun a b=>leS a b=true)
 |p,[],_=>List.pairwise_singleton _ _
 |p,x::r,h=>by
  have h:(!ltCps x.cps.toList p.cps.toList && risingS x r)=true:=h;rw[xJ]at h;have ih:=R5 x r h.2;have e:leS p x=true:=by
   unfold leS;rw[←ltCps_eq];exact h.1
  refine xc.mpr ⟨fun y hy=>?_,ih⟩
  rcases wX.mp hy with rfl | hy
  ·exact e
  ·exact Pg p x y e ((xc.mp ih).1 y hy)
theorem gX:∀{l:List Str},sortedS l=true→l.Pairwise (fun a b=>leS a b=true)
 | [],_=>List.Pairwise.nil
 |x::r,h=>R5 x r h
theorem qH{l zs:List Str}(p:l.Perm zs)(h:sortedS l=true):l=bf zs:=R6 (p.trans (Zn zs).symm) (gX h) (Uv zs)
section
variable{X:Cx}
theorem P1:∀{us:List Value}{zs:List Str},StrsAre us zs→Vals (zs.map V.str) us
 |_,_,.nil=>.nil
 |_,_,.cons x t r=>.cons ⟨t,rfl⟩ (P1 r)
def uQ:List V→Hp→VK→Prop:=fun xs H Q=>∃(d:Addr)(kvs:List (Key×V))(zs:List Str),xs=[.ref d]∧H d=some (.dK kvs)∧kvs.map (·.1)=zs.map Sum.inr∧zs.length<64∧∀p,H p=none→Q (.ref p) (upd H p (.lst ((bf zs).map V.str)))
theorem Ph{P:Program}{w:World}:∀{us:List Value}{ws:List (Key×Value)}{zs:List Str},us.length=ws.length→(∀(j:Nat)(u:Value),us[j]?=some u→∃k x,ws[j]?=some (k,x)∧(ad P w).is k u=true)→ws.map (·.1)=zs.map Sum.inr→StrsAre us zs
 | [],[],[],_,_,_=>.nil
 | [],[],_::_,_,_,e=>by simp at e
 | [],_::_,_,e,_,_=>by simp at e
 |_::_,[],_,e,_,_=>by simp at e
 |_::_,_::_,[],_,_,e=>by simp at e
 |u::us,(k,x)::ws,z::zs,hl,h,e=>by
  rw[xt,xt]at e;injection e with e1 e2
  obtain⟨k',x',q,hk⟩:=h 0 u rfl;have q:(k,x)=(k',x'):=by simpa using q
  cases q;have e1:k=Sum.inr z:=e1;subst e1;obtain⟨t,rfl⟩:=m6 hk;exact .cons z t (Ph (by simpa using hl) (fun j v hv=>by simpa using h (j+1) v (by simpa using hv)) e2)
theorem Qb(hc:X.calm=true):aV X (.builtin "sorted") uQ:=by
 intro or s σ H xs us Q I rx h;obtain⟨d,kvs,zs,rfl,hd,hzs,h64,q⟩:=h;obtain⟨u,rfl,ru⟩:=Xx rx;cases ru;obtain⟨_,lo,es,kv,hD⟩:=Pl I.hok hd;obtain⟨ep,hat⟩:=hD.dictAt;have kk:es.map (·.1)=zs.map Sum.inr:=by rw[←hzs,KV.keys kv]
 have hl:es.length=zs.length:=by
  have e:=yy List.length kk;rw[aq,aq]at e;exact e
 have hh:X.A.in1.handled=none:=by simpa using I.ok.hd hc
 refine Calls.call_function_entry kind_sorted plain_sorted entry_sorted (args_sorted1 _) ?_;unfold Builtin.«sorted»;refine ae (m:=checkCount "sorted" 1 1 _) (io ?_);refine ae (Se (A:=X.A.in1) (W.kdl_dict (knd:=ad X.prog X.w) (kvs:=es) (ep:=ep) lo) hh hat (Zf (by omega)) fun g tk Ai hk hsz hacc=>?_);have al:Ai.toList.length=es.length:=by rw[wG];exact hacc.1
 have hS:StrsAre Ai.toList zs:=Ph (P:=X.prog) (w:=X.w) al (fun j u e=>hacc.2 j u (by rw[←wI];exact e)) kk;refine ae (zW ?_ (by exact Zf (by omega)));have hoL:(g.push (seqObj "list" Ai.toList.toArray 0)).get? g.objs.size=some (seqObj "list" Ai.toList.toArray 0):=wD _ rfl;refine ae (xQ (x9 slot_list_sort ⟨_,hoL,rfl⟩ entry_list_sort (list_sort_treeK strKind_oneLt hoL hS.keysOf (fun v1 v2 rest e=>keyKind_strs (by rw[←e];exact hS)) (by omega) fun Aj b1 b2=>⟨_,rfl,?_⟩) (args_list_sort _)));refine io ⟨_,rfl,?_⟩;obtain⟨ss,a1,a2,a3⟩:=sorted_out_str hS b1 b2;have ess:=qH a2 a3;subst ess;obtain⟨e2,he2⟩:=sortedHeap_at (vs:=Ai.toList) (out:=(arrOf Aj).map (·.2)) hoL;have hz:s.heap.objs.size≤g.objs.size:=ye hsz;refine⟨.ref g.objs.size,_,I.laid (t':=tk) (o:=.lst ((bf zs).map V.str)) (fun b o e=>?_) hz ?_,rfl,q _ (I.hok.fresh hz)⟩
 ·have e':=hk b o e;have Ac:=wE e';rw[sortedHeap_old (wS Ac) (by rw[size_push'];exact yq Ac)];exact az _ e'
 ·refine⟨?_,((arrOf Aj).map (·.2)).toList,e2,P1 a1,by rw[Array.toArray_toList];exact he2⟩;rw[aq,(Zn zs).length_eq];exact Zf (by omega)
end
def eK(ns:List Int):List Int:=ns.mergeSort fun a b=>decide (a≤b)
theorem X0(ns:List Int):(eK ns).Perm ns:=List.mergeSort_perm _ _
theorem Sj(ns:List Int):(eK ns).Pairwise (·≤·):=by
 have h:=List.pairwise_mergeSort (le:=fun a b:Int=>decide (a≤b)) (by intro a b c h1 h2;simp at *;omega) (by intro a b;simp;omega) ns;exact h.imp fun h=>by simpa using h
theorem R7:∀{l m:List Int},l.Perm m→l.Pairwise (·≤·)→m.Pairwise (·≤·)→l=m
 | [],m,p,_,_=>List.Perm.nil_eq p
 |a::l,[],p,_,_=>absurd p.length_eq (by simp)
 |a::l,b::m,p,h1,h2=>by
  have e:a=b:=by
   rcases wX.mp (p.mem_iff.mp xf)with q | q
   ·exact q
   ·rcases wX.mp (p.mem_iff.mpr xf)with r | r
    ·exact r.symm
    ·have:=(xc.mp h1).1 b r;have:=(xc.mp h2).1 a q;omega
  subst e;rw[R7 ((List.perm_cons a).mp p) (xc.mp h1).2 (xc.mp h2).2]
theorem q_{l ns:List Int}(p:l.Perm ns)(h:l.Pairwise (·≤·)):l=eK ns:=R7 (p.trans (X0 ns).symm) h (Sj ns)
section
variable{X:Cx}
end
theorem Qo:typeLookup (.type "tuple") "keys"=pure none:=am_miss_of_fast (by decide +kernel)
theorem Sc:entryFor table "dict.update.loop"=some Builtin.«dict.update.loop»:=entryFor_of_tree (by kernel_rfl)
theorem W7:plainId "dict.update.loop"=true:=by decide +kernel
theorem v6{a:Addr}{xs:Array Value}{k:Nat}{sl:Array (Option Value)}{Q:Option Value→Shared→Prop}(hx:s.heap.get? a=some {cls:=.type "tuple",dict:=none,data:=.seq xs k,slots:=sl})(hA:A.handled=none)(h:∀g tk,(∀b o,s.heap.get? b=some o→g.get? b=some o)→Q none {s with heap:=g,toks:=tk}):wpAny (model prog w) A (getAttr? (.ref a) "keys") Q E s:=by
 obtain⟨hp,g,d,tk,os⟩:=s;have hT:∀tk',(⟨hp,g,d,tk',os⟩:Shared).TypeIs (.ref a) "tuple":=fun _=>⟨_,hx,rfl⟩;have f1:=sub_AttributeError;have f3:=F.slot_tuple_getattribute.lookup;have f4:=F.slot_tuple_getattribute.bind (.ref a);have f5:=am_tuple_getattr_none;unfold getAttr? getAttrBy? getAttrBy
 repeat (any_goals (first | assumption | exact hT _ | ((with_reducible show wpAny _ _ (call (Value.builtin "tuple.__getattribute__") _ _) _ _ _);refine call_meets F.slot_tuple_getattribute (hT _) am_entry_tuple_getattribute (F.args_tuple_getattribute_2 _ _) (meets_getattribute_miss_tuple a xs k sl "keys" _ Qo (by decide +kernel) (by decide +kernel)) ⟨hx,by simpa using hA,fun h' tk' e hx'=>?_⟩) | wp_step))
 obtain⟨t',u',he⟩:=hx'.there;show wpAny _ _ (getattributeRaised _ _ _ _ _ _ _) _ _ _;unfold getattributeRaised
 repeat (any_goals (first | assumption | wp_step))
 exact h _ _ hx'.keeps
def mT{κ:Type}[DecidableEq κ](knd:PySem.KeyKind prog w κ)(h:Heap)(p:κ×Value)(v:Value)(no:List Addr):Prop:=
 ∃a o key n,v=.ref a∧a∉no∧h.get? a=some o∧o.cls=.type "tuple"∧o.data=.seq #[key,p.2] n∧knd.is p.1 key=true
theorem mq{κ:Type}[DecidableEq κ]{knd:PySem.KeyKind prog w κ}{R:Result→Shared→Prop}{I:Addr}{fp wr:List Addr}{n:Nat}{P:Nat→Value→Prop}{St:Nat→Heap→Prop}(W:Walks prog w A.in1 I fp wr n P St)(D:Addr)(hD:D∉fp)(ps:List (κ×Value))(hpn:ps.length=n)(its:List Value)(hP:∀i v,P i v→its[i]?=some v)(hb:n≤100000):
  ∀(k i:Nat)(s:Shared),n-i=k→i≤n→St i s.heap→s.heap.DictOf knd D (merged [] (ps.take i))→(∀(j:Nat) p v,ps[j]?=some p→its[j]?=some v→mT knd s.heap p v (D::wr))→
   (∀g tk,(∀b o,b∉D::wr→s.heap.get? b=some o→g.get? b=some o)→g.DictOf knd D (merged [] ps)→R (.ok (.ret .none)) {s with heap:=g,toks:=tk})→
   codeAny (model prog w) A (.builtin "dict.update.loop" ⟨[.ref D,.ref I,rawInt i,.none],[]⟩) R s:=by
 have hDw:D∉wr:=fun q=>hD (W.sub _ q);intro k
 induction k with
 |zero=>
  intro i s hk hi st so tp fin;obtain rfl:i=n:=by omega
  refine ym Sc ?_;rw[yi W7 _];refine ae (m:=pyNext (.ref I)) (W.done s _ _ st fun h' tk kp=>?_);rw[←hpn,xp]at so;refine ae (m:=Builtin.Dict.addKeywords D []) (io (io (fin h' tk (fun b o nb e=>kp b o (fun q=>nb (xr _ q)) e) ?_)));obtain⟨o,es,ep,ho,r⟩:=so;exact⟨o,es,ep,kp D o hDw ho,r⟩
 |succ k ih=>
  intro i s hk hi st so tp fin;have Ac:i<n:=by omega
  refine ym Sc ?_;rw[yi W7 _];refine ae (m:=pyNext (.ref I)) (W.item i s _ _ Ac st fun v h1 tk1 pv st1 kp1=>?_);have hv:=hP i v pv;obtain⟨p,hp⟩:∃p,ps[i]?=some p:=⟨ps[i],xj (by omega)⟩;obtain⟨a,o,key,m,rfl,na,ha,hc,hd,hkey⟩:=tp i p v hp hv;have ha1:h1.get? a=some o:=kp1 a o (fun q=>na (xr _ q)) ha;have so1:h1.DictOf knd D (merged [] (ps.take i)):=by
   obtain⟨o,es,ep,ho,r⟩:=so;exact⟨o,es,ep,kp1 D o hDw ho,r⟩
  refine ae (xQ (ae (wpAny_tryCatch ?_)));unfold Builtin.Dict.pairItems;refine ae (zR (T:="tuple") ⟨o,ha1,hc⟩ ?_);rw[wM (by decide)];refine ae (m:=seqItems? (.ref a)) ?_;unfold seqItems?;refine ae (zZ ha1 ?_);rw[hd];refine io (io ?_);show wpAny _ _ (holding [key,p.2] (dictSet D key p.2)) _ _ _;have eb:=merged_length_le ([]:List (κ×Value)) (ps.take i);rw[wT]at eb;refine xQ (wpAny_dictSet_pairs (s:={s with heap:=h1,toks:=tk1}) hkey so1 (fun g so2 sb=>?_) (by
   have:(100000:Nat)≤sizeLine:=by decide
   simp at eb;omega))
  have so3:g.DictOf knd D (merged [] (ps.take (i+1))):=by rw[merged_take_succ _ _ _ _ hp];exact so2
  refine io ⟨zV W7 _,ih (i+1) _ (by omega) Ac (W.frame _ _ _ st1 fun b hb o e=>(sb.2 b fun q=>hD (by rw[←q];exact hb)).trans e) so3 (fun j p v h1' h2'=>?_) fun g' tk kp so'=>fin g' tk (fun b o nb e=>kp b o nb ?_) so'⟩
  ·obtain⟨a,o,key,m,rfl,na,ha,hc,hd,hkey⟩:=tp j p v h1' h2';exact⟨a,o,key,m,rfl,na,(sb.2 a fun q=>na (by rw[q];exact xf)).trans (kp1 a o (fun q=>na (xr _ q)) ha),hc,hd,hkey⟩
  ·exact(sb.2 b fun q=>nb (by rw[q];exact xf)).trans (kp1 b o (fun q=>nb (xr _ q)) e)
theorem S3{κ:Type}[DecidableEq κ]{knd:PySem.KeyKind prog w κ}{l:Addr}{its:List Value}{k:Nat}{sl:Array (Option Value)}{ps:List (κ×Value)}{Q:Value→Shared→Prop}(hh:A.handled=none)(hl:s.heap.get? l=some {cls:=.type "tuple",dict:=none,data:=.seq its.toArray k,slots:=sl})(Al:its.length=ps.length)(hb:ps.length≤100000)(hp:∀(j:Nat) p v,ps[j]?=some p→its[j]?=some v→mT knd s.heap p v [])(h:∀g tk,(∀b o,s.heap.get? b=some o→g.get? b=some o)→g.DictOf knd s.heap.objs.size (merged [] ps)→Q (.ref s.heap.objs.size) {s with heap:=g,toks:=tk}):wpAny (model prog w) A (call (.type "dict") [.ref l]) Q E s:=by
 refine callType_codes (Q₁:=fun obj s₁=>obj=.ref s.heap.objs.size∧s₁={s with heap:=s.heap.push {cls:=.type "dict",data:=.dict #[]}}) F.kt_called_dict (F.kt_typeCall_dict_1 _) F.entry_dict_init (kt_code_dict_new _ ⟨rfl,rfl⟩) ?_;rintro obj s₁ ⟨rfl,rfl⟩;have hnew:(s.heap.push {cls:=.type "dict",data:=.dict #[]}).DictOf knd s.heap.objs.size []:=Heap.DictOf.new s.heap;have hl1:(s.heap.push {cls:=.type "dict",data:=.dict #[]}).get? l=some {cls:=.type "tuple",dict:=none,data:=.seq its.toArray k,slots:=sl}:=az _ hl;refine⟨hnew.typeIs,F.args_dict_init_2 _ _,?_⟩;unfold Builtin.«dict.__init__»;refine ae ?_;unfold Builtin.Dict.selfAndRest;refine ae (wpAny_notOrdered_dict hnew.typeIs ?_);refine io (a:=(s.heap.objs.size,[Value.ref l])) ?_;show wpAny _ _ (Builtin.Dict.updateFrom "dict.__init__" s.heap.objs.size (.ref l) [] .none) _ _ _;unfold Builtin.Dict.updateFrom;refine ae (zR (T:="tuple") ⟨_,hl1,rfl⟩ ?_);rw[wM (by decide)];refine wpAny_bind (v6 hl1 (by simpa using hh) fun g tk kp=>?_);rw[wM (by rfl)];refine ae (yQ ?_);have ltD:s.heap.objs.size<g.objs.size:=by
  obtain⟨o,es,ep,ho,_⟩:=hnew;exact wE (kp _ _ ho)
 have ltl:l<s.heap.objs.size:=wE hl;have hl2:g.IsTuple l its.toArray:=⟨_,kp _ _ hl1,rfl,k,rfl⟩;refine ae (wpAny_pyIter_tuple hl2 (io ⟨zV W7 _,?_⟩));have hne:l≠g.objs.size:=wS (yu ltl ltD);have hh2:A.in1.in1.handled=none:=by simpa using hh
 have nin:s.heap.objs.size∉[g.objs.size,l]:=by
  simp only[List.mem_cons,List.not_mem_nil,or_false,not_or];exact⟨wS ltD,x4 ltl⟩
 have sz:ps.length=its.toArray.size:=by rw[xh];omega
 refine mq (knd:=knd) (A:=A.in1) (Walks.tuple hh2 g.objs.size l hne its.toArray) s.heap.objs.size nin ps sz its (fun i v e=>by simpa using e) (by omega) its.toArray.size 0 _ (Nat.sub_zero _) (Nat.zero_le _) ?st ?so ?tp ?fin
 case st=>exact⟨⟨_,wD _ rfl,rfl,rfl⟩,hl2.push _⟩
 case so=>
  obtain⟨o,es,ep,ho,r⟩:=hnew;exact⟨o,es,ep,az _ (kp _ _ ho),r⟩
 case tp=>
  intro j p v h1 h2;obtain⟨a,o,key,n,rfl,_,ha,r⟩:=hp j p v h1 h2;have lt:=wE ha;refine⟨a,o,key,n,rfl,?_,az _ (kp _ _ (az _ ha)),r⟩;simp only[List.mem_cons,List.not_mem_nil,or_false,not_or];exact⟨wS lt,wS (yu lt ltD)⟩
 case fin=>
  intro g' tk' kp' so';refine⟨rfl,h g' tk' (fun b o e=>kp' b o ?_ (az _ (kp _ _ (az _ e)))) so'⟩;have lt:=wE e;simp only[List.mem_cons,List.not_mem_nil,or_false,not_or];exact⟨wS lt,wS (yu lt ltD)⟩
section
variable{X:Cx}{or:List (Addr×Obj)}{σ:St}{H:Hp}{s:Shared}
theorem Rg(I:Inv X or σ H s):∀{ys:List V}{kvs:List (Key×V)}{us:List Value},PairsAt H ys kvs→Vals ys us→∃ws:List (Key×Value),KV kvs ws∧us.length=ws.length∧∀(j:Nat) p v,ws[j]?=some p→us[j]?=some v→mT (ad X.prog X.w) s.heap p v []
 |_,_,_,.nil,.nil=>⟨[],.nil,rfl,fun j p v e=>by simp at e⟩
 |_,_,_,.cons (a:=a) (k:=k) (v:=v) h r,.cons ru rr=>by
  obtain⟨ws,kv,hl,hp⟩:=Rg I r rr;cases ru;obtain⟨_,its,vs,⟨o,ho,hc,n,hd⟩⟩:=(show ObjOk X.prog X.w H s.heap a (.tup [kV k,v])from I.hok a _ h);cases vs with
  | @cons _ key _ _ r1 q=>
   cases q with
   | @cons _ x _ _ r2 q2=>
    cases q2;refine⟨(k,x)::ws,.cons ⟨rfl,r2⟩ kv,by simp[hl],fun j p u e1 e2=>?_⟩;cases j with
    |zero=>
     simp at e1 e2;subst e1 e2;exact⟨a,o,key,n,rfl,by simp,ho,hc.1,hd,fG r1⟩
    |succ j=>exact hp j p u (by simpa using e1) (by simpa using e2)
end
abbrev Ps:=List (Str×Int)
def ax(ps:Ps):List (Key×V):=ps.map fun p=>(Sum.inr p.1,V.int p.2)
def bd(ps:Ps):List Int:=ps.map (·.2)
theorem js(ps:Ps):(ax ps).map (·.2)=(bd ps).map V.int:=by unfold ax bd;rw[xD,xD];rfl
theorem Yc(ps:Ps):(ax ps).length=ps.length:=aq _
theorem e8(ps:Ps):(bd ps).length=ps.length:=aq _
theorem Wr(ps:Ps):(ax ps).map (·.1)=(ps.map (·.1)).map Sum.inr:=by unfold ax;rw[xD,xD];rfl
theorem Su:∀{ps:Ps}{i:Nat}{p:Str×Int},(ps.map (·.1)).Nodup→ps[i]?=some p→aX (ax ps) (Sum.inr p.1)=some (.int p.2)
 | [],_,_,_,e=>by simp at e
 |q::ps,0,p,_,e=>by
  have e:q=p:=by simpa using e
  subst e;exact Ur rfl
 |q::ps,i+1,p,h,e=>by
  have e':ps[i]?=some p:=by simpa using e
  have h:=xG.mp h;have ne:¬(Sum.inr q.1:Key)=Sum.inr p.1:=fun z=>h.1 (by show q.1∈_;rw[z6 z];exact wW.mpr ⟨p,wZ e',rfl⟩);exact(Us ne).trans (Su h.2 e')
theorem T6:∀(more Ai:List (Key×V)),((Ai++more).map (·.1)).Nodup→cb Ai more=Ai++more
 | [],Ai,_=>by rw[xF];rfl
 | (k,v)::more,Ai,h=>by
  have hn:aX Ai k=none:=by
   cases e:aX Ai k with
   |none=>rfl
   |some u=>
    have hk:=q4 e;rw[wO,y8]at h;exact absurd rfl (h.2.2 k hk k xf)
  show cb (bo Ai k v) more=_;rw[o_ v hn,T6 more _ (by rw[xw];exact h),xw];rfl
theorem Rn{kvs:List (Key×V)}(h:(kvs.map (·.1)).Nodup):cb [] kvs=kvs:=T6 kvs [] h
theorem mL{l:List Str}(h:l.Nodup):(l.map (Sum.inr:Str→Key)).Nodup:=by
 induction l with
 |nil=>exact xY
 |cons a l ih=>
  rw[xt,xG];refine⟨fun q=>?_,ih (xG.mp h).2⟩;obtain⟨b,hb,e⟩:=wW.mp q;exact(xG.mp h).1 (z6 e ▸ hb)
def pD(p:Str×Int):PyData:=.tuple [.str p.1,.int p.2]
theorem P9{H:Hp}:∀{ps:Ps}{ys:List V},PairsAt H ys (ax ps)→DVs H ys (ps.map pD)
 | [],_,h=>by cases h;exact .nil
 |p::ps,_,h=>by
  cases h with
  |cons e r=>exact .cons (.tup e (.cons (.str _) (.cons (.int _) .nil))) (P9 r)
structure Ty where
 room:Int
 cs:Ps
 lt:Int
 total:Int
def Ty.D(t:Ty):PyData:=.tuple [.int t.room,.tuple (t.cs.map pD),.int t.lt,.int t.total]
def Ty.sum(t:Ty):Int:=(bd t.cs).sum
structure Ty.Ok(t:Ty):Prop where
 room1:1≤t.room
 room2:t.room≤20
 nd:(t.cs.map (·.1)).Nodup
 rise:(t.cs.map (·.1)).Pairwise (fun a b=>leS a b=true)
 word:∀p∈t.cs,p.1∈words
 pos:∀p∈t.cs,1≤p.2
 len:(t.cs.length:Int)≤t.room
 lt0:0≤t.lt
 lo:(t.room+1)*t.lt≤t.total-t.sum
 hi:t.total-t.sum≤2*t.room*t.lt
theorem DVs.pairs_inv{H:Hp}:∀{ps:Ps}{ys:List V},DVs H ys (ps.map pD)→PairsAt H ys (ax ps)
 | [],_,h=>by rw[h.nil_inv];exact .nil
 |p::ps,_,h=>by
  obtain⟨x,r,rfl,h1,h2⟩:=DVs.cons_inv h;obtain⟨a,xs,rfl,e,q⟩:=DV.tup_inv h1;obtain⟨_,_,rfl,k1,q⟩:=q.cons_inv;obtain⟨_,_,rfl,k2,q⟩:=q.cons_inv;have:=q.nil_inv;subst this;cases k1;cases k2;exact .cons e (DVs.pairs_inv h2)
theorem DV.ty_inv{H:Hp}{v:V}{t:Ty}(h:DV H v t.D):∃a b rows,v=.ref a∧H a=some (.tup [.int t.room,.ref b,.int t.lt,.int t.total])∧H b=some (.tup rows)∧PairsAt H rows (ax t.cs):=by
 obtain⟨a,xs,rfl,e,q⟩:=DV.tup_inv h;obtain⟨_,_,rfl,k1,q⟩:=q.cons_inv;obtain⟨_,_,rfl,k2,q⟩:=q.cons_inv;obtain⟨_,_,rfl,k3,q⟩:=q.cons_inv;obtain⟨_,_,rfl,k4,q⟩:=q.cons_inv;have:=q.nil_inv;subst this;cases k1;cases k3;cases k4;obtain⟨b,rows,rfl,e2,q2⟩:=DV.tup_inv k2;exact⟨a,b,rows,rfl,e,e2,DVs.pairs_inv q2⟩
theorem Ty.dv{H:Hp}{a b:Addr}{rows:List V}{t:Ty}(e:H a=some (.tup [.int t.room,.ref b,.int t.lt,.int t.total]))(e2:H b=some (.tup rows))(p:PairsAt H rows (ax t.cs)):DV H (.ref a) t.D:=
 .tup e (.cons (.int _) (.cons (.tup e2 (P9 p)) (.cons (.int _) (.cons (.int _) .nil))))
def look(ps:Ps)(z:Str):Int:=match ps with
 | []=>0
 |p::r=>if p.1=z then p.2 else look r z
theorem Xg:∀{ps:Ps}{p:Str×Int},(ps.map (·.1)).Nodup→p∈ps→look ps p.1=p.2
 |q::ps,p,h,hp=>by
  rcases wX.mp hp with rfl | hp
  ·exact wM rfl
  ·have h:=xG.mp h;have ne:q.1≠p.1:=fun e=>h.1 (by show q.1∈_;rw[e];exact wW.mpr ⟨p,hp,rfl⟩);show(if q.1=p.1 then q.2 else look ps p.1)=p.2;rw[wK ne];exact Xg h.2 hp
theorem fY{ps:Ps}{z:Str}(h:(ps.map (·.1)).Nodup)(hz:z∈ps.map (·.1)):aX (ax ps) (Sum.inr z)=some (.int (look ps z)):=by
 obtain⟨p,hp,rfl⟩:=wW.mp hz;obtain⟨i,hi⟩:=xL.mp hp;rw[Xg h hp];exact Su h hi
theorem fU{ps:Ps}(h:(ps.map (·.1)).Nodup):(ps.map (·.1)).map (fun z=>(z,look ps z))=ps:=by
 rw[xD];have e:∀p∈ps,((fun z=>(z,look ps z))∘fun p:Str×Int=>p.1) p=p:=fun p hp=>by
  show(p.1,look ps p.1)=p;rw[Xg h hp]
 rw[List.map_congr_left e];exact List.map_id _
theorem fZ{l m:List Int}(p:l.Perm m):l.sum=m.sum:=by
 induction p with
 |nil=>rfl
 |cons x _ ih=>rw[xR,xR,ih]
 |swap x y l=>simp only[List.sum_cons];omega
 |trans _ _ a b=>exact a.trans b
theorem PenAt.tup{H:Hp}{a p:Addr}{xs:List V}(h:PenAt H a)(e:H p=some (.tup xs)):am a H p=some (.tup xs):=by
 have ne:p≠a:=fun q=>by
  subst q;obtain⟨_,_,_,e'⟩:=h;rw[e]at e';cases e'
 rw[Ze ne];exact e
theorem PairsAt.get{H:Hp}:∀{xs:List V}{kvs:List (Key×V)},PairsAt H xs kvs→∀{i:Nat}{x:V},xs[i]?=some x→∃(a:Addr)(k:Key)(v:V),x=.ref a∧kvs[i]?=some (k,v)∧H a=some (.tup [kV k,v])
 |_,_,.nil,i,x,e=>by simp at e
 |_,_,.cons (a:=a) (k:=k) (v:=v) h r,0,x,e=>⟨a,k,v,by simpa using e.symm,rfl,h⟩
 |_,_,.cons h r,i+1,x,e=>by
  obtain⟨a,k,v,e1,e2,e3⟩:=PairsAt.get r (show _ by simpa using e);exact⟨a,k,v,e1,by simpa using e2,e3⟩
theorem PairsAt.getP{H:Hp}{xs:List V}{ps:Ps}(h:PairsAt H xs (ax ps)){i:Nat}{x:V}(e:xs[i]?=some x):∃(a:Addr)(p:Str×Int),x=.ref a∧ps[i]?=some p∧H a=some (.tup [.str p.1,.int p.2]):=by
 obtain⟨a,k,v,e1,e2,e3⟩:=h.get e;unfold ax at e2;rw[xi]at e2;obtain⟨p,hp,q⟩:=xm.mp e2;cases q;exact⟨a,p,e1,hp,e3⟩
theorem Yn:∀{ps:Ps}{z:Str},z∉ps.map (·.1)→look ps z=0
 | [],_,_=>rfl
 |p::ps,z,h=>by
  rw[xt,wX,not_or]at h;show(if p.1=z then p.2 else look ps z)=0;rw[wK (Ne.symm h.1)];exact Yn h.2
theorem oP(ps qs:Ps)(z:Str):look (ps++qs) z=if z∈ps.map (·.1)then look ps z else look qs z:=by
 induction ps with
 |nil=>rfl
 |cons p ps ih=>
  show(if p.1=z then p.2 else look (ps++qs) z)=if z∈(p::ps).map (·.1) then(if p.1=z then p.2 else look ps z)else look qs z
  by_cases e:p.1=z
  ·rw[wM e,wM e,wM (by rw[xt,e];exact xf)]
  ·rw[wK e,wK e,ih];by_cases h:z∈ps.map (·.1)
   ·rw[wM h,wM (show z∈(p::ps).map (·.1)from xr _ h)]
   ·rw[wK h,wK];rw[xt,wX,not_or];exact⟨Ne.symm e,h⟩
section
variable{X:Cx}
def tF:List V→Hp→VK→Prop:=fun xs H Q=>∃(l:Addr)(ys:List V)(kvs:List (Key×V)),xs=[.ref l]∧H l=some (.tup ys)∧PairsAt H ys kvs∧kvs.length≤1000∧∀p,H p=none→Q (.ref p) (upd H p (.dK (cb [] kvs)))
theorem Qc(hc:X.calm=true):aV X (.type "dict") tF:=by
 intro or s σ H xs us Q I rx h;obtain⟨l,ys,kvs,rfl,hq,pa,Al,q⟩:=h;obtain⟨u,rfl,ru⟩:=Xx rx;cases ru;obtain⟨_,its,rv,⟨⟨c0,d0,dt0,sl0⟩,ho,hcl,m,hs⟩⟩:=(show ObjOk X.prog X.w H s.heap l (.tup ys)from I.hok l _ hq);simp only at hcl hs;obtain⟨hcl,hdn⟩:=hcl;subst hcl hdn hs;obtain⟨ws,kv,hl,hp⟩:=Rg I pa rv;have kl:=kv.length;refine S3 (knd:=ad X.prog X.w) (I.ok.hd hc) ho hl (by omega) hp fun g tk kp hD=>?_;refine⟨.ref s.heap.objs.size,_,I.laid (t':=tk) (o:=.dK (cb [] kvs)) kp (pi _) ?_,rfl,q _ (I.hok.fresh (pi _))⟩;have ml:=U8 kvs [];refine⟨Zf (by simp at ml;omega),?_,_,KV.merge kv .nil,hD⟩;exact beq_eq_false_iff_ne.mpr (x4 I.big)
end
def srt(ns:List Int):List Int:=ns.mergeSort fun a b=>decide (b≤a)
theorem Wi(ns:List Int):(srt ns).Perm ns:=List.mergeSort_perm _ _
theorem O6(ns:List Int):(srt ns).Pairwise (· ≥ ·):=by
 have h:=List.pairwise_mergeSort (le:=fun a b:Int=>decide (b≤a)) (by intro a b c h1 h2;simp at *;omega) (by intro a b;simp;omega) ns;exact h.imp fun h=>by simpa using h
theorem jW:∀{l m:List Int},l.Perm m→l.Pairwise (· ≥ ·)→m.Pairwise (· ≥ ·)→l=m
 | [],m,p,_,_=>(List.Perm.nil_eq p)
 |a::l,[],p,_,_=>absurd p.length_eq (by simp)
 |a::l,b::m,p,h1,h2=>by
  have ha:a∈b::m:=p.mem_iff.mp xf;have hb:b∈a::l:=p.mem_iff.mpr xf;have le1:b ≥ a:=by
   rcases wX.mp ha with e | e
   ·omega
   ·exact(xc.mp h2).1 a e
  have le2:a ≥ b:=by
   rcases wX.mp hb with e | e
   ·omega
   ·exact(xc.mp h1).1 b e
  have e:a=b:=by omega
  subst e;rw[jW ((List.perm_cons a).mp p) (xc.mp h1).2 (xc.mp h2).2]
theorem nF{ms ns:List Int}(p:ms.Perm ns)(h:ms.Pairwise (· ≥ ·)):ms=srt ns:=jW (p.trans (Wi ns).symm) h (O6 ns)
theorem kG{ms ns:List Int}(p:ms.Perm ns):srt ms=srt ns:=nF ((Wi ms).trans p) (O6 ms)
def cX(room:Int)(ns:List Int):Int:=if (ns.length:Int)≤room then 0 else(srt ns).getD room.toNat 0
theorem im{ms ns:List Int}(p:ms.Perm ns)(room:Int):cX room ms=cX room ns:=by
 unfold cX;rw[p.length_eq,kG p]
theorem Q1:∀{l:List Int}{i:Nat}{c:Int},l.Pairwise (· ≥ ·)→l[i]?=some c→(l.filter fun x=>decide (c<x)).length≤i
 | [],_,_,_,e=>by simp at e
 |a::l,0,c,h,e=>by
  have e:a=c:=by simpa using e
  subst e;have:∀x∈a::l,¬a<x:=fun x hx=>by
   rcases wX.mp hx with q | q
   ·omega
   ·have:=(xc.mp h).1 x q;omega
  rw[List.filter_eq_nil_iff.mpr fun x hx=>by simpa using this x hx];exact pi _
 |a::l,i+1,c,h,e=>by
  have ih:=Q1 (List.pairwise_cons.mp h).2 (show l[i]?=some c by simpa using e);rw[xC]
  split
  ·rw[xq];omega
  ·omega
theorem Pk:∀{l:List Int}{i:Nat}{c:Int},l.Pairwise (· ≥ ·)→l[i]?=some c→i<(l.filter fun x=>decide (c≤x)).length
 | [],_,_,_,e=>by simp at e
 |a::l,0,c,h,e=>by
  have e:a=c:=by simpa using e
  subst e;rw[xC];simp
 |a::l,i+1,c,h,e=>by
  have e':l[i]?=some c:=by simpa using e
  have ih:=Pk (xc.mp h).2 e';have:c≤a:=(xc.mp h).1 c (wZ e');rw[List.filter_cons,if_pos (by simpa using this),List.length_cons];omega
theorem V7(c:Int):∀l:List Int,(l.filter fun x=>decide (c≤x)).length=(l.filter fun x=>decide (c<x)).length+l.count c
 | []=>rfl
 |a::l=>by
  have ih:=V7 c l;rw[xC,xC,List.count_cons];by_cases h1:c<a
  ·have h2:c≤a:=by omega
   have h3:¬a=c:=by omega
   simp[h1,h2,h3];omega
  ·by_cases h3:a=c
   ·subst h3;simp;omega
   ·have h2:¬c≤a:=by omega
    simp[h1,h2,h3];omega
theorem Xc{room:Int}{ns:List Int}(h0:0≤room)(h:room<ns.length):∃c,(srt ns)[room.toNat]?=some c∧cX room ns=c∧c∈ns∧((ns.filter fun x=>decide (c<x)).length:Int)≤room∧room<(ns.filter fun x=>decide (c<x)).length+ns.count c:=by
 have hl:(srt ns).length=ns.length:=(Wi ns).length_eq;have hi:room.toNat<(srt ns).length:=by omega
 have e:(srt ns)[room.toNat]?=some (srt ns)[room.toNat]:=xj hi;refine⟨_,e,?_,(Wi ns).mem_iff.mp (List.getElem_mem hi),?_,?_⟩
 ·unfold cX;rw[wK (by omega),yB,e];rfl
 ·have q:=Q1 (O6 ns) e;rw[((Wi ns).filter _).length_eq]at q;omega
 ·have q:=Pk (O6 ns) e;rw[((Wi ns).filter _).length_eq,V7]at q;omega
def af(ps qs:Ps):List Str:=ps.map (·.1)++(qs.map (·.1)).filter fun z=>decide (z∉ps.map (·.1))
def aj(ps qs:Ps)(z:Str):Int:=look ps z+look qs z
def ar(room:Int)(ps qs:Ps):Int:=cX room ((af ps qs).map (aj ps qs))
def csM(room:Int)(ps qs:Ps):Ps:=((bf (af ps qs)).filter fun z=>decide (ar room ps qs<aj ps qs z)).map fun z=>(z,aj ps qs z-ar room ps qs)
def aL(a b:Ty):Ty:=⟨a.room,csM a.room a.cs b.cs,a.lt+b.lt+ar a.room a.cs b.cs,a.total+b.total⟩
theorem Xl{ps qs:Ps}(h:(ps.map (·.1)).Nodup)(g:(qs.map (·.1)).Nodup):(af ps qs).Nodup:=by
 refine y8.mpr ⟨h,g.sublist zj,fun a ha b hb e=>?_⟩;subst e;exact wU (xW.mp hb).2 ha
theorem Y3{ps qs:Ps}{z:Str}:z∈af ps qs↔z∈ps.map (·.1)∨z∈qs.map (·.1):=by
 unfold af;rw[wY,xW];by_cases h:z∈ps.map (·.1)
 ·exact⟨fun _=>.inl h,fun _=>.inl h⟩
 ·refine⟨fun q=>q.elim .inl fun q=>.inr q.1,fun q=>q.elim .inl fun q=>.inr ⟨q,wV h⟩⟩
theorem V1{ps qs:Ps}(h:(ps.map (·.1)).Nodup)(g:(qs.map (·.1)).Nodup):(af ps qs).Perm (af qs ps):=
 (List.perm_ext_iff_of_nodup (Xl h g) (Xl g h)).mpr fun z=>by rw[Y3,Y3];exact Or.comm
theorem Tm(ps qs:Ps):aj ps qs=aj qs ps:=by
 funext z
 exact Int.add_comm _ _
theorem Pm{ps qs:Ps}(h:(ps.map (·.1)).Nodup)(g:(qs.map (·.1)).Nodup)(room:Int):ar room ps qs=ar room qs ps:=by
 unfold ar;rw[Tm];exact im ((V1 h g).map _) room
theorem jb{l m:List Str}(p:l.Perm m):bf l=bf m:=R6 ((Zn l).trans (p.trans (Zn m).symm)) (Uv l) (Uv m)
theorem T8{ps:Ps}(h:∀p∈ps,1≤p.2)(z:Str):0≤look ps z:=by
 induction ps with
 |nil=>exact z5 _
 |cons p ps ih=>
  show 0≤if p.1=z then p.2 else look ps z
  have:=h p xf;have:=ih fun q hq=>h q (xr _ hq)
  split <;> omega
theorem T7{ps:Ps}(h:∀p∈ps,1≤p.2)(nd:(ps.map (·.1)).Nodup){z:Str}(hz:z∈ps.map (·.1)):1≤look ps z:=by
 obtain⟨p,hp,rfl⟩:=wW.mp hz;rw[Xg nd hp];exact h p hp
theorem Vm(room:Int)(ps qs:Ps):(csM room ps qs).map (·.1)=(bf (af ps qs)).filter fun z=>decide (ar room ps qs<aj ps qs z):=by
 unfold csM;rw[xD];exact List.map_id _
theorem oY{room:Int}{ps qs:Ps}(h:(ps.map (·.1)).Nodup)(g:(qs.map (·.1)).Nodup):((csM room ps qs).map (·.1)).Nodup:=by
 rw[Vm];exact((Zn _).nodup_iff.mpr (Xl h g)).sublist zj
theorem nz{room:Int}{ps qs:Ps}(h:(ps.map (·.1)).Nodup)(g:(qs.map (·.1)).Nodup)(c0:0≤ar room ps qs)(z:Str):
  look (csM room ps qs) z=if ar room ps qs<aj ps qs z then aj ps qs z-ar room ps qs else 0:=by
 by_cases hz:z∈(csM room ps qs).map (·.1)
 ·have e:=hz;rw[Vm]at e;obtain⟨e1,e2⟩:=xW.mp e;rw[wM (wU e2)];exact Xg (p:=(z,aj ps qs z-ar room ps qs)) (oY h g) (wW.mpr ⟨z,e,rfl⟩)
 ·rw[Yn hz]
  split
  ·rename_i lt;refine absurd ?_ hz;rw[Vm];refine xW.mpr ⟨(Zn _).mem_iff.mpr (Y3.mpr ?_),wV lt⟩;by_cases h1:z∈ps.map (·.1)
   ·exact .inl h1
   ·by_cases h2:z∈qs.map (·.1)
    ·exact .inr h2
    ·have:aj ps qs z=0:=by unfold aj;rw[Yn h1,Yn h2];rfl
     omega
  ·rfl
theorem jw(c:Int)(hc:0≤c):∀l:List Int,(∀x∈l,0≤x)→c*(l.filter fun x=>decide (c≤x)).length≤l.sum-((l.filter fun x=>decide (c<x)).map fun x=>x-c).sum∧l.sum-((l.filter fun x=>decide (c<x)).map fun x=>x-c).sum≤c*l.length
 | [],_=>by simp
 |a::l,h=>by
  obtain⟨i1,i2⟩:=jw c hc l fun x hx=>h x (xr _ hx);have ha:=h a xf;rw[xC,xC,xR,xq];by_cases h1:c<a
  ·have h2:c≤a:=by omega
   simp only[h1,h2,decide_true,if_true,List.length_cons,List.map_cons,List.sum_cons,Int.natCast_add,Int.mul_add,Int.natCast_one,Int.mul_one];omega
  ·by_cases h3:c≤a
   ·simp only[h1,h3,decide_true,decide_false,if_true,List.length_cons,Int.natCast_add,Int.mul_add,Int.natCast_one,Int.mul_one];simp;omega
   ·simp only[h1,h3,decide_false,Int.natCast_add,Int.mul_add,Int.natCast_one,Int.mul_one];simp;omega
theorem jF(f g:Str→Int):∀l:List Str,(l.map fun z=>f z+g z).sum=(l.map f).sum+(l.map g).sum
 | []=>rfl
 |a::l=>by
  rw[xt,xt,xt,xR,xR,xR,jF f g l];omega
theorem N9(f:Str→Int):∀l:List Str,(∀z∈l,f z=0)→(l.map f).sum=0
 | [],_=>rfl
 |a::l,h=>by
  rw[xt,xR,h a xf,N9 f l fun z hz=>h z (xr _ hz)];rfl
theorem kC{ps:Ps}(h:(ps.map (·.1)).Nodup):(ps.map (·.1)).map (look ps)=bd ps:=by
 have e:=yy (List.map Prod.snd) (fU h);rw[xD]at e;exact e
theorem Rt{ps qs:Ps}(h:(ps.map (·.1)).Nodup):((af ps qs).map (look ps)).sum=(bd ps).sum:=by
 unfold af;rw[wO,x8,kC h,N9 (look ps) _ fun z hz=>Yn (wU (xW.mp hz).2)];omega
theorem kW{ps qs:Ps}(h:(ps.map (·.1)).Nodup)(g:(qs.map (·.1)).Nodup):((af ps qs).map (aj ps qs)).sum=(bd ps).sum+(bd qs).sum:=by
 show((af ps qs).map fun z=>look ps z+look qs z).sum=_;rw[jF,Rt h,fZ ((V1 h g).map (look qs)),Rt g]
theorem Xb(ps qs:Ps):(af ps qs).length≤ps.length+qs.length:=by
 unfold af;rw[wH,aq];have:=xV (fun z=>decide (z∉ps.map (·.1))) (qs.map (·.1));rw[aq]at this;omega
theorem qZ{room:Int}{ns:List Int}(h0:0≤room)(h:∀x∈ns,0≤x):0≤cX room ns:=by
 by_cases q:(ns.length:Int)≤room
 ·unfold cX;rw[wM q];exact z5 _
 ·obtain⟨c,_,e,m,_⟩:=Xc h0 (Int.not_le.mp q);rw[e];exact h c m
theorem O5{a b:Ty}(h:a.Ok)(g:b.Ok)(z:Str):0≤aj a.cs b.cs z:=Int.add_nonneg (T8 h.pos z) (T8 g.pos z)
theorem qX{a b:Ty}(h:a.Ok)(g:b.Ok):0≤ar a.room a.cs b.cs:=by
 have:=h.room1;refine qZ (by omega) fun x hx=>?_;obtain⟨z,_,rfl⟩:=wW.mp hx;exact O5 h g z
theorem Q0(f:Str→Int)(p:Int→Bool):∀l:List Str,((l.map f).filter p).length=(l.filter fun z=>p (f z)).length:=fun l=>by
 rw[List.filter_map,aq];rfl
theorem ji{a b:Ty}(h:a.Ok)(g:b.Ok):((csM a.room a.cs b.cs).length:Int)≤a.room:=by
 have h0:=h.room1;unfold csM;rw[aq,((Zn (af a.cs b.cs)).filter _).length_eq];have e:=Q0 (aj a.cs b.cs) (fun x=>decide (ar a.room a.cs b.cs<x)) (af a.cs b.cs);by_cases q:(((af a.cs b.cs).map (aj a.cs b.cs)).length:Int)≤a.room
 ·have:=xV (fun z=>decide (ar a.room a.cs b.cs<aj a.cs b.cs z)) (af a.cs b.cs);rw[aq]at q;omega
 ·obtain⟨c,_,e2,_,le,_⟩:=Xc (show 0≤a.room by omega) (Int.not_le.mp q);have e3:ar a.room a.cs b.cs=c:=e2;rw[e3]at e⊢;omega
theorem qL(room:Int)(ps qs:Ps):(bd (csM room ps qs)).sum=((((af ps qs).map (aj ps qs)).filter fun x=>decide (ar room ps qs<x)).map fun x=>x-ar room ps qs).sum:=by
 unfold bd csM;rw[xD,fZ (((Zn (af ps qs)).filter _).map _),List.filter_map,xD];rfl
theorem Xa{a b:Ty}(h:a.Ok)(g:b.Ok)(r:a.room=b.room):(aL a b).Ok:=by
 have h0:=h.room1;have c0:=qX h g;have l1:=h.len;have l2:=g.len;refine⟨h.room1,h.room2,oY h.nd g.nd,?_,fun p hp=>?_,fun p hp=>?_,ji h g,?_,?_,?_⟩
 ·show((csM a.room a.cs b.cs).map (·.1)).Pairwise _;rw[Vm];exact(Uv _).sublist zj
 ·have e:p.1∈(csM a.room a.cs b.cs).map (·.1):=wW.mpr ⟨p,hp,rfl⟩;rw[Vm]at e
  rcases Y3.mp ((Zn _).mem_iff.mp (xW.mp e).1)with q | q
  ·obtain⟨x,hx,e⟩:=wW.mp q;rw[←e];exact h.word x hx
  ·obtain⟨x,hx,e⟩:=wW.mp q;rw[←e];exact g.word x hx
 ·obtain⟨z,hz,rfl⟩:=wW.mp (show p∈csM a.room a.cs b.cs from hp);have:=wU (xW.mp hz).2;show 1≤aj a.cs b.cs z-ar a.room a.cs b.cs;omega
 ·have:=h.lt0;have:=g.lt0;show 0≤a.lt+b.lt+ar a.room a.cs b.cs;omega
 all_goals
  have S:=kW h.nd g.nd;have T:=qL a.room a.cs b.cs;have C:=jw (ar a.room a.cs b.cs) c0 ((af a.cs b.cs).map (aj a.cs b.cs)) fun x hx=>by
   obtain⟨z,_,rfl⟩:=wW.mp hx;exact O5 h g z
  rw[←T,S]at C;have kl:=Xb a.cs b.cs;have lo1:=h.lo;have lo2:=g.lo;have hi1:=h.hi;have hi2:=g.hi;unfold Ty.sum at lo1 lo2 hi1 hi2;rw[←r]at lo2 hi2 l2
 ·show(a.room+1)*(a.lt+b.lt+ar a.room a.cs b.cs)≤a.total+b.total-(bd (csM a.room a.cs b.cs)).sum;have m:(a.room+1)*ar a.room a.cs b.cs≤(bd a.cs).sum+(bd b.cs).sum-(bd (csM a.room a.cs b.cs)).sum:=by
   refine Int.le_trans ?_ C.1;by_cases q:(((af a.cs b.cs).map (aj a.cs b.cs)).length:Int)≤a.room
   ·have e:ar a.room a.cs b.cs=0:=wM q;rw[e];omega
   ·obtain⟨c,_,e2,_,_,le⟩:=Xc (show 0≤a.room by omega) (Int.not_le.mp q);have e3:ar a.room a.cs b.cs=c:=e2;rw[←e3]at le;rw[Int.mul_comm];refine Int.mul_le_mul_of_nonneg_left ?_ c0;rw[V7];omega
  rw[Int.mul_add,Int.mul_add];omega
 ·show a.total+b.total-(bd (csM a.room a.cs b.cs)).sum≤2*a.room*(a.lt+b.lt+ar a.room a.cs b.cs);have m:(bd a.cs).sum+(bd b.cs).sum-(bd (csM a.room a.cs b.cs)).sum≤2*a.room*ar a.room a.cs b.cs:=by
   refine Int.le_trans C.2 ?_;rw[Int.mul_comm];refine Int.mul_le_mul_of_nonneg_right ?_ c0;rw[aq];omega
  rw[Int.mul_add,Int.mul_add];omega
def Cx.ren(X:Cx)(N':List Str):Cx:={X with N:=N'}
theorem Cx.Ok.ren{X:Cx}{N':List Str}(o:X.Ok):(X.ren N').Ok:=⟨o.mod,o.kind,o.glob,o.blt,o.above,o.inj,o.has,o.cab,o.hd,o.frames,o.stk,o.exf,o.bs,o.bsz,o.noex,o.exfs,o.funs,o.frf⟩
theorem Cx.Ok.unren{X:Cx}{N':List Str}(o:(X.ren N').Ok):X.Ok:=⟨o.mod,o.kind,o.glob,o.blt,o.above,o.inj,o.has,o.cab,o.hd,o.frames,o.stk,o.exf,o.bs,o.bsz,o.noex,o.exfs,o.funs,o.frf⟩
def Hid:List Str→List Str→St→Prop
 | [],[],[]=>True
 |a::N,b::N',o::σ=>(a=b∨o=none)∧Hid N N' σ
 |_,_,_=>False
theorem Hid.at:∀{N N':List Str}{σ:St},Hid N N' σ→∀i:Nat,N[i]?=N'[i]?∨σ[i]?=some none
 | [],[],[],_,i=>.inl rfl
 |a::N,b::N',o::σ,h,0=>by
  rcases h.1 with q | q
  ·exact .inl (by rw[q];rfl)
  ·exact .inr (by rw[q];rfl)
 |a::N,b::N',o::σ,h,i+1=>by
  simpa using Hid.at (N:=N) (N':=N') (σ:=σ) h.2 i
section
variable{X:Cx}{N':List Str}{or:List (Addr×Obj)}{σ:St}{H:Hp}{s:Shared}
theorem Inv.ren(I:Inv X or σ H s)(hl:N'.length=X.N.length)(h:Hid X.N N' σ):Inv (X.ren N') or σ H s:=by
 refine⟨I.ok.ren,I.os,I.bare,I.base,?_,I.cell,I.free,I.freeC,I.pin,I.hok,I.len.trans hl.symm⟩;obtain⟨m,hn,hm⟩:=I.loc;refine⟨m,hn,fun i x v e1 e2 e3=>hm i x v ?_ e2 e3⟩
 rcases h.at i with q | q
 ·exact q.trans e1
 ·rw[e2]at q;cases q
theorem Inv.unren(I:Inv (X.ren N') or σ H s)(hl:N'.length=X.N.length)(h:Hid X.N N' σ):Inv X or σ H s:=by
 refine⟨I.ok.unren,I.os,I.bare,I.base,?_,I.cell,I.free,I.freeC,I.pin,I.hok,I.len.trans hl⟩;obtain⟨m,hn,hm⟩:=I.loc;refine⟨m,hn,fun i x v e1 e2 e3=>hm i x v ?_ e2 e3⟩
 rcases h.at i with q | q
 ·exact q.symm.trans e1
 ·rw[e2]at q;cases q
def tRen(N N':List Str)(t:TE):TE:=fun σ H Q=>Hid N N' σ∧t σ H Q
theorem uE{e:Expr}{t:TE}(N':List Str)(h:PE (X.ren N') e t)(hl:N'.length=X.N.length:=by rfl):PE X e (tRen X.N N' t):=by
 intro or s σ H Q I q;exact thn (h or s σ H Q (I.ren hl q.1) q.2) fun u s1 ⟨x,H1,I1,r1,q1⟩=>⟨x,H1,I1.unren hl q.1,r1,q1⟩
theorem Inv.forget(I:Inv X or σ H s)(i:Nat):Inv X or (σ.set i none) H s:=by
 refine⟨I.ok,I.os,I.bare,I.base,?_,I.cell,I.free,I.freeC,I.pin,I.hok,by rw[List.length_set];exact I.len⟩;obtain⟨m,hn,hm⟩:=I.loc;refine⟨m,hn,fun j x v e1 e2 e3=>hm j x v e1 ?_ e3⟩;by_cases e:i=j
 ·subst e;rw[List.getElem?_set_self']at e2;cases q:σ[i]? with
  |none=>rw[q]at e2;cases e2
  |some o=>rw[q]at e2;cases e2
 ·rw[List.getElem?_set_ne e]at e2;exact e2
def sf(i:Nat)(t:TS):TS:=fun D σ H=>t D (σ.set i none) H
theorem R8{ss:List Stmt}{t:TS}(i:Nat)(h:PSs X ss t):PSs X ss (sf i t):=by
 intro or s σ H D I q;exact h or s _ H D (I.forget i) q
end
theorem rh{kvs:List (Key×V)}{k:Key}(h:∀q∈kvs,q.1≠k):aX kvs k=none:=by
 unfold aX;rw[List.find?_eq_none.mpr fun q hq=>by simpa using h q hq];rfl
def aF(ps qs:Ps):Ps:=(af ps qs).map fun z=>(z,aj ps qs z)
theorem X2(ps qs:Ps):(aF ps qs).map (·.1)=af ps qs:=by
 unfold aF;rw[xD];exact List.map_id _
theorem jA(ps qs:Ps):bd (aF ps qs)=(af ps qs).map (aj ps qs):=by
 unfold bd aF;rw[xD];rfl
theorem Rm{ps:Ps}(h:(ps.map (·.1)).Nodup):aF ps []=ps:=by
 have e:af ps []=ps.map (·.1):=xF _;have e2:(fun z=>(z,aj ps [] z))=fun z=>(z,look ps z):=by
  funext z
  show(z,look ps z+0)=_;rw[Int.add_zero]
 unfold aF;rw[e,e2];exact fU h
theorem Sv{ps qs:Ps}(h:(ps.map (·.1)).Nodup)(g:(qs.map (·.1)).Nodup)(z:Str):((aX (ax (aF ps qs)) (Sum.inr z)).getD (.int 0))=.int (aj ps qs z):=by
 by_cases hz:z∈af ps qs
 ·obtain⟨i,hi⟩:=xL.mp hz;have e:(aF ps qs)[i]?=some (z,aj ps qs z):=by unfold aF;rw[xi,hi];rfl
  rw[Su (by rw[X2];exact Xl h g) e];rfl
 ·have e:aX (ax (aF ps qs)) (Sum.inr z)=none:=by
   refine rh fun q hq=>?_;unfold ax at hq;obtain⟨p,hp,rfl⟩:=wW.mp hq;intro e;have:p.1∈af ps qs:=by rw[←X2];exact wW.mpr ⟨p,hp,rfl⟩
   have e':p.1=z:=z6 e;exact hz (e' ▸ this)
  rw[e];have n1:z∉ps.map (·.1):=fun q=>hz (Y3.mpr (.inl q));have n2:z∉qs.map (·.1):=fun q=>hz (Y3.mpr (.inr q));show V.int 0=.int (look ps z+look qs z);rw[Yn n1,Yn n2];rfl
theorem gR{ps qs:Ps}(h:(ps.map (·.1)).Nodup){p:Str×Int}(g:((qs++[p]).map (·.1)).Nodup):bo (ax (aF ps qs)) (Sum.inr p.1) (.int (aj ps qs p.1+p.2))=ax (aF ps (qs++[p])):=by
 rw[wO]at g;have out:p.1∉qs.map (·.1):=fun q=>(y8.mp g).2.2 _ q _ (wR.mpr rfl) rfl;have lk:∀y,aj ps (qs++[p]) y=if p.1=y then aj ps qs y+p.2 else aj ps qs y:=fun y=>by
  show look ps y+look (qs++[p]) y=if p.1=y then look ps y+look qs y+p.2 else look ps y+look qs y
  rw[oP];show look ps y+(if y∈qs.map (·.1)then look qs y else if p.1=y then p.2 else 0)=_;by_cases e:p.1=y
  ·subst e;rw[wK out,wM rfl,wM rfl,Yn out];omega
  ·rw[wK e,wK e];by_cases m:y∈qs.map (·.1)
   ·rw[wM m]
   ·rw[wK m,Yn m]
 have ks:af ps (qs++[p])=if p.1∈ps.map (·.1)then af ps qs else af ps qs++[p.1]:=by
  unfold af;rw[wO,yh];by_cases m:p.1∈ps.map (·.1)
  ·rw[wM m];show _++(_++List.filter _ [p.1])=_;rw[List.filter_cons_of_neg (by simpa using m),List.filter_nil,List.append_nil]
  ·rw[wK m];show _++(_++List.filter _ [p.1])=_;rw[List.filter_cons_of_pos (by simpa using m),List.filter_nil,List.append_assoc]
 unfold bo aF ax;rw[ks];by_cases m:p.1∈ps.map (·.1)
 ·rw[wM m,wM ?_]
  ·rw[xD,xD,xD];refine List.map_congr_left fun y hy=>?_;show(if _ then _ else _)=(Sum.inr y,V.int (aj ps (qs++[p]) y));rw[lk];by_cases e:p.1=y
   ·subst e;simp
   ·have e':¬y=p.1:=fun q=>e q.symm;simp[e,e']
  ·exact List.any_eq_true.mpr ⟨(Sum.inr p.1,.int (aj ps qs p.1)),wW.mpr ⟨(p.1,aj ps qs p.1),wW.mpr ⟨p.1,Y3.mpr (.inl m),rfl⟩,rfl⟩,wV rfl⟩
 ·have nk:p.1∉af ps qs:=fun q=>(Y3.mp q).elim m out;rw[wK m,wK ?_]
  ·rw[wO,wO,xD,xD];refine congr (yy _ (List.map_congr_left fun y hy=>?_)) ?_
   ·show(Sum.inr y,V.int (aj ps qs y))=(Sum.inr y,V.int (aj ps (qs++[p]) y));rw[lk,wK (fun(q:p.1=y)=>nk (by rw[q];exact hy))]
   ·show[_]=[(Sum.inr p.1,V.int (aj ps (qs++[p]) p.1))];rw[lk,wM rfl]
  ·intro q;obtain⟨kv,hkv,e⟩:=List.any_eq_true.mp q;obtain⟨x,hx,rfl⟩:=wW.mp hkv;obtain⟨y,hy,rfl⟩:=wW.mp hx;have e:(Sum.inr y:Key)=Sum.inr p.1:=wU e;exact nk (z6 e ▸ hy)
theorem pe{t u:TS}{D:Ends}{σ:St}{H:Hp}(R:St→Hp→Prop)(main:∀nx:St→Hp→Prop,(∀σ' H',R σ' H'→nx σ' H')→t {D with nx:=nx} σ H)(fin:∀σ' H',R σ' H'→u D σ' H'):vE t u D σ H:=main _ fin
section
variable{M:Model}{A:Around}{E:Value→Shared→Prop}{s:Shared}{env:Env}{outer l:List Env}{L e:Addr}{base:Heap}{cls a0 fl:Value}{Q:Unit→Shared→Prop}
end
theorem jN{l:List Env}{env:Env}{b:Addr}(h:env∈l)(e:env.frame=some b):b∈frs l:=yw.mpr ⟨env,h,e⟩
section
variable{M:Model}{A:Around}{E:Value→Shared→Prop}{s:Shared}{env:Env}{outer:List Env}{L a T:Addr}{cls:Value}{Q:Unit→Shared→Prop}
end
section
variable{P:Program}{w:World}{K:W.Frag}{mg:Str→Option Value}{base:Heap}{N:List Str}{qual:Str}{scope:Scope}{f:Addr}{cd:Value}{A:Around}{outer:List Env}{s:Shared}{H:Hp}{E:XK}
end
section
variable{P:Program}{w:World}{K:W.Frag}{mg:Str→Option Value}{base:Heap}{N:List Str}{qual:Str}{scope:Scope}{f:Addr}{cd:Value}{A:Around}{outer:List Env}{s:Shared}{H:Hp}{E:XK}
variable{j k:Nat}{ps:List Str}{sp:Sp}{x:Str}{p pos:Pos}{e:Expr}{es:List Expr}{t:TA}
end
section
variable{prog:Program}{w:World}{A:Around}{E:Value→Shared→Prop}{h:Heap}{g:Array GenState}{d:Drawn}{t:Nat}{os:OsState}{a C:Addr}{o:Obj}{K:W.Frag}
end
section
variable{X:Cx}{or:List (Addr×Obj)}{σ:St}{H:Hp}{s:Shared}
end
section
variable{X:Cx}{x c n:Str}{p pos cpos epos np hpos:Pos}{e:Expr}{es:List Expr}{ta:TA}{tb:TS}{b₀:Stmt}{suite:List Stmt}{j k i:Nat}{ps:List Str}{sp:Sp}{S:Addr}
end
def Ty.zero(room:Int):Ty:=⟨room,[],0,0⟩
theorem Sh{room:Int}(h1:1≤room)(h2:room≤20):(Ty.zero room).Ok:=
 ⟨h1,h2,List.nodup_nil,List.Pairwise.nil,(fun _ h=>nomatch h),(fun _ h=>nomatch h),by show((0:Nat):Int)≤room;omega,Int.le_refl _,by show(room+1)*0≤0-0;simp,by show(0:Int)-0≤2*room*0;simp⟩
theorem Q9{K:W.Frag}{a:Addr}{xs:List V}{k:Nat}{g:TG}{tt:TT}{te:TE}{σ:St}{H:Hp}{Q:VK}(Pv:Nat→List V→Hp→Prop)(h0:Pv 0 [] H)(hl:∀i ys H,i≤xs.length→Pv i ys H→SqT K H a xs)(hs:∀i x ys H (C:List V→Hp→Prop),xs[i]?=some x→Pv i ys H→(∀ys' H',Pv (i+1) ys' H'→C ys' H')→ys.length<sizeLine∧g x (List.replicate k none++σ) H fun σ2 H2=>Wk σ2 (List.replicate k none++σ)∧tt σ2 H2 fun ok H3=>
   if ok=true then te σ2 H3 fun y H4=>C (ys++[y]) H4 else C ys H3)(hd:∀ys H,Pv xs.length ys H→ys.length≤sizeLine∧∀p,H p=none→Q (.ref p) (upd H p (.lst ys))):
  CompR (Itt K a) H k g tt te σ Q:=by
 refine⟨fun i m ys H=>m=xs.length-i∧i≤xs.length∧Pv i ys H,⟨xs.length,by simp,Nat.zero_le _,h0⟩,?_⟩;rintro i m ys H ⟨rfl,hi,p⟩;have q:=hl i ys H hi p;by_cases Ac:i<xs.length
 ·have r:=hs i xs[i] ys H (fun ys' H'=>∃m',m'<xs.length-i∧m'=xs.length-(i+1)∧i+1≤xs.length∧Pv (i+1) ys' H') (by simp[Ac]) p fun ys' H' p'=>⟨_,by omega,rfl,Ac,p'⟩;refine .inr ⟨⟨xs,xs[i],q,by simp[Ac]⟩,r.1,fun x H' y=>?_⟩;obtain⟨e,y⟩:=y;subst e;have ex:xs[i]?=some x:=y xs q;have ex2:xs[i]=x:=by simpa [Ac] using ex
  rw[←ex2];exact r.2
 ·have e:i=xs.length:=by omega
  subst e;exact .inl ⟨⟨xs,q,pi _⟩,hd ys H p⟩
theorem iu{K:W.Frag}{a:Addr}{xs:List V}{ps:Ps}{k:Nat}{g:TG}{tt:TT}{te:TE}{σ:St}{H:Hp}{Q:VK}(p:Str×Int→Bool)(f:Str×Int→V)(e:H a=some (.tup xs))(pa:PairsAt H xs (ax ps))(hl:ps.length≤100000)(hs:∀(t:Str×Int) (c:Addr) (ys:List V) (C:List V→Hp→Prop),t∈ps→H c=some (.tup [.str t.1,.int t.2])→(p t=true→C (ys++[f t]) H)→(p t=false→C ys H)→g (.ref c) (List.replicate k none++σ) H fun σ2 H2=>Wk σ2 (List.replicate k none++σ)∧tt σ2 H2 fun ok H3=>
   if ok=true then te σ2 H3 fun y H4=>C (ys++[y]) H4 else C ys H3)(hd:∀q,H q=none→Q (.ref q) (upd H q (.lst ((ps.filter p).map f)))):
  CompR (Itt K a) H k g tt te σ Q:=by
 have dl:=pa.length;rw[Yc]at dl;have le:∀i,(((ps.take i).filter p).map f).length≤100000:=fun i=>by
  rw[aq];have h1:=xV p (ps.take i);rw[wT]at h1;omega
 refine Q9 (xs:=xs) (fun i ys H'=>H'=H∧ys=((ps.take i).filter p).map f) ⟨rfl,rfl⟩ ?_ ?_ ?_
 ·rintro i ys H' _ ⟨rfl,_⟩;exact SqT.of e
 ·rintro i x ys H' C hx ⟨rfl,rfl⟩ hC;obtain⟨c,t,rfl,ht,ec⟩:=pa.getP hx;refine⟨Zk (by have:=le i;omega),hs t c _ C (wZ ht) ec (fun hp=>hC _ _ ⟨rfl,?_⟩) (fun hp=>hC _ _ ⟨rfl,?_⟩)⟩
  ·rw[Zo ht,yh,wO,xC,hp];rfl
  ·rw[Zo ht,yh,xC,hp];simp
 ·rintro ys H' ⟨rfl,rfl⟩;rw[dl,xp];refine⟨Zf (by have:=le ps.length;rw[xp]at this;omega),hd⟩
section
variable{P:Program}{w:World}{K:W.Frag}{mg:Str→Option Value}{base:Heap}{CX:CXT}{k:Nat}{f:Addr}{fd:FuncData}{ps:List Str}{sp sp':Sp}
end
def Cal(base:Heap)(f:Addr):Prop:=∃oc od fd sl,base.get? f=some ⟨oc,od,.func fd,sl⟩
theorem lc{M:Model}{f:Addr}{base:Heap}(c:Cal base f)(h:Heap)(k:∀b o,base.get? b=some o→h.get? b=some o):∃q,(q=Keeper.frame∨q=Keeper.machine∨q=Keeper.boundFrame)∧W.Looks M h (keeperOf (.ref f)) q:=by
 obtain⟨oc,od,fd,sl,e⟩:=c;refine⟨.frame,.inl rfl,fun A Q E s kk q=>?_⟩;exact ae (zZ (kk _ _ (k _ _ e)) (io q))
def ut(P:Program)(w:World)(K:W.Frag)(mg:Str→Option Value)(base:Heap)(k i:Nat)(t:TA):TE:=fun σ H Q=>∃(f:Addr)(fd:FuncData)(ps:List Str)(sp:Sp),σ[i]?=some (some (.ref f))∧FnOk P w K mg base CX0 k f fd ps sp∧Binds K fd ps []∧Cal base f∧
 t σ H fun vs H1=>sp vs H1 Q E0
section
variable{X:Cx}{k i:Nat}{x:Str}{p pos:Pos}{e:Expr}{es:List Expr}{t:TA}
theorem Re(hr:Room k X.A)(ha:PA X (e::es) t)(hN:X.N[i]?=some x:=by rfl)(hv:Vis X.env.scope x:=by first | exact Or.inl rfl | exact Or.inr (Or.inl rfl) | exact Or.inr (Or.inr rfl))(hd:(x==("__debug__":Str))=false:=by decide)(hcd:(x==("__classdict__":Str))=false:=by decide)(he:starEach (e::es) X.env=(false,eval e X.env)::starEach es X.env:=by rfl)(hpl:(backTo pos (starEach es X.env)).any (·.1)=false:=by rfl):
  PE X (.Call (.Name x p) (e::es) [] pos) (ut X.prog X.w X.K X.mg X.base k i t):=by
 intro or s σ H Q I h;obtain⟨f,fd,ps,sp,hs,F,b,c,q⟩:=h;refine yT (thn (oI hN hv hd hcd or s σ H (fun v H'=>v=.ref f∧H'=H) I ⟨_,hs,rfl,rfl⟩) fun u s1 z=>?_);obtain⟨v,H',I1,r,rfl,rfl⟩:=z;cases (show u=Value.ref f from r);have hh:=ha pos or s1 σ H' _ I1 q;show wpAny _ _ (callWith pos (.ref f) [] (backTo pos (starEach (e::es) X.env)) []) _ _ _;rw[he]at hh⊢;refine W.callWith_of (P:=fun h=>∀b o,X.base.get? b=some o→h.get? b=some o) (by show((false || (backTo pos (starEach es X.env)).any (·.1)) || false)=false;rw[hpl];rfl) (fun h k=>lc c h k) (Calls.evalArgs_plain (thn hh fun us s2 z=>?_));obtain⟨vs,H2,I2,r2,q2⟩:=z;exact⟨I2.bk,pF (dvs:=[]) (ds:=[]) F hr b .nil vB I2 r2 (by rw[xF];exact q2)⟩
end
def crO(q:Str)(c:Addr):HO:=.ext fun h=>h.CodeRec (.ref c) q
structure LamAt(T:Addr)(pos:Pos)(q:Str)(H:Hp):Prop where
 tab:H T=some (.tbl #[])∨∃c,H T=some (.tbl #[rawInt pos.line,rawInt pos.col,.ref c])∧H c=some (crO q c)
theorem LamAt.mono{T:Addr}{pos:Pos}{q:Str}{H H':Hp}(h:LamAt T pos q H)(g:Same H H'):LamAt T pos q H':=by
 rcases h.tab with e | ⟨c,e,ec⟩
 ·exact⟨.inl (g _ _ e)⟩
 ·exact⟨.inr ⟨c,g _ _ e,g _ _ ec⟩⟩
def pN(P:Program)(w:World)(K:W.Frag)(mg:Str→Option Value)(base:Heap)(N:List Str)(qual:Str)(sc:Scope)(f:Addr)(cd:Value)(cl:List (Str×Addr))(A:Around)(outer:List Env)(s:Shared)(H:Hp):Cx where
 prog:=P
 w:=w
 K:=K
 mg:=mg
 base:=base
 A:=A.deeper (W.envX qual sc s.heap.objs.size f cd cl)
 N:=N
 s₀:=s
 H₀:=H
 env:=W.envX qual sc s.heap.objs.size f cd cl
 outer:=outer
 stack:=W.envX qual sc s.heap.objs.size f cd cl::outer
 ex:=[]
 calm:=true
 fn:=fun _=>false
 pn:=[]
 xe:=fun _ _=>False
structure LamScope(ps fr:List Str)(sc:Scope):Prop where
 kind:sc.kind=.function
 co:sc.isCoroutine=false
 gen:sc.isGenerator=false
 cell:∀x∈sc.names,x.2≠.cell
 par:∀x∈ps,sc.names.lookup x=some .local
 free:∀x,sc.names.lookup x=some .free→x∈fr
 fre:∀x∈fr,sc.names.lookup x=some .free
 nd:(ps++fr).Nodup
theorem N6{x:Str}:∀{ps:List Str}{us:List Value}{i:Nat}{u:Value},ps.Nodup→ps[i]?=some x→us[i]?=some u→(ps.zip us).reverse.lookup x=some u:=by
 intro ps us i u nd h1 h2;have hm:(x,u)∈(ps.zip us).reverse:=List.mem_reverse.mpr (wZ (i:=i) (by rw[List.getElem?_zip_eq_some];exact⟨h1,h2⟩));have ndz:((ps.zip us).reverse.map (·.1)).Nodup:=by
  rw[List.map_reverse];refine(List.reverse_perm _).nodup_iff.mpr (nd.sublist ?_);exact(by
   clear hm h1 h2
   induction ps generalizing us with
   |nil=>exact List.nil_sublist _
   |cons p ps ih=>
    cases us with
    |nil=>exact List.nil_sublist _
    |cons v us=>exact(ih (xG.mp nd).2).cons₂ _)
 revert hm ndz;generalize (ps.zip us).reverse=l;intro hm ndz
 induction l with
 |nil=>exact nomatch hm
 |cons q l ih=>
  rw[xt,xG]at ndz
  rcases wX.mp hm with e | e
  ·rw[←e,zk,beq_self_eq_true]
  ·have ne:(x==q.1)=false:=by
    refine beq_eq_false_iff_ne.mpr fun z=>ndz.1 (wW.mpr ⟨(x,u),e,z⟩)
   obtain⟨q1,q2⟩:=q;rw[zk];dsimp only at ne⊢;rw[ne];exact ih e ndz.2
theorem nY{P:Program}{w:World}{K:W.Frag}{mg:Str→Option Value}{B:Heap}{k:Nat}{a c':Addr}{qual:Str}{params:Arguments}{body:Expr}{sc:Scope}{cl:List (Str×Addr)}{pm ctv:Value}{ps fr:List Str}{us:List V}{sp:Sp}(ha:B.get? a=some (W.kla_obj "<lambda>" qual params body sc cl pm c' ctv))(S:LamScope ps fr sc)(hul:us.length=fr.length)(hcl:∀(i:Nat) x v,fr[i]?=some x→us[i]?=some v→∃c u,cl.lookup x=some c∧B.IsCell c (some u)∧RelV v u)(inj:∀x y c,cl.lookup x=some c→cl.lookup y=some c→x=y)(call:∀x c,cl.lookup x=some c→∃v,B.IsCell c v)(rec:∀vs H Q E,sp vs H Q E→H c'=some (crO qual c'))(len:∀vs H Q E,sp vs H Q E→vs.length=ps.length)(hbody:∀(A:Around) (outer:List Env) (s:Shared) (H:Hp) (vs:List V) (Q:VK) (E:XK),Room k (A.deeper (W.envX qual sc s.heap.objs.size a (.ref c') cl))→sp vs H Q E→
   ∃t,PE (pN P w K mg B (ps++fr) qual sc a (.ref c') cl A outer s H) body t∧t (vs.map some++us.map some) H Q):
  FnOk P w K mg B CX0 (k+1) a (W.kla_fn "<lambda>" qual params body sc cl pm (.ref c') ctv) ps sp:=by
 refine⟨len,fun A outer s H args ws vs Q E hr e0 hb r hsp=>?_⟩;have hl:=len _ _ _ _ hsp;have keep:=fun b o e=>(e0.bs b o e).1;have lim:s.heap.NoLimit:=e0.mod.nolimit.keeps keep;obtain⟨crec,_⟩:=(show ObjOk P w H s.heap c' (crO qual c')from e0.hok c' _ (rec _ _ _ _ hsp));have npS:ps.Nodup:=(y8.mp S.nd).1;refine W.kla_callFunE hr.depth (keep _ _ ha) rfl S.co S.gen rfl crec (hb _ _ _ _ ?_);refine wpAny_newFunctionEnv S.cell (fun y hy=>S.par y.1 (List.of_mem_zip hy).1) (fun h₁ hns hsb=>⟨lim.fresh _ hsb,?_⟩) S.kind;show codeAny _ _ (.expr body (W.envX qual sc s.heap.objs.size a (.ref c') cl)) _ _;have hk₁:∀b o,s.heap.get? b=some o→h₁.get? b=some o:=fun b o e=>hsb.extBut b o (wS (wE e)) (az _ e);obtain⟨t,ht,hq⟩:=hbody A outer s H vs Q E (hr.deeper _) hsp;have cellK:∀c v,B.IsCell c v→h₁.IsCell c v:=fun c v ⟨o,e,d⟩=>⟨o,hk₁ _ _ (keep _ _ e),d⟩;have I:Inv (pN P w K mg B (ps++fr) qual sc a (.ref c') cl A outer s H) [] (vs.map some++us.map some) H {s with heap:=h₁,toks:=s.toks+(ps.zip ws).length}:=by
  have noA:∀b:Addr,b∉(pN P w K mg B (ps++fr) qual sc a (.ref c') cl A outer s H).ex:=fun b z=>absurd (show b∈([]:List Addr)from z) (by simp);refine⟨⟨e0.mod,S.kind,rfl,rfl,pi _,inj,fun x hx=>?_,(fun x c h _=>Bool.noConfusion h),fun _=>hr.hd,Around.frames_deeper e0.frames,.inr ⟨rfl,rfl⟩,fun b z=>absurd z (noA b),e0.bs,e0.bsz,fun b _ _=>noA b,fun b z=>absurd z (noA b),e0.funs,e0.frf⟩,
   rfl,e0.bare,Un.kept hk₁,⟨_,hns,fun i y v h1 h2 h3=>?_⟩,fun x c e=>?_,e0.hok.fresh (Nat.le_refl _),fun x c e=>?_,fun p hp=>absurd (show p∈([]:List (Addr×Obj))from hp) (by simp),e0.hok.kept hk₁,?_⟩
  ·have hx:sc.names.lookup x=some .cell∨sc.names.lookup x=some .free:=hx
   rcases hx with hx | hx
   ·exact absurd rfl (S.cell _ (xu hx))
   ·obtain⟨i,hi⟩:=xL.mp (S.free x hx);have Ac:i<us.length:=by rw[hul];exact(wL.mp hi).1
    obtain⟨c,u,e,_⟩:=hcl i x us[i] hi (by simp[Ac]);exact⟨c,e⟩
  ·have h1:(ps++fr)[i]?=some y:=h1;by_cases hi:i<vs.length
   ·rw[List.getElem?_append_left (by rw[←hl];exact hi)]at h1;rw[List.getElem?_append_left (by simpa using hi),List.getElem?_map]at h2;obtain⟨v',hv,e⟩:=xm.mp h2;cases e;obtain⟨u,hu,rv⟩:=r.get hv;exact⟨u,rv,.inl ⟨S.par y (wZ h1),N6 npS h1 hu⟩⟩
   ·have hi:vs.length≤i:=by omega
    rw[List.getElem?_append_right (by rw[←hl];exact hi)]at h1;rw[List.getElem?_append_right (by simpa using hi),List.getElem?_map,List.length_map]at h2;obtain⟨v',hv,e⟩:=xm.mp h2;cases e;rw[hl]at hv;obtain⟨c,u,e1,e2,rv⟩:=hcl _ y v h1 hv;exact⟨u,rv,.inr ⟨.inr (S.fre y (wZ h1)),c,e1,cellK _ _ e2⟩⟩
  ·obtain⟨v,z⟩:=call x c e;exact⟨v,cellK _ _ z⟩
  ·obtain⟨v,o,z,_⟩:=call x c e;exact(e0.bs c o z).2
  ·show _=(ps++fr).length;rw[wH,aq,aq,wH,hl,hul]
 refine W.kla_codeExpr (xX (ht [] _ _ H Q I hq) (fun v s' hs=>?_) fun _ _ z=>False.elim z);obtain⟨v',H',J,rv,q⟩:=hs;exact⟨v',H',J.os,J.bare,J.base,J.hok,rv,q⟩
def foO(ob:Obj)(a:Addr):HO:=.ext fun h=>h.get? a=some ob
theorem tE{P:Program}{w:World}{H:Hp}{h:Heap}{q:Str}{c:Addr}(r:h.CodeRec (.ref c) q):ObjOk P w H h c (crO q c):=by
 refine⟨r,?_,fun h1 h2 z k=>?_⟩
 ·obtain⟨c2,oc,vs,tq,e,ho,_⟩:=r;cases e;exact⟨oc,ho⟩
 ·obtain⟨c2,oc,vs,tq,e,ho,r⟩:=z;cases e;exact⟨c,oc,vs,tq,rfl,k _ ho,r⟩
theorem nP{P:Program}{w:World}{H:Hp}{h:Heap}{ob:Obj}{a:Addr}(e:h.get? a=some ob):ObjOk P w H h a (foO ob a):=⟨e,⟨ob,e⟩,fun _ _ z k=>k _ z⟩
def tLam(T:Addr)(pos:Pos)(q:Str)(mk:Value→Addr→Value→Obj):TE:=fun σ H Q=>LamAt T pos q H∧∀(a c:Addr)(pm ctv:Value)(H':Hp),Same (am T H) (am T H')→H a=none→a≠c→H' T=some (.tbl #[rawInt pos.line,rawInt pos.col,.ref c])→H' c=some (crO q c)→
 H' a=some (foO (mk pm c ctv) a)→Q (.ref a) H'
theorem uV(pos:Pos)(c:Value):codeAmong pos [rawInt pos.line,rawInt pos.col,c]=some c:=codeAmong_snoc [] trivial rfl
section
variable{X:Cx}{params:Arguments}{body:Expr}{sc:Scope}{pos:Pos}{c T:Addr}
theorem mI(hc:X.env.code=.ref c)(C:W.CodeHd X.base c T)(hgP:mainGlobals≠T)(hB:X.base.BuiltinsAt X.mg T)(hf:∀x∈sc.names,x.2=.free→∃c,X.env.cells.lookup x.1=some c)(hdef:defaultsOf params X.env=([],[]):=by rfl):
  PE X (.Lambda params body sc pos) (tLam T pos (X.env.qual++"<lambda>") fun pm c' ctv=>W.kla_obj "<lambda>" (X.env.qual++"<lambda>") params body sc (aJ X.env sc.names) pm c' ctv):=by
 intro or s σ H Q I h;obtain⟨L,q⟩:=h;refine W.kla_eval hdef ?_;have hcl:=Ua hf;have tl:H T≠none:=by
  rcases L.tab with e | ⟨_,e,_⟩ <;> (rw[e];exact fun z=>nomatch z)
 have fresh:∀b,s.heap.objs.size≤b→H b=none:=fun b hb=>I.hok.fresh hb
 rcases L.tab with e | ⟨c',e,ec⟩
 ·have hP:s.heap.get? T=some (W.tabObj #[]):=I.hok T _ e;refine W.kla_makeFunction hcl I.ok.glob (I.mod.glob.keeps I.bk) hc (C.keeps I.bk) hP trivial rfl hgP (hB.keeps I.bk) fun c' ctv h' tk hx hge Ac hrec hT=>?_;have hT:h'.get? T=some (W.tabObj #[rawInt pos.line,rawInt pos.col,.ref c']):=hT;have Tlt:T<s.heap.objs.size:=wE hP;have sz:s.heap.objs.size≤h'.objs.size:=ye (zu hge Ac);have na:H h'.objs.size=none:=fresh _ sz;have nc:H c'=none:=fresh _ hge;have cT:c'≠T:=x4 (xk Tlt hge);have aT:h'.objs.size≠T:=x4 (xk Tlt sz);have ac:h'.objs.size≠c':=x4 Ac;have kp:∀b o,b≠T→s.heap.get? b=some o→(h'.push (W.kla_obj "<lambda>" (X.env.qual++"<lambda>") params body sc (aJ X.env sc.names) ((X.mg "__name__").getD .none) c' ctv)).get? b=some o:=fun b o nb e=>az _ (hx b o nb e);have eT:=az (W.kla_obj "<lambda>" (X.env.qual++"<lambda>") params body sc (aJ X.env sc.names) ((X.mg "__name__").getD .none) c' ctv) hT;have ea:(h'.push (W.kla_obj "<lambda>" (X.env.qual++"<lambda>") params body sc (aJ X.env sc.names) ((X.mg "__name__").getD .none) c' ctv)).get? h'.objs.size=some (W.kla_obj "<lambda>" (X.env.qual++"<lambda>") params body sc (aJ X.env sc.names) ((X.mg "__name__").getD .none) c' ctv):=wD _ rfl;have er:(h'.push (W.kla_obj "<lambda>" (X.env.qual++"<lambda>") params body sc (aJ X.env sc.names) ((X.mg "__name__").getD .none) c' ctv)).CodeRec (.ref c') (X.env.qual++"<lambda>"):=by
   obtain⟨c2,oc,vs,tq,e,ho,r⟩:=hrec;exact⟨c2,oc,vs,tq,e,az _ ho,r⟩
  generalize (h'.push (W.kla_obj "<lambda>" (X.env.qual++"<lambda>") params body sc (aJ X.env sc.names) ((X.mg "__name__").getD .none) c' ctv))=g at kp eT ea er⊢;generalize hHn:upd (upd (upd H T (.tbl #[rawInt pos.line,rawInt pos.col,.ref c'])) c' (crO (X.env.qual++"<lambda>") c')) h'.objs.size (foO (W.kla_obj "<lambda>" (X.env.qual++"<lambda>") params body sc (aJ X.env sc.names) ((X.mg "__name__").getD .none) c' ctv) h'.objs.size)=Hn;have at_a:Hn h'.objs.size=some (foO (W.kla_obj "<lambda>" (X.env.qual++"<lambda>") params body sc (aJ X.env sc.names) ((X.mg "__name__").getD .none) c' ctv) h'.objs.size):=by rw[←hHn];exact Z5
  have at_c:Hn c'=some (crO (X.env.qual++"<lambda>") c'):=by rw[←hHn,Z9 (Ne.symm ac)];exact Z5
  have at_T:Hn T=some (.tbl #[rawInt pos.line,rawInt pos.col,.ref c']):=by rw[←hHn,Z9 (Ne.symm aT),Z9 (Ne.symm cT)];exact Z5
  have at_o:∀b,b≠h'.objs.size→b≠c'→b≠T→Hn b=H b:=fun b n1 n2 n3=>by rw[←hHn,Z9 n1,Z9 n2,Z9 n3]
  have at_s:∀b u,H b=some u→b≠T→Hn b=some u:=fun b u e nT=>by rw[at_o b (Zh e na) (Zh e nc) nT];exact e
  have un:Un X.fs [] H Hn s.heap g:=by
   have nT:∀b,H b=none→b≠T:=fun b n z=>by rw[z]at n;exact tl n
   refine⟨fun b o e n _ _=>kp b o (nT b n) e,fun b o e n _ _=>⟨o.slots,kp b o (nT b n) e⟩,fun b o e n _=>?_,fun b o e _=>?_,fun b xs e'=>at_s b _ e' (fun z=>by rw[z,e]at e';cases e'),fun b o xs e'=>at_s b _ e' (fun z=>by rw[z,e]at e';cases e'),fun b ps e'=>?_⟩
   ·have lt:=wE e;rw[at_o b (wS (xk lt sz)) (wS (xk lt hge)) (nT b n)];exact n
   ·by_cases z:b=T
    ·subst z;exact⟨_,eT⟩
    ·exact⟨o,kp b o z e⟩
   ·by_cases z:b=T
    ·subst z;rw[e]at e';cases e';exact⟨#[rawInt pos.line,rawInt pos.col,.ref c'],at_T⟩
    ·exact⟨#[],by rw[at_s b _ e' z];simp⟩
  have hok:HOk X.prog X.w Hn g:=fun b u eb=>by
   by_cases h1:b=h'.objs.size
   ·subst h1;rw[at_a]at eb;cases eb;exact nP ea
   by_cases h2:b=c'
   ·subst h2;rw[at_c]at eb;cases eb;exact tE er
   by_cases h3:b=T
   ·subst h3;rw[at_T]at eb;cases eb;exact eT
   rw[at_o b h1 h2 h3]at eb;refine(I.hok b u eb).stay (fun d v hd qq=>kp d v (fun z=>?_) qq) (fun d qq=>at_s d _ qq (fun z=>by rw[z,e]at qq;cases qq)) fun d xs qq=>at_s d _ qq (fun z=>by rw[z,e]at qq;cases qq)
   rcases hd with y | y
   ·exact h3 (y.symm.trans z)
   ·rw[z,e]at y;cases y
  refine⟨.ref h'.objs.size,Hn,I.un (h':=g) (t':=tk) un hok,rfl,q _ c' _ ctv Hn (fun b u eb=>?_) na ac at_T at_c at_a⟩;obtain⟨b1,b2⟩:=Zb eb;rw[Ze b1];exact at_s b u b2 b1
 ·have hP:s.heap.get? T=some (W.tabObj #[rawInt pos.line,rawInt pos.col,.ref c']):=I.hok T _ e;refine W.kla_makeFunctionHit (cv:=.ref c') hcl I.ok.glob (I.mod.glob.keeps I.bk) hc (C.keeps I.bk) hP trivial (uV pos _) (hB.keeps I.bk) fun ctv h' tk hk hz=>?_;have na:H h'.objs.size=none:=fresh _ hz;have ac:h'.objs.size≠c':=fun z=>by rw[z,ec]at na;cases na
  have aT:h'.objs.size≠T:=fun z=>by rw[z,e]at na;cases na
  refine⟨.ref h'.objs.size,_,I.laid (t':=tk) (a:=h'.objs.size) (o:=foO (W.kla_obj "<lambda>" (X.env.qual++"<lambda>") params body sc (aJ X.env sc.names) ((X.mg "__name__").getD .none) c' ctv) h'.objs.size) (fun b u eb=>az _ (hk b u eb)) hz (nP (wD _ rfl)),rfl,?_⟩;refine q _ c' _ ctv _ (fun b u eb=>?_) na ac (by rw[Z9 (Ne.symm aT)];exact e) (by rw[Z9 (Ne.symm ac)];exact ec) Z5;obtain⟨b1,b2⟩:=Zb eb;rw[Ze b1,Z9 (Zh b2 na)];exact b2
end
def qD(base h:Heap)(as:List Addr):Heap:=W.hideAll h ((List.range h.objs.size).filter fun b=>(base.get? b).isNone && !decide (b∈as))
theorem Qh{base h:Heap}{as:List Addr}{b:Addr}{o:Obj}(e:h.get? b=some o)(k:(∃u,base.get? b=some u)∨b∈as):(qD base h as).get? b=some o:=W.hideAll_get _ e fun z=>by
 have z2:=(xW.mp z).2;rw[xJ]at z2
 rcases k with⟨u,k⟩ | k
 ·rw[k]at z2;exact Bool.noConfusion z2.1
 ·rw[wV k]at z2;exact Bool.noConfusion z2.2
theorem kj{base h:Heap}{as:List Addr}{b:Addr}{o:Obj}(e:(qD base h as).get? b=some o):h.get? b=some o∧((∃u,base.get? b=some u)∨b∈as):=by
 have e1:=W.of_hideAll _ e;refine⟨e1,?_⟩;cases k:base.get? b with
 |some u=>exact .inl ⟨u,rfl⟩
 |none=>
  by_cases m:b∈as
  ·exact .inr m
  ·have:(qD base h as).get? b=none:=W.hideAll_none _ (xW.mpr ⟨List.mem_range.mpr (wE e1),by rw[k,xg m];rfl⟩);rw[e]at this;cases this
theorem Vl{base B h:Heap}:∀{l:List Env},h.FunFrames base l→(∀L∈frs l,B.get? L=none)→h.FunFrames B l
 | [],_,_=>trivial
 |env::l,⟨hk,⟨L,o,hf,_,ho,hd⟩,hr⟩,hn=>⟨hk,⟨L,o,hf,hn L (jN (.head _) hf),ho,hd⟩,Vl hr fun L' hL=>hn L' (by
  obtain⟨e,he,q⟩:=yw.mp hL;exact jN (.tail _ he) q)⟩
theorem Inv.drop{X:Cx}{or:List (Addr×Obj)}{σ:St}{H:Hp}{s:Shared}{a:Addr}{φ:Heap→Prop}(I:Inv X or σ H s)(ea:H a=some (.ext φ)):Inv X or σ (am a H) s:=by
 have nn:∀b,H b=none→am a H b=none:=fun b n=>by
  by_cases z:b=a
  ·rw[z];exact S1
  ·rw[Ze z];exact n
 have ne:∀b u,H b=some u→(∀ψ,u≠.ext ψ)→am a H b=some u:=fun b u e n=>by
  rw[Ze (fun z=>by rw[z,ea]at e;exact n φ (xA e).symm)];exact e
 refine⟨I.ok,I.os,I.bare,⟨I.base.keep,I.base.slot,fun b o e n hx=>nn b (I.base.free b o e n hx),I.base.there,fun b xs e=>ne b _ (I.base.tups b xs e) (fun _ z=>nomatch z),fun b o xs e=>ne b _ (I.base.frzs b o xs e) (fun _ z=>nomatch z),fun b ps e=>?_⟩,I.loc,I.cell,nn _ I.free,fun x c e=>nn c (I.freeC x c e),fun p hp=>?_,fun b u e=>?_,I.len⟩
 ·obtain⟨m,z⟩:=I.base.tbls b ps e;exact⟨m,ne b _ z (fun _ z=>nomatch z)⟩
 ·obtain⟨z1,z2,z3⟩:=I.pin p hp;exact⟨z1,nn _ z2,z3⟩
 ·obtain⟨b1,b2⟩:=Zb e;exact(I.hok b u b2).stay (fun _ _ _ q=>q) (fun c q=>ne c _ q (fun _ z=>nomatch z)) fun c xs q=>ne c _ q (fun _ z=>nomatch z)
structure HasB(P:Program)(w:World)(K:W.Frag)(mg:Str→Option Value)(x:Str)(k:Nat)(ps:List Str)(sp:Heap→Sp):Prop where
 ex:∃f fd,(∀base:Heap,K.In base→base.Ns mainGlobals mg→FnOk P w K mg base CX0 k f fd ps (sp base))∧Binds K fd ps []∧W.keepIn K (.ref f)=true∧mg x=some (.ref f)
structure Wid(X:Cx)(σ:St)(a:Addr)(ob:Obj)(B:Heap):Prop where
 kin:X.K.In B
 glb:B.Ns mainGlobals X.mg
 sub:∀b o,X.base.get? b=some o→B.get? b=some o
 fn:B.get? a=some ob
 cell:∀(i:Nat) x v,X.N[i]?=some x→σ[i]?=some (some v)→X.env.scope.names.lookup x=some .cell→∃c u,X.env.cells.lookup x=some c∧B.IsCell c (some u)∧RelV v u
 cells:∀x c,X.env.cells.lookup x=some c→∃v,B.IsCell c v
 inj:∀x y c,X.env.cells.lookup x=some c→X.env.cells.lookup y=some c→x=y
def uh(X:Cx)(sp:Heap→Sp)(t:TA):TE:=fun σ H Q=>t σ H fun vs H1=>∃a ob,H1 a=some (foO ob a)∧∀B,Wid X σ a ob B→sp B vs (am a H1) Q E0
section
variable{X:Cx}{j k:Nat}{ps:List Str}{sp:Heap→Sp}{x:Str}{p pos:Pos}{e:Expr}{es:List Expr}{t:TA}
theorem gx(h:HasB X.prog X.w X.K X.mg x j ps sp)(hfn:∀x,X.fn x=true)(hst:X.stack=X.env::X.outer)(hfr:X.env.frame=some X.env.locals)(hr:Room k X.A)(ha:PA X (e::es) t)(hg:Gl X x:=by rfl)(hj:j≤k:=by first | decide | omega)(hdb:(x==("__debug__":Str))=false:=by decide)(he:starEach (e::es) X.env=(false,eval e X.env)::starEach es X.env:=by rfl)(hpl:(backTo pos (starEach es X.env)).any (·.1)=false:=by rfl):
  PE X (.Call (.Name x p) (e::es) [] pos) (uh X sp t):=by
 intro or s σ H Q I q;obtain⟨f,fd,F,b,kp,m⟩:=h.ex;refine yT (On I hg m ?_ hdb);refine W.callWith_K (h₀:=X.base) I.ok.mod.kin kp (thn (ha pos or s σ H _ I q) fun us s1 z=>?_) he hpl;obtain⟨vs,H1,I1,r,a,ob,ea,q⟩:=z;refine⟨I1.kIn,?_⟩;have I2:Inv X or σ (am a H1) s1:=I1.drop ea;have oa:s1.heap.get? a=some ob:=(show ObjOk X.prog X.w H1 s1.heap a (foO ob a)from I1.hok a _ ea).1;generalize hB:qD X.base s1.heap (a::X.env.cells.filterMap fun d=>X.env.cells.lookup d.1)=B;have cin:∀y c,X.env.cells.lookup y=some c→c∈a::X.env.cells.filterMap fun d=>X.env.cells.lookup d.1:=fun y c z=>.tail _ (yw.mpr ⟨(y,c),xu z,z⟩);have cou:∀b,b∈a::X.env.cells.filterMap (fun d=>X.env.cells.lookup d.1)→b=a∨∃y,X.env.cells.lookup y=some b:=fun b hb=>by
  rcases wX.mp hb with z | z
  ·exact .inl z
  ·obtain⟨d,_,e⟩:=yw.mp z;exact .inr ⟨d.1,e⟩
 have sub:∀b o,X.base.get? b=some o→B.get? b=some o:=fun b o z=>hB ▸ Qh (I1.bk b o z) (.inl ⟨o,z⟩);have up:∀b o,B.get? b=some o→s1.heap.get? b=some o∧am a H1 b=none:=fun b o z=>by
  rw[←hB]at z;obtain⟨z1,z2⟩:=kj z;refine⟨z1,?_⟩
  rcases z2 with⟨u,z2⟩ | z2
  ·exact(I2.bs b u z2).2
  ·rcases cou b z2 with z3 | ⟨y,z3⟩
   ·rw[z3];exact S1
   ·exact I2.freeC y b z3
 have clB:∀y c v,X.env.cells.lookup y=some c→s1.heap.IsCell c v→B.IsCell c v:=fun y c v e ⟨o,z,d⟩=>⟨o,hB ▸ Qh z (.inr (cin y c e)),d⟩;have nB:∀L∈frs X.stack,B.get? L=none:=fun L hL=>by
  cases z:B.get? L with
  |none=>rfl
  |some o=>
   exfalso;rw[←hB]at z;obtain⟨z1,z2⟩:=kj z
   rcases z2 with⟨u,z2⟩ | z2
   ·have:=(I1.stack.mem hL).1;rw[z2]at this;cases this
   ·rcases cou L z2 with z3 | ⟨y,z3⟩
    ·have:=I1.stkFree L hL;rw[z3,ea]at this;cases this
    ·rcases wX.mp (I1.stkSub L hL)with z4 | z4
     ·exact I1.cne y L z3 z4
     ·obtain⟨_,o',ho',_⟩:=I1.ok.funs.mem z4;exact absurd (xk (wE ho') (I1.ok.cab y L (hfn y) z3)) (yK _)
 have md:=I1.ok.mod;have kinB:X.K.In B:=fun b o z=>sub b o (md.kin b o z);have glbB:B.Ns mainGlobals X.mg:=md.glob.keeps sub;have modB:Mod X.K X.mg B:=⟨kinB,glbB,let ⟨mb,h1,h2⟩:=md.blt;⟨mb,h1.keeps sub,h2⟩,md.nolimit.keeps sub⟩;have szB:B.objs.size≤s1.heap.objs.size:=by rw[←hB];exact Nat.le_of_eq (W.hideAll_size _ _)
 have e0:Env0 X.prog X.w X.K X.mg B X.A X.stack s1 (am a H1):=⟨I2.ok.frames,modB,up,szB,Vl I1.stack nB,I2.stkFree,I2.hok,I2.bare⟩;have wid:Wid X σ a ob B:=by
  refine⟨kinB,glbB,sub,hB ▸ Qh oa (.inr (.head _)),fun i y v h1 h2 h3=>?_,fun y c z=>?_,I1.ok.inj⟩
  ·obtain⟨mm,_,hl⟩:=I1.loc;obtain⟨u,rv,lk⟩:=hl i y v h1 h2 (.inr (.inl h3))
   rcases lk with⟨h4,_⟩|⟨_,c,h5,h6⟩
   ·have h4:X.env.scope.names.lookup y=some .local:=h4;rw[h3]at h4;cases h4
   ·exact⟨c,u,h5,clB y c _ h5 h6,rv⟩
  ·obtain⟨v,h6⟩:=I1.cell y c z;exact⟨v,clB y c v z h6⟩
 have hsp:=q B wid;have FB:=(F B kinB glbB).mono hj;have hl:us.length=ps.length:=by rw[←r.length];exact FB.len _ _ _ _ hsp
 have hbi:=b s1 us I1.kIn (by rw[xF];exact hl);rw[xF]at hbi;refine wpAny_call (zo (FB.run X.A X.stack s1 (am a H1) ⟨us,[]⟩ us vs Q E0 hr e0 hbi r hsp) fun r s' hq=>?_);cases r with
 |error e=>exact False.elim hq
 |ok fl=>
  cases fl with
  |ret u=>exact I2.after hq
  |next=>exact False.elim hq
  |brk=>exact False.elim hq
  |cont=>exact False.elim hq
end
def entH(Ts:List Addr)(s:Hp):Hp:=fun b=>if b∈Ts then some (.tbl #[])else s b
theorem lF{P:Program}{w:World}{K:W.Frag}{mg mb:Str→Option Value}{k:Nat}{fa a:Addr}{fd:FuncData}{x:Str}{sp:Sp}{s₁:Shared}{vs:List Value}{ns:List Int}{tabs:List (Addr×Addr)}(KX:K.In s₁.heap)(hns:s₁.heap.Ns mainGlobals mg)(hb:s₁.heap.Ns builtinsNs mb)(hbb:∀x:Str,x≠"__name__"→mb x=bootBuiltins x)(hlim:s₁.heap.NoLimit)(hg:s₁.gens=#[])(hbm:∃bm ob,mg "__builtins__"=some (.ref bm)∧bm≠builtinsNs∧s₁.heap.get? bm=some ob∧ob.cls=.type "module"∧ob.dict=some builtinsNs∧ob.data=.plain)(hT:W.TabsAt tabs s₁.heap)(hKT:∀T∈tabs.map (·.2),K.lookup T=none)(ha:s₁.heap.get? a=some {cls:=.type "list",data:=.seq vs.toArray})(hi:IntsAre vs ns)(hl:ns.length≤sizeLine)(hr:Room k callerA)(F:∀base:Heap,K.In base→base.Ns mainGlobals mg→(∀T∈tabs.map (·.2),base.BuiltinsAt mg T)→FnOk P w K mg base CX0 k fa fd [x] sp)(hbind:∀(s:Shared) (u:Value),BindsTo s fd ⟨[u],[]⟩ [(x,u)])(hsp:∀H:Hp,SqL K H a (ns.map V.int)→(∀T∈tabs.map (·.2),H T=some (.tbl #[]))→sp [.ref a] H (fun v _=>v=.bl true) fun _ _ _=>False):
  codeAny (model P w) callerA (.call (.ref fa) ⟨[.ref a],[]⟩) (fun r s'=>r=.ok (.ret (.bool true))∧OldK s₁.heap s'.heap∧s'.os=s₁.os∧AllBare s'.gens) s₁:=by
 have rv:=Vo hi;have lenV:=hi.length;have tabO:∀T∈tabs.map (·.2),s₁.heap.get? T=some (W.tabObj #[]):=fun T h=>by
  obtain⟨q,hq,rfl⟩:=wW.mp h;exact(hT q hq).2
 have aT:a∉tabs.map (·.2):=fun z=>by
  have:=tabO a z;rw[ha]at this;cases this
 have core:∀S:Hp,SqL K S a (ns.map V.int)→HOk P w S s₁.heap→(∀b,S b≠none→b=a)→(S a≠none→K.lookup a=none)→(∀b u,S b=some u→∃o xs,u=.frz o (.lst xs))→
   codeAny (model P w) callerA (.call (.ref fa) ⟨[.ref a],[]⟩) (fun r s'=>r=.ok (.ret (.bool true))∧OldK s₁.heap s'.heap∧s'.os=s₁.os∧AllBare s'.gens) s₁:=by
  intro S hS hokS hA hK hfrz;generalize hHd:entH (tabs.map (·.2)) S=H;have HT:∀b,b∈tabs.map (·.2)→H b=some (.tbl #[]):=fun b h=>by rw[←hHd];exact wM h
  have HS:∀b,b∉tabs.map (·.2)→H b=S b:=fun b h=>by rw[←hHd];exact wK h
  have hok:HOk P w H s₁.heap:=fun b u e=>by
   by_cases m:b∈tabs.map (·.2)
   ·rw[HT b m]at e;cases e;exact tabO b m
   ·rw[HS b m]at e;obtain⟨o,xs,rfl⟩:=hfrz b u e;exact hokS b _ e
  have noN:∀{b:Addr}{o:Obj},s₁.heap.get? b=some o→(∀ps,o≠W.tabObj ps)→(∀xs n,o.data≠.seq xs n)→H b=none:=fun{b o} e n1 n2=>by
   by_cases m:b∈tabs.map (·.2)
   ·exact absurd (xA (e.symm.trans (tabO b m))) (n1 #[])
   ·rw[HS b m];cases q:S b with
    |none=>rfl
    |some u=>
     have e':b=a:=hA b (by rw[q];exact fun z=>nomatch z);subst e';rw[ha]at e;cases e;exact absurd rfl (n2 _ _)
  have base_of:∀{b:Addr}{o:Obj},s₁.heap.get? b=some o→H b=none→(ei s₁.heap H).get? b=some o:=fun e n=>ox e n;have nsK:∀{b:Addr}{m:Str→Option Value},s₁.heap.Ns b m→(ei s₁.heap H).Ns b m:=fun{b m} ⟨o,es,ep,e,d,r⟩=>⟨o,es,ep,base_of e (noN e (fun ps z=>by rw[z]at d;cases d) fun xs n z=>by rw[z]at d;cases d),d,r⟩;have hKb:K.In (ei s₁.heap H):=fun b o e=>base_of (KX b o e) (by
   by_cases m:b∈tabs.map (·.2)
   ·rw[hKT b m]at e;cases e
   ·rw[HS b m];cases q:S b with
    |none=>rfl
    |some u=>
     have e':b=a:=hA b (by rw[q];exact fun z=>nomatch z);subst e';rw[hK (by rw[q];exact fun z=>nomatch z)]at e;cases e)
  have hM:Mod K mg (ei s₁.heap H):=⟨hKb,nsK hns,⟨mb,nsK hb,hbb⟩,let ⟨mc,h1,h2⟩:=hlim;⟨mc,nsK h1,h2⟩⟩;have hBt:∀T∈tabs.map (·.2),(ei s₁.heap H).BuiltinsAt mg T:=fun T m=>by
   obtain⟨bm,ob,b1,b2,b3,b4,b5,b6⟩:=hbm;refine⟨bm,ob,b1,b2,fun z=>?_,fun z=>?_,base_of b3 (noN b3 (fun ps z=>by rw[z]at b6;cases b6) fun xs n z=>by rw[z]at b6;cases b6),b4,b5,b6⟩
   ·obtain⟨o,es,ep,e,d,_⟩:=hns;rw[z,e]at b3;cases b3;rw[b6]at d;cases d
   ·rw[z,tabO T m]at b3;cases b3;cases b6
  have e0:Env0 P w K mg (ei s₁.heap H) callerA [] s₁ H:=⟨rfl,hM,fun b o e=>rH e,Nat.le_of_eq (lY _ _),trivial,fun b hb=>absurd (show b∈([]:List Addr)from hb) (by simp),hok,.of_eq hg⟩;have hS':SqL K H a (ns.map V.int):=by
   rcases hS with(h | ⟨o,h⟩) | h
   ·exact .inl (.inl (by rw[HS a aT];exact h))
   ·exact .inl (.inr ⟨o,by rw[HS a aT];exact h⟩)
   ·exact .inr h
  refine zo ((F _ hKb (nsK hns) hBt).run callerA [] s₁ H ⟨[.ref a],[]⟩ [.ref a] [.ref a] _ _ hr e0 (hbind s₁ (.ref a)) (.cons rfl .nil) (hsp H hS' HT)) fun r s' h=>?_;cases r with
  |error e=>exact False.elim h
  |ok fl=>
   cases fl with
   |next=>exact False.elim h
   |brk=>exact False.elim h
   |cont=>exact False.elim h
   |ret u=>
    obtain⟨v,H',os,bare,un,hok',r',q⟩:=h;have q':v=.bl true:=q;subst q';obtain rfl:u=Value.bool true:=r';have oth:∀b o,s₁.heap.get? b=some o→b∉tabs.map (·.2)→s'.heap.get? b=some o:=fun b o e m=>by
     cases q:H b with
     |none=>exact un.keep b o e q (by intro z;exact absurd (show b∈([]:List Addr)from z) (by simp)) (by simp)
     |some u=>
      obtain⟨ob,xs,rfl⟩:=hfrz b u (by rw[←HS b m];exact q);have z2:=un.frzs b ob _ q;obtain⟨e1,_⟩:=hok b _ q;obtain⟨e2,_⟩:=hok' b _ z2;rw[e]at e1;cases e1;exact e2
    have tab:∀b,b∈tabs.map (·.2)→∃more,s'.heap.get? b=some (W.tabObj more):=fun b m=>by
     obtain⟨more,z⟩:=un.tbls b #[] (HT b m);exact⟨_,hok' b _ z⟩
    refine⟨rfl,⟨fun b o e=>?_,fun b o e=>?_⟩,os,bare⟩
    ·by_cases m:b∈tabs.map (·.2)
     ·obtain⟨more,z⟩:=tab b m;obtain⟨t,ht,rfl⟩:=wW.mp m;rw[tabO _ m]at e;cases e;refine .inr (.inl ⟨((hT t ht).1.tab (hT t ht).2).isCodeTable,rfl,#[],more,rfl,?_⟩);rw[z];simp
     ·exact .inl (oth b o e m)
    ·by_cases m:b∈tabs.map (·.2)
     ·obtain⟨more,z⟩:=tab b m;exact⟨_,z⟩
     ·exact⟨o,oth b o e m⟩
 cases hk:K.lookup a with
 |some o=>
  have e:=KX a o hk;rw[ha]at e;cases e;refine core (fun _=>none) (.inr ⟨_,vs.toArray,_,hk,rfl,rfl,rfl,by rw[List.size_toArray,lenV];exact hl,by simpa using rv⟩) (fun b u z=>by have z':(none:Option HO)=some u:=z;cases z') (fun b z=>absurd rfl z) (fun z=>absurd rfl z) (fun b u z=>by have z':(none:Option HO)=some u:=z;cases z')
 |none=>
  refine core (fun b=>if b=a then some (.frz {cls:=.type "list",data:=.seq vs.toArray} (.lst (ns.map V.int)))else none) (.inl (.inr ⟨{cls:=.type "list",data:=.seq vs.toArray},wM rfl⟩)) (fun b u z=>?_) (fun b z=>?_) (fun _=>hk) fun b u z=>?_
  ·by_cases hb:b=a
   ·have z':=(wM hb).symm.trans z;cases z';subst hb;exact⟨ha,by rw[aq];exact hl,vs,_,rv,ha⟩
   ·have z':=(wK hb).symm.trans z;cases z'
  ·by_cases hb:b=a
   ·exact hb
   ·exact absurd (wK hb) z
  ·by_cases hb:b=a
   ·have z':=(wM hb).symm.trans z;cases z';exact⟨_,_,rfl⟩
   ·have z':=(wK hb).symm.trans z;cases z'
theorem walk_T{l:W.OpenLaw}{n k:Nat}{q:Program}{loose:List Str}{XP:(Str→Option Value)→Heap→Prop}{YP:World→Heap→Prop}{d:DefRec}{K:Params→W.Frag}{sp:World→Sp}{x:Str}{tabs:List (Addr×Addr)}(hn:l.most=some n)(hn2:n≤sizeLine)(hdf:d.params.defaults=[])(hr:Room k callerA)(hY:∀(w:World) (h:Heap),YP w h→(K w.params).In h)(hT:∀(w:World) (mg mb:Str→Option Value) (loose':List Str) (mean:ExcName→Option Value) (h:Heap),Top q loose' mean mg mb h→(K w.params).In h→W.TabsAt tabs h)(hKT:∀(w:World),∀T∈tabs.map (·.2),(K w.params).lookup T=none)(F:∀(w:World) (mg:Str→Option Value) (fa:Addr) (h:Heap),(K w.params).In h→h.Ns mainGlobals mg→mg d.name=some (.ref fa)→
   ∃fd:FuncData,(∀(s:Shared) (u:Value),BindsTo s fd ⟨[u],[]⟩ [(x,u)])∧
    ∀base:Heap,(K w.params).In base→base.Ns mainGlobals mg→(∀T∈tabs.map (·.2),base.BuiltinsAt mg T)→FnOk l.prog w (K w.params) mg base CX0 k fa fd [x] (sp w))(hsp:∀(w:World) (H:Hp) (a:Addr) (ns:List Int),ns.length≤n→SqL (K w.params) H a (ns.map V.int)→(∀T∈tabs.map (·.2),H T=some (.tbl #[]))→sp w [.ref a] H (fun v _=>v=.bl true) fun _ _ _=>False):
  W.WalkO q loose XP YP l.row.toRowW d [] (fun f vs=>PySem.call f vs):=by
 refine Att.attach_call hn hdf fun w s₀ s₁ mg mb fa o pm cd doc a vs ns G Y ho hd hcd hmg hobj hints Al hg=>?_;have KX:=hY w _ Y;obtain⟨fd,hb,hF⟩:=F w mg fa _ KX G.T.g hmg;exact lF KX G.T.g G.T.b G.T.builtins G.T.nolimit hg G.T.bmain (hT w mg mb _ _ _ G.T KX) (hKT w) hobj hints (x3 Al hn2) hr hF hb (fun H hS hTT=>hsp w H a ns Al hS hTT)
def uv(K:W.Frag):List V→Hp→VK→Prop:=fun xs H Q=>∃p ys,xs=[.ref p]∧(SqL K H p ys∨SqT K H p ys)∧∀l,H l=none→Q (.ref l) (upd H l (.lst ys))
theorem Qw{X:Cx}(K:W.Frag)(hK:X.K=K):aV X (.type "list") (uv K):=by subst hK;exact Oz
def Itz(K:W.Frag)(a b:Addr):It:=
 ⟨fun i H=>∃xs ys x y,SqL K H a xs∧SqL K H b ys∧xs[i]?=some x∧ys[i]?=some y,
  fun i H u H'=>∃T x y,u=.ref T∧H T=none∧H'=upd H T (.tup [x,y])∧∀xs ys,SqL K H a xs→SqL K H b ys→xs[i]?=some x∧ys[i]?=some y,
  fun i H=>∃xs ys,SqL K H a xs∧SqL K H b ys∧(xs.length≤i∨ys.length≤i)⟩
section
variable{X:Cx}{or:List (Addr×Obj)}{σ:St}{H:Hp}{s:Shared}{h':Heap}
theorem Inv.turnedL{t':Nat}{ch:List Addr}(I:Inv X or σ H s)(k:∀b o,b∉ch→s.heap.get? b=some o→h'.get? b=some o)(hc:∀b∈ch,cw X or H b):Inv X or σ H {s with heap:=h',toks:=t'}:=by
 have nit:∀b u,H b=some u→b∉ch:=fun b u e z=>by rw[(hc b z).1]at e;cases e
 refine I.step (g':=s.gens) (d':=s.drawn) (ch:=ch) (fun b hb=>?_) (fun b o _ _ hc e _=>k b o hc e) (fun b o _ _ hc e _=>⟨o.slots,k b o hc e⟩) (fun _ _ _ _ n=>n) (fun b o hc e=>⟨o,k b o hc e⟩) (fun _ _ e=>e) (fun _ _ _ e=>e) (fun b ps e=>⟨#[],by rw[e];simp⟩) (fun m hm=>?_) (fun b u e=>?_) I.bare
 ·obtain⟨f0,f1,f2,f3,f4,f5⟩:=hc b hb;exact⟨f3,f1,f4,f5⟩
 ·obtain⟨o,es,ep,ho,r⟩:=hm;exact⟨o,es,ep,k _ o (fun z=>(hc _ z).2.1 rfl) ho,r⟩
 ·refine(I.hok b u e).stay (fun c v hc q=>k c v ?_ q) (fun _ q=>q) fun _ _ q=>q
  rcases hc with z | z
  ·rw[z];exact nit b u e
  ·exact nit c _ z
theorem Inv.zipped{t':Nat}{ch:List Addr}{T:Addr}{o:HO}(I:Inv X or σ H s)(k:∀b o,b∉ch→s.heap.get? b=some o→h'.get? b=some o)(hc:∀b∈ch,cw X or H b)(hT:s.heap.objs.size≤T)(new:ObjOk X.prog X.w (upd H T o) h' T o):Inv X or σ (upd H T o) {s with heap:=h',toks:=t'}:=by
 have hn:=I.hok.fresh hT;have nit:∀b u,H b=some u→b∉ch:=fun b u e z=>by rw[(hc b z).1]at e;cases e
 have up:∀{b:Addr}{u:HO},H b=some u→upd H T o b=some u:=fun{b u} e=>by rw[Z9 (Zh e hn)];exact e
 refine I.step (g':=s.gens) (d':=s.drawn) (ch:=ch) (fun b hb=>?_) (fun b o _ _ hc e _=>k b o hc e) (fun b o _ _ hc e _=>⟨o.slots,k b o hc e⟩) (fun b o' _ e n=>?_) (fun b o hc e=>⟨o,k b o hc e⟩) (fun _ _ e=>up e) (fun _ _ _ e=>up e) (fun b ps e=>⟨#[],by rw[up e];simp⟩) (fun m hm=>?_) (fun b u e=>?_) I.bare
 ·obtain⟨f0,f1,f2,f3,f4,f5⟩:=hc b hb;exact⟨f3,f1,f4,f5⟩
 ·rw[Z9 (wS (xk (wE e) hT))];exact n
 ·obtain⟨o,es,ep,ho,r⟩:=hm;exact⟨o,es,ep,k _ o (fun z=>(hc _ z).2.1 rfl) ho,r⟩
 ·by_cases hb:b=T
  ·subst hb;rw[Z5]at e;cases e;exact new
  ·rw[Z9 hb]at e;refine(I.hok b u e).stay (fun c v hc q=>k c v ?_ q) (fun _ q=>up q) fun _ _ q=>up q
   rcases hc with z | z
   ·rw[z];exact nit b u e
   ·exact nit c _ z
end
abbrev vf(z TI TO i1 i2 l1 l2:Addr):Nat→Heap→Prop:=fun i h=>IsZip h z TI TO .none∧IsPair h TI (.ref i1) (.ref i2)∧(∃a b,IsPair h TO a b)∧h.IsListIter i1 l1 i∧h.IsListIter i2 l2 i
theorem nU{P:Program}{w:World}{K:W.Frag}{elts:List Expr}{k:Nat}{pos:Pos}{z TI TO i1 i2 l1 l2:Addr}(D:ZipApart z TI TO i1 i2 l1 l2):Turn P w K (.Tuple elts k pos) (Itz K l1 l2) [z,TI,TO,i1,i2] z (vf z TI TO i1 i2 l1 l2) where
 mem:=by simp
 obj:=fun i h st b hb=>by
  obtain⟨hz,hTI,⟨a',b',hTO⟩,⟨o1,e1,c1,d1⟩,o2,e2,c2,d2⟩:=st;simp only[List.mem_cons,List.not_mem_nil,or_false]at hb
  rcases hb with rfl | rfl | rfl | rfl | rfl
  ·exact⟨_,hz,fun v q=>(nomatch q)⟩
  ·exact⟨_,hTI,fun v q=>(nomatch q)⟩
  ·exact⟨_,hTO,fun v q=>(nomatch q)⟩
  ·exact⟨o1,e1,fun v q=>by rw[d1]at q;cases q⟩
  ·exact⟨o2,e2,fun v q=>by rw[d2]at q;cases q⟩
 keep:=fun i h h' st kk=>by
  obtain⟨hz,hTI,⟨a,b,hTO⟩,h1,h2⟩:=st;exact⟨kk z (by simp) _ hz,kk TI (by simp) _ hTI,⟨a,b,kk TO (by simp) _ hTO⟩,h1.at fun o e=>kk i1 (by simp) o e,h2.at fun o e=>kk i2 (by simp) o e⟩
 item:=by
  intro X hP hw hK hc i or s σ H E I hf st hg;subst hP hw hK;obtain⟨xs,ys,x,y,hq1,hq2,hx,hy⟩:=hg;obtain⟨its1,rv1,p1,hz1⟩:=I.list hq1;obtain⟨its2,rv2,p2,hz2⟩:=I.list hq2;obtain⟨u,hu,ru⟩:=rv1.get hx;obtain⟨v,hv,rv⟩:=rv2.get hy;obtain⟨hz,hTI,⟨a,b,hTO⟩,h1,h2⟩:=st;refine wpAny_pyNext_zip_item D hz hTI hTO h1 h2 p1.isList p2.isList (x:=u) (y:=v) (by simpa using hu) (by simpa using hv) fun h' a1 a2 a3 a4 a5 a6 hk=>?_;refine⟨_,rfl,?_⟩;refine wpAny_letOwnedTupleGo_zip (s:={s with heap:=h'}) a1 fun h2' z' sb=>?_;have lt:∀{c o},s.heap.get? c=some o→c≠s.heap.objs.size:=fun e=>wS (wE e);have Tz:s.heap.objs.size≠z:=Ne.symm (lt hz);have l1':i1≠s.heap.objs.size:=by obtain⟨o,e,_⟩:=h1;exact lt e
  have l2':i2≠s.heap.objs.size:=by obtain⟨o,e,_⟩:=h2;exact lt e
  refine⟨.ref s.heap.objs.size,upd H s.heap.objs.size (.tup [x,y]),?_,rfl,⟨s.heap.objs.size,x,y,rfl,I.hok.fresh (pi _),rfl,fun xs' ys' e1 e2=>?_⟩,?_,fun b hb=>?_⟩
  ·refine I.zipped (t':=s.toks) (ch:=[z,TI,TO,i1,i2]) (fun b o hb e=>?_) hf (pi _) ⟨by show(2:Nat)≤sizeLine;decide,[u,v],.cons ru (.cons rv .nil),?_⟩
   ·simp only[List.mem_cons,List.not_mem_nil,or_false,not_or]at hb;obtain⟨b1,b2,b3,b4,b5⟩:=hb;exact sb.extBut _ _ b1 (hk b o b1 b3 b4 b5 e)
   ·exact⟨_,sb.extBut _ _ Tz a5,⟨rfl,rfl⟩,_,rfl⟩
  ·rw[I.list_inj e1 hq1,I.list_inj e2 hq2];exact⟨hx,hy⟩
  ·exact⟨z',sb.extBut _ _ D.TIz (hk _ _ D.TIz D.TITO D.TIi1 D.TIi2 hTI),⟨_,_,sb.extBut _ _ D.TOz a2⟩,a3.extBut sb.extBut D.i1z,a4.extBut sb.extBut D.i2z⟩
  ·have bn:b≠s.heap.objs.size:=by
    simp only[List.mem_cons,List.not_mem_nil,or_false]at hb
    rcases hb with rfl | rfl | rfl | rfl | rfl
    ·exact lt hz
    ·exact lt hTI
    ·exact lt hTO
    ·exact l1'
    ·exact l2'
   rw[Z9 bn];exact(hf b hb).1
 done:=by
  intro X hP hw hK hc i or s σ H E I hf st hg;subst hP hw hK;obtain⟨xs,ys,hq1,hq2,hx⟩:=hg;obtain⟨its1,rv1,p1,hz1⟩:=I.list hq1;obtain⟨its2,rv2,p2,hz2⟩:=I.list hq2;obtain⟨hz,hTI,⟨a,b,hTO⟩,h1,h2⟩:=st;have e1:=rv1.length;have e2:=rv2.length;refine wpAny_pyNext_zip_end (I.ok.hd hc) D hz hTI hTO h1 h2 p1.isList p2.isList ?_ fun h' hk=>⟨rfl,I.turnedL (t':=s.toks) (ch:=[z,TI,TO,i1,i2]) (fun b o hb e=>?_) hf⟩
  ·rcases hx with hx | hx
   ·exact .inl (by simp;omega)
   ·exact .inr (by simp;omega)
  ·simp only[List.mem_cons,List.not_mem_nil,or_false,not_or]at hb;obtain⟨b1,b2,b3,b4,b5⟩:=hb;exact hk b o b1 b3 b4 b5 e
 self:=fun _ _ _ _ _ st h=>wpAny_pyIter_zip st.1 h
def iZip(K:W.Frag)(ta:TA):TI:=fun σ H R=>ta σ H fun vs H1=>∃a b,vs=[.ref a,.ref b]∧(∃xs,SqL K H1 a xs)∧(∃ys,SqL K H1 b ys)∧R (Itz K a b) H1
theorem tu{X:Cx}{elts:List Expr}{n:Nat}{tp:Pos}{a b:Expr}{ta:TA}{p pos:Pos}(hg:Gl X "zip")(hm:X.mg "zip"=none)(ha:PA X [a,b] ta)(hs:starEach [a,b] X.env=[(false,eval a X.env),(false,eval b X.env)]:=by rfl)(hs2:starEach [b] X.env=[(false,eval b X.env)]:=by rfl):
  PI X (.Tuple elts n tp) (.Call (.Name "zip" p) [a,b] [] pos) (iZip X.K ta):=by
 intro or s σ H R I h;refine Call_ (Um I hg hm boot_zip (yR (thn (ha pos or s σ H _ I h) fun us s1 ⟨vs,H1,I1,r1,q1⟩=>?_) (by rw[hs,hs2]) (by rw[hs2];rfl)));obtain⟨l1,l2,e,⟨xs,hq1⟩,⟨ys,hq2⟩,q⟩:=q1;subst e;cases r1 with
 |cons r rr=>
  cases rr with
  |cons r' rr=>
   cases rr;cases r;cases r';obtain⟨its1,rv1,p1,hz1⟩:=I1.list hq1;obtain⟨its2,rv2,p2,hz2⟩:=I1.list hq2;have lt1:l1<s1.heap.objs.size:=by obtain⟨o,e,_⟩:=p1.isList;exact wE e
   have lt2:l2<s1.heap.objs.size:=by obtain⟨o,e,_⟩:=p2.isList;exact wE e
   have D:ZipApart (s1.heap.objs.size+4) (s1.heap.objs.size+2) (s1.heap.objs.size+3) s1.heap.objs.size (s1.heap.objs.size+1) l1 l2:=by constructor <;> (unfold Addr at *;omega)
   refine call_zip_2 p1.isList p2.isList fun h' c1 c2 c3 c4 c5 c6 hk=>?_;refine wpAny_pyIter_zip (s:={s1 with heap:=h'}) c1 ?_;refine⟨_,[_,_,_,_,_],_,_,H1,rfl,I1.kept (t':=s1.toks) hk,nU D,⟨c1,c2,⟨_,_,c3⟩,c4,c5⟩,fun b hb=>?_,q⟩;have hb':s1.heap.objs.size≤b:=by
    simp only[List.mem_cons,List.not_mem_nil,or_false]at hb
    rcases hb with rfl | rfl | rfl | rfl | rfl
    ·exact ya _ _
    ·exact ya _ _
    ·exact ya _ _
    ·exact pi _
    ·exact ya _ _
   exact I1.fpOk hb' (I1.hok.fresh hb')
theorem pH{K:W.Frag}{a b:Addr}{xs zs:List V}{k:Nat}{g:TG}{tt:TT}{te:TE}{σ:St}{H:Hp}{Q:VK}(Pv:Nat→List V→Hp→Prop)(h0:Pv 0 [] H)(hl:∀i ys H,i≤min xs.length zs.length→Pv i ys H→SqL K H a xs∧SqL K H b zs)(hs:∀i x z ys H (T:Addr) (C:List V→Hp→Prop),xs[i]?=some x→zs[i]?=some z→Pv i ys H→H T=none→(∀ys' H',Pv (i+1) ys' H'→C ys' H')→ys.length<sizeLine∧g (.ref T) (List.replicate k none++σ) (upd H T (.tup [x,z])) fun σ2 H2=>Wk σ2 (List.replicate k none++σ)∧tt σ2 H2 fun ok H3=>
   if ok=true then te σ2 H3 fun y H4=>C (ys++[y]) H4 else C ys H3)(Al:∀i ys H,i<min xs.length zs.length→Pv i ys H→ys.length<sizeLine)(hd:∀ys H,Pv (min xs.length zs.length) ys H→ys.length≤sizeLine∧∀p,H p=none→Q (.ref p) (upd H p (.lst ys))):
  CompR (Itz K a b) H k g tt te σ Q:=by
 refine⟨fun i m ys H=>m=min xs.length zs.length-i∧i≤min xs.length zs.length∧Pv i ys H,⟨min xs.length zs.length,by simp,Nat.zero_le _,h0⟩,?_⟩;rintro i m ys H ⟨rfl,hi,p⟩;obtain⟨q1,q2⟩:=hl i ys H hi p;by_cases Ac:i<min xs.length zs.length
 ·refine .inr ⟨⟨xs,zs,xs[i]'(by omega),zs[i]'(by omega),q1,q2,xj _,xj _⟩,Al i ys H Ac p,?_⟩;rintro _ _ ⟨T,x,z,rfl,nT,rfl,hy⟩;obtain⟨e1,e2⟩:=hy xs zs q1 q2;exact(hs i x z ys H T (fun ys' H'=>∃m',m'<min xs.length zs.length-i∧m'=min xs.length zs.length-(i+1)∧i+1≤min xs.length zs.length∧Pv (i+1) ys' H') e1 e2 p nT (fun ys' H' h=>⟨_,by omega,rfl,Ac,h⟩)).2
 ·have e:i=min xs.length zs.length:=Nat.le_antisymm hi (Nat.le_of_not_lt Ac);subst e;exact .inl ⟨⟨xs,zs,q1,q2,by omega⟩,hd ys H p⟩
theorem r8{X:Cx}:OpR X (compareOp .IsNot) (fun x y H Q=>∃k:Bool,x=.bl k∧y=.bl true∧Q (.bl (!k)) H):=by
 intro or s σ H x y v u Q I rx ry h;obtain⟨k,rfl,rfl,q⟩:=h;cases rx;cases ry;exact wpAny_isNot_plain (by cases k <;> rfl) (Zm I q (by cases k <;> rfl))
end L2
namespace L2
open PySem PySem.Spec PyProof.Rows
def eY(l:Addr)(items:Array Value)(n:Nat)(x:Int)(y:Value):PySem.Spec:=fun _ R s=>s.heap.get? l=some {cls:=.type "list",dict:=none,data:=.seq items n,slots:=#[]}∧R (.ok (.ret Value.none)) {s with heap:=s.heap.update l (Obj.mapSeq fun xs=>have k:=if x<0 then(x+(xs.size:Int)).toNat else min x.toNat xs.size;(xs.extract 0 k).push y++xs.extract k),toks:=s.toks}
theorem insM(l:Addr)(items:Array Value)(n:Nat)(x:Int)(u:Tok)(y:Value)(hc0:¬(!Builtin.List.listFitsIndex x)=true)(hs1:items.size≤sizeLine):Meets (Builtin.«list.insert» ⟨[.ref l,.int x u,y],[]⟩) (eY l items n x y):=@AutoSeq1.list_insert_list_int_val_1 l items n x u y hc0 hs1
theorem insC{prog:Program}{w:World}{A:Around}{E:Value→Shared→Prop}{s:Shared}{Q:Value→Shared→Prop}(l:Addr)(items:Array Value)(n:Nat)(x:Int)(u:Tok)(y:Value)(hc0:¬(!Builtin.List.listFitsIndex x)=true)(hs1:items.size≤sizeLine)(e:s.heap.get? l=some {cls:=.type "list",dict:=none,data:=.seq items n,slots:=#[]})(h:eY l items n x y A (wants Q E) s):wpAny (model prog w) A (call (Value.builtin "list.insert") [.ref l,.int x u,y]) Q E s:=
 @call_meets prog w A E s "list" _ "list.insert" _ (.ref l) [.int x u,y] (eY l items n x y) Q F.slot_list_insert ⟨_,e,rfl⟩ F.entry_list_insert (F.args_list_insert_3 _ _ _) (insM l items n x u y hc0 hs1) h
section
variable{X:Cx}
def qh:V→List V→Hp→VK→Prop:=fun x vs H Q=>∃(l:Addr)(xs:List V)(i:Nat)(y:V),x=.ref l∧vs=[.int i,y]∧H l=some (.lst xs)∧i≤xs.length∧xs.length<sizeLine∧i<1000000∧Q .non (upd H l (.lst (xs.take i++y::xs.drop i)))
theorem P0:∀{xs:List V}{us:List Value}(n:Nat),Vals xs us→Vals (xs.take n) (us.take n)
 |_,_,0,_=>.nil
 |_,_,_+1,.nil=>.nil
 |_,_,n+1,.cons a r=>.cons a (P0 n r)
theorem P2:∀{xs:List V}{us:List Value}(n:Nat),Vals xs us→Vals (xs.drop n) (us.drop n)
 |_,_,0,h=>h
 |_,_,_+1,.nil=>.nil
 |_,_,n+1,.cons a r=>P2 n r
theorem kX:MtM X "list.insert" qh:=by
 intro or s σ H x vs v us Q I rx rv h;obtain⟨l,xs,i,y,rfl,rfl,hH,hi,hz,hs,q⟩:=h;cases rx;obtain⟨u1,u,rfl,r1,r2⟩:∃u1 u2,us=[u1,u2]∧RelV (.int i) u1∧RelV y u2:=by
  cases rv with
  |cons r1 rv=>
   cases rv with
   |cons r2 rv=>
    cases rv;exact⟨_,_,rfl,r1,r2⟩
 obtain⟨t,rfl⟩:=r1;obtain⟨z,its,n,r,hl,e⟩:=I.lstM hH;have hc0:¬(!Builtin.List.listFitsIndex ((i:Nat):Int))=true:=by
  rw[fitsIndex_both (by omega) (by omega)];exact wJ
 have hsz:its.toArray.size≤sizeLine:=by rw[xh];omega
 refine insC l its.toArray n ((i:Nat):Int) t u hc0 hsz e ⟨e,?_⟩;refine⟨.non,_,I.lset (its':=its.take i++u::its.drop i) hH e ?_ ((P0 i r).append (.cons r2 (P2 i r))) ?_,rfl,q⟩
 ·have hk:(if (i:Int)<0 then((i:Int)+(its.toArray.size:Int)).toNat else min (i:Int).toNat its.toArray.size)=i:=by
   rw[wK (by omega),xh,Int.toNat_natCast];omega
  show(its.toArray.extract 0 (if (i:Int)<0 then((i:Int)+(its.toArray.size:Int)).toNat else min (i:Int).toNat its.toArray.size)).push u++its.toArray.extract (if (i:Int)<0 then((i:Int)+(its.toArray.size:Int)).toNat else min (i:Int).toNat its.toArray.size)=_;rw[hk];simp;exact xK (by rw[xI];exact pi _)
 ·rw[wH,wT,xq,xI];omega
end
section
variable{K:W.Frag}{S:Addr}{ns:List Int}{H H':Hp}{a p:Addr}
end
abbrev Ris(ps:Array Nat):Prop:=ps.toList.Pairwise (·<·)
theorem Uz{ps:Array Nat}(h:Ris ps){i k:Nat}(hik:i<k)(hk:k<ps.size):ps[i]'(by omega)<ps[k]:=by
 have:=yG.mp h i k (by rw[wG];omega) (by rw[wG];exact hk) hik;simpa using this
structure Cut(ps:Array Nat)(j b:Nat):Prop where
 le:b≤ps.size
 lo:∀i (h:i<ps.size),i<b→ps[i]<j
 hi:∀i (h:i<ps.size),b≤i→j≤ps[i]
theorem hJ{ps:Array Nat}{j:Nat}(h:Ris ps):∀(fuel lo hi:Nat),hi≤ps.size→lo≤hi→hi-lo≤fuel→(∀i (q:i<ps.size),i<lo→ps[i]<j)→(∀i (q:i<ps.size),hi≤i→j≤ps[i])→Cut ps j (SetTable.below.go ps j fuel lo hi)
 | 0,lo,hi,h1,h2,h3,h4,h5=>by
  have e:lo=hi:=by omega
  subst e;exact⟨h1,h4,h5⟩
 |fuel+1,lo,hi,h1,h2,h3,h4,h5=>by
  show Cut ps j (if lo<hi then if ps.getD ((lo+hi) / 2) j<j then SetTable.below.go ps j fuel ((lo+hi) / 2+1) hi else SetTable.below.go ps j fuel lo ((lo+hi) / 2)else lo);by_cases c:lo<hi
  ·rw[wM c];have hm:(lo+hi) / 2<ps.size:=by omega
   have eg:ps.getD ((lo+hi) / 2) j=ps[(lo+hi) / 2]:=by
    simp[Array.getD,hm]
   rw[eg];by_cases d:ps[(lo+hi) / 2]<j
   ·rw[wM d];refine hJ h fuel _ _ h1 (by omega) (by omega) (fun i q hi2=>?_) h5;by_cases e:i=(lo+hi) / 2
    ·subst e;exact d
    ·exact yu (Uz h (i:=i) (k:=(lo+hi) / 2) (by omega) hm) d
   ·rw[wK d];refine hJ h fuel _ _ (by omega) (by omega) (by omega) h4 (fun i q hi2=>?_);by_cases e:i=(lo+hi) / 2
    ·subst e;omega
    ·have:=Uz h (i:=(lo+hi) / 2) (k:=i) (by omega) q;omega
  ·rw[wK c];have e:lo=hi:=by omega
   subst e;exact⟨h1,h4,h5⟩
theorem S4{ps:Array Nat}(h:Ris ps)(j:Nat):Cut ps j (SetTable.below ps j):=
 hJ h ps.size 0 ps.size (pi _) (yc _) (by omega) (fun i q z=>by omega) (fun i q z=>by omega)
theorem ql{ps:Array Nat}{j b:Nat}(h:Ris ps)(c:Cut ps j b)(hm:j∈ps.toList):ps[b]?=some j:=by
 obtain⟨k,hk,e⟩:=y7.mp hm;rw[wG]at hk;have e:ps[k]=j:=by simpa using e
 have kb:b≤k:=by
  by_cases q:k<b
  ·have:=c.lo k hk q;omega
  ·omega
 have bk:b=k:=by
  by_cases q:b=k
  ·exact q
  ·have h1:=Uz h (i:=b) (k:=k) (by omega) hk;have h2:=c.hi b (by omega) (pi _);omega
 subst bk;rw[wC hk,e]
theorem ic{t:SetTable}(h:Ris t.place){j:Nat}(e:t.slot j=.empty):j∉t.place.toList:=fun hm=>by
 have q:=ql h (S4 h j) hm;have e:(if (t.place[SetTable.below t.place j]? == some j)=true then SetTable.Slot.live (SetTable.below t.place j)else if SetTable.has t.dummies j=true then SetTable.Slot.dummy else SetTable.Slot.empty)=SetTable.Slot.empty:=e;rw[q]at e;simp at e
theorem O7{t:SetTable}(hd:t.dummies=#[])(j:Nat):t.slot j≠.dummy:=by
 unfold SetTable.slot;have:SetTable.has t.dummies j=false:=by
  rw[hd];unfold SetTable.has;rfl
 rw[this];intro e;by_cases c:(t.place[SetTable.below t.place j]? == some j)=true
 ·simp[c]at e
 ·simp[c]at e
theorem lA(t:SetTable)(p:SetTable.Probe)(h:p.dummy=none):(t.advance p).dummy=none:=by
 unfold SetTable.advance;by_cases c:p.more > 0
 ·rw[wM c];exact h
 ·rw[wK c];exact h
theorem S6{t:SetTable}(hd:t.dummies=#[]){hashAt:Nat→Int}{h:Int}:∀(fuel:Nat)(p:SetTable.Probe),p.dummy=none→∀{j d},SetTable.probe.go t hashAt h fuel p=some (.empty j d)→d=none∧t.slot j=.empty
 | 0,p,hp,j,d,e=>by cases e
 |fuel+1,p,hp,j,d,e=>by
  have e:(match t.slot p.j with
   |.empty=>some (SetTable.Met.empty p.j p.dummy)
   |.dummy=>SetTable.probe.go t hashAt h fuel (t.advance {p with dummy:=some p.j})
   |.live i=>if (hashAt i==h)=true then some (SetTable.Met.candidate p.j i (t.advance p))else SetTable.probe.go t hashAt h fuel (t.advance p))=some (.empty j d):=e
  cases q:t.slot p.j with
  |empty=>
   rw[q]at e;cases e;exact⟨hp,q⟩
  |dummy=>exact absurd q (O7 hd _)
  |live i=>
   rw[q]at e;by_cases c:(hashAt i==h)=true
   ·simp[c]at e
   ·simp[c]at e;exact S6 hd fuel _ (lA t p hp) e
theorem kP{t:SetTable}(hr:Ris t.place)(hd:t.dummies=#[]){h:Int}{j:Nat}{d:Bool}(e:t.freeSlot h=some (j,d)):d=false∧j∉t.place.toList:=by
 unfold SetTable.freeSlot at e;generalize q:t.probe (fun _=>h+1) h (t.probeStart h)=r at e
 match r with
 |none=>cases e
 |some (.candidate _ _ _)=>cases e
 |some (.empty j' d')=>
  obtain⟨e1,e2⟩:=S6 hd _ _ (show(t.probeStart h).dummy=none from rfl) q;subst e1;cases e;exact⟨rfl,ic hr e2⟩
theorem Qt{α:Type}(xs:Array α)(p:Nat)(x:α)(hp:p≤xs.size):(SetTable.insertAt xs p x).toList=xs.toList.take p++x::xs.toList.drop p:=by
 unfold SetTable.insertAt;simp[Array.toList_append,Array.toList_extract,List.extract_eq_drop_take];rw[List.take_of_length_le (by simp)]
theorem iK{ps:Array Nat}(h:Ris ps){j:Nat}(hn:j∉ps.toList):Ris (SetTable.insertAt ps (SetTable.below ps j) j):=by
 have c:=S4 h j;show(SetTable.insertAt ps (SetTable.below ps j) j).toList.Pairwise (·<·);rw[Qt _ _ _ c.le,xx];refine⟨h.sublist (yM _ _),xc.mpr ⟨fun y hy=>?_,h.sublist (zJ _ _)⟩,fun y hy z hz=>?_⟩
 ·obtain⟨k,hk,rfl⟩:=y7.mp hy;rw[xI,wG]at hk;rw[List.getElem_drop];have:=c.hi (SetTable.below ps j+k) (by omega) (by omega);have ne:ps[SetTable.below ps j+k]'(by omega)≠j:=fun q=>hn (by
   rw[←q];exact Array.getElem_mem_toList _)
  have e:ps.toList[SetTable.below ps j+k]'(by rw[Array.length_toList];omega)=ps[SetTable.below ps j+k]'(by omega):=by simp
  rw[e];omega
 ·obtain⟨k,hk,rfl⟩:=y7.mp hy;rw[wT,wG]at hk;rw[List.getElem_take];have e:ps.toList[k]'(by rw[Array.length_toList];omega)=ps[k]'(by omega):=by simp
  rw[e];have l1:=c.lo k (by omega) (by omega)
  rcases wX.mp hz with rfl | hz
  ·exact l1
  ·obtain⟨k2,hk2,rfl⟩:=y7.mp hz;rw[xI,wG]at hk2;rw[List.getElem_drop];have:=c.hi (SetTable.below ps j+k2) (by omega) (by omega);have e2:ps.toList[SetTable.below ps j+k2]'(by rw[Array.length_toList];omega)=ps[SetTable.below ps j+k2]'(by omega):=by simp
   rw[e2];omega
theorem lN(n:Nat):Ris (Array.range n):=by
 show(Array.range n).toList.Pairwise (·<·);rw[Array.toList_range];exact List.pairwise_lt_range
theorem T3{f:Nat→Option (Nat×Nat)}(hf:∀j x,f j=some x→x.1=j):∀(l:List Nat),l.Pairwise (·<·)→((l.filterMap f).map (·.1)).Pairwise (·<·)
 | [],_=>List.Pairwise.nil
 |a::l,h=>by
  obtain⟨h1,h2⟩:=xc.mp h;have ih:=T3 hf l h2;rw[zi];cases q:f a with
  |none=>exact ih
  |some x=>
   show(x.1::(l.filterMap f).map (·.1)).Pairwise (·<·);refine xc.mpr ⟨fun y hy=>?_,ih⟩;obtain⟨z,hz,rfl⟩:=wW.mp hy;obtain⟨k,hk,e⟩:=yw.mp hz;rw[hf a x q,hf k z e];exact h1 k hk
structure Gd(t:SetTable)(b:Bool):Prop where
 ris:Ris t.place
 dum:t.dummies=#[]
 led:t.led=b
theorem V3{t:SetTable}{b:Bool}(h:Gd t b)(n:Nat):Gd (t.standIn n) b:=⟨lN n,rfl,h.led⟩
theorem rW{mask finger moves:Nat}{led plain:Bool}{hashes:Array Int}{t:SetTable}{o:Array Nat}(e:SetTable.laid mask finger moves led plain hashes=some (t,o)):Gd t led:=by
 unfold SetTable.laid at e;obtain⟨owner,_,e⟩:=Option.bind_eq_some_iff.mp e;cases e;refine⟨?_,rfl,rfl⟩;refine T3 (f:=fun j=>Option.map (fun x=>(j,x)) (owner.getD j none)) (fun j x h=>?_) (List.range (mask+1)) List.pairwise_lt_range;obtain⟨y,_,rfl⟩:=xm.mp h;rfl
theorem lK{t:SetTable}{b:Bool}{es:Array (Int×Value)}{h:Int}{x:Value}(g:Gd t b):Gd (layNew t es h x).2.1 b∧(layNew t es h x).2.1.fits (layNew t es h x).1.size=true:=by
 unfold layNew;generalize q:t.freeSlot h=r
 match r with
 |none=>
  refine⟨V3 g _,?_⟩;show(t.standIn (es.size+1)).fits (es.push (h,x)).size=true;rw[yF];exact SetTable.standIn_fits _ _
 |some (slot,d)=>
  obtain⟨_,hn⟩:=kP g.ris g.dum q;refine⟨?_,SetTable.orStandIn_fits _ _⟩;show Gd ((t.put slot).1.orStandIn _) b;unfold SetTable.orStandIn;have gp:Gd (t.put slot).1 b:=by
   refine⟨iK g.ris hn,?_,g.led⟩;show(if SetTable.has t.dummies slot=true then _ else t.dummies)=#[];have:SetTable.has t.dummies slot=false:=by
    rw[g.dum];rfl
   rw[this];exact g.dum
  split
  ·exact gp
  ·exact V3 gp _
theorem gy{t:SetTable}{b:Bool}{es:Array (Int×Value)}{n:Nat}(g:Gd t b):Gd (relayAll t es n).2.1 b∧(relayAll t es n).2.1.fits (relayAll t es n).1.size=true:=by
 unfold relayAll;generalize q:t.relaid (Array.map (fun x=>x.fst) es) n=r
 match r with
 |none=>exact⟨V3 g _,SetTable.standIn_fits _ _⟩
 |some (t',o)=>
  have gl:=rW q;rw[g.led]at gl;have key:∀r:Array (Int×Value)×SetTable×Bool,r=(if (coversAll o es.size && t'.fits (Array.filterMap (fun x=>es[x]?) o).size)=true then(Array.filterMap (fun x=>es[x]?) o,t',false) else(es,t.standIn es.size,true))→Gd r.2.1 b∧r.2.1.fits r.1.size=true:=by
   rintro r rfl;by_cases c:(coversAll o es.size && t'.fits (Array.filterMap (fun x=>es[x]?) o).size)=true
   ·rw[wM c];rw[xJ]at c;exact⟨gl,c.2⟩
   ·rw[wK c];exact⟨V3 g _,SetTable.standIn_fits _ _⟩
  exact key _ rfl
theorem o9{t:SetTable}{b p:Bool}(g:Gd t b):Gd {t with plain:=p} b:=⟨g.ris,g.dum,g.led⟩
instance decMemKey (k:Key) (ks:List Key):Decidable (k∈ks):=@List.instDecidableMemOfLawfulBEq Key instBEqOfDecidableEq inferInstance k ks
def hO(P:Program)(w:World)(e:Int×Value)(k:Key):Prop:=(ad P w).is k e.2=true∧e.1=(ad P w).hash k∧e.2.scannable=true
def cO(P:Program)(w:World)(h:Heap)(a:Addr)(ks:List Key):Prop:=
 ∃o es ep t,h.get? a=some o∧o.ExactSet∧o.data=.set es ep t∧(∃fs,es.toList.Perm fs∧Paired (hO P w) fs ks)∧t.fits es.size=true∧Gd t (!w.params.followText "set-order")∧ks.Nodup
theorem Paired.mem1{α β:Type}{F:α→β→Prop}:∀{xs:List α}{ys:List β},Paired F xs ys→∀x∈xs,∃y∈ys,F x y
 |_,_,.nil,_,h=>nomatch h
 |_,_,.cons f r,x,h=>by
  rcases wX.mp h with rfl | h
  ·exact⟨_,.head _,f⟩
  ·obtain⟨y,hy,q⟩:=Paired.mem1 r x h;exact⟨y,.tail _ hy,q⟩
theorem Paired.mem2{α β:Type}{F:α→β→Prop}:∀{xs:List α}{ys:List β},Paired F xs ys→∀y∈ys,∃x∈xs,F x y
 |_,_,.nil,_,h=>nomatch h
 |_,_,.cons f r,y,h=>by
  rcases wX.mp h with rfl | h
  ·exact⟨_,.head _,f⟩
  ·obtain⟨x,hx,q⟩:=Paired.mem2 r y h;exact⟨x,.tail _ hx,q⟩
theorem Paired.snoc{α β:Type}{F:α→β→Prop}{x:α}{y:β}(f:F x y):∀{xs:List α}{ys:List β},Paired F xs ys→Paired F (xs++[x]) (ys++[y])
 |_,_,.nil=>.cons f .nil
 |_,_,.cons g r=>.cons g (Paired.snoc f r)
section
variable{prog:Program}{w:World}{A:Around}{E:Value→Shared→Prop}{s:Shared}{a:Addr}{ks:List Key}
theorem pc{es:List (Int×Value)}(h:∃fs,es.Perm fs∧Paired (hO prog w) fs ks):ElemsOf (ad prog w) es:=fun e he=>by
 obtain⟨fs,p,m⟩:=h;obtain⟨k,_,h1,h2,h3⟩:=Paired.mem1 m e (p.mem_iff.mp he);exact⟨⟨k,h1,h2⟩,h3⟩
theorem S2{es:List (Int×Value)}(h:∃fs,es.Perm fs∧Paired (hO prog w) fs ks):es.length=ks.length:=by
 obtain⟨fs,p,m⟩:=h;rw[p.length_eq];exact zB m
theorem qt{es:List (Int×Value)}{k:Key}(h:∃fs,es.Perm fs∧Paired (hO prog w) fs ks)(hk:k∈ks):∃j,es.findIdx? (fun e=>(ad prog w).is k e.2)=some j:=by
 obtain⟨fs,p,m⟩:=h;obtain⟨e,he,q,_⟩:=Paired.mem2 m k hk;have:(es.findIdx? (fun e=>(ad prog w).is k e.2)).isSome=true:=by
  rw[List.findIdx?_isSome];exact List.any_eq_true.mpr ⟨e,p.mem_iff.mpr he,q⟩
 exact Option.isSome_iff_exists.mp this
theorem mJ{es:List (Int×Value)}{k:Key}(h:∃fs,es.Perm fs∧Paired (hO prog w) fs ks)(hk:k∉ks):es.findIdx? (fun e=>(ad prog w).is k e.2)=none:=by
 obtain⟨fs,p,m⟩:=h;rw[List.findIdx?_eq_none_iff];intro e he;obtain⟨k',hk',q,_⟩:=Paired.mem1 m e (p.mem_iff.mp he);refine xO.mpr fun z=>hk ?_;rw[(ad prog w).inj _ _ _ z q];exact hk'
theorem og{x:Value}{Q:Bool→Shared→Prop}(hs:x.scannable=true)(q:∀b,Q b s):wpAny (model prog w) A (hashByValue 8 x) Q E s:=by
 cases x with
 |none=>exact(io (q true):wpAny _ _ (pure true) _ _ _)
 |bool b=>exact(io (q true):wpAny _ _ (pure true) _ _ _)
 |int i t=>exact(io (q true):wpAny _ _ (pure true) _ _ _)
 |str z t=>exact(io (q false):wpAny _ _ (pure false) _ _ _)
 |bytes z t=>exact(io (q false):wpAny _ _ (pure false) _ _ _)
 |_=>cases hs
theorem jo{o:Obj}{es:Array (Int×Value)}{ep:Nat}{t:SetTable}{es':Array (Int×Value)}{t':SetTable}{h:Heap}(ho:h.get? a=some o)(hx:o.ExactSet)(hd:o.data=.set es ep t):
  ∃o',(h.update a (Obj.putSet es' t')).get? a=some o'∧o'.ExactSet∧o'.data=.set es' (ep+1) t':=by
 obtain⟨c,d,dt,sl⟩:=o;simp only at hd;subst hd;exact⟨_,Heap.get?_update_self _ ho rfl,hx,rfl⟩
theorem iN{t:SetTable}{n:Nat}{p:Bool}(h:t.fits n=true):SetTable.fits {t with plain:=p} n=true:=h
theorem qm{k:Key}{x:Value}{Q:Bool→Shared→Prop}(hk:(ad prog w).is k x=true)(hs:x.scannable=true)(G:cO prog w s.heap a ks)(hb:ks.length+1<scanBound)(fin:∀b h',Heap.SameBut a s.heap h'→cO prog w h' a (if k∈ks then ks else ks++[k])→Q b {s with heap:=h'}):wpAny (model prog w) A (setAddHashed a x ((ad prog w).hash k)) Q E s:=by
 obtain⟨o,es,ep,t,ho,hex,hd,hf,fit,gd,nd⟩:=G;have els:=pc hf;have len:=S2 hf;rw[wG]at len;unfold setAddHashed;refine xQ ?_;rw[show(100000:Nat)=99999+1 from rfl,setAddHashedIn.eq_def];refine ae (y9 ho hd fit ?_);dsimp only;rw[byScan_of hs (by omega) els,wM rfl];refine ae ?_;unfold setAddByScan;refine ae (yQ ?_);refine ae (wpAny_setScan_of hk ho hd fit els ?_);by_cases hin:k∈ks
 ·obtain⟨j,ej⟩:=qt hf hin;rw[ej];refine io (io (fin false s.heap ⟨rfl,fun _ _=>rfl⟩ ?_));rw[wM hin];exact⟨o,es,ep,t,ho,hex,hd,hf,fit,gd,nd⟩
 ·rw[mJ hf hin];rw[wK hin]at fin;have lp:=layNew_perm t es ((ad prog w).hash k) x;obtain⟨gl,fl⟩:=lK (es:=es) (h:=(ad prog w).hash k) (x:=x) gd;dsimp only;generalize layNew t es ((ad prog w).hash k) x=L at lp gl fl⊢;obtain⟨es1,t1,wd,gv⟩:=L;dsimp only at lp gl fl⊢;have nd2:(ks++[k]).Nodup:=by
   rw[y8];exact⟨nd,xG.mpr ⟨fun h=>(nomatch h),xY⟩,fun y hy z hz e=>hin (by rw[←wR.mp hz,←e];exact hy)⟩
  have hf1:∃fs,es1.toList.Perm fs∧Paired (hO prog w) fs (ks++[k]):=by
   obtain⟨fs,p,m⟩:=hf;refine⟨fs++[((ad prog w).hash k,x)],lp.trans ?_,Paired.snoc ⟨hk,rfl,hs⟩ m⟩;rw[yO];exact p.append_right _
  have sz1:es1.size≤sizeLine:=by
   have:=S2 hf1;rw[wG,wH,yd]at this;exact Zf (by unfold scanBound at hb;omega)
  have main:∀t2:SetTable,Gd t2 (!w.params.followText "set-order")→t2.fits es1.size=true→wpAny (model prog w) A (do
    storeSet a es1 t2
    if (!wd && t2.tooFull)=true then
     match relayAll t2 es1 (SetTable.grown es1.size) with
     | (es,t,gave)=>do
      (match gave with | true=>rule "set.scan.the-table-gave-way" | false=>pure ())
      storeSet a es t
      pure (some true)
    else pure (some true)) (fun r s'=>wpAny (model prog w) A (match r with | some added=>pure added | none=>setAddHashedIn a x ((ad prog w).hash k) 99999) Q E s') E s:=by
   intro t2 g2 f2;refine ae (wpAny_storeSet_of ho hd ?_ sz1);obtain⟨o1,ho1,hx1,hd1⟩:=jo (es':=es1) (t':=t2) ho hex hd;by_cases c:(!wd && t2.tooFull)=true
   ·rw[wM c];have rp:=relayAll_perm t2 es1 (SetTable.grown es1.size);obtain⟨gr,fr⟩:=gy (es:=es1) (n:=SetTable.grown es1.size) g2;generalize relayAll t2 es1 (SetTable.grown es1.size)=R at rp gr fr⊢;obtain⟨es2,t3,gv2⟩:=R;dsimp only at rp gr fr⊢;have sz2:es2.size≤sizeLine:=by
     have:=rp.length_eq;rw[wG,wG]at this;omega
    have store:wpAny (model prog w) A (do
      storeSet a es2 t3
      pure (some true)) (fun r s'=>wpAny (model prog w) A (match r with | some added=>pure added | none=>setAddHashedIn a x ((ad prog w).hash k) 99999) Q E s') E {s with heap:=s.heap.update a (Obj.putSet es1 t2)}:=by
     refine ae (wpAny_storeSet_of ho1 hd1 (io (io (fin true _ ((Heap.SameBut.update _ _ _).trans (Heap.SameBut.update _ _ _)) ?_))) sz2);obtain⟨o2,ho2,hx2,hd2⟩:=jo (es':=es2) (t':=t3) ho1 hx1 hd1;obtain⟨fs,p,m⟩:=hf1;exact⟨o2,es2,_,t3,ho2,hx2,hd2,⟨fs,rp.trans p,m⟩,fr,gr,nd2⟩
    cases gv2 with
    |true=>exact ae (yQ store)
    |false=>exact ae (io store)
   ·rw[wK c];refine io (io (fin true _ (Heap.SameBut.update _ _ _) ?_));exact⟨o1,es1,_,t2,ho1,hx1,hd1,hf1,f2,g2,nd2⟩
  have both:∀b:Bool,wpAny (model prog w) A (do
    storeSet a es1 (if b=true then t1 else{t1 with plain:=false})
    if (!wd && (if b=true then t1 else{t1 with plain:=false}).tooFull)=true then
     match relayAll (if b=true then t1 else{t1 with plain:=false}) es1 (SetTable.grown es1.size) with
     | (es,t,gave)=>do
      (match gave with | true=>rule "set.scan.the-table-gave-way" | false=>pure ())
      storeSet a es t
      pure (some true)
    else pure (some true)) (fun r s'=>wpAny (model prog w) A (match r with | some added=>pure added | none=>setAddHashedIn a x ((ad prog w).hash k) 99999) Q E s') E s:=fun b=>by
   cases b with
   |true=>exact main t1 gl fl
   |false=>exact main {t1 with plain:=false} (o9 gl) (iN fl)
  have tail:wpAny (model prog w) A (if t1.plain=true then hashByValue 8 x >>= fun b=>(do
    storeSet a es1 (if b=true then t1 else{t1 with plain:=false})
    if (!wd && (if b=true then t1 else{t1 with plain:=false}).tooFull)=true then
     match relayAll (if b=true then t1 else{t1 with plain:=false}) es1 (SetTable.grown es1.size) with
     | (es,t,gave)=>do
      (match gave with | true=>rule "set.scan.the-table-gave-way" | false=>pure ())
      storeSet a es t
      pure (some true)
    else pure (some true))else pure true >>= fun b=>(do
    storeSet a es1 (if b=true then t1 else{t1 with plain:=false})
    if (!wd && (if b=true then t1 else{t1 with plain:=false}).tooFull)=true then
     match relayAll (if b=true then t1 else{t1 with plain:=false}) es1 (SetTable.grown es1.size) with
     | (es,t,gave)=>do
      (match gave with | true=>rule "set.scan.the-table-gave-way" | false=>pure ())
      storeSet a es t
      pure (some true)
    else pure (some true))) (fun r s'=>wpAny (model prog w) A (match r with | some added=>pure added | none=>setAddHashedIn a x ((ad prog w).hash k) 99999) Q E s') E s:=by
   by_cases c:t1.plain=true
   ·rw[wM c];exact ae (og hs both)
   ·rw[wK c];exact ae (io (both true))
  cases gv with
  |true=>exact ae (yQ tail)
  |false=>exact ae (io tail)
end
theorem rc(a:Value):checkBuiltinCall "set.__new__" ⟨[.type "set",a],[]⟩=pure ():=by kernel_rfl
theorem rZ(a:Value):Builtin.Frozenset.newClass "set" ⟨[.type "set",a],[]⟩=pure (.type "set",[a]):=by kernel_rfl
def ddK:List Key→List Key→List Key
 |Ai,[]=>Ai
 |Ai,k::r=>ddK (if k∈Ai then Ai else Ai++[k]) r
theorem gn(k:Key):∀(l Ai:List Key),ddK Ai (l++[k])=if k∈ddK Ai l then ddK Ai l else ddK Ai l++[k]
 | [],Ai=>rfl
 |x::l,Ai=>gn k l _
theorem Oy:∀(l Ai:List Key),(ddK Ai l).length≤Ai.length+l.length
 | [],Ai=>pi _
 |x::l,Ai=>by
  have:=Oy l (if x∈Ai then Ai else Ai++[x]);show(ddK (if x∈Ai then Ai else Ai++[x]) l).length≤_;rw[xq];by_cases h:x∈Ai
  ·rw[wM h]at this⊢;omega
  ·rw[wK h]at this⊢;rw[wH,yd]at this;omega
theorem Ox:∀(l Ai:List Key)(k:Key),k∈ddK Ai l↔k∈Ai∨k∈l
 | [],Ai,k=>⟨.inl,fun h=>h.elim id (fun h=>nomatch h)⟩
 |x::l,Ai,k=>by
  show k∈ddK (if x∈Ai then Ai else Ai++[x]) l↔_;rw[Ox l _ k];by_cases h:x∈Ai
  ·rw[wM h,wX];constructor
   ·rintro(q | q)
    ·exact .inl q
    ·exact .inr (.inr q)
   ·rintro(q | rfl | q)
    ·exact .inl q
    ·exact .inl h
    ·exact .inr q
  ·rw[wK h,wX,wY,wR];constructor
   ·rintro((q | q) | q)
    ·exact .inl q
    ·exact .inr (.inl q)
    ·exact .inr (.inr q)
   ·rintro(q | q | q)
    ·exact .inl (.inl q)
    ·exact .inl (.inr q)
    ·exact .inr q
theorem oR:∀(l Ai:List Key),Ai.Nodup→(ddK Ai l).Nodup
 | [],Ai,h=>h
 |x::l,Ai,h=>by
  refine oR l _ ?_;by_cases c:x∈Ai
  ·rw[wM c];exact h
  ·rw[wK c,y8];exact⟨h,xG.mpr ⟨fun h=>(nomatch h),xY⟩,fun y hy z hz e=>c (by rw[←wR.mp hz,←e];exact hy)⟩
variable{prog:Program}{w:World}{A:Around}{E:Value→Shared→Prop}{s:Shared}
abbrev aC(w:World):Obj:={cls:=.type "set",dict:=none,data:=.set #[] 0 (.fresh 0 0 (!w.params.followText "set-order"))}
theorem Qu(a:Value){Q₁:Value→Shared→Prop}(h:Q₁ (.ref s.heap.objs.size) {s with heap:=s.heap.push (aC w)}):
  codeAny (model prog w) A (.call (.builtin "set.__new__") ⟨[.type "set",a],[]⟩) (wants Q₁ E) s:=by
 refine codeAny_call_builtin PySem.F.plain_set_new PySem.F.entry_set_new ?_;rw[rc];refine io ?_;unfold Builtin.«set.__new__»;rw[rZ];refine ae (io (ae ?_));unfold newSet setsByText;refine ae (ae (wpAny_askSetting (io ?_)));exact yp (io h)
theorem Vp{h h':Heap}{a:Addr}{ks:List Key}(q:cO prog w h a ks)(k:∀o,h.get? a=some o→h'.get? a=some o):cO prog w h' a ks:=by
 obtain⟨o,es,ep,t,ho,r⟩:=q;exact⟨o,es,ep,t,k o ho,r⟩
theorem lO{h:Heap}{a:Addr}(e:h.get? a=some (aC w)):cO prog w h a []:=
 ⟨_,#[],0,_,e,⟨rfl,rfl,rfl⟩,rfl,⟨[],zn _,.nil⟩,by rfl,⟨List.Pairwise.nil,rfl,rfl⟩,xY⟩
section
variable{prog:Program}{w:World}{A:Around}{R:Result→Shared→Prop}{I:Addr}{fp wr:List Addr}{n:Nat}{P:Nat→Value→Prop}{St:Nat→Heap→Prop}
theorem ld(W:Walks prog w A.in1 I fp wr n P St)(S:Addr)(hS:S∉fp)(ks:List Key)(hzn:ks.length=n)(hv:∀(i:Nat) v,P i v→∃k,ks[i]?=some k∧(ad prog w).is k v=true∧v.scannable=true)(hb:n+1<scanBound):
  ∀(m i:Nat)(s:Shared),n-i=m→i≤n→St i s.heap→cO prog w s.heap S (ddK [] (ks.take i))→
   (∀h' tk,(∀b o,b∉S::wr→s.heap.get? b=some o→h'.get? b=some o)→cO prog w h' S (ddK [] ks)→R (.ok (.ret .none)) {s with heap:=h',toks:=tk})→
   codeAny (model prog w) A (.builtin "set.update.loop" ⟨[.ref S,.ref I],[]⟩) R s:=by
 have hSw:S∉wr:=fun q=>hS (W.sub _ q);intro m
 induction m with
 |zero=>
  intro i s hk hi st so fin;obtain rfl:i=n:=by omega
  refine ym PyProof.Rows.F.entry_set_update_loop ?_;rw[yi PyProof.Rows.F.plain_set_update_loop _];refine ae (m:=pyNext (.ref I)) (W.done s _ _ st fun h' tk kp=>io (fin h' tk (fun b o nb e=>kp b o (fun q=>nb (xr _ q)) e) ?_));rw[←hzn,xp]at so;exact Vp so fun o e=>kp S o hSw e
 |succ m ih=>
  intro i s hk hi st so fin;have Ac:i<n:=by omega
  refine ym PyProof.Rows.F.entry_set_update_loop ?_;rw[yi PyProof.Rows.F.plain_set_update_loop _];refine ae (m:=pyNext (.ref I)) (W.item i s _ _ Ac st fun v h1 tk1 pv st1 kp1=>?_);obtain⟨k,hkk,hk1,hk2⟩:=hv i v pv;have so1:=Vp so fun o e=>kp1 S o hSw e;refine ae (m:=holding [v] (setAdd S v)) (xQ ?_);unfold setAdd;refine xQ (ae ((ad prog w).pyHash hk1 ?_));have room:=Oy (ks.take i) [];rw[wT,yZ]at room;refine qm hk1 hk2 (s:={s with heap:=h1,toks:=tk1+1}) so1 (by omega) fun b h2 sb so2=>?_;have et:ks.take (i+1)=ks.take i++[k]:=by rw[zI,hkk];rfl
  rw[←gn,←et]at so2;refine io ⟨zV PyProof.Rows.F.plain_set_update_loop _,ih (i+1) _ (by omega) Ac (W.frame _ _ _ st1 fun b hb o e=>(sb.2 b fun q=>hS (by rw[←q];exact hb)).trans e) so2 fun h' tk kp so'=>fin h' tk (fun b o nb e=>kp b o nb ?_) so'⟩;have nS:b≠S:=fun q=>nb (by rw[q];exact xf);exact(sb.2 b nS).trans (kp1 b o (fun q=>nb (xr _ q)) e)
end
theorem tj{k:Key}{u:Value}(r:RelV (kV k) u):(ad prog w).is k u=true∧u.scannable=true:=by
 cases k with
 |inl i=>obtain⟨t,rfl⟩:=r;exact⟨Sa prog w i t,rfl⟩
 |inr x=>obtain⟨t,rfl⟩:=r;exact⟨Vh prog w x t,rfl⟩
theorem lg{l:Addr}{its:List Value}{ks:List Key}{R:Value→Shared→Prop}(hh:A.handled=none)(hl:s.heap.IsList l its.toArray)(hv:Vals (ks.map kV) its)(hb:its.length+1<scanBound)(h:∀(h':Heap) (tk:Nat),cO prog w h' s.heap.objs.size (ddK [] ks)→(∀b o,b<s.heap.objs.size→s.heap.get? b=some o→h'.get? b=some o)→R .none {s with heap:=h',toks:=tk}):
  codeAny (model prog w) A (.call (.builtin "set.__init__") ⟨[.ref s.heap.objs.size,.ref l],[]⟩) (wants R E) {s with heap:=s.heap.push (aC w)}:=by
 have own:(s.heap.push (aC w)).get? s.heap.objs.size=some (aC w):=wD _ rfl;have ty:Shared.TypeIs {s with heap:=s.heap.push (aC w)} (.ref s.heap.objs.size) "set":=⟨_,own,rfl⟩;refine codeAny_call_builtin PySem.F.called_set.init.plain PySem.F.entry_set_init (check_set_init_1 ty ?_);obtain⟨⟨c0,d0,dt0,sl0⟩,ho,hc,nl,hd⟩:=hl;simp only at hc hd;subst hc hd;have ho1:(s.heap.push (aC w)).get? l=some {cls:=.type "list",dict:=d0,data:=.seq its.toArray nl,slots:=sl0}:=az _ ho;have hl1:(s.heap.push (aC w)).IsList l its.toArray:=⟨_,ho1,rfl,nl,rfl⟩;have f1:=PySem.F.sub_list_set;have f2:=PySem.F.sub_list_frozenset;have f3:(Value.type "list" == Value.type "dict")=false:=by decide
 unfold Builtin.«set.__init__» noKeywords Builtin.Frozenset.updateFrom;generalize hP:pyIter=PI
 wp_walk
 subst hP;refine wpAny_pyIter_list hl1 (ae (wpAny_runValue ?_));have lt0:l<s.heap.objs.size:=wE ho;have hz:ks.length=its.length:=by
  have:=hv.length;rw[aq]at this;exact this
 have ne0:l≠(s.heap.push (aC w)).objs.size:=by rw[yA];exact wS (yq lt0)
 have nin:s.heap.objs.size∉[(s.heap.push (aC w)).objs.size,l]:=by
  rw[yA];simp only[List.mem_cons,List.not_mem_nil,or_false,not_or];exact⟨wS (zS _),x4 lt0⟩
 have hh3:A.in1.in1.handled=none:=by simp[hh]
 refine ld (Walks.list hh3 _ l ne0 its.toArray) s.heap.objs.size nin ks (by rw[xh];exact hz) (fun i v e=>?_) (by rw[xh];exact hb) (its.toArray.size-0) 0 _ (by omega) (yc _) ?st ?_ ?_
 case st=>exact⟨⟨_,wD _ rfl,rfl,rfl⟩,hl1.push _⟩
 ·have e':its[i]?=some v:=by simpa using e
  have hi:i<ks.length:=by
   rw[hz];exact(wL.mp e').1
  obtain⟨u,hu,ru⟩:=hv.get (i:=i) (x:=kV ks[i]) (by rw[xi,xj hi];rfl);rw[e']at hu;cases hu;exact⟨ks[i],xj hi,tj ru⟩
 ·have g2:((s.heap.push (aC w)).push {cls:=.type "list_iterator",data:=.fields #[.ref l,.int 0 0]}).get? s.heap.objs.size=some (aC w):=az _ own;exact lO g2
 ·intro h' tk kp so;refine io (io (h h' tk so fun b o hb2 e=>kp b o ?_ (az _ (az _ e))));simp only[List.mem_cons,List.not_mem_nil,or_false,not_or];exact⟨wS hb2,by rw[yA];exact wS (yq hb2)⟩
theorem Qv{l:Addr}{its:List Value}{ks:List Key}{Q:Value→Shared→Prop}(hh:A.handled=none)(hl:s.heap.IsList l its.toArray)(hv:Vals (ks.map kV) its)(hb:its.length+1<scanBound)(h:∀(h':Heap) (tk:Nat),cO prog w h' s.heap.objs.size (ddK [] ks)→(∀b o,b<s.heap.objs.size→s.heap.get? b=some o→h'.get? b=some o)→Q (.ref s.heap.objs.size) {s with heap:=h',toks:=tk}):
  wpAny (model prog w) A (call (.type "set") [.ref l]) Q E s:=by
 obtain⟨c,tl,hmro⟩:=PySem.F.called_set.mro;have k1:=PySem.F.called_set.made;have k2:=PySem.F.called_set.sub;have k3:=PySem.F.called_set.notType;have k4:=PySem.F.called_set.canCreate;have k5:=PySem.F.typeCall_set_1 (.ref l);refine wpAny_call (codeAny_of_tree ?_);show wpAny _ _ (callAny (.type "set") _) _ _ _;refine io ⟨Code.quiet_builtin _ (by decide +kernel),ym PySem.F.entry_type_call ?_⟩;rw[Around.under_plain (weight_type_call_type "set" [.ref l] []) rfl]
 repeat (any_goals (first | assumption | wp_step))
 refine zo (Qu (.ref l) (E:=E) (Q₁:=fun obj s1=>obj=.ref s.heap.objs.size∧s1={s with heap:=s.heap.push (aC w)}) ⟨rfl,rfl⟩) fun r s1 hr=>?_;cases r with
 |error e=>exact hr
 |ok fl=>
  cases fl with
  |ret obj=>
   obtain⟨rfl,rfl⟩:=hr;have own:(s.heap.push (aC w)).get? s.heap.objs.size=some (aC w):=wD _ rfl;have ty:Shared.TypeIs {s with heap:=s.heap.push (aC w)} (.ref s.heap.objs.size) "set":=⟨_,own,rfl⟩;have k6:=PySem.F.called_set.init.lookup;have k7:=PySem.F.called_set.init.bind (.ref s.heap.objs.size)
   repeat (any_goals (first | assumption | wp_step))
   refine codeAny_mono (lg (R:=fun r s2=>r=.none∧∃h' tk,s2={s with heap:=h',toks:=tk}∧cO prog w h' s.heap.objs.size (ddK [] ks)∧(∀b o,b<s.heap.objs.size→s.heap.get? b=some o→h'.get? b=some o)) (E:=E) (by simp[hh]) hl hv hb fun h' tk so kp=>⟨rfl,h',tk,rfl,so,kp⟩) fun r2 s2 hr2=>?_;cases r2 with
   |error e=>exact hr2
   |ok fl2=>
    cases fl2 with
    |ret r=>
     obtain⟨rfl,h',tk,rfl,so,kp⟩:=hr2
     repeat (any_goals (first | assumption | wp_step))
     exact h _ _ so kp
    |_=>exact hr2.elim
  |_=>exact hr.elim
def eR(prog:Program)(w:World)(a:Addr)(ks:List Key):HO:=.ext fun h=>cO prog w h a ks
section
variable{X:Cx}
theorem lP(hc:X.calm=true):aV X (.type "set") (fun xs H Q=>∃(p:Addr)(ks:List Key),xs=[.ref p]∧SqL X.K H p (ks.map kV)∧ks.length<4000∧∀a,H a=none→Q (.ref a) (upd H a (eR X.prog X.w a (ddK [] ks)))):=by
 intro or s σ H xs us Q I r h;obtain⟨p,ks,rfl,hq,hz,q⟩:=h;obtain⟨u,rfl,ru⟩:=Xx r;cases ru;obtain⟨its,rv,pl,_⟩:=I.list hq;have hl:=rv.length;rw[aq]at hl;refine Qv (I.ok.hd hc) pl.isList rv (by unfold scanBound;omega) fun h' tk so kp=>?_;refine⟨.ref s.heap.objs.size,_,I.laid (t':=tk) (fun b o e=>kp b o (wE e) e) (pi _) (show ObjOk X.prog X.w _ h' _ (eR X.prog X.w s.heap.objs.size (ddK [] ks))from ?_),rfl,q _ (I.hok.fresh (pi _))⟩;refine⟨so,?_,fun h1 h2 a k=>?_⟩
 ·obtain⟨o,_,_,_,ho,_⟩:=so;exact⟨o,ho⟩
 ·exact Vp a k
end
theorem Xd:Slot "set_iterator" (Str.ofString "__next__") "set_iterator.__next__":=Slot.of (owner:="set_iterator") (n:="__next__") (by kernel_rfl) (by kernel_rfl) (by kernel_rfl) (by kernel_rfl) (.inl (by kernel_rfl)) (by kernel_rfl) (by kernel_rfl)
theorem U7:Slot "set_iterator" (Str.ofString "__iter__") "set_iterator.__iter__":=Slot.of (owner:="set_iterator") (n:="__iter__") (by kernel_rfl) (by kernel_rfl) (by kernel_rfl) (by kernel_rfl) (.inl (by kernel_rfl)) (by kernel_rfl) (by kernel_rfl)
theorem Qx(a:Value):argsOk "set_iterator.__next__" {pos:=[a]}:=by kernel_rfl
theorem Qy(a:Value):argsOk "set_iterator.__iter__" {pos:=[a]}:=by kernel_rfl
theorem Q2:entryFor PySem.table "set_iterator.__next__"=some PySem.Builtin.«set_iterator.__next__»:=by kernel_rfl
theorem Q4:entryFor PySem.table "set.__iter__"=some PySem.Builtin.«frozenset.__iter__»:=by kernel_rfl
theorem je:firstArgMember (.type "StopIteration") []=pure .none:=by kernel_rfl
theorem pX:ownMembersOf (.type "StopIteration") []=#[]:=by kernel_rfl
section
theorem Ue{α:Type}{Q:α→Shared→Prop}(hh:A.handled=none)(k:∀h' e,(∀b o,s.heap.get? b=some o→h'.get? b=some o)→Shared.TypeIs {s with heap:=h'} (.ref e) "StopIteration"→E (.ref e) {s with heap:=h'}):
  wpAny (model prog w) A (do
   let x ←newExc (.type "StopIteration") []
   raiseNew x:Sem α) Q E s:=by
 refine ae ?_;unfold newExc;refine ae (wpAny_newTuple ?_ (yc _));rw[je,pX];refine ae (io (yp (wpAny_raiseNew_none hh (k _ _ (fun b o e=>az _ (az _ e)) ⟨_,wD _ rfl,rfl⟩))))
theorem Vx{it:Addr}{Q:Option Value→Shared→Prop}(ty:s.TypeIs (.ref it) "set_iterator")(h:wpAny (model prog w) A.in1 (Builtin.«set_iterator.__next__» ⟨[.ref it],[]⟩) (fun fin s'=>∃v,fin=.done (.ret v)∧Q (some v) s') (fun e s'=>s'.TypeIs e "StopIteration"∧Q none s') s):
  wpAny (model prog w) A (pyNext (.ref it)) Q E s:=by
 unfold pyNext;refine ae (wpAny_attempt ?_);refine wpAny_callSpecial?_slotG ty Xd.toG ?_;refine xX (x9 Xd ty Q2 (Q:=fun v s'=>Q (some v) s') h (Qx _)) (fun v s' q=>io q) (fun e s' q=>?_);exact ae (wpAny_isInstance q.1 isSubtype_stop (by rw[wM rfl];exact io q.2))
abbrev iW(first:Value)(i:Nat)(a:Addr)(n ep:Nat):Obj:={cls:=.type "set_iterator",data:=.fields #[first,.int i 0,.ref a,.int n 0,.int ep 0]}
theorem So{Q:Bool→Shared→Prop}(q:Q (w.params.followText "set-order") s):wpAny (model prog w) A setsByText Q E s:=by
 unfold setsByText;exact ae (wpAny_askSetting (io q))
variable{a:Addr}{o:Obj}{es:Array (Int×Value)}{ep:Nat}{t:SetTable}
theorem Pb{slot given:Nat}{Q:Option (Value×Nat)→Shared→Prop}(ht:w.params.followText "set-order"=true)(ho:s.heap.get? a=some o)(hd:o.data=.set es ep t)(fit:t.fits es.size=true)(q:Q ((pickOrder (w.params.setOrder a ep) es)[given]?.map fun e=>(e.2,slot)) s):wpAny (model prog w) A (setNext a slot given ep) Q E s:=by
 unfold setNext;refine ae (y9 ho hd fit ?_);refine ae (So ?_);rw[ht,if_pos rfl,if_neg (by simp)];refine ae ?_;unfold setWalk;refine ae (y9 ho hd fit ?_);refine ae (So ?_);rw[ht,wM rfl];exact ae (wpAny_askSetting (io (io q)))
theorem Rk{slot given:Nat}{Q:Option (Value×Nat)→Shared→Prop}(ht:w.params.followText "set-order"=false)(ho:s.heap.get? a=some o)(hd:o.data=.set es ep t)(fit:t.fits es.size=true)(g:Gd t true)(np:(!t.plain && decide (es.size > 1))=false)(q:Q (match es[SetTable.below t.place slot]?,t.place[SetTable.below t.place slot]? with
   |some e,some j=>some (e.2,j+1)
   |_,_=>none) s):wpAny (model prog w) A (setNext a slot given ep) Q E s:=by
 unfold setNext;refine ae (y9 ho hd fit ?_);refine ae (So ?_);rw[ht,wK (by decide)];show wpAny _ _ (if (!t.plain && decide (es.size > 1))=true then _ else _) _ _ _;rw[np,wK (by decide)];refine ae (show wpAny _ _ (if (!t.led && !es.isEmpty)=true then _ else pure ()) _ _ _ from ?_);rw[g.led,if_neg (by simp)];refine io (io ?_);cases h1:es[SetTable.below t.place slot]? with
 |none=>rw[h1]at q;exact q
 |some e=>
  rw[h1]at q;cases h2:t.place[SetTable.below t.place slot]? with
  |none=>rw[h2]at q;exact q
  |some j=>rw[h2]at q;exact q
theorem iH{place:Nat}{e:Int×Value}{Q:Value→Shared→Prop}(ho:s.heap.get? a=some o)(hd:o.data=.set es ep t)(fit:t.fits es.size=true)(he:es[place]?=some e)(q:Q e.2 s):wpAny (model prog w) A (setNextDrawn a place ep) Q E s:=by
 unfold setNextDrawn;refine ae (y9 ho hd fit ?_);dsimp only;rw[if_neg (by simp),he];exact io q
theorem Xw{it:Addr}{first:Value}{i:Nat}{Q:PySem.Fin→Shared→Prop}(hit:s.heap.get? it=some (iW first i a es.size ep))(ho:s.heap.get? a=some o)(hd:o.data=.set es ep t)(fit:t.fits es.size=true)(q:wpAny (model prog w) A (match first with
   |.int slot _=>do
    let r ←setNext a slot.toNat i ep
    match r with
     |some (x,next)=>do
      setField (.ref it) 0 (rawInt next)
      setField (.ref it) 1 (rawInt (i+1))
      ret x
     |none=>do
      setField (.ref it) 2 .none
      let x ←newExc (.type "StopIteration") []
      raiseNew x
   |x=>do
    let y ←seqItems? first
    match y with
     |some places=>
      match places[i]? with
      |some (.int place _)=>do
       let x ←setNextDrawn a place.toNat ep
       setField (.ref it) 1 (rawInt (i+1))
       ret x
      |some val=>unsupported "internal:set_iterator"
      |none=>do
       setField (.ref it) 0 (rawInt 0)
       setField (.ref it) 2 .none
       let x ←newExc (.type "StopIteration") []
       raiseNew x
     |x=>unsupported "internal:set_iterator") Q E s):wpAny (model prog w) A (Builtin.«set_iterator.__next__» ⟨[.ref it],[]⟩) Q E s:=by
 unfold Builtin.«set_iterator.__next__»;refine ae (show wpAny _ _ (pure (Value.ref it,[])) _ _ _ from io ?_);refine ae (wpAny_fieldsOf hit rfl ?_);refine ae (wpAny_setEntries_of ho hd fit ?_);rw[if_neg (by simp)];exact q
end
theorem Uf{α:Type}:∀(l:List α)(i:Nat)(x:α),l[i]?=some x→(x::l.eraseIdx i).Perm l
 | [],i,x,h=>by simp at h
 |a::l,0,x,h=>by
  have e:a=x:=by simpa using h
  subst e;exact zn _
 |a::l,i+1,x,h=>by
  have ih:=Uf l i x (by simpa using h);show(x::a::l.eraseIdx i).Perm (a::l);exact(List.Perm.swap a x _).trans (ih.cons a)
theorem jJ{α:Type}(next:Nat→Nat):∀(fuel k:Nat)(left:List α)(out:Array α),left.length≤fuel→(pickOrder.go next fuel k left out).toList.Perm (out.toList++left)
 | 0,k,left,out,h=>by
  have e:left=[]:=yL (by omega);subst e;rw[xF];exact zn _
 |fuel+1,k,left,out,h=>by
  show(match left[next k % left.length]? with
   |some x=>pickOrder.go next fuel (k+1) (left.eraseIdx (next k % left.length)) (out.push x)
   |none=>out).toList.Perm _
  cases e:left[next k % left.length]? with
  |none=>
   have l0:left=[]:=by
    cases left with
    |nil=>rfl
    |cons a l=>
     rw[List.getElem?_eq_none_iff]at e;have:=Nat.mod_lt (next k) (show 0<(a::l).length by simp);omega
   subst l0;rw[xF]
  |some x=>
   have lt:=(wL.mp e).1;have ih:=jJ next fuel (k+1) (left.eraseIdx (next k % left.length)) (out.push x) (by rw[List.length_eraseIdx_of_lt lt];omega)
   refine ih.trans ?_;rw[yO,xw];exact(Uf left _ x e).append_left _
theorem Vv{α:Type}(next:Nat→Nat)(xs:Array α):(pickOrder next xs).toList.Perm xs.toList:=by
 have:=jJ next xs.size 0 xs.toList #[] (by rw[wG];exact pi _)
 show(pickOrder.go next xs.size 0 xs.toList #[]).toList.Perm xs.toList;simpa using this
theorem Q7{α:Type}:∀(n:Nat)(l:List α)(s:Shared){Q:List α→Shared→Prop},l.length=n→(∀o d,o.Perm l→Q o {s with drawn:=d})→wpAny (model prog w) A (drawOrder n l) Q E s
 | 0,l,s,Q,h,q=>by
  have e:l=[]:=yL h;subst e;exact(io (q [] s.drawn (zn _)):wpAny _ _ (pure []) _ _ _)
 |n+1,[],s,Q,h,q=>by simp at h
 |n+1,a::l,s,Q,h,q=>by
  show wpAny _ _ (choose Source.order (a::l).length >>= fun i=>match (a::l)[i]? with
   |some x=>do
    let r ←drawOrder n ((a::l).eraseIdx i)
    pure (x::r)
   |none=>unsupported "internal:drawOrder") _ _ _
  refine ae ?_;intro Γ p hΓ;unfold choose;rw[Sem.wp_choose];refine⟨by simp,?_⟩;have lt:(model prog w).w.draws Source.order (s.drawn.get Source.order) % (a::l).length<(a::l).length:=Nat.mod_lt _ (by simp);generalize (model prog w).w.draws Source.order (s.drawn.get Source.order) % (a::l).length=i at lt⊢;obtain⟨x,hx⟩:∃x,(a::l)[i]?=some x:=⟨_,xj lt⟩;have main:wpAny (model prog w) A (match (a::l)[i]? with
   |some x=>do
    let r ←drawOrder n ((a::l).eraseIdx i)
    pure (x::r)
   |none=>unsupported "internal:drawOrder") Q E {s with drawn:=s.drawn.bump Source.order}:=by
   rw[hx];refine ae (Q7 n _ _ ?_ fun o d hp=>io (q _ _ ?_))
   ·rw[List.length_eraseIdx_of_lt lt];simpa using h
   ·exact(hp.cons x).trans (Uf _ _ _ hx)
  exact main
def bI(ps:Array Nat):Nat→Nat
 | 0=>0
 |i+1=>ps.getD i 0+1
theorem pB{ps:Array Nat}{j b c:Nat}(h1:Cut ps j b)(h2:Cut ps j c):b=c:=by
 have k1:=h1.le;have k2:=h2.le;by_cases e:b<c
 ·have x:=h2.lo b (by omega) e;have y:=h1.hi b (by omega) (pi _);omega
 ·by_cases e2:c<b
  ·have x:=h1.lo c (by omega) e2;have y:=h2.hi c (by omega) (pi _);omega
  ·omega
theorem Qg{ps:Array Nat}(h:Ris ps){i:Nat}(hi:i≤ps.size):SetTable.below ps (bI ps i)=i:=by
 refine pB (S4 h _) ⟨hi,fun k hk lt=>?_,fun k hk le=>?_⟩
 ·cases i with
  |zero=>omega
  |succ i=>
   have e:bI ps (i+1)=ps[i]'(by omega)+1:=by
    show ps.getD i 0+1=_;simp[Array.getD,show i<ps.size by omega]
   rw[e];by_cases c:k=i
   ·subst c;omega
   ·have:=Uz h (i:=k) (k:=i) (by omega) (by omega);omega
 ·cases i with
  |zero=>exact yc _
  |succ i=>
   have e:bI ps (i+1)=ps[i]'(by omega)+1:=by
    show ps.getD i 0+1=_;simp[Array.getD,show i<ps.size by omega]
   rw[e];have:=Uz h (i:=i) (k:=k) (by omega) hk;omega
theorem Q3:entryFor PySem.table "set_iterator.__iter__"=some PySem.Builtin.«dict_keyiterator.__iter__»:=by kernel_rfl
section
variable{prog:Program}{w:World}{A:Around}{a it:Addr}{o:Obj}{es:Array (Int×Value)}{ep:Nat}{t:SetTable}
theorem R1{first:Value}{i n:Nat}(s:Shared)(Q E:Value→Shared→Prop)(hit:s.heap.get? it=some (iW first i a n ep))(q:Q (.ref it) s):wpAny (model prog w) A (pyIter (.ref it)) Q E s:=by
 have ty:s.TypeIs (.ref it) "set_iterator":=⟨_,hit,rfl⟩;refine wpAny_pyIter_slot ty U7 (x9 U7 ty Q3 ?_ (Qy _));unfold Builtin.«dict_keyiterator.__iter__»;refine ae (show wpAny _ _ (pure (Value.ref it,[])) _ _ _ from io ?_);exact io ⟨_,rfl,"set_iterator",_,ty,Xd.lookup,q⟩
theorem hE(hh:A.handled=none)(hne:a≠it)(ht:w.params.followText "set-order"=false)(hd:o.data=.set es ep t)(fit:t.fits es.size=true)(g:Gd t true)(np:(!t.plain && decide (es.size > 1))=false):
  Walks prog w A it [it,a] [it] es.size (fun i v=>(es.toList.map (·.2))[i]?=some v) (fun i h=>i≤es.size∧h.get? it=some (iW (.int (bI t.place i:Nat) 0) i a es.size ep)∧h.get? a=some o) where
 sub:=fun b hb=>by rw[wR.mp hb];exact .head _
 frame:=fun i h h' st k=>⟨st.1,k it (.head _) _ st.2.1,k a (.tail _ (.head _)) _ st.2.2⟩
 item:=fun i s Q E hi st q=>by
  obtain⟨_,hit,ho⟩:=st;have sz:t.place.size=es.size:=by
   unfold SetTable.fits at fit;rw[xJ]at fit;simpa using fit.1
  refine Vx ⟨_,hit,rfl⟩ (Xw hit ho hd fit ?_);refine ae (Rk ht ho hd fit g np ?_);rw[show((bI t.place i:Nat):Int).toNat=bI t.place i from rfl,Qg g.ris (by omega),wC hi,wC (by omega)];refine wpAny_bind (wpAny_setField_rec hit (by simp) fun h1 e1 sb1=>?_);refine wpAny_bind (wpAny_setField_rec e1 (by simp) fun h2 e2 sb2=>?_);refine io ⟨_,rfl,q _ h2 s.toks ?_ ⟨by omega,?_,?_⟩ fun b o nb e=>?_⟩
  ·rw[xi,wI,wC hi];rfl
  ·rw[e2];have es1:bI t.place (i+1)=t.place[i]'(by omega)+1:=by
    show t.place.getD i 0+1=_;simp[Array.getD,show i<t.place.size by omega]
   rw[es1];rfl
  ·rw[sb2.2 a hne,sb1.2 a hne];exact ho
  ·have ne:b≠it:=fun z=>nb (by rw[z];exact .head _);rw[sb2.2 b ne,sb1.2 b ne];exact e
 done:=fun s Q E st q=>by
  obtain⟨_,hit,ho⟩:=st;have sz:t.place.size=es.size:=by
   unfold SetTable.fits at fit;rw[xJ]at fit;simpa using fit.1
  refine Vx ⟨_,hit,rfl⟩ (Xw hit ho hd fit ?_);refine ae (Rk ht ho hd fit g np ?_);rw[show((bI t.place es.size:Nat):Int).toNat=bI t.place es.size from rfl,Qg g.ris (by omega),zx (pi _)];refine wpAny_bind (wpAny_setField_rec hit (by simp) fun h1 e1 sb1=>?_);refine Ue (by simpa using hh) fun h' e k ty=>⟨ty,q h' s.toks fun b o nb eb=>k b o ?_⟩;have ne:b≠it:=fun z=>nb (by rw[z];exact .head _);show h1.get? b=some o;rw[sb1.2 b ne];exact eb
 self:=fun i s Q E st q=>R1 s Q E st.2.1 q
theorem my(hh:A.handled=none)(hne:a≠it)(ht:w.params.followText "set-order"=true)(hd:o.data=.set es ep t)(fit:t.fits es.size=true):
  Walks prog w A it [it,a] [it] es.size (fun i v=>((pickOrder (w.params.setOrder a ep) es).toList.map (·.2))[i]?=some v) (fun i h=>h.get? it=some (iW (.int 0 0) i a es.size ep)∧h.get? a=some o) where
 sub:=fun b hb=>by rw[wR.mp hb];exact .head _
 frame:=fun i h h' st k=>⟨k it (.head _) _ st.1,k a (.tail _ (.head _)) _ st.2⟩
 item:=fun i s Q E hi st q=>by
  obtain⟨hit,ho⟩:=st;have sz:(pickOrder (w.params.setOrder a ep) es).size=es.size:=by
   have:=(Vv (w.params.setOrder a ep) es).length_eq;simpa using this
  refine Vx ⟨_,hit,rfl⟩ (Xw hit ho hd fit ?_);refine ae (Pb ht ho hd fit ?_);rw[wC (by omega)];refine wpAny_bind (wpAny_setField_rec hit (by simp) fun h1 e1 sb1=>?_);refine wpAny_bind (wpAny_setField_rec e1 (by simp) fun h2 e2 sb2=>?_);refine io ⟨_,rfl,q _ h2 s.toks ?_ ⟨?_,?_⟩ fun b o nb e=>?_⟩
  ·rw[xi,wI,wC (by omega)];rfl
  ·rw[e2];rfl
  ·rw[sb2.2 a hne,sb1.2 a hne];exact ho
  ·have ne:b≠it:=fun z=>nb (by rw[z];exact .head _);rw[sb2.2 b ne,sb1.2 b ne];exact e
 done:=fun s Q E st q=>by
  obtain⟨hit,ho⟩:=st;have sz:(pickOrder (w.params.setOrder a ep) es).size=es.size:=by
   have:=(Vv (w.params.setOrder a ep) es).length_eq;simpa using this
  refine Vx ⟨_,hit,rfl⟩ (Xw hit ho hd fit ?_);refine ae (Pb ht ho hd fit ?_);rw[zx (by omega)];refine wpAny_bind (wpAny_setField_rec hit (by simp) fun h1 e1 sb1=>?_);refine Ue (by simpa using hh) fun h' e k ty=>⟨ty,q h' s.toks fun b o nb eb=>k b o ?_⟩;have ne:b≠it:=fun z=>nb (by rw[z];exact .head _);show h1.get? b=some o;rw[sb1.2 b ne];exact eb
 self:=fun i s Q E st q=>R1 s Q E st.1 q
abbrev plO(ord:List Nat):Obj:={cls:=.type "tuple",data:=.seq (ord.map fun i=>rawInt (i:Nat)).toArray}
theorem iG{T:Addr}{ord:List Nat}(hh:A.handled=none)(hne:a≠it)(hT:T≠it)(hp:ord.Perm (List.range es.size))(hd:o.data=.set es ep t)(fit:t.fits es.size=true):
  Walks prog w A it [it,a,T] [it] es.size (fun i v=>(ord.map fun j=>(es.getD j (0,.none)).2)[i]?=some v) (fun i h=>h.get? it=some (iW (.ref T) i a es.size ep)∧h.get? a=some o∧h.get? T=some (plO ord)) where
 sub:=fun b hb=>by rw[wR.mp hb];exact .head _
 frame:=fun i h h' st k=>⟨k it (.head _) _ st.1,k a (.tail _ (.head _)) _ st.2.1,k T (.tail _ (.tail _ (.head _))) _ st.2.2⟩
 item:=fun i s Q E hi st q=>by
  obtain⟨hit,ho,hpl⟩:=st;have ol:ord.length=es.size:=by rw[hp.length_eq,zc]
  have lt:ord[i]'(by omega)<es.size:=List.mem_range.mp (hp.mem_iff.mp (List.getElem_mem _));refine Vx ⟨_,hit,rfl⟩ (Xw hit ho hd fit ?_);refine ae (yC hpl rfl ?_);have eo:(ord.map fun i=>rawInt (i:Nat)).toArray[i]?=some (.int (ord[i]'(by omega):Nat) 0):=by
   rw[List.getElem?_toArray,xi,xj (by omega)];rfl
  dsimp only;rw[eo];refine ae (iH ho hd fit (place:=(((ord[i]'(by omega):Nat):Int)).toNat) (e:=es[ord[i]'(by omega)]) (by rw[show(((ord[i]'(by omega):Nat):Int)).toNat=ord[i]'(by omega)from rfl,wC lt]) ?_);refine wpAny_bind (wpAny_setField_rec hit (by simp) fun h1 e1 sb1=>?_);refine io ⟨_,rfl,q _ h1 s.toks ?_ ⟨?_,?_,?_⟩ fun b o nb e=>?_⟩
  ·rw[xi,xj (by omega)];simp[Array.getD,lt]
  ·rw[e1];rfl
  ·rw[sb1.2 a hne];exact ho
  ·rw[sb1.2 T hT];exact hpl
  ·have ne:b≠it:=fun z=>nb (by rw[z];exact .head _);rw[sb1.2 b ne];exact e
 done:=fun s Q E st q=>by
  obtain⟨hit,ho,hpl⟩:=st;have ol:ord.length=es.size:=by rw[hp.length_eq,zc]
  refine Vx ⟨_,hit,rfl⟩ (Xw hit ho hd fit ?_);refine ae (yC hpl rfl ?_);have eo:(ord.map fun i=>rawInt (i:Nat)).toArray[es.size]?=none:=by
   rw[List.getElem?_toArray,xi,List.getElem?_eq_none (by omega)];rfl
  dsimp only;rw[eo];refine wpAny_bind (wpAny_setField_rec hit (by simp) fun h1 e1 sb1=>?_);refine wpAny_bind (wpAny_setField_rec e1 (by simp) fun h2 e2 sb2=>?_);refine Ue (by simpa using hh) fun h' e k ty=>⟨ty,q h' s.toks fun b o nb eb=>k b o ?_⟩;have ne:b≠it:=fun z=>nb (by rw[z];exact .head _);show h2.get? b=some o;rw[sb2.2 b ne,sb1.2 b ne];exact eb
 self:=fun i s Q E st q=>R1 s Q E st.1 q
end
theorem fK{α β:Type}{F:α→β→Prop}{xs ys:List α}(p:xs.Perm ys):∀{zs:List β},Paired F ys zs→∃zs',zs'.Perm zs∧Paired F xs zs':=by
 induction p with
 |nil=>intro zs h;exact⟨zs,zn _,h⟩
 |cons x _ ih=>
  intro zs h;cases h with
  |cons f r=>
   obtain⟨zs',p,q⟩:=ih r;exact⟨_::zs',p.cons _,.cons f q⟩
 |swap x y l=>
  intro zs h;cases h with
  |cons f r=>
   cases r with
   |cons g r=>
    exact⟨_,List.Perm.swap _ _ _,.cons g (.cons f r)⟩
 |trans _ _ ih1 ih2=>
  intro zs h;obtain⟨z1,p1,q1⟩:=ih2 h;obtain⟨z2,p2,q2⟩:=ih1 q1;exact⟨z2,p2.trans p1,q2⟩
theorem Rh{α β γ:Type}{F:α→β→Prop}{G:γ→β→Prop}{f:α→γ}(h:∀a b,F a b→G (f a) b):∀{xs:List α}{zs:List β},Paired F xs zs→Paired G (xs.map f) zs
 |_,_,.nil=>.nil
 |_,_,.cons g r=>.cons (h _ _ g) (Rh h r)
def IsK(P:Program)(w:World)(v:Value)(k:Key):Prop:=(ad P w).is k v=true
theorem Sr{P:Program}{w:World}{es:List (Int×Value)}{vs:List (Int×Value)}{ks:List Key}(h:∃fs,es.Perm fs∧Paired (hO P w) fs ks)(p:vs.Perm es):∃ks',ks'.Perm ks∧Paired (IsK P w) (vs.map (·.2)) ks':=by
 obtain⟨fs,p1,m⟩:=h;obtain⟨ks',p2,q⟩:=fK (p.trans p1) m;exact⟨ks',p2,Rh (fun _ _ z=>z.1) q⟩
section
variable{prog:Program}{w:World}{A:Around}{E:Value→Shared→Prop}{s:Shared}{a:Addr}{ks:List Key}
theorem qe{Q:Value→Shared→Prop}(G:cO prog w s.heap a ks)(hb:ks.length≤sizeLine)(q:∀(it:Addr) (h':Heap) (d:Drawn) (vs:List Value) (fp:List Addr) (St:Nat→Heap→Prop),s.heap.objs.size≤it→(∀b o,s.heap.get? b=some o→h'.get? b=some o)→(∀b∈fp,b=a∨s.heap.objs.size≤b)→
   (∀A':Around,A'.handled=none→Walks prog w A' it fp [it] ks.length (fun i v=>vs[i]?=some v) St)→St 0 h'→vs.length=ks.length→(∃ks',ks'.Perm ks∧Paired (IsK prog w) vs ks')→Q (.ref it) {s with heap:=h',drawn:=d}):
  wpAny (model prog w) A (pyIter (.ref a)) Q E s:=by
 obtain⟨o,es,ep,t,ho,hex,hd,hf,fit,gd,nd⟩:=G;have len:=S2 hf;rw[wG]at len;have lta:a<s.heap.objs.size:=wE ho;have ty:s.TypeIs (.ref a) "set":=⟨o,ho,hex.1⟩;refine wpAny_pyIter_slot ty PySem.F.slot_set_iter (x9 PySem.F.slot_set_iter ty Q4 ?_ (PySem.F.args_set_iter_1 _));unfold Builtin.«frozenset.__iter__»;refine ae (show wpAny _ _ (pure a) _ _ _ from io ?_);unfold Builtin.Frozenset.sizeOf;refine ae (ae (wpAny_setEntries_of ho hd fit (io ?_)));unfold setDrawn;refine ae (ae (y9 ho hd fit (ae (So (io ?_)))));show wpAny _ _ (if (!w.params.followText "set-order" && (!t.plain && decide (es.size > 1)))=true then _ else _) _ _ _;have fin:∀(first:Value)(s1:Shared)(it:Addr),it=s1.heap.objs.size→s1.heap.get? a=some o→(∀b o,s.heap.get? b=some o→s1.heap.get? b=some o)→s.heap.objs.size≤it→s1={s with heap:=s1.heap,drawn:=s1.drawn}→
   (∀h',h'=s1.heap.push (iW first 0 a es.size ep)→∃(vs:List Value)(fp:List Addr)(St:Nat→Heap→Prop),(∀b∈fp,b=a∨s.heap.objs.size≤b)∧
   (∀A':Around,A'.handled=none→Walks prog w A' it fp [it] es.size (fun i v=>vs[i]?=some v) St)∧St 0 h'∧vs.length=ks.length∧(∃ks',ks'.Perm ks∧Paired (IsK prog w) vs ks'))→
   wpAny (model prog w) A.in1 (do
    let e ←setEpoch a
    let x ←newFields "set_iterator" [first,rawInt 0,.ref a,rawInt es.size,rawInt e]
    ret x) (fun fin s'=>∃v,fin=.done (.ret v)∧∃T' r,s'.TypeIs v T'∧typeLookup (.type T') (Str.ofString "__next__")=pure (some r)∧Q v s') E s1:=by
  intro first s1 it hit ho1 kp le es1 hw
  refine ae (wpAny_setEpoch_of ho1 hd fit ?_);unfold newFields;refine ae (yp ?_);obtain⟨vs,fp,St,h1,h2,h3,h4,h5⟩:=hw _ rfl;refine io ⟨_,rfl,"set_iterator",_,⟨_,wD _ rfl,rfl⟩,Xd.lookup,?_⟩;rw[es1,←hit];rw[len]at h2;exact q it _ s1.drawn vs fp St le (fun b o e=>az _ (kp b o e)) h1 h2 h3 h4 h5
 by_cases ht:w.params.followText "set-order"=true
 ·rw[ht];rw[if_neg (by simp)];refine ae (io ?_);refine fin (rawInt 0) s s.heap.objs.size rfl ho (fun _ _ e=>e) (pi _) rfl fun h' eh=>?_;subst eh;refine⟨(pickOrder (w.params.setOrder a ep) es).toList.map (·.2),[s.heap.objs.size,a],_,?_,fun A' hA=>my hA (wS lta) ht hd fit,⟨wD _ rfl,az _ ho⟩,?_,Sr hf (Vv _ _)⟩
  ·intro b hb
   rcases wX.mp hb with rfl | hb
   ·exact .inr (pi _)
   ·exact .inl (wR.mp hb)
  ·rw[aq,(Vv _ _).length_eq,wG,len]
 ·have ht:w.params.followText "set-order"=false:=xO.mpr ht;rw[ht]at gd⊢;by_cases hdr:(!t.plain && decide (es.size > 1))=true
  ·rw[hdr,wM (by decide)];refine ae (Q7 es.size (List.range es.size) s (zc) fun ord d hp=>?_);have ol:ord.length=es.size:=by rw[hp.length_eq,zc]
   refine ae (wpAny_newTuple ?_ (by rw[aq];omega));refine fin (.ref s.heap.objs.size) _ (s.heap.objs.size+1) (by simp[Heap.size_push]) (Heap.get?_push_of_some _ ho) (fun b o e=>Heap.get?_push_of_some _ e) (by omega) rfl fun h' eh=>?_;subst eh;have hpe:(ord.map fun j=>es.getD j (0,.none)).Perm es.toList:=by
    have e:es.toList=(List.range es.size).map fun j=>es.getD j (0,.none):=by
     refine List.ext_getElem? fun i=>?_;rw[wI,xi];by_cases hi:i<es.size
     ·rw[wC hi,List.getElem?_range hi];simp[Array.getD,hi]
     ·rw[zx (by omega),List.getElem?_eq_none (by rw[zc];omega)];rfl
    rw[e];exact hp.map _
   have v:=Sr hf hpe;rw[xD]at v;refine⟨ord.map fun j=>(es.getD j (0,.none)).2,[s.heap.objs.size+1,a,s.heap.objs.size],_,?_,fun A' hA=>iG (it:=s.heap.objs.size+1) (T:=s.heap.objs.size) hA (wS (yq lta)) (wS (zS _)) hp hd fit,⟨?_,az _ (az _ ho),az _ (wD _ rfl)⟩,?_,v⟩
   ·intro b hb
    rcases wX.mp hb with rfl | hb
    ·exact .inr (by omega)
    ·rcases wX.mp hb with rfl | hb
     ·exact .inl rfl
     ·rw[wR.mp hb];exact .inr (pi _)
   ·have:=wD (h:=s.heap.push (plO ord)) (o:=iW (.ref s.heap.objs.size) 0 a es.size ep) rfl;rw[yA]at this;exact this
   ·rw[aq,ol,len]
  ·have hdr:=xO.mpr hdr;rw[hdr,if_neg (by simp)];refine ae (io ?_);refine fin (rawInt 0) s s.heap.objs.size rfl ho (fun _ _ e=>e) (pi _) rfl fun h' eh=>?_;subst eh;refine⟨es.toList.map (·.2),[s.heap.objs.size,a],_,?_,fun A' hA=>hE hA (wS lta) ht hd fit gd hdr,⟨yc _,wD _ rfl,az _ ho⟩,?_,Sr hf (zn _)⟩
   ·intro b hb
    rcases wX.mp hb with rfl | hb
    ·exact .inr (pi _)
    ·exact .inl (wR.mp hb)
   ·rw[aq,wG,len]
theorem Sq{α:Type}{M:Model}{c:Bool}{X Y:Sem α}{Q:α→Shared→Prop}(h:c=true)(q:wpAny M A X Q E s):wpAny M A (if c=true then X else Y) Q E s:=by
 rw[wM h];exact q
theorem nK{Q:Bool→Shared→Prop}(ty:s.TypeIs (.ref a) "set")(q:Q false s):wpAny (model prog w) A (Builtin.List.listLengthHint (.ref a)) Q E s:=by
 have k1:typeLookup (.type "set") (Str.ofString "__len__")=pure (some (.builtin "set.__len__")):=by kernel_rfl
 have k2:splitId "set.__len__"=some ("set","__len__"):=by kernel_rfl
 have k3:isSubtype (.type "set") (.type "set")=pure true:=PySem.F.called_set.sub;unfold Builtin.List.listLengthHint;refine ae (wpAny_specialOf ty k1 ?_);dsimp only;rw[k2];refine ae (wpAny_isInstance ty k3 ?_);rw[wK (by decide)];refine Sq (by kernel_rfl) (ae (zR ty ?_));exact io q
theorem q9:(Value.type "set" == Value.type "list")=false:=by decide
theorem ub:(Value.type "set" == Value.type "tuple")=false:=by decide
theorem i8{S:Addr}{res:Value}{c₀:Nat}{R:Result→Shared→Prop}(G:cO prog w s.heap a ks)(hh:A.handled=none)(hb:ks.length≤sizeLine)(hS:S≠a)(eS:s.heap.get? S=some {cls:=.type "list",data:=.seq #[] c₀})(q:∀(g:Heap) (tk:Nat) (d:Drawn) (xs:Array Value) (c:Nat),(∀b o,b≠S→s.heap.get? b=some o→g.get? b=some o)→g.get? S=some {cls:=.type "list",data:=.seq xs c}→(∃ks',ks'.Perm ks∧Paired (IsK prog w) xs.toList ks')→R (.ok (.ret res)) {s with heap:=g,toks:=tk,drawn:=d}):
  wpAny (model prog w) A.in1 (Builtin.List.listExtendWith (.ref S) (.ref a) res) (fun fin s'=>match fin with
   |.done f=>R (.ok f) s'
   |.again c'=>c'.quiet=true∧codeAny (model prog w) A c' R s') (fun e s'=>R (.error e) s') s:=by
 have ty:s.TypeIs (.ref a) "set":=by
  obtain⟨o,es,ep,t,ho,hex,_⟩:=G;exact⟨o,ho,hex.1⟩
 unfold Builtin.List.listExtendWith;refine ae (zR ty ?_);have sm:Builtin.List.listSameRef (.ref S) (.ref a)=false:=by
  unfold Builtin.List.listSameRef;simpa using hS
 rw[sm,q9,ub,wK (by decide)];refine ae (qe G hb fun it h1 d vs fp St le kp hf W st len pk=>?_);refine ae (xQ (nK (s:={s with heap:=h1,drawn:=d}) ?_ ?_))
 ·obtain⟨o,e,c⟩:=ty;exact⟨o,kp _ _ e,c⟩
 have lS:S<s.heap.objs.size:=wE eS;have nS:S∉fp:=fun hm=>by
  rcases hf S hm with z | z
  ·exact hS z
  ·exact absurd lS (Nat.not_lt.mpr z)
 have hA:A.in1.handled=none:=by simpa using hh
 have loop:∀(s2:Shared)(c:Nat),St 0 s2.heap→s2.heap.get? S=some {cls:=.type "list",data:=.seq #[] c}→(∀b o,b≠S→h1.get? b=some o→s2.heap.get? b=some o)→s2={s with heap:=s2.heap,drawn:=d}→
   codeAny (model prog w) A (.builtin "list.extend.loop" ⟨[.ref S,.ref it,res],[]⟩) R s2:=by
  intro s2 c st2 e2 k2 es2;refine codeAny_extend_loopS (W A.in1 hA).toS hb S nS res ks.length 0 s2 #[] c (by omega) (yc _) st2 e2 (ItemsOf.nil _) fun s' xs c' mv eS' hx=>?_;have ex:s'={s with heap:=s'.heap,toks:=s'.toks,drawn:=d}:=by
   have h1:=mv.gens;have h2:=mv.drawn;have h3:=mv.os;rw[es2]at h1 h2 h3;obtain⟨a1,a2,a3,a4,a5⟩:=s';simp only at h1 h2 h3;subst h1 h2 h3;rfl
  have vx:xs.toList=vs:=by
   refine List.ext_getElem? fun j=>?_;obtain⟨sz,at_⟩:=hx;rw[wI];by_cases hj:j<xs.size
   ·have:=at_ j xs[j] (wC hj);rw[wC hj,this]
   ·rw[zx (by omega),List.getElem?_eq_none (by omega)]
  rw[ex];refine q s'.heap s'.toks d xs c' (fun b o nb e=>mv.heap b o ?_ (k2 b o nb (kp b o e))) eS' (by rw[vx];exact pk);intro hm
  rcases wX.mp hm with z | z
  ·exact nb z
  ·have:=wR.mp z;have l2:b<s.heap.objs.size:=wE e;rw[this]at l2;exact absurd l2 (Nat.not_lt.mpr le)
 refine Sq (by kernel_rfl) (ae (yQ ?_));unfold Builtin.List.listTouch;have u1:=get?_update_seq (c:="list") (kp _ _ eS) (fun x=>x.push Value.none);have u2:=get?_update_seq (c:="list") u1 (fun x=>x.pop);refine wpAny_bind (wpAny_bind (listUpdate_at (kp _ _ eS) rfl (listUpdate_at u1 rfl ?_ (by simp[sizeLine_eq]) (by simp)) (by simp) (by simp[sizeLine_eq])));obtain⟨c2,u3⟩:∃c2,((h1.update S (Obj.mapSeq fun x=>x.push Value.none)).update S (Obj.mapSeq fun x=>x.pop)).get? S=some {cls:=.type "list",data:=.seq #[] c2}:=⟨_,u2⟩;have k2:∀b o,b≠S→h1.get? b=some o→((h1.update S (Obj.mapSeq fun x=>x.push Value.none)).update S (Obj.mapSeq fun x=>x.pop)).get? b=some o:=fun b o nb e=>by
  rw[Heap.get?_update_ne _ _ _ _ nb,Heap.get?_update_ne _ _ _ _ nb];exact e
 refine io ⟨zV PySem.F.plain_extend_loop _,loop _ c2 ((W A.in1 hA).frame 0 _ _ st fun b hb o e=>k2 b o (fun z=>nS (by rw[←z];exact hb)) e) u3 k2 rfl⟩
def tM(P:Program)(w:World)(s:Shared)(ks:List Key)(q:Result)(s':Shared):Prop:=
 ∃(g:Heap)(tk c:Nat)(d:Drawn)(xs:Array Value),q=.ok (.ret (.ref s.heap.objs.size))∧s'={s with heap:=g,toks:=tk,drawn:=d}∧(∀b o,s.heap.get? b=some o→g.get? b=some o)∧g.get? s.heap.objs.size=some {cls:=.type "list",dict:=none,data:=.seq xs c,slots:=#[]}∧(∃ks',ks'.Perm ks∧Paired (IsK P w) xs.toList ks')
theorem gS{R:List Value→Shared→Prop}(G:cO prog w s.heap a ks)(hh:A.handled=none)(hb:ks.length≤sizeLine)(h:∀(g:Heap) (tk:Nat) (d:Drawn) (xs:Array Value),(∀b o,s.heap.get? b=some o→g.get? b=some o)→s.heap.objs.size<g.objs.size→(∃ks',ks'.Perm ks∧Paired (IsK prog w) xs.toList ks')→R xs.toList {s with heap:=g,toks:=tk,drawn:=d}):wpAny (model prog w) A (collect (.ref a)) R E s:=by
 have lt1:a<s.heap.objs.size:=by
  obtain⟨o,es,ep,t,ho,_⟩:=G;exact wE ho
 unfold collect;refine ae (wpAny_runValue (ym entry_proto_collect' ?_));rw[yi PySem.F.plain_proto_collect _];refine ae (m:=newList []) (yp (io ⟨zV zm _,ym entry_list_iadd' ?_⟩));rw[yi zm _];have own:(s.heap.push {cls:=.type "list",data:=.seq ([]:List Value).toArray}).get? s.heap.objs.size=some {cls:=.type "list",data:=.seq #[]}:=wD _ rfl;have run:=i8 (A:=A) (s:={s with heap:=s.heap.push {cls:=.type "list",data:=.seq ([]:List Value).toArray}}) (R:=tM prog w s ks) (Vp G fun o e=>az _ e) hh hb (x4 lt1) (res:=.ref s.heap.objs.size) own
  (fun g tk d xs c hk hS hx=>⟨g,tk,c,d,xs,rfl,rfl,fun b o e=>hk b o (wS (wE e)) (az _ e),hS,hx⟩)
 refine xX run (fun fin s' y=>?_) (fun _ _ y=>by obtain⟨_,_,_,_,_,e,_⟩:=y;cases e);cases fin with
 |done f=>
  obtain⟨g,tk,c,d,xs,e,rfl,hk,hS,hx⟩:=y;cases e;exact ae (m:=load s.heap.objs.size) (zZ hS (io (h g tk d xs hk (wE hS) hx)))
 |again c1=>
  refine⟨y.1,zo y.2 fun q s2 z=>?_⟩;obtain⟨g,tk,c,d,xs,rfl,rfl,hk,hS,hx⟩:=z;exact ae (m:=load s.heap.objs.size) (zZ hS (io (h g tk d xs hk (wE hS) hx)))
end
theorem Inv.drawnAs{X:Cx}{or:List (Addr×Obj)}{σ:St}{H:Hp}{s:Shared}(I:Inv X or σ H s)(d:Drawn):Inv X or σ H {s with drawn:=d}:=
 I.call (h':=s.heap) (g':=s.gens) (t':=s.toks) (d':=d) (ch:=[]) Un.refl I.hok I.bare (fun _ z=>nomatch z)
theorem S8{P:Program}{w:World}:∀{vs:List Value}{ks:List Key},Paired (IsK P w) vs ks→(∀k∈ks,∃z,k=Sum.inl z)→∃ns:List Int,ks=ns.map Sum.inl∧IntsAre vs ns
 |_,_,.nil,_=>⟨[],rfl,.nil⟩
 |_,_,.cons f r,h=>by
  obtain⟨z,rfl⟩:=h _ (.head _);obtain⟨ns,rfl,q⟩:=S8 r fun k hk=>h k (.tail _ hk);obtain⟨t,rfl⟩:=m6 f;exact⟨z::ns,rfl,.cons z t q⟩
theorem oC{xs ys:List Int}(h:(xs.map (Sum.inl:Int→Key)).Perm (ys.map Sum.inl)):xs.Perm ys:=by
 have:=h.filterMap Sum.getLeft?;rw[List.filterMap_map,List.filterMap_map]at this;simpa [Function.comp_def] using this
section
variable{X:Cx}
def qM(P:Program)(w:World):List V→Hp→VK→Prop:=fun xs H Q=>∃(d:Addr)(ns:List Int),xs=[.ref d]∧H d=some (eR P w d (ns.map Sum.inl))∧ns.length<64∧∀p,H p=none→Q (.ref p) (upd H p (.lst ((eK ns).map V.int)))
theorem fg(hc:X.calm=true):aV X (.builtin "sorted") (qM X.prog X.w):=by
 intro or s σ H xs us Q I rx h;obtain⟨d,ns,rfl,hd,h64,q⟩:=h;obtain⟨u,rfl,ru⟩:=Xx rx;cases ru;have G:cO X.prog X.w s.heap d (ns.map Sum.inl):=(I.hok d _ hd).1;have hh:X.A.in1.handled=none:=by simpa using I.ok.hd hc
 refine Calls.call_function_entry kind_sorted plain_sorted entry_sorted (args_sorted1 _) ?_;unfold Builtin.«sorted»;refine ae (m:=checkCount "sorted" 1 1 _) (io ?_);refine ae (gS (A:=X.A.in1) G hh (Zf (by rw[aq];omega)) fun g tk dr Ai hk hsz hacc=>?_);obtain⟨ks',pk,pr⟩:=hacc;obtain⟨ns',rfl,hS⟩:=S8 pr fun k hk=>by
  obtain⟨z,_,rfl⟩:=wW.mp (pk.mem_iff.mp hk);exact⟨z,rfl⟩
 have pz:=oC pk;have al:Ai.toList.length=ns.length:=by
  have e1:=zB pr;rw[aq]at e1;rw[e1,pz.length_eq]
 refine ae (zW ?_ (by exact Zf (by omega)));have hoL:(g.push (seqObj "list" Ai.toList.toArray 0)).get? g.objs.size=some (seqObj "list" Ai.toList.toArray 0):=wD _ rfl;refine ae (xQ (x9 slot_list_sort ⟨_,hoL,rfl⟩ entry_list_sort (list_sort_tree hoL hS (by omega) fun out ms a1 a2 a3=>⟨_,rfl,?_⟩) (args_list_sort _)));refine io ⟨_,rfl,?_⟩;have ess:=q_ (a2.trans pz) a3;subst ess;obtain⟨e2,he2⟩:=sortedHeap_at (vs:=Ai.toList) (out:=out) hoL;have hz:s.heap.objs.size≤g.objs.size:=ye hsz;refine⟨.ref g.objs.size,_,(I.drawnAs dr).laid (t':=tk) (o:=.lst ((eK ns).map V.int)) (fun b o e=>?_) hz ?_,rfl,q _ (I.hok.fresh hz)⟩
 ·have e':=hk b o e;have Ac:=wE e';rw[sortedHeap_old (wS Ac) (by rw[size_push'];exact yq Ac)];exact az _ e'
 ·refine⟨?_,out.toList,e2,Vo a1,by rw[Array.toArray_toList];exact he2⟩;rw[aq,(X0 ns).length_eq];exact Zf (by omega)
end
def de(ns:List Int):List Int:=(ddK [] (ns.map Sum.inl)).filterMap Sum.getLeft?
theorem Sn(ns:List Int):ddK [] (ns.map Sum.inl)=(de ns).map Sum.inl:=by
 have h:∀k∈ddK [] (ns.map (Sum.inl:Int→Key)),∃z,k=Sum.inl z:=fun k hk=>by
  rcases(Ox _ _ _).mp hk with q | q
  ·exact nomatch q
  ·obtain⟨z,_,rfl⟩:=wW.mp q;exact⟨z,rfl⟩
 unfold de;generalize ddK [] (ns.map (Sum.inl:Int→Key))=l at h⊢
 induction l with
 |nil=>rfl
 |cons k l ih=>
  obtain⟨z,rfl⟩:=h k (.head _);rw[zi];show Sum.inl z::l=Sum.inl z::_;rw[←ih fun k hk=>h k (.tail _ hk)]
theorem Uu{ns:List Int}{z:Int}:z∈de ns↔z∈ns:=by
 have h:=Ox (ns.map Sum.inl) [] (Sum.inl z:Key);rw[Sn,wW,wW]at h;constructor
 ·intro q
  rcases h.mp ⟨z,q,rfl⟩with e | ⟨y,hy,e⟩
  ·exact nomatch e
  ·cases e;exact hy
 ·intro q;obtain⟨y,hy,e⟩:=h.mpr (.inr ⟨z,q,rfl⟩);cases e;exact hy
theorem O2(ns:List Int):(de ns).Nodup:=by
 have h:=oR (ns.map (Sum.inl:Int→Key)) [] xY;rw[Sn]at h;exact List.Pairwise.of_map Sum.inl (fun a b hab e=>hab (by rw[e])) h
theorem N7(ns:List Int):(de ns).length≤ns.length:=by
 have h:=Oy (ns.map (Sum.inl:Int→Key)) [];rw[Sn,aq,aq,yZ]at h;omega
section
variable{X:Cx}
theorem k8(hc:X.calm=true):aV X (.type "set") (fun xs H Q=>∃(p:Addr)(ns:List Int),xs=[.ref p]∧SqL X.K H p (ns.map V.int)∧ns.length<4000∧∀a,H a=none→Q (.ref a) (upd H a (eR X.prog X.w a ((de ns).map Sum.inl)))):=by
 intro or s σ H xs us Q I r h;obtain⟨p,ns,rfl,hq,hz,q⟩:=h;refine lP hc or s σ H _ us Q I r ⟨p,ns.map Sum.inl,rfl,?_,by rw[aq];exact hz,fun a na=>?_⟩
 ·rw[xD];exact hq
 ·rw[Sn];exact q a na
end
section
variable{X:Cx}
theorem qB:OpR X (compareOp .IsNot) (fun x y H Q=>∃k:Bool,x=.bl k∧y=.bl false∧Q (.bl k) H):=by
 intro or s σ H x y v u Q I rx ry h;obtain⟨k,rfl,rfl,q⟩:=h;cases rx;cases ry;exact wpAny_isNot_plain (by cases k <;> rfl) (Zm I q (by cases k <;> rfl))
end
section
variable{X:Cx}{or:List (Addr×Obj)}{σ:St}{H:Hp}{s:Shared}
def sZ(w:Addr→Addr→HO):V→List V→Hp→VK→Prop:=fun x vs H Q=>∃d kvs,x=.ref d∧vs=[]∧Rd H d (.dK kvs)∧∀a,H a=none→Q (.ref a) (upd H a (w a d))
theorem ip:MtR X "dict.values" (sZ bY):=by
 intro or s σ H x vs v us Q I rx rv h;obtain⟨d,kvs,rfl,rfl,hd,q⟩:=h;cases rx;cases rv;obtain⟨_,lo,ws,_,hD⟩:=Q8 I.hok hd;refine call_meetsIn ze hD.typeIs PySem.F.entry_dict_values (PySem.F.args_dict_values_1 _) (meets_dict_values (ad X.prog X.w) d lo) ⟨⟨ws,hD⟩,?_⟩;refine⟨.ref s.heap.objs.size,_,I.laid (t':=s.toks) (o:=bY s.heap.objs.size d) (fun b o e=>az _ e) (pi _) ?_,rfl,q _ (I.hok.fresh (pi _))⟩;exact⟨⟨_,wD _ rfl,rfl,rfl⟩,⟨_,wD _ rfl⟩,fun h1 h2 ⟨o,ho,r⟩ k=>⟨o,k o ho,r⟩⟩
def v5(to:TE):TE:=fun σ H Q=>to σ H fun x H1=>∃d kvs,x=.ref d∧Rd H1 d (.dK kvs)∧∀a,H1 a=none→Q (.ref a) (upd H1 a (bY a d))
theorem rL{o:Expr}{to:TE}{apos cpos:Pos}(ho:PE X o to)(hbase:attributeBase o "values" X.env (eval o X.env)=eval o X.env:=by rfl)(hline:(apos.endLine==cpos.line)=true:=by rfl):PE X (.Call (.Attribute o "values" apos) [] [] cpos) (v5 to):=by
 intro or s σ H Q I h;refine wpAny_Call_method0_late hbase hline (thn (ho or s σ H _ I h) fun v s1 z8=>?_);obtain⟨x,H1,I1,r1,q1⟩:=z8;obtain⟨d,kvs,rfl,hd,q⟩:=q1;obtain rfl:v=Value.ref d:=r1;obtain⟨t1,t2,_⟩:=nJ I1 (.inl ⟨kvs,hd⟩);refine⟨"dict","dict.values",PySem.F.plainAttrs_dict,ze,PySem.F.type_dict_values,t1,?_,zt rfl (PySem.evalArgs_none (ip or s1 σ H1 (.ref d) [] (.ref d) [] Q I1 rfl .nil ⟨d,kvs,rfl,rfl,hd,q⟩))⟩
 first | exact t2 | exact fun a e=>by cases e;exact t2
def Itv(d:Addr)(kvs:List (Key×V))(o:Obj):It:=⟨fun i H=>i<kvs.length∧H d=some (.frz o (.dK kvs)),fun i H x H'=>H'=H∧∃p,kvs[i]?=some p∧x=p.2,fun i H=>kvs.length≤i∧H d=some (.frz o (.dK kvs))⟩
theorem kD{P:Program}{w:World}{K:W.Frag}{tg:Expr}{d it:Addr}{kvs:List (Key×V)}{o:Obj}{ws:List (Key×Value)}{ep:Nat}(kv:KV kvs ws)(hat:∀h:Heap,h.get? d=some o→h.DictAt (ad P w) d ws ep):
  Turn P w K tg (Itv d kvs o) [it] it (fun i h=>h.IsValIter it d i ws.length ep) where
 mem:=by simp
 obj:=fun i h st b hb=>by
  obtain⟨q,e,c,dd⟩:=st;have z:b=it:=by simpa using hb
  subst z;exact⟨q,e,fun v z=>by rw[dd]at z;cases z⟩
 keep:=fun i h h' st k=>st.at fun q e=>k it (by simp) q e
 item:=by
  intro X hP hw hK hc i or s σ H E I hf st hg;subst hP hw hK;obtain⟨hi,hd⟩:=hg;obtain⟨ho,_⟩:=I.hok d _ hd;have kl:=kv.length;obtain⟨f0,f1,f2,f3,f4,f5⟩:=hf it (by simp);have e1:kvs[i]?=some kvs[i]:=by simp[hi]
  have e2:ws[i]?=some ws[i]:=by simp
  obtain⟨r1,r2⟩:=KV.get kv e1 e2;refine wpAny_pyNext_values_item st (hat _ ho) (k:=ws[i].1) (v:=ws[i].2) e2 fun h' Aj sb=>?_;obtain⟨q,e,c,dd⟩:=id Aj;have I1:Inv X or σ H {s with heap:=h'}:=I.turned (t':=s.toks) (fun b ob hb eb=>(sb.2 b hb).trans eb) f0 f1 f3 f4 f5;exact⟨_,rfl,Pj (s:={s with heap:=h'}) e c dd (by decide) ⟨kvs[i].2,H,I1,r2,⟨rfl,_,e1,rfl⟩,Aj,fun b hb=>(hf b hb).1⟩⟩
 done:=by
  intro X hP hw hK hc i or s σ H E I hf st hg;subst hP hw hK;obtain⟨hi,hd⟩:=hg;obtain⟨ho,_⟩:=I.hok d _ hd;have kl:=kv.length;obtain⟨f0,f1,f2,f3,f4,f5⟩:=hf it (by simp);exact wpAny_pyNext_values_end (I.ok.hd hc) st (hat _ ho) (by simp;omega) fun h' eb=>⟨rfl,I.turned (t':=s.toks) (fun b ob hb e=>eb b ob hb e) f0 f1 f3 f4 f5⟩
 self:=fun _ _ _ _ _ st h=>wpAny_pyIter_valiter st h
def v9(tl:TE):TI:=fun σ H R=>tl σ H fun x H1=>∃(v d:Addr)(o:Obj)(kvs:List (Key×V)),x=.ref v∧H1 v=some (bY v d)∧H1 d=some (.frz o (.dK kvs))∧R (Itv d kvs o) H1
theorem qE{tg l:Expr}{tl:TE}(hl:PE X l tl):PI X tg l (v9 tl):=by
 intro or s σ H R I h;refine thn (hl or s σ H _ I h) fun v s1 z8=>?_;obtain⟨x,H1,I1,r1,q1⟩:=z8;obtain⟨vw,d,o,kvs,rfl,hv,hd,q⟩:=q1;cases r1;obtain⟨ho,z,lo,ws,kv,hD⟩:=(show ObjOk X.prog X.w H1 s1.heap d (.frz o (.dK kvs))from I1.hok d _ hd);obtain⟨view,_⟩:=(show ObjOk X.prog X.w H1 s1.heap vw (bY vw d)from I1.hok vw _ hv);obtain⟨ep,hat⟩:=hD.dictAt;have all:∀g:Heap,g.get? d=some o→g.DictAt (ad X.prog X.w) d ws ep:=fun g e=>hat.at' fun o' e'=>by
  rw[ho]at e';cases e';exact e
 refine wpAny_pyIter_values view hat ⟨s1.heap.objs.size,[s1.heap.objs.size],_,_,H1,rfl,I1.kept (t':=s1.toks) (fun b ob e=>az _ e),kD kv all,⟨_,wD _ rfl,rfl,rfl⟩,fun b hb=>?_,q⟩;have e:b=s1.heap.objs.size:=by simpa using hb
 subst e;exact I1.fpOk (pi _) (I1.hok.fresh (pi _))
theorem kF{d:Addr}{o:Obj}{kvs:List (Key×V)}{k:Nat}{g:TG}{tt:TT}{te:TE}{σ:St}{H:Hp}{Q:VK}(Pv:Nat→List V→Hp→Prop)(h0:Pv 0 [] H)(hl:∀i ys H,Pv i ys H→H d=some (.frz o (.dK kvs)))(hs:∀i p ys H (C:List V→Hp→Prop),kvs[i]?=some p→Pv i ys H→(∀ys' H',Pv (i+1) ys' H'→C ys' H')→ys.length<sizeLine∧g p.2 (List.replicate k none++σ) H fun σ2 H2=>Wk σ2 (List.replicate k none++σ)∧tt σ2 H2 fun ok H3=>
   if ok=true then te σ2 H3 fun y H4=>C (ys++[y]) H4 else C ys H3)(hd:∀ys H,Pv kvs.length ys H→ys.length≤sizeLine∧∀p,H p=none→Q (.ref p) (upd H p (.lst ys))):CompR (Itv d kvs o) H k g tt te σ Q:=by
 refine⟨fun i m ys H=>m=kvs.length-i∧i≤kvs.length∧Pv i ys H,⟨kvs.length,by simp,Nat.zero_le _,h0⟩,?_⟩;rintro i m ys H ⟨rfl,hi,p⟩;have q:=hl i ys H p;by_cases Ac:i<kvs.length
 ·have r:=hs i kvs[i] ys H (fun ys' H'=>∃m',m'<kvs.length-i∧m'=kvs.length-(i+1)∧i+1≤kvs.length∧Pv (i+1) ys' H') (by simp[Ac]) p fun ys' H' p'=>⟨_,by omega,rfl,Ac,p'⟩;refine .inr ⟨⟨Ac,q⟩,r.1,fun v H' y=>?_⟩;obtain⟨e,p',hp',rfl⟩:=y;subst e;have ep:kvs[i]=p':=by simpa [Ac] using hp'
  rw[←ep];exact r.2
 ·have e:i=kvs.length:=by omega
  subst e;exact .inl ⟨⟨pi _,q⟩,hd ys H p⟩
end
abbrev Bn:=List Str×Int
def bnD(b:Bn):PyData:=.tuple [.tuple (b.1.map PyData.str),.int b.2]
def jg(bs:List Bn):PyData:=.list (bs.map bnD)
def aW(room:Int)(ps qs:Ps):List Int:=eK (de ((af ps qs).map fun z=>min (aj ps qs z) (ar room ps qs)))
def ao(ps qs:Ps)(v:Int):List Str:=(bf (af ps qs)).filter fun z=>decide (v≤aj ps qs z)
def uf(ps qs:Ps)(l:List Int)(i:Nat):Bn:=(ao ps qs (l.getD i 0),l.getD i 0-(0::l).getD i 0)
def eQ(ps qs:Ps)(l:List Int)(n:Nat):List Bn:=(List.range n).map (uf ps qs l)
def aA(a b:Ty):List Bn:=if ar a.room a.cs b.cs=0 then[]else eQ a.cs b.cs (aW a.room a.cs b.cs) (aW a.room a.cs b.cs).length
theorem kN(ps qs:Ps)(l:List Int)(n:Nat):eQ ps qs l (n+1)=eQ ps qs l n++[uf ps qs l n]:=by
 unfold eQ;rw[List.range_succ,wO];rfl
theorem Qd(ps qs:Ps)(l:List Int)(n:Nat):(eQ ps qs l n).length=n:=by unfold eQ;rw[aq,zc]
theorem n_{l m:List Int}(h:∀x,x∈l↔x∈m):eK (de l)=eK (de m):=by
 have p:(de l).Perm (de m):=(List.perm_ext_iff_of_nodup (O2 l) (O2 m)).mpr fun x=>by rw[Uu,Uu];exact h x
 exact R7 ((X0 _).trans (p.trans (X0 _).symm)) (Sj _) (Sj _)
theorem lD{ps qs:Ps}(h:(ps.map (·.1)).Nodup)(g:(qs.map (·.1)).Nodup)(room:Int):aW room ps qs=aW room qs ps:=by
 unfold aW;rw[Pm h g,Tm];exact n_ fun x=>((V1 h g).map _).mem_iff
theorem iO{ps qs:Ps}(h:(ps.map (·.1)).Nodup)(g:(qs.map (·.1)).Nodup)(v:Int):ao ps qs v=ao qs ps v:=by
 unfold ao;rw[Tm,jb (V1 h g)]
theorem gZ{a b:Ty}(h:a.Ok)(g:b.Ok)(r:a.room=b.room):aA a b=aA b a:=by
 unfold aA;rw[r,Pm h.nd g.nd,lD h.nd g.nd]
 congr 1
 unfold eQ;refine List.map_congr_left fun i _=>?_;unfold uf;rw[iO h.nd g.nd]
theorem fu(room:Int)(ps qs:Ps):(aW room ps qs).length≤(af ps qs).length:=by
 unfold aW;rw[(X0 _).length_eq];have:=N7 ((af ps qs).map fun z=>min (aj ps qs z) (ar room ps qs));rw[aq]at this;exact this
theorem jI{a b:Ty}(h:a.Ok)(g:b.Ok){z:Str}(hz:z∈af a.cs b.cs):1≤aj a.cs b.cs z:=by
 have n1:=T8 (fun p hp=>h.pos p hp) z;have n2:=T8 (fun p hp=>g.pos p hp) z;unfold aj
 rcases Y3.mp hz with q | q
 ·have:=T7 (fun p hp=>h.pos p hp) h.nd q;omega
 ·have:=T7 (fun p hp=>g.pos p hp) g.nd q;omega
theorem oN{a b:Ty}(h:a.Ok)(g:b.Ok):0≤ar a.room a.cs b.cs:=by
 have r0:=h.room1;unfold ar;by_cases c:a.room<((af a.cs b.cs).map (aj a.cs b.cs)).length
 ·obtain⟨c1,_,e,hm,_⟩:=Xc (by omega) c;rw[e];obtain⟨z,hz,rfl⟩:=wW.mp hm;have:=jI h g hz;omega
 ·unfold cX;rw[wM (by omega)];exact z5 _
theorem Rp{a b:Ty}{v:Int}(hv:v∈aW a.room a.cs b.cs):∃z∈af a.cs b.cs,v=min (aj a.cs b.cs z) (ar a.room a.cs b.cs):=by
 unfold aW at hv;have:=Uu.mp ((X0 _).mem_iff.mp hv);obtain⟨z,hz,e⟩:=wW.mp this;exact⟨z,hz,e.symm⟩
theorem jm{a b:Ty}(h:a.Ok)(g:b.Ok)(c:ar a.room a.cs b.cs≠0){v:Int}(hv:v∈aW a.room a.cs b.cs):0<v:=by
 obtain⟨z,hz,rfl⟩:=Rp hv;have:=jI h g hz;have:=oN h g;omega
theorem gh{a b:Ty}(h:a.Ok)(g:b.Ok){v:Int}{z:Str}(hz:z∈ao a.cs b.cs v):z∈words:=by
 have:=(Zn _).mem_iff.mp (xW.mp hz).1
 rcases Y3.mp this with q | q
 ·obtain⟨p,hp,rfl⟩:=wW.mp q;exact h.word p hp
 ·obtain⟨p,hp,rfl⟩:=wW.mp q;exact g.word p hp
def BnW(b:Bn):Prop:=(∀z∈b.1,z∈words)∧b.1.length≤40
theorem iL{a b:Ty}(h:a.Ok)(g:b.Ok):∀x∈aA a b,BnW x:=fun x hx=>by
 unfold aA at hx
 split at hx
 ·exact nomatch hx
 ·unfold eQ at hx;obtain⟨i,_,rfl⟩:=wW.mp hx;refine⟨fun z hz=>gh h g hz,?_⟩;show(ao a.cs b.cs _).length≤40;have l1:=xV (fun z=>decide ((aW a.room a.cs b.cs).getD i 0≤aj a.cs b.cs z)) (bf (af a.cs b.cs));have l2:=(Zn (af a.cs b.cs)).length_eq;have l3:=Xb a.cs b.cs;have l4:=h.len;have l5:=g.len;have l6:=h.room2;have l7:=g.room2;unfold ao;omega
theorem Vn{a b:Ty}(h:a.Ok)(g:b.Ok):(aA a b).length≤40:=by
 unfold aA
 split
 ·exact yc _
 ·rw[Qd];have l1:=fu a.room a.cs b.cs;have l3:=Xb a.cs b.cs;have l4:=h.len;have l5:=g.len;have l6:=h.room2;have l7:=g.room2;omega
theorem iR:∀{ds:List PyData}{n:Nat},(∀d∈ds,d.canLay0=true∧d.depth≤n)→PyData.canLayAll0 ds=true∧PyData.depthAll ds≤n
 | [],n,_=>⟨by simp[PyData.canLayAll0],by simp[PyData.depthAll]⟩
 |d::ds,n,h=>by
  obtain⟨h1,h2⟩:=h d (.head _);obtain⟨h3,h4⟩:=iR (n:=n) fun e he=>h e (.tail _ he);refine⟨by simp[PyData.canLayAll0,h1,h3],?_⟩;simp only[PyData.depthAll];omega
theorem t9{b:Bn}(h:BnW b):(bnD b).canLay0=true∧(bnD b).depth≤2:=by
 obtain⟨h1,h2⟩:=iR (ds:=b.1.map PyData.str) (n:=0) fun d hd=>by
  obtain⟨z,hz,rfl⟩:=wW.mp hd;have:=pA z (h.1 z hz);exact⟨by simp[PyData.canLay0,this],by simp[PyData.depth]⟩
 refine⟨by simp[bnD,PyData.canLay0,PyData.canLayAll0,h1],?_⟩;simp only[bnD,PyData.depth,PyData.depthAll];omega
theorem W8{bs:List Bn}(h:∀b∈bs,BnW b):(jg bs).canLay0=true∧(jg bs).depth≤3:=by
 obtain⟨h1,h2⟩:=iR (ds:=bs.map bnD) (n:=2) fun d hd=>by
  obtain⟨b,hb,rfl⟩:=wW.mp hd;exact t9 (h b hb)
 refine⟨by simp[jg,PyData.canLay0,h1],?_⟩;simp only[jg,PyData.depth];omega
inductive BnsAt(H:Hp):List V→List Bn→Prop
 |nil:BnsAt H [] []
 |cons {a c:Addr} {xs:List V} {b:Bn} {bs:List Bn} (h:H a=some (.tup [.ref c,.int b.2])) (e:H c=some (.tup (b.1.map V.str))) (r:BnsAt H xs bs):BnsAt H (.ref a::xs) (b::bs)
theorem BnsAt.mono{H H':Hp}(g:Same H H'):∀{xs:List V}{bs:List Bn},BnsAt H xs bs→BnsAt H' xs bs
 |_,_,.nil=>.nil
 |_,_,.cons h e r=>.cons (g _ _ h) (g _ _ e) (r.mono g)
theorem BnsAt.append{H:Hp}:∀{xs ys:List V}{bs cs:List Bn},BnsAt H xs bs→BnsAt H ys cs→BnsAt H (xs++ys) (bs++cs)
 |_,_,_,_,.nil,s=>s
 |_,_,_,_,.cons h e r,s=>.cons h e (r.append s)
theorem BnsAt.length{H:Hp}:∀{xs:List V}{bs:List Bn},BnsAt H xs bs→xs.length=bs.length
 |_,_,.nil=>rfl
 |_,_,.cons _ _ r=>yy (·+1) r.length
theorem Na{H:Hp}:∀zs:List Str,DVs H (zs.map V.str) (zs.map PyData.str)
 | []=>.nil
 |z::zs=>.cons (.str z) (Na zs)
theorem BnsAt.dvs{H:Hp}:∀{xs:List V}{bs:List Bn},BnsAt H xs bs→DVs H xs (bs.map bnD)
 |_,_,.nil=>.nil
 |_,_,.cons (b:=b) h e r=>.cons (.tup h (.cons (.tup e (Na b.1)) (.cons (.int _) .nil))) r.dvs
theorem BnsAt.get{H:Hp}:∀{xs:List V}{bs:List Bn},BnsAt H xs bs→∀{i:Nat}{x:V},xs[i]?=some x→∃(a c:Addr)(b:Bn),x=.ref a∧bs[i]?=some b∧H a=some (.tup [.ref c,.int b.2])∧H c=some (.tup (b.1.map V.str))
 |_,_,.nil,i,x,hx=>by simp at hx
 |_,_,.cons (a:=a) (c:=c) (b:=b) h e r,0,x,hx=>by
  have:V.ref a=x:=by simpa using hx
  subst this;exact⟨a,c,b,rfl,rfl,h,e⟩
 |_,_,.cons h e r,i+1,x,hx=>by
  obtain⟨a,c,b,h1,h2,h3,h4⟩:=r.get (i:=i) (x:=x) (by simpa using hx);exact⟨a,c,b,h1,by simpa using h2,h3,h4⟩
def PapAt(H:Hp)(p:Addr)(bs:List Bn):Prop:=∃xs,H p=some (.lst xs)∧BnsAt H xs bs
theorem PapAt.mono{H H':Hp}{p:Addr}{bs:List Bn}(h:PapAt H p bs)(g:Same H H'):PapAt H' p bs:=by
 obtain⟨xs,e,r⟩:=h;exact⟨xs,g _ _ e,r.mono g⟩
theorem PapAt.dv{H:Hp}{p:Addr}{bs:List Bn}(h:PapAt H p bs):DV H (.ref p) (jg bs):=by
 obtain⟨xs,e,r⟩:=h;exact .lst e r.dvs
theorem fW{H:Hp}{l:Addr}{ys:List V}(e:H l=some (.lst ys)):∀{xs:List V}{bs:List Bn},BnsAt H xs bs→BnsAt (am l H) xs bs
 |_,_,.nil=>.nil
 |_,_,.cons h q r=>.cons (by rw[Ze (fun z=>by rw[z,e]at h;cases h)];exact h) (by rw[Ze (fun z=>by rw[z,e]at q;cases q)];exact q) (fW e r)
section
variable{α:Type}{K:W.Frag}{a:Addr}{xs:List V}{ks:List α}{k:Nat}{g:TG}{tt:TT}{te:TE}{σ:St}{H:Hp}{Q:VK}
end
end L2
namespace L2
open PySem PySem.Spec PyProof.Rows PySem.Builtin PySem.Builtin.Str
theorem PenAt.put{H:Hp}{a l:Addr}{o:HO}(h:PenAt H a)(n:l≠a):PenAt (upd H l o) a:=by
 obtain⟨p,q,r,e⟩:=h;exact⟨p,q,r,by rw[Z9 (Ne.symm n)];exact e⟩
theorem q5{H H':Hp}{a l:Addr}{o:HO}(g:Grw a H H')(n:am a H l=none):Grw a H (upd H' l o):=fun b u e=>by
 have hb:b≠l:=fun q=>by rw[q,n]at e;cases e
 have e2:=g b u e;obtain⟨h1,h2⟩:=Zb e2;rw[Ze h1,Z9 hb];exact h2
end L2
namespace HT
open PySem PySem.Spec PyProof.Rows
section
variable{prog:Program}{w:World}{A:Around}{E:Value→Shared→Prop}{s:Shared}
end
end HT
namespace L2
open PySem PySem.Spec PyProof.Rows
section
variable{X:Cx}
end
theorem tS{xs:List V}{k:Nat}:cr xs none (some (k:Int))=xs.take k:=by
 unfold cr;rw[HT.sIx_none,List.drop_zero,Nat.sub_zero,HT.sIx_nat]
 rcases Nat.le_total k xs.length with h | h
 ·rw[y3 h]
 ·rw[Nat.min_eq_right h,xK (pi _),xK h]
theorem mR{xs:List V}{k:Nat}:cr xs (some (k:Int)) none=xs.drop k:=by
 unfold cr;rw[HT.sIx_none,HT.sIx_nat]
 rcases Nat.le_total k xs.length with h | h
 ·rw[y3 h,xK (by rw[xI];omega)]
 ·rw[Nat.min_eq_right h,yo h,yo (pi _),List.take_nil]
section
variable{X:Cx}
end
section
variable{a l d:Addr}{fz:HO}{Hf H' H'':Hp}{xs:List V}{ts:List Th}
end
end L2
namespace HT
open PySem PySem.Spec PyProof.Rows
section
variable{prog:Program}{w:World}{A:Around}{E:Value→Shared→Prop}{s:Shared}
end
end HT
namespace L2
open PySem PySem.Spec PyProof.Rows
section
variable{X:Cx}
end
def aM(prog:Program)(w:World)(A:Around)(s:Shared)(κ:KeyKind)(kd:SortKind):Prop:=
 ∀(E:Value→Shared→Prop)(x y:Value)(a b:κ.α)(Q:Bool→Shared→Prop),κ.keyOf x=some a→κ.keyOf y=some b→Q (κ.blt a b) s→wpAny (model prog w) A (keyLt' kd x y) Q E s
structure Sst(kd:SortKind)(xs0:Array Keyed)(st:SortSt):Prop where
 pm:(arrOf st).Perm xs0
 kn:kindOf st=kd
 pd:pendingOf st=#[]
 fl:failedOf st=none
def Rz(κ:KeyKind)(xs:Array Keyed)(n:Nat):Prop:=∀i j,i≤j→j<n→κ.blt (KK κ xs j) (KK κ xs i)=false
section
variable{prog:Program}{w:World}{A:Around}{E:Value→Shared→Prop}{s:Shared}{κ:KeyKind}{kd:SortKind}{xs0:Array Keyed}{st:SortSt}
theorem Sst.sz(b:Sst kd xs0 st):(arrOf st).size=xs0.size:=b.pm.size_eq
theorem ltF{a b c:κ.α}(h:κ.blt b a=false)(g:κ.blt c b=false):κ.blt c a=false:=by
 rcases e:κ.blt c a with _ | _
 ·rfl
 ·rcases κ.negTrans c b a e with q | q
  ·rw[g]at q;exact q.symm
  ·rw[h]at q;exact q.symm
theorem ltA{a b:κ.α}(h:κ.blt a b=true):κ.blt b a=false:=by
 rcases e:κ.blt b a with _ | _
 ·rfl
 ·have q:=κ.trans a b a h e;rw[κ.irrefl]at q;exact q.symm
theorem Si{i j:Nat}{Q:Unit→SortSt→Prop}(q:Q () (setArr st (mirror (arrOf st) i j ((j-i) / 2)))):wpS (model prog w) A E s (reverseSlice' i j) Q st:=by
 rw[reverseSlice'_eq];exact zy q
end
def cV:KeyOrd where
 α:=Int
 blt a b:=decide (a<b)
 irrefl a:=xg (Int.lt_irrefl a)
 trans a b c h g:=wV (Int.lt_trans (wU h) (wU g))
 negTrans a b c h:=by
  have h:=wU h
  rcases Int.lt_or_le a b with q | q
  ·exact .inl (wV q)
  ·exact .inr (wV (by omega))
 total a b h g:=by
  have h:=yJ h;have g:=yJ g;omega
def dJ(O U:KeyOrd)(a b:O.α×U.α):Bool:=O.blt a.1 b.1 || (!O.blt b.1 a.1 && U.blt a.2 b.2)
theorem Xq{O U:KeyOrd}{a b:O.α×U.α}:dJ O U a b=true↔O.blt a.1 b.1=true∨(a.1=b.1∧U.blt a.2 b.2=true):=by
 unfold dJ;constructor
 ·intro h
  rcases e:O.blt a.1 b.1 with _ | _
  ·rw[e,Bool.false_or,xJ,yP]at h;exact .inr ⟨O.total _ _ e h.1,h.2⟩
  ·exact .inl rfl
 ·rintro(h | ⟨e,h⟩)
  ·rw[h,Bool.true_or]
  ·rw[e,O.irrefl,Bool.false_or,h];rfl
def cg(O U:KeyOrd):KeyOrd where
 α:=O.α×U.α
 blt:=dJ O U
 irrefl a:=by
  rcases e:dJ O U a a with _ | _
  ·rfl
  ·rcases Xq.mp e with h | ⟨_,h⟩
   ·rw[O.irrefl]at h;exact h.symm
   ·rw[U.irrefl]at h;exact h.symm
 trans a b c h g:=by
  rw[Xq]at *
  rcases h with h | ⟨e,h⟩
  ·rcases g with g | ⟨e',g⟩
   ·exact .inl (O.trans _ _ _ h g)
   ·exact .inl (e' ▸ h)
  ·rcases g with g | ⟨e',g⟩
   ·exact .inl (e ▸ g)
   ·exact .inr ⟨e.trans e',U.trans _ _ _ h g⟩
 negTrans a b c h:=by
  rw[Xq]at *;rw[Xq]
  rcases h with h | ⟨e,h⟩
  ·rcases O.negTrans _ b.1 _ h with q | q
   ·exact .inl (.inl q)
   ·exact .inr (.inl q)
  ·rcases e1:O.blt a.1 b.1 with _ | _
   ·rcases e2:O.blt b.1 a.1 with _ | _
    ·have ab:=O.total _ _ e1 e2
     rcases U.negTrans _ b.2 _ h with q | q
     ·exact .inl (.inr ⟨ab,q⟩)
     ·exact .inr (.inr ⟨ab.symm.trans e,q⟩)
    ·exact .inr (.inl (e ▸ e2))
   ·exact .inl (.inl rfl)
 total a b h g:=by
  have n1:∀{a b:O.α×U.α},dJ O U a b=false→O.blt a.1 b.1=false:=fun{a b} h=>by
   rcases e:O.blt a.1 b.1 with _ | _
   ·rfl
   ·rw[Xq.mpr (.inl e)]at h;exact h
  have e:=O.total _ _ (n1 h) (n1 g);have n2:∀{a b:O.α×U.α},a.1=b.1→dJ O U a b=false→U.blt a.2 b.2=false:=fun{a b} e h=>by
   rcases q:U.blt a.2 b.2 with _ | _
   ·rfl
   ·rw[Xq.mpr (.inr ⟨e,q⟩)]at h;exact h
  exact Prod.ext e (U.total _ _ (n2 e h) (n2 e.symm g))
def eu(O:KeyOrd)(R:Value→O.α→Prop)(d:O.α):KeyKind:={O with keyOf:=fun v=>open Classical in if h:∃a,R v a then some h.choose else none,dflt:=d}
theorem Oa{O:KeyOrd}{R:Value→O.α→Prop}{d:O.α}{v:Value}{a:O.α}(h:(eu O R d).keyOf v=some a):R v a:=by
 unfold eu at h;simp only at h
 split at h
 ·rename_i q;cases h;exact q.choose_spec
 ·cases h
theorem j5{O:KeyOrd}{R:Value→O.α→Prop}{d:O.α}{v:Value}{a:O.α}(h:R v a):∃b,(eu O R d).keyOf v=some b:=by
 refine⟨(⟨a,h⟩:∃a,R v a).choose,?_⟩;unfold eu;simp only;rw[dif_pos ⟨a,h⟩]
def eqO(O:KeyOrd)(a b:O.α):Bool:=!O.blt a b && !O.blt b a
theorem Te{O:KeyOrd}{a b:O.α}:eqO O a b=true↔a=b:=by
 unfold eqO;constructor
 ·intro h;rw[xJ,yP,yP]at h;exact O.total _ _ h.1 h.2
 ·rintro rfl;rw[O.irrefl];rfl
def cZ(h h':Heap):Prop:=∀b o,h.get? b=some o→o.cls=.type "tuple"→h'.get? b=some o
structure El(prog:Program)(w:World)(O:KeyOrd)(R:Heap→Value→O.α→Prop)(T:String):Prop where
 mono:∀{h h':Heap}{v:Value}{a:O.α},cZ h h'→R h v a→R h' v a
 fn:∀{h:Heap}{v:Value}{a b:O.α},R h v a→R h v b→a=b
 ty:∀{s:Shared}{v:Value}{a:O.α},R s.heap v a→s.TypeIs v T
 eq:∀{A:Around}{E:Value→Shared→Prop}{s:Shared}{u v:Value}{a b:O.α}{Q:Bool→Shared→Prop},A.units+8<cLine→R s.heap u a→R s.heap v b→Q (eqO O a b) s→wpAny (model prog w) A (eqBool u v) Q E s
 lt:∀{A:Around}{E:Value→Shared→Prop}{s:Shared}{u v:Value}{a b:O.α}{Q:Bool→Shared→Prop}(f:Bool),(f=true→T≠"tuple")→A.units+8<cLine→R s.heap u a→R s.heap v b→Q (O.blt a b) s→wpAny (model prog w) A (oneLt' f u v) Q E s
theorem eqI(a b:Int):(a==b)=eqO cV a b:=by
 rw[yk,xn];exact(Te (O:=cV)).symm
def IntR(_:Heap)(v:Value)(a:cV.α):Prop:=∃t,v=.int a t
theorem uP{prog:Program}{w:World}:El prog w cV IntR "int" where
 mono _ h:=h
 fn h g:=by
  obtain⟨t,rfl⟩:=h;obtain⟨u,e⟩:=g;cases e;rfl
 ty h:=by
  obtain⟨t,rfl⟩:=h;exact typeIs_int _ _ _
 eq {A E s u v a b Q} _ h g q:=by
  obtain⟨t,rfl⟩:=h;obtain⟨u,rfl⟩:=g;refine wpAny_eqBool_int ?_;exact(eqI a b) ▸ q
 lt {A E s u v a b Q} f _ _ h g q:=by
  obtain⟨t,rfl⟩:=h;obtain⟨u,rfl⟩:=g;cases f with
  |true=>exact oneLt_int q
  |false=>
   rw[oneLt'_eq];rw[wK wJ];exact ae (wpAny_richCompare_same (op:=.Lt) (typeIs_int _ _ _) (typeIs_int _ _ _) slot_int_lt (call_int_lt ⟨(fun x=>nomatch x),yx q⟩))
def strO:KeyOrd:=strKind.toKeyOrd
theorem jj{a b:Str}(h:a.cps.toList=b.cps.toList):a=b:=by
 obtain⟨⟨x⟩⟩:=a;obtain⟨⟨y⟩⟩:=b;simp at h;rw[h]
def a9{O U:KeyOrd}(R:Heap→Value→O.α→Prop)(S:Heap→Value→U.α→Prop)(h:Heap)(v:Value)(a:O.α×U.α):Prop:=
 ∃c o n x y,v=.ref c∧h.get? c=some o∧o.cls=.type "tuple"∧o.data=.seq #[x,y] n∧R h x a.1∧S h y a.2
section
variable{prog:Program}{w:World}{O U:KeyOrd}{R:Heap→Value→O.α→Prop}{S:Heap→Value→U.α→Prop}{T V:String}
theorem Wq(e:El prog w O R T)(f:El prog w U S V){h h':Heap}{v:Value}{a:O.α×U.α}(st:cZ h h')(p:a9 R S h v a):a9 R S h' v a:=by
 obtain⟨c,o,n,x,y,rfl,ho,hc,hd,h1,h2⟩:=p;exact⟨c,o,n,x,y,rfl,st _ _ ho hc,hc,hd,e.mono st h1,f.mono st h2⟩
theorem qy(e:El prog w O R T)(f:El prog w U S V){h:Heap}{v:Value}{a b:O.α×U.α}(p:a9 R S h v a)(q:a9 R S h v b):a=b:=by
 obtain⟨c,o,n,x,y,rfl,ho,hc,hd,h1,h2⟩:=p;obtain⟨c',o',n',x',y',e1,ho',hc',hd',g1,g2⟩:=q;cases e1;rw[ho]at ho';cases ho';rw[hd]at hd';cases hd';exact Prod.ext (e.fn h1 g1) (f.fn h2 g2)
theorem kS(b:Bool)(x y:Value):keyLt' (tuples' b) x y=(do
  let xs ←Builtin.List.listItems x
  let ys ←Builtin.List.listItems y
  for ((p,q),i) in (xs.toList.zip ys.toList).zipIdx do
   if !(←eqBool p q)then return ←oneLt' (b && i==0) p q
  return decide (xs.size<ys.size)):=rfl
theorem r_(e:El prog w O R T)(f:El prog w U S V){A:Around}{E:Value→Shared→Prop}{s:Shared}{x y:Value}{a b:O.α×U.α}{Q:Bool→Shared→Prop}(hu:A.units+8<cLine)(bb:Bool)(hb:bb=true→T≠"tuple")(ha:a9 R S s.heap x a)(hb':a9 R S s.heap y b)(q:Q (dJ O U a b) s):wpAny (model prog w) A (keyLt' (tuples' bb) x y) Q E s:=by
 obtain⟨c,o,n,x1,x2,rfl,ho,hc,hd,h1,h2⟩:=ha;obtain⟨c',o',n',y1,y2,rfl,ho',hc',hd',g1,g2⟩:=hb';rw[kS];refine ae (listItems_at ho hd ?_);refine ae (listItems_at ho' hd' ?_);show wpAny _ _ (forIn [((x1,y1),0),((x2,y2),1)] _ _ >>= _) _ _ s;rw[List.forIn_cons];refine ae (ae (ae (e.eq hu h1 g1 ?_)))
 rcases e1:eqO O a.1 b.1 with _ | _
 ·rw[Bool.not_false,wM rfl];have ne:a.1≠b.1:=fun z=>by rw[Te.mpr z]at e1;cases e1
  have q:Q (O.blt a.1 b.1) s:=by
   have z:dJ O U a b=O.blt a.1 b.1:=by
    rw[yk,Xq];exact⟨fun h=>h.elim id fun h=>absurd h.1 ne,.inl⟩
   rw[z]at q;exact q
  exact ae (e.lt _ (fun z=>hb (by rw[xJ]at z;exact z.1)) hu h1 g1 (io (io (io q))))
 ·rw[Bool.not_true,wK wJ];have ea:=Te.mp e1;refine io ?_;show wpAny _ _ (forIn [((x2,y2),1)] _ _) _ _ s;rw[List.forIn_cons];refine ae (ae (f.eq hu h2 g2 ?_))
  rcases e2:eqO U a.2 b.2 with _ | _
  ·rw[Bool.not_false,wM rfl];have q:Q (U.blt a.2 b.2) s:=by
    have z:dJ O U a b=U.blt a.2 b.2:=by
     rw[yk,Xq];constructor
     ·rintro(h | h)
      ·rw[ea,O.irrefl]at h;cases h
      ·exact h.2
     ·exact fun h=>.inr ⟨ea,h⟩
    rw[z]at q;exact q
   exact ae (f.lt _ (fun z=>by rw[xJ]at z;exact absurd z.2 (by decide)) hu h2 g2 (io (io (io q))))
  ·rw[Bool.not_true,wK wJ];have eb:=Te.mp e2;have q:Q false s:=by
    have z:dJ O U a b=false:=by
     rcases y:dJ O U a b with _ | _
     ·rfl
     ·rcases Xq.mp y with h | h
      ·rw[ea,O.irrefl]at h;exact h.symm
      ·rw[eb,U.irrefl]at h;exact h.2.symm
    rw[z]at q;exact q
   refine io ?_;show wpAny _ _ (forIn [] _ _) _ _ s;rw[List.forIn_nil];exact io (io q)
theorem nh(e:El prog w O R T)(f:El prog w U S V){A:Around}{s:Shared}(hu:A.units+8<cLine)(d:O.α×U.α)(bb:Bool)(hb:bb=true→T≠"tuple"):aM prog w A s (eu (cg O U) (a9 R S s.heap) d) (tuples' bb):=
 fun E x y a b Q ha hb' q=>r_ e f hu bb hb (Oa ha) (Oa hb') q
end
end L2
namespace L2T
open PySem PySem.Spec PyProof.Rows L2
def ky(κ:KeyKind)(p:Keyed):κ.α:=(κ.keyOf p.1).getD κ.dflt
def leK(κ:KeyKind)(p q:Keyed):Prop:=κ.blt (ky κ q) (ky κ p)=false
def Srt(κ:KeyKind)(l:List Keyed):Prop:=l.Pairwise (leK κ)
section
variable{κ:KeyKind}
theorem leK.refl(p:Keyed):leK κ p p:=κ.irrefl _
theorem leK.trans{p q r:Keyed}(h:leK κ p q)(g:leK κ q r):leK κ p r:=ltF h g
theorem leK.of{p q:Keyed}(h:κ.blt (ky κ p) (ky κ q)=true):leK κ p q:=ltA h
structure Mi(κ:KeyKind)(W out A B:List Keyed):Prop where
 pm:(out++(A++B)).Perm W
 so:Srt κ out
 sa:Srt κ A
 sb:Srt κ B
 le:∀x∈out,∀y∈A++B,leK κ x y
theorem Mi.a{W out X A B:List Keyed}(h:Mi κ W out (X++A) B)(hl:∀x∈X,∀y∈B,leK κ x y):Mi κ W (out++X) A B:=by
 have sa:=xx.mp h.sa;refine⟨?_,xx.mpr ⟨h.so,sa.1,fun x hx y hy=>h.le x hx y (xv _ (xv _ hy))⟩,sa.2.1,h.sb,?_⟩
 ·have:=h.pm;simpa [List.append_assoc] using this
 ·intro x hx y hy
  rcases wY.mp hx with hx | hx
  ·refine h.le x hx y ?_
   rcases wY.mp hy with hy | hy
   ·exact xv _ (wP _ hy)
   ·exact wP _ hy
  ·rcases wY.mp hy with hy | hy
   ·exact sa.2.2 x hx y hy
   ·exact hl x hx y hy
theorem Mi.sw{W out A B:List Keyed}(h:Mi κ W out A B):Mi κ W out B A:=
 ⟨((List.perm_append_comm).append_left out).trans h.pm,h.so,h.sb,h.sa,fun x hx y hy=>h.le x hx y (wY.mpr (Or.symm (wY.mp hy)))⟩
theorem Mi.b{W out X A B:List Keyed}(h:Mi κ W out A (X++B))(hl:∀x∈X,∀y∈A,leK κ x y):Mi κ W (out++X) A B:=(h.sw.a hl).sw
theorem Mi.fin{W out A B:List Keyed}(h:Mi κ W out A B)(hl:∀x∈A,∀y∈B,leK κ x y):(out++A++B).Perm W∧Srt κ (out++A++B):=by
 refine⟨by rw[xw];exact h.pm,?_⟩;rw[xw];exact xx.mpr ⟨h.so,xx.mpr ⟨h.sa,h.sb,hl⟩,h.le⟩
structure Mh(κ:KeyKind)(W out A B:List Keyed):Prop where
 pm:((A++B)++out).Perm W
 so:Srt κ out
 sa:Srt κ A
 sb:Srt κ B
 le:∀x∈A++B,∀y∈out,leK κ x y
theorem Mh.b{W out X A B:List Keyed}(h:Mh κ W out A (B++X))(hl:∀x∈X,∀y∈A,leK κ y x):Mh κ W (X++out) A B:=by
 have sb:=xx.mp h.sb;refine⟨?_,xx.mpr ⟨sb.2.1,h.so,fun x hx y hy=>h.le x (wP _ (wP _ hx)) y hy⟩,h.sa,sb.1,?_⟩
 ·have:=h.pm;simpa [List.append_assoc] using this
 ·intro x hx y hy
  rcases wY.mp hy with hy | hy
  ·rcases wY.mp hx with hx | hx
   ·exact hl y hy x hx
   ·exact sb.2.2 x hx y hy
  ·refine h.le x ?_ y hy
   rcases wY.mp hx with hx | hx
   ·exact xv _ hx
   ·exact wP _ (xv _ hx)
theorem Mh.sw{W out A B:List Keyed}(h:Mh κ W out A B):Mh κ W out B A:=
 ⟨((List.perm_append_comm).append_right out).trans h.pm,h.so,h.sb,h.sa,fun x hx y hy=>h.le x (wY.mpr (Or.symm (wY.mp hx))) y hy⟩
theorem Mh.a{W out X A B:List Keyed}(h:Mh κ W out (A++X) B)(hl:∀x∈X,∀y∈B,leK κ y x):Mh κ W (X++out) A B:=(h.sw.b hl).sw
theorem Mh.fin{W out A B:List Keyed}(h:Mh κ W out A B)(hl:∀x∈A,∀y∈B,leK κ x y):(A++B++out).Perm W∧Srt κ (A++B++out):=
 ⟨h.pm,xx.mpr ⟨xx.mpr ⟨h.sa,h.sb,hl⟩,h.so,h.le⟩⟩
theorem Srt.at{l:List Keyed}(h:Srt κ l){i j:Nat}{x y:Keyed}(hij:i≤j)(hx:l[i]?=some x)(hy:l[j]?=some y):leK κ x y:=by
 rcases xP i j with c | c
 ·obtain⟨hi,rfl⟩:=wL.mp hx;obtain⟨hj,rfl⟩:=wL.mp hy;exact yG.mp h i j hi hj c
 ·obtain rfl:i=j:=by omega
  rw[hx]at hy;cases hy;exact leK.refl _
theorem Px{xs:Array Keyed}{i:Nat}{p:Keyed}(h:xs[i]?=some p):KK κ xs i=ky κ p:=by
 unfold KK ky;rw[h]
end
def aP:Bool→Keyed→Array Keyed→Nat→Nat→Nat→StateT SortSt Sem (Option Nat):=sortPriv% PySem.Builtin.gallop
def bK(left:Bool)(key:Keyed)(arr:Array Keyed)(base i:Nat):StateT SortSt Sem (Option Bool):=do
 let x ←elem' arr (base+i)
 if left then lt' x key else return (←lt' key x).map (!·)
theorem ig(left:Bool)(key:Keyed)(arr:Array Keyed)(base n hint:Nat):aP left key arr base n hint=(do
 let mut lastofs:=0
 let mut ofs:=1
 let mut lo:=0
 let mut hi:=0
 let some right ←bK left key arr base hint | return none
 if right then
  let maxofs:=n-hint
  for _ in [0:n] do
   if ofs ≥ maxofs then break
   let some more ←bK left key arr base (hint+ofs) | return none
   if !more then break
   lastofs:=ofs
   ofs:=2*ofs+1
  lo:=hint+lastofs+1
  hi:=hint+min ofs maxofs
 else
  let maxofs:=hint+1
  for _ in [0:n] do
   if ofs ≥ maxofs then break
   let some found ←bK left key arr base (hint-ofs) | return none
   if found then break
   lastofs:=ofs
   ofs:=2*ofs+1
  lo:=hint+1-min ofs maxofs
  hi:=hint-lastofs
 for _ in [0:n] do
  if lo ≥ hi then break
  let m:=lo+(hi-lo) / 2
  let some more ←bK left key arr base m | return none
  if more then lo:=m+1 else hi:=m
 return some hi):=rfl
section
variable{prog:Program}{w:World}{A:Around}{E:Value→Shared→Prop}{s:Shared}{κ:KeyKind}{kd:SortKind}{st:SortSt}
theorem Qa{x y:Keyed}{Q:Option Bool→SortSt→Prop}(hc:aM prog w A s κ kd)(kn:kindOf st=kd)(hx:∃a,κ.keyOf x.1=some a)(hy:∃a,κ.keyOf y.1=some a)(q:Q (some (κ.blt (ky κ x) (ky κ y))) st):wpS (model prog w) A E s (lt' x y) Q st:=by
 obtain⟨a,ha⟩:=hx;obtain⟨b,hb⟩:=hy;have e1:ky κ x=a:=by unfold ky;rw[ha];rfl
 have e2:ky κ y=b:=by unfold ky;rw[hb];rfl
 rw[e1,e2]at q;rw[lt'_eq];refine wQ (z7 ?_);rw[kn];exact wQ (wpS_lift (wpAny_attempt (hc _ x.1 y.1 a b _ ha hb ⟨rfl,wN q⟩)))
def bey(κ:KeyKind)(left:Bool)(key:Keyed)(p:Keyed):Bool:=if left then κ.blt (ky κ p) (ky κ key)else !κ.blt (ky κ key) (ky κ p)
theorem Wu{left:Bool}{key p q:Keyed}(h:leK κ p q)(g:bey κ left key q=true):bey κ left key p=true:=by
 unfold bey at g⊢;cases left with
 |true=>
  simp only[if_true]at g⊢
  rcases κ.negTrans _ (ky κ p) _ g with z | z
  ·rw[h]at z;cases z
  ·exact z
 |false=>
  simp only[Bool.false_eq_true,if_false,Bool.not_eq_true']at g⊢;exact ltF h g
theorem O1{left:Bool}{key:Keyed}{arr:Array Keyed}{base i:Nat}{p:Keyed}{Q:Option Bool→SortSt→Prop}(hc:aM prog w A s κ kd)(kn:kindOf st=kd)(hk:KeysOf κ arr)(hy:∃a,κ.keyOf key.1=some a)(e:arr[base+i]?=some p)(q:Q (some (bey κ left key p)) st):wpS (model prog w) A E s (bK left key arr base i) Q st:=by
 unfold bK;rw[elem'_eq,e];have hx:∃a,κ.keyOf p.1=some a:=hk p (zL.mpr (Array.mem_of_getElem? e));refine wQ (wN ?_);cases left with
 |true=>exact Qa hc kn hx hy q
 |false=>exact wQ (Qa hc kn hy hx (wN q))
def su(left:Bool)(key:Keyed)(arr:Array Keyed)(base n lo0 hi0:Nat):StateT SortSt Sem (Option Nat):=do
 let mut lo:=lo0
 let mut hi:=hi0
 for _ in [0:n] do
  if lo ≥ hi then break
  let m:=lo+(hi-lo) / 2
  let some more ←bK left key arr base m | return none
  if more then lo:=m+1 else hi:=m
 return some hi
theorem Xr{left:Bool}{key:Keyed}{arr:Array Keyed}{base n hint:Nat}{Q:Option Nat→SortSt→Prop}(hc:aM prog w A s κ kd)(kn:kindOf st=kd)(hk:KeysOf κ arr)(hy:∃a,κ.keyOf key.1=some a)(hn:hint<n)(hs:base+n≤arr.size)(so:Srt κ ((arr.toList.drop base).take n))(fin:∀m,m≤n→(∀i p,i<m→arr[base+i]?=some p→bey κ left key p=true)→(∀i p,m≤i→i<n→arr[base+i]?=some p→bey κ left key p=false)→Q (some m) st):wpS (model prog w) A E s (aP left key arr base n hint) Q st:=by
 have at_:∀i,i<n→∃p,arr[base+i]?=some p∧((arr.toList.drop base).take n)[i]?=some p:=fun i hi=>by
  have hb:base+i<arr.size:=by omega
  refine⟨arr[base+i],wC hb,?_⟩;rw[xT,wM hi,x5,wI];exact wC hb
 have up:∀{i j p q},i≤j→j<n→arr[base+i]?=some p→arr[base+j]?=some q→leK κ p q:=fun{i j p q} hij hj hp hq=>by
  obtain⟨p',e1,e2⟩:=at_ i (by omega);obtain⟨q',e3,e4⟩:=at_ j hj;rw[hp]at e1;rw[hq]at e3;cases e1;cases e3;exact so.at hij e2 e4
 rw[ig];obtain⟨ph,eh,_⟩:=at_ hint hn;refine wQ (O1 hc kn hk hy eh ?_);dsimp only;have last:∀lo hi,lo≤hi→hi≤n→(∀i p,i<lo→arr[base+i]?=some p→bey κ left key p=true)→(∀i p,hi≤i→i<n→arr[base+i]?=some p→bey κ left key p=false)→wpS (model prog w) A E s (su left key arr base n lo hi) Q st:=by
  intro lo hi lh hn' g1 g2;unfold su;refine wQ (yD (x6 (Q:=fun c u=>u=st∧∃m,c=(none,m,m)∧m≤n∧(∀i p,i<m→arr[base+i]?=some p→bey κ left key p=true)∧(∀i p,m≤i→i<n→arr[base+i]?=some p→bey κ left key p=false))
   (fun x c u=>u=st∧∃lo hi,c=(none,lo,hi)∧lo≤hi∧hi≤n∧hi+x≤n+lo∧(∀i p,i<lo→arr[base+i]?=some p→bey κ left key p=true)∧(∀i p,hi≤i→i<n→arr[base+i]?=some p→bey κ left key p=false)) ?_ ?_ ⟨rfl,lo,hi,rfl,lh,hn',by omega,g1,g2⟩) ?_)
  ·rintro x _ _ _ hx ⟨rfl,lo,hi,rfl,lh,hn',hh,g1,g2⟩;dsimp only
   rcases xP lo hi with c | c
   ·rw[wK (by omega)];obtain⟨p,e,_⟩:=at_ (lo+(hi-lo) / 2) (by omega);refine wQ (O1 hc kn hk hy e ?_);dsimp only
    rcases b:bey κ left key p with _ | _
    ·rw[wK wJ];refine wN ⟨rfl,lo,lo+(hi-lo) / 2,rfl,by omega,by omega,by omega,g1,fun i q h1 h2 hq=>?_⟩
     rcases z:bey κ left key q with _ | _
     ·rfl
     ·rw[Wu (up h1 h2 e hq) z]at b;cases b
    ·rw[wM rfl];refine wN ⟨rfl,lo+(hi-lo) / 2+1,hi,rfl,by omega,by omega,by omega,fun i q h1 hq=>?_,g2⟩;exact Wu (up (show i≤lo+(hi-lo) / 2 by omega) (by omega) hq e) b
   ·rw[wM c];obtain rfl:lo=hi:=by omega
    exact wN ⟨rfl,lo,rfl,hn',g1,g2⟩
  ·rintro _ _ ⟨rfl,lo,hi,rfl,lh,hn',hh,g1,g2⟩;obtain rfl:lo=hi:=by omega
   exact⟨rfl,lo,rfl,hn',g1,g2⟩
  ·rintro _ _ ⟨rfl,m,rfl,hm,g1,g2⟩;exact wN (fin m hm g1 g2)
 rcases b:bey κ left key ph with _ | _
 ·rw[wK wJ];refine wQ (yD (x6 (Q:=fun c u=>u=st∧∃l o,c=(none,l,o)∧l<o∧l≤hint∧(∀p,arr[base+(hint-l)]?=some p→bey κ left key p=false)∧(hint+1≤o∨∀p,arr[base+(hint-o)]?=some p→bey κ left key p=true))
   (fun x c u=>u=st∧∃l o,c=(none,l,o)∧l<o∧l≤hint∧x<o∧(∀p,arr[base+(hint-l)]?=some p→bey κ left key p=false)) ?_ ?_ ⟨rfl,0,1,rfl,by omega,by omega,by omega,fun p hp=>by rw[Nat.sub_zero,eh]at hp;cases hp;exact b⟩) ?_)
  ·rintro x _ _ _ hx ⟨rfl,l,o,rfl,lo,lh,xo,g⟩;dsimp only
   rcases xP o (hint+1)with c | c
   ·rw[wK (by omega)];obtain⟨p,e,_⟩:=at_ (hint-o) (by omega);refine wQ (O1 hc kn hk hy e ?_);dsimp only
    rcases z:bey κ left key p with _ | _
    ·rw[wK wJ];exact wN ⟨rfl,o,2*o+1,rfl,by omega,by omega,by omega,fun q hq=>by rw[e]at hq;cases hq;exact z⟩
    ·rw[wM rfl];exact wN ⟨rfl,l,o,rfl,lo,lh,g,.inr fun q hq=>by rw[e]at hq;cases hq;exact z⟩
   ·rw[wM c];exact wN ⟨rfl,l,o,rfl,lo,lh,g,.inl c⟩
  ·rintro _ _ ⟨rfl,l,o,rfl,lo,lh,xo,g⟩;exact⟨rfl,l,o,rfl,lo,lh,g,.inl (by omega)⟩
  ·rintro _ _ ⟨rfl,l,o,rfl,lo,lh,g,h⟩;refine last (hint+1-min o (hint+1)) (hint-l) (by omega) (by omega) (fun i p hi hp=>?_) fun i p h1 h2 hp=>?_
   ·rcases h with h | h
    ·omega
    ·rcases xP hint o with c | c
     ·omega
     ·obtain⟨q,e,_⟩:=at_ (hint-o) (by omega);exact Wu (up (show i≤hint-o by omega) (by omega) hp e) (h q e)
   ·obtain⟨q,e,_⟩:=at_ (hint-l) (by omega)
    rcases z:bey κ left key p with _ | _
    ·rfl
    ·have:=Wu (up h1 h2 e hp) z;rw[g q e]at this;cases this
 ·rw[wM rfl];refine wQ (yD (x6 (Q:=fun c u=>u=st∧∃l o,c=(none,l,o)∧l<o∧hint+l<n∧(∀p,arr[base+(hint+l)]?=some p→bey κ left key p=true)∧(n-hint≤o∨∀p,arr[base+(hint+o)]?=some p→bey κ left key p=false))
   (fun x c u=>u=st∧∃l o,c=(none,l,o)∧l<o∧hint+l<n∧x<o∧(∀p,arr[base+(hint+l)]?=some p→bey κ left key p=true)) ?_ ?_ ⟨rfl,0,1,rfl,by omega,by omega,by omega,fun p hp=>by rw[Nat.add_zero,eh]at hp;cases hp;exact b⟩) ?_)
  ·rintro x _ _ _ hx ⟨rfl,l,o,rfl,lo,lh,xo,g⟩;dsimp only
   rcases xP o (n-hint)with c | c
   ·rw[wK (by omega)];obtain⟨p,e,_⟩:=at_ (hint+o) (by omega);refine wQ (O1 hc kn hk hy e ?_);dsimp only
    rcases z:bey κ left key p with _ | _
    ·rw[wM (by rfl)];exact wN ⟨rfl,l,o,rfl,lo,lh,g,.inr fun q hq=>by rw[e]at hq;cases hq;exact z⟩
    ·rw[wK (by decide)];exact wN ⟨rfl,o,2*o+1,rfl,by omega,by omega,by omega,fun q hq=>by rw[e]at hq;cases hq;exact z⟩
   ·rw[wM c];exact wN ⟨rfl,l,o,rfl,lo,lh,g,.inl c⟩
  ·rintro _ _ ⟨rfl,l,o,rfl,lo,lh,xo,g⟩;exact⟨rfl,l,o,rfl,lo,lh,g,.inl (by omega)⟩
  ·rintro _ _ ⟨rfl,l,o,rfl,lo,lh,g,h⟩;refine last (hint+l+1) (hint+min o (n-hint)) (by omega) (by omega) (fun i p hi hp=>?_) fun i p h1 h2 hp=>?_
   ·obtain⟨q,e,_⟩:=at_ (hint+l) (by omega);exact Wu (up (show i≤hint+l by omega) (by omega) hp e) (g q e)
   ·rcases h with h | h
    ·omega
    ·rcases xP o (n-hint)with c | c
     ·obtain⟨q,e,_⟩:=at_ (hint+o) (by omega)
      rcases z:bey κ left key p with _ | _
      ·rfl
      ·have:=Wu (up (show hint+o≤i by omega) h2 e hp) z;rw[h q e]at this;cases this
     ·omega
end
end L2T
namespace L2T
open PySem PySem.Spec PyProof.Rows L2
def aI:Nat→StateT SortSt Sem Unit:=sortPriv% PySem.Builtin.setMinGallop
abbrev dC(st:SortSt)(g:Nat):SortSt:=SortSt.mk' (kindOf st) (arrOf st) (pendingOf st) g (failedOf st)
theorem Ys(g:Nat):aI g=modify fun s=>dC s g:=rfl
def dQ:Array Keyed→Array Keyed→StateT SortSt Sem (Array Keyed):=sortPriv% PySem.Builtin.mergeLo
theorem gw(a b:Array Keyed):dQ a b=(do
 rule "list.sort.merge-lo"
 let total:=a.size+b.size
 let done (out:Array Keyed) (ia ib:Nat):=out++a.extract ia a.size++b.extract ib b.size
 let lastOfA (out:Array Keyed) (ia ib:Nat):=out++b.extract ib b.size++a.extract ia a.size
 let mut out:Array Keyed:=#[←elem' b 0]
 let mut ia:=0
 let mut ib:=1
 if ib==b.size then return done out ia ib
 if ia+1==a.size then return lastOfA out ia ib
 let mut Am:=gallopOf (←get)
 for _ in [0:total] do
  let mut acount:=0
  let mut bcount:=0
  for _ in [0:total] do
   let some bWins ←lt' (←elem' b ib) (←elem' a ia) | return done out ia ib
   if bWins then
    out:=out.push (←elem' b ib);ib:=ib+1;bcount:=bcount+1;acount:=0
    if ib==b.size then return done out ia ib
    if bcount ≥ Am then break
   else
    out:=out.push (←elem' a ia);ia:=ia+1;acount:=acount+1;bcount:=0
    if ia+1==a.size then return lastOfA out ia ib
    if acount ≥ Am then break
  rule "list.sort.gallop"
  Am:=Am+1
  for _ in [0:total] do
   if Am > 1 then Am:=Am-1
   aI Am
   let some k ←aP false (←elem' b ib) a ia (a.size-ia) 0 | return done out ia ib
   acount:=k
   if k > 0 then
    out:=out++a.extract ia (ia+k);ia:=ia+k
    if ia+1==a.size then return lastOfA out ia ib
    if ia==a.size then return done out ia ib
   out:=out.push (←elem' b ib);ib:=ib+1
   if ib==b.size then return done out ia ib
   let some k ←aP true (←elem' a ia) b ib (b.size-ib) 0 | return done out ia ib
   bcount:=k
   if k > 0 then
    out:=out++b.extract ib (ib+k);ib:=ib+k
    if ib==b.size then return done out ia ib
   out:=out.push (←elem' a ia);ia:=ia+1
   if ia+1==a.size then return lastOfA out ia ib
   if acount<7 && bcount<7 then break
  Am:=Am+1
  aI Am
 unsupported "internal:list.sort.merge-bound"):=rfl
section
variable{prog:Program}{w:World}{A:Around}{E:Value→Shared→Prop}{s:Shared}{κ:KeyKind}{kd:SortKind}{st:SortSt}
def GalS(st u:SortSt):Prop:=∃g,u=dC st g
theorem GalS.refl:GalS st st:=⟨gallopOf st,rfl⟩
theorem GalS.set{u:SortSt}(h:GalS st u)(g:Nat):GalS st (dC u g):=by
 obtain⟨_,rfl⟩:=h;exact⟨g,rfl⟩
theorem GalS.kn{u:SortSt}(h:GalS st u):kindOf u=kindOf st:=by
 obtain⟨_,rfl⟩:=h;rfl
theorem Sm(xs:Array Keyed)(i:Nat):(xs.extract i xs.size).toList=xs.toList.drop i:=by
 rw[zd,yH,xK];rw[xI,wG];exact pi _
theorem fw(xs:Array Keyed)(i k:Nat):(xs.extract i (i+k)).toList=(xs.toList.drop i).take k:=by
 rw[zd,yH,Nat.add_sub_cancel_left]
theorem Ow{xs:Array Keyed}{i:Nat}(h:i<xs.size):xs.toList.drop i=[xs[i]]++xs.toList.drop (i+1):=by
 rw[List.drop_eq_getElem_cons (by rw[wG];exact h)];rfl
theorem Q6(l:List Keyed)(i k:Nat):l.drop i=(l.drop i).take k++l.drop (i+k):=by
 rw[←zN,xM]
theorem Y7{xs:Array Keyed}{i:Nat}(h:i<xs.size):elem' xs i=pure xs[i]:=by rw[elem'_eq,wC h]
theorem Ws{xs:Array Keyed}{i:Nat}{y:Keyed}(h:y∈xs.toList.drop i):∃j,xs[i+j]?=some y∧i+j<xs.size:=by
 obtain⟨j,hj⟩:=xL.mp h;rw[x5,wI]at hj;exact⟨j,hj,(yU.mp hj).1⟩
theorem Wh{xs:Array Keyed}{i k:Nat}{y:Keyed}(h:y∈(xs.toList.drop i).take k):∃j,xs[i+j]?=some y∧j<k∧i+j<xs.size:=by
 obtain⟨j,hj⟩:=xL.mp h;rw[xT]at hj
 split at hj
 ·next c=>
  rw[x5,wI]at hj;exact⟨j,hj,c,(yU.mp hj).1⟩
 ·cases hj
theorem Xo{xs:Array Keyed}(hk:KeysOf κ xs){i:Nat}(h:i<xs.size):∃a,κ.keyOf xs[i].1=some a:=hk _ (zL.mpr (Array.getElem_mem h))
abbrev dn(a b out:Array Keyed)(ia ib:Nat):Array Keyed:=out++a.extract ia a.size++b.extract ib b.size
abbrev la(a b out:Array Keyed)(ia ib:Nat):Array Keyed:=out++b.extract ib b.size++a.extract ia a.size
abbrev T2:Type:=Option (Array Keyed)×Array Keyed×Nat×Nat×Nat×Nat×Nat
def lo3(a b out:Array Keyed)(ia ib mg k1 k2:Nat):StateT SortSt Sem (ForInStep T2):=do
 let x ←elem' a ia
 if (ia+1+1==a.size)=true then pure (.done (some (la a b (out.push x) (ia+1) ib),out.push x,ia+1,ib,mg,k1,k2))
 else if (decide (k1<7) && decide (k2<7))=true then pure (.done (none,out.push x,ia+1,ib,mg,k1,k2))
 else pure (.yield (none,out.push x,ia+1,ib,mg,k1,k2))
def lo2(a b out:Array Keyed)(ia ib mg k1 k20:Nat):StateT SortSt Sem (ForInStep T2):=do
 let x ←elem' b ib
 if (ib+1==b.size)=true then pure (.done (some (dn a b (out.push x) ia (ib+1)),out.push x,ia,ib+1,mg,k1,k20))
 else do
  let y ←elem' a ia
  let r ←aP true y b (ib+1) (b.size-(ib+1)) 0
  match r with
  |some k=>
   if k > 0 then
    if (ib+1+k==b.size)=true then pure (.done (some (dn a b (out.push x++b.extract (ib+1) (ib+1+k)) ia (ib+1+k)),out.push x++b.extract (ib+1) (ib+1+k),ia,ib+1+k,mg,k1,k))
    else lo3 a b (out.push x++b.extract (ib+1) (ib+1+k)) ia (ib+1+k) mg k1 k
   else lo3 a b (out.push x) ia (ib+1) mg k1 k
  |_=>pure (.done (some (dn a b (out.push x) ia (ib+1)),out.push x,ia,ib+1,mg,k1,k20))
def lo1(a b out:Array Keyed)(ia ib mg k10 k20:Nat):StateT SortSt Sem (ForInStep T2):=do
 aI mg
 let x ←elem' b ib
 let r ←aP false x a ia (a.size-ia) 0
 match r with
 |some k=>
  if k > 0 then
   if (ia+k+1==a.size)=true then pure (.done (some (la a b (out++a.extract ia (ia+k)) (ia+k) ib),out++a.extract ia (ia+k),ia+k,ib,mg,k,k20))
   else if (ia+k==a.size)=true then pure (.done (some (dn a b (out++a.extract ia (ia+k)) (ia+k) ib),out++a.extract ia (ia+k),ia+k,ib,mg,k,k20))
   else lo2 a b (out++a.extract ia (ia+k)) (ia+k) ib mg k k20
  else lo2 a b out ia ib mg k k20
 |_=>pure (.done (some (dn a b out ia ib),out,ia,ib,mg,k10,k20))
structure LoC(κ:KeyKind)(a b:Array Keyed):Prop where
 ha:KeysOf κ a
 hb:KeysOf κ b
 sa:Srt κ a.toList
 sb:Srt κ b.toList
 h1:∀x∈b.toList,∀y∈a.toList.drop (a.size-1),leK κ x y
structure Jl(κ:KeyKind)(a b out:Array Keyed)(ia ib:Nat):Prop where
 mi:Mi κ (a.toList++b.toList) out.toList (a.toList.drop ia) (b.toList.drop ib)
 ia1:ia+1<a.size
 ib1:ib<b.size
 sz:out.size=ia+ib
def Mgd(κ:KeyKind)(a b r:Array Keyed):Prop:=r.toList.Perm (a.toList++b.toList)∧Srt κ r.toList
def Rs(κ:KeyKind)(a b:Array Keyed)(N:Nat)(c:T2):Prop:=(∃r,c.1=some r∧Mgd κ a b r)∨(c.1=none∧Jl κ a b c.2.1 c.2.2.1 c.2.2.2.1∧N<c.2.1.size)
def Ps2(κ:KeyKind)(a b:Array Keyed)(st:SortSt)(N:Nat):ForInStep T2→SortSt→Prop:=fun r u=>GalS st u∧match r with
 |.done c=>Rs κ a b N c
 |.yield c=>c.1=none∧Jl κ a b c.2.1 c.2.2.1 c.2.2.2.1∧N<c.2.1.size
theorem fI{a b out:Array Keyed}{ia ib:Nat}(h:Mi κ (a.toList++b.toList) out.toList (a.toList.drop ia) (b.toList.drop ib))(e:ia=a.size∨ib=b.size):Mgd κ a b (dn a b out ia ib):=by
 have q:=h.fin fun x hx y hy=>by
  rcases e with rfl | rfl
  ·rw[yo (by rw[wG];exact pi _)]at hx;cases hx
  ·rw[yo (by rw[wG];exact pi _)]at hy;cases hy
 unfold Mgd dn;rw[xN,xN,Sm,Sm];exact q
theorem ju{a b out:Array Keyed}{ia ib:Nat}(C:LoC κ a b)(h:Mi κ (a.toList++b.toList) out.toList (a.toList.drop ia) (b.toList.drop ib))(e:ia+1=a.size):Mgd κ a b (la a b out ia ib):=by
 have q:=h.sw.fin fun x hx y hy=>C.h1 x (zO hx) y (by rw[show a.size-1=ia by omega];exact hy);unfold Mgd la;rw[xN,xN,Sm,Sm];exact q
theorem oB{a b out:Array Keyed}{ia ib:Nat}(h:Mi κ (a.toList++b.toList) out.toList (a.toList.drop ia) (b.toList.drop ib))(hb:ib<b.size)(hl:∀y∈a.toList.drop ia,leK κ b[ib] y):Mi κ (a.toList++b.toList) (out.push b[ib]).toList (a.toList.drop ia) (b.toList.drop (ib+1)):=by
 rw[Ow hb]at h;rw[yO];exact h.b fun x hx y hy=>by rw[wR.mp hx];exact hl y hy
theorem sL{a b out:Array Keyed}{ia ib:Nat}(h:Mi κ (a.toList++b.toList) out.toList (a.toList.drop ia) (b.toList.drop ib))(ha:ia<a.size)(hl:∀y∈b.toList.drop ib,leK κ a[ia] y):Mi κ (a.toList++b.toList) (out.push a[ia]).toList (a.toList.drop (ia+1)) (b.toList.drop ib):=by
 rw[Ow ha]at h;rw[yO];exact h.a fun x hx y hy=>by rw[wR.mp hx];exact hl y hy
theorem pf{a b out:Array Keyed}{ia ib mg k1 k2 N:Nat}{u:SortSt}(C:LoC κ a b)(gu:GalS st u)(j:Jl κ a b out ia ib)(hN:N≤out.size)(hl:∀y∈b.toList.drop ib,leK κ (a[ia]'(by have:=j.ia1;omega)) y):wpS (model prog w) A E s (lo3 a b out ia ib mg k1 k2) (Ps2 κ a b st N) u:=by
 have i1:=j.ia1;unfold lo3;rw[Y7 (show ia<a.size by omega)];refine wQ (wN ?_);have m:=sL j.mi (show ia<a.size by omega) hl;have sz:=j.sz;have zz:(out.push (a[ia]'(by omega))).size=out.size+1:=yF _;by_cases c:ia+1+1=a.size
 ·rw[wM (by rw[xn];exact c)];exact wN ⟨gu,.inl ⟨_,rfl,ju C m c⟩⟩
 ·rw[wK (by rw[xn];exact c)];have j2:Jl κ a b (out.push (a[ia]'(by omega))) (ia+1) ib:=⟨m,by omega,j.ib1,by rw[zz];omega⟩
  split
  ·exact wN ⟨gu,.inr ⟨rfl,j2,by show N<(out.push _).size;omega⟩⟩
  ·exact wN ⟨gu,rfl,j2,by show N<(out.push _).size;omega⟩
theorem mO{a b out:Array Keyed}{ia ib mg k1 k2 N:Nat}{u:SortSt}(hc:aM prog w A s κ kd)(kn:kindOf st=kd)(C:LoC κ a b)(gu:GalS st u)(j:Jl κ a b out ia ib)(hN:N≤out.size)(hl:∀y∈a.toList.drop ia,leK κ (b[ib]'j.ib1) y):wpS (model prog w) A E s (lo2 a b out ia ib mg k1 k2) (Ps2 κ a b st N) u:=by
 have i1:=j.ia1;have i2:=j.ib1;unfold lo2;rw[Y7 i2];refine wQ (wN ?_);have m:=oB j.mi i2 hl;have sz:=j.sz;have zz:(out.push b[ib]).size=out.size+1:=yF _;by_cases c:ib+1=b.size
 ·rw[wM (by rw[xn];exact c)];exact wN ⟨gu,.inl ⟨_,rfl,fI m (.inr c)⟩⟩
 rw[wK (by rw[xn];exact c),Y7 (show ia<a.size by omega)];refine wQ (wN ?_);have kl:ib+1+(b.size-(ib+1))=b.size:=by omega
 refine wQ (Xr hc (gu.kn.trans kn) C.hb (Xo C.ha (show ia<a.size by omega)) (by omega) (by omega) (C.sb.sublist ((yM _ _).trans (zJ _ _))) fun k hk g1 g2=>?_);have lta:∀x,(∃i,i<k∧b[ib+1+i]?=some x)→∀y∈a.toList.drop ia,leK κ x y:=by
  rintro x ⟨i,hi,hx⟩ y hy;have q:κ.blt (ky κ x) (ky κ a[ia])=true:=g1 i x hi hx;obtain⟨n,hn,_⟩:=Ws hy;refine(leK.of q).trans (C.sa.at (i:=ia) (j:=ia+n) (by omega) ?_ ?_)
  ·rw[wI];exact wC _
  ·rw[wI];exact hn
 have nlt:∀y∈b.toList.drop (ib+1+k),leK κ a[ia] y:=by
  intro y hy;obtain⟨n,hn,hs⟩:=Ws hy;have q:κ.blt (ky κ y) (ky κ a[ia])=false:=g2 (k+n) y (by omega) (by omega) (by rw[←zf];exact hn);exact q
 dsimp only;have m2:Mi κ (a.toList++b.toList) (out.push b[ib]++b.extract (ib+1) (ib+1+k)).toList (a.toList.drop ia) (b.toList.drop (ib+1+k)):=by
  rw[xN,fw];rw[Q6 b.toList (ib+1) k]at m;refine m.b fun x hx y hy=>?_;obtain⟨i,hi,ik,_⟩:=Wh hx;exact lta x ⟨i,ik,hi⟩ y hy
 have z2:(out.push b[ib]++b.extract (ib+1) (ib+1+k)).size=out.size+1+k:=by
  rw[Array.size_append,yV,zz];omega
 by_cases k0:k > 0
 ·rw[wM k0];by_cases c2:ib+1+k=b.size
  ·rw[wM (by rw[xn];exact c2)];exact wN ⟨gu,.inl ⟨_,rfl,fI m2 (.inr c2)⟩⟩
  ·rw[wK (by rw[xn];exact c2)];exact pf C gu ⟨m2,i1,by omega,by rw[z2];omega⟩ (by omega) nlt
 ·rw[wK k0];obtain rfl:k=0:=by omega
  exact pf C gu ⟨m,i1,by omega,by rw[zz];omega⟩ (by omega) nlt
theorem o0{a b out:Array Keyed}{ia ib mg k1 k2 N:Nat}{u:SortSt}(hc:aM prog w A s κ kd)(kn:kindOf st=kd)(C:LoC κ a b)(gu:GalS st u)(j:Jl κ a b out ia ib)(hN:N≤out.size):wpS (model prog w) A E s (lo1 a b out ia ib mg k1 k2) (Ps2 κ a b st N) u:=by
 have i1:=j.ia1;have i2:=j.ib1;have sz:=j.sz;have m:=j.mi;unfold lo1;rw[Ys];refine wQ (zy ?_);have gu:=gu.set mg;rw[Y7 i2];refine wQ (wN ?_);refine wQ (Xr hc (gu.kn.trans kn) C.ha (Xo C.hb i2) (by omega) (by omega) (C.sa.sublist ((yM _ _).trans (zJ _ _))) fun k hk g1 g2=>?_);have lea:∀x,(∃i,i<k∧a[ia+i]?=some x)→∀y∈b.toList.drop ib,leK κ x y:=by
  rintro x ⟨i,hi,hx⟩ y hy;have q:=g1 i x hi hx;unfold bey at q;rw[wK wJ,yP]at q;have q:leK κ x b[ib]:=q;obtain⟨n,hn,_⟩:=Ws hy;refine q.trans (C.sb.at (i:=ib) (j:=ib+n) (by omega) ?_ ?_)
  ·rw[wI];exact wC _
  ·rw[wI];exact hn
 have ltb:∀y∈a.toList.drop (ia+k),leK κ b[ib] y:=by
  intro y hy;obtain⟨n,hn,hs⟩:=Ws hy;have q:=g2 (k+n) y (by omega) (by omega) (by rw[←zf];exact hn);unfold bey at q;rw[wK wJ,Bool.not_eq_false']at q;exact leK.of q
 dsimp only;have m2:Mi κ (a.toList++b.toList) (out++a.extract ia (ia+k)).toList (a.toList.drop (ia+k)) (b.toList.drop ib):=by
  rw[xN,fw];rw[Q6 a.toList ia k]at m;refine m.a fun x hx y hy=>?_;obtain⟨i,hi,ik,_⟩:=Wh hx;exact lea x ⟨i,ik,hi⟩ y hy
 have z2:(out++a.extract ia (ia+k)).size=out.size+k:=by
  rw[Array.size_append,yV];omega
 by_cases k0:k > 0
 ·rw[wM k0];by_cases c2:ia+k+1=a.size
  ·rw[wM (by rw[xn];exact c2)];exact wN ⟨gu,.inl ⟨_,rfl,ju C m2 c2⟩⟩
  rw[wK (by rw[xn];exact c2)];by_cases c3:ia+k=a.size
  ·rw[wM (by rw[xn];exact c3)];exact wN ⟨gu,.inl ⟨_,rfl,fI m2 (.inl c3)⟩⟩
  ·rw[wK (by rw[xn];exact c3)];exact mO hc kn C gu ⟨m2,by omega,i2,by rw[z2];omega⟩ (by omega) ltb
 ·rw[wK k0];obtain rfl:k=0:=by omega
  exact mO hc kn C gu j hN ltb
abbrev T1:Type:=Option (Array Keyed)×Array Keyed×Nat×Nat×Nat×Nat
abbrev T0:Type:=Option (Array Keyed)×Array Keyed×Nat×Nat×Nat
theorem hW{a b:Array Keyed}{Q:Array Keyed→SortSt→Prop}(hc:aM prog w A s κ kd)(kn:kindOf st=kd)(C:LoC κ a b)(a1:0<a.size)(b1:0<b.size)(h0:∀y∈a.toList,leK κ b[0] y)(fin:∀(m:Array Keyed) (u:SortSt),GalS st u→Mgd κ a b m→Q m u):wpS (model prog w) A E s (dQ a b) Q st:=by
 rw[gw];refine wQ (m:=liftM (rule _)) (wpS_lift (yQ ⟨rfl,?_⟩));rw[Y7 b1];refine wQ (wN ?_);dsimp only;have m0:Mi κ (a.toList++b.toList) (#[]:Array Keyed).toList (a.toList.drop 0) (b.toList.drop 0):=⟨zn _,List.Pairwise.nil,C.sa,C.sb,fun _ h=>nomatch h⟩;have m1:Mi κ (a.toList++b.toList) #[b[0]].toList (a.toList.drop 0) (b.toList.drop 1):=oB m0 b1 h0;by_cases c:1=b.size
 ·rw[wM (by rw[xn];exact c)];exact wN (fin _ _ .refl (fI m1 (.inr c)))
 rw[wK (by rw[xn];exact c)];by_cases c2:0+1=a.size
 ·rw[wM (by rw[xn];exact c2)];exact wN (fin _ _ .refl (ju C m1 c2))
 rw[wK (by rw[xn];exact c2)];refine wQ (z7 ?_);have j1:Jl κ a b #[b[0]] 0 1:=⟨m1,by omega,by omega,rfl⟩;refine wQ (yD (x6 (β:=T0) (Q:=fun c u=>GalS st u∧∃r,c.1=some r∧Mgd κ a b r)
  (fun x c u=>GalS st u∧c.1=none∧Jl κ a b c.2.1 c.2.2.1 c.2.2.2.1∧x<c.2.1.size) ?_ ?_ ⟨.refl,rfl,j1,Nat.zero_lt_one⟩) ?_)
 ·rintro x ⟨_,out,ia,ib,mg⟩ u _ hx ⟨gu,rfl,j,hN⟩;dsimp only;have hN:x<out.size:=hN;refine wQ (yD (x6 (β:=T1) (Q:=fun c v=>GalS st v∧((∃r,c.1=some r∧Mgd κ a b r)∨(c.1=none∧Jl κ a b c.2.1 c.2.2.1 c.2.2.2.1∧out.size<c.2.1.size)))
   (fun y c v=>GalS st v∧c.1=none∧Jl κ a b c.2.1 c.2.2.1 c.2.2.2.1∧out.size+y≤c.2.1.size) ?_ ?_ ⟨gu,rfl,j,pi _⟩) ?_)
  ·rintro y ⟨_,z9,ia2,ib2,ac,bc⟩ v _ hy ⟨gv,rfl,j2,hM⟩;dsimp only;have hM:out.size+y≤z9.size:=hM;have i1:ia2+1<a.size:=j2.ia1;have i2:ib2<b.size:=j2.ib1;have sz:z9.size=ia2+ib2:=j2.sz;rw[Y7 i2,Y7 (show ia2<a.size by omega)];refine wQ (wN (wQ (wN (wQ (Qa hc (gv.kn.trans kn) (Xo C.hb i2) (Xo C.ha (show ia2<a.size by omega)) ?_)))));dsimp only
   rcases bl:κ.blt (ky κ b[ib2]) (ky κ a[ia2])with _ | _
   ·rw[wK wJ];refine wQ (wN ?_);have m:=sL j2.mi (show ia2<a.size by omega) fun z hz=>by
     obtain⟨n,hn,_⟩:=Ws hz;have q:leK κ a[ia2] b[ib2]:=bl;refine q.trans (C.sb.at (i:=ib2) (j:=ib2+n) (by omega) ?_ ?_)
     ·rw[wI];exact wC _
     ·rw[wI];exact hn
    have zz:(z9.push (a[ia2]'(by omega))).size=z9.size+1:=yF _;by_cases d:ia2+1+1=a.size
    ·rw[wM (by rw[xn];exact d)];exact wN ⟨gv,.inl ⟨_,rfl,ju C m d⟩⟩
    ·rw[wK (by rw[xn];exact d)];have j3:Jl κ a b (z9.push (a[ia2]'(by omega))) (ia2+1) ib2:=⟨m,by omega,i2,by rw[zz];omega⟩
     split
     ·exact wN ⟨gv,.inr ⟨rfl,j3,by show _<(z9.push _).size;omega⟩⟩
     ·exact wN ⟨gv,rfl,j3,by show _≤(z9.push _).size;omega⟩
   ·rw[wM rfl];refine wQ (wN ?_);have m:=oB j2.mi i2 fun z hz=>by
     obtain⟨n,hn,_⟩:=Ws hz;have q:leK κ b[ib2] a[ia2]:=leK.of bl;refine q.trans (C.sa.at (i:=ia2) (j:=ia2+n) (by omega) ?_ ?_)
     ·rw[wI];exact wC _
     ·rw[wI];exact hn
    have zz:(z9.push b[ib2]).size=z9.size+1:=yF _;by_cases d:ib2+1=b.size
    ·rw[wM (by rw[xn];exact d)];exact wN ⟨gv,.inl ⟨_,rfl,fI m (.inr d)⟩⟩
    ·rw[wK (by rw[xn];exact d)];have j3:Jl κ a b (z9.push b[ib2]) ia2 (ib2+1):=⟨m,i1,by omega,by rw[zz];omega⟩
     split
     ·exact wN ⟨gv,.inr ⟨rfl,j3,by show _<(z9.push _).size;omega⟩⟩
     ·exact wN ⟨gv,rfl,j3,by show _≤(z9.push _).size;omega⟩
  ·rintro⟨_,z9,ia2,ib2,ac,bc⟩ v ⟨gv,rfl,j2,hM⟩;have hM:out.size+max 0 (a.size+b.size)≤z9.size:=hM;have i1:ia2+1<a.size:=j2.ia1;have i2:ib2<b.size:=j2.ib1;have sz:z9.size=ia2+ib2:=j2.sz;omega
  ·rintro⟨r,z9,ia2,ib2,ac,bc⟩ v ⟨gv,h⟩
   rcases h with⟨m,e,gm⟩|⟨e,j2,hM⟩
   ·have e:r=some m:=e;subst e;exact wN ⟨gv,m,rfl,gm⟩
   have e:r=none:=e;subst e;have hM:out.size<z9.size:=hM;refine wQ (m:=liftM (rule _)) (wpS_lift (yQ ⟨rfl,?_⟩));refine wQ (yD (x6 (β:=T2) (Q:=fun c v=>GalS st v∧Rs κ a b out.size c)
    (fun y c v=>GalS st v∧c.1=none∧Jl κ a b c.2.1 c.2.2.1 c.2.2.2.1∧out.size+y<c.2.1.size) ?_ ?_ ⟨gv,rfl,j2,hM⟩) ?_)
   ·rintro y ⟨_,out3,ia3,ib3,mg3,k1,k2⟩ v3 _ hy ⟨g3,rfl,j3,h3⟩;have h3:out.size+y<out3.size:=h3;have upD:∀{c:T2}{v:SortSt},Ps2 κ a b st (out.size+(y+1)) (.done c) v→GalS st v∧Rs κ a b out.size c:=by
     rintro c v ⟨g,h⟩;refine⟨g,?_⟩
     rcases h with h | ⟨h1,h2,h3⟩
     ·exact .inl h
     ·exact .inr ⟨h1,h2,by omega⟩
    show wpS (model prog w) A E s (if mg3 > 1 then lo1 a b out3 ia3 ib3 (mg3-1) k1 k2 else lo1 a b out3 ia3 ib3 mg3 k1 k2) _ v3
    split
    ·refine yD (o0 (N:=out.size+(y+1)) hc kn C g3 j3 (by omega)) fun r v h=>?_;cases r with
     |done c=>exact upD h
     |yield c=>exact h
    ·refine yD (o0 (N:=out.size+(y+1)) hc kn C g3 j3 (by omega)) fun r v h=>?_;cases r with
     |done c=>exact upD h
     |yield c=>exact h
   ·rintro⟨_,out3,ia3,ib3,mg3,k1,k2⟩ v3 ⟨g3,rfl,j3,h3⟩;have h3:out.size+max 0 (a.size+b.size)<out3.size:=h3;have i1:ia3+1<a.size:=j3.ia1;have i2:ib3<b.size:=j3.ib1;have sz:out3.size=ia3+ib3:=j3.sz;omega
   ·rintro⟨r,out3,ia3,ib3,mg3,k1,k2⟩ v3 ⟨g3,h⟩
    rcases h with⟨m,e,gm⟩|⟨e,j3,h3⟩
    ·have e:r=some m:=e;subst e;exact wN ⟨g3,m,rfl,gm⟩
    ·have e:r=none:=e;subst e;have h3:out.size<out3.size:=h3;dsimp only;rw[Ys];exact wQ (zy (wN ⟨g3.set _,rfl,j3,by show x+1<out3.size;omega⟩))
 ·rintro⟨_,z9,ia2,ib2,mg⟩ v ⟨gv,rfl,j2,hM⟩;have hM:max 0 (a.size+b.size)<z9.size:=hM;have i1:ia2+1<a.size:=j2.ia1;have i2:ib2<b.size:=j2.ib1;have sz:z9.size=ia2+ib2:=j2.sz;omega
 ·rintro⟨r,z9,ia2,ib2,mg⟩ v ⟨gv,m,e,gm⟩;have e:r=some m:=e;subst e;exact wN (fin m v gv gm)
end
end L2T
namespace L2T
open PySem PySem.Spec PyProof.Rows L2
def dX:Array Keyed→Array Keyed→StateT SortSt Sem (Array Keyed):=sortPriv% PySem.Builtin.mergeHi
theorem gC(a b:Array Keyed):dX a b=(do
 rule "list.sort.merge-hi"
 let total:=a.size+b.size
 let done (out:Array Keyed) (na nb:Nat):=a.extract 0 na++b.extract 0 nb++out.reverse
 let firstOfB (out:Array Keyed) (na nb:Nat):=b.extract 0 nb++a.extract 0 na++out.reverse
 let mut na:=a.size-1
 let mut nb:=b.size
 let mut out:Array Keyed:=#[←elem' a na]
 if na==0 then return done out na nb
 if nb==1 then return firstOfB out na nb
 let mut Am:=gallopOf (←get)
 for _ in [0:total] do
  let mut acount:=0
  let mut bcount:=0
  for _ in [0:total] do
   let some aWins ←lt' (←elem' b (nb-1)) (←elem' a (na-1)) | return done out na nb
   if aWins then
    na:=na-1;out:=out.push (←elem' a na);acount:=acount+1;bcount:=0
    if na==0 then return done out na nb
    if acount ≥ Am then break
   else
    nb:=nb-1;out:=out.push (←elem' b nb);bcount:=bcount+1;acount:=0
    if nb==1 then return firstOfB out na nb
    if bcount ≥ Am then break
  rule "list.sort.gallop"
  Am:=Am+1
  for _ in [0:total] do
   if Am > 1 then Am:=Am-1
   aI Am
   let some at_ ←aP false (←elem' b (nb-1)) a 0 na (na-1) | return done out na nb
   let k:=na-at_
   acount:=k
   if k > 0 then
    out:=out++(a.extract at_ na).reverse;na:=at_
    if na==0 then return done out na nb
   nb:=nb-1;out:=out.push (←elem' b nb)
   if nb==1 then return firstOfB out na nb
   let some at_ ←aP true (←elem' a (na-1)) b 0 nb (nb-1) | return done out na nb
   let k:=nb-at_
   bcount:=k
   if k > 0 then
    out:=out++(b.extract at_ nb).reverse;nb:=at_
    if nb==1 then return firstOfB out na nb
    if nb==0 then return done out na nb
   na:=na-1;out:=out.push (←elem' a na)
   if na==0 then return done out na nb
   if acount<7 && bcount<7 then break
  Am:=Am+1
  aI Am
 unsupported "internal:list.sort.merge-bound"):=rfl
section
variable{prog:Program}{w:World}{A:Around}{E:Value→Shared→Prop}{s:Shared}{κ:KeyKind}{kd:SortKind}{st:SortSt}
theorem O4{xs:Array Keyed}{i:Nat}(h:i<xs.size):xs.toList.take (i+1)=xs.toList.take i++[xs[i]]:=by
 rw[zI,wI,wC h];rfl
theorem T4(xs:Array Keyed)(n:Nat):(xs.extract 0 n).toList=xs.toList.take n:=by
 rw[zd,yH];rfl
theorem gM(xs:Array Keyed)(i n:Nat):(xs.extract i n).toList=(xs.toList.take n).drop i:=by
 rw[zd,yH,List.drop_take]
theorem Sx{l:List Keyed}{i n:Nat}(h:i≤n):l.take n=l.take i++(l.take n).drop i:=by
 have e:=xM i (l.take n);rw[List.take_take,y3 h]at e;exact e.symm
theorem Vr{xs:Array Keyed}{n:Nat}{y:Keyed}(h:y∈xs.toList.take n):∃j,xs[j]?=some y∧j<n∧j<xs.size:=by
 obtain⟨j,hj⟩:=xL.mp h;rw[xT]at hj
 split at hj
 ·next c=>
  rw[wI]at hj;exact⟨j,hj,c,(yU.mp hj).1⟩
 ·cases hj
theorem jG{xs:Array Keyed}{i n:Nat}{y:Keyed}(h:y∈(xs.toList.take n).drop i):∃j,xs[j]?=some y∧i≤j∧j<n∧j<xs.size:=by
 obtain⟨j,hj⟩:=xL.mp h;rw[x5,xT]at hj
 split at hj
 ·next c=>
  rw[wI]at hj;exact⟨i+j,hj,by omega,c,(yU.mp hj).1⟩
 ·cases hj
abbrev dnH(a b out:Array Keyed)(na nb:Nat):Array Keyed:=a.extract 0 na++b.extract 0 nb++out.reverse
abbrev fbH(a b out:Array Keyed)(na nb:Nat):Array Keyed:=b.extract 0 nb++a.extract 0 na++out.reverse
abbrev H2:Type:=Option (Array Keyed)×Nat×Nat×Array Keyed×Nat×Nat×Nat
abbrev H1:Type:=Option (Array Keyed)×Nat×Nat×Array Keyed×Nat×Nat
abbrev H0:Type:=Option (Array Keyed)×Nat×Nat×Array Keyed×Nat
def hi3(a b out:Array Keyed)(na nb mg k1 k2:Nat):StateT SortSt Sem (ForInStep H2):=do
 let x ←elem' a (na-1)
 if (na-1==0)=true then pure (.done (some (dnH a b (out.push x) (na-1) nb),na-1,nb,out.push x,mg,k1,k2))
 else if (decide (k1<7) && decide (k2<7))=true then pure (.done (none,na-1,nb,out.push x,mg,k1,k2))
 else pure (.yield (none,na-1,nb,out.push x,mg,k1,k2))
def hi2(a b out:Array Keyed)(na nb mg k1 k20:Nat):StateT SortSt Sem (ForInStep H2):=do
 let x ←elem' b (nb-1)
 if (nb-1==1)=true then pure (.done (some (fbH a b (out.push x) na (nb-1)),na,nb-1,out.push x,mg,k1,k20))
 else do
  let y ←elem' a (na-1)
  let r ←aP true y b 0 (nb-1) (nb-1-1)
  match r with
  |some k=>
   if nb-1-k > 0 then
    if (k==1)=true then pure (.done (some (fbH a b (out.push x++(b.extract k (nb-1)).reverse) na k),na,k,out.push x++(b.extract k (nb-1)).reverse,mg,k1,nb-1-k))
    else if (k==0)=true then pure (.done (some (dnH a b (out.push x++(b.extract k (nb-1)).reverse) na k),na,k,out.push x++(b.extract k (nb-1)).reverse,mg,k1,nb-1-k))
    else hi3 a b (out.push x++(b.extract k (nb-1)).reverse) na k mg k1 (nb-1-k)
   else hi3 a b (out.push x) na (nb-1) mg k1 (nb-1-k)
  |_=>pure (.done (some (dnH a b (out.push x) na (nb-1)),na,nb-1,out.push x,mg,k1,k20))
def hi1(a b out:Array Keyed)(na nb mg k10 k20:Nat):StateT SortSt Sem (ForInStep H2):=do
 aI mg
 let x ←elem' b (nb-1)
 let r ←aP false x a 0 na (na-1)
 match r with
 |some k=>
  if na-k > 0 then
   if (k==0)=true then pure (.done (some (dnH a b (out++(a.extract k na).reverse) k nb),k,nb,out++(a.extract k na).reverse,mg,na-k,k20))
   else hi2 a b (out++(a.extract k na).reverse) k nb mg (na-k) k20
  else hi2 a b out na nb mg (na-k) k20
 |_=>pure (.done (some (dnH a b out na nb),na,nb,out,mg,k10,k20))
structure HiC(κ:KeyKind)(a b:Array Keyed):Prop where
 ha:KeysOf κ a
 hb:KeysOf κ b
 sa:Srt κ a.toList
 sb:Srt κ b.toList
 h0:∀x∈b.toList.take 1,∀y∈a.toList,leK κ x y
structure Jh(κ:KeyKind)(a b out:Array Keyed)(na nb:Nat):Prop where
 mi:Mh κ (a.toList++b.toList) out.toList.reverse (a.toList.take na) (b.toList.take nb)
 na1:0<na
 na2:na<a.size
 nb1:1<nb
 nb2:nb≤b.size
 sz:out.size+na+nb=a.size+b.size
def RsH(κ:KeyKind)(a b:Array Keyed)(N:Nat)(c:H2):Prop:=(∃r,c.1=some r∧Mgd κ a b r)∨(c.1=none∧Jh κ a b c.2.2.2.1 c.2.1 c.2.2.1∧N<c.2.2.2.1.size)
def PsH(κ:KeyKind)(a b:Array Keyed)(st:SortSt)(N:Nat):ForInStep H2→SortSt→Prop:=fun r u=>GalS st u∧match r with
 |.done c=>RsH κ a b N c
 |.yield c=>c.1=none∧Jh κ a b c.2.2.2.1 c.2.1 c.2.2.1∧N<c.2.2.2.1.size
theorem Rx{a b out:Array Keyed}{na nb:Nat}(h:Mh κ (a.toList++b.toList) out.toList.reverse (a.toList.take na) (b.toList.take nb))(e:na=0∨nb=0):Mgd κ a b (dnH a b out na nb):=by
 have q:=h.fin fun x hx y hy=>by
  rcases e with rfl | rfl
  ·rw[List.take_zero]at hx;cases hx
  ·rw[List.take_zero]at hy;cases hy
 unfold Mgd dnH;rw[xN,xN,T4,T4,zP];exact q
theorem Os{a b out:Array Keyed}{na nb:Nat}(C:HiC κ a b)(h:Mh κ (a.toList++b.toList) out.toList.reverse (a.toList.take na) (b.toList.take nb))(e:nb=1):Mgd κ a b (fbH a b out na nb):=by
 subst e;have q:=h.sw.fin fun x hx y hy=>C.h0 x hx y (yj hy);unfold Mgd fbH;rw[xN,xN,T4,T4,zP];exact q
theorem sq{a b out:Array Keyed}{na nb:Nat}(h:Mh κ (a.toList++b.toList) out.toList.reverse (a.toList.take na) (b.toList.take nb))(h0:0<nb)(hb:nb≤b.size)(hl:∀y∈a.toList.take na,leK κ y (b[nb-1]'(by omega))):Mh κ (a.toList++b.toList) (out.push (b[nb-1]'(by omega))).toList.reverse (a.toList.take na) (b.toList.take (nb-1)):=by
 have e:=O4 (xs:=b) (i:=nb-1) (by omega);rw[show nb-1+1=nb by omega]at e;rw[e]at h;rw[yO,List.reverse_append];exact h.b fun x hx y hy=>by rw[wR.mp hx];exact hl y hy
theorem pC{a b out:Array Keyed}{na nb:Nat}(h:Mh κ (a.toList++b.toList) out.toList.reverse (a.toList.take na) (b.toList.take nb))(h0:0<na)(ha:na≤a.size)(hl:∀y∈b.toList.take nb,leK κ y (a[na-1]'(by omega))):Mh κ (a.toList++b.toList) (out.push (a[na-1]'(by omega))).toList.reverse (a.toList.take (na-1)) (b.toList.take nb):=by
 have e:=O4 (xs:=a) (i:=na-1) (by omega);rw[show na-1+1=na by omega]at e;rw[e]at h;rw[yO,List.reverse_append];exact h.a fun x hx y hy=>by rw[wR.mp hx];exact hl y hy
theorem nI{a b out:Array Keyed}{na nb mg k1 k2 N:Nat}{u:SortSt}(C:HiC κ a b)(gu:GalS st u)(j:Jh κ a b out na nb)(hN:N≤out.size)(hl:∀y∈b.toList.take nb,leK κ y (a[na-1]'(by have:=j.na1;have:=j.na2;omega))):wpS (model prog w) A E s (hi3 a b out na nb mg k1 k2) (PsH κ a b st N) u:=by
 have i1:=j.na1;have i2:=j.na2;unfold hi3;rw[Y7 (show na-1<a.size by omega)];refine wQ (wN ?_);have m:=pC j.mi i1 (by omega) hl;have sz:=j.sz;have zz:(out.push (a[na-1]'(by omega))).size=out.size+1:=yF _;by_cases c:na-1=0
 ·rw[wM (by rw[xn];exact c)];exact wN ⟨gu,.inl ⟨_,rfl,Rx m (.inl c)⟩⟩
 ·rw[wK (by rw[xn];exact c)];have j2:Jh κ a b (out.push (a[na-1]'(by omega))) (na-1) nb:=⟨m,by omega,by omega,j.nb1,j.nb2,by rw[zz];omega⟩
  split
  ·exact wN ⟨gu,.inr ⟨rfl,j2,by show N<(out.push _).size;omega⟩⟩
  ·exact wN ⟨gu,rfl,j2,by show N<(out.push _).size;omega⟩
theorem oA{a b out:Array Keyed}{na nb mg k1 k2 N:Nat}{u:SortSt}(hc:aM prog w A s κ kd)(kn:kindOf st=kd)(C:HiC κ a b)(gu:GalS st u)(j:Jh κ a b out na nb)(hN:N≤out.size)(hl:∀y∈a.toList.take na,leK κ y (b[nb-1]'(by have:=j.nb1;have:=j.nb2;omega))):wpS (model prog w) A E s (hi2 a b out na nb mg k1 k2) (PsH κ a b st N) u:=by
 have i1:=j.na1;have i2:=j.na2;have i3:=j.nb1;have i4:=j.nb2;unfold hi2;rw[Y7 (show nb-1<b.size by omega)];refine wQ (wN ?_);have m:=sq j.mi (by omega) i4 hl;have sz:=j.sz;have zz:(out.push (b[nb-1]'(by omega))).size=out.size+1:=yF _;by_cases c:nb-1=1
 ·rw[wM (by rw[xn];exact c)];exact wN ⟨gu,.inl ⟨_,rfl,Os C m c⟩⟩
 rw[wK (by rw[xn];exact c),Y7 (show na-1<a.size by omega)];refine wQ (wN ?_);refine wQ (Xr hc (gu.kn.trans kn) C.hb (Xo C.ha (show na-1<a.size by omega)) (by omega) (by omega) (C.sb.sublist ((yM _ _).trans (zJ _ _))) fun k hk g1 g2=>?_);have gea:∀x∈(b.toList.take (nb-1)).drop k,∀y∈a.toList.take na,leK κ y x:=by
  intro x hx y hy;obtain⟨i,hi,ki,ib,_⟩:=jG hx;have q:κ.blt (ky κ x) (ky κ a[na-1])=false:=g2 i x ki ib (by rw[zA];exact hi);obtain⟨n,hn,nn,_⟩:=Vr hy;have q2:leK κ a[na-1] x:=q;refine leK.trans (C.sa.at (i:=n) (j:=na-1) (by omega) ?_ ?_) q2
  ·rw[wI];exact hn
  ·rw[wI];exact wC _
 have lta:∀y∈b.toList.take k,leK κ y a[na-1]:=by
  intro y hy;obtain⟨n,hn,nn,_⟩:=Vr hy;have q:κ.blt (ky κ y) (ky κ a[na-1])=true:=g1 n y nn (by rw[zA];exact hn);exact leK.of q
 dsimp only;have m2:Mh κ (a.toList++b.toList) (out.push (b[nb-1]'(by omega))++(b.extract k (nb-1)).reverse).toList.reverse (a.toList.take na) (b.toList.take k):=by
  rw[xN,List.reverse_append,zP,List.reverse_reverse,gM];rw[Sx (l:=b.toList) hk]at m;exact m.b gea
 have z2:(out.push (b[nb-1]'(by omega))++(b.extract k (nb-1)).reverse).size=out.size+1+(nb-1-k):=by
  rw[Array.size_append,Array.size_reverse,yV,zz];omega
 by_cases k0:nb-1-k > 0
 ·rw[wM k0];by_cases c2:k=1
  ·rw[wM (by rw[xn];exact c2)];exact wN ⟨gu,.inl ⟨_,rfl,Os C m2 c2⟩⟩
  rw[wK (by rw[xn];exact c2)];by_cases c3:k=0
  ·rw[wM (by rw[xn];exact c3)];exact wN ⟨gu,.inl ⟨_,rfl,Rx m2 (.inr c3)⟩⟩
  ·rw[wK (by rw[xn];exact c3)];exact nI C gu ⟨m2,i1,i2,by omega,by omega,by rw[z2];omega⟩ (by omega) lta
 ·rw[wK k0];obtain rfl:k=nb-1:=by omega
  exact nI C gu ⟨m,i1,i2,by omega,by omega,by rw[zz];omega⟩ (by omega) lta
theorem pV{a b out:Array Keyed}{na nb mg k1 k2 N:Nat}{u:SortSt}(hc:aM prog w A s κ kd)(kn:kindOf st=kd)(C:HiC κ a b)(gu:GalS st u)(j:Jh κ a b out na nb)(hN:N≤out.size):wpS (model prog w) A E s (hi1 a b out na nb mg k1 k2) (PsH κ a b st N) u:=by
 have i1:=j.na1;have i2:=j.na2;have i3:=j.nb1;have i4:=j.nb2;have sz:=j.sz;have m:=j.mi;unfold hi1;rw[Ys];refine wQ (zy ?_);have gu:=gu.set mg;rw[Y7 (show nb-1<b.size by omega)];refine wQ (wN ?_);refine wQ (Xr hc (gu.kn.trans kn) C.ha (Xo C.hb (show nb-1<b.size by omega)) (by omega) (by omega) (C.sa.sublist ((yM _ _).trans (zJ _ _))) fun k hk g1 g2=>?_);have gtb:∀x∈(a.toList.take na).drop k,∀y∈b.toList.take nb,leK κ y x:=by
  intro x hx y hy;obtain⟨i,hi,ki,ib,_⟩:=jG hx;have q:=g2 i x ki ib (by rw[zA];exact hi);unfold bey at q;rw[wK wJ,Bool.not_eq_false']at q;obtain⟨n,hn,nn,_⟩:=Vr hy;refine leK.trans (C.sb.at (i:=n) (j:=nb-1) (by omega) ?_ ?_) (leK.of q)
  ·rw[wI];exact hn
  ·rw[wI];exact wC _
 have leb:∀y∈a.toList.take k,leK κ y b[nb-1]:=by
  intro y hy;obtain⟨n,hn,nn,_⟩:=Vr hy;have q:=g1 n y nn (by rw[zA];exact hn);unfold bey at q;rw[wK wJ,yP]at q;exact q
 dsimp only;have m2:Mh κ (a.toList++b.toList) (out++(a.extract k na).reverse).toList.reverse (a.toList.take k) (b.toList.take nb):=by
  rw[xN,List.reverse_append,zP,List.reverse_reverse,gM];rw[Sx (l:=a.toList) hk]at m;exact m.a gtb
 have z2:(out++(a.extract k na).reverse).size=out.size+(na-k):=by
  rw[Array.size_append,Array.size_reverse,yV];omega
 by_cases k0:na-k > 0
 ·rw[wM k0];by_cases c2:k=0
  ·rw[wM (by rw[xn];exact c2)];exact wN ⟨gu,.inl ⟨_,rfl,Rx m2 (.inl c2)⟩⟩
  ·rw[wK (by rw[xn];exact c2)];exact oA hc kn C gu ⟨m2,by omega,by omega,i3,i4,by rw[z2];omega⟩ (by omega) leb
 ·rw[wK k0];obtain rfl:k=na:=by omega
  exact oA hc kn C gu j hN leb
theorem iP{a b:Array Keyed}{Q:Array Keyed→SortSt→Prop}(hc:aM prog w A s κ kd)(kn:kindOf st=kd)(C:HiC κ a b)(a1:0<a.size)(b1:0<b.size)(h1:∀y∈b.toList,leK κ y (a[a.size-1]'(by omega)))(fin:∀(m:Array Keyed) (u:SortSt),GalS st u→Mgd κ a b m→Q m u):wpS (model prog w) A E s (dX a b) Q st:=by
 rw[gC];refine wQ (m:=liftM (rule _)) (wpS_lift (yQ ⟨rfl,?_⟩));dsimp only;rw[Y7 (show a.size-1<a.size by omega)];refine wQ (wN ?_);have m0:Mh κ (a.toList++b.toList) (#[]:Array Keyed).toList.reverse (a.toList.take a.size) (b.toList.take b.size):=by
  rw[xK (by rw[wG];exact pi _),xK (by rw[wG];exact pi _)];exact⟨by rw[List.reverse_nil,xF],List.Pairwise.nil,C.sa,C.sb,fun _ _ _ h=>nomatch h⟩
 have m1:Mh κ (a.toList++b.toList) #[a[a.size-1]].toList.reverse (a.toList.take (a.size-1)) (b.toList.take b.size):=pC m0 a1 (pi _) fun y hy=>h1 y (yj hy);by_cases c:a.size-1=0
 ·rw[wM (by rw[xn];exact c)];exact wN (fin _ _ .refl (Rx m1 (.inl c)))
 rw[wK (by rw[xn];exact c)];by_cases c2:b.size=1
 ·rw[wM (by rw[xn];exact c2)];exact wN (fin _ _ .refl (Os C m1 c2))
 rw[wK (by rw[xn];exact c2)];refine wQ (z7 ?_);have j1:Jh κ a b #[a[a.size-1]] (a.size-1) b.size:=⟨m1,by omega,by omega,by omega,by omega,by show 1+(a.size-1)+b.size=_;omega⟩;refine wQ (yD (x6 (β:=H0) (Q:=fun c u=>GalS st u∧∃r,c.1=some r∧Mgd κ a b r)
  (fun x c u=>GalS st u∧c.1=none∧Jh κ a b c.2.2.2.1 c.2.1 c.2.2.1∧x<c.2.2.2.1.size) ?_ ?_ ⟨.refl,rfl,j1,Nat.zero_lt_one⟩) ?_)
 ·rintro x ⟨_,na,nb,out,mg⟩ u _ hx ⟨gu,rfl,j,hN⟩;dsimp only;have hN:x<out.size:=hN;refine wQ (yD (x6 (β:=H1) (Q:=fun c v=>GalS st v∧((∃r,c.1=some r∧Mgd κ a b r)∨(c.1=none∧Jh κ a b c.2.2.2.1 c.2.1 c.2.2.1∧out.size<c.2.2.2.1.size)))
   (fun y c v=>GalS st v∧c.1=none∧Jh κ a b c.2.2.2.1 c.2.1 c.2.2.1∧out.size+y≤c.2.2.2.1.size) ?_ ?_ ⟨gu,rfl,j,pi _⟩) ?_)
  ·rintro y ⟨_,na2,nb2,z9,ac,bc⟩ v _ hy ⟨gv,rfl,j2,hM⟩;dsimp only;have hM:out.size+y≤z9.size:=hM;have i1:0<na2:=j2.na1;have i2:na2<a.size:=j2.na2;have i3:1<nb2:=j2.nb1;have i4:nb2≤b.size:=j2.nb2;have sz:z9.size+na2+nb2=a.size+b.size:=j2.sz;have mi2:Mh κ (a.toList++b.toList) z9.toList.reverse (a.toList.take na2) (b.toList.take nb2):=j2.mi;rw[Y7 (show nb2-1<b.size by omega),Y7 (show na2-1<a.size by omega)];refine wQ (wN (wQ (wN (wQ (Qa hc (gv.kn.trans kn) (Xo C.hb (show nb2-1<b.size by omega)) (Xo C.ha (show na2-1<a.size by omega)) ?_)))));dsimp only
   rcases bl:κ.blt (ky κ b[nb2-1]) (ky κ a[na2-1])with _ | _
   ·rw[wK wJ];refine wQ (wN ?_);have m:=sq mi2 (by omega) i4 fun z hz=>by
     obtain⟨n,hn,nn,_⟩:=Vr hz;have q:leK κ a[na2-1] b[nb2-1]:=bl;refine leK.trans (C.sa.at (i:=n) (j:=na2-1) (by omega) ?_ ?_) q
     ·rw[wI];exact hn
     ·rw[wI];exact wC _
    have zz:(z9.push (b[nb2-1]'(by omega))).size=z9.size+1:=yF _;by_cases d:nb2-1=1
    ·rw[wM (by rw[xn];exact d)];exact wN ⟨gv,.inl ⟨_,rfl,Os C m d⟩⟩
    ·rw[wK (by rw[xn];exact d)];have j3:Jh κ a b (z9.push (b[nb2-1]'(by omega))) na2 (nb2-1):=⟨m,i1,i2,by omega,by omega,by rw[zz];omega⟩
     split
     ·exact wN ⟨gv,.inr ⟨rfl,j3,by show _<(z9.push _).size;omega⟩⟩
     ·exact wN ⟨gv,rfl,j3,by show _≤(z9.push _).size;omega⟩
   ·rw[wM rfl];refine wQ (wN ?_);have m:=pC mi2 i1 (by omega) fun z hz=>by
     obtain⟨n,hn,nn,_⟩:=Vr hz;have q:leK κ b[nb2-1] a[na2-1]:=leK.of bl;refine leK.trans (C.sb.at (i:=n) (j:=nb2-1) (by omega) ?_ ?_) q
     ·rw[wI];exact hn
     ·rw[wI];exact wC _
    have zz:(z9.push (a[na2-1]'(by omega))).size=z9.size+1:=yF _;by_cases d:na2-1=0
    ·rw[wM (by rw[xn];exact d)];exact wN ⟨gv,.inl ⟨_,rfl,Rx m (.inl d)⟩⟩
    ·rw[wK (by rw[xn];exact d)];have j3:Jh κ a b (z9.push (a[na2-1]'(by omega))) (na2-1) nb2:=⟨m,by omega,by omega,i3,i4,by rw[zz];omega⟩
     split
     ·exact wN ⟨gv,.inr ⟨rfl,j3,by show _<(z9.push _).size;omega⟩⟩
     ·exact wN ⟨gv,rfl,j3,by show _≤(z9.push _).size;omega⟩
  ·rintro⟨_,na2,nb2,z9,ac,bc⟩ v ⟨gv,rfl,j2,hM⟩;have hM:out.size+max 0 (a.size+b.size)≤z9.size:=hM;have i1:0<na2:=j2.na1;have sz:z9.size+na2+nb2=a.size+b.size:=j2.sz;omega
  ·rintro⟨r,na2,nb2,z9,ac,bc⟩ v ⟨gv,h⟩
   rcases h with⟨m,e,gm⟩|⟨e,j2,hM⟩
   ·have e:r=some m:=e;subst e;exact wN ⟨gv,m,rfl,gm⟩
   have e:r=none:=e;subst e;have hM:out.size<z9.size:=hM;refine wQ (m:=liftM (rule _)) (wpS_lift (yQ ⟨rfl,?_⟩));refine wQ (yD (x6 (β:=H2) (Q:=fun c v=>GalS st v∧RsH κ a b out.size c)
    (fun y c v=>GalS st v∧c.1=none∧Jh κ a b c.2.2.2.1 c.2.1 c.2.2.1∧out.size+y<c.2.2.2.1.size) ?_ ?_ ⟨gv,rfl,j2,hM⟩) ?_)
   ·rintro y ⟨_,na3,nb3,out3,mg3,k1,k2⟩ v3 _ hy ⟨g3,rfl,j3,h3⟩;have h3:out.size+y<out3.size:=h3;have upD:∀{c:H2}{v:SortSt},PsH κ a b st (out.size+(y+1)) (.done c) v→GalS st v∧RsH κ a b out.size c:=by
     rintro c v ⟨g,h⟩;refine⟨g,?_⟩
     rcases h with h | ⟨h1,h2,h3⟩
     ·exact .inl h
     ·exact .inr ⟨h1,h2,by omega⟩
    show wpS (model prog w) A E s (if mg3 > 1 then hi1 a b out3 na3 nb3 (mg3-1) k1 k2 else hi1 a b out3 na3 nb3 mg3 k1 k2) _ v3
    split
    ·refine yD (pV (N:=out.size+(y+1)) hc kn C g3 j3 (by omega)) fun r v h=>?_;cases r with
     |done c=>exact upD h
     |yield c=>exact h
    ·refine yD (pV (N:=out.size+(y+1)) hc kn C g3 j3 (by omega)) fun r v h=>?_;cases r with
     |done c=>exact upD h
     |yield c=>exact h
   ·rintro⟨_,na3,nb3,out3,mg3,k1,k2⟩ v3 ⟨g3,rfl,j3,h3⟩;have h3:out.size+max 0 (a.size+b.size)<out3.size:=h3;have sz:out3.size+na3+nb3=a.size+b.size:=j3.sz;omega
   ·rintro⟨r,na3,nb3,out3,mg3,k1,k2⟩ v3 ⟨g3,h⟩
    rcases h with⟨m,e,gm⟩|⟨e,j3,h3⟩
    ·have e:r=some m:=e;subst e;exact wN ⟨g3,m,rfl,gm⟩
    ·have e:r=none:=e;subst e;have h3:out.size<out3.size:=h3;dsimp only;rw[Ys];exact wQ (zy (wN ⟨g3.set _,rfl,j3,by show x+1<out3.size;omega⟩))
 ·rintro⟨_,na2,nb2,z9,mg⟩ v ⟨gv,rfl,j2,hM⟩;have hM:max 0 (a.size+b.size)<z9.size:=hM;have sz:z9.size+na2+nb2=a.size+b.size:=j2.sz;omega
 ·rintro⟨r,na2,nb2,z9,mg⟩ v ⟨gv,m,e,gm⟩;have e:r=some m:=e;subst e;exact wN (fin m v gv gm)
end
end L2T
namespace L2T
open PySem PySem.Spec PyProof.Rows L2
theorem qA(off:Nat):∀(m:List Keyed)(n:Nat)(arr:Array Keyed),off+n+m.length≤arr.size→
  ((m.zipIdx n).foldl (fun a (x:Keyed×Nat)=>a.setIfInBounds (off+x.2) x.1) arr).toList=arr.toList.take (off+n)++m++arr.toList.drop (off+n+m.length):=by
 intro m
 induction m with
 |nil=>
  intro n arr h;rw[List.zipIdx_nil,List.foldl_nil,xF,yZ,Nat.add_zero,xM]
 |cons p m ih=>
  intro n arr h;rw[xq]at h;rw[List.zipIdx_cons,List.foldl_cons,ih (n+1) _ (by rw[Array.size_setIfInBounds];omega),Array.toList_setIfInBounds];have e1:(arr.toList.set (off+n) p).take (off+(n+1))=arr.toList.take (off+n)++[p]:=by
   rw[←zf,zI,List.getElem?_set_self (by rw[wG];omega),List.take_set_of_le (pi _)];rfl
  have e2:(arr.toList.set (off+n) p).drop (off+(n+1)+m.length)=arr.toList.drop (off+n+(p::m).length):=by
   rw[List.drop_set_of_lt (by omega),xq]
   congr 1
   omega
  rw[e1,e2,xw (arr.toList.take (off+n)) [p] m];rfl
theorem Wj(l:List Keyed)(i k m:Nat):(l.drop i).take (k+m)=(l.drop i).take k++(l.drop (i+k)).take m:=by
 rw[List.take_add,zN]
theorem nE{arr:Array Keyed}{i n j:Nat}(hj:j<n)(h:i+j<arr.size):((arr.toList.drop i).take n)[j]?=some arr[i+j]:=by
 rw[xT,wM hj,x5,wI];exact wC h
theorem Ou(xs:Array Keyed)(i j:Nat):(xs.extract i j).toList=(xs.toList.drop i).take (j-i):=by
 rw[zd,yH]
def gq(i:Nat):StateT SortSt Sem Bool:=do
 let s ←get
 let (some (sa,na,power),some (sb,nb,_)):=((pendingOf s)[i]?,(pendingOf s)[i+1]?) | unsupported "internal:list.sort.pending"
 set (setPending s (((pendingOf s).setIfInBounds i (sa,na+nb,power)).eraseIdxIfInBounds (i+1)))
 let some k ←aP false (←elem' (arrOf s) sb) (arrOf s) sa na 0 | return false
 let (sa,na):=(sa+k,na-k)
 if na==0 then return true
 let some nb ←aP true (←elem' (arrOf s) (sa+na-1)) (arrOf s) sb nb (nb-1) | return false
 if nb==0 then return true
 let x:=(arrOf s).extract sa sb
 let y:=(arrOf s).extract sb (sb+nb)
 let merged ←if na≤nb then dQ x y else dX x y
 modify fun s=>setArr s (merged.toList.zipIdx.foldl (fun a (p,j)=>a.setIfInBounds (sa+j) p) (arrOf s))
 return (failedOf (←get)).isNone
theorem gH(i:Nat):mergeAt' i=gq i:=rfl
section
variable{prog:Program}{w:World}{A:Around}{E:Value→Shared→Prop}{s:Shared}{κ:KeyKind}{kd:SortKind}{st:SortSt}
theorem rA{σ:Type}{M:Model}{x:σ}{Q:PUnit→σ→Prop}{u:σ}(h:Q ⟨⟩ x):wpS M A E s (set x:StateT σ Sem PUnit) Q u:=by
 unfold wpS;rw[StateT.run_set];exact io ⟨rfl,h⟩
theorem Tb{xs:Array Keyed}(h:KeysOf κ xs)(i j:Nat):KeysOf κ (xs.extract i j):=fun p hp=>by
 rw[Ou]at hp;exact h p (zO (yj hp))
structure MAt(κ:KeyKind)(st u:SortSt)(i sa na nb pw:Nat):Prop where
 kn:kindOf u=kindOf st
 fl:failedOf u=none
 pd:pendingOf u=((pendingOf st).setIfInBounds i (sa,na+nb,pw)).eraseIdxIfInBounds (i+1)
 arr:∃M,(arrOf u).toList=(arrOf st).toList.take sa++M++(arrOf st).toList.drop (sa+na+nb)∧M.Perm (((arrOf st).toList.drop sa).take (na+nb))∧Srt κ M
theorem i_{i sa na nb pw pw2:Nat}{Q:Bool→SortSt→Prop}(hc:aM prog w A s κ kd)(kn:kindOf st=kd)(fl:failedOf st=none)(hk:KeysOf κ (arrOf st))(p1:(pendingOf st)[i]?=some (sa,na,pw))(p2:(pendingOf st)[i+1]?=some (sa+na,nb,pw2))(na1:0<na)(nb1:0<nb)(hs:sa+na+nb≤(arrOf st).size)(so1:Srt κ (((arrOf st).toList.drop sa).take na))(so2:Srt κ (((arrOf st).toList.drop (sa+na)).take nb))(fin:∀u,MAt κ st u i sa na nb pw→Q true u):wpS (model prog w) A E s (mergeAt' i) Q st:=by
 rw[gH];unfold gq;refine wQ (z7 ?_);rw[p1,p2];dsimp only;refine wQ (rA ?_);generalize hst':setPending st (((pendingOf st).setIfInBounds i (sa,na+nb,pw)).eraseIdxIfInBounds (i+1))=Aj;have kn':kindOf Aj=kd:=by rw[←hst'];exact kn
 have ar':arrOf Aj=arrOf st:=by rw[←hst']
 have fl':failedOf Aj=none:=by rw[←hst'];exact fl
 have pd':pendingOf Aj=((pendingOf st).setIfInBounds i (sa,na+nb,pw)).eraseIdxIfInBounds (i+1):=by rw[←hst']
 generalize hx:arrOf st=xs at hk hs so1 so2 ar'⊢;have done:∀(u:SortSt)(M:List Keyed),kindOf u=kd→failedOf u=none→pendingOf u=pendingOf Aj→(arrOf u).toList=xs.toList.take sa++M++xs.toList.drop (sa+na+nb)→M.Perm ((xs.toList.drop sa).take (na+nb))→Srt κ M→Q true u:=fun u M a1 a2 a3 a4 a5 a6=>
  fin u ⟨a1.trans kn.symm,a2,a3.trans pd',M,by rw[hx];exact a4,by rw[hx];exact a5,a6⟩
 have whole:xs.toList=xs.toList.take sa++((xs.toList.drop sa).take na++(xs.toList.drop (sa+na)).take nb)++xs.toList.drop (sa+na+nb):=by
  rw[←Wj,zf,←zN,xw,xM,xM]
 have asis:Srt κ ((xs.toList.drop sa).take na++(xs.toList.drop (sa+na)).take nb)→Q true Aj:=fun h=>
  done Aj _ kn' fl' rfl (by rw[ar'];exact whole) (by rw[Wj]) h
 have sb:sa+na<xs.size:=by omega
 rw[Y7 sb];refine wQ (wN ?_);have b0le:∀y∈(xs.toList.drop (sa+na)).take nb,leK κ xs[sa+na] y:=fun y hy=>by
  obtain⟨j,hj⟩:=xL.mp hy;exact so2.at (i:=0) (j:=j) (yc _) (nE nb1 sb) hj
 refine wQ (Xr hc kn' hk (Xo hk sb) na1 (by omega) so1 fun k hkn g1 g2=>?_);dsimp only;have f1:∀x∈(xs.toList.drop sa).take k,leK κ x xs[sa+na]:=fun x hx=>by
  obtain⟨j,hj,jk,_⟩:=Wh hx;have q:=g1 j x jk hj;unfold bey at q;rw[wK wJ,yP]at q;exact q
 have f2:∀x∈(xs.toList.drop (sa+k)).take (na-k),leK κ xs[sa+na] x:=fun x hx=>by
  obtain⟨j,hj,jk,_⟩:=Wh hx;have q:=g2 (k+j) x (by omega) (by omega) (by rw[←zf];exact hj);unfold bey at q;rw[wK wJ,Bool.not_eq_false']at q;exact leK.of q
 by_cases c:na-k=0
 ·rw[wM (by rw[xn];exact c)];obtain rfl:k=na:=by omega
  exact wN (asis (xx.mpr ⟨so1,so2,fun x hx y hy=>(f1 x hx).trans (b0le y hy)⟩))
 rw[wK (by rw[xn];exact c)];have el:sa+k+(na-k)-1=sa+na-1:=by omega
 have lt:sa+na-1<xs.size:=by omega
 rw[el,Y7 lt];refine wQ (wN ?_);have lale:∀x∈(xs.toList.drop sa).take na,leK κ x xs[sa+na-1]:=fun x hx=>by
  obtain⟨j,hj⟩:=xL.mp hx;have jl:=(wL.mp hj).1;rw[wT]at jl;refine so1.at (i:=j) (j:=na-1) (by omega) hj ?_;rw[nE (show na-1<na by omega) (show sa+(na-1)<xs.size by omega)]
  congr 1
  congr 1
  omega
 refine wQ (Xr hc kn' hk (Xo hk lt) (by omega) (by omega) so2 fun m hm g3 g4=>?_);dsimp only;have f3:∀x∈(xs.toList.drop (sa+na)).take m,leK κ x xs[sa+na-1]:=fun x hx=>by
  obtain⟨j,hj,jk,_⟩:=Wh hx;have q:κ.blt (ky κ x) (ky κ xs[sa+na-1])=true:=g3 j x jk hj;exact leK.of q
 have f4:∀x∈(xs.toList.drop (sa+na+m)).take (nb-m),leK κ xs[sa+na-1] x:=fun x hx=>by
  obtain⟨j,hj,jk,_⟩:=Wh hx;have q:κ.blt (ky κ x) (ky κ xs[sa+na-1])=false:=g4 (m+j) x (by omega) (by omega) (by rw[←zf];exact hj);exact q
 by_cases c2:m=0
 ·rw[wM (by rw[xn];exact c2)];subst c2;refine wN (asis (xx.mpr ⟨so1,so2,fun x hx y hy=>(lale x hx).trans (f4 y ?_)⟩));exact hy
 rw[wK (by rw[xn];exact c2)];have e1:(xs.toList.drop sa).take na=(xs.toList.drop sa).take k++(xs.toList.drop (sa+k)).take (na-k):=by
  rw[←Wj,Nat.add_sub_cancel' hkn]
 have e2:(xs.toList.drop (sa+na)).take nb=(xs.toList.drop (sa+na)).take m++(xs.toList.drop (sa+na+m)).take (nb-m):=by
  rw[←Wj,Nat.add_sub_cancel' hm]
 have x1:(xs.extract (sa+k) (sa+na)).toList=(xs.toList.drop (sa+k)).take (na-k):=by
  rw[Ou,show sa+na-(sa+k)=na-k by omega]
 have y1:(xs.extract (sa+na) (sa+na+m)).toList=(xs.toList.drop (sa+na)).take m:=by
  rw[Ou,Nat.add_sub_cancel_left]
 have xz:(xs.extract (sa+k) (sa+na)).size=na-k:=by rw[yV];omega
 have yz:(xs.extract (sa+na) (sa+na+m)).size=m:=by rw[yV];omega
 rw[e1]at so1;rw[e2]at so2;have q1:=xx.mp so1;have q2:=xx.mp so2;have last:∀(mg:Array Keyed)(u:SortSt),GalS Aj u→Mgd κ (xs.extract (sa+k) (sa+na)) (xs.extract (sa+na) (sa+na+m)) mg→
   Q (failedOf (setArr u (mg.toList.zipIdx.foldl (fun a (x:Keyed×Nat)=>a.setIfInBounds (sa+k+x.2) x.1) (arrOf u)))).isNone (setArr u (mg.toList.zipIdx.foldl (fun a (x:Keyed×Nat)=>a.setIfInBounds (sa+k+x.2) x.1) (arrOf u))):=by
  rintro mg _ ⟨g,rfl⟩ ⟨pm,sm⟩;rw[x1,y1]at pm;have ml:mg.toList.length=na-k+m:=by
   have:=pm.length_eq;rw[wH,←x1,←y1,wG (xs:=xs.extract (sa+k) (sa+na)),wG (xs:=xs.extract (sa+na) (sa+na+m)),xz,yz]at this;exact this
  have e0:(failedOf (setArr (dC Aj g) (mg.toList.zipIdx.foldl (fun a (x:Keyed×Nat)=>a.setIfInBounds (sa+k+x.2) x.1) (arrOf (dC Aj g))))).isNone=true:=by
   show(failedOf Aj).isNone=true;rw[fl'];rfl
  rw[e0];have put:=qA (sa+k) mg.toList 0 xs (by rw[ml];omega);rw[ml,Nat.add_zero,show sa+k+(na-k+m)=sa+na+m by omega]at put;refine done _ ((xs.toList.drop sa).take k++mg.toList++(xs.toList.drop (sa+na+m)).take (nb-m)) kn' fl' rfl ?_ ?_ ?_
  ·show(mg.toList.zipIdx.foldl (fun a (x:Keyed×Nat)=>a.setIfInBounds (sa+k+x.2) x.1) (arrOf Aj)).toList=_;rw[ar',put,List.take_add,show sa+na+nb=sa+na+m+(nb-m) by omega,←zN (i:=nb-m) (j:=sa+na+m)];simp only[List.append_assoc];rw[xM]
  ·rw[Wj,e1,e2];simp only[List.append_assoc];refine List.Perm.append_left _ ?_;rw[←xw];exact pm.append_right _
  ·have inm:∀x,x∈mg.toList→x∈(xs.toList.drop (sa+k)).take (na-k)∨x∈(xs.toList.drop (sa+na)).take m:=fun x hx=>wY.mp (pm.mem_iff.mp hx);have ins:∀x,x∈(xs.toList.drop (sa+k)).take (na-k)→x∈(xs.toList.drop sa).take na:=fun x hx=>by rw[e1];exact wP _ hx
   have ink:∀x,x∈(xs.toList.drop sa).take k→x∈(xs.toList.drop sa).take na:=fun x hx=>by rw[e1];exact xv _ hx
   refine xx.mpr ⟨xx.mpr ⟨q1.1,sm,fun x hx y hy=>?_⟩,q2.2.1,fun x hx y hy=>?_⟩
   ·rcases inm y hy with h | h
    ·exact q1.2.2 x hx y h
    ·exact(f1 x hx).trans (b0le y (by rw[e2];exact xv _ h))
   ·rcases wY.mp hx with h | h
    ·exact(lale x (ink x h)).trans (f4 y hy)
    ·rcases inm x h with h | h
     ·exact(lale x (ins x h)).trans (f4 y hy)
     ·exact q2.2.2 x h y hy
 have fin2:∀(mg:Array Keyed)(u:SortSt),GalS Aj u→Mgd κ (xs.extract (sa+k) (sa+na)) (xs.extract (sa+na) (sa+na+m)) mg→
   wpS (model prog w) A E s (do
    modify fun s=>setArr s (mg.toList.zipIdx.foldl (fun a (x:Keyed×Nat)=>a.setIfInBounds (sa+k+x.2) x.1) (arrOf s))
    return (failedOf (←get)).isNone) Q u:=fun mg u gu gm=>wQ (zy (wQ (z7 (wN (last mg u gu gm)))))
 have y0:(xs.extract (sa+na) (sa+na+m))[0]'(by omega)=xs[sa+na]:=by
  rw[Array.getElem_extract];rfl
 have xl:(xs.extract (sa+k) (sa+na))[(xs.extract (sa+k) (sa+na)).size-1]'(by omega)=xs[sa+na-1]:=by
  rw[Array.getElem_extract]
  congr 1
  omega
 by_cases c3:na-k≤m
 ·rw[wM c3];refine wQ (hW hc kn' ⟨Tb hk _ _,Tb hk _ _,by rw[x1];exact q1.2.1,by rw[y1];exact q2.1,fun x hx y hy=>?_⟩ (by omega) (by omega) (fun y hy=>?_) fun mg u gu gm=>fin2 mg u gu gm)
  ·rw[Ow (by omega),yo (by rw[wG];omega),xF]at hy;rw[wR.mp hy,xl];rw[y1]at hx;exact f3 x hx
  ·rw[y0];rw[x1]at hy;exact f2 y hy
 ·rw[wK c3];refine wQ (iP hc kn' ⟨Tb hk _ _,Tb hk _ _,by rw[x1];exact q1.2.1,by rw[y1];exact q2.1,fun x hx y hy=>?_⟩ (by omega) (by omega) (fun y hy=>?_) fun mg u gu gm=>fin2 mg u gu gm)
  ·rw[show(1:Nat)=0+1 from rfl,O4 (by omega),List.take_zero,List.nil_append]at hx;rw[wR.mp hx,y0];rw[x1]at hy;exact f2 y hy
  ·rw[xl];rw[y1]at hy;exact f3 y hy
end
end L2T
namespace L2T
open PySem PySem.Spec PyProof.Rows L2
def oM(lo a n:Nat):StateT SortSt Sem AscSt:=forIn [a:n] ((none,a):AscSt) fun _ c=>do
 match ←ltAt' (lo+c.2) (lo+c.2-1) with
 |some b=>if b=true then pure (.done (none,c.2))else pure (.yield (none,c.2+1))
 |_=>pure (.done (some none,c.2))
def fj(lo m n:Nat):StateT SortSt Sem (Option Nat):=do
 reverseSlice' lo (lo+m)
 let c ←oM lo m n
 match c.1 with
 |some r=>pure r
 |none=>pure (some c.2)
def jt(lo m n:Nat):StateT SortSt Sem DescSt:=forIn [m:n] ((none,m,0):DescSt) fun _ c=>do
 match ←ltAt' (lo+c.2.1) (lo+c.2.1-1) with
 |some b=>
  if b=true then
   if c.2.2 > 0 then do
    reverseSlice' (lo+c.2.1-(c.2.2+1)) (lo+c.2.1)
    pure (.yield (none,c.2.1+1,0))
   else pure (.yield (none,c.2.1+1,0))
  else do
   match ←ltAt' (lo+c.2.1-1) (lo+c.2.1) with
   |some g=>if g=true then pure (.done (none,c.2.1,c.2.2))else pure (.yield (none,c.2.1+1,c.2.2+1))
   |_=>pure (.done (some none,c.2.1,c.2.2))
 |_=>pure (.done (some none,c.2.1,c.2.2))
def dR(lo m n:Nat):StateT SortSt Sem (Option Nat):=do
 liftM (rule "list.sort.descending-run")
 let c ←jt lo (m+1) n
 match c.1 with
 |some r=>pure r
 |none=>
  if c.2.2 > 0 then do
   reverseSlice' (lo+c.2.1-(c.2.2+1)) (lo+c.2.1)
   fj lo c.2.1 n
  else fj lo c.2.1 n
theorem bnd{σ α β:Type}{m m':StateT σ Sem α}{f g:α→StateT σ Sem β}(h:m=m')(h2:∀a,f a=g a):m >>= f=m' >>= g:=by
 subst h;rw[show f=g from funext h2]
theorem lI(lo n:Nat):countRun' lo n=(do
  let c ←oM lo 1 n
  match c.1 with
  |some r=>pure r
  |none=>
   if (c.2==n)=true then pure (some c.2)
   else if c.2 > 1 then do
    match ←ltAt' lo (lo+c.2-1) with
    |some b=>if b=true then pure (some c.2)else do
      reverseSlice' lo (lo+c.2)
      dR lo c.2 n
    |_=>pure none
   else dR lo c.2 n):=by
 rw[countRun'_eq];unfold dR fj jt oM;refine bnd rfl fun c=>?_;obtain⟨r,m⟩:=c;cases r with
 |some r=>rfl
 |none=>
  dsimp only
  split
  ·rfl
  ·split
   ·refine bnd rfl fun x=>?_;cases x with
    |none=>rfl
    |some b=>
     dsimp only
     split
     ·rfl
     ·refine bnd rfl fun _=>?_;refine bnd rfl fun _=>bnd rfl fun c2=>?_;obtain⟨r2,m2,q2⟩:=c2;cases r2 with
      |some r2=>rfl
      |none=>
       dsimp only
       split
       ·refine bnd rfl fun _=>?_;refine bnd rfl fun _=>bnd rfl fun c3=>?_;obtain⟨r3,m3⟩:=c3;cases r3 <;> rfl
       ·refine bnd rfl fun _=>bnd rfl fun c3=>?_;obtain⟨r3,m3⟩:=c3;cases r3 <;> rfl
   ·refine bnd rfl fun _=>bnd rfl fun c2=>?_;obtain⟨r2,m2,q2⟩:=c2;cases r2 with
    |some r2=>rfl
    |none=>
     dsimp only
     split
     ·refine bnd rfl fun _=>?_;refine bnd rfl fun _=>bnd rfl fun c3=>?_;obtain⟨r3,m3⟩:=c3;cases r3 <;> rfl
     ·refine bnd rfl fun _=>bnd rfl fun c3=>?_;obtain⟨r3,m3⟩:=c3;cases r3 <;> rfl
structure Sl(kd:SortKind)(Ak:SortSt)(lo:Nat)(u:SortSt):Prop where
 pm:(arrOf u).Perm (arrOf Ak)
 kn:kindOf u=kd
 pd:pendingOf u=pendingOf Ak
 fl:failedOf u=none
 lw:∀k,k<lo→(arrOf u)[k]?=(arrOf Ak)[k]?
def Rl(κ:KeyKind)(xs:Array Keyed)(lo n:Nat):Prop:=∀i j,i≤j→j<n→κ.blt (KK κ xs (lo+j)) (KK κ xs (lo+i))=false
def Fl'(κ:KeyKind)(xs:Array Keyed)(lo n:Nat):Prop:=∀i j,i≤j→j<n→κ.blt (KK κ xs (lo+i)) (KK κ xs (lo+j))=false
section
variable{prog:Program}{w:World}{A:Around}{E:Value→Shared→Prop}{s:Shared}{κ:KeyKind}{kd:SortKind}{Ak st:SortSt}{lo:Nat}
theorem Sl.sz(b:Sl kd Ak lo st):(arrOf st).size=(arrOf Ak).size:=b.pm.size_eq
theorem Sl.put(b:Sl kd Ak lo st){ys:Array Keyed}(p:ys.Perm (arrOf st))(h:∀k,k<lo→ys[k]?=(arrOf st)[k]?):Sl kd Ak lo (setArr st ys):=⟨p.trans b.pm,b.kn,b.pd,b.fl,fun k hk=>(h k hk).trans (b.lw k hk)⟩
theorem Sl.turn(b:Sl kd Ak lo st){i j:Nat}(hi:lo≤i)(hj:j≤(arrOf st).size):Sl kd Ak lo (setArr st (mirror (arrOf st) i j ((j-i) / 2))):=b.put (mirror_perm _ _ _ _) fun k hk=>by rw[getElem?_mirror_all hj,wK (by omega)]
theorem Rl.snoc{xs:Array Keyed}{m:Nat}(r:Rl κ xs lo m)(h1:1≤m)(h:κ.blt (KK κ xs (lo+m)) (KK κ xs (lo+m-1))=false):Rl κ xs lo (m+1):=by
 intro i j hij hj
 rcases xP j m with l | l
 ·exact r i j hij l
 obtain rfl:j=m:=by omega
 rcases xP i j with l2 | l2
 ·rw[show lo+j-1=lo+(j-1) by omega]at h;exact ltF (r i (j-1) (by omega) (by omega)) h
 ·obtain rfl:i=j:=by omega
  exact κ.irrefl _
theorem Fl'.snoc{xs:Array Keyed}{m:Nat}(r:Fl' κ xs lo m)(h1:1≤m)(h:κ.blt (KK κ xs (lo+m-1)) (KK κ xs (lo+m))=false):Fl' κ xs lo (m+1):=by
 intro i j hij hj
 rcases xP j m with l | l
 ·exact r i j hij l
 obtain rfl:j=m:=by omega
 rcases xP i j with l2 | l2
 ·rw[show lo+j-1=lo+(j-1) by omega]at h;exact ltF h (r i (j-1) (by omega) (by omega))
 ·obtain rfl:i=j:=by omega
  exact κ.irrefl _
theorem ug{xs:Array Keyed}:Rl κ xs lo 1:=fun i j hij hj=>by
 obtain rfl:i=j:=by omega
 exact κ.irrefl _
theorem one_Fl{xs:Array Keyed}:Fl' κ xs lo 1:=fun i j hij hj=>by
 obtain rfl:i=j:=by omega
 exact κ.irrefl _
theorem Fl'.same{xs ys:Array Keyed}{m:Nat}(r:Fl' κ xs lo m)(h:∀k,KK κ ys k=KK κ xs k):Fl' κ ys lo m:=fun i j hij hj=>by
 rw[h,h];exact r i j hij hj
theorem gi{i j:Nat}{Q:Option Bool→SortSt→Prop}(hc:aM prog w A s κ kd)(hk:KeysOf κ (arrOf Ak))(b:Sl kd Ak lo st)(hi:i<(arrOf Ak).size)(hj:j<(arrOf Ak).size)(q:Q (some (κ.blt (KK κ (arrOf st) i) (KK κ (arrOf st) j))) st):wpS (model prog w) A E s (ltAt' i j) Q st:=by
 have hk':KeysOf κ (arrOf st):=fun p hp=>hk p ((yW.mp b.pm).mem_iff.mp hp);have hi':i<(arrOf st).size:=by rw[b.sz];exact hi
 have hj':j<(arrOf st).size:=by rw[b.sz];exact hj
 rw[Px (wC hi'),Px (wC hj')]at q;rw[ltAt'_eq];refine wQ (z7 ?_);show wpS (model prog w) A E s (elem' (arrOf st) i >>= fun u=>elem' (arrOf st) j >>= fun v=>lt' u v) Q st;rw[Y7 hi',Y7 hj'];exact wQ (wN (wQ (wN (Qa hc b.kn (Xo hk' hi') (Xo hk' hj') q))))
theorem u7{a n:Nat}{Q:AscSt→SortSt→Prop}(hc:aM prog w A s κ kd)(hk:KeysOf κ (arrOf Ak))(hn:lo+n≤(arrOf Ak).size)(h1:1≤a)(h2:a≤n)(b:Sl kd Ak lo st)(r:Rl κ (arrOf st) lo a)(fin:∀m,a≤m→m≤n→Rl κ (arrOf st) lo m→(m<n→κ.blt (KK κ (arrOf st) (lo+m)) (KK κ (arrOf st) (lo+m-1))=true)→Q (none,m) st):wpS (model prog w) A E s (oM lo a n) Q st:=by
 unfold oM;refine x6 (fun i c u=>u=st∧c=(none,i)∧Rl κ (arrOf st) lo i) ?_ ?_ ⟨rfl,rfl,r⟩
 ·rintro i _ _ h3 h4 ⟨rfl,rfl,r'⟩;refine wQ (gi hc hk b (by show lo+i<_;omega) (by show lo+i-1<_;omega) ?_);dsimp only
  rcases e:κ.blt (KK κ (arrOf _) (lo+i)) (KK κ (arrOf _) (lo+i-1))with _ | _
  ·exact wN ⟨rfl,rfl,r'.snoc (by omega) e⟩
  ·exact wN (fin i h3 (by omega) r' fun _=>e)
 ·rintro _ _ ⟨rfl,rfl,r'⟩;rw[Nat.max_eq_right h2]at r'⊢;exact fin n h2 (pi _) r' fun q=>absurd q (yK _)
theorem m5{m n:Nat}{Q:Option Nat→SortSt→Prop}(hc:aM prog w A s κ kd)(hk:KeysOf κ (arrOf Ak))(hn:lo+n≤(arrOf Ak).size)(h1:1≤m)(h2:m≤n)(b:Sl kd Ak lo st)(r:Fl' κ (arrOf st) lo m)(fin:∀l u,Sl kd Ak lo u→1≤l→l≤n→Rl κ (arrOf u) lo l→Q (some l) u):wpS (model prog w) A E s (fj lo m n) Q st:=by
 unfold fj;have ml:lo+m≤(arrOf st).size:=by rw[b.sz];omega
 refine wQ (Si ?_);have b':=b.turn (i:=lo) (pi _) ml;refine wQ (u7 hc hk hn h1 h2 b' (fun i j hij hj=>?_) fun l h3 h4 r' _=>wN (fin l _ b' (by omega) h4 r'));show κ.blt (KK κ (mirror (arrOf st) lo (lo+m) ((lo+m-lo) / 2)) (lo+j)) (KK κ (mirror (arrOf st) lo (lo+m) ((lo+m-lo) / 2)) (lo+i))=false;rw[KK_mirror ml,KK_mirror ml,wM ⟨by omega,by omega⟩,wM ⟨by omega,by omega⟩,show lo+(lo+m)-1-(lo+j)=lo+(m-1-j) by omega,show lo+(lo+m)-1-(lo+i)=lo+(m-1-i) by omega];exact r _ _ (by omega) (by omega)
theorem tL{m n:Nat}{Q:DescSt→SortSt→Prop}(hc:aM prog w A s κ kd)(hk:KeysOf κ (arrOf Ak))(hn:lo+n≤(arrOf Ak).size)(h1:1≤m)(h2:m≤n)(b:Sl kd Ak lo st)(r:Fl' κ (arrOf st) lo m)(fin:∀l e u,Sl kd Ak lo u→m≤l→l≤n→Fl' κ (arrOf u) lo l→e+1≤l→(∀i,lo+l-(e+1)≤i→i<lo+l→KK κ (arrOf u) i=KK κ (arrOf u) (lo+l-1))→Q (none,l,e) u):
  wpS (model prog w) A E s (jt lo m n) Q st:=by
 unfold jt;refine x6 (fun i c u=>∃e,c=(none,i,e)∧Sl kd Ak lo u∧Fl' κ (arrOf u) lo i∧e+1≤i∧∀k,lo+i-(e+1)≤k→k<lo+i→KK κ (arrOf u) k=KK κ (arrOf u) (lo+i-1)) ?_ ?_ ⟨0,rfl,b,r,h1,fun k h3 h4=>by rw[show k=lo+m-1 by omega]⟩
 ·rintro i _ u h3 h4 ⟨e,rfl,b',r',he,al⟩;have il:lo+i≤(arrOf u).size:=by rw[b'.sz];omega
  dsimp only;refine wQ (gi hc hk b' (by omega) (by omega) ?_);dsimp only
  rcases e1:κ.blt (KK κ (arrOf u) (lo+i)) (KK κ (arrOf u) (lo+i-1))with _ | _
  ·rw[wK wJ];refine wQ (gi hc hk b' (by omega) (by omega) ?_);dsimp only
   rcases e2:κ.blt (KK κ (arrOf u) (lo+i-1)) (KK κ (arrOf u) (lo+i))with _ | _
   ·have eq:KK κ (arrOf u) (lo+i)=KK κ (arrOf u) (lo+i-1):=κ.total _ _ e1 e2;refine wN ⟨e+1,rfl,b',r'.snoc (by omega) e2,by omega,fun k h5 h6=>?_⟩;rw[show lo+(i+1)-1=lo+i by omega]
    rcases xP k (lo+i)with l | l
    ·rw[eq];exact al k (by omega) l
    ·rw[show k=lo+i by omega]
   ·exact wN (fin i e u b' h3 (by omega) r' he al)
  ·have up:=r'.snoc (by omega) (ltA e1);rw[wM rfl];by_cases c:e > 0
   ·rw[wM c];refine wQ (Si ?_);exact wN ⟨0,rfl,b'.turn (by omega) il,up.same (KK_mirror_equal il al),by omega,fun k h5 h6=>by rw[show k=lo+(i+1)-1 by omega]⟩
   ·rw[wK c];exact wN ⟨0,rfl,b',up,by omega,fun k h5 h6=>by rw[show k=lo+(i+1)-1 by omega]⟩
 ·rintro _ u ⟨e,rfl,b',r',he,al⟩;rw[Nat.max_eq_right h2]at r' he al⊢;exact fin n e u b' h2 (pi _) r' he al
theorem jv{m n:Nat}{Q:Option Nat→SortSt→Prop}(hc:aM prog w A s κ kd)(hk:KeysOf κ (arrOf Ak))(hn:lo+n≤(arrOf Ak).size)(h2:m+1≤n)(b:Sl kd Ak lo st)(r:Fl' κ (arrOf st) lo (m+1))(fin:∀l u,Sl kd Ak lo u→1≤l→l≤n→Rl κ (arrOf u) lo l→Q (some l) u):wpS (model prog w) A E s (dR lo m n) Q st:=by
 unfold dR;refine wQ (m:=liftM (rule _)) (wpS_lift (yQ ⟨rfl,?_⟩));refine wQ (tL hc hk hn (by omega) h2 b r fun l e u b' h3 h4 r' he al=>?_);have ll:lo+l≤(arrOf u).size:=by rw[b'.sz];omega
 dsimp only;by_cases c:e > 0
 ·rw[wM c];refine wQ (Si ?_);exact m5 (m:=l) hc hk hn (by omega) h4 (b'.turn (by omega) ll) (r'.same (KK_mirror_equal ll al)) fin
 ·rw[wK c];exact m5 (m:=l) hc hk hn (by omega) h4 b' r' fin
theorem qQ{n:Nat}{Q:Option Nat→SortSt→Prop}(hc:aM prog w A s κ kd)(hk:KeysOf κ (arrOf Ak))(hn:lo+n≤(arrOf Ak).size)(h1:1≤n)(b:Sl kd Ak lo st)(fin:∀l u,Sl kd Ak lo u→1≤l→l≤n→Rl κ (arrOf u) lo l→Q (some l) u):wpS (model prog w) A E s (countRun' lo n) Q st:=by
 rw[lI];refine wQ (u7 hc hk hn (pi 1) h1 b ug fun m h3 h4 r lt=>?_);dsimp only
 rcases xP m n with c | c
 ·rw[wK (by rw[xn];omega)];have lt:=lt c;by_cases c2:m > 1
  ·rw[wM c2];refine wQ (gi hc hk b (by omega) (by omega) ?_);dsimp only
   rcases e:κ.blt (KK κ (arrOf st) lo) (KK κ (arrOf st) (lo+m-1))with _ | _
   ·rw[wK wJ];have ml:lo+m≤(arrOf st).size:=by rw[b.sz];omega
    have al:∀k,lo≤k→k<lo+m→KK κ (arrOf st) k=KK κ (arrOf st) (lo+m-1):=fun k hk h=>by
     have q1:=r 0 (k-lo) (yc _) (by omega);have q2:=r (k-lo) (m-1) (by omega) (by omega);rw[show lo+(k-lo)=k by omega,Nat.add_zero]at q1;rw[show lo+(k-lo)=k by omega,show lo+(m-1)=lo+m-1 by omega]at q2;exact κ.total _ _ (ltF e q1) q2
    refine wQ (Si (jv hc hk hn (by omega) (b.turn (pi _) ml) ?_ fin));refine Fl'.same (xs:=arrOf st) (Fl'.snoc (fun i j hij hj=>?_) (by omega) (ltA lt)) (KK_mirror_equal ml al);rw[al (lo+i) (by omega) (by omega),al (lo+j) (by omega) (by omega)];exact κ.irrefl _
   ·rw[wM rfl];exact wN (fin m st b h3 h4 r)
  ·rw[wK c2];obtain rfl:m=1:=by omega
   exact jv hc hk hn (by omega) b (one_Fl.snoc (by omega) (ltA lt)) fin
 ·obtain rfl:m=n:=by omega
  rw[wM (by rw[xn])];exact wN (fin m st b h3 h4 r)
theorem vV{n ok:Nat}{Q:Bool→SortSt→Prop}(hc:aM prog w A s κ kd)(hk:KeysOf κ (arrOf Ak))(hn:lo+n≤(arrOf Ak).size)(h2:ok≤n)(b:Sl kd Ak lo st)(r:Rl κ (arrOf st) lo ok)(fin:∀u,Sl kd Ak lo u→Rl κ (arrOf u) lo n→Q true u):wpS (model prog w) A E s (binarySort' lo n ok) Q st:=by
 rw[binarySort'_eq];have cx:Rl κ (arrOf st) lo (min (max ok 1) n):=fun i j hij hj=>by
  rcases xP j ok with l | l
  ·exact r i j hij l
  ·obtain rfl:i=j:=by omega
   exact κ.irrefl _
 refine wQ (yD (x6 (Q:=fun c u=>c=(none,())∧Sl kd Ak lo u∧Rl κ (arrOf u) lo n) (fun k c u=>c=(none,())∧Sl kd Ak lo u∧Rl κ (arrOf u) lo (min k n)) ?_ ?_ ⟨rfl,b,cx⟩) ?_)
 ·rintro k _ u h3 h4 ⟨rfl,b',r'⟩;rw[y3 (ye h4)]at r';have kl:lo+k<(arrOf Ak).size:=by omega
  have ks:lo+k<(arrOf u).size:=by rw[b'.sz];exact kl
  refine wQ (yD (x6 (Q:=fun c v=>v=u∧∃p,c=(none,p,p)∧p≤k∧(∀i,i<p→κ.blt (KK κ (arrOf u) (lo+k)) (KK κ (arrOf u) (lo+i))=false)∧∀i,p≤i→i<k→κ.blt (KK κ (arrOf u) (lo+k)) (KK κ (arrOf u) (lo+i))=true)
   (fun x c v=>v=u∧∃p q,c=(none,p,q)∧p≤q∧q≤k∧q+x≤k+p∧(∀i,i<p→κ.blt (KK κ (arrOf u) (lo+k)) (KK κ (arrOf u) (lo+i))=false)∧∀i,q≤i→i<k→κ.blt (KK κ (arrOf u) (lo+k)) (KK κ (arrOf u) (lo+i))=true) ?_ ?_
   ⟨rfl,0,k,rfl,yc _,pi _,by omega,fun i h=>absurd h (Nat.not_lt_zero i),fun i h h'=>absurd h' (by omega)⟩) ?_)
  ·rintro x _ _ h5 h6 ⟨rfl,p,q,rfl,pq,qk,qx,lw,hi⟩;dsimp only
   rcases xP p q with c | c
   ·rw[wK (by omega)];refine wQ (gi hc hk b' kl (by omega) ?_);dsimp only
    rcases e:κ.blt (KK κ (arrOf _) (lo+k)) (KK κ (arrOf _) (lo+(p+q) / 2))with _ | _
    ·refine wN ⟨rfl,(p+q) / 2+1,q,rfl,by omega,qk,by omega,fun i h=>?_,hi⟩;exact ltF (r' i ((p+q) / 2) (by omega) (by omega)) e
    ·refine wN ⟨rfl,p,(p+q) / 2,rfl,by omega,by omega,by omega,lw,fun i h h'=>?_⟩
     rcases κ.negTrans _ (KK κ (arrOf _) (lo+i)) _ e with z | z
     ·exact z
     ·rw[r' _ i h h']at z;cases z
   ·rw[wM c];obtain rfl:p=q:=by omega
    exact wN ⟨rfl,p,rfl,qk,lw,hi⟩
  ·rintro _ _ ⟨rfl,p,q,rfl,pq,qk,qx,lw,hi⟩;obtain rfl:p=q:=by omega
   exact⟨rfl,p,rfl,qk,lw,hi⟩
  ·rintro _ _ ⟨rfl,p,rfl,pk,lw,hi⟩;show wpS (model prog w) A E s (moveDown' (lo+k) (lo+p) >>= fun _=>pure (ForInStep.yield (none,()))) _ _;rw[moveDown'_eq];refine wQ (zy (wN ⟨rfl,b'.put (bubble_perm _ _ _) (fun i hi=>?_),?_⟩))
   ·rw[getElem?_bubble ks _ (by omega),wK (by omega),wK (by omega)]
   rw[y3 h4];intro i j hij hj;show κ.blt (KK κ (bubble (arrOf _) (lo+k) (lo+k-(lo+p))) (lo+j)) (KK κ (bubble (arrOf _) (lo+k) (lo+k-(lo+p))) (lo+i))=false;have at_:∀i,KK κ (bubble (arrOf _) (lo+k) (lo+k-(lo+p))) (lo+i)=if i=p then KK κ (arrOf _) (lo+k)else if p<i∧i≤k then KK κ (arrOf _) (lo+(i-1))else KK κ (arrOf _) (lo+i):=fun i=>by
    rw[KK_bubble ks (Nat.sub_le _ _),show lo+k-(lo+k-(lo+p))=lo+p by omega];by_cases c1:i=p
    ·rw[wM c1,wM (by omega)]
    ·rw[wK c1,wK (by omega)];by_cases c2:p<i∧i≤k
     ·rw[wM c2,wM (by omega),show lo+i-1=lo+(i-1) by omega]
     ·rw[wK c2,wK (by omega)]
   rw[at_,at_]
   rcases Nat.lt_trichotomy j p with c | c | c
   ·rw[wK (by omega),wK (by omega),wK (by omega),wK (by omega)];exact r' i j hij (by omega)
   ·rw[wM c]
    rcases xP i p with d | d
    ·rw[wK (by omega),wK (by omega)];exact lw i d
    ·rw[wM (by omega)];exact κ.irrefl _
   ·rw[wK (by omega),wM (by omega)]
    rcases Nat.lt_trichotomy i p with d | d | d
    ·rw[wK (by omega),wK (by omega)];exact r' i (j-1) (by omega) (by omega)
    ·rw[wM d];exact ltA (hi (j-1) (by omega) (by omega))
    ·rw[wK (by omega),wM (by omega)];exact r' (i-1) (j-1) (by omega) (by omega)
 ·rintro _ u ⟨h,b',r'⟩;refine⟨h,b',?_⟩;rw[show min (max (max ok 1) n) n=n by omega]at r';exact r'
 ·rintro _ u ⟨rfl,b',r'⟩;exact wN (fin u b' r')
end
end L2T
namespace L2T
open PySem PySem.Spec PyProof.Rows L2
abbrev seg(L:List Keyed)(i n:Nat):List Keyed:=(L.drop i).take n
def Tile(κ:KeyKind)(L:List Keyed):Nat→List (Nat×Nat)→Nat→Prop
 |a,[],e=>a=e
 |a,(s,n)::ps,e=>s=a∧0<n∧Srt κ (seg L s n)∧Tile κ L (a+n) ps e
section
variable{κ:KeyKind}{L L':List Keyed}
theorem Tile.le{ps:List (Nat×Nat)}:∀{a e:Nat},Tile κ L a ps e→a+ps.length≤e:=by
 induction ps with
 |nil=>intro a e h;exact Nat.le_of_eq h
 |cons p ps ih=>
  intro a e h;have:=ih h.2.2.2;have:=h.2.1;rw[xq];omega
theorem Tile.hi{ps:List (Nat×Nat)}:∀{a e:Nat},Tile κ L a ps e→(∀s n,a≤s→s+n≤e→seg L' s n=seg L s n)→Tile κ L' a ps e:=by
 induction ps with
 |nil=>intro a e h _;exact h
 |cons p ps ih=>
  intro a e h g;obtain⟨h1,h2,h3,h4⟩:=h;have le:=h4.le;exact⟨h1,h2,by rw[g p.1 p.2 (by omega) (by omega)];exact h3,ih h4 fun s n hs=>g s n (by omega)⟩
theorem Tile.snoc{ps:List (Nat×Nat)}{n:Nat}:∀{a e:Nat},Tile κ L a ps e→0<n→Srt κ (seg L e n)→Tile κ L a (ps++[(e,n)]) (e+n):=by
 induction ps with
 |nil=>intro a e h h0 hs;cases h;exact⟨rfl,h0,hs,rfl⟩
 |cons p ps ih=>intro a e h h0 hs;exact⟨h.1,h.2.1,h.2.2.1,ih h.2.2.2 h0 hs⟩
theorem Tile.two{ps:List (Nat×Nat)}:∀{a e i sa na sb nb:Nat},Tile κ L a ps e→ps[i]?=some (sa,na)→ps[i+1]?=some (sb,nb)→sb=sa+na∧0<na∧0<nb∧a≤sa∧sa+na+nb≤e∧Srt κ (seg L sa na)∧Srt κ (seg L sb nb):=by
 induction ps with
 |nil=>intro a e i sa na sb nb _ h;cases h
 |cons p ps ih=>
  intro a e i sa na sb nb h g1 g2;cases i with
  |zero=>
   cases g1;cases ps with
   |nil=>cases g2
   |cons q ps=>
    cases g2;obtain⟨rfl,h2,h3,h4,h5,h6,h7⟩:=h;have:=h7.le;exact⟨h4,h2,h5,pi _,by omega,h3,h6⟩
  |succ i=>
   obtain⟨b1,b2,b3,b4,b5⟩:=ih h.2.2.2 g1 g2;exact⟨b1,b2,b3,by omega,b5⟩
theorem Tile.mrg{ps:List (Nat×Nat)}{sa na nb e:Nat}:∀{a i sb:Nat},Tile κ L a ps e→ps[i]?=some (sa,na)→ps[i+1]?=some (sb,nb)→
  Srt κ (seg L' sa (na+nb))→(∀s n,s+n≤sa→seg L' s n=seg L s n)→(∀s n,sa+na+nb≤s→seg L' s n=seg L s n)→Tile κ L' a ((ps.set i (sa,na+nb)).eraseIdx (i+1)) e:=by
 induction ps with
 |nil=>intro a i sb _ h;cases h
 |cons p ps ih=>
  intro a i sb h g1 g2 so lw hi;cases i with
  |zero=>
   cases g1;cases ps with
   |nil=>cases g2
   |cons q ps=>
    cases g2;obtain⟨rfl,h2,h3,h4,h5,h6,h7⟩:=h;refine⟨rfl,by omega,so,?_⟩;rw[←zf];exact h7.hi fun s n hs _=>hi s n hs
  |succ i=>
   obtain⟨b1,b2,b3,b4,b5⟩:=h.2.2.2.two g1 g2;obtain⟨h1,h2,h3,h4⟩:=h;exact⟨h1,h2,by rw[lw p.1 p.2 (by omega)];exact h3,ih h4 g1 g2 so lw hi⟩
theorem qw{X M S:List Keyed}{s n sa:Nat}(hX:X=L.take sa)(hs:s+n≤sa)(hl:sa≤L.length):seg (X++M++S) s n=seg L s n:=by
 subst hX;refine List.ext_getElem? fun j=>?_;rw[xT,xT]
 split
 ·rw[x5,x5,xw,List.getElem?_append_left (by rw[wT];omega),xT,wM (by omega)]
 ·rfl
theorem Nh{X S:List Keyed}{s n t:Nat}(hX:X.length=t)(hS:S=L.drop t)(hs:t≤s):seg (X++S) s n=seg L s n:=by
 subst hS;unfold seg;rw[List.drop_append,yo (by omega),List.nil_append,zN,hX,show t+(s-t)=s by omega]
theorem lG{α β:Type}(f:α→β):∀(l:List α)(i:Nat),(l.eraseIdx i).map f=(l.map f).eraseIdx i:=by
 intro l
 induction l with
 |nil=>intro i;rfl
 |cons x l ih=>
  intro i;cases i with
  |zero=>rfl
  |succ i=>
   show f x::(l.eraseIdx i).map f=f x::(l.map f).eraseIdx i;rw[ih]
abbrev pr(p:Nat×Nat×Nat):Nat×Nat:=(p.1,p.2.1)
abbrev pq(st:SortSt):List (Nat×Nat):=(pendingOf st).toList.map pr
structure SR(κ:KeyKind)(kd:SortKind)(xs0:Array Keyed)(e:Nat)(u:SortSt):Prop where
 pm:(arrOf u).Perm xs0
 kn:kindOf u=kd
 fl:failedOf u=none
 til:Tile κ (arrOf u).toList 0 (pq u) e
 le:e≤xs0.size
variable{prog:Program}{w:World}{A:Around}{E:Value→Shared→Prop}{s:Shared}{kd:SortKind}{xs0:Array Keyed}{st:SortSt}
theorem SR.keys{e:Nat}(hk:KeysOf κ xs0)(b:SR κ kd xs0 e st):KeysOf κ (arrOf st):=fun p hp=>hk p ((yW.mp b.pm).mem_iff.mp hp)
theorem SR.sz{e:Nat}(b:SR κ kd xs0 e st):(arrOf st).size=xs0.size:=b.pm.size_eq
theorem SR.pend{e:Nat}(b:SR κ kd xs0 e st){ps:Array (Nat×Nat×Nat)}(h:ps.toList.map pr=pq st):SR κ kd xs0 e (setPending st ps):=⟨b.pm,b.kn,b.fl,by
 show Tile κ (arrOf st).toList 0 (ps.toList.map pr) e;rw[h];exact b.til,b.le⟩
theorem Nc{e i:Nat}{Q:Bool→SortSt→Prop}(hc:aM prog w A s κ kd)(hk:KeysOf κ xs0)(b:SR κ kd xs0 e st)(hi:i+1<(pendingOf st).size)(fin:∀v,SR κ kd xs0 e v→(pendingOf v).size+1=(pendingOf st).size→(∀s n,e≤s→seg (arrOf v).toList s n=seg (arrOf st).toList s n)→Q true v):wpS (model prog w) A E s (mergeAt' i) Q st:=by
 obtain⟨⟨sa,na,pw⟩,p1⟩:∃p,(pendingOf st)[i]?=some p:=⟨_,wC (by omega)⟩;obtain⟨⟨sb,nb,pw2⟩,p2⟩:∃p,(pendingOf st)[i+1]?=some p:=⟨_,wC hi⟩;have q1:(pq st)[i]?=some (sa,na):=by
  rw[xi,wI,p1];rfl
 have q2:(pq st)[i+1]?=some (sb,nb):=by
  rw[xi,wI,p2];rfl
 obtain⟨rfl,t1,t2,t3,t4,t5,t6⟩:=b.til.two q1 q2;have le:=b.le;have sz:=b.sz;refine i_ hc b.kn b.fl (b.keys hk) p1 p2 t1 t2 (by omega) t5 t6 fun u m=>?_;obtain⟨M,a1,a2,a3⟩:=m.arr;have ML:M.length=na+nb:=by
  rw[a2.length_eq,wT,xI,wG];omega
 have TL:((arrOf st).toList.take sa++M).length=sa+na+nb:=by
  rw[wH,wT,wG,ML];omega
 have pl:(pendingOf u).toList=((pendingOf st).toList.set i (sa,na+nb,pw)).eraseIdx (i+1):=by
  rw[m.pd,Array.toList_eraseIdxIfInBounds,Array.toList_setIfInBounds]
 refine fin u ⟨?_,m.kn.trans b.kn,m.fl,?_,b.le⟩ ?_ fun s n hs=>by rw[a1];exact Nh TL rfl (by omega)
 ·refine Array.Perm.trans (yW.mpr ?_) b.pm;rw[a1];have e:(arrOf st).toList=(arrOf st).toList.take sa++((arrOf st).toList.drop sa).take (na+nb)++(arrOf st).toList.drop (sa+na+nb):=by
   rw[zf,←zN,xw,xM,xM]
  rw[xw];refine List.Perm.trans (List.Perm.append_left _ (a2.append_right _)) (List.Perm.of_eq ?_);rw[←xw];exact e.symm
 ·have e:pq u=((pq st).set i (sa,na+nb)).eraseIdx (i+1):=by
   show(pendingOf u).toList.map pr=_;rw[pl,lG,List.map_set]
  rw[e];refine b.til.mrg q1 q2 ?_ ?_ ?_
  ·have e2:seg (arrOf u).toList sa (na+nb)=M:=by
    unfold seg;rw[a1,xw,List.drop_append,yo (by rw[wT,wG];omega),List.nil_append,wT,wG,show sa-min sa (arrOf st).size=0 by omega,List.drop_zero,List.take_append_of_le_length (by omega),xK (by omega)]
   rw[e2];exact a3
  ·intro s n hs;rw[a1];exact qw rfl hs (by rw[wG];omega)
  ·intro s n hs;rw[a1];exact Nh TL rfl hs
 ·rw[←wG (xs:=pendingOf u),pl,List.length_eraseIdx,List.length_set,wG,wM hi];omega
theorem sC{e:Nat}{v:SortSt}(b:SR κ kd xs0 e st)(h:Sl kd st e v):SR κ kd xs0 e v:=by
 have le:=b.le;refine⟨h.pm.trans b.pm,h.kn,h.fl,?_,b.le⟩;have e1:pq v=pq st:=by unfold pq;rw[h.pd]
 rw[e1];refine b.til.hi fun s n _ hs=>?_;refine List.ext_getElem? fun j=>?_;rw[xT,xT]
 split
 ·rw[x5,x5,wI,wI];exact h.lw _ (by omega)
 ·rfl
theorem j8{xs:Array Keyed}{lo n:Nat}(r:Rl κ xs lo n):Srt κ (seg xs.toList lo n):=by
 refine yG.mpr fun i j hi hj hij=>?_;rw[wT,xI,wG]at hi hj;have e1:xs[lo+i]?=some ((seg xs.toList lo n)[i]):=by
  rw[List.getElem_take,List.getElem_drop,Array.getElem_toList];exact wC _
 have e2:xs[lo+j]?=some ((seg xs.toList lo n)[j]):=by
  rw[List.getElem_take,List.getElem_drop,Array.getElem_toList];exact wC _
 have:=r i j (by omega) (by omega);rw[Px e1,Px e2]at this;exact this
def mgl(size pw:Nat):StateT SortSt Sem (Option Unit×Unit):=forIn [0:size] ((none,()):Option Unit×Unit) fun _ _=>do
 let u ←get
 match (if (pendingOf u).size > 1 then(pendingOf u)[(pendingOf u).size-2]? else none) with
 |some (_,_,older)=>
  if older≤pw then pure (.done (none,()))else do
   let r ←mergeAt' ((pendingOf u).size-2)
   if (!r)=true then pure (.done (some (),()))else pure (.yield (none,()))
 |_=>pure (.done (none,()))
def eB(size lo n:Nat):StateT SortSt Sem (ForInStep (Option Unit×Nat)):=do
 let u ←get
 match (pendingOf u).back? with
 |some (s1,n1,_)=>do
  let c ←mgl size (power' size (2*s1+n1) (2*s1+n1+n1+n) size)
  match c.1 with
  |some r=>pure (.done (some r,lo))
  |none=>do
   modify fun s=>setPending s ((pendingOf s).modify ((pendingOf s).size-1) fun x=>(x.1,x.2.1,power' size (2*s1+n1) (2*s1+n1+n1+n) size))
   modify fun s=>setPending s ((pendingOf s).push (lo,n,0))
   pure (.yield (none,lo+n))
 |_=>do
  modify fun s=>setPending s ((pendingOf s).push (lo,n,0))
  pure (.yield (none,lo+n))
theorem tI{e size pw:Nat}{Q:Option Unit×Unit→SortSt→Prop}(hc:aM prog w A s κ kd)(hk:KeysOf κ xs0)(b:SR κ kd xs0 e st)(fin:∀v,SR κ kd xs0 e v→(∀s n,e≤s→seg (arrOf v).toList s n=seg (arrOf st).toList s n)→Q (none,()) v):wpS (model prog w) A E s (mgl size pw) Q st:=by
 unfold mgl;refine x6 (fun _ c v=>c=(none,())∧SR κ kd xs0 e v∧∀s n,e≤s→seg (arrOf v).toList s n=seg (arrOf st).toList s n) ?_ ?_ ⟨rfl,b,fun _ _ _=>rfl⟩
 ·rintro _ _ u _ _ ⟨rfl,b',g⟩;refine wQ (z7 ?_);by_cases c:(pendingOf u).size > 1
  ·rw[wM c];obtain⟨⟨p1,p2,p3⟩,hp⟩:∃p,(pendingOf u)[(pendingOf u).size-2]?=some p:=⟨_,wC (by omega)⟩;rw[hp];dsimp only
   split
   ·exact wN (fin u b' g)
   ·exact wQ (Nc hc hk b' (by omega) fun v bv _ gv=>wN ⟨rfl,bv,fun s n hs=>(gv s n hs).trans (g s n hs)⟩)
  ·rw[wK c];exact wN (fin u b' g)
 ·rintro _ u ⟨rfl,b',g⟩;exact fin u b' g
theorem SR.run{lo n:Nat}(b:SR κ kd xs0 lo st)(n1:0<n)(hn:lo+n≤xs0.size)(so:Srt κ (seg (arrOf st).toList lo n)):SR κ kd xs0 (lo+n) (setPending st ((pendingOf st).push (lo,n,0))):=by
 refine⟨b.pm,b.kn,b.fl,?_,hn⟩;show Tile κ (arrOf st).toList 0 (((pendingOf st).push (lo,n,0)).toList.map pr) (lo+n);rw[yO,wO];exact b.til.snoc n1 so
theorem sd(f:Nat×Nat×Nat→Nat×Nat×Nat)(hf:∀x,pr (f x)=pr x):∀(l:List (Nat×Nat×Nat))(i:Nat),(l.modify i f).map pr=l.map pr:=by
 intro l
 induction l with
 |nil=>intro i;cases i <;> rfl
 |cons x l ih=>
  intro i;cases i with
  |zero=>
   show pr (f x)::l.map pr=pr x::l.map pr;rw[hf]
  |succ i=>
   show pr x::(l.modify i f).map pr=pr x::l.map pr;rw[ih]
theorem gJ{lo n size:Nat}{Q:ForInStep (Option Unit×Nat)→SortSt→Prop}(hc:aM prog w A s κ kd)(hk:KeysOf κ xs0)(b:SR κ kd xs0 lo st)(n1:0<n)(hn:lo+n≤xs0.size)(so:Srt κ (seg (arrOf st).toList lo n))(fin:∀v,SR κ kd xs0 (lo+n) v→Q (.yield (none,lo+n)) v):wpS (model prog w) A E s (eB size lo n) Q st:=by
 unfold eB;refine wQ (z7 ?_);cases hb:(pendingOf st).back? with
 |none=>exact wQ (zy (wN (fin _ (b.run n1 hn so))))
 |some p=>
  obtain⟨s1,m1,pw⟩:=p;dsimp only;refine wQ (tI hc hk b fun v bv gv=>?_);dsimp only;refine wQ (zy (wQ (zy (wN (fin _ ?_)))));refine SR.run (st:=setPending v _) (bv.pend ?_) n1 hn ?_
  ·rw[Array.toList_modify];exact sd (fun x=>(x.1,x.2.1,power' size (2*s1+m1) (2*s1+m1+m1+n) size)) (fun _=>rfl) _ _
  ·show Srt κ (seg (arrOf v).toList lo n);rw[gv lo n (pi _)];exact so
theorem Rz.of_srt{xs:Array Keyed}{n:Nat}(h:Srt κ (seg xs.toList 0 n))(hn:n≤xs.size):Rz κ xs n:=fun i j hij hj=>by
 have at_:∀k (hk:k<n),(seg xs.toList 0 n)[k]?=some (xs[k]'(by omega)):=fun k hk=>by
  rw[xT,wM hk,List.drop_zero,wI];exact wC _
 have q:=h.at hij (at_ i (by omega)) (at_ j hj);rw[Px (wC (show i<xs.size by omega)),Px (wC (show j<xs.size by omega))];exact q
theorem rQ:∀(f n r:Nat),0<n→0<minRun' f n r:=by
 intro f
 induction f with
 |zero=>
  intro n r h;show 0<n+r;omega
 |succ f ih=>
  intro n r h;rw[minRun'_succ]
  split
  ·omega
  ·exact ih _ _ (by omega)
theorem eqp{α:Type}{p p':StateT SortSt Sem α}{Q:α→SortSt→Prop}(h:p=p')(g:wpS (model prog w) A E s p' Q st):wpS (model prog w) A E s p Q st:=by
 rw[h];exact g
theorem runs_all{Q:Unit→SortSt→Prop}(hc:aM prog w A s κ kd)(hk:KeysOf κ xs0)(b:Sst kd xs0 st)(h1:1≤xs0.size)(fin:∀u,(arrOf u).Perm xs0→failedOf u=none→Rz κ (arrOf u) xs0.size→Q () u):wpS (model prog w) A E s sortRuns' Q st:=by
 rw[sortRuns'_eq];refine wQ (z7 ?_);simp only[b.sz];have s0:SR κ kd xs0 0 st:=⟨b.pm,b.kn,b.fl,by show Tile κ _ 0 ((pendingOf st).toList.map pr) 0;rw[b.pd];rfl,yc _⟩;have mp:=rQ xs0.size xs0.size 0 (by omega);generalize minRun' xs0.size xs0.size 0=mr at mp⊢;refine wQ (yD (x6 (β:=Option Unit×Nat) (Q:=fun c u=>c=(none,xs0.size)∧SR κ kd xs0 xs0.size u) (fun x c u=>∃lo,c=(none,lo)∧x≤lo∧SR κ kd xs0 lo u) ?_ ?_ ⟨0,rfl,pi _,s0⟩) ?_)
 ·rintro x _ u _ hx ⟨lo,rfl,xl,bu⟩;have le:=bu.le;have sz:=bu.sz;dsimp only
  rcases xP lo xs0.size with c | c
  ·rw[wK (by omega)];have sl:Sl kd u lo u:=⟨Array.Perm.refl _,bu.kn,rfl,bu.fl,fun _ _=>rfl⟩;refine wQ (qQ hc (bu.keys hk) (by omega) (by omega) sl fun l v bv l1 l2 r=>?_);dsimp only;have fin2:∀n v,0<n→SR κ kd xs0 (lo+n) v→∃lo',((none:Option Unit),lo+n)=(none,lo')∧x+1≤lo'∧SR κ kd xs0 lo' v:=fun n v hn h=>⟨lo+n,rfl,by omega,h⟩
   rcases xP l mr with d | d
   ·rw[wM d];refine wQ (m:=liftM (rule _)) (wpS_lift (yQ ⟨rfl,?_⟩));refine wQ (vV hc (bu.keys hk) (n:=min (xs0.size-lo) mr) (by omega) (by omega) bv r fun y by' r3=>?_);rw[Bool.not_true,wK wJ];refine eqp (p':=eB xs0.size lo (min (xs0.size-lo) mr)) ?_ ?_
    ·unfold eB mgl;refine bnd rfl fun u2=>?_;cases hb:(pendingOf u2).back? with
     |none=>rfl
     |some p=>
      obtain⟨s1,m1,pw⟩:=p;dsimp only;refine bnd ?_ fun c=>?_
      ·congr 1
      ·obtain⟨r4,u4⟩:=c;cases r4 <;> rfl
    refine yD (gJ (size:=xs0.size) (Q:=fun r v=>r=.yield (none,lo+min (xs0.size-lo) mr)∧SR κ kd xs0 (lo+min (xs0.size-lo) mr) v) hc hk (sC bu by') (by omega) (by omega) (j8 r3) fun v hv=>⟨rfl,hv⟩) ?_;rintro _ v ⟨rfl,hv⟩;exact fin2 _ v (by omega) hv
   ·rw[wK (by omega)];refine eqp (p':=eB xs0.size lo (l)) ?_ ?_
    ·unfold eB mgl;refine bnd rfl fun u2=>?_;cases hb:(pendingOf u2).back? with
     |none=>rfl
     |some p=>
      obtain⟨s1,m1,pw⟩:=p;dsimp only;refine bnd ?_ fun c=>?_
      ·congr 1
      ·obtain⟨r4,u4⟩:=c;cases r4 <;> rfl
    refine yD (gJ (size:=xs0.size) (Q:=fun r v=>r=.yield (none,lo+l)∧SR κ kd xs0 (lo+l) v) hc hk (sC bu bv) (by omega) (by omega) (j8 r) fun v hv=>⟨rfl,hv⟩) ?_;rintro _ v ⟨rfl,hv⟩;exact fin2 _ v (by omega) hv
  ·rw[wM c];obtain rfl:lo=xs0.size:=by omega
   exact wN ⟨rfl,bu⟩
 ·rintro _ u ⟨lo,rfl,xl,bu⟩;have le:=bu.le;obtain rfl:lo=xs0.size:=by omega
  exact⟨rfl,bu⟩
 ·rintro _ u ⟨rfl,bu⟩;dsimp only;have pl:=bu.til.le;rw[aq,wG]at pl;refine wQ (yD (x6 (Q:=fun c v=>c=(none,())∧SR κ kd xs0 xs0.size v∧(pendingOf v).size≤1) (fun x c v=>c=(none,())∧SR κ kd xs0 xs0.size v∧((pendingOf v).size≤1∨(pendingOf v).size+x≤xs0.size)) ?_ ?_ ⟨rfl,bu,.inr (by omega)⟩) ?_)
  ·rintro x _ v _ hx ⟨rfl,bv,h⟩;refine wQ (z7 ?_)
   rcases xP 1 (pendingOf v).size with c | c
   ·rw[wK (by omega)];have next:∀i,i+1<(pendingOf v).size→wpS (model prog w) A E s (do
      let r ←mergeAt' i
      if (!r)=true then pure (ForInStep.done (some (),()))else pure (ForInStep.yield ((none:Option Unit),()))) (fun r Aj=>match r with
       |.done c'=>c'=(none,())∧SR κ kd xs0 xs0.size Aj∧(pendingOf Aj).size≤1
       |.yield c'=>c'=(none,())∧SR κ kd xs0 xs0.size Aj∧((pendingOf Aj).size≤1∨(pendingOf Aj).size+(x+1)≤xs0.size)) v:=fun i hi=>
     wQ (Nc hc hk bv hi fun z bz hz _=>wN ⟨rfl,bz,by omega⟩)
    refine yD (next _ ?_) fun r z hz=>?_
    ·repeat' split
     all_goals omega
    ·cases r with
     |done c'=>exact hz
     |yield c'=>exact hz
   ·rw[wM c];exact wN ⟨rfl,bv,c⟩
  ·rintro _ v ⟨rfl,bv,h⟩;have:=bv.til.le;rw[aq,wG]at this;exact⟨rfl,bv,by omega⟩
  ·rintro _ v ⟨rfl,bv,h⟩;refine wN (fin v bv.pm bv.fl ?_);have t:=bv.til;have sz:=bv.sz;cases hq:pq v with
   |nil=>
    rw[hq]at t;have t:0=xs0.size:=t;omega
   |cons p ps=>
    have pz:(pq v).length≤1:=by rw[aq,wG];exact h
    rw[hq]at t pz;rw[xq]at pz;obtain rfl:ps=[]:=List.length_eq_zero_iff.mp (by omega);obtain⟨t1,t2,t3,t4⟩:=t;have t4:0+p.2=xs0.size:=t4;rw[zA]at t4;have t1:p.1=0:=t1;rw[t1,t4]at t3;exact Rz.of_srt t3 (by omega)
end
end L2T
namespace L2
open PySem PySem.Spec PyProof.Rows
variable{prog:Program}{w:World}{A:Around}{E:Value→Shared→Prop}{s:Shared}
section
theorem O0{M:Model}{β:Type}{f:Value→Sem β}(F:β→Prop):∀(vs:List Value),(∀v∈vs,∃y,F y∧∀Q:β→Shared→Prop,Q y s→wpAny M A (f v) Q E s)→∃ys:List β,ys.length=vs.length∧(∀y∈ys,F y)∧∀Q:List β→Shared→Prop,Q ys s→wpAny M A (vs.mapM f) Q E s
 | [],_=>⟨[],rfl,(fun _ h=>nomatch h),fun Q q=>by rw[List.mapM_nil];exact io q⟩
 |v::vs,h=>by
  obtain⟨y,fy,hy⟩:=h v (.head _);obtain⟨ys,l,fys,hys⟩:=O0 F vs fun x hx=>h x (.tail _ hx);refine⟨y::ys,by rw[xq,xq,l],fun z hz=>?_,fun Q q=>?_⟩
  ·rcases wX.mp hz with e | e
   ·rw[e];exact fy
   ·exact fys z e
  ·rw[List.mapM_cons];exact ae (hy _ (ae (hys _ (io q))))
theorem nW(v:Value):firstOfTuple' v=(do
  if (←typeOf v) != .type "tuple" then return none
  return (←Builtin.List.listItems v)[0]?):=rfl
variable{O U:KeyOrd}{R:Heap→Value→O.α→Prop}{S:Heap→Value→U.α→Prop}{T V:String}
theorem kJ(e:El prog w O R T){vs:List Value}(h:∀v∈vs,∃a,a9 R S s.heap v a)(hn:vs≠[]){Q:SortKind→Shared→Prop}(q:Q (tuples' (decide (T≠"tuple"))) s):wpAny (model prog w) A (keyKind' vs.toArray) Q E s:=by
 rw[keyKind'_eq,List.mapM_toArray];obtain⟨ys,yl,yf,hy⟩:=O0 (M:=model prog w) (A:=A) (E:=E) (s:=s) (f:=firstOfTuple') (fun y=>∃x,y=some x∧s.TypeIs x T) vs fun v hv=>by
  obtain⟨a,c,o,n,x,y,rfl,ho,hc,hd,h1,h2⟩:=h v hv;refine⟨some x,⟨x,rfl,e.ty h1⟩,fun Q q=>?_⟩;rw[nW];refine ae (zR (T:="tuple") ⟨o,ho,hc⟩ ?_);rw[wK (by decide)];exact ae (listItems_at ho hd (io q))
 refine ae (wpAny_map ?_);refine hy _ ?_;have al:ys.toArray.all (·.isSome)=true:=by
  rw[List.all_toArray,yn];intro y hy;obtain⟨x,rfl,_⟩:=yf y hy;rfl
 rw[wM al];refine ae (yQ ?_);rw[oneTypeOnly'_eq,List.filterMap_toArray,List.mapM_toArray];have ht:∀x∈ys.filterMap id,s.TypeIs x T:=fun x hx=>by
  obtain⟨y,hy,ey⟩:=yw.mp hx;obtain⟨x',rfl,t⟩:=yf y hy;cases (show x'=x from xA ey);exact t
 obtain⟨ts,tl,tf,htt⟩:=O0 (M:=model prog w) (A:=A) (E:=E) (s:=s) (f:=typeOf) (fun y=>y=.type T) (ys.filterMap id) fun v hv=>⟨_,rfl,fun Q q=>zR (ht v hv) q⟩;refine ae (ae (wpAny_map ?_));refine htt _ ?_;have fl:(ys.filterMap id).length=ys.length:=by
  clear hy al ht htt tl tf yl
  induction ys with
  |nil=>rfl
  |cons y ys ih=>
   obtain⟨x,rfl,_⟩:=yf y (.head _);rw[show List.filterMap id (some x::ys)=x::ys.filterMap id from rfl,xq,xq,ih fun z hz=>yf z (.tail _ hz)]
 cases ts with
 |nil=>
  rw[yZ,fl,yl]at tl;exact absurd (yL tl.symm) hn
 |cons t ts=>
  have t0:t=.type T:=tf t (.head _);subst t0;show wpAny _ _ (pure (if ((Value.type T::ts).toArray.all (· == Value.type T))=true then some (Value.type T)else none)) _ _ s;rw[wM (by
   rw[List.all_toArray,yn];intro y hy;rw[tf y hy];exact beq_self_eq_true _)]
  refine io (io ?_);have z:(some (Value.type T)).any (· != Value.type "tuple")=decide (T≠"tuple"):=by
   show(Value.type T != Value.type "tuple")=_;rw[yk,bne_iff_ne,decide_eq_true_iff];exact⟨fun h e=>h (by rw[e]),fun h e=>h (by injection e)⟩
  rw[z];exact q
def sY{O:KeyOrd}(R:Value→O.α→Prop)(vs:List Value):Prop:=vs.Pairwise fun x y=>∀a b,R x a→R y b→O.blt b a=false
theorem N5{vs:List Value}{p:Value×Value}(h:p∈vs.zip vs):p.1=p.2∧p.1∈vs:=mem_zip_self h
theorem iD{O:KeyOrd}{R:Value→O.α→Prop}(fn:∀{v a b},R v a→R v b→a=b){d:O.α}{vs:List Value}(hk:∀v∈vs,∃a,R v a){xs:Array Keyed}(pm:xs.Perm (pairsOf vs))(r:Rz (eu O R d) xs (pairsOf vs).size):
  (xs.map (·.2)).toList.Perm vs∧sY R (xs.map (·.2)).toList:=by
 have pl:xs.toList.Perm (vs.zip vs):=by rw[←pairsOf_toList];exact yW.mp pm
 have both:∀p∈xs.toList,p.1=p.2∧p.1∈vs:=fun p hp=>N5 (pl.mem_iff.mp hp);rw[Array.toList_map];constructor
 ·have q:=pl.map Prod.snd;rw[List.map_snd_zip (pi _)]at q;exact q
 ·unfold sY;rw[yG];intro i j hi hj hij a b ha hb;rw[aq]at hi hj;have hi':i<xs.size:=by rw[←wG];exact hi
  have hj':j<xs.size:=by rw[←wG];exact hj
  have key:∀{k:Nat}(hk':k<xs.size){c:O.α},R xs[k].2 c→KK (eu O R d) xs k=c:=by
   intro k hk' c hc;have e:=(both xs[k] (zL.mpr (Array.getElem_mem hk'))).1;rw[←e]at hc;obtain⟨c',h'⟩:=j5 (d:=d) hc;have:c'=c:=fn (Oa h') hc;unfold KK;rw[wC hk'];show((eu O R d).keyOf xs[k].1).getD _=c;rw[h',this];rfl
  rw[List.getElem_map,Array.getElem_toList]at ha hb;have q:=r i j (ye hij) (by rw[←pm.size_eq];exact hj');rw[key hi' ha,key hj' hb]at q;exact q
theorem gL{h:Heap}{l b:Addr}{g:Obj→Obj}{o1 o2:Obj}(lt:b<h.objs.size):(((h.update l g).push o1).push o2).get? b=(h.update l g).get? b:=by
 have l1:b<(h.update l g).objs.size:=by rw[Heap.size_update];exact lt
 rw[Heap.get?_push_ne _ _ _ (wS (by rw[size_push'];exact yq l1)),Heap.get?_push_ne _ _ _ (wS l1)]
theorem mF{h:Heap}{l:Addr}{vs:List Value}{n:Nat}(ho:h.get? l=some (seqObj "list" vs.toArray n))(o1 o2:Obj):cZ h (((h.update l (Obj.mapSeq fun _=>#[])).push o1).push o2):=by
 intro b o hb hc;have ne:b≠l:=fun z=>by
  rw[z,ho]at hb;cases hb;exact absurd hc (by show ¬Value.type "list"=Value.type "tuple";intro z;injection z with z;exact absurd z (by decide))
 have lt:=wE hb;rw[gL lt,Heap.get?_update_ne _ _ _ _ ne];exact hb
theorem iM(e:El prog w O R T)(f:El prog w U S V){l:Addr}{vs:List Value}{n:Nat}{P:Fin→Shared→Prop}(ho:s.heap.get? l=some (seqObj "list" vs.toArray n))(hk:∀v∈vs,∃a,a9 R S s.heap v a)(h64:vs.length<1000)(hu:A.units+8<cLine)(d:O.α×U.α)(fin:∀out:Array Value,out.toList.Perm vs→sY (O:=cg O U) (a9 R S s.heap) out.toList→P (.done (.ret .none)) {s with heap:=sortedHeap s.heap l vs out}):wpAny (model prog w) A (Builtin.«list.sort» ⟨[.ref l],[]⟩) P E s:=by
 rw[list_sort_plain];refine ae (listItems_at ho rfl ?_);refine ae (listUpdate_at ho rfl ?_);obtain⟨e1,ho1⟩:∃m,(s.heap.update l (Obj.mapSeq fun _=>#[])).get? l=some (seqObj "list" #[] m):=⟨_,get?_update_seq ho fun _=>#[]⟩;refine ae (seqEpoch_at ho1 rfl ?_);refine ae (wpAny_newTuple ?_);refine ae (zW ?_);refine xQ ?_;have ll:=wE ho;have ho2:(((s.heap.update l (Obj.mapSeq fun _=>#[])).push (seqObj "tuple" vs.toArray 0)).push (seqObj "list" #[] 0)).get? l=some (seqObj "list" #[] e1):=by
  rw[gL ll];exact ho1
 have st:=mF ho (seqObj "tuple" vs.toArray 0) (seqObj "list" #[] 0);have hk':∀v∈vs,∃a,a9 R S (((s.heap.update l (Obj.mapSeq fun _=>#[])).push (seqObj "tuple" vs.toArray 0)).push (seqObj "list" #[] 0)) v a:=fun v hv=>let ⟨a,h⟩:=hk v hv;⟨a,Wq e f st h⟩
 have back:∀{v a},v∈vs→a9 R S s.heap v a→a9 R S (((s.heap.update l (Obj.mapSeq fun _=>#[])).push (seqObj "tuple" vs.toArray 0)).push (seqObj "list" #[] 0)) v a:=fun _ h=>Wq e f st h;show wpAny (model prog w) A _ P E {s with heap:=((s.heap.update l (Obj.mapSeq fun _=>#[])).push (seqObj "tuple" vs.toArray 0)).push (seqObj "list" #[] 0)};dsimp only;have vsz:vs.toArray.size=vs.length:=xh;have finish:∀u:SortSt,(arrOf u).Perm (pairsOf vs)→failedOf u=none→Rz (eu (cg O U) (a9 R S (((s.heap.update l (Obj.mapSeq fun _=>#[])).push (seqObj "tuple" vs.toArray 0)).push (seqObj "list" #[] 0))) d) (arrOf u) (pairsOf vs).size→
   P (.done (.ret .none)) {s with heap:=sortedHeap s.heap l vs ((arrOf u).map (·.2))}:=fun u pm _ r=>by
  obtain⟨p1,p2⟩:=iD (O:=cg O U) (R:=a9 R S (((s.heap.update l (Obj.mapSeq fun _=>#[])).push (seqObj "tuple" vs.toArray 0)).push (seqObj "list" #[] 0))) (fun h g=>qy e f h g) hk' pm r;exact fin _ p1 (p2.imp_of_mem fun{x y} hx hy h a b ha hb=>h a b (back (p1.mem_iff.mp hx) ha) (back (p1.mem_iff.mp hy) hb))
 by_cases c:vs.toArray.size<2
 ·rw[wM c,wM c];refine ae (io ?_);rw[StateT.run_pure];refine ae (io ?_);dsimp only;refine ae (seqEpoch_at ho2 rfl ?_);refine ae (listUpdate_at ho2 rfl ?_ (hsz2:=by rw[Array.size_map];show(pairsOf vs).size≤_;rw[pairsOf_size];exact x3 (ye h64) (by decide)));rw[show(e1 != e1)=false from bne_self_eq_false e1];rw[wK wJ];refine io (finish (SortSt.mk' general' (vs.toArray.zip vs.toArray) #[] 7 none) (Array.Perm.refl _) rfl fun i j hij hj=>?_);obtain rfl:i=j:=by rw[pairsOf_size]at hj;omega
  exact(eu (cg O U) _ d).irrefl _
 ·rw[wK c,wK c];have vn:vs≠[]:=fun z=>by rw[z]at c;exact c (by decide)
  refine ae (kJ (O:=O) (U:=U) e hk' vn ?_);have hc:=nh (A:=A) (s:={s with heap:=((s.heap.update l (Obj.mapSeq fun _=>#[])).push (seqObj "tuple" vs.toArray 0)).push (seqObj "list" #[] 0)}) e f hu d (decide (T≠"tuple")) (fun z=>wU z);refine ae (xX (L2T.runs_all (E:=E) (xs0:=pairsOf vs) (st:=SortSt.mk' (tuples' (decide (T≠"tuple"))) (vs.toArray.zip vs.toArray) #[] 7 none) (Q:=fun _ u=>(arrOf u).Perm (pairsOf vs)∧failedOf u=none∧Rz _ (arrOf u) (pairsOf vs).size) hc
   (fun p hp=>?_) ⟨Array.Perm.refl _,rfl,rfl,rfl⟩ (by rw[pairsOf_size];omega) fun u a1 a2 a3=>⟨a1,a2,a3⟩) ?_ fun _ _ z=>z)
  ·rw[pairsOf_toList]at hp;obtain⟨a,ha⟩:=hk' p.1 (N5 hp).2;exact j5 ha
  rintro⟨⟨⟩,u⟩ s2 ⟨rfl,pm,fl,r⟩;dsimp only;refine ae (seqEpoch_at ho2 rfl ?_);refine ae (listUpdate_at ho2 rfl ?_ (hsz2:=by rw[Array.size_map];exact x3 (Nat.le_of_eq (pm.size_eq.trans (pairsOf_size _))) (x3 (ye h64) (by decide))));rw[fl];rw[show(e1 != e1)=false from bne_self_eq_false e1];rw[wK wJ];exact io (finish u pm fl r)
end
theorem fc{Q:List Value→Shared→Prop}(it:Addr){T:String}{o:Obj}{items:Array Value}{n:Nat}(hT:T="list"∨T="tuple")(ho:s.heap.get? it=some o)(hc:o.cls=.type T)(hd:o.data=.seq items n)(hz:items.size≤sizeLine)(q:∀g:Heap,(∀b u,s.heap.get? b=some u→g.get? b=some u)→s.heap.objs.size<g.objs.size→Q items.toList {s with heap:=g}):wpAny (model prog w) A (collect (.ref it)) Q E s:=by
 let g:Heap:=(s.heap.push (seqObj "list" #[] 0)).update s.heap.objs.size (Obj.mapSeq (·++items))
 have at1:(s.heap.push (seqObj "list" #[] 0)).get? s.heap.objs.size=some (seqObj "list" #[] 0):=wD _ rfl;have kp:∀b u,s.heap.get? b=some u→g.get? b=some u:=fun b u h=>(zq _ _ (x4 (wE h))).trans (az _ h);have gs:s.heap.objs.size<g.objs.size:=by
  show s.heap.objs.size<((s.heap.push (seqObj "list" #[] 0)).update s.heap.objs.size (Obj.mapSeq (·++items))).objs.size;rw[Heap.size_update,size_push'];exact zS _
 have last:wpAny (model prog w) A (load s.heap.objs.size >>= fun u=>match u.data with
   |.seq xs _=>pure xs.toList
   |_=>unsupported "internal:collect") Q E {s with heap:=g}:=by
  refine ae (zZ (get?_update_seq at1 _) ?_);show wpAny _ _ (pure ((#[]:Array Value)++items).toList) Q E _;rw[show((#[]:Array Value)++items).toList=items.toList by simp];exact io (q g kp gs)
 unfold collect;refine ae (wpAny_runValue (ym entry_proto_collect' ?_));show wpAny _ _ (newList [] >>= fun l=>again (.builtin "list.__iadd__" ⟨[l,.ref it],[]⟩)) _ _ s;refine ae (zW (io ⟨Code.quiet_builtin _ (by decide +kernel),ym entry_list_iadd' ?_⟩));refine xX (wpAny_extend_seq (hsz:=hz) (R:=fun r s'=>r=.ok (.ret (.ref s.heap.objs.size))∧s'={s with heap:=g}) (s:={s with heap:=s.heap.push (seqObj "list" #[] 0)}) _ it _ 0 hT at1 (az _ ho) hc hd ⟨rfl,rfl⟩) (fun fin s' h=>?_) (fun x s' h=>?_)
 ·cases fin with
  |done y=>
   obtain⟨z,rfl⟩:=h;cases z;exact last
  |again c=>exact⟨h.1,zo h.2 fun r s2 hr=>by obtain⟨rfl,rfl⟩:=hr;exact last⟩
 ·exact absurd h.1 (by simp)
section
variable{X:Cx}
theorem mw{as:List Addr}{out:List Value}(h:out.Perm (as.map Value.ref)):∃bs:List Addr,bs.Perm as∧out=bs.map Value.ref:=by
 let g:Value→Addr:=fun v=>match v with | .ref a=>a | _=>0
 refine⟨out.map g,?_,?_⟩
 ·have q:=h.map g;rw[xD]at q;rw[show(g∘Value.ref)=id from rfl,List.map_id]at q;exact q
 ·rw[xD];have e:∀l:List Value,(∀v∈l,∃a,v=.ref a)→l=l.map (Value.ref∘g):=fun l hl=>by
   induction l with
   |nil=>rfl
   |cons v l ih=>
    obtain⟨a,rfl⟩:=hl v (.head _);rw[xt,←ih fun x hx=>hl x (.tail _ hx)];rfl
  exact e out fun v hv=>by
   obtain⟨a,_,rfl⟩:=wW.mp (h.mem_iff.mp hv);exact⟨a,rfl⟩
theorem Tk:∀{as:List Addr}{us:List Value},Vals (as.map V.ref) us→us=as.map Value.ref
 | [],_,h=>by cases h;rfl
 |a::as,_,h=>by
  rw[xt]at h;cases h with
  |cons r t=>rw[Tk t,show _=Value.ref a from r];rfl
def oF{O:KeyOrd}(F:Hp→Addr→O.α→Prop):List V→Hp→VK→Prop:=fun xs H Q=>∃(p:Addr)(as:List Addr),xs=[.ref p]∧(H p=some (.lst (as.map V.ref))∨H p=some (.tup (as.map V.ref)))∧as.length<1000∧(∀a∈as,∃k,F H a k)∧
 ∀bs:List Addr,bs.Perm as→(bs.Pairwise fun a b=>∀k l,F H a k→F H b l→O.blt l k=false)→∀q,H q=none→Q (.ref q) (upd H q (.lst (bs.map V.ref)))
theorem call_sortG{O U:KeyOrd}{R:Heap→Value→O.α→Prop}{S:Heap→Value→U.α→Prop}{T W:String}(e:El X.prog X.w O R T)(f:El X.prog X.w U S W)(F:Hp→Addr→(cg O U).α→Prop)(br:∀{or:List (Addr×Obj)} {σ:St} {H:Hp} {s:Shared} {a:Addr} {k:O.α×U.α},Inv X or σ H s→F H a k→a9 R S s.heap (.ref a) k)(d:O.α×U.α)(hu:X.A.units+64<cLine):aV X (.builtin "sorted") (oF (O:=cg O U) F):=by
 intro or s σ H xs us Q I rx h;obtain⟨p,as,rfl,hp,h64,hk,q⟩:=h;obtain⟨u,rfl,ru⟩:=Xx rx;cases ru;obtain⟨o,n,T',ho,hT,hc,hd⟩:∃o n T',s.heap.get? p=some o∧(T'="list"∨T'="tuple")∧o.cls=.type T'∧o.data=.seq (as.map Value.ref).toArray n:=by
  rcases hp with hp | hp
  ·obtain⟨_,its,n,r,e1⟩:=(show ObjOk X.prog X.w H s.heap p (.lst (as.map V.ref))from I.hok p _ hp);rw[Tk r]at e1;exact⟨_,n,"list",e1,.inl rfl,rfl,rfl⟩
  ·obtain⟨_,its,r,o,e1,e2,n,e3⟩:=(show ObjOk X.prog X.w H s.heap p (.tup (as.map V.ref))from I.hok p _ hp);rw[Tk r]at e3;exact⟨o,n,"tuple",e1,.inr rfl,e2.1,e3⟩
 refine Calls.call_function_entry kind_sorted plain_sorted entry_sorted (args_sorted1 _) ?_;unfold Builtin.«sorted»;refine ae (m:=checkCount "sorted" 1 1 _) (io ?_);refine ae (fc p hT ho hc hd (by rw[xh,aq];exact Zf (by omega)) fun g kp gl0=>?_);have tl:(as.map Value.ref).toArray.toList=as.map Value.ref:=List.toList_toArray;rw[tl];refine ae (zW ?_ (by rw[aq];exact Zf (by omega)));have gl:s.heap.objs.size≤g.objs.size:=ye gl0;have hoL:(g.push (seqObj "list" (as.map Value.ref).toArray 0)).get? g.objs.size=some (seqObj "list" (as.map Value.ref).toArray 0):=wD _ rfl;have kp2:∀b ob,s.heap.get? b=some ob→(g.push (seqObj "list" (as.map Value.ref).toArray 0)).get? b=some ob:=fun b ob e=>az _ (kp b ob e);have st:cZ s.heap (g.push (seqObj "list" (as.map Value.ref).toArray 0)):=fun b ob e _=>kp2 b ob e;refine ae (xQ (x9 slot_list_sort ⟨_,hoL,rfl⟩ entry_list_sort (iM e f hoL (fun v hv=>?_) (by rw[aq];exact h64) (by show X.A.units+1+1+8<_;omega) d fun out op os=>⟨_,rfl,?_⟩) (args_list_sort _)))
 ·obtain⟨a,ha,rfl⟩:=wW.mp hv;obtain⟨k,fk⟩:=hk a ha;exact⟨k,Wq e f st (br I fk)⟩
 refine io ⟨_,rfl,?_⟩;obtain⟨bs,bp,be⟩:=mw op;obtain⟨e2,he2⟩:=sortedHeap_at (vs:=as.map Value.ref) (out:=out) hoL;refine⟨.ref g.objs.size,_,I.laid (t':=s.toks) (o:=.lst (bs.map V.ref)) (fun b ob e=>?_) gl ?_,rfl,q bs bp ?_ _ (I.hok.fresh gl)⟩
 ·have e':=kp b ob e;have Ac:=wE e';rw[sortedHeap_old (wS Ac) (by rw[size_push'];exact yq Ac)];exact az _ e'
 ·refine⟨by rw[aq,bp.length_eq];exact Zf (by omega),bs.map Value.ref,e2,P7 bs,?_⟩;rw[←be,Array.toArray_toList];exact he2
 ·rw[be]at os;refine(List.pairwise_map.mp os).imp_of_mem fun{a b} ha hb h k l fk fl=>h k l (Wq e f st (br I fk)) (Wq e f st (br I fl))
theorem sV{or:List (Addr×Obj)}{σ:St}{H:Hp}{s:Shared}{a:Addr}{x y:V}(I:Inv X or σ H s)(h:H a=some (.tup [x,y])):∃o n u v,s.heap.get? a=some o∧o.cls=.type "tuple"∧o.data=.seq #[u,v] n∧RelV x u∧RelV y v:=by
 obtain⟨_,its,r,o,e1,e2,n,e3⟩:=(show ObjOk X.prog X.w H s.heap a (.tup [x,y])from I.hok a _ h);obtain⟨u,v,rfl,ru,rv⟩:=oX r;exact⟨o,n,u,v,e1,e2.1,e3,ru,rv⟩
end
section
variable{prog:Program}{w:World}{A:Around}{E:Value→Shared→Prop}{s:Shared}{it d:Addr}{i ep:Nat}{es:Array DictEntry}
end
end L2
namespace L2
open PySem PySem.Spec PyProof.Rows
section
variable{X:Cx}
end
section
variable{X:Cx}
end
section
variable{X:Cx}{or:List (Addr×Obj)}{σ:St}{H:Hp}{s:Shared}
end
variable{prog:Program}{w:World}{A:Around}{E:Value→Shared→Prop}{s:Shared}
section
variable{X:Cx}
end
section
variable{X:Cx}
end
section
variable{prog:Program}{w:World}{A:Around}{E:Value→Shared→Prop}{s:Shared}{it d:Addr}{i ep:Nat}{es:Array DictEntry}{f0 f1 ok ov:Value}
end
section
variable{prog:Program}{w:World}{A:Around}{E:Value→Shared→Prop}{s:Shared}{d:Addr}{ep:Nat}{es:Array DictEntry}{R:Result→Shared→Prop}
end
end L2
namespace L2
open PySem PySem.Spec PyProof.Rows
section
variable{X:Cx}
end
section
variable{P:Program}{w:World}{A:Around}{E:Value→Shared→Prop}{s:Shared}{a b:Addr}{es:Array DictEntry}{ep e2:Nat}
end
section
variable{prog:Program}{w:World}{A:Around}{E:Value→Shared→Prop}{s:Shared}
end
section
variable{X:Cx}{pos:Pos}
end
section
variable{X:Cx}
def vC(i:Nat):TE:=fun σ H Q=>match List.getD σ i none with
 |some v=>Q v H
 |none=>False
theorem qv{e:Expr}{i:Nat}(h:PE X e (uD i)):PE X e (vC i):=fun or s σ H Q I q=>h or s σ H Q I (by
 unfold vC at q;cases e1:List.getD σ i none with
 |none=>rw[e1]at q;exact q.elim
 |some v=>
  rw[e1]at q;refine⟨v,?_,q⟩;unfold List.getD at e1;cases e2:σ[i]? with
  |none=>rw[e2]at e1;cases e1
  |some o=>rw[e2]at e1;exact yy some e1)
def qI(C:Int→Int→Prop)(g:Int→Int→V):R2:=fun x y H Q=>match x,y with
 |.int i,.int j=>C i j∧Q (g i j) H
 |_,_=>False
def qI0(g:Int→Int→V):R2:=fun x y H Q=>match x,y with
 |.int i,.int j=>Q (g i j) H
 |_,_=>False
theorem qi{C:Int→Int→Prop}{g:Int→Int→V}{f:Value→Value→Sem Value}(h:OpR X f (rI C g)):OpR X f (qI C g):=fun or s σ H x y v u Q I rx ry q=>h or s σ H x y v u Q I rx ry (by
 cases x <;> cases y <;> first | exact q.elim | exact⟨_,_,rfl,rfl,q.1,q.2⟩)
theorem qi0{g:Int→Int→V}{f:Value→Value→Sem Value}(h:OpR X f (rI0 g)):OpR X f (qI0 g):=fun or s σ H x y v u Q I rx ry q=>h or s σ H x y v u Q I rx ry (by
 cases x <;> cases y <;> first | exact q.elim | exact⟨_,_,rfl,rfl,q⟩)
def qEq:R2:=fun x y H Q=>match x,y with
 |.int i,.int j=>Q (.bl (decide (i=j))) H
 |_,_=>False
theorem se(i j:Int):decide (V.int i=V.int j)=decide (i=j):=decide_eq_decide.mpr ⟨fun h=>V.int.inj h,fun h=>by rw[h]⟩
theorem qeq{f:Value→Value→Sem Value}(h:OpR X f rEq):OpR X f qEq:=fun or s σ H x y v u Q I rx ry q=>h or s σ H x y v u Q I rx ry (by
 cases x <;> cases y <;> first | exact q.elim | exact⟨rfl,by rw[se];exact q⟩)
def qIx(A:Hp→Addr→List V→Prop):R2:=fun x y H Q=>match x,y with
 |.ref p,.int i=>∃xs v,A H p xs∧atI xs i=some v∧Q v H
 |_,_=>False
theorem Yq:IxR X (qIx (SqL X.K)):=fun a b or s σ H x y v u Q I rx ry q=>Tc a b or s σ H x y v u Q I rx ry (by
 cases x <;> cases y <;> first | exact q.elim | exact⟨_,q.choose,_,q.choose_spec.choose,rfl,rfl,q.choose_spec.choose_spec⟩)
def qK(Q:Bool→Hp→Prop):VK:=fun x H=>match x with
 |.bl k=>Q k H
 |_=>False
def vy(t:TE):TT:=fun σ H Q=>t σ H (qK Q)
theorem Vb{op:CmpOp}{a b:Expr}{pos:Pos}{ta tb:TE}{r:R2}(ho:OpR X (compareOp op) r)(ha:PE X a ta)(hb:PE X b tb)(hm:behindInMarks op b=false):PT X (.Compare a [op] [b] pos) (vy (tOp r ta tb)):=by
 intro or s σ H Q I h;refine wpAny_isTrue_Compare1 (thn (ha or s σ H _ I h) fun v s1 ⟨x,H1,I1,r1,q1⟩=>thn (hb or s1 σ H1 _ I1 q1) fun u s2 ⟨y,H2,I2,r2,q2⟩=>
  thn (ho or s2 σ H2 x y v u _ I2 r1 r2 q2) fun c s3 ⟨z,H3,I3,r3,q3⟩=>?_) hm
 cases z <;> first | exact q3.elim | skip
 cases r3;exact yx ⟨H3,I3,q3⟩
end
theorem blk{p:Prop}(h:p):p:=h
theorem Y8{X:Cx}{pos:Pos}(i:Nat){x:Str}{e:Expr}{te:TE}{pos':Pos}(hN:X.N.Nodup)(hi:X.N[i]?=some x)(hx:Loc X.env.scope x)(he:PE X e te)(hs:swapsWith e (some (.Name x pos')) pos.line X.env=pure false:=by rfl)(hf:X.fn x=true:=by rfl):PS X (.Assign [.Name x pos'] e pos) (pK te (gB i)):=@R9 _ _ i _ _ _ _ hN hi hx he hs (.inl hf)
theorem Zr{N P:List Str}{sc:Scope}(a:sc.kind=.function)(b:sc.isCoroutine=false)(c:sc.isGenerator=false)(d:N.take P.length=P)(h:N.Nodup∧(∀x∈P,sc.names.lookup x=some .local∨sc.names.lookup x=some .cell)∧∀y∈sc.names,y.2≠.free):FnScope N P sc:=⟨a,b,c,h.1,d,h.2.1,h.2.2⟩
theorem U6{X:Cx}{own:List Str}{scope:Scope}(hc:X.calm=X.calm)(hk:scope.kind=.function)(h1:iJ scope.names=true:=by rfl)(h2:gY X.env.scope.names scope.names=true:=by rfl)(h3:iz X.N scope.names=true:=by rfl):CompOk X own scope:=CompOk.of hc hk h1 h2 h3
theorem Yz{X:Cx}{a b:Expr}{ta tb:TE}{pos:Pos}{r:R2}(hr:IxR X r)(ha:PE X a ta)(hb:PE X b tb)(hs:ku b:=by exact fun _ _=>rfl):PE X (.Subscript a b pos) (tOp r ta tb):=vT hr ha hb hs
end L2
namespace K20
open PySem L2
def top(i:Nat):Stmt:=PySem.Challenge.pw_sumshare_k20_whole_papers_of_merged_tree.main.body.getD i (.Pass ⟨0,0,0,0⟩)
abbrev dE:Stmt:=top 1
theorem k_:FnScope ["room","sums"] ["room","sums"] (aa dE):=Zr rfl rfl rfl rfl (by decide +kernel)
abbrev cP:Stmt:=top 6
theorem Nj:FnScope ["thing"] ["thing"] (aa cP):=Zr rfl rfl rfl rfl (by decide +kernel)
abbrev a8:Stmt:=top 7
theorem Tt:FnScope ["thing","least"] ["thing","least"] (aa a8):=Zr rfl rfl rfl rfl (by decide +kernel)
abbrev aU:Stmt:=top 8
theorem Ud:FnScope ["thing","least","most"] ["thing","least","most"] (aa aU):=Zr rfl rfl rfl rfl (by decide +kernel)
abbrev dh:Stmt:=top 9
theorem ie:FnScope ["thing"] ["thing"] (aa dh):=Zr rfl rfl rfl rfl (by decide +kernel)
theorem Tw:(["sign","thing"]:List Str).Nodup:=by decide +kernel
abbrev bw:Stmt:=top 10
theorem Uy:FnScope ["parts"] ["parts"] (aa bw):=Zr rfl rfl rfl rfl (by decide +kernel)
theorem Yl:(["one","other","parts"]:List Str).Nodup:=by decide +kernel
abbrev c8:Stmt:=top 11
theorem iY:FnScope ["thing"] ["thing"] (aa c8):=Zr rfl rfl rfl rfl (by decide +kernel)
abbrev cI:Stmt:=top 12
theorem V8:FnScope ["thing","is_key","key","count"] ["thing","is_key"] (aa cI):=Zr rfl rfl rfl rfl (by decide +kernel)
abbrev bT:Stmt:=top 13
theorem Ql:FnScope ["thing","is_key"] ["thing","is_key"] (aa bT):=Zr rfl rfl rfl rfl (by decide +kernel)
theorem U5:(["one","thing","is_key"]:List Str).Nodup:=by decide +kernel
theorem Xp:(["key","count","thing","is_key"]:List Str).Nodup:=by decide +kernel
abbrev bi:Stmt:=top 14
theorem Yy:FnScope ["one","other","sums","key","count"] ["one","other"] (aa bi):=Zr rfl rfl rfl rfl (by decide +kernel)
abbrev cE:Stmt:=top 19
theorem W6:FnScope ["tree","steps","waiting","here"] ["tree"] (aa cE):=Zr rfl rfl rfl rfl (by decide +kernel)
abbrev bV:Stmt:=top 20
theorem Qk:FnScope ["tree"] ["tree"] (aa bV):=Zr rfl rfl rfl rfl (by decide +kernel)
theorem U4:(["step","tree"]:List Str).Nodup:=by decide +kernel
abbrev cf:Stmt:=top 21
theorem Wv:FnScope ["tree","things","stream"] ["tree"] (aa cf):=Zr rfl rfl rfl rfl (by decide +kernel)
abbrev eU:Stmt:=top 22
theorem Va:FnScope ["tree","of_stream","of_two","kept","step","other","one"] ["tree","of_stream","of_two"] (aa eU):=Zr rfl rfl rfl rfl (by decide +kernel)
abbrev bE:Stmt:=top 24
theorem R4:FnScope ["room"] ["room"] (aa bE):=Zr rfl rfl rfl rfl (by decide +kernel)
abbrev bA:Stmt:=top 25
theorem Yp:FnScope ["room","thing","day","mark","number","many"] ["room","thing"] (aa bA):=Zr rfl rfl rfl rfl (by decide +kernel)
abbrev bR:Stmt:=top 26
theorem Qm:FnScope ["one","other"] ["one","other"] (aa bR):=Zr rfl rfl rfl rfl (by decide +kernel)
abbrev aS:Stmt:=top 27
theorem Ym:FnScope ["one","other","sums","room","cut","counts"] ["one","other"] (aa aS):=Zr rfl rfl rfl rfl (by decide +kernel)
theorem V5:(["mark","one","other","sums","room","cut","counts"]:List Str).Nodup:=by decide +kernel
abbrev cK:Stmt:=top 28
theorem W5:FnScope ["room","stream","tally","thing"] ["room","stream"] (aa cK):=Zr rfl rfl rfl rfl (by decide +kernel)
abbrev ai:Stmt:=top 29
theorem R3:FnScope ["room","tree"] ["room","tree"] (aa ai):=Zr rfl rfl rfl rfl (by decide +kernel)
abbrev aQ:Stmt:=top 30
theorem Zx:FnScope ["thing","room","counts","let","total"] ["thing"] (aa aQ):=Zr rfl rfl rfl rfl (by decide +kernel)
abbrev b_:Stmt:=top 32
theorem O9:FnScope ["stream"] ["stream"] (aa b_):=Zr rfl rfl rfl rfl (by decide +kernel)
theorem Yg:(["day","mark","number","many","stream"]:List Str).Nodup:=by decide +kernel
abbrev bL:Stmt:=top 34
theorem Zz:FnScope ["one","other","sums","cut","bunches","ahead","value","marks"] ["one","other"] (aa bL):=Zr rfl rfl rfl rfl (by decide +kernel)
theorem Vg:(["times","one","other","sums","cut","bunches","ahead","value","marks"]:List Str).Nodup:=by decide +kernel
theorem Vf:(["mark","one","other","sums","cut","bunches","ahead","value","marks"]:List Str).Nodup:=by decide +kernel
abbrev aK:Stmt:=top 35
theorem Zv:FnScope ["one","other","tally","paper","late_tally","late_paper"] ["one","other"] (aa aK):=Zr rfl rfl rfl rfl (by decide +kernel)
abbrev aN:Stmt:=top 36
theorem Y9:FnScope ["room","stream","kept","thing"] ["room","stream"] (aa aN):=Zr rfl rfl rfl rfl (by decide +kernel)
abbrev ah:Stmt:=top 37
theorem Xy:FnScope ["room","tree","tally","paper"] ["room","tree"] (aa ah):=Zr rfl rfl rfl rfl (by decide +kernel)
abbrev cS:Stmt:=top 38
theorem V9:FnScope ["thing","room","marks","many"] ["thing","room"] (aa cS):=Zr rfl rfl rfl rfl (by decide +kernel)
theorem Ul:(["mark","thing","room","marks","many"]:List Str).Nodup:=by decide +kernel
abbrev cR:Stmt:=top 39
theorem Nk:FnScope ["thing","room"] ["thing","room"] (aa cR):=Zr rfl rfl rfl rfl (by decide +kernel)
theorem Uk:(["one","thing","room"]:List Str).Nodup:=by decide +kernel
abbrev cH:Stmt:=top 40
theorem X1:FnScope ["stream","times","day","mark","number","many"] ["stream"] (aa cH):=Zr rfl rfl rfl rfl (by decide +kernel)
abbrev bN:Stmt:=top 41
theorem Yw:FnScope ["counts","paper","times","marks","many","mark"] ["counts","paper"] (aa bN):=Zr rfl rfl rfl rfl (by decide +kernel)
abbrev cD:Stmt:=top 42
theorem Xk:FnScope ["stream","tally","paper","room","counts","let","total"] ["stream","tally","paper"] (aa cD):=Zr rfl rfl rfl rfl (by decide +kernel)
theorem W2:(["marks","many","stream","tally","paper","room","counts","let","total"]:List Str).Nodup:=by decide +kernel
abbrev eP:Stmt:=top 44
theorem Ux:FnScope ["_law_script","_law_k","_law_cell"] ["_law_script","_law_k"] (aa eP):=Zr rfl rfl rfl rfl (by decide +kernel)
abbrev dN:Stmt:=top 45
theorem Vq:FnScope ["_law_pen_here","_law_size","_law_drawn","_law_number"] ["_law_pen_here","_law_size"] (aa dN):=Zr rfl rfl rfl rfl (by decide +kernel)
abbrev dZ:Stmt:=top 46
theorem Tp:FnScope ["_law_pen_here","_law_k","_law_some"] ["_law_pen_here","_law_k"] (aa dZ):=Zr rfl rfl rfl rfl (by decide +kernel)
abbrev d_:Stmt:=top 47
theorem mo:FnScope ["_law_pen_here"] ["_law_pen_here"] (aa d_):=Zr rfl rfl rfl rfl (by decide +kernel)
abbrev dg:Stmt:=top 48
theorem Ww:FnScope ["_law_pen_here","_law_marks","_law_deep","_law_day","_law_number"] ["_law_pen_here","_law_marks","_law_deep"] (aa dg):=Zr rfl rfl rfl rfl (by decide +kernel)
abbrev cL:Stmt:=top 49
theorem Ni:FnScope ["_law_pen_here","_law_marks","_law_deep","_law_most"] ["_law_pen_here","_law_marks","_law_deep","_law_most"] (aa cL):=Zr rfl rfl rfl rfl (by decide +kernel)
theorem Ui:(["_law_k","_law_pen_here","_law_marks","_law_deep","_law_most"]:List Str).Nodup:=by decide +kernel
abbrev c7:Stmt:=top 50
theorem Tq:FnScope ["_law_pen_here","_law_marks","_law_deep","_law_most","_law_parts","_law_left","_law_one"] ["_law_pen_here","_law_marks","_law_deep","_law_most","_law_parts"] (aa c7):=Zr rfl rfl rfl rfl (by decide +kernel)
abbrev dH:Stmt:=top 51
theorem kK:FnScope ["_law_pen_here"] ["_law_pen_here"] (aa dH):=Zr rfl rfl rfl rfl (by decide +kernel)
abbrev bJ:Stmt:=top 52
theorem We:FnScope ["_law_pen_here","_law_paper","_law_found","_law_bunch"] ["_law_pen_here","_law_paper"] (aa bJ):=Zr rfl rfl rfl rfl (by decide +kernel)
abbrev di:Stmt:=top 53
theorem Yi:FnScope ["_law_pen_here","_law_room_here","_law_tree_here","_law_stream_here","_law_tally","_law_paper","_law_some","_law_at","_law_marks","_law_many_here"] ["_law_pen_here","_law_room_here","_law_tree_here"] (aa di):=Zr rfl rfl rfl rfl (by decide +kernel)
theorem W9:(["_law_marks","_law_many_here","_law_pen_here","_law_room_here","_law_tree_here","_law_stream_here","_law_tally","_law_paper","_law_some","_law_at","#8","#9"]:List Str).Nodup:=by decide +kernel
theorem Uj:(["_law_thing_here","_law_pen_here","_law_room_here","_law_tree_here","_law_stream_here","_law_tally","_law_paper","_law_some","_law_at","_law_marks","_law_many_here"]:List Str).Nodup:=by decide +kernel
abbrev cY:Stmt:=top 54
theorem Xz:FnScope ["_law_script","_law_pen_here","_law_few","_law_room_here","_law_one","_law_other","_law_both","_law_tree_here","_law_ends","_law_turned"] ["_law_script"] (aa cY):=Zr rfl rfl rfl rfl (by decide +kernel)
def bC:Sp:=fun vs H Q _=>∃(a:Addr)(n:Int),vs=[.ref a,.int n]∧PenAt H a∧0<n∧n<1000000000000000000000000000000000000000000000000000000000000∧
 ∀(d:Int)(H':Hp),0≤d→d<n→PenAt H' a→Grw a H H'→Q (.int d) H'
def sk(K:W.Frag):Sp:=fun vs H Q _=>∃(a:Addr)(ns:List Int)(k:Int),vs=[.ref a,.int k]∧SqL K H a (ns.map V.int)∧0≤k∧
 ∀(p:Addr)(H':Hp),H p=none→Same H H'→PenAt H' p→Q (.ref p) H'
def mV:Sp:=fun vs H Q _=>∃(x:V)(k:Int),vs=[x,.int k]∧∀(z:Str)(H':Hp),z∈words→Same H H'→Q (.str z) H'
def p_:Sp:=fun vs H Q _=>∃(a:Addr),vs=[.ref a]∧PenAt H a∧∀(m:Int)(H':Hp),1≤m→m≤1000000000→PenAt H' a→Grw a H H'→Q (.int m) H'
def jX:Sp:=fun vs H Q _=>∃(a:Addr)(n k:Int),vs=[.ref a,.int n,.int k]∧PenAt H a∧0<n∧n<1073741824∧0≤k∧k<30∧
 ∀(r:Addr)(t:Th)(H':Hp),t.Ok→t.num<2^k.toNat→am a H' r=some (.tup t.vs)→PenAt H' a→Grw a H H'→Q (.ref r) H'
def ee:Sp:=fun vs H Q _=>∃(a:Addr)(n k l:Int),vs=[.ref a,.int n,.int k,.int l]∧PenAt H a∧0<n∧n<1073741824∧0≤k∧k<30∧0≤l∧l<1000∧
 ∀(r:Addr)(ts:List Th)(H':Hp),(∀t∈ts,t.Ok)→(∀t∈ts,t.num<2^k.toNat)→(ts.length:Int)≤l→DV (am a H') (.ref r) (.list (ts.map Th.D))→PenAt H' a→Grw a H H'→Q (.ref r) H'
variable{P:Program}{w:World}{K:W.Frag}{mg:Str→Option Value}{base:Heap}{f:Addr}{fd:FuncData}
theorem qg(F:Fun K "_law_draw" "_law_draw" dN f fd):FnOk P w K mg base CX0 1 f fd ["_law_pen_here","_law_size"] bC:=by
 refine F.ok Vq (fun vs H Q E h=>?_) (fun cdv A outer s H vs Q E hr h=>?_)
 ·obtain⟨a,n,rfl,_⟩:=h;rfl
 obtain⟨a,n,rfl,⟨p,q,r,e⟩,h0,h1,hq⟩:=h;refine⟨_,(Z2 (W0 (Zi (qi0 Zw) (Yz Yq (qv (pv 0)) Z3) Z3) (nj (qv (pv 0)) Z3 Ng))
 (Z2 (Ye (Vb (qi0 Ri) (Yz Yq (qv (pv 0)) Z3) Z3 (Zl _)) (Z2 (Y8 2 Vq.nd rfl (Or.inl rfl) (Zi (qi W1) (Yz Yq (qv (pv 0)) Z3) (qv (pv 1))))
 (Z2 (W0 (Zi pJ (Yz Yq (qv (pv 0)) Z3) (qv (pv 1))) (nj (qv (pv 0)) Z3 Ng))
 (Z6 (Zd (qv (pv 2)))))) Zq)
 (Z2 (Y8 3 Vq.nd rfl (Or.inl rfl) (Zi (qi W1) (Zi (qi Vc) (Zi (qi0 Zw) (Zi (qi0 Zw) (Yz Yq (qv (pv 0)) Z3) (Zi (qi Vc) Z3 (Yz Yq (qv (pv 0)) Z3))) Z3) Z3) Z3))
 (Z2 (Y8 3 Vq.nd rfl (Or.inl rfl) (Zi (qi W1) (Zi (qi Vc) (qv (pv 3)) (Zi (qi0 Zw) (Zi (qi0 Zw) (Zi (qi W1) (qv (pv 3)) Z3) (Yz Yq (qv (pv 0)) Z3)) Z3)) Z3))
 (Z6 (Zd (Zi (qi W1) (Zi (qi ko) (Zi (qi W1) (Zi (qi Vc) (qv (pv 3)) (Zi (qi0 Zw) (Zi (qi W1) (qv (pv 3)) Z3) Z3)) Z3) Z3) (qv (pv 1))))))))),?_⟩
 refine⟨_,_,SqL.of e,kh _ _ _,a,_,2,_,rfl,rfl,e,rfl,?_⟩;have e1:upd H a (.lst [.int p,.int q,.int (r+1)]) a=some (.lst [.int p,.int q,.int (r+1)]):=Z5;refine⟨_,_,SqL.of e1,nG _ _ _,?_⟩;refine V2 (fun c=>?_) (fun c=>?_)
 ·refine⟨_,_,SqL.of e1,nG _ _ _,h0,?_⟩;refine⟨_,_,SqL.of e1,nG _ _ _,_,_,rfl,rfl,⟨h0,h1⟩,a,_,0,_,rfl,rfl,e1,rfl,?_⟩;refine hq (p % n) _ (zY _ (by omega)) (zv _ h0) ⟨_,_,_,Z5⟩ ?_;rw[jY];exact Xh
 ·refine⟨_,_,SqL.of e1,sK _ _ _,_,_,SqL.of e1,kh _ _ _,kQ rfl rfl,mulR rfl rfl,W4 rfl,?_⟩;refine⟨W4 rfl,_,_,SqL.of e1,kh _ _ _,wk _ _ _ rfl rfl,W4 rfl,?_⟩;refine⟨W4 rfl,wk _ _ _ rfl rfl,W4 rfl,sA rfl rfl,h0,?_⟩;exact hq _ _ (zY _ (by omega)) (zv _ h0) ⟨_,_,_,e1⟩ Xh
theorem tX(F:Fun K "_law_pen" "_law_pen" eP f fd)(aE:mg "len"=none):FnOk P w K mg base CX0 1 f fd ["_law_script","_law_k"] (sk K):=by
 refine F.ok Ux (fun vs H Q E h=>?_) (fun cdv A outer s H vs Q E hr h=>?_)
 ·obtain⟨a,ns,k,rfl,_⟩:=h;rfl
 obtain⟨a,ns,k,rfl,hS,h0,hq⟩:=h;have hl:(ns.map V.int).length=ns.length:=aq _;refine⟨_,(Z2 (Y8 2 Ux.nd rfl (Or.inl rfl) (Zi (qi0 Zw) (Zi (qi Vc) Z3 (qv (pv 1))) Z3))
 (Z2 (Ye (Vb (qi0 oz) (qv (pv 1)) (Zg Zt rfl aE xZ (Z0 (qv (pv 0)) Z1)) (Zl _)) (Z6 (Y8 2 Ux.nd rfl (Or.inl rfl) (Yz Yq (qv (pv 0)) (qv (pv 1))))) (Z6 (Ye (Vb (qi0 Ri) (Zg Zt rfl aE xZ (Z0 (qv (pv 0)) Z1)) Z3 (Zl _)) (Z6 (Y8 2 Ux.nd rfl (Or.inl rfl) (Zi (qi0 Zw) (Yz Yq (qv (pv 0)) (Zi (qi W1) (qv (pv 1)) (Zg Zt rfl aE xZ (Z0 (qv (pv 0)) Z1)))) (Zi (qi Vc) Z3 (qv (pv 1)))))) Zq)))
 (Z2 (Ye (Vb (qi0 pY) (qv (pv 2)) (Zi (qi iC) Z3 Z3) (Zl _)) (Z6 (Zd (Y4 (Z0 (Zi (qi0 Tu) (qv (pv 2)) (Zi (qi iC) Z3 Z3)) (Z0 (Zi (qi W1) (qv (pv 2)) Z3) (Z0 Z3 Z1)))))) Zq)
 (Z6 (Zd (Y4 (Z0 Z3 (Z0 (Zi (qi0 Zw) (Zi (qi W1) (qv (pv 2)) Z3) (Zi (qi Vc) Z3 (qv (pv 1)))) (Z0 Z3 Z1))))))))),?_⟩
 refine⟨kQ rfl rfl,?_⟩;refine⟨a,_,rfl,.inl hS,?_⟩;have atn:∀i:Int,0≤i→i<ns.length→∃v:Int,atI (ns.map V.int) i=some (.int v):=fun i h1 h2=>by
  obtain⟨v,hv,hm⟩:=N2 (xs:=ns.map V.int) h1 (by rw[hl];exact h2);obtain⟨n,_,rfl⟩:=wW.mp hm;exact⟨n,hv⟩
 have fin:∀x y z:Int,∀p,H p=none→Q (.ref p) (upd H p (.lst [.int x,.int y,.int z])):=fun x y z p hp=>hq p _ hp (Zc hp _) ⟨x,y,z,Z5⟩;refine V2 (fun c=>?_) (fun c=>?_)
 ·have c:=wU c;rw[hl]at c;obtain⟨v,hv⟩:=atn k h0 c;refine⟨_,_,hS,hv,?_⟩;refine⟨gU rfl rfl rfl,?_⟩;refine V2 (fun c=>?_) (fun c=>?_)
  ·refine⟨gU rfl rfl rfl,W4 rfl,leN rfl,fin _ _ _⟩
  ·refine⟨W4 rfl,kQ rfl rfl,leN rfl,fin _ _ _⟩
 ·refine⟨a,_,rfl,.inl hS,?_⟩;refine V2 (fun c=>?_) (fun c=>?_)
  ·have c:=wU c;rw[hl]at c;have hm:=zY k (show(ns.length:Int)≠0 by omega);have hm2:=zv k c;obtain⟨v,hv⟩:=atn (k % (ns.length:Int)) hm hm2;refine⟨a,_,rfl,.inl hS,by rw[hl];exact c,_,_,hS,by rw[hl];exact hv,kQ rfl rfl,?_⟩;refine⟨gU rfl rfl rfl,?_⟩;refine V2 (fun c=>?_) (fun c=>?_)
   ·refine⟨gU rfl rfl rfl,W4 rfl,leN rfl,fin _ _ _⟩
   ·refine⟨W4 rfl,kQ rfl rfl,leN rfl,fin _ _ _⟩
  ·refine⟨gU rfl rfl rfl,?_⟩;refine V2 (fun c=>?_) (fun c=>?_)
   ·refine⟨gU rfl rfl rfl,W4 rfl,leN rfl,fin _ _ _⟩
   ·refine⟨W4 rfl,kQ rfl rfl,leN rfl,fin _ _ _⟩
theorem rk(F:Fun K "_law_word" "_law_word" dZ f fd):FnOk P w K mg base CX0 1 f fd ["_law_pen_here","_law_k"] mV:=by
 refine F.ok Tp (fun vs H Q E h=>?_) (fun cdv A outer s H vs Q E hr h=>?_)
 ·obtain⟨x,k,rfl,_⟩:=h;rfl
 obtain⟨x,k,rfl,hq⟩:=h;refine⟨_,(Z2 (Y8 2 Tp.nd rfl (Or.inl rfl) Wf)
 (Z2 (Y8 2 Tp.nd rfl (Or.inl rfl) (Zi ij (pv 2) Wf))
 (Z6 (Zd (Yz Tc (S7 PySem.F.plainAttrs_str PySem.F.slot_str_split PySem.F.type_str_split ow (pv 2) (Z0 Wf Z1)) (Zi W1 (pv 1) Z3)))))),?_⟩
 refine⟨_,rfl,wordA,wordB,rfl,rfl,qP,?_⟩;refine⟨_,rfl,rfl,wordA++wordB," ",words,rfl,rfl,uY,uX,tY,uz,hZ,by decide,fun l hl=>?_⟩;obtain⟨v,hv,hm⟩:=N2 (xs:=words.map V.str) (i:=k % 26) (zY _ (by decide)) (by rw[aq];exact zv _ (by decide));obtain⟨z,hz,rfl⟩:=wW.mp hm;refine⟨_,rfl,_,_,rfl,rfl,W4 rfl,l,_,_,_,rfl,rfl,SqL.of Z5,hv,?_⟩;exact hq z _ hz (Zc hl _)
theorem qU(ak:Has P w K mg base "_law_draw" 1 ["_law_pen_here","_law_size"] bC)(F:Fun K "_law_many" "_law_many" d_ f fd):FnOk P w K mg base CX0 2 f fd ["_law_pen_here"] p_:=by
 refine F.ok mo (fun vs H Q E h=>?_) (fun cdv A outer s H vs Q E hr h=>?_)
 ·obtain⟨a,rfl,_⟩:=h;rfl
 obtain⟨a,rfl,hp,hq⟩:=h;refine⟨_,(Z2 (Ye (Vb (qeq jB) (Z4 ak hr (Z0 (qv (pv 0)) (Z0 Z3 Z1))) Z3 (Zl _)) (Z6 (Zd (Zi (qi0 Zw) Z3 (Z4 ak hr (Z0 (qv (pv 0)) (Z0 (Zi (qi0 Tu) (Zi (qi iC) Z3 Z3) Z3) Z1)))))) Zq)
 (Z6 (Zd (Zi (qi0 Zw) Z3 (Z4 ak hr (Z0 (qv (pv 0)) (Z0 (Yz Yq (Y4 (Z0 Z3 (Z0 Z3 (Z0 Z3 Z1)))) (Z4 ak hr (Z0 (qv (pv 0)) (Z0 Z3 Z1)))) Z1))))))),?_⟩
 refine⟨a,6,rfl,hp,W4 rfl,ltI rfl,fun d1 H1 _ _ hp1 g1=>?_⟩;refine V2 (fun c=>?_) (fun c=>?_)
 ·refine⟨gU rfl rfl rfl,a,_,rfl,hp1,W4 rfl,ltI rfl,fun d2 H2 x0 x1 hp2 g2=>?_⟩;have x1:d2<999999999:=x1;exact hq _ _ (by omega) (by omega) hp2 (g1.trans g2)
 ·refine⟨leN rfl,fun p hn=>⟨a,3,rfl,hp1.laid hn,W4 rfl,ltI rfl,fun d2 H2 x0 x1 hp2 g2=>?_⟩⟩;obtain⟨v,hv,hm⟩:=at3 (x:=.int 1) (y:=.int 2) (z:=.int 9) x0 x1;have hpa:=hp1.ne hn;have e2:H2 p=some (.lst [.int 1,.int 2,.int 9]):=Sk g2 hpa Z5;refine⟨_,v,SqL.of e2,hv,?_⟩;obtain⟨n,rfl,n0,n1⟩:∃n:Int,v=.int n∧0<n∧n<10:=by
   rcases hm with rfl | rfl | rfl
   ·exact⟨_,rfl,by decide,by decide⟩
   ·exact⟨_,rfl,by decide,by decide⟩
   ·exact⟨_,rfl,by decide,by decide⟩
  refine⟨a,n,rfl,hp2,n0,by omega,fun d3 H3 y0 y1 hp3 g3=>?_⟩;exact hq _ _ (by omega) (by omega) hp3 (g1.trans ((Yr hn).trans (g2.trans g3)))
theorem pG(ak:Has P w K mg base "_law_draw" 1 ["_law_pen_here","_law_size"] bC)(pU:Has P w K mg base "_law_word" 1 ["_law_pen_here","_law_k"] mV)(ng:Has P w K mg base "_law_many" 2 ["_law_pen_here"] p_)(F:Fun K "_law_thing" "_law_thing" dg f fd):FnOk P w K mg base CX0 3 f fd ["_law_pen_here","_law_marks","_law_deep"] jX:=by
 refine F.ok Ww (fun vs H Q E h=>?_) (fun cdv A outer s H vs Q E hr h=>?_)
 ·obtain⟨a,n,k,rfl,_⟩:=h;rfl
 obtain⟨a,n,k,rfl,hp,n0,n1,k0,k1,hq⟩:=h;refine⟨_,(Z2 (Y8 3 Ww.nd rfl (Or.inl rfl) (Zi (qi Vc) (Z4 ak hr (Z0 (qv (pv 0)) (Z0 Z3 Z1))) (Yz Yq (Y4 (Z0 Z3 (Z0 Z3 (Z0 Z3 Z1)))) (Z4 ak hr (Z0 (qv (pv 0)) (Z0 Z3 Z1))))))
 (Z2 (Y8 4 Ww.nd rfl (Or.inl rfl) (Z4 ak hr (Z0 (qv (pv 0)) (Z0 (Zi (qi uo) Z3 (qv (pv 2))) Z1))))
 (Z2 (Ye (Vb (qeq jB) (Z4 ak hr (Z0 (qv (pv 0)) (Z0 Z3 Z1))) Z3 (Zl _)) (Z6 (Y8 4 Ww.nd rfl (Or.inl rfl) (Zi (qi ko) (qv (pv 4)) Z3))) Zq)
 (Z6 (Zd (Yh (Z0 (qv (pv 3)) (Z0 (Z4 pU hr (Z0 (qv (pv 0)) (Z0 (Z4 ak hr (Z0 (qv (pv 0)) (Z0 (qv (pv 1)) Z1))) Z1))) (Z0 (qv (pv 4)) (Z0 (Z4 ng hr (Z0 (qv (pv 0)) Z1)) Z1)))))))))),?_⟩
 refine⟨a,9,rfl,hp,W4 rfl,ltI rfl,fun d1 H1 x0 x1 hp1 g1=>⟨leN rfl,fun p hn=>⟨a,3,rfl,hp1.laid hn,W4 rfl,ltI rfl,fun d2 H2 y0 y1 hp2 g2=>?_⟩⟩⟩;obtain⟨v,hv,hm⟩:=at3 (x:=.int 1) (y:=.int 1) (z:=.int 1000) y0 y1;have e2:H2 p=some (.lst [.int 1,.int 1,.int 1000]):=Sk g2 (hp1.ne hn) Z5;have gg:=g1.trans ((Yr hn).trans g2);obtain⟨m,rfl,m0⟩:∃m:Int,v=.int m∧0<m:=by
  rcases hm with rfl | rfl | rfl
  ·exact⟨_,rfl,by decide⟩
  ·exact⟨_,rfl,by decide⟩
  ·exact⟨_,rfl,by decide⟩
 refine⟨_,_,SqL.of e2,hv,Or.inl ⟨by omega,by omega⟩,?_⟩;have day0:0≤d1*m:=Int.mul_nonneg x0 (by omega);obtain⟨kn,rfl⟩:=Int.eq_ofNat_of_zero_le k0;have hsh:(1:Int)*2^kn≤536870912∧0<(1:Int)*2^kn:=by
  have a1:(2:Nat)^kn≤2^29:=Nat.pow_le_pow_right (by decide) (by omega);have a2:0<(2:Nat)^kn:=Nat.pow_pos (by decide);have a3:((2^kn:Nat):Int)=(2:Int)^kn:=by push_cast;rfl
  rw[Int.one_mul,←a3];have a4:(2:Nat)^29=536870912:=by decide
  omega
 refine⟨⟨by omega,by omega,by decide⟩,a,_,rfl,hp2,hsh.2,by show(1:Int)*2^kn<_;omega,fun d3 H3 z0 z1 hp3 g3=>?_⟩;have z1:d3<(1:Int)*2^kn:=z1;have z2:d3<(2:Int)^kn:=by rw[←Int.one_mul ((2:Int)^kn)];exact z1
 refine⟨a,3,rfl,hp3,W4 rfl,ltI rfl,fun d4 H4 _ _ hp4 g4=>?_⟩;have g5:=gg.trans (g3.trans g4);refine V2 (fun c=>?_) (fun c=>?_)
 ·refine⟨sA rfl rfl,?_⟩;refine⟨a,_,rfl,hp4,n0,by omega,fun d5 H5 _ _ hp5 g6=>⟨_,_,rfl,fun z H6 hz g7=>⟨a,rfl,hp5.same g7,fun mm H7 q0 q1 hp7 g8=>⟨leN rfl,fun r hr7=>?_⟩⟩⟩⟩;refine hq r ⟨d1*m,z,d3 / 4,mm⟩ _ ⟨day0,hz,Int.ediv_nonneg z0 (by decide),q0,by have:=Int.ediv_le_self 4 z0;show d3 / 4<_;omega,q1⟩ (by have:=Int.ediv_le_self 4 z0;show d3 / 4<2^kn;omega) (by rw[Ze (hp7.ne hr7)];exact Z5) (hp7.laid hr7) ?_;obtain⟨_,_,_,e5⟩:=hp5;exact g5.trans (g6.trans ((Vj e5 g7).trans (g8.trans (Yr hr7))))
 ·refine⟨a,_,rfl,hp4,n0,by omega,fun d5 H5 _ _ hp5 g6=>⟨_,_,rfl,fun z H6 hz g7=>⟨a,rfl,hp5.same g7,fun mm H7 q0 q1 hp7 g8=>⟨leN rfl,fun r hr7=>?_⟩⟩⟩⟩;refine hq r ⟨d1*m,z,d3,mm⟩ _ ⟨day0,hz,z0,q0,by show d3<_;omega,q1⟩ (by show d3<2^kn;omega) (by rw[Ze (hp7.ne hr7)];exact Z5) (hp7.laid hr7) ?_;obtain⟨_,_,_,e5⟩:=hp5;exact g5.trans (g6.trans ((Vj e5 g7).trans (g8.trans (Yr hr7))))
theorem lq(ak:Has P w K mg base "_law_draw" 1 ["_law_pen_here","_law_size"] bC)(li:Has P w K mg base "_law_thing" 3 ["_law_pen_here","_law_marks","_law_deep"] jX)(eV:mg "range"=none)(F:Fun K "_law_stream" "_law_stream" cL f fd):FnOk P w K mg base CX0 4 f fd ["_law_pen_here","_law_marks","_law_deep","_law_most"] ee:=by
 refine F.ok Ni (fun vs H Q E h=>?_) (fun cdv A outer s H vs Q E hr h=>?_)
 ·obtain⟨a,n,k,l,rfl,_⟩:=h;rfl
 obtain⟨a,n,k,l,rfl,hp,n0,n1,k0,k1,l0,l1,hq⟩:=h;refine⟨_,(Z6 (Zd (Yo (own:=["_law_k"]) (U6 rfl rfl) (lj rfl eV (Z0 (Z4 ak hr (Z0 (qv (pv 0)) (Z0 (Zi (qi0 Zw) (qv (pv 3)) Z3) Z1))) Z1))
  (fun _ _ _ _ _=>(Z7 (i:=0) Ui rfl (Or.inl rfl) (Or.inr rfl))) (fun _ _ _ _ _=>Yt)
  (fun _ _ _ _ _=>(Z4 li hr (Z0 (pv 1) (Z0 (pv 2) (Z0 (pv 3) Z1)))))))),?_⟩
 refine⟨a,_,rfl,hp,by omega,by omega,fun d H1 x0 x1 hp1 g1=>⟨d,rfl,by omega,by omega,?_⟩⟩;refine iI (fun i ys H'=>PenAt H' a∧Grw a H H'∧∃ts:List Th,ts.length=i∧(∀t∈ts,t.Ok)∧(∀t∈ts,t.num<2^k.toNat)∧DVs (am a H') ys (ts.map Th.D)) ⟨hp1,g1,[],rfl,(fun _ h=>nomatch h),(fun _ h=>nomatch h),DVs.nil⟩ ?_ ?_
 ·rintro i ys H2 C hi ⟨hp2,g2,ts,hl,hok,hkk,dv⟩ hC;have hyl:=dv.length;rw[aq]at hyl;refine⟨Zk (by omega),Wk.refl _,_,rfl,_,rfl,_,rfl,a,n,k,rfl,hp2,n0,n1,k0,k1,fun r t H3 ht hkt hr3 hp3 g3=>hC _ _ ⟨hp3,g2.trans g3,ts++[t],by rw[wH,hl];rfl,?_,?_,?_⟩⟩
  ·intro t' ht'
   rcases wY.mp ht' with h | h
   ·exact hok t' h
   ·rw[wR.mp h];exact ht
  ·intro t' ht'
   rcases wY.mp ht' with h | h
   ·exact hkk t' h
   ·rw[wR.mp h];exact hkt
  ·rw[wO];exact(dv.mono g3).append (.cons (Th.dv hr3) .nil)
 ·rintro ys H2 ⟨hp2,g2,ts,hl,hok,hkk,dv⟩;have hyl:=dv.length;rw[aq]at hyl;refine⟨Zf (by omega),fun p hn=>hq p ts _ hok hkk (by omega) ?_ (hp2.laid hn) (g2.trans (Yr hn))⟩;have e:am a (upd H2 p (.lst ys)) p=some (.lst ys):=by rw[Ze (hp2.ne hn)];exact Z5
  exact .lst e (dv.mono (Yr hn))
def eZ(m:Nat):Sp:=fun vs H Q _=>∃(a:Addr)(n k l p:Int),vs=[.ref a,.int n,.int k,.int l,.int p]∧PenAt H a∧0<n∧n<1073741824∧0≤k∧k<30∧0≤l∧l<1000∧1≤p∧p≤m∧m≤1000∧
 ∀(v:V)(t:Tr)(H':Hp),t.Ok→(∀x∈t.all,x.num<2^k.toNat)→(t.size:Int)≤2*p-1→(t.ht:Int)<p→(t.all.length:Int)≤l*p→DV (am a H') v t.D→PenAt H' a→Grw a H H'→Q v H'
theorem nQ{m:Nat}(ak:Has P w K mg base "_law_draw" 1 ["_law_pen_here","_law_size"] bC)(bH:Has P w K mg base "_law_stream" 4 ["_law_pen_here","_law_marks","_law_deep","_law_most"] ee)(ci:Has P w K mg base "_law_tree" (4+m) ["_law_pen_here","_law_marks","_law_deep","_law_most","_law_parts"] (eZ m))(F:Fun K "_law_tree" "_law_tree" c7 f fd):FnOk P w K mg base CX0 (4+m+1) f fd ["_law_pen_here","_law_marks","_law_deep","_law_most","_law_parts"] (eZ (m+1)):=by
 refine F.ok Tq (fun vs H Q E h=>?_) (fun cdv A outer s H vs Q E hr h=>?_)
 ·obtain⟨a,n,k,l,p,rfl,_⟩:=h;rfl
 obtain⟨a,n,k,l,p,rfl,hp,n0,n1,k0,k1,l0,l1,p0,p1,pm,hq⟩:=h;refine⟨_,(Z2 (Ye (PW.pt (Wm (Vb (qi0 oz) (qv (pv 4)) Z3 (Zl _)) (Xn (Vb (qeq jB) (Z4 ak hr (Z0 (qv (pv 0)) (Z0 Z3 Z1))) Z3 (Zl _))))) (Z6 (Zd (Z4 bH hr (Z0 (qv (pv 0)) (Z0 (qv (pv 1)) (Z0 (qv (pv 2)) (Z0 (qv (pv 3)) Z1))))))) Zq)
 (Z2 (Y8 5 Tq.nd rfl (Or.inl rfl) (Zi (qi0 Zw) Z3 (Z4 ak hr (Z0 (qv (pv 0)) (Z0 (Zi (qi0 Tu) (qv (pv 4)) Z3) Z1)))))
 (Z2 (Y8 6 Tq.nd rfl (Or.inl rfl) (Z4 ci hr (Z0 (qv (pv 0)) (Z0 (qv (pv 1)) (Z0 (qv (pv 2)) (Z0 (qv (pv 3)) (Z0 (qv (pv 5)) Z1)))))))
 (Z6 (Zd (Yh (Z0 Wf (Z0 (qv (pv 6)) (Z0 (Z4 ci hr (Z0 (qv (pv 0)) (Z0 (qv (pv 1)) (Z0 (qv (pv 2)) (Z0 (qv (pv 3)) (Z0 (Zi (qi0 Tu) (qv (pv 4)) (qv (pv 5))) Z1)))))) Z1))))))))),?_⟩
 have leaf:∀(r:Addr)(ts:List Th)(H':Hp),(∀t∈ts,t.Ok)→(∀t∈ts,t.num<2^k.toNat)→(ts.length:Int)≤l→DV (am a H') (.ref r) (.list (ts.map Th.D))→PenAt H' a→Grw a H H'→Q (.ref r) H':=fun r ts H' hok hkk Al dv hp' g'=>by
  refine hq (.ref r) (.leaf ts) H' hok hkk ?_ ?_ ?_ dv hp' g'
  ·show((1:Nat):Int)≤_;omega
  ·show((0:Nat):Int)<_;omega
  ·show(ts.length:Int)≤l*p;have q:l*1≤l*p:=Int.mul_le_mul_of_nonneg_left p0 l0;omega
 refine V2 (fun c=>Wg ?_) (fun c=>?_)
 ·exact⟨a,n,k,l,rfl,hp,n0,n1,k0,k1,l0,l1,leaf⟩
 ·have c:=yJ (xO.mpr c);refine⟨a,5,rfl,hp,W4 rfl,ltI rfl,fun d H1 _ _ hp1 g1=>?_⟩;refine V2 (fun c=>?_) (fun c=>?_)
  ·exact⟨a,n,k,l,rfl,hp1,n0,n1,k0,k1,l0,l1,fun r ts H' hok hkk Al dv hp' g'=>leaf r ts H' hok hkk Al dv hp' (g1.trans g')⟩
  ·refine⟨a,p-1,rfl,hp1,by omega,by omega,fun d2 H2 x0 x1 hp2 g2=>?_⟩;refine⟨a,n,k,l,_,rfl,hp2,n0,n1,k0,k1,l0,l1,by omega,by omega,by omega,fun v1 t1 H3 ok1 kk1 sz1 ht1 al1 dv1 hp3 g3=>?_⟩;refine⟨a,n,k,l,_,rfl,hp3,n0,n1,k0,k1,l0,l1,by omega,by omega,by omega,fun v2 t2 H4 ok2 kk2 sz2 ht2 al2 dv2 hp4 g4=>⟨leN rfl,fun r hn=>?_⟩⟩;refine hq (.ref r) (.node t1 t2) _ ⟨ok1,ok2⟩ (fun x hx=>(wY.mp hx).elim (kk1 x) (kk2 x)) ?_ ?_ ?_ ?_ (hp4.laid hn) (g1.trans (g2.trans (g3.trans (g4.trans (Yr hn)))))
   ·show((t1.size+t2.size+1:Nat):Int)≤_;omega
   ·show((max t1.ht t2.ht+1:Nat):Int)<_;omega
   ·show((t1.all++t2.all).length:Int)≤_;have q:l*(1+d2)+l*(p-(1+d2))=l*p:=by
     rw[←Int.mul_add]
     congr 1
     omega
    rw[wH];omega
   ·have e:am a (upd H4 r (.tup [.str "merged",v1,v2])) r=some (.tup [.str "merged",v1,v2]):=by rw[Ze (hp4.ne hn)];exact Z5
    exact .tup e (.cons (.str _) (.cons (dv1.mono (g4.trans (Yr hn))) (.cons (dv2.mono (Yr hn)) .nil)))
theorem jL(ak:Has P w K mg base "_law_draw" 1 ["_law_pen_here","_law_size"] bC)(bH:Has P w K mg base "_law_stream" 4 ["_law_pen_here","_law_marks","_law_deep","_law_most"] ee)(F:Fun K "_law_tree" "_law_tree" c7 f fd)(b:Binds K fd ["_law_pen_here","_law_marks","_law_deep","_law_most","_law_parts"] [])(hm:mg "_law_tree"=some (.ref f)):
  ∀m:Nat,Has P w K mg base "_law_tree" (4+m) ["_law_pen_here","_law_marks","_law_deep","_law_most","_law_parts"] (eZ m)
 | 0=>Has.of (rE fun vs H Q E h=>by
   obtain⟨a,n,k,l,p,_,_,_,_,_,_,_,_,h1,h2,_⟩:=h;omega) b F.kp hm
 |m+1=>Has.of (nQ ak bH (jL ak bH F b hm m) F) b F.kp hm
def aw:Tr→List (Option (List Th))
 |.leaf ts=>[some ts]
 |.node l r=>aw l++aw r++[none]
def dD:Option Tr→List (Option (List Th))
 |none=>[none]
 |some t=>aw t
theorem Xs:∀t:Tr,(aw t).length=t.size
 |.leaf ts=>rfl
 |.node l r=>by
  show(aw l++aw r++[none]).length=l.size+r.size+1;rw[wH,wH,Xs l,Xs r];rfl
def wtO:Option Tr→Nat
 |none=>1
 |some t=>2*t.size
abbrev wsz(tk:List (Option Tr)):Nat:=(tk.map wtO).sum
theorem Py:∀tk:List (Option Tr),tk.length≤wsz tk
 | []=>pi _
 |none::r=>by
  have:=Py r;simp only[wsz,List.map_cons,List.sum_cons,List.length_cons,wtO]at *;omega
 |some t::r=>by
  have:=Py r;have:=t.size_pos;simp only[wsz,List.map_cons,List.sum_cons,List.length_cons,wtO]at *;omega
def WV(H:Hp)(v:V):Option Tr→Prop
 |none=>v=.non
 |some t=>DV H v t.D
def SV(H:Hp)(v:V):Option (List Th)→Prop
 |none=>v=.non
 |some ts=>DV H v (bF ts)
theorem Ra{α:Type}{R:Hp→V→α→Prop}(hm:∀{H H':Hp},Same H H'→∀{v x},R H v x→R H' v x){H H':Hp}(g:Same H H'):∀{vs:List V}{xs:List α},Paired (R H) vs xs→Paired (R H') vs xs
 |_,_,.nil=>.nil
 |_,_,.cons h r=>.cons (hm g h) (Ra hm g r)
theorem Vs{α β:Type}{R:α→β→Prop}:∀{xs us:List α}{ys ws:List β},Paired R xs ys→Paired R us ws→Paired R (xs++us) (ys++ws)
 |_,_,_,_,.nil,h=>h
 |_,_,_,_,.cons a r,h=>.cons a (Vs r h)
theorem T5{α β:Type}{R:α→β→Prop}:∀{ys:List β}{xs:List α}{y:β},Paired R xs (ys++[y])→∃xs' x,xs=xs'++[x]∧Paired R xs' ys∧R x y
 | [],_,_,.cons a .nil=>⟨[],_,rfl,.nil,a⟩
 |_::_,_,_,.cons a r=>by
  obtain⟨xs',x,e,r',h⟩:=T5 r;exact⟨_::xs',x,by rw[e];rfl,.cons a r',h⟩
theorem Wy{α β:Type}{R:α→β→Prop}:∀{xs:List α}{ys:List β},Paired R xs ys→xs.length=ys.length
 |_,_,.nil=>rfl
 |_,_,.cons _ r=>yy (·+1) (Wy r)
theorem Od{α β:Type}{R:α→β→Prop}:∀{xs:List α}{ys:List β}{i:Nat}{x:α},Paired R xs ys→xs[i]?=some x→∃y,ys[i]?=some y∧R x y
 |_,_,_,_,.nil,e=>by simp at e
 |_,_,0,_,.cons a _,e=>by simp at e;subst e;exact⟨_,rfl,a⟩
 |_,_,i+1,x,.cons _ r,e=>by
  obtain⟨y,h1,h2⟩:=Od (i:=i) r (by simpa using e);exact⟨y,by simpa using h1,h2⟩
def dA:Sp:=fun vs H Q _=>∃(v:V)(t:Tr)(G:Hp),vs=[v]∧Same G H∧DV G v t.D∧t.size≤1000∧
 ∀(r:Addr)(ls:List V)(H':Hp),Same H H'→H r=none→H' r=some (.lst ls)→Paired (SV G) ls (aw t)→Q (.ref r) H'
theorem om(ag:mg "isinstance"=none)(bW:mg "list"=none)(aE:mg "len"=none)(F:Fun K "steps_in" "steps_in" cE f fd):FnOk P w K mg base CX0 1 f fd ["tree"] dA:=by
 refine F.ok W6 (fun vs H Q E h=>?_) (fun cdv A outer s H vs Q E hr h=>?_)
 ·obtain⟨v,t,G,rfl,_⟩:=h;rfl
 obtain⟨v,t,G,rfl,gG,dv,hsz,hq⟩:=h;refine⟨_,(Z2 (Y8 1 W6.nd rfl (Or.inl rfl) (Y4 Z1))
 (Z2 (Y8 2 W6.nd rfl (Or.inl rfl) (Y4 (Z0 (pv 0) Z1)))
 (Z2 (pM xS (Zs Ri (Zg Zt rfl aE xZ (Z0 (pv 2) Z1)) Z3 (Zl _)) (Z2 (Y8 3 W6.nd rfl (Or.inl rfl) (Rf xH zD zE Oi (pv 2)))
 (Z6 (Ye (PW.pt (Wm (Zs p7 (pv 3) Of (Zl _)) (Xn (X4 (Zg Xi rfl ag xB (Z0 (pv 3) (Z0 (Xe (v:=.ty "list") rfl bW PyProof.Rows.boot_list rfl) Z1))))))) (Z6 (Wx (S7 xH zg zh Vy (pv 1) (Z0 (pv 3) Z1)))) (Z6 (Wx (S7 xH PySem.F.slot_list_extend PySem.F.type_list_extend Pe (pv 2) (Z0 (Y4 (Z0 Of (Z0 (Yz Yv (pv 3) Z3) (Z0 (Yz Yv (pv 3) Z3) Z1)))) Z1))))))))
 (Z6 (Zd (pv 1)))))),?_⟩
 refine⟨leN rfl,fun Fa hFa=>?_⟩;refine⟨_,rfl,leN rfl,fun Wa hWa=>?_⟩;have hne:Wa≠Fa:=fun e=>by rw[e,Z5]at hWa;cases hWa
 have hWa0:H Wa=none:=by rw[Z9 hne]at hWa;exact hWa
 refine⟨fun m σ H1=>∃(ws ls:List V)(tk:List (Option Tr))(dn:List (Option (List Th)))(o:Option V),σ=[some v,some (.ref Fa),some (.ref Wa),o]∧Same H H1∧H1 Wa=some (.lst ws)∧H1 Fa=some (.lst ls)∧
   Paired (WV G) ws tk∧Paired (SV G) ls dn∧dn++tk.reverse.flatMap dD=aw t∧wsz tk+dn.length≤3000∧m=wsz tk,
  ⟨2*t.size,[v],[],[some t],[],none,rfl,(Zc hFa _).trans (Zc hWa _),Z5,by rw[Z9 (Ne.symm hne)];exact Z5,.cons dv .nil,.nil,by simp[dD],by simp[wsz,wtO];omega,by simp[wsz,wtO]⟩,?_⟩
 rintro m σ H1 ⟨ws,ls,tk,dn,o,rfl,g1,eW,eF,dW,dF,hsum,Al,rfl⟩;have dl:=Wy dW;refine⟨_,rfl,Wa,ws,rfl,.inl (SqL.of eW),_,_,rfl,rfl,_,rfl,?_⟩;refine V2 (fun c=>?_) (fun c=>?_)
 ·have c:(0:Int)<(ws.length:Int):=wU c;obtain⟨tk',t1,rfl⟩:∃tk' t1,tk=tk'++[t1]:=by
   have:tk≠[]:=fun e=>by rw[e,yZ]at dl;omega
   exact⟨tk.dropLast,tk.getLast this,(List.dropLast_concat_getLast this).symm⟩
  refine⟨fun σ' H'=>∃m',m'<wsz (tk'++[t1])∧_,fun _ _ h=>h,?_⟩;obtain⟨ws',y,rfl,dW',dy⟩:=T5 dW;refine⟨_,rfl,.inl ⟨rfl,_,SqL.of eW⟩,Wa,_,y,rfl,rfl,eW,by simp,?_⟩;rw[List.dropLast_concat];have g4:Same H (upd H1 Wa (.lst ws')):=Yj g1 hWa0;have eW4:upd H1 Wa (.lst ws') Wa=some (.lst ws'):=Z5;have eF4:upd H1 Wa (.lst ws') Fa=some (.lst ls):=by rw[Z9 (Ne.symm hne)];exact eF
  revert g4 eW4 eF4;generalize upd H1 Wa (.lst ws')=H4;intro g4 eW4 eF4;have hts:wsz (tk'++[t1])=wsz tk'+wtO t1:=by simp[wsz]
  rw[hts]at Al;have tl:=Py tk';have dl:=Wy dW';have dl2:=Wy dF;cases t1 with
  |none=>
   cases (show y=V.non from dy);have hlen2:wsz tk'+1+dn.length≤3000:=Al;refine⟨_,rfl,rfl,_,rfl,Wg (Wg ?_)⟩;refine⟨_,rfl,.inl ⟨rfl,_,SqL.of eF4⟩,_,rfl,Fa,ls,_,rfl,rfl,eF4,Zk (by omega),?_⟩;refine⟨wsz tk',by rw[hts];show wsz tk'<wsz tk'+1;omega,ws',ls++[.non],tk',dn++[none],_,rfl,Yj g4 hFa,by rw[Z9 hne];exact eW4,Z5,dW',Vs dF (.cons (show SV G .non none from rfl) .nil),?_,by rw[wH];show wsz tk'+(dn.length+1)≤3000;omega,rfl⟩;rw[←hsum];simp[dD]
  |some t1=>
  have hpos:=t1.size_pos;have dy:DV G y t1.D:=dy;cases t1 with
  |leaf ts=>
   obtain⟨b,xs,rfl,eb,qb⟩:=DV.list_inv dy;have hlen2:wsz tk'+2*1+dn.length≤3000:=Al;refine⟨_,rfl,rfl,_,rfl,Yu ?_⟩;refine⟨_,rfl,_,_,"list",_,rfl,TyOf.lst (g4 _ _ (gG _ _ eb)),uZ,_,rfl,Wg ?_⟩;refine⟨_,rfl,.inl ⟨rfl,_,SqL.of eF4⟩,_,rfl,Fa,ls,_,rfl,rfl,eF4,Zk (by omega),?_⟩;refine⟨wsz tk',by rw[hts];show wsz tk'<wsz tk'+2*1;omega,ws',ls++[.ref b],tk',dn++[some ts],_,rfl,Yj g4 hFa,by rw[Z9 hne];exact eW4,Z5,dW',Vs dF (.cons (show SV G (.ref b) (some ts)from dy) .nil),?_,by rw[wH];show wsz tk'+(dn.length+1)≤3000;omega,rfl⟩;rw[←hsum];simp[dD,aw]
  |node l r=>
   obtain⟨b,mm,x,y,rfl,eb,dx,dy2⟩:=DV.node_inv dy;have eb4:=g4 _ _ (gG _ _ eb);have hlen2:wsz tk'+2*(l.size+r.size+1)+dn.length≤3000:=Al;refine⟨_,rfl,rfl,_,rfl,Yu ?_⟩;refine⟨_,rfl,_,_,"list",_,rfl,TyOf.tup eb4,uR,_,rfl,Yu ?_⟩;refine⟨_,rfl,.inl ⟨rfl,_,SqL.of eW4⟩,_,rfl,b,_,2,_,rfl,rfl,SqT.of eb4,kh _ _ _,_,rfl,b,_,1,_,rfl,rfl,SqT.of eb4,sK _ _ _,leN rfl,fun q nq=>?_⟩;have g5:=g4.trans (Zc nq (.lst [.non,y,x]));have eW5:upd H4 q (.lst [.non,y,x]) Wa=some (.lst ws'):=by rw[Z9 (Zh eW4 nq)];exact eW4
   have eF5:upd H4 q (.lst [.non,y,x]) Fa=some (.lst ls):=by rw[Z9 (Zh eF4 nq)];exact eF4
   have eq5:upd H4 q (.lst [.non,y,x]) q=some (.lst [.non,y,x]):=Z5;refine⟨Wa,q,ws',[.non,y,x],rfl,rfl,eW5,eq5,Zf (by show ws'.length+3≤_;omega),?_⟩;have nw:wsz (tk'++[none,some r,some l])=wsz tk'+(1+2*r.size+2*l.size):=by simp[wsz,wtO];omega
   refine⟨wsz (tk'++[none,some r,some l]),?_,ws'++[.non,y,x],ls,tk'++[none,some r,some l],dn,_,rfl,Yj g5 hWa0,Z5,by rw[Z9 (Ne.symm hne)];exact eF5,?_,dF,?_,?_,rfl⟩
   ·rw[hts,nw];show _<wsz tk'+2*(l.size+r.size+1);omega
   ·exact Vs dW' (.cons (show WV G .non none from rfl) (.cons (show WV G y (some r)from dy2) (.cons (show WV G x (some l)from dx) .nil)))
   ·rw[←hsum];simp[dD,aw]
   ·rw[nw];omega
 ·have c:¬((0:Int)<(ws.length:Int)):=yJ (xO.mpr c);have e:tk=[]:=yL (by omega);subst e;refine⟨_,rfl,?_⟩;have e:dn=aw t:=by simpa using hsum
  subst e;exact hq Fa ls _ g1 hFa eF dF
section
variable{α:Type}
def evT(fs:List Th→α)(fm:α→α→α):Tr→α
 |.leaf ts=>fs ts
 |.node l r=>fm (evT fs fm l) (evT fs fm r)
def mf(fs:List Th→α)(fm:α→α→α):List (Option (List Th))→List α→Option (List α)
 | [],st=>some st
 |some ts::r,st=>mf fs fm r (fs ts::st)
 |none::r,y::x::st=>mf fs fm r (fm x y::st)
 |none::_,_=>none
theorem Tx(fs:List Th→α)(fm:α→α→α):∀(t:Tr)(r:List (Option (List Th)))(st:List α),mf fs fm (aw t++r) st=mf fs fm r (evT fs fm t::st)
 |.leaf ts,r,st=>rfl
 |.node a b,r,st=>by
  show mf fs fm (aw a++aw b++[none]++r) st=_;rw[xw,xw,Tx fs fm a,Tx fs fm b];rfl
def isFs(P:Program)(w:World)(K:W.Frag)(mg:Str→Option Value)(base:Heap)(k:Nat)(Rep:Hp→V→α→Prop)(fs:List Th→α)(Hh:Hp)(f:Addr)(OkS:List Th→Prop):Prop:=∃(fd:FuncData)(ps:List Str)(sp:Sp),FnOk P w K mg base CX0 k f fd ps sp∧Binds K fd ps []∧Cal base f∧
 ∀(H:Hp)(v:V)(ts:List Th)(Q:VK)(a:Addr)(ys:List V),Same Hh H→H a=some (.lst ys)→DV H v (bF ts)→OkS ts→ts.length+1≤1000→(∀(p:V)(H':Hp),Same H H'→Rep (am a H') p (fs ts)→Q p H')→sp [v] H Q E0
def isFm(P:Program)(w:World)(K:W.Frag)(mg:Str→Option Value)(base:Heap)(k:Nat)(Rep:Hp→V→α→Prop)(fm:α→α→α)(Hh:Hp)(f:Addr)(I:α→Prop)(mu:α→Nat):Prop:=∃(fd:FuncData)(ps:List Str)(sp:Sp),FnOk P w K mg base CX0 k f fd ps sp∧Binds K fd ps []∧Cal base f∧
 ∀(H:Hp)(u v:V)(x y:α)(Q:VK)(a:Addr)(ys:List V),Same Hh H→H a=some (.lst ys)→Rep (am a H) u x→Rep (am a H) v y→I x→I y→mu x+mu y+1≤1000→(∀(p:V)(H':Hp),Same H H'→Rep (am a H') p (fm x y)→Q p H')→sp [u,v] H Q E0
def ba:List (Option (List Th))→Nat
 | []=>0
 |some ts::r=>ts.length+1+ba r
 |none::r=>1+ba r
theorem U1:∀(l m:List (Option (List Th))),ba (l++m)=ba l+ba m
 | [],m=>(zA _).symm
 |some ts::l,m=>by
  show ts.length+1+ba (l++m)=ts.length+1+ba l+ba m;rw[U1 l m];omega
 |none::l,m=>by
  show 1+ba (l++m)=1+ba l+ba m;rw[U1 l m];omega
theorem Up:∀t:Tr,ba (aw t)=t.all.length+t.size
 |.leaf ts=>rfl
 |.node l r=>by
  show ba (aw l++aw r++[none])=(l.all++r.all).length+(l.size+r.size+1);rw[U1,U1,Up l,Up r,wH];show _+(1+0)=_;omega
def dB(P:Program)(w:World)(K:W.Frag)(mg:Str→Option Value)(k:Nat)(base:Heap):Sp:=fun vs H Q _=>∃(α:Type)(Rep:Hp→V→α→Prop)(fs:List Th→α)(fm:α→α→α)(I:α→Prop)(OkS:List Th→Prop)(mu:α→Nat)(v:V)(f1 f2:Addr)(t:Tr),
 vs=[v,.ref f1,.ref f2]∧DV H v t.D∧t.size≤1000∧(∀s∈t.streams,OkS s)∧isFs P w K mg base k Rep fs H f1 OkS∧isFm P w K mg base k Rep fm H f2 I mu∧(∀ts,mu (fs ts)≤ts.length+1)∧(∀x y,mu (fm x y)≤mu x+mu y+1)∧t.all.length+t.size≤1000∧(∀ts,OkS ts→I (fs ts))∧(∀x y,I x→I y→I (fm x y))∧
 (∀{H H':Hp},Same H H'→∀{v x},Rep H v x→Rep H' v x)∧∀(p:V)(H':Hp),Same H H'→Rep H' p (evT fs fm t)→Q p H'
end
theorem Wd:∀(t:Tr)(ts:List Th),some ts∈aw t→ts∈t.streams
 |.leaf s,ts,h=>by
  have:=wR.mp h;cases this;exact .head _
 |.node a b,ts,h=>by
  show ts∈a.streams++b.streams
  rcases wY.mp (show some ts∈aw a++aw b++[none]from h)with h | h
  ·rcases wY.mp h with h | h
   ·exact xv _ (Wd a ts h)
   ·exact wP _ (Wd b ts h)
  ·exact nomatch wR.mp h
theorem Uo{p:Addr}{H0 H1 H2:Hp}(n:H0 p=none)(s:Same H0 H1)(g:Grw p H1 H2):Same H0 H2:=fun b u e=>(Zb (g b u (by rw[Ze (Zh e n)];exact s b u e))).2
theorem qT{a:Addr}{H:Hp}{o:HO}:Same (am a H) (upd H a o):=fun b u q=>by
 obtain⟨h1,h2⟩:=Zb q;rw[Z9 h1];exact h2
theorem nA{k:Nat}(hk:1≤k)(cN:Has P w K mg base "steps_in" 1 ["tree"] dA)(F:Fun K "grown" "grown" eU f fd):FnOk P w K mg base CX0 (k+1) f fd ["tree","of_stream","of_two"] (dB P w K mg k base):=by
 refine F.ok Va (fun vs H Q E h=>?_) (fun cdv A outer s H vs Q E hr h=>?_)
 ·obtain⟨_,_,_,_,_,_,_,v,f1,f2,t,rfl,_⟩:=h;rfl
 obtain⟨α,Rep,fs,fm,I,OkS,mu,v,f1,f2,t,rfl,dv,hsz,hok,⟨fd1,ps1,sp1,F1,B1,C1,u1⟩,⟨fd2,ps2,sp2,F2,B2,C2,u2⟩,mu1,mu2,cap,I1,I2,mono,hq⟩:=h;refine⟨_,(Z2 (Y8 3 Va.nd rfl (Or.inl rfl) (Y4 Z1))
 (Z2 (X8 xS rfl (Zy (Z4 cN hr (Z0 (pv 0) Z1))) (Z7 (i:=4) Va.nd rfl (Or.inl rfl))
 (Z6 (Ye (Zs p7 (pv 4) Of (Zl _)) (Z2 (Y8 5 Va.nd rfl (Or.inl rfl) (Rf xH zD zE Oi (pv 3)))
 (Z2 (Y8 6 Va.nd rfl (Or.inl rfl) (Rf xH zD zE Oi (pv 3)))
 (Z6 (Wx (S7 xH zg zh Vy (pv 3) (Z0 (Re (i:=2) hr (Z0 (pv 6) (Z0 (pv 5) Z1))) Z1)))))) (Z6 (Wx (S7 xH zg zh Vy (pv 3) (Z0 (Re (i:=1) hr (Z0 (pv 4) Z1)) Z1)))))))
 (Z6 (Zd (Rf xH zD zE Oi (pv 3)))))),?_⟩
 refine⟨leN rfl,fun kp nkp=>?_⟩;refine⟨_,rfl,v,t,H,rfl,Zc nkp _,dv,hsz,fun r ls H2 s2 nr er pr=>?_⟩;have ekp:H2 kp=some (.lst []):=s2 _ _ Z5;have sH:Same H H2:=(Zc nkp _).trans s2;have krne:r≠kp:=fun z=>by rw[z,Z5]at nr;cases nr
 have lsl:=Wy pr;rw[Xs]at lsl;refine⟨r,rfl,⟨_,SqL.of er⟩,?_⟩;refine Xm (xs:=ls) (fun i σ H'=>∃(o4 o5 o6:Option V)(vs:List V)(st:List α),σ=[some v,some (.ref f1),some (.ref f2),some (.ref kp),o4,o5,o6]∧Grw kp H2 H'∧H' kp=some (.lst vs)∧Paired (Rep (am kp H')) vs st.reverse∧(∀x∈st,I x)∧st.length≤i∧(st.map mu).sum+ba ((aw t).drop i)≤1000∧mf fs fm ((aw t).drop i) st=some [evT fs fm t])
  ⟨_,_,_,[],[],rfl,Same.refl _,ekp,.nil,(fun _ h=>nomatch h),pi _,?_,?_⟩ ?_ ?_ ?_
 ·rw[List.drop_zero,Up];show 0+_≤1000;omega
 ·have:=Tx fs fm t [] [];rw[xF]at this;exact this
 ·rintro i σ H' _ ⟨_,_,_,_,_,_,g,_⟩;exact SqL.of (Zb (g _ _ (by rw[Ze krne];exact er))).2
 ·rintro i x σ H' hx ⟨o4,o5,o6,vs,st,rfl,g,ek,pst,ist,stl,cst,hm⟩;obtain⟨o,ho,sv⟩:=Od pr hx;have hd:(aw t).drop i=o::(aw t).drop (i+1):=by
   have Ac:=(wL.mp ho).1;rw[List.drop_eq_getElem_cons Ac]
   congr 1
   exact(wL.mp ho).2
  rw[hd]at hm cst;have ilt:i<ls.length:=(wL.mp hx).1;have vl:=Wy pst;rw[List.length_reverse]at vl;cases o with
  |none=>
   cases (show x=V.non from sv);refine⟨_,rfl,rfl,_,rfl,Wg ?_⟩
   match st,hm,ist,stl,pst,vl,cst with
   |y::x::Aj,hm,ist,stl,pst,vl,cst=>
   have cst:mu y+(mu x+(Aj.map mu).sum)+(1+ba ((aw t).drop (i+1)))≤1000:=cst;have e:(y::x::Aj).reverse=Aj.reverse++[x]++[y]:=by simp
   rw[e]at pst;obtain⟨vs1,b,rfl,pst1,rb⟩:=T5 pst;obtain⟨vs2,a,rfl,pst2,ra⟩:=T5 pst1;refine⟨_,rfl,.inl ⟨rfl,_,SqL.of ek⟩,kp,_,b,rfl,rfl,ek,by simp,?_⟩;rw[List.dropLast_concat];refine⟨_,rfl,.inl ⟨rfl,_,SqL.of Z5⟩,kp,_,a,rfl,rfl,Z5,by simp,?_⟩;rw[List.dropLast_concat,jY];have gc:Grw kp H' (upd H' kp (.lst vs2)):=Xh;have ec:upd H' kp (.lst vs2) kp=some (.lst vs2):=Z5;generalize upd H' kp (.lst vs2)=Hc at gc ec⊢;have sc:Same H Hc:=Uo nkp sH (g.trans gc);refine⟨_,rfl,.inl ⟨rfl,_,SqL.of ec⟩,f2,fd2,ps2,sp2,rfl,F2,B2,C2,_,rfl,_,rfl,?_⟩;refine u2 Hc a b x y _ kp vs2 sc ec (mono gc ra) (mono gc rb) (ist x (.tail _ (.head _))) (ist y (.head _)) (by omega) fun p H3 s3 rp=>?_;have ek3:=s3 _ _ ec;have g3:Grw kp Hc H3:=Vj ec s3;refine⟨kp,vs2,p,rfl,rfl,ek3,Zk (by rw[List.length_append,List.length_append]at vl;simp at vl;simp at stl;omega),?_⟩;refine⟨_,_,_,vs2++[p],fm x y::Aj,rfl,g.trans (gc.trans (g3.trans Xh)),Z5,?_,fun z hz=>?_,by simp at stl⊢;omega,?_,hm⟩
   ·rw[y4];refine Vs (Ra (R:=Rep) mono (gc.trans (g3.trans Xh)) pst2) (.cons ?_ .nil);exact mono Xh rp
   ·rcases wX.mp hz with rfl | hz
    ·exact I2 _ _ (ist x (.tail _ (.head _))) (ist y (.head _))
    ·exact ist z (.tail _ (.tail _ hz))
   ·show mu (fm x y)+(Aj.map mu).sum+_≤1000;have:=mu2 x y;omega
  |some ts=>
   have sv:DV H x (bF ts):=sv;obtain⟨b,xs,rfl,eb,qb⟩:=DV.list_inv sv;refine⟨_,rfl,rfl,_,rfl,Yu ?_⟩;have oks:=hok ts (Wd t ts (wZ ho));have sc:Same H H':=Uo nkp sH g;have dvx:DV H' (.ref b) (bF ts):=sv.mono sc;refine⟨_,rfl,.inl ⟨rfl,_,SqL.of ek⟩,f1,fd1,ps1,sp1,rfl,F1,B1,C1,_,rfl,?_⟩;have cst:(st.map mu).sum+(ts.length+1+ba ((aw t).drop (i+1)))≤1000:=cst;refine u1 H' (.ref b) ts _ kp vs sc ek dvx oks (by omega) fun p H3 s3 rp=>?_;have ek3:=s3 _ _ ek;have g3:Grw kp H' H3:=Vj ek s3;refine⟨kp,vs,p,rfl,rfl,ek3,Zk (by omega),?_⟩;refine⟨_,_,_,vs++[p],fs ts::st,rfl,g.trans (g3.trans Xh),Z5,?_,fun z hz=>?_,by simp;omega,?_,hm⟩
   ·rw[y4];refine Vs (Ra (R:=Rep) mono (g3.trans Xh) pst) (.cons ?_ .nil);exact mono Xh rp
   ·rcases wX.mp hz with rfl | hz
    ·exact I1 _ oks
    ·exact ist z hz
   ·show mu (fs ts)+(st.map mu).sum+_≤1000;have:=mu1 ts;omega
 ·rintro σ H' ⟨o4,o5,o6,vs,st,rfl,g,ek,pst,ist,stl,cst,hm⟩;rw[lsl,←Xs,List.drop_length]at hm;have hst:st=[evT fs fm t]:=xA hm;subst hst
  match vs,pst with
  | [p],.cons rp .nil=>
  refine⟨_,rfl,.inl ⟨rfl,_,SqL.of ek⟩,kp,_,p,rfl,rfl,ek,rfl,?_⟩;exact hq p _ (Yj (Uo nkp sH g) nkp) (mono qT rp)
def jZ:Sp:=fun vs H Q _=>∃(a:Addr)(room:Int)(kvs:List (Key×V))(ns:List Int),vs=[.int room,.ref a]∧H a=some (.dK kvs)∧kvs.map (·.2)=ns.map V.int∧0≤room∧ns.length<64∧∀H',Same H H'→Q (.int (cX room ns)) H'
def dw:Sp:=fun vs H Q _=>∃(room:Int),vs=[.int room]∧∀(p:Addr) H',Same H H'→DV H' (.ref p) (Ty.D ⟨room,[],0,0⟩)→Q (.ref p) H'
def dz:Sp:=fun vs H Q _=>∃(r q:Addr)(a b:Ty),vs=[.ref r,.ref q]∧DV H (.ref r) a.D∧DV H (.ref q) b.D∧a.Ok∧b.Ok∧a.room=b.room∧∀(d:Addr) H',Same H H'→H d=none→H' d=some (.dK (ax (aF a.cs b.cs)))→Q (.ref d) H'
def eE:Sp:=fun vs H Q _=>∃(r q:Addr)(a b:Ty),vs=[.ref r,.ref q]∧DV H (.ref r) a.D∧DV H (.ref q) b.D∧a.Ok∧b.Ok∧a.room=b.room∧∀(p:Addr) H',Same H H'→DV H' (.ref p) (aL a b).D→Q (.ref p) H'
def nM:Sp:=fun vs H Q _=>∃(b1 b2:Addr)(rows1 rows2:List V)(xs ys:Ps),vs=[.ref b1,.ref b2]∧H b1=some (.tup rows1)∧H b2=some (.tup rows2)∧PairsAt H rows1 (ax xs)∧PairsAt H rows2 (ax ys)∧(xs.map (·.1)).Nodup∧(ys.map (·.1)).Nodup∧xs.length≤20∧ys.length≤20∧∀(d:Addr) H',Same H H'→H d=none→H' d=some (.dK (ax (aF xs ys)))→Q (.ref d) H'
theorem sS(aE:mg "len"=none)(aG:mg "sorted"=none)(F:Fun K "cut_of" "cut_of" dE f fd):FnOk P w K mg base CX0 1 f fd ["room","sums"] jZ:=by
 refine F.ok k_ (fun vs H Q E h=>?_) (fun cdv A outer s H vs Q E hr h=>?_)
 ·obtain⟨a,room,kvs,ns,rfl,_⟩:=h;rfl
 obtain⟨a,room,kvs,ns,rfl,ha,hns,h0,h64,hq⟩:=h;refine⟨_,(Z2 (Ye (Zs pT (Zg lL rfl aE xZ (Z0 (pv 1) Z1)) (pv 0) (Zl _)) (Z6 (Zd Z3)) Zq)
 (Z6 (Zd (Yz Tc (mz (gO rfl) rfl aG yt (Z0 (Rf PySem.F.plainAttrs_dict ze PySem.F.type_dict_values lu (pv 1)) Z1) (sj X6 uu)) (pv 0))))),?_⟩
 have hl:kvs.length=ns.length:=by
  have e:=yy List.length hns;rw[aq,aq]at e;exact e
 refine⟨_,rfl,a,kvs,rfl,ha,_,rfl,_,_,rfl,rfl,_,rfl,?_⟩;refine V2 (fun c=>?_) (fun c=>?_)
 ·have c:=wU c;have q:=hq H (Same.refl _);have e:cX room ns=0:=wM (by omega);rw[e]at q;exact q
 ·have c:=yJ (xO.mpr c);refine⟨_,rfl,m9 ha,a,kvs,rfl,rfl,ha,fun v nv=>?_⟩;have ha2:upd H v (bY v a) a=some (.dK kvs):=by rw[Z9 (Zh ha nv)];exact ha
  refine⟨v,a,kvs,ns,rfl,rfl,Z5,ha2,hns,h64,fun p ms np pm pw=>?_⟩;have em:=nF pm pw;subst em;obtain⟨c1,e1,e2,_⟩:=Xc (ns:=ns) h0 (by omega);have e3:atI ((srt ns).map V.int) room=some (.int c1):=by
   have q:=N1 (xs:=(srt ns).map V.int) (j:=room.toNat) (v:=.int c1) (by rw[xi,e1];rfl);rw[show((room.toNat:Nat):Int)=room by omega]at q;exact q
  refine⟨_,rfl,p,_,_,_,rfl,rfl,SqL.of Z5,e3,?_⟩;rw[←e2];exact hq _ ((Zc nv _).trans (Zc np _))
theorem oy(F:Fun K "empty_tally" "empty_tally" bE f fd):FnOk P w K mg base CX0 1 f fd ["room"] dw:=by
 refine F.ok R4 (fun vs H Q E h=>?_) (fun cdv A outer s H vs Q E hr h=>?_)
 ·obtain⟨room,rfl,_⟩:=h;rfl
 obtain⟨room,rfl,hq⟩:=h;refine⟨_,(Z6 (Zd (Yh (Z0 (pv 0) (Z0 (Yh Z1) (Z0 Z3 (Z0 Z3 Z1))))))),?_⟩;have gg:Same H H:=fun _ _ h=>h;refine⟨_,rfl,leN rfl,?_⟩;intro p n_p;generalize hz:upd _ p _=H1;revert H1;refine blk ?_;intro H1 hz;have gz:=Zj hz n_p;have Ab:=Zp hz;clear hz;have gg:=gg.trans gz;refine⟨leN rfl,?_⟩;intro q n_q;generalize hz:upd _ q _=H2;revert H2;refine blk ?_;intro H2 hz;have gz:=Zj hz n_q;have Ah:=Zp hz;clear hz;have gg:=gg.trans gz;have Ab:=gz _ _ Ab;exact hq q _ gg (Ty.dv (t:=⟨room,[],0,0⟩) Ah Ab .nil)
theorem oG(dk:mg "dict"=none)(F:Fun K "added_counts" "added_counts" bi f fd):FnOk P w K mg base CX0 1 f fd ["one","other"] nM:=by
 refine F.ok Yy (fun vs H Q E h=>?_) (fun cdv A outer s H vs Q E hr h=>?_)
 ·obtain⟨r,q,rows1,rows2,xs,ys,rfl,_⟩:=h;rfl
 obtain⟨b1,b2,rows1,rows2,xs,ys,rfl,eb1,eb2,pa1,pa2,nda,ndb,la,lb,hq⟩:=h;refine⟨_,(Z2 (Y8 2 Yy.nd rfl (Or.inl rfl) (Xv (Qc rfl) rfl dk PyProof.Rows.boot_dict (Z0 (pv 0) Z1)))
 (Z2 (X8 xS rfl (Rb (pv 1)) (X9 rfl (Za (Z7 (i:=3) Yy.nd rfl (Or.inl rfl)) (Za (Z7 (i:=4) Yy.nd rfl (Or.inl rfl)) Y6)))
 (Z6 (Oc (Td hr) (pv 2) (pv 3) (Zi Zw (Rc (Td hr) (pv 2) (pv 3) Z3 ⟨rfl,rfl,rfl,rfl⟩) (pv 4)) rfl)))
 (Z6 (Zd (pv 2))))),?_⟩
 have kl1:=Yc xs;refine⟨_,rfl,b1,rows1,_,rfl,eb1,pa1,by omega,?_⟩;rw[Rn (by rw[Wr];exact mL nda)];have gg:Same H H:=fun _ _ h=>h;intro d n_d;generalize hz:upd _ d _=H1;revert H1;refine blk ?_;intro H1 hz;have gz:=Zj hz n_d;have e_d:=Zp hz;clear hz;have gg:=gg.trans gz;refine⟨_,rfl,b2,rfl,⟨_,SqT.of (gz _ _ eb2)⟩,?_⟩;have rl:=pa2.length;rw[Yc]at rl;refine jT (xs:=rows2) (fun n σ H'=>∃(o3 o4:Option V),σ=[some (.ref b1),some (.ref b2),some (.ref d),o3,o4]∧Same H H'∧H' d=some (.dK (ax (aF xs (ys.take n))))) ⟨_,_,rfl,gz,by rw[List.take_zero,Rm nda];exact e_d⟩ ?_ ?_ ?_
 ·rintro i σ H' _ ⟨_,_,_,g,_⟩;exact SqT.of (g _ _ eb2)
 ·rintro i x σ H' hx ⟨o3,o4,rfl,g,ed⟩;obtain⟨y,p,rfl,hp,ey⟩:=pa2.getP hx;have tk:ys.take (i+1)=ys.take i++[p]:=Zo hp;have nt:∀n,((ys.take n).map (·.1)).Nodup:=fun n=>by rw[List.map_take];exact ndb.sublist (yM _ _)
  have len:(ax (aF xs (ys.take i))).length≤40:=by
   have:=Xb xs (ys.take i);rw[wT]at this;rw[Yc];unfold aF;rw[aq];omega
  refine⟨y,_,rfl,SqT.of (g _ _ ey),rfl,_,_,rfl,_,_,rfl,rfl,?_⟩;refine⟨_,rfl,d,rfl,.inl ⟨_,.inl ed⟩,_,rfl,_,DGet.k (k:=Sum.inr p.1) ed,_,rfl,_,_,Sv nda (nt i) p.1,rfl,?_⟩;refine⟨_,rfl,_,rfl,d,_,rfl,DPut.k (k:=Sum.inr p.1) ed (Zk (by omega)),some (.str p.1),some (.int p.2),rfl,Yj g n_d,?_⟩;rw[gR nda (by rw[←tk];exact nt (i+1)),←tk];exact Z5
 rintro σ H2 ⟨o3,o4,rfl,g2,ed⟩;rw[rl,xp]at ed;exact⟨_,rfl,hq d _ g2 n_d ed⟩
theorem jc(dS:Has P w K mg base "added_counts" 1 ["one","other"] nM)(F:Fun K "added_sums" "added_sums" bR f fd):FnOk P w K mg base CX0 2 f fd ["one","other"] dz:=by
 refine F.ok Qm (fun vs H Q E h=>?_) (fun cdv A outer s H vs Q E hr h=>?_)
 ·obtain⟨r,q,a,b,rfl,_⟩:=h;rfl
 obtain⟨r,q,a,b,rfl,ha,hb,oka,okb,rm,hq⟩:=h;refine⟨_,(Z2 (Ye (Zs S9 (Yz Yv (pv 0) Z3) (Yz Yv (pv 1) Z3) (Zl _)) (Z6 qd) Zq)
 (Z6 (Zd (Z4 dS hr (Z0 (Yz Yv (pv 0) Z3) (Z0 (Yz Yv (pv 1) Z3) Z1)))))),?_⟩
 obtain⟨_,b1,rows1,e0,ea,eb1,pa1⟩:=DV.ty_inv ha;cases e0;obtain⟨_,b2,rows2,e0,eb,eb2,pa2⟩:=DV.ty_inv hb;cases e0;have la:=oka.len;have lb:=okb.len;have ra:=oka.room2;refine⟨_,rfl,_,_,_,_,rfl,rfl,SqT.of ea,rfl,_,rfl,_,_,_,_,rfl,rfl,SqT.of eb,rfl,rfl,_,rfl,?_⟩;rw[wV (by rw[rm])];refine Yu ?_;exact⟨_,rfl,_,_,_,_,rfl,rfl,SqT.of ea,rfl,_,rfl,_,_,_,_,rfl,rfl,SqT.of eb,rfl,b1,b2,rows1,rows2,a.cs,b.cs,rfl,eb1,eb2,pa1,pa2,oka.nd,okb.nd,by omega,by omega,fun d H' sm nd ed=>hq d H' sm nd ed⟩
theorem sO(aG:mg "sorted"=none)(aD:mg "tuple"=none)(bU:Has P w K mg base "added_sums" 2 ["one","other"] dz)(dO:Has P w K mg base "cut_of" 1 ["room","sums"] jZ)(F:Fun K "merged_tally" "merged_tally" aS f fd):FnOk P w K mg base CX0 3 f fd ["one","other"] eE:=by
 refine F.ok Ym (fun vs H Q E h=>?_) (fun cdv A outer s H vs Q E hr h=>?_)
 ·obtain⟨r,q,a,b,rfl,_⟩:=h;rfl
 obtain⟨r,q,a,b,rfl,ha,hb,oka,okb,rm,hq⟩:=h;refine⟨_,(Z2 (@R9 _ _ 2 _ _ _ _ Ym.nd rfl (Or.inr rfl) (Z4 bU hr (Z0 (pv 0) (Z0 (pv 1) Z1))) (by rfl) (by first | exact .inl rfl | exact .inr rfl))
 (Z2 (Y8 3 Ym.nd rfl (Or.inl rfl) (Yz Yv (pv 0) Z3))
 (Z2 (@R9 _ _ 4 _ _ _ _ Ym.nd rfl (Or.inr rfl) (Z4 dO hr (Z0 (pv 3) (Z0 (pv 2) Z1))) (by rfl) (by first | exact .inl rfl | exact .inr rfl))
 (Z2 (j6 (i:=5) Ym.nd rfl rfl (own:=["mark"]) (U6 rfl rfl) (Zy (Zg (Qb rfl) rfl aG yt (Z0 (pv 2) Z1)))
  (fun _ _ _ _ _=>(Z7 (i:=0) V5 rfl (Or.inl rfl) (Or.inr rfl))) (fun _ _ _ _ _=>(Ob (Zs Ri (Og (Td hr) (pv 3) (pv 0) (fun _ _=>rfl)) (pv 5) (Zl _))))
  (fun _ _ _ _ _=>(Yh (Z0 (pv 0) (Z0 (Zi Tu (Og (Td hr) (pv 3) (pv 0) (fun _ _=>rfl)) (pv 5)) Z1)))))
 (Z6 (Zd (Yh (Z0 (pv 3) (Z0 (Xv Ub rfl aD yg (Z0 (pv 5) Z1)) (Z0 (Zi Zw (Zi Zw (Yz Yv (pv 0) Z3) (Yz Yv (pv 1) Z3)) (pv 4)) (Z0 (Zi Zw (Yz Yv (pv 0) Z3) (Yz Yv (pv 1) Z3)) Z1))))))))))),?_⟩
 refine⟨_,rfl,_,rfl,r,q,a,b,rfl,ha,hb,oka,okb,rm,fun d H1 s1 n_d e_d=>?_⟩;have gg:=s1;have la:=oka.len;have lb:=okb.len;have ra:=oka.room2;have r0:=oka.room1;have kl:=Yc (aF a.cs b.cs);have ml:(aF a.cs b.cs).length=(af a.cs b.cs).length:=by unfold aF;rw[aq]
 have km:=Xb a.cs b.cs;have ndm:((aF a.cs b.cs).map (·.1)).Nodup:=by rw[X2];exact Xl oka.nd okb.nd
 obtain⟨_,b1,rows1,e0,ea,eb1,pa1⟩:=DV.ty_inv (ha.mono s1);cases e0;refine⟨_,rfl,_,_,_,_,rfl,rfl,SqT.of ea,rfl,?_⟩;refine⟨_,rfl,_,rfl,d,a.room,_,bd (aF a.cs b.cs),rfl,e_d,js _,by omega,by rw[e8];omega,fun H6 s6=>?_⟩;have gg:=gg.trans s6;have e_d:=s6 _ _ e_d;have ct:cX a.room (bd (aF a.cs b.cs))=ar a.room a.cs b.cs:=by rw[jA];rfl
 rw[ct];have keys:(ax (aF a.cs b.cs)).map (·.1)=(af a.cs b.cs).map Sum.inr:=by rw[Wr,X2]
 have vm:∀z∈af a.cs b.cs,aX (ax (aF a.cs b.cs)) (Sum.inr z)=some (.int (aj a.cs b.cs z)):=fun z hz=>by
  obtain⟨i,hi⟩:=xL.mp hz;have e:(aF a.cs b.cs)[i]?=some (z,aj a.cs b.cs z):=by unfold aF;rw[xi,hi];rfl
  exact Su ndm e
 refine⟨_,rfl,d,_,af a.cs b.cs,rfl,e_d,keys,by omega,?_⟩;intro x n_x;generalize hz:upd _ x _=H7;revert H7;refine blk ?_;intro H7 hz;have gz:=Zj hz n_x;have e_x:=Zp hz;clear hz;have gg:=gg.trans gz;have e_d:=gz _ _ e_d;refine⟨x,rfl,⟨_,SqL.of e_x⟩,?_⟩;have sl:(bf (af a.cs b.cs)).length=(af a.cs b.cs).length:=(Zn _).length_eq;refine X3 (xs:=(bf (af a.cs b.cs)).map V.str) (fun i ys H'=>Same H7 H'∧PairsAt H' ys (ax ((((bf (af a.cs b.cs)).take i).filter fun z=>decide (ar a.room a.cs b.cs<aj a.cs b.cs z)).map fun z=>(z,aj a.cs b.cs z-ar a.room a.cs b.cs)))) ⟨Same.refl _,.nil⟩ ?_ ?_ ?_
 ·rintro i ys H' _ ⟨g,_⟩;exact SqL.of (g _ _ e_x)
 ·rintro i y ys H' C hx ⟨g,pa⟩ hC;rw[xi]at hx;obtain⟨z,hz,rfl⟩:=xm.mp hx;have zin:z∈af a.cs b.cs:=(Zn _).mem_iff.mp (wZ hz);have ed:=g _ _ e_d;have yl:=pa.length;rw[Yc,aq]at yl;have yl2:=xV (fun z=>decide (ar a.room a.cs b.cs<aj a.cs b.cs z)) ((bf (af a.cs b.cs)).take i);rw[wT]at yl2;have tk:=Zo hz;refine⟨Zk (by omega),Wk.refl _,_,rfl,_,rfl,d,_,rfl,.inl ⟨_,Sum.inr z,.inl ed,rfl,(vm z zin).symm⟩,_,rfl,_,_,rfl,rfl,_,rfl,?_⟩;by_cases big:ar a.room a.cs b.cs<aj a.cs b.cs z
  ·rw[wV big];refine Wg ⟨_,rfl,_,rfl,_,rfl,d,_,rfl,.inl ⟨_,Sum.inr z,.inl ed,rfl,(vm z zin).symm⟩,_,rfl,_,_,rfl,rfl,leN rfl,fun p np=>hC _ _ ⟨g.trans (Zc np _),?_⟩⟩;have one:([z].filter fun z=>decide (ar a.room a.cs b.cs<aj a.cs b.cs z))=[z]:=by rw[xC,wM (wV big)];rfl
   rw[tk,yh,one,wO];unfold ax;rw[wO];exact(pa.mono (Zc np _)).append (.cons Z5 .nil)
  ·rw[xg big];refine Yu (hC _ _ ⟨g,?_⟩);have one:([z].filter fun z=>decide (ar a.room a.cs b.cs<aj a.cs b.cs z))=[]:=by rw[List.filter_cons,if_neg (by simpa using big)];rfl
   rw[tk,yh,one,xF];exact pa
 rintro ys H8 ⟨g8,pa⟩;have gg:=gg.trans g8;rw[aq,xp]at pa;have k_pa:PairsAt H8 ys (ax (csM a.room a.cs b.cs)):=pa;have yl:=k_pa.length;have cl:=ji oka okb;rw[Yc]at yl;refine⟨Zf (by omega),?_⟩;intro l1 n_l1;generalize hz:upd _ l1 _=H9;revert H9;refine blk ?_;intro H9 hz;have gz:=Zj hz n_l1;have e_l1:=Zp hz;clear hz;have gg:=gg.trans gz;have k_pa:=k_pa.mono gz;have ha:=ha.mono gg;have hb:=hb.mono gg;obtain⟨_,_,_,e0,ea,_,_⟩:=DV.ty_inv ha;cases e0;obtain⟨_,_,_,e0,eb,_,_⟩:=DV.ty_inv hb;cases e0;refine⟨_,rfl,_,rfl,l1,_,rfl,.inl ⟨SqL.of e_l1,?_⟩⟩;intro l2 n_l2;generalize hz:upd _ l2 _=H10;revert H10;refine blk ?_;intro H10 hz;have gz:=Zj hz n_l2;have tW:=Zp hz;clear hz;have gg:=gg.trans gz;have k_pa:=k_pa.mono gz;have ea:=gz _ _ ea;have eb:=gz _ _ eb;refine⟨_,rfl,_,_,_,_,rfl,rfl,SqT.of ea,rfl,_,rfl,_,_,_,_,rfl,rfl,SqT.of eb,rfl,_,_,rfl,rfl,_,rfl,_,_,rfl,rfl,?_⟩;refine⟨_,rfl,_,_,_,_,rfl,rfl,SqT.of ea,rfl,_,rfl,_,_,_,_,rfl,rfl,SqT.of eb,rfl,_,_,rfl,rfl,leN rfl,?_⟩;intro l3 n_l3;generalize hz:upd _ l3 _=H11;revert H11;refine blk ?_;intro H11 hz;have gz:=Zj hz n_l3;have e_l3:=Zp hz;clear hz;have gg:=gg.trans gz;have k_pa:=k_pa.mono gz;have tW:=gz _ _ tW;exact hq l3 _ gg (Ty.dv (t:=aL a b) e_l3 tW k_pa)
def ThW(t:Th):Prop:=t.word∈words∧1≤t.many
def thT(room:Int)(t:Th):Ty:=⟨room,[(t.word,t.many)],0,t.many⟩
theorem Tl{room:Int}{t:Th}(h1:1≤room)(h2:room≤20)(h:ThW t):(thT room t).Ok:=
 ⟨h1,h2,xG.mpr ⟨(fun z=>nomatch z),xY⟩,List.pairwise_singleton _ _,fun p hp=>by rw[wR.mp hp];exact h.1,fun p hp=>by rw[wR.mp hp];exact h.2,by show((1:Nat):Int)≤room;omega,z5 _,
  by show(room+1)*0≤t.many-(t.many+0);omega,by show t.many-(t.many+0)≤2*room*0;omega⟩
def bj(room:Int)(ts:List Th):Ty:=ts.foldl (fun a t=>aL a (thT room t)) (Ty.zero room)
theorem jO{room:Int}(h1:1≤room)(h2:room≤20):∀(ts:List Th)(a:Ty),a.Ok→a.room=room→(∀t∈ts,ThW t)→(ts.foldl (fun a t=>aL a (thT room t)) a).Ok∧(ts.foldl (fun a t=>aL a (thT room t)) a).room=room
 | [],a,ha,hr,_=>⟨ha,hr⟩
 |t::ts,a,ha,hr,h=>jO h1 h2 ts _ (Xa ha (Tl h1 h2 (h t (.head _))) hr) hr fun x hx=>h x (.tail _ hx)
theorem P4{room:Int}(h1:1≤room)(h2:room≤20){ts:List Th}(h:∀t∈ts,ThW t):(bj room ts).Ok∧(bj room ts).room=room:=jO h1 h2 ts _ (Sh h1 h2) rfl h
def jU:Sp:=fun vs H Q _=>∃(r:Addr)(room:Int)(t:Th),vs=[.int room,.ref r]∧H r=some (.tup t.vs)∧∀(p:Addr) H',Same H H'→DV H' (.ref p) (thT room t).D→Q (.ref p) H'
def oW:Sp:=fun vs H Q _=>∃(v:V)(room:Int)(ts:List Th),vs=[.int room,v]∧1≤room∧room≤20∧DV H v (bF ts)∧(∀t∈ts,ThW t)∧∀(p:Addr) H',Same H H'→DV H' (.ref p) (bj room ts).D→Q (.ref p) H'
theorem sR(F:Fun K "thing_tally" "thing_tally" bA f fd):FnOk P w K mg base CX0 1 f fd ["room","thing"] jU:=by
 refine F.ok Yp (fun vs H Q E h=>?_) (fun cdv A outer s H vs Q E hr h=>?_)
 ·obtain⟨r,room,t,rfl,_⟩:=h;rfl
 obtain⟨r,room,t,rfl,e_r,hq⟩:=h;refine⟨_,(Z2 (W0 (pv 1) (X9 rfl (Za (Z7 (i:=2) Yp.nd rfl (Or.inl rfl)) (Za (Z7 (i:=3) Yp.nd rfl (Or.inl rfl)) (Za (Z7 (i:=4) Yp.nd rfl (Or.inl rfl)) (Za (Z7 (i:=5) Yp.nd rfl (Or.inl rfl)) Y6))))))
 (Z6 (Zd (Yh (Z0 (pv 0) (Z0 (Yh (Z0 (Yh (Z0 (pv 3) (Z0 (pv 5) Z1))) Z1)) (Z0 Z3 (Z0 (pv 5) Z1)))))))),?_⟩
 have gg:Same H H:=fun _ _ h=>h;refine⟨_,rfl,r,_,rfl,SqT.of e_r,rfl,_,_,rfl,_,_,rfl,_,_,rfl,_,_,rfl,rfl,?_⟩;refine⟨_,rfl,_,rfl,_,rfl,leN rfl,?_⟩;intro p1 n_p1;generalize hz:upd _ p1 _=H1;revert H1;refine blk ?_;intro H1 hz;have gz:=Zj hz n_p1;have fq:=Zp hz;clear hz;have gg:=gg.trans gz;refine⟨leN rfl,?_⟩;intro p2 n_p2;generalize hz:upd _ p2 _=H2;revert H2;refine blk ?_;intro H2 hz;have gz:=Zj hz n_p2;have lm:=Zp hz;clear hz;have gg:=gg.trans gz;have fq:=gz _ _ fq;refine⟨_,rfl,leN rfl,?_⟩;intro p3 n_p3;generalize hz:upd _ p3 _=H3;revert H3;refine blk ?_;intro H3 hz;have gz:=Zj hz n_p3;have e_p3:=Zp hz;clear hz;have gg:=gg.trans gz;have fq:=gz _ _ fq;have lm:=gz _ _ lm;exact hq p3 _ gg (Ty.dv (t:=thT room t) e_p3 lm (.cons fq .nil))
theorem uC(bD:Has P w K mg base "empty_tally" 1 ["room"] dw)(bg:Has P w K mg base "merged_tally" 3 ["one","other"] eE)(bB:Has P w K mg base "thing_tally" 1 ["room","thing"] jU)(F:Fun K "tally_of" "tally_of" cK f fd):FnOk P w K mg base CX0 4 f fd ["room","stream"] oW:=by
 refine F.ok W5 (fun vs H Q E h=>?_) (fun cdv A outer s H vs Q E hr h=>?_)
 ·obtain⟨v,room,ts,rfl,_⟩:=h;rfl
 obtain⟨v,room,ts,rfl,r0,r1,dv,tw,hq⟩:=h;refine⟨_,(Z2 (Y8 2 W5.nd rfl (Or.inl rfl) (Z4 bD hr (Z0 (pv 0) Z1)))
 (Z2 (X8 xS rfl (Zy (pv 1)) (Z7 (i:=3) W5.nd rfl (Or.inl rfl))
 (Z6 (Y8 2 W5.nd rfl (Or.inl rfl) (Z4 bg hr (Z0 (pv 2) (Z0 (Z4 bB hr (Z0 (pv 0) (Z0 (pv 3) Z1))) Z1))))))
 (Z6 (Zd (pv 2))))),?_⟩
 obtain⟨b,xs,rfl,eb,qb⟩:=DV.list_inv dv;have xl:=qb.length;rw[aq]at xl;refine⟨_,rfl,_,rfl,fun p0 H0 s0 d0=>?_⟩;refine⟨_,rfl,b,rfl,⟨_,SqL.of (s0 _ _ eb)⟩,?_⟩;refine Xm (xs:=xs) (fun n σ H'=>∃(o3:Option V)(p:Addr),σ=[some (.int room),some (.ref b),some (.ref p),o3]∧Same H H'∧DV H' (.ref p) (bj room (ts.take n)).D) ⟨_,p0,rfl,s0,d0⟩ ?_ ?_ ?_
 ·rintro n σ H' _ ⟨_,_,_,g,_⟩;exact SqL.of (g _ _ eb)
 ·rintro n x σ H' hx ⟨o3,p,rfl,g,dp⟩;obtain⟨t,c,ht,rfl,ec,hm⟩:=DVs.th_at qb hx;have tk:=Zo ht;have twn:∀u∈ts.take n,ThW u:=fun u hu=>tw u (yj hu);obtain⟨oka,rma⟩:=P4 r0 r1 twn;refine⟨_,rfl,_,rfl,_,rfl,c,room,t,rfl,g _ _ ec,fun p1 H1 s1 d1=>?_⟩;refine⟨p,p1,bj room (ts.take n),thT room t,rfl,dp.mono s1,d1,oka,Tl r0 r1 (tw t hm),rma,fun p2 H2 s2 d2=>?_⟩;refine⟨_,p2,rfl,g.trans (s1.trans s2),?_⟩;have e:bj room (ts.take (n+1))=aL (bj room (ts.take n)) (thT room t):=by
   unfold bj;rw[tk,zK];rfl
  rw[e];exact d2
 ·rintro σ H' ⟨o3,p,rfl,g,dp⟩;rw[xl,xp]at dp;exact⟨_,rfl,hq p _ g dp⟩
def ke:Sp:=fun vs H Q _=>∃(r q:Addr)(a b:Ty),vs=[.ref r,.ref q]∧DV H (.ref r) a.D∧DV H (.ref q) b.D∧a.Ok∧b.Ok∧a.room=b.room∧∀(p:Addr) H',Same H H'→H p=none→PapAt H' p (aA a b)→Q (.ref p) H'
theorem tD(i j:Int):(if j<i then j else i)=min i j:=by omega
theorem gT{H2:Hp}{d v p:Addr}{kvs:List (Key×V)}{o:Obj}{t u:HO}(ed:H2 d=some (.dK kvs))(nv:upd H2 d (.frz o (.dK kvs)) v=none)(np:upd (upd H2 d (.frz o (.dK kvs))) v t p=none):
  d≠p∧H2 p=none∧upd (upd (upd (upd H2 d (.frz o (.dK kvs))) v t) p u) d (.dK kvs) p=some u∧Same H2 (upd (upd (upd (upd H2 d (.frz o (.dK kvs))) v t) p u) d (.dK kvs)):=by
 have nvd:d≠v:=Zh Z5 nv;have nHv:H2 v=none:=by rw[Z9 (Ne.symm nvd)]at nv;exact nv
 have npv:p≠v:=fun z=>by rw[z,Z5]at np;cases np
 rw[Z9 npv]at np;have npd:d≠p:=Zh Z5 np;have nH:H2 p=none:=by rw[Z9 (Ne.symm npd)]at np;exact np
 refine⟨npd,nH,by rw[Z9 (Ne.symm npd)];exact Z5,fun b w e=>?_⟩;by_cases hbd:b=d
 ·subst hbd;rw[ed]at e;cases e;exact Z5
 ·rw[Z9 hbd,Z9 (Zh e nH),Z9 (Zh e nHv),Z9 hbd];exact e
theorem uS(aG:mg "sorted"=none)(aD:mg "tuple"=none)(mP:mg "set"=none)(oO:mg "min"=none)(bU:Has P w K mg base "added_sums" 2 ["one","other"] dz)(dO:Has P w K mg base "cut_of" 1 ["room","sums"] jZ)(F:Fun K "bunches_of" "bunches_of" bL f fd):FnOk P w K mg base CX0 3 f fd ["one","other"] ke:=by
 refine F.ok Zz (fun vs H Q E h=>?_) (fun cdv A outer s H vs Q E hr h=>?_)
 ·obtain⟨r,q,a,b,rfl,_⟩:=h;rfl
 obtain⟨r,q,a,b,rfl,ha,hb,oka,okb,rm,hq⟩:=h;refine⟨_,(Z2 (@R9 _ _ 2 _ _ _ _ Zz.nd rfl (Or.inr rfl) (Z4 bU hr (Z0 (pv 0) (Z0 (pv 1) Z1))) (by rfl) (by first | exact .inl rfl | exact .inr rfl))
 (Z2 (@R9 _ _ 3 _ _ _ _ Zz.nd rfl (Or.inr rfl) (Z4 dO hr (Z0 (Yz Yv (pv 0) Z3) (Z0 (pv 2) Z1))) (by rfl) (by first | exact .inl rfl | exact .inr rfl))
 (Z2 (Ye (Zs jB (pv 3) Z3 (Zl _)) (Z6 (Zd (Y4 Z1))) Zq)
 (Z2 (Y8 4 Zz.nd rfl (Or.inl rfl) (Y4 Z1))
 (Z2 (Y8 5 Zz.nd rfl (Or.inl rfl) Z3)
 (Z2 (X8 xS rfl (Zy (Zg (fg rfl) rfl aG yt (Z0 (Xv (k8 rfl) rfl mP PyProof.Rows.boot_set (Z0 (uc (Yo (own:=["times"]) (U6 rfl rfl) (qE (rL (pv 2)))
  (fun _ _ _ _ _=>(Z7 (i:=0) Vg rfl (Or.inl rfl) (Or.inr rfl))) (fun _ _ _ _ _=>Yt)
  (fun _ _ _ _ _=>(Zg (k9 rfl) rfl oO PyProof.Rows.boot_min (Z0 (pv 0) (Z0 (pv 4) Z1)))))) Z1)) Z1))) (Z7 (i:=6) Zz.nd rfl (Or.inr rfl))
 (Z2 (j6 (i:=7) Zz.nd rfl rfl (own:=["mark"]) (U6 rfl rfl) (Zy (Zg (Qb rfl) rfl aG yt (Z0 (pv 2) Z1)))
  (fun _ _ _ _ _=>(Z7 (i:=0) Vf rfl (Or.inl rfl) (Or.inr rfl))) (fun _ _ _ _ _=>(Ob (Zs pY (Og (Td hr) (pv 3) (pv 0) (fun _ _=>rfl)) (pv 7) (Zl _))))
  (fun _ _ _ _ _=>(pv 0)))
 (Z2 (Wx (S7 xH zg zh Vy (pv 4) (Z0 (Yh (Z0 (Xv Ub rfl aD yg (Z0 (pv 7) Z1)) (Z0 (Zi Tu (pv 6) (pv 5)) Z1))) Z1)))
 (Z6 (Y8 5 Zz.nd rfl (Or.inl rfl) (pv 6))))))
 (Z6 (Zd (pv 4))))))))),?_⟩
 refine⟨_,rfl,_,rfl,r,q,a,b,rfl,ha,hb,oka,okb,rm,fun d H1 s1 n_d e_d=>?_⟩;have gg:=s1;have la:=oka.len;have lb:=okb.len;have ra:=oka.room2;have r0:=oka.room1;have kl:=Yc (aF a.cs b.cs);have ml:(aF a.cs b.cs).length=(af a.cs b.cs).length:=by unfold aF;rw[aq]
 have km:=Xb a.cs b.cs;have ndm:((aF a.cs b.cs).map (·.1)).Nodup:=by rw[X2];exact Xl oka.nd okb.nd
 obtain⟨_,b1,rows1,e0,ea,eb1,pa1⟩:=DV.ty_inv (ha.mono s1);cases e0;refine⟨_,rfl,_,_,_,_,rfl,rfl,SqT.of ea,rfl,?_⟩;refine⟨_,rfl,d,a.room,_,bd (aF a.cs b.cs),rfl,e_d,js _,by omega,by rw[e8];omega,fun H6 s6=>?_⟩;have gg:=gg.trans s6;have e_d:=s6 _ _ e_d;have ct:cX a.room (bd (aF a.cs b.cs))=ar a.room a.cs b.cs:=by rw[jA];rfl
 rw[ct];have keys:(ax (aF a.cs b.cs)).map (·.1)=(af a.cs b.cs).map Sum.inr:=by rw[Wr,X2]
 have vm:∀z∈af a.cs b.cs,aX (ax (aF a.cs b.cs)) (Sum.inr z)=some (.int (aj a.cs b.cs z)):=fun z hz=>by
  obtain⟨i,hi⟩:=xL.mp hz;have e:(aF a.cs b.cs)[i]?=some (z,aj a.cs b.cs z):=by unfold aF;rw[xi,hi];rfl
  exact Su ndm e
 refine⟨_,rfl,rfl,_,rfl,?_⟩;by_cases c0:ar a.room a.cs b.cs=0
 ·rw[wV (by rw[c0])];refine Wg ⟨leN rfl,fun p np=>hq p _ (gg.trans (Zc np _)) ?_ ?_⟩
  ·by_cases z:H p=none
   ·exact z
   ·obtain⟨u,hu⟩:=yX.mp z;rw[gg _ _ hu]at np;cases np
  ·unfold aA;rw[wM c0];exact⟨[],Z5,.nil⟩
 rw[xg (fun z=>c0 (V.int.inj z))];refine Yu ?_;refine⟨leN rfl,?_⟩;intro l n_l;generalize hz:upd _ l _=H7;revert H7;refine blk ?_;intro H7 hz;have gz:=Zj hz n_l;have Ae:=Zp hz;clear hz;have gg:=gg.trans gz;have e_d:=gz _ _ e_d;have nHl:H l=none:=by
  by_cases z:H l=none
  ·exact z
  ·obtain⟨u,hu⟩:=yX.mp z;rw[s6 _ _ (s1 _ _ hu)]at n_l;cases n_l
 have dl:d≠l:=fun z=>by rw[z,Ae]at e_d;cases e_d
 refine⟨d,_,e_d,fun o=>?_⟩;refine⟨_,rfl,d,_,rfl,.inr ⟨o,Z5⟩,fun v nv=>?_⟩;have nvd:d≠v:=Zh Z5 nv;refine⟨v,d,o,_,rfl,Z5,by rw[Z9 nvd];exact Z5,?_⟩;refine kF (fun i ys H'=>H'=upd (upd H7 d (.frz o (.dK (ax (aF a.cs b.cs))))) v (bY v d)∧ys=(((af a.cs b.cs).take i).map fun z=>V.int (min (aj a.cs b.cs z) (ar a.room a.cs b.cs)))) ⟨rfl,rfl⟩ ?_ ?_ ?_
 ·rintro i ys H' ⟨rfl,_⟩;rw[Z9 nvd];exact Z5
 ·rintro i p ys H' C hp ⟨rfl,rfl⟩ hC;unfold ax aF at hp;rw[xD,xi]at hp;obtain⟨z,hz,rfl⟩:=xm.mp hp;refine⟨Zk (by rw[aq,wT];omega),Wk.refl _,_,rfl,_,rfl,_,_,rfl,hC _ _ ⟨rfl,?_⟩⟩;rw[Zo hz,wO,tD];rfl
 rintro ys H' ⟨rfl,rfl⟩;rw[kl,ml,xp];refine⟨Zf (by rw[aq];omega),fun p np=>?_⟩;obtain⟨npd,nHp,ep,sp⟩:=gT (u:=.lst ((af a.cs b.cs).map fun z=>V.int (min (aj a.cs b.cs z) (ar a.room a.cs b.cs)))) e_d nv np;refine⟨by rw[Z9 npd,Z9 nvd];exact Z5,?_⟩;generalize upd (upd (upd (upd H7 d (.frz o (.dK (ax (aF a.cs b.cs))))) v (bY v d)) p (.lst ((af a.cs b.cs).map fun z=>V.int (min (aj a.cs b.cs z) (ar a.room a.cs b.cs))))) d (.dK (ax (aF a.cs b.cs)))=H8 at ep sp⊢;have gg:=gg.trans sp;have e_d:=sp _ _ e_d;have Ae:=sp _ _ Ae;refine⟨p,(af a.cs b.cs).map fun z=>min (aj a.cs b.cs z) (ar a.room a.cs b.cs),rfl,?_,by rw[aq];omega,?_⟩
 ·rw[xD];exact SqL.of ep
 intro st n_st;generalize hz:upd _ st _=H9;revert H9;refine blk ?_;intro H9 hz;have gz:=Zj hz n_st;have e_st:=Zp hz;clear hz;have gg:=gg.trans gz;have e_d:=gz _ _ e_d;have Ae:=gz _ _ Ae;have ul:=N7 ((af a.cs b.cs).map fun z=>min (aj a.cs b.cs z) (ar a.room a.cs b.cs));rw[aq]at ul;refine⟨st,_,rfl,e_st,by omega,?_⟩;have e_l9:=Ae;intro lv sW;generalize hz:upd _ lv _=H10;revert H10;refine blk ?_;intro H10 hz;have gz:=Zj hz sW;have dj:=Zp hz;clear hz;have gg:=gg.trans gz;have e_d:=gz _ _ e_d;have Ae:=gz _ _ Ae;have lvl:lv≠l:=fun z=>by rw[z,e_l9]at sW;cases sW
 have lv_eq:eK (de ((af a.cs b.cs).map fun z=>min (aj a.cs b.cs z) (ar a.room a.cs b.cs)))=aW a.room a.cs b.cs:=rfl;rw[lv_eq]at dj;have ll:=fu a.room a.cs b.cs;have n_l7:=n_l;refine⟨lv,rfl,⟨_,SqL.of dj⟩,?_⟩;refine Xm (xs:=(aW a.room a.cs b.cs).map V.int) (fun n σ H'=>∃(o6 o7:Option V)(xs:List V),σ=[some (.ref r),some (.ref q),some (.ref d),some (.int (ar a.room a.cs b.cs)),some (.ref l),some (.int ((0::aW a.room a.cs b.cs).getD n 0)),o6,o7]∧Same H H'∧H' d=some (.dK (ax (aF a.cs b.cs)))∧H' lv=some (.lst ((aW a.room a.cs b.cs).map V.int))∧H' l=some (.lst xs)∧BnsAt (am l H') xs (eQ a.cs b.cs (aW a.room a.cs b.cs) n)) ⟨_,_,[],rfl,gg,e_d,dj,Ae,.nil⟩ ?_ ?_ ?_
 ·rintro n σ H' _ ⟨_,_,_,_,_,_,g,_⟩;exact SqL.of g
 ·rintro n x σ H' hx ⟨o6,o7,xs,rfl,g,ed,elv,el,bn⟩;rw[xi]at hx;obtain⟨vv,hv,rfl⟩:=xm.mp hx;have vg:(aW a.room a.cs b.cs).getD n 0=vv:=by rw[yB,hv];rfl
  have nlt:=(wL.mp hv).1;have xl:=bn.length;rw[Qd]at xl;have gg:=g;have e_d:=ed;have dj:=elv;have Ae:=el;refine⟨_,rfl,d,_,af a.cs b.cs,rfl,e_d,keys,by omega,?_⟩;intro k n_k;generalize hz:upd _ k _=H11;revert H11;refine blk ?_;intro H11 hz;have gz:=Zj hz n_k;have e_k:=Zp hz;clear hz;have gg:=gg.trans gz;have e_d:=gz _ _ e_d;have dj:=gz _ _ dj;have Ae:=gz _ _ Ae;have g11:=gz;refine⟨k,rfl,⟨_,SqL.of e_k⟩,?_⟩;have sl:(bf (af a.cs b.cs)).length=(af a.cs b.cs).length:=(Zn _).length_eq;refine X3 (xs:=(bf (af a.cs b.cs)).map V.str) (fun i ys H'=>H'=H11∧ys=(((bf (af a.cs b.cs)).take i).filter fun z=>decide (vv≤aj a.cs b.cs z)).map V.str) ⟨rfl,rfl⟩ ?_ ?_ ?_
  ·rintro i ys H' _ ⟨rfl,_⟩;exact SqL.of e_k
  ·rintro i y ys H' C hy ⟨rfl,rfl⟩ hC;rw[xi]at hy;obtain⟨z,hz,rfl⟩:=xm.mp hy;have zin:z∈af a.cs b.cs:=(Zn _).mem_iff.mp (wZ hz);have yl2:=xV (fun z=>decide (vv≤aj a.cs b.cs z)) ((bf (af a.cs b.cs)).take i);rw[wT]at yl2;refine⟨Zk (by rw[aq];omega),Wk.refl _,_,rfl,_,rfl,d,_,rfl,.inl ⟨_,Sum.inr z,.inl e_d,rfl,(vm z zin).symm⟩,_,rfl,_,_,rfl,rfl,_,rfl,?_⟩;rw[Zo hz,yh]at hC;by_cases big:vv≤aj a.cs b.cs z
   ·rw[wV big];refine Wg ⟨_,rfl,hC _ _ ⟨rfl,?_⟩⟩;rw[xC,wM (wV big),wO];rfl
   ·rw[xg big];refine Yu (hC _ _ ⟨rfl,?_⟩);rw[List.filter_cons,if_neg (by simpa using big),List.filter_nil,List.append_nil]
  rintro ys H' ⟨rfl,rfl⟩;have lf:((bf (af a.cs b.cs)).map V.str).length=(bf (af a.cs b.cs)).length:=aq _;rw[lf,xp];have fl:=xV (fun z=>decide (vv≤aj a.cs b.cs z)) (bf (af a.cs b.cs));refine⟨Zf (by rw[aq];omega),?_⟩;intro ms n_ms;generalize hz:upd _ ms _=H12;revert H12;refine blk ?_;intro H12 hz;have gz:=Zj hz n_ms;have e_ms:=Zp hz;clear hz;have gg:=gg.trans gz;have e_d:=gz _ _ e_d;have dj:=gz _ _ dj;have Ae:=gz _ _ Ae;have g12:=gz;refine⟨_,rfl,.inl ⟨rfl,_,SqL.of Ae⟩,_,rfl,ms,_,rfl,.inl ⟨SqL.of e_ms,?_⟩⟩;intro tp n_tp;generalize hz:upd _ tp _=H13;revert H13;refine blk ?_;intro H13 hz;have gz:=Zj hz n_tp;have nN:=Zp hz;clear hz;have gg:=gg.trans gz;have e_d:=gz _ _ e_d;have dj:=gz _ _ dj;have Ae:=gz _ _ Ae;have g13:=gz;refine⟨_,rfl,_,rfl,_,_,rfl,rfl,leN rfl,?_⟩;intro t2 n_t2;generalize hz:upd _ t2 _=H14;revert H14;refine blk ?_;intro H14 hz;have gz:=Zj hz n_t2;have uO:=Zp hz;clear hz;have gg:=gg.trans gz;have e_d:=gz _ _ e_d;have dj:=gz _ _ dj;have Ae:=gz _ _ Ae;have nN:=gz _ _ nN;have g14:=gz;have gg':=((g11.trans g12).trans g13).trans g14;refine⟨l,xs,_,rfl,rfl,Ae,Zk (by omega),?_⟩;refine⟨_,rfl,some (.int vv),some (.ref ms),xs++[.ref t2],?_,?_,?_,?_,Z5,?_⟩
  ·show _=[some (V.ref r),some (V.ref q),some (V.ref d),some (V.int (ar a.room a.cs b.cs)),some (V.ref l),some (V.int ((aW a.room a.cs b.cs).getD n 0)),some (.int vv),some (.ref ms)];rw[vg];rfl
  ·exact fun y u e=>by rw[Z9 (Zh e nHl)];exact gg y u e
  ·rw[Z9 dl];exact e_d
  ·rw[Z9 lvl];exact dj
  ·rw[kN];have n2:t2≠l:=fun z=>by rw[z,Ae]at uO;cases uO
   have n3:tp≠l:=fun z=>by rw[z,Ae]at nN;cases nN
   refine(bn.mono ((Vj el gg').trans Xh)).append (.cons (a:=t2) (c:=tp) ?_ ?_ .nil)
   ·rw[Ze n2,Z9 n2,uO];show _=some (HO.tup [.ref tp,.int ((aW a.room a.cs b.cs).getD n 0-(0::aW a.room a.cs b.cs).getD n 0)]);rw[vg]
   ·rw[Ze n3,Z9 n3,nN];show _=some (HO.tup ((ao a.cs b.cs ((aW a.room a.cs b.cs).getD n 0)).map V.str));rw[vg];rfl
 ·rintro σ H' ⟨o6,o7,xs,rfl,g,ed,elv,el,bn⟩;refine⟨_,rfl,hq l _ g nHl ?_⟩;rw[aq]at bn;unfold aA;rw[wK c0];exact⟨xs,el,bn.mono Yd⟩
theorem Yb{H H':Hp}{p:Addr}(g:Same H H')(n:H' p=none):H p=none:=by
 by_cases z:H p=none
 ·exact z
 ·obtain⟨u,hu⟩:=yX.mp z;rw[g _ _ hu]at n;cases n
abbrev TyP:=Ty×List Bn
def b9(room:Int)(p:TyP)(t:Th):TyP:=(aL p.1 (thT room t),p.2++aA p.1 (thT room t))
def a7(room:Int)(ts:List Th):TyP:=ts.foldl (b9 room) (Ty.zero room,[])
def au(room:Int):Tr→TyP
 |.leaf ts=>a7 room ts
 |.node l r=>(aL (au room l).1 (au room r).1,(au room l).2++(au room r).2++aA (au room l).1 (au room r).1)
structure TPk(room:Int)(n:Nat)(p:TyP):Prop where
 ok:p.1.Ok
 rm:p.1.room=room
 w:∀b∈p.2,BnW b
 len:p.2.length≤40*n
theorem mZ{room:Int}{n:Nat}{p:TyP}{t:Th}(h1:1≤room)(h2:room≤20)(h:TPk room n p)(ht:ThW t):TPk room (n+1) (b9 room p t):=by
 have ok2:=Tl h1 h2 ht;refine⟨Xa h.ok ok2 h.rm,h.rm,fun b hb=>?_,?_⟩
 ·rcases wY.mp hb with q | q
  ·exact h.w b q
  ·exact iL h.ok ok2 b q
 ·show(p.2++aA p.1 (thT room t)).length≤_;rw[wH];have:=Vn h.ok ok2;have:=h.len;omega
theorem fb{room:Int}(h1:1≤room)(h2:room≤20):∀(ts:List Th)(n:Nat)(p:TyP),TPk room n p→(∀t∈ts,ThW t)→TPk room (n+ts.length) (ts.foldl (b9 room) p)
 | [],n,p,h,_=>h
 |t::ts,n,p,h,hw=>by
  have:=fb h1 h2 ts (n+1) _ (mZ h1 h2 h (hw t (.head _))) fun x hx=>hw x (.tail _ hx);rw[xq,show n+(ts.length+1)=n+1+ts.length by omega];exact this
theorem Rw{room:Int}(h1:1≤room)(h2:room≤20){ts:List Th}(h:∀t∈ts,ThW t):TPk room ts.length (a7 room ts):=by
 have:=fb h1 h2 ts 0 (Ty.zero room,[]) ⟨Sh h1 h2,rfl,(fun _ h=>nomatch h),yc _⟩ h
 rwa [zA]at this
theorem Yx{room:Int}(h1:1≤room)(h2:room≤20):∀{t:Tr},(∀s∈t.streams,∀x∈s,ThW x)→TPk room (t.all.length+t.size) (au room t)
 |.leaf ts,h=>by
  have:=Rw h1 h2 (h ts (.head _));refine⟨this.ok,this.rm,this.w,?_⟩;have:=this.len;show(a7 room ts).2.length≤40*(ts.length+1);omega
 |.node l r,h=>by
  have a:=Yx h1 h2 (t:=l) fun s hs=>h s (xv _ hs);have b:=Yx h1 h2 (t:=r) fun s hs=>h s (wP _ hs);refine⟨Xa a.ok b.ok (a.rm.trans b.rm.symm),a.rm,fun x hx=>?_,?_⟩
  ·rcases wY.mp hx with q | q
   ·rcases wY.mp q with q | q
    ·exact a.w x q
    ·exact b.w x q
   ·exact iL a.ok b.ok x q
  ·show((au room l).2++(au room r).2++aA (au room l).1 (au room r).1).length≤40*((l.all++r.all).length+(l.size+r.size+1));rw[wH,wH,wH];have:=Vn a.ok b.ok;have:=a.len;have:=b.len;omega
def e7:Sp:=fun vs H Q _=>∃(p q t1 t2 l1 l2:Addr)(x y:TyP),vs=[.ref p,.ref q]∧H p=some (.tup [.ref t1,.ref l1])∧H q=some (.tup [.ref t2,.ref l2])∧DV H (.ref t1) x.1.D∧DV H (.ref t2) y.1.D∧PapAt H l1 x.2∧PapAt H l2 y.2∧
 x.1.Ok∧y.1.Ok∧x.1.room=y.1.room∧x.2.length+y.2.length≤100000∧∀(r t l:Addr) H',Same H H'→H r=none→H l=none→H' r=some (.tup [.ref t,.ref l])→DV H' (.ref t) (aL x.1 y.1).D→PapAt H' l (x.2++y.2++aA x.1 y.1)→Q (.ref r) H'
def oH:Sp:=fun vs H Q _=>∃(v:V)(room:Int)(ts:List Th),vs=[.int room,v]∧1≤room∧room≤20∧DV H v (bF ts)∧(∀t∈ts,ThW t)∧ts.length≤1000∧∀(r t l:Addr) H',Same H H'→H r=none→H l=none→H' r=some (.tup [.ref t,.ref l])→DV H' (.ref t) (a7 room ts).1.D→PapAt H' l (a7 room ts).2→Q (.ref r) H'
theorem uK(bg:Has P w K mg base "merged_tally" 3 ["one","other"] eE)(bX:Has P w K mg base "bunches_of" 3 ["one","other"] ke)(F:Fun K "merged_with_paper" "merged_with_paper" aK f fd):FnOk P w K mg base CX0 4 f fd ["one","other"] e7:=by
 refine F.ok Zv (fun vs H Q E h=>?_) (fun cdv A outer s H vs Q E hr h=>?_)
 ·obtain⟨p,q,t1,t2,l1,l2,x,y,rfl,_⟩:=h;rfl
 obtain⟨p,q,t1,t2,l1,l2,x,y,rfl,ep,eq,d1,d2,pp1,pp2,okx,oky,rm,len,hq⟩:=h;refine⟨_,(Z2 (W0 (pv 0) (X9 rfl (Za (Z7 (i:=2) Zv.nd rfl (Or.inl rfl)) (Za (Z7 (i:=3) Zv.nd rfl (Or.inl rfl)) Y6))))
 (Z2 (W0 (pv 1) (X9 rfl (Za (Z7 (i:=4) Zv.nd rfl (Or.inl rfl)) (Za (Z7 (i:=5) Zv.nd rfl (Or.inl rfl)) Y6))))
 (Z6 (Zd (Yh (Z0 (Z4 bg hr (Z0 (pv 2) (Z0 (pv 4) Z1))) (Z0 (Zi Vd (Zi Vd (pv 3) (pv 5)) (Z4 bX hr (Z0 (pv 2) (Z0 (pv 4) Z1)))) Z1))))))),?_⟩
 refine⟨_,rfl,p,_,rfl,SqT.of ep,rfl,_,_,rfl,_,_,rfl,rfl,?_⟩;refine⟨_,rfl,q,_,rfl,SqT.of eq,rfl,_,_,rfl,_,_,rfl,rfl,?_⟩;refine⟨_,rfl,_,rfl,t1,t2,x.1,y.1,rfl,d1,d2,okx,oky,rm,fun m H1 s1 dm=>?_⟩;obtain⟨xs,ex,bx⟩:=pp1.mono s1;obtain⟨ys,ey,by_⟩:=pp2.mono s1;have lx:=bx.length;have ly:=by_.length;have gg:=s1;have k_dm:=dm;have k_bx:=bx;have k_by:=by_;have k_d1:=d1.mono s1;have k_d2:=d2.mono s1;refine⟨_,rfl,_,rfl,l1,l2,xs,ys,rfl,rfl,ex,ey,Zf (by omega),?_⟩;intro z1 qO;generalize hz:upd _ z1 _=H2;revert H2;refine blk ?_;intro H2 hz;have gz:=Zj hz qO;have iw:=Zp hz;clear hz;have gg:=gg.trans gz;have k_dm:=k_dm.mono gz;have k_bx:=k_bx.mono gz;have k_by:=k_by.mono gz;have k_d1:=k_d1.mono gz;have k_d2:=k_d2.mono gz;refine⟨_,rfl,_,rfl,t1,t2,x.1,y.1,rfl,k_d1,k_d2,okx,oky,rm,fun b H3 s3 nb pb=>?_⟩;obtain⟨zs,ez,bz⟩:=pb;have lz:=bz.length;have bl:=Vn okx oky;have gg:=gg.trans s3;have k_dm:=k_dm.mono s3;have k_bx:=k_bx.mono s3;have k_by:=k_by.mono s3;have k_bz:=bz;have iw:=s3 _ _ iw;have e_z:=ez;refine⟨z1,b,xs++ys,zs,rfl,rfl,iw,e_z,Zf (by rw[wH];omega),?_⟩;have g0:=gg;intro z2 oT;generalize hz:upd _ z2 _=H4;revert H4;refine blk ?_;intro H4 hz;have gz:=Zj hz oT;have mK:=Zp hz;clear hz;have gg:=gg.trans gz;have k_dm:=k_dm.mono gz;have k_bx:=k_bx.mono gz;have k_by:=k_by.mono gz;have k_bz:=k_bz.mono gz;have n2:=Yb g0 oT;have g1:=gg;refine⟨leN rfl,?_⟩;intro z3 vo;generalize hz:upd _ z3 _=H5;revert H5;refine blk ?_;intro H5 hz;have gz:=Zj hz vo;have e_z3:=Zp hz;clear hz;have gg:=gg.trans gz;have k_dm:=k_dm.mono gz;have k_bx:=k_bx.mono gz;have k_by:=k_by.mono gz;have k_bz:=k_bz.mono gz;have mK:=gz _ _ mK;exact hq z3 m z2 _ gg (Yb g1 vo) n2 e_z3 k_dm ⟨_,mK,(k_bx.append k_by).append k_bz⟩
theorem tH(bD:Has P w K mg base "empty_tally" 1 ["room"] dw)(bB:Has P w K mg base "thing_tally" 1 ["room","thing"] jU)(cq:Has P w K mg base "merged_with_paper" 4 ["one","other"] e7)(F:Fun K "stream_with_paper" "stream_with_paper" aN f fd):FnOk P w K mg base CX0 5 f fd ["room","stream"] oH:=by
 refine F.ok Y9 (fun vs H Q E h=>?_) (fun cdv A outer s H vs Q E hr h=>?_)
 ·obtain⟨v,room,ts,rfl,_⟩:=h;rfl
 obtain⟨v,room,ts,rfl,r0,r1,dv,tw,tl,hq⟩:=h;refine⟨_,(Z2 (Y8 2 Y9.nd rfl (Or.inl rfl) (Yh (Z0 (Z4 bD hr (Z0 (pv 0) Z1)) (Z0 (Y4 Z1) Z1))))
 (Z2 (X8 xS rfl (Zy (pv 1)) (Z7 (i:=3) Y9.nd rfl (Or.inl rfl))
 (Z6 (Y8 2 Y9.nd rfl (Or.inl rfl) (Z4 cq hr (Z0 (pv 2) (Z0 (Yh (Z0 (Z4 bB hr (Z0 (pv 0) (Z0 (pv 3) Z1))) (Z0 (Y4 Z1) Z1))) Z1))))))
 (Z6 (Zd (pv 2))))),?_⟩
 obtain⟨b,xs,rfl,eb,qb⟩:=DV.list_inv dv;have xl:=qb.length;rw[aq]at xl;refine⟨_,rfl,_,rfl,fun p0 H0 s0 d0=>?_⟩;have gg:=s0;have k_d0:=d0;refine⟨leN rfl,?_⟩;have g0:=gg;intro z1 qO;generalize hz:upd _ z1 _=H1;revert H1;refine blk ?_;intro H1 hz;have gz:=Zj hz qO;have iw:=Zp hz;clear hz;have gg:=gg.trans gz;have k_d0:=k_d0.mono gz;have nz1:=Yb g0 qO;have g1:=gg;refine⟨leN rfl,?_⟩;intro z2 oT;generalize hz:upd _ z2 _=H2;revert H2;refine blk ?_;intro H2 hz;have gz:=Zj hz oT;have mK:=Zp hz;clear hz;have gg:=gg.trans gz;have k_d0:=k_d0.mono gz;have iw:=gz _ _ iw;have nz2:=Yb g1 oT;refine⟨_,rfl,b,rfl,⟨_,SqL.of (gg _ _ eb)⟩,?_⟩;refine Xm (xs:=xs) (fun n σ H'=>∃(o3:Option V)(r t l:Addr),σ=[some (.int room),some (.ref b),some (.ref r),o3]∧Same H H'∧H r=none∧H l=none∧H' r=some (.tup [.ref t,.ref l])∧DV H' (.ref t) (a7 room (ts.take n)).1.D∧PapAt H' l (a7 room (ts.take n)).2) ⟨_,z2,p0,z1,rfl,gg,nz2,nz1,mK,k_d0,[],iw,.nil⟩ ?_ ?_ ?_
 ·rintro n σ H' _ ⟨_,_,_,_,_,g,_⟩;exact SqL.of (g _ _ eb)
 ·rintro n x σ H' hx ⟨o3,r,t,l,rfl,g,nr,nl,er,dt,pl⟩;obtain⟨th,c,hth,rfl,ec,hm⟩:=DVs.th_at qb hx;have tk:=Zo hth;have inv:=Rw r0 r1 (ts:=ts.take n) fun u hu=>tw u (yj hu);have il:=inv.len;rw[wT]at il;refine⟨_,rfl,_,rfl,_,rfl,c,room,th,rfl,g _ _ ec,fun p1 H3 s3 d1=>?_⟩;have gg:=g.trans s3;have e_r:=s3 _ _ er;have k_dt:=dt.mono s3;have k_pl:=pl.mono s3;have k_d1:=d1;refine⟨leN rfl,?_⟩;intro q1 n_q1;generalize hz:upd _ q1 _=H4;revert H4;refine blk ?_;intro H4 hz;have gz:=Zj hz n_q1;have tJ:=Zp hz;clear hz;have gg:=gg.trans gz;have e_r:=gz _ _ e_r;have k_dt:=k_dt.mono gz;have k_pl:=k_pl.mono gz;have k_d1:=k_d1.mono gz;refine⟨leN rfl,?_⟩;intro q2 n_q2;generalize hz:upd _ q2 _=H5;revert H5;refine blk ?_;intro H5 hz;have gz:=Zj hz n_q2;have e_q2:=Zp hz;clear hz;have gg:=gg.trans gz;have e_r:=gz _ _ e_r;have k_dt:=k_dt.mono gz;have k_pl:=k_pl.mono gz;have k_d1:=k_d1.mono gz;have tJ:=gz _ _ tJ;refine⟨r,q2,t,p1,l,q1,a7 room (ts.take n),(thT room th,[]),rfl,e_r,e_q2,k_dt,k_d1,k_pl,⟨[],tJ,.nil⟩,inv.ok,Tl r0 r1 (tw th hm),inv.rm,by show _+0≤_;omega,fun r6 t6 l6 H6 s6 nr6 nl6 e6 d6 p6=>?_⟩;have e:a7 room (ts.take (n+1))=b9 room (a7 room (ts.take n)) th:=by
   unfold a7;rw[tk,zK];rfl
  rw[e];rw[xF]at p6;exact⟨_,r6,t6,l6,rfl,gg.trans s6,Yb gg nr6,Yb gg nl6,e6,d6,p6⟩
 ·rintro σ H' ⟨o3,r,t,l,rfl,g,nr,nl,er,dt,pl⟩;rw[xl,xp]at dt pl;exact⟨_,rfl,hq r t l _ g nr nl er dt pl⟩
def lamE(st:Stmt):Expr:=match av st with
 | [.Assign _ (.Call _ (_::e::_) _ _) _,_]=>e
 |_=>.Constant .none 0 ⟨0,0,0,0⟩
def cB(e:Expr):Pos:=match e with
 |.Lambda _ _ _ p=>p
 |_=>⟨0,0,0,0⟩
def bq(e:Expr):Scope:=match e with
 |.Lambda _ _ sc _=>sc
 |_=>{kind:=.function,names:=[],isGenerator:=false,isCoroutine:=false}
abbrev cc:Expr:=lamE ah
abbrev qGT:Str:=("tally_paper":Str)++".<locals>."++"<lambda>"
theorem scL:LamScope ["stream"] ["room"] (bq cc):=⟨rfl,rfl,rfl,by decide +kernel,by decide +kernel,fun x h=>by
  have:∀y∈(bq cc).names,y.2=.free→y.1="room":=by decide +kernel
  have e:x="room":=this (x,.free) (xu h) rfl;rw[e];exact .head _,by decide +kernel,by decide +kernel⟩
mutual
theorem V4{H:Hp}{a:Addr}(n1:∀xs,H a≠some (.lst xs))(n2:∀xs,H a≠some (.tup xs)):∀{v:V}{d:PyData},DV H v d→DV (am a H) v d
 |_,_,.non=>.non
 |_,_,.bl b=>.bl b
 |_,_,.int i=>.int i
 |_,_,.str x=>.str x
 |_,_,.lst e r=>.lst (by rw[Ze (fun z=>n1 _ (z ▸ e))];exact e) (Q5 n1 n2 r)
 |_,_,.tup e r=>.tup (by rw[Ze (fun z=>n2 _ (z ▸ e))];exact e) (Q5 n1 n2 r)
theorem Q5{H:Hp}{a:Addr}(n1:∀xs,H a≠some (.lst xs))(n2:∀xs,H a≠some (.tup xs)):∀{vs:List V}{ds:List PyData},DVs H vs ds→DVs (am a H) vs ds
 |_,_,.nil=>.nil
 |_,_,.cons h r=>.cons (V4 n1 n2 h) (Q5 n1 n2 r)
end
theorem O3{H:Hp}{a:Addr}{xs:List V}(e:H a=some (.lst xs)){v:V}{t:Ty}(d:DV H v t.D):DV (am a H) v t.D:=by
 have tp:∀{b:Addr}{ys:List V},H b=some (.tup ys)→am a H b=some (.tup ys):=fun{b ys} h=>by
  rw[Ze (fun z=>by rw[z,e]at h;cases h)];exact h
 have pr:∀{ys:List V}{kvs:List (Key×V)},PairsAt H ys kvs→PairsAt (am a H) ys kvs:=fun{ys kvs} h=>by
  induction h with
  |nil=>exact .nil
  |cons h _ ih=>exact .cons (tp h) ih
 obtain⟨p,b,rows,rfl,e1,e2,pa⟩:=DV.ty_inv d;exact Ty.dv (tp e1) (tp e2) (pr pa)
abbrev Tn:=TyP×Nat
def fsN(room:Int)(ts:List Th):Tn:=(a7 room ts,ts.length+1)
def fmN(x y:Tn):Tn:=((aL x.1.1 y.1.1,x.1.2++y.1.2++aA x.1.1 y.1.1),x.2+y.2+1)
theorem Ov(room:Int):∀t:Tr,(evT (fsN room) fmN t).1=au room t
 |.leaf ts=>rfl
 |.node l r=>by
  show((aL (evT (fsN room) fmN l).1.1 (evT (fsN room) fmN r).1.1,(evT (fsN room) fmN l).1.2++(evT (fsN room) fmN r).1.2++aA (evT (fsN room) fmN l).1.1 (evT (fsN room) fmN r).1.1))=_;rw[Ov room l,Ov room r];rfl
def u8(H0:Hp)(H:Hp)(v:V)(x:Tn):Prop:=∃p t l:Addr,v=.ref p∧H p=some (.tup [.ref t,.ref l])∧DV H (.ref t) x.1.1.D∧PapAt H l x.1.2∧H0 l=none
theorem Nl{H0 H:Hp}{a:Addr}{ys:List V}(e:H a=some (.lst ys)){p t l:Addr}{x:Tn}(ep:H p=some (.tup [.ref t,.ref l]))(d:DV H (.ref t) x.1.1.D)(pl:PapAt H l x.1.2)(n:l≠a)(n0:H0 l=none):u8 H0 (am a H) (.ref p) x:=by
 obtain⟨xs,el,bn⟩:=pl;refine⟨p,t,l,rfl,?_,O3 e d,⟨xs,by rw[Ze n];exact el,fW e bn⟩,n0⟩;rw[Ze (fun z=>by rw[z,e]at ep;cases ep)];exact ep
def uG(T:Addr):Sp:=fun vs H Q _=>∃(v:V)(room:Int)(t:Tr),vs=[.int room,v]∧1≤room∧room≤20∧DV H v t.D∧t.size≤1000∧t.all.length+t.size≤1000∧(∀s∈t.streams,∀x∈s,ThW x)∧LamAt T (cB cc) qGT H∧
 ∀(l:Addr) H',Same (am T H) (am T H')→LamAt T (cB cc) qGT H'→H l=none→PapAt H' l (au room t).2→Q (.ref l) H'
def ue(c:Addr)(room:Int):Sp:=fun vs H Q _=>∃(v:V)(ts:List Th),vs=[v]∧H c=some (crO qGT c)∧DV H v (bF ts)∧(∀t∈ts,ThW t)∧ts.length≤1000∧∀(r t l:Addr) H',Same H H'→H r=none→H l=none→H' r=some (.tup [.ref t,.ref l])→DV H' (.ref t) (a7 room ts).1.D→PapAt H' l (a7 room ts).2→Q (.ref r) H'
theorem wg{c T f2:Addr}{oc:Value}{od an:Option Addr}{osl:Array (Option Value)}{kV doc pm ct:Value}{fd2:FuncData}(lk:K.lookup f=some ⟨oc,od,.func (W.fnOf "tally_paper" "tally_paper" (aB ah) (av ah) (aa ah) .none kV doc pm an (.ref c) ct),osl⟩)(hcd:W.codeIn K (.ref c) "tally_paper"=true)(C:W.CodeHd base c T)(hgP:mainGlobals≠T)(hB:base.BuiltinsAt mg T)(hb_grown:HasB P w K mg "grown" 7 ["tree","of_stream","of_two"] (dB P w K mg 6))(hT:∀base:Heap,K.In base→base.Ns mainGlobals mg→Has P w K mg base "stream_with_paper" 5 ["room","stream"] oH)(hM:∀base:Heap,K.In base→base.Ns mainGlobals mg→Has P w K mg base "merged_with_paper" 4 ["one","other"] e7)(m2:mg "merged_with_paper"=some (.ref f2))(F2:Fun K "merged_with_paper" "merged_with_paper" aK f2 fd2):
  FnOk P w K mg base CX0 8 f (W.fnOf "tally_paper" "tally_paper" (aB ah) (av ah) (aa ah) .none kV doc pm an (.ref c) ct) ["room","tree"] (uG T):=by
 refine nX (k:=7) lk hcd Xy (fun vs H Q E h=>?_) (fun A outer s H vs Q E hr h=>?_)
 ·obtain⟨v,room,t,rfl,_⟩:=h;rfl
 obtain⟨v,room,t,rfl,r0,r1,dv,hsz,cap,tw,lam,hq⟩:=h;have uF:∃u,mg "merged_with_paper"=some u∧RelV (.ref f2) u:=⟨_,m2,rfl⟩;have hf:∀x∈(bq cc).names,x.2=.free→∃c',(PyProof.Rows.envOfC "tally_paper" (aa ah) s.heap.objs.size f (.ref c)).cells.lookup x.1=some c':=fun x hx hk=>by
  have:∀y∈(bq cc).names,y.2=.free→(aa ah).names.lookup y.1=some .cell:=by decide +kernel
  exact Tf (this x hx hk)
 refine⟨_,Z2 (W0 (gx hb_grown (fun _=>rfl) rfl rfl hr (Z0 (pv 1) (Z0 (mI (c:=c) (T:=T) (sc:=bq cc) rfl C hgP hB hf) (Z0 (Wp rfl uF) Z1)))) (X9 rfl (Za (Z7 (i:=2) Xy.nd rfl (Or.inl rfl)) (Za (Z7 (i:=3) Xy.nd rfl (Or.inl rfl)) Y6)))) (Z6 (Zd (pv 3))),?_⟩;refine⟨_,rfl,lam,fun a c' pm2 ctv H1 g1 na nac eT ec ea=>?_⟩;have tT:H T≠none:=by
  rcases lam.tab with e | ⟨_,e,_⟩ <;> (rw[e];exact fun z=>nomatch z)
 have nT1:∀xs,H T≠some (.lst xs):=by
  rcases lam.tab with e | ⟨_,e,_⟩ <;> (rw[e];exact fun _ z=>nomatch z)
 have nT2:∀xs,H T≠some (.tup xs):=by
  rcases lam.tab with e | ⟨_,e,_⟩ <;> (rw[e];exact fun _ z=>nomatch z)
 have aT:a≠T:=fun z=>tT (z ▸ na);have dv1:DV H1 v t.D:=((V4 nT1 nT2 dv).mono g1).mono Yd;have dva:DV (am a H1) v t.D:=V4 (by rw[ea];exact fun _ z=>nomatch z) (by rw[ea];exact fun _ z=>nomatch z) dv1;refine⟨a,_,ea,fun B wid=>?_⟩;have wfn:=wid.fn;have ec2:am a H1 c'=some (crO qGT c'):=by rw[Ze (Ne.symm nac)];exact ec
 have cls:∀x d,(aJ (PyProof.Rows.envOfC "tally_paper" (aa ah) s.heap.objs.size f (.ref c)) (bq cc).names).lookup x=some d→(PyProof.Rows.envOfC "tally_paper" (aa ah) s.heap.objs.size f (.ref c)).cells.lookup x=some d:=fun x d e=>U2 _ [] hf (fun _ h=>nomatch h) (x,d) (xu e);refine⟨Tn,u8 (am a H1),fsN room,fmN,fun x=>x.1.1.Ok∧x.1.1.room=room∧x.1.2.length≤40*x.2,fun ts=>∀x∈ts,ThW x,fun x=>x.2,v,a,f2,t,rfl,dva,hsz,tw,?_,?_,fun ts=>pi _,fun x y=>pi _,cap,fun ts h=>?_,fun x y h1 h2=>?_,?_,?_⟩
 ·refine⟨_,["stream"],ue c' room,nY (k:=5) (us:=[.int room]) (fr:=["room"]) wfn scL rfl ?_ (fun x y d e1 e2=>wid.inj x y d (cls x d e1) (cls y d e2)) (fun x d e=>wid.cells x d (cls x d e)) (fun vs H Q E h=>?_) (fun vs H Q E h=>?_) (fun A outer s H vs Q E hr h=>?_),?_,⟨_,_,_,_,wfn⟩,?_⟩
  ·intro i x u h1 h2
   match i,h1,h2 with
   | 0,h1,h2=>
   cases h1;cases h2;obtain⟨c2,u2,e1,e2,rv⟩:=wid.cell 0 "room" (.int room) rfl rfl rfl;obtain⟨c3,hc3⟩:=U3 (bq cc).names [] (env:=PyProof.Rows.envOfC "tally_paper" (aa ah) s.heap.objs.size f (.ref c)) "room" (xu (scL.fre "room" (.head _)));obtain⟨c4,hc4⟩:=Xf hc3;have e3:=cls _ _ hc4;have e4:c4=c2:=xA (e3.symm.trans e1);subst e4;exact⟨c4,u2,hc4,e2,rv⟩
  ·obtain⟨_,_,_,e,_⟩:=h;exact e
  ·obtain⟨_,_,rfl,_⟩:=h;rfl
  ·obtain⟨u,ts,rfl,e,d,ok,tl,hq2⟩:=h;have cn:=hT B wid.kin wid.glb;refine⟨_,Z4 cn hr (Z0 (pv 1) (Z0 (pv 0) Z1)),?_⟩;exact⟨_,rfl,_,rfl,u,room,ts,rfl,r0,r1,d,ok,tl,hq2⟩
  ·exact .all fun us hl=>match us,hl with | [_],_=>rfl
  ·exact fun H u ts Q a ys s ea d ok tl hq2=>⟨u,ts,rfl,s _ _ ec2,d,ok,by omega,fun r t l H' s' nr nl er dt pl=>hq2 (.ref r) H' s' (Nl (x:=fsN room ts) (s' _ _ ea) er dt pl (fun z=>by rw[z,ea]at nl;cases nl) (Yb s nl))⟩
 ·obtain⟨f',fd',FM,bM,kM,mM⟩:=(hM B wid.kin wid.glb).ex;have e:f'=f2:=by
   rw[m2]at mM;cases mM;rfl
  subst e;obtain⟨oc2,od2,kV2,doc2,pm3,an2,cdv2,ct2,osl2,_,lk2,_⟩:=F2.ex;refine⟨fd',["one","other"],e7,FM.mono (by decide),bM,⟨_,_,_,_,wid.kin _ _ lk2⟩,?_⟩;rintro H u u' x y Q a ys s ea ⟨p,t1,l1,rfl,ep,d1,q1,_⟩ ⟨q,t2,l2,rfl,eq,d2,q2,_⟩ ix iy cp hq2;have cp:x.2+y.2+1≤1000:=cp;refine⟨p,q,t1,t2,l1,l2,x.1,y.1,rfl,(Zb ep).2,(Zb eq).2,d1.mono Yd,d2.mono Yd,q1.mono Yd,q2.mono Yd,ix.1,iy.1,ix.2.1.trans iy.2.1.symm,?_,fun r t l H' s' nr nl er dt pl=>hq2 (.ref r) H' s' (Nl (x:=fmN x y) (s' _ _ ea) er dt pl (fun z=>by rw[z,ea]at nl;cases nl) (Yb s nl))⟩;have:=ix.2.2;have:=iy.2.2;omega
 ·have:=Rw r0 r1 h;refine⟨this.ok,this.rm,?_⟩;have:=this.len;show(a7 room ts).2.length≤40*(ts.length+1);omega
 ·refine⟨Xa h1.1 h2.1 (h1.2.1.trans h2.2.1.symm),h1.2.1,?_⟩;show(x.1.2++y.1.2++aA x.1.1 y.1.1).length≤40*(x.2+y.2+1);rw[wH,wH];have:=Vn h1.1 h2.1;have:=h1.2.2;have:=h2.2.2;omega
 ·rintro H H' g v x ⟨p,t,l,rfl,e,d,q,n⟩;exact⟨p,t,l,rfl,g _ _ e,d.mono g,q.mono g,n⟩
 ·rintro p H' g ⟨p,t',l,rfl,e,d,q,n0⟩;rw[Ov]at q;have lamH:LamAt T (cB cc) qGT H':=⟨.inr ⟨c',g _ _ (by rw[Ze (Ne.symm aT)];exact eT),g _ _ ec2⟩⟩;refine⟨p,_,rfl,SqT.of e,rfl,_,_,rfl,_,_,rfl,rfl,_,rfl,hq l H' ?_ lamH ?_ q⟩
  ·intro b u e;obtain⟨b1,b2⟩:=Zb e;have:=g1 b u e;obtain⟨_,e3⟩:=Zb this;rw[Ze b1];exact g b u (by rw[Ze (Zh b2 na)];exact e3)
  ·by_cases z:H l=none
   ·exact z
   ·obtain⟨u,hu⟩:=yX.mp z;by_cases zT:l=T
    ·subst zT;obtain⟨xs,el,_⟩:=q
     rcases lamH.tab with y | ⟨_,y,_⟩ <;> (rw[el]at y;cases y)
    ·have h2:=(Zb (g1 l u (by rw[Ze zT];exact hu))).2;rw[Ze (Zh hu na),h2]at n0;cases n0
theorem Uc:∀t:Tr,(aw t).filterMap id=t.streams
 |.leaf ts=>rfl
 |.node l r=>by
  show(aw l++aw r++[none]).filterMap id=l.streams++r.streams;rw[zF,zF,Uc l,Uc r];exact xF _
def eA:Sp:=fun vs H Q _=>∃(v:V)(t:Tr),vs=[v]∧DV H v t.D∧t.ht≤50∧t.size≤1000∧
 ∀(r:Addr)(ls:List V)(H':Hp),Same H H'→H r=none→H' r=some (.lst ls)→DVs H' ls (t.streams.map bF)→(∀x∈ls,∃q,x=.ref q∧H q=none∧q≠r)→Q (.ref r) H'
def dY:Sp:=fun vs H Q _=>∃(v:V)(t:Tr),vs=[v]∧DV H v t.D∧t.ht≤50∧t.size≤1000∧t.all.length≤100000∧
 ∀(r:Addr)(xs:List V)(H':Hp),Same H H'→H r=none→H' r=some (.lst xs)→DVs H' xs (t.all.map Th.D)→Q (.ref r) H'
theorem Qn(bW:mg "list"=none)(cN:Has P w K mg base "steps_in" 1 ["tree"] dA)(F:Fun K "streams_in" "streams_in" bV f fd):FnOk P w K mg base CX0 2 f fd ["tree"] eA:=by
 refine F.ok Qk (fun vs H Q E h=>?_) (fun cdv A outer s H vs Q E hr h=>?_)
 ·obtain⟨v,t,rfl,_⟩:=h;rfl
 obtain⟨v,t,rfl,dv,tht,tsz,hq⟩:=h;refine⟨_,(Z6 (Zd (Yo (own:=["step"]) (U6 rfl rfl) (Zy (Z4 cN hr (Z0 (pv 0) Z1)))
  (fun _ _ _ _ _=>(Z7 (i:=0) U4 rfl (Or.inl rfl) (Or.inr rfl))) (fun _ _ _ _ _=>(Ob (Zs rB (pv 0) Of (Zl _))))
  (fun _ _ _ _ _=>(Xv (Qw K rfl) rfl bW PyProof.Rows.boot_list (Z0 (pv 0) Z1)))))),?_⟩
 refine⟨_,rfl,v,t,H,rfl,Same.refl _,dv,tsz,fun r0 ls H1 g1 n0 e0 pr=>?_⟩;have pl:=Wy pr;rw[Xs]at pl;refine⟨r0,rfl,⟨_,SqL.of e0⟩,?_⟩;refine X3 (xs:=ls) (fun n ys H'=>Same H1 H'∧DVs H' ys ((((aw t).take n).filterMap id).map bF)∧ys.length≤n∧∀x∈ys,∃q,x=.ref q∧H q=none∧H' q≠none) ⟨Same.refl _,.nil,pi _,(fun _ h=>nomatch h)⟩ ?_ ?_ ?_
 ·rintro n ys H' _ ⟨g,_⟩;exact SqL.of (g _ _ e0)
 ·rintro n x ys H' C hx ⟨g,pa,yl,fr⟩ hC;obtain⟨o,ho,sv⟩:=Od pr hx;have lt:n<ls.length:=(wL.mp hx).1;refine⟨Zk (by omega),Wk.refl _,_,rfl,rfl,_,rfl,?_⟩;cases o with
  |none=>
   have sv:x=.non:=sv;subst sv;refine Yu (hC _ _ ⟨g,?_,by omega,fr⟩);rw[Zo ho,zF];simpa using pa
  |some ts=>
   have sv:DV H x (bF ts):=sv;obtain⟨b,xs,rfl,eb,qb⟩:=DV.list_inv sv;refine Wg ⟨_,rfl,b,xs,rfl,.inl (SqL.of (g _ _ (g1 _ _ eb))),fun u nu=>?_⟩;refine hC _ _ ⟨g.trans (Zc nu _),?_,by rw[wH];show ys.length+1≤_;omega,?_⟩
   ·rw[Zo ho,zF,wO];exact(pa.mono (Zc nu _)).append (.cons (.lst Z5 (qb.mono (g1.trans (g.trans (Zc nu _))))) .nil)
   ·intro y hy
    rcases wY.mp hy with h | h
    ·obtain⟨q,e,q1,q2⟩:=fr y h;refine⟨q,e,q1,fun z=>?_⟩;by_cases c:q=u
     ·rw[c,Z5]at z;cases z
     ·rw[Z9 c]at z;exact q2 z
    ·rw[wR.mp h];exact⟨u,rfl,g1.free (g.free nu),by rw[Z5];exact fun z=>nomatch z⟩
 ·rintro ys H' ⟨g,pa,yl,fr⟩;have e:(((aw t).take ls.length).filterMap id)=t.streams:=by
   rw[pl,←Xs t,xp];exact Uc t
  rw[e]at pa;refine⟨Zf (by omega),fun p np=>hq p ys _ (g1.trans (g.trans (Zc np _))) (g1.free (g.free np)) Z5 (pa.mono (Zc np _)) fun x hx=>?_⟩;obtain⟨q,e,q1,q2⟩:=fr x hx;exact⟨q,e,q1,fun z=>q2 (z ▸ np)⟩
theorem Oh(eO:Has P w K mg base "streams_in" 2 ["tree"] eA)(F:Fun K "stream_of" "stream_of" cf f fd):FnOk P w K mg base CX0 3 f fd ["tree"] dY:=by
 refine F.ok Wv (fun vs H Q E h=>?_) (fun cdv A outer s H vs Q E hr h=>?_)
 ·obtain⟨v,t,rfl,_⟩:=h;rfl
 obtain⟨v,t,rfl,dv,hht,hsz,hal,hq⟩:=h;refine⟨_,(Z2 (Y8 1 Wv.nd rfl (Or.inl rfl) (Y4 Z1))
 (Z2 (X8 xS rfl (Zy (Z4 eO hr (Z0 (pv 0) Z1))) (Z7 (i:=2) Wv.nd rfl (Or.inl rfl))
 (Z6 (Wx (S7 xH PySem.F.slot_list_extend PySem.F.type_list_extend Pe (pv 1) (Z0 (pv 2) Z1)))))
 (Z6 (Zd (pv 1))))),?_⟩
 refine⟨leN rfl,fun Ta hTa=>?_⟩;refine⟨_,rfl,v,t,rfl,dv.mono (Zc hTa _),hht,hsz,fun r ls H1 g1 hr1 er dl hfr=>?_⟩;have lT:H1 Ta=some (.lst []):=g1 _ _ Z5;have rT:Ta≠r:=fun e=>by rw[←e,Z5]at hr1;cases hr1
 refine⟨r,rfl,⟨ls,SqL.of er⟩,?_⟩;have dll:=dl.length;rw[aq]at dll;have sub:Same (am Ta H1) H1:=Yd;have dl':DVs (am Ta H1) ls (t.streams.map bF):=by
  have main:∀(ls:List V)(ss:List (List Th)),DVs H1 ls (ss.map bF)→(∀x∈ls,∃q,x=.ref q∧upd H Ta (.lst []) q=none∧q≠r)→DVs (am Ta H1) ls (ss.map bF):=by
   intro ls
   induction ls with
   |nil=>
    intro ss d _;cases ss with
    |nil=>exact .nil
    |cons s ss=>obtain⟨_,_,e,_⟩:=DVs.cons_inv d;cases e
   |cons x xs ih=>
    intro ss d hf;cases ss with
    |nil=>have:=d.nil_inv;cases this
    |cons s ss=>
     obtain⟨x',r',e,d1,d2⟩:=DVs.cons_inv d;cases e;refine .cons ?_ (ih ss d2 fun y hy=>hf y (xr _ hy));obtain⟨q,rfl,hq0,_⟩:=hf x xf;obtain⟨a,ys,e,e2,d3⟩:=DV.list_inv d1;cases e;have nq:q≠Ta:=fun e=>by rw[e,Z5]at hq0;cases hq0
     have things:∀(ys:List V)(ts:List Th),DVs H1 ys (ts.map Th.D)→DVs (am Ta H1) ys (ts.map Th.D):=by
      intro ys
      induction ys with
      |nil=>
       intro ts d;cases ts with
       |nil=>exact .nil
       |cons t ts=>obtain⟨_,_,e,_⟩:=DVs.cons_inv d;cases e
      |cons z zs ih2=>
       intro ts d;cases ts with
       |nil=>have:=d.nil_inv;cases this
       |cons t ts=>
        obtain⟨z',zr,e,d4,d5⟩:=DVs.cons_inv d;cases e;refine .cons ?_ (ih2 ts d5);obtain⟨c,cs,rfl,ec,d6⟩:=DV.tup_inv d4;have nc:c≠Ta:=fun e=>by rw[e,lT]at ec;cases ec
        refine .tup (by rw[Ze nc];exact ec) ?_;obtain⟨_,_,rfl,k1,d6⟩:=d6.cons_inv;obtain⟨_,_,rfl,k2,d6⟩:=d6.cons_inv;obtain⟨_,_,rfl,k3,d6⟩:=d6.cons_inv;obtain⟨_,_,rfl,k4,d6⟩:=d6.cons_inv;have:=d6.nil_inv;subst this;cases k1;cases k2;cases k3;cases k4;exact .cons (.int _) (.cons (.str _) (.cons (.int _) (.cons (.int _) .nil)))
     exact .lst (by rw[Ze nq];exact e2) (things ys s d3)
  exact main ls t.streams dl hfr
 refine Xm (xs:=ls) (fun i σ H2=>∃(xs:List V)(o:Option V),σ=[some v,some (.ref Ta),o]∧Same (am Ta H1) H2∧H2 Ta=some (.lst xs)∧DVs (am Ta H1) xs ((t.streams.take i).flatten.map Th.D)) ⟨[],none,rfl,Yd,lT,.nil⟩ ?_ ?_ ?_
 ·rintro i σ H2 hi ⟨xs,o,rfl,g2,eT,dx⟩;exact SqL.of (g2 _ _ (by rw[Ze (Ne.symm rT)];exact er))
 ·rintro i x σ H2 hx ⟨xs,o,rfl,g2,eT,dx⟩;obtain⟨d,hd,dv1⟩:=DVs.getV dl' hx;rw[xi]at hd;obtain⟨ts,hts,rfl⟩:=xm.mp hd;obtain⟨a,ys,rfl,ea,da⟩:=DV.list_inv dv1;have lx:=dx.length;have ly:=da.length;rw[aq]at lx ly;have hle:(t.streams.take (i+1)).flatten.length≤100000:=by
   have e:t.all.length=((t.streams.take (i+1)).flatten++(t.streams.drop (i+1)).flatten).length:=by
    rw[←List.flatten_append,xM,←Tr.all_eq]
   rw[wH]at e;omega
  have et:(t.streams.take (i+1)).flatten=(t.streams.take i).flatten++ts:=by
   rw[zI,hts,List.flatten_append];simp
  rw[et,wH]at hle;refine⟨_,rfl,.inl ⟨rfl,_,SqL.of eT⟩,_,rfl,Ta,a,xs,ys,rfl,rfl,eT,g2 _ _ ea,Zf (by omega),?_⟩;refine⟨xs++ys,_,rfl,Yj g2 S1,Z5,?_⟩;rw[et,wO];exact dx.append da
 ·rintro σ H2 ⟨xs,o,rfl,g2,eT,dx⟩;refine⟨_,rfl,?_⟩;rw[dll,xp,←Tr.all_eq]at dx;refine hq Ta xs H2 ?_ hTa eT (dx.mono g2);exact fun b u hb=>g2 b u (by rw[Ze (Zh hb hTa)];exact g1 b u (Zc hTa _ b u hb))
def eC:Sp:=fun vs H Q _=>∃(x:V)(T:String),vs=[x]∧Kd H x T∧Q (.bl (whV x)) H
def oS:Sp:=fun vs H Q _=>∃(x:V)(T:String)(l:Int),vs=[x,.int l]∧Kd H x T∧Q (.bl (wF x l)) H
def wp:Sp:=fun vs H Q _=>∃(i l m:Int),vs=[.int i,.int l,.int m]∧Q (.bl (decide (l≤i) && decide (i≤m))) H
def iZ:Sp:=fun vs H Q _=>∃(x:V)(T:String),vs=[x]∧Kd H x T∧(∀z,x=.str z→z.length≤1000)∧∀H',Same H H'→Q (.bl (mkB x)) H'
theorem gP(ag:mg "isinstance"=none)(oV:mg "int"=none)(g_:mg "bool"=none)(F:Fun K "is_whole" "is_whole" cP f fd):FnOk P w K mg base CX0 1 f fd ["thing"] eC:=by
 refine F.ok Nj (fun vs H Q E h=>?_) (fun cdv A outer s H vs Q E hr h=>?_)
 ·obtain⟨x,T,rfl,_⟩:=h;rfl
 obtain⟨x,T,rfl,hk,hq⟩:=h;refine⟨_,(Z6 (Zd (Wz (Zg Xi rfl ag xB (Z0 (pv 0) (Z0 (Xe (v:=.ty "int") rfl oV PyProof.Rows.boot_int rfl) Z1))) (Ug (tK (Zg Xi rfl ag xB (Z0 (pv 0) (Z0 (Xe (v:=.ty "bool") rfl g_ PyProof.Rows.boot_bool rfl) Z1)))))))),?_⟩;rw[←hk.wh]at hq;refine⟨_,rfl,_,_,"int",_,rfl,hk.ty,hk.kit (by decide) rfl,_,rfl,?_⟩;refine V2 (fun c=>?_) (fun c=>?_)
 ·refine⟨_,rfl,_,_,"bool",_,rfl,hk.ty,hk.kit (by decide) rfl,_,rfl,?_⟩;rw[c,zU]at hq;exact hq
 ·rw[xO.mpr c,yr]at hq;exact hq
theorem Tv(iX:Has P w K mg base "is_whole" 1 ["thing"] eC)(F:Fun K "is_whole_from" "is_whole_from" a8 f fd):FnOk P w K mg base CX0 2 f fd ["thing","least"] oS:=by
 refine F.ok Tt (fun vs H Q E h=>?_) (fun cdv A outer s H vs Q E hr h=>?_)
 ·obtain⟨x,T,l,rfl,_⟩:=h;rfl
 obtain⟨x,T,l,rfl,hk,hq⟩:=h;refine⟨_,(Z6 (Zd (Wz (Z4 iX hr (Z0 (pv 0) Z1)) (Ug (X5 pY (pv 0) (pv 1) (Zl _)))))),?_⟩;refine⟨_,rfl,x,T,rfl,hk,_,rfl,?_⟩;cases x with
 |int i=>exact Wg ⟨_,rfl,_,rfl,_,_,rfl,rfl,hq⟩
 |_=>exact Yu hq
theorem i5(ag:mg "isinstance"=none)(oo:mg "str"=none)(aE:mg "len"=none)(aY:mg "all"=none)(mE:∃u,mg "LETTERS"=some u∧RelV (.str letters) u)(dL:∃u,mg "LONGEST_MARK"=some u∧RelV (.int 8) u)(F:Fun K "is_mark" "is_mark" dh f fd):FnOk P w K mg base CX0 1 f fd ["thing"] iZ:=by
 refine F.ok ie (fun vs H Q E h=>?_) (fun cdv A outer s H vs Q E hr h=>?_)
 ·obtain⟨x,T,rfl,_⟩:=h;rfl
 obtain⟨x,T,rfl,hk,hl,hq⟩:=h;refine⟨_,(Z2 (Ye (PW.pt (Wm (X7 (X4 (Zg Xi rfl ag xB (Z0 (pv 0) (Z0 (Xe (v:=.ty "str") rfl oo PyProof.Rows.boot_str rfl) Z1))))) (Wm (Zs oz (Zg Ti rfl aE xZ (Z0 (pv 0) Z1)) Z3 (Zl _)) (Xn (Zs Ri (Zg Ti rfl aE xZ (Z0 (pv 0) Z1)) (Wp rfl dL) (Zl _)))))) (Z6 (Zd X6)) Zq)
 (Z6 (Zd (Zg (Wt rfl) rfl aY yI (Z0 (Yo (own:=["sign"]) (U6 rfl rfl) (uB (pv 0))
  (fun _ _ _ _ _=>(Z7 (i:=0) Tw rfl (Or.inl rfl) (Or.inr rfl))) (fun _ _ _ _ _=>Yt)
  (fun _ _ _ _ _=>(X5 lV (pv 0) (Wp rfl mE) (by with_unfolding_all rfl)))) Z1))))),?_⟩
 have no:i0 T "str"=false→mkB x=false:=fun e=>by
  cases hk with
  |str z=>exact absurd e (by decide)
  |_=>rfl
 refine⟨_,rfl,_,_,"str",_,rfl,hk.ty,hk.kit (by decide) rfl,_,rfl,?_⟩;cases hc:i0 T "str" with
 |false=>
  have q:=hq H (Same.refl _);rw[no hc]at q;exact Wg q
 |true=>
  obtain⟨z,rfl⟩:∃z,x=.str z:=by
   cases hk with
   |str z=>exact⟨z,rfl⟩
   |_=>exact absurd hc (by decide)
  refine Yu ?_;have hz:z.length≤sizeLine:=Zf (by have:=hl z rfl;omega);refine⟨_,rfl,z,rfl,hz,_,_,rfl,rfl,_,rfl,?_⟩;refine V2 (fun c=>?_) (fun c=>?_)
  ·have c:=wU c;have q:=hq H (Same.refl _);have e:mkB (.str z)=false:=by
    show mkS z=false;unfold mkS;rw[xg (by omega),yr,yr]
   rw[e]at q;exact Wg q
  ·have c:=yJ (xO.mpr c);refine⟨_,rfl,z,rfl,hz,_,_,rfl,rfl,_,rfl,?_⟩;refine V2 (fun c2=>?_) (fun c2=>?_)
   ·have c2:=wU c2;have q:=hq H (Same.refl _);have e:mkB (.str z)=false:=by
     show mkS z=false;unfold mkS;rw[xg (p:=z.length≤8) (by omega),zM,yr]
    rw[e]at q;exact q
   ·have c2:=yJ (xO.mpr c2);refine⟨_,rfl,z,rfl,?_⟩;have hsz:z.cps.size≤8:=by
     have:z.length=z.cps.size:=rfl;omega
    refine oQ (fun i ys H'=>H'=H∧ys=((z.cps.toList.take i).map sgB).map V.bl) ⟨rfl,rfl⟩ ?_ ?_
    ·rintro i c ys H' C hx ⟨rfl,rfl⟩ hC;have hx':z.cps.toList[i]?=some c:=by simpa using hx
     refine⟨Zk ?_,Wk.refl _,_,rfl,_,_,rfl,rfl,hC _ _ ⟨rfl,?_⟩⟩
     ·rw[aq,aq,wT,wG];omega
     ·rw[Zo hx',wO,wO];rfl
    ·rintro ys H' ⟨rfl,rfl⟩;have e:z.cps.toList.take z.cps.size=z.cps.toList:=by rw[←wG,xp]
     rw[e];refine⟨Zf ?_,fun p hp=>⟨p,_,rfl,SqL.of Z5,?_⟩⟩
     ·rw[aq,aq,wG];omega
     ·have q:=hq _ (Zc hp (.lst ((z.cps.toList.map sgB).map V.bl)));have e2:mkB (.str z)=(z.cps.toList.map sgB).all id:=by
       show mkS z=_;unfold mkS;rw[wV (p:=1≤z.length) (by omega),wV (p:=z.length≤8) (by omega),List.all_map];rfl
      rw[e2]at q;exact q
theorem Uh(ay:Has P w K mg base "is_whole_from" 2 ["thing","least"] oS)(F:Fun K "is_whole_within" "is_whole_within" aU f fd):FnOk P w K mg base CX0 3 f fd ["thing","least","most"] wp:=by
 refine F.ok Ud (fun vs H Q E h=>?_) (fun cdv A outer s H vs Q E hr h=>?_)
 ·obtain⟨i,l,m,rfl,_⟩:=h;rfl
 obtain⟨i,l,m,rfl,hq⟩:=h;refine⟨_,(Z6 (Zd (Wz (Z4 ay hr (Z0 (pv 0) (Z0 (pv 1) Z1))) (Ug (X5 pT (pv 0) (pv 2) (Zl _)))))),?_⟩;refine⟨_,rfl,_,rfl,.int i,"int",l,rfl,.int _,_,rfl,?_⟩;refine V2 (fun c=>?_) (fun c=>?_)
 ·have c:decide (l≤i)=true:=c;rw[c,zU]at hq;exact⟨_,rfl,_,rfl,_,_,rfl,rfl,hq⟩
 ·have c:decide (l≤i)=false:=xO.mpr c;rw[c,yr]at hq;exact hq
end K20
namespace L2
open PySem PySem.Spec PyProof.Rows
section
variable{X:Cx}{x c n:Str}{p pos cpos epos np ap hpos:Pos}{e:Expr}{es:List Expr}{ta:TA}{tb:TS}{b₀:Stmt}{suite:List Stmt}{j k i:Nat}{ps:List Str}{sp:Sp}{S:Addr}
end
section
variable{P:Program}{w:World}{A:Around}{E:Value→Shared→Prop}{s:Shared}{a b:Addr}{va vb:List (Key×Value)}
def si:Value→Option Int
 |.int n _=>some n
 |_=>none
def cJ(vb:List (Key×Value))(p:Key×Value):Bool:=decide ((valueAt vb p.1).bind si=si p.2)
theorem P8{knd:PySem.KeyKind P w Key}{es:List DictEntry}{kvs:List (Key×Value)}(h:Pairs knd es kvs):∀{i:Nat}{e:DictEntry},es[i]?=some e→∃kv,kvs[i]?=some kv∧knd.is kv.1 e.key=true∧e.val=kv.2:=by
 induction h with
 |nil=>intro i e z;simp at z
 |cons h1 h2 _ ih=>
  intro i e z;cases i with
  |zero=>
   simp only[List.getElem?_cons_zero,Option.some.injEq]at z;subst z;exact⟨_,rfl,h1,h2⟩
  |succ i=>exact ih (by simpa using z)
theorem oE{kvs:List (Key×Value)}{k:Key}(h:k∉kvs.map (·.1)):valueAt kvs k=none:=by
 unfold valueAt;rw[List.find?_eq_none.mpr fun x hx z=>h (wW.mpr ⟨x,hx,wU z⟩)];rfl
theorem Pz{nm:String}{Q:Bool→Shared→Prop}(ha:(a==sysModules)=false)(hb:(b==sysModules)=false)(da:s.heap.DictOf (ad P w) a va)(db:s.heap.DictOf (ad P w) b vb)(ia:∀p∈va,∃n t,p.2=.int n t)(ib:∀p∈vb,∃n t,p.2=.int n t)(h:Q (decide (va.length=vb.length) && va.all (cJ vb)) s):
  wpAny (model P w) A (Builtin.Dict.samePairs nm a b) Q E s:=by
 obtain⟨oa,ea,pa,ga,xa,qa,ka,ra,na⟩:=da;obtain⟨ob,eb,pb,gb,xb,qb,kb,rb,nb⟩:=db;have la:ea.size=va.length:=by have:=ra.length;simpa using this
 have lb:eb.size=vb.length:=by have:=rb.length;simpa using this
 have sh:∀{d:Addr}{R:Unit→Shared→Prop},(d==sysModules)=false→R () s→wpAny (model P w) A (Builtin.Dict.showsAll d) R E s:=fun{d R} hd hr=>by
  unfold Builtin.Dict.showsAll;rw[wK (by rw[hd];decide)];exact io hr
 unfold Builtin.Dict.samePairs;refine ae (sh ha (ae (sh hb (ae (wpAny_dictEntries ga qa (ae (wpAny_dictEntries gb qb ?_)))))));by_cases hl:va.length=vb.length
 ·rw[if_neg (by rw[la,lb,hl];simp)];refine ae (wpAny_dictEpoch ga qa (ae ?_));rw[Std.Legacy.Range.forIn_eq_forIn_range'];refine xX (wpAny_forIn_list _ (fun rest r s'=>∃i,rest=List.range' i (ea.size-i)∧i≤ea.size∧r=(none,())∧s=s'∧∀p∈va.take i,cJ vb p=true)
   (fun r s'=>s=s'∧((r=(none,())∧va.all (cJ vb)=true)∨(r=(some false,())∧va.all (cJ vb)=false))) ?_ ?_ _ _ ⟨0,?_,yc _,rfl,rfl,?_⟩) ?_ (fun _ _ z=>z)
  ·rintro x rest r s' ⟨i,he,hi,rfl,rfl,hp⟩;have hin:i<ea.size:=by
    rcases xP i ea.size with z | z
    ·exact z
    ·rw[Nat.sub_eq_zero_of_le z]at he;cases he
   rw[show ea.size-i=(ea.size-(i+1))+1 by omega,List.range'_succ]at he;obtain⟨rfl,rfl⟩:=List.cons.inj he.symm;have hge:ea[i]?=some ea[i]:=wC hin;obtain⟨p,hpv,hkey,hval⟩:=P8 ra (i:=i) (e:=ea[i]) (by rw[wI];exact hge);obtain⟨k',hk',hh⟩:=ka ea[i] (Array.getElem_mem hin);have:k'=p.1:=(ad P w).inj _ _ _ hk' hkey;subst this;obtain⟨n,t,hn⟩:=ia p (wZ hpv);have ev:ea[i].val=.int n t:=hval.trans hn;have tk:va.take (i+1)=va.take i++[p]:=Zo hpv;refine ae (wpAny_dictEntries ga qa ?_);rw[hge];have fF:cJ vb p=false→va.all (cJ vb)=false:=fun hs=>List.all_eq_false.mpr ⟨p,wZ hpv,by rw[hs];decide⟩;have fT:cJ vb p=true→∀q∈va.take (i+1),cJ vb q=true:=fun hs q hq=>by
    rw[tk]at hq
    rcases wY.mp hq with z | z
    ·exact hp q z
    ·rw[wR.mp z];exact hs
   refine ae (xQ (ae ?_));rw[hh];refine wpAny_dictFind_of hkey gb qb kb ?_;have fi:eb.findIdx? (fun e=>(ad P w).is p.1 e.key)=vb.findIdx? fun kv=>decide (kv.1=p.1):=by
    rw[←rb.findIdx p.1];cases eb;simp
   cases hf:eb.findIdx? (fun e=>(ad P w).is p.1 e.key) with
   |none=>
    rw[hf]at fi;refine io ?_;rw[wM (by decide)];refine io ⟨rfl,.inr ⟨rfl,fF ?_⟩⟩;unfold cJ;rw[oE (not_mem_of_findIdx_none fi.symm),hn];rfl
   |some j=>
    obtain⟨hj,hjk,_⟩:=Array.findIdx?_eq_some_iff_getElem.mp hf;have hge2:eb[j]?=some eb[j]:=wC hj;obtain⟨p2,hpv2,hkey2,hval2⟩:=P8 rb (i:=j) (e:=eb[j]) (by rw[wI];exact hge2);have e1:p2.1=p.1:=(ad P w).inj _ _ _ hkey2 hjk;obtain⟨m,u,hm⟩:=ib p2 (wZ hpv2);have ev2:eb[j].val=.int m u:=hval2.trans hm;have vv:valueAt vb p.1=some p2.2:=valueAt_of_get nb (i:=j) (by rw[hpv2,←e1]);refine ae (wpAny_dictEntries gb qb ?_);rw[hge2];refine xQ ?_;rw[ev,ev2];have hq:cJ vb p=decide (n=m):=by
     unfold cJ;rw[vv,hn,hm];show decide (some m=some n)=decide (n=m);by_cases z:n=m
     ·subst z;simp
     ·rw[xg z,xg (fun y=>z (by cases y;rfl))]
    refine wpAny_eqBool_int ?_;by_cases z:n=m
    ·rw[if_neg (by simp[z])];refine ae (wpAny_dictEpoch ga qa ?_);rw[if_neg (by simp)];exact io ⟨i+1,rfl,by omega,rfl,rfl,fT (by rw[hq,wV z])⟩
    ·rw[if_pos (by simp[z])];exact io ⟨rfl,.inr ⟨rfl,fF (by rw[hq,xg z])⟩⟩
  ·rintro r s' ⟨i,he,hi,rfl,rfl,hp⟩;refine⟨rfl,.inl ⟨rfl,?_⟩⟩;have hz:ea.size-i=0:=by
    cases hq:ea.size-i with
    |zero=>rfl
    |succ q=>rw[hq,List.range'_succ]at he;cases he
   rw[xK (by omega)]at hp;exact yn.mpr hp
  ·simp
  ·intro p hp;simp at hp
  ·rintro r s' ⟨rfl,⟨rfl,hv⟩|⟨rfl,hv⟩⟩
   ·rw[hv,wV hl]at h;exact io h
   ·rw[hv,zM]at h;exact io h
 ·rw[if_pos (by rw[la,lb];simpa using hl)];rw[xg hl,yr]at h;exact ae (yQ (io h))
theorem Qq(ha:(a==sysModules)=false)(hb:(b==sysModules)=false):MeetsIn P w (Builtin.«dict.__eq__» ⟨[.ref a,.ref b],[]⟩) (fun _ R s=>s.heap.DictOf (ad P w) a va∧s.heap.DictOf (ad P w) b vb∧
  (∀p∈va,∃n t,p.2=.int n t)∧(∀p∈vb,∃n t,p.2=.int n t)∧R (.ok (.ret (.bool (decide (va.length=vb.length) && va.all (cJ vb))))) s):=
 .of_wp fun A R s ⟨da,db,ia,ib,h⟩=>by
  show wpAny _ _ (Builtin.Dict.dictSlotArgs "__eq__" ⟨[.ref a,.ref b],[]⟩ >>= _) _ _ s;refine ae ?_;unfold Builtin.Dict.dictSlotArgs;refine ae (wpAny_notOrdered_dict da.typeIs ?_);show wpAny _ _ (pure (Value.ref a,Value.ref b)) _ _ s;refine io ?_;refine ae (wpAny_isInstance db.typeIs isSubtype_dict_dict ?_);rw[wK (by decide)];show wpAny _ _ (Builtin.Dict.samePairs _ a b >>= _) _ _ s;refine ae (Pz ha hb da db ia ib ?_);have bt:∀c:Bool,(c==true)=c:=fun c=>by cases c <;> rfl
  rw[bt];exact io ⟨_,rfl,h⟩
theorem Oo:∀{ps:Ps}{vs:List (Key×Value)},KV (ax ps) vs→∀p∈vs,∃n t,p.2=.int n t
 | [],_,h,p,hp=>by
  cases (show Paired _ [] _ from h);cases hp
 |q::ps,_,h,p,hp=>by
  cases (show Paired _ ((Sum.inr q.1,V.int q.2)::ax ps) _ from h) with
  |cons f r=>
   rcases wX.mp hp with rfl | hp
   ·obtain⟨_,t,e⟩:=f;exact⟨_,t,e⟩
   ·exact Oo r p hp
theorem um{qs:Ps}(nd:(qs.map (·.1)).Nodup)(z:Str)(n:Int):aX (ax qs) (Sum.inr z)=some (.int n)↔(z,n)∈qs:=by
 constructor
 ·intro h;by_cases hz:z∈qs.map (·.1)
  ·rw[fY nd hz]at h;cases h;obtain⟨p,hp,rfl⟩:=wW.mp hz;rw[Xg nd hp];exact hp
  ·have e:aX (ax qs) (Sum.inr z)=none:=by
    unfold aX;rw[List.find?_eq_none.mpr fun x hx y=>hz ?_]
    ·rfl
    ·obtain⟨p,hp,rfl⟩:=wW.mp hx;have y:=wU y;cases y;exact wW.mpr ⟨p,hp,rfl⟩
   rw[e]at h;cases h
 ·intro h;have:=fY nd (wW.mpr ⟨_,h,rfl⟩);rw[Xg nd h]at this;exact this
theorem ur{qs:Ps}(nd:(qs.map (·.1)).Nodup){vs:List (Key×Value)}(r:KV (ax qs) vs)(z:Str)(n:Int)(t:Tok):cJ vs (Sum.inr z,.int n t)=decide ((z,n)∈qs):=by
 have q:=r.val (Sum.inr z);have c:=um nd z n;unfold cJ;show decide ((valueAt vs (Sum.inr z)).bind si=some n)=_
 congr 1
 refine propext ⟨fun h=>c.mp ?_,fun h=>?_⟩
 ·cases hv:valueAt vs (Sum.inr z) with
  |none=>rw[hv]at h;cases h
  |some u=>
   rw[hv]at h q;cases ho:aX (ax qs) (Sum.inr z) with
   |none=>rw[ho]at q;exact q.elim
   |some v=>
    rw[ho]at q;have hu:si u=some n:=h;have q:RelV v u:=q;cases u <;> first | (cases hu;done) | skip
    all_goals (first | (cases hu) | skip)
    all_goals (cases v <;> first | (cases q;rfl)|(obtain⟨_,q⟩:=q;cases q;rfl)|(obtain⟨_,q⟩:=q;cases q) | cases q)
 ·have h:=c.mpr h;rw[h]at q;cases hv:valueAt vs (Sum.inr z) with
  |none=>rw[hv]at q;exact q.elim
  |some u=>
   rw[hv]at q;obtain⟨t',rfl⟩:=(show RelV (.int n) u from q);rfl
theorem kf{qs:Ps}(nd:(qs.map (·.1)).Nodup){vb:List (Key×Value)}(rb:KV (ax qs) vb):∀{ps:Ps}{va:List (Key×Value)},KV (ax ps) va→va.all (cJ vb)=ps.all fun p=>decide (p∈qs)
 | [],_,h=>by
  cases (show Paired _ [] _ from h);rfl
 |q::ps,_,h=>by
  cases (show Paired _ ((Sum.inr q.1,V.int q.2)::ax ps) _ from h) with
  | @cons _ u _ _ f r=>
   obtain⟨k,v⟩:=u;obtain⟨e1,t,e2⟩:=f;have e1:Sum.inr q.1=k:=e1;have e2:v=.int q.2 t:=e2;subst e1 e2;rw[List.all_cons,List.all_cons,kf nd rb r,ur nd rb]
theorem Pd:∀{l:List Str},(l.map (Sum.inr:Str→Key)).Nodup→l.Nodup
 | [],_=>xY
 |x::l,h=>by
  obtain⟨h1,h2⟩:=xG.mp h;exact xG.mpr ⟨fun z=>h1 (wW.mpr ⟨x,z,rfl⟩),Pd h2⟩
def vM:R2:=fun x y H Q=>∃a b ps qs,x=.ref a∧y=.ref b∧H a=some (.dK (ax ps))∧H b=some (.dK (ax qs))∧Q (.bl (decide (ps.length=qs.length) && ps.all fun p=>decide (p∈qs))) H
theorem rq{X:Cx}(hu:X.A.units<cLine):OpR X (compareOp .Eq) vM:=by
 intro or s σ H x y v u Q I rx ry h;obtain⟨a,b,ps,qs,rfl,rfl,ea,eb,q⟩:=h;cases rx;cases ry;obtain⟨za,ha,va,ra,da⟩:=Pl I.hok ea;obtain⟨zb,hb,vb,rb,db⟩:=Pl I.hok eb;have nd:(qs.map (·.1)).Nodup:=by
  obtain⟨_,_,_,_,_,_,_,_,n⟩:=db;rw[←rb.keys,Wr]at n;exact Pd n
 have l1:=ra.length;have l2:=rb.length;rw[Yc]at l1 l2;refine wpAny_richCompare_same_room (op:=.Eq) da.typeIs db.typeIs PySem.F.slot_dict_eq (call_meetsIn PySem.F.slot_dict_eq da.typeIs PySem.F.entry_dict_eq (PySem.F.args_dict_eq_2 _ _) (Qq ha hb) ⟨da,db,Oo ra,Oo rb,?_⟩) hu;refine⟨(fun z=>nomatch z),.bl _,H,I,rfl,?_⟩;rw[kf nd rb ra,←l1,←l2];exact q
end
section
variable{P:Program}{w:World}{A:Around}{E:Value→Shared→Prop}{s:Shared}
theorem Ve{it t:Addr}{k:Nat}{vs:Array Value}{v:Value}{Q:Value→Shared→Prop}(ti:s.heap.IsTupleIter it t k)(tt:s.heap.IsTuple t vs)(hv:vs[k]?=some v)(q:∀g,g.IsTupleIter it t (k+1)→Heap.SameBut it s.heap g→Q v {s with heap:=g}):wpAny (model P w) A (Builtin.SmallTypes.nextOf (.ref it)) Q E s:=by
 obtain⟨ou,gu,cu,du⟩:=id ti;obtain⟨ov,gv,_,nv,dv⟩:=tt;unfold Builtin.SmallTypes.nextOf;refine ae (yN (name:=Str.ofString "__next__") ti.typeIs yE (x9 yE ti.typeIs PySem.F.entry_tuple_iterator_next ?_ (PySem.F.args_tuple_iterator_next_1 _)));show wpAny _ _ (field (.ref it) 0 >>= fun _=>_) _ _ s;refine ae (yS gu du (x:=.ref t) rfl ?_);rw[wK (show ¬((Value.ref t==Value.none)=true)from wJ)];show wpAny _ _ (field (.ref it) 1 >>= fun _=>_) _ _ s;refine ae (yS gu du (x:=.int k 0) rfl ?_);show wpAny _ _ (seqItems? (.ref t) >>= fun _=>_) _ _ s;refine ae (yC gv dv ?_);simp only[Int.toNat_natCast,hv];refine wpAny_bind (wpAny_setField gu du (by simp) (wpAny_pure ⟨v,rfl,wpAny_pure (q _ ?_ (Heap.SameBut.update ..))⟩));exact⟨_,Heap.get?_update_self _ gu (Obj.isFreed_of_fields (Obj.data_mapFields du _)),(Obj.cls_mapFields ..).trans cu,by rw[Obj.data_mapFields du];simp[rawInt]⟩
theorem Rj{it t:Addr}{k:Nat}{vs:Array Value}{Q:Value→Shared→Prop}(hA:A.handled=none)(ti:s.heap.IsTupleIter it t k)(tt:s.heap.IsTuple t vs)(hv:vs[k]?=none)(q:∀g e,Heap.ExtBut it s.heap g→(∃o,g.get? e=some o∧o.cls=.type "StopIteration")→E (.ref e) {s with heap:=g}):wpAny (model P w) A (Builtin.SmallTypes.nextOf (.ref it)) Q E s:=by
 obtain⟨ou,gu,cu,du⟩:=id ti;obtain⟨ov,gv,_,nv,dv⟩:=tt;unfold Builtin.SmallTypes.nextOf;refine ae (yN (name:=Str.ofString "__next__") ti.typeIs yE (x9 yE ti.typeIs PySem.F.entry_tuple_iterator_next ?_ (PySem.F.args_tuple_iterator_next_1 _)));show wpAny _ _ (field (.ref it) 0 >>= fun _=>_) _ _ s;refine ae (yS gu du (x:=.ref t) rfl ?_);rw[wK (show ¬((Value.ref t==Value.none)=true)from wJ)];show wpAny _ _ (field (.ref it) 1 >>= fun _=>_) _ _ s;refine ae (yS gu du (x:=.int k 0) rfl ?_);show wpAny _ _ (seqItems? (.ref t) >>= fun _=>_) _ _ s;refine ae (yC gv dv ?_);simp only[Int.toNat_natCast,hv];refine wpAny_bind (wpAny_rule (wpAny_bind (wpAny_setField gu du (by simp) ?_)));show wpAny _ _ (newExc (.type "StopIteration") [] >>= fun _=>_) _ _ _;refine wpAny_bind ?_;simp only[newExc,newTuple];refine wpAny_bind (wpAny_newObj_type ?_ (by size_fits));refine wpAny_bind (m:=firstArgMember _ _) (wpAny_of_eq (a:=Value.none) (by first | rfl | (simp only[firstArgMember];rfl)) (wpAny_newObj_type ?_ (by size_fits)));simp only[raiseNew];refine wpAny_bind (wpAny_handled ?_);first | rw[show A.in1.handled=none from hA] | rw[hA]
 refine ae (io (wpAny_throw (q _ _ (((Heap.SameBut.update ..).extBut.push _).push _) ⟨_,wD _ rfl,rfl⟩)))
theorem rD{z TI TO i1 i2 t1 t2:Addr}{k:Nat}{us vs:Array Value}{u v a b:Value}{Q:Value→Shared→Prop}(D:ZipApart z TI TO i1 i2 t1 t2)(zz:IsZip s.heap z TI TO .none)(pI:IsPair s.heap TI (.ref i1) (.ref i2))(pO:IsPair s.heap TO a b)(n1:s.heap.IsTupleIter i1 t1 k)(n2:s.heap.IsTupleIter i2 t2 k)(x1:s.heap.IsTuple t1 us)(x2:s.heap.IsTuple t2 vs)(hu:us[k]?=some u)(hv:vs[k]?=some v)(q:∀g,IsZip g z TI TO (rawInt s.heap.objs.size)→IsPair g TO u v→g.IsTupleIter i1 t1 (k+1)→g.IsTupleIter i2 t2 (k+1)→IsPair g s.heap.objs.size u v→
   (∀c o,c≠z→c≠TO→c≠i1→c≠i2→s.heap.get? c=some o→g.get? c=some o)→Q (.ref s.heap.objs.size) {s with heap:=g}):
  wpAny (model P w) A (Builtin.«zip.__next__» ⟨[.ref z],[]⟩) (fun fin s'=>∃r,fin=.done (.ret r)∧Q r s') E s:=by
 show wpAny _ _ (field (.ref z) 2 >>= fun _=>_) _ _ _;refine ae (yS zz rfl (x:=.bool false) rfl ?_);show wpAny _ _ (field (.ref z) 3 >>= fun _=>_) _ _ _;refine ae (yS zz rfl (x:=.ref TI) rfl (ae (yC pI rfl ?_)));show wpAny _ _ (Builtin.SmallTypes.ownedTupleIsFree (.ref z) >>= fun _=>_) _ _ _;refine ae ?_;unfold Builtin.SmallTypes.ownedTupleIsFree;refine wpAny_bind (wpAny_field zz rfl (x:=.none) rfl (wpAny_pure ?_));simp only[if_true];refine wpAny_bind (wpAny_rule (wpAny_bind (wpAny_field zz rfl (x:=.ref TO) rfl (wpAny_bind (wpAny_setField_rec zz (by simp) fun b1 w1 f1=>?_)))))
 replace w1:IsZip b1 z TI TO .ellipsis:=w1
 refine wpAny_bind ?_;simp only[List.zipIdx_cons,List.zipIdx_nil,List.forIn_cons,List.forIn_nil];refine ae (ae (wpAny_onRaise ?_));show wpAny _ _ (Builtin.SmallTypes.nextOf (.ref i1) >>= fun _=>_) _ _ _;refine ae (Ve (n1.extBut f1.extBut D.i1z) (x1.extBut f1.extBut D.l1z) hu fun b2 m1 f2=>io ?_);have o2:IsPair b2 TO a b:=f2.extBut _ _ D.TOi1 (f1.extBut _ _ D.TOz pO);refine ae (yC o2 rfl (ae (wpAny_updateSeq_pair o2 fun b3 o3 f3=>ae (wpAny_letGo (io ?_)))))
 replace o3:IsPair b3 TO u b:=o3
 refine ae (ae (wpAny_onRaise ?_));show wpAny _ _ (Builtin.SmallTypes.nextOf (.ref i2) >>= fun _=>_) _ _ _;refine ae (Ve (((n2.extBut f1.extBut D.i2z).extBut f2.extBut D.i12.symm).extBut f3.extBut D.TOi2.symm) (((x2.extBut f1.extBut D.l2z).extBut f2.extBut D.l2i1).extBut f3.extBut D.l2TO) hv fun b4 m2 f4=>io ?_);have o4:IsPair b4 TO u b:=f4.extBut _ _ D.TOi2 o3;refine ae (yC o4 rfl (ae (wpAny_updateSeq_pair o4 fun b5 o5 f5=>ae (wpAny_letGo (io (io ?_))))))
 replace o5:IsPair b5 TO u v:=o5
 refine ae (yC o5 rfl (ae (wpAny_newTuple ?_)));have sz:b5.objs.size=s.heap.objs.size:=by rw[f5.1,f4.1,f3.1,f2.1,f1.1]
 have w5:IsZip b5 z TI TO .ellipsis:=f5.extBut _ _ D.TOz.symm (f4.extBut _ _ D.i2z.symm (f3.extBut _ _ D.TOz.symm (f2.extBut _ _ D.i1z.symm w1)));have k5:∀c o,c≠z→c≠TO→c≠i1→c≠i2→s.heap.get? c=some o→b5.get? c=some o:=fun c o c1 c2 c3 c4 e=>f5.extBut _ _ c2 (f4.extBut _ _ c4 (f3.extBut _ _ c2 (f2.extBut _ _ c3 (f1.extBut _ _ c1 e))));have m1':b5.IsTupleIter i1 t1 (k+1):=((m1.extBut f3.extBut D.TOi1.symm).extBut f4.extBut D.i12).extBut f5.extBut D.TOi1.symm;have m2':b5.IsTupleIter i2 t2 (k+1):=m2.extBut f5.extBut D.TOi2.symm;have zl:z<b5.objs.size:=wE w5;show wpAny _ _ (Builtin.SmallTypes.ownedTupleHandOut (.ref z) (.ref b5.objs.size) >>= fun _=>_) _ _ _;refine ae ?_;unfold Builtin.SmallTypes.ownedTupleHandOut;have w6:IsZip (b5.push {cls:=.type "tuple",data:=.seq #[u,v]}) z TI TO .ellipsis:=az _ w5;refine wpAny_bind (wpAny_setField_rec w6 (by simp) fun b7 w7 f7=>?_)
 replace w7:IsZip b7 z TI TO (rawInt b5.objs.size):=w7
 refine wpAny_setField_rec w7 (by simp) fun b8 w8 f8=>?_
 replace w8:IsZip b8 z TI TO (rawInt b5.objs.size):=w8
 have up:∀c o,c≠z→b5.get? c=some o→b8.get? c=some o:=fun c o c1 e=>f8.extBut _ _ c1 (f7.extBut _ _ c1 (az _ e));have o8:IsPair b8 b5.objs.size u v:=f8.extBut _ _ (x4 zl) (f7.extBut _ _ (x4 zl) (wD _ rfl));rw[sz]at w8 o8;refine io ⟨_,rfl,?_⟩;show Q (.ref b5.objs.size) _;rw[sz];exact q b8 w8 (up _ _ D.TOz o5) (m1'.at fun o e=>up _ o D.i1z e) (m2'.at fun o e=>up _ o D.i2z e) o8 fun c o c1 c2 c3 c4 e=>up c o c1 (k5 c o c1 c2 c3 c4 e)
theorem t_{z TI TO i1 i2 t1 t2:Addr}{k:Nat}{us vs:Array Value}{a b:Value}{Q:Fin→Shared→Prop}(hA:A.handled=none)(D:ZipApart z TI TO i1 i2 t1 t2)(zz:IsZip s.heap z TI TO .none)(pI:IsPair s.heap TI (.ref i1) (.ref i2))(pO:IsPair s.heap TO a b)(n1:s.heap.IsTupleIter i1 t1 k)(n2:s.heap.IsTupleIter i2 t2 k)(x1:s.heap.IsTuple t1 us)(x2:s.heap.IsTuple t2 vs)(he:us[k]?=none∨vs[k]?=none)(q:∀g e,(∀c o,c≠z→c≠TO→c≠i1→c≠i2→s.heap.get? c=some o→g.get? c=some o)→(∃o,g.get? e=some o∧o.cls=.type "StopIteration")→E (.ref e) {s with heap:=g}):
  wpAny (model P w) A (Builtin.«zip.__next__» ⟨[.ref z],[]⟩) Q E s:=by
 show wpAny _ _ (field (.ref z) 2 >>= fun _=>_) _ _ _;refine ae (yS zz rfl (x:=.bool false) rfl ?_);show wpAny _ _ (field (.ref z) 3 >>= fun _=>_) _ _ _;refine ae (yS zz rfl (x:=.ref TI) rfl (ae (yC pI rfl ?_)));show wpAny _ _ (Builtin.SmallTypes.ownedTupleIsFree (.ref z) >>= fun _=>_) _ _ _;refine ae ?_;unfold Builtin.SmallTypes.ownedTupleIsFree;refine wpAny_bind (wpAny_field zz rfl (x:=.none) rfl (wpAny_pure ?_));simp only[if_true];refine wpAny_bind (wpAny_rule (wpAny_bind (wpAny_field zz rfl (x:=.ref TO) rfl (wpAny_bind (wpAny_setField_rec zz (by simp) fun b1 w1 f1=>?_)))))
 replace w1:IsZip b1 z TI TO .ellipsis:=w1
 refine wpAny_bind ?_;simp only[List.zipIdx_cons,List.zipIdx_nil,List.forIn_cons,List.forIn_nil];refine ae (ae (wpAny_onRaise ?_));show wpAny _ _ (Builtin.SmallTypes.nextOf (.ref i1) >>= fun _=>_) _ _ _;cases hu:us[k]? with
 |none=>
  refine ae (Rj hA (n1.extBut f1.extBut D.i1z) (x1.extBut f1.extBut D.l1z) hu fun b2 e f2 z8=>?_);obtain⟨oe,ge,ce⟩:=z8;have w2:IsZip b2 z TI TO .ellipsis:=f2 _ _ D.i1z.symm w1;have ez:e≠z:=fun y=>by subst y;rw[w2]at ge;cases ge;simp at ce
  exact wpAny_setField_rec w2 (by simp) fun b3 _ f3=>q b3 e (fun c o c1 _ c3 _ y=>f3.extBut _ _ c1 (f2 _ _ c3 (f1.extBut _ _ c1 y))) ⟨oe,f3.extBut _ _ ez ge,ce⟩
 |some u=>
  have hv:vs[k]?=none:=he.elim (fun y=>by rw[hu]at y;cases y) (fun y=>y);refine ae (Ve (n1.extBut f1.extBut D.i1z) (x1.extBut f1.extBut D.l1z) hu fun b2 m1 f2=>io ?_);have o2:IsPair b2 TO a b:=f2.extBut _ _ D.TOi1 (f1.extBut _ _ D.TOz pO);refine ae (yC o2 rfl (ae (wpAny_updateSeq_pair o2 fun b3 o3 f3=>ae (wpAny_letGo (io ?_)))));refine ae (ae (wpAny_onRaise ?_));show wpAny _ _ (Builtin.SmallTypes.nextOf (.ref i2) >>= fun _=>_) _ _ _;refine ae (Rj hA (((n2.extBut f1.extBut D.i2z).extBut f2.extBut D.i12.symm).extBut f3.extBut D.TOi2.symm) (((x2.extBut f1.extBut D.l2z).extBut f2.extBut D.l2i1).extBut f3.extBut D.l2TO) hv fun b4 e f4 z8=>?_);obtain⟨oe,ge,ce⟩:=z8;have w4:IsZip b4 z TI TO .ellipsis:=f4 _ _ D.i2z.symm (f3.extBut _ _ D.TOz.symm (f2.extBut _ _ D.i1z.symm w1));have ez:e≠z:=fun y=>by subst y;rw[w4]at ge;cases ge;simp at ce
  exact wpAny_setField_rec w4 (by simp) fun b5 _ f5=>q b5 e (fun c o c1 c2 c3 c4 y=>f5.extBut _ _ c1 (f4 _ _ c4 (f3.extBut _ _ c2 (f2.extBut _ _ c3 (f1.extBut _ _ c1 y))))) ⟨oe,f5.extBut _ _ ez ge,ce⟩
theorem iE{z TI TO i1 i2 t1 t2:Addr}{k:Nat}{us vs:Array Value}{u v a b:Value}{Q:Option Value→Shared→Prop}(D:ZipApart z TI TO i1 i2 t1 t2)(zz:IsZip s.heap z TI TO .none)(pI:IsPair s.heap TI (.ref i1) (.ref i2))(pO:IsPair s.heap TO a b)(n1:s.heap.IsTupleIter i1 t1 k)(n2:s.heap.IsTupleIter i2 t2 k)(x1:s.heap.IsTuple t1 us)(x2:s.heap.IsTuple t2 vs)(hu:us[k]?=some u)(hv:vs[k]?=some v)(q:∀g,IsZip g z TI TO (rawInt s.heap.objs.size)→IsPair g TO u v→g.IsTupleIter i1 t1 (k+1)→g.IsTupleIter i2 t2 (k+1)→IsPair g s.heap.objs.size u v→
   (∀c o,c≠z→c≠TO→c≠i1→c≠i2→s.heap.get? c=some o→g.get? c=some o)→Q (some (.ref s.heap.objs.size)) {s with heap:=g}):wpAny (model P w) A (pyNext (.ref z)) Q E s:=by
 have ty:s.TypeIs (.ref z) "zip":=⟨_,zz,rfl⟩;unfold pyNext;exact ae (wpAny_attempt (yN (name:=Str.ofString "__next__") ty zG (x9 zG ty PySem.F.entry_zip_next (rD D zz pI pO n1 n2 x1 x2 hu hv fun g a1 a2 a3 a4 a5 a6=>io (q g a1 a2 a3 a4 a5 a6)) (PySem.F.args_zip_next_1 _))))
theorem lU{z TI TO i1 i2 t1 t2:Addr}{k:Nat}{us vs:Array Value}{a b:Value}{Q:Option Value→Shared→Prop}(hA:A.handled=none)(D:ZipApart z TI TO i1 i2 t1 t2)(zz:IsZip s.heap z TI TO .none)(pI:IsPair s.heap TI (.ref i1) (.ref i2))(pO:IsPair s.heap TO a b)(n1:s.heap.IsTupleIter i1 t1 k)(n2:s.heap.IsTupleIter i2 t2 k)(x1:s.heap.IsTuple t1 us)(x2:s.heap.IsTuple t2 vs)(he:us[k]?=none∨vs[k]?=none)(q:∀g,(∀c o,c≠z→c≠TO→c≠i1→c≠i2→s.heap.get? c=some o→g.get? c=some o)→Q none {s with heap:=g}):wpAny (model P w) A (pyNext (.ref z)) Q E s:=by
 have ty:s.TypeIs (.ref z) "zip":=⟨_,zz,rfl⟩;unfold pyNext;refine ae (wpAny_attempt (yN (name:=Str.ofString "__next__") ty zG (x9 zG ty PySem.F.entry_zip_next (t_ hA D zz pI pO n1 n2 x1 x2 he fun g e kk ⟨o,go,co⟩=>?_) (PySem.F.args_zip_next_1 _))));exact ae (wpAny_isInstance (T:="StopIteration") (b:=true) ⟨o,go,co⟩ isSubtype_stop (io (q _ kk)))
abbrev zt1(h:Heap)(t1:Addr):Heap:=h.push {cls:=.type "tuple_iterator",data:=.fields #[.ref t1,.int 0 0]}
abbrev zt2(h:Heap)(t1 t2:Addr):Heap:=(zt1 h t1).push {cls:=.type "tuple_iterator",data:=.fields #[.ref t2,.int 0 0]}
abbrev zt3(h:Heap)(t1 t2:Addr):Heap:=(zt2 h t1 t2).push {cls:=.type "tuple",data:=.seq #[.ref h.objs.size,.ref (zt1 h t1).objs.size]}
abbrev zt4(h:Heap)(t1 t2:Addr):Heap:=(zt3 h t1 t2).push {cls:=.type "tuple",data:=.seq #[.none,.none]}
abbrev zt5(h:Heap)(t1 t2:Addr):Heap:=(zt4 h t1 t2).push {cls:=.type "zip",data:=.fields #[.none,.bool false,.bool false,.ref (zt2 h t1 t2).objs.size,.ref (zt3 h t1 t2).objs.size]}
theorem nO(t1 t2:Addr)(us vs:Array Value):Meets (Builtin.«zip.__new__» ⟨[.type "zip",.ref t1,.ref t2],[]⟩) (fun _ R s=>s.heap.IsTuple t1 us∧s.heap.IsTuple t2 vs∧R (.ok (.ret (.ref (zt4 s.heap t1 t2).objs.size))) {s with heap:=zt5 s.heap t1 t2}):=
 .of_wp fun prog w A R s h=>by
  obtain⟨hp,g,d,tk,os⟩:=s;obtain⟨y1,y2,h⟩:=h;have hsub:=sub_zip;have Y1:Heap.IsTuple (Shared.heap ⟨hp,g,d,tk,os⟩) t1 us:=y1;have Y2:Heap.IsTuple (Shared.heap ⟨hp.push {cls:=.type "tuple_iterator",data:=.fields #[.ref t1,.int 0 0]},g,d,tk,os⟩) t2 vs:=Heap.IsTuple.push y2 _
  wp_walk using wpAny_pyIter_tuple Y1,wpAny_pyIter_tuple Y2
  exact⟨_,rfl,h⟩
theorem rC{t1 t2:Addr}{us vs:Array Value}{Q:Value→Shared→Prop}(y1:s.heap.IsTuple t1 us)(y2:s.heap.IsTuple t2 vs)(q:∀g,IsZip g (s.heap.objs.size+4) (s.heap.objs.size+2) (s.heap.objs.size+3) .none→IsPair g (s.heap.objs.size+2) (.ref s.heap.objs.size) (.ref (s.heap.objs.size+1))→IsPair g (s.heap.objs.size+3) .none .none→
   g.IsTupleIter s.heap.objs.size t1 0→g.IsTupleIter (s.heap.objs.size+1) t2 0→(∀c o,s.heap.get? c=some o→g.get? c=some o)→Q (.ref (s.heap.objs.size+4)) {s with heap:=g}):
  wpAny (model P w) A (call (.type "zip") [.ref t1,.ref t2]) Q E s:=by
 refine callType_new PySem.F.called_zip (by decide) (PySem.F.typeCall_zip_2 _ _) (PySem.F.newCall_zip_2 _ _) (fun obj=>PySem.F.args_object_init_3 obj _ _) PySem.F.entry_zip_new (nO t1 t2 us vs) ⟨y1,y2,?_⟩;have l1:(zt1 s.heap t1).objs.size=s.heap.objs.size+1:=yA ..;have l2:(zt2 s.heap t1 t2).objs.size=s.heap.objs.size+2:=by rw[yA,l1]
 have l3:(zt3 s.heap t1 t2).objs.size=s.heap.objs.size+3:=by rw[yA,l2]
 have l4:(zt4 s.heap t1 t2).objs.size=s.heap.objs.size+4:=by rw[yA,l3]
 have up:∀{h:Heap}{o o':Obj}{c:Addr},h.get? c=some o→(h.push o').get? c=some o:=fun e=>az _ e;have e5:(zt5 s.heap t1 t2).get? (zt4 s.heap t1 t2).objs.size=some _:=wD _ rfl;have e4:(zt5 s.heap t1 t2).get? (zt3 s.heap t1 t2).objs.size=some _:=up (wD _ rfl);have e3:(zt5 s.heap t1 t2).get? (zt2 s.heap t1 t2).objs.size=some _:=up (up (wD _ rfl));have e2:(zt5 s.heap t1 t2).get? (zt1 s.heap t1).objs.size=some _:=up (up (up (wD _ rfl)));have e1:(zt5 s.heap t1 t2).get? s.heap.objs.size=some _:=up (up (up (up (wD _ rfl))));show _∧_;rw[l2,l3,l4]at e5;rw[l1,l2]at e3;rw[l3]at e4;rw[l1]at e2;rw[l4];exact⟨⟨_,e5,rfl⟩,q _ e5 e3 e4 ⟨_,e1,rfl,rfl⟩ ⟨_,e2,rfl,rfl⟩ fun c o y=>up (up (up (up (up y))))⟩
end
def tO(K:W.Frag)(a b:Addr):It:=
 ⟨fun i H=>∃xs ys x y,SqT K H a xs∧SqT K H b ys∧xs[i]?=some x∧ys[i]?=some y,
  fun i H u H'=>∃T x y,u=.ref T∧H T=none∧H'=upd H T (.tup [x,y])∧∀xs ys,SqT K H a xs→SqT K H b ys→xs[i]?=some x∧ys[i]?=some y,
  fun i H=>∃xs ys,SqT K H a xs∧SqT K H b ys∧(xs.length≤i∨ys.length≤i)⟩
abbrev ztTn(z TI TO i1 i2 l1 l2:Addr):Nat→Heap→Prop:=fun i h=>IsZip h z TI TO .none∧IsPair h TI (.ref i1) (.ref i2)∧(∃a b,IsPair h TO a b)∧h.IsTupleIter i1 l1 i∧h.IsTupleIter i2 l2 i
theorem qS{P:Program}{w:World}{K:W.Frag}{elts:List Expr}{k:Nat}{pos:Pos}{z TI TO i1 i2 l1 l2:Addr}(D:ZipApart z TI TO i1 i2 l1 l2):Turn P w K (.Tuple elts k pos) (tO K l1 l2) [z,TI,TO,i1,i2] z (ztTn z TI TO i1 i2 l1 l2) where
 mem:=by simp
 obj:=fun i h st b hb=>by
  obtain⟨hz,hTI,⟨a',b',hTO⟩,⟨o1,e1,c1,d1⟩,o2,e2,c2,d2⟩:=st;simp only[List.mem_cons,List.not_mem_nil,or_false]at hb
  rcases hb with rfl | rfl | rfl | rfl | rfl
  ·exact⟨_,hz,fun v q=>(nomatch q)⟩
  ·exact⟨_,hTI,fun v q=>(nomatch q)⟩
  ·exact⟨_,hTO,fun v q=>(nomatch q)⟩
  ·exact⟨o1,e1,fun v q=>by rw[d1]at q;cases q⟩
  ·exact⟨o2,e2,fun v q=>by rw[d2]at q;cases q⟩
 keep:=fun i h h' st kk=>by
  obtain⟨hz,hTI,⟨a,b,hTO⟩,h1,h2⟩:=st;exact⟨kk z (by simp) _ hz,kk TI (by simp) _ hTI,⟨a,b,kk TO (by simp) _ hTO⟩,h1.at fun o e=>kk i1 (by simp) o e,h2.at fun o e=>kk i2 (by simp) o e⟩
 item:=by
  intro X hP hw hK hc i or s σ H E I hf st hg;subst hP hw hK;obtain⟨xs,ys,x,y,hq1,hq2,hx,hy⟩:=hg;obtain⟨its1,rv1,p1,hz1⟩:=I.tuple hq1;obtain⟨its2,rv2,p2,hz2⟩:=I.tuple hq2;obtain⟨u,hu,ru⟩:=rv1.get hx;obtain⟨v,hv,rv⟩:=rv2.get hy;obtain⟨hz,hTI,⟨a,b,hTO⟩,h1,h2⟩:=st;refine iE D hz hTI hTO h1 h2 p1 p2 (u:=u) (v:=v) (by simpa using hu) (by simpa using hv) fun h' a1 a2 a3 a4 a5 hk=>?_;refine⟨_,rfl,?_⟩;refine wpAny_letOwnedTupleGo_zip (s:={s with heap:=h'}) a1 fun h2' z' sb=>?_;have lt:∀{c o},s.heap.get? c=some o→c≠s.heap.objs.size:=fun e=>wS (wE e);have Tz:s.heap.objs.size≠z:=Ne.symm (lt hz);have l1':i1≠s.heap.objs.size:=by obtain⟨o,e,_⟩:=h1;exact lt e
  have l2':i2≠s.heap.objs.size:=by obtain⟨o,e,_⟩:=h2;exact lt e
  refine⟨.ref s.heap.objs.size,upd H s.heap.objs.size (.tup [x,y]),?_,rfl,⟨s.heap.objs.size,x,y,rfl,I.hok.fresh (pi _),rfl,fun xs' ys' e1 e2=>?_⟩,?_,fun b hb=>?_⟩
  ·refine I.zipped (t':=s.toks) (ch:=[z,TI,TO,i1,i2]) (fun b o hb e=>?_) hf (pi _) ⟨by show(2:Nat)≤sizeLine;decide,[u,v],.cons ru (.cons rv .nil),?_⟩
   ·simp only[List.mem_cons,List.not_mem_nil,or_false,not_or]at hb;obtain⟨b1,b2,b3,b4,b5⟩:=hb;exact sb.extBut _ _ b1 (hk b o b1 b3 b4 b5 e)
   ·exact⟨_,sb.extBut _ _ Tz a5,⟨rfl,rfl⟩,_,rfl⟩
  ·rw[I.tuple_inj e1 hq1,I.tuple_inj e2 hq2];exact⟨hx,hy⟩
  ·exact⟨z',sb.extBut _ _ D.TIz (hk _ _ D.TIz D.TITO D.TIi1 D.TIi2 hTI),⟨_,_,sb.extBut _ _ D.TOz a2⟩,a3.extBut sb.extBut D.i1z,a4.extBut sb.extBut D.i2z⟩
  ·have bn:b≠s.heap.objs.size:=by
    simp only[List.mem_cons,List.not_mem_nil,or_false]at hb
    rcases hb with rfl | rfl | rfl | rfl | rfl
    ·exact lt hz
    ·exact lt hTI
    ·exact lt hTO
    ·exact l1'
    ·exact l2'
   rw[Z9 bn];exact(hf b hb).1
 done:=by
  intro X hP hw hK hc i or s σ H E I hf st hg;subst hP hw hK;obtain⟨xs,ys,hq1,hq2,hx⟩:=hg;obtain⟨its1,rv1,p1,hz1⟩:=I.tuple hq1;obtain⟨its2,rv2,p2,hz2⟩:=I.tuple hq2;obtain⟨hz,hTI,⟨a,b,hTO⟩,h1,h2⟩:=st;have e1:=rv1.length;have e2:=rv2.length;refine lU (I.ok.hd hc) D hz hTI hTO h1 h2 p1 p2 ?_ fun h' hk=>⟨rfl,I.turnedL (t':=s.toks) (ch:=[z,TI,TO,i1,i2]) (fun b o hb e=>?_) hf⟩
  ·rcases hx with hx | hx
   ·exact .inl (by simp;omega)
   ·exact .inr (by simp;omega)
  ·simp only[List.mem_cons,List.not_mem_nil,or_false,not_or]at hb;obtain⟨b1,b2,b3,b4,b5⟩:=hb;exact hk b o b1 b3 b4 b5 e
 self:=fun _ _ _ _ _ st h=>wpAny_pyIter_zip st.1 h
def vS(K:W.Frag)(ta:TA):TI:=fun σ H R=>ta σ H fun vs H1=>∃a b,vs=[.ref a,.ref b]∧(∃xs,SqT K H1 a xs)∧(∃ys,SqT K H1 b ys)∧R (tO K a b) H1
theorem qz{X:Cx}{elts:List Expr}{n:Nat}{tp:Pos}{a b:Expr}{ta:TA}{p pos:Pos}(hg:Gl X "zip")(hm:X.mg "zip"=none)(ha:PA X [a,b] ta)(hs:starEach [a,b] X.env=[(false,eval a X.env),(false,eval b X.env)]:=by rfl)(hs2:starEach [b] X.env=[(false,eval b X.env)]:=by rfl):
  PI X (.Tuple elts n tp) (.Call (.Name "zip" p) [a,b] [] pos) (vS X.K ta):=by
 intro or s σ H R I h;refine Call_ (Um I hg hm boot_zip (yR (thn (ha pos or s σ H _ I h) fun us s1 ⟨vs,H1,I1,r1,q1⟩=>?_) (by rw[hs,hs2]) (by rw[hs2];rfl)));obtain⟨l1,l2,e,⟨xs,hq1⟩,⟨ys,hq2⟩,q⟩:=q1;subst e;cases r1 with
 |cons r rr=>
  cases rr with
  |cons r' rr=>
   cases rr;cases r;cases r';obtain⟨its1,rv1,p1,hz1⟩:=I1.tuple hq1;obtain⟨its2,rv2,p2,hz2⟩:=I1.tuple hq2;have lt1:l1<s1.heap.objs.size:=by obtain⟨o,e,_⟩:=p1;exact wE e
   have lt2:l2<s1.heap.objs.size:=by obtain⟨o,e,_⟩:=p2;exact wE e
   have D:ZipApart (s1.heap.objs.size+4) (s1.heap.objs.size+2) (s1.heap.objs.size+3) s1.heap.objs.size (s1.heap.objs.size+1) l1 l2:=by constructor <;> (unfold Addr at *;omega)
   refine rC p1 p2 fun h' c1 c2 c3 c4 c5 hk=>?_;refine wpAny_pyIter_zip (s:={s1 with heap:=h'}) c1 ?_;refine⟨_,[_,_,_,_,_],_,_,H1,rfl,I1.kept (t':=s1.toks) hk,qS D,⟨c1,c2,⟨_,_,c3⟩,c4,c5⟩,fun b hb=>?_,q⟩;have hb':s1.heap.objs.size≤b:=by
    simp only[List.mem_cons,List.not_mem_nil,or_false]at hb
    rcases hb with rfl | rfl | rfl | rfl | rfl
    ·exact ya _ _
    ·exact ya _ _
    ·exact ya _ _
    ·exact pi _
    ·exact ya _ _
   exact I1.fpOk hb' (I1.hok.fresh hb')
theorem kL{K:W.Frag}{a b:Addr}{xs zs:List V}{k:Nat}{g:TG}{tt:TT}{te:TE}{σ:St}{H:Hp}{Q:VK}(Pv:Nat→List V→Hp→Prop)(h0:Pv 0 [] H)(hl:∀i ys H,i≤min xs.length zs.length→Pv i ys H→SqT K H a xs∧SqT K H b zs)(hs:∀i x z ys H (T:Addr) (C:List V→Hp→Prop),xs[i]?=some x→zs[i]?=some z→Pv i ys H→H T=none→(∀ys' H',Pv (i+1) ys' H'→C ys' H')→ys.length<sizeLine∧g (.ref T) (List.replicate k none++σ) (upd H T (.tup [x,z])) fun σ2 H2=>Wk σ2 (List.replicate k none++σ)∧tt σ2 H2 fun ok H3=>
   if ok=true then te σ2 H3 fun y H4=>C (ys++[y]) H4 else C ys H3)(Al:∀i ys H,i<min xs.length zs.length→Pv i ys H→ys.length<sizeLine)(hd:∀ys H,Pv (min xs.length zs.length) ys H→ys.length≤sizeLine∧∀p,H p=none→Q (.ref p) (upd H p (.lst ys))):
  CompR (tO K a b) H k g tt te σ Q:=by
 refine⟨fun i m ys H=>m=min xs.length zs.length-i∧i≤min xs.length zs.length∧Pv i ys H,⟨min xs.length zs.length,by simp,Nat.zero_le _,h0⟩,?_⟩;rintro i m ys H ⟨rfl,hi,p⟩;obtain⟨q1,q2⟩:=hl i ys H hi p;by_cases Ac:i<min xs.length zs.length
 ·refine .inr ⟨⟨xs,zs,xs[i]'(by omega),zs[i]'(by omega),q1,q2,xj _,xj _⟩,Al i ys H Ac p,?_⟩;rintro _ _ ⟨T,x,z,rfl,nT,rfl,hy⟩;obtain⟨e1,e2⟩:=hy xs zs q1 q2;exact(hs i x z ys H T (fun ys' H'=>∃m',m'<min xs.length zs.length-i∧m'=min xs.length zs.length-(i+1)∧i+1≤min xs.length zs.length∧Pv (i+1) ys' H') e1 e2 p nT (fun ys' H' h=>⟨_,by omega,rfl,Ac,h⟩)).2
 ·have e:i=min xs.length zs.length:=Nat.le_antisymm hi (Nat.le_of_not_lt Ac);subst e;exact .inl ⟨⟨xs,zs,q1,q2,by omega⟩,hd ys H p⟩
end L2
namespace K20
open PySem L2
def kY(zs:List Str):Bool:=(zs.zip (zs.drop 1)).all fun p=>decide (p.1.cps.toList<p.2.cps.toList)
def j0:Sp:=fun vs H Q _=>∃(a:Addr)(zs:List Str),vs=[.ref a]∧H a=some (.tup (zs.map V.str))∧1≤zs.length∧zs.length≤100∧∀H',Same H H'→Q (.bl (kY zs)) H'
variable{P:Program}{w:World}{K:W.Frag}{mg:Str→Option Value}{base:Heap}{f:Addr}{fd:FuncData}
theorem nZ(aY:mg "all"=none)(eG:mg "zip"=none)(F:Fun K "is_rising" "is_rising" bw f fd):FnOk P w K mg base CX0 1 f fd ["parts"] j0:=by
 refine F.ok Uy (fun vs H Q E h=>?_) (fun cdv A outer s H vs Q E hr h=>?_)
 ·obtain⟨a,zs,rfl,_⟩:=h;rfl
 obtain⟨a,zs,rfl,Ag,z1,zl,hq⟩:=h;refine⟨_,(Z6 (Zd (Zg (Wt rfl) rfl aY yI (Z0 (Yo (own:=["one","other"]) (U6 rfl rfl) (qz rfl eG (Z0 (pv 0) (Z0 (Wo uN (pv 0) (Vt Z3) Vu) Z1)))
  (fun _ _ _ _ _=>(Vw K 2 rfl rfl (Za (Z7 (i:=0) Yl rfl (Or.inl rfl) (Or.inr rfl)) (Za (Z7 (i:=1) Yl rfl (Or.inl rfl) (Or.inr rfl)) Y6)))) (fun _ _ _ _ _=>Yt)
  (fun _ _ _ _ _=>(X5 Pa (pv 0) (pv 1) (Zl _)))) Z1)))),?_⟩
 have six:HT.sIx (zs.map V.str).length 0 (some 1)=1:=by
  have h:=HT.sIx_nat (zs.map V.str).length 0 1;rw[show((1:Nat):Int)=1 from rfl]at h;rw[h,aq,y3 z1]
 refine⟨_,rfl,_,rfl,1,rfl,a,_,rfl,SqT.of Ag,(fun z=>by have z:=z.1;rw[six]at z;cases z),fun b n_b=>?_⟩;have eb:cr (zs.map V.str) (some 1) none=(zs.drop 1).map V.str:=by
  unfold cr;rw[six,HT.sIx_none,aq,←List.map_drop];exact xK (by rw[aq,xI];exact pi _)
 rw[eb];have g0:=Zc n_b (.tup ((zs.drop 1).map V.str));have Aa:=Z5 (H:=H) (a:=b) (o:=.tup ((zs.drop 1).map V.str));have Ag:=g0 _ _ Ag;generalize upd H b (.tup ((zs.drop 1).map V.str))=H1 at g0 Aa Ag⊢;refine⟨a,b,rfl,⟨_,SqT.of Ag⟩,⟨_,SqT.of Aa⟩,?_⟩;have ln:min (zs.map V.str).length ((zs.drop 1).map V.str).length≤100:=by rw[aq,aq];omega
 have zp:(zs.zip (zs.drop 1)).length=min (zs.map V.str).length ((zs.drop 1).map V.str).length:=by rw[List.length_zip,aq,aq]
 refine kL (xs:=zs.map V.str) (zs:=(zs.drop 1).map V.str) (fun n ys H'=>Same H1 H'∧ys=(((zs.zip (zs.drop 1)).take n).map fun p=>decide (p.1.cps.toList<p.2.cps.toList)).map V.bl) ⟨Same.refl _,rfl⟩ ?_ ?_ ?_ ?_
 ·rintro n ys H' _ ⟨g,_⟩;exact⟨SqT.of (g _ _ Ag),SqT.of (g _ _ Aa)⟩
 ·rintro n x z ys H' T C hx hz ⟨g,rfl⟩ nT hC;rw[xi]at hx hz;obtain⟨x',hx',rfl⟩:=xm.mp hx;obtain⟨z',hz',rfl⟩:=xm.mp hz;have hp:(zs.zip (zs.drop 1))[n]?=some (x',z'):=List.getElem?_zip_eq_some.mpr ⟨hx',hz'⟩;refine⟨Zk ?_,T,_,rfl,SqT.of Z5,rfl,_,_,rfl,_,_,rfl,rfl,Wk.refl _,_,rfl,_,rfl,_,_,rfl,rfl,hC _ _ ⟨g.trans (Zc nT _),?_⟩⟩
  ·rw[aq,aq,wT];omega
  ·rw[Zo hp,wO,wO];rfl
 ·rintro n ys H' hn ⟨g,rfl⟩;rw[aq,aq,wT];exact Zk (by omega)
 ·rintro ys H' ⟨g,rfl⟩;rw[←zp,xp];refine⟨Zf (by rw[aq,aq];omega),fun q nq=>?_⟩;refine⟨q,_,rfl,SqL.of Z5,?_⟩;rw[List.all_map];exact hq _ (g0.trans (g.trans (Zc nq _)))
def bh(ps:Ps)(z:Str)(n:Int):Ps:=aF ps [(z,n)]
def ef(ts:List Th):Ps:=ts.foldl (fun ps t=>bh ps t.word t.many) []
theorem Wc{ps:Ps}(h:(ps.map (·.1)).Nodup)(z:Str)(n:Int):((bh ps z n).map (·.1)).Nodup:=by
 unfold bh;rw[X2];exact Xl h (xG.mpr ⟨(fun y=>nomatch y),xY⟩)
theorem fX(ps:Ps)(z:Str)(n:Int):(bh ps z n).length≤ps.length+1:=by
 have:=Xb ps [(z,n)];unfold bh aF;rw[aq];exact this
theorem S5{ps:Ps}(h:(ps.map (·.1)).Nodup)(z:Str):((aX (ax ps) (Sum.inr z)).getD (.int 0))=.int (look ps z):=by
 have v:=Sv (qs:=[]) h xY z;rw[Rm h]at v;have e:aj ps [] z=look ps z:=Int.add_zero _;rw[v,e]
theorem fh{ps:Ps}(h:(ps.map (·.1)).Nodup)(z:Str)(n:Int):bo (ax ps) (Sum.inr z) (.int (look ps z+n))=ax (bh ps z n):=by
 have q:=gR (qs:=[]) h (p:=(z,n)) (xG.mpr ⟨(fun y=>nomatch y),xY⟩);have e:aj ps [] z=look ps z:=Int.add_zero _;rw[Rm h]at q;show bo (ax ps) (Sum.inr (z,n).1) (.int (look ps z+(z,n).2))=_;rw[←e];exact q
theorem lR(ts:List Th)(t:Th):ef (ts++[t])=bh (ef ts) t.word t.many:=by
 unfold ef;rw[zK];rfl
theorem jP:∀(ts:List Th)(ps:Ps),(ps.map (·.1)).Nodup→((ts.foldl (fun ps t=>bh ps t.word t.many) ps).map (·.1)).Nodup
 | [],_,h=>h
 |t::ts,ps,h=>jP ts _ (Wc h _ _)
theorem fe:∀(ts:List Th)(ps:Ps),(ts.foldl (fun ps t=>bh ps t.word t.many) ps).length≤ps.length+ts.length
 | [],_=>pi _
 |t::ts,ps=>by
  have h1:=fe ts (bh ps t.word t.many);have h2:=fX ps t.word t.many;show _≤ps.length+(ts.length+1);simp only[List.foldl_cons]at *;omega
theorem jx(ts:List Th):((ef ts).map (·.1)).Nodup:=jP ts [] xY
theorem pj(ts:List Th):(ef ts).length≤ts.length:=by
 have:=fe ts [];simpa [ef] using this
def jh:Sp:=fun vs H Q _=>∃(r:Addr)(ts:List Th),vs=[.ref r]∧DV H (.ref r) (bF ts)∧ts.length≤1000∧∀(d:Addr) H',Same H H'→H d=none→H' d=some (.dK (ax (ef ts)))→Q (.ref d) H'
theorem pE(F:Fun K "times_in" "times_in" cH f fd):FnOk P w K mg base CX0 1 f fd ["stream"] jh:=by
 refine F.ok X1 (fun vs H Q E h=>?_) (fun cdv A outer s H vs Q E hr h=>?_)
 ·obtain⟨r,ts,rfl,_⟩:=h;rfl
 obtain⟨r,ts,rfl,hd,tl,hq⟩:=h;refine⟨_,(Z2 (Y8 1 X1.nd rfl (Or.inl rfl) oK)
 (Z2 (X8 xS rfl (Zy (pv 0)) (X9 rfl (Za (Z7 (i:=2) X1.nd rfl (Or.inl rfl)) (Za (Z7 (i:=3) X1.nd rfl (Or.inl rfl)) (Za (Z7 (i:=4) X1.nd rfl (Or.inl rfl)) (Za (Z7 (i:=5) X1.nd rfl (Or.inl rfl)) Y6)))))
 (Z6 (Oc (Td hr) (pv 1) (pv 3) (Zi Zw (Rc (Td hr) (pv 1) (pv 3) Z3 ⟨rfl,rfl,rfl,rfl⟩) (pv 5)) rfl)))
 (Z6 (Zd (pv 1))))),?_⟩
 obtain⟨_,xs,e0,e_r,ds⟩:=DV.list_inv hd;cases e0;have gg:Same H H:=Same.refl _;intro d n_d;generalize hz:upd _ d _=H1;revert H1;refine blk ?_;intro H1 hz;have gz:=Zj hz n_d;have e_d:=Zp hz;clear hz;have gg:=gg.trans gz;refine⟨_,rfl,r,rfl,⟨_,SqL.of (gz _ _ e_r)⟩,?_⟩;have dl:=ds.length;rw[aq]at dl;refine Xm (xs:=xs) (fun n σ H'=>∃(o2 o3 o4 o5:Option V),σ=[some (.ref r),some (.ref d),o2,o3,o4,o5]∧Same H H'∧H' d=some (.dK (ax (ef (ts.take n))))) ⟨_,_,_,_,rfl,gg,e_d⟩ ?_ ?_ ?_
 ·rintro i σ H' _ ⟨_,_,_,_,_,g,_⟩;exact SqL.of (g _ _ e_r)
 ·rintro i x σ H' hx ⟨o2,o3,o4,o5,rfl,g,ed⟩;obtain⟨t,c,ht,rfl,ec,_⟩:=DVs.th_at (ds.mono g) hx;have tk:ts.take (i+1)=ts.take i++[t]:=Zo ht;have nd:=jx (ts.take i);have len:=pj (ts.take i);rw[wT]at len;have kl:=Yc (ef (ts.take i));refine⟨c,_,rfl,SqT.of ec,rfl,_,_,rfl,_,_,rfl,_,_,rfl,_,_,rfl,rfl,?_⟩;refine⟨_,rfl,d,rfl,.inl ⟨_,.inl ed⟩,_,rfl,_,DGet.k (k:=Sum.inr t.word) ed,_,rfl,_,_,S5 nd t.word,rfl,?_⟩;refine⟨_,rfl,_,rfl,d,_,rfl,DPut.k (k:=Sum.inr t.word) ed (Zk (by omega)),some (.int t.day),some (.str t.word),some (.int t.num),some (.int t.many),rfl,Yj g n_d,?_⟩;rw[fh nd,tk,lR];exact Z5
 rintro σ H2 ⟨o2,o3,o4,o5,rfl,g2,ed⟩;rw[dl,xp]at ed;exact⟨_,rfl,hq d _ g2 n_d ed⟩
def inP(ps:Ps)(n:Int)(zs:List Str):Ps:=zs.foldl (fun ps z=>bh ps z n) ps
def a_(cs:Ps)(bs:List Bn):Ps:=bs.foldl (fun ps b=>inP ps b.2 b.1) cs
theorem Rv(n:Int):∀(zs:List Str)(ps:Ps),(ps.map (·.1)).Nodup→((inP ps n zs).map (·.1)).Nodup
 | [],_,h=>h
 |z::zs,ps,h=>Rv n zs (bh ps z n) (Wc h _ _)
theorem Oq(n:Int):∀(zs:List Str)(ps:Ps),(inP ps n zs).length≤ps.length+zs.length
 | [],_=>pi _
 |z::zs,ps=>by
  have h1:=Oq n zs (bh ps z n);have h2:=fX ps z n;show(inP (bh ps z n) n zs).length≤ps.length+(zs.length+1);omega
theorem m_(ps:Ps)(n:Int)(zs:List Str)(z:Str):inP ps n (zs++[z])=bh (inP ps n zs) z n:=by
 unfold inP;rw[zK];rfl
theorem i6(cs:Ps)(bs:List Bn)(b:Bn):a_ cs (bs++[b])=inP (a_ cs bs) b.2 b.1:=by
 unfold a_;rw[zK];rfl
theorem Sw:∀(bs:List Bn)(cs:Ps),(cs.map (·.1)).Nodup→((a_ cs bs).map (·.1)).Nodup
 | [],_,h=>h
 |b::bs,cs,h=>Sw bs (inP cs b.2 b.1) (Rv _ _ _ h)
theorem P3:∀(bs:List Bn)(cs:Ps),(∀b∈bs,b.1.length≤100)→(a_ cs bs).length≤cs.length+100*bs.length
 | [],_,_=>pi _
 |b::bs,cs,h=>by
  have h1:=P3 bs (inP cs b.2 b.1) fun x hx=>h x (.tail _ hx);have h2:=Oq b.2 b.1 cs;have h3:=h b (.head _);show(a_ (inP cs b.2 b.1) bs).length≤cs.length+100*(bs.length+1);omega
def jV:Sp:=fun vs H Q _=>∃(c p:Addr)(rows:List V)(cs:Ps)(bs:List Bn),vs=[.ref c,.ref p]∧H c=some (.tup rows)∧PairsAt H rows (ax cs)∧(cs.map (·.1)).Nodup∧cs.length≤50∧PapAt H p bs∧bs.length≤3000∧(∀b∈bs,b.1.length≤100)∧
 ∀(d:Addr) H',Same H H'→H d=none→H' d=some (.dK (ax (a_ cs bs)))→Q (.ref d) H'
theorem mQ(dk:mg "dict"=none)(F:Fun K "times_told" "times_told" bN f fd):FnOk P w K mg base CX0 1 f fd ["counts","paper"] jV:=by
 refine F.ok Yw (fun vs H Q E h=>?_) (fun cdv A outer s H vs Q E hr h=>?_)
 ·obtain⟨c,p,rows,cs,bs,rfl,_⟩:=h;rfl
 obtain⟨c,p,rows,cs,bs,rfl,Ad,pa,nd0,cl,⟨xs,Ab,kb⟩,bl,ml,hq⟩:=h;refine⟨_,(Z2 (Y8 2 Yw.nd rfl (Or.inl rfl) (Xv (Qc rfl) rfl dk PyProof.Rows.boot_dict (Z0 (pv 0) Z1)))
 (Z2 (X8 xS rfl (Zy (pv 1)) (X9 rfl (Za (Z7 (i:=3) Yw.nd rfl (Or.inl rfl)) (Za (Z7 (i:=4) Yw.nd rfl (Or.inl rfl)) Y6)))
 (Z6 (X8 xS rfl (Rb (pv 3)) (Z7 (i:=5) Yw.nd rfl (Or.inl rfl))
 (Z6 (Oc (Td hr) (pv 2) (pv 5) (Zi Zw (Rc (Td hr) (pv 2) (pv 5) Z3 ⟨rfl,rfl,rfl,rfl⟩) (pv 4)) rfl)))))
 (Z6 (Zd (pv 2))))),?_⟩
 have kl:=Yc cs;refine⟨_,rfl,c,rows,_,rfl,Ad,pa,by omega,?_⟩;rw[Rn (by rw[Wr];exact mL nd0)];have gg:Same H H:=fun _ _ h=>h;intro d n_d;generalize hz:upd _ d _=H1;revert H1;refine blk ?_;intro H1 hz;have gz:=Zj hz n_d;have e_d:=Zp hz;clear hz;have gg:=gg.trans gz;refine⟨_,rfl,p,rfl,⟨_,SqL.of (gz _ _ Ab)⟩,?_⟩;have xl:=kb.length;have lenA:∀i,(a_ cs (bs.take i)).length≤300100:=fun i=>by
  have h1:=P3 (bs.take i) cs fun b hb=>ml b (yj hb);rw[wT]at h1;omega
 refine Xm (xs:=xs) (fun n σ H'=>∃(o3 o4 o5:Option V),σ=[some (.ref c),some (.ref p),some (.ref d),o3,o4,o5]∧Same H H'∧H' d=some (.dK (ax (a_ cs (bs.take n))))) ⟨_,_,_,rfl,gg,e_d⟩ ?_ ?_ ?_
 ·rintro i σ H' _ ⟨_,_,_,_,g,_⟩;exact SqL.of (g _ _ Ab)
 ·rintro i x σ H' hx ⟨o3,o4,o5,rfl,g,ed⟩;obtain⟨a,m,b,rfl,hb,ea,em⟩:=kb.get hx;have tk:bs.take (i+1)=bs.take i++[b]:=Zo hb;have bm:=ml b (wZ hb);refine⟨a,_,rfl,SqT.of (g _ _ ea),rfl,_,_,rfl,_,_,rfl,rfl,?_⟩;refine⟨_,rfl,m,rfl,⟨_,SqT.of (g _ _ em)⟩,?_⟩;have ndt:=Sw (bs.take i) cs nd0;have lt:=lenA i;refine jT (xs:=b.1.map V.str) (fun k σ H''=>∃(o5:Option V),σ=[some (.ref c),some (.ref p),some (.ref d),some (.ref m),some (.int b.2),o5]∧Same H H''∧H'' d=some (.dK (ax (inP (a_ cs (bs.take i)) b.2 (b.1.take k))))) ⟨_,rfl,g,ed⟩ ?_ ?_ ?_
  ·rintro k σ H'' _ ⟨_,_,g2,_⟩;exact SqT.of (g2 _ _ em)
  ·rintro k x σ H'' hx2 ⟨o5,rfl,g2,ed2⟩;rw[xi]at hx2;obtain⟨z,hz,rfl⟩:=xm.mp hx2;have tk2:b.1.take (k+1)=b.1.take k++[z]:=Zo hz;have nd2:=Rv b.2 (b.1.take k) _ ndt;have l2:=Oq b.2 (b.1.take k) (a_ cs (bs.take i));rw[wT]at l2;have kl2:=Yc (inP (a_ cs (bs.take i)) b.2 (b.1.take k));refine⟨_,rfl,d,rfl,.inl ⟨_,.inl ed2⟩,_,rfl,_,DGet.k (k:=Sum.inr z) ed2,_,rfl,_,_,S5 nd2 z,rfl,?_⟩;refine⟨_,rfl,_,rfl,d,_,rfl,DPut.k (k:=Sum.inr z) ed2 (Zk (by omega)),some (.str z),rfl,Yj g2 n_d,?_⟩;rw[fh nd2,tk2,m_];exact Z5
  ·rintro σ H'' ⟨o5,rfl,g2,ed2⟩;rw[aq,xp]at ed2;exact⟨_,_,_,rfl,g2,by rw[tk,i6];exact ed2⟩
 rintro σ H2 ⟨o3,o4,o5,rfl,g2,ed⟩;rw[xl,xp]at ed;exact⟨_,rfl,hq d _ g2 n_d ed⟩
def bnB(room:Int)(b:Bn):Bool:=kY b.1 && (decide (room<(b.1.length:Int)) && decide (1≤b.2))
theorem f9:∀n:Nat,(List.replicate n true).all id=true
 | 0=>rfl
 |n+1=>by rw[List.replicate_succ,List.all_cons,f9 n];rfl
def eL:List Str:=words++[("a":Str),"b"]
theorem ja:∀z∈eL,z.length≤1000:=by decide +kernel
theorem mD:∀z∈eL,mkS z=true:=by decide +kernel
def sN:Sp:=fun vs H Q _=>∃(a c:Addr)(b:Bn)(room:Int),vs=[.ref a,.int room]∧H a=some (.tup [.ref c,.int b.2])∧H c=some (.tup (b.1.map V.str))∧(∀z∈b.1,z∈eL)∧1≤b.1.length∧b.1.length≤100∧∀H',Same H H'→Q (.bl (bnB room b)) H'
theorem uW(ag:mg "isinstance"=none)(aD:mg "tuple"=none)(aE:mg "len"=none)(aY:mg "all"=none)(kH:Has P w K mg base "is_mark" 1 ["thing"] iZ)(ck:Has P w K mg base "is_rising" 1 ["parts"] j0)(ay:Has P w K mg base "is_whole_from" 2 ["thing","least"] oS)(F:Fun K "is_bunch" "is_bunch" cS f fd):FnOk P w K mg base CX0 3 f fd ["thing","room"] sN:=by
 refine F.ok V9 (fun vs H Q E h=>?_) (fun cdv A outer s H vs Q E hr h=>?_)
 ·obtain⟨a,c,b,room,rfl,_⟩:=h;rfl
 obtain⟨a,c,b,room,rfl,Ag,Ad,zw,b1,bl,hq⟩:=h;refine⟨_,(Z2 (Ye (PW.pt (Wm (X7 (X4 (Zg Xi rfl ag xB (Z0 (pv 0) (Z0 (Xe (v:=.ty "tuple") rfl aD yg rfl) Z1))))) (Xn (Zs S9 (Zg Zt rfl aE xZ (Z0 (pv 0) Z1)) Z3 (Zl _))))) (Z6 (Zd X6)) Zq)
 (Z2 (W0 (pv 0) (X9 rfl (Za (Z7 (i:=2) V9.nd rfl (Or.inl rfl)) (Za (Z7 (i:=3) V9.nd rfl (Or.inl rfl)) Y6))))
 (Z2 (Ye (PW.pt (Wm (X7 (X4 (Zg Xi rfl ag xB (Z0 (pv 2) (Z0 (Xe (v:=.ty "tuple") rfl aD yg rfl) Z1))))) (Xn (X7 (X4 (Zg (Wt rfl) rfl aY yI (Z0 (Yo (own:=["mark"]) (U6 rfl rfl) (Rb (pv 2))
  (fun _ _ _ _ _=>(Z7 (i:=0) Ul rfl (Or.inl rfl) (Or.inr rfl))) (fun _ _ _ _ _=>Yt)
  (fun _ _ _ _ _=>(Z4 kH hr (Z0 (pv 0) Z1)))) Z1))))))) (Z6 (Zd X6)) Zq)
 (Z6 (Zd (Wz (Z4 ck hr (Z0 (pv 2) Z1)) (Wz (X5 Ri (Zg Zt rfl aE xZ (Z0 (pv 2) Z1)) (pv 1) (Zl _)) (Ug (Z4 ay hr (Z0 (pv 3) (Z0 Z3 Z1))))))))))),?_⟩
 have ka:Kd H (.ref a) "tuple":=.tup Ag;have kc:Kd H (.ref c) "tuple":=.tup Ad;refine⟨_,rfl,_,_,"tuple",_,rfl,ka.ty,ka.kit (by decide) rfl,_,rfl,Yu ⟨_,rfl,a,_,rfl,.inr (SqT.of Ag),rfl,_,rfl,?_⟩⟩;refine Yu ⟨_,rfl,a,_,rfl,SqT.of Ag,rfl,_,_,rfl,_,_,rfl,rfl,?_⟩;refine⟨_,rfl,_,_,"tuple",_,rfl,kc.ty,kc.kit (by decide) rfl,_,rfl,Yu ⟨_,rfl,c,rfl,⟨_,SqT.of Ad⟩,?_⟩⟩;refine Q9 (xs:=b.1.map V.str) (fun n ys H'=>Same H H'∧ys=(List.replicate n true).map V.bl) ⟨Same.refl _,rfl⟩ ?_ ?_ ?_
 ·rintro n ys H' _ ⟨g,_⟩;exact SqT.of (g _ _ Ad)
 ·rintro n x ys H' C hx ⟨g,rfl⟩ hC;have nl:=(wL.mp hx).1;rw[aq]at nl;rw[xi]at hx;obtain⟨z,hz,rfl⟩:=xm.mp hx;have zz:=zw z (wZ hz);refine⟨Zk (by rw[aq,xU];omega),Wk.refl _,_,rfl,_,"str",rfl,.str _,(fun z' e=>by cases e;exact ja z zz),fun H1 g1=>hC _ _ ⟨g.trans g1,?_⟩⟩;rw[show mkB (.str z)=true from mD z zz,List.replicate_succ',wO];rfl
 rintro ys H' ⟨g,rfl⟩;refine⟨Zf (by rw[aq,xU,aq];omega),fun p hp=>⟨p,_,rfl,SqL.of Z5,_,rfl,?_⟩⟩;rw[f9];have g1:=g.trans (Zc hp (.lst ((List.replicate (b.1.map V.str).length true).map V.bl)));generalize upd H' p (.lst ((List.replicate (b.1.map V.str).length true).map V.bl))=H1 at g1⊢;refine Yu ⟨_,rfl,c,b.1,rfl,g1 _ _ Ad,b1,bl,fun H2 g2=>⟨_,rfl,?_⟩⟩;have q:=hq _ (g1.trans g2);unfold bnB at q;refine V2 (fun r=>?_) (fun r=>?_)
 ·rw[r,zU]at q;refine⟨_,rfl,c,_,rfl,.inr (SqT.of (g2 _ _ (g1 _ _ Ad))),_,rfl,_,_,rfl,rfl,_,rfl,?_⟩;rw[aq];refine V2 (fun m=>?_) (fun m=>?_)
  ·rw[m,zU]at q;exact⟨_,rfl,_,"int",_,rfl,.int _,q⟩
  ·rw[xO.mpr m,yr]at q;exact q
 ·rw[xO.mpr r,yr]at q;exact q
def c_(room:Int)(bs:List Bn):Bool:=bs.all (bnB room)
structure BnV(b:Bn):Prop where
 w:∀z∈b.1,z∈eL
 l1:1≤b.1.length
 l2:b.1.length≤100
def sB:Sp:=fun vs H Q _=>∃(p:Addr)(bs:List Bn)(room:Int),vs=[.ref p,.int room]∧PapAt H p bs∧bs.length≤3000∧(∀b∈bs,BnV b)∧∀H',Same H H'→Q (.bl (c_ room bs)) H'
def sD:Sp:=fun vs H Q _=>∃(r:Addr)(ts:List Th),vs=[.ref r]∧DV H (.ref r) (bF ts)∧ts.length≤1000∧∀H',Same H H'→Q (.int (ts.map Th.many).sum) H'
theorem sU(ag:mg "isinstance"=none)(bW:mg "list"=none)(aY:mg "all"=none)(h_:Has P w K mg base "is_bunch" 3 ["thing","room"] sN)(F:Fun K "is_paper" "is_paper" cR f fd):FnOk P w K mg base CX0 4 f fd ["thing","room"] sB:=by
 refine F.ok Nk (fun vs H Q E h=>?_) (fun cdv A outer s H vs Q E hr h=>?_)
 ·obtain⟨p,bs,room,rfl,_⟩:=h;rfl
 obtain⟨p,bs,room,rfl,⟨xs,Ab,kb⟩,bl,bv,hq⟩:=h;refine⟨_,(Z6 (Zd (Wz (Zg Xi rfl ag xB (Z0 (pv 0) (Z0 (Xe (v:=.ty "list") rfl bW PyProof.Rows.boot_list rfl) Z1))) (Ug (Zg (Wt rfl) rfl aY yI (Z0 (Yo (own:=["one"]) (U6 rfl rfl) (Zy (pv 0))
  (fun _ _ _ _ _=>(Z7 (i:=0) Uk rfl (Or.inl rfl) (Or.inr rfl))) (fun _ _ _ _ _=>Yt)
  (fun _ _ _ _ _=>(Z4 h_ hr (Z0 (pv 0) (Z0 (pv 2) Z1))))) Z1)))))),?_⟩
 have kp:Kd H (.ref p) "list":=.lst Ab;have xl:=kb.length;refine⟨_,rfl,_,_,"list",_,rfl,kp.ty,kp.kit (by decide) rfl,_,rfl,Wg ⟨_,rfl,p,rfl,⟨_,SqL.of Ab⟩,?_⟩⟩;refine X3 (xs:=xs) (fun n ys H'=>Same H H'∧ys=((bs.take n).map (bnB room)).map V.bl) ⟨Same.refl _,rfl⟩ ?_ ?_ ?_
 ·rintro n ys H' _ ⟨g,_⟩;exact SqL.of (g _ _ Ab)
 ·rintro n x ys H' C hx ⟨g,rfl⟩ hC;have nl:=(wL.mp hx).1;obtain⟨a,m,b,rfl,hb,ea,em⟩:=kb.get hx;have v:=bv b (wZ hb);refine⟨Zk (by rw[aq,aq,wT];omega),Wk.refl _,_,rfl,_,rfl,a,m,b,room,rfl,g _ _ ea,g _ _ em,v.w,v.l1,v.l2,fun H1 g1=>hC _ _ ⟨g.trans g1,?_⟩⟩;rw[Zo hb,wO,wO];rfl
 rintro ys H' ⟨g,rfl⟩;rw[xl,xp];refine⟨Zf (by rw[aq,aq];omega),fun q nq=>⟨q,_,rfl,SqL.of Z5,?_⟩⟩;rw[List.all_map];exact hq _ (g.trans (Zc nq _))
theorem t8(cz:mg "sum"=none)(F:Fun K "things_in" "things_in" b_ f fd):FnOk P w K mg base CX0 1 f fd ["stream"] sD:=by
 refine F.ok O9 (fun vs H Q E h=>?_) (fun cdv A outer s H vs Q E hr h=>?_)
 ·obtain⟨r,ts,rfl,_⟩:=h;rfl
 obtain⟨r,ts,rfl,hd,tl,hq⟩:=h;refine⟨_,(Z6 (Zd (Zg (Tg rfl) rfl cz zH (Z0 (Yo (own:=["day","mark","number","many"]) (U6 rfl rfl) (Zy (pv 0))
  (fun _ _ _ _ _=>(Vw K 4 rfl rfl (Za (Z7 (i:=0) Yg rfl (Or.inl rfl) (Or.inr rfl)) (Za (Z7 (i:=1) Yg rfl (Or.inl rfl) (Or.inr rfl)) (Za (Z7 (i:=2) Yg rfl (Or.inl rfl) (Or.inr rfl)) (Za (Z7 (i:=3) Yg rfl (Or.inl rfl) (Or.inr rfl)) Y6)))))) (fun _ _ _ _ _=>Yt)
  (fun _ _ _ _ _=>(pv 3))) Z1)))),?_⟩
 obtain⟨_,xs,e0,e_r,ds⟩:=DV.list_inv hd;cases e0;refine⟨_,rfl,r,rfl,⟨_,SqL.of e_r⟩,gD (fun _=>true) (fun t=>.int t.many) e_r ds (by omega) ?_ ?_⟩
 ·rintro t c ys C mt ec h1 _;exact⟨c,_,rfl,SqT.of ec,rfl,_,_,rfl,_,_,rfl,_,_,rfl,_,_,rfl,rfl,Wk.refl _,_,rfl,h1 rfl⟩
 intro q nq;refine⟨q,ts.map Th.many,rfl,SqL.of ?_,hq _ (Zc nq _)⟩;rw[Z5,List.filter_eq_self.mpr (fun _ _=>rfl),xD];rfl
theorem N3:∀n:Nat,(List.replicate n true).all id=true
 | 0=>rfl
 |n+1=>by rw[List.replicate_succ,List.all_cons,N3 n];rfl
theorem lW:∀z∈words,z.length≤1000:=by decide +kernel
structure Mdt(t:Ty):Prop where
 room1:1≤t.room
 room2:t.room≤20
 nd:(t.cs.map (·.1)).Nodup
 rise:(t.cs.map (·.1)).Pairwise (fun a b=>leS a b=true)
 word:∀p∈t.cs,p.1∈words
 pos:∀p∈t.cs,1≤p.2
 len:(t.cs.length:Int)≤t.room
 lt0:0≤t.lt
theorem rY{t:Ty}(ok:Mdt t):(t.cs.map (·.1)).Pairwise (fun x y=>x.cps.toList<y.cps.toList):=by
 have h:=List.Pairwise.and ok.rise ok.nd;refine h.imp ?_;rintro a b ⟨h1,h2⟩;by_cases c:a.cps.toList<b.cps.toList
 ·exact c
 ·have h3:leS b a=true:=by unfold leS;rw[xg c];rfl
  exact absurd (Rr h1 h3) h2
def p5:Sp:=fun vs H Q _=>∃(a:Addr)(zs:List Str),vs=[.ref a]∧H a=some (.lst (zs.map V.str))∧zs.length≤100∧zs.Pairwise (fun x y=>x.cps.toList<y.cps.toList)∧∀H',Same H H'→Q (.bl true) H'
def vq:Sp:=fun vs H Q _=>∃(i:Int),vs=[.int i]∧Q (.bl (decide (1≤i) && decide (i≤20))) H
def sI(m:Addr):Sp:=fun vs H Q _=>∃(c:Addr)(z:Str)(n:Int),vs=[.ref c,.ref m]∧H c=some (.tup [.str z,.int n])∧z∈words∧1≤n∧∀H',Same H H'→Q (.bl true) H'
def mX(m:Addr):Sp:=fun vs H Q _=>∃(b:Addr)(rows:List V)(t:Ty),vs=[.ref b,.ref m]∧H b=some (.tup rows)∧PairsAt H rows (ax t.cs)∧Mdt t∧∀H',Same H H'→Q (.bl true) H'
def pP:Sp:=fun vs H Q _=>∃(r:Addr)(t:Ty),vs=[.ref r]∧DV H (.ref r) t.D∧Mdt t∧0≤t.total∧∀H',Same H H'→Q (.bl true) H'
theorem qC(aY:mg "all"=none)(eG:mg "zip"=none)(F:Fun K "is_rising" "is_rising" bw f fd):FnOk P w K mg base CX0 1 f fd ["parts"] p5:=by
 refine F.ok Uy (fun vs H Q E h=>?_) (fun cdv A outer s H vs Q E hr h=>?_)
 ·obtain⟨a,zs,rfl,_⟩:=h;rfl
 obtain⟨a,zs,rfl,Ag,zl,pw,hq⟩:=h;refine⟨_,(Z6 (Zd (Zg (Wt rfl) rfl aY yI (Z0 (Yo (own:=["one","other"]) (U6 rfl rfl) (tu rfl eG (Z0 (pv 0) (Z0 (Wo Uw (pv 0) (Vt Z3) Vu) Z1)))
  (fun _ _ _ _ _=>(Vw K 2 rfl rfl (Za (Z7 (i:=0) Yl rfl (Or.inl rfl) (Or.inr rfl)) (Za (Z7 (i:=1) Yl rfl (Or.inl rfl) (Or.inr rfl)) Y6)))) (fun _ _ _ _ _=>Yt)
  (fun _ _ _ _ _=>(X5 Pa (pv 0) (pv 1) (Zl _)))) Z1)))),?_⟩
 refine⟨_,rfl,_,rfl,1,rfl,a,_,rfl,SqL.of Ag,fun b n_b=>?_⟩;have eb:cr (zs.map V.str) (some 1) none=(zs.drop 1).map V.str:=by
  unfold cr;have h:=HT.sIx_nat (zs.map V.str).length 0 1;rw[show((1:Nat):Int)=1 from rfl]at h;rw[h,HT.sIx_none,aq]
  rcases zs with _ | ⟨z,zs⟩
  ·rfl
  ·rw[xq,y3 (by omega),List.map_drop];exact xK (by rw[xI,aq,xq];omega)
 rw[eb];have g0:=Zc n_b (.lst ((zs.drop 1).map V.str));have Aa:=Z5 (H:=H) (a:=b) (o:=.lst ((zs.drop 1).map V.str));have Ag:=g0 _ _ Ag;generalize upd H b (.lst ((zs.drop 1).map V.str))=H1 at g0 Aa Ag⊢;refine⟨a,b,rfl,⟨_,SqL.of Ag⟩,⟨_,SqL.of Aa⟩,?_⟩;have ln:min (zs.map V.str).length ((zs.drop 1).map V.str).length≤100:=by rw[aq,aq];omega
 refine pH (xs:=zs.map V.str) (zs:=(zs.drop 1).map V.str) (fun n ys H'=>Same H1 H'∧ys=(List.replicate n true).map V.bl) ⟨Same.refl _,rfl⟩ ?_ ?_ ?_ ?_
 ·rintro n ys H' _ ⟨g,_⟩;exact⟨SqL.of (g _ _ Ag),SqL.of (g _ _ Aa)⟩
 ·rintro n x z ys H' T C hx hz ⟨g,rfl⟩ nT hC;rw[xi]at hx hz;obtain⟨x',hx',rfl⟩:=xm.mp hx;obtain⟨z',hz',rfl⟩:=xm.mp hz;rw[x5]at hz';have lt:x'.cps.toList<z'.cps.toList:=by
   obtain⟨i1,e1⟩:=wL.mp hx';obtain⟨i2,e2⟩:=wL.mp hz';rw[←e1,←e2];exact yG.mp pw n (1+n) i1 i2 (by omega)
  refine⟨Zk ?_,T,_,rfl,SqT.of Z5,rfl,_,_,rfl,_,_,rfl,rfl,Wk.refl _,_,rfl,_,rfl,_,_,rfl,rfl,hC _ _ ⟨g.trans (Zc nT _),?_⟩⟩
  ·rw[aq,xU];have:=(wL.mp hx').1;omega
  ·rw[wV lt,List.replicate_succ',wO];rfl
 ·rintro n ys H' hn ⟨g,rfl⟩;rw[aq,xU];exact Zk (by omega)
 ·rintro ys H' ⟨g,rfl⟩;refine⟨Zf ?_,fun p hp=>⟨p,_,rfl,SqL.of Z5,?_⟩⟩
  ·rw[aq,xU];omega
  ·rw[N3];exact hq _ (g0.trans (g.trans (Zc hp _)))
theorem u5(ag:mg "isinstance"=none)(aD:mg "tuple"=none)(aE:mg "len"=none)(ay:Has P w K mg base "is_whole_from" 2 ["thing","least"] oS){m:Addr}{fm:FuncData}(FM:FnOk P w K mg base CX0 1 m fm ["thing"] iZ)(BM:Binds K fm ["thing"] [])(CM:Cal base m)(F:Fun K "is_count" "is_count" cI f fd):FnOk P w K mg base CX0 3 f fd ["thing","is_key"] (sI m):=by
 refine F.ok V8 (fun vs H Q E h=>?_) (fun cdv A outer s H vs Q E hr h=>?_)
 ·obtain⟨c,z,n,rfl,_⟩:=h;rfl
 obtain⟨c,z,n,rfl,Ad,zw,n0,hq⟩:=h;refine⟨_,(Z2 (Ye (PW.pt (Wm (X7 (X4 (Zg Xi rfl ag xB (Z0 (pv 0) (Z0 (Xe (v:=.ty "tuple") rfl aD yg rfl) Z1))))) (Xn (Zs S9 (Zg Zt rfl aE xZ (Z0 (pv 0) Z1)) Z3 (Zl _))))) (Z6 (Zd X6)) Zq)
 (Z2 (W0 (pv 0) (X9 rfl (Za (Z7 (i:=2) V8.nd rfl (Or.inl rfl)) (Za (Z7 (i:=3) V8.nd rfl (Or.inl rfl)) Y6))))
 (Z6 (Zd (Wz (Re (i:=1) hr (Z0 (pv 2) Z1)) (Ug (Z4 ay hr (Z0 (pv 3) (Z0 Z3 Z1))))))))),?_⟩
 have hk:Kd H (.ref c) "tuple":=.tup Ad;refine⟨_,rfl,_,_,"tuple",_,rfl,hk.ty,hk.kit (by decide) rfl,_,rfl,Yu ⟨_,rfl,c,_,rfl,.inr (SqT.of Ad),rfl,_,rfl,Yu ?_⟩⟩;refine⟨_,rfl,c,_,rfl,SqT.of Ad,rfl,_,_,rfl,_,_,rfl,rfl,?_⟩;refine⟨m,fm,_,_,rfl,FM.mono (by decide),BM,CM,_,rfl,_,"str",rfl,.str _,(fun z' e=>by cases e;exact lW z zw),fun H1 g1=>⟨_,rfl,?_⟩⟩;rw[show mkB (.str z)=true from mS z zw];refine Wg ⟨_,rfl,_,"int",_,rfl,.int _,?_⟩;rw[show wF (.int n) 1=true from wV n0];exact hq _ g1
theorem qr(ag:mg "isinstance"=none)(aD:mg "tuple"=none)(aY:mg "all"=none){m:Addr}(hV:Has P w K mg base "is_count" 3 ["thing","is_key"] (sI m))(ck:Has P w K mg base "is_rising" 1 ["parts"] p5)(F:Fun K "are_counts" "are_counts" bT f fd):FnOk P w K mg base CX0 4 f fd ["thing","is_key"] (mX m):=by
 refine F.ok Ql (fun vs H Q E h=>?_) (fun cdv A outer s H vs Q E hr h=>?_)
 ·obtain⟨b,rows,t,rfl,_⟩:=h;rfl
 obtain⟨b,rows,t,rfl,Aa,pa,ok,hq⟩:=h;refine⟨_,(Z2 (Ye (PW.pt (Wm (X7 (X4 (Zg Xi rfl ag xB (Z0 (pv 0) (Z0 (Xe (v:=.ty "tuple") rfl aD yg rfl) Z1))))) (Xn (X7 (X4 (Zg (Wt rfl) rfl aY yI (Z0 (Yo (own:=["one"]) (U6 rfl rfl) (Rb (pv 0))
  (fun _ _ _ _ _=>(Z7 (i:=0) U5 rfl (Or.inl rfl) (Or.inr rfl))) (fun _ _ _ _ _=>Yt)
  (fun _ _ _ _ _=>(Z4 hV hr (Z0 (pv 0) (Z0 (pv 2) Z1))))) Z1))))))) (Z6 (Zd X6)) Zq)
 (Z6 (Zd (Z4 ck hr (Z0 (Yo (own:=["key","count"]) (U6 rfl rfl) (Rb (pv 0))
  (fun _ _ _ _ _=>(Vw K 2 rfl rfl (Za (Z7 (i:=0) Xp rfl (Or.inl rfl) (Or.inr rfl)) (Za (Z7 (i:=1) Xp rfl (Or.inl rfl) (Or.inr rfl)) Y6)))) (fun _ _ _ _ _=>Yt)
  (fun _ _ _ _ _=>(pv 0))) Z1))))),?_⟩
 have hk:Kd H (.ref b) "tuple":=.tup Aa;have rl:=pa.length;rw[Yc]at rl;have l1:=ok.len;have l2:=ok.room2;refine⟨_,rfl,_,_,"tuple",_,rfl,hk.ty,hk.kit (by decide) rfl,_,rfl,Yu ⟨_,rfl,b,rfl,⟨_,SqT.of Aa⟩,?_⟩⟩;refine Q9 (xs:=rows) (fun n ys H'=>Same H H'∧ys=(List.replicate n true).map V.bl) ⟨Same.refl _,rfl⟩ ?_ ?_ ?_
 ·rintro n ys H' _ ⟨g,_⟩;exact SqT.of (g _ _ Aa)
 ·rintro n x ys H' C hx ⟨g,rfl⟩ hC;obtain⟨q,p,rfl,hp,eq⟩:=pa.getP hx;have mp:=wZ hp;refine⟨Zk ?_,Wk.refl _,_,rfl,_,rfl,q,p.1,p.2,rfl,g _ _ eq,ok.word p mp,ok.pos p mp,fun H1 g1=>hC _ _ ⟨g.trans g1,?_⟩⟩
  ·rw[aq,xU];have:=(wL.mp hx).1;omega
  ·rw[List.replicate_succ',wO];rfl
 ·rintro ys H' ⟨g,rfl⟩;refine⟨Zf ?_,fun p hp=>⟨p,_,rfl,SqL.of Z5,_,rfl,?_⟩⟩
  ·rw[aq,xU];omega
  ·rw[N3];have g1:=g.trans (Zc hp (.lst ((List.replicate rows.length true).map V.bl)));generalize upd H' p (.lst ((List.replicate rows.length true).map V.bl))=H1 at g1⊢;refine Yu ⟨_,rfl,⟨b,rfl,⟨_,SqT.of (g1 _ _ Aa)⟩,?_⟩⟩;refine iu (fun _=>true) (fun t=>.str t.1) (g1 _ _ Aa) (pa.mono g1) (by omega) ?_ ?_
   ·rintro u q ys C mu eq hC _;exact⟨q,_,rfl,SqT.of eq,rfl,_,_,rfl,_,_,rfl,rfl,Wk.refl _,_,rfl,hC rfl⟩
   ·intro q nq;refine⟨q,t.cs.map (·.1),rfl,?_,by rw[aq];omega,rY ok,fun H2 g2=>hq _ (g1.trans ((Zc nq _).trans g2))⟩;rw[Z5]
    congr 2
    rw[List.filter_eq_self.mpr (fun _ _=>rfl),xD];rfl
theorem lJ(cU:Has P w K mg base "is_whole_within" 3 ["thing","least","most"] wp)(ft:∃u,mg "MOST_ROOM"=some u∧RelV (.int 20) u)(F:Fun K "is_room" "is_room" c8 f fd):FnOk P w K mg base CX0 4 f fd ["thing"] vq:=by
 refine F.ok iY (fun vs H Q E h=>?_) (fun cdv A outer s H vs Q E hr h=>?_)
 ·obtain⟨i,rfl,_⟩:=h;rfl
 obtain⟨i,rfl,hq⟩:=h;refine⟨_,(Z6 (Zd (Z4 cU hr (Z0 (pv 0) (Z0 Z3 (Z0 (Wp rfl ft) Z1)))))),?_⟩;exact⟨_,rfl,i,1,20,rfl,hq⟩
theorem qW(ag:mg "isinstance"=none)(aD:mg "tuple"=none)(aE:mg "len"=none)(ay:Has P w K mg base "is_whole_from" 2 ["thing","least"] oS)(kZ:Has P w K mg base "is_room" 4 ["thing"] vq){m:Addr}(eJ:Has P w K mg base "are_counts" 4 ["thing","is_key"] (mX m))(kO:∃u,mg "is_mark"=some u∧RelV (.ref m) u)(F:Fun K "is_made_as_tally" "is_made_as_tally" aQ f fd):FnOk P w K mg base CX0 5 f fd ["thing"] pP:=by
 refine F.ok Zx (fun vs H Q E h=>?_) (fun cdv A outer s H vs Q E hr h=>?_)
 ·obtain⟨r,t,rfl,_⟩:=h;rfl
 obtain⟨r,t,rfl,hd,ok,t0,hq⟩:=h;refine⟨_,(Z2 (Ye (PW.pt (Wm (X7 (X4 (Zg Xi rfl ag xB (Z0 (pv 0) (Z0 (Xe (v:=.ty "tuple") rfl aD yg rfl) Z1))))) (Xn (Zs S9 (Zg Zt rfl aE xZ (Z0 (pv 0) Z1)) Z3 (Zl _))))) (Z6 (Zd X6)) Zq)
 (Z2 (W0 (pv 0) (X9 rfl (Za (Z7 (i:=1) Zx.nd rfl (Or.inl rfl)) (Za (Z7 (i:=2) Zx.nd rfl (Or.inl rfl)) (Za (Z7 (i:=3) Zx.nd rfl (Or.inl rfl)) (Za (Z7 (i:=4) Zx.nd rfl (Or.inl rfl)) Y6))))))
 (Z2 (Ye (PW.pt (Wm (X7 (X4 (Z4 kZ hr (Z0 (pv 1) Z1)))) (Xn (X7 (X4 (Z4 eJ hr (Z0 (pv 2) (Z0 (Wp rfl kO) Z1)))))))) (Z6 (Zd X6)) Zq)
 (Z6 (Zd (Wz (X5 pT (Zg Zt rfl aE xZ (Z0 (pv 2) Z1)) (pv 1) (Zl _)) (Wz (Z4 ay hr (Z0 (pv 3) (Z0 Z3 Z1))) (Ug (Z4 ay hr (Z0 (pv 4) (Z0 Z3 Z1))))))))))),?_⟩
 obtain⟨_,b,rows,e0,ea,eb,pa⟩:=DV.ty_inv hd;cases e0;have rl:=pa.length;rw[Yc]at rl;have hk:Kd H (.ref r) "tuple":=.tup ea;refine⟨_,rfl,_,_,"tuple",_,rfl,hk.ty,hk.kit (by decide) rfl,_,rfl,Yu ⟨_,rfl,r,_,rfl,.inr (SqT.of ea),rfl,_,rfl,Yu ?_⟩⟩;refine⟨_,rfl,r,_,rfl,SqT.of ea,rfl,_,_,rfl,_,_,rfl,_,_,rfl,_,_,rfl,rfl,?_⟩;refine⟨_,rfl,t.room,rfl,_,rfl,?_⟩;rw[wV ok.room1,wV ok.room2];refine Yu ⟨_,rfl,b,rows,t,rfl,eb,pa,ok,fun H1 g1=>⟨_,rfl,Yu ?_⟩⟩;refine⟨_,rfl,b,rows,rfl,.inr (SqT.of (g1 _ _ eb)),_,rfl,_,_,rfl,rfl,_,rfl,?_⟩;have l1:=ok.len;rw[wV (by rw[rl];exact l1)];refine Wg ⟨_,rfl,_,"int",_,rfl,.int _,_,rfl,?_⟩;rw[show wF (.int t.lt) 0=true from wV ok.lt0];refine Wg ⟨_,rfl,_,"int",_,rfl,.int _,?_⟩;rw[show wF (.int t.total) 0=true from wV t0];exact hq _ g1
def eqP(ps qs:Ps):Bool:=decide (ps.length=qs.length) && ps.all fun p=>decide (p∈qs)
def bO(ts:List Th)(t:Ty)(bs:List Bn):Bool:=c_ t.room bs && (decide ((bs.map (·.2)).sum=t.lt) && (decide ((ts.map Th.many).sum=t.total) && eqP (ef ts) (a_ t.cs bs)))
def jC:Sp:=fun vs H Q _=>∃(r q p:Addr)(ts:List Th)(t:Ty)(bs:List Bn),vs=[.ref r,.ref q,.ref p]∧DV H (.ref r) (bF ts)∧ts.length≤1000∧DV H (.ref q) t.D∧Mdt t∧0≤t.total∧PapAt H p bs∧bs.length≤3000∧(∀b∈bs,BnV b)∧∀H',Same H H'→Q (.bl (bO ts t bs)) H'
theorem nR(cA:Has P w K mg base "is_made_as_tally" 5 ["thing"] pP)(hG:Has P w K mg base "is_paper" 4 ["thing","room"] sB)(gF:Has P w K mg base "things_in" 1 ["stream"] sD)(iA:Has P w K mg base "times_in" 1 ["stream"] jh)(eX:Has P w K mg base "times_told" 1 ["counts","paper"] jV)(cz:mg "sum"=none)(F:Fun K "is_shown" "is_shown" cD f fd):FnOk P w K mg base CX0 6 f fd ["stream","tally","paper"] jC:=by
 refine F.ok Xk (fun vs H Q E h=>?_) (fun cdv A outer s H vs Q E hr h=>?_)
 ·obtain⟨r,q,p,ts,t,bs,rfl,_⟩:=h;rfl
 obtain⟨r,q,p,ts,t,bs,rfl,k_r,tl,Af,md,t0,k_p,bl,bv,hq⟩:=h;refine⟨_,(Z2 (Ye (PW.pt (Wm (X7 (X4 (Z4 cA hr (Z0 (pv 1) Z1)))) (Xn (X7 (X4 (Z4 hG hr (Z0 (pv 2) (Z0 (Yz Yv (pv 1) Z3) Z1)))))))) (Z6 (Zd X6)) Zq)
 (Z2 (W0 (pv 1) (X9 rfl (Za (Z7 (i:=3) Xk.nd rfl (Or.inl rfl)) (Za (Z7 (i:=4) Xk.nd rfl (Or.inl rfl)) (Za (Z7 (i:=5) Xk.nd rfl (Or.inl rfl)) (Za (Z7 (i:=6) Xk.nd rfl (Or.inl rfl)) Y6))))))
 (Z2 (Ye (PW.pt (Wm (Zs S9 (Zg (Tg rfl) rfl cz zH (Z0 (Yo (own:=["marks","many"]) (U6 rfl rfl) (Zy (pv 2))
  (fun _ _ _ _ _=>(Vw K 2 rfl rfl (Za (Z7 (i:=0) W2 rfl (Or.inl rfl) (Or.inr rfl)) (Za (Z7 (i:=1) W2 rfl (Or.inl rfl) (Or.inr rfl)) Y6)))) (fun _ _ _ _ _=>Yt)
  (fun _ _ _ _ _=>(pv 1))) Z1)) (pv 5) (Zl _)) (Xn (Zs S9 (Z4 gF hr (Z0 (pv 0) Z1)) (pv 6) (Zl _))))) (Z6 (Zd X6)) Zq)
 (Z6 (Zd (X5 (rq (zu (ya _ _) hr.units)) (Z4 iA hr (Z0 (pv 0) Z1)) (Z4 eX hr (Z0 (pv 4) (Z0 (pv 2) Z1))) (Zl _))))))),?_⟩
 refine⟨_,rfl,q,t,rfl,Af,md,t0,fun H1 g1=>⟨_,rfl,Yu ?_⟩⟩;have gg:=g1;have k_r:=k_r.mono g1;have Af:=Af.mono g1;have k_p:=k_p.mono g1;obtain⟨_,b,rows,e0,Ah,Aa,pa⟩:=DV.ty_inv Af;cases e0;refine⟨_,rfl,_,rfl,_,_,_,_,rfl,rfl,SqT.of Ah,rfl,p,bs,t.room,rfl,k_p,bl,bv,fun H2 g2=>⟨_,rfl,?_⟩⟩;have gg:=gg.trans g2;have k_r:=k_r.mono g2;have k_p:=k_p.mono g2;have Ah:=g2 _ _ Ah;have Aa:=g2 _ _ Aa;have pa:=pa.mono g2;unfold bO at hq;by_cases hp:c_ t.room bs=true
 ·rw[hp]at hq⊢;simp only[Bool.true_and]at hq;refine Yu ⟨_,rfl,q,_,rfl,SqT.of Ah,rfl,_,_,rfl,_,_,rfl,_,_,rfl,_,_,rfl,rfl,?_⟩;obtain⟨xs,Ab,kb⟩:=id k_p;have xl:=kb.length;refine⟨_,rfl,p,rfl,⟨_,SqL.of Ab⟩,?_⟩;refine X3 (xs:=xs) (fun n ys H'=>H'=H2∧ys=((bs.take n).map (·.2)).map V.int) ⟨rfl,rfl⟩ ?_ ?_ ?_
  ·rintro n ys H' _ ⟨rfl,_⟩;exact SqL.of Ab
  ·rintro n x ys H' C hx ⟨rfl,rfl⟩ hC;have nl:=(wL.mp hx).1;obtain⟨a,m,b',rfl,hb,ea,em⟩:=kb.get hx;refine⟨Zk (by rw[aq,aq,wT];omega),a,_,rfl,SqT.of ea,rfl,_,_,rfl,_,_,rfl,rfl,Wk.refl _,_,rfl,hC _ _ ⟨rfl,?_⟩⟩;rw[Zo hb,wO,wO];rfl
  rintro ys H' ⟨rfl,rfl⟩;rw[xl,xp];refine⟨Zf (by rw[aq,aq];omega),?_⟩;intro sp iT;generalize hz:upd _ sp _=H3;revert H3;refine blk ?_;intro H3 hz;have gz:=Zj hz iT;have jf:=Zp hz;clear hz;have gg:=gg.trans gz;have k_r:=k_r.mono gz;have k_p:=k_p.mono gz;have Aa:=gz _ _ Aa;have pa:=pa.mono gz;refine⟨sp,_,rfl,SqL.of jf,_,rfl,rfl,_,rfl,?_⟩;by_cases hs:(bs.map (·.2)).sum=t.lt
  ·rw[wV (show V.int (bs.map (·.2)).sum=V.int t.lt by rw[hs])];rw[wV hs]at hq;simp only[Bool.true_and]at hq;refine Yu ⟨_,rfl,r,ts,rfl,k_r,tl,fun H4 g4=>⟨_,rfl,rfl,_,rfl,?_⟩⟩;have gg:=gg.trans g4;by_cases ht:(ts.map Th.many).sum=t.total
   ·rw[wV (show V.int (ts.map Th.many).sum=V.int t.total by rw[ht])];rw[wV ht]at hq;simp only[Bool.true_and]at hq;refine Yu ⟨_,rfl,r,ts,rfl,k_r.mono g4,tl,fun d1 H5 g5 nd1 e1=>?_⟩;have gg:=gg.trans g5;have g45:=g4.trans g5;refine⟨_,rfl,_,rfl,b,p,rows,t.cs,bs,rfl,g45 _ _ Aa,pa.mono g45,md.nd,by have:=md.len;have:=md.room2;omega,k_p.mono g45,bl,fun b hb=>(bv b hb).l2,fun d2 H6 g6 nd2 e2=>?_⟩;exact⟨d1,d2,_,_,rfl,rfl,g6 _ _ e1,e2,hq _ (gg.trans g6)⟩
   ·rw[xg (fun z=>ht (V.int.inj z))];rw[xg ht]at hq;exact Wg (hq _ gg)
  ·rw[xg (fun z=>hs (V.int.inj z))];rw[xg hs]at hq;exact Wg (Wg (hq _ gg))
 ·have hp:=xO.mpr hp;rw[hp]at hq⊢;exact Wg (hq _ gg)
theorem gt{ps:Ps}(h:(ps.map (·.1)).Nodup):ps.Nodup:=(List.pairwise_map.mp h).imp fun h e=>h (by rw[e])
theorem S0{ps:Ps}(h:(ps.map (·.1)).Nodup)(z:Str)(n:Int)(y:Str):look (bh ps z n) y=look ps y+if z=y then n else 0:=by
 have h1:=S5 (Wc h z n) y;have h2:=Sv (qs:=[(z,n)]) h (xG.mpr ⟨(fun y=>nomatch y),xY⟩) y;have h3:V.int (look (bh ps z n) y)=V.int (aj ps [(z,n)] y):=h1.symm.trans h2;have h4:=V.int.inj h3;rw[h4];show look ps y+look [(z,n)] y=_
 congr 1
def bP(z:Str)(ts:List Th):Int:=((ts.filter fun t=>decide (t.word=z)).map Th.many).sum
theorem gK(z:Str):∀(ts:List Th)(ps:Ps),(ps.map (·.1)).Nodup→look (ts.foldl (fun ps t=>bh ps t.word t.many) ps) z=look ps z+bP z ts
 | [],ps,_=>(Int.add_zero _).symm
 |t::ts,ps,h=>by
  show look (ts.foldl (fun ps t=>bh ps t.word t.many) (bh ps t.word t.many)) z=_;rw[gK z ts _ (Wc h _ _),S0 h];unfold bP;rw[xC];by_cases e:t.word=z
  ·rw[wM e,wM (wV e),xt,xR];omega
  ·rw[if_neg e,if_neg (by simpa using e)];omega
def aR(z:Str)(bs:List Bn):Int:=(bs.map fun b=>b.2*(b.1.count z:Int)).sum
theorem gE(n:Int)(z:Str):∀(zs:List Str)(ps:Ps),(ps.map (·.1)).Nodup→look (inP ps n zs) z=look ps z+n*(zs.count z:Int)
 | [],ps,_=>by show look ps z=look ps z+n*((0:Nat):Int);omega
 |y::zs,ps,h=>by
  show look (inP (bh ps y n) n zs) z=_;rw[gE n z zs _ (Wc h _ _),S0 h,List.count_cons];by_cases e:y=z
  ·subst e;rw[if_pos rfl,if_pos (by simp),Int.natCast_add,Int.mul_add];show _=look ps y+(n*_+n*1);omega
  ·rw[if_neg e,if_neg (by simpa using e),Nat.add_zero];omega
theorem Pf(z:Str):∀(bs:List Bn)(ps:Ps),(ps.map (·.1)).Nodup→look (a_ ps bs) z=look ps z+aR z bs
 | [],ps,_=>(Int.add_zero _).symm
 |b::bs,ps,h=>by
  show look (a_ (inP ps b.2 b.1) bs) z=_;rw[Pf z bs _ (Rv _ _ _ h),gE b.2 z b.1 ps h];unfold aR;rw[xt,xR];omega
def bZ(ps qs:Ps):Int→List Int→List Bn
 |_,[]=>[]
 |p,v::l=>(ao ps qs v,v-p)::bZ ps qs v l
theorem jM(ps qs:Ps):∀(l:List Int)(p:Int),((List.range l.length).map fun i=>((ao ps qs (l.getD i 0),l.getD i 0-(p::l).getD i 0):Bn))=bZ ps qs p l
 | [],_=>rfl
 |v::l,p=>by
  rw[xq,List.range_succ_eq_map,xt,xD];show _::_=_::bZ ps qs v l;rw[←jM ps qs l v];rfl
theorem f_{a b:Ty}(h:a.Ok)(g:b.Ok)(v:Int):(ao a.cs b.cs v).Nodup:=by
 unfold ao;exact List.Nodup.sublist zj ((Zn _).nodup_iff.mpr (Xl h.nd g.nd))
theorem Vz{ps qs:Ps}{v:Int}{z:Str}:z∈ao ps qs v↔z∈af ps qs∧v≤aj ps qs z:=by
 unfold ao;rw[xW,(Zn _).mem_iff,decide_eq_true_iff]
theorem nV{a b:Ty}(h:a.Ok)(g:b.Ok){z:Str}(hz:z∈af a.cs b.cs){m:Int}:∀(l:List Int)(p:Int),(∀v∈l,p<v)→l.Pairwise (·<·)→(∀v∈l,v≤aj a.cs b.cs z↔v≤m)→(m=p∨m∈l)→aR z (bZ a.cs b.cs p l)=m-p
 | [],p,_,_,_,hm=>by
  rcases hm with rfl | hm
  ·show(0:Int)=_;omega
  ·cases hm
 |v::l,p,hp,pw,hi,hm=>by
  obtain⟨p1,p2⟩:=xc.mp pw;have e:aR z (bZ a.cs b.cs p (v::l))=(v-p)*((ao a.cs b.cs v).count z:Int)+aR z (bZ a.cs b.cs v l):=rfl;rw[e];have pv:=hp v (.head _);have iv:=hi v (.head _)
  rcases hm with rfl | hm
  ·have out:z∉ao a.cs b.cs v:=fun q=>by
    have:=iv.mp (Vz.mp q).2;omega
   rw[List.count_eq_zero_of_not_mem out];have low:∀(l:List Int)(u:Int),(∀v∈l,m<v)→(∀v∈l,v≤aj a.cs b.cs z↔v≤m)→aR z (bZ a.cs b.cs u l)=0:=by
    intro l
    induction l with
    |nil=>intro u _ _;rfl
    |cons w l ih=>
     intro u h1 h2;have e:aR z (bZ a.cs b.cs u (w::l))=(w-u)*((ao a.cs b.cs w).count z:Int)+aR z (bZ a.cs b.cs w l):=rfl;have out:z∉ao a.cs b.cs w:=fun q=>by
      have:=(h2 w (.head _)).mp (Vz.mp q).2;have:=h1 w (.head _);omega
     rw[e,List.count_eq_zero_of_not_mem out,ih w (fun x hx=>h1 x (.tail _ hx)) (fun x hx=>h2 x (.tail _ hx))];show(w-u)*0+0=(0:Int);omega
   rw[low l v (fun x hx=>by have:=p1 x hx;omega) (fun x hx=>hi x (.tail _ hx))];show(v-m)*0+0=m-m;omega
  ·have vm:v≤m:=by
    rcases wX.mp hm with rfl | hm
    ·exact z5 _
    ·exact Int.le_of_lt (p1 m hm)
   have inn:z∈ao a.cs b.cs v:=Vz.mpr ⟨hz,iv.mpr vm⟩;rw[(List.Nodup.count (f_ h g v)),wM inn,nV h g hz l v p1 p2 (fun x hx=>hi x (.tail _ hx)) ((wX.mp hm).imp (fun e=>e) fun e=>e)];show(v-p)*1+(m-v)=m-p;omega
theorem Oj(room:Int)(ps qs:Ps):(aW room ps qs).Pairwise (·<·):=by
 unfold aW;have h:=List.Pairwise.and (Sj (de ((af ps qs).map fun z=>min (aj ps qs z) (ar room ps qs)))) ((X0 _).nodup_iff.mpr (O2 ((af ps qs).map fun z=>min (aj ps qs z) (ar room ps qs))));exact h.imp fun⟨h1,h2⟩=>by omega
theorem j_{room:Int}{ps qs:Ps}{z:Str}(hz:z∈af ps qs):min (aj ps qs z) (ar room ps qs)∈aW room ps qs:=by
 unfold aW;exact(X0 _).mem_iff.mpr (Uu.mpr (wW.mpr ⟨z,hz,rfl⟩))
theorem N0{a b:Ty}(c:ar a.room a.cs b.cs≠0):aA a b=bZ a.cs b.cs 0 (aW a.room a.cs b.cs):=by
 unfold aA;rw[wK c];exact jM a.cs b.cs _ 0
theorem jE{ps qs:Ps}{z:Str}(hz:z∉af ps qs):∀(l:List Int)(p:Int),aR z (bZ ps qs p l)=0
 | [],_=>rfl
 |v::l,p=>by
  have e:aR z (bZ ps qs p (v::l))=(v-p)*((ao ps qs v).count z:Int)+aR z (bZ ps qs v l):=rfl;rw[e,List.count_eq_zero_of_not_mem (fun q=>hz (Vz.mp q).1),jE hz l v];show(v-p)*0+0=(0:Int);omega
theorem on{a b:Ty}(h:a.Ok)(g:b.Ok)(z:Str):aj a.cs b.cs z=look (aL a b).cs z+aR z (aA a b):=by
 have c0:=oN h g;have s0:=O5 h g z;show _=look (csM a.room a.cs b.cs) z+_;rw[nz h.nd g.nd c0 z];by_cases c:ar a.room a.cs b.cs=0
 ·have e:aA a b=[]:=by unfold aA;rw[wM c]
  rw[e,c];show _=_+(0:Int)
  split <;> omega
 ·rw[N0 c];by_cases hz:z∈af a.cs b.cs
  ·rw[nV h g hz (m:=min (aj a.cs b.cs z) (ar a.room a.cs b.cs)) _ 0 (fun v hv=>jm h g c hv) (Oj _ _ _) (fun v hv=>?_) (.inr (j_ hz))]
   ·split <;> omega
   ·obtain⟨y,_,rfl⟩:=Rp hv;omega
  ·rw[jE hz];have e:aj a.cs b.cs z=0:=by
    have n1:z∉a.cs.map (·.1):=fun q=>hz (Y3.mpr (.inl q));have n2:z∉b.cs.map (·.1):=fun q=>hz (Y3.mpr (.inr q));show look a.cs z+look b.cs z=0;rw[Yn n1,Yn n2];rfl
   rw[e]
   split <;> omega
theorem kr{ps qs:Ps}{m:Int}:∀(l:List Int)(p:Int),l.Pairwise (·<·)→(∀v∈l,v≤m)→(m=p∧l=[]∨m∈l)→((bZ ps qs p l).map (·.2)).sum=m-p
 | [],p,_,_,hm=>by
  rcases hm with⟨rfl,_⟩ | hm
  ·show(0:Int)=_;omega
  ·cases hm
 |v::l,p,pw,hi,hm=>by
  obtain⟨p1,p2⟩:=xc.mp pw;have e:((bZ ps qs p (v::l)).map (·.2)).sum=(v-p)+((bZ ps qs v l).map (·.2)).sum:=rfl;have hm:m∈v::l:=hm.elim (fun q=>nomatch q.2) fun q=>q;rw[e,kr l v p2 (fun x hx=>hi x (.tail _ hx)) ?_]
  ·omega
  ·rcases wX.mp hm with rfl | hm
   ·cases l with
    |nil=>exact .inl ⟨rfl,rfl⟩
    |cons x l=>
     have:=p1 x (.head _);have:=hi x (.tail _ (.head _));omega
   ·exact .inr hm
theorem fM{a b:Ty}(h:a.Ok)(c:ar a.room a.cs b.cs≠0):a.room<((af a.cs b.cs).map (aj a.cs b.cs)).length:=by
 by_cases q:a.room<((af a.cs b.cs).map (aj a.cs b.cs)).length
 ·exact q
 ·exact absurd (show ar a.room a.cs b.cs=0 by unfold ar cX;rw[wM (by omega)]) c
theorem lE{a b:Ty}(h:a.Ok)(g:b.Ok):((aA a b).map (·.2)).sum=ar a.room a.cs b.cs:=by
 by_cases c:ar a.room a.cs b.cs=0
 ·have e:aA a b=[]:=by unfold aA;rw[wM c]
  rw[e,c];rfl
 ·have r1:=h.room1;obtain⟨k,_,e,hk,_⟩:=Xc (ns:=(af a.cs b.cs).map (aj a.cs b.cs)) (room:=a.room) (by omega) (fM h c);obtain⟨z,hz,ez⟩:=wW.mp hk;have e:ar a.room a.cs b.cs=k:=e;have hm:ar a.room a.cs b.cs∈aW a.room a.cs b.cs:=by
   have q:=j_ (room:=a.room) hz;rw[ez,←e,Int.min_self]at q;exact q
  rw[N0 c,kr _ 0 (Oj _ _ _) (fun v hv=>?_) (.inr hm)]
  ·omega
  ·obtain⟨y,_,rfl⟩:=Rp hv;omega
theorem oU:∀{zs:List Str},zs.Pairwise (fun x y=>x.cps.toList<y.cps.toList)→kY zs=true
 | [],_=>rfl
 | [x],_=>rfl
 |x::y::zs,h=>by
  obtain⟨h1,h2⟩:=xc.mp h;show(decide (x.cps.toList<y.cps.toList) && kY (y::zs))=true;rw[wV (h1 y (.head _)),oU h2];rfl
theorem lX{a b:Ty}(h:a.Ok)(g:b.Ok)(v:Int):kY (ao a.cs b.cs v)=true:=by
 refine oU ?_;have p1:(ao a.cs b.cs v).Pairwise (fun a b=>leS a b=true):=by
  unfold ao;exact(Uv _).sublist zj
 refine(List.Pairwise.and p1 (f_ h g v)).imp ?_;rintro x y ⟨h1,h2⟩;by_cases c:x.cps.toList<y.cps.toList
 ·exact c
 ·have h3:leS y x=true:=by unfold leS;rw[xg c];rfl
  exact absurd (Rr h1 h3) h2
theorem Ro{a b:Ty}(h:a.Ok)(c:ar a.room a.cs b.cs≠0){v:Int}(hv:v≤ar a.room a.cs b.cs):a.room<((ao a.cs b.cs v).length:Int):=by
 have r1:=h.room1;obtain⟨k,_,e,hk,_,up⟩:=Xc (ns:=(af a.cs b.cs).map (aj a.cs b.cs)) (room:=a.room) (by omega) (fM h c);have e:ar a.room a.cs b.cs=k:=e;have l1:(ao a.cs b.cs v).length=(((af a.cs b.cs).map (aj a.cs b.cs)).filter fun x=>decide (v≤x)).length:=by
  unfold ao;rw[((Zn _).filter _).length_eq,List.filter_map,aq];rfl
 have cnt:∀(ns:List Int),(ns.filter fun x=>decide (k<x)).length+ns.count k≤(ns.filter fun x=>decide (v≤x)).length:=by
  intro ns
  induction ns with
  |nil=>exact pi _
  |cons x ns ih=>
   rw[xC,xC,List.count_cons];by_cases q:k<x
   ·rw[if_pos (decide_eq_true q),if_pos (decide_eq_true (by omega)),if_neg (by simp;omega)];simp only[List.length_cons];omega
   ·by_cases q2:x=k
    ·subst q2;rw[if_neg (by simp),if_pos (decide_eq_true (by omega)),if_pos (by simp)];simp only[List.length_cons];omega
    ·rw[if_neg (by simpa using q),if_neg (by simpa using q2)]
     split
     ·simp only[List.length_cons];omega
     ·omega
 have:=cnt ((af a.cs b.cs).map (aj a.cs b.cs));omega
theorem l_{a b:Ty}(h:a.Ok)(g:b.Ok):c_ a.room (aA a b)=true:=by
 by_cases c:ar a.room a.cs b.cs=0
 ·have e:aA a b=[]:=by unfold aA;rw[wM c]
  rw[e];rfl
 ·rw[N0 c];have all:∀(l:List Int)(p:Int),(∀v∈l,p<v)→l.Pairwise (·<·)→(∀v∈l,v≤ar a.room a.cs b.cs)→c_ a.room (bZ a.cs b.cs p l)=true:=by
   intro l
   induction l with
   |nil=>intro p _ _ _;rfl
   |cons v l ih=>
    intro p h1 pw h2;obtain⟨p1,p2⟩:=xc.mp pw;show(bnB a.room (ao a.cs b.cs v,v-p) && c_ a.room (bZ a.cs b.cs v l))=true;rw[ih v p1 p2 (fun x hx=>h2 x (.tail _ hx)),Bool.and_true];have hv:=h1 v (.head _);show(kY (ao a.cs b.cs v) && (decide (a.room<((ao a.cs b.cs v).length:Int)) && decide (1≤v-p)))=true;rw[lX h g v,wV (Ro h c (h2 v (.head _))),wV (by omega)];rfl
  refine all _ 0 (fun v hv=>jm h g c hv) (Oj _ _ _) fun v hv=>?_;obtain⟨y,_,rfl⟩:=Rp hv;omega
structure Shw(ts:List Th)(t:Ty)(bs:List Bn):Prop where
 at_:∀z,bP z ts=look t.cs z+aR z bs
 lt:(bs.map (·.2)).sum=t.lt
 pap:c_ t.room bs=true
 tot:(ts.map Th.many).sum=t.total
theorem Pq(z:Str)(xs ys:List Bn):aR z (xs++ys)=aR z xs+aR z ys:=by
 unfold aR;rw[wO,x8]
theorem iQ(z:Str)(xs ys:List Th):bP z (xs++ys)=bP z xs+bP z ys:=by
 unfold bP;rw[yh,wO,x8]
theorem Shw.merge{ts us:List Th}{a b:Ty}{xs ys:List Bn}(h:a.Ok)(g:b.Ok)(r:a.room=b.room)(ha:Shw ts a xs)(hb:Shw us b ys):Shw (ts++us) (aL a b) (xs++ys++aA a b):=by
 refine⟨fun z=>?_,?_,?_,?_⟩
 ·have e:=on h g z;have e1:aj a.cs b.cs z=look a.cs z+look b.cs z:=rfl;rw[iQ,Pq,Pq,ha.at_ z,hb.at_ z];omega
 ·rw[wO,wO,x8,x8,ha.lt,hb.lt,lE h g];rfl
 ·show c_ a.room (xs++ys++aA a b)=true;have p1:=ha.pap;have p2:=hb.pap;have p3:=l_ h g;rw[←r]at p2;unfold c_ at *;rw[List.all_append,List.all_append,p1,p2,p3];rfl
 ·rw[wO,x8,ha.tot,hb.tot];rfl
theorem Shw.zero(room:Int):Shw [] (Ty.zero room) []:=⟨fun _=>rfl,rfl,rfl,rfl⟩
theorem Ol{ps:Ps}(h:(ps.map (·.1)).Nodup)(pos:∀p∈ps,1≤p.2)(z:Str):z∈ps.map (·.1)↔1≤look ps z:=by
 constructor
 ·exact T7 pos h
 ·intro q;by_cases hz:z∈ps.map (·.1)
  ·exact hz
  ·rw[Yn hz]at q;omega
theorem uw{ps qs:Ps}(h:(ps.map (·.1)).Nodup)(g:(qs.map (·.1)).Nodup)(p1:∀p∈ps,1≤p.2)(q1:∀p∈qs,1≤p.2)(e:∀z,look ps z=look qs z):eqP ps qs=true:=by
 have sub:∀{xs ys:Ps},(xs.map (·.1)).Nodup→(ys.map (·.1)).Nodup→(∀p∈xs,1≤p.2)→(∀p∈ys,1≤p.2)→(∀z,look xs z=look ys z)→∀p∈xs,p∈ys:=fun{xs ys} hx hy px py e p hp=>by
  have l1:=Xg hx hp;have m:p.1∈ys.map (·.1):=(Ol hy py p.1).mpr (by rw[←e,l1];exact px p hp);obtain⟨x,hx',ex⟩:=wW.mp m;have l2:=Xg hy hx';rw[ex,←e,l1]at l2;have:x=p:=Prod.ext ex l2.symm;exact this ▸ hx'
 have s1:=sub h g p1 q1 e;have s2:=sub g h q1 p1 fun z=>(e z).symm;have pm:ps.Perm qs:=(List.perm_ext_iff_of_nodup (gt h) (gt g)).mpr fun x=>⟨s1 x,s2 x⟩;unfold eqP;rw[wV pm.length_eq,zU];exact yn.mpr fun p hp=>wV (s1 p hp)
theorem gA{ps:Ps}(nd:(ps.map (·.1)).Nodup)(h:∀p∈ps,1≤p.2)(z:Str){n:Int}(n1:1≤n):∀p∈bh ps z n,1≤p.2:=fun p hp=>by
 have l:=Xg (Wc nd z n) hp;rw[S0 nd]at l;have l0:=T8 h p.1;by_cases e:z=p.1
 ·rw[wM e]at l;omega
 ·rw[wK e]at l;have m:p.1∈af ps [(z,n)]:=by
   rw[←X2];exact wW.mpr ⟨p,hp,rfl⟩
  rcases Y3.mp m with q | q
  ·have:=T7 h nd q;omega
  ·exact absurd (wR.mp q).symm e
theorem jn:∀(ts:List Th)(ps:Ps),(ps.map (·.1)).Nodup→(∀p∈ps,1≤p.2)→(∀t∈ts,1≤t.many)→∀p∈ts.foldl (fun ps t=>bh ps t.word t.many) ps,1≤p.2
 | [],_,_,h,_=>h
 |t::ts,ps,nd,h,ht=>jn ts _ (Wc nd _ _) (gA nd h _ (ht t (.head _))) fun x hx=>ht x (.tail _ hx)
theorem jp{n:Int}(n1:1≤n):∀(zs:List Str)(ps:Ps),(ps.map (·.1)).Nodup→(∀p∈ps,1≤p.2)→∀p∈inP ps n zs,1≤p.2
 | [],_,_,h=>h
 |z::zs,ps,nd,h=>jp n1 zs _ (Wc nd _ _) (gA nd h z n1)
theorem N8:∀(bs:List Bn)(ps:Ps),(ps.map (·.1)).Nodup→(∀p∈ps,1≤p.2)→(∀b∈bs,1≤b.2)→∀p∈a_ ps bs,1≤p.2
 | [],_,_,h,_=>h
 |b::bs,ps,nd,h,hb=>N8 bs _ (Rv _ _ _ nd) (jp (hb b (.head _)) _ _ nd h) fun x hx=>hb x (.tail _ hx)
theorem kz{room:Int}{bs:List Bn}(h:c_ room bs=true):∀b∈bs,1≤b.2:=fun b hb=>by
 have q:=yn.mp h b hb;exact wU (zQ.mp (zQ.mp q).2).2
theorem Shw.shown{ts:List Th}{t:Ty}{bs:List Bn}(h:Shw ts t bs)(nd:(t.cs.map (·.1)).Nodup)(pos:∀p∈t.cs,1≤p.2)(ht:∀x∈ts,1≤x.many):bO ts t bs=true:=by
 unfold bO;rw[h.pap,wV h.lt,wV h.tot];simp only[Bool.true_and];refine uw (jx ts) (Sw bs _ nd) (jn ts [] xY (fun _ q=>nomatch q) ht) (N8 bs _ nd pos (kz h.pap)) fun z=>?_;have e1:look (ef ts) z=0+bP z ts:=gK z ts [] xY;rw[e1,Int.zero_add,Pf z bs _ nd];exact h.at_ z
def vX(st:Stmt):Expr:=match av st with
 | [.Return (some (.Call _ (_::e::_) _ _)) _]=>e
 |_=>.Constant .none 0 ⟨0,0,0,0⟩
abbrev cy:Expr:=vX ai
abbrev qTT:Str:=("grown_tally":Str)++".<locals>."++"<lambda>"
theorem scT:LamScope ["stream"] ["room"] (bq cy):=⟨rfl,rfl,rfl,by decide +kernel,by decide +kernel,fun x h=>by
  have:∀y∈(bq cy).names,y.2=.free→y.1="room":=by decide +kernel
  have e:x="room":=this (x,.free) (xu h) rfl;rw[e];exact .head _,by decide +kernel,by decide +kernel⟩
def bS(room:Int)(t:Tr):Ty:=evT (bj room) aL t
def RepT(H:Hp)(v:V)(x:Ty):Prop:=∃p:Addr,v=.ref p∧DV H v x.D
def ua(T:Addr):Sp:=fun vs H Q _=>∃(v:V)(room:Int)(t:Tr),vs=[.int room,v]∧1≤room∧room≤20∧DV H v t.D∧t.size≤1000∧t.all.length+t.size≤1000∧(∀s∈t.streams,∀x∈s,ThW x)∧LamAt T (cB cy) qTT H∧
 ∀(p:Addr) H',Same (am T H) (am T H')→LamAt T (cB cy) qTT H'→DV H' (.ref p) (bS room t).D→Q (.ref p) H'
def tZ(c:Addr)(room:Int):Sp:=fun vs H Q _=>∃(v:V)(ts:List Th),vs=[v]∧H c=some (crO qTT c)∧DV H v (bF ts)∧(∀t∈ts,ThW t)∧∀(p:Addr) H',Same H H'→DV H' (.ref p) (bj room ts).D→Q (.ref p) H'
theorem vp{c T f2:Addr}{oc:Value}{od an:Option Addr}{osl:Array (Option Value)}{kV doc pm ct:Value}{fd2:FuncData}(lk:K.lookup f=some ⟨oc,od,.func (W.fnOf "grown_tally" "grown_tally" (aB ai) (av ai) (aa ai) .none kV doc pm an (.ref c) ct),osl⟩)(hcd:W.codeIn K (.ref c) "grown_tally"=true)(C:W.CodeHd base c T)(hgP:mainGlobals≠T)(hB:base.BuiltinsAt mg T)(hb_grown:HasB P w K mg "grown" 7 ["tree","of_stream","of_two"] (dB P w K mg 6))(hT:∀base:Heap,K.In base→base.Ns mainGlobals mg→Has P w K mg base "tally_of" 4 ["room","stream"] oW)(hM:∀base:Heap,K.In base→base.Ns mainGlobals mg→Has P w K mg base "merged_tally" 3 ["one","other"] eE)(m2:mg "merged_tally"=some (.ref f2))(F2:Fun K "merged_tally" "merged_tally" aS f2 fd2):
  FnOk P w K mg base CX0 8 f (W.fnOf "grown_tally" "grown_tally" (aB ai) (av ai) (aa ai) .none kV doc pm an (.ref c) ct) ["room","tree"] (ua T):=by
 refine nX (k:=7) lk hcd R3 (fun vs H Q E h=>?_) (fun A outer s H vs Q E hr h=>?_)
 ·obtain⟨v,room,t,rfl,_⟩:=h;rfl
 obtain⟨v,room,t,rfl,r0,r1,dv,hsz,cap,tw,lam,hq⟩:=h;have uF:∃u,mg "merged_tally"=some u∧RelV (.ref f2) u:=⟨_,m2,rfl⟩;have hf:∀x∈(bq cy).names,x.2=.free→∃c',(PyProof.Rows.envOfC "grown_tally" (aa ai) s.heap.objs.size f (.ref c)).cells.lookup x.1=some c':=fun x hx hk=>by
  have:∀y∈(bq cy).names,y.2=.free→(aa ai).names.lookup y.1=some .cell:=by decide +kernel
  exact Tf (this x hx hk)
 refine⟨_,Z6 (Zd (gx hb_grown (fun _=>rfl) rfl rfl hr (Z0 (pv 1) (Z0 (mI (c:=c) (T:=T) (sc:=bq cy) rfl C hgP hB hf) (Z0 (Wp rfl uF) Z1))))),?_⟩;refine⟨_,rfl,lam,fun a c' pm2 ctv H1 g1 na nac eT ec ea=>?_⟩;have tT:H T≠none:=by
  rcases lam.tab with e | ⟨_,e,_⟩ <;> (rw[e];exact fun z=>nomatch z)
 have nT1:∀xs,H T≠some (.lst xs):=by
  rcases lam.tab with e | ⟨_,e,_⟩ <;> (rw[e];exact fun _ z=>nomatch z)
 have nT2:∀xs,H T≠some (.tup xs):=by
  rcases lam.tab with e | ⟨_,e,_⟩ <;> (rw[e];exact fun _ z=>nomatch z)
 have aT:a≠T:=fun z=>tT (z ▸ na);have dv1:DV H1 v t.D:=((V4 nT1 nT2 dv).mono g1).mono Yd;have dva:DV (am a H1) v t.D:=V4 (by rw[ea];exact fun _ z=>nomatch z) (by rw[ea];exact fun _ z=>nomatch z) dv1;refine⟨a,_,ea,fun B wid=>?_⟩;have wfn:=wid.fn;have ec2:am a H1 c'=some (crO qTT c'):=by rw[Ze (Ne.symm nac)];exact ec
 have cls:∀x d,(aJ (PyProof.Rows.envOfC "grown_tally" (aa ai) s.heap.objs.size f (.ref c)) (bq cy).names).lookup x=some d→(PyProof.Rows.envOfC "grown_tally" (aa ai) s.heap.objs.size f (.ref c)).cells.lookup x=some d:=fun x d e=>U2 _ [] hf (fun _ h=>nomatch h) (x,d) (xu e);refine⟨Ty,RepT,bj room,aL,fun x=>x.Ok∧x.room=room,fun ts=>∀x∈ts,ThW x,fun _=>0,v,a,f2,t,rfl,dva,hsz,tw,?_,?_,fun _=>yc _,fun _ _=>yc _,cap,fun ts h=>P4 r0 r1 h,fun x y h1 h2=>⟨Xa h1.1 h2.1 (h1.2.trans h2.2.symm),h1.2⟩,?_,?_⟩
 ·refine⟨_,["stream"],tZ c' room,nY (k:=5) (us:=[.int room]) (fr:=["room"]) wfn scT rfl ?_ (fun x y d e1 e2=>wid.inj x y d (cls x d e1) (cls y d e2)) (fun x d e=>wid.cells x d (cls x d e)) (fun vs H Q E h=>?_) (fun vs H Q E h=>?_) (fun A outer s H vs Q E hr h=>?_),?_,⟨_,_,_,_,wfn⟩,?_⟩
  ·intro i x u h1 h2
   match i,h1,h2 with
   | 0,h1,h2=>
   cases h1;cases h2;obtain⟨c2,u2,e1,e2,rv⟩:=wid.cell 0 "room" (.int room) rfl rfl rfl;obtain⟨c3,hc3⟩:=U3 (bq cy).names [] (env:=PyProof.Rows.envOfC "grown_tally" (aa ai) s.heap.objs.size f (.ref c)) "room" (xu (scT.fre "room" (.head _)));obtain⟨c4,hc4⟩:=Xf hc3;have e3:=cls _ _ hc4;have e4:c4=c2:=xA (e3.symm.trans e1);subst e4;exact⟨c4,u2,hc4,e2,rv⟩
  ·obtain⟨_,_,_,e,_⟩:=h;exact e
  ·obtain⟨_,_,rfl,_⟩:=h;rfl
  ·obtain⟨u,ts,rfl,e,d,ok,hq2⟩:=h;have iU:=hT B wid.kin wid.glb;refine⟨_,Z4 iU hr (Z0 (pv 1) (Z0 (pv 0) Z1)),?_⟩;exact⟨_,rfl,_,rfl,u,room,ts,rfl,r0,r1,d,ok,hq2⟩
  ·exact .all fun us hl=>match us,hl with | [_],_=>rfl
  ·exact fun H u ts Q b ys s eb d ok _ hq2=>⟨u,ts,rfl,s _ _ ec2,d,ok,fun p H' s' d'=>hq2 (.ref p) H' s' ⟨p,rfl,O3 (s' _ _ eb) d'⟩⟩
 ·obtain⟨f',fd',FM,bM,kM,mM⟩:=(hM B wid.kin wid.glb).ex;have e:f'=f2:=by
   rw[m2]at mM;cases mM;rfl
  subst e;obtain⟨oc2,od2,kV2,doc2,pm3,an2,cdv2,ct2,osl2,_,lk2,_⟩:=F2.ex;refine⟨fd',["one","other"],eE,FM.mono (by decide),bM,⟨_,_,_,_,wid.kin _ _ lk2⟩,?_⟩;rintro H u u' x y Q b ys s eb ⟨p,rfl,d⟩ ⟨q,rfl,d2⟩ ix iy _ hq2;exact⟨p,q,x,y,rfl,d.mono Yd,d2.mono Yd,ix.1,iy.1,ix.2.trans iy.2.symm,fun p' H' s' d'=>hq2 (.ref p') H' s' ⟨p',rfl,O3 (s' _ _ eb) d'⟩⟩
 ·rintro H H' g v x ⟨p,rfl,d⟩;exact⟨p,rfl,d.mono g⟩
 ·rintro p H' g ⟨p,rfl,d⟩;refine hq p H' ?_ ?_ d
  ·intro b u e;obtain⟨b1,b2⟩:=Zb e;have:=g1 b u e;obtain⟨_,e3⟩:=Zb this;rw[Ze b1];exact g b u (by rw[Ze (Zh b2 na)];exact e3)
  ·exact⟨.inr ⟨c',g _ _ (by rw[Ze (Ne.symm aT)];exact eT),g _ _ ec2⟩⟩
theorem tR(room:Int):∀(us:List Th)(a:TyP),(us.foldl (b9 room) a).1=us.foldl (fun a t=>aL a (thT room t)) a.1:=by
 intro us
 induction us with
 |nil=>intro a;rfl
 |cons u us ih=>
  intro a;rw[List.foldl_cons,List.foldl_cons,ih];rfl
theorem p9(room:Int):∀t:Tr,(au room t).1=bS room t:=by
 intro t
 induction t with
 |leaf ts=>exact tR room ts (Ty.zero room,[])
 |node l r hl hr=>
  show aL (au room l).1 (au room r).1=aL (bS room l) (bS room r);rw[hl,hr]
end K20
namespace HT
open PySem PyProof.Rows
def lexS:List Str→List Str→Bool
 | [],[]=>false
 | [],_::_=>true
 |_::_,[]=>false
 |x::xs,y::ys=>if x=y then lexS xs ys else decide (x.cps.toList<y.cps.toList)
theorem lexS_cons(x y:Str)(xs ys:List Str):lexS (x::xs) (y::ys)=if x=y then lexS xs ys else decide (x.cps.toList<y.cps.toList):=rfl
theorem Om:lexS [] []=false:=rfl
theorem Qr(y:Str)(ys:List Str):lexS [] (y::ys)=true:=rfl
theorem Qs(x:Str)(xs:List Str):lexS (x::xs) []=false:=rfl
theorem pZ(A:Around)(s:Shared)(a:Str)(t:Tok)(c:Str)(u:Tok):∃e,SeqAt.EqAt A s (.str a t) (.str c u) e∧(e=true↔a=c):=⟨(a==c),SeqAt.EqAt.str_str a t c u,xn⟩
theorem ny(A:Around)(s:Shared)(a:Str)(t:Tok)(c:Str)(u:Tok)(prog:Program)(w:World)(E:Value→Shared→Prop)(Q:Value→Shared→Prop)(h:Q (.bool (decide (a.cps.toList<c.cps.toList))) s):
  wpAny (model prog w) A (richCompare .Lt (.str a t) (.str c u)) Q E s:=
 (PySem.P.lt_str h:wpAny (model prog w) A (compareOp .Lt (.str a t) (.str c u)) Q E s)
section
open PySem.SeqAt
open PySem.AutoSeq1 (wpAny_loadPart')
open PySem.MeetsSeq PySem.MeetsSeq2 PySem.MeetsSeq3
theorem Qi(l b:Addr)(items items2:Array Value)(n n2:Nat)(dd dd2:Option Addr)(sl sl2:Array (Option Value))(ns ms:List Str)(hi:StrsAre items.toList ns)(hj:StrsAre items2.toList ms):
  Meets (Builtin.«tuple.__lt__» ⟨[.ref l,.ref b],[]⟩)
   (fun _ R s=>s.heap.get? l=some {cls:=.type "tuple",dict:=dd,data:=.seq items n,slots:=sl}∧s.heap.get? b=some {cls:=.type "tuple",dict:=dd2,data:=.seq items2 n2,slots:=sl2}∧
    R (.ok (.ret (.bool (lexS ns ms)))) s):=
 .of_wp fun prog w A R s h=>by
  obtain⟨hp,g,d,tk,os⟩:=s;obtain⟨hl,hb,h⟩:=h;have f2:=AutoSeq1.sub_tuple_tuple;have z1:items.size=ns.length:=by rw[←hi.length];simp
  have z2:items2.size=ms.length:=by rw[←hj.length];simp
  wp_walk using zX hl,zX hb,wpAny_forIn_list _ (fun rest b s'=>b.1=none∧s'=⟨hp,g,d,tk,os⟩∧∃(vs ws:List Value)(ns' ms':List Str),rest=vs.zip ws∧
   StrsAre vs ns'∧StrsAre ws ms'∧ns'.length+items2.size=ms'.length+items.size∧R (.ok (.ret (.bool (lexS ns' ms')))) ⟨hp,g,d,tk,os⟩) _
  case turn=>
   rintro⟨y,x⟩ rest b s' ⟨hb',rfl,vs,ws,ns',ms',hz,hvi,hwi,Al,hR⟩;cases hvi with
   |nil=>rw[List.zip_nil_left]at hz;cases hz
   |cons a t hvi'=>
    cases hwi with
    |nil=>rw[List.zip_nil_right]at hz;cases hz
    |cons c u hwi'=>
     rw[List.zip_cons_cons]at hz;injection hz with hyx hrest
     injection hyx with hy hx
     subst hy hx;rw[lexS_cons]at hR;simp only[List.length_cons]at Al;obtain⟨e,he,hiff⟩:=pZ A.in1 ⟨hp,g,d,tk,os⟩ a t c u;refine ae (he prog w _ _ ?_);cases e with
     |true=>
      rw[wM (hiff.mp rfl)]at hR
      wp_walk
      exact⟨rfl,rfl,_,_,_,_,hrest,hvi',hwi',by omega,hR⟩
     |false=>
      rw[wK (fun q=>absurd (hiff.mpr q) wJ)]at hR;have hri:=ny A.in1 ⟨hp,g,d,tk,os⟩ a t c u prog w
      wp_walk using hri
      exact⟨_,rfl,by simpa using hR⟩
  case fin=>
   rintro⟨b1,b2⟩ s' ⟨hb',rfl,vs,ws,ns',ms',hz,hvi,hwi,Al,hR⟩;simp only at hb';subst hb';have hv:lexS ns' ms'=decide (items.size<items2.size):=by
    cases hvi with
    |nil=>
     cases hwi with
     |nil=>
      simp only[List.length_nil]at Al;rw[Om];exact(xg (by omega)).symm
     |cons c u hw=>
      simp only[List.length_nil,List.length_cons]at Al;rw[Qr];exact(wV (by omega)).symm
    |cons a t hv=>
     cases hwi with
     |nil=>
      simp only[List.length_nil,List.length_cons]at Al;rw[Qs];exact(xg (by omega)).symm
     |cons c u hw=>
      rw[List.zip_cons_cons]at hz;cases hz
   rw[hv]at hR
   wp_walk
   exact⟨_,rfl,by simpa [Builtin.Tuple.tupleCompareSizes] using hR⟩
  case h=>
   exact⟨rfl,rfl,items.toList,items2.toList,ns,ms,rfl,hi,hj,by omega,h⟩
end
section
variable{prog:Program}{w:World}{A:Around}{E:Value→Shared→Prop}{s:Shared}
theorem lt_tupStrs{l b:Addr}{items items2:Array Value}{ns ms:List Str}{Q:Value→Shared→Prop}(hl:IsTup s.heap l items)(hb:IsTup s.heap b items2)(hi:StrsAre items.toList ns)(hj:StrsAre items2.toList ms)(hu:A.units<cLine)(h:Q (.bool (lexS ns ms)) s):wpAny (model prog w) A (compareOp .Lt (.ref l) (.ref b)) Q E s:=by
 obtain⟨⟨cls,dd,data,sl⟩,ho,hc,n,hd⟩:=id hl;obtain⟨⟨cls2,dd2,data2,sl2⟩,ho2,hc2,n2,hd2⟩:=id hb;simp only at hc hd hc2 hd2;subst hc hd hc2 hd2;exact richCompare_meets_room (op:=.Lt) ⟨_,ho,rfl⟩ ⟨_,ho2,rfl⟩ PySem.F.slot_tuple_lt PySem.F.entry_tuple_lt (PySem.F.args_tuple_lt_2 _ _) (Qi l b items items2 n n2 dd dd2 sl sl2 ns ms hi hj)
  ⟨ho,ho2,show Value.bool (lexS ns ms)≠Value.notImplemented∧Q (.bool (lexS ns ms)) s from⟨(fun x=>nomatch x),h⟩⟩ hu
end
end HT
namespace L2
open PySem PySem.Spec PyProof.Rows
def bG(O:KeyOrd):List O.α→List O.α→Bool
 | [],[]=>false
 | [],_::_=>true
 |_::_,[]=>false
 |x::xs,y::ys=>O.blt x y || (!O.blt y x && bG O xs ys)
theorem Yk{O:KeyOrd}{x y:O.α}{xs ys:List O.α}:bG O (x::xs) (y::ys)=true↔O.blt x y=true∨(x=y∧bG O xs ys=true):=by
 show(O.blt x y || (!O.blt y x && bG O xs ys))=true↔_;constructor
 ·intro h
  rcases e:O.blt x y with _ | _
  ·rw[e,Bool.false_or,xJ,yP]at h;exact .inr ⟨O.total _ _ e h.1,h.2⟩
  ·exact .inl rfl
 ·rintro(h | ⟨e,h⟩)
  ·rw[h,Bool.true_or]
  ·rw[e,O.irrefl,Bool.false_or,h];rfl
theorem qo(O:KeyOrd):∀a:List O.α,bG O a a=false:=by
 intro a
 induction a with
 |nil=>rfl
 |cons x xs ih=>
  rcases e:bG O (x::xs) (x::xs)with _ | _
  ·rfl
  ·rcases Yk.mp e with h | ⟨_,h⟩
   ·rw[O.irrefl]at h;cases h
   ·rw[ih]at h;cases h
theorem u6(O:KeyOrd):∀a b c:List O.α,bG O a b=true→bG O b c=true→bG O a c=true:=by
 intro a
 induction a with
 |nil=>
  intro b c h g;cases b with
  |nil=>cases h
  |cons y ys=>
   cases c with
   |nil=>cases g
   |cons z zs=>rfl
 |cons x xs ih=>
  intro b c h g;cases b with
  |nil=>cases h
  |cons y ys=>
   cases c with
   |nil=>cases g
   |cons z zs=>
    refine Yk.mpr ?_
    rcases Yk.mp h with h | ⟨e,h⟩
    ·rcases Yk.mp g with g | ⟨e',g⟩
     ·exact .inl (O.trans _ _ _ h g)
     ·exact .inl (e' ▸ h)
    ·rcases Yk.mp g with g | ⟨e',g⟩
     ·exact .inl (e ▸ g)
     ·exact .inr ⟨e.trans e',ih ys zs h g⟩
theorem rK(O:KeyOrd):∀a b c:List O.α,bG O a c=true→bG O a b=true∨bG O b c=true:=by
 intro a
 induction a with
 |nil=>
  intro b c h;cases b with
  |nil=>exact .inr h
  |cons y ys=>exact .inl rfl
 |cons x xs ih=>
  intro b c h;cases c with
  |nil=>cases h
  |cons z zs=>
   cases b with
   |nil=>exact .inr rfl
   |cons y ys=>
    rcases Yk.mp h with h | ⟨e,h⟩
    ·rcases O.negTrans _ y _ h with q | q
     ·exact .inl (Yk.mpr (.inl q))
     ·exact .inr (Yk.mpr (.inl q))
    ·rcases e1:O.blt x y with _ | _
     ·rcases e2:O.blt y x with _ | _
      ·have xy:=O.total _ _ e1 e2
       rcases ih ys zs h with q | q
       ·exact .inl (Yk.mpr (.inr ⟨xy,q⟩))
       ·exact .inr (Yk.mpr (.inr ⟨xy.symm.trans e,q⟩))
      ·exact .inr (Yk.mpr (.inl (e ▸ e2)))
     ·exact .inl (Yk.mpr (.inl e1))
theorem rS(O:KeyOrd):∀a b:List O.α,bG O a b=false→bG O b a=false→a=b:=by
 intro a
 induction a with
 |nil=>
  intro b h g;cases b with
  |nil=>rfl
  |cons y ys=>cases h
 |cons x xs ih=>
  intro b h g;cases b with
  |nil=>cases g
  |cons y ys=>
   have n1:∀{x y:O.α}{xs ys:List O.α},bG O (x::xs) (y::ys)=false→O.blt x y=false:=fun{x y xs ys} h=>by
    rcases e:O.blt x y with _ | _
    ·rfl
    ·rw[Yk.mpr (.inl e)]at h;cases h
   have e:=O.total _ _ (n1 h) (n1 g);have n2:∀{x y:O.α}{xs ys:List O.α},x=y→bG O (x::xs) (y::ys)=false→bG O xs ys=false:=fun{x y xs ys} e h=>by
    rcases q:bG O xs ys with _ | _
    ·rfl
    ·rw[Yk.mpr (.inr ⟨e,q⟩)]at h;cases h
   rw[e,ih ys (n2 e h) (n2 e.symm g)]
def cW(O:KeyOrd):KeyOrd where
 α:=List O.α
 blt:=bG O
 irrefl:=qo O
 trans:=u6 O
 negTrans:=rK O
 total:=rS O
def cQ(zs:List Str):(cW strO).α:=zs.map fun z=>z.cps.toList
theorem kg:∀{a b:List Str},cQ a=cQ b→a=b:=by
 intro a
 induction a with
 |nil=>
  intro b h;cases b with
  |nil=>rfl
  |cons y ys=>cases h
 |cons x xs ih=>
  intro b h;cases b with
  |nil=>cases h
  |cons y ys=>
   have h:x.cps.toList::cQ xs=y.cps.toList::cQ ys:=h;injection h with h1 h2
   rw[jj h1,ih h2]
theorem mU:∀a b:List Str,HT.lexS a b=bG strO (cQ a) (cQ b):=by
 intro a
 induction a with
 |nil=>
  intro b;cases b with
  |nil=>rfl
  |cons y ys=>rfl
 |cons x xs ih=>
  intro b;cases b with
  |nil=>rfl
  |cons y ys=>
   rw[HT.lexS_cons,ih ys,yk];refine Iff.trans ?_ (Yk (O:=strO) (x:=x.cps.toList) (y:=y.cps.toList) (xs:=cQ xs) (ys:=cQ ys)).symm;by_cases e:x=y
   ·rw[wM e];constructor
    ·exact fun h=>.inr ⟨by rw[e],h⟩
    ·rintro(h | h)
     ·rw[e]at h;exact nomatch (strO.irrefl (y.cps.toList:strO.α)).symm.trans h
     ·exact h.2
   ·rw[wK e];constructor
    ·exact fun h=>.inl h
    ·rintro(h | h)
     ·exact h
     ·exact absurd (jj h.1) e
def wu(h:Heap)(v:Value)(a:(cW strO).α):Prop:=∃c o n its zs,v=.ref c∧h.get? c=some o∧o.cls=.type "tuple"∧o.data=.seq its n∧StrsAre its.toList zs∧a=cQ zs
theorem qu:∀{vs:List Value}{a b:List Str},StrsAre vs a→StrsAre vs b→a=b:=by
 intro vs a b h
 induction h generalizing b with
 |nil=>intro g;cases g;rfl
 |cons y t _ ih=>
  intro g;cases g with
  |cons _ _ g=>rw[ih g]
section
variable{prog:Program}{w:World}
theorem Sz:∀{vs:List Value}{a:List Str},StrsAre vs a→ItemsAre (ad prog w) (a.map Sum.inr) vs:=by
 intro vs a h
 induction h with
 |nil=>exact .nil
 |cons y t _ ih=>exact .cons (Vh prog w y t) ih
theorem rG:El prog w (cW strO) wu "tuple" where
 mono st p:=by
  obtain⟨c,o,n,its,zs,rfl,ho,hc,hd,hz,rfl⟩:=p;exact⟨c,o,n,its,zs,rfl,st _ _ ho hc,hc,hd,hz,rfl⟩
 fn p q:=by
  obtain⟨c,o,n,its,zs,rfl,ho,hc,hd,hz,rfl⟩:=p;obtain⟨c',o',n',its',zs',e,ho',hc',hd',hz',rfl⟩:=q;cases e;rw[ho]at ho';cases ho';rw[hd]at hd';cases hd';rw[qu hz hz']
 ty p:=by
  obtain⟨c,o,n,its,zs,rfl,ho,hc,hd,hz,rfl⟩:=p;exact⟨o,ho,hc⟩
 eq {A E s u v a b Q} hu p p' q:=by
  obtain⟨c,o,n,its,zs,rfl,ho,hc,hd,hz,rfl⟩:=p;obtain⟨c',o',n',its',zs',rfl,ho',hc',hd',hz',rfl⟩:=p';refine wpAny_eqBool_tuple (knd:=ad prog w) (zu (ya _ 8) hu) ⟨o,its,n,ho,hc,hd,Sz hz⟩ ⟨o',its',n',ho',hc',hd',Sz hz'⟩ ?_;have z:decide (zs.map (Sum.inr:Str→Key)=zs'.map Sum.inr)=eqO (cW strO) (cQ zs) (cQ zs'):=by
   rw[yk,decide_eq_true_iff,Te];constructor
   ·intro h;rw[(List.map_inj_right fun _ _ h=>z6 h).mp h]
   ·intro h;rw[kg h]
  rw[z];exact q
 lt {A E s u v a b Q} f hf hu p p' q:=by
  obtain⟨c,o,n,its,zs,rfl,ho,hc,hd,hz,rfl⟩:=p;obtain⟨c',o',n',its',zs',rfl,ho',hc',hd',hz',rfl⟩:=p';cases f with
  |true=>exact absurd rfl (hf rfl)
  |false=>
   rw[oneLt'_eq];rw[wK wJ];refine ae (HT.lt_tupStrs ⟨o,ho,hc,n,hd⟩ ⟨o',ho',hc',n',hd'⟩ hz hz' (zu (ya _ 8) hu) (yx ?_));exact(mU zs zs') ▸ q
end
section
variable{X:Cx}
def FBn(H:Hp)(a:Addr)(k:(cg (cW strO) cV).α):Prop:=∃(c:Addr)(zs:List Str)(n:Int),H a=some (.tup [.ref c,.int n])∧H c=some (.tup (zs.map V.str))∧k=(cQ zs,n)
theorem qG:∀{zs:List Str}{its:List Value},Vals (zs.map V.str) its→StrsAre its zs:=by
 intro zs
 induction zs with
 |nil=>intro its r;cases r;exact .nil
 |cons z zs ih=>
  intro its r;cases r with
  |cons r1 r=>
   obtain⟨t,rfl⟩:=r1;exact .cons z t (ih r)
theorem Sf(hu:X.A.units+64<cLine):aV X (.builtin "sorted") (oF (O:=cg (cW strO) cV) FBn):=
 call_sortG (rG (prog:=X.prog) (w:=X.w)) (uP (prog:=X.prog) (w:=X.w)) FBn (fun{or σ H s a k} I h=>by
  obtain⟨c,zs,n,h,hc,rfl⟩:=h;obtain⟨o,m,u,v,e1,e2,e3,ru,⟨t',rv⟩⟩:=sV I h;obtain⟨_,its,r,o2,g1,g2,m2,g3⟩:=(show ObjOk X.prog X.w H s.heap c (.tup (zs.map V.str))from I.hok c _ hc);exact⟨a,o,m,u,v,rfl,e1,e2,e3,⟨c,o2,m2,its.toArray,zs,ru,g1,g2.1,g3,by rw[List.toList_toArray];exact qG r,rfl⟩,⟨t',rv⟩⟩) (([]:List (strO.α)),(0:Int)) hu
theorem m7:OpR X (compareOp .Is) (fun x y H Q=>∃k:Bool,x=.bl k∧y=.bl false∧Q (.bl (!k)) H):=by
 intro or s σ H x y v u Q I rx ry h;obtain⟨k,rfl,rfl,q⟩:=h;cases rx;cases ry;exact wpAny_is_plain (by cases k <;> rfl) (Zm I q (by cases k <;> rfl))
end
end L2
namespace K20
open PySem L2
theorem vK{α:Type}[DecidableEq α]:∀{l m:List α},l.Nodup→(∀x∈l,x∈m)→l.length≤m.length:=by
 intro l
 induction l with
 |nil=>intro m _ _;exact yc _
 |cons x l ih=>
  intro m nd s;rw[xG]at nd;have hx:=s x (.head _);have le:=List.length_erase_of_mem hx;have lp:=List.length_pos_of_mem hx;have:=ih (m:=m.erase x) nd.2 fun y hy=>(List.mem_erase_of_ne fun z=>nd.1 (by rw[←z];exact hy)).mpr (s y (.tail _ hy));rw[xq];omega
theorem l9{α:Type}(f:α→Bool):∀l:List α,(l.filter f).length+(l.filter fun x=>!f x).length=l.length:=by
 intro l
 induction l with
 |nil=>rfl
 |cons x l ih=>
  rw[xC,xC,xq];cases f x with
  |true=>
   rw[wM rfl,wK (by decide),xq];omega
  |false=>
   rw[wK (by decide),wM (by rfl),xq];omega
theorem f6{a b:Ty}(h:a.Ok)(g:b.Ok):((aA a b).length:Int)≤max 0 (((af a.cs b.cs).length:Int)-a.room):=by
 unfold aA;by_cases c:ar a.room a.cs b.cs=0
 ·rw[wM c];show((0:Nat):Int)≤_;omega
 rw[wK c,Qd];have mr:=Ro h c (z5 _);have sp:=l9 (fun z=>decide (ar a.room a.cs b.cs≤aj a.cs b.cs z)) (bf (af a.cs b.cs));have kl:=(Zn (af a.cs b.cs)).length_eq;unfold ao at mr;have nd:(aW a.room a.cs b.cs).Nodup:=(Oj a.room a.cs b.cs).imp fun z e=>by omega
 have le:=vK (m:=ar a.room a.cs b.cs::((bf (af a.cs b.cs)).filter fun z=>!decide (ar a.room a.cs b.cs≤aj a.cs b.cs z)).map (aj a.cs b.cs)) nd fun v hv=>by
  obtain⟨z,hz,rfl⟩:=Rp hv;by_cases q:ar a.room a.cs b.cs≤aj a.cs b.cs z
  ·rw[Int.min_eq_right q];exact .head _
  ·rw[Int.min_eq_left (by omega)];refine .tail _ (wW.mpr ⟨z,xW.mpr ⟨(Zn _).mem_iff.mpr hz,?_⟩,rfl⟩);rw[xg q];rfl
 rw[xq,aq]at le;omega
theorem jQ(ps qs:Ps):(af ps qs).length≤ps.length+qs.length:=by
 unfold af;have:=xV (fun z=>decide (z∉ps.map (·.1))) (qs.map (·.1));rw[aq]at this;rw[wH,aq];omega
theorem kE{room:Int}(h1:1≤room)(h2:room≤20):∀(ts:List Th)(p:TyP),p.1.Ok→p.1.room=room→(∀t∈ts,ThW t)→(ts.foldl (b9 room) p).2.length≤p.2.length+ts.length:=by
 intro ts
 induction ts with
 |nil=>intro p _ _ _;exact pi _
 |cons t ts ih=>
  intro p ok rm hw;have ok2:=Tl h1 h2 (hw t (.head _));have a:=ih (b9 room p t) (Xa ok ok2 rm) rm fun x hx=>hw x (.tail _ hx);have b:=f6 ok ok2;have k:=jQ p.1.cs (thT room t).cs;have l:=ok.len;have e:(thT room t).cs.length=1:=rfl;have f:(b9 room p t).2.length=p.2.length+(aA p.1 (thT room t)).length:=by
   show(p.2++aA p.1 (thT room t)).length=_;rw[wH]
  rw[List.foldl_cons,xq];omega
theorem Vk{room:Int}(h1:1≤room)(h2:room≤20):∀{t:Tr},(∀s∈t.streams,∀x∈s,ThW x)→(au room t).2.length≤t.all.length+20*t.size:=by
 intro t
 induction t with
 |leaf ts=>
  intro h;have:=kE h1 h2 ts (Ty.zero room,[]) (Sh h1 h2) rfl (h ts (.head _));show(a7 room ts).2.length≤ts.length+20*1;have e:(Ty.zero room,([]:List Bn)).2.length=0:=rfl;unfold a7;omega
 |node l r hl hr=>
  intro h;have hL:∀s∈l.streams,∀x∈s,ThW x:=fun s hs=>h s (xv _ hs);have hR:∀s∈r.streams,∀x∈s,ThW x:=fun s hs=>h s (wP _ hs);have a:=hl hL;have b:=hr hR;have ga:=Yx h1 h2 hL;have gb:=Yx h1 h2 hR;have c:=f6 ga.ok gb.ok;have k:=jQ (au room l).1.cs (au room r).1.cs;have l1:=ga.ok.len;have l2:=gb.ok.len;have r1:=ga.rm;have r2:=gb.rm;show((au room l).2++(au room r).2++aA (au room l).1 (au room r).1).length≤(l.all++r.all).length+20*(l.size+r.size+1);rw[wH,wH,wH];omega
theorem Shw.one(room:Int)(t:Th):Shw [t] (thT room t) []:=by
 refine⟨fun z=>?_,rfl,rfl,?_⟩
 ·unfold bP thT look;by_cases e:t.word=z
  ·rw[xC,wM (wV e)];simp[aR,e]
  ·rw[List.filter_cons,if_neg (by simpa using e)];simp[aR,e];rfl
 ·show t.many+0=t.many;omega
theorem pQ{room:Int}(h1:1≤room)(h2:room≤20):∀(us ts:List Th)(p:TyP),p.1.Ok→p.1.room=room→(∀t∈us,ThW t)→Shw ts p.1 p.2→Shw (ts++us) (us.foldl (b9 room) p).1 (us.foldl (b9 room) p).2:=by
 intro us
 induction us with
 |nil=>intro ts p _ _ _ h;rw[xF];exact h
 |cons t us ih=>
  intro ts p ok rm hw h;have ok2:=Tl h1 h2 (hw t (.head _));have m:=Shw.merge ok ok2 rm h (Shw.one room t);rw[xF]at m;have:=ih (ts++[t]) (b9 room p t) (Xa ok ok2 rm) rm (fun x hx=>hw x (.tail _ hx)) m;rw[xw]at this;exact this
theorem mW{room:Int}(h1:1≤room)(h2:room≤20):∀{t:Tr},(∀s∈t.streams,∀x∈s,ThW x)→Shw t.all (au room t).1 (au room t).2:=by
 intro t
 induction t with
 |leaf ts=>exact fun h=>pQ h1 h2 ts [] (Ty.zero room,[]) (Sh h1 h2) rfl (h ts (.head _)) (Shw.zero room)
 |node l r hl hr=>
  intro h;have hL:∀s∈l.streams,∀x∈s,ThW x:=fun s hs=>h s (xv _ hs);have hR:∀s∈r.streams,∀x∈s,ThW x:=fun s hs=>h s (wP _ hs);have ga:=Yx h1 h2 hL;have gb:=Yx h1 h2 hR;exact Shw.merge ga.ok gb.ok (ga.rm.trans gb.rm.symm) (hl hL) (hr hR)
theorem Sy{l m:List Int}(h:l.Perm m):l.sum=m.sum:=by
 induction h with
 |nil=>rfl
 |cons _ _ ih=>rw[xR,xR,ih]
 |swap x y l=>rw[xR,xR,xR,xR];omega
 |trans _ _ a b=>rw[a,b]
theorem Shw.perm{ts:List Th}{t:Ty}{bs cs:List Bn}(h:Shw ts t bs)(p:bs.Perm cs):Shw ts t cs:=by
 refine⟨fun z=>?_,?_,?_,h.tot⟩
 ·rw[h.at_ z];unfold aR;rw[Sy (p.map _)]
 ·rw[←h.lt,Sy (p.map _)]
 ·have:=h.pap;unfold c_ at this⊢;rw[yn]at this⊢;exact fun b hb=>this b (p.mem_iff.mpr hb)
theorem Nf{ts:List Th}{t:Ty}{bs:List Bn}(h:(bs.map (·.2)).sum≠t.lt):bO ts t bs=false:=by
 unfold bO;rw[xg h,yr,zM]
theorem kI{ts:List Th}{t:Ty}{bs:List Bn}(h:(ts.map Th.many).sum≠t.total):bO ts t bs=false:=by
 unfold bO;rw[xg h,yr,zM,zM]
def bnK(b:Bn):(cg (cW strO) cV).α:=(cQ b.1,b.2)
theorem qN{a b:Bn}(h:bnK a=bnK b):a=b:=by
 have h:(cQ a.1,a.2)=(cQ b.1,b.2):=h;injection h with h1 h2
 exact Prod.ext (kg h1) h2
theorem uA:∀{xs ys:List Bn},xs.Perm ys→(xs.Pairwise fun a b=>(cg (cW strO) cV).blt (bnK b) (bnK a)=false)→(ys.Pairwise fun a b=>(cg (cW strO) cV).blt (bnK b) (bnK a)=false)→xs=ys:=by
 intro xs
 induction xs with
 |nil=>intro ys p _ _;exact p.nil_eq
 |cons x xs ih=>
  intro ys p hx hy;cases ys with
  |nil=>exact absurd p.length_eq (by simp)
  |cons y ys=>
   rw[xc]at hx hy;have e:x=y:=by
    rcases wX.mp (p.mem_iff.mp (.head _))with e | e
    ·exact e
    rcases wX.mp (p.mem_iff.mpr (.head (as:=ys)))with q | q
    ·exact q.symm
    ·exact qN ((cg (cW strO) cV).total _ _ (hy.1 x e) (hx.1 y q))
   subst e;rw[ih ((List.perm_cons x).mp p) hx.2 hy.2]
def TsAt(H:Hp):List V→List Th→Prop:=Paired fun x t=>∃c:Addr,x=.ref c∧H c=some (.tup t.vs)
theorem TsAt.dvs{H:Hp}:∀{xs:List V}{ts:List Th},TsAt H xs ts→DVs H xs (ts.map Th.D)
 |_,_,.nil=>.nil
 |_,_,.cons ⟨c,e,h⟩ r=>by
  rw[e];exact .cons (Th.dv h) (TsAt.dvs r)
theorem TsAt.tup{H H':Hp}(g:∀c xs,H c=some (.tup xs)→H' c=some (.tup xs)){xs:List V}{ts:List Th}(h:TsAt H xs ts):TsAt H' xs ts:=Paired.mapP h fun _ _ ⟨c,e,q⟩=>⟨c,e,g _ _ q⟩
theorem TsAt.of{H:Hp}{ts:List Th}:∀{xs:List V},DVs H xs (ts.map Th.D)→TsAt H xs ts:=by
 induction ts with
 |nil=>
  intro xs h;have:=h.nil_inv;subst this;exact .nil
 |cons t ts ih=>
  intro xs h;obtain⟨x,r,rfl,_,h2⟩:=DVs.cons_inv h;obtain⟨t',c,ht,rfl,e,_⟩:=DVs.th_at (i:=0) h rfl;cases ht;exact .cons ⟨c,rfl,e⟩ (ih h2)
section
theorem e9{α β:Type}{R:α→β→Prop}{xs:List α}{ys:List β}(h:Paired R xs ys):∀n,Paired R (xs.take n) (ys.take n):=by
 induction h with
 |nil=>intro n;rw[List.take_nil,List.take_nil];exact .nil
 |cons h _ ih=>
  intro n;cases n with
  |zero=>exact .nil
  |succ n=>exact .cons h (ih n)
theorem gj{α β:Type}{R:α→β→Prop}{xs:List α}{ys:List β}(h:Paired R xs ys):∀n,Paired R (xs.drop n) (ys.drop n):=by
 induction h with
 |nil=>intro n;rw[List.drop_nil,List.drop_nil];exact .nil
 |cons h r ih=>
  intro n;cases n with
  |zero=>exact .cons h r
  |succ n=>exact ih n
theorem Wn{α β:Type}{R:α→β→Prop}{xs:List α}{ys:List β}{us:List α}{vs:List β}(h:Paired R xs ys)(g:Paired R us vs):Paired R (xs++us) (ys++vs):=by
 induction h with
 |nil=>exact g
 |cons a _ ih=>exact .cons a ih
theorem rj{α β:Type}{R:α→β→Prop}{xs:List α}{ys:List β}(h:Paired R xs ys):Paired R xs.reverse ys.reverse:=by
 induction h with
 |nil=>exact .nil
 |cons a _ ih=>
  rw[y4,y4];exact Wn ih (.cons a .nil)
end
def BnP(H:Hp)(x:V)(b:Bn):Prop:=∃a c:Addr,x=.ref a∧H a=some (.tup [.ref c,.int b.2])∧H c=some (.tup (b.1.map V.str))
theorem Tj{H:Hp}{xs:List V}{bs:List Bn}(h:BnsAt H xs bs):Paired (BnP H) xs bs:=by
 induction h with
 |nil=>exact .nil
 |cons h e _ ih=>exact .cons ⟨_,_,rfl,h,e⟩ ih
theorem Qe{H:Hp}{xs:List V}{bs:List Bn}(h:Paired (BnP H) xs bs):BnsAt H xs bs:=by
 induction h with
 |nil=>exact .nil
 |cons h _ ih=>
  obtain⟨a,c,rfl,e1,e2⟩:=h;exact .cons e1 e2 ih
theorem Qf{H H':Hp}(g:∀(c:Addr) (zs:List V),H c=some (.tup zs)→H' c=some (.tup zs)){xs:List V}{bs:List Bn}(h:Paired (BnP H) xs bs):Paired (BnP H') xs bs:=Paired.mapP h fun _ _ ⟨c,d,e1,e2,e3⟩=>⟨c,d,e1,g _ _ e2,g _ _ e3⟩
abbrev rP(T:Addr)(H:Hp):Prop:=LamAt T (cB cy) qTT H
abbrev rf(T:Addr)(H:Hp):Prop:=LamAt T (cB cc) qGT H
section
variable{T T':Addr}{pos pos':PySem.Pos}{q q':Str}{H H':Hp}
theorem Wb(h:LamAt T pos q H):(∀xs,H T≠some (.lst xs))∧(∀xs,H T≠some (.tup xs))∧H T≠none:=by
 refine⟨?_,?_,?_⟩
 ·rcases h.tab with e | ⟨_,e,_⟩ <;> (rw[e];exact fun _ z=>nomatch z)
 ·rcases h.tab with e | ⟨_,e,_⟩ <;> (rw[e];exact fun _ z=>nomatch z)
 ·rcases h.tab with e | ⟨_,e,_⟩ <;> (rw[e];exact fun z=>nomatch z)
theorem jz(l:LamAt T pos q H)(l':LamAt T' pos' q' H)(ne:T≠T')(k:∀x o,H x=some o→(∀xs,o≠.lst xs)→x≠T'→H' x=some o):LamAt T pos q H':=by
 rcases l.tab with e | ⟨c,e,ec⟩
 ·exact⟨.inl (k _ _ e (fun _ z=>nomatch z) ne)⟩
 ·refine⟨.inr ⟨c,k _ _ e (fun _ z=>nomatch z) ne,k _ _ ec (fun _ z=>nomatch z) fun z=>?_⟩⟩
  rcases l'.tab with f | ⟨_,f,_⟩ <;> (rw[z,f]at ec;exact nomatch ec)
theorem fo(l:LamAt T pos q H)(k:∀x o,H x=some o→(∀xs,o≠.lst xs)→H' x=some o):LamAt T pos q H':=by
 rcases l.tab with e | ⟨c,e,ec⟩
 ·exact⟨.inl (k _ _ e fun _ z=>nomatch z)⟩
 ·exact⟨.inr ⟨c,k _ _ e (fun _ z=>nomatch z),k _ _ ec (fun _ z=>nomatch z)⟩⟩
end
def w3(a T1 T2:Addr)(H:Hp):Hp:=am T2 (am T1 (am a H))
structure Wl(a T1 T2:Addr)(H:Hp):Prop where
 pen:PenAt H a
 l1:rP T1 H
 l2:rf T2 H
 ne:T1≠T2
section
variable{a T1 T2:Addr}{H H':Hp}
theorem Uq{b:Addr}{o:HO}(h:w3 a T1 T2 H b=some o):b≠T2∧b≠T1∧b≠a∧H b=some o:=by
 obtain⟨h1,h⟩:=Zb h;obtain⟨h2,h⟩:=Zb h;obtain⟨h3,h⟩:=Zb h;exact⟨h1,h2,h3,h⟩
theorem Z8:Same (w3 a T1 T2 H) H:=fun _ _ h=>(Uq h).2.2.2
theorem oh:Same (w3 a T1 T2 H) (am a H):=fun b o h=>by
 obtain⟨_,_,h3,h⟩:=Uq h;rw[Ze h3];exact h
theorem Qz{b:Addr}{o:HO}(h:H b=some o)(n1:b≠a)(n2:b≠T1)(n3:b≠T2):w3 a T1 T2 H b=some o:=by
 show am T2 (am T1 (am a H)) b=some o;rw[Ze n3,Ze n2,Ze n1];exact h
theorem kq(k:Same (w3 a T1 T2 H) H'):Same (w3 a T1 T2 H) (w3 a T1 T2 H'):=fun b o h=>by
 obtain⟨h1,h2,h3,_⟩:=Uq h;exact Qz (k b o h) h3 h2 h1
theorem Wl.same(h:Wl a T1 T2 H)(g:Same H H'):Wl a T1 T2 H'∧Same (w3 a T1 T2 H) (w3 a T1 T2 H'):=⟨⟨h.pen.same g,h.l1.mono g,h.l2.mono g,h.ne⟩,kq fun b o e=>g _ _ (Z8 _ _ e)⟩
theorem Wl.grw(h:Wl a T1 T2 H)(hp:PenAt H' a)(g:Grw a H H'):Wl a T1 T2 H'∧Same (w3 a T1 T2 H) (w3 a T1 T2 H'):=by
 obtain⟨_,_,_,ea⟩:=h.pen;have k:∀x o,H x=some o→(∀xs,o≠.lst xs)→H' x=some o:=fun x o e n=>(Zb (g x o (by rw[Ze (fun z=>by rw[z,ea]at e;exact n _ (xA e).symm)];exact e))).2;refine⟨⟨hp,fo h.l1 k,fo h.l2 k,h.ne⟩,kq fun b o e=>?_⟩;exact(Zb (g b o (oh _ _ e))).2
theorem Wl.tt1(h:Wl a T1 T2 H)(g:Same (am T1 H) (am T1 H'))(l:rP T1 H'):Wl a T1 T2 H'∧Same (w3 a T1 T2 H) (w3 a T1 T2 H'):=by
 have k:∀x o,H x=some o→x≠T1→H' x=some o:=fun x o e n=>(Zb (g x o (by rw[Ze n];exact e))).2;obtain⟨p,q,r,ea⟩:=h.pen;refine⟨⟨⟨p,q,r,k _ _ ea fun z=>(Wb h.l1).1 _ (by rw[←z];exact ea)⟩,l,jz h.l2 h.l1 (Ne.symm h.ne) fun x o e _ n=>k x o e n,h.ne⟩,kq fun b o e=>?_⟩;obtain⟨_,h2,_,e⟩:=Uq e;exact k b o e h2
theorem Wl.tt2(h:Wl a T1 T2 H)(g:Same (am T2 H) (am T2 H'))(l:rf T2 H'):Wl a T1 T2 H'∧Same (w3 a T1 T2 H) (w3 a T1 T2 H'):=by
 have k:∀x o,H x=some o→x≠T2→H' x=some o:=fun x o e n=>(Zb (g x o (by rw[Ze n];exact e))).2;obtain⟨p,q,r,ea⟩:=h.pen;refine⟨⟨⟨p,q,r,k _ _ ea fun z=>(Wb h.l2).1 _ (by rw[←z];exact ea)⟩,jz h.l1 h.l2 h.ne fun x o e _ n=>k x o e n,l,h.ne⟩,kq fun b o e=>?_⟩;obtain⟨h1,_,_,e⟩:=Uq e;exact k b o e h1
theorem Wl.fresh(h:Wl a T1 T2 H){b:Addr}{H1:Hp}(n:H b=none)(s:Same H H1)(g:Grw b H1 H'):Wl a T1 T2 H'∧Same (w3 a T1 T2 H) (w3 a T1 T2 H'):=h.same fun x o e=>(Zb (g x o (by rw[Ze (fun z=>by rw[z,n]at e;exact nomatch e)];exact s _ _ e))).2
theorem Wl.ne3(h:Wl a T1 T2 H){b:Addr}(n:H b=none):b≠a∧b≠T1∧b≠T2:=by
 obtain⟨_,_,_,ea⟩:=h.pen;exact⟨fun z=>(by rw[z,ea]at n;exact nomatch n),fun z=>(Wb h.l1).2.2 (by rw[←z];exact n),fun z=>(Wb h.l2).2.2 (by rw[←z];exact n)⟩
theorem Wl.tup(h:Wl a T1 T2 H){b:Addr}{xs:List V}(e:H b=some (.tup xs)):w3 a T1 T2 H b=some (.tup xs):=by
 obtain⟨_,_,_,ea⟩:=h.pen;exact Qz e (mH e ea (by intro z;cases z)) (fun z=>(Wb h.l1).2.1 xs (by rw[←z];exact e)) (fun z=>(Wb h.l2).2.1 xs (by rw[←z];exact e))
theorem Wl.lay(h:Wl a T1 T2 H){b:Addr}{o:HO}(e:upd H b o=H')(n:H b=none):Wl a T1 T2 H'∧Same (w3 a T1 T2 H) (w3 a T1 T2 H')∧w3 a T1 T2 H' b=some o:=by
 subst e;obtain⟨h1,h2⟩:=h.same (Zc n o);obtain⟨n1,n2,n3⟩:=h.ne3 n;exact⟨h1,h2,Qz Z5 n1 n2 n3⟩
theorem Wl.dv(h:Wl a T1 T2 H){v:V}{d:PyData}(e:DV (am a H) v d):DV (w3 a T1 T2 H) v d:=by
 have e1:DV (am T1 (am a H)) v d:=V4 (fun xs z=>(Wb h.l1).1 xs (Zb z).2) (fun xs z=>(Wb h.l1).2.1 xs (Zb z).2) e;exact V4 (fun xs z=>(Wb h.l2).1 xs (Zb (Zb z).2).2) (fun xs z=>(Wb h.l2).2.1 xs (Zb (Zb z).2).2) e1
theorem Wl.lst(h:Wl a T1 T2 H){b:Addr}{xs:List V}(e:H b=some (.lst xs))(n:b≠a):w3 a T1 T2 H b=some (.lst xs):=Qz e n (fun z=>(Wb h.l1).1 _ (by rw[←z];exact e)) (fun z=>(Wb h.l2).1 _ (by rw[←z];exact e))
theorem Wl.str(h:Wl a T1 T2 H){r:Addr}{ts:List Th}(n:r≠a)(d:DV H (.ref r) (bF ts)):DV (w3 a T1 T2 H) (.ref r) (bF ts):=by
 obtain⟨_,xs,e0,e,q⟩:=DV.list_inv d;cases e0;exact .lst (h.lst e n) ((TsAt.of q).tup fun c ys e=>h.tup e).dvs
theorem Wl.ty(h:Wl a T1 T2 H){q:Addr}{t:Ty}(d:DV H (.ref q) t.D):DV (w3 a T1 T2 H) (.ref q) t.D:=by
 obtain⟨p,b,rows,e,e1,e2,pa⟩:=DV.ty_inv d;cases e;have pr:∀{ys:List V}{kvs:List (Key×V)},PairsAt H ys kvs→PairsAt (w3 a T1 T2 H) ys kvs:=fun{ys kvs} z=>by
  induction z with
  |nil=>exact .nil
  |cons z _ ih=>exact .cons (h.tup z) ih
 exact Ty.dv (h.tup e1) (h.tup e2) (pr pa)
theorem Wl.pap(h:Wl a T1 T2 H){l:Addr}{bs:List Bn}(n:l≠a)(p:PapAt H l bs):PapAt (w3 a T1 T2 H) l bs:=by
 obtain⟨xs,e,r⟩:=p;exact⟨xs,h.lst e n,Qe (Paired.mapP (Tj r) fun _ _ ⟨c,d,e1,e2,e3⟩=>⟨c,d,e1,h.tup e2,h.tup e3⟩)⟩
end
end K20
namespace L2
open PySem
def tRun(X:Cx)(ss:List Stmt):TS:=fun D σ H=>∃t:TS,PSs X ss t∧t D σ H
theorem Zu{X:Cx}{ss:List Stmt}:PSs X ss (tRun X ss):=fun or s σ H D I ⟨_,h,q⟩=>h or s σ H D I q
section
variable{K:W.Frag}{a:Addr}{xs:List V}{g:TG}{tb:TS}{D:Ends}{σ:St}{H:Hp}
theorem U0(Pv:Nat→St→Hp→Prop)(h0:Pv 0 σ H)(hl:∀i σ H,i≤xs.length→Pv i σ H→SqL K H a xs)(hs:∀i x σ H (N B:St→Hp→Prop) (R:VK),(∀σ' H',Pv (i+1) σ' H'→N σ' H')→(∀v H',D.rt v H'→R v H')→xs[i]?=some x→Pv i σ H→g x σ H fun σ2 H2=>tb {nx:=N,rt:=R,bk:=B,ct:=N} σ2 H2)(hd:∀σ H,Pv xs.length σ H→D.nx σ H):
  ∃W:Nat→Nat→St→Hp→Prop,(∃m,W 0 m σ H)∧∀i m σ H,W i m σ H→
   ((Itl K a).stop i H∧D.nx σ H)∨((Itl K a).go i H∧∃N:St→Hp→Prop,(∀σ' H',N σ' H'→∃m',m'<m∧W (i+1) m' σ' H')∧∀x H',(Itl K a).yld i H x H'→g x σ H' fun σ2 H2=>tb {D with nx:=N,ct:=N,bk:=D.nx} σ2 H2):=
 Xm Pv h0 hl (fun i x σ H hx p=>hs i x σ H _ _ _ (fun _ _ q=>q) (fun _ _ q=>q) hx p) hd
end
theorem Y5{α:Type}{n:Nat}{P:List α→Prop}(h:∀a r,r.length=n→P (a::r)):∀us:List α,us.length=n+1→P us:=fun us e=>by
 cases us with
 |nil=>cases e
 |cons a r=>exact h a r (Nat.succ.inj e)
theorem T9{α:Type}{P:List α→Prop}(h:P []):∀us:List α,us.length=0→P us:=fun us e=>by
 cases us with
 |nil=>exact h
 |cons a r=>cases e
theorem Fun.b1{K:W.Frag}{x qual:Str}{st:Stmt}{f:Addr}{fd:FuncData}{p0:Str}(F:Fun K x qual st f fd)(h:∀(kV doc pm:Value) (an:Option Addr) (cdv ct u0:Value),bindArgs (W.fnOf x qual (aB st) (av st) (aa st) .none kV doc pm an cdv ct) ⟨[u0],[]⟩=pure [(p0,u0)]):Binds K fd [p0] []:=F.binds fun kV doc pm an cdv ct=>Y5 fun u0=>T9 (h kV doc pm an cdv ct u0)
theorem Fun.b2{K:W.Frag}{x qual:Str}{st:Stmt}{f:Addr}{fd:FuncData}{p0 p1:Str}(F:Fun K x qual st f fd)(h:∀(kV doc pm:Value) (an:Option Addr) (cdv ct u0 u1:Value),bindArgs (W.fnOf x qual (aB st) (av st) (aa st) .none kV doc pm an cdv ct) ⟨[u0,u1],[]⟩=pure [(p0,u0),(p1,u1)]):Binds K fd [p0,p1] []:=F.binds fun kV doc pm an cdv ct=>Y5 fun u0=>Y5 fun u1=>T9 (h kV doc pm an cdv ct u0 u1)
theorem Fun.b3{K:W.Frag}{x qual:Str}{st:Stmt}{f:Addr}{fd:FuncData}{p0 p1 p2:Str}(F:Fun K x qual st f fd)(h:∀(kV doc pm:Value) (an:Option Addr) (cdv ct u0 u1 u2:Value),bindArgs (W.fnOf x qual (aB st) (av st) (aa st) .none kV doc pm an cdv ct) ⟨[u0,u1,u2],[]⟩=pure [(p0,u0),(p1,u1),(p2,u2)]):Binds K fd [p0,p1,p2] []:=F.binds fun kV doc pm an cdv ct=>Y5 fun u0=>Y5 fun u1=>Y5 fun u2=>T9 (h kV doc pm an cdv ct u0 u1 u2)
theorem Fun.b4{K:W.Frag}{x qual:Str}{st:Stmt}{f:Addr}{fd:FuncData}{p0 p1 p2 p3:Str}(F:Fun K x qual st f fd)(h:∀(kV doc pm:Value) (an:Option Addr) (cdv ct u0 u1 u2 u3:Value),bindArgs (W.fnOf x qual (aB st) (av st) (aa st) .none kV doc pm an cdv ct) ⟨[u0,u1,u2,u3],[]⟩=pure [(p0,u0),(p1,u1),(p2,u2),(p3,u3)]):Binds K fd [p0,p1,p2,p3] []:=F.binds fun kV doc pm an cdv ct=>Y5 fun u0=>Y5 fun u1=>Y5 fun u2=>Y5 fun u3=>T9 (h kV doc pm an cdv ct u0 u1 u2 u3)
theorem Fun.b5{K:W.Frag}{x qual:Str}{st:Stmt}{f:Addr}{fd:FuncData}{p0 p1 p2 p3 p4:Str}(F:Fun K x qual st f fd)(h:∀(kV doc pm:Value) (an:Option Addr) (cdv ct u0 u1 u2 u3 u4:Value),bindArgs (W.fnOf x qual (aB st) (av st) (aa st) .none kV doc pm an cdv ct) ⟨[u0,u1,u2,u3,u4],[]⟩=pure [(p0,u0),(p1,u1),(p2,u2),(p3,u3),(p4,u4)]):Binds K fd [p0,p1,p2,p3,p4] []:=F.binds fun kV doc pm an cdv ct=>Y5 fun u0=>Y5 fun u1=>Y5 fun u2=>Y5 fun u3=>Y5 fun u4=>T9 (h kV doc pm an cdv ct u0 u1 u2 u3 u4)
end L2
namespace K20
open PySem L2
theorem pW{α β:Type}{R:α→β→Prop}{xs:List α}{ys:List β}(h:Paired R xs ys):∀{i:Nat}{x:α},xs[i]?=some x→∃y,ys[i]?=some y∧R x y:=by
 induction h with
 |nil=>intro i x e;rw[List.getElem?_nil]at e;cases e
 |cons a _ ih=>
  intro i x e;cases i with
  |zero=>
   rw[List.getElem?_cons_zero]at e;cases e;exact⟨_,rfl,a⟩
  |succ i=>exact ih (by rw[List.getElem?_cons_succ]at e;exact e)
structure Mx(H0:Hp)(a L:Addr)(bs:List Bn)(H:Hp)(xs:List V)(cs:List Bn):Prop where
 pen:PenAt H a
 g:Grw a H0 H
 e:H L=some (.lst xs)
 pr:Paired (BnP H) xs cs
 pm:cs.Perm bs
section
variable{H0 H H':Hp}{a L p:Addr}{bs cs:List Bn}{xs:List V}
theorem Mx.grw(h:Mx H0 a L bs H xs cs)(la:L≠a)(hp:PenAt H' a)(g:Grw a H H'):Mx H0 a L bs H' xs cs:=⟨hp,h.g.trans g,Sk g la h.e,Qf (fun c ys e=>(Zb (g _ _ (h.pen.tup e))).2) h.pr,h.pm⟩
theorem Mx.put(h:Mx H0 a L bs H xs cs)(la:L≠a)(n0:am a H0 L=none)(i:Nat){x:V}{b:Bn}(hb:BnP H x b):Mx H0 a L (bs++[b]) (upd H L (.lst (xs.take i++x::xs.drop i))) (xs.take i++x::xs.drop i) (cs.take i++b::cs.drop i):=by
 refine⟨h.pen.put la,q5 h.g n0,Z5,Qf (fun c zs e=>?_) (Wn (e9 h.pr i) (.cons hb (gj h.pr i))),?_⟩
 ·rw[Z9 (fun z=>by rw[z,h.e]at e;cases e)];exact e
 ·have e:=xM i cs;have p:(cs.take i++b::cs.drop i).Perm (b::(cs.take i++cs.drop i)):=List.perm_middle;rw[e]at p;exact p.trans ((h.pm.cons b).trans (List.perm_append_singleton b bs).symm)
end
def sr:Sp:=fun vs H Q _=>∃(a p:Addr)(bs:List Bn),vs=[.ref a,.ref p]∧PenAt H a∧PapAt (am a H) p bs∧bs.length≤3000∧∀(L:Addr)(cs:List Bn)(H':Hp),cs.Perm bs→PapAt (am a H') L cs→PenAt H' a→Grw a H H'→Q (.ref L) H'
variable{P:Program}{w:World}{K:W.Frag}{mg:Str→Option Value}{base:Heap}{f:Addr}{fd:FuncData}
theorem t7(aE:mg "len"=none)(ak:Has P w K mg base "_law_draw" 1 ["_law_pen_here","_law_size"] bC)(F:Fun K "_law_mixed_up" "_law_mixed_up" bJ f fd):FnOk P w K mg base CX0 2 f fd ["_law_pen_here","_law_paper"] sr:=by
 refine F.ok We (fun vs H Q E h=>?_) (fun cdv A outer s H vs Q E hr h=>?_)
 ·obtain⟨a,p,bs,rfl,_⟩:=h;rfl
 obtain⟨a,p,bs,rfl,pen,⟨xs,Ab,kb⟩,bl,hq⟩:=h;have xl:=kb.length;have kb:=Tj kb;refine⟨_,(Z2 (Y8 2 We.nd rfl (Or.inl rfl) (Y4 Z1)) Zu),?_⟩;refine⟨leN rfl,fun L n_L=>?_⟩;have la:=pen.ne n_L;have n0:am a H L=none:=by rw[Ze la];exact n_L
 have pL:p≠L:=fun z=>by rw[z,n0]at Ab;cases Ab
 have mx:Mx H a L (bs.take 0) (upd H L (.lst [])) [] []:=⟨pen.laid n_L,Yr n_L,Z5,.nil,.nil⟩;generalize upd H L (.lst [])=H1 at mx⊢;refine⟨_,(Z2 (X8 xS rfl (Zy (pv 1)) (Z7 (i:=3) We.nd rfl (Or.inl rfl))
 (Z6 (Wx (S7 xH PySem.F.slot_list_insert PySem.F.type_list_insert kX (pv 2) (Z0 (Z4 ak hr (Z0 (pv 0) (Z0 (Zi Zw (Zg Zt rfl aE xZ (Z0 (pv 2) Z1)) Z3) Z1))) (Z0 (pv 3) Z1)))))) Zu),?_⟩
 refine⟨_,rfl,p,rfl,⟨_,SqL.of (Zb (mx.g _ _ Ab)).2⟩,?_⟩;refine U0 (xs:=xs) (fun i σ H'=>∃(o3:Option V)(ys:List V)(cs:List Bn),σ=[some (.ref a),some (.ref p),some (.ref L),o3]∧Mx H a L (bs.take i) H' ys cs) ⟨_,[],[],rfl,mx⟩ ?_ ?_ ?_
 ·rintro i σ H' _ ⟨_,_,_,_,mx⟩;exact SqL.of (Zb (mx.g _ _ Ab)).2
 ·clear mx;rintro i x σ H2 N B1 R hN hR hx ⟨o3,ys,cs,rfl,mx⟩;have il:=(wL.mp hx).1;obtain⟨b,hb,bp⟩:=pW kb hx;have yl:=zB mx.pr;have cl:=mx.pm.length_eq;rw[wT]at cl;refine⟨_,rfl,.inl ⟨rfl,_,SqL.of mx.e⟩,_,rfl,_,rfl,L,ys,rfl,.inl (SqL.of mx.e),_,_,rfl,rfl,a,_,rfl,mx.pen,by omega,by omega,fun d H3 x0 x1 hp g=>?_⟩;have mx:=mx.grw la hp g;have bp:BnP H3 x b:=by
   obtain⟨c,e,r1,r2,r3⟩:=bp;exact⟨c,e,r1,(Zb (mx.g _ _ r2)).2,(Zb (mx.g _ _ r3)).2⟩
  obtain⟨j,rfl⟩:=Int.eq_ofNat_of_zero_le x0;have x1:(j:Int)<(ys.length:Int)+1:=x1;refine⟨_,rfl,L,ys,j,x,rfl,rfl,mx.e,by omega,Zk (by omega),by omega,hN _ _ ⟨_,ys.take j++x::ys.drop j,cs.take j++b::cs.drop j,rfl,?_⟩⟩;rw[Zo hb];exact mx.put la n0 j bp
 ·rintro σ H2 ⟨o3,ys,cs,rfl,mx⟩;have pm:=mx.pm;rw[xl,xp]at pm;refine⟨_,(Z6 (Zd (pv 2))),_,rfl,hq L cs H2 pm ⟨ys,by rw[Ze la];exact mx.e,Qe (Qf (fun c zs e=>mx.pen.tup e) mx.pr)⟩ mx.pen mx.g⟩
theorem Xj{p:Th→Prop}:∀{t:Tr},(∀x∈t.all,p x)→∀s∈t.streams,∀x∈s,p x:=by
 intro t
 induction t with
 |leaf ts=>intro h s hs x hx;rw[wR.mp hs]at hx;exact h x hx
 |node l r hl hr=>
  intro h s hs x hx
  rcases wY.mp (show s∈l.streams++r.streams from hs)with z | z
  ·exact hl (fun y hy=>h y (xv _ hy)) s z x hx
  ·exact hr (fun y hy=>h y (wP _ hy)) s z x hx
theorem v7{room:Int}(r0:1≤room){bs:List Bn}(w:∀b∈bs,BnW b)(h:c_ room bs=true):∀b∈bs,BnV b:=fun b hb=>by
 unfold c_ at h;have q:=yn.mp h b hb;unfold bnB at q;rw[xJ,xJ]at q;have l:=wU q.2.1;have ww:=w b hb;exact⟨fun z hz=>xv _ (ww.1 z hz),by omega,by have:=ww.2;omega⟩
theorem pS(bs:List Bn)(i:Nat){b:Bn}(h:bs[i]?=some b):((bs.take i++bs.drop (i+1)).map (·.2)).sum+b.2=(bs.map (·.2)).sum:=by
 have e:bs=bs.take i++b::bs.drop (i+1):=by
  obtain⟨hi,e⟩:=wL.mp h;rw[←e,←List.drop_eq_getElem_cons hi,xM]
 have r:(bs.map (·.2)).sum=((bs.take i++b::bs.drop (i+1)).map (·.2)).sum:=yy (fun l:List Bn=>(l.map (·.2)).sum) e;rw[r,wO,wO,x8,x8,xt,xR];omega
theorem lH:∀{ts:List Th},(∀x∈ts,1≤x.many)→0≤(ts.map Th.many).sum:=by
 intro ts
 induction ts with
 |nil=>intro _;exact z5 _
 |cons t ts ih=>
  intro h;have a:=ih fun x hx=>h x (.tail _ hx);have b:=h t (.head _);rw[xt,xR];omega
theorem ab_v:BnV (["a","b"],1):=⟨by decide +kernel,by decide,by decide⟩
def wy(T1 T2:Addr):Sp:=fun vs H Q _=>∃(a:Addr)(v:V)(room:Int)(t:Tr),vs=[.ref a,.int room,v]∧Wl a T1 T2 H∧DV (w3 a T1 T2 H) v t.D∧1≤room∧room≤20∧t.ht≤50∧t.size≤30∧t.all.length≤100∧(∀x∈t.all,ThW x)∧∀H',Wl a T1 T2 H'→Same (w3 a T1 T2 H) (w3 a T1 T2 H')→Q (.bl true) H'
theorem vH{T1 T2:Addr}(aE:mg "len"=none)(cz:mg "sum"=none)(ak:Has P w K mg base "_law_draw" 1 ["_law_pen_here","_law_size"] bC)(e_:Has P w K mg base "stream_of" 3 ["tree"] dY)(aZ:Has P w K mg base "grown_tally" 8 ["room","tree"] (ua T1))(aH:Has P w K mg base "tally_paper" 8 ["room","tree"] (uG T2))(eM:Has P w K mg base "_law_mixed_up" 2 ["_law_pen_here","_law_paper"] sr)(bQ:Has P w K mg base "is_shown" 6 ["stream","tally","paper"] jC)(F:Fun K "_law_shown" "_law_shown" di f fd):FnOk P w K mg base CX0 9 f fd ["_law_pen_here","_law_room_here","_law_tree_here"] (wy T1 T2):=by
 refine F.ok Yi (fun vs H Q E h=>?_) (fun cdv A outer s H vs Q E hr h=>?_)
 ·obtain⟨a,v,room,t,rfl,_⟩:=h;rfl
 obtain⟨a,v,room,t,rfl,wl,dv,r0,r1,tht,tsz,tl,tw0,hq⟩:=h;have tw:=Xj tw0;have gk:=Yx r0 r1 tw;have few:=Vk r0 r1 tw;have sh:=mW r0 r1 tw;have wB:=gk.w;have ok:=gk.ok;have rm:=gk.rm;rw[p9]at sh ok rm;clear gk;have pp:=sh.pap;rw[rm]at pp;have bv:=v7 r0 wB pp;have pos:=kz pp;have md:Mdt (bS room t):=⟨ok.room1,ok.room2,ok.nd,ok.rise,ok.word,ok.pos,ok.len,ok.lt0⟩;have hm:∀x∈t.all,1≤x.many:=fun x hx=>(tw0 x hx).2;have tot0:0≤(bS room t).total:=by rw[←sh.tot];exact lH hm
 have bl:(au room t).2.length≤700:=by omega
 have yes:∀{cs:List Bn},cs.Perm (au room t).2→bO t.all (bS room t) cs=true:=fun{cs} pm=>(sh.perm pm.symm).shown ok.nd ok.pos hm;refine⟨_,(Z2 (Y8 3 Yi.nd rfl (Or.inl rfl) (Z4 e_ hr (Z0 (pv 2) Z1))) Zu),?_⟩;refine⟨_,rfl,v,t,rfl,dv.mono Z8,by omega,by omega,by omega,fun r ys H1 g1 n_r e_r ds=>?_⟩;have ra:=(wl.ne3 n_r).1;obtain⟨wl,sm⟩:=wl.same g1;have gg:=sm;have dv:=dv.mono sm;have k_r:=wl.str ra (.lst e_r ds);clear sm g1 n_r e_r ds;refine⟨_,(Z2 (Y8 4 Yi.nd rfl (Or.inl rfl) (Z4 aZ hr (Z0 (pv 1) (Z0 (pv 2) Z1)))) Zu),?_⟩;refine⟨_,rfl,_,rfl,v,room,t,rfl,r0,r1,dv.mono Z8,by omega,by omega,tw,wl.l1,fun q H2 g2 l2 Af=>?_⟩;obtain⟨wl,sm⟩:=wl.tt1 g2 l2;have gg:=gg.trans sm;have dv:=dv.mono sm;have k_r:=k_r.mono sm;have Af:=wl.ty Af;clear sm g2 l2;refine⟨_,(Z2 (Y8 5 Yi.nd rfl (Or.inl rfl) (Z4 aH hr (Z0 (pv 1) (Z0 (pv 2) Z1)))) Zu),?_⟩;refine⟨_,rfl,_,rfl,v,room,t,rfl,r0,r1,dv.mono Z8,by omega,by omega,tw,wl.l2,fun l H3 g3 l3 n_l k_l0=>?_⟩;have la:=(wl.ne3 n_l).1;obtain⟨wl,sm⟩:=wl.tt2 g3 l3;have k_l:=wl.pap la k_l0;obtain⟨G,gG,gG0,K_r,K_q,K_l⟩:∃G:Hp,Same G (w3 a T1 T2 H3)∧Same (w3 a T1 T2 H) G∧DV G (.ref r) (bF t.all)∧DV G (.ref q) (bS room t).D∧PapAt G l (au room t).2:=⟨_,Same.refl _,gg.trans sm,k_r.mono sm,Af.mono sm,k_l⟩;clear sm g3 l3 n_l dv k_r Af k_l k_l0 gg;have gg:=gG0;have k_r:=K_r;have Af:=K_q;have k_l:=K_l;clear gG0 K_r K_q K_l;generalize (au room t).2=bs at few sh wB pp bv pos bl yes k_l;generalize bS room t=Y at sh ok rm md tot0 yes Af;obtain⟨xs,Ae,kb⟩:=id k_l;have xl:=kb.length;obtain⟨_,yb,rows,e0,Ah,_,_⟩:=DV.ty_inv Af;cases e0;obtain⟨_,zs,e0,e_r,dx⟩:=DV.list_inv k_r;cases e0;have zl:=dx.length;rw[aq]at zl;refine⟨_,(R8 9 (R8 8 (Z2 (Ye (PW.pt (Wm (Zs S9 (Zg (Tg rfl) rfl cz zH (Z0 (uE ["_law_pen_here","_law_room_here","_law_tree_here","_law_stream_here","_law_tally","_law_paper","_law_some","_law_at","#8","#9"] (Yo (own:=["_law_marks","_law_many_here"]) (U6 rfl rfl) (Zy (pv 5))
  (fun _ _ _ _ _=>(Vw K 2 rfl rfl (Za (Z7 (i:=0) W9 rfl (Or.inl rfl) (Or.inr rfl)) (Za (Z7 (i:=1) W9 rfl (Or.inl rfl) (Or.inr rfl)) Y6)))) (fun _ _ _ _ _=>Yt)
  (fun _ _ _ _ _=>(pv 1)))) Z1)) (Yz Yv (pv 4) Z3) (Zl _)) (Xn (Zs S9 (Yz Yv (pv 4) Z3) (Zg (Tg rfl) rfl cz zH (Z0 (Yo (own:=["_law_thing_here"]) (U6 rfl rfl) (Zy (pv 3))
  (fun _ _ _ _ _=>(Z7 (i:=0) Uj rfl (Or.inl rfl) (Or.inr rfl))) (fun _ _ _ _ _=>Yt)
  (fun _ _ _ _ _=>(Yz (sg K rfl) (pv 0) Z3))) Z1)) (Zl _))))) (Z6 (Zd X6)) Zq) Zu))),?_⟩
 refine⟨⟨.inl rfl,.inl rfl,.inl rfl,.inl rfl,.inl rfl,.inl rfl,.inl rfl,.inl rfl,.inr rfl,.inr rfl,trivial⟩,_,rfl,l,rfl,⟨_,SqL.of (Z8 _ _ (gG _ _ Ae))⟩,?_⟩;refine X3 (xs:=xs) (fun n us H'=>H'=H3∧us=((bs.take n).map (·.2)).map V.int) ⟨rfl,rfl⟩ ?_ ?_ ?_
 ·rintro n us H' _ ⟨rfl,_⟩;exact SqL.of (Z8 _ _ (gG _ _ Ae))
 ·rintro n x us H' C hx ⟨rfl,rfl⟩ hC;have nl:=(wL.mp hx).1;obtain⟨a',m,b',rfl,hb,ea,em⟩:=kb.get hx;refine⟨Zk (by rw[aq,aq,wT];omega),a',_,rfl,SqT.of (Z8 _ _ (gG _ _ ea)),rfl,_,_,rfl,_,_,rfl,rfl,Wk.refl _,_,rfl,hC _ _ ⟨rfl,?_⟩⟩;rw[Zo hb,wO,wO];rfl
 rintro us H' ⟨rfl,rfl⟩;rw[xl,xp];refine⟨Zf (by rw[aq,aq];omega),fun sp iT=>?_⟩;generalize hz:upd _ sp _=H4;revert H4;refine blk ?_;intro H4 hz;obtain⟨wl,sm,jf⟩:=wl.lay hz iT;have gG:=gG.trans sm;clear sm hz iT;refine⟨sp,_,rfl,SqL.of (Z8 _ _ jf),_,rfl,q,_,2,_,rfl,rfl,SqT.of (Z8 _ _ (gG _ _ Ah)),rfl,rfl,_,rfl,?_⟩;clear jf;rw[wV (show V.int (bs.map (·.2)).sum=V.int Y.lt by rw[sh.lt])];refine Yu ⟨_,rfl,q,_,3,_,rfl,rfl,SqT.of (Z8 _ _ (gG _ _ Ah)),rfl,_,rfl,r,rfl,⟨_,SqL.of (Z8 _ _ (gG _ _ e_r))⟩,?_⟩;refine X3 (xs:=zs) (fun n us H'=>H'=H4∧us=((t.all.take n).map Th.many).map V.int) ⟨rfl,rfl⟩ ?_ ?_ ?_
 ·rintro n us H' _ ⟨rfl,_⟩;exact SqL.of (Z8 _ _ (gG _ _ e_r))
 ·rintro n x us H' C hx ⟨rfl,rfl⟩ hC;have nl:=(wL.mp hx).1;obtain⟨th,c,ht,rfl,ec,_⟩:=DVs.th_at dx hx;refine⟨Zk (by rw[aq,aq,wT];omega),Wk.refl _,_,rfl,c,_,3,_,rfl,rfl,SqT.of (Z8 _ _ (gG _ _ ec)),rfl,hC _ _ ⟨rfl,?_⟩⟩;rw[Zo ht,wO,wO];rfl
 rintro us H' ⟨rfl,rfl⟩;rw[zl,xp];refine⟨Zf (by rw[aq,aq];omega),fun sp iT=>?_⟩;generalize hz:upd _ sp _=H5;revert H5;refine blk ?_;intro H5 hz;obtain⟨wl,sm,jf⟩:=wl.lay hz iT;have gG:=gG.trans sm;clear sm hz iT;refine⟨sp,_,rfl,SqL.of (Z8 _ _ jf),rfl,_,rfl,?_⟩;clear jf;rw[wV (show V.int Y.total=V.int (t.all.map Th.many).sum by rw[sh.tot])];refine Yu ?_;refine⟨_,(Z2 (X8 xS rfl (Zy (Y4 (Z0 (pv 5) (Z0 (Z4 eM hr (Z0 (pv 0) (Z0 (pv 5) Z1))) (Z0 (uk (pv 5) (v0 uT Z3)) Z1))))) (Z7 (i:=6) Yi.nd rfl (Or.inl rfl))
 (Z6 (Ye (Zs r8 (Z4 bQ hr (Z0 (pv 3) (Z0 (pv 4) (Z0 (pv 6) Z1)))) X6 (Zl _)) (Z6 (Zd X6)) Zq))) Zu),?_⟩
 refine⟨_,rfl,_,rfl,_,rfl,a,l,bs,rfl,wl.pen,(k_l.mono gG).mono oh,by omega,fun L cs H6 pm k_L hp g=>?_⟩;obtain⟨wl,sm⟩:=wl.grw hp g;have gG:=gG.trans sm;have k_L:PapAt (w3 a T1 T2 H6) L cs:=by
  have La:L≠a:=by
   obtain⟨_,e,_⟩:=k_L;exact(Zb e).1
  exact wl.pap La (k_L.mono Yd)
 clear sm hp g;refine⟨_,rfl,1,rfl,l,xs,rfl,rfl,SqL.of (Z8 _ _ (gG _ _ Ae)),fun z n_z=>?_⟩;generalize hz:upd _ z _=H7;revert H7;refine blk ?_;intro H7 hz;obtain⟨wl,sm,e_z⟩:=wl.lay hz n_z;have gG:=gG.trans sm;have k_L:=k_L.mono sm;clear sm hz n_z;have k_z:PapAt (w3 a T1 T2 H7) z bs.reverse:=⟨_,e_z,Qe (rj (Tj (kb.mono gG)))⟩;refine⟨leN rfl,fun ll nL=>?_⟩;generalize hz:upd _ ll _=H8;revert H8;refine blk ?_;intro H8 hz;obtain⟨wl,sm,dG⟩:=wl.lay hz nL;have gG:=gG.trans sm;have k_L:=k_L.mono sm;have k_z:=k_z.mono sm;clear sm hz nL e_z;refine⟨ll,rfl,⟨_,SqL.of (Z8 _ _ dG)⟩,?_⟩;have each:∀x∈[V.ref l,.ref L,.ref z],∃(l':Addr)(cs':List Bn),x=.ref l'∧PapAt (w3 a T1 T2 H8) l' cs'∧cs'.Perm bs:=by
  intro x hx;simp only[List.mem_cons,List.not_mem_nil,or_false]at hx
  rcases hx with rfl | rfl | rfl
  ·exact⟨l,bs,rfl,k_l.mono gG,.refl _⟩
  ·exact⟨L,cs,rfl,k_L,pm⟩
  ·exact⟨z,_,rfl,k_z,List.reverse_perm bs⟩
 refine U0 (xs:=[V.ref l,.ref L,.ref z]) (fun i σ H'=>∃o6:Option V,σ=[some (.ref a),some (.int room),some v,some (.ref r),some (.ref q),some (.ref l),o6,none,none,none]∧Wl a T1 T2 H'∧Same (w3 a T1 T2 H8) (w3 a T1 T2 H')) ⟨_,rfl,wl,Same.refl _⟩ ?_ ?_ ?_
 ·rintro i σ H' _ ⟨_,_,_,g⟩;exact SqL.of (Z8 _ _ (g _ _ dG))
 ·clear wl;rintro i x σ H' N B1 R hN hR hx ⟨o6,rfl,wl,g⟩;obtain⟨l',cs',rfl,k',pm'⟩:=each x (wZ hx);have ll':=pm'.length_eq;refine⟨_,rfl,_,rfl,_,rfl,r,q,l',t.all,Y,cs',rfl,(k_r.mono (gG.trans g)).mono Z8,by omega,(Af.mono (gG.trans g)).mono Z8,md,tot0,(k'.mono g).mono Z8,by omega,fun b hb=>bv b (pm'.mem_iff.mp hb),fun H9 g9=>?_⟩;rw[yes pm'];refine⟨true,rfl,rfl,_,rfl,Yu ?_⟩;obtain⟨wl,sm⟩:=wl.same g9;exact hN _ _ ⟨_,rfl,wl,g.trans sm⟩
 clear wl;rintro σ H9 ⟨o6,rfl,wl,g⟩;have gG:=gG.trans g;clear g each k_L k_z dG;refine⟨_,(Z2 (Ye (Zs (oJ hr.units) (pv 5) (Y4 Z1) (Zl _)) (Z6 (Zd (X5 m7 (Z4 bQ hr (Z0 (pv 3) (Z0 (pv 4) (Z0 (Y4 (Z0 (Yh (Z0 (Yh (Z0 Wf (Z0 Wf Z1))) (Z0 Z3 Z1))) Z1)) Z1)))) X6 (Zl _)))) Zq) Zu),?_⟩;refine⟨_,rfl,leN rfl,fun e n_e=>?_⟩;generalize hz:upd _ e _=G1;revert G1;refine blk ?_;intro G1 hz;obtain⟨wl,sm,e_e⟩:=wl.lay hz n_e;have gG:=gG.trans sm;clear sm hz n_e;refine⟨_,_,((k_l.mono gG).mono Z8).dv,.lst (Z8 _ _ e_e) .nil,Xu (W8 wB) (by decide),Xu (W8 (bs:=[]) (fun _ h=>nomatch h)) (by decide),?_⟩;rw[show PyData.eqv (jg bs) (.list [])=bs.isEmpty by unfold jg;rw[qY];cases bs <;> rfl];clear e_e;by_cases b0:bs=[]
 ·have lt0:Y.lt=0:=by rw[←sh.lt,b0];rfl
  rw[show bs.isEmpty=true by rw[b0];rfl];refine⟨_,rfl,Wg ?_⟩;refine⟨_,rfl,_,rfl,leN rfl,fun c1 n1=>?_⟩;generalize hz:upd _ c1 _=G2;revert G2;refine blk ?_;intro G2 hz;obtain⟨wl,sm,e1⟩:=wl.lay hz n1;have gG:=gG.trans sm;clear sm hz n1;refine⟨leN rfl,fun c2 n2=>?_⟩;generalize hz:upd _ c2 _=G3;revert G3;refine blk ?_;intro G3 hz;obtain⟨wl,sm,e2⟩:=wl.lay hz n2;have gG:=gG.trans sm;have e1:=sm _ _ e1;clear sm hz n2;refine⟨leN rfl,fun c3 n3=>?_⟩;generalize hz:upd _ c3 _=G4;revert G4;refine blk ?_;intro G4 hz;obtain⟨wl,sm,e3⟩:=wl.lay hz n3;have gG:=gG.trans sm;have e1:=sm _ _ e1;have e2:=sm _ _ e2;clear sm hz n3;refine⟨r,q,c3,t.all,Y,[(["a","b"],1)],rfl,(k_r.mono gG).mono Z8,by omega,(Af.mono gG).mono Z8,md,tot0,⟨_,Z8 _ _ e3,.cons (Z8 _ _ e2) (Z8 _ _ e1) .nil⟩,by decide,fun b hb=>by rw[wR.mp hb];exact ab_v,fun H10 g10=>?_⟩;rw[Nf (by rw[lt0];decide)];refine⟨false,rfl,rfl,?_⟩;obtain⟨wl,sm⟩:=wl.same g10;exact hq _ wl (gg.trans (gG.trans sm))
 rw[show bs.isEmpty=false by cases bs with | nil=>exact absurd rfl b0 | cons=>rfl];have bp:0<bs.length:=List.length_pos_iff.mpr b0;refine⟨_,rfl,Yu ?_⟩;refine⟨_,(Z2 (Y8 7 Yi.nd rfl (Or.inl rfl) (Z4 ak hr (Z0 (pv 0) (Z0 (Zg Zt rfl aE xZ (Z0 (pv 5) Z1)) Z1)))) Zu),?_⟩;refine⟨_,rfl,_,rfl,l,xs,rfl,.inl (SqL.of (Z8 _ _ (gG _ _ Ae))),a,_,rfl,wl.pen,by omega,by omega,fun d G2 x0 x1 hp g=>?_⟩;obtain⟨wl,sm⟩:=wl.grw hp g;have gG:=gG.trans sm;clear sm hp g;obtain⟨j,rfl⟩:=Int.eq_ofNat_of_zero_le x0;have jl:j<xs.length:=by omega
 obtain⟨x,hx⟩:∃x,xs[j]?=some x:=⟨_,xj jl⟩;obtain⟨c,mk,b,rfl,hb,ec,em⟩:=kb.get hx;have mb:=wZ hb;have pb:=pos b mb;have ms:=pS bs j hb;refine⟨_,(Z2 (W0 (Yz Tc (pv 5) (pv 7)) (X9 rfl (Za (Z7 (i:=8) Yi.nd rfl (Or.inl rfl)) (Za (Z7 (i:=9) Yi.nd rfl (Or.inl rfl)) Y6)))) Zu),?_⟩;refine⟨_,rfl,_,rfl,l,_,_,_,rfl,rfl,SqL.of (Z8 _ _ (gG _ _ Ae)),N1 hx,c,_,rfl,SqT.of (Z8 _ _ (gG _ _ ec)),rfl,_,_,rfl,_,_,rfl,rfl,?_⟩;have cto:cr xs none (some (j:Int))=xs.take j:=tS;have cfr:cr xs (some ((j:Int)+1)) none=xs.drop (j+1):=by
  rw[show((j:Int)+1)=((j+1:Nat):Int) by omega];exact mR
 have kt:∀{G:Hp},Same (w3 a T1 T2 G2) (w3 a T1 T2 G)→Paired (BnP (w3 a T1 T2 G)) (xs.take j) (bs.take j)∧Paired (BnP (w3 a T1 T2 G)) (xs.drop (j+1)) (bs.drop (j+1)):=fun{G} s=>⟨e9 (Tj (kb.mono (gG.trans s))) j,gj (Tj (kb.mono (gG.trans s))) (j+1)⟩;refine⟨_,(Z2 (X8 xS rfl (Zy (Y4 (Z0 (Zi Vd (Wo Uw (pv 5) Vu (Vt (pv 7))) (Wo Uw (pv 5) (Vt (Zi Zw (pv 7) Z3)) Vu)) (Z0 (Zi Vd (Zi Vd (Wo Uw (pv 5) Vu (Vt (pv 7))) (Y4 (Z0 (Yh (Z0 (pv 8) (Z0 (Zi Zw (pv 9) Z3) Z1))) Z1))) (Wo Uw (pv 5) (Vt (Zi Zw (pv 7) Z3)) Vu)) Z1)))) (Z7 (i:=6) Yi.nd rfl (Or.inl rfl))
 (Z6 (Ye (Zs qB (Z4 bQ hr (Z0 (pv 3) (Z0 (pv 4) (Z0 (pv 6) Z1)))) X6 (Zl _)) (Z6 (Zd X6)) Zq))) Zu),?_⟩
 refine⟨_,rfl,_,rfl,_,rfl,l,xs,rfl,SqL.of (Z8 _ _ (gG _ _ Ae)),fun u1 n1=>?_⟩;rw[cto];generalize hz:upd _ u1 _=G3;revert G3;refine blk ?_;intro G3 hz;obtain⟨wl,sm,dM⟩:=wl.lay hz n1;have g2:=sm;clear sm hz n1;refine⟨_,rfl,_,rfl,_,_,rfl,rfl,_,rfl,l,xs,rfl,SqL.of (Z8 _ _ (g2 _ _ (gG _ _ Ae))),fun u2 n2=>?_⟩;rw[cfr];generalize hz:upd _ u2 _=G4;revert G4;refine blk ?_;intro G4 hz;obtain⟨wl,sm,ni⟩:=wl.lay hz n2;have g2:=g2.trans sm;have dM:=sm _ _ dM;clear sm hz n2;refine⟨u1,u2,_,_,rfl,rfl,Z8 _ _ dM,Z8 _ _ ni,Zf (by rw[wT,xI];omega),fun p1 n3=>?_⟩;generalize hz:upd _ p1 _=G5;revert G5;refine blk ?_;intro G5 hz;obtain⟨wl,sm,fq⟩:=wl.lay hz n3;have g2:=g2.trans sm;clear sm hz n3 dM ni;have k1:PapAt (w3 a T1 T2 G5) p1 (bs.take j++bs.drop (j+1)):=⟨_,fq,Qe (Wn (kt g2).1 (kt g2).2)⟩;clear fq;refine⟨_,rfl,_,rfl,_,rfl,l,xs,rfl,SqL.of (Z8 _ _ (g2 _ _ (gG _ _ Ae))),fun u1 n1=>?_⟩;rw[cto];generalize hz:upd _ u1 _=G6;revert G6;refine blk ?_;intro G6 hz;obtain⟨wl,sm,dM⟩:=wl.lay hz n1;have g2:=g2.trans sm;have k1:=k1.mono sm;clear sm hz n1;refine⟨_,rfl,_,rfl,_,_,rfl,rfl,leN rfl,fun c9 n9=>?_⟩;generalize hz:upd _ c9 _=G7;revert G7;refine blk ?_;intro G7 hz;obtain⟨wl,sm,en⟩:=wl.lay hz n9;have g2:=g2.trans sm;have k1:=k1.mono sm;have dM:=sm _ _ dM;clear sm hz n9;refine⟨leN rfl,fun u3 n3=>?_⟩;generalize hz:upd _ u3 _=G8;revert G8;refine blk ?_;intro G8 hz;obtain⟨wl,sm,wq⟩:=wl.lay hz n3;have g2:=g2.trans sm;have k1:=k1.mono sm;have dM:=sm _ _ dM;have en:=sm _ _ en;clear sm hz n3;refine⟨u1,u3,_,_,rfl,rfl,Z8 _ _ dM,Z8 _ _ wq,Zf (by rw[wT,yd];omega),fun u4 n4=>?_⟩;generalize hz:upd _ u4 _=G9;revert G9;refine blk ?_;intro G9 hz;obtain⟨wl,sm,rN⟩:=wl.lay hz n4;have g2:=g2.trans sm;have k1:=k1.mono sm;have en:=sm _ _ en;clear sm hz n4 dM wq;refine⟨_,rfl,_,rfl,_,_,rfl,rfl,_,rfl,l,xs,rfl,SqL.of (Z8 _ _ (g2 _ _ (gG _ _ Ae))),fun u2 n2=>?_⟩;rw[cfr];generalize hz:upd _ u2 _=F1;revert F1;refine blk ?_;intro F1 hz;obtain⟨wl,sm,ni⟩:=wl.lay hz n2;have g2:=g2.trans sm;have k1:=k1.mono sm;have en:=sm _ _ en;have rN:=sm _ _ rN;clear sm hz n2;refine⟨u4,u2,_,_,rfl,rfl,Z8 _ _ rN,Z8 _ _ ni,Zf (by rw[wH,wT,yd,xI];omega),fun p2 n5=>?_⟩;generalize hz:upd _ p2 _=F2;revert F2;refine blk ?_;intro F2 hz;obtain⟨wl,sm,lm⟩:=wl.lay hz n5;have g2:=g2.trans sm;have k1:=k1.mono sm;have en:=sm _ _ en;clear sm hz n5 rN ni;have k2:PapAt (w3 a T1 T2 F2) p2 (bs.take j++[(b.1,b.2+1)]++bs.drop (j+1)):=⟨_,lm,Qe (Wn (Wn (kt g2).1 (.cons ⟨c9,mk,rfl,en,g2 _ _ (gG _ _ em)⟩ .nil)) (kt g2).2)⟩;clear lm en;refine⟨leN rfl,fun ll nL=>?_⟩;generalize hz:upd _ ll _=F3;revert F3;refine blk ?_;intro F3 hz;obtain⟨wl,sm,dG⟩:=wl.lay hz nL;have g2:=g2.trans sm;have k1:=k1.mono sm;have k2:=k2.mono sm;clear sm hz nL;have gG:=gG.trans g2;clear g2 kt;refine⟨ll,rfl,⟨_,SqL.of (Z8 _ _ dG)⟩,?_⟩;have mem:∀{b'},b'∈bs.take j++bs.drop (j+1)→b'∈bs:=fun{b'} h=>(wY.mp h).elim yj zO;have each:∀x∈[V.ref p1,.ref p2],∃(l':Addr)(cs':List Bn),x=.ref l'∧PapAt (w3 a T1 T2 F3) l' cs'∧cs'.length≤701∧(∀b∈cs',BnV b)∧(cs'.map (·.2)).sum≠Y.lt:=by
  intro x hx;simp only[List.mem_cons,List.not_mem_nil,or_false]at hx
  rcases hx with rfl | rfl
  ·refine⟨p1,_,rfl,k1,by rw[wH,wT,xI];omega,fun b' hb'=>bv b' (mem hb'),?_⟩;rw[←sh.lt];omega
  ·refine⟨p2,_,rfl,k2,by rw[wH,wH,wT,yd,xI];omega,fun b' hb'=>?_,?_⟩
   ·rcases wY.mp hb' with hb' | hb'
    ·rcases wY.mp hb' with hb' | hb'
     ·exact bv b' (yj hb')
     ·rw[wR.mp hb'];have v:=bv b mb;exact⟨v.w,v.l1,v.l2⟩
    ·exact bv b' (zO hb')
   ·rw[←sh.lt,←ms,wO,wO,wO,x8,x8,x8];show _+(b.2+1+0)+_≠_;omega
 refine U0 (xs:=[V.ref p1,.ref p2]) (fun i σ H'=>∃o6:Option V,σ=[some (.ref a),some (.int room),some v,some (.ref r),some (.ref q),some (.ref l),o6,some (.int (j:Int)),some (.ref mk),some (.int b.2)]∧Wl a T1 T2 H'∧Same (w3 a T1 T2 F3) (w3 a T1 T2 H')) ⟨_,rfl,wl,Same.refl _⟩ ?_ ?_ ?_
 ·rintro i σ H' _ ⟨_,_,_,g⟩;exact SqL.of (Z8 _ _ (g _ _ dG))
 ·clear wl;rintro i x σ H' N B1 R hN hR hx ⟨o6,rfl,wl,g⟩;obtain⟨l',cs',rfl,k',ln',bv',ne'⟩:=each x (wZ hx);refine⟨_,rfl,_,rfl,_,rfl,r,q,l',t.all,Y,cs',rfl,(k_r.mono (gG.trans g)).mono Z8,by omega,(Af.mono (gG.trans g)).mono Z8,md,tot0,(k'.mono g).mono Z8,by omega,bv',fun H9 g9=>?_⟩;rw[Nf ne'];refine⟨false,rfl,rfl,_,rfl,Yu ?_⟩;obtain⟨wl,sm⟩:=wl.same g9;exact hN _ _ ⟨_,rfl,wl,g.trans sm⟩
 clear wl;rintro σ F4 ⟨o6,rfl,wl,g⟩;have gG:=gG.trans g;clear g each k1 k2 dG;refine⟨_,(Z6 (Zd (X5 m7 (Z4 bQ hr (Z0 (Zi Vd (pv 3) (Y4 (Z0 (Yh (Z0 Z3 (Z0 Wf (Z0 Z3 (Z0 Z3 Z1))))) Z1))) (Z0 (pv 4) (Z0 (pv 5) Z1)))) X6 (Zl _)))),?_⟩;refine⟨_,rfl,leN rfl,fun c1 n1=>?_⟩;generalize hz:upd _ c1 _=F5;revert F5;refine blk ?_;intro F5 hz;obtain⟨wl,sm,e1⟩:=wl.lay hz n1;have gG:=gG.trans sm;clear sm hz n1;refine⟨leN rfl,fun c2 n2=>?_⟩;generalize hz:upd _ c2 _=F6;revert F6;refine blk ?_;intro F6 hz;obtain⟨wl,sm,e2⟩:=wl.lay hz n2;have gG:=gG.trans sm;have e1:=sm _ _ e1;clear sm hz n2;refine⟨r,c2,zs,_,rfl,rfl,Z8 _ _ (gG _ _ e_r),Z8 _ _ e2,Zf (by rw[yd];omega),fun c3 n3=>?_⟩;generalize hz:upd _ c3 _=F7;revert F7;refine blk ?_;intro F7 hz;obtain⟨wl,sm,e3⟩:=wl.lay hz n3;have gG:=gG.trans sm;have e1:=sm _ _ e1;clear sm hz n3;refine⟨_,rfl,_,rfl,c3,q,l,t.all++[⟨0,"eaaaq",0,1⟩],Y,bs,rfl,.lst (Z8 _ _ e3) ?_,by rw[wH,yd];omega,(Af.mono gG).mono Z8,md,tot0,(k_l.mono gG).mono Z8,by omega,bv,fun H9 g9=>?_⟩
 ·rw[wO];exact((dx.mono gG).mono Z8).append (.cons (Th.dv (t:=⟨0,"eaaaq",0,1⟩) (Z8 _ _ e1)) .nil)
 rw[kI (by rw[wO,x8,sh.tot];show Y.total+(1+0)≠_;omega)];refine⟨false,rfl,rfl,?_⟩;obtain⟨wl,sm⟩:=wl.same g9;exact hq _ wl (gg.trans (gG.trans sm))
def n6:Sp:=fun vs H Q _=>∃(a:Addr),vs=[.ref a]∧PenAt H a∧∀(m:Int)(H':Hp),1≤m→m≤20→PenAt H' a→Grw a H H'→Q (.int m) H'
def jS(K:W.Frag)(T1 T2:Addr):Sp:=fun vs H Q _=>∃(a:Addr)(ns:List Int),vs=[.ref a]∧SqL K H a (ns.map V.int)∧ns.length≤63∧rP T1 H∧rf T2 H∧∀H',Q (.bl true) H'
theorem V6{K:W.Frag}{H H':Hp}{a:Addr}{xs:List V}(s:Same H H')(h:SqL K H a xs):SqL K H' a xs:=by
 rcases h with h | h
 ·rcases h with h | ⟨o,h⟩
  ·exact .inl (.inl (s _ _ h))
  ·exact .inl (.inr ⟨o,s _ _ h⟩)
 ·exact .inr h
theorem N4:∀{t:Tr},t.Ok→∀x∈t.all,x.Ok:=by
 intro t
 induction t with
 |leaf ts=>exact fun h x hx=>h x hx
 |node l r hl hr=>exact fun h x hx=>(wY.mp hx).elim (hl h.1 x) (hr h.2 x)
theorem uU{K:W.Frag}{a T1 T2 S:Addr}{xs:List V}{H H1:Hp}(h:SqL K H S xs)(l1:rP T1 H)(l2:rf T2 H)(n:H a=none)(s:Same H H1):SqL K (w3 a T1 T2 H1) S xs:=by
 rcases h with(e | ⟨o,e⟩) | e
 ·refine .inl (.inl (Qz (s _ _ e) (fun z=>by rw[z,n]at e;cases e) (fun z=>(Wb l1).1 _ (by rw[←z];exact e)) (fun z=>(Wb l2).1 _ (by rw[←z];exact e))))
 ·refine .inl (.inr ⟨o,Qz (s _ _ e) (fun z=>by rw[z,n]at e;cases e) (fun z=>?_) (fun z=>?_)⟩)
  ·rcases l1.tab with f | ⟨_,f,_⟩ <;> (rw[z,f]at e;cases e)
  ·rcases l2.tab with f | ⟨_,f,_⟩ <;> (rw[z,f]at e;cases e)
 ·exact .inr e
theorem jR{a:Addr}{H:Hp}(h:PenAt H a):∀{ts:List Th}{xs:List V},DVs H xs (ts.map Th.D)→DVs (am a H) xs (ts.map Th.D)
 | [],xs,d=>by
  have:=DVs.nil_inv d;subst this;exact .nil
 |t::ts,xs,d=>by
  obtain⟨x,r,rfl,_,d2⟩:=DVs.cons_inv d;obtain⟨t',c,ht,rfl,e,_⟩:=DVs.th_at (i:=0) d rfl;cases ht;exact .cons (Th.dv (h.tup e)) (jR h d2)
theorem Oe{a:Addr}{H:Hp}(h:PenAt H a):∀{t:Tr}{v:V},DV H v t.D→DV (am a H) v t.D
 |.leaf ts,v,d=>by
  obtain⟨b,xs,rfl,eb,qb⟩:=DV.list_inv d;have ne:b≠a:=fun z=>by
   obtain⟨p,q,r,ea⟩:=h;rw[z,ea]at eb;cases eb;obtain⟨_,_,_,e,_⟩:=DVs.th_at (i:=0) qb rfl;cases e
  exact .lst (by rw[Ze ne];exact eb) (jR h qb)
 |.node l r,v,d=>by
  obtain⟨b,xs,rfl,e,q⟩:=DV.tup_inv d;obtain⟨m,r1,rfl,hm,q1⟩:=q.cons_inv;obtain⟨x,r2,rfl,hx,q2⟩:=q1.cons_inv;obtain⟨y,r3,rfl,hy,q3⟩:=q2.cons_inv;have:=q3.nil_inv;subst this;cases hm;exact .tup (h.tup e) (.cons (.str _) (.cons (Oe h hx) (.cons (Oe h hy) .nil)))
def FB(H:Hp)(a:Addr)(b:Bn):Prop:=∃c:Addr,H a=some (.tup [.ref c,.int b.2])∧H c=some (.tup (b.1.map V.str))
theorem qJ{H:Hp}{xs:List V}{bs:List Bn}(h:BnsAt H xs bs):∃as:List Addr,xs=as.map V.ref∧Paired (FB H) as bs:=by
 induction h with
 |nil=>exact⟨[],rfl,.nil⟩
 |cons h e _ ih=>
  obtain⟨as,rfl,p⟩:=ih;exact⟨_::as,rfl,.cons ⟨_,h,e⟩ p⟩
theorem kw{H:Hp}{as:List Addr}{bs:List Bn}(h:Paired (FB H) as bs):BnsAt H (as.map V.ref) bs:=by
 induction h with
 |nil=>exact .nil
 |cons h _ ih=>
  obtain⟨c,e1,e2⟩:=h;exact .cons e1 e2 ih
theorem n8{α β:Type}{R:α→β→Prop}{as cs:List α}(p:cs.Perm as):∀{bs:List β},Paired R as bs→∃ds,Paired R cs ds∧ds.Perm bs:=by
 induction p with
 |nil=>intro bs h;exact⟨bs,h,.refl _⟩
 |cons x _ ih=>
  intro bs h;cases h with
  |cons a r=>
   obtain⟨ds,d1,d2⟩:=ih r;exact⟨_::ds,.cons a d1,d2.cons _⟩
 |swap x y l=>
  intro bs h;cases h with
  |cons a r=>
   cases r with
   |cons b r=>exact⟨_::_::_,.cons b (.cons a r),.swap _ _ _⟩
 |trans _ _ i1 i2=>
  intro bs h;obtain⟨d1,a1,b1⟩:=i2 h;obtain⟨d2,a2,b2⟩:=i1 a1;exact⟨d2,a2,b2.trans b1⟩
theorem i7{H:Hp}{a:Addr}{b:Bn}(h:FB H a b):FBn H a (bnK b):=let ⟨c,e1,e2⟩:=h;⟨c,b.1,b.2,e1,e2,rfl⟩
theorem oD{α β:Type}{R:α→β→Prop}{xs:List α}{ys:List β}(h:Paired R xs ys):∀{i:Nat}{y:β},ys[i]?=some y→∃x,xs[i]?=some x∧R x y:=by
 induction h with
 |nil=>intro i x e;rw[List.getElem?_nil]at e;cases e
 |cons a _ ih=>
  intro i x e;cases i with
  |zero=>
   rw[List.getElem?_cons_zero]at e;cases e;exact⟨_,rfl,a⟩
  |succ i=>exact ih (by rw[List.getElem?_cons_succ]at e;exact e)
theorem tG{H:Hp}{as:List Addr}{bs:List Bn}(h:Paired (FB H) as bs):(as.Pairwise fun a b=>∀k l,FBn H a k→FBn H b l→(cg (cW strO) cV).blt l k=false)→bs.Pairwise fun a b=>(cg (cW strO) cV).blt (bnK b) (bnK a)=false:=by
 induction h with
 |nil=>exact fun _=>.nil
 | @cons a as b bs h r ih=>
  intro w;rw[xc]at w⊢;refine⟨fun y hy=>?_,ih w.2⟩;obtain⟨i,hi⟩:=List.getElem?_of_mem hy;obtain⟨a',ha',r'⟩:=oD r hi;exact w.1 a' (wZ ha') _ _ (i7 h) (i7 r')
theorem Nd{H:Hp}{l:Addr}{bs:List Bn}(h:PapAt H l bs):∃as:List Addr,H l=some (.lst (as.map V.ref))∧as.length=bs.length∧(∀a∈as,∃k,FBn H a k)∧∀cs:List Addr,cs.Perm as→(cs.Pairwise fun a b=>∀k l,FBn H a k→FBn H b l→(cg (cW strO) cV).blt l k=false)→∃ds:List Bn,Paired (FB H) cs ds∧ds.Perm bs∧ds.Pairwise fun a b=>(cg (cW strO) cV).blt (bnK b) (bnK a)=false:=by
 obtain⟨xs,e,r⟩:=h;obtain⟨as,rfl,pr⟩:=qJ r;refine⟨as,e,zB pr,fun a ha=>?_,fun cs pm pw=>?_⟩
 ·obtain⟨i,hi⟩:=List.getElem?_of_mem ha;obtain⟨b,_,h⟩:=pW pr hi;exact⟨_,i7 h⟩
 ·obtain⟨ds,d1,d2⟩:=n8 pm pr;exact⟨ds,d1,d2,tG d1 pw⟩
theorem qj(ak:Has P w K mg base "_law_draw" 1 ["_law_pen_here","_law_size"] bC)(F:Fun K "_law_room" "_law_room" dH f fd):FnOk P w K mg base CX0 2 f fd ["_law_pen_here"] n6:=by
 refine F.ok kK (fun vs H Q E h=>?_) (fun cdv A outer s H vs Q E hr h=>?_)
 ·obtain⟨a,rfl,_⟩:=h;rfl
 obtain⟨a,rfl,hp,hq⟩:=h;refine⟨_,(Z6 (Zd (Yz Tc (Y4 (Z0 Z3 (Z0 Z3 (Z0 Z3 (Z0 (Zi Zw Z3 (Z4 ak hr (Z0 (pv 0) (Z0 Z3 Z1)))) Z1))))) (Z4 ak hr (Z0 (pv 0) (Z0 Z3 Z1)))))),?_⟩;refine⟨_,rfl,a,20,rfl,hp,W4 rfl,ltI rfl,fun d1 H1 x0 x1 hp1 g1=>⟨_,_,rfl,rfl,?_⟩⟩;have x1:d1<20:=x1;refine⟨leN rfl,fun p hn=>⟨_,rfl,a,4,rfl,hp1.laid hn,W4 rfl,ltI rfl,fun d2 H2 y0 y1 hp2 g2=>?_⟩⟩;have hpa:=hp1.ne hn;have e2:H2 p=some (.lst [.int 1,.int 2,.int 3,.int (1+d1)]):=Sk g2 hpa Z5;obtain⟨v,hv,hm⟩:=N2 (xs:=[V.int 1,.int 2,.int 3,.int (1+d1)]) y0 y1;refine⟨p,_,_,v,rfl,rfl,SqL.of e2,hv,?_⟩;have gg:=g1.trans ((Yr hn).trans g2);simp only[List.mem_cons,List.not_mem_nil,or_false]at hm
 rcases hm with rfl | rfl | rfl | rfl
 ·exact hq _ _ (by decide) (by decide) hp2 gg
 ·exact hq _ _ (by decide) (by decide) hp2 gg
 ·exact hq _ _ (by decide) (by decide) hp2 gg
 ·exact hq _ _ (by omega) (by omega) hp2 gg
theorem sQ{T1 T2:Addr}(nT:T1≠T2)(eN:Has P w K mg base "_law_pen" 1 ["_law_script","_law_k"] (sk K))(ak:Has P w K mg base "_law_draw" 1 ["_law_pen_here","_law_size"] bC)(qc:Has P w K mg base "_law_room" 2 ["_law_pen_here"] n6)(ci:Has P w K mg base "_law_tree" 8 ["_law_pen_here","_law_marks","_law_deep","_law_most","_law_parts"] (eZ 4))(kT:Has P w K mg base "_law_shown" 9 ["_law_pen_here","_law_room_here","_law_tree_here"] (wy T1 T2))(bX:Has P w K mg base "bunches_of" 3 ["one","other"] ke)(aZ:Has P w K mg base "grown_tally" 8 ["room","tree"] (ua T1))(aH:Has P w K mg base "tally_paper" 8 ["room","tree"] (uG T2))(aG:mg "sorted"=none)(F:Fun K "law" "law" cY f fd):FnOk P w K mg base CX0 20 f fd ["_law_script"] (jS K T1 T2):=by
 refine F.ok Xz (fun vs H Q E h=>?_) (fun cdv A outer s H vs Q E hr h=>?_)
 ·obtain⟨a,ns,rfl,_⟩:=h;rfl
 obtain⟨S,ns,rfl,hS,h63,lam1,lam2,hq⟩:=h;refine⟨_,(Z2 (Y8 1 Xz.nd rfl (Or.inl rfl) (Z4 eN hr (Z0 (pv 0) (Z0 Z3 Z1)))) Zu),?_⟩;refine⟨_,rfl,S,ns,0,rfl,hS,by omega,fun a H1 na s1 hp=>?_⟩;have wl:Wl a T1 T2 H1:=⟨hp,lam1.mono s1,lam2.mono s1,nT⟩;have hS:=uU hS lam1 lam2 na s1;clear hp lam1 lam2 s1 na;refine⟨_,(Z2 (Y8 2 Xz.nd rfl (Or.inl rfl) (Zi Zw Z3 (Z4 ak hr (Z0 (pv 1) (Z0 Z3 Z1))))) Zu),?_⟩;refine⟨_,rfl,a,11,rfl,wl.pen,W4 rfl,ltI rfl,fun x1 H2 x10 x11 hp g2=>⟨_,_,rfl,rfl,?_⟩⟩;have x11:x1<11:=x11;obtain⟨wl,sm⟩:=wl.grw hp g2;have hS:=V6 sm hS;clear sm hp g2;refine⟨_,(Z2 (Y8 3 Xz.nd rfl (Or.inl rfl) (Z4 qc hr (Z0 (pv 1) Z1))) Zu),?_⟩;refine⟨_,rfl,a,rfl,wl.pen,fun room H3 r0 r1 hp g3=>?_⟩;obtain⟨wl,sm⟩:=wl.grw hp g3;have hS:=V6 sm hS;clear sm hp g3;refine⟨_,(Z2 (Ye (Zs Ri (pv 3) Z3 (Zl _)) (Z6 (Y8 2 Xz.nd rfl (Or.inl rfl) Z3)) Zq) Zu),?_⟩;refine pe (fun σ H'=>∃few:Int,σ=[some (.ref S),some (.ref a),some (.int few),some (.int room),none,none,none,none,none,none]∧0<few∧few<100∧H'=H3) (fun nx hnx=>?_) ?_
 ·refine⟨_,rfl,_,_,rfl,rfl,_,rfl,V2 (fun _=>?_) (fun _=>?_)⟩
  ·exact hnx _ _ ⟨26,rfl,by decide,by decide,rfl⟩
  ·exact hnx _ _ ⟨2+x1,rfl,by omega,by omega,rfl⟩
 rintro σ H' ⟨few,rfl,f0,f1,rfl⟩;refine⟨_,(Z2 (Y8 4 Xz.nd rfl (Or.inl rfl) (Z4 ci hr (Z0 (Z4 eN hr (Z0 (pv 0) (Z0 Z3 Z1))) (Z0 (pv 2) (Z0 Z3 (Z0 Z3 (Z0 Z3 Z1))))))) Zu),?_⟩;refine⟨_,rfl,S,ns,1,rfl,V6 Z8 hS,by omega,fun b G1 nb s1 hpb=>?_⟩;refine⟨_,rfl,b,few,4,10,4,rfl,hpb,by omega,by omega,by decide,by decide,by decide,by decide,by decide,by decide,by decide,fun v1 t1 G2 tok1 _ tsz1 tht1 tal1 dv1 _ g2=>?_⟩;obtain⟨wl,sm⟩:=wl.fresh nb s1 g2;have hS:=V6 sm hS;have dv1:=wl.dv (Oe wl.pen (dv1.mono Yd));clear sm nb s1 hpb g2;refine⟨_,(Z2 (Y8 5 Xz.nd rfl (Or.inl rfl) (Z4 ci hr (Z0 (Z4 eN hr (Z0 (pv 0) (Z0 Z3 Z1))) (Z0 (pv 2) (Z0 Z3 (Z0 Z3 (Z0 Z3 Z1))))))) Zu),?_⟩;refine⟨_,rfl,S,ns,2,rfl,V6 Z8 hS,by omega,fun b G3 nb s1 hpb=>?_⟩;refine⟨_,rfl,b,few,4,10,4,rfl,hpb,by omega,by omega,by decide,by decide,by decide,by decide,by decide,by decide,by decide,fun v2 t2 G4 tok2 _ tsz2 tht2 tal2 dv2 _ g2=>?_⟩;obtain⟨wl,sm⟩:=wl.fresh nb s1 g2;have dv1:=dv1.mono sm;have dv2:=wl.dv (Oe wl.pen (dv2.mono Yd));clear sm nb s1 hpb g2 hS;have w1:∀x∈t1.all,ThW x:=fun x hx=>⟨(N4 tok1 x hx).word,(N4 tok1 x hx).many⟩;have w2:∀x∈t2.all,ThW x:=fun x hx=>⟨(N4 tok2 x hx).word,(N4 tok2 x hx).many⟩;have tl1:t1.all.length≤40:=by omega
 have tl2:t2.all.length≤40:=by omega
 have sz1:t1.size≤7:=by omega
 have sz2:t2.size≤7:=by omega
 have ht1:t1.ht<4:=by omega
 have ht2:t2.ht<4:=by omega
 clear tsz1 tht1 tal1 tok1 tsz2 tht2 tal2 tok2;have wn:∀{l r:Tr},(∀x∈l.all,ThW x)→(∀x∈r.all,ThW x)→∀x∈(Tr.node l r).all,ThW x:=fun{l r} hl hr x hx=>(wY.mp (show x∈l.all++r.all from hx)).elim (hl x) (hr x);have w3':=wn w1 w2;have al3:(Tr.node t1 t2).all.length≤80:=by
  show(t1.all++t2.all).length≤80;rw[wH];omega
 have sz3:(Tr.node t1 t2).size≤15:=by show t1.size+t2.size+1≤15;omega
 have ht3:(Tr.node t1 t2).ht≤5:=by show max t1.ht t2.ht+1≤5;omega
 have al4:(Tr.node t2 t1).all.length≤80:=by
  show(t2.all++t1.all).length≤80;rw[wH];omega
 have sz4:(Tr.node t2 t1).size≤15:=by show t2.size+t1.size+1≤15;omega
 refine⟨_,(Z2 (Y8 6 Xz.nd rfl (Or.inl rfl) (Yh (Z0 Wf (Z0 (pv 4) (Z0 (pv 5) Z1))))) Zu),?_⟩;refine⟨_,rfl,_,rfl,leN rfl,fun bt nbt=>?_⟩;generalize hz:upd _ bt _=G5;revert G5;refine blk ?_;intro G5 hz;obtain⟨wl,sm,wa⟩:=wl.lay hz nbt;obtain⟨G,gG,DV1,DV2,DV3⟩:∃G:Hp,Same G (w3 a T1 T2 G5)∧DV G v1 t1.D∧DV G v2 t2.D∧DV G (.ref bt) (Tr.node t1 t2).D:=⟨_,Same.refl _,dv1.mono sm,dv2.mono sm,.tup wa (.cons (.str _) (.cons (dv1.mono sm) (.cons (dv2.mono sm) .nil)))⟩;clear sm hz nbt wa dv1 dv2;refine⟨_,(Z2 (X8 xS rfl (Zy (Y4 (Z0 (pv 4) (Z0 (pv 5) (Z0 (pv 6) (Z0 (Yh (Z0 Wf (Z0 (pv 6) (Z0 (Y4 Z1) Z1)))) Z1)))))) (Z7 (i:=7) Xz.nd rfl (Or.inl rfl))
 (Z6 (Ye (X7 (X4 (Z4 kT hr (Z0 (pv 1) (Z0 (pv 3) (Z0 (pv 7) Z1)))))) (Z6 (Zd X6)) Zq))) Zu),?_⟩
 refine⟨_,rfl,_,rfl,_,rfl,_,rfl,leN rfl,fun c1 n1=>?_⟩;generalize hz:upd _ c1 _=G6;revert G6;refine blk ?_;intro G6 hz;obtain⟨wl,sm,e1⟩:=wl.lay hz n1;have gG:=gG.trans sm;clear sm hz n1;refine⟨leN rfl,fun c2 n2=>?_⟩;generalize hz:upd _ c2 _=G7;revert G7;refine blk ?_;intro G7 hz;obtain⟨wl,sm,e2⟩:=wl.lay hz n2;have gG:=gG.trans sm;have e1:=sm _ _ e1;clear sm hz n2;refine⟨leN rfl,fun ll n3=>?_⟩;generalize hz:upd _ ll _=G8;revert G8;refine blk ?_;intro G8 hz;obtain⟨wl,sm,dG⟩:=wl.lay hz n3;have gG:=gG.trans sm;have e1:=sm _ _ e1;have e2:=sm _ _ e2;clear sm hz n3;refine⟨ll,rfl,⟨_,SqL.of (Z8 _ _ dG)⟩,?_⟩;have each:∀x∈[v1,v2,V.ref bt,.ref c2],∃t:Tr,DV (w3 a T1 T2 G8) x t.D∧t.ht≤50∧t.size≤30∧t.all.length≤100∧∀y∈t.all,ThW y:=by
  intro x hx;simp only[List.mem_cons,List.not_mem_nil,or_false]at hx
  rcases hx with rfl | rfl | rfl | rfl
  ·exact⟨t1,DV1.mono gG,by omega,by omega,by omega,w1⟩
  ·exact⟨t2,DV2.mono gG,by omega,by omega,by omega,w2⟩
  ·exact⟨_,DV3.mono gG,by omega,by omega,by omega,w3'⟩
  ·refine⟨.node (.node t1 t2) (.leaf []),.tup e2 (.cons (.str _) (.cons (DV3.mono gG) (.cons (.lst e1 .nil) .nil))),by show max (Tr.node t1 t2).ht 0+1≤50;omega,by show(Tr.node t1 t2).size+1+1≤30;omega,?_,wn w3' fun _ h=>nomatch h⟩;show((Tr.node t1 t2).all++[]).length≤100;rw[xF];omega
 refine U0 (xs:=[v1,v2,V.ref bt,.ref c2]) (fun i σ H'=>∃o7:Option V,σ=[some (.ref S),some (.ref a),some (.int few),some (.int room),some v1,some v2,some (.ref bt),o7,none,none]∧Wl a T1 T2 H'∧Same (w3 a T1 T2 G8) (w3 a T1 T2 H')) ⟨_,rfl,wl,Same.refl _⟩ ?_ ?_ ?_
 ·rintro i σ H' _ ⟨_,_,_,g⟩;exact SqL.of (Z8 _ _ (g _ _ dG))
 ·clear wl;rintro i x σ H' N B1 R hN hR hx ⟨o7,rfl,wl,g⟩;obtain⟨t,k,b1,b2,b3,b4⟩:=each x (wZ hx);exact⟨_,rfl,_,rfl,_,rfl,a,x,room,t,rfl,wl,k.mono g,r0,r1,b1,b2,b3,b4,fun H9 wl sm=>⟨_,rfl,Yu (hN _ _ ⟨_,rfl,wl,g.trans sm⟩)⟩⟩
 clear wl;rintro σ G9 ⟨o7,rfl,wl,g⟩;have gG:=gG.trans g;clear g each e1 e2 dG;have tw1:=Xj w1;have tw2:=Xj w2;have tw3:=Xj w3';have tw4:=Xj (wn w2 w1);have k1:=Yx r0 r1 tw1;have k2:=Yx r0 r1 tw2;have kw1:=k1.w;have kw2:=k2.w;have ok1:=k1.ok;have ok2:=k2.ok;have rm:=k1.rm.trans k2.rm.symm;have f3:=Vk r0 r1 tw3;have f4:=Vk r0 r1 tw4;have f1':=Vk r0 r1 tw1;have f2':=Vk r0 r1 tw2;have kb:=iL ok1 ok2;have bl:=Vn ok1 ok2;have com:=gZ ok1 ok2 rm;have e3:(au room (.node t1 t2)).2=(au room t1).2++(au room t2).2++aA (au room t1).1 (au room t2).1:=rfl;have e4:(au room (.node t2 t1)).2=(au room t2).2++(au room t1).2++aA (au room t2).1 (au room t1).1:=rfl;have p43:(au room (.node t2 t1)).2.Perm (au room (.node t1 t2)).2:=by
  rw[e3,e4,←com];exact(List.perm_append_comm).append_right _
 have kw3:∀b∈(au room (.node t1 t2)).2,BnW b:=(Yx r0 r1 tw3).w;clear k1 k2;refine⟨_,(Z2 (Y8 8 Xz.nd rfl (Or.inl rfl) (Z4 bX hr (Z0 (Z4 aZ hr (Z0 (pv 3) (Z0 (pv 4) Z1))) (Z0 (Z4 aZ hr (Z0 (pv 3) (Z0 (pv 5) Z1))) Z1)))) Zu),?_⟩;refine⟨_,rfl,_,rfl,v1,room,t1,rfl,r0,r1,(DV1.mono gG).mono Z8,by omega,by omega,tw1,wl.l1,fun q1 H4 g4 l4 kq1=>?_⟩;obtain⟨wl,sm⟩:=wl.tt1 g4 l4;have gG:=gG.trans sm;have kq1:=wl.ty kq1;clear sm g4 l4;refine⟨_,rfl,_,rfl,v2,room,t2,rfl,r0,r1,(DV2.mono gG).mono Z8,by omega,by omega,tw2,wl.l1,fun q2 H5 g5 l5 kq2=>?_⟩;obtain⟨wl,sm⟩:=wl.tt1 g5 l5;have gG:=gG.trans sm;have kq1:=kq1.mono sm;have kq2:=wl.ty kq2;clear sm g5 l5;rw[←p9]at kq1 kq2;refine⟨q1,q2,_,_,rfl,kq1.mono Z8,kq2.mono Z8,ok1,ok2,rm,fun le H6 g6 wv k_le=>?_⟩;have lea:=(wl.ne3 wv).1;obtain⟨wl,sm⟩:=wl.same g6;have gG:=gG.trans sm;have k_le:=wl.pap lea k_le;clear sm g6 wv kq1 kq2;refine⟨_,(Z2 (Ye (Zs (tP hr.units) (Z4 aH hr (Z0 (pv 3) (Z0 (pv 6) Z1))) (Zi Vd (Zi Vd (Z4 aH hr (Z0 (pv 3) (Z0 (pv 4) Z1))) (Z4 aH hr (Z0 (pv 3) (Z0 (pv 5) Z1)))) (pv 8)) (Zl _)) (Z6 (Zd X6)) Zq) Zu),?_⟩;refine⟨_,rfl,_,rfl,.ref bt,room,.node t1 t2,rfl,r0,r1,(DV3.mono gG).mono Z8,by omega,by omega,tw3,wl.l2,fun l3 H7 g7 l7 n7 k7=>?_⟩;have l3a:=(wl.ne3 n7).1;obtain⟨wl,sm⟩:=wl.tt2 g7 l7;have gG:=gG.trans sm;have k_le:=k_le.mono sm;have k_l3:=wl.pap l3a k7;clear sm g7 l7 n7 k7;refine⟨_,rfl,_,rfl,v1,room,t1,rfl,r0,r1,(DV1.mono gG).mono Z8,by omega,by omega,tw1,wl.l2,fun l1 H8 g7 l7 n7 k7=>?_⟩;have l1a:=(wl.ne3 n7).1;obtain⟨wl,sm⟩:=wl.tt2 g7 l7;have gG:=gG.trans sm;have k_le:=k_le.mono sm;have k_l3:=k_l3.mono sm;have k_l1:=wl.pap l1a k7;clear sm g7 l7 n7 k7;refine⟨_,rfl,_,rfl,v2,room,t2,rfl,r0,r1,(DV2.mono gG).mono Z8,by omega,by omega,tw2,wl.l2,fun l2 H9 g7 l7 n7 k7=>?_⟩;have l2a:=(wl.ne3 n7).1;obtain⟨wl,sm⟩:=wl.tt2 g7 l7;have gG:=gG.trans sm;have k_le:=k_le.mono sm;have k_l3:=k_l3.mono sm;obtain⟨x1s,e_1,b_1⟩:=k_l1.mono sm;obtain⟨x2s,e_2,b_2⟩:=wl.pap l2a k7;clear sm g7 l7 n7 k7 k_l1;have xl1:=b_1.length;have xl2:=b_2.length;refine⟨l1,l2,x1s,x2s,rfl,rfl,Z8 _ _ e_1,Z8 _ _ e_2,Zf (by omega),fun l4 n4=>?_⟩;generalize hz:upd _ l4 _=F1;revert F1;refine blk ?_;intro F1 hz;obtain⟨wl,sm,e_4⟩:=wl.lay hz n4;have gG:=gG.trans sm;have k_l3:=k_l3.mono sm;obtain⟨xes,e_e,b_e⟩:=k_le.mono sm;have b_4:=(b_1.mono sm).append (b_2.mono sm);clear sm hz n4 e_1 e_2 b_1 b_2 k_le;have xle:=b_e.length;refine⟨_,rfl,l4,le,_,xes,rfl,rfl,Z8 _ _ e_4,Z8 _ _ e_e,Zf (by rw[wH];omega),fun l5 n5=>?_⟩;generalize hz:upd _ l5 _=F2;revert F2;refine blk ?_;intro F2 hz;obtain⟨wl,sm,e_5⟩:=wl.lay hz n5;have gG:=gG.trans sm;have k_l3:=k_l3.mono sm;have k_5:PapAt (w3 a T1 T2 F2) l5 (au room (.node t1 t2)).2:=by
  rw[e3];exact⟨_,e_5,(b_4.append b_e).mono sm⟩
 clear sm hz n5 e_4 e_e e_5 b_4 b_e;refine⟨_,_,(k_l3.mono Z8).dv,(k_5.mono Z8).dv,Xu (W8 kw3) (by decide),Xu (W8 kw3) (by decide),?_⟩;rw[gQ (W8 kw3)];refine⟨_,rfl,Yu ?_⟩;clear k_l3 k_5;refine⟨_,(Z2 (Y8 9 Xz.nd rfl (Or.inl rfl) (Z4 aH hr (Z0 (pv 3) (Z0 (Yh (Z0 Wf (Z0 (pv 5) (Z0 (pv 4) Z1)))) Z1)))) Zu),?_⟩;refine⟨_,rfl,_,rfl,_,rfl,leN rfl,fun c1 n1=>?_⟩;generalize hz:upd _ c1 _=F3;revert F3;refine blk ?_;intro F3 hz;obtain⟨wl,sm,e1⟩:=wl.lay hz n1;have gG:=gG.trans sm;clear sm hz n1;refine⟨.ref c1,room,.node t2 t1,rfl,r0,r1,.tup (Z8 _ _ e1) (.cons (.str _) (.cons ((DV2.mono gG).mono Z8) (.cons ((DV1.mono gG).mono Z8) .nil))),by omega,by omega,tw4,wl.l2,fun l6 F4 g7 l7 n7 k7=>?_⟩;have l6a:=(wl.ne3 n7).1;obtain⟨wl,sm⟩:=wl.tt2 g7 l7;have gG:=gG.trans sm;have k_6:=wl.pap l6a k7;clear sm g7 l7 n7 k7 e1;refine⟨_,(Z6 (Zd (X5 (oJ hr.units) (Zg (Sf hr.units) rfl aG yt (Z0 (pv 9) Z1)) (Zg (Sf hr.units) rfl aG yt (Z0 (Z4 aH hr (Z0 (pv 3) (Z0 (pv 6) Z1))) Z1)) (Zl _)))),?_⟩;obtain⟨as1,e_6,ln1,hk1,fin1⟩:=Nd (k_6.mono Z8);refine⟨_,rfl,l6,as1,rfl,.inl e_6,by omega,hk1,fun bs1 pm1 pw1 p1 np1=>?_⟩;obtain⟨cs1,d1,pm1,pw1⟩:=fin1 bs1 pm1 pw1;have kp1:PapAt (upd F4 p1 (.lst (bs1.map V.ref))) p1 cs1:=⟨_,Z5,(kw d1).mono (Zc np1 _)⟩;have p1a:=(wl.ne3 np1).1;obtain⟨wl,sm⟩:=wl.same (Zc np1 (.lst (bs1.map V.ref)));have gG:=gG.trans sm;have kp1:=wl.pap p1a kp1;generalize upd F4 p1 (.lst (bs1.map V.ref))=F5 at wl gG kp1⊢;clear sm np1 k_6 e_6 hk1 fin1 d1;refine⟨_,rfl,_,rfl,.ref bt,room,.node t1 t2,rfl,r0,r1,(DV3.mono gG).mono Z8,by omega,by omega,tw3,wl.l2,fun l8 F6 g7 l7 n7 k7=>?_⟩;have l8a:=(wl.ne3 n7).1;obtain⟨wl,sm⟩:=wl.tt2 g7 l7;have kp1:=kp1.mono sm;have k_8:=wl.pap l8a k7;clear sm g7 l7 n7 k7;obtain⟨as2,e_8,ln2,hk2,fin2⟩:=Nd (k_8.mono Z8);refine⟨l8,as2,rfl,.inl e_8,by omega,hk2,fun bs2 pm2 pw2 p2 np2=>?_⟩;obtain⟨cs2,d2,pm2,pw2⟩:=fin2 bs2 pm2 pw2;have s7:=Zc np2 (.lst (bs2.map V.ref));have kp2:PapAt (upd F6 p2 (.lst (bs2.map V.ref))) p2 cs2:=⟨_,Z5,(kw d2).mono s7⟩;have eq:cs1=cs2:=uA (pm1.trans (p43.trans pm2.symm)) pw1 pw2;have lw:∀b∈cs2,BnW b:=fun b hb=>kw3 b (pm2.mem_iff.mp hb);rw[eq]at kp1;refine⟨_,_,((kp1.mono Z8).mono s7).dv,kp2.dv,Xu (W8 lw) (by decide),Xu (W8 lw) (by decide),?_⟩;rw[gQ (W8 lw)];exact hq _
end K20
namespace Hd
open PySem PySem.W
section
variable{α β:Type}
def fN(n:Nat)(k:Nat→α):α:=Nat.casesOn n (k 0) fun m=>k (Nat.succ m)
theorem U9(n:Nat)(k:Nat→α):fN n k=k n:=by cases n <;> rfl
def fV(v:Value)(k:Value→α):α:=match v with
 |.ref a=>fN a fun a=>k (.ref a)
 |.str s t=>fN t fun t=>k (.str s t)
 |.int i t=>fN t fun t=>k (.int i t)
 |v=>k v
theorem Sb(v:Value)(k:Value→α):fV v k=k v:=by cases v <;> simp only[fV,U9]
def fO(f:β→(β→α)→α)(o:Option β)(k:Option β→α):α:=match o with
 |none=>k none
 |some x=>f x fun x=>k (some x)
theorem jy{f:β→(β→α)→α}(hf:∀x k,f x k=k x)(o:Option β)(k:Option β→α):fO f o k=k o:=by cases o <;> simp only[fO,hf]
def fL(f:β→(β→α)→α)(l:List β):(List β→α)→α:=
 @List.rec β (fun _=>(List β→α)→α) (fun k=>k []) (fun x _ ih k=>f x fun x=>ih fun r=>k (x::r)) l
theorem sJ{f:β→(β→α)→α}(hf:∀x k,f x k=k x)(l:List β):∀k:List β→α,fL f l k=k l:=by
 induction l with
 |nil=>intro k;rfl
 |cons x r ih=>
  intro k;show f x (fun x=>fL f r fun r=>k (x::r))=_;rw[hf,ih]
def fA(f:β→(β→α)→α)(l:Array β)(k:Array β→α):α:=match l with
 |⟨l⟩=>fL f l fun l=>k ⟨l⟩
theorem kx{f:β→(β→α)→α}(hf:∀x k,f x k=k x)(l:Array β)(k:Array β→α):fA f l k=k l:=by
 cases l;simp only[fA,sJ hf]
def fE(e:DictEntry)(k:DictEntry→α):α:=match e with
 |⟨h,a,b⟩=>fV a fun a=>fV b fun b=>k ⟨h,a,b⟩
theorem wb(e:DictEntry)(k:DictEntry→α):fE e k=k e:=by cases e;simp only[fE,Sb]
def fF(e:FuncData)(k:FuncData→α):α:=match e with
 |⟨a,b,c,d,e,g,cl,df,kd,dc,pm,an,cd,ct,bl⟩=>fN g fun g=>fV df fun df=>fV kd fun kd=>fV dc fun dc=>fV pm fun pm=>fO fN an fun an=>fV cd fun cd=>fV ct fun ct=>fN bl fun bl=>k ⟨a,b,c,d,e,g,cl,df,kd,dc,pm,an,cd,ct,bl⟩
theorem wA(e:FuncData)(k:FuncData→α):fF e k=k e:=by cases e;simp only[fF,Sb,U9,jy U9]
def fC(e:ClassData)(k:ClassData→α):α:=match e with
 |⟨a,b,c,d,e,f,g,h,i,j,l⟩=>fL fV b fun b=>fL fV c fun c=>fN d fun d=>fL fV h fun h=>k ⟨a,b,c,d,e,f,g,h,i,j,l⟩
theorem wc(e:ClassData)(k:ClassData→α):fC e k=k e:=by cases e;simp only[fC,sJ Sb,U9]
def fD(d:Data)(k:Data→α):α:=match d with
 |.seq xs n=>fA fV xs fun xs=>fN n fun n=>k (.seq xs n)
 |.dict xs n=>fA fE xs fun xs=>fN n fun n=>k (.dict xs n)
 |.fields xs=>fA fV xs fun xs=>k (.fields xs)
 |.cell v=>fO fV v fun v=>k (.cell v)
 |.prim v=>fV v fun v=>k (.prim v)
 |.func f=>fF f fun f=>k (.func f)
 |.cls f=>fC f fun f=>k (.cls f)
 |d=>k d
theorem u9(d:Data)(k:Data→α):fD d k=k d:=by cases d <;> simp only[fD,kx Sb,kx wb,U9,jy Sb,Sb,wA,wc]
def fJ(o:Obj)(k:Obj→α):α:=match o with
 |⟨c,d,x,s⟩=>fV c fun c=>fO fN d fun d=>fD x fun x=>fA (fO fV) s fun s=>k ⟨c,d,x,s⟩
theorem sG(o:Obj)(k:Obj→α):fJ o k=k o:=by cases o;simp only[fJ,Sb,jy U9,u9,kx (jy Sb)]
def fB(t:BT):(BT→α)→α:=
 @BT.rec (fun _=>(BT→α)→α) (fun k=>k .nil) (fun v _ _ il ir k=>fJ v fun v=>il fun l=>ir fun r=>k (.node v l r)) t
theorem vO(t:BT):∀k:BT→α,fB t k=k t:=by
 induction t with
 |nil=>intro k;rfl
 |node v l r il ir=>
  intro k;show fJ v (fun v=>fB l fun l=>fB r fun r=>k (.node v l r))=_;rw[sG,il,ir]
def fR(d:Drawn)(k:Drawn→α):α:=match d with
 |⟨a,b,c,d⟩=>fN a fun a=>fN b fun b=>fN c fun c=>fN d fun d=>k ⟨a,b,c,d⟩
theorem sF(d:Drawn)(k:Drawn→α):fR d k=k d:=by cases d;simp only[fR,U9]
def fS(s:SharedT)(k:SharedT→α):α:=match s with
 |⟨t,n,life,g,d,tk,os⟩=>fB t fun t=>fN n fun n=>fR d fun d=>fN tk fun tk=>k ⟨t,n,life,g,d,tk,os⟩
theorem sE(s:SharedT)(k:SharedT→α):fS s k=k s:=by cases s;simp only[fS,vO,U9,sF]
def fP(d:Pos)(k:Pos→α):α:=match d with
 |⟨a,b,c,d⟩=>fN a fun a=>fN b fun b=>fN c fun c=>fN d fun d=>k ⟨a,b,c,d⟩
theorem vA(d:Pos)(k:Pos→α):fP d k=k d:=by cases d;simp only[fP,U9]
def fH(s:Shared)(k:Shared→α):α:=match s with
 |⟨⟨l,life⟩,g,d,tk,os⟩=>fA fJ l fun l=>fR d fun d=>fN tk fun tk=>k ⟨⟨l,life⟩,g,d,tk,os⟩
theorem vc(s:Shared)(k:Shared→α):fH s k=k s:=by obtain⟨⟨l,life⟩,g,d,tk,os⟩:=s;simp only[fH,kx sG,U9,sF]
end
section
variable{α:Type}
def hd(tb:String→Option Builtin)(p:Program)(w:World)(m:Nat)(ann:Option Value)(env:Env)(q:Pos)(F:Nat)(fin:SharedT→Code→Pos→Option α)(l:List Stmt):SharedT→Code→Pos→Option α:=
 @List.rec Stmt (fun _=>SharedT→Code→Pos→Option α) fin (fun st _ ih s c pos=>match segRunT tb p w m ann 1 F s (pieceOf st env c pos [topFrame q]) with
  |some (.next,s',c',p')=>fS s' fun s'=>fP p' fun p'=>ih s' c' p'
  |_=>none) l
theorem qR{tb:String→Option Builtin}{p:Program}{w:World}{m:Nat}{ann:Option Value}{env:Env}{q:Pos}{F:Nat}{fin:SharedT→Code→Pos→Option α}{st:Stmt}{l:List Stmt}{s:SharedT}{c:Code}{pos:Pos}{r:α}(h:hd tb p w m ann env q F fin (st::l) s c pos=some r):∃s' c' p',segRunT tb p w m ann 1 F s (pieceOf st env c pos [topFrame q])=some (.next,s',c',p')∧hd tb p w m ann env q F fin l s' c' p'=some r:=by
 have h:(match segRunT tb p w m ann 1 F s (pieceOf st env c pos [topFrame q]) with
  |some (.next,s',c',p')=>fS s' fun s'=>fP p' fun p'=>hd tb p w m ann env q F fin l s' c' p'
  |_=>none)=some r:=h
 split at h
 ·rename_i s' c' p' e;rw[sE,vA]at h;exact⟨s',c',p',e,h⟩
 ·cases h
theorem ui{tb:String→Option Builtin}{p:Program}{w:World}{n₀:Nat}{ann:Option Value}{env:Env}{q:Pos}{n N:Nat}{s s' r:Shared}{st:Stmt}{rest:List Stmt}{c c':Code}{pos p':Pos}(h:segRun tb p w n₀ ann 1 n s (pieceOf st env c pos [topFrame q])=some (.next,s',c',p'))(k:topRun tb p w n₀ ann N s' (restOf rest env c' p' [topFrame q])=some r):topRun tb p w n₀ ann (n+N) s (restOf (st::rest) env c pos [topFrame q])=some r:=by
 obtain⟨a,ha,hN⟩:=seg_top (res:=id) (K':=fun f=>match f with | .next=>(execs rest env).wrap doneF (leaveH env) id id | f=>doneF f) (H':=leaveH env) (B:=[topFrame q]) rfl n s (pieceOf st env c pos [topFrame q])
  ⟨(exec st env).wrap (fun f=>match f with | .next=>(execs rest env).wrap doneF (leaveH env) id id | f=>doneF f) (leaveH env) id id,c,pos,[topFrame q]⟩ _ _ _ _ ⟨rfl,rfl,.inl ⟨rfl,rfl,_,rfl,rfl⟩⟩ h
 obtain rfl:a=.next:=ha;have:=hN N r k;unfold restOf;rw[execs_cons_wrap];exact this
theorem qf{tb:String→Option Builtin}{p:Program}{w:World}{m:Nat}{ann:Option Value}{env:Env}{q:Pos}{F:Nat}{fin:SharedT→Code→Pos→Option α}{r:α}:∀(l:List Stmt)(s:SharedT)(c:Code)(pos:Pos),hd tb p w m ann env q F fin l s c pos=some r→
  ∃s' c' p',fin s' c' p'=some r∧∀N z,topRun tb p w m ann N s'.abs (restOf [] env c' p' [topFrame q])=some z→topRun tb p w m ann (l.length*F+N) s.abs (restOf l env c pos [topFrame q])=some z
 | [],s,c,pos,h=>⟨s,c,pos,h,fun N z hz=>by rw[yZ,Nat.zero_mul,zA];exact hz⟩
 |st::l,s,c,pos,h=>by
  obtain⟨s',c',p',e,h⟩:=qR h;obtain⟨s2,c2,p2,hf,hN⟩:=qf l s' c' p' h;refine⟨s2,c2,p2,hf,fun N z hz=>?_⟩;have:=ui (segRun_of e) (hN N z hz);rw[xq,Nat.succ_mul,show l.length*F+F+N=F+(l.length*F+N) by omega];exact this
def wo{γ:Type}(tb:String→Option Builtin)(p:Program)(w:World)(m:Nat)(ann:Option Value)(env:Env)(q:Pos)(look:Shared→γ)(s:SharedT)(c:Code)(pos:Pos):Option γ:=
 match topRun tb p w m ann 50 s.abs (restOf [] env c pos [topFrame q]) with
 |some r=>fH r fun r=>some (look r)
 |none=>none
def ofL(l:List Obj):Nat→BT→BT:=@List.rec Obj (fun _=>Nat→BT→BT) (fun _ t=>t) (fun o _ ih i t=>ih (Nat.succ i) (t.ins i o)) l
def toT(s:Shared):SharedT:=match s with
 |⟨⟨⟨l⟩,life⟩,g,d,tk,os⟩=>⟨ofL l 0 .nil,l.length,life,g,d,tk,os⟩
def pre(p:Program)(w:World)(os:OsState):Option (Shared×Thread):=topGo treeTable p w 11 (some (.ref 6)) 12 ⟨boot_heap w.params,⟨[]⟩,boot_drawn,boot_toks,os⟩ (topStub p)
def zp:Pos:=⟨0,0,0,0⟩
def qp(p:Program):Env:={scope:=p.main.scope,locals:=mainNs,globals:=mainNs,cells:=[],code:=.ref 13,frame:=some 14}
def sa(p:Program)(w:World)(os:OsState):Shared:=match pre p w os with
 |some (s,_)=>s
 |none=>⟨{},#[],{},0,os⟩
def hc(p:Program):Code:=.body (behindTheImports p) (qp p)
def blk(p:Program)(w:World)(os:OsState):Option (Flow×Shared×Code×Pos):=segRun treeTable p w 11 (some (.ref 6)) 1 1 (sa p w os) (blockOf (behindTheImports p) (qp p) (hc p) zp [topFrame zp])
def chk{γ:Type}(p:Program)(look:Shared→γ)(w:World)(os:OsState):Option γ:=
 fS (toT (sa p w os)) fun s=>hd treeTable p w 11 (some (.ref 6)) (qp p) zp 600 (wo treeTable p w 11 (some (.ref 6)) (qp p) zp look) (behindTheImports p) s (hc p) zp
end
theorem j7{p q:Program}{loose:List Str}{Xt:Shared→Bool}{α:Type}{Yf:Shared→α}{Ya:World→α}(e:opening p=plainProg p.main.scope.names)(f:∀s,fenceModules? p s=some s)(hpre:∀(w:World) (os:OsState),pre p w os=some (sa p w os,⟨denote treeTable (hc p),hc p,zp,[topFrame zp]⟩))(hblk:∀(w:World) (os:OsState),blk p w os=some (.next,(toT (sa p w os)).abs,hc p,zp))(size:∀w:World,((boot_heap w.params).isNs mainGlobals && (Array.mk ([]:List GenState)).size==0,(boot_heap w.params).objs.size,(boot_heap w.params).nsMap mainGlobals "__annotations__")=(true,11,some (.ref 6)))(len:Nat.ble (behindTheImports p).length 1600=true)(hchk:∀(w:World) (os:OsState),chk p (fun s=>((staticsOk (importedModules p.main.body) (boot_heap w.params) s.heap && namesBound p s.heap && gensDone s && laidKept (boot_heap w.params) s.heap),openSeen q loose (importedModules p.main.body) Xt true s,Yf s)) w os=some (true,openGood q loose,Ya w)):
  LeftO p q loose Xt Yf Ya 1000000 true:=fun w=>by
 obtain⟨⟨h,gs,d,k,os⟩,e1,e'⟩:=xm.mp (boot_open (p:=p) (N:=1000000) e rfl f w);obtain⟨rfl,rfl,rfl,rfl⟩:h=boot_heap w.params∧gs=⟨[]⟩∧d=boot_drawn∧k=boot_toks:=by simpa using e'
 obtain⟨z1,z2,z3⟩:_∧_∧_:=by simpa only[Prod.mk.injEq] using size w
 have hc1:=hchk w os;unfold chk at hc1;rw[sE]at hc1;obtain⟨s2,c2,p2,hf,hN⟩:=qf _ _ _ _ hc1;unfold wo at hf
 split at hf
 case h_2=>cases hf
 rename_i r hr;rw[vc]at hf;obtain⟨l1,l2,l3⟩:_∧_∧_:=by simpa only[Option.some.injEq,Prod.mk.injEq] using hf
 have a1:=hN _ _ hr;have a2:=piece_block (hblk w os) a1;have a3:=go_top (hpre w os) a2;have le:12+(1+((behindTheImports p).length*600+50))≤1000000:=by
  have:=Nat.le_of_ble_eq_true len;omega
 have a4:=topRun_mono (1000000-(12+(1+((behindTheImports p).length*600+50)))) _ _ _ _ a3;rw[show 12+(1+((behindTheImports p).length*600+50))+(1000000-(12+(1+((behindTheImports p).length*600+50))))=1000000 by omega]at a4;have t:topFrom treeTable p w 1000000 ⟨boot_heap w.params,⟨[]⟩,boot_drawn,boot_toks,os⟩=some r:=by
  unfold topFrom;dsimp only;rw[z1,z2,z3,a4];show(match staticsOk (importedModules p.main.body) (boot_heap w.params) r.heap && namesBound p r.heap && gensDone r && laidKept (boot_heap w.params) r.heap with | true=>_ | false=>_)=_;rw[l1]
 unfold openEnds;rw[e1];show(topFrom treeTable p w 1000000 _).map _=_;rw[t];exact yy some (Prod.ext l2 l3)
def cF(p q:Program)(as:List Addr)(w:World)(os:OsState):=
 chk p (fun s=>((staticsOk (importedModules p.main.body) (boot_heap w.params) s.heap && namesBound p s.heap && gensDone s && laidKept (boot_heap w.params) s.heap),openSeen q [] (importedModules p.main.body) (fun s=>xlAt q [] s && recOk [] s) true s,as.map s.heap.get?)) w os
def cM(p q:Program)(as ts:List Addr)(w:World)(os:OsState):=
 chk p (fun s=>((staticsOk (importedModules p.main.body) (boot_heap w.params) s.heap && namesBound p s.heap && gensDone s && laidKept (boot_heap w.params) s.heap),openSeen q [] (importedModules p.main.body) (fun s=>xlAt q [] s && recOk [] s) true s,(as.map s.heap.get?,ts.map s.heap.get?))) w os
def cG(q:Program):=openGood q []
theorem cF_:@cF=@cF:=rfl
theorem cM_:@cM=@cM:=rfl
theorem cG_:@cG=@cG:=rfl
end Hd
def PySem.W.Fast.tw14598715356260435866:PySem.Params→PySem.Obj:=PySem.W.boot_o_0
theorem PySem.W.Fast.te14598715356260435866:PySem.W.boot_o_0=PySem.W.Fast.tw14598715356260435866:=rfl
lay_quick Hd.cF Hd.cM Hd.cG
name_quick cFQ for Hd.cF by Hd.cF_
name_quick cMQ for Hd.cM by Hd.cM_
name_quick cGQ for Hd.cG by Hd.cG_
namespace Hd
open PySem PySem.W
theorem hS(w:World):((boot_heap w.params).isNs mainGlobals && (Array.mk ([]:List GenState)).size==0,(boot_heap w.params).objs.size,(boot_heap w.params).nsMap mainGlobals "__annotations__")=(true,11,some (.ref 6)):=by kernel_rfl
theorem vJ(p q:Program)(as:List Addr)(w:World)(os:OsState):cF p q as w os=W.Fast.cFQ p q as w os:=by rw[←W.Fast.cFQ_eq]
theorem ve(p q:Program)(as ts:List Addr)(w:World)(os:OsState):cM p q as ts w os=W.Fast.cMQ p q as ts w os:=by rw[←W.Fast.cMQ_eq]
theorem sy(q:Program):openGood q []=W.Fast.cGQ q:=by rw[←W.Fast.cGQ_eq];rfl
theorem left{p q:Program}(e:opening p=plainProg p.main.scope.names)(f:∀s,fenceModules? p s=some s)(hpre:∀(w:World) (os:OsState),pre p w os=some (sa p w os,⟨denote treeTable (hc p),hc p,zp,[topFrame zp]⟩))(hblk:∀(w:World) (os:OsState),blk p w os=some (.next,(toT (sa p w os)).abs,hc p,zp))(len:Nat.ble (behindTheImports p).length 1600=true){K:Params→Frag}{as:List Addr}{ek:∀P,as=(K P).map (·.1)}(h:∀(w:World) (os:OsState),W.Fast.cFQ p q as w os=some (true,W.Fast.cGQ q,(K w.params).map fun p=>some p.2)):
  LeftO p q [] (fun s=>xlAt q [] s && recOk [] s) (Hook.obs (kHook K as ek)) (Hook.val (kHook K as ek)) 1000000 true:=
 j7 e f hpre hblk hS len fun w os=>(vJ p q as w os).trans ((h w os).trans (by rw[sy];rfl))
theorem leftM{p q:Program}(e:opening p=plainProg p.main.scope.names)(f:∀s,fenceModules? p s=some s)(hpre:∀(w:World) (os:OsState),pre p w os=some (sa p w os,⟨denote treeTable (hc p),hc p,zp,[topFrame zp]⟩))(hblk:∀(w:World) (os:OsState),blk p w os=some (.next,(toT (sa p w os)).abs,hc p,zp))(len:Nat.ble (behindTheImports p).length 1600=true){K:Params→Frag}{as:List Addr}{ek:∀P,as=(K P).map (·.1)}{ts:List Addr}(h:∀(w:World) (os:OsState),W.Fast.cMQ p q as ts w os=some (true,W.Fast.cGQ q,((K w.params).map fun p=>some p.2),ts.map fun _=>some (tabObj #[]))):
  LeftO p q [] (fun s=>xlAt q [] s && recOk [] s) (Hook.obs (kmHook K as ek ts)) (Hook.val (kmHook K as ek ts)) 1000000 true:=
 j7 e f hpre hblk hS len fun w os=>(ve p q as ts w os).trans ((h w os).trans (by rw[sy];rfl))
end Hd
namespace L2
open PySem PyProof.Rows
structure Df(K:W.Frag)(mg:Str→Option Value)(x:Str)(st:Stmt):Prop where
 ex:∃(f:Addr)(fd:FuncData),Fun K x x st f fd∧mg x=some (.ref f)
section
variable{P:Program}{w:World}{K:W.Frag}{mg:Str→Option Value}{base h:Heap}{x:Str}{st:Stmt}{k:Nat}{ps:List Str}{sp:Sp}{p0 p1 p2 p3:Str}
theorem df_mk(X:K.In h)(G:h.Ns mainGlobals mg){f:Addr}{oc:Value}{od an:Option Addr}{osl:Array (Option Value)}{kV doc pm cdv ct:Value}(a:W.nsIn K mainGlobals x=some (some (.ref f)))(l:K.lookup f=some ⟨oc,od,.func (W.fnOf x x (aB st) (av st) (aa st) .none kV doc pm an cdv ct),osl⟩)(c:W.codeIn K cdv x=true)(k:W.keepIn K (.ref f)=true):Df K mg x st:=⟨f,_,Ot l c k,W.mg_of X G a⟩
theorem Df.has(d:Df K mg x st)(ok:∀{f:Addr} {fd:FuncData},Fun K x x st f fd→FnOk P w K mg base CX0 k f fd ps sp)(b:∀{f:Addr} {fd:FuncData},Fun K x x st f fd→Binds K fd ps []):Has P w K mg base x k ps sp:=let ⟨_,_,F,m⟩:=d.ex;Has.of (ok F) (b F) F.kp m
theorem Df.h1(d:Df K mg x st)(ok:∀{f:Addr} {fd:FuncData},Fun K x x st f fd→FnOk P w K mg base CX0 k f fd [p0] sp)(h:∀(kV doc pm:Value) (an:Option Addr) (cdv ct u0:Value),bindArgs (W.fnOf x x (aB st) (av st) (aa st) .none kV doc pm an cdv ct) ⟨[u0],[]⟩=pure [(p0,u0)]):Has P w K mg base x k [p0] sp:=d.has ok fun F=>F.b1 h
theorem Df.h2(d:Df K mg x st)(ok:∀{f:Addr} {fd:FuncData},Fun K x x st f fd→FnOk P w K mg base CX0 k f fd [p0,p1] sp)(h:∀(kV doc pm:Value) (an:Option Addr) (cdv ct u0 u1:Value),bindArgs (W.fnOf x x (aB st) (av st) (aa st) .none kV doc pm an cdv ct) ⟨[u0,u1],[]⟩=pure [(p0,u0),(p1,u1)]):Has P w K mg base x k [p0,p1] sp:=d.has ok fun F=>F.b2 h
theorem Df.h3(d:Df K mg x st)(ok:∀{f:Addr} {fd:FuncData},Fun K x x st f fd→FnOk P w K mg base CX0 k f fd [p0,p1,p2] sp)(h:∀(kV doc pm:Value) (an:Option Addr) (cdv ct u0 u1 u2:Value),bindArgs (W.fnOf x x (aB st) (av st) (aa st) .none kV doc pm an cdv ct) ⟨[u0,u1,u2],[]⟩=pure [(p0,u0),(p1,u1),(p2,u2)]):Has P w K mg base x k [p0,p1,p2] sp:=d.has ok fun F=>F.b3 h
theorem Df.h4(d:Df K mg x st)(ok:∀{f:Addr} {fd:FuncData},Fun K x x st f fd→FnOk P w K mg base CX0 k f fd [p0,p1,p2,p3] sp)(h:∀(kV doc pm:Value) (an:Option Addr) (cdv ct u0 u1 u2 u3:Value),bindArgs (W.fnOf x x (aB st) (av st) (aa st) .none kV doc pm an cdv ct) ⟨[u0,u1,u2,u3],[]⟩=pure [(p0,u0),(p1,u1),(p2,u2),(p3,u3)]):Has P w K mg base x k [p0,p1,p2,p3] sp:=d.has ok fun F=>F.b4 h
end
end L2
namespace K20
open PySem L2
theorem all_mk{c_0 T0 c_1 T1:Addr}{l:W.OpenLaw}{w:World}{K:W.Frag}{h:Heap}{mg:Str→Option Value}{fa f19 f25 f41:Addr}(X:K.In h)(G:h.Ns mainGlobals mg)(hfa:mg "law"=some (.ref fa)){od19 an19 od25 an25 od41 an41:Option Addr}{sl19 sl25 sl41:Array (Option Value)}{oc19 kV19 dc19 pm19 ct19 oc25 kV25 dc25 pm25 ct25 oc41 kV41 dc41 pm41 ct41 cd41:Value}(d0:Df K mg "cut_of" dE)(d1:Df K mg "is_whole" cP)(d2:Df K mg "is_whole_from" a8)(d3:Df K mg "is_whole_within" aU)(d4:Df K mg "is_mark" dh)(d5:Df K mg "is_rising" bw)(d6:Df K mg "is_room" c8)(d7:Df K mg "is_count" cI)(d8:Df K mg "are_counts" bT)(d9:Df K mg "added_counts" bi)(d10:Df K mg "steps_in" cE)(d11:Df K mg "streams_in" bV)(d12:Df K mg "stream_of" cf)(d13:Df K mg "grown" eU)(d14:Df K mg "empty_tally" bE)(d15:Df K mg "thing_tally" bA)(d16:Df K mg "added_sums" bR)(d17:Df K mg "merged_tally" aS)(d18:Df K mg "tally_of" cK)(a19:W.nsIn K mainGlobals "grown_tally"=some (some (.ref f19)))(l19:K.lookup f19=some ⟨oc19,od19,.func (W.fnOf "grown_tally" "grown_tally" (aB ai) (av ai) (aa ai) .none kV19 dc19 pm19 an19 (.ref c_0) ct19),sl19⟩)(c19:W.codeIn K (.ref c_0) "grown_tally"=true)(k19:W.keepIn K (.ref f19)=true)(d20:Df K mg "is_made_as_tally" aQ)(d21:Df K mg "things_in" b_)(d22:Df K mg "bunches_of" bL)(d23:Df K mg "merged_with_paper" aK)(d24:Df K mg "stream_with_paper" aN)(a25:W.nsIn K mainGlobals "tally_paper"=some (some (.ref f25)))(l25:K.lookup f25=some ⟨oc25,od25,.func (W.fnOf "tally_paper" "tally_paper" (aB ah) (av ah) (aa ah) .none kV25 dc25 pm25 an25 (.ref c_1) ct25),sl25⟩)(c25:W.codeIn K (.ref c_1) "tally_paper"=true)(k25:W.keepIn K (.ref f25)=true)(d26:Df K mg "is_bunch" cS)(d27:Df K mg "is_paper" cR)(d28:Df K mg "times_in" cH)(d29:Df K mg "times_told" bN)(d30:Df K mg "is_shown" cD)(d31:Df K mg "_law_pen" eP)(d32:Df K mg "_law_draw" dN)(d33:Df K mg "_law_word" dZ)(d34:Df K mg "_law_many" d_)(d35:Df K mg "_law_thing" dg)(d36:Df K mg "_law_stream" cL)(d37:Df K mg "_law_tree" c7)(d38:Df K mg "_law_room" dH)(d39:Df K mg "_law_mixed_up" bJ)(d40:Df K mg "_law_shown" di)(a41:W.nsIn K mainGlobals "law"=some (some (.ref f41)))(l41:K.lookup f41=some ⟨oc41,od41,.func (W.fnOf "law" "law" (aB cY) (av cY) (aa cY) .none kV41 dc41 pm41 an41 cd41 ct41),sl41⟩)(c41:W.codeIn K cd41 "law"=true)(k41:W.keepIn K (.ref f41)=true)(aE:mg "len"=none)(ag:mg "isinstance"=none)(eV:mg "range"=none)(bW:mg "list"=none)(aG:mg "sorted"=none)(aD:mg "tuple"=none)(dk:mg "dict"=none)(cz:mg "sum"=none)(oV:mg "int"=none)(g_:mg "bool"=none)(aY:mg "all"=none)(mP:mg "set"=none)(oO:mg "min"=none)(oo:mg "str"=none)(eG:mg "zip"=none){eI:Value}(y_LETTERS:W.nsIn K mainGlobals "LETTERS"=some (some eI))(r_LETTERS:RelV (.str letters) eI){ca:Value}(y_LONGEST_MARK:W.nsIn K mainGlobals "LONGEST_MARK"=some (some ca))(r_LONGEST_MARK:RelV (.int 8) ca){dq:Value}(y_MOST_ROOM:W.nsIn K mainGlobals "MOST_ROOM"=some (some dq))(r_MOST_ROOM:RelV (.int 20) dq)(hcT0:W.codeHdIn K c_0 T0=true)(hgP0:mainGlobals≠T0)(hcT1:W.codeHdIn K c_1 T1=true)(hgP1:mainGlobals≠T1)(hne01:T0≠T1)
  :∃fd:FuncData,(∀(s:Shared)(v:Value),BindsTo s fd ⟨[v],[]⟩ [("_law_script",v)])∧∀base:Heap,K.In base→base.Ns mainGlobals mg→(∀U∈([(c_0,T0),(c_1,T1)]:List (Addr×Addr)).map (·.2),base.BuiltinsAt mg U)→FnOk l.prog w K mg base CX0 20 fa fd ["_law_script"] (jS K T0 T1):=by
 have e:=hfa.symm.trans (W.mg_of X G a41);cases e;obtain⟨f4,v4,F4,m4⟩:=d4.ex;have b4:Binds K _ ["thing"] []:=F4.b1 fun _ _ _ _ _ _ _=>rfl;obtain⟨f13,v13,F13,m13⟩:=d13.ex;have b13:Binds K _ ["tree","of_stream","of_two"] []:=F13.b3 fun _ _ _ _ _ _ _ _ _=>rfl;obtain⟨f17,v17,F17,m17⟩:=d17.ex;have F19:=Ot (st:=ai) l19 c19 k19;have m19:=W.mg_of X G a19;have b19:Binds K _ ["room","tree"] []:=F19.b2 fun _ _ _ _ _ _ _ _=>rfl;obtain⟨f23,v23,F23,m23⟩:=d23.ex;have F25:=Ot (st:=ah) l25 c25 k25;have m25:=W.mg_of X G a25;have b25:Binds K _ ["room","tree"] []:=F25.b2 fun _ _ _ _ _ _ _ _=>rfl;obtain⟨f37,v37,F37,m37⟩:=d37.ex;have b37:Binds K _ ["_law_pen_here","_law_marks","_law_deep","_law_most","_law_parts"] []:=F37.b5 fun _ _ _ _ _ _ _ _ _ _ _=>rfl;have F41:=Ot (st:=cY) l41 c41 k41;have kA:=W.mg_of X G y_LETTERS;have dP:=W.mg_of X G y_LONGEST_MARK;have gf:=W.mg_of X G y_MOST_ROOM;refine⟨W.fnOf "law" "law" (aB cY) (av cY) (aa cY) .none kV41 dc41 pm41 an41 cd41 ct41,fun s v=>.of_eq rfl,fun base kb nb hBt=>?_⟩;have vL:=d31.h2 (fun F=>tX (P:=l.prog) (w:=w) (mg:=mg) (base:=base) F aE) (by intros;rfl);have cj:=d32.h2 (qg (P:=l.prog) (w:=w) (mg:=mg) (base:=base)) (by intros;rfl);have uy:=d33.h2 (rk (P:=l.prog) (w:=w) (mg:=mg) (base:=base)) (by intros;rfl);have tV:=d34.h1 (qU cj) (by intros;rfl);have rJ:=d35.h3 (pG cj uy tV) (by intros;rfl);have pR:=d36.h4 (lq cj rJ eV) (by intros;rfl);have uj:=jL cj pR F37 b37 m37 4;have tU:=d38.h1 (qj cj) (by intros;rfl);have H_add:∀base:Heap,K.In base→base.Ns mainGlobals mg→Has l.prog w K mg base "added_sums" 2 ["one","other"] dz:=fun base kb nb=>(d16.h2 (jc (d9.h2 (oG (base:=base) dk) (by intros;rfl))) (by intros;rfl));have H_cut:∀base:Heap,K.In base→base.Ns mainGlobals mg→Has l.prog w K mg base "cut_of" 1 ["room","sums"] jZ:=fun base kb nb=>(d0.h2 (sS aE aG) (by intros;rfl));have H_mer:∀base:Heap,K.In base→base.Ns mainGlobals mg→Has l.prog w K mg base "merged_tally" 3 ["one","other"] eE:=fun base kb nb=>(d17.h2 (sO aG aD (H_add base kb nb) (H_cut base kb nb)) (by intros;rfl));have H_bun:∀base:Heap,K.In base→base.Ns mainGlobals mg→Has l.prog w K mg base "bunches_of" 3 ["one","other"] ke:=fun base kb nb=>(d22.h2 (uS aG aD mP oO (H_add base kb nb) (H_cut base kb nb)) (by intros;rfl));have H_mwp:∀base:Heap,K.In base→base.Ns mainGlobals mg→Has l.prog w K mg base "merged_with_paper" 4 ["one","other"] e7:=fun base kb nb=>(d23.h2 (uK (H_mer base kb nb) (H_bun base kb nb)) (by intros;rfl));have H_em:∀base:Heap,K.In base→base.Ns mainGlobals mg→Has l.prog w K mg base "empty_tally" 1 ["room"] dw:=fun base kb nb=>(d14.h1 (oy (base:=base)) (by intros;rfl));have H_th:∀base:Heap,K.In base→base.Ns mainGlobals mg→Has l.prog w K mg base "thing_tally" 1 ["room","thing"] jU:=fun base kb nb=>(d15.h2 (sR (base:=base)) (by intros;rfl));have H_swp:∀base:Heap,K.In base→base.Ns mainGlobals mg→Has l.prog w K mg base "stream_with_paper" 5 ["room","stream"] oH:=fun base kb nb=>(d24.h2 (tH (H_em base kb nb) (H_th base kb nb) (H_mwp base kb nb)) (by intros;rfl));have H_tof:∀base:Heap,K.In base→base.Ns mainGlobals mg→Has l.prog w K mg base "tally_of" 4 ["room","stream"] oW:=fun base kb nb=>(d18.h2 (uC (H_em base kb nb) (H_mer base kb nb) (H_th base kb nb)) (by intros;rfl));have H_st:∀base:Heap,K.In base→base.Ns mainGlobals mg→Has l.prog w K mg base "steps_in" 1 ["tree"] dA:=fun base kb nb=>(d10.h1 (om (base:=base) ag bW aE) (by intros;rfl));have H_gr:HasB l.prog w K mg "grown" 7 ["tree","of_stream","of_two"] (dB l.prog w K mg 6):=⟨_,_,fun base kb nb=>nA (k:=6) (by decide) (H_st base kb nb) F13,b13,F13.kp,m13⟩;have v_:=Has.of (vp (T:=T0) l19 c19 (W.codeHd_of_K kb hcT0) hgP0 (hBt T0 (.head _)) H_gr H_tof H_mer m17 F17) b19 F19.kp m19;have vt:=Has.of (wg (T:=T1) l25 c25 (W.codeHd_of_K kb hcT1) hgP1 (hBt T1 (.tail _ (.head _))) H_gr H_swp H_mwp m23 F23) b25 F25.kp m25;have h_si:=d11.h1 (Qn bW (H_st base kb nb)) (by intros;rfl);have h_so:=d12.h1 (Oh h_si) (by intros;rfl);have h1:=d1.h1 (gP (P:=l.prog) (w:=w) (mg:=mg) (base:=base) ag oV g_) (by intros;rfl);have h2:=d2.h2 (Tv h1) (by intros;rfl);have FM3:=i5 (P:=l.prog) (w:=w) (mg:=mg) (base:=base) ag oo aE aY ⟨_,kA,r_LETTERS⟩ ⟨_,dP,r_LONGEST_MARK⟩ F4;have h3:=Has.of FM3 b4 F4.kp m4;have h4:=d3.h3 (Uh h2) (by intros;rfl);have h5:=d5.h1 (qC (P:=l.prog) (w:=w) (mg:=mg) (base:=base) aY eG) (by intros;rfl);have h5t:=d5.h1 (nZ (P:=l.prog) (w:=w) (mg:=mg) (base:=base) aY eG) (by intros;rfl);obtain⟨_,_,_,_,_,_,_,_,_,_,lkm,_⟩:=F4.ex;have cm:Cal base f4:=⟨_,_,_,_,kb _ _ lkm⟩;have h6:=d7.h2 (u5 ag aD aE h2 FM3 b4 cm) (by intros;rfl);have h7:=d8.h2 (qr ag aD aY h6 h5) (by intros;rfl);have h7b:=d6.h1 (lJ h4 ⟨_,gf,r_MOST_ROOM⟩) (by intros;rfl);have h8:=d20.h1 (qW ag aD aE h2 h7b h7 ⟨_,m4,rfl⟩) (by intros;rfl);have h9:=d26.h2 (uW ag aD aE aY h3 h5t h2) (by intros;rfl);have h10:=d27.h2 (sU ag bW aY h9) (by intros;rfl);have h11:=d21.h1 (t8 (P:=l.prog) (w:=w) (mg:=mg) (base:=base) cz) (by intros;rfl);have h12:=d28.h1 (pE (P:=l.prog) (w:=w) (mg:=mg) (base:=base)) (by intros;rfl);have h13:=d29.h2 (mQ (P:=l.prog) (w:=w) (mg:=mg) (base:=base) dk) (by intros;rfl);have h14:=d30.h3 (nR h8 h10 h11 h12 h13 cz) (by intros;rfl);have vQ:=d39.h2 (t7 aE cj) (by intros;rfl);have h_sh:=d40.h3 (vH aE cz cj h_so v_ vt vQ h14) (by intros;rfl);exact sQ hne01 vL cj tU uj h_sh (H_bun base kb nb) v_ vt aG F41
theorem walk{l:W.OpenLaw}{q:Program}{loose:List Str}{XP:(Str→Option Value)→Heap→Prop}{YP:World→Heap→Prop}{d:DefRec}{K:Params→W.Frag}{c_0 T0 c_1 T1:Addr}(hn:l.most=some 63)(hdf:d.params.defaults=[])(hY:∀(w:World) (h:Heap),YP w h→(K w.params).In h)(hT:∀(w:World) (mg mb:Str→Option Value) (loose':List Str) (mean:ExcName→Option Value) (h:Heap),PyProof.Rows.Top q loose' mean mg mb h→(K w.params).In h→W.TabsAt [(c_0,T0),(c_1,T1)] h)(hKT0:∀(w:World),(K w.params).lookup T0=none)(hKT1:∀(w:World),(K w.params).lookup T1=none)(F:∀(w:World) (mg:Str→Option Value) (fa:Addr) (h:Heap),(K w.params).In h→h.Ns mainGlobals mg→mg d.name=some (.ref fa)→
   ∃fd:FuncData,(∀(s:Shared) (u:Value),BindsTo s fd ⟨[u],[]⟩ [("_law_script",u)])∧∀base:Heap,(K w.params).In base→base.Ns mainGlobals mg→(∀U∈([(c_0,T0),(c_1,T1)]:List (Addr×Addr)).map (·.2),base.BuiltinsAt mg U)→FnOk l.prog w (K w.params) mg base CX0 20 fa fd ["_law_script"] (jS (K w.params) T0 T1)):
  W.WalkO q loose XP YP l.row.toRowW d [] (fun f vs=>PySem.call f vs):=
 L2.walk_T (n:=63) (k:=20) (x:="_law_script") (tabs:=[(c_0,T0),(c_1,T1)]) (sp:=fun w=>jS (K w.params) T0 T1) hn (by decide) hdf ⟨rfl,by decide,by decide⟩ hY hT (fun w U h=>by
  have h:U∈[T0,T1]:=h;simp only[List.mem_cons,List.not_mem_nil,or_false]at h
  rcases h with h | h
  ·rw[h];exact hKT0 w
  ·rw[h];exact hKT1 w
  ) F (fun _ _ a ns hl hS hTT=>⟨a,ns,rfl,hS,hl,⟨.inl (hTT T0 (.head _))⟩,⟨.inl (hTT T1 (.tail _ (.head _)))⟩,fun _=>rfl⟩)
end K20
def PySem.W.Fast.tw11426807075490923154:PySem.Program:=PySem.Challenge.pw_sumshare_k20_whole_papers_of_merged_tree
theorem PySem.W.Fast.te11426807075490923154:PySem.Challenge.pw_sumshare_k20_whole_papers_of_merged_tree=PySem.W.Fast.tw11426807075490923154:=rfl
def K20.qv:PySem.Program:=PySem.W.view PySem.Challenge.pw_sumshare_k20_whole_papers_of_merged_tree [1,3,4,5,6,7,8,9,10,11,12,13,14,16,17,19,20,21,22,24,25,26,27,28,29,30,32,34,35,36,37,38,39,40,41,42,44,45,46,47,48,49,50,51,52,53,54]
open PySem PySem.W PyProof.Rows
local macro_rules | `(tactic| o_head $H)=>`(tactic| (refine holds_open (q:=K20.qv) (loose:=[]) (Xt:=fun s=>xlAt K20.qv [] s && recOk [] s) (XP:=XL K20.qv []) (Yf:=Hook.obs $H) (Ya:=Hook.val $H) (YP:=Hook.says $H) (N:=1000000) ?hl (Hook.of $H) (Hook.keeps $H) (fun s e=>xl_of s (Bool.and_eq_true_iff.mp e).1) XL.keeps (by rfl) (by rfl) (by rfl) (fun s e=>recFacts_of (Bool.and_eq_true_iff.mp e).2) (by rfl) (by first | assumption | decide +kernel) (by decide +kernel) ⟨rfl,rfl,rfl,rfl,rfl,by decide +kernel⟩ ?hw ?hc;(case hl=>exact Hd.leftM (p:=PySem.Challenge.pw_sumshare_k20_whole_papers_of_merged_tree) rfl (fun _=>rfl) (fun w os=>by kernel_rfl) (fun w os=>by kernel_rfl) rfl fun w os=>by kernel_rfl)))
set_option maxRecDepth 100000 in
set_option maxHeartbeats 0 in
theorem PySem.Challenge.cw_sumshare_k20_whole_papers_of_merged_tree_holds : PySem.Challenge.rw_sumshare_k20_whole_papers_of_merged_tree.Holds := by
 w_on;o_law;k_head;(case hw=>w_witness2)
 k_fill
 refine K20.walk (l:=PySem.Challenge.rw_sumshare_k20_whole_papers_of_merged_tree) (c_0:=168) (T0:=164) (c_1:=206) (T1:=202) rfl rfl (fun w h Y=>PySem.W.km_in_of Y) (fun w mg mb lo mean h TT X=>List.forall_mem_cons.mpr ⟨PySem.W.tab_of (x:=PySem.Str.ofString "grown_tally") (c:=168) (P:=164) TT X rfl (by kernel_rfl),List.forall_mem_cons.mpr ⟨PySem.W.tab_of (x:=PySem.Str.ofString "tally_paper") (c:=206) (P:=202) TT X rfl (by kernel_rfl),fun _ h=>nomatch h⟩⟩) (fun w=>by kernel_rfl) (fun w=>by kernel_rfl) ?F
 case F=>
  intro w mg fa h KX G hmg
  refine' K20.all_mk (c_0:=168) (T0:=164) (c_1:=206) (T1:=202) KX G hmg (L2.df_mk KX G ?_ ?_ ?_ ?_) (L2.df_mk KX G ?_ ?_ ?_ ?_) (L2.df_mk KX G ?_ ?_ ?_ ?_) (L2.df_mk KX G ?_ ?_ ?_ ?_) (L2.df_mk KX G ?_ ?_ ?_ ?_) (L2.df_mk KX G ?_ ?_ ?_ ?_) (L2.df_mk KX G ?_ ?_ ?_ ?_) (L2.df_mk KX G ?_ ?_ ?_ ?_) (L2.df_mk KX G ?_ ?_ ?_ ?_) (L2.df_mk KX G ?_ ?_ ?_ ?_) (L2.df_mk KX G ?_ ?_ ?_ ?_) (L2.df_mk KX G ?_ ?_ ?_ ?_) (L2.df_mk KX G ?_ ?_ ?_ ?_) (L2.df_mk KX G ?_ ?_ ?_ ?_) (L2.df_mk KX G ?_ ?_ ?_ ?_) (L2.df_mk KX G ?_ ?_ ?_ ?_) (L2.df_mk KX G ?_ ?_ ?_ ?_) (L2.df_mk KX G ?_ ?_ ?_ ?_) (L2.df_mk KX G ?_ ?_ ?_ ?_) ?a19 ?l19 ?c19 ?k19 (L2.df_mk KX G ?_ ?_ ?_ ?_) (L2.df_mk KX G ?_ ?_ ?_ ?_) (L2.df_mk KX G ?_ ?_ ?_ ?_) (L2.df_mk KX G ?_ ?_ ?_ ?_) (L2.df_mk KX G ?_ ?_ ?_ ?_) ?a25 ?l25 ?c25 ?k25 (L2.df_mk KX G ?_ ?_ ?_ ?_) (L2.df_mk KX G ?_ ?_ ?_ ?_) (L2.df_mk KX G ?_ ?_ ?_ ?_) (L2.df_mk KX G ?_ ?_ ?_ ?_) (L2.df_mk KX G ?_ ?_ ?_ ?_) (L2.df_mk KX G ?_ ?_ ?_ ?_) (L2.df_mk KX G ?_ ?_ ?_ ?_) (L2.df_mk KX G ?_ ?_ ?_ ?_) (L2.df_mk KX G ?_ ?_ ?_ ?_) (L2.df_mk KX G ?_ ?_ ?_ ?_) (L2.df_mk KX G ?_ ?_ ?_ ?_) (L2.df_mk KX G ?_ ?_ ?_ ?_) (L2.df_mk KX G ?_ ?_ ?_ ?_) (L2.df_mk KX G ?_ ?_ ?_ ?_) (L2.df_mk KX G ?_ ?_ ?_ ?_) ?a41 ?l41 ?c41 ?k41 (xE KX G ?_) (xE KX G ?_) (xE KX G ?_) (xE KX G ?_) (xE KX G ?_) (xE KX G ?_) (xE KX G ?_) (xE KX G ?_) (xE KX G ?_) (xE KX G ?_) (xE KX G ?_) (xE KX G ?_) (xE KX G ?_) (xE KX G ?_) (xE KX G ?_) ?y_LETTERS ?r_LETTERS ?y_LONGEST_MARK ?r_LONGEST_MARK ?y_MOST_ROOM ?r_MOST_ROOM ?hcT0 ?hgP0 ?hcT1 ?hgP1 ?hne01
  (case a19=>k_is);(case l19=>k_is);(case c19=>k_is);(case k19=>k_is)
  (case a25=>k_is);(case l25=>k_is);(case c25=>k_is);(case k25=>k_is)
  (case a41=>k_is);(case l41=>k_is);(case c41=>k_is);(case k41=>k_is)
  (case y_LETTERS=>k_is)
  (case r_LETTERS=>exact⟨_,rfl⟩)
  (case y_LONGEST_MARK=>k_is)
  (case r_LONGEST_MARK=>exact⟨_,rfl⟩)
  (case y_MOST_ROOM=>k_is)
  (case r_MOST_ROOM=>exact⟨_,rfl⟩)
  (case hcT0=>kernel_rfl);(case hgP0=>decide)
  (case hcT1=>kernel_rfl);(case hgP1=>decide)
  (case hne01=>decide)
  any_goals k_is
