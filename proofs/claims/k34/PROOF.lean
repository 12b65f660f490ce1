import PyProof.Rows.All
import Wide.All
import OpenK.AllK
import Wide.FinOn
import Lean
import PyProof.EqAt
import PyProof.EqKinds
import PyProof.TupleCall
import PySem.Challenge.RW_sumshare_k34_whole_papers_where_it_fits
set_option Elab.async false
set_option linter.all false
set_option maxRecDepth 100000
section
open PySem PySem.Spec PyProof.Rows
theorem ae:type_of%@PySem.wpAny_bind:=@PySem.wpAny_bind
theorem az.{u0,u1}:type_of%@List.length_map.{u0,u1}:=@List.length_map.{u0,u1}
theorem io:type_of%@PySem.Heap.get?_push_of_some:=@PySem.Heap.get?_push_of_some
theorem pi:type_of%@PySem.wpAny_pure:=@PySem.wpAny_pure
theorem xz.{u0}:type_of%@if_neg.{u0}:=@if_neg.{u0}
theorem xA:type_of%@Nat.le_refl:=@Nat.le_refl
theorem xB.{u0,u1}:type_of%@List.mem_map.{u0,u1}:=@List.mem_map.{u0,u1}
theorem xC.{u0}:type_of%@if_pos.{u0}:=@if_pos.{u0}
theorem xD.{u0,u1}:type_of%@List.map_cons.{u0,u1}:=@List.map_cons.{u0,u1}
theorem xE.{u0}:type_of%@List.length_append.{u0}:=@List.length_append.{u0}
theorem xF.{u0}:type_of%@List.mem_singleton.{u0}:=@List.mem_singleton.{u0}
theorem xG:type_of%@PySem.Heap.lt_size:=@PySem.Heap.lt_size
theorem xH:type_of%@of_decide_eq_true:=@of_decide_eq_true
theorem xI.{u0}:type_of%@List.getElem?_eq_some_iff.{u0}:=@List.getElem?_eq_some_iff.{u0}
theorem xJ:type_of%@decide_eq_true:=@decide_eq_true
theorem xK:type_of%@Bool.false_ne_true:=@Bool.false_ne_true
theorem xL:type_of%@PySem.Paired.length:=@PySem.Paired.length
theorem xM:type_of%@Nat.ne_of_lt:=@Nat.ne_of_lt
theorem xN.{u0,u1}:type_of%@List.map_append.{u0,u1}:=@List.map_append.{u0,u1}
theorem xO:type_of%@PySem.Heap.get?_push_size:=@PySem.Heap.get?_push_size
theorem xP.{u0}:type_of%@List.mem_append_right.{u0}:=@List.mem_append_right.{u0}
theorem xQ.{u0}:type_of%@List.mem_cons.{u0}:=@List.mem_cons.{u0}
theorem xR.{u0}:type_of%@List.mem_append.{u0}:=@List.mem_append.{u0}
theorem xS:type_of%@Nat.lt_of_lt_of_le:=@Nat.lt_of_lt_of_le
theorem xT.{u0}:type_of%@List.mem_of_getElem?.{u0}:=@List.mem_of_getElem?.{u0}
theorem xU.{u0}:type_of%@List.size_toArray.{u0}:=@List.size_toArray.{u0}
theorem xV.{u0}:type_of%@Option.some.inj.{u0}:=@Option.some.inj.{u0}
theorem xW.{u0}:type_of%@List.length_take.{u0}:=@List.length_take.{u0}
theorem xX.{u0}:type_of%@List.take_length.{u0}:=@List.take_length.{u0}
theorem xY.{u0}:type_of%@List.sum_cons.{u0}:=@List.sum_cons.{u0}
theorem xZ.{u0,u1}:type_of%@List.getElem?_map.{u0,u1}:=@List.getElem?_map.{u0,u1}
theorem x3.{u0}:type_of%@List.nodup_cons.{u0}:=@List.nodup_cons.{u0}
theorem x4:type_of%@PySem.mem_of_lookup:=@PySem.mem_of_lookup
theorem x5:type_of%@Int.le_refl:=@Int.le_refl
theorem x6.{u0}:type_of%@List.mem_filter.{u0}:=@List.mem_filter.{u0}
theorem x8.{u0,u1,u2}:type_of%@List.map_map.{u0,u1,u2}:=@List.map_map.{u0,u1,u2}
theorem x9.{u0}:type_of%@Array.getElem?_eq_getElem.{u0}:=@Array.getElem?_eq_getElem.{u0}
theorem ya.{u0}:type_of%@List.not_mem_nil.{u0}:=@List.not_mem_nil.{u0}
theorem yb.{u0}:type_of%@List.nodup_nil.{u0}:=@List.nodup_nil.{u0}
theorem yc:type_of%@PySem.PassesOwn.never:=@PySem.PassesOwn.never
theorem ye:type_of%@Bool.and_eq_true:=@Bool.and_eq_true
theorem yg:type_of%@PySem.F.plainAttrs_list:=@PySem.F.plainAttrs_list
theorem yh:type_of%@decide_eq_false:=@decide_eq_false
theorem yi:type_of%@Nat.le_trans:=@Nat.le_trans
theorem yj.{u0}:type_of%@List.mem_cons_self.{u0}:=@List.mem_cons_self.{u0}
theorem yk.{u0}:type_of%@Array.getElem?_toList.{u0}:=@Array.getElem?_toList.{u0}
theorem ym:type_of%@PySem.wpAny_dictEntries:=@PySem.wpAny_dictEntries
theorem yn.{u0}:type_of%@List.length_cons.{u0}:=@List.length_cons.{u0}
theorem yp:type_of%@PySem.wpAny_holding:=@PySem.wpAny_holding
theorem yq.{u0}:type_of%@List.mem_cons_of_mem.{u0}:=@List.mem_cons_of_mem.{u0}
theorem yr.{u0}:type_of%@List.all_eq_true.{u0}:=@List.all_eq_true.{u0}
theorem yt.{u0}:type_of%@List.filter_cons.{u0}:=@List.filter_cons.{u0}
theorem yu.{u0}:type_of%@List.length_filter_le.{u0}:=@List.length_filter_le.{u0}
theorem yw:type_of%@PyProof.Rows.boot_isinstance:=@PyProof.Rows.boot_isinstance
theorem yx.{u0}:type_of%@List.getElem?_eq_getElem.{u0}:=@List.getElem?_eq_getElem.{u0}
theorem yy:type_of%@Bool.eq_false_iff:=@Bool.eq_false_iff
theorem yz:type_of%@PyProof.Rows.wpS_bind:=@PyProof.Rows.wpS_bind
theorem yA.{u0}:type_of%@Array.length_toList.{u0}:=@Array.length_toList.{u0}
theorem yB.{u0}:type_of%@List.append_nil.{u0}:=@List.append_nil.{u0}
theorem yC.{u0}:type_of%@List.mem_append_left.{u0}:=@List.mem_append_left.{u0}
theorem yD:type_of%@Nat.ne_of_gt:=@Nat.ne_of_gt
theorem yE:type_of%@Int.one_mul:=@Int.one_mul
theorem yF:type_of%@of_decide_eq_false:=@of_decide_eq_false
theorem yG:type_of%@PySem.W.mg_none_of:=@PySem.W.mg_none_of
theorem yH:type_of%@Bool.eq_iff_iff:=@Bool.eq_iff_iff
theorem yI:type_of%@PySem.F.plainAttrs_dict:=@PySem.F.plainAttrs_dict
theorem yJ.{u0}:type_of%@List.getElem?_cons_zero.{u0}:=@List.getElem?_cons_zero.{u0}
theorem yK:type_of%@Int.mul_le_mul_of_nonneg_right:=@Int.mul_le_mul_of_nonneg_right
theorem yL.{u0}:type_of%@List.append_assoc.{u0}:=@List.append_assoc.{u0}
theorem yM.{u0,u1}:type_of%@Prod.ext.{u0,u1}:=@Prod.ext.{u0,u1}
theorem yN:type_of%@PySem.wpAny_mono:=@PySem.wpAny_mono
theorem yO.{u0,u1}:type_of%@Option.map_eq_some_iff.{u0,u1}:=@Option.map_eq_some_iff.{u0,u1}
theorem yP.{u0,u1}:type_of%@congrArg.{u0,u1}:=@congrArg.{u0,u1}
theorem yQ.{u0}:type_of%@List.length_nil.{u0}:=@List.length_nil.{u0}
theorem yR.{u0}:type_of%@List.length_singleton.{u0}:=@List.length_singleton.{u0}
theorem yS:type_of%@PySem.wpAny_newObj_type:=@PySem.wpAny_newObj_type
theorem yT:type_of%@PySem.Around.under_plainId:=@PySem.Around.under_plainId
theorem yU.{u0}:type_of%@List.pairwise_cons.{u0}:=@List.pairwise_cons.{u0}
theorem yV:type_of%@PySem.wpAny_call_entry:=@PySem.wpAny_call_entry
theorem yW:type_of%@PySem.Heap.get?_update_other:=@PySem.Heap.get?_update_other
theorem yX:type_of%@PyProof.Rows.boot_dict:=@PyProof.Rows.boot_dict
theorem yY:type_of%@Int.le_of_lt:=@Int.le_of_lt
theorem yZ.{u0,u1}:type_of%@List.pairwise_map.{u0,u1}:=@List.pairwise_map.{u0,u1}
theorem y3:type_of%@PySem.wpAny_notOrdered_dict:=@PySem.wpAny_notOrdered_dict
theorem y4:type_of%@PyProof.Rows.wpS_pure:=@PyProof.Rows.wpS_pure
theorem y7:type_of%@Int.mul_assoc:=@Int.mul_assoc
theorem y8:type_of%@Nat.lt_trans:=@Nat.lt_trans
theorem y9:type_of%@Nat.lt_irrefl:=@Nat.lt_irrefl
theorem zc:type_of%@PySem.wpAny_truthy_bool:=@PySem.wpAny_truthy_bool
theorem zd:type_of%@Nat.lt_or_ge:=@Nat.lt_or_ge
theorem ze:type_of%@PyProof.Rows.boot_list:=@PyProof.Rows.boot_list
theorem zf:type_of%@Nat.zero_le:=@Nat.zero_le
theorem zk.{u0}:type_of%@List.sum_append.{u0}:=@List.sum_append.{u0}
theorem zn:type_of%@PyProof.Rows.slot_tuple_getitem:=@PyProof.Rows.slot_tuple_getitem
theorem zo.{u0,u1}:type_of%@List.mem_filterMap.{u0,u1}:=@List.mem_filterMap.{u0,u1}
theorem zt:type_of%@PySem.tupleKind_room_in1:=@PySem.tupleKind_room_in1
theorem zu:type_of%@PySem.wpAny_typeNameOfWhole_itemiter:=@PySem.wpAny_typeNameOfWhole_itemiter
theorem zw:type_of%@Nat.le_of_lt:=@Nat.le_of_lt
theorem zy:type_of%@PySem.wpAny_typeOf:=@PySem.wpAny_typeOf
theorem zz:type_of%@PySem.F.slot_list_append:=@PySem.F.slot_list_append
theorem zA:type_of%@PySem.F.type_list_append:=@PySem.F.type_list_append
theorem zB:type_of%@Int.le_trans:=@Int.le_trans
theorem zC:type_of%@PySem.wpAny_typeNameOfWhole_keyiter:=@PySem.wpAny_typeNameOfWhole_keyiter
theorem zD:type_of%@PySem.wpAny_typeNameOfWhole_valiter:=@PySem.wpAny_typeNameOfWhole_valiter
theorem zE:type_of%@Int.add_mul:=@Int.add_mul
theorem zF:type_of%@PySem.F.slot_dict_items:=@PySem.F.slot_dict_items
theorem zG:type_of%@PySem.codeAny_builtin:=@PySem.codeAny_builtin
theorem zH.{u0}:type_of%@beq_eq_false_iff_ne.{u0}:=@beq_eq_false_iff_ne.{u0}
theorem zI.{u0,u1}:type_of%@List.map_congr_left.{u0,u1}:=@List.map_congr_left.{u0,u1}
theorem zJ:type_of%@Int.zero_add:=@Int.zero_add
theorem zK:type_of%@Int.mul_one:=@Int.mul_one
theorem zL:type_of%@PySem.wpAny_field:=@PySem.wpAny_field
theorem zM:type_of%@decide_eq_true_iff:=@decide_eq_true_iff
theorem zN:type_of%@Int.le_of_mul_le_mul_right:=@Int.le_of_mul_le_mul_right
theorem zO:type_of%@PySem.F.plain_extend_loop:=@PySem.F.plain_extend_loop
theorem zP:type_of%@PySem.wpAny_passesOwn:=@PySem.wpAny_passesOwn
theorem zQ.{u0,u1}:type_of%@List.foldl_cons.{u0,u1}:=@List.foldl_cons.{u0,u1}
theorem zR:type_of%@PySem.Paired.snoc:=@PySem.Paired.snoc
theorem zS.{u0}:type_of%@List.mem_of_mem_take.{u0}:=@List.mem_of_mem_take.{u0}
theorem zT.{u0}:type_of%@List.replicate_succ.{u0}:=@List.replicate_succ.{u0}
theorem zU:type_of%@Bool.false_and:=@Bool.false_and
theorem zV.{u0}:type_of%@List.eraseIdx_cons_succ.{u0}:=@List.eraseIdx_cons_succ.{u0}
theorem zW.{u0,u1}:type_of%@List.lookup_cons.{u0,u1}:=@List.lookup_cons.{u0,u1}
theorem zX:type_of%@PySem.F.plain_list_iadd:=@PySem.F.plain_list_iadd
theorem zY:type_of%@PySem.F.type_dict_items:=@PySem.F.type_dict_items
theorem zZ:type_of%@PySem.wpAny_Call_Name_kw:=@PySem.wpAny_Call_Name_kw
theorem z5:type_of%@Int.emod_lt_of_pos:=@Int.emod_lt_of_pos
theorem z6.{u0}:type_of%@List.filter_append.{u0}:=@List.filter_append.{u0}
theorem z7:type_of%@PySem.wpAny_rule:=@PySem.wpAny_rule
theorem z8:type_of%@Int.mul_zero:=@Int.mul_zero
theorem z9:type_of%@Int.emod_nonneg:=@Int.emod_nonneg
theorem Aa:type_of%@PySem.W.kia_one:=@PySem.W.kia_one
theorem Ab:type_of%@PySem.plainId_quiet:=@PySem.plainId_quiet
theorem Ac:type_of%@PySem.F.slot_list_pop:=@PySem.F.slot_list_pop
theorem Ad:type_of%@PySem.F.type_list_pop:=@PySem.F.type_list_pop
theorem Ae.{u0,u1}:type_of%@List.filterMap_append.{u0,u1}:=@List.filterMap_append.{u0,u1}
theorem Af:type_of%@PySem.wpAny_fieldsOf:=@PySem.wpAny_fieldsOf
theorem Ag.{u0}:type_of%@List.getElem?_of_mem.{u0}:=@List.getElem?_of_mem.{u0}
theorem Ah:type_of%@PySem.boot_len:=@PySem.boot_len
theorem Ai:type_of%@PySem.wpAny_dictEpoch:=@PySem.wpAny_dictEpoch
theorem Aj:type_of%@PySem.codeAny_mono:=@PySem.codeAny_mono
theorem Ak.{u0,u1}:type_of%@List.map_nil.{u0,u1}:=@List.map_nil.{u0,u1}
theorem Al:type_of%@PyProof.Rows.wpS_forRange:=@PyProof.Rows.wpS_forRange
theorem Am:type_of%@Nat.zero_add:=@Nat.zero_add
theorem An:type_of%@Int.mul_nonneg:=@Int.mul_nonneg
theorem Ao:type_of%@Int.add_zero:=@Int.add_zero
theorem Ap:type_of%@PySem.wpAny_load:=@PySem.wpAny_load
theorem Aq:type_of%@PySem.call_meets:=@PySem.call_meets
end
namespace L2
open PySem PySem.Spec PyProof.Rows
abbrev Key:=Sum Int Str
def eQ:Key→Value→Bool
 |.inl k,v=>Value.isInt k v
 |.inr x,v=>Value.isStrOf x v
def keyH(w:World):Key→Int
 |.inl k=>hashInt k
 |.inr x=>hashStr w x
theorem Yq:∀{k:Key}{v:Value},eQ k v=true→(∃i t,k=Sum.inl i∧v=Value.int i t)∨(∃x t,k=Sum.inr x∧v=Value.str x t)
 |.inl i,v,h=>by
  obtain⟨t,e⟩:=Value.isInt_shape (k:=i) (v:=v) h;exact .inl ⟨i,t,rfl,e⟩
 |.inr x,v,h=>by
  obtain⟨t,e⟩:=Value.isStrOf_shape (x:=x) (v:=v) h;exact .inr ⟨x,t,rfl,e⟩
theorem mj(i:Int)(t:Tok):eQ (.inl i) (.int i t)=true:=by simp[eQ,Value.isInt]
theorem mQ(x:Str)(t:Tok):eQ (.inr x) (.str x t)=true:=by simp[eQ,Value.isStrOf]
theorem t5(a b:Int):decide ((Sum.inl a:Key)=Sum.inl b)=(a==b):=by
 by_cases e:a=b
 ·subst e;simp
 ·have h:¬(Sum.inl a:Key)=Sum.inl b:=fun q=>e (Sum.inl.inj q);rw[yh h];exact(zH.mpr e).symm
theorem vJ(a b:Str):decide ((Sum.inr a:Key)=Sum.inr b)=decide (a=b):=by
 by_cases e:a=b
 ·subst e;simp
 ·have h:¬(Sum.inr a:Key)=Sum.inr b:=fun q=>e (Sum.inr.inj q);rw[yh h,yh e]
theorem vh(a:Int)(b:Str):decide ((Sum.inl a:Key)=Sum.inr b)=false:=yh (fun q=>nomatch q)
theorem ut(a:Str)(b:Int):decide ((Sum.inr a:Key)=Sum.inl b)=false:=yh (fun q=>nomatch q)
def ak(prog:Program)(w:World):PySem.KeyKind prog w Key where
 is:=eQ
 hash:=keyH w
 inj:=fun v a b ha hb=>by
  rcases Yq ha with⟨i,t,rfl,rfl⟩|⟨x,t,rfl,rfl⟩
  ·rcases Yq hb with⟨j,u,rfl,e⟩|⟨y,u,rfl,e⟩
   ·injection e with e1 _;rw[e1]
   ·exact nomatch e
  ·rcases Yq hb with⟨j,u,rfl,e⟩|⟨y,u,rfl,e⟩
   ·exact nomatch e
   ·injection e with e1 _;rw[e1]
 byValue:=fun k v h=>by
  rcases Yq h with⟨i,t,rfl,rfl⟩|⟨x,t,rfl,rfl⟩ <;> rfl
 pyHash:=fun hv h=>by
  rcases Yq hv with⟨i,t,rfl,rfl⟩|⟨x,t,rfl,rfl⟩
  ·exact wpAny_pyHash_int h
  ·exact wpAny_pyHash_str h
 eqBool:=fun hu hv h=>by
  rcases Yq hu with⟨i,t,rfl,rfl⟩|⟨x,t,rfl,rfl⟩
  ·rcases Yq hv with⟨j,u,rfl,rfl⟩|⟨y,u,rfl,rfl⟩
   ·rw[t5]at h;exact wpAny_eqBool_int h
   ·rw[vh]at h;exact SeqAt.EqAt.int_str i t y u _ _ _ _ h
  ·rcases Yq hv with⟨j,u,rfl,rfl⟩|⟨y,u,rfl,rfl⟩
   ·rw[ut]at h;exact SeqAt.EqAt.str_int x t j u _ _ _ _ h
   ·rw[vJ]at h;exact wpAny_eqBool_str h
 «strs»:=fun k x t v h=>by
  rcases Yq h with⟨i,u,rfl,e⟩|⟨y,u,rfl,e⟩
  ·exact nomatch e
  ·injection e with e1 _
   subst e1;cases v <;> rfl
theorem Ui(prog:Program)(w:World)(i:Int)(t:Tok):(ak prog w).is (.inl i) (.int i t)=true:=mj i t
theorem f_(prog:Program)(w:World)(x:Str)(t:Tok):(ak prog w).is (.inr x) (.str x t)=true:=mQ x t
inductive V where
 |non | bl (b:Bool) | int (i:Int) | str (x:Str) | byt (b:Array UInt8) | flt (b:UInt64) | ref (a:Addr) | ty (n:String)
 deriving DecidableEq
def RelV:V→Value→Prop
 |.non,u=>u=Value.none
 |.bl b,u=>u=Value.bool b
 |.int i,u=>∃t,u=Value.int i t
 |.str x,u=>∃t,u=Value.str x t
 |.byt b,u=>∃t,u=Value.bytes b t
 |.flt b,u=>∃t,u=Value.float b t
 |.ref a,u=>u=Value.ref a
 |.ty n,u=>u=Value.type n
abbrev Vals:List V→List Value→Prop:=Paired RelV
theorem Vals.length{xs:List V}{us:List Value}(r:Vals xs us):xs.length=us.length:=xL r
theorem Vals.get:∀{xs:List V}{us:List Value}{i:Nat}{x:V},Vals xs us→xs[i]?=some x→∃u,us[i]?=some u∧RelV x u
 |_,_,_,_,.nil,e=>by simp at e
 |_,_,0,_,.cons r _,e=>by simp at e;subst e;exact⟨_,rfl,r⟩
 |_,_,i+1,x,.cons _ t,e=>by
  obtain⟨u,h1,h2⟩:=Vals.get (i:=i) (x:=x) t (by simpa using e);exact⟨u,by simpa using h1,h2⟩
theorem Vals.set{x:V}{u:Value}(r:RelV x u):∀{xs:List V}{us:List Value}(i:Nat),Vals xs us→Vals (xs.set i x) (us.set i u)
 |_,_,_,.nil=>.nil
 |_,_,0,.cons _ t=>.cons r t
 |_,_,i+1,.cons q t=>.cons q (Vals.set r i t)
theorem Vals.append{xs ys:List V}{us ws:List Value}(h:Vals xs us)(s:Vals ys ws):Vals (xs++ys) (us++ws):=by
 induction h with
 |nil=>exact s
 |cons r t ih=>exact .cons r ih
theorem Vals.take:∀{xs:List V}{us:List Value}(n:Nat),Vals xs us→Vals (xs.take n) (us.take n)
 |_,_,0,_=>.nil
 |_,_,_+1,.nil=>.nil
 |_,_,n+1,.cons r t=>.cons r (Vals.take n t)
theorem Vals.drop:∀{xs:List V}{us:List Value}(n:Nat),Vals xs us→Vals (xs.drop n) (us.drop n)
 |_,_,0,r=>r
 |_,_,_+1,.nil=>.nil
 |_,_,n+1,.cons _ t=>Vals.drop n t
def RelO:Option V→Option Value→Prop
 |some v,some u=>RelV v u
 |none,none=>True
 |_,_=>False
def KV{κ:Type}:List (κ×V)→List (κ×Value)→Prop:=Paired fun(p:κ×V)(q:κ×Value)=>p.1=q.1∧RelV p.2 q.2
def kV:Key→V
 |.inl i=>.int i
 |.inr x=>.str x
inductive HO where
 |lst (xs:List V)
 |tup (xs:List V)
 |dK (kvs:List (Key×V)) | dT (kvs:List (List Key×V))
 |set (S:Int→Bool) (n:Nat)
 |ins (C dx:Addr) (fs:List (Str×V))
 |own (x:Addr)
 |xd (fs:List (Str×V))
 |met (f x:Addr)
 |rng (lo hi:Int)
 |frz (o:Obj) (u:HO)
 |tbl (ps:Array Value)
 |ext (φ:Heap→Prop)
abbrev Hp:=Addr→Option HO
def upd(H:Hp)(a:Addr)(o:HO):Hp:=fun b=>if b=a then some o else H b
theorem Z2{H:Hp}{a:Addr}{o:HO}:upd H a o a=some o:=by unfold upd;rw[xC rfl]
theorem Za{H:Hp}{a b:Addr}{o:HO}(h:b≠a):upd H a o b=H b:=by unfold upd;rw[xz h]
theorem kZ{H:Hp}{a:Addr}{o u:HO}:upd (upd H a o) a u=upd H a u:=by
 funext b;unfold upd;split <;> rfl
theorem U9{H:Hp}{a b:Addr}{o u:HO}(h:H a=some o)(h':H b=some u)(d:o≠u):a≠b:=by
 intro e;subst e;rw[h]at h';exact d (xV h')
theorem Zd{H:Hp}{a b:Addr}{o:HO}(h:H a=some o)(h':H b=none):a≠b:=by
 intro e;subst e;rw[h]at h';cases h'
def TupN(h:Heap)(a:Addr)(items:Array Value):Prop:=∃o,h.get? a=some o∧(o.cls=.type "tuple"∧o.dict=none)∧∃n,o.data=.seq items n
theorem TupN.tup{h:Heap}{a:Addr}{items:Array Value}(x:TupN h a items):IsTup h a items:=let ⟨o,e,c,n,d⟩:=x;⟨o,e,c.1,n,d⟩
theorem TupN.new(h:Heap)(items:Array Value):TupN (h.push {cls:=.type "tuple",data:=.seq items}) h.objs.size items:=⟨_,xO _ rfl,⟨rfl,rfl⟩,_,rfl⟩
section
variable(P:Program)(w:World)
def ObjOk(H:Hp)(h:Heap)(a:Addr):HO→Prop
 |.lst xs=>xs.length≤sizeLine∧∃(its:List Value)(n:Nat),Vals xs its∧h.get? a=some {cls:=.type "list",data:=.seq its.toArray n}
 |.tup xs=>xs.length≤sizeLine∧∃its:List Value,Vals xs its∧TupN h a its.toArray
 |.dK kvs=>kvs.length≤sizeLine∧(a==sysModules)=false∧∃vs,KV kvs vs∧h.DictOf (ak P w) a vs
 |.dT kvs=>kvs.length≤sizeLine∧(a==sysModules)=false∧∃xs:List (List Key×Addr×Value),
   Paired (fun(p:List Key×V)(q:List Key×Addr×Value)=>p.1=q.1∧H q.2.1=some (.tup (p.1.map kV))∧RelV p.2 q.2.2) kvs xs∧
   ∃o es ep,h.get? a=some o∧o.ExactDict∧o.data=.dict es ep∧es.toList=xs.map (entryOfKey (tupleKind (ak P w)))∧(xs.map (·.1)).Nodup
 |.set S n=>h.SetOf (intKind P w) a S n
 |.ins C dx fs=>H dx=some (.own a)∧fs.length≤1000∧dx≠a∧h.get? a=some (W.instObj C dx)∧
   ∃mA,h.Ns1 dx mA∧(∀f,RelO (fs.lookup f) (mA f))∧PySem.Within mA (fs.map (·.1))
 |.own _=>∃o,h.get? a=some o
 |.xd fs=>∃mA,h.Ns1 a mA∧∀f,RelO (fs.lookup f) (mA f)
 |.rng lo hi=>∃t u v,h.get? a=some {cls:=.type "range",data:=.fields #[.int lo t,.int hi u,.int 1 v]}
 |.frz o u=>h.get? a=some o∧ObjOk H h a u
 |.tbl ps=>h.get? a=some {cls:=.none,data:=.fields ps}
 |.met f x=>h.get? a=some (W.methodObj (.ref f) (.ref x))
 |.ext φ=>φ h∧(∃o,h.get? a=some o)∧∀h1 h2:Heap,φ h1→(∀o,h1.get? a=some o→h2.get? a=some o)→φ h2
def HOk(H:Hp)(h:Heap):Prop:=∀a o,H a=some o→ObjOk P w H h a o
end
section
variable{P:Program}{w:World}{H H':Hp}{h h':Heap}{a:Addr}{o:HO}
theorem ObjOk.lt(x:ObjOk P w H h a o):a<h.objs.size:=by
 cases o with
 |lst xs=>obtain⟨_,_,_,_,e⟩:=x;exact xG e
 |tup xs=>obtain⟨_,_,_,p⟩:=x;exact p.tup.lt
 |dK kvs=>obtain⟨_,_,_,_,o,_,_,e,_⟩:=x;exact xG e
 |dT kvs=>obtain⟨_,_,_,_,o,_,_,e,_⟩:=x;exact xG e
 |set S n=>obtain⟨o,_,_,_,e,_⟩:=x;exact xG e
 |ins C dx fs=>obtain⟨_,_,_,e,_⟩:=x;exact xG e
 |own y=>obtain⟨_,e⟩:=x;exact xG e
 |xd fs=>obtain⟨_,⟨_,_,_,e,_⟩,_⟩:=x;exact xG e
 |rng lo hi=>obtain⟨_,_,_,e⟩:=x;exact xG e
 |frz ob u=>obtain⟨e,_⟩:=x;exact xG e
 |tbl ps=>exact xG (show h.get? a=some _ from x)
 |met f y=>exact xG (show h.get? a=some _ from x)
 |ext φ=>obtain⟨_,⟨_,e⟩,_⟩:=x;exact xG e
theorem Paired.mapP{α β:Type}{F G:α→β→Prop}{l₁:List α}{l₂:List β}(h:Paired F l₁ l₂)(f:∀a b,F a b→G a b):Paired G l₁ l₂:=by
 induction h with
 |nil=>exact .nil
 |cons r t ih=>exact .cons (f _ _ r) ih
theorem ObjOk.stay(x:ObjOk P w H h a o)(k:∀b u,(b=a∨H b=some (.own a))→h.get? b=some u→h'.get? b=some u)(ho:∀b,H b=some (.own a)→H' b=some (.own a))(ht:∀b xs,H b=some (.tup xs)→H' b=some (.tup xs)):ObjOk P w H' h' a o:=by
 induction o with
 |lst xs=>obtain⟨z,its,n,r,e⟩:=x;exact⟨z,its,n,r,k _ _ (.inl rfl) e⟩
 |tup xs=>obtain⟨z,its,r,ob,e,c⟩:=x;exact⟨z,its,r,ob,k _ _ (.inl rfl) e,c⟩
 |dK kvs=>obtain⟨z,y,vs,r,ob,es,ep,e,c⟩:=x;exact⟨z,y,vs,r,ob,es,ep,k _ _ (.inl rfl) e,c⟩
 |dT kvs=>
  obtain⟨z,y,xs,r,ob,es,ep,e,c⟩:=x;exact⟨z,y,xs,Paired.mapP r fun p q z=>⟨z.1,ht _ _ z.2.1,z.2.2⟩,ob,es,ep,k _ _ (.inl rfl) e,c⟩
 |set S n=>obtain⟨ob,es,ep,t,e,c⟩:=x;exact⟨ob,es,ep,t,k _ _ (.inl rfl) e,c⟩
 |ins C dx fs=>
  obtain⟨d,z,ne,e,mA,⟨od,es,ep,e2,c⟩,r⟩:=x;exact⟨ho _ d,z,ne,k _ _ (.inl rfl) e,mA,⟨od,es,ep,k _ _ (.inr d) e2,c⟩,r⟩
 |own y=>obtain⟨ob,e⟩:=x;exact⟨ob,k _ _ (.inl rfl) e⟩
 |xd fs=>obtain⟨mA,⟨od,es,ep,e,c⟩,r⟩:=x;exact⟨mA,⟨od,es,ep,k _ _ (.inl rfl) e,c⟩,r⟩
 |rng lo hi=>obtain⟨t,u,v,e⟩:=x;exact⟨t,u,v,k _ _ (.inl rfl) e⟩
 |frz ob u ih=>obtain⟨e,q⟩:=x;exact⟨k _ _ (.inl rfl) e,ih q⟩
 |tbl ps=>
  have e:h.get? a=some {cls:=.none,data:=.fields ps}:=x;show h'.get? a=some {cls:=.none,data:=.fields ps};exact k a _ (.inl rfl) e
 |met f y=>
  have e:h.get? a=some (W.methodObj (.ref f) (.ref y)):=x;show h'.get? a=some (W.methodObj (.ref f) (.ref y));exact k a _ (.inl rfl) e
 |ext φ=>obtain⟨p,⟨o,e⟩,st⟩:=x;exact⟨st _ _ p fun o q=>k _ _ (.inl rfl) q,⟨o,k _ _ (.inl rfl) e⟩,st⟩
theorem HOk.lt(x:HOk P w H h)(e:H a=some o):a<h.objs.size:=(x a o e).lt
theorem HOk.fresh(x:HOk P w H h)(e:h.objs.size≤a):H a=none:=by
 cases q:H a with
 |none=>rfl
 |some u=>exact absurd (xS (x.lt q) e) (y9 _)
theorem HOk.kept(x:HOk P w H h)(k:∀b u,h.get? b=some u→h'.get? b=some u):HOk P w H h':=fun a o e=>
 (x a o e).stay (fun b u _ q=>k b u q) (fun _ q=>q) fun _ _ q=>q
theorem HOk.laid(x:HOk P w H h)(k:∀b u,h.get? b=some u→h'.get? b=some u)(hp:h.objs.size≤a)(new:ObjOk P w (upd H a o) h' a o):HOk P w (upd H a o) h':=fun b u e=>by
 have hn:=x.fresh hp;by_cases hb:b=a
 ·subst hb;rw[Z2]at e;cases e;exact new
 ·rw[Za hb]at e;exact(x b u e).stay (fun c v _ q=>k c v q) (fun c q=>by rw[Za (Zd q hn)];exact q) fun c xs q=>by rw[Za (Zd q hn)];exact q
end
def Rd(H:Hp)(a:Addr)(u:HO):Prop:=H a=some u∨∃o,H a=some (.frz o u)
theorem Rd.ok{P:Program}{w:World}{H:Hp}{h:Heap}{a:Addr}{u:HO}(r:Rd H a u)(x:HOk P w H h):ObjOk P w H h a u:=by
 rcases r with r | ⟨o,r⟩
 ·exact x a u r
 ·obtain⟨_,q⟩:=x a _ r;exact q
def Mut:Option HO→Prop
 |some (.lst _)=>True
 |some (.dK _)=>True
 |some (.dT _)=>True
 |some (.set _ _)=>True
 |some (.ins _ _ _)=>True
 |some (.ext _)=>True
 |_=>False
section
variable{P:Program}{w:World}{H:Hp}{h h':Heap}{x e:Addr}{o':HO}
theorem HOk.write(ok:HOk P w H h)(mu:Mut (H x))(he:e=x∨H e=some (.own x))(k:∀b u,b≠e→h.get? b=some u→h'.get? b=some u)(heo:∃u,h'.get? e=some u)(new:ObjOk P w (upd H x o') h' x o'):HOk P w (upd H x o') h':=fun b u q=>by
 have nown:∀c y,H c=some (.own y)→c≠x:=fun c y r z=>by subst z;rw[r]at mu;exact mu
 have ntup:∀c xs,H c=some (.tup xs)→c≠x:=fun c xs r z=>by subst z;rw[r]at mu;exact mu
 by_cases hb:b=x
 ·subst hb;rw[Z2]at q;cases q;exact new
 ·rw[Za hb]at q;by_cases hbe:b=e
  ·have q':H b=some (.own x):=by
    rcases he with z | z
    ·exact absurd (hbe.trans z) hb
    ·rw[hbe];exact z
   rw[q]at q';cases q';obtain⟨v,hv⟩:=heo;exact⟨v,by rw[hbe];exact hv⟩
  ·refine(ok b u q).stay (fun c v hc r=>k c v ?_ r) (fun c r=>by rw[Za (nown c b r)];exact r) fun c xs r=>by rw[Za (ntup c xs r)];exact r
   rcases hc with rfl | hc
   ·exact hbe
   ·rintro rfl
    rcases he with z | z
    ·exact nown c b hc z
    ·rw[hc]at z;cases z;exact hb rfl
end
structure Un(fs ex:List Addr)(H H':Hp)(h h':Heap):Prop where
 keep:∀b o,h.get? b=some o→H b=none→b∉fs→b∉ex→h'.get? b=some o
 slot:∀b o,h.get? b=some o→H b=none→b∈fs→b∉ex→∃sl,h'.get? b=some {o with slots:=sl}
 free:∀b o,h.get? b=some o→H b=none→b∉ex→H' b=none
 there:∀b o,h.get? b=some o→b∉ex→∃o',h'.get? b=some o'
 tups:∀b xs,H b=some (.tup xs)→H' b=some (.tup xs)
 frzs:∀b o u,H b=some (.frz o u)→H' b=some (.frz o u)
 tbls:∀b ps,H b=some (.tbl ps)→∃more,H' b=some (.tbl (ps++more))
section
variable{fs fs' ex ex':List Addr}{H H1 H2:Hp}{h h1 h2 h':Heap}{a x e:Addr}{o:HO}
theorem Un.any(u:Un fs ex H H1 h h1){b:Addr}{ob:Obj}(q:h.get? b=some ob)(n:H b=none)(hx:b∉ex):∃sl,h1.get? b=some {ob with slots:=sl}:=by
 by_cases hb:b∈fs
 ·exact u.slot b ob q n hb hx
 ·exact⟨ob.slots,u.keep b ob q n hb hx⟩
theorem Un.kept(k:∀b u,h.get? b=some u→h'.get? b=some u):Un fs ex H H h h':=
 ⟨fun b ob q _ _ _=>k b ob q,fun b ob q _ _ _=>⟨ob.slots,k b ob q⟩,fun _ _ _ n _=>n,fun b ob q _=>⟨ob,k b ob q⟩,fun _ _ q=>q,fun _ _ _ q=>q,fun _ ps q=>⟨#[],by rw[q];simp⟩⟩
theorem Un.refl:Un fs ex H H h h:=Un.kept fun _ _ q=>q
theorem Un.laid(k:∀b u,h.get? b=some u→h'.get? b=some u)(hp:h.objs.size≤a)(hn:H a=none):Un fs ex H (upd H a o) h h' where
 keep:=fun b u q _ _ _=>k b u q
 slot:=fun b u q _ _ _=>⟨u.slots,k b u q⟩
 free:=fun b u q n _=>by rw[Za (xM (xS (xG q) hp))];exact n
 there:=fun b u q _=>⟨u,k b u q⟩
 tups:=fun b xs q=>by rw[Za (Zd q hn)];exact q
 frzs:=fun b u xs q=>by rw[Za (Zd q hn)];exact q
 tbls:=fun b ps q=>⟨#[],by rw[Za (Zd q hn),q];simp⟩
theorem Un.write(mu:Mut (H x))(he:e=x∨H e=some (.own x))(k:∀b u,b≠e→h.get? b=some u→h'.get? b=some u)(heo:∃u,h'.get? e=some u):Un fs ex H (upd H x o) h h':=by
 have hx:∀b,H b=none→b≠x:=fun b n z=>by subst z;rw[n]at mu;exact mu
 have hb:∀b,H b=none→b≠e:=fun b n z=>by
  subst z
  rcases he with r | r
  ·exact hx b n r
  ·rw[n]at r;cases r
 have hm:∀b u,H b=some u→¬Mut (some u)→b≠x:=fun b u q nm z=>by subst z;rw[q]at mu;exact nm mu
 refine⟨fun b u q n _ _=>k b u (hb b n) q,fun b u q n _ _=>⟨u.slots,k b u (hb b n) q⟩,fun b u q n _=>by rw[Za (hx b n)];exact n,fun b u q _=>?_,
  fun b xs q=>by rw[Za (hm b _ q fun z=>z)];exact q,fun b u xs q=>by rw[Za (hm b _ q fun z=>z)];exact q,fun b ps q=>⟨#[],by rw[Za (hm b _ q fun z=>z),q];simp⟩⟩
 by_cases hbe:b=e
 ·subst hbe;exact heo
 ·exact⟨u,k b u hbe q⟩
end
def trk(h:Heap)(H:Hp):List Addr:=(List.range h.objs.size).filter fun a=>(H a).isSome
def eI(h:Heap)(H:Hp):Heap:=W.hideAll h (trk h H)
theorem mI(h:Heap)(H:Hp):(eI h H).objs.size=h.objs.size:=W.hideAll_size _ _
theorem nN{h:Heap}{H:Hp}{b:Addr}{o:Obj}(e:h.get? b=some o)(n:H b=none):(eI h H).get? b=some o:=
 W.hideAll_get _ e fun hm=>by
  have q:(H b).isSome=true:=(x6.mp hm).2;rw[n]at q;simp at q
theorem r8{h:Heap}{H:Hp}{b:Addr}{o:Obj}(e:(eI h H).get? b=some o):h.get? b=some o∧H b=none:=by
 have e':h.get? b=some o:=W.of_hideAll (trk h H) e;refine⟨e',?_⟩;cases q:H b with
 |none=>rfl
 |some x=>
  have hm:b∈trk h H:=List.mem_filter.mpr ⟨List.mem_range.mpr (Heap.lt_size e'),by simp[q]⟩;have z:(eI h H).get? b=none:=W.hideAll_none (trk h H) hm;rw[z]at e;cases e
structure Mod(K:W.Frag)(mg:Str→Option Value)(base:Heap):Prop where
 kin:K.In base
 glob:base.Ns mainGlobals mg
 blt:∃mb,base.Ns builtinsNs mb∧∀x:Str,x≠"__name__"→mb x=bootBuiltins x
 nolimit:base.NoLimit
structure Cx where
 prog:Program
 w:World
 K:W.Frag
 mg:Str→Option Value
 base:Heap
 A:Around
 N:List Str
 s₀:Shared
 H₀:Hp
 env:Env
 outer:List Env
 stack:List Env
 ex:List Addr
 fn:Str→Bool
 calm:Bool
 pn:List (Addr×Obj)
 xe:Value→Shared→Prop
def frs(l:List Env):List Addr:=l.filterMap (·.frame)
abbrev Cx.fs(X:Cx):List Addr:=frs X.outer
def Vis(sc:Scope)(x:Str):Prop:=sc.names.lookup x=some .local∨sc.names.lookup x=some .cell∨sc.names.lookup x=some .free
def Loc(sc:Scope)(x:Str):Prop:=sc.names.lookup x=some .local∨sc.names.lookup x=some .cell
def Look(env:Env)(h:Heap)(m:Str→Option Value)(x:Str)(u:Value):Prop:=
 (env.kindOf x=some .local∧m x=some u)∨((env.kindOf x=some .cell∨env.kindOf x=some .free)∧∃c,env.cells.lookup x=some c∧h.IsCell c (some u))
structure Cx.Ok(X:Cx):Prop where
 mod:Mod X.K X.mg X.base
 kind:X.env.scope.kind=.function
 glob:X.env.globals=mainGlobals
 blt:X.env.builtins=builtinsNs
 above:X.s₀.heap.objs.size≤X.env.locals
 inj:∀x y c,X.env.cells.lookup x=some c→X.env.cells.lookup y=some c→x=y
 has:∀x,(X.env.kindOf x=some .cell∨X.env.kindOf x=some .free)→∃c,X.env.cells.lookup x=some c
 cab:∀x c,X.fn x=true→X.env.cells.lookup x=some c→X.s₀.heap.objs.size≤c
 hd:X.calm=true→X.A.handled=none
 frames:X.A.frames=some X.stack
 stk:X.stack=X.outer∨(X.stack=X.env::X.outer∧X.env.frame=some X.env.locals)
 exf:∀b∈X.ex,b≠X.env.locals∧∀x c,X.env.cells.lookup x=some c→c≠b
 bs:∀b o,X.base.get? b=some o→X.s₀.heap.get? b=some o∧X.H₀ b=none
 bsz:X.base.objs.size≤X.s₀.heap.objs.size
 noex:∀b o,X.base.get? b=some o→b∉X.ex
 exfs:∀b∈X.ex,b∉X.fs
 funs:X.s₀.heap.FunFrames X.base X.outer
 frf:∀b∈X.fs,X.H₀ b=none
structure Inv(X:Cx)(As:List (Addr×Obj))(σ:List (Option V))(H:Hp)(s:Shared):Prop where
 ok:X.Ok
 os:s.os=X.s₀.os
 bare:AllBare s.gens
 base:Un X.fs X.ex X.H₀ H X.s₀.heap s.heap
 loc:∃m,s.heap.Ns X.env.locals m∧∀(i:Nat)(x:Str)(v:V),X.N[i]?=some x→σ[i]?=some (some v)→Vis X.env.scope x→∃u,RelV v u∧Look X.env s.heap m x u
 cell:∀x c,X.env.cells.lookup x=some c→∃v,s.heap.IsCell c v
 free:H X.env.locals=none
 freeC:∀x c,X.env.cells.lookup x=some c→H c=none
 pin:∀p∈X.pn++As,s.heap.get? p.1=some p.2∧H p.1=none∧p.1≠X.env.locals∧p.1∉X.fs∧∀v,p.2.data≠.cell v
 hok:HOk X.prog X.w H s.heap
 len:σ.length=X.N.length
section
variable{X:Cx}{As:List (Addr×Obj)}{σ:List (Option V)}{H H':Hp}{s:Shared}{h':Heap}
theorem Cx.Ok.nofr(ok:X.Ok){b:Addr}{o:Obj}(e:X.base.get? b=some o):b∉X.fs:=fun hb=>by
 have:=(ok.funs.mem hb).1;rw[e]at this;cases this
theorem Inv.bs(I:Inv X As σ H s):∀b o,X.base.get? b=some o→s.heap.get? b=some o∧H b=none:=fun b o e=>
 ⟨I.base.keep b o (I.ok.bs b o e).1 (I.ok.bs b o e).2 (I.ok.nofr e) (I.ok.noex b o e),I.base.free b o (I.ok.bs b o e).1 (I.ok.bs b o e).2 (I.ok.noex b o e)⟩
theorem Inv.bk(I:Inv X As σ H s):∀b o,X.base.get? b=some o→s.heap.get? b=some o:=fun b o e=>(I.bs b o e).1
theorem Inv.mod(I:Inv X As σ H s):Mod X.K X.mg X.base:=I.ok.mod
theorem Inv.kIn(I:Inv X As σ H s):X.K.In s.heap:=I.ok.mod.kin.keeps I.bk
theorem Inv.lt(I:Inv X As σ H s):X.env.locals<s.heap.objs.size:=let ⟨_,hn,_⟩:=I.loc;hn.lt
theorem Inv.sz(I:Inv X As σ H s):X.s₀.heap.objs.size≤s.heap.objs.size:=yi I.ok.above (zw I.lt)
theorem Inv.nofs(I:Inv X As σ H s){a:Addr}(h:s.heap.objs.size≤a):a∉X.fs:=fun hb=>by
 obtain⟨_,o,ho,_⟩:=I.ok.funs.mem hb;exact absurd (xS (xG ho) (yi I.sz h)) (y9 _)
theorem Inv.cne(I:Inv X As σ H s):∀x c,X.env.cells.lookup x=some c→c≠X.env.locals:=fun x c e z=>by
 obtain⟨v,o,ho,hd⟩:=I.cell x c e;obtain⟨m,⟨o',es,ep,ho',hd',_⟩,_⟩:=I.loc;rw[z,ho']at ho;cases ho;rw[hd']at hd;cases hd
theorem Inv.funs(I:Inv X As σ H s):s.heap.FunFrames X.base X.outer:=by
 have all:∀(l:List Env),(∀b∈frs l,b∈X.fs)→X.s₀.heap.FunFrames X.base l→s.heap.FunFrames X.base l:=by
  intro l
  induction l with
  |nil=>intro _ _;trivial
  |cons env r ih=>
   intro hs hl;obtain⟨hk,⟨L,o,hf,hn,ho,hd⟩,hr⟩:=hl;have hL:L∈X.fs:=hs L (by unfold frs;rw[List.filterMap_cons,hf];exact yj);obtain⟨sl,e⟩:=I.base.slot L o ho (I.ok.frf L hL) hL fun z=>I.ok.exfs L z hL;exact⟨hk,⟨L,_,hf,hn,e,hd⟩,ih (fun b hb=>hs b (by unfold frs;rw[List.filterMap_cons,hf];exact yq _ hb)) hr⟩
 exact all X.outer (fun _ hb=>hb) I.ok.funs
theorem Inv.stack(I:Inv X As σ H s):s.heap.FunFrames X.base X.stack:=by
 rcases I.ok.stk with e | ⟨e,hf⟩
 ·rw[e];exact I.funs
 ·rw[e];obtain⟨m,hn,_⟩:=I.loc;refine .cons (by rw[I.ok.kind];decide) hf hn ?_ I.funs;exact Heap.get?_none_of_le (yi I.ok.bsz I.ok.above)
theorem Inv.stkSub(I:Inv X As σ H s):∀b∈frs X.stack,b∈X.env.locals::X.fs:=fun b hb=>by
 rcases I.ok.stk with e | ⟨e,hf⟩
 ·rw[e]at hb;exact yq _ hb
 ·rw[e]at hb;unfold frs at hb;rw[List.filterMap_cons,hf]at hb;exact hb
theorem Inv.stkFree(I:Inv X As σ H s):∀b∈frs X.stack,H b=none:=fun b hb=>by
 rcases xQ.mp (I.stkSub b hb)with e | hb
 ·rw[e];exact I.free
 ·obtain⟨_,o,ho,_⟩:=I.ok.funs.mem hb;exact I.base.free b o ho (I.ok.frf b hb) fun z=>I.ok.exfs b z hb
theorem Inv.step{g':Array GenState}{t':Nat}{d':Drawn}{ch:List Addr}(I:Inv X As σ H s)(hch:∀b∈ch,(b∈X.ex∨X.s₀.heap.objs.size≤b)∧b≠X.env.locals∧(∀x c,X.env.cells.lookup x=some c→c≠b)∧∀p∈X.pn++As,p.1≠b)(keep:∀b o,b≠X.env.locals→b∉X.fs→b∉ch→s.heap.get? b=some o→H b=none→h'.get? b=some o)(slot:∀b o,b≠X.env.locals→b∈X.fs→b∉ch→s.heap.get? b=some o→H b=none→∃sl,h'.get? b=some {o with slots:=sl})(free:∀b o,b∉ch→s.heap.get? b=some o→H b=none→H' b=none)(there:∀b o,b∉ch→s.heap.get? b=some o→∃o',h'.get? b=some o')(tups:∀b xs,H b=some (.tup xs)→H' b=some (.tup xs))(frzs:∀b o u,H b=some (.frz o u)→H' b=some (.frz o u))(tbls:∀b ps,H b=some (.tbl ps)→∃more,H' b=some (.tbl (ps++more)))(ns:∀m,s.heap.Ns X.env.locals m→h'.Ns X.env.locals m)(hok:HOk X.prog X.w H' h')(hg:AllBare g'):
  Inv X As σ H' {s with heap:=h',gens:=g',drawn:=d',toks:=t'}:=by
 have neL:∀b o,X.s₀.heap.get? b=some o→b≠X.env.locals:=fun b o e=>xM (xS (xG e) I.ok.above);have neC:∀b o,X.s₀.heap.get? b=some o→b∉X.ex→b∉ch:=fun b o e hx hb=>by
  rcases(hch b hb).1 with z | z
  ·exact hx z
  ·exact absurd (xS (xG e) z) (y9 _)
 have cellK:∀x c,X.env.cells.lookup x=some c→∀v,s.heap.IsCell c v→h'.IsCell c v:=fun x c e v ⟨o,ho,hd⟩=>by
  have nch:c∉ch:=fun z=>(hch c z).2.2.1 x c e rfl;by_cases hc:c∈X.fs
  ·obtain⟨sl,q⟩:=slot c o (I.cne x c e) hc nch ho (I.freeC x c e);exact⟨_,q,hd⟩
  ·exact⟨o,keep c o (I.cne x c e) hc nch ho (I.freeC x c e),hd⟩
 refine⟨I.ok,I.os,hg,⟨fun b o e n hb hx=>?_,fun b o e n hb hx=>?_,fun b o e n hx=>?_,fun b o e hx=>?_,fun b xs e=>tups b xs (I.base.tups b xs e),fun b o xs e=>frzs b o xs (I.base.frzs b o xs e),fun b ps e=>?_⟩,?_,fun x c e=>?_,?_,fun x c e=>?_,fun p hp=>?_,hok,I.len⟩
 ·exact keep b o (neL b o e) hb (neC b o e hx) (I.base.keep b o e n hb hx) (I.base.free b o e n hx)
 ·obtain⟨sl,e1⟩:=I.base.slot b o e n hb hx;obtain⟨sl',e2⟩:=slot b _ (neL b o e) hb (neC b o e hx) e1 (I.base.free b o e n hx);exact⟨sl',e2⟩
 ·obtain⟨o',e1⟩:=I.base.there b o e hx;exact free b o' (neC b o e hx) e1 (I.base.free b o e n hx)
 ·obtain⟨o',e1⟩:=I.base.there b o e hx;exact there b o' (neC b o e hx) e1
 ·obtain⟨m1,e1⟩:=I.base.tbls b ps e;obtain⟨m2,e2⟩:=tbls b _ e1;exact⟨m1++m2,by rw[e2,Array.append_assoc]⟩
 ·obtain⟨m,hn,hl⟩:=I.loc;refine⟨m,ns m hn,fun i x v e1 e2 e3=>?_⟩;obtain⟨u,r,l⟩:=hl i x v e1 e2 e3;refine⟨u,r,?_⟩
  rcases l with l | ⟨k,c,e,z⟩
  ·exact .inl l
  ·exact .inr ⟨k,c,e,cellK x c e _ z⟩
 ·obtain⟨v,z⟩:=I.cell x c e;exact⟨v,cellK x c e v z⟩
 ·obtain⟨m,⟨o,_,_,ho,_⟩,_⟩:=I.loc;exact free _ o (fun z=>(hch _ z).2.1 rfl) ho I.free
 ·obtain⟨v,o,ho,hd⟩:=I.cell x c e;exact free c o (fun z=>(hch c z).2.2.1 x c e rfl) ho (I.freeC x c e)
 ·obtain⟨e,n,ne,nf,d⟩:=I.pin p hp;have nch:p.1∉ch:=fun z=>(hch p.1 z).2.2.2 p hp rfl;exact⟨keep p.1 p.2 ne nf nch e n,free p.1 p.2 nch e n,ne,nf,d⟩
theorem Inv.un{t':Nat}(I:Inv X As σ H s)(u:Un X.fs [] H H' s.heap h')(hok:HOk X.prog X.w H' h'):Inv X As σ H' {s with heap:=h',toks:=t'}:=by
 obtain⟨m,⟨o,es,ep,ho,r⟩,_⟩:=id I.loc;obtain⟨sl,hL⟩:=u.any ho I.free (by simp);exact I.step (g':=s.gens) (d':=s.drawn) (ch:=[]) (fun _ z=>nomatch z) (fun b o _ hb _ e n=>u.keep b o e n hb (by simp)) (fun b o _ hb _ e n=>u.slot b o e n hb (by simp)) (fun b o _ e n=>u.free b o e n (by simp)) (fun b o _ e=>u.there b o e (by simp)) u.tups u.frzs u.tbls (fun m' hm=>by
  obtain⟨o',es',ep',ho',r'⟩:=hm;rw[ho]at ho';cases ho';exact⟨_,es',ep',hL,r'⟩) hok I.bare
theorem Inv.call{g':Array GenState}{t':Nat}{d':Drawn}{ch:List Addr}(I:Inv X As σ H s)(u:Un (frs X.stack) ch H H' s.heap h')(hok:HOk X.prog X.w H' h')(hg:AllBare g')(hch:∀b∈ch,(b∈X.ex∨X.s₀.heap.objs.size≤b)∧b≠X.env.locals∧(∀x c,X.env.cells.lookup x=some c→c≠b)∧∀p∈X.pn++As,p.1≠b):
  Inv X As σ H' {s with heap:=h',gens:=g',drawn:=d',toks:=t'}:=by
 obtain⟨m,⟨o,es,ep,ho,r⟩,_⟩:=id I.loc;obtain⟨sl,hL⟩:=u.any ho I.free fun z=>(hch _ z).2.1 rfl;exact I.step (ch:=ch) hch (fun b o hL hb hc e n=>u.keep b o e n (fun z=>(xQ.mp (I.stkSub b z)).elim hL hb) hc) (fun b o _ _ hc e n=>u.any e n hc) (fun b o hc e n=>u.free b o e n hc) (fun b o hc e=>u.there b o e hc) u.tups u.frzs u.tbls (fun m' hm=>by
  obtain⟨o',es',ep',ho',r'⟩:=hm;rw[ho]at ho';cases ho';exact⟨_,es',ep',hL,r'⟩) hok hg
theorem Inv.turned{t':Nat}{it:Addr}(I:Inv X As σ H s)(k:∀b o,b≠it→s.heap.get? b=some o→h'.get? b=some o)(hn:H it=none)(hL:it≠X.env.locals)(h1:it∈X.ex∨X.s₀.heap.objs.size≤it)(h2:∀x c,X.env.cells.lookup x=some c→c≠it)(h3:∀p∈X.pn++As,p.1≠it):Inv X As σ H {s with heap:=h',toks:=t'}:=by
 have nit:∀b u,H b=some u→b≠it:=fun b u e z=>by rw[z,hn]at e;cases e
 refine I.step (g':=s.gens) (d':=s.drawn) (ch:=[it]) (fun b hb=>?_) (fun b o _ _ hc e _=>k b o (fun z=>hc (by simp[z])) e) (fun b o _ _ hc e _=>⟨o.slots,k b o (fun z=>hc (by simp[z])) e⟩) (fun _ _ _ _ n=>n)
  (fun b o hc e=>⟨o,k b o (fun z=>hc (by simp[z])) e⟩) (fun _ _ e=>e) (fun _ _ _ e=>e) (fun b ps e=>⟨#[],by rw[e];simp⟩) (fun m hm=>?_) (fun b u e=>?_) I.bare
 ·have e:b=it:=by simpa using hb
  subst e;exact⟨h1,hL,h2,h3⟩
 ·obtain⟨o,es,ep,ho,r⟩:=hm;exact⟨o,es,ep,k _ o (Ne.symm hL) ho,r⟩
 ·refine(I.hok b u e).stay (fun c v hc q=>k c v ?_ q) (fun _ q=>q) fun _ _ q=>q
  rcases hc with z | z
  ·rw[z];exact nit b u e
  ·exact nit c _ z
theorem Inv.tok(I:Inv X As σ H s)(t:Nat):Inv X As σ H {s with toks:=t}:=I.un (h':=s.heap) (t':=t) Un.refl I.hok
theorem Inv.kept{t':Nat}(I:Inv X As σ H s)(k:∀b u,s.heap.get? b=some u→h'.get? b=some u):Inv X As σ H {s with heap:=h',toks:=t'}:=I.un (Un.kept k) (I.hok.kept k)
theorem Inv.laid{a:Addr}{o:HO}{t':Nat}(I:Inv X As σ H s)(k:∀b u,s.heap.get? b=some u→h'.get? b=some u)(hp:s.heap.objs.size≤a)(new:ObjOk X.prog X.w (upd H a o) h' a o):
  Inv X As σ (upd H a o) {s with heap:=h',toks:=t'}:=I.un (Un.laid k hp (I.hok.fresh hp)) (I.hok.laid k hp new)
theorem Inv.write{x e:Addr}{o:HO}{t':Nat}(I:Inv X As σ H s)(mu:Mut (H x))(he:e=x∨H e=some (.own x))(k:∀b u,b≠e→s.heap.get? b=some u→h'.get? b=some u)(heo:∃u,h'.get? e=some u)(new:ObjOk X.prog X.w (upd H x o) h' x o):Inv X As σ (upd H x o) {s with heap:=h',toks:=t'}:=I.un (Un.write mu he k heo) (I.hok.write mu he k heo new)
theorem Inv.weak{σ':List (Option V)}(I:Inv X As σ H s)(hl:σ'.length=σ.length)(w:∀(i:Nat) v,σ'[i]?=some (some v)→σ[i]?=some (some v)):Inv X As σ' H s:=
 ⟨I.ok,I.os,I.bare,I.base,let ⟨m,hn,hl'⟩:=I.loc;⟨m,hn,fun i x v e1 e2 e3=>hl' i x v e1 (w i v e2) e3⟩,I.cell,I.free,I.freeC,I.pin,I.hok,hl.trans I.len⟩
theorem Inv.pins_of{pins':List (Addr×Obj)}(I:Inv X As σ H s)(h:∀p∈pins',s.heap.get? p.1=some p.2∧H p.1=none∧p.1≠X.env.locals∧p.1∉X.fs∧∀v,p.2.data≠.cell v):Inv X pins' σ H s:=
 ⟨I.ok,I.os,I.bare,I.base,I.loc,I.cell,I.free,I.freeC,fun p hp=>(xR.mp hp).elim (fun z=>I.pin p (yC _ z)) (h p),I.hok,I.len⟩
theorem gt{N:List Str}(hN:N.Nodup){i j:Nat}{x:Str}(a:N[i]?=some x)(b:N[j]?=some x):i=j:=by
 obtain⟨h1,e1⟩:=xI.mp a;obtain⟨h2,e2⟩:=xI.mp b;exact(List.getElem_inj hN).mp (e1.trans e2.symm)
theorem O0{M:Model}{A:Around}{E:Value→Shared→Prop}{i:Nat}{x:Str}{v:V}{u:Value}{Q:Unit→Shared→Prop}(I:Inv X As σ H s)(hN:X.N.Nodup)(hi:X.N[i]?=some x)(hx:Loc X.env.scope x)(r:RelV v u)(h:∀s',Inv X As (σ.set i (some v)) H s'→(∃a,Heap.SameBut a s.heap s'.heap∧(a=X.env.locals∨X.env.cells.lookup x=some a))→Q () s')(hf:X.fn x=true∨X.env.scope.names.lookup x=some .local:=by first | exact .inl rfl | exact .inr rfl | assumption):wpAny M A (storeName X.env x u) Q E s:=by
 obtain⟨m,hn,hl⟩:=id I.loc;have hcls:(X.env.scope.kind==.class || (X.env.scope.kind==.module && X.env.locals != X.env.globals))=false:=by rw[I.ok.kind];rfl
 have hiσ:i<σ.length:=by rw[I.len];exact(xI.mp hi).1
 have cne:=I.cne;have tracked:∀{a:Addr}{h':Heap},(∃o,s.heap.get? a=some o∧H a=none)→Heap.SameBut a s.heap h'→HOk X.prog X.w H h':=fun{a h'} ha hs b ob e=>by
  obtain⟨_,_,hfree⟩:=ha;refine(I.hok b ob e).stay (fun c w' hc q=>(hs.2 c ?_).trans q) (fun _ q=>q) fun _ _ q=>q;rintro rfl
  rcases hc with rfl | hc
  ·rw[hfree]at e;cases e
  ·rw[hfree]at hc;cases hc
 rcases hx with hk | hk
 ·refine wpAny_storeName_local hk hn (fun h' hn' hs=>?_) hcls;obtain⟨oL,_,_,hoL,_⟩:=id hn;refine h _ ⟨I.ok,I.os,I.bare,⟨fun b o e n hb hx=>?_,fun b o e n hb hx=>?_,I.base.free,fun b o e hx=>?_,I.base.tups,I.base.frzs,I.base.tbls⟩,⟨_,hn',fun j y v' e1 e2 e3=>?_⟩,fun y c e=>?_,I.free,I.freeC,fun p hp=>?_,tracked ⟨oL,hoL,I.free⟩ hs,by simpa using I.len⟩ ⟨_,hs,.inl rfl⟩
  ·exact(hs.2 b (xM (xS (xG e) I.ok.above))).trans (I.base.keep b o e n hb hx)
  ·obtain⟨sl,e1⟩:=I.base.slot b o e n hb hx;exact⟨sl,(hs.2 b (xM (xS (xG e) I.ok.above))).trans e1⟩
  ·obtain⟨o',e1⟩:=I.base.there b o e hx;exact⟨o',(hs.2 b (xM (xS (xG e) I.ok.above))).trans e1⟩
  ·by_cases hj:j=i
   ·subst hj;rw[hi]at e1;cases e1;rw[List.getElem?_set_self hiσ]at e2;cases e2;exact⟨u,r,.inl ⟨hk,by simp⟩⟩
   ·rw[List.getElem?_set_ne (Ne.symm hj)]at e2;obtain⟨u',r',q⟩:=hl j y v' e1 e2 e3;refine⟨u',r',?_⟩
    rcases q with⟨k,e⟩|⟨k,c,e,z⟩
    ·refine .inl ⟨k,?_⟩;have:y≠x:=fun e=>hj (gt hN e1 (e ▸ hi));simp[this,e]
    ·exact .inr ⟨k,c,e,z.sameBut hs (cne y c e)⟩
  ·obtain⟨w',z⟩:=I.cell y c e;exact⟨w',z.sameBut hs (cne y c e)⟩
  ·obtain⟨e,n,ne,nf,d⟩:=I.pin p hp;exact⟨(hs.2 p.1 ne).trans e,n,ne,nf,d⟩
 ·have hfn:X.fn x=true:=by
   rcases hf with z | z
   ·exact z
   ·rw[z]at hk;cases hk
  obtain⟨c,hc⟩:=I.ok.has x (.inl hk);obtain⟨w',z⟩:=I.cell x c hc;refine wpAny_storeName_cell I.ok.kind hk hc z (fun h' hc' hs=>?_);obtain⟨oc,hoc,hocd⟩:=id z;refine h {s with heap:=h'} ⟨I.ok,I.os,I.bare,⟨fun b o e n hb hx=>?_,fun b o e n hb hx=>?_,I.base.free,fun b o e hx=>?_,I.base.tups,I.base.frzs,I.base.tbls⟩,⟨m,hn.sameBut hs (Ne.symm (cne x c hc)),fun j y v' e1 e2 e3=>?_⟩,fun y c' e=>?_,I.free,I.freeC,fun p hp=>?_,tracked ⟨oc,hoc,I.freeC x c hc⟩ hs,by simpa using I.len⟩ ⟨c,hs,.inr hc⟩
  ·exact(hs.2 b (xM (xS (xG e) (I.ok.cab x c hfn hc)))).trans (I.base.keep b o e n hb hx)
  ·obtain⟨sl,e1⟩:=I.base.slot b o e n hb hx;exact⟨sl,(hs.2 b (xM (xS (xG e) (I.ok.cab x c hfn hc)))).trans e1⟩
  ·obtain⟨o',e1⟩:=I.base.there b o e hx;exact⟨o',(hs.2 b (xM (xS (xG e) (I.ok.cab x c hfn hc)))).trans e1⟩
  ·by_cases hj:j=i
   ·subst hj;rw[hi]at e1;cases e1;rw[List.getElem?_set_self hiσ]at e2;cases e2;exact⟨u,r,.inr ⟨.inl hk,c,hc,hc'⟩⟩
   ·rw[List.getElem?_set_ne (Ne.symm hj)]at e2;obtain⟨u',r',q⟩:=hl j y v' e1 e2 e3;refine⟨u',r',?_⟩
    rcases q with q | ⟨k,c',e,z'⟩
    ·exact .inl q
    ·refine .inr ⟨k,c',e,z'.sameBut hs ?_⟩;rintro rfl;exact hj (gt hN e1 (I.ok.inj _ _ _ e hc ▸ hi))
  ·by_cases hcc:c'=c
   ·subst hcc;exact⟨_,hc'⟩
   ·obtain⟨w2,z2⟩:=I.cell y c' e;exact⟨w2,z2.sameBut hs hcc⟩
  ·obtain⟨e,n,ne,nf,d⟩:=I.pin p hp;refine⟨(hs.2 p.1 ?_).trans e,n,ne,nf,d⟩;intro q;rw[q,hoc]at e;have q':oc=p.2:=xV e;exact d w' (by rw[←q'];exact hocd)
theorem iz{M:Model}{A:Around}{E:Value→Shared→Prop}{i:Nat}{x:Str}{v:V}{u:Value}{Q:Unit→Shared→Prop}(I:Inv X As σ H s)(hN:X.N.Nodup)(hi:X.N[i]?=some x)(hx:Loc X.env.scope x)(r:RelV v u)(h:∀s',Inv X As (σ.set i (some v)) H s'→Q () s')(hf:X.fn x=true∨X.env.scope.names.lookup x=some .local:=by first | exact .inl rfl | exact .inr rfl | assumption):wpAny M A (storeName X.env x u) Q E s:=
 O0 I hN hi hx r (fun s' I' _=>h s' I') hf
theorem Inv.call'{s':Shared}{ch:List Addr}(I:Inv X As σ H s)(ho:s'.os=s.os)(u:Un (frs X.stack) ch H H' s.heap s'.heap)(hok:HOk X.prog X.w H' s'.heap)(hg:AllBare s'.gens)(hch:∀b∈ch,(b∈X.ex∨X.s₀.heap.objs.size≤b)∧b≠X.env.locals∧(∀x c,X.env.cells.lookup x=some c→c≠b)∧∀p∈X.pn++As,p.1≠b):Inv X As σ H' s':=by
 obtain⟨h',g',d',t',o'⟩:=s';have e:o'=s.os:=ho;subst e;exact I.call (g':=g') (t':=t') (d':=d') u hok hg hch
end
abbrev XK:=Value→Option Addr→Hp→Prop
abbrev St:=List (Option V)
abbrev VK:=V→Hp→Prop
abbrev TE:=St→Hp→VK→Prop
abbrev TT:=St→Hp→(Bool→Hp→Prop)→Prop
abbrev TA:=St→Hp→(List V→Hp→Prop)→Prop
structure Ends where
 nx:St→Hp→Prop
 rt:VK
 bk:St→Hp→Prop:=fun _ _=>False
 ct:St→Hp→Prop:=fun _ _=>False
abbrev TS:=Ends→St→Hp→Prop
def EP(X:Cx)(As:List (Addr×Obj))(σ:St)(Q:VK)(u:Value)(s':Shared):Prop:=∃v H',Inv X As σ H' s'∧RelV v u∧Q v H'
def TP(X:Cx)(As:List (Addr×Obj))(σ:St)(Q:Bool→Hp→Prop)(b:Bool)(s':Shared):Prop:=∃H',Inv X As σ H' s'∧Q b H'
def AP(X:Cx)(As:List (Addr×Obj))(σ:St)(Q:List V→Hp→Prop)(us:List Value)(s':Shared):Prop:=∃vs H',Inv X As σ H' s'∧Vals vs us∧Q vs H'
def SP(X:Cx)(As:List (Addr×Obj))(D:Ends)(f:Flow)(s':Shared):Prop:=
 match f with
 |.next=>∃σ' H',Inv X As σ' H' s'∧D.nx σ' H'
 |.brk=>∃σ' H',Inv X As σ' H' s'∧D.bk σ' H'
 |.cont=>∃σ' H',Inv X As σ' H' s'∧D.ct σ' H'
 |.ret u=>∃v σ' H',Inv X As σ' H' s'∧RelV v u∧D.rt v H'
def PE(X:Cx)(e:Expr)(t:TE):Prop:=
 ∀(As:List (Addr×Obj))(s:Shared)(σ:St)(H:Hp)(Q:VK),Inv X As σ H s→t σ H Q→wpAny (model X.prog X.w) X.A (eval e X.env) (EP X As σ Q) X.xe s
def PT(X:Cx)(e:Expr)(t:TT):Prop:=
 ∀(As:List (Addr×Obj))(s:Shared)(σ:St)(H:Hp)(Q:Bool→Hp→Prop),Inv X As σ H s→t σ H Q→wpAny (model X.prog X.w) X.A (isTrue e X.env (eval e X.env)) (TP X As σ Q) X.xe s
def PW(X:Cx)(e:Expr)(t:TT):Prop:=
 ∀(whole:Sem Value)(As:List (Addr×Obj))(s:Shared)(σ:St)(H:Hp)(Q:Bool→Hp→Prop),Inv X As σ H s→t σ H Q→wpAny (model X.prog X.w) X.A (isTrue e X.env whole) (TP X As σ Q) X.xe s
theorem PW.pt{X:Cx}{e:Expr}{t:TT}(h:PW X e t):PT X e t:=h _
def PA(X:Cx)(es:List Expr)(t:TA):Prop:=
 ∀(pos:Pos)(As:List (Addr×Obj))(s:Shared)(σ:St)(H:Hp)(Q:List V→Hp→Prop),Inv X As σ H s→t σ H Q→wpAny (model X.prog X.w) X.A (spliced (backTo pos (starEach es X.env))) (AP X As σ Q) X.xe s
def PS(X:Cx)(st:Stmt)(t:TS):Prop:=
 ∀(As:List (Addr×Obj))(s:Shared)(σ:St)(H:Hp)(D:Ends),Inv X As σ H s→t D σ H→wpAny (model X.prog X.w) X.A (exec st X.env) (SP X As D) X.xe s
def PSs(X:Cx)(st:List Stmt)(t:TS):Prop:=
 ∀(As:List (Addr×Obj))(s:Shared)(σ:St)(H:Hp)(D:Ends),Inv X As σ H s→t D σ H→wpAny (model X.prog X.w) X.A (execs st X.env) (SP X As D) X.xe s
theorem thn{α:Type}{t:Sem α}{Q Q':α→Shared→Prop}{M:Model}{A:Around}{E:Value→Shared→Prop}{s:Shared}(h:wpAny M A t Q E s)(hQ:∀a s,Q a s→Q' a s):wpAny M A t Q' E s:=yN h hQ fun _ _ x=>x
section
variable{X:Cx}
def vD(i:Nat):TE:=fun σ H Q=>∃v,σ[i]?=some (some v)∧Q v H
def tC(v:V):TE:=fun _ H Q=>Q v H
theorem pQ{i:Nat}{x:Str}{pos:Pos}(hN:X.N[i]?=some x)(hv:Vis X.env.scope x)(hd:(x==("__debug__":Str))=false:=by decide)(hcd:(x==("__classdict__":Str))=false:=by decide):PE X (.Name x pos) (vD i):=by
 intro As s σ H Q I h;obtain⟨v,e,h⟩:=h;obtain⟨m,hn,hl⟩:=I.loc;obtain⟨u,r,l⟩:=hl i x v hN e hv;have fin:EP X As σ Q u s:=⟨v,H,I,r,h⟩
 rcases l with⟨hk,hm⟩|⟨hk,c,hc,hcell⟩
 ·exact wpAny_Name (wpAny_loadName_local I.ok.kind hk hn hm fin) hd
 ·rcases hk with hk | hk
  ·exact wpAny_Name (wpAny_loadName_cell I.ok.kind hk hc hcell fin) hd
  ·exact wpAny_Name (wpAny_loadName_free I.ok.kind hk hc hcell fin hcd) hd
theorem Z5{i j pos}:PE X (.Constant (.int i) j pos) (tC (.int i)):=fun _ _ _ H _ I h=>wpAny_Constant_int ⟨.int i,H,I.tok _,⟨_,rfl⟩,h⟩
theorem Xl{b j pos}:PE X (.Constant (.bool b) j pos) (tC (.bl b)):=fun _ _ _ H _ I h=>Constant_bool ⟨.bl b,H,I,rfl,h⟩
theorem Xz{j pos}:PE X (.Constant .none j pos) (tC .non):=fun _ _ _ H _ I h=>Constant_none ⟨.non,H,I,rfl,h⟩
theorem Ue{x j pos}:PE X (.Constant (.str x) j pos) (tC (.str x)):=fun _ _ _ H _ I h=>Calls.Constant_str ⟨.str x,H,I.tok _,⟨_,rfl⟩,h⟩
def Gl(X:Cx)(x:Str):Prop:=X.env.kindOf x=some .globalImplicit
theorem fh{E:Value→Shared→Prop}{As:List (Addr×Obj)}{s:Shared}{σ:St}{H:Hp}{x:Str}{u:Value}{pos:Pos}{Q:Value→Shared→Prop}(I:Inv X As σ H s)(hg:Gl X x)(hm:X.mg x=some u)(h:Q u s)(hd:(x==("__debug__":Str))=false:=by decide):wpAny (model X.prog X.w) X.A (eval (.Name x pos) X.env) Q E s:=
 Calls.Name_function_global I.ok.kind hg (Calls.loadGlobal_global (by rw[I.ok.glob];exact I.mod.glob.keeps I.bk) hm h) hd
theorem P1{E:Value→Shared→Prop}{As:List (Addr×Obj)}{s:Shared}{σ:St}{H:Hp}{x:Str}{u:Value}{pos:Pos}{Q:Value→Shared→Prop}(I:Inv X As σ H s)(hg:Gl X x)(hm:X.mg x=none)(hv:bootBuiltins x=some u)(h:Q u s)(hn:x≠"__name__":=by decide)(hd:(x==("__debug__":Str))=false:=by decide):wpAny (model X.prog X.w) X.A (eval (.Name x pos) X.env) Q E s:=by
 obtain⟨mb,h1,h2⟩:=I.mod.blt;exact Calls.Name_function_global I.ok.kind hg (Calls.loadGlobal_builtin (by rw[I.ok.glob];exact I.mod.glob.keeps I.bk) hm (by rw[I.ok.blt];exact h1.keeps I.bk) ((h2 x hn).trans hv) h) hd
theorem sr{x:Str}{v:V}{u:Value}{pos:Pos}(hg:Gl X x)(hm:X.mg x=some u)(r:RelV v u)(hd:(x==("__debug__":Str))=false:=by decide):PE X (.Name x pos) (tC v):=
 fun _ _ _ H _ I h=>fh I hg hm ⟨v,H,I,r,h⟩ hd
theorem V1{x:Str}{v:V}{u:Value}{pos:Pos}(hg:Gl X x)(hm:X.mg x=none)(hv:bootBuiltins x=some u)(r:RelV v u)(hn:x≠"__name__":=by decide)(hd:(x==("__debug__":Str))=false:=by decide):PE X (.Name x pos) (tC v):=
 fun _ _ _ H _ I h=>P1 I hg hm hv ⟨v,H,I,r,h⟩ hn hd
variable{a b:Expr}{ta tb:TE}{pos:Pos}
def tB(t:TE):TT:=fun σ H Q=>t σ H fun x H1=>∃c,x=.bl c∧Q c H1
theorem Wb{e:Expr}{t:TE}(h:PE X e t)(he:∀whole,isTrue e X.env whole=(do let v ←whole;standAt e.pos;holding [v] (truthy v)):=by intro _;rfl):PT X e (tB t):=by
 intro As s σ H Q I hw;refine isTrue_plain (thn (h As s σ H _ I hw) fun v s1 ⟨x,H1,I1,r1,q1⟩=>?_) (he _);obtain⟨d,rfl,q⟩:=q1;cases r1;exact zc ⟨H1,I1,q⟩
variable{tA tB':TT}{rest:List Expr}
def tAnd(t u:TT):TT:=fun σ H Q=>t σ H fun c H1=>if c=true then u σ H1 Q else Q false H1
def tOr(t u:TT):TT:=fun σ H Q=>t σ H fun c H1=>if c=true then Q true H1 else u σ H1 Q
def tNot(t:TT):TT:=fun σ H Q=>t σ H fun c H1=>Q (!c) H1
theorem N7(ha:PT X a tA):PW X (.BoolOp .And [a] pos) tA:=by
 intro wh As s σ H Q I h;refine isTrue_and (thn (ha As s σ H Q I h) fun c s1 e=>?_);cases c with
 |true=>exact isTrue_and_nil e
 |false=>exact e
theorem V8(ha:PT X a tA):PW X (.BoolOp .Or [a] pos) tA:=by
 intro wh As s σ H Q I h;refine isTrue_or (thn (ha As s σ H Q I h) fun c s1 e=>?_);cases c with
 |false=>exact isTrue_or_nil e
 |true=>exact e
theorem i9(ha:PT X a tA)(hb:PW X (.BoolOp .And (b::rest) pos) tB'):PW X (.BoolOp .And (a::b::rest) pos) (tAnd tA tB'):=by
 intro wh As s σ H Q I h;refine isTrue_and (thn (ha As s σ H _ I h) fun c s1 At=>?_);obtain⟨H1,I1,q1⟩:=At;cases c with
 |true=>exact hb wh As s1 σ H1 Q I1 q1
 |false=>exact⟨H1,I1,q1⟩
theorem Wz(ha:PT X a tA)(hb:PW X (.BoolOp .Or (b::rest) pos) tB'):PW X (.BoolOp .Or (a::b::rest) pos) (tOr tA tB'):=by
 intro wh As s σ H Q I h;refine isTrue_or (thn (ha As s σ H _ I h) fun c s1 At=>?_);obtain⟨H1,I1,q1⟩:=At;cases c with
 |true=>exact⟨H1,I1,q1⟩
 |false=>exact hb wh As s1 σ H1 Q I1 q1
theorem V9(ha:PT X a tA):PT X (.UnaryOp .Not a pos) (tNot tA):=by
 intro As s σ H Q I h;exact isTrue_not (ha As s σ H (fun c H1=>Q (!c) H1) I h)
def wE(ta tb:TE):TE:=fun σ H Q=>ta σ H fun x H1=>∃c,x=.bl c∧if c=true then tb σ H1 Q else Q (.bl false) H1
def wG(ta:TE):TE:=fun σ H Q=>ta σ H fun x H1=>∃c,x=.bl c∧Q (.bl (!c)) H1
theorem R1{op}{t:TE}(h:PE X a t):PE X (.BoolOp op [a] pos) t:=fun As s σ H Q I hw=>BoolOp_one (h As s σ H Q I hw)
theorem R3(ha:PE X a ta)(hb:PE X (.BoolOp .And (b::rest) pos) tb):PE X (.BoolOp .And (a::b::rest) pos) (wE ta tb):=by
 intro As s σ H Q I h;refine BoolOp_and (thn (ha As s σ H _ I h) fun v s1 At=>?_);obtain⟨x,H1,I1,r1,q1⟩:=At;obtain⟨c,rfl,q1⟩:=q1;cases r1;refine zc ?_;cases c with
 |true=>exact hb As s1 σ H1 Q I1 q1
 |false=>exact⟨.bl false,H1,I1,rfl,q1⟩
theorem tP(ha:PE X a ta):PE X (.UnaryOp .Not a pos) (wG ta):=by
 intro As s σ H Q I h;refine UnaryOp_ (thn (ha As s σ H _ I h) fun v s1 At=>?_);obtain⟨x,H1,I1,r1,q1⟩:=At;obtain⟨c,rfl,q1⟩:=q1;cases r1;exact not_of (zc ⟨.bl (!c),H1,I1,rfl,q1⟩)
def tIf(t:TT)(ta tb:TE):TE:=fun σ H Q=>t σ H fun c H1=>if c=true then ta σ H1 Q else tb σ H1 Q
theorem nj{c:Expr}(hc:PT X c tA)(ha:PE X a ta)(hb:PE X b tb):PE X (.IfExp c a b pos) (tIf tA ta tb):=by
 intro As s σ H Q I h;refine wpAny_IfExp (thn (hc As s σ H _ I h) fun d s1 At=>?_);obtain⟨H1,I1,q1⟩:=At;cases d with
 |true=>exact ha As s1 σ H1 Q I1 q1
 |false=>exact hb As s1 σ H1 Q I1 q1
end
def SqL(K:W.Frag)(H:Hp)(a:Addr)(xs:List V):Prop:=
 Rd H a (.lst xs)∨
  ∃(o:Obj)(its:Array Value)(n:Nat),K.lookup a=some o∧o.cls=.type "list"∧o.dict=none∧o.data=.seq its n∧its.size≤sizeLine∧Vals xs its.toList
def SqT(K:W.Frag)(H:Hp)(a:Addr)(xs:List V):Prop:=
 Rd H a (.tup xs)∨
  ∃(o:Obj)(its:Array Value)(n:Nat),K.lookup a=some o∧o.cls=.type "tuple"∧o.data=.seq its n∧its.size≤sizeLine∧Vals xs its.toList
def absV:Value→Option V
 |.none=>some .non
 |.bool b=>some (.bl b)
 |.int i _=>some (.int i)
 |.str x _=>some (.str x)
 |.bytes b _=>some (.byt b)
 |.float b _=>some (.flt b)
 |.ref a=>some (.ref a)
 |.type n=>some (.ty n)
 |_=>none
theorem RelV.abs{x:V}{u:Value}(r:RelV x u):absV u=some x:=by
 cases x with
 |non=>cases r;rfl
 |bl _=>cases r;rfl
 |int _=>obtain⟨t,rfl⟩:=r;rfl
 |str _=>obtain⟨t,rfl⟩:=r;rfl
 |byt _=>obtain⟨t,rfl⟩:=r;rfl
 |flt _=>obtain⟨t,rfl⟩:=r;rfl
 |ref _=>cases r;rfl
 |ty _=>cases r;rfl
theorem RelV.inj{x y:V}{u:Value}(r:RelV x u)(q:RelV y u):x=y:=xV (r.abs.symm.trans q.abs)
theorem Vals.inj{xs ys:List V}{us:List Value}(h:Vals xs us)(g:Vals ys us):xs=ys:=by
 induction h generalizing ys with
 |nil=>cases g;rfl
 |cons r t ih=>
  cases g with
  |cons r' t'=>rw[r.inj r',ih t']
section
variable{X:Cx}{As:List (Addr×Obj)}{σ:St}{H:Hp}{s:Shared}{a:Addr}{xs ys:List V}
theorem SqL.of{K:W.Frag}(h:H a=some (.lst xs)):SqL K H a xs:=.inl (.inl h)
theorem SqT.of{K:W.Frag}(h:H a=some (.tup xs)):SqT K H a xs:=.inl (.inl h)
theorem Inv.list(I:Inv X As σ H s)(h:SqL X.K H a xs):∃its:List Value,Vals xs its∧PlainL s.heap a its.toArray∧xs.length≤sizeLine:=by
 rcases h with h | ⟨o,its,n,hk,hc,hd,hs,hz,r⟩
 ·obtain⟨z,its,n,r,e⟩:=h.ok I.hok;exact⟨its,r,⟨_,n,e,rfl,rfl,rfl⟩,z⟩
 ·refine⟨its.toList,r,⟨o,n,I.kIn a o hk,hc,hd,by simpa using hs⟩,?_⟩;have e:=r.length;simp only[Array.length_toList]at e;omega
theorem Inv.tuple(I:Inv X As σ H s)(h:SqT X.K H a xs):∃its:List Value,Vals xs its∧IsTup s.heap a its.toArray∧xs.length≤sizeLine:=by
 rcases h with h | ⟨o,its,n,hk,hc,hs,hz,r⟩
 ·obtain⟨z,its,r,p⟩:=h.ok I.hok;exact⟨its,r,p.tup,z⟩
 ·refine⟨its.toList,r,⟨o,I.kIn a o hk,hc,n,by simpa using hs⟩,?_⟩;have e:=r.length;simp only[Array.length_toList]at e;omega
theorem Inv.list_inj(I:Inv X As σ H s)(h:SqL X.K H a xs)(h':SqL X.K H a ys):xs=ys:=by
 obtain⟨its,r,⟨o,n,e,_,_,d⟩,_⟩:=I.list h;obtain⟨its',r',⟨o',n',e',_,_,d'⟩,_⟩:=I.list h';rw[e]at e';cases e';rw[d]at d';injection d' with d1 _
 have:its=its':=by simpa using congrArg Array.toList d1
 subst this;exact r.inj r'
theorem Inv.tuple_inj(I:Inv X As σ H s)(h:SqT X.K H a xs)(h':SqT X.K H a ys):xs=ys:=by
 obtain⟨its,r,⟨o,e,_,n,d⟩,_⟩:=I.tuple h;obtain⟨its',r',⟨o',e',_,n',d'⟩,_⟩:=I.tuple h';rw[e]at e';cases e';rw[d]at d';injection d' with d1 _
 have:its=its':=by simpa using congrArg Array.toList d1
 subst this;exact r.inj r'
end
abbrev Cx.wish(X:Cx)(E:Value→Shared→Prop):Cx:={X with xe:=E}
abbrev Cx.nox(X:Cx):Cx:=X.wish fun _ _=>False
theorem Cx.Ok.wish{X:Cx}(ok:X.Ok)(E:Value→Shared→Prop):(X.wish E).Ok:=
 ⟨ok.mod,ok.kind,ok.glob,ok.blt,ok.above,ok.inj,ok.has,ok.cab,ok.hd,ok.frames,ok.stk,ok.exf,ok.bs,ok.bsz,ok.noex,ok.exfs,ok.funs,ok.frf⟩
theorem Cx.Ok.unwish{X:Cx}{E:Value→Shared→Prop}(ok:(X.wish E).Ok):X.Ok:=
 ⟨ok.mod,ok.kind,ok.glob,ok.blt,ok.above,ok.inj,ok.has,ok.cab,ok.hd,ok.frames,ok.stk,ok.exf,ok.bs,ok.bsz,ok.noex,ok.exfs,ok.funs,ok.frf⟩
section
variable{X:Cx}{As:List (Addr×Obj)}{σ:St}{H:Hp}{s:Shared}{E:Value→Shared→Prop}
theorem Inv.wish(I:Inv X As σ H s)(E:Value→Shared→Prop):Inv (X.wish E) As σ H s:=⟨I.ok.wish E,I.os,I.bare,I.base,I.loc,I.cell,I.free,I.freeC,I.pin,I.hok,I.len⟩
theorem Inv.unwish(I:Inv (X.wish E) As σ H s):Inv X As σ H s:=⟨I.ok.unwish,I.os,I.bare,I.base,I.loc,I.cell,I.free,I.freeC,I.pin,I.hok,I.len⟩
theorem SP.unwish{D:Ends}{f:Flow}{s':Shared}(h:SP (X.wish E) As D f s'):SP X As D f s':=by
 cases f with
 |next=>obtain⟨σ',H',I,q⟩:=h;exact⟨σ',H',I.unwish,q⟩
 |brk=>obtain⟨σ',H',I,q⟩:=h;exact⟨σ',H',I.unwish,q⟩
 |cont=>obtain⟨σ',H',I,q⟩:=h;exact⟨σ',H',I.unwish,q⟩
 |ret u=>obtain⟨v,σ',H',I,r,q⟩:=h;exact⟨v,σ',H',I.unwish,r,q⟩
theorem PSs.nox{st:List Stmt}{t:TS}(h:PSs X.nox st t):PSs X st t:=fun As s σ H D I hw=>
 yN (h As s σ H D (I.wish _) hw) (fun _ _ q=>q.unwish) fun _ _ z=>False.elim z
end
section
variable{X:Cx}{st:Stmt}{rest:List Stmt}{t u:TS}{e:Expr}{te:TE}{pos:Pos}
def xg:TS:=fun D σ H=>D.nx σ H
def v9(t u:TS):TS:=fun D σ H=>t {D with nx:=u D} σ H
theorem Zr:PSs X [] xg:=fun _ _ σ H _ I h=>wpAny_execs_nil ⟨σ,H,I,h⟩
theorem Z3(h1:PS X st t)(h2:PSs X rest u):PSs X (st::rest) (v9 t u):=by
 intro As s σ H D I h;refine wpAny_execs_cons (thn (h1 As s σ H {D with nx:=u D} I h) fun f s1 q=>?_);cases f with
 |next=>
  obtain⟨σ',H',I',q⟩:=q;exact h2 As s1 σ' H' D I' q
 |ret v=>exact q
 |brk=>exact q
 |cont=>exact q
theorem Z7(h1:PS X st t):PSs X [st] t:=by
 intro As s σ H D I h;refine wpAny_execs_cons (thn (h1 As s σ H D I h) fun f s1 q=>?_);cases f with
 |next=>exact wpAny_execs_nil q
 |ret v=>exact q
 |brk=>exact q
 |cont=>exact q
theorem Inv.quiet{As:List (Addr×Obj)}{σ:St}{H:Hp}{s:Shared}(I:Inv X As σ H s):interactive X.env=false:=by simp[interactive,I.ok.kind]
def wV(te:TE):TS:=fun D σ H=>te σ H fun _ H1=>D.nx σ H1
theorem Xh(he:PE X e te)(hs:swapsWith e none pos.line X.env=pure false:=by rfl):PS X (.Expr e pos) (wV te):=by
 intro As s σ H D I h;exact wpAny_Expr_any (thn (he As s σ H _ I h) fun v s1 ⟨x,H1,I1,r1,q1⟩=>⟨σ,H1,I1,q1⟩) I.quiet hs
def tRet(te:TE):TS:=fun D σ H=>te σ H D.rt
theorem Zc(he:PE X e te):PS X (.Return (some e) pos) (tRet te):=by
 intro As s σ H D I h;exact wpAny_Return_some (thn (he As s σ H _ I h) fun v s1 ⟨x,H1,I1,r1,q1⟩=>⟨x,σ,H1,I1,r1,q1⟩)
def tIfS(c:TT)(t u:TS):TS:=fun D σ H=>c σ H fun b H1=>if b=true then t D σ H1 else u D σ H1
theorem Y8{c:Expr}{a b:List Stmt}{tc:TT}(hc:PT X c tc)(ha:PSs X a t)(hb:PSs X b u):PS X (.If c a b pos) (tIfS tc t u):=by
 intro As s σ H D I h;refine wpAny_If (thn (hc As s σ H _ I h) fun d s1 At=>?_);obtain⟨H1,I1,q1⟩:=At;cases d with
 |true=>exact ha As s1 σ H1 D I1 q1
 |false=>exact hb As s1 σ H1 D I1 q1
def tQ:TS:=fun _ _ _=>False
theorem iH:PS X st tQ:=fun _ _ _ _ _ _ h=>h.elim
end
abbrev TG:=V→St→Hp→(St→Hp→Prop)→Prop
abbrev TGs:=List V→St→Hp→(St→Hp→Prop)→Prop
def PG(X:Cx)(target:Expr)(t:TG):Prop:=
 ∀(As:List (Addr×Obj))(s:Shared)(σ:St)(H:Hp)(v:V)(u:Value)(Q:St→Hp→Prop),Inv X As σ H s→RelV v u→t v σ H Q→
  wpAny (model X.prog X.w) X.A (assign target X.env u) (fun _ s'=>∃σ' H',Inv X As σ' H' s'∧Q σ' H') X.xe s
def PGs(X:Cx)(ts:List Expr)(t:TGs):Prop:=
 ∀(As:List (Addr×Obj))(s:Shared)(σ:St)(H:Hp)(vs:List V)(us:List Value)(Q:St→Hp→Prop),Inv X As σ H s→Vals vs us→t vs σ H Q→
  wpAny (model X.prog X.w) X.A (assignInOrder ((assignEach ts X.env).map (·.2)) us) (fun _ s'=>∃σ' H',Inv X As σ' H' s'∧Q σ' H') X.xe s
abbrev ux:=V→V→V→Hp→(Hp→Prop)→Prop
def vT(X:Cx)(t:ux):Prop:=
 ∀(As:List (Addr×Obj))(s:Shared)(σ:St)(H:Hp)(o i v:V)(ov iv u:Value)(Q:Hp→Prop),Inv X As σ H s→RelV o ov→RelV i iv→RelV v u→t o i v H Q→
  wpAny (model X.prog X.w) X.A (setItem ov iv u) (fun _ s'=>∃H',Inv X As σ H' s'∧Q H') X.xe s
section
variable{X:Cx}{pos:Pos}
def gk(i:Nat):TG:=fun v σ H Q=>Q (σ.set i (some v)) H
theorem Z9{i:Nat}{x:Str}(hN:X.N.Nodup)(hi:X.N[i]?=some x)(hx:Loc X.env.scope x)(hf:X.fn x=true∨X.env.scope.names.lookup x=some .local:=by first | exact .inl rfl | exact .inr rfl | assumption):PG X (.Name x pos) (gk i):=by
 intro As s σ H v u Q I r h;exact wpAny_assign_Name (iz I hN hi hx r (fun s' I'=>⟨_,H,I',h⟩) hf)
def gNil:TGs:=fun vs σ H Q=>vs=[]∧Q σ H
def vS(t:TG)(u:TGs):TGs:=fun vs σ H Q=>∃v r,vs=v::r∧t v σ H fun σ' H'=>u r σ' H' Q
theorem Zo:PGs X [] gNil:=by
 intro As s σ H vs us Q I r h;obtain⟨e,h⟩:=h;subst e;cases r;exact assignInOrder_nil ⟨σ,H,I,h⟩
theorem Z8{e:Expr}{es:List Expr}{t:TG}{u:TGs}(h1:PG X e t)(h2:PGs X es u)(hs:(assignEach (e::es) X.env).map (·.2)=assign e X.env::(assignEach es X.env).map (·.2):=by rfl):PGs X (e::es) (vS t u):=by
 intro As s σ H vs us Q I r h;obtain⟨v,vr,e1,h⟩:=h;subst e1;cases r with
 |cons r rr=>
  rw[hs];refine assignInOrder_cons (thn (h1 As s σ H _ _ _ I r h) fun _ s1 At=>?_);obtain⟨σ1,H1,I1,q1⟩:=At;exact h2 As s1 σ1 H1 _ _ Q I1 rr q1
def vV(K:W.Frag)(n:Nat)(t:TGs):TG:=fun v σ H Q=>∃a xs,v=.ref a∧SqT K H a xs∧xs.length=n∧t xs σ H Q
theorem Y6{es:List Expr}{k:Nat}{t:TGs}{n:Nat}(hc:X.calm=true)(h:PGs X es t)(hn:(assignEach es X.env).length=n:=by rfl)(hst:(assignEach es X.env).findIdx? (·.1)=none:=by rfl):PG X (.Tuple es k pos) (vV X.K n t):=by
 intro As s σ H v u Q I r hw;obtain⟨a,xs,e1,hq,hl,hw⟩:=hw;subst e1;cases r;obtain⟨its,rv,ht,hz⟩:=I.tuple hq;refine assign_Tuple_tuple (I.ok.hd hc) ht (by simp[hn,←hl,rv.length]) hst fun h' hx=>?_;have I1:Inv X As σ H {s with heap:=h'}:=I.kept (t':=s.toks) fun b o e=>hx b o (xM (xG e)) e;exact h As _ σ H xs _ Q I1 (by simpa using rv) hw
def gSub(to ti:TE)(t:ux):TG:=fun v σ H Q=>to σ H fun o H1=>ti σ H1 fun i H2=>t o i v H2 fun H3=>Q σ H3
theorem pV{o i:Expr}{to ti:TE}{t:ux}(ho:PE X o to)(hi:PE X i ti)(hs:vT X t)(ha:∀v,assign (.Subscript o i pos) X.env v=(do
   let ov ←holding [v] (eval o X.env)
   let iv ←holding [v,ov] (eval i X.env)
   standAt pos
   holding [v,ov,iv] (setItem ov iv v)
   release [v,ov,iv] []):=by intro _;rfl):PG X (.Subscript o i pos) (gSub to ti t):=by
 intro As s σ H v u Q I r h;rw[ha];refine ae (yp (thn (ho As s σ H _ I h) fun ov s1 At=>?_));obtain⟨x,H1,I1,r1,q1⟩:=At;refine ae (yp (thn (hi As s1 σ H1 _ I1 q1) fun iv s2 At=>?_));obtain⟨y,H2,I2,r2,q2⟩:=At;refine ae (wpAny_standAt (ae (yp (thn (hs As s2 σ H2 x y v ov iv u _ I2 r1 r2 r q2) fun _ s3 At=>?_))));obtain⟨H3,I3,q3⟩:=At;exact wpAny_release ⟨σ,H3,I3,q3⟩
def pT(te:TE)(g:TG):TS:=fun D σ H=>te σ H fun x H1=>g x σ H1 D.nx
theorem Ys{tg e:Expr}{te:TE}{g:TG}(he:PE X e te)(hg:PG X tg g)(hs:swapsWithSole [tg] e pos.line X.env=pure false:=by rfl)(hw:swappedStores [tg] e X.env=pure none:=by rfl)(h1:(assignEach [tg] X.env).map (·.2)=[assign tg X.env]:=by rfl):PS X (.Assign [tg] e pos) (pT te g):=by
 intro As s σ H D I h;refine wpAny_Assign_stores (thn (he As s σ H _ I h) fun v s1 ⟨x,H1,I1,r1,q1⟩=>?_) hs hw;rw[h1];exact thn (hg As s1 σ H1 x v _ I1 r1 q1) fun _ s2 q=>q
theorem iT{i:Nat}{x:Str}{e:Expr}{te:TE}{pos':Pos}(hN:X.N.Nodup)(hi:X.N[i]?=some x)(hx:Loc X.env.scope x)(he:PE X e te)(hs:swapsWith e (some (.Name x pos')) pos.line X.env=pure false:=by rfl)(hf:X.fn x=true∨X.env.scope.names.lookup x=some .local:=by first | exact .inl rfl | exact .inr rfl | assumption):
  PS X (.Assign [.Name x pos'] e pos) (pT te (gk i)):=by
 intro As s σ H D I h;refine wpAny_Assign_Name (thn (he As s σ H _ I h) fun v s1 At=>?_) hs;obtain⟨y,H1,I1,r1,q1⟩:=At;exact iz I1 hN hi hx r1 (fun s2 I2=>⟨_,H1,I2,q1⟩) hf
end
section
variable{X:Cx}{pos:Pos}
def oR(c:TT)(tb:TS):TS:=fun D σ H=>∃W:Nat→St→Hp→Prop,(∃m,W m σ H)∧∀m σ H,W m σ H→
 c σ H fun b H1=>if b=true then ∃N:St→Hp→Prop,(∀σ' H',N σ' H'→∃m',m'<m∧W m' σ' H')∧tb {D with nx:=N,ct:=N,bk:=D.nx} σ H1 else D.nx σ H1
theorem gA{c:Expr}{body:List Stmt}{tc:TT}{tb:TS}(hp:PassesOwn (model X.prog X.w) X.A X.env X.xe)(hc:PT X c tc)(hb:PSs X body tb):PS X (.While c body [] pos) (oR tc tb):=by
 intro As s σ H D I h;obtain⟨W,⟨m0,w0⟩,turn⟩:=h;refine wpAny_While (codeAny_whileLoop (fun n s'=>∃σ' H',Inv X As σ' H' s'∧W n σ' H') ?_ m0 ⟨σ,H,I,w0⟩);rintro n s1 ⟨σ1,H1,I1,w1⟩;refine zP hp (thn (hc As s1 σ1 H1 _ I1 (turn n σ1 H1 w1)) fun b s2 At=>?_);obtain⟨H2,I2,q2⟩:=At;cases b with
 |true=>
  obtain⟨N,hN,q2⟩:=q2;rw[xC rfl];refine zP hp (thn (hb As s2 σ1 H2 _ I2 q2) fun f s3 q3=>?_);cases f with
  |next=>
   obtain⟨σ3,H3,I3,n3⟩:=q3;obtain⟨m',hm,w3⟩:=hN σ3 H3 n3;exact⟨m',hm,σ3,H3,I3,w3⟩
  |cont=>
   obtain⟨σ3,H3,I3,n3⟩:=q3;obtain⟨m',hm,w3⟩:=hN σ3 H3 n3;exact⟨m',hm,σ3,H3,I3,w3⟩
  |brk=>exact q3
  |ret v=>exact q3
 |false=>
  rw[xz xK];exact wpAny_execs_nil ⟨σ1,H2,I2,q2⟩
end
structure It where
 go:Nat→Hp→Prop
 yld:Nat→Hp→V→Hp→Prop
 stop:Nat→Hp→Prop
def de(X:Cx)(As:List (Addr×Obj))(H:Hp)(b:Addr):Prop:=
 H b=none∧b≠X.env.locals∧b∉X.fs∧(b∈X.ex∨X.s₀.heap.objs.size≤b)∧(∀x c,X.env.cells.lookup x=some c→c≠b)∧∀p∈X.pn++As,p.1≠b
theorem Inv.fpOk{X:Cx}{As:List (Addr×Obj)}{σ:St}{H H':Hp}{s:Shared}{b:Addr}(I:Inv X As σ H s)(hb:s.heap.objs.size≤b)(hn:H' b=none):de X As H' b:=by
 refine⟨hn,yD (xS I.lt hb),I.nofs hb,.inr (yi I.sz hb),fun x c e z=>?_,fun p hp z=>?_⟩
 ·obtain⟨v,q⟩:=I.cell x c e;exact absurd (xS q.lt (by rw[z];exact hb)) (y9 _)
 ·exact absurd (xS (xG (I.pin p hp).1) (by rw[z];exact hb)) (y9 _)
structure Turn(P:Program)(w:World)(K:W.Frag)(tg:Expr)(J:It)(fp:List Addr)(it:Addr)(tn:Nat→Heap→Prop):Prop where
 mem:it∈fp
 obj:∀i h,tn i h→∀b∈fp,∃o,h.get? b=some o∧∀v,o.data≠.cell v
 keep:∀i h h',tn i h→(∀b∈fp,∀o,h.get? b=some o→h'.get? b=some o)→tn i h'
 item:∀(X:Cx),X.prog=P→X.w=w→X.K=K→X.calm=true→∀(i:Nat)(As:List (Addr×Obj))(s:Shared)(σ:St)(H:Hp)(E:Value→Shared→Prop),Inv X As σ H s→(∀b∈fp,de X As H b)→tn i s.heap→J.go i H→
  wpAny (model P w) X.A (pyNext (.ref it)) (fun r s1=>∃u,r=some u∧
   wpAny (model P w) X.A (letOwnedTupleGo tg (.ref it) u) (fun _ s2=>∃x H',Inv X As σ H' s2∧RelV x u∧J.yld i H x H'∧tn (i+1) s2.heap∧∀b∈fp,H' b=none) E s1) E s
 done:∀(X:Cx),X.prog=P→X.w=w→X.K=K→X.calm=true→∀(i:Nat)(As:List (Addr×Obj))(s:Shared)(σ:St)(H:Hp)(E:Value→Shared→Prop),Inv X As σ H s→(∀b∈fp,de X As H b)→tn i s.heap→J.stop i H→
  wpAny (model P w) X.A (pyNext (.ref it)) (fun r s1=>r=none∧Inv X As σ H s1) E s
 self:∀(A:Around)(i:Nat)(s:Shared)(Q:Value→Shared→Prop)(E:Value→Shared→Prop),tn i s.heap→Q (.ref it) s→wpAny (model P w) A (pyIter (.ref it)) Q E s
abbrev TI:=St→Hp→(It→Hp→Prop)→Prop
def PIE(X:Cx)(As:List (Addr×Obj))(σ:St)(tg:Expr)(R:It→Hp→Prop)(itv:Value)(s2:Shared):Prop:=
 ∃(it:Addr)(fp:List Addr)(tn:Nat→Heap→Prop)(J:It)(H':Hp),itv=.ref it∧Inv X As σ H' s2∧Turn X.prog X.w X.K tg J fp it tn∧tn 0 s2.heap∧(∀b∈fp,de X As H' b)∧R J H'
def PI(X:Cx)(tg iter:Expr)(wi:TI):Prop:=
 ∀(As:List (Addr×Obj))(s:Shared)(σ:St)(H:Hp)(R:It→Hp→Prop),Inv X As σ H s→wi σ H R→
  wpAny (model X.prog X.w) X.A (eval iter X.env) (fun v s1=>wpAny (model X.prog X.w) X.A (pyIter v) (PIE X As σ tg R) X.xe s1) X.xe s
theorem kS{M:Model}{A:Around}{E:Value→Shared→Prop}{s:Shared}{tg:Expr}{it:Addr}{u:Value}{o:Obj}{n:String}{vs:Array Value}{Q:Unit→Shared→Prop}(ho:s.heap.get? it=some o)(hc:o.cls=.type n)(hd:o.data=.fields vs)(hn:["enumerate","zip","dict_itemiterator","dict_reverseitemiterator","odict_iterator","itertools.zip_longest","itertools.pairwise"].contains n=false)(hQ:Q () s):wpAny M A (letOwnedTupleGo tg (.ref it) u) Q E s:=by
 unfold letOwnedTupleGo;cases tg <;> first
  |exact pi hQ
  | (cases u <;> first
    |exact pi hQ
    | (refine ae (Ap ho ?_)
       rw[hc,hd];show wpAny M A (if (["enumerate","zip","dict_itemiterator","dict_reverseitemiterator","odict_iterator","itertools.zip_longest","itertools.pairwise"].contains n && vs[0]? == some (rawInt _))=true then _ else _) Q E s;rw[xz (by intro h;rw[hn,zU]at h;cases h)];exact pi hQ))
def Itl(K:W.Frag)(a:Addr):It:=
 ⟨fun i H=>∃xs x,SqL K H a xs∧xs[i]?=some x,fun i H x H'=>H'=H∧∀xs,SqL K H a xs→xs[i]?=some x,fun i H=>∃xs,SqL K H a xs∧xs.length≤i⟩
def Itt(K:W.Frag)(a:Addr):It:=
 ⟨fun i H=>∃xs x,SqT K H a xs∧xs[i]?=some x,fun i H x H'=>H'=H∧∀xs,SqT K H a xs→xs[i]?=some x,fun i H=>∃xs,SqT K H a xs∧xs.length≤i⟩
def Itr(lo:Int)(n:Nat):It:=⟨fun i _=>i<n,fun i H x H'=>H'=H∧x=.int (lo+i),fun i _=>n≤i⟩
theorem lR{P:Program}{w:World}{K:W.Frag}{tg:Expr}(a it:Addr):Turn P w K tg (Itl K a) [it] it (fun i h=>h.IsListIter it a i) where
 mem:=by simp
 obj:=fun i h st b hb=>by
  have e:b=it:=by simpa using hb
  subst e;obtain⟨o,e,c,d⟩:=st;exact⟨o,e,fun v z=>by rw[d]at z;cases z⟩
 keep:=fun i h h' st k=>st.at fun o e=>k it (by simp) o e
 item:=by
  intro X hP hw hK hc i As s σ H E I hf st hg;subst hP hw hK;obtain⟨xs,x,hq,hx⟩:=hg;obtain⟨its,rv,p,hz⟩:=I.list hq;obtain⟨u,hu,ru⟩:=rv.get hx;obtain⟨f0,f1,f2,f3,f4,f5⟩:=hf it (by simp);refine wpAny_pyNext_list_item st p.isList (x:=u) (by simpa using hu) fun h' AF sb=>?_;have I1:Inv X As σ H {s with heap:=h'}:=I.turned (t':=s.toks) (fun b o hb e=>(sb.2 b hb).trans e) f0 f1 f3 f4 f5;obtain⟨o,e,c,d⟩:=id AF;exact⟨u,rfl,kS (s:={s with heap:=h'}) e c d (by decide) ⟨x,H,I1,ru,⟨rfl,fun ys hy=>by rw[I.list_inj hy hq];exact hx⟩,AF,fun b hb=>(hf b hb).1⟩⟩
 done:=by
  intro X hP hw hK hc i As s σ H E I hf st hg;subst hP hw hK;obtain⟨xs,hq,hx⟩:=hg;obtain⟨its,rv,p,hz⟩:=I.list hq;obtain⟨f0,f1,f2,f3,f4,f5⟩:=hf it (by simp);have hl:=rv.length;exact wpAny_pyNext_list_end (I.ok.hd hc) st p.isList (by simp;omega) fun h' eb=>⟨rfl,I.turned (t':=s.toks) (fun b o hb e=>eb b o hb e) f0 f1 f3 f4 f5⟩
 self:=fun _ _ _ _ _ st h=>wpAny_pyIter_listiter st h
theorem iM{P:Program}{w:World}{K:W.Frag}{tg:Expr}(a it:Addr):Turn P w K tg (Itt K a) [it] it (fun i h=>h.IsTupleIter it a i) where
 mem:=by simp
 obj:=fun i h st b hb=>by
  have e:b=it:=by simpa using hb
  subst e;obtain⟨o,e,c,d⟩:=st;exact⟨o,e,fun v z=>by rw[d]at z;cases z⟩
 keep:=fun i h h' st k=>st.at fun o e=>k it (by simp) o e
 item:=by
  intro X hP hw hK hc i As s σ H E I hf st hg;subst hP hw hK;obtain⟨xs,x,hq,hx⟩:=hg;obtain⟨its,rv,p,hz⟩:=I.tuple hq;obtain⟨u,hu,ru⟩:=rv.get hx;obtain⟨f0,f1,f2,f3,f4,f5⟩:=hf it (by simp);refine wpAny_pyNext_tuple_item st (show s.heap.IsTuple a its.toArray from p) (x:=u) (by simpa using hu) fun h' AF sb=>?_;have I1:Inv X As σ H {s with heap:=h'}:=I.turned (t':=s.toks) (fun b o hb e=>(sb.2 b hb).trans e) f0 f1 f3 f4 f5;obtain⟨o,e,c,d⟩:=id AF;exact⟨u,rfl,kS (s:={s with heap:=h'}) e c d (by decide) ⟨x,H,I1,ru,⟨rfl,fun ys hy=>by rw[I.tuple_inj hy hq];exact hx⟩,AF,fun b hb=>(hf b hb).1⟩⟩
 done:=by
  intro X hP hw hK hc i As s σ H E I hf st hg;subst hP hw hK;obtain⟨xs,hq,hx⟩:=hg;obtain⟨its,rv,p,hz⟩:=I.tuple hq;obtain⟨f0,f1,f2,f3,f4,f5⟩:=hf it (by simp);have hl:=rv.length;exact wpAny_pyNext_tuple_end (I.ok.hd hc) st (show s.heap.IsTuple a its.toArray from p) (by simp;omega) fun h' eb=>⟨rfl,I.turned (t':=s.toks) (fun b o hb e=>eb b o hb e) f0 f1 f3 f4 f5⟩
 self:=fun _ _ _ _ _ st h=>wpAny_pyIter_tupleiter st h
theorem iP{P:Program}{w:World}{K:PySem.W.Frag}{tg:Expr}(it:Addr)(lo:Int)(n:Nat):Turn P w K tg (Itr lo n) [it] it (fun i h=>IsRangeIter h it (lo+(i:Nat)*1) ((n:Int)-(i:Nat)) 1) where
 mem:=by simp
 obj:=fun i h st b hb=>by
  have e:b=it:=by simpa using hb
  subst e;exact⟨_,st,fun v z=>by
   have z':Data.fields _=Data.cell v:=z;cases z'⟩
 keep:=fun i h h' st k=>k it (by simp) _ st
 item:=by
  intro X hP hw hK hc i As s σ H E I hf st hg;subst hP hw hK;obtain⟨f0,f1,f2,f3,f4,f5⟩:=hf it (by simp);have W:=Walks.range (prog:=X.prog) (w:=X.w) (I.ok.hd hc) it lo 1 n;refine W.item i s _ _ hg st fun v h' tk hv AF kk=>?_;obtain⟨t,rfl⟩:=hv;have I1:Inv X As σ H {s with heap:=h',toks:=tk}:=I.turned (fun b o hb e=>kk b o (by simpa using hb) e) f0 f1 f3 f4 f5;refine⟨_,rfl,kS (s:={s with heap:=h',toks:=tk}) (n:="range_iterator") AF rfl rfl (by decide) ⟨.int (lo+i),H,I1,⟨t,?_⟩,⟨rfl,rfl⟩,AF,fun b hb=>(hf b hb).1⟩⟩;rw[zK]
 done:=by
  intro X hP hw hK hc i As s σ H E I hf st hg;subst hP hw hK;obtain⟨f0,f1,f2,f3,f4,f5⟩:=hf it (by simp);exact wpAny_pyNext_range_end (I.ok.hd hc) st (by have:n≤i:=hg;omega) fun h' eb=>⟨rfl,I.turned (t':=s.toks) (fun b o hb e=>eb b o hb e) f0 f1 f3 f4 f5⟩
 self:=fun _ _ _ _ _ st h=>wpAny_pyIter_rangeiter st h
section
variable{X:Cx}{tg:Expr}
def xu(K:W.Frag)(tl:TE):TI:=fun σ H R=>tl σ H fun x H1=>∃a,x=.ref a∧(∃xs,SqL K H1 a xs)∧R (Itl K a) H1
def iTup(K:W.Frag)(tl:TE):TI:=fun σ H R=>tl σ H fun x H1=>∃a,x=.ref a∧(∃xs,SqT K H1 a xs)∧R (Itt K a) H1
theorem Yv{l:Expr}{tl:TE}(hl:PE X l tl):PI X tg l (xu X.K tl):=by
 intro As s σ H R I h;refine thn (hl As s σ H _ I h) fun v s1 At=>?_;obtain⟨x,H1,I1,r1,q1⟩:=At;obtain⟨a,e,⟨xs,hq⟩,q⟩:=q1;subst e;cases r1;obtain⟨its,rv,p,hz⟩:=I1.list hq;refine wpAny_pyIter_list p.isList ?_;refine⟨s1.heap.objs.size,[s1.heap.objs.size],_,_,H1,rfl,I1.kept (t':=s1.toks) fun b o e=>io _ e,lR a _,⟨_,xO _ rfl,rfl,rfl⟩,fun b hb=>?_,q⟩;have e:b=s1.heap.objs.size:=by simpa using hb
 subst e;exact I1.fpOk (xA _) (I1.hok.fresh (xA _))
theorem Ql{l:Expr}{tl:TE}(hl:PE X l tl):PI X tg l (iTup X.K tl):=by
 intro As s σ H R I h;refine thn (hl As s σ H _ I h) fun v s1 At=>?_;obtain⟨x,H1,I1,r1,q1⟩:=At;obtain⟨a,e,⟨xs,hq⟩,q⟩:=q1;subst e;cases r1;obtain⟨its,rv,p,hz⟩:=I1.tuple hq;refine wpAny_pyIter_tuple (show s1.heap.IsTuple a its.toArray from p) ?_;refine⟨s1.heap.objs.size,[s1.heap.objs.size],_,_,H1,rfl,I1.kept (t':=s1.toks) fun b o e=>io _ e,iM a _,⟨_,xO _ rfl,rfl,rfl⟩,fun b hb=>?_,q⟩;have e:b=s1.heap.objs.size:=by simpa using hb
 subst e;exact I1.fpOk (xA _) (I1.hok.fresh (xA _))
theorem hZ{As:List (Addr×Obj)}{σ:St}{H:Hp}{s:Shared}{R:It→Hp→Prop}{E:Value→Shared→Prop}{lo hi:Int}{t u v:Tok}{tk:Nat}(I:Inv X As σ H s)(h1:-(2^62)≤lo)(h2:lo<2^62)(h3:-(2^62)≤hi)(h4:hi<2^62)(q:R (Itr lo (hi-lo).toNat) H):wpAny (model X.prog X.w) X.A (pyIter (.ref s.heap.objs.size)) (PIE X As σ tg R) E {s with heap:=s.heap.push {cls:=.type "range",data:=.fields #[.int lo t,.int hi u,.int 1 v]},toks:=tk}:=by
 refine wpAny_pyIter_range (IsRange.new ..) (small_one h1 h2 h3 h4) ?_;have I1:Inv X As σ H {s with heap:=s.heap.push {cls:=.type "range",data:=.fields #[.int lo t,.int hi u,.int 1 v]},toks:=tk}:=I.kept fun b o e=>io _ e;refine⟨(s.heap.push {cls:=.type "range",data:=.fields #[.int lo t,.int hi u,.int 1 v]}).objs.size,[(s.heap.push {cls:=.type "range",data:=.fields #[.int lo t,.int hi u,.int 1 v]}).objs.size],_,_,H,rfl,
  I1.kept (t':=tk) fun b o e=>io _ e,iP _ lo (hi-lo).toNat,?_,fun b hb=>?_,q⟩
 ·have e1:lo+((0:Nat):Int)*1=lo:=by simp
  have e2:(((hi-lo).toNat:Nat):Int)-((0:Nat):Int)=Builtin.Range.rangeSize lo hi 1:=by rw[rangeSize_one];split <;> omega
  show IsRangeIter _ _ (lo+((0:Nat):Int)*1) ((((hi-lo).toNat:Nat):Int)-((0:Nat):Int)) 1;rw[e1,e2];exact xO _ rfl
 ·have e:b=(s.heap.push {cls:=.type "range",data:=.fields #[.int lo t,.int hi u,.int 1 v]}).objs.size:=by simpa using hb
  subst e;exact I1.fpOk (xA _) (I1.hok.fresh (xA _))
def vM(ta:TA):TI:=fun σ H R=>ta σ H fun vs H1=>∃j:Int,vs=[.int j]∧-(2^62)≤j∧j<2^62∧R (Itr 0 j.toNat) H1
def vP(ta:TA):TI:=fun σ H R=>ta σ H fun vs H1=>∃i j:Int,vs=[.int i,.int j]∧(-(2^62)≤i∧i<2^62∧-(2^62)≤j∧j<2^62)∧R (Itr i (j-i).toNat) H1
theorem Uq{a:Expr}{ta:TA}{p pos:Pos}(hg:Gl X "range")(hm:X.mg "range"=none)(ha:PA X [a] ta)(hs:starEach [a] X.env=[(false,eval a X.env)]:=by rfl):PI X tg (.Call (.Name "range" p) [a] [] pos) (vM ta):=by
 intro As s σ H R I h;refine Call_ (P1 I hg hm boot_range (PyProof.Rows.callWith_type1 (thn (ha pos As s σ H _ I h) fun us s1 ⟨vs,H1,I1,r1,q1⟩=>?_) hs rfl));obtain⟨j,e,q1,q2,q⟩:=q1;subst e;cases r1 with
 |cons r rr=>
  cases rr;obtain⟨t,rfl⟩:=r;exact call_range_1 (hZ I1 (by omega) (by omega) q1 q2 (by simpa using q))
theorem lH{a b:Expr}{ta:TA}{p pos:Pos}(hg:Gl X "range")(hm:X.mg "range"=none)(ha:PA X [a,b] ta)(hs:starEach [a,b] X.env=[(false,eval a X.env),(false,eval b X.env)]:=by rfl)(hs2:starEach [b] X.env=[(false,eval b X.env)]:=by rfl):
  PI X tg (.Call (.Name "range" p) [a,b] [] pos) (vP ta):=by
 intro As s σ H R I h;refine Call_ (P1 I hg hm boot_range (PyProof.Rows.callWith_type1 (thn (ha pos As s σ H _ I h) fun us s1 ⟨vs,H1,I1,r1,q1⟩=>?_) (by rw[hs,hs2]) (by rw[hs2];rfl)));obtain⟨i,j,e,⟨q1,q2,q3,q4⟩,q⟩:=q1;subst e;cases r1 with
 |cons r rr=>
  cases rr with
  |cons r' rr=>
   cases rr;obtain⟨t,rfl⟩:=r;obtain⟨t',rfl⟩:=r';exact call_range_2 (hZ I1 q1 q2 q3 q4 q)
def tFor(wi:TI)(g:TG)(tb:TS):TS:=fun D σ H=>wi σ H fun J H1=>∃W:Nat→Nat→St→Hp→Prop,(∃m,W 0 m σ H1)∧∀i m σ H,W i m σ H→
 (J.stop i H∧D.nx σ H)∨(J.go i H∧∃N:St→Hp→Prop,(∀σ' H',N σ' H'→∃m',m'<m∧W (i+1) m' σ' H')∧∀x H',J.yld i H x H'→g x σ H' fun σ2 H2=>tb {D with nx:=N,ct:=N,bk:=D.nx} σ2 H2)
def dZ(fp:List Addr)(h:Heap):List (Addr×Obj):=fp.filterMap fun b=>(h.get? b).map fun o=>(b,o)
theorem Vz{fp:List Addr}{h:Heap}{b:Addr}{o:Obj}(hb:b∈fp)(e:h.get? b=some o):(b,o)∈dZ fp h:=zo.mpr ⟨b,hb,by rw[e];rfl⟩
theorem l7{fp:List Addr}{h:Heap}{p:Addr×Obj}(hp:p∈dZ fp h):p.1∈fp∧h.get? p.1=some p.2:=by
 obtain⟨b,hb,e⟩:=zo.mp hp;cases q:h.get? b with
 |none=>rw[q]at e;cases e
 |some o=>
  rw[q]at e;have e':(b,o)=p:=xV e;subst e';exact⟨hb,q⟩
theorem Inv.pinned{As:List (Addr×Obj)}{σ:St}{H:Hp}{s:Shared}{fp:List Addr}(I:Inv X As σ H s)(hf:∀b∈fp,de X As H b)(ho:∀b∈fp,∃o,s.heap.get? b=some o∧∀v,o.data≠.cell v):Inv X (As++dZ fp s.heap) σ H s:=
 I.pins_of fun p hp=>(xR.mp hp).elim (fun z=>I.pin p (xP _ z)) fun z=>by
  obtain⟨hb,e⟩:=l7 z;obtain⟨f0,f1,f2,_⟩:=hf p.1 hb;obtain⟨o,e',d⟩:=ho p.1 hb;rw[e]at e';cases e';exact⟨e,f0,f1,f2,d⟩
theorem Inv.unpinned{As pl:List (Addr×Obj)}{σ:St}{H:Hp}{s:Shared}(I:Inv X (As++pl) σ H s):Inv X As σ H s:=I.pins_of fun p hp=>I.pin p (xP _ (yC _ hp))
theorem X7{iter:Expr}{body:List Stmt}{wi:TI}{g:TG}{tb:TS}{pos:Pos}(hp:PassesOwn (model X.prog X.w) X.A X.env X.xe)(hc:X.calm=true)(hi:PI X tg iter wi)(hg:PG X tg g)(hb:PSs X body tb)(hs:∀x,foldedSetIterable iter X.env x=pure x:=by intro _;rfl):PS X (.For tg iter body [] pos) (tFor wi g tb):=by
 intro As s σ H D I h;refine wpAny_For (thn (hi As s σ H _ I h) fun v s1 h1=>thn h1 fun itv s2 h2=>?_) hs;obtain⟨it,fp,tn,J,H2,e,I2,T,st2,f2,W,⟨m0,w0⟩,turn⟩:=h2;subst e;have stat:∀{H':Hp},(∀b∈fp,H' b=none)→∀b∈fp,de X As H' b:=fun hn b hb=>⟨hn b hb,(f2 b hb).2⟩;refine codeAny_forLoop_any (fun n s'=>∃i σ' H',Inv X As σ' H' s'∧tn i s'.heap∧(∀b∈fp,H' b=none)∧W i n σ' H') ?_ m0 ⟨0,σ,H2,I2,st2,fun b hb=>(f2 b hb).1,w0⟩;rintro n s3 ⟨i,σ3,H3,I3,st3,fr3,w3⟩
 rcases turn i n σ3 H3 w3 with⟨stop,qn⟩|⟨go,N,hN,step⟩
 ·refine zP hp (thn (T.done X rfl rfl rfl hc i As s3 σ3 H3 X.xe I3 (stat fr3) st3 stop) fun r s4 At=>?_);obtain⟨hr,I4⟩:=At;subst hr;exact wpAny_execs_nil ⟨σ3,H3,I4,qn⟩
 ·refine zP hp (thn (T.item X rfl rfl rfl hc i As s3 σ3 H3 X.xe I3 (stat fr3) st3 go) fun r s4 At=>?_);obtain⟨u,hr,h4⟩:=At;subst hr;refine zP hp (thn h4 fun _ s5 At=>?_);obtain⟨x,H5,I5,r5,y5,st5,fr5⟩:=At;have I5':=I5.pinned (stat fr5) (T.obj _ _ st5);refine zP hp (thn (hg _ s5 σ3 H5 x u _ I5' r5 (step x H5 y5)) fun _ s6 At=>?_);obtain⟨σ6,H6,I6,q6⟩:=At;refine zP hp (thn (hb _ s6 σ6 H6 _ I6 q6) fun f s7 q7=>?_);have again:∀{σ7:St}{H7:Hp},Inv X (As++dZ fp s5.heap) σ7 H7 s7→N σ7 H7→∃m,m<n∧∃i σ' H',Inv X As σ' H' s7∧tn i s7.heap∧(∀b∈fp,H' b=none)∧W i m σ' H':=fun{σ7 H7} I7 n7=>by
   obtain⟨m',hm,w7⟩:=hN σ7 H7 n7;refine⟨m',hm,i+1,σ7,H7,I7.unpinned,T.keep _ _ _ st5 fun b hb o e=>(I7.pin (b,o) (xP _ (xP _ (Vz hb e)))).1,fun b hb=>?_,w7⟩;obtain⟨o,e,d⟩:=T.obj _ _ st5 b hb;exact(I7.pin (b,o) (xP _ (xP _ (Vz hb e)))).2.1
  cases f with
  |next=>obtain⟨σ7,H7,I7,n7⟩:=q7;exact again I7 n7
  |cont=>obtain⟨σ7,H7,I7,n7⟩:=q7;exact again I7 n7
  |brk=>obtain⟨σ7,H7,I7,q7⟩:=q7;exact⟨σ7,H7,I7.unpinned,q7⟩
  |ret v=>obtain⟨x7,σ7,H7,I7,r7,q7⟩:=q7;exact⟨x7,σ7,H7,I7.unpinned,r7,q7⟩
end
theorem P8{K:PySem.W.Frag}{a:Addr}{xs:List V}{g:TG}{tb:TS}{D:Ends}{σ:St}{H:Hp}(Pv:Nat→St→Hp→Prop)(h0:Pv 0 σ H)(hl:∀i σ H,i≤xs.length→Pv i σ H→SqL K H a xs)(hs:∀i x σ H,xs[i]?=some x→Pv i σ H→g x σ H fun σ2 H2=>tb {D with nx:=Pv (i+1),ct:=Pv (i+1),bk:=D.nx} σ2 H2)(hd:∀σ H,Pv xs.length σ H→D.nx σ H):
  ∃W:Nat→Nat→St→Hp→Prop,(∃m,W 0 m σ H)∧∀i m σ H,W i m σ H→
   ((Itl K a).stop i H∧D.nx σ H)∨((Itl K a).go i H∧∃N:St→Hp→Prop,(∀σ' H',N σ' H'→∃m',m'<m∧W (i+1) m' σ' H')∧∀x H',(Itl K a).yld i H x H'→g x σ H' fun σ2 H2=>tb {D with nx:=N,ct:=N,bk:=D.nx} σ2 H2):=by
 refine⟨fun i m σ H=>m=xs.length-i∧i≤xs.length∧Pv i σ H,⟨xs.length,by simp,Nat.zero_le _,h0⟩,?_⟩;rintro i m σ H ⟨rfl,hi,p⟩;have q:=hl i σ H hi p;by_cases Ay:i<xs.length
 ·refine .inr ⟨⟨xs,xs[i],q,by simp[Ay]⟩,Pv (i+1),fun σ' H' p'=>⟨xs.length-(i+1),by omega,rfl,Ay,p'⟩,fun x H' y=>?_⟩;obtain⟨e,y⟩:=y;subst e;exact hs i x σ _ (y xs q) p
 ·have e:i=xs.length:=by omega
  subst e;exact .inl ⟨⟨xs,q,xA _⟩,hd σ H p⟩
theorem p_{K:PySem.W.Frag}{a:Addr}{xs:List V}{g:TG}{tb:TS}{D:Ends}{σ:St}{H:Hp}(Pv:Nat→St→Hp→Prop)(h0:Pv 0 σ H)(hl:∀i σ H,i≤xs.length→Pv i σ H→SqT K H a xs)(hs:∀i x σ H,xs[i]?=some x→Pv i σ H→g x σ H fun σ2 H2=>tb {D with nx:=Pv (i+1),ct:=Pv (i+1),bk:=D.nx} σ2 H2)(hd:∀σ H,Pv xs.length σ H→D.nx σ H):
  ∃W:Nat→Nat→St→Hp→Prop,(∃m,W 0 m σ H)∧∀i m σ H,W i m σ H→
   ((Itt K a).stop i H∧D.nx σ H)∨((Itt K a).go i H∧∃N:St→Hp→Prop,(∀σ' H',N σ' H'→∃m',m'<m∧W (i+1) m' σ' H')∧∀x H',(Itt K a).yld i H x H'→g x σ H' fun σ2 H2=>tb {D with nx:=N,ct:=N,bk:=D.nx} σ2 H2):=by
 refine⟨fun i m σ H=>m=xs.length-i∧i≤xs.length∧Pv i σ H,⟨xs.length,by simp,Nat.zero_le _,h0⟩,?_⟩;rintro i m σ H ⟨rfl,hi,p⟩;have q:=hl i σ H hi p;by_cases Ay:i<xs.length
 ·refine .inr ⟨⟨xs,xs[i],q,by simp[Ay]⟩,Pv (i+1),fun σ' H' p'=>⟨xs.length-(i+1),by omega,rfl,Ay,p'⟩,fun x H' y=>?_⟩;obtain⟨e,y⟩:=y;subst e;exact hs i x σ _ (y xs q) p
 ·have e:i=xs.length:=by omega
  subst e;exact .inl ⟨⟨xs,q,xA _⟩,hd σ H p⟩
theorem lQ{lo:Int}{n:Nat}{g:TG}{tb:TS}{D:Ends}{σ:St}{H:Hp}(Pv:Nat→St→Hp→Prop)(h0:Pv 0 σ H)(hs:∀i σ H,i<n→Pv i σ H→g (.int (lo+i)) σ H fun σ2 H2=>tb {D with nx:=Pv (i+1),ct:=Pv (i+1),bk:=D.nx} σ2 H2)(hd:∀σ H,Pv n σ H→D.nx σ H):
  ∃W:Nat→Nat→St→Hp→Prop,(∃m,W 0 m σ H)∧∀i m σ H,W i m σ H→
   ((Itr lo n).stop i H∧D.nx σ H)∨((Itr lo n).go i H∧∃N:St→Hp→Prop,(∀σ' H',N σ' H'→∃m',m'<m∧W (i+1) m' σ' H')∧∀x H',(Itr lo n).yld i H x H'→g x σ H' fun σ2 H2=>tb {D with nx:=N,ct:=N,bk:=D.nx} σ2 H2):=by
 refine⟨fun i m σ H=>m=n-i∧i≤n∧Pv i σ H,⟨n,by simp,Nat.zero_le _,h0⟩,?_⟩;rintro i m σ H ⟨rfl,hi,p⟩;by_cases Ay:i<n
 ·refine .inr ⟨Ay,Pv (i+1),fun σ' H' p'=>⟨n-(i+1),by omega,rfl,Ay,p'⟩,fun x H' y=>?_⟩;obtain⟨e,y⟩:=y;subst e y;exact hs i σ _ Ay p
 ·have e:i=n:=by omega
  subst e;exact .inl ⟨xA _,hd σ H p⟩
theorem oJ{c:TT}{tb:TS}{D:Ends}{σ:St}{H:Hp}(Pv:St→Hp→Prop)(μ:St→Hp→Nat)(h0:Pv σ H)(hs:∀σ H,Pv σ H→c σ H fun b H1=>if b=true then tb {D with nx:=fun σ' H'=>Pv σ' H'∧μ σ' H'<μ σ H,ct:=fun σ' H'=>Pv σ' H'∧μ σ' H'<μ σ H,bk:=D.nx} σ H1 else D.nx σ H1)(mono:∀σ H Q Q',(∀b H1,Q b H1→Q' b H1)→c σ H Q→c σ H Q'):oR c tb D σ H:=by
 refine⟨fun m σ H=>m=μ σ H∧Pv σ H,⟨_,rfl,h0⟩,?_⟩;rintro m σ H ⟨rfl,p⟩;refine mono σ H _ _ (fun b H1 q=>?_) (hs σ H p);cases b with
 |true=>exact⟨_,fun σ' H' ⟨p',l⟩=>⟨_,l,rfl,p'⟩,q⟩
 |false=>exact q
abbrev R2:=V→V→Hp→VK→Prop
def OpR(X:Cx)(f:Value→Value→Sem Value)(r:R2):Prop:=
 ∀(As:List (Addr×Obj))(s:Shared)(σ:St)(H:Hp)(x y:V)(v u:Value)(Q:VK),Inv X As σ H s→RelV x v→RelV y u→r x y H Q→
  wpAny (model X.prog X.w) X.A (f v u) (EP X As σ Q) X.xe s
def bE(X:Cx)(f:Value)(r:List V→Hp→VK→Prop):Prop:=
 ∀(As:List (Addr×Obj))(s:Shared)(σ:St)(H:Hp)(xs:List V)(us:List Value)(Q:VK),Inv X As σ H s→Vals xs us→r xs H Q→
  wpAny (model X.prog X.w) X.A (call f us) (EP X As σ Q) X.xe s
def tOp(r:R2)(ta tb:TE):TE:=fun σ H Q=>ta σ H fun x H1=>tb σ H1 fun y H2=>r x y H2 Q
def rI(C:Int→Int→Prop)(g:Int→Int→V):R2:=fun x y H Q=>∃i j,x=.int i∧y=.int j∧C i j∧Q (g i j) H
def rI0(g:Int→Int→V):R2:=fun x y H Q=>∃i j,x=.int i∧y=.int j∧Q (g i j) H
section
variable{X:Cx}{a b c:Expr}{ta tb tc:TE}{pos:Pos}
theorem uS(ha:PE X a ta)(hb:PE X b tb){As:List (Addr×Obj)}{s:Shared}{σ:St}{H:Hp}{R:V→V→Hp→Prop}(I:Inv X As σ H s)(h:ta σ H fun x H1=>tb σ H1 fun y H2=>R x y H2){Q:Value→Shared→Prop}{f:Value→Value→Sem Value}(hf:∀v u s2 x y H2,Inv X As σ H2 s2→RelV x v→RelV y u→R x y H2→wpAny (model X.prog X.w) X.A (f v u) Q X.xe s2):
  wpAny (model X.prog X.w) X.A (eval a X.env) (fun v s₁=>wpAny (model X.prog X.w) X.A (eval b X.env) (fun u s₂=>wpAny (model X.prog X.w) X.A (f v u) Q X.xe s₂) X.xe s₁) X.xe s:=by
 refine thn (ha As s σ H _ I h) fun v s1 At=>?_;obtain⟨x,H1,I1,r1,q1⟩:=At;refine thn (hb As s1 σ H1 _ I1 q1) fun u s2 At=>?_;obtain⟨y,H2,I2,r2,q2⟩:=At;exact hf v u s2 x y H2 I2 r1 r2 q2
theorem Ze{op:Operator}{r:R2}(ho:OpR X (binaryOp op) r)(ha:PE X a ta)(hb:PE X b tb):PE X (.BinOp a op b pos) (tOp r ta tb):=by
 intro As s σ H Q I h;exact wpAny_BinOp (uS ha hb I h fun v u s2 x y H2 I2 rx ry q=>ho As s2 σ H2 x y v u Q I2 rx ry q)
theorem opI{f:Value→Value→Sem Value}{C:Int→Int→Prop}{g:Int→Int→Int}(rule:∀(i j:Int) (t u:Tok) (s:Shared) (Q:Value→Shared→Prop) (E:Value→Shared→Prop),C i j→Q (.int (g i j) s.toks) {s with toks:=s.toks+1}→wpAny (model X.prog X.w) X.A (f (.int i t) (.int j u)) Q E s):
  OpR X f (rI C fun i j=>.int (g i j)):=by
 intro As s σ H x y v u Q I rx ry h;obtain⟨i,j,rfl,rfl,hc,q⟩:=h;obtain⟨t,rfl⟩:=rx;obtain⟨t',rfl⟩:=ry;exact rule i j t t' s _ _ hc ⟨.int (g i j),H,I.tok _,⟨_,rfl⟩,q⟩
theorem vZ{f:Value→Value→Sem Value}{g:Int→Int→Int}(rule:∀(i j:Int) (t u:Tok) (s:Shared) (Q:Value→Shared→Prop) (E:Value→Shared→Prop),Q (.int (g i j) s.toks) {s with toks:=s.toks+1}→wpAny (model X.prog X.w) X.A (f (.int i t) (.int j u)) Q E s):
  OpR X f (rI0 fun i j=>.int (g i j)):=by
 intro As s σ H x y v u Q I rx ry h;obtain⟨i,j,rfl,rfl,q⟩:=h;obtain⟨t,rfl⟩:=rx;obtain⟨t',rfl⟩:=ry;exact rule i j t t' s _ _ ⟨.int (g i j),H,I.tok _,⟨_,rfl⟩,q⟩
theorem rN{f:Value→Value→Sem Value}{g:Int→Int→Bool}(rule:∀(i j:Int) (t u:Tok) (s:Shared) (Q:Value→Shared→Prop) (E:Value→Shared→Prop),Q (.bool (g i j)) s→wpAny (model X.prog X.w) X.A (f (.int i t) (.int j u)) Q E s):
  OpR X f (rI0 fun i j=>.bl (g i j)):=by
 intro As s σ H x y v u Q I rx ry h;obtain⟨i,j,rfl,rfl,q⟩:=h;obtain⟨t,rfl⟩:=rx;obtain⟨t',rfl⟩:=ry;exact rule i j t t' s _ _ ⟨.bl (g i j),H,I,rfl,q⟩
def wj(i j:Int):Prop:=0<j∧j<1073741824
def uP(i j:Int):Prop:=0≤j∧j≤1000000∧i.natAbs<2^64
def CMul(i j:Int):Prop:=(-(2^64)<i∧i<2^64)∨(-(2^64)<j∧j<2^64)
theorem CMul.ok{i j:Int}(h:CMul i j):IntMulOk i j:=by
 rcases h with⟨h1,h2⟩|⟨h1,h2⟩
 ·exact .of_left (intBits_le_64 h1 h2)
 ·exact .of_right (intBits_le_64 h1 h2)
theorem i5(k:Nat):(0:Int)≤2^k:=by
 rw[two_pow_cast];exact Int.natCast_nonneg _
theorem Zu:OpR X (binaryOp .Add) (rI0 fun i j=>.int (i+j)):=vZ fun _ _ _ _ _ _ _ q=>add_int q
theorem Xj:OpR X (binaryOp .Sub) (rI0 fun i j=>.int (i-j)):=vZ fun _ _ _ _ _ _ _ q=>sub_int q
theorem Vc:OpR X (binaryOp .Mult) (rI CMul fun i j=>.int (i*j)):=opI fun _ _ _ _ _ _ _ hc q=>mul_int q hc.ok
theorem Ur:OpR X (binaryOp .FloorDiv) (rI wj fun i j=>.int (i / j)):=opI fun i j _ _ _ _ _ hc q=>by
 have h1:(0:Int)<j:=hc.1;have h2:j<1073741824:=hc.2;exact floordiv_int (by omega) (by rw[Int.fdiv_eq_ediv_of_nonneg i (by omega)];exact q) (.inl (PyProof.noPylong_small (by omega)))
theorem Xy:OpR X (binaryOp .Mod) (rI (fun _ j=>0<j) fun i j=>.int (i % j)):=opI fun i j _ _ _ _ _ hc q=>by
 have h1:(0:Int)<j:=hc;exact mod_int' (by omega) (by rw[Int.fmod_eq_emod_of_nonneg i (by omega)];exact q)
theorem jk:OpR X (binaryOp .Pow) (rI uP fun i j=>.int (i^j.toNat)):=opI fun _ _ _ _ _ _ _ hc q=>pow_int_small hc.1 hc.2.1 hc.2.2 q
theorem Tf:OpR X (binaryOp .LShift) (rI uP fun i j=>.int (i*2^j.toNat)):=opI fun _ _ _ _ _ _ _ hc q=>lshift_int_small hc.1 hc.2.1 hc.2.2 q
theorem oO:OpR X (binaryOp .RShift) (rI (fun _ j=>0≤j) fun i j=>.int (i / 2^j.toNat)):=opI fun i j _ _ _ _ _ hc q=>
 rshift_int hc (by rw[Int.fdiv_eq_ediv_of_nonneg i (i5 _)];exact q)
end
def wR:V→V→Bool
 |.non,.non=>true | .non,.int _=>true | .int _,.non=>true | .non,.bl _=>true | .bl _,.non=>true | .non,.str _=>true | .str _,.non=>true
 |.int _,.int _=>true | .bl _,.bl _=>true | .str _,.str _=>true | .byt _,.byt _=>true
 |.int _,.str _=>true | .str _,.int _=>true | .bl _,.str _=>true | .str _,.bl _=>true
 |_,_=>false
def rEq:R2:=fun x y H Q=>wR x y=true∧Q (.bl (decide (x=y))) H
def rNe:R2:=fun x y H Q=>wR x y=true∧Q (.bl (!decide (x=y))) H
theorem jY{i j:Int}:decide (V.int i=V.int j)=(i==j):=by
 rw[yH];simp
theorem pc{i j:Bool}:decide (V.bl i=V.bl j)=(i==j):=by
 rw[yH];simp
theorem kQ{i j:Str}:decide (V.str i=V.str j)=(i==j):=by
 rw[yH];simp
theorem kU{i j:Array UInt8}:decide (V.byt i=V.byt j)=(i.toList==j.toList):=by
 rw[yH];cases i;cases j;simp
section
variable{X:Cx}{a b c:Expr}{ta tb tc:TE}{pos:Pos}
theorem Zz{As:List (Addr×Obj)}{σ:St}{H:Hp}{s:Shared}{Q:VK}{k k':Bool}(I:Inv X As σ H s)(q:Q (.bl k) H)(e:k=k'):EP X As σ Q (.bool k') s:=by
 subst e;exact⟨.bl k,H,I,rfl,q⟩
theorem S8:OpR X (compareOp .Eq) rEq:=by
 intro As s σ H x y v u Q I rx ry h;obtain⟨hs,q⟩:=h;cases x with
 |non=>
  cases rx;cases y with
  |non=>cases ry;exact PySem.EqNone.eq_none_none (Zz I q (by simp))
  |bl j=>cases ry;exact PySem.EqNone.eq_none_bool (Zz I q (by simp))
  |int j=>obtain⟨t',rfl⟩:=ry;exact PySem.EqNone.eq_none_int (Zz I q (by simp))
  |str j=>obtain⟨t',rfl⟩:=ry;exact PySem.EqNone.eq_none_str (Zz I q (by simp))
  |_=>exact absurd (show false=true from hs) xK
 |bl i=>
  cases rx;cases y with
  |non=>cases ry;exact PySem.EqNone.eq_bool_none (Zz I q (by simp))
  |bl j=>cases ry;exact eq_bool (Zz I q pc)
  |str j=>obtain⟨t',rfl⟩:=ry;exact PySem.EqMixed.eq_bool_str (Zz I q (by simp))
  |_=>exact absurd (show false=true from hs) xK
 |int i=>
  obtain⟨t,rfl⟩:=rx;cases y with
  |non=>cases ry;exact PySem.EqNone.eq_int_none (Zz I q (by simp))
  |int j=>obtain⟨t',rfl⟩:=ry;exact eq_int (Zz I q jY)
  |str j=>obtain⟨t',rfl⟩:=ry;exact PySem.EqMixed.eq_int_str (Zz I q (by simp))
  |_=>exact absurd (show false=true from hs) xK
 |str i=>
  obtain⟨t,rfl⟩:=rx;cases y with
  |non=>cases ry;exact PySem.EqNone.eq_str_none (Zz I q (by simp))
  |bl j=>cases ry;exact PySem.EqMixed.eq_str_bool (Zz I q (by simp))
  |int j=>obtain⟨t',rfl⟩:=ry;exact PySem.EqMixed.eq_str_int (Zz I q (by simp))
  |str j=>obtain⟨t',rfl⟩:=ry;exact eq_str (Zz I q kQ)
  |_=>exact absurd (show false=true from hs) xK
 |byt i=>
  obtain⟨t,rfl⟩:=rx;cases y with
  |byt j=>obtain⟨t',rfl⟩:=ry;exact W.eq_bytes (Zz I q kU)
  |_=>exact absurd (show false=true from hs) xK
 |_=>cases y <;> exact absurd (show false=true from hs) xK
theorem Qo:OpR X (compareOp .NotEq) rNe:=by
 intro As s σ H x y v u Q I rx ry h;obtain⟨hs,q⟩:=h;cases x with
 |non=>
  cases rx;cases y with
  |non=>cases ry;exact PySem.EqNone.ne_none_none (Zz I q (by simp))
  |bl j=>cases ry;exact PySem.EqNone.ne_none_bool (Zz I q (by simp))
  |int j=>obtain⟨t',rfl⟩:=ry;exact PySem.EqNone.ne_none_int (Zz I q (by simp))
  |str j=>obtain⟨t',rfl⟩:=ry;exact PySem.EqNone.ne_none_str (Zz I q (by simp))
  |_=>exact absurd (show false=true from hs) xK
 |bl i=>
  cases rx;cases y with
  |non=>cases ry;exact PySem.EqNone.ne_bool_none (Zz I q (by simp))
  |bl j=>cases ry;exact ne_bool (Zz I q (yP not pc))
  |str j=>obtain⟨t',rfl⟩:=ry;exact PySem.EqMixed.ne_bool_str (Zz I q (by simp))
  |_=>exact absurd (show false=true from hs) xK
 |int i=>
  obtain⟨t,rfl⟩:=rx;cases y with
  |non=>cases ry;exact PySem.EqNone.ne_int_none (Zz I q (by simp))
  |int j=>obtain⟨t',rfl⟩:=ry;exact ne_int (Zz I q (yP not jY))
  |str j=>obtain⟨t',rfl⟩:=ry;exact PySem.EqMixed.ne_int_str (Zz I q (by simp))
  |_=>exact absurd (show false=true from hs) xK
 |str i=>
  obtain⟨t,rfl⟩:=rx;cases y with
  |non=>cases ry;exact PySem.EqNone.ne_str_none (Zz I q (by simp))
  |bl j=>cases ry;exact PySem.EqMixed.ne_str_bool (Zz I q (by simp))
  |int j=>obtain⟨t',rfl⟩:=ry;exact PySem.EqMixed.ne_str_int (Zz I q (by simp))
  |str j=>obtain⟨t',rfl⟩:=ry;exact ne_str (Zz I q (yP not kQ))
  |_=>exact absurd (show false=true from hs) xK
 |byt i=>
  obtain⟨t,rfl⟩:=rx;cases y with
  |byt j=>obtain⟨t',rfl⟩:=ry;exact W.ne_bytes (Zz I q (yP not kU))
  |_=>exact absurd (show false=true from hs) xK
 |_=>cases y <;> exact absurd (show false=true from hs) xK
theorem Re:OpR X (compareOp .Lt) (rI0 fun i j=>.bl (decide (i<j))):=rN fun _ _ _ _ _ _ _ q=>lt_int q
theorem sU:OpR X (compareOp .LtE) (rI0 fun i j=>.bl (decide (i≤j))):=rN fun _ _ _ _ _ _ _ q=>le_int q
theorem Rf:OpR X (compareOp .Gt) (rI0 fun i j=>.bl (decide (j<i))):=rN fun _ _ _ _ _ _ _ q=>gt_int q
theorem hO:OpR X (compareOp .GtE) (rI0 fun i j=>.bl (decide (j≤i))):=rN fun _ _ _ _ _ _ _ q=>ge_int q
theorem Qq:OpR X (compareOp .Is) (fun x y H Q=>y=.non∧Q (.bl (decide (x=.non))) H):=by
 intro As s σ H x y v u Q I rx ry h;obtain⟨rfl,q⟩:=h;cases ry;refine is_none_gen (Zz I q ?_);cases x <;> first
  | (cases rx;rfl)
  | (obtain⟨t,rfl⟩:=rx;rfl)
theorem S7:OpR X (compareOp .IsNot) (fun x y H Q=>y=.non∧Q (.bl (!decide (x=.non))) H):=by
 intro As s σ H x y v u Q I rx ry h;obtain⟨rfl,q⟩:=h;cases ry;refine isnot_none_gen (Zz I q ?_);cases x <;> first
  | (cases rx;rfl)
  | (obtain⟨t,rfl⟩:=rx;rfl)
theorem Zh(b:Expr){op:CmpOp}(h:op≠.In:=by decide)(h2:op≠.NotIn:=by decide):behindInMarks op b=false:=by
 have e1:(op==CmpOp.In)=false:=by cases op <;> first | rfl | exact absurd rfl h
 have e2:(op==CmpOp.NotIn)=false:=by cases op <;> first | rfl | exact absurd rfl h2
 cases b <;> simp[behindInMarks,e1,e2]
theorem Xx{op:CmpOp}{r:R2}(ho:OpR X (compareOp op) r)(ha:PE X a ta)(hb:PE X b tb)(hm:behindInMarks op b=false):PE X (.Compare a [op] [b] pos) (tOp r ta tb):=by
 intro As s σ H Q I h;exact wpAny_Compare1 (uS ha hb I h fun v u s2 x y H2 I2 rx ry q=>ho As s2 σ H2 x y v u Q I2 rx ry q) hm
def wy(t:TE):TT:=fun σ H Q=>t σ H fun x H'=>∃k,x=.bl k∧Q k H'
theorem Zi{op:CmpOp}{r:R2}(ho:OpR X (compareOp op) r)(ha:PE X a ta)(hb:PE X b tb)(hm:behindInMarks op b=false):PT X (.Compare a [op] [b] pos) (wy (tOp r ta tb)):=by
 intro As s σ H Q I h;refine wpAny_isTrue_Compare1 (thn (ha As s σ H _ I h) fun v s1 ⟨x,H1,I1,r1,q1⟩=>thn (hb As s1 σ H1 _ I1 q1) fun u s2 ⟨y,H2,I2,r2,q2⟩=>
  thn (ho As s2 σ H2 x y v u _ I2 r1 r2 q2) fun c s3 ⟨z,H3,I3,r3,k,e,q3⟩=>?_) hm
 subst e;cases r3;exact zc ⟨H3,I3,q3⟩
theorem fZ:(sizeLine:Nat)<2^63:=by rw[sizeLine_eq];decide
theorem jy:OpR X (binaryOp .Add) (fun x y H Q=>∃i j,x=.str i∧y=.str j∧i.length+j.length≤sizeLine∧Q (.str (i++j)) H):=by
 intro As s σ H x y v u Q I rx ry h;obtain⟨i,j,rfl,rfl,hz,q⟩:=h;obtain⟨t,rfl⟩:=rx;obtain⟨t',rfl⟩:=ry;exact add_str (fun t' tk=>⟨.str (i++j),H,I.tok _,⟨_,rfl⟩,q⟩) hz
theorem Wx{x:V}{us:List Value}(r:Vals [x] us):∃u,us=[u]∧RelV x u:=by
 cases r with
 |cons r1 r2=>cases r2;exact⟨_,rfl,r1⟩
theorem m8{x y:V}{us:List Value}(r:Vals [x,y] us):∃u w',us=[u,w']∧RelV x u∧RelV y w':=by
 cases r with
 |cons r1 r2=>
  cases r2 with
  |cons r3 r4=>cases r4;exact⟨_,_,rfl,r1,r3⟩
theorem Oj:bE X (.type "int") (fun xs H Q=>(∃i,xs=[.int i]∧Q (.int i) H)∨∃k,xs=[.bl k]∧Q (.int (if k then 1 else 0)) H):=by
 intro As s σ H xs us Q I r h
 rcases h with⟨i,rfl,q⟩|⟨k,rfl,q⟩
 ·obtain⟨u,rfl,t,rfl⟩:=Wx r;exact call_int_int ⟨.int i,H,I,⟨_,rfl⟩,q⟩
 ·obtain⟨u,rfl,r1⟩:=Wx r;cases r1;exact call_int_bool ⟨.int (if k then 1 else 0),H,I.tok _,⟨_,rfl⟩,q⟩
end
structure ObjM(h:Heap)(x dx C:Addr)(mA:Str→Option Value):Prop where
 obj:h.get? x=some (W.instObj C dx)
 ns:h.Ns1 dx mA
 ne:dx≠x
theorem mC{h:Heap}{dx:Addr}{mA:Str→Option Value}(n:h.Ns1 dx mA):∃od,h.get? dx=some od∧∀name,W.lookIn name od=some (mA name):=by
 obtain⟨o,es,ep,ho,hd,hk,_,hm⟩:=n;refine⟨o,ho,fun name=>?_⟩;have e:=hm name;unfold nsFind findBy at e;rw[←Array.find?_toList]at e;unfold W.lookIn;rw[hd];dsimp only
 split
 ·rename_i y q;rw[q]at e;exact yP some e
 ·rename_i q;rw[q]at e;have a:es.toList.any (·.refKey)=false:=by
   rw[List.any_eq_false];intro y hy;obtain⟨z,t,hkey⟩:=hk y (Array.mem_toList_iff.mp hy);simp[DictEntry.refKey,hkey]
  have a':¬es.toList.any (·.refKey)=true:=by rw[a];exact xK
  rw[xz a'];exact yP some e
theorem ObjM.look{h:Heap}{x dx C:Addr}{mA:Str→Option Value}(I:ObjM h x dx C mA):∃od,W.InstAt h x (W.instObj C dx) C (some od)∧∀name,W.lookIn name od=some (mA name):=
 let ⟨od,ho,hl⟩:=mC I.ns
 ⟨od,⟨I.obj,rfl,rfl,ho⟩,hl⟩
section
variable{prog:Program}{w:World}{A:Around}{E:Value→Shared→Prop}{s:Shared}{K:W.Frag}{x dx C f:Addr}{mA:Str→Option Value}{name:Str}{v:Value}
end
theorem RelO.some_of{v:V}{o:Option Value}(r:RelO (some v) o):∃u,o=some u∧RelV v u:=by
 cases o with
 |none=>exact(show False from r).elim
 |some u=>exact⟨u,rfl,r⟩
section
variable{P:Program}{w:World}{H H':Hp}{h h':Heap}{a C dx:Addr}{fs fs':List (Str×V)}
theorem se(hok:HOk P w H h)(e:H a=some (.ins C dx fs)):∃mA,ObjM h a dx C mA∧(∀f,RelO (fs.lookup f) (mA f))∧PySem.Within mA (fs.map (·.1))∧fs.length≤1000∧H dx=some (.own a):=by
 obtain⟨d,z,ne,ob,mA,n,r,q⟩:=(show ObjOk P w H h a (.ins C dx fs)from hok a _ e);exact⟨mA,⟨ob,n,ne⟩,r,q,z,d⟩
end
structure Cls(K:W.Frag)(C:Addr):Prop where
 pg:W.plainGet K C Str.empty=true
 hd:W.hasDictIn K C=true
 po:W.plainOver K C=true
 sa:W.findIn K (.ref C) "__setattr__"=some (some (.builtin "object.__setattr__"))
theorem Cls.get{K:W.Frag}{C:Addr}(c:Cls K C)(f:Str):W.plainGet K C f=true:=c.pg
section
variable{X:Cx}{As:List (Addr×Obj)}{σ:St}{H:Hp}{s:Shared}{a C dx:Addr}{fs:List (Str×V)}{f:Str}{v:V}{A:Around}{E:Value→Shared→Prop}
end
section
variable{X:Cx}{o e value:Expr}{f:Str}{pos pos' tpos:Pos}{ta tv:TE}
end
section
variable{X:Cx}{As:List (Addr×Obj)}{σ:St}{H:Hp}{s:Shared}{A:Around}{E:Value→Shared→Prop}{Q:Value→Shared→Prop}{c:Value}{b:Bool}
inductive TyOf(K:W.Frag)(H:Hp):V→Value→Prop where
 |non:TyOf K H .non (.type "NoneType")
 |bl (x:Bool):TyOf K H (.bl x) (.type "bool")
 |int (i:Int):TyOf K H (.int i) (.type "int")
 |str (x:Str):TyOf K H (.str x) (.type "str")
 |flt (x:UInt64):TyOf K H (.flt x) (.type "float")
 |lst {a:Addr} {xs:List V} (e:H a=some (.lst xs)):TyOf K H (.ref a) (.type "list")
 |frz {a:Addr} {o:Obj} {xs:List V} (e:H a=some (.frz o (.lst xs))):TyOf K H (.ref a) (.type "list")
 |tup {a:Addr} {xs:List V} (e:H a=some (.tup xs)):TyOf K H (.ref a) (.type "tuple")
 |dK {a:Addr} {kvs:List (Key×V)} (e:H a=some (.dK kvs)):TyOf K H (.ref a) (.type "dict")
 |dT {a:Addr} {kvs:List (List Key×V)} (e:H a=some (.dT kvs)):TyOf K H (.ref a) (.type "dict")
 |ins {a C dx:Addr} {fs:List (Str×V)} (e:H a=some (.ins C dx fs)) (cl:Cls K C) (ha:W.findIn K (.ref C) "__class__"=some (some (.builtin "object.__class__")))
   (hn:W.specialIn K (.builtin "object.__class__") "__get__"=some (some (.builtin "getset_descriptor.__get__"))) (htk:W.takesIn K (.builtin "object.__class__")=some true)
   (hm:W.mroIn K C (.type "object")=some true):TyOf K H (.ref a) (.ref C)
theorem mi{x:V}{u t:Value}(I:Inv X As σ H s)(rx:RelV x u)(ty:TyOf X.K H x t)(e:W.kitOne X.K t c=some b)(h:∀tk,Q (.bool b) {s with toks:=tk}):
  wpAny (model X.prog X.w) A (call (.builtin "isinstance") [u,c]) Q E s:=by
 cases ty with
 |non=>cases (show u=Value.none from rx);exact Aa W.kitx_none I.kIn True.intro e (fun z=>nomatch z) h
 |bl y=>cases (show u=Value.bool y from rx);exact Aa W.kitx_bool I.kIn True.intro e (fun z=>nomatch z) h
 |int i=>obtain⟨t,q⟩:=(show ∃t,u=Value.int i t from rx);cases q;exact Aa W.kitx_int I.kIn True.intro e (fun z=>nomatch z) h
 |str y=>obtain⟨t,q⟩:=(show ∃t,u=Value.str y t from rx);cases q;exact Aa W.kitx_str I.kIn True.intro e (fun z=>nomatch z) h
 |flt y=>obtain⟨t,q⟩:=(show ∃t,u=Value.float y t from rx);cases q;exact Aa W.kitx_float I.kIn True.intro e (fun z=>nomatch z) h
 | @lst a xs ea=>
  cases (show u=Value.ref a from rx);obtain⟨_,_,n,_,h1⟩:=(show ObjOk X.prog X.w H s.heap a (.lst xs)from I.hok a _ ea);exact Aa W.kitx_list I.kIn ⟨_,h1,rfl⟩ e (fun z=>nomatch z) h
 | @frz a ob xs ea=>
  cases (show u=Value.ref a from rx);obtain⟨_,_,_,n,_,h1⟩:=(show ObjOk X.prog X.w H s.heap a (.frz ob (.lst xs))from I.hok a _ ea);exact Aa W.kitx_list I.kIn ⟨_,h1,rfl⟩ e (fun z=>nomatch z) h
 | @tup a xs ea=>
  cases (show u=Value.ref a from rx);obtain⟨_,_,_,p⟩:=(show ObjOk X.prog X.w H s.heap a (.tup xs)from I.hok a _ ea);obtain⟨o,h1,h2,_⟩:=p;exact Aa W.kitx_tuple I.kIn ⟨o,h1,h2.1⟩ e (fun z=>nomatch z) h
 | @dK a kvs ea=>
  cases (show u=Value.ref a from rx);obtain⟨_,_,vs,_,p⟩:=(show ObjOk X.prog X.w H s.heap a (.dK kvs)from I.hok a _ ea);obtain⟨o,es,ep,h1,h2,_⟩:=p;exact Aa W.kitx_dict I.kIn ⟨o,h1,h2.1⟩ e (fun z=>nomatch z) h
 | @dT a kvs ea=>
  cases (show u=Value.ref a from rx);obtain⟨_,_,xs,_,o,es,ep,h1,h2,_⟩:=(show ObjOk X.prog X.w H s.heap a (.dT kvs)from I.hok a _ ea);exact Aa W.kitx_dict I.kIn ⟨o,h1,h2.1⟩ e (fun z=>nomatch z) h
 | @ins a C dx fs ea cl ha hn htk hm=>
  cases (show u=Value.ref a from rx);obtain⟨mA,O,_⟩:=se I.hok ea;obtain⟨od,J,_⟩:=O.look;exact Aa (W.kitx_own (cl.get _) cl.hd ha hn htk hm) I.kIn J e (fun z=>nomatch z) h
end
structure Room(k:Nat)(A:Around):Prop where
 hd:A.handled=none
 dp:A.depth+3*k+5<recursionLimit
 un:A.units+16*k+200<cLine
theorem Room.mono{j k:Nat}{A:Around}(r:Room k A)(h:j≤k):Room j A:=⟨r.hd,by have:=r.dp;omega,by have:=r.un;omega⟩
theorem Room.deeper{k:Nat}{A:Around}(r:Room (k+1) A)(env:Env):Room k (A.deeper env):=
 ⟨r.hd,by have:=r.dp;show A.depth+1+3*k+5<_;omega,by have:=r.un;show A.units+3+16*k+200<_;omega⟩
theorem Room.depth{k:Nat}{A:Around}(r:Room k A):A.depth<recursionLimit:=by have:=r.dp;omega
theorem Room.units{k:Nat}{A:Around}(r:Room k A):A.units+64<cLine:=by have:=r.un;omega
def tNil:TA:=fun _ H Q=>Q [] H
def xx(ta:TE)(tr:TA):TA:=fun σ H Q=>ta σ H fun x H1=>tr σ H1 fun xs H2=>Q (x::xs) H2
section
variable{X:Cx}{e:Expr}{es:List Expr}{te:TE}{t:TA}{pos:Pos}
theorem Z1:PA X [] tNil:=fun _ _ _ _ H Q I h=>Calls.spliced_nil ⟨[],H,I,.nil,h⟩
theorem Z0(ha:PE X e te)(hr:PA X es t)(hs:starEach (e::es) X.env=(false,eval e X.env)::starEach es X.env:=by rfl):PA X (e::es) (xx te t):=by
 intro pos As s σ H Q I h;rw[hs];show wpAny _ _ (spliced ((false,eval e X.env)::backTo pos (starEach es X.env))) _ _ s;refine Calls.spliced_cons (thn (ha As s σ H _ I h) fun u s1 At=>?_);obtain⟨x,H1,I1,r1,q1⟩:=At;exact thn (hr pos As s1 σ H1 _ I1 q1) fun us s2 ⟨xs,H2,I2,r2,q2⟩=>⟨x::xs,H2,I2,.cons r1 r2,q2⟩
def tTup(t:TA):TE:=fun σ H Q=>t σ H fun xs H1=>xs.length≤sizeLine∧∀p,H1 p=none→Q (.ref p) (upd H1 p (.tup xs))
def tLst(t:TA):TE:=fun σ H Q=>t σ H fun xs H1=>xs.length≤sizeLine∧∀p,H1 p=none→Q (.ref p) (upd H1 p (.lst xs))
theorem Zn{x1}(h:PA X es t):PE X (.Tuple es x1 pos) (tTup t):=by
 intro As s σ H Q I hq;refine wpAny_Tuple_spliced (thn (h pos As s σ H _ I hq) fun us s1 ⟨xs,H1,I1,r,z,q⟩=>⟨by rw[←r.length];exact z,?_⟩);have hf:H1 s1.heap.objs.size=none:=I1.hok.fresh (xA _);refine⟨.ref s1.heap.objs.size,upd H1 s1.heap.objs.size (.tup xs),I1.laid (t':=s1.toks) (fun b u e=>io _ e) (xA _) ?_,rfl,q _ hf⟩;exact⟨z,us,r,TupN.new _ _⟩
theorem Yk(h:PA X es t):PE X (.List es pos) (tLst t):=by
 intro As s σ H Q I hq;refine wpAny_List_spliced (thn (h pos As s σ H _ I hq) fun us s1 ⟨xs,H1,I1,r,z,q⟩=>⟨by rw[←r.length];exact z,?_⟩);have hf:H1 s1.heap.objs.size=none:=I1.hok.fresh (xA _);refine⟨.ref s1.heap.objs.size,upd H1 s1.heap.objs.size (.lst xs),I1.laid (t':=s1.toks) (fun b u e=>io _ e) (xA _) ?_,rfl,q _ hf⟩;exact⟨z,us,0,r,xO _ rfl⟩
end
abbrev Sp:=List V→Hp→VK→XK→Prop
abbrev CXT:=List Env→Hp→Shared→XK→Value→Shared→Prop
structure Env0(P:Program)(w:World)(K:W.Frag)(mg:Str→Option Value)(base:Heap)(A:Around)(outer:List Env)(s:Shared)(H:Hp):Prop where
 frames:A.frames=some outer
 mod:Mod K mg base
 bs:∀b o,base.get? b=some o→s.heap.get? b=some o∧H b=none
 bsz:base.objs.size≤s.heap.objs.size
 funs:s.heap.FunFrames base outer
 frf:∀b∈frs outer,H b=none
 hok:HOk P w H s.heap
 bare:AllBare s.gens
def CE(outer:List Env)(P:Program)(w:World)(H:Hp)(s:Shared)(Q:VK)(u:Value)(s':Shared):Prop:=
 ∃v H',s'.os=s.os∧AllBare s'.gens∧Un (frs outer) [] H H' s.heap s'.heap∧HOk P w H' s'.heap∧RelV v u∧Q v H'
def CR(CX:CXT)(outer:List Env)(P:Program)(w:World)(H:Hp)(s:Shared)(Q:VK)(E:XK)(r:Result)(s':Shared):Prop:=
 match r with
 |.ok (.ret u)=>CE outer P w H s Q u s'
 |.ok _=>False
 |.error e=>CX outer H s E e s'
structure FnOk(P:Program)(w:World)(K:W.Frag)(mg:Str→Option Value)(base:Heap)(CX:CXT)(k:Nat)(f:Addr)(fd:FuncData)(ps:List Str)(sp:Sp):Prop where
 len:∀vs H Q E,sp vs H Q E→vs.length=ps.length
 run:∀(A:Around)(outer:List Env)(s:Shared)(H:Hp)(args:Args)(us:List Value)(vs:List V)(Q:VK)(E:XK),Room k A→Env0 P w K mg base A outer s H→BindsTo s fd args (ps.zip us)→Vals vs us→sp vs H Q E→
  codeAny (model P w) A (.call (.ref f) args) (CR CX outer P w H s Q E) s
theorem FnOk.mono{P:Program}{w:World}{K:W.Frag}{mg:Str→Option Value}{base:Heap}{CX:CXT}{j k:Nat}{f:Addr}{fd:FuncData}{ps:List Str}{sp:Sp}(F:FnOk P w K mg base CX j f fd ps sp)(h:j≤k):
  FnOk P w K mg base CX k f fd ps sp:=⟨F.len,fun A outer s H args us vs Q E hr=>F.run A outer s H args us vs Q E (hr.mono h)⟩
section
variable{X:Cx}{As:List (Addr×Obj)}{σ:St}{H:Hp}{s s':Shared}
theorem Inv.env0(I:Inv X As σ H s):Env0 X.prog X.w X.K X.mg X.base X.A X.stack s H:=
 ⟨I.ok.frames,I.ok.mod,I.bs,yi I.ok.bsz I.sz,I.stack,I.stkFree,I.hok,I.bare⟩
theorem Inv.after{Q:VK}{u:Value}(I:Inv X As σ H s)(h:CE X.stack X.prog X.w H s Q u s'):EP X As σ Q u s':=by
 obtain⟨v,H',os,bare,un,hok,r,q⟩:=h;obtain⟨hh,g,d,t,os'⟩:=s';obtain rfl:os'=s.os:=os;exact⟨v,H',I.call (h':=hh) (g':=g) (d':=d) (t':=t) (ch:=[]) un hok bare (fun b z=>absurd z (by simp)),r,q⟩
end
def sJ(sp:Sp)(dvs:List V)(E:XK)(t:TA):TE:=fun σ H Q=>t σ H fun vs H1=>sp (vs++dvs) H1 Q E
def Binds(K:W.Frag)(fd:FuncData)(ps:List Str)(ds:List Value):Prop:=
 ∀(s:Shared)(us:List Value),K.In s.heap→(us++ds).length=ps.length→BindsTo s fd ⟨us,[]⟩ (ps.zip (us++ds))
theorem Binds.all{K:W.Frag}{fd:FuncData}{ps:List Str}(h:∀us:List Value,us.length=ps.length→bindArgs fd ⟨us,[]⟩=pure (ps.zip us)):Binds K fd ps []:=fun s us _ hl=>by
 rw[yB]at hl⊢;exact .of_eq (h us hl)
def jo(CX:CXT)(X:Cx)(E:XK):Prop:=∀(As:List (Addr×Obj))(σ:St)(H:Hp)(s:Shared)(e:Value)(s':Shared),Inv X As σ H s→CX X.stack H s E e s'→X.xe e s'
section
variable{X:Cx}{CX:CXT}{k:Nat}{f C:Addr}{fd:FuncData}{ps:List Str}{sp:Sp}{dvs:List V}{ds:List Value}{E:XK}{x m:Str}{p pos apos:Pos}{e o:Expr}{es:List Expr}{ta:TE}{t:TA}
theorem nO{As:List (Addr×Obj)}{σ:St}{H:Hp}{s:Shared}{Q:VK}{us:List Value}{vs:List V}(F:FnOk X.prog X.w X.K X.mg X.base CX k f fd ps sp)(hr:Room k X.A)(hb:Binds X.K fd ps ds)(hd:Vals dvs ds)(hx:jo CX X E)(I:Inv X As σ H s)(r:Vals vs us)(h:sp (vs++dvs) H Q E):wpAny (model X.prog X.w) X.A (call (.ref f) us) (EP X As σ Q) X.xe s:=by
 have r2:Vals (vs++dvs) (us++ds):=r.append hd;have hl:(us++ds).length=ps.length:=by rw[←r2.length];exact F.len _ _ _ _ h
 refine wpAny_call (Aj (F.run X.A X.stack s H ⟨us,[]⟩ (us++ds) (vs++dvs) Q E hr I.env0 (hb s us I.kIn hl) r2 h) fun r s' hq=>?_);cases r with
 |error e=>exact hx As σ H s e s' I hq
 |ok fl=>
  cases fl with
  |ret u=>exact I.after hq
  |next=>exact False.elim hq
  |brk=>exact False.elim hq
  |cont=>exact False.elim hq
theorem rV(F:FnOk X.prog X.w X.K X.mg X.base CX k f fd ps sp)(hr:Room k X.A)(hg:Gl X x)(hm:X.mg x=some (.ref f))(hk:W.keepIn X.K (.ref f)=true)(hb:Binds X.K fd ps ds)(hd:Vals dvs ds)(hx:jo CX X E)(ha:PA X (e::es) t)(hdb:(x==("__debug__":Str))=false:=by decide)(he:starEach (e::es) X.env=(false,eval e X.env)::starEach es X.env:=by rfl)(hpl:(backTo pos (starEach es X.env)).any (·.1)=false:=by rfl):
  PE X (.Call (.Name x p) (e::es) [] pos) (sJ sp dvs E t):=by
 intro As s σ H Q I h;refine zZ (fh I hg hm ?_ hdb);refine W.callWith_K (h₀:=X.base) I.ok.mod.kin hk (thn (ha pos As s σ H _ I h) fun us s1 ⟨vs,H1,I1,r,q⟩=>⟨I1.kIn,?_⟩) he hpl;exact nO F hr hb hd hx I1 r q
end
section
variable{X:Cx}{CX:CXT}{k:Nat}{f C:Addr}{fd:FuncData}{ps ks:List Str}{sp:Sp}{E:XK}{x m:Str}{p pos apos kpos:Pos}{e o:Expr}{es:List Expr}{kws:List Keyword}{te ta:TE}{t tk:TA}{nm:Option Str}
variable{g:List Value→List Value→List Value}{gV:List V→List V→List V}
end
structure FnScope(N P:List Str)(sc:Scope):Prop where
 kind:sc.kind=.function
 co:sc.isCoroutine=false
 gen:sc.isGenerator=false
 nd:N.Nodup
 pre:N.take P.length=P
 par:∀x∈P,sc.names.lookup x=some .local∨sc.names.lookup x=some .cell
 nofree:∀y∈sc.names,y.2≠.free
theorem Ol{kindOf:Str→Option NameKind}{x:Str}:∀{binds:List (Str×Value)}{m:Str→Option Value},(∀v,(x,v)∉binds)→bindL kindOf binds m x=m x
 | [],_,_=>rfl
 | (n,v)::r,m,h=>by
  unfold bindL;rw[Ol fun w hw=>h w (yq _ hw)]
  split
  ·have:x≠n:=by rintro rfl;exact h v yj
   simp[this]
  ·rfl
theorem On{kindOf:Str→Option NameKind}{x:Str}:∀{binds:List (Str×Value)}{m:Str→Option Value},(∀v,(x,v)∉binds)→bindC kindOf binds m x=m x
 | [],_,_=>rfl
 | (n,v)::r,m,h=>by
  unfold bindC;rw[On fun w hw=>h w (yq _ hw)]
  split
  ·rfl
  ·have:x≠n:=by rintro rfl;exact h v yj
   simp[this]
theorem Om{kindOf:Str→Option NameKind}{x:Str}{v:Value}:∀{P:List Str}{vs:List Value}{i:Nat}{m:Str→Option Value},P.Nodup→P[i]?=some x→vs[i]?=some v→kindOf x=some .local→
  bindL kindOf (P.zip vs) m x=some v
 | [],_,_,_,_,h,_,_=>by simp at h
 |_::_,[],_,_,_,_,h,_=>by simp at h
 |p::P,w::vs,0,m,nd,h1,h2,hk=>by
  simp at h1 h2;subst h1;subst h2;show bindL kindOf ((p,w)::P.zip vs) m p=_;unfold bindL;rw[Ol fun v hv=>(x3.mp nd).1 (List.of_mem_zip hv).1,xC hk];simp
 |p::P,w::vs,i+1,m,nd,h1,h2,hk=>by
  show bindL kindOf ((p,w)::P.zip vs) m x=_;unfold bindL;exact Om (i:=i) (List.nodup_cons.mp nd).2 (by simpa using h1) (by simpa using h2) hk
theorem Oo{kindOf:Str→Option NameKind}{x:Str}{v:Value}:∀{P:List Str}{vs:List Value}{i:Nat}{m:Str→Option Value},P.Nodup→P[i]?=some x→vs[i]?=some v→kindOf x≠some .local→
  bindC kindOf (P.zip vs) m x=some v
 | [],_,_,_,_,h,_,_=>by simp at h
 |_::_,[],_,_,_,_,h,_=>by simp at h
 |p::P,w::vs,0,m,nd,h1,h2,hk=>by
  simp at h1 h2;subst h1;subst h2;show bindC kindOf ((p,w)::P.zip vs) m p=_;unfold bindC;rw[On fun v hv=>(x3.mp nd).1 (List.of_mem_zip hv).1,xz hk];simp
 |p::P,w::vs,i+1,m,nd,h1,h2,hk=>by
  show bindC kindOf ((p,w)::P.zip vs) m x=_;unfold bindC;exact Oo (i:=i) (List.nodup_cons.mp nd).2 (by simpa using h1) (by simpa using h2) hk
def cJ(N:List Str)(vs:List V):St:=vs.map some++List.replicate (N.length-vs.length) none
def lO(CX:CXT)(P:Program)(w:World)(K:W.Frag)(mg:Str→Option Value)(base:Heap)(N:List Str)(qual:Str)(scope:Scope)(f:Addr)(cd:Value)(A:Around)(outer:List Env)(s:Shared)(H:Hp)(E:XK):Cx where
 prog:=P
 w:=w
 K:=K
 mg:=mg
 base:=base
 A:=A.deeper (envOfC qual scope s.heap.objs.size f cd)
 N:=N
 s₀:=s
 H₀:=H
 env:=envOfC qual scope s.heap.objs.size f cd
 outer:=outer
 stack:=envOfC qual scope s.heap.objs.size f cd::outer
 ex:=[]
 calm:=true
 fn:=fun _=>true
 pn:=[]
 xe:=fun e s'=>wpAny (model P w) (A.deeper (envOfC qual scope s.heap.objs.size f cd)) (leaving (envOfC qual scope s.heap.objs.size f cd) e) (fun _ s''=>CX outer H s E e s'') (fun e' s''=>CX outer H s E e' s'') s'
theorem So{sc:Scope}{n:Nat}{x:Str}(h:sc.names.lookup x=some .cell):∃c,(cellsFrom n sc.names []).lookup x=some c:=by
 have q:=W.cellsFrom_some sc.names n [] (.inl h);exact Option.isSome_iff_exists.mp q
theorem lY{CX:CXT}{P:Program}{w:World}{K:W.Frag}{mg:Str→Option Value}{base:Heap}{N ps:List Str}{qual:Str}{scope:Scope}{f:Addr}{cd:Value}{A:Around}{outer:List Env}{s s1:Shared}{H:Hp}{E:XK}{us:List Value}{vs:List V}(S:FnScope N ps scope)(hd:A.handled=none)(e0:Env0 P w K mg base A outer s H)(hl:vs.length=ps.length)(r:Vals vs us)(x:InCallC s s.heap.objs.size (bindL (envOfC qual scope s.heap.objs.size f cd).kindOf (ps.zip us) fun _=>none) (cellsFrom (s.heap.objs.size+1) scope.names []) (bindC (envOfC qual scope s.heap.objs.size f cd).kindOf (ps.zip us) fun _=>none) s1):
  Inv (lO CX P w K mg base N qual scope f cd A outer s H E) [] (cJ N vs) H s1:=by
 have hpl:ps.length≤N.length:=by have:=yP List.length S.pre;rw[xW]at this;omega
 obtain⟨h1,tk,rfl,hk⟩:=x.done;have noA:∀b:Addr,b∉(lO CX P w K mg base N qual scope f cd A outer s H E).ex:=fun b z=>absurd (show b∈([]:List Addr)from z) (by simp);refine⟨⟨e0.mod,S.kind,rfl,rfl,xA _,fun y z c h1 h2=>?_,fun y hy=>?_,fun y c _ h=>?_,fun _=>hd,Around.frames_deeper e0.frames,.inr ⟨rfl,rfl⟩,fun b z=>absurd z (noA b),e0.bs,e0.bsz,fun b _ _=>noA b,fun b z=>absurd z (noA b),e0.funs,e0.frf⟩,
  rfl,e0.bare,Un.kept hk,⟨_,x.toInCall.ns,fun i y v h1 h2 h3=>?_⟩,fun y c h=>⟨_,x.cell y c h⟩,e0.hok.fresh (Nat.le_refl _),fun y c h=>?_,fun p hp=>absurd (show p∈([]:List (Addr×Obj))from hp) (by simp),e0.hok.kept hk,?_⟩
 ·exact name_of_addr x.apart (x4 h1) (x4 h2)
 ·have hy:scope.names.lookup y=some .cell∨scope.names.lookup y=some .free:=hy
  rcases hy with hy | hy
  ·exact So hy
  ·exact absurd rfl (S.nofree _ (x4 hy))
 ·exact zw (x.above y c (x4 h))
 ·have hi:i<vs.length:=by
   unfold cJ at h2;by_cases hi:i<vs.length
   ·exact hi
   ·rw[List.getElem?_append_right (by simpa using hi)]at h2;rw[List.getElem?_replicate]at h2
    split at h2 <;> cases h2
  have ha:vs[i]?=some v:=by
   unfold cJ at h2;rw[List.getElem?_append_left (by simpa using hi),List.getElem?_map]at h2;cases e:vs[i]? with
   |none=>rw[e]at h2;cases h2
   |some a=>rw[e]at h2;cases h2;rfl
  obtain⟨u,hu,rv⟩:=r.get ha;have hp:ps[i]?=some y:=by
   rw[←S.pre,List.getElem?_take_of_lt (by omega)];exact h1
  have ndP:ps.Nodup:=by rw[←S.pre];exact S.nd.sublist (List.take_sublist _ _)
  refine⟨u,rv,?_⟩
  rcases S.par y (xT hp)with k | k
  ·exact .inl ⟨k,Om ndP hp hu k⟩
  ·obtain⟨c,e⟩:=So (n:=s.heap.objs.size+1) k;refine .inr ⟨.inl k,c,e,?_⟩;have q:=x.cell y c e;rw[Oo ndP hp hu (by show scope.names.lookup y≠_;rw[k];decide)]at q;exact q
 ·exact e0.hok.fresh (zw (x.above y c (x4 h)))
 ·unfold cJ;show _=N.length;rw[xE,az,List.length_replicate];omega
theorem pB{CX:CXT}{P:Program}{w:World}{K:W.Frag}{mg:Str→Option Value}{base:Heap}{k:Nat}{f:Addr}{name qual:Str}{params:Arguments}{body:List Stmt}{scope:Scope}{dV kV doc pm cdv ct oc:Value}{an od:Option Addr}{osl:Array (Option Value)}{N ps:List Str}{sp:Sp}(lk:K.lookup f=some ⟨oc,od,.func (W.fnOf name qual params body scope dV kV doc pm an cdv ct),osl⟩)(hcd:W.codeIn K cdv qual=true)(S:FnScope N ps scope)(len:∀vs H Q E,sp vs H Q E→vs.length=ps.length)(hbody:∀(A:Around) (outer:List Env) (s:Shared) (H:Hp) (vs:List V) (Q:VK) (E:XK),Room k (A.deeper (envOfC qual scope s.heap.objs.size f cdv))→sp vs H Q E→
   ∃t,PSs (lO CX P w K mg base N qual scope f cdv A outer s H E) body t∧t {nx:=fun _ H'=>Q .non H',rt:=Q} (cJ N vs) H):
  FnOk P w K mg base CX (k+1) f (W.fnOf name qual params body scope dV kV doc pm an cdv ct) ps sp:=by
 refine⟨len,fun A outer s H args us vs Q E hr e0 hb r hsp=>?_⟩;have hl:=len _ _ _ _ hsp;have KX:K.In s.heap:=e0.mod.kin.keeps fun b o e=>(e0.bs b o e).1;have lim:s.heap.NoLimit:=e0.mod.nolimit.keeps fun b o e=>(e0.bs b o e).1;have hkind:∀y∈ps.zip us,scope.names.lookup y.1=some .local∨(scope.names.lookup y.1=some .cell∧((cellsFrom (s.heap.objs.size+1) scope.names []).lookup y.1).isSome=true):=fun⟨n,v⟩ hy=>by
  rcases S.par n (List.of_mem_zip hy).1 with q | q
  ·exact .inl q
  ·exact .inr ⟨q,W.cellsFrom_some _ _ _ (.inl q)⟩
 refine codeAny_call_function hr.depth (KX _ _ lk) rfl S.co S.gen rfl (W.codeRec_of KX hcd) (hb _ _ _ _ ?_);refine wpAny_newFunctionEnv_cells S.kind hkind fun env he s1 x=>?_;subst he;refine⟨lim.keeps x.toInCall.keep,codeAny_func ?_⟩;obtain⟨t,ht,hq⟩:=hbody A outer s H vs Q E (hr.deeper _) hsp;have I:Inv (lO CX P w K mg base N qual scope f cdv A outer s H E) [] (cJ N vs) H s1:=lY S hr.hd e0 hl r x;refine yN (ht [] s1 (cJ N vs) H _ I hq) (fun fl s' hs=>?_) fun e s' hs=>hs;have fin:∀{σ':St}{H':Hp}{v:V}{u:Value},Inv (lO CX P w K mg base N qual scope f cdv A outer s H E) [] σ' H' s'→RelV v u→Q v H'→CE outer P w H s Q u s':=
  fun{σ' H' v u} J rv q=>⟨v,H',J.os,J.bare,J.base,J.hok,rv,q⟩
 cases fl with
 |ret u=>
  obtain⟨v,σ',H',J,rv,q⟩:=hs;exact fin J rv q
 |next=>
  obtain⟨σ',H',J,q⟩:=hs;exact fin (v:=V.non) (u:=Value.none) J rfl q
 |brk=>
  obtain⟨_,_,_,q⟩:=hs;exact False.elim q
 |cont=>
  obtain⟨_,_,_,q⟩:=hs;exact False.elim q
section
variable{X:Cx}{x:Str}{p pos:Pos}{e:Expr}{es:List Expr}{t:TA}{id T:String}{r:List V→Hp→VK→Prop}
def tCB(r:List V→Hp→VK→Prop)(t:TA):TE:=fun σ H Q=>t σ H fun vs H1=>r vs H1 Q
theorem Y1(hc:bE X (.builtin id) r)(hg:Gl X x)(hm:X.mg x=none)(hv:bootBuiltins x=some (.builtin id))(ha:PA X (e::es) t)(hn:x≠"__name__":=by decide)(hdb:(x==("__debug__":Str))=false:=by decide)(he:starEach (e::es) X.env=(false,eval e X.env)::starEach es X.env:=by rfl)(hpl:(backTo pos (starEach es X.env)).any (·.1)=false:=by rfl):PE X (.Call (.Name x p) (e::es) [] pos) (tCB r t):=by
 intro As s σ H Q I h;refine zZ (P1 I hg hm hv ?_ hn hdb);exact PyProof.Rows.callWith_builtin1 (thn (ha pos As s σ H _ I h) fun us s1 ⟨vs,H1,I1,r1,q1⟩=>hc As s1 σ H1 vs us Q I1 r1 q1) he hpl
theorem Y9(hc:bE X (.type T) r)(hg:Gl X x)(hm:X.mg x=none)(hv:bootBuiltins x=some (.type T))(ha:PA X (e::es) t)(hn:x≠"__name__":=by decide)(hdb:(x==("__debug__":Str))=false:=by decide)(he:starEach (e::es) X.env=(false,eval e X.env)::starEach es X.env:=by rfl)(hpl:(backTo pos (starEach es X.env)).any (·.1)=false:=by rfl):PE X (.Call (.Name x p) (e::es) [] pos) (tCB r t):=by
 intro As s σ H Q I h;refine zZ (P1 I hg hm hv ?_ hn hdb);exact PyProof.Rows.callWith_type1 (thn (ha pos As s σ H _ I h) fun us s1 ⟨vs,H1,I1,r1,q1⟩=>hc As s1 σ H1 vs us Q I1 r1 q1) he hpl
end
end L2
namespace HT
open PySem PyProof.Rows
def lexLt:List Int→List Int→Bool
 | [],[]=>false
 | [],_::_=>true
 |_::_,[]=>false
 |x::xs,y::ys=>if x=y then lexLt xs ys else decide (x<y)
theorem lexLt_cons(x y:Int)(xs ys:List Int):lexLt (x::xs) (y::ys)=if x=y then lexLt xs ys else decide (x<y):=rfl
theorem lexLt_nil_nil:lexLt [] []=false:=rfl
theorem Qz(y:Int)(ys:List Int):lexLt [] (y::ys)=true:=rfl
theorem P0(x:Int)(xs:List Int):lexLt (x::xs) []=false:=rfl
theorem n_(A:Around)(s:Shared)(a:Int)(t:Tok)(c:Int)(u:Tok):∃e,SeqAt.EqAt A s (.int a t) (.int c u) e∧(e=true↔a=c):=
 ⟨(a==c),SeqAt.EqAt.int_int a t c u,by simp⟩
theorem pe(A:Around)(s:Shared)(a:Int)(t:Tok)(c:Int)(u:Tok)(prog:Program)(w:World)(E:Value→Shared→Prop)(Q:Value→Shared→Prop)(h:Q (.bool (decide (a<c))) s):
  wpAny (model prog w) A (richCompare .Lt (.int a t) (.int c u)) Q E s:=
 (PyProof.Rows.lt_int h:wpAny (model prog w) A (compareOp .Lt (.int a t) (.int c u)) Q E s)
section
open PySem.SeqAt
open PySem.AutoSeq1 (wpAny_loadPart')
open PySem.MeetsSeq PySem.MeetsSeq2 PySem.MeetsSeq3
theorem Pj(l b:Addr)(items items2:Array Value)(n n2:Nat)(dd dd2:Option Addr)(sl sl2:Array (Option Value))(ns ms:List Int)(hi:IntsAre items.toList ns)(hj:IntsAre items2.toList ms):
  Meets (Builtin.«tuple.__lt__» ⟨[.ref l,.ref b],[]⟩)
   (fun _ R s=>s.heap.get? l=some {cls:=.type "tuple",dict:=dd,data:=.seq items n,slots:=sl}∧s.heap.get? b=some {cls:=.type "tuple",dict:=dd2,data:=.seq items2 n2,slots:=sl2}∧
    R (.ok (.ret (.bool (lexLt ns ms)))) s):=
 .of_wp fun prog w A R s h=>by
  obtain⟨hp,g,d,tk,os⟩:=s;obtain⟨hl,hb,h⟩:=h;have f2:=AutoSeq1.sub_tuple_tuple;have z1:items.size=ns.length:=by rw[←hi.length];simp
  have z2:items2.size=ms.length:=by rw[←hj.length];simp
  wp_walk using wpAny_loadPart' hl,wpAny_loadPart' hb,wpAny_forIn_list _ (fun rest b s'=>b.1=none∧s'=⟨hp,g,d,tk,os⟩∧∃(vs ws:List Value)(ns' ms':List Int),rest=vs.zip ws∧
   IntsAre vs ns'∧IntsAre ws ms'∧ns'.length+items2.size=ms'.length+items.size∧R (.ok (.ret (.bool (lexLt ns' ms')))) ⟨hp,g,d,tk,os⟩) _
  case turn=>
   rintro⟨y,x⟩ rest b s' ⟨hb',rfl,vs,ws,ns',ms',hz,hvi,hwi,AG,hR⟩;cases hvi with
   |nil=>rw[List.zip_nil_left]at hz;cases hz
   |cons a t hvi'=>
    cases hwi with
    |nil=>rw[List.zip_nil_right]at hz;cases hz
    |cons c u hwi'=>
     rw[List.zip_cons_cons]at hz;injection hz with hyx hrest
     injection hyx with hy hx
     subst hy hx;rw[lexLt_cons]at hR;simp only[List.length_cons]at AG;obtain⟨e,he,hiff⟩:=n_ A.in1 ⟨hp,g,d,tk,os⟩ a t c u;refine ae (he prog w _ _ ?_);cases e with
     |true=>
      rw[xC (hiff.mp rfl)]at hR
      wp_walk
      exact⟨rfl,rfl,_,_,_,_,hrest,hvi',hwi',by omega,hR⟩
     |false=>
      rw[xz (fun q=>absurd (hiff.mpr q) xK)]at hR;have hri:=pe A.in1 ⟨hp,g,d,tk,os⟩ a t c u prog w
      wp_walk using hri
      exact⟨_,rfl,by simpa using hR⟩
  case fin=>
   rintro⟨b1,b2⟩ s' ⟨hb',rfl,vs,ws,ns',ms',hz,hvi,hwi,AG,hR⟩;simp only at hb';subst hb';have hv:lexLt ns' ms'=decide (items.size<items2.size):=by
    cases hvi with
    |nil=>
     cases hwi with
     |nil=>
      simp only[List.length_nil]at AG;rw[lexLt_nil_nil];exact(yh (by omega)).symm
     |cons c u hw=>
      simp only[List.length_nil,List.length_cons]at AG;rw[Qz];exact(xJ (by omega)).symm
    |cons a t hv=>
     cases hwi with
     |nil=>
      simp only[List.length_nil,List.length_cons]at AG;rw[P0];exact(yh (by omega)).symm
     |cons c u hw=>
      rw[List.zip_cons_cons]at hz;cases hz
   rw[hv]at hR
   wp_walk
   exact⟨_,rfl,by simpa [Builtin.Tuple.tupleCompareSizes] using hR⟩
  case h=>
   exact⟨rfl,rfl,items.toList,items2.toList,ns,ms,rfl,hi,hj,by omega,h⟩
end
section
variable{prog:Program}{w:World}{A:Around}{E:Value→Shared→Prop}{s:Shared}
theorem lt_tupInts{l b:Addr}{items items2:Array Value}{ns ms:List Int}{Q:Value→Shared→Prop}(hl:IsTup s.heap l items)(hb:IsTup s.heap b items2)(hi:IntsAre items.toList ns)(hj:IntsAre items2.toList ms)(hu:A.units<cLine)(h:Q (.bool (lexLt ns ms)) s):wpAny (model prog w) A (compareOp .Lt (.ref l) (.ref b)) Q E s:=by
 obtain⟨⟨cls,dd,data,sl⟩,ho,hc,n,hd⟩:=id hl;obtain⟨⟨cls2,dd2,data2,sl2⟩,ho2,hc2,n2,hd2⟩:=id hb;simp only at hc hd hc2 hd2;subst hc hd hc2 hd2;exact richCompare_meets_room (op:=.Lt) ⟨_,ho,rfl⟩ ⟨_,ho2,rfl⟩ PySem.F.slot_tuple_lt PySem.F.entry_tuple_lt (PySem.F.args_tuple_lt_2 _ _) (Pj l b items items2 n n2 dd dd2 sl sl2 ns ms hi hj)
  ⟨ho,ho2,show Value.bool (lexLt ns ms)≠Value.notImplemented∧Q (.bool (lexLt ns ms)) s from⟨(fun x=>nomatch x),h⟩⟩ hu
def sIx(n d:Nat):Option Int→Nat
 |none=>d
 |some v=>if v<0 then(v+(n:Int)).toNat else min v.toNat n
theorem vj(n d:Nat)(hd:d≤n)(o:Option Int):sIx n d o≤n:=by
 cases o with
 |none=>exact hd
 |some v=>
  show(if v<0 then(v+(n:Int)).toNat else min v.toNat n)≤n;by_cases hv:v<0
  ·rw[xC hv];omega
  ·rw[xz hv];exact Nat.min_le_right _ _
theorem kC(v:Int)(n d:Nat):(if v<0 then max (v+(n:Int)) 0 else min v (n:Int))=((sIx n d (some v):Nat):Int):=by
 show(if v<0 then max (v+(n:Int)) 0 else min v (n:Int))=(((if v<0 then(v+(n:Int)).toNat else min v.toNat n):Nat):Int);by_cases hv:v<0
 ·simp only[if_pos hv];omega
 ·simp only[if_neg hv];omega
theorem iY(lo hi:Option Int)(n:Nat):Builtin.Slice.sliceAdjust lo hi 1 (n:Int)=(((sIx n 0 lo:Nat):Int),((sIx n n hi:Nat):Int)):=by
 have h1:¬((1:Int)<0):=by omega
 unfold Builtin.Slice.sliceAdjust;simp only[h1,if_false];refine yM ?_ ?_
 ·cases lo with
  |none=>rfl
  |some v=>exact kC v n 0
 ·cases hi with
  |none=>rfl
  |some v=>exact kC v n n
theorem iN(i j:Nat):Builtin.Slice.slicePlaces (i:Int) (j:Int) 1=j-i:=by
 unfold Builtin.Slice.slicePlaces;have h1:(1:Int) > 0:=by omega
 simp only[h1,if_true,Int.ediv_one]
 split <;> omega
theorem Qg{v:Value}{o:Option Int}{Q:Option Int→Shared→Prop}(p:IsPart v o)(h:Q o s):wpAny (model prog w) A (Builtin.Slice.slicePartIndex v) Q E s:=by
 cases p with
 |none=>exact slicePart_none h
 |int i t=>exact slicePart_int h
theorem Vj{sl:Addr}{vl vu:Value}{lo hi:Option Int}{n:Nat}{Q:Int×Int×Nat→Shared→Prop}(hs:s.heap.IsSliceOf sl vl vu .none)(pl:IsPart vl lo)(pu:IsPart vu hi)(h:Q (((sIx n 0 lo:Nat):Int),1,sIx n n hi-sIx n 0 lo) s):wpAny (model prog w) A (Builtin.Slice.sliceApplied (.ref sl) (pure (n:Int))) Q E s:=by
 obtain⟨os,hos,hcs,hds⟩:=id hs;unfold Builtin.Slice.sliceApplied Builtin.Slice.sliceFields;refine ae (ae (zL hos hds (x:=vl) rfl (ae (zL hos hds (x:=vu) rfl (ae (zL hos hds (x:=.none) rfl (pi ?_)))))));refine ae (slicePart_none ?_);show wpAny _ _ (if ((1:Int)==0)=true then _ else _) _ _ s;rw[xz (by decide)];refine ae (Qg pl (ae (Qg pu (ae (pi ?_)))));show wpAny _ _ (match Builtin.Slice.sliceAdjust lo hi 1 (n:Int)with | (lo,hi)=>pure (lo,(1:Int),Builtin.Slice.slicePlaces lo hi 1)) _ _ s;rw[iY lo hi n];show wpAny _ _ (pure (((sIx n 0 lo:Nat):Int),(1:Int),Builtin.Slice.slicePlaces ((sIx n 0 lo:Nat):Int) ((sIx n n hi:Nat):Int) 1)) _ _ s;rw[iN];exact pi h
theorem pY(xs:Array Value)(i k:Nat):((List.range k).filterMap fun(m:Nat)=>xs[((i:Int)+(m:Int)*1).toNat]?).toArray=((xs.toList.drop i).take k).toArray:=by
 have e:(fun(m:Nat)=>xs[((i:Int)+(m:Int)*1).toNat]?)=fun m=>xs[i+m]?:=by
  funext m
  have:((i:Int)+(m:Int)*1).toNat=i+m:=by omega
  rw[this]
 rw[e];have:=pick_run xs i k;rw[List.filterMap_map]at this;have e2:((fun x=>xs[x]?)∘fun x=>i+x)=fun m=>xs[i+m]?:=rfl;rw[e2]at this;rw[this]
theorem getItem_tuple_cut{t sl:Addr}{items:Array Value}{vl vu:Value}{lo hi:Option Int}{Q:Value→Shared→Prop}(ht:IsTup s.heap t items)(hs:s.heap.IsSliceOf sl vl vu .none)(pl:IsPart vl lo)(pu:IsPart vu hi)(hw:¬(sIx items.size 0 lo=0∧sIx items.size items.size hi=items.size))(h:Q (.ref s.heap.objs.size) {s with heap:=s.heap.push {cls:=.type "tuple",data:=.seq ((items.toList.drop (sIx items.size 0 lo)).take (sIx items.size items.size hi-sIx items.size 0 lo)).toArray}})(hsz:items.size≤sizeLine):wpAny (model prog w) A (getItem (.ref t) (.ref sl)) Q E s:=by
 have htake:sizeOk (.seq ((items.toList.drop (sIx items.size 0 lo)).take (sIx items.size items.size hi-sIx items.size 0 lo)).toArray):=by
  show((items.toList.drop (sIx items.size 0 lo)).take (sIx items.size items.size hi-sIx items.size 0 lo)).toArray.size≤sizeLine;rw[xU,xW,List.length_drop,yA];omega
 have hj:sIx items.size items.size hi≤items.size:=vj _ _ (xA _) hi;obtain⟨os,hos,hcs,hds⟩:=id hs;have hTs:s.TypeIs (.ref sl) "slice":=⟨os,hos,hcs⟩;unfold getItem
 try with_reducible refine yp ?_
 first | refine ae (pi ?_) | skip
 refine ae (wpAny_sequenceKey ht.typeIs (by decide) ?_);refine ae (wpAny_callSpecial?_slot (name:=Str.ofString "__getitem__") ht.typeIs zn
  (yV zn ht.typeIs entry_tuple_getitem ?_ (args_tuple_getitem _ _)))
 show wpAny _ _ (Builtin.Tuple.tupleItemsOf (.ref t) >>= _) _ _ s;refine ae (tupleItemsOf_ ht ?_);refine ae (zy hTs ?_);rw[xC (by decide)];refine ae (Vj hs pl pu ?_);have hno:¬((((sIx items.size 0 lo:Nat):Int)==0 && (1:Int)==1 && (sIx items.size items.size hi-sIx items.size 0 lo)==items.size)=true):=by
  intro q;rw[ye,ye]at q;have q1:((sIx items.size 0 lo:Nat):Int)=0:=eq_of_beq q.1.1;have q2:sIx items.size items.size hi-sIx items.size 0 lo=items.size:=eq_of_beq q.2;exact hw ⟨by omega,by omega⟩
 show wpAny _ _ (if (((sIx items.size 0 lo:Nat):Int)==0 && (1:Int)==1 && (sIx items.size items.size hi-sIx items.size 0 lo)==items.size)=true then _ else _) _ _ s;rw[xz hno,pY]
 first
  |exact ae (m:=Builtin.Tuple.tupleExact _) (yS (pi ⟨_,rfl,pi h⟩) htake)
  |exact ae (m:=Builtin.Tuple.tupleExact _) (yS (ae (pi (pi ⟨_,rfl,pi h⟩))) htake)
  |exact ae (ae (m:=Builtin.Tuple.tupleExact _) (yS (pi (pi ⟨_,rfl,pi h⟩)) htake))
  |exact ae (ae (m:=Builtin.Tuple.tupleExact _) (yS (pi ⟨_,rfl,pi h⟩) htake))
end
end HT
namespace L2
open PySem PySem.Spec PyProof.Rows
abbrev TO:=St→Hp→(Option Int→Hp→Prop)→Prop
def PO(X:Cx)(e:Option Expr)(t:TO):Prop:=
 ∀(As:List (Addr×Obj))(s:Shared)(σ:St)(H:Hp)(Q:Option Int→Hp→Prop),Inv X As σ H s→t σ H Q→
  wpAny (model X.prog X.w) X.A (evalPart e X.env) (fun u s'=>∃o H',Inv X As σ H' s'∧IsPart u o∧Q o H') X.xe s
def qZ:TO:=fun _ H Q=>Q none H
def wb(t:TE):TO:=fun σ H Q=>t σ H fun x H1=>∃i,x=.int i∧Q (some i) H1
theorem P4{ns:List Int}:∀{us:List Value},Vals (ns.map V.int) us→IntsAre us ns:=by
 induction ns with
 |nil=>intro us r;rw[Ak]at r;cases r;exact .nil
 |cons n ns ih=>
  intro us r;rw[xD]at r;cases r with
  |cons r1 r2=>
   obtain⟨t,e⟩:=r1;subst e;exact .cons n t (ih r2)
section
variable{X:Cx}{e:Expr}{te:TE}{lo hi:Option Expr}{tl th:TO}{pos p2:Pos}
theorem lj:PO X none qZ:=by
 intro As s σ H Q I h;rw[evalPart_none];exact pi ⟨none,H,I,.none,h⟩
theorem Rt(h:PE X e te):PO X (some e) (wb te):=by
 intro As s σ H Q I hw;rw[evalPart_some];refine thn (h As s σ H _ I hw) fun u s1 At=>?_;obtain⟨x,H1,I1,r1,q1⟩:=At;obtain⟨i,rfl,q⟩:=q1;obtain⟨t,rfl⟩:=r1;exact⟨some i,H1,I1,.int i t,q⟩
def SlR(X:Cx)(r:V→Option Int→Option Int→Hp→VK→Prop):Prop:=
 ∀(As:List (Addr×Obj))(s:Shared)(σ:St)(H:Hp)(x:V)(v vl vu:Value)(lo hi:Option Int)(sl:Addr)(Q:VK),Inv X As σ H s→RelV x v→s.heap.IsSliceOf sl vl vu .none→IsPart vl lo→IsPart vu hi→r x lo hi H Q→
  ∃T id,typeLookup (.type T) "__getitem__"=pure (some (.builtin id))∧s.TypeIs v T∧wpAny (model X.prog X.w) X.A (getItem v (.ref sl)) (EP X As σ Q) X.xe s
def tSl(r:V→Option Int→Option Int→Hp→VK→Prop)(te:TE)(tl th:TO):TE:=fun σ H Q=>te σ H fun x H1=>tl σ H1 fun l H2=>th σ H2 fun u H3=>r x l u H3 Q
theorem gE{r:V→Option Int→Option Int→Hp→VK→Prop}(hr:SlR X r)(he:PE X e te)(hl:PO X lo tl)(hu:PO X hi th):PE X (.Subscript e (.Slice lo hi none p2) pos) (tSl r te tl th):=by
 intro As s σ H Q I h;refine Subscript_ (thn (he As s σ H _ I h) fun v s1 At=>?_);obtain⟨x,H1,I1,r1,q1⟩:=At;refine wpAny_Slice (thn (hl As s1 σ H1 _ I1 q1) fun vl s2 ⟨l,H2,I2,pl,q2⟩=>thn (hu As s2 σ H2 _ I2 q2) fun vu s3 At=>?_);obtain⟨u,H3,I3,pu,q3⟩:=At;rw[evalPart_none];refine pi ?_;have I4:Inv X As σ H3 {s3 with heap:=s3.heap.push {cls:=.type "slice",data:=.fields #[vl,vu,.none]}}:=I3.kept (t':=s3.toks) fun b ob q=>io _ q;obtain⟨T,id,hT,ht,hg⟩:=hr As {s3 with heap:=s3.heap.push {cls:=.type "slice",data:=.fields #[vl,vu,.none]}} σ H3 x v vl vu l u s3.heap.objs.size Q I4 r1 (Heap.IsSliceOf.new ..) pl pu q3;show wpAny (model X.prog X.w) X.A (subscriptTail e (.Slice lo hi none p2) v (.ref s3.heap.objs.size)) (EP X As σ Q) X.xe {s3 with heap:=s3.heap.push {cls:=.type "slice",data:=.fields #[vl,vu,.none]}};exact tail_any (ops:=[.ref s3.heap.objs.size,v]) ht hT hg (by with_unfolding_all rfl)
def l9(xs:List V)(lo hi:Option Int):List V:=(xs.drop (HT.sIx xs.length 0 lo)).take (HT.sIx xs.length xs.length hi-HT.sIx xs.length 0 lo)
theorem hE(xs:List V)(lo hi:Option Int):(l9 xs lo hi).length≤xs.length:=by
 unfold l9;rw[xW,List.length_drop];omega
def rSlT(K:W.Frag):V→Option Int→Option Int→Hp→VK→Prop:=fun x lo hi H Q=>∃a xs,x=.ref a∧SqT K H a xs∧
 ¬(HT.sIx xs.length 0 lo=0∧HT.sIx xs.length xs.length hi=xs.length)∧∀p,H p=none→Q (.ref p) (upd H p (.tup (l9 xs lo hi)))
theorem vF:SlR X (rSlT X.K):=by
 intro As s σ H x v vl vu lo hi sl Q I rx hs pl pu h;obtain⟨a,xs,rfl,hx,hw,q⟩:=h;cases rx;obtain⟨its,r,ht,hz⟩:=I.tuple hx;have AG:its.toArray.size=xs.length:=by rw[xU];exact r.length.symm
 refine⟨"tuple",_,PyProof.Rows.slot_tuple_getitem.lookup,ht.typeIs,?_⟩;refine HT.getItem_tuple_cut ht hs pl pu (by rw[AG];exact hw) ?_ (by rw[AG];exact hz);rw[AG];refine⟨.ref s.heap.objs.size,_,I.laid (t':=s.toks) (o:=.tup (l9 xs lo hi)) (fun b ob q=>io _ q) (xA _) ?_,rfl,q _ (I.hok.fresh (xA _))⟩;exact⟨yi (hE xs lo hi) hz,_,(r.drop (HT.sIx xs.length 0 lo)).take (HT.sIx xs.length xs.length hi-HT.sIx xs.length 0 lo),TupN.new _ _⟩
end
def ixN(n:Nat)(i:Int):Option Nat:=if 0≤i then(if i<n then some i.toNat else none)else if -(n:Int)≤i then some (i+n).toNat else none
def atI{α:Type}(xs:List α)(i:Int):Option α:=(ixN xs.length i).bind fun j=>xs[j]?
theorem kc{n:Nat}{i:Int}{j:Nat}(h:ixN n i=some j):seqIndex? i n=some j∧j<n∧-(n:Int)≤i∧i<n:=by
 unfold ixN at h;by_cases h0:0≤i
 ·rw[xC h0]at h;by_cases h1:i<n
  ·rw[xC h1]at h;have e:i.toNat=j:=xV h;exact⟨by rw[seqIndex_of h0 h1,e],by omega,by omega,h1⟩
  ·rw[xz h1]at h;cases h
 ·rw[xz h0]at h;by_cases h1:-(n:Int)≤i
  ·rw[xC h1]at h;have e:(i+n).toNat=j:=xV h;exact⟨by rw[seqIndex_neg (by omega) h1,e],by omega,h1,by omega⟩
  ·rw[xz h1]at h;cases h
theorem kR{α:Type}{xs:List α}{i:Int}{v:α}(h:atI xs i=some v):∃j,seqIndex? i xs.length=some j∧xs[j]?=some v∧j<xs.length∧-(xs.length:Int)≤i∧i<xs.length:=by
 unfold atI at h;cases e:ixN xs.length i with
 |none=>rw[e]at h;cases h
 |some j=>
  rw[e]at h;obtain⟨h1,h2,h3,h4⟩:=kc e;exact⟨j,h1,h,h2,h3,h4⟩
theorem kH{α:Type}{xs:List α}{j:Nat}{v:α}(h:xs[j]?=some v):atI xs (j:Int)=some v:=by
 have hj:j<xs.length:=(xI.mp h).1;have e:ixN xs.length (j:Int)=some j:=by
  unfold ixN;rw[if_pos (by omega),if_pos (by omega)];simp
 unfold atI;rw[e];exact h
def jW(b:Expr):Prop:=∀o i,subscripted b false o i=operate [o,i] (getItem o i)
def IxR(X:Cx)(r:R2):Prop:=
 ∀(value slice:Expr)(As:List (Addr×Obj))(s:Shared)(σ:St)(H:Hp)(x y:V)(v u:Value)(Q:VK),Inv X As σ H s→RelV x v→RelV y u→r x y H Q→
  subscripted slice false v u=operate [v,u] (getItem v u)→wpAny (model X.prog X.w) X.A (subscriptTail value slice v u) (EP X As σ Q) X.xe s
def MtR(X:Cx)(id:String)(r:V→List V→Hp→VK→Prop):Prop:=
 ∀(As:List (Addr×Obj))(s:Shared)(σ:St)(H:Hp)(x:V)(xs:List V)(v:Value)(us:List Value)(Q:VK),Inv X As σ H s→RelV x v→Vals xs us→r x xs H Q→
  wpAny (model X.prog X.w) X.A (call (.builtin id) (v::us)) (EP X As σ Q) X.xe s
section
variable{X:Cx}{a b:Expr}{ta tb:TE}{pos:Pos}
theorem wv{r:R2}(hr:IxR X r)(ha:PE X a ta)(hb:PE X b tb)(hs:jW b):PE X (.Subscript a b pos) (tOp r ta tb):=by
 intro As s σ H Q I h;exact Subscript_ (uS ha hb I h fun v u s2 x y H2 I2 rx ry q=>hr a b As s2 σ H2 x y v u Q I2 rx ry q (hs _ _))
def rIxL(K:W.Frag):R2:=fun x y H Q=>∃p xs i v,x=.ref p∧y=.int i∧SqL K H p xs∧atI xs i=some v∧Q v H
def wC(K:W.Frag):R2:=fun x y H Q=>∃p xs i v,x=.ref p∧y=.int i∧SqT K H p xs∧atI xs i=some v∧Q v H
theorem Uv:IxR X (rIxL X.K):=by
 intro value slice As s σ H x y v u Q I rx ry h hs;obtain⟨p,xs,i,z,rfl,rfl,hq,he,q⟩:=h;cases rx;obtain⟨t,rfl⟩:=ry;obtain⟨its,r,pl,hz⟩:=I.list hq;obtain⟨j,h1,h2,h3,h4,h5⟩:=kR he;obtain⟨w,ew,rw'⟩:=r.get h2;have hl:=r.length;have hn:=fZ;have fin:EP X As σ Q w s:=⟨z,H,I,rw',q⟩;by_cases h0:0≤i
 ·have hj:i.toNat=j:=by
   rw[seqIndex_of h0 h5]at h1;exact xV h1
  exact item_listR pl.isList h0 (by omega) (by rw[hj];simpa using ew) fin hs
 ·have hj:(i+(its.toArray.size:Int)).toNat=j:=by
   rw[seqIndex_neg (by omega) h4]at h1;rw[xU,←hl];exact xV h1
  exact subscriptTail_builtinR (x:=w) pl.isList.typeIs slot_list_getitem.lookup
   (wpAny_getItem_list_neg (Q:=fun r s'=>r=w∧EP X As σ Q r s') pl.isList (by omega) (by rw[List.size_toArray] <;> omega) (by omega) (by rw[hj];simpa using ew) ⟨rfl,fin⟩) hs
theorem Xc:IxR X (wC X.K):=by
 intro value slice As s σ H x y v u Q I rx ry h hs;obtain⟨p,xs,i,z,rfl,rfl,hq,he,q⟩:=h;cases rx;obtain⟨t,rfl⟩:=ry;obtain⟨its,r,pl,hz⟩:=I.tuple hq;obtain⟨j,h1,h2,h3,h4,h5⟩:=kR he;obtain⟨w,ew,rw'⟩:=r.get h2;have hl:=r.length;have hn:=fZ;have fin:EP X As σ Q w s:=⟨z,H,I,rw',q⟩;exact subscriptTail_builtinR (x:=w) pl.typeIs slot_tuple_getitem.lookup
  (getItem_tuple (j:=j) (Q:=fun r s'=>r=w∧EP X As σ Q r s') pl (by omega) (by omega) (by rw[List.size_toArray,←hl];exact h1) (by simpa using ew) ⟨rfl,fin⟩) hs
theorem i8(its:List Value)(n j:Nat)(u:Value):Obj.mapSeq (·.setIfInBounds j u) {cls:=.type "list",data:=.seq its.toArray n}={cls:=.type "list",data:=.seq (its.set j u).toArray n}:=by
 simp[Obj.mapSeq]
theorem Inv.lst{As:List (Addr×Obj)}{σ:St}{H:Hp}{s:Shared}{p:Addr}{xs:List V}(I:Inv X As σ H s)(h:H p=some (.lst xs)):
  ∃(its:List Value)(n:Nat),Vals xs its∧s.heap.get? p=some {cls:=.type "list",data:=.seq its.toArray n}∧xs.length≤sizeLine:=by
 obtain⟨z,its,n,r,e⟩:=I.hok p _ h;exact⟨its,n,r,e,z⟩
theorem Inv.lstUpd{As:List (Addr×Obj)}{σ:St}{H:Hp}{s:Shared}{p:Addr}{xs ys:List V}{its its':List Value}{n n':Nat}{f:Obj→Obj}(I:Inv X As σ H s)(h:H p=some (.lst xs))(ho:s.heap.get? p=some {cls:=.type "list",data:=.seq its.toArray n})(hf:f {cls:=.type "list",data:=.seq its.toArray n}={cls:=.type "list",data:=.seq its'.toArray n'})(r:Vals ys its')(hz:ys.length≤sizeLine)(t:Nat):
  Inv X As σ (upd H p (.lst ys)) {s with heap:=s.heap.update p f,toks:=t}:=by
 have e:(s.heap.update p f).get? p=some {cls:=.type "list",data:=.seq its'.toArray n'}:=by
  rw[Heap.get?_update_self f ho (by rw[hf] <;> rfl),hf]
 refine I.write (x:=p) (e:=p) (by rw[h];trivial) (.inl rfl) (fun b u hb q=>(yW _ _ (Ne.symm hb)).trans q) ⟨_,e⟩ ?_;exact⟨hz,its',n',r,e⟩
def xf:V→V→V→Hp→(Hp→Prop)→Prop:=fun o i v H Q=>∃p xs k j,o=.ref p∧i=.int k∧H p=some (.lst xs)∧ixN xs.length k=some j∧Q (upd H p (.lst (xs.set j v)))
theorem gP:vT X xf:=by
 intro As s σ H o i v ov iv u Q I ro ri rv h;obtain⟨p,xs,k,j,rfl,rfl,hp,hj,q⟩:=h;cases ro;obtain⟨t,rfl⟩:=ri;obtain⟨its,n,r,ho,hz⟩:=I.lst hp;obtain⟨h1,h2,h3,h4⟩:=kc hj;have hl:=r.length;have hn:=fZ;have I':Inv X As σ (upd H p (.lst (xs.set j v))) {s with heap:=s.heap.update p (Obj.mapSeq (·.setIfInBounds j u))}:=
  I.lstUpd hp ho (i8 its n j u) (r.set rv j) (by rw[List.length_set];exact hz) s.toks
 by_cases h0:0≤k
 ·have hk:k.toNat=j:=by
   rw[seqIndex_of h0 h4]at h1;exact xV h1
  exact W.ki_setAt ho h0 (by omega) (by rw[xU,←hl];exact h4) (by rw[hk];exact⟨_,I',q⟩)
 ·have hk:(k+(its.toArray.size:Int)).toNat=j:=by
   rw[seqIndex_neg (by omega) h3]at h1;rw[xU,←hl];exact xV h1
  exact W.ki_setBack ho (by omega) (by rw[xU,←hl];exact h3) (by omega) (by rw[hk];exact⟨_,I',q⟩)
theorem Xd:bE X (.builtin "len") (fun xs H Q=>∃p ys,xs=[.ref p]∧(SqL X.K H p ys∨SqT X.K H p ys)∧Q (.int ys.length) H):=by
 intro As s σ H xs us Q I r h;obtain⟨p,ys,rfl,hq,q⟩:=h;obtain⟨u,rfl,rx⟩:=Wx r;cases rx;have hn:=fZ
 rcases hq with hq | hq
 ·obtain⟨its,r',pl,hz⟩:=I.list hq;have AG:=r'.length;exact Calls.call_len_list pl.isList (by simp only[List.size_toArray] <;> omega) ⟨.int ys.length,H,I.tok _,⟨s.toks+1,by rw[List.size_toArray,AG]⟩,q⟩
 ·obtain⟨its,r',pl,hz⟩:=I.tuple hq;have AG:=r'.length;exact len_tuple pl (by simp only[List.size_toArray] <;> omega) ⟨.int ys.length,H,I.tok _,⟨s.toks+1,by rw[List.size_toArray,AG]⟩,q⟩
theorem U5:bE X (.type "list") (fun xs H Q=>∃p ys,xs=[.ref p]∧(SqL X.K H p ys∨SqT X.K H p ys)∧∀l,H l=none→Q (.ref l) (upd H l (.lst ys))):=by
 intro As s σ H xs us Q I r h;obtain⟨p,ys,rfl,hq,q⟩:=h;obtain⟨u,rfl,rx⟩:=Wx r;cases rx;have fin:∀(its:List Value),Vals ys its→ys.length≤sizeLine→∀(h':Heap)(c':Nat),(∀b o',s.heap.get? b=some o'→h'.get? b=some o')→
   h'.get? s.heap.objs.size=some {cls:=.type "list",dict:=none,data:=.seq its.toArray c',slots:=#[]}→EP X As σ Q (.ref s.heap.objs.size) {s with heap:=h'}:=fun its r' hz h' c' kp e=>
  ⟨.ref s.heap.objs.size,_,I.laid (t':=s.toks) kp (xA _) (show ObjOk X.prog X.w _ h' _ (.lst ys) from⟨hz,its,c',r',e⟩),rfl,q _ (I.hok.fresh (xA _))⟩
 rcases hq with hq | hq
 ·obtain⟨its,r',pl,hz⟩:=I.list hq;have AG:=r'.length;obtain⟨o,ho,hc,n,hd⟩:=pl.isList;exact call_list_seq p (.inl rfl) ho hc hd (fun h' c' kp e=>fin its r' hz h' c' kp e) (by simp only[List.size_toArray] <;> omega)
 ·obtain⟨its,r',pl,hz⟩:=I.tuple hq;have AG:=r'.length;obtain⟨o,ho,hc,n,hd⟩:=pl;exact call_list_seq p (.inr rfl) ho hc hd (fun h' c' kp e=>fin its r' hz h' c' kp e) (by simp only[List.size_toArray] <;> omega)
theorem T5:bE X (.type "tuple") (fun xs H Q=>∃p ys,xs=[.ref p]∧((SqL X.K H p ys∧∀l,H l=none→Q (.ref l) (upd H l (.tup ys)))∨(SqT X.K H p ys∧Q (.ref p) H))):=by
 intro As s σ H xs us Q I r h;obtain⟨p,ys,rfl,h⟩:=h;obtain⟨u,rfl,rx⟩:=Wx r;cases rx
 rcases h with⟨hq,q⟩|⟨hq,q⟩
 ·obtain⟨its,r',pl,hz⟩:=I.list hq;have AG:=r'.length;refine call_tuple_list pl.isList (fun h' kp=>?_) (by simp only[List.size_toArray] <;> omega);have I1:Inv X As σ H {s with heap:=h'}:=I.kept (t':=s.toks) kp;have I2:Inv X As σ (upd H h'.objs.size (.tup ys)) {s with heap:=h'.push {cls:=.type "tuple",data:=.seq its.toArray}}:=
   I1.laid (t':=s.toks) (fun b o e=>io _ e) (xA _) (show ObjOk X.prog X.w _ _ _ (.tup ys) from⟨hz,its,r',TupN.new _ _⟩)
  exact⟨.ref h'.objs.size,_,I2,rfl,q _ (I1.hok.fresh (xA _))⟩
 ·obtain⟨its,r',pl,hz⟩:=I.tuple hq;exact call_tuple_same pl ⟨.ref p,H,I,rfl,q⟩
def tyV(K:W.Frag)(T:String)(x:V)(H:Hp):Prop:=match x with
 |.str _=>T="str"
 |.int _=>T="int"
 |.ref p=>(T="list"∧∃xs,SqL K H p xs)∨(T="tuple"∧∃o,K.lookup p=some o∧o.cls=.type "tuple"∧o.dict=none)∨
   (T="dict"∧((∃kvs,H p=some (.dK kvs))∨∃kvs,H p=some (.dT kvs)))∨(T="set"∧∃S n,H p=some (.set S n))
 |_=>False
theorem oQ{As:List (Addr×Obj)}{σ:St}{H:Hp}{s:Shared}{T:String}{x:V}{v:Value}(I:Inv X As σ H s)(r:RelV x v)(ty:tyV X.K T x H):
  s.TypeIs v T∧∀a,v=.ref a→∃ob,s.heap.get? a=some ob∧ob.dict=none:=by
 cases x with
 |str z=>
  obtain⟨t,rfl⟩:=r;cases (show T="str" from ty);exact⟨typeIs_str s z t,fun _ e=>nomatch e⟩
 |int i=>
  obtain⟨t,rfl⟩:=r;cases (show T="int" from ty);exact⟨typeIs_int s i t,fun _ e=>nomatch e⟩
 |ref p=>
  cases r
  rcases ty with⟨rfl,xs,hq⟩|⟨rfl,o,hk,hc,hd⟩|⟨rfl,hk⟩|⟨rfl,S,n,hk⟩
  ·obtain⟨its,_,pl,_⟩:=I.list hq;refine⟨pl.isList.typeIs,fun a e=>?_⟩;cases e;obtain⟨o,n,e,c,hd,_⟩:=pl;exact⟨o,e,hd⟩
  ·refine⟨⟨o,I.kIn p o hk,hc⟩,fun a e=>?_⟩;cases e;exact⟨o,I.kIn _ o hk,hd⟩
  ·have z:∃o,s.heap.get? p=some o∧o.ExactDict:=by
    rcases hk with⟨kvs,hk⟩|⟨kvs,hk⟩
    ·obtain⟨_,_,_,_,o,_,_,e,ex,_⟩:=I.hok p _ hk;exact⟨o,e,ex⟩
    ·obtain⟨_,_,_,_,o,_,_,e,ex,_⟩:=I.hok p _ hk;exact⟨o,e,ex⟩
   obtain⟨o,e,ex⟩:=z;refine⟨⟨o,e,ex.1⟩,fun a e2=>?_⟩;cases e2;exact⟨o,e,ex.2.1⟩
  ·obtain⟨o,_,_,_,e,ex,_⟩:=I.hok p _ hk;refine⟨⟨o,e,ex.1⟩,fun a e2=>?_⟩;cases e2;exact⟨o,e,ex.2.1⟩
 |_=>exact False.elim ty
def tBM0(K:W.Frag)(T:String)(r:V→List V→Hp→VK→Prop)(to:TE):TE:=fun σ H Q=>to σ H fun x H1=>tyV K T x H1∧r x [] H1 Q
def tBM(K:W.Frag)(T:String)(r:V→List V→Hp→VK→Prop)(to:TE)(t:TA):TE:=fun σ H Q=>to σ H fun x H1=>tyV K T x H1∧t σ H1 fun xs H2=>r x xs H2 Q
variable{o e:Expr}{es:List Expr}{to:TE}{t:TA}{name:Str}{apos cpos:Pos}{T id:String}{r:V→List V→Hp→VK→Prop}
theorem Vx(pa:PlainAttrs T)(slot:Slot T name id)(hty:typeOf (.builtin id)=pure (.type "method_descriptor"))(hm:MtR X id r)(ho:PE X o to)(hbase:attributeBase o name X.env (eval o X.env)=eval o X.env:=by rfl)(hline:(apos.endLine==cpos.line)=true:=by rfl):PE X (.Call (.Attribute o name apos) [] [] cpos) (tBM0 X.K T r to):=by
 intro As s σ H Q I h;refine wpAny_Call_method0_late hbase hline (thn (ho As s σ H _ I h) fun v s1 At=>?_);obtain⟨x,H1,I1,r1,ty,q1⟩:=At;obtain⟨h1,h2⟩:=oQ I1 r1 ty;exact⟨T,id,pa,slot,hty,h1,h2,Calls.callWith_builtin rfl (PySem.evalArgs_none (hm As s1 σ H1 x [] v [] Q I1 r1 .nil q1))⟩
theorem Uf(pa:PlainAttrs T)(slot:Slot T name id)(hty:typeOf (.builtin id)=pure (.type "method_descriptor"))(hm:MtR X id r)(ho:PE X o to)(ha:PA X (e::es) t)(hbase:attributeBase o name X.env (eval o X.env)=eval o X.env:=by rfl)(hfew:((backTo cpos (starEach (e::es) X.env)).all (fun x=>!x.1) && (backToKw cpos (keywordEach [] X.env)).all (fun x=>x.1.isSome)
   && decide ((e::es).length+([]:List Keyword).length+(if ([]:List Keyword).isEmpty then 0 else 1)<30))=true:=by rfl)(hline:(apos.endLine==cpos.line)=true:=by rfl)(hs:starEach (e::es) X.env=(false,eval e X.env)::starEach es X.env:=by rfl)(hplain:(backTo cpos (starEach es X.env)).any (·.1)=false:=by rfl):
  PE X (.Call (.Attribute o name apos) (e::es) [] cpos) (tBM X.K T r to t):=by
 intro As s σ H Q I h;refine wpAny_Call_method_late hbase hfew hline rfl (thn (ho As s σ H _ I h) fun v s1 At=>?_);obtain⟨x,H1,I1,r1,ty,q1⟩:=At;obtain⟨h1,h2⟩:=oQ I1 r1 ty;refine⟨T,id,pa,slot,hty,h1,h2,?_⟩;have hA:=ha cpos As s1 σ H1 _ I1 q1;rw[hs]at hA⊢;refine Calls.callWith_builtin (by show(false || (backTo cpos (starEach es X.env)).any (·.1))=false;rw[hplain] <;> rfl) (Calls.evalArgs_plain ?_);exact thn hA fun us s2 ⟨vs,H2,I2,r2,q2⟩=>hm As s2 σ H2 x vs v us Q I2 r1 r2 q2
end
def MtM(X:Cx)(id:String)(r:V→List V→Hp→VK→Prop):Prop:=
 ∀(As:List (Addr×Obj))(s:Shared)(σ:St)(H:Hp)(x:V)(xs:List V)(v:Value)(us:List Value)(Q:VK),Inv X As σ H s→RelV x v→Vals xs us→r x xs H Q→
  wpAny (model X.prog X.w) X.A (call (.builtin id) (v::us)) (EP X As σ Q) X.xe s
theorem Vals.one{x:V}{us:List Value}(h:Vals [x] us):∃u,us=[u]∧RelV x u:=by
 cases h with
 |cons r t=>
  cases t;exact⟨_,rfl,r⟩
theorem Vals.zero:∀{us:List Value},Vals [] us→us=[]
 |_,.nil=>rfl
theorem Vals.dropLast{xs:List V}{us:List Value}(h:Vals xs us):Vals xs.dropLast us.dropLast:=by
 induction h with
 |nil=>exact .nil
 |cons r t ih=>
  cases t with
  |nil=>exact .nil
  |cons q t'=>exact .cons r ih
theorem Vals.rep{xs:List V}{us:List Value}(h:Vals xs us):∀k:Nat,Vals (List.replicate k xs).flatten (List.replicate k us).flatten
 | 0=>.nil
 |k+1=>by
  rw[zT,zT,List.flatten_cons,List.flatten_cons];exact Vals.append h (Vals.rep h k)
theorem iS{α:Type}(l:List α):l.eraseIdx (l.length-1)=l.dropLast:=by
 induction l with
 |nil=>rfl
 |cons a r ih=>
  cases r with
  |nil=>rfl
  |cons b r=>
   have e:(a::b::r).length-1=((b::r).length-1)+1:=by
    have h1:(a::b::r).length=r.length+2:=rfl;have h2:(b::r).length=r.length+1:=rfl;omega
   rw[e,zV,ih]
   all_goals rfl
theorem O9(its:List Value):∀(k:Nat)(AE:List Value),
  List.foldl (fun x1 x2=>x1++x2) AE.toArray (List.replicate k its.toArray)=(AE++(List.replicate k its).flatten).toArray
 | 0,AE=>by simp
 |k+1,AE=>by
  have e:AE.toArray++its.toArray=(AE++its).toArray:=by simp
  have e2:(AE++its)++(List.replicate k its).flatten=AE++(List.replicate (k+1) its).flatten:=by
   rw[zT,List.flatten_cons,yL]
  rw[←e2,←O9 its k (AE++its),←e,zT,zQ]
section
variable{X:Cx}{As:List (Addr×Obj)}{σ:St}{H:Hp}{s:Shared}{l b:Addr}{xs ys zs:List V}
theorem Inv.lset{its its':List Value}{n:Nat}{f:Array Value→Array Value}{t':Nat}(I:Inv X As σ H s)(hH:H l=some (.lst xs))(e:s.heap.get? l=some {cls:=.type "list",data:=.seq its.toArray n})(hf:f its.toArray=its'.toArray)(hv:Vals ys its')(hz:ys.length≤sizeLine):
  Inv X As σ (upd H l (.lst ys)) {s with heap:=s.heap.update l (Obj.mapSeq f),toks:=t'}:=by
 have q:=PySem.IsL.update e f;rw[hf]at q;refine I.write (x:=l) (e:=l) (by rw[hH];exact trivial) (.inl rfl) (fun b' u hb hu=>(yW s.heap (Obj.mapSeq f) (Ne.symm hb)).trans hu) ⟨_,q⟩ ?_;exact⟨hz,its',_,hv,q⟩
theorem Inv.lnew{its:List Value}{t':Nat}(I:Inv X As σ H s)(hv:Vals ys its)(hz:ys.length≤sizeLine):
  Inv X As σ (upd H s.heap.objs.size (.lst ys)) {s with heap:=s.heap.push {cls:=.type "list",data:=.seq its.toArray},toks:=t'}:=
 I.laid (fun _ _ q=>io _ q) (xA _) ⟨hz,its,0,hv,xO _ rfl⟩
theorem Inv.fresh(I:Inv X As σ H s):H s.heap.objs.size=none:=I.hok.fresh (xA _)
theorem Inv.lstM(I:Inv X As σ H s)(hH:H l=some (.lst xs)):xs.length≤sizeLine∧∃(its:List Value)(n:Nat),Vals xs its∧xs.length=its.length∧s.heap.get? l=some {cls:=.type "list",data:=.seq its.toArray n}:=by
 obtain⟨z,its,n,r,e⟩:=I.hok l _ hH;exact⟨z,its,n,r,r.length,e⟩
theorem Sb{n:Nat}(h:n≤sizeLine):Builtin.List.listTooLong n=false:=by
 unfold Builtin.List.listTooLong;exact yh (by omega)
end
section
variable{X:Cx}
def rS:V→List V→Hp→VK→Prop:=fun x vs H Q=>∃l xs y,x=.ref l∧vs=[y]∧H l=some (.lst xs)∧xs.length<sizeLine∧Q .non (upd H l (.lst (xs++[y])))
theorem Vn:MtM X "list.append" rS:=by
 intro As s σ H x vs v us Q I rx rv h;obtain⟨l,xs,y,rfl,rfl,hH,hz,q⟩:=h;cases rx;obtain⟨u,rfl,ru⟩:=rv.one;obtain⟨z,its,n,r,hl,e⟩:=I.lstM hH;refine Aq F.slot_list_append ⟨_,e,rfl⟩ F.entry_list_append (F.args_list_append_2 _ _) (PySem.list_append l its.toArray n u (by rw[xU];omega)) ⟨e,?_⟩;refine⟨.non,_,I.lset (its':=its++[u]) hH e (by simp) (r.append (.cons ru .nil)) ?_,rfl,q⟩;rw[xE,yR];omega
def rP:V→List V→Hp→VK→Prop:=fun x vs H Q=>∃l b xs zs,x=.ref l∧vs=[.ref b]∧H l=some (.lst xs)∧H b=some (.lst zs)∧xs.length+zs.length≤sizeLine∧Q .non (upd H l (.lst (xs++zs)))
theorem R8:MtM X "list.extend" rP:=by
 intro As s σ H x vs v us Q I rx rv h;obtain⟨l,b,xs,zs,rfl,rfl,hH,hB,hz,q⟩:=h;cases rx;obtain⟨u,rfl,ru⟩:=rv.one;cases ru;obtain⟨z,its,n,r,hl,e⟩:=I.lstM hH;obtain⟨z2,its2,n2,r2,hl2,e2⟩:=I.lstM hB;have hsz:its.toArray.size+its2.toArray.size≤sizeLine:=by rw[xU,xU];omega
 have hlong:¬(!its.toArray.isEmpty && Builtin.List.listTooLong (its.toArray.size+its2.toArray.size))=true:=by
  rw[Sb hsz,Bool.and_false];exact xK
 refine Aq F.slot_list_extend ⟨_,e,rfl⟩ F.entry_list_extend (F.args_list_extend_2 _ _)
  (AutoSeq1.list_extend_list_list_0 l its.toArray n b its2.toArray n2 hlong (by rw[xU];omega) (by omega)) ⟨e,e2,?_⟩
 refine⟨.non,_,I.lset (its':=its++its2) hH e (by simp) (r.append r2) ?_,rfl,q⟩;rw[xE];omega
def rPop:V→List V→Hp→VK→Prop:=fun x vs H Q=>∃l xs y,x=.ref l∧vs=[]∧H l=some (.lst xs)∧xs[xs.length-1]?=some y∧Q y (upd H l (.lst xs.dropLast))
theorem Nh:MtM X "list.pop" rPop:=by
 intro As s σ H x vs v us Q I rx rv h;obtain⟨l,xs,y,rfl,rfl,hH,hy,q⟩:=h;cases rx;have hus:=rv.zero;subst hus;obtain⟨z,its,n,r,hl,e⟩:=I.lstM hH;obtain⟨u,hu,ru⟩:=r.get hy;have hy':its.toArray[its.toArray.size-1]?=some u:=by
  show its.toArray[its.length-1]?=some u;rw[←yk,←hl];exact hu
 refine Aq F.slot_list_pop ⟨_,e,rfl⟩ F.entry_list_pop (F.args_list_pop_1 _) (MeetsSeq.list_pop_last l its.toArray n u hy' (by rw[xU];omega)) ⟨e,?_⟩;refine⟨y,_,I.lset (its':=its.dropLast) hH e ?_ r.dropLast ?_,ru,q⟩
 ·show its.toArray.eraseIdxIfInBounds (its.toArray.size-1)=its.dropLast.toArray;rw[xU,List.eraseIdxIfInBounds_toArray,iS]
 ·rw[List.length_dropLast];omega
def rCat:R2:=fun x y H Q=>∃l b xs zs,x=.ref l∧y=.ref b∧H l=some (.lst xs)∧H b=some (.lst zs)∧xs.length+zs.length≤sizeLine∧∀p,H p=none→Q (.ref p) (upd H p (.lst (xs++zs)))
theorem Nc:OpR X (binaryOp .Add) rCat:=by
 intro As s σ H x y v u Q I rx ry h;obtain⟨l,b,xs,zs,rfl,rfl,hH,hB,hz,q⟩:=h;cases rx;cases ry;obtain⟨z,its,n,r,hl,e⟩:=I.lstM hH;obtain⟨z2,its2,n2,r2,hl2,e2⟩:=I.lstM hB;refine PySem.P.add_list e e2 ?_ (by rw[xU,xU];omega);have ea:its.toArray++its2.toArray=(its++its2).toArray:=by simp
 rw[ea];exact⟨.ref _,_,I.lnew (t':=s.toks) (r.append r2) (by rw[xE];omega),rfl,q _ I.fresh⟩
def rRep:R2:=fun x y H Q=>∃l k xs,x=.ref l∧y=.int k∧H l=some (.lst xs)∧-(2^63)≤k∧k<2^63∧xs.length*k.toNat≤sizeLine∧
 ∀p,H p=none→Q (.ref p) (upd H p (.lst (List.replicate k.toNat xs).flatten))
theorem rQ{α:Type}(xs:List α)(k:Nat):(List.replicate k xs).flatten.length=k*xs.length:=by
 induction k with
 |zero=>simp
 |succ k ih=>rw[zT,List.flatten_cons,xE,ih,Nat.succ_mul,Nat.add_comm]
theorem uf:OpR X (binaryOp .Mult) rRep:=by
 intro As s σ H x y v u Q I rx ry h;obtain⟨l,k,xs,rfl,rfl,hH,h1,h2,hz,q⟩:=h;cases rx;obtain⟨t,rfl⟩:=ry;obtain⟨z,its,n,r,hl,e⟩:=I.lstM hH;have AG:its.toArray.size*k.toNat≤sizeLine:=by rw[xU,←hl];exact hz
 have hcap:¬its.toArray.size*k.toNat > (2^63-1) / 8:=by
  have:(sizeLine:Nat)≤(2^63-1) / 8:=by decide
  omega
 have hfit:¬(!Builtin.List.listFitsIndex k)=true:=by
  rw[fitsIndex_both h1 h2];exact xK
 have hlong:¬Builtin.List.listTooLong (its.toArray.size*k.toNat)=true:=by
  rw[Sb AG];exact xK
 have hnew:List.foldl (fun x1 x2=>x1++x2) #[] (List.replicate (if its.toArray.isEmpty=true then 0 else k.toNat) its.toArray)=(List.replicate k.toNat its).flatten.toArray:=by
  have f0:∀m:Nat,List.foldl (fun x1 x2=>x1++x2) #[] (List.replicate m its.toArray)=(List.replicate m its).flatten.toArray:=fun m=>by
   have:=O9 its m [];rw[List.nil_append]at this;exact this
  rw[f0];cases its with
  |nil=>simp
  |cons a r'=>rw[if_neg (by simp)]
 refine wpAny_binaryOp_repeat_ref (T:="list") (U:="int") (by decide) ⟨_,e,rfl⟩ (fun s'=>typeIs_int s' k t) noFill_list_mul F.fills_int_mul F.slot_int_rmul repeat_list F.slot_int_index.lookup
  (Aq F.slot_int_rmul (typeIs_int s k t) F.entry_int_rmul (F.args_int_rmul_2 _ _) (int___rmul___int_list k t l its.toArray n)
   ⟨e,rfl,⟨_,e,rfl⟩,Aq F.slot_list_mul ⟨_,e,rfl⟩ F.entry_list_mul (F.args_list_mul_2 _ _) (AutoListH.list___mul___list_int_3 l its.toArray n k t hfit hcap hlong) ⟨e,?_⟩⟩)
 rw[hnew];exact⟨.ref _,_,I.lnew (t':=s.toks) (r.rep k.toNat) (by rw[rQ,Nat.mul_comm];exact hz),rfl,q _ I.fresh⟩
end
section
variable{prog:Program}{w:World}{A:Around}{E:Value→Shared→Prop}{s:Shared}
theorem mO(its its2:List Value)(a c:Nat):its.toArray.extract 0 a++its2.toArray++its.toArray.extract c its.toArray.size=(its.take a++its2++its.drop c).toArray:=by
 apply Array.toList_inj.mp
 first
  | (simp
     exact List.take_of_length_le (by simp))
  |simp[List.take_of_length_le]
  |simp
end
section
variable{X:Cx}
end
end L2
namespace Att
open PySem PySem.W PySem.Calls PyProof.Rows
theorem Rn{P:Params}{h:Heap}:∀(ns:List Int)(vs:List Value),WellAll P h vs (ns.map WData.int)→IntsAre vs ns:=by
 intro ns
 induction ns with
 |nil=>
  intro vs w;rw[Ak]at w;cases w;exact .nil
 |cons n ns ih=>
  intro vs w;rw[xD]at w;cases w with
  |cons a b=>
   cases a;exact .cons _ _ (ih _ b)
theorem mT{l:OpenLaw}{n:Nat}(hn:l.most=some n){P:Params}{h:Heap}{args:List WData}{vals:List Value}(hpre:l.row.toRowW.claim.pre args=true)(hwl:WellAll P h vals args):
  ∃a vs ns,vals=[Value.ref a]∧args=[WData.list (ns.map WData.int)]∧h.get? a=some {cls:=.type "list",data:=.seq vs.toArray}∧IntsAre vs ns∧ns.length≤n:=by
 have hsh:WShape.hasAll [] args [.list .int]=true:=(pre_splitW hpre).1;have hc:l.pre.holds [] {args:=args}=true:=(pre_splitW hpre).2;obtain⟨d,r,rfl,h1,h2⟩:=hasAllW_cons hsh;obtain rfl:=hasAllW_nil h2;obtain⟨xs,rfl,h3⟩:=hasW_list h1;obtain⟨ns,rfl⟩:=items_int h3;have AG:ns.length≤n:=by
  unfold OpenLaw.pre at hc;have h4:(WTm.not (.lt (.lit (.int (n:Int))) (.len (.arg 0)))).holds [] {args:=[.list (ns.map .int)]}=true:=by
   have h4:=(holds_andW hc).1;rw[hn]at h4;exact h4
  have h5:=condW_of h4 (w_not (w_lt w_lit (w_len_list (w_arg rfl))));rw[az]at h5;refine Nat.le_of_not_lt fun q=>?_;have q':(n:Int)<((ns.length:Nat):Int):=by omega
  first
   | (rw[xJ q']at h5;exact absurd h5 (by decide))
   | (simp at h5;omega)
 cases hwl with
 |cons w1 w2=>
  cases w2;cases w1 with
  |list ho hall=>exact⟨_,_,ns,rfl,rfl,ho,Rn ns _ hall,AG⟩
theorem mq(l:OpenLaw)(args:List WData):l.row.toRowW.claim.post args (.bool true) args=true:=
 postW_of (r:=l.row.toRowW) (X:=(true==true))
  (show WShape.has [] (.bool true) .bool=true by first | rfl | decide | simp[WShape.has,WShape.arms,WShape.armsAll])
  (show(WTm.eq .res (.lit (.bool true))).value [] {args:=args,res:=some (.bool true),after:=args}=some (.bool (true==true))from w_eq_bool (w_res rfl) w_lit) rfl
theorem attach_call{l:OpenLaw}{n:Nat}{q:Program}{loose:List Str}{XP:(Str→Option Value)→Heap→Prop}{YP:World→Heap→Prop}{d:DefRec}(hn:l.most=some n)(hdf:d.params.defaults=[])(call:∀(w:World) (s₀ s₁:Shared) (mg mb:Str→Option Value) (fa:Addr) (o:Obj) (pm cd doc:Value) (a:Addr) (vs:List Value) (ns:List Int),
   Ground q loose [] XP w s₀ mg mb s₁.heap→YP w s₁.heap→
   s₁.heap.get? fa=some o→o.data=.func (docDef d.name d.params d.body d.scope pm cd doc)→s₁.heap.CodeRec cd d.name→mg d.name=some (.ref fa)→
   s₁.heap.get? a=some {cls:=.type "list",data:=.seq vs.toArray}→IntsAre vs ns→ns.length≤n→s₁.gens=#[]→
   codeAny (model l.prog w) callerA (.call (.ref fa) ⟨[.ref a],[]⟩) (fun r s'=>r=.ok (.ret (.bool true))∧OldK s₁.heap s'.heap∧s'.os=s₁.os∧AllBare s'.gens) s₁):
  WalkO q loose XP YP l.row.toRowW d [] (fun f vs=>PySem.call f vs):=by
 intro w s₀ s₁ mg mb G Y fa o pm cd doc dV kV ho hd hcd hD hmg hg args vals as hpre hlay hrd hwl hlo;obtain rfl:dV=.none:=Dflts.none hD hdf;obtain rfl:kV=.none:=Dflts.noKw hD;obtain⟨a,vs,ns,rfl,rfl,hobj,hints,AG⟩:=mT hn hpre hwl;refine enter_call (Aj (call w s₀ s₁ mg mb fa o pm cd doc a vs ns G Y ho (fd_plain hd) hcd hmg hobj hints AG hg) fun r s' hq=>?_);obtain⟨rfl,h2,h3,h4⟩:=hq;exact⟨.inl ⟨.bool true,.bool true,[],rfl,fun _=>rfl,.bool true,mq l _,fun _=>⟨List.Pairwise.nil,fun _ hm=>(nomatch hm)⟩⟩,h2,h3,h4⟩
section
variable{prog:Program}{w:World}{A:Around}{E:Value→Shared→Prop}{s:Shared}{K:Frag}
end
end Att
namespace L2
open PySem PySem.Spec PyProof.Rows
theorem Sr:∀{vs:List Value}{ns:List Int},IntsAre vs ns→Vals (ns.map V.int) vs
 |_,_,.nil=>.nil
 |_,_,.cons n t h=>.cons ⟨t,rfl⟩ (Sr h)
end L2
namespace L2
open PySem PySem.Spec PyProof.Rows
def aB(s:Stmt):Arguments:=match s with
 |.FunctionDef _ a _ _ _ _ _ _ _ _=>a
 |_=>{posonlyargs:=[],args:=[],vararg:=none,kwonlyargs:=[],kw_defaults:=[],kwarg:=none,defaults:=[]}
def aA(s:Stmt):List Stmt:=match s with
 |.FunctionDef _ _ b _ _ _ _ _ _ _=>b
 |_=>[]
def aa(s:Stmt):Scope:=match s with
 |.FunctionDef _ _ _ _ _ _ sc _ _ _=>sc
 |_=>{kind:=.function,names:=[],isGenerator:=false,isCoroutine:=false}
abbrev CX0:CXT:=fun _ _ _ _ _ _=>False
abbrev E0:XK:=fun _ _ _=>False
theorem wB{X:Cx}:jo CX0 X E0:=fun _ _ _ _ _ _ _ h=>h.elim
structure Fun(K:W.Frag)(x qual:Str)(st:Stmt)(f:Addr)(fd:FuncData):Prop where
 ex:∃(oc:Value)(od:Option Addr)(kV doc pm:Value)(an:Option Addr)(cdv ct:Value)(osl:Array (Option Value)),
  fd=W.fnOf x qual (aB st) (aA st) (aa st) .none kV doc pm an cdv ct∧K.lookup f=some ⟨oc,od,.func fd,osl⟩∧W.codeIn K cdv qual=true
 kp:W.keepIn K (.ref f)=true
section
variable{P:Program}{w:World}{K:W.Frag}{mg:Str→Option Value}{base:Heap}
theorem Fun.ok{x qual:Str}{st:Stmt}{f:Addr}{fd:FuncData}{N ps:List Str}{k:Nat}{sp:Sp}(F:Fun K x qual st f fd)(S:FnScope N ps (aa st))(len:∀vs H Q E,sp vs H Q E→vs.length=ps.length)(hbody:∀(cdv:Value) (A:Around) (outer:List Env) (s:Shared) (H:Hp) (vs:List V) (Q:VK) (E:XK),Room k (A.deeper (envOfC qual (aa st) s.heap.objs.size f cdv))→sp vs H Q E→
   ∃t,PSs (lO CX0 P w K mg base N qual (aa st) f cdv A outer s H E).nox (aA st) t∧t {nx:=fun _ H'=>Q .non H',rt:=Q} (cJ N vs) H):FnOk P w K mg base CX0 (k+1) f fd ps sp:=by
 obtain⟨oc,od,kV,doc,pm,an,cdv,ct,osl,rfl,lk,hcd⟩:=F.ex;refine pB lk hcd S len fun A outer s H vs Q E hr hsp=>?_;obtain⟨t,h,q⟩:=hbody cdv A outer s H vs Q E hr hsp;exact⟨t,h.nox,q⟩
theorem Fun.binds{x qual:Str}{st:Stmt}{f:Addr}{fd:FuncData}{ps:List Str}(F:Fun K x qual st f fd)(h:∀(kV doc pm:Value) (an:Option Addr) (cdv ct:Value) (us:List Value),us.length=ps.length→bindArgs (W.fnOf x qual (aB st) (aA st) (aa st) .none kV doc pm an cdv ct) ⟨us,[]⟩=pure (ps.zip us)):Binds K fd ps []:=by
 obtain⟨oc,od,kV,doc,pm,an,cdv,ct,osl,rfl,lk,hcd⟩:=F.ex;exact .all (h kV doc pm an cdv ct)
theorem fX{x qual:Str}{st:Stmt}{f:Addr}{oc:Value}{od an:Option Addr}{osl:Array (Option Value)}{kV doc pm cdv ct:Value}(l:K.lookup f=some ⟨oc,od,.func (W.fnOf x qual (aB st) (aA st) (aa st) .none kV doc pm an cdv ct),osl⟩)(c:W.codeIn K cdv qual=true)(k:W.keepIn K (.ref f)=true):Fun K x qual st f (W.fnOf x qual (aB st) (aA st) (aa st) .none kV doc pm an cdv ct):=⟨⟨oc,od,kV,doc,pm,an,cdv,ct,osl,rfl,l,c⟩,k⟩
end
theorem Yg{A:Around}{k:Nat}(hr:Room k A):A.units+1<cLine:=Nat.lt_of_le_of_lt (Nat.add_le_add_left (by decide:1≤64) _) hr.units
section
variable{X:Cx}
theorem pv(i:Nat){x:Str}{pos:Pos}(hN:X.N[i]?=some x:=by rfl)(hv:Vis X.env.scope x:=by first | exact Or.inl rfl | exact Or.inr (Or.inl rfl) | exact Or.inr (Or.inr rfl))(hd:(x==("__debug__":Str))=false:=by decide)(hcd:(x==("__classdict__":Str))=false:=by decide):PE X (.Name x pos) (vD i):=pQ hN hv hd hcd
end
theorem Xe{A B:Prop}(h:B):if false=true then A else B:=by
 rw[xz xK];exact h
theorem U1{A B:Prop}(h:A):if true=true then A else B:=by
 rw[xC rfl];exact h
theorem Xf{c A B:Prop}[Decidable c](h1:c→A)(h2:¬c→B):if c then A else B:=by
 by_cases h:c
 ·rw[xC h];exact h1 h
 ·rw[xz h];exact h2 h
def Same(H H':Hp):Prop:=∀b o,H b=some o→H' b=some o
theorem Same.refl(H:Hp):Same H H:=fun _ _ h=>h
theorem Same.trans{H H1 H2:Hp}(a:Same H H1)(b:Same H1 H2):Same H H2:=fun c o h=>b c o (a c o h)
theorem Same.free{H H':Hp}(e:Same H H'){l:Addr}(h:H' l=Option.none):H l=Option.none:=by
 cases q:H l with
 |none=>rfl
 |some o=>
  rw[e l o q]at h;cases h
end L2
set_option maxHeartbeats 4000000
set_option bootstrap.genMatcherCode false
set_option genInjectivity false
set_option genSizeOf false
noncomputable section
namespace L2
open PySem PySem.Spec PyProof.Rows
theorem P9{α β:Type}{f:α→β→Sem (ForInStep β)}{g:β→α→β}:∀(l:List α)(c:β),(∀x∈l,∀c,f x c=pure (.yield (g c x)))→forIn l c f=pure (l.foldl g c)
 | [],_,_=>rfl
 |x::l,c,h=>by
  rw[List.forIn_cons,h x yj,pure_bind];exact P9 l (g c x) fun y hy=>h y (yq _ hy)
def aX(env:Env)(AE:List (Str×Addr))(x:Str×NameKind):List (Str×Addr):=if x.2==.free then(x.1,(env.cells.lookup x.1).getD 0)::AE else AE
def aG(env:Env)(names:List (Str×NameKind)):List (Str×Addr):=names.foldl (aX env) []
theorem T4{scope:Scope}{env:Env}(h:∀x∈scope.names,x.2=.free→∃c,env.cells.lookup x.1=some c):closureFor scope env=pure (aG env scope.names):=by
 simp only[closureFor];rw[P9 (g:=aX env) scope.names [] (fun x hx c=>by
  obtain⟨n,kind⟩:=x;by_cases hk:kind=.free
  ·subst hk;obtain⟨a,ha⟩:=h _ hx rfl;have ha':env.cells.lookup n=some a:=ha;simp[aX,cellOf,ha']
  ·have hb:(kind==NameKind.free)=false:=by simpa using hk
   simp[aX,hb])]
 rfl
theorem Ux{env:Env}:∀(names:List (Str×NameKind))(AE:List (Str×Addr)),(∀x∈names,x.2=.free→∃c,env.cells.lookup x.1=some c)→(∀p∈AE,env.cells.lookup p.1=some p.2)→
  ∀p∈names.foldl (aX env) AE,env.cells.lookup p.1=some p.2
 | [],_,_,h=>h
 |x::r,AE,hn,h=>by
  refine Ux r _ (fun y hy=>hn y (yq _ hy)) ?_;intro p hp;unfold aX at hp
  split at hp
  ·rename_i hk
   rcases xQ.mp hp with e | e
   ·subst e;obtain⟨c,hc⟩:=hn x List.mem_cons_self (by simpa using hk);show env.cells.lookup x.1=some ((env.cells.lookup x.1).getD 0);rw[hc];rfl
   ·exact h p e
  ·exact h p hp
theorem Oi{env:Env}:∀(names:List (Str×NameKind))(AE:List (Str×Addr))(p:Str×Addr),p∈AE→p∈names.foldl (aX env) AE
 | [],_,_,h=>h
 |x::r,AE,p,h=>by
  refine Oi r _ p ?_;unfold aX
  split
  ·exact yq _ h
  ·exact h
theorem Wq{env:Env}:∀(names:List (Str×NameKind))(AE:List (Str×Addr))(x:Str),(x,NameKind.free)∈names→∃c,(x,c)∈names.foldl (aX env) AE
 |y::r,AE,x,h=>by
  rcases xQ.mp h with e | e
  ·subst e;exact⟨_,Oi r _ _ (by unfold aX;rw[xC (by rfl)];exact yj)⟩
  ·exact Wq r _ x e
theorem X6{α:Type}:∀{l:List (Str×α)}{x:Str}{c:α},(x,c)∈l→∃d,l.lookup x=some d
 | (y,d)::r,x,c,h=>by
  rw[zW];cases e:x==y with
  |true=>exact⟨d,rfl⟩
  |false=>
   rcases xQ.mp h with q | q
   ·cases q;rw[beq_self_eq_true]at e;cases e
   ·exact X6 q
theorem Wv(env:Env):∀(names:List (Str×NameKind))(x:Str),(names.map fun(n,k)=>if (k==NameKind.free && env.scope.kind==.function && env.kindOf n==some .cell) then(n,NameKind.cell) else(n,k)).lookup x =
  (names.lookup x).map fun k=>if (k==NameKind.free && env.scope.kind==.function && env.kindOf x==some .cell)then NameKind.cell else k
 | [],_=>rfl
 | (n,k)::r,x=>by
  have ih:=Wv env r x;show List.lookup x ((if (k==NameKind.free && env.scope.kind==.function && env.kindOf n==some .cell)=true then(n,NameKind.cell) else(n,k))::_)=_;have hr:((n,k)::r).lookup x=(match x==n with | true=>some k | false=>r.lookup x):=zW ..;rw[hr];by_cases hc:(k==NameKind.free && env.scope.kind==.function && env.kindOf n==some .cell)=true
  ·rw[xC hc,zW];cases hx:x==n with
   |true=>
    have e:x=n:=eq_of_beq hx;subst e;show some NameKind.cell=some (if (k==NameKind.free && env.scope.kind==.function && env.kindOf x==some .cell)=true then NameKind.cell else k);rw[xC hc]
   |false=>exact ih
  ·rw[xz hc,zW];cases hx:x==n with
   |true=>
    have e:x=n:=eq_of_beq hx;subst e;show some k=some (if (k==NameKind.free && env.scope.kind==.function && env.kindOf x==some .cell)=true then NameKind.cell else k);rw[xz hc]
   |false=>exact ih
def cxC(X:Cx)(own:List Str)(scope:Scope)(cl:List (Str×Addr))(C:Addr)(s:Shared)(H:Hp)(fp:List Addr):Cx:=
 {X with N:=own++X.N,s₀:=s,H₀:=H,env:=compEnvC scope cl C X.env,outer:=X.stack,stack:=X.stack,ex:=fp,fn:=fun _=>false,xe:=fun _ _=>False}
def PTs(X:Cx)(ifs:List Expr)(t:TT):Prop:=
 ∀(As:List (Addr×Obj))(s:Shared)(σ:St)(H:Hp)(Q:Bool→Hp→Prop),Inv X As σ H s→t σ H Q→
  wpAny (model X.prog X.w) X.A (forIn ifs true fun c r=>if r=true then do let ok ←isTrue c X.env (eval c X.env);pure (ForInStep.yield ok)else pure (ForInStep.yield r)) (TP X As σ Q) X.xe s
def tAll:TT:=fun _ H Q=>Q true H
theorem We{X:Cx}:PTs X [] tAll:=fun _ _ _ H _ I h=>wpAny_tests_nil ⟨H,I,h⟩
theorem S4{X:Cx}{c:Expr}{t:TT}(h:PT X c t):PTs X [c] t:=fun As s σ H Q I q=>wpAny_tests_one (h As s σ H Q I q)
def Wk:St→St→Prop
 | [],[]=>True
 |_::r,none::t=>Wk r t
 |a::r,some v::t=>a=some v∧Wk r t
 |_,_=>False
theorem Wk.len:∀{a b:St},Wk a b→b.length=a.length
 | [],[],_=>rfl
 |_::r,none::t,h=>yP (·+1) (Wk.len (a:=r) (b:=t) h)
 |_::r,some _::t,h=>yP (·+1) (Wk.len (a:=r) (b:=t) h.2)
 | [],none::_,h=>h.elim
 | [],some _::_,h=>h.elim
 |_::_,[],h=>h.elim
theorem Wk.get:∀{a b:St}(i:Nat)(v:V),Wk a b→b[i]?=some (some v)→a[i]?=some (some v)
 |_::_,none::_,0,v,_,e=>by simp at e
 |_::_,some _::_,0,v,h,e=>by simp at e⊢;rw[h.1,e]
 |_::r,none::t,i+1,v,h,e=>by simp at e⊢;exact Wk.get (a:=r) (b:=t) i v h e
 |_::r,some _::t,i+1,v,h,e=>by simp at e⊢;exact Wk.get (a:=r) (b:=t) i v h.2 e
 | [],[],i,v,h,e=>by simp at e
 | [],none::_,_,_,h,_=>h.elim
 | [],some _::_,_,_,h,_=>h.elim
 |_::_,[],_,_,h,_=>h.elim
theorem Wk.refl:∀(a:St),Wk a a
 | []=>trivial
 |none::r=>Wk.refl r
 |some _::r=>⟨rfl,Wk.refl r⟩
def CompR(J:It)(H:Hp)(k:Nat)(g:TG)(tt:TT)(te:TE)(σ:St)(Q:VK):Prop:=∃W:Nat→Nat→List V→Hp→Prop,(∃m,W 0 m [] H)∧∀i m ys H,W i m ys H→
 (J.stop i H∧ys.length≤sizeLine∧∀p,H p=none→Q (.ref p) (upd H p (.lst ys)))∨
 (J.go i H∧ys.length<sizeLine∧∀x H',J.yld i H x H'→g x (List.replicate k none++σ) H' fun σ2 H2=>Wk σ2 (List.replicate k none++σ)∧tt σ2 H2 fun ok H3=>
  if ok=true then te σ2 H3 fun y H4=>∃m',m'<m∧W (i+1) m' (ys++[y]) H4 else ∃m',m'<m∧W (i+1) m' ys H3)
def gU(wi:TI)(g:TG)(tt:TT)(te:TE)(k:Nat):TE:=fun σ H Q=>wi σ H fun J H1=>CompR J H1 k g tt te σ Q
theorem ge{prog:Program}{w:World}{A:Around}{R:Result→Shared→Prop}{s:Shared}{elt target iter:Expr}{ifs:List Expr}{scope:Scope}{pos:Pos}{it AE:Value}{env:Env}(I:Nat→Shared→Prop)(turn:∀n s,I n s→wpAny (model prog w) A (pyNext it) (fun r s₁=>match r with
   |none=>R (.ok .next) s₁
   |some v=>wpAny (model prog w) A (letOwnedTupleGo target it v) (fun _ s₁'=>wpAny (model prog w) A (assign target env v) (fun _ s₂=>
     wpAny (model prog w) A (forIn ifs true fun c r=>if r=true then do let ok ←isTrue c env (eval c env);pure (ForInStep.yield ok)else pure (ForInStep.yield r)) (fun ok s₃=>
      if ok=true then wpAny (model prog w) A (eval elt env) (fun x s₄=>
       wpAny (model prog w) A (call (.builtin "list.append") [AE,x]) (fun _ s₅=>∃m,m<n∧I m s₅) (fun _ _=>False) s₄) (fun _ _=>False) s₃
      else ∃m,m<n∧I m s₃) (fun _ _=>False) s₂) (fun _ _=>False) s₁') (fun _ _=>False) s₁) (fun _ _=>False) s)(n:Nat)(h:I n s):
  codeAny (model prog w) A (.compLoop (.ListComp elt [⟨target,iter,ifs,0⟩] scope pos) 0 it AE env) R s:=by
 refine codeAny_loop rfl I (fun n s hI=>?_) n h;show wpAny _ A ((compTurn (.ListComp elt [⟨target,iter,ifs,0⟩] scope pos) 0 it AE env).onRaise (fun x=>do noteFrame x env;theTreesLotGoes x)) _ _ s;refine wpAny_noted ?_;rw[compTurn_list];refine ae (wpAny_standAt (ae (yN (turn n s hI) (fun r s₁ h₁=>?_) fun _ _ h'=>h'.elim)));cases r with
 |none=>exact pi h₁
 |some v=>
  refine ae (yN h₁ (fun _ s₁' h₁'=>?_) fun _ _ h'=>h'.elim);refine ae (yN h₁' (fun _ s₂ h₂=>ae (yN h₂ (fun ok s₃ h₃=>?_) fun _ _ h'=>h'.elim)) fun _ _ h'=>h'.elim);cases ok with
  |false=>exact pi ⟨rfl,h₃⟩
  |true=>
   exact ae (ae (yN h₃ (fun x s₄ h₄=>ae (yN h₄ (fun _ s₅ h₅=>pi (pi ⟨rfl,h₅⟩)) fun _ _ h'=>h'.elim)) fun _ _ h'=>h'.elim))
abbrev lo(its:List Value)(n:Nat):Obj:={cls:=.type "list",data:=.seq its.toArray n}
structure TurnP(Pc:Cx→Prop)(P:Program)(w:World)(K:W.Frag)(tg:Expr)(J:It)(fp:List Addr)(it:Addr)(tn:Nat→Heap→Prop):Prop where
 obj:∀i h,tn i h→∀b∈fp,∃o,h.get? b=some o∧∀v,o.data≠.cell v
 keep:∀i h h',tn i h→(∀b∈fp,∀o,h.get? b=some o→h'.get? b=some o)→tn i h'
 item:∀(X:Cx),X.prog=P→X.w=w→X.K=K→Pc X→∀(i:Nat)(As:List (Addr×Obj))(s:Shared)(σ:St)(H:Hp)(E:Value→Shared→Prop),Inv X As σ H s→(∀b∈fp,de X As H b)→tn i s.heap→J.go i H→
  wpAny (model P w) X.A (pyNext (.ref it)) (fun r s1=>∃u,r=some u∧
   wpAny (model P w) X.A (letOwnedTupleGo tg (.ref it) u) (fun _ s2=>∃x H',Inv X As σ H' s2∧RelV x u∧J.yld i H x H'∧tn (i+1) s2.heap∧∀b∈fp,H' b=none) E s1) E s
 done:∀(X:Cx),X.prog=P→X.w=w→X.K=K→Pc X→∀(i:Nat)(As:List (Addr×Obj))(s:Shared)(σ:St)(H:Hp)(E:Value→Shared→Prop),Inv X As σ H s→(∀b∈fp,de X As H b)→tn i s.heap→J.stop i H→
  wpAny (model P w) X.A (pyNext (.ref it)) (fun r s1=>r=none∧Inv X As σ H s1) E s
 self:∀(A:Around)(i:Nat)(s:Shared)(Q:Value→Shared→Prop)(E:Value→Shared→Prop),tn i s.heap→Q (.ref it) s→wpAny (model P w) A (pyIter (.ref it)) Q E s
def PIP(Pc:Cx→Prop)(X:Cx)(tg iter:Expr)(wi:TI):Prop:=
 ∀(As:List (Addr×Obj))(s:Shared)(σ:St)(H:Hp)(R:It→Hp→Prop),Inv X As σ H s→wi σ H R→
  wpAny (model X.prog X.w) X.A (eval iter X.env) (fun v s1=>wpAny (model X.prog X.w) X.A (pyIter v) (fun itv s2=>∃(it:Addr)(fp:List Addr)(tn:Nat→Heap→Prop)(J:It)(H':Hp),itv=.ref it∧Inv X As σ H' s2∧TurnP Pc X.prog X.w X.K tg J fp it tn∧tn 0 s2.heap∧(∀b∈fp,de X As H' b)∧R J H') X.xe s1) X.xe s
theorem PI.p{X:Cx}{tg iter:Expr}{wi:TI}(h:PI X tg iter wi):PIP (fun X=>X.calm=true) X tg iter wi:=fun As s σ H R I q=>yN (h As s σ H R I q) (fun v s1 h1=>yN h1 (fun itv s2 ⟨it,fp,tn,J,H',e,I',T,t0,f,r⟩=>⟨it,fp,tn,J,H',e,I',⟨T.obj,T.keep,T.item,T.done,T.self⟩,t0,f,r⟩) fun _ _ z=>z) fun _ _ z=>z
structure CompOk(X:Cx)(own:List Str)(scope:Scope):Prop where
 cell:∀y∈scope.names,y.2≠.cell
 kind:scope.kind=.function
 names:∀y∈scope.names,y.2=.local→scope.names.lookup y.1=some .local
 fr:∀y∈scope.names,y.2=.free→X.env.scope.names.lookup y.1=some .cell∨X.env.scope.names.lookup y.1=some .free
 loc:∀y∈X.N,scope.names.lookup y≠some .local
def jq(names:List (Str×NameKind)):Bool:=names.all fun y=>(y.2 != .cell) && (y.2 != .local || names.lookup y.1==some .local)
def js(outer names:List (Str×NameKind)):Bool:=names.all fun y=>y.2 != .free || outer.lookup y.1==some .cell || outer.lookup y.1==some .free
def jw(N:List Str)(names:List (Str×NameKind)):Bool:=N.all fun y=>names.lookup y != some .local
theorem CompOk.of{X:Cx}{own:List Str}{scope:Scope}(hc:X.calm=X.calm)(hk:scope.kind=.function)(h1:jq scope.names=true)(h2:js X.env.scope.names scope.names=true)(h3:jw X.N scope.names=true):CompOk X own scope:=by
 unfold jq at h1;unfold js at h2;unfold jw at h3;rw[yr]at h1 h2 h3;refine⟨fun y hy=>?_,hk,fun y hy hl=>?_,fun y hy hf=>?_,fun y hy=>?_⟩
 ·have:=h1 y hy;rw[ye]at this;exact bne_iff_ne.mp this.1
 ·have:=h1 y hy;rw[ye,hl]at this;simpa using this.2
 ·have:=h2 y hy;rw[hf]at this;simpa using this
 ·exact bne_iff_ne.mp (h3 y hy)
section
variable{X:Cx}{own:List Str}{scope:Scope}{As:List (Addr×Obj)}{σ:St}{H:Hp}{s:Shared}{fp:List Addr}
theorem CompOk.cells(O:CompOk X own scope)(ok:X.Ok):∀x∈scope.names,x.2=.free→∃c,X.env.cells.lookup x.1=some c:=fun x hx hk=>ok.has x.1 (O.fr x hx hk)
theorem CompOk.sub(O:CompOk X own scope)(ok:X.Ok):∀x c,(aG X.env scope.names).lookup x=some c→X.env.cells.lookup x=some c:=fun x c e=>
 Ux scope.names [] (O.cells ok) (fun _ h=>nomatch h) (x,c) (x4 e)
theorem CompOk.free_of(O:CompOk X own scope){cl:List (Str×Addr)}{C:Addr}{x:Str}(h:(compEnvC scope cl C X.env).kindOf x=some .cell∨(compEnvC scope cl C X.env).kindOf x=some .free):scope.names.lookup x=some .free:=by
 have e:(compEnvC scope cl C X.env).kindOf x=(scope.names.lookup x).map fun k=>if (k==NameKind.free && X.env.scope.kind==.function && X.env.kindOf x==some .cell)then NameKind.cell else k:=Wv X.env scope.names x
 rw[e]at h;cases q:scope.names.lookup x with
 |none=>rw[q]at h;simp at h
 |some k=>
  rw[q]at h;by_cases hk:k=.free
  ·rw[hk]
  ·have hc:k≠.cell:=O.cell (x,k) (x4 q);have hb:(k==NameKind.free)=false:=by simpa using hk
   have hr:¬((k==NameKind.free && X.env.scope.kind==.function && X.env.kindOf x==some .cell)=true):=by rw[hb];exact xK
   have h:some (if (k==NameKind.free && X.env.scope.kind==.function && X.env.kindOf x==some .cell)=true then NameKind.cell else k)=some NameKind.cell∨some (if (k==NameKind.free && X.env.scope.kind==.function && X.env.kindOf x==some .cell)=true then NameKind.cell else k)=some NameKind.free:=h;rw[xz hr]at h
   rcases h with h | h
   ·exact absurd (xV h) hc
   ·exact absurd (xV h) hk
theorem CompOk.look(O:CompOk X own scope)(ok:X.Ok){x:Str}(h:scope.names.lookup x=some .free):∃c,(aG X.env scope.names).lookup x=some c∧X.env.cells.lookup x=some c:=by
 obtain⟨c,hc⟩:=Wq scope.names [] (env:=X.env) x (x4 h);obtain⟨d,hd⟩:=X6 hc;exact⟨d,hd,O.sub ok x d hd⟩
theorem iU(I:Inv X As σ H s){b:Addr}(h1:b≠X.env.locals)(h2:b∉X.fs):b∉frs X.stack:=fun z=>(xQ.mp (I.stkSub b z)).elim h1 h2
theorem nM(O:CompOk X own scope)(I:Inv X As σ H s)(hf:∀b∈fp,de X As H b)(ho:∀b∈fp,∃o,s.heap.get? b=some o){h₁:Heap}{C:Addr}{tk:Nat}{m:Str→Option Value}(hC:s.heap.objs.size<C)(hD:h₁.get? s.heap.objs.size=some (lo [] 0))(old:∀b o,s.heap.get? b=some o→h₁.get? b=some o)(hns:h₁.Ns C m):
  Inv (cxC X own scope (aG X.env scope.names) C s H fp) (As++[(s.heap.objs.size,lo [] 0)]) (List.replicate own.length none++σ) H {s with heap:=h₁,toks:=tk}:=by
 have ltD:∀{b:Addr}{o:Obj},s.heap.get? b=some o→b<s.heap.objs.size:=fun e=>xG e;have nC:∀{b:Addr}{o:Obj},s.heap.get? b=some o→b≠C:=fun e=>xM (y8 (ltD e) hC);have hsub:=O.sub I.ok;refine⟨⟨I.ok.mod,by show(relabel scope X.env).kind=_;exact O.kind,I.ok.glob,I.ok.blt,zw hC,fun x y c h1 h2=>I.ok.inj x y c (hsub x c h1) (hsub y c h2),fun x hx=>?_,fun x c hx _=>absurd (show false=true from hx) xK,I.ok.hd,I.ok.frames,.inl rfl,fun b hb=>⟨?_,fun x c e=>?_⟩,I.bs,yi I.ok.bsz I.sz,fun b o e hb=>?_,fun b hb=>iU I (hf b hb).2.1 (hf b hb).2.2.1,I.stack,I.stkFree⟩,
  rfl,I.bare,Un.kept old,⟨m,hns,fun i x v e1 e2 e3=>?_⟩,fun x c e=>?_,I.hok.fresh (zw hC),fun x c e=>I.freeC x c (hsub x c e),fun p hp=>?_,I.hok.kept old,?_⟩
 ·obtain⟨c,hc,_⟩:=O.look I.ok (O.free_of hx);exact⟨c,hc⟩
 ·obtain⟨o,e⟩:=ho b hb;exact nC e
 ·exact(hf b hb).2.2.2.2.1 x c (hsub x c e)
 ·rcases(hf b hb).2.2.2.1 with z | z
  ·exact I.ok.noex b o e z
  ·exact absurd (xS (xG e) (yi I.ok.bsz z)) (y9 _)
 ·have e1:(own++X.N)[i]?=some x:=e1;by_cases hi:i<own.length
  ·rw[List.getElem?_append_left (by simpa using hi),List.getElem?_replicate,if_pos hi]at e2;cases e2
  ·rw[List.getElem?_append_right (by simpa using hi),List.length_replicate]at e2;rw[List.getElem?_append_right (by simpa using hi)]at e1;have nl:(compEnvC scope (aG X.env scope.names) C X.env).kindOf x≠some .local:=by
    have e:(compEnvC scope (aG X.env scope.names) C X.env).kindOf x=(scope.names.lookup x).map fun k=>if (k==NameKind.free && X.env.scope.kind==.function && X.env.kindOf x==some .cell)then NameKind.cell else k:=Wv X.env scope.names x
    rw[e];intro z;cases q:scope.names.lookup x with
    |none=>rw[q]at z;simp at z
    |some k=>
     rw[q]at z;by_cases hk:k=.local
     ·exact O.loc x (xT e1) (by rw[q,hk])
     ·have z:some (if (k==NameKind.free && X.env.scope.kind==.function && X.env.kindOf x==some .cell)=true then NameKind.cell else k)=some NameKind.local:=z;by_cases hc:(k==NameKind.free && X.env.scope.kind==.function && X.env.kindOf x==some .cell)=true
      ·rw[xC hc]at z;cases z
      ·rw[xz hc]at z;exact hk (xV z)
   have hv:(compEnvC scope (aG X.env scope.names) C X.env).kindOf x=some .cell∨(compEnvC scope (aG X.env scope.names) C X.env).kindOf x=some .free:=by
    rcases e3 with z | z | z
    ·exact absurd z nl
    ·exact .inl z
    ·exact .inr z
   have hfree:=O.free_of hv;have hout:=O.fr (x,.free) (x4 hfree) rfl;obtain⟨m0,hn0,hl0⟩:=I.loc;obtain⟨u,r,l⟩:=hl0 _ x v e1 e2 (hout.elim (fun z=>.inr (.inl z)) fun z=>.inr (.inr z));refine⟨u,r,.inr ⟨hv,?_⟩⟩
   rcases l with⟨k,_⟩|⟨_,c,ec,z⟩
   ·have k':X.env.scope.names.lookup x=some .local:=k
    rcases hout with q | q
    ·rw[q]at k';cases k'
    ·rw[q]at k';cases k'
   ·obtain⟨d,hd1,hd2⟩:=O.look I.ok hfree;rw[ec]at hd2;cases hd2;obtain⟨oc,hoc,hdc⟩:=z;exact⟨c,hd1,oc,old _ _ hoc,hdc⟩
 ·obtain⟨v,o,hoc,hdc⟩:=I.cell x c (hsub x c e);exact⟨v,o,old _ _ hoc,hdc⟩
 ·have hp:p∈X.pn++(As++[(s.heap.objs.size,lo [] 0)]):=hp;rw[←yL]at hp
  rcases xR.mp hp with hp | hp
  ·obtain⟨e,n,ne,nf,d⟩:=I.pin p hp;exact⟨old _ _ e,n,nC e,iU I ne nf,d⟩
  ·cases xF.mp hp;refine⟨hD,I.hok.fresh (xA _),xM hC,fun z=>?_,fun v z=>by cases z⟩;have z:=I.stkSub _ z
   rcases xQ.mp z with z | z
   ·exact absurd z (yD I.lt)
   ·exact I.nofs (xA _) z
 ·show(List.replicate own.length none++σ).length=(own++X.N).length;rw[xE,xE,List.length_replicate,I.len]
theorem Of{cl:List (Str×Addr)}{C:Addr}{its:List Value}{n:Nat}{σ':St}{H':Hp}{s':Shared}{ys:List V}{h':Heap}(I:Inv X As σ H s)(hf:∀b∈fp,de X As H b)(hC:s.heap.objs.size<C)(I':Inv (cxC X own scope cl C s H fp) (As++[(s.heap.objs.size,lo its n)]) σ' H' s')(hv:Vals ys its)(hz:ys.length≤sizeLine)(hs:Heap.SameBut C s'.heap h'):
  Inv X As σ (upd H' s.heap.objs.size (.lst ys)) {s' with heap:=h'}:=by
 obtain⟨eD,nD,neD,_,_⟩:=I'.pin (s.heap.objs.size,lo its n) (xP _ (xP _ yj));have nC:∀{b:Addr}{o:Obj},s.heap.get? b=some o→b≠C:=fun e=>xM (y8 (xG e) hC);have nDD:∀{b:Addr}{o:Obj},s.heap.get? b=some o→b≠s.heap.objs.size:=fun e=>xM (xG e);have same:∀{b:Addr}{o:Obj},b≠C→s'.heap.get? b=some o→h'.get? b=some o:=fun hb e=>(hs.2 _ hb).trans e;have fC:H' C=none:=I'.free;have hb:Un (frs X.stack) fp H H' s.heap s'.heap:=I'.base;have hot:∀{b:Addr}{u:HO},H b=some u→b≠s.heap.objs.size:=fun e=>xM (I.hok.lt e);refine I.call' (s':={s' with heap:=h'}) (ch:=fp) I'.os ⟨fun b o e q n1 n2=>same (nC e) (hb.keep b o e q n1 n2),fun b o e q n1 n2=>?_,fun b o e q n2=>?_,fun b o e n2=>?_,fun b xs e=>?_,fun b o u e=>?_,fun b ps e=>?_⟩ ?_ I'.bare fun b hb'=>?_
 ·obtain⟨sl,q2⟩:=hb.slot b o e q n1 n2;exact⟨sl,same (nC e) q2⟩
 ·rw[Za (nDD e)];exact hb.free b o e q n2
 ·obtain⟨o',q2⟩:=hb.there b o e n2;exact⟨o',same (nC e) q2⟩
 ·rw[Za (hot e)];exact hb.tups b xs e
 ·rw[Za (hot e)];exact hb.frzs b o u e
 ·obtain⟨more,q2⟩:=hb.tbls b ps e;exact⟨more,by rw[Za (hot e)];exact q2⟩
 ·intro b u e;by_cases hbD:b=s.heap.objs.size
  ·subst hbD;rw[Z2]at e;cases e;exact⟨hz,its,n,hv,same neD eD⟩
  ·rw[Za hbD]at e;have nD':∀{c:Addr}{w:HO},H' c=some w→c≠s.heap.objs.size:=fun q z=>by
    rw[z]at q;have z2:H' s.heap.objs.size=none:=nD;rw[z2]at q;cases q
   refine(I'.hok b u e).stay (fun c v hc q=>same ?_ q) (fun c q=>by rw[Za (nD' q)];exact q) fun c xs q=>by rw[Za (nD' q)];exact q
   rintro rfl
   rcases hc with z | z
   ·rw[←z,fC]at e;cases e
   ·rw[fC]at z;cases z
 ·obtain⟨_,f1,_,f3,f4,f5⟩:=hf b hb';exact⟨f3,f1,f4,f5⟩
theorem iQ{prog:Program}{w:World}{A:Around}{E:Value→Shared→Prop}{s:Shared}{l:Addr}{its:List Value}{n:Nat}{u:Value}{Q:Value→Shared→Prop}(e:s.heap.get? l=some (lo its n))(hz:its.length≤sizeLine)(h:Q .none {s with heap:=s.heap.update l (Obj.mapSeq (·.push u))}):wpAny (model prog w) A (call (.builtin "list.append") [.ref l,u]) Q E s:=
 Aq F.slot_list_append ⟨_,e,rfl⟩ F.entry_list_append (F.args_list_append_2 _ _) (PySem.list_append l its.toArray n u (by rw[xU];omega)) ⟨e,h⟩
theorem Og{tg iter elt:Expr}{ifs:List Expr}{pos pos0:Pos}{wi:TI}{g:TG}{tt:TT}{te:TE}{use:Option (Value→Sem Unit)}{Qp:Value→Shared→Prop}{Pc:Cx→Prop}(hpc:∀cl C s H fp,Pc (cxC X own scope cl C s H fp))(O:CompOk X own scope)(hi:PIP Pc X tg iter wi)(hg:∀cl C s H fp,PG (cxC X own scope cl C s H fp) tg g)(ht:∀cl C s H fp,PTs (cxC X own scope cl C s H fp) ifs tt)(he:∀cl C s H fp,PE (cxC X own scope cl C s H fp) elt te)(hs:∀x,foldedSetIterable iter X.env x=pure x){As:List (Addr×Obj)}{s:Shared}{σ:St}{H:Hp}{Q:VK}(I:Inv X As σ H s)(h:gU wi g tt te own.length σ H Q)(fin:∀(s2:Shared) (H2:Hp) (fp:List Addr) (C:Addr) (cl:List (Str×Addr)) (its:List Value) (nn:Nat) (σ':St) (H':Hp) (s5:Shared) (ys:List V),Inv X As σ H2 s2→(∀b∈fp,de X As H2 b)→s2.heap.objs.size<C→
   Inv (cxC X own scope cl C s2 H2 fp) (As++[(s2.heap.objs.size,lo its nn)]) σ' H' s5→Vals ys its→ys.length≤sizeLine→(∀p,H' p=none→Q (.ref p) (upd H' p (.lst ys)))→
   compPost (model X.prog X.w) X.A X.xe use Qp (.ref s2.heap.objs.size) C (.ok .next) s5):
  wpAny (model X.prog X.w) X.A (comprehension (.ListComp elt [⟨tg,iter,ifs,0⟩] scope pos) scope X.env pos0 (newList []) false (eval iter X.env) use) Qp X.xe s:=by
 refine wpAny_comprehension_free (use:=use) rfl hs (T4 (O.cells I.ok)) O.kind O.names (thn (hi As s σ H _ I h) fun v s1 h1=>thn h1 fun itv s2 h2=>?_);obtain⟨it,fp,tn,J,H2,rfl,I2,T,st2,f2,W,⟨m0,w0⟩,turn⟩:=h2;refine wpAny_newObj_type (wpAny_newFunctionEnv O.cell (by intro y hy;simp at hy) (fun h₁ hns₁ hsb₁=>?_) O.kind);dsimp only at hns₁ hsb₁ ⊢;generalize hH2:s2.heap.push {cls:=.type "list",dict:=none,data:=.seq ([]:List Value).toArray}=Hh at hns₁ hsb₁ ⊢;have hCs:Hh.objs.size=s2.heap.objs.size+1:=by rw[←hH2,Heap.size_push]
 have hC:s2.heap.objs.size<Hh.objs.size:=by rw[hCs];exact Nat.lt_succ_self _
 have old:∀b o,s2.heap.get? b=some o→h₁.get? b=some o:=fun b o e=>hsb₁.extBut b o (xM (y8 (xG e) hC)) (io _ (hH2 ▸ io _ e));have hacc:h₁.get? s2.heap.objs.size=some (lo [] 0):=hsb₁.extBut _ _ (xM hC) (io _ (hH2 ▸ xO _ rfl));have hob:∀b∈fp,∃o,s2.heap.get? b=some o:=fun b hb=>let ⟨o,e,_⟩:=T.obj _ _ st2 b hb;⟨o,e⟩
 have st3:tn 0 h₁:=T.keep _ _ _ st2 fun b _ o e=>old b o e;have pinlt:∀p∈X.pn++As,p.1<s2.heap.objs.size:=fun p hp=>xG (I2.pin p hp).1;have loop:∀s₃:Shared,s₃={s2 with heap:=h₁,toks:=s2.toks+([]:List (Str×Value)).length}→
   codeAny (model X.prog X.w) X.A (.compLoop (.ListComp elt [⟨tg,iter,ifs,0⟩] scope pos) 0 (.ref it) (.ref s2.heap.objs.size) (compEnvC scope (aG X.env scope.names) Hh.objs.size X.env))
    (compPost (model X.prog X.w) X.A X.xe use Qp (.ref s2.heap.objs.size) Hh.objs.size) s₃:=by
  rintro s₃ rfl;have I3:=nM (tk:=s2.toks+([]:List (Str×Value)).length) O I2 f2 hob hC hacc old hns₁;have stat:∀{o:Obj}{H':Hp},(∀b∈fp,H' b=none)→∀b∈fp,de (cxC X own scope (aG X.env scope.names) Hh.objs.size s2 H2 fp) (As++[(s2.heap.objs.size,o)]) H' b:=fun{o H'} hn b hb=>by
   obtain⟨o',eo⟩:=hob b hb;refine⟨hn b hb,xM (y8 (xG eo) hC),iU I2 (f2 b hb).2.1 (f2 b hb).2.2.1,.inl hb,fun x c e=>(f2 b hb).2.2.2.2.1 x c (O.sub I2.ok x c e),fun p hp=>?_⟩;have hp:p∈X.pn++(As++[(s2.heap.objs.size,o)]):=hp;rw[←yL]at hp
   rcases xR.mp hp with hp | hp
   ·exact(f2 b hb).2.2.2.2.2 p hp
   ·cases xF.mp hp;exact yD (xG eo)
  refine ge (fun n s'=>∃i ys its nn σ' H',Inv (cxC X own scope (aG X.env scope.names) Hh.objs.size s2 H2 fp) (As++[(s2.heap.objs.size,lo its nn)]) σ' H' s'∧Wk σ' (List.replicate own.length none++σ)∧tn i s'.heap∧(∀b∈fp,H' b=none)∧Vals ys its∧W i n ys H')
   ?_ m0 ⟨0,[],[],0,_,H2,I3,Wk.refl _,st3,fun b hb=>(f2 b hb).1,.nil,w0⟩
  rintro n s4 ⟨i,ys,its,nn,σ4,H4,I4',wk4,st4,fr4,vs4,w4⟩;have I4:=I4'.weak (σ':=List.replicate own.length none++σ) wk4.len (fun i v=>wk4.get i v)
  rcases turn i n ys H4 w4 with⟨stop,hz,qn⟩|⟨go,hz,step⟩
  ·refine thn (T.done (cxC X own scope (aG X.env scope.names) Hh.objs.size s2 H2 fp) rfl rfl rfl (hpc _ _ _ _ _) i _ s4 _ H4 (fun _ _=>False) I4 (stat fr4) st4 stop) fun r s5 At=>?_;obtain⟨hr,I5⟩:=At;subst hr;exact fin s2 H2 fp Hh.objs.size _ its nn _ H4 s5 ys I2 f2 hC I5 vs4 hz qn
  ·refine thn (T.item (cxC X own scope (aG X.env scope.names) Hh.objs.size s2 H2 fp) rfl rfl rfl (hpc _ _ _ _ _) i _ s4 _ H4 (fun _ _=>False) I4 (stat fr4) st4 go) fun r s5 At=>?_;obtain⟨u,hr,h5⟩:=At;subst hr;refine thn h5 fun _ s6 At=>?_;obtain⟨x,H6,I6,r6,y6,st6,fr6⟩:=At;have I6':=I6.pinned (stat fr6) (T.obj _ _ st6);refine thn (hg _ _ _ _ _ _ s6 _ H6 x u _ I6' r6 (step x H6 y6)) fun _ s7 At=>?_;obtain⟨σ7,H7,I7,wk7,q7⟩:=At;refine thn (ht _ _ _ _ _ _ s7 σ7 H7 _ I7 q7) fun ok s8 At=>?_;obtain⟨H8,I8,q8⟩:=At;have again:∀{σ9:St}{H9:Hp}{s9:Shared},Inv (cxC X own scope (aG X.env scope.names) Hh.objs.size s2 H2 fp) ((As++[(s2.heap.objs.size,lo its nn)])++dZ fp s6.heap) σ9 H9 s9→tn (i+1) s9.heap∧∀b∈fp,H9 b=none:=fun{σ9 H9 s9} I9=>
    ⟨T.keep _ _ _ st6 fun b hb o e=>(I9.pin (b,o) (xP _ (xP _ (Vz hb e)))).1,fun b hb=>by
     obtain⟨o,e,d⟩:=T.obj _ _ st6 b hb;exact(I9.pin (b,o) (xP _ (xP _ (Vz hb e)))).2.1⟩
   cases ok with
   |false=>
    rw[xz xK]at q8⊢;obtain⟨m',hm,w8⟩:=q8;obtain⟨a1,a2⟩:=again I8;exact⟨m',hm,i+1,ys,its,nn,σ7,H8,I8.unpinned,wk7,a1,a2,vs4,w8⟩
   |true=>
    rw[xC rfl]at q8⊢;refine thn (he _ _ _ _ _ _ s8 σ7 H8 _ I8 q8) fun yv s9 At=>?_;obtain⟨y,H9,I9,r9,m',hm,w9⟩:=At;obtain⟨a1,a2⟩:=again I9;obtain⟨eD,nD,neD,nfD,_⟩:=I9.pin (s2.heap.objs.size,lo its nn) (xP _ (yC _ (xP _ yj)));have AG:=vs4.length;refine iQ eD (by omega) ?_;have upd9:=PySem.IsL.update (l:=s2.heap.objs.size) eD (·.push yv);have uother:∀b o,b≠s2.heap.objs.size→s9.heap.get? b=some o→(s9.heap.update s2.heap.objs.size (Obj.mapSeq (·.push yv))).get? b=some o:=fun b o hb e=>(yW s9.heap (Obj.mapSeq (·.push yv)) (Ne.symm hb)).trans e;have I9a:Inv (cxC X own scope (aG X.env scope.names) Hh.objs.size s2 H2 fp) As σ7 H9 s9:=I9.unpinned.unpinned;have I9b:Inv (cxC X own scope (aG X.env scope.names) Hh.objs.size s2 H2 fp) As σ7 H9 {s9 with heap:=s9.heap.update s2.heap.objs.size (Obj.mapSeq (·.push yv))}:=
     I9a.turned (t':=s9.toks) uother nD neD (.inr (xA _)) (fun x c e z=>by
      obtain⟨v,o,hoc,_⟩:=I2.cell x c (O.sub I2.ok x c e);exact absurd z (xM (xG hoc))) fun p hp=>xM (pinlt p hp)
    have e2:(its.toArray.push yv)=(its++[yv]).toArray:=by simp
    have upd9':∃n2,(s9.heap.update s2.heap.objs.size (Obj.mapSeq (·.push yv))).get? s2.heap.objs.size=some (lo (its++[yv]) n2):=⟨_,by rw[upd9,e2]⟩;obtain⟨n2,upd9'⟩:=upd9';have I9c:=I9b.pins_of (pins':=As++[(s2.heap.objs.size,lo (its++[yv]) n2)]) fun p hp=>by
     rcases xR.mp hp with hp | hp
     ·exact I9b.pin p (xP _ hp)
     ·cases xF.mp hp;exact⟨upd9',nD,neD,nfD,fun v z=>by cases z⟩
    refine⟨m',hm,i+1,ys++[y],its++[yv],n2,σ7,H9,I9c,wk7,T.keep _ _ _ a1 fun b hb o e=>uother b o ?_ e,a2,vs4.append (.cons r9 .nil),w9⟩;obtain⟨o',eo⟩:=hob b hb;exact xM (xG eo)
 exact codeAny_compStart_list (loop _ rfl) (T.self _ 0 _ _ _ st3 (loop _ rfl))
theorem pe_compP{Pc:Cx→Prop}{tg iter elt:Expr}{ifs:List Expr}{pos:Pos}{wi:TI}{g:TG}{tt:TT}{te:TE}(hpc:∀cl C s H fp,Pc (cxC X own scope cl C s H fp))(O:CompOk X own scope)(hi:PIP Pc X tg iter wi)(hg:∀cl C s H fp,PG (cxC X own scope cl C s H fp) tg g)(ht:∀cl C s H fp,PTs (cxC X own scope cl C s H fp) ifs tt)(he:∀cl C s H fp,PE (cxC X own scope cl C s H fp) elt te)(hs:∀x,foldedSetIterable iter X.env x=pure x:=by intro _;rfl):
  PE X (.ListComp elt [⟨tg,iter,ifs,0⟩] scope pos) (gU wi g tt te own.length):=by
 intro As s σ H Q I h;rw[eval_ListComp];refine Og hpc O hi hg ht he hs I h fun s2 H2 fp C cl its nn σ' H' s5 ys I2 f2 hC I5 vs hz qn=>?_;obtain⟨mm,hnm,_⟩:=I5.loc;exact⟨mm,hnm,fun h' hs'=>⟨.ref s2.heap.objs.size,_,Of I2 f2 hC I5 vs hz hs',rfl,qn _ (I5.pin (s2.heap.objs.size,lo its nn) (xP _ (xP _ yj))).2.1⟩⟩
theorem Xw{tg iter elt:Expr}{ifs:List Expr}{pos:Pos}{wi:TI}{g:TG}{tt:TT}{te:TE}(O:CompOk X own scope)(hi:PI X tg iter wi)(hg:∀cl C s H fp,PG (cxC X own scope cl C s H fp) tg g)(ht:∀cl C s H fp,PTs (cxC X own scope cl C s H fp) ifs tt)(he:∀cl C s H fp,PE (cxC X own scope cl C s H fp) elt te)(hs:∀x,foldedSetIterable iter X.env x=pure x:=by intro _;rfl)(hc:X.calm=true:=by rfl):
  PE X (.ListComp elt [⟨tg,iter,ifs,0⟩] scope pos) (gU wi g tt te own.length):=
 pe_compP (Pc:=fun X=>X.calm=true) (fun _ _ _ _ _=>hc) O hi.p hg ht he hs
theorem ps_setCP{Pc:Cx→Prop}{i:Nat}{x:Str}{tg iter elt:Expr}{ifs:List Expr}{pos pos' cpos:Pos}{wi:TI}{g:TG}{tt:TT}{te:TE}(hN:X.N.Nodup)(hix:X.N[i]?=some x)(hl:X.env.scope.names.lookup x=some .local)(hpc:∀cl C s H fp,Pc (cxC X own scope cl C s H fp))(O:CompOk X own scope)(hi:PIP Pc X tg iter wi)(hg:∀cl C s H fp,PG (cxC X own scope cl C s H fp) tg g)(ht:∀cl C s H fp,PTs (cxC X own scope cl C s H fp) ifs tt)(he:∀cl C s H fp,PE (cxC X own scope cl C s H fp) elt te)(hs:∀x,foldedSetIterable iter X.env x=pure x:=by intro _;rfl)(hsw:swapsWith (.ListComp elt [⟨tg,iter,ifs,0⟩] scope cpos) (some (.Name x pos')) pos.line X.env=pure true:=by rfl):
  PS X (.Assign [.Name x pos'] (.ListComp elt [⟨tg,iter,ifs,0⟩] scope cpos) pos) (pT (gU wi g tt te own.length) (gk i)):=by
 intro As s σ H D I h;rw[exec_Assign_Name_used _ _ _ _ hsw];refine ae (wpAny_standAt (ae (m:=evalThenUse _ X.env _) ?_));show wpAny _ _ (comprehension (.ListComp elt [⟨tg,iter,ifs,0⟩] scope cpos) scope X.env _ (newList []) false (eval iter X.env) (some (assign (.Name x pos') X.env)) >>= fun _=>_) _ _ s;refine ae (thn (Og (Qp:=fun _ s'=>SP X As D .next s') hpc O hi hg ht he hs I h fun s2 H2 fp C cl its nn σ' H' s5 ys I2 f2 hC I5 vs hz qn=>?_) fun _ s' hq=>pi (pi hq));have Ix:Inv X As σ (upd H' s2.heap.objs.size (.lst ys)) s5:=Of I2 f2 hC I5 vs hz (Heap.SameBut.refl _ _);obtain⟨mm,hnm,_⟩:=I5.loc;have fC:H' C=none:=I5.free;have nCD:C≠s2.heap.objs.size:=yD hC;refine wpAny_assign_Name (O0 (v:=.ref s2.heap.objs.size) Ix hN hix (.inl hl) rfl (fun s6 I6 sb=>?_) (.inr hl));obtain⟨a,sb,ha⟩:=sb;have nLC:X.env.locals≠C:=xM (y8 I2.lt hC);have cC:∀y c,X.env.cells.lookup y=some c→c≠C:=fun y c e=>by
  obtain⟨v,o,ho,_⟩:=I2.cell y c e;exact xM (y8 (xG ho) hC)
 have naC:C≠a:=by
  rcases ha with rfl | ha
  ·exact Ne.symm nLC
  ·exact Ne.symm (cC x a ha)
 refine⟨mm,hnm.sameBut sb naC,fun h' hs'=>⟨_,_,I6.turned (t':=s6.toks) (fun b o hb e=>(hs'.2 b hb).trans e) (by rw[Za nCD];exact fC) (Ne.symm nLC) (.inr (yi I2.sz (zw hC))) cC (fun p hp=>xM (y8 (xG (I2.pin p hp).1) hC)),qn _ (I5.pin (s2.heap.objs.size,lo its nn) (xP _ (xP _ yj))).2.1⟩⟩
theorem N8{i:Nat}{x:Str}{tg iter elt:Expr}{ifs:List Expr}{pos pos' cpos:Pos}{wi:TI}{g:TG}{tt:TT}{te:TE}(hN:X.N.Nodup)(hix:X.N[i]?=some x)(hl:X.env.scope.names.lookup x=some .local)(O:CompOk X own scope)(hi:PI X tg iter wi)(hg:∀cl C s H fp,PG (cxC X own scope cl C s H fp) tg g)(ht:∀cl C s H fp,PTs (cxC X own scope cl C s H fp) ifs tt)(he:∀cl C s H fp,PE (cxC X own scope cl C s H fp) elt te)(hs:∀x,foldedSetIterable iter X.env x=pure x:=by intro _;rfl)(hsw:swapsWith (.ListComp elt [⟨tg,iter,ifs,0⟩] scope cpos) (some (.Name x pos')) pos.line X.env=pure true:=by rfl)(hc:X.calm=true:=by rfl):
  PS X (.Assign [.Name x pos'] (.ListComp elt [⟨tg,iter,ifs,0⟩] scope cpos) pos) (pT (gU wi g tt te own.length) (gk i)):=
 ps_setCP (Pc:=fun X=>X.calm=true) hN hix hl (fun _ _ _ _ _=>hc) O hi.p hg ht he hs hsw
end
section
variable{X:Cx}{pos:Pos}
theorem V0(K:W.Frag)(n:Nat){es:List Expr}{k:Nat}{t:TGs}(hK:X.K=K)(hc:X.calm=true)(h:PGs X es t)(hn:(assignEach es X.env).length=n:=by rfl)(hst:(assignEach es X.env).findIdx? (·.1)=none:=by rfl):PG X (.Tuple es k pos) (vV K n t):=by
 subst hK;exact Y6 hc h hn hst
theorem fQ(K:W.Frag)(hK:X.K=K):IxR X (wC K):=by subst hK;exact Xc
end
mutual
inductive DV(H:Hp):V→PyData→Prop
 |non:DV H .non .none
 |bl (b:Bool):DV H (.bl b) (.bool b)
 |int (i:Int):DV H (.int i) (.int i)
 |str (x:Str):DV H (.str x) (.str x)
 |lst {a:Addr} {xs:List V} {ds:List PyData}:H a=some (.lst xs)→DVs H xs ds→DV H (.ref a) (.list ds)
 |tup {a:Addr} {xs:List V} {ds:List PyData}:H a=some (.tup xs)→DVs H xs ds→DV H (.ref a) (.tuple ds)
inductive DVs(H:Hp):List V→List PyData→Prop
 |nil:DVs H [] []
 |cons {v:V} {vs:List V} {d:PyData} {ds:List PyData}:DV H v d→DVs H vs ds→DVs H (v::vs) (d::ds)
end
mutual
theorem DV.mono{H H':Hp}(g:Same H H'):∀{v:V}{d:PyData},DV H v d→DV H' v d
 |_,_,.non=>.non
 |_,_,.bl b=>.bl b
 |_,_,.int i=>.int i
 |_,_,.str x=>.str x
 |_,_,.lst e r=>.lst (g _ _ e) (DVs.mono g r)
 |_,_,.tup e r=>.tup (g _ _ e) (DVs.mono g r)
theorem DVs.mono{H H':Hp}(g:Same H H'):∀{vs:List V}{ds:List PyData},DVs H vs ds→DVs H' vs ds
 |_,_,.nil=>.nil
 |_,_,.cons h r=>.cons (DV.mono g h) (DVs.mono g r)
end
theorem DVs.length{H:Hp}:∀{vs:List V}{ds:List PyData},DVs H vs ds→vs.length=ds.length
 |_,_,.nil=>rfl
 |_,_,.cons _ r=>yP (·+1) r.length
theorem DVs.append{H:Hp}:∀{vs ws:List V}{ds es:List PyData},DVs H vs ds→DVs H ws es→DVs H (vs++ws) (ds++es)
 |_,_,_,_,.nil,s=>s
 |_,_,_,_,.cons h r,s=>.cons h (DVs.append r s)
theorem DVs.getV{H:Hp}:∀{vs:List V}{ds:List PyData}{i:Nat}{v:V},DVs H vs ds→vs[i]?=some v→∃d,ds[i]?=some d∧DV H v d
 |_,_,_,_,.nil,e=>by simp at e
 |_,_,0,_,.cons h _,e=>by simp at e;subst e;exact⟨_,rfl,h⟩
 |_,_,i+1,d,.cons _ r,e=>by
  obtain⟨v,h1,h2⟩:=DVs.getV (i:=i) (v:=d) r (by simpa using e);exact⟨v,by simpa using h1,h2⟩
section
variable{X:Cx}{As:List (Addr×Obj)}{σ:St}{H:Hp}{s:Shared}
mutual
theorem DV.reads(I:Inv X As σ H s):∀{v:V}{d:PyData}{u:Value},DV H v d→RelV v u→∃as,Reads s.heap u d as
 |_,_,_,.non,r=>by cases r;exact⟨_,Reads.none⟩
 |_,_,_,.bl b,r=>by cases r;exact⟨_,Reads.bool b⟩
 |_,_,_,.int i,r=>by obtain⟨t,rfl⟩:=r;exact⟨_,Reads.int i t⟩
 |_,_,_,.str x,r=>by obtain⟨t,rfl⟩:=r;exact⟨_,Reads.str x t⟩
 |_,_,_,.lst e q,r=>by
  cases r;obtain⟨its,n,rv,ho,_⟩:=I.lst e;obtain⟨as,p⟩:=DVs.reads I q rv;exact⟨_,reads_list_at ho rfl rfl (by simpa using p)⟩
 |_,_,_,.tup e q,r=>by
  cases r;obtain⟨its,rv,⟨o,ho,hc,n,hd⟩,_⟩:=I.tuple (SqT.of e);obtain⟨as,p⟩:=DVs.reads I q rv;exact⟨_,reads_tuple_at ho hc hd (by simpa using p)⟩
theorem DVs.reads(I:Inv X As σ H s):∀{vs:List V}{ds:List PyData}{us:List Value},DVs H vs ds→Vals vs us→∃as,ReadsAll s.heap us ds as
 |_,_,_,.nil,r=>by cases r;exact⟨_,ReadsAll.nil⟩
 |_,_,_,.cons h t,r=>by
  cases r with
  |cons r1 r2=>
   obtain⟨as,p⟩:=DV.reads I h r1;obtain⟨bs,q⟩:=DVs.reads I t r2;exact⟨_,ReadsAll.cons p q⟩
end
end
def rEqD:R2:=fun x y H Q=>∃d e,DV H x d∧DV H y e∧SeqAt.shaped d=true∧SeqAt.shaped e=true∧Q (.bl (PyData.eqv d e)) H
def rNeD:R2:=fun x y H Q=>∃d e,DV H x d∧DV H y e∧SeqAt.shaped d=true∧SeqAt.shaped e=true∧Q (.bl (!PyData.eqv d e)) H
section
variable{X:Cx}
theorem vp(hu:X.A.units+64<cLine):OpR X (compareOp .Eq) rEqD:=by
 intro As s σ H x y v u Q I rx ry h;obtain⟨d,e,h1,h2,s1,s2,q⟩:=h;obtain⟨as,p1⟩:=h1.reads I rx;obtain⟨bs,p2⟩:=h2.reads I ry;exact eq_dataH p1 p2 s1 s2 hu ⟨.bl _,H,I,rfl,q⟩
theorem Nb(hu:X.A.units+64<cLine):OpR X (compareOp .NotEq) rNeD:=by
 intro As s σ H x y v u Q I rx ry h;obtain⟨d,e,h1,h2,s1,s2,q⟩:=h;obtain⟨as,p1⟩:=h1.reads I rx;obtain⟨bs,p2⟩:=h2.reads I ry;exact ne_dataH p1 p2 s1 s2 hu ⟨.bl _,H,I,rfl,q⟩
def rIs(K:W.Frag):List V→Hp→VK→Prop:=fun xs H Q=>∃x t T b,xs=[x,.ty T]∧TyOf K H x t∧W.kitOne K t (.type T)=some b∧Q (.bl b) H
theorem V4:bE X (.builtin "isinstance") (rIs X.K):=by
 intro As s σ H xs us Q I r h;obtain⟨x,t,T,b,rfl,ty,e,q⟩:=h;obtain⟨u,w',rfl,ru,rt⟩:=m8 r;cases (show w'=Value.type T from rt);exact mi I ru ty e fun tk=>⟨.bl b,H,I.tok _,rfl,q⟩
def ud:V→List V→Hp→VK→Prop:=fun x vs H Q=>∃z y ps,x=.str z∧vs=[.str y]∧(decide (z.length<y.length) || decide (Builtin.Str.strKind z<Builtin.Str.strKind y))=false∧(y.length==0)=false∧
 (Builtin.Str.occurrences z y 0 z.length (z.length+1)).isEmpty=false∧z.length≤sizeLine∧Builtin.Str.partsBetween z (Builtin.Str.occurrences z y 0 z.length (z.length+1)) y.length=ps∧ps.length≤sizeLine∧∀l,H l=none→Q (.ref l) (upd H l (.lst (ps.map V.str)))
theorem Pz:∀(ps:List Str)(k:Nat),Vals (ps.map V.str) (strsFrom k ps)
 | [],_=>.nil
 |p::ps,k=>.cons ⟨_,rfl⟩ (Pz ps _)
theorem om:MtR X "str.split" ud:=by
 intro As s σ H x vs v us Q I rx rv h;obtain⟨z,y,ps,rfl,rfl,h1,h2,h3,h4,rfl,h5,q⟩:=h;obtain⟨t,rfl⟩:=rx;obtain⟨u,rfl,t',rfl⟩:=Wx rv;refine Aq F.slot_str_split (typeIs_str s z t) F.entry_str_split (F.args_str_split_2 _ _) (meets_str_split_sep z y t t' h1 h2 h3 h4 h5) ?_;refine⟨.ref s.heap.objs.size,_,I.laid (o:=.lst (_:List V)) (fun b ob q=>io _ q) (xA _) ⟨?_,_,0,Pz _ _,xO _ rfl⟩,rfl,q _ (I.hok.fresh (xA _))⟩;rw[az];exact h5
end
structure Has(P:Program)(w:World)(K:W.Frag)(mg:Str→Option Value)(base:Heap)(x:Str)(k:Nat)(ps:List Str)(sp:Sp):Prop where
 ex:∃f fd,FnOk P w K mg base CX0 k f fd ps sp∧Binds K fd ps []∧W.keepIn K (.ref f)=true∧mg x=some (.ref f)
section
variable{X:Cx}{j k:Nat}{ps:List Str}{sp:Sp}{x:Str}{p pos:Pos}{e:Expr}{es:List Expr}{t:TA}
theorem Z4(h:Has X.prog X.w X.K X.mg X.base x j ps sp)(hr:Room k X.A)(ha:PA X (e::es) t)(hg:Gl X x:=by rfl)(hj:j≤k:=by first | decide | omega)(hdb:(x==("__debug__":Str))=false:=by decide)(he:starEach (e::es) X.env=(false,eval e X.env)::starEach es X.env:=by rfl)(hpl:(backTo pos (starEach es X.env)).any (·.1)=false:=by rfl):
  PE X (.Call (.Name x p) (e::es) [] pos) (sJ sp [] E0 t):=by
 intro As s σ H Q I q;obtain⟨f,fd,F,b,kp,m⟩:=h.ex;refine rV (CX:=CX0) (E:=E0) (dvs:=[]) (F.mono hj) hr hg m kp b .nil ?_ ha hdb he hpl As s σ H Q I q;exact fun _ _ _ _ _ _ _ z=>z.elim
end
def au(a:Addr)(H:Hp):Hp:=fun b=>if b=a then none else H b
theorem Rb{a:Addr}{H:Hp}:au a H a=none:=by unfold au;rw[xC rfl]
theorem Zg{a b:Addr}{H:Hp}(h:b≠a):au a H b=H b:=by unfold au;rw[xz h]
theorem Zf{a b:Addr}{H:Hp}{o:HO}(h:au a H b=some o):b≠a∧H b=some o:=by
 unfold au at h;by_cases e:b=a
 ·rw[xC e]at h;cases h
 ·rw[xz e]at h;exact⟨e,h⟩
theorem Yi{a:Addr}{H:Hp}:Same (au a H) H:=fun _ _ h=>(Zf h).2
theorem Z6{H:Hp}{p:Addr}(h:H p=none)(o:HO):Same H (upd H p o):=fun b u q=>by rw[Za (Zd q h)];exact q
abbrev Grw(a:Addr)(H H':Hp):Prop:=Same (au a H) (au a H')
theorem Uj{a:Addr}{H H':Hp}{o:HO}(ha:H a=some o)(g:Same H H'):Grw a H H':=fun b u q=>by
 obtain⟨h1,h2⟩:=Zf q;rw[Zg h1];exact g b u h2
theorem X2{a:Addr}{H:Hp}{o:HO}:Grw a H (upd H a o):=fun b u q=>by
 obtain⟨h1,h2⟩:=Zf q;rw[Zg h1,Za h1];exact h2
theorem X4{a p:Addr}{H:Hp}{o:HO}(h:H p=none):Grw a H (upd H p o):=fun b u q=>by
 obtain⟨h1,h2⟩:=Zf q;rw[Zg h1,Za (Zd h2 h)];exact h2
def PenAt(H:Hp)(a:Addr):Prop:=∃p q r:Int,H a=some (.lst [.int p,.int q,.int r])
theorem PenAt.same{H H':Hp}{a:Addr}(h:PenAt H a)(g:Same H H'):PenAt H' a:=by
 obtain⟨p,q,r,e⟩:=h;exact⟨p,q,r,g _ _ e⟩
theorem PenAt.laid{H:Hp}{a p:Addr}{o:HO}(h:PenAt H a)(hp:H p=none):PenAt (upd H p o) a:=h.same (Z6 hp o)
theorem PenAt.ne{H:Hp}{a p:Addr}(h:PenAt H a)(hp:H p=none):p≠a:=by
 obtain⟨x,y,z,e⟩:=h;exact fun q=>by rw[q,e]at hp;cases hp
theorem Xv{j:Int}(h:decide (0<j)=true):0<j:=xH h
theorem ltI{i j:Int}(h:decide (i<j)=true):i<j:=xH h
theorem leI{i j:Int}(h:decide (i≤j)=true):i≤j:=xH h
theorem leN{i j:Nat}(h:decide (i≤j)=true):i≤j:=xH h
theorem sY{i j:Int}(h1:decide (0<j)=true)(h2:decide (j<1073741824)=true):wj i j:=⟨xH h1,xH h2⟩
theorem jA{i j:Int}(h1:decide (0≤j)=true)(h2:decide (j≤1000000)=true)(h3:decide (i.natAbs<2^64)=true):uP i j:=⟨xH h1,xH h2,xH h3⟩
theorem lw{i j:Int}(h1:decide (-(2^64)<i)=true)(h2:decide (i<2^64)=true):CMul i j:=Or.inl ⟨xH h1,xH h2⟩
theorem mulR{i j:Int}(h1:decide (-(2^64)<j)=true)(h2:decide (j<2^64)=true):CMul i j:=Or.inr ⟨xH h1,xH h2⟩
theorem vU(x m y:Int)(h0:decide (0<m)=true)(h1:decide (m<4294967296)=true):CMul (x % m) y:=by
 have h0:=xH h0;have h1:=xH h1;exact Or.inl ⟨by have:=z9 x (show m≠0 by omega);omega,by have:=z5 x h0;omega⟩
theorem oi(a b c:V):atI [a,b,c] 0=some a:=rfl
theorem sC(a b c:V):atI [a,b,c] 1=some b:=rfl
theorem j8(a b c:V):atI [a,b,c] 2=some c:=rfl
theorem e7{α:Type}{xs:List α}{i:Int}(h0:0≤i)(h1:i<xs.length):∃v,atI xs i=some v∧v∈xs:=by
 have hi:i.toNat<xs.length:=by omega
 have e:((i.toNat:Nat):Int)=i:=by omega
 refine⟨xs[i.toNat],?_,List.getElem_mem hi⟩;have q:=kH (xs:=xs) (j:=i.toNat) (v:=xs[i.toNat]) (yx hi);rw[e]at q;exact q
theorem at3{x y z:V}{d:Int}(h0:0≤d)(h1:d<3):∃v,atI [x,y,z] d=some v∧(v=x∨v=y∨v=z):=by
 obtain⟨v,h,m⟩:=e7 (xs:=[x,y,z]) h0 h1;exact⟨v,h,by simpa using m⟩
theorem Sh{a b:Addr}{H H':Hp}{o:HO}(g:Grw a H H')(hb:b≠a)(h:H b=some o):H' b=some o:=by
 have q:=g b o (by rw[Zg hb];exact h);exact(Zf q).2
theorem Zl{n:Nat}(h:n≤1000000):n≤sizeLine:=yi h (by decide)
theorem Zj{n:Nat}(h:n<1000000):n<sizeLine:=xS h (by decide)
theorem i_{lo:Int}{n k:Nat}{g:TG}{tt:TT}{te:TE}{σ:St}{H:Hp}{Q:VK}(Pv:Nat→List V→Hp→Prop)(h0:Pv 0 [] H)(hs:∀i ys H (C:List V→Hp→Prop),i<n→Pv i ys H→(∀ys' H',Pv (i+1) ys' H'→C ys' H')→ys.length<sizeLine∧g (.int (lo+i)) (List.replicate k none++σ) H fun σ2 H2=>Wk σ2 (List.replicate k none++σ)∧tt σ2 H2 fun ok H3=>
   if ok=true then te σ2 H3 fun y H4=>C (ys++[y]) H4 else C ys H3)(hd:∀ys H,Pv n ys H→ys.length≤sizeLine∧∀p,H p=none→Q (.ref p) (upd H p (.lst ys))):
  CompR (Itr lo n) H k g tt te σ Q:=by
 refine⟨fun i m ys H=>m=n-i∧i≤n∧Pv i ys H,⟨n,by simp,Nat.zero_le _,h0⟩,?_⟩;rintro i m ys H ⟨rfl,hi,p⟩;by_cases Ay:i<n
 ·have q:=hs i ys H (fun ys' H'=>∃m',m'<n-i∧m'=n-(i+1)∧i+1≤n∧Pv (i+1) ys' H') Ay p fun ys' H' p'=>⟨_,by omega,rfl,Ay,p'⟩;refine .inr ⟨Ay,q.1,fun x H' y=>?_⟩;obtain⟨e,y⟩:=y;subst e y;exact q.2
 ·have e:i=n:=by omega
  subst e;exact .inl ⟨xA _,hd ys H p⟩
theorem Wo{K:W.Frag}{a:Addr}{xs:List V}{k:Nat}{g:TG}{tt:TT}{te:TE}{σ:St}{H:Hp}{Q:VK}(Pv:Nat→List V→Hp→Prop)(h0:Pv 0 [] H)(hl:∀i ys H,i≤xs.length→Pv i ys H→SqL K H a xs)(hs:∀i x ys H (C:List V→Hp→Prop),xs[i]?=some x→Pv i ys H→(∀ys' H',Pv (i+1) ys' H'→C ys' H')→ys.length<sizeLine∧g x (List.replicate k none++σ) H fun σ2 H2=>Wk σ2 (List.replicate k none++σ)∧tt σ2 H2 fun ok H3=>
   if ok=true then te σ2 H3 fun y H4=>C (ys++[y]) H4 else C ys H3)(hd:∀ys H,Pv xs.length ys H→ys.length≤sizeLine∧∀p,H p=none→Q (.ref p) (upd H p (.lst ys))):
  CompR (Itl K a) H k g tt te σ Q:=by
 refine⟨fun i m ys H=>m=xs.length-i∧i≤xs.length∧Pv i ys H,⟨xs.length,by simp,Nat.zero_le _,h0⟩,?_⟩;rintro i m ys H ⟨rfl,hi,p⟩;have q:=hl i ys H hi p;by_cases Ay:i<xs.length
 ·have r:=hs i xs[i] ys H (fun ys' H'=>∃m',m'<xs.length-i∧m'=xs.length-(i+1)∧i+1≤xs.length∧Pv (i+1) ys' H') (by simp[Ay]) p fun ys' H' p'=>⟨_,by omega,rfl,Ay,p'⟩;refine .inr ⟨⟨xs,xs[i],q,by simp[Ay]⟩,r.1,fun x H' y=>?_⟩;obtain⟨e,y⟩:=y;subst e;have ex:xs[i]?=some x:=y xs q;have ex2:xs[i]=x:=by simpa [Ay] using ex
  rw[←ex2];exact r.2
 ·have e:i=xs.length:=by omega
  subst e;exact .inl ⟨⟨xs,q,xA _⟩,hd ys H p⟩
def wordA:Str:="q abcdefgh aq qa abcdefgi ea zz eaq abd abc e bcdefgh za "
def wordB:Str:="qae acb ae abcdefg z qq aea az abcd xabcd eae abce eq"
def words:List Str:=["q","abcdefgh","aq","qa","abcdefgi","ea","zz","eaq","abd","abc","e","bcdefgh","za","qae","acb","ae","abcdefg","z","qq","aea","az","abcd","xabcd","eae","abce","eq"]
theorem i4:Builtin.Str.partsBetween (wordA++wordB) (Builtin.Str.occurrences (wordA++wordB) " " 0 (wordA++wordB).length ((wordA++wordB).length+1)) (" ":Str).length=words:=by decide +kernel
theorem u7:(decide ((wordA++wordB).length<(" ":Str).length) || decide (Builtin.Str.strKind (wordA++wordB)<Builtin.Str.strKind " "))=false:=by decide +kernel
theorem uX:(((" ":Str).length==0)=false):=by decide +kernel
theorem uc:(Builtin.Str.occurrences (wordA++wordB) " " 0 (wordA++wordB).length ((wordA++wordB).length+1)).isEmpty=false:=by decide +kernel
theorem vf:(wordA++wordB).length≤sizeLine:=by decide +kernel
theorem qz:wordA.length+wordB.length≤sizeLine:=by decide +kernel
theorem nU:∀x∈words,PyData.strOk x=true:=by decide +kernel
structure Th where
 day:Int
 word:Str
 num:Int
 many:Int
def Th.D(t:Th):PyData:=.tuple [.int t.day,.str t.word,.int t.num,.int t.many]
def Th.vs(t:Th):List V:=[.int t.day,.str t.word,.int t.num,.int t.many]
structure Th.Ok(t:Th):Prop where
 day:0≤t.day
 word:t.word∈words
 num:0≤t.num
 many:1≤t.many
 numU:t.num<1073741824
 manyU:t.many≤1000000000
theorem Th.dv{H:Hp}{r:Addr}{t:Th}(h:H r=some (.tup t.vs)):DV H (.ref r) t.D:=.tup h (.cons (.int _) (.cons (.str _) (.cons (.int _) (.cons (.int _) .nil))))
inductive Tr where
 |leaf (ts:List Th)
 |node (l r:Tr)
abbrev aR(ts:List Th):PyData:=.list (ts.map Th.D)
def Tr.D:Tr→PyData
 |.leaf ts=>aR ts
 |.node l r=>.tuple [.str "merged",l.D,r.D]
def Tr.streams:Tr→List (List Th)
 |.leaf ts=>[ts]
 |.node l r=>l.streams++r.streams
def Tr.size:Tr→Nat
 |.leaf _=>1
 |.node l r=>l.size+r.size+1
def Tr.ht:Tr→Nat
 |.leaf _=>0
 |.node l r=>max l.ht r.ht+1
def Tr.all:Tr→List Th
 |.leaf ts=>ts
 |.node l r=>l.all++r.all
def Tr.Ok:Tr→Prop
 |.leaf ts=>∀t∈ts,t.Ok
 |.node l r=>l.Ok∧r.Ok
theorem Tr.size_pos:∀t:Tr,0<t.size
 |.leaf _=>Nat.zero_lt_one
 |.node _ _=>Nat.succ_pos _
theorem Tr.all_eq:∀t:Tr,t.all=t.streams.flatten
 |.leaf ts=>by simp[Tr.all,Tr.streams]
 |.node l r=>by
  show l.all++r.all=(l.streams++r.streams).flatten;rw[List.flatten_append,all_eq l,all_eq r]
theorem j3{α:Type}{f:α→PyData}{n:Nat}:∀(xs:List α),(∀x∈xs,(f x).canLay0=true∧(f x).depth≤n)→PyData.canLayAll0 (xs.map f)=true∧PyData.depthAll (xs.map f)≤n
 | [],_=>by simp[PyData.canLayAll0,PyData.depthAll]
 |x::xs,h=>by
  have h1:=h x yj;have h2:=j3 xs fun y hy=>h y (yq _ hy);rw[xD,PyData.canLayAll0,PyData.depthAll,h1.1,h2.1];exact⟨rfl,Nat.max_le.mpr ⟨h1.2,h2.2⟩⟩
theorem ic{α:Type}{f:α→PyData}{n:Nat}(xs:List α)(h:∀x∈xs,(f x).canLay0=true∧(f x).depth≤n):(PyData.list (xs.map f)).canLay0=true∧(PyData.list (xs.map f)).depth≤n+1:=by
 have q:=j3 xs h;rw[PyData.canLay0,PyData.depth];exact⟨q.1,Nat.succ_le_succ q.2⟩
theorem X5{d:PyData}{n:Nat}(h:d.canLay0=true∧d.depth≤n)(hn:n≤64):SeqAt.shaped d=true:=by
 unfold SeqAt.shaped;rw[h.1,Bool.true_and];exact xJ (yi h.2 hn)
theorem Pd{d:PyData}{n:Nat}(h:d.canLay0=true∧d.depth≤n):PyData.eqv d d=true:=SeqAt.eqv_refl d h.1
theorem kf(ds:List PyData):PyData.eqv (.list ds) (.list [])=ds.isEmpty:=by
 cases ds <;> simp[PyData.eqv,PyData.eqvAll]
theorem DV.list_inv{H:Hp}{v:V}{ds:List PyData}(h:DV H v (.list ds)):∃a xs,v=.ref a∧H a=some (.lst xs)∧DVs H xs ds:=by
 cases h with
 |lst e r=>exact⟨_,_,rfl,e,r⟩
theorem DV.tup_inv{H:Hp}{v:V}{ds:List PyData}(h:DV H v (.tuple ds)):∃a xs,v=.ref a∧H a=some (.tup xs)∧DVs H xs ds:=by
 cases h with
 |tup e r=>exact⟨_,_,rfl,e,r⟩
theorem DVs.cons_inv{H:Hp}{vs:List V}{d:PyData}{ds:List PyData}(h:DVs H vs (d::ds)):∃x r,vs=x::r∧DV H x d∧DVs H r ds:=by
 cases h with
 |cons a b=>exact⟨_,_,rfl,a,b⟩
theorem DVs.nil_inv{H:Hp}{vs:List V}(h:DVs H vs []):vs=[]:=by
 cases h with
 |nil=>rfl
theorem DV.node_inv{H:Hp}{v:V}{l r:Tr}(h:DV H v (Tr.node l r).D):∃a m x y,v=.ref a∧H a=some (.tup [m,x,y])∧DV H x l.D∧DV H y r.D:=by
 obtain⟨a,xs,rfl,e,q⟩:=DV.tup_inv h;obtain⟨m,r1,rfl,_,q1⟩:=q.cons_inv;obtain⟨x,r2,rfl,hx,q2⟩:=q1.cons_inv;obtain⟨y,r3,rfl,hy,q3⟩:=q2.cons_inv;have:=q3.nil_inv;subst this;exact⟨a,m,x,y,rfl,e,hx,hy⟩
theorem X8{H H':Hp}{a:Addr}{o:HO}(g:Same H H')(h:H a=none):Same H (upd H' a o):=fun b u q=>by rw[Za (Zd q h)];exact g b u q
theorem Has.of{P:Program}{w:World}{K:W.Frag}{mg:Str→Option Value}{base:Heap}{x:Str}{k:Nat}{ps:List Str}{sp:Sp}{f:Addr}{fd:FuncData}(F:FnOk P w K mg base CX0 k f fd ps sp)(b:Binds K fd ps [])(kp:W.keepIn K (.ref f)=true)(m:mg x=some (.ref f)):
  Has P w K mg base x k ps sp:=⟨f,fd,F,b,kp,m⟩
theorem qw{P:Program}{w:World}{K:W.Frag}{mg:Str→Option Value}{base:Heap}{k:Nat}{ps:List Str}{sp:Sp}{f:Addr}{fd:FuncData}(no:∀vs H Q E,¬sp vs H Q E):FnOk P w K mg base CX0 k f fd ps sp:=
 ⟨fun vs H Q E h=>absurd h (no vs H Q E),fun A outer s H args us vs Q E _ _ _ _ h=>absurd h (no vs H Q E)⟩
def xh(t T:String):Option Bool:=if (Value.type t==Value.type T)=true then some true else if W.kitMeta T=true then(PySem.fastBuiltinMro t).map (·.contains (.type T))else none
theorem j_{K:W.Frag}{t T:String}{b:Bool}(h:xh t T=some b):W.kitOne K (.type t) (.type T)=some b:=h
theorem iR{K:W.Frag}:W.kitOne K (.type "list") (.type "list")=some true:=j_ (by decide +kernel)
theorem ue{K:W.Frag}:W.kitOne K (.type "tuple") (.type "list")=some false:=j_ (by decide +kernel)
section
variable{X:Cx}
theorem k8{ns:List Int}{us:List Value}(r:Vals (ns.map V.int) us){i:Nat}{u:Value}(h:us[i]?=some u):∃t,u=.int (ns.getD i 0) t:=IntsAre.int_at (P4 r) i u h
theorem gR(hc:X.calm=true):bE X (.builtin "sum") (fun xs H Q=>∃(p:Addr)(ns:List Int),xs=[.ref p]∧SqL X.K H p (ns.map V.int)∧Q (.int ns.sum) H):=by
 intro As s σ H xs us Q I r h;obtain⟨p,ns,rfl,hq,q⟩:=h;obtain⟨u,rfl,ru⟩:=Wx r;cases ru;obtain⟨its,rv,pl,hz⟩:=I.list hq;have hl:=rv.length;rw[az]at hl;have Ay:p<s.heap.objs.size:=by
  obtain⟨o,n,e,_⟩:=pl;exact xG e
 refine call_sum_walkG (wpAny_pyIter_list pl.isList ?_);have hh:X.A.in1.handled=none:=by simpa using I.ok.hd hc
 refine⟨s.heap.objs.size,_,_,_,_,_,fun i=>ns.getD i 0,rfl,Walks.list hh _ p (xM Ay) its.toArray,⟨⟨_,xO _ rfl,rfl,rfl⟩,pl.isList.push _⟩,fun b hb=>?_,fun i v hv=>?_,fun h' tk t' kp=>?_⟩
 ·rw[Heap.size_push]
  rcases xQ.mp hb with e | e
  ·rw[e];exact Nat.lt_succ_self _
  ·rw[xF.mp e];exact Nat.lt_succ_of_lt Ay
 ·exact k8 rv (by simpa using hv)
 ·have e:preSum (fun i=>ns.getD i 0) its.toArray.size=ns.sum:=by
   rw[PyProof.Rows.preSum_getD,xU,←hl,xX]
  rw[e];refine⟨.int ns.sum,H,I.kept fun b o eb=>kp b o ?_ (io _ eb),⟨_,rfl⟩,q⟩;intro hb;rw[xF.mp hb]at eb;exact absurd (xG eb) (y9 _)
end
section
variable{prog:Program}{w:World}{A:Around}{R:Result→Shared→Prop}{I:Addr}{fp wr:List Addr}{n:Nat}{P:Nat→Value→Prop}{St:Nat→Heap→Prop}
end
variable{prog:Program}{w:World}{A:Around}{E:Value→Shared→Prop}{s:Shared}
section
variable{X:Cx}
end
theorem DV.th_inv{H:Hp}{v:V}{t:Th}(h:DV H v t.D):∃c,v=.ref c∧H c=some (.tup t.vs):=by
 obtain⟨c,xs,rfl,e,q⟩:=DV.tup_inv h;obtain⟨_,_,rfl,k1,q⟩:=q.cons_inv;obtain⟨_,_,rfl,k2,q⟩:=q.cons_inv;obtain⟨_,_,rfl,k3,q⟩:=q.cons_inv;obtain⟨_,_,rfl,k4,q⟩:=q.cons_inv;have:=q.nil_inv;subst this;cases k1;cases k2;cases k3;cases k4;exact⟨c,rfl,e⟩
theorem DVs.th_at{H:Hp}{xs:List V}{ts:List Th}{i:Nat}{x:V}(h:DVs H xs (ts.map Th.D))(hx:xs[i]?=some x):∃t c,ts[i]?=some t∧x=.ref c∧H c=some (.tup t.vs)∧t∈ts:=by
 obtain⟨d,hd,dv⟩:=DVs.getV h hx;rw[xZ]at hd;obtain⟨t,ht,rfl⟩:=yO.mp hd;obtain⟨c,rfl,e⟩:=DV.th_inv dv;exact⟨t,c,ht,rfl,e,xT ht⟩
theorem Zv{α:Type}{l:List α}{i:Nat}{x:α}(h:l[i]?=some x):l.take (i+1)=l.take i++[x]:=by rw[List.take_add_one,h];rfl
theorem gB{K:W.Frag}{a:Addr}{xs:List V}{ts:List Th}{k:Nat}{g:TG}{tt:TT}{te:TE}{σ:St}{H:Hp}{Q:VK}(p:Th→Bool)(f:Th→V)(e:H a=some (.lst xs))(dv:DVs H xs (ts.map Th.D))(hl:ts.length≤100000)(hs:∀(t:Th) (c:Addr) (ys:List V) (C:List V→Hp→Prop),t∈ts→H c=some (.tup t.vs)→(p t=true→C (ys++[f t]) H)→(p t=false→C ys H)→g (.ref c) (List.replicate k none++σ) H fun σ2 H2=>Wk σ2 (List.replicate k none++σ)∧tt σ2 H2 fun ok H3=>
   if ok=true then te σ2 H3 fun y H4=>C (ys++[y]) H4 else C ys H3)(hd:∀q,H q=none→Q (.ref q) (upd H q (.lst ((ts.filter p).map f)))):
  CompR (Itl K a) H k g tt te σ Q:=by
 have dl:=dv.length;rw[az]at dl;have le:∀i,(((ts.take i).filter p).map f).length≤100000:=fun i=>by
  rw[az];have h1:=yu p (ts.take i);rw[xW]at h1;omega
 refine Wo (xs:=xs) (fun i ys H'=>H'=H∧ys=((ts.take i).filter p).map f) ⟨rfl,rfl⟩ ?_ ?_ ?_
 ·rintro i ys H' _ ⟨rfl,_⟩;exact SqL.of e
 ·rintro i x ys H' C hx ⟨rfl,rfl⟩ hC;obtain⟨t,c,ht,rfl,ec,hm⟩:=DVs.th_at dv hx;refine⟨Zj (by have:=le i;omega),hs t c _ C hm ec (fun hp=>hC _ _ ⟨rfl,?_⟩) (fun hp=>hC _ _ ⟨rfl,?_⟩)⟩
  ·rw[Zv ht,z6,xN,yt,hp];rfl
  ·rw[Zv ht,z6,yt,hp];simp
 ·rintro ys H' ⟨rfl,rfl⟩;rw[dl,xX];refine⟨Zl (by have:=le ts.length;rw[xX]at this;omega),hd⟩
section
variable{κ:Type}[DecidableEq κ]
def bd(kvs:List (κ×V))(k:κ):Option V:=(kvs.find? fun kv=>decide (kv.1=k)).map (·.2)
def aF(kvs:List (κ×V))(k:κ)(v:V):List (κ×V):=
 if (kvs.any fun kv=>decide (kv.1=k))=true then kvs.map (fun kv=>if kv.1=k then(kv.1,v)else kv)else kvs++[(k,v)]
def b8(kvs:List (κ×V))(k:κ):List (κ×V):=kvs.filter fun kv=>decide (kv.1≠k)
theorem Ym{p:κ×V}{r:List (κ×V)}{k:κ}(e:p.1=k):bd (p::r) k=some p.2:=by simp[bd,List.find?_cons,e]
theorem Yc{p:κ×V}{r:List (κ×V)}{k:κ}(e:¬p.1=k):bd (p::r) k=bd r k:=by simp[bd,List.find?_cons,e]
theorem Vf(k:κ):∀kvs:List (κ×V),(kvs.any fun kv=>decide (kv.1=k))=(bd kvs k).isSome
 | []=>rfl
 |p::r=>by
  rw[List.any_cons];by_cases e:p.1=k
  ·simp only[Ym e,decide_eq_true e,Bool.true_or,Option.isSome_some]
  ·rw[Yc e,yh e,Bool.false_or];exact Vf k r
theorem gv(k j:κ)(y:V):∀kvs:List (κ×V),bd (kvs.map fun kv=>if kv.1=k then(kv.1,y)else kv) j=(bd kvs j).map fun x=>if j=k then y else x
 | []=>rfl
 |p::r=>by
  have ih:=gv k j y r;rw[xD];by_cases h:p.1=k
  ·rw[xC h];by_cases e:p.1=j
   ·rw[Ym (p:=(p.1,y)) e,Ym e,Option.map_some,xC (e.symm.trans h)]
   ·rw[Yc (p:=(p.1,y)) e,Yc e,ih]
  ·rw[xz h];by_cases e:p.1=j
   ·rw[Ym (p:=p) e,Ym e,Option.map_some,xz (fun z=>h (e.trans z))]
   ·rw[Yc (p:=p) e,Yc e,ih]
theorem Ps(k j:κ)(y:V):∀kvs:List (κ×V),bd kvs k=none→bd (kvs++[(k,y)]) j=if j=k then some y else bd kvs j
 | [],_=>by
  by_cases e:k=j
  ·rw[xC e.symm];exact Ym (p:=(k,y)) e
  ·rw[xz (fun z=>e z.symm)];exact Yc (p:=(k,y)) e
 |p::r,hn=>by
  rw[List.cons_append];have hk:¬p.1=k:=fun z=>by rw[Ym z]at hn;cases hn
  rw[Yc hk]at hn;have ih:=Ps k j y r hn;by_cases e:p.1=j
  ·rw[Ym e,Ym e,xz (fun z=>hk (e.trans z))]
  ·rw[Yc e,Yc e,ih]
theorem mX(kvs:List (κ×V))(k j:κ)(y:V):bd (aF kvs k y) j=if j=k then some y else bd kvs j:=by
 unfold aF;by_cases a:(kvs.any fun kv=>decide (kv.1=k))=true
 ·rw[xC a,gv];rw[Vf]at a;by_cases e:j=k
  ·obtain⟨x,hx⟩:=Option.isSome_iff_exists.mp a;rw[xC e,e,hx,Option.map_some,xC rfl]
  ·rw[xz e];cases bd kvs j with
   |none=>rfl
   |some x=>rw[Option.map_some,xz e]
 ·rw[xz a];refine Ps k j y kvs ?_;rw[Vf]at a;cases q:bd kvs k with
  |none=>rfl
  |some x=>rw[q]at a;exact(a rfl).elim
theorem Rg(kvs:List (κ×V))(k:κ)(v:V):(aF kvs k v).length≤kvs.length+1:=by
 unfold aF
 split
 ·rw[az];omega
 ·rw[xE,yn,yQ];omega
theorem pP{kvs:List (κ×V)}{k:κ}(v:V)(h:bd kvs k=none):aF kvs k v=kvs++[(k,v)]:=by
 unfold aF;rw[Vf,h];exact xz (by decide)
theorem RelO.isSome_eq{o:Option V}{u:Option Value}(r:RelO o u):o.isSome=u.isSome:=by
 cases o with
 |none=>cases u with
  |none=>rfl
  |some _=>exact(show False from r).elim
 |some _=>cases u with
  |none=>exact(show False from r).elim
  |some _=>rfl
theorem RelO.getD{o:Option V}{u:Option Value}{d:V}{d':Value}(r:RelO o u)(rd:RelV d d'):RelV (o.getD d) (u.getD d'):=by
 cases o with
 |none=>cases u with
  |none=>exact rd
  |some _=>exact(show False from r).elim
 |some _=>cases u with
  |none=>exact(show False from r).elim
  |some _=>exact r
theorem KV.val{kvs:List (κ×V)}{vs:List (κ×Value)}(r:KV kvs vs)(k:κ):RelO (bd kvs k) (valueAt vs k):=by
 unfold KV at r
 induction r with
 |nil=>exact True.intro
 | @cons p q ps qs h t ih=>
  obtain⟨h1,h2⟩:=h;by_cases e:p.1=k
  ·have e':q.1=k:=h1.symm.trans e;have b:valueAt (q::qs) k=some q.2:=by simp[valueAt,List.find?_cons,e']
   rw[Ym e,b];exact h2
  ·have e':¬q.1=k:=fun z=>e (h1.trans z);have b:valueAt (q::qs) k=valueAt qs k:=by simp[valueAt,List.find?_cons,e']
   rw[Yc e,b];exact ih
theorem KV.any{kvs:List (κ×V)}{vs:List (κ×Value)}(r:KV kvs vs)(k:κ):(kvs.any fun kv=>decide (kv.1=k))=vs.any fun kv=>decide (kv.1=k):=by
 unfold KV at r
 induction r with
 |nil=>rfl
 |cons h t ih=>rw[List.any_cons,List.any_cons,ih,h.1]
theorem KV.repl{kvs:List (κ×V)}{vs:List (κ×Value)}(r:KV kvs vs)(k:κ){y:V}{u:Value}(ry:RelV y u):
  KV (kvs.map fun kv=>if kv.1=k then(kv.1,y)else kv) (vs.map fun kv=>if kv.1=k then(kv.1,u)else kv):=by
 unfold KV at r⊢
 induction r with
 |nil=>exact .nil
 | @cons p q ps qs h t ih=>
  rw[xD,xD];refine .cons ?_ ih;obtain⟨h1,h2⟩:=h;by_cases e:p.1=k
  ·rw[xC e,xC (h1.symm.trans e)];exact⟨h1,ry⟩
  ·rw[xz e,xz (fun z=>e (h1.trans z))];exact⟨h1,h2⟩
theorem KV.put{kvs:List (κ×V)}{vs:List (κ×Value)}(r:KV kvs vs)(k:κ){y:V}{u:Value}(ry:RelV y u):KV (aF kvs k y) (stored vs k u):=by
 unfold aF stored;rw[r.any k];by_cases e:(vs.any fun kv=>decide (kv.1=k))=true
 ·rw[xC e,xC e];exact r.repl k ry
 ·rw[xz e,xz e];exact zR r ⟨rfl,ry⟩
theorem KV.length{kvs:List (κ×V)}{vs:List (κ×Value)}(r:KV kvs vs):kvs.length=vs.length:=xL r
end
theorem iG{P:Program}{w:World}{k:Key}{u:Value}(r:RelV (kV k) u):(ak P w).is k u=true:=by
 cases k with
 |inl i=>obtain⟨t,e⟩:=(show ∃t,u=Value.int i t from r);subst e;exact Ui P w i t
 |inr x=>obtain⟨t,e⟩:=(show ∃t,u=Value.str x t from r);subst e;exact f_ P w x t
theorem O6{P:Program}{w:World}:∀{ks:List Key}{us:List Value},Vals (ks.map kV) us→ItemsAre (ak P w) ks us
 | [],_,r=>by rw[Ak]at r;cases r;exact .nil
 |k::ks,_,r=>by
  rw[xD]at r;cases r with
  |cons h t=>exact .cons (iG h) (O6 t)
abbrev KT(H:Hp):List (List Key×V)→List (List Key×Addr×Value)→Prop:=Paired fun p q=>p.1=q.1∧H q.2.1=some (.tup (p.1.map kV))∧RelV p.2 q.2.2
theorem KT.val{H:Hp}{kvs:List (List Key×V)}{xs:List (List Key×Addr×Value)}(r:KT H kvs xs)(k:List Key):RelO (bd kvs k) ((atKey xs k).map (·.2)):=by
 induction r with
 |nil=>exact True.intro
 | @cons p q ps qs h t ih=>
  obtain⟨h1,_,h2⟩:=h;by_cases e:p.1=k
  ·have e':q.1=k:=h1.symm.trans e;have b:atKey (q::qs) k=some q.2:=by simp[atKey,List.find?_cons,e']
   rw[Ym e,b];exact h2
  ·have e':¬q.1=k:=fun z=>e (h1.trans z);have b:atKey (q::qs) k=atKey qs k:=by simp[atKey,List.find?_cons,e']
   rw[Yc e,b];exact ih
theorem KT.repl{H:Hp}{kvs:List (List Key×V)}{xs:List (List Key×Addr×Value)}(r:KT H kvs xs)(k:List Key){y:V}{u:Value}(ry:RelV y u):
  KT H (kvs.map fun kv=>if kv.1=k then(kv.1,y)else kv) (xs.map (putAt k u)):=by
 induction r with
 |nil=>exact .nil
 | @cons p q ps qs h t ih=>
  rw[xD,xD];refine .cons ?_ ih;obtain⟨h1,h2,h3⟩:=h;unfold putAt;by_cases e:p.1=k
  ·rw[xC e,xC (h1.symm.trans e)];exact⟨h1,h2,ry⟩
  ·rw[xz e,xz (fun z=>e (h1.trans z))];exact⟨h1,h2,h3⟩
theorem KT.put{H:Hp}{kvs:List (List Key×V)}{xs:List (List Key×Addr×Value)}(r:KT H kvs xs)(k:List Key){b:Addr}{y:V}{u:Value}(hb:H b=some (.tup (k.map kV)))(ry:RelV y u):
  KT H (aF kvs k y) (storedH xs k b u):=by
 have e:(kvs.any fun kv=>decide (kv.1=k))=(atKey xs k).isSome:=by
  rw[Vf,(r.val k).isSome_eq,Option.isSome_map]
 unfold aF storedH;rw[e];by_cases q:(atKey xs k).isSome=true
 ·rw[xC q,xC q];exact r.repl k ry
 ·rw[xz q,xz q];exact zR r ⟨rfl,hb,ry⟩
theorem KT.keeps{H H':Hp}{kvs:List (List Key×V)}{xs:List (List Key×Addr×Value)}(r:KT H kvs xs)(ht:∀b ys,H b=some (.tup ys)→H' b=some (.tup ys)):KT H' kvs xs:=
 Paired.mapP r fun _ _ z=>⟨z.1,ht _ _ z.2.1,z.2.2⟩
section
variable{P:Program}{w:World}{H:Hp}{h:Heap}{a:Addr}
theorem pD{u:HO}(ok:HOk P w H h)(e:Rd H a u):ObjOk P w H h a u:=e.ok ok
theorem Oe{kvs:List (Key×V)}(ok:HOk P w H h)(e:Rd H a (.dK kvs)):kvs.length≤sizeLine∧(a==sysModules)=false∧∃vs,KV kvs vs∧h.DictOf (ak P w) a vs:=
 show ObjOk P w H h a (.dK kvs)from pD ok e
theorem w_{kvs:List (Key×V)}(ok:HOk P w H h)(e:H a=some (.dK kvs)):kvs.length≤sizeLine∧(a==sysModules)=false∧∃vs,KV kvs vs∧h.DictOf (ak P w) a vs:=Oe ok (.inl e)
theorem Tl{ks:List Key}(ok:HOk P w H h)(e:H a=some (.tup (ks.map kV))):(tupleKind (ak P w)).is h ks a:=by
 obtain⟨_,its,r,o,h1,h2,n,h3⟩:=(show ObjOk P w H h a (.tup (ks.map kV))from ok a _ e);exact⟨o,its.toArray,n,h1,h2.1,h3,by simpa using O6 r⟩
theorem Oc{kvs:List (List Key×V)}(ok:HOk P w H h)(e:Rd H a (.dT kvs)):kvs.length≤sizeLine∧(a==sysModules)=false∧
  ∃xs,KT H kvs xs∧h.DictOfH (tupleKind (ak P w)) a xs:=by
 obtain⟨z,y,xs,r,o,es,ep,h1,h2,h3,h4,h5⟩:=(show ObjOk P w H h a (.dT kvs)from pD ok e);refine⟨z,y,xs,r,o,es,ep,h1,h2,h3,h4,fun x hx=>?_,h5⟩;have all:∀{l:List (List Key×V)}{m:List (List Key×Addr×Value)},KT H l m→∀x∈m,(tupleKind (ak P w)).is h x.1 x.2.1:=by
  intro l m q
  induction q with
  |nil=>intro x hx;exact nomatch hx
  | @cons p q ps qs hq t ih=>
   intro x hx
   rcases xQ.mp hx with e | hx
   ·subst e;exact Tl ok (by rw[←hq.1];exact hq.2.1)
   ·exact ih x hx
 exact all r x hx
theorem k5{kvs:List (List Key×V)}(ok:HOk P w H h)(e:H a=some (.dT kvs)):kvs.length≤sizeLine∧(a==sysModules)=false∧
  ∃xs,KT H kvs xs∧h.DictOfH (tupleKind (ak P w)) a xs:=Oc ok (.inl e)
end
def DGet(H:Hp)(a:Addr)(y:V)(r:Option V):Prop:=
 (∃kvs k,Rd H a (.dK kvs)∧y=kV k∧r=bd kvs k)∨∃kvs k b,Rd H a (.dT kvs)∧y=.ref b∧H b=some (.tup (k.map kV))∧r=bd kvs k
def DPut(H:Hp)(a:Addr)(y v:V)(H':Hp):Prop:=
 (∃kvs k,H a=some (.dK kvs)∧y=kV k∧kvs.length<sizeLine∧H'=upd H a (.dK (aF kvs k v)))∨
 ∃kvs k b,H a=some (.dT kvs)∧y=.ref b∧H b=some (.tup (k.map kV))∧kvs.length<sizeLine∧H'=upd H a (.dT (aF kvs k v))
theorem DGet.t{H:Hp}{a b:Addr}{kvs:List (List Key×V)}{k:List Key}(e:H a=some (.dT kvs))(eb:H b=some (.tup (k.map kV))):DGet H a (.ref b) (bd kvs k):=.inr ⟨kvs,k,b,.inl e,rfl,eb,rfl⟩
theorem DPut.t{H:Hp}{a b:Addr}{kvs:List (List Key×V)}{k:List Key}{v:V}(e:H a=some (.dT kvs))(eb:H b=some (.tup (k.map kV)))(hl:kvs.length<sizeLine):
  DPut H a (.ref b) v (upd H a (.dT (aF kvs k v))):=.inr ⟨kvs,k,b,e,rfl,eb,hl,rfl⟩
section
variable{X:Cx}{As:List (Addr×Obj)}{σ:St}{H:Hp}{s:Shared}{a:Addr}{y v:V}{u r:Value}{o:Option V}{A:Around}{E:Value→Shared→Prop}
theorem Inv.big(I:Inv X As σ H s):sysModules<s.heap.objs.size:=by
 have h:mainGlobals<s.heap.objs.size:=(I.mod.glob.keeps I.bk).lt;exact y8 (by decide) h
theorem lV{Q:Value→Shared→Prop}(hu:A.units+1<cLine)(I:Inv X As σ H s)(g:DGet H a y (some v))(ry:RelV y u)(h:∀w' s',Inv X As σ H s'→RelV v w'→Q w' s'):
  wpAny (model X.prog X.w) A (getItem (.ref a) u) Q E s:=by
 rcases g with⟨kvs,k,e,ey,l⟩|⟨kvs,k,b,e,ey,eb,l⟩
 ·subst ey;obtain⟨z,hd,vs,rel,dd⟩:=Oe I.hok e;obtain⟨w',hw,rw'⟩:=RelO.some_of (v:=v) (o:=valueAt vs k) (by rw[l];exact rel.val k);exact wpAny_getItem_of (iG ry) dd.mapOf hw (h w' _ (I.tok _) rw')
 ·subst ey;cases (show u=Value.ref b from ry);obtain⟨z,hd,xs,rel,dd⟩:=Oc I.hok e;obtain⟨w',hw,rw'⟩:=RelO.some_of (v:=v) (o:=(atKey xs k).map (·.2)) (by rw[l];exact rel.val k);obtain⟨p,hp,hp2⟩:=yO.mp hw;refine wpAny_getItem_heap (zt hu) (Tl I.hok eb) dd hp ?_;rw[hp2];exact h w' _ (I.tok _) rw'
theorem d_in{Q:Value→Shared→Prop}(hu:A.units+1<cLine)(I:Inv X As σ H s)(g:DGet H a y o)(ry:RelV y u)(h:∀s',Inv X As σ H s'→Q (.bool o.isSome) s'):
  wpAny (model X.prog X.w) A (compareOp .In u (.ref a)) Q E s:=by
 rcases g with⟨kvs,k,e,ey,l⟩|⟨kvs,k,b,e,ey,eb,l⟩
 ·subst ey;obtain⟨z,hd,vs,rel,dd⟩:=Oe I.hok e;refine wpAny_in_of (iG ry) hd dd.mapOf ?_;rw[←(rel.val k).isSome_eq,←l];exact h _ (I.tok _)
 ·subst ey;cases (show u=Value.ref b from ry);obtain⟨z,hd,xs,rel,dd⟩:=Oc I.hok e;refine wpAny_in_heap (zt hu) (Tl I.hok eb) hd dd ?_;have q:=(rel.val k).isSome_eq;rw[Option.isSome_map]at q;rw[←q,←l];exact h _ (I.tok _)
theorem kA{h':Heap}{t':Nat}{ob:HO}(I:Inv X As σ H s)(mu:Mut (H a))(hs:Heap.SameBut a s.heap h')(he:∃q,h'.get? a=some q)(new:ObjOk X.prog X.w (upd H a ob) h' a ob):
  Inv X As σ (upd H a ob) {s with heap:=h',toks:=t'}:=
 I.write (x:=a) (e:=a) mu (.inl rfl) (fun b q hb z=>(hs.2 b hb).trans z) he new
theorem uY{P:Program}{w:World}{H':Hp}{h':Heap}{kvs:List (Key×V)}{vs:List (Key×Value)}(z:kvs.length≤sizeLine)(hd:(a==sysModules)=false)(rel:KV kvs vs)(dd:h'.DictOf (ak P w) a vs):
  ObjOk P w H' h' a (.dK kvs):=⟨z,hd,vs,rel,dd⟩
theorem lI{H':Hp}{Q:Unit→Shared→Prop}(hu:A.units+1<cLine)(I:Inv X As σ H s)(g:DPut H a y v H')(ry:RelV y u)(rv:RelV v r)(h:∀s',Inv X As σ H' s'→Q () s'):
  wpAny (model X.prog X.w) A (setItem (.ref a) u r) Q E s:=by
 rcases g with⟨kvs,k,e,ey,l,eH⟩|⟨kvs,k,b,e,ey,eb,l,eH⟩
 ·subst ey eH;obtain⟨z,hd,vs,rel,dd⟩:=w_ I.hok e;have hz:vs.length≤sizeLine:=by rw[←rel.length];exact z
  have hl:(aF kvs k v).length≤sizeLine:=by have:=Rg kvs k v;omega
  refine wpAny_setItem_pairs (hsz:=hz) (iG ry) dd fun h' dd' hs=>h _ ?_;have he:∃q,h'.get? a=some q:=let ⟨q,_,_,hq,_⟩:=dd';⟨q,hq⟩
  exact kA I (by rw[e];exact True.intro) hs he (uY hl hd (rel.put k rv) dd')
 ·subst ey eH;cases (show u=Value.ref b from ry);obtain⟨z,hd,xs,rel,dd⟩:=k5 I.hok e;have hz:xs.length≤sizeLine:=by rw[←xL rel];exact z
  have hl:(aF kvs k v).length≤sizeLine:=by have:=Rg kvs k v;omega
  refine wpAny_setItem_heap (hsz:=hz) (zt hu) (Tl I.hok eb) dd fun h' dd' hs=>h _ ?_;obtain⟨q,es,ep,hq,h2,h3,h4,_,h5⟩:=dd';refine kA I (by rw[e];exact True.intro) hs ⟨q,hq⟩ ⟨hl,hd,_,(rel.put k eb rv).keeps fun c ys ec=>?_,q,es,ep,hq,h2,h3,h4,h5⟩;rw[Za (U9 ec e (fun z=>nomatch z))];exact ec
end
section
variable{X:Cx}{As:List (Addr×Obj)}{σ:St}{H:Hp}{s:Shared}{a:Addr}{kvs:List (Key×V)}{k:Key}{u:Value}{A:Around}{E:Value→Shared→Prop}
end
def xk(i:Expr):Prop:=∀ov iv,subscripted i false ov iv=operate [ov,iv] (getItem ov iv)
theorem rn{prog:Program}{w:World}{A:Around}{E:Value→Shared→Prop}{s:Shared}{env:Env}{value slice:Expr}{pos:Pos}{T id:String}{Q:Value→Shared→Prop}(hl:typeLookup (.type T) "__getitem__"=pure (some (.builtin id)))(hs:xk slice)(h:wpAny (model prog w) A (eval value env) (fun o s₁=>wpAny (model prog w) A (eval slice env) (fun i s₂=>s₂.TypeIs o T∧wpAny (model prog w) A (getItem o i) Q E s₂) E s₁) E s):
  wpAny (model prog w) A (eval (.Subscript value slice pos) env) Q E s:=by
 refine Subscript_ (yN h (fun o s₁ h₁=>yN h₁ (fun i s₂ h₂=>?_) fun _ _ x=>x) fun _ _ x=>x);obtain⟨hT,h₂⟩:=h₂;unfold subscriptTail;refine ae ?_;rw[getitemInPython_of_ne hT.not_modules];refine ae (wpAny_specialOf hT hl ?_);have fin:wpAny (model prog w) A (subscripted slice false o i) (fun r s₃=>wpAny (model prog w) A (letTemporaryGo value o r >>= fun _=>pure r) Q E s₃) E s₂:=by
  rw[hs o i];exact wpAny_operating (yN h₂ (fun r s₃ h₃=>ae (wpAny_letTemporaryGo (pi h₃))) fun _ _ x=>x)
 first
  |exact pi (ae fin)
  |exact ae (pi (ae fin))
  |exact ae fin
theorem hG{X:Cx}{As:List (Addr×Obj)}{σ:St}{H:Hp}{s:Shared}{a:Addr}{y:V}{o:Option V}(I:Inv X As σ H s)(g:DGet H a y o):s.TypeIs (.ref a) "dict":=by
 rcases g with⟨kvs,k,e,_,_⟩|⟨kvs,k,b,e,_,_,_⟩
 ·obtain⟨_,_,vs,_,dd⟩:=Oe I.hok e;exact dd.typeIs
 ·obtain⟨_,_,xs,_,dd⟩:=Oc I.hok e;exact dd.typeIs
def wo(td ty:TE):TE:=fun σ H Q=>td σ H fun x H1=>ty σ H1 fun y H2=>∃a v,x=.ref a∧DGet H2 a y (some v)∧Q v H2
def v6(td ty tv:TE):TS:=fun D σ H=>tv σ H fun v H1=>td σ H1 fun x H2=>ty σ H2 fun y H3=>∃a H4,x=.ref a∧DPut H3 a y v H4∧D.nx σ H4
section
variable{X:Cx}{o i e value:Expr}{pos pos' tpos:Pos}{td ty tv:TE}
theorem Wf(hu:X.A.units+1<cLine)(ho:PE X o td)(hi:PE X i ty)(hs:xk i):PE X (.Subscript o i pos) (wo td ty):=by
 intro As s σ H Q I h;refine rn PySem.F.slot_dict_getitem.lookup hs (thn (ho As s σ H _ I h) fun u s1 ⟨x,H1,I1,rx,q1⟩=>thn (hi As s1 σ H1 _ I1 q1) fun iv s2 At=>?_);obtain⟨y,H2,I2,ry,a,v,ex,g,q2⟩:=At;subst ex;obtain rfl:u=Value.ref a:=rx;exact⟨hG I2 g,lV hu I2 g ry fun w' s3 I3 rw'=>⟨v,H2,I3,rw',q2⟩⟩
theorem W3(hu:X.A.units+1<cLine)(ho:PE X o td)(hi:PE X i ty)(hv:PE X value tv)(hs:swapsWith value (some (.Subscript o i pos')) pos.line X.env=pure false):
  PS X (.Assign [.Subscript o i pos'] value pos) (v6 td ty tv):=by
 intro As s σ H D I h;refine wpAny_Assign_Subscript (thn (hv As s σ H _ I h) fun r s1 ⟨v,H1,I1,rv,q1⟩=>thn (ho As s1 σ H1 _ I1 q1) fun u s2 ⟨x,H2,I2,rx,q2⟩=>thn (hi As s2 σ H2 _ I2 q2) fun iv s3 At=>?_) hs;obtain⟨y,H3,I3,ry,a,H4,ex,g,q3⟩:=At;subst ex;obtain rfl:u=Value.ref a:=rx;exact lI hu I3 g ry rv fun s4 I4=>⟨σ,H4,I4,q3⟩
end
theorem oU{P:Program}{w:World}{H:Hp}(h:Heap)(hb:sysModules<h.objs.size):ObjOk P w H (h.push {cls:=.type "dict",data:=.dict #[]}) h.objs.size (.dT []):=
 ⟨zf _,zH.mpr (Ne.symm (xM hb)),[],.nil,_,#[],0,xO _ rfl,⟨rfl,rfl,rfl⟩,rfl,rfl,yb⟩
def t4:TE:=fun _ H Q=>∀p,H p=none→Q (.ref p) (upd H p (.dT []))
section
variable{X:Cx}{pos:Pos}
theorem gW:PE X (.Dict [] [] pos) t4:=fun As s σ H Q I h=>
 wpAny_Dict_empty ⟨.ref s.heap.objs.size,_,I.laid (a:=s.heap.objs.size) (o:=.dT []) (t':=s.toks) (fun _ _ q=>io _ q) (xA _) (oU s.heap I.big),rfl,h _ (I.hok.fresh (xA _))⟩
end
structure M2(X:Cx)(o:Expr)(m:Str)(apos:Pos)(e f:Expr)(cpos:Pos):Prop where
 base:attributeBase o m X.env (eval o X.env)=eval o X.env
 few:((backTo cpos (starEach [e,f] X.env)).all (fun x=>!x.1) && (backToKw cpos (keywordEach [] X.env)).all (fun x=>x.1.isSome)
  && decide (([e,f]:List Expr).length+([]:List Keyword).length+(if ([]:List Keyword).isEmpty then 0 else 1)<30))=true
 line:(apos.endLine==cpos.line)=true
 trees:backTo cpos (starEach [e,f] X.env)=[(false,eval e X.env),(false,eval f X.env)]
def IsD(H:Hp)(a:Addr):Prop:=(∃kvs,Rd H a (.dK kvs))∨∃kvs,Rd H a (.dT kvs)
theorem vw{X:Cx}{As:List (Addr×Obj)}{σ:St}{H:Hp}{s:Shared}{a:Addr}(I:Inv X As σ H s)(d:IsD H a):
  s.TypeIs (.ref a) "dict"∧(∀b,Value.ref a=.ref b→∃ob,s.heap.get? b=some ob∧ob.dict=none)∧(a==sysModules)=false:=by
 rcases d with⟨kvs,e⟩|⟨kvs,e⟩
 ·obtain⟨_,hd,vs,_,dd⟩:=Oe I.hok e;refine⟨dd.typeIs,fun b q=>?_,hd⟩;cases q;obtain⟨ob,_,_,h1,h2,_⟩:=dd;exact⟨ob,h1,h2.2.1⟩
 ·obtain⟨_,hd,xs,_,dd⟩:=Oc I.hok e;refine⟨dd.typeIs,fun b q=>?_,hd⟩;cases q;obtain⟨ob,_,_,h1,h2,_⟩:=dd;exact⟨ob,h1,h2.2.1⟩
section
variable{X:Cx}{As:List (Addr×Obj)}{σ:St}{H:Hp}{s:Shared}{a:Addr}{y d:V}{u r:Value}{o:Option V}{A:Around}{E:Value→Shared→Prop}
theorem tK{Q:Value→Shared→Prop}(hu:A.units+1<cLine)(I:Inv X As σ H s)(g:DGet H a y o)(ry:RelV y u)(rd:RelV d r)(h:∀w' s',Inv X As σ H s'→RelV (o.getD d) w'→Q w' s'):
  wpAny (model X.prog X.w) A (call (.builtin "dict.get") [.ref a,u,r]) Q E s:=by
 rcases g with⟨kvs,k,e,ey,l⟩|⟨kvs,k,b,e,ey,eb,l⟩
 ·subst ey;obtain⟨z,hd,vs,rel,dd⟩:=Oe I.hok e;refine call_meetsIn PySem.F.slot_dict_get dd.typeIs PySem.F.entry_dict_get (PySem.F.args_dict_get_3 _ _ _) (meets_dict_get_default (ak X.prog X.w) a (iG ry) hd r) ⟨_,dd.mapOf,h _ _ (I.tok _) ?_⟩;rw[l];exact(rel.val k).getD rd
 ·subst ey;cases (show u=Value.ref b from ry);obtain⟨z,hd,xs,rel,dd⟩:=Oc I.hok e;refine call_meetsIn PySem.F.slot_dict_get dd.typeIs PySem.F.entry_dict_get (PySem.F.args_dict_get_3 _ _ _) (meetsH_dict_get_default (tupleKind (ak X.prog X.w)) a b hd r) ⟨zt hu,k,xs,Tl I.hok eb,dd,h _ _ (I.tok _) ?_⟩;rw[l];exact(rel.val k).getD rd
end
def u9(td ty tx:TE):TE:=fun σ H Q=>td σ H fun x H1=>∃a,x=.ref a∧IsD H1 a∧ty σ H1 fun y H2=>tx σ H2 fun z H3=>∃o,DGet H3 a y o∧Q (o.getD z) H3
section
variable{X:Cx}{o e f:Expr}{apos cpos:Pos}{td ty tx:TE}
theorem X0(hu:X.A.units+1<cLine)(ho:PE X o td)(he:PE X e ty)(hf:PE X f tx)(m:M2 X o "get" apos e f cpos):PE X (.Call (.Attribute o "get" apos) [e,f] [] cpos) (u9 td ty tx):=by
 intro As s σ H Q I h;refine wpAny_Call_method m.base m.few m.line yI PySem.F.slot_dict_get PySem.F.type_dict_get (thn (ho As s σ H _ I h) fun u s1 At=>?_);obtain⟨x,H1,I1,rx,a,ex,d,q1⟩:=At;subst ex;obtain rfl:u=Value.ref a:=rx;obtain⟨t1,t2,_⟩:=vw I1 d;refine⟨t1,t2,?_⟩;rw[m.trees];refine Calls.callWith_builtin rfl (Calls.evalArgs_plain (Calls.spliced_cons (thn (he As s1 σ H1 _ I1 q1) fun iv s2 ⟨y,H2,I2,ry,q2⟩=>
  Calls.spliced_cons (thn (hf As s2 σ H2 _ I2 q2) fun fv s3 ⟨z,H3,I3,rz,ov,g,q3⟩=>Calls.spliced_nil ?_))))
 exact tK hu I3 g ry rz fun w' s4 I4 rw'=>⟨_,H3,I4,rw',q3⟩
end
section
variable{X:Cx}{As:List (Addr×Obj)}{σ:St}{H:Hp}{s:Shared}{a:Addr}{kvs:List (Key×V)}{A:Around}{E:Value→Shared→Prop}
end
section
variable{X:Cx}{As:List (Addr×Obj)}{σ:St}{H:Hp}{s:Shared}{a:Addr}{y:V}{u:Value}{A:Around}{E:Value→Shared→Prop}
end
section
variable{X:Cx}
end
section
variable{κ:Type}[DecidableEq κ]
end
section
variable{X:Cx}{tg:Expr}
theorem mR{bs:List Bool}:(List.range bs.length).all (fun i=>bs.getD i true)=bs.all id:=by
 rw[yH,yr,yr];constructor
 ·intro h b hb;obtain⟨i,hi,rfl⟩:=List.mem_iff_getElem.mp hb;have q:=h i (List.mem_range.mpr hi);rw[List.getD_eq_getElem?_getD,yx hi]at q;exact q
 ·intro h i hi;have hi:=List.mem_range.mp hi;have q:=h bs[i] (List.getElem_mem hi);rw[List.getD_eq_getElem?_getD,yx hi];exact q
theorem p7(hc:X.calm=true):bE X (.builtin "all") (fun xs H Q=>∃(p:Addr)(bs:List Bool),xs=[.ref p]∧SqL X.K H p (bs.map V.bl)∧Q (.bl (bs.all id)) H):=by
 intro As s σ H xs us Q I r h;obtain⟨p,bs,rfl,hq,q⟩:=h;obtain⟨u,rfl,ru⟩:=Wx r;cases ru;obtain⟨its,rv,pl,hz⟩:=I.list hq;have hl:=rv.length;rw[az]at hl;have Ay:p<s.heap.objs.size:=by
  obtain⟨o,n,e,_⟩:=pl;exact xG e
 have hh:X.A.in1.handled=none:=by simpa using I.ok.hd hc
 refine call_all_walk (wpAny_pyIter_list pl.isList ⟨s.heap.objs.size,_,_,_,_,_,fun i=>bs.getD i true,rfl,Walks.list hh _ p (xM Ay) its.toArray,⟨⟨_,xO _ rfl,rfl,rfl⟩,pl.isList.push _⟩,fun i v s' Q' E' hv hQ=>?_,fun h' tk kp=>?_⟩)
 ·have hv':its[i]?=some v:=by simpa using hv
  have hi:i<bs.length:=by rw[hl];exact(xI.mp hv').1
  obtain⟨u,hu,ru⟩:=rv.get (i:=i) (x:=.bl bs[i]) (by rw[xZ,yx hi];rfl);rw[hv']at hu;cases hu;cases (show v=Value.bool bs[i]from ru);have e:bs.getD i true=bs[i]:=by rw[List.getD_eq_getElem?_getD,yx hi];rfl
  simp only[e]at hQ;exact zc hQ
 ·have e:(List.range its.toArray.size).all (fun i=>bs.getD i true)=bs.all id:=by
   rw[xU,←hl];exact mR
  simp only[e];refine⟨.bl (bs.all id),H,I.kept fun b o eb=>kp b o ?_ (io _ eb),rfl,q⟩;intro hb;rw[xF.mp hb]at eb;exact absurd (xG eb) (y9 _)
end
section
variable{X:Cx}
end
section
theorem gL{a c n:Nat}(hac:a≤c)(han:a≤n):sliceBounds (some (a:Int)) (some (c:Int)) none n=((a:Int),((min c n:Nat):Int),1):=by
 simp only[sliceBounds,Option.getD_none];have h1:¬((a:Int)<0):=by omega
 have h2:¬((c:Int)<0):=by omega
 simp only[h1,h2,if_false,show(1:Int) > 0 by decide,if_true]
 congr 1
 ·omega
 ·congr 1;omega
set_option maxRecDepth 100000 in
theorem Qh{l b sl:Addr}{items new:Array Value}{n n2:Nat}{vl vu:Value}{a c:Nat}{Q:Unit→Shared→Prop}(e:s.heap.get? l=some {cls:=.type "list",data:=.seq items n})(e2:s.heap.get? b=some {cls:=.type "list",data:=.seq new n2})(hne:l≠b)(hs:s.heap.IsSliceOf sl vl vu .none)(pl:IsPart vl (some (a:Int)))(pu:IsPart vu (some (c:Int)))(hac:a≤c)(han:a≤items.size)(hsz:items.size+new.size≤sizeLine)(h:Q () {s with heap:=s.heap.update l (Obj.mapSeq fun xs=>xs.extract 0 a++new++xs.extract (min c items.size) xs.size)}):
  wpAny (model prog w) A (setItem (.ref l) (.ref sl) (.ref b)) Q E s:=by
 have hl:s.heap.IsList l items:=PySem.IsL.isList e;have hb:s.heap.IsList b new:=PySem.IsL.isList e2;obtain⟨os,hos,hcs,hds⟩:=id hs;have hTs:s.TypeIs (.ref sl) "slice":=⟨os,hos,hcs⟩;have hstep:¬((rawPart none==rawInt 0)=true):=xK;have hsame:Builtin.List.listSameRef (.ref l) (.ref b)=false:=by
  unfold Builtin.List.listSameRef;exact zH.mpr hne
 have hmax:(max (a:Int) (((min c items.size:Nat):Int))).toNat=min c items.size:=by omega
 have hz':((fun xs:Array Value=>xs.extract 0 a++new++xs.extract (min c items.size) xs.size) items).size≤sizeLine+1:=by
  simp only[Array.size_append,Array.size_extract];omega
 unfold setItem
 try with_reducible refine yp ?_
 first | refine ae (pi ?_) | skip
 refine ae (wpAny_sequenceKey hl.typeIs (by decide) ?_);refine ae (wpAny_callSpecial?_slot (name:=Str.ofString "__setitem__") hl.typeIs slot_list_setitem
  (yV slot_list_setitem hl.typeIs entry_list_setitem ?_ (args_list_setitem _ _ _)))
 show wpAny _ _ (Builtin.List.listSubscript? (.ref sl) >>= _) _ _ s;refine ae ?_;unfold Builtin.List.listSubscript?;refine ae (wpAny_specialOf hTs slice_no_index ?_);simp only[Option.isNone_none,if_true];refine pi ?_;show wpAny _ _ (typeOf (.ref sl) >>= _) _ _ s;refine ae (zy hTs ?_)
 first
  |rw[xz (by decide)]
  |refine W.KFB.if_not (by decide) ?_
 rw[listSliceParts_eq];refine ae (ae (zL hos hds (x:=.none) rfl (ae (wpAny_listPart .none ?_))));rw[xz hstep];refine ae (zL hos hds (x:=vl) rfl (ae (wpAny_listPart pl ?_)));refine ae (zL hos hds (x:=vu) rfl (ae (wpAny_listPart pu (pi ?_))))
 first
  |simp only[hsame,Bool.false_eq_true,if_false]
  |refine W.KFB.if_not hsame ?_
  | (dsimp only
     rw[xz (by rw[hsame];exact xK)])
 refine ae (m:=Builtin.List.listAllItems (.ref b) "must assign iterable to extended slice") ?_;unfold Builtin.List.listAllItems;refine ae (zy hb.typeIs ?_)
 first
  |refine W.KFB.if_so (by decide) ?_
  |rw[xC (by decide)]
  |simp only[beq_self_eq_true,Bool.true_or,if_true]
 unfold Builtin.List.listItems;refine ae (wpAny_seqItems e2 rfl (pi ?_));refine ae (ae (wpAny_seqItems e rfl (pi ?_)));refine wpAny_bind (wpAny_of_eq ((sliceIndices_raw (some (a:Int)) (some (c:Int)) none items.size (by simp)).trans (congrArg (pure:Int×Int×Int→Sem (Int×Int×Int)) (gL hac han))) ?_);show wpAny _ _ (if ((1:Int)==1)=true then _ else _) _ _ s;rw[xC (by decide)];refine ae (z7 ?_)
 first
  |simp only[Sb hsz,Bool.false_eq_true,if_false]
  |refine W.KFB.if_not (Sb hsz) ?_
 first | refine ae (pi ?_) | skip
 show wpAny _ _ (updateSeq l (fun xs=>xs.extract 0 ((a:Int)).toNat++new++xs.extract (max (a:Int) (((min c items.size:Nat):Int))).toNat xs.size) >>= _) _ _ s;rw[hmax,Int.toNat_natCast];refine ae (wpAny_updateSeq (hz:=yi (Nat.le_add_right _ _) hsz) (_hz':=hz') e rfl ?_);refine ae (wpAny_letGo ?_)
 first
  |exact ae (pi (pi ⟨.none,rfl,pi h⟩))
  |exact pi ⟨.none,rfl,pi h⟩
end
section
variable{X:Cx}{o e:Expr}{to te:TE}{lo hi:Option Expr}{tl th:TO}{pos p2:Pos}
def gSlc(to:TE)(tl th:TO):TG:=fun v σ H Q=>to σ H fun ov H1=>tl σ H1 fun l H2=>th σ H2 fun u H3=>∃(p b:Addr)(xs ys:List V)(a c:Nat),ov=.ref p∧v=.ref b∧l=some (a:Int)∧u=some (c:Int)∧H3 p=some (.lst xs)∧H3 b=some (.lst ys)∧p≠b∧a≤c∧a≤xs.length∧
 xs.length+ys.length≤sizeLine∧Q σ (upd H3 p (.lst (xs.take a++ys++xs.drop (min c xs.length))))
theorem ur(ho:PE X o to)(hl:PO X lo tl)(hu:PO X hi th)(ha:∀v,assign (.Subscript o (.Slice lo hi none p2) pos) X.env v=(do
   let ov ←holding [v] (eval o X.env)
   let iv ←holding [v,ov] (eval (.Slice lo hi none p2) X.env)
   standAt pos
   holding [v,ov,iv] (setItem ov iv v)
   release [iv,v,ov] []):=by intro _;rfl):PG X (.Subscript o (.Slice lo hi none p2) pos) (gSlc to tl th):=by
 intro As s σ H v u Q I r h;rw[ha];refine ae (yp (thn (ho As s σ H _ I h) fun ov s1 At=>?_));obtain⟨x,H1,I1,r1,q1⟩:=At;refine ae (yp (wpAny_Slice (thn (hl As s1 σ H1 _ I1 q1) fun vl s2 ⟨l,H2,I2,pl,q2⟩=>thn (hu As s2 σ H2 _ I2 q2) fun vu s3 At=>?_)));obtain⟨uu,H3,I3,pu,q3⟩:=At;rw[evalPart_none];refine pi ?_;obtain⟨p,b,xs,ys,a,c,rfl,rfl,rfl,rfl,hp,hb,hne,hac,han,hz,q⟩:=q3;cases r1;cases r;have I4:Inv X As σ H3 {s3 with heap:=s3.heap.push {cls:=.type "slice",data:=.fields #[vl,vu,.none]}}:=I3.kept (t':=s3.toks) fun b ob q=>io _ q;obtain⟨z,its,n,rv,AG,e⟩:=I4.lstM hp;obtain⟨z2,its2,n2,rv2,hlen2,e2⟩:=I4.lstM hb;refine ae (wpAny_standAt (ae (yp (Qh (a:=a) (c:=c) e e2 hne (Heap.IsSliceOf.new ..) pl pu hac (by rw[xU];omega) (by rw[xU,xU];omega) (wpAny_release ⟨σ,_,?_,q⟩)))));refine I4.lset (its':=its.take a++its2++its.drop (min c xs.length)) (t':=s3.toks) hp e ?_ (Vals.append (Vals.append (rv.take _) rv2) (rv.drop _)) ?_
 ·have e3:min c its.toArray.size=min c xs.length:=by rw[xU,AG]
  rw[e3];exact mO its its2 a (min c xs.length)
 ·rw[xE,xE,xW,List.length_drop];omega
end
section
open PySem.AutoSeq1 (wpAny_loadPart')
open PySem.MeetsSeq PySem.MeetsSeq2 PySem.MeetsSeq3
end
section
variable{X:Cx}
end
theorem Zp{H H1:Hp}{p:Addr}{o:HO}(h:upd H p o=H1)(n:H p=none):Same H H1:=h ▸ Z6 n o
theorem Y2{H H1:Hp}{p:Addr}{o:HO}(h:upd H p o=H1):H1 p=some o:=h ▸ Z2
inductive Kd(H:Hp):V→String→Prop
 |non:Kd H .non "NoneType"
 |bl (b:Bool):Kd H (.bl b) "bool"
 |int (i:Int):Kd H (.int i) "int"
 |str (z:Str):Kd H (.str z) "str"
 |lst {a:Addr} {xs:List V} (e:H a=some (.lst xs)):Kd H (.ref a) "list"
 |tup {a:Addr} {xs:List V} (e:H a=some (.tup xs)):Kd H (.ref a) "tuple"
 |dK {a:Addr} {kvs:List (Key×V)} (e:H a=some (.dK kvs)):Kd H (.ref a) "dict"
theorem Kd.ty{K:W.Frag}{H:Hp}{x:V}{T:String}(h:Kd H x T):TyOf K H x (.type T):=by
 cases h with
 |non=>exact .non
 |bl b=>exact .bl b
 |int i=>exact .int i
 |str z=>exact .str z
 |lst e=>exact .lst e
 |tup e=>exact .tup e
 |dK e=>exact .dK e
def kds:List String:=["NoneType","bool","int","str","list","tuple","dict"]
def kus:List String:=["int","bool","str","list","tuple"]
def oC(T U:String):Bool:=(T==U) || (T == "bool" && U == "int")
theorem rK:∀T∈kds,∀U∈kus,xh T U=some (oC T U):=by decide +kernel
theorem Kd.mem{H:Hp}{x:V}{T:String}(h:Kd H x T):T∈kds:=by cases h <;> decide
theorem Kd.kit{K:W.Frag}{H:Hp}{x:V}{T U:String}{b:Bool}(h:Kd H x T)(hU:U∈kus)(e:oC T U=b):W.kitOne K (.type T) (.type U)=some b:=by
 subst e;exact j_ (rK T h.mem U hU)
def whV:V→Bool
 |.int _=>true
 |_=>false
def wF:V→Int→Bool
 |.int i,l=>decide (l≤i)
 |_,_=>false
theorem Kd.wh{H:Hp}{x:V}{T:String}(h:Kd H x T):(oC T "int" && !oC T "bool")=whV x:=by
 cases h <;> (first | rfl | (simp[oC,whV]))
theorem iD{X:Cx}{x:Str}{v:V}{pos:Pos}(hg:Gl X x)(h:∃u,X.mg x=some u∧RelV v u)(hd:(x==("__debug__":Str))=false:=by decide):PE X (.Name x pos) (tC v):=by
 obtain⟨u,hm,r⟩:=h;exact sr hg hm r hd
section
variable{X:Cx}{x:Str}{p pos:Pos}{e:Expr}{es:List Expr}{kws:List Keyword}{ks:List Str}{t tk:TA}{id:String}{r:List V→List V→Hp→VK→Prop}
end
section
variable{prog:Program}{w:World}{A:Around}{E:Value→Shared→Prop}{s:Shared}{T:String}{r d:Addr}{n:Nat}{P:Nat→Value→Prop}{OK:Heap→Prop}
def uR(s:Shared)(P:Nat→Value→Prop)(n:Nat)(q:Result)(s':Shared):Prop:=
 ∃(g:Heap)(tk c:Nat)(xs:Array Value),q=.ok (.ret (.ref s.heap.objs.size))∧s'={s with heap:=g,toks:=tk}∧(∀b o,s.heap.get? b=some o→g.get? b=some o)∧g.get? s.heap.objs.size=some {cls:=.type "list",dict:=none,data:=.seq xs c,slots:=#[]}∧ItemsOf P xs n
theorem iI{R:List Value→Shared→Prop}(K:W.KdlSrc prog w T r d n P OK)(hh:A.handled=none)(hok:OK s.heap)(hn:n≤sizeLine)(h:∀(g:Heap) (tk:Nat) (xs:Array Value),(∀b o,s.heap.get? b=some o→g.get? b=some o)→s.heap.objs.size<g.objs.size→ItemsOf P xs n→R xs.toList {s with heap:=g,toks:=tk}):wpAny (model prog w) A (collect (.ref r)) R E s:=by
 obtain⟨lt1,lt2⟩:=K.there _ hok;unfold collect;refine ae (wpAny_runValue (zG entry_proto_collect' ?_));rw[yT PySem.F.plain_proto_collect _];refine ae (m:=newList []) (yS (pi ⟨Ab zX _,zG entry_list_iadd' ?_⟩));rw[yT zX _];have own:(s.heap.push {cls:=.type "list",data:=.seq ([]:List Value).toArray}).get? s.heap.objs.size=some {cls:=.type "list",data:=.seq #[]}:=xO _ rfl;have run:=W.kdl_extend (A:=A) (s:={s with heap:=s.heap.push {cls:=.type "list",data:=.seq ([]:List Value).toArray}}) (R:=uR s P n) K hh (K.keep _ _ hok fun _ _ _ e=>io _ e) s.heap.objs.size (yD lt1) (yD lt2) (.ref s.heap.objs.size) 0 own
  (fun g tk xs c hk hS hx=>⟨g,tk,c,xs,rfl,rfl,fun b o e=>hk b o (xM (xG e)) (io _ e),hS,hx⟩) hn
 refine yN run (fun fin s' y=>?_) (fun _ _ y=>by obtain⟨_,_,_,_,e,_⟩:=y;cases e);cases fin with
 |done f=>
  obtain⟨g,tk,c,xs,e,rfl,hk,hS,hx⟩:=y;cases e;exact ae (m:=load s.heap.objs.size) (Ap hS (pi (h g tk xs hk (xG hS) hx)))
 |again c1=>
  refine⟨y.1,Aj y.2 fun q s2 z=>?_⟩;obtain⟨g,tk,c,xs,rfl,rfl,hk,hS,hx⟩:=z;exact ae (m:=load s.heap.objs.size) (Ap hS (pi (h g tk xs hk (xG hS) hx)))
end
def eU(a d:Addr):HO:=.ext fun h=>h.IsValuesView a d
def a_(a d:Addr):HO:=.ext fun h=>h.IsItemsView a d
section
variable{X:Cx}{As:List (Addr×Obj)}{σ:St}{H:Hp}{s:Shared}
def over(H:Hp)(n:Nat)(L:Hp):Hp:=fun b=>if b<n then H b else L b
theorem Qn{H L:Hp}{n:Nat}{b:Addr}(h:b<n):over H n L b=H b:=xC h
theorem gC{H L:Hp}{n:Nat}{b:Addr}(h:n≤b):over H n L b=L b:=xz (Nat.not_lt.mpr h)
theorem Inv.over{L:Hp}{g:Heap}{t':Nat}(I:Inv X As σ H s)(k:∀b u,s.heap.get? b=some u→g.get? b=some u)(new:∀b o,s.heap.objs.size≤b→L b=some o→ObjOk X.prog X.w (over H s.heap.objs.size L) g b o):
  Inv X As σ (L2.over H s.heap.objs.size L) {s with heap:=g,toks:=t'}∧Same H (L2.over H s.heap.objs.size L):=by
 have old:∀b o,H b=some o→L2.over H s.heap.objs.size L b=some o:=fun b o e=>by rw[Qn (I.hok b o e).lt];exact e
 have fre:∀b u,s.heap.get? b=some u→H b=none→L2.over H s.heap.objs.size L b=none:=fun b u e n=>by rw[Qn (xG e)];exact n
 refine⟨I.un ⟨fun b u e _ _ _=>k b u e,fun b u e _ _ _=>⟨u.slots,k b u e⟩,fun b u e n _=>fre b u e n,fun b u e _=>⟨u,k b u e⟩,fun b xs e=>old b _ e,fun b o u e=>old b _ e,fun b ps e=>⟨#[],by rw[old b _ e];simp⟩⟩ ?_,old⟩;intro b o e;by_cases hb:b<s.heap.objs.size
 ·rw[Qn hb]at e;exact(I.hok b o e).stay (fun c u _ q=>k c u q) (fun c q=>old c _ q) fun c xs q=>old c _ q
 ·have hb:=Nat.not_lt.mp hb;rw[gC hb]at e;exact new b o hb e
theorem O4:∀as:List Addr,Vals (as.map V.ref) (as.map Value.ref)
 | []=>.nil
 |_::as=>.cons rfl (O4 as)
end
def vN(i j:Int):Prop:=0<j∧j<1000000000000000000000000000000000000000000000000000000000000
theorem pO{X:Cx}:OpR X (binaryOp .FloorDiv) (rI vN fun i j=>.int (i / j)):=opI fun i j _ _ _ _ _ hc q=>by
 have h1:(0:Int)<j:=hc.1;have h2:j<1000000000000000000000000000000000000000000000000000000000000:=hc.2;refine floordiv_int (by omega) (by rw[Int.fdiv_eq_ediv_of_nonneg i (by omega)];exact q) (.inl (PyProof.noPylong_of_log2 ?_));have hn:j.natAbs≠0:=by omega
 have hl:j.natAbs<2^400:=xS (show j.natAbs<1000000000000000000000000000000000000000000000000000000000000 by omega) (by decide +kernel);exact y8 ((Nat.log2_lt hn).mpr hl) (by decide)
section
variable{X:Cx}
end
section
variable{X:Cx}
end
theorem Ng:typeLookup (.type "list") "keys"=pure none:=am_miss_of_fast (by decide +kernel)
theorem Pn:typeLookup (.type "tuple") "keys"=pure none:=am_miss_of_fast (by decide +kernel)
theorem Ri:entryFor table "dict.update.loop"=some Builtin.«dict.update.loop»:=entryFor_of_tree (by kernel_rfl)
theorem W6:plainId "dict.update.loop"=true:=by decide +kernel
theorem wq{a:Addr}{xs:Array Value}{k:Nat}{sl:Array (Option Value)}{Q:Option Value→Shared→Prop}(hx:s.heap.get? a=some {cls:=.type "tuple",dict:=none,data:=.seq xs k,slots:=sl})(hA:A.handled=none)(h:∀g tk,(∀b o,s.heap.get? b=some o→g.get? b=some o)→Q none {s with heap:=g,toks:=tk}):wpAny (model prog w) A (getAttr? (.ref a) "keys") Q E s:=by
 obtain⟨hp,g,d,tk,os⟩:=s;have hT:∀tk',(⟨hp,g,d,tk',os⟩:Shared).TypeIs (.ref a) "tuple":=fun _=>⟨_,hx,rfl⟩;have f1:=sub_AttributeError;have f3:=F.slot_tuple_getattribute.lookup;have f4:=F.slot_tuple_getattribute.bind (.ref a);have f5:=am_tuple_getattr_none;unfold getAttr? getAttrBy? getAttrBy
 repeat (any_goals (first | assumption | exact hT _ | ((with_reducible show wpAny _ _ (call (Value.builtin "tuple.__getattribute__") _ _) _ _ _);refine call_meets F.slot_tuple_getattribute (hT _) am_entry_tuple_getattribute (F.args_tuple_getattribute_2 _ _) (meets_getattribute_miss_tuple a xs k sl "keys" _ Pn (by decide +kernel) (by decide +kernel)) ⟨hx,by simpa using hA,fun h' tk' e hx'=>?_⟩) | wp_step))
 obtain⟨t',u',he⟩:=hx'.there;show wpAny _ _ (getattributeRaised _ _ _ _ _ _ _) _ _ _;unfold getattributeRaised
 repeat (any_goals (first | assumption | wp_step))
 exact h _ _ hx'.keeps
theorem vR{a:Addr}{xs:Array Value}{k:Nat}{sl:Array (Option Value)}{Q:Option Value→Shared→Prop}(hx:s.heap.get? a=some {cls:=.type "list",dict:=none,data:=.seq xs k,slots:=sl})(hA:A.handled=none)(h:∀g tk,(∀b o,s.heap.get? b=some o→g.get? b=some o)→Q none {s with heap:=g,toks:=tk}):wpAny (model prog w) A (getAttr? (.ref a) "keys") Q E s:=by
 obtain⟨hp,g,d,tk,os⟩:=s;have hT:∀tk',(⟨hp,g,d,tk',os⟩:Shared).TypeIs (.ref a) "list":=fun _=>⟨_,hx,rfl⟩;have f1:=sub_AttributeError;have f3:=F.slot_list_getattribute.lookup;have f4:=F.slot_list_getattribute.bind (.ref a);have f5:=am_list_getattr_none;unfold getAttr? getAttrBy? getAttrBy
 repeat (any_goals (first | assumption | exact hT _ | ((with_reducible show wpAny _ _ (call (Value.builtin "list.__getattribute__") _ _) _ _ _);refine call_meets F.slot_list_getattribute (hT _) am_entry_list_getattribute (F.args_list_getattribute_2 _ _) (meets_getattribute_miss_list a xs k sl "keys" _ Ng (by decide +kernel) (by decide +kernel)) ⟨hx,by simpa using hA,fun h' tk' e hx'=>?_⟩) | wp_step))
 obtain⟨t',u',he⟩:=hx'.there;show wpAny _ _ (getattributeRaised _ _ _ _ _ _ _) _ _ _;unfold getattributeRaised
 repeat (any_goals (first | assumption | wp_step))
 exact h _ _ hx'.keeps
section
variable{X:Cx}{As:List (Addr×Obj)}{σ:St}{H:Hp}{s:Shared}
end
theorem iA{l m:List Int}(p:l.Perm m):l.sum=m.sum:=by
 induction p with
 |nil=>rfl
 |cons x _ ih=>rw[xY,xY,ih]
 |swap x y l=>simp only[List.sum_cons];omega
 |trans _ _ a b=>exact a.trans b
theorem PenAt.tup{H:Hp}{a p:Addr}{xs:List V}(h:PenAt H a)(e:H p=some (.tup xs)):au a H p=some (.tup xs):=by
 have ne:p≠a:=fun q=>by
  subst q;obtain⟨_,_,_,e'⟩:=h;rw[e]at e';cases e'
 rw[Zg ne];exact e
section
variable{X:Cx}
end
end L2
namespace L2
open PySem PySem.Spec PyProof.Rows
section
variable{X:Cx}{N':List Str}{As:List (Addr×Obj)}{σ:St}{H:Hp}{s:Shared}
end
theorem S0{t u:TS}{D:Ends}{σ:St}{H:Hp}(R:St→Hp→Prop)(main:∀nx:St→Hp→Prop,(∀σ' H',R σ' H'→nx σ' H')→t {D with nx:=nx} σ H)(fin:∀σ' H',R σ' H'→u D σ' H'):v9 t u D σ H:=main _ fin
section
variable{M:Model}{A:Around}{E:Value→Shared→Prop}{s:Shared}{env:Env}{outer l:List Env}{L e:Addr}{base:Heap}{cls a0 fl:Value}{Q:Unit→Shared→Prop}
end
theorem jI{l:List Env}{env:Env}{b:Addr}(h:env∈l)(e:env.frame=some b):b∈frs l:=zo.mpr ⟨env,h,e⟩
section
variable{M:Model}{A:Around}{E:Value→Shared→Prop}{s:Shared}{env:Env}{outer:List Env}{L a T:Addr}{cls:Value}{Q:Unit→Shared→Prop}
end
section
variable{P:Program}{w:World}{K:W.Frag}{mg:Str→Option Value}{base:Heap}{N:List Str}{qual:Str}{scope:Scope}{f:Addr}{cd:Value}{A:Around}{outer:List Env}{s:Shared}{H:Hp}{E:XK}
end
section
variable{P:Program}{w:World}{K:W.Frag}{mg:Str→Option Value}{base:Heap}{N:List Str}{qual:Str}{scope:Scope}{f:Addr}{cd:Value}{A:Around}{outer:List Env}{s:Shared}{H:Hp}{E:XK}
variable{j k:Nat}{ps:List Str}{sp:Sp}{x:Str}{p pos:Pos}{e:Expr}{es:List Expr}{t:TA}
end
section
variable{prog:Program}{w:World}{A:Around}{E:Value→Shared→Prop}{h:Heap}{g:Array GenState}{d:Drawn}{t:Nat}{os:OsState}{a C:Addr}{o:Obj}{K:W.Frag}
end
section
variable{X:Cx}{As:List (Addr×Obj)}{σ:St}{H:Hp}{s:Shared}
end
section
variable{X:Cx}{x c n:Str}{p pos cpos epos np hpos:Pos}{e:Expr}{es:List Expr}{ta:TA}{tb:TS}{b₀:Stmt}{suite:List Stmt}{j k i:Nat}{ps:List Str}{sp:Sp}{S:Addr}
end
end L2
namespace L2
open PySem PySem.Spec PyProof.Rows
theorem iC{K:W.Frag}{a:Addr}{xs:List V}{k:Nat}{g:TG}{tt:TT}{te:TE}{σ:St}{H:Hp}{Q:VK}(Pv:Nat→List V→Hp→Prop)(h0:Pv 0 [] H)(hl:∀i ys H,i≤xs.length→Pv i ys H→SqT K H a xs)(hs:∀i x ys H (C:List V→Hp→Prop),xs[i]?=some x→Pv i ys H→(∀ys' H',Pv (i+1) ys' H'→C ys' H')→ys.length<sizeLine∧g x (List.replicate k none++σ) H fun σ2 H2=>Wk σ2 (List.replicate k none++σ)∧tt σ2 H2 fun ok H3=>
   if ok=true then te σ2 H3 fun y H4=>C (ys++[y]) H4 else C ys H3)(hd:∀ys H,Pv xs.length ys H→ys.length≤sizeLine∧∀p,H p=none→Q (.ref p) (upd H p (.lst ys))):
  CompR (Itt K a) H k g tt te σ Q:=by
 refine⟨fun i m ys H=>m=xs.length-i∧i≤xs.length∧Pv i ys H,⟨xs.length,by simp,Nat.zero_le _,h0⟩,?_⟩;rintro i m ys H ⟨rfl,hi,p⟩;have q:=hl i ys H hi p;by_cases Ay:i<xs.length
 ·have r:=hs i xs[i] ys H (fun ys' H'=>∃m',m'<xs.length-i∧m'=xs.length-(i+1)∧i+1≤xs.length∧Pv (i+1) ys' H') (by simp[Ay]) p fun ys' H' p'=>⟨_,by omega,rfl,Ay,p'⟩;refine .inr ⟨⟨xs,xs[i],q,by simp[Ay]⟩,r.1,fun x H' y=>?_⟩;obtain⟨e,y⟩:=y;subst e;have ex:xs[i]?=some x:=y xs q;have ex2:xs[i]=x:=by simpa [Ay] using ex
  rw[←ex2];exact r.2
 ·have e:i=xs.length:=by omega
  subst e;exact .inl ⟨⟨xs,q,xA _⟩,hd ys H p⟩
section
variable{P:Program}{w:World}{K:W.Frag}{mg:Str→Option Value}{base:Heap}{CX:CXT}{k:Nat}{f:Addr}{fd:FuncData}{ps:List Str}{sp sp':Sp}
end
def Cal(base:Heap)(f:Addr):Prop:=∃oc od fd sl,base.get? f=some ⟨oc,od,.func fd,sl⟩
theorem lX{M:Model}{f:Addr}{base:Heap}(c:Cal base f)(h:Heap)(k:∀b o,base.get? b=some o→h.get? b=some o):∃q,(q=Keeper.frame∨q=Keeper.machine∨q=Keeper.boundFrame)∧W.Looks M h (keeperOf (.ref f)) q:=by
 obtain⟨oc,od,fd,sl,e⟩:=c;refine⟨.frame,.inl rfl,fun A Q E s kk q=>?_⟩;exact ae (Ap (kk _ _ (k _ _ e)) (pi q))
def uB(P:Program)(w:World)(K:W.Frag)(mg:Str→Option Value)(base:Heap)(k i:Nat)(t:TA):TE:=fun σ H Q=>∃(f:Addr)(fd:FuncData)(ps:List Str)(sp:Sp),σ[i]?=some (some (.ref f))∧FnOk P w K mg base CX0 k f fd ps sp∧Binds K fd ps []∧Cal base f∧
 t σ H fun vs H1=>sp vs H1 Q E0
section
variable{X:Cx}{k i:Nat}{x:Str}{p pos:Pos}{e:Expr}{es:List Expr}{t:TA}
theorem iE(hr:Room k X.A)(ha:PA X (e::es) t)(hN:X.N[i]?=some x:=by rfl)(hv:Vis X.env.scope x:=by first | exact Or.inl rfl | exact Or.inr (Or.inl rfl) | exact Or.inr (Or.inr rfl))(hd:(x==("__debug__":Str))=false:=by decide)(hcd:(x==("__classdict__":Str))=false:=by decide)(he:starEach (e::es) X.env=(false,eval e X.env)::starEach es X.env:=by rfl)(hpl:(backTo pos (starEach es X.env)).any (·.1)=false:=by rfl):
  PE X (.Call (.Name x p) (e::es) [] pos) (uB X.prog X.w X.K X.mg X.base k i t):=by
 intro As s σ H Q I h;obtain⟨f,fd,ps,sp,hs,F,b,c,q⟩:=h;refine zZ (thn (pQ hN hv hd hcd As s σ H (fun v H'=>v=.ref f∧H'=H) I ⟨_,hs,rfl,rfl⟩) fun u s1 z=>?_);obtain⟨v,H',I1,r,rfl,rfl⟩:=z;cases (show u=Value.ref f from r);have hh:=ha pos As s1 σ H' _ I1 q;show wpAny _ _ (callWith pos (.ref f) [] (backTo pos (starEach (e::es) X.env)) []) _ _ _;rw[he]at hh⊢;refine W.callWith_of (P:=fun h=>∀b o,X.base.get? b=some o→h.get? b=some o) (by show((false || (backTo pos (starEach es X.env)).any (·.1)) || false)=false;rw[hpl];rfl) (fun h k=>lX c h k) (Calls.evalArgs_plain (thn hh fun us s2 z=>?_));obtain⟨vs,H2,I2,r2,q2⟩:=z;exact⟨I2.bk,nO (dvs:=[]) (ds:=[]) F hr b .nil wB I2 r2 (by rw[yB];exact q2)⟩
end
def crO(q:Str)(c:Addr):HO:=.ext fun h=>h.CodeRec (.ref c) q
structure LamAt(T:Addr)(pos:Pos)(q:Str)(H:Hp):Prop where
 tab:H T=some (.tbl #[])∨∃c,H T=some (.tbl #[rawInt pos.line,rawInt pos.col,.ref c])∧H c=some (crO q c)
theorem LamAt.mono{T:Addr}{pos:Pos}{q:Str}{H H':Hp}(h:LamAt T pos q H)(g:Same H H'):LamAt T pos q H':=by
 rcases h.tab with e | ⟨c,e,ec⟩
 ·exact⟨.inl (g _ _ e)⟩
 ·exact⟨.inr ⟨c,g _ _ e,g _ _ ec⟩⟩
def m7(P:Program)(w:World)(K:W.Frag)(mg:Str→Option Value)(base:Heap)(N:List Str)(qual:Str)(sc:Scope)(f:Addr)(cd:Value)(cl:List (Str×Addr))(A:Around)(outer:List Env)(s:Shared)(H:Hp):Cx where
 prog:=P
 w:=w
 K:=K
 mg:=mg
 base:=base
 A:=A.deeper (W.envX qual sc s.heap.objs.size f cd cl)
 N:=N
 s₀:=s
 H₀:=H
 env:=W.envX qual sc s.heap.objs.size f cd cl
 outer:=outer
 stack:=W.envX qual sc s.heap.objs.size f cd cl::outer
 ex:=[]
 calm:=true
 fn:=fun _=>false
 pn:=[]
 xe:=fun _ _=>False
structure LamScope(ps fr:List Str)(sc:Scope):Prop where
 kind:sc.kind=.function
 co:sc.isCoroutine=false
 gen:sc.isGenerator=false
 cell:∀x∈sc.names,x.2≠.cell
 par:∀x∈ps,sc.names.lookup x=some .local
 free:∀x,sc.names.lookup x=some .free→x∈fr
 fre:∀x∈fr,sc.names.lookup x=some .free
 nd:(ps++fr).Nodup
theorem ig{x:Str}:∀{ps:List Str}{us:List Value}{i:Nat}{u:Value},ps.Nodup→ps[i]?=some x→us[i]?=some u→(ps.zip us).reverse.lookup x=some u:=by
 intro ps us i u nd h1 h2;have hm:(x,u)∈(ps.zip us).reverse:=List.mem_reverse.mpr (xT (i:=i) (by rw[List.getElem?_zip_eq_some];exact⟨h1,h2⟩));have ndz:((ps.zip us).reverse.map (·.1)).Nodup:=by
  rw[List.map_reverse];refine(List.reverse_perm _).nodup_iff.mpr (nd.sublist ?_);exact(by
   clear hm h1 h2
   induction ps generalizing us with
   |nil=>exact List.nil_sublist _
   |cons p ps ih=>
    cases us with
    |nil=>exact List.nil_sublist _
    |cons v us=>exact(ih (x3.mp nd).2).cons₂ _)
 revert hm ndz;generalize (ps.zip us).reverse=l;intro hm ndz
 induction l with
 |nil=>exact nomatch hm
 |cons q l ih=>
  rw[xD,x3]at ndz
  rcases xQ.mp hm with e | e
  ·rw[←e,zW,beq_self_eq_true]
  ·have ne:(x==q.1)=false:=by
    refine zH.mpr fun z=>ndz.1 (xB.mpr ⟨(x,u),e,z⟩)
   obtain⟨q1,q2⟩:=q;rw[zW];dsimp only at ne⊢;rw[ne];exact ih e ndz.2
theorem oZ{P:Program}{w:World}{K:W.Frag}{mg:Str→Option Value}{B:Heap}{k:Nat}{a c':Addr}{qual:Str}{params:Arguments}{body:Expr}{sc:Scope}{cl:List (Str×Addr)}{pm ctv:Value}{ps fr:List Str}{us:List V}{sp:Sp}(ha:B.get? a=some (W.kla_obj "<lambda>" qual params body sc cl pm c' ctv))(S:LamScope ps fr sc)(hul:us.length=fr.length)(hcl:∀(i:Nat) x v,fr[i]?=some x→us[i]?=some v→∃c u,cl.lookup x=some c∧B.IsCell c (some u)∧RelV v u)(inj:∀x y c,cl.lookup x=some c→cl.lookup y=some c→x=y)(call:∀x c,cl.lookup x=some c→∃v,B.IsCell c v)(rec:∀vs H Q E,sp vs H Q E→H c'=some (crO qual c'))(len:∀vs H Q E,sp vs H Q E→vs.length=ps.length)(hbody:∀(A:Around) (outer:List Env) (s:Shared) (H:Hp) (vs:List V) (Q:VK) (E:XK),Room k (A.deeper (W.envX qual sc s.heap.objs.size a (.ref c') cl))→sp vs H Q E→
   ∃t,PE (m7 P w K mg B (ps++fr) qual sc a (.ref c') cl A outer s H) body t∧t (vs.map some++us.map some) H Q):
  FnOk P w K mg B CX0 (k+1) a (W.kla_fn "<lambda>" qual params body sc cl pm (.ref c') ctv) ps sp:=by
 refine⟨len,fun A outer s H args ws vs Q E hr e0 hb r hsp=>?_⟩;have hl:=len _ _ _ _ hsp;have keep:=fun b o e=>(e0.bs b o e).1;have lim:s.heap.NoLimit:=e0.mod.nolimit.keeps keep;obtain⟨crec,_⟩:=(show ObjOk P w H s.heap c' (crO qual c')from e0.hok c' _ (rec _ _ _ _ hsp));have npS:ps.Nodup:=(List.nodup_append.mp S.nd).1;refine W.kla_callFunE hr.depth (keep _ _ ha) rfl S.co S.gen rfl crec (hb _ _ _ _ ?_);refine wpAny_newFunctionEnv S.cell (fun y hy=>S.par y.1 (List.of_mem_zip hy).1) (fun h₁ hns hsb=>⟨lim.fresh _ hsb,?_⟩) S.kind;show codeAny _ _ (.expr body (W.envX qual sc s.heap.objs.size a (.ref c') cl)) _ _;have hk₁:∀b o,s.heap.get? b=some o→h₁.get? b=some o:=fun b o e=>hsb.extBut b o (xM (xG e)) (io _ e);obtain⟨t,ht,hq⟩:=hbody A outer s H vs Q E (hr.deeper _) hsp;have cellK:∀c v,B.IsCell c v→h₁.IsCell c v:=fun c v ⟨o,e,d⟩=>⟨o,hk₁ _ _ (keep _ _ e),d⟩;have I:Inv (m7 P w K mg B (ps++fr) qual sc a (.ref c') cl A outer s H) [] (vs.map some++us.map some) H {s with heap:=h₁,toks:=s.toks+(ps.zip ws).length}:=by
  have noA:∀b:Addr,b∉(m7 P w K mg B (ps++fr) qual sc a (.ref c') cl A outer s H).ex:=fun b z=>absurd (show b∈([]:List Addr)from z) (by simp);refine⟨⟨e0.mod,S.kind,rfl,rfl,xA _,inj,fun x hx=>?_,(fun x c h _=>Bool.noConfusion h),fun _=>hr.hd,Around.frames_deeper e0.frames,.inr ⟨rfl,rfl⟩,fun b z=>absurd z (noA b),e0.bs,e0.bsz,fun b _ _=>noA b,fun b z=>absurd z (noA b),e0.funs,e0.frf⟩,
   rfl,e0.bare,Un.kept hk₁,⟨_,hns,fun i y v h1 h2 h3=>?_⟩,fun x c e=>?_,e0.hok.fresh (Nat.le_refl _),fun x c e=>?_,fun p hp=>absurd (show p∈([]:List (Addr×Obj))from hp) (by simp),e0.hok.kept hk₁,?_⟩
  ·have hx:sc.names.lookup x=some .cell∨sc.names.lookup x=some .free:=hx
   rcases hx with hx | hx
   ·exact absurd rfl (S.cell _ (x4 hx))
   ·obtain⟨i,hi⟩:=List.mem_iff_getElem?.mp (S.free x hx);have Ay:i<us.length:=by rw[hul];exact(xI.mp hi).1
    obtain⟨c,u,e,_⟩:=hcl i x us[i] hi (by simp[Ay]);exact⟨c,e⟩
  ·have h1:(ps++fr)[i]?=some y:=h1;by_cases hi:i<vs.length
   ·rw[List.getElem?_append_left (by rw[←hl];exact hi)]at h1;rw[List.getElem?_append_left (by simpa using hi),List.getElem?_map]at h2;obtain⟨v',hv,e⟩:=yO.mp h2;cases e;obtain⟨u,hu,rv⟩:=r.get hv;exact⟨u,rv,.inl ⟨S.par y (xT h1),ig npS h1 hu⟩⟩
   ·have hi:vs.length≤i:=by omega
    rw[List.getElem?_append_right (by rw[←hl];exact hi)]at h1;rw[List.getElem?_append_right (by simpa using hi),List.getElem?_map,List.length_map]at h2;obtain⟨v',hv,e⟩:=yO.mp h2;cases e;rw[hl]at hv;obtain⟨c,u,e1,e2,rv⟩:=hcl _ y v h1 hv;exact⟨u,rv,.inr ⟨.inr (S.fre y (xT h1)),c,e1,cellK _ _ e2⟩⟩
  ·obtain⟨v,z⟩:=call x c e;exact⟨v,cellK _ _ z⟩
  ·obtain⟨v,o,z,_⟩:=call x c e;exact(e0.bs c o z).2
  ·show _=(ps++fr).length;rw[xE,az,az,xE,hl,hul]
 refine W.kla_codeExpr (yN (ht [] _ _ H Q I hq) (fun v s' hs=>?_) fun _ _ z=>False.elim z);obtain⟨v',H',J,rv,q⟩:=hs;exact⟨v',H',J.os,J.bare,J.base,J.hok,rv,q⟩
def foO(ob:Obj)(a:Addr):HO:=.ext fun h=>h.get? a=some ob
theorem vk{P:Program}{w:World}{H:Hp}{h:Heap}{q:Str}{c:Addr}(r:h.CodeRec (.ref c) q):ObjOk P w H h c (crO q c):=by
 refine⟨r,?_,fun h1 h2 z k=>?_⟩
 ·obtain⟨c2,oc,vs,tq,e,ho,_⟩:=r;cases e;exact⟨oc,ho⟩
 ·obtain⟨c2,oc,vs,tq,e,ho,r⟩:=z;cases e;exact⟨c,oc,vs,tq,rfl,k _ ho,r⟩
theorem pX{P:Program}{w:World}{H:Hp}{h:Heap}{ob:Obj}{a:Addr}(e:h.get? a=some ob):ObjOk P w H h a (foO ob a):=⟨e,⟨ob,e⟩,fun _ _ z k=>k _ z⟩
def tLam(T:Addr)(pos:Pos)(q:Str)(mk:Value→Addr→Value→Obj):TE:=fun σ H Q=>LamAt T pos q H∧∀(a c:Addr)(pm ctv:Value)(H':Hp),Same (au T H) (au T H')→H a=none→a≠c→H' T=some (.tbl #[rawInt pos.line,rawInt pos.col,.ref c])→H' c=some (crO q c)→
 H' a=some (foO (mk pm c ctv) a)→Q (.ref a) H'
theorem vG(pos:Pos)(c:Value):codeAmong pos [rawInt pos.line,rawInt pos.col,c]=some c:=codeAmong_snoc [] trivial rfl
section
variable{X:Cx}{params:Arguments}{body:Expr}{sc:Scope}{pos:Pos}{c T:Addr}
theorem nG(hc:X.env.code=.ref c)(C:W.CodeHd X.base c T)(hgP:mainGlobals≠T)(hB:X.base.BuiltinsAt X.mg T)(hf:∀x∈sc.names,x.2=.free→∃c,X.env.cells.lookup x.1=some c)(hdef:defaultsOf params X.env=([],[]):=by rfl):
  PE X (.Lambda params body sc pos) (tLam T pos (X.env.qual++"<lambda>") fun pm c' ctv=>W.kla_obj "<lambda>" (X.env.qual++"<lambda>") params body sc (aG X.env sc.names) pm c' ctv):=by
 intro As s σ H Q I h;obtain⟨L,q⟩:=h;refine W.kla_eval hdef ?_;have hcl:=T4 hf;have tl:H T≠none:=by
  rcases L.tab with e | ⟨_,e,_⟩ <;> (rw[e];exact fun z=>nomatch z)
 have fresh:∀b,s.heap.objs.size≤b→H b=none:=fun b hb=>I.hok.fresh hb
 rcases L.tab with e | ⟨c',e,ec⟩
 ·have hP:s.heap.get? T=some (W.tabObj #[]):=I.hok T _ e;refine W.kla_makeFunction hcl I.ok.glob (I.mod.glob.keeps I.bk) hc (C.keeps I.bk) hP trivial rfl hgP (hB.keeps I.bk) fun c' ctv h' tk hx hge Ay hrec hT=>?_;have hT:h'.get? T=some (W.tabObj #[rawInt pos.line,rawInt pos.col,.ref c']):=hT;have Tlt:T<s.heap.objs.size:=xG hP;have sz:s.heap.objs.size≤h'.objs.size:=zw (Nat.lt_of_le_of_lt hge Ay);have na:H h'.objs.size=none:=fresh _ sz;have nc:H c'=none:=fresh _ hge;have cT:c'≠T:=yD (xS Tlt hge);have aT:h'.objs.size≠T:=yD (xS Tlt sz);have ac:h'.objs.size≠c':=yD Ay;have kp:∀b o,b≠T→s.heap.get? b=some o→(h'.push (W.kla_obj "<lambda>" (X.env.qual++"<lambda>") params body sc (aG X.env sc.names) ((X.mg "__name__").getD .none) c' ctv)).get? b=some o:=fun b o nb e=>io _ (hx b o nb e);have eT:=io (W.kla_obj "<lambda>" (X.env.qual++"<lambda>") params body sc (aG X.env sc.names) ((X.mg "__name__").getD .none) c' ctv) hT;have ea:(h'.push (W.kla_obj "<lambda>" (X.env.qual++"<lambda>") params body sc (aG X.env sc.names) ((X.mg "__name__").getD .none) c' ctv)).get? h'.objs.size=some (W.kla_obj "<lambda>" (X.env.qual++"<lambda>") params body sc (aG X.env sc.names) ((X.mg "__name__").getD .none) c' ctv):=xO _ rfl;have er:(h'.push (W.kla_obj "<lambda>" (X.env.qual++"<lambda>") params body sc (aG X.env sc.names) ((X.mg "__name__").getD .none) c' ctv)).CodeRec (.ref c') (X.env.qual++"<lambda>"):=by
   obtain⟨c2,oc,vs,tq,e,ho,r⟩:=hrec;exact⟨c2,oc,vs,tq,e,io _ ho,r⟩
  generalize (h'.push (W.kla_obj "<lambda>" (X.env.qual++"<lambda>") params body sc (aG X.env sc.names) ((X.mg "__name__").getD .none) c' ctv))=g at kp eT ea er⊢;generalize hHn:upd (upd (upd H T (.tbl #[rawInt pos.line,rawInt pos.col,.ref c'])) c' (crO (X.env.qual++"<lambda>") c')) h'.objs.size (foO (W.kla_obj "<lambda>" (X.env.qual++"<lambda>") params body sc (aG X.env sc.names) ((X.mg "__name__").getD .none) c' ctv) h'.objs.size)=Hn;have at_a:Hn h'.objs.size=some (foO (W.kla_obj "<lambda>" (X.env.qual++"<lambda>") params body sc (aG X.env sc.names) ((X.mg "__name__").getD .none) c' ctv) h'.objs.size):=by rw[←hHn];exact Z2
  have at_c:Hn c'=some (crO (X.env.qual++"<lambda>") c'):=by rw[←hHn,Za (Ne.symm ac)];exact Z2
  have at_T:Hn T=some (.tbl #[rawInt pos.line,rawInt pos.col,.ref c']):=by rw[←hHn,Za (Ne.symm aT),Za (Ne.symm cT)];exact Z2
  have at_o:∀b,b≠h'.objs.size→b≠c'→b≠T→Hn b=H b:=fun b n1 n2 n3=>by rw[←hHn,Za n1,Za n2,Za n3]
  have at_s:∀b u,H b=some u→b≠T→Hn b=some u:=fun b u e nT=>by rw[at_o b (Zd e na) (Zd e nc) nT];exact e
  have un:Un X.fs [] H Hn s.heap g:=by
   have nT:∀b,H b=none→b≠T:=fun b n z=>by rw[z]at n;exact tl n
   refine⟨fun b o e n _ _=>kp b o (nT b n) e,fun b o e n _ _=>⟨o.slots,kp b o (nT b n) e⟩,fun b o e n _=>?_,fun b o e _=>?_,fun b xs e'=>at_s b _ e' (fun z=>by rw[z,e]at e';cases e'),fun b o xs e'=>at_s b _ e' (fun z=>by rw[z,e]at e';cases e'),fun b ps e'=>?_⟩
   ·have lt:=xG e;rw[at_o b (xM (xS lt sz)) (xM (xS lt hge)) (nT b n)];exact n
   ·by_cases z:b=T
    ·subst z;exact⟨_,eT⟩
    ·exact⟨o,kp b o z e⟩
   ·by_cases z:b=T
    ·subst z;rw[e]at e';cases e';exact⟨#[rawInt pos.line,rawInt pos.col,.ref c'],at_T⟩
    ·exact⟨#[],by rw[at_s b _ e' z];simp⟩
  have hok:HOk X.prog X.w Hn g:=fun b u eb=>by
   by_cases h1:b=h'.objs.size
   ·subst h1;rw[at_a]at eb;cases eb;exact pX ea
   by_cases h2:b=c'
   ·subst h2;rw[at_c]at eb;cases eb;exact vk er
   by_cases h3:b=T
   ·subst h3;rw[at_T]at eb;cases eb;exact eT
   rw[at_o b h1 h2 h3]at eb;refine(I.hok b u eb).stay (fun d v hd qq=>kp d v (fun z=>?_) qq) (fun d qq=>at_s d _ qq (fun z=>by rw[z,e]at qq;cases qq)) fun d xs qq=>at_s d _ qq (fun z=>by rw[z,e]at qq;cases qq)
   rcases hd with y | y
   ·exact h3 (y.symm.trans z)
   ·rw[z,e]at y;cases y
  refine⟨.ref h'.objs.size,Hn,I.un (h':=g) (t':=tk) un hok,rfl,q _ c' _ ctv Hn (fun b u eb=>?_) na ac at_T at_c at_a⟩;obtain⟨b1,b2⟩:=Zf eb;rw[Zg b1];exact at_s b u b2 b1
 ·have hP:s.heap.get? T=some (W.tabObj #[rawInt pos.line,rawInt pos.col,.ref c']):=I.hok T _ e;refine W.kla_makeFunctionHit (cv:=.ref c') hcl I.ok.glob (I.mod.glob.keeps I.bk) hc (C.keeps I.bk) hP trivial (vG pos _) (hB.keeps I.bk) fun ctv h' tk hk hz=>?_;have na:H h'.objs.size=none:=fresh _ hz;have ac:h'.objs.size≠c':=fun z=>by rw[z,ec]at na;cases na
  have aT:h'.objs.size≠T:=fun z=>by rw[z,e]at na;cases na
  refine⟨.ref h'.objs.size,_,I.laid (t':=tk) (a:=h'.objs.size) (o:=foO (W.kla_obj "<lambda>" (X.env.qual++"<lambda>") params body sc (aG X.env sc.names) ((X.mg "__name__").getD .none) c' ctv) h'.objs.size) (fun b u eb=>io _ (hk b u eb)) hz (pX (xO _ rfl)),rfl,?_⟩;refine q _ c' _ ctv _ (fun b u eb=>?_) na ac (by rw[Za (Ne.symm aT)];exact e) (by rw[Za (Ne.symm ac)];exact ec) Z2;obtain⟨b1,b2⟩:=Zf eb;rw[Zg b1,Za (Zd b2 na)];exact b2
end
def rF(base h:Heap)(as:List Addr):Heap:=W.hideAll h ((List.range h.objs.size).filter fun b=>(base.get? b).isNone && !decide (b∈as))
theorem Pi{base h:Heap}{as:List Addr}{b:Addr}{o:Obj}(e:h.get? b=some o)(k:(∃u,base.get? b=some u)∨b∈as):(rF base h as).get? b=some o:=W.hideAll_get _ e fun z=>by
 have z2:=(x6.mp z).2;rw[ye]at z2
 rcases k with⟨u,k⟩ | k
 ·rw[k]at z2;exact Bool.noConfusion z2.1
 ·rw[xJ k]at z2;exact Bool.noConfusion z2.2
theorem li{base h:Heap}{as:List Addr}{b:Addr}{o:Obj}(e:(rF base h as).get? b=some o):h.get? b=some o∧((∃u,base.get? b=some u)∨b∈as):=by
 have e1:=W.of_hideAll _ e;refine⟨e1,?_⟩;cases k:base.get? b with
 |some u=>exact .inl ⟨u,rfl⟩
 |none=>
  by_cases m:b∈as
  ·exact .inr m
  ·have:(rF base h as).get? b=none:=W.hideAll_none _ (x6.mpr ⟨List.mem_range.mpr (xG e1),by rw[k,yh m];rfl⟩);rw[e]at this;cases this
theorem Uk{base B h:Heap}:∀{l:List Env},h.FunFrames base l→(∀L∈frs l,B.get? L=none)→h.FunFrames B l
 | [],_,_=>trivial
 |env::l,⟨hk,⟨L,o,hf,_,ho,hd⟩,hr⟩,hn=>⟨hk,⟨L,o,hf,hn L (jI (.head _) hf),ho,hd⟩,Uk hr fun L' hL=>hn L' (by
  obtain⟨e,he,q⟩:=zo.mp hL;exact jI (.tail _ he) q)⟩
theorem Inv.drop{X:Cx}{As:List (Addr×Obj)}{σ:St}{H:Hp}{s:Shared}{a:Addr}{φ:Heap→Prop}(I:Inv X As σ H s)(ea:H a=some (.ext φ)):Inv X As σ (au a H) s:=by
 have nn:∀b,H b=none→au a H b=none:=fun b n=>by
  by_cases z:b=a
  ·rw[z];exact Rb
  ·rw[Zg z];exact n
 have ne:∀b u,H b=some u→(∀ψ,u≠.ext ψ)→au a H b=some u:=fun b u e n=>by
  rw[Zg (fun z=>by rw[z,ea]at e;exact n φ (xV e).symm)];exact e
 refine⟨I.ok,I.os,I.bare,⟨I.base.keep,I.base.slot,fun b o e n hx=>nn b (I.base.free b o e n hx),I.base.there,fun b xs e=>ne b _ (I.base.tups b xs e) (fun _ z=>nomatch z),fun b o xs e=>ne b _ (I.base.frzs b o xs e) (fun _ z=>nomatch z),fun b ps e=>?_⟩,I.loc,I.cell,nn _ I.free,fun x c e=>nn c (I.freeC x c e),fun p hp=>?_,fun b u e=>?_,I.len⟩
 ·obtain⟨m,z⟩:=I.base.tbls b ps e;exact⟨m,ne b _ z (fun _ z=>nomatch z)⟩
 ·obtain⟨z1,z2,z3⟩:=I.pin p hp;exact⟨z1,nn _ z2,z3⟩
 ·obtain⟨b1,b2⟩:=Zf e;exact(I.hok b u b2).stay (fun _ _ _ q=>q) (fun c q=>ne c _ q (fun _ z=>nomatch z)) fun c xs q=>ne c _ q (fun _ z=>nomatch z)
structure HasB(P:Program)(w:World)(K:W.Frag)(mg:Str→Option Value)(x:Str)(k:Nat)(ps:List Str)(sp:Heap→Sp):Prop where
 ex:∃f fd,(∀base:Heap,K.In base→base.Ns mainGlobals mg→FnOk P w K mg base CX0 k f fd ps (sp base))∧Binds K fd ps []∧W.keepIn K (.ref f)=true∧mg x=some (.ref f)
structure Wid(X:Cx)(σ:St)(a:Addr)(ob:Obj)(B:Heap):Prop where
 kin:X.K.In B
 glb:B.Ns mainGlobals X.mg
 sub:∀b o,X.base.get? b=some o→B.get? b=some o
 fn:B.get? a=some ob
 cell:∀(i:Nat) x v,X.N[i]?=some x→σ[i]?=some (some v)→X.env.scope.names.lookup x=some .cell→∃c u,X.env.cells.lookup x=some c∧B.IsCell c (some u)∧RelV v u
 cells:∀x c,X.env.cells.lookup x=some c→∃v,B.IsCell c v
 inj:∀x y c,X.env.cells.lookup x=some c→X.env.cells.lookup y=some c→x=y
def uT(X:Cx)(sp:Heap→Sp)(t:TA):TE:=fun σ H Q=>t σ H fun vs H1=>∃a ob,H1 a=some (foO ob a)∧∀B,Wid X σ a ob B→sp B vs (au a H1) Q E0
section
variable{X:Cx}{j k:Nat}{ps:List Str}{sp:Heap→Sp}{x:Str}{p pos:Pos}{e:Expr}{es:List Expr}{t:TA}
theorem gN(h:HasB X.prog X.w X.K X.mg x j ps sp)(hfn:∀x,X.fn x=true)(hst:X.stack=X.env::X.outer)(hfr:X.env.frame=some X.env.locals)(hr:Room k X.A)(ha:PA X (e::es) t)(hg:Gl X x:=by rfl)(hj:j≤k:=by first | decide | omega)(hdb:(x==("__debug__":Str))=false:=by decide)(he:starEach (e::es) X.env=(false,eval e X.env)::starEach es X.env:=by rfl)(hpl:(backTo pos (starEach es X.env)).any (·.1)=false:=by rfl):
  PE X (.Call (.Name x p) (e::es) [] pos) (uT X sp t):=by
 intro As s σ H Q I q;obtain⟨f,fd,F,b,kp,m⟩:=h.ex;refine zZ (fh I hg m ?_ hdb);refine W.callWith_K (h₀:=X.base) I.ok.mod.kin kp (thn (ha pos As s σ H _ I q) fun us s1 z=>?_) he hpl;obtain⟨vs,H1,I1,r,a,ob,ea,q⟩:=z;refine⟨I1.kIn,?_⟩;have I2:Inv X As σ (au a H1) s1:=I1.drop ea;have oa:s1.heap.get? a=some ob:=(show ObjOk X.prog X.w H1 s1.heap a (foO ob a)from I1.hok a _ ea).1;generalize hB:rF X.base s1.heap (a::X.env.cells.filterMap fun d=>X.env.cells.lookup d.1)=B;have cin:∀y c,X.env.cells.lookup y=some c→c∈a::X.env.cells.filterMap fun d=>X.env.cells.lookup d.1:=fun y c z=>.tail _ (zo.mpr ⟨(y,c),x4 z,z⟩);have cou:∀b,b∈a::X.env.cells.filterMap (fun d=>X.env.cells.lookup d.1)→b=a∨∃y,X.env.cells.lookup y=some b:=fun b hb=>by
  rcases xQ.mp hb with z | z
  ·exact .inl z
  ·obtain⟨d,_,e⟩:=zo.mp z;exact .inr ⟨d.1,e⟩
 have sub:∀b o,X.base.get? b=some o→B.get? b=some o:=fun b o z=>hB ▸ Pi (I1.bk b o z) (.inl ⟨o,z⟩);have up:∀b o,B.get? b=some o→s1.heap.get? b=some o∧au a H1 b=none:=fun b o z=>by
  rw[←hB]at z;obtain⟨z1,z2⟩:=li z;refine⟨z1,?_⟩
  rcases z2 with⟨u,z2⟩ | z2
  ·exact(I2.bs b u z2).2
  ·rcases cou b z2 with z3 | ⟨y,z3⟩
   ·rw[z3];exact Rb
   ·exact I2.freeC y b z3
 have clB:∀y c v,X.env.cells.lookup y=some c→s1.heap.IsCell c v→B.IsCell c v:=fun y c v e ⟨o,z,d⟩=>⟨o,hB ▸ Pi z (.inr (cin y c e)),d⟩;have nB:∀L∈frs X.stack,B.get? L=none:=fun L hL=>by
  cases z:B.get? L with
  |none=>rfl
  |some o=>
   exfalso;rw[←hB]at z;obtain⟨z1,z2⟩:=li z
   rcases z2 with⟨u,z2⟩ | z2
   ·have:=(I1.stack.mem hL).1;rw[z2]at this;cases this
   ·rcases cou L z2 with z3 | ⟨y,z3⟩
    ·have:=I1.stkFree L hL;rw[z3,ea]at this;cases this
    ·rcases xQ.mp (I1.stkSub L hL)with z4 | z4
     ·exact I1.cne y L z3 z4
     ·obtain⟨_,o',ho',_⟩:=I1.ok.funs.mem z4;exact absurd (xS (xG ho') (I1.ok.cab y L (hfn y) z3)) (y9 _)
 have md:=I1.ok.mod;have kinB:X.K.In B:=fun b o z=>sub b o (md.kin b o z);have glbB:B.Ns mainGlobals X.mg:=md.glob.keeps sub;have modB:Mod X.K X.mg B:=⟨kinB,glbB,let ⟨mb,h1,h2⟩:=md.blt;⟨mb,h1.keeps sub,h2⟩,md.nolimit.keeps sub⟩;have szB:B.objs.size≤s1.heap.objs.size:=by rw[←hB];exact Nat.le_of_eq (W.hideAll_size _ _)
 have e0:Env0 X.prog X.w X.K X.mg B X.A X.stack s1 (au a H1):=⟨I2.ok.frames,modB,up,szB,Uk I1.stack nB,I2.stkFree,I2.hok,I2.bare⟩;have wid:Wid X σ a ob B:=by
  refine⟨kinB,glbB,sub,hB ▸ Pi oa (.inr (.head _)),fun i y v h1 h2 h3=>?_,fun y c z=>?_,I1.ok.inj⟩
  ·obtain⟨mm,_,hl⟩:=I1.loc;obtain⟨u,rv,lk⟩:=hl i y v h1 h2 (.inr (.inl h3))
   rcases lk with⟨h4,_⟩|⟨_,c,h5,h6⟩
   ·have h4:X.env.scope.names.lookup y=some .local:=h4;rw[h3]at h4;cases h4
   ·exact⟨c,u,h5,clB y c _ h5 h6,rv⟩
  ·obtain⟨v,h6⟩:=I1.cell y c z;exact⟨v,clB y c v z h6⟩
 have hsp:=q B wid;have FB:=(F B kinB glbB).mono hj;have hl:us.length=ps.length:=by rw[←r.length];exact FB.len _ _ _ _ hsp
 have hbi:=b s1 us I1.kIn (by rw[yB];exact hl);rw[yB]at hbi;refine wpAny_call (Aj (FB.run X.A X.stack s1 (au a H1) ⟨us,[]⟩ us vs Q E0 hr e0 hbi r hsp) fun r s' hq=>?_);cases r with
 |error e=>exact False.elim hq
 |ok fl=>
  cases fl with
  |ret u=>exact I2.after hq
  |next=>exact False.elim hq
  |brk=>exact False.elim hq
  |cont=>exact False.elim hq
end
def entH(Ts:List Addr)(s:Hp):Hp:=fun b=>if b∈Ts then some (.tbl #[])else s b
theorem lZ{P:Program}{w:World}{K:W.Frag}{mg mb:Str→Option Value}{k:Nat}{fa a:Addr}{fd:FuncData}{x:Str}{sp:Sp}{s₁:Shared}{vs:List Value}{ns:List Int}{tabs:List (Addr×Addr)}(KX:K.In s₁.heap)(hns:s₁.heap.Ns mainGlobals mg)(hb:s₁.heap.Ns builtinsNs mb)(hbb:∀x:Str,x≠"__name__"→mb x=bootBuiltins x)(hlim:s₁.heap.NoLimit)(hg:s₁.gens=#[])(hbm:∃bm ob,mg "__builtins__"=some (.ref bm)∧bm≠builtinsNs∧s₁.heap.get? bm=some ob∧ob.cls=.type "module"∧ob.dict=some builtinsNs∧ob.data=.plain)(hT:W.TabsAt tabs s₁.heap)(hKT:∀T∈tabs.map (·.2),K.lookup T=none)(ha:s₁.heap.get? a=some {cls:=.type "list",data:=.seq vs.toArray})(hi:IntsAre vs ns)(hl:ns.length≤sizeLine)(hr:Room k callerA)(F:∀base:Heap,K.In base→base.Ns mainGlobals mg→(∀T∈tabs.map (·.2),base.BuiltinsAt mg T)→FnOk P w K mg base CX0 k fa fd [x] sp)(hbind:∀(s:Shared) (u:Value),BindsTo s fd ⟨[u],[]⟩ [(x,u)])(hsp:∀H:Hp,SqL K H a (ns.map V.int)→(∀T∈tabs.map (·.2),H T=some (.tbl #[]))→sp [.ref a] H (fun v _=>v=.bl true) fun _ _ _=>False):
  codeAny (model P w) callerA (.call (.ref fa) ⟨[.ref a],[]⟩) (fun r s'=>r=.ok (.ret (.bool true))∧OldK s₁.heap s'.heap∧s'.os=s₁.os∧AllBare s'.gens) s₁:=by
 have rv:=Sr hi;have lenV:=hi.length;have tabO:∀T∈tabs.map (·.2),s₁.heap.get? T=some (W.tabObj #[]):=fun T h=>by
  obtain⟨q,hq,rfl⟩:=xB.mp h;exact(hT q hq).2
 have aT:a∉tabs.map (·.2):=fun z=>by
  have:=tabO a z;rw[ha]at this;cases this
 have core:∀S:Hp,SqL K S a (ns.map V.int)→HOk P w S s₁.heap→(∀b,S b≠none→b=a)→(S a≠none→K.lookup a=none)→(∀b u,S b=some u→∃o xs,u=.frz o (.lst xs))→
   codeAny (model P w) callerA (.call (.ref fa) ⟨[.ref a],[]⟩) (fun r s'=>r=.ok (.ret (.bool true))∧OldK s₁.heap s'.heap∧s'.os=s₁.os∧AllBare s'.gens) s₁:=by
  intro S hS hokS hA hK hfrz;generalize hHd:entH (tabs.map (·.2)) S=H;have HT:∀b,b∈tabs.map (·.2)→H b=some (.tbl #[]):=fun b h=>by rw[←hHd];exact xC h
  have HS:∀b,b∉tabs.map (·.2)→H b=S b:=fun b h=>by rw[←hHd];exact xz h
  have hok:HOk P w H s₁.heap:=fun b u e=>by
   by_cases m:b∈tabs.map (·.2)
   ·rw[HT b m]at e;cases e;exact tabO b m
   ·rw[HS b m]at e;obtain⟨o,xs,rfl⟩:=hfrz b u e;exact hokS b _ e
  have noN:∀{b:Addr}{o:Obj},s₁.heap.get? b=some o→(∀ps,o≠W.tabObj ps)→(∀xs n,o.data≠.seq xs n)→H b=none:=fun{b o} e n1 n2=>by
   by_cases m:b∈tabs.map (·.2)
   ·exact absurd (xV (e.symm.trans (tabO b m))) (n1 #[])
   ·rw[HS b m];cases q:S b with
    |none=>rfl
    |some u=>
     have e':b=a:=hA b (by rw[q];exact fun z=>nomatch z);subst e';rw[ha]at e;cases e;exact absurd rfl (n2 _ _)
  have base_of:∀{b:Addr}{o:Obj},s₁.heap.get? b=some o→H b=none→(eI s₁.heap H).get? b=some o:=fun e n=>nN e n;have nsK:∀{b:Addr}{m:Str→Option Value},s₁.heap.Ns b m→(eI s₁.heap H).Ns b m:=fun{b m} ⟨o,es,ep,e,d,r⟩=>⟨o,es,ep,base_of e (noN e (fun ps z=>by rw[z]at d;cases d) fun xs n z=>by rw[z]at d;cases d),d,r⟩;have hKb:K.In (eI s₁.heap H):=fun b o e=>base_of (KX b o e) (by
   by_cases m:b∈tabs.map (·.2)
   ·rw[hKT b m]at e;cases e
   ·rw[HS b m];cases q:S b with
    |none=>rfl
    |some u=>
     have e':b=a:=hA b (by rw[q];exact fun z=>nomatch z);subst e';rw[hK (by rw[q];exact fun z=>nomatch z)]at e;cases e)
  have hM:Mod K mg (eI s₁.heap H):=⟨hKb,nsK hns,⟨mb,nsK hb,hbb⟩,let ⟨mc,h1,h2⟩:=hlim;⟨mc,nsK h1,h2⟩⟩;have hBt:∀T∈tabs.map (·.2),(eI s₁.heap H).BuiltinsAt mg T:=fun T m=>by
   obtain⟨bm,ob,b1,b2,b3,b4,b5,b6⟩:=hbm;refine⟨bm,ob,b1,b2,fun z=>?_,fun z=>?_,base_of b3 (noN b3 (fun ps z=>by rw[z]at b6;cases b6) fun xs n z=>by rw[z]at b6;cases b6),b4,b5,b6⟩
   ·obtain⟨o,es,ep,e,d,_⟩:=hns;rw[z,e]at b3;cases b3;rw[b6]at d;cases d
   ·rw[z,tabO T m]at b3;cases b3;cases b6
  have e0:Env0 P w K mg (eI s₁.heap H) callerA [] s₁ H:=⟨rfl,hM,fun b o e=>r8 e,Nat.le_of_eq (mI _ _),trivial,fun b hb=>absurd (show b∈([]:List Addr)from hb) (by simp),hok,.of_eq hg⟩;have hS':SqL K H a (ns.map V.int):=by
   rcases hS with(h | ⟨o,h⟩) | h
   ·exact .inl (.inl (by rw[HS a aT];exact h))
   ·exact .inl (.inr ⟨o,by rw[HS a aT];exact h⟩)
   ·exact .inr h
  refine Aj ((F _ hKb (nsK hns) hBt).run callerA [] s₁ H ⟨[.ref a],[]⟩ [.ref a] [.ref a] _ _ hr e0 (hbind s₁ (.ref a)) (.cons rfl .nil) (hsp H hS' HT)) fun r s' h=>?_;cases r with
  |error e=>exact False.elim h
  |ok fl=>
   cases fl with
   |next=>exact False.elim h
   |brk=>exact False.elim h
   |cont=>exact False.elim h
   |ret u=>
    obtain⟨v,H',os,bare,un,hok',r',q⟩:=h;have q':v=.bl true:=q;subst q';obtain rfl:u=Value.bool true:=r';have oth:∀b o,s₁.heap.get? b=some o→b∉tabs.map (·.2)→s'.heap.get? b=some o:=fun b o e m=>by
     cases q:H b with
     |none=>exact un.keep b o e q (by intro z;exact absurd (show b∈([]:List Addr)from z) (by simp)) (by simp)
     |some u=>
      obtain⟨ob,xs,rfl⟩:=hfrz b u (by rw[←HS b m];exact q);have z2:=un.frzs b ob _ q;obtain⟨e1,_⟩:=hok b _ q;obtain⟨e2,_⟩:=hok' b _ z2;rw[e]at e1;cases e1;exact e2
    have tab:∀b,b∈tabs.map (·.2)→∃more,s'.heap.get? b=some (W.tabObj more):=fun b m=>by
     obtain⟨more,z⟩:=un.tbls b #[] (HT b m);exact⟨_,hok' b _ z⟩
    refine⟨rfl,⟨fun b o e=>?_,fun b o e=>?_⟩,os,bare⟩
    ·by_cases m:b∈tabs.map (·.2)
     ·obtain⟨more,z⟩:=tab b m;obtain⟨t,ht,rfl⟩:=xB.mp m;rw[tabO _ m]at e;cases e;refine .inr (.inl ⟨((hT t ht).1.tab (hT t ht).2).isCodeTable,rfl,#[],more,rfl,?_⟩);rw[z];simp
     ·exact .inl (oth b o e m)
    ·by_cases m:b∈tabs.map (·.2)
     ·obtain⟨more,z⟩:=tab b m;exact⟨_,z⟩
     ·exact⟨o,oth b o e m⟩
 cases hk:K.lookup a with
 |some o=>
  have e:=KX a o hk;rw[ha]at e;cases e;refine core (fun _=>none) (.inr ⟨_,vs.toArray,_,hk,rfl,rfl,rfl,by rw[List.size_toArray,lenV];exact hl,by simpa using rv⟩) (fun b u z=>by have z':(none:Option HO)=some u:=z;cases z') (fun b z=>absurd rfl z) (fun z=>absurd rfl z) (fun b u z=>by have z':(none:Option HO)=some u:=z;cases z')
 |none=>
  refine core (fun b=>if b=a then some (.frz {cls:=.type "list",data:=.seq vs.toArray} (.lst (ns.map V.int)))else none) (.inl (.inr ⟨{cls:=.type "list",data:=.seq vs.toArray},xC rfl⟩)) (fun b u z=>?_) (fun b z=>?_) (fun _=>hk) fun b u z=>?_
  ·by_cases hb:b=a
   ·have z':=(xC hb).symm.trans z;cases z';subst hb;exact⟨ha,by rw[az];exact hl,vs,_,rv,ha⟩
   ·have z':=(xz hb).symm.trans z;cases z'
  ·by_cases hb:b=a
   ·exact hb
   ·exact absurd (xz hb) z
  ·by_cases hb:b=a
   ·have z':=(xC hb).symm.trans z;cases z';exact⟨_,_,rfl⟩
   ·have z':=(xz hb).symm.trans z;cases z'
theorem walk_T{l:W.OpenLaw}{n k:Nat}{q:Program}{loose:List Str}{XP:(Str→Option Value)→Heap→Prop}{YP:World→Heap→Prop}{d:DefRec}{K:Params→W.Frag}{sp:World→Sp}{x:Str}{tabs:List (Addr×Addr)}(hn:l.most=some n)(hn2:n≤sizeLine)(hdf:d.params.defaults=[])(hr:Room k callerA)(hY:∀(w:World) (h:Heap),YP w h→(K w.params).In h)(hT:∀(w:World) (mg mb:Str→Option Value) (loose':List Str) (mean:ExcName→Option Value) (h:Heap),Top q loose' mean mg mb h→(K w.params).In h→W.TabsAt tabs h)(hKT:∀(w:World),∀T∈tabs.map (·.2),(K w.params).lookup T=none)(F:∀(w:World) (mg:Str→Option Value) (fa:Addr) (h:Heap),(K w.params).In h→h.Ns mainGlobals mg→mg d.name=some (.ref fa)→
   ∃fd:FuncData,(∀(s:Shared) (u:Value),BindsTo s fd ⟨[u],[]⟩ [(x,u)])∧
    ∀base:Heap,(K w.params).In base→base.Ns mainGlobals mg→(∀T∈tabs.map (·.2),base.BuiltinsAt mg T)→FnOk l.prog w (K w.params) mg base CX0 k fa fd [x] (sp w))(hsp:∀(w:World) (H:Hp) (a:Addr) (ns:List Int),ns.length≤n→SqL (K w.params) H a (ns.map V.int)→(∀T∈tabs.map (·.2),H T=some (.tbl #[]))→sp w [.ref a] H (fun v _=>v=.bl true) fun _ _ _=>False):
  W.WalkO q loose XP YP l.row.toRowW d [] (fun f vs=>PySem.call f vs):=by
 refine Att.attach_call hn hdf fun w s₀ s₁ mg mb fa o pm cd doc a vs ns G Y ho hd hcd hmg hobj hints AG hg=>?_;have KX:=hY w _ Y;obtain⟨fd,hb,hF⟩:=F w mg fa _ KX G.T.g hmg;exact lZ KX G.T.g G.T.b G.T.builtins G.T.nolimit hg G.T.bmain (hT w mg mb _ _ _ G.T KX) (hKT w) hobj hints (yi AG hn2) hr hF hb (fun H hS hTT=>hsp w H a ns AG hS hTT)
def vi(K:W.Frag):List V→Hp→VK→Prop:=fun xs H Q=>∃p ys,xs=[.ref p]∧(SqL K H p ys∨SqT K H p ys)∧∀l,H l=none→Q (.ref l) (upd H l (.lst ys))
theorem Pp{X:Cx}(K:W.Frag)(hK:X.K=K):bE X (.type "list") (vi K):=by subst hK;exact U5
section
variable{X:Cx}{As:List (Addr×Obj)}{σ:St}{H:Hp}{s:Shared}{h':Heap}
theorem Inv.zipped{t':Nat}{ch:List Addr}{T:Addr}{o:HO}(I:Inv X As σ H s)(k:∀b o,b∉ch→s.heap.get? b=some o→h'.get? b=some o)(hc:∀b∈ch,de X As H b)(hT:s.heap.objs.size≤T)(new:ObjOk X.prog X.w (upd H T o) h' T o):Inv X As σ (upd H T o) {s with heap:=h',toks:=t'}:=by
 have hn:=I.hok.fresh hT;have nit:∀b u,H b=some u→b∉ch:=fun b u e z=>by rw[(hc b z).1]at e;cases e
 have up:∀{b:Addr}{u:HO},H b=some u→upd H T o b=some u:=fun{b u} e=>by rw[Za (Zd e hn)];exact e
 refine I.step (g':=s.gens) (d':=s.drawn) (ch:=ch) (fun b hb=>?_) (fun b o _ _ hc e _=>k b o hc e) (fun b o _ _ hc e _=>⟨o.slots,k b o hc e⟩) (fun b o' _ e n=>?_) (fun b o hc e=>⟨o,k b o hc e⟩) (fun _ _ e=>up e) (fun _ _ _ e=>up e) (fun b ps e=>⟨#[],by rw[up e];simp⟩) (fun m hm=>?_) (fun b u e=>?_) I.bare
 ·obtain⟨f0,f1,f2,f3,f4,f5⟩:=hc b hb;exact⟨f3,f1,f4,f5⟩
 ·rw[Za (xM (xS (xG e) hT))];exact n
 ·obtain⟨o,es,ep,ho,r⟩:=hm;exact⟨o,es,ep,k _ o (fun z=>(hc _ z).2.1 rfl) ho,r⟩
 ·by_cases hb:b=T
  ·subst hb;rw[Z2]at e;cases e;exact new
  ·rw[Za hb]at e;refine(I.hok b u e).stay (fun c v hc q=>k c v ?_ q) (fun _ q=>up q) fun _ _ q=>up q
   rcases hc with z | z
   ·rw[z];exact nit b u e
   ·exact nit c _ z
end
theorem qc{X:Cx}:OpR X (compareOp .IsNot) (fun x y H Q=>∃k:Bool,x=.bl k∧y=.bl true∧Q (.bl (!k)) H):=by
 intro As s σ H x y v u Q I rx ry h;obtain⟨k,rfl,rfl,q⟩:=h;cases rx;cases ry;exact wpAny_isNot_plain (by cases k <;> rfl) (Zz I q (by cases k <;> rfl))
end L2
namespace L2
open PySem PySem.Spec PyProof.Rows
section
variable{X:Cx}
end
section
variable{K:W.Frag}{S:Addr}{ns:List Int}{H H':Hp}{a p:Addr}
end
end L2
namespace L2
open PySem PySem.Spec PyProof.Rows
section
variable{prog:Program}{w:World}{A:Around}{E:Value→Shared→Prop}{s:Shared}{a:Addr}{ks:List Key}
end
variable{prog:Program}{w:World}{A:Around}{E:Value→Shared→Prop}{s:Shared}
section
variable{prog:Program}{w:World}{A:Around}{R:Result→Shared→Prop}{I:Addr}{fp wr:List Addr}{n:Nat}{P:Nat→Value→Prop}{St:Nat→Heap→Prop}
end
section
variable{X:Cx}
end
theorem iV:firstArgMember (.type "StopIteration") []=pure .none:=by kernel_rfl
theorem nE:ownMembersOf (.type "StopIteration") []=#[]:=by kernel_rfl
section
theorem Td{α:Type}{Q:α→Shared→Prop}(hh:A.handled=none)(k:∀h' e,(∀b o,s.heap.get? b=some o→h'.get? b=some o)→Shared.TypeIs {s with heap:=h'} (.ref e) "StopIteration"→E (.ref e) {s with heap:=h'}):
  wpAny (model prog w) A (do
   let x ←newExc (.type "StopIteration") []
   raiseNew x:Sem α) Q E s:=by
 refine ae ?_;unfold newExc;refine ae (wpAny_newTuple ?_ (zf _));rw[iV,nE];refine ae (pi (yS (wpAny_raiseNew_none hh (k _ _ (fun b o e=>io _ (io _ e)) ⟨_,xO _ rfl,rfl⟩))))
variable{a:Addr}{o:Obj}{es:Array (Int×Value)}{ep:Nat}{t:SetTable}
end
section
variable{prog:Program}{w:World}{A:Around}{a it:Addr}{o:Obj}{es:Array (Int×Value)}{ep:Nat}{t:SetTable}
end
section
variable{prog:Program}{w:World}{A:Around}{E:Value→Shared→Prop}{s:Shared}{a:Addr}{ks:List Key}
theorem iW{α:Type}{M:Model}{c:Bool}{X Y:Sem α}{Q:α→Shared→Prop}(h:c=true)(q:wpAny M A X Q E s):wpAny M A (if c=true then X else Y) Q E s:=by
 rw[xC h];exact q
end
section
variable{X:Cx}
end
section
variable{X:Cx}
end
section
variable{X:Cx}
theorem uz:OpR X (compareOp .Is) (fun x y H Q=>∃k:Bool,x=.bl k∧y=.bl true∧Q (.bl k) H):=by
 intro As s σ H x y v u Q I rx ry h;obtain⟨k,rfl,rfl,q⟩:=h;cases rx;cases ry;exact wpAny_is_plain (by cases k <;> rfl) (Zz I q (by cases k <;> rfl))
end
section
variable{X:Cx}{As:List (Addr×Obj)}{σ:St}{H:Hp}{s:Shared}
end
end L2
namespace L2
open PySem PySem.Spec PyProof.Rows
section
variable{α:Type}{K:W.Frag}{a:Addr}{xs:List V}{ks:List α}{k:Nat}{g:TG}{tt:TT}{te:TE}{σ:St}{H:Hp}{Q:VK}
end
end L2
namespace L2
open PySem PySem.Spec PyProof.Rows PySem.Builtin PySem.Builtin.Str
theorem PenAt.put{H:Hp}{a l:Addr}{o:HO}(h:PenAt H a)(n:l≠a):PenAt (upd H l o) a:=by
 obtain⟨p,q,r,e⟩:=h;exact⟨p,q,r,by rw[Za (Ne.symm n)];exact e⟩
theorem qB{H H':Hp}{a l:Addr}{o:HO}(g:Grw a H H')(n:au a H l=none):Grw a H (upd H' l o):=fun b u e=>by
 have hb:b≠l:=fun q=>by rw[q,n]at e;cases e
 have e2:=g b u e;obtain⟨h1,h2⟩:=Zf e2;rw[Zg h1,Za hb];exact h2
end L2
namespace HT
open PySem PySem.Spec PyProof.Rows
section
variable{prog:Program}{w:World}{A:Around}{E:Value→Shared→Prop}{s:Shared}
theorem getItem_tuple_whole{t sl:Addr}{items:Array Value}{vl vu:Value}{lo hi:Option Int}{Q:Value→Shared→Prop}(ht:IsTup s.heap t items)(hs:s.heap.IsSliceOf sl vl vu .none)(pl:IsPart vl lo)(pu:IsPart vu hi)(hw:sIx items.size 0 lo=0∧sIx items.size items.size hi=items.size)(h:Q (.ref t) s):wpAny (model prog w) A (getItem (.ref t) (.ref sl)) Q E s:=by
 obtain⟨os,hos,hcs,hds⟩:=id hs;have hTs:s.TypeIs (.ref sl) "slice":=⟨os,hos,hcs⟩;have ty:=ht.typeIs;unfold getItem
 try with_reducible refine yp ?_
 first | refine ae (pi ?_) | skip
 refine ae (wpAny_sequenceKey ht.typeIs (by decide) ?_);refine ae (wpAny_callSpecial?_slot (name:=Str.ofString "__getitem__") ht.typeIs zn
  (yV zn ht.typeIs entry_tuple_getitem ?_ (args_tuple_getitem _ _)))
 show wpAny _ _ (Builtin.Tuple.tupleItemsOf (.ref t) >>= _) _ _ s;refine ae (tupleItemsOf_ ht ?_);refine ae (zy hTs ?_);rw[xC (by decide)];refine ae (Vj hs pl pu ?_);have hyes:(((sIx items.size 0 lo:Nat):Int)==0 && (1:Int)==1 && (sIx items.size items.size hi-sIx items.size 0 lo)==items.size)=true:=by
  rw[hw.1,hw.2];simp
 show wpAny _ _ (if (((sIx items.size 0 lo:Nat):Int)==0 && (1:Int)==1 && (sIx items.size items.size hi-sIx items.size 0 lo)==items.size)=true then _ else _) _ _ s;rw[xC hyes];refine ae (m:=Builtin.Tuple.tupleIsExact (.ref t)) ?_;refine ae (zy ty (pi ?_));rw[xC (by decide)];refine ae (m:=rule _) (z7 ?_);exact pi ⟨_,rfl,pi h⟩
end
end HT
namespace L2
open PySem PySem.Spec PyProof.Rows
section
variable{X:Cx}
def rSlG:V→Option Int→Option Int→Hp→VK→Prop:=fun x lo hi H Q=>∃a xs,x=.ref a∧H a=some (.tup xs)∧∀(c:Addr)(H':Hp),Same H H'→H' c=some (.tup (l9 xs lo hi))→Q (.ref c) H'
theorem jQ:SlR X rSlG:=by
 intro As s σ H x v vl vu lo hi sl Q I rx hs pl pu h;obtain⟨a,xs,rfl,hx,q⟩:=h;by_cases hw:HT.sIx xs.length 0 lo=0∧HT.sIx xs.length xs.length hi=xs.length
 ·cases rx;obtain⟨its,r,ht,hz⟩:=I.tuple (SqT.of hx);have AG:its.toArray.size=xs.length:=by rw[xU];exact r.length.symm
  refine⟨"tuple",_,PyProof.Rows.slot_tuple_getitem.lookup,ht.typeIs,?_⟩;refine HT.getItem_tuple_whole ht hs pl pu (by rw[AG];exact hw) ⟨.ref a,H,I,rfl,q a H (Same.refl _) ?_⟩;unfold l9;rw[hw.1,hw.2,List.drop_zero,Nat.sub_zero,xX];exact hx
 ·exact vF As s σ H _ v vl vu lo hi sl Q I rx hs pl pu ⟨a,xs,rfl,SqT.of hx,hw,fun p np=>q p _ (Z6 np _) Z2⟩
end
section
variable{X:Cx}
end
section
variable{a l d:Addr}{fz:HO}{Hf H' H'':Hp}{xs:List V}{ts:List Th}
end
end L2
namespace HT
open PySem PySem.Spec PyProof.Rows
section
variable{prog:Program}{w:World}{A:Around}{E:Value→Shared→Prop}{s:Shared}
end
end HT
namespace L2
open PySem PySem.Spec PyProof.Rows
section
variable{X:Cx}
end
def c8(prog:Program)(w:World)(A:Around)(s:Shared)(κ:KeyKind)(kd:SortKind):Prop:=
 ∀(E:Value→Shared→Prop)(x y:Value)(a b:κ.α)(Q:Bool→Shared→Prop),κ.keyOf x=some a→κ.keyOf y=some b→Q (κ.blt a b) s→wpAny (model prog w) A (keyLt' kd x y) Q E s
structure Sst(kd:SortKind)(xs0:Array Keyed)(st:SortSt):Prop where
 pm:(arrOf st).Perm xs0
 kn:kindOf st=kd
 pd:pendingOf st=#[]
 fl:failedOf st=none
def Rz(κ:KeyKind)(xs:Array Keyed)(n:Nat):Prop:=∀i j,i≤j→j<n→κ.blt (KK κ xs j) (KK κ xs i)=false
def Fz(κ:KeyKind)(xs:Array Keyed)(n:Nat):Prop:=∀i j,i≤j→j<n→κ.blt (KK κ xs i) (KK κ xs j)=false
section
variable{prog:Program}{w:World}{A:Around}{E:Value→Shared→Prop}{s:Shared}{κ:KeyKind}{kd:SortKind}{xs0:Array Keyed}{st:SortSt}
theorem Sst.sz(b:Sst kd xs0 st):(arrOf st).size=xs0.size:=b.pm.size_eq
theorem Sst.put(b:Sst kd xs0 st){ys:Array Keyed}(p:ys.Perm (arrOf st)):Sst kd xs0 (setArr st ys):=⟨p.trans b.pm,b.kn,b.pd,b.fl⟩
theorem ltF{a b c:κ.α}(h:κ.blt b a=false)(g:κ.blt c b=false):κ.blt c a=false:=by
 rcases e:κ.blt c a with _ | _
 ·rfl
 ·rcases κ.negTrans c b a e with q | q
  ·rw[g]at q;exact q.symm
  ·rw[h]at q;exact q.symm
theorem ltA{a b:κ.α}(h:κ.blt a b=true):κ.blt b a=false:=by
 rcases e:κ.blt b a with _ | _
 ·rfl
 ·have q:=κ.trans a b a h e;rw[κ.irrefl]at q;exact q.symm
theorem Rz.snoc{xs:Array Keyed}{m:Nat}(r:Rz κ xs m)(h1:1≤m)(h:κ.blt (KK κ xs m) (KK κ xs (m-1))=false):Rz κ xs (m+1):=by
 intro i j hij hj
 rcases zd j m with l | l
 ·exact r i j hij l
 obtain rfl:j=m:=by omega
 rcases zd i j with l2 | l2
 ·exact ltF (r i (j-1) (by omega) (by omega)) h
 ·obtain rfl:i=j:=by omega
  exact κ.irrefl _
theorem Fz.snoc{xs:Array Keyed}{m:Nat}(r:Fz κ xs m)(h1:1≤m)(h:κ.blt (KK κ xs (m-1)) (KK κ xs m)=false):Fz κ xs (m+1):=by
 intro i j hij hj
 rcases zd j m with l | l
 ·exact r i j hij l
 obtain rfl:j=m:=by omega
 rcases zd i j with l2 | l2
 ·exact ltF h (r i (j-1) (by omega) (by omega))
 ·obtain rfl:i=j:=by omega
  exact κ.irrefl _
theorem tN{xs:Array Keyed}:Rz κ xs 1:=fun i j hij hj=>by
 obtain rfl:i=j:=by omega
 exact κ.irrefl _
theorem one_Fz{xs:Array Keyed}:Fz κ xs 1:=fun i j hij hj=>by
 obtain rfl:i=j:=by omega
 exact κ.irrefl _
theorem Fz.same{xs ys:Array Keyed}{m:Nat}(r:Fz κ xs m)(h:∀k,KK κ ys k=KK κ xs k):Fz κ ys m:=fun i j hij hj=>by
 rw[h,h];exact r i j hij hj
theorem Sn{i j:Nat}{Q:Option Bool→SortSt→Prop}(hc:c8 prog w A s κ kd)(hk:KeysOf κ xs0)(b:Sst kd xs0 st)(hi:i<xs0.size)(hj:j<xs0.size)(q:Q (some (κ.blt (KK κ (arrOf st) i) (KK κ (arrOf st) j))) st):wpS (model prog w) A E s (ltAt' i j) Q st:=by
 have look:∀{i:Nat},i<xs0.size→∃p a,(arrOf st)[i]?=some p∧κ.keyOf p.1=some a∧KK κ (arrOf st) i=a:=by
  intro i hi;have hl:i<(arrOf st).size:=by rw[b.sz];exact hi
  have e:(arrOf st)[i]?=some (arrOf st)[i]:=x9 hl;obtain⟨a,ha⟩:=hk (arrOf st)[i] ((Array.perm_iff_toList_perm.mp b.pm).mem_iff.mp (Array.mem_toList_iff.mpr (Array.getElem_mem hl)));refine⟨_,a,e,ha,?_⟩;unfold KK;rw[e];show(κ.keyOf _).getD _=a;rw[ha];rfl
 obtain⟨⟨x,x'⟩,a,e1,k1,g1⟩:=look hi;obtain⟨⟨y,y'⟩,a',e2,k2,g2⟩:=look hj;rw[g1,g2]at q;rw[ltAt'_eq];refine yz (wpS_get ?_);show wpS (model prog w) A E s (elem' (arrOf st) i >>= fun u=>elem' (arrOf st) j >>= fun v=>lt' u v) Q st;rw[elem'_eq,elem'_eq,e1,e2];refine yz (y4 ?_);refine yz (y4 ?_);rw[lt'_eq];refine yz (wpS_get ?_);rw[b.kn];exact yz (wpS_lift (wpAny_attempt (hc _ x y a a' _ k1 k2 ⟨rfl,y4 q⟩)))
theorem jR{a n:Nat}{Q:AscSt→SortSt→Prop}(hc:c8 prog w A s κ kd)(hk:KeysOf κ xs0)(hn:n≤xs0.size)(h1:1≤a)(h2:a≤n)(b:Sst kd xs0 st)(r:Rz κ (arrOf st) a)(fin:∀m,a≤m→m≤n→Rz κ (arrOf st) m→(m<n→κ.blt (KK κ (arrOf st) m) (KK κ (arrOf st) (m-1))=true)→Q (none,m) st):wpS (model prog w) A E s (ascLoop a n) Q st:=by
 unfold ascLoop;refine Al (fun i c u=>u=st∧c=(none,i)∧Rz κ (arrOf st) i) ?_ ?_ ⟨rfl,rfl,r⟩
 ·rintro i _ _ h3 h4 ⟨rfl,rfl,r'⟩;refine yz (Sn hc hk b (by omega) (by omega) ?_)
  rcases e:κ.blt (KK κ (arrOf _) i) (KK κ (arrOf _) (i-1))with _ | _
  ·exact y4 ⟨rfl,rfl,r'.snoc (by omega) e⟩
  ·exact y4 (fin i h3 (by omega) r' fun _=>e)
 ·rintro _ _ ⟨rfl,rfl,r'⟩;rw[Nat.max_eq_right h2]at r'⊢;exact fin n h2 (xA _) r' fun q=>absurd q (y9 _)
theorem Ro{i j:Nat}{Q:Unit→SortSt→Prop}(q:Q () (setArr st (mirror (arrOf st) i j ((j-i) / 2)))):wpS (model prog w) A E s (reverseSlice' i j) Q st:=by
 rw[reverseSlice'_eq];exact wpS_modify q
theorem lc{m n:Nat}{Q:Option Nat→SortSt→Prop}(hc:c8 prog w A s κ kd)(hk:KeysOf κ xs0)(hn:n≤xs0.size)(h1:1≤m)(h2:m≤n)(b:Sst kd xs0 st)(r:Fz κ (arrOf st) m)(fin:∀l u,Sst kd xs0 u→1≤l→l≤n→Rz κ (arrOf u) l→Q (some l) u):wpS (model prog w) A E s (tail3 m n) Q st:=by
 unfold tail3;refine yz (Ro ?_);have b':=b.put (mirror_perm (arrOf st) 0 m ((m-0) / 2));have ml:m≤(arrOf st).size:=by rw[b.sz];omega
 refine yz (jR hc hk hn h1 h2 b' (fun i j hij hj=>?_) fun l h3 h4 r' _=>y4 (fin l _ b' (by omega) h4 r'));show κ.blt (KK κ (mirror (arrOf st) 0 m ((m-0) / 2)) j) (KK κ (mirror (arrOf st) 0 m ((m-0) / 2)) i)=false;rw[KK_mirror ml,KK_mirror ml,xC ⟨zf _,hj⟩,xC ⟨zf _,by omega⟩];exact r _ _ (by omega) (by omega)
theorem lN{m n:Nat}{Q:DescSt→SortSt→Prop}(hc:c8 prog w A s κ kd)(hk:KeysOf κ xs0)(hn:n≤xs0.size)(h1:1≤m)(h2:m≤n)(b:Sst kd xs0 st)(r:Fz κ (arrOf st) m)(fin:∀l e u,Sst kd xs0 u→m≤l→l≤n→Fz κ (arrOf u) l→e+1≤l→(∀i,l-(e+1)≤i→i<l→KK κ (arrOf u) i=KK κ (arrOf u) (l-1))→Q (none,l,e) u):
  wpS (model prog w) A E s (descLoop m n) Q st:=by
 unfold descLoop;refine Al (fun i c u=>∃e,c=(none,i,e)∧Sst kd xs0 u∧Fz κ (arrOf u) i∧e+1≤i∧∀k,i-(e+1)≤k→k<i→KK κ (arrOf u) k=KK κ (arrOf u) (i-1)) ?_ ?_ ⟨0,rfl,b,r,h1,fun k h3 h4=>by rw[show k=m-1 by omega]⟩
 ·rintro i _ u h3 h4 ⟨e,rfl,b',r',he,al⟩;have il:i≤(arrOf u).size:=by rw[b'.sz];omega
  dsimp only;refine yz (Sn hc hk b' (by omega) (by omega) ?_)
  rcases e1:κ.blt (KK κ (arrOf u) i) (KK κ (arrOf u) (i-1))with _ | _
  ·show wpS (model prog w) A E s (ltAt' (i-1) i >>= _) _ u;refine yz (Sn hc hk b' (by omega) (by omega) ?_)
   rcases e2:κ.blt (KK κ (arrOf u) (i-1)) (KK κ (arrOf u) i)with _ | _
   ·have eq:KK κ (arrOf u) i=KK κ (arrOf u) (i-1):=κ.total _ _ e1 e2;refine y4 ⟨e+1,rfl,b',r'.snoc (by omega) e2,by omega,fun k h5 h6=>?_⟩;show KK κ (arrOf u) k=KK κ (arrOf u) i
    rcases zd k i with l | l
    ·rw[eq];exact al k (by omega) l
    ·rw[show k=i by omega]
   ·exact y4 (fin i e u b' h3 (by omega) r' he al)
  ·have up:=r'.snoc (by omega) (ltA e1);show wpS (model prog w) A E s (if e > 0 then _ else _) _ u;by_cases c:e > 0
   ·rw[xC c];refine yz (Ro ?_);exact y4 ⟨0,rfl,b'.put (mirror_perm _ _ _ _),up.same (KK_mirror_equal il al),by omega,fun k h5 h6=>by rw[show k=i+1-1 by omega]⟩
   ·rw[xz c];exact y4 ⟨0,rfl,b',up,by omega,fun k h5 h6=>by rw[show k=i+1-1 by omega]⟩
 ·rintro _ u ⟨e,rfl,b',r',he,al⟩;rw[Nat.max_eq_right h2]at r' he al⊢;exact fin n e u b' h2 (xA _) r' he al
theorem Od{m n:Nat}{Q:Option Nat→SortSt→Prop}(hc:c8 prog w A s κ kd)(hk:KeysOf κ xs0)(hn:n≤xs0.size)(h2:m+1≤n)(b:Sst kd xs0 st)(r:Fz κ (arrOf st) (m+1))(fin:∀l u,Sst kd xs0 u→1≤l→l≤n→Rz κ (arrOf u) l→Q (some l) u):wpS (model prog w) A E s (descPart m n) Q st:=by
 unfold descPart;refine yz (m:=liftM (rule _)) (wpS_lift (z7 ⟨rfl,?_⟩));refine yz (lN hc hk hn (by omega) h2 b r fun l e u b' h3 h4 r' he al=>?_);have ll:l≤(arrOf u).size:=by rw[b'.sz];omega
 show wpS (model prog w) A E s (if e > 0 then _ else _) _ u;by_cases c:e > 0
 ·rw[xC c];refine yz (Ro ?_);exact lc (m:=l) hc hk hn (by omega) h4 (b'.put (mirror_perm _ _ _ _)) (r'.same (KK_mirror_equal ll al)) fin
 ·rw[xz c];exact lc (m:=l) hc hk hn (by omega) h4 b' r' fin
theorem oX{n:Nat}{Q:Option Nat→SortSt→Prop}(hc:c8 prog w A s κ kd)(hk:KeysOf κ xs0)(hn:n≤xs0.size)(h1:1≤n)(b:Sst kd xs0 st)(fin:∀l u,Sst kd xs0 u→1≤l→l≤n→Rz κ (arrOf u) l→Q (some l) u):wpS (model prog w) A E s (countRun' 0 n) Q st:=by
 rw[countRun0_eq];refine yz (jR hc hk hn (xA 1) h1 b tN fun m h3 h4 r lt=>?_);show wpS (model prog w) A E s (if (m==n)=true then _ else _) _ st
 rcases zd m n with c | c
 ·rw[xz (by rw[beq_iff_eq];omega)];have lt:=lt c;by_cases c2:m > 1
  ·rw[xC c2];refine yz (Sn hc hk b (by omega) (by omega) ?_)
   rcases e:κ.blt (KK κ (arrOf st) 0) (KK κ (arrOf st) (m-1))with _ | _
   ·have ml:m≤(arrOf st).size:=by rw[b.sz];omega
    have al:∀k,0≤k→k<m→KK κ (arrOf st) k=KK κ (arrOf st) (m-1):=fun k _ h=>
     κ.total _ _ (ltF e (r 0 k (zf _) h)) (r k (m-1) (by omega) (by omega))
    refine yz (Ro (Od hc hk hn (by omega) (b.put (mirror_perm _ _ _ _)) ?_ fin));refine Fz.same (xs:=arrOf st) (Fz.snoc (fun i j hij hj=>?_) (by omega) (ltA lt)) (KK_mirror_equal ml al);rw[al i (zf _) (by omega),al j (zf _) hj];exact κ.irrefl _
   ·exact y4 (fin m st b h3 h4 r)
  ·rw[xz c2];obtain rfl:m=1:=by omega
   exact Od hc hk hn (by omega) b (one_Fz.snoc (by omega) (ltA lt)) fin
 ·obtain rfl:m=n:=by omega
  rw[xC (by rw[beq_iff_eq])];exact y4 (fin m st b h3 h4 r)
theorem n5{n ok:Nat}{Q:Bool→SortSt→Prop}(hc:c8 prog w A s κ kd)(hk:KeysOf κ xs0)(hn:n≤xs0.size)(h2:ok≤n)(b:Sst kd xs0 st)(r:Rz κ (arrOf st) ok)(fin:∀u,Sst kd xs0 u→Rz κ (arrOf u) n→Q true u):wpS (model prog w) A E s (binarySort' 0 n ok) Q st:=by
 rw[binarySort'_eq];simp only[Nat.zero_add];have cJ:Rz κ (arrOf st) (min (max ok 1) n):=fun i j hij hj=>by
  rcases zd j ok with l | l
  ·exact r i j hij l
  ·obtain rfl:i=j:=by omega
   exact κ.irrefl _
 refine yz (wpS_mono (Al (Q:=fun c u=>c=(none,())∧Sst kd xs0 u∧Rz κ (arrOf u) n) (fun k c u=>c=(none,())∧Sst kd xs0 u∧Rz κ (arrOf u) (min k n)) ?_ ?_ ⟨rfl,b,cJ⟩) ?_)
 ·rintro k _ u h3 h4 ⟨rfl,b',r'⟩;rw[Nat.min_eq_left (zw h4)]at r';have kl:k<xs0.size:=by omega
  have ks:k<(arrOf u).size:=by rw[b'.sz];exact kl
  refine yz (wpS_mono (Al (Q:=fun c v=>v=u∧∃p,c=(none,p,p)∧p≤k∧(∀i,i<p→κ.blt (KK κ (arrOf u) k) (KK κ (arrOf u) i)=false)∧∀i,p≤i→i<k→κ.blt (KK κ (arrOf u) k) (KK κ (arrOf u) i)=true)
   (fun x c v=>v=u∧∃p q,c=(none,p,q)∧p≤q∧q≤k∧q+x≤k+p∧(∀i,i<p→κ.blt (KK κ (arrOf u) k) (KK κ (arrOf u) i)=false)∧∀i,q≤i→i<k→κ.blt (KK κ (arrOf u) k) (KK κ (arrOf u) i)=true) ?_ ?_
   ⟨rfl,0,k,rfl,zf _,xA _,by omega,fun i h=>absurd h (Nat.not_lt_zero i),fun i h h'=>absurd h' (by omega)⟩) ?_)
  ·rintro x _ _ h5 h6 ⟨rfl,p,q,rfl,pq,qk,qx,lo,hi⟩;dsimp only
   rcases zd p q with c | c
   ·rw[xz (by omega)];refine yz (Sn hc hk b' kl (by omega) ?_)
    rcases e:κ.blt (KK κ (arrOf _) k) (KK κ (arrOf _) ((p+q) / 2))with _ | _
    ·refine y4 ⟨rfl,(p+q) / 2+1,q,rfl,by omega,qk,by omega,fun i h=>?_,hi⟩;exact ltF (r' i ((p+q) / 2) (by omega) (by omega)) e
    ·refine y4 ⟨rfl,p,(p+q) / 2,rfl,by omega,by omega,by omega,lo,fun i h h'=>?_⟩
     rcases κ.negTrans _ (KK κ (arrOf _) i) _ e with z | z
     ·exact z
     ·rw[r' _ i h h']at z;cases z
   ·rw[xC c];obtain rfl:p=q:=by omega
    exact y4 ⟨rfl,p,rfl,qk,lo,hi⟩
  ·rintro _ _ ⟨rfl,p,q,rfl,pq,qk,qx,lo,hi⟩;obtain rfl:p=q:=by omega
   exact⟨rfl,p,rfl,qk,lo,hi⟩
  ·rintro _ _ ⟨rfl,p,rfl,pk,lo,hi⟩;show wpS (model prog w) A E s (moveDown' k p >>= fun _=>pure (ForInStep.yield (none,()))) _ _;rw[moveDown'_eq];refine yz (wpS_modify (y4 ⟨rfl,b'.put (bubble_perm _ _ _),?_⟩));rw[Nat.min_eq_left h4];intro i j hij hj;show κ.blt (KK κ (bubble (arrOf _) k (k-p)) j) (KK κ (bubble (arrOf _) k (k-p)) i)=false;have at_:∀i,KK κ (bubble (arrOf _) k (k-p)) i=if i=p then KK κ (arrOf _) k else if p<i∧i≤k then KK κ (arrOf _) (i-1)else KK κ (arrOf _) i:=fun i=>by
    rw[KK_bubble ks (Nat.sub_le _ _),show k-(k-p)=p by omega]
   rw[at_,at_]
   rcases Nat.lt_trichotomy j p with c | c | c
   ·rw[xz (by omega),xz (by omega),xz (by omega),xz (by omega)];exact r' i j hij (by omega)
   ·rw[xC c]
    rcases zd i p with d | d
    ·rw[xz (by omega),xz (by omega)];exact lo i d
    ·rw[xC (by omega)];exact κ.irrefl _
   ·rw[xz (by omega),xC (by omega)]
    rcases Nat.lt_trichotomy i p with d | d | d
    ·rw[xz (by omega),xz (by omega)];exact r' i (j-1) (by omega) (by omega)
    ·rw[xC d];exact ltA (hi (j-1) (by omega) (by omega))
    ·rw[xz (by omega),xC (by omega)];exact r' (i-1) (j-1) (by omega) (by omega)
 ·rintro _ u ⟨h,b',r'⟩;refine⟨h,b',?_⟩;rw[show min (max (max ok 1) n) n=n by omega]at r';exact r'
 ·rintro _ u ⟨rfl,b',r'⟩;exact y4 (fin u b' r')
theorem qP{Q:Unit→SortSt→Prop}(hc:c8 prog w A s κ kd)(hk:KeysOf κ xs0)(b:Sst kd xs0 st)(h2:2≤xs0.size)(h64:xs0.size<64)(fin:∀u,(arrOf u).Perm xs0→failedOf u=none→Rz κ (arrOf u) xs0.size→Q () u):wpS (model prog w) A E s sortRuns' Q st:=by
 have mr:minRun' xs0.size xs0.size 0=xs0.size:=by
  have e:∀f,minRun' (f+1) xs0.size 0=xs0.size:=fun f=>by rw[minRun'_succ,xC h64];rfl
  have:=e (xs0.size-1)
  rwa [show xs0.size-1+1=xs0.size by omega]at this
 rw[sortRuns'_eq];refine yz (wpS_get ?_);simp only[b.sz,mr];have done:∀{u:SortSt},Sst kd xs0 u→Rz κ (arrOf u) xs0.size→(arrOf (setPending u ((pendingOf u).push (0,xs0.size,0)))).Perm xs0∧failedOf (setPending u ((pendingOf u).push (0,xs0.size,0)))=none∧pendingOf (setPending u ((pendingOf u).push (0,xs0.size,0)))=#[(0,xs0.size,0)]∧Rz κ (arrOf (setPending u ((pendingOf u).push (0,xs0.size,0)))) xs0.size:=fun{u} b r=>⟨b.pm,b.fl,by show(pendingOf u).push _=_;rw[b.pd];rfl,r⟩;refine yz (wpS_mono (Al (Q:=fun c u=>c=(none,xs0.size)∧(arrOf u).Perm xs0∧failedOf u=none∧pendingOf u=#[(0,xs0.size,0)]∧Rz κ (arrOf u) xs0.size)
  (fun x c u=>(x=0→c=(none,0)∧Sst kd xs0 u)∧(1≤x→c=(none,xs0.size)∧(arrOf u).Perm xs0∧failedOf u=none∧pendingOf u=#[(0,xs0.size,0)]∧Rz κ (arrOf u) xs0.size)) ?_ ?_ ⟨fun _=>⟨rfl,b⟩,fun h=>absurd h (by decide)⟩) ?_)
 ·rintro x c u _ hx ⟨g0,g1⟩;cases x with
  |succ x=>
   obtain⟨rfl,g2⟩:=g1 (by omega);dsimp only;rw[xC (xA _)];exact y4 ⟨rfl,g2⟩
  |zero=>
   obtain⟨rfl,b'⟩:=g0 rfl;dsimp only;rw[xz (by omega)];simp only[Nat.min_self,Nat.zero_add,Nat.sub_zero];refine yz (oX hc hk (xA _) (by omega) b' fun l v bv l1 l2 r=>?_);dsimp only
   rcases zd l xs0.size with c | c
   ·rw[xC c];refine yz (m:=liftM (rule _)) (wpS_lift (z7 ⟨rfl,?_⟩));refine yz (n5 hc hk (xA _) l2 bv r fun y b3 r3=>?_);rw[Bool.not_true,xz xK];refine yz (wpS_get ?_);rw[show(pendingOf y).back?=none by rw[b3.pd];rfl];exact yz (wpS_modify (y4 ⟨fun h=>absurd h (by decide),fun _=>⟨rfl,done b3 r3⟩⟩))
   ·rw[xz (by omega)];obtain rfl:l=xs0.size:=by omega
    refine yz (wpS_get ?_);rw[show(pendingOf v).back?=none by rw[bv.pd];rfl];exact yz (wpS_modify (y4 ⟨fun h=>absurd h (by decide),fun _=>⟨rfl,done bv r⟩⟩))
 ·rintro c u ⟨_,g1⟩;exact g1 (by omega)
 ·rintro _ u ⟨rfl,g1,g2,g3,g4⟩;dsimp only;refine yz (wpS_mono (Al (Q:=fun c v=>v=u∧c=(none,())) (fun _ c v=>v=u∧c=(none,())) ?_ (fun _ _ h=>h) ⟨rfl,rfl⟩) ?_)
  ·rintro x _ _ _ _ ⟨rfl,rfl⟩;refine yz (wpS_get ?_);rw[xC (by rw[g3];exact xA 1)];exact y4 ⟨rfl,rfl⟩
  ·rintro _ _ ⟨rfl,rfl⟩;exact y4 (fin _ g1 g2 g4)
end
def aL:KeyOrd where
 α:=Int
 blt a b:=decide (a<b)
 irrefl a:=yh (Int.lt_irrefl a)
 trans a b c h g:=xJ (Int.lt_trans (xH h) (xH g))
 negTrans a b c h:=by
  have h:=xH h
  rcases Int.lt_or_le a b with q | q
  ·exact .inl (xJ q)
  ·exact .inr (xJ (by omega))
 total a b h g:=by
  have h:=yF h;have g:=yF g;omega
def cP(O U:KeyOrd)(a b:O.α×U.α):Bool:=O.blt a.1 b.1 || (!O.blt b.1 a.1 && U.blt a.2 b.2)
theorem Yp{O U:KeyOrd}{a b:O.α×U.α}:cP O U a b=true↔O.blt a.1 b.1=true∨(a.1=b.1∧U.blt a.2 b.2=true):=by
 unfold cP;constructor
 ·intro h
  rcases e:O.blt a.1 b.1 with _ | _
  ·rw[e,Bool.false_or,ye,Bool.not_eq_true']at h;exact .inr ⟨O.total _ _ e h.1,h.2⟩
  ·exact .inl rfl
 ·rintro(h | ⟨e,h⟩)
  ·rw[h,Bool.true_or]
  ·rw[e,O.irrefl,Bool.false_or,h];rfl
def cf(O U:KeyOrd):KeyOrd where
 α:=O.α×U.α
 blt:=cP O U
 irrefl a:=by
  rcases e:cP O U a a with _ | _
  ·rfl
  ·rcases Yp.mp e with h | ⟨_,h⟩
   ·rw[O.irrefl]at h;exact h.symm
   ·rw[U.irrefl]at h;exact h.symm
 trans a b c h g:=by
  rw[Yp]at *
  rcases h with h | ⟨e,h⟩
  ·rcases g with g | ⟨e',g⟩
   ·exact .inl (O.trans _ _ _ h g)
   ·exact .inl (e' ▸ h)
  ·rcases g with g | ⟨e',g⟩
   ·exact .inl (e ▸ g)
   ·exact .inr ⟨e.trans e',U.trans _ _ _ h g⟩
 negTrans a b c h:=by
  rw[Yp]at *;rw[Yp]
  rcases h with h | ⟨e,h⟩
  ·rcases O.negTrans _ b.1 _ h with q | q
   ·exact .inl (.inl q)
   ·exact .inr (.inl q)
  ·rcases e1:O.blt a.1 b.1 with _ | _
   ·rcases e2:O.blt b.1 a.1 with _ | _
    ·have ab:=O.total _ _ e1 e2
     rcases U.negTrans _ b.2 _ h with q | q
     ·exact .inl (.inr ⟨ab,q⟩)
     ·exact .inr (.inr ⟨ab.symm.trans e,q⟩)
    ·exact .inr (.inl (e ▸ e2))
   ·exact .inl (.inl rfl)
 total a b h g:=by
  have n1:∀{a b:O.α×U.α},cP O U a b=false→O.blt a.1 b.1=false:=fun{a b} h=>by
   rcases e:O.blt a.1 b.1 with _ | _
   ·rfl
   ·rw[Yp.mpr (.inl e)]at h;exact h
  have e:=O.total _ _ (n1 h) (n1 g);have n2:∀{a b:O.α×U.α},a.1=b.1→cP O U a b=false→U.blt a.2 b.2=false:=fun{a b} e h=>by
   rcases q:U.blt a.2 b.2 with _ | _
   ·rfl
   ·rw[Yp.mpr (.inr ⟨e,q⟩)]at h;exact h
  exact yM e (U.total _ _ (n2 e h) (n2 e.symm g))
def eM(O:KeyOrd)(R:Value→O.α→Prop)(d:O.α):KeyKind:={O with keyOf:=fun v=>open Classical in if h:∃a,R v a then some h.choose else none,dflt:=d}
theorem N6{O:KeyOrd}{R:Value→O.α→Prop}{d:O.α}{v:Value}{a:O.α}(h:(eM O R d).keyOf v=some a):R v a:=by
 unfold eM at h;simp only at h
 split at h
 ·rename_i q;cases h;exact q.choose_spec
 ·cases h
theorem jJ{O:KeyOrd}{R:Value→O.α→Prop}{d:O.α}{v:Value}{a:O.α}(h:R v a):∃b,(eM O R d).keyOf v=some b:=by
 refine⟨(⟨a,h⟩:∃a,R v a).choose,?_⟩;unfold eM;simp only;rw[dif_pos ⟨a,h⟩]
def eqO(O:KeyOrd)(a b:O.α):Bool:=!O.blt a b && !O.blt b a
theorem Sj{O:KeyOrd}{a b:O.α}:eqO O a b=true↔a=b:=by
 unfold eqO;constructor
 ·intro h;rw[ye,Bool.not_eq_true',Bool.not_eq_true']at h;exact O.total _ _ h.1 h.2
 ·rintro rfl;rw[O.irrefl];rfl
def c9(h h':Heap):Prop:=∀b o,h.get? b=some o→o.cls=.type "tuple"→h'.get? b=some o
structure El(prog:Program)(w:World)(O:KeyOrd)(R:Heap→Value→O.α→Prop)(T:String):Prop where
 mono:∀{h h':Heap}{v:Value}{a:O.α},c9 h h'→R h v a→R h' v a
 fn:∀{h:Heap}{v:Value}{a b:O.α},R h v a→R h v b→a=b
 ty:∀{s:Shared}{v:Value}{a:O.α},R s.heap v a→s.TypeIs v T
 eq:∀{A:Around}{E:Value→Shared→Prop}{s:Shared}{u v:Value}{a b:O.α}{Q:Bool→Shared→Prop},A.units+8<cLine→R s.heap u a→R s.heap v b→Q (eqO O a b) s→wpAny (model prog w) A (eqBool u v) Q E s
 lt:∀{A:Around}{E:Value→Shared→Prop}{s:Shared}{u v:Value}{a b:O.α}{Q:Bool→Shared→Prop}(f:Bool),(f=true→T≠"tuple")→A.units+8<cLine→R s.heap u a→R s.heap v b→Q (O.blt a b) s→wpAny (model prog w) A (oneLt' f u v) Q E s
theorem eqI(a b:Int):(a==b)=eqO aL a b:=by
 rw[yH,beq_iff_eq];exact(Sj (O:=aL)).symm
def ug(_:Heap)(v:Value)(a:aL.α):Prop:=∃t,v=.int a t
theorem To{prog:Program}{w:World}:El prog w aL ug "int" where
 mono _ h:=h
 fn h g:=by
  obtain⟨t,rfl⟩:=h;obtain⟨u,e⟩:=g;cases e;rfl
 ty h:=by
  obtain⟨t,rfl⟩:=h;exact typeIs_int _ _ _
 eq {A E s u v a b Q} _ h g q:=by
  obtain⟨t,rfl⟩:=h;obtain⟨u,rfl⟩:=g;refine wpAny_eqBool_int ?_;exact(eqI a b) ▸ q
 lt {A E s u v a b Q} f _ _ h g q:=by
  obtain⟨t,rfl⟩:=h;obtain⟨u,rfl⟩:=g;cases f with
  |true=>exact oneLt_int q
  |false=>
   rw[oneLt'_eq];rw[xz xK];exact ae (wpAny_richCompare_same (op:=.Lt) (typeIs_int _ _ _) (typeIs_int _ _ _) slot_int_lt (call_int_lt ⟨(fun x=>nomatch x),zc q⟩))
def bf{O U:KeyOrd}(R:Heap→Value→O.α→Prop)(S:Heap→Value→U.α→Prop)(h:Heap)(v:Value)(a:O.α×U.α):Prop:=
 ∃c o n x y,v=.ref c∧h.get? c=some o∧o.cls=.type "tuple"∧o.data=.seq #[x,y] n∧R h x a.1∧S h y a.2
section
variable{prog:Program}{w:World}{O U:KeyOrd}{R:Heap→Value→O.α→Prop}{S:Heap→Value→U.α→Prop}{T V:String}
theorem Wm(e:El prog w O R T)(f:El prog w U S V){h h':Heap}{v:Value}{a:O.α×U.α}(st:c9 h h')(p:bf R S h v a):bf R S h' v a:=by
 obtain⟨c,o,n,x,y,rfl,ho,hc,hd,h1,h2⟩:=p;exact⟨c,o,n,x,y,rfl,st _ _ ho hc,hc,hd,e.mono st h1,f.mono st h2⟩
theorem k9(e:El prog w O R T)(f:El prog w U S V){h:Heap}{v:Value}{a b:O.α×U.α}(p:bf R S h v a)(q:bf R S h v b):a=b:=by
 obtain⟨c,o,n,x,y,rfl,ho,hc,hd,h1,h2⟩:=p;obtain⟨c',o',n',x',y',e1,ho',hc',hd',g1,g2⟩:=q;cases e1;rw[ho]at ho';cases ho';rw[hd]at hd';cases hd';exact yM (e.fn h1 g1) (f.fn h2 g2)
theorem lB(b:Bool)(x y:Value):keyLt' (tuples' b) x y=(do
  let xs ←Builtin.List.listItems x
  let ys ←Builtin.List.listItems y
  for ((p,q),i) in (xs.toList.zip ys.toList).zipIdx do
   if !(←eqBool p q)then return ←oneLt' (b && i==0) p q
  return decide (xs.size<ys.size)):=rfl
theorem rm(e:El prog w O R T)(f:El prog w U S V){A:Around}{E:Value→Shared→Prop}{s:Shared}{x y:Value}{a b:O.α×U.α}{Q:Bool→Shared→Prop}(hu:A.units+8<cLine)(bb:Bool)(hb:bb=true→T≠"tuple")(ha:bf R S s.heap x a)(hb':bf R S s.heap y b)(q:Q (cP O U a b) s):wpAny (model prog w) A (keyLt' (tuples' bb) x y) Q E s:=by
 obtain⟨c,o,n,x1,x2,rfl,ho,hc,hd,h1,h2⟩:=ha;obtain⟨c',o',n',y1,y2,rfl,ho',hc',hd',g1,g2⟩:=hb';rw[lB];refine ae (listItems_at ho hd ?_);refine ae (listItems_at ho' hd' ?_);show wpAny _ _ (forIn [((x1,y1),0),((x2,y2),1)] _ _ >>= _) _ _ s;rw[List.forIn_cons];refine ae (ae (ae (e.eq hu h1 g1 ?_)))
 rcases e1:eqO O a.1 b.1 with _ | _
 ·rw[Bool.not_false,xC rfl];have ne:a.1≠b.1:=fun z=>by rw[Sj.mpr z]at e1;cases e1
  have q:Q (O.blt a.1 b.1) s:=by
   have z:cP O U a b=O.blt a.1 b.1:=by
    rw[yH,Yp];exact⟨fun h=>h.elim id fun h=>absurd h.1 ne,.inl⟩
   rw[z]at q;exact q
  exact ae (e.lt _ (fun z=>hb (by rw[ye]at z;exact z.1)) hu h1 g1 (pi (pi (pi q))))
 ·rw[Bool.not_true,xz xK];have ea:=Sj.mp e1;refine pi ?_;show wpAny _ _ (forIn [((x2,y2),1)] _ _) _ _ s;rw[List.forIn_cons];refine ae (ae (f.eq hu h2 g2 ?_))
  rcases e2:eqO U a.2 b.2 with _ | _
  ·rw[Bool.not_false,xC rfl];have q:Q (U.blt a.2 b.2) s:=by
    have z:cP O U a b=U.blt a.2 b.2:=by
     rw[yH,Yp];constructor
     ·rintro(h | h)
      ·rw[ea,O.irrefl]at h;cases h
      ·exact h.2
     ·exact fun h=>.inr ⟨ea,h⟩
    rw[z]at q;exact q
   exact ae (f.lt _ (fun z=>by rw[ye]at z;exact absurd z.2 (by decide)) hu h2 g2 (pi (pi (pi q))))
  ·rw[Bool.not_true,xz xK];have eb:=Sj.mp e2;have q:Q false s:=by
    have z:cP O U a b=false:=by
     rcases y:cP O U a b with _ | _
     ·rfl
     ·rcases Yp.mp y with h | h
      ·rw[ea,O.irrefl]at h;exact h.symm
      ·rw[eb,U.irrefl]at h;exact h.2.symm
    rw[z]at q;exact q
   refine pi ?_;show wpAny _ _ (forIn [] _ _) _ _ s;rw[List.forIn_nil];exact pi (pi q)
theorem px(e:El prog w O R T)(f:El prog w U S V){A:Around}{s:Shared}(hu:A.units+8<cLine)(d:O.α×U.α)(bb:Bool)(hb:bb=true→T≠"tuple"):c8 prog w A s (eM (cf O U) (bf R S s.heap) d) (tuples' bb):=
 fun E x y a b Q ha hb' q=>rm e f hu bb hb (N6 ha) (N6 hb') q
theorem mL(a b:Int×Int):HT.lexLt [a.1,a.2] [b.1,b.2]=cP aL aL a b:=by
 rw[yH];refine Iff.trans ?_ (Yp (O:=aL) (U:=aL) (a:=a) (b:=b)).symm;rw[HT.lexLt_cons,HT.lexLt_cons,HT.lexLt_nil_nil];show _↔decide (a.1<b.1)=true∨(a.1=b.1∧decide (a.2<b.2)=true);rw[zM,zM];by_cases c:a.1=b.1
 ·rw[xC c];by_cases c2:a.2=b.2
  ·rw[xC c2];exact⟨fun h=>(by cases h),fun h=>by omega⟩
  ·rw[xz c2,zM];exact⟨fun h=>.inr ⟨c,h⟩,fun h=>by omega⟩
 ·rw[xz c,zM];exact⟨.inl,fun h=>by omega⟩
def uD:Heap→Value→(cf aL aL).α→Prop:=bf ug ug
theorem Q8{h:Heap}{v:Value}{a:Int×Int}(p:uD h v a):∃c its,v=.ref c∧IsTup h c its∧IntsAre its.toList [a.1,a.2]:=by
 obtain⟨c,o,n,x,y,rfl,ho,hc,hd,⟨t,rfl⟩,⟨u,rfl⟩⟩:=p;exact⟨c,_,rfl,⟨o,ho,hc,n,hd⟩,.cons _ _ (.cons _ _ .nil)⟩
theorem kg{h:Heap}{v:Value}{a:Int×Int}(p:uD h v a):∃c,v=.ref c∧IsTupleKey (ak prog w) h [.inl a.1,.inl a.2] c:=by
 obtain⟨c,o,n,x,y,rfl,ho,hc,hd,⟨t,rfl⟩,⟨u,rfl⟩⟩:=p;exact⟨c,rfl,o,_,n,ho,hc,hd,.cons (Ui prog w _ _) (.cons (Ui prog w _ _) .nil)⟩
theorem uN:El prog w (cf aL aL) uD "tuple" where
 mono st p:=Wm (prog:=prog) (w:=w) To To st p
 fn p q:=k9 (prog:=prog) (w:=w) To To p q
 ty p:=by
  obtain⟨c,its,rfl,t,_⟩:=Q8 p;exact t.typeIs
 eq {A E s u v a b Q} hu p p' q:=by
  obtain⟨c,rfl,k⟩:=kg (prog:=prog) (w:=w) p;obtain⟨c',rfl,k'⟩:=kg (prog:=prog) (w:=w) p';refine wpAny_eqBool_tuple (Nat.lt_of_le_of_lt (Nat.le_add_right _ 8) hu) k k' ?_;have z:decide (([.inl a.1,.inl a.2]:List Key)=[.inl b.1,.inl b.2])=eqO (cf aL aL) a b:=by
   rw[yH,zM,Sj];constructor
   ·intro h;injection h with h1 h2
    injection h2 with h2 _
    exact yM (Sum.inl.inj h1) (Sum.inl.inj h2)
   ·rintro rfl;rfl
  rw[z];exact q
 lt {A E s u v a b Q} f hf hu p p' q:=by
  obtain⟨c,its,rfl,t,i⟩:=Q8 p;obtain⟨c',its',rfl,t',i'⟩:=Q8 p';cases f with
  |true=>exact absurd rfl (hf rfl)
  |false=>
   rw[oneLt'_eq];rw[xz xK];refine ae (HT.lt_tupInts t t' i i' (Nat.lt_of_le_of_lt (Nat.le_add_right _ 8) hu) (zc ?_));exact(mL a b) ▸ q
end
variable{prog:Program}{w:World}{A:Around}{E:Value→Shared→Prop}{s:Shared}
section
theorem Oq{M:Model}{β:Type}{f:Value→Sem β}(F:β→Prop):∀(vs:List Value),(∀v∈vs,∃y,F y∧∀Q:β→Shared→Prop,Q y s→wpAny M A (f v) Q E s)→∃ys:List β,ys.length=vs.length∧(∀y∈ys,F y)∧∀Q:List β→Shared→Prop,Q ys s→wpAny M A (vs.mapM f) Q E s
 | [],_=>⟨[],rfl,(fun _ h=>nomatch h),fun Q q=>by rw[List.mapM_nil];exact pi q⟩
 |v::vs,h=>by
  obtain⟨y,fy,hy⟩:=h v (.head _);obtain⟨ys,l,fys,hys⟩:=Oq F vs fun x hx=>h x (.tail _ hx);refine⟨y::ys,by rw[yn,yn,l],fun z hz=>?_,fun Q q=>?_⟩
  ·rcases xQ.mp hz with e | e
   ·rw[e];exact fy
   ·exact fys z e
  ·rw[List.mapM_cons];exact ae (hy _ (ae (hys _ (pi q))))
theorem oB(v:Value):firstOfTuple' v=(do
  if (←typeOf v) != .type "tuple" then return none
  return (←Builtin.List.listItems v)[0]?):=rfl
variable{O U:KeyOrd}{R:Heap→Value→O.α→Prop}{S:Heap→Value→U.α→Prop}{T V:String}
theorem lK(e:El prog w O R T){vs:List Value}(h:∀v∈vs,∃a,bf R S s.heap v a)(hn:vs≠[]){Q:SortKind→Shared→Prop}(q:Q (tuples' (decide (T≠"tuple"))) s):wpAny (model prog w) A (keyKind' vs.toArray) Q E s:=by
 rw[keyKind'_eq,List.mapM_toArray];obtain⟨ys,yl,yf,hy⟩:=Oq (M:=model prog w) (A:=A) (E:=E) (s:=s) (f:=firstOfTuple') (fun y=>∃x,y=some x∧s.TypeIs x T) vs fun v hv=>by
  obtain⟨a,c,o,n,x,y,rfl,ho,hc,hd,h1,h2⟩:=h v hv;refine⟨some x,⟨x,rfl,e.ty h1⟩,fun Q q=>?_⟩;rw[oB];refine ae (zy (T:="tuple") ⟨o,ho,hc⟩ ?_);rw[xz (by decide)];exact ae (listItems_at ho hd (pi q))
 refine ae (wpAny_map ?_);refine hy _ ?_;have al:ys.toArray.all (·.isSome)=true:=by
  rw[List.all_toArray,yr];intro y hy;obtain⟨x,rfl,_⟩:=yf y hy;rfl
 rw[xC al];refine ae (z7 ?_);rw[oneTypeOnly'_eq,List.filterMap_toArray,List.mapM_toArray];have ht:∀x∈ys.filterMap id,s.TypeIs x T:=fun x hx=>by
  obtain⟨y,hy,ey⟩:=zo.mp hx;obtain⟨x',rfl,t⟩:=yf y hy;cases (show x'=x from xV ey);exact t
 obtain⟨ts,tl,tf,htt⟩:=Oq (M:=model prog w) (A:=A) (E:=E) (s:=s) (f:=typeOf) (fun y=>y=.type T) (ys.filterMap id) fun v hv=>⟨_,rfl,fun Q q=>zy (ht v hv) q⟩;refine ae (ae (wpAny_map ?_));refine htt _ ?_;have fl:(ys.filterMap id).length=ys.length:=by
  clear hy al ht htt tl tf yl
  induction ys with
  |nil=>rfl
  |cons y ys ih=>
   obtain⟨x,rfl,_⟩:=yf y (.head _);rw[show List.filterMap id (some x::ys)=x::ys.filterMap id from rfl,yn,yn,ih fun z hz=>yf z (.tail _ hz)]
 cases ts with
 |nil=>
  rw[yQ,fl,yl]at tl;exact absurd (List.eq_nil_of_length_eq_zero tl.symm) hn
 |cons t ts=>
  have t0:t=.type T:=tf t (.head _);subst t0;show wpAny _ _ (pure (if ((Value.type T::ts).toArray.all (· == Value.type T))=true then some (Value.type T)else none)) _ _ s;rw[xC (by
   rw[List.all_toArray,yr];intro y hy;rw[tf y hy];exact beq_self_eq_true _)]
  refine pi (pi ?_);have z:(some (Value.type T)).any (· != Value.type "tuple")=decide (T≠"tuple"):=by
   show(Value.type T != Value.type "tuple")=_;rw[yH,bne_iff_ne,zM];exact⟨fun h e=>h (by rw[e]),fun h e=>h (by injection e)⟩
  rw[z];exact q
def uI{O:KeyOrd}(R:Value→O.α→Prop)(vs:List Value):Prop:=vs.Pairwise fun x y=>∀a b,R x a→R y b→O.blt b a=false
theorem gj{vs:List Value}{p:Value×Value}(h:p∈vs.zip vs):p.1=p.2∧p.1∈vs:=mem_zip_self h
theorem iX{O:KeyOrd}{R:Value→O.α→Prop}(fn:∀{v a b},R v a→R v b→a=b){d:O.α}{vs:List Value}(hk:∀v∈vs,∃a,R v a){xs:Array Keyed}(pm:xs.Perm (pairsOf vs))(r:Rz (eM O R d) xs (pairsOf vs).size):
  (xs.map (·.2)).toList.Perm vs∧uI R (xs.map (·.2)).toList:=by
 have pl:xs.toList.Perm (vs.zip vs):=by rw[←pairsOf_toList];exact Array.perm_iff_toList_perm.mp pm
 have both:∀p∈xs.toList,p.1=p.2∧p.1∈vs:=fun p hp=>gj (pl.mem_iff.mp hp);rw[Array.toList_map];constructor
 ·have q:=pl.map Prod.snd;rw[List.map_snd_zip (xA _)]at q;exact q
 ·unfold uI;rw[List.pairwise_iff_getElem];intro i j hi hj hij a b ha hb;rw[az]at hi hj;have hi':i<xs.size:=by rw[←yA];exact hi
  have hj':j<xs.size:=by rw[←yA];exact hj
  have key:∀{k:Nat}(hk':k<xs.size){c:O.α},R xs[k].2 c→KK (eM O R d) xs k=c:=by
   intro k hk' c hc;have e:=(both xs[k] (Array.mem_toList_iff.mpr (Array.getElem_mem hk'))).1;rw[←e]at hc;obtain⟨c',h'⟩:=jJ (d:=d) hc;have:c'=c:=fn (N6 h') hc;unfold KK;rw[x9 hk'];show((eM O R d).keyOf xs[k].1).getD _=c;rw[h',this];rfl
  rw[List.getElem_map,Array.getElem_toList]at ha hb;have q:=r i j (zw hij) (by rw[←pm.size_eq];exact hj');rw[key hi' ha,key hj' hb]at q;exact q
theorem gX{h:Heap}{l b:Addr}{g:Obj→Obj}{o1 o2:Obj}(lt:b<h.objs.size):(((h.update l g).push o1).push o2).get? b=(h.update l g).get? b:=by
 have l1:b<(h.update l g).objs.size:=by rw[Heap.size_update];exact lt
 rw[Heap.get?_push_ne _ _ _ (xM (by rw[size_push'];exact Nat.lt_succ_of_lt l1)),Heap.get?_push_ne _ _ _ (xM l1)]
theorem mw{h:Heap}{l:Addr}{vs:List Value}{n:Nat}(ho:h.get? l=some (seqObj "list" vs.toArray n))(o1 o2:Obj):c9 h (((h.update l (Obj.mapSeq fun _=>#[])).push o1).push o2):=by
 intro b o hb hc;have ne:b≠l:=fun z=>by
  rw[z,ho]at hb;cases hb;exact absurd hc (by show ¬Value.type "list"=Value.type "tuple";intro z;injection z with z;exact absurd z (by decide))
 have lt:=xG hb;rw[gX lt,Heap.get?_update_ne _ _ _ _ ne];exact hb
theorem jz(e:El prog w O R T)(f:El prog w U S V){l:Addr}{vs:List Value}{n:Nat}{P:Fin→Shared→Prop}(ho:s.heap.get? l=some (seqObj "list" vs.toArray n))(hk:∀v∈vs,∃a,bf R S s.heap v a)(h64:vs.length<64)(hu:A.units+8<cLine)(d:O.α×U.α)(fin:∀out:Array Value,out.toList.Perm vs→uI (O:=cf O U) (bf R S s.heap) out.toList→P (.done (.ret .none)) {s with heap:=sortedHeap s.heap l vs out}):wpAny (model prog w) A (Builtin.«list.sort» ⟨[.ref l],[]⟩) P E s:=by
 rw[list_sort_plain];refine ae (listItems_at ho rfl ?_);refine ae (listUpdate_at ho rfl ?_);obtain⟨e1,ho1⟩:∃m,(s.heap.update l (Obj.mapSeq fun _=>#[])).get? l=some (seqObj "list" #[] m):=⟨_,get?_update_seq ho fun _=>#[]⟩;refine ae (seqEpoch_at ho1 rfl ?_);refine ae (wpAny_newTuple ?_);refine ae (wpAny_newList ?_);refine yp ?_;have ll:=xG ho;have ho2:(((s.heap.update l (Obj.mapSeq fun _=>#[])).push (seqObj "tuple" vs.toArray 0)).push (seqObj "list" #[] 0)).get? l=some (seqObj "list" #[] e1):=by
  rw[gX ll];exact ho1
 have st:=mw ho (seqObj "tuple" vs.toArray 0) (seqObj "list" #[] 0);have hk':∀v∈vs,∃a,bf R S (((s.heap.update l (Obj.mapSeq fun _=>#[])).push (seqObj "tuple" vs.toArray 0)).push (seqObj "list" #[] 0)) v a:=fun v hv=>let ⟨a,h⟩:=hk v hv;⟨a,Wm e f st h⟩
 have back:∀{v a},v∈vs→bf R S s.heap v a→bf R S (((s.heap.update l (Obj.mapSeq fun _=>#[])).push (seqObj "tuple" vs.toArray 0)).push (seqObj "list" #[] 0)) v a:=fun _ h=>Wm e f st h;show wpAny (model prog w) A _ P E {s with heap:=((s.heap.update l (Obj.mapSeq fun _=>#[])).push (seqObj "tuple" vs.toArray 0)).push (seqObj "list" #[] 0)};dsimp only;have vsz:vs.toArray.size=vs.length:=xU;have finish:∀u:SortSt,(arrOf u).Perm (pairsOf vs)→failedOf u=none→Rz (eM (cf O U) (bf R S (((s.heap.update l (Obj.mapSeq fun _=>#[])).push (seqObj "tuple" vs.toArray 0)).push (seqObj "list" #[] 0))) d) (arrOf u) (pairsOf vs).size→
   P (.done (.ret .none)) {s with heap:=sortedHeap s.heap l vs ((arrOf u).map (·.2))}:=fun u pm _ r=>by
  obtain⟨p1,p2⟩:=iX (O:=cf O U) (R:=bf R S (((s.heap.update l (Obj.mapSeq fun _=>#[])).push (seqObj "tuple" vs.toArray 0)).push (seqObj "list" #[] 0))) (fun h g=>k9 e f h g) hk' pm r;exact fin _ p1 (p2.imp_of_mem fun{x y} hx hy h a b ha hb=>h a b (back (p1.mem_iff.mp hx) ha) (back (p1.mem_iff.mp hy) hb))
 by_cases c:vs.toArray.size<2
 ·rw[xC c,xC c];refine ae (pi ?_);rw[StateT.run_pure];refine ae (pi ?_);dsimp only;refine ae (seqEpoch_at ho2 rfl ?_);refine ae (listUpdate_at ho2 rfl ?_ (hsz2:=by rw[Array.size_map];show(pairsOf vs).size≤_;rw[pairsOf_size];exact yi (zw h64) (by decide)));rw[show(e1 != e1)=false from bne_self_eq_false e1];rw[xz xK];refine pi (finish (SortSt.mk' general' (vs.toArray.zip vs.toArray) #[] 7 none) (Array.Perm.refl _) rfl fun i j hij hj=>?_);obtain rfl:i=j:=by rw[pairsOf_size]at hj;omega
  exact(eM (cf O U) _ d).irrefl _
 ·rw[xz c,xz c];have vn:vs≠[]:=fun z=>by rw[z]at c;exact c (by decide)
  refine ae (lK (O:=O) (U:=U) e hk' vn ?_);have hc:=px (A:=A) (s:={s with heap:=((s.heap.update l (Obj.mapSeq fun _=>#[])).push (seqObj "tuple" vs.toArray 0)).push (seqObj "list" #[] 0)}) e f hu d (decide (T≠"tuple")) (fun z=>xH z);refine ae (yN (qP (E:=E) (xs0:=pairsOf vs) (st:=SortSt.mk' (tuples' (decide (T≠"tuple"))) (vs.toArray.zip vs.toArray) #[] 7 none) (Q:=fun _ u=>(arrOf u).Perm (pairsOf vs)∧failedOf u=none∧Rz _ (arrOf u) (pairsOf vs).size) hc
   (fun p hp=>?_) ⟨Array.Perm.refl _,rfl,rfl,rfl⟩ (by rw[pairsOf_size];omega) (by rw[pairsOf_size];exact h64) fun u a1 a2 a3=>⟨a1,a2,a3⟩) ?_ fun _ _ z=>z)
  ·rw[pairsOf_toList]at hp;obtain⟨a,ha⟩:=hk' p.1 (gj hp).2;exact jJ ha
  rintro⟨⟨⟩,u⟩ s2 ⟨rfl,pm,fl,r⟩;dsimp only;refine ae (seqEpoch_at ho2 rfl ?_);refine ae (listUpdate_at ho2 rfl ?_ (hsz2:=by rw[Array.size_map];exact yi (Nat.le_of_eq (pm.size_eq.trans (pairsOf_size _))) (yi (zw h64) (by decide))));rw[fl];rw[show(e1 != e1)=false from bne_self_eq_false e1];rw[xz xK];exact pi (finish u pm fl r)
end
section
variable{X:Cx}
theorem l_{as:List Addr}{out:List Value}(h:out.Perm (as.map Value.ref)):∃bs:List Addr,bs.Perm as∧out=bs.map Value.ref:=by
 let g:Value→Addr:=fun v=>match v with | .ref a=>a | _=>0
 refine⟨out.map g,?_,?_⟩
 ·have q:=h.map g;rw[x8]at q;rw[show(g∘Value.ref)=id from rfl,List.map_id]at q;exact q
 ·rw[x8];have e:∀l:List Value,(∀v∈l,∃a,v=.ref a)→l=l.map (Value.ref∘g):=fun l hl=>by
   induction l with
   |nil=>rfl
   |cons v l ih=>
    obtain⟨a,rfl⟩:=hl v (.head _);rw[xD,←ih fun x hx=>hl x (.tail _ hx)];rfl
  exact e out fun v hv=>by
   obtain⟨a,_,rfl⟩:=xB.mp (h.mem_iff.mp hv);exact⟨a,rfl⟩
theorem iL{As:List (Addr×Obj)}{σ:St}{H:Hp}{s:Shared}{a:Addr}{x y:V}(I:Inv X As σ H s)(h:H a=some (.tup [x,y])):∃o n u v,s.heap.get? a=some o∧o.cls=.type "tuple"∧o.data=.seq #[u,v] n∧RelV x u∧RelV y v:=by
 obtain⟨_,its,r,o,e1,e2,n,e3⟩:=(show ObjOk X.prog X.w H s.heap a (.tup [x,y])from I.hok a _ h);obtain⟨u,v,rfl,ru,rv⟩:=m8 r;exact⟨o,n,u,v,e1,e2.1,e3,ru,rv⟩
def FII(H:Hp)(a:Addr)(k:(cf aL aL).α):Prop:=∃(i j:Int),H a=some (.tup [.int i,.int j])∧k=(i,j)
def FTI(H:Hp)(a:Addr)(k:(cf (cf aL aL) aL).α):Prop:=∃(b:Addr)(i j n:Int),H a=some (.tup [.ref b,.int n])∧H b=some (.tup [.int i,.int j])∧k=((i,j),n)
end
def RwD(h:Heap)(d:Addr)(es:Array DictEntry)(ep:Nat):Prop:=∃o,h.get? d=some o∧o.ExactDict∧o.data=.dict es ep
theorem RwD.typeIs{s:Shared}{d:Addr}{es:Array DictEntry}{ep:Nat}(x:RwD s.heap d es ep):s.TypeIs (.ref d) "dict":=let ⟨o,h,c,_⟩:=x;⟨o,h,c.1⟩
theorem RwD.at{h g:Heap}{d:Addr}{es:Array DictEntry}{ep:Nat}(x:RwD h d es ep)(k:∀o,h.get? d=some o→g.get? d=some o):RwD g d es ep:=let ⟨o,h,r⟩:=x;⟨o,k _ h,r⟩
theorem RwD.lt{h:Heap}{d:Addr}{es:Array DictEntry}{ep:Nat}(x:RwD h d es ep):d<h.objs.size:=let ⟨_,h,_⟩:=x;xG h
theorem Ug:Builtin.Dict_items.ownsTuple "dict_keyiterator"=false∧Builtin.Dict_items.ownsTuple "dict_valueiterator"=false∧Builtin.Dict_items.ownsTuple "dict_itemiterator"=true:=by decide
theorem Vm(d:Addr):¬((Value.ref d==Value.none)=true):=xK
section
variable{prog:Program}{w:World}{A:Around}{E:Value→Shared→Prop}{s:Shared}{it d:Addr}{i ep:Nat}{es:Array DictEntry}
theorem bP{α β:Type}{M:Model}{a:α}{k:α→Sem β}{Q:β→Shared→Prop}(h:wpAny M A (k a) Q E s):wpAny M A (pure a >>= k) Q E s:=ae (pi h)
theorem Us{T id:String}{B:Builtin}{Q:Option Value→Shared→Prop}(ty:s.TypeIs (.ref it) T)(sl:Slot T (Str.ofString "__next__") id)(en:entryFor table id=some B)(ar:argsOk id {pos:=[.ref it]})(h:wpAny (model prog w) A.in1 (B ⟨[.ref it],[]⟩) (fun fin s'=>∃v,fin=.done (.ret v)∧Q (some v) s') (fun e s'=>s'.TypeIs e "StopIteration"∧Q none s') s):wpAny (model prog w) A (pyNext (.ref it)) Q E s:=by
 unfold pyNext;refine ae (wpAny_attempt (wpAny_callSpecial?_slotG ty sl.toG (yN (yV sl ty en (Q:=fun v s'=>Q (some v) s') h ar) (fun v s' q=>pi q) (fun e s' q=>?_))));exact ae (wpAny_isInstance q.1 isSubtype_stop (by rw[xC rfl];exact pi q.2))
theorem kG{Q:Option Value→Shared→Prop}(zi:s.heap.IsKeyIter it d i es.size ep)(zm:RwD s.heap d es ep)(zx:i<es.size)(zq:∀g:Heap,g.IsKeyIter it d (i+1) es.size ep→Heap.SameBut it s.heap g→Q (some es[i].key) {s with heap:=g}):wpAny (model prog w) A (pyNext (.ref it)) Q E s:=by
 obtain⟨o,go,co,fo⟩:=id zi;obtain⟨od,yo,_,yd⟩:=zm;refine Us zi.typeIs PySem.F.slot_dict_keyiterator_next PySem.F.entry_dict_keyiterator_next (PySem.F.args_dict_keyiterator_next_1 _) (bP (ae (ae (ae (zC zi.typeIs (pi (ae (Af go fo ?_))))))));simp only[Ug.1,Bool.false_eq_true,if_false];show wpAny (model prog w) _ (if (Value.ref d==Value.none)=true then _ else _) _ _ s;rw[xz (Vm d)];refine bP (ae (ym yo yd ?_));rw[if_neg (by simp)];refine bP (wpAny_bind (wpAny_dictEpoch yo yd ?_));rw[if_neg (by simp)];refine wpAny_pure ?_;simp only[show ¬((i:Int)<0)from by omega,if_false,Int.toNat_natCast,Array.getElem?_eq_getElem zx];refine ae (ae (zC zi.typeIs (pi (ae (wpAny_isOneOf_keyiter zi.typeIs ?_)))));show wpAny _ _ (setField (.ref it) 1 (rawInt ((i:Int)+1)) >>= fun _=>_) _ _ s;refine wpAny_bind (wpAny_setField go fo (by simp) ?_);have zj:(s.heap.update it (Obj.mapFields (·.setIfInBounds 1 (rawInt ((i:Int)+1))))).IsKeyIter it d (i+1) es.size ep:=⟨_,Heap.get?_update_self _ go (Obj.isFreed_of_fields (Obj.data_mapFields fo _)),(Obj.cls_mapFields ..).trans co,by rw[Obj.data_mapFields fo];simp[rawInt]⟩;have ty:Shared.TypeIs {s with heap:=s.heap.update it (Obj.mapFields (·.setIfInBounds 1 (rawInt ((i:Int)+1))))} (.ref it) "dict_keyiterator":=zj.typeIs;refine ae (yp (ae (wpAny_isOneOf_keyiter ty ?_)));show wpAny _ _ (pure es[i].key) _ _ {s with heap:=_};exact pi (pi ⟨_,rfl,zq _ zj (Heap.SameBut.update ..)⟩)
theorem j5{Q:Option Value→Shared→Prop}(zh:A.handled=none)(zi:s.heap.IsKeyIter it d i es.size ep)(zm:RwD s.heap d es ep)(zx:es.size≤i)(zq:∀g:Heap,Heap.ExtBut it s.heap g→Q none {s with heap:=g}):wpAny (model prog w) A (pyNext (.ref it)) Q E s:=by
 obtain⟨o,go,co,fo⟩:=id zi;obtain⟨od,yo,_,yd⟩:=zm;refine Us zi.typeIs PySem.F.slot_dict_keyiterator_next PySem.F.entry_dict_keyiterator_next (PySem.F.args_dict_keyiterator_next_1 _) (bP (ae (ae (ae (zC zi.typeIs (pi (ae (Af go fo ?_))))))));simp only[Ug.1,Bool.false_eq_true,if_false];show wpAny (model prog w) _ (if (Value.ref d==Value.none)=true then _ else _) _ _ s;rw[xz (Vm d)];refine bP (ae (ym yo yd ?_));rw[if_neg (by simp)];refine bP (wpAny_bind (wpAny_dictEpoch yo yd ?_));rw[if_neg (by simp)];refine wpAny_pure ?_;simp only[show ¬((i:Int)<0)from by omega,if_false,Int.toNat_natCast,Array.getElem?_eq_none zx];refine ae (ae (zC zi.typeIs (pi ?_)));show wpAny _ _ (setField (.ref it) 0 .none >>= fun _=>_) _ _ s;refine wpAny_bind (wpAny_setField go fo (by simp) (Td (by simpa using zh) fun g e k ty=>⟨ty,zq g fun b u nb eb=>k b u ?_⟩));exact(yW _ _ (Ne.symm nb)).trans eb
theorem qH{Q:Option Value→Shared→Prop}(zi:s.heap.IsValIter it d i es.size ep)(zm:RwD s.heap d es ep)(zx:i<es.size)(zq:∀g:Heap,g.IsValIter it d (i+1) es.size ep→Heap.SameBut it s.heap g→Q (some es[i].val) {s with heap:=g}):wpAny (model prog w) A (pyNext (.ref it)) Q E s:=by
 obtain⟨o,go,co,fo⟩:=id zi;obtain⟨od,yo,_,yd⟩:=zm;refine Us zi.typeIs PySem.F.slot_dict_valueiterator_next PySem.F.entry_dict_valueiterator_next (PySem.F.args_dict_valueiterator_next_1 _) (bP (ae (ae (ae (zD zi.typeIs (pi (ae (Af go fo ?_))))))));simp only[Ug.2.1,Bool.false_eq_true,if_false];show wpAny (model prog w) _ (if (Value.ref d==Value.none)=true then _ else _) _ _ s;rw[xz (Vm d)];refine bP (ae (ym yo yd ?_));rw[if_neg (by simp)];refine bP (wpAny_bind (wpAny_dictEpoch yo yd ?_));rw[if_neg (by simp)];refine wpAny_pure ?_;simp only[show ¬((i:Int)<0)from by omega,if_false,Int.toNat_natCast,Array.getElem?_eq_getElem zx];refine ae (ae (zD zi.typeIs (pi (ae (wpAny_isOneOf_valiter zi.typeIs ?_)))));show wpAny _ _ (setField (.ref it) 1 (rawInt ((i:Int)+1)) >>= fun _=>_) _ _ s;refine wpAny_bind (wpAny_setField go fo (by simp) ?_);have zj:(s.heap.update it (Obj.mapFields (·.setIfInBounds 1 (rawInt ((i:Int)+1))))).IsValIter it d (i+1) es.size ep:=⟨_,Heap.get?_update_self _ go (Obj.isFreed_of_fields (Obj.data_mapFields fo _)),(Obj.cls_mapFields ..).trans co,by rw[Obj.data_mapFields fo];simp[rawInt]⟩;have ty:Shared.TypeIs {s with heap:=s.heap.update it (Obj.mapFields (·.setIfInBounds 1 (rawInt ((i:Int)+1))))} (.ref it) "dict_valueiterator":=zj.typeIs;refine ae (yp (ae (wpAny_isOneOf_valiter ty ?_)));refine ae (wpAny_isOneOf_valiter ty ?_);show wpAny _ _ (pure es[i].val) _ _ {s with heap:=_};exact pi (pi ⟨_,rfl,zq _ zj (Heap.SameBut.update ..)⟩)
theorem p9{Q:Option Value→Shared→Prop}(zh:A.handled=none)(zi:s.heap.IsValIter it d i es.size ep)(zm:RwD s.heap d es ep)(zx:es.size≤i)(zq:∀g:Heap,Heap.ExtBut it s.heap g→Q none {s with heap:=g}):wpAny (model prog w) A (pyNext (.ref it)) Q E s:=by
 obtain⟨o,go,co,fo⟩:=id zi;obtain⟨od,yo,_,yd⟩:=zm;refine Us zi.typeIs PySem.F.slot_dict_valueiterator_next PySem.F.entry_dict_valueiterator_next (PySem.F.args_dict_valueiterator_next_1 _) (bP (ae (ae (ae (zD zi.typeIs (pi (ae (Af go fo ?_))))))));simp only[Ug.2.1,Bool.false_eq_true,if_false];show wpAny (model prog w) _ (if (Value.ref d==Value.none)=true then _ else _) _ _ s;rw[xz (Vm d)];refine bP (ae (ym yo yd ?_));rw[if_neg (by simp)];refine bP (wpAny_bind (wpAny_dictEpoch yo yd ?_));rw[if_neg (by simp)];refine wpAny_pure ?_;simp only[show ¬((i:Int)<0)from by omega,if_false,Int.toNat_natCast,Array.getElem?_eq_none zx];refine ae (ae (zD zi.typeIs (pi ?_)));show wpAny _ _ (setField (.ref it) 0 .none >>= fun _=>_) _ _ s;refine wpAny_bind (wpAny_setField go fo (by simp) (Td (by simpa using zh) fun g e k ty=>⟨ty,zq g fun b u nb eb=>k b u ?_⟩));exact(yW _ _ (Ne.symm nb)).trans eb
theorem lq{Q:Value→Shared→Prop}(lo:(d==sysModules)=false)(zm:RwD s.heap d es ep)(zq:Q (.ref s.heap.objs.size) {s with heap:=s.heap.push {cls:=.type "dict_keyiterator",data:=.fields #[.ref d,.int 0 0,.int es.size 0,.int ep 0]}}):wpAny (model prog w) A (pyIter (.ref d)) Q E s:=by
 obtain⟨o,yo,_,yd⟩:=id zm;refine wpAny_pyIter_slot zm.typeIs PySem.F.slot_dict_iter (yV PySem.F.slot_dict_iter zm.typeIs PySem.F.entry_dict_iter (ae (ae (y3 zm.typeIs ?_))) (PySem.F.args_dict_iter_1 _));show wpAny (model prog w) _ (pure (Value.ref d)) _ _ s;refine pi (show wpAny (model prog w) _ (Builtin.Dict.showsAll d >>= fun _=>_) _ _ s from ae ?_);unfold Builtin.Dict.showsAll;rw[lo,xz (by decide)];refine pi (ae (ym yo yd (ae (Ai yo yd (ae (yS (pi ⟨_,rfl,"dict_keyiterator",_,⟨_,xO _ rfl,rfl⟩,PySem.F.slot_dict_keyiterator_next.lookup,?_⟩)))))));simpa [rawInt] using zq
theorem qr{v:Addr}{Q:Value→Shared→Prop}(zv:s.heap.IsValuesView v d)(zm:RwD s.heap d es ep)(zq:Q (.ref s.heap.objs.size) {s with heap:=s.heap.push {cls:=.type "dict_valueiterator",data:=.fields #[.ref d,.int 0 0,.int es.size 0,.int ep 0]}}):wpAny (model prog w) A (pyIter (.ref v)) Q E s:=by
 obtain⟨ov,vo,_,vd⟩:=id zv;obtain⟨o,yo,_,yd⟩:=id zm;refine wpAny_pyIter_slot zv.typeIs PySem.F.slot_dict_values_iter (yV PySem.F.slot_dict_values_iter zv.typeIs PySem.F.entry_dict_values_iter (bP (ae (ae (zL vo vd (x:=.ref d) rfl (pi (ae ?_)))))) (PySem.F.args_dict_values_iter_1 _));unfold Builtin.Dict_items.newIterator;skip;refine ae (ym yo yd (ae (Ai yo yd ?_)));simp only[Ug.2.1,Bool.false_eq_true,if_false];refine wpAny_newObj_type (wpAny_pure ⟨_,rfl,"dict_valueiterator",_,⟨_,Heap.get?_push_size _ rfl,rfl⟩,PySem.F.slot_dict_valueiterator_next.lookup,by simpa [rawInt] using zq⟩)
theorem oF(zh:A.handled=none)(I d:Addr)(ne:d≠I)(es:Array DictEntry)(ep:Nat):Walks prog w A I [I,d] [I] es.size (fun i v=>∃e,es[i]?=some e∧v=e.key) (fun i h=>h.IsKeyIter I d i es.size ep∧RwD h d es ep) where
 sub:=fun b zb=>by rw[xF.mp zb];exact .head _
 frame:=fun _ _ _ st k=>⟨st.1.at fun o e=>k I (.head _) o e,st.2.at fun o e=>k d (.tail _ (.head _)) o e⟩
 item:=fun i s Q E zi st q=>kG st.1 st.2 zi fun g z sb=>q _ g s.toks ⟨_,x9 zi,rfl⟩ ⟨z,st.2.at fun o e=>sb.extBut d o ne e⟩ fun b o nb e=>sb.extBut b o (fun z=>nb (by rw[z];exact .head _)) e
 done:=fun s Q E st q=>j5 zh st.1 st.2 (xA _) fun g x=>q g s.toks fun b o nb e=>x b o (fun z=>nb (by rw[z];exact .head _)) e
 self:=fun _ _ _ _ st q=>wpAny_pyIter_keyiter st.1 q
theorem nY(zh:A.handled=none)(I d:Addr)(ne:d≠I)(es:Array DictEntry)(ep:Nat):Walks prog w A I [I,d] [I] es.size (fun i v=>∃e,es[i]?=some e∧v=e.val) (fun i h=>h.IsValIter I d i es.size ep∧RwD h d es ep) where
 sub:=fun b zb=>by rw[xF.mp zb];exact .head _
 frame:=fun _ _ _ st k=>⟨st.1.at fun o e=>k I (.head _) o e,st.2.at fun o e=>k d (.tail _ (.head _)) o e⟩
 item:=fun i s Q E zi st q=>qH st.1 st.2 zi fun g z sb=>q _ g s.toks ⟨_,x9 zi,rfl⟩ ⟨z,st.2.at fun o e=>sb.extBut d o ne e⟩ fun b o nb e=>sb.extBut b o (fun z=>nb (by rw[z];exact .head _)) e
 done:=fun s Q E st q=>p9 zh st.1 st.2 (xA _) fun g x=>q g s.toks fun b o nb e=>x b o (fun z=>nb (by rw[z];exact .head _)) e
 self:=fun _ _ _ _ st q=>wpAny_pyIter_valiter st.1 q
theorem tU(lo:(d==sysModules)=false):W.KdlSrc prog w "dict" d d es.size (fun i v=>∃e,es[i]?=some e∧v=e.key) (fun h=>RwD h d es ep) where
 type:=fun _ z=>z.typeIs
 there:=fun _ z=>⟨z.lt,z.lt⟩
 keep:=fun _ _ z k=>z.at fun o e=>k d (.inl rfl) o e
 notList:=by decide
 notTuple:=by decide
 hint:=fun _ _ _ _ z q=>W.kdl_hint_dict z.typeIs q
 iter:=fun _ _ zh z=>⟨_,_,(fun _ _ q=>lq lo z q),oF zh _ d (xM z.lt) es ep,⟨⟨_,xO _ rfl,rfl,rfl⟩,z.at fun o e=>io _ e⟩⟩
theorem ng{f:DictEntry→Value}{xs:Array Value}(h:ItemsOf (fun i v=>∃e,es[i]?=some e∧v=f e) xs es.size):xs.toList=es.toList.map f:=by
 obtain⟨sz,at_⟩:=h;refine List.ext_getElem? fun j=>?_;rw[yk,xZ,yk];by_cases hj:j<xs.size
 ·obtain⟨e,h1,h2⟩:=at_ j xs[j] (x9 hj);rw[x9 hj,h1,h2];rfl
 ·rw[Array.getElem?_eq_none (by omega),Array.getElem?_eq_none (by omega)];rfl
end
abbrev Sps:=List ((Int×Int)×Int)
def kk(p:Int×Int):List Key:=[.inl p.1,.inl p.2]
def af(ps:Sps):List (List Key×V):=ps.map fun p=>(kk p.1,.int p.2)
theorem Vd{p q:Int×Int}(e:kk p=kk q):p=q:=by
 unfold kk at e;injection e with e1 e2
 injection e2 with e2 _
 exact yM (Sum.inl.inj e1) (Sum.inl.inj e2)
theorem Zk(ps:Sps):(af ps).length=ps.length:=az _
theorem Vg(ps:Sps):(af ps).map (·.1)=(ps.map (·.1)).map kk:=by
 unfold af;rw[x8,x8];rfl
def KsAt(H:Hp):List Addr→List (Int×Int)→Prop:=Paired fun b k=>H b=some (.tup [.int k.1,.int k.2])
theorem KsAt.mono{H H':Hp}{bs:List Addr}{ks:List (Int×Int)}(h:KsAt H bs ks)(g:∀b xs,H b=some (.tup xs)→H' b=some (.tup xs)):KsAt H' bs ks:=Paired.mapP h fun _ _ e=>g _ _ e
def leK(a b:Int×Int):Bool:=decide (a.1<b.1) || (decide (a.1=b.1) && decide (a.2≤b.2))
theorem U0{a b:Int×Int}:leK a b=true↔a.1<b.1∨(a.1=b.1∧a.2≤b.2):=by
 unfold leK;simp only[Bool.or_eq_true,Bool.and_eq_true,decide_eq_true_iff]
theorem lU(a b:Int×Int):(leK a b || leK b a)=true:=by
 rw[Bool.or_eq_true,U0,U0];omega
theorem mS(a b c:Int×Int)(h1:leK a b=true)(h2:leK b c=true):leK a c=true:=by
 rw[U0]at *;omega
theorem pH{a b:Int×Int}(h1:leK a b=true)(h2:leK b a=true):a=b:=by
 rw[U0]at h1 h2;exact yM (by omega) (by omega)
def eK(ks:List (Int×Int)):List (Int×Int):=ks.mergeSort leK
theorem Su(ks:List (Int×Int)):(eK ks).Perm ks:=List.mergeSort_perm _ _
theorem Oz(ks:List (Int×Int)):(eK ks).Pairwise (fun a b=>leK a b=true):=List.pairwise_mergeSort mS lU ks
theorem gZ:∀{l m:List (Int×Int)},l.Perm m→l.Pairwise (fun a b=>leK a b=true)→m.Pairwise (fun a b=>leK a b=true)→l=m
 | [],m,p,_,_=>List.Perm.nil_eq p
 |a::l,[],p,_,_=>absurd p.length_eq (by simp)
 |a::l,b::m,p,h1,h2=>by
  have e:a=b:=by
   rcases xQ.mp (p.mem_iff.mp yj)with q | q
   ·exact q
   ·rcases xQ.mp (p.mem_iff.mpr yj)with r | r
    ·exact r.symm
    ·exact pH ((yU.mp h1).1 b r) ((yU.mp h2).1 a q)
  subst e;rw[gZ ((List.perm_cons a).mp p) (yU.mp h1).2 (yU.mp h2).2]
theorem mP{H:Hp}{as bs:List Addr}{ks:List (Int×Int)}(h:KsAt H as ks)(p:bs.Perm as)(pw:bs.Pairwise fun a b=>∀k l,FII H a k→FII H b l→(cf aL aL).blt l k=false):KsAt H bs (eK ks):=by
 let key:Addr→Int×Int:=fun b=>match H b with
  |some (.tup [.int i,.int j])=>(i,j)
  |_=>(0,0)
 have kat:∀{b:Addr}{k:Int×Int},H b=some (.tup [.int k.1,.int k.2])→key b=k:=fun{b k} e=>by
  show(match H b with | some (.tup [.int i,.int j])=>(i,j) | _=>(0,0))=k;rw[e]
 have all:∀{l:List Addr}{m:List (Int×Int)},KsAt H l m→l.map key=m∧∀b∈l,H b=some (.tup [.int (key b).1,.int (key b).2]):=fun{l m} r=>by
  induction r with
  |nil=>exact⟨rfl,fun _ h=>nomatch h⟩
  | @cons b k l m e _ ih=>
   have kb:=kat e;refine⟨by rw[xD,kb,ih.1],fun c hc=>?_⟩
   rcases xQ.mp hc with rfl | hc
   ·rw[kb];exact e
   ·exact ih.2 c hc
 obtain⟨e1,e2⟩:=all h;have atb:∀b∈bs,H b=some (.tup [.int (key b).1,.int (key b).2]):=fun b hb=>e2 b (p.mem_iff.mp hb);have back:∀{l:List Addr},(∀b∈l,H b=some (.tup [.int (key b).1,.int (key b).2]))→KsAt H l (l.map key):=fun{l} hl=>by
  induction l with
  |nil=>exact .nil
  |cons b l ih=>exact .cons (hl b (.head _)) (ih fun c hc=>hl c (.tail _ hc))
 have eq:bs.map key=eK ks:=by
  refine gZ ((p.map key).trans (by rw[e1];exact(Su ks).symm)) (yZ.mpr (pw.imp_of_mem fun{a b} ha hb q=>?_)) (Oz ks);have q:=q (key a) (key b) ⟨_,_,atb a ha,rfl⟩ ⟨_,_,atb b hb,rfl⟩;rw[U0];by_cases c:(key a).1<(key b).1
  ·exact .inl c
  ·by_cases c2:(key b).1<(key a).1
   ·exact absurd (Yp (O:=aL) (U:=aL) (a:=key b) (b:=key a) |>.mpr (.inl (xJ c2))) (by rw[show cP aL aL (key b) (key a)=false from q];decide)
   ·have e:(key b).1=(key a).1:=by omega
    by_cases c3:(key b).2<(key a).2
    ·exact absurd (Yp (O:=aL) (U:=aL) (a:=key b) (b:=key a) |>.mpr (.inr ⟨e,xJ c3⟩)) (by rw[show cP aL aL (key b) (key a)=false from q];decide)
    ·exact .inr ⟨e.symm,by omega⟩
 rw[←eq];exact back atb
section
variable{X:Cx}
theorem O2{O U:KeyOrd}{R:Heap→Value→O.α→Prop}{S:Heap→Value→U.α→Prop}{T W:String}(e:El X.prog X.w O R T)(f:El X.prog X.w U S W)(F:Hp→Addr→(cf O U).α→Prop)(br:∀{As:List (Addr×Obj)} {σ:St} {H:Hp} {s:Shared} {a:Addr} {k:O.α×U.α},Inv X As σ H s→F H a k→bf R S s.heap (.ref a) k)(d:O.α×U.α)(hu:X.A.units+64<cLine){As:List (Addr×Obj)}{s:Shared}{σ:St}{p:Addr}{Q:VK}(src:∀{E:Value→Shared→Prop} {C:List Value→Shared→Prop},(∀(g:Heap) (tk:Nat) (H:Hp) (as:List Addr),Inv X As σ H {s with heap:=g,toks:=tk}→as.length<64→(∀a∈as,∃k,F H a k)→
   (∀bs:List Addr,bs.Perm as→(bs.Pairwise fun a b=>∀k l,F H a k→F H b l→(cf O U).blt l k=false)→∀q,H q=none→Q (.ref q) (upd H q (.lst (bs.map V.ref))))→C (as.map Value.ref) {s with heap:=g,toks:=tk})→wpAny (model X.prog X.w) X.A.in1 (collect (.ref p)) C E s):
  wpAny (model X.prog X.w) X.A (call (.builtin "sorted") [.ref p]) (EP X As σ Q) X.xe s:=by
 refine Calls.call_function_entry kind_sorted plain_sorted entry_sorted (args_sorted1 _) ?_;unfold Builtin.«sorted»;refine ae (m:=checkCount "sorted" 1 1 _) (pi (ae (src fun g tk H as I h64 hk q=>ae (wpAny_newList ?_ (by rw[az];exact Zl (by omega))))));have hoL:(g.push (seqObj "list" (as.map Value.ref).toArray 0)).get? g.objs.size=some (seqObj "list" (as.map Value.ref).toArray 0):=xO _ rfl;have st:c9 g (g.push (seqObj "list" (as.map Value.ref).toArray 0)):=fun b ob e _=>io _ e;refine ae (yp (yV slot_list_sort ⟨_,hoL,rfl⟩ entry_list_sort (jz e f hoL (fun v hv=>?_) (by rw[az];exact h64) (by show X.A.units+1+1+8<_;omega) d fun out op os=>⟨_,rfl,?_⟩) (args_list_sort _)))
 ·obtain⟨a,ha,rfl⟩:=xB.mp hv;obtain⟨k,fk⟩:=hk a ha;exact⟨k,Wm e f st (br I fk)⟩
 refine pi ⟨_,rfl,?_⟩;obtain⟨bs,bp,be⟩:=l_ op;obtain⟨e2,he2⟩:=sortedHeap_at (vs:=as.map Value.ref) (out:=out) hoL;refine⟨.ref g.objs.size,_,I.laid (t':=tk) (o:=.lst (bs.map V.ref)) (fun b ob e=>?_) (xA _) ?_,rfl,q bs bp ?_ _ (I.hok.fresh (xA _))⟩
 ·have Ay:=xG e;rw[sortedHeap_old (xM Ay) (by rw[size_push'];exact Nat.lt_succ_of_lt Ay)];exact io _ e
 ·refine⟨by rw[az,bp.length_eq];exact Zl (by omega),bs.map Value.ref,e2,O4 bs,?_⟩;rw[←be,Array.toArray_toList];exact he2
 ·rw[be]at os;exact(yZ.mp os).imp_of_mem fun{a b} ha hb h k l fk fl=>h k l (Wm e f st (br I fk)) (Wm e f st (br I fl))
theorem Pf{P:Program}{w:World}{H:Hp}{h:Heap}{d:Addr}{kvs:List (List Key×V)}(ok:HOk P w H h)(e:Rd H d (.dT kvs)):kvs.length≤sizeLine∧(d==sysModules)=false∧∃(xs:List (List Key×Addr×Value))(es:Array DictEntry)(ep:Nat),KT H kvs xs∧RwD h d es ep∧
  es.toList.map DictEntry.key=(xs.map fun x=>x.2.1).map Value.ref∧es.toList.map DictEntry.val=xs.map (fun x=>x.2.2)∧es.size=kvs.length:=by
 obtain⟨z,lo,xs,r,o,es,ep,h1,h2,h3,h4,_⟩:=(show ObjOk P w H h d (.dT kvs)from pD ok e);refine⟨z,lo,xs,es,ep,r,⟨o,h1,h2,h3⟩,?_,?_,?_⟩
 ·rw[h4,x8,x8];rfl
 ·rw[h4,x8];rfl
 ·rw[←yA,h4,az,←xL r]
theorem sE{H:Hp}:∀{ps:Sps}{xs:List (List Key×Addr×Value)},KT H (af ps) xs→KsAt H (xs.map fun x=>x.2.1) (ps.map (·.1))
 | [],xs,r=>by
  cases (show KT H [] xs from r);exact .nil
 |p::ps,xs,r=>by
  cases (show KT H ((kk p.1,.int p.2)::af ps) xs from r) with
  |cons h t=>exact .cons h.2.1 (sE t)
def qJ:List V→Hp→VK→Prop:=fun xs H Q=>∃(d:Addr)(ps:Sps),xs=[.ref d]∧H d=some (.dT (af ps))∧ps.length<64∧∀bs:List Addr,KsAt H bs (eK (ps.map (·.1)))→∀q,H q=none→Q (.ref q) (upd H q (.lst (bs.map V.ref)))
theorem uG{H:Hp}{as:List Addr}{ks:List (Int×Int)}(h:KsAt H as ks):∀a∈as,∃k,FII H a k:=by
 induction h with
 |nil=>exact fun _ h=>nomatch h
 |cons e r ih=>exact fun b h=>(xQ.mp h).elim (fun z=>by rw[z];exact⟨_,_,_,e,rfl⟩) (ih b)
theorem hX(hc:X.calm=true)(hu:X.A.units+64<cLine):bE X (.builtin "sorted") qJ:=by
 intro As s σ H xs us Q I rx h;obtain⟨d,ps,rfl,hd,h64,q⟩:=h;obtain⟨u,rfl,ru⟩:=Wx rx;cases ru;obtain⟨_,lo,es0,es,ep,kt,raw,ek,_,sz⟩:=Pf I.hok (.inl hd);rw[Zk]at sz;have ka:=sE kt;have al:(es0.map fun x=>x.2.1).length<64:=by rw[az,←xL kt,Zk];exact h64
 refine O2 (To (prog:=X.prog) (w:=X.w)) (To (prog:=X.prog) (w:=X.w)) FII (fun{As σ H s a k} I h=>?_) ((0:Int),(0:Int)) hu (fun{E C} hC=>?_)
 ·obtain⟨i,j,h,rfl⟩:=h;obtain⟨o,m,u,v,e1,e2,e3,⟨t,ru⟩,⟨t',rv⟩⟩:=iL I h;exact⟨a,o,m,u,v,rfl,e1,e2,e3,⟨t,ru⟩,⟨t',rv⟩⟩
 ·refine iI (A:=X.A.in1) (tU lo) (by simpa using I.ok.hd hc) raw (Zl (by omega)) fun g tk AE kp lt it=>?_;rw[ng it,ek];exact hC g tk H _ (I.kept kp) al (uG ka) fun bs bp pw=>q bs (mP ka bp pw)
end
section
variable{X:Cx}
theorem T6{K:W.Frag}{H:Hp}{d:Addr}{kvs:List (List Key×V)}(h:H d=some (.dT kvs)):tyV K "dict" (.ref d) H:=.inr (.inr (.inl ⟨rfl,.inr ⟨kvs,h⟩⟩))
theorem jt{prog:Program}{w:World}(d:Addr)(lo:(d==sysModules)=false):MeetsIn prog w (Builtin.«dict.values» ⟨[.ref d],[]⟩) (fun _ R s=>s.TypeIs (.ref d) "dict"∧R (.ok (.ret (.ref s.heap.objs.size))) {s with heap:=s.heap.push {cls:=.type "dict_values",data:=.fields #[.ref d]}}):=
 .of_wp fun A R s ⟨ty,h⟩=>by
  refine ae (ae (y3 ty (show wpAny (model prog w) _ (pure d) _ _ s from pi (ae ?_))));unfold Builtin.Dict.showsAll;rw[lo,xz (by decide)];exact pi (ae (yS (pi ⟨_,rfl,h⟩)))
theorem gn{prog:Program}{w:World}(d:Addr)(lo:(d==sysModules)=false):MeetsIn prog w (Builtin.«dict.items» ⟨[.ref d],[]⟩) (fun _ R s=>s.TypeIs (.ref d) "dict"∧R (.ok (.ret (.ref s.heap.objs.size))) {s with heap:=s.heap.push {cls:=.type "dict_items",data:=.fields #[.ref d]}}):=
 .of_wp fun A R s ⟨ty,h⟩=>by
  unfold Builtin.«dict.items»;refine ae (ae (y3 ty (show wpAny (model prog w) _ (pure d) _ _ s from pi (ae ?_))));unfold Builtin.Dict.showsAll;rw[lo,xz (by decide)];exact pi (ae (yS (pi ⟨_,rfl,h⟩)))
def oG(w:Addr→Addr→HO):V→List V→Hp→VK→Prop:=fun x vs H Q=>∃d kvs,x=.ref d∧vs=[]∧H d=some (.dT kvs)∧∀a,H a=none→Q (.ref a) (upd H a (w a d))
theorem iZ:MtR X "dict.values" (oG eU):=by
 intro As s σ H x vs v us Q I rx rv h;obtain⟨d,kvs,rfl,rfl,hd,q⟩:=h;cases rx;cases rv;obtain⟨_,lo,_,es,ep,_,raw,_⟩:=Pf I.hok (.inl hd);refine call_meetsIn PySem.F.slot_dict_values raw.typeIs PySem.F.entry_dict_values (PySem.F.args_dict_values_1 _) (jt d lo) ⟨raw.typeIs,.ref s.heap.objs.size,_,I.laid (t':=s.toks) (o:=eU s.heap.objs.size d) (fun b o e=>io _ e) (xA _) ?_,rfl,q _ (I.hok.fresh (xA _))⟩;exact⟨⟨_,xO _ rfl,rfl,rfl⟩,⟨_,xO _ rfl⟩,fun h1 h2 x k=>let ⟨o,ho,r⟩:=x;⟨o,k o ho,r⟩⟩
theorem Ut:MtR X "dict.items" (oG a_):=by
 intro As s σ H x vs v us Q I rx rv h;obtain⟨d,kvs,rfl,rfl,hd,q⟩:=h;cases rx;cases rv;obtain⟨_,lo,_,es,ep,_,raw,_⟩:=Pf I.hok (.inl hd);refine call_meetsIn zF raw.typeIs PySem.F.entry_dict_items (PySem.F.args_dict_items_1 _) (gn d lo) ⟨raw.typeIs,.ref s.heap.objs.size,_,I.laid (t':=s.toks) (o:=a_ s.heap.objs.size d) (fun b o e=>io _ e) (xA _) ?_,rfl,q _ (I.hok.fresh (xA _))⟩;exact⟨⟨_,xO _ rfl,rfl,rfl⟩,⟨_,xO _ rfl⟩,fun h1 h2 x k=>let ⟨o,ho,r⟩:=x;⟨o,k o ho,r⟩⟩
theorem rC{H:Hp}{kvs:List (List Key×V)}{xs:List (List Key×Addr×Value)}(h:KT H kvs xs):Vals (kvs.map (·.2)) (xs.map fun x=>x.2.2):=by
 induction h with
 |nil=>exact .nil
 |cons h t ih=>exact .cons h.2.2 ih
end
section
variable{X:Cx}{As:List (Addr×Obj)}{σ:St}{H:Hp}{s:Shared}
theorem P2{H:Hp}:∀{kvs:List (List Key×V)}{xs:List (List Key×Addr×Value)}{i:Nat}{p:List Key×V},KT H kvs xs→kvs[i]?=some p→∃x,xs[i]?=some x∧H x.2.1=some (.tup (p.1.map kV))∧RelV p.2 x.2.2
 |_,_,_,_,.nil,e=>by simp at e
 |_,_,0,_,.cons h _,e=>by
  rw[yJ]at e;cases e;exact⟨_,rfl,h.2.1,h.2.2⟩
 |_,_,i+1,_,.cons _ r,e=>P2 (i:=i) r (by simpa using e)
theorem Inv.thawT{d:Addr}{o:Obj}{kvs:List (List Key×V)}(nf:∀o u,X.H₀ d≠some (.frz o u))(I:Inv X As σ H s)(h:H d=some (.frz o (.dT kvs))):Inv X As σ (upd H d (.dT kvs)) s:=by
 have nd:∀b,H b=none→upd H d (.dT kvs) b=none:=fun b e=>by rw[Za (Ne.symm (Zd h e))];exact e
 have ot:∀b u,H b=some u→u≠.frz o (.dT kvs)→upd H d (.dT kvs) b=some u:=fun b u e n=>by rw[Za (U9 e h n)];exact e
 have tu:∀b xs,H b=some (.tup xs)→upd H d (.dT kvs) b=some (.tup xs):=fun b xs e=>ot b _ e (by intro z;cases z);refine⟨I.ok,I.os,I.bare,⟨I.base.keep,I.base.slot,fun b ob q n hx=>nd b (I.base.free b ob q n hx),I.base.there,fun b xs e=>tu b _ (I.base.tups b xs e),fun b ob u e=>?_,fun b ps e=>?_⟩,I.loc,I.cell,nd _ I.free,fun x c e=>nd c (I.freeC x c e),fun p hp=>?_,fun b u e=>?_,I.len⟩
 ·rw[Za (fun z=>nf ob u (by rw[←z];exact e))];exact I.base.frzs b ob u e
 ·obtain⟨m,q⟩:=I.base.tbls b ps e;exact⟨m,ot b _ q (by intro z;cases z)⟩
 ·obtain⟨h1,h2,h3⟩:=I.pin p hp;exact⟨h1,nd _ h2,h3⟩
 ·by_cases hb:b=d
  ·subst hb;rw[Z2]at e;cases e;obtain⟨z,lo,xs,kt,r⟩:=(show ObjOk X.prog X.w H s.heap b (.dT kvs) from(I.hok b _ h).2);exact⟨z,lo,xs,KT.keeps kt tu,r⟩
  ·rw[Za hb]at e;exact(I.hok b u e).stay (fun _ _ _ q=>q) (fun c q=>ot c _ q (by intro z;cases z)) fun c xs q=>tu c xs q
theorem Inv.freezeT{d:Addr}{kvs:List (List Key×V)}(I:Inv X As σ H s)(h:H d=some (.dT kvs)):∃o,Inv X As σ (upd H d (.frz o (.dT kvs))) s∧∀o u,X.H₀ d≠some (.frz o u):=by
 obtain⟨z,lo,xs,kt,o,es,ep,ho,r⟩:=(show ObjOk X.prog X.w H s.heap d (.dT kvs)from I.hok d _ h);have tu:∀b ys,H b=some (.tup ys)→upd H d (.frz o (.dT kvs)) b=some (.tup ys):=fun b ys e=>by rw[Za (U9 e h (by intro z;cases z))];exact e
 refine⟨o,I.write (x:=d) (e:=d) (t':=s.toks) (h':=s.heap) (by rw[h];exact trivial) (.inl rfl) (fun _ _ _ q=>q) ⟨o,ho⟩ ⟨ho,z,lo,xs,KT.keeps kt tu,o,es,ep,ho,r⟩,fun o' u e=>?_⟩;have q:=I.base.frzs d o' u e;rw[h]at q;cases q
def wW(t:TE):TE:=fun σ H Q=>∃(d:Addr)(kvs:List (List Key×V)),H d=some (.dT kvs)∧∀o,t σ (upd H d (.frz o (.dT kvs))) fun v H2=>H2 d=some (.frz o (.dT kvs))∧Q v (upd H2 d (.dT kvs))
theorem jN{e:Expr}{t:TE}(h:PE X e t):PE X e (wW t):=by
 intro As s σ H Q I hw;obtain⟨d,kvs,hd,q⟩:=hw;obtain⟨o,I1,nf⟩:=I.freezeT hd;exact thn (h As s σ _ _ I1 (q o)) fun v s1 ⟨x,H1,I2,r,hd2,q2⟩=>⟨x,_,I2.thawT nf hd2,r,q2⟩
def mE(d:Addr)(kvs:List (List Key×V))(o:Obj):It:=⟨fun i H=>i<kvs.length∧H d=some (.frz o (.dT kvs)),fun i H x H'=>H'=H∧∃p b,kvs[i]?=some p∧x=.ref b∧H b=some (.tup (p.1.map kV)),fun i H=>kvs.length≤i∧H d=some (.frz o (.dT kvs))⟩
theorem qL{P:Program}{w:World}{K:W.Frag}{tg:Expr}{d it:Addr}{kvs:List (List Key×V)}{o:Obj}{es:Array DictEntry}{ep:Nat}(ex:o.ExactDict)(od:o.data=.dict es ep)(sz:es.size=kvs.length):
  Turn P w K tg (mE d kvs o) [it] it (fun i h=>h.IsKeyIter it d i es.size ep) where
 mem:=by simp
 obj:=fun i h st b hb=>by
  obtain⟨q,e,c,dd⟩:=st;rw[xF.mp hb];exact⟨q,e,fun v z=>by rw[dd]at z;cases z⟩
 keep:=fun i h h' st k=>st.at fun q e=>k it (.head _) q e
 item:=by
  intro X hP hw hK hc i As s σ H E I hf st hg;subst hP hw hK;obtain⟨hi,hd⟩:=hg;obtain⟨ho,z,lo,xs,kt,o',es',ep',h1,_,h3,h4,_⟩:=(show ObjOk X.prog X.w H s.heap d (.frz o (.dT kvs))from I.hok d _ hd);rw[ho]at h1;cases h1;rw[od]at h3;cases h3;obtain⟨f0,f1,f2,f3,f4,f5⟩:=hf it (.head _);have e1:kvs[i]?=some kvs[i]:=by simp[hi]
  obtain⟨x,ex1,hx,_⟩:=P2 kt e1;have ek:es[i].key=.ref x.2.1:=by
   have q:es.toList[i]?=some es[i]:=by rw[yk];exact x9 (by omega)
   rw[h4,xZ,ex1]at q;rw[←xV q];rfl
  refine kG st ⟨o,ho,ex,od⟩ (by omega) fun g AF sb=>?_;obtain⟨q,e,c,dd⟩:=id AF;have I1:Inv X As σ H {s with heap:=g}:=I.turned (t':=s.toks) (fun b ob hb eb=>(sb.2 b hb).trans eb) f0 f1 f3 f4 f5;exact⟨_,rfl,kS (s:={s with heap:=g}) e c dd (by decide) ⟨.ref x.2.1,H,I1,ek,⟨rfl,_,_,e1,rfl,hx⟩,AF,fun b hb=>(hf b hb).1⟩⟩
 done:=by
  intro X hP hw hK hc i As s σ H E I hf st hg;subst hP hw hK;obtain⟨hi,hd⟩:=hg;obtain⟨ho,_⟩:=I.hok d _ hd;obtain⟨f0,f1,f2,f3,f4,f5⟩:=hf it (.head _);exact j5 (I.ok.hd hc) st ⟨o,ho,ex,od⟩ (by omega) fun g eb=>⟨rfl,I.turned (t':=s.toks) (fun b ob hb e=>eb b ob hb e) f0 f1 f3 f4 f5⟩
 self:=fun _ _ _ _ _ st h=>wpAny_pyIter_keyiter st h
def uo(tl:TE):TI:=fun σ H R=>tl σ H fun x H1=>∃(d:Addr)(o:Obj)(kvs:List (List Key×V)),x=.ref d∧H1 d=some (.frz o (.dT kvs))∧R (mE d kvs o) H1
theorem S6{tg l:Expr}{tl:TE}(hl:PE X l tl):PI X tg l (uo tl):=by
 intro As s σ H R I h;refine thn (hl As s σ H _ I h) fun v s1 At=>?_;obtain⟨x,H1,I1,r1,q1⟩:=At;obtain⟨d,o,kvs,rfl,hd,q⟩:=q1;cases r1;obtain⟨ho,z,lo,xs,kt,o',es,ep,h1,h2,h3,h4,_⟩:=(show ObjOk X.prog X.w H1 s1.heap d (.frz o (.dT kvs))from I1.hok d _ hd);rw[ho]at h1;cases h1;have sz:es.size=kvs.length:=by rw[←yA,h4,az,←xL kt]
 refine lq lo ⟨o,ho,h2,h3⟩ ⟨s1.heap.objs.size,[s1.heap.objs.size],_,_,H1,rfl,I1.kept (t':=s1.toks) (fun b ob e=>io _ e),qL h2 h3 sz,⟨_,xO _ rfl,rfl,rfl⟩,fun b hb=>?_,q⟩;rw[xF.mp hb];exact I1.fpOk (xA _) (I1.hok.fresh (xA _))
theorem Tp{d:Addr}{o:Obj}{kvs:List (List Key×V)}{k:Nat}{g:TG}{tt:TT}{te:TE}{σ:St}{H:Hp}{Q:VK}(Pv:Nat→List V→Hp→Prop)(h0:Pv 0 [] H)(hl:∀i ys H,Pv i ys H→H d=some (.frz o (.dT kvs)))(hs:∀i p b ys H (C:List V→Hp→Prop),kvs[i]?=some p→H b=some (.tup (p.1.map kV))→Pv i ys H→(∀ys' H',Pv (i+1) ys' H'→C ys' H')→ys.length<sizeLine∧g (.ref b) (List.replicate k none++σ) H fun σ2 H2=>Wk σ2 (List.replicate k none++σ)∧tt σ2 H2 fun ok H3=>
   if ok=true then te σ2 H3 fun y H4=>C (ys++[y]) H4 else C ys H3)(hz:∀i ys H,Pv i ys H→ys.length<sizeLine)(hd:∀ys H,Pv kvs.length ys H→ys.length≤sizeLine∧∀p,H p=none→Q (.ref p) (upd H p (.lst ys))):CompR (mE d kvs o) H k g tt te σ Q:=by
 refine⟨fun i m ys H=>m=kvs.length-i∧i≤kvs.length∧Pv i ys H,⟨kvs.length,by simp,Nat.zero_le _,h0⟩,?_⟩;rintro i m ys H ⟨rfl,hi,p⟩;have q:=hl i ys H p;by_cases Ay:i<kvs.length
 ·refine .inr ⟨⟨Ay,q⟩,hz i ys H p,fun v H' y=>?_⟩;obtain⟨e,p',b,hp',rfl,hb⟩:=y;subst e;exact(hs i p' b ys H' (fun ys' H'=>∃m',m'<kvs.length-i∧m'=kvs.length-(i+1)∧i+1≤kvs.length∧Pv (i+1) ys' H') hp' hb p fun ys' H' p'=>⟨_,by omega,rfl,Ay,p'⟩).2
 ·have e:i=kvs.length:=by omega
  subst e;exact .inl ⟨⟨xA _,q⟩,hd ys H p⟩
end
abbrev TKv:=List Key×Addr×Value
def c6(xs:List TKv):List TKv:=xs.foldl (fun AE x=>storedH AE x.1 x.2.1 x.2.2) []
def eX(kvs:List (List Key×V)):List (List Key×V):=kvs.foldl (fun AE kv=>aF AE kv.1 kv.2) []
theorem mG(xs:List TKv)(x:TKv):c6 (xs++[x])=storedH (c6 xs) x.1 x.2.1 x.2.2:=by
 unfold c6;rw[List.foldl_append];rfl
theorem gO(xs:List TKv)(k:List Key)(a:Addr)(v:Value):(storedH xs k a v).length≤xs.length+1:=by
 unfold storedH
 split
 ·rw[az];omega
 ·rw[xE];exact xA _
theorem Ob:∀(ys xs:List TKv),(ys.foldl (fun AE x=>storedH AE x.1 x.2.1 x.2.2) xs).length≤xs.length+ys.length
 | [],xs=>xA _
 |y::ys,xs=>by
  have q:=Ob ys (storedH xs y.1 y.2.1 y.2.2);have l:=gO xs y.1 y.2.1 y.2.2;rw[zQ,yn];omega
theorem Qt(xs:List TKv):(c6 xs).length≤xs.length:=by
 have q:=Ob xs [];rw[yQ,Am]at q;exact q
theorem gJ{xs:List TKv}{k:List Key}{a:Addr}{v:Value}{x:TKv}(h:x∈storedH xs k a v):(∃y∈xs,x.1=y.1∧x.2.1=y.2.1)∨(x.1=k∧x.2.1=a):=by
 unfold storedH at h
 split at h
 ·obtain⟨y,hy,rfl⟩:=xB.mp h;refine .inl ⟨y,hy,?_⟩;unfold putAt
  split <;> exact⟨rfl,rfl⟩
 ·rcases xR.mp h with q | q
  ·exact .inl ⟨x,q,rfl,rfl⟩
  ·rw[xF.mp q];exact .inr ⟨rfl,rfl⟩
theorem Oa:∀{ys xs:List TKv}{x:TKv},x∈ys.foldl (fun AE x=>storedH AE x.1 x.2.1 x.2.2) xs→∃y,(y∈xs∨y∈ys)∧x.1=y.1∧x.2.1=y.2.1
 | [],xs,x,h=>⟨x,.inl h,rfl,rfl⟩
 |z::ys,xs,x,h=>by
  obtain⟨y,hy,e1,e2⟩:=Oa (ys:=ys) h
  rcases hy with hy | hy
  ·rcases gJ hy with⟨u,hu,f1,f2⟩|⟨f1,f2⟩
   ·exact⟨u,.inl hu,e1.trans f1,e2.trans f2⟩
   ·exact⟨z,.inr (.head _),e1.trans f1,e2.trans f2⟩
  ·exact⟨y,.inr (.tail _ hy),e1,e2⟩
theorem pZ{ys:List TKv}{x:TKv}(h:x∈c6 ys):∃y∈ys,x.1=y.1∧x.2.1=y.2.1:=by
 obtain⟨y,hy,e⟩:=Oa h
 rcases hy with hy | hy
 ·exact nomatch hy
 ·exact⟨y,hy,e⟩
theorem t9{H:Hp}{more:List (List Key×V)}{rs:List TKv}{kvs:List (List Key×V)}{xs:List TKv}(a:KT H more rs)(b:KT H kvs xs):KT H (more.foldl (fun AE kv=>aF AE kv.1 kv.2) kvs) (rs.foldl (fun AE x=>storedH AE x.1 x.2.1 x.2.2) xs):=by
 induction a generalizing kvs xs with
 |nil=>exact b
 | @cons p q more rs h t ih=>
  have e:=KT.put b p.1 h.2.1 h.2.2;have e2:KT H (aF kvs p.1 p.2) (storedH xs q.1 q.2.1 q.2.2):=by
   rw[show storedH xs q.1 q.2.1 q.2.2=storedH xs p.1 q.2.1 q.2.2 by rw[h.1]];exact e
  exact ih e2
theorem sP{H:Hp}{kvs:List (List Key×V)}{xs:List TKv}(h:KT H kvs xs):KT H (eX kvs) (c6 xs):=t9 h .nil
theorem gx:∀(kvs AE:List (List Key×V)),((AE++kvs).map (·.1)).Nodup→kvs.foldl (fun AE kv=>aF AE kv.1 kv.2) AE=AE++kvs
 | [],AE,_=>(yB AE).symm
 |p::kvs,AE,h=>by
  have e:bd AE p.1=none:=by
   rw[xN,xD]at h;have nin:p.1∉AE.map (·.1):=fun q=>(List.nodup_append.mp h).2.2 p.1 q p.1 (.head _) rfl;have:∀l:List (List Key×V),p.1∉l.map (·.1)→bd l p.1=none:=fun l=>by
    induction l with
    |nil=>intro _;rfl
    |cons y l ih=>
     intro hl;rw[xD,xQ,not_or]at hl;rw[Yc (fun z=>hl.1 z.symm)];exact ih hl.2
   exact this AE nin
  rw[zQ,pP p.2 e,gx kvs _ (by rw[yL];exact h),yL];rfl
theorem Wu{kvs:List (List Key×V)}(h:(kvs.map (·.1)).Nodup):eX kvs=kvs:=gx kvs [] h
theorem Rs{h g:Heap}{ks:List Key}{a:Addr}(x:(tupleKind (ak prog w)).is h ks a)(k:∀o,h.get? a=some o→g.get? a=some o):(tupleKind (ak prog w)).is g ks a:=by
 obtain⟨o,its,n,h1,r⟩:=x;exact⟨o,its,n,k o h1,r⟩
def mD(prog:Program)(w:World)(h:Heap)(D:Addr)(xs:List TKv):Prop:=∃o es ep,h.get? D=some o∧o.ExactDict∧o.data=.dict es ep∧es.toList=xs.map (entryOfKey (tupleKind (ak prog w)))∧(xs.map (·.1)).Nodup
def ip(prog:Program)(w:World)(h:Heap)(p:TKv)(v:Value)(no:List Addr):Prop:=∃a o n,v=.ref a∧a∉no∧p.2.1∉no∧h.get? a=some o∧o.cls=.type "tuple"∧o.data=.seq #[.ref p.2.1,p.2.2] n∧(tupleKind (ak prog w)).is h p.1 p.2.1
theorem Pg{R:Result→Shared→Prop}{I:Addr}{fp wr:List Addr}{n:Nat}{P:Nat→Value→Prop}{St:Nat→Heap→Prop}(W:Walks prog w A.in1 I fp wr n P St)(hu:A.units+1<cLine)(D:Addr)(hD:D∉fp)(ps:List TKv)(hpn:ps.length=n)(its:List Value)(hP:∀i v,P i v→its[i]?=some v)(hb:n≤100000):
  ∀(k i:Nat)(s:Shared),n-i=k→i≤n→St i s.heap→mD prog w s.heap D (c6 (ps.take i))→(∀(j:Nat) p,ps[j]?=some p→∃v,its[j]?=some v∧ip prog w s.heap p v (D::wr))→
   (∀g tk,(∀b o,b∉D::wr→s.heap.get? b=some o→g.get? b=some o)→mD prog w g D (c6 ps)→R (.ok (.ret .none)) {s with heap:=g,toks:=tk})→
   codeAny (model prog w) A (.builtin "dict.update.loop" ⟨[.ref D,.ref I,rawInt i,.none],[]⟩) R s:=by
 have hDw:D∉wr:=fun q=>hD (W.sub _ q);intro k
 induction k with
 |zero=>
  intro i s hk hi st so tp fin;obtain rfl:i=n:=by omega
  refine zG Ri ?_;rw[yT W6 _];refine ae (m:=pyNext (.ref I)) (W.done s _ _ st fun h' tk kp=>ae (m:=Builtin.Dict.addKeywords D []) (pi (pi (fin h' tk (fun b o nb e=>kp b o (fun q=>nb (yq _ q)) e) ?_))));rw[←hpn,xX]at so;obtain⟨o,es,ep,ho,r⟩:=so;exact⟨o,es,ep,kp D o hDw ho,r⟩
 |succ k ih=>
  intro i s hk hi st so tp fin;have Ay:i<n:=by omega
  refine zG Ri ?_;rw[yT W6 _];refine ae (m:=pyNext (.ref I)) (W.item i s _ _ Ay st fun v h1 tk1 pv st1 kp1=>?_);obtain⟨p,hp⟩:∃p,ps[i]?=some p:=⟨ps[i],yx (by omega)⟩;have kw:∀b o,b∉D::wr→s.heap.get? b=some o→h1.get? b=some o:=fun b o nb e=>kp1 b o (fun q=>nb (yq _ q)) e;have tp1:∀(j:Nat) p,ps[j]?=some p→∃v,its[j]?=some v∧ip prog w h1 p v (D::wr):=fun j p e=>by
   obtain⟨v,hv,a,o,m,rfl,na,nk,ha,r1,r2,r3⟩:=tp j p e;exact⟨_,hv,a,o,m,rfl,na,nk,kw a o na ha,r1,r2,Rs r3 fun o e=>kw _ o nk e⟩
  obtain⟨v',hv',a,o,m,rfl,na,nk,ha,hc,hd,hkey⟩:=tp1 i p hp;obtain rfl:v=.ref a:=xV ((hP i v pv).symm.trans hv');have so1:h1.DictOfH (tupleKind (ak prog w)) D (c6 (ps.take i)):=by
   obtain⟨o,es,ep,ho,r1,r2,r3,r4⟩:=so;refine⟨o,es,ep,kp1 D o hDw ho,r1,r2,r3,fun x hx=>?_,r4⟩;obtain⟨y,hy,e1,e2⟩:=pZ hx;obtain⟨j,hj⟩:=Ag (zS hy);obtain⟨_,_,_,_,_,_,_,_,_,_,_,q⟩:=tp1 j y hj;rw[e1,e2];exact q
  refine ae (yp (ae (wpAny_tryCatch ?_)));unfold Builtin.Dict.pairItems;refine ae (zy (T:="tuple") ⟨o,ha,hc⟩ ?_);rw[xC (by decide)];refine ae (m:=seqItems? (.ref a)) ?_;unfold seqItems?;refine ae (Ap ha ?_);rw[hd];refine pi (pi ?_);show wpAny _ _ (holding [Value.ref p.2.1,p.2.2] (dictSet D (.ref p.2.1) p.2.2)) _ _ _;have eb:=Qt (ps.take i);rw[xW]at eb;refine yp (wpAny_dictSet_heap (s:={s with heap:=h1,toks:=tk1}) (zt hu) hkey so1 (fun g so2 sb=>?_) (by
   have:(100000:Nat)≤sizeLine:=by decide
   omega))
  have so3:mD prog w g D (c6 (ps.take (i+1))):=by
   rw[Zv hp,mG];obtain⟨o,es,ep,ho,r1,r2,r3,_,r4⟩:=so2;exact⟨o,es,ep,ho,r1,r2,r3,r4⟩
  have ks:∀b o,b≠D→h1.get? b=some o→g.get? b=some o:=fun b o nb e=>(sb.2 b nb).trans e;refine pi ⟨Ab W6 _,ih (i+1) _ (by omega) Ay (W.frame _ _ _ st1 fun b hb o e=>ks b o (fun q=>hD (by rw[←q];exact hb)) e) so3 (fun j p e=>?_) fun g' tk kp so'=>fin g' tk (fun b o nb e=>kp b o nb ?_) so'⟩
  ·obtain⟨v,hv,a,o,m,rfl,na,nk,ha,r1,r2,r3⟩:=tp1 j p e;have nD:∀{b:Addr},b∉D::wr→b≠D:=fun h z=>h (by rw[z];exact .head _);exact⟨_,hv,a,o,m,rfl,na,nk,ks a o (nD na) ha,r1,r2,Rs r3 fun o e=>ks _ o (nD nk) e⟩
  ·exact ks b o (fun z=>nb (by rw[z];exact .head _)) (kw b o nb e)
inductive TPsAt(H:Hp):List V→List (List Key×V)→Prop
 |nil:TPsAt H [] []
 |cons {c b:Addr} {xs:List V} {k:List Key} {v:V} {kvs:List (List Key×V)} (h:H c=some (.tup [.ref b,v])) (g:H b=some (.tup (k.map kV))) (r:TPsAt H xs kvs):TPsAt H (.ref c::xs) ((k,v)::kvs)
theorem Pq{l:Addr}{its:List Value}{k:Nat}{sl:Array (Option Value)}{ps:List TKv}{Q:Value→Shared→Prop}(hh:A.handled=none)(hu:A.units+3<cLine)(hl:s.heap.get? l=some {cls:=.type "tuple",dict:=none,data:=.seq its.toArray k,slots:=sl})(AG:its.length=ps.length)(hb:ps.length≤100000)(hp:∀(j:Nat) p,ps[j]?=some p→∃v,its[j]?=some v∧ip prog w s.heap p v [])(h:∀g tk,(∀b o,s.heap.get? b=some o→g.get? b=some o)→mD prog w g s.heap.objs.size (c6 ps)→Q (.ref s.heap.objs.size) {s with heap:=g,toks:=tk}):wpAny (model prog w) A (call (.type "dict") [.ref l]) Q E s:=by
 refine callType_codes (Q₁:=fun obj s₁=>obj=.ref s.heap.objs.size∧s₁={s with heap:=s.heap.push {cls:=.type "dict",data:=.dict #[]}}) F.kt_called_dict (F.kt_typeCall_dict_1 _) F.entry_dict_init (kt_code_dict_new _ ⟨rfl,rfl⟩) ?_;rintro obj s₁ ⟨rfl,rfl⟩;have gD:(s.heap.push {cls:=.type "dict",data:=.dict #[]}).get? s.heap.objs.size=some {cls:=.type "dict",data:=.dict #[]}:=xO _ rfl;have hl1:(s.heap.push {cls:=.type "dict",data:=.dict #[]}).get? l=some {cls:=.type "tuple",dict:=none,data:=.seq its.toArray k,slots:=sl}:=io _ hl;refine⟨⟨_,gD,rfl⟩,F.args_dict_init_2 _ _,?_⟩;unfold Builtin.«dict.__init__»;refine ae ?_;unfold Builtin.Dict.selfAndRest;refine ae (y3 ⟨_,gD,rfl⟩ (pi (a:=(s.heap.objs.size,[Value.ref l])) ?_));show wpAny (model prog w) _ (Builtin.Dict.updateFrom "dict.__init__" s.heap.objs.size (.ref l) [] .none) _ _ _;unfold Builtin.Dict.updateFrom;refine ae (zy (T:="tuple") ⟨_,hl1,rfl⟩ ?_);rw[xC (by decide)];refine wpAny_bind (wq hl1 (by simpa using hh) fun g tk kp=>?_);rw[xC (by rfl)];have ltD:s.heap.objs.size<g.objs.size:=xG (kp _ _ gD);have ltl:l<s.heap.objs.size:=xG hl;have hl2:g.IsTuple l its.toArray:=⟨_,kp _ _ hl1,rfl,k,rfl⟩;refine ae (z7 (ae (wpAny_pyIter_tuple hl2 (pi ⟨Ab W6 _,?_⟩))));have hne:l≠g.objs.size:=xM (y8 ltl ltD);have nin:s.heap.objs.size∉[g.objs.size,l]:=fun q=>by
  rcases xQ.mp q with q | q
  ·exact xM ltD q
  ·exact yD ltl (xF.mp q)
 have nout:∀{b:Addr},b<s.heap.objs.size→b∉[s.heap.objs.size,g.objs.size]:=fun{b} lt q=>by
  rcases xQ.mp q with q | q
  ·exact xM lt q
  ·exact xM (y8 lt ltD) (xF.mp q)
 have keep:∀b o,s.heap.get? b=some o→(g.push {cls:=.type "tuple_iterator",data:=.fields #[.ref l,.int 0 0]}).get? b=some o:=fun b o e=>io _ (kp _ _ (io _ e));refine Pg (A:=A.in1) (Walks.tuple (by simpa using hh) g.objs.size l hne its.toArray) (by show A.units+1+1<cLine;omega) s.heap.objs.size nin ps (by rw[List.size_toArray];omega) its (fun i v e=>by simpa using e) (by rw[List.size_toArray];omega) its.toArray.size 0 _ (Nat.sub_zero _) (Nat.zero_le _) ⟨⟨_,Heap.get?_push_size _ rfl,rfl,rfl⟩,hl2.push _⟩ ⟨_,#[],0,Heap.get?_push_of_some _ (kp _ _ gD),⟨rfl,rfl,rfl⟩,rfl,rfl,List.nodup_nil⟩ (fun j p e=>?_) fun g' tk' kp' so'=>⟨rfl,h g' tk' (fun b o e=>kp' b o (nout (Heap.lt_size e)) ?_) so'⟩
 ·obtain⟨v,hv,a,o,m,rfl,_,_,ha,r1,r2,r3⟩:=hp j p e;have la:=xG ha;have lk:p.2.1<s.heap.objs.size:=by
   obtain⟨_,_,_,h1,_⟩:=r3;exact xG h1
  exact⟨_,hv,a,o,m,rfl,nout la,nout lk,io _ (kp _ _ (io _ ha)),r1,r2,Rs r3 fun o e=>io _ (kp _ _ (io _ e))⟩
 ·exact io _ (kp _ _ (io _ e))
section
variable{X:Cx}
theorem Qa{As:List (Addr×Obj)}{s:Shared}{σ:St}{H:Hp}(I:Inv X As σ H s):∀{ys:List V}{kvs:List (List Key×V)}{its:List Value},TPsAt H ys kvs→Vals ys its→∃ps:List TKv,KT H kvs ps∧its.length=ps.length∧∀(j:Nat) p,ps[j]?=some p→∃v,its[j]?=some v∧ip X.prog X.w s.heap p v []
 |_,_,_,.nil,.nil=>⟨[],.nil,rfl,fun j p e=>by simp at e⟩
 |_,_,_,.cons (c:=c) (b:=b) (k:=k) (v:=v) h g r,.cons r1 t=>by
  obtain⟨ps,kt,le,at_⟩:=Qa I r t;obtain⟨_,its,rv,o,e1,e2,n,e3⟩:=(show ObjOk X.prog X.w H s.heap c (.tup [.ref b,v])from I.hok c _ h);obtain⟨u,x,rfl,ru,rx⟩:=m8 rv;cases ru;cases r1;refine⟨(k,b,x)::ps,.cons ⟨rfl,g,rx⟩ kt,by rw[yn,yn,le],fun j p e=>?_⟩;cases j with
  |zero=>
   rw[yJ]at e;cases e;exact⟨_,rfl,c,o,n,rfl,ya,ya,e1,e2.1,e3,Tl I.hok g⟩
  |succ j=>exact at_ j p (by simpa using e)
def rM:List V→Hp→VK→Prop:=fun xs H Q=>∃(l:Addr)(ys:List V)(kvs:List (List Key×V)),xs=[.ref l]∧H l=some (.tup ys)∧TPsAt H ys kvs∧kvs.length≤1000∧∀p,H p=none→Q (.ref p) (upd H p (.dT (eX kvs)))
theorem Xr(hc:X.calm=true)(hu:X.A.units+64<cLine):bE X (.type "dict") rM:=by
 intro As s σ H xs us Q I rx h;obtain⟨l,ys,kvs,rfl,hq,pa,AG,q⟩:=h;obtain⟨u,rfl,ru⟩:=Wx rx;cases ru;obtain⟨_,its,rv,⟨⟨c0,d0,dt0,sl0⟩,ho,hcl,m,hs⟩⟩:=(show ObjOk X.prog X.w H s.heap l (.tup ys)from I.hok l _ hq);simp only at hcl hs;obtain⟨hcl,hdn⟩:=hcl;subst hcl hdn hs;obtain⟨ps,kt,hl,hp⟩:=Qa I pa rv;have kl:=xL kt;refine Pq (I.ok.hd hc) (by omega) ho hl (by omega) hp fun g tk kp hD=>?_;have km:=sP kt;have ml:=Qt ps;refine⟨.ref s.heap.objs.size,_,I.laid (t':=tk) (o:=.dT (eX kvs)) kp (xA _) ⟨Zl (by rw[xL km];omega),zH.mpr (yD I.big),c6 ps,?_,hD⟩,rfl,q _ (I.hok.fresh (xA _))⟩;exact KT.keeps km fun b ys e=>by rw[Za (Zd e (I.hok.fresh (xA _)))];exact e
end
theorem pK{kvs:List (List Key×V)}{k:List Key}(h:k∉kvs.map (·.1)):b8 kvs k=kvs:=by
 unfold b8;refine List.filter_eq_self.mpr fun p hp=>xJ fun e=>h (xB.mpr ⟨p,hp,e⟩)
theorem kL{H:Hp}:∀{kvs:List (List Key×V)}{xs:List TKv}{k:List Key}{j:Nat}{q:Addr×Value},KT H kvs xs→(xs.map (·.1)).Nodup→xs[j]?=some (k,q)→KT H (b8 kvs k) (xs.eraseIdx j)
 |_,_,_,_,_,.nil,_,e=>by simp at e
 |p::kvs,x::xs,k,0,q,.cons h t,nd,e=>by
  rw[yJ]at e;cases e;rw[xD,x3]at nd;have ke:kvs.map (·.1)=xs.map (·.1):=by
   clear nd h
   induction t with
   |nil=>rfl
   |cons a _ ih=>rw[xD,xD,ih,a.1]
  have e1:b8 (p::kvs) k=kvs:=by
   have o:=pK (kvs:=kvs) (k:=k) (by rw[ke];exact nd.1);unfold b8 at o⊢;rw[List.filter_cons,if_neg (by simp[show p.1=k from h.1])];exact o
  rw[e1];exact t
 |p::kvs,x::xs,k,j+1,q,.cons h t,nd,e=>by
  rw[xD,x3]at nd;have e:xs[j]?=some (k,q):=by simpa using e
  have ne:p.1≠k:=fun z=>nd.1 (xB.mpr ⟨(k,q),xT e,by rw[←h.1,z]⟩);have e1:b8 (p::kvs) k=p::b8 kvs k:=by
   unfold b8;rw[yt,xC (xJ ne)]
  rw[e1,zV];exact .cons h (kL t nd.2 e)
theorem O5{α β:Type}(f:α→β):∀(l:List α)(j:Nat),(l.map f).eraseIdx j=(l.eraseIdx j).map f
 | [],_=>rfl
 |_::_,0=>rfl
 |a::l,j+1=>by rw[xD,zV,zV,xD,O5 f l j]
theorem oI{xs:List TKv}(nd:(xs.map (·.1)).Nodup)(j:Nat):((xs.eraseIdx j).map (·.1)).Nodup:=nd.sublist ((List.eraseIdx_sublist xs j).map _)
theorem si{d a:Addr}{xs:List TKv}{k:List Key}{j:Nat}{q:Addr×Value}(hu:A.units+1<cLine)(hkey:(tupleKind (ak prog w)).is s.heap k a)(hm:s.heap.DictOfH (tupleKind (ak prog w)) d xs)(hz:xs.length≤sizeLine)(hj:xs[j]?=some (k,q)){Q:Fin→Shared→Prop}(h:∀g tk,mD prog w g d (xs.eraseIdx j)→Heap.SameBut d s.heap g→Q (.done (.ret q.2)) {s with heap:=g,toks:=tk}):wpAny (model prog w) A.in1 (Builtin.«dict.pop» ⟨[.ref d,.ref a],[]⟩) Q E s:=by
 obtain⟨o,es,ep,ho,ex,hd,he,his,hn⟩:=id hm;have ty:s.TypeIs (.ref d) "dict":=hm.typeIs;unfold Builtin.«dict.pop»;refine ae ?_;unfold Builtin.Dict.keyAndDefault;refine ae (y3 ty (show wpAny (model prog w) _ (pure (d,Value.ref a,none)) _ _ s from pi ?_));have jl:j<xs.length:=(xI.mp hj).1;have sz:es.size=xs.length:=by rw[←yA,he,az]
 have ne:es.isEmpty=false:=by
  rcases z:es.isEmpty with _ | _
  ·rfl
  ·have:=Array.isEmpty_iff_size_eq_zero.mp z;omega
 have ej:es[j]?=some (entryOfKey (tupleKind (ak prog w)) (k,q)):=by rw[←yk,he,xZ,hj];rfl
 have kp:¬((keyPart (Value.ref a)).isSome=true):=xK;simp only[kp,if_false];refine ae (ym ho hd (bP ?_));simp only[ne,Bool.false_eq_true,if_false];refine ae ?_;unfold Builtin.Dict.takeOut;refine yp (ae ((tupleKind (ak prog w)).pyHash (zt hu) hkey (ae (wpAny_dictFind_heap (zt hu) hkey ho hd he his hn (fun hno=>absurd hj (hno j q)) fun i p hi=>?_))));have ij:i=j:=idxH_unique hn hi hj;subst ij;show wpAny (model prog w) _ (dictEntries d (keyPart (.ref a)) >>= fun l=>_) _ _ _;refine ae (ym ho hd ?_);rw[ej];refine ae (wpAny_updateDictKeys (hz:=?_) ho hd (pi ?_))
 ·rw[xz (by exact xK)];refine ae (wpAny_letGo (pi (h _ _ ⟨_,_,ep+1,Heap.get?_update_self _ ho (Obj.isFreed_of_dict (Obj.data_mapDictKeys hd _)),ex.mapDictKeys _,Obj.data_mapDictKeys hd _,?_,oI hn i⟩ (Heap.SameBut.update ..))));rw[Array.eraseIdxIfInBounds,dif_pos (by omega:i<es.size),Array.toList_eraseIdx,he];exact O5 _ _ _
 ·omega
section
variable{X:Cx}
def xi:V→List V→Hp→VK→Prop:=fun x vs H Q=>∃(d a:Addr)(kvs:List (List Key×V))(k:List Key)(v:V),x=.ref d∧vs=[.ref a]∧H d=some (.dT kvs)∧H a=some (.tup (k.map kV))∧bd kvs k=some v∧Q v (upd H d (.dT (b8 kvs k)))
theorem qN{H:Hp}{kvs:List (List Key×V)}{xs:List TKv}{k:List Key}{v:V}(kt:KT H kvs xs):bd kvs k=some v→∃(j:Nat)(q:Addr×Value),xs[j]?=some (k,q)∧RelV v q.2:=by
 induction kt with
 |nil=>intro e;simp[bd]at e
 | @cons p x kvs xs h t ih=>
  intro e;by_cases z:p.1=k
  ·rw[Ym z]at e;cases e;exact⟨0,x.2,by rw[yJ,←z,h.1],h.2.2⟩
  ·rw[Yc z]at e;obtain⟨j,q,e1,e2⟩:=ih e;exact⟨j+1,q,by simpa using e1,e2⟩
theorem jH(hu:X.A.units+64<cLine):MtR X "dict.pop" xi:=by
 intro As s σ H x vs v us Q I rx rv h;obtain⟨d,a,kvs,k,y,rfl,rfl,hd,ha,hv,q⟩:=h;cases rx;obtain⟨u,rfl,ru⟩:=Wx rv;cases ru;obtain⟨z,lo,xs,kt,dd⟩:=k5 I.hok hd;obtain⟨j,p,hj,rp⟩:=qN kt hv;have hn:(xs.map (·.1)).Nodup:=by obtain⟨_,_,_,_,_,_,_,_,hn⟩:=dd;exact hn
 have tu:∀b ys,H b=some (.tup ys)→upd H d (.dT (b8 kvs k)) b=some (.tup ys):=fun b ys e=>by rw[Za (U9 e hd (by intro z;cases z))];exact e
 refine yV PySem.F.slot_dict_pop dd.typeIs PySem.F.entry_dict_pop (si (by omega) (Tl I.hok ha) dd (by rw[←xL kt];exact z) hj fun g tk raw sb=>⟨_,rfl,y,_,?_,rp,q⟩) (PySem.F.args_dict_pop_2 _ _);have hg:∃o,g.get? d=some o:=let ⟨o,_,_,e,_⟩:=raw;⟨o,e⟩
 exact I.write (x:=d) (e:=d) (t':=tk) (by rw[hd];exact trivial) (.inl rfl) (fun b u nb e=>(sb.2 b nb).trans e) hg ⟨yi (yu _ _) z,lo,xs.eraseIdx j,KT.keeps (kL kt hn hj) tu,raw⟩
end
abbrev ItI(h:Heap)(it d:Addr)(i n ep:Nat)(f0 f1 ok ov:Value):Prop:=h.get? it=some {cls:=.type "dict_itemiterator",dict:=none,data:=.fields #[f0,f1,.ref d,.int i 0,.int n 0,.int ep 0,ok,ov],slots:=#[]}
abbrev duo(x y:Value):Obj:={cls:=.type "tuple",data:=.seq #[x,y]}
section
variable{prog:Program}{w:World}{A:Around}{E:Value→Shared→Prop}{s:Shared}{it d:Addr}{i ep:Nat}{es:Array DictEntry}{f0 f1 ok ov:Value}
theorem N3{v:Addr}{Q:Value→Shared→Prop}(zv:s.heap.IsItemsView v d)(zm:RwD s.heap d es ep)(zq:∀g:Heap,ItI g s.heap.objs.size d 0 es.size ep .none (.bool false) .none .none→g.objs.size=s.heap.objs.size+1→(∀b o,s.heap.get? b=some o→g.get? b=some o)→Q (.ref s.heap.objs.size) {s with heap:=g}):wpAny (model prog w) A (pyIter (.ref v)) Q E s:=by
 obtain⟨ou,vo,_,vd⟩:=id zv;obtain⟨o,yo,_,yd⟩:=id zm;refine wpAny_pyIter_slot zv.typeIs PySem.F.slot_dict_items_iter (yV PySem.F.slot_dict_items_iter zv.typeIs PySem.F.entry_dict_items_iter (bP (ae (ae (zL vo vd (x:=.ref d) rfl (pi (ae ?_)))))) (PySem.F.args_dict_items_iter_1 _));unfold Builtin.Dict_items.newIterator;skip;refine ae (ym yo yd (ae (Ai yo yd ?_)));simp only[Ug.2.2,if_true];refine wpAny_newObj_type (wpAny_pure ⟨_,rfl,"dict_itemiterator",_,⟨_,Heap.get?_push_size _ rfl,rfl⟩,PySem.F.slot_dict_itemiterator_next.lookup,?_⟩) (by simp only[sizeOk,Builtin.Dict_items.ownedTupleFields,List.size_toArray,List.length_append,List.length_cons,List.length_nil,sizeLine_eq];omega);refine zq _ ?_ (size_push' _ _) fun b o e=>io _ e;unfold ItI;rw[xO _ rfl];simp[rawInt,Builtin.Dict_items.ownedTupleFields]
theorem jc{a:Addr}{Q:Option Obj→Shared→Prop}(ho:s.heap.get? a=none)(h:Q none s):wpAny (model prog w) A (loadIfAlive a) Q E s:=by
 have h':Q (s.heap.get? a) s:=by rw[ho];exact h
 exact fun _ _ _=>h'
theorem N4{Q:Option Value→Shared→Prop}(zi:ItI s.heap it d i es.size ep f0 f1 ok ov)(alt:f0=.none∨∃(a:Addr) (b:Bool),f0=rawInt a∧f1=.bool b)(zm:RwD s.heap d es ep)(zx:i<es.size)(zq:∀(g:Heap) (e0 e1 x y:Value),ItI g it d (i+1) es.size ep e0 e1 x y→(∃(a:Addr) (b:Bool),e0=rawInt a∧e1=.bool b)→g.get? s.heap.objs.size=some (duo es[i].key es[i].val)→g.objs.size=s.heap.objs.size+1→
   (∀b o,b≠it→s.heap.get? b=some o→g.get? b=some o)→Q (some (.ref s.heap.objs.size)) {s with heap:=g}):wpAny (model prog w) A (pyNext (.ref it)) Q E s:=by
 obtain⟨hp,gs,dr,tk,os⟩:=s;obtain⟨od,yo,_,yd⟩:=zm;have ty:Shared.TypeIs ⟨hp,gs,dr,tk,os⟩ (.ref it) "dict_itemiterator":=⟨_,zi,rfl⟩;refine Us ty PySem.F.slot_dict_itemiterator_next PySem.F.entry_dict_itemiterator_next (PySem.F.args_dict_itemiterator_next_1 _) (bP (ae (ae (ae (zu ty (pi (ae (Af zi rfl ?_))))))));simp only[Ug.2.2,if_true];show wpAny (model prog w) _ (if (Value.ref d==Value.none)=true then _ else _) _ _ _;rw[xz (Vm d)];refine bP (ae (ym yo yd ?_));rw[if_neg (by simp)];refine bP (wpAny_bind (wpAny_dictEpoch yo yd ?_));rw[if_neg (by simp)];refine wpAny_pure ?_;simp only[show ¬((i:Int)<0)from by omega,if_false,Int.toNat_natCast,Array.getElem?_eq_getElem zx];refine ae (ae (zu ty (pi (ae (wpAny_isOneOf_itemiter ty ?_)))));show wpAny (model prog w) _ (setField (.ref it) 3 (rawInt ((i:Int)+1)) >>= fun _=>_) _ _ ⟨hp,gs,dr,tk,os⟩;refine wpAny_bind (wpAny_setField_rec zi (by simp) fun g1 e1 s1=>?_);have s1:Heap.SameBut it hp g1:=s1;have e1:ItI g1 it d (i+1) es.size ep f0 f1 ok ov:=by
  have q:((i+1:Nat):Int)=(i:Int)+1:=by omega
  unfold ItI;rw[q];simpa [rawInt] using e1
 have ty1:Shared.TypeIs ⟨g1,gs,dr,tk,os⟩ (.ref it) "dict_itemiterator":=⟨_,e1,rfl⟩;refine ae (yp (ae (wpAny_isOneOf_itemiter ty1 (ae (wpAny_isOneOf_itemiter ty1 ?_)))));show wpAny (model prog w) _ (Builtin.Dict_items.pairFromOwner (.ref it) 6 es[i].key es[i].val) _ _ ⟨g1,gs,dr,tk,os⟩;unfold Builtin.Dict_items.pairFromOwner;refine ae (wpAny_newTuple ?_);have e2:ItI (g1.push (duo es[i].key es[i].val)) it d (i+1) es.size ep f0 f1 ok ov:=io _ e1;generalize hz:g1.push (duo es[i].key es[i].val)=g2 at e2;have z1:g1.objs.size=hp.objs.size:=s1.1;have il:it<hp.objs.size:=xG zi;have t2:g2.get? hp.objs.size=some (duo es[i].key es[i].val):=by rw[←hz,←z1];exact xO _ rfl
 have z2:g2.objs.size=hp.objs.size+1:=by rw[←hz,Heap.size_push,z1]
 have k2:∀b o,b≠it→hp.get? b=some o→g2.get? b=some o:=fun b o nb e=>by rw[←hz];exact io _ (s1.extBut b o nb e)
 have fin:∀(g:Heap)(x0 x1 x y:Value),ItI g it d (i+1) es.size ep x0 x1 x y→(∃(a:Addr)(b:Bool),x0=rawInt a∧x1=.bool b)→Heap.SameBut it g2 g→Q (some (.ref hp.objs.size)) ⟨g,gs,dr,tk,os⟩:=fun g x0 x1 x y h1 h2 sb=>
  zq g x0 x1 x y h1 h2 (sb.extBut _ _ (yD il) t2) (by show g.objs.size=hp.objs.size+1;rw[sb.1,z2]) fun b o nb e=>sb.extBut b o nb (k2 b o nb e)
 show wpAny (model prog w) _ (Builtin.Dict_items.ownedTupleIsFree (.ref it) >>= fun _=>_) _ _ ⟨g2,gs,dr,tk,os⟩;rw[z1];unfold Builtin.Dict_items.ownedTupleIsFree
 rcases alt with rfl | ⟨a,b,rfl,rfl⟩
 ·refine ae (ae (zL e2 rfl (x:=.none) rfl (pi ?_)));simp only[if_true];refine wpAny_bind (wpAny_field e2 rfl (x:=ok) rfl (wpAny_bind (wpAny_field e2 rfl (x:=ov) rfl (wpAny_bind (wpAny_setField_rec e2 (by simp) fun g3 e3 s3=>wpAny_bind (wpAny_setField_rec e3 (by simp) fun g4 e4 s4=>wpAny_bind (wpAny_setField_rec e4 (by simp) fun g5 e5 s5=>wpAny_bind (wpAny_setField_rec e5 (by simp) fun g6 e6 s6=>?_))))))));refine ae (wpAny_letGo (pi (pi ⟨_,rfl,fin g6 _ _ _ _ e6 ⟨_,_,rfl,rfl⟩ ?_⟩)));have s3:Heap.SameBut it g2 g3:=s3;have s4:Heap.SameBut it g3 g4:=s4;have s5:Heap.SameBut it g4 g5:=s5;have s6:Heap.SameBut it g5 g6:=s6;exact⟨by rw[s6.1,s5.1,s4.1,s3.1],fun c nc=>(s6.2 c nc).trans ((s5.2 c nc).trans ((s4.2 c nc).trans (s3.2 c nc)))⟩
 ·refine ae (ae (zL e2 rfl (x:=rawInt a) rfl ?_));show wpAny (model prog w) _ (loadIfAlive ((a:Int).toNat) >>= fun _=>_) _ _ _;rw[Int.toNat_natCast];cases a2:g2.get? a with
  |none=>
   refine ae (jc a2 ?_);simp only[Option.isNone_none,if_true];refine pi ?_;simp only[if_true];refine wpAny_bind (wpAny_field e2 rfl (x:=ok) rfl (wpAny_bind (wpAny_field e2 rfl (x:=ov) rfl (wpAny_bind (wpAny_setField_rec e2 (by simp) fun g3 e3 s3=>wpAny_bind (wpAny_setField_rec e3 (by simp) fun g4 e4 s4=>wpAny_bind (wpAny_setField_rec e4 (by simp) fun g5 e5 s5=>wpAny_bind (wpAny_setField_rec e5 (by simp) fun g6 e6 s6=>?_))))))));refine ae (wpAny_letGo (pi (pi ⟨_,rfl,fin g6 _ _ _ _ e6 ⟨_,_,rfl,rfl⟩ ?_⟩)));have s3:Heap.SameBut it g2 g3:=s3;have s4:Heap.SameBut it g3 g4:=s4;have s5:Heap.SameBut it g4 g5:=s5;have s6:Heap.SameBut it g5 g6:=s6;exact⟨by rw[s6.1,s5.1,s4.1,s3.1],fun c nc=>(s6.2 c nc).trans ((s5.2 c nc).trans ((s4.2 c nc).trans (s3.2 c nc)))⟩
  |some o=>
   refine ae (W.kdx_alive a2 ?_);simp only[Option.isNone_some,Bool.false_eq_true,if_false];refine ae (zL e2 rfl (x:=.bool b) rfl ?_);cases b with
   |true=>
    rw[xz (show ¬((Value.bool true != Value.bool true)=true)from xK)];refine pi ?_;simp only[Bool.false_eq_true,if_false];exact pi (pi ⟨_,rfl,fin g2 _ _ _ _ e2 ⟨_,_,rfl,rfl⟩ (Heap.SameBut.refl _ _)⟩)
   |false=>
    rw[xC (show(Value.bool false != Value.bool true)=true from rfl)];refine wpAny_bind (wpAny_setField_rec e2 (by simp) fun g3 e3 s3=>wpAny_pure ?_);simp only[Bool.false_eq_true,if_false];exact pi (pi ⟨_,rfl,fin g3 _ _ _ _ e3 ⟨_,_,rfl,rfl⟩ s3⟩)
theorem N5{Q:Option Value→Shared→Prop}(zh:A.handled=none)(zi:ItI s.heap it d i es.size ep f0 f1 ok ov)(zm:RwD s.heap d es ep)(zx:es.size≤i)(zq:∀g:Heap,Heap.ExtBut it s.heap g→Q none {s with heap:=g}):wpAny (model prog w) A (pyNext (.ref it)) Q E s:=by
 obtain⟨od,yo,_,yd⟩:=zm;have ty:s.TypeIs (.ref it) "dict_itemiterator":=⟨_,zi,rfl⟩;refine Us ty PySem.F.slot_dict_itemiterator_next PySem.F.entry_dict_itemiterator_next (PySem.F.args_dict_itemiterator_next_1 _) (bP (ae (ae (ae (zu ty (pi (ae (Af zi rfl ?_))))))));simp only[Ug.2.2,if_true];show wpAny (model prog w) _ (if (Value.ref d==Value.none)=true then _ else _) _ _ s;rw[xz (Vm d)];refine bP (ae (ym yo yd ?_));rw[if_neg (by simp)];refine bP (wpAny_bind (wpAny_dictEpoch yo yd ?_));rw[if_neg (by simp)];refine wpAny_pure ?_;simp only[show ¬((i:Int)<0)from by omega,if_false,Int.toNat_natCast,Array.getElem?_eq_none zx];refine ae (ae (zu ty (pi ?_)));show wpAny (model prog w) _ (setField (.ref it) 2 .none >>= fun _=>_) _ _ s;refine wpAny_bind (wpAny_setField zi rfl (by simp) (Td (by simpa using zh) fun g e k ty=>⟨ty,zq g fun b u nb eb=>k b u ?_⟩));exact(yW _ _ (Ne.symm nb)).trans eb
end
def beh(I n:Nat):List Addr:=(List.range n).map fun j=>I+1+j
theorem pA(I n:Nat):beh I (n+1)=beh I n++[I+1+n]:=by
 unfold beh;rw[List.range_succ,xN];rfl
theorem kW(I n:Nat):(beh I n).length=n:=by
 unfold beh;rw[az,List.length_range]
theorem pj(I j:Nat):I+1+j≠I:=by omega
abbrev lsO(xs:Array Value)(c:Nat):Obj:={cls:=.type "list",data:=.seq xs c}
section
variable{prog:Program}{w:World}{A:Around}{E:Value→Shared→Prop}{s:Shared}{d:Addr}{ep:Nat}{es:Array DictEntry}{R:Result→Shared→Prop}
theorem jC{S I:Addr}(zh:A.handled=none)(hSI:S<I)(hSd:d≠S)(hId:d≠I)(hn:es.size≤sizeLine)(res:Value){h0:Heap}(fin:∀(h:Heap) (tk c:Nat),(∀b o,b≠S→b≠I→h0.get? b=some o→h.get? b=some o)→h.get? S=some (lsO ((beh I es.size).map Value.ref).toArray c)→(∀(j:Nat) (hj:j<es.size),h.get? (I+1+j)=some (duo es[j].key es[j].val))→R (.ok (.ret res)) {s with heap:=h,toks:=tk}):
  ∀(k i:Nat)(h:Heap)(tk c:Nat)(f0 f1 ok ov:Value),es.size-i=k→i≤es.size→ItI h I d i es.size ep f0 f1 ok ov→(f0=.none∨∃(a:Addr)(b:Bool),f0=rawInt a∧f1=.bool b)→RwD h d es ep→(∀b o,b≠S→b≠I→h0.get? b=some o→h.get? b=some o)→
   h.get? S=some (lsO ((beh I i).map Value.ref).toArray c)→(∀(j:Nat)(hj:j<es.size),j<i→h.get? (I+1+j)=some (duo es[j].key es[j].val))→h.objs.size=I+1+i→
   codeAny (model prog w) A (.builtin "list.extend.loop" ⟨[.ref S,.ref I,res],[]⟩) R {s with heap:=h,toks:=tk}:=by
 have ne:S≠I:=xM hSI;intro k
 induction k with
 |zero=>
  intro i h tk c f0 f1 ok ov hk hi st alt hD keep hS tp hz;obtain rfl:i=es.size:=by omega
  refine zG PySem.F.entry_extend_loop ?_;rw[yT zO _];refine wpAny_bind (m:=pyNext (.ref I)) (N5 (s:={s with heap:=h,toks:=tk}) (A:=A.in1) (by simpa using zh) st hD (Nat.le_refl _) fun g x=>wpAny_pure (fin g tk c (fun b o h1 h2 e=>x b o h2 (keep b o h1 h2 e)) (x S _ ne hS) fun j hj=>x _ _ (pj I j) (tp j hj hj)))
 |succ k ih=>
  intro i h tk c f0 f1 ok ov hk hi st alt hD keep hS tp hz;have Ay:i<es.size:=by omega
  refine zG PySem.F.entry_extend_loop ?_;rw[yT zO _];refine ae (m:=pyNext (.ref I)) (N4 (s:={s with heap:=h,toks:=tk}) (A:=A.in1) st alt hD Ay fun g x0 x1 x y AF al tg zg kp=>?_);dsimp only at tg zg kp al⊢;rw[hz]at tg zg⊢;have hSl:S<h.objs.size:=xG hS;have hS':=kp S _ ne hS;have up:∀b o,b≠S→g.get? b=some o→(g.update S (Obj.mapSeq (·.push (Value.ref (I+1+i))))).get? b=some o:=fun b o nb e=>(yW _ _ (Ne.symm nb)).trans e;have hl:((beh I i).map Value.ref).toArray.size=i:=by rw[xU,az,kW]
  obtain⟨c2,u2⟩:∃c2,(g.update S (Obj.mapSeq (·.push (Value.ref (I+1+i))))).get? S=some (lsO ((beh I (i+1)).map Value.ref).toArray c2):=by
   have u:=get?_update_seq (c:="list") hS' (fun x=>x.push (Value.ref (I+1+i)));rw[List.push_toArray]at u;rw[pA,xN];exact⟨_,u⟩
  show wpAny (model prog w) A.in1 (updateSeq S (·.push (Value.ref (I+1+i))) >>= fun _=>_) _ _ _;refine ae (wpAny_updateSeq hS' rfl (pi ⟨Ab zO _,ih (i+1) _ tk c2 x0 x1 x y (by omega) Ay (up I _ (Ne.symm ne) AF) (.inr al) (hD.at fun o e=>up d o hSd (kp d o hId e)) (fun b o h1 h2 e=>up b o h1 (kp b o h2 (keep b o h1 h2 e))) u2 (fun j hj ji=>?_) ?_⟩) (by rw[hl];omega) (by rw[Array.size_push,hl];omega))
  ·by_cases z:j=i
   ·subst z;exact up _ _ (yD (xS hSI (by omega))) tg
   ·exact up _ _ (yD (xS hSI (by omega))) (kp _ _ (pj I j) (tp j hj (by omega)))
  ·rw[Heap.size_update,zg];omega
theorem sR:(Value.type "dict_items" == Value.type "list")=false∧(Value.type "dict_items" == Value.type "tuple")=false:=by decide
theorem f7{S r:Addr}(zh:A.handled=none)(zv:s.heap.IsItemsView r d)(zm:RwD s.heap d es ep)(hSr:S≠r)(hSd:d≠S)(hn:es.size≤sizeLine)(res:Value){c0:Nat}(eS:s.heap.get? S=some (lsO #[] c0))(fin:∀(h:Heap) (tk c:Nat),(∀b o,b≠S→s.heap.get? b=some o→h.get? b=some o)→h.get? S=some (lsO ((beh s.heap.objs.size es.size).map Value.ref).toArray c)→(∀(j:Nat) (hj:j<es.size),h.get? (s.heap.objs.size+1+j)=some (duo es[j].key es[j].val))→R (.ok (.ret res)) {s with heap:=h,toks:=tk}):
  wpAny (model prog w) A.in1 (Builtin.List.listExtendWith (.ref S) (.ref r) res) (fun fin s'=>match fin with
   |.done f=>R (.ok f) s'
   |.again c'=>c'.quiet=true∧codeAny (model prog w) A c' R s') (fun e s'=>R (.error e) s') s:=by
 have lS:S<s.heap.objs.size:=xG eS;unfold Builtin.List.listExtendWith;refine ae (zy zv.typeIs ?_);have sm:Builtin.List.listSameRef (.ref S) (.ref r)=false:=by
  unfold Builtin.List.listSameRef;simpa using hSr
 rw[sm,sR.1,sR.2,xz (by decide)];refine ae (N3 zv zm fun g1 st z1 kp=>?_);refine ae (yp (W.kdx_hint (s:={s with heap:=g1}) (let ⟨o,ho,hc,_⟩:=zv;⟨o,kp _ _ ho,hc⟩) ?_));refine iW (by kernel_rfl) (ae (z7 ?_));unfold Builtin.List.listTouch;skip;have u1:=get?_update_seq (c:="list") (kp _ _ eS) (fun x=>x.push Value.none);have u2:=get?_update_seq (c:="list") u1 (fun x=>x.pop);refine wpAny_bind (wpAny_bind (listUpdate_at (kp _ _ eS) rfl (listUpdate_at u1 rfl ?_ (by simp[sizeLine_eq]) (by simp)) (by simp) (by simp[sizeLine_eq])));obtain⟨c2,u3⟩:∃c2,((g1.update S (Obj.mapSeq fun x=>x.push Value.none)).update S (Obj.mapSeq fun x=>x.pop)).get? S=some (lsO #[] c2):=⟨_,u2⟩;have k2:∀b o,b≠S→g1.get? b=some o→((g1.update S (Obj.mapSeq fun x=>x.push Value.none)).update S (Obj.mapSeq fun x=>x.pop)).get? b=some o:=fun b o nb e=>by
  rw[Heap.get?_update_ne _ _ _ _ nb,Heap.get?_update_ne _ _ _ _ nb];exact e
 have z2:((g1.update S (Obj.mapSeq fun x=>x.push Value.none)).update S (Obj.mapSeq fun x=>x.pop)).objs.size=s.heap.objs.size+1:=by rw[Heap.size_update,Heap.size_update,z1]
 generalize (g1.update S (Obj.mapSeq fun x=>x.push Value.none)).update S (Obj.mapSeq fun x=>x.pop)=g2 at u3 k2 z2;refine pi ⟨Ab zO _,jC (s:=s) (es:=es) (ep:=ep) (h0:=s.heap) zh lS hSd (xM zm.lt) hn res (fun h tk c kh hS tp=>fin h tk c (fun b o nb e=>kh b o nb (xM (xG e)) e) hS tp) es.size 0 g2 s.toks c2 .none (.bool false) .none .none (Nat.sub_zero _) (zf _) (k2 _ _ (yD lS) st) (.inl rfl) (zm.at fun o e=>k2 d o hSd (kp d o e)) (fun b o nb _ e=>k2 b o nb (kp b o e)) u3 (fun j hj ji=>absurd ji (Nat.not_lt_zero j)) z2⟩
def ColI(s:Shared)(es:Array DictEntry)(q:Result)(s':Shared):Prop:=∃(g:Heap)(tk c:Nat),q=.ok (.ret (.ref s.heap.objs.size))∧s'={s with heap:=g,toks:=tk}∧(∀b o,s.heap.get? b=some o→g.get? b=some o)∧
 g.get? s.heap.objs.size=some (lsO ((beh (s.heap.objs.size+1) es.size).map Value.ref).toArray c)∧∀(j:Nat)(hj:j<es.size),g.get? (s.heap.objs.size+1+1+j)=some (duo es[j].key es[j].val)
theorem Po{r:Addr}{C:List Value→Shared→Prop}(zh:A.handled=none)(zv:s.heap.IsItemsView r d)(zm:RwD s.heap d es ep)(hn:es.size≤sizeLine)(h:∀(g:Heap) (tk:Nat),(∀b o,s.heap.get? b=some o→g.get? b=some o)→(∀(j:Nat) (hj:j<es.size),g.get? (s.heap.objs.size+1+1+j)=some (duo es[j].key es[j].val))→C ((beh (s.heap.objs.size+1) es.size).map Value.ref) {s with heap:=g,toks:=tk}):wpAny (model prog w) A (collect (.ref r)) C E s:=by
 have lr:r<s.heap.objs.size:=let ⟨_,e,_⟩:=zv;xG e
 unfold collect;refine ae (wpAny_runValue (zG entry_proto_collect' ?_));rw[yT PySem.F.plain_proto_collect _];refine ae (m:=newList []) (yS (pi ⟨Ab zX _,zG entry_list_iadd' ?_⟩));rw[yT zX _];have own:(s.heap.push {cls:=.type "list",data:=.seq ([]:List Value).toArray}).get? s.heap.objs.size=some (lsO #[] 0):=xO _ rfl;have sz:(s.heap.push {cls:=.type "list",data:=.seq ([]:List Value).toArray}).objs.size=s.heap.objs.size+1:=size_push' _ _;have run:=f7 (prog:=prog) (w:=w) (A:=A) (s:={s with heap:=s.heap.push {cls:=.type "list",data:=.seq ([]:List Value).toArray}}) (R:=ColI s es) (es:=es) (ep:=ep) (r:=r) zh (let ⟨o,e,x⟩:=zv;⟨o,io _ e,x⟩) (zm.at fun o e=>io _ e) (yD lr) (xM zm.lt) hn (.ref s.heap.objs.size) own
  (fun g tk c hk hS tp=>⟨g,tk,c,rfl,rfl,fun b o e=>hk b o (xM (xG e)) (io _ e),by rw[←sz];exact hS,fun j hj=>by rw[←sz];exact tp j hj⟩)
 refine yN run (fun fin s' y=>?_) (fun _ _ y=>by obtain⟨_,_,_,e,_⟩:=y;cases e);have last:∀{g:Heap}{tk c:Nat},(∀b o,s.heap.get? b=some o→g.get? b=some o)→g.get? s.heap.objs.size=some (lsO ((beh (s.heap.objs.size+1) es.size).map Value.ref).toArray c)→(∀(j:Nat)(hj:j<es.size),g.get? (s.heap.objs.size+1+1+j)=some (duo es[j].key es[j].val))→
   wpAny (model prog w) A (load s.heap.objs.size >>= fun u=>match u.data with
    |.seq xs _=>pure xs.toList
    |_=>unsupported "internal:collect") C E {s with heap:=g,toks:=tk}:=fun{g tk c} hk hS tp=>ae (Ap hS (pi (by rw[List.toList_toArray];exact h g tk hk tp)))
 cases fin with
 |done f=>
  obtain⟨g,tk,c,e,rfl,hk,hS,tp⟩:=y;cases e;exact last hk hS tp
 |again c1=>
  refine⟨y.1,Aj y.2 fun q s2 z=>?_⟩;obtain⟨g,tk,c,rfl,rfl,hk,hS,tp⟩:=z;exact last hk hS tp
end
def leP(a b:(Int×Int)×Int):Bool:=decide (a.1.1<b.1.1) || (decide (a.1.1=b.1.1) && (decide (a.1.2<b.1.2) || (decide (a.1.2=b.1.2) && decide (a.2≤b.2))))
theorem Sg{a b:(Int×Int)×Int}:leP a b=true↔a.1.1<b.1.1∨(a.1.1=b.1.1∧(a.1.2<b.1.2∨(a.1.2=b.1.2∧a.2≤b.2))):=by
 unfold leP;simp only[Bool.or_eq_true,Bool.and_eq_true,decide_eq_true_iff]
theorem mz(a b:(Int×Int)×Int):(leP a b || leP b a)=true:=by
 rw[Bool.or_eq_true,Sg,Sg];omega
theorem lF(a b c:(Int×Int)×Int)(h1:leP a b=true)(h2:leP b c=true):leP a c=true:=by
 rw[Sg]at *;omega
theorem ik{a b:(Int×Int)×Int}(h1:leP a b=true)(h2:leP b a=true):a=b:=by
 rw[Sg]at h1 h2;exact yM (yM (by omega) (by omega)) (by omega)
def aO(ps:Sps):Sps:=ps.mergeSort leP
theorem Y0(ps:Sps):(aO ps).Perm ps:=List.mergeSort_perm _ _
theorem Qe(ps:Sps):(aO ps).Pairwise (fun a b=>leP a b=true):=List.pairwise_mergeSort lF mz ps
theorem N2{α:Type}{le:α→α→Bool}(anti:∀{a b},le a b=true→le b a=true→a=b):∀{l m:List α},l.Perm m→l.Pairwise (fun a b=>le a b=true)→m.Pairwise (fun a b=>le a b=true)→l=m
 | [],m,p,_,_=>List.Perm.nil_eq p
 |a::l,[],p,_,_=>absurd p.length_eq (by simp)
 |a::l,b::m,p,h1,h2=>by
  have e:a=b:=by
   rcases xQ.mp (p.mem_iff.mp yj)with q | q
   ·exact q
   ·rcases xQ.mp (p.mem_iff.mpr yj)with r | r
    ·exact r.symm
    ·exact anti ((yU.mp h1).1 b r) ((yU.mp h2).1 a q)
  subst e;rw[N2 anti ((List.perm_cons a).mp p) (yU.mp h1).2 (yU.mp h2).2]
theorem gf{α:Type}(F:Addr→α→Prop)(fu:∀{a k l},F a k→F a l→k=l){le:α→α→Bool}(anti:∀{a b},le a b=true→le b a=true→a=b){as bs:List Addr}{ks srt:List α}(h:Paired F as ks)(p:bs.Perm as)(pw:bs.Pairwise fun a b=>∀k l,F a k→F b l→le k l=true)(sp:srt.Perm ks)(sw:srt.Pairwise fun a b=>le a b=true):Paired F bs srt:=by
 classical
 cases ks with
 |nil=>
  cases h;rw[p.eq_nil,sp.eq_nil];exact .nil
 |cons k0 ks0=>
  let key:Addr→α:=fun a=>if h:∃k,F a k then Classical.choose h else k0
  have kat:∀{a k},F a k→key a=k:=fun{a k} f=>by
   have ex:∃k,F a k:=⟨k,f⟩;show(if h:∃k,F a k then Classical.choose h else k0)=k;rw[dif_pos ex];exact fu (Classical.choose_spec ex) f
  have all:∀{l:List Addr}{m:List α},Paired F l m→l.map key=m∧∀a∈l,F a (key a):=fun{l m} r=>by
   induction r with
   |nil=>exact⟨rfl,fun _ h=>nomatch h⟩
   | @cons b k l m e _ ih=>
    have kb:=kat e;refine⟨by rw[xD,kb,ih.1],fun c hc=>?_⟩
    rcases xQ.mp hc with z | hc
    ·rw[z,kb];exact e
    ·exact ih.2 c hc
  obtain⟨e1,e2⟩:=all h;have atb:∀b∈bs,F b (key b):=fun b hb=>e2 b (p.mem_iff.mp hb);have back:∀{l:List Addr},(∀b∈l,F b (key b))→Paired F l (l.map key):=fun{l} hl=>by
   induction l with
   |nil=>exact .nil
   |cons b l ih=>exact .cons (hl b (.head _)) (ih fun c hc=>hl c (.tail _ hc))
  have eq:bs.map key=srt:=N2 anti ((p.map key).trans (by rw[e1];exact sp.symm)) (yZ.mpr (pw.imp_of_mem fun{a b} ha hb q=>q _ _ (atb a ha) (atb b hb))) sw;rw[←eq];exact back atb
def FT(H:Hp)(a:Addr)(p:(Int×Int)×Int):Prop:=∃b:Addr,H a=some (.tup [.ref b,.int p.2])∧H b=some (.tup [.int p.1.1,.int p.1.2])
theorem FT.fu{H:Hp}{a:Addr}{p q:(Int×Int)×Int}(h:FT H a p)(g:FT H a q):p=q:=by
 obtain⟨b,e1,e2⟩:=h;obtain⟨c,f1,f2⟩:=g;rw[e1]at f1;injection f1 with f1
 injection f1 with f1
 injection f1 with g1 g2
 injection g1 with g1
 injection g2 with g2 _
 injection g2 with g2
 subst g1;rw[e2]at f2;injection f2 with f2
 injection f2 with f2
 injection f2 with k1 k2
 injection k1 with k1
 injection k2 with k2 _
 injection k2 with k2
 exact yM (yM k1 k2) g2
theorem Tm{H:Hp}{as:List Addr}{ps:Sps}(h:Paired (FT H) as ps):TPsAt H (as.map V.ref) (af ps):=by
 induction h with
 |nil=>exact .nil
 |cons h r ih=>
  obtain⟨_,e1,e2⟩:=h;exact .cons e1 e2 ih
theorem xt{p q:(Int×Int)×Int}(h:(cf (cf aL aL) aL).blt q p=false):leP p q=true:=by
 rw[Sg];have h:cP (cf aL aL) aL q p=false:=h;by_cases c:p.1.1<q.1.1
 ·exact .inl c
 have no:∀{z:Bool},z=true→z=false→False:=fun a b=>by rw[a]at b;cases b
 have n1:¬q.1.1<p.1.1:=fun c=>no (Yp.mpr (.inl (Yp (O:=aL) (U:=aL).mpr (.inl (xJ c))))) h;have e1:p.1.1=q.1.1:=by omega
 refine .inr ⟨e1,?_⟩;have n2:¬q.1.2<p.1.2:=fun c=>no (Yp.mpr (.inl (Yp (O:=aL) (U:=aL).mpr (.inr ⟨e1.symm,xJ c⟩)))) h;by_cases c2:p.1.2<q.1.2
 ·exact .inl c2
 have e2:p.1.2=q.1.2:=by omega
 refine .inr ⟨e2,?_⟩;have n3:¬q.2<p.2:=fun c=>no (Yp.mpr (.inr ⟨yM e1.symm e2.symm,xJ c⟩)) h;omega
section
variable{X:Cx}
def rg:List V→Hp→VK→Prop:=fun xs H Q=>∃(v d:Addr)(ps:Sps),xs=[.ref v]∧H v=some (a_ v d)∧H d=some (.dT (af ps))∧ps.length<64∧
 ∀(H1:Hp)(as:List Addr),Same H H1→Paired (FT H1) as (aO ps)→∀q,H1 q=none→H q=none→Q (.ref q) (upd H1 q (.lst (as.map V.ref)))
theorem oe{H:Hp}:∀{ps:Sps}{xs:List TKv}{j:Nat}{p:(Int×Int)×Int},KT H (af ps) xs→ps[j]?=some p→∃x,xs[j]?=some x∧H x.2.1=some (.tup [.int p.1.1,.int p.1.2])∧∃t,x.2.2=.int p.2 t:=fun{ps xs j p} kt e=>by
 have e2:(af ps)[j]?=some (kk p.1,.int p.2):=by unfold af;rw[xZ,e];rfl
 obtain⟨x,h1,h2,t,h3⟩:=P2 kt e2;exact⟨x,h1,h2,t,h3⟩
theorem Rk(hc:X.calm=true)(hu:X.A.units+64<cLine):bE X (.builtin "sorted") rg:=by
 intro As s σ H xs us Q I rx h;obtain⟨v,d,ps,rfl,hv,hd,h64,q⟩:=h;obtain⟨u,rfl,ru⟩:=Wx rx;cases ru;obtain⟨_,lo,ks,es,ep,kt,raw,ek,ev,sz⟩:=Pf I.hok (.inl hd);obtain⟨view,_⟩:=(show ObjOk X.prog X.w H s.heap v (a_ v d)from I.hok v _ hv);rw[Zk]at sz;have kl:ks.length=ps.length:=by rw[←xL kt,Zk]
 let n:=s.heap.objs.size
 let L:Hp:=fun b=>if n+2≤b then(match ks[b-(n+2)]?,ps[b-(n+2)]? with
  |some x,some p=>some (.tup [.ref x.2.1,.int p.2])
  |_,_=>none)else none
 have Lat:∀(j:Nat)(x:TKv)(p:(Int×Int)×Int),ks[j]?=some x→ps[j]?=some p→L (n+1+1+j)=some (.tup [.ref x.2.1,.int p.2]):=fun j x p h1 h2=>by
  show(if n+2≤n+1+1+j then _ else none)=_;rw[xC (by omega),show n+1+1+j-(n+2)=j by omega,h1,h2]
 refine O2 (uN (prog:=X.prog) (w:=X.w)) (To (prog:=X.prog) (w:=X.w)) FTI (fun{As σ H s a k} I h=>?_) (((0:Int),(0:Int)),(0:Int)) hu (fun{E C} hC=>Po (A:=X.A.in1) (by simpa using I.ok.hd hc) view raw (Zl (by omega)) fun g tk kp tp=>?_)
 ·obtain⟨b,i,j,n,h,hb,rfl⟩:=h;obtain⟨o,m,u,v,e1,e2,e3,ru,⟨t',rv⟩⟩:=iL I h;obtain⟨o2,m2,u2,v2,g1,g2,g3,⟨t2,ru2⟩,⟨t3,rv2⟩⟩:=iL I hb;exact⟨a,o,m,u,v,rfl,e1,e2,e3,⟨b,o2,m2,u2,v2,ru,g1,g2,g3,⟨t2,ru2⟩,⟨t3,rv2⟩⟩,⟨t',rv⟩⟩
 have ent:∀(j:Nat)(hj:j<es.size)(x:TKv),ks[j]?=some x→es[j].key=.ref x.2.1∧es[j].val=x.2.2:=fun j hj x hx=>by
  have q1:(es.toList.map DictEntry.key)[j]?=some es[j].key:=by rw[xZ,yk,x9 hj];rfl
  have q2:(es.toList.map DictEntry.val)[j]?=some es[j].val:=by rw[xZ,yk,x9 hj];rfl
  rw[ek,xZ,xZ,hx]at q1;rw[ev,xZ,hx]at q2;exact⟨(xV q1).symm,(xV q2).symm⟩
 have nw:∀b o,n≤b→L b=some o→ObjOk X.prog X.w (over H n L) g b o:=fun b o hb e=>by
  have e:(if n+2≤b then(match ks[b-(n+2)]?,ps[b-(n+2)]? with
   |some x,some p=>some (HO.tup [.ref x.2.1,.int p.2])
   |_,_=>none)else none)=some o:=e
  by_cases hb2:n+2≤b
  ·rw[xC hb2]at e;have hj:b-(n+2)<ps.length:=by
    by_cases z:b-(n+2)<ps.length
    ·exact z
    ·rw[List.getElem?_eq_none (Nat.not_lt.mp z)]at e;cases z2:ks[b-(n+2)]? <;> rw[z2]at e <;> cases e
   have hp:ps[b-(n+2)]?=some ps[b-(n+2)]:=yx hj;obtain⟨x,hx,_,t,hv⟩:=oe kt hp;rw[hx,hp]at e;cases e;have hje:b-(n+2)<es.size:=by omega
   obtain⟨k1,k2⟩:=ent _ hje x hx;have tb:=tp _ hje;rw[k1,k2,hv,show s.heap.objs.size+1+1+(b-(n+2))=b by show n+1+1+(b-(n+2))=b;omega]at tb;exact⟨Zl (leN rfl),[.ref x.2.1,.int _ t],.cons rfl (.cons ⟨t,rfl⟩ .nil),⟨_,tb,⟨rfl,rfl⟩,_,rfl⟩⟩
  ·rw[xz hb2]at e;cases e
 obtain⟨I',sm⟩:=I.over (t':=tk) kp nw;have pr:Paired (FT (over H n L)) (beh (n+1) es.size) ps:=by
  have go:∀(l:Sps)(m:Nat),(∀j p,l[j]?=some p→ps[m+j]?=some p)→m+l.length=ps.length→Paired (FT (over H n L)) ((List.range l.length).map fun j=>n+1+1+(m+j)) l:=fun l=>by
   induction l with
   |nil=>intro m _ _;exact .nil
   |cons p l ih=>
    intro m hl hm;have e0:=hl 0 p rfl;obtain⟨x,hx,hb,_⟩:=oe kt e0;have q:=ih (m+1) (fun j p e=>by have:=hl (j+1) p (by simpa using e);rwa [show m+(j+1)=m+1+j by omega]at this) (by rw[List.length_cons]at hm;omega);rw[yn,List.range_succ_eq_map,xD,x8];refine .cons ⟨x.2.1,?_,sm _ _ hb⟩ ?_
    ·rw[gC (by omega)];exact Lat (m+0) x p hx e0
    ·have ef:((fun j=>n+1+1+(m+j))∘Nat.succ)=fun j=>n+1+1+(m+1+j):=by
      funext j
      show n+1+1+(m+(j+1))=_;omega
     rw[ef];exact q
  have:=go ps 0 (fun j p e=>by rwa [Am]) (by omega);rw[sz];unfold beh;simpa using this
 refine hC g tk (over H n L) (beh (n+1) es.size) I' (by rw[kW];omega) (fun a ha=>?_) fun bs bp pw q0 nq=>?_
 ·have:∀{l:List Addr}{m:Sps},Paired (FT (over H n L)) l m→a∈l→∃k,FTI (over H n L) a k:=fun{l m} r=>by
   induction r with
   |nil=>intro h;exact nomatch h
   |cons e _ ih=>
    intro h
    rcases xQ.mp h with z | h
    ·obtain⟨b,e1,e2⟩:=e;rw[z];exact⟨_,b,_,_,_,e1,e2,rfl⟩
    ·exact ih h
  exact this pr ha
 ·refine q (over H n L) bs sm (gf (FT (over H n L)) (fun f g=>f.fu g) (fun a b=>ik a b) pr bp (pw.imp fun{a b} h k l fk fl=>?_) (Y0 ps) (Qe ps)) q0 nq ?_
  ·obtain⟨b1,e1,e2⟩:=fk;obtain⟨b2,f1,f2⟩:=fl;exact xt (h k l ⟨b1,_,_,_,e1,e2,rfl⟩ ⟨b2,_,_,_,f1,f2,rfl⟩)
  ·by_cases z:H q0=none
   ·exact z
   ·obtain⟨u,hu⟩:=Option.ne_none_iff_exists'.mp z;rw[sm _ _ hu]at nq;cases nq
end
section
variable{P:Program}{w:World}{A:Around}{E:Value→Shared→Prop}{s:Shared}{a b:Addr}{es:Array DictEntry}{ep e2:Nat}
end
theorem qf{X:Cx}(hu:X.A.units+64<cLine):OpR X (compareOp .In) (fun x y H Q=>∃(a:Addr)(o:Option V),y=.ref a∧DGet H a x o∧Q (.bl o.isSome) H):=by
 intro As s σ H x y v u Q I rx ry h;obtain⟨a,o,rfl,g,q⟩:=h;cases ry;exact d_in (by omega) I g rx fun s' I'=>⟨.bl _,H,I',rfl,q⟩
section
variable{X:Cx}{pos:Pos}
end
section
variable{X:Cx}
def wQ(i:Nat):TE:=fun σ H Q=>match List.getD σ i none with
 |some v=>Q v H
 |none=>False
theorem qv{e:Expr}{i:Nat}(h:PE X e (vD i)):PE X e (wQ i):=fun As s σ H Q I q=>h As s σ H Q I (by
 unfold wQ at q;cases e1:List.getD σ i none with
 |none=>rw[e1]at q;exact q.elim
 |some v=>
  rw[e1]at q;refine⟨v,?_,q⟩;unfold List.getD at e1;cases e2:σ[i]? with
  |none=>rw[e2]at e1;cases e1
  |some o=>rw[e2]at e1;exact yP some e1)
def qI(C:Int→Int→Prop)(g:Int→Int→V):R2:=fun x y H Q=>match x,y with
 |.int i,.int j=>C i j∧Q (g i j) H
 |_,_=>False
def qI0(g:Int→Int→V):R2:=fun x y H Q=>match x,y with
 |.int i,.int j=>Q (g i j) H
 |_,_=>False
theorem qi{C:Int→Int→Prop}{g:Int→Int→V}{f:Value→Value→Sem Value}(h:OpR X f (rI C g)):OpR X f (qI C g):=fun As s σ H x y v u Q I rx ry q=>h As s σ H x y v u Q I rx ry (by
 cases x <;> cases y <;> first | exact q.elim | exact⟨_,_,rfl,rfl,q.1,q.2⟩)
theorem qi0{g:Int→Int→V}{f:Value→Value→Sem Value}(h:OpR X f (rI0 g)):OpR X f (qI0 g):=fun As s σ H x y v u Q I rx ry q=>h As s σ H x y v u Q I rx ry (by
 cases x <;> cases y <;> first | exact q.elim | exact⟨_,_,rfl,rfl,q⟩)
def qEq:R2:=fun x y H Q=>match x,y with
 |.int i,.int j=>Q (.bl (decide (i=j))) H
 |_,_=>False
theorem qo(i j:Int):decide (V.int i=V.int j)=decide (i=j):=decide_eq_decide.mpr ⟨fun h=>V.int.inj h,fun h=>by rw[h]⟩
theorem qeq{f:Value→Value→Sem Value}(h:OpR X f rEq):OpR X f qEq:=fun As s σ H x y v u Q I rx ry q=>h As s σ H x y v u Q I rx ry (by
 cases x <;> cases y <;> first | exact q.elim | exact⟨rfl,by rw[qo];exact q⟩)
def qIx(A:Hp→Addr→List V→Prop):R2:=fun x y H Q=>match x,y with
 |.ref p,.int i=>∃xs v,A H p xs∧atI xs i=some v∧Q v H
 |_,_=>False
theorem X9:IxR X (qIx (SqL X.K)):=fun a b As s σ H x y v u Q I rx ry q=>Uv a b As s σ H x y v u Q I rx ry (by
 cases x <;> cases y <;> first | exact q.elim | exact⟨_,q.choose,_,q.choose_spec.choose,rfl,rfl,q.choose_spec.choose_spec⟩)
def qK(Q:Bool→Hp→Prop):VK:=fun x H=>match x with
 |.bl k=>Q k H
 |_=>False
def xq(t:TE):TT:=fun σ H Q=>t σ H (qK Q)
theorem Ud{op:CmpOp}{a b:Expr}{pos:Pos}{ta tb:TE}{r:R2}(ho:OpR X (compareOp op) r)(ha:PE X a ta)(hb:PE X b tb)(hm:behindInMarks op b=false):PT X (.Compare a [op] [b] pos) (xq (tOp r ta tb)):=by
 intro As s σ H Q I h;refine wpAny_isTrue_Compare1 (thn (ha As s σ H _ I h) fun v s1 ⟨x,H1,I1,r1,q1⟩=>thn (hb As s1 σ H1 _ I1 q1) fun u s2 ⟨y,H2,I2,r2,q2⟩=>
  thn (ho As s2 σ H2 x y v u _ I2 r1 r2 q2) fun c s3 ⟨z,H3,I3,r3,q3⟩=>?_) hm
 cases z <;> first | exact q3.elim | skip
 cases r3;exact zc ⟨H3,I3,q3⟩
end
theorem blk{p:Prop}(h:p):p:=h
theorem Zy{X:Cx}{pos:Pos}(i:Nat){x:Str}{e:Expr}{te:TE}{pos':Pos}(hN:X.N.Nodup)(hi:X.N[i]?=some x)(hx:Loc X.env.scope x)(he:PE X e te)(hs:swapsWith e (some (.Name x pos')) pos.line X.env=pure false:=by rfl)(hf:X.fn x=true:=by rfl):PS X (.Assign [.Name x pos'] e pos) (pT te (gk i)):=@iT _ _ i _ _ _ _ hN hi hx he hs (.inl hf)
theorem Zq{N P:List Str}{sc:Scope}(a:sc.kind=.function)(b:sc.isCoroutine=false)(c:sc.isGenerator=false)(d:N.take P.length=P)(h:N.Nodup∧(∀x∈P,sc.names.lookup x=some .local∨sc.names.lookup x=some .cell)∧∀y∈sc.names,y.2≠.free):FnScope N P sc:=⟨a,b,c,h.1,d,h.2.1,h.2.2⟩
theorem Sl{X:Cx}{own:List Str}{scope:Scope}(hc:X.calm=X.calm)(hk:scope.kind=.function)(h1:jq scope.names=true:=by rfl)(h2:js X.env.scope.names scope.names=true:=by rfl)(h3:jw X.N scope.names=true:=by rfl):CompOk X own scope:=CompOk.of hc hk h1 h2 h3
theorem Xa{X:Cx}{a b:Expr}{ta tb:TE}{pos:Pos}{r:R2}(hr:IxR X r)(ha:PE X a ta)(hb:PE X b tb)(hs:jW b:=by exact fun _ _=>rfl):PE X (.Subscript a b pos) (tOp r ta tb):=wv hr ha hb hs
end L2
namespace K34
open PySem L2
def top(i:Nat):Stmt:=PySem.Challenge.pw_sumshare_k34_whole_papers_where_it_fits.main.body.getD i (.Pass ⟨0,0,0,0⟩)
abbrev cW:Stmt:=top 1
theorem ib:FnScope ["thing"] ["thing"] (aa cW):=Zq rfl rfl rfl rfl (by decide +kernel)
abbrev bn:Stmt:=top 2
theorem Sz:FnScope ["thing","least"] ["thing","least"] (aa bn):=Zq rfl rfl rfl rfl (by decide +kernel)
abbrev a7:Stmt:=top 3
theorem Tc:FnScope ["thing","least","most"] ["thing","least","most"] (aa a7):=Zq rfl rfl rfl rfl (by decide +kernel)
abbrev a6:Stmt:=top 4
theorem Y4:FnScope ["one","other","sums","key","count"] ["one","other"] (aa a6):=Zq rfl rfl rfl rfl (by decide +kernel)
abbrev cK:Stmt:=top 10
theorem Uc:FnScope ["stretch","height","index"] ["stretch"] (aa cK):=Zq rfl rfl rfl rfl (by decide +kernel)
abbrev dq:Stmt:=top 11
theorem Tb:FnScope ["stretch","height","index"] ["stretch"] (aa dq):=Zq rfl rfl rfl rfl (by decide +kernel)
abbrev cz:Stmt:=top 12
theorem Vs:FnScope ["stretch","height","index"] ["stretch"] (aa cz):=Zq rfl rfl rfl rfl (by decide +kernel)
abbrev dD:Stmt:=top 13
theorem Vt:FnScope ["stretch","height","index","lesser"] ["stretch"] (aa dD):=Zq rfl rfl rfl rfl (by decide +kernel)
abbrev bX:Stmt:=top 14
theorem V7:FnScope ["thing","deep","height","index"] ["thing","deep"] (aa bX):=Zq rfl rfl rfl rfl (by decide +kernel)
abbrev eu:Stmt:=top 16
theorem Vl:FnScope ["ladder","room","deep","counts","total"] ["ladder"] (aa eu):=Zq rfl rfl rfl rfl (by decide +kernel)
abbrev bQ:Stmt:=top 17
theorem Ws:FnScope ["counts","stretch","one","other"] ["counts","stretch"] (aa bQ):=Zq rfl rfl rfl rfl (by decide +kernel)
abbrev bh:Stmt:=top 18
theorem Vk:FnScope ["deep","bar","counts","stretch"] ["deep","bar","counts"] (aa bh):=Zq rfl rfl rfl rfl (by decide +kernel)
abbrev cE:Stmt:=top 19
theorem Vv:FnScope ["counts","stretch","many","parent"] ["counts","stretch","many"] (aa cE):=Zq rfl rfl rfl rfl (by decide +kernel)
abbrev bK:Stmt:=top 20
theorem Zw:FnScope ["ladder","room","deep","pairs","total","bar","counts","folds","stretch","one"] ["ladder"] (aa bK):=Zq rfl rfl rfl rfl (by decide +kernel)
abbrev dC:Stmt:=top 21
theorem i7:FnScope ["ladder"] ["ladder"] (aa dC):=Zq rfl rfl rfl rfl (by decide +kernel)
abbrev cN:Stmt:=top 23
theorem Wy:FnScope ["tree","steps","waiting","here"] ["tree"] (aa cN):=Zq rfl rfl rfl rfl (by decide +kernel)
abbrev bZ:Stmt:=top 24
theorem Pk:FnScope ["tree"] ["tree"] (aa bZ):=Zq rfl rfl rfl rfl (by decide +kernel)
theorem Uy:(["step","tree"]:List Str).Nodup:=by decide +kernel
abbrev cj:Stmt:=top 25
theorem Vr:FnScope ["tree","things","stream"] ["tree"] (aa cj):=Zq rfl rfl rfl rfl (by decide +kernel)
abbrev f8:Stmt:=top 26
theorem Ub:FnScope ["tree","of_stream","of_two","kept","step","other","one"] ["tree","of_stream","of_two"] (aa f8):=Zq rfl rfl rfl rfl (by decide +kernel)
abbrev bz:Stmt:=top 28
theorem Rm:FnScope ["room","deep"] ["room","deep"] (aa bz):=Zq rfl rfl rfl rfl (by decide +kernel)
abbrev bB:Stmt:=top 29
theorem X3:FnScope ["room","deep","thing","day","mark","number","many"] ["room","deep","thing"] (aa bB):=Zq rfl rfl rfl rfl (by decide +kernel)
abbrev bC:Stmt:=top 30
theorem Yl:FnScope ["one","other","room","deep","counts","total","sums"] ["one","other"] (aa bC):=Zq rfl rfl rfl rfl (by decide +kernel)
abbrev aZ:Stmt:=top 31
theorem Sv:FnScope ["one","other"] ["one","other"] (aa aZ):=Zq rfl rfl rfl rfl (by decide +kernel)
abbrev ce:Stmt:=top 32
theorem Wd:FnScope ["room","deep","stream","ladder","thing"] ["room","deep","stream"] (aa ce):=Zq rfl rfl rfl rfl (by decide +kernel)
abbrev ah:Stmt:=top 33
theorem Rl:FnScope ["room","deep","tree"] ["room","deep","tree"] (aa ah):=Zq rfl rfl rfl rfl (by decide +kernel)
abbrev cw:Stmt:=top 35
theorem N0:FnScope ["stream"] ["stream"] (aa cw):=Zq rfl rfl rfl rfl (by decide +kernel)
theorem Yw:(["day","mark","number","many","stream"]:List Str).Nodup:=by decide +kernel
abbrev aH:Stmt:=top 37
theorem Zx:FnScope ["one","other","ladder","paper","late_ladder","late_paper","both","folds"] ["one","other"] (aa aH):=Zq rfl rfl rfl rfl (by decide +kernel)
abbrev aW:Stmt:=top 38
theorem Yn:FnScope ["room","deep","stream","kept","thing"] ["room","deep","stream"] (aa aW):=Zq rfl rfl rfl rfl (by decide +kernel)
abbrev ai:Stmt:=top 39
theorem W9:FnScope ["room","deep","tree","ladder","paper"] ["room","deep","tree"] (aa ai):=Zq rfl rfl rfl rfl (by decide +kernel)
abbrev bO:Stmt:=top 40
theorem Qi:FnScope ["stream"] ["stream"] (aa bO):=Zq rfl rfl rfl rfl (by decide +kernel)
theorem Yj:(["day","mark","number","many","stream"]:List Str).Nodup:=by decide +kernel
abbrev cx:Stmt:=top 41
theorem Yo:FnScope ["stream","ladder","paper","room","deep","counts","total","standing","stretch","many"] ["stream","ladder","paper"] (aa cx):=Zq rfl rfl rfl rfl (by decide +kernel)
theorem Uz:(["one","stream","ladder","paper","room","deep","counts","total","standing","stretch","many"]:List Str).Nodup:=by decide +kernel
abbrev bi:Stmt:=top 42
theorem Zm:FnScope ["stream","ladder","room","deep","pairs","total","counts","folds","standing","height","rests","rising"] ["stream","ladder"] (aa bi):=Zq rfl rfl rfl rfl (by decide +kernel)
theorem Xp:(["stretch","many","stream","ladder","room","deep","pairs","total","counts","folds","standing","height","rests","rising"]:List Str).Nodup:=by decide +kernel
theorem Xo:(["stretch","many","stream","ladder","room","deep","pairs","total","counts","folds","standing","height","rests","rising"]:List Str).Nodup:=by decide +kernel
theorem Xn:(["stretch","many","stream","ladder","room","deep","pairs","total","counts","folds","standing","height","rests","rising"]:List Str).Nodup:=by decide +kernel
abbrev cb:Stmt:=top 43
theorem S1:FnScope ["stream","ladder","paper"] ["stream","ladder"] (aa cb):=Zq rfl rfl rfl rfl (by decide +kernel)
abbrev bj:Stmt:=top 45
theorem Sw:FnScope ["ladder"] ["ladder"] (aa bj):=Zq rfl rfl rfl rfl (by decide +kernel)
theorem Xm:(["stretch","count","ladder"]:List Str).Nodup:=by decide +kernel
abbrev bc:Stmt:=top 46
theorem S3:FnScope ["ladder"] ["ladder"] (aa bc):=Zq rfl rfl rfl rfl (by decide +kernel)
theorem Xg:(["stretch","count","ladder"]:List Str).Nodup:=by decide +kernel
abbrev jr:Stmt:=top 48
theorem rE:FnScope ["stream","ladder"] ["stream","ladder"] (aa jr):=Zq rfl rfl rfl rfl (by decide +kernel)
abbrev b9:Stmt:=top 49
theorem N1:FnScope ["places"] ["places"] (aa b9):=Zq rfl rfl rfl rfl (by decide +kernel)
theorem Wc:(["number","count","places"]:List Str).Nodup:=by decide +kernel
abbrev eg:Stmt:=top 50
theorem mH:FnScope ["ladder"] ["ladder"] (aa eg):=Zq rfl rfl rfl rfl (by decide +kernel)
abbrev dm:Stmt:=top 51
theorem jb:FnScope ["ladder"] ["ladder"] (aa dm):=Zq rfl rfl rfl rfl (by decide +kernel)
abbrev fU:Stmt:=top 53
theorem S2:FnScope ["_law_script","_law_k","_law_cell"] ["_law_script","_law_k"] (aa fU):=Zq rfl rfl rfl rfl (by decide +kernel)
abbrev dX:Stmt:=top 54
theorem Up:FnScope ["_law_pen_here","_law_size","_law_drawn","_law_number"] ["_law_pen_here","_law_size"] (aa dX):=Zq rfl rfl rfl rfl (by decide +kernel)
abbrev dY:Stmt:=top 55
theorem Sx:FnScope ["_law_pen_here","_law_k","_law_some"] ["_law_pen_here","_law_k"] (aa dY):=Zq rfl rfl rfl rfl (by decide +kernel)
abbrev eC:Stmt:=top 56
theorem lJ:FnScope ["_law_pen_here"] ["_law_pen_here"] (aa eC):=Zq rfl rfl rfl rfl (by decide +kernel)
abbrev du:Stmt:=top 57
theorem Vu:FnScope ["_law_pen_here","_law_marks","_law_deep","_law_day","_law_number"] ["_law_pen_here","_law_marks","_law_deep"] (aa du):=Zq rfl rfl rfl rfl (by decide +kernel)
abbrev cR:Stmt:=top 58
theorem gI:FnScope ["_law_pen_here","_law_marks","_law_deep","_law_most"] ["_law_pen_here","_law_marks","_law_deep","_law_most"] (aa cR):=Zq rfl rfl rfl rfl (by decide +kernel)
theorem Ti:(["_law_k","_law_pen_here","_law_marks","_law_deep","_law_most"]:List Str).Nodup:=by decide +kernel
abbrev cX:Stmt:=top 59
theorem Sy:FnScope ["_law_pen_here","_law_marks","_law_deep","_law_most","_law_parts","_law_left","_law_one"] ["_law_pen_here","_law_marks","_law_deep","_law_most","_law_parts"] (aa cX):=Zq rfl rfl rfl rfl (by decide +kernel)
abbrev eG:Stmt:=top 60
theorem lP:FnScope ["_law_pen_here"] ["_law_pen_here"] (aa eG):=Zq rfl rfl rfl rfl (by decide +kernel)
abbrev bJ:Stmt:=top 61
theorem Yz:FnScope ["_law_stream_here","_law_found","_law_day","_law_mark","_law_number","_law_many_here"] ["_law_stream_here"] (aa bJ):=Zq rfl rfl rfl rfl (by decide +kernel)
abbrev eA:Stmt:=top 62
theorem Y5:FnScope ["_law_stream_here","_law_ladder","_law_room_here","_law_deep","_law_counts","_law_total","_law_here","_law_within","_law_height","_law_index","_law_count","_law_above","_law_stretch","_law_there"] ["_law_stream_here","_law_ladder"] (aa eA):=Zq rfl rfl rfl rfl (by decide +kernel)
theorem R7:(["_law_leaf","_law_stream_here","_law_ladder","_law_room_here","_law_deep","_law_counts","_law_total","_law_here","_law_within","_law_height","_law_index","_law_count","_law_above","_law_stretch","_law_there"]:List Str).Nodup:=by decide +kernel
theorem R6:(["_law_leaf","_law_stream_here","_law_ladder","_law_room_here","_law_deep","_law_counts","_law_total","_law_here","_law_within","_law_height","_law_index","_law_count","_law_above","_law_stretch","_law_there"]:List Str).Nodup:=by decide +kernel
abbrev dt:Stmt:=top 63
theorem Wr:FnScope ["_law_stream_here","_law_ladder","_law_paper","_law_standing","_law_stretch","_law_many_here","_law_parent"] ["_law_stream_here","_law_ladder","_law_paper"] (aa dt):=Zq rfl rfl rfl rfl (by decide +kernel)
theorem Sc:(["_law_one","_law_stream_here","_law_ladder","_law_paper","_law_standing","_law_stretch","_law_many_here","_law_parent"]:List Str).Nodup:=by decide +kernel
abbrev dB:Stmt:=top 64
theorem Xi:FnScope ["_law_stream_here","_law_ladder","_law_due","_law_handed","_law_found","_law_said","_law_again"] ["_law_stream_here","_law_ladder"] (aa dB):=Zq rfl rfl rfl rfl (by decide +kernel)
abbrev bG:Stmt:=top 65
theorem U8:FnScope ["_law_room_here","_law_deep","_law_tree_here","_law_ladder","_law_paper"] ["_law_room_here","_law_deep","_law_tree_here","_law_ladder"] (aa bG):=Zq rfl rfl rfl rfl (by decide +kernel)
abbrev dG:Stmt:=top 66
theorem Yb:FnScope ["_law_pen_here","_law_deep","_law_stream_here","_law_found","_law_k","_law_at","_law_day","_law_mark","_law_number","_law_many_here","_law_near","_law_part","_law_left"] ["_law_pen_here","_law_deep","_law_stream_here"] (aa dG):=Zq rfl rfl rfl rfl (by decide +kernel)
abbrev c7:Stmt:=top 67
theorem Xs:FnScope ["_law_script","_law_pen_here","_law_deep","_law_room_here","_law_tree_here","_law_stream_here","_law_ladder","_law_first","_law_some","_law_k","_law_other_here","_law_strange","_law_less"] ["_law_script"] (aa c7):=Zq rfl rfl rfl rfl (by decide +kernel)
def bV:Sp:=fun vs H Q _=>∃(a:Addr)(n:Int),vs=[.ref a,.int n]∧PenAt H a∧0<n∧n<1000000000000000000000000000000000000000000000000000000000000∧
 ∀(d:Int)(H':Hp),0≤d→d<n→PenAt H' a→Grw a H H'→Q (.int d) H'
def sM(K:W.Frag):Sp:=fun vs H Q _=>∃(a:Addr)(ns:List Int)(k:Int),vs=[.ref a,.int k]∧SqL K H a (ns.map V.int)∧0≤k∧
 ∀(p:Addr)(H':Hp),H p=none→Same H H'→PenAt H' p→Q (.ref p) H'
def ol:Sp:=fun vs H Q _=>∃(x:V)(k:Int),vs=[x,.int k]∧∀(z:Str)(H':Hp),z∈words→Same H H'→Q (.str z) H'
def m4:Sp:=fun vs H Q _=>∃(a:Addr),vs=[.ref a]∧PenAt H a∧∀(m:Int)(H':Hp),1≤m→m≤1000000000→PenAt H' a→Grw a H H'→Q (.int m) H'
def jU:Sp:=fun vs H Q _=>∃(a:Addr)(n k:Int),vs=[.ref a,.int n,.int k]∧PenAt H a∧0<n∧n<1073741824∧0≤k∧k<30∧
 ∀(r:Addr)(t:Th)(H':Hp),t.Ok→t.num<2^k.toNat→au a H' r=some (.tup t.vs)→PenAt H' a→Grw a H H'→Q (.ref r) H'
def eE:Sp:=fun vs H Q _=>∃(a:Addr)(n k l:Int),vs=[.ref a,.int n,.int k,.int l]∧PenAt H a∧0<n∧n<1073741824∧0≤k∧k<30∧0≤l∧l<1000∧
 ∀(r:Addr)(ts:List Th)(H':Hp),(∀t∈ts,t.Ok)→(∀t∈ts,t.num<2^k.toNat)→(ts.length:Int)≤l→DV (au a H') (.ref r) (.list (ts.map Th.D))→PenAt H' a→Grw a H H'→Q (.ref r) H'
variable{P:Program}{w:World}{K:W.Frag}{mg:Str→Option Value}{base:Heap}{f:Addr}{fd:FuncData}
theorem qj(F:Fun K "_law_draw" "_law_draw" dX f fd):FnOk P w K mg base CX0 1 f fd ["_law_pen_here","_law_size"] bV:=by
 refine F.ok Up (fun vs H Q E h=>?_) (fun cdv A outer s H vs Q E hr h=>?_)
 ·obtain⟨a,n,rfl,_⟩:=h;rfl
 obtain⟨a,n,rfl,⟨p,q,r,e⟩,h0,h1,hq⟩:=h;refine⟨_,(Z3 (Ys (Ze (qi0 Zu) (Xa X9 (qv (pv 0)) Z5) Z5) (pV (qv (pv 0)) Z5 gP))
 (Z3 (Y8 (Ud (qi0 Rf) (Xa X9 (qv (pv 0)) Z5) Z5 (Zh _)) (Z3 (Zy 2 Up.nd rfl (Or.inl rfl) (Ze (qi Xy) (Xa X9 (qv (pv 0)) Z5) (qv (pv 1))))
 (Z3 (Ys (Ze pO (Xa X9 (qv (pv 0)) Z5) (qv (pv 1))) (pV (qv (pv 0)) Z5 gP))
 (Z7 (Zc (qv (pv 2)))))) Zr)
 (Z3 (Zy 3 Up.nd rfl (Or.inl rfl) (Ze (qi Xy) (Ze (qi Vc) (Ze (qi0 Zu) (Ze (qi0 Zu) (Xa X9 (qv (pv 0)) Z5) (Ze (qi Vc) Z5 (Xa X9 (qv (pv 0)) Z5))) Z5) Z5) Z5))
 (Z3 (Zy 3 Up.nd rfl (Or.inl rfl) (Ze (qi Xy) (Ze (qi Vc) (qv (pv 3)) (Ze (qi0 Zu) (Ze (qi0 Zu) (Ze (qi Xy) (qv (pv 3)) Z5) (Xa X9 (qv (pv 0)) Z5)) Z5)) Z5))
 (Z7 (Zc (Ze (qi Xy) (Ze (qi Ur) (Ze (qi Xy) (Ze (qi Vc) (qv (pv 3)) (Ze (qi0 Zu) (Ze (qi Xy) (qv (pv 3)) Z5) Z5)) Z5) Z5) (qv (pv 1))))))))),?_⟩
 refine⟨_,_,SqL.of e,j8 _ _ _,a,_,2,_,rfl,rfl,e,rfl,?_⟩;have e1:upd H a (.lst [.int p,.int q,.int (r+1)]) a=some (.lst [.int p,.int q,.int (r+1)]):=Z2;refine⟨_,_,SqL.of e1,oi _ _ _,?_⟩;refine Xf (fun c=>?_) (fun c=>?_)
 ·refine⟨_,_,SqL.of e1,oi _ _ _,h0,?_⟩;refine⟨_,_,SqL.of e1,oi _ _ _,_,_,rfl,rfl,⟨h0,h1⟩,a,_,0,_,rfl,rfl,e1,rfl,?_⟩;refine hq (p % n) _ (z9 _ (by omega)) (z5 _ h0) ⟨_,_,_,Z2⟩ ?_;rw[kZ];exact X2
 ·refine⟨_,_,SqL.of e1,sC _ _ _,_,_,SqL.of e1,j8 _ _ _,lw rfl rfl,mulR rfl rfl,Xv rfl,?_⟩;refine⟨Xv rfl,_,_,SqL.of e1,j8 _ _ _,vU _ _ _ rfl rfl,Xv rfl,?_⟩;refine⟨Xv rfl,vU _ _ _ rfl rfl,Xv rfl,sY rfl rfl,h0,?_⟩;exact hq _ _ (z9 _ (by omega)) (z5 _ h0) ⟨_,_,_,e1⟩ X2
theorem ve(F:Fun K "_law_pen" "_law_pen" fU f fd)(bI:mg "len"=none):FnOk P w K mg base CX0 1 f fd ["_law_script","_law_k"] (sM K):=by
 refine F.ok S2 (fun vs H Q E h=>?_) (fun cdv A outer s H vs Q E hr h=>?_)
 ·obtain⟨a,ns,k,rfl,_⟩:=h;rfl
 obtain⟨a,ns,k,rfl,hS,h0,hq⟩:=h;have hl:(ns.map V.int).length=ns.length:=az _;refine⟨_,(Z3 (Zy 2 S2.nd rfl (Or.inl rfl) (Ze (qi0 Zu) (Ze (qi Vc) Z5 (qv (pv 1))) Z5))
 (Z3 (Y8 (Ud (qi0 Re) (qv (pv 1)) (Y1 Xd rfl bI Ah (Z0 (qv (pv 0)) Z1)) (Zh _)) (Z7 (Zy 2 S2.nd rfl (Or.inl rfl) (Xa X9 (qv (pv 0)) (qv (pv 1))))) (Z7 (Y8 (Ud (qi0 Rf) (Y1 Xd rfl bI Ah (Z0 (qv (pv 0)) Z1)) Z5 (Zh _)) (Z7 (Zy 2 S2.nd rfl (Or.inl rfl) (Ze (qi0 Zu) (Xa X9 (qv (pv 0)) (Ze (qi Xy) (qv (pv 1)) (Y1 Xd rfl bI Ah (Z0 (qv (pv 0)) Z1)))) (Ze (qi Vc) Z5 (qv (pv 1)))))) Zr)))
 (Z3 (Y8 (Ud (qi0 hO) (qv (pv 2)) (Ze (qi jk) Z5 Z5) (Zh _)) (Z7 (Zc (Yk (Z0 (Ze (qi0 Xj) (qv (pv 2)) (Ze (qi jk) Z5 Z5)) (Z0 (Ze (qi Xy) (qv (pv 2)) Z5) (Z0 Z5 Z1)))))) Zr)
 (Z7 (Zc (Yk (Z0 Z5 (Z0 (Ze (qi0 Zu) (Ze (qi Xy) (qv (pv 2)) Z5) (Ze (qi Vc) Z5 (qv (pv 1)))) (Z0 Z5 Z1))))))))),?_⟩
 refine⟨lw rfl rfl,?_⟩;refine⟨a,_,rfl,.inl hS,?_⟩;have atn:∀i:Int,0≤i→i<ns.length→∃v:Int,atI (ns.map V.int) i=some (.int v):=fun i h1 h2=>by
  obtain⟨v,hv,hm⟩:=e7 (xs:=ns.map V.int) h1 (by rw[hl];exact h2);obtain⟨n,_,rfl⟩:=xB.mp hm;exact⟨n,hv⟩
 have fin:∀x y z:Int,∀p,H p=none→Q (.ref p) (upd H p (.lst [.int x,.int y,.int z])):=fun x y z p hp=>hq p _ hp (Z6 hp _) ⟨x,y,z,Z2⟩;refine Xf (fun c=>?_) (fun c=>?_)
 ·have c:=xH c;rw[hl]at c;obtain⟨v,hv⟩:=atn k h0 c;refine⟨_,_,hS,hv,?_⟩;refine⟨jA rfl rfl rfl,?_⟩;refine Xf (fun c=>?_) (fun c=>?_)
  ·refine⟨jA rfl rfl rfl,Xv rfl,leN rfl,fin _ _ _⟩
  ·refine⟨Xv rfl,lw rfl rfl,leN rfl,fin _ _ _⟩
 ·refine⟨a,_,rfl,.inl hS,?_⟩;refine Xf (fun c=>?_) (fun c=>?_)
  ·have c:=xH c;rw[hl]at c;have hm:=z9 k (show(ns.length:Int)≠0 by omega);have hm2:=z5 k c;obtain⟨v,hv⟩:=atn (k % (ns.length:Int)) hm hm2;refine⟨a,_,rfl,.inl hS,by rw[hl];exact c,_,_,hS,by rw[hl];exact hv,lw rfl rfl,?_⟩;refine⟨jA rfl rfl rfl,?_⟩;refine Xf (fun c=>?_) (fun c=>?_)
   ·refine⟨jA rfl rfl rfl,Xv rfl,leN rfl,fin _ _ _⟩
   ·refine⟨Xv rfl,lw rfl rfl,leN rfl,fin _ _ _⟩
  ·refine⟨jA rfl rfl rfl,?_⟩;refine Xf (fun c=>?_) (fun c=>?_)
   ·refine⟨jA rfl rfl rfl,Xv rfl,leN rfl,fin _ _ _⟩
   ·refine⟨Xv rfl,lw rfl rfl,leN rfl,fin _ _ _⟩
theorem qy(F:Fun K "_law_word" "_law_word" dY f fd):FnOk P w K mg base CX0 1 f fd ["_law_pen_here","_law_k"] ol:=by
 refine F.ok Sx (fun vs H Q E h=>?_) (fun cdv A outer s H vs Q E hr h=>?_)
 ·obtain⟨x,k,rfl,_⟩:=h;rfl
 obtain⟨x,k,rfl,hq⟩:=h;refine⟨_,(Z3 (Zy 2 Sx.nd rfl (Or.inl rfl) Ue)
 (Z3 (Zy 2 Sx.nd rfl (Or.inl rfl) (Ze jy (pv 2) Ue))
 (Z7 (Zc (Xa Uv (Uf PySem.F.plainAttrs_str PySem.F.slot_str_split PySem.F.type_str_split om (pv 2) (Z0 Ue Z1)) (Ze Xy (pv 1) Z5)))))),?_⟩
 refine⟨_,rfl,wordA,wordB,rfl,rfl,qz,?_⟩;refine⟨_,rfl,rfl,wordA++wordB," ",words,rfl,rfl,u7,uX,uc,vf,i4,by decide,fun l hl=>?_⟩;obtain⟨v,hv,hm⟩:=e7 (xs:=words.map V.str) (i:=k % 26) (z9 _ (by decide)) (by rw[az];exact z5 _ (by decide));obtain⟨z,hz,rfl⟩:=xB.mp hm;refine⟨_,rfl,_,_,rfl,rfl,Xv rfl,l,_,_,_,rfl,rfl,SqL.of Z2,hv,?_⟩;exact hq z _ hz (Z6 hl _)
theorem qu(aj:Has P w K mg base "_law_draw" 1 ["_law_pen_here","_law_size"] bV)(F:Fun K "_law_many" "_law_many" eC f fd):FnOk P w K mg base CX0 2 f fd ["_law_pen_here"] m4:=by
 refine F.ok lJ (fun vs H Q E h=>?_) (fun cdv A outer s H vs Q E hr h=>?_)
 ·obtain⟨a,rfl,_⟩:=h;rfl
 obtain⟨a,rfl,hp,hq⟩:=h;refine⟨_,(Z3 (Y8 (Ud (qeq S8) (Z4 aj hr (Z0 (qv (pv 0)) (Z0 Z5 Z1))) Z5 (Zh _)) (Z7 (Zc (Ze (qi0 Zu) Z5 (Z4 aj hr (Z0 (qv (pv 0)) (Z0 (Ze (qi0 Xj) (Ze (qi jk) Z5 Z5) Z5) Z1)))))) Zr)
 (Z7 (Zc (Ze (qi0 Zu) Z5 (Z4 aj hr (Z0 (qv (pv 0)) (Z0 (Xa X9 (Yk (Z0 Z5 (Z0 Z5 (Z0 Z5 Z1)))) (Z4 aj hr (Z0 (qv (pv 0)) (Z0 Z5 Z1)))) Z1))))))),?_⟩
 refine⟨a,6,rfl,hp,Xv rfl,ltI rfl,fun d1 H1 _ _ hp1 g1=>?_⟩;refine Xf (fun c=>?_) (fun c=>?_)
 ·refine⟨jA rfl rfl rfl,a,_,rfl,hp1,Xv rfl,ltI rfl,fun d2 H2 x0 x1 hp2 g2=>?_⟩;have x1:d2<999999999:=x1;exact hq _ _ (by omega) (by omega) hp2 (g1.trans g2)
 ·refine⟨leN rfl,fun p hn=>⟨a,3,rfl,hp1.laid hn,Xv rfl,ltI rfl,fun d2 H2 x0 x1 hp2 g2=>?_⟩⟩;obtain⟨v,hv,hm⟩:=at3 (x:=.int 1) (y:=.int 2) (z:=.int 9) x0 x1;have hpa:=hp1.ne hn;have e2:H2 p=some (.lst [.int 1,.int 2,.int 9]):=Sh g2 hpa Z2;refine⟨_,v,SqL.of e2,hv,?_⟩;obtain⟨n,rfl,n0,n1⟩:∃n:Int,v=.int n∧0<n∧n<10:=by
   rcases hm with rfl | rfl | rfl
   ·exact⟨_,rfl,by decide,by decide⟩
   ·exact⟨_,rfl,by decide,by decide⟩
   ·exact⟨_,rfl,by decide,by decide⟩
  refine⟨a,n,rfl,hp2,n0,by omega,fun d3 H3 y0 y1 hp3 g3=>?_⟩;exact hq _ _ (by omega) (by omega) hp3 (g1.trans ((X4 hn).trans (g2.trans g3)))
theorem pJ(aj:Has P w K mg base "_law_draw" 1 ["_law_pen_here","_law_size"] bV)(n8:Has P w K mg base "_law_word" 1 ["_law_pen_here","_law_k"] ol)(nK:Has P w K mg base "_law_many" 2 ["_law_pen_here"] m4)(F:Fun K "_law_thing" "_law_thing" du f fd):FnOk P w K mg base CX0 3 f fd ["_law_pen_here","_law_marks","_law_deep"] jU:=by
 refine F.ok Vu (fun vs H Q E h=>?_) (fun cdv A outer s H vs Q E hr h=>?_)
 ·obtain⟨a,n,k,rfl,_⟩:=h;rfl
 obtain⟨a,n,k,rfl,hp,n0,n1,k0,k1,hq⟩:=h;refine⟨_,(Z3 (Zy 3 Vu.nd rfl (Or.inl rfl) (Ze (qi Vc) (Z4 aj hr (Z0 (qv (pv 0)) (Z0 Z5 Z1))) (Xa X9 (Yk (Z0 Z5 (Z0 Z5 (Z0 Z5 Z1)))) (Z4 aj hr (Z0 (qv (pv 0)) (Z0 Z5 Z1))))))
 (Z3 (Zy 4 Vu.nd rfl (Or.inl rfl) (Z4 aj hr (Z0 (qv (pv 0)) (Z0 (Ze (qi Tf) Z5 (qv (pv 2))) Z1))))
 (Z3 (Y8 (Ud (qeq S8) (Z4 aj hr (Z0 (qv (pv 0)) (Z0 Z5 Z1))) Z5 (Zh _)) (Z7 (Zy 4 Vu.nd rfl (Or.inl rfl) (Ze (qi Ur) (qv (pv 4)) Z5))) Zr)
 (Z7 (Zc (Zn (Z0 (qv (pv 3)) (Z0 (Z4 n8 hr (Z0 (qv (pv 0)) (Z0 (Z4 aj hr (Z0 (qv (pv 0)) (Z0 (qv (pv 1)) Z1))) Z1))) (Z0 (qv (pv 4)) (Z0 (Z4 nK hr (Z0 (qv (pv 0)) Z1)) Z1)))))))))),?_⟩
 refine⟨a,9,rfl,hp,Xv rfl,ltI rfl,fun d1 H1 x0 x1 hp1 g1=>⟨leN rfl,fun p hn=>⟨a,3,rfl,hp1.laid hn,Xv rfl,ltI rfl,fun d2 H2 y0 y1 hp2 g2=>?_⟩⟩⟩;obtain⟨v,hv,hm⟩:=at3 (x:=.int 1) (y:=.int 1) (z:=.int 1000) y0 y1;have e2:H2 p=some (.lst [.int 1,.int 1,.int 1000]):=Sh g2 (hp1.ne hn) Z2;have gg:=g1.trans ((X4 hn).trans g2);obtain⟨m,rfl,m0⟩:∃m:Int,v=.int m∧0<m:=by
  rcases hm with rfl | rfl | rfl
  ·exact⟨_,rfl,by decide⟩
  ·exact⟨_,rfl,by decide⟩
  ·exact⟨_,rfl,by decide⟩
 refine⟨_,_,SqL.of e2,hv,Or.inl ⟨by omega,by omega⟩,?_⟩;have day0:0≤d1*m:=An x0 (by omega);obtain⟨kn,rfl⟩:=Int.eq_ofNat_of_zero_le k0;have hsh:(1:Int)*2^kn≤536870912∧0<(1:Int)*2^kn:=by
  have a1:(2:Nat)^kn≤2^29:=Nat.pow_le_pow_right (by decide) (by omega);have a2:0<(2:Nat)^kn:=Nat.pow_pos (by decide);have a3:((2^kn:Nat):Int)=(2:Int)^kn:=by push_cast;rfl
  rw[yE,←a3];have a4:(2:Nat)^29=536870912:=by decide
  omega
 refine⟨⟨by omega,by omega,by decide⟩,a,_,rfl,hp2,hsh.2,by show(1:Int)*2^kn<_;omega,fun d3 H3 z0 z1 hp3 g3=>?_⟩;have z1:d3<(1:Int)*2^kn:=z1;have z2:d3<(2:Int)^kn:=by rw[←yE ((2:Int)^kn)];exact z1
 refine⟨a,3,rfl,hp3,Xv rfl,ltI rfl,fun d4 H4 _ _ hp4 g4=>?_⟩;have g5:=gg.trans (g3.trans g4);refine Xf (fun c=>?_) (fun c=>?_)
 ·refine⟨sY rfl rfl,?_⟩;refine⟨a,_,rfl,hp4,n0,by omega,fun d5 H5 _ _ hp5 g6=>⟨_,_,rfl,fun z H6 hz g7=>⟨a,rfl,hp5.same g7,fun mm H7 q0 q1 hp7 g8=>⟨leN rfl,fun r hr7=>?_⟩⟩⟩⟩;refine hq r ⟨d1*m,z,d3 / 4,mm⟩ _ ⟨day0,hz,Int.ediv_nonneg z0 (by decide),q0,by have:=Int.ediv_le_self 4 z0;show d3 / 4<_;omega,q1⟩ (by have:=Int.ediv_le_self 4 z0;show d3 / 4<2^kn;omega) (by rw[Zg (hp7.ne hr7)];exact Z2) (hp7.laid hr7) ?_;obtain⟨_,_,_,e5⟩:=hp5;exact g5.trans (g6.trans ((Uj e5 g7).trans (g8.trans (X4 hr7))))
 ·refine⟨a,_,rfl,hp4,n0,by omega,fun d5 H5 _ _ hp5 g6=>⟨_,_,rfl,fun z H6 hz g7=>⟨a,rfl,hp5.same g7,fun mm H7 q0 q1 hp7 g8=>⟨leN rfl,fun r hr7=>?_⟩⟩⟩⟩;refine hq r ⟨d1*m,z,d3,mm⟩ _ ⟨day0,hz,z0,q0,by show d3<_;omega,q1⟩ (by show d3<2^kn;omega) (by rw[Zg (hp7.ne hr7)];exact Z2) (hp7.laid hr7) ?_;obtain⟨_,_,_,e5⟩:=hp5;exact g5.trans (g6.trans ((Uj e5 g7).trans (g8.trans (X4 hr7))))
theorem lM(aj:Has P w K mg base "_law_draw" 1 ["_law_pen_here","_law_size"] bV)(lW:Has P w K mg base "_law_thing" 3 ["_law_pen_here","_law_marks","_law_deep"] jU)(aK:mg "range"=none)(F:Fun K "_law_stream" "_law_stream" cR f fd):FnOk P w K mg base CX0 4 f fd ["_law_pen_here","_law_marks","_law_deep","_law_most"] eE:=by
 refine F.ok gI (fun vs H Q E h=>?_) (fun cdv A outer s H vs Q E hr h=>?_)
 ·obtain⟨a,n,k,l,rfl,_⟩:=h;rfl
 obtain⟨a,n,k,l,rfl,hp,n0,n1,k0,k1,l0,l1,hq⟩:=h;refine⟨_,(Z7 (Zc (Xw (own:=["_law_k"]) (Sl rfl rfl) (Uq rfl aK (Z0 (Z4 aj hr (Z0 (qv (pv 0)) (Z0 (Ze (qi0 Zu) (qv (pv 3)) Z5) Z1))) Z1))
  (fun _ _ _ _ _=>(Z9 (i:=0) Ti rfl (Or.inl rfl) (Or.inr rfl))) (fun _ _ _ _ _=>We)
  (fun _ _ _ _ _=>(Z4 lW hr (Z0 (pv 1) (Z0 (pv 2) (Z0 (pv 3) Z1)))))))),?_⟩
 refine⟨a,_,rfl,hp,by omega,by omega,fun d H1 x0 x1 hp1 g1=>⟨d,rfl,by omega,by omega,?_⟩⟩;refine i_ (fun i ys H'=>PenAt H' a∧Grw a H H'∧∃ts:List Th,ts.length=i∧(∀t∈ts,t.Ok)∧(∀t∈ts,t.num<2^k.toNat)∧DVs (au a H') ys (ts.map Th.D)) ⟨hp1,g1,[],rfl,(fun _ h=>nomatch h),(fun _ h=>nomatch h),DVs.nil⟩ ?_ ?_
 ·rintro i ys H2 C hi ⟨hp2,g2,ts,hl,hok,hkk,dv⟩ hC;have hyl:=dv.length;rw[az]at hyl;refine⟨Zj (by omega),Wk.refl _,_,rfl,_,rfl,_,rfl,a,n,k,rfl,hp2,n0,n1,k0,k1,fun r t H3 ht hkt hr3 hp3 g3=>hC _ _ ⟨hp3,g2.trans g3,ts++[t],by rw[xE,hl];rfl,?_,?_,?_⟩⟩
  ·intro t' ht'
   rcases xR.mp ht' with h | h
   ·exact hok t' h
   ·rw[xF.mp h];exact ht
  ·intro t' ht'
   rcases xR.mp ht' with h | h
   ·exact hkk t' h
   ·rw[xF.mp h];exact hkt
  ·rw[xN];exact(dv.mono g3).append (.cons (Th.dv hr3) .nil)
 ·rintro ys H2 ⟨hp2,g2,ts,hl,hok,hkk,dv⟩;have hyl:=dv.length;rw[az]at hyl;refine⟨Zl (by omega),fun p hn=>hq p ts _ hok hkk (by omega) ?_ (hp2.laid hn) (g2.trans (X4 hn))⟩;have e:au a (upd H2 p (.lst ys)) p=some (.lst ys):=by rw[Zg (hp2.ne hn)];exact Z2
  exact .lst e (dv.mono (X4 hn))
def fW(m:Nat):Sp:=fun vs H Q _=>∃(a:Addr)(n k l p:Int),vs=[.ref a,.int n,.int k,.int l,.int p]∧PenAt H a∧0<n∧n<1073741824∧0≤k∧k<30∧0≤l∧l<1000∧1≤p∧p≤m∧m≤1000∧
 ∀(v:V)(t:Tr)(H':Hp),t.Ok→(∀x∈t.all,x.num<2^k.toNat)→(t.size:Int)≤2*p-1→(t.ht:Int)<p→(t.all.length:Int)≤l*p→DV (au a H') v t.D→PenAt H' a→Grw a H H'→Q v H'
theorem oY{m:Nat}(aj:Has P w K mg base "_law_draw" 1 ["_law_pen_here","_law_size"] bV)(bW:Has P w K mg base "_law_stream" 4 ["_law_pen_here","_law_marks","_law_deep","_law_most"] eE)(ci:Has P w K mg base "_law_tree" (4+m) ["_law_pen_here","_law_marks","_law_deep","_law_most","_law_parts"] (fW m))(F:Fun K "_law_tree" "_law_tree" cX f fd):FnOk P w K mg base CX0 (4+m+1) f fd ["_law_pen_here","_law_marks","_law_deep","_law_most","_law_parts"] (fW (m+1)):=by
 refine F.ok Sy (fun vs H Q E h=>?_) (fun cdv A outer s H vs Q E hr h=>?_)
 ·obtain⟨a,n,k,l,p,rfl,_⟩:=h;rfl
 obtain⟨a,n,k,l,p,rfl,hp,n0,n1,k0,k1,l0,l1,p0,p1,pm,hq⟩:=h;refine⟨_,(Z3 (Y8 (PW.pt (Wz (Ud (qi0 Re) (qv (pv 4)) Z5 (Zh _)) (V8 (Ud (qeq S8) (Z4 aj hr (Z0 (qv (pv 0)) (Z0 Z5 Z1))) Z5 (Zh _))))) (Z7 (Zc (Z4 bW hr (Z0 (qv (pv 0)) (Z0 (qv (pv 1)) (Z0 (qv (pv 2)) (Z0 (qv (pv 3)) Z1))))))) Zr)
 (Z3 (Zy 5 Sy.nd rfl (Or.inl rfl) (Ze (qi0 Zu) Z5 (Z4 aj hr (Z0 (qv (pv 0)) (Z0 (Ze (qi0 Xj) (qv (pv 4)) Z5) Z1)))))
 (Z3 (Zy 6 Sy.nd rfl (Or.inl rfl) (Z4 ci hr (Z0 (qv (pv 0)) (Z0 (qv (pv 1)) (Z0 (qv (pv 2)) (Z0 (qv (pv 3)) (Z0 (qv (pv 5)) Z1)))))))
 (Z7 (Zc (Zn (Z0 Ue (Z0 (qv (pv 6)) (Z0 (Z4 ci hr (Z0 (qv (pv 0)) (Z0 (qv (pv 1)) (Z0 (qv (pv 2)) (Z0 (qv (pv 3)) (Z0 (Ze (qi0 Xj) (qv (pv 4)) (qv (pv 5))) Z1)))))) Z1))))))))),?_⟩
 have leaf:∀(r:Addr)(ts:List Th)(H':Hp),(∀t∈ts,t.Ok)→(∀t∈ts,t.num<2^k.toNat)→(ts.length:Int)≤l→DV (au a H') (.ref r) (.list (ts.map Th.D))→PenAt H' a→Grw a H H'→Q (.ref r) H':=fun r ts H' hok hkk AG dv hp' g'=>by
  refine hq (.ref r) (.leaf ts) H' hok hkk ?_ ?_ ?_ dv hp' g'
  ·show((1:Nat):Int)≤_;omega
  ·show((0:Nat):Int)<_;omega
  ·show(ts.length:Int)≤l*p;have q:l*1≤l*p:=Int.mul_le_mul_of_nonneg_left p0 l0;omega
 refine Xf (fun c=>U1 ?_) (fun c=>?_)
 ·exact⟨a,n,k,l,rfl,hp,n0,n1,k0,k1,l0,l1,leaf⟩
 ·have c:=yF (yy.mpr c);refine⟨a,5,rfl,hp,Xv rfl,ltI rfl,fun d H1 _ _ hp1 g1=>?_⟩;refine Xf (fun c=>?_) (fun c=>?_)
  ·exact⟨a,n,k,l,rfl,hp1,n0,n1,k0,k1,l0,l1,fun r ts H' hok hkk AG dv hp' g'=>leaf r ts H' hok hkk AG dv hp' (g1.trans g')⟩
  ·refine⟨a,p-1,rfl,hp1,by omega,by omega,fun d2 H2 x0 x1 hp2 g2=>?_⟩;refine⟨a,n,k,l,_,rfl,hp2,n0,n1,k0,k1,l0,l1,by omega,by omega,by omega,fun v1 t1 H3 ok1 kk1 sz1 ht1 al1 dv1 hp3 g3=>?_⟩;refine⟨a,n,k,l,_,rfl,hp3,n0,n1,k0,k1,l0,l1,by omega,by omega,by omega,fun v2 t2 H4 ok2 kk2 sz2 ht2 al2 dv2 hp4 g4=>⟨leN rfl,fun r hn=>?_⟩⟩;refine hq (.ref r) (.node t1 t2) _ ⟨ok1,ok2⟩ (fun x hx=>(xR.mp hx).elim (kk1 x) (kk2 x)) ?_ ?_ ?_ ?_ (hp4.laid hn) (g1.trans (g2.trans (g3.trans (g4.trans (X4 hn)))))
   ·show((t1.size+t2.size+1:Nat):Int)≤_;omega
   ·show((max t1.ht t2.ht+1:Nat):Int)<_;omega
   ·show((t1.all++t2.all).length:Int)≤_;have q:l*(1+d2)+l*(p-(1+d2))=l*p:=by
     rw[←Int.mul_add]
     congr 1
     omega
    rw[xE];omega
   ·have e:au a (upd H4 r (.tup [.str "merged",v1,v2])) r=some (.tup [.str "merged",v1,v2]):=by rw[Zg (hp4.ne hn)];exact Z2
    exact .tup e (.cons (.str _) (.cons (dv1.mono (g4.trans (X4 hn))) (.cons (dv2.mono (X4 hn)) .nil)))
theorem kI(aj:Has P w K mg base "_law_draw" 1 ["_law_pen_here","_law_size"] bV)(bW:Has P w K mg base "_law_stream" 4 ["_law_pen_here","_law_marks","_law_deep","_law_most"] eE)(F:Fun K "_law_tree" "_law_tree" cX f fd)(b:Binds K fd ["_law_pen_here","_law_marks","_law_deep","_law_most","_law_parts"] [])(hm:mg "_law_tree"=some (.ref f)):
  ∀m:Nat,Has P w K mg base "_law_tree" (4+m) ["_law_pen_here","_law_marks","_law_deep","_law_most","_law_parts"] (fW m)
 | 0=>Has.of (qw fun vs H Q E h=>by
   obtain⟨a,n,k,l,p,_,_,_,_,_,_,_,_,h1,h2,_⟩:=h;omega) b F.kp hm
 |m+1=>Has.of (oY aj bW (kI aj bW F b hm m) F) b F.kp hm
end K34
namespace L2
open PySem
def tRun(X:Cx)(ss:List Stmt):TS:=fun D σ H=>∃t:TS,PSs X ss t∧t D σ H
theorem Zb{X:Cx}{ss:List Stmt}:PSs X ss (tRun X ss):=fun As s σ H D I ⟨_,h,q⟩=>h As s σ H D I q
section
variable{K:W.Frag}{a:Addr}{xs:List V}{g:TG}{tb:TS}{D:Ends}{σ:St}{H:Hp}
theorem Xq(Pv:Nat→St→Hp→Prop)(h0:Pv 0 σ H)(hl:∀i σ H,i≤xs.length→Pv i σ H→SqL K H a xs)(hs:∀i x σ H (N B:St→Hp→Prop) (R:VK),(∀σ' H',Pv (i+1) σ' H'→N σ' H')→(∀v H',D.rt v H'→R v H')→xs[i]?=some x→Pv i σ H→g x σ H fun σ2 H2=>tb {nx:=N,rt:=R,bk:=B,ct:=N} σ2 H2)(hd:∀σ H,Pv xs.length σ H→D.nx σ H):
  ∃W:Nat→Nat→St→Hp→Prop,(∃m,W 0 m σ H)∧∀i m σ H,W i m σ H→
   ((Itl K a).stop i H∧D.nx σ H)∨((Itl K a).go i H∧∃N:St→Hp→Prop,(∀σ' H',N σ' H'→∃m',m'<m∧W (i+1) m' σ' H')∧∀x H',(Itl K a).yld i H x H'→g x σ H' fun σ2 H2=>tb {D with nx:=N,ct:=N,bk:=D.nx} σ2 H2):=
 P8 Pv h0 hl (fun i x σ H hx p=>hs i x σ H _ _ _ (fun _ _ q=>q) (fun _ _ q=>q) hx p) hd
theorem P7(Pv:Nat→St→Hp→Prop)(h0:Pv 0 σ H)(hl:∀i σ H,i≤xs.length→Pv i σ H→SqT K H a xs)(hs:∀i x σ H (N B:St→Hp→Prop) (R:VK),(∀σ' H',Pv (i+1) σ' H'→N σ' H')→(∀v H',D.rt v H'→R v H')→xs[i]?=some x→Pv i σ H→g x σ H fun σ2 H2=>tb {nx:=N,rt:=R,bk:=B,ct:=N} σ2 H2)(hd:∀σ H,Pv xs.length σ H→D.nx σ H):
  ∃W:Nat→Nat→St→Hp→Prop,(∃m,W 0 m σ H)∧∀i m σ H,W i m σ H→
   ((Itt K a).stop i H∧D.nx σ H)∨((Itt K a).go i H∧∃N:St→Hp→Prop,(∀σ' H',N σ' H'→∃m',m'<m∧W (i+1) m' σ' H')∧∀x H',(Itt K a).yld i H x H'→g x σ H' fun σ2 H2=>tb {D with nx:=N,ct:=N,bk:=D.nx} σ2 H2):=
 p_ Pv h0 hl (fun i x σ H hx p=>hs i x σ H _ _ _ (fun _ _ q=>q) (fun _ _ q=>q) hx p) hd
theorem U2{lo:Int}{n:Nat}(Pv:Nat→St→Hp→Prop)(h0:Pv 0 σ H)(hs:∀i σ H (N B:St→Hp→Prop) (R:VK),(∀σ' H',Pv (i+1) σ' H'→N σ' H')→(∀v H',D.rt v H'→R v H')→i<n→Pv i σ H→g (.int (lo+i)) σ H fun σ2 H2=>tb {nx:=N,rt:=R,bk:=B,ct:=N} σ2 H2)(hd:∀σ H,Pv n σ H→D.nx σ H):
  ∃W:Nat→Nat→St→Hp→Prop,(∃m,W 0 m σ H)∧∀i m σ H,W i m σ H→
   ((Itr lo n).stop i H∧D.nx σ H)∨((Itr lo n).go i H∧∃N:St→Hp→Prop,(∀σ' H',N σ' H'→∃m',m'<m∧W (i+1) m' σ' H')∧∀x H',(Itr lo n).yld i H x H'→g x σ H' fun σ2 H2=>tb {D with nx:=N,ct:=N,bk:=D.nx} σ2 H2):=
 lQ Pv h0 (fun i σ H hi p=>hs i σ H _ _ _ (fun _ _ q=>q) (fun _ _ q=>q) hi p) hd
end
theorem Yh{α:Type}{n:Nat}{P:List α→Prop}(h:∀a r,r.length=n→P (a::r)):∀us:List α,us.length=n+1→P us:=fun us e=>by
 cases us with
 |nil=>cases e
 |cons a r=>exact h a r (Nat.succ.inj e)
theorem Sf{α:Type}{P:List α→Prop}(h:P []):∀us:List α,us.length=0→P us:=fun us e=>by
 cases us with
 |nil=>exact h
 |cons a r=>cases e
theorem Fun.b1{K:W.Frag}{x qual:Str}{st:Stmt}{f:Addr}{fd:FuncData}{p0:Str}(F:Fun K x qual st f fd)(h:∀(kV doc pm:Value) (an:Option Addr) (cdv ct u0:Value),bindArgs (W.fnOf x qual (aB st) (aA st) (aa st) .none kV doc pm an cdv ct) ⟨[u0],[]⟩=pure [(p0,u0)]):Binds K fd [p0] []:=F.binds fun kV doc pm an cdv ct=>Yh fun u0=>Sf (h kV doc pm an cdv ct u0)
theorem Fun.b2{K:W.Frag}{x qual:Str}{st:Stmt}{f:Addr}{fd:FuncData}{p0 p1:Str}(F:Fun K x qual st f fd)(h:∀(kV doc pm:Value) (an:Option Addr) (cdv ct u0 u1:Value),bindArgs (W.fnOf x qual (aB st) (aA st) (aa st) .none kV doc pm an cdv ct) ⟨[u0,u1],[]⟩=pure [(p0,u0),(p1,u1)]):Binds K fd [p0,p1] []:=F.binds fun kV doc pm an cdv ct=>Yh fun u0=>Yh fun u1=>Sf (h kV doc pm an cdv ct u0 u1)
theorem Fun.b3{K:W.Frag}{x qual:Str}{st:Stmt}{f:Addr}{fd:FuncData}{p0 p1 p2:Str}(F:Fun K x qual st f fd)(h:∀(kV doc pm:Value) (an:Option Addr) (cdv ct u0 u1 u2:Value),bindArgs (W.fnOf x qual (aB st) (aA st) (aa st) .none kV doc pm an cdv ct) ⟨[u0,u1,u2],[]⟩=pure [(p0,u0),(p1,u1),(p2,u2)]):Binds K fd [p0,p1,p2] []:=F.binds fun kV doc pm an cdv ct=>Yh fun u0=>Yh fun u1=>Yh fun u2=>Sf (h kV doc pm an cdv ct u0 u1 u2)
theorem Fun.b4{K:W.Frag}{x qual:Str}{st:Stmt}{f:Addr}{fd:FuncData}{p0 p1 p2 p3:Str}(F:Fun K x qual st f fd)(h:∀(kV doc pm:Value) (an:Option Addr) (cdv ct u0 u1 u2 u3:Value),bindArgs (W.fnOf x qual (aB st) (aA st) (aa st) .none kV doc pm an cdv ct) ⟨[u0,u1,u2,u3],[]⟩=pure [(p0,u0),(p1,u1),(p2,u2),(p3,u3)]):Binds K fd [p0,p1,p2,p3] []:=F.binds fun kV doc pm an cdv ct=>Yh fun u0=>Yh fun u1=>Yh fun u2=>Yh fun u3=>Sf (h kV doc pm an cdv ct u0 u1 u2 u3)
theorem Fun.b5{K:W.Frag}{x qual:Str}{st:Stmt}{f:Addr}{fd:FuncData}{p0 p1 p2 p3 p4:Str}(F:Fun K x qual st f fd)(h:∀(kV doc pm:Value) (an:Option Addr) (cdv ct u0 u1 u2 u3 u4:Value),bindArgs (W.fnOf x qual (aB st) (aA st) (aa st) .none kV doc pm an cdv ct) ⟨[u0,u1,u2,u3,u4],[]⟩=pure [(p0,u0),(p1,u1),(p2,u2),(p3,u3),(p4,u4)]):Binds K fd [p0,p1,p2,p3,p4] []:=F.binds fun kV doc pm an cdv ct=>Yh fun u0=>Yh fun u1=>Yh fun u2=>Yh fun u3=>Yh fun u4=>Sf (h kV doc pm an cdv ct u0 u1 u2 u3 u4)
end L2
namespace Ld
open PySem L2
def ad(k:Int×Int):Int×Int:=(k.1+1,k.2 / 2)
def ax(ps:Sps)(k:Int×Int):Option V:=bd (af ps) (kk k)
theorem Se:∀(ps:Sps)(k:Int×Int),ax ps k=none∨∃n,ax ps k=some (.int n)
 | [],k=>.inl rfl
 |p::ps,k=>by
  unfold ax af;rw[xD];by_cases e:kk p.1=kk k
  ·rw[Ym e];exact .inr ⟨_,rfl⟩
  ·rw[Yc e];exact Se ps k
def ao(ps:Sps)(k:Int×Int)(n:Int):Sps:=if (ps.any fun p=>decide (p.1=k))=true then ps.map (fun p=>if p.1=k then(p.1,n)else p)else ps++[(k,n)]
def aU(ps:Sps)(k:Int×Int):Sps:=ps.filter fun p=>decide (p.1≠k)
theorem P3{p q:Int×Int}:kk p=kk q↔p=q:=⟨Vd,fun e=>by rw[e]⟩
theorem Wt(ps:Sps)(k:Int×Int)(n:Int):aF (af ps) (kk k) (.int n)=af (ao ps k n):=by
 have ea:((af ps).any fun kv=>decide (kv.1=kk k))=ps.any fun p=>decide (p.1=k):=by
  unfold af;rw[List.any_map]
  congr 1
  funext p
  exact decide_eq_decide.mpr P3
 unfold aF ao;rw[ea]
 split
 ·unfold af;rw[x8,x8]
  congr 1
  funext p
  show(if kk p.1=kk k then(kk p.1,V.int n) else(kk p.1,V.int p.2))=_;by_cases e:p.1=k
  ·rw[xC (P3.mpr e)];show _=(kk (if p.1=k then(p.1,n)else p).1,V.int (if p.1=k then(p.1,n)else p).2);rw[xC e]
  ·rw[xz (fun z=>e (Vd z))];show _=(kk (if p.1=k then(p.1,n)else p).1,V.int (if p.1=k then(p.1,n)else p).2);rw[xz e]
 ·unfold af;rw[xN];rfl
theorem j6(ps:Sps)(k:Int×Int):b8 (af ps) (kk k)=af (aU ps k):=by
 unfold b8 aU af;rw[List.filter_map]
 congr 1
 refine List.filter_congr fun p _=>?_;exact decide_eq_decide.mpr (not_congr P3)
theorem Q4{ps:Sps}{k:Int×Int}:(ps.any fun p=>decide (p.1=k))=true↔k∈ps.map (·.1):=by
 rw[List.any_eq_true,xB];exact⟨fun⟨p,h,e⟩=>⟨p,h,xH e⟩,fun⟨p,h,e⟩=>⟨p,h,xJ e⟩⟩
theorem Xu(ps:Sps)(k:Int×Int)(n:Int):(ao ps k n).map (·.1)=if k∈ps.map (·.1)then ps.map (·.1)else ps.map (·.1)++[k]:=by
 unfold ao;by_cases h:k∈ps.map (·.1)
 ·rw[xC (Q4.mpr h),xC h,x8]
  congr 1
  funext p
  show(if p.1=k then(p.1,n)else p).1=p.1
  split <;> rfl
 ·rw[xz (fun z=>h (Q4.mp z)),xz h,xN];rfl
theorem Uw(ps:Sps)(k:Int×Int):(aU ps k).map (·.1)=(ps.map (·.1)).filter fun x=>decide (x≠k):=by
 unfold aU;rw[List.filter_map];rfl
theorem W2(ps:Sps)(k:Int×Int)(n:Int):(ao ps k n).length≤ps.length+1:=by
 unfold ao
 split
 ·rw[az];omega
 ·rw[xE];exact xA _
theorem oN(ps:Sps)(k:Int×Int):(aU ps k).length≤ps.length:=yu _ _
theorem Xb(ps:Sps)(k j:Int×Int)(n:Int):ax (ao ps k n) j=if j=k then some (.int n)else ax ps j:=by
 unfold ax;rw[←Wt,mX];by_cases e:j=k
 ·rw[xC (P3.mpr e),xC e]
 ·rw[xz (fun z=>e (Vd z)),xz e]
theorem X1(p:(Int×Int)×Int)(ps:Sps)(j:Int×Int):ax (p::ps) j=if p.1=j then some (.int p.2)else ax ps j:=by
 unfold ax af;rw[xD];by_cases e:p.1=j
 ·rw[xC e,Ym (by show kk p.1=kk j;rw[e])]
 ·rw[xz e,Yc (fun z=>e (Vd z))]
theorem Vo:∀(ps:Sps)(k j:Int×Int),ax (aU ps k) j=if j=k then none else ax ps j
 | [],k,j=>by
  show none=if j=k then none else none
  split <;> rfl
 |p::ps,k,j=>by
  have ih:=Vo ps k j;unfold aU at ih⊢;by_cases e:p.1=k
  ·rw[List.filter_cons,if_neg (by simpa using e),ih,X1];by_cases z:j=k
   ·rw[xC z,xC z]
   ·rw[xz z,xz z,xz (fun q=>z (by rw[←q,e]))]
  ·rw[yt,xC (xJ e),X1,ih,X1];by_cases z:j=k
   ·rw[xC z,xC z,xz (fun q=>e (by rw[q,z]))]
   ·rw[xz z,xz z]
theorem Va(k:Int×Int):k≠ad k:=fun e=>by
 have:k.1=k.1+1:=yP (·.1) e;omega
theorem Ww{ps:Sps}{k:Int×Int}:(ax ps k).isSome=true↔k∈ps.map (·.1):=by
 unfold ax;rw[←Vf,←Q4];have ea:((af ps).any fun kv=>decide (kv.1=kk k))=ps.any fun p=>decide (p.1=k):=by
  unfold af;rw[List.any_map]
  congr 1
  funext p
  exact decide_eq_decide.mpr P3
 rw[ea]
theorem my{ps:Sps}{k:Int×Int}(h:(ax ps k).isSome=true):∃m,ax ps k=some (.int m):=by
 rcases Se ps k with z | z
 ·rw[z]at h;cases h
 ·exact z
def cnt(ps:Sps)(k:Int×Int):Int:=match ax ps k with
 |some (.int n)=>n
 |_=>0
theorem Wg:∀{ps:Sps}{p:(Int×Int)×Int},(ps.map (·.1)).Nodup→p∈ps→ax ps p.1=some (.int p.2)
 |q::ps,p,nd,h=>by
  rw[xD,x3]at nd;rw[X1]
  rcases xQ.mp h with e | h
  ·rw[e,xC rfl]
  ·rw[xz (fun z=>nd.1 (by rw[z];exact xB.mpr ⟨p,h,rfl⟩))];exact Wg nd.2 h
theorem Qx{ps:Sps}{k:Int×Int}(h:k∈ps.map (·.1)):ax ps k=some (.int (cnt ps k)):=by
 obtain⟨m,e⟩:=my (Ww.mpr h);unfold cnt;rw[e]
theorem Uu{ps:Sps}{k:Int×Int}(h:k∉ps.map (·.1)):ax ps k=none:=by
 rcases Se ps k with z | ⟨n,z⟩
 ·exact z
 ·exact absurd (Ww.mp (by rw[z];rfl)) h
theorem Yt{ps:Sps}{p:(Int×Int)×Int}(nd:(ps.map (·.1)).Nodup)(h:p∈ps):cnt ps p.1=p.2:=by
 unfold cnt;rw[Wg nd h]
theorem Y3{ps:Sps}{k:Int×Int}(h:k∉ps.map (·.1)):cnt ps k=0:=by
 unfold cnt;rw[Uu h]
theorem Yr(ps:Sps)(k:Int×Int):(ax ps k).getD (.int 0)=.int (cnt ps k):=by
 unfold cnt
 rcases Se ps k with z | ⟨n,z⟩ <;> rw[z] <;> rfl
theorem Rc{ps qs:Sps}{j k:Int×Int}(h:ax ps j=ax qs k):cnt ps j=cnt qs k:=by
 unfold cnt;rw[h]
theorem Yx(ps:Sps)(k j:Int×Int)(n:Int):cnt (ao ps k n) j=if j=k then n else cnt ps j:=by
 unfold cnt;rw[Xb];by_cases e:j=k
 ·rw[xC e,xC e]
 ·rw[xz e,xz e]
theorem gK(ps:Sps)(k j:Int×Int):cnt (aU ps k) j=if j=k then 0 else cnt ps j:=by
 unfold cnt;rw[Vo];by_cases e:j=k
 ·rw[xC e,xC e]
 ·rw[xz e,xz e]
theorem Qu{ps:Sps}{p:(Int×Int)×Int}(nd:(ps.map (·.1)).Nodup):p∈ps↔ax ps p.1=some (.int p.2):=by
 refine⟨Wg nd,fun h=>?_⟩;have hk:p.1∈ps.map (·.1):=Ww.mp (by rw[h];rfl);obtain⟨q,hq,e⟩:=xB.mp hk;have hq2:=Wg nd hq;rw[e,h]at hq2;injection hq2 with hq2
 injection hq2 with hq2
 have:q=p:=yM e hq2.symm;rw[←this];exact hq
theorem Uh{α β:Type}{f:α→β}{l:List α}(h:(l.map f).Nodup):l.Nodup:=(yZ.mp h).imp fun h e=>h (by rw[e])
theorem Ru{α:Type}[DecidableEq α]:∀{l m:List α},l.Nodup→m.Nodup→(∀a,a∈l↔a∈m)→l.Perm m
 | [],m,_,_,h=>by
  cases m with
  |nil=>exact .refl _
  |cons b m=>exact absurd ((h b).mpr (.head _)) ya
 |a::l,m,nl,nm,h=>by
  rw[x3]at nl;have ha:=(h a).mp (.head _);refine .trans (List.Perm.cons a (Ru nl.2 (nm.erase a) fun b=>?_)) (List.perm_cons_erase ha).symm;rw[nm.mem_erase_iff];refine⟨fun hb=>⟨fun e=>nl.1 (by rw[←e];exact hb),(h b).mp (.tail _ hb)⟩,fun⟨ne,hb⟩=>((xQ.mp ((h b).mpr hb)).resolve_left ne)⟩
theorem R0{ps qs:Sps}(np:(ps.map (·.1)).Nodup)(nq:(qs.map (·.1)).Nodup)(h:∀k,ax ps k=ax qs k):ps.Perm qs:=
 Ru (Uh np) (Uh nq) fun p=>by rw[Qu np,Qu nq,h]
theorem Wn{ps qs:Sps}(h:ps.Perm qs)(np:(ps.map (·.1)).Nodup)(k:Int×Int):ax ps k=ax qs k:=by
 have nq:(qs.map (·.1)).Nodup:=(h.map _).nodup_iff.mp np;by_cases hk:k∈ps.map (·.1)
 ·obtain⟨p,hp,rfl⟩:=xB.mp hk;rw[Wg np hp,Wg nq (h.mem_iff.mp hp)]
 ·rw[Uu hk,Uu fun z=>hk ((h.map _).mem_iff.mpr z)]
def ag(ps:Sps):Int:=(ps.map (·.2)).sum
theorem Tv:∀{ps:Sps}{k:Int×Int},(ps.map (·.1)).Nodup→ag (aU ps k)=ag ps-cnt ps k
 | [],k,_=>by
  show(0:Int)=0-cnt [] k;rfl
 |p::ps,k,nd=>by
  rw[xD,x3]at nd;have ih:=Tv (k:=k) nd.2;unfold ag aU at ih⊢;by_cases e:p.1=k
  ·have o:cnt ps k=0:=Y3 (by rw[←e];exact nd.1);have c:cnt (p::ps) k=p.2:=by unfold cnt;rw[X1,xC e]
   rw[List.filter_cons,if_neg (by simpa using e),ih,o,c,List.map_cons,List.sum_cons];omega
  ·have c:cnt (p::ps) k=cnt ps k:=by unfold cnt;rw[X1,xz e]
   rw[yt,xC (xJ e),xD,xY,ih,c,xD,xY];omega
theorem Ye{ps:Sps}{k:Int×Int}{n:Int}(nd:(ps.map (·.1)).Nodup):((ao ps k n).map (·.1)).Nodup:=by
 rw[Xu]
 split
 ·exact nd
 ·rename_i h;exact List.nodup_append.mpr ⟨nd,x3.mpr ⟨ya,yb⟩,fun x hx y hy e=>h (by rw[xF.mp hy]at e;rw[←e];exact hx)⟩
theorem Sk{ps:Sps}{k:Int×Int}(nd:(ps.map (·.1)).Nodup):((aU ps k).map (·.1)).Nodup:=by
 rw[Uw];exact nd.filter _
theorem Vi{ps qs:Sps}(h:ps.Perm qs):ag ps=ag qs:=iA (h.map _)
theorem Ow{ps:Sps}{k:Int×Int}{n:Int}(nd:(ps.map (·.1)).Nodup):ag (ao ps k n)=ag ps-cnt ps k+n:=by
 have h:(ao ps k n).Perm ((k,n)::aU ps k):=by
  have hk:k∉(aU ps k).map (·.1):=by
   rw[Uw];intro z;have:=(x6.mp z).2;simp at this
  refine R0 (Ye nd) (by rw[xD];exact x3.mpr ⟨hk,Sk nd⟩) fun j=>?_;rw[Xb,X1,Vo];by_cases e:j=k
  ·rw[xC e,xC e.symm]
  ·rw[xz e,xz (Ne.symm e),xz e]
 rw[Vi h];have:=Tv (k:=k) nd;unfold ag at this⊢;rw[xD,xY,this];omega
end Ld
namespace Ld
open PySem L2
def b7(ps:Sps)(k:Int×Int)(m n:Int):Sps:=aU (ao (ao ps (ad k) n) k (m-m)) k
theorem lA{ps:Sps}{k:Int×Int}{m n:Int}(hk:k∈ps.map (·.1)):(b7 ps k m n).map (·.1)=if ad k∈ps.map (·.1) then(ps.map (·.1)).filter (fun x=>decide (x≠k)) else(ps.map (·.1)).filter (fun x=>decide (x≠k))++[ad k]:=by
 unfold b7;have k2:k∈(ao ps (ad k) n).map (·.1):=by
  rw[Xu]
  split
  ·exact hk
  ·exact yC _ hk
 rw[Uw,Xu,xC k2,Xu]
 split
 ·rfl
 ·rw[z6,yt,xC (xJ (Ne.symm (Va k)))];rfl
def mea(or:Int)(ks:List (Int×Int)):Nat:=(ks.map fun k=>(or+1-k.1).toNat).sum
theorem Qw{or:Int}{k:Int×Int}:∀{ks:List (Int×Int)},ks.Nodup→k∈ks→mea or (ks.filter fun x=>decide (x≠k))+(or+1-k.1).toNat=mea or ks
 | [],_,h=>nomatch h
 |x::ks,nd,h=>by
  rw[x3]at nd;by_cases e:x=k
  ·subst e;have o:ks.filter (fun y=>decide (y≠x))=ks:=List.filter_eq_self.mpr fun y hy=>xJ fun z=>nd.1 (by rw[←z];exact hy);rw[List.filter_cons,if_neg (by simp),o];unfold mea;rw[xD,xY];omega
  ·have hk:k∈ks:=(xQ.mp h).resolve_left (Ne.symm e);have ih:=Qw (or:=or) nd.2 hk;rw[yt,xC (xJ e)];unfold mea at ih⊢;rw[xD,xY,xD,xY];omega
theorem h_{or:Int}{ks ls:List (Int×Int)}(h:ks.Perm ls):mea or ks=mea or ls:=(h.map _).sum_nat
theorem p5{or:Int}(h:or≤20):∀{ks:List (Int×Int)},(∀k∈ks,0≤k.1)→mea or ks≤21*ks.length
 | [],_=>zf _
 |k::ks,hk=>by
  have ih:=p5 h fun x hx=>hk x (.tail _ hx);have h0:=hk k (.head _);unfold mea at ih⊢;rw[xD,xY,yn];omega
structure Kok(or:Int)(ks:List (Int×Int)):Prop where
 nd:ks.Nodup
 st:∀k∈ks,0≤k.1∧k.1≤or∧0≤k.2∧k.2<2^(or-k.1).toNat
theorem Kok.perm{or:Int}{ks ls:List (Int×Int)}(h:Kok or ks)(p:ls.Perm ks):Kok or ls:=⟨p.nodup_iff.mpr h.nd,fun k hk=>h.st k (p.mem_iff.mp hk)⟩
theorem Ss{m:Int}(h:m≤10):(1:Int)≤2^m.toNat∧(2:Int)^m.toNat≤1024:=by
 have a1:(2:Nat)^m.toNat≤2^10:=Nat.pow_le_pow_right (by decide) (by omega);have a2:0<(2:Nat)^m.toNat:=Nat.pow_pos (by decide);have a3:((2^m.toNat:Nat):Int)=(2:Int)^m.toNat:=by push_cast;rfl
 have a4:(2:Nat)^10=1024:=by decide
 rw[←a3];omega
theorem oP{h or i:Int}(hd:h<or)(i1:i<2^(or-h).toNat):i / 2<2^(or-(h+1)).toNat:=by
 have e:(or-h).toNat=(or-(h+1)).toNat+1:=by omega
 rw[e,Int.pow_succ]at i1;omega
theorem uV{or:Int}{k:Int×Int}(hd:k.1<or)(s:0≤k.1∧k.1≤or∧0≤k.2∧k.2<2^(or-k.1).toNat):0≤(ad k).1∧(ad k).1≤or∧0≤(ad k).2∧(ad k).2<2^(or-(ad k).1).toNat:=by
 have:=oP hd s.2.2.2;show 0≤k.1+1∧k.1+1≤or∧0≤k.2 / 2∧k.2 / 2<2^(or-(k.1+1)).toNat;exact⟨by omega,by omega,by omega,this⟩
theorem rO{or:Int}{ps:Sps}{k:Int×Int}{m n:Int}(h:Kok or (ps.map (·.1)))(hk:k∈ps.map (·.1))(hd:k.1<or):Kok or ((b7 ps k m n).map (·.1))∧mea or ((b7 ps k m n).map (·.1))<mea or (ps.map (·.1))∧(b7 ps k m n).length≤ps.length:=by
 rw[←az (f:=(·.1)),←az (as:=ps) (f:=(·.1)),lA hk];have mf:=Qw (or:=or) h.nd hk;have sk:=h.st k hk;have lf:((ps.map (·.1)).filter fun x=>decide (x≠k)).length<(ps.map (·.1)).length:=by
  refine Nat.lt_of_le_of_ne (yu _ _) fun e=>?_;have:=List.length_filter_eq_length_iff.mp e k hk;simp at this
 have ndf:((ps.map (·.1)).filter fun x=>decide (x≠k)).Nodup:=h.nd.filter _;have stf:∀x∈(ps.map (·.1)).filter fun x=>decide (x≠k),0≤x.1∧x.1≤or∧0≤x.2∧x.2<2^(or-x.1).toNat:=fun x hx=>h.st x (x6.mp hx).1
 split
 ·exact⟨⟨ndf,stf⟩,by omega,by omega⟩
 ·rename_i np;refine⟨⟨?_,fun x hx=>?_⟩,?_,by rw[xE];exact lf⟩
  ·refine List.nodup_append.mpr ⟨ndf,x3.mpr ⟨ya,yb⟩,fun x hx y hy e=>?_⟩;rw[xF.mp hy]at e;exact np (by rw[←e];exact(x6.mp hx).1)
  ·rcases xR.mp hx with hx | hx
   ·exact stf x hx
   ·rw[xF.mp hx];exact uV hd sk
  ·have e1:mea or ((ps.map (·.1)).filter (fun x=>decide (x≠k))++[ad k])=mea or ((ps.map (·.1)).filter fun x=>decide (x≠k))+(or+1-(k.1+1)).toNat:=by
    unfold mea;rw[xN,zk];rfl
   rw[e1];omega
def loK(h j:Int):Int×Int:=(h,2*j)
def hiK(h j:Int):Int×Int:=(h,2*j+1)
def upK(h j:Int):Int×Int:=(h+1,j)
def jn(ps:Sps)(h j:Int):Int:=cnt ps (loK h j)+cnt ps (hiK h j)+cnt ps (upK h j)
theorem Vb(h j:Int):ad (loK h j)=upK h j:=yM rfl (show 2*j / 2=j by omega)
theorem Qm(h j:Int):ad (hiK h j)=upK h j:=yM rfl (show(2*j+1) / 2=j by omega)
theorem gq(h j:Int):loK h j≠hiK h j:=fun e=>by
 have:2*j=2*j+1:=yP (·.2) e;omega
theorem sQ(h j:Int):loK h j≠upK h j:=fun e=>by
 have:h=h+1:=yP (·.1) e;omega
theorem hJ(h j:Int):hiK h j≠upK h j:=fun e=>by
 have:h=h+1:=yP (·.1) e;omega
theorem Ry(k:Int×Int):k=loK k.1 (k.2 / 2)∨k=hiK k.1 (k.2 / 2):=by
 rcases Int.emod_two_eq k.2 with e | e
 ·exact .inl (yM rfl (show k.2=2*(k.2 / 2) by omega))
 ·exact .inr (yM rfl (show k.2=2*(k.2 / 2)+1 by omega))
def eP(ps:Sps)(k:Int×Int):Sps:=b7 ps k (cnt ps k) (cnt ps (ad k)+cnt ps k)
def aC(ps:Sps)(k:Int×Int):Sps:=if k∈ps.map (·.1)then eP ps k else ps
def aM(ps:Sps)(k:Int×Int):Sps:=if k∈ps.map (·.1) then[(k,cnt ps k)] else[]
def aV(ps:Sps)(h j:Int):Sps:=aC (aC ps (loK h j)) (hiK h j)
def flP(ps:Sps)(h j:Int):Sps:=aM ps (loK h j)++aM ps (hiK h j)
theorem Qy(ps:Sps)(k x:Int×Int):ax (eP ps k) x=if x=k then none else if x=ad k then some (.int (cnt ps (ad k)+cnt ps k))else ax ps x:=by
 unfold eP b7;rw[Vo,Xb,Xb];by_cases e:x=k
 ·rw[xC e,xC e]
 ·rw[xz e,xz e,xz e]
theorem mK(ps:Sps)(k x:Int×Int):cnt (eP ps k) x=if x=k then 0 else if x=ad k then cnt ps (ad k)+cnt ps k else cnt ps x:=by
 unfold cnt;rw[Qy];by_cases e:x=k
 ·rw[xC e,xC e]
 ·rw[xz e,xz e];by_cases z:x=ad k
  ·rw[xC z,xC z];rfl
  ·rw[xz z,xz z]
theorem Tk(ps:Sps)(k x:Int×Int):ax (aC ps k) x=if x=k then none else if x=ad k∧k∈ps.map (·.1)then some (.int (cnt ps (ad k)+cnt ps k))else ax ps x:=by
 unfold aC;by_cases hk:k∈ps.map (·.1)
 ·rw[xC hk,Qy];by_cases e:x=k
  ·rw[xC e,xC e]
  ·rw[xz e,xz e];by_cases z:x=ad k
   ·rw[xC z,xC ⟨z,hk⟩]
   ·rw[xz z,xz fun q=>z q.1]
 ·rw[xz hk];by_cases e:x=k
  ·rw[xC e,e,Uu hk]
  ·rw[xz e,xz fun q=>hk q.2]
theorem Wp(ps:Sps)(k x:Int×Int):cnt (aC ps k) x=if x=k then 0 else if x=ad k then cnt ps (ad k)+cnt ps k else cnt ps x:=by
 unfold aC;by_cases hk:k∈ps.map (·.1)
 ·rw[xC hk,mK]
 ·rw[xz hk];by_cases e:x=k
  ·rw[xC e,e,Y3 hk]
  ·rw[xz e];by_cases z:x=ad k
   ·rw[xC z,z,Y3 hk,Ao]
   ·rw[xz z]
theorem hi_in{ps:Sps}{h j:Int}:hiK h j∈(aC ps (loK h j)).map (·.1)↔hiK h j∈ps.map (·.1):=by
 rw[←Ww,←Ww,Tk,xz (Ne.symm (gq h j)),Vb,xz fun q=>hJ h j q.1]
theorem Ou(ps:Sps)(h j:Int):aM (aC ps (loK h j)) (hiK h j)=aM ps (hiK h j):=by
 unfold aM;rw[Wp,xz (Ne.symm (gq h j)),Vb,xz (hJ h j)];by_cases e:hiK h j∈ps.map (·.1)
 ·rw[xC e,xC (hi_in.mpr e)]
 ·rw[xz e,xz fun q=>e (hi_in.mp q)]
theorem Tj{ps:Sps}{h j:Int}(i:loK h j∈ps.map (·.1)∨hiK h j∈ps.map (·.1))(x:Int×Int):ax (aV ps h j) x=if x=loK h j∨x=hiK h j then none else if x=upK h j then some (.int (jn ps h j))else ax ps x:=by
 unfold aV;rw[Tk];have p1:cnt (aC ps (loK h j)) (ad (hiK h j))=cnt ps (upK h j)+cnt ps (loK h j):=by rw[Qm,Wp,xz (Ne.symm (sQ h j)),Vb,xC rfl]
 have p2:cnt (aC ps (loK h j)) (hiK h j)=cnt ps (hiK h j):=by rw[Wp,xz (Ne.symm (gq h j)),Vb,xz (hJ h j)]
 rw[p1,p2];by_cases e1:x=hiK h j
 ·rw[xC e1,xC (.inr e1)]
 ·rw[xz e1,Tk];by_cases e2:x=loK h j
  ·rw[xC (c:=x=loK h j∨x=hiK h j) (Or.inl e2),xz (c:=x=ad (hiK h j)∧_) fun q=>sQ h j (by rw[←e2,←Qm];exact q.1),xC e2]
  ·rw[xz (c:=x=loK h j∨x=hiK h j) fun q=>q.elim e2 e1,xz (c:=x=loK h j) e2];by_cases e3:x=upK h j
   ·rw[xC e3];unfold jn;by_cases i2:hiK h j∈ps.map (·.1)
    ·rw[xC ⟨by rw[Qm];exact e3,hi_in.mpr i2⟩]
     congr 2
     omega
    ·have i1:=i.resolve_right i2;rw[xz fun q=>i2 (hi_in.mp q.2),xC ⟨by rw[Vb];exact e3,i1⟩,Y3 i2,Vb]
     congr 2
     omega
   ·rw[xz e3,xz fun q=>e3 (by rw[←Qm];exact q.1),xz fun q=>e3 (by rw[←Vb];exact q.1)]
theorem Si{ps:Sps}{k:Int×Int}(nd:(ps.map (·.1)).Nodup):((aC ps k).map (·.1)).Nodup:=by
 unfold aC
 split
 ·exact Sk (Ye (Ye nd))
 ·exact nd
theorem Ty{ps:Sps}{h j:Int}(nd:(ps.map (·.1)).Nodup):((aV ps h j).map (·.1)).Nodup:=Si (Si nd)
theorem Rx{ps qs:Sps}(p:ps.Perm qs)(nd:(ps.map (·.1)).Nodup)(h j:Int):jn ps h j=jn qs h j:=by
 unfold jn;rw[Rc (Wn p nd _),Rc (Wn p nd (hiK h j)),Rc (Wn p nd (upK h j))]
theorem O1{ps qs:Sps}{h j:Int}(p:ps.Perm qs)(nd:(ps.map (·.1)).Nodup)(i:loK h j∈ps.map (·.1)∨hiK h j∈ps.map (·.1)):(aV ps h j).Perm (aV qs h j):=by
 have pk:=p.map (·.1);refine R0 (Ty nd) (Ty (pk.nodup_iff.mp nd)) fun k=>?_;rw[Tj i,Tj (i.imp pk.mem_iff.mp pk.mem_iff.mp),Rx p nd,Wn p nd]
theorem Pu{ps qs:Sps}(p:ps.Perm qs)(nd:(ps.map (·.1)).Nodup)(k:Int×Int):aM ps k=aM qs k:=by
 have pk:=p.map (·.1);unfold aM;rw[Rc (Wn p nd k)];by_cases e:k∈ps.map (·.1)
 ·rw[xC e,xC (pk.mem_iff.mp e)]
 ·rw[xz e,xz fun q=>e (pk.mem_iff.mpr q)]
theorem kN{ps qs:Sps}(p:ps.Perm qs)(nd:(ps.map (·.1)).Nodup)(h j:Int):flP ps h j=flP qs h j:=by
 unfold flP;rw[Pu p nd,Pu p nd]
theorem Pb{or:Int}{ps:Sps}{k:Int×Int}(o:Kok or (ps.map (·.1)))(hd:k.1<or):Kok or ((aC ps k).map (·.1))∧mea or ((aC ps k).map (·.1))+(aM ps k).length≤mea or (ps.map (·.1))∧(aC ps k).length≤ps.length:=by
 unfold aC aM;by_cases hk:k∈ps.map (·.1)
 ·rw[xC hk,xC hk];have:=rO (m:=cnt ps k) (n:=cnt ps (ad k)+cnt ps k) o hk hd;exact⟨this.1,this.2.1,this.2.2⟩
 ·rw[xz hk,xz hk];exact⟨o,xA _,xA _⟩
theorem Ua{or:Int}{ps:Sps}{h j:Int}(o:Kok or (ps.map (·.1)))(hd:h<or):Kok or ((aV ps h j).map (·.1))∧mea or ((aV ps h j).map (·.1))+(flP ps h j).length≤mea or (ps.map (·.1))∧(aV ps h j).length≤ps.length:=by
 have a:=Pb (k:=loK h j) o hd;have b:=Pb (k:=hiK h j) a.1 hd;rw[Ou]at b;unfold flP aV;rw[xE];have:=a.2;have:=b.2;exact⟨b.1,by omega,by omega⟩
theorem pC{ps:Sps}{h j:Int}(i:loK h j∈ps.map (·.1)∨hiK h j∈ps.map (·.1)):0<(flP ps h j).length:=by
 unfold flP aM;rw[xE]
 rcases i with i | i
 ·rw[if_pos i];simp;omega
 ·rw[if_pos i];simp
theorem Py{ps:Sps}{k:Int×Int}(nd:(ps.map (·.1)).Nodup):ag (aC ps k)=ag ps:=by
 unfold aC
 split
 ·unfold eP b7;have c1:cnt (ao (ao ps (ad k) (cnt ps (ad k)+cnt ps k)) k (cnt ps k-cnt ps k)) k=cnt ps k-cnt ps k:=by rw[Yx,xC rfl]
  have c2:cnt (ao ps (ad k) (cnt ps (ad k)+cnt ps k)) k=cnt ps k:=by rw[Yx,xz (Va k)]
  rw[Tv (Ye (Ye nd)),Ow (Ye nd),Ow nd,c1,c2];omega
 ·rfl
theorem Px{ps:Sps}{h j:Int}(nd:(ps.map (·.1)).Nodup):ag (aV ps h j)=ag ps:=by
 unfold aV;rw[Py (Si nd),Py nd]
structure Fst(or bar:Int)(ps:Sps)(h j:Int):Prop where
 in_:loK h j∈ps.map (·.1)∨hiK h j∈ps.map (·.1)
 hd:h<or
 le:jn ps h j≤bar
 first:∀k∈ps.map (·.1),k.1<or→jn ps k.1 (k.2 / 2)≤bar→h<k.1∨(h=k.1∧j≤k.2 / 2)
def Nof(or bar:Int)(ps:Sps):Prop:=∀k∈ps.map (·.1),k.1<or→bar<jn ps k.1 (k.2 / 2)
theorem Fst.key{or bar h j:Int}{ps:Sps}(f:Fst or bar ps h j):∃k∈ps.map (·.1),k.1=h∧k.2 / 2=j:=by
 rcases f.in_ with i | i
 ·exact⟨_,i,rfl,show 2*j / 2=j by omega⟩
 ·exact⟨_,i,rfl,show(2*j+1) / 2=j by omega⟩
theorem Fst.not{or bar h j:Int}{ps:Sps}(f:Fst or bar ps h j)(n:Nof or bar ps):False:=by
 obtain⟨k,hk,e1,e2⟩:=f.key;have:=n k hk (by rw[e1];exact f.hd);rw[e1,e2]at this;have:=f.le;omega
theorem Fst.uniq{or bar h j h' j':Int}{ps:Sps}(f:Fst or bar ps h j)(g:Fst or bar ps h' j'):h=h'∧j=j':=by
 obtain⟨k,hk,e1,e2⟩:=f.key;obtain⟨l,hl,d1,d2⟩:=g.key;have a:=f.first l hl (by rw[d1];exact g.hd) (by rw[d1,d2];exact g.le);have b:=g.first k hk (by rw[e1];exact f.hd) (by rw[e1,e2];exact f.le);rw[d1,d2]at a;rw[e1,e2]at b;omega
theorem Fst.perm{or bar h j:Int}{ps qs:Sps}(f:Fst or bar ps h j)(p:ps.Perm qs)(nd:(ps.map (·.1)).Nodup):Fst or bar qs h j:=by
 have pk:=p.map (·.1);refine⟨f.in_.imp pk.mem_iff.mp pk.mem_iff.mp,f.hd,by rw[←Rx p nd];exact f.le,fun k hk h1 h2=>f.first k (pk.mem_iff.mpr hk) h1 (by rw[Rx p nd];exact h2)⟩
theorem Qs{or bar:Int}{ps qs:Sps}(n:Nof or bar ps)(p:ps.Perm qs)(nd:(ps.map (·.1)).Nodup):Nof or bar qs:=fun k hk h1=>by
 rw[←Rx p nd];exact n k ((p.map (·.1)).mem_iff.mpr hk) h1
inductive Stl(or bar:Int):Sps→Sps→Sps→Prop
 |done {ps:Sps}:Nof or bar ps→Stl or bar ps [] ps
 |step {ps ps1 fs Au:Sps} {h j:Int}:Fst or bar ps h j→ps1.Perm (aV ps h j)→Stl or bar ps1 fs Au→Stl or bar ps (flP ps h j++fs) Au
theorem jS{or bar:Int}{ps fs Au:Sps}(s:Stl or bar ps fs Au):∀{qs gs qs':Sps},Stl or bar qs gs qs'→ps.Perm qs→(ps.map (·.1)).Nodup→fs=gs∧Au.Perm qs':=by
 induction s with
 |done n=>
  intro qs gs qs' t p nd;cases t with
  |done _=>exact⟨rfl,p⟩
  |step f _ _=>exact(f.not (Qs n p nd)).elim
 |step f p1 s ih=>
  intro qs gs qs' t p nd;cases t with
  |done n=>exact((f.perm p nd).not n).elim
  |step g q1 t=>
   obtain⟨rfl,rfl⟩:=(f.perm p nd).uniq g;obtain⟨e,r⟩:=ih t (p1.trans ((O1 p nd f.in_).trans q1.symm)) ((p1.map _).nodup_iff.mpr (Ty nd));exact⟨by rw[kN p nd,e],r⟩
theorem jE{or bar:Int}{ps fs Au:Sps}(s:Stl or bar ps fs Au):(ps.map (·.1)).Nodup→(Au.map (·.1)).Nodup∧Nof or bar Au∧ag Au=ag ps:=by
 induction s with
 |done n=>exact fun nd=>⟨nd,n,rfl⟩
 |step f p1 s ih=>
  intro nd;obtain⟨a,b,c⟩:=ih ((p1.map _).nodup_iff.mpr (Ty nd));exact⟨a,b,by rw[c,Vi p1,Px nd]⟩
def Way(or bar:Int)(ps fs qs:Sps):Prop:=∀gs Au,Stl or bar qs gs Au→Stl or bar ps (fs++gs) Au
theorem Way.refl{or bar:Int}{ps:Sps}:Way or bar ps [] ps:=fun _ _ s=>s
theorem Way.snoc{or bar h j:Int}{ps fs qs qs1:Sps}(w:Way or bar ps fs qs)(f:Fst or bar qs h j)(p:qs1.Perm (aV qs h j)):Way or bar ps (fs++flP qs h j) qs1:=fun gs Au s=>by
 rw[yL];exact w _ _ (.step f p s)
theorem Way.done{or bar:Int}{ps fs qs:Sps}(w:Way or bar ps fs qs)(n:Nof or bar qs):Stl or bar ps fs qs:=by
 have:=w [] qs (.done n)
 rwa [yB]at this
theorem Qf{ps qs:Sps}(p:ps.Perm qs):aO ps=aO qs:=N2 ik ((Y0 ps).trans (p.trans (Y0 qs).symm)) (Qe ps) (Qe qs)
end Ld
namespace K34
open PySem L2 Ld
def KAt(H:Hp)(p:Addr)(k:Int×Int):Prop:=H p=some (.tup [.int k.1,.int k.2])
def NsAt(H:Hp):List V→List (Int×Int)→Prop:=Paired fun x p=>∃c:Addr,x=.ref c∧KAt H c p
theorem NsAt.mono{H H':Hp}(g:Same H H'){xs:List V}{ps:List (Int×Int)}(h:NsAt H xs ps):NsAt H' xs ps:=Paired.mapP h fun _ _ ⟨c,e,q⟩=>⟨c,e,g _ _ q⟩
theorem NsAt.len{H:Hp}{xs:List V}{ps:List (Int×Int)}(h:NsAt H xs ps):xs.length=ps.length:=xL h
theorem NsAt.get{H:Hp}:∀{xs:List V}{ps:List (Int×Int)}{j:Nat}{x:V},NsAt H xs ps→xs[j]?=some x→∃c p,x=.ref c∧ps[j]?=some p∧KAt H c p
 |_,_,_,_,.nil,e=>by simp at e
 |_,_,0,_,.cons h _,e=>by
  rw[yJ]at e;cases e;obtain⟨c,e,q⟩:=h;exact⟨c,_,e,rfl,q⟩
 |_,_,j+1,_,.cons _ r,e=>NsAt.get (j:=j) r (by simpa using e)
theorem NsAt.snoc{H:Hp}{xs:List V}{ps:List (Int×Int)}{c:Addr}{p:Int×Int}(h:NsAt H xs ps)(e:KAt H c p):NsAt H (xs++[.ref c]) (ps++[p]):=zR h ⟨c,rfl,e⟩
structure LadAt(H:Hp)(q:Addr)(Ar or total:Int)(ps:Sps):Prop where
 at_:∃(c:Addr)(as:List Addr),H q=some (.tup [.int Ar,.int or,.ref c,.int total])∧H c=some (.tup (as.map V.ref))∧Paired (FT H) as ps
theorem Zs{H H':Hp}(g:Same H H'){a:Addr}{p:(Int×Int)×Int}(h:FT H a p):FT H' a p:=let ⟨b,e1,e2⟩:=h;⟨b,g _ _ e1,g _ _ e2⟩
theorem LadAt.mono{H H':Hp}(g:Same H H'){q:Addr}{Ar or total:Int}{ps:Sps}(h:LadAt H q Ar or total ps):LadAt H' q Ar or total ps:=let ⟨c,as,e1,e2,r⟩:=h.at_;⟨c,as,g _ _ e1,g _ _ e2,Paired.mapP r fun _ _ f=>Zs g f⟩
theorem Ve{H:Hp}:∀{as:List Addr}{ps:Sps}{j:Nat}{x:V},Paired (FT H) as ps→(as.map V.ref)[j]?=some x→∃a p,x=.ref a∧ps[j]?=some p∧FT H a p
 |_,_,_,_,.nil,e=>by simp at e
 |_,_,0,_,.cons h _,e=>by
  rw[xD,yJ]at e;cases e;exact⟨_,_,rfl,rfl,h⟩
 |_,_,j+1,_,.cons _ r,e=>Ve (j:=j) r (by simpa using e)
theorem Y7{H:Hp}{d b:Addr}{ps:Sps}{k:Int×Int}(e:H d=some (.dT (af ps)))(eb:KAt H b k):DGet H d (.ref b) (ax ps k):=DGet.t e eb
theorem oh{H:Hp}:∀{bs:List Addr}{ks:List (Int×Int)}{j:Nat}{x:V},KsAt H bs ks→(bs.map V.ref)[j]?=some x→∃b k,x=.ref b∧ks[j]?=some k∧KAt H b k
 |_,_,_,_,.nil,e=>by simp at e
 |_,_,0,_,.cons h _,e=>by
  rw[xD,yJ]at e;cases e;exact⟨_,_,rfl,rfl,h⟩
 |_,_,j+1,_,.cons _ r,e=>oh (j:=j) r (by simpa using e)
theorem O8{H:Hp}{d q:Addr}{o u:HO}(e:H d=some u)(n:H q=none):Grw d H (upd H q o):=fun b w h=>by
 obtain⟨h1,h2⟩:=Zf h;rw[Zg h1,Za (Zd h2 n)];exact h2
def cy:Sp:=fun vs H Q _=>∃(p:Addr)(k:Int×Int),vs=[.ref p]∧KAt H p k∧∀q,H q=none→Q (.ref q) (upd H q (.tup [.int (ad k).1,.int (ad k).2]))
def iO:Sp:=fun vs H Q _=>∃(p:Addr)(k:Int×Int),vs=[.ref p]∧KAt H p k∧∀(q a b:Addr)(H':Hp),Same H H'→H' q=some (.tup [.ref a,.ref b])→KAt H' a (loK k.1 (k.2 / 2))→KAt H' b (hiK k.1 (k.2 / 2))→Q (.ref q) H'
def sA:Sp:=fun vs H Q _=>∃(q:Addr)(Ar or total:Int)(ps:Sps),vs=[.ref q]∧LadAt H q Ar or total ps∧1≤Ar∧Ar≤20∧Q (.int (total / Ar)) H
def kE:Sp:=fun vs H Q _=>∃(d p:Addr)(ps:Sps)(k:Int×Int),vs=[.ref d,.ref p]∧H d=some (.dT (af ps))∧KAt H p k∧∀(H':Hp),Same H H'→Q (.int (jn ps k.1 (k.2 / 2))) H'
def w6:Sp:=fun vs H Q _=>∃(or bar:Int)(d:Addr)(ps:Sps),vs=[.int or,.int bar,.ref d]∧H d=some (.dT (af ps))∧ps.length<64∧(∀H',Same H H'→Nof or bar ps→Q .non H')∧∀(p:Addr)(k:Int×Int)(H':Hp),Same H H'→KAt H' p k→Fst or bar ps k.1 (k.2 / 2)→Q (.ref p) H'
def nI:Sp:=fun vs H Q _=>∃(d p:Addr)(ps:Sps)(k:Int×Int)(m:Int),vs=[.ref d,.ref p,.int m]∧H d=some (.dT (af ps))∧KAt H p k∧ax ps k=some (.int m)∧ps.length<1000∧∀(H':Hp),Grw d H H'→H' d=some (.dT (af (b7 ps k m (cnt ps (ad k)+m))))→Q .non H'
theorem jL(i:Int):i-i % 2=2*(i / 2):=by omega
theorem m3{a b:Int×Int}(h:leK a b=true):a.1<b.1∨(a.1=b.1∧a.2 / 2≤b.2 / 2):=by
 rcases U0.mp h with h | ⟨h,g⟩
 ·exact .inl h
 ·exact .inr ⟨h,by omega⟩
theorem w5{α:Type}{R:α→α→Prop}{l:List α}(h:l.Pairwise R){i j:Nat}{a b:α}(ha:l[i]?=some a)(hb:l[j]?=some b)(ij:i<j):R a b:=by
 obtain⟨hi,rfl⟩:=xI.mp ha;obtain⟨hj,rfl⟩:=xI.mp hb;exact List.pairwise_iff_getElem.mp h i j hi hj ij
variable{P:Program}{w:World}{K:W.Frag}{mg:Str→Option Value}{base:Heap}{f:Addr}{fd:FuncData}
theorem R4(F:Fun K "parent_of" "parent_of" cz f fd):FnOk P w K mg base CX0 1 f fd ["stretch"] cy:=by
 refine F.ok Vs (fun vs H Q E h=>?_) (fun cdv A outer s H vs Q E hr h=>?_)
 ·obtain⟨p,k,rfl,_⟩:=h;rfl
 obtain⟨p,k,rfl,e,hq⟩:=h;refine⟨_,(Z3 (Ys (pv 0) (Y6 rfl (Z8 (Z9 (i:=1) Vs.nd rfl (Or.inl rfl)) (Z8 (Z9 (i:=2) Vs.nd rfl (Or.inl rfl)) Zo))))
 (Z7 (Zc (Zn (Z0 (Ze Zu (pv 1) Z5) (Z0 (Ze Ur (pv 2) Z5) Z1)))))),?_⟩
 exact⟨_,rfl,p,_,rfl,SqT.of e,rfl,_,_,rfl,_,_,rfl,rfl,_,rfl,_,_,rfl,rfl,_,rfl,_,_,rfl,rfl,⟨by decide,by decide⟩,leN rfl,hq⟩
theorem jV(F:Fun K "pair_of" "pair_of" dD f fd):FnOk P w K mg base CX0 1 f fd ["stretch"] iO:=by
 refine F.ok Vt (fun vs H Q E h=>?_) (fun cdv A outer s H vs Q E hr h=>?_)
 ·obtain⟨p,k,rfl,_⟩:=h;rfl
 obtain⟨p,k,rfl,e,hq⟩:=h;refine⟨_,(Z3 (Ys (pv 0) (Y6 rfl (Z8 (Z9 (i:=1) Vt.nd rfl (Or.inl rfl)) (Z8 (Z9 (i:=2) Vt.nd rfl (Or.inl rfl)) Zo))))
 (Z3 (Zy 3 Vt.nd rfl (Or.inl rfl) (Ze Xj (pv 2) (Ze Xy (pv 2) Z5)))
 (Z7 (Zc (Zn (Z0 (Zn (Z0 (pv 1) (Z0 (pv 3) Z1))) (Z0 (Zn (Z0 (pv 1) (Z0 (Ze Zu (pv 3) Z5) Z1))) Z1))))))),?_⟩
 have gg:Same H H:=Same.refl _;refine⟨_,rfl,p,_,rfl,SqT.of e,rfl,_,_,rfl,_,_,rfl,rfl,_,rfl,_,rfl,_,_,rfl,rfl,Xv rfl,_,_,rfl,rfl,_,rfl,_,rfl,leN rfl,?_⟩;intro a n_a;generalize hz:upd _ a _=H1;revert H1;refine blk ?_;intro H1 hz;have gz:=Zp hz n_a;have AB:=Y2 hz;clear hz;have gg:=gg.trans gz;refine⟨_,rfl,_,rfl,_,_,rfl,rfl,leN rfl,?_⟩;intro b n_b;generalize hz:upd _ b _=H2;revert H2;refine blk ?_;intro H2 hz;have gz:=Zp hz n_b;have Aw:=Y2 hz;clear hz;have gg:=gg.trans gz;have AB:=gz _ _ AB;refine⟨leN rfl,?_⟩;intro q n_q;generalize hz:upd _ q _=H3;revert H3;refine blk ?_;intro H3 hz;have gz:=Zp hz n_q;have AC:=Y2 hz;clear hz;have gg:=gg.trans gz;have AB:=gz _ _ AB;have Aw:=gz _ _ Aw;exact hq q a b _ gg AC (by show _=some (HO.tup [V.int k.1,V.int (2*(k.2 / 2))]);rw[←jL];exact AB) (by show _=some (HO.tup [V.int k.1,V.int (2*(k.2 / 2)+1)]);rw[←jL];exact Aw)
theorem uy(F:Fun K "bar_of" "bar_of" eu f fd):FnOk P w K mg base CX0 1 f fd ["ladder"] sA:=by
 refine F.ok Vl (fun vs H Q E h=>?_) (fun cdv A outer s H vs Q E hr h=>?_)
 ·obtain⟨q,Ar,or,total,ps,rfl,_⟩:=h;rfl
 obtain⟨q,Ar,or,total,ps,rfl,lad,r0,r1,hq⟩:=h;refine⟨_,(Z3 (Ys (pv 0) (Y6 rfl (Z8 (Z9 (i:=1) Vl.nd rfl (Or.inl rfl)) (Z8 (Z9 (i:=2) Vl.nd rfl (Or.inl rfl)) (Z8 (Z9 (i:=3) Vl.nd rfl (Or.inl rfl)) (Z8 (Z9 (i:=4) Vl.nd rfl (Or.inl rfl)) Zo))))))
 (Z7 (Zc (Ze Ur (pv 4) (pv 1))))),?_⟩
 obtain⟨c,as,AC,Az,pr⟩:=lad.at_;exact⟨_,rfl,q,_,rfl,SqT.of AC,rfl,_,_,rfl,_,_,rfl,_,_,rfl,_,_,rfl,rfl,_,rfl,_,rfl,_,_,rfl,rfl,⟨by omega,by omega⟩,hq⟩
theorem nX(dE:Has P w K mg base "pair_of" 1 ["stretch"] iO)(aS:Has P w K mg base "parent_of" 1 ["stretch"] cy)(F:Fun K "joint_count" "joint_count" bQ f fd):FnOk P w K mg base CX0 2 f fd ["counts","stretch"] kE:=by
 refine F.ok Ws (fun vs H Q E h=>?_) (fun cdv A outer s H vs Q E hr h=>?_)
 ·obtain⟨d,p,ps,k,rfl,_⟩:=h;rfl
 obtain⟨d,p,ps,k,rfl,e_d,Ax,hq⟩:=h;refine⟨_,(Z3 (Ys (Z4 dE hr (Z0 (pv 1) Z1)) (Y6 rfl (Z8 (Z9 (i:=2) Ws.nd rfl (Or.inl rfl)) (Z8 (Z9 (i:=3) Ws.nd rfl (Or.inl rfl)) Zo))))
 (Z7 (Zc (Ze Zu (Ze Zu (X0 (Yg hr) (pv 0) (pv 2) Z5 ⟨rfl,rfl,rfl,rfl⟩) (X0 (Yg hr) (pv 0) (pv 3) Z5 ⟨rfl,rfl,rfl,rfl⟩)) (X0 (Yg hr) (pv 0) (Z4 aS hr (Z0 (pv 1) Z1)) Z5 ⟨rfl,rfl,rfl,rfl⟩))))),?_⟩
 refine⟨_,rfl,p,k,rfl,Ax,fun q a b H1 g1 AC AB Aw=>⟨q,_,rfl,SqT.of AC,rfl,_,_,rfl,_,_,rfl,rfl,?_⟩⟩;have e_d:=g1 _ _ e_d;refine⟨_,rfl,d,rfl,.inr ⟨_,.inl e_d⟩,_,rfl,_,Y7 e_d AB,?_⟩;refine⟨_,rfl,d,rfl,.inr ⟨_,.inl e_d⟩,_,rfl,_,Y7 e_d Aw,_,_,Yr _ _,Yr _ _,?_⟩;refine⟨_,rfl,d,rfl,.inr ⟨_,.inl e_d⟩,_,rfl,p,k,rfl,g1 _ _ Ax,fun r nr=>?_⟩;have g2:=Z6 nr (.tup [.int (ad k).1,.int (ad k).2]);exact⟨_,Y7 (g2 _ _ e_d) Z2,_,_,rfl,Yr _ (ad k),hq _ (g1.trans g2)⟩
theorem wf(a8:mg "sorted"=none)(eN:Has P w K mg base "joint_count" 2 ["counts","stretch"] kE)(F:Fun K "first_folding" "first_folding" bh f fd):FnOk P w K mg base CX0 3 f fd ["deep","bar","counts"] w6:=by
 refine F.ok Vk (fun vs H Q E h=>?_) (fun cdv A outer s H vs Q E hr h=>?_)
 ·obtain⟨or,bar,d,ps,rfl,_⟩:=h;rfl
 obtain⟨or,bar,d,ps,rfl,e_d,h64,hq0,hq1⟩:=h;refine⟨_,(Z3 (X7 yc rfl (Yv (Y1 (hX rfl hr.units) rfl a8 PyProof.Rows.boot_sorted (Z0 (pv 2) Z1))) (Z9 (i:=3) Vk.nd rfl (Or.inl rfl))
 (Z7 (Y8 (PW.pt (i9 (Zi Re (Xa Xc (pv 3) Z5) (pv 0) (Zh _)) (N7 (Zi sU (Z4 eN hr (Z0 (pv 2) (Z0 (pv 3) Z1))) (pv 1) (Zh _))))) (Z7 (Zc (pv 3))) Zr)))
 (Z7 (Zc Xz))),?_⟩
 have gg:Same H H:=Same.refl _;refine⟨_,rfl,d,ps,rfl,e_d,by omega,fun bs ka=>?_⟩;intro l n_l;generalize hz:upd _ l _=H1;revert H1;refine blk ?_;intro H1 hz;have gz:=Zp hz n_l;have AA:=Y2 hz;clear hz;have gg:=gg.trans gz;have ka:=ka.mono fun b xs e=>gg b _ e;have bl:=xL ka;have mk:∀k,k∈eK (ps.map (·.1))↔k∈ps.map (·.1):=fun k=>(Su _).mem_iff;refine⟨l,rfl,⟨_,SqL.of AA⟩,?_⟩;refine Xq (xs:=bs.map V.ref) (fun i σ H'=>∃o3:Option V,σ=[some (.int or),some (.int bar),some (.ref d),o3]∧Same H1 H'∧∀(n:Nat)(k:Int×Int),n<i→(eK (ps.map (·.1)))[n]?=some k→k.1<or→bar<jn ps k.1 (k.2 / 2)) ⟨_,rfl,Same.refl _,fun n _ hn=>absurd hn (Nat.not_lt_zero n)⟩ ?_ ?_ ?_
 ·rintro i σ H' _ ⟨_,_,g,_⟩;exact SqL.of (g _ _ AA)
 ·rintro i x σ H2 N B1 R hN hR hx ⟨o3,rfl,g2,bef⟩;obtain⟨b,k,rfl,hk,Aw⟩:=oh ka hx;have Aw:=g2 _ _ Aw;have dI:=g2 _ _ (gg _ _ e_d);have km:k∈ps.map (·.1):=(mk k).mp (xT hk);have nxt:(k.1<or→bar<jn ps k.1 (k.2 / 2))→∀(n:Nat)(k:Int×Int),n<i+1→(eK (ps.map (·.1)))[n]?=some k→k.1<or→bar<jn ps k.1 (k.2 / 2):=fun c n k' hn e=>by
   rcases Nat.lt_succ_iff_lt_or_eq.mp hn with z | z
   ·exact bef n k' z e
   ·rw[z,hk]at e;cases e;exact c
  refine⟨_,rfl,b,_,0,_,rfl,rfl,SqT.of Aw,rfl,_,rfl,_,_,rfl,rfl,_,rfl,Xf (fun c=>?_) (fun c=>?_)⟩
  ·refine⟨_,rfl,_,rfl,d,b,ps,k,rfl,dI,Aw,fun H3 g3=>⟨_,rfl,_,_,rfl,rfl,_,rfl,Xf (fun c2=>?_) (fun c2=>?_)⟩⟩
   ·refine⟨_,rfl,hR _ _ (hq1 b k _ (gg.trans (g2.trans g3)) (g3 _ _ Aw) ⟨?_,xH c,xH c2,fun k' hk' h1 h2=>?_⟩)⟩
    ·rcases Ry k with e | e
     ·exact .inl (by rw[←e];exact km)
     ·exact .inr (by rw[←e];exact km)
    ·obtain⟨n,hn⟩:=Ag ((mk k').mpr hk')
     rcases zd n i with z | z
     ·have:=bef n k' z hn h1;omega
     ·rcases Nat.lt_or_eq_of_le z with z | z
      ·exact m3 (w5 (Oz _) hk hn z)
      ·rw[←z,hk]at hn;cases hn;exact .inr ⟨rfl,x5 _⟩
   ·exact hN _ _ ⟨_,rfl,g2.trans g3,nxt fun _=>by have:=yF (yy.mpr c2);omega⟩
  ·exact hN _ _ ⟨_,rfl,g2,nxt fun z=>absurd (xJ z) c⟩
 ·rintro σ H2 ⟨_,rfl,g2,all⟩;refine hq0 _ (gg.trans g2) fun k hk h1=>?_;obtain⟨n,hn⟩:=Ag ((mk k).mpr hk);refine all n k ?_ hn h1;rw[az,bl];exact(xI.mp hn).1
theorem sq(aS:Has P w K mg base "parent_of" 1 ["stretch"] cy)(F:Fun K "fold_up" "fold_up" cE f fd):FnOk P w K mg base CX0 2 f fd ["counts","stretch","many"] nI:=by
 refine F.ok Vv (fun vs H Q E h=>?_) (fun cdv A outer s H vs Q E hr h=>?_)
 ·obtain⟨d,p,ps,k,m,rfl,_⟩:=h;rfl
 obtain⟨d,p,ps,k,m,rfl,e_d,Ax,lk,pl,hq⟩:=h;refine⟨_,(Z3 (Zy 3 Vv.nd rfl (Or.inl rfl) (Z4 aS hr (Z0 (pv 1) Z1))) Zb),?_⟩;refine⟨_,rfl,p,k,rfl,Ax,fun q nq=>?_⟩;have g1:=O8 (o:=.tup [.int (ad k).1,.int (ad k).2]) e_d nq;have s1:=Z6 nq (.tup [.int (ad k).1,.int (ad k).2]);have AC:KAt (upd H q (.tup [.int (ad k).1,.int (ad k).2])) q (ad k):=Z2;have e_d:=s1 _ _ e_d;have Ax:KAt _ p k:=s1 _ _ Ax;generalize upd H q (.tup [.int (ad k).1,.int (ad k).2])=H1 at g1 AC e_d Ax⊢;have tupd:∀{H:Hp}{b:Addr}{j:Int×Int}{kvs:List (List Key×V)}{o:HO},H d=some (.dT kvs)→KAt H b j→KAt (upd H d o) b j:=fun{H b j kvs o} e eb=>by
  show upd H d o b=_;rw[Za (U9 eb e (by intro z;cases z))];exact eb
 refine⟨_,(Z3 (W3 (Yg hr) (pv 0) (pv 3) (Ze Zu (X0 (Yg hr) (pv 0) (pv 3) Z5 ⟨rfl,rfl,rfl,rfl⟩) (pv 2)) rfl) Zb),?_⟩;obtain⟨n0,hn0,h0⟩:∃n,n=cnt ps (ad k)∧(ax ps (ad k)).getD (.int 0)=.int n:=⟨_,rfl,Yr _ _⟩;have l1:=W2 ps (ad k) (n0+m);refine⟨_,rfl,d,rfl,.inr ⟨_,.inl e_d⟩,_,rfl,_,Y7 e_d AC,_,rfl,n0,m,h0,rfl,_,rfl,_,rfl,d,_,rfl,DPut.t (k:=kk (ad k)) e_d AC (Zj (by rw[Zk];omega)),?_⟩;have g2:Grw d H (upd H1 d (.dT (aF (af ps) (kk (ad k)) (.int (n0+m))))):=g1.trans X2;have e8:=tupd (o:=.dT (aF (af ps) (kk (ad k)) (.int (n0+m)))) e_d Ax;have dI:(upd H1 d (.dT (aF (af ps) (kk (ad k)) (.int (n0+m))))) d=some (.dT (af (ao ps (ad k) (n0+m)))):=by rw[←Wt];exact Z2
 generalize upd H1 d (.dT (aF (af ps) (kk (ad k)) (.int (n0+m))))=H2 at g2 e8 dI⊢;refine⟨_,(Z3 (W3 (Yg hr) (pv 0) (pv 1) (Ze Xj (Wf (Yg hr) (pv 0) (pv 1) (fun _ _=>rfl)) (pv 2)) rfl) Zb),?_⟩;have lk2:ax (ao ps (ad k) (n0+m)) k=some (.int m):=by rw[Xb,xz (Va k)];exact lk
 have l2:=W2 (ao ps (ad k) (n0+m)) k (m-m);refine⟨_,rfl,_,rfl,d,.int m,rfl,by rw[←lk2];exact Y7 dI e8,_,rfl,_,_,rfl,rfl,_,rfl,_,rfl,d,_,rfl,DPut.t (k:=kk k) dI e8 (Zj (by rw[Zk];omega)),?_⟩;have g3:Grw d H (upd H2 d (.dT (aF (af (ao ps (ad k) (n0+m))) (kk k) (.int (m-m))))):=g2.trans X2;have ja:=tupd (o:=.dT (aF (af (ao ps (ad k) (n0+m))) (kk k) (.int (m-m)))) dI e8;have c_:(upd H2 d (.dT (aF (af (ao ps (ad k) (n0+m))) (kk k) (.int (m-m))))) d=some (.dT (af (ao (ao ps (ad k) (n0+m)) k (m-m)))):=by rw[show af (ao (ao ps (ad k) (n0+m)) k (m-m))=aF (af (ao ps (ad k) (n0+m))) (kk k) (.int (m-m)) from(Wt _ _ _).symm];exact Z2
 generalize upd H2 d (.dT (aF (af (ao ps (ad k) (n0+m))) (kk k) (.int (m-m))))=H3 at g3 ja c_⊢;refine⟨_,(Z7 (Y8 (Zi S8 (Wf (Yg hr) (pv 0) (pv 1) (fun _ _=>rfl)) Z5 (Zh _)) (Z7 (Xh (Uf yI PySem.F.slot_dict_pop PySem.F.type_dict_pop (jH hr.units) (pv 0) (Z0 (pv 1) Z1)))) Zr)),?_⟩;have lk3:ax (ao (ao ps (ad k) (n0+m)) k (m-m)) k=some (.int (m-m)):=by rw[Xb,xC rfl]
 refine⟨_,rfl,_,rfl,d,.int (m-m),rfl,by rw[←lk3];exact Y7 c_ ja,rfl,_,rfl,?_⟩;rw[xJ (by rw[Int.sub_self])];refine U1 ⟨_,rfl,T6 c_,_,rfl,d,p,_,kk k,_,rfl,rfl,c_,ja,lk3,?_⟩;refine hq _ (g3.trans X2) ?_;rw[←hn0];unfold b7;rw[←j6];exact Z2
def hgt:List Key→Int
 |.inl h::_=>h
 |_=>0
def uQ(or:Int)(kvs:List (List Key×V)):Nat:=(kvs.map fun kv=>(or+1-hgt kv.1).toNat).sum
theorem qW(or:Int)(ps:Sps):uQ or (af ps)=mea or (ps.map (·.1)):=by
 unfold uQ mea af;rw[x8,x8];rfl
def muD(or:Int)(d:Addr)(H:Hp):Nat:=match H d with
 |some (.dT kvs)=>uQ or kvs
 |_=>0
theorem jh{or:Int}{d:Addr}{H:Hp}{ps:Sps}(e:H d=some (.dT (af ps))):muD or d H=mea or (ps.map (·.1)):=by
 unfold muD;rw[e];exact qW or ps
def FsAt(H:Hp)(l:Addr)(fs:Sps):Prop:=∃as:List Addr,H l=some (.lst (as.map V.ref))∧Paired (FT H) as fs
def gr:Sp:=fun vs H Q _=>∃(q:Addr)(Ar or total:Int)(ps:Sps),vs=[.ref q]∧LadAt H q Ar or total ps∧1≤Ar∧Ar≤20∧or≤20∧Kok or (ps.map (·.1))∧ps.length<64∧
 ∀(t r l:Addr)(H':Hp)(fs Au:Sps),Same H H'→H' t=some (.tup [.ref r,.ref l])→H l=none→LadAt H' r Ar or total (aO Au)→FsAt H' l fs→fs.length≤1400→Stl or (total / Ar) ps fs Au→Kok or (Au.map (·.1))→Au.length≤ps.length→Q (.ref t) H'
def pjs(ps:Sps)(h j:Int):Nat→Sps
 | 0=>ps
 | 1=>aC ps (loK h j)
 |_=>aV ps h j
def tjs(ps:Sps)(h j:Int):Nat→Sps
 | 0=>[]
 | 1=>aM ps (loK h j)
 |_=>flP ps h j
def kjs(h j:Int):Nat→Int×Int
 | 0=>loK h j
 |_=>hiK h j
theorem oA(ps:Sps)(h j:Int){i:Nat}(hi:i<2):pjs ps h j (i+1)=aC (pjs ps h j i) (kjs h j i)∧tjs ps h j (i+1)=tjs ps h j i++aM (pjs ps h j i) (kjs h j i):=by
 match i,hi with
 | 0,_=>exact⟨rfl,rfl⟩
 | 1,_=>exact⟨rfl,by show aM ps _++aM ps _=aM ps _++aM (aC ps (loK h j)) (hiK h j);rw[Ou]⟩
structure Stg(H H':Hp)(d L:Addr)(or bar:Int)(n0 M:Nat)(ps0 ps fs:Sps):Prop where
 sm:Same H H'
 ed:H' d=some (.dT (af ps))
 eL:FsAt H' L fs
 ok:Kok or (ps.map (·.1))
 le:ps.length≤n0
 few:fs.length+mea or (ps.map (·.1))≤M
theorem FsAt.same{H H':Hp}{l:Addr}{fs:Sps}(h:FsAt H l fs)(g:Same H H'):FsAt H' l fs:=let ⟨as,e,p⟩:=h;⟨as,g _ _ e,Paired.mapP p fun _ _ f=>Zs g f⟩
theorem Stg.same{H H1 H2:Hp}{d L:Addr}{or bar:Int}{n0 M:Nat}{ps0 ps fs:Sps}(s:Stg H H1 d L or bar n0 M ps0 ps fs)(g:Same H1 H2):Stg H H2 d L or bar n0 M ps0 ps fs:=⟨s.sm.trans g,g _ _ s.ed,s.eL.same g,s.ok,s.le,s.few⟩
theorem uH(aJ:mg "dict"=none)(a8:mg "sorted"=none)(bw:mg "tuple"=none)(pM:Has P w K mg base "bar_of" 1 ["ladder"] sA)(b0:Has P w K mg base "first_folding" 3 ["deep","bar","counts"] w6)(dE:Has P w K mg base "pair_of" 1 ["stretch"] iO)(dj:Has P w K mg base "fold_up" 2 ["counts","stretch","many"] nI)(F:Fun K "settling_of" "settling_of" bK f fd):FnOk P w K mg base CX0 4 f fd ["ladder"] gr:=by
 refine F.ok Zw (fun vs H Q E h=>?_) (fun cdv A outer s H vs Q E hr h=>?_)
 ·obtain⟨q,Ar,or,total,ps,rfl,_⟩:=h;rfl
 obtain⟨q,Ar,or,total,ps,rfl,lad,r0,r1,d1,kok,pl,hq⟩:=h;obtain⟨c,as,AC,Az,pr⟩:=lad.at_;refine⟨_,(Z3 (Ys (pv 0) (Y6 rfl (Z8 (Z9 (i:=1) Zw.nd rfl (Or.inl rfl)) (Z8 (Z9 (i:=2) Zw.nd rfl (Or.inl rfl)) (Z8 (Z9 (i:=3) Zw.nd rfl (Or.inl rfl)) (Z8 (Z9 (i:=4) Zw.nd rfl (Or.inl rfl)) Zo)))))) Zb),?_⟩;refine⟨_,rfl,q,_,rfl,SqT.of AC,rfl,_,_,rfl,_,_,rfl,_,_,rfl,_,_,rfl,rfl,?_⟩;refine⟨_,(Z3 (Zy 5 Zw.nd rfl (Or.inl rfl) (Z4 pM hr (Z0 (pv 0) Z1))) Zb),?_⟩;refine⟨_,rfl,q,Ar,or,total,ps,rfl,lad,r0,r1,?_⟩;refine⟨_,(Z3 (Zy 6 Zw.nd rfl (Or.inl rfl) (Y9 (Xr rfl hr.units) rfl aJ yX (Z0 (pv 3) Z1))) Zb),?_⟩;have nd:((af ps).map (·.1)).Nodup:=by
  rw[Vg];exact yZ.mpr (kok.nd.imp fun h e=>h (Vd e))
 refine⟨_,rfl,c,_,_,rfl,Az,Tm pr,by rw[Zk];omega,fun d n_d=>?_⟩;rw[Wu nd];have sm0:=Z6 n_d (.dT (af ps));have ed0:(upd H d (.dT (af ps))) d=some (.dT (af ps)):=Z2;generalize upd H d (.dT (af ps))=H1 at sm0 ed0⊢;refine⟨_,(Z3 (Zy 7 Zw.nd rfl (Or.inl rfl) (Yk Z1)) Zb),?_⟩;refine⟨leN rfl,fun L n_L=>?_⟩;have sm1:=Z6 n_L (.lst []);have eL0:(upd H1 L (.lst [])) L=some (.lst []):=Z2;generalize upd H1 L (.lst [])=H2 at sm1 eL0⊢;have nHL:H L=none:=sm0.free n_L;have m0:mea or (ps.map (·.1))≤21*ps.length:=by
  have:=p5 d1 (ks:=ps.map (·.1)) fun k hk=>(kok.st k hk).1
  rwa [az]at this
 have sg:Stg H H2 d L or (total / Ar) ps.length (mea or (ps.map (·.1))) ps ps []:=⟨sm0.trans sm1,sm1 _ _ ed0,⟨[],eL0,.nil⟩,kok,xA _,by rw[yQ];omega⟩;have dL:d≠L:=Zd ed0 n_L;generalize hbar:total / Ar=bar at sg hq⊢;generalize mea or (ps.map (·.1))=M at m0 sg;refine⟨_,(Z3 (Zy 8 Zw.nd rfl (Or.inl rfl) (Z4 b0 hr (Z0 (pv 2) (Z0 (pv 5) (Z0 (pv 6) Z1))))) Zb),?_⟩;refine S0 (fun σ' H'=>∃(o8:V)(Au:Sps)(fs:Sps),σ'=[some (.ref q),some (.int Ar),some (.int or),some (.ref c),some (.int total),some (.int bar),some (.ref d),some (.ref L),some o8,none]∧Stg H H' d L or bar ps.length M ps Au fs∧Way or bar ps fs Au∧((o8=.non∧Nof or bar Au)∨∃(p:Addr)(k:Int×Int),o8=.ref p∧KAt H' p k∧Fst or bar Au k.1 (k.2 / 2))) ?_ ?_
 ·intro nx hnx;exact⟨_,rfl,_,rfl,_,rfl,or,_,d,ps,rfl,sg.ed,pl,fun H' g n=>hnx _ _ ⟨.non,ps,[],rfl,sg.same g,Way.refl,.inl ⟨rfl,n⟩⟩,fun p k H' g ek ft=>hnx _ _ ⟨.ref p,ps,[],rfl,sg.same g,Way.refl,.inr ⟨p,k,rfl,ek,ft⟩⟩⟩
 rintro σ' H3 ⟨o8,ps1,fs,rfl,sg,way,alt⟩;refine⟨_,(Z3 (gA yc (Zi S7 (pv 8) Xz (Zh _)) (Z3 (X7 yc rfl (Ql (Z4 dE hr (Z0 (pv 8) Z1))) (Z9 (i:=9) Zw.nd rfl (Or.inl rfl))
 (Z7 (Y8 (Zi (qf hr.units) (pv 9) (pv 6) (by with_unfolding_all rfl)) (Z3 (Xh (Uf yg zz zA Vn (pv 7) (Z0 (Zn (Z0 (pv 9) (Z0 (Wf (Yg hr) (pv 6) (pv 9) (fun _ _=>rfl)) Z1))) Z1)))
 (Z7 (Xh (Z4 dj hr (Z0 (pv 6) (Z0 (pv 9) (Z0 (Wf (Yg hr) (pv 6) (pv 9) (fun _ _=>rfl)) Z1))))))) Zr)))
 (Z7 (Zy 8 Zw.nd rfl (Or.inl rfl) (Z4 b0 hr (Z0 (pv 2) (Z0 (pv 5) (Z0 (pv 6) Z1)))))))) Zb),?_⟩
 refine oJ (fun σ H'=>∃(o8:V)(o9:Option V)(Au:Sps)(fs:Sps),σ=[some (.ref q),some (.int Ar),some (.int or),some (.ref c),some (.int total),some (.int bar),some (.ref d),some (.ref L),some o8,o9]∧Stg H H' d L or bar ps.length M ps Au fs∧Way or bar ps fs Au∧((o8=.non∧Nof or bar Au)∨∃(p:Addr)(k:Int×Int),o8=.ref p∧KAt H' p k∧Fst or bar Au k.1 (k.2 / 2))) (fun _ H'=>muD or d H') ⟨o8,none,ps1,fs,rfl,sg,way,alt⟩ ?_ ?_
 ·rintro σ H4 ⟨o8,o9,ps2,fs,rfl,sg,way,alt⟩;refine⟨_,rfl,rfl,_,rfl,?_⟩
  rcases alt with⟨rfl,nof⟩|⟨p,k,rfl,Ax,ft⟩
  ·rw[xJ rfl];refine Xe ⟨_,(Z7 (Zc (Zn (Z0 (Zn (Z0 (pv 1) (Z0 (pv 2) (Z0 (Y9 T5 rfl bw PyProof.Rows.boot_tuple (Z0 (Y1 (Rk rfl hr.units) rfl a8 PyProof.Rows.boot_sorted (Z0 (Vx yI zF zY Ut (pv 6)) Z1)) Z1)) (Z0 (pv 4) Z1))))) (Z0 (pv 7) Z1))))),?_⟩;refine⟨_,rfl,_,rfl,_,rfl,T6 sg.ed,d,_,rfl,rfl,sg.ed,fun v nv=>?_⟩;have g1:=Z6 nv (a_ v d);have e_v:(upd H4 v (a_ v d)) v=some (a_ v d):=Z2;have sg:=sg.same g1;generalize upd H4 v (a_ v d)=H5 at e_v sg⊢;have pl2:=sg.le;refine⟨v,d,ps2,rfl,e_v,sg.ed,by omega,fun H6 bs g6 pr6 l nl _=>?_⟩;have sg:=sg.same g6;have gg:Same H6 H6:=Same.refl _;have gz:=Z6 nl (.lst (bs.map V.ref));have AA:(upd H6 l (.lst (bs.map V.ref))) l=some (.lst (bs.map V.ref)):=Z2;have sg:=sg.same gz;have gg:=gg.trans gz;generalize upd H6 l (.lst (bs.map V.ref))=H7 at AA sg gg gz⊢;refine⟨l,_,rfl,.inl ⟨SqL.of AA,?_⟩⟩;intro u n_u;generalize hz:upd _ u _=H8;revert H8;refine blk ?_;intro H8 hz;have gz:=Zp hz n_u;have e_u:=Y2 hz;clear hz;have gg:=gg.trans gz;have sg:=sg.same gz;refine⟨_,rfl,leN rfl,?_⟩;intro r n_r;generalize hz:upd _ r _=H9;revert H9;refine blk ?_;intro H9 hz;have gz:=Zp hz n_r;have e_r:=Y2 hz;clear hz;have gg:=gg.trans gz;have e_u:=gz _ _ e_u;have sg:=sg.same gz;refine⟨_,rfl,leN rfl,?_⟩;intro t n_t;generalize hz:upd _ t _=H10;revert H10;refine blk ?_;intro H10 hz;have gz:=Zp hz n_t;have AD:=Y2 hz;clear hz;have gg:=gg.trans gz;have e_u:=gz _ _ e_u;have e_r:=gz _ _ e_r;have sg:=sg.same gz;have few:=sg.few;exact hq t r L _ fs ps2 sg.sm AD nHL ⟨u,bs,e_r,e_u,Paired.mapP pr6 fun _ _ f=>Zs gg f⟩ sg.eL (by omega) (way.done nof) sg.ok sg.le
  ·rw[yh (fun z=>by cases z)];refine U1 ⟨_,rfl,p,k,rfl,Ax,fun t a b H5 g5 AD AB Aw=>⟨t,rfl,⟨_,SqT.of AD⟩,?_⟩⟩;have mu4:muD or d H4=mea or (ps2.map (·.1)):=jh sg.ed;rw[mu4];have sg5:=sg.same g5;generalize k.1=h at ft AB Aw;generalize k.2 / 2=jj at ft AB Aw;have hd:=ft.hd;refine P7 (xs:=[.ref a,.ref b]) (fun j σ H'=>∃(o9:Option V),σ=[some (.ref q),some (.int Ar),some (.int or),some (.ref c),some (.int total),some (.int bar),some (.ref d),some (.ref L),some (.ref p),o9]∧Stg H H' d L or bar ps.length M ps (pjs ps2 h jj j) (fs++tjs ps2 h jj j)∧H' t=some (.tup [.ref a,.ref b])∧KAt H' a (loK h jj)∧KAt H' b (hiK h jj)) ⟨_,rfl,by rw[show fs++tjs ps2 h jj 0=fs from yB fs];exact sg5,AD,AB,Aw⟩ ?_ ?_ ?_
   ·rintro j σ H' _ ⟨_,_,_,e,_⟩;exact SqT.of e
   ·rintro j x σ H6 N B1 R hN hR hx ⟨o9,rfl,sg,AD,AB,Aw⟩;obtain⟨o,rfl,e_o,j2⟩:∃(o:Addr),x=.ref o∧KAt H6 o (kjs h jj j)∧j<2:=by
     match j,hx with
     | 0,hx=>
      cases hx;exact⟨a,rfl,AB,by decide⟩
     | 1,hx=>
      cases hx;exact⟨b,rfl,Aw,by decide⟩
     |j+2,hx=>simp at hx
    obtain⟨nx1,nx2⟩:=oA ps2 h jj j2;rw[nx1,nx2,←yL]at hN;have kh:(kjs h jj j).1=h:=by
     match j with
     | 0=>rfl
     |_+1=>rfl
    generalize pjs ps2 h jj j=ps3 at sg hN;generalize fs++tjs ps2 h jj j=fs3 at sg hN;generalize kjs h jj j=ko at e_o hN kh;refine⟨_,rfl,_,rfl,d,_,rfl,Y7 sg.ed e_o,_,rfl,Xf (fun cc=>?_) (fun cc=>?_)⟩
    ·have kin:=Ww.mp cc;have hm:=Qx kin;have nxo:=Pb (k:=ko) sg.ok (by rw[kh];exact hd);have ef:aC ps3 ko=b7 ps3 ko (cnt ps3 ko) (cnt ps3 (ad ko)+cnt ps3 ko):=by unfold aC;rw[xC kin];rfl
     have et:aM ps3 ko=[(ko,cnt ps3 ko)]:=by unfold aM;rw[xC kin]
     rw[et]at hN nxo;generalize cnt ps3 ko=m at hm ef hN;have gm:DGet H6 d (.ref o) (some (.int m)):=by rw[←hm];exact Y7 sg.ed e_o
     obtain⟨fas,eL,pF⟩:=sg.eL;refine⟨_,rfl,.inl ⟨rfl,_,SqL.of eL⟩,_,rfl,_,rfl,_,rfl,d,_,rfl,gm,leN rfl,fun u nu=>?_⟩;have s7:=Z6 nu (.tup [.ref o,.int m]);have sg:=sg.same s7;have AD:=s7 _ _ AD;have AB:KAt _ a _:=s7 _ _ AB;have Aw:KAt _ b _:=s7 _ _ Aw;have e_o:KAt _ o _:=s7 _ _ e_o;have eL:=s7 _ _ eL;have pF:=Paired.mapP pF fun _ _ f=>Zs s7 f;have fu:FT (upd H6 u (.tup [.ref o,.int m])) u (ko,m):=⟨o,Z2,e_o⟩;generalize upd H6 u (.tup [.ref o,.int m])=H7 at sg AD AB Aw e_o eL pF fu⊢;have few:=sg.few;have fal:=xL pF;have tL:∀{x:Addr}{xs:List V}{o:HO},H7 x=some (.tup xs)→upd H7 L o x=some (.tup xs):=fun{x xs o} e=>by rw[Za (U9 e eL (by intro z;cases z))];exact e
     refine⟨L,_,_,rfl,rfl,eL,Zj (by rw[az];omega),?_⟩;have sm8:Same H (upd H7 L (.lst (fas.map V.ref++[.ref u]))):=fun x w e=>by rw[Za (Zd e nHL)];exact sg.sm _ _ e
     have ed8:(upd H7 L (.lst (fas.map V.ref++[.ref u]))) d=some (.dT (af ps3)):=by rw[Za dL];exact sg.ed
     have eL8:(upd H7 L (.lst (fas.map V.ref++[.ref u]))) L=some (.lst ((fas++[u]).map V.ref)):=by rw[xN];exact Z2
     have tF:∀{x:Addr}{p:(Int×Int)×Int},FT H7 x p→FT (upd H7 L (.lst (fas.map V.ref++[.ref u]))) x p:=fun{x p} ⟨y,e1,e2⟩=>⟨y,tL e1,tL e2⟩;have pF8:Paired (FT (upd H7 L (.lst (fas.map V.ref++[.ref u])))) (fas++[u]) (fs3++[(ko,m)]):=zR (Paired.mapP pF fun _ _ f=>tF f) (tF fu);have AD:=tL (o:=.lst (fas.map V.ref++[.ref u])) AD;have AB:KAt _ a _:=tL (o:=.lst (fas.map V.ref++[.ref u])) AB;have Aw:KAt _ b _:=tL (o:=.lst (fas.map V.ref++[.ref u])) Aw;have e_o:KAt _ o _:=tL (o:=.lst (fas.map V.ref++[.ref u])) e_o;generalize upd H7 L (.lst (fas.map V.ref++[.ref u]))=H8 at sm8 ed8 eL8 AD AB Aw e_o pF8⊢;have gm8:DGet H8 d (.ref o) (some (.int m)):=by rw[←hm];exact Y7 ed8 e_o
     have le3:=sg.le;refine⟨_,rfl,_,rfl,_,rfl,_,rfl,d,_,rfl,gm8,d,o,ps3,ko,m,rfl,ed8,e_o,hm,by omega,fun H9 g9 e9=>?_⟩;rw[←ef]at e9;have nx2:=nxo.2.1;have nx3:=nxo.2.2;rw[yR]at nx2;have td:∀{x:Addr}{xs:List V},H8 x=some (.tup xs)→H9 x=some (.tup xs):=fun{x xs} e=>(Zf (g9 x _ (by rw[Zg (U9 e ed8 (by intro z;cases z))];exact e))).2;refine hN _ _ ⟨_,rfl,⟨fun x w e=>(Zf (g9 x _ (by rw[Zg (Zd e n_d)];exact sm8 _ _ e))).2,e9,⟨fas++[u],(Zf (g9 L _ (by rw[Zg (Ne.symm dL)];exact eL8))).2,Paired.mapP pF8 fun _ _ ⟨y,e1,e2⟩=>⟨y,td e1,td e2⟩⟩,nxo.1,by omega,by rw[xE,yR];omega⟩,td AD,td AB,td Aw⟩
    ·have kin:ko∉ps3.map (·.1):=fun z=>cc (Ww.mpr z);have ef:aC ps3 ko=ps3:=by unfold aC;rw[xz kin]
     have et:aM ps3 ko=[]:=by unfold aM;rw[xz kin]
     rw[ef,et,yB]at hN;exact hN _ _ ⟨_,rfl,sg,AD,AB,Aw⟩
   ·rintro σ H6 ⟨o9,rfl,sg,_,_,_⟩;have sg:Stg H H6 d L or bar ps.length M ps (aV ps2 h jj) (fs++flP ps2 h jj):=sg;have way:=way.snoc ft (.refl _);have so:=Ua (j:=jj) sg5.ok hd;have fp:=pC ft.in_;have le3:=sg.le;generalize aV ps2 h jj=ps3 at sg way so le3;generalize fs++flP ps2 h jj=fs3 at sg way;have less:mea or (ps3.map (·.1))<mea or (ps2.map (·.1)):=by omega
    refine⟨_,rfl,_,rfl,_,rfl,or,_,d,ps3,rfl,sg.ed,by omega,fun H' g n=>⟨⟨.non,o9,ps3,fs3,rfl,sg.same g,way,.inl ⟨rfl,n⟩⟩,?_⟩,fun p' k' H' g ek ft'=>⟨⟨.ref p',o9,ps3,fs3,rfl,sg.same g,way,.inr ⟨p',k',rfl,ek,ft'⟩⟩,?_⟩⟩
    ·rw[jh (sg.same g).ed];exact less
    ·rw[jh (sg.same g).ed];exact less
 ·rintro σ H' Q1 Q2 m ⟨v,e,e2,b,e3,r⟩;exact⟨v,e,e2,b,e3,m _ _ r⟩
def jO:Sp:=fun vs H Q _=>∃(q:Addr)(Ar or total:Int)(ps:Sps),vs=[.ref q]∧LadAt H q Ar or total ps∧1≤Ar∧Ar≤20∧or≤20∧Kok or (ps.map (·.1))∧ps.length<64∧
 ∀(r:Addr)(H':Hp)(fs Au:Sps),Same H H'→LadAt H' r Ar or total (aO Au)→Stl or (total / Ar) ps fs Au→Kok or (Au.map (·.1))→Au.length≤ps.length→Q (.ref r) H'
theorem tX(aY:Has P w K mg base "settling_of" 4 ["ladder"] gr)(F:Fun K "settled" "settled" dC f fd):FnOk P w K mg base CX0 5 f fd ["ladder"] jO:=by
 refine F.ok i7 (fun vs H Q E h=>?_) (fun cdv A outer s H vs Q E hr h=>?_)
 ·obtain⟨q,Ar,or,total,ps,rfl,_⟩:=h;rfl
 obtain⟨q,Ar,or,total,ps,rfl,lad,r0,r1,d1,kok,pl,hq⟩:=h;refine⟨_,(Z7 (Zc (Xa Xc (Z4 aY hr (Z0 (pv 0) Z1)) Z5))),?_⟩;exact⟨_,rfl,q,Ar,or,total,ps,rfl,lad,r0,r1,d1,kok,pl,fun t r l H' fs Au g AD nl lad' fa f1 st ok' pl'=>⟨t,_,0,_,rfl,rfl,SqT.of AD,rfl,hq r H' fs Au g lad' st ok' pl'⟩⟩
end K34
namespace Ld
open PySem L2
structure Pok(or:Int)(ps:Sps):Prop where
 kok:Kok or (ps.map (·.1))
 pos:∀p∈ps,1≤p.2
theorem Pok.perm{or:Int}{ps qs:Sps}(h:Pok or ps)(p:qs.Perm ps):Pok or qs:=⟨h.kok.perm (p.map _),fun x hx=>h.pos x (p.mem_iff.mp hx)⟩
theorem kj{or:Int}:Pok or []:=⟨⟨yb,fun _ h=>nomatch h⟩,fun _ h=>nomatch h⟩
theorem U4{or:Int}{ps:Sps}(h:Pok or ps)(k:Int×Int):0≤cnt ps k:=by
 by_cases hk:k∈ps.map (·.1)
 ·obtain⟨p,hp,rfl⟩:=xB.mp hk;rw[Yt h.kok.nd hp];have:=h.pos p hp;omega
 ·rw[Y3 hk];exact x5 _
theorem Sm{or:Int}{ps:Sps}(h:Pok or ps){k:Int×Int}(hk:k∈ps.map (·.1)):1≤cnt ps k:=by
 obtain⟨p,hp,rfl⟩:=xB.mp hk;rw[Yt h.kok.nd hp];exact h.pos p hp
theorem rW{or:Int}{ps:Sps}{k:Int×Int}{n:Int}(h:Pok or ps)(hk:0≤k.1∧k.1≤or∧0≤k.2∧k.2<2^(or-k.1).toNat)(hn:1≤n):Pok or (ao ps k n):=by
 refine⟨⟨Ye h.kok.nd,fun x hx=>?_⟩,fun p hp=>?_⟩
 ·rw[Xu]at hx
  split at hx
  ·exact h.kok.st x hx
  ·rcases xR.mp hx with hx | hx
   ·exact h.kok.st x hx
   ·rw[xF.mp hx];exact hk
 ·unfold ao at hp
  split at hp
  ·obtain⟨q,hq,rfl⟩:=xB.mp hp
   split
   ·exact hn
   ·exact h.pos q hq
  ·rcases xR.mp hp with hp | hp
   ·exact h.pos p hp
   ·rw[xF.mp hp];exact hn
theorem Tx{or:Int}{ps:Sps}{h j:Int}(o:Pok or ps)(i:loK h j∈ps.map (·.1)∨hiK h j∈ps.map (·.1))(hd:h<or):Pok or (aV ps h j):=by
 have so:=Ua (j:=j) o.kok hd;refine⟨so.1,fun p hp=>?_⟩;have e:=Wg so.1.nd hp;rw[Tj i]at e
 split at e
 ·cases e
 ·split at e
  ·injection e with e
   injection e with e
   rw[←e];unfold jn;have a:=U4 o (loK h j);have b:=U4 o (hiK h j);have c:=U4 o (upK h j)
   rcases i with i | i
   ·have:=Sm o i;omega
   ·have:=Sm o i;omega
  ·exact o.pos p ((Qu o.kok.nd).mpr e)
theorem k7{or bar:Int}{ps fs Au:Sps}(s:Stl or bar ps fs Au):Pok or ps→Pok or Au∧Au.length≤ps.length:=by
 induction s with
 |done n=>exact fun o=>⟨o,xA _⟩
 |step f p1 s ih=>
  intro o;have q:=Tx o f.in_ f.hd;have z:=ih (q.perm p1);exact⟨z.1,yi z.2 (by rw[p1.length_eq];exact(Ua o.kok f.hd).2.2)⟩
theorem pW{or bar:Int}{ps fs Au qs:Sps}(s:Stl or bar ps fs Au)(p:ps.Perm qs)(nd:(ps.map (·.1)).Nodup):∃qs',Stl or bar qs fs qs'∧qs'.Perm Au:=by
 cases s with
 |done n=>exact⟨qs,.done (Qs n p nd),p.symm⟩
 |step f p1 s=>exact⟨Au,by rw[kN p nd];exact .step (f.perm p nd) (p1.trans (O1 p nd f.in_)) s,.refl _⟩
theorem n6{or bar:Int}{ps:Sps}:Nof or bar ps∨∃h j,Fst or bar ps h j:=by
 by_cases n:Nof or bar ps
 ·exact .inl n
 refine .inr ?_;have go:∀l:List (Int×Int),l.Pairwise (fun a b=>leK a b=true)→(∀k∈l,k∈ps.map (·.1))→(∃k∈l,k.1<or∧jn ps k.1 (k.2 / 2)≤bar)→∃k∈l,k.1<or∧jn ps k.1 (k.2 / 2)≤bar∧∀k'∈l,k'.1<or→jn ps k'.1 (k'.2 / 2)≤bar→k.1<k'.1∨(k.1=k'.1∧k.2 / 2≤k'.2 / 2):=by
  intro l
  induction l with
  |nil=>rintro _ _ ⟨k,hk,_⟩;cases hk
  |cons x l ih=>
   intro pw sub ex;rw[yU]at pw;by_cases c:x.1<or∧jn ps x.1 (x.2 / 2)≤bar
   ·refine⟨x,.head _,c.1,c.2,fun k' hk' _ _=>?_⟩
    rcases xQ.mp hk' with e | hk'
    ·rw[e];exact .inr ⟨rfl,x5 _⟩
    ·rcases U0.mp (pw.1 k' hk')with h | ⟨h,g⟩
     ·exact .inl h
     ·exact .inr ⟨h,by omega⟩
   ·obtain⟨k,hk,h1,h2⟩:=ex;have hk:k∈l:=(xQ.mp hk).resolve_left fun e=>c (by rw[←e];exact⟨h1,h2⟩);obtain⟨k0,m,a1,a2,a3⟩:=ih pw.2 (fun z hz=>sub z (.tail _ hz)) ⟨k,hk,h1,h2⟩;refine⟨k0,.tail _ m,a1,a2,fun k' hk' b1 b2=>?_⟩
    rcases xQ.mp hk' with e | hk'
    ·exact absurd (by rw[←e];exact⟨b1,b2⟩) c
    ·exact a3 k' hk' b1 b2
 have mk:∀k,k∈eK (ps.map (·.1))↔k∈ps.map (·.1):=fun k=>(Su _).mem_iff;obtain⟨k,hk⟩:=Classical.not_forall.mp n;obtain⟨hk1,hk⟩:=Classical.not_imp.mp hk;obtain⟨hk2,hk⟩:=Classical.not_imp.mp hk;obtain⟨k0,m,a1,a2,a3⟩:=go (eK (ps.map (·.1))) (Oz _) (fun k h=>(mk k).mp h) ⟨k,(mk k).mpr hk1,hk2,by omega⟩;refine⟨k0.1,k0.2 / 2,?_,a1,a2,fun k' h1 h2 h3=>a3 k' ((mk k').mpr h1) h2 h3⟩
 rcases Ry k0 with e | e
 ·exact .inl (by rw[←e];exact(mk k0).mp m)
 ·exact .inr (by rw[←e];exact(mk k0).mp m)
theorem T7{or bar:Int}:∀(n:Nat)(ps:Sps),mea or (ps.map (·.1))≤n→Kok or (ps.map (·.1))→∃fs Au,Stl or bar ps fs Au
 |n,ps,hn,o=>by
  rcases n6 (or:=or) (bar:=bar) (ps:=ps)with z | ⟨h,j,f⟩
  ·exact⟨[],ps,.done z⟩
  ·have so:=Ua (j:=j) o f.hd;have fp:=pC f.in_
   match n,hn with
   | 0,hn=>omega
   |n+1,hn=>
    obtain⟨fs,Au,s⟩:=T7 n (aV ps h j) (by omega) so.1;exact⟨_,_,.step f (.refl _) s⟩
def bU(or bar:Int)(ps:Sps):Sps:=aO (Classical.epsilon fun Au=>∃fs,Stl or bar ps fs Au)
def dh(or bar:Int)(ps:Sps):Sps:=Classical.epsilon fun fs=>∃Au,Stl or bar ps fs Au
theorem W1{or bar:Int}{ps fs Au:Sps}(s:Stl or bar ps fs Au)(nd:(ps.map (·.1)).Nodup):bU or bar ps=aO Au∧dh or bar ps=fs:=by
 refine⟨?_,?_⟩
 ·obtain⟨gs,t⟩:=Classical.epsilon_spec (p:=fun Au=>∃fs,Stl or bar ps fs Au) ⟨Au,fs,s⟩;exact Qf (jS t s (.refl _) nd).2
 ·obtain⟨qs,t⟩:=Classical.epsilon_spec (p:=fun fs=>∃Au,Stl or bar ps fs Au) ⟨fs,Au,s⟩;exact(jS t s (.refl _) nd).1
theorem kT{or bar:Int}{ps qs fs qs':Sps}(s:Stl or bar qs fs qs')(p:qs.Perm ps)(nd:(qs.map (·.1)).Nodup):bU or bar ps=aO qs'∧dh or bar ps=fs:=by
 obtain⟨Au,t,p'⟩:=pW s p nd;have:=W1 t ((p.map _).nodup_iff.mp nd);exact⟨this.1.trans (Qf p'),this.2⟩
theorem mo{or bar:Int}{ps qs:Sps}(o:Kok or (ps.map (·.1)))(p:ps.Perm qs):bU or bar ps=bU or bar qs∧dh or bar ps=dh or bar qs:=by
 obtain⟨fs,Au,s⟩:=T7 (or:=or) (bar:=bar) _ ps (xA _) o;have a:=W1 s o.nd;have b:=kT s p o.nd;exact⟨a.1.trans b.1.symm,a.2.trans b.2.symm⟩
theorem jx(ps:Sps):aO (aO ps)=aO ps:=Qf (Y0 ps)
theorem T9{or bar:Int}{ps:Sps}(o:Pok or ps):Pok or (bU or bar ps)∧aO (bU or bar ps)=bU or bar ps∧Nof or bar (bU or bar ps)∧ag (bU or bar ps)=ag ps∧(bU or bar ps).length≤ps.length:=by
 obtain⟨fs,Au,s⟩:=T7 (or:=or) (bar:=bar) _ ps (xA _) o.kok;have e:=(W1 s o.kok.nd).1;have f:=jE s o.kok.nd;have g:=k7 s o;rw[e];refine⟨g.1.perm (Y0 Au),jx Au,Qs f.2.1 (Y0 Au).symm f.1,by rw[Vi (Y0 Au)];exact f.2.2,by rw[(Y0 Au).length_eq];exact g.2⟩
def ay(xs ys:Sps):Sps:=ys.foldl (fun a p=>ao a p.1 (cnt a p.1+p.2)) xs
theorem Sq(xs ys:Sps)(p:(Int×Int)×Int):ay xs (ys++[p])=ao (ay xs ys) p.1 (cnt (ay xs ys) p.1+p.2):=by
 unfold ay;rw[List.foldl_append];rfl
theorem W8(xs ys:Sps)(p:(Int×Int)×Int):ay xs (p::ys)=ay (ao xs p.1 (cnt xs p.1+p.2)) ys:=rfl
theorem Um:∀{ys xs:Sps},(xs.map (·.1)).Nodup→((ay xs ys).map (·.1)).Nodup
 | [],_,h=>h
 |_::ys,_,h=>Um (ys:=ys) (Ye h)
theorem Wi:∀(ys xs:Sps),(ay xs ys).length≤xs.length+ys.length
 | [],xs=>xA _
 |p::ys,xs=>by
  have a:=Wi ys (ao xs p.1 (cnt xs p.1+p.2));have b:=W2 xs p.1 (cnt xs p.1+p.2);rw[W8,yn];omega
theorem U6:∀{ys xs:Sps},(xs.map (·.1)).Nodup→ag (ay xs ys)=ag xs+ag ys
 | [],xs,_=>by
  show ag xs=ag xs+0;omega
 |p::ys,xs,h=>by
  rw[W8,U6 (Ye h),Ow h];unfold ag;rw[xD,xY];omega
theorem U7{or:Int}:∀{ys xs:Sps},Pok or xs→(∀p∈ys,1≤p.2∧0≤p.1.1∧p.1.1≤or∧0≤p.1.2∧p.1.2<2^(or-p.1.1).toNat)→Pok or (ay xs ys)
 | [],_,h,_=>h
 |p::ys,xs,h,g=>by
  have gp:=g p (.head _);have:=U4 h p.1;exact U7 (ys:=ys) (rW h gp.2 (by omega)) fun q hq=>g q (.tail _ hq)
theorem Pok.each{or:Int}{ys:Sps}(h:Pok or ys):∀p∈ys,1≤p.2∧0≤p.1.1∧p.1.1≤or∧0≤p.1.2∧p.1.2<2^(or-p.1.1).toNat:=fun p hp=>⟨h.pos p hp,h.kok.st p.1 (xB.mpr ⟨p,hp,rfl⟩)⟩
theorem iB:∀{ys xs:Sps}(k:Int×Int),(ys.map (·.1)).Nodup→ax (ay xs ys) k=if k∈ys.map (·.1)then some (.int (cnt xs k+cnt ys k))else ax xs k
 | [],xs,k,_=>by
  rw[Ak,xz ya];rfl
 |p::ys,xs,k,nd=>by
  rw[xD,x3]at nd;rw[W8,iB k nd.2,xD];have cp:cnt (p::ys) k=if p.1=k then p.2 else cnt ys k:=by
   unfold cnt;rw[X1]
   split <;> rename_i e
   ·split at e <;> rename_i z
    ·rw[xC z];injection e with e;injection e with e;exact e.symm
    ·rw[xz z,e]
   ·split at e <;> rename_i z
    ·exact absurd rfl (e p.2)
    ·rw[xz z]
     split
     ·rename_i n q;exact absurd q (e n)
     ·rfl
  by_cases e:p.1=k
  ·have hk:k∉ys.map (·.1):=by rw[←e];exact nd.1
   rw[xz hk,Xb,xC e.symm,xC (show k∈p.1::ys.map (·.1) by rw[e];exact .head _),cp,xC e,e]
  ·rw[cp,xz e];by_cases hk:k∈ys.map (·.1)
   ·rw[xC hk,xC (yq _ hk),Yx,xz (Ne.symm e)]
   ·rw[xz hk,xz (fun q=>(xQ.mp q).elim (fun z=>e z.symm) hk),Xb,xz (Ne.symm e)]
def aN(Ar or:Int)(xs ys:Sps):Sps:=bU or (ag (ay xs ys) / Ar) (ay xs ys)
structure Lok(Ar or:Int)(xs:Sps):Prop where
 pok:Pok or xs
 srt:aO xs=xs
 nof:Nof or (ag xs / Ar) xs
theorem jK{Ar or:Int}:Lok Ar or []:=⟨kj,by unfold aO;simp,fun _ h=>nomatch h⟩
theorem iF{Ar or:Int}{ps:Sps}(o:Pok or ps):Lok Ar or (bU or (ag ps / Ar) ps):=by
 obtain⟨a,b,c,d,_⟩:=T9 (bar:=ag ps / Ar) o;exact⟨a,b,by rw[d];exact c⟩
theorem Vy{Ar or:Int}{xs ys:Sps}(hx:Pok or xs)(hy:Pok or ys):Lok Ar or (aN Ar or xs ys)∧ag (aN Ar or xs ys)=ag xs+ag ys∧(aN Ar or xs ys).length≤xs.length+ys.length:=by
 have o:=U7 hx hy.each;obtain⟨a,b,c,d,e⟩:=T9 (bar:=ag (ay xs ys) / Ar) o;exact⟨iF o,by unfold aN;rw[d,U6 hx.kok.nd],yi e (Wi ys xs)⟩
def thL(Ar or:Int)(t:Th):Sps:=bU or (t.many / Ar) [((0,t.num),t.many)]
def bY(Ar or:Int)(ts:List Th):Sps:=ts.foldl (fun a t=>aN Ar or a (thL Ar or t)) []
def ThL(or:Int)(t:Th):Prop:=0≤t.num∧t.num<2^or.toNat∧1≤t.many
theorem Sa{or:Int}{t:Th}(d0:0≤or)(h:ThL or t):Pok or [((0,t.num),t.many)]:=by
 refine⟨⟨x3.mpr ⟨ya,yb⟩,fun k hk=>?_⟩,fun p hp=>?_⟩
 ·have e:k=(0,t.num):=xF.mp hk;rw[e];refine⟨x5 _,d0,h.1,?_⟩;show t.num<2^(or-0).toNat;rw[Int.sub_zero];exact h.2.1
 ·rw[xF.mp hp];exact h.2.2
theorem kD(t:Th):ag [((0,t.num),t.many)]=t.many:=by
 show t.many+0=t.many;omega
theorem Qb{Ar or:Int}{t:Th}(d0:0≤or)(h:ThL or t):Lok Ar or (thL Ar or t)∧ag (thL Ar or t)=t.many∧(thL Ar or t).length≤1:=by
 have o:=Sa d0 h;have l:=iF (Ar:=Ar) o;obtain⟨a,b,c,d,e⟩:=T9 (bar:=t.many / Ar) o;rw[kD]at l d;exact⟨l,d,e⟩
theorem mJ(Ar or:Int)(ts:List Th)(t:Th):bY Ar or (ts++[t])=aN Ar or (bY Ar or ts) (thL Ar or t):=by
 unfold bY;rw[List.foldl_append];rfl
def aI(ts:List Th):Int:=(ts.map (·.many)).sum
theorem lg{Ar or:Int}(d0:0≤or):∀(ts:List Th)(a:Sps),Lok Ar or a→(∀t∈ts,ThL or t)→Lok Ar or (ts.foldl (fun a t=>aN Ar or a (thL Ar or t)) a)∧ag (ts.foldl (fun a t=>aN Ar or a (thL Ar or t)) a)=ag a+aI ts∧(ts.foldl (fun a t=>aN Ar or a (thL Ar or t)) a).length≤a.length+ts.length
 | [],a,ha,_=>⟨ha,by show ag a=ag a+0;omega,xA _⟩
 |t::ts,a,ha,h=>by
  have ht:=Qb (Ar:=Ar) d0 (h t (.head _));have m:=Vy (Ar:=Ar) ha.pok ht.1.pok;obtain⟨i1,i2,i3⟩:=lg d0 ts _ m.1 fun x hx=>h x (.tail _ hx);refine⟨i1,?_,?_⟩
  ·rw[zQ,i2,m.2.1,ht.2.1];unfold aI;rw[xD,xY];omega
  ·rw[zQ,yn];have:=m.2.2;have:=ht.2.2;omega
theorem Rw{Ar or:Int}(d0:0≤or){ts:List Th}(h:∀t∈ts,ThL or t):Lok Ar or (bY Ar or ts)∧ag (bY Ar or ts)=aI ts∧(bY Ar or ts).length≤ts.length:=by
 obtain⟨a,b,c⟩:=lg (Ar:=Ar) d0 ts [] jK h;refine⟨a,?_,?_⟩
 ·show ag (ts.foldl _ [])=_;rw[b];show(0:Int)+aI ts=aI ts;omega
 ·show(ts.foldl _ []).length≤_;rw[yQ,Am]at c;exact c
end Ld
namespace K34
open PySem L2 Ld
def aE(k:Int×Int):Int:=k.2*2^k.1.toNat
def aD(k:Int×Int):Int:=(k.2+1)*2^k.1.toNat-1
def f6:Sp:=fun vs H Q _=>∃(p:Addr)(k:Int×Int),vs=[.ref p]∧KAt H p k∧0≤k.1∧k.1≤20∧0≤k.2∧k.2≤1000001∧Q (.int (aE k)) H
def fq:Sp:=fun vs H Q _=>∃(p:Addr)(k:Int×Int),vs=[.ref p]∧KAt H p k∧0≤k.1∧k.1≤20∧0≤k.2∧k.2≤1000000∧∀H',Same H H'→Q (.int (aD k)) H'
def tO:Sp:=fun vs H Q _=>∃(Ar or:Int),vs=[.int Ar,.int or]∧∀(q:Addr)(H':Hp),Same H H'→LadAt H' q Ar or 0 []→Q (.ref q) H'
def ub:Sp:=fun vs H Q _=>∃(r:Addr)(Ar or:Int)(t:Th),vs=[.int Ar,.int or,.ref r]∧H r=some (.tup t.vs)∧ThL or t∧0≤or∧or≤20∧∀(q:Addr)(H':Hp),Same H H'→LadAt H' q Ar or t.many [((0,t.num),t.many)]→Q (.ref q) H'
def wm:Sp:=fun vs H Q _=>∃(c1 c2:Addr)(as bs:List Addr)(xs ys:Sps),vs=[.ref c1,.ref c2]∧H c1=some (.tup (as.map V.ref))∧Paired (FT H) as xs∧H c2=some (.tup (bs.map V.ref))∧Paired (FT H) bs ys∧(xs.map (·.1)).Nodup∧xs.length+ys.length≤500∧∀(d:Addr)(H':Hp),Same H H'→H' d=some (.dT (af (ay xs ys)))→Q (.ref d) H'
def qR:Sp:=fun vs H Q _=>∃(q1 q2:Addr)(Ar or s1 s2:Int)(xs ys:Sps),vs=[.ref q1,.ref q2]∧LadAt H q1 Ar or s1 xs∧LadAt H q2 Ar or s2 ys∧(xs.map (·.1)).Nodup∧xs.length+ys.length<64∧∀(q:Addr)(H':Hp),Same H H'→LadAt H' q Ar or (s1+s2) (aO (ay xs ys))→Q (.ref q) H'
def mZ:Sp:=fun vs H Q _=>∃(q1 q2:Addr)(Ar or:Int)(xs ys:Sps),vs=[.ref q1,.ref q2]∧LadAt H q1 Ar or (ag xs) xs∧LadAt H q2 Ar or (ag ys) ys∧Pok or xs∧Pok or ys∧1≤Ar∧Ar≤20∧or≤20∧xs.length+ys.length<64∧∀(q:Addr)(H':Hp),Same H H'→LadAt H' q Ar or (ag (aN Ar or xs ys)) (aN Ar or xs ys)→Q (.ref q) H'
def vm:Sp:=fun vs H Q _=>∃(v:V)(Ar or:Int)(ts:List Th),vs=[.int Ar,.int or,v]∧DV H v (aR ts)∧(∀t∈ts,ThL or t)∧1≤Ar∧Ar≤20∧0≤or∧or≤20∧ts.length<63∧∀(q:Addr)(H':Hp),Same H H'→LadAt H' q Ar or (ag (bY Ar or ts)) (bY Ar or ts)→Q (.ref q) H'
theorem ua(a b:Int):(PyData.tuple [.int a,.int b]).canLay0=true∧(PyData.tuple [.int a,.int b]).depth≤3:=by
 refine⟨?_,?_⟩
 ·simp[PyData.canLay0,PyData.canLayAll0]
 ·simp[PyData.depth,PyData.depthAll]
variable{P:Program}{w:World}{K:W.Frag}{mg:Str→Option Value}{base:Heap}{f:Addr}{fd:FuncData}
theorem Qr(F:Fun K "first_of" "first_of" cK f fd):FnOk P w K mg base CX0 1 f fd ["stretch"] f6:=by
 refine F.ok Uc (fun vs H Q E h=>?_) (fun cdv A outer s H vs Q E hr h=>?_)
 ·obtain⟨p,k,rfl,_⟩:=h;rfl
 obtain⟨p,k,rfl,e,h0,h1,i0,i1,hq⟩:=h;refine⟨_,(Z3 (Ys (pv 0) (Y6 rfl (Z8 (Z9 (i:=1) Uc.nd rfl (Or.inl rfl)) (Z8 (Z9 (i:=2) Uc.nd rfl (Or.inl rfl)) Zo))))
 (Z7 (Zc (Ze Tf (pv 2) (pv 1))))),?_⟩
 exact⟨_,rfl,p,_,rfl,SqT.of e,rfl,_,_,rfl,_,_,rfl,rfl,_,rfl,_,rfl,_,_,rfl,rfl,⟨by omega,by omega,by omega⟩,hq⟩
theorem Nf(cV:Has P w K mg base "first_of" 1 ["stretch"] f6)(F:Fun K "last_of" "last_of" dq f fd):FnOk P w K mg base CX0 2 f fd ["stretch"] fq:=by
 refine F.ok Tb (fun vs H Q E h=>?_) (fun cdv A outer s H vs Q E hr h=>?_)
 ·obtain⟨p,k,rfl,_⟩:=h;rfl
 obtain⟨p,k,rfl,e,h0,h1,i0,i1,hq⟩:=h;refine⟨_,(Z3 (Ys (pv 0) (Y6 rfl (Z8 (Z9 (i:=1) Tb.nd rfl (Or.inl rfl)) (Z8 (Z9 (i:=2) Tb.nd rfl (Or.inl rfl)) Zo))))
 (Z7 (Zc (Ze Xj (Z4 cV hr (Z0 (Zn (Z0 (pv 1) (Z0 (Ze Zu (pv 2) Z5) Z1))) Z1)) Z5)))),?_⟩
 exact⟨_,rfl,p,_,rfl,SqT.of e,rfl,_,_,rfl,_,_,rfl,rfl,_,rfl,_,rfl,_,_,rfl,rfl,leN rfl,fun q nq=>⟨q,(k.1,k.2+1),rfl,Z2,h0,h1,by show 0≤k.2+1;omega,by show k.2+1≤_;omega,_,_,rfl,rfl,hq _ (Z6 nq _)⟩⟩
theorem sy(F:Fun K "empty_ladder" "empty_ladder" bz f fd):FnOk P w K mg base CX0 1 f fd ["room","deep"] tO:=by
 refine F.ok Rm (fun vs H Q E h=>?_) (fun cdv A outer s H vs Q E hr h=>?_)
 ·obtain⟨Ar,or,rfl,_⟩:=h;rfl
 obtain⟨Ar,or,rfl,hq⟩:=h;refine⟨_,(Z7 (Zc (Zn (Z0 (pv 0) (Z0 (pv 1) (Z0 (Zn Z1) (Z0 Z5 Z1))))))),?_⟩;have gg:Same H H:=Same.refl _;refine⟨_,rfl,_,rfl,leN rfl,?_⟩;intro c n_c;generalize hz:upd _ c _=H1;revert H1;refine blk ?_;intro H1 hz;have gz:=Zp hz n_c;have Az:=Y2 hz;clear hz;have gg:=gg.trans gz;refine⟨leN rfl,?_⟩;intro q n_q;generalize hz:upd _ q _=H2;revert H2;refine blk ?_;intro H2 hz;have gz:=Zp hz n_q;have AC:=Y2 hz;clear hz;have gg:=gg.trans gz;have Az:=gz _ _ Az;exact hq q _ gg ⟨c,[],AC,Az,.nil⟩
theorem sZ(bS:Has P w K mg base "last_of" 2 ["stretch"] fq)(F:Fun K "thing_ladder" "thing_ladder" bB f fd):FnOk P w K mg base CX0 3 f fd ["room","deep","thing"] ub:=by
 refine F.ok X3 (fun vs H Q E h=>?_) (fun cdv A outer s H vs Q E hr h=>?_)
 ·obtain⟨r,Ar,or,t,rfl,_⟩:=h;rfl
 obtain⟨r,Ar,or,t,rfl,e_r,ok,d0,d1,hq⟩:=h;refine⟨_,(Z3 (Ys (pv 2) (Y6 rfl (Z8 (Z9 (i:=3) X3.nd rfl (Or.inl rfl)) (Z8 (Z9 (i:=4) X3.nd rfl (Or.inl rfl)) (Z8 (Z9 (i:=5) X3.nd rfl (Or.inl rfl)) (Z8 (Z9 (i:=6) X3.nd rfl (Or.inl rfl)) Zo))))))
 (Z3 (Y8 (Zi Rf (pv 5) (Z4 bS hr (Z0 (Zn (Z0 (pv 1) (Z0 Z5 Z1))) Z1)) (Zh _)) (Z7 iH) Zr)
 (Z7 (Zc (Zn (Z0 (pv 0) (Z0 (pv 1) (Z0 (Zn (Z0 (Zn (Z0 (Zn (Z0 Z5 (Z0 (pv 5) Z1))) (Z0 (pv 6) Z1))) Z1)) (Z0 (pv 6) Z1))))))))),?_⟩
 have gg:Same H H:=Same.refl _;refine⟨_,rfl,r,_,rfl,SqT.of e_r,rfl,_,_,rfl,_,_,rfl,_,_,rfl,_,_,rfl,rfl,?_⟩;refine⟨_,rfl,_,rfl,leN rfl,?_⟩;intro k n_k;generalize hz:upd _ k _=H1;revert H1;refine blk ?_;intro H1 hz;have gz:=Zp hz n_k;have e_k:=Y2 hz;clear hz;have gg:=gg.trans gz;refine⟨k,(or,0),rfl,e_k,d0,d1,x5 _,by show(0:Int)≤_;omega,fun H2 g2=>⟨_,_,rfl,rfl,_,rfl,?_⟩⟩;have gg:=gg.trans g2;have lt:¬t.num > aD (or,0):=by
  have:=ok.2.1;show ¬(t.num > (0+1)*2^or.toNat-1);rw[zJ,yE];omega
 rw[yh lt];refine Xe ?_;refine⟨_,rfl,_,rfl,_,rfl,leN rfl,?_⟩;intro a n_a;generalize hz:upd _ a _=G1;revert G1;refine blk ?_;intro G1 hz;have gz:=Zp hz n_a;have AB:=Y2 hz;clear hz;have gg:=gg.trans gz;refine⟨_,rfl,leN rfl,?_⟩;intro b n_b;generalize hz:upd _ b _=G2;revert G2;refine blk ?_;intro G2 hz;have gz:=Zp hz n_b;have Aw:=Y2 hz;clear hz;have gg:=gg.trans gz;have AB:=gz _ _ AB;refine⟨leN rfl,?_⟩;intro c n_c;generalize hz:upd _ c _=G3;revert G3;refine blk ?_;intro G3 hz;have gz:=Zp hz n_c;have Az:=Y2 hz;clear hz;have gg:=gg.trans gz;have AB:=gz _ _ AB;have Aw:=gz _ _ Aw;refine⟨_,rfl,leN rfl,?_⟩;intro q n_q;generalize hz:upd _ q _=G4;revert G4;refine blk ?_;intro G4 hz;have gz:=Zp hz n_q;have AC:=Y2 hz;clear hz;have gg:=gg.trans gz;have AB:=gz _ _ AB;have Aw:=gz _ _ Aw;have Az:=gz _ _ Az;exact hq q _ gg ⟨c,[b],AC,Az,.cons ⟨a,Aw,AB⟩ .nil⟩
theorem wJ(aJ:mg "dict"=none)(F:Fun K "added_counts" "added_counts" a6 f fd):FnOk P w K mg base CX0 1 f fd ["one","other"] wm:=by
 refine F.ok Y4 (fun vs H Q E h=>?_) (fun cdv A outer s H vs Q E hr h=>?_)
 ·obtain⟨c1,c2,as,bs,xs,ys,rfl,_⟩:=h;rfl
 obtain⟨c1,c2,as,bs,xs,ys,rfl,e1,p1,e2,p2,nx,xl,hq⟩:=h;refine⟨_,(Z3 (Zy 2 Y4.nd rfl (Or.inl rfl) (Y9 (Xr rfl hr.units) rfl aJ yX (Z0 (pv 0) Z1))) Zb),?_⟩;have nd:((af xs).map (·.1)).Nodup:=by
  rw[Vg];exact yZ.mpr (nx.imp fun h e=>h (Vd e))
 refine⟨_,rfl,c1,_,_,rfl,e1,Tm p1,by rw[Zk];omega,fun d n_d=>?_⟩;rw[Wu nd];have sm:=Z6 n_d (.dT (af xs));have ed:(upd H d (.dT (af xs))) d=some (.dT (af xs)):=Z2;generalize upd H d (.dT (af xs))=H1 at sm ed⊢;have bl:=xL p2;refine⟨_,(Z3 (X7 yc rfl (Ql (pv 1)) (Y6 rfl (Z8 (Z9 (i:=3) Y4.nd rfl (Or.inl rfl)) (Z8 (Z9 (i:=4) Y4.nd rfl (Or.inl rfl)) Zo)))
 (Z7 (W3 (Yg hr) (pv 2) (pv 3) (Ze Zu (X0 (Yg hr) (pv 2) (pv 3) Z5 ⟨rfl,rfl,rfl,rfl⟩) (pv 4)) rfl))) Zb),?_⟩
 refine⟨_,rfl,c2,rfl,⟨_,SqT.of (sm _ _ e2)⟩,?_⟩;refine P7 (xs:=bs.map V.ref) (fun i σ H'=>∃(o3 o4:Option V),σ=[some (.ref c1),some (.ref c2),some (.ref d),o3,o4]∧Same H H'∧H' d=some (.dT (af (ay xs (ys.take i))))∧(ay xs (ys.take i)).length≤xs.length+i) ⟨_,_,rfl,sm,ed,xA _⟩ ?_ ?_ ?_
 ·rintro i σ H' _ ⟨_,_,_,g,_⟩;exact SqT.of (g _ _ e2)
 ·rintro i x σ H' N B1 R hN hR hx ⟨o3,o4,rfl,g,ed,al⟩;obtain⟨a,p,rfl,hp,b,AB,Aw⟩:=Ve p2 hx;have il:i<ys.length:=(xI.mp hp).1;have AB:=g _ _ AB;have Aw:KAt H' b p.1:=g _ _ Aw;have st:ay xs (ys.take (i+1))=ao (ay xs (ys.take i)) p.1 (cnt (ay xs (ys.take i)) p.1+p.2):=by rw[Zv hp,Sq]
  rw[st]at hN;generalize ay xs (ys.take i)=zs at ed al hN;have l1:=W2 zs p.1 (cnt zs p.1+p.2);refine⟨a,_,rfl,SqT.of AB,rfl,_,_,rfl,_,_,rfl,rfl,?_⟩;refine⟨_,rfl,d,rfl,.inr ⟨_,.inl ed⟩,_,rfl,_,Y7 ed Aw,_,rfl,_,p.2,Yr _ _,rfl,_,rfl,_,rfl,d,_,rfl,DPut.t (k:=kk p.1) ed Aw (Zj (by rw[Zk];omega)),?_⟩;refine hN _ _ ⟨_,_,rfl,fun x w e=>?_,by rw[←Wt];exact Z2,by omega⟩;rw[Za (Zd e n_d)];exact g _ _ e
 ·rintro σ H' ⟨o3,o4,rfl,g,ed,_⟩;rw[az,bl,xX]at ed;exact⟨_,(Z7 (Zc (pv 2))),_,rfl,hq d _ g ed⟩
theorem vX(a8:mg "sorted"=none)(bw:mg "tuple"=none)(aP:Has P w K mg base "added_counts" 1 ["one","other"] wm)(F:Fun K "added_ladder" "added_ladder" bC f fd):FnOk P w K mg base CX0 2 f fd ["one","other"] qR:=by
 refine F.ok Yl (fun vs H Q E h=>?_) (fun cdv A outer s H vs Q E hr h=>?_)
 ·obtain⟨q1,q2,Ar,or,s1,s2,xs,ys,rfl,_⟩:=h;rfl
 obtain⟨q1,q2,Ar,or,s1,s2,xs,ys,rfl,l1,l2,nx,xl,hq⟩:=h;obtain⟨c1,as,e1,f1,p1⟩:=l1.at_;obtain⟨c2,bs,e2,f2,p2⟩:=l2.at_;refine⟨_,(Z3 (Y8 (Zi (Nb hr.units) (gE jQ (pv 0) lj (Rt Z5)) (gE jQ (pv 1) lj (Rt Z5)) (Zh _)) (Z7 iH) Zr) Zb),?_⟩;refine⟨_,rfl,_,rfl,q1,_,rfl,e1,fun u1 H1 g1 d1=>⟨_,rfl,_,rfl,q2,_,rfl,g1 _ _ e2,fun u2 H2 g2 d2=>?_⟩⟩;have ll:=ua Ar or;have x1:DV H2 (.ref u1) (.tuple [.int Ar,.int or]):=.tup (g2 _ _ d1) (.cons (.int _) (.cons (.int _) .nil));have x2:DV H2 (.ref u2) (.tuple [.int Ar,.int or]):=.tup d2 (.cons (.int _) (.cons (.int _) .nil));refine⟨_,_,x1,x2,X5 ll (by decide),X5 ll (by decide),_,rfl,?_⟩;rw[Pd ll];have gg:=g1.trans g2;refine Xe ⟨_,(Z3 (Ys (pv 0) (Y6 rfl (Z8 (Z9 (i:=2) Yl.nd rfl (Or.inl rfl)) (Z8 (Z9 (i:=3) Yl.nd rfl (Or.inl rfl)) (Z8 (Z9 (i:=4) Yl.nd rfl (Or.inl rfl)) (Z8 (Z9 (i:=5) Yl.nd rfl (Or.inl rfl)) Zo)))))) Zb),?_⟩;refine⟨_,rfl,q1,_,rfl,SqT.of (gg _ _ e1),rfl,_,_,rfl,_,_,rfl,_,_,rfl,_,_,rfl,rfl,?_⟩;refine⟨_,(Z3 (Zy 6 Yl.nd rfl (Or.inl rfl) (Z4 aP hr (Z0 (pv 4) (Z0 (Xa Xc (pv 1) Z5) Z1)))) Zb),?_⟩;refine⟨_,rfl,_,rfl,q2,_,2,_,rfl,rfl,SqT.of (gg _ _ e2),rfl,c1,c2,as,bs,xs,ys,rfl,gg _ _ f1,Paired.mapP p1 fun _ _ f=>Zs gg f,gg _ _ f2,Paired.mapP p2 fun _ _ f=>Zs gg f,nx,by omega,fun d H3 g3 ed=>?_⟩;have gg:=gg.trans g3;have al:=Wi ys xs;refine⟨_,(Z7 (Zc (Zn (Z0 (pv 2) (Z0 (pv 3) (Z0 (Y9 T5 rfl bw PyProof.Rows.boot_tuple (Z0 (Y1 (Rk rfl hr.units) rfl a8 PyProof.Rows.boot_sorted (Z0 (Vx yI zF zY Ut (pv 6)) Z1)) Z1)) (Z0 (Ze Zu (pv 5) (Xa Xc (pv 1) Z5)) Z1))))))),?_⟩;refine⟨_,rfl,_,rfl,_,rfl,T6 ed,d,_,rfl,rfl,ed,?_⟩;intro v n_v;generalize hz:upd _ v _=H4;revert H4;refine blk ?_;intro H4 hz;have gz:=Zp hz n_v;have e_v:=Y2 hz;clear hz;have gg:=gg.trans gz;have ed:=gz _ _ ed;refine⟨v,d,_,rfl,e_v,ed,by omega,fun H6 ds g6 pr6 l nl _=>?_⟩;have gz:=Z6 nl (.lst (ds.map V.ref));have AA:(upd H6 l (.lst (ds.map V.ref))) l=some (.lst (ds.map V.ref)):=Z2;have gg:=gg.trans (g6.trans gz);have pr6:=Paired.mapP pr6 fun _ _ f=>Zs gz f;generalize upd H6 l (.lst (ds.map V.ref))=H7 at AA gg pr6⊢;refine⟨l,_,rfl,.inl ⟨SqL.of AA,?_⟩⟩;intro c n_c;generalize hz:upd _ c _=H8;revert H8;refine blk ?_;intro H8 hz;have gz:=Zp hz n_c;have Az:=Y2 hz;clear hz;have gg:=gg.trans gz;have pr6:=Paired.mapP pr6 fun _ _ f=>Zs gz f;refine⟨_,rfl,_,rfl,q2,_,3,_,rfl,rfl,SqT.of (gg _ _ e2),rfl,_,_,rfl,rfl,leN rfl,?_⟩;intro q n_q;generalize hz:upd _ q _=H9;revert H9;refine blk ?_;intro H9 hz;have gz:=Zp hz n_q;have AC:=Y2 hz;clear hz;have gg:=gg.trans gz;have Az:=gz _ _ Az;exact hq q _ gg ⟨c,ds,AC,Az,Paired.mapP pr6 fun _ _ f=>Zs gz f⟩
theorem xm(bx:Has P w K mg base "added_ladder" 2 ["one","other"] qR)(dA:Has P w K mg base "settled" 5 ["ladder"] jO)(F:Fun K "merged_ladder" "merged_ladder" aZ f fd):FnOk P w K mg base CX0 6 f fd ["one","other"] mZ:=by
 refine F.ok Sv (fun vs H Q E h=>?_) (fun cdv A outer s H vs Q E hr h=>?_)
 ·obtain⟨q1,q2,Ar,or,xs,ys,rfl,_⟩:=h;rfl
 obtain⟨q1,q2,Ar,or,xs,ys,rfl,l1,l2,ox,oy,r0,r1,d1,xl,hq⟩:=h;refine⟨_,(Z7 (Zc (Z4 dA hr (Z0 (Z4 bx hr (Z0 (pv 0) (Z0 (pv 1) Z1))) Z1)))),?_⟩;have al:=Wi ys xs;have po:=U7 ox oy.each;have pm:=Y0 (ay xs ys);refine⟨_,rfl,_,rfl,q1,q2,Ar,or,_,_,xs,ys,rfl,l1,l2,ox.kok.nd,xl,fun q H1 g1 lad=>?_⟩;refine⟨q,Ar,or,_,_,rfl,lad,r0,r1,d1,po.kok.perm (pm.map _),by rw[pm.length_eq];omega,fun r H2 fs Au g2 lad2 st _ _=>hq r _ (g1.trans g2) ?_⟩;have es:ag xs+ag ys=ag (ay xs ys):=(U6 ox.kok.nd).symm;rw[es]at st lad2;have e:=(kT st pm (po.perm pm).kok.nd).1;have e2:aN Ar or xs ys=aO Au:=e;have e3:ag (aO Au)=ag (ay xs ys):=by
  rw[Vi (Y0 Au),(jE st (po.perm pm).kok.nd).2.2,Vi pm]
 rw[e2,e3];exact lad2
theorem wX(bA:Has P w K mg base "empty_ladder" 1 ["room","deep"] tO)(dH:Has P w K mg base "merged_ladder" 6 ["one","other"] mZ)(dA:Has P w K mg base "settled" 5 ["ladder"] jO)(bF:Has P w K mg base "thing_ladder" 3 ["room","deep","thing"] ub)(F:Fun K "ladder_of" "ladder_of" ce f fd):FnOk P w K mg base CX0 7 f fd ["room","deep","stream"] vm:=by
 refine F.ok Wd (fun vs H Q E h=>?_) (fun cdv A outer s H vs Q E hr h=>?_)
 ·obtain⟨v,Ar,or,ts,rfl,_⟩:=h;rfl
 obtain⟨v,Ar,or,ts,rfl,dv,tw,r0,r1,d0,d1,tl,hq⟩:=h;obtain⟨b,xs,rfl,eb,qb⟩:=DV.list_inv dv;have xl:=qb.length;rw[az]at xl;refine⟨_,(Z3 (Zy 3 Wd.nd rfl (Or.inl rfl) (Z4 bA hr (Z0 (pv 0) (Z0 (pv 1) Z1)))) Zb),?_⟩;refine⟨_,rfl,_,rfl,Ar,or,rfl,fun p0 H0 s0 l0=>?_⟩;refine⟨_,(Z3 (X7 yc rfl (Yv (pv 2)) (Z9 (i:=4) Wd.nd rfl (Or.inl rfl))
 (Z7 (Zy 3 Wd.nd rfl (Or.inl rfl) (Z4 dH hr (Z0 (pv 3) (Z0 (Z4 dA hr (Z0 (Z4 bF hr (Z0 (pv 0) (Z0 (pv 1) (Z0 (pv 4) Z1)))) Z1)) Z1)))))) Zb),?_⟩
 refine⟨_,rfl,b,rfl,⟨_,SqL.of (s0 _ _ eb)⟩,?_⟩;refine Xq (xs:=xs) (fun n σ H'=>∃(o4:Option V)(p:Addr),σ=[some (.int Ar),some (.int or),some (.ref b),some (.ref p),o4]∧Same H H'∧LadAt H' p Ar or (ag (bY Ar or (ts.take n))) (bY Ar or (ts.take n))) ⟨_,p0,rfl,s0,l0⟩ ?_ ?_ ?_
 ·rintro n σ H' _ ⟨_,_,_,g,_⟩;exact SqL.of (g _ _ eb)
 ·rintro n x σ H' N B1 R hN hR hx ⟨o4,p,rfl,g,dp⟩;obtain⟨t,c,ht,rfl,ec,hm⟩:=DVs.th_at qb hx;have nl:n<ts.length:=(xI.mp ht).1;have twn:∀u∈ts.take n,ThL or u:=fun u hu=>tw u (zS hu);obtain⟨oka,_,len⟩:=Rw (Ar:=Ar) d0 twn;rw[xW]at len;have e:bY Ar or (ts.take (n+1))=aN Ar or (bY Ar or (ts.take n)) (thL Ar or t):=by rw[Zv ht,mJ]
  rw[e]at hN;generalize bY Ar or (ts.take n)=la at dp oka len hN;have ot:=Sa d0 (tw t hm);obtain⟨okt,sut,lent⟩:=Qb (Ar:=Ar) d0 (tw t hm);refine⟨_,rfl,_,rfl,_,rfl,_,rfl,c,Ar,or,t,rfl,g _ _ ec,tw t hm,d0,d1,fun q1 H1 s1 l1=>?_⟩;refine⟨q1,Ar,or,t.many,_,rfl,l1,r0,r1,d1,ot.kok,by show 1<64;omega,fun r H2 fs Au s2 l2 st _ _=>?_⟩;have e2:thL Ar or t=aO Au:=(W1 st ot.kok.nd).1;rw[←e2]at l2;rw[←sut]at l2;refine⟨p,r,Ar,or,la,thL Ar or t,rfl,dp.mono (s1.trans s2),l2,oka.pok,okt.pok,r0,r1,d1,by omega,fun q H3 s3 l3=>?_⟩;exact hN _ _ ⟨_,q,rfl,g.trans (s1.trans (s2.trans s3)),l3⟩
 ·rintro σ H' ⟨o4,p,rfl,g,dp⟩;rw[xl,xX]at dp;exact⟨_,(Z7 (Zc (pv 3))),_,rfl,hq p _ g dp⟩
def aw:Tr→List (Option (List Th))
 |.leaf ts=>[some ts]
 |.node l r=>aw l++aw r++[none]
def eB:Option Tr→List (Option (List Th))
 |none=>[none]
 |some t=>aw t
theorem Wj:∀t:Tr,(aw t).length=t.size
 |.leaf ts=>rfl
 |.node l r=>by
  show(aw l++aw r++[none]).length=l.size+r.size+1;rw[xE,xE,Wj l,Wj r];rfl
def wtO:Option Tr→Nat
 |none=>1
 |some t=>2*t.size
abbrev wsz(tk:List (Option Tr)):Nat:=(tk.map wtO).sum
theorem Op:∀tk:List (Option Tr),tk.length≤wsz tk
 | []=>xA _
 |none::r=>by
  have:=Op r;simp only[wsz,List.map_cons,List.sum_cons,List.length_cons,wtO]at *;omega
 |some t::r=>by
  have:=Op r;have:=t.size_pos;simp only[wsz,List.map_cons,List.sum_cons,List.length_cons,wtO]at *;omega
def WV(H:Hp)(v:V):Option Tr→Prop
 |none=>v=.non
 |some t=>DV H v t.D
def SV(H:Hp)(v:V):Option (List Th)→Prop
 |none=>v=.non
 |some ts=>DV H v (aR ts)
theorem Qk{α:Type}{R:Hp→V→α→Prop}(hm:∀{H H':Hp},Same H H'→∀{v x},R H v x→R H' v x){H H':Hp}(g:Same H H'):∀{vs:List V}{xs:List α},Paired (R H) vs xs→Paired (R H') vs xs
 |_,_,.nil=>.nil
 |_,_,.cons h r=>.cons (hm g h) (Qk hm g r)
theorem W4{α β:Type}{R:α→β→Prop}:∀{xs us:List α}{ys ws:List β},Paired R xs ys→Paired R us ws→Paired R (xs++us) (ys++ws)
 |_,_,_,_,.nil,h=>h
 |_,_,_,_,.cons a r,h=>.cons a (W4 r h)
theorem S5{α β:Type}{R:α→β→Prop}:∀{ys:List β}{xs:List α}{y:β},Paired R xs (ys++[y])→∃xs' x,xs=xs'++[x]∧Paired R xs' ys∧R x y
 | [],_,_,.cons a .nil=>⟨[],_,rfl,.nil,a⟩
 |_::_,_,_,.cons a r=>by
  obtain⟨xs',x,e,r',h⟩:=S5 r;exact⟨_::xs',x,by rw[e];rfl,.cons a r',h⟩
theorem Vw{α β:Type}{R:α→β→Prop}:∀{xs:List α}{ys:List β},Paired R xs ys→xs.length=ys.length
 |_,_,.nil=>rfl
 |_,_,.cons _ r=>yP (·+1) (Vw r)
theorem N9{α β:Type}{R:α→β→Prop}:∀{xs:List α}{ys:List β}{i:Nat}{x:α},Paired R xs ys→xs[i]?=some x→∃y,ys[i]?=some y∧R x y
 |_,_,_,_,.nil,e=>by simp at e
 |_,_,0,_,.cons a _,e=>by simp at e;subst e;exact⟨_,rfl,a⟩
 |_,_,i+1,x,.cons _ r,e=>by
  obtain⟨y,h1,h2⟩:=N9 (i:=i) r (by simpa using e);exact⟨y,by simpa using h1,h2⟩
def dU:Sp:=fun vs H Q _=>∃(v:V)(t:Tr)(G:Hp),vs=[v]∧Same G H∧DV G v t.D∧t.size≤1000∧
 ∀(r:Addr)(ls:List V)(H':Hp),Same H H'→H r=none→H' r=some (.lst ls)→Paired (SV G) ls (aw t)→Q (.ref r) H'
theorem og(am:mg "isinstance"=none)(a9:mg "list"=none)(bI:mg "len"=none)(F:Fun K "steps_in" "steps_in" cN f fd):FnOk P w K mg base CX0 1 f fd ["tree"] dU:=by
 refine F.ok Wy (fun vs H Q E h=>?_) (fun cdv A outer s H vs Q E hr h=>?_)
 ·obtain⟨v,t,G,rfl,_⟩:=h;rfl
 obtain⟨v,t,G,rfl,gG,dv,hsz,hq⟩:=h;refine⟨_,(Z3 (Zy 1 Wy.nd rfl (Or.inl rfl) (Yk Z1))
 (Z3 (Zy 2 Wy.nd rfl (Or.inl rfl) (Yk (Z0 (pv 0) Z1)))
 (Z3 (gA yc (Zi Rf (Y1 Xd rfl bI Ah (Z0 (pv 2) Z1)) Z5 (Zh _)) (Z3 (Zy 3 Wy.nd rfl (Or.inl rfl) (Vx yg Ac Ad Nh (pv 2)))
 (Z7 (Y8 (PW.pt (Wz (Zi Qq (pv 3) Xz (Zh _)) (V8 (Wb (Y1 V4 rfl am yw (Z0 (pv 3) (Z0 (V1 (v:=.ty "list") rfl a9 ze rfl) Z1))))))) (Z7 (Xh (Uf yg zz zA Vn (pv 1) (Z0 (pv 3) Z1)))) (Z7 (Xh (Uf yg PySem.F.slot_list_extend PySem.F.type_list_extend R8 (pv 2) (Z0 (Yk (Z0 Xz (Z0 (Xa Xc (pv 3) Z5) (Z0 (Xa Xc (pv 3) Z5) Z1)))) Z1))))))))
 (Z7 (Zc (pv 1)))))),?_⟩
 refine⟨leN rfl,fun Fa hFa=>?_⟩;refine⟨_,rfl,leN rfl,fun Wa hWa=>?_⟩;have hne:Wa≠Fa:=fun e=>by rw[e,Z2]at hWa;cases hWa
 have hWa0:H Wa=none:=by rw[Za hne]at hWa;exact hWa
 refine⟨fun m σ H1=>∃(ws ls:List V)(tk:List (Option Tr))(dn:List (Option (List Th)))(o:Option V),σ=[some v,some (.ref Fa),some (.ref Wa),o]∧Same H H1∧H1 Wa=some (.lst ws)∧H1 Fa=some (.lst ls)∧
   Paired (WV G) ws tk∧Paired (SV G) ls dn∧dn++tk.reverse.flatMap eB=aw t∧wsz tk+dn.length≤3000∧m=wsz tk,
  ⟨2*t.size,[v],[],[some t],[],none,rfl,(Z6 hFa _).trans (Z6 hWa _),Z2,by rw[Za (Ne.symm hne)];exact Z2,.cons dv .nil,.nil,by simp[eB],by simp[wsz,wtO];omega,by simp[wsz,wtO]⟩,?_⟩
 rintro m σ H1 ⟨ws,ls,tk,dn,o,rfl,g1,eW,eF,dW,dF,hsum,AG,rfl⟩;have dl:=Vw dW;refine⟨_,rfl,Wa,ws,rfl,.inl (SqL.of eW),_,_,rfl,rfl,_,rfl,?_⟩;refine Xf (fun c=>?_) (fun c=>?_)
 ·have c:(0:Int)<(ws.length:Int):=xH c;obtain⟨tk',t1,rfl⟩:∃tk' t1,tk=tk'++[t1]:=by
   have:tk≠[]:=fun e=>by rw[e,yQ]at dl;omega
   exact⟨tk.dropLast,tk.getLast this,(List.dropLast_concat_getLast this).symm⟩
  refine⟨fun σ' H'=>∃m',m'<wsz (tk'++[t1])∧_,fun _ _ h=>h,?_⟩;obtain⟨ws',y,rfl,dW',dy⟩:=S5 dW;refine⟨_,rfl,.inl ⟨rfl,_,SqL.of eW⟩,Wa,_,y,rfl,rfl,eW,by simp,?_⟩;rw[List.dropLast_concat];have g4:Same H (upd H1 Wa (.lst ws')):=X8 g1 hWa0;have eW4:upd H1 Wa (.lst ws') Wa=some (.lst ws'):=Z2;have eF4:upd H1 Wa (.lst ws') Fa=some (.lst ls):=by rw[Za (Ne.symm hne)];exact eF
  revert g4 eW4 eF4;generalize upd H1 Wa (.lst ws')=H4;intro g4 eW4 eF4;have hts:wsz (tk'++[t1])=wsz tk'+wtO t1:=by simp[wsz]
  rw[hts]at AG;have tl:=Op tk';have dl:=Vw dW';have dl2:=Vw dF;cases t1 with
  |none=>
   cases (show y=V.non from dy);have hlen2:wsz tk'+1+dn.length≤3000:=AG;refine⟨_,rfl,rfl,_,rfl,U1 (U1 ?_)⟩;refine⟨_,rfl,.inl ⟨rfl,_,SqL.of eF4⟩,_,rfl,Fa,ls,_,rfl,rfl,eF4,Zj (by omega),?_⟩;refine⟨wsz tk',by rw[hts];show wsz tk'<wsz tk'+1;omega,ws',ls++[.non],tk',dn++[none],_,rfl,X8 g4 hFa,by rw[Za hne];exact eW4,Z2,dW',W4 dF (.cons (show SV G .non none from rfl) .nil),?_,by rw[xE];show wsz tk'+(dn.length+1)≤3000;omega,rfl⟩;rw[←hsum];simp[eB]
  |some t1=>
  have hpos:=t1.size_pos;have dy:DV G y t1.D:=dy;cases t1 with
  |leaf ts=>
   obtain⟨b,xs,rfl,eb,qb⟩:=DV.list_inv dy;have hlen2:wsz tk'+2*1+dn.length≤3000:=AG;refine⟨_,rfl,rfl,_,rfl,Xe ?_⟩;refine⟨_,rfl,_,_,"list",_,rfl,TyOf.lst (g4 _ _ (gG _ _ eb)),iR,_,rfl,U1 ?_⟩;refine⟨_,rfl,.inl ⟨rfl,_,SqL.of eF4⟩,_,rfl,Fa,ls,_,rfl,rfl,eF4,Zj (by omega),?_⟩;refine⟨wsz tk',by rw[hts];show wsz tk'<wsz tk'+2*1;omega,ws',ls++[.ref b],tk',dn++[some ts],_,rfl,X8 g4 hFa,by rw[Za hne];exact eW4,Z2,dW',W4 dF (.cons (show SV G (.ref b) (some ts)from dy) .nil),?_,by rw[xE];show wsz tk'+(dn.length+1)≤3000;omega,rfl⟩;rw[←hsum];simp[eB,aw]
  |node l r=>
   obtain⟨b,mm,x,y,rfl,eb,dx,dy2⟩:=DV.node_inv dy;have eb4:=g4 _ _ (gG _ _ eb);have hlen2:wsz tk'+2*(l.size+r.size+1)+dn.length≤3000:=AG;refine⟨_,rfl,rfl,_,rfl,Xe ?_⟩;refine⟨_,rfl,_,_,"list",_,rfl,TyOf.tup eb4,ue,_,rfl,Xe ?_⟩;refine⟨_,rfl,.inl ⟨rfl,_,SqL.of eW4⟩,_,rfl,b,_,2,_,rfl,rfl,SqT.of eb4,j8 _ _ _,_,rfl,b,_,1,_,rfl,rfl,SqT.of eb4,sC _ _ _,leN rfl,fun q nq=>?_⟩;have g5:=g4.trans (Z6 nq (.lst [.non,y,x]));have eW5:upd H4 q (.lst [.non,y,x]) Wa=some (.lst ws'):=by rw[Za (Zd eW4 nq)];exact eW4
   have eF5:upd H4 q (.lst [.non,y,x]) Fa=some (.lst ls):=by rw[Za (Zd eF4 nq)];exact eF4
   have eq5:upd H4 q (.lst [.non,y,x]) q=some (.lst [.non,y,x]):=Z2;refine⟨Wa,q,ws',[.non,y,x],rfl,rfl,eW5,eq5,Zl (by show ws'.length+3≤_;omega),?_⟩;have nw:wsz (tk'++[none,some r,some l])=wsz tk'+(1+2*r.size+2*l.size):=by simp[wsz,wtO];omega
   refine⟨wsz (tk'++[none,some r,some l]),?_,ws'++[.non,y,x],ls,tk'++[none,some r,some l],dn,_,rfl,X8 g5 hWa0,Z2,by rw[Za (Ne.symm hne)];exact eF5,?_,dF,?_,?_,rfl⟩
   ·rw[hts,nw];show _<wsz tk'+2*(l.size+r.size+1);omega
   ·exact W4 dW' (.cons (show WV G .non none from rfl) (.cons (show WV G y (some r)from dy2) (.cons (show WV G x (some l)from dx) .nil)))
   ·rw[←hsum];simp[eB,aw]
   ·rw[nw];omega
 ·have c:¬((0:Int)<(ws.length:Int)):=yF (yy.mpr c);have e:tk=[]:=List.eq_nil_of_length_eq_zero (by omega);subst e;refine⟨_,rfl,?_⟩;have e:dn=aw t:=by simpa using hsum
  subst e;exact hq Fa ls _ g1 hFa eF dF
section
variable{α:Type}
def evT(fs:List Th→α)(fm:α→α→α):Tr→α
 |.leaf ts=>fs ts
 |.node l r=>fm (evT fs fm l) (evT fs fm r)
def lv(fs:List Th→α)(fm:α→α→α):List (Option (List Th))→List α→Option (List α)
 | [],st=>some st
 |some ts::r,st=>lv fs fm r (fs ts::st)
 |none::r,y::x::st=>lv fs fm r (fm x y::st)
 |none::_,_=>none
theorem R9(fs:List Th→α)(fm:α→α→α):∀(t:Tr)(r:List (Option (List Th)))(st:List α),lv fs fm (aw t++r) st=lv fs fm r (evT fs fm t::st)
 |.leaf ts,r,st=>rfl
 |.node a b,r,st=>by
  show lv fs fm (aw a++aw b++[none]++r) st=_;rw[yL,yL,R9 fs fm a,R9 fs fm b];rfl
def wgt(ss:List (Option (List Th))):Nat:=(ss.map fun o=>match o with
 |some ts=>ts.length
 |none=>0).sum
theorem pU(o:Option (List Th))(ss:List (Option (List Th))):wgt (o::ss)=(match o with
 |some ts=>ts.length
 |none=>0)+wgt ss:=by
 unfold wgt;rw[xD,xY]
theorem Tq:∀t:Tr,wgt (aw t)=t.all.length
 |.leaf ts=>by show ts.length+0=ts.length;omega
 |.node a b=>by
  have h:∀xs ys,wgt (xs++ys)=wgt xs+wgt ys:=fun xs ys=>by unfold wgt;rw[xN,zk]
  show wgt (aw a++aw b++[none])=(a.all++b.all).length;rw[h,h,Tq a,Tq b,xE];rfl
def isFs(P:Program)(w:World)(K:W.Frag)(mg:Str→Option Value)(base:Heap)(k:Nat)(Rep:Hp→V→α→Prop)(fs:List Th→α)(Hh:Hp)(f:Addr)(OkS:List Th→Prop):Prop:=∃(fd:FuncData)(ps:List Str)(sp:Sp),FnOk P w K mg base CX0 k f fd ps sp∧Binds K fd ps []∧Cal base f∧
 ∀(H:Hp)(v:V)(ts:List Th)(Q:VK)(a:Addr)(ys:List V),Same Hh H→H a=some (.lst ys)→DV H v (aR ts)→OkS ts→(∀(p:V)(H':Hp),Same H H'→Rep (au a H') p (fs ts)→Q p H')→sp [v] H Q E0
def isFm(P:Program)(w:World)(K:W.Frag)(mg:Str→Option Value)(base:Heap)(k:Nat)(Rep:Hp→V→α→Prop)(fm:α→α→α)(Hh:Hp)(f:Addr)(I:α→Prop)(wt:α→Nat)(NN:Nat):Prop:=∃(fd:FuncData)(ps:List Str)(sp:Sp),FnOk P w K mg base CX0 k f fd ps sp∧Binds K fd ps []∧Cal base f∧
 ∀(H:Hp)(u v:V)(x y:α)(Q:VK)(a:Addr)(ys:List V),Same Hh H→H a=some (.lst ys)→Rep (au a H) u x→Rep (au a H) v y→I x→I y→wt x+wt y≤NN→(∀(p:V)(H':Hp),Same H H'→Rep (au a H') p (fm x y)→Q p H')→sp [u,v] H Q E0
def dS(P:Program)(w:World)(K:W.Frag)(mg:Str→Option Value)(k:Nat)(base:Heap):Sp:=fun vs H Q _=>∃(α:Type)(Rep:Hp→V→α→Prop)(fs:List Th→α)(fm:α→α→α)(I:α→Prop)(wt:α→Nat)(NN:Nat)(OkS:List Th→Prop)(v:V)(f1 f2:Addr)(t:Tr),
 vs=[v,.ref f1,.ref f2]∧DV H v t.D∧t.size≤1000∧(∀s∈t.streams,OkS s)∧isFs P w K mg base k Rep fs H f1 OkS∧isFm P w K mg base k Rep fm H f2 I wt NN∧(∀ts,OkS ts→I (fs ts)∧wt (fs ts)=ts.length)∧(∀x y,I x→I y→wt x+wt y≤NN→I (fm x y)∧wt (fm x y)=wt x+wt y)∧wgt (aw t)≤NN∧
 (∀{H H':Hp},Same H H'→∀{v x},Rep H v x→Rep H' v x)∧∀(p:V)(H':Hp),Same H H'→Rep H' p (evT fs fm t)→Q p H'
end
theorem V6:∀(t:Tr)(ts:List Th),some ts∈aw t→ts∈t.streams
 |.leaf s,ts,h=>by
  have:=xF.mp h;cases this;exact .head _
 |.node a b,ts,h=>by
  show ts∈a.streams++b.streams
  rcases xR.mp (show some ts∈aw a++aw b++[none]from h)with h | h
  ·rcases xR.mp h with h | h
   ·exact yC _ (V6 a ts h)
   ·exact xP _ (V6 b ts h)
  ·exact nomatch xF.mp h
theorem Tn{p:Addr}{H0 H1 H2:Hp}(n:H0 p=none)(s:Same H0 H1)(g:Grw p H1 H2):Same H0 H2:=fun b u e=>(Zf (g b u (by rw[Zg (Zd e n)];exact s b u e))).2
theorem qE{a:Addr}{H:Hp}{o:HO}:Same (au a H) (upd H a o):=fun b u q=>by
 obtain⟨h1,h2⟩:=Zf q;rw[Za h1];exact h2
theorem nh{k:Nat}(hk:1≤k)(cU:Has P w K mg base "steps_in" 1 ["tree"] dU)(F:Fun K "grown" "grown" f8 f fd):FnOk P w K mg base CX0 (k+1) f fd ["tree","of_stream","of_two"] (dS P w K mg k base):=by
 refine F.ok Ub (fun vs H Q E h=>?_) (fun cdv A outer s H vs Q E hr h=>?_)
 ·obtain⟨_,_,_,_,_,_,_,_,v,f1,f2,t,rfl,_⟩:=h;rfl
 obtain⟨α,Rep,fs,fm,I,wt,NN,OkS,v,f1,f2,t,rfl,dv,hsz,hok,⟨fd1,ps1,sp1,F1,B1,C1,u1⟩,⟨fd2,ps2,sp2,F2,B2,C2,u2⟩,I1,I2,wN,mono,hq⟩:=h;refine⟨_,(Z3 (Zy 3 Ub.nd rfl (Or.inl rfl) (Yk Z1))
 (Z3 (X7 yc rfl (Yv (Z4 cU hr (Z0 (pv 0) Z1))) (Z9 (i:=4) Ub.nd rfl (Or.inl rfl))
 (Z7 (Y8 (Zi Qq (pv 4) Xz (Zh _)) (Z3 (Zy 5 Ub.nd rfl (Or.inl rfl) (Vx yg Ac Ad Nh (pv 3)))
 (Z3 (Zy 6 Ub.nd rfl (Or.inl rfl) (Vx yg Ac Ad Nh (pv 3)))
 (Z7 (Xh (Uf yg zz zA Vn (pv 3) (Z0 (iE (i:=2) hr (Z0 (pv 6) (Z0 (pv 5) Z1))) Z1)))))) (Z7 (Xh (Uf yg zz zA Vn (pv 3) (Z0 (iE (i:=1) hr (Z0 (pv 4) Z1)) Z1)))))))
 (Z7 (Zc (Vx yg Ac Ad Nh (pv 3)))))),?_⟩
 refine⟨leN rfl,fun kp nkp=>?_⟩;refine⟨_,rfl,v,t,H,rfl,Z6 nkp _,dv,hsz,fun r ls H2 s2 nr er pr=>?_⟩;have ekp:H2 kp=some (.lst []):=s2 _ _ Z2;have sH:Same H H2:=(Z6 nkp _).trans s2;have krne:r≠kp:=fun z=>by rw[z,Z2]at nr;cases nr
 have lsl:=Vw pr;rw[Wj]at lsl;refine⟨r,rfl,⟨_,SqL.of er⟩,?_⟩;refine P8 (xs:=ls) (fun i σ H'=>∃(o4 o5 o6:Option V)(vs:List V)(st:List α),σ=[some v,some (.ref f1),some (.ref f2),some (.ref kp),o4,o5,o6]∧Grw kp H2 H'∧H' kp=some (.lst vs)∧Paired (Rep (au kp H')) vs st.reverse∧(∀x∈st,I x)∧(st.map wt).sum+wgt ((aw t).drop i)≤NN∧st.length≤i∧lv fs fm ((aw t).drop i) st=some [evT fs fm t])
  ⟨_,_,_,[],[],rfl,Same.refl _,ekp,.nil,(fun _ h=>nomatch h),by show 0+wgt (aw t)≤NN;omega,xA _,?_⟩ ?_ ?_ ?_
 ·have:=R9 fs fm t [] [];rw[yB]at this;exact this
 ·rintro i σ H' _ ⟨_,_,_,_,_,_,g,_⟩;exact SqL.of (Zf (g _ _ (by rw[Zg krne];exact er))).2
 ·rintro i x σ H' hx ⟨o4,o5,o6,vs,st,rfl,g,ek,pst,ist,wst,stl,hm⟩;obtain⟨o,ho,sv⟩:=N9 pr hx;have hd:(aw t).drop i=o::(aw t).drop (i+1):=by
   have Ay:=(xI.mp ho).1;rw[List.drop_eq_getElem_cons Ay]
   congr 1
   exact(xI.mp ho).2
  rw[hd]at hm wst;rw[pU]at wst;have ilt:i<ls.length:=(xI.mp hx).1;have vl:=Vw pst;rw[List.length_reverse]at vl;cases o with
  |none=>
   cases (show x=V.non from sv);refine⟨_,rfl,rfl,_,rfl,U1 ?_⟩
   match st,hm,ist,wst,stl,pst,vl with
   |y::x::AF,hm,ist,wst,stl,pst,vl=>
   have wst:wt y+(wt x+(AF.map wt).sum)+(0+wgt ((aw t).drop (i+1)))≤NN:=wst;have wxy:wt x+wt y≤NN:=by omega
   have e:(y::x::AF).reverse=AF.reverse++[x]++[y]:=by simp
   rw[e]at pst;obtain⟨vs1,b,rfl,pst1,rb⟩:=S5 pst;obtain⟨vs2,a,rfl,pst2,ra⟩:=S5 pst1;refine⟨_,rfl,.inl ⟨rfl,_,SqL.of ek⟩,kp,_,b,rfl,rfl,ek,by simp,?_⟩;rw[List.dropLast_concat];refine⟨_,rfl,.inl ⟨rfl,_,SqL.of Z2⟩,kp,_,a,rfl,rfl,Z2,by simp,?_⟩;rw[List.dropLast_concat,kZ];have gc:Grw kp H' (upd H' kp (.lst vs2)):=X2;have ec:upd H' kp (.lst vs2) kp=some (.lst vs2):=Z2;generalize upd H' kp (.lst vs2)=Hc at gc ec⊢;have sc:Same H Hc:=Tn nkp sH (g.trans gc);refine⟨_,rfl,.inl ⟨rfl,_,SqL.of ec⟩,f2,fd2,ps2,sp2,rfl,F2,B2,C2,_,rfl,_,rfl,?_⟩;refine u2 Hc a b x y _ kp vs2 sc ec (mono gc ra) (mono gc rb) (ist x (.tail _ (.head _))) (ist y (.head _)) wxy fun p H3 s3 rp=>?_;have ek3:=s3 _ _ ec;have g3:Grw kp Hc H3:=Uj ec s3;refine⟨kp,vs2,p,rfl,rfl,ek3,Zj (by rw[List.length_append,List.length_append]at vl;simp at vl;simp at stl;omega),?_⟩;refine⟨_,_,_,vs2++[p],fm x y::AF,rfl,g.trans (gc.trans (g3.trans X2)),Z2,?_,fun z hz=>?_,by show wt (fm x y)+(AF.map wt).sum+wgt ((aw t).drop (i+1))≤NN;rw[(I2 _ _ (ist x (.tail _ (.head _))) (ist y (.head _)) wxy).2];omega,by simp at stl⊢;omega,hm⟩
   ·rw[List.reverse_cons];refine W4 (Qk (R:=Rep) mono (gc.trans (g3.trans X2)) pst2) (.cons ?_ .nil);exact mono X2 rp
   ·rcases xQ.mp hz with rfl | hz
    ·exact(I2 _ _ (ist x (.tail _ (.head _))) (ist y (.head _)) wxy).1
    ·exact ist z (.tail _ (.tail _ hz))
  |some ts=>
   have sv:DV H x (aR ts):=sv;obtain⟨b,xs,rfl,eb,qb⟩:=DV.list_inv sv;refine⟨_,rfl,rfl,_,rfl,Xe ?_⟩;have oks:=hok ts (V6 t ts (xT ho));have sc:Same H H':=Tn nkp sH g;have dvx:DV H' (.ref b) (aR ts):=sv.mono sc;refine⟨_,rfl,.inl ⟨rfl,_,SqL.of ek⟩,f1,fd1,ps1,sp1,rfl,F1,B1,C1,_,rfl,?_⟩;refine u1 H' (.ref b) ts _ kp vs sc ek dvx oks fun p H3 s3 rp=>?_;have ek3:=s3 _ _ ek;have g3:Grw kp H' H3:=Uj ek s3;refine⟨kp,vs,p,rfl,rfl,ek3,Zj (by omega),?_⟩;refine⟨_,_,_,vs++[p],fs ts::st,rfl,g.trans (g3.trans X2),Z2,?_,fun z hz=>?_,by show wt (fs ts)+(st.map wt).sum+wgt ((aw t).drop (i+1))≤NN;rw[(I1 _ oks).2];have wst:(st.map wt).sum+(ts.length+wgt ((aw t).drop (i+1)))≤NN:=wst;omega,by simp;omega,hm⟩
   ·rw[List.reverse_cons];refine W4 (Qk (R:=Rep) mono (g3.trans X2) pst) (.cons ?_ .nil);exact mono X2 rp
   ·rcases xQ.mp hz with rfl | hz
    ·exact(I1 _ oks).1
    ·exact ist z hz
 ·rintro σ H' ⟨o4,o5,o6,vs,st,rfl,g,ek,pst,ist,wst,stl,hm⟩;rw[lsl,←Wj,List.drop_length]at hm;have hst:st=[evT fs fm t]:=xV hm;subst hst
  match vs,pst with
  | [p],.cons rp .nil=>
  refine⟨_,rfl,.inl ⟨rfl,_,SqL.of ek⟩,kp,_,p,rfl,rfl,ek,rfl,?_⟩;exact hq p _ (X8 (Tn nkp sH g) nkp) (mono qE rp)
def lamE(st:Stmt):Expr:=match aA st with
 | [.Return (some (.Call _ (_::e::_) _ _)) _]=>e
 |_=>.Constant .none 0 ⟨0,0,0,0⟩
def di(e:Expr):Pos:=match e with
 |.Lambda _ _ _ p=>p
 |_=>⟨0,0,0,0⟩
def bo(e:Expr):Scope:=match e with
 |.Lambda _ _ sc _=>sc
 |_=>{kind:=.function,names:=[],isGenerator:=false,isCoroutine:=false}
abbrev cg:Expr:=lamE ah
abbrev qGT:Str:=("grown_ladder":Str)++".<locals>."++"<lambda>"
theorem scL:LamScope ["stream"] ["room","deep"] (bo cg):=⟨rfl,rfl,rfl,by decide +kernel,by decide +kernel,fun x h=>by
  have:∀y∈(bo cg).names,y.2=.free→y.1="room"∨y.1="deep":=by decide +kernel
  rcases this (x,.free) (x4 h) rfl with e | e
  ·have e:x="room":=e;rw[e];exact .head _
  ·have e:x="deep":=e;rw[e];exact .tail _ (.head _),by decide +kernel,by decide +kernel⟩
mutual
theorem V3{H:Hp}{a:Addr}(n1:∀xs,H a≠some (.lst xs))(n2:∀xs,H a≠some (.tup xs)):∀{v:V}{d:PyData},DV H v d→DV (au a H) v d
 |_,_,.non=>.non
 |_,_,.bl b=>.bl b
 |_,_,.int i=>.int i
 |_,_,.str x=>.str x
 |_,_,.lst e r=>.lst (by rw[Zg (fun z=>n1 _ (z ▸ e))];exact e) (Pe n1 n2 r)
 |_,_,.tup e r=>.tup (by rw[Zg (fun z=>n2 _ (z ▸ e))];exact e) (Pe n1 n2 r)
theorem Pe{H:Hp}{a:Addr}(n1:∀xs,H a≠some (.lst xs))(n2:∀xs,H a≠some (.tup xs)):∀{vs:List V}{ds:List PyData},DVs H vs ds→DVs (au a H) vs ds
 |_,_,.nil=>.nil
 |_,_,.cons h r=>.cons (V3 n1 n2 h) (Pe n1 n2 r)
end
theorem Ra{H:Hp}{a:Addr}{xs:List V}(e:H a=some (.lst xs)){q:Addr}{Ar or total:Int}{ps:Sps}(h:LadAt H q Ar or total ps):LadAt (au a H) q Ar or total ps:=by
 have tp:∀{b:Addr}{ys:List V},H b=some (.tup ys)→au a H b=some (.tup ys):=fun{b ys} h=>by
  rw[Zg (fun z=>by rw[z,e]at h;cases h)];exact h
 obtain⟨c,as,e1,e2,r⟩:=h.at_;exact⟨c,as,tp e1,tp e2,Paired.mapP r fun _ _ ⟨y,f1,f2⟩=>⟨y,tp f1,tp f2⟩⟩
def glT(Ar or:Int)(t:Tr):Sps:=evT (bY Ar or) (aN Ar or) t
def fsL(Ar or:Int)(ts:List Th):Sps×Nat:=(bY Ar or ts,ts.length)
def fmL(Ar or:Int)(x y:Sps×Nat):Sps×Nat:=(aN Ar or x.1 y.1,x.2+y.2)
theorem i6(Ar or:Int):∀t:Tr,(evT (fsL Ar or) (fmL Ar or) t).1=glT Ar or t
 |.leaf ts=>rfl
 |.node a b=>by
  show aN Ar or (evT (fsL Ar or) (fmL Ar or) a).1 (evT (fsL Ar or) (fmL Ar or) b).1=aN Ar or (glT Ar or a) (glT Ar or b);rw[i6 Ar or a,i6 Ar or b]
def RepL(Ar or:Int)(H:Hp)(v:V)(x:Sps×Nat):Prop:=∃p:Addr,v=.ref p∧LadAt H p Ar or (ag x.1) x.1
def v8(T:Addr):Sp:=fun vs H Q _=>∃(v:V)(Ar or:Int)(t:Tr),vs=[.int Ar,.int or,v]∧1≤Ar∧Ar≤20∧0≤or∧or≤20∧DV H v t.D∧t.size≤1000∧(∀s∈t.streams,∀x∈s,ThL or x)∧t.all.length≤62∧LamAt T (di cg) qGT H∧
 ∀(p:Addr) H',Same (au T H) (au T H')→LamAt T (di cg) qGT H'→LadAt H' p Ar or (ag (glT Ar or t)) (glT Ar or t)→Q (.ref p) H'
def tV(c:Addr)(Ar or:Int):Sp:=fun vs H Q _=>∃(v:V)(ts:List Th),vs=[v]∧H c=some (crO qGT c)∧DV H v (aR ts)∧(∀t∈ts,ThL or t)∧ts.length≤62∧∀(p:Addr) H',Same H H'→LadAt H' p Ar or (ag (bY Ar or ts)) (bY Ar or ts)→Q (.ref p) H'
theorem Q5:∀(t:Tr)(s:List Th),s∈t.streams→s.length≤t.all.length
 |.leaf ts,s,h=>by rw[xF.mp h];exact xA _
 |.node a b,s,h=>by
  show s.length≤(a.all++b.all).length;rw[xE]
  rcases xR.mp h with h | h
  ·have:=Q5 a s h;omega
  ·have:=Q5 b s h;omega
theorem vK{c T f2:Addr}{oc:Value}{od an:Option Addr}{osl:Array (Option Value)}{kV doc pm ct:Value}{fd2:FuncData}(lk:K.lookup f=some ⟨oc,od,.func (W.fnOf "grown_ladder" "grown_ladder" (aB ah) (aA ah) (aa ah) .none kV doc pm an (.ref c) ct),osl⟩)(hcd:W.codeIn K (.ref c) "grown_ladder"=true)(C:W.CodeHd base c T)(hgP:mainGlobals≠T)(hB:base.BuiltinsAt mg T)(hb_grown:HasB P w K mg "grown" 9 ["tree","of_stream","of_two"] (dS P w K mg 8))(hT:∀base:Heap,K.In base→base.Ns mainGlobals mg→Has P w K mg base "ladder_of" 7 ["room","deep","stream"] vm)(hM:∀base:Heap,K.In base→base.Ns mainGlobals mg→Has P w K mg base "merged_ladder" 6 ["one","other"] mZ)(m2:mg "merged_ladder"=some (.ref f2))(F2:Fun K "merged_ladder" "merged_ladder" aZ f2 fd2):
  FnOk P w K mg base CX0 10 f (W.fnOf "grown_ladder" "grown_ladder" (aB ah) (aA ah) (aa ah) .none kV doc pm an (.ref c) ct) ["room","deep","tree"] (v8 T):=by
 refine pB (k:=9) lk hcd Rl (fun vs H Q E h=>?_) (fun A outer s H vs Q E hr h=>?_)
 ·obtain⟨v,Ar,or,t,rfl,_⟩:=h;rfl
 obtain⟨v,Ar,or,t,rfl,r0,r1,d0,d1,dv,hsz,tw,tal,lam,hq⟩:=h;have tZ:∃u,mg "merged_ladder"=some u∧RelV (.ref f2) u:=⟨_,m2,rfl⟩;have hf:∀x∈(bo cg).names,x.2=.free→∃c',(PyProof.Rows.envOfC "grown_ladder" (aa ah) s.heap.objs.size f (.ref c)).cells.lookup x.1=some c':=fun x hx hk=>by
  have:∀y∈(bo cg).names,y.2=.free→(aa ah).names.lookup y.1=some .cell:=by decide +kernel
  exact So (this x hx hk)
 refine⟨_,Z7 (Zc (gN hb_grown (fun _=>rfl) rfl rfl hr (Z0 (pv 2) (Z0 (nG (c:=c) (T:=T) (sc:=bo cg) rfl C hgP hB hf) (Z0 (iD rfl tZ) Z1))))),?_⟩;refine⟨_,rfl,lam,fun a c' pm2 ctv H1 g1 na nac eT ec ea=>?_⟩;have tT:H T≠none:=by
  rcases lam.tab with e | ⟨_,e,_⟩ <;> (rw[e];exact fun z=>nomatch z)
 have nT1:∀xs,H T≠some (.lst xs):=by
  rcases lam.tab with e | ⟨_,e,_⟩ <;> (rw[e];exact fun _ z=>nomatch z)
 have nT2:∀xs,H T≠some (.tup xs):=by
  rcases lam.tab with e | ⟨_,e,_⟩ <;> (rw[e];exact fun _ z=>nomatch z)
 have aT:a≠T:=fun z=>tT (z ▸ na);have dv1:DV H1 v t.D:=((V3 nT1 nT2 dv).mono g1).mono Yi;have dva:DV (au a H1) v t.D:=V3 (by rw[ea];exact fun _ z=>nomatch z) (by rw[ea];exact fun _ z=>nomatch z) dv1;refine⟨a,_,ea,fun B wid=>?_⟩;have wfn:=wid.fn;have ec2:au a H1 c'=some (crO qGT c'):=by rw[Zg (Ne.symm nac)];exact ec
 have cls:∀x d,(aG (PyProof.Rows.envOfC "grown_ladder" (aa ah) s.heap.objs.size f (.ref c)) (bo cg).names).lookup x=some d→(PyProof.Rows.envOfC "grown_ladder" (aa ah) s.heap.objs.size f (.ref c)).cells.lookup x=some d:=fun x d e=>Ux _ [] hf (fun _ h=>nomatch h) (x,d) (x4 e);refine⟨Sps×Nat,RepL Ar or,fsL Ar or,fmL Ar or,fun x=>Pok or x.1∧x.1.length≤x.2,fun x=>x.2,62,fun ts=>(∀x∈ts,ThL or x)∧ts.length≤62,v,a,f2,t,rfl,dva,hsz,fun s hs=>⟨tw s hs,yi (Q5 t s hs) tal⟩,?_,?_,fun ts h=>?_,fun x y h1 h2 h3=>?_,by rw[Tq];exact tal,?_,?_⟩
 ·refine⟨_,["stream"],tV c' Ar or,oZ (k:=7) (us:=[.int Ar,.int or]) (fr:=["room","deep"]) wfn scL rfl ?_ (fun x y d e1 e2=>wid.inj x y d (cls x d e1) (cls y d e2)) (fun x d e=>wid.cells x d (cls x d e)) (fun vs H Q E h=>?_) (fun vs H Q E h=>?_) (fun A outer s H vs Q E hr h=>?_),?_,⟨_,_,_,_,wfn⟩,?_⟩
  ·intro i x u h1 h2
   match i,h1,h2 with
   | 0,h1,h2=>
    cases h1;cases h2;obtain⟨c2,u2,e1,e2,rv⟩:=wid.cell 0 "room" (.int Ar) rfl rfl rfl;obtain⟨c3,hc3⟩:=Wq (bo cg).names [] (env:=PyProof.Rows.envOfC "grown_ladder" (aa ah) s.heap.objs.size f (.ref c)) "room" (x4 (scL.fre "room" (.head _)));obtain⟨c4,hc4⟩:=X6 hc3;have e3:=cls _ _ hc4;have e4:c4=c2:=xV (e3.symm.trans e1);subst e4;exact⟨c4,u2,hc4,e2,rv⟩
   | 1,h1,h2=>
    cases h1;cases h2;obtain⟨c2,u2,e1,e2,rv⟩:=wid.cell 1 "deep" (.int or) rfl rfl rfl;obtain⟨c3,hc3⟩:=Wq (bo cg).names [] (env:=PyProof.Rows.envOfC "grown_ladder" (aa ah) s.heap.objs.size f (.ref c)) "deep" (x4 (scL.fre "deep" (.tail _ (.head _))));obtain⟨c4,hc4⟩:=X6 hc3;have e3:=cls _ _ hc4;have e4:c4=c2:=xV (e3.symm.trans e1);subst e4;exact⟨c4,u2,hc4,e2,rv⟩
  ·obtain⟨_,_,_,e,_⟩:=h;exact e
  ·obtain⟨_,_,rfl,_⟩:=h;rfl
  ·obtain⟨u,ts,rfl,e,d,ok,tl,hq2⟩:=h;have gy:=hT B wid.kin wid.glb;refine⟨_,Z4 gy hr (Z0 (pv 1) (Z0 (pv 2) (Z0 (pv 0) Z1))),?_⟩;exact⟨_,rfl,_,rfl,_,rfl,u,Ar,or,ts,rfl,d,ok,r0,r1,d0,d1,by omega,hq2⟩
  ·exact .all fun us hl=>match us,hl with | [_],_=>rfl
  ·exact fun H u ts Q b ys s eb d ok hq2=>⟨u,ts,rfl,s _ _ ec2,d,ok.1,ok.2,fun p H' s' d'=>hq2 (.ref p) H' s' ⟨p,rfl,Ra (s' _ _ eb) d'⟩⟩
 ·obtain⟨f',fd',FM,bM,kM,mM⟩:=(hM B wid.kin wid.glb).ex;have e:f'=f2:=by
   rw[m2]at mM;cases mM;rfl
  subst e;obtain⟨oc2,od2,kV2,doc2,pm3,an2,cdv2,ct2,osl2,_,lk2,_⟩:=F2.ex;refine⟨fd',["one","other"],mZ,FM.mono (by decide),bM,⟨_,_,_,_,wid.kin _ _ lk2⟩,?_⟩;rintro H u u' x y Q b ys s eb ⟨p,rfl,d⟩ ⟨q,rfl,d2⟩ ix iy wxy hq2;have a1:x.1.length≤x.2:=ix.2;have a2:y.1.length≤y.2:=iy.2;have wxy:x.2+y.2≤62:=wxy;exact⟨p,q,Ar,or,x.1,y.1,rfl,d.mono Yi,d2.mono Yi,ix.1,iy.1,r0,r1,d1,by omega,fun p' H' s' d'=>hq2 (.ref p') H' s' ⟨p',rfl,Ra (s' _ _ eb) d'⟩⟩
 ·obtain⟨o,_,l⟩:=Rw (Ar:=Ar) d0 h.1;exact⟨⟨o.pok,l⟩,rfl⟩
 ·obtain⟨o,_,l⟩:=Vy (Ar:=Ar) h1.1 h2.1;have a1:x.1.length≤x.2:=h1.2;have a2:y.1.length≤y.2:=h2.2;exact⟨⟨o.pok,by show(aN Ar or x.1 y.1).length≤x.2+y.2;omega⟩,rfl⟩
 ·rintro H H' g v x ⟨p,rfl,d⟩;exact⟨p,rfl,d.mono g⟩
 ·rintro p H' g ⟨p,rfl,d⟩;rw[i6]at d;refine hq p H' ?_ ?_ d
  ·intro b u e;obtain⟨b1,b2⟩:=Zf e;have:=g1 b u e;obtain⟨_,e3⟩:=Zf this;rw[Zg b1];exact g b u (by rw[Zg (Zd b2 na)];exact e3)
  ·exact⟨.inr ⟨c',g _ _ (by rw[Zg (Ne.symm aT)];exact eT),g _ _ ec2⟩⟩
def wS(g:Int×Int→Int)(ps:Sps):Int:=(ps.map fun p=>p.2*g p.1).sum
theorem Rq{g:Int×Int→Int}{ps qs:Sps}(h:ps.Perm qs):wS g ps=wS g qs:=iA (h.map _)
theorem Rr{g:Int×Int→Int}{k:Int×Int}{ps:Sps}:(ps.map (·.1)).Nodup→wS g (aU ps k)=wS g ps-cnt ps k*g k:=by
 induction ps with
 |nil=>
  intro _;show(0:Int)=0-cnt [] k*g k;rw[show cnt [] k=0 from rfl,Int.zero_mul];rfl
 |cons p ps ih=>
  intro nd;rw[xD,x3]at nd;have ih:=ih nd.2;unfold wS aU at ih⊢;by_cases e:p.1=k
  ·have o:cnt ps k=0:=Y3 (by rw[←e];exact nd.1);have c:cnt (p::ps) k=p.2:=by unfold cnt;rw[X1,xC e]
   rw[List.filter_cons,if_neg (by simpa using e),ih,o,c,List.map_cons,List.sum_cons,e,Int.zero_mul];omega
  ·have c:cnt (p::ps) k=cnt ps k:=by unfold cnt;rw[X1,xz e]
   rw[yt,xC (xJ e),xD,xY,ih,c,xD,xY];omega
theorem Q6{g:Int×Int→Int}{ps:Sps}{k:Int×Int}{n:Int}(nd:(ps.map (·.1)).Nodup):wS g (ao ps k n)=wS g ps-cnt ps k*g k+n*g k:=by
 have h:(ao ps k n).Perm ((k,n)::aU ps k):=by
  have hk:k∉(aU ps k).map (·.1):=by
   rw[Uw];intro z;have:=(x6.mp z).2;simp at this
  refine R0 (Ye nd) (by rw[xD];exact x3.mpr ⟨hk,Sk nd⟩) fun j=>?_;rw[Xb,X1,Vo];by_cases e:j=k
  ·rw[xC e,xC e.symm]
  ·rw[xz e,xz (Ne.symm e),xz e]
 rw[Rq h];have:=Rr (g:=g) (k:=k) nd;unfold wS at this⊢;rw[xD,xY,this];show n*g k+_=_;omega
theorem tH{ps:Sps}(nd:(ps.map (·.1)).Nodup)(pos:∀p∈ps,0≤p.2)(k:Int×Int):0≤cnt ps k:=by
 by_cases h:k∈ps.map (·.1)
 ·obtain⟨p,hp,rfl⟩:=xB.mp h;rw[Yt nd hp];exact pos p hp
 ·rw[Y3 h];exact x5 _
theorem kq{g:Int×Int→Int}{ps:Sps}{k:Int×Int}(nd:(ps.map (·.1)).Nodup):wS g (aC ps k)=wS g ps+(if k∈ps.map (·.1)then cnt ps k*(g (ad k)-g k)else 0):=by
 unfold aC;by_cases h:k∈ps.map (·.1)
 ·rw[xC h,xC h];unfold eP b7;have n1:=Ye (k:=ad k) (n:=cnt ps (ad k)+cnt ps k) nd;have n2:=Ye (k:=k) (n:=cnt ps k-cnt ps k) n1;have c1:cnt (ao (ao ps (ad k) (cnt ps (ad k)+cnt ps k)) k (cnt ps k-cnt ps k)) k=0:=by rw[Yx,xC rfl,Int.sub_self]
  have c2:cnt (ao ps (ad k) (cnt ps (ad k)+cnt ps k)) k=cnt ps k:=by rw[Yx,xz (Va k)]
  rw[Rr n2,c1,Q6 n1,c2,Q6 nd,Int.sub_self,Int.zero_mul,zE,Int.mul_sub];omega
 ·rw[xz h,xz h,Ao]
def dO(g:Int×Int→Int):Prop:=∀h j,0≤h→0≤j→g (upK h j)≤g (loK h j)∧g (upK h j)≤g (hiK h j)
theorem rk{g:Int×Int→Int}{or bar h j:Int}{ps:Sps}(G:dO g)(o:Pok or ps)(f:Fst or bar ps h j):wS g (aV ps h j)≤wS g ps:=by
 have hj:0≤h∧0≤j:=by
  rcases f.in_ with i | i
  ·obtain⟨a,_,b,_⟩:=o.kok.st _ i;have a:0≤h:=a;have b:0≤2*j:=b;omega
  ·obtain⟨a,_,b,_⟩:=o.kok.st _ i;have a:0≤h:=a;have b:0≤2*j+1:=b;omega
 obtain⟨g1,g2⟩:=G h j hj.1 hj.2;have nd:=o.kok.nd;have c0:=fun k=>tH nd (fun p hp=>by have:=o.pos p hp;omega) k;unfold aV;rw[kq (Si nd),kq nd,Vb,Qm,Wp,xz (Ne.symm (gq h j)),Vb,xz (hJ h j)];have m1:cnt ps (loK h j)*(g (upK h j)-g (loK h j))≤0:=Int.mul_nonpos_of_nonneg_of_nonpos (c0 _) (by omega);have m2:cnt ps (hiK h j)*(g (upK h j)-g (hiK h j))≤0:=Int.mul_nonpos_of_nonneg_of_nonpos (c0 _) (by omega)
 split <;> split <;> omega
theorem t8{g:Int×Int→Int}{or bar:Int}(G:dO g){ps fs Au:Sps}(s:Stl or bar ps fs Au):Pok or ps→wS g Au≤wS g ps:=by
 induction s with
 |done n=>exact fun _=>x5 _
 |step f p1 s ih=>
  intro o;have h:=ih ((Tx o f.in_ f.hd).perm p1);rw[Rq p1]at h;exact zB h (rk G o f)
theorem Q7{g:Int×Int→Int}:∀{ys xs:Sps},(xs.map (·.1)).Nodup→wS g (ay xs ys)=wS g xs+wS g ys:=by
 intro ys
 induction ys with
 |nil=>
  intro xs _;show wS g xs=wS g xs+0;omega
 |cons p ys ih=>
  intro xs h;rw[W8,ih (Ye h),Q6 h,zE];have e:wS g (p::ys)=p.2*g p.1+wS g ys:=by
   unfold wS;rw[xD,xY]
  rw[e];omega
theorem jX{g:Int×Int→Int}{or bar:Int}{ps:Sps}(G:dO g)(o:Pok or ps):wS g (bU or bar ps)≤wS g ps:=by
 obtain⟨fs,Au,s⟩:=T7 (or:=or) (bar:=bar) _ ps (xA _) o.kok;rw[(W1 s o.kok.nd).1,Rq (Y0 Au)];exact t8 G s o
theorem on{g:Int×Int→Int}{Ar or:Int}{xs ys:Sps}(G:dO g)(hx:Pok or xs)(hy:Pok or ys):wS g (aN Ar or xs ys)≤wS g xs+wS g ys:=by
 have h:=jX (bar:=ag (ay xs ys) / Ar) G (U7 hx hy.each);rw[Q7 hx.kok.nd]at h;exact h
def wT(g:Int×Int→Int)(ts:List Th):Int:=(ts.map fun t=>t.many*g (0,t.num)).sum
theorem pR(g:Int×Int→Int)(a b:List Th):wT g (a++b)=wT g a+wT g b:=by
 unfold wT;rw[xN,zk]
theorem wu{g:Int×Int→Int}{Ar or:Int}{t:Th}(G:dO g)(d0:0≤or)(h:ThL or t):wS g (thL Ar or t)≤t.many*g (0,t.num):=by
 have q:=jX (bar:=t.many / Ar) G (Sa d0 h);have e:wS g [((0,t.num),t.many)]=t.many*g (0,t.num):=Ao _;rw[e]at q;exact q
theorem lG{g:Int×Int→Int}{Ar or:Int}(G:dO g)(d0:0≤or):∀(ts:List Th)(a:Sps),Pok or a→(∀t∈ts,ThL or t)→wS g (ts.foldl (fun a t=>aN Ar or a (thL Ar or t)) a)≤wS g a+wT g ts:=by
 intro ts
 induction ts with
 |nil=>
  intro a _ _;show wS g a≤wS g a+0;omega
 |cons t ts ih=>
  intro a o h;have ht:=h t (.head _);have ot:=(Qb (Ar:=Ar) d0 ht).1.pok;have q:=ih (aN Ar or a (thL Ar or t)) (Vy o ot).1.pok fun x hx=>h x (.tail _ hx);have m:=on (Ar:=Ar) G o ot;have w:=wu (Ar:=Ar) G d0 ht;have e:wT g (t::ts)=t.many*g (0,t.num)+wT g ts:=pR g [t] ts |>.trans (by unfold wT;simp);rw[e];show wS g (ts.foldl _ (aN Ar or a (thL Ar or t)))≤_;omega
theorem vA{g:Int×Int→Int}{Ar or:Int}{ts:List Th}(G:dO g)(d0:0≤or)(h:∀t∈ts,ThL or t):wS g (bY Ar or ts)≤wT g ts:=by
 have q:=lG (Ar:=Ar) G d0 ts [] kj h;have e:wS g []=0:=rfl;rw[e,zJ]at q;exact q
def Dom(ps:Sps)(ts:List Th):Prop:=∀g,dO g→wS g ps≤wT g ts
theorem sf{Ar or:Int}{ts:List Th}(d0:0≤or)(h:∀t∈ts,ThL or t):Dom (bY Ar or ts) ts:=fun g G=>vA G d0 h
theorem rB{Ar or:Int}{xs ys:Sps}{a b:List Th}(hx:Pok or xs)(hy:Pok or ys)(da:Dom xs a)(db:Dom ys b):Dom (aN Ar or xs ys) (a++b):=fun g G=>by
 have m:=on (Ar:=Ar) G hx hy;have:=da g G;have:=db g G;rw[pR];omega
theorem nL{h:Int}(h0:0≤h):(2:Int)^(h+1).toNat=2^h.toNat*2:=by
 rw[show(h+1).toNat=h.toNat+1 by omega,Int.pow_succ]
theorem Yd(n:Nat):(0:Int)<2^n:=Int.pow_pos (by decide)
theorem oW{h j:Int}(h0:0≤h):aE (upK h j)≤aE (loK h j)∧aE (upK h j)≤aE (hiK h j):=by
 have p:=Yd h.toNat;have e:=nL h0;unfold aE upK loK hiK;show j*2^(h+1).toNat≤2*j*2^h.toNat∧j*2^(h+1).toNat≤(2*j+1)*2^h.toNat;rw[e];generalize (2:Int)^h.toNat=q at p;have e1:j*(q*2)=2*j*q:=by rw[←y7,Int.mul_comm (j*q) 2,y7]
 rw[e1,zE,yE];omega
theorem oV{h j:Int}(h0:0≤h):aD (loK h j)≤aD (upK h j)∧aD (hiK h j)≤aD (upK h j):=by
 have p:=Yd h.toNat;have e:=nL h0;unfold aD upK loK hiK;show(2*j+1)*2^h.toNat-1≤(j+1)*2^(h+1).toNat-1∧(2*j+1+1)*2^h.toNat-1≤(j+1)*2^(h+1).toNat-1;rw[e];generalize (2:Int)^h.toNat=q at p;have e1:(j+1)*(q*2)=2*j*q+q+q:=by
  rw[zE,yE,←y7,Int.mul_comm (j*q) 2,y7];omega
 have e2:(2*j+1+1)*q=2*j*q+q+q:=by rw[zE,zE,yE]
 rw[e1,e2,zE,yE];omega
theorem sT(n:Int):aE (0,n)=n:=by
 show n*2^(0:Int).toNat=n;rw[show(0:Int).toNat=0 from rfl,Int.pow_zero,zK]
theorem tG(n:Int):aD (0,n)=n:=by
 show(n+1)*2^(0:Int).toNat-1=n;rw[show(0:Int).toNat=0 from rfl,Int.pow_zero,zK];omega
def ind(b:Prop)[Decidable b]:Int:=if b then 1 else 0
theorem gF{a b:Prop}[Decidable a][Decidable b](h:a→b):ind a≤ind b:=by
 unfold ind;by_cases c:a
 ·rw[xC c,xC (h c)];exact x5 _
 ·rw[xz c]
  split <;> decide
theorem uj(g:Int×Int→Int)(ps:Sps):wS (fun k=>-g k) ps=-wS g ps:=by
 unfold wS
 induction ps with
 |nil=>rfl
 |cons p ps ih=>
  rw[xD,xY,xD,xY,ih,Int.mul_neg];omega
theorem t6(g:Int×Int→Int)(ts:List Th):wT (fun k=>-g k) ts=-wT g ts:=by
 unfold wT
 induction ts with
 |nil=>rfl
 |cons p ps ih=>
  rw[xD,xY,xD,xY,ih,Int.mul_neg];omega
theorem vt{Ar or:Int}(d0:0≤or){t:Tr}:(∀s∈t.streams,∀x∈s,ThL or x)→Dom (glT Ar or t) t.all∧Pok or (glT Ar or t):=by
 induction t with
 |leaf ts=>exact fun h=>⟨sf d0 (h ts (.head _)),(Rw d0 (h ts (.head _))).1.pok⟩
 |node l r il ir=>
  intro h;obtain⟨a1,a2⟩:=il fun s hs=>h s (yC _ hs);obtain⟨b1,b2⟩:=ir fun s hs=>h s (xP _ hs);exact⟨rB a2 b2 a1 b1,(Vy a2 b2).1.pok⟩
theorem rY{α:Type}(l:List α):(l.map fun _=>(0:Int)).sum=0:=by
 induction l with
 |nil=>rfl
 |cons x l ih=>rw[xD,xY,ih];rfl
theorem uh{k:Int×Int}:aE k≤aD k:=by
 have p:=Yd k.1.toNat;unfold aE aD;rw[zE,yE];omega
def wit(s k:Int×Int):Prop:=aE s≤aE k∧aD k≤aD s
instance (s k:Int×Int):Decidable (wit s k):=inferInstanceAs (Decidable (_∧_))
def gin(s k:Int×Int):Int:=ind (wit s k)
theorem jm{p:Prop}[Decidable p]:0≤ind p:=by
 unfold ind
 split <;> decide
theorem V2{p:Prop}[Decidable p](h:p):ind p=1:=xC h
theorem Wh{p:Prop}[Decidable p](h:¬p):ind p=0:=xz h
theorem nR(s:Int×Int):dO (gin s):=fun h j h0 _=>by
 have a:=oW (j:=j) h0;have b:=oV (j:=j) h0;exact⟨gF fun z=>⟨zB z.1 a.1,zB b.1 z.2⟩,gF fun z=>⟨zB z.1 a.2,zB b.2 z.2⟩⟩
theorem wit_0{s:Int×Int}{n:Int}:wit s (0,n)↔aE s≤n∧n≤aD s:=by
 unfold wit;rw[sT,tG]
theorem oH(k:Int×Int):aD k=aE k+2^k.1.toNat-1:=by
 unfold aE aD;rw[zE,yE]
theorem sO{s k:Int×Int}(s0:0≤s.1)(k0:0≤k.1)(h:wit s k):k.1≤s.1:=by
 rcases Int.lt_or_le s.1 k.1 with c | c
 ·have a:=oH s;have b:=oH k;have p:(2:Int)^k.1.toNat=2^(k.1.toNat-s.1.toNat-1)*2^s.1.toNat*2:=by
   rw[y7,←Int.pow_succ,←Int.pow_add]
   congr 1
   omega
  have q:=Yd s.1.toNat;have q2:1*2^s.1.toNat≤(2:Int)^(k.1.toNat-s.1.toNat-1)*2^s.1.toNat:=yK (Yd _) (yY q);obtain⟨h1,h2⟩:=h;omega
 ·exact c
theorem gd{s k:Int×Int}(k0:0≤k.1)(le:k.1≤s.1){n:Int}(a:aE k≤n)(b:n≤aD k)(c:aE s≤n)(d:n≤aD s):wit s k:=by
 unfold aE at a c;unfold aD at b d;have pk:=Yd k.1.toNat;have e:(2:Int)^s.1.toNat=2^(s.1.toNat-k.1.toNat)*2^k.1.toNat:=by
  rw[←Int.pow_add]
  congr 1
  omega
 have pm:=Yd (s.1.toNat-k.1.toNat);unfold wit aE aD;rw[e];rw[e]at c d;rw[←y7]at c d;rw[←y7,←y7];generalize (2:Int)^(s.1.toNat-k.1.toNat)=m at c d pm⊢;generalize (2:Int)^k.1.toNat=w at a b c d pk⊢;have l1:s.2*m<k.2+1:=by
  have:s.2*m*w<(k.2+1)*w:=by omega
  exact Int.lt_of_mul_lt_mul_right this (yY pk)
 have l2:k.2<(s.2+1)*m:=by
  have:k.2*w<(s.2+1)*m*w:=by omega
  exact Int.lt_of_mul_lt_mul_right this (yY pk)
 have m1:s.2*m*w≤k.2*w:=yK (by omega) (yY pk);have m2:(k.2+1)*w≤(s.2+1)*m*w:=yK (by omega) (yY pk);exact⟨m1,by omega⟩
theorem Yu(g:Int×Int→Int)(p:(Int×Int)×Int)(ps:Sps):wS g (p::ps)=p.2*g p.1+wS g ps:=by
 unfold wS;rw[xD,xY]
theorem sK{g:Int×Int→Int}(h:∀k,0≤g k){ps:Sps}:(∀p∈ps,0≤p.2)→0≤wS g ps:=by
 induction ps with
 |nil=>exact fun _=>x5 _
 |cons p ps ih=>
  intro pos;rw[Yu];have a:=An (pos p (.head _)) (h p.1);have b:=ih fun x hx=>pos x (.tail _ hx);omega
theorem Rp{g:Int×Int→Int}{ps:Sps}:(∀p∈ps,p.2=0∨g p.1=0)→wS g ps=0:=by
 induction ps with
 |nil=>exact fun _=>rfl
 |cons p ps ih=>
  intro h;rw[Yu,ih fun x hx=>h x (.tail _ hx)]
  rcases h p (.head _)with z | z
  ·rw[z,Int.zero_mul];rfl
  ·rw[z,z8];rfl
theorem S9(ps:Sps):wS (fun _=>1) ps=ag ps:=by
 unfold wS ag;exact yP List.sum (zI fun p _=>zK _)
theorem sum_cons(p:(Int×Int)×Int)(ps:Sps):ag (p::ps)=p.2+ag ps:=by
 unfold ag;rw[xD,xY]
structure Can(ps ls:Sps):Prop where
 each:∀s:Int×Int,0≤s.1→wS (gin s) ps≤wS (gin s) ls
 all:ag ps=ag ls
section
variable{k:Int×Int}{c:Int}{rem ls ls':Sps}
end
def el(ts:List Th):Sps:=ay [] (ts.map fun t=>((0,t.num),t.many))
theorem pN(g:Int×Int→Int)(ts:List Th):wS g (el ts)=wT g ts:=by
 unfold el;rw[Q7 (xs:=[]) yb];show 0+_=_;rw[zJ];unfold wS wT;rw[x8];rfl
theorem fK{ps:Sps}{ts:List Th}(h:Dom ps ts):Can ps (el ts):=by
 refine⟨fun s _=>?_,?_⟩
 ·rw[pN];exact h _ (nR s)
 ·have a:=h (fun _=>1) fun _ _ _ _=>⟨x5 _,x5 _⟩;have b:=h (fun k=>-(fun _=>1) k) fun _ _ _ _=>⟨x5 _,x5 _⟩;rw[uj,t6]at b;rw[←S9,←S9,pN];omega
def eV:Sp:=fun vs H Q _=>∃(x:V)(T:String),vs=[x]∧Kd H x T∧Q (.bl (whV x)) H
def wH:Sp:=fun vs H Q _=>∃(x:V)(T:String)(l:Int),vs=[x,.int l]∧Kd H x T∧Q (.bl (wF x l)) H
def wp:Sp:=fun vs H Q _=>∃(i l m:Int),vs=[.int i,.int l,.int m]∧Q (.bl (decide (l≤i) && decide (i≤m))) H
theorem ii(am:mg "isinstance"=none)(c5:mg "int"=none)(cS:mg "bool"=none)(F:Fun K "is_whole" "is_whole" cW f fd):FnOk P w K mg base CX0 1 f fd ["thing"] eV:=by
 refine F.ok ib (fun vs H Q E h=>?_) (fun cdv A outer s H vs Q E hr h=>?_)
 ·obtain⟨x,T,rfl,_⟩:=h;rfl
 obtain⟨x,T,rfl,hk,hq⟩:=h;refine⟨_,(Z7 (Zc (R3 (Y1 V4 rfl am yw (Z0 (pv 0) (Z0 (V1 (v:=.ty "int") rfl c5 PyProof.Rows.boot_int rfl) Z1))) (R1 (tP (Y1 V4 rfl am yw (Z0 (pv 0) (Z0 (V1 (v:=.ty "bool") rfl cS PyProof.Rows.boot_bool rfl) Z1)))))))),?_⟩;rw[←hk.wh]at hq;refine⟨_,rfl,_,_,"int",_,rfl,hk.ty,hk.kit (by decide) rfl,_,rfl,?_⟩;refine Xf (fun c=>?_) (fun c=>?_)
 ·refine⟨_,rfl,_,_,"bool",_,rfl,hk.ty,hk.kit (by decide) rfl,_,rfl,?_⟩;rw[c,Bool.true_and]at hq;exact hq
 ·rw[yy.mpr c,zU]at hq;exact hq
theorem R5(ju:Has P w K mg base "is_whole" 1 ["thing"] eV)(F:Fun K "is_whole_from" "is_whole_from" bn f fd):FnOk P w K mg base CX0 2 f fd ["thing","least"] wH:=by
 refine F.ok Sz (fun vs H Q E h=>?_) (fun cdv A outer s H vs Q E hr h=>?_)
 ·obtain⟨x,T,l,rfl,_⟩:=h;rfl
 obtain⟨x,T,l,rfl,hk,hq⟩:=h;refine⟨_,(Z7 (Zc (R3 (Z4 ju hr (Z0 (pv 0) Z1)) (R1 (Xx hO (pv 0) (pv 1) (Zh _)))))),?_⟩;refine⟨_,rfl,x,T,rfl,hk,_,rfl,?_⟩;cases x with
 |int i=>exact U1 ⟨_,rfl,_,rfl,_,_,rfl,rfl,hq⟩
 |_=>exact Xe hq
theorem Tg(dJ:Has P w K mg base "is_whole_from" 2 ["thing","least"] wH)(F:Fun K "is_whole_within" "is_whole_within" a7 f fd):FnOk P w K mg base CX0 3 f fd ["thing","least","most"] wp:=by
 refine F.ok Tc (fun vs H Q E h=>?_) (fun cdv A outer s H vs Q E hr h=>?_)
 ·obtain⟨i,l,m,rfl,_⟩:=h;rfl
 obtain⟨i,l,m,rfl,hq⟩:=h;refine⟨_,(Z7 (Zc (R3 (Z4 dJ hr (Z0 (pv 0) (Z0 (pv 1) Z1))) (R1 (Xx sU (pv 0) (pv 2) (Zh _)))))),?_⟩;refine⟨_,rfl,_,rfl,.int i,"int",l,rfl,.int _,_,rfl,?_⟩;refine Xf (fun c=>?_) (fun c=>?_)
 ·have c:decide (l≤i)=true:=c;rw[c,Bool.true_and]at hq;exact⟨_,rfl,_,rfl,_,_,rfl,rfl,hq⟩
 ·have c:decide (l≤i)=false:=yy.mpr c;rw[c,zU]at hq;exact hq
end K34
namespace L2
open PySem PySem.Spec PyProof.Rows
variable{prog:Program}{w:World}{A:Around}{E:Value→Shared→Prop}{s:Shared}
theorem Ph{l:Addr}{its:List Value}{k:Nat}{sl:Array (Option Value)}{ps:List TKv}{Q:Value→Shared→Prop}(hh:A.handled=none)(hu:A.units+3<cLine)(hl:s.heap.get? l=some {cls:=.type "list",dict:=none,data:=.seq its.toArray k,slots:=sl})(AG:its.length=ps.length)(hb:ps.length≤100000)(hp:∀(j:Nat) p,ps[j]?=some p→∃v,its[j]?=some v∧ip prog w s.heap p v [])(h:∀g tk,(∀b o,s.heap.get? b=some o→g.get? b=some o)→mD prog w g s.heap.objs.size (c6 ps)→Q (.ref s.heap.objs.size) {s with heap:=g,toks:=tk}):wpAny (model prog w) A (call (.type "dict") [.ref l]) Q E s:=by
 refine callType_codes (Q₁:=fun obj s₁=>obj=.ref s.heap.objs.size∧s₁={s with heap:=s.heap.push {cls:=.type "dict",data:=.dict #[]}}) F.kt_called_dict (F.kt_typeCall_dict_1 _) F.entry_dict_init (kt_code_dict_new _ ⟨rfl,rfl⟩) ?_;rintro obj s₁ ⟨rfl,rfl⟩;have gD:(s.heap.push {cls:=.type "dict",data:=.dict #[]}).get? s.heap.objs.size=some {cls:=.type "dict",data:=.dict #[]}:=xO _ rfl;have hl1:(s.heap.push {cls:=.type "dict",data:=.dict #[]}).get? l=some {cls:=.type "list",dict:=none,data:=.seq its.toArray k,slots:=sl}:=io _ hl;refine⟨⟨_,gD,rfl⟩,F.args_dict_init_2 _ _,?_⟩;unfold Builtin.«dict.__init__»;refine ae ?_;unfold Builtin.Dict.selfAndRest;refine ae (y3 ⟨_,gD,rfl⟩ (pi (a:=(s.heap.objs.size,[Value.ref l])) ?_));show wpAny (model prog w) _ (Builtin.Dict.updateFrom "dict.__init__" s.heap.objs.size (.ref l) [] .none) _ _ _;unfold Builtin.Dict.updateFrom;refine ae (zy (T:="list") ⟨_,hl1,rfl⟩ ?_);rw[xC (by decide)];refine wpAny_bind (vR hl1 (by simpa using hh) fun g tk kp=>?_);rw[xC (by rfl)];have ltD:s.heap.objs.size<g.objs.size:=xG (kp _ _ gD);have ltl:l<s.heap.objs.size:=xG hl;have hl2:g.IsList l its.toArray:=⟨_,kp _ _ hl1,rfl,k,rfl⟩;refine ae (z7 (ae (wpAny_pyIter_list hl2 (pi ⟨Ab W6 _,?_⟩))));have hne:l≠g.objs.size:=xM (y8 ltl ltD);have nin:s.heap.objs.size∉[g.objs.size,l]:=fun q=>by
  rcases xQ.mp q with q | q
  ·exact xM ltD q
  ·exact yD ltl (xF.mp q)
 have nout:∀{b:Addr},b<s.heap.objs.size→b∉[s.heap.objs.size,g.objs.size]:=fun{b} lt q=>by
  rcases xQ.mp q with q | q
  ·exact xM lt q
  ·exact xM (y8 lt ltD) (xF.mp q)
 have keep:∀b o,s.heap.get? b=some o→(g.push {cls:=.type "list_iterator",data:=.fields #[.ref l,.int 0 0]}).get? b=some o:=fun b o e=>io _ (kp _ _ (io _ e));refine Pg (A:=A.in1) (Walks.list (by simpa using hh) g.objs.size l hne its.toArray) (by show A.units+1+1<cLine;omega) s.heap.objs.size nin ps (by rw[List.size_toArray];omega) its (fun i v e=>by simpa using e) (by rw[List.size_toArray];omega) its.toArray.size 0 _ (Nat.sub_zero _) (Nat.zero_le _) ⟨⟨_,Heap.get?_push_size _ rfl,rfl,rfl⟩,hl2.push _⟩ ⟨_,#[],0,Heap.get?_push_of_some _ (kp _ _ gD),⟨rfl,rfl,rfl⟩,rfl,rfl,List.nodup_nil⟩ (fun j p e=>?_) fun g' tk' kp' so'=>⟨rfl,h g' tk' (fun b o e=>kp' b o (nout (Heap.lt_size e)) ?_) so'⟩
 ·obtain⟨v,hv,a,o,m,rfl,_,_,ha,r1,r2,r3⟩:=hp j p e;have la:=xG ha;have lk:p.2.1<s.heap.objs.size:=by
   obtain⟨_,_,_,h1,_⟩:=r3;exact xG h1
  exact⟨_,hv,a,o,m,rfl,nout la,nout lk,io _ (kp _ _ (io _ ha)),r1,r2,Rs r3 fun o e=>io _ (kp _ _ (io _ e))⟩
 ·exact io _ (kp _ _ (io _ e))
section
variable{X:Cx}
def rR(K:W.Frag):List V→Hp→VK→Prop:=fun xs H Q=>∃(l:Addr)(ys:List V)(kvs:List (List Key×V)),xs=[.ref l]∧SqL K H l ys∧TPsAt H ys kvs∧kvs.length≤1000∧∀p,H p=none→Q (.ref p) (upd H p (.dT (eX kvs)))
theorem hW(hc:X.calm=true)(hu:X.A.units+64<cLine):bE X (.type "dict") (rR X.K):=by
 intro As s σ H xs us Q I rx h;obtain⟨l,ys,kvs,rfl,hq,pa,AG,q⟩:=h;obtain⟨u,rfl,ru⟩:=Wx rx;cases ru;obtain⟨its,rv,⟨⟨c0,d0,dt0,sl0⟩,m,ho,hcl,hdn,hs⟩,_⟩:=I.list hq;simp only at hcl hdn hs;subst hcl hdn hs;obtain⟨ps,kt,hl,hp⟩:=Qa I pa rv;have kl:=xL kt;refine Ph (I.ok.hd hc) (by omega) ho hl (by omega) hp fun g tk kp hD=>?_;have km:=sP kt;have ml:=Qt ps;refine⟨.ref s.heap.objs.size,_,I.laid (t':=tk) (o:=.dT (eX kvs)) kp (xA _) ⟨Zl (by rw[xL km];omega),zH.mpr (yD I.big),c6 ps,?_,hD⟩,rfl,q _ (I.hok.fresh (xA _))⟩;exact KT.keeps km fun b ys e=>by rw[Za (Zd e (I.hok.fresh (xA _)))];exact e
end
section
variable{X:Cx}{x c n:Str}{p pos cpos epos np ap hpos:Pos}{e:Expr}{es:List Expr}{ta:TA}{tb:TS}{b₀:Stmt}{suite:List Stmt}{j k i:Nat}{ps:List Str}{sp:Sp}{S:Addr}
end
section
variable{P:Program}{w:World}{A:Around}{E:Value→Shared→Prop}{s:Shared}{a b:Addr}{va vb:List (Key×Value)}
end
section
variable{X:Cx}
theorem rc{H:Hp}{kvs:List (List Key×V)}{xs:List TKv}(h:KT H kvs xs):xs.map (·.1)=kvs.map (·.1):=by
 induction h with
 |nil=>rfl
 |cons h r ih=>rw[xD,xD,ih,h.1]
def v3(D:Ends)(d:Addr)(kvs:List (List Key×V))(o:Obj):Ends where
 nx:=fun σ2 H2=>H2 d=some (.frz o (.dT kvs))∧D.nx σ2 (upd H2 d (.dT kvs))
 rt:=fun v H2=>H2 d=some (.frz o (.dT kvs))∧D.rt v (upd H2 d (.dT kvs))
 bk:=fun σ2 H2=>H2 d=some (.frz o (.dT kvs))∧D.bk σ2 (upd H2 d (.dT kvs))
 ct:=fun σ2 H2=>H2 d=some (.frz o (.dT kvs))∧D.ct σ2 (upd H2 d (.dT kvs))
def wA(t:TS):TS:=fun D σ H=>∃(d:Addr)(kvs:List (List Key×V)),H d=some (.dT kvs)∧∀o,t (v3 D d kvs o) σ (upd H d (.frz o (.dT kvs)))
theorem jF{st:Stmt}{t:TS}(h:PS X st t):PS X st (wA t):=by
 intro As s σ H D I hw;obtain⟨d,kvs,hd,q⟩:=hw;obtain⟨o,I1,nf⟩:=I.freezeT hd;refine thn (h As s σ _ _ I1 (q o)) fun f s1 hf=>?_;cases f with
 |next=>
  obtain⟨σ2,H2,I2,hd2,q2⟩:=hf;exact⟨σ2,_,I2.thawT nf hd2,q2⟩
 |brk=>
  obtain⟨σ2,H2,I2,hd2,q2⟩:=hf;exact⟨σ2,_,I2.thawT nf hd2,q2⟩
 |cont=>
  obtain⟨σ2,H2,I2,hd2,q2⟩:=hf;exact⟨σ2,_,I2.thawT nf hd2,q2⟩
 |ret u=>
  obtain⟨v,σ2,H2,I2,r,hd2,q2⟩:=hf;exact⟨v,σ2,_,I2.thawT nf hd2,r,q2⟩
end
theorem mF{d:Addr}{o:Obj}{kvs:List (List Key×V)}{g:TG}{tb:TS}{D:Ends}{σ:St}{H:Hp}(Pv:Nat→St→Hp→Prop)(h0:Pv 0 σ H)(hl:∀i σ H,Pv i σ H→H d=some (.frz o (.dT kvs)))(hs:∀i p b σ H (N B1:St→Hp→Prop) (R:VK),(∀σ' H',Pv (i+1) σ' H'→N σ' H')→(∀v H',D.rt v H'→R v H')→kvs[i]?=some p→H b=some (.tup (p.1.map kV))→Pv i σ H→g (.ref b) σ H fun σ2 H2=>tb {nx:=N,rt:=R,bk:=B1,ct:=N} σ2 H2)(hd:∀σ H,Pv kvs.length σ H→D.nx σ H):
  ∃W:Nat→Nat→St→Hp→Prop,(∃m,W 0 m σ H)∧∀i m σ H,W i m σ H→
   ((mE d kvs o).stop i H∧D.nx σ H)∨((mE d kvs o).go i H∧∃N:St→Hp→Prop,(∀σ' H',N σ' H'→∃m',m'<m∧W (i+1) m' σ' H')∧∀x H',(mE d kvs o).yld i H x H'→g x σ H' fun σ2 H2=>tb {D with nx:=N,ct:=N,bk:=D.nx} σ2 H2):=by
 refine⟨fun i m σ H=>m=kvs.length-i∧i≤kvs.length∧Pv i σ H,⟨kvs.length,by simp,Nat.zero_le _,h0⟩,?_⟩;rintro i m σ H ⟨rfl,hi,p⟩;have q:=hl i σ H p;by_cases Ay:i<kvs.length
 ·refine .inr ⟨⟨Ay,q⟩,Pv (i+1),fun σ' H' p'=>⟨kvs.length-(i+1),by omega,rfl,Ay,p'⟩,fun x H' y=>?_⟩;obtain⟨e,p',b,hp',rfl,hb⟩:=y;subst e;exact hs i p' b σ _ (Pv (i+1)) D.nx D.rt (fun _ _ h=>h) (fun _ _ h=>h) hp' hb p
 ·have e:i=kvs.length:=by omega
  subst e;exact .inl ⟨⟨xA _,q⟩,hd σ H p⟩
end L2
namespace K34
open PySem L2 Ld
def bq(ps:Sps)(k:Int×Int)(m:Int):Sps:=if cnt ps k-m=0 then aU (ao (ao ps (ad k) (cnt ps (ad k)+m)) k (cnt ps k-m)) k else ao (ao ps (ad k) (cnt ps (ad k)+m)) k (cnt ps k-m)
def cr(ts:List Th):Sps:=ts.map fun t=>((0,t.num),t.many)
def av(ts:List Th):Sps:=ay [] (cr ts)
def PprAt(H:Hp)(p:Addr)(ps:Sps):Prop:=∃as:List Addr,H p=some (.lst (as.map V.ref))∧Paired (FT H) as ps
theorem PprAt.mono{H H':Hp}{p:Addr}{ps:Sps}(g:Same H H')(h:PprAt H p ps):PprAt H' p ps:=let ⟨as,e,r⟩:=h;⟨as,g _ _ e,Paired.mapP r fun _ _ f=>Zs g f⟩
def eqB(ps qs:Sps):Bool:=decide (ps.length=qs.length) && ps.all fun p=>decide (p∈qs)
def dQ(or:Int)(qs:Sps):Sps→Sps→Bool
 |ps,[]=>eqB ps qs
 |ps,(k,m)::r=>if m<1∨or≤k.1∨cnt ps k<m then false else dQ or qs (bq ps k m) r
def inB(or:Int)(k:Int×Int):Bool:=decide (0≤k.2) && decide (k.2≤2^or.toNat-1)
def eh(or total:Int)(ts:List Th)(qs Av:Sps):Bool:=decide (aI ts=total) && ((av ts).all fun e=>inB or e.1) && dQ or qs (av ts) Av
def kr:Sp:=fun vs H Q _=>∃(d p:Addr)(ps:Sps)(k:Int×Int)(m:Int),vs=[.ref d,.ref p,.int m]∧H d=some (.dT (af ps))∧KAt H p k∧k∈ps.map (·.1)∧ps.length<100000∧∀(H':Hp),Grw d H H'→H' d=some (.dT (af (bq ps k m)))→Q .non H'
def je:Sp:=fun vs H Q _=>∃(c1 c2:Addr)(bs:List Addr)(ys:Sps),vs=[.ref c1,.ref c2]∧H c1=some (.tup [])∧H c2=some (.lst (bs.map V.ref))∧Paired (FT H) bs ys∧ys.length≤1000∧∀(d:Addr)(H':Hp),H d=none→Same H H'→H' d=some (.dT (af (ay [] ys)))→Q (.ref d) H'
def sD:Sp:=fun vs H Q _=>∃(r:Addr)(ts:List Th),vs=[.ref r]∧DV H (.ref r) (aR ts)∧ts.length≤1000∧∀H',Same H H'→Q (.int (aI ts)) H'
def eO:Sp:=fun vs H Q _=>∃(r:Addr)(ts:List Th),vs=[.ref r]∧DV H (.ref r) (aR ts)∧ts.length≤1000∧∀(d:Addr)(H':Hp),H d=none→Same H H'→H' d=some (.dT (af (av ts)))→Q (.ref d) H'
def oz:Sp:=fun vs H Q _=>∃(p:Addr)(n or:Int),vs=[.ref p,.int or]∧KAt H p (0,n)∧0≤or∧or≤20∧∀H',Same H H'→Q (.bl (inB or (0,n))) H'
def cZ:Sp:=fun vs H Q _=>∃(r q p:Addr)(ts:List Th)(Ar or total:Int)(qs Av:Sps),vs=[.ref r,.ref q,.ref p]∧DV H (.ref r) (aR ts)∧ts.length≤1000∧LadAt H q Ar or total qs∧(qs.map (·.1)).Nodup∧qs.length≤400∧0≤or∧or≤20∧PprAt H p Av∧Av.length≤20000∧∀H',Same H H'→Q (.bl (eh or total ts qs Av)) H'
theorem mB{p:Addr}{H0 H1 H2:Hp}(n:H0 p=none)(s:Same H0 H1)(g:Grw p H1 H2):Same H0 H2:=fun b u e=>(Zf (g b u (by rw[Zg (Zd e n)];exact s b u e))).2
theorem lD(ps:Sps)(k:Int×Int)(m:Int):(bq ps k m).length≤ps.length+2:=by
 have a:=W2 ps (ad k) (cnt ps (ad k)+m);have b:=W2 (ao ps (ad k) (cnt ps (ad k)+m)) k (cnt ps k-m);unfold bq
 split
 ·have:=oN (ao (ao ps (ad k) (cnt ps (ad k)+m)) k (cnt ps k-m)) k;omega
 ·omega
theorem oo{ps:Sps}(nd:(ps.map (·.1)).Nodup):((af ps).map (·.1)).Nodup:=by
 rw[Vg];exact yZ.mpr (nd.imp fun h e=>h (Vd e))
section
variable{P:Program}{w:World}{K:W.Frag}{mg:Str→Option Value}{base:Heap}{f:Addr}{fd:FuncData}
theorem oq(aS:Has P w K mg base "parent_of" 1 ["stretch"] cy)(F:Fun K "fold_up" "fold_up" cE f fd):FnOk P w K mg base CX0 2 f fd ["counts","stretch","many"] kr:=by
 refine F.ok Vv (fun vs H Q E h=>?_) (fun cdv A outer s H vs Q E hr h=>?_)
 ·obtain⟨d,p,ps,k,m,rfl,_⟩:=h;rfl
 obtain⟨d,p,ps,k,m,rfl,e_d,Ax,hk,pl,hq⟩:=h;have lk:=Qx hk;obtain⟨c,hc⟩:∃c,c=cnt ps k:=⟨_,rfl⟩;rw[←hc]at lk;unfold bq at hq;rw[←hc]at hq;refine⟨_,(Z3 (Zy 3 Vv.nd rfl (Or.inl rfl) (Z4 aS hr (Z0 (pv 1) Z1))) Zb),?_⟩;refine⟨_,rfl,p,k,rfl,Ax,fun q nq=>?_⟩;have g1:=O8 (o:=.tup [.int (ad k).1,.int (ad k).2]) e_d nq;have s1:=Z6 nq (.tup [.int (ad k).1,.int (ad k).2]);have AC:KAt (upd H q (.tup [.int (ad k).1,.int (ad k).2])) q (ad k):=Z2;have e_d:=s1 _ _ e_d;have Ax:KAt _ p k:=s1 _ _ Ax;generalize upd H q (.tup [.int (ad k).1,.int (ad k).2])=H1 at g1 AC e_d Ax⊢;have tupd:∀{H:Hp}{b:Addr}{j:Int×Int}{kvs:List (List Key×V)}{o:HO},H d=some (.dT kvs)→KAt H b j→KAt (upd H d o) b j:=fun{H b j kvs o} e eb=>by
  show upd H d o b=_;rw[Za (U9 eb e (by intro z;cases z))];exact eb
 refine⟨_,(Z3 (W3 (Yg hr) (pv 0) (pv 3) (Ze Zu (X0 (Yg hr) (pv 0) (pv 3) Z5 ⟨rfl,rfl,rfl,rfl⟩) (pv 2)) rfl) Zb),?_⟩;obtain⟨n0,hn0,h0⟩:∃n,n=cnt ps (ad k)∧(ax ps (ad k)).getD (.int 0)=.int n:=⟨_,rfl,Yr _ _⟩;rw[←hn0]at hq;have l1:=W2 ps (ad k) (n0+m);refine⟨_,rfl,d,rfl,.inr ⟨_,.inl e_d⟩,_,rfl,_,Y7 e_d AC,_,rfl,n0,m,h0,rfl,_,rfl,_,rfl,d,_,rfl,DPut.t (k:=kk (ad k)) e_d AC (Zj (by rw[Zk];omega)),?_⟩;have g2:Grw d H (upd H1 d (.dT (aF (af ps) (kk (ad k)) (.int (n0+m))))):=g1.trans X2;have e8:=tupd (o:=.dT (aF (af ps) (kk (ad k)) (.int (n0+m)))) e_d Ax;have dI:(upd H1 d (.dT (aF (af ps) (kk (ad k)) (.int (n0+m))))) d=some (.dT (af (ao ps (ad k) (n0+m)))):=by rw[←Wt];exact Z2
 generalize upd H1 d (.dT (aF (af ps) (kk (ad k)) (.int (n0+m))))=H2 at g2 e8 dI⊢;refine⟨_,(Z3 (W3 (Yg hr) (pv 0) (pv 1) (Ze Xj (Wf (Yg hr) (pv 0) (pv 1) (fun _ _=>rfl)) (pv 2)) rfl) Zb),?_⟩;have lk2:ax (ao ps (ad k) (n0+m)) k=some (.int c):=by rw[Xb,xz (Va k)];exact lk
 generalize ao ps (ad k) (n0+m)=qs at hq dI lk2 l1;have l2:=W2 qs k (c-m);refine⟨_,rfl,_,rfl,d,.int c,rfl,by rw[←lk2];exact Y7 dI e8,_,rfl,_,_,rfl,rfl,_,rfl,_,rfl,d,_,rfl,DPut.t (k:=kk k) dI e8 (Zj (by rw[Zk];omega)),?_⟩;have g3:Grw d H (upd H2 d (.dT (aF (af qs) (kk k) (.int (c-m))))):=g2.trans X2;have ja:=tupd (o:=.dT (aF (af qs) (kk k) (.int (c-m)))) dI e8;have c_:(upd H2 d (.dT (aF (af qs) (kk k) (.int (c-m))))) d=some (.dT (af (ao qs k (c-m)))):=by rw[show af (ao qs k (c-m))=aF (af qs) (kk k) (.int (c-m)) from(Wt _ _ _).symm];exact Z2
 generalize upd H2 d (.dT (aF (af qs) (kk k) (.int (c-m))))=H3 at g3 ja c_⊢;refine⟨_,(Z7 (Y8 (Zi S8 (Wf (Yg hr) (pv 0) (pv 1) (fun _ _=>rfl)) Z5 (Zh _)) (Z7 (Xh (Uf yI PySem.F.slot_dict_pop PySem.F.type_dict_pop (jH hr.units) (pv 0) (Z0 (pv 1) Z1)))) Zr)),?_⟩;have lk3:ax (ao qs k (c-m)) k=some (.int (c-m)):=by rw[Xb,xC rfl]
 generalize ao qs k (c-m)=rs at hq c_ lk3 l2;refine⟨_,rfl,_,rfl,d,.int (c-m),rfl,by rw[←lk3];exact Y7 c_ ja,rfl,_,rfl,Xf (fun z=>?_) (fun z=>?_)⟩
 ·have z:c-m=0:=by simpa using z
  rw[xC z]at hq;refine⟨_,rfl,T6 c_,_,rfl,d,p,_,kk k,_,rfl,rfl,c_,ja,lk3,?_⟩;refine hq _ (g3.trans X2) ?_;rw[←j6];exact Z2
 ·have z:¬(c-m=0):=by simpa using z
  rw[xz z]at hq;exact hq _ g3 c_
theorem rU(aJ:mg "dict"=none)(F:Fun K "added_counts" "added_counts" a6 f fd):FnOk P w K mg base CX0 1 f fd ["one","other"] je:=by
 refine F.ok Y4 (fun vs H Q E h=>?_) (fun cdv A outer s H vs Q E hr h=>?_)
 ·obtain⟨c1,c2,bs,ys,rfl,_⟩:=h;rfl
 obtain⟨c1,c2,bs,ys,rfl,e1,e2,p2,xl,hq⟩:=h;refine⟨_,(Z3 (Zy 2 Y4.nd rfl (Or.inl rfl) (Y9 (Xr rfl hr.units) rfl aJ yX (Z0 (pv 0) Z1))) Zb),?_⟩;have nd:((af []).map (·.1)).Nodup:=yb;refine⟨_,rfl,c1,_,af [],rfl,e1,Tm (as:=[]) .nil,by rw[Zk];exact zf _,fun d n_d=>?_⟩;rw[Wu nd];have sm:=Z6 n_d (.dT (af []));have ed:(upd H d (.dT (af []))) d=some (.dT (af [])):=Z2;generalize upd H d (.dT (af []))=H1 at sm ed⊢;have bl:=xL p2;refine⟨_,(Z3 (X7 yc rfl (Yv (pv 1)) (Y6 rfl (Z8 (Z9 (i:=3) Y4.nd rfl (Or.inl rfl)) (Z8 (Z9 (i:=4) Y4.nd rfl (Or.inl rfl)) Zo)))
 (Z7 (W3 (Yg hr) (pv 2) (pv 3) (Ze Zu (X0 (Yg hr) (pv 2) (pv 3) Z5 ⟨rfl,rfl,rfl,rfl⟩) (pv 4)) rfl))) Zb),?_⟩
 refine⟨_,rfl,c2,rfl,⟨_,SqL.of (sm _ _ e2)⟩,?_⟩;refine Xq (xs:=bs.map V.ref) (fun i σ H'=>∃(o3 o4:Option V),σ=[some (.ref c1),some (.ref c2),some (.ref d),o3,o4]∧Same H H'∧H' d=some (.dT (af (ay [] (ys.take i))))∧(ay [] (ys.take i)).length≤i) ⟨_,_,rfl,sm,ed,xA _⟩ ?_ ?_ ?_
 ·rintro i σ H' _ ⟨_,_,_,g,_⟩;exact SqL.of (g _ _ e2)
 ·rintro i x σ H' N B1 R hN hR hx ⟨o3,o4,rfl,g,ed,al⟩;obtain⟨a,p,rfl,hp,b,AB,Aw⟩:=Ve p2 hx;have il:i<ys.length:=(xI.mp hp).1;have AB:=g _ _ AB;have Aw:KAt H' b p.1:=g _ _ Aw;have st:ay [] (ys.take (i+1))=ao (ay [] (ys.take i)) p.1 (cnt (ay [] (ys.take i)) p.1+p.2):=by rw[Zv hp,Sq]
  rw[st]at hN;generalize ay [] (ys.take i)=zs at ed al hN;have l1:=W2 zs p.1 (cnt zs p.1+p.2);refine⟨a,_,rfl,SqT.of AB,rfl,_,_,rfl,_,_,rfl,rfl,?_⟩;refine⟨_,rfl,d,rfl,.inr ⟨_,.inl ed⟩,_,rfl,_,Y7 ed Aw,_,rfl,_,p.2,Yr _ _,rfl,_,rfl,_,rfl,d,_,rfl,DPut.t (k:=kk p.1) ed Aw (Zj (by rw[Zk];omega)),?_⟩;refine hN _ _ ⟨_,_,rfl,fun x w e=>?_,by rw[←Wt];exact Z2,by omega⟩;rw[Za (Zd e n_d)];exact g _ _ e
 ·rintro σ H' ⟨o3,o4,rfl,g,ed,_⟩;rw[az,bl,xX]at ed;exact⟨_,(Z7 (Zc (pv 2))),_,rfl,hq d _ n_d g ed⟩
theorem t7(ei:mg "sum"=none)(F:Fun K "things_in" "things_in" cw f fd):FnOk P w K mg base CX0 1 f fd ["stream"] sD:=by
 refine F.ok N0 (fun vs H Q E h=>?_) (fun cdv A outer s H vs Q E hr h=>?_)
 ·obtain⟨r,ts,rfl,_⟩:=h;rfl
 obtain⟨r,ts,rfl,hd,tl,hq⟩:=h;refine⟨_,(Z7 (Zc (Y1 (gR rfl) rfl ei PyProof.Rows.boot_sum (Z0 (Xw (own:=["day","mark","number","many"]) (Sl rfl rfl) (Yv (pv 0))
  (fun _ _ _ _ _=>(V0 K 4 rfl rfl (Z8 (Z9 (i:=0) Yw rfl (Or.inl rfl) (Or.inr rfl)) (Z8 (Z9 (i:=1) Yw rfl (Or.inl rfl) (Or.inr rfl)) (Z8 (Z9 (i:=2) Yw rfl (Or.inl rfl) (Or.inr rfl)) (Z8 (Z9 (i:=3) Yw rfl (Or.inl rfl) (Or.inr rfl)) Zo)))))) (fun _ _ _ _ _=>We)
  (fun _ _ _ _ _=>(pv 3))) Z1)))),?_⟩
 obtain⟨_,xs,e0,e_r,ds⟩:=DV.list_inv hd;cases e0;refine⟨_,rfl,r,rfl,⟨_,SqL.of e_r⟩,gB (fun _=>true) (fun t=>.int t.many) e_r ds (by omega) ?_ ?_⟩
 ·rintro t c ys C mt ec h1 _;exact⟨c,_,rfl,SqT.of ec,rfl,_,_,rfl,_,_,rfl,_,_,rfl,_,_,rfl,rfl,Wk.refl _,_,rfl,h1 rfl⟩
 intro q nq;refine⟨q,ts.map Th.many,rfl,SqL.of ?_,hq _ (Z6 nq _)⟩;rw[Z2,List.filter_eq_self.mpr (fun _ _=>rfl),x8];rfl
theorem uE(aP:Has P w K mg base "added_counts" 1 ["one","other"] je)(F:Fun K "standing_of" "standing_of" bO f fd):FnOk P w K mg base CX0 2 f fd ["stream"] eO:=by
 refine F.ok Qi (fun vs H Q E h=>?_) (fun cdv A outer s H vs Q E hr h=>?_)
 ·obtain⟨r,ts,rfl,_⟩:=h;rfl
 obtain⟨r,ts,rfl,hd,tl,hq⟩:=h;refine⟨_,(Z7 (Zc (Z4 aP hr (Z0 (Zn Z1) (Z0 (Xw (own:=["day","mark","number","many"]) (Sl rfl rfl) (Yv (pv 0))
  (fun _ _ _ _ _=>(V0 K 4 rfl rfl (Z8 (Z9 (i:=0) Yj rfl (Or.inl rfl) (Or.inr rfl)) (Z8 (Z9 (i:=1) Yj rfl (Or.inl rfl) (Or.inr rfl)) (Z8 (Z9 (i:=2) Yj rfl (Or.inl rfl) (Or.inr rfl)) (Z8 (Z9 (i:=3) Yj rfl (Or.inl rfl) (Or.inr rfl)) Zo)))))) (fun _ _ _ _ _=>We)
  (fun _ _ _ _ _=>(Zn (Z0 (Zn (Z0 Z5 (Z0 (pv 2) Z1))) (Z0 (pv 3) Z1))))) Z1))))),?_⟩
 obtain⟨_,xs,e0,e_r,ds⟩:=DV.list_inv hd;cases e0;have xl:=ds.length;rw[az]at xl;refine⟨leN rfl,fun c n_c=>?_⟩;have s1:=Z6 n_c (.tup []);have Az:(upd H c (.tup [])) c=some (.tup []):=Z2;generalize upd H c (.tup [])=H1 at s1 Az⊢;have wa:=s1 _ _ e_r;refine⟨_,rfl,r,rfl,⟨_,SqL.of wa⟩,?_⟩;refine Wo (xs:=xs) (fun n ys H'=>∃bs:List Addr,Same H1 H'∧ys=bs.map V.ref∧Paired (FT H') bs ((cr ts).take n)) ⟨[],Same.refl _,rfl,.nil⟩ ?_ ?_ ?_
 ·rintro n ys H' _ ⟨_,g,_⟩;exact SqL.of (g _ _ wa)
 ·rintro n x ys H' C hx ⟨bs,g,rfl,pr⟩ hC;have nl:=(xI.mp hx).1;obtain⟨t,c',ht,rfl,ec,mt⟩:=DVs.th_at ds hx;have ec:=g _ _ (s1 _ _ ec);have bl:=xL pr;rw[xW]at bl;refine⟨Zj (by rw[az];omega),c',_,rfl,SqT.of ec,rfl,_,_,rfl,_,_,rfl,_,_,rfl,_,_,rfl,rfl,Wk.refl _,_,rfl,leN rfl,fun a na=>?_⟩;have g1:=Z6 na (.tup [.int 0,.int t.num]);have AB:KAt (upd H' a (.tup [.int 0,.int t.num])) a (0,t.num):=Z2;generalize upd H' a (.tup [.int 0,.int t.num])=H2 at g1 AB⊢;refine⟨_,rfl,leN rfl,fun b nb=>?_⟩;have g2:=Z6 nb (.tup [.ref a,.int t.many]);have Aw:(upd H2 b (.tup [.ref a,.int t.many])) b=some (.tup [.ref a,.int t.many]):=Z2;have AB:KAt _ a (0,t.num):=g2 _ _ AB;generalize upd H2 b (.tup [.ref a,.int t.many])=H3 at g2 AB Aw⊢;refine hC _ _ ⟨bs++[b],g.trans (g1.trans g2),by rw[xN];rfl,?_⟩;have h2:(cr ts)[n]?=some ((0,t.num),t.many):=by
   unfold cr;rw[xZ,ht];rfl
  rw[Zv h2];exact zR (Paired.mapP pr fun _ _ f=>Zs (g1.trans g2) f) ⟨a,Aw,AB⟩
 rintro ys H' ⟨bs,g,rfl,pr⟩;have sl:(cr ts).length=ts.length:=az _;rw[xl,←sl,xX]at pr;have bl:=xL pr;refine⟨Zl (by rw[az];omega),fun l nl=>?_⟩;have g2:=Z6 nl (.lst (bs.map V.ref));refine⟨c,l,bs,cr ts,rfl,g2 _ _ (g _ _ Az),Z2,Paired.mapP pr fun _ _ f=>Zs g2 f,by omega,fun d H3 nd g3 ed=>?_⟩;exact hq d _ (s1.free (g.free (g2.free nd))) (s1.trans (g.trans (g2.trans g3))) ed
theorem Pm(am:mg "isinstance"=none)(bw:mg "tuple"=none)(bI:mg "len"=none)(bH:Has P w K mg base "is_whole_within" 3 ["thing","least","most"] wp)(bS:Has P w K mg base "last_of" 2 ["stretch"] fq)(F:Fun K "is_stretch" "is_stretch" bX f fd):FnOk P w K mg base CX0 4 f fd ["thing","deep"] oz:=by
 refine F.ok V7 (fun vs H Q E h=>?_) (fun cdv A outer s H vs Q E hr h=>?_)
 ·obtain⟨p,n,or,rfl,_⟩:=h;rfl
 obtain⟨p,n,or,rfl,e,d0,d1,hq⟩:=h;refine⟨_,(Z3 (Y8 (PW.pt (Wz (V9 (Wb (Y1 V4 rfl am yw (Z0 (pv 0) (Z0 (V1 (v:=.ty "tuple") rfl bw PyProof.Rows.boot_tuple rfl) Z1))))) (V8 (Zi Qo (Y1 Xd rfl bI Ah (Z0 (pv 0) Z1)) Z5 (Zh _))))) (Z7 (Zc Xl)) Zr)
 (Z3 (Ys (pv 0) (Y6 rfl (Z8 (Z9 (i:=2) V7.nd rfl (Or.inl rfl)) (Z8 (Z9 (i:=3) V7.nd rfl (Or.inl rfl)) Zo))))
 (Z7 (Zc (R3 (Z4 bH hr (Z0 (pv 2) (Z0 Z5 (Z0 (pv 1) Z1)))) (R1 (Z4 bH hr (Z0 (pv 3) (Z0 Z5 (Z0 (Z4 bS hr (Z0 (Zn (Z0 (Ze Xj (pv 1) (pv 2)) (Z0 Z5 Z1))) Z1)) Z1)))))))))),?_⟩
 have kp:Kd H (.ref p) "tuple":=.tup e;refine⟨_,rfl,_,_,"tuple",_,rfl,kp.ty,kp.kit (by decide) rfl,_,rfl,Xe ?_⟩;refine⟨_,rfl,p,_,rfl,.inr (SqT.of e),rfl,_,rfl,Xe ?_⟩;refine⟨_,rfl,p,_,rfl,SqT.of e,rfl,_,_,rfl,_,_,rfl,rfl,?_⟩;refine⟨_,rfl,_,rfl,0,0,or,rfl,_,rfl,?_⟩;rw[xJ (x5 0),xJ d0];refine U1 ⟨_,rfl,_,rfl,_,rfl,_,_,rfl,rfl,leN rfl,fun r nr=>⟨r,(or-0,0),rfl,Z2,by show 0≤or-0;omega,by show or-0≤20;omega,x5 _,by show(0:Int)≤_;decide,fun H' g=>⟨n,0,_,rfl,?_⟩⟩⟩;have e2:aD (or-0,0)=2^or.toNat-1:=by
  unfold aD;show(0+1)*(2:Int)^(or-0).toNat-1=_;rw[Int.sub_zero,zJ,yE]
 rw[e2];exact hq _ ((Z6 nr _).trans g)
end
end K34
namespace L2
open PySem PySem.Spec PyProof.Rows
section
variable{P:Program}{w:World}{A:Around}{E:Value→Shared→Prop}{s:Shared}{a b:Addr}{xa xb:List TKv}{H:Hp}{ps qs:Sps}
theorem Te{α β:Type}{F:α→β→Prop}:∀{xs:List α}{ys:List β}{i:Nat}{x:α},Paired F xs ys→xs[i]?=some x→∃y,ys[i]?=some y∧F x y
 |_,_,_,_,.nil,e=>by simp at e
 |_,_,0,_,.cons a _,e=>by simp at e;subst e;exact⟨_,rfl,a⟩
 |_,_,i+1,x,.cons _ r,e=>by
  obtain⟨y,h1,h2⟩:=Te (i:=i) r (by simpa using e);exact⟨y,by simpa using h1,h2⟩
theorem o_{α β:Type}{f:α→β}:∀{l:List α},(l.map f).Nodup→∀{a b:α},a∈l→b∈l→f a=f b→a=b
 |x::l,nd,a,b,ha,hb,e=>by
  rw[xD,x3]at nd
  rcases xQ.mp ha with ha | ha
  ·rcases xQ.mp hb with hb | hb
   ·rw[ha,hb]
   ·exact absurd (xB.mpr ⟨b,hb,by rw[←e,ha]⟩) nd.1
  ·rcases xQ.mp hb with hb | hb
   ·exact absurd (xB.mpr ⟨a,ha,by rw[e,hb]⟩) nd.1
   ·exact o_ nd.2 ha hb e
theorem sI{ps:Sps}{xs:List TKv}(r:KT H (af ps) xs){j:Nat}{x:TKv}(h:xs[j]?=some x):∃p t,ps[j]?=some p∧x.1=kk p.1∧x.2.2=.int p.2 t:=by
 have kl:=xL r;rw[Zk]at kl;have hj:j<ps.length:=by rw[kl];exact(xI.mp h).1
 obtain⟨p,hp⟩:∃p,ps[j]?=some p:=⟨ps[j],yx hj⟩;have e2:(af ps)[j]?=some (kk p.1,.int p.2):=by unfold af;rw[xZ,hp];rfl
 obtain⟨y,hy,f⟩:=Te r e2;rw[h]at hy;cases hy;obtain⟨f1,_,t,f3⟩:=f;exact⟨p,t,hp,f1.symm,f3⟩
theorem py{nm:String}{Q:Bool→Shared→Prop}(hu:A.units<cLine)(ha:(a==sysModules)=false)(hb:(b==sysModules)=false)(da:s.heap.DictOfH (tupleKind (ak P w)) a xa)(db:s.heap.DictOfH (tupleKind (ak P w)) b xb)(ra:KT H (af ps) xa)(rb:KT H (af qs) xb)(h:Q (decide (ps.length=qs.length) && ps.all fun p=>decide (p∈qs)) s):
  wpAny (model P w) A (Builtin.Dict.samePairs nm a b) Q E s:=by
 obtain⟨oa,ea,pa,ga,xca,qa,ta,ka,na⟩:=da;obtain⟨ob,eb,pb,gb,xcb,qb,tb,kb,nb⟩:=db;have la:ea.size=ps.length:=by rw[←yA,ta,az,←xL ra,Zk]
 have lb:eb.size=qs.length:=by rw[←yA,tb,az,←xL rb,Zk]
 have sh:∀{d:Addr}{R:Unit→Shared→Prop},(d==sysModules)=false→R () s→wpAny (model P w) A (Builtin.Dict.showsAll d) R E s:=fun{d R} hd hr=>by
  unfold Builtin.Dict.showsAll;rw[xz (by rw[hd];decide)];exact pi hr
 unfold Builtin.Dict.samePairs;refine ae (sh ha (ae (sh hb (ae (ym ga qa (ae (ym gb qb ?_)))))));by_cases hl:ps.length=qs.length
 ·rw[if_neg (by rw[la,lb,hl];simp)];refine ae (Ai ga qa (ae ?_));rw[Std.Legacy.Range.forIn_eq_forIn_range'];refine yN (wpAny_forIn_list _ (fun rest r s'=>∃i,rest=List.range' i (ea.size-i)∧i≤ea.size∧r=(none,())∧s=s'∧∀p∈ps.take i,p∈qs)
   (fun r s'=>s=s'∧((r=(none,())∧(ps.all fun p=>decide (p∈qs))=true)∨(r=(some false,())∧(ps.all fun p=>decide (p∈qs))=false))) ?_ ?_ _ _ ⟨0,?_,zf _,rfl,rfl,?_⟩) ?_ (fun _ _ z=>z)
  ·rintro x rest r s' ⟨i,he,hi,rfl,rfl,hp⟩;have hin:i<ea.size:=by
    rcases zd i ea.size with z | z
    ·exact z
    ·rw[Nat.sub_eq_zero_of_le z]at he;cases he
   rw[show ea.size-i=(ea.size-(i+1))+1 by omega,List.range'_succ]at he;obtain⟨rfl,rfl⟩:=List.cons.inj he.symm;have hge:ea[i]?=some ea[i]:=x9 hin;have hx:(xa.map (entryOfKey (tupleKind (ak P w))))[i]?=some ea[i]:=by rw[←ta,yk];exact hge
   rw[xZ]at hx;obtain⟨x,hxi,hxe⟩:=yO.mp hx;obtain⟨p,t,hpi,e1,e2⟩:=sI ra hxi;have tk:ps.take (i+1)=ps.take i++[p]:=Zv hpi;have fF:p∉qs→(ps.all fun p=>decide (p∈qs))=false:=fun hs=>List.all_eq_false.mpr ⟨p,xT hpi,by rw[yh hs];decide⟩;have fT:p∈qs→∀q∈ps.take (i+1),q∈qs:=fun hs q hq=>by
    rw[tk]at hq
    rcases xR.mp hq with z | z
    ·exact hp q z
    ·rw[xF.mp z];exact hs
   have kx:ea[i].key=.ref x.2.1:=by rw[←hxe];rfl
   have hv:ea[i].val=.int p.2 t:=by rw[←hxe];exact e2
   have hh:ea[i].hash=(tupleKind (ak P w)).hash x.1:=by rw[←hxe];rfl
   refine ae (ym ga qa ?_);rw[hge];refine ae (yp (ae ?_));rw[kx,hh];refine wpAny_dictFind_heap (show A.units<cLine from hu) (ka x (xT hxi)) gb qb tb kb nb (fun no=>?_) (fun j q hj=>?_)
   ·refine pi ?_;rw[xC (by decide)];refine pi ⟨rfl,.inr ⟨rfl,fF fun hm=>?_⟩⟩;obtain⟨j,hj⟩:=Ag hm;have e3:(af qs)[j]?=some (kk p.1,.int p.2):=by unfold af;rw[xZ,hj];rfl
    obtain⟨y,hy,f⟩:=Te rb e3;refine no j y.2 ?_;rw[hy,e1];exact yP some (yM f.1.symm rfl)
   ·obtain⟨p2,t2,hp2,e3,e4⟩:=sI rb hj;have e3:x.1=kk p2.1:=e3;have ke:p.1=p2.1:=Vd (e1.symm.trans e3);have hbj:eb[j]?=some (entryOfKey (tupleKind (ak P w)) (x.1,q)):=by
     rw[←yk,tb,xZ,hj];rfl
    refine ae (ym gb qb ?_);rw[hbj];refine yp ?_;rw[hv,show(entryOfKey (tupleKind (ak P w)) (x.1,q)).val=.int p2.2 t2 from e4];refine wpAny_eqBool_int ?_;by_cases z:p.2=p2.2
    ·rw[if_neg (by simp[z])];refine ae (Ai ga qa ?_);rw[if_neg (by simp)];refine pi ⟨i+1,rfl,by omega,rfl,rfl,fT ?_⟩;rw[show p=p2 from yM ke z];exact xT hp2
    ·rw[if_pos (by simp[z])];refine pi ⟨rfl,.inr ⟨rfl,fF fun hm=>z ?_⟩⟩;have nq:(qs.map (·.1)).Nodup:=by
      have:(xb.map (·.1))=(af qs).map (·.1):=rc rb;rw[this,Vg]at nb;exact(yZ.mp nb).imp fun h e=>h (by rw[e])
     have:=o_ nq hm (xT hp2) ke;rw[this]
  ·rintro r s' ⟨i,he,hi,rfl,rfl,hp⟩;refine⟨rfl,.inl ⟨rfl,?_⟩⟩;have hz:ea.size-i=0:=by
    cases hq:ea.size-i with
    |zero=>rfl
    |succ q=>rw[hq,List.range'_succ]at he;cases he
   rw[List.take_of_length_le (by omega)]at hp;exact yr.mpr fun p hm=>xJ (hp p hm)
  ·simp
  ·intro p hp;simp at hp
  ·rintro r s' ⟨rfl,⟨rfl,hv⟩|⟨rfl,hv⟩⟩
   ·rw[hv,xJ hl]at h;exact pi h
   ·rw[hv,Bool.and_false]at h;exact pi h
 ·rw[if_pos (by rw[la,lb];simpa using hl)];rw[yh hl,zU]at h;exact ae (z7 (pi h))
end
section
variable{P:Program}{w:World}{A:Around}{E:Value→Shared→Prop}{s:Shared}{a b:Addr}{xa xb:List TKv}{ps qs:Sps}
theorem Qv(H:Hp)(ha:(a==sysModules)=false)(hb:(b==sysModules)=false):MeetsIn P w (Builtin.«dict.__eq__» ⟨[.ref a,.ref b],[]⟩) (fun A R s=>A.in1.units<cLine∧s.heap.DictOfH (tupleKind (ak P w)) a xa∧s.heap.DictOfH (tupleKind (ak P w)) b xb∧
  KT H (af ps) xa∧KT H (af qs) xb∧R (.ok (.ret (.bool (decide (ps.length=qs.length) && ps.all fun p=>decide (p∈qs))))) s):=
 .of_wp fun A R s ⟨hu,da,db,ra,rb,h⟩=>by
  show wpAny _ _ (Builtin.Dict.dictSlotArgs "__eq__" ⟨[.ref a,.ref b],[]⟩ >>= _) _ _ s;refine ae ?_;unfold Builtin.Dict.dictSlotArgs;refine ae (y3 da.typeIs ?_);show wpAny _ _ (pure (Value.ref a,Value.ref b)) _ _ s;refine pi ?_;refine ae (wpAny_isInstance db.typeIs isSubtype_dict_dict ?_);rw[xz (by decide)];show wpAny _ _ (Builtin.Dict.samePairs _ a b >>= _) _ _ s;refine ae (py (show A.in1.units<cLine from hu) ha hb da db ra rb ?_);have bt:∀c:Bool,(c==true)=c:=fun c=>by cases c <;> rfl
  rw[bt];exact pi ⟨_,rfl,h⟩
def vY:R2:=fun x y H Q=>∃a b ps qs,x=.ref a∧y=.ref b∧H a=some (.dT (af ps))∧H b=some (.dT (af qs))∧Q (.bl (decide (ps.length=qs.length) && ps.all fun p=>decide (p∈qs))) H
theorem jP{X:Cx}(hu:X.A.units+64<cLine):OpR X (compareOp .Eq) vY:=by
 intro As s σ H x y v u Q I rx ry h;obtain⟨a,b,ps,qs,rfl,rfl,ea,eb,q⟩:=h;cases rx;cases ry;obtain⟨za,ha,va,ra,da⟩:=k5 I.hok ea;obtain⟨zb,hb,vb,rb,db⟩:=k5 I.hok eb;refine wpAny_richCompare_same_room (op:=.Eq) da.typeIs db.typeIs PySem.F.slot_dict_eq (call_meetsIn PySem.F.slot_dict_eq da.typeIs PySem.F.entry_dict_eq (PySem.F.args_dict_eq_2 _ _) (Qv H ha hb) ⟨?_,da,db,ra,rb,?_⟩) (by omega)
 ·exact(show X.A.units+1<cLine by omega)
 ·exact⟨(fun z=>nomatch z),.bl _,H,I,rfl,q⟩
end
end L2
namespace K34
open PySem L2 Ld
theorem V5:∀{ys xs:Sps}{k:Int×Int},k∈(ay xs ys).map (·.1)→k∈xs.map (·.1)∨k∈ys.map (·.1)
 | [],_,_,h=>.inl h
 |p::ys,xs,k,h=>by
  rw[W8]at h
  rcases V5 h with h | h
  ·rw[Xu]at h
   split at h
   ·exact .inl h
   ·rcases xR.mp h with h | h
    ·exact .inl h
    ·rw[xF.mp h];exact .inr (.head _)
  ·exact .inr (.tail _ h)
theorem Qd{ts:List Th}{e:(Int×Int)×Int}(h:e∈av ts):∃n,e.1=(0,n):=by
 rcases V5 (xB.mpr ⟨e,h,rfl⟩)with h | h
 ·exact absurd h ya
 ·unfold cr at h;rw[x8]at h;obtain⟨t,_,e⟩:=xB.mp h;exact⟨t.num,e.symm⟩
theorem Vq(ts:List Th):(av ts).length≤ts.length:=by
 have:=Wi (cr ts) [];rw[yQ,Am,show(cr ts).length=ts.length from az _]at this;exact this
theorem Q9{ps:Sps}{i:Nat}{p:List Key×V}(h:(af ps)[i]?=some p):∃q,ps[i]?=some q∧p=(kk q.1,.int q.2):=by
 unfold af at h;rw[xZ]at h;cases e:ps[i]? with
 |none=>rw[e]at h;cases h
 |some q=>rw[e]at h;cases h;exact⟨q,rfl,rfl⟩
theorem Vh{H H':Hp}{d:Addr}{o:Obj}{kvs:List (List Key×V)}(e:H d=some (.dT kvs))(g:Same (upd H d (.frz o (.dT kvs))) H'):Same H (upd H' d (.dT kvs)):=fun b u h=>by
 by_cases z:b=d
 ·rw[z]at h⊢;rw[e]at h;rw[←h];exact Z2
 ·rw[Za z];exact g b u (by rw[Za z];exact h)
theorem gH{α:Type}{l:List α}{i:Nat}{x:α}(h:l[i]?=some x):l.drop i=x::l.drop (i+1):=by
 obtain⟨hi,e⟩:=xI.mp h;rw[List.drop_eq_getElem_cons hi,e]
theorem Ul{ps:Sps}{k:Int×Int}(h:1≤cnt ps k):k∈ps.map (·.1):=Classical.byContradiction fun n=>by
 rw[Y3 n]at h;omega
section
variable{P:Program}{w:World}{K:W.Frag}{mg:Str→Option Value}{base:Heap}{f:Addr}{fd:FuncData}
theorem lE(nA:mg "all"=none)(aJ:mg "dict"=none)(bN:Has P w K mg base "standing_of" 2 ["stream"] eO)(gw:Has P w K mg base "things_in" 1 ["stream"] sD)(fG:Has P w K mg base "is_stretch" 4 ["thing","deep"] oz)(dj:Has P w K mg base "fold_up" 2 ["counts","stretch","many"] kr)(F:Fun K "is_folded" "is_folded" cx f fd):FnOk P w K mg base CX0 5 f fd ["stream","ladder","paper"] cZ:=by
 refine F.ok Yo (fun vs H Q E h=>?_) (fun cdv A outer s H vs Q E hr h=>?_)
 ·obtain⟨r,q,p,ts,Ar,or,total,qs,Av,rfl,_⟩:=h;rfl
 obtain⟨r,q,p,ts,Ar,or,total,qs,Av,rfl,k_r,tl,lad,nq,ql,d0,d1,⟨bs,Ax,pb⟩,pl,hq⟩:=h;obtain⟨c,as,AC,Az,pr⟩:=lad.at_;have sl:=Vq ts;have hF:aI ts≠total∨((av ts).all fun e=>inB or e.1)=false→eh or total ts qs Av=false:=fun h=>by
  unfold eh
  rcases h with h | h
  ·rw[yh h,zU,zU]
  ·rw[h,Bool.and_false,zU]
 have hT:aI ts=total→((av ts).all fun e=>inB or e.1)=true→eh or total ts qs Av=dQ or qs (av ts) Av:=fun h1 h2=>by
  unfold eh;rw[xJ h1,h2,Bool.true_and,Bool.true_and]
 generalize eh or total ts qs Av=B at hq hF hT;refine⟨_,(Z3 (Ys (pv 1) (Y6 rfl (Z8 (Z9 (i:=3) Yo.nd rfl (Or.inl rfl)) (Z8 (Z9 (i:=4) Yo.nd rfl (Or.inr rfl)) (Z8 (Z9 (i:=5) Yo.nd rfl (Or.inl rfl)) (Z8 (Z9 (i:=6) Yo.nd rfl (Or.inl rfl)) Zo)))))) Zb),?_⟩;refine⟨_,rfl,q,_,rfl,SqT.of AC,rfl,_,_,rfl,_,_,rfl,_,_,rfl,_,_,rfl,rfl,?_⟩;refine⟨_,(Z3 (Zy 7 Yo.nd rfl (Or.inl rfl) (Z4 bN hr (Z0 (pv 0) Z1))) Zb),?_⟩;refine⟨_,rfl,r,ts,rfl,k_r,tl,fun d H1 n_d g1 e_d=>?_⟩;refine⟨_,(Z3 (Y8 (PW.pt (Wz (Zi Qo (Z4 gw hr (Z0 (pv 0) Z1)) (pv 6) (Zh _)) (V8 (V9 (Wb (Y1 (p7 rfl) rfl nA PyProof.Rows.boot_all (Z0 (jN (Xw (own:=["one"]) (Sl rfl rfl) (S6 (pv 7))
  (fun _ _ _ _ _=>(Z9 (i:=0) Uz rfl (Or.inl rfl) (Or.inr rfl))) (fun _ _ _ _ _=>We)
  (fun _ _ _ _ _=>(Z4 fG hr (Z0 (pv 0) (Z0 (pv 5) Z1)))))) Z1))))))) (Z7 (Zc Xl)) Zr) Zb),?_⟩
 refine⟨_,rfl,r,ts,rfl,k_r.mono g1,tl,fun H2 g2=>⟨_,rfl,rfl,_,rfl,Xf (fun c1=>U1 ?_) (fun c1=>?_)⟩⟩
 ·have c1:aI ts≠total:=by simpa using c1
  rw[hF (.inl c1)]at hq;exact hq _ (g1.trans g2)
 have c1:aI ts=total:=by simpa using c1
 have hF2:=fun h=>hF (.inr h);have hT:=hT c1;clear hF;have e_d:=g2 _ _ e_d;have gg:=g1.trans g2;clear g1 g2;have nS:∀e∈av ts,∃n,e.1=(0,n):=fun e h=>Qd h;generalize av ts=S at e_d sl hF2 hT nS;refine⟨d,_,e_d,fun o=>⟨_,rfl,d,o,_,rfl,Z2,?_⟩⟩;refine Tp (fun i ys H'=>Same (upd H2 d (.frz o (.dT (af S)))) H'∧ys=((S.take i).map fun e=>inB or e.1).map V.bl) ⟨Same.refl _,rfl⟩ ?_ ?_ ?_ ?_
 ·rintro i ys H' ⟨g5,_⟩;exact g5 _ _ Z2
 ·rintro i p0 b ys H5 C hp0 Aw ⟨g5,rfl⟩ hC;obtain⟨e,he,rfl⟩:=Q9 hp0;have em:=xT he;obtain⟨n,hn⟩:=nS e em;have Aw:KAt H5 b e.1:=Aw;rw[hn]at Aw;refine⟨Zj (by rw[az,az,xW];omega),Wk.refl _,_,rfl,_,rfl,b,n,or,rfl,Aw,d0,d1,fun H6 g6=>hC _ _ ⟨g5.trans g6,?_⟩⟩;rw[Zv he,xN,xN];show _=_++[V.bl (inB or e.1)];rw[hn]
 ·rintro i ys H' ⟨_,rfl⟩;exact Zj (by rw[az,az,xW];omega)
 rintro ys H5 ⟨g5,rfl⟩;rw[Zk,xX];refine⟨Zl (by rw[az,az];omega),fun l n_l=>?_⟩;have ld:l≠d:=fun z=>by rw[z,g5 _ _ Z2]at n_l;cases n_l
 have g6:=g5.trans (Z6 n_l (.lst ((S.map fun e=>inB or e.1).map V.bl)));have sz:=Vh e_d g6;have gg:=gg.trans sz;have c_:=sz _ _ e_d;refine⟨g6 _ _ Z2,l,_,rfl,SqL.of (by rw[Za ld];exact Z2),?_⟩;rw[List.all_map];generalize upd (upd H5 l (.lst ((S.map fun e=>inB or e.1).map V.bl))) d (.dT (af S))=H6 at gg c_⊢;clear sz g6 g5 e_d;refine⟨_,rfl,Xf (fun c2=>?_) (fun c2=>?_)⟩
 ·have c2:(S.all fun e=>inB or e.1)=false:=by simpa using c2
  rw[hF2 c2]at hq;exact hq _ gg
 have c2:(S.all fun e=>inB or e.1)=true:=by simpa using c2
 rw[hT c2]at hq;clear hT hF2 c1 c2 nS;refine⟨_,(Z3 (X7 yc rfl (Yv (pv 2)) (Y6 rfl (Z8 (Z9 (i:=8) Yo.nd rfl (Or.inl rfl)) (Z8 (Z9 (i:=9) Yo.nd rfl (Or.inl rfl)) Zo)))
 (Z3 (Y8 (PW.pt (Wz (Zi Re (pv 9) Z5 (Zh _)) (Wz (Zi hO (Xa Xc (pv 8) Z5) (pv 4) (Zh _)) (V8 (Zi Rf (pv 9) (X0 (Yg hr) (pv 7) (pv 8) Z5 ⟨rfl,rfl,rfl,rfl⟩) (Zh _)))))) (Z7 (Zc Xl)) Zr)
 (Z7 (Xh (Z4 dj hr (Z0 (pv 7) (Z0 (pv 8) (Z0 (pv 9) Z1)))))))) Zb),?_⟩
 refine⟨_,rfl,p,rfl,⟨_,SqL.of (gg _ _ Ax)⟩,?_⟩;have bl:=xL pb;refine Xq (xs:=bs.map V.ref) (fun i σ H'=>∃(o8 o9:Option V)(ps:Sps),σ=[some (.ref r),some (.ref q),some (.ref p),some (.int Ar),some (.int or),some (.ref c),some (.int total),some (.ref d),o8,o9]∧Same H H'∧H' d=some (.dT (af ps))∧ps.length≤1000+2*i∧dQ or qs ps (Av.drop i)=dQ or qs S Av) ⟨_,_,S,rfl,gg,c_,by omega,rfl⟩ ?_ ?_ ?_
 ·rintro i σ H' _ ⟨_,_,_,_,g,_⟩;exact SqL.of (g _ _ Ax)
 ·rintro i x σ H' N B1 R hN hR hx ⟨o8,o9,ps,rfl,g,ed,al,key⟩;obtain⟨a,⟨k,m⟩,rfl,hp,b,AB,Aw⟩:=Ve pb hx;have il:i<Av.length:=(xI.mp hp).1;have AB:=g _ _ AB;have Aw:KAt H' b k:=g _ _ Aw;rw[gH hp]at key;have key:(if m<1∨or≤k.1∨cnt ps k<m then false else dQ or qs (bq ps k m) (Av.drop (i+1)))=dQ or qs S Av:=key;refine⟨a,_,rfl,SqT.of AB,rfl,_,_,rfl,_,_,rfl,rfl,?_⟩;refine⟨_,rfl,_,_,rfl,rfl,_,rfl,Xf (fun c1=>U1 ?_) (fun c1=>?_)⟩
  ·rw[xC (.inl (xH c1))]at key;rw[←key]at hq;exact hR _ _ (hq _ g)
  have c1:¬m<1:=yF (yy.mpr c1);refine⟨_,rfl,b,_,0,_,rfl,rfl,SqT.of Aw,rfl,_,rfl,_,_,rfl,rfl,_,rfl,Xf (fun c2=>U1 ?_) (fun c2=>?_)⟩
  ·rw[xC (.inr (.inl (xH c2)))]at key;rw[←key]at hq;exact hR _ _ (hq _ g)
  have c2:¬or≤k.1:=yF (yy.mpr c2);refine⟨_,rfl,_,rfl,d,rfl,.inr ⟨_,.inl ed⟩,_,rfl,_,Y7 ed Aw,_,_,rfl,Yr _ _,_,rfl,Xf (fun c3=>?_) (fun c3=>?_)⟩
  ·rw[xC (.inr (.inr (xH c3)))]at key;rw[←key]at hq;exact hR _ _ (hq _ g)
  have c3:¬cnt ps k<m:=yF (yy.mpr c3);rw[xz fun h=>h.elim c1 fun h=>h.elim c2 c3]at key;have l1:=lD ps k m;refine⟨_,rfl,_,rfl,_,rfl,d,b,ps,k,m,rfl,ed,Aw,Ul (by omega),by omega,fun H3 g3 e3=>?_⟩;exact hN _ _ ⟨_,_,_,rfl,mB n_d g g3,e3,by omega,key⟩
 ·rintro σ H' ⟨o8,o9,ps,rfl,g,ed,al,key⟩;rw[az,bl,List.drop_length]at key;have key:eqB ps qs=dQ or qs S Av:=key;rw[←key]at hq;refine⟨_,(Z7 (Zc (Xx (jP hr.units) (pv 7) (Y9 (Xr rfl hr.units) rfl aJ yX (Z0 (pv 5) Z1)) (Zh _)))),?_⟩;refine⟨_,rfl,_,rfl,c,_,_,rfl,g _ _ Az,Tm (Paired.mapP pr fun _ _ f=>Zs g f),by rw[Zk];omega,fun z nz=>?_⟩;rw[Wu (oo nq)];have g4:=Z6 nz (.dT (af qs));exact⟨d,z,ps,qs,rfl,rfl,g4 _ _ ed,Z2,hq _ (g.trans g4)⟩
end
theorem W5{ps:Sps}{k:Int×Int}{n:Int}{p:(Int×Int)×Int}(h:p∈ao ps k n):p=(k,n)∨(p∈ps∧p.1≠k):=by
 unfold ao at h
 split at h
 ·obtain⟨q,hq,rfl⟩:=xB.mp h
  split
  ·rename_i e;exact .inl (by rw[e])
  ·rename_i e;exact .inr ⟨hq,e⟩
 ·rename_i na
  rcases xR.mp h with h | h
  ·exact .inr ⟨h,fun e=>na (Q4.mpr (xB.mpr ⟨p,h,e⟩))⟩
  ·exact .inl (xF.mp h)
theorem Q3{ps:Sps}(nn:∀p∈ps,0≤p.2)(nd:(ps.map (·.1)).Nodup)(k:Int×Int):0≤cnt ps k:=by
 by_cases hk:k∈ps.map (·.1)
 ·obtain⟨p,hp,rfl⟩:=xB.mp hk;rw[Yt nd hp];exact nn p hp
 ·rw[Y3 hk];exact x5 _
def mv(f:Int×Int→Int)(k:Int×Int)(m:Int):Int×Int→Int:=fun x=>if x=k then f k-m else if x=ad k then f x+m else f x
theorem ma(ps:Sps)(k:Int×Int)(m:Int)(x:Int×Int):cnt (bq ps k m) x=mv (cnt ps) k m x:=by
 unfold bq mv
 split
 ·rename_i z;rw[gK];by_cases e:x=k
  ·rw[xC e,xC e,z]
  ·rw[xz e,xz e,Yx,xz e,Yx];by_cases q:x=ad k
   ·rw[xC q,xC q,q]
   ·rw[xz q,xz q]
 ·rw[Yx];by_cases e:x=k
  ·rw[xC e,xC e]
  ·rw[xz e,xz e,Yx];by_cases q:x=ad k
   ·rw[xC q,xC q,q]
   ·rw[xz q,xz q]
def bT(ls:Sps)(k:Int×Int)(m:Int):Sps:=ao (ao ls k (cnt ls k-m)) (ad k) (cnt (ao ls k (cnt ls k-m)) (ad k)+m)
theorem Oh(ls:Sps)(k:Int×Int)(m:Int)(x:Int×Int):cnt (bT ls k m) x=mv (cnt ls) k m x:=by
 unfold bT mv;rw[Yx,Yx,Yx,xz (Ne.symm (Va k))];by_cases e:x=k
 ·rw[xC e,xz (by rw[e];exact Va k),xC e]
 ·by_cases q:x=ad k
  ·rw[xC q,xz e,xC q,q]
  ·rw[xz q,xz e,xz e,xz q]
def eJ(or:Int)(qs:Sps):Sps→Sps→Bool
 |ls,[]=>eqB qs (ls.filter fun p=>decide (0<p.2))
 |ls,(k,m)::r=>if m<1∨¬(0≤k.1∧k.1<or)∨cnt ls k<m then false else eJ or qs (bT ls k m) r
structure Tab(ls:Sps):Prop where
 nd:(ls.map (·.1)).Nodup
 nn:∀p∈ls,0≤p.2
 ht:∀p∈ls,0≤p.1.1
structure Pos(ps:Sps):Prop where
 nd:(ps.map (·.1)).Nodup
 pos:∀p∈ps,0<p.2
theorem gM{ls:Sps}{k:Int×Int}{m:Int}(t:Tab ls)(m1:1≤m)(k0:0≤k.1)(c:m≤cnt ls k):Tab (bT ls k m):=by
 have a:=Q3 t.nn t.nd;unfold bT;rw[Yx,xz (Ne.symm (Va k))];refine⟨Ye (Ye t.nd),fun p hp=>?_,fun p hp=>?_⟩
 ·rcases W5 hp with rfl | ⟨hp,_⟩
  ·have:=a (ad k);show 0≤cnt ls (ad k)+m;omega
  ·rcases W5 hp with rfl | ⟨hp,_⟩
   ·show 0≤cnt ls k-m;omega
   ·exact t.nn p hp
 ·rcases W5 hp with rfl | ⟨hp,_⟩
  ·show 0≤k.1+1;omega
  ·rcases W5 hp with rfl | ⟨hp,_⟩
   ·exact k0
   ·exact t.ht p hp
theorem iq{ps:Sps}{k:Int×Int}{m:Int}(t:Pos ps)(m1:1≤m)(c:m≤cnt ps k):Pos (bq ps k m):=by
 have a:=Q3 (fun p hp=>yY (t.pos p hp)) t.nd;have core:∀p∈ao (ao ps (ad k) (cnt ps (ad k)+m)) k (cnt ps k-m),p.1≠k→0<p.2:=fun p hp n=>by
  rcases W5 hp with rfl | ⟨hp,_⟩
  ·exact absurd rfl n
  ·rcases W5 hp with rfl | ⟨hp,_⟩
   ·have:=a (ad k);show 0<cnt ps (ad k)+m;omega
   ·exact t.pos p hp
 unfold bq
 split
 ·refine⟨Sk (Ye (Ye t.nd)),fun p hp=>?_⟩;obtain⟨h1,h2⟩:=x6.mp hp;exact core p h1 (xH h2)
 ·rename_i z;refine⟨Ye (Ye t.nd),fun p hp=>?_⟩;by_cases e:p.1=k
  ·rcases W5 hp with rfl | ⟨_,n⟩
   ·show 0<cnt ps k-m;omega
   ·exact absurd e n
  ·exact core p hp e
theorem Qc{α:Type}[DecidableEq α]:∀{l m:List α},l.Nodup→(∀a∈l,a∈m)→m.length≤l.length→∀a∈m,a∈l
 | [],m,_,_,h,a,ha=>by
  rw[yQ]at h;rw[List.length_eq_zero_iff.mp (Nat.le_zero.mp h)]at ha;exact ha
 |x::l,m,nd,s,h,a,ha=>by
  rw[x3]at nd;have hx:=s x (.head _);have le:=List.length_erase_of_mem hx;have lp:=List.length_pos_of_mem hx;rw[yn]at h;by_cases e:a=x
  ·rw[e];exact .head _
  ·refine .tail _ (Qc (m:=m.erase x) nd.2 (fun y hy=>?_) (by omega) a ((List.mem_erase_of_ne e).mpr ha));exact(List.mem_erase_of_ne fun(z:y=x)=>nd.1 (by rw[←z];exact hy)).mpr (s y (.tail _ hy))
theorem Vp{ps qs:Sps}(np:ps.Nodup)(nq:qs.Nodup):eqB ps qs=true↔ps.Perm qs:=by
 unfold eqB;rw[ye];refine⟨fun⟨h1,h2⟩=>?_,fun h=>⟨xJ h.length_eq,yr.mpr fun p hp=>xJ (h.mem_iff.mp hp)⟩⟩;have h1:=xH h1;have s:∀a∈ps,a∈qs:=fun a ha=>xH (yr.mp h2 a ha);exact Ru np nq fun a=>⟨s a,Qc np s (by omega) a⟩
theorem Pt{ps ls:Sps}(t:Pos ps)(u:Tab ls)(e:∀k,cnt ps k=cnt ls k):ps.Perm (ls.filter fun p=>decide (0<p.2)):=by
 refine Ru (Uh t.nd) ((Uh u.nd).filter _) fun p=>⟨fun hp=>?_,fun hp=>?_⟩
 ·have h1:=Yt t.nd hp;have h2:=t.pos p hp;rw[e]at h1;have hk:p.1∈ls.map (·.1):=Ul (by omega);obtain⟨q,hq,eq⟩:=xB.mp hk;have h3:=Yt u.nd hq;have:q=p:=yM eq (by rw[←h3,←h1,eq]);rw[←this];refine x6.mpr ⟨hq,xJ ?_⟩;rw[this];exact h2
 ·obtain⟨hq,h2⟩:=x6.mp hp;have h2:=xH h2;have h1:=Yt u.nd hq;rw[←e]at h1;have hk:p.1∈ps.map (·.1):=Ul (by omega);obtain⟨q,hq,eq⟩:=xB.mp hk;have h3:=Yt t.nd hq;have:q=p:=yM eq (by rw[←h3,←h1,eq]);rw[←this];exact hq
theorem jp{or:Int}{qs:Sps}(nq:(qs.map (·.1)).Nodup):∀(r:Sps){ps ls:Sps},Pos ps→Tab ls→(∀k,cnt ps k=cnt ls k)→dQ or qs ps r=eJ or qs ls r
 | [],ps,ls,t,u,e=>by
  have w:=Pt t u e;have n1:=Uh t.nd;have n2:=Uh nq;have n3:=(Uh u.nd).filter (fun p=>decide (0<p.2));show eqB ps qs=eqB qs _;refine yH.mpr ⟨fun h=>?_,fun h=>?_⟩
  ·exact(Vp n2 n3).mpr (((Vp n1 n2).mp h).symm.trans w)
  ·exact(Vp n1 n2).mpr (w.trans ((Vp n2 n3).mp h).symm)
 | (k,m)::r,ps,ls,t,u,e=>by
  show(if m<1∨or≤k.1∨cnt ps k<m then false else dQ or qs (bq ps k m) r)=(if m<1∨¬(0≤k.1∧k.1<or)∨cnt ls k<m then false else eJ or qs (bT ls k m) r);have ek:=e k;by_cases h1:m<1
  ·rw[xC (.inl h1),xC (.inl h1)]
  ·by_cases h2:cnt ps k<m
   ·rw[xC (.inr (.inr h2)),xC (.inr (.inr (by omega)))]
   ·have hk:k∈ls.map (·.1):=Ul (by omega);obtain⟨q,hq,eq⟩:=xB.mp hk;have h0:=u.ht q hq;rw[eq]at h0;by_cases h3:or≤k.1
    ·rw[xC (.inr (.inl h3)),xC (.inr (.inl fun z=>by omega))]
    ·rw[xz fun h=>h.elim h1 fun h=>h.elim h3 h2,xz fun h=>h.elim h1 fun h=>h.elim (fun z=>z ⟨h0,by omega⟩) fun z=>by omega];refine jp nq r (iq t (by omega) (by omega)) (gM u (by omega) h0 (by omega)) fun x=>?_;rw[ma,Oh];unfold mv;rw[e k,e x]
theorem Sd:∀{ys xs:Sps}{k:Int×Int},k∈xs.map (·.1)∨k∈ys.map (·.1)→k∈(ay xs ys).map (·.1)
 | [],_,_,h=>h.elim id fun h=>nomatch h
 |p::ys,xs,k,h=>by
  rw[W8];have kp:k∈xs.map (·.1)∨k=p.1→k∈(ao xs p.1 (cnt xs p.1+p.2)).map (·.1):=fun h=>by
   rw[Xu]
   split
   ·rename_i z
    rcases h with h | h
    ·exact h
    ·rw[h];exact z
   ·rcases h with h | h
    ·exact yC _ h
    ·rw[h];exact xP _ (.head _)
  rcases h with h | h
  ·exact Sd (.inl (kp (.inl h)))
  ·rw[xD]at h
   rcases xQ.mp h with h | h
   ·exact Sd (.inl (kp (.inr h)))
   ·exact Sd (.inr h)
theorem ff:∀{ys xs:Sps},Pos xs→(∀p∈ys,0<p.2)→Pos (ay xs ys)
 | [],_,h,_=>h
 |p::ys,xs,h,g=>by
  refine ff (ys:=ys) ⟨Ye h.nd,fun q hq=>?_⟩ fun q hq=>g q (.tail _ hq)
  rcases W5 hq with rfl | ⟨hq,_⟩
  ·have:=Q3 (fun p hp=>yY (h.pos p hp)) h.nd p.1;have:=g p (.head _);show 0<cnt xs p.1+p.2;omega
  ·exact h.pos q hq
theorem Uo{ts:List Th}(h:∀t∈ts,1≤t.many):Pos (av ts):=by
 refine ff ⟨yb,fun _ h=>nomatch h⟩ fun p hp=>?_;obtain⟨t,ht,rfl⟩:=xB.mp hp;exact h t ht
theorem Tz{ts:List Th}(h:∀t∈ts,1≤t.many):Tab (av ts):=by
 have p:=Uo h;refine⟨p.nd,fun q hq=>yY (p.pos q hq),fun q hq=>?_⟩;obtain⟨n,e⟩:=Qd hq;rw[e];exact x5 _
theorem Oy(ts:List Th):ag (av ts)=aI ts:=by
 unfold av;rw[U6 (xs:=[]) yb];unfold ag aI cr;rw[x8];show(0:Int)+_=_;rw[zJ];rfl
def jD(or total:Int)(ts:List Th)(qs Av:Sps):Bool:=(ts.all fun t=>decide (t.num<2^or.toNat)) && (decide (ag (av ts)=total) && eJ or qs (av ts) Av)
theorem Q0{or total:Int}{ts:List Th}{qs Av:Sps}(h:∀t∈ts,0≤t.num∧1≤t.many)(nq:(qs.map (·.1)).Nodup):eh or total ts qs Av=jD or total ts qs Av:=by
 have hm:=fun t ht=>(h t ht).2;unfold eh jD;rw[Oy,jp nq Av (Uo hm) (Tz hm) fun _=>rfl];have al:((av ts).all fun e=>inB or e.1)=ts.all fun t=>decide (t.num<2^or.toNat):=by
  refine yH.mpr ⟨fun z=>?_,fun z=>?_⟩
  ·refine yr.mpr fun t ht=>xJ ?_;have hk:(0,t.num)∈(av ts).map (·.1):=Sd (.inr (xB.mpr ⟨((0,t.num),t.many),xB.mpr ⟨t,ht,rfl⟩,rfl⟩));obtain⟨e,he,ee⟩:=xB.mp hk;have:=yr.mp z e he;unfold inB at this;rw[ee,ye]at this;have:=xH this.2;have:t.num≤2^or.toNat-1:=this;omega
  ·refine yr.mpr fun e he=>?_
   rcases V5 (xB.mpr ⟨e,he,rfl⟩)with q | q
   ·exact absurd q ya
   ·unfold cr at q;rw[x8]at q;obtain⟨t,ht,ee⟩:=xB.mp q;have:=xH (yr.mp z t ht);have t0:=(h t ht).1;unfold inB;rw[←ee,ye];exact⟨xJ t0,xJ (show t.num≤2^or.toNat-1 by omega)⟩
 rw[al];cases decide (aI ts=total) <;> cases (ts.all fun t=>decide (t.num<2^or.toNat)) <;> rfl
inductive Run(or:Int):(Int×Int→Int)→Sps→(Int×Int→Int)→Prop
 |nil (f:Int×Int→Int):Run or f [] f
 |cons {f g:Int×Int→Int} {k:Int×Int} {m:Int} {r:Sps}:1≤m→0≤k.1→k.1<or→m≤f k→Run or (mv f k m) r g→Run or f ((k,m)::r) g
theorem Run.app{or:Int}{f g h:Int×Int→Int}{r s:Sps}(a:Run or f r g)(b:Run or g s h):Run or f (r++s) h:=by
 induction a with
 |nil _=>exact b
 |cons h1 h2 h3 h4 _ ih=>exact .cons h1 h2 h3 h4 (ih b)
theorem Run.add{or:Int}{f g x:Int×Int→Int}{r:Sps}(hx:∀k,0≤x k)(a:Run or f r g):Run or (fun k=>f k+x k) r (fun k=>g k+x k):=by
 induction a with
 |nil _=>exact .nil _
 | @cons f g k m r h1 h2 h3 h4 _ ih=>
  have e:mv (fun k=>f k+x k) k m=fun y=>mv f k m y+x y:=funext fun y=>by
   unfold mv
   split
   ·rename_i e;show f k+x k-m=f k-m+x y;rw[e];omega
   ·split
    ·show f y+x y+m=f y+m+x y;omega
    ·rfl
  refine .cons h1 h2 h3 (by have:=hx k;show m≤f k+x k;omega) ?_;rw[e];exact ih
theorem Run.addL{or:Int}{f g x:Int×Int→Int}{r:Sps}(hx:∀k,0≤x k)(a:Run or f r g):Run or (fun k=>x k+f k) r (fun k=>x k+g k):=by
 have:=a.add hx;have e1:(fun k=>x k+f k)=fun k=>f k+x k:=funext fun k=>Int.add_comm _ _;have e2:(fun k=>x k+g k)=fun k=>g k+x k:=funext fun k=>Int.add_comm _ _;rw[e1,e2];exact this
theorem Run.chk{or:Int}{qs:Sps}{f g:Int×Int→Int}{r:Sps}(a:Run or f r g)(pq:Pos qs)(eq:∀k,cnt qs k=g k):∀{ls:Sps},Tab ls→(∀k,cnt ls k=f k)→eJ or qs ls r=true:=by
 induction a with
 |nil f=>
  intro ls t e;exact(Vp (Uh pq.nd) ((Uh t.nd).filter _)).mpr (Pt pq t fun k=>by rw[eq,e])
 | @cons f g k m r h1 h2 h3 h4 _ ih=>
  intro ls t e;have ek:=e k;show(if m<1∨¬(0≤k.1∧k.1<or)∨cnt ls k<m then false else eJ or qs (bT ls k m) r)=true;rw[xz fun z=>z.elim (fun z=>by omega) fun z=>z.elim (fun z=>z ⟨h2,h3⟩) fun z=>by omega];refine ih eq (gM t h1 h2 (by omega)) fun x=>?_;rw[Oh];unfold mv;rw[e k,e x]
theorem O3{or:Int}{ps:Sps}{k:Int×Int}(h0:0≤k.1)(hd:k.1<or)(c1:k∈ps.map (·.1)→1≤cnt ps k):Run or (cnt ps) (aM ps k) (cnt (aC ps k)):=by
 unfold aM
 split
 ·rename_i hk;refine .cons (c1 hk) h0 hd (x5 _) ?_;have e:mv (cnt ps) k (cnt ps k)=cnt (aC ps k):=funext fun x=>by
   rw[Wp];unfold mv
   split
   ·omega
   ·split
    ·rename_i q;rw[q]
    ·rfl
  rw[e];exact .nil _
 ·rename_i hk;have e:aC ps k=ps:=by unfold aC;rw[xz hk]
  rw[e];exact .nil _
theorem pS{or h j:Int}{ps:Sps}(o:Pok or ps)(h0:0≤h)(hd:h<or):Run or (cnt ps) (flP ps h j) (cnt (aV ps h j)):=by
 unfold flP aV;refine(O3 (k:=loK h j) h0 hd fun hk=>Sm o hk).app ?_;rw[←Ou];refine O3 (k:=hiK h j) h0 hd fun hk=>?_;rw[Wp,xz (Ne.symm (gq h j)),Vb,xz (hJ h j)];exact Sm o (hi_in.mp hk)
theorem ie{ps qs:Sps}(p:ps.Perm qs)(nd:(ps.map (·.1)).Nodup):cnt ps=cnt qs:=funext fun k=>Rc (Wn p nd k)
theorem rD{or bar:Int}{ps fs Au:Sps}(s:Stl or bar ps fs Au):Pok or ps→Run or (cnt ps) fs (cnt Au):=by
 induction s with
 |done n=>exact fun _=>.nil _
 |step f p1 s ih=>
  intro o;have q:=Tx o f.in_ f.hd;have q1:=q.perm p1;obtain⟨k,hk,e,_⟩:=f.key;have h0:=(o.kok.st k hk).1;rw[e]at h0;refine(pS o h0 f.hd).app ?_;rw[←ie p1 q1.kok.nd];exact ih q1
theorem qm{or bar:Int}{ps fs Au:Sps}(s:Stl or bar ps fs Au):Kok or (ps.map (·.1))→fs.length+mea or (Au.map (·.1))≤mea or (ps.map (·.1)):=by
 induction s with
 |done n=>exact fun _=>by simp
 | @step ps ps1 fs Au h j f p1 s ih=>
  intro o;have so:=Ua (j:=j) o f.hd;have:=ih (so.1.perm (p1.map _));rw[h_ (p1.map _)]at this;rw[xE];have:=so.2.1;omega
theorem jZ{or bar:Int}{ps:Sps}(o:Pok or ps):Run or (cnt ps) (dh or bar ps) (cnt (bU or bar ps)):=by
 obtain⟨fs,Au,s⟩:=T7 (or:=or) (bar:=bar) _ ps (xA _) o.kok;have e:=W1 s o.kok.nd;rw[e.1,e.2,←ie (Y0 Au).symm (k7 s o).1.kok.nd];exact rD s o
theorem k6{or bar:Int}{ps:Sps}(o:Pok or ps):(dh or bar ps).length+mea or ((bU or bar ps).map (·.1))≤mea or (ps.map (·.1)):=by
 obtain⟨fs,Au,s⟩:=T7 (or:=or) (bar:=bar) _ ps (xA _) o.kok;have e:=W1 s o.kok.nd;rw[e.1,e.2,h_ ((Y0 Au).map _)];exact qm s o.kok
theorem qA(or:Int)(ps:Sps)(k:Int×Int)(n:Int):mea or ((ao ps k n).map (·.1))≤mea or (ps.map (·.1))+(or+1-k.1).toNat:=by
 rw[Xu]
 split
 ·omega
 ·unfold mea;rw[xN,zk];exact xA _
theorem ki(or:Int):∀(ys xs:Sps),mea or ((ay xs ys).map (·.1))≤mea or (xs.map (·.1))+mea or (ys.map (·.1))
 | [],xs=>xA _
 |p::ys,xs=>by
  have a:=ki or ys (ao xs p.1 (cnt xs p.1+p.2));have b:=qA or xs p.1 (cnt xs p.1+p.2);have c:mea or ((p::ys).map (·.1))=(or+1-p.1.1).toNat+mea or (ys.map (·.1)):=by
   unfold mea;rw[xD,xD,xY]
  rw[W8];omega
theorem nZ{xs ys:Sps}(ny:(ys.map (·.1)).Nodup):cnt (ay xs ys)=fun k=>cnt xs k+cnt ys k:=funext fun k=>by
 have e:=iB (xs:=xs) k ny;by_cases hk:k∈ys.map (·.1)
 ·rw[xC hk]at e;unfold cnt at e⊢;rw[e]
 ·rw[xz hk]at e;rw[Rc e,Y3 hk,Ao]
def exc(qs st:Sps):Sps:=(st.map fun p=>(p.1,p.2-cnt qs p.1)).filter fun p=>decide (0<p.2)
def upS(fs:Sps):Sps:=ay [] (fs.map fun p=>(ad p.1,p.2))
def stn(qs st:Sps):Nat→Sps
 | 0=>st
 |n+1=>upS (exc qs (stn qs st n))
def cQ(qs st:Sps):Nat→Sps
 | 0=>[]
 |n+1=>cQ qs st n++exc qs (stn qs st n)
theorem fj(qs st:Sps):(exc qs st).length≤st.length:=by
 unfold exc;refine yi (yu _ _) ?_;rw[az];exact xA _
theorem sj(fs:Sps):(upS fs).length≤fs.length:=by
 have:=Wi (fs.map fun p=>(ad p.1,p.2)) [];rw[yQ,Am,az]at this;exact this
theorem j4(qs st:Sps)(n:Nat):(stn qs st n).length≤st.length:=by
 induction n with
 |zero=>exact xA _
 |succ n ih=>exact yi (sj _) (yi (fj _ _) ih)
theorem Pa(qs st:Sps)(n:Nat):(cQ qs st n).length≤n*st.length:=by
 induction n with
 |zero=>exact zf _
 |succ n ih=>
  show(cQ qs st n++exc qs (stn qs st n)).length≤_;have a:=fj qs (stn qs st n);have b:=j4 qs st n;rw[xE,Nat.succ_mul];omega
theorem U3{qs st:Sps}{p:(Int×Int)×Int}(h:p∈exc qs st):0<p.2∧∃q∈st,q.1=p.1∧p.2=q.2-cnt qs q.1:=by
 obtain⟨h1,h2⟩:=x6.mp h;obtain⟨q,hq,e⟩:=xB.mp h1;exact⟨xH h2,q,hq,by rw[←e],by rw[←e]⟩
theorem mY{qs st:Sps}(nd:(st.map (·.1)).Nodup):((exc qs st).map (·.1)).Nodup:=by
 refine List.Sublist.nodup (List.Sublist.map _ List.filter_sublist) ?_;rw[x8];exact nd
theorem rL{qs st:Sps}(nd:(st.map (·.1)).Nodup){p:(Int×Int)×Int}(hp:p∈st)(h:cnt qs p.1≤p.2):cnt (exc qs st) p.1=p.2-cnt qs p.1:=by
 by_cases c:0<p.2-cnt qs p.1
 ·exact Yt (p:=(p.1,p.2-cnt qs p.1)) (mY nd) (x6.mpr ⟨xB.mpr ⟨p,hp,rfl⟩,xJ c⟩)
 ·rw[Y3 fun z=>?_]
  ·omega
  ·obtain⟨q,hq,e⟩:=xB.mp z;obtain⟨h1,r,hr,e1,e2⟩:=U3 hq;have er:r.1=p.1:=e1.trans e;have:r=p:=by
    have a:=Yt nd hr;have b:=Yt nd hp;exact yM er (by rw[←a,←b,er])
   rw[this]at e2;omega
theorem swS{g:Int×Int→Int}{ks:List (Int×Int)}:∀{A:Sps},(A.map (·.1)).Nodup→ks.Nodup→(∀p∈A,p.1∈ks)→(ks.map fun k=>cnt A k*g k).sum=wS g A:=by
 induction ks with
 |nil=>
  intro A _ _ h;cases A with
  |nil=>rfl
  |cons p A=>exact absurd (h p (.head _)) ya
 |cons k ks ih=>
  intro A nd nk h;rw[x3]at nk;have q:=ih (A:=aU A k) (Sk nd) nk.2 fun p hp=>by
   obtain⟨h1,h2⟩:=x6.mp hp
   rcases xQ.mp (h p h1)with z | z
   ·exact absurd z (xH h2)
   ·exact z
  have e:(ks.map fun j=>cnt (aU A k) j*g j)=ks.map fun j=>cnt A j*g j:=zI fun j hj=>by
   rw[gK,xz fun z:j=k=>nk.1 (by rw[←z];exact hj)]
  rw[e,Rr nd]at q;rw[xD,xY];omega
theorem Os{A:Sps}(nd:(A.map (·.1)).Nodup)(k:Int×Int):wS (fun x=>if x=k then 1 else 0) A=cnt A k:=by
 by_cases h:k∈A.map (·.1)
 ·have q:=swS (g:=fun x=>if x=k then 1 else 0) (ks:=A.map (·.1)) nd nd fun p hp=>xB.mpr ⟨p,hp,rfl⟩;rw[←q];have main:∀(ks:List (Int×Int)),ks.Nodup→k∈ks→(ks.map fun j=>cnt A j*(if j=k then 1 else 0)).sum=cnt A k:=by
   intro ks
   induction ks with
   |nil=>exact fun _ h=>nomatch h
   |cons j ks ih=>
    intro nk hk;rw[x3]at nk;rw[xD,xY];by_cases c:j=k
    ·have z:(ks.map fun j=>cnt A j*(if j=k then(1:Int)else 0)).sum=0:=by
      have e:(ks.map fun j=>cnt A j*(if j=k then(1:Int)else 0))=ks.map fun _=>(0:Int):=zI fun i hi=>by
       rw[xz fun z:i=k=>nk.1 (by rw[c,←z];exact hi),z8]
      rw[e];exact rY _
     rw[z,xC c,zK,c,Ao]
    ·rcases xQ.mp hk with e | e
     ·exact absurd e.symm c
     ·rw[ih nk.2 e,xz c,z8,zJ]
  exact main _ nd h
 ·rw[Y3 h];refine Rp fun p hp=>.inr (xz fun z=>h (by rw[←z];exact xB.mpr ⟨p,hp,rfl⟩))
theorem m_(ys:Sps)(k:Int×Int):cnt (ay [] ys) k=wS (fun x=>if x=k then 1 else 0) ys:=by
 rw[←Os (Um (xs:=[]) yb),Q7 (xs:=[]) yb];exact zJ _
def pin(l:Sps)(x:Int×Int):Int:=wS (fun k=>if ad k=x then 1 else 0) l
theorem rq(l:Sps)(x:Int×Int):cnt (upS l) x=pin l x:=by
 unfold upS pin;rw[m_];unfold wS;rw[x8];rfl
theorem mW(g:Int×Int→Int)(l:Sps):wS g (upS l)=wS (fun k=>g (ad k)) l:=by
 unfold upS;rw[Q7 (xs:=[]) yb];show 0+_=_;rw[zJ];unfold wS;rw[x8];rfl
theorem re{or i:Int}(i0:0≤i)(i1:i<or):∀(l:Sps)(f:Int×Int→Int),(l.map (·.1)).Nodup→(∀p∈l,p.1.1=i∧1≤p.2∧p.2≤f p.1)→Run or f l fun x=>f x-cnt l x+pin l x:=by
 intro l
 induction l with
 |nil=>
  intro f _ _;have e:(fun x=>f x-cnt [] x+pin [] x)=f:=funext fun x=>by
   show f x-0+0=f x;omega
  rw[e];exact .nil f
 |cons p l ih=>
  intro f nd h;obtain⟨p1,p2,p3⟩:=h p (.head _);rw[xD,x3]at nd;have q:=ih (mv f p.1 p.2) nd.2 fun r hr=>by
   obtain⟨a,b,c⟩:=h r (.tail _ hr);refine⟨a,b,?_⟩;unfold mv;rw[xz fun z=>nd.1 (by rw[←z];exact xB.mpr ⟨r,hr,rfl⟩),xz fun z=>?_]
   ·exact c
   ·have:r.1.1=p.1.1+1:=yP (·.1) z;omega
  have e:(fun x=>f x-cnt (p::l) x+pin (p::l) x)=fun x=>mv f p.1 p.2 x-cnt l x+pin l x:=funext fun x=>by
   unfold pin;rw[Yu];have cc:cnt (p::l) x=if x=p.1 then p.2 else cnt l x:=by
    by_cases z:x=p.1
    ·rw[xC z,z];exact Yt (by rw[xD,x3];exact nd) (.head _)
    ·rw[xz z];unfold cnt ax af;rw[xD,Yc (p:=(kk p.1,V.int p.2)) fun y=>z (Vd y).symm]
   rw[cc];unfold mv;by_cases z:x=p.1
   ·rw[xC z,xC z,xz (by rw[z];exact fun y=>Va p.1 y.symm),z8,z,Y3 nd.1];omega
   ·rw[xz z,xz z];by_cases y:x=ad p.1
    ·rw[xC y,xC y.symm,zK];omega
    ·rw[xz y,xz fun w=>y w.symm,z8];omega
  have e2:p::l=(p.1,p.2)::l:=rfl;rw[e,e2];exact .cons p2 (by rw[p1];exact i0) (by rw[p1];exact i1) p3 q
def b_(qs:Sps)(i:Int):Sps:=qs.filter fun p=>decide (i≤p.1.1)
def atH(qs:Sps)(i:Int):Sps:=qs.filter fun p=>decide (p.1.1=i)
theorem P6(g:Int×Int→Int)(qs:Sps)(i:Int):wS g (b_ qs i)=wS g (atH qs i)+wS g (b_ qs (i+1)):=by
 induction qs with
 |nil=>rfl
 |cons p qs ih=>
  unfold b_ atH at ih⊢;rw[yt,yt,yt]
  rcases Int.lt_trichotomy p.1.1 i with c | c | c
  ·rw[if_neg (by simpa using c),if_neg (by simpa using (by omega:¬p.1.1=i)),if_neg (by simpa using (by omega:p.1.1<i+1))];exact ih
  ·rw[if_pos (decide_eq_true (by omega)),if_pos (decide_eq_true c),if_neg (by simpa using (by omega:p.1.1<i+1)),Yu,Yu,ih];omega
  ·rw[if_pos (decide_eq_true (by omega)),if_neg (by simpa using (by omega:¬p.1.1=i)),if_pos (decide_eq_true (by omega)),Yu,Yu,ih];omega
theorem fg{qs:Sps}{P:(Int×Int)×Int→Bool}(nd:(qs.map (·.1)).Nodup):((qs.filter P).map (·.1)).Nodup:=List.Sublist.nodup (List.Sublist.map _ List.filter_sublist) nd
theorem fM{qs:Sps}{P:(Int×Int)×Int→Bool}(nd:(qs.map (·.1)).Nodup){k:Int×Int}(h:∀p∈qs,p.1=k→P p=true):cnt (qs.filter P) k=cnt qs k:=by
 by_cases c:k∈qs.map (·.1)
 ·obtain⟨p,hp,e⟩:=xB.mp c;rw[←e,Yt nd hp,Yt (fg nd) (x6.mpr ⟨hp,h p hp e⟩)]
 ·rw[Y3 c,Y3 fun z=>?_];obtain⟨p,hp,e⟩:=xB.mp z;exact c (by rw[←e];exact xB.mpr ⟨p,(x6.mp hp).1,rfl⟩)
structure Stq(or i:Int)(qs st:Sps):Prop where
 nd:(st.map (·.1)).Nodup
 pos:∀p∈st,0<p.2
 at_:∀p∈st,p.1.1=i∧0≤p.1.2∧p.1.2<2^(or-i).toNat
 can:Can (b_ qs i) st
theorem uv{s k:Int×Int}(h0:0≤s.1)(e:k.1=s.1)(w:wit s k):k=s:=by
 refine yM e ?_;obtain⟨a,b⟩:=w;unfold aE at a;unfold aD at b;rw[e]at a b;have p:=Yd s.1.toNat;have l1:s.2≤k.2:=zN a p;have l2:k.2+1≤s.2+1:=zN (by omega) p;omega
theorem Ox{or i:Int}{qs st:Sps}(i0:0≤i)(o:Pok or qs)(S:Stq or i qs st){k:Int×Int}(hk:k.1=i):cnt qs k≤cnt st k:=by
 have c:=S.can.each k (by omega);have e1:wS (gin k) st=cnt st k:=by
  rw[←Os S.nd k];unfold wS;refine yP List.sum (zI fun p hp=>?_)
  congr 1
  show gin k p.1=if p.1=k then 1 else 0
  by_cases z:p.1=k
  ·rw[xC z,z];exact V2 ⟨x5 _,x5 _⟩
  ·rw[xz z];exact Wh fun w=>z (uv (by omega) (by rw[(S.at_ p hp).1,hk]) w)
 have e2:cnt qs k≤wS (gin k) (b_ qs i):=by
  rw[←fM (P:=fun p=>decide (i≤p.1.1)) o.kok.nd (k:=k) fun p _ e=>xJ (by rw[e,hk];exact x5 _),←Os (fg o.kok.nd) k];have main:∀l:Sps,(∀p∈l,0≤p.2)→wS (fun x=>if x=k then 1 else 0) l≤wS (gin k) l:=by
   intro l
   induction l with
   |nil=>exact fun _=>x5 _
   |cons p l ih=>
    intro h;rw[Yu,Yu];have a:=ih fun q hq=>h q (.tail _ hq);have b:p.2*(if p.1=k then 1 else 0)≤p.2*gin k p.1:=Int.mul_le_mul_of_nonneg_left (by
     by_cases z:p.1=k
     ·rw[xC z,z];exact Int.le_of_eq (V2 ⟨x5 _,x5 _⟩).symm
     ·rw[xz z];exact jm) (h p (.head _))
    omega
  exact main _ fun p hp=>by have:=o.pos p (x6.mp hp).1;omega
 omega
theorem qG{s k:Int×Int}(h0:0≤k.1)(lt:k.1<s.1)(k2:0≤k.2):gin s (ad k)=gin s k:=by
 have up:=oW (h:=k.1) (j:=k.2 / 2) h0;have dn:=oV (h:=k.1) (j:=k.2 / 2) h0;have ep:ad k=upK k.1 (k.2 / 2):=rfl;have le:aE (ad k)≤aE k∧aD k≤aD (ad k):=by
  rw[ep]
  rcases Ry k with e | e
  ·rw[←e]at up dn;exact⟨up.1,dn.1⟩
  ·rw[←e]at up dn;exact⟨up.2,dn.2⟩
 by_cases w:wit s k
 ·have f:=uh (k:=k);have m:wit s (ad k):=gd (n:=aE k) (by show 0≤k.1+1;omega) (by show k.1+1≤s.1;omega) le.1 (zB f le.2) w.1 (zB f w.2);exact(V2 m).trans (V2 w).symm
 ·have m:¬wit s (ad k):=fun z=>w ⟨zB z.1 le.1,zB le.2 z.2⟩;exact(Wh m).trans (Wh w).symm
theorem m5{qs st:Sps}(g:Int×Int→Int)(h:∀p∈st,cnt qs p.1≤p.2):wS g (exc qs st)=wS g st-(st.map fun p=>cnt qs p.1*g p.1).sum:=by
 induction st with
 |nil=>rfl
 |cons p st ih=>
  have q:=ih fun x hx=>h x (.tail _ hx);have l:=h p (.head _);unfold exc at q⊢;rw[xD,yt,Yu,xD,xY];by_cases c:0<p.2-cnt qs p.1
  ·rw[xC (xJ c),Yu,q];show(p.2-cnt qs p.1)*g p.1+_=_;rw[Int.sub_mul];omega
  ·rw[if_neg (by simpa using (by omega:p.2≤cnt qs p.1)),q];have e:p.2=cnt qs p.1:=by omega
   rw[e];omega
theorem oK{or i:Int}{qs st:Sps}(i0:0≤i)(i1:i<or)(o:Pok or qs)(S:Stq or i qs st):Stq or (i+1) qs (upS (exc qs st)):=by
 have le:∀p∈st,cnt qs p.1≤p.2:=fun p hp=>by
  have:=Ox i0 o S (S.at_ p hp).1;rw[Yt S.nd hp]at this;exact this
 have key:∀g:Int×Int→Int,(st.map fun p=>cnt qs p.1*g p.1).sum=wS g (atH qs i):=fun g=>by
  have q:=swS (g:=g) (A:=atH qs i) (ks:=st.map (·.1)) (fg o.kok.nd) S.nd fun p hp=>by
   obtain⟨h1,h2⟩:=x6.mp hp;have hh:=xH h2;have a:=Ox i0 o S hh;have b:=Yt o.kok.nd h1;have c:=o.pos p h1;exact Ul (by omega)
  rw[←q,x8];refine yP List.sum (zI fun p hp=>?_);show cnt qs p.1*g p.1=cnt (atH qs i) p.1*g p.1;unfold atH;rw[fM o.kok.nd fun r _ e=>xJ (by rw[e];exact(S.at_ p hp).1)]
 have exP:∀p∈exc qs st,p.1.1=i∧0≤p.1.2∧p.1.2<2^(or-i).toNat:=fun p hp=>by
  obtain⟨_,q,hq,e,_⟩:=U3 hp;rw[←e];exact S.at_ q hq
 have upos:∀p∈upS (exc qs st),0<p.2:=(ff (xs:=[]) ⟨yb,fun _ h=>nomatch h⟩ fun p hp=>by
  obtain⟨q,hq,rfl⟩:=xB.mp hp;exact(U3 hq).1).pos
 refine⟨Um (xs:=[]) yb,upos,fun p hp=>?_,⟨fun s s0=>?_,?_⟩⟩
 ·have h:=V5 (xs:=[]) (xB.mpr ⟨p,hp,rfl⟩)
  rcases h with h | h
  ·exact absurd h ya
  ·rw[x8]at h;obtain⟨q,hq,e⟩:=xB.mp h;obtain⟨a,b,c⟩:=exP q hq;have e1:p.1=(q.1.1+1,q.1.2 / 2):=e.symm;rw[e1];refine⟨by show q.1.1+1=i+1;omega,by show 0≤q.1.2 / 2;omega,?_⟩;show q.1.2 / 2<2^(or-(i+1)).toNat;have pw:(2:Int)^(or-i).toNat=2^(or-(i+1)).toNat*2:=by
    rw[←Int.pow_succ]
    congr 1
    omega
   omega
 ·rcases Int.lt_or_le i s.1 with c | c
  ·rw[mW];have e:wS (fun k=>gin s (ad k)) (exc qs st)=wS (gin s) (exc qs st):=by
    unfold wS;refine yP List.sum (zI fun p hp=>?_);obtain⟨a,b,_⟩:=exP p hp;show p.2*gin s (ad p.1)=_;rw[qG (by omega) (by omega) b]
   rw[e,m5 _ le,key];have:=S.can.each s s0;rw[P6]at this;omega
  ·have z:wS (gin s) (b_ qs (i+1))=0:=Rp fun p hp=>.inr (Wh fun w=>by
    obtain⟨h1,h2⟩:=x6.mp hp;have:=xH h2;have:=sO s0 (by omega) w;omega)
   rw[z];exact sK (fun _=>jm) fun p hp=>yY (upos p hp)
 ·have a:=S.can.all;have b:=m5 (fun _=>1) le;have c:=mW (fun _=>1) (exc qs st);have d:=P6 (fun _=>1) qs i;have kk:(st.map fun p=>cnt qs p.1*1).sum=wS (fun _=>1) (atH qs i):=key fun _=>1;rw[kk]at b;rw[←S9,←S9]at a⊢;rw[c];show wS (fun _=>1) (b_ qs (i+1))=wS (fun _=>1) (exc qs st);omega
theorem rJ{or:Int}{qs st:Sps}(o:Pok or qs)(S:Stq or 0 qs st):∀n:Nat,(n:Int)≤or→Stq or n qs (stn qs st n)∧Run or (cnt st) (cQ qs st n) fun k=>if k.1<n then cnt qs k else cnt (stn qs st n) k:=by
 intro n
 induction n with
 |zero=>
  intro _;refine⟨S,?_⟩;have e:(fun k:Int×Int=>if k.1<((0:Nat):Int)then cnt qs k else cnt (stn qs st 0) k)=cnt st:=funext fun k=>by
   split
   ·rename_i h;have h:k.1<0:=h;rw[Y3 fun z=>?_,Y3 fun z=>?_]
    ·obtain⟨p,hp,e⟩:=xB.mp z;have:=(S.at_ p hp).1;rw[e]at this;omega
    ·have:=(o.kok.st k z).1;omega
   ·rfl
  rw[e];exact .nil _
 |succ n ih=>
  intro h;obtain⟨S',R⟩:=ih (by omega);have i0:(0:Int)≤n:=by omega
  have i1:(n:Int)<or:=by omega
  refine⟨oK i0 i1 o S',?_⟩;have le:∀p∈stn qs st n,cnt qs p.1≤p.2:=fun p hp=>by
   have:=Ox i0 o S' (S'.at_ p hp).1;rw[Yt S'.nd hp]at this;exact this
  show Run or (cnt st) (cQ qs st n++exc qs (stn qs st n)) _;refine R.app ?_;have q:=re i0 i1 (exc qs (stn qs st n)) (fun k=>if k.1<(n:Int)then cnt qs k else cnt (stn qs st n) k) (mY S'.nd) fun p hp=>by
   obtain⟨a,r,hr,e1,e2⟩:=U3 hp;have ra:=(S'.at_ r hr).1;rw[e1]at ra;refine⟨ra,by omega,?_⟩;rw[xz (by omega)];have c1:=Yt S'.nd hr;rw[e1]at c1 e2;have:=le r hr;rw[e1]at this;have c0:0≤cnt qs p.1:=U4 o p.1;omega
  have e:(fun k:Int×Int=>if k.1<((n+1:Nat):Int)then cnt qs k else cnt (stn qs st (n+1)) k)=fun x=>(if x.1<(n:Int)then cnt qs x else cnt (stn qs st n) x)-cnt (exc qs (stn qs st n)) x+pin (exc qs (stn qs st n)) x:=funext fun x=>by
   have ex0:x.1≠n→cnt (exc qs (stn qs st n)) x=0:=fun z=>Y3 fun y=>by
    obtain⟨p,hp,e⟩:=xB.mp y;obtain⟨_,r,hr,e1,_⟩:=U3 hp;have:=(S'.at_ r hr).1;rw[e1,e]at this;exact z this
   have pn0:x.1≠n+1→pin (exc qs (stn qs st n)) x=0:=fun z=>Rp fun p hp=>.inr (xz fun y=>by
    obtain⟨_,r,hr,e1,_⟩:=U3 hp;have a:=(S'.at_ r hr).1;rw[e1]at a;have b:p.1.1+1=x.1:=yP (·.1) y;omega)
   rcases Int.lt_trichotomy x.1 n with c | c | c
   ·rw[xC (by omega),xC c,ex0 (by omega),pn0 (by omega)];omega
   ·rw[xC (by omega),xz (by omega),pn0 (by omega)];by_cases m:x∈(stn qs st n).map (·.1)
    ·obtain⟨p,hp,e⟩:=xB.mp m;rw[←e,rL S'.nd hp (le p hp),Yt S'.nd hp];omega
    ·have a:=Ox i0 o S' c;have b:=U4 o x;rw[Y3 m]at a⊢;rw[Y3 (ps:=exc qs (stn qs st n)) fun y=>m ?_]
     ·omega
     ·obtain⟨p,hp,e⟩:=xB.mp y;obtain⟨_,r,hr,e1,_⟩:=U3 hp;rw[←e,←e1];exact xB.mpr ⟨r,hr,rfl⟩
   ·have s0:cnt (stn qs st n) x=0:=Y3 fun y=>by
     obtain⟨p,hp,e⟩:=xB.mp y;have:=(S'.at_ p hp).1;rw[e]at this;omega
    rw[xz (by omega),xz (by omega),s0,ex0 (by omega)];show cnt (upS (exc qs (stn qs st n))) x=_;rw[rq];omega
  rw[e];exact q
theorem qF{or:Int}{qs st:Sps}(d0:0≤or)(o:Pok or qs)(S:Stq or 0 qs st):Run or (cnt st) (cQ qs st or.toNat) (cnt qs):=by
 obtain⟨S',R⟩:=rJ o S or.toNat (by omega);have en:((or.toNat:Nat):Int)=or:=by omega
 rw[en]at S' R;have e:(fun k:Int×Int=>if k.1<or then cnt qs k else cnt (stn qs st or.toNat) k)=cnt qs:=funext fun k=>by
  split
  ·rfl
  ·rename_i c;have e2:(2:Int)^(or-or).toNat=1:=by rw[Int.sub_self];rfl
   have k1:∀p∈stn qs st or.toNat,p.1=(or,0):=fun p hp=>by
    obtain⟨a,b,d⟩:=S'.at_ p hp;exact yM a (by rw[e2]at d;show p.1.2=0;omega)
   have k2:∀p∈b_ qs or,p.1=(or,0):=fun p hp=>by
    obtain⟨h1,h2⟩:=x6.mp hp;have h2:=xH h2;obtain⟨a,b,x,y⟩:=o.kok.st p.1 (xB.mpr ⟨p,h1,rfl⟩);have e3:p.1.1=or:=by omega
    rw[e3,e2]at y;exact yM e3 (by show p.1.2=0;omega)
   by_cases z:k=(or,0)
   ·have a:=swS (g:=fun _=>1) (ks:=[(or,0)]) S'.nd (x3.mpr ⟨ya,yb⟩) fun p hp=>by rw[k1 p hp];exact .head _
    have b:=swS (g:=fun _=>1) (ks:=[(or,0)]) (A:=b_ qs or) (fg o.kok.nd) (x3.mpr ⟨ya,yb⟩) fun p hp=>by rw[k2 p hp];exact .head _
    have t:=S'.can.all;rw[S9]at a b;rw[xD,Ak,xY,List.sum_nil,zK]at a b;have f:=fM (P:=fun p=>decide (or≤p.1.1)) o.kok.nd (k:=(or,0)) fun p _ e=>xJ (by rw[e];exact x5 _);rw[z];unfold b_ at b t;omega
   ·rw[Y3 fun y=>?_,Y3 fun y=>?_]
    ·obtain⟨p,hp,e⟩:=xB.mp y;have h1:or≤k.1:=by omega
     exact z (by rw[←e];exact k2 p (x6.mpr ⟨hp,xJ (by rw[e];exact h1)⟩))
    ·obtain⟨p,hp,e⟩:=xB.mp y;exact z (by rw[←e];exact k1 p hp)
 rw[e]at R;exact R
theorem m9{g:Int×Int→Int}{ps:Sps}{k:Int×Int}{m:Int}(nd:(ps.map (·.1)).Nodup):wS g (bq ps k m)=wS g ps+m*(g (ad k)-g k):=by
 have n1:=Ye (k:=ad k) (n:=cnt ps (ad k)+m) nd;have n2:=Ye (k:=k) (n:=cnt ps k-m) n1;have a:=Q6 (g:=g) (k:=ad k) (n:=cnt ps (ad k)+m) nd;have b:=Q6 (g:=g) (k:=k) (n:=cnt ps k-m) n1;have c:cnt (ao ps (ad k) (cnt ps (ad k)+m)) k=cnt ps k:=by rw[Yx,xz (Va k)]
 rw[c,a]at b;have w:wS g (ao (ao ps (ad k) (cnt ps (ad k)+m)) k (cnt ps k-m))=wS g ps+m*(g (ad k)-g k):=by
  rw[b,zE,Int.sub_mul,Int.mul_sub];omega
 unfold bq
 split
 ·rename_i z;rw[Rr n2,Yx,xC rfl,w,z,Int.zero_mul,Int.sub_zero]
 ·exact w
theorem rZ{or:Int}{qs:Sps}(nq:(qs.map (·.1)).Nodup):∀(r:Sps){ps:Sps},Pos ps→(∀p∈ps,0≤p.1.1∧0≤p.1.2)→dQ or qs ps r=true→∀g,dO g→wS g qs≤wS g ps:=by
 intro r
 induction r with
 |nil=>
  intro ps t _ h g G;have p:=(Vp (Uh t.nd) (Uh nq)).mp h;rw[Rq p];exact x5 _
 |cons p r ih=>
  intro ps t hn h g G;obtain⟨k,m⟩:=p;have h:(if m<1∨or≤k.1∨cnt ps k<m then false else dQ or qs (bq ps k m) r)=true:=h;by_cases c:m<1∨or≤k.1∨cnt ps k<m
  ·rw[xC c]at h;cases h
  ·rw[xz c]at h;have m1:1≤m:=by omega
   have mc:m≤cnt ps k:=by omega
   have hk:k∈ps.map (·.1):=Ul (by omega);obtain⟨q,hq,e⟩:=xB.mp hk;obtain⟨a,b⟩:=hn q hq;rw[e]at a b;have st:=ih (iq t m1 mc) (fun p hp=>by
    have kk:∀x∈(bq ps k m).map (·.1),x∈ps.map (·.1)∨x=ad k:=fun x hx=>by
     have hx:x∈(ao (ao ps (ad k) (cnt ps (ad k)+m)) k (cnt ps k-m)).map (·.1):=by
      unfold bq at hx
      split at hx
      ·obtain⟨y,hy,e⟩:=xB.mp hx;exact xB.mpr ⟨y,(x6.mp hy).1,e⟩
      ·exact hx
     obtain⟨y,hy,e⟩:=xB.mp hx
     rcases W5 hy with z | ⟨z,_⟩
     ·rw[←e,z];exact .inl hk
     ·rcases W5 z with y2 | ⟨y2,_⟩
      ·rw[←e,y2];exact .inr rfl
      ·rw[←e];exact .inl (xB.mpr ⟨y,y2,rfl⟩)
    rcases kk p.1 (xB.mpr ⟨p,hp,rfl⟩)with z | z
    ·obtain⟨y,hy,e⟩:=xB.mp z;rw[←e];exact hn y hy
    ·rw[z];exact⟨by show 0≤k.1+1;omega,by show 0≤k.2 / 2;omega⟩) h g G
   rw[m9 t.nd]at st;have fl:g (ad k)≤g k:=by
    have z:=G k.1 (k.2 / 2) a (by omega)
    rcases Ry k with e | e
    ·rw[←e]at z;exact z.1
    ·rw[←e]at z;exact z.2
   have:m*(g (ad k)-g k)≤0:=by
    have:=An (show 0≤m by omega) (show 0≤g k-g (ad k) by omega);rw[Int.mul_sub]at this⊢;omega
   omega
theorem rG{or total:Int}{ts:List Th}{qs Av:Sps}(nq:(qs.map (·.1)).Nodup)(h:∀t∈ts,0≤t.num∧1≤t.many)(e:eh or total ts qs Av=true):Dom qs ts∧aI ts=total∧∀t∈ts,t.num<2^or.toNat:=by
 have hm:=fun t ht=>(h t ht).2;rw[Q0 h nq]at e;unfold jD at e;rw[ye,ye]at e;obtain⟨e1,e2,e3⟩:=e;rw[←jp nq Av (Uo hm) (Tz hm) fun _=>rfl]at e3;refine⟨fun g G=>?_,by rw[←Oy];exact xH e2,fun t ht=>xH (yr.mp e1 t ht)⟩;have q:=rZ nq Av (Uo hm) (fun p hp=>?_) e3 g G
 ·rw[←pN];exact q
 ·rcases V5 (xs:=[]) (xB.mpr ⟨p,hp,rfl⟩)with z | z
  ·exact absurd z ya
  ·unfold cr at z;rw[x8]at z;obtain⟨t,ht,e⟩:=xB.mp z;rw[←e];exact⟨x5 _,(h t ht).1⟩
theorem p6{or:Int}{ts:List Th}{qs:Sps}(d0:0≤or)(o:Pok or qs)(h:∀t∈ts,0≤t.num∧1≤t.many):eh or (ag qs) ts qs (cQ qs (av ts) or.toNat)=true↔(∀t∈ts,t.num<2^or.toNat)∧Can qs (el ts):=by
 have hm:=fun t ht=>(h t ht).2;refine⟨fun e=>?_,fun⟨e1,C⟩=>?_⟩
 ·obtain⟨a,b,c⟩:=rG o.kok.nd h e;exact⟨c,fK a⟩
 ·have pq:Pos qs:=⟨o.kok.nd,fun p hp=>by have:=o.pos p hp;omega⟩;have sp:=Uo hm;have S:Stq or 0 qs (av ts):=by
   refine⟨sp.nd,sp.pos,fun p hp=>?_,?_⟩
   ·rcases V5 (xs:=[]) (xB.mpr ⟨p,hp,rfl⟩)with z | z
    ·exact absurd z ya
    ·unfold cr at z;rw[x8]at z;obtain⟨t,ht,e⟩:=xB.mp z;rw[←e];exact⟨rfl,(h t ht).1,by rw[Int.sub_zero];exact e1 t ht⟩
   ·have ef:b_ qs 0=qs:=List.filter_eq_self.mpr fun p hp=>xJ (o.kok.st p.1 (xB.mpr ⟨p,hp,rfl⟩)).1;rw[ef];exact C
  have R:=qF d0 o S;rw[Q0 h o.kok.nd];unfold jD;rw[R.chk pq (fun _=>rfl) (Tz hm) fun _=>rfl,ye,ye];exact⟨yr.mpr fun t ht=>xJ (e1 t ht),xJ C.all.symm,rfl⟩
end K34
namespace L2
open PySem PySem.Spec PyProof.Rows
section
variable{prog:Program}{w:World}{A:Around}{E:Value→Shared→Prop}{s:Shared}{it d:Addr}{i ep:Nat}{es:Array DictEntry}{f0 f1 ok ov:Value}
theorem O7{n:Nat}{Q:Value→Shared→Prop}(hit:ItI s.heap it d i n ep f0 f1 ok ov)(h:Q (.ref it) s):wpAny (model prog w) A (pyIter (.ref it)) Q E s:=by
 have hT:s.TypeIs (.ref it) "dict_itemiterator":=⟨_,hit,rfl⟩;refine wpAny_pyIter_slot hT PySem.F.slot_dict_itemiterator_iter (yV PySem.F.slot_dict_itemiterator_iter hT W.kcp_entry ?_ (PySem.F.args_dict_itemiterator_iter_1 _));show wpAny _ _ (ret (.ref it)) _ _ s;exact pi ⟨_,rfl,"dict_itemiterator",_,hT,PySem.F.slot_dict_itemiterator_next.lookup,h⟩
end
def u8(it d:Addr)(n ep:Nat)(i:Nat)(h:Heap):Prop:=∃f0 f1 ok ov,ItI h it d i n ep f0 f1 ok ov∧(f0=.none∨∃(a:Addr)(b:Bool),f0=rawInt a∧f1=.bool b)
section
variable{X:Cx}{As:List (Addr×Obj)}{σ:St}{H:Hp}{s:Shared}
theorem jB(hc:X.calm=true):bE X (.builtin "sum") (fun xs H Q=>∃(v d:Addr)(kvs:List (List Key×V))(ns:List Int),xs=[.ref v]∧H v=some (eU v d)∧H d=some (.dT kvs)∧kvs.map (·.2)=ns.map V.int∧Q (.int ns.sum) H):=by
 intro As s σ H xs us Q I rx h;obtain⟨v,d,kvs,ns,rfl,hv,hd,hns,q⟩:=h;obtain⟨u,rfl,ru⟩:=Wx rx;cases ru;obtain⟨z,lo,xs,es,ep,kt,raw,_,ev,sz⟩:=Pf I.hok (.inl hd);obtain⟨view,_⟩:=(show ObjOk X.prog X.w H s.heap v (eU v d)from I.hok v _ hv);have hI:IntsAre (xs.map fun x=>x.2.2) ns:=P4 (by rw[←hns];exact rC kt);have hV:Vals (ns.map V.int) (xs.map fun x=>x.2.2):=Sr hI;have hl:es.size=ns.length:=by
  have e1:=hI.length;rw[←ev,az,yA]at e1;exact e1
 have Ay:d<s.heap.objs.size:=raw.lt;refine call_sum_walkG (qr view raw ?_);have hh:X.A.in1.handled=none:=by simpa using I.ok.hd hc
 refine⟨s.heap.objs.size,_,_,_,_,_,fun i=>ns.getD i 0,rfl,nY hh _ d (xM Ay) es ep,⟨⟨_,xO _ rfl,rfl,rfl⟩,raw.at fun o e=>io _ e⟩,fun b hb=>?_,fun i v hv=>?_,fun h' tk t' kp=>?_⟩
 ·rw[Heap.size_push]
  rcases xQ.mp hb with e | e
  ·rw[e];exact Nat.lt_succ_self _
  ·rw[xF.mp e];exact Nat.lt_succ_of_lt Ay
 ·obtain⟨e,he,rfl⟩:=hv;exact k8 hV (by rw[←ev,xZ,yk,he];rfl)
 ·have e:preSum (fun i=>ns.getD i 0) es.size=ns.sum:=by
   rw[PyProof.Rows.preSum_getD,hl,xX]
  rw[e];refine⟨.int ns.sum,H,I.kept fun b o eb=>kp b o ?_ (io _ eb),⟨_,rfl⟩,q⟩;intro hb;rw[xF.mp hb]at eb;exact absurd (xG eb) (y9 _)
def qp(d:Addr)(kvs:List (List Key×V))(o:Obj):It:=⟨fun i H=>i<kvs.length∧H d=some (.frz o (.dT kvs)),fun i H x H'=>∃T p b,kvs[i]?=some p∧x=.ref T∧H b=some (.tup (p.1.map kV))∧H T=none∧H'=upd H T (.tup [.ref b,p.2]),fun i H=>kvs.length≤i∧H d=some (.frz o (.dT kvs))⟩
theorem qd{P:Program}{w:World}{K:W.Frag}{nm:Str}{np:Pos}{d it:Addr}{kvs:List (List Key×V)}{o:Obj}{es:Array DictEntry}{ep:Nat}(ex:o.ExactDict)(od:o.data=.dict es ep)(sz:es.size=kvs.length):
  Turn P w K (.Name nm np) (qp d kvs o) [it] it (u8 it d es.size ep) where
 mem:=by simp
 obj:=fun i h st b hb=>by
  obtain⟨f0,f1,ok,ov,q,_⟩:=st;rw[xF.mp hb];exact⟨_,q,fun v z=>(nomatch z)⟩
 keep:=fun i h h' st k=>by
  obtain⟨f0,f1,ok,ov,q,r⟩:=st;exact⟨f0,f1,ok,ov,k it (.head _) _ q,r⟩
 item:=by
  intro X hP hw hK hc i As s σ H E I hf st hg;subst hP hw hK;obtain⟨hi,hd⟩:=hg;obtain⟨ho,z,lo,xs,kt,o',es',ep',h1,_,h3,h4,_⟩:=(show ObjOk X.prog X.w H s.heap d (.frz o (.dT kvs))from I.hok d _ hd);rw[ho]at h1;cases h1;rw[od]at h3;cases h3;have e1:kvs[i]?=some kvs[i]:=by simp[hi]
  obtain⟨x,ex1,hx,rx⟩:=P2 kt e1;have eq:es[i]=⟨es[i].hash,.ref x.2.1,x.2.2⟩:=by
   have q:es.toList[i]?=some es[i]:=by rw[yk];exact x9 (by omega)
   rw[h4,xZ,ex1]at q;rw[←xV q];rfl
  have ek:es[i].key=.ref x.2.1:=by rw[eq]
  have ev:es[i].val=x.2.2:=by rw[eq]
  obtain⟨f0,f1,ok,ov,q,alt⟩:=st;refine N4 q alt ⟨o,ho,ex,od⟩ (by omega) fun g e0 e1' a b AF al tg zg kp=>⟨_,rfl,?_⟩;show wpAny (model X.prog X.w) X.A (pure ()) _ E _;have itl:it≠s.heap.objs.size:=xM (xG q);have ni:H it=none:=(hf it (.head _)).1;refine pi ⟨.ref s.heap.objs.size,upd H s.heap.objs.size (.tup [.ref x.2.1,kvs[i].2]),?_,rfl,⟨_,_,_,e1,rfl,hx,I.hok.fresh (xA _),rfl⟩,⟨e0,e1',a,b,AF,.inr al⟩,fun c hc=>?_⟩
  ·refine I.zipped (t':=s.toks) (ch:=[it]) (fun c v hc e=>kp c v (fun z=>hc (by rw[z];exact .head _)) e) hf (xA _) ⟨by show(2:Nat)≤sizeLine;decide,[.ref x.2.1,x.2.2],.cons rfl (.cons rx .nil),?_⟩;rw[ek,ev]at tg;exact⟨_,tg,⟨rfl,rfl⟩,_,rfl⟩
  ·rw[xF.mp hc,Za itl];exact ni
 done:=by
  intro X hP hw hK hc i As s σ H E I hf st hg;subst hP hw hK;obtain⟨hi,hd⟩:=hg;obtain⟨ho,_⟩:=I.hok d _ hd;obtain⟨f0,f1,f2,f3,f4,f5⟩:=hf it (.head _);obtain⟨_,_,_,_,q,_⟩:=st;exact N5 (I.ok.hd hc) q ⟨o,ho,ex,od⟩ (by omega) fun g eb=>⟨rfl,I.turned (t':=s.toks) (fun b ob hb e=>eb b ob hb e) f0 f1 f3 f4 f5⟩
 self:=fun _ _ _ _ _ st h=>by
  obtain⟨_,_,_,_,q,_⟩:=st;exact O7 q h
def kO(tl:TE):TI:=fun σ H R=>tl σ H fun x H1=>∃(v d:Addr)(kvs:List (List Key×V)),x=.ref v∧H1 v=some (a_ v d)∧H1 d=some (.dT kvs)∧∀o,R (qp d kvs o) (upd H1 d (.frz o (.dT kvs)))
theorem mN{nm:Str}{np:Pos}{l:Expr}{tl:TE}(hl:PE X l tl):PI X (.Name nm np) l (kO tl):=by
 intro As s σ H R I h;refine thn (hl As s σ H _ I h) fun v s1 At=>?_;obtain⟨x,H1,I1,r1,q1⟩:=At;obtain⟨v,d,kvs,rfl,hv,hd,q⟩:=q1;cases r1;obtain⟨view,_⟩:=(show ObjOk X.prog X.w H1 s1.heap v (a_ v d)from I1.hok v _ hv);obtain⟨o,I2,_⟩:=I1.freezeT hd;obtain⟨ho,z,lo,xs,kt,o',es,ep,h1,h2,h3,h4,_⟩:=(show ObjOk X.prog X.w _ s1.heap d (.frz o (.dT kvs))from I2.hok d _ Z2);rw[ho]at h1;cases h1;have sz:es.size=kvs.length:=by rw[←yA,h4,az,←xL kt]
 refine N3 view ⟨o,ho,h2,h3⟩ fun g st zg kp=>⟨s1.heap.objs.size,[s1.heap.objs.size],_,_,_,rfl,I2.kept (t':=s1.toks) kp,qd h2 h3 sz,⟨_,_,_,_,st,.inl rfl⟩,fun b hb=>?_,q o⟩;rw[xF.mp hb];exact I2.fpOk (xA _) (I2.hok.fresh (xA _))
def tThw(t:TE):TE:=fun σ H Q=>∃(d:Addr)(kvs:List (List Key×V)),H d=some (.dT kvs)∧t σ H fun v H2=>∃o,H2 d=some (.frz o (.dT kvs))∧Q v (upd H2 d (.dT kvs))
theorem qV{e:Expr}{t:TE}(h:PE X e t):PE X e (tThw t):=by
 intro As s σ H Q I hw;obtain⟨d,kvs,hd,q⟩:=hw;obtain⟨_,_,nf⟩:=I.freezeT hd;exact thn (h As s σ _ _ I q) fun v s1 ⟨x,H1,I2,r,o,hd2,q2⟩=>⟨x,_,I2.thawT nf hd2,r,q2⟩
theorem Rj{d:Addr}{o:Obj}{kvs:List (List Key×V)}{k:Nat}{g:TG}{tt:TT}{te:TE}{σ:St}{H:Hp}{Q:VK}(Pv:Nat→List V→Hp→Prop)(h0:Pv 0 [] H)(hl:∀i ys H,Pv i ys H→H d=some (.frz o (.dT kvs))∧ys.length<sizeLine)(hs:∀i p b T ys H (C:List V→Hp→Prop),kvs[i]?=some p→H b=some (.tup (p.1.map kV))→H T=none→Pv i ys H→(∀ys' H',Pv (i+1) ys' H'→C ys' H')→g (.ref T) (List.replicate k none++σ) (upd H T (.tup [.ref b,p.2])) fun σ2 H2=>Wk σ2 (List.replicate k none++σ)∧tt σ2 H2 fun ok H3=>
   if ok=true then te σ2 H3 fun y H4=>C (ys++[y]) H4 else C ys H3)(hd:∀ys H,Pv kvs.length ys H→ys.length≤sizeLine∧∀p,H p=none→Q (.ref p) (upd H p (.lst ys))):CompR (qp d kvs o) H k g tt te σ Q:=by
 refine⟨fun i m ys H=>m=kvs.length-i∧i≤kvs.length∧Pv i ys H,⟨kvs.length,by simp,Nat.zero_le _,h0⟩,?_⟩;rintro i m ys H ⟨rfl,hi,p⟩;have q:=hl i ys H p;by_cases Ay:i<kvs.length
 ·refine .inr ⟨⟨Ay,q.1⟩,q.2,fun v H' y=>?_⟩;obtain⟨T,p',b,hp',rfl,hb,nT,rfl⟩:=y;exact hs i p' b T ys H (fun ys' H'=>∃m',m'<kvs.length-i∧m'=kvs.length-(i+1)∧i+1≤kvs.length∧Pv (i+1) ys' H') hp' hb nT p fun ys' H' p'=>⟨_,by omega,rfl,Ay,p'⟩
 ·have e:i=kvs.length:=by omega
  subst e;exact .inl ⟨⟨xA _,q.1⟩,hd ys H p⟩
end
section
variable{X:Cx}{As:List (Addr×Obj)}{σ:St}{H:Hp}{s:Shared}
theorem uJ{prog:Program}{w:World}{A:Around}{E:Value→Shared→Prop}{elts:List Expr}{k:Nat}{pos:Pos}{it d T:Addr}{i n ep:Nat}{f0 f1 ok ov:Value}{Q:Unit→Shared→Prop}(he:ItI s.heap it d i n ep f0 f1 ok ov)(alt:∃(a:Addr) (b:Bool),f0=rawInt a∧f1=.bool b)(hQ:∀h',u8 it d n ep i h'→(∀b o,b≠it→s.heap.get? b=some o→h'.get? b=some o)→Q () {s with heap:=h'}):wpAny (model prog w) A (letOwnedTupleGo (.Tuple elts k pos) (.ref it) (.ref T)) Q E s:=by
 unfold letOwnedTupleGo;refine ae (Ap he ?_);show wpAny _ _ (if (["enumerate","zip","dict_itemiterator","dict_reverseitemiterator","odict_iterator","itertools.zip_longest","itertools.pairwise"].contains "dict_itemiterator" && (#[f0,f1,.ref d,.int i 0,.int n 0,.int ep 0,ok,ov]:Array Value)[0]? == some (rawInt T))=true then _ else _) Q E s;by_cases c:(["enumerate","zip","dict_itemiterator","dict_reverseitemiterator","odict_iterator","itertools.zip_longest","itertools.pairwise"].contains "dict_itemiterator" && (#[f0,f1,.ref d,.int i 0,.int n 0,.int ep 0,ok,ov]:Array Value)[0]? == some (rawInt T))=true
 ·rw[xC c];refine ae (z7 ?_);show wpAny _ _ (setField (.ref it) 0 .none) Q E s;exact wpAny_setField_rec he (by simp) fun h' he' hs'=>hQ h' ⟨.none,f1,ok,ov,he',.inl rfl⟩ hs'.extBut
 ·rw[xz c];exact pi (hQ s.heap ⟨f0,f1,ok,ov,he,.inr alt⟩ fun _ _ _ e=>e)
theorem pG{P:Program}{w:World}{K:W.Frag}{elts:List Expr}{k:Nat}{np:Pos}{d it:Addr}{kvs:List (List Key×V)}{o:Obj}{es:Array DictEntry}{ep:Nat}(ex:o.ExactDict)(od:o.data=.dict es ep)(sz:es.size=kvs.length):
  Turn P w K (.Tuple elts k np) (qp d kvs o) [it] it (u8 it d es.size ep) where
 mem:=by simp
 obj:=fun i h st b hb=>by
  obtain⟨f0,f1,ok,ov,q,_⟩:=st;rw[xF.mp hb];exact⟨_,q,fun v z=>(nomatch z)⟩
 keep:=fun i h h' st k=>by
  obtain⟨f0,f1,ok,ov,q,r⟩:=st;exact⟨f0,f1,ok,ov,k it (.head _) _ q,r⟩
 item:=by
  intro X hP hw hK hc i As s σ H E I hf st hg;subst hP hw hK;obtain⟨hi,hd⟩:=hg;obtain⟨ho,z,lo,xs,kt,o',es',ep',h1,_,h3,h4,_⟩:=(show ObjOk X.prog X.w H s.heap d (.frz o (.dT kvs))from I.hok d _ hd);rw[ho]at h1;cases h1;rw[od]at h3;cases h3;have e1:kvs[i]?=some kvs[i]:=by simp[hi]
  obtain⟨x,ex1,hx,rx⟩:=P2 kt e1;have eq:es[i]=⟨es[i].hash,.ref x.2.1,x.2.2⟩:=by
   have q:es.toList[i]?=some es[i]:=by rw[yk];exact x9 (by omega)
   rw[h4,xZ,ex1]at q;rw[←xV q];rfl
  have ek:es[i].key=.ref x.2.1:=by rw[eq]
  have ev:es[i].val=x.2.2:=by rw[eq]
  obtain⟨f0,f1,ok,ov,q,alt⟩:=st;refine N4 q alt ⟨o,ho,ex,od⟩ (by omega) fun g e0 e1' a b AF al tg zg kp=>⟨_,rfl,?_⟩;refine uJ (s:={s with heap:=g}) AF al fun h' st2 kp2=>?_;have itl:it≠s.heap.objs.size:=xM (xG q);have ni:H it=none:=(hf it (.head _)).1;refine⟨.ref s.heap.objs.size,upd H s.heap.objs.size (.tup [.ref x.2.1,kvs[i].2]),?_,rfl,⟨_,_,_,e1,rfl,hx,I.hok.fresh (xA _),rfl⟩,st2,fun c hc=>?_⟩
  ·refine I.zipped (t':=s.toks) (ch:=[it]) (fun c v hc e=>kp2 c v (fun z=>hc (by rw[z];exact .head _)) (kp c v (fun z=>hc (by rw[z];exact .head _)) e)) hf (xA _) ⟨by show(2:Nat)≤sizeLine;decide,[.ref x.2.1,x.2.2],.cons rfl (.cons rx .nil),?_⟩;rw[ek,ev]at tg;exact⟨_,kp2 _ _ (Ne.symm itl) tg,⟨rfl,rfl⟩,_,rfl⟩
  ·rw[xF.mp hc,Za itl];exact ni
 done:=by
  intro X hP hw hK hc i As s σ H E I hf st hg;subst hP hw hK;obtain⟨hi,hd⟩:=hg;obtain⟨ho,_⟩:=I.hok d _ hd;obtain⟨f0,f1,f2,f3,f4,f5⟩:=hf it (.head _);obtain⟨_,_,_,_,q,_⟩:=st;exact N5 (I.ok.hd hc) q ⟨o,ho,ex,od⟩ (by omega) fun g eb=>⟨rfl,I.turned (t':=s.toks) (fun b ob hb e=>eb b ob hb e) f0 f1 f3 f4 f5⟩
 self:=fun _ _ _ _ _ st h=>by
  obtain⟨_,_,_,_,q,_⟩:=st;exact O7 q h
theorem jv{elts:List Expr}{k:Nat}{np:Pos}{l:Expr}{tl:TE}(hl:PE X l tl):PI X (.Tuple elts k np) l (kO tl):=by
 intro As s σ H R I h;refine thn (hl As s σ H _ I h) fun v s1 At=>?_;obtain⟨x,H1,I1,r1,q1⟩:=At;obtain⟨v,d,kvs,rfl,hv,hd,q⟩:=q1;cases r1;obtain⟨view,_⟩:=(show ObjOk X.prog X.w H1 s1.heap v (a_ v d)from I1.hok v _ hv);obtain⟨o,I2,_⟩:=I1.freezeT hd;obtain⟨ho,z,lo,xs,kt,o',es,ep,h1,h2,h3,h4,_⟩:=(show ObjOk X.prog X.w _ s1.heap d (.frz o (.dT kvs))from I2.hok d _ Z2);rw[ho]at h1;cases h1;have sz:es.size=kvs.length:=by rw[←yA,h4,az,←xL kt]
 refine N3 view ⟨o,ho,h2,h3⟩ fun g st zg kp=>⟨s1.heap.objs.size,[s1.heap.objs.size],_,_,_,rfl,I2.kept (t':=s1.toks) kp,pG h2 h3 sz,⟨_,_,_,_,st,.inl rfl⟩,fun b hb=>?_,q o⟩;rw[xF.mp hb];exact I2.fpOk (xA _) (I2.hok.fresh (xA _))
def thwE(D:Ends)(d:Addr)(kvs:List (List Key×V)):Ends where
 nx:=fun σ H2=>∃o,H2 d=some (.frz o (.dT kvs))∧D.nx σ (upd H2 d (.dT kvs))
 rt:=fun v H2=>∃o,H2 d=some (.frz o (.dT kvs))∧D.rt v (upd H2 d (.dT kvs))
 bk:=fun σ H2=>∃o,H2 d=some (.frz o (.dT kvs))∧D.bk σ (upd H2 d (.dT kvs))
 ct:=fun σ H2=>∃o,H2 d=some (.frz o (.dT kvs))∧D.ct σ (upd H2 d (.dT kvs))
def xo(t:TS):TS:=fun D σ H=>∃(d:Addr)(kvs:List (List Key×V)),H d=some (.dT kvs)∧t (thwE D d kvs) σ H
theorem qT{st:Stmt}{t:TS}(h:PS X st t):PS X st (xo t):=by
 intro As s σ H D I hw;obtain⟨d,kvs,hd,q⟩:=hw;obtain⟨_,_,nf⟩:=I.freezeT hd;refine thn (h As s σ H _ I q) fun f s1 hf=>?_;cases f with
 |next=>
  obtain⟨σ2,H2,I2,o,hd2,q2⟩:=hf;exact⟨σ2,_,I2.thawT nf hd2,q2⟩
 |brk=>
  obtain⟨σ2,H2,I2,o,hd2,q2⟩:=hf;exact⟨σ2,_,I2.thawT nf hd2,q2⟩
 |cont=>
  obtain⟨σ2,H2,I2,o,hd2,q2⟩:=hf;exact⟨σ2,_,I2.thawT nf hd2,q2⟩
 |ret u=>
  obtain⟨v,σ2,H2,I2,r,o,hd2,q2⟩:=hf;exact⟨v,σ2,_,I2.thawT nf hd2,r,q2⟩
end
end L2
namespace K34
open PySem L2 Ld
theorem tW{ps:Sps}{i:Nat}{p0:List Key×V}(h:(af ps)[i]?=some p0):∃p,ps[i]?=some p∧(kk p.1,V.int p.2)=p0:=by
 unfold af at h;rw[xZ]at h;obtain⟨p,hp,e⟩:=yO.mp h;exact⟨p,hp,e⟩
structure Tw(H:Hp)(d L:Addr)(qs fs:Sps)(as:List Addr)(H':Hp):Prop where
 gS:Same H H'
 e_d:H' d=some (.dT (af qs))
 e_L:H' L=some (.lst (as.map V.ref))
 pL:Paired (FT (au L H')) as fs
theorem Tw.same{H H1 H2:Hp}{d L:Addr}{qs fs:Sps}{as:List Addr}(h:Tw H d L qs fs as H1)(g:Same H1 H2):Tw H d L qs fs as H2:=
 ⟨h.gS.trans g,g _ _ h.e_d,g _ _ h.e_L,Paired.mapP h.pL fun _ _ f=>Zs (Uj h.e_L g) f⟩
def tj:Sp:=fun vs H Q _=>∃(r q:Addr)(ts:List Th)(Ar or total:Int)(qs:Sps),vs=[.ref r,.ref q]∧DV H (.ref r) (aR ts)∧ts.length≤500∧LadAt H q Ar or total qs∧(qs.map (·.1)).Nodup∧qs.length≤400∧0≤or∧or≤20∧∀(p:Addr)(H':Hp),H p=none→Same H H'→PprAt H' p (cQ qs (av ts) or.toNat)→Q (.ref p) H'
variable{P:Program}{w:World}{K:W.Frag}{mg:Str→Option Value}{base:Heap}{f:Addr}{fd:FuncData}
theorem vv(aJ:mg "dict"=none)(aK:mg "range"=none)(bN:Has P w K mg base "standing_of" 2 ["stream"] eO)(aS:Has P w K mg base "parent_of" 1 ["stretch"] cy)(aP:Has P w K mg base "added_counts" 1 ["one","other"] je)(F:Fun K "folds_towards" "folds_towards" bi f fd):FnOk P w K mg base CX0 3 f fd ["stream","ladder"] tj:=by
 refine F.ok Zm (fun vs H Q E h=>?_) (fun cdv A outer s H vs Q E hr h=>?_)
 ·obtain⟨r,q,ts,Ar,or,total,qs,rfl,_⟩:=h;rfl
 obtain⟨r,q,ts,Ar,or,total,qs,rfl,dv,tl,lad,nq,ql,d0,d1,hq⟩:=h;obtain⟨cc,cs,AC,Az,pr⟩:=lad.at_;have cl:=xL pr;have nd:((af qs).map (·.1)).Nodup:=by
  rw[Vg];exact yZ.mpr (nq.imp fun h e=>h (Vd e))
 refine⟨_,(Z3 (Ys (pv 1) (Y6 rfl (Z8 (Z9 (i:=2) Zm.nd rfl (Or.inl rfl)) (Z8 (Z9 (i:=3) Zm.nd rfl (Or.inl rfl)) (Z8 (Z9 (i:=4) Zm.nd rfl (Or.inl rfl)) (Z8 (Z9 (i:=5) Zm.nd rfl (Or.inl rfl)) Zo)))))) Zb),?_⟩;refine⟨_,rfl,q,_,rfl,SqT.of AC,rfl,_,_,rfl,_,_,rfl,_,_,rfl,_,_,rfl,rfl,?_⟩;refine⟨_,(Z3 (@iT _ _ 6 _ _ _ _ Zm.nd rfl (Or.inr rfl) (Y9 (Xr rfl hr.units) rfl aJ yX (Z0 (pv 4) Z1)) (by rfl) (by first | exact .inl rfl | exact .inr rfl)) Zb),?_⟩;refine⟨_,rfl,cc,_,_,rfl,Az,Tm pr,by rw[Zk];omega,fun d n_d=>?_⟩;rw[Wu nd];have gg:=Z6 n_d (.dT (af qs));have e_d:(upd H d (.dT (af qs))) d=some (.dT (af qs)):=Z2;generalize upd H d (.dT (af qs))=H1 at gg e_d⊢;refine⟨_,(Z3 (Zy 7 Zm.nd rfl (Or.inl rfl) (Yk Z1)) Zb),?_⟩;refine⟨leN rfl,fun L n_L=>?_⟩;have xj:H L=none:=gg.free n_L;have gz:=Z6 n_L (.lst []);have e_L:(upd H1 L (.lst [])) L=some (.lst (([]:List Addr).map V.ref)):=Z2;have gg:=gg.trans gz;have e_d:=gz _ _ e_d;generalize upd H1 L (.lst [])=H2 at gg e_d e_L⊢;have tw:Tw H d L qs [] [] H2:=⟨gg,e_d,e_L,.nil⟩;clear e_d e_L gz gg n_d n_L;refine⟨_,(Z3 (Zy 8 Zm.nd rfl (Or.inl rfl) (Z4 bN hr (Z0 (pv 0) Z1))) Zb),?_⟩;refine⟨_,rfl,r,ts,rfl,dv.mono tw.gS,by omega,fun sd H3 _ g3 e_s=>?_⟩;have tw:=tw.same g3;have sl:=Vq ts;refine⟨_,(Z3 (X7 yc rfl (Uq rfl aK (Z0 (pv 3) Z1)) (Z9 (i:=9) Zm.nd rfl (Or.inl rfl))
 (Z3 (qT (N8 (i:=10) Zm.nd rfl rfl (own:=["stretch","many"]) (Sl rfl rfl) (jv (Vx yI zF zY Ut (pv 8)))
  (fun _ _ _ _ _=>(V0 K 2 rfl rfl (Z8 (Z9 (i:=0) Xp rfl (Or.inl rfl) (Or.inr rfl)) (Z8 (Z9 (i:=1) Xp rfl (Or.inl rfl) (Or.inr rfl)) Zo)))) (fun _ _ _ _ _=>We)
  (fun _ _ _ _ _=>(Zn (Z0 (pv 0) (Z0 (Ze Xj (pv 1) (X0 (Yg hr) (pv 8) (pv 0) Z5 ⟨rfl,rfl,rfl,rfl⟩)) Z1))))))
 (Z3 (N8 (i:=11) Zm.nd rfl rfl (own:=["stretch","many"]) (Sl rfl rfl) (Yv (pv 10))
  (fun _ _ _ _ _=>(V0 K 2 rfl rfl (Z8 (Z9 (i:=0) Xo rfl (Or.inl rfl) (Or.inr rfl)) (Z8 (Z9 (i:=1) Xo rfl (Or.inl rfl) (Or.inr rfl)) Zo)))) (fun _ _ _ _ _=>(S4 (Zi Rf (pv 1) Z5 (Zh _))))
  (fun _ _ _ _ _=>(Zn (Z0 (pv 0) (Z0 (pv 1) Z1)))))
 (Z3 (Xh (Uf yg PySem.F.slot_list_extend PySem.F.type_list_extend R8 (pv 7) (Z0 (pv 11) Z1)))
 (Z7 (Zy 8 Zm.nd rfl (Or.inl rfl) (Z4 aP hr (Z0 (Zn Z1) (Z0 (Xw (own:=["stretch","many"]) (Sl rfl rfl) (Yv (pv 11))
  (fun _ _ _ _ _=>(V0 K 2 rfl rfl (Z8 (Z9 (i:=0) Xn rfl (Or.inl rfl) (Or.inr rfl)) (Z8 (Z9 (i:=1) Xn rfl (Or.inl rfl) (Or.inr rfl)) Zo)))) (fun _ _ _ _ _=>We)
  (fun _ _ _ _ _=>(Zn (Z0 (Z4 aS hr (Z0 (pv 0) Z1)) (Z0 (pv 1) Z1))))) Z1))))))))) Zb),?_⟩
 refine⟨_,rfl,or,rfl,by omega,by omega,?_⟩;refine U2 (lo:=0) (n:=or.toNat) (fun i σ H'=>∃(o9 o10 o11:Option V)(sd:Addr)(as:List Addr),σ=[some (.ref r),some (.ref q),some (.int Ar),some (.int or),some (.ref cc),some (.int total),some (.ref d),some (.ref L),some (.ref sd),o9,o10,o11]∧Tw H d L qs (cQ qs (av ts) i) as H'∧H' sd=some (.dT (af (stn qs (av ts) i)))) ⟨_,_,_,sd,[],rfl,tw,e_s⟩ ?_ ?_
 ·clear tw e_s g3;rintro i σ H4 N B1 R hN hR hi ⟨o9,o10,o11,sd,as,rfl,tw,e_s⟩;have fl:=Pa qs (av ts) i;have stl:=j4 qs (av ts) i;have asl:=xL tw.pL;have fb:i*(av ts).length≤20*500:=Nat.mul_le_mul (by omega) (by omega);have hF:cQ qs (av ts) (i+1)=cQ qs (av ts) i++exc qs (stn qs (av ts) i):=rfl;have hS:stn qs (av ts) (i+1)=upS (exc qs (stn qs (av ts) i)):=rfl;rw[hF,hS]at hN;generalize stn qs (av ts) i=st at e_s stl hN;refine⟨sd,_,e_s,?_⟩;refine⟨_,rfl,T6 e_s,sd,_,rfl,rfl,e_s,fun v n_v=>?_⟩;have gz:=Z6 n_v (a_ v sd);have tw:=tw.same gz;have e_s:=gz _ _ e_s;have e_v:(upd H4 v (a_ v sd)) v=some (a_ v sd):=Z2;generalize upd H4 v (a_ v sd)=H5 at tw e_s e_v⊢;refine⟨v,sd,_,rfl,e_v,e_s,fun o=>?_⟩;have ds:d≠sd→(upd H5 sd (.frz o (.dT (af st)))) d=some (.dT (af qs)):=fun z=>by rw[Za z];exact tw.e_d
  refine Rj (fun j ys H'=>Same (upd H5 sd (.frz o (.dT (af st)))) H'∧∃bs:List Addr,ys=bs.map V.ref∧Paired (FT H') bs ((st.take j).map fun p=>(p.1,p.2-cnt qs p.1))) ⟨Same.refl _,[],rfl,.nil⟩ ?_ ?_ ?_
  ·rintro j ys H' ⟨g,bs,rfl,pb⟩;have bl:=xL pb;rw[az,xW]at bl;exact⟨g _ _ Z2,Zj (by rw[az];omega)⟩
  ·rintro j p0 b T ys H' C hp0 Aw n_T ⟨g,bs,rfl,pb⟩ hC;obtain⟨p,hp,rfl⟩:=tW hp0;have gT:=Z6 n_T (.tup [.ref b,.int p.2]);have e_T:(upd H' T (.tup [.ref b,.int p.2])) T=some (.tup [.ref b,.int p.2]):=Z2;have pb:=Paired.mapP pb fun _ _ f=>Zs gT f;have Aw:KAt (upd H' T (.tup [.ref b,.int p.2])) b p.1:=gT _ _ Aw;have g:=g.trans gT;generalize upd H' T (.tup [.ref b,.int p.2])=H6 at e_T pb Aw g⊢;have dg:∃v0,DGet H6 d (.ref b) v0∧v0.getD (.int 0)=.int (cnt qs p.1):=by
    by_cases z:d=sd
    ·have a:=tw.e_d;rw[z,e_s]at a;injection a with a
     injection a with a
     rw[z];exact⟨_,.inr ⟨_,kk p.1,b,.inr ⟨o,g _ _ Z2⟩,rfl,Aw,rfl⟩,by rw[a];exact Yr _ _⟩
    ·exact⟨_,Y7 (g _ _ (ds z)) Aw,Yr _ _⟩
   have isd:IsD H6 d:=by
    by_cases z:d=sd
    ·rw[z];exact .inr ⟨_,.inr ⟨o,g _ _ Z2⟩⟩
    ·exact .inr ⟨_,.inl (g _ _ (ds z))⟩
   obtain⟨v0,dg1,dg2⟩:=dg;refine⟨T,_,rfl,SqT.of e_T,rfl,_,_,rfl,_,_,rfl,rfl,Wk.refl _,_,rfl,_,rfl,_,rfl,d,rfl,isd,_,rfl,v0,dg1,p.2,cnt qs p.1,rfl,dg2,leN rfl,fun u n_u=>hC _ _ ⟨g.trans (Z6 n_u _),bs++[u],by rw[xN];rfl,?_⟩⟩;rw[Zv hp,xN];have gu:=Z6 n_u (.tup [.ref b,.int (p.2-cnt qs p.1)]);exact zR (Paired.mapP pb fun _ _ f=>Zs gu f) ⟨b,Z2,gu _ _ Aw⟩
  rintro ys H6 ⟨g6,bs,rfl,pb⟩;rw[Zk,xX]at pb;have bl:=xL pb;rw[az]at bl;refine⟨Zl (by rw[az];omega),fun p n_p=>?_⟩;have g7:=g6.trans (Z6 n_p (.lst (bs.map V.ref)));have pd:p≠sd:=fun z=>by rw[z,g6 _ _ Z2]at n_p;cases n_p
  have sz:=Vh e_s g7;have Ax:(upd (upd H6 p (.lst (bs.map V.ref))) sd (.dT (af st))) p=some (.lst (bs.map V.ref)):=by rw[Za pd];exact Z2
  have tS:∀{x:Addr}{xs:List V},H6 x=some (.tup xs)→(upd (upd H6 p (.lst (bs.map V.ref))) sd (.dT (af st))) x=some (.tup xs):=fun{x xs} e=>by
   rw[Za (fun z=>by rw[z,g6 _ _ Z2]at e;cases e),Za (Zd e n_p)];exact e
  have pb:=Paired.mapP pb fun _ _ ⟨y,f1,f2⟩=>(⟨y,tS f1,tS f2⟩:FT _ _ _);refine⟨o,g7 _ _ Z2,?_⟩;have tw:=tw.same sz;clear tS g6 g7 n_p sz e_v ds n_v;generalize upd (upd H6 p (.lst (bs.map V.ref))) sd (.dT (af st))=H7 at Ax pb tw⊢;refine⟨_,rfl,p,rfl,⟨_,SqL.of Ax⟩,?_⟩;refine Wo (xs:=bs.map V.ref) (fun j ys H'=>Same H7 H'∧∃us:List Addr,ys=us.map V.ref∧us.length≤j∧Paired (FT H') us (((st.map fun p=>(p.1,p.2-cnt qs p.1)).take j).filter fun p=>decide (0<p.2))) ⟨Same.refl _,[],rfl,xA _,.nil⟩ ?_ ?_ ?_
  ·rintro j ys H' _ ⟨g,_⟩;exact SqL.of (g _ _ Ax)
  ·rintro j x ys H' C hx ⟨g,us,rfl,ul,pu⟩ hC;obtain⟨a,p1,rfl,hp1,b,e1,e2⟩:=Ve pb hx;have jl:=(xI.mp hp1).1;rw[az]at jl;refine⟨Zj (by rw[az];omega),a,_,rfl,SqT.of (g _ _ e1),rfl,_,_,rfl,_,_,rfl,rfl,Wk.refl _,_,rfl,_,_,rfl,rfl,_,rfl,?_⟩;by_cases c:p1.2 > 0
   ·rw[xJ c];refine U1 ⟨_,rfl,_,rfl,leN rfl,fun u n_u=>hC _ _ ⟨g.trans (Z6 n_u _),us++[u],by rw[xN];rfl,by rw[xE];show us.length+1≤_;omega,?_⟩⟩;rw[Zv hp1,z6,yt,xC (xJ c)];have gu:=Z6 n_u (.tup [.ref b,.int p1.2]);exact zR (Paired.mapP pu fun _ _ f=>Zs gu f) ⟨b,Z2,gu _ _ (g _ _ e2)⟩
   ·rw[yh c];refine Xe (hC _ _ ⟨g,us,rfl,by omega,?_⟩);rw[Zv hp1,List.filter_append,List.filter_cons,if_neg (by simpa using c),List.filter_nil,List.append_nil];exact pu
  rintro ys H8 ⟨g8,us,rfl,ul,pu⟩;rw[show(bs.map V.ref).length=(st.map fun p=>(p.1,p.2-cnt qs p.1)).length by rw[az,az,bl],xX]at pu;rw[az,bl]at ul;have pu:Paired (FT H8) us (exc qs st):=pu;refine⟨Zl (by rw[az];omega),fun l n_l=>?_⟩;have lL:l≠L:=fun z=>by rw[z,g8 _ _ tw.e_L]at n_l;cases n_l
  have gz:=g8.trans (Z6 n_l (.lst (us.map V.ref)));have tw:=tw.same gz;have pu:=Paired.mapP pu fun _ _ f=>Zs (Z6 n_l (.lst (us.map V.ref))) f;have AA:(upd H8 l (.lst (us.map V.ref))) l=some (.lst (us.map V.ref)):=Z2;clear gz g8 pb Ax;generalize upd H8 l (.lst (us.map V.ref))=H9 at tw pu AA⊢;have exl:=fj qs st;have ull:=xL pu;refine⟨_,rfl,.inl ⟨rfl,_,SqL.of tw.e_L⟩,_,rfl,L,l,_,_,rfl,rfl,tw.e_L,AA,Zl (by rw[az,az];omega),?_⟩;have tL:∀{x:Addr}{xs:List V}{o:HO},H9 x=some (.tup xs)→(upd H9 L o) x=some (.tup xs):=fun{x xs o} e=>by
   rw[Za (fun z=>by rw[z,tw.e_L]at e;cases e)];exact e
  have hL:∀{x:Addr}{xs:List V}{o:HO},H9 x=some (.tup xs)→au L (upd H9 L o) x=some (.tup xs):=fun{x xs o} e=>by
   rw[Zg (fun z=>by rw[z,tw.e_L]at e;cases e)];exact tL e
  rw[←xN];have tw2:Tw H d L qs (cQ qs (av ts) i++exc qs st) (as++us) (upd H9 L (.lst ((as++us).map V.ref))):=by
   refine⟨X8 tw.gS xj,?_,Z2,W4 ?_ ?_⟩
   ·rw[Za (fun z=>by have:=tw.e_d;rw[z,tw.e_L]at this;cases this)];exact tw.e_d
   ·exact Paired.mapP tw.pL fun _ _ ⟨y,f1,f2⟩=>⟨y,hL (Zf f1).2,hL (Zf f2).2⟩
   ·exact Paired.mapP pu fun _ _ ⟨y,f1,f2⟩=>⟨y,hL f1,hL f2⟩
  have pu2:Paired (FT (upd H9 L (.lst ((as++us).map V.ref)))) us (exc qs st):=Paired.mapP pu fun _ _ ⟨y,f1,f2⟩=>⟨y,tL f1,tL f2⟩;have fI:(upd H9 L (.lst ((as++us).map V.ref))) l=some (.lst (us.map V.ref)):=by rw[Za lL];exact AA
  clear tw pu AA tL hL;generalize upd H9 L (.lst ((as++us).map V.ref))=G1 at tw2 pu2 fI⊢;refine⟨leN rfl,fun t n_t=>?_⟩;have gz:=Z6 n_t (.tup []);have tw2:=tw2.same gz;have pu2:=Paired.mapP pu2 fun _ _ f=>Zs gz f;have fI:=gz _ _ fI;have AD:(upd G1 t (.tup [])) t=some (.tup []):=Z2;clear gz n_t;generalize upd G1 t (.tup [])=G2 at tw2 pu2 fI AD⊢;refine⟨_,rfl,l,rfl,⟨_,SqL.of fI⟩,?_⟩;refine Wo (xs:=us.map V.ref) (fun j ys H'=>Same G2 H'∧∃ws:List Addr,ys=ws.map V.ref∧Paired (FT H') ws (((exc qs st).take j).map fun p=>(ad p.1,p.2))) ⟨Same.refl _,[],rfl,.nil⟩ ?_ ?_ ?_
  ·rintro j ys H' _ ⟨g,_⟩;exact SqL.of (g _ _ fI)
  ·rintro j x ys H' C hx ⟨g,ws,rfl,pw⟩ hC;obtain⟨a,p1,rfl,hp1,b,e1,e2⟩:=Ve pu2 hx;have jl:=(xI.mp hp1).1;have wl:=xL pw;rw[az,xW]at wl;refine⟨Zj (by rw[az];omega),a,_,rfl,SqT.of (g _ _ e1),rfl,_,_,rfl,_,_,rfl,rfl,Wk.refl _,_,rfl,b,p1.1,rfl,g _ _ e2,fun y n_y=>?_⟩;have g1:=Z6 n_y (.tup [.int (ad p1.1).1,.int (ad p1.1).2]);have e_y:KAt (upd H' y (.tup [.int (ad p1.1).1,.int (ad p1.1).2])) y (ad p1.1):=Z2;have pw:=Paired.mapP pw fun _ _ f=>Zs g1 f;have g:=g.trans g1;generalize upd H' y (.tup [.int (ad p1.1).1,.int (ad p1.1).2])=G3 at e_y pw g⊢;refine⟨_,rfl,leN rfl,fun u n_u=>hC _ _ ⟨g.trans (Z6 n_u _),ws++[u],by rw[xN];rfl,?_⟩⟩;have gu:=Z6 n_u (.tup [.ref y,.int p1.2]);rw[Zv hp1,xN];exact zR (Paired.mapP pw fun _ _ f=>Zs gu f) ⟨y,Z2,gu _ _ e_y⟩
  rintro ys G3 ⟨g3,ws,rfl,pw⟩;rw[az,ull,xX]at pw;have wl:=xL pw;rw[az]at wl;refine⟨Zl (by rw[az];omega),fun m n_m=>?_⟩;have gz:=g3.trans (Z6 n_m (.lst (ws.map V.ref)));have tw2:=tw2.same gz;have AD:=gz _ _ AD;have pw:=Paired.mapP pw fun _ _ f=>Zs (Z6 n_m (.lst (ws.map V.ref))) f;have e_m:(upd G3 m (.lst (ws.map V.ref))) m=some (.lst (ws.map V.ref)):=Z2;clear gz g3 n_m;generalize upd G3 m (.lst (ws.map V.ref))=G4 at tw2 AD pw e_m⊢;refine⟨t,m,ws,_,rfl,AD,e_m,pw,by rw[az];omega,fun sd2 G5 _ g5 e_s2=>?_⟩;exact hN _ _ ⟨_,_,_,sd2,as++us,rfl,tw2.same g5,e_s2⟩
 ·rintro σ H4 ⟨o9,o10,o11,sd,as,rfl,tw,e_s⟩;refine⟨_,(Z7 (Zc (pv 7))),?_⟩;exact⟨_,rfl,hq L _ xj tw.gS ⟨as,tw.e_L,Paired.mapP tw.pL fun _ _ f=>Zs Yi f⟩⟩
def rf:Sp:=fun vs H Q _=>∃(r q:Addr)(ts:List Th)(Ar or:Int)(qs:Sps),vs=[.ref r,.ref q]∧DV H (.ref r) (aR ts)∧ts.length≤500∧LadAt H q Ar or (ag qs) qs∧Pok or qs∧qs.length≤400∧0≤or∧or≤20∧(∀t∈ts,0≤t.num∧1≤t.many)∧(¬((∀t∈ts,t.num<2^or.toNat)∧Can qs (el ts))→∀H',Same H H'→Q .non H')∧((∀t∈ts,t.num<2^or.toNat)∧Can qs (el ts)→∀(p:Addr)(H':Hp),H p=none→Same H H'→PprAt H' p (cQ qs (av ts) or.toNat)→Q (.ref p) H')
def oT:Sp:=fun vs H Q _=>∃(r q:Addr)(ts:List Th)(Ar or:Int)(qs:Sps),vs=[.ref r,.ref q]∧DV H (.ref r) (aR ts)∧ts.length≤500∧LadAt H q Ar or (ag qs) qs∧Pok or qs∧qs.length≤400∧0≤or∧or≤20∧(∀t∈ts,0≤t.num∧1≤t.many)∧∀(b:Bool)(H':Hp),Same H H'→(b=true↔(∀t∈ts,t.num<2^or.toNat)∧Can qs (el ts))→Q (.bl b) H'
theorem v7(dN:Has P w K mg base "folds_towards" 3 ["stream","ladder"] tj)(bg:Has P w K mg base "is_folded" 5 ["stream","ladder","paper"] cZ)(F:Fun K "paper_for" "paper_for" cb f fd):FnOk P w K mg base CX0 6 f fd ["stream","ladder"] rf:=by
 refine F.ok S1 (fun vs H Q E h=>?_) (fun cdv A outer s H vs Q E hr h=>?_)
 ·obtain⟨r,q,ts,Ar,or,qs,rfl,_⟩:=h;rfl
 obtain⟨r,q,ts,Ar,or,qs,rfl,dv,tl,lad,o,ql,d0,d1,th,hq0,hq1⟩:=h;have sl:=Vq ts;have fl:=Pa qs (av ts) or.toNat;have fb:or.toNat*(av ts).length≤20*500:=Nat.mul_le_mul (by omega) (by omega);refine⟨_,(Z3 (Zy 2 S1.nd rfl (Or.inl rfl) (Z4 dN hr (Z0 (pv 0) (Z0 (pv 1) Z1)))) Zb),?_⟩;refine⟨_,rfl,_,rfl,r,q,ts,Ar,or,_,qs,rfl,dv,tl,lad,o.kok.nd,ql,d0,d1,fun p H1 n_p g1 pp=>?_⟩;refine⟨_,(Z7 (Zc (nj (Wb (Z4 bg hr (Z0 (pv 0) (Z0 (pv 1) (Z0 (pv 2) Z1))))) (pv 2) Xz))),?_⟩;refine⟨_,rfl,_,rfl,_,rfl,r,q,p,ts,Ar,or,_,qs,_,rfl,dv.mono g1,by omega,lad.mono g1,o.kok.nd,ql,d0,d1,pp,by omega,fun H2 g2=>?_⟩;have ok:=p6 d0 o th;refine⟨_,rfl,?_⟩;cases e:eh or (ag qs) ts qs (cQ qs (av ts) or.toNat) with
 |true=>
  refine U1 ⟨_,rfl,hq1 (ok.mp e) p H2 n_p (g1.trans g2) (pp.mono g2)⟩
 |false=>
  refine Xe (hq0 (fun z=>?_) H2 (g1.trans g2));rw[ok.mpr z]at e;cases e
theorem qC(a5:Has P w K mg base "paper_for" 6 ["stream","ladder"] rf)(F:Fun K "fits" "fits" jr f fd):FnOk P w K mg base CX0 7 f fd ["stream","ladder"] oT:=by
 refine F.ok rE (fun vs H Q E h=>?_) (fun cdv A outer s H vs Q E hr h=>?_)
 ·obtain⟨r,q,ts,Ar,or,qs,rfl,_⟩:=h;rfl
 obtain⟨r,q,ts,Ar,or,qs,rfl,dv,tl,lad,o,ql,d0,d1,th,hq⟩:=h;refine⟨_,(Z7 (Zc (Xx S7 (Z4 a5 hr (Z0 (pv 0) (Z0 (pv 1) Z1))) Xz (Zh _)))),?_⟩;refine⟨_,rfl,_,rfl,r,q,ts,Ar,or,qs,rfl,dv,tl,lad,o,ql,d0,d1,th,fun no H1 g1=>⟨rfl,?_⟩,fun yes p H1 _ g1 _=>⟨rfl,?_⟩⟩
 ·exact hq false _ g1 ⟨(fun z=>nomatch z),fun z=>absurd z no⟩
 ·exact hq true _ g1 ⟨fun _=>yes,fun _=>rfl⟩
theorem T8:∀t:Tr,(aw t).filterMap id=t.streams
 |.leaf ts=>rfl
 |.node l r=>by
  show(aw l++aw r++[none]).filterMap id=l.streams++r.streams;rw[Ae,Ae,T8 l,T8 r];exact yB _
def eR:Sp:=fun vs H Q _=>∃(v:V)(t:Tr),vs=[v]∧DV H v t.D∧t.ht≤50∧t.size≤1000∧
 ∀(r:Addr)(ls:List V)(H':Hp),Same H H'→H r=none→H' r=some (.lst ls)→DVs H' ls (t.streams.map aR)→(∀x∈ls,∃q,x=.ref q∧H q=none∧q≠r)→Q (.ref r) H'
def cL:Sp:=fun vs H Q _=>∃(v:V)(t:Tr),vs=[v]∧DV H v t.D∧t.ht≤50∧t.size≤1000∧t.all.length≤100000∧
 ∀(r:Addr)(xs:List V)(H':Hp),Same H H'→H r=none→H' r=some (.lst xs)→DVs H' xs (t.all.map Th.D)→Q (.ref r) H'
theorem Pl(a9:mg "list"=none)(cU:Has P w K mg base "steps_in" 1 ["tree"] dU)(F:Fun K "streams_in" "streams_in" bZ f fd):FnOk P w K mg base CX0 2 f fd ["tree"] eR:=by
 refine F.ok Pk (fun vs H Q E h=>?_) (fun cdv A outer s H vs Q E hr h=>?_)
 ·obtain⟨v,t,rfl,_⟩:=h;rfl
 obtain⟨v,t,rfl,dv,tht,tsz,hq⟩:=h;refine⟨_,(Z7 (Zc (Xw (own:=["step"]) (Sl rfl rfl) (Yv (Z4 cU hr (Z0 (pv 0) Z1)))
  (fun _ _ _ _ _=>(Z9 (i:=0) Uy rfl (Or.inl rfl) (Or.inr rfl))) (fun _ _ _ _ _=>(S4 (Zi S7 (pv 0) Xz (Zh _))))
  (fun _ _ _ _ _=>(Y9 (Pp K rfl) rfl a9 ze (Z0 (pv 0) Z1)))))),?_⟩
 refine⟨_,rfl,v,t,H,rfl,Same.refl _,dv,tsz,fun r0 ls H1 g1 n0 e0 pr=>?_⟩;have pl:=Vw pr;rw[Wj]at pl;refine⟨r0,rfl,⟨_,SqL.of e0⟩,?_⟩;refine Wo (xs:=ls) (fun n ys H'=>Same H1 H'∧DVs H' ys ((((aw t).take n).filterMap id).map aR)∧ys.length≤n∧∀x∈ys,∃q,x=.ref q∧H q=none∧H' q≠none) ⟨Same.refl _,.nil,xA _,(fun _ h=>nomatch h)⟩ ?_ ?_ ?_
 ·rintro n ys H' _ ⟨g,_⟩;exact SqL.of (g _ _ e0)
 ·rintro n x ys H' C hx ⟨g,pa,yl,fr⟩ hC;obtain⟨o,ho,sv⟩:=N9 pr hx;have lt:n<ls.length:=(xI.mp hx).1;refine⟨Zj (by omega),Wk.refl _,_,rfl,rfl,_,rfl,?_⟩;cases o with
  |none=>
   have sv:x=.non:=sv;subst sv;refine Xe (hC _ _ ⟨g,?_,by omega,fr⟩);rw[Zv ho,Ae];simpa using pa
  |some ts=>
   have sv:DV H x (aR ts):=sv;obtain⟨b,xs,rfl,eb,qb⟩:=DV.list_inv sv;refine U1 ⟨_,rfl,b,xs,rfl,.inl (SqL.of (g _ _ (g1 _ _ eb))),fun u nu=>?_⟩;refine hC _ _ ⟨g.trans (Z6 nu _),?_,by rw[xE];show ys.length+1≤_;omega,?_⟩
   ·rw[Zv ho,Ae,xN];exact(pa.mono (Z6 nu _)).append (.cons (.lst Z2 (qb.mono (g1.trans (g.trans (Z6 nu _))))) .nil)
   ·intro y hy
    rcases xR.mp hy with h | h
    ·obtain⟨q,e,q1,q2⟩:=fr y h;refine⟨q,e,q1,fun z=>?_⟩;by_cases c:q=u
     ·rw[c,Z2]at z;cases z
     ·rw[Za c]at z;exact q2 z
    ·rw[xF.mp h];exact⟨u,rfl,g1.free (g.free nu),by rw[Z2];exact fun z=>nomatch z⟩
 ·rintro ys H' ⟨g,pa,yl,fr⟩;have e:(((aw t).take ls.length).filterMap id)=t.streams:=by
   rw[pl,←Wj t,xX];exact T8 t
  rw[e]at pa;refine⟨Zl (by omega),fun p np=>hq p ys _ (g1.trans (g.trans (Z6 np _))) (g1.free (g.free np)) Z2 (pa.mono (Z6 np _)) fun x hx=>?_⟩;obtain⟨q,e,q1,q2⟩:=fr x hx;exact⟨q,e,q1,fun z=>q2 (z ▸ np)⟩
theorem Nd(f9:Has P w K mg base "streams_in" 2 ["tree"] eR)(F:Fun K "stream_of" "stream_of" cj f fd):FnOk P w K mg base CX0 3 f fd ["tree"] cL:=by
 refine F.ok Vr (fun vs H Q E h=>?_) (fun cdv A outer s H vs Q E hr h=>?_)
 ·obtain⟨v,t,rfl,_⟩:=h;rfl
 obtain⟨v,t,rfl,dv,hht,hsz,hal,hq⟩:=h;refine⟨_,(Z3 (Zy 1 Vr.nd rfl (Or.inl rfl) (Yk Z1))
 (Z3 (X7 yc rfl (Yv (Z4 f9 hr (Z0 (pv 0) Z1))) (Z9 (i:=2) Vr.nd rfl (Or.inl rfl))
 (Z7 (Xh (Uf yg PySem.F.slot_list_extend PySem.F.type_list_extend R8 (pv 1) (Z0 (pv 2) Z1)))))
 (Z7 (Zc (pv 1))))),?_⟩
 refine⟨leN rfl,fun Ta hTa=>?_⟩;refine⟨_,rfl,v,t,rfl,dv.mono (Z6 hTa _),hht,hsz,fun r ls H1 g1 hr1 er dl hfr=>?_⟩;have lT:H1 Ta=some (.lst []):=g1 _ _ Z2;have rT:Ta≠r:=fun e=>by rw[←e,Z2]at hr1;cases hr1
 refine⟨r,rfl,⟨ls,SqL.of er⟩,?_⟩;have dll:=dl.length;rw[az]at dll;have sub:Same (au Ta H1) H1:=Yi;have dl':DVs (au Ta H1) ls (t.streams.map aR):=by
  have main:∀(ls:List V)(ss:List (List Th)),DVs H1 ls (ss.map aR)→(∀x∈ls,∃q,x=.ref q∧upd H Ta (.lst []) q=none∧q≠r)→DVs (au Ta H1) ls (ss.map aR):=by
   intro ls
   induction ls with
   |nil=>
    intro ss d _;cases ss with
    |nil=>exact .nil
    |cons s ss=>obtain⟨_,_,e,_⟩:=DVs.cons_inv d;cases e
   |cons x xs ih=>
    intro ss d hf;cases ss with
    |nil=>have:=d.nil_inv;cases this
    |cons s ss=>
     obtain⟨x',r',e,d1,d2⟩:=DVs.cons_inv d;cases e;refine .cons ?_ (ih ss d2 fun y hy=>hf y (yq _ hy));obtain⟨q,rfl,hq0,_⟩:=hf x yj;obtain⟨a,ys,e,e2,d3⟩:=DV.list_inv d1;cases e;have nq:q≠Ta:=fun e=>by rw[e,Z2]at hq0;cases hq0
     have things:∀(ys:List V)(ts:List Th),DVs H1 ys (ts.map Th.D)→DVs (au Ta H1) ys (ts.map Th.D):=by
      intro ys
      induction ys with
      |nil=>
       intro ts d;cases ts with
       |nil=>exact .nil
       |cons t ts=>obtain⟨_,_,e,_⟩:=DVs.cons_inv d;cases e
      |cons z zs ih2=>
       intro ts d;cases ts with
       |nil=>have:=d.nil_inv;cases this
       |cons t ts=>
        obtain⟨z',zr,e,d4,d5⟩:=DVs.cons_inv d;cases e;refine .cons ?_ (ih2 ts d5);obtain⟨c,cs,rfl,ec,d6⟩:=DV.tup_inv d4;have nc:c≠Ta:=fun e=>by rw[e,lT]at ec;cases ec
        refine .tup (by rw[Zg nc];exact ec) ?_;obtain⟨_,_,rfl,k1,d6⟩:=d6.cons_inv;obtain⟨_,_,rfl,k2,d6⟩:=d6.cons_inv;obtain⟨_,_,rfl,k3,d6⟩:=d6.cons_inv;obtain⟨_,_,rfl,k4,d6⟩:=d6.cons_inv;have:=d6.nil_inv;subst this;cases k1;cases k2;cases k3;cases k4;exact .cons (.int _) (.cons (.str _) (.cons (.int _) (.cons (.int _) .nil)))
     exact .lst (by rw[Zg nq];exact e2) (things ys s d3)
  exact main ls t.streams dl hfr
 refine P8 (xs:=ls) (fun i σ H2=>∃(xs:List V)(o:Option V),σ=[some v,some (.ref Ta),o]∧Same (au Ta H1) H2∧H2 Ta=some (.lst xs)∧DVs (au Ta H1) xs ((t.streams.take i).flatten.map Th.D)) ⟨[],none,rfl,Yi,lT,.nil⟩ ?_ ?_ ?_
 ·rintro i σ H2 hi ⟨xs,o,rfl,g2,eT,dx⟩;exact SqL.of (g2 _ _ (by rw[Zg (Ne.symm rT)];exact er))
 ·rintro i x σ H2 hx ⟨xs,o,rfl,g2,eT,dx⟩;obtain⟨d,hd,dv1⟩:=DVs.getV dl' hx;rw[xZ]at hd;obtain⟨ts,hts,rfl⟩:=yO.mp hd;obtain⟨a,ys,rfl,ea,da⟩:=DV.list_inv dv1;have lx:=dx.length;have ly:=da.length;rw[az]at lx ly;have hle:(t.streams.take (i+1)).flatten.length≤100000:=by
   have e:t.all.length=((t.streams.take (i+1)).flatten++(t.streams.drop (i+1)).flatten).length:=by
    rw[←List.flatten_append,List.take_append_drop,←Tr.all_eq]
   rw[xE]at e;omega
  have et:(t.streams.take (i+1)).flatten=(t.streams.take i).flatten++ts:=by
   rw[List.take_add_one,hts,List.flatten_append];simp
  rw[et,xE]at hle;refine⟨_,rfl,.inl ⟨rfl,_,SqL.of eT⟩,_,rfl,Ta,a,xs,ys,rfl,rfl,eT,g2 _ _ ea,Zl (by omega),?_⟩;refine⟨xs++ys,_,rfl,X8 g2 Rb,Z2,?_⟩;rw[et,xN];exact dx.append da
 ·rintro σ H2 ⟨xs,o,rfl,g2,eT,dx⟩;refine⟨_,rfl,?_⟩;rw[dll,xX,←Tr.all_eq]at dx;refine hq Ta xs H2 ?_ hTa eT (dx.mono g2);exact fun b u hb=>g2 b u (by rw[Zg (Zd hb hTa)];exact g1 b u (Z6 hTa _ b u hb))
theorem gQ{α β:Type}(f:α→β){l:List α}{i:Nat}{a:α}(h:l[i]?=some a):(l.take (i+1)).map f=(l.take i).map f++[f a]:=by
 rw[Zv h,xN];rfl
def nV(ps:Sps):List (Int×Int):=ps.map fun p=>(aE p.1,p.2)
def iu(ps:Sps):List (Int×Int):=ps.map fun p=>(aD p.1,p.2)
def Stc(k:Int×Int):Prop:=0≤k.1∧k.1≤20∧0≤k.2∧k.2≤1000000
def Sts(ps:Sps):Prop:=∀p∈ps,Stc p.1
theorem Kok.sts{or:Int}{ps:Sps}(h:Kok or (ps.map (·.1)))(d1:or≤10):Sts ps:=fun p hp=>by
 obtain⟨a,b,c,d⟩:=h.st p.1 (xB.mpr ⟨p,hp,rfl⟩);have:=Ss (m:=or-p.1.1) (by omega);exact⟨a,by omega,c,by omega⟩
def jM(f:Sps→List (Int×Int)):Sp:=fun vs H Q _=>∃(q:Addr)(Ar or total:Int)(ps:Sps),vs=[.ref q]∧LadAt H q Ar or total ps∧Sts ps∧ps.length≤200∧∀(l:Addr)(xs:List V)(H':Hp),Same H H'→H' l=some (.lst xs)→NsAt H' xs (f ps)→Q (.ref l) H'
theorem qQ(cV:Has P w K mg base "first_of" 1 ["stretch"] f6)(F:Fun K "lowest_places" "lowest_places" bj f fd):FnOk P w K mg base CX0 3 f fd ["ladder"] (jM nV):=by
 refine F.ok Sw (fun vs H Q E h=>?_) (fun cdv A outer s H vs Q E hr h=>?_)
 ·obtain⟨q,Ar,or,total,ps,rfl,_⟩:=h;rfl
 obtain⟨q,Ar,or,total,ps,rfl,lad,st,pl,hq⟩:=h;refine⟨_,(Z7 (Zc (Xw (own:=["stretch","count"]) (Sl rfl rfl) (Ql (Xa Xc (pv 0) Z5))
  (fun _ _ _ _ _=>(V0 K 2 rfl rfl (Z8 (Z9 (i:=0) Xm rfl (Or.inl rfl) (Or.inr rfl)) (Z8 (Z9 (i:=1) Xm rfl (Or.inl rfl) (Or.inr rfl)) Zo)))) (fun _ _ _ _ _=>We)
  (fun _ _ _ _ _=>(Zn (Z0 (Z4 cV hr (Z0 (pv 0) Z1)) (Z0 (pv 1) Z1))))))),?_⟩
 obtain⟨c,as,AC,Az,pr⟩:=lad.at_;have al:=xL pr;refine⟨_,rfl,q,_,2,_,rfl,rfl,SqT.of AC,rfl,c,rfl,⟨_,SqT.of Az⟩,?_⟩;refine iC (xs:=as.map V.ref) (fun i ys H'=>Same H H'∧NsAt H' ys ((ps.take i).map fun p=>(aE p.1,p.2))) ⟨Same.refl _,.nil⟩ ?_ ?_ ?_
 ·rintro i ys H' _ ⟨g,_⟩;exact SqT.of (g _ _ Az)
 ·rintro i x ys H1 C hx ⟨gg,na⟩ hC;obtain⟨a,p,rfl,hp,b,AB,Aw⟩:=Ve pr hx;have yl:=na.len;rw[az,xW]at yl;obtain⟨h0,h1,i0,i1⟩:=st p (xT hp);refine⟨Zj (by omega),a,_,rfl,SqT.of (gg _ _ AB),rfl,_,_,rfl,_,_,rfl,rfl,Wk.refl _,_,rfl,b,p.1,rfl,gg _ _ Aw,h0,h1,i0,by omega,_,rfl,leN rfl,?_⟩;intro t n_t;generalize hz:upd _ t _=H2;revert H2;refine blk ?_;intro H2 hz;have gz:=Zp hz n_t;have AD:=Y2 hz;clear hz;have gg:=gg.trans gz;refine hC _ _ ⟨gg,?_⟩;rw[gQ _ hp];exact(na.mono gz).snoc (p:=(aE p.1,p.2)) AD
 rintro ys H1 ⟨gg,na⟩;have yl:=na.len;rw[az,az,xW]at yl;refine⟨Zl (by omega),?_⟩;intro l n_l;generalize hz:upd _ l _=H2;revert H2;refine blk ?_;intro H2 hz;have gz:=Zp hz n_l;have AA:=Y2 hz;clear hz;have gg:=gg.trans gz;have na:=na.mono gz;rw[az,al,xX]at na;exact hq l ys _ gg AA na
theorem oD(bS:Has P w K mg base "last_of" 2 ["stretch"] fq)(F:Fun K "highest_places" "highest_places" bc f fd):FnOk P w K mg base CX0 3 f fd ["ladder"] (jM iu):=by
 refine F.ok S3 (fun vs H Q E h=>?_) (fun cdv A outer s H vs Q E hr h=>?_)
 ·obtain⟨q,Ar,or,total,ps,rfl,_⟩:=h;rfl
 obtain⟨q,Ar,or,total,ps,rfl,lad,st,pl,hq⟩:=h;refine⟨_,(Z7 (Zc (Xw (own:=["stretch","count"]) (Sl rfl rfl) (Ql (Xa Xc (pv 0) Z5))
  (fun _ _ _ _ _=>(V0 K 2 rfl rfl (Z8 (Z9 (i:=0) Xg rfl (Or.inl rfl) (Or.inr rfl)) (Z8 (Z9 (i:=1) Xg rfl (Or.inl rfl) (Or.inr rfl)) Zo)))) (fun _ _ _ _ _=>We)
  (fun _ _ _ _ _=>(Zn (Z0 (Z4 bS hr (Z0 (pv 0) Z1)) (Z0 (pv 1) Z1))))))),?_⟩
 obtain⟨c,as,AC,Az,pr⟩:=lad.at_;have al:=xL pr;refine⟨_,rfl,q,_,2,_,rfl,rfl,SqT.of AC,rfl,c,rfl,⟨_,SqT.of Az⟩,?_⟩;refine iC (xs:=as.map V.ref) (fun i ys H'=>Same H H'∧NsAt H' ys ((ps.take i).map fun p=>(aD p.1,p.2))) ⟨Same.refl _,.nil⟩ ?_ ?_ ?_
 ·rintro i ys H' _ ⟨g,_⟩;exact SqT.of (g _ _ Az)
 ·rintro i x ys H1 C hx ⟨gg,na⟩ hC;obtain⟨a,p,rfl,hp,b,AB,Aw⟩:=Ve pr hx;have yl:=na.len;rw[az,xW]at yl;have s1:=st p (xT hp);refine⟨Zj (by omega),a,_,rfl,SqT.of (gg _ _ AB),rfl,_,_,rfl,_,_,rfl,rfl,Wk.refl _,_,rfl,b,p.1,rfl,gg _ _ Aw,s1.1,s1.2.1,s1.2.2.1,s1.2.2.2,fun H2 g2=>⟨_,rfl,leN rfl,?_⟩⟩;have gg:=gg.trans g2;have na:=na.mono g2;intro t n_t;generalize hz:upd _ t _=H3;revert H3;refine blk ?_;intro H3 hz;have gz:=Zp hz n_t;have AD:=Y2 hz;clear hz;have gg:=gg.trans gz;refine hC _ _ ⟨gg,?_⟩;rw[gQ _ hp];exact(na.mono gz).snoc (p:=(aD p.1,p.2)) AD
 rintro ys H1 ⟨gg,na⟩;have yl:=na.len;rw[az,az,xW]at yl;refine⟨Zl (by omega),?_⟩;intro l n_l;generalize hz:upd _ l _=H2;revert H2;refine blk ?_;intro H2 hz;have gz:=Zp hz n_l;have AA:=Y2 hz;clear hz;have gg:=gg.trans gz;have na:=na.mono gz;rw[az,al,xX]at na;exact hq l ys _ gg AA na
theorem rj{g:Int×Int→Int}(G:dO g):∀(h:Nat)(j n:Int),0≤j→aE ((h:Int),j)≤n→n≤aD ((h:Int),j)→g ((h:Int),j)≤g (0,n):=by
 intro h
 induction h with
 |zero=>
  intro j n _ a b;have e1:aE (((0:Nat):Int),j)=j:=sT j;have e2:aD (((0:Nat):Int),j)=j:=tG j;have e:j=n:=by omega
  rw[e];exact x5 _
 |succ h ih=>
  intro j n j0 a b;have z:=G (h:Int) j (by omega) j0;have e:(((h+1:Nat):Int),j)=upK h j:=yM (by show((h+1:Nat):Int)=(h:Int)+1;omega) rfl;rw[e]at a b⊢;have p:=Yd h;have pw:(2:Int)^(h+1)=2^h*2:=Int.pow_succ _ _;have t1:((h:Int)+1).toNat=h+1:=by omega
  have t0:((h:Int)).toNat=h:=by omega
  have f1:aE (upK h j)=j*(2^h*2):=by show j*2^((h:Int)+1).toNat=_;rw[t1,pw]
  have l1:aD (upK h j)=(j+1)*(2^h*2)-1:=by show(j+1)*2^((h:Int)+1).toNat-1=_;rw[t1,pw]
  have f2:aE ((h:Int),2*j)=2*j*2^h:=by show 2*j*2^((h:Int)).toNat=_;rw[t0]
  have l2:aD ((h:Int),2*j)=(2*j+1)*2^h-1:=by show(2*j+1)*2^((h:Int)).toNat-1=_;rw[t0]
  have f3:aE ((h:Int),2*j+1)=(2*j+1)*2^h:=by show(2*j+1)*2^((h:Int)).toNat=_;rw[t0]
  have l3:aD ((h:Int),2*j+1)=(2*j+1+1)*2^h-1:=by show(2*j+1+1)*2^((h:Int)).toNat-1=_;rw[t0]
  have q1:j*(2^h*2)=2*j*2^h:=by rw[Int.mul_comm (2^h) 2,←y7,Int.mul_comm j 2]
  have q2:(j+1)*(2^h*2)=(2*j+1+1)*2^h:=by rw[Int.mul_comm (2^h) 2,←y7];congr 1;omega
  rcases Int.lt_or_le n ((2*j+1)*2^h)with c | c
  ·exact zB z.1 (ih (2*j) n (by omega) (by omega) (by omega))
  ·exact zB z.2 (ih (2*j+1) n (by omega) (by omega) (by omega))
theorem qM{g:Int×Int→Int}(G:dO g){k:Int×Int}(k0:0≤k.1)(k2:0≤k.2){n:Int}(a:aE k≤n)(b:n≤aD k):g k≤g (0,n):=by
 have e:((k.1.toNat:Nat):Int)=k.1:=by omega
 have q:=rj G k.1.toNat k.2 n k2;rw[e]at q;exact q a b
def cY(ns:List (Int×Int)):List Th:=ns.map fun p=>⟨0,"a",p.1,p.2⟩
theorem vC{f:Int×Int→Int}{or:Int}{ps:Sps}(o:Pok or ps)(hf:∀p∈ps,aE p.1≤f p.1∧f p.1≤aD p.1):Dom ps (cY (ps.map fun p=>(f p.1,p.2))):=fun g G=>by
 have st:=o.kok.st;have po:=o.pos;clear o
 induction ps with
 |nil=>exact x5 _
 |cons p ps ih=>
  have q:=ih (fun x hx=>hf x (.tail _ hx)) (fun k hk=>st k (.tail _ hk)) fun x hx=>po x (.tail _ hx);obtain⟨a,_,c,_⟩:=st p.1 (.head _);obtain⟨x,y⟩:=hf p (.head _);have r:=qM G a c x y;have m:=Int.mul_le_mul_of_nonneg_left r (show 0≤p.2 by have:=po p (.head _);omega);rw[Yu];show p.2*g p.1+wS g ps≤p.2*g (0,f p.1)+wT g (cY (ps.map fun p=>(f p.1,p.2)));omega
theorem k_{or:Int}{k:Int×Int}(h0:0≤k.1)(h1:k.1≤or)(h2:0≤k.2)(h3:k.2<2^(or-k.1).toNat):aD k≤2^or.toNat-1:=by
 unfold aD;have e:(2:Int)^or.toNat=2^(or-k.1).toNat*2^k.1.toNat:=by
  rw[←Int.pow_add,show(or-k.1).toNat+k.1.toNat=or.toNat by omega]
 have p:=Yd k.1.toNat;have q:(k.2+1)*2^k.1.toNat≤2^(or-k.1).toNat*2^k.1.toNat:=yK (by omega) (by omega);omega
def TsAt(H:Hp):List V→List Th→Prop:=Paired fun x t=>∃c:Addr,x=.ref c∧H c=some (.tup t.vs)
theorem TsAt.dvs{H:Hp}:∀{xs:List V}{ts:List Th},TsAt H xs ts→DVs H xs (ts.map Th.D)
 |_,_,.nil=>.nil
 |_,_,.cons ⟨c,e,h⟩ r=>by
  rw[e];exact .cons (Th.dv h) (TsAt.dvs r)
theorem TsAt.tup{H H':Hp}(g:∀c xs,H c=some (.tup xs)→H' c=some (.tup xs)){xs:List V}{ts:List Th}(h:TsAt H xs ts):TsAt H' xs ts:=Paired.mapP h fun _ _ ⟨c,e,q⟩=>⟨c,e,g _ _ q⟩
theorem u6{f:Int×Int→Int}{or:Int}{ps:Sps}(o:Pok or ps)(hf:∀p∈ps,aE p.1≤f p.1∧f p.1≤aD p.1):∀t∈cY (ps.map fun p=>(f p.1,p.2)),0≤t.num∧t.num<2^or.toNat∧1≤t.many∧t.word="a":=fun t ht=>by
 obtain⟨q,hq,rfl⟩:=xB.mp ht;obtain⟨p,hp,rfl⟩:=xB.mp hq;obtain⟨a,b,c,d⟩:=o.kok.st p.1 (xB.mpr ⟨p,hp,rfl⟩);obtain⟨x,y⟩:=hf p hp;have l:=k_ a b c d;have z:0≤aE p.1:=An c (yY (Yd _));exact⟨by show 0≤f p.1;omega,by show f p.1<_;omega,o.pos p hp,rfl⟩
def uA:Sp:=fun vs H Q _=>∃(l:Addr)(xs:List V)(ns:List (Int×Int)),vs=[.ref l]∧H l=some (.lst xs)∧NsAt H xs ns∧ns.length≤300∧∀(r:Addr)(H':Hp),H r=none→Same H H'→DV H' (.ref r) (aR (cY ns))→Q (.ref r) H'
def lm(F:Sps→List (Int×Int)):Sp:=fun vs H Q _=>∃(q:Addr)(Ar or total:Int)(ps:Sps),vs=[.ref q]∧LadAt H q Ar or total ps∧Sts ps∧ps.length≤200∧∀(r:Addr)(H':Hp),H r=none→Same H H'→DV H' (.ref r) (aR (cY (F ps)))→Q (.ref r) H'
theorem we(F:Fun K "stream_at" "stream_at" b9 f fd):FnOk P w K mg base CX0 1 f fd ["places"] uA:=by
 refine F.ok N1 (fun vs H Q E h=>?_) (fun cdv A outer s H vs Q E hr h=>?_)
 ·obtain⟨l,xs,ns,rfl,_⟩:=h;rfl
 obtain⟨l,xs,ns,rfl,AA,na,nl,hq⟩:=h;have xl:=na.len;refine⟨_,(Z7 (Zc (Xw (own:=["number","count"]) (Sl rfl rfl) (Yv (pv 0))
  (fun _ _ _ _ _=>(V0 K 2 rfl rfl (Z8 (Z9 (i:=0) Wc rfl (Or.inl rfl) (Or.inr rfl)) (Z8 (Z9 (i:=1) Wc rfl (Or.inl rfl) (Or.inr rfl)) Zo)))) (fun _ _ _ _ _=>We)
  (fun _ _ _ _ _=>(Zn (Z0 Z5 (Z0 Ue (Z0 (pv 0) (Z0 (pv 1) Z1))))))))),?_⟩
 refine⟨_,rfl,l,rfl,⟨_,SqL.of AA⟩,?_⟩;refine Wo (xs:=xs) (fun i ys H'=>Same H H'∧TsAt H' ys (cY (ns.take i))) ⟨Same.refl _,.nil⟩ (fun i ys H' _ h=>SqL.of (h.1 _ _ AA)) ?_ ?_
 ·rintro i x ys H' C hx ⟨g,ta⟩ hC;obtain⟨c,p,rfl,hp,Az⟩:=na.get hx;have il:=(xI.mp hp).1;have yl:=xL ta;unfold cY at yl;rw[az,xW]at yl;refine⟨Zj (by omega),c,_,rfl,SqT.of (g _ _ Az),rfl,_,_,rfl,_,_,rfl,rfl,Wk.refl _,_,rfl,_,rfl,leN rfl,fun u n_u=>hC _ _ ⟨g.trans (Z6 n_u _),?_⟩⟩;unfold cY;rw[Zv hp,xN];exact zR (ta.tup fun c ys e=>Z6 n_u _ _ _ e) ⟨u,rfl,Z2⟩
 ·rintro ys H' ⟨g,ta⟩;rw[xl,xX]at ta;have yl:=xL ta;unfold cY at yl;rw[az]at yl;refine⟨Zl (by omega),fun r n_r=>hq r _ (g.free n_r) (g.trans (Z6 n_r _)) (.lst Z2 ?_)⟩;exact(ta.tup fun c ys e=>Z6 n_r _ _ _ e).dvs
theorem lz(cm:Has P w K mg base "stream_at" 1 ["places"] uA)(dP:Has P w K mg base "lowest_places" 3 ["ladder"] (jM nV))(F:Fun K "lowest" "lowest" eg f fd):FnOk P w K mg base CX0 4 f fd ["ladder"] (lm nV):=by
 refine F.ok mH (fun vs H Q E h=>?_) (fun cdv A outer s H vs Q E hr h=>?_)
 ·obtain⟨q,Ar,or,total,ps,rfl,_⟩:=h;rfl
 obtain⟨q,Ar,or,total,ps,rfl,lad,st,pl,hq⟩:=h;refine⟨_,(Z7 (Zc (Z4 cm hr (Z0 (Z4 dP hr (Z0 (pv 0) Z1)) Z1)))),?_⟩;exact⟨_,rfl,q,Ar,or,total,ps,rfl,lad,st,pl,fun l xs H1 g1 e1 n1=>⟨l,xs,_,rfl,e1,n1,by unfold nV;rw[az];omega,fun r H2 nr g2 d=>hq r H2 (g1.free nr) (g1.trans g2) d⟩⟩
theorem jg(cm:Has P w K mg base "stream_at" 1 ["places"] uA)(dz:Has P w K mg base "highest_places" 3 ["ladder"] (jM iu))(F:Fun K "highest" "highest" dm f fd):FnOk P w K mg base CX0 4 f fd ["ladder"] (lm iu):=by
 refine F.ok jb (fun vs H Q E h=>?_) (fun cdv A outer s H vs Q E hr h=>?_)
 ·obtain⟨q,Ar,or,total,ps,rfl,_⟩:=h;rfl
 obtain⟨q,Ar,or,total,ps,rfl,lad,st,pl,hq⟩:=h;refine⟨_,(Z7 (Zc (Z4 cm hr (Z0 (Z4 dz hr (Z0 (pv 0) Z1)) Z1)))),?_⟩;exact⟨_,rfl,q,Ar,or,total,ps,rfl,lad,st,pl,fun l xs H1 g1 e1 n1=>⟨l,xs,_,rfl,e1,n1,by unfold iu;rw[az];omega,fun r H2 nr g2 d=>hq r H2 (g1.free nr) (g1.trans g2) d⟩⟩
def tot(ys:Sps)(k:Int×Int):Int:=(ys.map fun p=>if p.1=k then p.2 else 0).sum
theorem qt(xs ys:Sps)(k:Int×Int):tot (xs++ys) k=tot xs k+tot ys k:=by
 unfold tot;rw[xN,zk]
theorem im:∀(ys xs:Sps)(k:Int×Int),cnt (ay xs ys) k=cnt xs k+tot ys k
 | [],xs,k=>by
  show cnt xs k=cnt xs k+0;omega
 |p::ys,xs,k=>by
  rw[W8,im ys,Yx];unfold tot;rw[xD,xY];by_cases e:k=p.1
  ·rw[xC e,xC e.symm,e];omega
  ·rw[xz e,xz (Ne.symm e)];omega
theorem fc(ts:List Th)(k:Int×Int):cnt (av ts) k=tot (cr ts) k:=by
 unfold av;rw[im];show(0:Int)+_=_;omega
theorem qS(ts us:List Th)(k:Int×Int):cnt (av (ts++us)) k=cnt (av ts) k+cnt (av us) k:=by
 rw[fc,fc,fc];unfold cr;rw[xN,qt]
def l6(Ar or:Int)(xs ys:Sps):Sps:=dh or (ag (ay xs ys) / Ar) (ay xs ys)
def thP(Ar or:Int)(t:Th):Sps:=dh or (t.many / Ar) [((0,t.num),t.many)]
def lC(Ar or:Int)(a:Sps×Sps)(t:Th):Sps×Sps:=(aN Ar or a.1 (thL Ar or t),a.2++thP Ar or t++l6 Ar or a.1 (thL Ar or t))
def lfP(Ar or:Int)(ts:List Th):Sps×Sps:=ts.foldl (lC Ar or) ([],[])
def ldT(Ar or:Int):Tr→Sps×Sps
 |.leaf ts=>lfP Ar or ts
 |.node l r=>(aN Ar or (ldT Ar or l).1 (ldT Ar or r).1,(ldT Ar or l).2++(ldT Ar or r).2++l6 Ar or (ldT Ar or l).1 (ldT Ar or r).1)
theorem oE(Ar or:Int)(ts:List Th)(t:Th):lfP Ar or (ts++[t])=lC Ar or (lfP Ar or ts) t:=by
 unfold lfP;rw[List.foldl_append];rfl
structure LdOk(Ar or:Int)(ts:List Th)(a:Sps×Sps):Prop where
 lok:Lok Ar or a.1
 sum:ag a.1=aI ts
 len:a.1.length≤ts.length
 run:Run or (cnt (av ts)) a.2 (cnt a.1)
 few:a.2.length+mea or (a.1.map (·.1))≤21*ts.length
 mn:∀t∈ts,ThL or t
 bnd:∀p∈a.2,1≤p.2∧p.2≤aI ts
theorem j7:∀{ps:Sps},(∀p∈ps,0≤p.2)→0≤ag ps
 | [],_=>x5 _
 |p::ps,h=>by
  have a:=j7 fun q hq=>h q (.tail _ hq);have b:=h p (.head _);unfold ag at a⊢;rw[xD,xY];omega
theorem fY{or:Int}:∀{ts:List Th},(∀t∈ts,ThL or t)→0≤aI ts
 | [],_=>x5 _
 |t::ts,h=>by
  have a:=fY fun q hq=>h q (.tail _ hq);have b:=(h t (.head _)).2.2;unfold aI at a⊢;rw[xD,xY];omega
theorem uW{or:Int}{ps:Sps}(o:Pok or ps)(k:Int×Int):cnt ps k≤ag ps:=by
 have a:=Tv (k:=k) o.kok.nd;have b:=j7 (ps:=aU ps k) fun p hp=>by
  have:=o.pos p (x6.mp hp).1;omega
 omega
theorem gY{or:Int}{ps:Sps}(o:Pok or ps){k:Int×Int}{p:(Int×Int)×Int}(h:p∈aM ps k):1≤p.2∧p.2≤ag ps:=by
 unfold aM at h
 split at h
 ·rename_i hk;rw[xF.mp h];exact⟨Sm o hk,uW o k⟩
 ·exact absurd h ya
theorem qg{or bar:Int}{ps fs Au:Sps}(s:Stl or bar ps fs Au):Pok or ps→∀p∈fs,1≤p.2∧p.2≤ag ps:=by
 induction s with
 |done n=>exact fun _ _ h=>nomatch h
 |step f p1 s ih=>
  intro o p hp
  rcases xR.mp hp with hp | hp
  ·rcases xR.mp hp with hp | hp
   ·exact gY o hp
   ·exact gY o hp
  ·have:=ih ((Tx o f.in_ f.hd).perm p1) p hp;rw[Vi p1,Px o.kok.nd]at this;exact this
theorem kB{or bar:Int}{ps:Sps}(o:Pok or ps):∀p∈dh or bar ps,1≤p.2∧p.2≤ag ps:=by
 obtain⟨fs,Au,s⟩:=T7 (or:=or) (bar:=bar) _ ps (xA _) o.kok;have e:=W1 s o.kok.nd;rw[e.2];exact qg s o
theorem vy{Ar or:Int}{xs ys:Sps}(hx:Pok or xs)(hy:Pok or ys):bU or ((ag xs+ag ys) / Ar) (aO (ay xs ys))=aN Ar or xs ys∧dh or ((ag xs+ag ys) / Ar) (aO (ay xs ys))=l6 Ar or xs ys∧ag xs+ag ys=ag (aN Ar or xs ys):=by
 have o:=U7 hx hy.each;have e:=mo (bar:=(ag xs+ag ys) / Ar) o.kok (Y0 (ay xs ys)).symm;rw[←e.1,←e.2];unfold aN l6;rw[U6 hx.kok.nd];refine⟨rfl,rfl,?_⟩;have m:=Vy (Ar:=Ar) hx hy;unfold aN at m;rw[U6 hx.kok.nd]at m;exact m.2.1.symm
theorem jd{Ar or:Int}{ts us:List Th}{a b:Sps×Sps}(ha:LdOk Ar or ts a)(hb:LdOk Ar or us b):LdOk Ar or (ts++us) (aN Ar or a.1 b.1,a.2++b.2++l6 Ar or a.1 b.1):=by
 have m:=Vy (Ar:=Ar) ha.lok.pok hb.lok.pok;have o:=U7 ha.lok.pok hb.lok.pok.each;have l1:=ha.len;have l2:=hb.len;have f1:=ha.few;have f2:=hb.few;refine⟨m.1,?_,?_,?_,?_,fun t ht=>(xR.mp ht).elim (ha.mn t) (hb.mn t),fun p hp=>?_⟩
 ·show ag (aN Ar or a.1 b.1)=_;rw[m.2.1,ha.sum,hb.sum];unfold aI;rw[xN,zk]
 ·rw[xE];have:=m.2.2;show(aN Ar or a.1 b.1).length≤_;omega
 ·have e0:cnt (av (ts++us))=fun k=>cnt (av ts) k+cnt (av us) k:=funext fun k=>qS ts us k;have tb:=Tz (ts:=us) fun t ht=>(hb.mn t ht).2.2;have r1:=ha.run.add (x:=cnt (av us)) (Q3 tb.nn tb.nd);have r2:=hb.run.addL (x:=cnt a.1) (U4 ha.lok.pok);have r3:=jZ (bar:=ag (ay a.1 b.1) / Ar) o;rw[e0];refine(r1.app r2).app ?_;rw[←nZ hb.lok.pok.kok.nd];exact r3
 ·have r3:=k6 (bar:=ag (ay a.1 b.1) / Ar) o;have r4:=ki or b.1 a.1;show(a.2++b.2++dh or (ag (ay a.1 b.1) / Ar) (ay a.1 b.1)).length+mea or ((bU or (ag (ay a.1 b.1) / Ar) (ay a.1 b.1)).map (·.1))≤_;rw[xE,xE,xE];omega
 ·have z1:=fY ha.mn;have z2:=fY hb.mn;have ms:aI (ts++us)=aI ts+aI us:=by
   unfold aI;rw[xN,zk]
  rw[ms]
  rcases xR.mp hp with hp | hp
  ·rcases xR.mp hp with hp | hp
   ·have:=ha.bnd p hp;omega
   ·have:=hb.bnd p hp;omega
  ·have:=kB o p hp;rw[U6 ha.lok.pok.kok.nd,ha.sum,hb.sum]at this;exact this
theorem jf{Ar or:Int}:LdOk Ar or [] ([],[]):=⟨jK,rfl,xA _,.nil _,xA _,(fun _ h=>nomatch h),fun _ h=>nomatch h⟩
theorem tE{Ar or:Int}{t:Th}(d0:0≤or)(d1:or≤20)(h:ThL or t):LdOk Ar or [t] (thL Ar or t,thP Ar or t):=by
 have o:=Sa d0 h;have a:=Qb (Ar:=Ar) d0 h;have r:=jZ (bar:=t.many / Ar) o;have l:=k6 (bar:=t.many / Ar) o;have e:av [t]=[((0,t.num),0+t.many)]:=rfl;refine⟨a.1,?_,a.2.2,?_,?_,fun x hx=>by rw[xF.mp hx];exact h,fun p hp=>?_⟩
 ·show ag (thL Ar or t)=t.many+0;rw[a.2.1,Ao]
 ·rw[e,zJ];exact r
 ·have m:mea or ([((0,t.num),t.many)].map (·.1))=(or+1-0).toNat+0:=rfl;show(dh or (t.many / Ar) [((0,t.num),t.many)]).length+mea or ((bU or (t.many / Ar) [((0,t.num),t.many)]).map (·.1))≤21*1;omega
 ·have:=kB o p hp;rw[kD]at this;show 1≤p.2∧p.2≤t.many+0;omega
theorem r_{Ar or:Int}{ts:List Th}{t:Th}{a:Sps×Sps}(d0:0≤or)(d1:or≤20)(ha:LdOk Ar or ts a)(h:ThL or t):LdOk Ar or (ts++[t]) (lC Ar or a t):=jd ha (tE d0 d1 h)
theorem Rv{Ar or:Int}(d0:0≤or)(d1:or≤20):∀(us ts:List Th)(a:Sps×Sps),LdOk Ar or ts a→(∀t∈us,ThL or t)→LdOk Ar or (ts++us) (us.foldl (lC Ar or) a)
 | [],ts,a,ha,_=>by rw[yB];exact ha
 |u::us,ts,a,ha,h=>by
  have:=Rv d0 d1 us (ts++[u]) (lC Ar or a u) (r_ d0 d1 ha (h u (.head _))) fun t ht=>h t (.tail _ ht);rw[yL]at this;exact this
theorem nQ{Ar or:Int}(d0:0≤or)(d1:or≤20):∀{t:Tr},(∀x∈t.all,ThL or x)→LdOk Ar or t.all (ldT Ar or t)
 |.leaf ts,h=>Rv d0 d1 ts [] ([],[]) jf h
 |.node l r,h=>jd (nQ d0 d1 fun x hx=>h x (yC _ hx)) (nQ d0 d1 fun x hx=>h x (xP _ hx))
theorem vg{Ar or:Int}{ts:List Th}{a:Sps×Sps}(h:LdOk Ar or ts a):jD or (ag a.1) ts a.1 a.2=true:=by
 have hm:∀t∈ts,1≤t.many:=fun t ht=>(h.mn t ht).2.2;unfold jD;rw[Oy,h.sum,xJ rfl,h.run.chk ⟨h.lok.pok.kok.nd,fun p hp=>by have:=h.lok.pok.pos p hp;omega⟩ (fun _=>rfl) (Tz hm) fun _=>rfl,yr.mpr fun t ht=>xJ (h.mn t ht).2.1];rfl
theorem kJ{H:Hp}{p q r:Addr}{as bs:List Addr}{xs ys:Sps}(pa:Paired (FT H) as xs)(pb:Paired (FT H) bs ys)(nr:H r=none):PprAt (upd H r (.lst (as.map V.ref++bs.map V.ref))) r (xs++ys):=
 ⟨as++bs,by rw[xN];exact Z2,W4 (Paired.mapP pa fun _ _ f=>Zs (Z6 nr _) f) (Paired.mapP pb fun _ _ f=>Zs (Z6 nr _) f)⟩
theorem l8{Ar or:Int}{ts us:List Th}{a b:Sps×Sps}(o1:LdOk Ar or ts a)(o2:LdOk Ar or us b)(tl:ts.length+us.length<60):(a.1.map (·.1)).Nodup∧a.1.length+b.1.length<64∧Kok or ((aO (ay a.1 b.1)).map (·.1))∧(aO (ay a.1 b.1)).length<64:=by
 have n1:=o1.len;have n2:=o2.len;have al:=Wi b.1 a.1;have sl:=(Y0 (ay a.1 b.1)).length_eq;exact⟨o1.lok.pok.kok.nd,by omega,(U7 o1.lok.pok o2.lok.pok.each).kok.perm ((Y0 (ay a.1 b.1)).map _),by omega⟩
def PrAt(H:Hp)(w:Addr)(Ar or:Int)(a:Sps×Sps)(l:Addr):Prop:=∃q:Addr,H w=some (.tup [.ref q,.ref l])∧LadAt H q Ar or (ag a.1) a.1∧PprAt H l a.2
theorem PrAt.mono{H H':Hp}(g:Same H H'){w l:Addr}{Ar or:Int}{a:Sps×Sps}(h:PrAt H w Ar or a l):PrAt H' w Ar or a l:=let ⟨q,e,la,pp⟩:=h;⟨q,g _ _ e,la.mono g,pp.mono g⟩
def vQ(Ar or:Int)(a b:Sps×Sps):Sps×Sps:=(aN Ar or a.1 b.1,a.2++b.2++l6 Ar or a.1 b.1)
def nJ:Sp:=fun vs H Q _=>∃(w1 w2 l1 l2:Addr)(Ar or:Int)(ts us:List Th)(a b:Sps×Sps),vs=[.ref w1,.ref w2]∧PrAt H w1 Ar or a l1∧PrAt H w2 Ar or b l2∧LdOk Ar or ts a∧LdOk Ar or us b∧ts.length+us.length<60∧1≤Ar∧Ar≤20∧or≤20∧∀(w l:Addr) H',Same H H'→H l=none→PrAt H' w Ar or (vQ Ar or a b) l→Q (.ref w) H'
def uU:Sp:=fun vs H Q _=>∃(v:V)(Ar or:Int)(ts:List Th),vs=[.int Ar,.int or,v]∧DV H v (aR ts)∧(∀t∈ts,ThL or t)∧1≤Ar∧Ar≤20∧0≤or∧or≤20∧ts.length<60∧∀(w l:Addr)(H':Hp),Same H H'→H l=none→PrAt H' w Ar or (lfP Ar or ts) l→Q (.ref w) H'
theorem wY(aY:Has P w K mg base "settling_of" 4 ["ladder"] gr)(bx:Has P w K mg base "added_ladder" 2 ["one","other"] qR)(F:Fun K "merged_with_folds" "merged_with_folds" aH f fd):FnOk P w K mg base CX0 5 f fd ["one","other"] nJ:=by
 refine F.ok Zx (fun vs H Q E h=>?_) (fun cdv A outer s H vs Q E hr h=>?_)
 ·obtain⟨w1,w2,l1,l2,Ar,or,ts,us,a,b,rfl,_⟩:=h;rfl
 obtain⟨w1,w2,l1,l2,Ar,or,ts,us,a,b,rfl,⟨q1,e1,lad1,pp1⟩,⟨q2,e2,lad2,pp2⟩,o1,o2,tl,r0,r1,d1,hq⟩:=h;have mf:=l8 o1 o2 (by omega);have me:=vy (Ar:=Ar) o1.lok.pok o2.lok.pok;have f1:=o1.few;have f2:=o2.few;refine⟨_,(Z3 (Ys (pv 0) (Y6 rfl (Z8 (Z9 (i:=2) Zx.nd rfl (Or.inl rfl)) (Z8 (Z9 (i:=3) Zx.nd rfl (Or.inl rfl)) Zo))))
 (Z3 (Ys (pv 1) (Y6 rfl (Z8 (Z9 (i:=4) Zx.nd rfl (Or.inl rfl)) (Z8 (Z9 (i:=5) Zx.nd rfl (Or.inl rfl)) Zo))))
 (Z3 (Ys (Z4 aY hr (Z0 (Z4 bx hr (Z0 (pv 2) (Z0 (pv 4) Z1))) Z1)) (Y6 rfl (Z8 (Z9 (i:=6) Zx.nd rfl (Or.inl rfl)) (Z8 (Z9 (i:=7) Zx.nd rfl (Or.inl rfl)) Zo))))
 (Z7 (Zc (Zn (Z0 (pv 6) (Z0 (Ze Nc (Ze Nc (pv 3) (pv 5)) (pv 7)) Z1)))))))),?_⟩
 refine⟨_,rfl,w1,_,rfl,SqT.of e1,rfl,_,_,rfl,_,_,rfl,rfl,?_⟩;refine⟨_,rfl,w2,_,rfl,SqT.of e2,rfl,_,_,rfl,_,_,rfl,rfl,?_⟩;refine⟨_,rfl,_,rfl,q1,q2,Ar,or,_,_,a.1,b.1,rfl,lad1,lad2,mf.1,mf.2.1,fun q G1 g0 l3=>⟨q,Ar,or,_,_,rfl,l3,r0,r1,d1,mf.2.2.1,mf.2.2.2,fun t r l H3 fs Au g3 e3 nl lad3 pp3 fl st _ _=>?_⟩⟩;obtain⟨x1,x2⟩:=W1 st mf.2.2.1.nd;rw[←x1,me.1,me.2.2]at lad3;have pp3:PprAt H3 l fs:=pp3;rw[←x2,me.2.1]at pp3 fl;have g3:=g0.trans g3;refine⟨t,_,rfl,SqT.of e3,rfl,_,_,rfl,_,_,rfl,rfl,?_⟩;obtain⟨as,b1,c1⟩:=pp1.mono g3;obtain⟨bs,b2,c2⟩:=pp2.mono g3;obtain⟨cs,b3,c3⟩:=pp3;have n1:=xL c1;have n2:=xL c2;have n3:=xL c3;refine⟨_,rfl,_,rfl,_,rfl,l1,l2,_,_,rfl,rfl,b1,b2,Zl (by rw[az,az];omega),fun u nu=>?_⟩;have g4:=Z6 nu (.lst (as.map V.ref++bs.map V.ref));have pu:=kJ (p:=l1) (q:=l2) c1 c2 nu;have b3:=g4 _ _ b3;have c3:=Paired.mapP c3 fun _ _ f=>Zs g4 f;have lad4:=lad3.mono g4;have gg:=g3.trans g4;generalize upd H3 u (.lst (as.map V.ref++bs.map V.ref))=H4 at pu b3 c3 lad4 gg⊢;obtain⟨us,bu,cu⟩:=pu;have nu2:=xL cu;rw[xE]at nu2;refine⟨_,rfl,u,l,_,_,rfl,rfl,bu,b3,Zl (by rw[az,az];omega),fun z nz=>?_⟩;have g5:=Z6 nz (.lst (us.map V.ref++cs.map V.ref));have pz:=kJ (p:=u) (q:=l) cu c3 nz;have lad5:=lad4.mono g5;have nz0:=gg.free nz;have gg:=gg.trans g5;generalize upd H4 z (.lst (us.map V.ref++cs.map V.ref))=H5 at pz lad5 gg⊢;refine⟨leN rfl,fun w nw=>?_⟩;have g6:=Z6 nw (.tup [.ref r,.ref z]);exact hq w z _ (gg.trans g6) nz0 ⟨r,Z2,lad5.mono g6,pz.mono g6⟩
theorem wP(bA:Has P w K mg base "empty_ladder" 1 ["room","deep"] tO)(cI:Has P w K mg base "merged_with_folds" 5 ["one","other"] nJ)(aY:Has P w K mg base "settling_of" 4 ["ladder"] gr)(bF:Has P w K mg base "thing_ladder" 3 ["room","deep","thing"] ub)(F:Fun K "stream_with_folds" "stream_with_folds" aW f fd):FnOk P w K mg base CX0 6 f fd ["room","deep","stream"] uU:=by
 refine F.ok Yn (fun vs H Q E h=>?_) (fun cdv A outer s H vs Q E hr h=>?_)
 ·obtain⟨v,Ar,or,ts,rfl,_⟩:=h;rfl
 obtain⟨v,Ar,or,ts,rfl,dv,tw,r0,r1,d0,d1,tl,hq⟩:=h;obtain⟨b,xs,rfl,eb,qb⟩:=DV.list_inv dv;have xl:=qb.length;rw[az]at xl;refine⟨_,(Z3 (Zy 3 Yn.nd rfl (Or.inl rfl) (Zn (Z0 (Z4 bA hr (Z0 (pv 0) (Z0 (pv 1) Z1))) (Z0 (Yk Z1) Z1))))
 (Z3 (X7 yc rfl (Yv (pv 2)) (Z9 (i:=4) Yn.nd rfl (Or.inl rfl))
 (Z7 (Zy 3 Yn.nd rfl (Or.inl rfl) (Z4 cI hr (Z0 (pv 3) (Z0 (Z4 aY hr (Z0 (Z4 bF hr (Z0 (pv 0) (Z0 (pv 1) (Z0 (pv 4) Z1)))) Z1)) Z1))))))
 (Z7 (Zc (pv 3))))),?_⟩
 refine⟨_,rfl,_,rfl,Ar,or,rfl,fun q0 H0 s0 l0=>?_⟩;refine⟨leN rfl,fun p0 n0=>?_⟩;have g1:=Z6 n0 (.lst []);have ep0:(upd H0 p0 (.lst [])) p0=some (.lst []):=Z2;have np0:=s0.free n0;have l0:=l0.mono g1;have s0:=s0.trans g1;generalize upd H0 p0 (.lst [])=H1 at ep0 l0 s0⊢;refine⟨leN rfl,fun w0 nw=>?_⟩;have g2:=Z6 nw (.tup [.ref q0,.ref p0]);have pr0:PrAt (upd H1 w0 (.tup [.ref q0,.ref p0])) w0 Ar or (lfP Ar or (ts.take 0)) p0:=⟨q0,Z2,l0.mono g2,[],g2 _ _ ep0,.nil⟩;have s0:=s0.trans g2;generalize upd H1 w0 (.tup [.ref q0,.ref p0])=H2 at pr0 s0⊢;refine⟨_,rfl,b,rfl,⟨_,SqL.of (s0 _ _ eb)⟩,?_⟩;refine Xq (xs:=xs) (fun n σ H'=>∃(o4:Option V)(p l:Addr),σ=[some (.int Ar),some (.int or),some (.ref b),some (.ref p),o4]∧Same H H'∧H l=none∧PrAt H' p Ar or (lfP Ar or (ts.take n)) l) ⟨_,w0,p0,rfl,s0,np0,pr0⟩ ?_ ?_ ?_
 ·rintro n σ H' _ ⟨_,_,_,_,g,_⟩;exact SqL.of (g _ _ eb)
 ·rintro n x σ H' N B1 R hN hR hx ⟨o4,p,l,rfl,g,nl,pr⟩;obtain⟨t,c,ht,rfl,ec,hm⟩:=DVs.th_at qb hx;have il:n<ts.length:=(xI.mp ht).1;have o1:LdOk Ar or (ts.take n) (lfP Ar or (ts.take n)):=Rv d0 d1 (ts.take n) [] ([],[]) jf fun t ht=>tw t (zS ht);have o2:=tE (Ar:=Ar) d0 d1 (tw t hm);have ok1:=(Sa d0 (tw t hm)).kok;rw[Zv ht,oE]at hN;refine⟨_,rfl,_,rfl,_,rfl,_,rfl,c,Ar,or,t,rfl,g _ _ ec,tw t hm,d0,d1,fun q1 H3 s3 l3=>?_⟩;refine⟨q1,Ar,or,t.many,_,rfl,l3,r0,r1,d1,ok1,(show(1:Nat)<64 by decide),fun w1 q2 l2 H4 fs Au s4 e4 nl2 l4 pp4 _ st _ _=>?_⟩;obtain⟨x1,x2⟩:=W1 st ok1.nd;have es:t.many=ag (thL Ar or t):=((Qb (Ar:=Ar) d0 (tw t hm)).2.1).symm;have pr1:PrAt H4 w1 Ar or (thL Ar or t,thP Ar or t) l2:=by
   refine⟨q2,e4,?_,?_⟩
   ·show LadAt H4 q2 Ar or (ag (thL Ar or t)) (thL Ar or t);rw[←es];show LadAt H4 q2 Ar or t.many (bU or (t.many / Ar) [((0,t.num),t.many)]);rw[x1];exact l4
   ·show PprAt H4 l2 (dh or (t.many / Ar) [((0,t.num),t.many)]);rw[x2];exact pp4
  refine⟨p,w1,l,l2,Ar,or,_,_,_,_,rfl,pr.mono (s3.trans s4),pr1,o1,o2,by rw[xW,yR];omega,r0,r1,d1,fun w2 l5 H5 s5 nl5 pr5=>?_⟩;have gg:=g.trans (s3.trans s4);exact hN _ _ ⟨_,w2,l5,rfl,gg.trans s5,gg.free nl5,pr5⟩
 ·rintro σ H' ⟨o4,p,l,rfl,g,nl,pr⟩;rw[xl,xX]at pr;exact⟨_,rfl,hq p l H' g nl pr⟩
def wL(st:Stmt):Expr:=match aA st with
 |.Assign _ (.Call _ (_::e::_) _ _) _::_=>e
 |_=>.Constant .none 0 ⟨0,0,0,0⟩
abbrev ca:Expr:=wL ai
abbrev qPT:Str:=("ladder_paper":Str)++".<locals>."++"<lambda>"
theorem scP:LamScope ["stream"] ["room","deep"] (bo ca):=⟨rfl,rfl,rfl,by decide +kernel,by decide +kernel,fun x h=>by
  have:∀y∈(bo ca).names,y.2=.free→y.1="room"∨y.1="deep":=by decide +kernel
  rcases this (x,.free) (x4 h) rfl with e | e
  ·have e:x="room":=e;rw[e];exact .head _
  ·have e:x="deep":=e;rw[e];exact .tail _ (.head _),by decide +kernel,by decide +kernel⟩
theorem kY{H:Hp}{a:Addr}{xs:List V}(e:H a=some (.lst xs)){w l:Addr}{Ar or:Int}{x:Sps×Sps}(n:l≠a)(h:PrAt H w Ar or x l):PrAt (au a H) w Ar or x l:=by
 have tp:∀{b:Addr}{ys:List V},H b=some (.tup ys)→au a H b=some (.tup ys):=fun{b ys} h=>by
  rw[Zg (fun z=>by rw[z,e]at h;cases h)];exact h
 obtain⟨q,e1,la,as,e2,r⟩:=h;exact⟨q,tp e1,Ra e la,as,by rw[Zg n];exact e2,Paired.mapP r fun _ _ ⟨y,f1,f2⟩=>⟨y,tp f1,tp f2⟩⟩
abbrev Pw:Type:=(Sps×Sps)×List Th
def fsP(Ar or:Int)(ts:List Th):Pw:=(lfP Ar or ts,ts)
def fmP(Ar or:Int)(x y:Pw):Pw:=(vQ Ar or x.1 y.1,x.2++y.2)
theorem uK(Ar or:Int):∀t:Tr,evT (fsP Ar or) (fmP Ar or) t=(ldT Ar or t,t.all)
 |.leaf ts=>rfl
 |.node a b=>by
  show fmP Ar or (evT (fsP Ar or) (fmP Ar or) a) (evT (fsP Ar or) (fmP Ar or) b)=_;rw[uK Ar or a,uK Ar or b];rfl
def RepP(H0:Hp)(Ar or:Int)(H:Hp)(v:V)(x:Pw):Prop:=∃p l:Addr,v=.ref p∧PrAt H p Ar or x.1 l∧H0 l=none
def xv(T:Addr):Sp:=fun vs H Q _=>∃(v:V)(Ar or:Int)(t:Tr),vs=[.int Ar,.int or,v]∧1≤Ar∧Ar≤20∧0≤or∧or≤20∧DV H v t.D∧t.size≤1000∧(∀s∈t.streams,∀x∈s,ThL or x)∧t.all.length≤59∧LamAt T (di ca) qPT H∧
 ∀(l:Addr) H',Same (au T H) (au T H')→LamAt T (di ca) qPT H'→H l=none→PprAt H' l (ldT Ar or t).2→Q (.ref l) H'
def tJ(c:Addr)(Ar or:Int):Sp:=fun vs H Q _=>∃(v:V)(ts:List Th),vs=[v]∧H c=some (crO qPT c)∧DV H v (aR ts)∧(∀t∈ts,ThL or t)∧ts.length≤59∧∀(p l:Addr) H',Same H H'→H l=none→PrAt H' p Ar or (lfP Ar or ts) l→Q (.ref p) H'
theorem wd{c T f2:Addr}{oc:Value}{od an:Option Addr}{osl:Array (Option Value)}{kV doc pm ct:Value}{fd2:FuncData}(lk:K.lookup f=some ⟨oc,od,.func (W.fnOf "ladder_paper" "ladder_paper" (aB ai) (aA ai) (aa ai) .none kV doc pm an (.ref c) ct),osl⟩)(hcd:W.codeIn K (.ref c) "ladder_paper"=true)(C:W.CodeHd base c T)(hgP:mainGlobals≠T)(hB:base.BuiltinsAt mg T)(hb_grown:HasB P w K mg "grown" 9 ["tree","of_stream","of_two"] (dS P w K mg 8))(hT:∀base:Heap,K.In base→base.Ns mainGlobals mg→Has P w K mg base "stream_with_folds" 6 ["room","deep","stream"] uU)(hM:∀base:Heap,K.In base→base.Ns mainGlobals mg→Has P w K mg base "merged_with_folds" 5 ["one","other"] nJ)(m2:mg "merged_with_folds"=some (.ref f2))(F2:Fun K "merged_with_folds" "merged_with_folds" aH f2 fd2):
  FnOk P w K mg base CX0 10 f (W.fnOf "ladder_paper" "ladder_paper" (aB ai) (aA ai) (aa ai) .none kV doc pm an (.ref c) ct) ["room","deep","tree"] (xv T):=by
 refine pB (k:=9) lk hcd W9 (fun vs H Q E h=>?_) (fun A outer s H vs Q E hr h=>?_)
 ·obtain⟨v,Ar,or,t,rfl,_⟩:=h;rfl
 obtain⟨v,Ar,or,t,rfl,r0,r1,d0,d1,dv,hsz,tw,tal,lam,hq⟩:=h;have tZ:∃u,mg "merged_with_folds"=some u∧RelV (.ref f2) u:=⟨_,m2,rfl⟩;have hf:∀x∈(bo ca).names,x.2=.free→∃c',(PyProof.Rows.envOfC "ladder_paper" (aa ai) s.heap.objs.size f (.ref c)).cells.lookup x.1=some c':=fun x hx hk=>by
  have:∀y∈(bo ca).names,y.2=.free→(aa ai).names.lookup y.1=some .cell:=by decide +kernel
  exact So (this x hx hk)
 refine⟨_,Z3 (Ys (gN hb_grown (fun _=>rfl) rfl rfl hr (Z0 (pv 2) (Z0 (nG (c:=c) (T:=T) (sc:=bo ca) rfl C hgP hB hf) (Z0 (iD rfl tZ) Z1)))) (Y6 rfl (Z8 (Z9 (i:=3) W9.nd rfl (Or.inl rfl)) (Z8 (Z9 (i:=4) W9.nd rfl (Or.inl rfl)) Zo)))) (Z7 (Zc (pv 4))),?_⟩;refine⟨_,rfl,lam,fun a c' pm2 ctv H1 g1 na nac eT ec ea=>?_⟩;have tT:H T≠none:=by
  rcases lam.tab with e | ⟨_,e,_⟩ <;> (rw[e];exact fun z=>nomatch z)
 have nT1:∀xs,H T≠some (.lst xs):=by
  rcases lam.tab with e | ⟨_,e,_⟩ <;> (rw[e];exact fun _ z=>nomatch z)
 have nT2:∀xs,H T≠some (.tup xs):=by
  rcases lam.tab with e | ⟨_,e,_⟩ <;> (rw[e];exact fun _ z=>nomatch z)
 have aT:a≠T:=fun z=>tT (z ▸ na);have dv1:DV H1 v t.D:=((V3 nT1 nT2 dv).mono g1).mono Yi;have dva:DV (au a H1) v t.D:=V3 (by rw[ea];exact fun _ z=>nomatch z) (by rw[ea];exact fun _ z=>nomatch z) dv1;refine⟨a,_,ea,fun B wid=>?_⟩;have wfn:=wid.fn;have ec2:au a H1 c'=some (crO qPT c'):=by rw[Zg (Ne.symm nac)];exact ec
 have cls:∀x d,(aG (PyProof.Rows.envOfC "ladder_paper" (aa ai) s.heap.objs.size f (.ref c)) (bo ca).names).lookup x=some d→(PyProof.Rows.envOfC "ladder_paper" (aa ai) s.heap.objs.size f (.ref c)).cells.lookup x=some d:=fun x d e=>Ux _ [] hf (fun _ h=>nomatch h) (x,d) (x4 e);refine⟨Pw,RepP (au a H1) Ar or,fsP Ar or,fmP Ar or,fun x=>LdOk Ar or x.2 x.1,fun x=>x.2.length,59,fun ts=>(∀x∈ts,ThL or x)∧ts.length≤59,v,a,f2,t,rfl,dva,hsz,fun s hs=>⟨tw s hs,yi (Q5 t s hs) tal⟩,?_,?_,fun ts h=>?_,fun x y h1 h2 h3=>?_,by rw[Tq];exact tal,?_,?_⟩
 ·refine⟨_,["stream"],tJ c' Ar or,oZ (k:=7) (us:=[.int Ar,.int or]) (fr:=["room","deep"]) wfn scP rfl ?_ (fun x y d e1 e2=>wid.inj x y d (cls x d e1) (cls y d e2)) (fun x d e=>wid.cells x d (cls x d e)) (fun vs H Q E h=>?_) (fun vs H Q E h=>?_) (fun A outer s H vs Q E hr h=>?_),?_,⟨_,_,_,_,wfn⟩,?_⟩
  ·intro i x u h1 h2
   match i,h1,h2 with
   | 0,h1,h2=>
    cases h1;cases h2;obtain⟨c2,u2,e1,e2,rv⟩:=wid.cell 0 "room" (.int Ar) rfl rfl rfl;obtain⟨c3,hc3⟩:=Wq (bo ca).names [] (env:=PyProof.Rows.envOfC "ladder_paper" (aa ai) s.heap.objs.size f (.ref c)) "room" (x4 (scP.fre "room" (.head _)));obtain⟨c4,hc4⟩:=X6 hc3;have e3:=cls _ _ hc4;have e4:c4=c2:=xV (e3.symm.trans e1);subst e4;exact⟨c4,u2,hc4,e2,rv⟩
   | 1,h1,h2=>
    cases h1;cases h2;obtain⟨c2,u2,e1,e2,rv⟩:=wid.cell 1 "deep" (.int or) rfl rfl rfl;obtain⟨c3,hc3⟩:=Wq (bo ca).names [] (env:=PyProof.Rows.envOfC "ladder_paper" (aa ai) s.heap.objs.size f (.ref c)) "deep" (x4 (scP.fre "deep" (.tail _ (.head _))));obtain⟨c4,hc4⟩:=X6 hc3;have e3:=cls _ _ hc4;have e4:c4=c2:=xV (e3.symm.trans e1);subst e4;exact⟨c4,u2,hc4,e2,rv⟩
  ·obtain⟨_,_,_,e,_⟩:=h;exact e
  ·obtain⟨_,_,rfl,_⟩:=h;rfl
  ·obtain⟨u,ts,rfl,e,d,ok,tl,hq2⟩:=h;have cH:=hT B wid.kin wid.glb;refine⟨_,Z4 cH hr (Z0 (pv 1) (Z0 (pv 2) (Z0 (pv 0) Z1))),?_⟩;exact⟨_,rfl,_,rfl,_,rfl,u,Ar,or,ts,rfl,d,ok,r0,r1,d0,d1,by omega,hq2⟩
  ·exact .all fun us hl=>match us,hl with | [_],_=>rfl
  ·exact fun H u ts Q a' ys s ea' d ok hq2=>⟨u,ts,rfl,s _ _ ec2,d,ok.1,ok.2,fun p l H' s' nl d'=>hq2 (.ref p) H' s' ⟨p,l,rfl,kY (s' _ _ ea') (fun z=>by rw[z,ea']at nl;cases nl) d',s.free nl⟩⟩
 ·obtain⟨f',fd',FM,bM,kM,mM⟩:=(hM B wid.kin wid.glb).ex;have e:f'=f2:=by
   rw[m2]at mM;cases mM;rfl
  subst e;obtain⟨oc2,od2,kV2,doc2,pm3,an2,cdv2,ct2,osl2,_,lk2,_⟩:=F2.ex;refine⟨fd',["one","other"],nJ,FM.mono (by decide),bM,⟨_,_,_,_,wid.kin _ _ lk2⟩,?_⟩;rintro H u u' x y Q a' ys s ea' ⟨p,l,rfl,d,n1⟩ ⟨q,l',rfl,d2,n2⟩ ix iy wxy hq2;have wxy:x.2.length+y.2.length≤59:=wxy;exact⟨p,q,l,l',Ar,or,x.2,y.2,x.1,y.1,rfl,d.mono Yi,d2.mono Yi,ix,iy,by omega,r0,r1,d1,fun p' l'' H' s' nl d'=>hq2 (.ref p') H' s' ⟨p',l'',rfl,kY (s' _ _ ea') (fun z=>by rw[z,ea']at nl;cases nl) d',s.free nl⟩⟩
 ·exact⟨Rv d0 d1 ts [] ([],[]) jf h.1,rfl⟩
 ·exact⟨jd h1 h2,xE⟩
 ·rintro H H' g v x ⟨p,l,rfl,d,n⟩;exact⟨p,l,rfl,d.mono g,n⟩
 ·rintro p H' g ⟨p,l,rfl,⟨q,e1,la,pp⟩,nl⟩;rw[uK]at pp;have lT:H l=none:=by
   cases z:H l with
   |none=>rfl
   |some u=>
    by_cases hT:l=T
    ·rw[hT,Zg (Ne.symm aT),eT]at nl;cases nl
    ·have w1:=(Zf (g1 l u (by rw[Zg hT];exact z))).2;rw[Zg (Zd z na),w1]at nl;cases nl
  refine⟨p,_,rfl,SqT.of e1,rfl,_,_,rfl,_,_,rfl,rfl,_,rfl,?_⟩;refine hq l H' ?_ ?_ lT pp
  ·intro b u e;obtain⟨b1,b2⟩:=Zf e;have:=g1 b u e;obtain⟨_,e3⟩:=Zf this;rw[Zg b1];exact g b u (by rw[Zg (Zd b2 na)];exact e3)
  ·exact⟨.inr ⟨c',g _ _ (by rw[Zg (Ne.symm aT)];exact eT),g _ _ ec2⟩⟩
def sG:Sp:=fun vs H Q _=>∃(r q p:Addr)(ts:List Th)(Ar or total:Int)(qs Av:Sps),vs=[.ref r,.ref q,.ref p]∧DV H (.ref r) (aR ts)∧ts.length≤200∧LadAt H q Ar or total qs∧(qs.map (·.1)).Nodup∧qs.length≤400∧PprAt H p Av∧Av.length≤700∧eJ or qs (av ts) Av=true∧∀H',Same H H'→Q (.bl true) H'
theorem m6{ts:List Th}{i:Nat}{t:Th}(h:ts[i]?=some t):av (ts.take (i+1))=ao (av (ts.take i)) (0,t.num) (cnt (av (ts.take i)) (0,t.num)+t.many):=by
 unfold av cr;rw[Zv h,xN,xD,Ak,Sq]
theorem Qj{ps:Sps}{k:Int×Int}{n:Int}(h:k∈ps.map (·.1)):(ao ps k n).length=ps.length:=by
 have:=yP List.length (Xu ps k n);rw[xC h,az,az]at this;exact this
theorem mx{ls:Sps}{k:Int×Int}{m:Int}(h:k∈ls.map (·.1)):(bT ls k m).length≤ls.length+1:=by
 have a:=Qj (n:=cnt ls k-m) h;have b:=W2 (ao ls k (cnt ls k-m)) (ad k) (cnt (ao ls k (cnt ls k-m)) (ad k)+m);unfold bT;omega
theorem pf{ls:Sps}{k:Int×Int}{m:Int}(h:(ls.map (·.1)).Nodup):((bT ls k m).map (·.1)).Nodup:=Ye (Ye h)
theorem W0{α:Type}{l:List α}{f:α→Bool}{i:Nat}{x:α}(h:l[i]?=some x):(l.take (i+1)).filter f=(l.take i).filter f++(if f x=true then[x] else[]):=by
 rw[Zv h,z6,yt,List.filter_nil]
theorem rH(ps:Sps):(af ps).map (·.2)=(ps.map (·.2)).map V.int:=by
 unfold af;rw[x8,x8];rfl
theorem uC(F:Fun K "_law_at_leaves" "_law_at_leaves" bJ f fd):FnOk P w K mg base CX0 1 f fd ["_law_stream_here"] eO:=by
 refine F.ok Yz (fun vs H Q E h=>?_) (fun cdv A outer s H vs Q E hr h=>?_)
 ·obtain⟨r,ts,rfl,_⟩:=h;rfl
 obtain⟨r,ts,rfl,k_r,tl,hq⟩:=h;obtain⟨_,xs,e0,e_r,dx⟩:=DV.list_inv k_r;cases e0;have xl:=dx.length;rw[az]at xl;refine⟨_,(Z3 (Zy 1 Yz.nd rfl (Or.inl rfl) gW) Zb),fun d n_d=>?_⟩;have g1:=Z6 n_d (.dT []);have e_d:(upd H d (.dT [])) d=some (.dT (af (av (ts.take 0)))):=Z2;generalize upd H d (.dT [])=H1 at g1 e_d⊢;refine⟨_,(Z3 (X7 yc rfl (Yv (pv 0)) (Y6 rfl (Z8 (Z9 (i:=2) Yz.nd rfl (Or.inl rfl)) (Z8 (Z9 (i:=3) Yz.nd rfl (Or.inl rfl)) (Z8 (Z9 (i:=4) Yz.nd rfl (Or.inl rfl)) (Z8 (Z9 (i:=5) Yz.nd rfl (Or.inl rfl)) Zo)))))
 (Z7 (W3 (Yg hr) (pv 1) (Zn (Z0 Z5 (Z0 (pv 4) Z1))) (Ze Zu (X0 (Yg hr) (pv 1) (Zn (Z0 Z5 (Z0 (pv 4) Z1))) Z5 ⟨rfl,rfl,rfl,rfl⟩) (pv 5)) rfl))) Zb),?_⟩
 refine⟨_,rfl,r,rfl,⟨_,SqL.of (g1 _ _ e_r)⟩,?_⟩;refine Xq (xs:=xs) (fun i σ H'=>∃(o2 o3 o4 o5:Option V),σ=[some (.ref r),some (.ref d),o2,o3,o4,o5]∧Same H H'∧H' d=some (.dT (af (av (ts.take i))))) ⟨_,_,_,_,rfl,g1,e_d⟩ ?_ ?_ ?_
 ·rintro i σ H' _ ⟨_,_,_,_,_,g,_⟩;exact SqL.of (g _ _ e_r)
 ·rintro i x σ H' N B1 R hN hR hx ⟨o2,o3,o4,o5,rfl,g,ed⟩;obtain⟨t,c',ht,rfl,ec,mt⟩:=DVs.th_at dx hx;have ec:=g _ _ ec;have il:i<ts.length:=(xI.mp ht).1;refine⟨c',_,rfl,SqT.of ec,rfl,_,_,rfl,_,_,rfl,_,_,rfl,_,_,rfl,rfl,?_⟩;have st:=m6 ht;have sl:=Vq (ts.take i);rw[xW]at sl;rw[st]at hN;generalize av (ts.take i)=zs at ed sl hN;refine⟨_,rfl,d,rfl,.inr ⟨_,.inl ed⟩,_,rfl,leN rfl,fun a na=>?_⟩;have s2:=Z6 na (.tup [.int 0,.int t.num]);have AB:KAt (upd H' a (.tup [.int 0,.int t.num])) a (0,t.num):=Z2;have g2:=g.trans s2;have ed2:=s2 _ _ ed;generalize upd H' a (.tup [.int 0,.int t.num])=H2 at g2 AB ed2⊢;refine⟨_,Y7 ed2 AB,_,rfl,_,_,Yr _ _,rfl,_,rfl,_,rfl,leN rfl,fun b nb=>?_⟩;have s3:=Z6 nb (.tup [.int 0,.int t.num]);have Aw:KAt (upd H2 b (.tup [.int 0,.int t.num])) b (0,t.num):=Z2;have g3:=g2.trans s3;have ed3:=s3 _ _ ed2;generalize upd H2 b (.tup [.int 0,.int t.num])=H3 at g3 Aw ed3⊢;refine⟨d,_,rfl,DPut.t (k:=kk (0,t.num)) ed3 Aw (Zj (by rw[Zk];omega)),?_⟩;refine hN _ _ ⟨_,_,_,_,rfl,fun x w e=>?_,by rw[←Wt];exact Z2⟩;rw[Za (Zd e n_d)];exact g3 _ _ e
 rintro σ H2 ⟨o2,o3,o4,o5,rfl,gg,ed⟩;rw[xl,xX]at ed;exact⟨_,(Z7 (Zc (pv 1))),_,rfl,hq d _ n_d gg ed⟩
theorem uk(aJ:mg "dict"=none)(bR:Has P w K mg base "_law_at_leaves" 1 ["_law_stream_here"] eO)(F:Fun K "_law_shows" "_law_shows" dt f fd):FnOk P w K mg base CX0 2 f fd ["_law_stream_here","_law_ladder","_law_paper"] sG:=by
 refine F.ok Wr (fun vs H Q E h=>?_) (fun cdv A outer s H vs Q E hr h=>?_)
 ·obtain⟨r,q,p,ts,Ar,or,total,qs,Av,rfl,_⟩:=h;rfl
 obtain⟨r,q,p,ts,Ar,or,total,qs,Av,rfl,k_r,tl,lad,nq,ql,⟨bs,Ax,pb⟩,pl,ck,hq⟩:=h;obtain⟨c,as,AC,Az,pr⟩:=lad.at_;refine⟨_,(Z3 (Zy 3 Wr.nd rfl (Or.inl rfl) (Z4 bR hr (Z0 (pv 0) Z1))) Zb),?_⟩;refine⟨_,rfl,r,ts,rfl,k_r,by omega,fun d H1 n_d gg ed=>?_⟩;have sl:=Vq ts;have nS:((av ts).map (·.1)).Nodup:=Um yb;generalize av ts=S at ed ck sl nS;refine⟨_,(Z3 (X7 yc rfl (Yv (pv 2)) (Y6 rfl (Z8 (Z9 (i:=4) Wr.nd rfl (Or.inl rfl)) (Z8 (Z9 (i:=5) Wr.nd rfl (Or.inl rfl)) Zo)))
 (Z3 (Y8 (PW.pt (Wz (Zi Re (pv 5) Z5 (Zh _)) (Wz (Zi hO (Xa Xc (pv 4) Z5) (Xa Xc (pv 1) Z5) (Zh _)) (V8 (Zi Re (X0 (Yg hr) (pv 3) (pv 4) Z5 ⟨rfl,rfl,rfl,rfl⟩) (pv 5) (Zh _)))))) (Z7 (Zc Xl)) Zr)
 (Z3 (Zy 6 Wr.nd rfl (Or.inl rfl) (Zn (Z0 (Ze Zu (Xa Xc (pv 4) Z5) Z5) (Z0 (Ze Ur (Xa Xc (pv 4) Z5) Z5) Z1))))
 (Z3 (W3 (Yg hr) (pv 3) (pv 4) (Ze Xj (Wf (Yg hr) (pv 3) (pv 4) (fun _ _=>rfl)) (pv 5)) rfl)
 (Z7 (W3 (Yg hr) (pv 3) (pv 6) (Ze Zu (X0 (Yg hr) (pv 3) (pv 6) Z5 ⟨rfl,rfl,rfl,rfl⟩) (pv 5)) rfl)))))) Zb),?_⟩
 refine⟨_,rfl,p,rfl,⟨_,SqL.of (gg _ _ Ax)⟩,?_⟩;have bl:=xL pb;refine Xq (xs:=bs.map V.ref) (fun i σ H'=>∃(o4 o5 o6:Option V)(ls:Sps),σ=[some (.ref r),some (.ref q),some (.ref p),some (.ref d),o4,o5,o6]∧Same H H'∧H' d=some (.dT (af ls))∧ls.length≤200+i∧(ls.map (·.1)).Nodup∧eJ or qs ls (Av.drop i)=true) ⟨_,_,_,S,rfl,gg,ed,by omega,nS,ck⟩ ?_ ?_ ?_
 ·rintro i σ H' _ ⟨_,_,_,_,_,g,_⟩;exact SqL.of (g _ _ Ax)
 ·rintro i x σ H' N B1 R hN hR hx ⟨o4,o5,o6,ls,rfl,g,ed,al,nl,key⟩;obtain⟨a,⟨k,m⟩,rfl,hp,b,AB,Aw⟩:=Ve pb hx;have il:i<Av.length:=(xI.mp hp).1;have AB:=g _ _ AB;have Aw:KAt H' b k:=g _ _ Aw;rw[gH hp]at key;have key:(if m<1∨¬(0≤k.1∧k.1<or)∨cnt ls k<m then false else eJ or qs (bT ls k m) (Av.drop (i+1)))=true:=key;by_cases cc:m<1∨¬(0≤k.1∧k.1<or)∨cnt ls k<m
  ·rw[xC cc]at key;cases key
  rw[xz cc]at key;have c1:¬m<1:=fun z=>cc (.inl z);have c4:¬cnt ls k<m:=fun z=>cc (.inr (.inr z));have c3:k.1<or:=Classical.byContradiction fun z=>cc (.inr (.inl fun y=>z y.2));refine⟨a,_,rfl,SqT.of AB,rfl,_,_,rfl,_,_,rfl,rfl,?_⟩;refine⟨_,rfl,_,_,rfl,rfl,_,rfl,Xf (fun z=>absurd (xH z) c1) (fun _=>?_)⟩;refine⟨_,rfl,b,_,0,_,rfl,rfl,SqT.of Aw,rfl,_,rfl,q,_,1,_,rfl,rfl,SqT.of (g _ _ AC),rfl,_,_,rfl,rfl,_,rfl,Xf (fun z=>absurd (show or≤k.1 from xH z) (by omega)) (fun _=>?_)⟩;refine⟨_,rfl,d,rfl,.inr ⟨_,.inl ed⟩,_,rfl,_,Y7 ed Aw,_,rfl,_,_,Yr _ _,rfl,_,rfl,Xf (fun z=>absurd (xH z) c4) (fun _=>?_)⟩;have hk:k∈ls.map (·.1):=Ul (by omega);have lk:=Qx hk;have l1:=mx (m:=m) hk;have l0:=Qj (n:=cnt ls k-m) hk;have n1:=pf (k:=k) (m:=m) nl;refine⟨_,rfl,b,_,0,_,rfl,rfl,SqT.of Aw,rfl,_,_,rfl,rfl,_,rfl,b,_,1,_,rfl,rfl,SqT.of Aw,rfl,_,_,rfl,rfl,⟨by decide,by decide⟩,leN rfl,fun u nu=>?_⟩;have s4:=Z6 nu (.tup [.int (k.1+1),.int (k.2 / 2)]);have e_u:KAt (upd H' u (.tup [.int (k.1+1),.int (k.2 / 2)])) u (ad k):=Z2;have g4:=g.trans s4;have ed4:=s4 _ _ ed;have vc:KAt _ b k:=s4 _ _ Aw;generalize upd H' u (.tup [.int (k.1+1),.int (k.2 / 2)])=H4 at g4 e_u ed4 vc⊢;refine⟨_,rfl,_,rfl,d,.int (cnt ls k),rfl,by rw[←lk];exact Y7 ed4 vc,_,rfl,_,_,rfl,rfl,_,rfl,_,rfl,d,_,rfl,DPut.t (k:=kk k) ed4 vc (Zj (by rw[Zk];omega)),?_⟩;have tupd:∀{H:Hp}{b:Addr}{j:Int×Int}{kvs:List (List Key×V)}{o:HO},H d=some (.dT kvs)→KAt H b j→KAt (upd H d o) b j:=fun{H b j kvs o} e eb=>by
   show upd H d o b=_;rw[Za (U9 eb e (by intro z;cases z))];exact eb
  have sm5:∀{H0:Hp}{o:HO},Same H H0→Same H (upd H0 d o):=fun g x w e=>by
   rw[Za (Zd e n_d)];exact g _ _ e
  have g5:=sm5 (o:=.dT (aF (af ls) (kk k) (.int (cnt ls k-m)))) g4;have uM:=tupd (o:=.dT (aF (af ls) (kk k) (.int (cnt ls k-m)))) ed4 e_u;have ed5:(upd H4 d (.dT (aF (af ls) (kk k) (.int (cnt ls k-m))))) d=some (.dT (af (ao ls k (cnt ls k-m)))):=by rw[←Wt];exact Z2
  generalize upd H4 d (.dT (aF (af ls) (kk k) (.int (cnt ls k-m))))=H5 at g5 uM ed5⊢;refine⟨_,rfl,d,rfl,.inr ⟨_,.inl ed5⟩,_,rfl,_,Y7 ed5 uM,_,rfl,_,_,Yr _ _,rfl,_,rfl,_,rfl,d,_,rfl,DPut.t (k:=kk (ad k)) ed5 uM (Zj (by rw[Zk];omega)),?_⟩;exact hN _ _ ⟨_,_,_,bT ls k m,rfl,sm5 g5,by unfold bT;rw[←Wt (ao ls k (cnt ls k-m))];exact Z2,by omega,n1,key⟩
 ·rintro σ H' ⟨o4,o5,o6,ls,rfl,g,ed,al,nl,key⟩;rw[az,bl]at al;rw[az,bl,List.drop_length]at key;have key:eqB qs (ls.filter fun p=>decide (0<p.2))=true:=key;rw[←key]at hq;refine⟨_,(Z7 (Zc (Xx (jP hr.units) (Y9 (Xr rfl hr.units) rfl aJ yX (Z0 (Xa Xc (pv 1) Z5) Z1)) (Y9 (hW rfl hr.units) rfl aJ yX (Z0 (qV (Xw (own:=["_law_one"]) (Sl rfl rfl) (mN (Vx yI zF zY Ut (pv 3)))
  (fun _ _ _ _ _=>(Z9 (i:=0) Sc rfl (Or.inl rfl) (Or.inr rfl))) (fun _ _ _ _ _=>(S4 (Zi Rf (Xa (fQ K rfl) (pv 0) Z5) Z5 (Zh _))))
  (fun _ _ _ _ _=>(pv 0)))) Z1)) (Zh _)))),?_⟩
  refine⟨_,rfl,q,_,2,_,rfl,rfl,SqT.of (g _ _ AC),rfl,c,_,_,rfl,g _ _ Az,Tm (Paired.mapP pr fun _ _ f=>Zs g f),by rw[Zk];omega,fun z nz=>?_⟩;rw[Wu (oo nq)];have s4:=Z6 nz (.dT (af qs));have g4:=g.trans s4;have e_z:(upd H' z (.dT (af qs))) z=some (.dT (af qs)):=Z2;have ed:=s4 _ _ ed;generalize upd H' z (.dT (af qs))=H4 at g4 e_z ed⊢;refine⟨d,_,ed,_,rfl,T6 ed,d,_,rfl,rfl,ed,fun v nv=>?_⟩;have s5:=Z6 nv (a_ v d);have g5:=g4.trans s5;have e_z:=s5 _ _ e_z;have ed5:=s5 _ _ ed;have e_v:(upd H4 v (a_ v d)) v=some (a_ v d):=Z2;generalize upd H4 v (a_ v d)=H5 at g5 e_z ed5 e_v⊢;refine⟨v,d,_,rfl,e_v,ed5,fun o=>?_⟩;refine Rj (fun i ys H'=>Same (upd H5 d (.frz o (.dT (af ls)))) H'∧∃as:List Addr,ys=as.map V.ref∧Paired (FT H') as ((ls.take i).filter fun p=>decide (0<p.2))) ⟨Same.refl _,[],rfl,.nil⟩ ?_ ?_ ?_
  ·rintro i ys H' ⟨g6,as,rfl,pa⟩;refine⟨g6 _ _ Z2,Zj ?_⟩;have:=xL pa;have l2:=yu (fun p:(Int×Int)×Int=>decide (0<p.2)) (ls.take i);rw[xW]at l2;rw[az];omega
  ·rintro i p0 b T ys H6 C hp0 Aw nT ⟨g6,as,rfl,pa⟩ hC;obtain⟨e,he,rfl⟩:=Q9 hp0;have Aw:KAt H6 b e.1:=Aw;have s7:=Z6 nT (.tup [.ref b,.int e.2]);have e_T:(upd H6 T (.tup [.ref b,.int e.2])) T=some (.tup [.ref b,.int e.2]):=Z2;have Aw:KAt (upd H6 T (.tup [.ref b,.int e.2])) b e.1:=s7 _ _ Aw;have g7:=g6.trans s7;have pa:=Paired.mapP pa fun _ _ f=>Zs s7 f;generalize upd H6 T (.tup [.ref b,.int e.2])=H7 at g7 e_T Aw pa⊢;refine⟨Wk.refl _,_,rfl,T,_,1,_,rfl,rfl,SqT.of e_T,rfl,_,_,rfl,rfl,_,rfl,Xf (fun c1=>?_) (fun c1=>?_)⟩
   ·refine⟨_,rfl,hC _ _ ⟨g7,as++[T],by rw[xN];rfl,?_⟩⟩;rw[W0 he,xC c1];exact zR pa ⟨b,e_T,Aw⟩
   ·refine hC _ _ ⟨g7,as,rfl,?_⟩;rw[W0 he,xz c1,yB];exact pa
  rintro ys H6 ⟨g6,as,rfl,pa⟩;rw[Zk,xX]at pa;have fl:=yu (fun p:(Int×Int)×Int=>decide (0<p.2)) ls;have nf:((ls.filter fun p=>decide (0<p.2)).map (·.1)).Nodup:=List.Sublist.nodup (List.filter_sublist.map _) nl;generalize (ls.filter fun p=>decide (0<p.2))=fs at hq pa fl nf;have al2:=xL pa;refine⟨Zl (by rw[az];omega),fun l n_l=>?_⟩;have ld:l≠d:=fun z=>by rw[z,g6 _ _ Z2]at n_l;cases n_l
  have s7:=Z6 n_l (.lst (as.map V.ref));have g7:=g6.trans s7;have sz:=Vh ed5 g7;refine⟨o,g7 _ _ Z2,?_⟩;have pa:Paired (FT (upd (upd H6 l (.lst (as.map V.ref))) d (.dT (af ls)))) as fs:=Paired.mapP pa fun x y fx=>by
   obtain⟨b,f1,f2⟩:=Zs s7 fx;have k1:=g7 d _ Z2;exact⟨b,by rw[Za (U9 f1 k1 (by intro z;cases z))];exact f1,by rw[Za (U9 f2 k1 (by intro z;cases z))];exact f2⟩
  have AA:(upd (upd H6 l (.lst (as.map V.ref))) d (.dT (af ls))) l=some (.lst (as.map V.ref)):=by rw[Za ld];exact Z2
  generalize upd (upd H6 l (.lst (as.map V.ref))) d (.dT (af ls))=H7 at sz pa AA⊢;refine⟨l,_,_,rfl,SqL.of AA,Tm pa,by rw[Zk];omega,fun y ny=>?_⟩;rw[Wu (oo nf)];have s8:=Z6 ny (.dT (af fs));exact⟨z,y,qs,fs,rfl,rfl,s8 _ _ (sz _ _ e_z),Z2,hq _ (g5.trans (sz.trans s8))⟩
def aQ(or:Int)(p:(Int×Int)×Int):Sps:=(List.range (or+1-p.1.1).toNat).map fun(i:Nat)=>((p.1.1+(i:Int),p.1.2 / 2^i),p.2)
def dM(or:Int)(qs:Sps):Sps:=ay [] (qs.flatMap (aQ or))
theorem qh{a b q:Int}(hb:0<b):a / b=q↔q*b≤a∧a<(q+1)*b:=
 ⟨fun e=>⟨by rw[←e];exact Int.ediv_mul_le a (by omega),by rw[←e];exact Int.lt_ediv_add_one_mul_self a hb⟩,fun⟨x,y⟩=>by
  have h1:=(Int.le_ediv_iff_mul_le hb).mpr x;have h2:=Int.ediv_lt_of_lt_mul hb y;omega⟩
theorem sX(g:Int×Int→Int)(a b:Sps):wS g (a++b)=wS g a+wS g b:=by
 unfold wS;rw[xN,zk]
theorem kz(c h:Int)(f:Nat→Int×Int)(hf:∀i:Nat,(f i).1=h+(i:Int))(s:Int×Int):∀n:Nat,wS (fun x=>if x=s then 1 else 0) ((List.range n).map fun i=>(f i,c))=if s.1<h+(n:Int)∧h≤s.1∧f (s.1-h).toNat=s then c else 0
 | 0=>by
  rw[xz (by omega)];rfl
 |n+1=>by
  rw[List.range_succ,xN,sX,kz c h f hf s n];show _+(c*(if f n=s then 1 else 0)+0)=_;have hn:=hf n;by_cases e:f n=s
  ·rw[e]at hn;have t:(s.1-h).toNat=n:=by omega
   rw[xz (by omega),xC e,xC ⟨by omega,by omega,by rw[t];exact e⟩];omega
  ·rw[xz e];by_cases q:s.1<h+(n:Int)∧h≤s.1∧f (s.1-h).toNat=s
   ·rw[xC q,xC ⟨by omega,q.2⟩];omega
   ·rw[xz q,xz (fun z=>?_)]
    ·omega
    by_cases y:s.1<h+(n:Int)
    ·exact q ⟨y,z.2⟩
    ·have t:(s.1-h).toNat=n:=by omega
     rw[t]at z;exact e z.2.2
theorem jT{s k:Int×Int}(k0:0≤k.1)(le:k.1≤s.1):wit s k↔k.2 / 2^(s.1-k.1).toNat=s.2:=by
 have A:=Yd k.1.toNat;have B:=Yd (s.1-k.1).toNat;have e:(2:Int)^s.1.toNat=2^(s.1-k.1).toNat*2^k.1.toNat:=by
  rw[←Int.pow_add]
  congr 1
  omega
 rw[qh B];unfold wit aE aD;rw[e,←y7,←y7];constructor
 ·rintro⟨x,y⟩;have x:=zN x A;have y:=zN (show(k.2+1)*2^k.1.toNat≤(s.2+1)*2^(s.1-k.1).toNat*2^k.1.toNat by omega) A;exact⟨x,by omega⟩
 ·rintro⟨x,y⟩;have x:=yK x (yY A);have y:=yK (show k.2+1≤(s.2+1)*2^(s.1-k.1).toNat by omega) (yY A);exact⟨x,by omega⟩
theorem q_{or:Int}{p:(Int×Int)×Int}{s:Int×Int}(p0:0≤p.1.1)(s0:0≤s.1)(s1:s.1≤or):wS (fun x=>if x=s then 1 else 0) (aQ or p)=p.2*gin s p.1:=by
 unfold aQ;rw[kz p.2 p.1.1 (fun(i:Nat)=>(p.1.1+(i:Int),p.1.2 / 2^i)) (fun _=>rfl) s];by_cases le:p.1.1≤s.1
 ·have w:=jT p0 le;have hh:s.1<p.1.1+((or+1-p.1.1).toNat:Int):=by omega
  by_cases d:p.1.2 / 2^(s.1-p.1.1).toNat=s.2
  ·rw[xC ⟨hh,le,yM (by show p.1.1+((s.1-p.1.1).toNat:Int)=s.1;omega) d⟩,show gin s p.1=1 from V2 (w.mpr d),zK]
  ·rw[xz fun z=>d (yP Prod.snd z.2.2),show gin s p.1=0 from Wh fun z=>d (w.mp z),z8]
 ·rw[xz fun z=>le z.2.1,show gin s p.1=0 from Wh fun z=>le (sO s0 p0 z),z8]
theorem oM{or:Int}{s:Int×Int}(s0:0≤s.1)(s1:s.1≤or):∀{qs:Sps},(∀p∈qs,0≤p.1.1)→wS (fun x=>if x=s then 1 else 0) (qs.flatMap (aQ or))=wS (gin s) qs:=by
 intro qs
 induction qs with
 |nil=>intro _;rfl
 |cons p qs ih=>
  intro h;rw[List.flatMap_cons,sX,ih fun x hx=>h x (.tail _ hx),q_ (h p (.head _)) s0 s1,Yu]
theorem kP{or:Int}{s:Int×Int}{qs:Sps}(h:∀p∈qs,0≤p.1.1)(s0:0≤s.1)(s1:s.1≤or):cnt (dM or qs) s=wS (gin s) qs:=by
 unfold dM;rw[←Os (Um (xs:=[]) yb),Q7 (xs:=[]) yb,oM s0 s1 h];show 0+_=_;omega
theorem nH{or:Int}{qs:Sps}(h:∀p∈qs,0≤p.1.1){e:(Int×Int)×Int}(he:e∈dM or qs):0≤e.1.1∧e.1.1≤or:=by
 rcases V5 (xB.mpr ⟨e,he,rfl⟩)with q | q
 ·exact absurd q ya
 ·obtain⟨x,hx,ex⟩:=xB.mp q;obtain⟨p,hp,hx⟩:=List.mem_flatMap.mp hx;obtain⟨i,hi,rfl⟩:=xB.mp hx;have hi:=List.mem_range.mp hi;have p0:=h p hp;rw[←ex];show 0≤p.1.1+(i:Int)∧p.1.1+(i:Int)≤or;omega
theorem q5{g:Int×Int→Int}{ps:Sps}:(∀p∈ps,g p.1=1)→wS g ps=ag ps:=by
 induction ps with
 |nil=>intro _;rfl
 |cons p ps ih=>
  intro h;rw[Yu,sum_cons,ih fun x hx=>h x (.tail _ hx),h p (.head _),zK]
theorem vI{s:Int×Int}{ps:Sps}:(∀p∈ps,0≤p.2)→wS (gin s) ps≤ag ps:=by
 induction ps with
 |nil=>intro _;exact x5 _
 |cons p ps ih=>
  intro h;have a:=ih fun x hx=>h x (.tail _ hx);have b:=h p (.head _);rw[Yu,sum_cons];by_cases w:wit s p.1
  ·rw[show gin s p.1=1 from V2 w,zK];omega
  ·rw[show gin s p.1=0 from Wh w,z8];omega
theorem qX{or:Int}{qs:Sps}{ts:List Th}(d0:0≤or)(o:Pok or qs)(h:∀t∈ts,0≤t.num∧1≤t.many):
  (ag (av ts)=ag qs∧(∀e∈dM or qs,e.2≤wS (gin e.1) (av ts))∧∀e∈av ts,e.1.2<2^or.toNat)↔(∀t∈ts,t.num<2^or.toNat)∧Can qs (el ts):=by
 have st:=fun p (hp:p∈qs)=>o.kok.st p.1 (xB.mpr ⟨p,hp,rfl⟩);have p0:∀p∈qs,0≤p.1.1:=fun p hp=>(st p hp).1;have nW:((dM or qs).map (·.1)).Nodup:=Um (xs:=[]) yb;have sp:=Uo fun t ht=>(h t ht).2;have nn:∀p∈av ts,0≤p.2:=fun p hp=>yY (sp.pos p hp);have qn:∀p∈qs,0≤p.2:=fun p hp=>by have:=o.pos p hp;omega
 have leaf:∀e∈av ts,∃t∈ts,e.1=(0,t.num):=fun e he=>by
  rcases V5 (xB.mpr ⟨e,he,rfl⟩)with q | q
  ·exact absurd q ya
  ·unfold cr at q;rw[x8]at q;obtain⟨t,ht,ee⟩:=xB.mp q;exact⟨t,ht,ee.symm⟩
 constructor
 ·rintro⟨h1,h2,h3⟩;have inn:∀t∈ts,t.num<2^or.toNat:=fun t ht=>by
   have hk:(0,t.num)∈(av ts).map (·.1):=Sd (.inr (xB.mpr ⟨((0,t.num),t.many),xB.mpr ⟨t,ht,rfl⟩,rfl⟩));obtain⟨e,he,ee⟩:=xB.mp hk;have:=h3 e he;rw[ee]at this;exact this
  refine⟨inn,fun s s0=>?_,h1.symm⟩;show wS (gin s) qs≤wS (gin s) (av ts);have z:=sK (g:=gin s) (fun _=>jm) nn;by_cases s1:s.1≤or
  ·have c:=kP p0 s0 s1;by_cases c1:1≤wS (gin s) qs
   ·obtain⟨e,he,ee⟩:=xB.mp (Ul (show 1≤cnt (dM or qs) s by omega));have q:=Yt nW he;have r:=h2 e he;rw[ee]at q r;omega
   ·omega
  ·by_cases w:∃p∈qs,wit s p.1
   ·obtain⟨p,hp,w⟩:=w;obtain⟨a,b,c,d⟩:=st p hp;have l:=k_ a b c d;have f0:0≤aE p.1:=An c (yY (Yd _));have fl:aE p.1≤aD p.1:=by
     have A:=Yd p.1.1.toNat;unfold aE aD;rw[zE];omega
    have e1:aE (or,0)=0:=by
     show 0*(2:Int)^or.toNat=0;omega
    have e2:aD (or,0)=2^or.toNat-1:=by
     show(0+1)*(2:Int)^or.toNat-1=_;rw[zJ,yE]
    have wt:=gd (s:=s) (k:=(or,0)) d0 (show or≤s.1 by omega) (n:=aE p.1) (by omega) (by omega) w.1 (by have:=w.2;omega);have al:wS (gin s) (av ts)=ag (av ts):=q5 fun e he=>by
     obtain⟨t,ht,ee⟩:=leaf e he;have t0:=(h t ht).1;have t1:=inn t ht;have w1:=wt.1;have w2:=wt.2;rw[ee];exact V2 (wit_0.mpr ⟨by omega,by omega⟩)
    have:=vI (s:=s) qn;omega
   ·have:wS (gin s) qs=0:=Rp fun p hp=>.inr (Wh fun z=>w ⟨p,hp,z⟩);omega
 ·rintro⟨inn,C⟩;refine⟨C.all.symm,fun e he=>?_,fun e he=>?_⟩
  ·obtain⟨a,b⟩:=nH p0 he;have q:=Yt nW he;rw[kP p0 a b]at q;have r:=C.each e.1 a;rw[q]at r;exact r
  ·obtain⟨t,ht,ee⟩:=leaf e he;rw[ee];exact inn t ht
theorem qU{ts:List Th}{s:Int×Int}(s0:0≤s.1):(((av ts).filter fun e=>decide (e.1.2 / 2^s.1.toNat=s.2)).map (·.2)).sum=wS (gin s) (av ts):=by
 have hz:∀e∈av ts,e.1.1=0:=fun e he=>by
  obtain⟨n,en⟩:=Qd he;rw[en]
 generalize av ts=S at hz
 induction S with
 |nil=>rfl
 |cons e S ih=>
  have ih:=ih fun x hx=>hz x (.tail _ hx);have z:=hz e (.head _);have w:=jT (s:=s) (k:=e.1) (by omega) (by omega);rw[z,Int.sub_zero]at w;rw[Yu,yt];by_cases d:e.1.2 / 2^s.1.toNat=s.2
  ·rw[xC (xJ d),xD,xY,ih,show gin s e.1=1 from V2 (w.mpr d),zK]
  ·rw[if_neg (by simpa using d),ih,show gin s e.1=0 from Wh fun y=>d (w.mp y),Int.mul_zero,Int.zero_add]
def sV:Sp:=fun vs H Q _=>∃(r q:Addr)(ts:List Th)(Ar or:Int)(qs:Sps),vs=[.ref r,.ref q]∧DV H (.ref r) (aR ts)∧ts.length≤200∧LadAt H q Ar or (ag qs) qs∧Pok or qs∧qs.length≤60∧0≤or∧or≤10∧(∀t∈ts,0≤t.num∧1≤t.many)∧∀(b:Bool)(H':Hp),Same H H'→(b=true↔(∀t∈ts,t.num<2^or.toNat)∧Can qs (el ts))→Q (.bl b) H'
theorem lh{H:Hp}{d b:Addr}{ps:Sps}{k:Int×Int}{o:Obj}(e:H d=some (.frz o (.dT (af ps))))(eb:KAt H b k):DGet H d (.ref b) (ax ps k):=.inr ⟨_,kk k,b,.inr ⟨o,e⟩,rfl,eb,rfl⟩
theorem g_{or:Int}(d1:or≤10):∀{qs:Sps},(∀p∈qs,0≤p.1.1)→(qs.flatMap (aQ or)).length≤11*qs.length:=by
 intro qs
 induction qs with
 |nil=>intro _;exact xA _
 |cons p qs ih=>
  intro h;have a:=ih fun x hx=>h x (.tail _ hx);have b:=h p (.head _);rw[List.flatMap_cons,xE,yn];have c:(aQ or p).length=(or+1-p.1.1).toNat:=by
   unfold aQ;rw[az,List.length_range]
  omega
theorem iK{α:Type}{l:List α}{f:α→Bool}:(l.filter f).isEmpty=true↔∀x∈l,f x=false:=by
 rw[List.isEmpty_iff,List.filter_eq_nil_iff];exact⟨fun h x hx=>yy.mpr (h x hx),fun h x hx z=>by rw[h x hx]at z;cases z⟩
def fw(e:(Int×Int)×Int):PyData:=.tuple [.int e.1.1,.int e.1.2]
theorem iw(l:Sps):(PyData.list (l.map fw)).canLay0=true∧(PyData.list (l.map fw)).depth≤3:=ic l fun p _=>by
 refine⟨?_,?_⟩
 ·simp[fw,PyData.canLay0,PyData.canLayAll0]
 ·simp[fw,PyData.depth,PyData.depthAll]
theorem gi{H:Hp}{d:Addr}{o:Obj}{kvs:List (List Key×V)}(e:H d=some (.frz o (.dT kvs))):∀{ys:List V}{l:Sps},DVs H ys (l.map fw)→DVs (upd H d (.dT kvs)) ys (l.map fw)
 | [],[],_=>.nil
 | [],_::_,h=>by obtain⟨_,_,z,_⟩:=DVs.cons_inv h;cases z
 |_::_,[],h=>by have:=h.nil_inv;cases this
 |y::ys,p::l,h=>by
  obtain⟨x,r,z,h1,h2⟩:=DVs.cons_inv h;cases z;obtain⟨b,xs,rfl,eb,h3⟩:=DV.tup_inv h1;obtain⟨_,_,rfl,k1,h3⟩:=h3.cons_inv;obtain⟨_,_,rfl,k2,h3⟩:=h3.cons_inv;have:=h3.nil_inv;subst this;cases k1;cases k2;exact .cons (.tup (by rw[Za (fun z=>by rw[z,e]at eb;cases eb)];exact eb) (.cons (.int _) (.cons (.int _) .nil))) (gi e h2)
theorem uZ(ei:mg "sum"=none)(aK:mg "range"=none)(bR:Has P w K mg base "_law_at_leaves" 1 ["_law_stream_here"] eO)(F:Fun K "_law_fits" "_law_fits" eA f fd):FnOk P w K mg base CX0 2 f fd ["_law_stream_here","_law_ladder"] sV:=by
 refine F.ok Y5 (fun vs H Q E h=>?_) (fun cdv A outer s H vs Q E hr h=>?_)
 ·obtain⟨r,q,ts,Ar,or,qs,rfl,_⟩:=h;rfl
 obtain⟨r,q,ts,Ar,or,qs,rfl,k_r,tl,lad,ok,ql,d0,d1,th,hq⟩:=h;obtain⟨c,as,AC,Az,pr⟩:=lad.at_;have fi:=qX d0 ok th;have p0:∀p∈qs,0≤p.1.1:=fun p hp=>(ok.kok.st p.1 (xB.mpr ⟨p,hp,rfl⟩)).1;have rl:=g_ d1 p0;have wl:=Wi (qs.flatMap (aQ or)) [];have sl:=Vq ts;have sgin:∀s:Int×Int,0≤s.1→(((av ts).filter fun e=>decide (e.1.2 / 2^s.1.toNat=s.2)).map (·.2)).sum=wS (gin s) (av ts):=fun s s0=>qU s0;have nS:((av ts).map (·.1)).Nodup:=Um yb;refine⟨_,(Z3 (Ys (pv 1) (Y6 rfl (Z8 (Z9 (i:=2) Y5.nd rfl (Or.inl rfl)) (Z8 (Z9 (i:=3) Y5.nd rfl (Or.inr rfl)) (Z8 (Z9 (i:=4) Y5.nd rfl (Or.inl rfl)) (Z8 (Z9 (i:=5) Y5.nd rfl (Or.inl rfl)) Zo)))))) Zb),?_⟩;refine⟨_,rfl,q,_,rfl,SqT.of AC,rfl,_,_,rfl,_,_,rfl,_,_,rfl,_,_,rfl,rfl,?_⟩;refine⟨_,(Z3 (@iT _ _ 6 _ _ _ _ Y5.nd rfl (Or.inr rfl) (Z4 bR hr (Z0 (pv 0) Z1)) (by rfl) (by first | exact .inl rfl | exact .inr rfl)) Zb),?_⟩;refine⟨_,rfl,r,ts,rfl,k_r,by omega,fun d H1 n_d gg ed=>?_⟩;generalize av ts=S at ed fi sl sgin nS;refine⟨_,(Z3 (Y8 (Zi Qo (Y1 (jB rfl) rfl ei PyProof.Rows.boot_sum (Z0 (Vx yI PySem.F.slot_dict_values PySem.F.type_dict_values iZ (pv 6)) Z1)) (pv 5) (Zh _)) (Z7 (Zc Xl)) Zr) Zb),?_⟩;refine⟨_,rfl,T6 ed,d,_,rfl,rfl,ed,fun v nv=>?_⟩;have s3:=Z6 nv (eU v d);refine⟨v,d,_,S.map (·.2),rfl,Z2,s3 _ _ ed,rH S,?_⟩;have gg:=gg.trans s3;have ed:=s3 _ _ ed;generalize upd H1 v (eU v d)=H2 at gg ed⊢;refine⟨_,rfl,rfl,_,rfl,Xf (fun c1=>?_) (fun c1=>?_)⟩
 ·have c1:¬ag S=ag qs:=by
   intro z;have:¬(S.map (·.2)).sum=ag qs:=by simpa using c1
   exact this z
  exact hq false _ gg ⟨(fun z=>nomatch z),fun z=>absurd (fi.mpr z).1 c1⟩
 have c1:ag S=ag qs:=by
  have:(S.map (·.2)).sum=ag qs:=by simpa using c1
  exact this
 refine⟨_,(Z3 (Zy 7 Y5.nd rfl (Or.inl rfl) gW) Zb),fun w0 n_w=>?_⟩;have rX:H w0=none:=gg.free n_w;have dw:d≠w0:=fun z=>by rw[z,n_w]at ed;cases ed
 have s4:=Z6 n_w (.dT []);have e_w:(upd H2 w0 (.dT [])) w0=some (.dT (af (ay [] ((qs.take 0).flatMap (aQ or))))):=Z2;have gg:=gg.trans s4;have ed:=s4 _ _ ed;clear s4 n_w s3 nv;generalize upd H2 w0 (.dT [])=H3 at gg ed e_w⊢;refine⟨_,(Z3 (X7 yc rfl (Ql (pv 4)) (Y6 rfl (Z8 (Y6 rfl (Z8 (Z9 (i:=8) Y5.nd rfl (Or.inr rfl)) (Z8 (Z9 (i:=9) Y5.nd rfl (Or.inr rfl)) Zo))) (Z8 (Z9 (i:=10) Y5.nd rfl (Or.inl rfl)) Zo)))
 (Z7 (X7 yc rfl (lH rfl aK (Z0 (pv 8) (Z0 (Ze Zu (pv 3) Z5) Z1))) (Z9 (i:=11) Y5.nd rfl (Or.inl rfl))
 (Z3 (Zy 12 Y5.nd rfl (Or.inl rfl) (Zn (Z0 (pv 11) (Z0 (Ze oO (pv 9) (Ze Xj (pv 11) (pv 8))) Z1))))
 (Z7 (W3 (Yg hr) (pv 7) (pv 12) (Ze Zu (X0 (Yg hr) (pv 7) (pv 12) Z5 ⟨rfl,rfl,rfl,rfl⟩) (pv 10)) rfl)))))) Zb),?_⟩
 refine⟨_,rfl,c,rfl,⟨_,SqT.of (gg _ _ Az)⟩,?_⟩;have al:=xL pr;refine P7 (xs:=as.map V.ref) (fun i σ H'=>∃(o8 o9 o10 o11 o12 o13:Option V),σ=[some (.ref r),some (.ref q),some (.int Ar),some (.int or),some (.ref c),some (.int (ag qs)),some (.ref d),some (.ref w0),o8,o9,o10,o11,o12,o13]∧Same H H'∧H' d=some (.dT (af S))∧H' w0=some (.dT (af (ay [] ((qs.take i).flatMap (aQ or)))))) ⟨_,_,_,_,_,_,rfl,gg,ed,e_w⟩ ?_ ?_ ?_
 ·rintro i σ H' _ ⟨_,_,_,_,_,_,_,g,_⟩;exact SqT.of (g _ _ Az)
 ·clear gg ed e_w;rintro i x σ H' N B1 R hN hR hx ⟨o8,o9,o10,o11,o12,o13,rfl,gg,ed,e_w⟩;obtain⟨a,⟨⟨h,j⟩,m⟩,rfl,hp,b,AB,Aw⟩:=Ve pr hx;have il:i<qs.length:=(xI.mp hp).1;have h0:0≤h:=p0 _ (xT hp);have h1:h≤or:=(ok.kok.st (h,j) (xB.mpr ⟨_,xT hp,rfl⟩)).2.1;have tk:(qs.take (i+1)).flatMap (aQ or)=(qs.take i).flatMap (aQ or)++aQ or ((h,j),m):=by rw[Zv hp,List.flatMap_append,List.flatMap_cons,List.flatMap_nil,yB]
  have rl2:=g_ (qs:=qs.take i) d1 fun p hp=>p0 p (zS hp);rw[xW]at rl2;rw[tk]at hN;generalize (qs.take i).flatMap (aQ or)=B at e_w hN rl2;have AB:=gg _ _ AB;have Aw:KAt H' b (h,j):=gg _ _ Aw;refine⟨a,_,rfl,SqT.of AB,rfl,_,_,rfl,b,_,rfl,SqT.of Aw,rfl,_,_,rfl,_,_,rfl,rfl,_,_,rfl,rfl,?_⟩;refine⟨_,rfl,_,rfl,_,_,rfl,rfl,h,or+1,rfl,⟨by omega,by omega,by omega,by omega⟩,?_⟩;refine U2 (lo:=h) (n:=(or+1-h).toNat) (fun t σ H'=>∃(o11 o12:Option V),σ=[some (.ref r),some (.ref q),some (.int Ar),some (.int or),some (.ref c),some (.int (ag qs)),some (.ref d),some (.ref w0),some (.int h),some (.int j),some (.int m),o11,o12,o13]∧Same H H'∧H' d=some (.dT (af S))∧H' w0=some (.dT (af (ay [] (B++(aQ or ((h,j),m)).take t))))) ⟨_,_,rfl,gg,ed,by rw[List.take_zero,yB];exact e_w⟩ ?_ ?_
  ·clear gg ed e_w AB Aw;rintro t σ H' N B1 R hN hR ht ⟨o11,o12,rfl,gg,ed,e_w⟩;have row:(aQ or ((h,j),m))[t]?=some ((h+(t:Int),j / 2^t),m):=by
    unfold aQ;rw[xZ,List.getElem?_range ht];rfl
   have st:ay [] (B++(aQ or ((h,j),m)).take (t+1))=ao (ay [] (B++(aQ or ((h,j),m)).take t)) (h+(t:Int),j / 2^t) (cnt (ay [] (B++(aQ or ((h,j),m)).take t)) (h+(t:Int),j / 2^t)+m):=by
    rw[Zv row,←yL,Sq]
   have zl:=Wi (B++(aQ or ((h,j),m)).take t) [];rw[xE,xW,yQ]at zl;rw[st]at hN;generalize ay [] (B++(aQ or ((h,j),m)).take t)=zs at e_w hN zl;refine⟨_,rfl,_,rfl,_,rfl,_,rfl,_,_,rfl,rfl,_,_,rfl,rfl,by show 0≤h+(t:Int)-h;omega,leN rfl,fun u n_u=>?_⟩;have tt:(h+(t:Int)-h).toNat=t:=by omega
   have s5:=Z6 n_u (.tup [.int (h+(t:Int)),.int (j / 2^(h+(t:Int)-h).toNat)]);have e_u:KAt (upd H' u (.tup [.int (h+(t:Int)),.int (j / 2^(h+(t:Int)-h).toNat)])) u (h+(t:Int),j / 2^t):=by
    show upd H' u _ u=some (.tup [.int (h+(t:Int)),.int (j / 2^t)]);rw[Z2,tt]
   have gg:=gg.trans s5;have ed:=s5 _ _ ed;have e_w:=s5 _ _ e_w;generalize upd H' u (.tup [.int (h+(t:Int)),.int (j / 2^(h+(t:Int)-h).toNat)])=H4 at e_u gg ed e_w⊢;refine⟨_,rfl,w0,rfl,.inr ⟨_,.inl e_w⟩,_,rfl,_,Y7 e_w e_u,_,rfl,_,m,Yr _ _,rfl,_,rfl,_,rfl,w0,_,rfl,DPut.t (k:=kk (h+(t:Int),j / 2^t)) e_w e_u (Zj (by rw[Zk];omega)),?_⟩;refine hN _ _ ⟨_,_,rfl,fun x w e=>?_,by rw[Za dw];exact ed,by rw[←Wt];exact Z2⟩;rw[Za (Zd e rX)];exact gg _ _ e
  ·rintro σ H' ⟨o11,o12,rfl,gg,ed,e_w⟩;rw[List.take_of_length_le (by unfold aQ;rw[az,List.length_range];exact xA _)]at e_w;exact hN _ _ ⟨_,_,_,_,_,_,rfl,gg,ed,e_w⟩
 clear gg ed e_w;rintro σ H4 ⟨o8,o9,o10,o11,o12,o13,rfl,gg,ed,e_w⟩;rw[az,al,xX]at e_w;have e_w:H4 w0=some (.dT (af (dM or qs))):=e_w;have wl:(dM or qs).length≤660:=by unfold dM;rw[yQ]at wl;omega
 have nW:((dM or qs).map (·.1)).Nodup:=Um yb;have wh:∀e∈dM or qs,0≤e.1.1:=fun e he=>(nH p0 he).1;generalize dM or qs=W at e_w wl nW wh fi;refine⟨_,(Z3 (jF (X7 yc rfl (S6 (pv 7)) (Y6 rfl (Z8 (Z9 (i:=8) Y5.nd rfl (Or.inr rfl)) (Z8 (Z9 (i:=9) Y5.nd rfl (Or.inr rfl)) Zo)))
 (Z3 (jF (N8 (i:=13) Y5.nd rfl rfl (own:=["_law_leaf"]) (Sl rfl rfl) (S6 (pv 6))
  (fun _ _ _ _ _=>(Z9 (i:=0) R7 rfl (Or.inl rfl) (Or.inr rfl))) (fun _ _ _ _ _=>(S4 (Zi S8 (Ze oO (Xa (fQ K rfl) (pv 0) Z5) (pv 9)) (pv 10) (Zh _))))
  (fun _ _ _ _ _=>(Wf (Yg hr) (pv 7) (pv 0) (fun _ _=>rfl)))))
 (Z7 (Y8 (Zi Re (Y1 (gR rfl) rfl ei PyProof.Rows.boot_sum (Z0 (pv 13) Z1)) (Wf (Yg hr) (pv 7) (Zn (Z0 (pv 8) (Z0 (pv 9) Z1))) (fun _ _=>rfl)) (Zh _)) (Z7 (Zc Xl)) Zr))))) Zb),?_⟩
 refine⟨w0,_,e_w,fun o=>⟨_,rfl,w0,o,_,rfl,Z2,?_⟩⟩;have sH:Same H (upd H4 w0 (.frz o (.dT (af W)))):=fun x u e=>by
  rw[Za (Zd e rX)];exact gg _ _ e
 refine mF (fun i σ H'=>∃(o8 o9 o13:Option V),σ=[some (.ref r),some (.ref q),some (.int Ar),some (.int or),some (.ref c),some (.int (ag qs)),some (.ref d),some (.ref w0),o8,o9,o10,o11,o12,o13]∧Same H H'∧H' d=some (.dT (af S))∧H' w0=some (.frz o (.dT (af W)))∧∀e∈W.take i,e.2≤wS (gin e.1) S) ⟨_,_,_,rfl,sH,by rw[Za dw];exact ed,Z2,fun _ h=>absurd h ya⟩ ?_ ?_ ?_
 ·rintro i σ H' ⟨_,_,_,_,_,_,e,_⟩;exact e
 ·clear gg ed e_w sH;rintro i p1 b σ H5 N B1 R hN hR hp1 Aw ⟨o8,o9,o13,rfl,gg,ed,e_w,al5⟩;obtain⟨⟨⟨h,j⟩,m⟩,hp,rfl⟩:=Q9 hp1;have me:=xT hp;have h0:0≤h:=wh _ me;have Aw:KAt H5 b (h,j):=Aw;refine⟨b,_,rfl,SqT.of Aw,rfl,_,_,rfl,_,_,rfl,rfl,?_⟩;refine⟨d,_,ed,fun o2=>⟨_,rfl,d,o2,_,rfl,Z2,?_⟩⟩;refine Tp (fun t ys H'=>Same (upd H5 d (.frz o2 (.dT (af S)))) H'∧ys=(((S.take t).filter fun e=>decide (e.1.2 / 2^h.toNat=j)).map (·.2)).map V.int) ⟨Same.refl _,rfl⟩ ?_ ?_ ?_ ?_
  ·rintro t ys H' ⟨g,_⟩;exact g _ _ Z2
  ·rintro t p2 b2 ys H6 C hp2 e_ ⟨g6,rfl⟩ hC;obtain⟨e,he,rfl⟩:=Q9 hp2;have e_:KAt H6 b2 e.1:=e_;have lk:ax S e.1=some (.int e.2):=Wg nS (xT he);refine⟨Zj ?_,Wk.refl _,_,rfl,b2,_,1,_,rfl,rfl,SqT.of e_,rfl,_,rfl,_,_,rfl,rfl,h0,_,rfl,rfl,_,rfl,Xf (fun c2=>?_) (fun c2=>?_)⟩
   ·have:=yu (fun e:(Int×Int)×Int=>decide (e.1.2 / 2^h.toNat=j)) (S.take t);rw[xW]at this;rw[az,az];omega
   ·have c2:e.1.2 / 2^h.toNat=j:=by simpa using c2
    refine⟨_,rfl,_,rfl,d,.int e.2,rfl,by rw[←lk];exact lh (g6 _ _ Z2) e_,hC _ _ ⟨g6,?_⟩⟩;rw[W0 he,xC (xJ c2),xN,xN];rfl
   ·have c2:¬e.1.2 / 2^h.toNat=j:=by simpa using c2
    refine hC _ _ ⟨g6,?_⟩;rw[W0 he,if_neg (by simpa using c2),List.append_nil]
  ·rintro t ys H' ⟨_,rfl⟩;have:=yu (fun e:(Int×Int)×Int=>decide (e.1.2 / 2^h.toNat=j)) (S.take t);rw[xW]at this;exact Zj (by rw[az,az];omega)
  rintro ys H6 ⟨g6,rfl⟩;rw[Zk,xX];have fl:=yu (fun e:(Int×Int)×Int=>decide (e.1.2 / 2^h.toNat=j)) S;have sg:=sgin (h,j) h0;have sg:((S.filter fun e=>decide (e.1.2 / 2^h.toNat=j)).map (·.2)).sum=wS (gin (h,j)) S:=sg;generalize (S.filter fun e=>decide (e.1.2 / 2^h.toNat=j))=fs at fl sg⊢;refine⟨Zl (by rw[az,az];omega),fun l n_l=>?_⟩;have ld:l≠d:=fun z=>by rw[z,g6 _ _ Z2]at n_l;cases n_l
  have g7:=g6.trans (Z6 n_l (.lst ((fs.map (·.2)).map V.int)));have sz:=Vh ed g7;have gg:=gg.trans sz;have e_w:=sz _ _ e_w;have ed:=sz _ _ ed;have AA:(upd (upd H6 l (.lst ((fs.map (·.2)).map V.int))) d (.dT (af S))) l=some (.lst ((fs.map (·.2)).map V.int)):=by rw[Za ld];exact Z2
  refine⟨g7 _ _ Z2,?_⟩;clear sz g7 n_l g6;generalize upd (upd H6 l (.lst ((fs.map (·.2)).map V.int))) d (.dT (af S))=H7 at gg e_w ed AA⊢;have lk:ax W (h,j)=some (.int m):=Wg nW me;refine⟨_,rfl,l,fs.map (·.2),rfl,SqL.of AA,_,rfl,_,rfl,_,rfl,leN rfl,fun u n_u=>?_⟩;have s8:=Z6 n_u (.tup [.int h,.int j]);have e_u:KAt (upd H7 u (.tup [.int h,.int j])) u (h,j):=Z2;have gg:=gg.trans s8;have e_w:=s8 _ _ e_w;have ed:=s8 _ _ ed;generalize upd H7 u (.tup [.int h,.int j])=H8 at gg e_w ed e_u⊢;refine⟨w0,.int m,rfl,by rw[←lk];exact lh e_w e_u,_,_,rfl,rfl,_,rfl,Xf (fun c2=>?_) (fun c2=>?_)⟩
  ·have c2:(fs.map (·.2)).sum<m:=xH c2;refine hR _ _ ⟨e_w,hq false _ (fun x u e=>by rw[Za (Zd e rX)];exact gg _ _ e) ⟨(fun z=>nomatch z),fun z=>?_⟩⟩;have:=(fi.mpr z).2.1 _ me;have:m≤wS (gin (h,j)) S:=this;omega
  ·have c2:¬(fs.map (·.2)).sum<m:=yF (yy.mpr c2);refine hN _ _ ⟨_,_,_,rfl,gg,ed,e_w,fun e he=>?_⟩;rw[Zv hp]at he
   rcases xR.mp he with he | he
   ·exact al5 e he
   ·rw[xF.mp he];show m≤wS (gin (h,j)) S;omega
 clear gg ed e_w sH;rintro σ H5 ⟨o8,o9,o13,rfl,gg,ed,e_w,al5⟩;rw[Zk,xX]at al5;refine⟨e_w,?_⟩;have gg:Same H (upd H5 w0 (.dT (af W))):=fun x u e=>by
  rw[Za (Zd e rX)];exact gg _ _ e
 have ed:(upd H5 w0 (.dT (af W))) d=some (.dT (af S)):=by rw[Za dw];exact ed
 clear e_w;generalize upd H5 w0 (.dT (af W))=H6 at gg ed⊢;refine⟨_,(Z7 (Zc (Xx (vp hr.units) (jN (Xw (own:=["_law_leaf"]) (Sl rfl rfl) (S6 (pv 6))
  (fun _ _ _ _ _=>(Z9 (i:=0) R6 rfl (Or.inl rfl) (Or.inr rfl))) (fun _ _ _ _ _=>(S4 (Zi hO (Xa (fQ K rfl) (pv 0) Z5) (Ze Tf Z5 (pv 4)) (Zh _))))
  (fun _ _ _ _ _=>(pv 0)))) (Yk Z1) (Zh _)))),?_⟩
 refine⟨d,_,ed,fun o2=>⟨_,rfl,d,o2,_,rfl,Z2,?_⟩⟩;refine Tp (fun t ys H'=>Same (upd H6 d (.frz o2 (.dT (af S)))) H'∧ys.length≤t∧DVs H' ys (((S.take t).filter fun e=>decide (2^or.toNat≤e.1.2)).map fw)) ⟨Same.refl _,xA _,.nil⟩ ?_ ?_ ?_ ?_
 ·rintro t ys H' ⟨g,_⟩;exact g _ _ Z2
 ·rintro t p2 b2 ys H7 C hp2 e_ ⟨g7,yl,dv⟩ hC;obtain⟨e,he,rfl⟩:=Q9 hp2;have tl2:=(xI.mp he).1;have e_:KAt H7 b2 e.1:=e_;have e1:(1:Int)*2^or.toNat=2^or.toNat:=yE _;refine⟨Zj (by omega),Wk.refl _,_,rfl,b2,_,1,_,rfl,rfl,SqT.of e_,rfl,_,rfl,_,_,rfl,rfl,⟨by omega,by omega,by decide⟩,_,_,rfl,rfl,_,rfl,Xf (fun c2=>?_) (fun c2=>?_)⟩
  ·have c2:(1:Int)*2^or.toNat≤e.1.2:=xH c2;refine⟨_,rfl,hC _ _ ⟨g7,by rw[xE];show ys.length+1≤_;omega,?_⟩⟩;rw[W0 he,xC (xJ (by omega)),xN];exact dv.append (.cons (.tup e_ (.cons (.int _) (.cons (.int _) .nil))) .nil)
  ·have c2:¬(1:Int)*2^or.toNat≤e.1.2:=yF (yy.mpr c2);refine hC _ _ ⟨g7,by omega,?_⟩;rw[W0 he,if_neg (by simpa using (by omega:e.1.2<2^or.toNat)),List.append_nil];exact dv
 ·rintro t ys H' ⟨g,yl,dv⟩;have dl:=dv.length;have:=yu (fun e:(Int×Int)×Int=>decide (2^or.toNat≤e.1.2)) (S.take t);rw[az]at dl;rw[xW]at this;exact Zj (by omega)
 rintro ys H7 ⟨g7,yl,dv⟩;rw[Zk,xX]at dv;rw[Zk]at yl;refine⟨Zl (by omega),fun l n_l=>?_⟩;have ld:l≠d:=fun z=>by rw[z,g7 _ _ Z2]at n_l;cases n_l
 have s8:=Z6 n_l (.lst ys);have g8:=g7.trans s8;have sz:=Vh ed g8;have gg:=gg.trans sz;have fz:=g8 _ _ Z2;have dv:=dv.mono s8;have AA:(upd (upd H7 l (.lst ys)) d (.dT (af S))) l=some (.lst ys):=by rw[Za ld];exact Z2
 refine⟨g8 _ _ Z2,leN rfl,fun z n_z=>?_⟩;have s9:=Z6 n_z (.lst []);have lay:=iw (S.filter fun e=>decide (2^or.toNat≤e.1.2));have nil_lay:=iw [];have dk:DVs (upd (upd H7 l (.lst ys)) d (.dT (af S))) ys ((S.filter fun e=>decide (2^or.toNat≤e.1.2)).map fw):=gi fz dv;refine⟨_,_,.lst (s9 _ _ AA) (dk.mono s9),.lst Z2 .nil,X5 lay (by decide),X5 nil_lay (by decide),?_⟩;rw[kf];refine hq _ _ (gg.trans s9) ?_;rw[show((S.filter fun e=>decide (2^or.toNat≤e.1.2)).map fw).isEmpty=(S.filter fun e=>decide (2^or.toNat≤e.1.2)).isEmpty by cases (S.filter fun e=>decide (2^or.toNat≤e.1.2)) <;> rfl,iK,←fi];refine⟨fun y=>⟨c1,al5,fun e he=>?_⟩,fun y e he=>?_⟩
 ·have:=yF (y e he);omega
 ·have:=y.2.2 e he;exact yh (by omega)
theorem n4{t:Th}(h:PyData.strOk t.word=true):t.D.canLay0=true∧t.D.depth≤1:=by
 unfold Th.D;simp[PyData.canLay0,PyData.canLayAll0,PyData.depth,PyData.depthAll,h]
def Tho(t:Th):Prop:=0≤t.num∧1≤t.many∧PyData.strOk t.word=true
theorem Ov{ts:List Th}(h:∀t∈ts,Tho t):(aR ts).canLay0=true∧(aR ts).depth≤2:=ic ts fun t ht=>n4 (h t ht).2.2
theorem sF{K:W.Frag}:W.kitOne K (.type "bool") (.type "bool")=some true:=j_ (by decide +kernel)
def tD:Sp:=fun vs H Q _=>∃(r q:Addr)(ts:List Th)(Ar or:Int)(qs:Sps),vs=[.ref r,.ref q]∧DV H (.ref r) (aR ts)∧ts.length≤60∧LadAt H q Ar or (ag qs) qs∧Pok or qs∧qs.length≤60∧0≤or∧or≤10∧(∀t∈ts,Tho t)∧∀H',Same H H'→Q (.bl true) H'
theorem uw(am:mg "isinstance"=none)(cS:mg "bool"=none)(a9:mg "list"=none)(oS:Has P w K mg base "_law_fits" 2 ["_law_stream_here","_law_ladder"] sV)(a5:Has P w K mg base "paper_for" 6 ["stream","ladder"] rf)(n9:Has P w K mg base "fits" 7 ["stream","ladder"] oT)(eY:Has P w K mg base "_law_shows" 2 ["_law_stream_here","_law_ladder","_law_paper"] sG)(bg:Has P w K mg base "is_folded" 5 ["stream","ladder","paper"] cZ)(F:Fun K "_law_right" "_law_right" dB f fd):FnOk P w K mg base CX0 8 f fd ["_law_stream_here","_law_ladder"] tD:=by
 refine F.ok Xi (fun vs H Q E h=>?_) (fun cdv A outer s H vs Q E hr h=>?_)
 ·obtain⟨r,q,ts,Ar,or,qs,rfl,_⟩:=h;rfl
 obtain⟨r,q,ts,Ar,or,qs,rfl,k_r,tl,lad,ok,ql,d0,d1,tho,hq⟩:=h;have th:∀t∈ts,0≤t.num∧1≤t.many:=fun t ht=>⟨(tho t ht).1,(tho t ht).2.1⟩;have lay:=Ov tho;have towk:=p6 d0 ok th;have sl:=Vq ts;have fl:=Pa qs (av ts) or.toNat;have fb:or.toNat*(av ts).length≤10*60:=Nat.mul_le_mul (by omega) (by omega);obtain⟨_,xs,e0,e_r,dx⟩:=DV.list_inv k_r;cases e0;refine⟨_,(Z3 (Zy 2 Xi.nd rfl (Or.inl rfl) (Z4 oS hr (Z0 (pv 0) (Z0 (pv 1) Z1)))) Zb),?_⟩;refine⟨_,rfl,_,rfl,r,q,ts,Ar,or,qs,rfl,k_r,by omega,lad,ok,ql,d0,d1,th,fun due H1 gg hb=>?_⟩;refine⟨_,(Z3 (Zy 3 Xi.nd rfl (Or.inl rfl) (Y9 U5 rfl a9 ze (Z0 (pv 0) Z1))) Zb),?_⟩;refine⟨_,rfl,r,xs,rfl,.inl (SqL.of (gg _ _ e_r)),?_⟩;intro h n_h;generalize hz:upd _ h _=H2;revert H2;refine blk ?_;intro H2 hz;have gz:=Zp hz n_h;have e_h:=Y2 hz;clear hz;have gg:=gg.trans gz;have k_h:DV H2 (.ref h) (aR ts):=.lst e_h (dx.mono gg);have k_r:=k_r.mono gg;have lad:=lad.mono gg;clear e_h gz n_h;refine⟨_,(Z3 (Zy 4 Xi.nd rfl (Or.inl rfl) (Z4 a5 hr (Z0 (pv 3) (Z0 (pv 1) Z1)))) Zb),?_⟩;refine⟨_,rfl,_,rfl,h,q,ts,Ar,or,qs,rfl,k_h,by omega,lad,ok,by omega,d0,by omega,th,fun no H3 g3=>?_,fun yes p H3 n_p g3 pp=>?_⟩
 ·have gg:=gg.trans g3;have k_h:=k_h.mono g3;have k_r:=k_r.mono g3;have lad:=lad.mono g3;have db:due=false:=yy.mpr fun z=>no (hb.mp z);refine⟨_,(Z3 (Zy 5 Xi.nd rfl (Or.inl rfl) (Z4 n9 hr (Z0 (pv 0) (Z0 (pv 1) Z1)))) Zb),?_⟩;refine⟨_,rfl,_,rfl,r,q,ts,Ar,or,qs,rfl,k_r,by omega,lad,ok,by omega,d0,by omega,th,fun b H4 g4 hb2=>?_⟩;have bb:b=false:=yy.mpr fun z=>no (hb2.mp z);subst db bb;refine⟨_,(Z3 (Y8 (PW.pt (Wz (V9 (Wb (Y1 V4 rfl am yw (Z0 (pv 5) (Z0 (V1 (v:=.ty "bool") rfl cS PyProof.Rows.boot_bool rfl) Z1))))) (Wz (Zi Qo (pv 5) (pv 2) (Zh _)) (V8 (Zi (Nb hr.units) (pv 3) (pv 0) (Zh _)))))) (Z7 (Zc Xl)) Zr) Zb),?_⟩;refine⟨_,rfl,_,_,"bool",_,rfl,TyOf.bl _,sF,_,rfl,Xe ?_⟩;refine⟨_,rfl,_,rfl,rfl,_,rfl,Xe ?_⟩;refine⟨_,rfl,_,rfl,_,_,k_h.mono g4,k_r.mono g4,X5 lay (by decide),X5 lay (by decide),?_⟩;rw[Pd lay];refine⟨_,rfl,Xe ?_⟩;refine⟨_,(Z3 (Y8 (Zi Qo (Xx S7 (pv 4) Xz (Zh _)) (pv 2) (Zh _)) (Z7 (Zc Xl)) Zr) Zb),?_⟩;refine⟨_,rfl,rfl,_,rfl,rfl,_,rfl,Xe ?_⟩;refine⟨_,(Z3 (Y8 (Zi Qq (pv 4) Xz (Zh _)) (Z7 (Zc Xl)) Zr) Zb),?_⟩;refine⟨_,rfl,rfl,_,rfl,U1 ?_⟩;exact hq _ (gg.trans g4)
 ·have n_pH:H p=none:=gg.free n_p;have K_h:=k_h;have K_r:=k_r;have L2:=lad;have s2:Same H2 H3:=g3;have g2:Same H H2:=gg;have gg:=gg.trans g3;have k_h:=k_h.mono g3;have k_r:=k_r.mono g3;have lad:=lad.mono g3;have fB:=towk.mpr yes;have ck:eJ or qs (av ts) (cQ qs (av ts) or.toNat)=true:=by
   rw[Q0 th ok.kok.nd]at fB;unfold jD at fB;rw[ye,ye]at fB;exact fB.2.2
  have db:due=true:=hb.mpr yes;subst db;refine⟨_,(Z3 (Zy 5 Xi.nd rfl (Or.inl rfl) (Z4 n9 hr (Z0 (pv 0) (Z0 (pv 1) Z1)))) Zb),?_⟩;refine⟨_,rfl,_,rfl,r,q,ts,Ar,or,qs,rfl,k_r,by omega,lad,ok,by omega,d0,by omega,th,fun b H4 g4 hb2=>?_⟩;have bb:b=true:=hb2.mpr yes;subst bb;have gg:=gg.trans g4;have s2:=s2.trans g4;have k_h:=k_h.mono g4;have k_r:=k_r.mono g4;have lad:=lad.mono g4;have pp:=pp.mono g4;clear g3 g4;refine⟨_,(Z3 (Y8 (PW.pt (Wz (V9 (Wb (Y1 V4 rfl am yw (Z0 (pv 5) (Z0 (V1 (v:=.ty "bool") rfl cS PyProof.Rows.boot_bool rfl) Z1))))) (Wz (Zi Qo (pv 5) (pv 2) (Zh _)) (V8 (Zi (Nb hr.units) (pv 3) (pv 0) (Zh _)))))) (Z7 (Zc Xl)) Zr) Zb),?_⟩;refine⟨_,rfl,_,_,"bool",_,rfl,TyOf.bl _,sF,_,rfl,Xe ?_⟩;refine⟨_,rfl,_,rfl,rfl,_,rfl,Xe ?_⟩;refine⟨_,rfl,_,rfl,_,_,k_h,k_r,X5 lay (by decide),X5 lay (by decide),?_⟩;rw[Pd lay];refine⟨_,rfl,Xe ?_⟩;refine⟨_,(Z3 (Y8 (Zi Qo (Xx S7 (pv 4) Xz (Zh _)) (pv 2) (Zh _)) (Z7 (Zc Xl)) Zr) Zb),?_⟩;refine⟨_,rfl,rfl,_,rfl,rfl,_,rfl,Xe ?_⟩;refine⟨_,(Z3 (Y8 (Zi Qq (pv 4) Xz (Zh _)) (Z7 (Zc Xl)) Zr) Zb),?_⟩;refine⟨_,rfl,rfl,_,rfl,Xe ?_⟩;refine⟨_,(Z3 (Y8 (PW.pt (Wz (V9 (Wb (Y1 V4 rfl am yw (Z0 (pv 4) (Z0 (V1 (v:=.ty "list") rfl a9 ze rfl) Z1))))) (V8 (V9 (Wb (Z4 eY hr (Z0 (pv 0) (Z0 (pv 1) (Z0 (pv 4) Z1))))))))) (Z7 (Zc Xl)) Zr) Zb),?_⟩;obtain⟨as,Ax,pr⟩:=pp;have al:=xL pr;refine⟨_,rfl,_,_,"list",_,rfl,TyOf.lst Ax,iR,_,rfl,Xe ?_⟩;refine⟨_,rfl,_,rfl,_,rfl,r,q,p,ts,Ar,or,_,qs,_,rfl,k_r,by omega,lad,ok.kok.nd,by omega,⟨as,Ax,pr⟩,by omega,ck,fun H5 g5=>⟨_,rfl,Xe ?_⟩⟩;have gg:=gg.trans g5;have s2:=s2.trans g5;have k_h:=k_h.mono g5;have k_r:=k_r.mono g5;have lad:=lad.mono g5;have Ax:=g5 _ _ Ax;have pr:=Paired.mapP pr fun _ _ f=>Zs g5 f;refine⟨_,(Z3 (Y8 (Zi qc (Z4 bg hr (Z0 (pv 0) (Z0 (pv 1) (Z0 (pv 4) Z1)))) Xl (Zh _)) (Z7 (Zc Xl)) Zr) Zb),?_⟩;refine⟨_,rfl,_,rfl,_,rfl,r,q,p,ts,Ar,or,_,qs,_,rfl,k_r,by omega,lad,ok.kok.nd,by omega,d0,by omega,⟨as,Ax,pr⟩,by omega,fun H6 g6=>?_⟩;rw[fB];refine⟨true,rfl,rfl,_,rfl,Xe ?_⟩;have gg:=gg.trans g6;have s2:=s2.trans g6;have Ax:=g6 _ _ Ax;clear g5 g6 pr k_h k_r lad;refine⟨_,(Z3 (Xh (Uf yg zz zA Vn (pv 4) (Z0 (Zn (Z0 (Zn (Z0 Z5 (Z0 Z5 Z1))) (Z0 Z5 Z1))) Z1))) Zb),?_⟩;refine⟨_,rfl,.inl ⟨rfl,_,SqL.of Ax⟩,leN rfl,?_⟩;intro u1 n_u1;generalize hz:upd _ u1 _=H7;revert H7;refine blk ?_;intro H7 hz;have gz:=Zp hz n_u1;have e_u1:=Y2 hz;clear hz;have gg:=gg.trans gz;have Ax:=gz _ _ Ax;have s2:=s2.trans gz;refine⟨leN rfl,?_⟩;intro u2 n_u2;generalize hz:upd _ u2 _=H8;revert H8;refine blk ?_;intro H8 hz;have gz:=Zp hz n_u2;have e_u2:=Y2 hz;clear hz;have gg:=gg.trans gz;have Ax:=gz _ _ Ax;have s2:=s2.trans gz;refine⟨p,_,_,rfl,rfl,Ax,Zj (by rw[az];omega),?_⟩;have s9:=X8 (o:=.lst (as.map V.ref++[.ref u2])) s2 n_p;generalize upd H8 p (.lst (as.map V.ref++[.ref u2]))=H9 at s9⊢;refine⟨_,(Z3 (Zy 6 Xi.nd rfl (Or.inl rfl) (Z4 a5 hr (Z0 (pv 3) (Z0 (pv 1) Z1)))) Zb),?_⟩;refine⟨_,rfl,_,rfl,h,q,ts,Ar,or,qs,rfl,K_h.mono s9,by omega,L2.mono s9,ok,by omega,d0,by omega,th,fun no _ _=>absurd yes no,fun _ p2 G3 n_p2 g3 pp=>?_⟩;have s9:=s9.trans g3;obtain⟨as,Ax,pr⟩:=pp;have al:=xL pr;refine⟨_,(Z7 (Zc (R3 (Y1 V4 rfl am yw (Z0 (pv 6) (Z0 (V1 (v:=.ty "list") rfl a9 ze rfl) Z1))) (R1 (Z4 eY hr (Z0 (pv 0) (Z0 (pv 1) (Z0 (pv 6) Z1)))))))),?_⟩;refine⟨_,rfl,_,_,"list",_,rfl,TyOf.lst Ax,iR,_,rfl,U1 ?_⟩;exact⟨_,rfl,_,rfl,_,rfl,r,q,p2,ts,Ar,or,_,qs,_,rfl,K_r.mono s9,by omega,L2.mono s9,ok.kok.nd,by omega,⟨as,Ax,pr⟩,by omega,ck,fun H5 g5=>hq _ (g2.trans (s9.trans g5))⟩
def Thm(t:Th):Prop:=0≤t.num∧1≤t.many∧t.many≤1000000000∧PyData.strOk t.word=true
theorem TsAt.of{H:Hp}{ts:List Th}:∀{xs:List V},DVs H xs (ts.map Th.D)→TsAt H xs ts:=by
 induction ts with
 |nil=>
  intro xs h;have:=h.nil_inv;subst this;exact .nil
 |cons t ts ih=>
  intro xs h;obtain⟨x,r,rfl,_,h2⟩:=DVs.cons_inv h;obtain⟨t',c,ht,rfl,e,_⟩:=DVs.th_at (i:=0) h rfl;cases ht;exact .cons ⟨c,rfl,e⟩ (ih h2)
structure Ot(H0:Hp)(a L:Addr)(n:Nat)(H:Hp)(xs:List V)(us:List Th):Prop where
 pen:PenAt H a
 g:Grw a H0 H
 e:H L=some (.lst xs)
 ta:TsAt H xs us
 ok:∀t∈us,Thm t
 len:us.length≤n
section
variable{H0 H H':Hp}{a L p:Addr}{n:Nat}{xs:List V}{us:List Th}
theorem Ot.xl(h:Ot H0 a L n H xs us):xs.length=us.length:=xL h.ta
theorem Ot.grw(h:Ot H0 a L n H xs us)(la:L≠a)(hp:PenAt H' a)(g:Grw a H H'):Ot H0 a L n H' xs us:=⟨hp,h.g.trans g,Sh g la h.e,h.ta.tup fun c ys e=>(Zf (g _ _ (h.pen.tup e))).2,h.ok,h.len⟩
theorem Ot.lay(h:Ot H0 a L n H xs us)(la:L≠a){o:HO}(hz:upd H p o=H')(np:H p=none):Ot H0 a L n H' xs us∧H' p=some o∧p≠a:=by
 subst hz;exact⟨h.grw la (h.pen.laid np) (X4 np),Z2,h.pen.ne np⟩
theorem ph{α β:Type}{R:α→β→Prop}{xs:List α}{ys:List β}(h:Paired R xs ys):∀n,Paired R (xs.take n) (ys.take n):=by
 induction h with
 |nil=>intro n;rw[List.take_nil,List.take_nil];exact .nil
 |cons h _ ih=>
  intro n;cases n with
  |zero=>exact .nil
  |succ n=>exact .cons h (ih n)
theorem o0{α β:Type}{R:α→β→Prop}{xs:List α}{ys:List β}(h:Paired R xs ys):∀n,Paired R (xs.drop n) (ys.drop n):=by
 induction h with
 |nil=>intro n;rw[List.drop_nil,List.drop_nil];exact .nil
 |cons h r ih=>
  intro n;cases n with
  |zero=>exact .cons h r
  |succ n=>exact ih n
theorem Ot.put(h:Ot H0 a L n H xs us)(la:L≠a)(n0:au a H0 L=none){i:Nat}(il:i<us.length){ys:List V}{ws:List Th}(ty:TsAt H ys ws)(ow:∀t∈ws,Thm t)(wl:ws.length≤2):Ot H0 a L (n+1) (upd H L (.lst (xs.take i++ys++xs.drop (min (i+1) xs.length)))) (xs.take i++ys++xs.drop (min (i+1) xs.length)) (us.take i++ws++us.drop (i+1)):=by
 have xl:=h.xl;have hm:min (i+1) xs.length=i+1:=by omega
 have st:∀(c:Addr)(zs:List V),H c=some (.tup zs)→upd H L (.lst (xs.take i++ys++xs.drop (min (i+1) xs.length))) c=some (.tup zs):=fun c zs e=>by
  rw[Za (fun z=>by rw[z,h.e]at e;cases e)];exact e
 refine⟨h.pen.put la,qB h.g n0,Z2,?_,fun t ht=>?_,?_⟩
 ·refine TsAt.tup st ?_;rw[hm];exact W4 (W4 (ph h.ta i) ty) (o0 h.ta (i+1))
 ·rcases xR.mp ht with ht | ht
  ·rcases xR.mp ht with ht | ht
   ·exact h.ok t (zS ht)
   ·exact ow t ht
  ·exact h.ok t (List.mem_of_mem_drop ht)
 ·have:=h.len;rw[xE,xE,xW,List.length_drop];omega
theorem vq:∀{xs:List V}{ts:List Th}{j:Nat}{x:V},TsAt H xs ts→xs[j]?=some x→∃c t,x=.ref c∧ts[j]?=some t∧H c=some (.tup t.vs):=by
 intro xs ts j x h
 induction h generalizing j with
 |nil=>intro e;rw[List.getElem?_nil]at e;cases e
 |cons h r ih=>
  intro e;cases j with
  |zero=>
   rw[yJ]at e;cases e;obtain⟨c,e,q⟩:=h;exact⟨c,_,e,rfl,q⟩
  |succ j=>exact ih (by rw[List.getElem?_cons_succ]at e;exact e)
theorem Tu{ts:List Th}(h:∀t∈ts,Thm t):∀t∈ts,Tho t:=fun t ht=>⟨(h t ht).1,(h t ht).2.1,(h t ht).2.2.2⟩
end
def sB:Sp:=fun vs H Q _=>∃(a r:Addr)(or:Int)(ts:List Th),vs=[.ref a,.int or,.ref r]∧PenAt H a∧DV (au a H) (.ref r) (aR ts)∧ts.length≤40∧0≤or∧or≤10∧(∀t∈ts,Thm t)∧∀(L:Addr)(us:List Th)(H':Hp),(∀t∈us,Thm t)→us.length≤ts.length+3→DV (au a H') (.ref L) (aR us)→PenAt H' a→Grw a H H'→Q (.ref L) H'
theorem uO(a9:mg "list"=none)(aK:mg "range"=none)(bI:mg "len"=none)(c5:mg "int"=none)(aj:Has P w K mg base "_law_draw" 1 ["_law_pen_here","_law_size"] bV)(F:Fun K "_law_other" "_law_other" dG f fd):FnOk P w K mg base CX0 2 f fd ["_law_pen_here","_law_deep","_law_stream_here"] sB:=by
 refine F.ok Yb (fun vs H Q E h=>?_) (fun cdv A outer s H vs Q E hr h=>?_)
 ·obtain⟨a,r,or,ts,rfl,_⟩:=h;rfl
 obtain⟨a,r,or,ts,rfl,pen,k_r,tl,d0,d1,thm,hq⟩:=h;obtain⟨_,xs,e0,e_r,dx⟩:=DV.list_inv k_r;cases e0;have tw:=Ss (m:=or) d1;refine⟨_,(Z3 (Zy 3 Yb.nd rfl (Or.inl rfl) (Y9 U5 rfl a9 ze (Z0 (pv 2) Z1))) Zb),?_⟩;refine⟨_,rfl,r,xs,rfl,.inl (SqL.of (Yi _ _ e_r)),fun L n_L=>?_⟩;have la:=pen.ne n_L;have n0:au a H L=none:=by rw[Zg la];exact n_L
 have ot:Ot H a L (ts.length+0) (upd H L (.lst xs)) xs ts:=⟨pen.laid n_L,X4 n_L,Z2,(TsAt.of (dx.mono Yi)).tup fun c ys e=>Z6 n_L _ _ _ e,thm,xA _⟩;clear n_L pen k_r dx e_r;generalize upd H L (.lst xs)=H1 at ot⊢;refine⟨_,(Z3 (X7 yc rfl (Uq rfl aK (Z0 (Ze Zu Z5 (Z4 aj hr (Z0 (pv 0) (Z0 Z5 Z1)))) Z1)) (Z9 (i:=4) Yb.nd rfl (Or.inl rfl))
 (Z7 (Y8 (Zi (Nb hr.units) (pv 3) (Yk Z1) (Zh _)) (Z3 (Zy 5 Yb.nd rfl (Or.inl rfl) (Z4 aj hr (Z0 (pv 0) (Z0 (Y1 Xd rfl bI Ah (Z0 (pv 3) Z1)) Z1))))
 (Z3 (Ys (Xa Uv (pv 3) (pv 5)) (Y6 rfl (Z8 (Z9 (i:=6) Yb.nd rfl (Or.inl rfl)) (Z8 (Z9 (i:=7) Yb.nd rfl (Or.inl rfl)) (Z8 (Z9 (i:=8) Yb.nd rfl (Or.inl rfl)) (Z8 (Z9 (i:=9) Yb.nd rfl (Or.inl rfl)) Zo))))))
 (Z3 (Zy 10 Yb.nd rfl (Or.inl rfl) (Yk (Z0 (Ze Xj (Ze Zu (pv 8) Z5) (Ze Vc (Ze Xy (pv 8) Z5) Z5)) (Z0 (Ze Zu (Ze Vc (Ze Ur (pv 8) Z5) Z5) (Z4 aj hr (Z0 (pv 0) (Z0 Z5 Z1)))) (Z0 (Z4 aj hr (Z0 (pv 0) (Z0 (Ze Tf Z5 (pv 1)) Z1))) Z1)))))
 (Z3 (Zy 10 Yb.nd rfl (Or.inl rfl) (Xa Uv (pv 10) (Z4 aj hr (Z0 (pv 0) (Z0 Z5 Z1)))))
 (Z3 (Zy 11 Yb.nd rfl (Or.inl rfl) (Ze Zu Z5 (Z4 aj hr (Z0 (pv 0) (Z0 (pv 9) Z1)))))
 (Z3 (Zy 12 Yb.nd rfl (Or.inl rfl) (Ze uf (Yk (Z0 (Zn (Z0 (pv 6) (Z0 (pv 7) (Z0 (pv 8) (Z0 (Ze Xj (pv 9) (pv 11)) Z1))))) Z1)) (Y9 Oj rfl c5 PyProof.Rows.boot_int (Z0 (Xx Re (pv 11) (pv 9) (Zh _)) Z1))))
 (Z7 (Ys (Ze Nc (Yk (Z0 (Zn (Z0 (pv 6) (Z0 (pv 7) (Z0 (Ze Xy (pv 10) (Ze Tf Z5 (pv 1))) (Z0 (pv 11) Z1))))) Z1)) (pv 12)) (ur (pv 3) (Rt (pv 5)) (Rt (Ze Zu (pv 5) Z5))))))))))) Zr))) Zb),?_⟩
 refine⟨_,rfl,a,3,rfl,ot.pen,Xv rfl,ltI rfl,fun d1' H2 x0 x1 hp g=>⟨_,_,rfl,rfl,1+d1',rfl,by omega,by omega,?_⟩⟩;have ot:=ot.grw la hp g;clear hp g;have x1:d1'<3:=x1;refine U2 (lo:=0) (n:=(1+d1').toNat) (fun i σ H'=>∃(o4 o5 o6 o7 o8 o9 o10 o11 o12:Option V)(xs:List V)(us:List Th),σ=[some (.ref a),some (.int or),some (.ref r),some (.ref L),o4,o5,o6,o7,o8,o9,o10,o11,o12]∧Ot H a L (ts.length+i) H' xs us) ⟨_,_,_,_,_,_,_,_,_,_,_,rfl,ot⟩ ?_ ?_
 ·clear ot;rintro i σ H3 N B1 R hN hR hi ⟨o4,o5,o6,o7,o8,o9,o10,o11,o12,xs,us,rfl,ot⟩;have ul:=ot.len;have xl:=ot.xl;refine⟨_,rfl,leN rfl,fun e n_e=>?_⟩;generalize hz:upd _ e _=H4;revert H4;refine blk ?_;intro H4 hz;obtain⟨ot,e_e,_⟩:=ot.lay la hz n_e;clear hz n_e;refine⟨_,_,.lst ot.e ot.ta.dvs,.lst e_e .nil,X5 (Ov (Tu ot.ok)) (by decide),X5 (Ov (ts:=[]) (fun _ h=>nomatch h)) (by decide),?_⟩;rw[kf];clear e_e;by_cases u0:us=[]
  ·rw[u0];refine⟨_,rfl,Xe (hN _ _ ⟨_,_,_,_,_,_,_,_,_,xs,us,rfl,⟨ot.pen,ot.g,ot.e,ot.ta,ot.ok,by omega⟩⟩)⟩
  have up:0<us.length:=List.length_pos_iff.mpr u0;rw[show(us.map Th.D).isEmpty=false by cases us with | nil=>exact absurd rfl u0 | cons=>rfl];refine⟨_,rfl,U1 ?_⟩;refine⟨_,rfl,_,rfl,L,xs,rfl,.inl (SqL.of ot.e),a,_,rfl,ot.pen,by omega,by omega,fun at_ H5 y0 y1 hp g=>?_⟩;have ot:=ot.grw la hp g;clear hp g;obtain⟨j,rfl⟩:=Int.eq_ofNat_of_zero_le y0;have jl:j<xs.length:=by omega
  obtain⟨x,hx2⟩:∃x,xs[j]?=some x:=⟨_,yx jl⟩;have hx:=kH hx2;obtain⟨c,t,rfl,ht,Az⟩:=vq ot.ta hx2;have tm:=ot.ok t (xT ht);have il:=(xI.mp ht).1;obtain⟨t0,t1,t2,t3⟩:=tm;refine⟨_,rfl,_,rfl,L,_,_,_,rfl,rfl,SqL.of ot.e,hx,c,_,rfl,SqT.of Az,rfl,_,_,rfl,_,_,rfl,_,_,rfl,_,_,rfl,rfl,?_⟩;clear Az hx hx2;refine⟨_,rfl,_,_,rfl,rfl,_,rfl,_,_,rfl,rfl,Xv rfl,_,_,rfl,rfl,Or.inr ⟨by decide,by decide⟩,_,_,rfl,rfl,?_⟩;refine⟨_,rfl,_,_,rfl,rfl,⟨by decide,by decide⟩,_,_,rfl,rfl,Or.inr ⟨by decide,by decide⟩,_,rfl,a,4,rfl,ot.pen,Xv rfl,ltI rfl,fun d2 H6 _ _ hp g=>⟨_,_,rfl,rfl,?_⟩⟩;have ot:=ot.grw la hp g;clear hp g;refine⟨_,rfl,_,rfl,_,_,rfl,rfl,⟨by omega,by omega,by decide⟩,a,_,rfl,ot.pen,by rw[yE];omega,by rw[yE];omega,fun d3 H7 _ _ hp g=>⟨leN rfl,fun nl wg=>?_⟩⟩;have ot:=ot.grw la hp g;clear hp g;generalize hz:upd _ nl _=H8;revert H8;refine blk ?_;intro H8 hz;obtain⟨ot,qD,nla⟩:=ot.lay la hz wg;clear hz wg;refine⟨_,rfl,_,rfl,a,3,rfl,ot.pen,Xv rfl,ltI rfl,fun d4 H9 z0 z1 hp g=>?_⟩;have qD:=Sh g nla qD;have ot:=ot.grw la hp g;clear hp g;obtain⟨v,hv,hm⟩:=at3 (x:=.int (t.num+1-t.num % 2*2)) (y:=.int (t.num / 4*4+d2)) (z:=.int d3) z0 z1;obtain⟨near,rfl⟩:∃n:Int,v=.int n:=by
   rcases hm with rfl | rfl | rfl <;> exact⟨_,rfl⟩
  refine⟨nl,_,_,_,rfl,rfl,SqL.of qD,hv,?_⟩;clear hv hm qD;refine⟨_,rfl,_,rfl,a,t.many,rfl,ot.pen,by omega,by omega,fun d5 H10 p0 p1 hp g=>⟨_,_,rfl,rfl,?_⟩⟩;have ot:=ot.grw la hp g;clear hp g;refine⟨_,rfl,_,rfl,_,rfl,_,rfl,_,rfl,_,_,rfl,rfl,leN rfl,fun c1 v5=>?_⟩;generalize hz:upd _ c1 _=H11;revert H11;refine blk ?_;intro H11 hz;obtain⟨ot,cn,c1a⟩:=ot.lay la hz v5;clear hz v5;refine⟨leN rfl,fun l1 u5=>?_⟩;have cn:=Z6 u5 (.lst [.ref c1]) _ _ cn;generalize hz:upd _ l1 _=H12 at cn;obtain⟨ot,vW,l1a⟩:=ot.lay la hz u5;clear hz u5;refine⟨_,rfl,_,rfl,_,_,rfl,rfl,.inr ⟨_,rfl,?_⟩⟩;obtain⟨zs,ws,tsA,wl,ow,ez,k0,k1⟩:∃(zs:List V)(ws:List Th),(∀{G:Hp},G c1=some (.tup [.int t.day,.str t.word,.int t.num,.int (t.many-(1+d5))])→TsAt G zs ws)∧ws.length≤1∧(∀t∈ws,Thm t)∧(List.replicate (if decide (1+d5<t.many)=true then(1:Int)else 0).toNat [V.ref c1]).flatten=zs∧0≤(if decide (1+d5<t.many)=true then(1:Int)else 0)∧(if decide (1+d5<t.many)=true then(1:Int)else 0)≤1:=by
   by_cases q:1+d5<t.many
   ·rw[xJ q];exact⟨[.ref c1],[⟨t.day,t.word,t.num,t.many-(1+d5)⟩],fun e=>.cons ⟨c1,rfl,e⟩ .nil,xA _,fun x hx=>by rw[xF.mp hx];exact⟨t0,by show 1≤t.many-(1+d5);omega,by show t.many-(1+d5)≤_;omega,t3⟩,rfl,by decide,by decide⟩
   ·rw[yh q];exact⟨[],[],fun _=>.nil,by decide,(fun _ h=>nomatch h),rfl,by decide,by decide⟩
  have zl:∀{G:Hp},G c1=some (.tup [.int t.day,.str t.word,.int t.num,.int (t.many-(1+d5))])→zs.length≤1:=fun e=>by have:=xL (tsA e);omega
  generalize (if decide (1+d5<t.many)=true then(1:Int)else 0)=kk0 at ez k0 k1⊢;refine⟨l1,_,_,rfl,rfl,vW,by omega,by omega,Zl (by show 1*kk0.toNat≤_;omega),fun lf tI=>?_⟩;rw[ez];have cn:=Z6 tI (.lst zs) _ _ cn;generalize hz:upd _ lf _=H13 at cn;obtain⟨ot,ia,lfa⟩:=ot.lay la hz tI;clear hz tI vW;refine⟨_,rfl,_,rfl,_,rfl,_,rfl,_,_,rfl,rfl,⟨by omega,by omega,by decide⟩,_,_,rfl,rfl,by rw[yE];omega,_,rfl,leN rfl,fun c2 tM=>?_⟩;have gz:=Z6 tM (.tup [.int t.day,.str t.word,.int (near % (1*2^or.toNat)),.int (1+d5)]);have cn:=gz _ _ cn;have ia:=gz _ _ ia;clear gz;generalize hz:upd _ c2 _=H14 at cn ia;obtain⟨ot,iJ,c2a⟩:=ot.lay la hz tM;clear hz tM;refine⟨leN rfl,fun l2 t_=>?_⟩;have gz:=Z6 t_ (.lst [.ref c2]);have cn:=gz _ _ cn;have ia:=gz _ _ ia;have iJ:=gz _ _ iJ;clear gz;generalize hz:upd _ l2 _=H15 at cn ia iJ;obtain⟨ot,fI,l2a⟩:=ot.lay la hz t_;clear hz t_;have zl:=zl cn;refine⟨_,rfl,l2,lf,_,_,rfl,rfl,fI,ia,Zl (by show 1+zs.length≤_;omega),fun b n_b=>?_⟩;have bL:L≠b:=fun z=>by have:=ot.e;rw[z,n_b]at this;cases this
  have gz:=Z6 n_b (.lst ([.ref c2]++zs));have cn:=gz _ _ cn;have iJ:=gz _ _ iJ;clear gz fI ia;generalize hz:upd _ b _=H16 at cn iJ;obtain⟨ot,Aw,ba⟩:=ot.lay la hz n_b;clear hz n_b;refine⟨_,rfl,_,rfl,_,rfl,_,rfl,_,_,rfl,rfl,_,rfl,L,b,xs,_,j,j+1,rfl,rfl,rfl,rfl,ot.e,Aw,bL,by omega,by omega,Zl (by rw[xE,yR];omega),?_⟩;have nt:Thm ⟨t.day,t.word,near % (1*2^or.toNat),1+d5⟩:=⟨z9 _ (by rw[yE];omega),by show 1≤1+d5;omega,by show 1+d5≤_;omega,t3⟩;refine hN _ _ ⟨_,_,_,_,_,_,_,_,_,_,_,rfl,ot.put la n0 (by omega) (ws:=⟨t.day,t.word,near % (1*2^or.toNat),1+d5⟩::ws) (.cons ⟨c2,rfl,iJ⟩ (tsA cn)) (fun x hx=>?_) (by rw[yn];omega)⟩
  rcases xQ.mp hx with rfl | hx
  ·exact nt
  ·exact ow x hx
 ·rintro σ H3 ⟨o4,o5,o6,o7,o8,o9,o10,o11,o12,xs,us,rfl,ot⟩;have ul:=ot.len;refine⟨_,(Z7 (Zc (pv 3))),?_⟩;refine⟨_,rfl,hq L us H3 ot.ok (by omega) (.lst (by rw[Zg la];exact ot.e) ?_) ot.pen ot.g⟩;exact(ot.ta.tup fun c ys e=>ot.pen.tup e).dvs
abbrev qO(T:Addr)(H:Hp):Prop:=LamAt T (di cg) qGT H
abbrev mU(T:Addr)(H:Hp):Prop:=LamAt T (di ca) qPT H
section
variable{T T':Addr}{pos pos':PySem.Pos}{q q':Str}{H H':Hp}
theorem W7(h:LamAt T pos q H):(∀xs,H T≠some (.lst xs))∧(∀xs,H T≠some (.tup xs))∧H T≠none:=by
 refine⟨?_,?_,?_⟩
 ·rcases h.tab with e | ⟨_,e,_⟩ <;> (rw[e];exact fun _ z=>nomatch z)
 ·rcases h.tab with e | ⟨_,e,_⟩ <;> (rw[e];exact fun _ z=>nomatch z)
 ·rcases h.tab with e | ⟨_,e,_⟩ <;> (rw[e];exact fun z=>nomatch z)
theorem kF(l:LamAt T pos q H)(l':LamAt T' pos' q' H)(ne:T≠T')(k:∀x o,H x=some o→(∀xs,o≠.lst xs)→x≠T'→H' x=some o):LamAt T pos q H':=by
 rcases l.tab with e | ⟨c,e,ec⟩
 ·exact⟨.inl (k _ _ e (fun _ z=>nomatch z) ne)⟩
 ·refine⟨.inr ⟨c,k _ _ e (fun _ z=>nomatch z) ne,k _ _ ec (fun _ z=>nomatch z) fun z=>?_⟩⟩
  rcases l'.tab with f | ⟨_,f,_⟩ <;> (rw[z,f]at ec;exact nomatch ec)
theorem gh(l:LamAt T pos q H)(k:∀x o,H x=some o→(∀xs,o≠.lst xs)→H' x=some o):LamAt T pos q H':=by
 rcases l.tab with e | ⟨c,e,ec⟩
 ·exact⟨.inl (k _ _ e fun _ z=>nomatch z)⟩
 ·exact⟨.inr ⟨c,k _ _ e (fun _ z=>nomatch z),k _ _ ec (fun _ z=>nomatch z)⟩⟩
end
def w3(a T1 T2:Addr)(H:Hp):Hp:=au T2 (au T1 (au a H))
structure Wl(a T1 T2:Addr)(H:Hp):Prop where
 pen:PenAt H a
 l1:qO T1 H
 l2:mU T2 H
 ne:T1≠T2
section
variable{a T1 T2:Addr}{H H':Hp}
theorem Tt{b:Addr}{o:HO}(h:w3 a T1 T2 H b=some o):b≠T2∧b≠T1∧b≠a∧H b=some o:=by
 obtain⟨h1,h⟩:=Zf h;obtain⟨h2,h⟩:=Zf h;obtain⟨h3,h⟩:=Zf h;exact⟨h1,h2,h3,h⟩
theorem Zt:Same (w3 a T1 T2 H) H:=fun _ _ h=>(Tt h).2.2.2
theorem uF:Same (w3 a T1 T2 H) (au a H):=fun b o h=>by
 obtain⟨_,_,h3,h⟩:=Tt h;rw[Zg h3];exact h
theorem Pr{b:Addr}{o:HO}(h:H b=some o)(n1:b≠a)(n2:b≠T1)(n3:b≠T2):w3 a T1 T2 H b=some o:=by
 show au T2 (au T1 (au a H)) b=some o;rw[Zg n3,Zg n2,Zg n1];exact h
theorem jG(k:Same (w3 a T1 T2 H) H'):Same (w3 a T1 T2 H) (w3 a T1 T2 H'):=fun b o h=>by
 obtain⟨h1,h2,h3,_⟩:=Tt h;exact Pr (k b o h) h3 h2 h1
theorem Wl.same(h:Wl a T1 T2 H)(g:Same H H'):Wl a T1 T2 H'∧Same (w3 a T1 T2 H) (w3 a T1 T2 H'):=⟨⟨h.pen.same g,h.l1.mono g,h.l2.mono g,h.ne⟩,jG fun b o e=>g _ _ (Zt _ _ e)⟩
theorem Wl.grw(h:Wl a T1 T2 H)(hp:PenAt H' a)(g:Grw a H H'):Wl a T1 T2 H'∧Same (w3 a T1 T2 H) (w3 a T1 T2 H'):=by
 obtain⟨_,_,_,ea⟩:=h.pen;have k:∀x o,H x=some o→(∀xs,o≠.lst xs)→H' x=some o:=fun x o e n=>(Zf (g x o (by rw[Zg (fun z=>by rw[z,ea]at e;exact n _ (xV e).symm)];exact e))).2;refine⟨⟨hp,gh h.l1 k,gh h.l2 k,h.ne⟩,jG fun b o e=>?_⟩;exact(Zf (g b o (uF _ _ e))).2
theorem Wl.tt1(h:Wl a T1 T2 H)(g:Same (au T1 H) (au T1 H'))(l:qO T1 H'):Wl a T1 T2 H'∧Same (w3 a T1 T2 H) (w3 a T1 T2 H'):=by
 have k:∀x o,H x=some o→x≠T1→H' x=some o:=fun x o e n=>(Zf (g x o (by rw[Zg n];exact e))).2;obtain⟨p,q,r,ea⟩:=h.pen;refine⟨⟨⟨p,q,r,k _ _ ea fun z=>(W7 h.l1).1 _ (by rw[←z];exact ea)⟩,l,kF h.l2 h.l1 (Ne.symm h.ne) fun x o e _ n=>k x o e n,h.ne⟩,jG fun b o e=>?_⟩;obtain⟨_,h2,_,e⟩:=Tt e;exact k b o e h2
theorem Wl.tt2(h:Wl a T1 T2 H)(g:Same (au T2 H) (au T2 H'))(l:mU T2 H'):Wl a T1 T2 H'∧Same (w3 a T1 T2 H) (w3 a T1 T2 H'):=by
 have k:∀x o,H x=some o→x≠T2→H' x=some o:=fun x o e n=>(Zf (g x o (by rw[Zg n];exact e))).2;obtain⟨p,q,r,ea⟩:=h.pen;refine⟨⟨⟨p,q,r,k _ _ ea fun z=>(W7 h.l2).1 _ (by rw[←z];exact ea)⟩,kF h.l1 h.l2 h.ne fun x o e _ n=>k x o e n,l,h.ne⟩,jG fun b o e=>?_⟩;obtain⟨h1,_,_,e⟩:=Tt e;exact k b o e h1
theorem Wl.fresh(h:Wl a T1 T2 H){b:Addr}{H1:Hp}(n:H b=none)(s:Same H H1)(g:Grw b H1 H'):Wl a T1 T2 H'∧Same (w3 a T1 T2 H) (w3 a T1 T2 H'):=h.same fun x o e=>(Zf (g x o (by rw[Zg (fun z=>by rw[z,n]at e;exact nomatch e)];exact s _ _ e))).2
theorem Wl.ne3(h:Wl a T1 T2 H){b:Addr}(n:H b=none):b≠a∧b≠T1∧b≠T2:=by
 obtain⟨_,_,_,ea⟩:=h.pen;exact⟨fun z=>(by rw[z,ea]at n;exact nomatch n),fun z=>(W7 h.l1).2.2 (by rw[←z];exact n),fun z=>(W7 h.l2).2.2 (by rw[←z];exact n)⟩
theorem Wl.tup(h:Wl a T1 T2 H){b:Addr}{xs:List V}(e:H b=some (.tup xs)):w3 a T1 T2 H b=some (.tup xs):=by
 obtain⟨_,_,_,ea⟩:=h.pen;exact Pr e (U9 e ea (by intro z;cases z)) (fun z=>(W7 h.l1).2.1 xs (by rw[←z];exact e)) (fun z=>(W7 h.l2).2.1 xs (by rw[←z];exact e))
theorem Wl.lay(h:Wl a T1 T2 H){b:Addr}{o:HO}(e:upd H b o=H')(n:H b=none):Wl a T1 T2 H'∧Same (w3 a T1 T2 H) (w3 a T1 T2 H')∧w3 a T1 T2 H' b=some o:=by
 subst e;obtain⟨h1,h2⟩:=h.same (Z6 n o);obtain⟨n1,n2,n3⟩:=h.ne3 n;exact⟨h1,h2,Pr Z2 n1 n2 n3⟩
theorem Wl.dv(h:Wl a T1 T2 H){v:V}{d:PyData}(e:DV (au a H) v d):DV (w3 a T1 T2 H) v d:=by
 have e1:DV (au T1 (au a H)) v d:=V3 (fun xs z=>(W7 h.l1).1 xs (Zf z).2) (fun xs z=>(W7 h.l1).2.1 xs (Zf z).2) e;exact V3 (fun xs z=>(W7 h.l2).1 xs (Zf (Zf z).2).2) (fun xs z=>(W7 h.l2).2.1 xs (Zf (Zf z).2).2) e1
theorem Wl.lad(h:Wl a T1 T2 H){q:Addr}{Ar or total:Int}{ps:Sps}(l:LadAt H q Ar or total ps):LadAt (w3 a T1 T2 H) q Ar or total ps:=by
 obtain⟨c,as,e1,e2,r⟩:=l.at_;exact⟨c,as,h.tup e1,h.tup e2,Paired.mapP r fun _ _ ⟨y,f1,f2⟩=>⟨y,h.tup f1,h.tup f2⟩⟩
theorem Wl.lst(h:Wl a T1 T2 H){b:Addr}{xs:List V}(e:H b=some (.lst xs))(n:b≠a):w3 a T1 T2 H b=some (.lst xs):=Pr e n (fun z=>(W7 h.l1).1 _ (by rw[←z];exact e)) (fun z=>(W7 h.l2).1 _ (by rw[←z];exact e))
theorem Wl.str(h:Wl a T1 T2 H){r:Addr}{ts:List Th}(n:r≠a)(d:DV H (.ref r) (aR ts)):DV (w3 a T1 T2 H) (.ref r) (aR ts):=by
 obtain⟨_,xs,e0,e,q⟩:=DV.list_inv d;cases e0;exact .lst (h.lst e n) ((TsAt.of q).tup fun c ys e=>h.tup e).dvs
end
theorem P5{Ar or:Int}(d0:0≤or):∀{t:Tr},(∀s∈t.streams,∀x∈s,ThL or x)→Lok Ar or (glT Ar or t)∧ag (glT Ar or t)=aI t.all∧(glT Ar or t).length≤t.all.length
 |.leaf ts,h=>Rw d0 (h ts (.head _))
 |.node l r,h=>by
  obtain⟨a1,a2,a3⟩:=P5 (Ar:=Ar) d0 (t:=l) fun s hs=>h s (yC _ hs);obtain⟨b1,b2,b3⟩:=P5 (Ar:=Ar) d0 (t:=r) fun s hs=>h s (xP _ hs);obtain⟨c1,c2,c3⟩:=Vy (Ar:=Ar) a1.pok b1.pok;refine⟨c1,?_,?_⟩
  ·show ag (aN Ar or (glT Ar or l) (glT Ar or r))=aI (l.all++r.all);rw[c2,a2,b2];unfold aI;rw[xN,zk]
  ·show(aN Ar or (glT Ar or l) (glT Ar or r)).length≤(l.all++r.all).length;rw[xE];omega
def pE:Sp:=fun vs H Q _=>∃(a:Addr),vs=[.ref a]∧PenAt H a∧∀(m:Int)(H':Hp),1≤m→m≤20→PenAt H' a→Grw a H H'→Q (.int m) H'
def j1(K:W.Frag)(T1 T2:Addr):Sp:=fun vs H Q _=>∃(a:Addr)(ns:List Int),vs=[.ref a]∧SqL K H a (ns.map V.int)∧ns.length≤63∧qO T1 H∧mU T2 H∧∀H',Q (.bl true) H'
theorem Yy{K:W.Frag}{H H':Hp}{a:Addr}{xs:List V}(s:Same H H')(h:SqL K H a xs):SqL K H' a xs:=by
 rcases h with h | h
 ·rcases h with h | ⟨o,h⟩
  ·exact .inl (.inl (s _ _ h))
  ·exact .inl (.inr ⟨o,s _ _ h⟩)
 ·exact .inr h
theorem eZ:∀{t:Tr},t.Ok→∀x∈t.all,x.Ok
 |.leaf _,h,x,hx=>h x hx
 |.node _ _,h,x,hx=>(xR.mp hx).elim (eZ h.1 x) (eZ h.2 x)
theorem Xk{p:Th→Prop}:∀{t:Tr},(∀x∈t.all,p x)→∀s∈t.streams,∀x∈s,p x
 |.leaf ts,h,s,hs,x,hx=>by rw[xF.mp hs]at hx;exact h x hx
 |.node l r,h,s,hs,x,hx=>by
  rcases xR.mp (show s∈l.streams++r.streams from hs)with z | z
  ·exact Xk (t:=l) (fun y hy=>h y (yC _ hy)) s z x hx
  ·exact Xk (t:=r) (fun y hy=>h y (xP _ hy)) s z x hx
theorem u_{K:W.Frag}{a T1 T2 S:Addr}{xs:List V}{H H1:Hp}(h:SqL K H S xs)(l1:qO T1 H)(l2:mU T2 H)(n:H a=none)(s:Same H H1):SqL K (w3 a T1 T2 H1) S xs:=by
 rcases h with(e | ⟨o,e⟩) | e
 ·refine .inl (.inl (Pr (s _ _ e) (fun z=>by rw[z,n]at e;cases e) (fun z=>(W7 l1).1 _ (by rw[←z];exact e)) (fun z=>(W7 l2).1 _ (by rw[←z];exact e))))
 ·refine .inl (.inr ⟨o,Pr (s _ _ e) (fun z=>by rw[z,n]at e;cases e) (fun z=>?_) (fun z=>?_)⟩)
  ·rcases l1.tab with f | ⟨_,f,_⟩ <;> (rw[z,f]at e;cases e)
  ·rcases l2.tab with f | ⟨_,f,_⟩ <;> (rw[z,f]at e;cases e)
 ·exact .inr e
theorem kX{a:Addr}{H:Hp}(h:PenAt H a):∀{ts:List Th}{xs:List V},DVs H xs (ts.map Th.D)→DVs (au a H) xs (ts.map Th.D)
 | [],xs,d=>by
  have:=DVs.nil_inv d;subst this;exact .nil
 |t::ts,xs,d=>by
  obtain⟨x,r,rfl,_,d2⟩:=DVs.cons_inv d;obtain⟨t',c,ht,rfl,e,_⟩:=DVs.th_at (i:=0) d rfl;cases ht;exact .cons (Th.dv (h.tup e)) (kX h d2)
theorem Na{a:Addr}{H:Hp}(h:PenAt H a):∀{t:Tr}{v:V},DV H v t.D→DV (au a H) v t.D
 |.leaf ts,v,d=>by
  obtain⟨b,xs,rfl,eb,qb⟩:=DV.list_inv d;have ne:b≠a:=fun z=>by
   obtain⟨p,q,r,ea⟩:=h;rw[z,ea]at eb;cases eb;obtain⟨_,_,_,e,_⟩:=DVs.th_at (i:=0) qb rfl;cases e
  exact .lst (by rw[Zg ne];exact eb) (kX h qb)
 |.node l r,v,d=>by
  obtain⟨b,xs,rfl,e,q⟩:=DV.tup_inv d;obtain⟨m,r1,rfl,hm,q1⟩:=q.cons_inv;obtain⟨x,r2,rfl,hx,q2⟩:=q1.cons_inv;obtain⟨y,r3,rfl,hy,q3⟩:=q2.cons_inv;have:=q3.nil_inv;subst this;cases hm;exact .tup (h.tup e) (.cons (.str _) (.cons (Na h hx) (.cons (Na h hy) .nil)))
theorem tR(Ar or:Int):∀(us:List Th)(a:Sps×Sps),(us.foldl (lC Ar or) a).1=us.foldl (fun a t=>aN Ar or a (thL Ar or t)) a.1:=by
 intro us
 induction us with
 |nil=>intro a;rfl
 |cons u us ih=>
  intro a;rw[zQ,zQ,ih];rfl
theorem vE(Ar or:Int):∀t:Tr,(ldT Ar or t).1=glT Ar or t:=by
 intro t
 induction t with
 |leaf ts=>exact tR Ar or ts ([],[])
 |node l r hl hr=>
  show aN Ar or (ldT Ar or l).1 (ldT Ar or r).1=aN Ar or (glT Ar or l) (glT Ar or r);rw[hl,hr]
theorem sL:PyData.strOk "a"=true:=by decide +kernel
theorem q9{or:Int}{ts:List Th}(h:∀x∈ts,ThL or x):∀t∈ts,0≤t.num∧1≤t.many:=fun t ht=>⟨(h t ht).1,(h t ht).2.2⟩
def wI(U:Addr):Sp:=fun vs H Q _=>∃(v:V)(q:Addr)(Ar or:Int)(t:Tr),vs=[.int Ar,.int or,v,.ref q]∧1≤Ar∧Ar≤20∧0≤or∧or≤10∧DV H v t.D∧t.size≤20∧t.ht≤20∧(∀x∈t.all,ThL or x)∧t.all.length≤50∧LadAt H q Ar or (ag (glT Ar or t)) (glT Ar or t)∧mU U H∧
 ∀H',Same (au U H) (au U H')→mU U H'→Q (.bl true) H'
theorem qe(aj:Has P w K mg base "_law_draw" 1 ["_law_pen_here","_law_size"] bV)(F:Fun K "_law_room" "_law_room" eG f fd):FnOk P w K mg base CX0 2 f fd ["_law_pen_here"] pE:=by
 refine F.ok lP (fun vs H Q E h=>?_) (fun cdv A outer s H vs Q E hr h=>?_)
 ·obtain⟨a,rfl,_⟩:=h;rfl
 obtain⟨a,rfl,hp,hq⟩:=h;refine⟨_,(Z7 (Zc (Xa Uv (Yk (Z0 Z5 (Z0 Z5 (Z0 Z5 (Z0 (Ze Zu Z5 (Z4 aj hr (Z0 (pv 0) (Z0 Z5 Z1)))) Z1))))) (Z4 aj hr (Z0 (pv 0) (Z0 Z5 Z1)))))),?_⟩;refine⟨_,rfl,a,20,rfl,hp,Xv rfl,ltI rfl,fun d1 H1 x0 x1 hp1 g1=>⟨_,_,rfl,rfl,?_⟩⟩;have x1:d1<20:=x1;refine⟨leN rfl,fun p hn=>⟨_,rfl,a,4,rfl,hp1.laid hn,Xv rfl,ltI rfl,fun d2 H2 y0 y1 hp2 g2=>?_⟩⟩;have hpa:=hp1.ne hn;have e2:H2 p=some (.lst [.int 1,.int 2,.int 3,.int (1+d1)]):=Sh g2 hpa Z2;obtain⟨v,hv,hm⟩:=e7 (xs:=[V.int 1,.int 2,.int 3,.int (1+d1)]) y0 y1;refine⟨p,_,_,v,rfl,rfl,SqL.of e2,hv,?_⟩;have gg:=g1.trans ((X4 hn).trans g2);simp only[List.mem_cons,List.not_mem_nil,or_false]at hm
 rcases hm with rfl | rfl | rfl | rfl
 ·exact hq _ _ (by decide) (by decide) hp2 gg
 ·exact hq _ _ (by decide) (by decide) hp2 gg
 ·exact hq _ _ (by decide) (by decide) hp2 gg
 ·exact hq _ _ (by omega) (by omega) hp2 gg
theorem v_{U:Addr}(d_:Has P w K mg base "ladder_paper" 10 ["room","deep","tree"] (xv U))(cA:Has P w K mg base "stream_of" 3 ["tree"] cL)(bg:Has P w K mg base "is_folded" 5 ["stream","ladder","paper"] cZ)(F:Fun K "_law_tree_shown" "_law_tree_shown" bG f fd):FnOk P w K mg base CX0 11 f fd ["_law_room_here","_law_deep","_law_tree_here","_law_ladder"] (wI U):=by
 refine F.ok U8 (fun vs H Q E h=>?_) (fun cdv A outer s H vs Q E hr h=>?_)
 ·obtain⟨v,q,Ar,or,t,rfl,_⟩:=h;rfl
 obtain⟨v,q,Ar,or,t,rfl,r0,r1,d0,d1,dv,tsz,tht,ta,tl,lad,lam,hq⟩:=h;refine⟨_,(Z3 (Zy 4 U8.nd rfl (Or.inl rfl) (Z4 d_ hr (Z0 (pv 0) (Z0 (pv 1) (Z0 (pv 2) Z1))))) Zb),?_⟩;refine⟨_,rfl,_,rfl,_,rfl,v,Ar,or,t,rfl,r0,r1,d0,by omega,dv,by omega,Xk ta,by omega,lam,fun l H1 g1 l1 nl pp=>?_⟩;have dv:=((V3 (W7 lam).1 (W7 lam).2.1 dv).mono g1).mono Yi;have lad:LadAt H1 q Ar or (ag (glT Ar or t)) (glT Ar or t):=by
  obtain⟨c,as,e1,e2,r⟩:=lad.at_;have tp:∀{b:Addr}{ys:List V},H b=some (.tup ys)→H1 b=some (.tup ys):=fun{b ys} e=>(Zf (g1 b _ (by rw[Zg (fun z=>(W7 lam).2.1 _ (by rw[←z];exact e))];exact e))).2;exact⟨c,as,tp e1,tp e2,Paired.mapP r fun _ _ ⟨y,f1,f2⟩=>⟨y,tp f1,tp f2⟩⟩
 have ok:=nQ (Ar:=Ar) d0 (show or≤20 by omega) ta;have due:=vg ok;have fe:=vE Ar or t;have lf:=ok.few;have ln:=ok.len;rw[←Q0 (q9 ta) ok.lok.pok.kok.nd,fe]at due;have nd:=ok.lok.pok.kok.nd;rw[fe]at nd ln;refine⟨_,(Z7 (Zc (Xx uz (Z4 bg hr (Z0 (Z4 cA hr (Z0 (pv 2) Z1)) (Z0 (pv 3) (Z0 (pv 4) Z1)))) Xl (Zh _)))),?_⟩;refine⟨_,rfl,v,t,rfl,dv,by omega,by omega,by omega,fun r xs H2 g2 n_r e_r ds=>?_⟩;refine⟨_,rfl,_,rfl,r,q,l,t.all,Ar,or,_,_,_,rfl,.lst e_r ds,by omega,lad.mono g2,nd,by omega,d0,by omega,pp.mono g2,by omega,fun H3 g3=>?_⟩;rw[due];refine⟨true,rfl,rfl,hq _ (fun b u e=>?_) (l1.mono (g2.trans g3))⟩;obtain⟨n,e1⟩:=Zf (g1 b u e);rw[Zg n];exact g3 _ _ (g2 _ _ e1)
theorem uq{T1 T2:Addr}(nT:T1≠T2)(dR:Has P w K mg base "_law_pen" 1 ["_law_script","_law_k"] (sM K))(aj:Has P w K mg base "_law_draw" 1 ["_law_pen_here","_law_size"] bV)(pI:Has P w K mg base "_law_room" 2 ["_law_pen_here"] pE)(ci:Has P w K mg base "_law_tree" 8 ["_law_pen_here","_law_marks","_law_deep","_law_most","_law_parts"] (fW 4))(cA:Has P w K mg base "stream_of" 3 ["tree"] cL)(bD:Has P w K mg base "grown_ladder" 10 ["room","deep","tree"] (v8 T1))(cB:Has P w K mg base "_law_tree_shown" 11 ["_law_room_here","_law_deep","_law_tree_here","_law_ladder"] (wI T2))(nP:Has P w K mg base "lowest" 4 ["ladder"] (lm nV))(lu:Has P w K mg base "highest" 4 ["ladder"] (lm iu))(cD:Has P w K mg base "_law_right" 8 ["_law_stream_here","_law_ladder"] tD)(a5:Has P w K mg base "paper_for" 6 ["stream","ladder"] rf)(mh:Has P w K mg base "_law_other" 2 ["_law_pen_here","_law_deep","_law_stream_here"] sB)(aK:mg "range"=none)(c5:mg "int"=none)(F:Fun K "law" "law" c7 f fd):FnOk P w K mg base CX0 20 f fd ["_law_script"] (j1 K T1 T2):=by
 refine F.ok Xs (fun vs H Q E h=>?_) (fun cdv A outer s H vs Q E hr h=>?_)
 ·obtain⟨a,ns,rfl,_⟩:=h;rfl
 obtain⟨S,ns,rfl,hS,h63,lam1,lam2,hq⟩:=h;refine⟨_,(Z3 (Zy 1 Xs.nd rfl (Or.inl rfl) (Z4 dR hr (Z0 (pv 0) (Z0 Z5 Z1)))) Zb),?_⟩;refine⟨_,rfl,S,ns,0,rfl,hS,by omega,fun a H1 na s1 hp=>?_⟩;have wl:Wl a T1 T2 H1:=⟨hp,lam1.mono s1,lam2.mono s1,nT⟩;have hS:=u_ hS lam1 lam2 na s1;clear hp lam1 lam2 s1 na;refine⟨_,(Z3 (Zy 2 Xs.nd rfl (Or.inl rfl) (Xa Uv (Yk (Z0 (Ze Zu Z5 (Z4 aj hr (Z0 (pv 1) (Z0 Z5 Z1)))) (Z0 Z5 Z1))) (Y9 Oj rfl c5 PyProof.Rows.boot_int (Z0 (Xx S8 (Z4 aj hr (Z0 (pv 1) (Z0 Z5 Z1))) Z5 (Zh _)) Z1)))) Zb),?_⟩;refine⟨_,rfl,a,5,rfl,wl.pen,Xv rfl,ltI rfl,fun x1 H2 x10 x11 hp g2=>⟨_,_,rfl,rfl,leN rfl,fun dl ndl=>?_⟩⟩;obtain⟨wl,sm⟩:=wl.grw hp g2;have hS:=Yy sm hS;clear sm hp g2;generalize hz:upd _ dl _=H3;revert H3;refine blk ?_;intro H3 hz;obtain⟨wl,sm,p8⟩:=wl.lay hz ndl;have hS:=Yy sm hS;clear sm hz ndl;refine⟨_,rfl,a,8,rfl,wl.pen,Xv rfl,ltI rfl,fun x2 H4 x20 x21 hp g4=>⟨rfl,.inr ⟨_,rfl,?_⟩⟩⟩;obtain⟨wl,sm⟩:=wl.grw hp g4;have hS:=Yy sm hS;have p8:=sm _ _ p8;clear sm hp g4;have x11:x1<5:=x11;obtain⟨or,hdp,d0,d1⟩:∃or:Int,atI [V.int (1+x1),.int 10] (if decide (V.int x2=V.int 3)=true then(1:Int)else 0)=some (.int or)∧1≤or∧or≤10:=by
  by_cases q:decide (V.int x2=V.int 3)=true
  ·exact⟨10,by rw[xC q];rfl,by decide,by decide⟩
  ·exact⟨1+x1,by rw[xz q];rfl,by omega,by omega⟩
 refine⟨dl,_,_,_,rfl,rfl,SqL.of (Zt _ _ p8),hdp,?_⟩;clear p8 hdp;have tw2:=Ss (m:=or) d1;refine⟨_,(Z3 (Zy 3 Xs.nd rfl (Or.inl rfl) (Z4 pI hr (Z0 (pv 1) Z1))) Zb),?_⟩;refine⟨_,rfl,a,rfl,wl.pen,fun Ar H5 r0 r1 hp g5=>?_⟩;obtain⟨wl,sm⟩:=wl.grw hp g5;have hS:=Yy sm hS;clear sm hp g5;refine⟨_,(Z3 (Zy 4 Xs.nd rfl (Or.inl rfl) (Z4 ci hr (Z0 (Z4 dR hr (Z0 (pv 0) (Z0 Z5 Z1))) (Z0 Z5 (Z0 (pv 2) (Z0 Z5 (Z0 Z5 Z1))))))) Zb),?_⟩;refine⟨_,rfl,S,ns,1,rfl,Yy Zt hS,by omega,fun b H7 nb s7 hpb=>?_⟩;refine⟨_,rfl,b,4,or,7,4,rfl,hpb,by decide,by decide,by omega,by omega,by decide,by decide,by decide,by decide,by decide,fun v t H8 tok tkk tsz tht tal dv _ g8=>?_⟩;obtain⟨wl,sm⟩:=wl.fresh nb s7 g8;have hS:=Yy sm hS;have dv:=wl.dv (Na wl.pen (dv.mono Yi));clear sm nb s7 hpb g8;have tok:=eZ tok;have tl:t.all.length≤28:=by omega
 have ta:∀x∈t.all,ThL or x:=fun x hx=>⟨(tok x hx).num,tkk x hx,(tok x hx).many⟩;have thm:∀x∈t.all,Thm x:=fun x hx=>⟨(tok x hx).num,(tok x hx).many,(tok x hx).manyU,nU _ (tok x hx).word⟩;have tw:=Xk ta;have ts9:t.size≤7:=by omega
 have th9:t.ht<4:=by omega
 clear tsz tht tal tkk tok;refine⟨_,(Z3 (Zy 5 Xs.nd rfl (Or.inl rfl) (Z4 cA hr (Z0 (pv 4) Z1))) Zb),?_⟩;refine⟨_,rfl,v,t,rfl,dv.mono Zt,by omega,by omega,by omega,fun r xs H9 g9 n_r e_r ds=>?_⟩;have ra:=(wl.ne3 n_r).1;obtain⟨wl,sm⟩:=wl.same g9;have hS:=Yy sm hS;have dv:=dv.mono sm;have k_r:=wl.str ra (.lst e_r ds);clear sm g9 n_r e_r ds;obtain⟨go,gs,gl⟩:=P5 (Ar:=Ar) (by omega) tw;have dom:=(vt (Ar:=Ar) (by omega) tw).1;refine⟨_,(Z3 (Zy 6 Xs.nd rfl (Or.inl rfl) (Z4 bD hr (Z0 (pv 3) (Z0 (pv 2) (Z0 (pv 4) Z1))))) Zb),?_⟩;refine⟨_,rfl,_,rfl,_,rfl,v,Ar,or,t,rfl,r0,r1,by omega,by omega,dv.mono Zt,by omega,tw,by omega,wl.l1,fun q H10 g10 l10 lad=>?_⟩;obtain⟨wl,sm⟩:=wl.tt1 g10 l10;have hS:=Yy sm hS;have dv:=dv.mono sm;have k_r:=k_r.mono sm;have lad:=wl.lad lad;clear sm g10 l10;refine⟨_,(Z3 (Zy 7 Xs.nd rfl (Or.inl rfl) (Z4 aj hr (Z0 (pv 1) (Z0 Z5 Z1)))) Zb),?_⟩;refine⟨_,rfl,a,2,rfl,wl.pen,Xv rfl,ltI rfl,fun fst H11 _ _ hp g11=>?_⟩;obtain⟨wl,sm⟩:=wl.grw hp g11;obtain⟨G,gG,hS,dv,k_r,lad⟩:∃G:Hp,Same G (w3 a T1 T2 H11)∧SqL K G S (ns.map V.int)∧DV G v t.D∧DV G (.ref r) (aR t.all)∧LadAt G q Ar or (ag (glT Ar or t)) (glT Ar or t):=⟨_,Same.refl _,Yy sm hS,dv.mono sm,k_r.mono sm,lad.mono sm⟩;clear sm hp g11;have pok:=go.pok;refine⟨_,(Z3 (Y8 (PW.pt (i9 (Zi S8 (pv 7) Z5 (Zh _)) (N7 (V9 (Wb (Z4 cB hr (Z0 (pv 3) (Z0 (pv 2) (Z0 (pv 4) (Z0 (pv 6) Z1)))))))))) (Z7 (Zc Xl)) Zr) Zb),?_⟩;refine S0 (fun σ H'=>σ=[some (.ref S),some (.ref a),some (.int or),some (.int Ar),some v,some (.ref r),some (.ref q),some (.int fst),none,none,none,none,none]∧Wl a T1 T2 H'∧Same G (w3 a T1 T2 H')) (fun nx hnx=>?_) ?_
 ·refine⟨_,rfl,rfl,_,rfl,Xf (fun c=>?_) (fun c=>Xe (hnx _ _ ⟨rfl,wl,gG⟩))⟩;refine⟨_,rfl,_,rfl,_,rfl,_,rfl,v,q,Ar,or,t,rfl,r0,r1,by omega,d1,(dv.mono gG).mono Zt,by omega,by omega,ta,by omega,(lad.mono gG).mono Zt,wl.l2,fun H2 g2 l2=>⟨_,rfl,Xe ?_⟩⟩;obtain⟨wl,sm⟩:=wl.tt2 g2 l2;exact hnx _ _ ⟨rfl,wl,gG.trans sm⟩
 clear wl gG;rintro σ H12 ⟨rfl,wl,gG⟩;refine⟨_,(Z3 (X7 yc rfl (Yv (Yk (Z0 (pv 5) (Z0 (Z4 nP hr (Z0 (pv 6) Z1)) (Z0 (Z4 lu hr (Z0 (pv 6) Z1)) Z1))))) (Z9 (i:=8) Xs.nd rfl (Or.inl rfl))
 (Z7 (Y8 (PW.pt (Wz (V9 (Wb (Z4 cD hr (Z0 (pv 8) (Z0 (pv 6) Z1))))) (V8 (Zi Qq (Z4 a5 hr (Z0 (pv 8) (Z0 (pv 6) Z1))) Xz (Zh _))))) (Z7 (Zc Xl)) Zr))) Zb),?_⟩
 have sts:Sts (glT Ar or t):=Kok.sts pok.kok d1;refine⟨_,rfl,_,rfl,q,Ar,or,_,_,rfl,(lad.mono gG).mono Zt,sts,by omega,fun rl H13 wZ g13 k_rl=>?_⟩;have rla:=(wl.ne3 wZ).1;obtain⟨wl,sm⟩:=wl.same g13;have gG:=gG.trans sm;have k_rl:=wl.str rla k_rl;clear sm g13 wZ;refine⟨_,rfl,q,Ar,or,_,_,rfl,(lad.mono gG).mono Zt,sts,by omega,fun rh H14 wO g14 k_rh=>⟨leN rfl,fun ll wU=>?_⟩⟩;have rha:=(wl.ne3 wO).1;obtain⟨wl,sm⟩:=wl.same g14;have gG:=gG.trans sm;have k_rl:=k_rl.mono sm;have k_rh:=wl.str rha k_rh;clear sm g14 wO;generalize hz:upd _ ll _=H15;revert H15;refine blk ?_;intro H15 hz;obtain⟨wl,sm,tY⟩:=wl.lay hz wU;have gG:=gG.trans sm;have k_rl:=k_rl.mono sm;have k_rh:=k_rh.mono sm;clear sm hz wU;refine⟨ll,rfl,⟨_,SqL.of (Zt _ _ tY)⟩,?_⟩;have each:∀x∈[V.ref r,.ref rl,.ref rh],∃(r':Addr)(us:List Th),x=.ref r'∧DV (w3 a T1 T2 H15) (.ref r') (aR us)∧us.length≤60∧(∀t∈us,Tho t)∧(∀t∈us,t.num<2^or.toNat)∧Can (glT Ar or t) (el us):=by
  have at_:∀(f:Int×Int→Int),(∀k:Int×Int,aE k≤f k∧f k≤aD k)→(cY ((glT Ar or t).map fun p=>(f p.1,p.2))).length≤60∧(∀x∈cY ((glT Ar or t).map fun p=>(f p.1,p.2)),Tho x)∧(∀x∈cY ((glT Ar or t).map fun p=>(f p.1,p.2)),x.num<2^or.toNat)∧Can (glT Ar or t) (el (cY ((glT Ar or t).map fun p=>(f p.1,p.2)))):=fun f hf=>by
   have o:=u6 pok fun p _=>hf p.1;refine⟨by unfold cY;rw[az,az];omega,fun x hx=>?_,fun x hx=>(o x hx).2.1,fK (vC pok fun p _=>hf p.1)⟩;obtain⟨a1,a2,a3,a4⟩:=o x hx;exact⟨a1,a3,by rw[a4];exact sL⟩
  have fl:∀k:Int×Int,aE k≤aD k:=fun k=>by
   have A:=Yd k.1.toNat;unfold aE aD;rw[zE];omega
  intro x hx;simp only[List.mem_cons,List.not_mem_nil,or_false]at hx
  rcases hx with rfl | rfl | rfl
  ·exact⟨r,t.all,rfl,k_r.mono gG,by omega,Tu thm,fun x hx=>(ta x hx).2.1,fK dom⟩
  ·obtain⟨c1,c2,c3,c4⟩:=at_ aE fun k=>⟨x5 _,fl k⟩;exact⟨rl,_,rfl,k_rl,c1,c2,c3,c4⟩
  ·obtain⟨c1,c2,c3,c4⟩:=at_ aD fun k=>⟨fl k,x5 _⟩;exact⟨rh,_,rfl,k_rh,c1,c2,c3,c4⟩
 have lad15:=lad.mono gG;refine Xq (xs:=[V.ref r,.ref rl,.ref rh]) (fun i σ H'=>∃o8:Option V,σ=[some (.ref S),some (.ref a),some (.int or),some (.int Ar),some v,some (.ref r),some (.ref q),some (.int fst),o8,none,none,none,none]∧Wl a T1 T2 H'∧Same (w3 a T1 T2 H15) (w3 a T1 T2 H')) ⟨_,rfl,wl,Same.refl _⟩ ?_ ?_ ?_
 ·rintro i σ H' _ ⟨_,_,_,g⟩;exact SqL.of (Zt _ _ (g _ _ tY))
 ·clear wl;rintro i x σ H' N B1 R hN hR hx ⟨o8,rfl,wl,g⟩;obtain⟨r',us,rfl,k,ul,tho,inn,can⟩:=each x (xT hx);refine⟨_,rfl,_,rfl,r',q,us,Ar,or,_,rfl,(k.mono g).mono Zt,by omega,(lad15.mono g).mono Zt,pok,by omega,by omega,d1,tho,fun H16 g16=>⟨_,rfl,Xe ?_⟩⟩;obtain⟨wl,sm⟩:=wl.same g16;have g:=g.trans sm;clear sm g16;refine⟨_,rfl,_,rfl,r',q,us,Ar,or,_,rfl,(k.mono g).mono Zt,by omega,(lad15.mono g).mono Zt,pok,by omega,by omega,by omega,fun x hx=>⟨(tho x hx).1,(tho x hx).2.1⟩,fun no _ _=>absurd ⟨inn,can⟩ no,fun _ p H17 _ g17 _=>⟨rfl,_,rfl,Xe ?_⟩⟩;obtain⟨wl,sm⟩:=wl.same g17;exact hN _ _ ⟨_,rfl,wl,g.trans sm⟩
 clear wl;rintro σ H18 ⟨o8,rfl,wl,g⟩;have gG:=gG.trans g;clear g lad15 each k_rl k_rh tY;refine⟨_,(Z3 (X7 yc rfl (Uq rfl aK (Z0 Z5 Z1)) (Z9 (i:=9) Xs.nd rfl (Or.inl rfl))
 (Z7 (Y8 (V9 (Wb (Z4 cD hr (Z0 (Z4 mh hr (Z0 (Z4 dR hr (Z0 (pv 0) (Z0 (Ze Zu Z5 (pv 9)) Z1))) (Z0 (pv 2) (Z0 (pv 5) Z1)))) (Z0 (pv 6) Z1))))) (Z7 (Zc Xl)) Zr))) Zb),?_⟩
 refine⟨4,rfl,leI rfl,ltI rfl,?_⟩;refine U2 (lo:=0) (n:=4) (fun i σ H'=>∃o9:Option V,σ=[some (.ref S),some (.ref a),some (.int or),some (.int Ar),some v,some (.ref r),some (.ref q),some (.int fst),o8,o9,none,none,none]∧Wl a T1 T2 H'∧Same G (w3 a T1 T2 H')) ⟨_,rfl,wl,gG⟩ ?_ ?_
 ·clear wl gG;rintro i σ H19 N B1 R hN hR hi ⟨o9,rfl,wl,gG⟩;refine⟨_,rfl,_,rfl,_,_,rfl,rfl,S,ns,_,rfl,Yy Zt (Yy gG hS),by omega,fun b H20 nb s20 hpb=>?_⟩;have sb:Same G (au b H20):=fun x u e=>by
   have e1:=Zt _ _ (gG _ _ e);rw[Zg (Zd e1 nb)];exact s20 _ _ e1
  refine⟨_,rfl,_,rfl,b,r,or,t.all,rfl,hpb,k_r.mono sb,by omega,by omega,d1,thm,fun L us H21 um ul dL _ g21=>?_⟩;obtain⟨wl,sm⟩:=wl.fresh nb s20 g21;have gG:=gG.trans sm;clear sm nb s20 hpb g21 sb;refine⟨_,rfl,L,q,us,Ar,or,_,rfl,dL.mono Yi,by omega,(lad.mono gG).mono Zt,pok,by omega,by omega,d1,Tu um,fun H22 g22=>⟨_,rfl,Xe ?_⟩⟩;obtain⟨wl,sm⟩:=wl.same g22;exact hN _ _ ⟨_,rfl,wl,gG.trans sm⟩
 clear wl gG;rintro σ H23 ⟨o9,rfl,wl,gG⟩;refine⟨_,(Z3 (Zy 10 Xs.nd rfl (Or.inl rfl) (Z4 ci hr (Z0 (Z4 dR hr (Z0 (pv 0) (Z0 Z5 Z1))) (Z0 Z5 (Z0 (pv 2) (Z0 Z5 (Z0 Z5 Z1))))))) Zb),?_⟩;refine⟨_,rfl,S,ns,2,rfl,Yy Zt (Yy gG hS),by omega,fun b H24 nb s24 hpb=>?_⟩;refine⟨_,rfl,b,4,or,7,4,rfl,hpb,by decide,by decide,by omega,by omega,by decide,by decide,by decide,by decide,by decide,fun v2 t2 H25 tok2 tkk2 tsz2 tht2 tal2 dv2 _ g25=>?_⟩;obtain⟨wl,sm⟩:=wl.fresh nb s24 g25;have gG:=gG.trans sm;have dv2:=wl.dv (Na wl.pen (dv2.mono Yi));clear sm nb s24 hpb g25 hS;have tok2:=eZ tok2;have tl2:t2.all.length≤28:=by omega
 have ta2:∀x∈t2.all,ThL or x:=fun x hx=>⟨(tok2 x hx).num,tkk2 x hx,(tok2 x hx).many⟩;have tw3:=Xk ta2;have sz2:t2.size≤7:=by omega
 clear tsz2 tht2 tal2 tkk2 tok2;obtain⟨go2,gs2,gl2⟩:=P5 (Ar:=Ar) (by omega) tw3;refine⟨_,(Z3 (Zy 11 Xs.nd rfl (Or.inl rfl) (Z4 bD hr (Z0 (pv 3) (Z0 (pv 2) (Z0 (pv 10) Z1))))) Zb),?_⟩;refine⟨_,rfl,_,rfl,_,rfl,v2,Ar,or,t2,rfl,r0,r1,by omega,by omega,dv2.mono Zt,by omega,tw3,by omega,wl.l1,fun q2 H26 g26 l26 lad2=>?_⟩;obtain⟨wl,sm⟩:=wl.tt1 g26 l26;have gG:=gG.trans sm;have dv2:=dv2.mono sm;have lad2:=wl.lad lad2;clear sm g26 l26;refine⟨_,(Z3 (Zy 12 Xs.nd rfl (Or.inl rfl) (Ze Xj (Xa Xc (pv 6) Z5) (Xa Xc (pv 11) Z5))) Zb),?_⟩;obtain⟨cq,aq,AC,_⟩:=lad.at_;obtain⟨cq2,aq2,xr,_⟩:=lad2.at_;refine⟨_,rfl,q,_,3,_,rfl,rfl,SqT.of (Zt _ _ (gG _ _ AC)),rfl,_,rfl,q2,_,3,_,rfl,rfl,SqT.of (Zt _ _ xr),rfl,_,_,rfl,rfl,?_⟩;clear AC xr;refine⟨_,(Z3 (Y8 (Zi Rf (pv 12) Z5 (Zh _)) (Z7 (Zy 11 Xs.nd rfl (Or.inl rfl) (Z4 bD hr (Z0 (pv 3) (Z0 (pv 2) (Z0 (Zn (Z0 Ue (Z0 (pv 10) (Z0 (Yk (Z0 (Zn (Z0 Z5 (Z0 Ue (Z0 (Z4 aj hr (Z0 (pv 1) (Z0 (Ze Tf Z5 (pv 2)) Z1))) (Z0 (pv 12) Z1))))) Z1)) Z1)))) Z1)))))) Zr) Zb),?_⟩;refine S0 (fun σ H'=>∃(q3:Addr)(qs:Sps),σ=[some (.ref S),some (.ref a),some (.int or),some (.int Ar),some v,some (.ref r),some (.ref q),some (.int fst),o8,o9,some v2,some (.ref q3),some (.int (ag (glT Ar or t)-ag (glT Ar or t2)))]∧Wl a T1 T2 H'∧Same G (w3 a T1 T2 H')∧LadAt (w3 a T1 T2 H') q3 Ar or (ag qs) qs∧Pok or qs∧qs.length≤60) (fun nx hnx=>?_) ?_
 ·refine⟨_,rfl,_,_,rfl,rfl,_,rfl,Xf (fun c=>?_) (fun c=>hnx _ _ ⟨q2,_,rfl,wl,gG,lad2,go2.pok,by omega⟩)⟩;have c:(ag (glT Ar or t)-ag (glT Ar or t2)) > 0:=xH c;refine⟨_,rfl,_,rfl,_,rfl,_,rfl,_,rfl,_,_,rfl,rfl,⟨by omega,by omega,by decide⟩,a,_,rfl,wl.pen,by rw[yE];omega,by rw[yE];omega,fun d G1 y0 y1 hp g=>⟨_,rfl,leN rfl,fun c1 n1=>?_⟩⟩;have y1:d<1*2^or.toNat:=y1;rw[yE]at y1;obtain⟨wl,sm⟩:=wl.grw hp g;have gG:=gG.trans sm;have dv2:=dv2.mono sm;clear sm hp g lad2;generalize hz:upd _ c1 _=G2;revert G2;refine blk ?_;intro G2 hz;obtain⟨wl,sm,e1⟩:=wl.lay hz n1;have gG:=gG.trans sm;have dv2:=dv2.mono sm;clear sm hz n1;refine⟨leN rfl,fun c2 n2=>?_⟩;generalize hz:upd _ c2 _=G3;revert G3;refine blk ?_;intro G3 hz;obtain⟨wl,sm,e2⟩:=wl.lay hz n2;have gG:=gG.trans sm;have dv2:=dv2.mono sm;have e1:=sm _ _ e1;clear sm hz n2;refine⟨leN rfl,fun c3 n3=>?_⟩;generalize hz:upd _ c3 _=G4;revert G4;refine blk ?_;intro G4 hz;obtain⟨wl,sm,e3⟩:=wl.lay hz n3;have gG:=gG.trans sm;have dv2:=dv2.mono sm;have e1:=sm _ _ e1;have e2:=sm _ _ e2;clear sm hz n3;have ta3:∀x∈(Tr.node t2 (.leaf [⟨0,"a",d,(ag (glT Ar or t)-ag (glT Ar or t2))⟩])).all,ThL or x:=fun x hx=>by
   rcases xR.mp (show x∈t2.all++[⟨0,"a",d,(ag (glT Ar or t)-ag (glT Ar or t2))⟩]from hx)with hx | hx
   ·exact ta2 x hx
   ·rw[xF.mp hx];exact⟨y0,y1,by show 1≤(ag (glT Ar or t)-ag (glT Ar or t2));omega⟩
  have al3:(Tr.node t2 (.leaf [⟨0,"a",d,(ag (glT Ar or t)-ag (glT Ar or t2))⟩])).all.length≤29:=by
   show(t2.all++[_]).length≤29;rw[xE,yR];omega
  have tw4:=Xk ta3;obtain⟨go3,gs3,gl3⟩:=P5 (Ar:=Ar) (by omega) tw4;refine⟨.ref c3,Ar,or,.node t2 (.leaf [⟨0,"a",d,(ag (glT Ar or t)-ag (glT Ar or t2))⟩]),rfl,r0,r1,by omega,by omega,.tup (Zt _ _ e3) (.cons (.str _) (.cons (dv2.mono Zt) (.cons (.lst (Zt _ _ e2) (.cons (Th.dv (t:=⟨0,"a",d,(ag (glT Ar or t)-ag (glT Ar or t2))⟩) (Zt _ _ e1)) .nil)) .nil))),by show t2.size+1+1≤1000;omega,tw4,by omega,wl.l1,fun q3 G5 g5 l5 lad3=>?_⟩;obtain⟨wl,sm⟩:=wl.tt1 g5 l5;exact hnx _ _ ⟨q3,_,rfl,wl,gG.trans sm,wl.lad lad3,go3.pok,by omega⟩
 clear wl gG lad2 dv2;rintro σ H27 ⟨q3,qs,rfl,wl,gG,lad3,pok3,ql3⟩;refine⟨_,(Z3 (Y8 (PW.pt (i9 (Zi S8 (pv 7) Z5 (Zh _)) (N7 (V9 (Wb (Z4 cB hr (Z0 (pv 3) (Z0 (pv 2) (Z0 (pv 4) (Z0 (pv 6) Z1)))))))))) (Z7 (Zc Xl)) Zr) Zb),?_⟩;refine S0 (fun σ H'=>σ=[some (.ref S),some (.ref a),some (.int or),some (.int Ar),some v,some (.ref r),some (.ref q),some (.int fst),o8,o9,some v2,some (.ref q3),some (.int (ag (glT Ar or t)-ag (glT Ar or t2)))]∧Wl a T1 T2 H'∧Same (w3 a T1 T2 H27) (w3 a T1 T2 H')) (fun nx hnx=>?_) ?_
 ·refine⟨_,rfl,rfl,_,rfl,Xf (fun c=>?_) (fun c=>Xe (hnx _ _ ⟨rfl,wl,Same.refl _⟩))⟩;refine⟨_,rfl,_,rfl,_,rfl,_,rfl,v,q,Ar,or,t,rfl,r0,r1,by omega,d1,(dv.mono gG).mono Zt,by omega,by omega,ta,by omega,(lad.mono gG).mono Zt,wl.l2,fun H2 g2 l2=>⟨_,rfl,Xe ?_⟩⟩;obtain⟨wl,sm⟩:=wl.tt2 g2 l2;exact hnx _ _ ⟨rfl,wl,sm⟩
 clear wl;rintro σ H28 ⟨rfl,wl,g28⟩;have gG:=gG.trans g28;refine⟨_,(Z7 (Zc (R3 (Z4 cD hr (Z0 (pv 5) (Z0 (pv 11) Z1))) (R1 (Z4 cD hr (Z0 (Ze Nc (pv 5) (Yk (Z0 (Zn (Z0 Z5 (Z0 Ue (Z0 (Ze Tf Z5 (pv 2)) (Z0 Z5 Z1))))) Z1))) (Z0 (pv 6) Z1))))))),?_⟩;refine⟨_,rfl,_,rfl,r,q3,t.all,Ar,or,qs,rfl,(k_r.mono gG).mono Zt,by omega,(lad3.mono g28).mono Zt,pok3,by omega,by omega,d1,Tu thm,fun H29 g29=>⟨_,rfl,U1 ?_⟩⟩;obtain⟨wl,sm⟩:=wl.same g29;have gG:=gG.trans sm;clear sm g29 g28 lad3;refine⟨_,rfl,_,rfl,_,_,rfl,rfl,⟨by omega,by omega,by decide⟩,leN rfl,fun c1 n1=>?_⟩;generalize hz:upd _ c1 _=G2;revert G2;refine blk ?_;intro G2 hz;obtain⟨wl,sm,e1⟩:=wl.lay hz n1;have gG:=gG.trans sm;clear sm hz n1;refine⟨leN rfl,fun c2 n2=>?_⟩;generalize hz:upd _ c2 _=G3;revert G3;refine blk ?_;intro G3 hz;obtain⟨wl,sm,e2⟩:=wl.lay hz n2;have gG:=gG.trans sm;have e1:=sm _ _ e1;clear sm hz n2;obtain⟨_,xs,e0,e_r,dx⟩:=DV.list_inv (k_r.mono gG);cases e0;have xl:=dx.length;rw[az]at xl;refine⟨r,c2,xs,_,rfl,rfl,Zt _ _ e_r,Zt _ _ e2,Zl (by rw[yR];omega),fun c3 n3=>?_⟩;generalize hz:upd _ c3 _=G4;revert G4;refine blk ?_;intro G4 hz;obtain⟨wl,sm,e3⟩:=wl.lay hz n3;have gG:=gG.trans sm;have dx:=dx.mono sm;have e1:=sm _ _ e1;clear sm hz n3;refine⟨_,rfl,c3,q,t.all++[⟨0,"a",1*2^or.toNat,1⟩],Ar,or,_,rfl,.lst (Zt _ _ e3) ?_,by rw[xE,yR];omega,(lad.mono gG).mono Zt,pok,by omega,by omega,d1,fun x hx=>?_,fun H30 _=>hq _⟩
 ·rw[xN];exact(dx.mono Zt).append (.cons (Th.dv (Zt _ _ e1)) .nil)
 ·rcases xR.mp hx with hx | hx
  ·exact Tu thm x hx
  ·rw[xF.mp hx];exact⟨by show 0≤1*(2:Int)^or.toNat;rw[yE];omega,x5 _,sL⟩
end K34
namespace Hd
open PySem PySem.W
section
variable{α β:Type}
def fN(n:Nat)(k:Nat→α):α:=Nat.casesOn n (k 0) fun m=>k (Nat.succ m)
theorem T3(n:Nat)(k:Nat→α):fN n k=k n:=by cases n <;> rfl
def fV(v:Value)(k:Value→α):α:=match v with
 |.ref a=>fN a fun a=>k (.ref a)
 |.str s t=>fN t fun t=>k (.str s t)
 |.int i t=>fN t fun t=>k (.int i t)
 |v=>k v
theorem Rh(v:Value)(k:Value→α):fV v k=k v:=by cases v <;> simp only[fV,T3]
def fO(f:β→(β→α)→α)(o:Option β)(k:Option β→α):α:=match o with
 |none=>k none
 |some x=>f x fun x=>k (some x)
theorem j9{f:β→(β→α)→α}(hf:∀x k,f x k=k x)(o:Option β)(k:Option β→α):fO f o k=k o:=by cases o <;> simp only[fO,hf]
def fL(f:β→(β→α)→α)(l:List β):(List β→α)→α:=
 @List.rec β (fun _=>(List β→α)→α) (fun k=>k []) (fun x _ ih k=>f x fun x=>ih fun r=>k (x::r)) l
theorem sN{f:β→(β→α)→α}(hf:∀x k,f x k=k x)(l:List β):∀k:List β→α,fL f l k=k l:=by
 induction l with
 |nil=>intro k;rfl
 |cons x r ih=>
  intro k;show f x (fun x=>fL f r fun r=>k (x::r))=_;rw[hf,ih]
def fA(f:β→(β→α)→α)(l:Array β)(k:Array β→α):α:=match l with
 |⟨l⟩=>fL f l fun l=>k ⟨l⟩
theorem kK{f:β→(β→α)→α}(hf:∀x k,f x k=k x)(l:Array β)(k:Array β→α):fA f l k=k l:=by
 cases l;simp only[fA,sN hf]
def fE(e:DictEntry)(k:DictEntry→α):α:=match e with
 |⟨h,a,b⟩=>fV a fun a=>fV b fun b=>k ⟨h,a,b⟩
theorem wc(e:DictEntry)(k:DictEntry→α):fE e k=k e:=by cases e;simp only[fE,Rh]
def fF(e:FuncData)(k:FuncData→α):α:=match e with
 |⟨a,b,c,d,e,g,cl,df,kd,dc,pm,an,cd,ct,bl⟩=>fN g fun g=>fV df fun df=>fV kd fun kd=>fV dc fun dc=>fV pm fun pm=>fO fN an fun an=>fV cd fun cd=>fV ct fun ct=>fN bl fun bl=>k ⟨a,b,c,d,e,g,cl,df,kd,dc,pm,an,cd,ct,bl⟩
theorem wk(e:FuncData)(k:FuncData→α):fF e k=k e:=by cases e;simp only[fF,Rh,T3,j9 T3]
def fC(e:ClassData)(k:ClassData→α):α:=match e with
 |⟨a,b,c,d,e,f,g,h,i,j,l⟩=>fL fV b fun b=>fL fV c fun c=>fN d fun d=>fL fV h fun h=>k ⟨a,b,c,d,e,f,g,h,i,j,l⟩
theorem ww(e:ClassData)(k:ClassData→α):fC e k=k e:=by cases e;simp only[fC,sN Rh,T3]
def fD(d:Data)(k:Data→α):α:=match d with
 |.seq xs n=>fA fV xs fun xs=>fN n fun n=>k (.seq xs n)
 |.dict xs n=>fA fE xs fun xs=>fN n fun n=>k (.dict xs n)
 |.fields xs=>fA fV xs fun xs=>k (.fields xs)
 |.cell v=>fO fV v fun v=>k (.cell v)
 |.prim v=>fV v fun v=>k (.prim v)
 |.func f=>fF f fun f=>k (.func f)
 |.cls f=>fC f fun f=>k (.cls f)
 |d=>k d
theorem v4(d:Data)(k:Data→α):fD d k=k d:=by cases d <;> simp only[fD,kK Rh,kK wc,T3,j9 Rh,Rh,wk,ww]
def fJ(o:Obj)(k:Obj→α):α:=match o with
 |⟨c,d,x,s⟩=>fV c fun c=>fO fN d fun d=>fD x fun x=>fA (fO fV) s fun s=>k ⟨c,d,x,s⟩
theorem sW(o:Obj)(k:Obj→α):fJ o k=k o:=by cases o;simp only[fJ,Rh,j9 T3,v4,kK (j9 Rh)]
def fB(t:BT):(BT→α)→α:=
 @BT.rec (fun _=>(BT→α)→α) (fun k=>k .nil) (fun v _ _ il ir k=>fJ v fun v=>il fun l=>ir fun r=>k (.node v l r)) t
theorem xc(t:BT):∀k:BT→α,fB t k=k t:=by
 induction t with
 |nil=>intro k;rfl
 |node v l r il ir=>
  intro k;show fJ v (fun v=>fB l fun l=>fB r fun r=>k (.node v l r))=_;rw[sW,il,ir]
def fR(d:Drawn)(k:Drawn→α):α:=match d with
 |⟨a,b,c,d⟩=>fN a fun a=>fN b fun b=>fN c fun c=>fN d fun d=>k ⟨a,b,c,d⟩
theorem sS(d:Drawn)(k:Drawn→α):fR d k=k d:=by cases d;simp only[fR,T3]
def fS(s:SharedT)(k:SharedT→α):α:=match s with
 |⟨t,n,life,g,d,tk,os⟩=>fB t fun t=>fN n fun n=>fR d fun d=>fN tk fun tk=>k ⟨t,n,life,g,d,tk,os⟩
theorem tz(s:SharedT)(k:SharedT→α):fS s k=k s:=by cases s;simp only[fS,xc,T3,sS]
def fP(d:Pos)(k:Pos→α):α:=match d with
 |⟨a,b,c,d⟩=>fN a fun a=>fN b fun b=>fN c fun c=>fN d fun d=>k ⟨a,b,c,d⟩
theorem xy(d:Pos)(k:Pos→α):fP d k=k d:=by cases d;simp only[fP,T3]
def fH(s:Shared)(k:Shared→α):α:=match s with
 |⟨⟨l,life⟩,g,d,tk,os⟩=>fA fJ l fun l=>fR d fun d=>fN tk fun tk=>k ⟨⟨l,life⟩,g,d,tk,os⟩
theorem wD(s:Shared)(k:Shared→α):fH s k=k s:=by obtain⟨⟨l,life⟩,g,d,tk,os⟩:=s;simp only[fH,kK sW,T3,sS]
end
section
variable{α:Type}
def hd(tb:String→Option Builtin)(p:Program)(w:World)(m:Nat)(ann:Option Value)(env:Env)(q:Pos)(F:Nat)(fin:SharedT→Code→Pos→Option α)(l:List Stmt):SharedT→Code→Pos→Option α:=
 @List.rec Stmt (fun _=>SharedT→Code→Pos→Option α) fin (fun st _ ih s c pos=>match segRunT tb p w m ann 1 F s (pieceOf st env c pos [topFrame q]) with
  |some (.next,s',c',p')=>fS s' fun s'=>fP p' fun p'=>ih s' c' p'
  |_=>none) l
theorem rA{tb:String→Option Builtin}{p:Program}{w:World}{m:Nat}{ann:Option Value}{env:Env}{q:Pos}{F:Nat}{fin:SharedT→Code→Pos→Option α}{st:Stmt}{l:List Stmt}{s:SharedT}{c:Code}{pos:Pos}{r:α}(h:hd tb p w m ann env q F fin (st::l) s c pos=some r):∃s' c' p',segRunT tb p w m ann 1 F s (pieceOf st env c pos [topFrame q])=some (.next,s',c',p')∧hd tb p w m ann env q F fin l s' c' p'=some r:=by
 have h:(match segRunT tb p w m ann 1 F s (pieceOf st env c pos [topFrame q]) with
  |some (.next,s',c',p')=>fS s' fun s'=>fP p' fun p'=>hd tb p w m ann env q F fin l s' c' p'
  |_=>none)=some r:=h
 split at h
 ·rename_i s' c' p' e;rw[tz,xy]at h;exact⟨s',c',p',e,h⟩
 ·cases h
theorem vz{tb:String→Option Builtin}{p:Program}{w:World}{n₀:Nat}{ann:Option Value}{env:Env}{q:Pos}{n N:Nat}{s s' r:Shared}{st:Stmt}{rest:List Stmt}{c c':Code}{pos p':Pos}(h:segRun tb p w n₀ ann 1 n s (pieceOf st env c pos [topFrame q])=some (.next,s',c',p'))(k:topRun tb p w n₀ ann N s' (restOf rest env c' p' [topFrame q])=some r):topRun tb p w n₀ ann (n+N) s (restOf (st::rest) env c pos [topFrame q])=some r:=by
 obtain⟨a,ha,hN⟩:=seg_top (res:=id) (K':=fun f=>match f with | .next=>(execs rest env).wrap doneF (leaveH env) id id | f=>doneF f) (H':=leaveH env) (B:=[topFrame q]) rfl n s (pieceOf st env c pos [topFrame q])
  ⟨(exec st env).wrap (fun f=>match f with | .next=>(execs rest env).wrap doneF (leaveH env) id id | f=>doneF f) (leaveH env) id id,c,pos,[topFrame q]⟩ _ _ _ _ ⟨rfl,rfl,.inl ⟨rfl,rfl,_,rfl,rfl⟩⟩ h
 obtain rfl:a=.next:=ha;have:=hN N r k;unfold restOf;rw[execs_cons_wrap];exact this
theorem nF{tb:String→Option Builtin}{p:Program}{w:World}{m:Nat}{ann:Option Value}{env:Env}{q:Pos}{F:Nat}{fin:SharedT→Code→Pos→Option α}{r:α}:∀(l:List Stmt)(s:SharedT)(c:Code)(pos:Pos),hd tb p w m ann env q F fin l s c pos=some r→
  ∃s' c' p',fin s' c' p'=some r∧∀N z,topRun tb p w m ann N s'.abs (restOf [] env c' p' [topFrame q])=some z→topRun tb p w m ann (l.length*F+N) s.abs (restOf l env c pos [topFrame q])=some z
 | [],s,c,pos,h=>⟨s,c,pos,h,fun N z hz=>by rw[yQ,Nat.zero_mul,Am];exact hz⟩
 |st::l,s,c,pos,h=>by
  obtain⟨s',c',p',e,h⟩:=rA h;obtain⟨s2,c2,p2,hf,hN⟩:=nF l s' c' p' h;refine⟨s2,c2,p2,hf,fun N z hz=>?_⟩;have:=vz (segRun_of e) (hN N z hz);rw[yn,Nat.succ_mul,show l.length*F+F+N=F+(l.length*F+N) by omega];exact this
def vO{γ:Type}(tb:String→Option Builtin)(p:Program)(w:World)(m:Nat)(ann:Option Value)(env:Env)(q:Pos)(look:Shared→γ)(s:SharedT)(c:Code)(pos:Pos):Option γ:=
 match topRun tb p w m ann 50 s.abs (restOf [] env c pos [topFrame q]) with
 |some r=>fH r fun r=>some (look r)
 |none=>none
def ofL(l:List Obj):Nat→BT→BT:=@List.rec Obj (fun _=>Nat→BT→BT) (fun _ t=>t) (fun o _ ih i t=>ih (Nat.succ i) (t.ins i o)) l
def toT(s:Shared):SharedT:=match s with
 |⟨⟨⟨l⟩,life⟩,g,d,tk,os⟩=>⟨ofL l 0 .nil,l.length,life,g,d,tk,os⟩
def pre(p:Program)(w:World)(os:OsState):Option (Shared×Thread):=topGo treeTable p w 11 (some (.ref 6)) 12 ⟨boot_heap w.params,⟨[]⟩,boot_drawn,boot_toks,os⟩ (topStub p)
def zp:Pos:=⟨0,0,0,0⟩
def sn(p:Program):Env:={scope:=p.main.scope,locals:=mainNs,globals:=mainNs,cells:=[],code:=.ref 13,frame:=some 14}
def sa(p:Program)(w:World)(os:OsState):Shared:=match pre p w os with
 |some (s,_)=>s
 |none=>⟨{},#[],{},0,os⟩
def hc(p:Program):Code:=.body (behindTheImports p) (sn p)
def blk(p:Program)(w:World)(os:OsState):Option (Flow×Shared×Code×Pos):=segRun treeTable p w 11 (some (.ref 6)) 1 1 (sa p w os) (blockOf (behindTheImports p) (sn p) (hc p) zp [topFrame zp])
def chk{γ:Type}(p:Program)(look:Shared→γ)(w:World)(os:OsState):Option γ:=
 fS (toT (sa p w os)) fun s=>hd treeTable p w 11 (some (.ref 6)) (sn p) zp 600 (vO treeTable p w 11 (some (.ref 6)) (sn p) zp look) (behindTheImports p) s (hc p) zp
end
theorem ky{p q:Program}{loose:List Str}{Xt:Shared→Bool}{α:Type}{Yf:Shared→α}{Ya:World→α}(e:opening p=plainProg p.main.scope.names)(f:∀s,fenceModules? p s=some s)(hpre:∀(w:World) (os:OsState),pre p w os=some (sa p w os,⟨denote treeTable (hc p),hc p,zp,[topFrame zp]⟩))(hblk:∀(w:World) (os:OsState),blk p w os=some (.next,(toT (sa p w os)).abs,hc p,zp))(size:∀w:World,((boot_heap w.params).isNs mainGlobals && (Array.mk ([]:List GenState)).size==0,(boot_heap w.params).objs.size,(boot_heap w.params).nsMap mainGlobals "__annotations__")=(true,11,some (.ref 6)))(len:Nat.ble (behindTheImports p).length 1600=true)(hchk:∀(w:World) (os:OsState),chk p (fun s=>((staticsOk (importedModules p.main.body) (boot_heap w.params) s.heap && namesBound p s.heap && gensDone s && laidKept (boot_heap w.params) s.heap),openSeen q loose (importedModules p.main.body) Xt true s,Yf s)) w os=some (true,openGood q loose,Ya w)):
  LeftO p q loose Xt Yf Ya 1000000 true:=fun w=>by
 obtain⟨⟨h,gs,d,k,os⟩,e1,e'⟩:=yO.mp (boot_open (p:=p) (N:=1000000) e rfl f w);obtain⟨rfl,rfl,rfl,rfl⟩:h=boot_heap w.params∧gs=⟨[]⟩∧d=boot_drawn∧k=boot_toks:=by simpa using e'
 obtain⟨z1,z2,z3⟩:_∧_∧_:=by simpa only[Prod.mk.injEq] using size w
 have hc1:=hchk w os;unfold chk at hc1;rw[tz]at hc1;obtain⟨s2,c2,p2,hf,hN⟩:=nF _ _ _ _ hc1;unfold vO at hf
 split at hf
 case h_2=>cases hf
 rename_i r hr;rw[wD]at hf;obtain⟨l1,l2,l3⟩:_∧_∧_:=by simpa only[Option.some.injEq,Prod.mk.injEq] using hf
 have a1:=hN _ _ hr;have a2:=piece_block (hblk w os) a1;have a3:=go_top (hpre w os) a2;have le:12+(1+((behindTheImports p).length*600+50))≤1000000:=by
  have:=Nat.le_of_ble_eq_true len;omega
 have a4:=topRun_mono (1000000-(12+(1+((behindTheImports p).length*600+50)))) _ _ _ _ a3;rw[show 12+(1+((behindTheImports p).length*600+50))+(1000000-(12+(1+((behindTheImports p).length*600+50))))=1000000 by omega]at a4;have t:topFrom treeTable p w 1000000 ⟨boot_heap w.params,⟨[]⟩,boot_drawn,boot_toks,os⟩=some r:=by
  unfold topFrom;dsimp only;rw[z1,z2,z3,a4];show(match staticsOk (importedModules p.main.body) (boot_heap w.params) r.heap && namesBound p r.heap && gensDone r && laidKept (boot_heap w.params) r.heap with | true=>_ | false=>_)=_;rw[l1]
 unfold openEnds;rw[e1];show(topFrom treeTable p w 1000000 _).map _=_;rw[t];exact yP some (yM l2 l3)
def cF(p q:Program)(as:List Addr)(w:World)(os:OsState):=
 chk p (fun s=>((staticsOk (importedModules p.main.body) (boot_heap w.params) s.heap && namesBound p s.heap && gensDone s && laidKept (boot_heap w.params) s.heap),openSeen q [] (importedModules p.main.body) (fun s=>xlAt q [] s && recOk [] s) true s,as.map s.heap.get?)) w os
def cM(p q:Program)(as ts:List Addr)(w:World)(os:OsState):=
 chk p (fun s=>((staticsOk (importedModules p.main.body) (boot_heap w.params) s.heap && namesBound p s.heap && gensDone s && laidKept (boot_heap w.params) s.heap),openSeen q [] (importedModules p.main.body) (fun s=>xlAt q [] s && recOk [] s) true s,(as.map s.heap.get?,ts.map s.heap.get?))) w os
def cG(q:Program):=openGood q []
theorem cF_:@cF=@cF:=rfl
theorem cM_:@cM=@cM:=rfl
theorem cG_:@cG=@cG:=rfl
end Hd
def PySem.W.Fast.tw14598715356260435866:PySem.Params→PySem.Obj:=PySem.W.boot_o_0
theorem PySem.W.Fast.te14598715356260435866:PySem.W.boot_o_0=PySem.W.Fast.tw14598715356260435866:=rfl
lay_quick Hd.cF Hd.cM Hd.cG
name_quick cFQ for Hd.cF by Hd.cF_
name_quick cMQ for Hd.cM by Hd.cM_
name_quick cGQ for Hd.cG by Hd.cG_
namespace Hd
open PySem PySem.W
theorem hS(w:World):((boot_heap w.params).isNs mainGlobals && (Array.mk ([]:List GenState)).size==0,(boot_heap w.params).objs.size,(boot_heap w.params).nsMap mainGlobals "__annotations__")=(true,11,some (.ref 6)):=by kernel_rfl
theorem wn(p q:Program)(as:List Addr)(w:World)(os:OsState):cF p q as w os=W.Fast.cFQ p q as w os:=by rw[←W.Fast.cFQ_eq]
theorem xn(p q:Program)(as ts:List Addr)(w:World)(os:OsState):cM p q as ts w os=W.Fast.cMQ p q as ts w os:=by rw[←W.Fast.cMQ_eq]
theorem sx(q:Program):openGood q []=W.Fast.cGQ q:=by rw[←W.Fast.cGQ_eq];rfl
theorem left{p q:Program}(e:opening p=plainProg p.main.scope.names)(f:∀s,fenceModules? p s=some s)(hpre:∀(w:World) (os:OsState),pre p w os=some (sa p w os,⟨denote treeTable (hc p),hc p,zp,[topFrame zp]⟩))(hblk:∀(w:World) (os:OsState),blk p w os=some (.next,(toT (sa p w os)).abs,hc p,zp))(len:Nat.ble (behindTheImports p).length 1600=true){K:Params→Frag}{as:List Addr}{ek:∀P,as=(K P).map (·.1)}(h:∀(w:World) (os:OsState),W.Fast.cFQ p q as w os=some (true,W.Fast.cGQ q,(K w.params).map fun p=>some p.2)):
  LeftO p q [] (fun s=>xlAt q [] s && recOk [] s) (Hook.obs (kHook K as ek)) (Hook.val (kHook K as ek)) 1000000 true:=
 ky e f hpre hblk hS len fun w os=>(wn p q as w os).trans ((h w os).trans (by rw[sx];rfl))
theorem leftM{p q:Program}(e:opening p=plainProg p.main.scope.names)(f:∀s,fenceModules? p s=some s)(hpre:∀(w:World) (os:OsState),pre p w os=some (sa p w os,⟨denote treeTable (hc p),hc p,zp,[topFrame zp]⟩))(hblk:∀(w:World) (os:OsState),blk p w os=some (.next,(toT (sa p w os)).abs,hc p,zp))(len:Nat.ble (behindTheImports p).length 1600=true){K:Params→Frag}{as:List Addr}{ek:∀P,as=(K P).map (·.1)}{ts:List Addr}(h:∀(w:World) (os:OsState),W.Fast.cMQ p q as ts w os=some (true,W.Fast.cGQ q,((K w.params).map fun p=>some p.2),ts.map fun _=>some (tabObj #[]))):
  LeftO p q [] (fun s=>xlAt q [] s && recOk [] s) (Hook.obs (kmHook K as ek ts)) (Hook.val (kmHook K as ek ts)) 1000000 true:=
 ky e f hpre hblk hS len fun w os=>(xn p q as ts w os).trans ((h w os).trans (by rw[sx];rfl))
end Hd
namespace L2
open PySem PyProof.Rows
structure Df(K:W.Frag)(mg:Str→Option Value)(x:Str)(st:Stmt):Prop where
 ex:∃(f:Addr)(fd:FuncData),Fun K x x st f fd∧mg x=some (.ref f)
section
variable{P:Program}{w:World}{K:W.Frag}{mg:Str→Option Value}{base h:Heap}{x:Str}{st:Stmt}{k:Nat}{ps:List Str}{sp:Sp}{p0 p1 p2 p3:Str}
theorem df_mk(X:K.In h)(G:h.Ns mainGlobals mg){f:Addr}{oc:Value}{od an:Option Addr}{osl:Array (Option Value)}{kV doc pm cdv ct:Value}(a:W.nsIn K mainGlobals x=some (some (.ref f)))(l:K.lookup f=some ⟨oc,od,.func (W.fnOf x x (aB st) (aA st) (aa st) .none kV doc pm an cdv ct),osl⟩)(c:W.codeIn K cdv x=true)(k:W.keepIn K (.ref f)=true):Df K mg x st:=⟨f,_,fX l c k,W.mg_of X G a⟩
theorem Df.has(d:Df K mg x st)(ok:∀{f:Addr} {fd:FuncData},Fun K x x st f fd→FnOk P w K mg base CX0 k f fd ps sp)(b:∀{f:Addr} {fd:FuncData},Fun K x x st f fd→Binds K fd ps []):Has P w K mg base x k ps sp:=let ⟨_,_,F,m⟩:=d.ex;Has.of (ok F) (b F) F.kp m
theorem Df.h1(d:Df K mg x st)(ok:∀{f:Addr} {fd:FuncData},Fun K x x st f fd→FnOk P w K mg base CX0 k f fd [p0] sp)(h:∀(kV doc pm:Value) (an:Option Addr) (cdv ct u0:Value),bindArgs (W.fnOf x x (aB st) (aA st) (aa st) .none kV doc pm an cdv ct) ⟨[u0],[]⟩=pure [(p0,u0)]):Has P w K mg base x k [p0] sp:=d.has ok fun F=>F.b1 h
theorem Df.h2(d:Df K mg x st)(ok:∀{f:Addr} {fd:FuncData},Fun K x x st f fd→FnOk P w K mg base CX0 k f fd [p0,p1] sp)(h:∀(kV doc pm:Value) (an:Option Addr) (cdv ct u0 u1:Value),bindArgs (W.fnOf x x (aB st) (aA st) (aa st) .none kV doc pm an cdv ct) ⟨[u0,u1],[]⟩=pure [(p0,u0),(p1,u1)]):Has P w K mg base x k [p0,p1] sp:=d.has ok fun F=>F.b2 h
theorem Df.h3(d:Df K mg x st)(ok:∀{f:Addr} {fd:FuncData},Fun K x x st f fd→FnOk P w K mg base CX0 k f fd [p0,p1,p2] sp)(h:∀(kV doc pm:Value) (an:Option Addr) (cdv ct u0 u1 u2:Value),bindArgs (W.fnOf x x (aB st) (aA st) (aa st) .none kV doc pm an cdv ct) ⟨[u0,u1,u2],[]⟩=pure [(p0,u0),(p1,u1),(p2,u2)]):Has P w K mg base x k [p0,p1,p2] sp:=d.has ok fun F=>F.b3 h
theorem Df.h4(d:Df K mg x st)(ok:∀{f:Addr} {fd:FuncData},Fun K x x st f fd→FnOk P w K mg base CX0 k f fd [p0,p1,p2,p3] sp)(h:∀(kV doc pm:Value) (an:Option Addr) (cdv ct u0 u1 u2 u3:Value),bindArgs (W.fnOf x x (aB st) (aA st) (aa st) .none kV doc pm an cdv ct) ⟨[u0,u1,u2,u3],[]⟩=pure [(p0,u0),(p1,u1),(p2,u2),(p3,u3)]):Has P w K mg base x k [p0,p1,p2,p3] sp:=d.has ok fun F=>F.b4 h
end
end L2
namespace K34
open PySem L2 Ld
theorem all_mk{c_0 T0 c_1 T1:Addr}{l:W.OpenLaw}{w:World}{K:W.Frag}{h:Heap}{mg:Str→Option Value}{fa f24 f28 f53:Addr}(X:K.In h)(G:h.Ns mainGlobals mg)(hfa:mg "law"=some (.ref fa)){od24 an24 od28 an28 od53 an53:Option Addr}{sl24 sl28 sl53:Array (Option Value)}{oc24 kV24 dc24 pm24 ct24 oc28 kV28 dc28 pm28 ct28 oc53 kV53 dc53 pm53 ct53 cd53:Value}(d0:Df K mg "is_whole" cW)(d1:Df K mg "is_whole_from" bn)(d2:Df K mg "is_whole_within" a7)(d3:Df K mg "added_counts" a6)(d4:Df K mg "first_of" cK)(d5:Df K mg "last_of" dq)(d6:Df K mg "parent_of" cz)(d7:Df K mg "pair_of" dD)(d8:Df K mg "is_stretch" bX)(d9:Df K mg "bar_of" eu)(d10:Df K mg "joint_count" bQ)(d11:Df K mg "first_folding" bh)(d12:Df K mg "fold_up" cE)(d13:Df K mg "settling_of" bK)(d14:Df K mg "settled" dC)(d15:Df K mg "steps_in" cN)(d16:Df K mg "streams_in" bZ)(d17:Df K mg "stream_of" cj)(d18:Df K mg "grown" f8)(d19:Df K mg "empty_ladder" bz)(d20:Df K mg "thing_ladder" bB)(d21:Df K mg "added_ladder" bC)(d22:Df K mg "merged_ladder" aZ)(d23:Df K mg "ladder_of" ce)(a24:W.nsIn K mainGlobals "grown_ladder"=some (some (.ref f24)))(l24:K.lookup f24=some ⟨oc24,od24,.func (W.fnOf "grown_ladder" "grown_ladder" (aB ah) (aA ah) (aa ah) .none kV24 dc24 pm24 an24 (.ref c_0) ct24),sl24⟩)(c24:W.codeIn K (.ref c_0) "grown_ladder"=true)(k24:W.keepIn K (.ref f24)=true)(d25:Df K mg "things_in" cw)(d26:Df K mg "merged_with_folds" aH)(d27:Df K mg "stream_with_folds" aW)(a28:W.nsIn K mainGlobals "ladder_paper"=some (some (.ref f28)))(l28:K.lookup f28=some ⟨oc28,od28,.func (W.fnOf "ladder_paper" "ladder_paper" (aB ai) (aA ai) (aa ai) .none kV28 dc28 pm28 an28 (.ref c_1) ct28),sl28⟩)(c28:W.codeIn K (.ref c_1) "ladder_paper"=true)(k28:W.keepIn K (.ref f28)=true)(d29:Df K mg "standing_of" bO)(d30:Df K mg "is_folded" cx)(d31:Df K mg "folds_towards" bi)(d32:Df K mg "paper_for" cb)(d33:Df K mg "lowest_places" bj)(d34:Df K mg "highest_places" bc)(d35:Df K mg "fits" jr)(d36:Df K mg "stream_at" b9)(d37:Df K mg "lowest" eg)(d38:Df K mg "highest" dm)(d39:Df K mg "_law_pen" fU)(d40:Df K mg "_law_draw" dX)(d41:Df K mg "_law_word" dY)(d42:Df K mg "_law_many" eC)(d43:Df K mg "_law_thing" du)(d44:Df K mg "_law_stream" cR)(d45:Df K mg "_law_tree" cX)(d46:Df K mg "_law_room" eG)(d47:Df K mg "_law_at_leaves" bJ)(d48:Df K mg "_law_fits" eA)(d49:Df K mg "_law_shows" dt)(d50:Df K mg "_law_right" dB)(d51:Df K mg "_law_tree_shown" bG)(d52:Df K mg "_law_other" dG)(a53:W.nsIn K mainGlobals "law"=some (some (.ref f53)))(l53:K.lookup f53=some ⟨oc53,od53,.func (W.fnOf "law" "law" (aB c7) (aA c7) (aa c7) .none kV53 dc53 pm53 an53 cd53 ct53),sl53⟩)(c53:W.codeIn K cd53 "law"=true)(k53:W.keepIn K (.ref f53)=true)(bI:mg "len"=none)(am:mg "isinstance"=none)(aK:mg "range"=none)(a9:mg "list"=none)(a8:mg "sorted"=none)(bw:mg "tuple"=none)(aJ:mg "dict"=none)(ei:mg "sum"=none)(c5:mg "int"=none)(cS:mg "bool"=none)(nA:mg "all"=none)(hcT0:W.codeHdIn K c_0 T0=true)(hgP0:mainGlobals≠T0)(hcT1:W.codeHdIn K c_1 T1=true)(hgP1:mainGlobals≠T1)(hne01:T0≠T1)
  :∃fd:FuncData,(∀(s:Shared)(v:Value),BindsTo s fd ⟨[v],[]⟩ [("_law_script",v)])∧∀base:Heap,K.In base→base.Ns mainGlobals mg→(∀U∈([(c_0,T0),(c_1,T1)]:List (Addr×Addr)).map (·.2),base.BuiltinsAt mg U)→FnOk l.prog w K mg base CX0 20 fa fd ["_law_script"] (j1 K T0 T1):=by
 have e:=hfa.symm.trans (W.mg_of X G a53);cases e;obtain⟨f18,v18,F18,m18⟩:=d18.ex;have b18:Binds K _ ["tree","of_stream","of_two"] []:=F18.b3 fun _ _ _ _ _ _ _ _ _=>rfl;obtain⟨f22,v22,F22,m22⟩:=d22.ex;have F24:=fX (st:=ah) l24 c24 k24;have m24:=W.mg_of X G a24;have b24:Binds K _ ["room","deep","tree"] []:=F24.b3 fun _ _ _ _ _ _ _ _ _=>rfl;obtain⟨f26,v26,F26,m26⟩:=d26.ex;have F28:=fX (st:=ai) l28 c28 k28;have m28:=W.mg_of X G a28;have b28:Binds K _ ["room","deep","tree"] []:=F28.b3 fun _ _ _ _ _ _ _ _ _=>rfl;obtain⟨f45,v45,F45,m45⟩:=d45.ex;have b45:Binds K _ ["_law_pen_here","_law_marks","_law_deep","_law_most","_law_parts"] []:=F45.b5 fun _ _ _ _ _ _ _ _ _ _ _=>rfl;have F53:=fX (st:=c7) l53 c53 k53;refine⟨W.fnOf "law" "law" (aB c7) (aA c7) (aa c7) .none kV53 dc53 pm53 an53 cd53 ct53,fun s v=>.of_eq rfl,fun base kb nb hBt=>?_⟩;have xp:=d39.h2 (fun F=>ve (P:=l.prog) (w:=w) (mg:=mg) (base:=base) F bI) (by intros;rfl);have cO:=d40.h2 (qj (P:=l.prog) (w:=w) (mg:=mg) (base:=base)) (by intros;rfl);have vx:=d41.h2 (qy (P:=l.prog) (w:=w) (mg:=mg) (base:=base)) (by intros;rfl);have uL:=d42.h1 (qu cO) (by intros;rfl);have su:=d43.h3 (pJ cO vx uL) (by intros;rfl);have mV:=d44.h4 (lM cO su aK) (by intros;rfl);have vB:=kI cO mV F45 b45 m45 4;have ui:=d46.h1 (qe cO) (by intros;rfl);have H_stl:∀base:Heap,K.In base→base.Ns mainGlobals mg→Has l.prog w K mg base "settling_of" 4 ["ladder"] gr:=fun base _ _=>(d13.h1 (uH aJ a8 bw (d9.h1 (uy (base:=base)) (by intros;rfl)) (d11.h3 (wf a8 (d10.h2 (nX (d7.h1 (jV (base:=base)) (by intros;rfl)) (d6.h1 (R4 (base:=base)) (by intros;rfl))) (by intros;rfl))) (by intros;rfl)) (d7.h1 (jV (base:=base)) (by intros;rfl)) (d12.h3 (sq (d6.h1 (R4 (base:=base)) (by intros;rfl))) (by intros;rfl))) (by intros;rfl));have H_al:∀base:Heap,K.In base→base.Ns mainGlobals mg→Has l.prog w K mg base "added_ladder" 2 ["one","other"] qR:=fun base _ _=>(d21.h2 (vX a8 bw (d3.h2 (wJ (base:=base) aJ) (by intros;rfl))) (by intros;rfl));have H_set:∀base:Heap,K.In base→base.Ns mainGlobals mg→Has l.prog w K mg base "settled" 5 ["ladder"] jO:=fun base kb nb=>(d14.h1 (tX (H_stl base kb nb)) (by intros;rfl));have H_ml:∀base:Heap,K.In base→base.Ns mainGlobals mg→Has l.prog w K mg base "merged_ladder" 6 ["one","other"] mZ:=fun base kb nb=>(d22.h2 (xm (H_al base kb nb) (H_set base kb nb)) (by intros;rfl));have H_lo:∀base:Heap,K.In base→base.Ns mainGlobals mg→Has l.prog w K mg base "ladder_of" 7 ["room","deep","stream"] vm:=fun base kb nb=>(d23.h3 (wX (d19.h2 (sy (base:=base)) (by intros;rfl)) (H_ml base kb nb) (H_set base kb nb) (d20.h3 (sZ (d5.h1 (Nf (d4.h1 (Qr (base:=base)) (by intros;rfl))) (by intros;rfl))) (by intros;rfl))) (by intros;rfl));have H_mf:∀base:Heap,K.In base→base.Ns mainGlobals mg→Has l.prog w K mg base "merged_with_folds" 5 ["one","other"] nJ:=fun base kb nb=>(d26.h2 (wY (H_stl base kb nb) (H_al base kb nb)) (by intros;rfl));have H_sf:∀base:Heap,K.In base→base.Ns mainGlobals mg→Has l.prog w K mg base "stream_with_folds" 6 ["room","deep","stream"] uU:=fun base kb nb=>(d27.h3 (wP (d19.h2 (sy (base:=base)) (by intros;rfl)) (H_mf base kb nb) (H_stl base kb nb) (d20.h3 (sZ (d5.h1 (Nf (d4.h1 (Qr (base:=base)) (by intros;rfl))) (by intros;rfl))) (by intros;rfl))) (by intros;rfl));have H_st:∀base:Heap,K.In base→base.Ns mainGlobals mg→Has l.prog w K mg base "steps_in" 1 ["tree"] dU:=fun base _ _=>d15.h1 (og (base:=base) am a9 bI) (by intros;rfl);have H_gr:HasB l.prog w K mg "grown" 9 ["tree","of_stream","of_two"] (dS l.prog w K mg 8):=⟨_,_,fun base kb nb=>nh (k:=8) (by decide) (H_st base kb nb) F18,b18,F18.kp,m18⟩;have h_gl:=Has.of (vK (T:=T0) l24 c24 (W.codeHd_of_K kb hcT0) hgP0 (hBt T0 (.head _)) H_gr H_lo H_ml m22 F22) b24 F24.kp m24;have h_lp:=Has.of (wd (T:=T1) l28 c28 (W.codeHd_of_K kb hcT1) hgP1 (hBt T1 (.tail _ (.head _))) H_gr H_sf H_mf m26 F26) b28 F28.kp m28;have h_si:=d16.h1 (Pl a9 (H_st base kb nb)) (by intros;rfl);have wM:=d17.h1 (Nd h_si) (by intros;rfl);have ku:=d4.h1 (Qr (P:=l.prog) (w:=w) (mg:=mg) (base:=base)) (by intros;rfl);have oj:=d5.h1 (Nf ku) (by intros;rfl);have vH:=d33.h1 (qQ ku) (by intros;rfl);have qY:=d34.h1 (oD oj) (by intros;rfl);have wz:=d36.h1 (we (P:=l.prog) (w:=w) (mg:=mg) (base:=base)) (by intros;rfl);have h_lo:=d37.h1 (lz wz vH) (by intros;rfl);have h_hi:=d38.h1 (jg wz qY) (by intros;rfl);have h1:=d0.h1 (ii (P:=l.prog) (w:=w) (mg:=mg) (base:=base) am c5 cS) (by intros;rfl);have h2:=d1.h2 (R5 h1) (by intros;rfl);have h3:=d2.h3 (Tg h2) (by intros;rfl);have h6:=d6.h1 (R4 (P:=l.prog) (w:=w) (mg:=mg) (base:=base)) (by intros;rfl);have h7:=d12.h3 (oq h6) (by intros;rfl);have h8:=d3.h2 (rU (P:=l.prog) (w:=w) (mg:=mg) (base:=base) aJ) (by intros;rfl);have h9:=d25.h1 (t7 (P:=l.prog) (w:=w) (mg:=mg) (base:=base) ei) (by intros;rfl);have h10:=d29.h1 (uE h8) (by intros;rfl);have h11:=d8.h2 (Pm am bw bI h3 oj) (by intros;rfl);have h12:=d30.h3 (lE nA aJ h10 h9 h11 h7) (by intros;rfl);have h13:=d31.h2 (vv aJ aK h10 h6 h8) (by intros;rfl);have h14:=d32.h2 (v7 h13 h12) (by intros;rfl);have h15:=d35.h2 (qC h14) (by intros;rfl);have s_:=d47.h1 (uC (P:=l.prog) (w:=w) (mg:=mg) (base:=base)) (by intros;rfl);have vL:=d49.h3 (uk aJ s_) (by intros;rfl);have wK:=d48.h2 (uZ ei aK s_) (by intros;rfl);have xw:=d50.h2 (uw am cS a9 wK h14 h15 vL h12) (by intros;rfl);have wx:=d52.h3 (uO a9 aK bI c5 cO) (by intros;rfl);have h_ts:=d51.h4 (v_ h_lp wM h12) (by intros;rfl);exact uq hne01 xp cO ui vB wM h_gl h_ts h_lo h_hi xw h14 wx aK c5 F53
theorem walk{l:W.OpenLaw}{q:Program}{loose:List Str}{XP:(Str→Option Value)→Heap→Prop}{YP:World→Heap→Prop}{d:DefRec}{K:Params→W.Frag}{c_0 T0 c_1 T1:Addr}(hn:l.most=some 63)(hdf:d.params.defaults=[])(hY:∀(w:World) (h:Heap),YP w h→(K w.params).In h)(hT:∀(w:World) (mg mb:Str→Option Value) (loose':List Str) (mean:ExcName→Option Value) (h:Heap),PyProof.Rows.Top q loose' mean mg mb h→(K w.params).In h→W.TabsAt [(c_0,T0),(c_1,T1)] h)(hKT0:∀(w:World),(K w.params).lookup T0=none)(hKT1:∀(w:World),(K w.params).lookup T1=none)(F:∀(w:World) (mg:Str→Option Value) (fa:Addr) (h:Heap),(K w.params).In h→h.Ns mainGlobals mg→mg d.name=some (.ref fa)→
   ∃fd:FuncData,(∀(s:Shared) (u:Value),BindsTo s fd ⟨[u],[]⟩ [("_law_script",u)])∧∀base:Heap,(K w.params).In base→base.Ns mainGlobals mg→(∀U∈([(c_0,T0),(c_1,T1)]:List (Addr×Addr)).map (·.2),base.BuiltinsAt mg U)→FnOk l.prog w (K w.params) mg base CX0 20 fa fd ["_law_script"] (j1 (K w.params) T0 T1)):
  W.WalkO q loose XP YP l.row.toRowW d [] (fun f vs=>PySem.call f vs):=
 L2.walk_T (n:=63) (k:=20) (x:="_law_script") (tabs:=[(c_0,T0),(c_1,T1)]) (sp:=fun w=>j1 (K w.params) T0 T1) hn (by decide) hdf ⟨rfl,by decide,by decide⟩ hY hT (fun w U h=>by
  have h:U∈[T0,T1]:=h;simp only[List.mem_cons,List.not_mem_nil,or_false]at h
  rcases h with h | h
  ·rw[h];exact hKT0 w
  ·rw[h];exact hKT1 w
  ) F (fun _ _ a ns hl hS hTT=>⟨a,ns,rfl,hS,hl,⟨.inl (hTT T0 (.head _))⟩,⟨.inl (hTT T1 (.tail _ (.head _)))⟩,fun _=>rfl⟩)
end K34
def PySem.W.Fast.tw18224517177106311695:PySem.Program:=PySem.Challenge.pw_sumshare_k34_whole_papers_where_it_fits
theorem PySem.W.Fast.te18224517177106311695:PySem.Challenge.pw_sumshare_k34_whole_papers_where_it_fits=PySem.W.Fast.tw18224517177106311695:=rfl
def K34.qv:PySem.Program:=PySem.W.view PySem.Challenge.pw_sumshare_k34_whole_papers_where_it_fits [1,2,3,4,6,7,8,10,11,12,13,14,16,17,18,19,20,21,23,24,25,26,28,29,30,31,32,33,35,37,38,39,40,41,42,43,45,46,48,49,50,51,53,54,55,56,57,58,59,60,61,62,63,64,65,66,67]
open PySem PySem.W PyProof.Rows
local macro_rules | `(tactic| o_head $H)=>`(tactic| (refine holds_open (q:=K34.qv) (loose:=[]) (Xt:=fun s=>xlAt K34.qv [] s && recOk [] s) (XP:=XL K34.qv []) (Yf:=Hook.obs $H) (Ya:=Hook.val $H) (YP:=Hook.says $H) (N:=1000000) ?hl (Hook.of $H) (Hook.keeps $H) (fun s e=>xl_of s (Bool.and_eq_true_iff.mp e).1) XL.keeps (by rfl) (by rfl) (by rfl) (fun s e=>recFacts_of (Bool.and_eq_true_iff.mp e).2) (by rfl) (by first | assumption | decide +kernel) (by decide +kernel) ⟨rfl,rfl,rfl,rfl,rfl,by decide +kernel⟩ ?hw ?hc;(case hl=>exact Hd.leftM (p:=PySem.Challenge.pw_sumshare_k34_whole_papers_where_it_fits) rfl (fun _=>rfl) (fun w os=>by kernel_rfl) (fun w os=>by kernel_rfl) rfl fun w os=>by kernel_rfl)))
set_option maxRecDepth 100000 in
set_option maxHeartbeats 0 in
theorem PySem.Challenge.cw_sumshare_k34_whole_papers_where_it_fits_holds : PySem.Challenge.rw_sumshare_k34_whole_papers_where_it_fits.Holds := by
 w_on;o_law;k_head;(case hw=>w_witness2)
 k_fill
 refine K34.walk (l:=PySem.Challenge.rw_sumshare_k34_whole_papers_where_it_fits) (c_0:=223) (T0:=219) (c_1:=249) (T1:=245) rfl rfl (fun w h Y=>PySem.W.km_in_of Y) (fun w mg mb lo mean h TT X=>List.forall_mem_cons.mpr ⟨PySem.W.tab_of (x:=PySem.Str.ofString "grown_ladder") (c:=223) (P:=219) TT X rfl (by kernel_rfl),List.forall_mem_cons.mpr ⟨PySem.W.tab_of (x:=PySem.Str.ofString "ladder_paper") (c:=249) (P:=245) TT X rfl (by kernel_rfl),fun _ h=>nomatch h⟩⟩) (fun w=>by kernel_rfl) (fun w=>by kernel_rfl) ?F
 case F=>
  intro w mg fa h KX G hmg
  refine' K34.all_mk (c_0:=223) (T0:=219) (c_1:=249) (T1:=245) KX G hmg (L2.df_mk KX G ?_ ?_ ?_ ?_) (L2.df_mk KX G ?_ ?_ ?_ ?_) (L2.df_mk KX G ?_ ?_ ?_ ?_) (L2.df_mk KX G ?_ ?_ ?_ ?_) (L2.df_mk KX G ?_ ?_ ?_ ?_) (L2.df_mk KX G ?_ ?_ ?_ ?_) (L2.df_mk KX G ?_ ?_ ?_ ?_) (L2.df_mk KX G ?_ ?_ ?_ ?_) (L2.df_mk KX G ?_ ?_ ?_ ?_) (L2.df_mk KX G ?_ ?_ ?_ ?_) (L2.df_mk KX G ?_ ?_ ?_ ?_) (L2.df_mk KX G ?_ ?_ ?_ ?_) (L2.df_mk KX G ?_ ?_ ?_ ?_) (L2.df_mk KX G ?_ ?_ ?_ ?_) (L2.df_mk KX G ?_ ?_ ?_ ?_) (L2.df_mk KX G ?_ ?_ ?_ ?_) (L2.df_mk KX G ?_ ?_ ?_ ?_) (L2.df_mk KX G ?_ ?_ ?_ ?_) (L2.df_mk KX G ?_ ?_ ?_ ?_) (L2.df_mk KX G ?_ ?_ ?_ ?_) (L2.df_mk KX G ?_ ?_ ?_ ?_) (L2.df_mk KX G ?_ ?_ ?_ ?_) (L2.df_mk KX G ?_ ?_ ?_ ?_) (L2.df_mk KX G ?_ ?_ ?_ ?_) ?a24 ?l24 ?c24 ?k24 (L2.df_mk KX G ?_ ?_ ?_ ?_) (L2.df_mk KX G ?_ ?_ ?_ ?_) (L2.df_mk KX G ?_ ?_ ?_ ?_) ?a28 ?l28 ?c28 ?k28 (L2.df_mk KX G ?_ ?_ ?_ ?_) (L2.df_mk KX G ?_ ?_ ?_ ?_) (L2.df_mk KX G ?_ ?_ ?_ ?_) (L2.df_mk KX G ?_ ?_ ?_ ?_) (L2.df_mk KX G ?_ ?_ ?_ ?_) (L2.df_mk KX G ?_ ?_ ?_ ?_) (L2.df_mk KX G ?_ ?_ ?_ ?_) (L2.df_mk KX G ?_ ?_ ?_ ?_) (L2.df_mk KX G ?_ ?_ ?_ ?_) (L2.df_mk KX G ?_ ?_ ?_ ?_) (L2.df_mk KX G ?_ ?_ ?_ ?_) (L2.df_mk KX G ?_ ?_ ?_ ?_) (L2.df_mk KX G ?_ ?_ ?_ ?_) (L2.df_mk KX G ?_ ?_ ?_ ?_) (L2.df_mk KX G ?_ ?_ ?_ ?_) (L2.df_mk KX G ?_ ?_ ?_ ?_) (L2.df_mk KX G ?_ ?_ ?_ ?_) (L2.df_mk KX G ?_ ?_ ?_ ?_) (L2.df_mk KX G ?_ ?_ ?_ ?_) (L2.df_mk KX G ?_ ?_ ?_ ?_) (L2.df_mk KX G ?_ ?_ ?_ ?_) (L2.df_mk KX G ?_ ?_ ?_ ?_) (L2.df_mk KX G ?_ ?_ ?_ ?_) (L2.df_mk KX G ?_ ?_ ?_ ?_) ?a53 ?l53 ?c53 ?k53 (yG KX G ?_) (yG KX G ?_) (yG KX G ?_) (yG KX G ?_) (yG KX G ?_) (yG KX G ?_) (yG KX G ?_) (yG KX G ?_) (yG KX G ?_) (yG KX G ?_) (yG KX G ?_) ?hcT0 ?hgP0 ?hcT1 ?hgP1 ?hne01
  (case a24=>k_is);(case l24=>k_is);(case c24=>k_is);(case k24=>k_is)
  (case a28=>k_is);(case l28=>k_is);(case c28=>k_is);(case k28=>k_is)
  (case a53=>k_is);(case l53=>k_is);(case c53=>k_is);(case k53=>k_is)
  (case hcT0=>kernel_rfl);(case hgP0=>decide)
  (case hcT1=>kernel_rfl);(case hgP1=>decide)
  (case hne01=>decide)
  any_goals k_is
