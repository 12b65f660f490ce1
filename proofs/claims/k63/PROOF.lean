import PyProof.Rows.All
import Wide.All
import OpenK.AllK
import Wide.FinOn
import Lean
import PyProof.EqAt
import PyProof.EqKinds
import PyProof.TupleCall
import PySem.Challenge.RW_sumshare_k63_whole_nothing_narrower_by_t
set_option Elab.async false
set_option linter.all false
set_option maxRecDepth 100000
noncomputable section
set_option maxHeartbeats 4000000
set_option bootstrap.genMatcherCode false
set_option genInjectivity false
section
open PySem PySem.Spec PyProof.Rows
theorem aa:type_of%@PySem.wpAny_bind:=@PySem.wpAny_bind
theorem ae.{u0,u1}:type_of%@List.length_map.{u0,u1}:=@List.length_map.{u0,u1}
theorem af:type_of%@PySem.Heap.get?_push_of_some:=@PySem.Heap.get?_push_of_some
theorem aq:type_of%@PySem.wpAny_pure:=@PySem.wpAny_pure
theorem az:type_of%@PySem.Heap.lt_size:=@PySem.Heap.lt_size
theorem ba.{u0}:type_of%@List.length_append.{u0}:=@List.length_append.{u0}
theorem bb:type_of%@of_decide_eq_true:=@of_decide_eq_true
theorem ca.{u0,u1}:type_of%@List.map_append.{u0,u1}:=@List.map_append.{u0,u1}
theorem io:type_of%@Nat.le_refl:=@Nat.le_refl
theorem pi:type_of%@PySem.Heap.get?_push_size:=@PySem.Heap.get?_push_size
theorem zy:type_of%@decide_eq_true:=@decide_eq_true
theorem Ab.{u0,u1}:type_of%@List.mem_map.{u0,u1}:=@List.mem_map.{u0,u1}
theorem Ac:type_of%@Nat.ne_of_lt:=@Nat.ne_of_lt
theorem Ad.{u0}:type_of%@List.getElem?_eq_some_iff.{u0}:=@List.getElem?_eq_some_iff.{u0}
theorem Ae.{u0}:type_of%@List.mem_cons.{u0}:=@List.mem_cons.{u0}
theorem Af.{u0}:type_of%@List.mem_singleton.{u0}:=@List.mem_singleton.{u0}
theorem Ag:type_of%@decide_eq_false:=@decide_eq_false
theorem Ah.{u0}:type_of%@if_pos.{u0}:=@if_pos.{u0}
theorem Ai.{u0}:type_of%@List.mem_of_getElem?.{u0}:=@List.mem_of_getElem?.{u0}
theorem Aj.{u0}:type_of%@if_neg.{u0}:=@if_neg.{u0}
theorem Ak.{u0}:type_of%@List.getElem?_eq_getElem.{u0}:=@List.getElem?_eq_getElem.{u0}
theorem Al:type_of%@Bool.false_ne_true:=@Bool.false_ne_true
theorem Am.{u0}:type_of%@List.length_take.{u0}:=@List.length_take.{u0}
theorem An.{u0,u1}:type_of%@Option.map_eq_some_iff.{u0,u1}:=@Option.map_eq_some_iff.{u0,u1}
theorem Ao.{u0}:type_of%@List.mem_append_right.{u0}:=@List.mem_append_right.{u0}
theorem Ap.{u0}:type_of%@List.length_filter_le.{u0}:=@List.length_filter_le.{u0}
theorem Aq.{u0}:type_of%@List.pairwise_cons.{u0}:=@List.pairwise_cons.{u0}
theorem Ar.{u0,u1}:type_of%@List.getElem?_map.{u0,u1}:=@List.getElem?_map.{u0,u1}
theorem As.{u0}:type_of%@List.filter_cons.{u0}:=@List.filter_cons.{u0}
theorem At.{u0}:type_of%@List.take_length.{u0}:=@List.take_length.{u0}
theorem Au.{u0}:type_of%@List.mem_cons_self.{u0}:=@List.mem_cons_self.{u0}
theorem Av:type_of%@Nat.lt_of_lt_of_le:=@Nat.lt_of_lt_of_le
theorem Aw.{u0}:type_of%@Array.getElem?_eq_getElem.{u0}:=@Array.getElem?_eq_getElem.{u0}
theorem Ax.{u0}:type_of%@Array.length_toList.{u0}:=@Array.length_toList.{u0}
theorem Ay:type_of%@Bool.and_eq_true_iff:=@Bool.and_eq_true_iff
theorem Az.{u0}:type_of%@List.mem_cons_of_mem.{u0}:=@List.mem_cons_of_mem.{u0}
theorem AA.{u0,u1}:type_of%@List.map_cons.{u0,u1}:=@List.map_cons.{u0,u1}
theorem AB.{u0,u1,u2}:type_of%@List.map_map.{u0,u1,u2}:=@List.map_map.{u0,u1,u2}
theorem AC.{u0}:type_of%@List.nodup_cons.{u0}:=@List.nodup_cons.{u0}
theorem AD.{u0}:type_of%@List.length_cons.{u0}:=@List.length_cons.{u0}
theorem AE.{u0}:type_of%@List.length_replicate.{u0}:=@List.length_replicate.{u0}
theorem AF:type_of%@Nat.ne_of_gt:=@Nat.ne_of_gt
theorem AG.{u0}:type_of%@List.size_toArray.{u0}:=@List.size_toArray.{u0}
theorem AH.{u0}:type_of%@List.mem_filter.{u0}:=@List.mem_filter.{u0}
theorem AI.{u0}:type_of%@List.mem_append.{u0}:=@List.mem_append.{u0}
theorem AJ.{u0}:type_of%@List.filter_append.{u0}:=@List.filter_append.{u0}
theorem AK.{u0}:type_of%@Option.some.inj.{u0}:=@Option.some.inj.{u0}
theorem AL:type_of%@PySem.mem_of_lookup:=@PySem.mem_of_lookup
theorem AM:type_of%@PyProof.Rows.boot_isinstance:=@PyProof.Rows.boot_isinstance
theorem AN.{u0}:type_of%@List.append_nil.{u0}:=@List.append_nil.{u0}
theorem AO:type_of%@Bool.eq_false_iff:=@Bool.eq_false_iff
theorem AQ.{u0}:type_of%@List.nodup_nil.{u0}:=@List.nodup_nil.{u0}
theorem AR:type_of%@PySem.F.plainAttrs_list:=@PySem.F.plainAttrs_list
theorem AS:type_of%@PySem.wpAny_holding:=@PySem.wpAny_holding
theorem AT:type_of%@PySem.W.mg_none_of:=@PySem.W.mg_none_of
theorem AU:type_of%@Nat.le_trans:=@Nat.le_trans
theorem AV:type_of%@PySem.PassesOwn.never:=@PySem.PassesOwn.never
theorem AW:type_of%@PySem.Heap.get?_update_other:=@PySem.Heap.get?_update_other
theorem AX:type_of%@Bool.and_eq_true:=@Bool.and_eq_true
theorem AY:type_of%@PySem.wpAny_call_entry:=@PySem.wpAny_call_entry
theorem AZ:type_of%@PySem.wpAny_field:=@PySem.wpAny_field
theorem A0.{u0}:type_of%@List.eq_nil_of_length_eq_zero.{u0}:=@List.eq_nil_of_length_eq_zero.{u0}
theorem A1:type_of%@PyProof.Rows.boot_tuple:=@PyProof.Rows.boot_tuple
theorem A2.{u0}:type_of%@List.sum_cons.{u0}:=@List.sum_cons.{u0}
theorem A3.{u0}:type_of%@List.all_eq_true.{u0}:=@List.all_eq_true.{u0}
theorem A4:type_of%@PySem.Around.under_plainId:=@PySem.Around.under_plainId
theorem A5:type_of%@PySem.wpAny_mono:=@PySem.wpAny_mono
theorem A6.{u0}:type_of%@Array.getElem?_toList.{u0}:=@Array.getElem?_toList.{u0}
theorem A7:type_of%@PySem.wpAny_callSpecial?_slot:=@PySem.wpAny_callSpecial?_slot
theorem A8:type_of%@Nat.le_add_right:=@Nat.le_add_right
theorem A9:type_of%@PySem.boot_len:=@PySem.boot_len
theorem Ba:type_of%@List.length_range:=@List.length_range
theorem Bb:type_of%@PySem.wpAny_seqItems:=@PySem.wpAny_seqItems
theorem Bc:type_of%@Nat.zero_le:=@Nat.zero_le
theorem Bd:type_of%@PySem.F.slot_zip_next:=@PySem.F.slot_zip_next
theorem Be:type_of%@PyProof.Rows.callWith_type1:=@PyProof.Rows.callWith_type1
theorem Bf:type_of%@PySem.wpAny_newObj_type:=@PySem.wpAny_newObj_type
theorem Bg.{u0}:type_of%@List.nodup_append.{u0}:=@List.nodup_append.{u0}
theorem Bh.{u0}:type_of%@List.mem_append_left.{u0}:=@List.mem_append_left.{u0}
theorem Bi.{u0,u1}:type_of%@List.mem_filterMap.{u0,u1}:=@List.mem_filterMap.{u0,u1}
theorem Bj:type_of%@PySem.codeAny_builtin:=@PySem.codeAny_builtin
theorem Bk.{u0}:type_of%@List.sum_append.{u0}:=@List.sum_append.{u0}
theorem Bl:type_of%@Nat.lt_trans:=@Nat.lt_trans
theorem Bm.{u0,u1}:type_of%@congrArg.{u0,u1}:=@congrArg.{u0,u1}
theorem Bo:type_of%@PySem.F.plain_extend_loop:=@PySem.F.plain_extend_loop
theorem Bp.{u0}:type_of%@List.append_assoc.{u0}:=@List.append_assoc.{u0}
theorem Bq:type_of%@PySem.Heap.get?_update_self:=@PySem.Heap.get?_update_self
theorem Br.{u0}:type_of%@List.mem_iff_getElem?.{u0}:=@List.mem_iff_getElem?.{u0}
theorem Bs:type_of%@PyProof.Rows.boot_all:=@PyProof.Rows.boot_all
theorem Bt:type_of%@PySem.Heap.size_push:=@PySem.Heap.size_push
theorem Bu:type_of%@PySem.F.slot_list_append:=@PySem.F.slot_list_append
theorem Bv:type_of%@PySem.F.type_list_append:=@PySem.F.type_list_append
theorem Bw:type_of%@PySem.wpAny_Call_Name_kw:=@PySem.wpAny_Call_Name_kw
theorem Bx.{u0}:type_of%@List.length_drop.{u0}:=@List.length_drop.{u0}
theorem By:type_of%@Int.le_refl:=@Int.le_refl
theorem Bz.{u0}:type_of%@List.mem_of_mem_take.{u0}:=@List.mem_of_mem_take.{u0}
theorem BA:type_of%@Nat.lt_irrefl:=@Nat.lt_irrefl
theorem BB:type_of%@Nat.le_of_lt:=@Nat.le_of_lt
theorem BC:type_of%@Bool.false_and:=@Bool.false_and
theorem BD:type_of%@Nat.lt_succ_of_lt:=@Nat.lt_succ_of_lt
theorem BE.{u0}:type_of%@List.getD_eq_getElem?_getD.{u0}:=@List.getD_eq_getElem?_getD.{u0}
theorem BF:type_of%@Int.add_zero:=@Int.add_zero
theorem BG.{u0}:type_of%@Array.getElem?_eq_none.{u0}:=@Array.getElem?_eq_none.{u0}
theorem BH.{u0}:type_of%@List.take_of_length_le.{u0}:=@List.take_of_length_le.{u0}
theorem BI:type_of%@PySem.F.slot_tuple_iterator_next:=@PySem.F.slot_tuple_iterator_next
theorem BJ.{u0}:type_of%@List.filter_sublist.{u0}:=@List.filter_sublist.{u0}
theorem BK.{u0}:type_of%@List.filter_eq_self.{u0}:=@List.filter_eq_self.{u0}
theorem BL:type_of%@PyProof.Rows.slot_tuple_getitem:=@PyProof.Rows.slot_tuple_getitem
theorem BN.{u0,u1}:type_of%@List.lookup_cons.{u0,u1}:=@List.lookup_cons.{u0,u1}
theorem BO:type_of%@Int.emod_lt_of_pos:=@Int.emod_lt_of_pos
theorem BP:type_of%@Int.zero_add:=@Int.zero_add
theorem BQ:type_of%@PyProof.Rows.boot_sorted:=@PyProof.Rows.boot_sorted
theorem BR:type_of%@Int.mul_le_mul_of_nonneg_left:=@Int.mul_le_mul_of_nonneg_left
theorem BS.{u0}:type_of%@List.length_nil.{u0}:=@List.length_nil.{u0}
theorem BU.{u0,u1}:type_of%@List.filterMap_cons.{u0,u1}:=@List.filterMap_cons.{u0,u1}
theorem BV:type_of%@PySem.plainId_quiet:=@PySem.plainId_quiet
theorem BW.{u0}:type_of%@List.perm_ext_iff_of_nodup.{u0}:=@List.perm_ext_iff_of_nodup.{u0}
theorem BX:type_of%@Int.mul_nonneg:=@Int.mul_nonneg
theorem BY:type_of%@of_decide_eq_false:=@of_decide_eq_false
theorem BZ.{u0}:type_of%@Option.ne_none_iff_exists'.{u0}:=@Option.ne_none_iff_exists'.{u0}
theorem B0.{u0,u1}:type_of%@List.getElem?_zip_eq_some.{u0,u1}:=@List.getElem?_zip_eq_some.{u0,u1}
theorem B3:type_of%@PySem.wpAny_passesOwn:=@PySem.wpAny_passesOwn
theorem B4:type_of%@Int.emod_nonneg:=@Int.emod_nonneg
theorem B5:type_of%@PySem.wpAny_truthy_bool:=@PySem.wpAny_truthy_bool
theorem B6:type_of%@PySem.codeAny_mono:=@PySem.codeAny_mono
theorem B7.{u0}:type_of%@List.mem_iff_getElem.{u0}:=@List.mem_iff_getElem.{u0}
theorem B8:type_of%@PySem.wpAny_setState_of:=@PySem.wpAny_setState_of
theorem B9.{u0}:type_of%@List.replicate_succ'.{u0}:=@List.replicate_succ'.{u0}
theorem Ca.{u0,u1}:type_of%@List.foldl_append.{u0,u1}:=@List.foldl_append.{u0,u1}
theorem Cb.{u0}:type_of%@Option.isSome_iff_exists.{u0}:=@Option.isSome_iff_exists.{u0}
theorem Cc:type_of%@Bool.true_and:=@Bool.true_and
theorem Cd:type_of%@PySem.F.slot_dict_values:=@PySem.F.slot_dict_values
theorem Ce.{u0}:type_of%@beq_eq_false_iff_ne.{u0}:=@beq_eq_false_iff_ne.{u0}
theorem Cf.{u0,u1}:type_of%@List.map_congr_left.{u0,u1}:=@List.map_congr_left.{u0,u1}
theorem Cg:type_of%@PySem.F.plain_list_iadd:=@PySem.F.plain_list_iadd
theorem Ci.{u0}:type_of%@List.pairwise_singleton.{u0}:=@List.pairwise_singleton.{u0}
theorem Cj:type_of%@Int.eq_ofNat_of_zero_le:=@Int.eq_ofNat_of_zero_le
theorem Ck:type_of%@PySem.F.args_zip_next_1:=@PySem.F.args_zip_next_1
theorem Cm.{u0,u1,u2}:type_of%@List.filterMap_map.{u0,u1,u2}:=@List.filterMap_map.{u0,u1,u2}
theorem Cn:type_of%@PySem.wpAny_typeOf:=@PySem.wpAny_typeOf
theorem Co:type_of%@PySem.Calls.callWith_builtin:=@PySem.Calls.callWith_builtin
theorem Cp:type_of%@PyProof.Rows.boot_dict:=@PyProof.Rows.boot_dict
theorem Cq:type_of%@PySem.F.entry_zip_next:=@PySem.F.entry_zip_next
theorem Cr:type_of%@PySem.wpAny_execs_nil:=@PySem.wpAny_execs_nil
theorem Cs:type_of%@PySem.Paired.length:=@PySem.Paired.length
theorem Ct:type_of%@PySem.W.kia_one:=@PySem.W.kia_one
theorem Cu.{u0}:type_of%@List.length_singleton.{u0}:=@List.length_singleton.{u0}
theorem Cv.{u0}:type_of%@List.getElem?_eq_none.{u0}:=@List.getElem?_eq_none.{u0}
theorem Cw:type_of%@PyProof.Rows.boot_sum:=@PyProof.Rows.boot_sum
theorem Cy:type_of%@PySem.F.slot_list_pop:=@PySem.F.slot_list_pop
theorem Cz:type_of%@PySem.F.type_list_pop:=@PySem.F.type_list_pop
theorem CA.{u0,u1}:type_of%@List.filterMap_append.{u0,u1}:=@List.filterMap_append.{u0,u1}
theorem CB.{u0}:type_of%@List.take_sublist.{u0}:=@List.take_sublist.{u0}
theorem CC:type_of%@PySem.Calls.evalArgs_plain:=@PySem.Calls.evalArgs_plain
theorem CD.{u0}:type_of%@List.Perm.refl.{u0}:=@List.Perm.refl.{u0}
theorem CF.{u0}:type_of%@List.any_eq_true.{u0}:=@List.any_eq_true.{u0}
theorem CG:type_of%@PySem.wpAny_pyIter_zip:=@PySem.wpAny_pyIter_zip
theorem CH:type_of%@PySem.wpAny_isInstance:=@PySem.wpAny_isInstance
theorem CI.{u0,u1}:type_of%@Prod.ext.{u0,u1}:=@Prod.ext.{u0,u1}
theorem CJ.{u0}:type_of%@List.all_cons.{u0}:=@List.all_cons.{u0}
theorem CK:type_of%@Bool.eq_iff_iff:=@Bool.eq_iff_iff
theorem CL.{u0,u1}:type_of%@List.of_mem_zip.{u0,u1}:=@List.of_mem_zip.{u0,u1}
theorem CN:type_of%@Nat.min_eq_left:=@Nat.min_eq_left
theorem CO:type_of%@PySem.wpAny_rule:=@PySem.wpAny_rule
theorem CP:type_of%@Int.mul_add:=@Int.mul_add
theorem CQ.{u0,u1}:type_of%@List.map_nil.{u0,u1}:=@List.map_nil.{u0,u1}
theorem CS:type_of%@Bool.and_false:=@Bool.and_false
theorem CT:type_of%@List.mem_range:=@List.mem_range
theorem CU:type_of%@PySem.wpAny_load:=@PySem.wpAny_load
theorem CV.{u0,u1}:type_of%@Sum.inr.inj.{u0,u1}:=@Sum.inr.inj.{u0,u1}
theorem CW:type_of%@Int.one_mul:=@Int.one_mul
theorem CY:type_of%@Int.add_mul:=@Int.add_mul
end
namespace L2
open PySem
def defArgs(s:Stmt):Arguments:=match s with
 |.FunctionDef _ a _ _ _ _ _ _ _ _=>a
 |_=>{posonlyargs:=[],args:=[],vararg:=none,kwonlyargs:=[],kw_defaults:=[],kwarg:=none,defaults:=[]}
def defBody(s:Stmt):List Stmt:=match s with
 |.FunctionDef _ _ b _ _ _ _ _ _ _=>b
 |_=>[]
def defScope(s:Stmt):Scope:=match s with
 |.FunctionDef _ _ _ _ _ _ sc _ _ _=>sc
 |_=>{kind:=.function,names:=[],isGenerator:=false,isCoroutine:=false}
end L2
namespace Hd
open PySem PySem.W
section
variable{α β:Type}
def fN(n:Nat)(k:Nat→α):α:=Nat.casesOn n (k 0) fun m=>k (Nat.succ m)
theorem Tk(n:Nat)(k:Nat→α):fN n k=k n:=by cases n <;> rfl
def fV(v:Value)(k:Value→α):α:=match v with
 |.ref a=>fN a fun a=>k (.ref a)
 |.str s t=>fN t fun t=>k (.str s t)
 |.int i t=>fN t fun t=>k (.int i t)
 |v=>k v
theorem Ro(v:Value)(k:Value→α):fV v k=k v:=by cases v <;> simp only[fV,Tk]
def fO(f:β→(β→α)→α)(o:Option β)(k:Option β→α):α:=match o with
 |none=>k none
 |some x=>f x fun x=>k (some x)
theorem nA{f:β→(β→α)→α}(hf:∀x k,f x k=k x)(o:Option β)(k:Option β→α):fO f o k=k o:=by cases o <;> simp only[fO,hf]
def fL(f:β→(β→α)→α)(l:List β):(List β→α)→α:=
 @List.rec β (fun _=>(List β→α)→α) (fun k=>k []) (fun x _ ih k=>f x fun x=>ih fun r=>k (x::r)) l
theorem v8{f:β→(β→α)→α}(hf:∀x k,f x k=k x)(l:List β):∀k:List β→α,fL f l k=k l:=by
 induction l with
 |nil=>intro k;rfl
 |cons x r ih=>
  intro k;show f x (fun x=>fL f r fun r=>k (x::r))=_;rw[hf,ih]
def fA(f:β→(β→α)→α)(l:Array β)(k:Array β→α):α:=match l with
 |⟨l⟩=>fL f l fun l=>k ⟨l⟩
theorem m6{f:β→(β→α)→α}(hf:∀x k,f x k=k x)(l:Array β)(k:Array β→α):fA f l k=k l:=by
 cases l;simp only[fA,v8 hf]
def fE(e:DictEntry)(k:DictEntry→α):α:=match e with
 |⟨h,a,b⟩=>fV a fun a=>fV b fun b=>k ⟨h,a,b⟩
theorem yF(e:DictEntry)(k:DictEntry→α):fE e k=k e:=by cases e;simp only[fE,Ro]
def fF(e:FuncData)(k:FuncData→α):α:=match e with
 |⟨a,b,c,d,e,g,cl,df,kd,dc,pm,an,cd,ct,bl⟩=>fN g fun g=>fV df fun df=>fV kd fun kd=>fV dc fun dc=>fV pm fun pm=>fO fN an fun an=>fV cd fun cd=>fV ct fun ct=>fN bl fun bl=>k ⟨a,b,c,d,e,g,cl,df,kd,dc,pm,an,cd,ct,bl⟩
theorem yI(e:FuncData)(k:FuncData→α):fF e k=k e:=by cases e;simp only[fF,Ro,Tk,nA Tk]
def fC(e:ClassData)(k:ClassData→α):α:=match e with
 |⟨a,b,c,d,e,f,g,h,i,j,l⟩=>fL fV b fun b=>fL fV c fun c=>fN d fun d=>fL fV h fun h=>k ⟨a,b,c,d,e,f,g,h,i,j,l⟩
theorem zA(e:ClassData)(k:ClassData→α):fC e k=k e:=by cases e;simp only[fC,v8 Ro,Tk]
def fD(d:Data)(k:Data→α):α:=match d with
 |.seq xs n=>fA fV xs fun xs=>fN n fun n=>k (.seq xs n)
 |.dict xs n=>fA fE xs fun xs=>fN n fun n=>k (.dict xs n)
 |.fields xs=>fA fV xs fun xs=>k (.fields xs)
 |.cell v=>fO fV v fun v=>k (.cell v)
 |.prim v=>fV v fun v=>k (.prim v)
 |.func f=>fF f fun f=>k (.func f)
 |.cls f=>fC f fun f=>k (.cls f)
 |d=>k d
theorem zU(d:Data)(k:Data→α):fD d k=k d:=by cases d <;> simp only[fD,m6 Ro,m6 yF,Tk,nA Ro,Ro,yI,zA]
def fJ(o:Obj)(k:Obj→α):α:=match o with
 |⟨c,d,x,s⟩=>fV c fun c=>fO fN d fun d=>fD x fun x=>fA (fO fV) s fun s=>k ⟨c,d,x,s⟩
theorem wa(o:Obj)(k:Obj→α):fJ o k=k o:=by cases o;simp only[fJ,Ro,nA Tk,zU,m6 (nA Ro)]
def fB(t:BT):(BT→α)→α:=
 @BT.rec (fun _=>(BT→α)→α) (fun k=>k .nil) (fun v _ _ il ir k=>fJ v fun v=>il fun l=>ir fun r=>k (.node v l r)) t
theorem yU(t:BT):∀k:BT→α,fB t k=k t:=by
 induction t with
 |nil=>intro k;rfl
 |node v l r il ir=>
  intro k;show fJ v (fun v=>fB l fun l=>fB r fun r=>k (.node v l r))=_;rw[wa,il,ir]
def fR(d:Drawn)(k:Drawn→α):α:=match d with
 |⟨a,b,c,d⟩=>fN a fun a=>fN b fun b=>fN c fun c=>fN d fun d=>k ⟨a,b,c,d⟩
theorem vT(d:Drawn)(k:Drawn→α):fR d k=k d:=by cases d;simp only[fR,Tk]
def fS(s:SharedT)(k:SharedT→α):α:=match s with
 |⟨t,n,life,g,d,tk,os⟩=>fB t fun t=>fN n fun n=>fR d fun d=>fN tk fun tk=>k ⟨t,n,life,g,d,tk,os⟩
theorem Nh(s:SharedT)(k:SharedT→α):fS s k=k s:=by cases s;simp only[fS,yU,Tk,vT]
def fP(d:Pos)(k:Pos→α):α:=match d with
 |⟨a,b,c,d⟩=>fN a fun a=>fN b fun b=>fN c fun c=>fN d fun d=>k ⟨a,b,c,d⟩
theorem rW(d:Pos)(k:Pos→α):fP d k=k d:=by cases d;simp only[fP,Tk]
def fH(s:Shared)(k:Shared→α):α:=match s with
 |⟨⟨l,life⟩,g,d,tk,os⟩=>fA fJ l fun l=>fR d fun d=>fN tk fun tk=>k ⟨⟨l,life⟩,g,d,tk,os⟩
theorem wb(s:Shared)(k:Shared→α):fH s k=k s:=by obtain⟨⟨l,life⟩,g,d,tk,os⟩:=s;simp only[fH,m6 wa,Tk,vT]
end
section
variable{α:Type}
def hd(tb:String→Option Builtin)(p:Program)(w:World)(m:Nat)(ann:Option Value)(env:Env)(q:Pos)(F:Nat)(fin:SharedT→Code→Pos→Option α)(l:List Stmt):SharedT→Code→Pos→Option α:=
 @List.rec Stmt (fun _=>SharedT→Code→Pos→Option α) fin (fun st _ ih s c pos=>match segRunT tb p w m ann 1 F s (pieceOf st env c pos [topFrame q]) with
  |some (.next,s',c',p')=>fS s' fun s'=>fP p' fun p'=>ih s' c' p'
  |_=>none) l
theorem t7{tb:String→Option Builtin}{p:Program}{w:World}{m:Nat}{ann:Option Value}{env:Env}{q:Pos}{F:Nat}{fin:SharedT→Code→Pos→Option α}{st:Stmt}{l:List Stmt}{s:SharedT}{c:Code}{pos:Pos}{r:α}(h:hd tb p w m ann env q F fin (st::l) s c pos=some r):∃s' c' p',segRunT tb p w m ann 1 F s (pieceOf st env c pos [topFrame q])=some (.next,s',c',p')∧hd tb p w m ann env q F fin l s' c' p'=some r:=by
 have h:(match segRunT tb p w m ann 1 F s (pieceOf st env c pos [topFrame q]) with
  |some (.next,s',c',p')=>fS s' fun s'=>fP p' fun p'=>hd tb p w m ann env q F fin l s' c' p'
  |_=>none)=some r:=h
 split at h
 ·rename_i s' c' p' e;rw[Nh,rW]at h;exact⟨s',c',p',e,h⟩
 ·cases h
theorem xx{tb:String→Option Builtin}{p:Program}{w:World}{n₀:Nat}{ann:Option Value}{env:Env}{q:Pos}{n N:Nat}{s s' r:Shared}{st:Stmt}{rest:List Stmt}{c c':Code}{pos p':Pos}(h:segRun tb p w n₀ ann 1 n s (pieceOf st env c pos [topFrame q])=some (.next,s',c',p'))(k:topRun tb p w n₀ ann N s' (restOf rest env c' p' [topFrame q])=some r):topRun tb p w n₀ ann (n+N) s (restOf (st::rest) env c pos [topFrame q])=some r:=by
 obtain⟨a,ha,hN⟩:=seg_top (res:=id) (K':=fun f=>match f with | .next=>(execs rest env).wrap doneF (leaveH env) id id | f=>doneF f) (H':=leaveH env) (B:=[topFrame q]) rfl n s (pieceOf st env c pos [topFrame q])
  ⟨(exec st env).wrap (fun f=>match f with | .next=>(execs rest env).wrap doneF (leaveH env) id id | f=>doneF f) (leaveH env) id id,c,pos,[topFrame q]⟩ _ _ _ _ ⟨rfl,rfl,.inl ⟨rfl,rfl,_,rfl,rfl⟩⟩ h
 obtain rfl:a=.next:=ha;have:=hN N r k;unfold restOf;rw[execs_cons_wrap];exact this
theorem qP{tb:String→Option Builtin}{p:Program}{w:World}{m:Nat}{ann:Option Value}{env:Env}{q:Pos}{F:Nat}{fin:SharedT→Code→Pos→Option α}{r:α}:∀(l:List Stmt)(s:SharedT)(c:Code)(pos:Pos),hd tb p w m ann env q F fin l s c pos=some r→
  ∃s' c' p',fin s' c' p'=some r∧∀N z,topRun tb p w m ann N s'.abs (restOf [] env c' p' [topFrame q])=some z→topRun tb p w m ann (l.length*F+N) s.abs (restOf l env c pos [topFrame q])=some z
 | [],s,c,pos,h=>⟨s,c,pos,h,fun N z hz=>by rw[BS,Nat.zero_mul,Nat.zero_add];exact hz⟩
 |st::l,s,c,pos,h=>by
  obtain⟨s',c',p',e,h⟩:=t7 h;obtain⟨s2,c2,p2,hf,hN⟩:=qP l s' c' p' h;refine⟨s2,c2,p2,hf,fun N z hz=>?_⟩;have:=xx (segRun_of e) (hN N z hz);rw[AD,Nat.succ_mul,show l.length*F+F+N=F+(l.length*F+N) by omega];exact this
def iz{γ:Type}(tb:String→Option Builtin)(p:Program)(w:World)(m:Nat)(ann:Option Value)(env:Env)(q:Pos)(look:Shared→γ)(s:SharedT)(c:Code)(pos:Pos):Option γ:=
 match topRun tb p w m ann 50 s.abs (restOf [] env c pos [topFrame q]) with
 |some r=>fH r fun r=>some (look r)
 |none=>none
def ofL(l:List Obj):Nat→BT→BT:=@List.rec Obj (fun _=>Nat→BT→BT) (fun _ t=>t) (fun o _ ih i t=>ih (Nat.succ i) (t.ins i o)) l
def toT(s:Shared):SharedT:=match s with
 |⟨⟨⟨l⟩,life⟩,g,d,tk,os⟩=>⟨ofL l 0 .nil,l.length,life,g,d,tk,os⟩
def pre(p:Program)(w:World)(os:OsState):Option (Shared×Thread):=topGo treeTable p w 11 (some (.ref 6)) 12 ⟨boot_heap w.params,⟨[]⟩,boot_drawn,boot_toks,os⟩ (topStub p)
def zp:Pos:=⟨0,0,0,0⟩
def tK(p:Program):Env:={scope:=p.main.scope,locals:=mainNs,globals:=mainNs,cells:=[],code:=.ref 13,frame:=some 14}
def sa(p:Program)(w:World)(os:OsState):Shared:=match pre p w os with
 |some (s,_)=>s
 |none=>⟨{},#[],{},0,os⟩
def hc(p:Program):Code:=.body (behindTheImports p) (tK p)
def blk(p:Program)(w:World)(os:OsState):Option (Flow×Shared×Code×Pos):=segRun treeTable p w 11 (some (.ref 6)) 1 1 (sa p w os) (blockOf (behindTheImports p) (tK p) (hc p) zp [topFrame zp])
def chk{γ:Type}(p:Program)(look:Shared→γ)(w:World)(os:OsState):Option γ:=
 fS (toT (sa p w os)) fun s=>hd treeTable p w 11 (some (.ref 6)) (tK p) zp 600 (iz treeTable p w 11 (some (.ref 6)) (tK p) zp look) (behindTheImports p) s (hc p) zp
end
theorem vD{p q:Program}{loose:List Str}{Xt:Shared→Bool}{α:Type}{Yf:Shared→α}{Ya:World→α}(e:opening p=plainProg p.main.scope.names)(f:∀s,fenceModules? p s=some s)(hpre:∀(w:World) (os:OsState),pre p w os=some (sa p w os,⟨denote treeTable (hc p),hc p,zp,[topFrame zp]⟩))(hblk:∀(w:World) (os:OsState),blk p w os=some (.next,(toT (sa p w os)).abs,hc p,zp))(size:∀w:World,((boot_heap w.params).isNs mainGlobals && (Array.mk ([]:List GenState)).size==0,(boot_heap w.params).objs.size,(boot_heap w.params).nsMap mainGlobals "__annotations__")=(true,11,some (.ref 6)))(len:Nat.ble (behindTheImports p).length 1600=true)(hchk:∀(w:World) (os:OsState),chk p (fun s=>((staticsOk (importedModules p.main.body) (boot_heap w.params) s.heap && namesBound p s.heap && gensDone s && laidKept (boot_heap w.params) s.heap),openSeen q loose (importedModules p.main.body) Xt true s,Yf s)) w os=some (true,openGood q loose,Ya w)):
  LeftO p q loose Xt Yf Ya 1000000 true:=fun w=>by
 obtain⟨⟨h,gs,d,k,os⟩,e1,e'⟩:=An.mp (boot_open (p:=p) (N:=1000000) e rfl f w);obtain⟨rfl,rfl,rfl,rfl⟩:h=boot_heap w.params∧gs=⟨[]⟩∧d=boot_drawn∧k=boot_toks:=by simpa using e'
 obtain⟨z1,z2,z3⟩:_∧_∧_:=by simpa only[Prod.mk.injEq] using size w
 have hc1:=hchk w os;unfold chk at hc1;rw[Nh]at hc1;obtain⟨s2,c2,p2,hf,hN⟩:=qP _ _ _ _ hc1;unfold iz at hf
 split at hf
 case h_2=>cases hf
 rename_i r hr;rw[wb]at hf;obtain⟨l1,l2,l3⟩:_∧_∧_:=by simpa only[Option.some.injEq,Prod.mk.injEq] using hf
 have a1:=hN _ _ hr;have a2:=piece_block (hblk w os) a1;have a3:=go_top (hpre w os) a2;have le:12+(1+((behindTheImports p).length*600+50))≤1000000:=by
  have:=Nat.le_of_ble_eq_true len;omega
 have a4:=topRun_mono (1000000-(12+(1+((behindTheImports p).length*600+50)))) _ _ _ _ a3;rw[show 12+(1+((behindTheImports p).length*600+50))+(1000000-(12+(1+((behindTheImports p).length*600+50))))=1000000 by omega]at a4;have t:topFrom treeTable p w 1000000 ⟨boot_heap w.params,⟨[]⟩,boot_drawn,boot_toks,os⟩=some r:=by
  unfold topFrom;dsimp only;rw[z1,z2,z3,a4];show(match staticsOk (importedModules p.main.body) (boot_heap w.params) r.heap && namesBound p r.heap && gensDone r && laidKept (boot_heap w.params) r.heap with | true=>_ | false=>_)=_;rw[l1]
 unfold openEnds;rw[e1];show(topFrom treeTable p w 1000000 _).map _=_;rw[t];exact Bm some (CI l2 l3)
theorem yp{γ:Type}{tb:String→Option Builtin}{p:Program}{w:World}{m:Nat}{ann:Option Value}{env:Env}{q:Pos}{F:Nat}{look:Shared→γ}:∀(l:List Stmt)(s:SharedT)(c:Code)(pos:Pos),hd tb p w m ann env q F (iz tb p w m ann env q look) l s c pos=(hd tb p w m ann env q F (iz tb p w m ann env q id) l s c pos).map look:=by
 intro l
 induction l with
 |nil=>
  intro s c pos;show iz tb p w m ann env q look s c pos=(iz tb p w m ann env q id s c pos).map look;unfold iz;cases topRun tb p w m ann 50 s.abs (restOf [] env c pos [topFrame q]) with
  |none=>rfl
  |some r=>simp only[wb];rfl
 |cons st l ih=>
  intro s c pos;show(match segRunT tb p w m ann 1 F s (pieceOf st env c pos [topFrame q]) with
   |some (.next,s',c',p')=>fS s' fun s'=>fP p' fun p'=>hd tb p w m ann env q F (iz tb p w m ann env q look) l s' c' p'
   |_=>none)=(match segRunT tb p w m ann 1 F s (pieceOf st env c pos [topFrame q]) with
   |some (.next,s',c',p')=>fS s' fun s'=>fP p' fun p'=>hd tb p w m ann env q F (iz tb p w m ann env q id) l s' c' p'
   |_=>none).map look
  split
  ·rw[Nh,rW,Nh,rW];exact ih _ _ _
  ·rfl
theorem uF{γ:Type}(p:Program)(look:Shared→γ)(w:World)(os:OsState):chk p look w os=(chk p id w os).map look:=by
 unfold chk;rw[Nh,Nh];exact yp _ _ _ _
def oS(p q:Program)(s:Shared):=openSeen q [] (importedModules p.main.body) (fun s=>xlAt q [] s && recOk [] s) true s
def c1(p q:Program)(w:World)(os:OsState):=chk p (fun s=>((staticsOk (importedModules p.main.body) (boot_heap w.params) s.heap && namesBound p s.heap && gensDone s && laidKept (boot_heap w.params) s.heap),(oS p q s).1,(oS p q s).2.1,(oS p q s).2.2.1,(oS p q s).2.2.2.1)) w os
def c2(p q:Program)(w:World)(os:OsState):=chk p (fun s=>((oS p q s).2.2.2.2.1,(oS p q s).2.2.2.2.2.1)) w os
def c3(p q:Program)(w:World)(os:OsState):=chk p (fun s=>(oS p q s).2.2.2.2.2.2) w os
def c4(p:Program)(as ts:List Addr)(w:World)(os:OsState):=chk p (fun s=>(as.map s.heap.get?,ts.map s.heap.get?)) w os
def g1(q:Program):=(true,(openGood q []).1,(openGood q []).2.1,(openGood q []).2.2.1,(openGood q []).2.2.2.1)
def g2(q:Program):=((openGood q []).2.2.2.2.1,(openGood q []).2.2.2.2.2.1)
def g3(q:Program):=(openGood q []).2.2.2.2.2.2
theorem c1_:@c1=@c1:=rfl
theorem c2_:@c2=@c2:=rfl
theorem c3_:@c3=@c3:=rfl
theorem c4_:@c4=@c4:=rfl
theorem g1_:@g1=@g1:=rfl
theorem g2_:@g2=@g2:=rfl
theorem g3_:@g3=@g3:=rfl
end Hd
def PySem.W.Fast.tw14598715356260435866:PySem.Params→PySem.Obj:=PySem.W.boot_o_0
theorem PySem.W.Fast.te14598715356260435866:PySem.W.boot_o_0=PySem.W.Fast.tw14598715356260435866:=rfl
lay_quick Hd.c1 Hd.c2 Hd.c3 Hd.c4 Hd.g1 Hd.g2 Hd.g3
name_quick c1Q for Hd.c1 by Hd.c1_
name_quick c2Q for Hd.c2 by Hd.c2_
name_quick c3Q for Hd.c3 by Hd.c3_
name_quick c4Q for Hd.c4 by Hd.c4_
name_quick g1Q for Hd.g1 by Hd.g1_
name_quick g2Q for Hd.g2 by Hd.g2_
name_quick g3Q for Hd.g3 by Hd.g3_
namespace Hd
open PySem PySem.W
theorem hS(w:World):((boot_heap w.params).isNs mainGlobals && (Array.mk ([]:List GenState)).size==0,(boot_heap w.params).objs.size,(boot_heap w.params).nsMap mainGlobals "__annotations__")=(true,11,some (.ref 6)):=by kernel_rfl
theorem leftM{p q:Program}(e:opening p=plainProg p.main.scope.names)(f:∀s,fenceModules? p s=some s)(hpre:∀(w:World) (os:OsState),pre p w os=some (sa p w os,⟨denote treeTable (hc p),hc p,zp,[topFrame zp]⟩))(hblk:∀(w:World) (os:OsState),blk p w os=some (.next,(toT (sa p w os)).abs,hc p,zp))(len:Nat.ble (behindTheImports p).length 1600=true)(h1:∀(w:World) (os:OsState),W.Fast.c1Q p q w os=some (W.Fast.g1Q q))(h2:∀(w:World) (os:OsState),W.Fast.c2Q p q w os=some (W.Fast.g2Q q))(h3:∀(w:World) (os:OsState),W.Fast.c3Q p q w os=some (W.Fast.g3Q q)){K:Params→Frag}{as:List Addr}{ek:∀P,as=(K P).map (·.1)}{ts:List Addr}(h:∀(w:World) (os:OsState),W.Fast.c4Q p as ts w os=some (((K w.params).map fun p=>some p.2),ts.map fun _=>some (tabObj #[]))):
  LeftO p q [] (fun s=>xlAt q [] s && recOk [] s) (Hook.obs (kmHook K as ek ts)) (Hook.val (kmHook K as ek ts)) 1000000 true:=
 vD e f hpre hblk hS len fun w os=>by
  have a1:=h1 w os;have a2:=h2 w os;have a3:=h3 w os;have a4:=h w os;rw[←W.Fast.c1Q_eq,←W.Fast.g1Q_eq]at a1;rw[←W.Fast.c2Q_eq,←W.Fast.g2Q_eq]at a2;rw[←W.Fast.c3Q_eq,←W.Fast.g3Q_eq]at a3;rw[←W.Fast.c4Q_eq]at a4;unfold c1 g1 at a1;unfold c2 g2 at a2;unfold c3 g3 at a3;unfold c4 at a4;rw[uF]at a1 a2 a3 a4⊢;obtain⟨r,hr,e1⟩:=An.mp a1;rw[hr]at a2 a3 a4⊢;have e2:=AK a2;have e3:=AK a3;have e4:=AK a4;obtain⟨b0,b1,b2,b3,b4⟩:_∧_∧_∧_∧_:=by simpa only[Prod.mk.injEq] using e1
  obtain⟨b5,b6⟩:_∧_:=by simpa only[Prod.mk.injEq] using e2
  exact Bm some (CI b0 (CI (CI b1 (CI b2 (CI b3 (CI b4 (CI b5 (CI b6 e3)))))) e4))
end Hd
namespace L2
open PySem
structure DfE(K:W.Frag)(x:Str)(st:Stmt):Prop where
 ex:∃(f:Addr)(oc:Value)(od an:Option Addr)(osl:Array (Option Value))(kV doc pm cdv ct:Value),W.nsIn K mainGlobals x=some (some (.ref f))∧K.lookup f=some ⟨oc,od,.func (W.fnOf x x (defArgs st) (defBody st) (defScope st) .none kV doc pm an cdv ct),osl⟩∧W.codeIn K cdv x=true∧W.keepIn K (.ref f)=true
theorem dfe_mk{K:W.Frag}{x:Str}{st:Stmt}{f:Addr}{oc:Value}{od an:Option Addr}{osl:Array (Option Value)}{kV doc pm cdv ct:Value}(a:W.nsIn K mainGlobals x=some (some (.ref f)))(l:K.lookup f=some ⟨oc,od,.func (W.fnOf x x (defArgs st) (defBody st) (defScope st) .none kV doc pm an cdv ct),osl⟩)(c:W.codeIn K cdv x=true)(k:W.keepIn K (.ref f)=true):DfE K x st:=⟨f,oc,od,an,osl,kV,doc,pm,cdv,ct,a,l,c,k⟩
def tpE(i:Nat):Stmt:=PySem.Challenge.pw_sumshare_k63_whole_nothing_narrower_by_t.main.body.getD i (.Pass ⟨0,0,0,0⟩)
end L2
def PySem.W.Fast.tw5567967373115427646:PySem.Program:=PySem.Challenge.pw_sumshare_k63_whole_nothing_narrower_by_t
theorem PySem.W.Fast.te5567967373115427646:PySem.Challenge.pw_sumshare_k63_whole_nothing_narrower_by_t=PySem.W.Fast.tw5567967373115427646:=rfl
def Hd.qv:PySem.Program:=PySem.W.view PySem.Challenge.pw_sumshare_k63_whole_nothing_narrower_by_t [1,2,3,4,6,8,10,11,12,13,14,15,16,17,18,19,20,21,23,24,25,26,28,29,30,31,32,33,34,35,36,37,39,40,42,43,44,45,46,47,48,49,50,52,53,54,55,56,57,58,59,60,62,63,64,65,66,67,68,69,70,71,72,73,74,75,76,77]
open PySem PySem.W PyProof.Rows
set_option maxRecDepth 100000 in
theorem Hd.k1:∀(w:World)(os:OsState),W.Fast.c1Q PySem.Challenge.pw_sumshare_k63_whole_nothing_narrower_by_t Hd.qv w os=some (W.Fast.g1Q Hd.qv):=fun w os=>by kernel_rfl
set_option maxRecDepth 100000 in
theorem Hd.k2:∀(w:World)(os:OsState),W.Fast.c2Q PySem.Challenge.pw_sumshare_k63_whole_nothing_narrower_by_t Hd.qv w os=some (W.Fast.g2Q Hd.qv):=fun w os=>by kernel_rfl
set_option maxRecDepth 100000 in
theorem Hd.k3:∀(w:World)(os:OsState),W.Fast.c3Q PySem.Challenge.pw_sumshare_k63_whole_nothing_narrower_by_t Hd.qv w os=some (W.Fast.g3Q Hd.qv):=fun w os=>by kernel_rfl
set_option maxRecDepth 100000 in
theorem Hd.k4:∀(w:World)(os:OsState),Hd.pre PySem.Challenge.pw_sumshare_k63_whole_nothing_narrower_by_t w os=some (Hd.sa PySem.Challenge.pw_sumshare_k63_whole_nothing_narrower_by_t w os,⟨denote treeTable (Hd.hc PySem.Challenge.pw_sumshare_k63_whole_nothing_narrower_by_t),Hd.hc PySem.Challenge.pw_sumshare_k63_whole_nothing_narrower_by_t,Hd.zp,[topFrame Hd.zp]⟩):=fun w os=>by kernel_rfl
set_option maxRecDepth 100000 in
theorem Hd.k5:∀(w:World)(os:OsState),Hd.blk PySem.Challenge.pw_sumshare_k63_whole_nothing_narrower_by_t w os=some (.next,(Hd.toT (Hd.sa PySem.Challenge.pw_sumshare_k63_whole_nothing_narrower_by_t w os)).abs,Hd.hc PySem.Challenge.pw_sumshare_k63_whole_nothing_narrower_by_t,Hd.zp):=fun w os=>by kernel_rfl
local macro_rules | `(tactic| o_head $H)=>`(tactic| (refine holds_open (q:=Hd.qv) (loose:=[]) (Xt:=fun s=>xlAt Hd.qv [] s && recOk [] s) (XP:=XL Hd.qv []) (Yf:=Hook.obs $H) (Ya:=Hook.val $H) (YP:=Hook.says $H) (N:=1000000) ?hl (Hook.of $H) (Hook.keeps $H) (fun s e=>xl_of s (Bool.and_eq_true_iff.mp e).1) XL.keeps (by rfl) (by rfl) (by rfl) (fun s e=>recFacts_of (Bool.and_eq_true_iff.mp e).2) (by rfl) (by first | assumption | decide +kernel) (by decide +kernel) ⟨rfl,rfl,rfl,rfl,rfl,by decide +kernel⟩ ?hw ?hc;(case hl=>exact Hd.leftM (p:=PySem.Challenge.pw_sumshare_k63_whole_nothing_narrower_by_t) rfl (fun _=>rfl) Hd.k4 Hd.k5 rfl Hd.k1 Hd.k2 Hd.k3 fun w os=>by kernel_rfl)))
set_option maxRecDepth 100000 in
set_option maxHeartbeats 0 in
theorem Hd.early(Φ:PySem.World→PySem.W.Frag→(PySem.Str→Option PySem.Value)→PySem.Addr→Prop)(W:∀{q:PySem.Program} {loose:List PySem.Str} {XP:(PySem.Str→Option PySem.Value)→PySem.Heap→Prop} {YP:PySem.World→PySem.Heap→Prop} {d:PySem.DefRec} {K:PySem.Params→PySem.W.Frag},PySem.Challenge.rw_sumshare_k63_whole_nothing_narrower_by_t.most=some 63→d.params.defaults=[]→(∀(w:PySem.World) (h:PySem.Heap),YP w h→(K w.params).In h)→
   (∀(w:PySem.World) (mg mb:PySem.Str→Option PySem.Value) (loose':List PySem.Str) (mean:PySem.ExcName→Option PySem.Value) (h:PySem.Heap),PyProof.Rows.Top q loose' mean mg mb h→(K w.params).In h→PySem.W.TabsAt [(197,193),(259,255)] h)→(∀(w:PySem.World),(K w.params).lookup 193=none)→(∀(w:PySem.World),(K w.params).lookup 255=none)→
   (∀(w:PySem.World) (mg:PySem.Str→Option PySem.Value) (fa:PySem.Addr) (h:PySem.Heap),(K w.params).In h→h.Ns PySem.mainGlobals mg→mg d.name=some (.ref fa)→Φ w (K w.params) mg fa)→PySem.W.WalkO q loose XP YP PySem.Challenge.rw_sumshare_k63_whole_nothing_narrower_by_t.row.toRowW d [] (fun f vs=>PySem.call f vs))(M:∀{w:PySem.World} {K:PySem.W.Frag} {h:PySem.Heap} {mg:PySem.Str→Option PySem.Value} {fa f20 f30 f60:PySem.Addr}
   {od20 an20 od30 an30 od60 an60:Option PySem.Addr} {sl20 sl30 sl60:Array (Option PySem.Value)} {oc20 kV20 dc20 pm20 ct20 oc30 kV30 dc30 pm30 ct30 oc60 kV60 dc60 pm60 ct60 cd60:PySem.Value} {cw aW bJ:PySem.Value} {c_TooCoarse:PySem.Addr} {od_C:Option PySem.Addr} {cdt_C:PySem.ClassData} {sl_C:Array (Option PySem.Value)} (_:K.In h) (_:h.Ns PySem.mainGlobals mg) (_:mg (PySem.Str.ofString "law")=some (.ref fa))
   (_:L2.DfE K (PySem.Str.ofString "frequent") (L2.tpE 6))
   (_:L2.DfE K (PySem.Str.ofString "cut_of") (L2.tpE 8))
   (_:L2.DfE K (PySem.Str.ofString "is_whole") (L2.tpE 13))
   (_:L2.DfE K (PySem.Str.ofString "is_whole_from") (L2.tpE 14))
   (_:L2.DfE K (PySem.Str.ofString "is_whole_within") (L2.tpE 15))
   (_:L2.DfE K (PySem.Str.ofString "is_mark") (L2.tpE 16))
   (_:L2.DfE K (PySem.Str.ofString "is_rising") (L2.tpE 17))
   (_:L2.DfE K (PySem.Str.ofString "is_room") (L2.tpE 18))
   (_:L2.DfE K (PySem.Str.ofString "is_count") (L2.tpE 19))
   (_:L2.DfE K (PySem.Str.ofString "are_counts") (L2.tpE 20))
   (_:L2.DfE K (PySem.Str.ofString "added_counts") (L2.tpE 21))
   (_:L2.DfE K (PySem.Str.ofString "steps_in") (L2.tpE 23))
   (_:L2.DfE K (PySem.Str.ofString "streams_in") (L2.tpE 24))
   (_:L2.DfE K (PySem.Str.ofString "stream_of") (L2.tpE 25))
   (_:L2.DfE K (PySem.Str.ofString "grown") (L2.tpE 26))
   (_:L2.DfE K (PySem.Str.ofString "empty_tally") (L2.tpE 28))
   (_:L2.DfE K (PySem.Str.ofString "thing_tally") (L2.tpE 29))
   (_:L2.DfE K (PySem.Str.ofString "added_sums") (L2.tpE 30))
   (_:L2.DfE K (PySem.Str.ofString "merged_tally") (L2.tpE 31))
   (_:L2.DfE K (PySem.Str.ofString "tally_of") (L2.tpE 32))
   (_:PySem.W.nsIn K PySem.mainGlobals (PySem.Str.ofString "grown_tally")=some (some (.ref f20))) (_:K.lookup f20=some ⟨oc20,od20,.func (PySem.W.fnOf (PySem.Str.ofString "grown_tally") (PySem.Str.ofString "grown_tally") (L2.defArgs (L2.tpE 33)) (L2.defBody (L2.tpE 33)) (L2.defScope (L2.tpE 33)) .none kV20 dc20 pm20 an20 (.ref 197) ct20),sl20⟩) (_:PySem.W.codeIn K (.ref 197) (PySem.Str.ofString "grown_tally")=true) (_:PySem.W.keepIn K (.ref f20)=true)
   (_:L2.DfE K (PySem.Str.ofString "count_in") (L2.tpE 34))
   (_:L2.DfE K (PySem.Str.ofString "bounds_of") (L2.tpE 35))
   (_:L2.DfE K (PySem.Str.ofString "uncounted_in") (L2.tpE 36))
   (_:L2.DfE K (PySem.Str.ofString "is_made_as_tally") (L2.tpE 37))
   (_:L2.DfE K (PySem.Str.ofString "things_in") (L2.tpE 39))
   (_:L2.DfE K (PySem.Str.ofString "times_of") (L2.tpE 40))
   (_:L2.DfE K (PySem.Str.ofString "bunches_of") (L2.tpE 42))
   (_:L2.DfE K (PySem.Str.ofString "merged_with_paper") (L2.tpE 43))
   (_:L2.DfE K (PySem.Str.ofString "stream_with_paper") (L2.tpE 44))
   (_:PySem.W.nsIn K PySem.mainGlobals (PySem.Str.ofString "tally_paper")=some (some (.ref f30))) (_:K.lookup f30=some ⟨oc30,od30,.func (PySem.W.fnOf (PySem.Str.ofString "tally_paper") (PySem.Str.ofString "tally_paper") (L2.defArgs (L2.tpE 45)) (L2.defBody (L2.tpE 45)) (L2.defScope (L2.tpE 45)) .none kV30 dc30 pm30 an30 (.ref 259) ct30),sl30⟩) (_:PySem.W.codeIn K (.ref 259) (PySem.Str.ofString "tally_paper")=true) (_:PySem.W.keepIn K (.ref f30)=true)
   (_:L2.DfE K (PySem.Str.ofString "is_bunch") (L2.tpE 46))
   (_:L2.DfE K (PySem.Str.ofString "is_paper") (L2.tpE 47))
   (_:L2.DfE K (PySem.Str.ofString "times_in") (L2.tpE 48))
   (_:L2.DfE K (PySem.Str.ofString "times_told") (L2.tpE 49))
   (_:L2.DfE K (PySem.Str.ofString "is_shown") (L2.tpE 50))
   (_:L2.DfE K (PySem.Str.ofString "word_at") (L2.tpE 52))
   (_:L2.DfE K (PySem.Str.ofString "spare_marks") (L2.tpE 53))
   (_:L2.DfE K (PySem.Str.ofString "let_go") (L2.tpE 54))
   (_:L2.DfE K (PySem.Str.ofString "plain_stream") (L2.tpE 55))
   (_:L2.DfE K (PySem.Str.ofString "tree_by_one_cut") (L2.tpE 56))
   (_:L2.DfE K (PySem.Str.ofString "without") (L2.tpE 57))
   (_:L2.DfE K (PySem.Str.ofString "least_tree") (L2.tpE 58))
   (_:L2.DfE K (PySem.Str.ofString "most_tree") (L2.tpE 59))
   (_:L2.DfE K (PySem.Str.ofString "trees_for") (L2.tpE 60))
   (_:L2.DfE K (PySem.Str.ofString "_law_pen") (L2.tpE 62))
   (_:L2.DfE K (PySem.Str.ofString "_law_draw") (L2.tpE 63))
   (_:L2.DfE K (PySem.Str.ofString "_law_word") (L2.tpE 64))
   (_:L2.DfE K (PySem.Str.ofString "_law_many") (L2.tpE 65))
   (_:L2.DfE K (PySem.Str.ofString "_law_thing") (L2.tpE 66))
   (_:L2.DfE K (PySem.Str.ofString "_law_stream") (L2.tpE 67))
   (_:L2.DfE K (PySem.Str.ofString "_law_tree") (L2.tpE 68))
   (_:L2.DfE K (PySem.Str.ofString "_law_room") (L2.tpE 69))
   (_:L2.DfE K (PySem.Str.ofString "_law_short") (L2.tpE 70))
   (_:L2.DfE K (PySem.Str.ofString "_law_with_short") (L2.tpE 71))
   (_:L2.DfE K (PySem.Str.ofString "_law_words") (L2.tpE 72))
   (_:L2.DfE K (PySem.Str.ofString "_law_told") (L2.tpE 73))
   (_:L2.DfE K (PySem.Str.ofString "_law_is_above") (L2.tpE 74))
   (_:L2.DfE K (PySem.Str.ofString "_law_share_right") (L2.tpE 75))
   (_:L2.DfE K (PySem.Str.ofString "_law_mark_right") (L2.tpE 76))
   (_:PySem.W.nsIn K PySem.mainGlobals (PySem.Str.ofString "law")=some (some (.ref f60))) (_:K.lookup f60=some ⟨oc60,od60,.func (PySem.W.fnOf (PySem.Str.ofString "law") (PySem.Str.ofString "law") (L2.defArgs (L2.tpE 77)) (L2.defBody (L2.tpE 77)) (L2.defScope (L2.tpE 77)) .none kV60 dc60 pm60 an60 cd60 ct60),sl60⟩) (_:PySem.W.codeIn K cd60 (PySem.Str.ofString "law")=true) (_:PySem.W.keepIn K (.ref f60)=true)
   (_:mg (PySem.Str.ofString "len")=none)
   (_:mg (PySem.Str.ofString "isinstance")=none)
   (_:mg (PySem.Str.ofString "range")=none)
   (_:mg (PySem.Str.ofString "list")=none)
   (_:mg (PySem.Str.ofString "sorted")=none)
   (_:mg (PySem.Str.ofString "tuple")=none)
   (_:mg (PySem.Str.ofString "dict")=none)
   (_:mg (PySem.Str.ofString "sum")=none)
   (_:mg (PySem.Str.ofString "int")=none)
   (_:mg (PySem.Str.ofString "bool")=none)
   (_:mg (PySem.Str.ofString "all")=none)
   (_:mg (PySem.Str.ofString "set")=none)
   (_:mg (PySem.Str.ofString "min")=none)
   (_:mg (PySem.Str.ofString "str")=none)
   (_:mg (PySem.Str.ofString "zip")=none)
   (_:PySem.W.nsIn K PySem.mainGlobals (PySem.Str.ofString "LETTERS")=some (some cw)) (_:∃t,cw=PySem.Value.str (PySem.Str.ofString "abcdefghijklmnopqrstuvwxyz") t)
   (_:PySem.W.nsIn K PySem.mainGlobals (PySem.Str.ofString "LONGEST_MARK")=some (some aW)) (_:∃t,aW=PySem.Value.int 8 t)
   (_:PySem.W.nsIn K PySem.mainGlobals (PySem.Str.ofString "MOST_ROOM")=some (some bJ)) (_:∃t,bJ=PySem.Value.int 20 t)
   (_:PySem.W.nsIn K PySem.mainGlobals (PySem.Str.ofString "TooCoarse")=some (some (.ref c_TooCoarse)))
   (_:K.lookup c_TooCoarse=some ⟨.type "type",od_C,.cls cdt_C,sl_C⟩)
   (_:PySem.W.subIn K (.ref c_TooCoarse) (.type "BaseException")=some true)
   (_:PySem.W.excIn K c_TooCoarse [.type "ValueError",.type "Exception",.type "BaseException",.type "object"] "ValueError.__new__"=true)
   (_:PySem.W.subIn K (.ref c_TooCoarse) (.ref c_TooCoarse)=some true)
   (_:PySem.W.codeHdIn K 197 193=true) (_:PySem.mainGlobals≠193)
   (_:PySem.W.codeHdIn K 259 255=true) (_:PySem.mainGlobals≠255)
   ,Φ w K mg fa):PySem.Challenge.rw_sumshare_k63_whole_nothing_narrower_by_t.Holds:=by
 w_on;o_law;k_head;(case hw=>w_witness2)
 k_fill
 refine W rfl rfl (fun w h Y=>PySem.W.km_in_of Y) (fun w mg mb lo mean h TT X=>List.forall_mem_cons.mpr ⟨PySem.W.tab_of (x:=PySem.Str.ofString "grown_tally") (c:=197) (P:=193) TT X rfl (by kernel_rfl),List.forall_mem_cons.mpr ⟨PySem.W.tab_of (x:=PySem.Str.ofString "tally_paper") (c:=259) (P:=255) TT X rfl (by kernel_rfl),fun _ h=>nomatch h⟩⟩) (fun w=>by kernel_rfl) (fun w=>by kernel_rfl) ?F
 case F=>
  intro w mg fa h KX G hmg
  refine' M KX G hmg (L2.dfe_mk ?_ ?_ ?_ ?_) (L2.dfe_mk ?_ ?_ ?_ ?_) (L2.dfe_mk ?_ ?_ ?_ ?_) (L2.dfe_mk ?_ ?_ ?_ ?_) (L2.dfe_mk ?_ ?_ ?_ ?_) (L2.dfe_mk ?_ ?_ ?_ ?_) (L2.dfe_mk ?_ ?_ ?_ ?_) (L2.dfe_mk ?_ ?_ ?_ ?_) (L2.dfe_mk ?_ ?_ ?_ ?_) (L2.dfe_mk ?_ ?_ ?_ ?_) (L2.dfe_mk ?_ ?_ ?_ ?_) (L2.dfe_mk ?_ ?_ ?_ ?_) (L2.dfe_mk ?_ ?_ ?_ ?_) (L2.dfe_mk ?_ ?_ ?_ ?_) (L2.dfe_mk ?_ ?_ ?_ ?_) (L2.dfe_mk ?_ ?_ ?_ ?_) (L2.dfe_mk ?_ ?_ ?_ ?_) (L2.dfe_mk ?_ ?_ ?_ ?_) (L2.dfe_mk ?_ ?_ ?_ ?_) (L2.dfe_mk ?_ ?_ ?_ ?_) ?a20 ?l20 ?c20 ?k20 (L2.dfe_mk ?_ ?_ ?_ ?_) (L2.dfe_mk ?_ ?_ ?_ ?_) (L2.dfe_mk ?_ ?_ ?_ ?_) (L2.dfe_mk ?_ ?_ ?_ ?_) (L2.dfe_mk ?_ ?_ ?_ ?_) (L2.dfe_mk ?_ ?_ ?_ ?_) (L2.dfe_mk ?_ ?_ ?_ ?_) (L2.dfe_mk ?_ ?_ ?_ ?_) (L2.dfe_mk ?_ ?_ ?_ ?_) ?a30 ?l30 ?c30 ?k30 (L2.dfe_mk ?_ ?_ ?_ ?_) (L2.dfe_mk ?_ ?_ ?_ ?_) (L2.dfe_mk ?_ ?_ ?_ ?_) (L2.dfe_mk ?_ ?_ ?_ ?_) (L2.dfe_mk ?_ ?_ ?_ ?_) (L2.dfe_mk ?_ ?_ ?_ ?_) (L2.dfe_mk ?_ ?_ ?_ ?_) (L2.dfe_mk ?_ ?_ ?_ ?_) (L2.dfe_mk ?_ ?_ ?_ ?_) (L2.dfe_mk ?_ ?_ ?_ ?_) (L2.dfe_mk ?_ ?_ ?_ ?_) (L2.dfe_mk ?_ ?_ ?_ ?_) (L2.dfe_mk ?_ ?_ ?_ ?_) (L2.dfe_mk ?_ ?_ ?_ ?_) (L2.dfe_mk ?_ ?_ ?_ ?_) (L2.dfe_mk ?_ ?_ ?_ ?_) (L2.dfe_mk ?_ ?_ ?_ ?_) (L2.dfe_mk ?_ ?_ ?_ ?_) (L2.dfe_mk ?_ ?_ ?_ ?_) (L2.dfe_mk ?_ ?_ ?_ ?_) (L2.dfe_mk ?_ ?_ ?_ ?_) (L2.dfe_mk ?_ ?_ ?_ ?_) (L2.dfe_mk ?_ ?_ ?_ ?_) (L2.dfe_mk ?_ ?_ ?_ ?_) (L2.dfe_mk ?_ ?_ ?_ ?_) (L2.dfe_mk ?_ ?_ ?_ ?_) (L2.dfe_mk ?_ ?_ ?_ ?_) (L2.dfe_mk ?_ ?_ ?_ ?_) (L2.dfe_mk ?_ ?_ ?_ ?_) ?a60 ?l60 ?c60 ?k60 (AT KX G ?_) (AT KX G ?_) (AT KX G ?_) (AT KX G ?_) (AT KX G ?_) (AT KX G ?_) (AT KX G ?_) (AT KX G ?_) (AT KX G ?_) (AT KX G ?_) (AT KX G ?_) (AT KX G ?_) (AT KX G ?_) (AT KX G ?_) (AT KX G ?_) ?y_LETTERS ?r_LETTERS ?y_LONGEST_MARK ?r_LONGEST_MARK ?y_MOST_ROOM ?r_MOST_ROOM ?q_C ?v_lk ?v_sb ?e1_C ?e8_C ?hcT0 ?hgP0 ?hcT1 ?hgP1
  (case a20=>as_aux_lemma=>k_is);(case l20=>as_aux_lemma=>k_is);(case c20=>as_aux_lemma=>k_is);(case k20=>as_aux_lemma=>k_is)
  (case a30=>as_aux_lemma=>k_is);(case l30=>as_aux_lemma=>k_is);(case c30=>as_aux_lemma=>k_is);(case k30=>as_aux_lemma=>k_is)
  (case a60=>as_aux_lemma=>k_is);(case l60=>as_aux_lemma=>k_is);(case c60=>as_aux_lemma=>k_is);(case k60=>as_aux_lemma=>k_is)
  (case y_LETTERS=>as_aux_lemma=>k_is)
  (case r_LETTERS=>exact⟨_,rfl⟩)
  (case y_LONGEST_MARK=>as_aux_lemma=>k_is)
  (case r_LONGEST_MARK=>exact⟨_,rfl⟩)
  (case y_MOST_ROOM=>as_aux_lemma=>k_is)
  (case r_MOST_ROOM=>exact⟨_,rfl⟩)
  (case q_C=>k_is)
  (case v_lk=>k_is)
  (case v_sb=>k_is)
  (case e1_C=>k_exc)
  (case e8_C=>k_is)
  (case hcT0=>kernel_rfl);(case hgP0=>decide)
  (case hcT1=>kernel_rfl);(case hgP1=>decide)
  any_goals (as_aux_lemma=>k_is)
end
namespace L2
open PySem PySem.Spec PyProof.Rows
abbrev Key:=Sum Int Str
def e_:Key→Value→Bool
 |.inl k,v=>Value.isInt k v
 |.inr x,v=>Value.isStrOf x v
def keyH(w:World):Key→Int
 |.inl k=>hashInt k
 |.inr x=>hashStr w x
theorem Yh:∀{k:Key}{v:Value},e_ k v=true→(∃i t,k=Sum.inl i∧v=Value.int i t)∨(∃x t,k=Sum.inr x∧v=Value.str x t)
 |.inl i,v,h=>by
  obtain⟨t,e⟩:=Value.isInt_shape (k:=i) (v:=v) h;exact .inl ⟨i,t,rfl,e⟩
 |.inr x,v,h=>by
  obtain⟨t,e⟩:=Value.isStrOf_shape (x:=x) (v:=v) h;exact .inr ⟨x,t,rfl,e⟩
theorem oV(i:Int)(t:Tok):e_ (.inl i) (.int i t)=true:=by simp[e_,Value.isInt]
theorem oD(x:Str)(t:Tok):e_ (.inr x) (.str x t)=true:=by simp[e_,Value.isStrOf]
theorem wI(a b:Int):decide ((Sum.inl a:Key)=Sum.inl b)=(a==b):=by
 by_cases e:a=b
 ·subst e;simp
 ·have h:¬(Sum.inl a:Key)=Sum.inl b:=fun q=>e (Sum.inl.inj q);rw[Ag h];exact(Ce.mpr e).symm
theorem xN(a b:Str):decide ((Sum.inr a:Key)=Sum.inr b)=decide (a=b):=by
 by_cases e:a=b
 ·subst e;simp
 ·have h:¬(Sum.inr a:Key)=Sum.inr b:=fun q=>e (CV q);rw[Ag h,Ag e]
theorem xP(a:Int)(b:Str):decide ((Sum.inl a:Key)=Sum.inr b)=false:=Ag (fun q=>nomatch q)
theorem wB(a:Str)(b:Int):decide ((Sum.inr a:Key)=Sum.inl b)=false:=Ag (fun q=>nomatch q)
def ai(prog:Program)(w:World):PySem.KeyKind prog w Key where
 is:=e_
 hash:=keyH w
 inj:=fun v a b ha hb=>by
  rcases Yh ha with⟨i,t,rfl,rfl⟩|⟨x,t,rfl,rfl⟩
  ·rcases Yh hb with⟨j,u,rfl,e⟩|⟨y,u,rfl,e⟩
   ·injection e with e1 _;rw[e1]
   ·exact nomatch e
  ·rcases Yh hb with⟨j,u,rfl,e⟩|⟨y,u,rfl,e⟩
   ·exact nomatch e
   ·injection e with e1 _;rw[e1]
 byValue:=fun k v h=>by
  rcases Yh h with⟨i,t,rfl,rfl⟩|⟨x,t,rfl,rfl⟩ <;> rfl
 pyHash:=fun hv h=>by
  rcases Yh hv with⟨i,t,rfl,rfl⟩|⟨x,t,rfl,rfl⟩
  ·exact wpAny_pyHash_int h
  ·exact wpAny_pyHash_str h
 eqBool:=fun hu hv h=>by
  rcases Yh hu with⟨i,t,rfl,rfl⟩|⟨x,t,rfl,rfl⟩
  ·rcases Yh hv with⟨j,u,rfl,rfl⟩|⟨y,u,rfl,rfl⟩
   ·rw[wI]at h;exact wpAny_eqBool_int h
   ·rw[xP]at h;exact SeqAt.EqAt.int_str i t y u _ _ _ _ h
  ·rcases Yh hv with⟨j,u,rfl,rfl⟩|⟨y,u,rfl,rfl⟩
   ·rw[wB]at h;exact SeqAt.EqAt.str_int x t j u _ _ _ _ h
   ·rw[xN]at h;exact wpAny_eqBool_str h
 «strs»:=fun k x t v h=>by
  rcases Yh h with⟨i,u,rfl,e⟩|⟨y,u,rfl,e⟩
  ·exact nomatch e
  ·injection e with e1 _
   subst e1;cases v <;> rfl
theorem Rn(prog:Program)(w:World)(i:Int)(t:Tok):(ai prog w).is (.inl i) (.int i t)=true:=oV i t
theorem Rm(prog:Program)(w:World)(x:Str)(t:Tok):(ai prog w).is (.inr x) (.str x t)=true:=oD x t
inductive V where
 |non | bl (b:Bool) | int (i:Int) | str (x:Str) | byt (b:Array UInt8) | flt (b:UInt64) | ref (a:Addr) | ty (n:String)
 deriving DecidableEq
def RelV:V→Value→Prop
 |.non,u=>u=Value.none
 |.bl b,u=>u=Value.bool b
 |.int i,u=>∃t,u=Value.int i t
 |.str x,u=>∃t,u=Value.str x t
 |.byt b,u=>∃t,u=Value.bytes b t
 |.flt b,u=>∃t,u=Value.float b t
 |.ref a,u=>u=Value.ref a
 |.ty n,u=>u=Value.type n
abbrev Vals:List V→List Value→Prop:=Paired RelV
theorem Vals.length{xs:List V}{us:List Value}(r:Vals xs us):xs.length=us.length:=Cs r
theorem Vals.get:∀{xs:List V}{us:List Value}{i:Nat}{x:V},Vals xs us→xs[i]?=some x→∃u,us[i]?=some u∧RelV x u
 |_,_,_,_,.nil,e=>by simp at e
 |_,_,0,_,.cons r _,e=>by simp at e;subst e;exact⟨_,rfl,r⟩
 |_,_,i+1,x,.cons _ t,e=>by
  obtain⟨u,h1,h2⟩:=Vals.get (i:=i) (x:=x) t (by simpa using e);exact⟨u,by simpa using h1,h2⟩
theorem Vals.set{x:V}{u:Value}(r:RelV x u):∀{xs:List V}{us:List Value}(i:Nat),Vals xs us→Vals (xs.set i x) (us.set i u)
 |_,_,_,.nil=>.nil
 |_,_,0,.cons _ t=>.cons r t
 |_,_,i+1,.cons q t=>.cons q (Vals.set r i t)
theorem Vals.append{xs ys:List V}{us ws:List Value}(h:Vals xs us)(s:Vals ys ws):Vals (xs++ys) (us++ws):=by
 induction h with
 |nil=>exact s
 |cons r t ih=>exact .cons r ih
theorem Vals.take:∀{xs:List V}{us:List Value}(n:Nat),Vals xs us→Vals (xs.take n) (us.take n)
 |_,_,0,_=>.nil
 |_,_,_+1,.nil=>.nil
 |_,_,n+1,.cons r t=>.cons r (Vals.take n t)
theorem Vals.drop:∀{xs:List V}{us:List Value}(n:Nat),Vals xs us→Vals (xs.drop n) (us.drop n)
 |_,_,0,r=>r
 |_,_,_+1,.nil=>.nil
 |_,_,n+1,.cons _ t=>Vals.drop n t
def RelO:Option V→Option Value→Prop
 |some v,some u=>RelV v u
 |none,none=>True
 |_,_=>False
def KV{κ:Type}:List (κ×V)→List (κ×Value)→Prop:=Paired fun(p:κ×V)(q:κ×Value)=>p.1=q.1∧RelV p.2 q.2
def kV:Key→V
 |.inl i=>.int i
 |.inr x=>.str x
inductive HO where
 |lst (xs:List V)
 |tup (xs:List V)
 |dK (kvs:List (Key×V)) | dT (kvs:List (List Key×V))
 |set (S:Int→Bool) (n:Nat)
 |ins (C dx:Addr) (fs:List (Str×V))
 |own (x:Addr)
 |xd (fs:List (Str×V))
 |met (f x:Addr)
 |rng (lo hi:Int)
 |frz (o:Obj) (u:HO)
 |tbl (ps:Array Value)
 |ext (φ:Heap→Prop)
abbrev Hp:=Addr→Option HO
def upd(H:Hp)(a:Addr)(o:HO):Hp:=fun b=>if b=a then some o else H b
theorem Z5{H:Hp}{a:Addr}{o:HO}:upd H a o a=some o:=by unfold upd;rw[Ah rfl]
theorem Za{H:Hp}{a b:Addr}{o:HO}(h:b≠a):upd H a o b=H b:=by unfold upd;rw[Aj h]
theorem mO{H:Hp}{a:Addr}{o u:HO}:upd (upd H a o) a u=upd H a u:=by
 funext b;unfold upd;split <;> rfl
theorem tf{H:Hp}{a b:Addr}{o u:HO}(h:H a=some o)(h':H b=some u)(d:o≠u):a≠b:=by
 intro e;subst e;rw[h]at h';exact d (AK h')
theorem Zf{H:Hp}{a b:Addr}{o:HO}(h:H a=some o)(h':H b=none):a≠b:=by
 intro e;subst e;rw[h]at h';cases h'
def TupN(h:Heap)(a:Addr)(items:Array Value):Prop:=∃o,h.get? a=some o∧(o.cls=.type "tuple"∧o.dict=none)∧∃n,o.data=.seq items n
theorem TupN.tup{h:Heap}{a:Addr}{items:Array Value}(x:TupN h a items):IsTup h a items:=let ⟨o,e,c,n,d⟩:=x;⟨o,e,c.1,n,d⟩
theorem TupN.new(h:Heap)(items:Array Value):TupN (h.push {cls:=.type "tuple",data:=.seq items}) h.objs.size items:=⟨_,pi _ rfl,⟨rfl,rfl⟩,_,rfl⟩
section
variable(P:Program)(w:World)
def ObjOk(H:Hp)(h:Heap)(a:Addr):HO→Prop
 |.lst xs=>xs.length≤sizeLine∧∃(its:List Value)(n:Nat),Vals xs its∧h.get? a=some {cls:=.type "list",data:=.seq its.toArray n}
 |.tup xs=>xs.length≤sizeLine∧∃its:List Value,Vals xs its∧TupN h a its.toArray
 |.dK kvs=>kvs.length≤sizeLine∧(a==sysModules)=false∧∃vs,KV kvs vs∧h.DictOf (ai P w) a vs
 |.dT kvs=>kvs.length≤sizeLine∧(a==sysModules)=false∧∃xs:List (List Key×Addr×Value),
   Paired (fun(p:List Key×V)(q:List Key×Addr×Value)=>p.1=q.1∧H q.2.1=some (.tup (p.1.map kV))∧RelV p.2 q.2.2) kvs xs∧
   ∃o es ep,h.get? a=some o∧o.ExactDict∧o.data=.dict es ep∧es.toList=xs.map (entryOfKey (tupleKind (ai P w)))∧(xs.map (·.1)).Nodup
 |.set S n=>h.SetOf (intKind P w) a S n
 |.ins C dx fs=>H dx=some (.own a)∧fs.length≤1000∧dx≠a∧h.get? a=some (W.instObj C dx)∧
   ∃mA,h.Ns1 dx mA∧(∀f,RelO (fs.lookup f) (mA f))∧PySem.Within mA (fs.map (·.1))
 |.own _=>∃o,h.get? a=some o
 |.xd fs=>∃mA,h.Ns1 a mA∧∀f,RelO (fs.lookup f) (mA f)
 |.rng lo hi=>∃t u v,h.get? a=some {cls:=.type "range",data:=.fields #[.int lo t,.int hi u,.int 1 v]}
 |.frz o u=>h.get? a=some o∧ObjOk H h a u
 |.tbl ps=>h.get? a=some {cls:=.none,data:=.fields ps}
 |.met f x=>h.get? a=some (W.methodObj (.ref f) (.ref x))
 |.ext φ=>φ h∧(∃o,h.get? a=some o)∧∀h1 h2:Heap,φ h1→(∀o,h1.get? a=some o→h2.get? a=some o)→φ h2
def HOk(H:Hp)(h:Heap):Prop:=∀a o,H a=some o→ObjOk P w H h a o
end
section
variable{P:Program}{w:World}{H H':Hp}{h h':Heap}{a:Addr}{o:HO}
theorem ObjOk.lt(x:ObjOk P w H h a o):a<h.objs.size:=by
 cases o with
 |lst xs=>obtain⟨_,_,_,_,e⟩:=x;exact az e
 |tup xs=>obtain⟨_,_,_,p⟩:=x;exact p.tup.lt
 |dK kvs=>obtain⟨_,_,_,_,o,_,_,e,_⟩:=x;exact az e
 |dT kvs=>obtain⟨_,_,_,_,o,_,_,e,_⟩:=x;exact az e
 |set S n=>obtain⟨o,_,_,_,e,_⟩:=x;exact az e
 |ins C dx fs=>obtain⟨_,_,_,e,_⟩:=x;exact az e
 |own y=>obtain⟨_,e⟩:=x;exact az e
 |xd fs=>obtain⟨_,⟨_,_,_,e,_⟩,_⟩:=x;exact az e
 |rng lo hi=>obtain⟨_,_,_,e⟩:=x;exact az e
 |frz ob u=>obtain⟨e,_⟩:=x;exact az e
 |tbl ps=>exact az (show h.get? a=some _ from x)
 |met f y=>exact az (show h.get? a=some _ from x)
 |ext φ=>obtain⟨_,⟨_,e⟩,_⟩:=x;exact az e
theorem Paired.mapP{α β:Type}{F G:α→β→Prop}{l₁:List α}{l₂:List β}(h:Paired F l₁ l₂)(f:∀a b,F a b→G a b):Paired G l₁ l₂:=by
 induction h with
 |nil=>exact .nil
 |cons r t ih=>exact .cons (f _ _ r) ih
theorem ObjOk.stay(x:ObjOk P w H h a o)(k:∀b u,(b=a∨H b=some (.own a))→h.get? b=some u→h'.get? b=some u)(ho:∀b,H b=some (.own a)→H' b=some (.own a))(ht:∀b xs,H b=some (.tup xs)→H' b=some (.tup xs)):ObjOk P w H' h' a o:=by
 induction o with
 |lst xs=>obtain⟨z,its,n,r,e⟩:=x;exact⟨z,its,n,r,k _ _ (.inl rfl) e⟩
 |tup xs=>obtain⟨z,its,r,ob,e,c⟩:=x;exact⟨z,its,r,ob,k _ _ (.inl rfl) e,c⟩
 |dK kvs=>obtain⟨z,y,vs,r,ob,es,ep,e,c⟩:=x;exact⟨z,y,vs,r,ob,es,ep,k _ _ (.inl rfl) e,c⟩
 |dT kvs=>
  obtain⟨z,y,xs,r,ob,es,ep,e,c⟩:=x;exact⟨z,y,xs,Paired.mapP r fun p q z=>⟨z.1,ht _ _ z.2.1,z.2.2⟩,ob,es,ep,k _ _ (.inl rfl) e,c⟩
 |set S n=>obtain⟨ob,es,ep,t,e,c⟩:=x;exact⟨ob,es,ep,t,k _ _ (.inl rfl) e,c⟩
 |ins C dx fs=>
  obtain⟨d,z,ne,e,mA,⟨od,es,ep,e2,c⟩,r⟩:=x;exact⟨ho _ d,z,ne,k _ _ (.inl rfl) e,mA,⟨od,es,ep,k _ _ (.inr d) e2,c⟩,r⟩
 |own y=>obtain⟨ob,e⟩:=x;exact⟨ob,k _ _ (.inl rfl) e⟩
 |xd fs=>obtain⟨mA,⟨od,es,ep,e,c⟩,r⟩:=x;exact⟨mA,⟨od,es,ep,k _ _ (.inl rfl) e,c⟩,r⟩
 |rng lo hi=>obtain⟨t,u,v,e⟩:=x;exact⟨t,u,v,k _ _ (.inl rfl) e⟩
 |frz ob u ih=>obtain⟨e,q⟩:=x;exact⟨k _ _ (.inl rfl) e,ih q⟩
 |tbl ps=>
  have e:h.get? a=some {cls:=.none,data:=.fields ps}:=x;show h'.get? a=some {cls:=.none,data:=.fields ps};exact k a _ (.inl rfl) e
 |met f y=>
  have e:h.get? a=some (W.methodObj (.ref f) (.ref y)):=x;show h'.get? a=some (W.methodObj (.ref f) (.ref y));exact k a _ (.inl rfl) e
 |ext φ=>obtain⟨p,⟨o,e⟩,st⟩:=x;exact⟨st _ _ p fun o q=>k _ _ (.inl rfl) q,⟨o,k _ _ (.inl rfl) e⟩,st⟩
theorem HOk.lt(x:HOk P w H h)(e:H a=some o):a<h.objs.size:=(x a o e).lt
theorem HOk.fresh(x:HOk P w H h)(e:h.objs.size≤a):H a=none:=by
 cases q:H a with
 |none=>rfl
 |some u=>exact absurd (Av (x.lt q) e) (BA _)
theorem HOk.kept(x:HOk P w H h)(k:∀b u,h.get? b=some u→h'.get? b=some u):HOk P w H h':=fun a o e=>
 (x a o e).stay (fun b u _ q=>k b u q) (fun _ q=>q) fun _ _ q=>q
theorem HOk.laid(x:HOk P w H h)(k:∀b u,h.get? b=some u→h'.get? b=some u)(hp:h.objs.size≤a)(new:ObjOk P w (upd H a o) h' a o):HOk P w (upd H a o) h':=fun b u e=>by
 have hn:=x.fresh hp;by_cases hb:b=a
 ·subst hb;rw[Z5]at e;cases e;exact new
 ·rw[Za hb]at e;exact(x b u e).stay (fun c v _ q=>k c v q) (fun c q=>by rw[Za (Zf q hn)];exact q) fun c xs q=>by rw[Za (Zf q hn)];exact q
end
def Rd(H:Hp)(a:Addr)(u:HO):Prop:=H a=some u∨∃o,H a=some (.frz o u)
theorem Rd.ok{P:Program}{w:World}{H:Hp}{h:Heap}{a:Addr}{u:HO}(r:Rd H a u)(x:HOk P w H h):ObjOk P w H h a u:=by
 rcases r with r | ⟨o,r⟩
 ·exact x a u r
 ·obtain⟨_,q⟩:=x a _ r;exact q
def Mut:Option HO→Prop
 |some (.lst _)=>True
 |some (.dK _)=>True
 |some (.dT _)=>True
 |some (.set _ _)=>True
 |some (.ins _ _ _)=>True
 |some (.ext _)=>True
 |_=>False
section
variable{P:Program}{w:World}{H:Hp}{h h':Heap}{x e:Addr}{o':HO}
theorem HOk.write(ok:HOk P w H h)(mu:Mut (H x))(he:e=x∨H e=some (.own x))(k:∀b u,b≠e→h.get? b=some u→h'.get? b=some u)(heo:∃u,h'.get? e=some u)(new:ObjOk P w (upd H x o') h' x o'):HOk P w (upd H x o') h':=fun b u q=>by
 have nown:∀c y,H c=some (.own y)→c≠x:=fun c y r z=>by subst z;rw[r]at mu;exact mu
 have ntup:∀c xs,H c=some (.tup xs)→c≠x:=fun c xs r z=>by subst z;rw[r]at mu;exact mu
 by_cases hb:b=x
 ·subst hb;rw[Z5]at q;cases q;exact new
 ·rw[Za hb]at q;by_cases hbe:b=e
  ·have q':H b=some (.own x):=by
    rcases he with z | z
    ·exact absurd (hbe.trans z) hb
    ·rw[hbe];exact z
   rw[q]at q';cases q';obtain⟨v,hv⟩:=heo;exact⟨v,by rw[hbe];exact hv⟩
  ·refine(ok b u q).stay (fun c v hc r=>k c v ?_ r) (fun c r=>by rw[Za (nown c b r)];exact r) fun c xs r=>by rw[Za (ntup c xs r)];exact r
   rcases hc with rfl | hc
   ·exact hbe
   ·rintro rfl
    rcases he with z | z
    ·exact nown c b hc z
    ·rw[hc]at z;cases z;exact hb rfl
end
structure Un(fs ex:List Addr)(H H':Hp)(h h':Heap):Prop where
 keep:∀b o,h.get? b=some o→H b=none→b∉fs→b∉ex→h'.get? b=some o
 slot:∀b o,h.get? b=some o→H b=none→b∈fs→b∉ex→∃sl,h'.get? b=some {o with slots:=sl}
 free:∀b o,h.get? b=some o→H b=none→b∉ex→H' b=none
 there:∀b o,h.get? b=some o→b∉ex→∃o',h'.get? b=some o'
 tups:∀b xs,H b=some (.tup xs)→H' b=some (.tup xs)
 frzs:∀b o u,H b=some (.frz o u)→H' b=some (.frz o u)
 tbls:∀b ps,H b=some (.tbl ps)→∃more,H' b=some (.tbl (ps++more))
section
variable{fs fs' ex ex':List Addr}{H H1 H2:Hp}{h h1 h2 h':Heap}{a x e:Addr}{o:HO}
theorem Un.any(u:Un fs ex H H1 h h1){b:Addr}{ob:Obj}(q:h.get? b=some ob)(n:H b=none)(hx:b∉ex):∃sl,h1.get? b=some {ob with slots:=sl}:=by
 by_cases hb:b∈fs
 ·exact u.slot b ob q n hb hx
 ·exact⟨ob.slots,u.keep b ob q n hb hx⟩
theorem Un.kept(k:∀b u,h.get? b=some u→h'.get? b=some u):Un fs ex H H h h':=
 ⟨fun b ob q _ _ _=>k b ob q,fun b ob q _ _ _=>⟨ob.slots,k b ob q⟩,fun _ _ _ n _=>n,fun b ob q _=>⟨ob,k b ob q⟩,fun _ _ q=>q,fun _ _ _ q=>q,fun _ ps q=>⟨#[],by rw[q];simp⟩⟩
theorem Un.refl:Un fs ex H H h h:=Un.kept fun _ _ q=>q
theorem Un.laid(k:∀b u,h.get? b=some u→h'.get? b=some u)(hp:h.objs.size≤a)(hn:H a=none):Un fs ex H (upd H a o) h h' where
 keep:=fun b u q _ _ _=>k b u q
 slot:=fun b u q _ _ _=>⟨u.slots,k b u q⟩
 free:=fun b u q n _=>by rw[Za (Ac (Av (az q) hp))];exact n
 there:=fun b u q _=>⟨u,k b u q⟩
 tups:=fun b xs q=>by rw[Za (Zf q hn)];exact q
 frzs:=fun b u xs q=>by rw[Za (Zf q hn)];exact q
 tbls:=fun b ps q=>⟨#[],by rw[Za (Zf q hn),q];simp⟩
theorem Un.write(mu:Mut (H x))(he:e=x∨H e=some (.own x))(k:∀b u,b≠e→h.get? b=some u→h'.get? b=some u)(heo:∃u,h'.get? e=some u):Un fs ex H (upd H x o) h h':=by
 have hx:∀b,H b=none→b≠x:=fun b n z=>by subst z;rw[n]at mu;exact mu
 have hb:∀b,H b=none→b≠e:=fun b n z=>by
  subst z
  rcases he with r | r
  ·exact hx b n r
  ·rw[n]at r;cases r
 have hm:∀b u,H b=some u→¬Mut (some u)→b≠x:=fun b u q nm z=>by subst z;rw[q]at mu;exact nm mu
 refine⟨fun b u q n _ _=>k b u (hb b n) q,fun b u q n _ _=>⟨u.slots,k b u (hb b n) q⟩,fun b u q n _=>by rw[Za (hx b n)];exact n,fun b u q _=>?_,
  fun b xs q=>by rw[Za (hm b _ q fun z=>z)];exact q,fun b u xs q=>by rw[Za (hm b _ q fun z=>z)];exact q,fun b ps q=>⟨#[],by rw[Za (hm b _ q fun z=>z),q];simp⟩⟩
 by_cases hbe:b=e
 ·subst hbe;exact heo
 ·exact⟨u,k b u hbe q⟩
end
def trk(h:Heap)(H:Hp):List Addr:=(List.range h.objs.size).filter fun a=>(H a).isSome
def fX(h:Heap)(H:Hp):Heap:=W.hideAll h (trk h H)
theorem nO(h:Heap)(H:Hp):(fX h H).objs.size=h.objs.size:=W.hideAll_size _ _
theorem p5{h:Heap}{H:Hp}{b:Addr}{o:Obj}(e:h.get? b=some o)(n:H b=none):(fX h H).get? b=some o:=
 W.hideAll_get _ e fun hm=>by
  have q:(H b).isSome=true:=(AH.mp hm).2;rw[n]at q;simp at q
theorem ur{h:Heap}{H:Hp}{b:Addr}{o:Obj}(e:(fX h H).get? b=some o):h.get? b=some o∧H b=none:=by
 have e':h.get? b=some o:=W.of_hideAll (trk h H) e;refine⟨e',?_⟩;cases q:H b with
 |none=>rfl
 |some x=>
  have hm:b∈trk h H:=List.mem_filter.mpr ⟨List.mem_range.mpr (Heap.lt_size e'),by simp[q]⟩;have z:(fX h H).get? b=none:=W.hideAll_none (trk h H) hm;rw[z]at e;cases e
structure Mod(K:W.Frag)(mg:Str→Option Value)(base:Heap):Prop where
 kin:K.In base
 glob:base.Ns mainGlobals mg
 blt:∃mb,base.Ns builtinsNs mb∧∀x:Str,x≠"__name__"→mb x=bootBuiltins x
 nolimit:base.NoLimit
structure Cx where
 prog:Program
 w:World
 K:W.Frag
 mg:Str→Option Value
 base:Heap
 A:Around
 N:List Str
 s₀:Shared
 H₀:Hp
 env:Env
 outer:List Env
 stack:List Env
 ex:List Addr
 fn:Str→Bool
 calm:Bool
 pn:List (Addr×Obj)
 xe:Value→Shared→Prop
def frs(l:List Env):List Addr:=l.filterMap (·.frame)
abbrev Cx.fs(X:Cx):List Addr:=frs X.outer
def Vis(sc:Scope)(x:Str):Prop:=sc.names.lookup x=some .local∨sc.names.lookup x=some .cell∨sc.names.lookup x=some .free
def Loc(sc:Scope)(x:Str):Prop:=sc.names.lookup x=some .local∨sc.names.lookup x=some .cell
def Look(env:Env)(h:Heap)(m:Str→Option Value)(x:Str)(u:Value):Prop:=
 (env.kindOf x=some .local∧m x=some u)∨((env.kindOf x=some .cell∨env.kindOf x=some .free)∧∃c,env.cells.lookup x=some c∧h.IsCell c (some u))
structure Cx.Ok(X:Cx):Prop where
 mod:Mod X.K X.mg X.base
 kind:X.env.scope.kind=.function
 glob:X.env.globals=mainGlobals
 blt:X.env.builtins=builtinsNs
 above:X.s₀.heap.objs.size≤X.env.locals
 inj:∀x y c,X.env.cells.lookup x=some c→X.env.cells.lookup y=some c→x=y
 has:∀x,(X.env.kindOf x=some .cell∨X.env.kindOf x=some .free)→∃c,X.env.cells.lookup x=some c
 cab:∀x c,X.fn x=true→X.env.cells.lookup x=some c→X.s₀.heap.objs.size≤c
 hd:X.calm=true→X.A.handled=none
 frames:X.A.frames=some X.stack
 stk:X.stack=X.outer∨(X.stack=X.env::X.outer∧X.env.frame=some X.env.locals)
 exf:∀b∈X.ex,b≠X.env.locals∧∀x c,X.env.cells.lookup x=some c→c≠b
 bs:∀b o,X.base.get? b=some o→X.s₀.heap.get? b=some o∧X.H₀ b=none
 bsz:X.base.objs.size≤X.s₀.heap.objs.size
 noex:∀b o,X.base.get? b=some o→b∉X.ex
 exfs:∀b∈X.ex,b∉X.fs
 funs:X.s₀.heap.FunFrames X.base X.outer
 frf:∀b∈X.fs,X.H₀ b=none
structure Inv(X:Cx)(CZ:List (Addr×Obj))(σ:List (Option V))(H:Hp)(s:Shared):Prop where
 ok:X.Ok
 os:s.os=X.s₀.os
 bare:AllBare s.gens
 base:Un X.fs X.ex X.H₀ H X.s₀.heap s.heap
 loc:∃m,s.heap.Ns X.env.locals m∧∀(i:Nat)(x:Str)(v:V),X.N[i]?=some x→σ[i]?=some (some v)→Vis X.env.scope x→∃u,RelV v u∧Look X.env s.heap m x u
 cell:∀x c,X.env.cells.lookup x=some c→∃v,s.heap.IsCell c v
 free:H X.env.locals=none
 freeC:∀x c,X.env.cells.lookup x=some c→H c=none
 pin:∀p∈X.pn++CZ,s.heap.get? p.1=some p.2∧H p.1=none∧p.1≠X.env.locals∧p.1∉X.fs∧∀v,p.2.data≠.cell v
 hok:HOk X.prog X.w H s.heap
 len:σ.length=X.N.length
section
variable{X:Cx}{CZ:List (Addr×Obj)}{σ:List (Option V)}{H H':Hp}{s:Shared}{h':Heap}
theorem Cx.Ok.nofr(ok:X.Ok){b:Addr}{o:Obj}(e:X.base.get? b=some o):b∉X.fs:=fun hb=>by
 have:=(ok.funs.mem hb).1;rw[e]at this;cases this
theorem Inv.bs(I:Inv X CZ σ H s):∀b o,X.base.get? b=some o→s.heap.get? b=some o∧H b=none:=fun b o e=>
 ⟨I.base.keep b o (I.ok.bs b o e).1 (I.ok.bs b o e).2 (I.ok.nofr e) (I.ok.noex b o e),I.base.free b o (I.ok.bs b o e).1 (I.ok.bs b o e).2 (I.ok.noex b o e)⟩
theorem Inv.bk(I:Inv X CZ σ H s):∀b o,X.base.get? b=some o→s.heap.get? b=some o:=fun b o e=>(I.bs b o e).1
theorem Inv.mod(I:Inv X CZ σ H s):Mod X.K X.mg X.base:=I.ok.mod
theorem Inv.kIn(I:Inv X CZ σ H s):X.K.In s.heap:=I.ok.mod.kin.keeps I.bk
theorem Inv.lt(I:Inv X CZ σ H s):X.env.locals<s.heap.objs.size:=let ⟨_,hn,_⟩:=I.loc;hn.lt
theorem Inv.sz(I:Inv X CZ σ H s):X.s₀.heap.objs.size≤s.heap.objs.size:=AU I.ok.above (BB I.lt)
theorem Inv.nofs(I:Inv X CZ σ H s){a:Addr}(h:s.heap.objs.size≤a):a∉X.fs:=fun hb=>by
 obtain⟨_,o,ho,_⟩:=I.ok.funs.mem hb;exact absurd (Av (az ho) (AU I.sz h)) (BA _)
theorem Inv.cne(I:Inv X CZ σ H s):∀x c,X.env.cells.lookup x=some c→c≠X.env.locals:=fun x c e z=>by
 obtain⟨v,o,ho,hd⟩:=I.cell x c e;obtain⟨m,⟨o',es,ep,ho',hd',_⟩,_⟩:=I.loc;rw[z,ho']at ho;cases ho;rw[hd']at hd;cases hd
theorem Inv.funs(I:Inv X CZ σ H s):s.heap.FunFrames X.base X.outer:=by
 have all:∀(l:List Env),(∀b∈frs l,b∈X.fs)→X.s₀.heap.FunFrames X.base l→s.heap.FunFrames X.base l:=by
  intro l
  induction l with
  |nil=>intro _ _;trivial
  |cons env r ih=>
   intro hs hl;obtain⟨hk,⟨L,o,hf,hn,ho,hd⟩,hr⟩:=hl;have hL:L∈X.fs:=hs L (by unfold frs;rw[BU,hf];exact Au);obtain⟨sl,e⟩:=I.base.slot L o ho (I.ok.frf L hL) hL fun z=>I.ok.exfs L z hL;exact⟨hk,⟨L,_,hf,hn,e,hd⟩,ih (fun b hb=>hs b (by unfold frs;rw[BU,hf];exact Az _ hb)) hr⟩
 exact all X.outer (fun _ hb=>hb) I.ok.funs
theorem Inv.stack(I:Inv X CZ σ H s):s.heap.FunFrames X.base X.stack:=by
 rcases I.ok.stk with e | ⟨e,hf⟩
 ·rw[e];exact I.funs
 ·rw[e];obtain⟨m,hn,_⟩:=I.loc;refine .cons (by rw[I.ok.kind];decide) hf hn ?_ I.funs;exact Heap.get?_none_of_le (AU I.ok.bsz I.ok.above)
theorem Inv.stkSub(I:Inv X CZ σ H s):∀b∈frs X.stack,b∈X.env.locals::X.fs:=fun b hb=>by
 rcases I.ok.stk with e | ⟨e,hf⟩
 ·rw[e]at hb;exact Az _ hb
 ·rw[e]at hb;unfold frs at hb;rw[BU,hf]at hb;exact hb
theorem Inv.stkFree(I:Inv X CZ σ H s):∀b∈frs X.stack,H b=none:=fun b hb=>by
 rcases Ae.mp (I.stkSub b hb)with e | hb
 ·rw[e];exact I.free
 ·obtain⟨_,o,ho,_⟩:=I.ok.funs.mem hb;exact I.base.free b o ho (I.ok.frf b hb) fun z=>I.ok.exfs b z hb
theorem Inv.step{g':Array GenState}{t':Nat}{d':Drawn}{ch:List Addr}(I:Inv X CZ σ H s)(hch:∀b∈ch,(b∈X.ex∨X.s₀.heap.objs.size≤b)∧b≠X.env.locals∧(∀x c,X.env.cells.lookup x=some c→c≠b)∧∀p∈X.pn++CZ,p.1≠b)(keep:∀b o,b≠X.env.locals→b∉X.fs→b∉ch→s.heap.get? b=some o→H b=none→h'.get? b=some o)(slot:∀b o,b≠X.env.locals→b∈X.fs→b∉ch→s.heap.get? b=some o→H b=none→∃sl,h'.get? b=some {o with slots:=sl})(free:∀b o,b∉ch→s.heap.get? b=some o→H b=none→H' b=none)(there:∀b o,b∉ch→s.heap.get? b=some o→∃o',h'.get? b=some o')(tups:∀b xs,H b=some (.tup xs)→H' b=some (.tup xs))(frzs:∀b o u,H b=some (.frz o u)→H' b=some (.frz o u))(tbls:∀b ps,H b=some (.tbl ps)→∃more,H' b=some (.tbl (ps++more)))(ns:∀m,s.heap.Ns X.env.locals m→h'.Ns X.env.locals m)(hok:HOk X.prog X.w H' h')(hg:AllBare g'):
  Inv X CZ σ H' {s with heap:=h',gens:=g',drawn:=d',toks:=t'}:=by
 have neL:∀b o,X.s₀.heap.get? b=some o→b≠X.env.locals:=fun b o e=>Ac (Av (az e) I.ok.above);have neC:∀b o,X.s₀.heap.get? b=some o→b∉X.ex→b∉ch:=fun b o e hx hb=>by
  rcases(hch b hb).1 with z | z
  ·exact hx z
  ·exact absurd (Av (az e) z) (BA _)
 have cellK:∀x c,X.env.cells.lookup x=some c→∀v,s.heap.IsCell c v→h'.IsCell c v:=fun x c e v ⟨o,ho,hd⟩=>by
  have nch:c∉ch:=fun z=>(hch c z).2.2.1 x c e rfl;by_cases hc:c∈X.fs
  ·obtain⟨sl,q⟩:=slot c o (I.cne x c e) hc nch ho (I.freeC x c e);exact⟨_,q,hd⟩
  ·exact⟨o,keep c o (I.cne x c e) hc nch ho (I.freeC x c e),hd⟩
 refine⟨I.ok,I.os,hg,⟨fun b o e n hb hx=>?_,fun b o e n hb hx=>?_,fun b o e n hx=>?_,fun b o e hx=>?_,fun b xs e=>tups b xs (I.base.tups b xs e),fun b o xs e=>frzs b o xs (I.base.frzs b o xs e),fun b ps e=>?_⟩,?_,fun x c e=>?_,?_,fun x c e=>?_,fun p hp=>?_,hok,I.len⟩
 ·exact keep b o (neL b o e) hb (neC b o e hx) (I.base.keep b o e n hb hx) (I.base.free b o e n hx)
 ·obtain⟨sl,e1⟩:=I.base.slot b o e n hb hx;obtain⟨sl',e2⟩:=slot b _ (neL b o e) hb (neC b o e hx) e1 (I.base.free b o e n hx);exact⟨sl',e2⟩
 ·obtain⟨o',e1⟩:=I.base.there b o e hx;exact free b o' (neC b o e hx) e1 (I.base.free b o e n hx)
 ·obtain⟨o',e1⟩:=I.base.there b o e hx;exact there b o' (neC b o e hx) e1
 ·obtain⟨m1,e1⟩:=I.base.tbls b ps e;obtain⟨m2,e2⟩:=tbls b _ e1;exact⟨m1++m2,by rw[e2,Array.append_assoc]⟩
 ·obtain⟨m,hn,hl⟩:=I.loc;refine⟨m,ns m hn,fun i x v e1 e2 e3=>?_⟩;obtain⟨u,r,l⟩:=hl i x v e1 e2 e3;refine⟨u,r,?_⟩
  rcases l with l | ⟨k,c,e,z⟩
  ·exact .inl l
  ·exact .inr ⟨k,c,e,cellK x c e _ z⟩
 ·obtain⟨v,z⟩:=I.cell x c e;exact⟨v,cellK x c e v z⟩
 ·obtain⟨m,⟨o,_,_,ho,_⟩,_⟩:=I.loc;exact free _ o (fun z=>(hch _ z).2.1 rfl) ho I.free
 ·obtain⟨v,o,ho,hd⟩:=I.cell x c e;exact free c o (fun z=>(hch c z).2.2.1 x c e rfl) ho (I.freeC x c e)
 ·obtain⟨e,n,ne,nf,d⟩:=I.pin p hp;have nch:p.1∉ch:=fun z=>(hch p.1 z).2.2.2 p hp rfl;exact⟨keep p.1 p.2 ne nf nch e n,free p.1 p.2 nch e n,ne,nf,d⟩
theorem Inv.un{t':Nat}(I:Inv X CZ σ H s)(u:Un X.fs [] H H' s.heap h')(hok:HOk X.prog X.w H' h'):Inv X CZ σ H' {s with heap:=h',toks:=t'}:=by
 obtain⟨m,⟨o,es,ep,ho,r⟩,_⟩:=id I.loc;obtain⟨sl,hL⟩:=u.any ho I.free (by simp);exact I.step (g':=s.gens) (d':=s.drawn) (ch:=[]) (fun _ z=>nomatch z) (fun b o _ hb _ e n=>u.keep b o e n hb (by simp)) (fun b o _ hb _ e n=>u.slot b o e n hb (by simp)) (fun b o _ e n=>u.free b o e n (by simp)) (fun b o _ e=>u.there b o e (by simp)) u.tups u.frzs u.tbls (fun m' hm=>by
  obtain⟨o',es',ep',ho',r'⟩:=hm;rw[ho]at ho';cases ho';exact⟨_,es',ep',hL,r'⟩) hok I.bare
theorem Inv.call{g':Array GenState}{t':Nat}{d':Drawn}{ch:List Addr}(I:Inv X CZ σ H s)(u:Un (frs X.stack) ch H H' s.heap h')(hok:HOk X.prog X.w H' h')(hg:AllBare g')(hch:∀b∈ch,(b∈X.ex∨X.s₀.heap.objs.size≤b)∧b≠X.env.locals∧(∀x c,X.env.cells.lookup x=some c→c≠b)∧∀p∈X.pn++CZ,p.1≠b):
  Inv X CZ σ H' {s with heap:=h',gens:=g',drawn:=d',toks:=t'}:=by
 obtain⟨m,⟨o,es,ep,ho,r⟩,_⟩:=id I.loc;obtain⟨sl,hL⟩:=u.any ho I.free fun z=>(hch _ z).2.1 rfl;exact I.step (ch:=ch) hch (fun b o hL hb hc e n=>u.keep b o e n (fun z=>(Ae.mp (I.stkSub b z)).elim hL hb) hc) (fun b o _ _ hc e n=>u.any e n hc) (fun b o hc e n=>u.free b o e n hc) (fun b o hc e=>u.there b o e hc) u.tups u.frzs u.tbls (fun m' hm=>by
  obtain⟨o',es',ep',ho',r'⟩:=hm;rw[ho]at ho';cases ho';exact⟨_,es',ep',hL,r'⟩) hok hg
theorem Inv.turned{t':Nat}{it:Addr}(I:Inv X CZ σ H s)(k:∀b o,b≠it→s.heap.get? b=some o→h'.get? b=some o)(hn:H it=none)(hL:it≠X.env.locals)(h1:it∈X.ex∨X.s₀.heap.objs.size≤it)(h2:∀x c,X.env.cells.lookup x=some c→c≠it)(h3:∀p∈X.pn++CZ,p.1≠it):Inv X CZ σ H {s with heap:=h',toks:=t'}:=by
 have nit:∀b u,H b=some u→b≠it:=fun b u e z=>by rw[z,hn]at e;cases e
 refine I.step (g':=s.gens) (d':=s.drawn) (ch:=[it]) (fun b hb=>?_) (fun b o _ _ hc e _=>k b o (fun z=>hc (by simp[z])) e) (fun b o _ _ hc e _=>⟨o.slots,k b o (fun z=>hc (by simp[z])) e⟩) (fun _ _ _ _ n=>n)
  (fun b o hc e=>⟨o,k b o (fun z=>hc (by simp[z])) e⟩) (fun _ _ e=>e) (fun _ _ _ e=>e) (fun b ps e=>⟨#[],by rw[e];simp⟩) (fun m hm=>?_) (fun b u e=>?_) I.bare
 ·have e:b=it:=by simpa using hb
  subst e;exact⟨h1,hL,h2,h3⟩
 ·obtain⟨o,es,ep,ho,r⟩:=hm;exact⟨o,es,ep,k _ o (Ne.symm hL) ho,r⟩
 ·refine(I.hok b u e).stay (fun c v hc q=>k c v ?_ q) (fun _ q=>q) fun _ _ q=>q
  rcases hc with z | z
  ·rw[z];exact nit b u e
  ·exact nit c _ z
theorem Inv.tok(I:Inv X CZ σ H s)(t:Nat):Inv X CZ σ H {s with toks:=t}:=I.un (h':=s.heap) (t':=t) Un.refl I.hok
theorem Inv.kept{t':Nat}(I:Inv X CZ σ H s)(k:∀b u,s.heap.get? b=some u→h'.get? b=some u):Inv X CZ σ H {s with heap:=h',toks:=t'}:=I.un (Un.kept k) (I.hok.kept k)
theorem Inv.laid{a:Addr}{o:HO}{t':Nat}(I:Inv X CZ σ H s)(k:∀b u,s.heap.get? b=some u→h'.get? b=some u)(hp:s.heap.objs.size≤a)(new:ObjOk X.prog X.w (upd H a o) h' a o):
  Inv X CZ σ (upd H a o) {s with heap:=h',toks:=t'}:=I.un (Un.laid k hp (I.hok.fresh hp)) (I.hok.laid k hp new)
theorem Inv.write{x e:Addr}{o:HO}{t':Nat}(I:Inv X CZ σ H s)(mu:Mut (H x))(he:e=x∨H e=some (.own x))(k:∀b u,b≠e→s.heap.get? b=some u→h'.get? b=some u)(heo:∃u,h'.get? e=some u)(new:ObjOk X.prog X.w (upd H x o) h' x o):Inv X CZ σ (upd H x o) {s with heap:=h',toks:=t'}:=I.un (Un.write mu he k heo) (I.hok.write mu he k heo new)
theorem Inv.weak{σ':List (Option V)}(I:Inv X CZ σ H s)(hl:σ'.length=σ.length)(w:∀(i:Nat) v,σ'[i]?=some (some v)→σ[i]?=some (some v)):Inv X CZ σ' H s:=
 ⟨I.ok,I.os,I.bare,I.base,let ⟨m,hn,hl'⟩:=I.loc;⟨m,hn,fun i x v e1 e2 e3=>hl' i x v e1 (w i v e2) e3⟩,I.cell,I.free,I.freeC,I.pin,I.hok,hl.trans I.len⟩
theorem Inv.pins_of{pins':List (Addr×Obj)}(I:Inv X CZ σ H s)(h:∀p∈pins',s.heap.get? p.1=some p.2∧H p.1=none∧p.1≠X.env.locals∧p.1∉X.fs∧∀v,p.2.data≠.cell v):Inv X pins' σ H s:=
 ⟨I.ok,I.os,I.bare,I.base,I.loc,I.cell,I.free,I.freeC,fun p hp=>(AI.mp hp).elim (fun z=>I.pin p (Bh _ z)) (h p),I.hok,I.len⟩
theorem i6{N:List Str}(hN:N.Nodup){i j:Nat}{x:Str}(a:N[i]?=some x)(b:N[j]?=some x):i=j:=by
 obtain⟨h1,e1⟩:=Ad.mp a;obtain⟨h2,e2⟩:=Ad.mp b;exact(List.getElem_inj hN).mp (e1.trans e2.symm)
theorem Op{M:Model}{A:Around}{E:Value→Shared→Prop}{i:Nat}{x:Str}{v:V}{u:Value}{Q:Unit→Shared→Prop}(I:Inv X CZ σ H s)(hN:X.N.Nodup)(hi:X.N[i]?=some x)(hx:Loc X.env.scope x)(r:RelV v u)(h:∀s',Inv X CZ (σ.set i (some v)) H s'→(∃a,Heap.SameBut a s.heap s'.heap∧(a=X.env.locals∨X.env.cells.lookup x=some a))→Q () s')(hf:X.fn x=true∨X.env.scope.names.lookup x=some .local:=by first | exact .inl rfl | exact .inr rfl | assumption):wpAny M A (storeName X.env x u) Q E s:=by
 obtain⟨m,hn,hl⟩:=id I.loc;have hcls:(X.env.scope.kind==.class || (X.env.scope.kind==.module && X.env.locals != X.env.globals))=false:=by rw[I.ok.kind];rfl
 have hiσ:i<σ.length:=by rw[I.len];exact(Ad.mp hi).1
 have cne:=I.cne;have tracked:∀{a:Addr}{h':Heap},(∃o,s.heap.get? a=some o∧H a=none)→Heap.SameBut a s.heap h'→HOk X.prog X.w H h':=fun{a h'} ha hs b ob e=>by
  obtain⟨_,_,hfree⟩:=ha;refine(I.hok b ob e).stay (fun c w' hc q=>(hs.2 c ?_).trans q) (fun _ q=>q) fun _ _ q=>q;rintro rfl
  rcases hc with rfl | hc
  ·rw[hfree]at e;cases e
  ·rw[hfree]at hc;cases hc
 rcases hx with hk | hk
 ·refine wpAny_storeName_local hk hn (fun h' hn' hs=>?_) hcls;obtain⟨oL,_,_,hoL,_⟩:=id hn;refine h _ ⟨I.ok,I.os,I.bare,⟨fun b o e n hb hx=>?_,fun b o e n hb hx=>?_,I.base.free,fun b o e hx=>?_,I.base.tups,I.base.frzs,I.base.tbls⟩,⟨_,hn',fun j y v' e1 e2 e3=>?_⟩,fun y c e=>?_,I.free,I.freeC,fun p hp=>?_,tracked ⟨oL,hoL,I.free⟩ hs,by simpa using I.len⟩ ⟨_,hs,.inl rfl⟩
  ·exact(hs.2 b (Ac (Av (az e) I.ok.above))).trans (I.base.keep b o e n hb hx)
  ·obtain⟨sl,e1⟩:=I.base.slot b o e n hb hx;exact⟨sl,(hs.2 b (Ac (Av (az e) I.ok.above))).trans e1⟩
  ·obtain⟨o',e1⟩:=I.base.there b o e hx;exact⟨o',(hs.2 b (Ac (Av (az e) I.ok.above))).trans e1⟩
  ·by_cases hj:j=i
   ·subst hj;rw[hi]at e1;cases e1;rw[List.getElem?_set_self hiσ]at e2;cases e2;exact⟨u,r,.inl ⟨hk,by simp⟩⟩
   ·rw[List.getElem?_set_ne (Ne.symm hj)]at e2;obtain⟨u',r',q⟩:=hl j y v' e1 e2 e3;refine⟨u',r',?_⟩
    rcases q with⟨k,e⟩|⟨k,c,e,z⟩
    ·refine .inl ⟨k,?_⟩;have:y≠x:=fun e=>hj (i6 hN e1 (e ▸ hi));simp[this,e]
    ·exact .inr ⟨k,c,e,z.sameBut hs (cne y c e)⟩
  ·obtain⟨w',z⟩:=I.cell y c e;exact⟨w',z.sameBut hs (cne y c e)⟩
  ·obtain⟨e,n,ne,nf,d⟩:=I.pin p hp;exact⟨(hs.2 p.1 ne).trans e,n,ne,nf,d⟩
 ·have hfn:X.fn x=true:=by
   rcases hf with z | z
   ·exact z
   ·rw[z]at hk;cases hk
  obtain⟨c,hc⟩:=I.ok.has x (.inl hk);obtain⟨w',z⟩:=I.cell x c hc;refine wpAny_storeName_cell I.ok.kind hk hc z (fun h' hc' hs=>?_);obtain⟨oc,hoc,hocd⟩:=id z;refine h {s with heap:=h'} ⟨I.ok,I.os,I.bare,⟨fun b o e n hb hx=>?_,fun b o e n hb hx=>?_,I.base.free,fun b o e hx=>?_,I.base.tups,I.base.frzs,I.base.tbls⟩,⟨m,hn.sameBut hs (Ne.symm (cne x c hc)),fun j y v' e1 e2 e3=>?_⟩,fun y c' e=>?_,I.free,I.freeC,fun p hp=>?_,tracked ⟨oc,hoc,I.freeC x c hc⟩ hs,by simpa using I.len⟩ ⟨c,hs,.inr hc⟩
  ·exact(hs.2 b (Ac (Av (az e) (I.ok.cab x c hfn hc)))).trans (I.base.keep b o e n hb hx)
  ·obtain⟨sl,e1⟩:=I.base.slot b o e n hb hx;exact⟨sl,(hs.2 b (Ac (Av (az e) (I.ok.cab x c hfn hc)))).trans e1⟩
  ·obtain⟨o',e1⟩:=I.base.there b o e hx;exact⟨o',(hs.2 b (Ac (Av (az e) (I.ok.cab x c hfn hc)))).trans e1⟩
  ·by_cases hj:j=i
   ·subst hj;rw[hi]at e1;cases e1;rw[List.getElem?_set_self hiσ]at e2;cases e2;exact⟨u,r,.inr ⟨.inl hk,c,hc,hc'⟩⟩
   ·rw[List.getElem?_set_ne (Ne.symm hj)]at e2;obtain⟨u',r',q⟩:=hl j y v' e1 e2 e3;refine⟨u',r',?_⟩
    rcases q with q | ⟨k,c',e,z'⟩
    ·exact .inl q
    ·refine .inr ⟨k,c',e,z'.sameBut hs ?_⟩;rintro rfl;exact hj (i6 hN e1 (I.ok.inj _ _ _ e hc ▸ hi))
  ·by_cases hcc:c'=c
   ·subst hcc;exact⟨_,hc'⟩
   ·obtain⟨w2,z2⟩:=I.cell y c' e;exact⟨w2,z2.sameBut hs hcc⟩
  ·obtain⟨e,n,ne,nf,d⟩:=I.pin p hp;refine⟨(hs.2 p.1 ?_).trans e,n,ne,nf,d⟩;intro q;rw[q,hoc]at e;have q':oc=p.2:=AK e;exact d w' (by rw[←q'];exact hocd)
theorem Qi{M:Model}{A:Around}{E:Value→Shared→Prop}{i:Nat}{x:Str}{v:V}{u:Value}{Q:Unit→Shared→Prop}(I:Inv X CZ σ H s)(hN:X.N.Nodup)(hi:X.N[i]?=some x)(hx:Loc X.env.scope x)(r:RelV v u)(h:∀s',Inv X CZ (σ.set i (some v)) H s'→Q () s')(hf:X.fn x=true∨X.env.scope.names.lookup x=some .local:=by first | exact .inl rfl | exact .inr rfl | assumption):wpAny M A (storeName X.env x u) Q E s:=
 Op I hN hi hx r (fun s' I' _=>h s' I') hf
theorem Inv.call'{s':Shared}{ch:List Addr}(I:Inv X CZ σ H s)(ho:s'.os=s.os)(u:Un (frs X.stack) ch H H' s.heap s'.heap)(hok:HOk X.prog X.w H' s'.heap)(hg:AllBare s'.gens)(hch:∀b∈ch,(b∈X.ex∨X.s₀.heap.objs.size≤b)∧b≠X.env.locals∧(∀x c,X.env.cells.lookup x=some c→c≠b)∧∀p∈X.pn++CZ,p.1≠b):Inv X CZ σ H' s':=by
 obtain⟨h',g',d',t',o'⟩:=s';have e:o'=s.os:=ho;subst e;exact I.call (g':=g') (t':=t') (d':=d') u hok hg hch
end
abbrev XK:=Value→Option Addr→Hp→Prop
abbrev St:=List (Option V)
abbrev VK:=V→Hp→Prop
abbrev TE:=St→Hp→VK→Prop
abbrev TT:=St→Hp→(Bool→Hp→Prop)→Prop
abbrev TA:=St→Hp→(List V→Hp→Prop)→Prop
structure Ends where
 nx:St→Hp→Prop
 rt:VK
 bk:St→Hp→Prop:=fun _ _=>False
 ct:St→Hp→Prop:=fun _ _=>False
abbrev TS:=Ends→St→Hp→Prop
def EP(X:Cx)(CZ:List (Addr×Obj))(σ:St)(Q:VK)(u:Value)(s':Shared):Prop:=∃v H',Inv X CZ σ H' s'∧RelV v u∧Q v H'
def TP(X:Cx)(CZ:List (Addr×Obj))(σ:St)(Q:Bool→Hp→Prop)(b:Bool)(s':Shared):Prop:=∃H',Inv X CZ σ H' s'∧Q b H'
def AP(X:Cx)(CZ:List (Addr×Obj))(σ:St)(Q:List V→Hp→Prop)(us:List Value)(s':Shared):Prop:=∃vs H',Inv X CZ σ H' s'∧Vals vs us∧Q vs H'
def SP(X:Cx)(CZ:List (Addr×Obj))(D:Ends)(f:Flow)(s':Shared):Prop:=
 match f with
 |.next=>∃σ' H',Inv X CZ σ' H' s'∧D.nx σ' H'
 |.brk=>∃σ' H',Inv X CZ σ' H' s'∧D.bk σ' H'
 |.cont=>∃σ' H',Inv X CZ σ' H' s'∧D.ct σ' H'
 |.ret u=>∃v σ' H',Inv X CZ σ' H' s'∧RelV v u∧D.rt v H'
def PE(X:Cx)(e:Expr)(t:TE):Prop:=
 ∀(CZ:List (Addr×Obj))(s:Shared)(σ:St)(H:Hp)(Q:VK),Inv X CZ σ H s→t σ H Q→wpAny (model X.prog X.w) X.A (eval e X.env) (EP X CZ σ Q) X.xe s
def PT(X:Cx)(e:Expr)(t:TT):Prop:=
 ∀(CZ:List (Addr×Obj))(s:Shared)(σ:St)(H:Hp)(Q:Bool→Hp→Prop),Inv X CZ σ H s→t σ H Q→wpAny (model X.prog X.w) X.A (isTrue e X.env (eval e X.env)) (TP X CZ σ Q) X.xe s
def PW(X:Cx)(e:Expr)(t:TT):Prop:=
 ∀(whole:Sem Value)(CZ:List (Addr×Obj))(s:Shared)(σ:St)(H:Hp)(Q:Bool→Hp→Prop),Inv X CZ σ H s→t σ H Q→wpAny (model X.prog X.w) X.A (isTrue e X.env whole) (TP X CZ σ Q) X.xe s
theorem PW.pt{X:Cx}{e:Expr}{t:TT}(h:PW X e t):PT X e t:=h _
def PA(X:Cx)(es:List Expr)(t:TA):Prop:=
 ∀(pos:Pos)(CZ:List (Addr×Obj))(s:Shared)(σ:St)(H:Hp)(Q:List V→Hp→Prop),Inv X CZ σ H s→t σ H Q→wpAny (model X.prog X.w) X.A (spliced (backTo pos (starEach es X.env))) (AP X CZ σ Q) X.xe s
def PS(X:Cx)(st:Stmt)(t:TS):Prop:=
 ∀(CZ:List (Addr×Obj))(s:Shared)(σ:St)(H:Hp)(D:Ends),Inv X CZ σ H s→t D σ H→wpAny (model X.prog X.w) X.A (exec st X.env) (SP X CZ D) X.xe s
def PSs(X:Cx)(st:List Stmt)(t:TS):Prop:=
 ∀(CZ:List (Addr×Obj))(s:Shared)(σ:St)(H:Hp)(D:Ends),Inv X CZ σ H s→t D σ H→wpAny (model X.prog X.w) X.A (execs st X.env) (SP X CZ D) X.xe s
theorem thn{α:Type}{t:Sem α}{Q Q':α→Shared→Prop}{M:Model}{A:Around}{E:Value→Shared→Prop}{s:Shared}(h:wpAny M A t Q E s)(hQ:∀a s,Q a s→Q' a s):wpAny M A t Q' E s:=A5 h hQ fun _ _ x=>x
section
variable{X:Cx}
def xD(i:Nat):TE:=fun σ H Q=>∃v,σ[i]?=some (some v)∧Q v H
def tC(v:V):TE:=fun _ H Q=>Q v H
theorem rn{i:Nat}{x:Str}{pos:Pos}(hN:X.N[i]?=some x)(hv:Vis X.env.scope x)(hd:(x==("__debug__":Str))=false:=by decide)(hcd:(x==("__classdict__":Str))=false:=by decide):PE X (.Name x pos) (xD i):=by
 intro CZ s σ H Q I h;obtain⟨v,e,h⟩:=h;obtain⟨m,hn,hl⟩:=I.loc;obtain⟨u,r,l⟩:=hl i x v hN e hv;have fin:EP X CZ σ Q u s:=⟨v,H,I,r,h⟩
 rcases l with⟨hk,hm⟩|⟨hk,c,hc,hcell⟩
 ·exact wpAny_Name (wpAny_loadName_local I.ok.kind hk hn hm fin) hd
 ·rcases hk with hk | hk
  ·exact wpAny_Name (wpAny_loadName_cell I.ok.kind hk hc hcell fin) hd
  ·exact wpAny_Name (wpAny_loadName_free I.ok.kind hk hc hcell fin hcd) hd
theorem Z4{i j pos}:PE X (.Constant (.int i) j pos) (tC (.int i)):=fun _ _ _ H _ I h=>wpAny_Constant_int ⟨.int i,H,I.tok _,⟨_,rfl⟩,h⟩
theorem X6{b j pos}:PE X (.Constant (.bool b) j pos) (tC (.bl b)):=fun _ _ _ H _ I h=>Constant_bool ⟨.bl b,H,I,rfl,h⟩
theorem Tu{j pos}:PE X (.Constant .none j pos) (tC .non):=fun _ _ _ H _ I h=>Constant_none ⟨.non,H,I,rfl,h⟩
theorem Xn{x j pos}:PE X (.Constant (.str x) j pos) (tC (.str x)):=fun _ _ _ H _ I h=>Calls.Constant_str ⟨.str x,H,I.tok _,⟨_,rfl⟩,h⟩
def Gl(X:Cx)(x:Str):Prop:=X.env.kindOf x=some .globalImplicit
theorem T7{E:Value→Shared→Prop}{CZ:List (Addr×Obj)}{s:Shared}{σ:St}{H:Hp}{x:Str}{u:Value}{pos:Pos}{Q:Value→Shared→Prop}(I:Inv X CZ σ H s)(hg:Gl X x)(hm:X.mg x=some u)(h:Q u s)(hd:(x==("__debug__":Str))=false:=by decide):wpAny (model X.prog X.w) X.A (eval (.Name x pos) X.env) Q E s:=
 Calls.Name_function_global I.ok.kind hg (Calls.loadGlobal_global (by rw[I.ok.glob];exact I.mod.glob.keeps I.bk) hm h) hd
theorem U2{E:Value→Shared→Prop}{CZ:List (Addr×Obj)}{s:Shared}{σ:St}{H:Hp}{x:Str}{u:Value}{pos:Pos}{Q:Value→Shared→Prop}(I:Inv X CZ σ H s)(hg:Gl X x)(hm:X.mg x=none)(hv:bootBuiltins x=some u)(h:Q u s)(hn:x≠"__name__":=by decide)(hd:(x==("__debug__":Str))=false:=by decide):wpAny (model X.prog X.w) X.A (eval (.Name x pos) X.env) Q E s:=by
 obtain⟨mb,h1,h2⟩:=I.mod.blt;exact Calls.Name_function_global I.ok.kind hg (Calls.loadGlobal_builtin (by rw[I.ok.glob];exact I.mod.glob.keeps I.bk) hm (by rw[I.ok.blt];exact h1.keeps I.bk) ((h2 x hn).trans hv) h) hd
theorem uc{x:Str}{v:V}{u:Value}{pos:Pos}(hg:Gl X x)(hm:X.mg x=some u)(r:RelV v u)(hd:(x==("__debug__":Str))=false:=by decide):PE X (.Name x pos) (tC v):=
 fun _ _ _ H _ I h=>T7 I hg hm ⟨v,H,I,r,h⟩ hd
theorem Xs{x:Str}{v:V}{u:Value}{pos:Pos}(hg:Gl X x)(hm:X.mg x=none)(hv:bootBuiltins x=some u)(r:RelV v u)(hn:x≠"__name__":=by decide)(hd:(x==("__debug__":Str))=false:=by decide):PE X (.Name x pos) (tC v):=
 fun _ _ _ H _ I h=>U2 I hg hm hv ⟨v,H,I,r,h⟩ hn hd
variable{a b:Expr}{ta tb:TE}{pos:Pos}
def tB(t:TE):TT:=fun σ H Q=>t σ H fun x H1=>∃c,x=.bl c∧Q c H1
theorem Xl{e:Expr}{t:TE}(h:PE X e t)(he:∀whole,isTrue e X.env whole=(do let v ←whole;standAt e.pos;holding [v] (truthy v)):=by intro _;rfl):PT X e (tB t):=by
 intro CZ s σ H Q I hw;refine isTrue_plain (thn (h CZ s σ H _ I hw) fun v s1 ⟨x,H1,I1,r1,q1⟩=>?_) (he _);obtain⟨d,rfl,q⟩:=q1;cases r1;exact B5 ⟨H1,I1,q⟩
variable{tA tB':TT}{rest:List Expr}
def tAnd(t u:TT):TT:=fun σ H Q=>t σ H fun c H1=>if c=true then u σ H1 Q else Q false H1
def tOr(t u:TT):TT:=fun σ H Q=>t σ H fun c H1=>if c=true then Q true H1 else u σ H1 Q
def tNot(t:TT):TT:=fun σ H Q=>t σ H fun c H1=>Q (!c) H1
theorem tX(ha:PT X a tA):PW X (.BoolOp .And [a] pos) tA:=by
 intro wh CZ s σ H Q I h;refine isTrue_and (thn (ha CZ s σ H Q I h) fun c s1 e=>?_);cases c with
 |true=>exact isTrue_and_nil e
 |false=>exact e
theorem W5(ha:PT X a tA):PW X (.BoolOp .Or [a] pos) tA:=by
 intro wh CZ s σ H Q I h;refine isTrue_or (thn (ha CZ s σ H Q I h) fun c s1 e=>?_);cases c with
 |false=>exact isTrue_or_nil e
 |true=>exact e
theorem xp(ha:PT X a tA)(hb:PW X (.BoolOp .And (b::rest) pos) tB'):PW X (.BoolOp .And (a::b::rest) pos) (tAnd tA tB'):=by
 intro wh CZ s σ H Q I h;refine isTrue_and (thn (ha CZ s σ H _ I h) fun c s1 C0=>?_);obtain⟨H1,I1,q1⟩:=C0;cases c with
 |true=>exact hb wh CZ s1 σ H1 Q I1 q1
 |false=>exact⟨H1,I1,q1⟩
theorem V8(ha:PT X a tA)(hb:PW X (.BoolOp .Or (b::rest) pos) tB'):PW X (.BoolOp .Or (a::b::rest) pos) (tOr tA tB'):=by
 intro wh CZ s σ H Q I h;refine isTrue_or (thn (ha CZ s σ H _ I h) fun c s1 C0=>?_);obtain⟨H1,I1,q1⟩:=C0;cases c with
 |true=>exact⟨H1,I1,q1⟩
 |false=>exact hb wh CZ s1 σ H1 Q I1 q1
theorem W6(ha:PT X a tA):PT X (.UnaryOp .Not a pos) (tNot tA):=by
 intro CZ s σ H Q I h;exact isTrue_not (ha CZ s σ H (fun c H1=>Q (!c) H1) I h)
def zi(ta tb:TE):TE:=fun σ H Q=>ta σ H fun x H1=>∃c,x=.bl c∧if c=true then tb σ H1 Q else Q (.bl false) H1
def yD(ta:TE):TE:=fun σ H Q=>ta σ H fun x H1=>∃c,x=.bl c∧Q (.bl (!c)) H1
theorem Vu{op}{t:TE}(h:PE X a t):PE X (.BoolOp op [a] pos) t:=fun CZ s σ H Q I hw=>BoolOp_one (h CZ s σ H Q I hw)
theorem V0(ha:PE X a ta)(hb:PE X (.BoolOp .And (b::rest) pos) tb):PE X (.BoolOp .And (a::b::rest) pos) (zi ta tb):=by
 intro CZ s σ H Q I h;refine BoolOp_and (thn (ha CZ s σ H _ I h) fun v s1 C0=>?_);obtain⟨x,H1,I1,r1,q1⟩:=C0;obtain⟨c,rfl,q1⟩:=q1;cases r1;refine B5 ?_;cases c with
 |true=>exact hb CZ s1 σ H1 Q I1 q1
 |false=>exact⟨.bl false,H1,I1,rfl,q1⟩
theorem sK(ha:PE X a ta):PE X (.UnaryOp .Not a pos) (yD ta):=by
 intro CZ s σ H Q I h;refine UnaryOp_ (thn (ha CZ s σ H _ I h) fun v s1 C0=>?_);obtain⟨x,H1,I1,r1,q1⟩:=C0;obtain⟨c,rfl,q1⟩:=q1;cases r1;exact not_of (B5 ⟨.bl (!c),H1,I1,rfl,q1⟩)
end
def SqL(K:W.Frag)(H:Hp)(a:Addr)(xs:List V):Prop:=
 Rd H a (.lst xs)∨
  ∃(o:Obj)(its:Array Value)(n:Nat),K.lookup a=some o∧o.cls=.type "list"∧o.dict=none∧o.data=.seq its n∧its.size≤sizeLine∧Vals xs its.toList
def SqT(K:W.Frag)(H:Hp)(a:Addr)(xs:List V):Prop:=
 Rd H a (.tup xs)∨
  ∃(o:Obj)(its:Array Value)(n:Nat),K.lookup a=some o∧o.cls=.type "tuple"∧o.data=.seq its n∧its.size≤sizeLine∧Vals xs its.toList
def absV:Value→Option V
 |.none=>some .non
 |.bool b=>some (.bl b)
 |.int i _=>some (.int i)
 |.str x _=>some (.str x)
 |.bytes b _=>some (.byt b)
 |.float b _=>some (.flt b)
 |.ref a=>some (.ref a)
 |.type n=>some (.ty n)
 |_=>none
theorem RelV.abs{x:V}{u:Value}(r:RelV x u):absV u=some x:=by
 cases x with
 |non=>cases r;rfl
 |bl _=>cases r;rfl
 |int _=>obtain⟨t,rfl⟩:=r;rfl
 |str _=>obtain⟨t,rfl⟩:=r;rfl
 |byt _=>obtain⟨t,rfl⟩:=r;rfl
 |flt _=>obtain⟨t,rfl⟩:=r;rfl
 |ref _=>cases r;rfl
 |ty _=>cases r;rfl
theorem RelV.inj{x y:V}{u:Value}(r:RelV x u)(q:RelV y u):x=y:=AK (r.abs.symm.trans q.abs)
theorem Vals.inj{xs ys:List V}{us:List Value}(h:Vals xs us)(g:Vals ys us):xs=ys:=by
 induction h generalizing ys with
 |nil=>cases g;rfl
 |cons r t ih=>
  cases g with
  |cons r' t'=>rw[r.inj r',ih t']
section
variable{X:Cx}{CZ:List (Addr×Obj)}{σ:St}{H:Hp}{s:Shared}{a:Addr}{xs ys:List V}
theorem SqL.of{K:W.Frag}(h:H a=some (.lst xs)):SqL K H a xs:=.inl (.inl h)
theorem SqT.of{K:W.Frag}(h:H a=some (.tup xs)):SqT K H a xs:=.inl (.inl h)
theorem Inv.list(I:Inv X CZ σ H s)(h:SqL X.K H a xs):∃its:List Value,Vals xs its∧PlainL s.heap a its.toArray∧xs.length≤sizeLine:=by
 rcases h with h | ⟨o,its,n,hk,hc,hd,hs,hz,r⟩
 ·obtain⟨z,its,n,r,e⟩:=h.ok I.hok;exact⟨its,r,⟨_,n,e,rfl,rfl,rfl⟩,z⟩
 ·refine⟨its.toList,r,⟨o,n,I.kIn a o hk,hc,hd,by simpa using hs⟩,?_⟩;have e:=r.length;simp only[Array.length_toList]at e;omega
theorem Inv.tuple(I:Inv X CZ σ H s)(h:SqT X.K H a xs):∃its:List Value,Vals xs its∧IsTup s.heap a its.toArray∧xs.length≤sizeLine:=by
 rcases h with h | ⟨o,its,n,hk,hc,hs,hz,r⟩
 ·obtain⟨z,its,r,p⟩:=h.ok I.hok;exact⟨its,r,p.tup,z⟩
 ·refine⟨its.toList,r,⟨o,I.kIn a o hk,hc,n,by simpa using hs⟩,?_⟩;have e:=r.length;simp only[Array.length_toList]at e;omega
theorem Inv.list_inj(I:Inv X CZ σ H s)(h:SqL X.K H a xs)(h':SqL X.K H a ys):xs=ys:=by
 obtain⟨its,r,⟨o,n,e,_,_,d⟩,_⟩:=I.list h;obtain⟨its',r',⟨o',n',e',_,_,d'⟩,_⟩:=I.list h';rw[e]at e';cases e';rw[d]at d';injection d' with d1 _
 have:its=its':=by simpa using congrArg Array.toList d1
 subst this;exact r.inj r'
theorem Inv.tuple_inj(I:Inv X CZ σ H s)(h:SqT X.K H a xs)(h':SqT X.K H a ys):xs=ys:=by
 obtain⟨its,r,⟨o,e,_,n,d⟩,_⟩:=I.tuple h;obtain⟨its',r',⟨o',e',_,n',d'⟩,_⟩:=I.tuple h';rw[e]at e';cases e';rw[d]at d';injection d' with d1 _
 have:its=its':=by simpa using congrArg Array.toList d1
 subst this;exact r.inj r'
end
abbrev Cx.wish(X:Cx)(E:Value→Shared→Prop):Cx:={X with xe:=E}
abbrev Cx.nox(X:Cx):Cx:=X.wish fun _ _=>False
theorem Cx.Ok.wish{X:Cx}(ok:X.Ok)(E:Value→Shared→Prop):(X.wish E).Ok:=
 ⟨ok.mod,ok.kind,ok.glob,ok.blt,ok.above,ok.inj,ok.has,ok.cab,ok.hd,ok.frames,ok.stk,ok.exf,ok.bs,ok.bsz,ok.noex,ok.exfs,ok.funs,ok.frf⟩
theorem Cx.Ok.unwish{X:Cx}{E:Value→Shared→Prop}(ok:(X.wish E).Ok):X.Ok:=
 ⟨ok.mod,ok.kind,ok.glob,ok.blt,ok.above,ok.inj,ok.has,ok.cab,ok.hd,ok.frames,ok.stk,ok.exf,ok.bs,ok.bsz,ok.noex,ok.exfs,ok.funs,ok.frf⟩
section
variable{X:Cx}{CZ:List (Addr×Obj)}{σ:St}{H:Hp}{s:Shared}{E:Value→Shared→Prop}
theorem Inv.wish(I:Inv X CZ σ H s)(E:Value→Shared→Prop):Inv (X.wish E) CZ σ H s:=⟨I.ok.wish E,I.os,I.bare,I.base,I.loc,I.cell,I.free,I.freeC,I.pin,I.hok,I.len⟩
theorem Inv.unwish(I:Inv (X.wish E) CZ σ H s):Inv X CZ σ H s:=⟨I.ok.unwish,I.os,I.bare,I.base,I.loc,I.cell,I.free,I.freeC,I.pin,I.hok,I.len⟩
theorem SP.unwish{D:Ends}{f:Flow}{s':Shared}(h:SP (X.wish E) CZ D f s'):SP X CZ D f s':=by
 cases f with
 |next=>obtain⟨σ',H',I,q⟩:=h;exact⟨σ',H',I.unwish,q⟩
 |brk=>obtain⟨σ',H',I,q⟩:=h;exact⟨σ',H',I.unwish,q⟩
 |cont=>obtain⟨σ',H',I,q⟩:=h;exact⟨σ',H',I.unwish,q⟩
 |ret u=>obtain⟨v,σ',H',I,r,q⟩:=h;exact⟨v,σ',H',I.unwish,r,q⟩
theorem PSs.nox{st:List Stmt}{t:TS}(h:PSs X.nox st t):PSs X st t:=fun CZ s σ H D I hw=>
 A5 (h CZ s σ H D (I.wish _) hw) (fun _ _ q=>q.unwish) fun _ _ z=>False.elim z
end
section
variable{X:Cx}{st:Stmt}{rest:List Stmt}{t u:TS}{e:Expr}{te:TE}{pos:Pos}
def yP:TS:=fun D σ H=>D.nx σ H
def tSeq(t u:TS):TS:=fun D σ H=>t {D with nx:=u D} σ H
theorem Zq:PSs X [] yP:=fun _ _ σ H _ I h=>Cr ⟨σ,H,I,h⟩
theorem Z2(h1:PS X st t)(h2:PSs X rest u):PSs X (st::rest) (tSeq t u):=by
 intro CZ s σ H D I h;refine wpAny_execs_cons (thn (h1 CZ s σ H {D with nx:=u D} I h) fun f s1 q=>?_);cases f with
 |next=>
  obtain⟨σ',H',I',q⟩:=q;exact h2 CZ s1 σ' H' D I' q
 |ret v=>exact q
 |brk=>exact q
 |cont=>exact q
theorem Z6(h1:PS X st t):PSs X [st] t:=by
 intro CZ s σ H D I h;refine wpAny_execs_cons (thn (h1 CZ s σ H D I h) fun f s1 q=>?_);cases f with
 |next=>exact Cr q
 |ret v=>exact q
 |brk=>exact q
 |cont=>exact q
theorem Inv.quiet{CZ:List (Addr×Obj)}{σ:St}{H:Hp}{s:Shared}(I:Inv X CZ σ H s):interactive X.env=false:=by simp[interactive,I.ok.kind]
def zW(te:TE):TS:=fun D σ H=>te σ H fun _ H1=>D.nx σ H1
theorem V9(he:PE X e te)(hs:swapsWith e none pos.line X.env=pure false:=by rfl):PS X (.Expr e pos) (zW te):=by
 intro CZ s σ H D I h;exact wpAny_Expr_any (thn (he CZ s σ H _ I h) fun v s1 ⟨x,H1,I1,r1,q1⟩=>⟨σ,H1,I1,q1⟩) I.quiet hs
def tRet(te:TE):TS:=fun D σ H=>te σ H D.rt
theorem Zb(he:PE X e te):PS X (.Return (some e) pos) (tRet te):=by
 intro CZ s σ H D I h;exact wpAny_Return_some (thn (he CZ s σ H _ I h) fun v s1 ⟨x,H1,I1,r1,q1⟩=>⟨x,σ,H1,I1,r1,q1⟩)
def tIfS(c:TT)(t u:TS):TS:=fun D σ H=>c σ H fun b H1=>if b=true then t D σ H1 else u D σ H1
theorem Y7{c:Expr}{a b:List Stmt}{tc:TT}(hc:PT X c tc)(ha:PSs X a t)(hb:PSs X b u):PS X (.If c a b pos) (tIfS tc t u):=by
 intro CZ s σ H D I h;refine wpAny_If (thn (hc CZ s σ H _ I h) fun d s1 C0=>?_);obtain⟨H1,I1,q1⟩:=C0;cases d with
 |true=>exact ha CZ s1 σ H1 D I1 q1
 |false=>exact hb CZ s1 σ H1 D I1 q1
def qO:TS:=fun _ _ _=>False
theorem Sd:PS X st qO:=fun _ _ _ _ _ _ h=>h.elim
theorem pM{sts:List Stmt}:PSs X sts qO:=fun _ _ _ _ _ _ h=>h.elim
end
abbrev TG:=V→St→Hp→(St→Hp→Prop)→Prop
abbrev TGs:=List V→St→Hp→(St→Hp→Prop)→Prop
def PG(X:Cx)(target:Expr)(t:TG):Prop:=
 ∀(CZ:List (Addr×Obj))(s:Shared)(σ:St)(H:Hp)(v:V)(u:Value)(Q:St→Hp→Prop),Inv X CZ σ H s→RelV v u→t v σ H Q→
  wpAny (model X.prog X.w) X.A (assign target X.env u) (fun _ s'=>∃σ' H',Inv X CZ σ' H' s'∧Q σ' H') X.xe s
def PGs(X:Cx)(ts:List Expr)(t:TGs):Prop:=
 ∀(CZ:List (Addr×Obj))(s:Shared)(σ:St)(H:Hp)(vs:List V)(us:List Value)(Q:St→Hp→Prop),Inv X CZ σ H s→Vals vs us→t vs σ H Q→
  wpAny (model X.prog X.w) X.A (assignInOrder ((assignEach ts X.env).map (·.2)) us) (fun _ s'=>∃σ' H',Inv X CZ σ' H' s'∧Q σ' H') X.xe s
abbrev yq:=V→V→V→Hp→(Hp→Prop)→Prop
def zM(X:Cx)(t:yq):Prop:=
 ∀(CZ:List (Addr×Obj))(s:Shared)(σ:St)(H:Hp)(o i v:V)(ov iv u:Value)(Q:Hp→Prop),Inv X CZ σ H s→RelV o ov→RelV i iv→RelV v u→t o i v H Q→
  wpAny (model X.prog X.w) X.A (setItem ov iv u) (fun _ s'=>∃H',Inv X CZ σ H' s'∧Q H') X.xe s
section
variable{X:Cx}{pos:Pos}
def jn(i:Nat):TG:=fun v σ H Q=>Q (σ.set i (some v)) H
theorem Z7{i:Nat}{x:Str}(hN:X.N.Nodup)(hi:X.N[i]?=some x)(hx:Loc X.env.scope x)(hf:X.fn x=true∨X.env.scope.names.lookup x=some .local:=by first | exact .inl rfl | exact .inr rfl | assumption):PG X (.Name x pos) (jn i):=by
 intro CZ s σ H v u Q I r h;exact wpAny_assign_Name (Qi I hN hi hx r (fun s' I'=>⟨_,H,I',h⟩) hf)
def gNil:TGs:=fun vs σ H Q=>vs=[]∧Q σ H
def yK(t:TG)(u:TGs):TGs:=fun vs σ H Q=>∃v r,vs=v::r∧t v σ H fun σ' H'=>u r σ' H' Q
theorem Zt:PGs X [] gNil:=by
 intro CZ s σ H vs us Q I r h;obtain⟨e,h⟩:=h;subst e;cases r;exact assignInOrder_nil ⟨σ,H,I,h⟩
theorem Z8{e:Expr}{es:List Expr}{t:TG}{u:TGs}(h1:PG X e t)(h2:PGs X es u)(hs:(assignEach (e::es) X.env).map (·.2)=assign e X.env::(assignEach es X.env).map (·.2):=by rfl):PGs X (e::es) (yK t u):=by
 intro CZ s σ H vs us Q I r h;obtain⟨v,vr,e1,h⟩:=h;subst e1;cases r with
 |cons r rr=>
  rw[hs];refine assignInOrder_cons (thn (h1 CZ s σ H _ _ _ I r h) fun _ s1 C0=>?_);obtain⟨σ1,H1,I1,q1⟩:=C0;exact h2 CZ s1 σ1 H1 _ _ Q I1 rr q1
def yY(K:W.Frag)(n:Nat)(t:TGs):TG:=fun v σ H Q=>∃a xs,v=.ref a∧SqT K H a xs∧xs.length=n∧t xs σ H Q
theorem Ys{es:List Expr}{k:Nat}{t:TGs}{n:Nat}(hc:X.calm=true)(h:PGs X es t)(hn:(assignEach es X.env).length=n:=by rfl)(hst:(assignEach es X.env).findIdx? (·.1)=none:=by rfl):PG X (.Tuple es k pos) (yY X.K n t):=by
 intro CZ s σ H v u Q I r hw;obtain⟨a,xs,e1,hq,hl,hw⟩:=hw;subst e1;cases r;obtain⟨its,rv,ht,hz⟩:=I.tuple hq;refine assign_Tuple_tuple (I.ok.hd hc) ht (by simp[hn,←hl,rv.length]) hst fun h' hx=>?_;have I1:Inv X CZ σ H {s with heap:=h'}:=I.kept (t':=s.toks) fun b o e=>hx b o (Ac (az e)) e;exact h CZ _ σ H xs _ Q I1 (by simpa using rv) hw
def gSub(to ti:TE)(t:yq):TG:=fun v σ H Q=>to σ H fun o H1=>ti σ H1 fun i H2=>t o i v H2 fun H3=>Q σ H3
theorem p_{o i:Expr}{to ti:TE}{t:yq}(ho:PE X o to)(hi:PE X i ti)(hs:zM X t)(ha:∀v,assign (.Subscript o i pos) X.env v=(do
   let ov ←holding [v] (eval o X.env)
   let iv ←holding [v,ov] (eval i X.env)
   standAt pos
   holding [v,ov,iv] (setItem ov iv v)
   release [v,ov,iv] []):=by intro _;rfl):PG X (.Subscript o i pos) (gSub to ti t):=by
 intro CZ s σ H v u Q I r h;rw[ha];refine aa (AS (thn (ho CZ s σ H _ I h) fun ov s1 C0=>?_));obtain⟨x,H1,I1,r1,q1⟩:=C0;refine aa (AS (thn (hi CZ s1 σ H1 _ I1 q1) fun iv s2 C0=>?_));obtain⟨y,H2,I2,r2,q2⟩:=C0;refine aa (wpAny_standAt (aa (AS (thn (hs CZ s2 σ H2 x y v ov iv u _ I2 r1 r2 r q2) fun _ s3 C0=>?_))));obtain⟨H3,I3,q3⟩:=C0;exact wpAny_release ⟨σ,H3,I3,q3⟩
def qu(te:TE)(g:TG):TS:=fun D σ H=>te σ H fun x H1=>g x σ H1 D.nx
theorem X5{tg e:Expr}{te:TE}{g:TG}(he:PE X e te)(hg:PG X tg g)(hs:swapsWithSole [tg] e pos.line X.env=pure false:=by rfl)(hw:swappedStores [tg] e X.env=pure none:=by rfl)(h1:(assignEach [tg] X.env).map (·.2)=[assign tg X.env]:=by rfl):PS X (.Assign [tg] e pos) (qu te g):=by
 intro CZ s σ H D I h;refine wpAny_Assign_stores (thn (he CZ s σ H _ I h) fun v s1 ⟨x,H1,I1,r1,q1⟩=>?_) hs hw;rw[h1];exact thn (hg CZ s1 σ H1 x v _ I1 r1 q1) fun _ s2 q=>q
theorem Vf{i:Nat}{x:Str}{e:Expr}{te:TE}{pos':Pos}(hN:X.N.Nodup)(hi:X.N[i]?=some x)(hx:Loc X.env.scope x)(he:PE X e te)(hs:swapsWith e (some (.Name x pos')) pos.line X.env=pure false:=by rfl)(hf:X.fn x=true∨X.env.scope.names.lookup x=some .local:=by first | exact .inl rfl | exact .inr rfl | assumption):
  PS X (.Assign [.Name x pos'] e pos) (qu te (jn i)):=by
 intro CZ s σ H D I h;refine wpAny_Assign_Name (thn (he CZ s σ H _ I h) fun v s1 C0=>?_) hs;obtain⟨y,H1,I1,r1,q1⟩:=C0;exact Qi I1 hN hi hx r1 (fun s2 I2=>⟨_,H1,I2,q1⟩) hf
end
section
variable{X:Cx}{pos:Pos}
def sC(c:TT)(tb:TS):TS:=fun D σ H=>∃W:Nat→St→Hp→Prop,(∃m,W m σ H)∧∀m σ H,W m σ H→
 c σ H fun b H1=>if b=true then ∃N:St→Hp→Prop,(∀σ' H',N σ' H'→∃m',m'<m∧W m' σ' H')∧tb {D with nx:=N,ct:=N,bk:=D.nx} σ H1 else D.nx σ H1
theorem iJ{c:Expr}{body:List Stmt}{tc:TT}{tb:TS}(hp:PassesOwn (model X.prog X.w) X.A X.env X.xe)(hc:PT X c tc)(hb:PSs X body tb):PS X (.While c body [] pos) (sC tc tb):=by
 intro CZ s σ H D I h;obtain⟨W,⟨m0,w0⟩,turn⟩:=h;refine wpAny_While (codeAny_whileLoop (fun n s'=>∃σ' H',Inv X CZ σ' H' s'∧W n σ' H') ?_ m0 ⟨σ,H,I,w0⟩);rintro n s1 ⟨σ1,H1,I1,w1⟩;refine B3 hp (thn (hc CZ s1 σ1 H1 _ I1 (turn n σ1 H1 w1)) fun b s2 C0=>?_);obtain⟨H2,I2,q2⟩:=C0;cases b with
 |true=>
  obtain⟨N,hN,q2⟩:=q2;rw[Ah rfl];refine B3 hp (thn (hb CZ s2 σ1 H2 _ I2 q2) fun f s3 q3=>?_);cases f with
  |next=>
   obtain⟨σ3,H3,I3,n3⟩:=q3;obtain⟨m',hm,w3⟩:=hN σ3 H3 n3;exact⟨m',hm,σ3,H3,I3,w3⟩
  |cont=>
   obtain⟨σ3,H3,I3,n3⟩:=q3;obtain⟨m',hm,w3⟩:=hN σ3 H3 n3;exact⟨m',hm,σ3,H3,I3,w3⟩
  |brk=>exact q3
  |ret v=>exact q3
 |false=>
  rw[Aj Al];exact Cr ⟨σ1,H2,I2,q2⟩
end
structure It where
 go:Nat→Hp→Prop
 yld:Nat→Hp→V→Hp→Prop
 stop:Nat→Hp→Prop
def dg(X:Cx)(CZ:List (Addr×Obj))(H:Hp)(b:Addr):Prop:=
 H b=none∧b≠X.env.locals∧b∉X.fs∧(b∈X.ex∨X.s₀.heap.objs.size≤b)∧(∀x c,X.env.cells.lookup x=some c→c≠b)∧∀p∈X.pn++CZ,p.1≠b
theorem Inv.fpOk{X:Cx}{CZ:List (Addr×Obj)}{σ:St}{H H':Hp}{s:Shared}{b:Addr}(I:Inv X CZ σ H s)(hb:s.heap.objs.size≤b)(hn:H' b=none):dg X CZ H' b:=by
 refine⟨hn,AF (Av I.lt hb),I.nofs hb,.inr (AU I.sz hb),fun x c e z=>?_,fun p hp z=>?_⟩
 ·obtain⟨v,q⟩:=I.cell x c e;exact absurd (Av q.lt (by rw[z];exact hb)) (BA _)
 ·exact absurd (Av (az (I.pin p hp).1) (by rw[z];exact hb)) (BA _)
structure Turn(P:Program)(w:World)(K:W.Frag)(tg:Expr)(J:It)(fp:List Addr)(it:Addr)(tn:Nat→Heap→Prop):Prop where
 mem:it∈fp
 obj:∀i h,tn i h→∀b∈fp,∃o,h.get? b=some o∧∀v,o.data≠.cell v
 keep:∀i h h',tn i h→(∀b∈fp,∀o,h.get? b=some o→h'.get? b=some o)→tn i h'
 item:∀(X:Cx),X.prog=P→X.w=w→X.K=K→X.calm=true→∀(i:Nat)(CZ:List (Addr×Obj))(s:Shared)(σ:St)(H:Hp)(E:Value→Shared→Prop),Inv X CZ σ H s→(∀b∈fp,dg X CZ H b)→tn i s.heap→J.go i H→
  wpAny (model P w) X.A (pyNext (.ref it)) (fun r s1=>∃u,r=some u∧
   wpAny (model P w) X.A (letOwnedTupleGo tg (.ref it) u) (fun _ s2=>∃x H',Inv X CZ σ H' s2∧RelV x u∧J.yld i H x H'∧tn (i+1) s2.heap∧∀b∈fp,H' b=none) E s1) E s
 done:∀(X:Cx),X.prog=P→X.w=w→X.K=K→X.calm=true→∀(i:Nat)(CZ:List (Addr×Obj))(s:Shared)(σ:St)(H:Hp)(E:Value→Shared→Prop),Inv X CZ σ H s→(∀b∈fp,dg X CZ H b)→tn i s.heap→J.stop i H→
  wpAny (model P w) X.A (pyNext (.ref it)) (fun r s1=>r=none∧Inv X CZ σ H s1) E s
 self:∀(A:Around)(i:Nat)(s:Shared)(Q:Value→Shared→Prop)(E:Value→Shared→Prop),tn i s.heap→Q (.ref it) s→wpAny (model P w) A (pyIter (.ref it)) Q E s
abbrev TI:=St→Hp→(It→Hp→Prop)→Prop
def PIE(X:Cx)(CZ:List (Addr×Obj))(σ:St)(tg:Expr)(R:It→Hp→Prop)(itv:Value)(s2:Shared):Prop:=
 ∃(it:Addr)(fp:List Addr)(tn:Nat→Heap→Prop)(J:It)(H':Hp),itv=.ref it∧Inv X CZ σ H' s2∧Turn X.prog X.w X.K tg J fp it tn∧tn 0 s2.heap∧(∀b∈fp,dg X CZ H' b)∧R J H'
def PI(X:Cx)(tg iter:Expr)(wi:TI):Prop:=
 ∀(CZ:List (Addr×Obj))(s:Shared)(σ:St)(H:Hp)(R:It→Hp→Prop),Inv X CZ σ H s→wi σ H R→
  wpAny (model X.prog X.w) X.A (eval iter X.env) (fun v s1=>wpAny (model X.prog X.w) X.A (pyIter v) (PIE X CZ σ tg R) X.xe s1) X.xe s
theorem Nd{M:Model}{A:Around}{E:Value→Shared→Prop}{s:Shared}{tg:Expr}{it:Addr}{u:Value}{o:Obj}{n:String}{vs:Array Value}{Q:Unit→Shared→Prop}(ho:s.heap.get? it=some o)(hc:o.cls=.type n)(hd:o.data=.fields vs)(hn:["enumerate","zip","dict_itemiterator","dict_reverseitemiterator","odict_iterator","itertools.zip_longest","itertools.pairwise"].contains n=false)(hQ:Q () s):wpAny M A (letOwnedTupleGo tg (.ref it) u) Q E s:=by
 unfold letOwnedTupleGo;cases tg <;> first
  |exact aq hQ
  | (cases u <;> first
    |exact aq hQ
    | (refine aa (CU ho ?_)
       rw[hc,hd];show wpAny M A (if (["enumerate","zip","dict_itemiterator","dict_reverseitemiterator","odict_iterator","itertools.zip_longest","itertools.pairwise"].contains n && vs[0]? == some (rawInt _))=true then _ else _) Q E s;rw[Aj (by intro h;rw[hn,BC]at h;cases h)];exact aq hQ))
def Itl(K:W.Frag)(a:Addr):It:=
 ⟨fun i H=>∃xs x,SqL K H a xs∧xs[i]?=some x,fun i H x H'=>H'=H∧∀xs,SqL K H a xs→xs[i]?=some x,fun i H=>∃xs,SqL K H a xs∧xs.length≤i⟩
def Itt(K:W.Frag)(a:Addr):It:=
 ⟨fun i H=>∃xs x,SqT K H a xs∧xs[i]?=some x,fun i H x H'=>H'=H∧∀xs,SqT K H a xs→xs[i]?=some x,fun i H=>∃xs,SqT K H a xs∧xs.length≤i⟩
def Itr(lo:Int)(n:Nat):It:=⟨fun i _=>i<n,fun i H x H'=>H'=H∧x=.int (lo+i),fun i _=>n≤i⟩
theorem nR{P:Program}{w:World}{K:W.Frag}{tg:Expr}(a it:Addr):Turn P w K tg (Itl K a) [it] it (fun i h=>h.IsListIter it a i) where
 mem:=by simp
 obj:=fun i h st b hb=>by
  have e:b=it:=by simpa using hb
  subst e;obtain⟨o,e,c,d⟩:=st;exact⟨o,e,fun v z=>by rw[d]at z;cases z⟩
 keep:=fun i h h' st k=>st.at fun o e=>k it (by simp) o e
 item:=by
  intro X hP hw hK hc i CZ s σ H E I hf st hg;subst hP hw hK;obtain⟨xs,x,hq,hx⟩:=hg;obtain⟨its,rv,p,hz⟩:=I.list hq;obtain⟨u,hu,ru⟩:=rv.get hx;obtain⟨f0,f1,f2,f3,f4,f5⟩:=hf it (by simp);refine wpAny_pyNext_list_item st p.isList (x:=u) (by simpa using hu) fun h' Dc sb=>?_;have I1:Inv X CZ σ H {s with heap:=h'}:=I.turned (t':=s.toks) (fun b o hb e=>(sb.2 b hb).trans e) f0 f1 f3 f4 f5;obtain⟨o,e,c,d⟩:=id Dc;exact⟨u,rfl,Nd (s:={s with heap:=h'}) e c d (by decide) ⟨x,H,I1,ru,⟨rfl,fun ys hy=>by rw[I.list_inj hy hq];exact hx⟩,Dc,fun b hb=>(hf b hb).1⟩⟩
 done:=by
  intro X hP hw hK hc i CZ s σ H E I hf st hg;subst hP hw hK;obtain⟨xs,hq,hx⟩:=hg;obtain⟨its,rv,p,hz⟩:=I.list hq;obtain⟨f0,f1,f2,f3,f4,f5⟩:=hf it (by simp);have hl:=rv.length;exact wpAny_pyNext_list_end (I.ok.hd hc) st p.isList (by simp;omega) fun h' eb=>⟨rfl,I.turned (t':=s.toks) (fun b o hb e=>eb b o hb e) f0 f1 f3 f4 f5⟩
 self:=fun _ _ _ _ _ st h=>wpAny_pyIter_listiter st h
theorem j1{P:Program}{w:World}{K:W.Frag}{tg:Expr}(a it:Addr):Turn P w K tg (Itt K a) [it] it (fun i h=>h.IsTupleIter it a i) where
 mem:=by simp
 obj:=fun i h st b hb=>by
  have e:b=it:=by simpa using hb
  subst e;obtain⟨o,e,c,d⟩:=st;exact⟨o,e,fun v z=>by rw[d]at z;cases z⟩
 keep:=fun i h h' st k=>st.at fun o e=>k it (by simp) o e
 item:=by
  intro X hP hw hK hc i CZ s σ H E I hf st hg;subst hP hw hK;obtain⟨xs,x,hq,hx⟩:=hg;obtain⟨its,rv,p,hz⟩:=I.tuple hq;obtain⟨u,hu,ru⟩:=rv.get hx;obtain⟨f0,f1,f2,f3,f4,f5⟩:=hf it (by simp);refine wpAny_pyNext_tuple_item st (show s.heap.IsTuple a its.toArray from p) (x:=u) (by simpa using hu) fun h' Dc sb=>?_;have I1:Inv X CZ σ H {s with heap:=h'}:=I.turned (t':=s.toks) (fun b o hb e=>(sb.2 b hb).trans e) f0 f1 f3 f4 f5;obtain⟨o,e,c,d⟩:=id Dc;exact⟨u,rfl,Nd (s:={s with heap:=h'}) e c d (by decide) ⟨x,H,I1,ru,⟨rfl,fun ys hy=>by rw[I.tuple_inj hy hq];exact hx⟩,Dc,fun b hb=>(hf b hb).1⟩⟩
 done:=by
  intro X hP hw hK hc i CZ s σ H E I hf st hg;subst hP hw hK;obtain⟨xs,hq,hx⟩:=hg;obtain⟨its,rv,p,hz⟩:=I.tuple hq;obtain⟨f0,f1,f2,f3,f4,f5⟩:=hf it (by simp);have hl:=rv.length;exact wpAny_pyNext_tuple_end (I.ok.hd hc) st (show s.heap.IsTuple a its.toArray from p) (by simp;omega) fun h' eb=>⟨rfl,I.turned (t':=s.toks) (fun b o hb e=>eb b o hb e) f0 f1 f3 f4 f5⟩
 self:=fun _ _ _ _ _ st h=>wpAny_pyIter_tupleiter st h
theorem lq{P:Program}{w:World}{K:PySem.W.Frag}{tg:Expr}(it:Addr)(lo:Int)(n:Nat):Turn P w K tg (Itr lo n) [it] it (fun i h=>IsRangeIter h it (lo+(i:Nat)*1) ((n:Int)-(i:Nat)) 1) where
 mem:=by simp
 obj:=fun i h st b hb=>by
  have e:b=it:=by simpa using hb
  subst e;exact⟨_,st,fun v z=>by
   have z':Data.fields _=Data.cell v:=z;cases z'⟩
 keep:=fun i h h' st k=>k it (by simp) _ st
 item:=by
  intro X hP hw hK hc i CZ s σ H E I hf st hg;subst hP hw hK;obtain⟨f0,f1,f2,f3,f4,f5⟩:=hf it (by simp);have W:=Walks.range (prog:=X.prog) (w:=X.w) (I.ok.hd hc) it lo 1 n;refine W.item i s _ _ hg st fun v h' tk hv Dc kk=>?_;obtain⟨t,rfl⟩:=hv;have I1:Inv X CZ σ H {s with heap:=h',toks:=tk}:=I.turned (fun b o hb e=>kk b o (by simpa using hb) e) f0 f1 f3 f4 f5;refine⟨_,rfl,Nd (s:={s with heap:=h',toks:=tk}) (n:="range_iterator") Dc rfl rfl (by decide) ⟨.int (lo+i),H,I1,⟨t,?_⟩,⟨rfl,rfl⟩,Dc,fun b hb=>(hf b hb).1⟩⟩;rw[Int.mul_one]
 done:=by
  intro X hP hw hK hc i CZ s σ H E I hf st hg;subst hP hw hK;obtain⟨f0,f1,f2,f3,f4,f5⟩:=hf it (by simp);exact wpAny_pyNext_range_end (I.ok.hd hc) st (by have:n≤i:=hg;omega) fun h' eb=>⟨rfl,I.turned (t':=s.toks) (fun b o hb e=>eb b o hb e) f0 f1 f3 f4 f5⟩
 self:=fun _ _ _ _ _ st h=>wpAny_pyIter_rangeiter st h
section
variable{X:Cx}{tg:Expr}
def y8(K:W.Frag)(tl:TE):TI:=fun σ H R=>tl σ H fun x H1=>∃a,x=.ref a∧(∃xs,SqL K H1 a xs)∧R (Itl K a) H1
def iTup(K:W.Frag)(tl:TE):TI:=fun σ H R=>tl σ H fun x H1=>∃a,x=.ref a∧(∃xs,SqT K H1 a xs)∧R (Itt K a) H1
theorem Y5{l:Expr}{tl:TE}(hl:PE X l tl):PI X tg l (y8 X.K tl):=by
 intro CZ s σ H R I h;refine thn (hl CZ s σ H _ I h) fun v s1 C0=>?_;obtain⟨x,H1,I1,r1,q1⟩:=C0;obtain⟨a,e,⟨xs,hq⟩,q⟩:=q1;subst e;cases r1;obtain⟨its,rv,p,hz⟩:=I1.list hq;refine wpAny_pyIter_list p.isList ?_;refine⟨s1.heap.objs.size,[s1.heap.objs.size],_,_,H1,rfl,I1.kept (t':=s1.toks) fun b o e=>af _ e,nR a _,⟨_,pi _ rfl,rfl,rfl⟩,fun b hb=>?_,q⟩;have e:b=s1.heap.objs.size:=by simpa using hb
 subst e;exact I1.fpOk (io _) (I1.hok.fresh (io _))
theorem Wg{l:Expr}{tl:TE}(hl:PE X l tl):PI X tg l (iTup X.K tl):=by
 intro CZ s σ H R I h;refine thn (hl CZ s σ H _ I h) fun v s1 C0=>?_;obtain⟨x,H1,I1,r1,q1⟩:=C0;obtain⟨a,e,⟨xs,hq⟩,q⟩:=q1;subst e;cases r1;obtain⟨its,rv,p,hz⟩:=I1.tuple hq;refine wpAny_pyIter_tuple (show s1.heap.IsTuple a its.toArray from p) ?_;refine⟨s1.heap.objs.size,[s1.heap.objs.size],_,_,H1,rfl,I1.kept (t':=s1.toks) fun b o e=>af _ e,j1 a _,⟨_,pi _ rfl,rfl,rfl⟩,fun b hb=>?_,q⟩;have e:b=s1.heap.objs.size:=by simpa using hb
 subst e;exact I1.fpOk (io _) (I1.hok.fresh (io _))
theorem rc{CZ:List (Addr×Obj)}{σ:St}{H:Hp}{s:Shared}{R:It→Hp→Prop}{E:Value→Shared→Prop}{lo hi:Int}{t u v:Tok}{tk:Nat}(I:Inv X CZ σ H s)(h1:-(2^62)≤lo)(h2:lo<2^62)(h3:-(2^62)≤hi)(h4:hi<2^62)(q:R (Itr lo (hi-lo).toNat) H):wpAny (model X.prog X.w) X.A (pyIter (.ref s.heap.objs.size)) (PIE X CZ σ tg R) E {s with heap:=s.heap.push {cls:=.type "range",data:=.fields #[.int lo t,.int hi u,.int 1 v]},toks:=tk}:=by
 refine wpAny_pyIter_range (IsRange.new ..) (small_one h1 h2 h3 h4) ?_;have I1:Inv X CZ σ H {s with heap:=s.heap.push {cls:=.type "range",data:=.fields #[.int lo t,.int hi u,.int 1 v]},toks:=tk}:=I.kept fun b o e=>af _ e;refine⟨(s.heap.push {cls:=.type "range",data:=.fields #[.int lo t,.int hi u,.int 1 v]}).objs.size,[(s.heap.push {cls:=.type "range",data:=.fields #[.int lo t,.int hi u,.int 1 v]}).objs.size],_,_,H,rfl,
  I1.kept (t':=tk) fun b o e=>af _ e,lq _ lo (hi-lo).toNat,?_,fun b hb=>?_,q⟩
 ·have e1:lo+((0:Nat):Int)*1=lo:=by simp
  have e2:(((hi-lo).toNat:Nat):Int)-((0:Nat):Int)=Builtin.Range.rangeSize lo hi 1:=by rw[rangeSize_one];split <;> omega
  show IsRangeIter _ _ (lo+((0:Nat):Int)*1) ((((hi-lo).toNat:Nat):Int)-((0:Nat):Int)) 1;rw[e1,e2];exact pi _ rfl
 ·have e:b=(s.heap.push {cls:=.type "range",data:=.fields #[.int lo t,.int hi u,.int 1 v]}).objs.size:=by simpa using hb
  subst e;exact I1.fpOk (io _) (I1.hok.fresh (io _))
def yS(ta:TA):TI:=fun σ H R=>ta σ H fun vs H1=>∃j:Int,vs=[.int j]∧-(2^62)≤j∧j<2^62∧R (Itr 0 j.toNat) H1
theorem Ws{a:Expr}{ta:TA}{p pos:Pos}(hg:Gl X "range")(hm:X.mg "range"=none)(ha:PA X [a] ta)(hs:starEach [a] X.env=[(false,eval a X.env)]:=by rfl):PI X tg (.Call (.Name "range" p) [a] [] pos) (yS ta):=by
 intro CZ s σ H R I h;refine Call_ (U2 I hg hm boot_range (Be (thn (ha pos CZ s σ H _ I h) fun us s1 ⟨vs,H1,I1,r1,q1⟩=>?_) hs rfl));obtain⟨j,e,q1,q2,q⟩:=q1;subst e;cases r1 with
 |cons r rr=>
  cases rr;obtain⟨t,rfl⟩:=r;exact call_range_1 (rc I1 (by omega) (by omega) q1 q2 (by simpa using q))
def tFor(wi:TI)(g:TG)(tb:TS):TS:=fun D σ H=>wi σ H fun J H1=>∃W:Nat→Nat→St→Hp→Prop,(∃m,W 0 m σ H1)∧∀i m σ H,W i m σ H→
 (J.stop i H∧D.nx σ H)∨(J.go i H∧∃N:St→Hp→Prop,(∀σ' H',N σ' H'→∃m',m'<m∧W (i+1) m' σ' H')∧∀x H',J.yld i H x H'→g x σ H' fun σ2 H2=>tb {D with nx:=N,ct:=N,bk:=D.nx} σ2 H2)
def fg(fp:List Addr)(h:Heap):List (Addr×Obj):=fp.filterMap fun b=>(h.get? b).map fun o=>(b,o)
theorem U1{fp:List Addr}{h:Heap}{b:Addr}{o:Obj}(hb:b∈fp)(e:h.get? b=some o):(b,o)∈fg fp h:=Bi.mpr ⟨b,hb,by rw[e];rfl⟩
theorem ph{fp:List Addr}{h:Heap}{p:Addr×Obj}(hp:p∈fg fp h):p.1∈fp∧h.get? p.1=some p.2:=by
 obtain⟨b,hb,e⟩:=Bi.mp hp;cases q:h.get? b with
 |none=>rw[q]at e;cases e
 |some o=>
  rw[q]at e;have e':(b,o)=p:=AK e;subst e';exact⟨hb,q⟩
theorem Inv.pinned{CZ:List (Addr×Obj)}{σ:St}{H:Hp}{s:Shared}{fp:List Addr}(I:Inv X CZ σ H s)(hf:∀b∈fp,dg X CZ H b)(ho:∀b∈fp,∃o,s.heap.get? b=some o∧∀v,o.data≠.cell v):Inv X (CZ++fg fp s.heap) σ H s:=
 I.pins_of fun p hp=>(AI.mp hp).elim (fun z=>I.pin p (Ao _ z)) fun z=>by
  obtain⟨hb,e⟩:=ph z;obtain⟨f0,f1,f2,_⟩:=hf p.1 hb;obtain⟨o,e',d⟩:=ho p.1 hb;rw[e]at e';cases e';exact⟨e,f0,f1,f2,d⟩
theorem Inv.unpinned{CZ pl:List (Addr×Obj)}{σ:St}{H:Hp}{s:Shared}(I:Inv X (CZ++pl) σ H s):Inv X CZ σ H s:=I.pins_of fun p hp=>I.pin p (Ao _ (Bh _ hp))
theorem Xm{iter:Expr}{body:List Stmt}{wi:TI}{g:TG}{tb:TS}{pos:Pos}(hp:PassesOwn (model X.prog X.w) X.A X.env X.xe)(hc:X.calm=true)(hi:PI X tg iter wi)(hg:PG X tg g)(hb:PSs X body tb)(hs:∀x,foldedSetIterable iter X.env x=pure x:=by intro _;rfl):PS X (.For tg iter body [] pos) (tFor wi g tb):=by
 intro CZ s σ H D I h;refine wpAny_For (thn (hi CZ s σ H _ I h) fun v s1 h1=>thn h1 fun itv s2 h2=>?_) hs;obtain⟨it,fp,tn,J,H2,e,I2,T,st2,f2,W,⟨m0,w0⟩,turn⟩:=h2;subst e;have stat:∀{H':Hp},(∀b∈fp,H' b=none)→∀b∈fp,dg X CZ H' b:=fun hn b hb=>⟨hn b hb,(f2 b hb).2⟩;refine codeAny_forLoop_any (fun n s'=>∃i σ' H',Inv X CZ σ' H' s'∧tn i s'.heap∧(∀b∈fp,H' b=none)∧W i n σ' H') ?_ m0 ⟨0,σ,H2,I2,st2,fun b hb=>(f2 b hb).1,w0⟩;rintro n s3 ⟨i,σ3,H3,I3,st3,fr3,w3⟩
 rcases turn i n σ3 H3 w3 with⟨stop,qn⟩|⟨go,N,hN,step⟩
 ·refine B3 hp (thn (T.done X rfl rfl rfl hc i CZ s3 σ3 H3 X.xe I3 (stat fr3) st3 stop) fun r s4 C0=>?_);obtain⟨hr,I4⟩:=C0;subst hr;exact Cr ⟨σ3,H3,I4,qn⟩
 ·refine B3 hp (thn (T.item X rfl rfl rfl hc i CZ s3 σ3 H3 X.xe I3 (stat fr3) st3 go) fun r s4 C0=>?_);obtain⟨u,hr,h4⟩:=C0;subst hr;refine B3 hp (thn h4 fun _ s5 C0=>?_);obtain⟨x,H5,I5,r5,y5,st5,fr5⟩:=C0;have I5':=I5.pinned (stat fr5) (T.obj _ _ st5);refine B3 hp (thn (hg _ s5 σ3 H5 x u _ I5' r5 (step x H5 y5)) fun _ s6 C0=>?_);obtain⟨σ6,H6,I6,q6⟩:=C0;refine B3 hp (thn (hb _ s6 σ6 H6 _ I6 q6) fun f s7 q7=>?_);have again:∀{σ7:St}{H7:Hp},Inv X (CZ++fg fp s5.heap) σ7 H7 s7→N σ7 H7→∃m,m<n∧∃i σ' H',Inv X CZ σ' H' s7∧tn i s7.heap∧(∀b∈fp,H' b=none)∧W i m σ' H':=fun{σ7 H7} I7 n7=>by
   obtain⟨m',hm,w7⟩:=hN σ7 H7 n7;refine⟨m',hm,i+1,σ7,H7,I7.unpinned,T.keep _ _ _ st5 fun b hb o e=>(I7.pin (b,o) (Ao _ (Ao _ (U1 hb e)))).1,fun b hb=>?_,w7⟩;obtain⟨o,e,d⟩:=T.obj _ _ st5 b hb;exact(I7.pin (b,o) (Ao _ (Ao _ (U1 hb e)))).2.1
  cases f with
  |next=>obtain⟨σ7,H7,I7,n7⟩:=q7;exact again I7 n7
  |cont=>obtain⟨σ7,H7,I7,n7⟩:=q7;exact again I7 n7
  |brk=>obtain⟨σ7,H7,I7,q7⟩:=q7;exact⟨σ7,H7,I7.unpinned,q7⟩
  |ret v=>obtain⟨x7,σ7,H7,I7,r7,q7⟩:=q7;exact⟨x7,σ7,H7,I7.unpinned,r7,q7⟩
end
theorem Xg{K:PySem.W.Frag}{a:Addr}{xs:List V}{g:TG}{tb:TS}{D:Ends}{σ:St}{H:Hp}(Pv:Nat→St→Hp→Prop)(h0:Pv 0 σ H)(hl:∀i σ H,i≤xs.length→Pv i σ H→SqL K H a xs)(hs:∀i x σ H,xs[i]?=some x→Pv i σ H→g x σ H fun σ2 H2=>tb {D with nx:=Pv (i+1),ct:=Pv (i+1),bk:=D.nx} σ2 H2)(hd:∀σ H,Pv xs.length σ H→D.nx σ H):
  ∃W:Nat→Nat→St→Hp→Prop,(∃m,W 0 m σ H)∧∀i m σ H,W i m σ H→
   ((Itl K a).stop i H∧D.nx σ H)∨((Itl K a).go i H∧∃N:St→Hp→Prop,(∀σ' H',N σ' H'→∃m',m'<m∧W (i+1) m' σ' H')∧∀x H',(Itl K a).yld i H x H'→g x σ H' fun σ2 H2=>tb {D with nx:=N,ct:=N,bk:=D.nx} σ2 H2):=by
 refine⟨fun i m σ H=>m=xs.length-i∧i≤xs.length∧Pv i σ H,⟨xs.length,by simp,Nat.zero_le _,h0⟩,?_⟩;rintro i m σ H ⟨rfl,hi,p⟩;have q:=hl i σ H hi p;by_cases C5:i<xs.length
 ·refine .inr ⟨⟨xs,xs[i],q,by simp[C5]⟩,Pv (i+1),fun σ' H' p'=>⟨xs.length-(i+1),by omega,rfl,C5,p'⟩,fun x H' y=>?_⟩;obtain⟨e,y⟩:=y;subst e;exact hs i x σ _ (y xs q) p
 ·have e:i=xs.length:=by omega
  subst e;exact .inl ⟨⟨xs,q,io _⟩,hd σ H p⟩
theorem mL{K:PySem.W.Frag}{a:Addr}{xs:List V}{g:TG}{tb:TS}{D:Ends}{σ:St}{H:Hp}(Pv:Nat→St→Hp→Prop)(h0:Pv 0 σ H)(hl:∀i σ H,i≤xs.length→Pv i σ H→SqT K H a xs)(hs:∀i x σ H,xs[i]?=some x→Pv i σ H→g x σ H fun σ2 H2=>tb {D with nx:=Pv (i+1),ct:=Pv (i+1),bk:=D.nx} σ2 H2)(hd:∀σ H,Pv xs.length σ H→D.nx σ H):
  ∃W:Nat→Nat→St→Hp→Prop,(∃m,W 0 m σ H)∧∀i m σ H,W i m σ H→
   ((Itt K a).stop i H∧D.nx σ H)∨((Itt K a).go i H∧∃N:St→Hp→Prop,(∀σ' H',N σ' H'→∃m',m'<m∧W (i+1) m' σ' H')∧∀x H',(Itt K a).yld i H x H'→g x σ H' fun σ2 H2=>tb {D with nx:=N,ct:=N,bk:=D.nx} σ2 H2):=by
 refine⟨fun i m σ H=>m=xs.length-i∧i≤xs.length∧Pv i σ H,⟨xs.length,by simp,Nat.zero_le _,h0⟩,?_⟩;rintro i m σ H ⟨rfl,hi,p⟩;have q:=hl i σ H hi p;by_cases C5:i<xs.length
 ·refine .inr ⟨⟨xs,xs[i],q,by simp[C5]⟩,Pv (i+1),fun σ' H' p'=>⟨xs.length-(i+1),by omega,rfl,C5,p'⟩,fun x H' y=>?_⟩;obtain⟨e,y⟩:=y;subst e;exact hs i x σ _ (y xs q) p
 ·have e:i=xs.length:=by omega
  subst e;exact .inl ⟨⟨xs,q,io _⟩,hd σ H p⟩
theorem Rb{lo:Int}{n:Nat}{g:TG}{tb:TS}{D:Ends}{σ:St}{H:Hp}(Pv:Nat→St→Hp→Prop)(h0:Pv 0 σ H)(hs:∀i σ H,i<n→Pv i σ H→g (.int (lo+i)) σ H fun σ2 H2=>tb {D with nx:=Pv (i+1),ct:=Pv (i+1),bk:=D.nx} σ2 H2)(hd:∀σ H,Pv n σ H→D.nx σ H):
  ∃W:Nat→Nat→St→Hp→Prop,(∃m,W 0 m σ H)∧∀i m σ H,W i m σ H→
   ((Itr lo n).stop i H∧D.nx σ H)∨((Itr lo n).go i H∧∃N:St→Hp→Prop,(∀σ' H',N σ' H'→∃m',m'<m∧W (i+1) m' σ' H')∧∀x H',(Itr lo n).yld i H x H'→g x σ H' fun σ2 H2=>tb {D with nx:=N,ct:=N,bk:=D.nx} σ2 H2):=by
 refine⟨fun i m σ H=>m=n-i∧i≤n∧Pv i σ H,⟨n,by simp,Nat.zero_le _,h0⟩,?_⟩;rintro i m σ H ⟨rfl,hi,p⟩;by_cases C5:i<n
 ·refine .inr ⟨C5,Pv (i+1),fun σ' H' p'=>⟨n-(i+1),by omega,rfl,C5,p'⟩,fun x H' y=>?_⟩;obtain⟨e,y⟩:=y;subst e y;exact hs i σ _ C5 p
 ·have e:i=n:=by omega
  subst e;exact .inl ⟨io _,hd σ H p⟩
theorem q_{c:TT}{tb:TS}{D:Ends}{σ:St}{H:Hp}(Pv:St→Hp→Prop)(μ:St→Hp→Nat)(h0:Pv σ H)(hs:∀σ H,Pv σ H→c σ H fun b H1=>if b=true then tb {D with nx:=fun σ' H'=>Pv σ' H'∧μ σ' H'<μ σ H,ct:=fun σ' H'=>Pv σ' H'∧μ σ' H'<μ σ H,bk:=D.nx} σ H1 else D.nx σ H1)(mono:∀σ H Q Q',(∀b H1,Q b H1→Q' b H1)→c σ H Q→c σ H Q'):sC c tb D σ H:=by
 refine⟨fun m σ H=>m=μ σ H∧Pv σ H,⟨_,rfl,h0⟩,?_⟩;rintro m σ H ⟨rfl,p⟩;refine mono σ H _ _ (fun b H1 q=>?_) (hs σ H p);cases b with
 |true=>exact⟨_,fun σ' H' ⟨p',l⟩=>⟨_,l,rfl,p'⟩,q⟩
 |false=>exact q
abbrev R2:=V→V→Hp→VK→Prop
def OpR(X:Cx)(f:Value→Value→Sem Value)(r:R2):Prop:=
 ∀(CZ:List (Addr×Obj))(s:Shared)(σ:St)(H:Hp)(x y:V)(v u:Value)(Q:VK),Inv X CZ σ H s→RelV x v→RelV y u→r x y H Q→
  wpAny (model X.prog X.w) X.A (f v u) (EP X CZ σ Q) X.xe s
def bu(X:Cx)(f:Value)(r:List V→Hp→VK→Prop):Prop:=
 ∀(CZ:List (Addr×Obj))(s:Shared)(σ:St)(H:Hp)(xs:List V)(us:List Value)(Q:VK),Inv X CZ σ H s→Vals xs us→r xs H Q→
  wpAny (model X.prog X.w) X.A (call f us) (EP X CZ σ Q) X.xe s
def tOp(r:R2)(ta tb:TE):TE:=fun σ H Q=>ta σ H fun x H1=>tb σ H1 fun y H2=>r x y H2 Q
def rI(C:Int→Int→Prop)(g:Int→Int→V):R2:=fun x y H Q=>∃i j,x=.int i∧y=.int j∧C i j∧Q (g i j) H
def rI0(g:Int→Int→V):R2:=fun x y H Q=>∃i j,x=.int i∧y=.int j∧Q (g i j) H
section
variable{X:Cx}{a b c:Expr}{ta tb tc:TE}{pos:Pos}
theorem xn(ha:PE X a ta)(hb:PE X b tb){CZ:List (Addr×Obj)}{s:Shared}{σ:St}{H:Hp}{R:V→V→Hp→Prop}(I:Inv X CZ σ H s)(h:ta σ H fun x H1=>tb σ H1 fun y H2=>R x y H2){Q:Value→Shared→Prop}{f:Value→Value→Sem Value}(hf:∀v u s2 x y H2,Inv X CZ σ H2 s2→RelV x v→RelV y u→R x y H2→wpAny (model X.prog X.w) X.A (f v u) Q X.xe s2):
  wpAny (model X.prog X.w) X.A (eval a X.env) (fun v s₁=>wpAny (model X.prog X.w) X.A (eval b X.env) (fun u s₂=>wpAny (model X.prog X.w) X.A (f v u) Q X.xe s₂) X.xe s₁) X.xe s:=by
 refine thn (ha CZ s σ H _ I h) fun v s1 C0=>?_;obtain⟨x,H1,I1,r1,q1⟩:=C0;refine thn (hb CZ s1 σ H1 _ I1 q1) fun u s2 C0=>?_;obtain⟨y,H2,I2,r2,q2⟩:=C0;exact hf v u s2 x y H2 I2 r1 r2 q2
theorem Ze{op:Operator}{r:R2}(ho:OpR X (binaryOp op) r)(ha:PE X a ta)(hb:PE X b tb):PE X (.BinOp a op b pos) (tOp r ta tb):=by
 intro CZ s σ H Q I h;exact wpAny_BinOp (xn ha hb I h fun v u s2 x y H2 I2 rx ry q=>ho CZ s2 σ H2 x y v u Q I2 rx ry q)
theorem opI{f:Value→Value→Sem Value}{C:Int→Int→Prop}{g:Int→Int→Int}(rule:∀(i j:Int) (t u:Tok) (s:Shared) (Q:Value→Shared→Prop) (E:Value→Shared→Prop),C i j→Q (.int (g i j) s.toks) {s with toks:=s.toks+1}→wpAny (model X.prog X.w) X.A (f (.int i t) (.int j u)) Q E s):
  OpR X f (rI C fun i j=>.int (g i j)):=by
 intro CZ s σ H x y v u Q I rx ry h;obtain⟨i,j,rfl,rfl,hc,q⟩:=h;obtain⟨t,rfl⟩:=rx;obtain⟨t',rfl⟩:=ry;exact rule i j t t' s _ _ hc ⟨.int (g i j),H,I.tok _,⟨_,rfl⟩,q⟩
theorem yT{f:Value→Value→Sem Value}{g:Int→Int→Int}(rule:∀(i j:Int) (t u:Tok) (s:Shared) (Q:Value→Shared→Prop) (E:Value→Shared→Prop),Q (.int (g i j) s.toks) {s with toks:=s.toks+1}→wpAny (model X.prog X.w) X.A (f (.int i t) (.int j u)) Q E s):
  OpR X f (rI0 fun i j=>.int (g i j)):=by
 intro CZ s σ H x y v u Q I rx ry h;obtain⟨i,j,rfl,rfl,q⟩:=h;obtain⟨t,rfl⟩:=rx;obtain⟨t',rfl⟩:=ry;exact rule i j t t' s _ _ ⟨.int (g i j),H,I.tok _,⟨_,rfl⟩,q⟩
theorem tZ{f:Value→Value→Sem Value}{g:Int→Int→Bool}(rule:∀(i j:Int) (t u:Tok) (s:Shared) (Q:Value→Shared→Prop) (E:Value→Shared→Prop),Q (.bool (g i j)) s→wpAny (model X.prog X.w) X.A (f (.int i t) (.int j u)) Q E s):
  OpR X f (rI0 fun i j=>.bl (g i j)):=by
 intro CZ s σ H x y v u Q I rx ry h;obtain⟨i,j,rfl,rfl,q⟩:=h;obtain⟨t,rfl⟩:=rx;obtain⟨t',rfl⟩:=ry;exact rule i j t t' s _ _ ⟨.bl (g i j),H,I,rfl,q⟩
def yQ(i j:Int):Prop:=0<j∧j<1073741824
def yz(i j:Int):Prop:=0≤j∧j≤1000000∧i.natAbs<2^64
def CMul(i j:Int):Prop:=(-(2^64)<i∧i<2^64)∨(-(2^64)<j∧j<2^64)
theorem CMul.ok{i j:Int}(h:CMul i j):IntMulOk i j:=by
 rcases h with⟨h1,h2⟩|⟨h1,h2⟩
 ·exact .of_left (intBits_le_64 h1 h2)
 ·exact .of_right (intBits_le_64 h1 h2)
theorem Y4:OpR X (binaryOp .Add) (rI0 fun i j=>.int (i+j)):=yT fun _ _ _ _ _ _ _ q=>add_int q
theorem W7:OpR X (binaryOp .Sub) (rI0 fun i j=>.int (i-j)):=yT fun _ _ _ _ _ _ _ q=>sub_int q
theorem Wh:OpR X (binaryOp .Mult) (rI CMul fun i j=>.int (i*j)):=opI fun _ _ _ _ _ _ _ hc q=>mul_int q hc.ok
theorem gI:OpR X (binaryOp .FloorDiv) (rI yQ fun i j=>.int (i / j)):=opI fun i j _ _ _ _ _ hc q=>by
 have h1:(0:Int)<j:=hc.1;have h2:j<1073741824:=hc.2;exact floordiv_int (by omega) (by rw[Int.fdiv_eq_ediv_of_nonneg i (by omega)];exact q) (.inl (PyProof.noPylong_small (by omega)))
theorem Xo:OpR X (binaryOp .Mod) (rI (fun _ j=>0<j) fun i j=>.int (i % j)):=opI fun i j _ _ _ _ _ hc q=>by
 have h1:(0:Int)<j:=hc;exact mod_int' (by omega) (by rw[Int.fmod_eq_emod_of_nonneg i (by omega)];exact q)
theorem kZ:OpR X (binaryOp .Pow) (rI yz fun i j=>.int (i^j.toNat)):=opI fun _ _ _ _ _ _ _ hc q=>pow_int_small hc.1 hc.2.1 hc.2.2 q
theorem xt:OpR X (binaryOp .LShift) (rI yz fun i j=>.int (i*2^j.toNat)):=opI fun _ _ _ _ _ _ _ hc q=>lshift_int_small hc.1 hc.2.1 hc.2.2 q
end
def yL:V→V→Bool
 |.non,.non=>true | .non,.int _=>true | .int _,.non=>true | .non,.bl _=>true | .bl _,.non=>true | .non,.str _=>true | .str _,.non=>true
 |.int _,.int _=>true | .bl _,.bl _=>true | .str _,.str _=>true | .byt _,.byt _=>true
 |.int _,.str _=>true | .str _,.int _=>true | .bl _,.str _=>true | .str _,.bl _=>true
 |_,_=>false
def rEq:R2:=fun x y H Q=>yL x y=true∧Q (.bl (decide (x=y))) H
def rNe:R2:=fun x y H Q=>yL x y=true∧Q (.bl (!decide (x=y))) H
theorem my{i j:Int}:decide (V.int i=V.int j)=(i==j):=by
 rw[CK];simp
theorem sR{i j:Bool}:decide (V.bl i=V.bl j)=(i==j):=by
 rw[CK];simp
theorem mP{i j:Str}:decide (V.str i=V.str j)=(i==j):=by
 rw[CK];simp
theorem m_{i j:Array UInt8}:decide (V.byt i=V.byt j)=(i.toList==j.toList):=by
 rw[CK];cases i;cases j;simp
section
variable{X:Cx}{a b c:Expr}{ta tb tc:TE}{pos:Pos}
theorem Zw{CZ:List (Addr×Obj)}{σ:St}{H:Hp}{s:Shared}{Q:VK}{k k':Bool}(I:Inv X CZ σ H s)(q:Q (.bl k) H)(e:k=k'):EP X CZ σ Q (.bool k') s:=by
 subst e;exact⟨.bl k,H,I,rfl,q⟩
theorem P2:OpR X (compareOp .Eq) rEq:=by
 intro CZ s σ H x y v u Q I rx ry h;obtain⟨hs,q⟩:=h;cases x with
 |non=>
  cases rx;cases y with
  |non=>cases ry;exact PySem.EqNone.eq_none_none (Zw I q (by simp))
  |bl j=>cases ry;exact PySem.EqNone.eq_none_bool (Zw I q (by simp))
  |int j=>obtain⟨t',rfl⟩:=ry;exact PySem.EqNone.eq_none_int (Zw I q (by simp))
  |str j=>obtain⟨t',rfl⟩:=ry;exact PySem.EqNone.eq_none_str (Zw I q (by simp))
  |_=>exact absurd (show false=true from hs) Al
 |bl i=>
  cases rx;cases y with
  |non=>cases ry;exact PySem.EqNone.eq_bool_none (Zw I q (by simp))
  |bl j=>cases ry;exact eq_bool (Zw I q sR)
  |str j=>obtain⟨t',rfl⟩:=ry;exact PySem.EqMixed.eq_bool_str (Zw I q (by simp))
  |_=>exact absurd (show false=true from hs) Al
 |int i=>
  obtain⟨t,rfl⟩:=rx;cases y with
  |non=>cases ry;exact PySem.EqNone.eq_int_none (Zw I q (by simp))
  |int j=>obtain⟨t',rfl⟩:=ry;exact eq_int (Zw I q my)
  |str j=>obtain⟨t',rfl⟩:=ry;exact PySem.EqMixed.eq_int_str (Zw I q (by simp))
  |_=>exact absurd (show false=true from hs) Al
 |str i=>
  obtain⟨t,rfl⟩:=rx;cases y with
  |non=>cases ry;exact PySem.EqNone.eq_str_none (Zw I q (by simp))
  |bl j=>cases ry;exact PySem.EqMixed.eq_str_bool (Zw I q (by simp))
  |int j=>obtain⟨t',rfl⟩:=ry;exact PySem.EqMixed.eq_str_int (Zw I q (by simp))
  |str j=>obtain⟨t',rfl⟩:=ry;exact eq_str (Zw I q mP)
  |_=>exact absurd (show false=true from hs) Al
 |byt i=>
  obtain⟨t,rfl⟩:=rx;cases y with
  |byt j=>obtain⟨t',rfl⟩:=ry;exact W.eq_bytes (Zw I q m_)
  |_=>exact absurd (show false=true from hs) Al
 |_=>cases y <;> exact absurd (show false=true from hs) Al
theorem P1:OpR X (compareOp .NotEq) rNe:=by
 intro CZ s σ H x y v u Q I rx ry h;obtain⟨hs,q⟩:=h;cases x with
 |non=>
  cases rx;cases y with
  |non=>cases ry;exact PySem.EqNone.ne_none_none (Zw I q (by simp))
  |bl j=>cases ry;exact PySem.EqNone.ne_none_bool (Zw I q (by simp))
  |int j=>obtain⟨t',rfl⟩:=ry;exact PySem.EqNone.ne_none_int (Zw I q (by simp))
  |str j=>obtain⟨t',rfl⟩:=ry;exact PySem.EqNone.ne_none_str (Zw I q (by simp))
  |_=>exact absurd (show false=true from hs) Al
 |bl i=>
  cases rx;cases y with
  |non=>cases ry;exact PySem.EqNone.ne_bool_none (Zw I q (by simp))
  |bl j=>cases ry;exact ne_bool (Zw I q (Bm not sR))
  |str j=>obtain⟨t',rfl⟩:=ry;exact PySem.EqMixed.ne_bool_str (Zw I q (by simp))
  |_=>exact absurd (show false=true from hs) Al
 |int i=>
  obtain⟨t,rfl⟩:=rx;cases y with
  |non=>cases ry;exact PySem.EqNone.ne_int_none (Zw I q (by simp))
  |int j=>obtain⟨t',rfl⟩:=ry;exact ne_int (Zw I q (Bm not my))
  |str j=>obtain⟨t',rfl⟩:=ry;exact PySem.EqMixed.ne_int_str (Zw I q (by simp))
  |_=>exact absurd (show false=true from hs) Al
 |str i=>
  obtain⟨t,rfl⟩:=rx;cases y with
  |non=>cases ry;exact PySem.EqNone.ne_str_none (Zw I q (by simp))
  |bl j=>cases ry;exact PySem.EqMixed.ne_str_bool (Zw I q (by simp))
  |int j=>obtain⟨t',rfl⟩:=ry;exact PySem.EqMixed.ne_str_int (Zw I q (by simp))
  |str j=>obtain⟨t',rfl⟩:=ry;exact ne_str (Zw I q (Bm not mP))
  |_=>exact absurd (show false=true from hs) Al
 |byt i=>
  obtain⟨t,rfl⟩:=rx;cases y with
  |byt j=>obtain⟨t',rfl⟩:=ry;exact W.ne_bytes (Zw I q (Bm not m_))
  |_=>exact absurd (show false=true from hs) Al
 |_=>cases y <;> exact absurd (show false=true from hs) Al
theorem Oz:OpR X (compareOp .Lt) (rI0 fun i j=>.bl (decide (i<j))):=tZ fun _ _ _ _ _ _ _ q=>lt_int q
theorem mK:OpR X (compareOp .LtE) (rI0 fun i j=>.bl (decide (i≤j))):=tZ fun _ _ _ _ _ _ _ q=>le_int q
theorem U7:OpR X (compareOp .Gt) (rI0 fun i j=>.bl (decide (j<i))):=tZ fun _ _ _ _ _ _ _ q=>gt_int q
theorem N1:OpR X (compareOp .GtE) (rI0 fun i j=>.bl (decide (j≤i))):=tZ fun _ _ _ _ _ _ _ q=>ge_int q
theorem Oy:OpR X (compareOp .Lt) (fun x y H Q=>∃i j,x=.str i∧y=.str j∧Q (.bl (decide (i.cps.toList<j.cps.toList))) H):=by
 intro CZ s σ H x y v u Q I rx ry h;obtain⟨i,j,rfl,rfl,q⟩:=h;obtain⟨t,rfl⟩:=rx;obtain⟨t',rfl⟩:=ry;exact lt_str (Zw I q rfl)
theorem pG:OpR X (compareOp .In) (fun x y H Q=>∃i j,x=.str i∧y=.str j∧Q (.bl (!(Builtin.Str.occurrences j i 0 j.length 1).isEmpty)) H):=by
 intro CZ s σ H x y v u Q I rx ry h;obtain⟨i,j,rfl,rfl,q⟩:=h;obtain⟨t,rfl⟩:=rx;obtain⟨t',rfl⟩:=ry;exact in_str (Zw I q rfl)
theorem kt:OpR X (compareOp .Is) (fun x y H Q=>y=.non∧Q (.bl (decide (x=.non))) H):=by
 intro CZ s σ H x y v u Q I rx ry h;obtain⟨rfl,q⟩:=h;cases ry;refine is_none_gen (Zw I q ?_);cases x <;> first
  | (cases rx;rfl)
  | (obtain⟨t,rfl⟩:=rx;rfl)
theorem ue:OpR X (compareOp .IsNot) (fun x y H Q=>y=.non∧Q (.bl (!decide (x=.non))) H):=by
 intro CZ s σ H x y v u Q I rx ry h;obtain⟨rfl,q⟩:=h;cases ry;refine isnot_none_gen (Zw I q ?_);cases x <;> first
  | (cases rx;rfl)
  | (obtain⟨t,rfl⟩:=rx;rfl)
theorem Zl(b:Expr){op:CmpOp}(h:op≠.In:=by decide)(h2:op≠.NotIn:=by decide):behindInMarks op b=false:=by
 have e1:(op==CmpOp.In)=false:=by cases op <;> first | rfl | exact absurd rfl h
 have e2:(op==CmpOp.NotIn)=false:=by cases op <;> first | rfl | exact absurd rfl h2
 cases b <;> simp[behindInMarks,e1,e2]
theorem Xi{op:CmpOp}{r:R2}(ho:OpR X (compareOp op) r)(ha:PE X a ta)(hb:PE X b tb)(hm:behindInMarks op b=false):PE X (.Compare a [op] [b] pos) (tOp r ta tb):=by
 intro CZ s σ H Q I h;exact wpAny_Compare1 (xn ha hb I h fun v u s2 x y H2 I2 rx ry q=>ho CZ s2 σ H2 x y v u Q I2 rx ry q) hm
def yR(t:TE):TT:=fun σ H Q=>t σ H fun x H'=>∃k,x=.bl k∧Q k H'
theorem Zn{op:CmpOp}{r:R2}(ho:OpR X (compareOp op) r)(ha:PE X a ta)(hb:PE X b tb)(hm:behindInMarks op b=false):PT X (.Compare a [op] [b] pos) (yR (tOp r ta tb)):=by
 intro CZ s σ H Q I h;refine wpAny_isTrue_Compare1 (thn (ha CZ s σ H _ I h) fun v s1 ⟨x,H1,I1,r1,q1⟩=>thn (hb CZ s1 σ H1 _ I1 q1) fun u s2 ⟨y,H2,I2,r2,q2⟩=>
  thn (ho CZ s2 σ H2 x y v u _ I2 r1 r2 q2) fun c s3 ⟨z,H3,I3,r3,k,e,q3⟩=>?_) hm
 subst e;cases r3;exact B5 ⟨H3,I3,q3⟩
theorem R9:(sizeLine:Nat)<2^63:=by rw[sizeLine_eq];decide
theorem Vw:OpR X (binaryOp .Add) (fun x y H Q=>∃i j,x=.str i∧y=.str j∧i.length+j.length≤sizeLine∧Q (.str (i++j)) H):=by
 intro CZ s σ H x y v u Q I rx ry h;obtain⟨i,j,rfl,rfl,hz,q⟩:=h;obtain⟨t,rfl⟩:=rx;obtain⟨t',rfl⟩:=ry;exact add_str (fun t' tk=>⟨.str (i++j),H,I.tok _,⟨_,rfl⟩,q⟩) hz
theorem Wx{x:V}{us:List Value}(r:Vals [x] us):∃u,us=[u]∧RelV x u:=by
 cases r with
 |cons r1 r2=>cases r2;exact⟨_,rfl,r1⟩
theorem vX{x y:V}{us:List Value}(r:Vals [x,y] us):∃u w',us=[u,w']∧RelV x u∧RelV y w':=by
 cases r with
 |cons r1 r2=>
  cases r2 with
  |cons r3 r4=>cases r4;exact⟨_,_,rfl,r1,r3⟩
theorem Nm(hc:X.calm=true):bu X (.builtin "min") (fun xs H Q=>∃i j,xs=[.int i,.int j]∧Q (.int (if j<i then j else i)) H):=by
 intro CZ s σ H xs us Q I r h;obtain⟨i,j,rfl,q⟩:=h;obtain⟨u,w',rfl,⟨t,rfl⟩,⟨t',rfl⟩⟩:=vX r;refine min_two_ints (I.ok.hd hc) fun h' tk k=>⟨_,H,I.kept k,?_,q⟩;by_cases hj:j<i
 ·rw[Ah hj,Ah hj];exact⟨_,rfl⟩
 ·rw[Aj hj,Aj hj];exact⟨_,rfl⟩
end
structure ObjM(h:Heap)(x dx C:Addr)(mA:Str→Option Value):Prop where
 obj:h.get? x=some (W.instObj C dx)
 ns:h.Ns1 dx mA
 ne:dx≠x
theorem oq{h:Heap}{dx:Addr}{mA:Str→Option Value}(n:h.Ns1 dx mA):∃od,h.get? dx=some od∧∀name,W.lookIn name od=some (mA name):=by
 obtain⟨o,es,ep,ho,hd,hk,_,hm⟩:=n;refine⟨o,ho,fun name=>?_⟩;have e:=hm name;unfold nsFind findBy at e;rw[←Array.find?_toList]at e;unfold W.lookIn;rw[hd];dsimp only
 split
 ·rename_i y q;rw[q]at e;exact Bm some e
 ·rename_i q;rw[q]at e;have a:es.toList.any (·.refKey)=false:=by
   rw[List.any_eq_false];intro y hy;obtain⟨z,t,hkey⟩:=hk y (Array.mem_toList_iff.mp hy);simp[DictEntry.refKey,hkey]
  have a':¬es.toList.any (·.refKey)=true:=by rw[a];exact Al
  rw[Aj a'];exact Bm some e
theorem ObjM.look{h:Heap}{x dx C:Addr}{mA:Str→Option Value}(I:ObjM h x dx C mA):∃od,W.InstAt h x (W.instObj C dx) C (some od)∧∀name,W.lookIn name od=some (mA name):=
 let ⟨od,ho,hl⟩:=oq I.ns
 ⟨od,⟨I.obj,rfl,rfl,ho⟩,hl⟩
section
variable{prog:Program}{w:World}{A:Around}{E:Value→Shared→Prop}{s:Shared}{K:W.Frag}{x dx C f:Addr}{mA:Str→Option Value}{name:Str}{v:Value}
end
theorem RelO.some_of{v:V}{o:Option Value}(r:RelO (some v) o):∃u,o=some u∧RelV v u:=by
 cases o with
 |none=>exact(show False from r).elim
 |some u=>exact⟨u,rfl,r⟩
section
variable{P:Program}{w:World}{H H':Hp}{h h':Heap}{a C dx:Addr}{fs fs':List (Str×V)}
theorem ui(hok:HOk P w H h)(e:H a=some (.ins C dx fs)):∃mA,ObjM h a dx C mA∧(∀f,RelO (fs.lookup f) (mA f))∧PySem.Within mA (fs.map (·.1))∧fs.length≤1000∧H dx=some (.own a):=by
 obtain⟨d,z,ne,ob,mA,n,r,q⟩:=(show ObjOk P w H h a (.ins C dx fs)from hok a _ e);exact⟨mA,⟨ob,n,ne⟩,r,q,z,d⟩
end
structure Cls(K:W.Frag)(C:Addr):Prop where
 pg:W.plainGet K C Str.empty=true
 hd:W.hasDictIn K C=true
 po:W.plainOver K C=true
 sa:W.findIn K (.ref C) "__setattr__"=some (some (.builtin "object.__setattr__"))
theorem Cls.get{K:W.Frag}{C:Addr}(c:Cls K C)(f:Str):W.plainGet K C f=true:=c.pg
section
variable{X:Cx}{CZ:List (Addr×Obj)}{σ:St}{H:Hp}{s:Shared}{a C dx:Addr}{fs:List (Str×V)}{f:Str}{v:V}{A:Around}{E:Value→Shared→Prop}
end
section
variable{X:Cx}{o e value:Expr}{f:Str}{pos pos' tpos:Pos}{ta tv:TE}
end
section
variable{X:Cx}{CZ:List (Addr×Obj)}{σ:St}{H:Hp}{s:Shared}{A:Around}{E:Value→Shared→Prop}{Q:Value→Shared→Prop}{c:Value}{b:Bool}
inductive TyOf(K:W.Frag)(H:Hp):V→Value→Prop where
 |non:TyOf K H .non (.type "NoneType")
 |bl (x:Bool):TyOf K H (.bl x) (.type "bool")
 |int (i:Int):TyOf K H (.int i) (.type "int")
 |str (x:Str):TyOf K H (.str x) (.type "str")
 |flt (x:UInt64):TyOf K H (.flt x) (.type "float")
 |lst {a:Addr} {xs:List V} (e:H a=some (.lst xs)):TyOf K H (.ref a) (.type "list")
 |frz {a:Addr} {o:Obj} {xs:List V} (e:H a=some (.frz o (.lst xs))):TyOf K H (.ref a) (.type "list")
 |tup {a:Addr} {xs:List V} (e:H a=some (.tup xs)):TyOf K H (.ref a) (.type "tuple")
 |dK {a:Addr} {kvs:List (Key×V)} (e:H a=some (.dK kvs)):TyOf K H (.ref a) (.type "dict")
 |dT {a:Addr} {kvs:List (List Key×V)} (e:H a=some (.dT kvs)):TyOf K H (.ref a) (.type "dict")
 |ins {a C dx:Addr} {fs:List (Str×V)} (e:H a=some (.ins C dx fs)) (cl:Cls K C) (ha:W.findIn K (.ref C) "__class__"=some (some (.builtin "object.__class__")))
   (hn:W.specialIn K (.builtin "object.__class__") "__get__"=some (some (.builtin "getset_descriptor.__get__"))) (htk:W.takesIn K (.builtin "object.__class__")=some true)
   (hm:W.mroIn K C (.type "object")=some true):TyOf K H (.ref a) (.ref C)
theorem nG{x:V}{u t:Value}(I:Inv X CZ σ H s)(rx:RelV x u)(ty:TyOf X.K H x t)(e:W.kitOne X.K t c=some b)(h:∀tk,Q (.bool b) {s with toks:=tk}):
  wpAny (model X.prog X.w) A (call (.builtin "isinstance") [u,c]) Q E s:=by
 cases ty with
 |non=>cases (show u=Value.none from rx);exact Ct W.kitx_none I.kIn True.intro e (fun z=>nomatch z) h
 |bl y=>cases (show u=Value.bool y from rx);exact Ct W.kitx_bool I.kIn True.intro e (fun z=>nomatch z) h
 |int i=>obtain⟨t,q⟩:=(show ∃t,u=Value.int i t from rx);cases q;exact Ct W.kitx_int I.kIn True.intro e (fun z=>nomatch z) h
 |str y=>obtain⟨t,q⟩:=(show ∃t,u=Value.str y t from rx);cases q;exact Ct W.kitx_str I.kIn True.intro e (fun z=>nomatch z) h
 |flt y=>obtain⟨t,q⟩:=(show ∃t,u=Value.float y t from rx);cases q;exact Ct W.kitx_float I.kIn True.intro e (fun z=>nomatch z) h
 | @lst a xs ea=>
  cases (show u=Value.ref a from rx);obtain⟨_,_,n,_,h1⟩:=(show ObjOk X.prog X.w H s.heap a (.lst xs)from I.hok a _ ea);exact Ct W.kitx_list I.kIn ⟨_,h1,rfl⟩ e (fun z=>nomatch z) h
 | @frz a ob xs ea=>
  cases (show u=Value.ref a from rx);obtain⟨_,_,_,n,_,h1⟩:=(show ObjOk X.prog X.w H s.heap a (.frz ob (.lst xs))from I.hok a _ ea);exact Ct W.kitx_list I.kIn ⟨_,h1,rfl⟩ e (fun z=>nomatch z) h
 | @tup a xs ea=>
  cases (show u=Value.ref a from rx);obtain⟨_,_,_,p⟩:=(show ObjOk X.prog X.w H s.heap a (.tup xs)from I.hok a _ ea);obtain⟨o,h1,h2,_⟩:=p;exact Ct W.kitx_tuple I.kIn ⟨o,h1,h2.1⟩ e (fun z=>nomatch z) h
 | @dK a kvs ea=>
  cases (show u=Value.ref a from rx);obtain⟨_,_,vs,_,p⟩:=(show ObjOk X.prog X.w H s.heap a (.dK kvs)from I.hok a _ ea);obtain⟨o,es,ep,h1,h2,_⟩:=p;exact Ct W.kitx_dict I.kIn ⟨o,h1,h2.1⟩ e (fun z=>nomatch z) h
 | @dT a kvs ea=>
  cases (show u=Value.ref a from rx);obtain⟨_,_,xs,_,o,es,ep,h1,h2,_⟩:=(show ObjOk X.prog X.w H s.heap a (.dT kvs)from I.hok a _ ea);exact Ct W.kitx_dict I.kIn ⟨o,h1,h2.1⟩ e (fun z=>nomatch z) h
 | @ins a C dx fs ea cl ha hn htk hm=>
  cases (show u=Value.ref a from rx);obtain⟨mA,O,_⟩:=ui I.hok ea;obtain⟨od,J,_⟩:=O.look;exact Ct (W.kitx_own (cl.get _) cl.hd ha hn htk hm) I.kIn J e (fun z=>nomatch z) h
end
structure Room(k:Nat)(A:Around):Prop where
 hd:A.handled=none
 dp:A.depth+3*k+5<recursionLimit
 un:A.units+16*k+200<cLine
theorem Room.mono{j k:Nat}{A:Around}(r:Room k A)(h:j≤k):Room j A:=⟨r.hd,by have:=r.dp;omega,by have:=r.un;omega⟩
theorem Room.deeper{k:Nat}{A:Around}(r:Room (k+1) A)(env:Env):Room k (A.deeper env):=
 ⟨r.hd,by have:=r.dp;show A.depth+1+3*k+5<_;omega,by have:=r.un;show A.units+3+16*k+200<_;omega⟩
theorem Room.depth{k:Nat}{A:Around}(r:Room k A):A.depth<recursionLimit:=by have:=r.dp;omega
theorem Room.units{k:Nat}{A:Around}(r:Room k A):A.units+64<cLine:=by have:=r.un;omega
def zG:TA:=fun _ H Q=>Q [] H
def vM(ta:TE)(tr:TA):TA:=fun σ H Q=>ta σ H fun x H1=>tr σ H1 fun xs H2=>Q (x::xs) H2
section
variable{X:Cx}{e:Expr}{es:List Expr}{te:TE}{t:TA}{pos:Pos}
theorem Z1:PA X [] zG:=fun _ _ _ _ H Q I h=>Calls.spliced_nil ⟨[],H,I,.nil,h⟩
theorem Z0(ha:PE X e te)(hr:PA X es t)(hs:starEach (e::es) X.env=(false,eval e X.env)::starEach es X.env:=by rfl):PA X (e::es) (vM te t):=by
 intro pos CZ s σ H Q I h;rw[hs];show wpAny _ _ (spliced ((false,eval e X.env)::backTo pos (starEach es X.env))) _ _ s;refine Calls.spliced_cons (thn (ha CZ s σ H _ I h) fun u s1 C0=>?_);obtain⟨x,H1,I1,r1,q1⟩:=C0;exact thn (hr pos CZ s1 σ H1 _ I1 q1) fun us s2 ⟨xs,H2,I2,r2,q2⟩=>⟨x::xs,H2,I2,.cons r1 r2,q2⟩
def tTup(t:TA):TE:=fun σ H Q=>t σ H fun xs H1=>xs.length≤sizeLine∧∀p,H1 p=none→Q (.ref p) (upd H1 p (.tup xs))
def tLst(t:TA):TE:=fun σ H Q=>t σ H fun xs H1=>xs.length≤sizeLine∧∀p,H1 p=none→Q (.ref p) (upd H1 p (.lst xs))
theorem Zu{x1}(h:PA X es t):PE X (.Tuple es x1 pos) (tTup t):=by
 intro CZ s σ H Q I hq;refine wpAny_Tuple_spliced (thn (h pos CZ s σ H _ I hq) fun us s1 ⟨xs,H1,I1,r,z,q⟩=>⟨by rw[←r.length];exact z,?_⟩);have hf:H1 s1.heap.objs.size=none:=I1.hok.fresh (io _);refine⟨.ref s1.heap.objs.size,upd H1 s1.heap.objs.size (.tup xs),I1.laid (t':=s1.toks) (fun b u e=>af _ e) (io _) ?_,rfl,q _ hf⟩;exact⟨z,us,r,TupN.new _ _⟩
theorem Yn(h:PA X es t):PE X (.List es pos) (tLst t):=by
 intro CZ s σ H Q I hq;refine wpAny_List_spliced (thn (h pos CZ s σ H _ I hq) fun us s1 ⟨xs,H1,I1,r,z,q⟩=>⟨by rw[←r.length];exact z,?_⟩);have hf:H1 s1.heap.objs.size=none:=I1.hok.fresh (io _);refine⟨.ref s1.heap.objs.size,upd H1 s1.heap.objs.size (.lst xs),I1.laid (t':=s1.toks) (fun b u e=>af _ e) (io _) ?_,rfl,q _ hf⟩;exact⟨z,us,0,r,pi _ rfl⟩
end
abbrev Sp:=List V→Hp→VK→XK→Prop
abbrev CXT:=List Env→Hp→Shared→XK→Value→Shared→Prop
structure Env0(P:Program)(w:World)(K:W.Frag)(mg:Str→Option Value)(base:Heap)(A:Around)(outer:List Env)(s:Shared)(H:Hp):Prop where
 frames:A.frames=some outer
 mod:Mod K mg base
 bs:∀b o,base.get? b=some o→s.heap.get? b=some o∧H b=none
 bsz:base.objs.size≤s.heap.objs.size
 funs:s.heap.FunFrames base outer
 frf:∀b∈frs outer,H b=none
 hok:HOk P w H s.heap
 bare:AllBare s.gens
def CE(outer:List Env)(P:Program)(w:World)(H:Hp)(s:Shared)(Q:VK)(u:Value)(s':Shared):Prop:=
 ∃v H',s'.os=s.os∧AllBare s'.gens∧Un (frs outer) [] H H' s.heap s'.heap∧HOk P w H' s'.heap∧RelV v u∧Q v H'
def CR(CX:CXT)(outer:List Env)(P:Program)(w:World)(H:Hp)(s:Shared)(Q:VK)(E:XK)(r:Result)(s':Shared):Prop:=
 match r with
 |.ok (.ret u)=>CE outer P w H s Q u s'
 |.ok _=>False
 |.error e=>CX outer H s E e s'
structure FnOk(P:Program)(w:World)(K:W.Frag)(mg:Str→Option Value)(base:Heap)(CX:CXT)(k:Nat)(f:Addr)(fd:FuncData)(ps:List Str)(sp:Sp):Prop where
 len:∀vs H Q E,sp vs H Q E→vs.length=ps.length
 run:∀(A:Around)(outer:List Env)(s:Shared)(H:Hp)(args:Args)(us:List Value)(vs:List V)(Q:VK)(E:XK),Room k A→Env0 P w K mg base A outer s H→BindsTo s fd args (ps.zip us)→Vals vs us→sp vs H Q E→
  codeAny (model P w) A (.call (.ref f) args) (CR CX outer P w H s Q E) s
theorem FnOk.mono{P:Program}{w:World}{K:W.Frag}{mg:Str→Option Value}{base:Heap}{CX:CXT}{j k:Nat}{f:Addr}{fd:FuncData}{ps:List Str}{sp:Sp}(F:FnOk P w K mg base CX j f fd ps sp)(h:j≤k):
  FnOk P w K mg base CX k f fd ps sp:=⟨F.len,fun A outer s H args us vs Q E hr=>F.run A outer s H args us vs Q E (hr.mono h)⟩
section
variable{X:Cx}{CZ:List (Addr×Obj)}{σ:St}{H:Hp}{s s':Shared}
theorem Inv.env0(I:Inv X CZ σ H s):Env0 X.prog X.w X.K X.mg X.base X.A X.stack s H:=
 ⟨I.ok.frames,I.ok.mod,I.bs,AU I.ok.bsz I.sz,I.stack,I.stkFree,I.hok,I.bare⟩
theorem Inv.after{Q:VK}{u:Value}(I:Inv X CZ σ H s)(h:CE X.stack X.prog X.w H s Q u s'):EP X CZ σ Q u s':=by
 obtain⟨v,H',os,bare,un,hok,r,q⟩:=h;obtain⟨hh,g,d,t,os'⟩:=s';obtain rfl:os'=s.os:=os;exact⟨v,H',I.call (h':=hh) (g':=g) (d':=d) (t':=t) (ch:=[]) un hok bare (fun b z=>absurd z (by simp)),r,q⟩
end
def v6(sp:Sp)(dvs:List V)(E:XK)(t:TA):TE:=fun σ H Q=>t σ H fun vs H1=>sp (vs++dvs) H1 Q E
def Binds(K:W.Frag)(fd:FuncData)(ps:List Str)(ds:List Value):Prop:=
 ∀(s:Shared)(us:List Value),K.In s.heap→(us++ds).length=ps.length→BindsTo s fd ⟨us,[]⟩ (ps.zip (us++ds))
theorem Binds.all{K:W.Frag}{fd:FuncData}{ps:List Str}(h:∀us:List Value,us.length=ps.length→bindArgs fd ⟨us,[]⟩=pure (ps.zip us)):Binds K fd ps []:=fun s us _ hl=>by
 rw[AN]at hl⊢;exact .of_eq (h us hl)
def kw(CX:CXT)(X:Cx)(E:XK):Prop:=∀(CZ:List (Addr×Obj))(σ:St)(H:Hp)(s:Shared)(e:Value)(s':Shared),Inv X CZ σ H s→CX X.stack H s E e s'→X.xe e s'
section
variable{X:Cx}{CX:CXT}{k:Nat}{f C:Addr}{fd:FuncData}{ps:List Str}{sp:Sp}{dvs:List V}{ds:List Value}{E:XK}{x m:Str}{p pos apos:Pos}{e o:Expr}{es:List Expr}{ta:TE}{t:TA}
theorem rF{CZ:List (Addr×Obj)}{σ:St}{H:Hp}{s:Shared}{Q:VK}{us:List Value}{vs:List V}(F:FnOk X.prog X.w X.K X.mg X.base CX k f fd ps sp)(hr:Room k X.A)(hb:Binds X.K fd ps ds)(hd:Vals dvs ds)(hx:kw CX X E)(I:Inv X CZ σ H s)(r:Vals vs us)(h:sp (vs++dvs) H Q E):wpAny (model X.prog X.w) X.A (call (.ref f) us) (EP X CZ σ Q) X.xe s:=by
 have r2:Vals (vs++dvs) (us++ds):=r.append hd;have hl:(us++ds).length=ps.length:=by rw[←r2.length];exact F.len _ _ _ _ h
 refine wpAny_call (B6 (F.run X.A X.stack s H ⟨us,[]⟩ (us++ds) (vs++dvs) Q E hr I.env0 (hb s us I.kIn hl) r2 h) fun r s' hq=>?_);cases r with
 |error e=>exact hx CZ σ H s e s' I hq
 |ok fl=>
  cases fl with
  |ret u=>exact I.after hq
  |next=>exact False.elim hq
  |brk=>exact False.elim hq
  |cont=>exact False.elim hq
theorem tQ(F:FnOk X.prog X.w X.K X.mg X.base CX k f fd ps sp)(hr:Room k X.A)(hg:Gl X x)(hm:X.mg x=some (.ref f))(hk:W.keepIn X.K (.ref f)=true)(hb:Binds X.K fd ps ds)(hd:Vals dvs ds)(hx:kw CX X E)(ha:PA X (e::es) t)(hdb:(x==("__debug__":Str))=false:=by decide)(he:starEach (e::es) X.env=(false,eval e X.env)::starEach es X.env:=by rfl)(hpl:(backTo pos (starEach es X.env)).any (·.1)=false:=by rfl):
  PE X (.Call (.Name x p) (e::es) [] pos) (v6 sp dvs E t):=by
 intro CZ s σ H Q I h;refine Bw (T7 I hg hm ?_ hdb);refine W.callWith_K (h₀:=X.base) I.ok.mod.kin hk (thn (ha pos CZ s σ H _ I h) fun us s1 ⟨vs,H1,I1,r,q⟩=>⟨I1.kIn,?_⟩) he hpl;exact rF F hr hb hd hx I1 r q
end
def PK(X:Cx)(kws:List Keyword)(t:TA):Prop:=
 ∀(pos:Pos)(CZ:List (Addr×Obj))(s:Shared)(σ:St)(H:Hp)(Q:List V→Hp→Prop),Inv X CZ σ H s→t σ H Q→wpAny (model X.prog X.w) X.A (evalAll ((backToKw pos (keywordEach kws X.env)).map (·.2))) (AP X CZ σ Q) X.xe s
section
variable{X:Cx}{CX:CXT}{k:Nat}{f C:Addr}{fd:FuncData}{ps ks:List Str}{sp:Sp}{E:XK}{x m:Str}{p pos apos kpos:Pos}{e o:Expr}{es:List Expr}{kws:List Keyword}{te ta:TE}{t tk:TA}{nm:Option Str}
theorem wx:PK X [] zG:=fun _ _ _ _ H Q I h=>wpAny_evalAll_nil ⟨[],H,I,.nil,h⟩
theorem vt(ha:PE X e te)(hr:PK X kws t):PK X (⟨nm,e,kpos⟩::kws) (vM te t):=by
 intro pos CZ s σ H Q I h;show wpAny _ _ (evalAll ((do let v ←eval e X.env;standAt pos;pure v)::(backToKw pos (keywordEach kws X.env)).map (·.2))) _ _ s;refine wpAny_evalAll_cons (aa (thn (ha CZ s σ H _ I h) fun u s1 ⟨x,H1,I1,r1,q1⟩=>aa (wpAny_standAt (aq ?_))));exact thn (hr pos CZ s1 σ H1 _ I1 q1) fun us s2 ⟨xs,H2,I2,r2,q2⟩=>⟨x::xs,H2,I2,.cons r1 r2,q2⟩
variable{g:List Value→List Value→List Value}{gV:List V→List V→List V}
end
structure FnScope(N P:List Str)(sc:Scope):Prop where
 kind:sc.kind=.function
 co:sc.isCoroutine=false
 gen:sc.isGenerator=false
 nd:N.Nodup
 pre:N.take P.length=P
 par:∀x∈P,sc.names.lookup x=some .local∨sc.names.lookup x=some .cell
 nofree:∀y∈sc.names,y.2≠.free
theorem Np{kindOf:Str→Option NameKind}{x:Str}:∀{binds:List (Str×Value)}{m:Str→Option Value},(∀v,(x,v)∉binds)→bindL kindOf binds m x=m x
 | [],_,_=>rfl
 | (n,v)::r,m,h=>by
  unfold bindL;rw[Np fun w hw=>h w (Az _ hw)]
  split
  ·have:x≠n:=by rintro rfl;exact h v Au
   simp[this]
  ·rfl
theorem Nr{kindOf:Str→Option NameKind}{x:Str}:∀{binds:List (Str×Value)}{m:Str→Option Value},(∀v,(x,v)∉binds)→bindC kindOf binds m x=m x
 | [],_,_=>rfl
 | (n,v)::r,m,h=>by
  unfold bindC;rw[Nr fun w hw=>h w (Az _ hw)]
  split
  ·rfl
  ·have:x≠n:=by rintro rfl;exact h v Au
   simp[this]
theorem Nq{kindOf:Str→Option NameKind}{x:Str}{v:Value}:∀{P:List Str}{vs:List Value}{i:Nat}{m:Str→Option Value},P.Nodup→P[i]?=some x→vs[i]?=some v→kindOf x=some .local→
  bindL kindOf (P.zip vs) m x=some v
 | [],_,_,_,_,h,_,_=>by simp at h
 |_::_,[],_,_,_,_,h,_=>by simp at h
 |p::P,w::vs,0,m,nd,h1,h2,hk=>by
  simp at h1 h2;subst h1;subst h2;show bindL kindOf ((p,w)::P.zip vs) m p=_;unfold bindL;rw[Np fun v hv=>(AC.mp nd).1 (CL hv).1,Ah hk];simp
 |p::P,w::vs,i+1,m,nd,h1,h2,hk=>by
  show bindL kindOf ((p,w)::P.zip vs) m x=_;unfold bindL;exact Nq (i:=i) (List.nodup_cons.mp nd).2 (by simpa using h1) (by simpa using h2) hk
theorem gf{kindOf:Str→Option NameKind}{x:Str}{v:Value}:∀{P:List Str}{vs:List Value}{i:Nat}{m:Str→Option Value},P.Nodup→P[i]?=some x→vs[i]?=some v→kindOf x≠some .local→
  bindC kindOf (P.zip vs) m x=some v
 | [],_,_,_,_,h,_,_=>by simp at h
 |_::_,[],_,_,_,_,h,_=>by simp at h
 |p::P,w::vs,0,m,nd,h1,h2,hk=>by
  simp at h1 h2;subst h1;subst h2;show bindC kindOf ((p,w)::P.zip vs) m p=_;unfold bindC;rw[Nr fun v hv=>(AC.mp nd).1 (CL hv).1,Aj hk];simp
 |p::P,w::vs,i+1,m,nd,h1,h2,hk=>by
  show bindC kindOf ((p,w)::P.zip vs) m x=_;unfold bindC;exact gf (i:=i) (List.nodup_cons.mp nd).2 (by simpa using h1) (by simpa using h2) hk
def dU(N:List Str)(vs:List V):St:=vs.map some++List.replicate (N.length-vs.length) none
def kQ(CX:CXT)(P:Program)(w:World)(K:W.Frag)(mg:Str→Option Value)(base:Heap)(N:List Str)(qual:Str)(scope:Scope)(f:Addr)(cd:Value)(A:Around)(outer:List Env)(s:Shared)(H:Hp)(E:XK):Cx where
 prog:=P
 w:=w
 K:=K
 mg:=mg
 base:=base
 A:=A.deeper (envOfC qual scope s.heap.objs.size f cd)
 N:=N
 s₀:=s
 H₀:=H
 env:=envOfC qual scope s.heap.objs.size f cd
 outer:=outer
 stack:=envOfC qual scope s.heap.objs.size f cd::outer
 ex:=[]
 calm:=true
 fn:=fun _=>true
 pn:=[]
 xe:=fun e s'=>wpAny (model P w) (A.deeper (envOfC qual scope s.heap.objs.size f cd)) (leaving (envOfC qual scope s.heap.objs.size f cd) e) (fun _ s''=>CX outer H s E e s'') (fun e' s''=>CX outer H s E e' s'') s'
theorem Ss{sc:Scope}{n:Nat}{x:Str}(h:sc.names.lookup x=some .cell):∃c,(cellsFrom n sc.names []).lookup x=some c:=by
 have q:=W.cellsFrom_some sc.names n [] (.inl h);exact Cb.mp q
theorem pf{CX:CXT}{P:Program}{w:World}{K:W.Frag}{mg:Str→Option Value}{base:Heap}{N ps:List Str}{qual:Str}{scope:Scope}{f:Addr}{cd:Value}{A:Around}{outer:List Env}{s s1:Shared}{H:Hp}{E:XK}{us:List Value}{vs:List V}(S:FnScope N ps scope)(hd:A.handled=none)(e0:Env0 P w K mg base A outer s H)(hl:vs.length=ps.length)(r:Vals vs us)(x:InCallC s s.heap.objs.size (bindL (envOfC qual scope s.heap.objs.size f cd).kindOf (ps.zip us) fun _=>none) (cellsFrom (s.heap.objs.size+1) scope.names []) (bindC (envOfC qual scope s.heap.objs.size f cd).kindOf (ps.zip us) fun _=>none) s1):
  Inv (kQ CX P w K mg base N qual scope f cd A outer s H E) [] (dU N vs) H s1:=by
 have hpl:ps.length≤N.length:=by have:=Bm List.length S.pre;rw[Am]at this;omega
 obtain⟨h1,tk,rfl,hk⟩:=x.done;have noA:∀b:Addr,b∉(kQ CX P w K mg base N qual scope f cd A outer s H E).ex:=fun b z=>absurd (show b∈([]:List Addr)from z) (by simp);refine⟨⟨e0.mod,S.kind,rfl,rfl,io _,fun y z c h1 h2=>?_,fun y hy=>?_,fun y c _ h=>?_,fun _=>hd,Around.frames_deeper e0.frames,.inr ⟨rfl,rfl⟩,fun b z=>absurd z (noA b),e0.bs,e0.bsz,fun b _ _=>noA b,fun b z=>absurd z (noA b),e0.funs,e0.frf⟩,
  rfl,e0.bare,Un.kept hk,⟨_,x.toInCall.ns,fun i y v h1 h2 h3=>?_⟩,fun y c h=>⟨_,x.cell y c h⟩,e0.hok.fresh (Nat.le_refl _),fun y c h=>?_,fun p hp=>absurd (show p∈([]:List (Addr×Obj))from hp) (by simp),e0.hok.kept hk,?_⟩
 ·exact name_of_addr x.apart (AL h1) (AL h2)
 ·have hy:scope.names.lookup y=some .cell∨scope.names.lookup y=some .free:=hy
  rcases hy with hy | hy
  ·exact Ss hy
  ·exact absurd rfl (S.nofree _ (AL hy))
 ·exact BB (x.above y c (AL h))
 ·have hi:i<vs.length:=by
   unfold dU at h2;by_cases hi:i<vs.length
   ·exact hi
   ·rw[List.getElem?_append_right (by simpa using hi)]at h2;rw[List.getElem?_replicate]at h2
    split at h2 <;> cases h2
  have ha:vs[i]?=some v:=by
   unfold dU at h2;rw[List.getElem?_append_left (by simpa using hi),List.getElem?_map]at h2;cases e:vs[i]? with
   |none=>rw[e]at h2;cases h2
   |some a=>rw[e]at h2;cases h2;rfl
  obtain⟨u,hu,rv⟩:=r.get ha;have hp:ps[i]?=some y:=by
   rw[←S.pre,List.getElem?_take_of_lt (by omega)];exact h1
  have ndP:ps.Nodup:=by rw[←S.pre];exact S.nd.sublist (CB _ _)
  refine⟨u,rv,?_⟩
  rcases S.par y (Ai hp)with k | k
  ·exact .inl ⟨k,Nq ndP hp hu k⟩
  ·obtain⟨c,e⟩:=Ss (n:=s.heap.objs.size+1) k;refine .inr ⟨.inl k,c,e,?_⟩;have q:=x.cell y c e;rw[gf ndP hp hu (by show scope.names.lookup y≠_;rw[k];decide)]at q;exact q
 ·exact e0.hok.fresh (BB (x.above y c (AL h)))
 ·unfold dU;show _=N.length;rw[ba,ae,AE];omega
theorem l8{CX:CXT}{P:Program}{w:World}{K:W.Frag}{mg:Str→Option Value}{base:Heap}{k:Nat}{f:Addr}{name qual:Str}{params:Arguments}{body:List Stmt}{scope:Scope}{dV kV doc pm cdv ct oc:Value}{an od:Option Addr}{osl:Array (Option Value)}{N ps:List Str}{sp:Sp}(lk:K.lookup f=some ⟨oc,od,.func (W.fnOf name qual params body scope dV kV doc pm an cdv ct),osl⟩)(hcd:W.codeIn K cdv qual=true)(S:FnScope N ps scope)(len:∀vs H Q E,sp vs H Q E→vs.length=ps.length)(hbody:∀(A:Around) (outer:List Env) (s:Shared) (H:Hp) (vs:List V) (Q:VK) (E:XK),Room k (A.deeper (envOfC qual scope s.heap.objs.size f cdv))→sp vs H Q E→
   ∃t,PSs (kQ CX P w K mg base N qual scope f cdv A outer s H E) body t∧t {nx:=fun _ H'=>Q .non H',rt:=Q} (dU N vs) H):
  FnOk P w K mg base CX (k+1) f (W.fnOf name qual params body scope dV kV doc pm an cdv ct) ps sp:=by
 refine⟨len,fun A outer s H args us vs Q E hr e0 hb r hsp=>?_⟩;have hl:=len _ _ _ _ hsp;have KX:K.In s.heap:=e0.mod.kin.keeps fun b o e=>(e0.bs b o e).1;have lim:s.heap.NoLimit:=e0.mod.nolimit.keeps fun b o e=>(e0.bs b o e).1;have hkind:∀y∈ps.zip us,scope.names.lookup y.1=some .local∨(scope.names.lookup y.1=some .cell∧((cellsFrom (s.heap.objs.size+1) scope.names []).lookup y.1).isSome=true):=fun⟨n,v⟩ hy=>by
  rcases S.par n (CL hy).1 with q | q
  ·exact .inl q
  ·exact .inr ⟨q,W.cellsFrom_some _ _ _ (.inl q)⟩
 refine codeAny_call_function hr.depth (KX _ _ lk) rfl S.co S.gen rfl (W.codeRec_of KX hcd) (hb _ _ _ _ ?_);refine wpAny_newFunctionEnv_cells S.kind hkind fun env he s1 x=>?_;subst he;refine⟨lim.keeps x.toInCall.keep,codeAny_func ?_⟩;obtain⟨t,ht,hq⟩:=hbody A outer s H vs Q E (hr.deeper _) hsp;have I:Inv (kQ CX P w K mg base N qual scope f cdv A outer s H E) [] (dU N vs) H s1:=pf S hr.hd e0 hl r x;refine A5 (ht [] s1 (dU N vs) H _ I hq) (fun fl s' hs=>?_) fun e s' hs=>hs;have fin:∀{σ':St}{H':Hp}{v:V}{u:Value},Inv (kQ CX P w K mg base N qual scope f cdv A outer s H E) [] σ' H' s'→RelV v u→Q v H'→CE outer P w H s Q u s':=
  fun{σ' H' v u} J rv q=>⟨v,H',J.os,J.bare,J.base,J.hok,rv,q⟩
 cases fl with
 |ret u=>
  obtain⟨v,σ',H',J,rv,q⟩:=hs;exact fin J rv q
 |next=>
  obtain⟨σ',H',J,q⟩:=hs;exact fin (v:=V.non) (u:=Value.none) J rfl q
 |brk=>
  obtain⟨_,_,_,q⟩:=hs;exact False.elim q
 |cont=>
  obtain⟨_,_,_,q⟩:=hs;exact False.elim q
section
variable{X:Cx}{x:Str}{p pos:Pos}{e:Expr}{es:List Expr}{t:TA}{id T:String}{r:List V→Hp→VK→Prop}
def tCB(r:List V→Hp→VK→Prop)(t:TA):TE:=fun σ H Q=>t σ H fun vs H1=>r vs H1 Q
theorem Zi(hc:bu X (.builtin id) r)(hg:Gl X x)(hm:X.mg x=none)(hv:bootBuiltins x=some (.builtin id))(ha:PA X (e::es) t)(hn:x≠"__name__":=by decide)(hdb:(x==("__debug__":Str))=false:=by decide)(he:starEach (e::es) X.env=(false,eval e X.env)::starEach es X.env:=by rfl)(hpl:(backTo pos (starEach es X.env)).any (·.1)=false:=by rfl):PE X (.Call (.Name x p) (e::es) [] pos) (tCB r t):=by
 intro CZ s σ H Q I h;refine Bw (U2 I hg hm hv ?_ hn hdb);exact PyProof.Rows.callWith_builtin1 (thn (ha pos CZ s σ H _ I h) fun us s1 ⟨vs,H1,I1,r1,q1⟩=>hc CZ s1 σ H1 vs us Q I1 r1 q1) he hpl
theorem X2(hc:bu X (.type T) r)(hg:Gl X x)(hm:X.mg x=none)(hv:bootBuiltins x=some (.type T))(ha:PA X (e::es) t)(hn:x≠"__name__":=by decide)(hdb:(x==("__debug__":Str))=false:=by decide)(he:starEach (e::es) X.env=(false,eval e X.env)::starEach es X.env:=by rfl)(hpl:(backTo pos (starEach es X.env)).any (·.1)=false:=by rfl):PE X (.Call (.Name x p) (e::es) [] pos) (tCB r t):=by
 intro CZ s σ H Q I h;refine Bw (U2 I hg hm hv ?_ hn hdb);exact Be (thn (ha pos CZ s σ H _ I h) fun us s1 ⟨vs,H1,I1,r1,q1⟩=>hc CZ s1 σ H1 vs us Q I1 r1 q1) he hpl
end
end L2
namespace HT
open PySem PyProof.Rows
section
open PySem.SeqAt
open PySem.AutoSeq1 (wpAny_loadPart')
open PySem.MeetsSeq PySem.MeetsSeq2 PySem.MeetsSeq3
end
section
variable{prog:Program}{w:World}{A:Around}{E:Value→Shared→Prop}{s:Shared}
def sIx(n d:Nat):Option Int→Nat
 |none=>d
 |some v=>if v<0 then(v+(n:Int)).toNat else min v.toNat n
theorem sIx_none(n d:Nat):sIx n d none=d:=rfl
theorem sIx_nat(n d k:Nat):sIx n d (some (k:Int))=min k n:=by
 show(if (k:Int)<0 then((k:Int)+(n:Int)).toNat else min (k:Int).toNat n)=min k n;rw[Aj (by omega),Int.toNat_natCast]
theorem wR(n d:Nat)(hd:d≤n)(o:Option Int):sIx n d o≤n:=by
 cases o with
 |none=>exact hd
 |some v=>
  show(if v<0 then(v+(n:Int)).toNat else min v.toNat n)≤n;by_cases hv:v<0
  ·rw[Ah hv];omega
  ·rw[Aj hv];exact Nat.min_le_right _ _
theorem m8(v:Int)(n d:Nat):(if v<0 then max (v+(n:Int)) 0 else min v (n:Int))=((sIx n d (some v):Nat):Int):=by
 show(if v<0 then max (v+(n:Int)) 0 else min v (n:Int))=(((if v<0 then(v+(n:Int)).toNat else min v.toNat n):Nat):Int);by_cases hv:v<0
 ·simp only[if_pos hv];omega
 ·simp only[if_neg hv];omega
theorem kf(lo hi:Option Int)(n:Nat):Builtin.Slice.sliceAdjust lo hi 1 (n:Int)=(((sIx n 0 lo:Nat):Int),((sIx n n hi:Nat):Int)):=by
 have h1:¬((1:Int)<0):=by omega
 unfold Builtin.Slice.sliceAdjust;simp only[h1,if_false];refine CI ?_ ?_
 ·cases lo with
  |none=>rfl
  |some v=>exact m8 v n 0
 ·cases hi with
  |none=>rfl
  |some v=>exact m8 v n n
theorem ko(i j:Nat):Builtin.Slice.slicePlaces (i:Int) (j:Int) 1=j-i:=by
 unfold Builtin.Slice.slicePlaces;have h1:(1:Int) > 0:=by omega
 simp only[h1,if_true,Int.ediv_one]
 split <;> omega
theorem Qk{v:Value}{o:Option Int}{Q:Option Int→Shared→Prop}(p:IsPart v o)(h:Q o s):wpAny (model prog w) A (Builtin.Slice.slicePartIndex v) Q E s:=by
 cases p with
 |none=>exact slicePart_none h
 |int i t=>exact slicePart_int h
theorem Vi{sl:Addr}{vl vu:Value}{lo hi:Option Int}{n:Nat}{Q:Int×Int×Nat→Shared→Prop}(hs:s.heap.IsSliceOf sl vl vu .none)(pl:IsPart vl lo)(pu:IsPart vu hi)(h:Q (((sIx n 0 lo:Nat):Int),1,sIx n n hi-sIx n 0 lo) s):wpAny (model prog w) A (Builtin.Slice.sliceApplied (.ref sl) (pure (n:Int))) Q E s:=by
 obtain⟨os,hos,hcs,hds⟩:=id hs;unfold Builtin.Slice.sliceApplied Builtin.Slice.sliceFields;refine aa (aa (AZ hos hds (x:=vl) rfl (aa (AZ hos hds (x:=vu) rfl (aa (AZ hos hds (x:=.none) rfl (aq ?_)))))));refine aa (slicePart_none ?_);show wpAny _ _ (if ((1:Int)==0)=true then _ else _) _ _ s;rw[Aj (by decide)];refine aa (Qk pl (aa (Qk pu (aa (aq ?_)))));show wpAny _ _ (match Builtin.Slice.sliceAdjust lo hi 1 (n:Int)with | (lo,hi)=>pure (lo,(1:Int),Builtin.Slice.slicePlaces lo hi 1)) _ _ s;rw[kf lo hi n];show wpAny _ _ (pure (((sIx n 0 lo:Nat):Int),(1:Int),Builtin.Slice.slicePlaces ((sIx n 0 lo:Nat):Int) ((sIx n n hi:Nat):Int) 1)) _ _ s;rw[ko];exact aq h
theorem qX(xs:Array Value)(i k:Nat):((List.range k).filterMap fun(m:Nat)=>xs[((i:Int)+(m:Int)*1).toNat]?).toArray=((xs.toList.drop i).take k).toArray:=by
 have e:(fun(m:Nat)=>xs[((i:Int)+(m:Int)*1).toNat]?)=fun m=>xs[i+m]?:=by
  funext m
  have:((i:Int)+(m:Int)*1).toNat=i+m:=by omega
  rw[this]
 rw[e];have:=pick_run xs i k;rw[Cm]at this;have e2:((fun x=>xs[x]?)∘fun x=>i+x)=fun m=>xs[i+m]?:=rfl;rw[e2]at this;rw[this]
theorem getItem_tuple_cut{t sl:Addr}{items:Array Value}{vl vu:Value}{lo hi:Option Int}{Q:Value→Shared→Prop}(ht:IsTup s.heap t items)(hs:s.heap.IsSliceOf sl vl vu .none)(pl:IsPart vl lo)(pu:IsPart vu hi)(hw:¬(sIx items.size 0 lo=0∧sIx items.size items.size hi=items.size))(h:Q (.ref s.heap.objs.size) {s with heap:=s.heap.push {cls:=.type "tuple",data:=.seq ((items.toList.drop (sIx items.size 0 lo)).take (sIx items.size items.size hi-sIx items.size 0 lo)).toArray}})(hsz:items.size≤sizeLine):wpAny (model prog w) A (getItem (.ref t) (.ref sl)) Q E s:=by
 have htake:sizeOk (.seq ((items.toList.drop (sIx items.size 0 lo)).take (sIx items.size items.size hi-sIx items.size 0 lo)).toArray):=by
  show((items.toList.drop (sIx items.size 0 lo)).take (sIx items.size items.size hi-sIx items.size 0 lo)).toArray.size≤sizeLine;rw[AG,Am,Bx,Ax];omega
 have hj:sIx items.size items.size hi≤items.size:=wR _ _ (io _) hi;obtain⟨os,hos,hcs,hds⟩:=id hs;have hTs:s.TypeIs (.ref sl) "slice":=⟨os,hos,hcs⟩;unfold getItem
 try with_reducible refine AS ?_
 first | refine aa (aq ?_) | skip
 refine aa (wpAny_sequenceKey ht.typeIs (by decide) ?_);refine aa (A7 (name:=Str.ofString "__getitem__") ht.typeIs BL
  (AY BL ht.typeIs entry_tuple_getitem ?_ (args_tuple_getitem _ _)))
 show wpAny _ _ (Builtin.Tuple.tupleItemsOf (.ref t) >>= _) _ _ s;refine aa (tupleItemsOf_ ht ?_);refine aa (Cn hTs ?_);rw[Ah (by decide)];refine aa (Vi hs pl pu ?_);have hno:¬((((sIx items.size 0 lo:Nat):Int)==0 && (1:Int)==1 && (sIx items.size items.size hi-sIx items.size 0 lo)==items.size)=true):=by
  intro q;rw[AX,AX]at q;have q1:((sIx items.size 0 lo:Nat):Int)=0:=eq_of_beq q.1.1;have q2:sIx items.size items.size hi-sIx items.size 0 lo=items.size:=eq_of_beq q.2;exact hw ⟨by omega,by omega⟩
 show wpAny _ _ (if (((sIx items.size 0 lo:Nat):Int)==0 && (1:Int)==1 && (sIx items.size items.size hi-sIx items.size 0 lo)==items.size)=true then _ else _) _ _ s;rw[Aj hno,qX]
 first
  |exact aa (m:=Builtin.Tuple.tupleExact _) (Bf (aq ⟨_,rfl,aq h⟩) htake)
  |exact aa (m:=Builtin.Tuple.tupleExact _) (Bf (aa (aq (aq ⟨_,rfl,aq h⟩))) htake)
  |exact aa (aa (m:=Builtin.Tuple.tupleExact _) (Bf (aq (aq ⟨_,rfl,aq h⟩)) htake))
  |exact aa (aa (m:=Builtin.Tuple.tupleExact _) (Bf (aq ⟨_,rfl,aq h⟩) htake))
end
end HT
namespace L2
open PySem PySem.Spec PyProof.Rows
abbrev TO:=St→Hp→(Option Int→Hp→Prop)→Prop
def PO(X:Cx)(e:Option Expr)(t:TO):Prop:=
 ∀(CZ:List (Addr×Obj))(s:Shared)(σ:St)(H:Hp)(Q:Option Int→Hp→Prop),Inv X CZ σ H s→t σ H Q→
  wpAny (model X.prog X.w) X.A (evalPart e X.env) (fun u s'=>∃o H',Inv X CZ σ H' s'∧IsPart u o∧Q o H') X.xe s
def t_:TO:=fun _ H Q=>Q none H
def y9(t:TE):TO:=fun σ H Q=>t σ H fun x H1=>∃i,x=.int i∧Q (some i) H1
theorem Pl{ns:List Int}:∀{us:List Value},Vals (ns.map V.int) us→IntsAre us ns:=by
 induction ns with
 |nil=>intro us r;rw[CQ]at r;cases r;exact .nil
 |cons n ns ih=>
  intro us r;rw[AA]at r;cases r with
  |cons r1 r2=>
   obtain⟨t,e⟩:=r1;subst e;exact .cons n t (ih r2)
section
variable{X:Cx}{e:Expr}{te:TE}{lo hi:Option Expr}{tl th:TO}{pos p2:Pos}
theorem Uw:PO X none t_:=by
 intro CZ s σ H Q I h;rw[evalPart_none];exact aq ⟨none,H,I,.none,h⟩
theorem Uv(h:PE X e te):PO X (some e) (y9 te):=by
 intro CZ s σ H Q I hw;rw[evalPart_some];refine thn (h CZ s σ H _ I hw) fun u s1 C0=>?_;obtain⟨x,H1,I1,r1,q1⟩:=C0;obtain⟨i,rfl,q⟩:=q1;obtain⟨t,rfl⟩:=r1;exact⟨some i,H1,I1,.int i t,q⟩
def SlR(X:Cx)(r:V→Option Int→Option Int→Hp→VK→Prop):Prop:=
 ∀(CZ:List (Addr×Obj))(s:Shared)(σ:St)(H:Hp)(x:V)(v vl vu:Value)(lo hi:Option Int)(sl:Addr)(Q:VK),Inv X CZ σ H s→RelV x v→s.heap.IsSliceOf sl vl vu .none→IsPart vl lo→IsPart vu hi→r x lo hi H Q→
  ∃T id,typeLookup (.type T) "__getitem__"=pure (some (.builtin id))∧s.TypeIs v T∧wpAny (model X.prog X.w) X.A (getItem v (.ref sl)) (EP X CZ σ Q) X.xe s
def tSl(r:V→Option Int→Option Int→Hp→VK→Prop)(te:TE)(tl th:TO):TE:=fun σ H Q=>te σ H fun x H1=>tl σ H1 fun l H2=>th σ H2 fun u H3=>r x l u H3 Q
theorem Vj{r:V→Option Int→Option Int→Hp→VK→Prop}(hr:SlR X r)(he:PE X e te)(hl:PO X lo tl)(hu:PO X hi th):PE X (.Subscript e (.Slice lo hi none p2) pos) (tSl r te tl th):=by
 intro CZ s σ H Q I h;refine Subscript_ (thn (he CZ s σ H _ I h) fun v s1 C0=>?_);obtain⟨x,H1,I1,r1,q1⟩:=C0;refine wpAny_Slice (thn (hl CZ s1 σ H1 _ I1 q1) fun vl s2 ⟨l,H2,I2,pl,q2⟩=>thn (hu CZ s2 σ H2 _ I2 q2) fun vu s3 C0=>?_);obtain⟨u,H3,I3,pu,q3⟩:=C0;rw[evalPart_none];refine aq ?_;have I4:Inv X CZ σ H3 {s3 with heap:=s3.heap.push {cls:=.type "slice",data:=.fields #[vl,vu,.none]}}:=I3.kept (t':=s3.toks) fun b ob q=>af _ q;obtain⟨T,id,hT,ht,hg⟩:=hr CZ {s3 with heap:=s3.heap.push {cls:=.type "slice",data:=.fields #[vl,vu,.none]}} σ H3 x v vl vu l u s3.heap.objs.size Q I4 r1 (Heap.IsSliceOf.new ..) pl pu q3;show wpAny (model X.prog X.w) X.A (subscriptTail e (.Slice lo hi none p2) v (.ref s3.heap.objs.size)) (EP X CZ σ Q) X.xe {s3 with heap:=s3.heap.push {cls:=.type "slice",data:=.fields #[vl,vu,.none]}};exact tail_any (ops:=[.ref s3.heap.objs.size,v]) ht hT hg (by with_unfolding_all rfl)
def cB(xs:List V)(lo hi:Option Int):List V:=(xs.drop (HT.sIx xs.length 0 lo)).take (HT.sIx xs.length xs.length hi-HT.sIx xs.length 0 lo)
theorem Rq(xs:List V)(lo hi:Option Int):(cB xs lo hi).length≤xs.length:=by
 unfold cB;rw[Am,Bx];omega
def rSlT(K:W.Frag):V→Option Int→Option Int→Hp→VK→Prop:=fun x lo hi H Q=>∃a xs,x=.ref a∧SqT K H a xs∧
 ¬(HT.sIx xs.length 0 lo=0∧HT.sIx xs.length xs.length hi=xs.length)∧∀p,H p=none→Q (.ref p) (upd H p (.tup (cB xs lo hi)))
theorem wD:SlR X (rSlT X.K):=by
 intro CZ s σ H x v vl vu lo hi sl Q I rx hs pl pu h;obtain⟨a,xs,rfl,hx,hw,q⟩:=h;cases rx;obtain⟨its,r,ht,hz⟩:=I.tuple hx;have De:its.toArray.size=xs.length:=by rw[AG];exact r.length.symm
 refine⟨"tuple",_,PyProof.Rows.slot_tuple_getitem.lookup,ht.typeIs,?_⟩;refine HT.getItem_tuple_cut ht hs pl pu (by rw[De];exact hw) ?_ (by rw[De];exact hz);rw[De];refine⟨.ref s.heap.objs.size,_,I.laid (t':=s.toks) (o:=.tup (cB xs lo hi)) (fun b ob q=>af _ q) (io _) ?_,rfl,q _ (I.hok.fresh (io _))⟩;exact⟨AU (Rq xs lo hi) hz,_,(r.drop (HT.sIx xs.length 0 lo)).take (HT.sIx xs.length xs.length hi-HT.sIx xs.length 0 lo),TupN.new _ _⟩
end
def ixN(n:Nat)(i:Int):Option Nat:=if 0≤i then(if i<n then some i.toNat else none)else if -(n:Int)≤i then some (i+n).toNat else none
def atI{α:Type}(xs:List α)(i:Int):Option α:=(ixN xs.length i).bind fun j=>xs[j]?
theorem mi{n:Nat}{i:Int}{j:Nat}(h:ixN n i=some j):seqIndex? i n=some j∧j<n∧-(n:Int)≤i∧i<n:=by
 unfold ixN at h;by_cases h0:0≤i
 ·rw[Ah h0]at h;by_cases h1:i<n
  ·rw[Ah h1]at h;have e:i.toNat=j:=AK h;exact⟨by rw[seqIndex_of h0 h1,e],by omega,by omega,h1⟩
  ·rw[Aj h1]at h;cases h
 ·rw[Aj h0]at h;by_cases h1:-(n:Int)≤i
  ·rw[Ah h1]at h;have e:(i+n).toNat=j:=AK h;exact⟨by rw[seqIndex_neg (by omega) h1,e],by omega,h1,by omega⟩
  ·rw[Aj h1]at h;cases h
theorem iB{α:Type}{xs:List α}{i:Int}{v:α}(h:atI xs i=some v):∃j,seqIndex? i xs.length=some j∧xs[j]?=some v∧j<xs.length∧-(xs.length:Int)≤i∧i<xs.length:=by
 unfold atI at h;cases e:ixN xs.length i with
 |none=>rw[e]at h;cases h
 |some j=>
  rw[e]at h;obtain⟨h1,h2,h3,h4⟩:=mi e;exact⟨j,h1,h,h2,h3,h4⟩
theorem Q8{α:Type}{xs:List α}{j:Nat}{v:α}(h:xs[j]?=some v):atI xs (j:Int)=some v:=by
 have hj:j<xs.length:=(Ad.mp h).1;have e:ixN xs.length (j:Int)=some j:=by
  unfold ixN;rw[if_pos (by omega),if_pos (by omega)];simp
 unfold atI;rw[e];exact h
def ng(b:Expr):Prop:=∀o i,subscripted b false o i=operate [o,i] (getItem o i)
def IxR(X:Cx)(r:R2):Prop:=
 ∀(value slice:Expr)(CZ:List (Addr×Obj))(s:Shared)(σ:St)(H:Hp)(x y:V)(v u:Value)(Q:VK),Inv X CZ σ H s→RelV x v→RelV y u→r x y H Q→
  subscripted slice false v u=operate [v,u] (getItem v u)→wpAny (model X.prog X.w) X.A (subscriptTail value slice v u) (EP X CZ σ Q) X.xe s
def MtR(X:Cx)(id:String)(r:V→List V→Hp→VK→Prop):Prop:=
 ∀(CZ:List (Addr×Obj))(s:Shared)(σ:St)(H:Hp)(x:V)(xs:List V)(v:Value)(us:List Value)(Q:VK),Inv X CZ σ H s→RelV x v→Vals xs us→r x xs H Q→
  wpAny (model X.prog X.w) X.A (call (.builtin id) (v::us)) (EP X CZ σ Q) X.xe s
section
variable{X:Cx}{a b:Expr}{ta tb:TE}{pos:Pos}
theorem yZ{r:R2}(hr:IxR X r)(ha:PE X a ta)(hb:PE X b tb)(hs:ng b):PE X (.Subscript a b pos) (tOp r ta tb):=by
 intro CZ s σ H Q I h;exact Subscript_ (xn ha hb I h fun v u s2 x y H2 I2 rx ry q=>hr a b CZ s2 σ H2 x y v u Q I2 rx ry q (hs _ _))
def rIxL(K:W.Frag):R2:=fun x y H Q=>∃p xs i v,x=.ref p∧y=.int i∧SqL K H p xs∧atI xs i=some v∧Q v H
def zo(K:W.Frag):R2:=fun x y H Q=>∃p xs i v,x=.ref p∧y=.int i∧SqT K H p xs∧atI xs i=some v∧Q v H
def rIxS:R2:=fun x y H Q=>∃z i c,x=.str z∧y=.int i∧z.length≤sizeLine∧atI z.cps.toList i=some c∧Q (.str ⟨#[c]⟩) H
theorem Xj:IxR X (rIxL X.K):=by
 intro value slice CZ s σ H x y v u Q I rx ry h hs;obtain⟨p,xs,i,z,rfl,rfl,hq,he,q⟩:=h;cases rx;obtain⟨t,rfl⟩:=ry;obtain⟨its,r,pl,hz⟩:=I.list hq;obtain⟨j,h1,h2,h3,h4,h5⟩:=iB he;obtain⟨w,ew,rw'⟩:=r.get h2;have hl:=r.length;have hn:=R9;have fin:EP X CZ σ Q w s:=⟨z,H,I,rw',q⟩;by_cases h0:0≤i
 ·have hj:i.toNat=j:=by
   rw[seqIndex_of h0 h5]at h1;exact AK h1
  exact item_listR pl.isList h0 (by omega) (by rw[hj];simpa using ew) fin hs
 ·have hj:(i+(its.toArray.size:Int)).toNat=j:=by
   rw[seqIndex_neg (by omega) h4]at h1;rw[AG,←hl];exact AK h1
  exact subscriptTail_builtinR (x:=w) pl.isList.typeIs slot_list_getitem.lookup
   (wpAny_getItem_list_neg (Q:=fun r s'=>r=w∧EP X CZ σ Q r s') pl.isList (by omega) (by rw[List.size_toArray] <;> omega) (by omega) (by rw[hj];simpa using ew) ⟨rfl,fin⟩) hs
theorem Zv:IxR X (zo X.K):=by
 intro value slice CZ s σ H x y v u Q I rx ry h hs;obtain⟨p,xs,i,z,rfl,rfl,hq,he,q⟩:=h;cases rx;obtain⟨t,rfl⟩:=ry;obtain⟨its,r,pl,hz⟩:=I.tuple hq;obtain⟨j,h1,h2,h3,h4,h5⟩:=iB he;obtain⟨w,ew,rw'⟩:=r.get h2;have hl:=r.length;have hn:=R9;have fin:EP X CZ σ Q w s:=⟨z,H,I,rw',q⟩;exact subscriptTail_builtinR (x:=w) pl.typeIs slot_tuple_getitem.lookup
  (getItem_tuple (j:=j) (Q:=fun r s'=>r=w∧EP X CZ σ Q r s') pl (by omega) (by omega) (by rw[List.size_toArray,←hl];exact h1) (by simpa using ew) ⟨rfl,fin⟩) hs
theorem sL:IxR X rIxS:=by
 intro value slice CZ s σ H x y v u Q I rx ry h hs;obtain⟨z,i,c,rfl,rfl,hz,he,q⟩:=h;obtain⟨t,rfl⟩:=rx;obtain⟨t',rfl⟩:=ry;obtain⟨j,h1,h2,h3,h4,h5⟩:=iB he;have hl:z.cps.toList.length=z.length:=by simp[Str.length]
 rw[hl]at h1 h4 h5;have hn:=R9;exact tail_any (typeIs_str s z t) slot_str_getitem.lookup (getItem_str (c:=c) (by
  have e1:decide (i < -(2^63:Int))=false:=Ag (by omega);have e2:decide (i ≥ 2^63)=false:=Ag (by omega);rw[e1,e2,Bool.or_false]) (by rw[h1];simpa using h2) ⟨.str ⟨#[c]⟩,H,I.tok _,⟨_,rfl⟩,q⟩) hs
theorem ld(its:List Value)(n j:Nat)(u:Value):Obj.mapSeq (·.setIfInBounds j u) {cls:=.type "list",data:=.seq its.toArray n}={cls:=.type "list",data:=.seq (its.set j u).toArray n}:=by
 simp[Obj.mapSeq]
theorem Inv.lst{CZ:List (Addr×Obj)}{σ:St}{H:Hp}{s:Shared}{p:Addr}{xs:List V}(I:Inv X CZ σ H s)(h:H p=some (.lst xs)):
  ∃(its:List Value)(n:Nat),Vals xs its∧s.heap.get? p=some {cls:=.type "list",data:=.seq its.toArray n}∧xs.length≤sizeLine:=by
 obtain⟨z,its,n,r,e⟩:=I.hok p _ h;exact⟨its,n,r,e,z⟩
theorem Inv.lstUpd{CZ:List (Addr×Obj)}{σ:St}{H:Hp}{s:Shared}{p:Addr}{xs ys:List V}{its its':List Value}{n n':Nat}{f:Obj→Obj}(I:Inv X CZ σ H s)(h:H p=some (.lst xs))(ho:s.heap.get? p=some {cls:=.type "list",data:=.seq its.toArray n})(hf:f {cls:=.type "list",data:=.seq its.toArray n}={cls:=.type "list",data:=.seq its'.toArray n'})(r:Vals ys its')(hz:ys.length≤sizeLine)(t:Nat):
  Inv X CZ σ (upd H p (.lst ys)) {s with heap:=s.heap.update p f,toks:=t}:=by
 have e:(s.heap.update p f).get? p=some {cls:=.type "list",data:=.seq its'.toArray n'}:=by
  rw[Bq f ho (by rw[hf] <;> rfl),hf]
 refine I.write (x:=p) (e:=p) (by rw[h];trivial) (.inl rfl) (fun b u hb q=>(AW _ _ (Ne.symm hb)).trans q) ⟨_,e⟩ ?_;exact⟨hz,its',n',r,e⟩
def yN:V→V→V→Hp→(Hp→Prop)→Prop:=fun o i v H Q=>∃p xs k j,o=.ref p∧i=.int k∧H p=some (.lst xs)∧ixN xs.length k=some j∧Q (upd H p (.lst (xs.set j v)))
theorem jA:zM X yN:=by
 intro CZ s σ H o i v ov iv u Q I ro ri rv h;obtain⟨p,xs,k,j,rfl,rfl,hp,hj,q⟩:=h;cases ro;obtain⟨t,rfl⟩:=ri;obtain⟨its,n,r,ho,hz⟩:=I.lst hp;obtain⟨h1,h2,h3,h4⟩:=mi hj;have hl:=r.length;have hn:=R9;have I':Inv X CZ σ (upd H p (.lst (xs.set j v))) {s with heap:=s.heap.update p (Obj.mapSeq (·.setIfInBounds j u))}:=
  I.lstUpd hp ho (ld its n j u) (r.set rv j) (by rw[List.length_set];exact hz) s.toks
 by_cases h0:0≤k
 ·have hk:k.toNat=j:=by
   rw[seqIndex_of h0 h4]at h1;exact AK h1
  exact W.ki_setAt ho h0 (by omega) (by rw[AG,←hl];exact h4) (by rw[hk];exact⟨_,I',q⟩)
 ·have hk:(k+(its.toArray.size:Int)).toNat=j:=by
   rw[seqIndex_neg (by omega) h3]at h1;rw[AG,←hl];exact AK h1
  exact W.ki_setBack ho (by omega) (by rw[AG,←hl];exact h3) (by omega) (by rw[hk];exact⟨_,I',q⟩)
theorem gF(lo hi:Option Int)(n:Nat):(sliceBounds lo hi none n).1=((HT.sIx n 0 lo:Nat):Int)∧(sliceBounds lo hi none n).2.1=((HT.sIx n n hi:Nat):Int)∧(sliceBounds lo hi none n).2.2=1:=by
 refine⟨?_,?_,rfl⟩
 ·cases lo with
  |none=>simp[sliceBounds,HT.sIx]
  |some i=>
   simp only[sliceBounds,HT.sIx,Option.getD_none,show(1:Int) > 0 by decide,if_true];by_cases h:i<0
   ·simp only[h,if_true] <;> omega
   ·simp only[h,if_false] <;> omega
 ·cases hi with
  |none=>simp[sliceBounds,HT.sIx]
  |some i=>
   simp only[sliceBounds,HT.sIx,Option.getD_none,show(1:Int) > 0 by decide,if_true];by_cases h:i<0
   ·simp only[h,if_true] <;> omega
   ·simp only[h,if_false] <;> omega
theorem O5(its:List Value)(lo hi:Option Int):slicePick its.toArray lo hi none=((its.drop (HT.sIx its.length 0 lo)).take (HT.sIx its.length its.length hi-HT.sIx its.length 0 lo)).toArray:=by
 obtain⟨h1,h2,h3⟩:=gF lo hi its.toArray.size;unfold slicePick;rw[h1,h2,h3];simp only[sliceRange_one,pick_run,List.size_toArray] <;> rfl
def rSlL(K:W.Frag):V→Option Int→Option Int→Hp→VK→Prop:=fun x lo hi H Q=>∃a xs,x=.ref a∧SqL K H a xs∧∀p,H p=none→Q (.ref p) (upd H p (.lst (cB xs lo hi)))
theorem S7:SlR X (rSlL X.K):=by
 intro CZ s σ H x v vl vu lo hi sl Q I rx hs pl pu h;obtain⟨a,xs,rfl,hx,q⟩:=h;cases rx;obtain⟨its,r,ht,hz⟩:=I.list hx;have De:=r.length;refine⟨"list",_,slot_list_getitem.lookup,ht.isList.typeIs,?_⟩;refine wpAny_getItem_list_slice ht.isList hs pl pu .none (by simp) ?_ (by rw[List.size_toArray] <;> omega);rw[O5,←De];refine⟨.ref s.heap.objs.size,_,I.laid (t':=s.toks) (o:=.lst (cB xs lo hi)) (fun b ob q=>af _ q) (io _) ?_,rfl,q _ (I.hok.fresh (io _))⟩;exact⟨AU (Rq xs lo hi) hz,_,0,(r.drop (HT.sIx xs.length 0 lo)).take (HT.sIx xs.length xs.length hi-HT.sIx xs.length 0 lo),pi _ rfl⟩
def dS:V→Bool
 |.non=>true
 |.bl _=>true
 |.int _=>true
 |.str _=>true
 |_=>false
def eqV:V→V→Bool
 |.non,.non=>true
 |.bl a,.bl b=>a==b
 |.bl a,.int b=>(if a then 1 else 0)==b
 |.int a,.bl b=>a==(if b then 1 else 0)
 |.int a,.int b=>a==b
 |.str a,.str b=>a==b
 |_,_=>false
theorem wY{A:Around}{s:Shared}{y x:V}{u v:Value}(ry:RelV y u)(rx:RelV x v)(fy:dS y=true)(fx:dS x=true):SeqAt.EqAt A s u v (eqV y x):=by
 cases y with
 |non=>
  cases ry;cases x with
  |non=>cases rx;exact SeqAt.EqAt.same _
  |bl b=>cases rx;exact SeqAt.EqAt.none_bool b
  |int b=>obtain⟨t,rfl⟩:=rx;exact SeqAt.EqAt.none_int b t
  |str b=>obtain⟨t,rfl⟩:=rx;exact SeqAt.EqAt.none_str b t
  |_=>exact absurd (show false=true from fx) Al
 |bl a=>
  cases ry;cases x with
  |non=>cases rx;exact SeqAt.EqAt.bool_none a
  |bl b=>cases rx;exact SeqAt.EqAt.bool_bool a b
  |int b=>obtain⟨t,rfl⟩:=rx;exact SeqAt.EqAt.bool_int a b t
  |str b=>obtain⟨t,rfl⟩:=rx;exact SeqAt.EqAt.bool_str a b t
  |_=>exact absurd (show false=true from fx) Al
 |int a=>
  obtain⟨t',rfl⟩:=ry;cases x with
  |non=>cases rx;exact SeqAt.EqAt.int_none a t'
  |bl b=>cases rx;exact SeqAt.EqAt.int_bool a t' b
  |int b=>obtain⟨t,rfl⟩:=rx;exact SeqAt.EqAt.int_int a t' b t
  |str b=>obtain⟨t,rfl⟩:=rx;exact SeqAt.EqAt.int_str a t' b t
  |_=>exact absurd (show false=true from fx) Al
 |str a=>
  obtain⟨t',rfl⟩:=ry;cases x with
  |non=>cases rx;exact SeqAt.EqAt.str_none a t'
  |bl b=>cases rx;exact SeqAt.EqAt.str_bool a t' b
  |int b=>obtain⟨t,rfl⟩:=rx;exact SeqAt.EqAt.str_int a t' b t
  |str b=>obtain⟨t,rfl⟩:=rx;exact SeqAt.EqAt.str_str a t' b t
  |_=>exact absurd (show false=true from fx) Al
 |_=>exact absurd (show false=true from fy) Al
def eqU(x:V)(u:Value):Bool:=match u with
 |.none=>eqV .non x
 |.bool b=>eqV (.bl b) x
 |.int i _=>eqV (.int i) x
 |.str z _=>eqV (.str z) x
 |_=>false
theorem qz{x y:V}{u:Value}(r:RelV y u)(f:dS y=true):eqU x u=eqV y x:=by
 cases y with
 |non=>cases r;rfl
 |bl b=>cases r;rfl
 |int i=>obtain⟨t,rfl⟩:=r;rfl
 |str z=>obtain⟨t,rfl⟩:=r;rfl
 |_=>exact absurd (show false=true from f) Al
theorem gC{x:V}:∀{xs:List V}{us:List Value},Vals xs us→xs.all dS=true→us.any (eqU x)=xs.any fun y=>eqV y x
 |_,_,.nil,_=>rfl
 |y::xs,u::us,.cons r t,f=>by
  rw[CJ,AX]at f;rw[List.any_cons,List.any_cons,qz r f.1,gC t f.2]
theorem P9{A:Around}{s:Shared}{x:V}{v:Value}(rx:RelV x v)(fx:dS x=true):∀{xs:List V}{us:List Value},Vals xs us→xs.all dS=true→∀u∈us,SeqAt.EqAt A s u v (eqU x u)
 |_,_,.nil,_=>fun u hu=>by cases hu
 |y::xs,u::us,.cons r t,f=>fun u' hu=>by
  rw[CJ,AX]at f
  rcases Ae.mp hu with rfl | hu
  ·rw[qz r f.1];exact wY r rx f.1 fx
  ·exact P9 rx fx t f.2 u' hu
def inV(x:V)(xs:List V):Bool:=xs.any fun y=>eqV y x
def rIn(K:W.Frag)(neg:Bool):R2:=fun x y H Q=>∃p xs,y=.ref p∧(SqL K H p xs∨SqT K H p xs)∧dS x=true∧xs.all dS=true∧Q (.bl (if neg then !inV x xs else inV x xs)) H
theorem N0:OpR X (compareOp .In) (rIn X.K false):=by
 intro CZ s σ H x y v u Q I rx ry h;obtain⟨p,xs,rfl,hq,fx,fs,q⟩:=h;cases ry
 rcases hq with hq | hq
 ·obtain⟨its,r,pl,hz⟩:=I.list hq;refine SeqAt.in_listAt (eqU x) pl.isList (fun w hw=>P9 rx fx r fs w (by simpa using hw)) ⟨.bl _,H,I,rfl,?_⟩;rw[show its.toArray.any (eqU x)=its.any (eqU x) by simp,gC r fs];exact q
 ·obtain⟨its,r,pl,hz⟩:=I.tuple hq;refine SeqAt.in_tupleAt (eqU x) pl (fun w hw=>P9 rx fx r fs w (by simpa using hw)) ⟨.bl _,H,I,rfl,?_⟩;rw[show its.toArray.any (eqU x)=its.any (eqU x) by simp,gC r fs];exact q
theorem Y8:bu X (.builtin "len") (fun xs H Q=>∃p ys,xs=[.ref p]∧(SqL X.K H p ys∨SqT X.K H p ys)∧Q (.int ys.length) H):=by
 intro CZ s σ H xs us Q I r h;obtain⟨p,ys,rfl,hq,q⟩:=h;obtain⟨u,rfl,rx⟩:=Wx r;cases rx;have hn:=R9
 rcases hq with hq | hq
 ·obtain⟨its,r',pl,hz⟩:=I.list hq;have De:=r'.length;exact Calls.call_len_list pl.isList (by simp only[List.size_toArray] <;> omega) ⟨.int ys.length,H,I.tok _,⟨s.toks+1,by rw[List.size_toArray,De]⟩,q⟩
 ·obtain⟨its,r',pl,hz⟩:=I.tuple hq;have De:=r'.length;exact len_tuple pl (by simp only[List.size_toArray] <;> omega) ⟨.int ys.length,H,I.tok _,⟨s.toks+1,by rw[List.size_toArray,De]⟩,q⟩
theorem Sv:bu X (.builtin "len") (fun xs H Q=>∃z,xs=[.str z]∧z.length≤sizeLine∧Q (.int z.length) H):=by
 intro CZ s σ H xs us Q I r h;obtain⟨z,rfl,hz,q⟩:=h;obtain⟨u,rfl,t,rfl⟩:=Wx r;have hn:=R9;exact len_str (by omega) ⟨.int z.length,H,I.tok _,⟨_,rfl⟩,q⟩
theorem hO:bu X (.type "list") (fun xs H Q=>∃p ys,xs=[.ref p]∧(SqL X.K H p ys∨SqT X.K H p ys)∧∀l,H l=none→Q (.ref l) (upd H l (.lst ys))):=by
 intro CZ s σ H xs us Q I r h;obtain⟨p,ys,rfl,hq,q⟩:=h;obtain⟨u,rfl,rx⟩:=Wx r;cases rx;have fin:∀(its:List Value),Vals ys its→ys.length≤sizeLine→∀(h':Heap)(c':Nat),(∀b o',s.heap.get? b=some o'→h'.get? b=some o')→
   h'.get? s.heap.objs.size=some {cls:=.type "list",dict:=none,data:=.seq its.toArray c',slots:=#[]}→EP X CZ σ Q (.ref s.heap.objs.size) {s with heap:=h'}:=fun its r' hz h' c' kp e=>
  ⟨.ref s.heap.objs.size,_,I.laid (t':=s.toks) kp (io _) (show ObjOk X.prog X.w _ h' _ (.lst ys) from⟨hz,its,c',r',e⟩),rfl,q _ (I.hok.fresh (io _))⟩
 rcases hq with hq | hq
 ·obtain⟨its,r',pl,hz⟩:=I.list hq;have De:=r'.length;obtain⟨o,ho,hc,n,hd⟩:=pl.isList;exact call_list_seq p (.inl rfl) ho hc hd (fun h' c' kp e=>fin its r' hz h' c' kp e) (by simp only[List.size_toArray] <;> omega)
 ·obtain⟨its,r',pl,hz⟩:=I.tuple hq;have De:=r'.length;obtain⟨o,ho,hc,n,hd⟩:=pl;exact call_list_seq p (.inr rfl) ho hc hd (fun h' c' kp e=>fin its r' hz h' c' kp e) (by simp only[List.size_toArray] <;> omega)
theorem Vg:bu X (.type "tuple") (fun xs H Q=>∃p ys,xs=[.ref p]∧((SqL X.K H p ys∧∀l,H l=none→Q (.ref l) (upd H l (.tup ys)))∨(SqT X.K H p ys∧Q (.ref p) H))):=by
 intro CZ s σ H xs us Q I r h;obtain⟨p,ys,rfl,h⟩:=h;obtain⟨u,rfl,rx⟩:=Wx r;cases rx
 rcases h with⟨hq,q⟩|⟨hq,q⟩
 ·obtain⟨its,r',pl,hz⟩:=I.list hq;have De:=r'.length;refine call_tuple_list pl.isList (fun h' kp=>?_) (by simp only[List.size_toArray] <;> omega);have I1:Inv X CZ σ H {s with heap:=h'}:=I.kept (t':=s.toks) kp;have I2:Inv X CZ σ (upd H h'.objs.size (.tup ys)) {s with heap:=h'.push {cls:=.type "tuple",data:=.seq its.toArray}}:=
   I1.laid (t':=s.toks) (fun b o e=>af _ e) (io _) (show ObjOk X.prog X.w _ _ _ (.tup ys) from⟨hz,its,r',TupN.new _ _⟩)
  exact⟨.ref h'.objs.size,_,I2,rfl,q _ (I1.hok.fresh (io _))⟩
 ·obtain⟨its,r',pl,hz⟩:=I.tuple hq;exact call_tuple_same pl ⟨.ref p,H,I,rfl,q⟩
def tyV(K:W.Frag)(T:String)(x:V)(H:Hp):Prop:=match x with
 |.str _=>T="str"
 |.int _=>T="int"
 |.ref p=>(T="list"∧∃xs,SqL K H p xs)∨(T="tuple"∧∃o,K.lookup p=some o∧o.cls=.type "tuple"∧o.dict=none)∨
   (T="dict"∧((∃kvs,H p=some (.dK kvs))∨∃kvs,H p=some (.dT kvs)))∨(T="set"∧∃S n,H p=some (.set S n))
 |_=>False
theorem rh{CZ:List (Addr×Obj)}{σ:St}{H:Hp}{s:Shared}{T:String}{x:V}{v:Value}(I:Inv X CZ σ H s)(r:RelV x v)(ty:tyV X.K T x H):
  s.TypeIs v T∧∀a,v=.ref a→∃ob,s.heap.get? a=some ob∧ob.dict=none:=by
 cases x with
 |str z=>
  obtain⟨t,rfl⟩:=r;cases (show T="str" from ty);exact⟨typeIs_str s z t,fun _ e=>nomatch e⟩
 |int i=>
  obtain⟨t,rfl⟩:=r;cases (show T="int" from ty);exact⟨typeIs_int s i t,fun _ e=>nomatch e⟩
 |ref p=>
  cases r
  rcases ty with⟨rfl,xs,hq⟩|⟨rfl,o,hk,hc,hd⟩|⟨rfl,hk⟩|⟨rfl,S,n,hk⟩
  ·obtain⟨its,_,pl,_⟩:=I.list hq;refine⟨pl.isList.typeIs,fun a e=>?_⟩;cases e;obtain⟨o,n,e,c,hd,_⟩:=pl;exact⟨o,e,hd⟩
  ·refine⟨⟨o,I.kIn p o hk,hc⟩,fun a e=>?_⟩;cases e;exact⟨o,I.kIn _ o hk,hd⟩
  ·have z:∃o,s.heap.get? p=some o∧o.ExactDict:=by
    rcases hk with⟨kvs,hk⟩|⟨kvs,hk⟩
    ·obtain⟨_,_,_,_,o,_,_,e,ex,_⟩:=I.hok p _ hk;exact⟨o,e,ex⟩
    ·obtain⟨_,_,_,_,o,_,_,e,ex,_⟩:=I.hok p _ hk;exact⟨o,e,ex⟩
   obtain⟨o,e,ex⟩:=z;refine⟨⟨o,e,ex.1⟩,fun a e2=>?_⟩;cases e2;exact⟨o,e,ex.2.1⟩
  ·obtain⟨o,_,_,_,e,ex,_⟩:=I.hok p _ hk;refine⟨⟨o,e,ex.1⟩,fun a e2=>?_⟩;cases e2;exact⟨o,e,ex.2.1⟩
 |_=>exact False.elim ty
def tBM0(K:W.Frag)(T:String)(r:V→List V→Hp→VK→Prop)(to:TE):TE:=fun σ H Q=>to σ H fun x H1=>tyV K T x H1∧r x [] H1 Q
def tBM(K:W.Frag)(T:String)(r:V→List V→Hp→VK→Prop)(to:TE)(t:TA):TE:=fun σ H Q=>to σ H fun x H1=>tyV K T x H1∧t σ H1 fun xs H2=>r x xs H2 Q
variable{o e:Expr}{es:List Expr}{to:TE}{t:TA}{name:Str}{apos cpos:Pos}{T id:String}{r:V→List V→Hp→VK→Prop}
theorem Qw(pa:PlainAttrs T)(slot:Slot T name id)(hty:typeOf (.builtin id)=pure (.type "method_descriptor"))(hm:MtR X id r)(ho:PE X o to)(hbase:attributeBase o name X.env (eval o X.env)=eval o X.env:=by rfl)(hline:(apos.endLine==cpos.line)=true:=by rfl):PE X (.Call (.Attribute o name apos) [] [] cpos) (tBM0 X.K T r to):=by
 intro CZ s σ H Q I h;refine wpAny_Call_method0_late hbase hline (thn (ho CZ s σ H _ I h) fun v s1 C0=>?_);obtain⟨x,H1,I1,r1,ty,q1⟩:=C0;obtain⟨h1,h2⟩:=rh I1 r1 ty;exact⟨T,id,pa,slot,hty,h1,h2,Co rfl (PySem.evalArgs_none (hm CZ s1 σ H1 x [] v [] Q I1 r1 .nil q1))⟩
theorem Uf(pa:PlainAttrs T)(slot:Slot T name id)(hty:typeOf (.builtin id)=pure (.type "method_descriptor"))(hm:MtR X id r)(ho:PE X o to)(ha:PA X (e::es) t)(hbase:attributeBase o name X.env (eval o X.env)=eval o X.env:=by rfl)(hfew:((backTo cpos (starEach (e::es) X.env)).all (fun x=>!x.1) && (backToKw cpos (keywordEach [] X.env)).all (fun x=>x.1.isSome)
   && decide ((e::es).length+([]:List Keyword).length+(if ([]:List Keyword).isEmpty then 0 else 1)<30))=true:=by rfl)(hline:(apos.endLine==cpos.line)=true:=by rfl)(hs:starEach (e::es) X.env=(false,eval e X.env)::starEach es X.env:=by rfl)(hplain:(backTo cpos (starEach es X.env)).any (·.1)=false:=by rfl):
  PE X (.Call (.Attribute o name apos) (e::es) [] cpos) (tBM X.K T r to t):=by
 intro CZ s σ H Q I h;refine wpAny_Call_method_late hbase hfew hline rfl (thn (ho CZ s σ H _ I h) fun v s1 C0=>?_);obtain⟨x,H1,I1,r1,ty,q1⟩:=C0;obtain⟨h1,h2⟩:=rh I1 r1 ty;refine⟨T,id,pa,slot,hty,h1,h2,?_⟩;have hA:=ha cpos CZ s1 σ H1 _ I1 q1;rw[hs]at hA⊢;refine Co (by show(false || (backTo cpos (starEach es X.env)).any (·.1))=false;rw[hplain] <;> rfl) (CC ?_);exact thn hA fun us s2 ⟨vs,H2,I2,r2,q2⟩=>hm CZ s2 σ H2 x vs v us Q I2 r1 r2 q2
end
def MtM(X:Cx)(id:String)(r:V→List V→Hp→VK→Prop):Prop:=
 ∀(CZ:List (Addr×Obj))(s:Shared)(σ:St)(H:Hp)(x:V)(xs:List V)(v:Value)(us:List Value)(Q:VK),Inv X CZ σ H s→RelV x v→Vals xs us→r x xs H Q→
  wpAny (model X.prog X.w) X.A (call (.builtin id) (v::us)) (EP X CZ σ Q) X.xe s
theorem Vals.one{x:V}{us:List Value}(h:Vals [x] us):∃u,us=[u]∧RelV x u:=by
 cases h with
 |cons r t=>
  cases t;exact⟨_,rfl,r⟩
theorem Vals.zero:∀{us:List Value},Vals [] us→us=[]
 |_,.nil=>rfl
theorem Vals.dropLast{xs:List V}{us:List Value}(h:Vals xs us):Vals xs.dropLast us.dropLast:=by
 induction h with
 |nil=>exact .nil
 |cons r t ih=>
  cases t with
  |nil=>exact .nil
  |cons q t'=>exact .cons r ih
theorem kS{α:Type}(l:List α):l.eraseIdx (l.length-1)=l.dropLast:=by
 induction l with
 |nil=>rfl
 |cons a r ih=>
  cases r with
  |nil=>rfl
  |cons b r=>
   have e:(a::b::r).length-1=((b::r).length-1)+1:=by
    have h1:(a::b::r).length=r.length+2:=rfl;have h2:(b::r).length=r.length+1:=rfl;omega
   rw[e,List.eraseIdx_cons_succ,ih]
   all_goals rfl
section
variable{X:Cx}{CZ:List (Addr×Obj)}{σ:St}{H:Hp}{s:Shared}{l b:Addr}{xs ys zs:List V}
theorem Inv.lset{its its':List Value}{n:Nat}{f:Array Value→Array Value}{t':Nat}(I:Inv X CZ σ H s)(hH:H l=some (.lst xs))(e:s.heap.get? l=some {cls:=.type "list",data:=.seq its.toArray n})(hf:f its.toArray=its'.toArray)(hv:Vals ys its')(hz:ys.length≤sizeLine):
  Inv X CZ σ (upd H l (.lst ys)) {s with heap:=s.heap.update l (Obj.mapSeq f),toks:=t'}:=by
 have q:=PySem.IsL.update e f;rw[hf]at q;refine I.write (x:=l) (e:=l) (by rw[hH];exact trivial) (.inl rfl) (fun b' u hb hu=>(AW s.heap (Obj.mapSeq f) (Ne.symm hb)).trans hu) ⟨_,q⟩ ?_;exact⟨hz,its',_,hv,q⟩
theorem Inv.lnew{its:List Value}{t':Nat}(I:Inv X CZ σ H s)(hv:Vals ys its)(hz:ys.length≤sizeLine):
  Inv X CZ σ (upd H s.heap.objs.size (.lst ys)) {s with heap:=s.heap.push {cls:=.type "list",data:=.seq its.toArray},toks:=t'}:=
 I.laid (fun _ _ q=>af _ q) (io _) ⟨hz,its,0,hv,pi _ rfl⟩
theorem Inv.fresh(I:Inv X CZ σ H s):H s.heap.objs.size=none:=I.hok.fresh (io _)
theorem Inv.lstM(I:Inv X CZ σ H s)(hH:H l=some (.lst xs)):xs.length≤sizeLine∧∃(its:List Value)(n:Nat),Vals xs its∧xs.length=its.length∧s.heap.get? l=some {cls:=.type "list",data:=.seq its.toArray n}:=by
 obtain⟨z,its,n,r,e⟩:=I.hok l _ hH;exact⟨z,its,n,r,r.length,e⟩
theorem tz{n:Nat}(h:n≤sizeLine):Builtin.List.listTooLong n=false:=by
 unfold Builtin.List.listTooLong;exact Ag (by omega)
end
section
variable{X:Cx}
def uH:V→List V→Hp→VK→Prop:=fun x vs H Q=>∃l xs y,x=.ref l∧vs=[y]∧H l=some (.lst xs)∧xs.length<sizeLine∧Q .non (upd H l (.lst (xs++[y])))
theorem Wu:MtM X "list.append" uH:=by
 intro CZ s σ H x vs v us Q I rx rv h;obtain⟨l,xs,y,rfl,rfl,hH,hz,q⟩:=h;cases rx;obtain⟨u,rfl,ru⟩:=rv.one;obtain⟨z,its,n,r,hl,e⟩:=I.lstM hH;refine call_meets F.slot_list_append ⟨_,e,rfl⟩ F.entry_list_append (F.args_list_append_2 _ _) (PySem.list_append l its.toArray n u (by rw[AG];omega)) ⟨e,?_⟩;refine⟨.non,_,I.lset (its':=its++[u]) hH e (by simp) (r.append (.cons ru .nil)) ?_,rfl,q⟩;rw[ba,Cu];omega
def u6:V→List V→Hp→VK→Prop:=fun x vs H Q=>∃l b xs zs,x=.ref l∧vs=[.ref b]∧H l=some (.lst xs)∧H b=some (.lst zs)∧xs.length+zs.length≤sizeLine∧Q .non (upd H l (.lst (xs++zs)))
theorem N4:MtM X "list.extend" u6:=by
 intro CZ s σ H x vs v us Q I rx rv h;obtain⟨l,b,xs,zs,rfl,rfl,hH,hB,hz,q⟩:=h;cases rx;obtain⟨u,rfl,ru⟩:=rv.one;cases ru;obtain⟨z,its,n,r,hl,e⟩:=I.lstM hH;obtain⟨z2,its2,n2,r2,hl2,e2⟩:=I.lstM hB;have hsz:its.toArray.size+its2.toArray.size≤sizeLine:=by rw[AG,AG];omega
 have hlong:¬(!its.toArray.isEmpty && Builtin.List.listTooLong (its.toArray.size+its2.toArray.size))=true:=by
  rw[tz hsz,CS];exact Al
 refine call_meets F.slot_list_extend ⟨_,e,rfl⟩ F.entry_list_extend (F.args_list_extend_2 _ _)
  (AutoSeq1.list_extend_list_list_0 l its.toArray n b its2.toArray n2 hlong (by rw[AG];omega) (by omega)) ⟨e,e2,?_⟩
 refine⟨.non,_,I.lset (its':=its++its2) hH e (by simp) (r.append r2) ?_,rfl,q⟩;rw[ba];omega
def rPop:V→List V→Hp→VK→Prop:=fun x vs H Q=>∃l xs y,x=.ref l∧vs=[]∧H l=some (.lst xs)∧xs[xs.length-1]?=some y∧Q y (upd H l (.lst xs.dropLast))
theorem gZ:MtM X "list.pop" rPop:=by
 intro CZ s σ H x vs v us Q I rx rv h;obtain⟨l,xs,y,rfl,rfl,hH,hy,q⟩:=h;cases rx;have hus:=rv.zero;subst hus;obtain⟨z,its,n,r,hl,e⟩:=I.lstM hH;obtain⟨u,hu,ru⟩:=r.get hy;have hy':its.toArray[its.toArray.size-1]?=some u:=by
  show its.toArray[its.length-1]?=some u;rw[←A6,←hl];exact hu
 refine call_meets F.slot_list_pop ⟨_,e,rfl⟩ F.entry_list_pop (F.args_list_pop_1 _) (MeetsSeq.list_pop_last l its.toArray n u hy' (by rw[AG];omega)) ⟨e,?_⟩;refine⟨y,_,I.lset (its':=its.dropLast) hH e ?_ r.dropLast ?_,ru,q⟩
 ·show its.toArray.eraseIdxIfInBounds (its.toArray.size-1)=its.dropLast.toArray;rw[AG,List.eraseIdxIfInBounds_toArray,kS]
 ·rw[List.length_dropLast];omega
def rCat:R2:=fun x y H Q=>∃l b xs zs,x=.ref l∧y=.ref b∧H l=some (.lst xs)∧H b=some (.lst zs)∧xs.length+zs.length≤sizeLine∧∀p,H p=none→Q (.ref p) (upd H p (.lst (xs++zs)))
theorem R0:OpR X (binaryOp .Add) rCat:=by
 intro CZ s σ H x y v u Q I rx ry h;obtain⟨l,b,xs,zs,rfl,rfl,hH,hB,hz,q⟩:=h;cases rx;cases ry;obtain⟨z,its,n,r,hl,e⟩:=I.lstM hH;obtain⟨z2,its2,n2,r2,hl2,e2⟩:=I.lstM hB;refine PySem.P.add_list e e2 ?_ (by rw[AG,AG];omega);have ea:its.toArray++its2.toArray=(its++its2).toArray:=by simp
 rw[ea];exact⟨.ref _,_,I.lnew (t':=s.toks) (r.append r2) (by rw[ba];omega),rfl,q _ I.fresh⟩
end
section
variable{prog:Program}{w:World}{A:Around}{E:Value→Shared→Prop}{s:Shared}
end
section
variable{X:Cx}
end
end L2
namespace Att
open PySem PySem.W PySem.Calls PyProof.Rows
theorem Rv{P:Params}{h:Heap}:∀(ns:List Int)(vs:List Value),WellAll P h vs (ns.map WData.int)→IntsAre vs ns:=by
 intro ns
 induction ns with
 |nil=>
  intro vs w;rw[CQ]at w;cases w;exact .nil
 |cons n ns ih=>
  intro vs w;rw[AA]at w;cases w with
  |cons a b=>
   cases a;exact .cons _ _ (ih _ b)
theorem oN{l:OpenLaw}{n:Nat}(hn:l.most=some n){P:Params}{h:Heap}{args:List WData}{vals:List Value}(hpre:l.row.toRowW.claim.pre args=true)(hwl:WellAll P h vals args):
  ∃a vs ns,vals=[Value.ref a]∧args=[WData.list (ns.map WData.int)]∧h.get? a=some {cls:=.type "list",data:=.seq vs.toArray}∧IntsAre vs ns∧ns.length≤n:=by
 have hsh:WShape.hasAll [] args [.list .int]=true:=(pre_splitW hpre).1;have hc:l.pre.holds [] {args:=args}=true:=(pre_splitW hpre).2;obtain⟨d,r,rfl,h1,h2⟩:=hasAllW_cons hsh;obtain rfl:=hasAllW_nil h2;obtain⟨xs,rfl,h3⟩:=hasW_list h1;obtain⟨ns,rfl⟩:=items_int h3;have De:ns.length≤n:=by
  unfold OpenLaw.pre at hc;have h4:(WTm.not (.lt (.lit (.int (n:Int))) (.len (.arg 0)))).holds [] {args:=[.list (ns.map .int)]}=true:=by
   have h4:=(holds_andW hc).1;rw[hn]at h4;exact h4
  have h5:=condW_of h4 (w_not (w_lt w_lit (w_len_list (w_arg rfl))));rw[ae]at h5;refine Nat.le_of_not_lt fun q=>?_;have q':(n:Int)<((ns.length:Nat):Int):=by omega
  first
   | (rw[zy q']at h5;exact absurd h5 (by decide))
   | (simp at h5;omega)
 cases hwl with
 |cons w1 w2=>
  cases w2;cases w1 with
  |list ho hall=>exact⟨_,_,ns,rfl,rfl,ho,Rv ns _ hall,De⟩
theorem oi(l:OpenLaw)(args:List WData):l.row.toRowW.claim.post args (.bool true) args=true:=
 postW_of (r:=l.row.toRowW) (X:=(true==true))
  (show WShape.has [] (.bool true) .bool=true by first | rfl | decide | simp[WShape.has,WShape.arms,WShape.armsAll])
  (show(WTm.eq .res (.lit (.bool true))).value [] {args:=args,res:=some (.bool true),after:=args}=some (.bool (true==true))from w_eq_bool (w_res rfl) w_lit) rfl
theorem attach_call{l:OpenLaw}{n:Nat}{q:Program}{loose:List Str}{XP:(Str→Option Value)→Heap→Prop}{YP:World→Heap→Prop}{d:DefRec}(hn:l.most=some n)(hdf:d.params.defaults=[])(call:∀(w:World) (s₀ s₁:Shared) (mg mb:Str→Option Value) (fa:Addr) (o:Obj) (pm cd doc:Value) (a:Addr) (vs:List Value) (ns:List Int),
   Ground q loose [] XP w s₀ mg mb s₁.heap→YP w s₁.heap→
   s₁.heap.get? fa=some o→o.data=.func (docDef d.name d.params d.body d.scope pm cd doc)→s₁.heap.CodeRec cd d.name→mg d.name=some (.ref fa)→
   s₁.heap.get? a=some {cls:=.type "list",data:=.seq vs.toArray}→IntsAre vs ns→ns.length≤n→s₁.gens=#[]→
   codeAny (model l.prog w) callerA (.call (.ref fa) ⟨[.ref a],[]⟩) (fun r s'=>r=.ok (.ret (.bool true))∧OldK s₁.heap s'.heap∧s'.os=s₁.os∧AllBare s'.gens) s₁):
  WalkO q loose XP YP l.row.toRowW d [] (fun f vs=>PySem.call f vs):=by
 intro w s₀ s₁ mg mb G Y fa o pm cd doc dV kV ho hd hcd hD hmg hg args vals as hpre hlay hrd hwl hlo;obtain rfl:dV=.none:=Dflts.none hD hdf;obtain rfl:kV=.none:=Dflts.noKw hD;obtain⟨a,vs,ns,rfl,rfl,hobj,hints,De⟩:=oN hn hpre hwl;refine enter_call (B6 (call w s₀ s₁ mg mb fa o pm cd doc a vs ns G Y ho (fd_plain hd) hcd hmg hobj hints De hg) fun r s' hq=>?_);obtain⟨rfl,h2,h3,h4⟩:=hq;exact⟨.inl ⟨.bool true,.bool true,[],rfl,fun _=>rfl,.bool true,oi l _,fun _=>⟨List.Pairwise.nil,fun _ hm=>(nomatch hm)⟩⟩,h2,h3,h4⟩
section
variable{prog:Program}{w:World}{A:Around}{E:Value→Shared→Prop}{s:Shared}{K:Frag}
end
end Att
namespace L2
open PySem PySem.Spec PyProof.Rows
theorem Uo:∀{vs:List Value}{ns:List Int},IntsAre vs ns→Vals (ns.map V.int) vs
 |_,_,.nil=>.nil
 |_,_,.cons n t h=>.cons ⟨t,rfl⟩ (Uo h)
end L2
namespace L2
open PySem PySem.Spec PyProof.Rows
abbrev CX0:CXT:=fun _ _ _ _ _ _=>False
abbrev E0:XK:=fun _ _ _=>False
theorem zn{X:Cx}:kw CX0 X E0:=fun _ _ _ _ _ _ _ h=>h.elim
structure Fun(K:W.Frag)(x qual:Str)(st:Stmt)(f:Addr)(fd:FuncData):Prop where
 ex:∃(oc:Value)(od:Option Addr)(kV doc pm:Value)(an:Option Addr)(cdv ct:Value)(osl:Array (Option Value)),
  fd=W.fnOf x qual (defArgs st) (defBody st) (defScope st) .none kV doc pm an cdv ct∧K.lookup f=some ⟨oc,od,.func fd,osl⟩∧W.codeIn K cdv qual=true
 kp:W.keepIn K (.ref f)=true
section
variable{P:Program}{w:World}{K:W.Frag}{mg:Str→Option Value}{base:Heap}
theorem Fun.ok{x qual:Str}{st:Stmt}{f:Addr}{fd:FuncData}{N ps:List Str}{k:Nat}{sp:Sp}(F:Fun K x qual st f fd)(S:FnScope N ps (defScope st))(len:∀vs H Q E,sp vs H Q E→vs.length=ps.length)(hbody:∀(cdv:Value) (A:Around) (outer:List Env) (s:Shared) (H:Hp) (vs:List V) (Q:VK) (E:XK),Room k (A.deeper (envOfC qual (defScope st) s.heap.objs.size f cdv))→sp vs H Q E→
   ∃t,PSs (kQ CX0 P w K mg base N qual (defScope st) f cdv A outer s H E).nox (defBody st) t∧t {nx:=fun _ H'=>Q .non H',rt:=Q} (dU N vs) H):FnOk P w K mg base CX0 (k+1) f fd ps sp:=by
 obtain⟨oc,od,kV,doc,pm,an,cdv,ct,osl,rfl,lk,hcd⟩:=F.ex;refine l8 lk hcd S len fun A outer s H vs Q E hr hsp=>?_;obtain⟨t,h,q⟩:=hbody cdv A outer s H vs Q E hr hsp;exact⟨t,h.nox,q⟩
theorem Fun.binds{x qual:Str}{st:Stmt}{f:Addr}{fd:FuncData}{ps:List Str}(F:Fun K x qual st f fd)(h:∀(kV doc pm:Value) (an:Option Addr) (cdv ct:Value) (us:List Value),us.length=ps.length→bindArgs (W.fnOf x qual (defArgs st) (defBody st) (defScope st) .none kV doc pm an cdv ct) ⟨us,[]⟩=pure (ps.zip us)):Binds K fd ps []:=by
 obtain⟨oc,od,kV,doc,pm,an,cdv,ct,osl,rfl,lk,hcd⟩:=F.ex;exact .all (h kV doc pm an cdv ct)
theorem gO{x qual:Str}{st:Stmt}{f:Addr}{oc:Value}{od an:Option Addr}{osl:Array (Option Value)}{kV doc pm cdv ct:Value}(l:K.lookup f=some ⟨oc,od,.func (W.fnOf x qual (defArgs st) (defBody st) (defScope st) .none kV doc pm an cdv ct),osl⟩)(c:W.codeIn K cdv qual=true)(k:W.keepIn K (.ref f)=true):Fun K x qual st f (W.fnOf x qual (defArgs st) (defBody st) (defScope st) .none kV doc pm an cdv ct):=⟨⟨oc,od,kV,doc,pm,an,cdv,ct,osl,rfl,l,c⟩,k⟩
end
theorem Vk{A:Around}{k:Nat}(hr:Room k A):A.units+1<cLine:=Nat.lt_of_le_of_lt (Nat.add_le_add_left (by decide:1≤64) _) hr.units
section
variable{X:Cx}
theorem pv(i:Nat){x:Str}{pos:Pos}(hN:X.N[i]?=some x:=by rfl)(hv:Vis X.env.scope x:=by first | exact Or.inl rfl | exact Or.inr (Or.inl rfl) | exact Or.inr (Or.inr rfl))(hd:(x==("__debug__":Str))=false:=by decide)(hcd:(x==("__classdict__":Str))=false:=by decide):PE X (.Name x pos) (xD i):=rn hN hv hd hcd
end
theorem Ym{A B:Prop}(h:B):if false=true then A else B:=by
 rw[Aj Al];exact h
theorem Xf{A B:Prop}(h:A):if true=true then A else B:=by
 rw[Ah rfl];exact h
theorem Wn{c A B:Prop}[Decidable c](h1:c→A)(h2:¬c→B):if c then A else B:=by
 by_cases h:c
 ·rw[Ah h];exact h1 h
 ·rw[Aj h];exact h2 h
def Same(H H':Hp):Prop:=∀b o,H b=some o→H' b=some o
theorem Same.refl(H:Hp):Same H H:=fun _ _ h=>h
theorem Same.trans{H H1 H2:Hp}(a:Same H H1)(b:Same H1 H2):Same H H2:=fun c o h=>b c o (a c o h)
theorem Same.free{H H':Hp}(e:Same H H'){l:Addr}(h:H' l=Option.none):H l=Option.none:=by
 cases q:H l with
 |none=>rfl
 |some o=>
  rw[e l o q]at h;cases h
end L2
set_option maxHeartbeats 4000000
set_option bootstrap.genMatcherCode false
set_option genInjectivity false
set_option genSizeOf false
noncomputable section
namespace L2
open PySem PySem.Spec PyProof.Rows
theorem Pm{α β:Type}{f:α→β→Sem (ForInStep β)}{g:β→α→β}:∀(l:List α)(c:β),(∀x∈l,∀c,f x c=pure (.yield (g c x)))→forIn l c f=pure (l.foldl g c)
 | [],_,_=>rfl
 |x::l,c,h=>by
  rw[List.forIn_cons,h x Au,pure_bind];exact Pm l (g c x) fun y hy=>h y (Az _ hy)
def a_(env:Env)(Db:List (Str×Addr))(x:Str×NameKind):List (Str×Addr):=if x.2==.free then(x.1,(env.cells.lookup x.1).getD 0)::Db else Db
def aR(env:Env)(names:List (Str×NameKind)):List (Str×Addr):=names.foldl (a_ env) []
theorem Tl{scope:Scope}{env:Env}(h:∀x∈scope.names,x.2=.free→∃c,env.cells.lookup x.1=some c):closureFor scope env=pure (aR env scope.names):=by
 simp only[closureFor];rw[Pm (g:=a_ env) scope.names [] (fun x hx c=>by
  obtain⟨n,kind⟩:=x;by_cases hk:kind=.free
  ·subst hk;obtain⟨a,ha⟩:=h _ hx rfl;have ha':env.cells.lookup n=some a:=ha;simp[a_,cellOf,ha']
  ·have hb:(kind==NameKind.free)=false:=by simpa using hk
   simp[a_,hb])]
 rfl
theorem Tb{env:Env}:∀(names:List (Str×NameKind))(Db:List (Str×Addr)),(∀x∈names,x.2=.free→∃c,env.cells.lookup x.1=some c)→(∀p∈Db,env.cells.lookup p.1=some p.2)→
  ∀p∈names.foldl (a_ env) Db,env.cells.lookup p.1=some p.2
 | [],_,_,h=>h
 |x::r,Db,hn,h=>by
  refine Tb r _ (fun y hy=>hn y (Az _ hy)) ?_;intro p hp;unfold a_ at hp
  split at hp
  ·rename_i hk
   rcases Ae.mp hp with e | e
   ·subst e;obtain⟨c,hc⟩:=hn x List.mem_cons_self (by simpa using hk);show env.cells.lookup x.1=some ((env.cells.lookup x.1).getD 0);rw[hc];rfl
   ·exact h p e
  ·exact h p hp
theorem Nk{env:Env}:∀(names:List (Str×NameKind))(Db:List (Str×Addr))(p:Str×Addr),p∈Db→p∈names.foldl (a_ env) Db
 | [],_,_,h=>h
 |x::r,Db,p,h=>by
  refine Nk r _ p ?_;unfold a_
  split
  ·exact Az _ h
  ·exact h
theorem Tc{env:Env}:∀(names:List (Str×NameKind))(Db:List (Str×Addr))(x:Str),(x,NameKind.free)∈names→∃c,(x,c)∈names.foldl (a_ env) Db
 |y::r,Db,x,h=>by
  rcases Ae.mp h with e | e
  ·subst e;exact⟨_,Nk r _ _ (by unfold a_;rw[Ah (by rfl)];exact Au)⟩
  ·exact Tc r _ x e
theorem Wb{α:Type}:∀{l:List (Str×α)}{x:Str}{c:α},(x,c)∈l→∃d,l.lookup x=some d
 | (y,d)::r,x,c,h=>by
  rw[BN];cases e:x==y with
  |true=>exact⟨d,rfl⟩
  |false=>
   rcases Ae.mp h with q | q
   ·cases q;rw[beq_self_eq_true]at e;cases e
   ·exact Wb q
theorem V2(env:Env):∀(names:List (Str×NameKind))(x:Str),(names.map fun(n,k)=>if (k==NameKind.free && env.scope.kind==.function && env.kindOf n==some .cell) then(n,NameKind.cell) else(n,k)).lookup x =
  (names.lookup x).map fun k=>if (k==NameKind.free && env.scope.kind==.function && env.kindOf x==some .cell)then NameKind.cell else k
 | [],_=>rfl
 | (n,k)::r,x=>by
  have ih:=V2 env r x;show List.lookup x ((if (k==NameKind.free && env.scope.kind==.function && env.kindOf n==some .cell)=true then(n,NameKind.cell) else(n,k))::_)=_;have hr:((n,k)::r).lookup x=(match x==n with | true=>some k | false=>r.lookup x):=BN ..;rw[hr];by_cases hc:(k==NameKind.free && env.scope.kind==.function && env.kindOf n==some .cell)=true
  ·rw[Ah hc,BN];cases hx:x==n with
   |true=>
    have e:x=n:=eq_of_beq hx;subst e;show some NameKind.cell=some (if (k==NameKind.free && env.scope.kind==.function && env.kindOf x==some .cell)=true then NameKind.cell else k);rw[Ah hc]
   |false=>exact ih
  ·rw[Aj hc,BN];cases hx:x==n with
   |true=>
    have e:x=n:=eq_of_beq hx;subst e;show some k=some (if (k==NameKind.free && env.scope.kind==.function && env.kindOf x==some .cell)=true then NameKind.cell else k);rw[Aj hc]
   |false=>exact ih
def cxC(X:Cx)(own:List Str)(scope:Scope)(cl:List (Str×Addr))(C:Addr)(s:Shared)(H:Hp)(fp:List Addr):Cx:=
 {X with N:=own++X.N,s₀:=s,H₀:=H,env:=compEnvC scope cl C X.env,outer:=X.stack,stack:=X.stack,ex:=fp,fn:=fun _=>false,xe:=fun _ _=>False}
def PTs(X:Cx)(ifs:List Expr)(t:TT):Prop:=
 ∀(CZ:List (Addr×Obj))(s:Shared)(σ:St)(H:Hp)(Q:Bool→Hp→Prop),Inv X CZ σ H s→t σ H Q→
  wpAny (model X.prog X.w) X.A (forIn ifs true fun c r=>if r=true then do let ok ←isTrue c X.env (eval c X.env);pure (ForInStep.yield ok)else pure (ForInStep.yield r)) (TP X CZ σ Q) X.xe s
def tAll:TT:=fun _ H Q=>Q true H
theorem Yb{X:Cx}:PTs X [] tAll:=fun _ _ _ H _ I h=>wpAny_tests_nil ⟨H,I,h⟩
theorem Wj{X:Cx}{c:Expr}{t:TT}(h:PT X c t):PTs X [c] t:=fun CZ s σ H Q I q=>wpAny_tests_one (h CZ s σ H Q I q)
def Wk:St→St→Prop
 | [],[]=>True
 |_::r,none::t=>Wk r t
 |a::r,some v::t=>a=some v∧Wk r t
 |_,_=>False
theorem Wk.len:∀{a b:St},Wk a b→b.length=a.length
 | [],[],_=>rfl
 |_::r,none::t,h=>Bm (·+1) (Wk.len (a:=r) (b:=t) h)
 |_::r,some _::t,h=>Bm (·+1) (Wk.len (a:=r) (b:=t) h.2)
 | [],none::_,h=>h.elim
 | [],some _::_,h=>h.elim
 |_::_,[],h=>h.elim
theorem Wk.get:∀{a b:St}(i:Nat)(v:V),Wk a b→b[i]?=some (some v)→a[i]?=some (some v)
 |_::_,none::_,0,v,_,e=>by simp at e
 |_::_,some _::_,0,v,h,e=>by simp at e⊢;rw[h.1,e]
 |_::r,none::t,i+1,v,h,e=>by simp at e⊢;exact Wk.get (a:=r) (b:=t) i v h e
 |_::r,some _::t,i+1,v,h,e=>by simp at e⊢;exact Wk.get (a:=r) (b:=t) i v h.2 e
 | [],[],i,v,h,e=>by simp at e
 | [],none::_,_,_,h,_=>h.elim
 | [],some _::_,_,_,h,_=>h.elim
 |_::_,[],_,_,h,_=>h.elim
theorem Wk.refl:∀(a:St),Wk a a
 | []=>trivial
 |none::r=>Wk.refl r
 |some _::r=>⟨rfl,Wk.refl r⟩
def CompR(J:It)(H:Hp)(k:Nat)(g:TG)(tt:TT)(te:TE)(σ:St)(Q:VK):Prop:=∃W:Nat→Nat→List V→Hp→Prop,(∃m,W 0 m [] H)∧∀i m ys H,W i m ys H→
 (J.stop i H∧ys.length≤sizeLine∧∀p,H p=none→Q (.ref p) (upd H p (.lst ys)))∨
 (J.go i H∧ys.length<sizeLine∧∀x H',J.yld i H x H'→g x (List.replicate k none++σ) H' fun σ2 H2=>Wk σ2 (List.replicate k none++σ)∧tt σ2 H2 fun ok H3=>
  if ok=true then te σ2 H3 fun y H4=>∃m',m'<m∧W (i+1) m' (ys++[y]) H4 else ∃m',m'<m∧W (i+1) m' ys H3)
def iI(wi:TI)(g:TG)(tt:TT)(te:TE)(k:Nat):TE:=fun σ H Q=>wi σ H fun J H1=>CompR J H1 k g tt te σ Q
theorem jO{prog:Program}{w:World}{A:Around}{R:Result→Shared→Prop}{s:Shared}{elt target iter:Expr}{ifs:List Expr}{scope:Scope}{pos:Pos}{it Db:Value}{env:Env}(I:Nat→Shared→Prop)(turn:∀n s,I n s→wpAny (model prog w) A (pyNext it) (fun r s₁=>match r with
   |none=>R (.ok .next) s₁
   |some v=>wpAny (model prog w) A (letOwnedTupleGo target it v) (fun _ s₁'=>wpAny (model prog w) A (assign target env v) (fun _ s₂=>
     wpAny (model prog w) A (forIn ifs true fun c r=>if r=true then do let ok ←isTrue c env (eval c env);pure (ForInStep.yield ok)else pure (ForInStep.yield r)) (fun ok s₃=>
      if ok=true then wpAny (model prog w) A (eval elt env) (fun x s₄=>
       wpAny (model prog w) A (call (.builtin "list.append") [Db,x]) (fun _ s₅=>∃m,m<n∧I m s₅) (fun _ _=>False) s₄) (fun _ _=>False) s₃
      else ∃m,m<n∧I m s₃) (fun _ _=>False) s₂) (fun _ _=>False) s₁') (fun _ _=>False) s₁) (fun _ _=>False) s)(n:Nat)(h:I n s):
  codeAny (model prog w) A (.compLoop (.ListComp elt [⟨target,iter,ifs,0⟩] scope pos) 0 it Db env) R s:=by
 refine codeAny_loop rfl I (fun n s hI=>?_) n h;show wpAny _ A ((compTurn (.ListComp elt [⟨target,iter,ifs,0⟩] scope pos) 0 it Db env).onRaise (fun x=>do noteFrame x env;theTreesLotGoes x)) _ _ s;refine wpAny_noted ?_;rw[compTurn_list];refine aa (wpAny_standAt (aa (A5 (turn n s hI) (fun r s₁ h₁=>?_) fun _ _ h'=>h'.elim)));cases r with
 |none=>exact aq h₁
 |some v=>
  refine aa (A5 h₁ (fun _ s₁' h₁'=>?_) fun _ _ h'=>h'.elim);refine aa (A5 h₁' (fun _ s₂ h₂=>aa (A5 h₂ (fun ok s₃ h₃=>?_) fun _ _ h'=>h'.elim)) fun _ _ h'=>h'.elim);cases ok with
  |false=>exact aq ⟨rfl,h₃⟩
  |true=>
   exact aa (aa (A5 h₃ (fun x s₄ h₄=>aa (A5 h₄ (fun _ s₅ h₅=>aq (aq ⟨rfl,h₅⟩)) fun _ _ h'=>h'.elim)) fun _ _ h'=>h'.elim))
abbrev lo(its:List Value)(n:Nat):Obj:={cls:=.type "list",data:=.seq its.toArray n}
structure TurnP(Pc:Cx→Prop)(P:Program)(w:World)(K:W.Frag)(tg:Expr)(J:It)(fp:List Addr)(it:Addr)(tn:Nat→Heap→Prop):Prop where
 obj:∀i h,tn i h→∀b∈fp,∃o,h.get? b=some o∧∀v,o.data≠.cell v
 keep:∀i h h',tn i h→(∀b∈fp,∀o,h.get? b=some o→h'.get? b=some o)→tn i h'
 item:∀(X:Cx),X.prog=P→X.w=w→X.K=K→Pc X→∀(i:Nat)(CZ:List (Addr×Obj))(s:Shared)(σ:St)(H:Hp)(E:Value→Shared→Prop),Inv X CZ σ H s→(∀b∈fp,dg X CZ H b)→tn i s.heap→J.go i H→
  wpAny (model P w) X.A (pyNext (.ref it)) (fun r s1=>∃u,r=some u∧
   wpAny (model P w) X.A (letOwnedTupleGo tg (.ref it) u) (fun _ s2=>∃x H',Inv X CZ σ H' s2∧RelV x u∧J.yld i H x H'∧tn (i+1) s2.heap∧∀b∈fp,H' b=none) E s1) E s
 done:∀(X:Cx),X.prog=P→X.w=w→X.K=K→Pc X→∀(i:Nat)(CZ:List (Addr×Obj))(s:Shared)(σ:St)(H:Hp)(E:Value→Shared→Prop),Inv X CZ σ H s→(∀b∈fp,dg X CZ H b)→tn i s.heap→J.stop i H→
  wpAny (model P w) X.A (pyNext (.ref it)) (fun r s1=>r=none∧Inv X CZ σ H s1) E s
 self:∀(A:Around)(i:Nat)(s:Shared)(Q:Value→Shared→Prop)(E:Value→Shared→Prop),tn i s.heap→Q (.ref it) s→wpAny (model P w) A (pyIter (.ref it)) Q E s
def PIP(Pc:Cx→Prop)(X:Cx)(tg iter:Expr)(wi:TI):Prop:=
 ∀(CZ:List (Addr×Obj))(s:Shared)(σ:St)(H:Hp)(R:It→Hp→Prop),Inv X CZ σ H s→wi σ H R→
  wpAny (model X.prog X.w) X.A (eval iter X.env) (fun v s1=>wpAny (model X.prog X.w) X.A (pyIter v) (fun itv s2=>∃(it:Addr)(fp:List Addr)(tn:Nat→Heap→Prop)(J:It)(H':Hp),itv=.ref it∧Inv X CZ σ H' s2∧TurnP Pc X.prog X.w X.K tg J fp it tn∧tn 0 s2.heap∧(∀b∈fp,dg X CZ H' b)∧R J H') X.xe s1) X.xe s
theorem PI.p{X:Cx}{tg iter:Expr}{wi:TI}(h:PI X tg iter wi):PIP (fun X=>X.calm=true) X tg iter wi:=fun CZ s σ H R I q=>A5 (h CZ s σ H R I q) (fun v s1 h1=>A5 h1 (fun itv s2 ⟨it,fp,tn,J,H',e,I',T,t0,f,r⟩=>⟨it,fp,tn,J,H',e,I',⟨T.obj,T.keep,T.item,T.done,T.self⟩,t0,f,r⟩) fun _ _ z=>z) fun _ _ z=>z
structure CompOk(X:Cx)(own:List Str)(scope:Scope):Prop where
 cell:∀y∈scope.names,y.2≠.cell
 kind:scope.kind=.function
 names:∀y∈scope.names,y.2=.local→scope.names.lookup y.1=some .local
 fr:∀y∈scope.names,y.2=.free→X.env.scope.names.lookup y.1=some .cell∨X.env.scope.names.lookup y.1=some .free
 loc:∀y∈X.N,scope.names.lookup y≠some .local
def j0(names:List (Str×NameKind)):Bool:=names.all fun y=>(y.2 != .cell) && (y.2 != .local || names.lookup y.1==some .local)
def lh(outer names:List (Str×NameKind)):Bool:=names.all fun y=>y.2 != .free || outer.lookup y.1==some .cell || outer.lookup y.1==some .free
def lc(N:List Str)(names:List (Str×NameKind)):Bool:=N.all fun y=>names.lookup y != some .local
theorem CompOk.of{X:Cx}{own:List Str}{scope:Scope}(hc:X.calm=X.calm)(hk:scope.kind=.function)(h1:j0 scope.names=true)(h2:lh X.env.scope.names scope.names=true)(h3:lc X.N scope.names=true):CompOk X own scope:=by
 unfold j0 at h1;unfold lh at h2;unfold lc at h3;rw[A3]at h1 h2 h3;refine⟨fun y hy=>?_,hk,fun y hy hl=>?_,fun y hy hf=>?_,fun y hy=>?_⟩
 ·have:=h1 y hy;rw[AX]at this;exact bne_iff_ne.mp this.1
 ·have:=h1 y hy;rw[AX,hl]at this;simpa using this.2
 ·have:=h2 y hy;rw[hf]at this;simpa using this
 ·exact bne_iff_ne.mp (h3 y hy)
section
variable{X:Cx}{own:List Str}{scope:Scope}{CZ:List (Addr×Obj)}{σ:St}{H:Hp}{s:Shared}{fp:List Addr}
theorem CompOk.cells(O:CompOk X own scope)(ok:X.Ok):∀x∈scope.names,x.2=.free→∃c,X.env.cells.lookup x.1=some c:=fun x hx hk=>ok.has x.1 (O.fr x hx hk)
theorem CompOk.sub(O:CompOk X own scope)(ok:X.Ok):∀x c,(aR X.env scope.names).lookup x=some c→X.env.cells.lookup x=some c:=fun x c e=>
 Tb scope.names [] (O.cells ok) (fun _ h=>nomatch h) (x,c) (AL e)
theorem CompOk.free_of(O:CompOk X own scope){cl:List (Str×Addr)}{C:Addr}{x:Str}(h:(compEnvC scope cl C X.env).kindOf x=some .cell∨(compEnvC scope cl C X.env).kindOf x=some .free):scope.names.lookup x=some .free:=by
 have e:(compEnvC scope cl C X.env).kindOf x=(scope.names.lookup x).map fun k=>if (k==NameKind.free && X.env.scope.kind==.function && X.env.kindOf x==some .cell)then NameKind.cell else k:=V2 X.env scope.names x
 rw[e]at h;cases q:scope.names.lookup x with
 |none=>rw[q]at h;simp at h
 |some k=>
  rw[q]at h;by_cases hk:k=.free
  ·rw[hk]
  ·have hc:k≠.cell:=O.cell (x,k) (AL q);have hb:(k==NameKind.free)=false:=by simpa using hk
   have hr:¬((k==NameKind.free && X.env.scope.kind==.function && X.env.kindOf x==some .cell)=true):=by rw[hb];exact Al
   have h:some (if (k==NameKind.free && X.env.scope.kind==.function && X.env.kindOf x==some .cell)=true then NameKind.cell else k)=some NameKind.cell∨some (if (k==NameKind.free && X.env.scope.kind==.function && X.env.kindOf x==some .cell)=true then NameKind.cell else k)=some NameKind.free:=h;rw[Aj hr]at h
   rcases h with h | h
   ·exact absurd (AK h) hc
   ·exact absurd (AK h) hk
theorem CompOk.look(O:CompOk X own scope)(ok:X.Ok){x:Str}(h:scope.names.lookup x=some .free):∃c,(aR X.env scope.names).lookup x=some c∧X.env.cells.lookup x=some c:=by
 obtain⟨c,hc⟩:=Tc scope.names [] (env:=X.env) x (AL h);obtain⟨d,hd⟩:=Wb hc;exact⟨d,hd,O.sub ok x d hd⟩
theorem kg(I:Inv X CZ σ H s){b:Addr}(h1:b≠X.env.locals)(h2:b∉X.fs):b∉frs X.stack:=fun z=>(Ae.mp (I.stkSub b z)).elim h1 h2
theorem sT(O:CompOk X own scope)(I:Inv X CZ σ H s)(hf:∀b∈fp,dg X CZ H b)(ho:∀b∈fp,∃o,s.heap.get? b=some o){h₁:Heap}{C:Addr}{tk:Nat}{m:Str→Option Value}(hC:s.heap.objs.size<C)(hD:h₁.get? s.heap.objs.size=some (lo [] 0))(old:∀b o,s.heap.get? b=some o→h₁.get? b=some o)(hns:h₁.Ns C m):
  Inv (cxC X own scope (aR X.env scope.names) C s H fp) (CZ++[(s.heap.objs.size,lo [] 0)]) (List.replicate own.length none++σ) H {s with heap:=h₁,toks:=tk}:=by
 have ltD:∀{b:Addr}{o:Obj},s.heap.get? b=some o→b<s.heap.objs.size:=fun e=>az e;have nC:∀{b:Addr}{o:Obj},s.heap.get? b=some o→b≠C:=fun e=>Ac (Bl (ltD e) hC);have hsub:=O.sub I.ok;refine⟨⟨I.ok.mod,by show(relabel scope X.env).kind=_;exact O.kind,I.ok.glob,I.ok.blt,BB hC,fun x y c h1 h2=>I.ok.inj x y c (hsub x c h1) (hsub y c h2),fun x hx=>?_,fun x c hx _=>absurd (show false=true from hx) Al,I.ok.hd,I.ok.frames,.inl rfl,fun b hb=>⟨?_,fun x c e=>?_⟩,I.bs,AU I.ok.bsz I.sz,fun b o e hb=>?_,fun b hb=>kg I (hf b hb).2.1 (hf b hb).2.2.1,I.stack,I.stkFree⟩,
  rfl,I.bare,Un.kept old,⟨m,hns,fun i x v e1 e2 e3=>?_⟩,fun x c e=>?_,I.hok.fresh (BB hC),fun x c e=>I.freeC x c (hsub x c e),fun p hp=>?_,I.hok.kept old,?_⟩
 ·obtain⟨c,hc,_⟩:=O.look I.ok (O.free_of hx);exact⟨c,hc⟩
 ·obtain⟨o,e⟩:=ho b hb;exact nC e
 ·exact(hf b hb).2.2.2.2.1 x c (hsub x c e)
 ·rcases(hf b hb).2.2.2.1 with z | z
  ·exact I.ok.noex b o e z
  ·exact absurd (Av (az e) (AU I.ok.bsz z)) (BA _)
 ·have e1:(own++X.N)[i]?=some x:=e1;by_cases hi:i<own.length
  ·rw[List.getElem?_append_left (by simpa using hi),List.getElem?_replicate,if_pos hi]at e2;cases e2
  ·rw[List.getElem?_append_right (by simpa using hi),List.length_replicate]at e2;rw[List.getElem?_append_right (by simpa using hi)]at e1;have nl:(compEnvC scope (aR X.env scope.names) C X.env).kindOf x≠some .local:=by
    have e:(compEnvC scope (aR X.env scope.names) C X.env).kindOf x=(scope.names.lookup x).map fun k=>if (k==NameKind.free && X.env.scope.kind==.function && X.env.kindOf x==some .cell)then NameKind.cell else k:=V2 X.env scope.names x
    rw[e];intro z;cases q:scope.names.lookup x with
    |none=>rw[q]at z;simp at z
    |some k=>
     rw[q]at z;by_cases hk:k=.local
     ·exact O.loc x (Ai e1) (by rw[q,hk])
     ·have z:some (if (k==NameKind.free && X.env.scope.kind==.function && X.env.kindOf x==some .cell)=true then NameKind.cell else k)=some NameKind.local:=z;by_cases hc:(k==NameKind.free && X.env.scope.kind==.function && X.env.kindOf x==some .cell)=true
      ·rw[Ah hc]at z;cases z
      ·rw[Aj hc]at z;exact hk (AK z)
   have hv:(compEnvC scope (aR X.env scope.names) C X.env).kindOf x=some .cell∨(compEnvC scope (aR X.env scope.names) C X.env).kindOf x=some .free:=by
    rcases e3 with z | z | z
    ·exact absurd z nl
    ·exact .inl z
    ·exact .inr z
   have hfree:=O.free_of hv;have hout:=O.fr (x,.free) (AL hfree) rfl;obtain⟨m0,hn0,hl0⟩:=I.loc;obtain⟨u,r,l⟩:=hl0 _ x v e1 e2 (hout.elim (fun z=>.inr (.inl z)) fun z=>.inr (.inr z));refine⟨u,r,.inr ⟨hv,?_⟩⟩
   rcases l with⟨k,_⟩|⟨_,c,ec,z⟩
   ·have k':X.env.scope.names.lookup x=some .local:=k
    rcases hout with q | q
    ·rw[q]at k';cases k'
    ·rw[q]at k';cases k'
   ·obtain⟨d,hd1,hd2⟩:=O.look I.ok hfree;rw[ec]at hd2;cases hd2;obtain⟨oc,hoc,hdc⟩:=z;exact⟨c,hd1,oc,old _ _ hoc,hdc⟩
 ·obtain⟨v,o,hoc,hdc⟩:=I.cell x c (hsub x c e);exact⟨v,o,old _ _ hoc,hdc⟩
 ·have hp:p∈X.pn++(CZ++[(s.heap.objs.size,lo [] 0)]):=hp;rw[←Bp]at hp
  rcases AI.mp hp with hp | hp
  ·obtain⟨e,n,ne,nf,d⟩:=I.pin p hp;exact⟨old _ _ e,n,nC e,kg I ne nf,d⟩
  ·cases Af.mp hp;refine⟨hD,I.hok.fresh (io _),Ac hC,fun z=>?_,fun v z=>by cases z⟩;have z:=I.stkSub _ z
   rcases Ae.mp z with z | z
   ·exact absurd z (AF I.lt)
   ·exact I.nofs (io _) z
 ·show(List.replicate own.length none++σ).length=(own++X.N).length;rw[ba,ba,AE,I.len]
theorem Ni{cl:List (Str×Addr)}{C:Addr}{its:List Value}{n:Nat}{σ':St}{H':Hp}{s':Shared}{ys:List V}{h':Heap}(I:Inv X CZ σ H s)(hf:∀b∈fp,dg X CZ H b)(hC:s.heap.objs.size<C)(I':Inv (cxC X own scope cl C s H fp) (CZ++[(s.heap.objs.size,lo its n)]) σ' H' s')(hv:Vals ys its)(hz:ys.length≤sizeLine)(hs:Heap.SameBut C s'.heap h'):
  Inv X CZ σ (upd H' s.heap.objs.size (.lst ys)) {s' with heap:=h'}:=by
 obtain⟨eD,nD,neD,_,_⟩:=I'.pin (s.heap.objs.size,lo its n) (Ao _ (Ao _ Au));have nC:∀{b:Addr}{o:Obj},s.heap.get? b=some o→b≠C:=fun e=>Ac (Bl (az e) hC);have nDD:∀{b:Addr}{o:Obj},s.heap.get? b=some o→b≠s.heap.objs.size:=fun e=>Ac (az e);have same:∀{b:Addr}{o:Obj},b≠C→s'.heap.get? b=some o→h'.get? b=some o:=fun hb e=>(hs.2 _ hb).trans e;have fC:H' C=none:=I'.free;have hb:Un (frs X.stack) fp H H' s.heap s'.heap:=I'.base;have hot:∀{b:Addr}{u:HO},H b=some u→b≠s.heap.objs.size:=fun e=>Ac (I.hok.lt e);refine I.call' (s':={s' with heap:=h'}) (ch:=fp) I'.os ⟨fun b o e q n1 n2=>same (nC e) (hb.keep b o e q n1 n2),fun b o e q n1 n2=>?_,fun b o e q n2=>?_,fun b o e n2=>?_,fun b xs e=>?_,fun b o u e=>?_,fun b ps e=>?_⟩ ?_ I'.bare fun b hb'=>?_
 ·obtain⟨sl,q2⟩:=hb.slot b o e q n1 n2;exact⟨sl,same (nC e) q2⟩
 ·rw[Za (nDD e)];exact hb.free b o e q n2
 ·obtain⟨o',q2⟩:=hb.there b o e n2;exact⟨o',same (nC e) q2⟩
 ·rw[Za (hot e)];exact hb.tups b xs e
 ·rw[Za (hot e)];exact hb.frzs b o u e
 ·obtain⟨more,q2⟩:=hb.tbls b ps e;exact⟨more,by rw[Za (hot e)];exact q2⟩
 ·intro b u e;by_cases hbD:b=s.heap.objs.size
  ·subst hbD;rw[Z5]at e;cases e;exact⟨hz,its,n,hv,same neD eD⟩
  ·rw[Za hbD]at e;have nD':∀{c:Addr}{w:HO},H' c=some w→c≠s.heap.objs.size:=fun q z=>by
    rw[z]at q;have z2:H' s.heap.objs.size=none:=nD;rw[z2]at q;cases q
   refine(I'.hok b u e).stay (fun c v hc q=>same ?_ q) (fun c q=>by rw[Za (nD' q)];exact q) fun c xs q=>by rw[Za (nD' q)];exact q
   rintro rfl
   rcases hc with z | z
   ·rw[←z,fC]at e;cases e
   ·rw[fC]at z;cases z
 ·obtain⟨_,f1,_,f3,f4,f5⟩:=hf b hb';exact⟨f3,f1,f4,f5⟩
theorem lm{prog:Program}{w:World}{A:Around}{E:Value→Shared→Prop}{s:Shared}{l:Addr}{its:List Value}{n:Nat}{u:Value}{Q:Value→Shared→Prop}(e:s.heap.get? l=some (lo its n))(hz:its.length≤sizeLine)(h:Q .none {s with heap:=s.heap.update l (Obj.mapSeq (·.push u))}):wpAny (model prog w) A (call (.builtin "list.append") [.ref l,u]) Q E s:=
 call_meets F.slot_list_append ⟨_,e,rfl⟩ F.entry_list_append (F.args_list_append_2 _ _) (PySem.list_append l its.toArray n u (by rw[AG];omega)) ⟨e,h⟩
theorem Nj{tg iter elt:Expr}{ifs:List Expr}{pos pos0:Pos}{wi:TI}{g:TG}{tt:TT}{te:TE}{use:Option (Value→Sem Unit)}{Qp:Value→Shared→Prop}{Pc:Cx→Prop}(hpc:∀cl C s H fp,Pc (cxC X own scope cl C s H fp))(O:CompOk X own scope)(hi:PIP Pc X tg iter wi)(hg:∀cl C s H fp,PG (cxC X own scope cl C s H fp) tg g)(ht:∀cl C s H fp,PTs (cxC X own scope cl C s H fp) ifs tt)(he:∀cl C s H fp,PE (cxC X own scope cl C s H fp) elt te)(hs:∀x,foldedSetIterable iter X.env x=pure x){CZ:List (Addr×Obj)}{s:Shared}{σ:St}{H:Hp}{Q:VK}(I:Inv X CZ σ H s)(h:iI wi g tt te own.length σ H Q)(fin:∀(s2:Shared) (H2:Hp) (fp:List Addr) (C:Addr) (cl:List (Str×Addr)) (its:List Value) (nn:Nat) (σ':St) (H':Hp) (s5:Shared) (ys:List V),Inv X CZ σ H2 s2→(∀b∈fp,dg X CZ H2 b)→s2.heap.objs.size<C→
   Inv (cxC X own scope cl C s2 H2 fp) (CZ++[(s2.heap.objs.size,lo its nn)]) σ' H' s5→Vals ys its→ys.length≤sizeLine→(∀p,H' p=none→Q (.ref p) (upd H' p (.lst ys)))→
   compPost (model X.prog X.w) X.A X.xe use Qp (.ref s2.heap.objs.size) C (.ok .next) s5):
  wpAny (model X.prog X.w) X.A (comprehension (.ListComp elt [⟨tg,iter,ifs,0⟩] scope pos) scope X.env pos0 (newList []) false (eval iter X.env) use) Qp X.xe s:=by
 refine wpAny_comprehension_free (use:=use) rfl hs (Tl (O.cells I.ok)) O.kind O.names (thn (hi CZ s σ H _ I h) fun v s1 h1=>thn h1 fun itv s2 h2=>?_);obtain⟨it,fp,tn,J,H2,rfl,I2,T,st2,f2,W,⟨m0,w0⟩,turn⟩:=h2;refine wpAny_newObj_type (wpAny_newFunctionEnv O.cell (by intro y hy;simp at hy) (fun h₁ hns₁ hsb₁=>?_) O.kind);dsimp only at hns₁ hsb₁ ⊢;generalize hH2:s2.heap.push {cls:=.type "list",dict:=none,data:=.seq ([]:List Value).toArray}=Hh at hns₁ hsb₁ ⊢;have hCs:Hh.objs.size=s2.heap.objs.size+1:=by rw[←hH2,Bt]
 have hC:s2.heap.objs.size<Hh.objs.size:=by rw[hCs];exact Nat.lt_succ_self _
 have old:∀b o,s2.heap.get? b=some o→h₁.get? b=some o:=fun b o e=>hsb₁.extBut b o (Ac (Bl (az e) hC)) (af _ (hH2 ▸ af _ e));have hacc:h₁.get? s2.heap.objs.size=some (lo [] 0):=hsb₁.extBut _ _ (Ac hC) (af _ (hH2 ▸ pi _ rfl));have hob:∀b∈fp,∃o,s2.heap.get? b=some o:=fun b hb=>let ⟨o,e,_⟩:=T.obj _ _ st2 b hb;⟨o,e⟩
 have st3:tn 0 h₁:=T.keep _ _ _ st2 fun b _ o e=>old b o e;have pinlt:∀p∈X.pn++CZ,p.1<s2.heap.objs.size:=fun p hp=>az (I2.pin p hp).1;have loop:∀s₃:Shared,s₃={s2 with heap:=h₁,toks:=s2.toks+([]:List (Str×Value)).length}→
   codeAny (model X.prog X.w) X.A (.compLoop (.ListComp elt [⟨tg,iter,ifs,0⟩] scope pos) 0 (.ref it) (.ref s2.heap.objs.size) (compEnvC scope (aR X.env scope.names) Hh.objs.size X.env))
    (compPost (model X.prog X.w) X.A X.xe use Qp (.ref s2.heap.objs.size) Hh.objs.size) s₃:=by
  rintro s₃ rfl;have I3:=sT (tk:=s2.toks+([]:List (Str×Value)).length) O I2 f2 hob hC hacc old hns₁;have stat:∀{o:Obj}{H':Hp},(∀b∈fp,H' b=none)→∀b∈fp,dg (cxC X own scope (aR X.env scope.names) Hh.objs.size s2 H2 fp) (CZ++[(s2.heap.objs.size,o)]) H' b:=fun{o H'} hn b hb=>by
   obtain⟨o',eo⟩:=hob b hb;refine⟨hn b hb,Ac (Bl (az eo) hC),kg I2 (f2 b hb).2.1 (f2 b hb).2.2.1,.inl hb,fun x c e=>(f2 b hb).2.2.2.2.1 x c (O.sub I2.ok x c e),fun p hp=>?_⟩;have hp:p∈X.pn++(CZ++[(s2.heap.objs.size,o)]):=hp;rw[←Bp]at hp
   rcases AI.mp hp with hp | hp
   ·exact(f2 b hb).2.2.2.2.2 p hp
   ·cases Af.mp hp;exact AF (az eo)
  refine jO (fun n s'=>∃i ys its nn σ' H',Inv (cxC X own scope (aR X.env scope.names) Hh.objs.size s2 H2 fp) (CZ++[(s2.heap.objs.size,lo its nn)]) σ' H' s'∧Wk σ' (List.replicate own.length none++σ)∧tn i s'.heap∧(∀b∈fp,H' b=none)∧Vals ys its∧W i n ys H')
   ?_ m0 ⟨0,[],[],0,_,H2,I3,Wk.refl _,st3,fun b hb=>(f2 b hb).1,.nil,w0⟩
  rintro n s4 ⟨i,ys,its,nn,σ4,H4,I4',wk4,st4,fr4,vs4,w4⟩;have I4:=I4'.weak (σ':=List.replicate own.length none++σ) wk4.len (fun i v=>wk4.get i v)
  rcases turn i n ys H4 w4 with⟨stop,hz,qn⟩|⟨go,hz,step⟩
  ·refine thn (T.done (cxC X own scope (aR X.env scope.names) Hh.objs.size s2 H2 fp) rfl rfl rfl (hpc _ _ _ _ _) i _ s4 _ H4 (fun _ _=>False) I4 (stat fr4) st4 stop) fun r s5 C0=>?_;obtain⟨hr,I5⟩:=C0;subst hr;exact fin s2 H2 fp Hh.objs.size _ its nn _ H4 s5 ys I2 f2 hC I5 vs4 hz qn
  ·refine thn (T.item (cxC X own scope (aR X.env scope.names) Hh.objs.size s2 H2 fp) rfl rfl rfl (hpc _ _ _ _ _) i _ s4 _ H4 (fun _ _=>False) I4 (stat fr4) st4 go) fun r s5 C0=>?_;obtain⟨u,hr,h5⟩:=C0;subst hr;refine thn h5 fun _ s6 C0=>?_;obtain⟨x,H6,I6,r6,y6,st6,fr6⟩:=C0;have I6':=I6.pinned (stat fr6) (T.obj _ _ st6);refine thn (hg _ _ _ _ _ _ s6 _ H6 x u _ I6' r6 (step x H6 y6)) fun _ s7 C0=>?_;obtain⟨σ7,H7,I7,wk7,q7⟩:=C0;refine thn (ht _ _ _ _ _ _ s7 σ7 H7 _ I7 q7) fun ok s8 C0=>?_;obtain⟨H8,I8,q8⟩:=C0;have again:∀{σ9:St}{H9:Hp}{s9:Shared},Inv (cxC X own scope (aR X.env scope.names) Hh.objs.size s2 H2 fp) ((CZ++[(s2.heap.objs.size,lo its nn)])++fg fp s6.heap) σ9 H9 s9→tn (i+1) s9.heap∧∀b∈fp,H9 b=none:=fun{σ9 H9 s9} I9=>
    ⟨T.keep _ _ _ st6 fun b hb o e=>(I9.pin (b,o) (Ao _ (Ao _ (U1 hb e)))).1,fun b hb=>by
     obtain⟨o,e,d⟩:=T.obj _ _ st6 b hb;exact(I9.pin (b,o) (Ao _ (Ao _ (U1 hb e)))).2.1⟩
   cases ok with
   |false=>
    rw[Aj Al]at q8⊢;obtain⟨m',hm,w8⟩:=q8;obtain⟨a1,a2⟩:=again I8;exact⟨m',hm,i+1,ys,its,nn,σ7,H8,I8.unpinned,wk7,a1,a2,vs4,w8⟩
   |true=>
    rw[Ah rfl]at q8⊢;refine thn (he _ _ _ _ _ _ s8 σ7 H8 _ I8 q8) fun yv s9 C0=>?_;obtain⟨y,H9,I9,r9,m',hm,w9⟩:=C0;obtain⟨a1,a2⟩:=again I9;obtain⟨eD,nD,neD,nfD,_⟩:=I9.pin (s2.heap.objs.size,lo its nn) (Ao _ (Bh _ (Ao _ Au)));have De:=vs4.length;refine lm eD (by omega) ?_;have upd9:=PySem.IsL.update (l:=s2.heap.objs.size) eD (·.push yv);have uother:∀b o,b≠s2.heap.objs.size→s9.heap.get? b=some o→(s9.heap.update s2.heap.objs.size (Obj.mapSeq (·.push yv))).get? b=some o:=fun b o hb e=>(AW s9.heap (Obj.mapSeq (·.push yv)) (Ne.symm hb)).trans e;have I9a:Inv (cxC X own scope (aR X.env scope.names) Hh.objs.size s2 H2 fp) CZ σ7 H9 s9:=I9.unpinned.unpinned;have I9b:Inv (cxC X own scope (aR X.env scope.names) Hh.objs.size s2 H2 fp) CZ σ7 H9 {s9 with heap:=s9.heap.update s2.heap.objs.size (Obj.mapSeq (·.push yv))}:=
     I9a.turned (t':=s9.toks) uother nD neD (.inr (io _)) (fun x c e z=>by
      obtain⟨v,o,hoc,_⟩:=I2.cell x c (O.sub I2.ok x c e);exact absurd z (Ac (az hoc))) fun p hp=>Ac (pinlt p hp)
    have e2:(its.toArray.push yv)=(its++[yv]).toArray:=by simp
    have upd9':∃n2,(s9.heap.update s2.heap.objs.size (Obj.mapSeq (·.push yv))).get? s2.heap.objs.size=some (lo (its++[yv]) n2):=⟨_,by rw[upd9,e2]⟩;obtain⟨n2,upd9'⟩:=upd9';have I9c:=I9b.pins_of (pins':=CZ++[(s2.heap.objs.size,lo (its++[yv]) n2)]) fun p hp=>by
     rcases AI.mp hp with hp | hp
     ·exact I9b.pin p (Ao _ hp)
     ·cases Af.mp hp;exact⟨upd9',nD,neD,nfD,fun v z=>by cases z⟩
    refine⟨m',hm,i+1,ys++[y],its++[yv],n2,σ7,H9,I9c,wk7,T.keep _ _ _ a1 fun b hb o e=>uother b o ?_ e,a2,vs4.append (.cons r9 .nil),w9⟩;obtain⟨o',eo⟩:=hob b hb;exact Ac (az eo)
 exact codeAny_compStart_list (loop _ rfl) (T.self _ 0 _ _ _ st3 (loop _ rfl))
theorem pe_compP{Pc:Cx→Prop}{tg iter elt:Expr}{ifs:List Expr}{pos:Pos}{wi:TI}{g:TG}{tt:TT}{te:TE}(hpc:∀cl C s H fp,Pc (cxC X own scope cl C s H fp))(O:CompOk X own scope)(hi:PIP Pc X tg iter wi)(hg:∀cl C s H fp,PG (cxC X own scope cl C s H fp) tg g)(ht:∀cl C s H fp,PTs (cxC X own scope cl C s H fp) ifs tt)(he:∀cl C s H fp,PE (cxC X own scope cl C s H fp) elt te)(hs:∀x,foldedSetIterable iter X.env x=pure x:=by intro _;rfl):
  PE X (.ListComp elt [⟨tg,iter,ifs,0⟩] scope pos) (iI wi g tt te own.length):=by
 intro CZ s σ H Q I h;rw[eval_ListComp];refine Nj hpc O hi hg ht he hs I h fun s2 H2 fp C cl its nn σ' H' s5 ys I2 f2 hC I5 vs hz qn=>?_;obtain⟨mm,hnm,_⟩:=I5.loc;exact⟨mm,hnm,fun h' hs'=>⟨.ref s2.heap.objs.size,_,Ni I2 f2 hC I5 vs hz hs',rfl,qn _ (I5.pin (s2.heap.objs.size,lo its nn) (Ao _ (Ao _ Au))).2.1⟩⟩
theorem Y3{tg iter elt:Expr}{ifs:List Expr}{pos:Pos}{wi:TI}{g:TG}{tt:TT}{te:TE}(O:CompOk X own scope)(hi:PI X tg iter wi)(hg:∀cl C s H fp,PG (cxC X own scope cl C s H fp) tg g)(ht:∀cl C s H fp,PTs (cxC X own scope cl C s H fp) ifs tt)(he:∀cl C s H fp,PE (cxC X own scope cl C s H fp) elt te)(hs:∀x,foldedSetIterable iter X.env x=pure x:=by intro _;rfl)(hc:X.calm=true:=by rfl):
  PE X (.ListComp elt [⟨tg,iter,ifs,0⟩] scope pos) (iI wi g tt te own.length):=
 pe_compP (Pc:=fun X=>X.calm=true) (fun _ _ _ _ _=>hc) O hi.p hg ht he hs
theorem ps_setCP{Pc:Cx→Prop}{i:Nat}{x:Str}{tg iter elt:Expr}{ifs:List Expr}{pos pos' cpos:Pos}{wi:TI}{g:TG}{tt:TT}{te:TE}(hN:X.N.Nodup)(hix:X.N[i]?=some x)(hl:X.env.scope.names.lookup x=some .local)(hpc:∀cl C s H fp,Pc (cxC X own scope cl C s H fp))(O:CompOk X own scope)(hi:PIP Pc X tg iter wi)(hg:∀cl C s H fp,PG (cxC X own scope cl C s H fp) tg g)(ht:∀cl C s H fp,PTs (cxC X own scope cl C s H fp) ifs tt)(he:∀cl C s H fp,PE (cxC X own scope cl C s H fp) elt te)(hs:∀x,foldedSetIterable iter X.env x=pure x:=by intro _;rfl)(hsw:swapsWith (.ListComp elt [⟨tg,iter,ifs,0⟩] scope cpos) (some (.Name x pos')) pos.line X.env=pure true:=by rfl):
  PS X (.Assign [.Name x pos'] (.ListComp elt [⟨tg,iter,ifs,0⟩] scope cpos) pos) (qu (iI wi g tt te own.length) (jn i)):=by
 intro CZ s σ H D I h;rw[exec_Assign_Name_used _ _ _ _ hsw];refine aa (wpAny_standAt (aa (m:=evalThenUse _ X.env _) ?_));show wpAny _ _ (comprehension (.ListComp elt [⟨tg,iter,ifs,0⟩] scope cpos) scope X.env _ (newList []) false (eval iter X.env) (some (assign (.Name x pos') X.env)) >>= fun _=>_) _ _ s;refine aa (thn (Nj (Qp:=fun _ s'=>SP X CZ D .next s') hpc O hi hg ht he hs I h fun s2 H2 fp C cl its nn σ' H' s5 ys I2 f2 hC I5 vs hz qn=>?_) fun _ s' hq=>aq (aq hq));have Ix:Inv X CZ σ (upd H' s2.heap.objs.size (.lst ys)) s5:=Ni I2 f2 hC I5 vs hz (Heap.SameBut.refl _ _);obtain⟨mm,hnm,_⟩:=I5.loc;have fC:H' C=none:=I5.free;have nCD:C≠s2.heap.objs.size:=AF hC;refine wpAny_assign_Name (Op (v:=.ref s2.heap.objs.size) Ix hN hix (.inl hl) rfl (fun s6 I6 sb=>?_) (.inr hl));obtain⟨a,sb,ha⟩:=sb;have nLC:X.env.locals≠C:=Ac (Bl I2.lt hC);have cC:∀y c,X.env.cells.lookup y=some c→c≠C:=fun y c e=>by
  obtain⟨v,o,ho,_⟩:=I2.cell y c e;exact Ac (Bl (az ho) hC)
 have naC:C≠a:=by
  rcases ha with rfl | ha
  ·exact Ne.symm nLC
  ·exact Ne.symm (cC x a ha)
 refine⟨mm,hnm.sameBut sb naC,fun h' hs'=>⟨_,_,I6.turned (t':=s6.toks) (fun b o hb e=>(hs'.2 b hb).trans e) (by rw[Za nCD];exact fC) (Ne.symm nLC) (.inr (AU I2.sz (BB hC))) cC (fun p hp=>Ac (Bl (az (I2.pin p hp).1) hC)),qn _ (I5.pin (s2.heap.objs.size,lo its nn) (Ao _ (Ao _ Au))).2.1⟩⟩
theorem Ut{i:Nat}{x:Str}{tg iter elt:Expr}{ifs:List Expr}{pos pos' cpos:Pos}{wi:TI}{g:TG}{tt:TT}{te:TE}(hN:X.N.Nodup)(hix:X.N[i]?=some x)(hl:X.env.scope.names.lookup x=some .local)(O:CompOk X own scope)(hi:PI X tg iter wi)(hg:∀cl C s H fp,PG (cxC X own scope cl C s H fp) tg g)(ht:∀cl C s H fp,PTs (cxC X own scope cl C s H fp) ifs tt)(he:∀cl C s H fp,PE (cxC X own scope cl C s H fp) elt te)(hs:∀x,foldedSetIterable iter X.env x=pure x:=by intro _;rfl)(hsw:swapsWith (.ListComp elt [⟨tg,iter,ifs,0⟩] scope cpos) (some (.Name x pos')) pos.line X.env=pure true:=by rfl)(hc:X.calm=true:=by rfl):
  PS X (.Assign [.Name x pos'] (.ListComp elt [⟨tg,iter,ifs,0⟩] scope cpos) pos) (qu (iI wi g tt te own.length) (jn i)):=
 ps_setCP (Pc:=fun X=>X.calm=true) hN hix hl (fun _ _ _ _ _=>hc) O hi.p hg ht he hs hsw
end
section
variable{X:Cx}{pos:Pos}
theorem Xa(K:W.Frag)(n:Nat){es:List Expr}{k:Nat}{t:TGs}(hK:X.K=K)(hc:X.calm=true)(h:PGs X es t)(hn:(assignEach es X.env).length=n:=by rfl)(hst:(assignEach es X.env).findIdx? (·.1)=none:=by rfl):PG X (.Tuple es k pos) (yY K n t):=by
 subst hK;exact Ys hc h hn hst
theorem uN(K:W.Frag)(hK:X.K=K):IxR X (zo K):=by subst hK;exact Zv
end
mutual
inductive DV(H:Hp):V→PyData→Prop
 |non:DV H .non .none
 |bl (b:Bool):DV H (.bl b) (.bool b)
 |int (i:Int):DV H (.int i) (.int i)
 |str (x:Str):DV H (.str x) (.str x)
 |lst {a:Addr} {xs:List V} {ds:List PyData}:H a=some (.lst xs)→DVs H xs ds→DV H (.ref a) (.list ds)
 |tup {a:Addr} {xs:List V} {ds:List PyData}:H a=some (.tup xs)→DVs H xs ds→DV H (.ref a) (.tuple ds)
inductive DVs(H:Hp):List V→List PyData→Prop
 |nil:DVs H [] []
 |cons {v:V} {vs:List V} {d:PyData} {ds:List PyData}:DV H v d→DVs H vs ds→DVs H (v::vs) (d::ds)
end
mutual
theorem DV.mono{H H':Hp}(g:Same H H'):∀{v:V}{d:PyData},DV H v d→DV H' v d
 |_,_,.non=>.non
 |_,_,.bl b=>.bl b
 |_,_,.int i=>.int i
 |_,_,.str x=>.str x
 |_,_,.lst e r=>.lst (g _ _ e) (DVs.mono g r)
 |_,_,.tup e r=>.tup (g _ _ e) (DVs.mono g r)
theorem DVs.mono{H H':Hp}(g:Same H H'):∀{vs:List V}{ds:List PyData},DVs H vs ds→DVs H' vs ds
 |_,_,.nil=>.nil
 |_,_,.cons h r=>.cons (DV.mono g h) (DVs.mono g r)
end
theorem DVs.length{H:Hp}:∀{vs:List V}{ds:List PyData},DVs H vs ds→vs.length=ds.length
 |_,_,.nil=>rfl
 |_,_,.cons _ r=>Bm (·+1) r.length
theorem DVs.append{H:Hp}:∀{vs ws:List V}{ds es:List PyData},DVs H vs ds→DVs H ws es→DVs H (vs++ws) (ds++es)
 |_,_,_,_,.nil,s=>s
 |_,_,_,_,.cons h r,s=>.cons h (DVs.append r s)
theorem DVs.getV{H:Hp}:∀{vs:List V}{ds:List PyData}{i:Nat}{v:V},DVs H vs ds→vs[i]?=some v→∃d,ds[i]?=some d∧DV H v d
 |_,_,_,_,.nil,e=>by simp at e
 |_,_,0,_,.cons h _,e=>by simp at e;subst e;exact⟨_,rfl,h⟩
 |_,_,i+1,d,.cons _ r,e=>by
  obtain⟨v,h1,h2⟩:=DVs.getV (i:=i) (v:=d) r (by simpa using e);exact⟨v,by simpa using h1,h2⟩
section
variable{X:Cx}{CZ:List (Addr×Obj)}{σ:St}{H:Hp}{s:Shared}
mutual
theorem DV.reads(I:Inv X CZ σ H s):∀{v:V}{d:PyData}{u:Value},DV H v d→RelV v u→∃as,Reads s.heap u d as
 |_,_,_,.non,r=>by cases r;exact⟨_,Reads.none⟩
 |_,_,_,.bl b,r=>by cases r;exact⟨_,Reads.bool b⟩
 |_,_,_,.int i,r=>by obtain⟨t,rfl⟩:=r;exact⟨_,Reads.int i t⟩
 |_,_,_,.str x,r=>by obtain⟨t,rfl⟩:=r;exact⟨_,Reads.str x t⟩
 |_,_,_,.lst e q,r=>by
  cases r;obtain⟨its,n,rv,ho,_⟩:=I.lst e;obtain⟨as,p⟩:=DVs.reads I q rv;exact⟨_,reads_list_at ho rfl rfl (by simpa using p)⟩
 |_,_,_,.tup e q,r=>by
  cases r;obtain⟨its,rv,⟨o,ho,hc,n,hd⟩,_⟩:=I.tuple (SqT.of e);obtain⟨as,p⟩:=DVs.reads I q rv;exact⟨_,reads_tuple_at ho hc hd (by simpa using p)⟩
theorem DVs.reads(I:Inv X CZ σ H s):∀{vs:List V}{ds:List PyData}{us:List Value},DVs H vs ds→Vals vs us→∃as,ReadsAll s.heap us ds as
 |_,_,_,.nil,r=>by cases r;exact⟨_,ReadsAll.nil⟩
 |_,_,_,.cons h t,r=>by
  cases r with
  |cons r1 r2=>
   obtain⟨as,p⟩:=DV.reads I h r1;obtain⟨bs,q⟩:=DVs.reads I t r2;exact⟨_,ReadsAll.cons p q⟩
end
end
def rEqD:R2:=fun x y H Q=>∃d e,DV H x d∧DV H y e∧SeqAt.shaped d=true∧SeqAt.shaped e=true∧Q (.bl (PyData.eqv d e)) H
def rNeD:R2:=fun x y H Q=>∃d e,DV H x d∧DV H y e∧SeqAt.shaped d=true∧SeqAt.shaped e=true∧Q (.bl (!PyData.eqv d e)) H
section
variable{X:Cx}
theorem lB(hu:X.A.units+64<cLine):OpR X (compareOp .Eq) rEqD:=by
 intro CZ s σ H x y v u Q I rx ry h;obtain⟨d,e,h1,h2,s1,s2,q⟩:=h;obtain⟨as,p1⟩:=h1.reads I rx;obtain⟨bs,p2⟩:=h2.reads I ry;exact eq_dataH p1 p2 s1 s2 hu ⟨.bl _,H,I,rfl,q⟩
theorem sE(hu:X.A.units+64<cLine):OpR X (compareOp .NotEq) rNeD:=by
 intro CZ s σ H x y v u Q I rx ry h;obtain⟨d,e,h1,h2,s1,s2,q⟩:=h;obtain⟨as,p1⟩:=h1.reads I rx;obtain⟨bs,p2⟩:=h2.reads I ry;exact ne_dataH p1 p2 s1 s2 hu ⟨.bl _,H,I,rfl,q⟩
def rIs(K:W.Frag):List V→Hp→VK→Prop:=fun xs H Q=>∃x t T b,xs=[x,.ty T]∧TyOf K H x t∧W.kitOne K t (.type T)=some b∧Q (.bl b) H
theorem W0:bu X (.builtin "isinstance") (rIs X.K):=by
 intro CZ s σ H xs us Q I r h;obtain⟨x,t,T,b,rfl,ty,e,q⟩:=h;obtain⟨u,w',rfl,ru,rt⟩:=vX r;cases (show w'=Value.type T from rt);exact nG I ru ty e fun tk=>⟨.bl b,H,I.tok _,rfl,q⟩
def yb:V→List V→Hp→VK→Prop:=fun x vs H Q=>∃z y ps,x=.str z∧vs=[.str y]∧(decide (z.length<y.length) || decide (Builtin.Str.strKind z<Builtin.Str.strKind y))=false∧(y.length==0)=false∧
 (Builtin.Str.occurrences z y 0 z.length (z.length+1)).isEmpty=false∧z.length≤sizeLine∧Builtin.Str.partsBetween z (Builtin.Str.occurrences z y 0 z.length (z.length+1)) y.length=ps∧ps.length≤sizeLine∧∀l,H l=none→Q (.ref l) (upd H l (.lst (ps.map V.str)))
theorem Oo:∀(ps:List Str)(k:Nat),Vals (ps.map V.str) (strsFrom k ps)
 | [],_=>.nil
 |p::ps,k=>.cons ⟨_,rfl⟩ (Oo ps _)
theorem P8:MtR X "str.split" yb:=by
 intro CZ s σ H x vs v us Q I rx rv h;obtain⟨z,y,ps,rfl,rfl,h1,h2,h3,h4,rfl,h5,q⟩:=h;obtain⟨t,rfl⟩:=rx;obtain⟨u,rfl,t',rfl⟩:=Wx rv;refine call_meets F.slot_str_split (typeIs_str s z t) F.entry_str_split (F.args_str_split_2 _ _) (meets_str_split_sep z y t t' h1 h2 h3 h4 h5) ?_;refine⟨.ref s.heap.objs.size,_,I.laid (o:=.lst (_:List V)) (fun b ob q=>af _ q) (io _) ⟨?_,_,0,Oo _ _,pi _ rfl⟩,rfl,q _ (I.hok.fresh (io _))⟩;rw[ae];exact h5
end
structure Has(P:Program)(w:World)(K:W.Frag)(mg:Str→Option Value)(base:Heap)(x:Str)(k:Nat)(ps:List Str)(sp:Sp):Prop where
 ex:∃f fd,FnOk P w K mg base CX0 k f fd ps sp∧Binds K fd ps []∧W.keepIn K (.ref f)=true∧mg x=some (.ref f)
section
variable{X:Cx}{j k:Nat}{ps:List Str}{sp:Sp}{x:Str}{p pos:Pos}{e:Expr}{es:List Expr}{t:TA}
theorem Z3(h:Has X.prog X.w X.K X.mg X.base x j ps sp)(hr:Room k X.A)(ha:PA X (e::es) t)(hg:Gl X x:=by rfl)(hj:j≤k:=by first | decide | omega)(hdb:(x==("__debug__":Str))=false:=by decide)(he:starEach (e::es) X.env=(false,eval e X.env)::starEach es X.env:=by rfl)(hpl:(backTo pos (starEach es X.env)).any (·.1)=false:=by rfl):
  PE X (.Call (.Name x p) (e::es) [] pos) (v6 sp [] E0 t):=by
 intro CZ s σ H Q I q;obtain⟨f,fd,F,b,kp,m⟩:=h.ex;refine tQ (CX:=CX0) (E:=E0) (dvs:=[]) (F.mono hj) hr hg m kp b .nil ?_ ha hdb he hpl CZ s σ H Q I q;exact fun _ _ _ _ _ _ _ z=>z.elim
end
def av(a:Addr)(H:Hp):Hp:=fun b=>if b=a then none else H b
theorem Vl{a:Addr}{H:Hp}:av a H a=none:=by unfold av;rw[Ah rfl]
theorem Zg{a b:Addr}{H:Hp}(h:b≠a):av a H b=H b:=by unfold av;rw[Aj h]
theorem Zh{a b:Addr}{H:Hp}{o:HO}(h:av a H b=some o):b≠a∧H b=some o:=by
 unfold av at h;by_cases e:b=a
 ·rw[Ah e]at h;cases h
 ·rw[Aj e]at h;exact⟨e,h⟩
theorem Yd{a:Addr}{H:Hp}:Same (av a H) H:=fun _ _ h=>(Zh h).2
theorem Z9{H:Hp}{p:Addr}(h:H p=none)(o:HO):Same H (upd H p o):=fun b u q=>by rw[Za (Zf q h)];exact q
abbrev Grw(a:Addr)(H H':Hp):Prop:=Same (av a H) (av a H')
theorem Vm{a:Addr}{H H':Hp}{o:HO}(ha:H a=some o)(g:Same H H'):Grw a H H':=fun b u q=>by
 obtain⟨h1,h2⟩:=Zh q;rw[Zg h1];exact g b u h2
theorem Wc{a:Addr}{H:Hp}{o:HO}:Grw a H (upd H a o):=fun b u q=>by
 obtain⟨h1,h2⟩:=Zh q;rw[Zg h1,Za h1];exact h2
theorem X7{a p:Addr}{H:Hp}{o:HO}(h:H p=none):Grw a H (upd H p o):=fun b u q=>by
 obtain⟨h1,h2⟩:=Zh q;rw[Zg h1,Za (Zf h2 h)];exact h2
def PenAt(H:Hp)(a:Addr):Prop:=∃p q r:Int,H a=some (.lst [.int p,.int q,.int r])
theorem PenAt.same{H H':Hp}{a:Addr}(h:PenAt H a)(g:Same H H'):PenAt H' a:=by
 obtain⟨p,q,r,e⟩:=h;exact⟨p,q,r,g _ _ e⟩
theorem PenAt.laid{H:Hp}{a p:Addr}{o:HO}(h:PenAt H a)(hp:H p=none):PenAt (upd H p o) a:=h.same (Z9 hp o)
theorem PenAt.ne{H:Hp}{a p:Addr}(h:PenAt H a)(hp:H p=none):p≠a:=by
 obtain⟨x,y,z,e⟩:=h;exact fun q=>by rw[q,e]at hp;cases hp
theorem Xe{j:Int}(h:decide (0<j)=true):0<j:=bb h
theorem ltI{i j:Int}(h:decide (i<j)=true):i<j:=bb h
theorem leI{i j:Int}(h:decide (i≤j)=true):i≤j:=bb h
theorem leN{i j:Nat}(h:decide (i≤j)=true):i≤j:=bb h
theorem wf{i j:Int}(h1:decide (0<j)=true)(h2:decide (j<1073741824)=true):yQ i j:=⟨bb h1,bb h2⟩
theorem kY{i j:Int}(h1:decide (0≤j)=true)(h2:decide (j≤1000000)=true)(h3:decide (i.natAbs<2^64)=true):yz i j:=⟨bb h1,bb h2,bb h3⟩
theorem pd{i j:Int}(h1:decide (-(2^64)<i)=true)(h2:decide (i<2^64)=true):CMul i j:=Or.inl ⟨bb h1,bb h2⟩
theorem mulR{i j:Int}(h1:decide (-(2^64)<j)=true)(h2:decide (j<2^64)=true):CMul i j:=Or.inr ⟨bb h1,bb h2⟩
theorem y_(x m y:Int)(h0:decide (0<m)=true)(h1:decide (m<4294967296)=true):CMul (x % m) y:=by
 have h0:=bb h0;have h1:=bb h1;exact Or.inl ⟨by have:=B4 x (show m≠0 by omega);omega,by have:=BO x h0;omega⟩
theorem qG(a b c:V):atI [a,b,c] 0=some a:=rfl
theorem sU(a b c:V):atI [a,b,c] 1=some b:=rfl
theorem je(a b c:V):atI [a,b,c] 2=some c:=rfl
theorem Rh{α:Type}{xs:List α}{i:Int}(h0:0≤i)(h1:i<xs.length):∃v,atI xs i=some v∧v∈xs:=by
 have hi:i.toNat<xs.length:=by omega
 have e:((i.toNat:Nat):Int)=i:=by omega
 refine⟨xs[i.toNat],?_,List.getElem_mem hi⟩;have q:=Q8 (xs:=xs) (j:=i.toNat) (v:=xs[i.toNat]) (Ak hi);rw[e]at q;exact q
theorem at3{x y z:V}{d:Int}(h0:0≤d)(h1:d<3):∃v,atI [x,y,z] d=some v∧(v=x∨v=y∨v=z):=by
 obtain⟨v,h,m⟩:=Rh (xs:=[x,y,z]) h0 h1;exact⟨v,h,by simpa using m⟩
theorem g_{a b:Addr}{H H':Hp}{o:HO}(g:Grw a H H')(hb:b≠a)(h:H b=some o):H' b=some o:=by
 have q:=g b o (by rw[Zg hb];exact h);exact(Zh q).2
theorem Zd{n:Nat}(h:n≤1000000):n≤sizeLine:=AU h (by decide)
theorem Zk{n:Nat}(h:n<1000000):n<sizeLine:=Av h (by decide)
theorem S5{lo:Int}{n k:Nat}{g:TG}{tt:TT}{te:TE}{σ:St}{H:Hp}{Q:VK}(Pv:Nat→List V→Hp→Prop)(h0:Pv 0 [] H)(hs:∀i ys H (C:List V→Hp→Prop),i<n→Pv i ys H→(∀ys' H',Pv (i+1) ys' H'→C ys' H')→ys.length<sizeLine∧g (.int (lo+i)) (List.replicate k none++σ) H fun σ2 H2=>Wk σ2 (List.replicate k none++σ)∧tt σ2 H2 fun ok H3=>
   if ok=true then te σ2 H3 fun y H4=>C (ys++[y]) H4 else C ys H3)(hd:∀ys H,Pv n ys H→ys.length≤sizeLine∧∀p,H p=none→Q (.ref p) (upd H p (.lst ys))):
  CompR (Itr lo n) H k g tt te σ Q:=by
 refine⟨fun i m ys H=>m=n-i∧i≤n∧Pv i ys H,⟨n,by simp,Nat.zero_le _,h0⟩,?_⟩;rintro i m ys H ⟨rfl,hi,p⟩;by_cases C5:i<n
 ·have q:=hs i ys H (fun ys' H'=>∃m',m'<n-i∧m'=n-(i+1)∧i+1≤n∧Pv (i+1) ys' H') C5 p fun ys' H' p'=>⟨_,by omega,rfl,C5,p'⟩;refine .inr ⟨C5,q.1,fun x H' y=>?_⟩;obtain⟨e,y⟩:=y;subst e y;exact q.2
 ·have e:i=n:=by omega
  subst e;exact .inl ⟨io _,hd ys H p⟩
theorem Yo{K:W.Frag}{a:Addr}{xs:List V}{k:Nat}{g:TG}{tt:TT}{te:TE}{σ:St}{H:Hp}{Q:VK}(Pv:Nat→List V→Hp→Prop)(h0:Pv 0 [] H)(hl:∀i ys H,i≤xs.length→Pv i ys H→SqL K H a xs)(hs:∀i x ys H (C:List V→Hp→Prop),xs[i]?=some x→Pv i ys H→(∀ys' H',Pv (i+1) ys' H'→C ys' H')→ys.length<sizeLine∧g x (List.replicate k none++σ) H fun σ2 H2=>Wk σ2 (List.replicate k none++σ)∧tt σ2 H2 fun ok H3=>
   if ok=true then te σ2 H3 fun y H4=>C (ys++[y]) H4 else C ys H3)(hd:∀ys H,Pv xs.length ys H→ys.length≤sizeLine∧∀p,H p=none→Q (.ref p) (upd H p (.lst ys))):
  CompR (Itl K a) H k g tt te σ Q:=by
 refine⟨fun i m ys H=>m=xs.length-i∧i≤xs.length∧Pv i ys H,⟨xs.length,by simp,Nat.zero_le _,h0⟩,?_⟩;rintro i m ys H ⟨rfl,hi,p⟩;have q:=hl i ys H hi p;by_cases C5:i<xs.length
 ·have r:=hs i xs[i] ys H (fun ys' H'=>∃m',m'<xs.length-i∧m'=xs.length-(i+1)∧i+1≤xs.length∧Pv (i+1) ys' H') (by simp[C5]) p fun ys' H' p'=>⟨_,by omega,rfl,C5,p'⟩;refine .inr ⟨⟨xs,xs[i],q,by simp[C5]⟩,r.1,fun x H' y=>?_⟩;obtain⟨e,y⟩:=y;subst e;have ex:xs[i]?=some x:=y xs q;have ex2:xs[i]=x:=by simpa [C5] using ex
  rw[←ex2];exact r.2
 ·have e:i=xs.length:=by omega
  subst e;exact .inl ⟨⟨xs,q,io _⟩,hd ys H p⟩
def wordA:Str:="q abcdefgh aq qa abcdefgi ea zz eaq abd abc e bcdefgh za "
def wordB:Str:="qae acb ae abcdefg z qq aea az abcd xabcd eae abce eq"
def words:List Str:=["q","abcdefgh","aq","qa","abcdefgi","ea","zz","eaq","abd","abc","e","bcdefgh","za","qae","acb","ae","abcdefg","z","qq","aea","az","abcd","xabcd","eae","abce","eq"]
theorem Qc:Builtin.Str.partsBetween (wordA++wordB) (Builtin.Str.occurrences (wordA++wordB) " " 0 (wordA++wordB).length ((wordA++wordB).length+1)) (" ":Str).length=words:=by decide +kernel
theorem tD:(decide ((wordA++wordB).length<(" ":Str).length) || decide (Builtin.Str.strKind (wordA++wordB)<Builtin.Str.strKind " "))=false:=by decide +kernel
theorem kz:(((" ":Str).length==0)=false):=by decide +kernel
theorem qU:(Builtin.Str.occurrences (wordA++wordB) " " 0 (wordA++wordB).length ((wordA++wordB).length+1)).isEmpty=false:=by decide +kernel
theorem pY:(wordA++wordB).length≤sizeLine:=by decide +kernel
theorem mT:wordA.length+wordB.length≤sizeLine:=by decide +kernel
structure Th where
 day:Int
 word:Str
 num:Int
 many:Int
def Th.D(t:Th):PyData:=.tuple [.int t.day,.str t.word,.int t.num,.int t.many]
def Th.vs(t:Th):List V:=[.int t.day,.str t.word,.int t.num,.int t.many]
structure Th.Ok(t:Th):Prop where
 day:0≤t.day
 word:t.word∈words
 num:0≤t.num
 many:1≤t.many
 numU:t.num<1073741824
 manyU:t.many≤1000000000
theorem Th.dv{H:Hp}{r:Addr}{t:Th}(h:H r=some (.tup t.vs)):DV H (.ref r) t.D:=.tup h (.cons (.int _) (.cons (.str _) (.cons (.int _) (.cons (.int _) .nil))))
inductive Tr where
 |leaf (ts:List Th)
 |node (l r:Tr)
abbrev bG(ts:List Th):PyData:=.list (ts.map Th.D)
def Tr.D:Tr→PyData
 |.leaf ts=>bG ts
 |.node l r=>.tuple [.str "merged",l.D,r.D]
def Tr.streams:Tr→List (List Th)
 |.leaf ts=>[ts]
 |.node l r=>l.streams++r.streams
def Tr.size:Tr→Nat
 |.leaf _=>1
 |.node l r=>l.size+r.size+1
def Tr.ht:Tr→Nat
 |.leaf _=>0
 |.node l r=>max l.ht r.ht+1
def Tr.all:Tr→List Th
 |.leaf ts=>ts
 |.node l r=>l.all++r.all
def Tr.Ok:Tr→Prop
 |.leaf ts=>∀t∈ts,t.Ok
 |.node l r=>l.Ok∧r.Ok
theorem Tr.size_pos:∀t:Tr,0<t.size
 |.leaf _=>Nat.zero_lt_one
 |.node _ _=>Nat.succ_pos _
theorem Tr.all_eq:∀t:Tr,t.all=t.streams.flatten
 |.leaf ts=>by simp[Tr.all,Tr.streams]
 |.node l r=>by
  show l.all++r.all=(l.streams++r.streams).flatten;rw[List.flatten_append,all_eq l,all_eq r]
theorem mo{α:Type}{f:α→PyData}{n:Nat}:∀(xs:List α),(∀x∈xs,(f x).canLay0=true∧(f x).depth≤n)→PyData.canLayAll0 (xs.map f)=true∧PyData.depthAll (xs.map f)≤n
 | [],_=>by simp[PyData.canLayAll0,PyData.depthAll]
 |x::xs,h=>by
  have h1:=h x Au;have h2:=mo xs fun y hy=>h y (Az _ hy);rw[AA,PyData.canLayAll0,PyData.depthAll,h1.1,h2.1];exact⟨rfl,Nat.max_le.mpr ⟨h1.2,h2.2⟩⟩
theorem rK{α:Type}{f:α→PyData}{n:Nat}(xs:List α)(h:∀x∈xs,(f x).canLay0=true∧(f x).depth≤n):(PyData.list (xs.map f)).canLay0=true∧(PyData.list (xs.map f)).depth≤n+1:=by
 have q:=mo xs h;rw[PyData.canLay0,PyData.depth];exact⟨q.1,Nat.succ_le_succ q.2⟩
theorem Ot{d:PyData}{n:Nat}(h:d.canLay0=true∧d.depth≤n)(hn:n≤64):SeqAt.shaped d=true:=by
 unfold SeqAt.shaped;rw[h.1,Cc];exact zy (AU h.2 hn)
theorem jS{d:PyData}{n:Nat}(h:d.canLay0=true∧d.depth≤n):PyData.eqv d d=true:=SeqAt.eqv_refl d h.1
theorem DV.list_inv{H:Hp}{v:V}{ds:List PyData}(h:DV H v (.list ds)):∃a xs,v=.ref a∧H a=some (.lst xs)∧DVs H xs ds:=by
 cases h with
 |lst e r=>exact⟨_,_,rfl,e,r⟩
theorem DV.tup_inv{H:Hp}{v:V}{ds:List PyData}(h:DV H v (.tuple ds)):∃a xs,v=.ref a∧H a=some (.tup xs)∧DVs H xs ds:=by
 cases h with
 |tup e r=>exact⟨_,_,rfl,e,r⟩
theorem DVs.cons_inv{H:Hp}{vs:List V}{d:PyData}{ds:List PyData}(h:DVs H vs (d::ds)):∃x r,vs=x::r∧DV H x d∧DVs H r ds:=by
 cases h with
 |cons a b=>exact⟨_,_,rfl,a,b⟩
theorem DVs.nil_inv{H:Hp}{vs:List V}(h:DVs H vs []):vs=[]:=by
 cases h with
 |nil=>rfl
theorem DV.node_inv{H:Hp}{v:V}{l r:Tr}(h:DV H v (Tr.node l r).D):∃a m x y,v=.ref a∧H a=some (.tup [m,x,y])∧DV H x l.D∧DV H y r.D:=by
 obtain⟨a,xs,rfl,e,q⟩:=DV.tup_inv h;obtain⟨m,r1,rfl,_,q1⟩:=q.cons_inv;obtain⟨x,r2,rfl,hx,q2⟩:=q1.cons_inv;obtain⟨y,r3,rfl,hy,q3⟩:=q2.cons_inv;have:=q3.nil_inv;subst this;exact⟨a,m,x,y,rfl,e,hx,hy⟩
theorem Yk{H H':Hp}{a:Addr}{o:HO}(g:Same H H')(h:H a=none):Same H (upd H' a o):=fun b u q=>by rw[Za (Zf q h)];exact g b u q
theorem Has.of{P:Program}{w:World}{K:W.Frag}{mg:Str→Option Value}{base:Heap}{x:Str}{k:Nat}{ps:List Str}{sp:Sp}{f:Addr}{fd:FuncData}(F:FnOk P w K mg base CX0 k f fd ps sp)(b:Binds K fd ps [])(kp:W.keepIn K (.ref f)=true)(m:mg x=some (.ref f)):
  Has P w K mg base x k ps sp:=⟨f,fd,F,b,kp,m⟩
theorem nj{P:Program}{w:World}{K:W.Frag}{mg:Str→Option Value}{base:Heap}{k:Nat}{ps:List Str}{sp:Sp}{f:Addr}{fd:FuncData}(no:∀vs H Q E,¬sp vs H Q E):FnOk P w K mg base CX0 k f fd ps sp:=
 ⟨fun vs H Q E h=>absurd h (no vs H Q E),fun A outer s H args us vs Q E _ _ _ _ h=>absurd h (no vs H Q E)⟩
def Aa(t T:String):Option Bool:=if (Value.type t==Value.type T)=true then some true else if W.kitMeta T=true then(PySem.fastBuiltinMro t).map (·.contains (.type T))else none
theorem iS{K:W.Frag}{t T:String}{b:Bool}(h:Aa t T=some b):W.kitOne K (.type t) (.type T)=some b:=h
theorem xz{K:W.Frag}:W.kitOne K (.type "list") (.type "list")=some true:=iS (by decide +kernel)
theorem wq{K:W.Frag}:W.kitOne K (.type "tuple") (.type "list")=some false:=iS (by decide +kernel)
section
variable{X:Cx}
theorem vh{ns:List Int}{us:List Value}(r:Vals (ns.map V.int) us){i:Nat}{u:Value}(h:us[i]?=some u):∃t,u=.int (ns.getD i 0) t:=IntsAre.int_at (Pl r) i u h
theorem Su(hc:X.calm=true):bu X (.builtin "sum") (fun xs H Q=>∃(p:Addr)(ns:List Int),xs=[.ref p]∧SqL X.K H p (ns.map V.int)∧Q (.int ns.sum) H):=by
 intro CZ s σ H xs us Q I r h;obtain⟨p,ns,rfl,hq,q⟩:=h;obtain⟨u,rfl,ru⟩:=Wx r;cases ru;obtain⟨its,rv,pl,hz⟩:=I.list hq;have hl:=rv.length;rw[ae]at hl;have C5:p<s.heap.objs.size:=by
  obtain⟨o,n,e,_⟩:=pl;exact az e
 refine call_sum_walkG (wpAny_pyIter_list pl.isList ?_);have hh:X.A.in1.handled=none:=by simpa using I.ok.hd hc
 refine⟨s.heap.objs.size,_,_,_,_,_,fun i=>ns.getD i 0,rfl,Walks.list hh _ p (Ac C5) its.toArray,⟨⟨_,pi _ rfl,rfl,rfl⟩,pl.isList.push _⟩,fun b hb=>?_,fun i v hv=>?_,fun h' tk t' kp=>?_⟩
 ·rw[Bt]
  rcases Ae.mp hb with e | e
  ·rw[e];exact Nat.lt_succ_self _
  ·rw[Af.mp e];exact BD C5
 ·exact vh rv (by simpa using hv)
 ·have e:preSum (fun i=>ns.getD i 0) its.toArray.size=ns.sum:=by
   rw[PyProof.Rows.preSum_getD,AG,←hl,At]
  rw[e];refine⟨.int ns.sum,H,I.kept fun b o eb=>kp b o ?_ (af _ eb),⟨_,rfl⟩,q⟩;intro hb;rw[Af.mp hb]at eb;exact absurd (az eb) (BA _)
end
section
variable{prog:Program}{w:World}{A:Around}{R:Result→Shared→Prop}{I:Addr}{fp wr:List Addr}{n:Nat}{P:Nat→Value→Prop}{St:Nat→Heap→Prop}
end
variable{prog:Program}{w:World}{A:Around}{E:Value→Shared→Prop}{s:Shared}
section
variable{X:Cx}
end
theorem DV.th_inv{H:Hp}{v:V}{t:Th}(h:DV H v t.D):∃c,v=.ref c∧H c=some (.tup t.vs):=by
 obtain⟨c,xs,rfl,e,q⟩:=DV.tup_inv h;obtain⟨_,_,rfl,k1,q⟩:=q.cons_inv;obtain⟨_,_,rfl,k2,q⟩:=q.cons_inv;obtain⟨_,_,rfl,k3,q⟩:=q.cons_inv;obtain⟨_,_,rfl,k4,q⟩:=q.cons_inv;have:=q.nil_inv;subst this;cases k1;cases k2;cases k3;cases k4;exact⟨c,rfl,e⟩
theorem DVs.th_at{H:Hp}{xs:List V}{ts:List Th}{i:Nat}{x:V}(h:DVs H xs (ts.map Th.D))(hx:xs[i]?=some x):∃t c,ts[i]?=some t∧x=.ref c∧H c=some (.tup t.vs)∧t∈ts:=by
 obtain⟨d,hd,dv⟩:=DVs.getV h hx;rw[Ar]at hd;obtain⟨t,ht,rfl⟩:=An.mp hd;obtain⟨c,rfl,e⟩:=DV.th_inv dv;exact⟨t,c,ht,rfl,e,Ai ht⟩
theorem Zr{α:Type}{l:List α}{i:Nat}{x:α}(h:l[i]?=some x):l.take (i+1)=l.take i++[x]:=by rw[List.take_add_one,h];rfl
theorem ja{K:W.Frag}{a:Addr}{xs:List V}{ts:List Th}{k:Nat}{g:TG}{tt:TT}{te:TE}{σ:St}{H:Hp}{Q:VK}(p:Th→Bool)(f:Th→V)(e:H a=some (.lst xs))(dv:DVs H xs (ts.map Th.D))(hl:ts.length≤100000)(hs:∀(t:Th) (c:Addr) (ys:List V) (C:List V→Hp→Prop),t∈ts→H c=some (.tup t.vs)→(p t=true→C (ys++[f t]) H)→(p t=false→C ys H)→g (.ref c) (List.replicate k none++σ) H fun σ2 H2=>Wk σ2 (List.replicate k none++σ)∧tt σ2 H2 fun ok H3=>
   if ok=true then te σ2 H3 fun y H4=>C (ys++[y]) H4 else C ys H3)(hd:∀q,H q=none→Q (.ref q) (upd H q (.lst ((ts.filter p).map f)))):
  CompR (Itl K a) H k g tt te σ Q:=by
 have dl:=dv.length;rw[ae]at dl;have le:∀i,(((ts.take i).filter p).map f).length≤100000:=fun i=>by
  rw[ae];have h1:=Ap p (ts.take i);rw[Am]at h1;omega
 refine Yo (xs:=xs) (fun i ys H'=>H'=H∧ys=((ts.take i).filter p).map f) ⟨rfl,rfl⟩ ?_ ?_ ?_
 ·rintro i ys H' _ ⟨rfl,_⟩;exact SqL.of e
 ·rintro i x ys H' C hx ⟨rfl,rfl⟩ hC;obtain⟨t,c,ht,rfl,ec,hm⟩:=DVs.th_at dv hx;refine⟨Zk (by have:=le i;omega),hs t c _ C hm ec (fun hp=>hC _ _ ⟨rfl,?_⟩) (fun hp=>hC _ _ ⟨rfl,?_⟩)⟩
  ·rw[Zr ht,AJ,ca,As,hp];rfl
  ·rw[Zr ht,AJ,As,hp];simp
 ·rintro ys H' ⟨rfl,rfl⟩;rw[dl,At];refine⟨Zd (by have:=le ts.length;rw[At]at this;omega),hd⟩
section
variable{κ:Type}[DecidableEq κ]
def aF(kvs:List (κ×V))(k:κ):Option V:=(kvs.find? fun kv=>decide (kv.1=k)).map (·.2)
def aZ(kvs:List (κ×V))(k:κ)(v:V):List (κ×V):=
 if (kvs.any fun kv=>decide (kv.1=k))=true then kvs.map (fun kv=>if kv.1=k then(kv.1,v)else kv)else kvs++[(k,v)]
theorem Yw{p:κ×V}{r:List (κ×V)}{k:κ}(e:p.1=k):aF (p::r) k=some p.2:=by simp[aF,List.find?_cons,e]
theorem Yx{p:κ×V}{r:List (κ×V)}{k:κ}(e:¬p.1=k):aF (p::r) k=aF r k:=by simp[aF,List.find?_cons,e]
theorem Wy(k:κ):∀kvs:List (κ×V),(kvs.any fun kv=>decide (kv.1=k))=(aF kvs k).isSome
 | []=>rfl
 |p::r=>by
  rw[List.any_cons];by_cases e:p.1=k
  ·simp only[Yw e,decide_eq_true e,Bool.true_or,Option.isSome_some]
  ·rw[Yx e,Ag e,Bool.false_or];exact Wy k r
theorem i_(k j:κ)(y:V):∀kvs:List (κ×V),aF (kvs.map fun kv=>if kv.1=k then(kv.1,y)else kv) j=(aF kvs j).map fun x=>if j=k then y else x
 | []=>rfl
 |p::r=>by
  have ih:=i_ k j y r;rw[AA];by_cases h:p.1=k
  ·rw[Ah h];by_cases e:p.1=j
   ·rw[Yw (p:=(p.1,y)) e,Yw e,Option.map_some,Ah (e.symm.trans h)]
   ·rw[Yx (p:=(p.1,y)) e,Yx e,ih]
  ·rw[Aj h];by_cases e:p.1=j
   ·rw[Yw (p:=p) e,Yw e,Option.map_some,Aj (fun z=>h (e.trans z))]
   ·rw[Yx (p:=p) e,Yx e,ih]
theorem Ol(k j:κ)(y:V):∀kvs:List (κ×V),aF kvs k=none→aF (kvs++[(k,y)]) j=if j=k then some y else aF kvs j
 | [],_=>by
  by_cases e:k=j
  ·rw[Ah e.symm];exact Yw (p:=(k,y)) e
  ·rw[Aj (fun z=>e z.symm)];exact Yx (p:=(k,y)) e
 |p::r,hn=>by
  rw[List.cons_append];have hk:¬p.1=k:=fun z=>by rw[Yw z]at hn;cases hn
  rw[Yx hk]at hn;have ih:=Ol k j y r hn;by_cases e:p.1=j
  ·rw[Yw e,Yw e,Aj (fun z=>hk (e.trans z))]
  ·rw[Yx e,Yx e,ih]
theorem jf(kvs:List (κ×V))(k j:κ)(y:V):aF (aZ kvs k y) j=if j=k then some y else aF kvs j:=by
 unfold aZ;by_cases a:(kvs.any fun kv=>decide (kv.1=k))=true
 ·rw[Ah a,i_];rw[Wy]at a;by_cases e:j=k
  ·obtain⟨x,hx⟩:=Cb.mp a;rw[Ah e,e,hx,Option.map_some,Ah rfl]
  ·rw[Aj e];cases aF kvs j with
   |none=>rfl
   |some x=>rw[Option.map_some,Aj e]
 ·rw[Aj a];refine Ol k j y kvs ?_;rw[Wy]at a;cases q:aF kvs k with
  |none=>rfl
  |some x=>rw[q]at a;exact(a rfl).elim
theorem Uj(kvs:List (κ×V))(k:κ)(v:V):(aZ kvs k v).length≤kvs.length+1:=by
 unfold aZ
 split
 ·rw[ae];omega
 ·rw[ba,AD,BS];omega
theorem q5{kvs:List (κ×V)}{k:κ}(v:V)(h:aF kvs k=none):aZ kvs k v=kvs++[(k,v)]:=by
 unfold aZ;rw[Wy,h];exact Aj (by decide)
theorem RelO.isSome_eq{o:Option V}{u:Option Value}(r:RelO o u):o.isSome=u.isSome:=by
 cases o with
 |none=>cases u with
  |none=>rfl
  |some _=>exact(show False from r).elim
 |some _=>cases u with
  |none=>exact(show False from r).elim
  |some _=>rfl
theorem RelO.getD{o:Option V}{u:Option Value}{d:V}{d':Value}(r:RelO o u)(rd:RelV d d'):RelV (o.getD d) (u.getD d'):=by
 cases o with
 |none=>cases u with
  |none=>exact rd
  |some _=>exact(show False from r).elim
 |some _=>cases u with
  |none=>exact(show False from r).elim
  |some _=>exact r
theorem KV.val{kvs:List (κ×V)}{vs:List (κ×Value)}(r:KV kvs vs)(k:κ):RelO (aF kvs k) (valueAt vs k):=by
 unfold KV at r
 induction r with
 |nil=>exact True.intro
 | @cons p q ps qs h t ih=>
  obtain⟨h1,h2⟩:=h;by_cases e:p.1=k
  ·have e':q.1=k:=h1.symm.trans e;have b:valueAt (q::qs) k=some q.2:=by simp[valueAt,List.find?_cons,e']
   rw[Yw e,b];exact h2
  ·have e':¬q.1=k:=fun z=>e (h1.trans z);have b:valueAt (q::qs) k=valueAt qs k:=by simp[valueAt,List.find?_cons,e']
   rw[Yx e,b];exact ih
theorem KV.any{kvs:List (κ×V)}{vs:List (κ×Value)}(r:KV kvs vs)(k:κ):(kvs.any fun kv=>decide (kv.1=k))=vs.any fun kv=>decide (kv.1=k):=by
 unfold KV at r
 induction r with
 |nil=>rfl
 |cons h t ih=>rw[List.any_cons,List.any_cons,ih,h.1]
theorem KV.repl{kvs:List (κ×V)}{vs:List (κ×Value)}(r:KV kvs vs)(k:κ){y:V}{u:Value}(ry:RelV y u):
  KV (kvs.map fun kv=>if kv.1=k then(kv.1,y)else kv) (vs.map fun kv=>if kv.1=k then(kv.1,u)else kv):=by
 unfold KV at r⊢
 induction r with
 |nil=>exact .nil
 | @cons p q ps qs h t ih=>
  rw[AA,AA];refine .cons ?_ ih;obtain⟨h1,h2⟩:=h;by_cases e:p.1=k
  ·rw[Ah e,Ah (h1.symm.trans e)];exact⟨h1,ry⟩
  ·rw[Aj e,Aj (fun z=>e (h1.trans z))];exact⟨h1,h2⟩
theorem KV.put{kvs:List (κ×V)}{vs:List (κ×Value)}(r:KV kvs vs)(k:κ){y:V}{u:Value}(ry:RelV y u):KV (aZ kvs k y) (stored vs k u):=by
 unfold aZ stored;rw[r.any k];by_cases e:(vs.any fun kv=>decide (kv.1=k))=true
 ·rw[Ah e,Ah e];exact r.repl k ry
 ·rw[Aj e,Aj e];exact Paired.snoc r ⟨rfl,ry⟩
theorem KV.keys{kvs:List (κ×V)}{vs:List (κ×Value)}(r:KV kvs vs):kvs.map (·.1)=vs.map (·.1):=by
 unfold KV at r
 induction r with
 |nil=>rfl
 |cons h t ih=>rw[AA,AA,ih,h.1]
theorem KV.length{kvs:List (κ×V)}{vs:List (κ×Value)}(r:KV kvs vs):kvs.length=vs.length:=Cs r
end
theorem Nb{P:Program}{w:World}{k:Key}{u:Value}(r:RelV (kV k) u):(ai P w).is k u=true:=by
 cases k with
 |inl i=>obtain⟨t,e⟩:=(show ∃t,u=Value.int i t from r);subst e;exact Rn P w i t
 |inr x=>obtain⟨t,e⟩:=(show ∃t,u=Value.str x t from r);subst e;exact Rm P w x t
theorem Nc{P:Program}{w:World}:∀{ks:List Key}{us:List Value},Vals (ks.map kV) us→ItemsAre (ai P w) ks us
 | [],_,r=>by rw[CQ]at r;cases r;exact .nil
 |k::ks,_,r=>by
  rw[AA]at r;cases r with
  |cons h t=>exact .cons (Nb h) (Nc t)
abbrev KT(H:Hp):List (List Key×V)→List (List Key×Addr×Value)→Prop:=Paired fun p q=>p.1=q.1∧H q.2.1=some (.tup (p.1.map kV))∧RelV p.2 q.2.2
theorem KT.val{H:Hp}{kvs:List (List Key×V)}{xs:List (List Key×Addr×Value)}(r:KT H kvs xs)(k:List Key):RelO (aF kvs k) ((atKey xs k).map (·.2)):=by
 induction r with
 |nil=>exact True.intro
 | @cons p q ps qs h t ih=>
  obtain⟨h1,_,h2⟩:=h;by_cases e:p.1=k
  ·have e':q.1=k:=h1.symm.trans e;have b:atKey (q::qs) k=some q.2:=by simp[atKey,List.find?_cons,e']
   rw[Yw e,b];exact h2
  ·have e':¬q.1=k:=fun z=>e (h1.trans z);have b:atKey (q::qs) k=atKey qs k:=by simp[atKey,List.find?_cons,e']
   rw[Yx e,b];exact ih
theorem KT.repl{H:Hp}{kvs:List (List Key×V)}{xs:List (List Key×Addr×Value)}(r:KT H kvs xs)(k:List Key){y:V}{u:Value}(ry:RelV y u):
  KT H (kvs.map fun kv=>if kv.1=k then(kv.1,y)else kv) (xs.map (putAt k u)):=by
 induction r with
 |nil=>exact .nil
 | @cons p q ps qs h t ih=>
  rw[AA,AA];refine .cons ?_ ih;obtain⟨h1,h2,h3⟩:=h;unfold putAt;by_cases e:p.1=k
  ·rw[Ah e,Ah (h1.symm.trans e)];exact⟨h1,h2,ry⟩
  ·rw[Aj e,Aj (fun z=>e (h1.trans z))];exact⟨h1,h2,h3⟩
theorem KT.put{H:Hp}{kvs:List (List Key×V)}{xs:List (List Key×Addr×Value)}(r:KT H kvs xs)(k:List Key){b:Addr}{y:V}{u:Value}(hb:H b=some (.tup (k.map kV)))(ry:RelV y u):
  KT H (aZ kvs k y) (storedH xs k b u):=by
 have e:(kvs.any fun kv=>decide (kv.1=k))=(atKey xs k).isSome:=by
  rw[Wy,(r.val k).isSome_eq,Option.isSome_map]
 unfold aZ storedH;rw[e];by_cases q:(atKey xs k).isSome=true
 ·rw[Ah q,Ah q];exact r.repl k ry
 ·rw[Aj q,Aj q];exact Paired.snoc r ⟨rfl,hb,ry⟩
theorem KT.keeps{H H':Hp}{kvs:List (List Key×V)}{xs:List (List Key×Addr×Value)}(r:KT H kvs xs)(ht:∀b ys,H b=some (.tup ys)→H' b=some (.tup ys)):KT H' kvs xs:=
 Paired.mapP r fun _ _ z=>⟨z.1,ht _ _ z.2.1,z.2.2⟩
section
variable{P:Program}{w:World}{H:Hp}{h:Heap}{a:Addr}
theorem v7{u:HO}(ok:HOk P w H h)(e:Rd H a u):ObjOk P w H h a u:=e.ok ok
theorem Pw{kvs:List (Key×V)}(ok:HOk P w H h)(e:Rd H a (.dK kvs)):kvs.length≤sizeLine∧(a==sysModules)=false∧∃vs,KV kvs vs∧h.DictOf (ai P w) a vs:=
 show ObjOk P w H h a (.dK kvs)from v7 ok e
theorem Px{kvs:List (Key×V)}(ok:HOk P w H h)(e:H a=some (.dK kvs)):kvs.length≤sizeLine∧(a==sysModules)=false∧∃vs,KV kvs vs∧h.DictOf (ai P w) a vs:=Pw ok (.inl e)
theorem iw{ks:List Key}(ok:HOk P w H h)(e:H a=some (.tup (ks.map kV))):(tupleKind (ai P w)).is h ks a:=by
 obtain⟨_,its,r,o,h1,h2,n,h3⟩:=(show ObjOk P w H h a (.tup (ks.map kV))from ok a _ e);exact⟨o,its.toArray,n,h1,h2.1,h3,by simpa using Nc r⟩
theorem iN{kvs:List (List Key×V)}(ok:HOk P w H h)(e:Rd H a (.dT kvs)):kvs.length≤sizeLine∧(a==sysModules)=false∧
  ∃xs,KT H kvs xs∧h.DictOfH (tupleKind (ai P w)) a xs:=by
 obtain⟨z,y,xs,r,o,es,ep,h1,h2,h3,h4,h5⟩:=(show ObjOk P w H h a (.dT kvs)from v7 ok e);refine⟨z,y,xs,r,o,es,ep,h1,h2,h3,h4,fun x hx=>?_,h5⟩;have all:∀{l:List (List Key×V)}{m:List (List Key×Addr×Value)},KT H l m→∀x∈m,(tupleKind (ai P w)).is h x.1 x.2.1:=by
  intro l m q
  induction q with
  |nil=>intro x hx;exact nomatch hx
  | @cons p q ps qs hq t ih=>
   intro x hx
   rcases Ae.mp hx with e | hx
   ·subst e;exact iw ok (by rw[←hq.1];exact hq.2.1)
   ·exact ih x hx
 exact all r x hx
theorem zN{kvs:List (List Key×V)}(ok:HOk P w H h)(e:H a=some (.dT kvs)):kvs.length≤sizeLine∧(a==sysModules)=false∧
  ∃xs,KT H kvs xs∧h.DictOfH (tupleKind (ai P w)) a xs:=iN ok (.inl e)
end
def DGet(H:Hp)(a:Addr)(y:V)(r:Option V):Prop:=
 (∃kvs k,Rd H a (.dK kvs)∧y=kV k∧r=aF kvs k)∨∃kvs k b,Rd H a (.dT kvs)∧y=.ref b∧H b=some (.tup (k.map kV))∧r=aF kvs k
def DPut(H:Hp)(a:Addr)(y v:V)(H':Hp):Prop:=
 (∃kvs k,H a=some (.dK kvs)∧y=kV k∧kvs.length<sizeLine∧H'=upd H a (.dK (aZ kvs k v)))∨
 ∃kvs k b,H a=some (.dT kvs)∧y=.ref b∧H b=some (.tup (k.map kV))∧kvs.length<sizeLine∧H'=upd H a (.dT (aZ kvs k v))
theorem DGet.k{H:Hp}{a:Addr}{kvs:List (Key×V)}{k:Key}(e:H a=some (.dK kvs)):DGet H a (kV k) (aF kvs k):=.inl ⟨kvs,k,.inl e,rfl,rfl⟩
theorem DPut.k{H:Hp}{a:Addr}{kvs:List (Key×V)}{k:Key}{v:V}(e:H a=some (.dK kvs))(hl:kvs.length<sizeLine):DPut H a (kV k) v (upd H a (.dK (aZ kvs k v))):=.inl ⟨kvs,k,e,rfl,hl,rfl⟩
section
variable{X:Cx}{CZ:List (Addr×Obj)}{σ:St}{H:Hp}{s:Shared}{a:Addr}{y v:V}{u r:Value}{o:Option V}{A:Around}{E:Value→Shared→Prop}
theorem Inv.big(I:Inv X CZ σ H s):sysModules<s.heap.objs.size:=by
 have h:mainGlobals<s.heap.objs.size:=(I.mod.glob.keeps I.bk).lt;exact Bl (by decide) h
theorem nZ{Q:Value→Shared→Prop}(hu:A.units+1<cLine)(I:Inv X CZ σ H s)(g:DGet H a y (some v))(ry:RelV y u)(h:∀w' s',Inv X CZ σ H s'→RelV v w'→Q w' s'):
  wpAny (model X.prog X.w) A (getItem (.ref a) u) Q E s:=by
 rcases g with⟨kvs,k,e,ey,l⟩|⟨kvs,k,b,e,ey,eb,l⟩
 ·subst ey;obtain⟨z,hd,vs,rel,dd⟩:=Pw I.hok e;obtain⟨w',hw,rw'⟩:=RelO.some_of (v:=v) (o:=valueAt vs k) (by rw[l];exact rel.val k);exact wpAny_getItem_of (Nb ry) dd.mapOf hw (h w' _ (I.tok _) rw')
 ·subst ey;cases (show u=Value.ref b from ry);obtain⟨z,hd,xs,rel,dd⟩:=iN I.hok e;obtain⟨w',hw,rw'⟩:=RelO.some_of (v:=v) (o:=(atKey xs k).map (·.2)) (by rw[l];exact rel.val k);obtain⟨p,hp,hp2⟩:=An.mp hw;refine wpAny_getItem_heap (tupleKind_room_in1 hu) (iw I.hok eb) dd hp ?_;rw[hp2];exact h w' _ (I.tok _) rw'
theorem mD{h':Heap}{t':Nat}{ob:HO}(I:Inv X CZ σ H s)(mu:Mut (H a))(hs:Heap.SameBut a s.heap h')(he:∃q,h'.get? a=some q)(new:ObjOk X.prog X.w (upd H a ob) h' a ob):
  Inv X CZ σ (upd H a ob) {s with heap:=h',toks:=t'}:=
 I.write (x:=a) (e:=a) mu (.inl rfl) (fun b q hb z=>(hs.2 b hb).trans z) he new
theorem ym{P:Program}{w:World}{H':Hp}{h':Heap}{kvs:List (Key×V)}{vs:List (Key×Value)}(z:kvs.length≤sizeLine)(hd:(a==sysModules)=false)(rel:KV kvs vs)(dd:h'.DictOf (ai P w) a vs):
  ObjOk P w H' h' a (.dK kvs):=⟨z,hd,vs,rel,dd⟩
theorem oO{H':Hp}{Q:Unit→Shared→Prop}(hu:A.units+1<cLine)(I:Inv X CZ σ H s)(g:DPut H a y v H')(ry:RelV y u)(rv:RelV v r)(h:∀s',Inv X CZ σ H' s'→Q () s'):
  wpAny (model X.prog X.w) A (setItem (.ref a) u r) Q E s:=by
 rcases g with⟨kvs,k,e,ey,l,eH⟩|⟨kvs,k,b,e,ey,eb,l,eH⟩
 ·subst ey eH;obtain⟨z,hd,vs,rel,dd⟩:=Px I.hok e;have hz:vs.length≤sizeLine:=by rw[←rel.length];exact z
  have hl:(aZ kvs k v).length≤sizeLine:=by have:=Uj kvs k v;omega
  refine wpAny_setItem_pairs (hsz:=hz) (Nb ry) dd fun h' dd' hs=>h _ ?_;have he:∃q,h'.get? a=some q:=let ⟨q,_,_,hq,_⟩:=dd';⟨q,hq⟩
  exact mD I (by rw[e];exact True.intro) hs he (ym hl hd (rel.put k rv) dd')
 ·subst ey eH;cases (show u=Value.ref b from ry);obtain⟨z,hd,xs,rel,dd⟩:=zN I.hok e;have hz:xs.length≤sizeLine:=by rw[←Cs rel];exact z
  have hl:(aZ kvs k v).length≤sizeLine:=by have:=Uj kvs k v;omega
  refine wpAny_setItem_heap (hsz:=hz) (tupleKind_room_in1 hu) (iw I.hok eb) dd fun h' dd' hs=>h _ ?_;obtain⟨q,es,ep,hq,h2,h3,h4,_,h5⟩:=dd';refine mD I (by rw[e];exact True.intro) hs ⟨q,hq⟩ ⟨hl,hd,_,(rel.put k eb rv).keeps fun c ys ec=>?_,q,es,ep,hq,h2,h3,h4,h5⟩;rw[Za (tf ec e (fun z=>nomatch z))];exact ec
end
section
variable{X:Cx}{CZ:List (Addr×Obj)}{σ:St}{H:Hp}{s:Shared}{a:Addr}{kvs:List (Key×V)}{k:Key}{u:Value}{A:Around}{E:Value→Shared→Prop}
theorem zS{Q:Value→Shared→Prop}(I:Inv X CZ σ H s)(e:Rd H a (.dK kvs))(h:∀t s',Inv X CZ σ H s'→Q (.int kvs.length t) s'):wpAny (model X.prog X.w) A (call (.builtin "len") [.ref a]) Q E s:=by
 obtain⟨z,hd,vs,rel,dd⟩:=Pw I.hok e;refine call_len_dict hd dd (by rw[←rel.length];rw[sizeLine_eq]at z;omega) ?_;rw[←rel.length];exact h _ _ (I.tok _)
end
def y4(i:Expr):Prop:=∀ov iv,subscripted i false ov iv=operate [ov,iv] (getItem ov iv)
theorem vn{prog:Program}{w:World}{A:Around}{E:Value→Shared→Prop}{s:Shared}{env:Env}{value slice:Expr}{pos:Pos}{T id:String}{Q:Value→Shared→Prop}(hl:typeLookup (.type T) "__getitem__"=pure (some (.builtin id)))(hs:y4 slice)(h:wpAny (model prog w) A (eval value env) (fun o s₁=>wpAny (model prog w) A (eval slice env) (fun i s₂=>s₂.TypeIs o T∧wpAny (model prog w) A (getItem o i) Q E s₂) E s₁) E s):
  wpAny (model prog w) A (eval (.Subscript value slice pos) env) Q E s:=by
 refine Subscript_ (A5 h (fun o s₁ h₁=>A5 h₁ (fun i s₂ h₂=>?_) fun _ _ x=>x) fun _ _ x=>x);obtain⟨hT,h₂⟩:=h₂;unfold subscriptTail;refine aa ?_;rw[getitemInPython_of_ne hT.not_modules];refine aa (wpAny_specialOf hT hl ?_);have fin:wpAny (model prog w) A (subscripted slice false o i) (fun r s₃=>wpAny (model prog w) A (letTemporaryGo value o r >>= fun _=>pure r) Q E s₃) E s₂:=by
  rw[hs o i];exact wpAny_operating (A5 h₂ (fun r s₃ h₃=>aa (wpAny_letTemporaryGo (aq h₃))) fun _ _ x=>x)
 first
  |exact aq (aa fin)
  |exact aa (aq (aa fin))
  |exact aa fin
theorem iT{X:Cx}{CZ:List (Addr×Obj)}{σ:St}{H:Hp}{s:Shared}{a:Addr}{y:V}{o:Option V}(I:Inv X CZ σ H s)(g:DGet H a y o):s.TypeIs (.ref a) "dict":=by
 rcases g with⟨kvs,k,e,_,_⟩|⟨kvs,k,b,e,_,_,_⟩
 ·obtain⟨_,_,vs,_,dd⟩:=Pw I.hok e;exact dd.typeIs
 ·obtain⟨_,_,xs,_,dd⟩:=iN I.hok e;exact dd.typeIs
def yH(td ty:TE):TE:=fun σ H Q=>td σ H fun x H1=>ty σ H1 fun y H2=>∃a v,x=.ref a∧DGet H2 a y (some v)∧Q v H2
def zP(td ty tv:TE):TS:=fun D σ H=>tv σ H fun v H1=>td σ H1 fun x H2=>ty σ H2 fun y H3=>∃a H4,x=.ref a∧DPut H3 a y v H4∧D.nx σ H4
section
variable{X:Cx}{o i e value:Expr}{pos pos' tpos:Pos}{td ty tv:TE}
theorem Ry(hu:X.A.units+1<cLine)(ho:PE X o td)(hi:PE X i ty)(hs:y4 i):PE X (.Subscript o i pos) (yH td ty):=by
 intro CZ s σ H Q I h;refine vn PySem.F.slot_dict_getitem.lookup hs (thn (ho CZ s σ H _ I h) fun u s1 ⟨x,H1,I1,rx,q1⟩=>thn (hi CZ s1 σ H1 _ I1 q1) fun iv s2 C0=>?_);obtain⟨y,H2,I2,ry,a,v,ex,g,q2⟩:=C0;subst ex;obtain rfl:u=Value.ref a:=rx;exact⟨iT I2 g,nZ hu I2 g ry fun w' s3 I3 rw'=>⟨v,H2,I3,rw',q2⟩⟩
theorem Se(hu:X.A.units+1<cLine)(ho:PE X o td)(hi:PE X i ty)(hv:PE X value tv)(hs:swapsWith value (some (.Subscript o i pos')) pos.line X.env=pure false):
  PS X (.Assign [.Subscript o i pos'] value pos) (zP td ty tv):=by
 intro CZ s σ H D I h;refine wpAny_Assign_Subscript (thn (hv CZ s σ H _ I h) fun r s1 ⟨v,H1,I1,rv,q1⟩=>thn (ho CZ s1 σ H1 _ I1 q1) fun u s2 ⟨x,H2,I2,rx,q2⟩=>thn (hi CZ s2 σ H2 _ I2 q2) fun iv s3 C0=>?_) hs;obtain⟨y,H3,I3,ry,a,H4,ex,g,q3⟩:=C0;subst ex;obtain rfl:u=Value.ref a:=rx;exact oO hu I3 g ry rv fun s4 I4=>⟨σ,H4,I4,q3⟩
end
theorem rD{P:Program}{w:World}{H:Hp}(h:Heap)(hb:sysModules<h.objs.size):ObjOk P w H (h.push {cls:=.type "dict",data:=.dict #[]}) h.objs.size (.dK []):=
 ⟨Bc _,Ce.mpr (Ne.symm (Ac hb)),[],.nil,Heap.DictOf.new h⟩
def wz:TE:=fun _ H Q=>∀p,H p=none→Q (.ref p) (upd H p (.dK []))
section
variable{X:Cx}{pos:Pos}
theorem jW:PE X (.Dict [] [] pos) wz:=fun CZ s σ H Q I h=>
 wpAny_Dict_empty ⟨.ref s.heap.objs.size,_,I.laid (a:=s.heap.objs.size) (o:=.dK []) (t':=s.toks) (fun _ _ q=>af _ q) (io _) (rD s.heap I.big),rfl,h _ (I.hok.fresh (io _))⟩
end
def cZ(kvs more:List (Key×V)):List (Key×V):=more.foldl (fun Db kv=>aZ Db kv.1 kv.2) kvs
theorem KV.merge:∀{more:List (Key×V)}{rs:List (Key×Value)}{kvs:List (Key×V)}{vs:List (Key×Value)},KV more rs→KV kvs vs→KV (cZ kvs more) (merged vs rs):=by
 intro more rs kvs vs r;unfold KV at r
 induction r generalizing kvs vs with
 |nil=>intro q;exact q
 | @cons p q ps qs h t ih=>
  intro r0;have e:KV (aZ kvs p.1 p.2) (stored vs q.1 q.2):=by
   have:=r0.put p.1 h.2;rw[←h.1];exact this
  exact ih e
theorem Tj:∀(more kvs:List (Key×V)),(cZ kvs more).length≤kvs.length+more.length
 | [],kvs=>by show kvs.length≤kvs.length+0;omega
 |p::r,kvs=>by
  have h1:=Tj r (aZ kvs p.1 p.2);have h2:=Uj kvs p.1 p.2;show(cZ (aZ kvs p.1 p.2) r).length≤_;rw[AD];omega
structure M2(X:Cx)(o:Expr)(m:Str)(apos:Pos)(e f:Expr)(cpos:Pos):Prop where
 base:attributeBase o m X.env (eval o X.env)=eval o X.env
 few:((backTo cpos (starEach [e,f] X.env)).all (fun x=>!x.1) && (backToKw cpos (keywordEach [] X.env)).all (fun x=>x.1.isSome)
  && decide (([e,f]:List Expr).length+([]:List Keyword).length+(if ([]:List Keyword).isEmpty then 0 else 1)<30))=true
 line:(apos.endLine==cpos.line)=true
 trees:backTo cpos (starEach [e,f] X.env)=[(false,eval e X.env),(false,eval f X.env)]
def IsD(H:Hp)(a:Addr):Prop:=(∃kvs,Rd H a (.dK kvs))∨∃kvs,Rd H a (.dT kvs)
theorem rV{X:Cx}{CZ:List (Addr×Obj)}{σ:St}{H:Hp}{s:Shared}{a:Addr}(I:Inv X CZ σ H s)(d:IsD H a):
  s.TypeIs (.ref a) "dict"∧(∀b,Value.ref a=.ref b→∃ob,s.heap.get? b=some ob∧ob.dict=none)∧(a==sysModules)=false:=by
 rcases d with⟨kvs,e⟩|⟨kvs,e⟩
 ·obtain⟨_,hd,vs,_,dd⟩:=Pw I.hok e;refine⟨dd.typeIs,fun b q=>?_,hd⟩;cases q;obtain⟨ob,_,_,h1,h2,_⟩:=dd;exact⟨ob,h1,h2.2.1⟩
 ·obtain⟨_,hd,xs,_,dd⟩:=iN I.hok e;refine⟨dd.typeIs,fun b q=>?_,hd⟩;cases q;obtain⟨ob,_,_,h1,h2,_⟩:=dd;exact⟨ob,h1,h2.2.1⟩
section
variable{X:Cx}{CZ:List (Addr×Obj)}{σ:St}{H:Hp}{s:Shared}{a:Addr}{y d:V}{u r:Value}{o:Option V}{A:Around}{E:Value→Shared→Prop}
theorem xi{Q:Value→Shared→Prop}(hu:A.units+1<cLine)(I:Inv X CZ σ H s)(g:DGet H a y o)(ry:RelV y u)(rd:RelV d r)(h:∀w' s',Inv X CZ σ H s'→RelV (o.getD d) w'→Q w' s'):
  wpAny (model X.prog X.w) A (call (.builtin "dict.get") [.ref a,u,r]) Q E s:=by
 rcases g with⟨kvs,k,e,ey,l⟩|⟨kvs,k,b,e,ey,eb,l⟩
 ·subst ey;obtain⟨z,hd,vs,rel,dd⟩:=Pw I.hok e;refine call_meetsIn PySem.F.slot_dict_get dd.typeIs PySem.F.entry_dict_get (PySem.F.args_dict_get_3 _ _ _) (meets_dict_get_default (ai X.prog X.w) a (Nb ry) hd r) ⟨_,dd.mapOf,h _ _ (I.tok _) ?_⟩;rw[l];exact(rel.val k).getD rd
 ·subst ey;cases (show u=Value.ref b from ry);obtain⟨z,hd,xs,rel,dd⟩:=iN I.hok e;refine call_meetsIn PySem.F.slot_dict_get dd.typeIs PySem.F.entry_dict_get (PySem.F.args_dict_get_3 _ _ _) (meetsH_dict_get_default (tupleKind (ai X.prog X.w)) a b hd r) ⟨tupleKind_room_in1 hu,k,xs,iw I.hok eb,dd,h _ _ (I.tok _) ?_⟩;rw[l];exact(rel.val k).getD rd
end
def xy(td ty tx:TE):TE:=fun σ H Q=>td σ H fun x H1=>∃a,x=.ref a∧IsD H1 a∧ty σ H1 fun y H2=>tx σ H2 fun z H3=>∃o,DGet H3 a y o∧Q (o.getD z) H3
section
variable{X:Cx}{o e f:Expr}{apos cpos:Pos}{td ty tx:TE}
theorem Sg(hu:X.A.units+1<cLine)(ho:PE X o td)(he:PE X e ty)(hf:PE X f tx)(m:M2 X o "get" apos e f cpos):PE X (.Call (.Attribute o "get" apos) [e,f] [] cpos) (xy td ty tx):=by
 intro CZ s σ H Q I h;refine wpAny_Call_method m.base m.few m.line PySem.F.plainAttrs_dict PySem.F.slot_dict_get PySem.F.type_dict_get (thn (ho CZ s σ H _ I h) fun u s1 C0=>?_);obtain⟨x,H1,I1,rx,a,ex,d,q1⟩:=C0;subst ex;obtain rfl:u=Value.ref a:=rx;obtain⟨t1,t2,_⟩:=rV I1 d;refine⟨t1,t2,?_⟩;rw[m.trees];refine Co rfl (CC (Calls.spliced_cons (thn (he CZ s1 σ H1 _ I1 q1) fun iv s2 ⟨y,H2,I2,ry,q2⟩=>
  Calls.spliced_cons (thn (hf CZ s2 σ H2 _ I2 q2) fun fv s3 ⟨z,H3,I3,rz,ov,g,q3⟩=>Calls.spliced_nil ?_))))
 exact xi hu I3 g ry rz fun w' s4 I4 rw'=>⟨_,H3,I4,rw',q3⟩
end
section
variable{X:Cx}{CZ:List (Addr×Obj)}{σ:St}{H:Hp}{s:Shared}{a:Addr}{kvs:List (Key×V)}{A:Around}{E:Value→Shared→Prop}
end
section
variable{X:Cx}{CZ:List (Addr×Obj)}{σ:St}{H:Hp}{s:Shared}{a:Addr}{y:V}{u:Value}{A:Around}{E:Value→Shared→Prop}
end
section
variable{X:Cx}
theorem Nn:bu X (.builtin "len") (fun xs H Q=>∃a kvs,xs=[V.ref a]∧H a=some (.dK kvs)∧Q (.int kvs.length) H):=by
 intro CZ s σ H xs us Q I r h;obtain⟨a,kvs,rfl,ha,q⟩:=h;obtain⟨u,rfl,ru⟩:=Wx r;cases ru;exact zS I (.inl ha) fun t s' I'=>⟨.int kvs.length,H,I',⟨t,rfl⟩,q⟩
end
section
variable{κ:Type}[DecidableEq κ]
theorem rq{kvs:List (κ×V)}{k:κ}(h:aF kvs k=none):¬k∈kvs.map (·.1):=by
 intro m;obtain⟨p,hp,e⟩:=Ab.mp m;have q:(kvs.any fun kv=>decide (kv.1=k))=true:=CF.mpr ⟨p,hp,zy e⟩;rw[Wy,h]at q;exact absurd q (by simp)
theorem lX{kvs:List (κ×V)}{k:κ}{v:V}(h:aF kvs k=some v):k∈kvs.map (·.1):=by
 have q:(kvs.any fun kv=>decide (kv.1=k))=true:=by
  rw[Wy,h]
  all_goals rfl
 obtain⟨p,hp,e⟩:=CF.mp q;exact Ab.mpr ⟨p,hp,bb e⟩
end
def Its(x:Str):It:=⟨fun i _=>i<x.cps.size,fun i H v H'=>H'=H∧∃c,x.cps[i]?=some c∧v=.str ⟨#[c]⟩,fun i _=>x.cps.size≤i⟩
theorem oK{P:Program}{w:World}{K:W.Frag}{tg:Expr}(x:Str)(t:Tok)(it:Addr):Turn P w K tg (Its x) [it] it (fun i h=>h.IsStrIter it "str_ascii_iterator" x t i) where
 mem:=by simp
 obj:=fun i h st b hb=>by
  obtain⟨o,e,c,d⟩:=st;have q:b=it:=by simpa using hb
  subst q;exact⟨o,e,fun v z=>by rw[d]at z;cases z⟩
 keep:=fun i h h' st k=>let ⟨o,e,r⟩:=st;⟨o,k it (by simp) o e,r⟩
 item:=by
  intro X hP hw hK hc i CZ s σ H E I hf st hg;subst hP hw hK;have hg:i<x.cps.size:=hg;obtain⟨f0,f1,f2,f3,f4,f5⟩:=hf it (by simp);refine wpAny_pyNext_ascii_item st (c:=x.cps[i]) (by simp[hg]) fun h' Dc sb=>?_;obtain⟨o,e,c,d⟩:=id Dc;exact⟨_,rfl,Nd (s:={s with heap:=h',toks:=s.toks+1}) e c d (by decide) ⟨.str ⟨#[x.cps[i]]⟩,H,I.turned (t':=s.toks+1) (fun b o hb e=>(sb.2 b hb).trans e) f0 f1 f3 f4 f5,⟨_,rfl⟩,⟨rfl,_,by simp[hg],rfl⟩,Dc,fun b hb=>(hf b hb).1⟩⟩
 done:=by
  intro X hP hw hK hc i CZ s σ H E I hf st hg;subst hP hw hK;have hg:x.cps.size≤i:=hg;obtain⟨f0,f1,f2,f3,f4,f5⟩:=hf it (by simp);exact wpAny_pyNext_ascii_end (I.ok.hd hc) st (by simp;omega) fun h' eb=>⟨rfl,I.turned (t':=s.toks) (fun b o hb e=>eb b o hb e) f0 f1 f3 f4 f5⟩
 self:=fun _ _ _ _ _ st h=>wpAny_pyIter_striter_ascii st h
theorem n_{P:Program}{w:World}{K:W.Frag}{tg:Expr}(x:Str)(t:Tok)(it:Addr):Turn P w K tg (Its x) [it] it (fun i h=>h.IsStrIter it "str_iterator" x t i) where
 mem:=by simp
 obj:=fun i h st b hb=>by
  obtain⟨o,e,c,d⟩:=st;have q:b=it:=by simpa using hb
  subst q;exact⟨o,e,fun v z=>by rw[d]at z;cases z⟩
 keep:=fun i h h' st k=>let ⟨o,e,r⟩:=st;⟨o,k it (by simp) o e,r⟩
 item:=by
  intro X hP hw hK hc i CZ s σ H E I hf st hg;subst hP hw hK;have hg:i<x.cps.size:=hg;obtain⟨f0,f1,f2,f3,f4,f5⟩:=hf it (by simp);refine wpAny_pyNext_wide_item st (c:=x.cps[i]) (by simp[hg]) fun h' Dc sb=>?_;obtain⟨o,e,c,d⟩:=id Dc;exact⟨_,rfl,Nd (s:={s with heap:=h',toks:=s.toks+1}) e c d (by decide) ⟨.str ⟨#[x.cps[i]]⟩,H,I.turned (t':=s.toks+1) (fun b o hb e=>(sb.2 b hb).trans e) f0 f1 f3 f4 f5,⟨_,rfl⟩,⟨rfl,_,by simp[hg],rfl⟩,Dc,fun b hb=>(hf b hb).1⟩⟩
 done:=by
  intro X hP hw hK hc i CZ s σ H E I hf st hg;subst hP hw hK;have hg:x.cps.size≤i:=hg;obtain⟨f0,f1,f2,f3,f4,f5⟩:=hf it (by simp);exact wpAny_pyNext_wide_end (I.ok.hd hc) st (by simp;omega) fun h' eb=>⟨rfl,I.turned (t':=s.toks) (fun b o hb e=>eb b o hb e) f0 f1 f3 f4 f5⟩
 self:=fun _ _ _ _ _ st h=>wpAny_pyIter_striter_wide st h
def iStr(tl:TE):TI:=fun σ H R=>tl σ H fun v H1=>∃x,v=.str x∧R (Its x) H1
section
variable{X:Cx}{tg:Expr}
theorem x6{l:Expr}{tl:TE}(hl:PE X l tl):PI X tg l (iStr tl):=by
 intro CZ s σ H R I h;refine thn (hl CZ s σ H _ I h) fun v s1 C0=>?_;obtain⟨x,H1,I1,r1,q1⟩:=C0;obtain⟨z,e,q⟩:=q1;subst e;obtain⟨t,rfl⟩:=r1;have fp:∀b∈[s1.heap.objs.size],dg X CZ H1 b:=fun b hb=>by
  have e:b=s1.heap.objs.size:=by simpa using hb
  subst e;exact I1.fpOk (io _) (I1.hok.fresh (io _))
 cases ha:z.cps.all (·<128) with
 |true=>exact wpAny_pyIter_ascii ha ⟨s1.heap.objs.size,[s1.heap.objs.size],_,_,H1,rfl,I1.kept (t':=s1.toks) (fun b o e=>af _ e),oK z t _,⟨_,pi _ rfl,rfl,rfl⟩,fp,q⟩
 |false=>exact wpAny_pyIter_wide ha ⟨s1.heap.objs.size,[s1.heap.objs.size],_,_,H1,rfl,I1.kept (t':=s1.toks) (fun b o e=>af _ e),n_ z t _,⟨_,pi _ rfl,rfl,rfl⟩,fp,q⟩
theorem qt{x:Str}{k:Nat}{g:TG}{tt:TT}{te:TE}{σ:St}{H:Hp}{Q:VK}(Pv:Nat→List V→Hp→Prop)(h0:Pv 0 [] H)(hs:∀i c ys H (C:List V→Hp→Prop),x.cps[i]?=some c→Pv i ys H→(∀ys' H',Pv (i+1) ys' H'→C ys' H')→ys.length<sizeLine∧g (.str ⟨#[c]⟩) (List.replicate k none++σ) H fun σ2 H2=>Wk σ2 (List.replicate k none++σ)∧tt σ2 H2 fun ok H3=>
   if ok=true then te σ2 H3 fun y H4=>C (ys++[y]) H4 else C ys H3)(hd:∀ys H,Pv x.cps.size ys H→ys.length≤sizeLine∧∀p,H p=none→Q (.ref p) (upd H p (.lst ys))):CompR (Its x) H k g tt te σ Q:=by
 refine⟨fun i m ys H=>m=x.cps.size-i∧i≤x.cps.size∧Pv i ys H,⟨x.cps.size,by simp,Nat.zero_le _,h0⟩,?_⟩;rintro i m ys H ⟨rfl,hi,p⟩;by_cases C5:i<x.cps.size
 ·have r:=hs i x.cps[i] ys H (fun ys' H'=>∃m',m'<x.cps.size-i∧m'=x.cps.size-(i+1)∧i+1≤x.cps.size∧Pv (i+1) ys' H') (by simp[C5]) p fun ys' H' p'=>⟨_,by omega,rfl,C5,p'⟩;refine .inr ⟨C5,r.1,fun v H' y=>?_⟩;obtain⟨e,c,hc,rfl⟩:=y;subst e;have ec:x.cps[i]=c:=by simpa [C5] using hc
  rw[←ec];exact r.2
 ·have e:i=x.cps.size:=by omega
  subst e;exact .inl ⟨io _,hd ys H p⟩
theorem oU{bs:List Bool}:(List.range bs.length).all (fun i=>bs.getD i true)=bs.all id:=by
 rw[CK,A3,A3];constructor
 ·intro h b hb;obtain⟨i,hi,rfl⟩:=B7.mp hb;have q:=h i (CT.mpr hi);rw[BE,Ak hi]at q;exact q
 ·intro h i hi;have hi:=CT.mp hi;have q:=h bs[i] (List.getElem_mem hi);rw[BE,Ak hi];exact q
theorem V4(hc:X.calm=true):bu X (.builtin "all") (fun xs H Q=>∃(p:Addr)(bs:List Bool),xs=[.ref p]∧SqL X.K H p (bs.map V.bl)∧Q (.bl (bs.all id)) H):=by
 intro CZ s σ H xs us Q I r h;obtain⟨p,bs,rfl,hq,q⟩:=h;obtain⟨u,rfl,ru⟩:=Wx r;cases ru;obtain⟨its,rv,pl,hz⟩:=I.list hq;have hl:=rv.length;rw[ae]at hl;have C5:p<s.heap.objs.size:=by
  obtain⟨o,n,e,_⟩:=pl;exact az e
 have hh:X.A.in1.handled=none:=by simpa using I.ok.hd hc
 refine call_all_walk (wpAny_pyIter_list pl.isList ⟨s.heap.objs.size,_,_,_,_,_,fun i=>bs.getD i true,rfl,Walks.list hh _ p (Ac C5) its.toArray,⟨⟨_,pi _ rfl,rfl,rfl⟩,pl.isList.push _⟩,fun i v s' Q' E' hv hQ=>?_,fun h' tk kp=>?_⟩)
 ·have hv':its[i]?=some v:=by simpa using hv
  have hi:i<bs.length:=by rw[hl];exact(Ad.mp hv').1
  obtain⟨u,hu,ru⟩:=rv.get (i:=i) (x:=.bl bs[i]) (by rw[Ar,Ak hi];rfl);rw[hv']at hu;cases hu;cases (show v=Value.bool bs[i]from ru);have e:bs.getD i true=bs[i]:=by rw[BE,Ak hi];rfl
  simp only[e]at hQ;exact B5 hQ
 ·have e:(List.range its.toArray.size).all (fun i=>bs.getD i true)=bs.all id:=by
   rw[AG,←hl];exact oU
  simp only[e];refine⟨.bl (bs.all id),H,I.kept fun b o eb=>kp b o ?_ (af _ eb),rfl,q⟩;intro hb;rw[Af.mp hb]at eb;exact absurd (az eb) (BA _)
end
section
variable{X:Cx}
end
section
variable{X:Cx}{o e:Expr}{to te:TE}{lo hi:Option Expr}{tl th:TO}{pos p2:Pos}
end
section
open PySem.AutoSeq1 (wpAny_loadPart')
open PySem.MeetsSeq PySem.MeetsSeq2 PySem.MeetsSeq3
end
section
variable{X:Cx}
end
theorem Zc{H H1:Hp}{p:Addr}{o:HO}(h:upd H p o=H1)(n:H p=none):Same H H1:=h ▸ Z9 n o
theorem Zj{H H1:Hp}{p:Addr}{o:HO}(h:upd H p o=H1):H1 p=some o:=h ▸ Z5
theorem iO{H H1:Hp}{p a:Addr}{o:HO}(h:upd H p o=H1)(n:H p=none)(hp:PenAt H a):PenAt H1 a∧Grw a H H1∧p≠a∧av a H1 p=some o:=by
 subst h;exact⟨hp.laid n,X7 n,hp.ne n,by rw[Zg (hp.ne n)];exact Z5⟩
theorem PenAt.grw{H H':Hp}{a:Addr}(h:PenAt H a)(g:Same H H'):Grw a H H':=by
 obtain⟨p,q,r,e⟩:=h;exact Vm e g
inductive Kd(H:Hp):V→String→Prop
 |non:Kd H .non "NoneType"
 |bl (b:Bool):Kd H (.bl b) "bool"
 |int (i:Int):Kd H (.int i) "int"
 |str (z:Str):Kd H (.str z) "str"
 |lst {a:Addr} {xs:List V} (e:H a=some (.lst xs)):Kd H (.ref a) "list"
 |tup {a:Addr} {xs:List V} (e:H a=some (.tup xs)):Kd H (.ref a) "tuple"
 |dK {a:Addr} {kvs:List (Key×V)} (e:H a=some (.dK kvs)):Kd H (.ref a) "dict"
theorem Kd.ty{K:W.Frag}{H:Hp}{x:V}{T:String}(h:Kd H x T):TyOf K H x (.type T):=by
 cases h with
 |non=>exact .non
 |bl b=>exact .bl b
 |int i=>exact .int i
 |str z=>exact .str z
 |lst e=>exact .lst e
 |tup e=>exact .tup e
 |dK e=>exact .dK e
def kds:List String:=["NoneType","bool","int","str","list","tuple","dict"]
def kus:List String:=["int","bool","str","list","tuple"]
def ku(T U:String):Bool:=(T==U) || (T == "bool" && U == "int")
theorem uR:∀T∈kds,∀U∈kus,Aa T U=some (ku T U):=by decide +kernel
theorem Kd.mem{H:Hp}{x:V}{T:String}(h:Kd H x T):T∈kds:=by cases h <;> decide
theorem Kd.kit{K:W.Frag}{H:Hp}{x:V}{T U:String}{b:Bool}(h:Kd H x T)(hU:U∈kus)(e:ku T U=b):W.kitOne K (.type T) (.type U)=some b:=by
 subst e;exact iS (uR T h.mem U hU)
def whV:V→Bool
 |.int _=>true
 |_=>false
def wF:V→Int→Bool
 |.int i,l=>decide (l≤i)
 |_,_=>false
theorem Kd.wh{H:Hp}{x:V}{T:String}(h:Kd H x T):(ku T "int" && !ku T "bool")=whV x:=by
 cases h <;> (first | rfl | (simp[ku,whV]))
theorem Wf{X:Cx}{x:Str}{v:V}{pos:Pos}(hg:Gl X x)(h:∃u,X.mg x=some u∧RelV v u)(hd:(x==("__debug__":Str))=false:=by decide):PE X (.Name x pos) (tC v):=by
 obtain⟨u,hm,r⟩:=h;exact uc hg hm r hd
def letters:Str:="abcdefghijklmnopqrstuvwxyz"
def sgB(c:Nat):Bool:=!(Builtin.Str.occurrences letters ⟨#[c]⟩ 0 letters.length 1).isEmpty
def mkS(z:Str):Bool:=decide (1≤z.length) && decide (z.length≤8) && z.cps.toList.all sgB
def mkB:V→Bool
 |.str z=>mkS z
 |_=>false
theorem z8{H:Hp}{p:Addr}{xs:List V}{d:Int}(e:H p=some (.lst xs))(h0:0≤d)(h1:d<xs.length):∃v,atI xs d=some v∧v∈xs:=Rh h0 h1
theorem hSqL{K:W.Frag}{H:Hp}{a c:Addr}{xs:List V}(h:av a H c=some (.lst xs)):SqL K H c xs:=SqL.of (Zh h).2
theorem jP{H:Hp}{a p:Addr}{o:HO}(h:p≠a):av a (upd H p o)=upd (av a H) p o:=by
 funext b
 by_cases e:b=a
 ·subst e;rw[Vl,Za (Ne.symm h),Vl]
 ·rw[Zg e];by_cases q:b=p
  ·subst q;rw[Z5,Z5]
  ·rw[Za q,Za q,Zg e]
def r_(X:Cx)(f:Value)(ks:List Str)(r:List V→List V→Hp→VK→Prop):Prop:=
 ∀(CZ:List (Addr×Obj))(s:Shared)(σ:St)(H:Hp)(xs zs:List V)(us ws:List Value)(Q:VK),Inv X CZ σ H s→Vals xs us→Vals zs ws→r xs zs H Q→
  wpAny (model X.prog X.w) X.A (call f us (ks.zip ws)) (EP X CZ σ Q) X.xe s
def tCBK(r:List V→List V→Hp→VK→Prop)(t tk:TA):TE:=fun σ H Q=>t σ H fun vs H1=>tk σ H1 fun zs H2=>r vs zs H2 Q
section
variable{X:Cx}{x:Str}{p pos:Pos}{e:Expr}{es:List Expr}{kws:List Keyword}{ks:List Str}{t tk:TA}{id:String}{r:List V→List V→Hp→VK→Prop}
theorem oZ(hc:r_ X (.builtin id) ks r)(hg:Gl X x)(hm:X.mg x=none)(hv:bootBuiltins x=some (.builtin id))(ha:PA X (e::es) t)(hk:PK X kws tk)(hks:(backToKw pos (keywordEach kws X.env)).filterMap (·.1)=ks:=by rfl)(hn:x≠"__name__":=by decide)(hdb:(x==("__debug__":Str))=false:=by decide)(he:backTo pos (starEach (e::es) X.env)=(false,eval e X.env)::backTo pos (starEach es X.env):=by rfl)(hpl:(backTo pos (starEach (e::es) X.env)).any (·.1)=false:=by rfl)(hall:(backToKw pos (keywordEach kws X.env)).all (·.1.isSome)=true:=by rfl)(hkn:(backToKw pos (keywordEach kws X.env)).any (·.1.isNone)=false:=by rfl):
  PE X (.Call (.Name x p) (e::es) kws pos) (tCBK r t tk):=by
 intro CZ s σ H Q I h;refine Bw (U2 I hg hm hv ?_ hn hdb);refine callWith_kw (thn (ha pos CZ s σ H _ I h) fun us s1 ⟨vs,H1,I1,r1,q1⟩=>thn (hk pos CZ s1 σ H1 _ I1 q1) fun ws s2 ⟨zs,H2,I2,r2,q2⟩=>?_) he hpl hall hkn;rw[hks];exact hc CZ s2 σ H2 vs zs us ws Q I2 r1 r2 q2
end
section
variable{prog:Program}{w:World}{A:Around}{E:Value→Shared→Prop}{s:Shared}{T:String}{r d:Addr}{n:Nat}{P:Nat→Value→Prop}{OK:Heap→Prop}
def xf(s:Shared)(P:Nat→Value→Prop)(n:Nat)(q:Result)(s':Shared):Prop:=
 ∃(g:Heap)(tk c:Nat)(xs:Array Value),q=.ok (.ret (.ref s.heap.objs.size))∧s'={s with heap:=g,toks:=tk}∧(∀b o,s.heap.get? b=some o→g.get? b=some o)∧g.get? s.heap.objs.size=some {cls:=.type "list",dict:=none,data:=.seq xs c,slots:=#[]}∧ItemsOf P xs n
theorem Rr{R:List Value→Shared→Prop}(K:W.KdlSrc prog w T r d n P OK)(hh:A.handled=none)(hok:OK s.heap)(hn:n≤sizeLine)(h:∀(g:Heap) (tk:Nat) (xs:Array Value),(∀b o,s.heap.get? b=some o→g.get? b=some o)→s.heap.objs.size<g.objs.size→ItemsOf P xs n→R xs.toList {s with heap:=g,toks:=tk}):wpAny (model prog w) A (collect (.ref r)) R E s:=by
 obtain⟨lt1,lt2⟩:=K.there _ hok;unfold collect;refine aa (wpAny_runValue (Bj entry_proto_collect' ?_));rw[A4 PySem.F.plain_proto_collect _];refine aa (m:=newList []) (Bf (aq ⟨BV Cg _,Bj entry_list_iadd' ?_⟩));rw[A4 Cg _];have own:(s.heap.push {cls:=.type "list",data:=.seq ([]:List Value).toArray}).get? s.heap.objs.size=some {cls:=.type "list",data:=.seq #[]}:=pi _ rfl;have run:=W.kdl_extend (A:=A) (s:={s with heap:=s.heap.push {cls:=.type "list",data:=.seq ([]:List Value).toArray}}) (R:=xf s P n) K hh (K.keep _ _ hok fun _ _ _ e=>af _ e) s.heap.objs.size (AF lt1) (AF lt2) (.ref s.heap.objs.size) 0 own
  (fun g tk xs c hk hS hx=>⟨g,tk,c,xs,rfl,rfl,fun b o e=>hk b o (Ac (az e)) (af _ e),hS,hx⟩) hn
 refine A5 run (fun fin s' y=>?_) (fun _ _ y=>by obtain⟨_,_,_,_,e,_⟩:=y;cases e);cases fin with
 |done f=>
  obtain⟨g,tk,c,xs,e,rfl,hk,hS,hx⟩:=y;cases e;exact aa (m:=load s.heap.objs.size) (CU hS (aq (h g tk xs hk (az hS) hx)))
 |again c1=>
  refine⟨y.1,B6 y.2 fun q s2 z=>?_⟩;obtain⟨g,tk,c,xs,rfl,rfl,hk,hS,hx⟩:=z;exact aa (m:=load s.heap.objs.size) (CU hS (aq (h g tk xs hk (az hS) hx)))
end
def cM(a d:Addr):HO:=.ext fun h=>h.IsValuesView a d
section
variable{X:Cx}{CZ:List (Addr×Obj)}{σ:St}{H:Hp}{s:Shared}
theorem pW{K:W.Frag}{d:Addr}{kvs:List (Key×V)}(h:H d=some (.dK kvs)):tyV K "dict" (.ref d) H:=.inr (.inr (.inl ⟨rfl,.inl ⟨kvs,h⟩⟩))
def zK(w:Addr→Addr→HO):V→List V→Hp→VK→Prop:=fun x vs H Q=>∃d kvs,x=.ref d∧vs=[]∧H d=some (.dK kvs)∧∀a,H a=none→Q (.ref a) (upd H a (w a d))
theorem nI:MtR X "dict.values" (zK cM):=by
 intro CZ s σ H x vs v us Q I rx rv h;obtain⟨d,kvs,rfl,rfl,hd,q⟩:=h;cases rx;cases rv;obtain⟨_,lo,ws,_,hD⟩:=Px I.hok hd;refine call_meetsIn Cd hD.typeIs PySem.F.entry_dict_values (PySem.F.args_dict_values_1 _) (meets_dict_values (ai X.prog X.w) d lo) ⟨⟨ws,hD⟩,?_⟩;refine⟨.ref s.heap.objs.size,_,I.laid (t':=s.toks) (o:=cM s.heap.objs.size d) (fun b o e=>af _ e) (io _) ?_,rfl,q _ (I.hok.fresh (io _))⟩;exact⟨⟨_,pi _ rfl,rfl,rfl⟩,⟨_,pi _ rfl⟩,fun h1 h2 ⟨o,ho,r⟩ k=>⟨o,k o ho,r⟩⟩
theorem Qe:∀{kvs:List (Key×V)}{ws:List (Key×Value)},KV kvs ws→Vals (kvs.map (·.2)) (ws.map (·.2))
 |_,_,.nil=>.nil
 |_,_,.cons a r=>.cons a.2 (Qe r)
def vK:List V→List V→Hp→VK→Prop:=fun xs zs H Q=>∃(v d:Addr)(kvs:List (Key×V))(ns:List Int),xs=[.ref v]∧zs=[.bl true]∧H v=some (cM v d)∧H d=some (.dK kvs)∧kvs.map (·.2)=ns.map V.int∧ns.length<64∧
 ∀(p:Addr)(ms:List Int),H p=none→ms.Perm ns→ms.Pairwise (· ≥ ·)→Q (.ref p) (upd H p (.lst (ms.map V.int)))
theorem ju(hc:X.calm=true):r_ X (.builtin "sorted") [Str.ofString "reverse"] vK:=by
 intro CZ s σ H xs zs us ws Q I rx rz h;obtain⟨v,d,kvs,ns,rfl,rfl,hv,hd,hns,h64,q⟩:=h;obtain⟨u,rfl,ru⟩:=Wx rx;cases ru;obtain⟨u,rfl,ru⟩:=Wx rz;cases ru;obtain⟨_,lo,es,kv,hD⟩:=Px I.hok hd;obtain⟨view,_⟩:=(show ObjOk X.prog X.w H s.heap v (cM v d)from I.hok v _ hv);obtain⟨ep,hat⟩:=hD.dictAt;have hI:IntsAre (es.map (·.2)) ns:=Pl (by rw[←hns];exact Qe kv);have hl:es.length=ns.length:=by
  have e1:=hI.length;rw[ae]at e1;exact e1
 have hh:X.A.in1.handled=none:=by simpa using I.ok.hd hc
 show wpAny _ _ (call (.builtin "sorted") [.ref v] [(Str.ofString "reverse",.bool true)]) _ _ _;refine call_function_entry_kw kind_sorted plain_sorted entry_sorted (args_sorted_rev _ _) ?_;unfold Builtin.«sorted»;refine aa (m:=checkCount "sorted" 1 1 _) (aq ?_);refine aa (Rr (A:=X.A.in1) (W.kdl_values (knd:=ai X.prog X.w) (r:=v) (kvs:=es) (ep:=ep)) hh ⟨view,hat⟩ (Zd (by omega)) fun h' tk Db hk hsz hacc=>?_);have ea:Db.toList=es.map (·.2):=W.kdl_vals_eq Db.toList (by rw[Ax];exact hacc.1) fun j u e=>hacc.2 j u (by rw[←A6];exact e);rw[ea];have De:(es.map (·.2)).length<64:=by rw[ae];omega
 refine aa (wpAny_newList ?_ (by exact Zd (by omega)));have hoL:(h'.push (seqObj "list" (es.map (·.2)).toArray 0)).get? h'.objs.size=some (seqObj "list" (es.map (·.2)).toArray 0):=pi _ rfl;refine aa (AS (wpAny_call_entry_kw slot_list_sort ⟨_,hoL,rfl⟩ entry_list_sort (list_sort_tree_rev hoL hI De fun out ns' a1 a2 a3=>⟨_,rfl,?_⟩) (args_list_sort_rev _ _)));refine aq ⟨_,rfl,?_⟩;obtain⟨e2,he2⟩:=sortedHeap_at (vs:=es.map (·.2)) (out:=out) hoL;have hz:s.heap.objs.size≤h'.objs.size:=BB hsz;refine⟨.ref h'.objs.size,_,I.laid (t':=tk) (o:=.lst (ns'.map V.int)) (fun b o e=>?_) hz ?_,rfl,q _ ns' (I.hok.fresh hz) a2 a3⟩
 ·have e':=hk b o e;have C5:=az e';rw[sortedHeap_old (Ac C5) (by rw[size_push'];exact BD C5)];exact af _ e'
 ·refine⟨?_,out.toList,e2,Uo a1,by simpa using he2⟩;rw[ae,a2.length_eq];exact Zd (by omega)
inductive PairsAt(H:Hp):List V→List (Key×V)→Prop
 |nil:PairsAt H [] []
 |cons {a:Addr} {xs:List V} {k:Key} {v:V} {kvs:List (Key×V)} (h:H a=some (.tup [kV k,v])) (r:PairsAt H xs kvs):PairsAt H (.ref a::xs) ((k,v)::kvs)
theorem PairsAt.mono{H H':Hp}(g:Same H H'):∀{xs:List V}{kvs:List (Key×V)},PairsAt H xs kvs→PairsAt H' xs kvs
 |_,_,.nil=>.nil
 |_,_,.cons h r=>.cons (g _ _ h) (r.mono g)
theorem PairsAt.length{H:Hp}:∀{xs:List V}{kvs:List (Key×V)},PairsAt H xs kvs→xs.length=kvs.length
 |_,_,.nil=>rfl
 |_,_,.cons _ r=>Bm (·+1) r.length
theorem PairsAt.append{H:Hp}:∀{xs ys:List V}{ks ls:List (Key×V)},PairsAt H xs ks→PairsAt H ys ls→PairsAt H (xs++ys) (ks++ls)
 |_,_,_,_,.nil,s=>s
 |_,_,_,_,.cons h r,s=>.cons h (r.append s)
theorem lg{P:Program}{w:World}{k:Key}{u:Value}(h:(ai P w).is k u=true):RelV (kV k) u:=by
 rcases Yh (show e_ k u=true from h) with⟨i,t,rfl,rfl⟩|⟨x,t,rfl,rfl⟩
 ·exact⟨t,rfl⟩
 ·exact⟨t,rfl⟩
def over(H:Hp)(n:Nat)(L:Hp):Hp:=fun b=>if b<n then H b else L b
theorem Qz{H L:Hp}{n:Nat}{b:Addr}(h:b<n):over H n L b=H b:=Ah h
theorem P0{H L:Hp}{n:Nat}{b:Addr}(h:n≤b):over H n L b=L b:=Aj (Nat.not_lt.mpr h)
theorem Inv.over{L:Hp}{g:Heap}{t':Nat}(I:Inv X CZ σ H s)(k:∀b u,s.heap.get? b=some u→g.get? b=some u)(new:∀b o,s.heap.objs.size≤b→L b=some o→ObjOk X.prog X.w (over H s.heap.objs.size L) g b o):
  Inv X CZ σ (L2.over H s.heap.objs.size L) {s with heap:=g,toks:=t'}∧Same H (L2.over H s.heap.objs.size L):=by
 have old:∀b o,H b=some o→L2.over H s.heap.objs.size L b=some o:=fun b o e=>by rw[Qz (I.hok b o e).lt];exact e
 have fre:∀b u,s.heap.get? b=some u→H b=none→L2.over H s.heap.objs.size L b=none:=fun b u e n=>by rw[Qz (az e)];exact n
 refine⟨I.un ⟨fun b u e _ _ _=>k b u e,fun b u e _ _ _=>⟨u.slots,k b u e⟩,fun b u e n _=>fre b u e n,fun b u e _=>⟨u,k b u e⟩,fun b xs e=>old b _ e,fun b o u e=>old b _ e,fun b ps e=>⟨#[],by rw[old b _ e];simp⟩⟩ ?_,old⟩;intro b o e;by_cases hb:b<s.heap.objs.size
 ·rw[Qz hb]at e;exact(I.hok b o e).stay (fun c u _ q=>k c u q) (fun c q=>old c _ q) fun c xs q=>old c _ q
 ·have hb:=Nat.not_lt.mp hb;rw[P0 hb]at e;exact new b o hb e
theorem Q9{β:Type}:∀{as:List Addr}{ps:List β}{j:Nat}{a:Addr}{p:β},as.Pairwise (·<·)→as[j]?=some a→ps[j]?=some p→(as.zip ps).lookup a=some p
 | [],_,_,_,_,_,e,_=>by simp at e
 |_::_,[],_,_,_,_,_,e=>by simp at e
 |b::as,q::ps,0,a,p,_,e1,e2=>by
  simp at e1 e2;subst e1 e2;simp[List.lookup]
 |b::as,q::ps,j+1,a,p,hs,e1,e2=>by
  have e1':as[j]?=some a:=by simpa using e1
  have C5:b<a:=(Aq.mp hs).1 a (Ai e1');have hne:(a==b)=false:=Ce.mpr (AF C5);rw[List.zip_cons_cons,BN,hne];exact Q9 (List.pairwise_cons.mp hs).2 e1' (by simpa using e2)
theorem Pd{β:Type}:∀{as:List Addr}{ps:List β}{a:Addr}{p:β},(as.zip ps).lookup a=some p→∃j:Nat,as[j]?=some a∧ps[j]?=some p
 | [],_,_,_,e=>by simp at e
 |_::_,[],_,_,e=>by simp at e
 |b::as,q::ps,a,p,e=>by
  rw[List.zip_cons_cons,BN]at e;by_cases h:(a==b)=true
  ·rw[h]at e;cases e;exact⟨0,by simp[beq_iff_eq.mp h],rfl⟩
  ·rw[AO.mpr h]at e;obtain⟨j,h1,h2⟩:=Pd e;exact⟨j+1,by simpa using h1,by simpa using h2⟩
theorem KV.get:∀{kvs:List (Key×V)}{ws:List (Key×Value)}{j:Nat}{p:Key×V}{q:Key×Value},KV kvs ws→kvs[j]?=some p→ws[j]?=some q→p.1=q.1∧RelV p.2 q.2
 |_,_,_,_,_,.nil,e,_=>by simp at e
 |_,_,0,_,_,.cons h _,e1,e2=>by
  simp at e1 e2;subst e1 e2;exact h
 |_,_,j+1,_,_,.cons _ r,e1,e2=>KV.get (j:=j) r (by simpa using e1) (by simpa using e2)
theorem Ou:∀as:List Addr,Vals (as.map V.ref) (as.map Value.ref)
 | []=>.nil
 |_::as=>.cons rfl (Ou as)
theorem Inv.thaw{d:Addr}{o:Obj}{kvs:List (Key×V)}(nf:∀o u,X.H₀ d≠some (.frz o u))(I:Inv X CZ σ H s)(h:H d=some (.frz o (.dK kvs))):Inv X CZ σ (upd H d (.dK kvs)) s:=by
 have nd:∀b,H b=none→upd H d (.dK kvs) b=none:=fun b e=>by rw[Za (Ne.symm (Zf h e))];exact e
 have ot:∀b u,H b=some u→u≠.frz o (.dK kvs)→upd H d (.dK kvs) b=some u:=fun b u e n=>by rw[Za (tf e h n)];exact e
 refine⟨I.ok,I.os,I.bare,⟨I.base.keep,I.base.slot,fun b ob q n hx=>nd b (I.base.free b ob q n hx),I.base.there,fun b xs e=>ot b _ (I.base.tups b xs e) (by intro z;cases z),fun b ob u e=>?_,fun b ps e=>?_⟩,I.loc,I.cell,nd _ I.free,fun x c e=>nd c (I.freeC x c e),fun p hp=>?_,fun b u e=>?_,I.len⟩
 ·have hb:b≠d:=fun z=>nf ob u (by rw[←z];exact e);rw[Za hb];exact I.base.frzs b ob u e
 ·obtain⟨m,q⟩:=I.base.tbls b ps e;exact⟨m,ot b _ q (by intro z;cases z)⟩
 ·obtain⟨h1,h2,h3⟩:=I.pin p hp;exact⟨h1,nd _ h2,h3⟩
 ·by_cases hb:b=d
  ·subst hb;rw[Z5]at e;cases e;exact(I.hok b _ h).2
  ·rw[Za hb]at e;exact(I.hok b u e).stay (fun _ _ _ q=>q) (fun c q=>ot c _ q (by intro z;cases z)) fun c xs q=>ot c _ q (by intro z;cases z)
theorem Inv.freeze{d:Addr}{kvs:List (Key×V)}(I:Inv X CZ σ H s)(h:H d=some (.dK kvs)):∃o,Inv X CZ σ (upd H d (.frz o (.dK kvs))) s∧∀o u,X.H₀ d≠some (.frz o u):=by
 obtain⟨z,lo,vs,kv,o,es,ep,ho,r⟩:=(show ObjOk X.prog X.w H s.heap d (.dK kvs)from I.hok d _ h);refine⟨o,I.write (x:=d) (e:=d) (t':=s.toks) (h':=s.heap) (by rw[h];exact trivial) (.inl rfl) (fun _ _ _ q=>q) ⟨o,ho⟩ ⟨ho,z,lo,vs,kv,o,es,ep,ho,r⟩,fun o' u e=>?_⟩;have q:=I.base.frzs d o' u e;rw[h]at q;cases q
def tFrz(t:TE):TE:=fun σ H Q=>∃(d:Addr)(kvs:List (Key×V)),H d=some (.dK kvs)∧∀o,t σ (upd H d (.frz o (.dK kvs))) fun v H2=>H2 d=some (.frz o (.dK kvs))∧Q v (upd H2 d (.dK kvs))
theorem ya{e:Expr}{t:TE}(h:PE X e t):PE X e (tFrz t):=by
 intro CZ s σ H Q I hw;obtain⟨d,kvs,hd,q⟩:=hw;obtain⟨o,I1,nf⟩:=I.freeze hd;exact thn (h CZ s σ _ _ I1 (q o)) fun v s1 ⟨x,H1,I2,r,hd2,q2⟩=>⟨x,_,I2.thaw nf hd2,r,q2⟩
end
def zX(i j:Int):Prop:=0<j∧j<1000000000000000000000000000000000000000000000000000000000000
theorem pS{X:Cx}:OpR X (binaryOp .FloorDiv) (rI zX fun i j=>.int (i / j)):=opI fun i j _ _ _ _ _ hc q=>by
 have h1:(0:Int)<j:=hc.1;have h2:j<1000000000000000000000000000000000000000000000000000000000000:=hc.2;refine floordiv_int (by omega) (by rw[Int.fdiv_eq_ediv_of_nonneg i (by omega)];exact q) (.inl (PyProof.noPylong_of_log2 ?_));have hn:j.natAbs≠0:=by omega
 have hl:j.natAbs<2^400:=Av (show j.natAbs<1000000000000000000000000000000000000000000000000000000000000 by omega) (by decide +kernel);exact Bl ((Nat.log2_lt hn).mpr hl) (by decide)
def leS(a b:Str):Bool:=!decide (b.cps.toList<a.cps.toList)
theorem nW(a b:Str):(leS a b || leS b a)=true:=by
 unfold leS;by_cases h:b.cps.toList<a.cps.toList
 ·have h2:¬a.cps.toList<b.cps.toList:=fun q=>List.lt_irrefl _ (List.lt_trans h q);simp[h2]
 ·simp[h]
theorem N7(a b c:Str)(h1:leS a b=true)(h2:leS b c=true):leS a c=true:=by
 unfold leS at *;simp only[Bool.not_eq_true',decide_eq_false_iff_not]at *;exact fun q=>(List.not_lt.mp h1:a.cps.toList≤b.cps.toList) |> fun x=>(List.le_trans x (List.not_lt.mp h2)) q
theorem Pj{a b:Str}(h1:leS a b=true)(h2:leS b a=true):a=b:=by
 unfold leS at *;simp only[Bool.not_eq_true',decide_eq_false_iff_not]at *;have e:a.cps.toList=b.cps.toList:=List.le_antisymm (List.not_lt.mp h1) (List.not_lt.mp h2);obtain⟨⟨x⟩⟩:=a;obtain⟨⟨y⟩⟩:=b;simp at e;rw[e]
def bN(zs:List Str):List Str:=zs.mergeSort leS
theorem Zx(zs:List Str):(bN zs).Perm zs:=List.mergeSort_perm _ _
theorem gx(zs:List Str):(bN zs).Pairwise (fun a b=>leS a b=true):=List.pairwise_mergeSort N7 nW zs
theorem Qr:∀{l m:List Str},l.Perm m→l.Pairwise (fun a b=>leS a b=true)→m.Pairwise (fun a b=>leS a b=true)→l=m
 | [],m,p,_,_=>List.Perm.nil_eq p
 |a::l,[],p,_,_=>absurd p.length_eq (by simp)
 |a::l,b::m,p,h1,h2=>by
  have e:a=b:=by
   rcases Ae.mp (p.mem_iff.mp Au)with q | q
   ·exact q
   ·rcases Ae.mp (p.mem_iff.mpr Au)with r | r
    ·exact r.symm
    ·exact Pj ((Aq.mp h1).1 b r) ((Aq.mp h2).1 a q)
  subst e;rw[Qr ((List.perm_cons a).mp p) (Aq.mp h1).2 (Aq.mp h2).2]
theorem Qq:∀(p:Str)(l:List Str),risingS p l=true→(p::l).Pairwise (fun a b=>leS a b=true)
 |p,[],_=>Ci _ _
 |p,x::r,h=>by
  have h:(!ltCps x.cps.toList p.cps.toList && risingS x r)=true:=h;rw[AX]at h;have ih:=Qq x r h.2;have e:leS p x=true:=by
   unfold leS;rw[←ltCps_eq];exact h.1
  refine Aq.mpr ⟨fun y hy=>?_,ih⟩
  rcases Ae.mp hy with rfl | hy
  ·exact e
  ·exact N7 p x y e ((Aq.mp ih).1 y hy)
theorem j8:∀{l:List Str},sortedS l=true→l.Pairwise (fun a b=>leS a b=true)
 | [],_=>List.Pairwise.nil
 |x::r,h=>Qq x r h
theorem mG{l zs:List Str}(p:l.Perm zs)(h:sortedS l=true):l=bN zs:=Qr (p.trans (Zx zs).symm) (j8 h) (gx zs)
section
variable{X:Cx}
theorem Sw:∀{us:List Value}{zs:List Str},StrsAre us zs→Vals (zs.map V.str) us
 |_,_,.nil=>.nil
 |_,_,.cons x t r=>.cons ⟨t,rfl⟩ (Sw r)
def x4:List V→Hp→VK→Prop:=fun xs H Q=>∃(d:Addr)(kvs:List (Key×V))(zs:List Str),xs=[.ref d]∧H d=some (.dK kvs)∧kvs.map (·.1)=zs.map Sum.inr∧zs.length<64∧∀p,H p=none→Q (.ref p) (upd H p (.lst ((bN zs).map V.str)))
theorem N8{P:Program}{w:World}:∀{us:List Value}{ws:List (Key×Value)}{zs:List Str},us.length=ws.length→(∀(j:Nat)(u:Value),us[j]?=some u→∃k x,ws[j]?=some (k,x)∧(ai P w).is k u=true)→ws.map (·.1)=zs.map Sum.inr→StrsAre us zs
 | [],[],[],_,_,_=>.nil
 | [],[],_::_,_,_,e=>by simp at e
 | [],_::_,_,e,_,_=>by simp at e
 |_::_,[],_,e,_,_=>by simp at e
 |_::_,_::_,[],_,_,e=>by simp at e
 |u::us,(k,x)::ws,z::zs,hl,h,e=>by
  rw[AA,AA]at e;injection e with e1 e2
  obtain⟨k',x',q,hk⟩:=h 0 u rfl;have q:(k,x)=(k',x'):=by simpa using q
  cases q;have e1:k=Sum.inr z:=e1;subst e1;obtain⟨t,rfl⟩:=lg hk;exact .cons z t (N8 (by simpa using hl) (fun j v hv=>by simpa using h (j+1) v (by simpa using hv)) e2)
theorem O0(hc:X.calm=true):bu X (.builtin "sorted") x4:=by
 intro CZ s σ H xs us Q I rx h;obtain⟨d,kvs,zs,rfl,hd,hzs,h64,q⟩:=h;obtain⟨u,rfl,ru⟩:=Wx rx;cases ru;obtain⟨_,lo,es,kv,hD⟩:=Px I.hok hd;obtain⟨ep,hat⟩:=hD.dictAt;have kk:es.map (·.1)=zs.map Sum.inr:=by rw[←hzs,KV.keys kv]
 have hl:es.length=zs.length:=by
  have e:=Bm List.length kk;rw[ae,ae]at e;exact e
 have hh:X.A.in1.handled=none:=by simpa using I.ok.hd hc
 refine Calls.call_function_entry kind_sorted plain_sorted entry_sorted (args_sorted1 _) ?_;unfold Builtin.«sorted»;refine aa (m:=checkCount "sorted" 1 1 _) (aq ?_);refine aa (Rr (A:=X.A.in1) (W.kdl_dict (knd:=ai X.prog X.w) (kvs:=es) (ep:=ep) lo) hh hat (Zd (by omega)) fun g tk Db hk hsz hacc=>?_);have al:Db.toList.length=es.length:=by rw[Ax];exact hacc.1
 have hS:StrsAre Db.toList zs:=N8 (P:=X.prog) (w:=X.w) al (fun j u e=>hacc.2 j u (by rw[←A6];exact e)) kk;refine aa (wpAny_newList ?_ (by exact Zd (by omega)));have hoL:(g.push (seqObj "list" Db.toList.toArray 0)).get? g.objs.size=some (seqObj "list" Db.toList.toArray 0):=pi _ rfl;refine aa (AS (AY slot_list_sort ⟨_,hoL,rfl⟩ entry_list_sort (list_sort_treeK strKind_oneLt hoL hS.keysOf (fun v1 v2 rest e=>keyKind_strs (by rw[←e];exact hS)) (by omega) fun Dc b1 b2=>⟨_,rfl,?_⟩) (args_list_sort _)));refine aq ⟨_,rfl,?_⟩;obtain⟨ss,a1,a2,a3⟩:=sorted_out_str hS b1 b2;have ess:=mG a2 a3;subst ess;obtain⟨e2,he2⟩:=sortedHeap_at (vs:=Db.toList) (out:=(arrOf Dc).map (·.2)) hoL;have hz:s.heap.objs.size≤g.objs.size:=BB hsz;refine⟨.ref g.objs.size,_,I.laid (t':=tk) (o:=.lst ((bN zs).map V.str)) (fun b o e=>?_) hz ?_,rfl,q _ (I.hok.fresh hz)⟩
 ·have e':=hk b o e;have C5:=az e';rw[sortedHeap_old (Ac C5) (by rw[size_push'];exact BD C5)];exact af _ e'
 ·refine⟨?_,((arrOf Dc).map (·.2)).toList,e2,Sw a1,by rw[Array.toArray_toList];exact he2⟩;rw[ae,(Zx zs).length_eq];exact Zd (by omega)
end
def kJ(ns:List Int):List Int:=ns.mergeSort fun a b=>decide (a≤b)
theorem Wq(ns:List Int):(kJ ns).Perm ns:=List.mergeSort_perm _ _
theorem lM(ns:List Int):(kJ ns).Pairwise (·≤·):=by
 have h:=List.pairwise_mergeSort (le:=fun a b:Int=>decide (a≤b)) (by intro a b c h1 h2;simp at *;omega) (by intro a b;simp;omega) ns;exact h.imp fun h=>by simpa using h
theorem iX:∀{l m:List Int},l.Perm m→l.Pairwise (·≤·)→m.Pairwise (·≤·)→l=m
 | [],m,p,_,_=>List.Perm.nil_eq p
 |a::l,[],p,_,_=>absurd p.length_eq (by simp)
 |a::l,b::m,p,h1,h2=>by
  have e:a=b:=by
   rcases Ae.mp (p.mem_iff.mp Au)with q | q
   ·exact q
   ·rcases Ae.mp (p.mem_iff.mpr Au)with r | r
    ·exact r.symm
    ·have:=(Aq.mp h1).1 b r;have:=(Aq.mp h2).1 a q;omega
  subst e;rw[iX ((List.perm_cons a).mp p) (Aq.mp h1).2 (Aq.mp h2).2]
theorem uP{l ns:List Int}(p:l.Perm ns)(h:l.Pairwise (·≤·)):l=kJ ns:=iX (p.trans (Wq ns).symm) h (lM ns)
section
variable{X:Cx}
end
theorem Ob:typeLookup (.type "tuple") "keys"=pure none:=am_miss_of_fast (by decide +kernel)
theorem Rp:entryFor table "dict.update.loop"=some Builtin.«dict.update.loop»:=entryFor_of_tree (by kernel_rfl)
theorem Va:plainId "dict.update.loop"=true:=by decide +kernel
theorem zv{a:Addr}{xs:Array Value}{k:Nat}{sl:Array (Option Value)}{Q:Option Value→Shared→Prop}(hx:s.heap.get? a=some {cls:=.type "tuple",dict:=none,data:=.seq xs k,slots:=sl})(hA:A.handled=none)(h:∀g tk,(∀b o,s.heap.get? b=some o→g.get? b=some o)→Q none {s with heap:=g,toks:=tk}):wpAny (model prog w) A (getAttr? (.ref a) "keys") Q E s:=by
 obtain⟨hp,g,d,tk,os⟩:=s;have hT:∀tk',(⟨hp,g,d,tk',os⟩:Shared).TypeIs (.ref a) "tuple":=fun _=>⟨_,hx,rfl⟩;have f1:=sub_AttributeError;have f3:=F.slot_tuple_getattribute.lookup;have f4:=F.slot_tuple_getattribute.bind (.ref a);have f5:=am_tuple_getattr_none;unfold getAttr? getAttrBy? getAttrBy
 repeat (any_goals (first | assumption | exact hT _ | ((with_reducible show wpAny _ _ (call (Value.builtin "tuple.__getattribute__") _ _) _ _ _);refine call_meets F.slot_tuple_getattribute (hT _) am_entry_tuple_getattribute (F.args_tuple_getattribute_2 _ _) (meets_getattribute_miss_tuple a xs k sl "keys" _ Ob (by decide +kernel) (by decide +kernel)) ⟨hx,by simpa using hA,fun h' tk' e hx'=>?_⟩) | wp_step))
 obtain⟨t',u',he⟩:=hx'.there;show wpAny _ _ (getattributeRaised _ _ _ _ _ _ _) _ _ _;unfold getattributeRaised
 repeat (any_goals (first | assumption | wp_step))
 exact h _ _ hx'.keeps
def qo{κ:Type}[DecidableEq κ](knd:PySem.KeyKind prog w κ)(h:Heap)(p:κ×Value)(v:Value)(no:List Addr):Prop:=
 ∃a o key n,v=.ref a∧a∉no∧h.get? a=some o∧o.cls=.type "tuple"∧o.data=.seq #[key,p.2] n∧knd.is p.1 key=true
theorem pA{κ:Type}[DecidableEq κ]{knd:PySem.KeyKind prog w κ}{R:Result→Shared→Prop}{I:Addr}{fp wr:List Addr}{n:Nat}{P:Nat→Value→Prop}{St:Nat→Heap→Prop}(W:Walks prog w A.in1 I fp wr n P St)(D:Addr)(hD:D∉fp)(ps:List (κ×Value))(hpn:ps.length=n)(its:List Value)(hP:∀i v,P i v→its[i]?=some v)(hb:n≤100000):
  ∀(k i:Nat)(s:Shared),n-i=k→i≤n→St i s.heap→s.heap.DictOf knd D (merged [] (ps.take i))→(∀(j:Nat) p v,ps[j]?=some p→its[j]?=some v→qo knd s.heap p v (D::wr))→
   (∀g tk,(∀b o,b∉D::wr→s.heap.get? b=some o→g.get? b=some o)→g.DictOf knd D (merged [] ps)→R (.ok (.ret .none)) {s with heap:=g,toks:=tk})→
   codeAny (model prog w) A (.builtin "dict.update.loop" ⟨[.ref D,.ref I,rawInt i,.none],[]⟩) R s:=by
 have hDw:D∉wr:=fun q=>hD (W.sub _ q);intro k
 induction k with
 |zero=>
  intro i s hk hi st so tp fin;obtain rfl:i=n:=by omega
  refine Bj Rp ?_;rw[A4 Va _];refine aa (m:=pyNext (.ref I)) (W.done s _ _ st fun h' tk kp=>?_);rw[←hpn,At]at so;refine aa (m:=Builtin.Dict.addKeywords D []) (aq (aq (fin h' tk (fun b o nb e=>kp b o (fun q=>nb (Az _ q)) e) ?_)));obtain⟨o,es,ep,ho,r⟩:=so;exact⟨o,es,ep,kp D o hDw ho,r⟩
 |succ k ih=>
  intro i s hk hi st so tp fin;have C5:i<n:=by omega
  refine Bj Rp ?_;rw[A4 Va _];refine aa (m:=pyNext (.ref I)) (W.item i s _ _ C5 st fun v h1 tk1 pv st1 kp1=>?_);have hv:=hP i v pv;obtain⟨p,hp⟩:∃p,ps[i]?=some p:=⟨ps[i],Ak (by omega)⟩;obtain⟨a,o,key,m,rfl,na,ha,hc,hd,hkey⟩:=tp i p v hp hv;have ha1:h1.get? a=some o:=kp1 a o (fun q=>na (Az _ q)) ha;have so1:h1.DictOf knd D (merged [] (ps.take i)):=by
   obtain⟨o,es,ep,ho,r⟩:=so;exact⟨o,es,ep,kp1 D o hDw ho,r⟩
  refine aa (AS (aa (wpAny_tryCatch ?_)));unfold Builtin.Dict.pairItems;refine aa (Cn (T:="tuple") ⟨o,ha1,hc⟩ ?_);rw[Ah (by decide)];refine aa (m:=seqItems? (.ref a)) ?_;unfold seqItems?;refine aa (CU ha1 ?_);rw[hd];refine aq (aq ?_);show wpAny _ _ (holding [key,p.2] (dictSet D key p.2)) _ _ _;have eb:=merged_length_le ([]:List (κ×Value)) (ps.take i);rw[Am]at eb;refine AS (wpAny_dictSet_pairs (s:={s with heap:=h1,toks:=tk1}) hkey so1 (fun g so2 sb=>?_) (by
   have:(100000:Nat)≤sizeLine:=by decide
   simp at eb;omega))
  have so3:g.DictOf knd D (merged [] (ps.take (i+1))):=by rw[merged_take_succ _ _ _ _ hp];exact so2
  refine aq ⟨BV Va _,ih (i+1) _ (by omega) C5 (W.frame _ _ _ st1 fun b hb o e=>(sb.2 b fun q=>hD (by rw[←q];exact hb)).trans e) so3 (fun j p v h1' h2'=>?_) fun g' tk kp so'=>fin g' tk (fun b o nb e=>kp b o nb ?_) so'⟩
  ·obtain⟨a,o,key,m,rfl,na,ha,hc,hd,hkey⟩:=tp j p v h1' h2';exact⟨a,o,key,m,rfl,na,(sb.2 a fun q=>na (by rw[q];exact Au)).trans (kp1 a o (fun q=>na (Az _ q)) ha),hc,hd,hkey⟩
  ·exact(sb.2 b fun q=>nb (by rw[q];exact Au)).trans (kp1 b o (fun q=>nb (Az _ q)) e)
theorem Re{κ:Type}[DecidableEq κ]{knd:PySem.KeyKind prog w κ}{l:Addr}{its:List Value}{k:Nat}{sl:Array (Option Value)}{ps:List (κ×Value)}{Q:Value→Shared→Prop}(hh:A.handled=none)(hl:s.heap.get? l=some {cls:=.type "tuple",dict:=none,data:=.seq its.toArray k,slots:=sl})(De:its.length=ps.length)(hb:ps.length≤100000)(hp:∀(j:Nat) p v,ps[j]?=some p→its[j]?=some v→qo knd s.heap p v [])(h:∀g tk,(∀b o,s.heap.get? b=some o→g.get? b=some o)→g.DictOf knd s.heap.objs.size (merged [] ps)→Q (.ref s.heap.objs.size) {s with heap:=g,toks:=tk}):wpAny (model prog w) A (call (.type "dict") [.ref l]) Q E s:=by
 refine callType_codes (Q₁:=fun obj s₁=>obj=.ref s.heap.objs.size∧s₁={s with heap:=s.heap.push {cls:=.type "dict",data:=.dict #[]}}) F.kt_called_dict (F.kt_typeCall_dict_1 _) F.entry_dict_init (kt_code_dict_new _ ⟨rfl,rfl⟩) ?_;rintro obj s₁ ⟨rfl,rfl⟩;have hnew:(s.heap.push {cls:=.type "dict",data:=.dict #[]}).DictOf knd s.heap.objs.size []:=Heap.DictOf.new s.heap;have hl1:(s.heap.push {cls:=.type "dict",data:=.dict #[]}).get? l=some {cls:=.type "tuple",dict:=none,data:=.seq its.toArray k,slots:=sl}:=af _ hl;refine⟨hnew.typeIs,F.args_dict_init_2 _ _,?_⟩;unfold Builtin.«dict.__init__»;refine aa ?_;unfold Builtin.Dict.selfAndRest;refine aa (wpAny_notOrdered_dict hnew.typeIs ?_);refine aq (a:=(s.heap.objs.size,[Value.ref l])) ?_;show wpAny _ _ (Builtin.Dict.updateFrom "dict.__init__" s.heap.objs.size (.ref l) [] .none) _ _ _;unfold Builtin.Dict.updateFrom;refine aa (Cn (T:="tuple") ⟨_,hl1,rfl⟩ ?_);rw[Ah (by decide)];refine wpAny_bind (zv hl1 (by simpa using hh) fun g tk kp=>?_);rw[Ah (by rfl)];refine aa (CO ?_);have ltD:s.heap.objs.size<g.objs.size:=by
  obtain⟨o,es,ep,ho,_⟩:=hnew;exact az (kp _ _ ho)
 have ltl:l<s.heap.objs.size:=az hl;have hl2:g.IsTuple l its.toArray:=⟨_,kp _ _ hl1,rfl,k,rfl⟩;refine aa (wpAny_pyIter_tuple hl2 (aq ⟨BV Va _,?_⟩));have hne:l≠g.objs.size:=Ac (Bl ltl ltD);have hh2:A.in1.in1.handled=none:=by simpa using hh
 have nin:s.heap.objs.size∉[g.objs.size,l]:=by
  simp only[List.mem_cons,List.not_mem_nil,or_false,not_or];exact⟨Ac ltD,AF ltl⟩
 have sz:ps.length=its.toArray.size:=by rw[AG];omega
 refine pA (knd:=knd) (A:=A.in1) (Walks.tuple hh2 g.objs.size l hne its.toArray) s.heap.objs.size nin ps sz its (fun i v e=>by simpa using e) (by omega) its.toArray.size 0 _ (Nat.sub_zero _) (Nat.zero_le _) ?st ?so ?tp ?fin
 case st=>exact⟨⟨_,pi _ rfl,rfl,rfl⟩,hl2.push _⟩
 case so=>
  obtain⟨o,es,ep,ho,r⟩:=hnew;exact⟨o,es,ep,af _ (kp _ _ ho),r⟩
 case tp=>
  intro j p v h1 h2;obtain⟨a,o,key,n,rfl,_,ha,r⟩:=hp j p v h1 h2;have lt:=az ha;refine⟨a,o,key,n,rfl,?_,af _ (kp _ _ (af _ ha)),r⟩;simp only[List.mem_cons,List.not_mem_nil,or_false,not_or];exact⟨Ac lt,Ac (Bl lt ltD)⟩
 case fin=>
  intro g' tk' kp' so';refine⟨rfl,h g' tk' (fun b o e=>kp' b o ?_ (af _ (kp _ _ (af _ e)))) so'⟩;have lt:=az e;simp only[List.mem_cons,List.not_mem_nil,or_false,not_or];exact⟨Ac lt,Ac (Bl lt ltD)⟩
section
variable{X:Cx}{CZ:List (Addr×Obj)}{σ:St}{H:Hp}{s:Shared}
theorem Qx(I:Inv X CZ σ H s):∀{ys:List V}{kvs:List (Key×V)}{us:List Value},PairsAt H ys kvs→Vals ys us→∃ws:List (Key×Value),KV kvs ws∧us.length=ws.length∧∀(j:Nat) p v,ws[j]?=some p→us[j]?=some v→qo (ai X.prog X.w) s.heap p v []
 |_,_,_,.nil,.nil=>⟨[],.nil,rfl,fun j p v e=>by simp at e⟩
 |_,_,_,.cons (a:=a) (k:=k) (v:=v) h r,.cons ru rr=>by
  obtain⟨ws,kv,hl,hp⟩:=Qx I r rr;cases ru;obtain⟨_,its,vs,⟨o,ho,hc,n,hd⟩⟩:=(show ObjOk X.prog X.w H s.heap a (.tup [kV k,v])from I.hok a _ h);cases vs with
  | @cons _ key _ _ r1 q=>
   cases q with
   | @cons _ x _ _ r2 q2=>
    cases q2;refine⟨(k,x)::ws,.cons ⟨rfl,r2⟩ kv,by simp[hl],fun j p u e1 e2=>?_⟩;cases j with
    |zero=>
     simp at e1 e2;subst e1 e2;exact⟨a,o,key,n,rfl,by simp,ho,hc.1,hd,Nb r1⟩
    |succ j=>exact hp j p u (by simpa using e1) (by simpa using e2)
end
abbrev Ps:=List (Str×Int)
def aw(ps:Ps):List (Key×V):=ps.map fun p=>(Sum.inr p.1,V.int p.2)
def ar(ps:Ps):List Int:=ps.map (·.2)
theorem ma(ps:Ps):(aw ps).map (·.2)=(ar ps).map V.int:=by unfold aw ar;rw[AB,AB];rfl
theorem Zs(ps:Ps):(aw ps).length=ps.length:=ae _
theorem Xu(ps:Ps):(ar ps).length=ps.length:=ae _
theorem Xr(ps:Ps):(aw ps).map (·.1)=(ps.map (·.1)).map Sum.inr:=by unfold aw;rw[AB,AB];rfl
theorem Qf:∀{ps:Ps}{i:Nat}{p:Str×Int},(ps.map (·.1)).Nodup→ps[i]?=some p→aF (aw ps) (Sum.inr p.1)=some (.int p.2)
 | [],_,_,_,e=>by simp at e
 |q::ps,0,p,_,e=>by
  have e:q=p:=by simpa using e
  subst e;exact Yw rfl
 |q::ps,i+1,p,h,e=>by
  have e':ps[i]?=some p:=by simpa using e
  have h:=AC.mp h;have ne:¬(Sum.inr q.1:Key)=Sum.inr p.1:=fun z=>h.1 (by show q.1∈_;rw[CV z];exact Ab.mpr ⟨p,Ai e',rfl⟩);exact(Yx ne).trans (Qf h.2 e')
theorem Sk:∀(more Db:List (Key×V)),((Db++more).map (·.1)).Nodup→cZ Db more=Db++more
 | [],Db,_=>by rw[AN];rfl
 | (k,v)::more,Db,h=>by
  have hn:aF Db k=none:=by
   cases e:aF Db k with
   |none=>rfl
   |some u=>
    have hk:=lX e;rw[ca,Bg]at h;exact absurd rfl (h.2.2 k hk k Au)
  show cZ (aZ Db k v) more=_;rw[q5 v hn,Sk more _ (by rw[Bp];exact h),Bp];rfl
theorem U0{kvs:List (Key×V)}(h:(kvs.map (·.1)).Nodup):cZ [] kvs=kvs:=Sk kvs [] h
theorem P7{l:List Str}(h:l.Nodup):(l.map (Sum.inr:Str→Key)).Nodup:=by
 induction l with
 |nil=>exact AQ
 |cons a l ih=>
  rw[AA,AC];refine⟨fun q=>?_,ih (AC.mp h).2⟩;obtain⟨b,hb,e⟩:=Ab.mp q;exact(AC.mp h).1 (CV e ▸ hb)
def pD(p:Str×Int):PyData:=.tuple [.str p.1,.int p.2]
theorem Ow{H:Hp}:∀{ps:Ps}{ys:List V},PairsAt H ys (aw ps)→DVs H ys (ps.map pD)
 | [],_,h=>by cases h;exact .nil
 |p::ps,_,h=>by
  cases h with
  |cons e r=>exact .cons (.tup e (.cons (.str _) (.cons (.int _) .nil))) (Ow r)
theorem xH{ps:Ps}(h:∀p∈ps,PyData.strOk p.1=true):(PyData.list (ps.map pD)).canLay0=true∧(PyData.list (ps.map pD)).depth≤2:=rK (n:=1) ps fun p hp=>by
 refine⟨?_,?_⟩
 ·simp[pD,PyData.canLay0,PyData.canLayAll0,h p hp]
 ·simp[pD,PyData.depth,PyData.depthAll]
structure Ty where
 room:Int
 cs:Ps
 lt:Int
 total:Int
def Ty.D(t:Ty):PyData:=.tuple [.int t.room,.tuple (t.cs.map pD),.int t.lt,.int t.total]
theorem DVs.pairs_inv{H:Hp}:∀{ps:Ps}{ys:List V},DVs H ys (ps.map pD)→PairsAt H ys (aw ps)
 | [],_,h=>by rw[h.nil_inv];exact .nil
 |p::ps,_,h=>by
  obtain⟨x,r,rfl,h1,h2⟩:=DVs.cons_inv h;obtain⟨a,xs,rfl,e,q⟩:=DV.tup_inv h1;obtain⟨_,_,rfl,k1,q⟩:=q.cons_inv;obtain⟨_,_,rfl,k2,q⟩:=q.cons_inv;have:=q.nil_inv;subst this;cases k1;cases k2;exact .cons e (DVs.pairs_inv h2)
theorem DV.ty_inv{H:Hp}{v:V}{t:Ty}(h:DV H v t.D):∃a b rows,v=.ref a∧H a=some (.tup [.int t.room,.ref b,.int t.lt,.int t.total])∧H b=some (.tup rows)∧PairsAt H rows (aw t.cs):=by
 obtain⟨a,xs,rfl,e,q⟩:=DV.tup_inv h;obtain⟨_,_,rfl,k1,q⟩:=q.cons_inv;obtain⟨_,_,rfl,k2,q⟩:=q.cons_inv;obtain⟨_,_,rfl,k3,q⟩:=q.cons_inv;obtain⟨_,_,rfl,k4,q⟩:=q.cons_inv;have:=q.nil_inv;subst this;cases k1;cases k3;cases k4;obtain⟨b,rows,rfl,e2,q2⟩:=DV.tup_inv k2;exact⟨a,b,rows,rfl,e,e2,DVs.pairs_inv q2⟩
theorem Ty.dv{H:Hp}{a b:Addr}{rows:List V}{t:Ty}(e:H a=some (.tup [.int t.room,.ref b,.int t.lt,.int t.total]))(e2:H b=some (.tup rows))(p:PairsAt H rows (aw t.cs)):DV H (.ref a) t.D:=
 .tup e (.cons (.int _) (.cons (.tup e2 (Ow p)) (.cons (.int _) (.cons (.int _) .nil))))
def look(ps:Ps)(z:Str):Int:=match ps with
 | []=>0
 |p::r=>if p.1=z then p.2 else look r z
theorem Yv:∀{ps:Ps}{p:Str×Int},(ps.map (·.1)).Nodup→p∈ps→look ps p.1=p.2
 |q::ps,p,h,hp=>by
  rcases Ae.mp hp with rfl | hp
  ·exact Ah rfl
  ·have h:=AC.mp h;have ne:q.1≠p.1:=fun e=>h.1 (by show q.1∈_;rw[e];exact Ab.mpr ⟨p,hp,rfl⟩);show(if q.1=p.1 then q.2 else look ps p.1)=p.2;rw[Aj ne];exact Yv h.2 hp
theorem jN{ps:Ps}{z:Str}(h:(ps.map (·.1)).Nodup)(hz:z∈ps.map (·.1)):aF (aw ps) (Sum.inr z)=some (.int (look ps z)):=by
 obtain⟨p,hp,rfl⟩:=Ab.mp hz;obtain⟨i,hi⟩:=Br.mp hp;rw[Yv h hp];exact Qf h hi
theorem Sl{ps:Ps}(h:(ps.map (·.1)).Nodup):(ps.map (·.1)).map (fun z=>(z,look ps z))=ps:=by
 rw[AB];have e:∀p∈ps,((fun z=>(z,look ps z))∘fun p:Str×Int=>p.1) p=p:=fun p hp=>by
  show(p.1,look ps p.1)=p;rw[Yv h hp]
 rw[Cf e];exact List.map_id _
theorem Qu{l m:List Int}(p:l.Perm m):l.sum=m.sum:=by
 induction p with
 |nil=>rfl
 |cons x _ ih=>rw[A2,A2,ih]
 |swap x y l=>simp only[List.sum_cons];omega
 |trans _ _ a b=>exact a.trans b
theorem PenAt.tup{H:Hp}{a p:Addr}{xs:List V}(h:PenAt H a)(e:H p=some (.tup xs)):av a H p=some (.tup xs):=by
 have ne:p≠a:=fun q=>by
  subst q;obtain⟨_,_,_,e'⟩:=h;rw[e]at e';cases e'
 rw[Zg ne];exact e
theorem PairsAt.get{H:Hp}:∀{xs:List V}{kvs:List (Key×V)},PairsAt H xs kvs→∀{i:Nat}{x:V},xs[i]?=some x→∃(a:Addr)(k:Key)(v:V),x=.ref a∧kvs[i]?=some (k,v)∧H a=some (.tup [kV k,v])
 |_,_,.nil,i,x,e=>by simp at e
 |_,_,.cons (a:=a) (k:=k) (v:=v) h r,0,x,e=>⟨a,k,v,by simpa using e.symm,rfl,h⟩
 |_,_,.cons h r,i+1,x,e=>by
  obtain⟨a,k,v,e1,e2,e3⟩:=PairsAt.get r (show _ by simpa using e);exact⟨a,k,v,e1,by simpa using e2,e3⟩
theorem PairsAt.getP{H:Hp}{xs:List V}{ps:Ps}(h:PairsAt H xs (aw ps)){i:Nat}{x:V}(e:xs[i]?=some x):∃(a:Addr)(p:Str×Int),x=.ref a∧ps[i]?=some p∧H a=some (.tup [.str p.1,.int p.2]):=by
 obtain⟨a,k,v,e1,e2,e3⟩:=h.get e;unfold aw at e2;rw[Ar]at e2;obtain⟨p,hp,q⟩:=An.mp e2;cases q;exact⟨a,p,e1,hp,e3⟩
theorem Zm:∀{ps:Ps}{z:Str},z∉ps.map (·.1)→look ps z=0
 | [],_,_=>rfl
 |p::ps,z,h=>by
  rw[AA,Ae,not_or]at h;show(if p.1=z then p.2 else look ps z)=0;rw[Aj (Ne.symm h.1)];exact Zm h.2
theorem Sm(ps qs:Ps)(z:Str):look (ps++qs) z=if z∈ps.map (·.1)then look ps z else look qs z:=by
 induction ps with
 |nil=>rfl
 |cons p ps ih=>
  show(if p.1=z then p.2 else look (ps++qs) z)=if z∈(p::ps).map (·.1) then(if p.1=z then p.2 else look ps z)else look qs z
  by_cases e:p.1=z
  ·rw[Ah e,Ah e,Ah (by rw[AA,e];exact Au)]
  ·rw[Aj e,Aj e,ih];by_cases h:z∈ps.map (·.1)
   ·rw[Ah h,Ah (show z∈(p::ps).map (·.1)from Az _ h)]
   ·rw[Aj h,Aj];rw[AA,Ae,not_or];exact⟨Ne.symm e,h⟩
section
variable{X:Cx}
def wE:List V→Hp→VK→Prop:=fun xs H Q=>∃(l:Addr)(ys:List V)(kvs:List (Key×V)),xs=[.ref l]∧H l=some (.tup ys)∧PairsAt H ys kvs∧kvs.length≤1000∧∀p,H p=none→Q (.ref p) (upd H p (.dK (cZ [] kvs)))
theorem U5(hc:X.calm=true):bu X (.type "dict") wE:=by
 intro CZ s σ H xs us Q I rx h;obtain⟨l,ys,kvs,rfl,hq,pa,De,q⟩:=h;obtain⟨u,rfl,ru⟩:=Wx rx;cases ru;obtain⟨_,its,rv,⟨⟨c0,d0,dt0,sl0⟩,ho,hcl,m,hs⟩⟩:=(show ObjOk X.prog X.w H s.heap l (.tup ys)from I.hok l _ hq);simp only at hcl hs;obtain⟨hcl,hdn⟩:=hcl;subst hcl hdn hs;obtain⟨ws,kv,hl,hp⟩:=Qx I pa rv;have kl:=kv.length;refine Re (knd:=ai X.prog X.w) (I.ok.hd hc) ho hl (by omega) hp fun g tk kp hD=>?_;refine⟨.ref s.heap.objs.size,_,I.laid (t':=tk) (o:=.dK (cZ [] kvs)) kp (io _) ?_,rfl,q _ (I.hok.fresh (io _))⟩;have ml:=Tj kvs [];refine⟨Zd (by simp at ml;omega),?_,_,KV.merge kv .nil,hD⟩;exact Ce.mpr (AF I.big)
end
def srt(ns:List Int):List Int:=ns.mergeSort fun a b=>decide (b≤a)
theorem Vh(ns:List Int):(srt ns).Perm ns:=List.mergeSort_perm _ _
theorem gW(ns:List Int):(srt ns).Pairwise (· ≥ ·):=by
 have h:=List.pairwise_mergeSort (le:=fun a b:Int=>decide (b≤a)) (by intro a b c h1 h2;simp at *;omega) (by intro a b;simp;omega) ns;exact h.imp fun h=>by simpa using h
theorem mH:∀{l m:List Int},l.Perm m→l.Pairwise (· ≥ ·)→m.Pairwise (· ≥ ·)→l=m
 | [],m,p,_,_=>(List.Perm.nil_eq p)
 |a::l,[],p,_,_=>absurd p.length_eq (by simp)
 |a::l,b::m,p,h1,h2=>by
  have ha:a∈b::m:=p.mem_iff.mp Au;have hb:b∈a::l:=p.mem_iff.mpr Au;have le1:b ≥ a:=by
   rcases Ae.mp ha with e | e
   ·omega
   ·exact(Aq.mp h2).1 a e
  have le2:a ≥ b:=by
   rcases Ae.mp hb with e | e
   ·omega
   ·exact(Aq.mp h1).1 b e
  have e:a=b:=by omega
  subst e;rw[mH ((List.perm_cons a).mp p) (Aq.mp h1).2 (Aq.mp h2).2]
theorem sX{ms ns:List Int}(p:ms.Perm ns)(h:ms.Pairwise (· ≥ ·)):ms=srt ns:=mH (p.trans (Vh ns).symm) h (gW ns)
theorem nU{ms ns:List Int}(p:ms.Perm ns):srt ms=srt ns:=sX ((Vh ms).trans p) (gW ms)
def dQ(room:Int)(ns:List Int):Int:=if (ns.length:Int)≤room then 0 else(srt ns).getD room.toNat 0
theorem ke{ms ns:List Int}(p:ms.Perm ns)(room:Int):dQ room ms=dQ room ns:=by
 unfold dQ;rw[p.length_eq,nU p]
theorem Po:∀{l:List Int}{i:Nat}{c:Int},l.Pairwise (· ≥ ·)→l[i]?=some c→(l.filter fun x=>decide (c<x)).length≤i
 | [],_,_,_,e=>by simp at e
 |a::l,0,c,h,e=>by
  have e:a=c:=by simpa using e
  subst e;have:∀x∈a::l,¬a<x:=fun x hx=>by
   rcases Ae.mp hx with q | q
   ·omega
   ·have:=(Aq.mp h).1 x q;omega
  rw[List.filter_eq_nil_iff.mpr fun x hx=>by simpa using this x hx];exact io _
 |a::l,i+1,c,h,e=>by
  have ih:=Po (List.pairwise_cons.mp h).2 (show l[i]?=some c by simpa using e);rw[As]
  split
  ·rw[AD];omega
  ·omega
theorem Ng:∀{l:List Int}{i:Nat}{c:Int},l.Pairwise (· ≥ ·)→l[i]?=some c→i<(l.filter fun x=>decide (c≤x)).length
 | [],_,_,_,e=>by simp at e
 |a::l,0,c,h,e=>by
  have e:a=c:=by simpa using e
  subst e;rw[As];simp
 |a::l,i+1,c,h,e=>by
  have e':l[i]?=some c:=by simpa using e
  have ih:=Ng (Aq.mp h).2 e';have:c≤a:=(Aq.mp h).1 c (Ai e');rw[List.filter_cons,if_pos (by simpa using this),List.length_cons];omega
theorem V5(c:Int):∀l:List Int,(l.filter fun x=>decide (c≤x)).length=(l.filter fun x=>decide (c<x)).length+l.count c
 | []=>rfl
 |a::l=>by
  have ih:=V5 c l;rw[As,As,List.count_cons];by_cases h1:c<a
  ·have h2:c≤a:=by omega
   have h3:¬a=c:=by omega
   simp[h1,h2,h3];omega
  ·by_cases h3:a=c
   ·subst h3;simp;omega
   ·have h2:¬c≤a:=by omega
    simp[h1,h2,h3];omega
theorem W8{room:Int}{ns:List Int}(h0:0≤room)(h:room<ns.length):∃c,(srt ns)[room.toNat]?=some c∧dQ room ns=c∧c∈ns∧((ns.filter fun x=>decide (c<x)).length:Int)≤room∧room<(ns.filter fun x=>decide (c<x)).length+ns.count c:=by
 have hl:(srt ns).length=ns.length:=(Vh ns).length_eq;have hi:room.toNat<(srt ns).length:=by omega
 have e:(srt ns)[room.toNat]?=some (srt ns)[room.toNat]:=Ak hi;refine⟨_,e,?_,(Vh ns).mem_iff.mp (List.getElem_mem hi),?_,?_⟩
 ·unfold dQ;rw[Aj (by omega),BE,e];rfl
 ·have q:=Po (gW ns) e;rw[((Vh ns).filter _).length_eq]at q;omega
 ·have q:=Ng (gW ns) e;rw[((Vh ns).filter _).length_eq,V5]at q;omega
def ah(ps qs:Ps):List Str:=ps.map (·.1)++(qs.map (·.1)).filter fun z=>decide (z∉ps.map (·.1))
def au(ps qs:Ps)(z:Str):Int:=look ps z+look qs z
def ay(room:Int)(ps qs:Ps):Int:=dQ room ((ah ps qs).map (au ps qs))
def csM(room:Int)(ps qs:Ps):Ps:=((bN (ah ps qs)).filter fun z=>decide (ay room ps qs<au ps qs z)).map fun z=>(z,au ps qs z-ay room ps qs)
def aA(a b:Ty):Ty:=⟨a.room,csM a.room a.cs b.cs,a.lt+b.lt+ay a.room a.cs b.cs,a.total+b.total⟩
theorem Xy{ps qs:Ps}(h:(ps.map (·.1)).Nodup)(g:(qs.map (·.1)).Nodup):(ah ps qs).Nodup:=by
 refine Bg.mpr ⟨h,g.sublist BJ,fun a ha b hb e=>?_⟩;subst e;exact bb (AH.mp hb).2 ha
theorem Yi{ps qs:Ps}{z:Str}:z∈ah ps qs↔z∈ps.map (·.1)∨z∈qs.map (·.1):=by
 unfold ah;rw[AI,AH];by_cases h:z∈ps.map (·.1)
 ·exact⟨fun _=>.inl h,fun _=>.inl h⟩
 ·refine⟨fun q=>q.elim .inl fun q=>.inr q.1,fun q=>q.elim .inl fun q=>.inr ⟨q,zy h⟩⟩
theorem kF{ps qs:Ps}(h:(ps.map (·.1)).Nodup)(g:(qs.map (·.1)).Nodup):(ah ps qs).Perm (ah qs ps):=
 (BW (Xy h g) (Xy g h)).mpr fun z=>by rw[Yi,Yi];exact Or.comm
theorem Xx{ps:Ps}(h:∀p∈ps,1≤p.2)(z:Str):0≤look ps z:=by
 induction ps with
 |nil=>exact By _
 |cons p ps ih=>
  show 0≤if p.1=z then p.2 else look ps z
  have:=h p Au;have:=ih fun q hq=>h q (Az _ hq)
  split <;> omega
theorem X1{ps:Ps}(h:∀p∈ps,1≤p.2)(nd:(ps.map (·.1)).Nodup){z:Str}(hz:z∈ps.map (·.1)):1≤look ps z:=by
 obtain⟨p,hp,rfl⟩:=Ab.mp hz;rw[Yv nd hp];exact h p hp
theorem Ul(room:Int)(ps qs:Ps):(csM room ps qs).map (·.1)=(bN (ah ps qs)).filter fun z=>decide (ay room ps qs<au ps qs z):=by
 unfold csM;rw[AB];exact List.map_id _
theorem kI{room:Int}{ps qs:Ps}(h:(ps.map (·.1)).Nodup)(g:(qs.map (·.1)).Nodup):((csM room ps qs).map (·.1)).Nodup:=by
 rw[Ul];exact((Zx _).nodup_iff.mpr (Xy h g)).sublist BJ
theorem Ph{room:Int}{ps qs:Ps}(h:(ps.map (·.1)).Nodup)(g:(qs.map (·.1)).Nodup)(c0:0≤ay room ps qs)(z:Str):
  look (csM room ps qs) z=if ay room ps qs<au ps qs z then au ps qs z-ay room ps qs else 0:=by
 by_cases hz:z∈(csM room ps qs).map (·.1)
 ·have e:=hz;rw[Ul]at e;obtain⟨e1,e2⟩:=AH.mp e;rw[Ah (bb e2)];exact Yv (p:=(z,au ps qs z-ay room ps qs)) (kI h g) (Ab.mpr ⟨z,e,rfl⟩)
 ·rw[Zm hz]
  split
  ·rename_i lt;refine absurd ?_ hz;rw[Ul];refine AH.mpr ⟨(Zx _).mem_iff.mpr (Yi.mpr ?_),zy lt⟩;by_cases h1:z∈ps.map (·.1)
   ·exact .inl h1
   ·by_cases h2:z∈qs.map (·.1)
    ·exact .inr h2
    ·have:au ps qs z=0:=by unfold au;rw[Zm h1,Zm h2];rfl
     omega
  ·rfl
theorem m9(c:Int)(hc:0≤c):∀l:List Int,(∀x∈l,0≤x)→c*(l.filter fun x=>decide (c≤x)).length≤l.sum-((l.filter fun x=>decide (c<x)).map fun x=>x-c).sum∧l.sum-((l.filter fun x=>decide (c<x)).map fun x=>x-c).sum≤c*l.length
 | [],_=>by simp
 |a::l,h=>by
  obtain⟨i1,i2⟩:=m9 c hc l fun x hx=>h x (Az _ hx);have ha:=h a Au;rw[As,As,A2,AD];by_cases h1:c<a
  ·have h2:c≤a:=by omega
   simp only[h1,h2,decide_true,if_true,List.length_cons,List.map_cons,List.sum_cons,Int.natCast_add,Int.mul_add,Int.natCast_one,Int.mul_one];omega
  ·by_cases h3:c≤a
   ·simp only[h1,h3,decide_true,decide_false,if_true,List.length_cons,Int.natCast_add,Int.mul_add,Int.natCast_one,Int.mul_one];simp;omega
   ·simp only[h1,h3,decide_false,Int.natCast_add,Int.mul_add,Int.natCast_one,Int.mul_one];simp;omega
theorem mj(f g:Str→Int):∀l:List Str,(l.map fun z=>f z+g z).sum=(l.map f).sum+(l.map g).sum
 | []=>rfl
 |a::l=>by
  rw[AA,AA,AA,A2,A2,A2,mj f g l];omega
theorem jE(f:Str→Int):∀l:List Str,(∀z∈l,f z=0)→(l.map f).sum=0
 | [],_=>rfl
 |a::l,h=>by
  rw[AA,A2,h a Au,jE f l fun z hz=>h z (Az _ hz)];rfl
theorem N9{ps:Ps}(h:(ps.map (·.1)).Nodup):(ps.map (·.1)).map (look ps)=ar ps:=by
 have e:=Bm (List.map Prod.snd) (Sl h);rw[AB]at e;exact e
theorem Pk{ps qs:Ps}(h:(ps.map (·.1)).Nodup):((ah ps qs).map (look ps)).sum=(ar ps).sum:=by
 unfold ah;rw[ca,Bk,N9 h,jE (look ps) _ fun z hz=>Zm (bb (AH.mp hz).2)];omega
theorem Na{ps qs:Ps}(h:(ps.map (·.1)).Nodup)(g:(qs.map (·.1)).Nodup):((ah ps qs).map (au ps qs)).sum=(ar ps).sum+(ar qs).sum:=by
 show((ah ps qs).map fun z=>look ps z+look qs z).sum=_;rw[mj,Pk h,Qu ((kF h g).map (look qs)),Pk g]
theorem Xb(ps qs:Ps):(ah ps qs).length≤ps.length+qs.length:=by
 unfold ah;rw[ba,ae];have:=Ap (fun z=>decide (z∉ps.map (·.1))) (qs.map (·.1));rw[ae]at this;omega
theorem t5{room:Int}{ns:List Int}(h0:0≤room)(h:∀x∈ns,0≤x):0≤dQ room ns:=by
 by_cases q:(ns.length:Int)≤room
 ·unfold dQ;rw[Ah q];exact By _
 ·obtain⟨c,_,e,m,_⟩:=W8 h0 (Int.not_le.mp q);rw[e];exact h c m
theorem Pn(f:Str→Int)(p:Int→Bool):∀l:List Str,((l.map f).filter p).length=(l.filter fun z=>p (f z)).length:=fun l=>by
 rw[List.filter_map,ae];rfl
theorem t9(room:Int)(ps qs:Ps):(ar (csM room ps qs)).sum=((((ah ps qs).map (au ps qs)).filter fun x=>decide (ay room ps qs<x)).map fun x=>x-ay room ps qs).sum:=by
 unfold ar csM;rw[AB,Qu (((Zx (ah ps qs)).filter _).map _),List.filter_map,AB];rfl
def Cx.ren(X:Cx)(N':List Str):Cx:={X with N:=N'}
theorem Cx.Ok.ren{X:Cx}{N':List Str}(o:X.Ok):(X.ren N').Ok:=⟨o.mod,o.kind,o.glob,o.blt,o.above,o.inj,o.has,o.cab,o.hd,o.frames,o.stk,o.exf,o.bs,o.bsz,o.noex,o.exfs,o.funs,o.frf⟩
theorem Cx.Ok.unren{X:Cx}{N':List Str}(o:(X.ren N').Ok):X.Ok:=⟨o.mod,o.kind,o.glob,o.blt,o.above,o.inj,o.has,o.cab,o.hd,o.frames,o.stk,o.exf,o.bs,o.bsz,o.noex,o.exfs,o.funs,o.frf⟩
def Hid:List Str→List Str→St→Prop
 | [],[],[]=>True
 |a::N,b::N',o::σ=>(a=b∨o=none)∧Hid N N' σ
 |_,_,_=>False
theorem Hid.at:∀{N N':List Str}{σ:St},Hid N N' σ→∀i:Nat,N[i]?=N'[i]?∨σ[i]?=some none
 | [],[],[],_,i=>.inl rfl
 |a::N,b::N',o::σ,h,0=>by
  rcases h.1 with q | q
  ·exact .inl (by rw[q];rfl)
  ·exact .inr (by rw[q];rfl)
 |a::N,b::N',o::σ,h,i+1=>by
  simpa using Hid.at (N:=N) (N':=N') (σ:=σ) h.2 i
section
variable{X:Cx}{N':List Str}{CZ:List (Addr×Obj)}{σ:St}{H:Hp}{s:Shared}
theorem Inv.ren(I:Inv X CZ σ H s)(hl:N'.length=X.N.length)(h:Hid X.N N' σ):Inv (X.ren N') CZ σ H s:=by
 refine⟨I.ok.ren,I.os,I.bare,I.base,?_,I.cell,I.free,I.freeC,I.pin,I.hok,I.len.trans hl.symm⟩;obtain⟨m,hn,hm⟩:=I.loc;refine⟨m,hn,fun i x v e1 e2 e3=>hm i x v ?_ e2 e3⟩
 rcases h.at i with q | q
 ·exact q.trans e1
 ·rw[e2]at q;cases q
theorem Inv.unren(I:Inv (X.ren N') CZ σ H s)(hl:N'.length=X.N.length)(h:Hid X.N N' σ):Inv X CZ σ H s:=by
 refine⟨I.ok.unren,I.os,I.bare,I.base,?_,I.cell,I.free,I.freeC,I.pin,I.hok,I.len.trans hl⟩;obtain⟨m,hn,hm⟩:=I.loc;refine⟨m,hn,fun i x v e1 e2 e3=>hm i x v ?_ e2 e3⟩
 rcases h.at i with q | q
 ·exact q.symm.trans e1
 ·rw[e2]at q;cases q
def tRen(N N':List Str)(t:TE):TE:=fun σ H Q=>Hid N N' σ∧t σ H Q
theorem qm{e:Expr}{t:TE}(N':List Str)(h:PE (X.ren N') e t)(hl:N'.length=X.N.length:=by rfl):PE X e (tRen X.N N' t):=by
 intro CZ s σ H Q I q;exact thn (h CZ s σ H Q (I.ren hl q.1) q.2) fun u s1 ⟨x,H1,I1,r1,q1⟩=>⟨x,H1,I1.unren hl q.1,r1,q1⟩
theorem Inv.forget(I:Inv X CZ σ H s)(i:Nat):Inv X CZ (σ.set i none) H s:=by
 refine⟨I.ok,I.os,I.bare,I.base,?_,I.cell,I.free,I.freeC,I.pin,I.hok,by rw[List.length_set];exact I.len⟩;obtain⟨m,hn,hm⟩:=I.loc;refine⟨m,hn,fun j x v e1 e2 e3=>hm j x v e1 ?_ e3⟩;by_cases e:i=j
 ·subst e;rw[List.getElem?_set_self']at e2;cases q:σ[i]? with
  |none=>rw[q]at e2;cases e2
  |some o=>rw[q]at e2;cases e2
 ·rw[List.getElem?_set_ne e]at e2;exact e2
def uw(i:Nat)(t:TS):TS:=fun D σ H=>t D (σ.set i none) H
theorem Tq{ss:List Stmt}{t:TS}(i:Nat)(h:PSs X ss t):PSs X ss (uw i t):=by
 intro CZ s σ H D I q;exact h CZ s _ H D (I.forget i) q
end
theorem vF{kvs:List (Key×V)}{k:Key}(h:∀q∈kvs,q.1≠k):aF kvs k=none:=by
 unfold aF;rw[List.find?_eq_none.mpr fun q hq=>by simpa using h q hq];rfl
def aM(ps qs:Ps):Ps:=(ah ps qs).map fun z=>(z,au ps qs z)
theorem Xq(ps qs:Ps):(aM ps qs).map (·.1)=ah ps qs:=by
 unfold aM;rw[AB];exact List.map_id _
theorem nh(ps qs:Ps):ar (aM ps qs)=(ah ps qs).map (au ps qs):=by
 unfold ar aM;rw[AB];rfl
theorem Sj{ps:Ps}(h:(ps.map (·.1)).Nodup):aM ps []=ps:=by
 have e:ah ps []=ps.map (·.1):=AN _;have e2:(fun z=>(z,au ps [] z))=fun z=>(z,look ps z):=by
  funext z
  show(z,look ps z+0)=_;rw[BF]
 unfold aM;rw[e,e2];exact Sl h
theorem S6{ps qs:Ps}(h:(ps.map (·.1)).Nodup)(g:(qs.map (·.1)).Nodup)(z:Str):((aF (aw (aM ps qs)) (Sum.inr z)).getD (.int 0))=.int (au ps qs z):=by
 by_cases hz:z∈ah ps qs
 ·obtain⟨i,hi⟩:=Br.mp hz;have e:(aM ps qs)[i]?=some (z,au ps qs z):=by unfold aM;rw[Ar,hi];rfl
  rw[Qf (by rw[Xq];exact Xy h g) e];rfl
 ·have e:aF (aw (aM ps qs)) (Sum.inr z)=none:=by
   refine vF fun q hq=>?_;unfold aw at hq;obtain⟨p,hp,rfl⟩:=Ab.mp hq;intro e;have:p.1∈ah ps qs:=by rw[←Xq];exact Ab.mpr ⟨p,hp,rfl⟩
   have e':p.1=z:=CV e;exact hz (e' ▸ this)
  rw[e];have n1:z∉ps.map (·.1):=fun q=>hz (Yi.mpr (.inl q));have n2:z∉qs.map (·.1):=fun q=>hz (Yi.mpr (.inr q));show V.int 0=.int (look ps z+look qs z);rw[Zm n1,Zm n2];rfl
theorem iU{ps qs:Ps}(h:(ps.map (·.1)).Nodup){p:Str×Int}(g:((qs++[p]).map (·.1)).Nodup):aZ (aw (aM ps qs)) (Sum.inr p.1) (.int (au ps qs p.1+p.2))=aw (aM ps (qs++[p])):=by
 rw[ca]at g;have out:p.1∉qs.map (·.1):=fun q=>(Bg.mp g).2.2 _ q _ (Af.mpr rfl) rfl;have lk:∀y,au ps (qs++[p]) y=if p.1=y then au ps qs y+p.2 else au ps qs y:=fun y=>by
  show look ps y+look (qs++[p]) y=if p.1=y then look ps y+look qs y+p.2 else look ps y+look qs y
  rw[Sm];show look ps y+(if y∈qs.map (·.1)then look qs y else if p.1=y then p.2 else 0)=_;by_cases e:p.1=y
  ·subst e;rw[Aj out,Ah rfl,Ah rfl,Zm out];omega
  ·rw[Aj e,Aj e];by_cases m:y∈qs.map (·.1)
   ·rw[Ah m]
   ·rw[Aj m,Zm m]
 have ks:ah ps (qs++[p])=if p.1∈ps.map (·.1)then ah ps qs else ah ps qs++[p.1]:=by
  unfold ah;rw[ca,AJ];by_cases m:p.1∈ps.map (·.1)
  ·rw[Ah m];show _++(_++List.filter _ [p.1])=_;rw[List.filter_cons_of_neg (by simpa using m),List.filter_nil,List.append_nil]
  ·rw[Aj m];show _++(_++List.filter _ [p.1])=_;rw[List.filter_cons_of_pos (by simpa using m),List.filter_nil,List.append_assoc]
 unfold aZ aM aw;rw[ks];by_cases m:p.1∈ps.map (·.1)
 ·rw[Ah m,Ah ?_]
  ·rw[AB,AB,AB];refine Cf fun y hy=>?_;show(if _ then _ else _)=(Sum.inr y,V.int (au ps (qs++[p]) y));rw[lk];by_cases e:p.1=y
   ·subst e;simp
   ·have e':¬y=p.1:=fun q=>e q.symm;simp[e,e']
  ·exact CF.mpr ⟨(Sum.inr p.1,.int (au ps qs p.1)),Ab.mpr ⟨(p.1,au ps qs p.1),Ab.mpr ⟨p.1,Yi.mpr (.inl m),rfl⟩,rfl⟩,zy rfl⟩
 ·have nk:p.1∉ah ps qs:=fun q=>(Yi.mp q).elim m out;rw[Aj m,Aj ?_]
  ·rw[ca,ca,AB,AB];refine congr (Bm _ (Cf fun y hy=>?_)) ?_
   ·show(Sum.inr y,V.int (au ps qs y))=(Sum.inr y,V.int (au ps (qs++[p]) y));rw[lk,Aj (fun(q:p.1=y)=>nk (by rw[q];exact hy))]
   ·show[_]=[(Sum.inr p.1,V.int (au ps (qs++[p]) p.1))];rw[lk,Ah rfl]
  ·intro q;obtain⟨kv,hkv,e⟩:=CF.mp q;obtain⟨x,hx,rfl⟩:=Ab.mp hkv;obtain⟨y,hy,rfl⟩:=Ab.mp hx;have e:(Sum.inr y:Key)=Sum.inr p.1:=bb e;exact nk (CV e ▸ hy)
def TrX(h base:Heap)(e:Addr)(cls a0 fl:Value):Prop:=
 ∃oe vs T oT ts,h.get? e=some oe∧(oe.cls=cls∧vs[0]?=some a0∧vs[2]?=some .none)∧oe.data=.fields vs∧vs[1]?=some (.ref T)∧base.get? T=none∧T≠e∧h.get? T=some oT∧oT.data=.fields ts∧ts[3]?=some fl
def FlX(base:Heap)(l:List Env)(e:Addr)(cls a0:Value)(h:Heap):Prop:=base.StaysIn h∧base.get? e=none∧h.FunFrames base l∧TrX h base e cls a0 .none
def HdX(base:Heap)(l:List Env)(e:Addr)(cls a0:Value)(L:Addr)(h:Heap):Prop:=base.StaysIn h∧base.get? e=none∧h.FunFrames base l∧TrX h base e cls a0 (rawInt L)
section
variable{M:Model}{A:Around}{E:Value→Shared→Prop}{s:Shared}{env:Env}{outer l:List Env}{L e:Addr}{base:Heap}{cls a0 fl:Value}{Q:Unit→Shared→Prop}
theorem sk{oe:Obj}{vs:Array Value}{head:Value}{hadNext:Bool}(hfr:A.frames=some (env::outer))(f3:s.heap.FunFrames base (env::outer))(hf:env.frame=some L)(he:s.heap.get? e=some oe)(f1:base.StaysIn s.heap)(f2:base.get? e=none)(hd:oe.data=.fields vs)(sz:1<vs.size)(h0:vs[0]?=some a0)(h2:vs[2]?=some .none)(hQ:∀h',HdX base (env::outer) e oe.cls a0 L h'→s.heap.UpToSlots h'→Q () {s with heap:=h'}):
  wpAny M A (do let a ←frameOf env;let pl ←entryPlaceOf L hadNext;let b ←EntryCells.newEntry head a .none (rawInt L) .none pl;setField (.ref e) 1 b) Q E s:=by
 have ne:e∉(env::outer).filterMap (·.frame):=fun z=>by
  obtain⟨_,u,hu,nu⟩:=f3.mem z;rw[he]at hu;cases hu;exact nu vs hd
 refine aa (wpAny_frameOf_fun hfr f3 hf fun g hg=>aa (wpAny_entryPlaceOf fun pl hpl=>?_));unfold EntryCells.newEntry newFields;refine aa (Bf ?_ (hpl.sizeOk5 _ _ _ _ _));generalize hob:({cls:=.type "traceback",dict:=none,data:=.fields ([head,.ref L,.none,rawInt L,.none]++(if pl.isEmpty then List.replicate 6 Value.none else pl)).toArray}:Obj)=ob;have tk:∃ts,ob.data=.fields ts∧ts[3]?=some (rawInt L):=by
  subst hob;exact⟨_,rfl,by first | (simp;done)|(rcases hpl with rfl | ⟨_,_,_,_,_,_,_,rfl⟩ <;> simp)⟩
 have obf:ob.isFreed=false:=by
  obtain⟨ts,z,_⟩:=tk;exact Obj.isFreed_of_fields z
 clear hob;have eg:g.get? e=some oe:=(hg.2.1 e ne).trans he;have ep:=af (h:=g) ob eg;refine wpAny_setField ep hd sz ?_;have Te:g.objs.size≠e:=AF (az eg);generalize hT:g.objs.size=T at Te;have dn:=Obj.data_mapFields hd (·.setIfInBounds 1 (Value.ref T));have en:=Bq (Obj.mapFields (·.setIfInBounds 1 (Value.ref T))) ep (Obj.isFreed_of_fields dn);have oth:∀b u,b≠e→g.get? b=some u→((g.push ob).update e (Obj.mapFields (·.setIfInBounds 1 (Value.ref T)))).get? b=some u:=fun b u be hb=>(AW _ _ (Ne.symm be)).trans (af _ hb);have tn:((g.push ob).update e (Obj.mapFields (·.setIfInBounds 1 (Value.ref T)))).get? T=some ob:=by
  rw[AW _ _ (Ne.symm Te),←hT];exact pi g obf
 have sb:base.StaysIn g:=fun b u hb=>(hg.2.1 b fun z=>by rw[(f3.mem z).1]at hb;cases hb).trans (f1 b u hb);have bT:base.get? T=none:=by
  cases z:base.get? T with
  |none=>rfl
  |some u=>
   have lt:=az (sb T u z);rw[hT]at lt;exact absurd lt (BA _)
 have nr:∀b u,s.heap.get? b=some u→(∀ws,u.data≠.fields ws)→b≠e:=fun b u hb hn z=>by
  rw[z,he]at hb;cases hb;exact hn vs hd
 generalize (g.push ob).update e (Obj.mapFields (·.setIfInBounds 1 (Value.ref T)))=k at en oth tn;obtain⟨ts,td,t3⟩:=tk;have up:s.heap.UpToSlots k:=fun b u hb hn=>by
  obtain⟨sl,hs⟩:=hg.2.2 b u hb;exact⟨sl,oth b _ (nr b u hb hn) hs⟩
 refine hQ k ⟨fun b u hb=>oth b u (fun z=>by rw[z,f2]at hb;cases hb) (sb b u hb),f2,f3.of_keeps fun b u hb hn=>?_,_,_,T,ob,ts,en,⟨Obj.cls_mapFields _ _,?_,?_⟩,dn,by simp[sz],bT,Te,tn,td,t3⟩ up
 ·obtain⟨sl,hs⟩:=up b u hb hn;exact⟨_,hs,rfl⟩
 ·rw[Array.getElem?_setIfInBounds_ne (by decide)];exact h0
 ·rw[Array.getElem?_setIfInBounds_ne (by decide)];exact h2
theorem p7(hfr:A.frames=some (env::outer))(hf:env.frame=some L)(f1:base.StaysIn s.heap)(f2:base.get? e=none)(f3:s.heap.FunFrames base (env::outer))(ht:TrX s.heap base e cls a0 fl)(hQ:∀h',HdX base (env::outer) e cls a0 L h'→s.heap.UpToSlots h'→Q () {s with heap:=h'}):wpAny M A (noteFrame (.ref e) env) Q E s:=by
 obtain⟨oe,vs,T,oT,ts,he,⟨hc,h0,h2⟩,hd,h1,hn,hne,hT,hdT,h3⟩:=id ht;subst hc;have oth:∀b,b≠T→(s.heap.update T (Obj.mapFields (·.setIfInBounds 3 Value.none))).get? b=s.heap.get? b:=fun b hb=>AW _ _ (Ne.symm hb);have nT:∀b o,s.heap.get? b=some o→(∀vs,o.data≠.fields vs)→b≠T:=fun b o hb q z=>by
  rw[z,hT]at hb;cases hb;exact q ts hdT
 unfold noteFrame;simp only[hf];refine aa (AZ he hd h1 ?_);rw[if_pos (show(Value.ref T != Value.none)=true from by simp)];refine aa (AZ hT hdT h3 ?_);by_cases c:fl=rawInt L
 ·subst c;rw[if_pos (show(rawInt L==rawInt L)=true from by simp)];exact aq (hQ s.heap ⟨f1,f2,f3,ht⟩ (.refl _))
 rw[Aj (show ¬((fl==rawInt L)=true)from fun z=>c (eq_of_beq z))];refine aa (wpAny_setField hT hdT (Array.getElem?_eq_some_iff.mp h3).1 ?_);refine sk hfr (f3.of_keeps fun b o hb q=>⟨o,(oth b (nT b o hb q)).trans hb,rfl⟩) hf ((oth e hne.symm).trans he) (fun b o q=>(oth b fun z=>by rw[z,hn]at q;cases q).trans (f1 b o q)) f2 hd (Array.getElem?_eq_some_iff.mp h1).1 h0 h2 fun h' hN up=>?_;exact hQ h' hN fun b o hb q=>up b o ((oth b (nT b o hb q)).trans hb) q
theorem lL(fr:Option Addr)(f1:base.StaysIn s.heap)(f3:s.heap.FunFrames base l)(ht:TrX s.heap base e cls a0 fl)(hQ:∀h',base.StaysIn h'→h'.FunFrames base l→TrX h' base e cls a0 (fr.elim Value.none fun f=>rawInt f)→s.heap.UpToSlots h'→Q () {s with heap:=h'}):wpAny M A (setFlight (.ref e) fr) Q E s:=by
 obtain⟨oe,vs,T,oT,ts,he,hc,hd,h1,hn,hne,hT,hdT,h3⟩:=ht;have sz:=(Array.getElem?_eq_some_iff.mp h3).1;unfold setFlight;refine aa (AZ he hd h1 ?_);rw[if_pos (show(Value.ref T != Value.none)=true from by simp)];refine wpAny_setField hT hdT sz ?_;generalize (fr.elim Value.none fun f=>rawInt f)=fl' at hQ⊢;have oth:∀b,b≠T→(s.heap.update T (Obj.mapFields (·.setIfInBounds 3 fl'))).get? b=s.heap.get? b:=fun b hb=>AW _ _ (Ne.symm hb);have nT:∀b o,s.heap.get? b=some o→(∀vs,o.data≠.fields vs)→b≠T:=fun b o hb q z=>by
  rw[z,hT]at hb;cases hb;exact q ts hdT
 refine hQ _ (fun b o q=>(oth b fun z=>by rw[z,hn]at q;cases q).trans (f1 b o q)) (f3.of_keeps fun b o hb q=>⟨o,(oth b (nT b o hb q)).trans hb,rfl⟩) ?_ fun b o hb q=>⟨o.slots,(oth b (nT b o hb q)).trans hb⟩;exact⟨oe,vs,T,_,_,(oth e hne.symm).trans he,hc,hd,h1,hn,hne,Heap.get?_update_self _ hT (Obj.isFreed_of_fields (Obj.data_mapFields hdT _)),Obj.data_mapFields hdT _,by simp[sz]⟩
theorem vO(hh:HdX base l e cls a0 L s.heap)(hQ:∀h',FlX base l e cls a0 h'→s.heap.UpToSlots h'→Q () {s with heap:=h'}):wpAny M A (setFlight (.ref e) none) Q E s:=by
 obtain⟨f1,f2,f3,f4⟩:=hh;exact lL none f1 f3 f4 fun h' k1 k2 k3 up=>hQ h' ⟨k1,f2,k2,k3⟩ up
theorem on{h:Heap}{args:List Value}(hfr:A.frames=some (env::outer))(hf:env.frame=some L)(f1:base.StaysIn h)(f3:h.FunFrames base (env::outer))(hx:Heap.MadeExcOf h s.heap e cls args)(hQ:∀h' a0,FlX base outer e cls a0 h'→s.heap.UpToSlots h'→Q () {s with heap:=h'}):wpAny M A (leaving env (.ref e)) Q E s:=by
 obtain⟨t,he,htn,ht⟩:=hx.there;have be:base.get? e=none:=by
  cases z:base.get? e with
  |none=>rfl
  |some u=>
   have:=f1 e u z;rw[hx.new]at this;cases this
 unfold leaving;refine aa ?_;unfold noteFrame;simp only[hf];refine aa (AZ (x:=.none) he rfl rfl ?_);rw[Aj (by decide)];refine sk hfr (f3.of_keeps fun b o hb _=>⟨o,hx.keeps b o hb,rfl⟩) hf he (fun b o hb=>hx.keeps b o (f1 b o hb)) be rfl (by show 1<6;decide) rfl rfl fun h1 W1 up1=>vO W1 fun h2 W2 up2=>?_;obtain⟨k1,k2,⟨_,_,k3⟩,k4⟩:=W2;exact hQ h2 _ ⟨k1,k2,k3,k4⟩ (up1.trans up2)
end
theorem Q3{l:List Env}{env:Env}{b:Addr}(h:env∈l)(e:env.frame=some b):b∈frs l:=Bi.mpr ⟨env,h,e⟩
structure Fly(l:List Env)(a T:Addr)(cls:Value)(h:Heap):Prop where
 fr:∃B,h.FunFrames B l
 ne:T≠a
 ex:∃oe vs oT ts a0,h.get? a=some oe∧(oe.cls=cls∧vs[0]?=some a0∧vs[2]?=some .none)∧oe.data=.fields vs∧vs[1]?=some (.ref T)∧h.get? T=some oT∧oT.data=.fields ts∧ts[3]?=some .none
structure Kp(l:List Env)(a T:Addr)(h h':Heap):Prop where
 keep:∀b o,h.get? b=some o→b≠a→b≠T→b∉frs l→h'.get? b=some o
 slot:∀b o,h.get? b=some o→b∈frs l→∃sl,h'.get? b=some {o with slots:=sl}
abbrev fb(l:List Env)(a T:Addr)(h:Heap):Heap:=W.hideAll h (a::T::frs l)
theorem sY{l:List Env}{a T:Addr}{h:Heap}{b:Addr}{o:Obj}(e:h.get? b=some o)(n1:b≠a)(n2:b≠T)(n3:b∉frs l):(fb l a T h).get? b=some o:=
 W.hideAll_get _ e fun z=>by
  rcases Ae.mp z with z | z
  ·exact n1 z
  rcases Ae.mp z with z | z
  ·exact n2 z
  ·exact n3 z
theorem Fly.fw{l:List Env}{a T:Addr}{cls:Value}{h:Heap}(F:Fly l a T cls h):∃a0,FlX (fb l a T h) l a cls a0 h:=by
 obtain⟨B,fr⟩:=F.fr;obtain⟨oe,vs,oT,ts,a0,e1,e2,e3,e4,e5,e6,e7⟩:=F.ex;refine⟨a0,fun b o q=>W.of_hideAll _ q,W.hideAll_none _ (.head _),W.funFrames_hide fr fun env he b hb=>.tail _ (.tail _ (Q3 he hb)),oe,vs,T,oT,ts,e1,e2,e3,e4,W.hideAll_none _ (.tail _ (.head _)),F.ne,e5,e6,e7⟩
theorem se{l:List Env}{a T:Addr}{h h':Heap}{B:Heap}(fr:h.FunFrames B l)(st:(fb l a T h).StaysIn h')(up:h.UpToSlots h'):Kp l a T h h' where
 keep:=fun b o e n1 n2 n3=>st b o (sY e n1 n2 n3)
 slot:=fun b o e n=>by
  obtain⟨_,o',e',nf⟩:=fr.mem n;rw[e]at e';cases e';exact up b o e nf
theorem S2{l:List Env}{a T T':Addr}{h h' B:Heap}{oT:Obj}{ts:Array Value}(fr:h.FunFrames B l)(up:h.UpToSlots h')(n:(fb l a T h).get? T'=none)(ne:T'≠a)(e:h'.get? T'=some oT)(d:oT.data=.fields ts):
  h.get? T'=none∨T'=T:=by
 cases q:h.get? T' with
 |none=>exact .inl rfl
 |some o=>
  by_cases z:T'=T
  ·exact .inr z
  ·by_cases f:T'∈frs l
   ·obtain⟨_,o',e',nf⟩:=fr.mem f;rw[q]at e';cases e';obtain⟨sl,e2⟩:=up T' o q nf;rw[e]at e2;cases e2;exact absurd d (nf ts)
   ·rw[sY q ne z f]at n;cases n
section
variable{M:Model}{A:Around}{E:Value→Shared→Prop}{s:Shared}{env:Env}{outer:List Env}{L a T:Addr}{cls:Value}{Q:Unit→Shared→Prop}
theorem oy{h:Heap}{args:List Value}{B:Heap}(hfr:A.frames=some (env::outer))(hf:env.frame=some L)(fr:h.FunFrames B (env::outer))(hx:Heap.MadeExcOf h s.heap a cls args)(hQ:∀h' T',Fly outer a T' cls h'→Kp (env::outer) a a h h'→h.get? T'=none→Q () {s with heap:=h'}):wpAny M A (leaving env (.ref a)) Q E s:=by
 have frh:h.FunFrames (fb (env::outer) a a h) (env::outer):=W.funFrames_hide fr fun env he b hb=>.tail _ (.tail _ (Q3 he hb));refine on hfr hf (base:=fb (env::outer) a a h) (fun b o q=>W.of_hideAll _ q) frh hx fun h' a0 W' up=>?_;obtain⟨st,_,ff,oe,vs,T',oT,ts,he,hc,hd,h1,hT,hne,hT',hdT,h3⟩:=W';have up':h.UpToSlots h':=fun b o e n=>up b o (hx.keeps b o e) n;refine hQ h' T' ⟨⟨_,ff⟩,hne,oe,vs,oT,ts,_,he,hc,hd,h1,hT',hdT,h3⟩ (se fr st up') ?_
 rcases S2 fr up' hT hne hT' hdT with z | z
 ·exact z
 ·exact absurd z hne
theorem vp(hfr:A.frames=some (env::outer))(hf:env.frame=some L)(F:Fly (env::outer) a T cls s.heap)(hQ:∀h' T',Fly (env::outer) a T' cls h'→Kp (env::outer) a T s.heap h'→(s.heap.get? T'=none∨T'=T)→Q () {s with heap:=h'}):
  wpAny M A (noteFrame (.ref a) env) (fun _ s2=>wpAny M A (setFlight (.ref a) none) Q E s2) E s:=by
 obtain⟨a0,W⟩:=F.fw;obtain⟨B,fr⟩:=F.fr;refine p7 hfr hf W.1 W.2.1 W.2.2.1 W.2.2.2 fun h1 W1 up1=>?_;refine vO W1 fun h' W' up2=>?_;have up:=up1.trans up2;obtain⟨st,_,ff,oe,vs,T',oT,ts,he,hc,hd,h1,hT,hne,hT',hdT,h3⟩:=W';exact hQ h' T' ⟨⟨_,ff⟩,hne,oe,vs,oT,ts,a0,he,hc,hd,h1,hT',hdT,h3⟩ (se fr st up) (S2 fr up hT hne hT' hdT)
theorem kC(F:Fly (env::outer) a T cls s.heap)(hQ:∀h' T',Fly (env::outer) a T' cls h'→Kp (env::outer) a T s.heap h'→(s.heap.get? T'=none∨T'=T)→Q () {s with heap:=h'}):wpAny M A (setFlight (.ref a) none) Q E s:=by
 obtain⟨a0,Dd,hn0,W⟩:=F.fw;obtain⟨B,fr⟩:=F.fr;refine lL none Dd W.1 W.2 fun h' st ff tr up=>?_;obtain⟨oe,vs,T',oT,ts,he,hc,hd,h1,hT,hne,hT',hdT,h3⟩:=tr;exact hQ h' T' ⟨⟨_,ff⟩,hne,oe,vs,oT,ts,a0,he,hc,hd,h1,hT',hdT,h3⟩ (se fr st up) (S2 fr up hT hne hT' hdT)
end
theorem ObjOk.has{P:Program}{w:World}{H:Hp}{h:Heap}{a:Addr}{o:HO}(x:ObjOk P w H h a o):∃ob,h.get? a=some ob:=by
 cases o with
 |lst xs=>obtain⟨_,_,_,_,e⟩:=x;exact⟨_,e⟩
 |tup xs=>obtain⟨_,_,_,_,e,_⟩:=x;exact⟨_,e⟩
 |dK kvs=>obtain⟨_,_,_,_,o,_,_,e,_⟩:=x;exact⟨_,e⟩
 |dT kvs=>obtain⟨_,_,_,_,o,_,_,e,_⟩:=x;exact⟨_,e⟩
 |set S n=>obtain⟨o,_,_,_,e,_⟩:=x;exact⟨_,e⟩
 |ins C dx fs=>obtain⟨_,_,_,e,_⟩:=x;exact⟨_,e⟩
 |own y=>obtain⟨_,e⟩:=x;exact⟨_,e⟩
 |xd fs=>obtain⟨_,⟨_,_,_,e,_⟩,_⟩:=x;exact⟨_,e⟩
 |rng lo hi=>obtain⟨_,_,_,e⟩:=x;exact⟨_,e⟩
 |frz ob u=>obtain⟨e,_⟩:=x;exact⟨_,e⟩
 |tbl ps=>exact⟨_,(show h.get? a=some _ from x)⟩
 |met f y=>exact⟨_,(show h.get? a=some _ from x)⟩
 |ext φ=>obtain⟨_,⟨_,e⟩,_⟩:=x;exact⟨_,e⟩
theorem HOk.no{P:Program}{w:World}{H:Hp}{h:Heap}{a:Addr}(x:HOk P w H h)(e:h.get? a=none):H a=none:=by
 cases q:H a with
 |none=>rfl
 |some o=>
  obtain⟨ob,z⟩:=(x a o q).has;rw[e]at z;cases z
theorem HOk.kp{P:Program}{w:World}{H:Hp}{h h':Heap}{l:List Env}{a T:Addr}(x:HOk P w H h)(k:Kp l a T h h')(ha:H a=none)(hT:H T=none)(hl:∀b∈frs l,H b=none):HOk P w H h':=fun b u e=>by
 refine(x b u e).stay (fun c v hc q=>?_) (fun _ q=>q) fun _ _ q=>q;have nn:H c≠none:=by
  rcases hc with z | z
  ·rw[z,e];exact fun q=>nomatch q
  ·rw[z];exact fun q=>nomatch q
 exact k.keep c v q (fun z=>nn (z ▸ ha)) (fun z=>nn (z ▸ hT)) fun z=>nn (hl c z)
def CX1(P:Program)(w:World):CXT:=fun outer H s E e s'=>∃(a T C:Addr)(H':Hp),e=.ref a∧s'.os=s.os∧AllBare s'.gens∧Un (frs outer) [] H H' s.heap s'.heap∧HOk P w H' s'.heap∧
 Fly outer a T (.ref C) s'.heap∧s.heap.get? a=none∧s.heap.get? T=none∧H' a=none∧H' T=none∧E (.ref C) none H'
section
variable{P:Program}{w:World}{K:W.Frag}{mg:Str→Option Value}{base:Heap}{N:List Str}{qual:Str}{scope:Scope}{f:Addr}{cd:Value}{A:Around}{outer:List Env}{s:Shared}{H:Hp}{E:XK}
abbrev cx1(P:Program)(w:World)(K:W.Frag)(mg:Str→Option Value)(base:Heap)(N:List Str)(qual:Str)(scope:Scope)(f:Addr)(cd:Value)(A:Around)(outer:List Env)(s:Shared)(H:Hp)(E:XK):Cx:=kQ (CX1 P w) P w K mg base N qual scope f cd A outer s H E
theorem rU{CZ:List (Addr×Obj)}{σ:St}{H':Hp}{s':Shared}{h':Heap}{a T T' C:Addr}(I:Inv (cx1 P w K mg base N qual scope f cd A outer s H E) CZ σ H' s')(kp:Kp (cx1 P w K mg base N qual scope f cd A outer s H E).stack a T s'.heap h')(F:Fly outer a T' (.ref C) h')(na:s.heap.get? a=none)(nT:s.heap.get? T=none)(ha:H' a=none)(hT:H' T=none)(hT':s'.heap.get? T'=none∨T'=T)(q:E (.ref C) none H'):CX1 P w outer H s E (.ref a) {s' with heap:=h'}:=by
 have B:=I.base;have nex:∀b,b∉(cx1 P w K mg base N qual scope f cd A outer s H E).ex:=fun b z=>absurd (show b∈([]:List Addr)from z) (by simp);have n1:∀b o,s.heap.get? b=some o→b≠a:=fun b o e z=>by rw[z,na]at e;cases e
 have n2:∀b o,s.heap.get? b=some o→b≠T:=fun b o e z=>by rw[z,nT]at e;cases e
 have n3:∀b o,s.heap.get? b=some o→b∉frs outer→b∉frs (cx1 P w K mg base N qual scope f cd A outer s H E).stack:=fun b o e nf z=>by
  rcases Ae.mp (I.stkSub b z)with y | y
  ·exact absurd (Av (az e) I.ok.above) (by rw[y];exact BA _)
  ·exact nf y
 have sub:∀b,b∈frs outer→b∈frs (cx1 P w K mg base N qual scope f cd A outer s H E).stack:=fun b z=>by
  obtain⟨env,he,e⟩:=Bi.mp z;exact Bi.mpr ⟨env,.tail _ he,e⟩
 have gone:∀b,s'.heap.get? b=none→s.heap.get? b=none:=fun b e=>by
  cases z:s.heap.get? b with
  |none=>rfl
  |some o=>
   obtain⟨o',e'⟩:=B.there b o z (nex b);rw[e]at e';cases e'
 refine⟨a,T',C,H',rfl,I.os,I.bare,⟨fun b o e n hb hx=>?_,fun b o e n hb hx=>?_,fun b o e n hx=>B.free b o e n (nex b),fun b o e hx=>?_,B.tups,B.frzs,B.tbls⟩,I.hok.kp kp ha hT I.stkFree,F,na,?_,ha,?_,q⟩
 ·exact kp.keep b o (B.keep b o e n hb (nex b)) (n1 b o e) (n2 b o e) (n3 b o e hb)
 ·obtain⟨sl,e1⟩:=B.slot b o e n hb (nex b);obtain⟨sl',e2⟩:=kp.slot b _ e1 (sub b hb);exact⟨sl',e2⟩
 ·obtain⟨o',e1⟩:=B.there b o e (nex b);by_cases hb:b∈frs outer
  ·obtain⟨sl',e2⟩:=kp.slot b _ e1 (sub b hb);exact⟨_,e2⟩
  ·exact⟨_,kp.keep b o' e1 (n1 b o e) (n2 b o e) (n3 b o e hb)⟩
 ·rcases hT' with z | z
  ·exact gone T' z
  ·rw[z];exact nT
 ·rcases hT' with z | z
  ·exact I.hok.no z
  ·rw[z];exact hT
theorem Inv.past{X:Cx}{CZ:List (Addr×Obj)}{σ:St}{H H':Hp}{s s':Shared}(I:Inv X CZ σ H s)(os:s'.os=s.os)(bare:AllBare s'.gens)(un:Un (frs X.stack) [] H H' s.heap s'.heap)(hok:HOk X.prog X.w H' s'.heap):Inv X CZ σ H' s':=
 I.call' (ch:=[]) os un hok bare (fun b z=>absurd z (by simp))
theorem Inv.gone{X:Cx}{CZ:List (Addr×Obj)}{σ:St}{H:Hp}{s:Shared}(I:Inv X CZ σ H s)(hx:X.ex=[]){b:Addr}(e:s.heap.get? b=none):X.s₀.heap.get? b=none:=by
 cases z:X.s₀.heap.get? b with
 |none=>rfl
 |some o=>
  obtain⟨o',e'⟩:=I.base.there b o z (by rw[hx];simp);rw[e]at e';cases e'
def yd(C:Addr)(E:XK)(ta:TA):TS:=fun _ σ H=>ta σ H fun vs H1=>vs.length≤1000∧E (.ref C) none H1
theorem qD{x:Str}{C:Addr}{bm:List Value}{B newId initId:String}{np cpos pos:Pos}{e₀:Expr}{rest:List Expr}{ta:TA}(O:OwnCls x C bm newId mg base)(FB:ExcBaseFacts B newId initId bm)(ha:PA (cx1 P w K mg base N qual scope f cd A outer s H E) (e₀::rest) ta)(hg:Gl (cx1 P w K mg base N qual scope f cd A outer s H E) x:=by rfl)(he:starEach (e₀::rest) (cx1 P w K mg base N qual scope f cd A outer s H E).env=(false,eval e₀ (cx1 P w K mg base N qual scope f cd A outer s H E).env)::starEach rest (cx1 P w K mg base N qual scope f cd A outer s H E).env:=by rfl)(hplain:(backTo cpos (starEach rest (cx1 P w K mg base N qual scope f cd A outer s H E).env)).any (·.1)=false:=by rfl)(hd:(x==("__debug__":Str))=false:=by decide):
  PS (cx1 P w K mg base N qual scope f cd A outer s H E) (.Raise (some (.Call (.Name x np) (e₀::rest) [] cpos)) none pos) (yd C E ta):=by
 intro CZ s1 σ H1 D I h;obtain⟨tl,N',nm,q,bs,hdct,sn,sub,ab,col,dd,k0,k1,k2,k3,k5,mN,hC,hN,hni,T⟩:=O.obj;refine wpAny_Raise_call_subT (C:=C) (nm:=nm) (q:=q) (N:=N') (bs:=bs) (bm:=tl) (hdct:=hdct) (sn:=sn) (sub:=sub) (ab:=ab) (col:=col) (dd:=dd) (k0:=k0) (k1:=k1) (k2:=k2) (k3:=k3) (k5:=k5)
  FB (mN:=mN) (T.hasType FB.hasBase) (I.ok.hd rfl) (by rw[he];show(false || (backTo cpos (starEach rest (cx1 P w K mg base N qual scope f cd A outer s H E).env)).any (·.1))=false;rw[hplain];rfl) hni (T7 I hg O.bound ⟨rfl,?_⟩ hd)
 rw[he];refine CC ?_;have hh:=ha cpos CZ s1 σ H1 _ I h;rw[he]at hh;refine thn hh fun us s2 C0=>?_;obtain⟨vs,H2,I2,r,hl,q⟩:=C0;refine⟨rfl,?_,I2.bk _ _ hC,hN.keeps I2.bk,T.keeps I2.bk,fun h' e hx=>?_⟩
 ·rw[←r.length];exact AU hl (by decide)
 ·show wpAny (model P w) _ (leaving _ (.ref e)) _ _ {s2 with heap:=h'};refine oy (env:=envOfC qual scope s.heap.objs.size f cd) (outer:=outer) I2.ok.frames rfl (h:=s2.heap) (B:=base) I2.stack hx fun h'' T' F' kp hT'=>?_;have I3:Inv (cx1 P w K mg base N qual scope f cd A outer s H E) CZ σ H2 s2:=I2;have z:=rU (T:=e) I3 kp F' (I2.gone rfl hx.new) (I2.gone rfl hx.new) (I2.hok.no hx.new) (I2.hok.no hx.new) (.inl hT') q;exact z
theorem Fun.okX{x qual:Str}{st:Stmt}{f:Addr}{fd:FuncData}{N ps:List Str}{k:Nat}{sp:Sp}(F:Fun K x qual st f fd)(S:FnScope N ps (defScope st))(len:∀vs H Q E,sp vs H Q E→vs.length=ps.length)(hbody:∀(cdv:Value) (A:Around) (outer:List Env) (s:Shared) (H:Hp) (vs:List V) (Q:VK) (E:XK),Room k (A.deeper (envOfC qual (defScope st) s.heap.objs.size f cdv))→sp vs H Q E→
   ∃t,PSs (cx1 P w K mg base N qual (defScope st) f cdv A outer s H E) (defBody st) t∧t {nx:=fun _ H'=>Q .non H',rt:=Q} (dU N vs) H):FnOk P w K mg base (CX1 P w) (k+1) f fd ps sp:=by
 obtain⟨oc,od,kV,doc,pm,an,cdv,ct,osl,rfl,lk,hcd⟩:=F.ex;exact l8 lk hcd S len fun A outer s H vs Q E hr hsp=>hbody cdv A outer s H vs Q E hr hsp
end
structure HasX(P:Program)(w:World)(K:W.Frag)(mg:Str→Option Value)(base:Heap)(x:Str)(k:Nat)(ps:List Str)(sp:Sp):Prop where
 ex:∃f fd,FnOk P w K mg base (CX1 P w) k f fd ps sp∧Binds K fd ps []∧W.keepIn K (.ref f)=true∧mg x=some (.ref f)
theorem HasX.of{P:Program}{w:World}{K:W.Frag}{mg:Str→Option Value}{base:Heap}{x:Str}{k:Nat}{ps:List Str}{sp:Sp}{f:Addr}{fd:FuncData}(F:FnOk P w K mg base (CX1 P w) k f fd ps sp)(b:Binds K fd ps [])(kp:W.keepIn K (.ref f)=true)(m:mg x=some (.ref f)):HasX P w K mg base x k ps sp:=⟨f,fd,F,b,kp,m⟩
section
variable{P:Program}{w:World}{K:W.Frag}{mg:Str→Option Value}{base:Heap}{N:List Str}{qual:Str}{scope:Scope}{f:Addr}{cd:Value}{A:Around}{outer:List Env}{s:Shared}{H:Hp}{E:XK}
variable{j k:Nat}{ps:List Str}{sp:Sp}{x:Str}{p pos:Pos}{e:Expr}{es:List Expr}{t:TA}
end
section
variable{prog:Program}{w:World}{A:Around}{E:Value→Shared→Prop}{h:Heap}{g:Array GenState}{d:Drawn}{t:Nat}{os:OsState}{a C:Addr}{o:Obj}{K:W.Frag}
end
def xo(C a:Addr):HO:=.ext fun h=>∃o,h.get? a=some o∧o.cls=.ref C∧∃vs,o.data=.fields vs∧vs[2]?=some .none
theorem zI{P:Program}{w:World}{H:Hp}{h:Heap}{C a:Addr}{o:Obj}(e:h.get? a=some o)(c:o.cls=.ref C){vs:Array Value}(d:o.data=.fields vs)(z:vs[2]?=some .none):ObjOk P w H h a (xo C a):=
 ⟨⟨o,e,c,vs,d,z⟩,⟨o,e⟩,fun _ _ ⟨o,e,c⟩ k=>⟨o,k o e,c⟩⟩
theorem HOk.more{P:Program}{w:World}{H:Hp}{h:Heap}{a:Addr}{o:HO}(x:HOk P w H h)(hn:H a=none)(new:ObjOk P w (upd H a o) h a o):HOk P w (upd H a o) h:=fun b u e=>by
 by_cases hb:b=a
 ·subst hb;rw[Z5]at e;cases e;exact new
 ·rw[Za hb]at e;exact(x b u e).stay (fun c v _ q=>q) (fun c q=>by rw[Za (Zf q hn)];exact q) fun c xs q=>by rw[Za (Zf q hn)];exact q
theorem Un.more{fs:List Addr}{H H':Hp}{h h':Heap}{a:Addr}{o:HO}(u:Un fs [] H H' h h')(na:h.get? a=none)(hn:H' a=none):Un fs [] H (upd H' a o) h h' where
 keep:=u.keep
 slot:=u.slot
 free:=fun b ob q n hx=>by
  rw[Za (fun z=>by rw[z,na]at q;cases q)];exact u.free b ob q n hx
 there:=u.there
 tups:=fun b xs q=>by rw[Za (Zf (u.tups b xs q) hn)];exact u.tups b xs q
 frzs:=fun b ob xs q=>by rw[Za (Zf (u.frzs b ob xs q) hn)];exact u.frzs b ob xs q
 tbls:=fun b ps q=>by
  obtain⟨m,e⟩:=u.tbls b ps q;exact⟨m,by rw[Za (Zf e hn)];exact e⟩
theorem Un.kp{l:List Env}{H H':Hp}{h h1 h2:Heap}{a T:Addr}(u:Un (frs l) [] H H' h h1)(k:Kp l a T h1 h2)(na:h.get? a=none)(nT:h.get? T=none):Un (frs l) [] H H' h h2:=by
 have n1:∀b o,h.get? b=some o→b≠a:=fun b o e z=>by rw[z,na]at e;cases e
 have n2:∀b o,h.get? b=some o→b≠T:=fun b o e z=>by rw[z,nT]at e;cases e
 refine⟨fun b o e n hb hx=>k.keep b o (u.keep b o e n hb hx) (n1 b o e) (n2 b o e) hb,fun b o e n hb hx=>?_,u.free,fun b o e hx=>?_,u.tups,u.frzs,u.tbls⟩
 ·obtain⟨sl,e1⟩:=u.slot b o e n hb hx;obtain⟨sl',e2⟩:=k.slot b _ e1 hb;exact⟨sl',e2⟩
 ·obtain⟨o',e1⟩:=u.there b o e hx;by_cases hb:b∈frs l
  ·obtain⟨sl',e2⟩:=k.slot b _ e1 hb;exact⟨_,e2⟩
  ·exact⟨_,k.keep b o' e1 (n1 b o e) (n2 b o e) hb⟩
abbrev Cx.held(X:Cx)(a:Addr)(E:Value→Shared→Prop):Cx:={X with A:=X.A.mark (some (.ref a)),calm:=false,xe:=E}
theorem Inv.held{X:Cx}{CZ:List (Addr×Obj)}{σ:St}{H:Hp}{s:Shared}(I:Inv X CZ σ H s)(a:Addr)(E:Value→Shared→Prop):Inv (X.held a E) CZ σ H s:=
 have ok:=I.ok
 ⟨⟨ok.mod,ok.kind,ok.glob,ok.blt,ok.above,ok.inj,ok.has,ok.cab,fun z=>Bool.noConfusion z,ok.frames,ok.stk,ok.exf,ok.bs,ok.bsz,ok.noex,ok.exfs,ok.funs,ok.frf⟩,I.os,I.bare,I.base,I.loc,I.cell,I.free,I.freeC,I.pin,I.hok,I.len⟩
theorem Inv.unheld{X:Cx}{CZ:List (Addr×Obj)}{σ:St}{H:Hp}{s:Shared}{a:Addr}{E:Value→Shared→Prop}(x:X.Ok)(I:Inv (X.held a E) CZ σ H s):Inv X CZ σ H s:=
 ⟨x,I.os,I.bare,I.base,I.loc,I.cell,I.free,I.freeC,I.pin,I.hok,I.len⟩
section
variable{X:Cx}{CZ:List (Addr×Obj)}{σ:St}{H:Hp}{s:Shared}
end
section
variable{X:Cx}{x c n:Str}{p pos cpos epos np hpos:Pos}{e:Expr}{es:List Expr}{ta:TA}{tb:TS}{b₀:Stmt}{suite:List Stmt}{j k i:Nat}{ps:List Str}{sp:Sp}{S:Addr}
end
def Ty.zero(room:Int):Ty:=⟨room,[],0,0⟩
theorem rM{K:W.Frag}{base:Heap}{mg:Str→Option Value}{x:Str}{C:Addr}{bmB:List Value}{newId:String}(X:K.In base)(m:mg x=some (.ref C))(q:W.excIn K C bmB newId=true):OwnCls x C bmB newId mg base:=by
 refine⟨m,?_⟩;unfold W.excIn at q
 split at q
 ·rename_i dd cdt osl ho
  split at q
  ·rename_i C' tl y0 y1 y2 y3 nw y5 hm hs;simp only[beq_iff_eq,Bool.and_eq_true,Bool.not_eq_true']at q;obtain⟨⟨⟨⟨⟨e1,e2⟩,e3⟩,e4⟩,e5⟩,e6⟩:=q;subst e1 e2;cases cdt with
   |mk f1 f2 f3 f4 f5 f6 f7 f8 f9 f10 f11=>
    dsimp only at hm e3 e5 e6;subst hm e3;have hsl:osl=#[y0,y1,y2,y3,some (.builtin nw),y5]:=by
     cases osl with
     |mk l=>exact Bm Array.mk hs
    subst hsl;exact⟨tl,f4,f1,f5,f2,f6,f7,f8,f9,f10,dd,y0,y1,y2,y3,y5,_,X _ _ ho,.of_isNs (W.isNs_of_in X e5),W.nsMap_none_of_in X e5 e6,W.tail_of_in X e4⟩
  ·cases q
 ·cases q
theorem xF{K:W.Frag}{C S:Addr}{od:Option Addr}{cdt:ClassData}{sl:Array (Option Value)}(h1:W.subIn K (.ref S) (.type "BaseException")=some true)(h2:K.lookup S=some ⟨.type "type",od,.cls cdt,sl⟩)(h3:W.subIn K (.ref C) (.ref S)=some true):
  W.exmOne K (.ref C) (.ref S)=some true:=by
 unfold W.exmOne;rw[Ah (by rw[h1];rfl)];unfold W.kitCls;dsimp only;have a:W.clsIn K S=some cdt:=by unfold W.clsIn;rw[h2]
 have b:W.typeIn K (.ref S)=some (.type "type"):=by unfold W.typeIn;dsimp only;rw[h2];rfl
 rw[Ah (by rw[a,b];rfl)];exact h3
theorem lN{a:Int}(h:a.natAbs<2^400):Builtin.Int.intBits a≤400:=by
 unfold Builtin.Int.intBits
 split
 ·exact Bc _
 ·rename_i hz;have hn:a.natAbs≠0:=fun z=>hz (by simpa using Int.natAbs_eq_zero.mp z);exact(Nat.log2_lt hn).mpr h
def big:Int:=1000000000000000000000000000000000000000000000000000000000000000000000000000000
theorem tw{a:Int}(h1:-big<a)(h2:a<big):a.natAbs<2^400:=by
 have e:big.natAbs<2^400:=by decide +kernel
 have:a.natAbs<big.natAbs:=by
  have:big.natAbs=big.toNat:=rfl;have hb:(0:Int)<big:=by decide
  omega
 omega
def CMulB(i j:Int):Prop:=(-big<i∧i<big)∧-big<j∧j<big
theorem CMulB.ok{i j:Int}(h:CMulB i j):IntMulOk i j:=by
 have h1:=lN (tw h.1.1 h.1.2);have h2:=lN (tw h.2.1 h.2.2);have e:Builtin.Int.intTooBig ((Builtin.Int.intBits i:Int)+(Builtin.Int.intBits j:Int))=false:=by
  unfold Builtin.Int.intTooBig;refine Ag fun q=>?_;have:(800:Int)≤bitsLine:=by decide +kernel
  omega
 unfold IntMulOk;rw[e,CS];exact Al
theorem Vv{X:Cx}:OpR X (binaryOp .Mult) (rI CMulB fun i j=>.int (i*j)):=opI fun _ _ _ _ _ _ _ hc q=>mul_int q hc.ok
theorem Vn{K:W.Frag}{a:Addr}{xs:List V}{k:Nat}{g:TG}{tt:TT}{te:TE}{σ:St}{H:Hp}{Q:VK}(Pv:Nat→List V→Hp→Prop)(h0:Pv 0 [] H)(hl:∀i ys H,i≤xs.length→Pv i ys H→SqT K H a xs)(hs:∀i x ys H (C:List V→Hp→Prop),xs[i]?=some x→Pv i ys H→(∀ys' H',Pv (i+1) ys' H'→C ys' H')→ys.length<sizeLine∧g x (List.replicate k none++σ) H fun σ2 H2=>Wk σ2 (List.replicate k none++σ)∧tt σ2 H2 fun ok H3=>
   if ok=true then te σ2 H3 fun y H4=>C (ys++[y]) H4 else C ys H3)(hd:∀ys H,Pv xs.length ys H→ys.length≤sizeLine∧∀p,H p=none→Q (.ref p) (upd H p (.lst ys))):
  CompR (Itt K a) H k g tt te σ Q:=by
 refine⟨fun i m ys H=>m=xs.length-i∧i≤xs.length∧Pv i ys H,⟨xs.length,by simp,Nat.zero_le _,h0⟩,?_⟩;rintro i m ys H ⟨rfl,hi,p⟩;have q:=hl i ys H hi p;by_cases C5:i<xs.length
 ·have r:=hs i xs[i] ys H (fun ys' H'=>∃m',m'<xs.length-i∧m'=xs.length-(i+1)∧i+1≤xs.length∧Pv (i+1) ys' H') (by simp[C5]) p fun ys' H' p'=>⟨_,by omega,rfl,C5,p'⟩;refine .inr ⟨⟨xs,xs[i],q,by simp[C5]⟩,r.1,fun x H' y=>?_⟩;obtain⟨e,y⟩:=y;subst e;have ex:xs[i]?=some x:=y xs q;have ex2:xs[i]=x:=by simpa [C5] using ex
  rw[←ex2];exact r.2
 ·have e:i=xs.length:=by omega
  subst e;exact .inl ⟨⟨xs,q,io _⟩,hd ys H p⟩
theorem V3{K:W.Frag}{a:Addr}{xs:List V}{ps:Ps}{k:Nat}{g:TG}{tt:TT}{te:TE}{σ:St}{H:Hp}{Q:VK}(p:Str×Int→Bool)(f:Str×Int→V)(e:H a=some (.tup xs))(pa:PairsAt H xs (aw ps))(hl:ps.length≤100000)(hs:∀(t:Str×Int) (c:Addr) (ys:List V) (C:List V→Hp→Prop),t∈ps→H c=some (.tup [.str t.1,.int t.2])→(p t=true→C (ys++[f t]) H)→(p t=false→C ys H)→g (.ref c) (List.replicate k none++σ) H fun σ2 H2=>Wk σ2 (List.replicate k none++σ)∧tt σ2 H2 fun ok H3=>
   if ok=true then te σ2 H3 fun y H4=>C (ys++[y]) H4 else C ys H3)(hd:∀q,H q=none→Q (.ref q) (upd H q (.lst ((ps.filter p).map f)))):
  CompR (Itt K a) H k g tt te σ Q:=by
 have dl:=pa.length;rw[Zs]at dl;have le:∀i,(((ps.take i).filter p).map f).length≤100000:=fun i=>by
  rw[ae];have h1:=Ap p (ps.take i);rw[Am]at h1;omega
 refine Vn (xs:=xs) (fun i ys H'=>H'=H∧ys=((ps.take i).filter p).map f) ⟨rfl,rfl⟩ ?_ ?_ ?_
 ·rintro i ys H' _ ⟨rfl,_⟩;exact SqT.of e
 ·rintro i x ys H' C hx ⟨rfl,rfl⟩ hC;obtain⟨c,t,rfl,ht,ec⟩:=pa.getP hx;refine⟨Zk (by have:=le i;omega),hs t c _ C (Ai ht) ec (fun hp=>hC _ _ ⟨rfl,?_⟩) (fun hp=>hC _ _ ⟨rfl,?_⟩)⟩
  ·rw[Zr ht,AJ,ca,As,hp];rfl
  ·rw[Zr ht,AJ,As,hp];simp
 ·rintro ys H' ⟨rfl,rfl⟩;rw[dl,At];refine⟨Zd (by have:=le ps.length;rw[At]at this;omega),hd⟩
section
variable{P:Program}{w:World}{K:W.Frag}{mg:Str→Option Value}{base:Heap}{CX:CXT}{k:Nat}{f:Addr}{fd:FuncData}{ps:List Str}{sp sp':Sp}
theorem FnOk.toX(F:FnOk P w K mg base CX0 k f fd ps sp):FnOk P w K mg base CX k f fd ps sp:=by
 refine⟨F.len,fun A outer s H args us vs Q E hr e0 hb r h=>B6 (F.run A outer s H args us vs Q E hr e0 hb r h) fun r s' q=>?_⟩;cases r with
 |ok fl=>cases fl <;> exact q
 |error e=>exact False.elim q
theorem FnOk.or(F:FnOk P w K mg base CX k f fd ps sp)(G:FnOk P w K mg base CX k f fd ps sp'):FnOk P w K mg base CX k f fd ps (fun vs H Q E=>sp vs H Q E∨sp' vs H Q E):=
 ⟨fun vs H Q E h=>h.elim (F.len _ _ _ _) (G.len _ _ _ _),fun A outer s H args us vs Q E hr e0 hb r h=>h.elim (F.run A outer s H args us vs Q E hr e0 hb r) (G.run A outer s H args us vs Q E hr e0 hb r)⟩
end
def Cal(base:Heap)(f:Addr):Prop:=∃oc od fd sl,base.get? f=some ⟨oc,od,.func fd,sl⟩
theorem n6{M:Model}{f:Addr}{base:Heap}(c:Cal base f)(h:Heap)(k:∀b o,base.get? b=some o→h.get? b=some o):∃q,(q=Keeper.frame∨q=Keeper.machine∨q=Keeper.boundFrame)∧W.Looks M h (keeperOf (.ref f)) q:=by
 obtain⟨oc,od,fd,sl,e⟩:=c;refine⟨.frame,.inl rfl,fun A Q E s kk q=>?_⟩;exact aa (CU (kk _ _ (k _ _ e)) (aq q))
def yk(P:Program)(w:World)(K:W.Frag)(mg:Str→Option Value)(base:Heap)(k i:Nat)(t:TA):TE:=fun σ H Q=>∃(f:Addr)(fd:FuncData)(ps:List Str)(sp:Sp),σ[i]?=some (some (.ref f))∧FnOk P w K mg base CX0 k f fd ps sp∧Binds K fd ps []∧Cal base f∧
 t σ H fun vs H1=>sp vs H1 Q E0
section
variable{X:Cx}{k i:Nat}{x:Str}{p pos:Pos}{e:Expr}{es:List Expr}{t:TA}
theorem Qv(hr:Room k X.A)(ha:PA X (e::es) t)(hN:X.N[i]?=some x:=by rfl)(hv:Vis X.env.scope x:=by first | exact Or.inl rfl | exact Or.inr (Or.inl rfl) | exact Or.inr (Or.inr rfl))(hd:(x==("__debug__":Str))=false:=by decide)(hcd:(x==("__classdict__":Str))=false:=by decide)(he:starEach (e::es) X.env=(false,eval e X.env)::starEach es X.env:=by rfl)(hpl:(backTo pos (starEach es X.env)).any (·.1)=false:=by rfl):
  PE X (.Call (.Name x p) (e::es) [] pos) (yk X.prog X.w X.K X.mg X.base k i t):=by
 intro CZ s σ H Q I h;obtain⟨f,fd,ps,sp,hs,F,b,c,q⟩:=h;refine Bw (thn (rn hN hv hd hcd CZ s σ H (fun v H'=>v=.ref f∧H'=H) I ⟨_,hs,rfl,rfl⟩) fun u s1 z=>?_);obtain⟨v,H',I1,r,rfl,rfl⟩:=z;cases (show u=Value.ref f from r);have hh:=ha pos CZ s1 σ H' _ I1 q;show wpAny _ _ (callWith pos (.ref f) [] (backTo pos (starEach (e::es) X.env)) []) _ _ _;rw[he]at hh⊢;refine W.callWith_of (P:=fun h=>∀b o,X.base.get? b=some o→h.get? b=some o) (by show((false || (backTo pos (starEach es X.env)).any (·.1)) || false)=false;rw[hpl];rfl) (fun h k=>n6 c h k) (CC (thn hh fun us s2 z=>?_));obtain⟨vs,H2,I2,r2,q2⟩:=z;exact⟨I2.bk,rF (dvs:=[]) (ds:=[]) F hr b .nil zn I2 r2 (by rw[AN];exact q2)⟩
end
def crO(q:Str)(c:Addr):HO:=.ext fun h=>h.CodeRec (.ref c) q
structure LamAt(T:Addr)(pos:Pos)(q:Str)(H:Hp):Prop where
 tab:H T=some (.tbl #[])∨∃c,H T=some (.tbl #[rawInt pos.line,rawInt pos.col,.ref c])∧H c=some (crO q c)
theorem LamAt.mono{T:Addr}{pos:Pos}{q:Str}{H H':Hp}(h:LamAt T pos q H)(g:Same H H'):LamAt T pos q H':=by
 rcases h.tab with e | ⟨c,e,ec⟩
 ·exact⟨.inl (g _ _ e)⟩
 ·exact⟨.inr ⟨c,g _ _ e,g _ _ ec⟩⟩
def qW(P:Program)(w:World)(K:W.Frag)(mg:Str→Option Value)(base:Heap)(N:List Str)(qual:Str)(sc:Scope)(f:Addr)(cd:Value)(cl:List (Str×Addr))(A:Around)(outer:List Env)(s:Shared)(H:Hp):Cx where
 prog:=P
 w:=w
 K:=K
 mg:=mg
 base:=base
 A:=A.deeper (W.envX qual sc s.heap.objs.size f cd cl)
 N:=N
 s₀:=s
 H₀:=H
 env:=W.envX qual sc s.heap.objs.size f cd cl
 outer:=outer
 stack:=W.envX qual sc s.heap.objs.size f cd cl::outer
 ex:=[]
 calm:=true
 fn:=fun _=>false
 pn:=[]
 xe:=fun _ _=>False
structure LamScope(ps fr:List Str)(sc:Scope):Prop where
 kind:sc.kind=.function
 co:sc.isCoroutine=false
 gen:sc.isGenerator=false
 cell:∀x∈sc.names,x.2≠.cell
 par:∀x∈ps,sc.names.lookup x=some .local
 free:∀x,sc.names.lookup x=some .free→x∈fr
 fre:∀x∈fr,sc.names.lookup x=some .free
 nd:(ps++fr).Nodup
theorem iR{x:Str}:∀{ps:List Str}{us:List Value}{i:Nat}{u:Value},ps.Nodup→ps[i]?=some x→us[i]?=some u→(ps.zip us).reverse.lookup x=some u:=by
 intro ps us i u nd h1 h2;have hm:(x,u)∈(ps.zip us).reverse:=List.mem_reverse.mpr (Ai (i:=i) (by rw[B0];exact⟨h1,h2⟩));have ndz:((ps.zip us).reverse.map (·.1)).Nodup:=by
  rw[List.map_reverse];refine(List.reverse_perm _).nodup_iff.mpr (nd.sublist ?_);exact(by
   clear hm h1 h2
   induction ps generalizing us with
   |nil=>exact List.nil_sublist _
   |cons p ps ih=>
    cases us with
    |nil=>exact List.nil_sublist _
    |cons v us=>exact(ih (AC.mp nd).2).cons₂ _)
 revert hm ndz;generalize (ps.zip us).reverse=l;intro hm ndz
 induction l with
 |nil=>exact nomatch hm
 |cons q l ih=>
  rw[AA,AC]at ndz
  rcases Ae.mp hm with e | e
  ·rw[←e,BN,beq_self_eq_true]
  ·have ne:(x==q.1)=false:=by
    refine Ce.mpr fun z=>ndz.1 (Ab.mpr ⟨(x,u),e,z⟩)
   obtain⟨q1,q2⟩:=q;rw[BN];dsimp only at ne⊢;rw[ne];exact ih e ndz.2
theorem sV{P:Program}{w:World}{K:W.Frag}{mg:Str→Option Value}{B:Heap}{k:Nat}{a c':Addr}{qual:Str}{params:Arguments}{body:Expr}{sc:Scope}{cl:List (Str×Addr)}{pm ctv:Value}{ps fr:List Str}{us:List V}{sp:Sp}(ha:B.get? a=some (W.kla_obj "<lambda>" qual params body sc cl pm c' ctv))(S:LamScope ps fr sc)(hul:us.length=fr.length)(hcl:∀(i:Nat) x v,fr[i]?=some x→us[i]?=some v→∃c u,cl.lookup x=some c∧B.IsCell c (some u)∧RelV v u)(inj:∀x y c,cl.lookup x=some c→cl.lookup y=some c→x=y)(call:∀x c,cl.lookup x=some c→∃v,B.IsCell c v)(rec:∀vs H Q E,sp vs H Q E→H c'=some (crO qual c'))(len:∀vs H Q E,sp vs H Q E→vs.length=ps.length)(hbody:∀(A:Around) (outer:List Env) (s:Shared) (H:Hp) (vs:List V) (Q:VK) (E:XK),Room k (A.deeper (W.envX qual sc s.heap.objs.size a (.ref c') cl))→sp vs H Q E→
   ∃t,PE (qW P w K mg B (ps++fr) qual sc a (.ref c') cl A outer s H) body t∧t (vs.map some++us.map some) H Q):
  FnOk P w K mg B CX0 (k+1) a (W.kla_fn "<lambda>" qual params body sc cl pm (.ref c') ctv) ps sp:=by
 refine⟨len,fun A outer s H args ws vs Q E hr e0 hb r hsp=>?_⟩;have hl:=len _ _ _ _ hsp;have keep:=fun b o e=>(e0.bs b o e).1;have lim:s.heap.NoLimit:=e0.mod.nolimit.keeps keep;obtain⟨crec,_⟩:=(show ObjOk P w H s.heap c' (crO qual c')from e0.hok c' _ (rec _ _ _ _ hsp));have npS:ps.Nodup:=(Bg.mp S.nd).1;refine W.kla_callFunE hr.depth (keep _ _ ha) rfl S.co S.gen rfl crec (hb _ _ _ _ ?_);refine wpAny_newFunctionEnv S.cell (fun y hy=>S.par y.1 (CL hy).1) (fun h₁ hns hsb=>⟨lim.fresh _ hsb,?_⟩) S.kind;show codeAny _ _ (.expr body (W.envX qual sc s.heap.objs.size a (.ref c') cl)) _ _;have hk₁:∀b o,s.heap.get? b=some o→h₁.get? b=some o:=fun b o e=>hsb.extBut b o (Ac (az e)) (af _ e);obtain⟨t,ht,hq⟩:=hbody A outer s H vs Q E (hr.deeper _) hsp;have cellK:∀c v,B.IsCell c v→h₁.IsCell c v:=fun c v ⟨o,e,d⟩=>⟨o,hk₁ _ _ (keep _ _ e),d⟩;have I:Inv (qW P w K mg B (ps++fr) qual sc a (.ref c') cl A outer s H) [] (vs.map some++us.map some) H {s with heap:=h₁,toks:=s.toks+(ps.zip ws).length}:=by
  have noA:∀b:Addr,b∉(qW P w K mg B (ps++fr) qual sc a (.ref c') cl A outer s H).ex:=fun b z=>absurd (show b∈([]:List Addr)from z) (by simp);refine⟨⟨e0.mod,S.kind,rfl,rfl,io _,inj,fun x hx=>?_,(fun x c h _=>Bool.noConfusion h),fun _=>hr.hd,Around.frames_deeper e0.frames,.inr ⟨rfl,rfl⟩,fun b z=>absurd z (noA b),e0.bs,e0.bsz,fun b _ _=>noA b,fun b z=>absurd z (noA b),e0.funs,e0.frf⟩,
   rfl,e0.bare,Un.kept hk₁,⟨_,hns,fun i y v h1 h2 h3=>?_⟩,fun x c e=>?_,e0.hok.fresh (Nat.le_refl _),fun x c e=>?_,fun p hp=>absurd (show p∈([]:List (Addr×Obj))from hp) (by simp),e0.hok.kept hk₁,?_⟩
  ·have hx:sc.names.lookup x=some .cell∨sc.names.lookup x=some .free:=hx
   rcases hx with hx | hx
   ·exact absurd rfl (S.cell _ (AL hx))
   ·obtain⟨i,hi⟩:=Br.mp (S.free x hx);have C5:i<us.length:=by rw[hul];exact(Ad.mp hi).1
    obtain⟨c,u,e,_⟩:=hcl i x us[i] hi (by simp[C5]);exact⟨c,e⟩
  ·have h1:(ps++fr)[i]?=some y:=h1;by_cases hi:i<vs.length
   ·rw[List.getElem?_append_left (by rw[←hl];exact hi)]at h1;rw[List.getElem?_append_left (by simpa using hi),List.getElem?_map]at h2;obtain⟨v',hv,e⟩:=An.mp h2;cases e;obtain⟨u,hu,rv⟩:=r.get hv;exact⟨u,rv,.inl ⟨S.par y (Ai h1),iR npS h1 hu⟩⟩
   ·have hi:vs.length≤i:=by omega
    rw[List.getElem?_append_right (by rw[←hl];exact hi)]at h1;rw[List.getElem?_append_right (by simpa using hi),List.getElem?_map,List.length_map]at h2;obtain⟨v',hv,e⟩:=An.mp h2;cases e;rw[hl]at hv;obtain⟨c,u,e1,e2,rv⟩:=hcl _ y v h1 hv;exact⟨u,rv,.inr ⟨.inr (S.fre y (Ai h1)),c,e1,cellK _ _ e2⟩⟩
  ·obtain⟨v,z⟩:=call x c e;exact⟨v,cellK _ _ z⟩
  ·obtain⟨v,o,z,_⟩:=call x c e;exact(e0.bs c o z).2
  ·show _=(ps++fr).length;rw[ba,ae,ae,ba,hl,hul]
 refine W.kla_codeExpr (A5 (ht [] _ _ H Q I hq) (fun v s' hs=>?_) fun _ _ z=>False.elim z);obtain⟨v',H',J,rv,q⟩:=hs;exact⟨v',H',J.os,J.bare,J.base,J.hok,rv,q⟩
def foO(ob:Obj)(a:Addr):HO:=.ext fun h=>h.get? a=some ob
theorem wv{P:Program}{w:World}{H:Hp}{h:Heap}{q:Str}{c:Addr}(r:h.CodeRec (.ref c) q):ObjOk P w H h c (crO q c):=by
 refine⟨r,?_,fun h1 h2 z k=>?_⟩
 ·obtain⟨c2,oc,vs,tq,e,ho,_⟩:=r;cases e;exact⟨oc,ho⟩
 ·obtain⟨c2,oc,vs,tq,e,ho,r⟩:=z;cases e;exact⟨c,oc,vs,tq,rfl,k _ ho,r⟩
theorem tu{P:Program}{w:World}{H:Hp}{h:Heap}{ob:Obj}{a:Addr}(e:h.get? a=some ob):ObjOk P w H h a (foO ob a):=⟨e,⟨ob,e⟩,fun _ _ z k=>k _ z⟩
def tLam(T:Addr)(pos:Pos)(q:Str)(mk:Value→Addr→Value→Obj):TE:=fun σ H Q=>LamAt T pos q H∧∀(a c:Addr)(pm ctv:Value)(H':Hp),Same (av T H) (av T H')→H a=none→a≠c→H' T=some (.tbl #[rawInt pos.line,rawInt pos.col,.ref c])→H' c=some (crO q c)→
 H' a=some (foO (mk pm c ctv) a)→Q (.ref a) H'
theorem wA(pos:Pos)(c:Value):codeAmong pos [rawInt pos.line,rawInt pos.col,c]=some c:=codeAmong_snoc [] trivial rfl
section
variable{X:Cx}{params:Arguments}{body:Expr}{sc:Scope}{pos:Pos}{c T:Addr}
theorem qg(hc:X.env.code=.ref c)(C:W.CodeHd X.base c T)(hgP:mainGlobals≠T)(hB:X.base.BuiltinsAt X.mg T)(hf:∀x∈sc.names,x.2=.free→∃c,X.env.cells.lookup x.1=some c)(hdef:defaultsOf params X.env=([],[]):=by rfl):
  PE X (.Lambda params body sc pos) (tLam T pos (X.env.qual++"<lambda>") fun pm c' ctv=>W.kla_obj "<lambda>" (X.env.qual++"<lambda>") params body sc (aR X.env sc.names) pm c' ctv):=by
 intro CZ s σ H Q I h;obtain⟨L,q⟩:=h;refine W.kla_eval hdef ?_;have hcl:=Tl hf;have tl:H T≠none:=by
  rcases L.tab with e | ⟨_,e,_⟩ <;> (rw[e];exact fun z=>nomatch z)
 have fresh:∀b,s.heap.objs.size≤b→H b=none:=fun b hb=>I.hok.fresh hb
 rcases L.tab with e | ⟨c',e,ec⟩
 ·have hP:s.heap.get? T=some (W.tabObj #[]):=I.hok T _ e;refine W.kla_makeFunction hcl I.ok.glob (I.mod.glob.keeps I.bk) hc (C.keeps I.bk) hP trivial rfl hgP (hB.keeps I.bk) fun c' ctv h' tk hx hge C5 hrec hT=>?_;have hT:h'.get? T=some (W.tabObj #[rawInt pos.line,rawInt pos.col,.ref c']):=hT;have Tlt:T<s.heap.objs.size:=az hP;have sz:s.heap.objs.size≤h'.objs.size:=BB (Nat.lt_of_le_of_lt hge C5);have na:H h'.objs.size=none:=fresh _ sz;have nc:H c'=none:=fresh _ hge;have cT:c'≠T:=AF (Av Tlt hge);have aT:h'.objs.size≠T:=AF (Av Tlt sz);have ac:h'.objs.size≠c':=AF C5;have kp:∀b o,b≠T→s.heap.get? b=some o→(h'.push (W.kla_obj "<lambda>" (X.env.qual++"<lambda>") params body sc (aR X.env sc.names) ((X.mg "__name__").getD .none) c' ctv)).get? b=some o:=fun b o nb e=>af _ (hx b o nb e);have eT:=af (W.kla_obj "<lambda>" (X.env.qual++"<lambda>") params body sc (aR X.env sc.names) ((X.mg "__name__").getD .none) c' ctv) hT;have ea:(h'.push (W.kla_obj "<lambda>" (X.env.qual++"<lambda>") params body sc (aR X.env sc.names) ((X.mg "__name__").getD .none) c' ctv)).get? h'.objs.size=some (W.kla_obj "<lambda>" (X.env.qual++"<lambda>") params body sc (aR X.env sc.names) ((X.mg "__name__").getD .none) c' ctv):=pi _ rfl;have er:(h'.push (W.kla_obj "<lambda>" (X.env.qual++"<lambda>") params body sc (aR X.env sc.names) ((X.mg "__name__").getD .none) c' ctv)).CodeRec (.ref c') (X.env.qual++"<lambda>"):=by
   obtain⟨c2,oc,vs,tq,e,ho,r⟩:=hrec;exact⟨c2,oc,vs,tq,e,af _ ho,r⟩
  generalize (h'.push (W.kla_obj "<lambda>" (X.env.qual++"<lambda>") params body sc (aR X.env sc.names) ((X.mg "__name__").getD .none) c' ctv))=g at kp eT ea er⊢;generalize hHn:upd (upd (upd H T (.tbl #[rawInt pos.line,rawInt pos.col,.ref c'])) c' (crO (X.env.qual++"<lambda>") c')) h'.objs.size (foO (W.kla_obj "<lambda>" (X.env.qual++"<lambda>") params body sc (aR X.env sc.names) ((X.mg "__name__").getD .none) c' ctv) h'.objs.size)=Hn;have at_a:Hn h'.objs.size=some (foO (W.kla_obj "<lambda>" (X.env.qual++"<lambda>") params body sc (aR X.env sc.names) ((X.mg "__name__").getD .none) c' ctv) h'.objs.size):=by rw[←hHn];exact Z5
  have at_c:Hn c'=some (crO (X.env.qual++"<lambda>") c'):=by rw[←hHn,Za (Ne.symm ac)];exact Z5
  have at_T:Hn T=some (.tbl #[rawInt pos.line,rawInt pos.col,.ref c']):=by rw[←hHn,Za (Ne.symm aT),Za (Ne.symm cT)];exact Z5
  have at_o:∀b,b≠h'.objs.size→b≠c'→b≠T→Hn b=H b:=fun b n1 n2 n3=>by rw[←hHn,Za n1,Za n2,Za n3]
  have at_s:∀b u,H b=some u→b≠T→Hn b=some u:=fun b u e nT=>by rw[at_o b (Zf e na) (Zf e nc) nT];exact e
  have un:Un X.fs [] H Hn s.heap g:=by
   have nT:∀b,H b=none→b≠T:=fun b n z=>by rw[z]at n;exact tl n
   refine⟨fun b o e n _ _=>kp b o (nT b n) e,fun b o e n _ _=>⟨o.slots,kp b o (nT b n) e⟩,fun b o e n _=>?_,fun b o e _=>?_,fun b xs e'=>at_s b _ e' (fun z=>by rw[z,e]at e';cases e'),fun b o xs e'=>at_s b _ e' (fun z=>by rw[z,e]at e';cases e'),fun b ps e'=>?_⟩
   ·have lt:=az e;rw[at_o b (Ac (Av lt sz)) (Ac (Av lt hge)) (nT b n)];exact n
   ·by_cases z:b=T
    ·subst z;exact⟨_,eT⟩
    ·exact⟨o,kp b o z e⟩
   ·by_cases z:b=T
    ·subst z;rw[e]at e';cases e';exact⟨#[rawInt pos.line,rawInt pos.col,.ref c'],at_T⟩
    ·exact⟨#[],by rw[at_s b _ e' z];simp⟩
  have hok:HOk X.prog X.w Hn g:=fun b u eb=>by
   by_cases h1:b=h'.objs.size
   ·subst h1;rw[at_a]at eb;cases eb;exact tu ea
   by_cases h2:b=c'
   ·subst h2;rw[at_c]at eb;cases eb;exact wv er
   by_cases h3:b=T
   ·subst h3;rw[at_T]at eb;cases eb;exact eT
   rw[at_o b h1 h2 h3]at eb;refine(I.hok b u eb).stay (fun d v hd qq=>kp d v (fun z=>?_) qq) (fun d qq=>at_s d _ qq (fun z=>by rw[z,e]at qq;cases qq)) fun d xs qq=>at_s d _ qq (fun z=>by rw[z,e]at qq;cases qq)
   rcases hd with y | y
   ·exact h3 (y.symm.trans z)
   ·rw[z,e]at y;cases y
  refine⟨.ref h'.objs.size,Hn,I.un (h':=g) (t':=tk) un hok,rfl,q _ c' _ ctv Hn (fun b u eb=>?_) na ac at_T at_c at_a⟩;obtain⟨b1,b2⟩:=Zh eb;rw[Zg b1];exact at_s b u b2 b1
 ·have hP:s.heap.get? T=some (W.tabObj #[rawInt pos.line,rawInt pos.col,.ref c']):=I.hok T _ e;refine W.kla_makeFunctionHit (cv:=.ref c') hcl I.ok.glob (I.mod.glob.keeps I.bk) hc (C.keeps I.bk) hP trivial (wA pos _) (hB.keeps I.bk) fun ctv h' tk hk hz=>?_;have na:H h'.objs.size=none:=fresh _ hz;have ac:h'.objs.size≠c':=fun z=>by rw[z,ec]at na;cases na
  have aT:h'.objs.size≠T:=fun z=>by rw[z,e]at na;cases na
  refine⟨.ref h'.objs.size,_,I.laid (t':=tk) (a:=h'.objs.size) (o:=foO (W.kla_obj "<lambda>" (X.env.qual++"<lambda>") params body sc (aR X.env sc.names) ((X.mg "__name__").getD .none) c' ctv) h'.objs.size) (fun b u eb=>af _ (hk b u eb)) hz (tu (pi _ rfl)),rfl,?_⟩;refine q _ c' _ ctv _ (fun b u eb=>?_) na ac (by rw[Za (Ne.symm aT)];exact e) (by rw[Za (Ne.symm ac)];exact ec) Z5;obtain⟨b1,b2⟩:=Zh eb;rw[Zg b1,Za (Zf b2 na)];exact b2
end
def uV(base h:Heap)(as:List Addr):Heap:=W.hideAll h ((List.range h.objs.size).filter fun b=>(base.get? b).isNone && !decide (b∈as))
theorem O4{base h:Heap}{as:List Addr}{b:Addr}{o:Obj}(e:h.get? b=some o)(k:(∃u,base.get? b=some u)∨b∈as):(uV base h as).get? b=some o:=W.hideAll_get _ e fun z=>by
 have z2:=(AH.mp z).2;rw[AX]at z2
 rcases k with⟨u,k⟩ | k
 ·rw[k]at z2;exact Bool.noConfusion z2.1
 ·rw[zy k]at z2;exact Bool.noConfusion z2.2
theorem lG{base h:Heap}{as:List Addr}{b:Addr}{o:Obj}(e:(uV base h as).get? b=some o):h.get? b=some o∧((∃u,base.get? b=some u)∨b∈as):=by
 have e1:=W.of_hideAll _ e;refine⟨e1,?_⟩;cases k:base.get? b with
 |some u=>exact .inl ⟨u,rfl⟩
 |none=>
  by_cases m:b∈as
  ·exact .inr m
  ·have:(uV base h as).get? b=none:=W.hideAll_none _ (AH.mpr ⟨CT.mpr (az e1),by rw[k,Ag m];rfl⟩);rw[e]at this;cases this
theorem Uk{base B h:Heap}:∀{l:List Env},h.FunFrames base l→(∀L∈frs l,B.get? L=none)→h.FunFrames B l
 | [],_,_=>trivial
 |env::l,⟨hk,⟨L,o,hf,_,ho,hd⟩,hr⟩,hn=>⟨hk,⟨L,o,hf,hn L (Q3 (.head _) hf),ho,hd⟩,Uk hr fun L' hL=>hn L' (by
  obtain⟨e,he,q⟩:=Bi.mp hL;exact Q3 (.tail _ he) q)⟩
theorem Inv.drop{X:Cx}{CZ:List (Addr×Obj)}{σ:St}{H:Hp}{s:Shared}{a:Addr}{φ:Heap→Prop}(I:Inv X CZ σ H s)(ea:H a=some (.ext φ)):Inv X CZ σ (av a H) s:=by
 have nn:∀b,H b=none→av a H b=none:=fun b n=>by
  by_cases z:b=a
  ·rw[z];exact Vl
  ·rw[Zg z];exact n
 have ne:∀b u,H b=some u→(∀ψ,u≠.ext ψ)→av a H b=some u:=fun b u e n=>by
  rw[Zg (fun z=>by rw[z,ea]at e;exact n φ (AK e).symm)];exact e
 refine⟨I.ok,I.os,I.bare,⟨I.base.keep,I.base.slot,fun b o e n hx=>nn b (I.base.free b o e n hx),I.base.there,fun b xs e=>ne b _ (I.base.tups b xs e) (fun _ z=>nomatch z),fun b o xs e=>ne b _ (I.base.frzs b o xs e) (fun _ z=>nomatch z),fun b ps e=>?_⟩,I.loc,I.cell,nn _ I.free,fun x c e=>nn c (I.freeC x c e),fun p hp=>?_,fun b u e=>?_,I.len⟩
 ·obtain⟨m,z⟩:=I.base.tbls b ps e;exact⟨m,ne b _ z (fun _ z=>nomatch z)⟩
 ·obtain⟨z1,z2,z3⟩:=I.pin p hp;exact⟨z1,nn _ z2,z3⟩
 ·obtain⟨b1,b2⟩:=Zh e;exact(I.hok b u b2).stay (fun _ _ _ q=>q) (fun c q=>ne c _ q (fun _ z=>nomatch z)) fun c xs q=>ne c _ q (fun _ z=>nomatch z)
structure HasB(P:Program)(w:World)(K:W.Frag)(mg:Str→Option Value)(x:Str)(k:Nat)(ps:List Str)(sp:Heap→Sp):Prop where
 ex:∃f fd,(∀base:Heap,K.In base→base.Ns mainGlobals mg→FnOk P w K mg base CX0 k f fd ps (sp base))∧Binds K fd ps []∧W.keepIn K (.ref f)=true∧mg x=some (.ref f)
structure Wid(X:Cx)(σ:St)(a:Addr)(ob:Obj)(B:Heap):Prop where
 kin:X.K.In B
 glb:B.Ns mainGlobals X.mg
 sub:∀b o,X.base.get? b=some o→B.get? b=some o
 fn:B.get? a=some ob
 cell:∀(i:Nat) x v,X.N[i]?=some x→σ[i]?=some (some v)→X.env.scope.names.lookup x=some .cell→∃c u,X.env.cells.lookup x=some c∧B.IsCell c (some u)∧RelV v u
 cells:∀x c,X.env.cells.lookup x=some c→∃v,B.IsCell c v
 inj:∀x y c,X.env.cells.lookup x=some c→X.env.cells.lookup y=some c→x=y
def ww(X:Cx)(sp:Heap→Sp)(t:TA):TE:=fun σ H Q=>t σ H fun vs H1=>∃a ob,H1 a=some (foO ob a)∧∀B,Wid X σ a ob B→sp B vs (av a H1) Q E0
section
variable{X:Cx}{j k:Nat}{ps:List Str}{sp:Heap→Sp}{x:Str}{p pos:Pos}{e:Expr}{es:List Expr}{t:TA}
theorem jv(h:HasB X.prog X.w X.K X.mg x j ps sp)(hfn:∀x,X.fn x=true)(hst:X.stack=X.env::X.outer)(hfr:X.env.frame=some X.env.locals)(hr:Room k X.A)(ha:PA X (e::es) t)(hg:Gl X x:=by rfl)(hj:j≤k:=by first | decide | omega)(hdb:(x==("__debug__":Str))=false:=by decide)(he:starEach (e::es) X.env=(false,eval e X.env)::starEach es X.env:=by rfl)(hpl:(backTo pos (starEach es X.env)).any (·.1)=false:=by rfl):
  PE X (.Call (.Name x p) (e::es) [] pos) (ww X sp t):=by
 intro CZ s σ H Q I q;obtain⟨f,fd,F,b,kp,m⟩:=h.ex;refine Bw (T7 I hg m ?_ hdb);refine W.callWith_K (h₀:=X.base) I.ok.mod.kin kp (thn (ha pos CZ s σ H _ I q) fun us s1 z=>?_) he hpl;obtain⟨vs,H1,I1,r,a,ob,ea,q⟩:=z;refine⟨I1.kIn,?_⟩;have I2:Inv X CZ σ (av a H1) s1:=I1.drop ea;have oa:s1.heap.get? a=some ob:=(show ObjOk X.prog X.w H1 s1.heap a (foO ob a)from I1.hok a _ ea).1;generalize hB:uV X.base s1.heap (a::X.env.cells.filterMap fun d=>X.env.cells.lookup d.1)=B;have cin:∀y c,X.env.cells.lookup y=some c→c∈a::X.env.cells.filterMap fun d=>X.env.cells.lookup d.1:=fun y c z=>.tail _ (Bi.mpr ⟨(y,c),AL z,z⟩);have cou:∀b,b∈a::X.env.cells.filterMap (fun d=>X.env.cells.lookup d.1)→b=a∨∃y,X.env.cells.lookup y=some b:=fun b hb=>by
  rcases Ae.mp hb with z | z
  ·exact .inl z
  ·obtain⟨d,_,e⟩:=Bi.mp z;exact .inr ⟨d.1,e⟩
 have sub:∀b o,X.base.get? b=some o→B.get? b=some o:=fun b o z=>hB ▸ O4 (I1.bk b o z) (.inl ⟨o,z⟩);have up:∀b o,B.get? b=some o→s1.heap.get? b=some o∧av a H1 b=none:=fun b o z=>by
  rw[←hB]at z;obtain⟨z1,z2⟩:=lG z;refine⟨z1,?_⟩
  rcases z2 with⟨u,z2⟩ | z2
  ·exact(I2.bs b u z2).2
  ·rcases cou b z2 with z3 | ⟨y,z3⟩
   ·rw[z3];exact Vl
   ·exact I2.freeC y b z3
 have clB:∀y c v,X.env.cells.lookup y=some c→s1.heap.IsCell c v→B.IsCell c v:=fun y c v e ⟨o,z,d⟩=>⟨o,hB ▸ O4 z (.inr (cin y c e)),d⟩;have nB:∀L∈frs X.stack,B.get? L=none:=fun L hL=>by
  cases z:B.get? L with
  |none=>rfl
  |some o=>
   exfalso;rw[←hB]at z;obtain⟨z1,z2⟩:=lG z
   rcases z2 with⟨u,z2⟩ | z2
   ·have:=(I1.stack.mem hL).1;rw[z2]at this;cases this
   ·rcases cou L z2 with z3 | ⟨y,z3⟩
    ·have:=I1.stkFree L hL;rw[z3,ea]at this;cases this
    ·rcases Ae.mp (I1.stkSub L hL)with z4 | z4
     ·exact I1.cne y L z3 z4
     ·obtain⟨_,o',ho',_⟩:=I1.ok.funs.mem z4;exact absurd (Av (az ho') (I1.ok.cab y L (hfn y) z3)) (BA _)
 have md:=I1.ok.mod;have kinB:X.K.In B:=fun b o z=>sub b o (md.kin b o z);have glbB:B.Ns mainGlobals X.mg:=md.glob.keeps sub;have modB:Mod X.K X.mg B:=⟨kinB,glbB,let ⟨mb,h1,h2⟩:=md.blt;⟨mb,h1.keeps sub,h2⟩,md.nolimit.keeps sub⟩;have szB:B.objs.size≤s1.heap.objs.size:=by rw[←hB];exact Nat.le_of_eq (W.hideAll_size _ _)
 have e0:Env0 X.prog X.w X.K X.mg B X.A X.stack s1 (av a H1):=⟨I2.ok.frames,modB,up,szB,Uk I1.stack nB,I2.stkFree,I2.hok,I2.bare⟩;have wid:Wid X σ a ob B:=by
  refine⟨kinB,glbB,sub,hB ▸ O4 oa (.inr (.head _)),fun i y v h1 h2 h3=>?_,fun y c z=>?_,I1.ok.inj⟩
  ·obtain⟨mm,_,hl⟩:=I1.loc;obtain⟨u,rv,lk⟩:=hl i y v h1 h2 (.inr (.inl h3))
   rcases lk with⟨h4,_⟩|⟨_,c,h5,h6⟩
   ·have h4:X.env.scope.names.lookup y=some .local:=h4;rw[h3]at h4;cases h4
   ·exact⟨c,u,h5,clB y c _ h5 h6,rv⟩
  ·obtain⟨v,h6⟩:=I1.cell y c z;exact⟨v,clB y c v z h6⟩
 have hsp:=q B wid;have FB:=(F B kinB glbB).mono hj;have hl:us.length=ps.length:=by rw[←r.length];exact FB.len _ _ _ _ hsp
 have hbi:=b s1 us I1.kIn (by rw[AN];exact hl);rw[AN]at hbi;refine wpAny_call (B6 (FB.run X.A X.stack s1 (av a H1) ⟨us,[]⟩ us vs Q E0 hr e0 hbi r hsp) fun r s' hq=>?_);cases r with
 |error e=>exact False.elim hq
 |ok fl=>
  cases fl with
  |ret u=>exact I2.after hq
  |next=>exact False.elim hq
  |brk=>exact False.elim hq
  |cont=>exact False.elim hq
end
def entH(Ts:List Addr)(s:Hp):Hp:=fun b=>if b∈Ts then some (.tbl #[])else s b
theorem oF{P:Program}{w:World}{K:W.Frag}{mg mb:Str→Option Value}{k:Nat}{fa a:Addr}{fd:FuncData}{x:Str}{sp:Sp}{s₁:Shared}{vs:List Value}{ns:List Int}{tabs:List (Addr×Addr)}(KX:K.In s₁.heap)(hns:s₁.heap.Ns mainGlobals mg)(hb:s₁.heap.Ns builtinsNs mb)(hbb:∀x:Str,x≠"__name__"→mb x=bootBuiltins x)(hlim:s₁.heap.NoLimit)(hg:s₁.gens=#[])(hbm:∃bm ob,mg "__builtins__"=some (.ref bm)∧bm≠builtinsNs∧s₁.heap.get? bm=some ob∧ob.cls=.type "module"∧ob.dict=some builtinsNs∧ob.data=.plain)(hT:W.TabsAt tabs s₁.heap)(hKT:∀T∈tabs.map (·.2),K.lookup T=none)(ha:s₁.heap.get? a=some {cls:=.type "list",data:=.seq vs.toArray})(hi:IntsAre vs ns)(hl:ns.length≤sizeLine)(hr:Room k callerA)(F:∀base:Heap,K.In base→base.Ns mainGlobals mg→(∀T∈tabs.map (·.2),base.BuiltinsAt mg T)→FnOk P w K mg base CX0 k fa fd [x] sp)(hbind:∀(s:Shared) (u:Value),BindsTo s fd ⟨[u],[]⟩ [(x,u)])(hsp:∀H:Hp,SqL K H a (ns.map V.int)→(∀T∈tabs.map (·.2),H T=some (.tbl #[]))→sp [.ref a] H (fun v _=>v=.bl true) fun _ _ _=>False):
  codeAny (model P w) callerA (.call (.ref fa) ⟨[.ref a],[]⟩) (fun r s'=>r=.ok (.ret (.bool true))∧OldK s₁.heap s'.heap∧s'.os=s₁.os∧AllBare s'.gens) s₁:=by
 have rv:=Uo hi;have lenV:=hi.length;have tabO:∀T∈tabs.map (·.2),s₁.heap.get? T=some (W.tabObj #[]):=fun T h=>by
  obtain⟨q,hq,rfl⟩:=Ab.mp h;exact(hT q hq).2
 have aT:a∉tabs.map (·.2):=fun z=>by
  have:=tabO a z;rw[ha]at this;cases this
 have core:∀S:Hp,SqL K S a (ns.map V.int)→HOk P w S s₁.heap→(∀b,S b≠none→b=a)→(S a≠none→K.lookup a=none)→(∀b u,S b=some u→∃o xs,u=.frz o (.lst xs))→
   codeAny (model P w) callerA (.call (.ref fa) ⟨[.ref a],[]⟩) (fun r s'=>r=.ok (.ret (.bool true))∧OldK s₁.heap s'.heap∧s'.os=s₁.os∧AllBare s'.gens) s₁:=by
  intro S hS hokS hA hK hfrz;generalize hHd:entH (tabs.map (·.2)) S=H;have HT:∀b,b∈tabs.map (·.2)→H b=some (.tbl #[]):=fun b h=>by rw[←hHd];exact Ah h
  have HS:∀b,b∉tabs.map (·.2)→H b=S b:=fun b h=>by rw[←hHd];exact Aj h
  have hok:HOk P w H s₁.heap:=fun b u e=>by
   by_cases m:b∈tabs.map (·.2)
   ·rw[HT b m]at e;cases e;exact tabO b m
   ·rw[HS b m]at e;obtain⟨o,xs,rfl⟩:=hfrz b u e;exact hokS b _ e
  have noN:∀{b:Addr}{o:Obj},s₁.heap.get? b=some o→(∀ps,o≠W.tabObj ps)→(∀xs n,o.data≠.seq xs n)→H b=none:=fun{b o} e n1 n2=>by
   by_cases m:b∈tabs.map (·.2)
   ·exact absurd (AK (e.symm.trans (tabO b m))) (n1 #[])
   ·rw[HS b m];cases q:S b with
    |none=>rfl
    |some u=>
     have e':b=a:=hA b (by rw[q];exact fun z=>nomatch z);subst e';rw[ha]at e;cases e;exact absurd rfl (n2 _ _)
  have base_of:∀{b:Addr}{o:Obj},s₁.heap.get? b=some o→H b=none→(fX s₁.heap H).get? b=some o:=fun e n=>p5 e n;have nsK:∀{b:Addr}{m:Str→Option Value},s₁.heap.Ns b m→(fX s₁.heap H).Ns b m:=fun{b m} ⟨o,es,ep,e,d,r⟩=>⟨o,es,ep,base_of e (noN e (fun ps z=>by rw[z]at d;cases d) fun xs n z=>by rw[z]at d;cases d),d,r⟩;have hKb:K.In (fX s₁.heap H):=fun b o e=>base_of (KX b o e) (by
   by_cases m:b∈tabs.map (·.2)
   ·rw[hKT b m]at e;cases e
   ·rw[HS b m];cases q:S b with
    |none=>rfl
    |some u=>
     have e':b=a:=hA b (by rw[q];exact fun z=>nomatch z);subst e';rw[hK (by rw[q];exact fun z=>nomatch z)]at e;cases e)
  have hM:Mod K mg (fX s₁.heap H):=⟨hKb,nsK hns,⟨mb,nsK hb,hbb⟩,let ⟨mc,h1,h2⟩:=hlim;⟨mc,nsK h1,h2⟩⟩;have hBt:∀T∈tabs.map (·.2),(fX s₁.heap H).BuiltinsAt mg T:=fun T m=>by
   obtain⟨bm,ob,b1,b2,b3,b4,b5,b6⟩:=hbm;refine⟨bm,ob,b1,b2,fun z=>?_,fun z=>?_,base_of b3 (noN b3 (fun ps z=>by rw[z]at b6;cases b6) fun xs n z=>by rw[z]at b6;cases b6),b4,b5,b6⟩
   ·obtain⟨o,es,ep,e,d,_⟩:=hns;rw[z,e]at b3;cases b3;rw[b6]at d;cases d
   ·rw[z,tabO T m]at b3;cases b3;cases b6
  have e0:Env0 P w K mg (fX s₁.heap H) callerA [] s₁ H:=⟨rfl,hM,fun b o e=>ur e,Nat.le_of_eq (nO _ _),trivial,fun b hb=>absurd (show b∈([]:List Addr)from hb) (by simp),hok,.of_eq hg⟩;have hS':SqL K H a (ns.map V.int):=by
   rcases hS with(h | ⟨o,h⟩) | h
   ·exact .inl (.inl (by rw[HS a aT];exact h))
   ·exact .inl (.inr ⟨o,by rw[HS a aT];exact h⟩)
   ·exact .inr h
  refine B6 ((F _ hKb (nsK hns) hBt).run callerA [] s₁ H ⟨[.ref a],[]⟩ [.ref a] [.ref a] _ _ hr e0 (hbind s₁ (.ref a)) (.cons rfl .nil) (hsp H hS' HT)) fun r s' h=>?_;cases r with
  |error e=>exact False.elim h
  |ok fl=>
   cases fl with
   |next=>exact False.elim h
   |brk=>exact False.elim h
   |cont=>exact False.elim h
   |ret u=>
    obtain⟨v,H',os,bare,un,hok',r',q⟩:=h;have q':v=.bl true:=q;subst q';obtain rfl:u=Value.bool true:=r';have oth:∀b o,s₁.heap.get? b=some o→b∉tabs.map (·.2)→s'.heap.get? b=some o:=fun b o e m=>by
     cases q:H b with
     |none=>exact un.keep b o e q (by intro z;exact absurd (show b∈([]:List Addr)from z) (by simp)) (by simp)
     |some u=>
      obtain⟨ob,xs,rfl⟩:=hfrz b u (by rw[←HS b m];exact q);have z2:=un.frzs b ob _ q;obtain⟨e1,_⟩:=hok b _ q;obtain⟨e2,_⟩:=hok' b _ z2;rw[e]at e1;cases e1;exact e2
    have tab:∀b,b∈tabs.map (·.2)→∃more,s'.heap.get? b=some (W.tabObj more):=fun b m=>by
     obtain⟨more,z⟩:=un.tbls b #[] (HT b m);exact⟨_,hok' b _ z⟩
    refine⟨rfl,⟨fun b o e=>?_,fun b o e=>?_⟩,os,bare⟩
    ·by_cases m:b∈tabs.map (·.2)
     ·obtain⟨more,z⟩:=tab b m;obtain⟨t,ht,rfl⟩:=Ab.mp m;rw[tabO _ m]at e;cases e;refine .inr (.inl ⟨((hT t ht).1.tab (hT t ht).2).isCodeTable,rfl,#[],more,rfl,?_⟩);rw[z];simp
     ·exact .inl (oth b o e m)
    ·by_cases m:b∈tabs.map (·.2)
     ·obtain⟨more,z⟩:=tab b m;exact⟨_,z⟩
     ·exact⟨o,oth b o e m⟩
 cases hk:K.lookup a with
 |some o=>
  have e:=KX a o hk;rw[ha]at e;cases e;refine core (fun _=>none) (.inr ⟨_,vs.toArray,_,hk,rfl,rfl,rfl,by rw[List.size_toArray,lenV];exact hl,by simpa using rv⟩) (fun b u z=>by have z':(none:Option HO)=some u:=z;cases z') (fun b z=>absurd rfl z) (fun z=>absurd rfl z) (fun b u z=>by have z':(none:Option HO)=some u:=z;cases z')
 |none=>
  refine core (fun b=>if b=a then some (.frz {cls:=.type "list",data:=.seq vs.toArray} (.lst (ns.map V.int)))else none) (.inl (.inr ⟨{cls:=.type "list",data:=.seq vs.toArray},Ah rfl⟩)) (fun b u z=>?_) (fun b z=>?_) (fun _=>hk) fun b u z=>?_
  ·by_cases hb:b=a
   ·have z':=(Ah hb).symm.trans z;cases z';subst hb;exact⟨ha,by rw[ae];exact hl,vs,_,rv,ha⟩
   ·have z':=(Aj hb).symm.trans z;cases z'
  ·by_cases hb:b=a
   ·exact hb
   ·exact absurd (Aj hb) z
  ·by_cases hb:b=a
   ·have z':=(Ah hb).symm.trans z;cases z';exact⟨_,_,rfl⟩
   ·have z':=(Aj hb).symm.trans z;cases z'
theorem walk_T{l:W.OpenLaw}{n k:Nat}{q:Program}{loose:List Str}{XP:(Str→Option Value)→Heap→Prop}{YP:World→Heap→Prop}{d:DefRec}{K:Params→W.Frag}{sp:World→Sp}{x:Str}{tabs:List (Addr×Addr)}(hn:l.most=some n)(hn2:n≤sizeLine)(hdf:d.params.defaults=[])(hr:Room k callerA)(hY:∀(w:World) (h:Heap),YP w h→(K w.params).In h)(hT:∀(w:World) (mg mb:Str→Option Value) (loose':List Str) (mean:ExcName→Option Value) (h:Heap),Top q loose' mean mg mb h→(K w.params).In h→W.TabsAt tabs h)(hKT:∀(w:World),∀T∈tabs.map (·.2),(K w.params).lookup T=none)(F:∀(w:World) (mg:Str→Option Value) (fa:Addr) (h:Heap),(K w.params).In h→h.Ns mainGlobals mg→mg d.name=some (.ref fa)→
   ∃fd:FuncData,(∀(s:Shared) (u:Value),BindsTo s fd ⟨[u],[]⟩ [(x,u)])∧
    ∀base:Heap,(K w.params).In base→base.Ns mainGlobals mg→(∀T∈tabs.map (·.2),base.BuiltinsAt mg T)→FnOk l.prog w (K w.params) mg base CX0 k fa fd [x] (sp w))(hsp:∀(w:World) (H:Hp) (a:Addr) (ns:List Int),ns.length≤n→SqL (K w.params) H a (ns.map V.int)→(∀T∈tabs.map (·.2),H T=some (.tbl #[]))→sp w [.ref a] H (fun v _=>v=.bl true) fun _ _ _=>False):
  W.WalkO q loose XP YP l.row.toRowW d [] (fun f vs=>PySem.call f vs):=by
 refine Att.attach_call hn hdf fun w s₀ s₁ mg mb fa o pm cd doc a vs ns G Y ho hd hcd hmg hobj hints De hg=>?_;have KX:=hY w _ Y;obtain⟨fd,hb,hF⟩:=F w mg fa _ KX G.T.g hmg;exact oF KX G.T.g G.T.b G.T.builtins G.T.nolimit hg G.T.bmain (hT w mg mb _ _ _ G.T KX) (hKT w) hobj hints (AU De hn2) hr hF hb (fun H hS hTT=>hsp w H a ns De hS hTT)
def xA(K:W.Frag):List V→Hp→VK→Prop:=fun xs H Q=>∃p ys,xs=[.ref p]∧(SqL K H p ys∨SqT K H p ys)∧∀l,H l=none→Q (.ref l) (upd H l (.lst ys))
theorem Og{X:Cx}(K:W.Frag)(hK:X.K=K):bu X (.type "list") (xA K):=by subst hK;exact hO
def Itz(K:W.Frag)(a b:Addr):It:=
 ⟨fun i H=>∃xs ys x y,SqL K H a xs∧SqL K H b ys∧xs[i]?=some x∧ys[i]?=some y,
  fun i H u H'=>∃T x y,u=.ref T∧H T=none∧H'=upd H T (.tup [x,y])∧∀xs ys,SqL K H a xs→SqL K H b ys→xs[i]?=some x∧ys[i]?=some y,
  fun i H=>∃xs ys,SqL K H a xs∧SqL K H b ys∧(xs.length≤i∨ys.length≤i)⟩
section
variable{X:Cx}{CZ:List (Addr×Obj)}{σ:St}{H:Hp}{s:Shared}{h':Heap}
theorem Inv.turnedL{t':Nat}{ch:List Addr}(I:Inv X CZ σ H s)(k:∀b o,b∉ch→s.heap.get? b=some o→h'.get? b=some o)(hc:∀b∈ch,dg X CZ H b):Inv X CZ σ H {s with heap:=h',toks:=t'}:=by
 have nit:∀b u,H b=some u→b∉ch:=fun b u e z=>by rw[(hc b z).1]at e;cases e
 refine I.step (g':=s.gens) (d':=s.drawn) (ch:=ch) (fun b hb=>?_) (fun b o _ _ hc e _=>k b o hc e) (fun b o _ _ hc e _=>⟨o.slots,k b o hc e⟩) (fun _ _ _ _ n=>n) (fun b o hc e=>⟨o,k b o hc e⟩) (fun _ _ e=>e) (fun _ _ _ e=>e) (fun b ps e=>⟨#[],by rw[e];simp⟩) (fun m hm=>?_) (fun b u e=>?_) I.bare
 ·obtain⟨f0,f1,f2,f3,f4,f5⟩:=hc b hb;exact⟨f3,f1,f4,f5⟩
 ·obtain⟨o,es,ep,ho,r⟩:=hm;exact⟨o,es,ep,k _ o (fun z=>(hc _ z).2.1 rfl) ho,r⟩
 ·refine(I.hok b u e).stay (fun c v hc q=>k c v ?_ q) (fun _ q=>q) fun _ _ q=>q
  rcases hc with z | z
  ·rw[z];exact nit b u e
  ·exact nit c _ z
theorem Inv.zipped{t':Nat}{ch:List Addr}{T:Addr}{o:HO}(I:Inv X CZ σ H s)(k:∀b o,b∉ch→s.heap.get? b=some o→h'.get? b=some o)(hc:∀b∈ch,dg X CZ H b)(hT:s.heap.objs.size≤T)(new:ObjOk X.prog X.w (upd H T o) h' T o):Inv X CZ σ (upd H T o) {s with heap:=h',toks:=t'}:=by
 have hn:=I.hok.fresh hT;have nit:∀b u,H b=some u→b∉ch:=fun b u e z=>by rw[(hc b z).1]at e;cases e
 have up:∀{b:Addr}{u:HO},H b=some u→upd H T o b=some u:=fun{b u} e=>by rw[Za (Zf e hn)];exact e
 refine I.step (g':=s.gens) (d':=s.drawn) (ch:=ch) (fun b hb=>?_) (fun b o _ _ hc e _=>k b o hc e) (fun b o _ _ hc e _=>⟨o.slots,k b o hc e⟩) (fun b o' _ e n=>?_) (fun b o hc e=>⟨o,k b o hc e⟩) (fun _ _ e=>up e) (fun _ _ _ e=>up e) (fun b ps e=>⟨#[],by rw[up e];simp⟩) (fun m hm=>?_) (fun b u e=>?_) I.bare
 ·obtain⟨f0,f1,f2,f3,f4,f5⟩:=hc b hb;exact⟨f3,f1,f4,f5⟩
 ·rw[Za (Ac (Av (az e) hT))];exact n
 ·obtain⟨o,es,ep,ho,r⟩:=hm;exact⟨o,es,ep,k _ o (fun z=>(hc _ z).2.1 rfl) ho,r⟩
 ·by_cases hb:b=T
  ·subst hb;rw[Z5]at e;cases e;exact new
  ·rw[Za hb]at e;refine(I.hok b u e).stay (fun c v hc q=>k c v ?_ q) (fun _ q=>up q) fun _ _ q=>up q
   rcases hc with z | z
   ·rw[z];exact nit b u e
   ·exact nit c _ z
end
abbrev zu(z TI TO i1 i2 l1 l2:Addr):Nat→Heap→Prop:=fun i h=>IsZip h z TI TO .none∧IsPair h TI (.ref i1) (.ref i2)∧(∃a b,IsPair h TO a b)∧h.IsListIter i1 l1 i∧h.IsListIter i2 l2 i
theorem sd{P:Program}{w:World}{K:W.Frag}{elts:List Expr}{k:Nat}{pos:Pos}{z TI TO i1 i2 l1 l2:Addr}(D:ZipApart z TI TO i1 i2 l1 l2):Turn P w K (.Tuple elts k pos) (Itz K l1 l2) [z,TI,TO,i1,i2] z (zu z TI TO i1 i2 l1 l2) where
 mem:=by simp
 obj:=fun i h st b hb=>by
  obtain⟨hz,hTI,⟨a',b',hTO⟩,⟨o1,e1,c1,d1⟩,o2,e2,c2,d2⟩:=st;simp only[List.mem_cons,List.not_mem_nil,or_false]at hb
  rcases hb with rfl | rfl | rfl | rfl | rfl
  ·exact⟨_,hz,fun v q=>(nomatch q)⟩
  ·exact⟨_,hTI,fun v q=>(nomatch q)⟩
  ·exact⟨_,hTO,fun v q=>(nomatch q)⟩
  ·exact⟨o1,e1,fun v q=>by rw[d1]at q;cases q⟩
  ·exact⟨o2,e2,fun v q=>by rw[d2]at q;cases q⟩
 keep:=fun i h h' st kk=>by
  obtain⟨hz,hTI,⟨a,b,hTO⟩,h1,h2⟩:=st;exact⟨kk z (by simp) _ hz,kk TI (by simp) _ hTI,⟨a,b,kk TO (by simp) _ hTO⟩,h1.at fun o e=>kk i1 (by simp) o e,h2.at fun o e=>kk i2 (by simp) o e⟩
 item:=by
  intro X hP hw hK hc i CZ s σ H E I hf st hg;subst hP hw hK;obtain⟨xs,ys,x,y,hq1,hq2,hx,hy⟩:=hg;obtain⟨its1,rv1,p1,hz1⟩:=I.list hq1;obtain⟨its2,rv2,p2,hz2⟩:=I.list hq2;obtain⟨u,hu,ru⟩:=rv1.get hx;obtain⟨v,hv,rv⟩:=rv2.get hy;obtain⟨hz,hTI,⟨a,b,hTO⟩,h1,h2⟩:=st;refine wpAny_pyNext_zip_item D hz hTI hTO h1 h2 p1.isList p2.isList (x:=u) (y:=v) (by simpa using hu) (by simpa using hv) fun h' a1 a2 a3 a4 a5 a6 hk=>?_;refine⟨_,rfl,?_⟩;refine wpAny_letOwnedTupleGo_zip (s:={s with heap:=h'}) a1 fun h2' z' sb=>?_;have lt:∀{c o},s.heap.get? c=some o→c≠s.heap.objs.size:=fun e=>Ac (az e);have Tz:s.heap.objs.size≠z:=Ne.symm (lt hz);have l1':i1≠s.heap.objs.size:=by obtain⟨o,e,_⟩:=h1;exact lt e
  have l2':i2≠s.heap.objs.size:=by obtain⟨o,e,_⟩:=h2;exact lt e
  refine⟨.ref s.heap.objs.size,upd H s.heap.objs.size (.tup [x,y]),?_,rfl,⟨s.heap.objs.size,x,y,rfl,I.hok.fresh (io _),rfl,fun xs' ys' e1 e2=>?_⟩,?_,fun b hb=>?_⟩
  ·refine I.zipped (t':=s.toks) (ch:=[z,TI,TO,i1,i2]) (fun b o hb e=>?_) hf (io _) ⟨by show(2:Nat)≤sizeLine;decide,[u,v],.cons ru (.cons rv .nil),?_⟩
   ·simp only[List.mem_cons,List.not_mem_nil,or_false,not_or]at hb;obtain⟨b1,b2,b3,b4,b5⟩:=hb;exact sb.extBut _ _ b1 (hk b o b1 b3 b4 b5 e)
   ·exact⟨_,sb.extBut _ _ Tz a5,⟨rfl,rfl⟩,_,rfl⟩
  ·rw[I.list_inj e1 hq1,I.list_inj e2 hq2];exact⟨hx,hy⟩
  ·exact⟨z',sb.extBut _ _ D.TIz (hk _ _ D.TIz D.TITO D.TIi1 D.TIi2 hTI),⟨_,_,sb.extBut _ _ D.TOz a2⟩,a3.extBut sb.extBut D.i1z,a4.extBut sb.extBut D.i2z⟩
  ·have bn:b≠s.heap.objs.size:=by
    simp only[List.mem_cons,List.not_mem_nil,or_false]at hb
    rcases hb with rfl | rfl | rfl | rfl | rfl
    ·exact lt hz
    ·exact lt hTI
    ·exact lt hTO
    ·exact l1'
    ·exact l2'
   rw[Za bn];exact(hf b hb).1
 done:=by
  intro X hP hw hK hc i CZ s σ H E I hf st hg;subst hP hw hK;obtain⟨xs,ys,hq1,hq2,hx⟩:=hg;obtain⟨its1,rv1,p1,hz1⟩:=I.list hq1;obtain⟨its2,rv2,p2,hz2⟩:=I.list hq2;obtain⟨hz,hTI,⟨a,b,hTO⟩,h1,h2⟩:=st;have e1:=rv1.length;have e2:=rv2.length;refine wpAny_pyNext_zip_end (I.ok.hd hc) D hz hTI hTO h1 h2 p1.isList p2.isList ?_ fun h' hk=>⟨rfl,I.turnedL (t':=s.toks) (ch:=[z,TI,TO,i1,i2]) (fun b o hb e=>?_) hf⟩
  ·rcases hx with hx | hx
   ·exact .inl (by simp;omega)
   ·exact .inr (by simp;omega)
  ·simp only[List.mem_cons,List.not_mem_nil,or_false,not_or]at hb;obtain⟨b1,b2,b3,b4,b5⟩:=hb;exact hk b o b1 b3 b4 b5 e
 self:=fun _ _ _ _ _ st h=>CG st.1 h
def iZip(K:W.Frag)(ta:TA):TI:=fun σ H R=>ta σ H fun vs H1=>∃a b,vs=[.ref a,.ref b]∧(∃xs,SqL K H1 a xs)∧(∃ys,SqL K H1 b ys)∧R (Itz K a b) H1
theorem wJ{X:Cx}{elts:List Expr}{n:Nat}{tp:Pos}{a b:Expr}{ta:TA}{p pos:Pos}(hg:Gl X "zip")(hm:X.mg "zip"=none)(ha:PA X [a,b] ta)(hs:starEach [a,b] X.env=[(false,eval a X.env),(false,eval b X.env)]:=by rfl)(hs2:starEach [b] X.env=[(false,eval b X.env)]:=by rfl):
  PI X (.Tuple elts n tp) (.Call (.Name "zip" p) [a,b] [] pos) (iZip X.K ta):=by
 intro CZ s σ H R I h;refine Call_ (U2 I hg hm boot_zip (Be (thn (ha pos CZ s σ H _ I h) fun us s1 ⟨vs,H1,I1,r1,q1⟩=>?_) (by rw[hs,hs2]) (by rw[hs2];rfl)));obtain⟨l1,l2,e,⟨xs,hq1⟩,⟨ys,hq2⟩,q⟩:=q1;subst e;cases r1 with
 |cons r rr=>
  cases rr with
  |cons r' rr=>
   cases rr;cases r;cases r';obtain⟨its1,rv1,p1,hz1⟩:=I1.list hq1;obtain⟨its2,rv2,p2,hz2⟩:=I1.list hq2;have lt1:l1<s1.heap.objs.size:=by obtain⟨o,e,_⟩:=p1.isList;exact az e
   have lt2:l2<s1.heap.objs.size:=by obtain⟨o,e,_⟩:=p2.isList;exact az e
   have D:ZipApart (s1.heap.objs.size+4) (s1.heap.objs.size+2) (s1.heap.objs.size+3) s1.heap.objs.size (s1.heap.objs.size+1) l1 l2:=by constructor <;> (unfold Addr at *;omega)
   refine call_zip_2 p1.isList p2.isList fun h' c1 c2 c3 c4 c5 c6 hk=>?_;refine CG (s:={s1 with heap:=h'}) c1 ?_;refine⟨_,[_,_,_,_,_],_,_,H1,rfl,I1.kept (t':=s1.toks) hk,sd D,⟨c1,c2,⟨_,_,c3⟩,c4,c5⟩,fun b hb=>?_,q⟩;have hb':s1.heap.objs.size≤b:=by
    simp only[List.mem_cons,List.not_mem_nil,or_false]at hb
    rcases hb with rfl | rfl | rfl | rfl | rfl
    ·exact A8 _ _
    ·exact A8 _ _
    ·exact A8 _ _
    ·exact io _
    ·exact A8 _ _
   exact I1.fpOk hb' (I1.hok.fresh hb')
theorem qR{K:W.Frag}{a b:Addr}{xs zs:List V}{k:Nat}{g:TG}{tt:TT}{te:TE}{σ:St}{H:Hp}{Q:VK}(Pv:Nat→List V→Hp→Prop)(h0:Pv 0 [] H)(hl:∀i ys H,i≤min xs.length zs.length→Pv i ys H→SqL K H a xs∧SqL K H b zs)(hs:∀i x z ys H (T:Addr) (C:List V→Hp→Prop),xs[i]?=some x→zs[i]?=some z→Pv i ys H→H T=none→(∀ys' H',Pv (i+1) ys' H'→C ys' H')→ys.length<sizeLine∧g (.ref T) (List.replicate k none++σ) (upd H T (.tup [x,z])) fun σ2 H2=>Wk σ2 (List.replicate k none++σ)∧tt σ2 H2 fun ok H3=>
   if ok=true then te σ2 H3 fun y H4=>C (ys++[y]) H4 else C ys H3)(De:∀i ys H,i<min xs.length zs.length→Pv i ys H→ys.length<sizeLine)(hd:∀ys H,Pv (min xs.length zs.length) ys H→ys.length≤sizeLine∧∀p,H p=none→Q (.ref p) (upd H p (.lst ys))):
  CompR (Itz K a b) H k g tt te σ Q:=by
 refine⟨fun i m ys H=>m=min xs.length zs.length-i∧i≤min xs.length zs.length∧Pv i ys H,⟨min xs.length zs.length,by simp,Nat.zero_le _,h0⟩,?_⟩;rintro i m ys H ⟨rfl,hi,p⟩;obtain⟨q1,q2⟩:=hl i ys H hi p;by_cases C5:i<min xs.length zs.length
 ·refine .inr ⟨⟨xs,zs,xs[i]'(by omega),zs[i]'(by omega),q1,q2,Ak _,Ak _⟩,De i ys H C5 p,?_⟩;rintro _ _ ⟨T,x,z,rfl,nT,rfl,hy⟩;obtain⟨e1,e2⟩:=hy xs zs q1 q2;exact(hs i x z ys H T (fun ys' H'=>∃m',m'<min xs.length zs.length-i∧m'=min xs.length zs.length-(i+1)∧i+1≤min xs.length zs.length∧Pv (i+1) ys' H') e1 e2 p nT (fun ys' H' h=>⟨_,by omega,rfl,C5,h⟩)).2
 ·have e:i=min xs.length zs.length:=Nat.le_antisymm hi (Nat.le_of_not_lt C5);subst e;exact .inl ⟨⟨xs,zs,q1,q2,by omega⟩,hd ys H p⟩
theorem uS{X:Cx}:OpR X (compareOp .IsNot) (fun x y H Q=>∃k:Bool,x=.bl k∧y=.bl true∧Q (.bl (!k)) H):=by
 intro CZ s σ H x y v u Q I rx ry h;obtain⟨k,rfl,rfl,q⟩:=h;cases rx;cases ry;exact wpAny_isNot_plain (by cases k <;> rfl) (Zw I q (by cases k <;> rfl))
def sRen(N N':List Str)(t:TS):TS:=fun D σ H=>Hid N N' σ∧t {nx:=fun σ' H'=>Hid N N' σ'∧D.nx σ' H',rt:=fun _ _=>False} σ H
theorem xk{X:Cx}{st:Stmt}{t:TS}(N':List Str)(h:PS (X.ren N') st t)(hl:N'.length=X.N.length:=by rfl):PS X st (sRen X.N N' t):=by
 intro CZ s σ H D I q;refine thn (h CZ s σ H _ (I.ren hl q.1) q.2) fun f s1 hf=>?_;cases f with
 |next=>
  obtain⟨σ',H',I',q1,q2⟩:=hf;exact⟨σ',H',I'.unren hl q1,q2⟩
 |brk=>
  obtain⟨σ',H',I',q1⟩:=hf;exact q1.elim
 |cont=>
  obtain⟨σ',H',I',q1⟩:=hf;exact q1.elim
 |ret u=>
  obtain⟨v,σ',H',I',r,q1⟩:=hf;exact q1.elim
section
variable{X:Cx}
end
section
variable{K:W.Frag}{S:Addr}{ns:List Int}{H H':Hp}{a p:Addr}
end
abbrev Ris(ps:Array Nat):Prop:=ps.toList.Pairwise (·<·)
theorem Sb{ps:Array Nat}(h:Ris ps){i k:Nat}(hik:i<k)(hk:k<ps.size):ps[i]'(by omega)<ps[k]:=by
 have:=List.pairwise_iff_getElem.mp h i k (by rw[Ax];omega) (by rw[Ax];exact hk) hik;simpa using this
structure Cut(ps:Array Nat)(j b:Nat):Prop where
 le:b≤ps.size
 lo:∀i (h:i<ps.size),i<b→ps[i]<j
 hi:∀i (h:i<ps.size),b≤i→j≤ps[i]
theorem ki{ps:Array Nat}{j:Nat}(h:Ris ps):∀(fuel lo hi:Nat),hi≤ps.size→lo≤hi→hi-lo≤fuel→(∀i (q:i<ps.size),i<lo→ps[i]<j)→(∀i (q:i<ps.size),hi≤i→j≤ps[i])→Cut ps j (SetTable.below.go ps j fuel lo hi)
 | 0,lo,hi,h1,h2,h3,h4,h5=>by
  have e:lo=hi:=by omega
  subst e;exact⟨h1,h4,h5⟩
 |fuel+1,lo,hi,h1,h2,h3,h4,h5=>by
  show Cut ps j (if lo<hi then if ps.getD ((lo+hi) / 2) j<j then SetTable.below.go ps j fuel ((lo+hi) / 2+1) hi else SetTable.below.go ps j fuel lo ((lo+hi) / 2)else lo);by_cases c:lo<hi
  ·rw[Ah c];have hm:(lo+hi) / 2<ps.size:=by omega
   have eg:ps.getD ((lo+hi) / 2) j=ps[(lo+hi) / 2]:=by
    simp[Array.getD,hm]
   rw[eg];by_cases d:ps[(lo+hi) / 2]<j
   ·rw[Ah d];refine ki h fuel _ _ h1 (by omega) (by omega) (fun i q hi2=>?_) h5;by_cases e:i=(lo+hi) / 2
    ·subst e;exact d
    ·exact Bl (Sb h (i:=i) (k:=(lo+hi) / 2) (by omega) hm) d
   ·rw[Aj d];refine ki h fuel _ _ (by omega) (by omega) (by omega) h4 (fun i q hi2=>?_);by_cases e:i=(lo+hi) / 2
    ·subst e;omega
    ·have:=Sb h (i:=(lo+hi) / 2) (k:=i) (by omega) q;omega
  ·rw[Aj c];have e:lo=hi:=by omega
   subst e;exact⟨h1,h4,h5⟩
theorem Rg{ps:Array Nat}(h:Ris ps)(j:Nat):Cut ps j (SetTable.below ps j):=
 ki h ps.size 0 ps.size (io _) (Bc _) (by omega) (fun i q z=>by omega) (fun i q z=>by omega)
theorem uy{ps:Array Nat}{j b:Nat}(h:Ris ps)(c:Cut ps j b)(hm:j∈ps.toList):ps[b]?=some j:=by
 obtain⟨k,hk,e⟩:=B7.mp hm;rw[Ax]at hk;have e:ps[k]=j:=by simpa using e
 have kb:b≤k:=by
  by_cases q:k<b
  ·have:=c.lo k hk q;omega
  ·omega
 have bk:b=k:=by
  by_cases q:b=k
  ·exact q
  ·have h1:=Sb h (i:=b) (k:=k) (by omega) hk;have h2:=c.hi b (by omega) (io _);omega
 subst bk;rw[Aw hk,e]
theorem kW{t:SetTable}(h:Ris t.place){j:Nat}(e:t.slot j=.empty):j∉t.place.toList:=fun hm=>by
 have q:=uy h (Rg h j) hm;have e:(if (t.place[SetTable.below t.place j]? == some j)=true then SetTable.Slot.live (SetTable.below t.place j)else if SetTable.has t.dummies j=true then SetTable.Slot.dummy else SetTable.Slot.empty)=SetTable.Slot.empty:=e;rw[q]at e;simp at e
theorem hZ{t:SetTable}(hd:t.dummies=#[])(j:Nat):t.slot j≠.dummy:=by
 unfold SetTable.slot;have:SetTable.has t.dummies j=false:=by
  rw[hd];unfold SetTable.has;rfl
 rw[this];intro e;by_cases c:(t.place[SetTable.below t.place j]? == some j)=true
 ·simp[c]at e
 ·simp[c]at e
theorem oH(t:SetTable)(p:SetTable.Probe)(h:p.dummy=none):(t.advance p).dummy=none:=by
 unfold SetTable.advance;by_cases c:p.more > 0
 ·rw[Ah c];exact h
 ·rw[Aj c];exact h
theorem Rj{t:SetTable}(hd:t.dummies=#[]){hashAt:Nat→Int}{h:Int}:∀(fuel:Nat)(p:SetTable.Probe),p.dummy=none→∀{j d},SetTable.probe.go t hashAt h fuel p=some (.empty j d)→d=none∧t.slot j=.empty
 | 0,p,hp,j,d,e=>by cases e
 |fuel+1,p,hp,j,d,e=>by
  have e:(match t.slot p.j with
   |.empty=>some (SetTable.Met.empty p.j p.dummy)
   |.dummy=>SetTable.probe.go t hashAt h fuel (t.advance {p with dummy:=some p.j})
   |.live i=>if (hashAt i==h)=true then some (SetTable.Met.candidate p.j i (t.advance p))else SetTable.probe.go t hashAt h fuel (t.advance p))=some (.empty j d):=e
  cases q:t.slot p.j with
  |empty=>
   rw[q]at e;cases e;exact⟨hp,q⟩
  |dummy=>exact absurd q (hZ hd _)
  |live i=>
   rw[q]at e;by_cases c:(hashAt i==h)=true
   ·simp[c]at e
   ·simp[c]at e;exact Rj hd fuel _ (oH t p hp) e
theorem n5{t:SetTable}(hr:Ris t.place)(hd:t.dummies=#[]){h:Int}{j:Nat}{d:Bool}(e:t.freeSlot h=some (j,d)):d=false∧j∉t.place.toList:=by
 unfold SetTable.freeSlot at e;generalize q:t.probe (fun _=>h+1) h (t.probeStart h)=r at e
 match r with
 |none=>cases e
 |some (.candidate _ _ _)=>cases e
 |some (.empty j' d')=>
  obtain⟨e1,e2⟩:=Rj hd _ _ (show(t.probeStart h).dummy=none from rfl) q;subst e1;cases e;exact⟨rfl,kW hr e2⟩
theorem Od{α:Type}(xs:Array α)(p:Nat)(x:α)(hp:p≤xs.size):(SetTable.insertAt xs p x).toList=xs.toList.take p++x::xs.toList.drop p:=by
 unfold SetTable.insertAt;simp[Array.toList_append,Array.toList_extract,List.extract_eq_drop_take];rw[List.take_of_length_le (by simp)]
theorem j7{ps:Array Nat}(h:Ris ps){j:Nat}(hn:j∉ps.toList):Ris (SetTable.insertAt ps (SetTable.below ps j) j):=by
 have c:=Rg h j;show(SetTable.insertAt ps (SetTable.below ps j) j).toList.Pairwise (·<·);rw[Od _ _ _ c.le,List.pairwise_append];refine⟨h.sublist (CB _ _),Aq.mpr ⟨fun y hy=>?_,h.sublist (List.drop_sublist _ _)⟩,fun y hy z hz=>?_⟩
 ·obtain⟨k,hk,rfl⟩:=B7.mp hy;rw[Bx,Ax]at hk;rw[List.getElem_drop];have:=c.hi (SetTable.below ps j+k) (by omega) (by omega);have ne:ps[SetTable.below ps j+k]'(by omega)≠j:=fun q=>hn (by
   rw[←q];exact Array.getElem_mem_toList _)
  have e:ps.toList[SetTable.below ps j+k]'(by rw[Array.length_toList];omega)=ps[SetTable.below ps j+k]'(by omega):=by simp
  rw[e];omega
 ·obtain⟨k,hk,rfl⟩:=B7.mp hy;rw[Am,Ax]at hk;rw[List.getElem_take];have e:ps.toList[k]'(by rw[Array.length_toList];omega)=ps[k]'(by omega):=by simp
  rw[e];have l1:=c.lo k (by omega) (by omega)
  rcases Ae.mp hz with rfl | hz
  ·exact l1
  ·obtain⟨k2,hk2,rfl⟩:=B7.mp hz;rw[Bx,Ax]at hk2;rw[List.getElem_drop];have:=c.hi (SetTable.below ps j+k2) (by omega) (by omega);have e2:ps.toList[SetTable.below ps j+k2]'(by rw[Array.length_toList];omega)=ps[SetTable.below ps j+k2]'(by omega):=by simp
   rw[e2];omega
theorem nL(n:Nat):Ris (Array.range n):=by
 show(Array.range n).toList.Pairwise (·<·);rw[Array.toList_range];exact List.pairwise_lt_range
theorem Sc{f:Nat→Option (Nat×Nat)}(hf:∀j x,f j=some x→x.1=j):∀(l:List Nat),l.Pairwise (·<·)→((l.filterMap f).map (·.1)).Pairwise (·<·)
 | [],_=>List.Pairwise.nil
 |a::l,h=>by
  obtain⟨h1,h2⟩:=Aq.mp h;have ih:=Sc hf l h2;rw[BU];cases q:f a with
  |none=>exact ih
  |some x=>
   show(x.1::(l.filterMap f).map (·.1)).Pairwise (·<·);refine Aq.mpr ⟨fun y hy=>?_,ih⟩;obtain⟨z,hz,rfl⟩:=Ab.mp hy;obtain⟨k,hk,e⟩:=Bi.mp hz;rw[hf a x q,hf k z e];exact h1 k hk
structure Gd(t:SetTable)(b:Bool):Prop where
 ris:Ris t.place
 dum:t.dummies=#[]
 led:t.led=b
theorem U3{t:SetTable}{b:Bool}(h:Gd t b)(n:Nat):Gd (t.standIn n) b:=⟨nL n,rfl,h.led⟩
theorem vE{mask finger moves:Nat}{led plain:Bool}{hashes:Array Int}{t:SetTable}{o:Array Nat}(e:SetTable.laid mask finger moves led plain hashes=some (t,o)):Gd t led:=by
 unfold SetTable.laid at e;obtain⟨owner,_,e⟩:=Option.bind_eq_some_iff.mp e;cases e;refine⟨?_,rfl,rfl⟩;refine Sc (f:=fun j=>Option.map (fun x=>(j,x)) (owner.getD j none)) (fun j x h=>?_) (List.range (mask+1)) List.pairwise_lt_range;obtain⟨y,_,rfl⟩:=An.mp h;rfl
theorem oM{t:SetTable}{b:Bool}{es:Array (Int×Value)}{h:Int}{x:Value}(g:Gd t b):Gd (layNew t es h x).2.1 b∧(layNew t es h x).2.1.fits (layNew t es h x).1.size=true:=by
 unfold layNew;generalize q:t.freeSlot h=r
 match r with
 |none=>
  refine⟨U3 g _,?_⟩;show(t.standIn (es.size+1)).fits (es.push (h,x)).size=true;rw[Array.size_push];exact SetTable.standIn_fits _ _
 |some (slot,d)=>
  obtain⟨_,hn⟩:=n5 g.ris g.dum q;refine⟨?_,SetTable.orStandIn_fits _ _⟩;show Gd ((t.put slot).1.orStandIn _) b;unfold SetTable.orStandIn;have gp:Gd (t.put slot).1 b:=by
   refine⟨j7 g.ris hn,?_,g.led⟩;show(if SetTable.has t.dummies slot=true then _ else t.dummies)=#[];have:SetTable.has t.dummies slot=false:=by
    rw[g.dum];rfl
   rw[this];exact g.dum
  split
  ·exact gp
  ·exact U3 gp _
theorem jB{t:SetTable}{b:Bool}{es:Array (Int×Value)}{n:Nat}(g:Gd t b):Gd (relayAll t es n).2.1 b∧(relayAll t es n).2.1.fits (relayAll t es n).1.size=true:=by
 unfold relayAll;generalize q:t.relaid (Array.map (fun x=>x.fst) es) n=r
 match r with
 |none=>exact⟨U3 g _,SetTable.standIn_fits _ _⟩
 |some (t',o)=>
  have gl:=vE q;rw[g.led]at gl;have key:∀r:Array (Int×Value)×SetTable×Bool,r=(if (coversAll o es.size && t'.fits (Array.filterMap (fun x=>es[x]?) o).size)=true then(Array.filterMap (fun x=>es[x]?) o,t',false) else(es,t.standIn es.size,true))→Gd r.2.1 b∧r.2.1.fits r.1.size=true:=by
   rintro r rfl;by_cases c:(coversAll o es.size && t'.fits (Array.filterMap (fun x=>es[x]?) o).size)=true
   ·rw[Ah c];rw[AX]at c;exact⟨gl,c.2⟩
   ·rw[Aj c];exact⟨U3 g _,SetTable.standIn_fits _ _⟩
  exact key _ rfl
theorem sD{t:SetTable}{b p:Bool}(g:Gd t b):Gd {t with plain:=p} b:=⟨g.ris,g.dum,g.led⟩
instance decMemKey (k:Key) (ks:List Key):Decidable (k∈ks):=@List.instDecidableMemOfLawfulBEq Key instBEqOfDecidableEq inferInstance k ks
def j2(P:Program)(w:World)(e:Int×Value)(k:Key):Prop:=(ai P w).is k e.2=true∧e.1=(ai P w).hash k∧e.2.scannable=true
def di(P:Program)(w:World)(h:Heap)(a:Addr)(ks:List Key):Prop:=
 ∃o es ep t,h.get? a=some o∧o.ExactSet∧o.data=.set es ep t∧(∃fs,es.toList.Perm fs∧Paired (j2 P w) fs ks)∧t.fits es.size=true∧Gd t (!w.params.followText "set-order")∧ks.Nodup
theorem Paired.mem1{α β:Type}{F:α→β→Prop}:∀{xs:List α}{ys:List β},Paired F xs ys→∀x∈xs,∃y∈ys,F x y
 |_,_,.nil,_,h=>nomatch h
 |_,_,.cons f r,x,h=>by
  rcases Ae.mp h with rfl | h
  ·exact⟨_,.head _,f⟩
  ·obtain⟨y,hy,q⟩:=Paired.mem1 r x h;exact⟨y,.tail _ hy,q⟩
theorem Paired.mem2{α β:Type}{F:α→β→Prop}:∀{xs:List α}{ys:List β},Paired F xs ys→∀y∈ys,∃x∈xs,F x y
 |_,_,.nil,_,h=>nomatch h
 |_,_,.cons f r,y,h=>by
  rcases Ae.mp h with rfl | h
  ·exact⟨_,.head _,f⟩
  ·obtain⟨x,hx,q⟩:=Paired.mem2 r y h;exact⟨x,.tail _ hx,q⟩
theorem Paired.snoc{α β:Type}{F:α→β→Prop}{x:α}{y:β}(f:F x y):∀{xs:List α}{ys:List β},Paired F xs ys→Paired F (xs++[x]) (ys++[y])
 |_,_,.nil=>.cons f .nil
 |_,_,.cons g r=>.cons g (Paired.snoc f r)
section
variable{prog:Program}{w:World}{A:Around}{E:Value→Shared→Prop}{s:Shared}{a:Addr}{ks:List Key}
theorem tI{es:List (Int×Value)}(h:∃fs,es.Perm fs∧Paired (j2 prog w) fs ks):ElemsOf (ai prog w) es:=fun e he=>by
 obtain⟨fs,p,m⟩:=h;obtain⟨k,_,h1,h2,h3⟩:=Paired.mem1 m e (p.mem_iff.mp he);exact⟨⟨k,h1,h2⟩,h3⟩
theorem Rc{es:List (Int×Value)}(h:∃fs,es.Perm fs∧Paired (j2 prog w) fs ks):es.length=ks.length:=by
 obtain⟨fs,p,m⟩:=h;rw[p.length_eq];exact Cs m
theorem vA{es:List (Int×Value)}{k:Key}(h:∃fs,es.Perm fs∧Paired (j2 prog w) fs ks)(hk:k∈ks):∃j,es.findIdx? (fun e=>(ai prog w).is k e.2)=some j:=by
 obtain⟨fs,p,m⟩:=h;obtain⟨e,he,q,_⟩:=Paired.mem2 m k hk;have:(es.findIdx? (fun e=>(ai prog w).is k e.2)).isSome=true:=by
  rw[List.findIdx?_isSome];exact CF.mpr ⟨e,p.mem_iff.mpr he,q⟩
 exact Cb.mp this
theorem qE{es:List (Int×Value)}{k:Key}(h:∃fs,es.Perm fs∧Paired (j2 prog w) fs ks)(hk:k∉ks):es.findIdx? (fun e=>(ai prog w).is k e.2)=none:=by
 obtain⟨fs,p,m⟩:=h;rw[List.findIdx?_eq_none_iff];intro e he;obtain⟨k',hk',q,_⟩:=Paired.mem1 m e (p.mem_iff.mp he);refine AO.mpr fun z=>hk ?_;rw[(ai prog w).inj _ _ _ z q];exact hk'
theorem qe{x:Value}{Q:Bool→Shared→Prop}(hs:x.scannable=true)(q:∀b,Q b s):wpAny (model prog w) A (hashByValue 8 x) Q E s:=by
 cases x with
 |none=>exact(aq (q true):wpAny _ _ (pure true) _ _ _)
 |bool b=>exact(aq (q true):wpAny _ _ (pure true) _ _ _)
 |int i t=>exact(aq (q true):wpAny _ _ (pure true) _ _ _)
 |str z t=>exact(aq (q false):wpAny _ _ (pure false) _ _ _)
 |bytes z t=>exact(aq (q false):wpAny _ _ (pure false) _ _ _)
 |_=>cases hs
theorem m7{o:Obj}{es:Array (Int×Value)}{ep:Nat}{t:SetTable}{es':Array (Int×Value)}{t':SetTable}{h:Heap}(ho:h.get? a=some o)(hx:o.ExactSet)(hd:o.data=.set es ep t):
  ∃o',(h.update a (Obj.putSet es' t')).get? a=some o'∧o'.ExactSet∧o'.data=.set es' (ep+1) t':=by
 obtain⟨c,d,dt,sl⟩:=o;simp only at hd;subst hd;exact⟨_,Bq _ ho rfl,hx,rfl⟩
theorem kP{t:SetTable}{n:Nat}{p:Bool}(h:t.fits n=true):SetTable.fits {t with plain:=p} n=true:=h
theorem uX{k:Key}{x:Value}{Q:Bool→Shared→Prop}(hk:(ai prog w).is k x=true)(hs:x.scannable=true)(G:di prog w s.heap a ks)(hb:ks.length+1<scanBound)(fin:∀b h',Heap.SameBut a s.heap h'→di prog w h' a (if k∈ks then ks else ks++[k])→Q b {s with heap:=h'}):wpAny (model prog w) A (setAddHashed a x ((ai prog w).hash k)) Q E s:=by
 obtain⟨o,es,ep,t,ho,hex,hd,hf,fit,gd,nd⟩:=G;have els:=tI hf;have len:=Rc hf;rw[Ax]at len;unfold setAddHashed;refine AS ?_;rw[show(100000:Nat)=99999+1 from rfl,setAddHashedIn.eq_def];refine aa (B8 ho hd fit ?_);dsimp only;rw[byScan_of hs (by omega) els,Ah rfl];refine aa ?_;unfold setAddByScan;refine aa (CO ?_);refine aa (wpAny_setScan_of hk ho hd fit els ?_);by_cases hin:k∈ks
 ·obtain⟨j,ej⟩:=vA hf hin;rw[ej];refine aq (aq (fin false s.heap ⟨rfl,fun _ _=>rfl⟩ ?_));rw[Ah hin];exact⟨o,es,ep,t,ho,hex,hd,hf,fit,gd,nd⟩
 ·rw[qE hf hin];rw[Aj hin]at fin;have lp:=layNew_perm t es ((ai prog w).hash k) x;obtain⟨gl,fl⟩:=oM (es:=es) (h:=(ai prog w).hash k) (x:=x) gd;dsimp only;generalize layNew t es ((ai prog w).hash k) x=L at lp gl fl⊢;obtain⟨es1,t1,wd,gv⟩:=L;dsimp only at lp gl fl⊢;have nd2:(ks++[k]).Nodup:=by
   rw[Bg];exact⟨nd,AC.mpr ⟨fun h=>(nomatch h),AQ⟩,fun y hy z hz e=>hin (by rw[←Af.mp hz,←e];exact hy)⟩
  have hf1:∃fs,es1.toList.Perm fs∧Paired (j2 prog w) fs (ks++[k]):=by
   obtain⟨fs,p,m⟩:=hf;refine⟨fs++[((ai prog w).hash k,x)],lp.trans ?_,Paired.snoc ⟨hk,rfl,hs⟩ m⟩;rw[Array.toList_push];exact p.append_right _
  have sz1:es1.size≤sizeLine:=by
   have:=Rc hf1;rw[Ax,ba,Cu]at this;exact Zd (by unfold scanBound at hb;omega)
  have main:∀t2:SetTable,Gd t2 (!w.params.followText "set-order")→t2.fits es1.size=true→wpAny (model prog w) A (do
    storeSet a es1 t2
    if (!wd && t2.tooFull)=true then
     match relayAll t2 es1 (SetTable.grown es1.size) with
     | (es,t,gave)=>do
      (match gave with | true=>rule "set.scan.the-table-gave-way" | false=>pure ())
      storeSet a es t
      pure (some true)
    else pure (some true)) (fun r s'=>wpAny (model prog w) A (match r with | some added=>pure added | none=>setAddHashedIn a x ((ai prog w).hash k) 99999) Q E s') E s:=by
   intro t2 g2 f2;refine aa (wpAny_storeSet_of ho hd ?_ sz1);obtain⟨o1,ho1,hx1,hd1⟩:=m7 (es':=es1) (t':=t2) ho hex hd;by_cases c:(!wd && t2.tooFull)=true
   ·rw[Ah c];have rp:=relayAll_perm t2 es1 (SetTable.grown es1.size);obtain⟨gr,fr⟩:=jB (es:=es1) (n:=SetTable.grown es1.size) g2;generalize relayAll t2 es1 (SetTable.grown es1.size)=R at rp gr fr⊢;obtain⟨es2,t3,gv2⟩:=R;dsimp only at rp gr fr⊢;have sz2:es2.size≤sizeLine:=by
     have:=rp.length_eq;rw[Ax,Ax]at this;omega
    have store:wpAny (model prog w) A (do
      storeSet a es2 t3
      pure (some true)) (fun r s'=>wpAny (model prog w) A (match r with | some added=>pure added | none=>setAddHashedIn a x ((ai prog w).hash k) 99999) Q E s') E {s with heap:=s.heap.update a (Obj.putSet es1 t2)}:=by
     refine aa (wpAny_storeSet_of ho1 hd1 (aq (aq (fin true _ ((Heap.SameBut.update _ _ _).trans (Heap.SameBut.update _ _ _)) ?_))) sz2);obtain⟨o2,ho2,hx2,hd2⟩:=m7 (es':=es2) (t':=t3) ho1 hx1 hd1;obtain⟨fs,p,m⟩:=hf1;exact⟨o2,es2,_,t3,ho2,hx2,hd2,⟨fs,rp.trans p,m⟩,fr,gr,nd2⟩
    cases gv2 with
    |true=>exact aa (CO store)
    |false=>exact aa (aq store)
   ·rw[Aj c];refine aq (aq (fin true _ (Heap.SameBut.update _ _ _) ?_));exact⟨o1,es1,_,t2,ho1,hx1,hd1,hf1,f2,g2,nd2⟩
  have both:∀b:Bool,wpAny (model prog w) A (do
    storeSet a es1 (if b=true then t1 else{t1 with plain:=false})
    if (!wd && (if b=true then t1 else{t1 with plain:=false}).tooFull)=true then
     match relayAll (if b=true then t1 else{t1 with plain:=false}) es1 (SetTable.grown es1.size) with
     | (es,t,gave)=>do
      (match gave with | true=>rule "set.scan.the-table-gave-way" | false=>pure ())
      storeSet a es t
      pure (some true)
    else pure (some true)) (fun r s'=>wpAny (model prog w) A (match r with | some added=>pure added | none=>setAddHashedIn a x ((ai prog w).hash k) 99999) Q E s') E s:=fun b=>by
   cases b with
   |true=>exact main t1 gl fl
   |false=>exact main {t1 with plain:=false} (sD gl) (kP fl)
  have tail:wpAny (model prog w) A (if t1.plain=true then hashByValue 8 x >>= fun b=>(do
    storeSet a es1 (if b=true then t1 else{t1 with plain:=false})
    if (!wd && (if b=true then t1 else{t1 with plain:=false}).tooFull)=true then
     match relayAll (if b=true then t1 else{t1 with plain:=false}) es1 (SetTable.grown es1.size) with
     | (es,t,gave)=>do
      (match gave with | true=>rule "set.scan.the-table-gave-way" | false=>pure ())
      storeSet a es t
      pure (some true)
    else pure (some true))else pure true >>= fun b=>(do
    storeSet a es1 (if b=true then t1 else{t1 with plain:=false})
    if (!wd && (if b=true then t1 else{t1 with plain:=false}).tooFull)=true then
     match relayAll (if b=true then t1 else{t1 with plain:=false}) es1 (SetTable.grown es1.size) with
     | (es,t,gave)=>do
      (match gave with | true=>rule "set.scan.the-table-gave-way" | false=>pure ())
      storeSet a es t
      pure (some true)
    else pure (some true))) (fun r s'=>wpAny (model prog w) A (match r with | some added=>pure added | none=>setAddHashedIn a x ((ai prog w).hash k) 99999) Q E s') E s:=by
   by_cases c:t1.plain=true
   ·rw[Ah c];exact aa (qe hs both)
   ·rw[Aj c];exact aa (aq (both true))
  cases gv with
  |true=>exact aa (CO tail)
  |false=>exact aa (aq tail)
end
theorem ve(a:Value):checkBuiltinCall "set.__new__" ⟨[.type "set",a],[]⟩=pure ():=by kernel_rfl
theorem tS(a:Value):Builtin.Frozenset.newClass "set" ⟨[.type "set",a],[]⟩=pure (.type "set",[a]):=by kernel_rfl
def ddK:List Key→List Key→List Key
 |Db,[]=>Db
 |Db,k::r=>ddK (if k∈Db then Db else Db++[k]) r
theorem iE(k:Key):∀(l Db:List Key),ddK Db (l++[k])=if k∈ddK Db l then ddK Db l else ddK Db l++[k]
 | [],Db=>rfl
 |x::l,Db=>iE k l _
theorem Q5:∀(l Db:List Key),(ddK Db l).length≤Db.length+l.length
 | [],Db=>io _
 |x::l,Db=>by
  have:=Q5 l (if x∈Db then Db else Db++[x]);show(ddK (if x∈Db then Db else Db++[x]) l).length≤_;rw[AD];by_cases h:x∈Db
  ·rw[Ah h]at this⊢;omega
  ·rw[Aj h]at this⊢;rw[ba,Cu]at this;omega
theorem Sr:∀(l Db:List Key)(k:Key),k∈ddK Db l↔k∈Db∨k∈l
 | [],Db,k=>⟨.inl,fun h=>h.elim id (fun h=>nomatch h)⟩
 |x::l,Db,k=>by
  show k∈ddK (if x∈Db then Db else Db++[x]) l↔_;rw[Sr l _ k];by_cases h:x∈Db
  ·rw[Ah h,Ae];constructor
   ·rintro(q | q)
    ·exact .inl q
    ·exact .inr (.inr q)
   ·rintro(q | rfl | q)
    ·exact .inl q
    ·exact .inl h
    ·exact .inr q
  ·rw[Aj h,Ae,AI,Af];constructor
   ·rintro((q | q) | q)
    ·exact .inl q
    ·exact .inr (.inl q)
    ·exact .inr (.inr q)
   ·rintro(q | q | q)
    ·exact .inl (.inl q)
    ·exact .inl (.inr q)
    ·exact .inr q
theorem ql:∀(l Db:List Key),Db.Nodup→(ddK Db l).Nodup
 | [],Db,h=>h
 |x::l,Db,h=>by
  refine ql l _ ?_;by_cases c:x∈Db
  ·rw[Ah c];exact h
  ·rw[Aj c,Bg];exact⟨h,AC.mpr ⟨fun h=>(nomatch h),AQ⟩,fun y hy z hz e=>c (by rw[←Af.mp hz,←e];exact hy)⟩
abbrev aH(w:World):Obj:={cls:=.type "set",dict:=none,data:=.set #[] 0 (.fresh 0 0 (!w.params.followText "set-order"))}
theorem Oe(a:Value){Q₁:Value→Shared→Prop}(h:Q₁ (.ref s.heap.objs.size) {s with heap:=s.heap.push (aH w)}):
  codeAny (model prog w) A (.call (.builtin "set.__new__") ⟨[.type "set",a],[]⟩) (wants Q₁ E) s:=by
 refine codeAny_call_builtin PySem.F.plain_set_new PySem.F.entry_set_new ?_;rw[ve];refine aq ?_;unfold Builtin.«set.__new__»;rw[tS];refine aa (aq (aa ?_));unfold newSet setsByText;refine aa (aa (wpAny_askSetting (aq ?_)));exact Bf (aq h)
theorem Uq{h h':Heap}{a:Addr}{ks:List Key}(q:di prog w h a ks)(k:∀o,h.get? a=some o→h'.get? a=some o):di prog w h' a ks:=by
 obtain⟨o,es,ep,t,ho,r⟩:=q;exact⟨o,es,ep,t,k o ho,r⟩
theorem nP{h:Heap}{a:Addr}(e:h.get? a=some (aH w)):di prog w h a []:=
 ⟨_,#[],0,_,e,⟨rfl,rfl,rfl⟩,rfl,⟨[],CD _,.nil⟩,by rfl,⟨List.Pairwise.nil,rfl,rfl⟩,AQ⟩
section
variable{prog:Program}{w:World}{A:Around}{R:Result→Shared→Prop}{I:Addr}{fp wr:List Addr}{n:Nat}{P:Nat→Value→Prop}{St:Nat→Heap→Prop}
theorem pq(W:Walks prog w A.in1 I fp wr n P St)(S:Addr)(hS:S∉fp)(ks:List Key)(hzn:ks.length=n)(hv:∀(i:Nat) v,P i v→∃k,ks[i]?=some k∧(ai prog w).is k v=true∧v.scannable=true)(hb:n+1<scanBound):
  ∀(m i:Nat)(s:Shared),n-i=m→i≤n→St i s.heap→di prog w s.heap S (ddK [] (ks.take i))→
   (∀h' tk,(∀b o,b∉S::wr→s.heap.get? b=some o→h'.get? b=some o)→di prog w h' S (ddK [] ks)→R (.ok (.ret .none)) {s with heap:=h',toks:=tk})→
   codeAny (model prog w) A (.builtin "set.update.loop" ⟨[.ref S,.ref I],[]⟩) R s:=by
 have hSw:S∉wr:=fun q=>hS (W.sub _ q);intro m
 induction m with
 |zero=>
  intro i s hk hi st so fin;obtain rfl:i=n:=by omega
  refine Bj PyProof.Rows.F.entry_set_update_loop ?_;rw[A4 PyProof.Rows.F.plain_set_update_loop _];refine aa (m:=pyNext (.ref I)) (W.done s _ _ st fun h' tk kp=>aq (fin h' tk (fun b o nb e=>kp b o (fun q=>nb (Az _ q)) e) ?_));rw[←hzn,At]at so;exact Uq so fun o e=>kp S o hSw e
 |succ m ih=>
  intro i s hk hi st so fin;have C5:i<n:=by omega
  refine Bj PyProof.Rows.F.entry_set_update_loop ?_;rw[A4 PyProof.Rows.F.plain_set_update_loop _];refine aa (m:=pyNext (.ref I)) (W.item i s _ _ C5 st fun v h1 tk1 pv st1 kp1=>?_);obtain⟨k,hkk,hk1,hk2⟩:=hv i v pv;have so1:=Uq so fun o e=>kp1 S o hSw e;refine aa (m:=holding [v] (setAdd S v)) (AS ?_);unfold setAdd;refine AS (aa ((ai prog w).pyHash hk1 ?_));have room:=Q5 (ks.take i) [];rw[Am,BS]at room;refine uX hk1 hk2 (s:={s with heap:=h1,toks:=tk1+1}) so1 (by omega) fun b h2 sb so2=>?_;have et:ks.take (i+1)=ks.take i++[k]:=by rw[List.take_add_one,hkk];rfl
  rw[←iE,←et]at so2;refine aq ⟨BV PyProof.Rows.F.plain_set_update_loop _,ih (i+1) _ (by omega) C5 (W.frame _ _ _ st1 fun b hb o e=>(sb.2 b fun q=>hS (by rw[←q];exact hb)).trans e) so2 fun h' tk kp so'=>fin h' tk (fun b o nb e=>kp b o nb ?_) so'⟩;have nS:b≠S:=fun q=>nb (by rw[q];exact Au);exact(sb.2 b nS).trans (kp1 b o (fun q=>nb (Az _ q)) e)
end
theorem xW{k:Key}{u:Value}(r:RelV (kV k) u):(ai prog w).is k u=true∧u.scannable=true:=by
 cases k with
 |inl i=>obtain⟨t,rfl⟩:=r;exact⟨Rn prog w i t,rfl⟩
 |inr x=>obtain⟨t,rfl⟩:=r;exact⟨Rm prog w x t,rfl⟩
theorem pF{l:Addr}{its:List Value}{ks:List Key}{R:Value→Shared→Prop}(hh:A.handled=none)(hl:s.heap.IsList l its.toArray)(hv:Vals (ks.map kV) its)(hb:its.length+1<scanBound)(h:∀(h':Heap) (tk:Nat),di prog w h' s.heap.objs.size (ddK [] ks)→(∀b o,b<s.heap.objs.size→s.heap.get? b=some o→h'.get? b=some o)→R .none {s with heap:=h',toks:=tk}):
  codeAny (model prog w) A (.call (.builtin "set.__init__") ⟨[.ref s.heap.objs.size,.ref l],[]⟩) (wants R E) {s with heap:=s.heap.push (aH w)}:=by
 have own:(s.heap.push (aH w)).get? s.heap.objs.size=some (aH w):=pi _ rfl;have ty:Shared.TypeIs {s with heap:=s.heap.push (aH w)} (.ref s.heap.objs.size) "set":=⟨_,own,rfl⟩;refine codeAny_call_builtin PySem.F.called_set.init.plain PySem.F.entry_set_init (check_set_init_1 ty ?_);obtain⟨⟨c0,d0,dt0,sl0⟩,ho,hc,nl,hd⟩:=hl;simp only at hc hd;subst hc hd;have ho1:(s.heap.push (aH w)).get? l=some {cls:=.type "list",dict:=d0,data:=.seq its.toArray nl,slots:=sl0}:=af _ ho;have hl1:(s.heap.push (aH w)).IsList l its.toArray:=⟨_,ho1,rfl,nl,rfl⟩;have f1:=PySem.F.sub_list_set;have f2:=PySem.F.sub_list_frozenset;have f3:(Value.type "list" == Value.type "dict")=false:=by decide
 unfold Builtin.«set.__init__» noKeywords Builtin.Frozenset.updateFrom;generalize hP:pyIter=PI
 wp_walk
 subst hP;refine wpAny_pyIter_list hl1 (aa (wpAny_runValue ?_));have lt0:l<s.heap.objs.size:=az ho;have hz:ks.length=its.length:=by
  have:=hv.length;rw[ae]at this;exact this
 have ne0:l≠(s.heap.push (aH w)).objs.size:=by rw[Bt];exact Ac (BD lt0)
 have nin:s.heap.objs.size∉[(s.heap.push (aH w)).objs.size,l]:=by
  rw[Bt];simp only[List.mem_cons,List.not_mem_nil,or_false,not_or];exact⟨Ac (Nat.lt_succ_self _),AF lt0⟩
 have hh3:A.in1.in1.handled=none:=by simp[hh]
 refine pq (Walks.list hh3 _ l ne0 its.toArray) s.heap.objs.size nin ks (by rw[AG];exact hz) (fun i v e=>?_) (by rw[AG];exact hb) (its.toArray.size-0) 0 _ (by omega) (Bc _) ?st ?_ ?_
 case st=>exact⟨⟨_,pi _ rfl,rfl,rfl⟩,hl1.push _⟩
 ·have e':its[i]?=some v:=by simpa using e
  have hi:i<ks.length:=by
   rw[hz];exact(Ad.mp e').1
  obtain⟨u,hu,ru⟩:=hv.get (i:=i) (x:=kV ks[i]) (by rw[Ar,Ak hi];rfl);rw[e']at hu;cases hu;exact⟨ks[i],Ak hi,xW ru⟩
 ·have g2:((s.heap.push (aH w)).push {cls:=.type "list_iterator",data:=.fields #[.ref l,.int 0 0]}).get? s.heap.objs.size=some (aH w):=af _ own;exact nP g2
 ·intro h' tk kp so;refine aq (aq (h h' tk so fun b o hb2 e=>kp b o ?_ (af _ (af _ e))));simp only[List.mem_cons,List.not_mem_nil,or_false,not_or];exact⟨Ac hb2,by rw[Bt];exact Ac (BD hb2)⟩
theorem Of{l:Addr}{its:List Value}{ks:List Key}{Q:Value→Shared→Prop}(hh:A.handled=none)(hl:s.heap.IsList l its.toArray)(hv:Vals (ks.map kV) its)(hb:its.length+1<scanBound)(h:∀(h':Heap) (tk:Nat),di prog w h' s.heap.objs.size (ddK [] ks)→(∀b o,b<s.heap.objs.size→s.heap.get? b=some o→h'.get? b=some o)→Q (.ref s.heap.objs.size) {s with heap:=h',toks:=tk}):
  wpAny (model prog w) A (call (.type "set") [.ref l]) Q E s:=by
 obtain⟨c,tl,hmro⟩:=PySem.F.called_set.mro;have k1:=PySem.F.called_set.made;have k2:=PySem.F.called_set.sub;have k3:=PySem.F.called_set.notType;have k4:=PySem.F.called_set.canCreate;have k5:=PySem.F.typeCall_set_1 (.ref l);refine wpAny_call (codeAny_of_tree ?_);show wpAny _ _ (callAny (.type "set") _) _ _ _;refine aq ⟨Code.quiet_builtin _ (by decide +kernel),Bj PySem.F.entry_type_call ?_⟩;rw[Around.under_plain (weight_type_call_type "set" [.ref l] []) rfl]
 repeat (any_goals (first | assumption | wp_step))
 refine B6 (Oe (.ref l) (E:=E) (Q₁:=fun obj s1=>obj=.ref s.heap.objs.size∧s1={s with heap:=s.heap.push (aH w)}) ⟨rfl,rfl⟩) fun r s1 hr=>?_;cases r with
 |error e=>exact hr
 |ok fl=>
  cases fl with
  |ret obj=>
   obtain⟨rfl,rfl⟩:=hr;have own:(s.heap.push (aH w)).get? s.heap.objs.size=some (aH w):=pi _ rfl;have ty:Shared.TypeIs {s with heap:=s.heap.push (aH w)} (.ref s.heap.objs.size) "set":=⟨_,own,rfl⟩;have k6:=PySem.F.called_set.init.lookup;have k7:=PySem.F.called_set.init.bind (.ref s.heap.objs.size)
   repeat (any_goals (first | assumption | wp_step))
   refine codeAny_mono (pF (R:=fun r s2=>r=.none∧∃h' tk,s2={s with heap:=h',toks:=tk}∧di prog w h' s.heap.objs.size (ddK [] ks)∧(∀b o,b<s.heap.objs.size→s.heap.get? b=some o→h'.get? b=some o)) (E:=E) (by simp[hh]) hl hv hb fun h' tk so kp=>⟨rfl,h',tk,rfl,so,kp⟩) fun r2 s2 hr2=>?_;cases r2 with
   |error e=>exact hr2
   |ok fl2=>
    cases fl2 with
    |ret r=>
     obtain⟨rfl,h',tk,rfl,so,kp⟩:=hr2
     repeat (any_goals (first | assumption | wp_step))
     exact h _ _ so kp
    |_=>exact hr2.elim
  |_=>exact hr.elim
def eE(prog:Program)(w:World)(a:Addr)(ks:List Key):HO:=.ext fun h=>di prog w h a ks
section
variable{X:Cx}
theorem Nl(hc:X.calm=true):bu X (.type "set") (fun xs H Q=>∃(p:Addr)(ks:List Key),xs=[.ref p]∧SqL X.K H p (ks.map kV)∧ks.length<4000∧∀a,H a=none→Q (.ref a) (upd H a (eE X.prog X.w a (ddK [] ks)))):=by
 intro CZ s σ H xs us Q I r h;obtain⟨p,ks,rfl,hq,hz,q⟩:=h;obtain⟨u,rfl,ru⟩:=Wx r;cases ru;obtain⟨its,rv,pl,_⟩:=I.list hq;have hl:=rv.length;rw[ae]at hl;refine Of (I.ok.hd hc) pl.isList rv (by unfold scanBound;omega) fun h' tk so kp=>?_;refine⟨.ref s.heap.objs.size,_,I.laid (t':=tk) (fun b o e=>kp b o (az e) e) (io _) (show ObjOk X.prog X.w _ h' _ (eE X.prog X.w s.heap.objs.size (ddK [] ks))from ?_),rfl,q _ (I.hok.fresh (io _))⟩;refine⟨so,?_,fun h1 h2 a k=>?_⟩
 ·obtain⟨o,_,_,_,ho,_⟩:=so;exact⟨o,ho⟩
 ·exact Uq a k
end
theorem W9:Slot "set_iterator" (Str.ofString "__next__") "set_iterator.__next__":=Slot.of (owner:="set_iterator") (n:="__next__") (by kernel_rfl) (by kernel_rfl) (by kernel_rfl) (by kernel_rfl) (.inl (by kernel_rfl)) (by kernel_rfl) (by kernel_rfl)
theorem Tg:Slot "set_iterator" (Str.ofString "__iter__") "set_iterator.__iter__":=Slot.of (owner:="set_iterator") (n:="__iter__") (by kernel_rfl) (by kernel_rfl) (by kernel_rfl) (by kernel_rfl) (.inl (by kernel_rfl)) (by kernel_rfl) (by kernel_rfl)
theorem Oh(a:Value):argsOk "set_iterator.__next__" {pos:=[a]}:=by kernel_rfl
theorem Oi(a:Value):argsOk "set_iterator.__iter__" {pos:=[a]}:=by kernel_rfl
theorem Pp:entryFor PySem.table "set_iterator.__next__"=some PySem.Builtin.«set_iterator.__next__»:=by kernel_rfl
theorem Pr:entryFor PySem.table "set.__iter__"=some PySem.Builtin.«frozenset.__iter__»:=by kernel_rfl
theorem lA:firstArgMember (.type "StopIteration") []=pure .none:=by kernel_rfl
theorem sN:ownMembersOf (.type "StopIteration") []=#[]:=by kernel_rfl
section
theorem Tp{α:Type}{Q:α→Shared→Prop}(hh:A.handled=none)(k:∀h' e,(∀b o,s.heap.get? b=some o→h'.get? b=some o)→Shared.TypeIs {s with heap:=h'} (.ref e) "StopIteration"→E (.ref e) {s with heap:=h'}):
  wpAny (model prog w) A (do
   let x ←newExc (.type "StopIteration") []
   raiseNew x:Sem α) Q E s:=by
 refine aa ?_;unfold newExc;refine aa (wpAny_newTuple ?_ (Bc _));rw[lA,sN];refine aa (aq (Bf (wpAny_raiseNew_none hh (k _ _ (fun b o e=>af _ (af _ e)) ⟨_,pi _ rfl,rfl⟩))))
theorem Uz{it:Addr}{Q:Option Value→Shared→Prop}(ty:s.TypeIs (.ref it) "set_iterator")(h:wpAny (model prog w) A.in1 (Builtin.«set_iterator.__next__» ⟨[.ref it],[]⟩) (fun fin s'=>∃v,fin=.done (.ret v)∧Q (some v) s') (fun e s'=>s'.TypeIs e "StopIteration"∧Q none s') s):
  wpAny (model prog w) A (pyNext (.ref it)) Q E s:=by
 unfold pyNext;refine aa (wpAny_attempt ?_);refine wpAny_callSpecial?_slotG ty W9.toG ?_;refine A5 (AY W9 ty Pp (Q:=fun v s'=>Q (some v) s') h (Oh _)) (fun v s' q=>aq q) (fun e s' q=>?_);exact aa (CH q.1 isSubtype_stop (by rw[Ah rfl];exact aq q.2))
abbrev kU(first:Value)(i:Nat)(a:Addr)(n ep:Nat):Obj:={cls:=.type "set_iterator",data:=.fields #[first,.int i 0,.ref a,.int n 0,.int ep 0]}
theorem Q7{Q:Bool→Shared→Prop}(q:Q (w.params.followText "set-order") s):wpAny (model prog w) A setsByText Q E s:=by
 unfold setsByText;exact aa (wpAny_askSetting (aq q))
variable{a:Addr}{o:Obj}{es:Array (Int×Value)}{ep:Nat}{t:SetTable}
theorem N2{slot given:Nat}{Q:Option (Value×Nat)→Shared→Prop}(ht:w.params.followText "set-order"=true)(ho:s.heap.get? a=some o)(hd:o.data=.set es ep t)(fit:t.fits es.size=true)(q:Q ((pickOrder (w.params.setOrder a ep) es)[given]?.map fun e=>(e.2,slot)) s):wpAny (model prog w) A (setNext a slot given ep) Q E s:=by
 unfold setNext;refine aa (B8 ho hd fit ?_);refine aa (Q7 ?_);rw[ht,if_pos rfl,if_neg (by simp)];refine aa ?_;unfold setWalk;refine aa (B8 ho hd fit ?_);refine aa (Q7 ?_);rw[ht,Ah rfl];exact aa (wpAny_askSetting (aq (aq q)))
theorem P5{slot given:Nat}{Q:Option (Value×Nat)→Shared→Prop}(ht:w.params.followText "set-order"=false)(ho:s.heap.get? a=some o)(hd:o.data=.set es ep t)(fit:t.fits es.size=true)(g:Gd t true)(np:(!t.plain && decide (es.size > 1))=false)(q:Q (match es[SetTable.below t.place slot]?,t.place[SetTable.below t.place slot]? with
   |some e,some j=>some (e.2,j+1)
   |_,_=>none) s):wpAny (model prog w) A (setNext a slot given ep) Q E s:=by
 unfold setNext;refine aa (B8 ho hd fit ?_);refine aa (Q7 ?_);rw[ht,Aj (by decide)];show wpAny _ _ (if (!t.plain && decide (es.size > 1))=true then _ else _) _ _ _;rw[np,Aj (by decide)];refine aa (show wpAny _ _ (if (!t.led && !es.isEmpty)=true then _ else pure ()) _ _ _ from ?_);rw[g.led,if_neg (by simp)];refine aq (aq ?_);cases h1:es[SetTable.below t.place slot]? with
 |none=>rw[h1]at q;exact q
 |some e=>
  rw[h1]at q;cases h2:t.place[SetTable.below t.place slot]? with
  |none=>rw[h2]at q;exact q
  |some j=>rw[h2]at q;exact q
theorem kL{place:Nat}{e:Int×Value}{Q:Value→Shared→Prop}(ho:s.heap.get? a=some o)(hd:o.data=.set es ep t)(fit:t.fits es.size=true)(he:es[place]?=some e)(q:Q e.2 s):wpAny (model prog w) A (setNextDrawn a place ep) Q E s:=by
 unfold setNextDrawn;refine aa (B8 ho hd fit ?_);dsimp only;rw[if_neg (by simp),he];exact aq q
theorem Wt{it:Addr}{first:Value}{i:Nat}{Q:PySem.Fin→Shared→Prop}(hit:s.heap.get? it=some (kU first i a es.size ep))(ho:s.heap.get? a=some o)(hd:o.data=.set es ep t)(fit:t.fits es.size=true)(q:wpAny (model prog w) A (match first with
   |.int slot _=>do
    let r ←setNext a slot.toNat i ep
    match r with
     |some (x,next)=>do
      setField (.ref it) 0 (rawInt next)
      setField (.ref it) 1 (rawInt (i+1))
      ret x
     |none=>do
      setField (.ref it) 2 .none
      let x ←newExc (.type "StopIteration") []
      raiseNew x
   |x=>do
    let y ←seqItems? first
    match y with
     |some places=>
      match places[i]? with
      |some (.int place _)=>do
       let x ←setNextDrawn a place.toNat ep
       setField (.ref it) 1 (rawInt (i+1))
       ret x
      |some val=>unsupported "internal:set_iterator"
      |none=>do
       setField (.ref it) 0 (rawInt 0)
       setField (.ref it) 2 .none
       let x ←newExc (.type "StopIteration") []
       raiseNew x
     |x=>unsupported "internal:set_iterator") Q E s):wpAny (model prog w) A (Builtin.«set_iterator.__next__» ⟨[.ref it],[]⟩) Q E s:=by
 unfold Builtin.«set_iterator.__next__»;refine aa (show wpAny _ _ (pure (Value.ref it,[])) _ _ _ from aq ?_);refine aa (wpAny_fieldsOf hit rfl ?_);refine aa (wpAny_setEntries_of ho hd fit ?_);rw[if_neg (by simp)];exact q
end
theorem Tt{α:Type}:∀(l:List α)(i:Nat)(x:α),l[i]?=some x→(x::l.eraseIdx i).Perm l
 | [],i,x,h=>by simp at h
 |a::l,0,x,h=>by
  have e:a=x:=by simpa using h
  subst e;exact CD _
 |a::l,i+1,x,h=>by
  have ih:=Tt l i x (by simpa using h);show(x::a::l.eraseIdx i).Perm (a::l);exact(List.Perm.swap a x _).trans (ih.cons a)
theorem lU{α:Type}(next:Nat→Nat):∀(fuel k:Nat)(left:List α)(out:Array α),left.length≤fuel→(pickOrder.go next fuel k left out).toList.Perm (out.toList++left)
 | 0,k,left,out,h=>by
  have e:left=[]:=A0 (by omega);subst e;rw[AN];exact CD _
 |fuel+1,k,left,out,h=>by
  show(match left[next k % left.length]? with
   |some x=>pickOrder.go next fuel (k+1) (left.eraseIdx (next k % left.length)) (out.push x)
   |none=>out).toList.Perm _
  cases e:left[next k % left.length]? with
  |none=>
   have l0:left=[]:=by
    cases left with
    |nil=>rfl
    |cons a l=>
     rw[List.getElem?_eq_none_iff]at e;have:=Nat.mod_lt (next k) (show 0<(a::l).length by simp);omega
   subst l0;rw[AN]
  |some x=>
   have lt:=(Ad.mp e).1;have ih:=lU next fuel (k+1) (left.eraseIdx (next k % left.length)) (out.push x) (by rw[List.length_eraseIdx_of_lt lt];omega)
   refine ih.trans ?_;rw[Array.toList_push,Bp];exact(Tt left _ x e).append_left _
theorem Ux{α:Type}(next:Nat→Nat)(xs:Array α):(pickOrder next xs).toList.Perm xs.toList:=by
 have:=lU next xs.size 0 xs.toList #[] (by rw[Ax];exact io _)
 show(pickOrder.go next xs.size 0 xs.toList #[]).toList.Perm xs.toList;simpa using this
theorem Pu{α:Type}:∀(n:Nat)(l:List α)(s:Shared){Q:List α→Shared→Prop},l.length=n→(∀o d,o.Perm l→Q o {s with drawn:=d})→wpAny (model prog w) A (drawOrder n l) Q E s
 | 0,l,s,Q,h,q=>by
  have e:l=[]:=A0 h;subst e;exact(aq (q [] s.drawn (CD _)):wpAny _ _ (pure []) _ _ _)
 |n+1,[],s,Q,h,q=>by simp at h
 |n+1,a::l,s,Q,h,q=>by
  show wpAny _ _ (choose Source.order (a::l).length >>= fun i=>match (a::l)[i]? with
   |some x=>do
    let r ←drawOrder n ((a::l).eraseIdx i)
    pure (x::r)
   |none=>unsupported "internal:drawOrder") _ _ _
  refine aa ?_;intro Γ p hΓ;unfold choose;rw[Sem.wp_choose];refine⟨by simp,?_⟩;have lt:(model prog w).w.draws Source.order (s.drawn.get Source.order) % (a::l).length<(a::l).length:=Nat.mod_lt _ (by simp);generalize (model prog w).w.draws Source.order (s.drawn.get Source.order) % (a::l).length=i at lt⊢;obtain⟨x,hx⟩:∃x,(a::l)[i]?=some x:=⟨_,Ak lt⟩;have main:wpAny (model prog w) A (match (a::l)[i]? with
   |some x=>do
    let r ←drawOrder n ((a::l).eraseIdx i)
    pure (x::r)
   |none=>unsupported "internal:drawOrder") Q E {s with drawn:=s.drawn.bump Source.order}:=by
   rw[hx];refine aa (Pu n _ _ ?_ fun o d hp=>aq (q _ _ ?_))
   ·rw[List.length_eraseIdx_of_lt lt];simpa using h
   ·exact(hp.cons x).trans (Tt _ _ _ hx)
  exact main
def cz(ps:Array Nat):Nat→Nat
 | 0=>0
 |i+1=>ps.getD i 0+1
theorem rJ{ps:Array Nat}{j b c:Nat}(h1:Cut ps j b)(h2:Cut ps j c):b=c:=by
 have k1:=h1.le;have k2:=h2.le;by_cases e:b<c
 ·have x:=h2.lo b (by omega) e;have y:=h1.hi b (by omega) (io _);omega
 ·by_cases e2:c<b
  ·have x:=h1.lo c (by omega) e2;have y:=h2.hi c (by omega) (io _);omega
  ·omega
theorem O2{ps:Array Nat}(h:Ris ps){i:Nat}(hi:i≤ps.size):SetTable.below ps (cz ps i)=i:=by
 refine rJ (Rg h _) ⟨hi,fun k hk lt=>?_,fun k hk le=>?_⟩
 ·cases i with
  |zero=>omega
  |succ i=>
   have e:cz ps (i+1)=ps[i]'(by omega)+1:=by
    show ps.getD i 0+1=_;simp[Array.getD,show i<ps.size by omega]
   rw[e];by_cases c:k=i
   ·subst c;omega
   ·have:=Sb h (i:=k) (k:=i) (by omega) (by omega);omega
 ·cases i with
  |zero=>exact Bc _
  |succ i=>
   have e:cz ps (i+1)=ps[i]'(by omega)+1:=by
    show ps.getD i 0+1=_;simp[Array.getD,show i<ps.size by omega]
   rw[e];have:=Sb h (i:=i) (k:=k) (by omega) hk;omega
theorem Pq:entryFor PySem.table "set_iterator.__iter__"=some PySem.Builtin.«dict_keyiterator.__iter__»:=by kernel_rfl
section
variable{prog:Program}{w:World}{A:Around}{a it:Addr}{o:Obj}{es:Array (Int×Value)}{ep:Nat}{t:SetTable}
theorem Ql{first:Value}{i n:Nat}(s:Shared)(Q E:Value→Shared→Prop)(hit:s.heap.get? it=some (kU first i a n ep))(q:Q (.ref it) s):wpAny (model prog w) A (pyIter (.ref it)) Q E s:=by
 have ty:s.TypeIs (.ref it) "set_iterator":=⟨_,hit,rfl⟩;refine wpAny_pyIter_slot ty Tg (AY Tg ty Pq ?_ (Oi _));unfold Builtin.«dict_keyiterator.__iter__»;refine aa (show wpAny _ _ (pure (Value.ref it,[])) _ _ _ from aq ?_);exact aq ⟨_,rfl,"set_iterator",_,ty,W9.lookup,q⟩
theorem j3(hh:A.handled=none)(hne:a≠it)(ht:w.params.followText "set-order"=false)(hd:o.data=.set es ep t)(fit:t.fits es.size=true)(g:Gd t true)(np:(!t.plain && decide (es.size > 1))=false):
  Walks prog w A it [it,a] [it] es.size (fun i v=>(es.toList.map (·.2))[i]?=some v) (fun i h=>i≤es.size∧h.get? it=some (kU (.int (cz t.place i:Nat) 0) i a es.size ep)∧h.get? a=some o) where
 sub:=fun b hb=>by rw[Af.mp hb];exact .head _
 frame:=fun i h h' st k=>⟨st.1,k it (.head _) _ st.2.1,k a (.tail _ (.head _)) _ st.2.2⟩
 item:=fun i s Q E hi st q=>by
  obtain⟨_,hit,ho⟩:=st;have sz:t.place.size=es.size:=by
   unfold SetTable.fits at fit;rw[AX]at fit;simpa using fit.1
  refine Uz ⟨_,hit,rfl⟩ (Wt hit ho hd fit ?_);refine aa (P5 ht ho hd fit g np ?_);rw[show((cz t.place i:Nat):Int).toNat=cz t.place i from rfl,O2 g.ris (by omega),Aw hi,Aw (by omega)];refine wpAny_bind (wpAny_setField_rec hit (by simp) fun h1 e1 sb1=>?_);refine wpAny_bind (wpAny_setField_rec e1 (by simp) fun h2 e2 sb2=>?_);refine aq ⟨_,rfl,q _ h2 s.toks ?_ ⟨by omega,?_,?_⟩ fun b o nb e=>?_⟩
  ·rw[Ar,A6,Aw hi];rfl
  ·rw[e2];have es1:cz t.place (i+1)=t.place[i]'(by omega)+1:=by
    show t.place.getD i 0+1=_;simp[Array.getD,show i<t.place.size by omega]
   rw[es1];rfl
  ·rw[sb2.2 a hne,sb1.2 a hne];exact ho
  ·have ne:b≠it:=fun z=>nb (by rw[z];exact .head _);rw[sb2.2 b ne,sb1.2 b ne];exact e
 done:=fun s Q E st q=>by
  obtain⟨_,hit,ho⟩:=st;have sz:t.place.size=es.size:=by
   unfold SetTable.fits at fit;rw[AX]at fit;simpa using fit.1
  refine Uz ⟨_,hit,rfl⟩ (Wt hit ho hd fit ?_);refine aa (P5 ht ho hd fit g np ?_);rw[show((cz t.place es.size:Nat):Int).toNat=cz t.place es.size from rfl,O2 g.ris (by omega),BG (io _)];refine wpAny_bind (wpAny_setField_rec hit (by simp) fun h1 e1 sb1=>?_);refine Tp (by simpa using hh) fun h' e k ty=>⟨ty,q h' s.toks fun b o nb eb=>k b o ?_⟩;have ne:b≠it:=fun z=>nb (by rw[z];exact .head _);show h1.get? b=some o;rw[sb1.2 b ne];exact eb
 self:=fun i s Q E st q=>Ql s Q E st.2.1 q
theorem oh(hh:A.handled=none)(hne:a≠it)(ht:w.params.followText "set-order"=true)(hd:o.data=.set es ep t)(fit:t.fits es.size=true):
  Walks prog w A it [it,a] [it] es.size (fun i v=>((pickOrder (w.params.setOrder a ep) es).toList.map (·.2))[i]?=some v) (fun i h=>h.get? it=some (kU (.int 0 0) i a es.size ep)∧h.get? a=some o) where
 sub:=fun b hb=>by rw[Af.mp hb];exact .head _
 frame:=fun i h h' st k=>⟨k it (.head _) _ st.1,k a (.tail _ (.head _)) _ st.2⟩
 item:=fun i s Q E hi st q=>by
  obtain⟨hit,ho⟩:=st;have sz:(pickOrder (w.params.setOrder a ep) es).size=es.size:=by
   have:=(Ux (w.params.setOrder a ep) es).length_eq;simpa using this
  refine Uz ⟨_,hit,rfl⟩ (Wt hit ho hd fit ?_);refine aa (N2 ht ho hd fit ?_);rw[Aw (by omega)];refine wpAny_bind (wpAny_setField_rec hit (by simp) fun h1 e1 sb1=>?_);refine wpAny_bind (wpAny_setField_rec e1 (by simp) fun h2 e2 sb2=>?_);refine aq ⟨_,rfl,q _ h2 s.toks ?_ ⟨?_,?_⟩ fun b o nb e=>?_⟩
  ·rw[Ar,A6,Aw (by omega)];rfl
  ·rw[e2];rfl
  ·rw[sb2.2 a hne,sb1.2 a hne];exact ho
  ·have ne:b≠it:=fun z=>nb (by rw[z];exact .head _);rw[sb2.2 b ne,sb1.2 b ne];exact e
 done:=fun s Q E st q=>by
  obtain⟨hit,ho⟩:=st;have sz:(pickOrder (w.params.setOrder a ep) es).size=es.size:=by
   have:=(Ux (w.params.setOrder a ep) es).length_eq;simpa using this
  refine Uz ⟨_,hit,rfl⟩ (Wt hit ho hd fit ?_);refine aa (N2 ht ho hd fit ?_);rw[BG (by omega)];refine wpAny_bind (wpAny_setField_rec hit (by simp) fun h1 e1 sb1=>?_);refine Tp (by simpa using hh) fun h' e k ty=>⟨ty,q h' s.toks fun b o nb eb=>k b o ?_⟩;have ne:b≠it:=fun z=>nb (by rw[z];exact .head _);show h1.get? b=some o;rw[sb1.2 b ne];exact eb
 self:=fun i s Q E st q=>Ql s Q E st.1 q
abbrev plO(ord:List Nat):Obj:={cls:=.type "tuple",data:=.seq (ord.map fun i=>rawInt (i:Nat)).toArray}
theorem lu{T:Addr}{ord:List Nat}(hh:A.handled=none)(hne:a≠it)(hT:T≠it)(hp:ord.Perm (List.range es.size))(hd:o.data=.set es ep t)(fit:t.fits es.size=true):
  Walks prog w A it [it,a,T] [it] es.size (fun i v=>(ord.map fun j=>(es.getD j (0,.none)).2)[i]?=some v) (fun i h=>h.get? it=some (kU (.ref T) i a es.size ep)∧h.get? a=some o∧h.get? T=some (plO ord)) where
 sub:=fun b hb=>by rw[Af.mp hb];exact .head _
 frame:=fun i h h' st k=>⟨k it (.head _) _ st.1,k a (.tail _ (.head _)) _ st.2.1,k T (.tail _ (.tail _ (.head _))) _ st.2.2⟩
 item:=fun i s Q E hi st q=>by
  obtain⟨hit,ho,hpl⟩:=st;have ol:ord.length=es.size:=by rw[hp.length_eq,Ba]
  have lt:ord[i]'(by omega)<es.size:=CT.mp (hp.mem_iff.mp (List.getElem_mem _));refine Uz ⟨_,hit,rfl⟩ (Wt hit ho hd fit ?_);refine aa (Bb hpl rfl ?_);have eo:(ord.map fun i=>rawInt (i:Nat)).toArray[i]?=some (.int (ord[i]'(by omega):Nat) 0):=by
   rw[List.getElem?_toArray,Ar,Ak (by omega)];rfl
  dsimp only;rw[eo];refine aa (kL ho hd fit (place:=(((ord[i]'(by omega):Nat):Int)).toNat) (e:=es[ord[i]'(by omega)]) (by rw[show(((ord[i]'(by omega):Nat):Int)).toNat=ord[i]'(by omega)from rfl,Aw lt]) ?_);refine wpAny_bind (wpAny_setField_rec hit (by simp) fun h1 e1 sb1=>?_);refine aq ⟨_,rfl,q _ h1 s.toks ?_ ⟨?_,?_,?_⟩ fun b o nb e=>?_⟩
  ·rw[Ar,Ak (by omega)];simp[Array.getD,lt]
  ·rw[e1];rfl
  ·rw[sb1.2 a hne];exact ho
  ·rw[sb1.2 T hT];exact hpl
  ·have ne:b≠it:=fun z=>nb (by rw[z];exact .head _);rw[sb1.2 b ne];exact e
 done:=fun s Q E st q=>by
  obtain⟨hit,ho,hpl⟩:=st;have ol:ord.length=es.size:=by rw[hp.length_eq,Ba]
  refine Uz ⟨_,hit,rfl⟩ (Wt hit ho hd fit ?_);refine aa (Bb hpl rfl ?_);have eo:(ord.map fun i=>rawInt (i:Nat)).toArray[es.size]?=none:=by
   rw[List.getElem?_toArray,Ar,Cv (by omega)];rfl
  dsimp only;rw[eo];refine wpAny_bind (wpAny_setField_rec hit (by simp) fun h1 e1 sb1=>?_);refine wpAny_bind (wpAny_setField_rec e1 (by simp) fun h2 e2 sb2=>?_);refine Tp (by simpa using hh) fun h' e k ty=>⟨ty,q h' s.toks fun b o nb eb=>k b o ?_⟩;have ne:b≠it:=fun z=>nb (by rw[z];exact .head _);show h2.get? b=some o;rw[sb2.2 b ne,sb1.2 b ne];exact eb
 self:=fun i s Q E st q=>Ql s Q E st.1 q
end
theorem ji{α β:Type}{F:α→β→Prop}{xs ys:List α}(p:xs.Perm ys):∀{zs:List β},Paired F ys zs→∃zs',zs'.Perm zs∧Paired F xs zs':=by
 induction p with
 |nil=>intro zs h;exact⟨zs,CD _,h⟩
 |cons x _ ih=>
  intro zs h;cases h with
  |cons f r=>
   obtain⟨zs',p,q⟩:=ih r;exact⟨_::zs',p.cons _,.cons f q⟩
 |swap x y l=>
  intro zs h;cases h with
  |cons f r=>
   cases r with
   |cons g r=>
    exact⟨_,List.Perm.swap _ _ _,.cons g (.cons f r)⟩
 |trans _ _ ih1 ih2=>
  intro zs h;obtain⟨z1,p1,q1⟩:=ih2 h;obtain⟨z2,p2,q2⟩:=ih1 q1;exact⟨z2,p2.trans p1,q2⟩
theorem Qy{α β γ:Type}{F:α→β→Prop}{G:γ→β→Prop}{f:α→γ}(h:∀a b,F a b→G (f a) b):∀{xs:List α}{zs:List β},Paired F xs zs→Paired G (xs.map f) zs
 |_,_,.nil=>.nil
 |_,_,.cons g r=>.cons (h _ _ g) (Qy h r)
def IsK(P:Program)(w:World)(v:Value)(k:Key):Prop:=(ai P w).is k v=true
theorem Qd{P:Program}{w:World}{es:List (Int×Value)}{vs:List (Int×Value)}{ks:List Key}(h:∃fs,es.Perm fs∧Paired (j2 P w) fs ks)(p:vs.Perm es):∃ks',ks'.Perm ks∧Paired (IsK P w) (vs.map (·.2)) ks':=by
 obtain⟨fs,p1,m⟩:=h;obtain⟨ks',p2,q⟩:=ji (p.trans p1) m;exact⟨ks',p2,Qy (fun _ _ z=>z.1) q⟩
section
variable{prog:Program}{w:World}{A:Around}{E:Value→Shared→Prop}{s:Shared}{a:Addr}{ks:List Key}
theorem sA{Q:Value→Shared→Prop}(G:di prog w s.heap a ks)(hb:ks.length≤sizeLine)(q:∀(it:Addr) (h':Heap) (d:Drawn) (vs:List Value) (fp:List Addr) (St:Nat→Heap→Prop),s.heap.objs.size≤it→(∀b o,s.heap.get? b=some o→h'.get? b=some o)→(∀b∈fp,b=a∨s.heap.objs.size≤b)→
   (∀A':Around,A'.handled=none→Walks prog w A' it fp [it] ks.length (fun i v=>vs[i]?=some v) St)→St 0 h'→vs.length=ks.length→(∃ks',ks'.Perm ks∧Paired (IsK prog w) vs ks')→Q (.ref it) {s with heap:=h',drawn:=d}):
  wpAny (model prog w) A (pyIter (.ref a)) Q E s:=by
 obtain⟨o,es,ep,t,ho,hex,hd,hf,fit,gd,nd⟩:=G;have len:=Rc hf;rw[Ax]at len;have lta:a<s.heap.objs.size:=az ho;have ty:s.TypeIs (.ref a) "set":=⟨o,ho,hex.1⟩;refine wpAny_pyIter_slot ty PySem.F.slot_set_iter (AY PySem.F.slot_set_iter ty Pr ?_ (PySem.F.args_set_iter_1 _));unfold Builtin.«frozenset.__iter__»;refine aa (show wpAny _ _ (pure a) _ _ _ from aq ?_);unfold Builtin.Frozenset.sizeOf;refine aa (aa (wpAny_setEntries_of ho hd fit (aq ?_)));unfold setDrawn;refine aa (aa (B8 ho hd fit (aa (Q7 (aq ?_)))));show wpAny _ _ (if (!w.params.followText "set-order" && (!t.plain && decide (es.size > 1)))=true then _ else _) _ _ _;have fin:∀(first:Value)(s1:Shared)(it:Addr),it=s1.heap.objs.size→s1.heap.get? a=some o→(∀b o,s.heap.get? b=some o→s1.heap.get? b=some o)→s.heap.objs.size≤it→s1={s with heap:=s1.heap,drawn:=s1.drawn}→
   (∀h',h'=s1.heap.push (kU first 0 a es.size ep)→∃(vs:List Value)(fp:List Addr)(St:Nat→Heap→Prop),(∀b∈fp,b=a∨s.heap.objs.size≤b)∧
   (∀A':Around,A'.handled=none→Walks prog w A' it fp [it] es.size (fun i v=>vs[i]?=some v) St)∧St 0 h'∧vs.length=ks.length∧(∃ks',ks'.Perm ks∧Paired (IsK prog w) vs ks'))→
   wpAny (model prog w) A.in1 (do
    let e ←setEpoch a
    let x ←newFields "set_iterator" [first,rawInt 0,.ref a,rawInt es.size,rawInt e]
    ret x) (fun fin s'=>∃v,fin=.done (.ret v)∧∃T' r,s'.TypeIs v T'∧typeLookup (.type T') (Str.ofString "__next__")=pure (some r)∧Q v s') E s1:=by
  intro first s1 it hit ho1 kp le es1 hw
  refine aa (wpAny_setEpoch_of ho1 hd fit ?_);unfold newFields;refine aa (Bf ?_);obtain⟨vs,fp,St,h1,h2,h3,h4,h5⟩:=hw _ rfl;refine aq ⟨_,rfl,"set_iterator",_,⟨_,pi _ rfl,rfl⟩,W9.lookup,?_⟩;rw[es1,←hit];rw[len]at h2;exact q it _ s1.drawn vs fp St le (fun b o e=>af _ (kp b o e)) h1 h2 h3 h4 h5
 by_cases ht:w.params.followText "set-order"=true
 ·rw[ht];rw[if_neg (by simp)];refine aa (aq ?_);refine fin (rawInt 0) s s.heap.objs.size rfl ho (fun _ _ e=>e) (io _) rfl fun h' eh=>?_;subst eh;refine⟨(pickOrder (w.params.setOrder a ep) es).toList.map (·.2),[s.heap.objs.size,a],_,?_,fun A' hA=>oh hA (Ac lta) ht hd fit,⟨pi _ rfl,af _ ho⟩,?_,Qd hf (Ux _ _)⟩
  ·intro b hb
   rcases Ae.mp hb with rfl | hb
   ·exact .inr (io _)
   ·exact .inl (Af.mp hb)
  ·rw[ae,(Ux _ _).length_eq,Ax,len]
 ·have ht:w.params.followText "set-order"=false:=AO.mpr ht;rw[ht]at gd⊢;by_cases hdr:(!t.plain && decide (es.size > 1))=true
  ·rw[hdr,Ah (by decide)];refine aa (Pu es.size (List.range es.size) s (Ba) fun ord d hp=>?_);have ol:ord.length=es.size:=by rw[hp.length_eq,Ba]
   refine aa (wpAny_newTuple ?_ (by rw[ae];omega));refine fin (.ref s.heap.objs.size) _ (s.heap.objs.size+1) (by simp[Heap.size_push]) (Heap.get?_push_of_some _ ho) (fun b o e=>Heap.get?_push_of_some _ e) (by omega) rfl fun h' eh=>?_;subst eh;have hpe:(ord.map fun j=>es.getD j (0,.none)).Perm es.toList:=by
    have e:es.toList=(List.range es.size).map fun j=>es.getD j (0,.none):=by
     refine List.ext_getElem? fun i=>?_;rw[A6,Ar];by_cases hi:i<es.size
     ·rw[Aw hi,List.getElem?_range hi];simp[Array.getD,hi]
     ·rw[BG (by omega),Cv (by rw[Ba];omega)];rfl
    rw[e];exact hp.map _
   have v:=Qd hf hpe;rw[AB]at v;refine⟨ord.map fun j=>(es.getD j (0,.none)).2,[s.heap.objs.size+1,a,s.heap.objs.size],_,?_,fun A' hA=>lu (it:=s.heap.objs.size+1) (T:=s.heap.objs.size) hA (Ac (BD lta)) (Ac (Nat.lt_succ_self _)) hp hd fit,⟨?_,af _ (af _ ho),af _ (pi _ rfl)⟩,?_,v⟩
   ·intro b hb
    rcases Ae.mp hb with rfl | hb
    ·exact .inr (by omega)
    ·rcases Ae.mp hb with rfl | hb
     ·exact .inl rfl
     ·rw[Af.mp hb];exact .inr (io _)
   ·have:=pi (h:=s.heap.push (plO ord)) (o:=kU (.ref s.heap.objs.size) 0 a es.size ep) rfl;rw[Bt]at this;exact this
   ·rw[ae,ol,len]
  ·have hdr:=AO.mpr hdr;rw[hdr,if_neg (by simp)];refine aa (aq ?_);refine fin (rawInt 0) s s.heap.objs.size rfl ho (fun _ _ e=>e) (io _) rfl fun h' eh=>?_;subst eh;refine⟨es.toList.map (·.2),[s.heap.objs.size,a],_,?_,fun A' hA=>j3 hA (Ac lta) ht hd fit gd hdr,⟨Bc _,pi _ rfl,af _ ho⟩,?_,Qd hf (CD _)⟩
   ·intro b hb
    rcases Ae.mp hb with rfl | hb
    ·exact .inr (io _)
    ·exact .inl (Af.mp hb)
   ·rw[ae,Ax,len]
theorem Qb{α:Type}{M:Model}{c:Bool}{X Y:Sem α}{Q:α→Shared→Prop}(h:c=true)(q:wpAny M A X Q E s):wpAny M A (if c=true then X else Y) Q E s:=by
 rw[Ah h];exact q
theorem pT{Q:Bool→Shared→Prop}(ty:s.TypeIs (.ref a) "set")(q:Q false s):wpAny (model prog w) A (Builtin.List.listLengthHint (.ref a)) Q E s:=by
 have k1:typeLookup (.type "set") (Str.ofString "__len__")=pure (some (.builtin "set.__len__")):=by kernel_rfl
 have k2:splitId "set.__len__"=some ("set","__len__"):=by kernel_rfl
 have k3:isSubtype (.type "set") (.type "set")=pure true:=PySem.F.called_set.sub;unfold Builtin.List.listLengthHint;refine aa (wpAny_specialOf ty k1 ?_);dsimp only;rw[k2];refine aa (CH ty k3 ?_);rw[Aj (by decide)];refine Qb (by kernel_rfl) (aa (Cn ty ?_));exact aq q
theorem vH:(Value.type "set" == Value.type "list")=false:=by decide
theorem yg:(Value.type "set" == Value.type "tuple")=false:=by decide
theorem jX{S:Addr}{res:Value}{c₀:Nat}{R:Result→Shared→Prop}(G:di prog w s.heap a ks)(hh:A.handled=none)(hb:ks.length≤sizeLine)(hS:S≠a)(eS:s.heap.get? S=some {cls:=.type "list",data:=.seq #[] c₀})(q:∀(g:Heap) (tk:Nat) (d:Drawn) (xs:Array Value) (c:Nat),(∀b o,b≠S→s.heap.get? b=some o→g.get? b=some o)→g.get? S=some {cls:=.type "list",data:=.seq xs c}→(∃ks',ks'.Perm ks∧Paired (IsK prog w) xs.toList ks')→R (.ok (.ret res)) {s with heap:=g,toks:=tk,drawn:=d}):
  wpAny (model prog w) A.in1 (Builtin.List.listExtendWith (.ref S) (.ref a) res) (fun fin s'=>match fin with
   |.done f=>R (.ok f) s'
   |.again c'=>c'.quiet=true∧codeAny (model prog w) A c' R s') (fun e s'=>R (.error e) s') s:=by
 have ty:s.TypeIs (.ref a) "set":=by
  obtain⟨o,es,ep,t,ho,hex,_⟩:=G;exact⟨o,ho,hex.1⟩
 unfold Builtin.List.listExtendWith;refine aa (Cn ty ?_);have sm:Builtin.List.listSameRef (.ref S) (.ref a)=false:=by
  unfold Builtin.List.listSameRef;simpa using hS
 rw[sm,vH,yg,Aj (by decide)];refine aa (sA G hb fun it h1 d vs fp St le kp hf W st len pk=>?_);refine aa (AS (pT (s:={s with heap:=h1,drawn:=d}) ?_ ?_))
 ·obtain⟨o,e,c⟩:=ty;exact⟨o,kp _ _ e,c⟩
 have lS:S<s.heap.objs.size:=az eS;have nS:S∉fp:=fun hm=>by
  rcases hf S hm with z | z
  ·exact hS z
  ·exact absurd lS (Nat.not_lt.mpr z)
 have hA:A.in1.handled=none:=by simpa using hh
 have loop:∀(s2:Shared)(c:Nat),St 0 s2.heap→s2.heap.get? S=some {cls:=.type "list",data:=.seq #[] c}→(∀b o,b≠S→h1.get? b=some o→s2.heap.get? b=some o)→s2={s with heap:=s2.heap,drawn:=d}→
   codeAny (model prog w) A (.builtin "list.extend.loop" ⟨[.ref S,.ref it,res],[]⟩) R s2:=by
  intro s2 c st2 e2 k2 es2;refine codeAny_extend_loopS (W A.in1 hA).toS hb S nS res ks.length 0 s2 #[] c (by omega) (Bc _) st2 e2 (ItemsOf.nil _) fun s' xs c' mv eS' hx=>?_;have ex:s'={s with heap:=s'.heap,toks:=s'.toks,drawn:=d}:=by
   have h1:=mv.gens;have h2:=mv.drawn;have h3:=mv.os;rw[es2]at h1 h2 h3;obtain⟨a1,a2,a3,a4,a5⟩:=s';simp only at h1 h2 h3;subst h1 h2 h3;rfl
  have vx:xs.toList=vs:=by
   refine List.ext_getElem? fun j=>?_;obtain⟨sz,at_⟩:=hx;rw[A6];by_cases hj:j<xs.size
   ·have:=at_ j xs[j] (Aw hj);rw[Aw hj,this]
   ·rw[BG (by omega),Cv (by omega)]
  rw[ex];refine q s'.heap s'.toks d xs c' (fun b o nb e=>mv.heap b o ?_ (k2 b o nb (kp b o e))) eS' (by rw[vx];exact pk);intro hm
  rcases Ae.mp hm with z | z
  ·exact nb z
  ·have:=Af.mp z;have l2:b<s.heap.objs.size:=az e;rw[this]at l2;exact absurd l2 (Nat.not_lt.mpr le)
 refine Qb (by kernel_rfl) (aa (CO ?_));unfold Builtin.List.listTouch;have u1:=get?_update_seq (c:="list") (kp _ _ eS) (fun x=>x.push Value.none);have u2:=get?_update_seq (c:="list") u1 (fun x=>x.pop);refine wpAny_bind (wpAny_bind (listUpdate_at (kp _ _ eS) rfl (listUpdate_at u1 rfl ?_ (by simp[sizeLine_eq]) (by simp)) (by simp) (by simp[sizeLine_eq])));obtain⟨c2,u3⟩:∃c2,((h1.update S (Obj.mapSeq fun x=>x.push Value.none)).update S (Obj.mapSeq fun x=>x.pop)).get? S=some {cls:=.type "list",data:=.seq #[] c2}:=⟨_,u2⟩;have k2:∀b o,b≠S→h1.get? b=some o→((h1.update S (Obj.mapSeq fun x=>x.push Value.none)).update S (Obj.mapSeq fun x=>x.pop)).get? b=some o:=fun b o nb e=>by
  rw[Heap.get?_update_ne _ _ _ _ nb,Heap.get?_update_ne _ _ _ _ nb];exact e
 refine aq ⟨BV Bo _,loop _ c2 ((W A.in1 hA).frame 0 _ _ st fun b hb o e=>k2 b o (fun z=>nS (by rw[←z];exact hb)) e) u3 k2 rfl⟩
def xc(P:Program)(w:World)(s:Shared)(ks:List Key)(q:Result)(s':Shared):Prop:=
 ∃(g:Heap)(tk c:Nat)(d:Drawn)(xs:Array Value),q=.ok (.ret (.ref s.heap.objs.size))∧s'={s with heap:=g,toks:=tk,drawn:=d}∧(∀b o,s.heap.get? b=some o→g.get? b=some o)∧g.get? s.heap.objs.size=some {cls:=.type "list",dict:=none,data:=.seq xs c,slots:=#[]}∧(∃ks',ks'.Perm ks∧Paired (IsK P w) xs.toList ks')
theorem Rs{R:List Value→Shared→Prop}(G:di prog w s.heap a ks)(hh:A.handled=none)(hb:ks.length≤sizeLine)(h:∀(g:Heap) (tk:Nat) (d:Drawn) (xs:Array Value),(∀b o,s.heap.get? b=some o→g.get? b=some o)→s.heap.objs.size<g.objs.size→(∃ks',ks'.Perm ks∧Paired (IsK prog w) xs.toList ks')→R xs.toList {s with heap:=g,toks:=tk,drawn:=d}):wpAny (model prog w) A (collect (.ref a)) R E s:=by
 have lt1:a<s.heap.objs.size:=by
  obtain⟨o,es,ep,t,ho,_⟩:=G;exact az ho
 unfold collect;refine aa (wpAny_runValue (Bj entry_proto_collect' ?_));rw[A4 PySem.F.plain_proto_collect _];refine aa (m:=newList []) (Bf (aq ⟨BV Cg _,Bj entry_list_iadd' ?_⟩));rw[A4 Cg _];have own:(s.heap.push {cls:=.type "list",data:=.seq ([]:List Value).toArray}).get? s.heap.objs.size=some {cls:=.type "list",data:=.seq #[]}:=pi _ rfl;have run:=jX (A:=A) (s:={s with heap:=s.heap.push {cls:=.type "list",data:=.seq ([]:List Value).toArray}}) (R:=xc prog w s ks) (Uq G fun o e=>af _ e) hh hb (AF lt1) (res:=.ref s.heap.objs.size) own
  (fun g tk d xs c hk hS hx=>⟨g,tk,c,d,xs,rfl,rfl,fun b o e=>hk b o (Ac (az e)) (af _ e),hS,hx⟩)
 refine A5 run (fun fin s' y=>?_) (fun _ _ y=>by obtain⟨_,_,_,_,_,e,_⟩:=y;cases e);cases fin with
 |done f=>
  obtain⟨g,tk,c,d,xs,e,rfl,hk,hS,hx⟩:=y;cases e;exact aa (m:=load s.heap.objs.size) (CU hS (aq (h g tk d xs hk (az hS) hx)))
 |again c1=>
  refine⟨y.1,B6 y.2 fun q s2 z=>?_⟩;obtain⟨g,tk,c,d,xs,rfl,rfl,hk,hS,hx⟩:=z;exact aa (m:=load s.heap.objs.size) (CU hS (aq (h g tk d xs hk (az hS) hx)))
end
theorem Inv.drawnAs{X:Cx}{CZ:List (Addr×Obj)}{σ:St}{H:Hp}{s:Shared}(I:Inv X CZ σ H s)(d:Drawn):Inv X CZ σ H {s with drawn:=d}:=
 I.call (h':=s.heap) (g':=s.gens) (t':=s.toks) (d':=d) (ch:=[]) Un.refl I.hok I.bare (fun _ z=>nomatch z)
theorem Rk{P:Program}{w:World}:∀{vs:List Value}{ks:List Key},Paired (IsK P w) vs ks→(∀k∈ks,∃z,k=Sum.inr z)→∃zs:List Str,ks=zs.map Sum.inr∧StrsAre vs zs
 |_,_,.nil,_=>⟨[],rfl,.nil⟩
 |_,_,.cons f r,h=>by
  obtain⟨z,rfl⟩:=h _ (.head _);obtain⟨zs,rfl,q⟩:=Rk r fun k hk=>h k (.tail _ hk);obtain⟨t,rfl⟩:=lg f;exact⟨z::zs,rfl,.cons z t q⟩
theorem Rl{P:Program}{w:World}:∀{vs:List Value}{ks:List Key},Paired (IsK P w) vs ks→(∀k∈ks,∃z,k=Sum.inl z)→∃ns:List Int,ks=ns.map Sum.inl∧IntsAre vs ns
 |_,_,.nil,_=>⟨[],rfl,.nil⟩
 |_,_,.cons f r,h=>by
  obtain⟨z,rfl⟩:=h _ (.head _);obtain⟨ns,rfl,q⟩:=Rl r fun k hk=>h k (.tail _ hk);obtain⟨t,rfl⟩:=lg f;exact⟨z::ns,rfl,.cons z t q⟩
theorem su{xs ys:List Str}(h:(xs.map (Sum.inr:Str→Key)).Perm (ys.map Sum.inr)):xs.Perm ys:=by
 have:=h.filterMap Sum.getRight?;rw[Cm,Cm]at this;simpa [Function.comp_def] using this
theorem qZ{xs ys:List Int}(h:(xs.map (Sum.inl:Int→Key)).Perm (ys.map Sum.inl)):xs.Perm ys:=by
 have:=h.filterMap Sum.getLeft?;rw[Cm,Cm]at this;simpa [Function.comp_def] using this
section
variable{X:Cx}
def vI(P:Program)(w:World):List V→Hp→VK→Prop:=fun xs H Q=>∃(d:Addr)(zs:List Str),xs=[.ref d]∧H d=some (eE P w d (zs.map Sum.inr))∧zs.length<64∧∀p,H p=none→Q (.ref p) (upd H p (.lst ((bN zs).map V.str)))
theorem i5(hc:X.calm=true):bu X (.builtin "sorted") (vI X.prog X.w):=by
 intro CZ s σ H xs us Q I rx h;obtain⟨d,zs,rfl,hd,h64,q⟩:=h;obtain⟨u,rfl,ru⟩:=Wx rx;cases ru;have G:di X.prog X.w s.heap d (zs.map Sum.inr):=(I.hok d _ hd).1;have hh:X.A.in1.handled=none:=by simpa using I.ok.hd hc
 refine Calls.call_function_entry kind_sorted plain_sorted entry_sorted (args_sorted1 _) ?_;unfold Builtin.«sorted»;refine aa (m:=checkCount "sorted" 1 1 _) (aq ?_);refine aa (Rs (A:=X.A.in1) G hh (Zd (by rw[ae];omega)) fun g tk dr Db hk hsz hacc=>?_);obtain⟨ks',pk,pr⟩:=hacc;obtain⟨zs',rfl,hS⟩:=Rk pr fun k hk=>by
  obtain⟨z,_,rfl⟩:=Ab.mp (pk.mem_iff.mp hk);exact⟨z,rfl⟩
 have pz:=su pk;have al:Db.toList.length=zs.length:=by
  have e1:=Cs pr;rw[ae]at e1;rw[e1,pz.length_eq]
 refine aa (wpAny_newList ?_ (by exact Zd (by omega)));have hoL:(g.push (seqObj "list" Db.toList.toArray 0)).get? g.objs.size=some (seqObj "list" Db.toList.toArray 0):=pi _ rfl;refine aa (AS (AY slot_list_sort ⟨_,hoL,rfl⟩ entry_list_sort (list_sort_treeK strKind_oneLt hoL hS.keysOf (fun v1 v2 rest e=>keyKind_strs (by rw[←e];exact hS)) (by omega) fun Dc b1 b2=>⟨_,rfl,?_⟩) (args_list_sort _)));refine aq ⟨_,rfl,?_⟩;obtain⟨ss,a1,a2,a3⟩:=sorted_out_str hS b1 b2;have ess:=mG (a2.trans pz) a3;subst ess;obtain⟨e2,he2⟩:=sortedHeap_at (vs:=Db.toList) (out:=(arrOf Dc).map (·.2)) hoL;have hz:s.heap.objs.size≤g.objs.size:=BB hsz;refine⟨.ref g.objs.size,_,(I.drawnAs dr).laid (t':=tk) (o:=.lst ((bN zs).map V.str)) (fun b o e=>?_) hz ?_,rfl,q _ (I.hok.fresh hz)⟩
 ·have e':=hk b o e;have C5:=az e';rw[sortedHeap_old (Ac C5) (by rw[size_push'];exact BD C5)];exact af _ e'
 ·refine⟨?_,((arrOf Dc).map (·.2)).toList,e2,Sw a1,by rw[Array.toArray_toList];exact he2⟩;rw[ae,(Zx zs).length_eq];exact Zd (by omega)
def vJ(P:Program)(w:World):List V→Hp→VK→Prop:=fun xs H Q=>∃(d:Addr)(ns:List Int),xs=[.ref d]∧H d=some (eE P w d (ns.map Sum.inl))∧ns.length<64∧∀p,H p=none→Q (.ref p) (upd H p (.lst ((kJ ns).map V.int)))
theorem jk(hc:X.calm=true):bu X (.builtin "sorted") (vJ X.prog X.w):=by
 intro CZ s σ H xs us Q I rx h;obtain⟨d,ns,rfl,hd,h64,q⟩:=h;obtain⟨u,rfl,ru⟩:=Wx rx;cases ru;have G:di X.prog X.w s.heap d (ns.map Sum.inl):=(I.hok d _ hd).1;have hh:X.A.in1.handled=none:=by simpa using I.ok.hd hc
 refine Calls.call_function_entry kind_sorted plain_sorted entry_sorted (args_sorted1 _) ?_;unfold Builtin.«sorted»;refine aa (m:=checkCount "sorted" 1 1 _) (aq ?_);refine aa (Rs (A:=X.A.in1) G hh (Zd (by rw[ae];omega)) fun g tk dr Db hk hsz hacc=>?_);obtain⟨ks',pk,pr⟩:=hacc;obtain⟨ns',rfl,hS⟩:=Rl pr fun k hk=>by
  obtain⟨z,_,rfl⟩:=Ab.mp (pk.mem_iff.mp hk);exact⟨z,rfl⟩
 have pz:=qZ pk;have al:Db.toList.length=ns.length:=by
  have e1:=Cs pr;rw[ae]at e1;rw[e1,pz.length_eq]
 refine aa (wpAny_newList ?_ (by exact Zd (by omega)));have hoL:(g.push (seqObj "list" Db.toList.toArray 0)).get? g.objs.size=some (seqObj "list" Db.toList.toArray 0):=pi _ rfl;refine aa (AS (AY slot_list_sort ⟨_,hoL,rfl⟩ entry_list_sort (list_sort_tree hoL hS (by omega) fun out ms a1 a2 a3=>⟨_,rfl,?_⟩) (args_list_sort _)));refine aq ⟨_,rfl,?_⟩;have ess:=uP (a2.trans pz) a3;subst ess;obtain⟨e2,he2⟩:=sortedHeap_at (vs:=Db.toList) (out:=out) hoL;have hz:s.heap.objs.size≤g.objs.size:=BB hsz;refine⟨.ref g.objs.size,_,(I.drawnAs dr).laid (t':=tk) (o:=.lst ((kJ ns).map V.int)) (fun b o e=>?_) hz ?_,rfl,q _ (I.hok.fresh hz)⟩
 ·have e':=hk b o e;have C5:=az e';rw[sortedHeap_old (Ac C5) (by rw[size_push'];exact BD C5)];exact af _ e'
 ·refine⟨?_,out.toList,e2,Uo a1,by rw[Array.toArray_toList];exact he2⟩;rw[ae,(Wq ns).length_eq];exact Zd (by omega)
end
def li(zs:List Str):List Str:=(ddK [] (zs.map Sum.inr)).filterMap Sum.getRight?
def gP(ns:List Int):List Int:=(ddK [] (ns.map Sum.inl)).filterMap Sum.getLeft?
theorem gU(zs:List Str):ddK [] (zs.map Sum.inr)=(li zs).map Sum.inr:=by
 have h:∀k∈ddK [] (zs.map (Sum.inr:Str→Key)),∃z,k=Sum.inr z:=fun k hk=>by
  rcases(Sr _ _ _).mp hk with q | q
  ·exact nomatch q
  ·obtain⟨z,_,rfl⟩:=Ab.mp q;exact⟨z,rfl⟩
 unfold li;generalize ddK [] (zs.map (Sum.inr:Str→Key))=l at h⊢
 induction l with
 |nil=>rfl
 |cons k l ih=>
  obtain⟨z,rfl⟩:=h k (.head _);rw[BU];show Sum.inr z::l=Sum.inr z::_;rw[←ih fun k hk=>h k (.tail _ hk)]
theorem Q6(ns:List Int):ddK [] (ns.map Sum.inl)=(gP ns).map Sum.inl:=by
 have h:∀k∈ddK [] (ns.map (Sum.inl:Int→Key)),∃z,k=Sum.inl z:=fun k hk=>by
  rcases(Sr _ _ _).mp hk with q | q
  ·exact nomatch q
  ·obtain⟨z,_,rfl⟩:=Ab.mp q;exact⟨z,rfl⟩
 unfold gP;generalize ddK [] (ns.map (Sum.inl:Int→Key))=l at h⊢
 induction l with
 |nil=>rfl
 |cons k l ih=>
  obtain⟨z,rfl⟩:=h k (.head _);rw[BU];show Sum.inl z::l=Sum.inl z::_;rw[←ih fun k hk=>h k (.tail _ hk)]
theorem uniS_mem{zs:List Str}{z:Str}:z∈li zs↔z∈zs:=by
 have h:=Sr (zs.map Sum.inr) [] (Sum.inr z:Key);rw[gU,Ab,Ab]at h;constructor
 ·intro q
  rcases h.mp ⟨z,q,rfl⟩with e | ⟨y,hy,e⟩
  ·exact nomatch e
  ·cases e;exact hy
 ·intro q;obtain⟨y,hy,e⟩:=h.mpr (.inr ⟨z,q,rfl⟩);cases e;exact hy
theorem uniI_mem{ns:List Int}{z:Int}:z∈gP ns↔z∈ns:=by
 have h:=Sr (ns.map Sum.inl) [] (Sum.inl z:Key);rw[Q6,Ab,Ab]at h;constructor
 ·intro q
  rcases h.mp ⟨z,q,rfl⟩with e | ⟨y,hy,e⟩
  ·exact nomatch e
  ·cases e;exact hy
 ·intro q;obtain⟨y,hy,e⟩:=h.mpr (.inr ⟨z,q,rfl⟩);cases e;exact hy
theorem uj(ns:List Int):(gP ns).Nodup:=by
 have h:=ql (ns.map (Sum.inl:Int→Key)) [] AQ;rw[Q6]at h;exact List.Pairwise.of_map Sum.inl (fun a b hab e=>hab (by rw[e])) h
theorem qJ(zs:List Str):(li zs).length≤zs.length:=by
 have h:=Q5 (zs.map (Sum.inr:Str→Key)) [];rw[gU,ae,ae,BS]at h;omega
theorem jw(ns:List Int):(gP ns).length≤ns.length:=by
 have h:=Q5 (ns.map (Sum.inl:Int→Key)) [];rw[Q6,ae,ae,BS]at h;omega
section
variable{X:Cx}
theorem ox(hc:X.calm=true):bu X (.type "set") (fun xs H Q=>∃(p:Addr)(zs:List Str),xs=[.ref p]∧SqL X.K H p (zs.map V.str)∧zs.length<4000∧∀a,H a=none→Q (.ref a) (upd H a (eE X.prog X.w a ((li zs).map Sum.inr)))):=by
 intro CZ s σ H xs us Q I r h;obtain⟨p,zs,rfl,hq,hz,q⟩:=h;refine Nl hc CZ s σ H _ us Q I r ⟨p,zs.map Sum.inr,rfl,?_,by rw[ae];exact hz,fun a na=>?_⟩
 ·rw[AB];exact hq
 ·rw[gU];exact q a na
theorem nV(hc:X.calm=true):bu X (.type "set") (fun xs H Q=>∃(p:Addr)(ns:List Int),xs=[.ref p]∧SqL X.K H p (ns.map V.int)∧ns.length<4000∧∀a,H a=none→Q (.ref a) (upd H a (eE X.prog X.w a ((gP ns).map Sum.inl)))):=by
 intro CZ s σ H xs us Q I r h;obtain⟨p,ns,rfl,hq,hz,q⟩:=h;refine Nl hc CZ s σ H _ us Q I r ⟨p,ns.map Sum.inl,rfl,?_,by rw[ae];exact hz,fun a na=>?_⟩
 ·rw[AB];exact hq
 ·rw[Q6];exact q a na
end
section
variable{X:Cx}
end
section
variable{X:Cx}{CZ:List (Addr×Obj)}{σ:St}{H:Hp}{s:Shared}
def xM(w:Addr→Addr→HO):V→List V→Hp→VK→Prop:=fun x vs H Q=>∃d kvs,x=.ref d∧vs=[]∧Rd H d (.dK kvs)∧∀a,H a=none→Q (.ref a) (upd H a (w a d))
theorem kG:MtR X "dict.values" (xM cM):=by
 intro CZ s σ H x vs v us Q I rx rv h;obtain⟨d,kvs,rfl,rfl,hd,q⟩:=h;cases rx;cases rv;obtain⟨_,lo,ws,_,hD⟩:=Pw I.hok hd;refine call_meetsIn Cd hD.typeIs PySem.F.entry_dict_values (PySem.F.args_dict_values_1 _) (meets_dict_values (ai X.prog X.w) d lo) ⟨⟨ws,hD⟩,?_⟩;refine⟨.ref s.heap.objs.size,_,I.laid (t':=s.toks) (o:=cM s.heap.objs.size d) (fun b o e=>af _ e) (io _) ?_,rfl,q _ (I.hok.fresh (io _))⟩;exact⟨⟨_,pi _ rfl,rfl,rfl⟩,⟨_,pi _ rfl⟩,fun h1 h2 ⟨o,ho,r⟩ k=>⟨o,k o ho,r⟩⟩
def zq(to:TE):TE:=fun σ H Q=>to σ H fun x H1=>∃d kvs,x=.ref d∧Rd H1 d (.dK kvs)∧∀a,H1 a=none→Q (.ref a) (upd H1 a (cM a d))
theorem uY{o:Expr}{to:TE}{apos cpos:Pos}(ho:PE X o to)(hbase:attributeBase o "values" X.env (eval o X.env)=eval o X.env:=by rfl)(hline:(apos.endLine==cpos.line)=true:=by rfl):PE X (.Call (.Attribute o "values" apos) [] [] cpos) (zq to):=by
 intro CZ s σ H Q I h;refine wpAny_Call_method0_late hbase hline (thn (ho CZ s σ H _ I h) fun v s1 C0=>?_);obtain⟨x,H1,I1,r1,q1⟩:=C0;obtain⟨d,kvs,rfl,hd,q⟩:=q1;obtain rfl:v=Value.ref d:=r1;obtain⟨t1,t2,_⟩:=rV I1 (.inl ⟨kvs,hd⟩);refine⟨"dict","dict.values",PySem.F.plainAttrs_dict,Cd,PySem.F.type_dict_values,t1,?_,Co rfl (PySem.evalArgs_none (kG CZ s1 σ H1 (.ref d) [] (.ref d) [] Q I1 rfl .nil ⟨d,kvs,rfl,rfl,hd,q⟩))⟩
 first | exact t2 | exact fun a e=>by cases e;exact t2
def Itv(d:Addr)(kvs:List (Key×V))(o:Obj):It:=⟨fun i H=>i<kvs.length∧H d=some (.frz o (.dK kvs)),fun i H x H'=>H'=H∧∃p,kvs[i]?=some p∧x=p.2,fun i H=>kvs.length≤i∧H d=some (.frz o (.dK kvs))⟩
theorem nM{P:Program}{w:World}{K:W.Frag}{tg:Expr}{d it:Addr}{kvs:List (Key×V)}{o:Obj}{ws:List (Key×Value)}{ep:Nat}(kv:KV kvs ws)(hat:∀h:Heap,h.get? d=some o→h.DictAt (ai P w) d ws ep):
  Turn P w K tg (Itv d kvs o) [it] it (fun i h=>h.IsValIter it d i ws.length ep) where
 mem:=by simp
 obj:=fun i h st b hb=>by
  obtain⟨q,e,c,dd⟩:=st;have z:b=it:=by simpa using hb
  subst z;exact⟨q,e,fun v z=>by rw[dd]at z;cases z⟩
 keep:=fun i h h' st k=>st.at fun q e=>k it (by simp) q e
 item:=by
  intro X hP hw hK hc i CZ s σ H E I hf st hg;subst hP hw hK;obtain⟨hi,hd⟩:=hg;obtain⟨ho,_⟩:=I.hok d _ hd;have kl:=kv.length;obtain⟨f0,f1,f2,f3,f4,f5⟩:=hf it (by simp);have e1:kvs[i]?=some kvs[i]:=by simp[hi]
  have e2:ws[i]?=some ws[i]:=by simp
  obtain⟨r1,r2⟩:=KV.get kv e1 e2;refine wpAny_pyNext_values_item st (hat _ ho) (k:=ws[i].1) (v:=ws[i].2) e2 fun h' Dc sb=>?_;obtain⟨q,e,c,dd⟩:=id Dc;have I1:Inv X CZ σ H {s with heap:=h'}:=I.turned (t':=s.toks) (fun b ob hb eb=>(sb.2 b hb).trans eb) f0 f1 f3 f4 f5;exact⟨_,rfl,Nd (s:={s with heap:=h'}) e c dd (by decide) ⟨kvs[i].2,H,I1,r2,⟨rfl,_,e1,rfl⟩,Dc,fun b hb=>(hf b hb).1⟩⟩
 done:=by
  intro X hP hw hK hc i CZ s σ H E I hf st hg;subst hP hw hK;obtain⟨hi,hd⟩:=hg;obtain⟨ho,_⟩:=I.hok d _ hd;have kl:=kv.length;obtain⟨f0,f1,f2,f3,f4,f5⟩:=hf it (by simp);exact wpAny_pyNext_values_end (I.ok.hd hc) st (hat _ ho) (by simp;omega) fun h' eb=>⟨rfl,I.turned (t':=s.toks) (fun b ob hb e=>eb b ob hb e) f0 f1 f3 f4 f5⟩
 self:=fun _ _ _ _ _ st h=>wpAny_pyIter_valiter st h
def zk(tl:TE):TI:=fun σ H R=>tl σ H fun x H1=>∃(v d:Addr)(o:Obj)(kvs:List (Key×V)),x=.ref v∧H1 v=some (cM v d)∧H1 d=some (.frz o (.dK kvs))∧R (Itv d kvs o) H1
theorem tW{tg l:Expr}{tl:TE}(hl:PE X l tl):PI X tg l (zk tl):=by
 intro CZ s σ H R I h;refine thn (hl CZ s σ H _ I h) fun v s1 C0=>?_;obtain⟨x,H1,I1,r1,q1⟩:=C0;obtain⟨vw,d,o,kvs,rfl,hv,hd,q⟩:=q1;cases r1;obtain⟨ho,z,lo,ws,kv,hD⟩:=(show ObjOk X.prog X.w H1 s1.heap d (.frz o (.dK kvs))from I1.hok d _ hd);obtain⟨view,_⟩:=(show ObjOk X.prog X.w H1 s1.heap vw (cM vw d)from I1.hok vw _ hv);obtain⟨ep,hat⟩:=hD.dictAt;have all:∀g:Heap,g.get? d=some o→g.DictAt (ai X.prog X.w) d ws ep:=fun g e=>hat.at' fun o' e'=>by
  rw[ho]at e';cases e';exact e
 refine wpAny_pyIter_values view hat ⟨s1.heap.objs.size,[s1.heap.objs.size],_,_,H1,rfl,I1.kept (t':=s1.toks) (fun b ob e=>af _ e),nM kv all,⟨_,pi _ rfl,rfl,rfl⟩,fun b hb=>?_,q⟩;have e:b=s1.heap.objs.size:=by simpa using hb
 subst e;exact I1.fpOk (io _) (I1.hok.fresh (io _))
theorem oG{d:Addr}{o:Obj}{kvs:List (Key×V)}{k:Nat}{g:TG}{tt:TT}{te:TE}{σ:St}{H:Hp}{Q:VK}(Pv:Nat→List V→Hp→Prop)(h0:Pv 0 [] H)(hl:∀i ys H,Pv i ys H→H d=some (.frz o (.dK kvs)))(hs:∀i p ys H (C:List V→Hp→Prop),kvs[i]?=some p→Pv i ys H→(∀ys' H',Pv (i+1) ys' H'→C ys' H')→ys.length<sizeLine∧g p.2 (List.replicate k none++σ) H fun σ2 H2=>Wk σ2 (List.replicate k none++σ)∧tt σ2 H2 fun ok H3=>
   if ok=true then te σ2 H3 fun y H4=>C (ys++[y]) H4 else C ys H3)(hd:∀ys H,Pv kvs.length ys H→ys.length≤sizeLine∧∀p,H p=none→Q (.ref p) (upd H p (.lst ys))):CompR (Itv d kvs o) H k g tt te σ Q:=by
 refine⟨fun i m ys H=>m=kvs.length-i∧i≤kvs.length∧Pv i ys H,⟨kvs.length,by simp,Nat.zero_le _,h0⟩,?_⟩;rintro i m ys H ⟨rfl,hi,p⟩;have q:=hl i ys H p;by_cases C5:i<kvs.length
 ·have r:=hs i kvs[i] ys H (fun ys' H'=>∃m',m'<kvs.length-i∧m'=kvs.length-(i+1)∧i+1≤kvs.length∧Pv (i+1) ys' H') (by simp[C5]) p fun ys' H' p'=>⟨_,by omega,rfl,C5,p'⟩;refine .inr ⟨⟨C5,q⟩,r.1,fun v H' y=>?_⟩;obtain⟨e,p',hp',rfl⟩:=y;subst e;have ep:kvs[i]=p':=by simpa [C5] using hp'
  rw[←ep];exact r.2
 ·have e:i=kvs.length:=by omega
  subst e;exact .inl ⟨⟨io _,q⟩,hd ys H p⟩
end
abbrev Bn:=List Str×Int
def bR(room:Int)(ps qs:Ps):List Int:=kJ (gP ((ah ps qs).map fun z=>min (au ps qs z) (ay room ps qs)))
def aD(ps qs:Ps)(v:Int):List Str:=(bN (ah ps qs)).filter fun z=>decide (v≤au ps qs z)
def zm(ps qs:Ps)(l:List Int)(i:Nat):Bn:=(aD ps qs (l.getD i 0),l.getD i 0-(0::l).getD i 0)
def j5(ps qs:Ps)(l:List Int)(n:Nat):List Bn:=(List.range n).map (zm ps qs l)
def aN(a b:Ty):List Bn:=if ay a.room a.cs b.cs=0 then[]else j5 a.cs b.cs (bR a.room a.cs b.cs) (bR a.room a.cs b.cs).length
theorem nJ(ps qs:Ps)(l:List Int)(n:Nat):j5 ps qs l (n+1)=j5 ps qs l n++[zm ps qs l n]:=by
 unfold j5;rw[List.range_succ,ca];rfl
theorem O1(ps qs:Ps)(l:List Int)(n:Nat):(j5 ps qs l n).length=n:=by unfold j5;rw[ae,Ba]
theorem iQ(room:Int)(ps qs:Ps):(bR room ps qs).length≤(ah ps qs).length:=by
 unfold bR;rw[(Wq _).length_eq];have:=jw ((ah ps qs).map fun z=>min (au ps qs z) (ay room ps qs));rw[ae]at this;exact this
theorem Pb{a b:Ty}{v:Int}(hv:v∈bR a.room a.cs b.cs):∃z∈ah a.cs b.cs,v=min (au a.cs b.cs z) (ay a.room a.cs b.cs):=by
 unfold bR at hv;have:=uniI_mem.mp ((Wq _).mem_iff.mp hv);obtain⟨z,hz,e⟩:=Ab.mp this;exact⟨z,hz,e.symm⟩
inductive BnsAt(H:Hp):List V→List Bn→Prop
 |nil:BnsAt H [] []
 |cons {a c:Addr} {xs:List V} {b:Bn} {bs:List Bn} (h:H a=some (.tup [.ref c,.int b.2])) (e:H c=some (.tup (b.1.map V.str))) (r:BnsAt H xs bs):BnsAt H (.ref a::xs) (b::bs)
theorem BnsAt.mono{H H':Hp}(g:Same H H'):∀{xs:List V}{bs:List Bn},BnsAt H xs bs→BnsAt H' xs bs
 |_,_,.nil=>.nil
 |_,_,.cons h e r=>.cons (g _ _ h) (g _ _ e) (r.mono g)
theorem BnsAt.append{H:Hp}:∀{xs ys:List V}{bs cs:List Bn},BnsAt H xs bs→BnsAt H ys cs→BnsAt H (xs++ys) (bs++cs)
 |_,_,_,_,.nil,s=>s
 |_,_,_,_,.cons h e r,s=>.cons h e (r.append s)
theorem BnsAt.length{H:Hp}:∀{xs:List V}{bs:List Bn},BnsAt H xs bs→xs.length=bs.length
 |_,_,.nil=>rfl
 |_,_,.cons _ _ r=>Bm (·+1) r.length
theorem BnsAt.get{H:Hp}:∀{xs:List V}{bs:List Bn},BnsAt H xs bs→∀{i:Nat}{x:V},xs[i]?=some x→∃(a c:Addr)(b:Bn),x=.ref a∧bs[i]?=some b∧H a=some (.tup [.ref c,.int b.2])∧H c=some (.tup (b.1.map V.str))
 |_,_,.nil,i,x,hx=>by simp at hx
 |_,_,.cons (a:=a) (c:=c) (b:=b) h e r,0,x,hx=>by
  have:V.ref a=x:=by simpa using hx
  subst this;exact⟨a,c,b,rfl,rfl,h,e⟩
 |_,_,.cons h e r,i+1,x,hx=>by
  obtain⟨a,c,b,h1,h2,h3,h4⟩:=r.get (i:=i) (x:=x) (by simpa using hx);exact⟨a,c,b,h1,by simpa using h2,h3,h4⟩
def PapAt(H:Hp)(p:Addr)(bs:List Bn):Prop:=∃xs,H p=some (.lst xs)∧BnsAt H xs bs
theorem PapAt.mono{H H':Hp}{p:Addr}{bs:List Bn}(h:PapAt H p bs)(g:Same H H'):PapAt H' p bs:=by
 obtain⟨xs,e,r⟩:=h;exact⟨xs,g _ _ e,r.mono g⟩
theorem iY{H:Hp}{l:Addr}{ys:List V}(e:H l=some (.lst ys)):∀{xs:List V}{bs:List Bn},BnsAt H xs bs→BnsAt (av l H) xs bs
 |_,_,.nil=>.nil
 |_,_,.cons h q r=>.cons (by rw[Zg (fun z=>by rw[z,e]at h;cases h)];exact h) (by rw[Zg (fun z=>by rw[z,e]at q;cases q)];exact q) (iY e r)
section
variable{α:Type}{K:W.Frag}{a:Addr}{xs:List V}{ks:List α}{k:Nat}{g:TG}{tt:TT}{te:TE}{σ:St}{H:Hp}{Q:VK}
end
end L2
namespace L2
open PySem PySem.Spec PyProof.Rows PySem.Builtin PySem.Builtin.Str
theorem PenAt.put{H:Hp}{a l:Addr}{o:HO}(h:PenAt H a)(n:l≠a):PenAt (upd H l o) a:=by
 obtain⟨p,q,r,e⟩:=h;exact⟨p,q,r,by rw[Za (Ne.symm n)];exact e⟩
end L2
namespace HT
open PySem PySem.Spec PyProof.Rows
section
variable{prog:Program}{w:World}{A:Around}{E:Value→Shared→Prop}{s:Shared}
theorem getItem_tuple_whole{t sl:Addr}{items:Array Value}{vl vu:Value}{lo hi:Option Int}{Q:Value→Shared→Prop}(ht:IsTup s.heap t items)(hs:s.heap.IsSliceOf sl vl vu .none)(pl:IsPart vl lo)(pu:IsPart vu hi)(hw:sIx items.size 0 lo=0∧sIx items.size items.size hi=items.size)(h:Q (.ref t) s):wpAny (model prog w) A (getItem (.ref t) (.ref sl)) Q E s:=by
 obtain⟨os,hos,hcs,hds⟩:=id hs;have hTs:s.TypeIs (.ref sl) "slice":=⟨os,hos,hcs⟩;have ty:=ht.typeIs;unfold getItem
 try with_reducible refine AS ?_
 first | refine aa (aq ?_) | skip
 refine aa (wpAny_sequenceKey ht.typeIs (by decide) ?_);refine aa (A7 (name:=Str.ofString "__getitem__") ht.typeIs BL
  (AY BL ht.typeIs entry_tuple_getitem ?_ (args_tuple_getitem _ _)))
 show wpAny _ _ (Builtin.Tuple.tupleItemsOf (.ref t) >>= _) _ _ s;refine aa (tupleItemsOf_ ht ?_);refine aa (Cn hTs ?_);rw[Ah (by decide)];refine aa (Vi hs pl pu ?_);have hyes:(((sIx items.size 0 lo:Nat):Int)==0 && (1:Int)==1 && (sIx items.size items.size hi-sIx items.size 0 lo)==items.size)=true:=by
  rw[hw.1,hw.2];simp
 show wpAny _ _ (if (((sIx items.size 0 lo:Nat):Int)==0 && (1:Int)==1 && (sIx items.size items.size hi-sIx items.size 0 lo)==items.size)=true then _ else _) _ _ s;rw[Ah hyes];refine aa (m:=Builtin.Tuple.tupleIsExact (.ref t)) ?_;refine aa (Cn ty (aq ?_));rw[Ah (by decide)];refine aa (m:=rule _) (CO ?_);exact aq ⟨_,rfl,aq h⟩
end
end HT
namespace L2
open PySem PySem.Spec PyProof.Rows
section
variable{X:Cx}
def rSlG:V→Option Int→Option Int→Hp→VK→Prop:=fun x lo hi H Q=>∃a xs,x=.ref a∧H a=some (.tup xs)∧∀(c:Addr)(H':Hp),Same H H'→H' c=some (.tup (cB xs lo hi))→Q (.ref c) H'
theorem vz:SlR X rSlG:=by
 intro CZ s σ H x v vl vu lo hi sl Q I rx hs pl pu h;obtain⟨a,xs,rfl,hx,q⟩:=h;by_cases hw:HT.sIx xs.length 0 lo=0∧HT.sIx xs.length xs.length hi=xs.length
 ·cases rx;obtain⟨its,r,ht,hz⟩:=I.tuple (SqT.of hx);have De:its.toArray.size=xs.length:=by rw[AG];exact r.length.symm
  refine⟨"tuple",_,PyProof.Rows.slot_tuple_getitem.lookup,ht.typeIs,?_⟩;refine HT.getItem_tuple_whole ht hs pl pu (by rw[De];exact hw) ⟨.ref a,H,I,rfl,q a H (Same.refl _) ?_⟩;unfold cB;rw[hw.1,hw.2,List.drop_zero,Nat.sub_zero,At];exact hx
 ·exact wD CZ s σ H _ v vl vu lo hi sl Q I rx hs pl pu ⟨a,xs,rfl,SqT.of hx,hw,fun p np=>q p _ (Z9 np _) Z5⟩
end
theorem j_{xs:List V}{k:Nat}:cB xs none (some (k:Int))=xs.take k:=by
 unfold cB;rw[HT.sIx_none,List.drop_zero,Nat.sub_zero,HT.sIx_nat]
 rcases Nat.le_total k xs.length with h | h
 ·rw[CN h]
 ·rw[Nat.min_eq_right h,BH (io _),BH h]
theorem sw{xs:List V}{k:Nat}:cB xs (some (k:Int)) none=xs.drop k:=by
 unfold cB;rw[HT.sIx_none,HT.sIx_nat]
 rcases Nat.le_total k xs.length with h | h
 ·rw[CN h,BH (by rw[Bx];omega)]
 ·rw[Nat.min_eq_right h,List.drop_of_length_le h,List.drop_of_length_le (io _),List.take_nil]
section
variable{X:Cx}
end
section
variable{a l d:Addr}{fz:HO}{Hf H' H'':Hp}{xs:List V}{ts:List Th}
end
end L2
namespace HT
open PySem PySem.Spec PyProof.Rows
section
variable{prog:Program}{w:World}{A:Around}{E:Value→Shared→Prop}{s:Shared}
end
end HT
namespace L2
open PySem PySem.Spec PyProof.Rows
section
variable{X:Cx}
end
section
variable{prog:Program}{w:World}{A:Around}{E:Value→Shared→Prop}{s:Shared}{κ:KeyKind}{kd:SortKind}{xs0:Array Keyed}{st:SortSt}
end
section
variable{prog:Program}{w:World}{O U:KeyOrd}{R:Heap→Value→O.α→Prop}{S:Heap→Value→U.α→Prop}{T V:String}
end
variable{prog:Program}{w:World}{A:Around}{E:Value→Shared→Prop}{s:Shared}
section
variable{O U:KeyOrd}{R:Heap→Value→O.α→Prop}{S:Heap→Value→U.α→Prop}{T V:String}
end
section
variable{X:Cx}
end
section
variable{prog:Program}{w:World}{A:Around}{E:Value→Shared→Prop}{s:Shared}{it d:Addr}{i ep:Nat}{es:Array DictEntry}
end
end L2
namespace L2
open PySem PySem.Spec PyProof.Rows
section
variable{X:Cx}
end
section
variable{X:Cx}
end
section
variable{X:Cx}{CZ:List (Addr×Obj)}{σ:St}{H:Hp}{s:Shared}
end
variable{prog:Program}{w:World}{A:Around}{E:Value→Shared→Prop}{s:Shared}
section
variable{X:Cx}
end
section
variable{X:Cx}
end
section
variable{prog:Program}{w:World}{A:Around}{E:Value→Shared→Prop}{s:Shared}{it d:Addr}{i ep:Nat}{es:Array DictEntry}{f0 f1 ok ov:Value}
end
section
variable{prog:Program}{w:World}{A:Around}{E:Value→Shared→Prop}{s:Shared}{d:Addr}{ep:Nat}{es:Array DictEntry}{R:Result→Shared→Prop}
end
end L2
namespace L2
open PySem PySem.Spec PyProof.Rows
section
variable{X:Cx}
end
section
variable{P:Program}{w:World}{A:Around}{E:Value→Shared→Prop}{s:Shared}{a b:Addr}{es:Array DictEntry}{ep e2:Nat}
end
section
variable{prog:Program}{w:World}{A:Around}{E:Value→Shared→Prop}{s:Shared}
end
section
variable{X:Cx}{pos:Pos}
end
section
variable{X:Cx}
def zL(i:Nat):TE:=fun σ H Q=>match List.getD σ i none with
 |some v=>Q v H
 |none=>False
theorem qv{e:Expr}{i:Nat}(h:PE X e (xD i)):PE X e (zL i):=fun CZ s σ H Q I q=>h CZ s σ H Q I (by
 unfold zL at q;cases e1:List.getD σ i none with
 |none=>rw[e1]at q;exact q.elim
 |some v=>
  rw[e1]at q;refine⟨v,?_,q⟩;unfold List.getD at e1;cases e2:σ[i]? with
  |none=>rw[e2]at e1;cases e1
  |some o=>rw[e2]at e1;exact Bm some e1)
def qI(C:Int→Int→Prop)(g:Int→Int→V):R2:=fun x y H Q=>match x,y with
 |.int i,.int j=>C i j∧Q (g i j) H
 |_,_=>False
def qI0(g:Int→Int→V):R2:=fun x y H Q=>match x,y with
 |.int i,.int j=>Q (g i j) H
 |_,_=>False
theorem qi{C:Int→Int→Prop}{g:Int→Int→V}{f:Value→Value→Sem Value}(h:OpR X f (rI C g)):OpR X f (qI C g):=fun CZ s σ H x y v u Q I rx ry q=>h CZ s σ H x y v u Q I rx ry (by
 cases x <;> cases y <;> first | exact q.elim | exact⟨_,_,rfl,rfl,q.1,q.2⟩)
theorem qi0{g:Int→Int→V}{f:Value→Value→Sem Value}(h:OpR X f (rI0 g)):OpR X f (qI0 g):=fun CZ s σ H x y v u Q I rx ry q=>h CZ s σ H x y v u Q I rx ry (by
 cases x <;> cases y <;> first | exact q.elim | exact⟨_,_,rfl,rfl,q⟩)
def qEq:R2:=fun x y H Q=>match x,y with
 |.int i,.int j=>Q (.bl (decide (i=j))) H
 |_,_=>False
theorem tY(i j:Int):decide (V.int i=V.int j)=decide (i=j):=decide_eq_decide.mpr ⟨fun h=>V.int.inj h,fun h=>by rw[h]⟩
theorem qeq{f:Value→Value→Sem Value}(h:OpR X f rEq):OpR X f qEq:=fun CZ s σ H x y v u Q I rx ry q=>h CZ s σ H x y v u Q I rx ry (by
 cases x <;> cases y <;> first | exact q.elim | exact⟨rfl,by rw[tY];exact q⟩)
def qIx(A:Hp→Addr→List V→Prop):R2:=fun x y H Q=>match x,y with
 |.ref p,.int i=>∃xs v,A H p xs∧atI xs i=some v∧Q v H
 |_,_=>False
theorem X4:IxR X (qIx (SqL X.K)):=fun a b CZ s σ H x y v u Q I rx ry q=>Xj a b CZ s σ H x y v u Q I rx ry (by
 cases x <;> cases y <;> first | exact q.elim | exact⟨_,q.choose,_,q.choose_spec.choose,rfl,rfl,q.choose_spec.choose_spec⟩)
def qK(Q:Bool→Hp→Prop):VK:=fun x H=>match x with
 |.bl k=>Q k H
 |_=>False
def zV(t:TE):TT:=fun σ H Q=>t σ H (qK Q)
theorem Ue{op:CmpOp}{a b:Expr}{pos:Pos}{ta tb:TE}{r:R2}(ho:OpR X (compareOp op) r)(ha:PE X a ta)(hb:PE X b tb)(hm:behindInMarks op b=false):PT X (.Compare a [op] [b] pos) (zV (tOp r ta tb)):=by
 intro CZ s σ H Q I h;refine wpAny_isTrue_Compare1 (thn (ha CZ s σ H _ I h) fun v s1 ⟨x,H1,I1,r1,q1⟩=>thn (hb CZ s1 σ H1 _ I1 q1) fun u s2 ⟨y,H2,I2,r2,q2⟩=>
  thn (ho CZ s2 σ H2 x y v u _ I2 r1 r2 q2) fun c s3 ⟨z,H3,I3,r3,q3⟩=>?_) hm
 cases z <;> first | exact q3.elim | skip
 cases r3;exact B5 ⟨H3,I3,q3⟩
end
theorem blk{p:Prop}(h:p):p:=h
theorem Zz{X:Cx}{pos:Pos}(i:Nat){x:Str}{e:Expr}{te:TE}{pos':Pos}(hN:X.N.Nodup)(hi:X.N[i]?=some x)(hx:Loc X.env.scope x)(he:PE X e te)(hs:swapsWith e (some (.Name x pos')) pos.line X.env=pure false:=by rfl)(hf:X.fn x=true:=by rfl):PS X (.Assign [.Name x pos'] e pos) (qu te (jn i)):=@Vf _ _ i _ _ _ _ hN hi hx he hs (.inl hf)
theorem Zp{N P:List Str}{sc:Scope}(a:sc.kind=.function)(b:sc.isCoroutine=false)(c:sc.isGenerator=false)(d:N.take P.length=P)(h:N.Nodup∧(∀x∈P,sc.names.lookup x=some .local∨sc.names.lookup x=some .cell)∧∀y∈sc.names,y.2≠.free):FnScope N P sc:=⟨a,b,c,h.1,d,h.2.1,h.2.2⟩
theorem Xz{X:Cx}{own:List Str}{scope:Scope}(hc:X.calm=X.calm)(hk:scope.kind=.function)(h1:j0 scope.names=true:=by rfl)(h2:lh X.env.scope.names scope.names=true:=by rfl)(h3:lc X.N scope.names=true:=by rfl):CompOk X own scope:=CompOk.of hc hk h1 h2 h3
theorem Y0{X:Cx}{a b:Expr}{ta tb:TE}{pos:Pos}{r:R2}(hr:IxR X r)(ha:PE X a ta)(hb:PE X b tb)(hs:ng b:=by exact fun _ _=>rfl):PE X (.Subscript a b pos) (tOp r ta tb):=yZ hr ha hb hs
end L2
namespace K63
open PySem L2
def top(i:Nat):Stmt:=PySem.Challenge.pw_sumshare_k63_whole_nothing_narrower_by_t.main.body.getD i (.Pass ⟨0,0,0,0⟩)
abbrev cJ:Stmt:=top 6
theorem Zy:FnScope ["tally","top","bottom","room","counts","let","total","bar","sure","perhaps"] ["tally","top","bottom"] (defScope cJ):=Zp rfl rfl rfl rfl (by decide +kernel)
theorem Vc:(["mark","count","tally","top","bottom","room","counts","let","total","bar","sure","perhaps"]:List Str).Nodup:=by decide +kernel
theorem Vb:(["mark","count","tally","top","bottom","room","counts","let","total","bar","sure","perhaps"]:List Str).Nodup:=by decide +kernel
abbrev fI:Stmt:=top 8
theorem pC:FnScope ["room","sums"] ["room","sums"] (defScope fI):=Zp rfl rfl rfl rfl (by decide +kernel)
abbrev dk:Stmt:=top 13
theorem iG:FnScope ["thing"] ["thing"] (defScope dk):=Zp rfl rfl rfl rfl (by decide +kernel)
abbrev bL:Stmt:=top 14
theorem Sz:FnScope ["thing","least"] ["thing","least"] (defScope bL):=Zp rfl rfl rfl rfl (by decide +kernel)
abbrev bj:Stmt:=top 15
theorem To:FnScope ["thing","least","most"] ["thing","least","most"] (defScope bj):=Zp rfl rfl rfl rfl (by decide +kernel)
abbrev eK:Stmt:=top 16
theorem kH:FnScope ["thing"] ["thing"] (defScope eK):=Zp rfl rfl rfl rfl (by decide +kernel)
theorem R5:(["sign","thing"]:List Str).Nodup:=by decide +kernel
abbrev cf:Stmt:=top 17
theorem S9:FnScope ["parts"] ["parts"] (defScope cf):=Zp rfl rfl rfl rfl (by decide +kernel)
theorem Yu:(["one","other","parts"]:List Str).Nodup:=by decide +kernel
abbrev eA:Stmt:=top 18
theorem kr:FnScope ["thing"] ["thing"] (defScope eA):=Zp rfl rfl rfl rfl (by decide +kernel)
abbrev dM:Stmt:=top 19
theorem Ub:FnScope ["thing","is_key","key","count"] ["thing","is_key"] (defScope dM):=Zp rfl rfl rfl rfl (by decide +kernel)
abbrev cI:Stmt:=top 20
theorem O8:FnScope ["thing","is_key"] ["thing","is_key"] (defScope cI):=Zp rfl rfl rfl rfl (by decide +kernel)
theorem Tf:(["one","thing","is_key"]:List Str).Nodup:=by decide +kernel
theorem Wi:(["key","count","thing","is_key"]:List Str).Nodup:=by decide +kernel
abbrev bW:Stmt:=top 21
theorem Xh:FnScope ["one","other","sums","key","count"] ["one","other"] (defScope bW):=Zp rfl rfl rfl rfl (by decide +kernel)
abbrev dB:Stmt:=top 23
theorem V7:FnScope ["tree","steps","waiting","here"] ["tree"] (defScope dB):=Zp rfl rfl rfl rfl (by decide +kernel)
abbrev cG:Stmt:=top 24
theorem O6:FnScope ["tree"] ["tree"] (defScope cG):=Zp rfl rfl rfl rfl (by decide +kernel)
theorem Td:(["step","tree"]:List Str).Nodup:=by decide +kernel
abbrev cW:Stmt:=top 25
theorem Vp:FnScope ["tree","things","stream"] ["tree"] (defScope cW):=Zp rfl rfl rfl rfl (by decide +kernel)
abbrev gt:Stmt:=top 26
theorem Ud:FnScope ["tree","of_stream","of_two","kept","step","other","one"] ["tree","of_stream","of_two"] (defScope gt):=Zp rfl rfl rfl rfl (by decide +kernel)
abbrev ci:Stmt:=top 28
theorem Qo:FnScope ["room"] ["room"] (defScope ci):=Zp rfl rfl rfl rfl (by decide +kernel)
abbrev cn:Stmt:=top 29
theorem X3:FnScope ["room","thing","day","mark","number","many"] ["room","thing"] (defScope cn):=Zp rfl rfl rfl rfl (by decide +kernel)
abbrev cL:Stmt:=top 30
theorem O9:FnScope ["one","other"] ["one","other"] (defScope cL):=Zp rfl rfl rfl rfl (by decide +kernel)
abbrev bB:Stmt:=top 31
theorem Yz:FnScope ["one","other","sums","room","cut","counts"] ["one","other"] (defScope bB):=Zp rfl rfl rfl rfl (by decide +kernel)
theorem Vx:(["mark","one","other","sums","room","cut","counts"]:List Str).Nodup:=by decide +kernel
abbrev dq:Stmt:=top 32
theorem V6:FnScope ["room","stream","tally","thing"] ["room","stream"] (defScope dq):=Zp rfl rfl rfl rfl (by decide +kernel)
abbrev ak:Stmt:=top 33
theorem Qn:FnScope ["room","tree"] ["room","tree"] (defScope ak):=Zp rfl rfl rfl rfl (by decide +kernel)
abbrev dE:Stmt:=top 34
theorem i9:FnScope ["tally","mark"] ["tally","mark"] (defScope dE):=Zp rfl rfl rfl rfl (by decide +kernel)
abbrev cQ:Stmt:=top 35
theorem Sa:FnScope ["tally","mark","count"] ["tally","mark"] (defScope cQ):=Zp rfl rfl rfl rfl (by decide +kernel)
abbrev bZ:Stmt:=top 36
theorem Yy:FnScope ["tally","room","counts","let","total"] ["tally"] (defScope bZ):=Zp rfl rfl rfl rfl (by decide +kernel)
theorem Xv:(["mark","count","tally","room","counts","let","total"]:List Str).Nodup:=by decide +kernel
abbrev bf:Stmt:=top 37
theorem Yc:FnScope ["thing","room","counts","let","total"] ["thing"] (defScope bf):=Zp rfl rfl rfl rfl (by decide +kernel)
abbrev cU:Stmt:=top 39
theorem gL:FnScope ["stream"] ["stream"] (defScope cU):=Zp rfl rfl rfl rfl (by decide +kernel)
theorem Yr:(["day","mark","number","many","stream"]:List Str).Nodup:=by decide +kernel
abbrev dI:Stmt:=top 40
theorem jj:FnScope ["stream","mark"] ["stream","mark"] (defScope dI):=Zp rfl rfl rfl rfl (by decide +kernel)
theorem Yt:(["day","word","number","many","stream","mark"]:List Str).Nodup:=by decide +kernel
abbrev cH:Stmt:=top 42
theorem Yg:FnScope ["one","other","sums","cut","bunches","ahead","value","marks"] ["one","other"] (defScope cH):=Zp rfl rfl rfl rfl (by decide +kernel)
theorem Ui:(["times","one","other","sums","cut","bunches","ahead","value","marks"]:List Str).Nodup:=by decide +kernel
theorem Uh:(["mark","one","other","sums","cut","bunches","ahead","value","marks"]:List Str).Nodup:=by decide +kernel
abbrev aS:Stmt:=top 43
theorem Y9:FnScope ["one","other","tally","paper","late_tally","late_paper"] ["one","other"] (defScope aS):=Zp rfl rfl rfl rfl (by decide +kernel)
abbrev a9:Stmt:=top 44
theorem Yp:FnScope ["room","stream","kept","thing"] ["room","stream"] (defScope a9):=Zp rfl rfl rfl rfl (by decide +kernel)
abbrev aj:Stmt:=top 45
theorem Wz:FnScope ["room","tree","tally","paper"] ["room","tree"] (defScope aj):=Zp rfl rfl rfl rfl (by decide +kernel)
abbrev dA:Stmt:=top 46
theorem Uc:FnScope ["thing","room","marks","many"] ["thing","room"] (defScope dA):=Zp rfl rfl rfl rfl (by decide +kernel)
theorem S0:(["mark","thing","room","marks","many"]:List Str).Nodup:=by decide +kernel
abbrev dN:Stmt:=top 47
theorem jr:FnScope ["thing","room"] ["thing","room"] (defScope dN):=Zp rfl rfl rfl rfl (by decide +kernel)
theorem Tx:(["one","thing","room"]:List Str).Nodup:=by decide +kernel
abbrev dG:Stmt:=top 48
theorem Xp:FnScope ["stream","times","day","mark","number","many"] ["stream"] (defScope dG):=Zp rfl rfl rfl rfl (by decide +kernel)
abbrev cE:Stmt:=top 49
theorem Xd:FnScope ["counts","paper","times","marks","many","mark"] ["counts","paper"] (defScope cE):=Zp rfl rfl rfl rfl (by decide +kernel)
abbrev dD:Stmt:=top 50
theorem We:FnScope ["stream","tally","paper","room","counts","let","total"] ["stream","tally","paper"] (defScope dD):=Zp rfl rfl rfl rfl (by decide +kernel)
theorem V1:(["marks","many","stream","tally","paper","room","counts","let","total"]:List Str).Nodup:=by decide +kernel
abbrev eM:Stmt:=top 52
theorem Vo:FnScope ["place","word"] ["place"] (defScope eM):=Zp rfl rfl rfl rfl (by decide +kernel)
abbrev cg:Stmt:=top 53
theorem Yj:FnScope ["tally","mark","room","counts","let","total","taken","words"] ["tally","mark"] (defScope cg):=Zp rfl rfl rfl rfl (by decide +kernel)
theorem Ua:(["place","tally","mark","room","counts","let","total","taken","words"]:List Str).Nodup:=by decide +kernel
theorem U9:(["word","tally","mark","room","counts","let","total","taken","words"]:List Str).Nodup:=by decide +kernel
abbrev fq:Stmt:=top 54
theorem X8:FnScope ["tally","room","counts","let","total","times","rest","place","part"] ["tally"] (defScope fq):=Zp rfl rfl rfl rfl (by decide +kernel)
theorem R4:(["place","tally","room","counts","let","total","times","rest","#7","part"]:List Str).Nodup:=by decide +kernel
theorem R3:(["many","tally","room","counts","let","total","times","rest","place","part"]:List Str).Nodup:=by decide +kernel
abbrev bV:Stmt:=top 55
theorem Rt:FnScope ["sums"] ["sums"] (defScope bV):=Zp rfl rfl rfl rfl (by decide +kernel)
theorem Xw:(["mark","many","sums"]:List Str).Nodup:=by decide +kernel
abbrev br:Stmt:=top 56
theorem Y6:FnScope ["tally","words","room","counts","let","total","sums"] ["tally","words"] (defScope br):=Zp rfl rfl rfl rfl (by decide +kernel)
theorem Xc:(["mark","count","tally","words","room","counts","let","total","sums"]:List Str).Nodup:=by decide +kernel
abbrev eN:Stmt:=top 57
theorem W3:FnScope ["tally","mark","room","counts","let","total","left"] ["tally","mark"] (defScope eN):=Zp rfl rfl rfl rfl (by decide +kernel)
theorem Si:(["pair","tally","mark","room","counts","let","total","left"]:List Str).Nodup:=by decide +kernel
abbrev cA:Stmt:=top 58
theorem Ve:FnScope ["tally","mark","words","count"] ["tally","mark"] (defScope cA):=Zp rfl rfl rfl rfl (by decide +kernel)
abbrev cV:Stmt:=top 59
theorem Vq:FnScope ["tally","mark","words"] ["tally","mark"] (defScope cV):=Zp rfl rfl rfl rfl (by decide +kernel)
abbrev c7:Stmt:=top 60
theorem iD:FnScope ["tally","mark"] ["tally","mark"] (defScope c7):=Zp rfl rfl rfl rfl (by decide +kernel)
abbrev hX:Stmt:=top 62
theorem S8:FnScope ["_law_script","_law_k","_law_cell"] ["_law_script","_law_k"] (defScope hX):=Zp rfl rfl rfl rfl (by decide +kernel)
abbrev fQ:Stmt:=top 63
theorem Us:FnScope ["_law_pen_here","_law_size","_law_drawn","_law_number"] ["_law_pen_here","_law_size"] (defScope fQ):=Zp rfl rfl rfl rfl (by decide +kernel)
abbrev dR:Stmt:=top 64
theorem Wr:FnScope ["_law_pen_here","_law_k","_law_some"] ["_law_pen_here","_law_k"] (defScope dR):=Zp rfl rfl rfl rfl (by decide +kernel)
abbrev eZ:Stmt:=top 65
theorem nF:FnScope ["_law_pen_here"] ["_law_pen_here"] (defScope eZ):=Zp rfl rfl rfl rfl (by decide +kernel)
abbrev eu:Stmt:=top 66
theorem Vs:FnScope ["_law_pen_here","_law_marks","_law_deep","_law_day","_law_number"] ["_law_pen_here","_law_marks","_law_deep"] (defScope eu):=Zp rfl rfl rfl rfl (by decide +kernel)
abbrev dP:Stmt:=top 67
theorem jd:FnScope ["_law_pen_here","_law_marks","_law_deep","_law_most"] ["_law_pen_here","_law_marks","_law_deep","_law_most"] (defScope dP):=Zp rfl rfl rfl rfl (by decide +kernel)
theorem Tw:(["_law_k","_law_pen_here","_law_marks","_law_deep","_law_most"]:List Str).Nodup:=by decide +kernel
abbrev ee:Stmt:=top 68
theorem Sy:FnScope ["_law_pen_here","_law_marks","_law_deep","_law_most","_law_parts","_law_left","_law_one"] ["_law_pen_here","_law_marks","_law_deep","_law_most","_law_parts"] (defScope ee):=Zp rfl rfl rfl rfl (by decide +kernel)
abbrev fU:Stmt:=top 69
theorem oY:FnScope ["_law_pen_here"] ["_law_pen_here"] (defScope fU):=Zp rfl rfl rfl rfl (by decide +kernel)
abbrev eG:Stmt:=top 70
theorem Qm:FnScope ["_law_k","_law_some"] ["_law_k"] (defScope eG):=Zp rfl rfl rfl rfl (by decide +kernel)
abbrev bC:Stmt:=top 71
theorem Ru:FnScope ["_law_tree_here","_law_words_here"] ["_law_tree_here","_law_words_here"] (defScope bC):=Zp rfl rfl rfl rfl (by decide +kernel)
theorem Ye:(["_law_day","_law_mark","_law_number","_law_many_here","_law_tree_here","_law_words_here"]:List Str).Nodup:=by decide +kernel
abbrev eB:Stmt:=top 72
theorem Vr:FnScope ["_law_pen_here","_law_short_here","_law_words_here","_law_k"] ["_law_pen_here"] (defScope eB):=Zp rfl rfl rfl rfl (by decide +kernel)
abbrev fo:Stmt:=top 73
theorem Ur:FnScope ["_law_tally","_law_top","_law_bottom","_law_found"] ["_law_tally","_law_top","_law_bottom"] (defScope fo):=Zp rfl rfl rfl rfl (by decide +kernel)
abbrev cK:Stmt:=top 74
theorem O7:FnScope ["_law_stream_here","_law_mark","_law_share"] ["_law_stream_here","_law_mark","_law_share"] (defScope cK):=Zp rfl rfl rfl rfl (by decide +kernel)
abbrev bK:Stmt:=top 75
theorem W4:FnScope ["_law_tally","_law_own","_law_streams","_law_mark","_law_share","_law_found","_law_in_both"] ["_law_tally","_law_own","_law_streams","_law_mark","_law_share"] (defScope bK):=Zp rfl rfl rfl rfl (by decide +kernel)
abbrev bU:Stmt:=top 76
theorem X0:FnScope ["_law_tally","_law_tree_here","_law_mark","_law_shares","_law_trees","_law_own","_law_streams","_law_one"] ["_law_tally","_law_tree_here","_law_mark","_law_shares"] (defScope bU):=Zp rfl rfl rfl rfl (by decide +kernel)
theorem Vz:(["_law_one","_law_tally","_law_tree_here","_law_mark","_law_shares","_law_trees","_law_own","_law_streams","#7"]:List Str).Nodup:=by decide +kernel
theorem Vy:(["_law_share","_law_tally","_law_tree_here","_law_mark","_law_shares","_law_trees","_law_own","_law_streams","_law_one"]:List Str).Nodup:=by decide +kernel
abbrev dY:Stmt:=top 77
theorem Xk:FnScope ["_law_script","_law_k","_law_pen_here","_law_room_here","_law_tree_here","_law_tally","_law_own","_law_shares","_law_marks","_law_thing_here","_law_times","_law_mark"] ["_law_script"] (defScope dY):=Zp rfl rfl rfl rfl (by decide +kernel)
theorem Ti:(["_law_mark","_law_count","_law_script","_law_k","_law_pen_here","_law_room_here","_law_tree_here","_law_tally","_law_own","_law_shares","_law_marks","_law_thing_here","_law_times","#11"]:List Str).Nodup:=by decide +kernel
def cD:Sp:=fun vs H Q _=>∃(a:Addr)(n:Int),vs=[.ref a,.int n]∧PenAt H a∧0<n∧n<1000000000000000000000000000000000000000000000000000000000000∧
 ∀(d:Int)(H':Hp),0≤d→d<n→PenAt H' a→Grw a H H'→Q (.int d) H'
def vR(K:W.Frag):Sp:=fun vs H Q _=>∃(a:Addr)(ns:List Int)(k:Int),vs=[.ref a,.int k]∧SqL K H a (ns.map V.int)∧0≤k∧
 ∀(p:Addr)(H':Hp),H p=none→Same H H'→PenAt H' p→Q (.ref p) H'
def k8:Sp:=fun vs H Q _=>∃(x:V)(k:Int),vs=[x,.int k]∧∀(z:Str)(H':Hp),z∈words→Same H H'→Q (.str z) H'
def sQ:Sp:=fun vs H Q _=>∃(a:Addr),vs=[.ref a]∧PenAt H a∧∀(m:Int)(H':Hp),1≤m→m≤1000000000→PenAt H' a→Grw a H H'→Q (.int m) H'
def mB:Sp:=fun vs H Q _=>∃(a:Addr)(n k:Int),vs=[.ref a,.int n,.int k]∧PenAt H a∧0<n∧n<1073741824∧0≤k∧k<30∧
 ∀(r:Addr)(t:Th)(H':Hp),t.Ok→av a H' r=some (.tup t.vs)→PenAt H' a→Grw a H H'→Q (.ref r) H'
def fM:Sp:=fun vs H Q _=>∃(a:Addr)(n k l:Int),vs=[.ref a,.int n,.int k,.int l]∧PenAt H a∧0<n∧n<1073741824∧0≤k∧k<30∧0≤l∧l<1000∧
 ∀(r:Addr)(ts:List Th)(H':Hp),(∀t∈ts,t.Ok)→(ts.length:Int)≤l→DV (av a H') (.ref r) (.list (ts.map Th.D))→PenAt H' a→Grw a H H'→Q (.ref r) H'
variable{P:Program}{w:World}{K:W.Frag}{mg:Str→Option Value}{base:Heap}{f:Addr}{fd:FuncData}
theorem u7(F:Fun K "_law_draw" "_law_draw" fQ f fd):FnOk P w K mg base CX0 1 f fd ["_law_pen_here","_law_size"] cD:=by
 refine F.ok Us (fun vs H Q E h=>?_) (fun cdv A outer s H vs Q E hr h=>?_)
 ·obtain⟨a,n,rfl,_⟩:=h;rfl
 obtain⟨a,n,rfl,⟨p,q,r,e⟩,h0,h1,hq⟩:=h;refine⟨_,(Z2 (X5 (Ze (qi0 Y4) (Y0 X4 (qv (pv 0)) Z4) Z4) (p_ (qv (pv 0)) Z4 jA))
 (Z2 (Y7 (Ue (qi0 U7) (Y0 X4 (qv (pv 0)) Z4) Z4 (Zl _)) (Z2 (Zz 2 Us.nd rfl (Or.inl rfl) (Ze (qi Xo) (Y0 X4 (qv (pv 0)) Z4) (qv (pv 1))))
 (Z2 (X5 (Ze pS (Y0 X4 (qv (pv 0)) Z4) (qv (pv 1))) (p_ (qv (pv 0)) Z4 jA))
 (Z6 (Zb (qv (pv 2)))))) Zq)
 (Z2 (Zz 3 Us.nd rfl (Or.inl rfl) (Ze (qi Xo) (Ze (qi Wh) (Ze (qi0 Y4) (Ze (qi0 Y4) (Y0 X4 (qv (pv 0)) Z4) (Ze (qi Wh) Z4 (Y0 X4 (qv (pv 0)) Z4))) Z4) Z4) Z4))
 (Z2 (Zz 3 Us.nd rfl (Or.inl rfl) (Ze (qi Xo) (Ze (qi Wh) (qv (pv 3)) (Ze (qi0 Y4) (Ze (qi0 Y4) (Ze (qi Xo) (qv (pv 3)) Z4) (Y0 X4 (qv (pv 0)) Z4)) Z4)) Z4))
 (Z6 (Zb (Ze (qi Xo) (Ze (qi gI) (Ze (qi Xo) (Ze (qi Wh) (qv (pv 3)) (Ze (qi0 Y4) (Ze (qi Xo) (qv (pv 3)) Z4) Z4)) Z4) Z4) (qv (pv 1))))))))),?_⟩
 refine⟨_,_,SqL.of e,je _ _ _,a,_,2,_,rfl,rfl,e,rfl,?_⟩;have e1:upd H a (.lst [.int p,.int q,.int (r+1)]) a=some (.lst [.int p,.int q,.int (r+1)]):=Z5;refine⟨_,_,SqL.of e1,qG _ _ _,?_⟩;refine Wn (fun c=>?_) (fun c=>?_)
 ·refine⟨_,_,SqL.of e1,qG _ _ _,h0,?_⟩;refine⟨_,_,SqL.of e1,qG _ _ _,_,_,rfl,rfl,⟨h0,h1⟩,a,_,0,_,rfl,rfl,e1,rfl,?_⟩;refine hq (p % n) _ (B4 _ (by omega)) (BO _ h0) ⟨_,_,_,Z5⟩ ?_;rw[mO];exact Wc
 ·refine⟨_,_,SqL.of e1,sU _ _ _,_,_,SqL.of e1,je _ _ _,pd rfl rfl,mulR rfl rfl,Xe rfl,?_⟩;refine⟨Xe rfl,_,_,SqL.of e1,je _ _ _,y_ _ _ _ rfl rfl,Xe rfl,?_⟩;refine⟨Xe rfl,y_ _ _ _ rfl rfl,Xe rfl,wf rfl rfl,h0,?_⟩;exact hq _ _ (B4 _ (by omega)) (BO _ h0) ⟨_,_,_,e1⟩ Wc
theorem xO(F:Fun K "_law_pen" "_law_pen" hX f fd)(aG:mg "len"=none):FnOk P w K mg base CX0 1 f fd ["_law_script","_law_k"] (vR K):=by
 refine F.ok S8 (fun vs H Q E h=>?_) (fun cdv A outer s H vs Q E hr h=>?_)
 ·obtain⟨a,ns,k,rfl,_⟩:=h;rfl
 obtain⟨a,ns,k,rfl,hS,h0,hq⟩:=h;have hl:(ns.map V.int).length=ns.length:=ae _;refine⟨_,(Z2 (Zz 2 S8.nd rfl (Or.inl rfl) (Ze (qi0 Y4) (Ze (qi Wh) Z4 (qv (pv 1))) Z4))
 (Z2 (Y7 (Ue (qi0 Oz) (qv (pv 1)) (Zi Y8 rfl aG A9 (Z0 (qv (pv 0)) Z1)) (Zl _)) (Z6 (Zz 2 S8.nd rfl (Or.inl rfl) (Y0 X4 (qv (pv 0)) (qv (pv 1))))) (Z6 (Y7 (Ue (qi0 U7) (Zi Y8 rfl aG A9 (Z0 (qv (pv 0)) Z1)) Z4 (Zl _)) (Z6 (Zz 2 S8.nd rfl (Or.inl rfl) (Ze (qi0 Y4) (Y0 X4 (qv (pv 0)) (Ze (qi Xo) (qv (pv 1)) (Zi Y8 rfl aG A9 (Z0 (qv (pv 0)) Z1)))) (Ze (qi Wh) Z4 (qv (pv 1)))))) Zq)))
 (Z2 (Y7 (Ue (qi0 N1) (qv (pv 2)) (Ze (qi kZ) Z4 Z4) (Zl _)) (Z6 (Zb (Yn (Z0 (Ze (qi0 W7) (qv (pv 2)) (Ze (qi kZ) Z4 Z4)) (Z0 (Ze (qi Xo) (qv (pv 2)) Z4) (Z0 Z4 Z1)))))) Zq)
 (Z6 (Zb (Yn (Z0 Z4 (Z0 (Ze (qi0 Y4) (Ze (qi Xo) (qv (pv 2)) Z4) (Ze (qi Wh) Z4 (qv (pv 1)))) (Z0 Z4 Z1))))))))),?_⟩
 refine⟨pd rfl rfl,?_⟩;refine⟨a,_,rfl,.inl hS,?_⟩;have atn:∀i:Int,0≤i→i<ns.length→∃v:Int,atI (ns.map V.int) i=some (.int v):=fun i h1 h2=>by
  obtain⟨v,hv,hm⟩:=Rh (xs:=ns.map V.int) h1 (by rw[hl];exact h2);obtain⟨n,_,rfl⟩:=Ab.mp hm;exact⟨n,hv⟩
 have fin:∀x y z:Int,∀p,H p=none→Q (.ref p) (upd H p (.lst [.int x,.int y,.int z])):=fun x y z p hp=>hq p _ hp (Z9 hp _) ⟨x,y,z,Z5⟩;refine Wn (fun c=>?_) (fun c=>?_)
 ·have c:=bb c;rw[hl]at c;obtain⟨v,hv⟩:=atn k h0 c;refine⟨_,_,hS,hv,?_⟩;refine⟨kY rfl rfl rfl,?_⟩;refine Wn (fun c=>?_) (fun c=>?_)
  ·refine⟨kY rfl rfl rfl,Xe rfl,leN rfl,fin _ _ _⟩
  ·refine⟨Xe rfl,pd rfl rfl,leN rfl,fin _ _ _⟩
 ·refine⟨a,_,rfl,.inl hS,?_⟩;refine Wn (fun c=>?_) (fun c=>?_)
  ·have c:=bb c;rw[hl]at c;have hm:=B4 k (show(ns.length:Int)≠0 by omega);have hm2:=BO k c;obtain⟨v,hv⟩:=atn (k % (ns.length:Int)) hm hm2;refine⟨a,_,rfl,.inl hS,by rw[hl];exact c,_,_,hS,by rw[hl];exact hv,pd rfl rfl,?_⟩;refine⟨kY rfl rfl rfl,?_⟩;refine Wn (fun c=>?_) (fun c=>?_)
   ·refine⟨kY rfl rfl rfl,Xe rfl,leN rfl,fin _ _ _⟩
   ·refine⟨Xe rfl,pd rfl rfl,leN rfl,fin _ _ _⟩
  ·refine⟨kY rfl rfl rfl,?_⟩;refine Wn (fun c=>?_) (fun c=>?_)
   ·refine⟨kY rfl rfl rfl,Xe rfl,leN rfl,fin _ _ _⟩
   ·refine⟨Xe rfl,pd rfl rfl,leN rfl,fin _ _ _⟩
theorem tM(F:Fun K "_law_word" "_law_word" dR f fd):FnOk P w K mg base CX0 1 f fd ["_law_pen_here","_law_k"] k8:=by
 refine F.ok Wr (fun vs H Q E h=>?_) (fun cdv A outer s H vs Q E hr h=>?_)
 ·obtain⟨x,k,rfl,_⟩:=h;rfl
 obtain⟨x,k,rfl,hq⟩:=h;refine⟨_,(Z2 (Zz 2 Wr.nd rfl (Or.inl rfl) Xn)
 (Z2 (Zz 2 Wr.nd rfl (Or.inl rfl) (Ze Vw (pv 2) Xn))
 (Z6 (Zb (Y0 Xj (Uf PySem.F.plainAttrs_str PySem.F.slot_str_split PySem.F.type_str_split P8 (pv 2) (Z0 Xn Z1)) (Ze Xo (pv 1) Z4)))))),?_⟩
 refine⟨_,rfl,wordA,wordB,rfl,rfl,mT,?_⟩;refine⟨_,rfl,rfl,wordA++wordB," ",words,rfl,rfl,tD,kz,qU,pY,Qc,by decide,fun l hl=>?_⟩;obtain⟨v,hv,hm⟩:=Rh (xs:=words.map V.str) (i:=k % 26) (B4 _ (by decide)) (by rw[ae];exact BO _ (by decide));obtain⟨z,hz,rfl⟩:=Ab.mp hm;refine⟨_,rfl,_,_,rfl,rfl,Xe rfl,l,_,_,_,rfl,rfl,SqL.of Z5,hv,?_⟩;exact hq z _ hz (Z9 hl _)
theorem uO(ao:Has P w K mg base "_law_draw" 1 ["_law_pen_here","_law_size"] cD)(F:Fun K "_law_many" "_law_many" eZ f fd):FnOk P w K mg base CX0 2 f fd ["_law_pen_here"] sQ:=by
 refine F.ok nF (fun vs H Q E h=>?_) (fun cdv A outer s H vs Q E hr h=>?_)
 ·obtain⟨a,rfl,_⟩:=h;rfl
 obtain⟨a,rfl,hp,hq⟩:=h;refine⟨_,(Z2 (Y7 (Ue (qeq P2) (Z3 ao hr (Z0 (qv (pv 0)) (Z0 Z4 Z1))) Z4 (Zl _)) (Z6 (Zb (Ze (qi0 Y4) Z4 (Z3 ao hr (Z0 (qv (pv 0)) (Z0 (Ze (qi0 W7) (Ze (qi kZ) Z4 Z4) Z4) Z1)))))) Zq)
 (Z6 (Zb (Ze (qi0 Y4) Z4 (Z3 ao hr (Z0 (qv (pv 0)) (Z0 (Y0 X4 (Yn (Z0 Z4 (Z0 Z4 (Z0 Z4 Z1)))) (Z3 ao hr (Z0 (qv (pv 0)) (Z0 Z4 Z1)))) Z1))))))),?_⟩
 refine⟨a,6,rfl,hp,Xe rfl,ltI rfl,fun d1 H1 _ _ hp1 g1=>?_⟩;refine Wn (fun c=>?_) (fun c=>?_)
 ·refine⟨kY rfl rfl rfl,a,_,rfl,hp1,Xe rfl,ltI rfl,fun d2 H2 x0 x1 hp2 g2=>?_⟩;have x1:d2<999999999:=x1;exact hq _ _ (by omega) (by omega) hp2 (g1.trans g2)
 ·refine⟨leN rfl,fun p hn=>⟨a,3,rfl,hp1.laid hn,Xe rfl,ltI rfl,fun d2 H2 x0 x1 hp2 g2=>?_⟩⟩;obtain⟨v,hv,hm⟩:=at3 (x:=.int 1) (y:=.int 2) (z:=.int 9) x0 x1;have hpa:=hp1.ne hn;have e2:H2 p=some (.lst [.int 1,.int 2,.int 9]):=g_ g2 hpa Z5;refine⟨_,v,SqL.of e2,hv,?_⟩;obtain⟨n,rfl,n0,n1⟩:∃n:Int,v=.int n∧0<n∧n<10:=by
   rcases hm with rfl | rfl | rfl
   ·exact⟨_,rfl,by decide,by decide⟩
   ·exact⟨_,rfl,by decide,by decide⟩
   ·exact⟨_,rfl,by decide,by decide⟩
  refine⟨a,n,rfl,hp2,n0,by omega,fun d3 H3 y0 y1 hp3 g3=>?_⟩;exact hq _ _ (by omega) (by omega) hp3 (g1.trans ((X7 hn).trans (g2.trans g3)))
theorem rA(ao:Has P w K mg base "_law_draw" 1 ["_law_pen_here","_law_size"] cD)(cx:Has P w K mg base "_law_word" 1 ["_law_pen_here","_law_k"] k8)(p9:Has P w K mg base "_law_many" 2 ["_law_pen_here"] sQ)(F:Fun K "_law_thing" "_law_thing" eu f fd):FnOk P w K mg base CX0 3 f fd ["_law_pen_here","_law_marks","_law_deep"] mB:=by
 refine F.ok Vs (fun vs H Q E h=>?_) (fun cdv A outer s H vs Q E hr h=>?_)
 ·obtain⟨a,n,k,rfl,_⟩:=h;rfl
 obtain⟨a,n,k,rfl,hp,n0,n1,k0,k1,hq⟩:=h;refine⟨_,(Z2 (Zz 3 Vs.nd rfl (Or.inl rfl) (Ze (qi Wh) (Z3 ao hr (Z0 (qv (pv 0)) (Z0 Z4 Z1))) (Y0 X4 (Yn (Z0 Z4 (Z0 Z4 (Z0 Z4 Z1)))) (Z3 ao hr (Z0 (qv (pv 0)) (Z0 Z4 Z1))))))
 (Z2 (Zz 4 Vs.nd rfl (Or.inl rfl) (Z3 ao hr (Z0 (qv (pv 0)) (Z0 (Ze (qi xt) Z4 (qv (pv 2))) Z1))))
 (Z2 (Y7 (Ue (qeq P2) (Z3 ao hr (Z0 (qv (pv 0)) (Z0 Z4 Z1))) Z4 (Zl _)) (Z6 (Zz 4 Vs.nd rfl (Or.inl rfl) (Ze (qi gI) (qv (pv 4)) Z4))) Zq)
 (Z6 (Zb (Zu (Z0 (qv (pv 3)) (Z0 (Z3 cx hr (Z0 (qv (pv 0)) (Z0 (Z3 ao hr (Z0 (qv (pv 0)) (Z0 (qv (pv 1)) Z1))) Z1))) (Z0 (qv (pv 4)) (Z0 (Z3 p9 hr (Z0 (qv (pv 0)) Z1)) Z1)))))))))),?_⟩
 refine⟨a,9,rfl,hp,Xe rfl,ltI rfl,fun d1 H1 x0 x1 hp1 g1=>⟨leN rfl,fun p hn=>⟨a,3,rfl,hp1.laid hn,Xe rfl,ltI rfl,fun d2 H2 y0 y1 hp2 g2=>?_⟩⟩⟩;obtain⟨v,hv,hm⟩:=at3 (x:=.int 1) (y:=.int 1) (z:=.int 1000) y0 y1;have e2:H2 p=some (.lst [.int 1,.int 1,.int 1000]):=g_ g2 (hp1.ne hn) Z5;have gg:=g1.trans ((X7 hn).trans g2);obtain⟨m,rfl,m0⟩:∃m:Int,v=.int m∧0<m:=by
  rcases hm with rfl | rfl | rfl
  ·exact⟨_,rfl,by decide⟩
  ·exact⟨_,rfl,by decide⟩
  ·exact⟨_,rfl,by decide⟩
 refine⟨_,_,SqL.of e2,hv,Or.inl ⟨by omega,by omega⟩,?_⟩;have day0:0≤d1*m:=BX x0 (by omega);obtain⟨kn,rfl⟩:=Cj k0;have hsh:(1:Int)*2^kn≤536870912∧0<(1:Int)*2^kn:=by
  have a1:(2:Nat)^kn≤2^29:=Nat.pow_le_pow_right (by decide) (by omega);have a2:0<(2:Nat)^kn:=Nat.pow_pos (by decide);have a3:((2^kn:Nat):Int)=(2:Int)^kn:=by push_cast;rfl
  rw[CW,←a3];have a4:(2:Nat)^29=536870912:=by decide
  omega
 refine⟨⟨by omega,by omega,by decide⟩,a,_,rfl,hp2,hsh.2,by show(1:Int)*2^kn<_;omega,fun d3 H3 z0 z1 hp3 g3=>?_⟩;have z1:d3<(1:Int)*2^kn:=z1;refine⟨a,3,rfl,hp3,Xe rfl,ltI rfl,fun d4 H4 _ _ hp4 g4=>?_⟩;have g5:=gg.trans (g3.trans g4);refine Wn (fun c=>?_) (fun c=>?_)
 ·refine⟨wf rfl rfl,?_⟩;refine⟨a,_,rfl,hp4,n0,by omega,fun d5 H5 _ _ hp5 g6=>⟨_,_,rfl,fun z H6 hz g7=>⟨a,rfl,hp5.same g7,fun mm H7 q0 q1 hp7 g8=>⟨leN rfl,fun r hr7=>?_⟩⟩⟩⟩;refine hq r ⟨d1*m,z,d3 / 4,mm⟩ _ ⟨day0,hz,Int.ediv_nonneg z0 (by decide),q0,by have:=Int.ediv_le_self 4 z0;show d3 / 4<_;omega,q1⟩ (by rw[Zg (hp7.ne hr7)];exact Z5) (hp7.laid hr7) ?_;obtain⟨_,_,_,e5⟩:=hp5;exact g5.trans (g6.trans ((Vm e5 g7).trans (g8.trans (X7 hr7))))
 ·refine⟨a,_,rfl,hp4,n0,by omega,fun d5 H5 _ _ hp5 g6=>⟨_,_,rfl,fun z H6 hz g7=>⟨a,rfl,hp5.same g7,fun mm H7 q0 q1 hp7 g8=>⟨leN rfl,fun r hr7=>?_⟩⟩⟩⟩;refine hq r ⟨d1*m,z,d3,mm⟩ _ ⟨day0,hz,z0,q0,by show d3<_;omega,q1⟩ (by rw[Zg (hp7.ne hr7)];exact Z5) (hp7.laid hr7) ?_;obtain⟨_,_,_,e5⟩:=hp5;exact g5.trans (g6.trans ((Vm e5 g7).trans (g8.trans (X7 hr7))))
theorem nX(ao:Has P w K mg base "_law_draw" 1 ["_law_pen_here","_law_size"] cD)(oE:Has P w K mg base "_law_thing" 3 ["_law_pen_here","_law_marks","_law_deep"] mB)(aL:mg "range"=none)(F:Fun K "_law_stream" "_law_stream" dP f fd):FnOk P w K mg base CX0 4 f fd ["_law_pen_here","_law_marks","_law_deep","_law_most"] fM:=by
 refine F.ok jd (fun vs H Q E h=>?_) (fun cdv A outer s H vs Q E hr h=>?_)
 ·obtain⟨a,n,k,l,rfl,_⟩:=h;rfl
 obtain⟨a,n,k,l,rfl,hp,n0,n1,k0,k1,l0,l1,hq⟩:=h;refine⟨_,(Z6 (Zb (Y3 (own:=["_law_k"]) (Xz rfl rfl) (Ws rfl aL (Z0 (Z3 ao hr (Z0 (qv (pv 0)) (Z0 (Ze (qi0 Y4) (qv (pv 3)) Z4) Z1))) Z1))
  (fun _ _ _ _ _=>(Z7 (i:=0) Tw rfl (Or.inl rfl) (Or.inr rfl))) (fun _ _ _ _ _=>Yb)
  (fun _ _ _ _ _=>(Z3 oE hr (Z0 (pv 1) (Z0 (pv 2) (Z0 (pv 3) Z1)))))))),?_⟩
 refine⟨a,_,rfl,hp,by omega,by omega,fun d H1 x0 x1 hp1 g1=>⟨d,rfl,by omega,by omega,?_⟩⟩;refine S5 (fun i ys H'=>PenAt H' a∧Grw a H H'∧∃ts:List Th,ts.length=i∧(∀t∈ts,t.Ok)∧DVs (av a H') ys (ts.map Th.D)) ⟨hp1,g1,[],rfl,(fun _ h=>nomatch h),DVs.nil⟩ ?_ ?_
 ·rintro i ys H2 C hi ⟨hp2,g2,ts,hl,hok,dv⟩ hC;have hyl:=dv.length;rw[ae]at hyl;refine⟨Zk (by omega),Wk.refl _,_,rfl,_,rfl,_,rfl,a,n,k,rfl,hp2,n0,n1,k0,k1,fun r t H3 ht hr3 hp3 g3=>hC _ _ ⟨hp3,g2.trans g3,ts++[t],by rw[ba,hl];rfl,?_,?_⟩⟩
  ·intro t' ht'
   rcases AI.mp ht' with h | h
   ·exact hok t' h
   ·rw[Af.mp h];exact ht
  ·rw[ca];exact(dv.mono g3).append (.cons (Th.dv hr3) .nil)
 ·rintro ys H2 ⟨hp2,g2,ts,hl,hok,dv⟩;have hyl:=dv.length;rw[ae]at hyl;refine⟨Zd (by omega),fun p hn=>hq p ts _ hok (by omega) ?_ (hp2.laid hn) (g2.trans (X7 hn))⟩;have e:av a (upd H2 p (.lst ys)) p=some (.lst ys):=by rw[Zg (hp2.ne hn)];exact Z5
  exact .lst e (dv.mono (X7 hn))
def gK(m:Nat):Sp:=fun vs H Q _=>∃(a:Addr)(n k l p:Int),vs=[.ref a,.int n,.int k,.int l,.int p]∧PenAt H a∧0<n∧n<1073741824∧0≤k∧k<30∧0≤l∧l<1000∧1≤p∧p≤m∧m≤1000∧
 ∀(v:V)(t:Tr)(H':Hp),t.Ok→(t.size:Int)≤2*p-1→(t.ht:Int)<p→(t.all.length:Int)≤l*p→DV (av a H') v t.D→PenAt H' a→Grw a H H'→Q v H'
theorem qA{m:Nat}(ao:Has P w K mg base "_law_draw" 1 ["_law_pen_here","_law_size"] cD)(cy:Has P w K mg base "_law_stream" 4 ["_law_pen_here","_law_marks","_law_deep","_law_most"] fM)(ef:Has P w K mg base "_law_tree" (4+m) ["_law_pen_here","_law_marks","_law_deep","_law_most","_law_parts"] (gK m))(F:Fun K "_law_tree" "_law_tree" ee f fd):FnOk P w K mg base CX0 (4+m+1) f fd ["_law_pen_here","_law_marks","_law_deep","_law_most","_law_parts"] (gK (m+1)):=by
 refine F.ok Sy (fun vs H Q E h=>?_) (fun cdv A outer s H vs Q E hr h=>?_)
 ·obtain⟨a,n,k,l,p,rfl,_⟩:=h;rfl
 obtain⟨a,n,k,l,p,rfl,hp,n0,n1,k0,k1,l0,l1,p0,p1,pm,hq⟩:=h;refine⟨_,(Z2 (Y7 (PW.pt (V8 (Ue (qi0 Oz) (qv (pv 4)) Z4 (Zl _)) (W5 (Ue (qeq P2) (Z3 ao hr (Z0 (qv (pv 0)) (Z0 Z4 Z1))) Z4 (Zl _))))) (Z6 (Zb (Z3 cy hr (Z0 (qv (pv 0)) (Z0 (qv (pv 1)) (Z0 (qv (pv 2)) (Z0 (qv (pv 3)) Z1))))))) Zq)
 (Z2 (Zz 5 Sy.nd rfl (Or.inl rfl) (Ze (qi0 Y4) Z4 (Z3 ao hr (Z0 (qv (pv 0)) (Z0 (Ze (qi0 W7) (qv (pv 4)) Z4) Z1)))))
 (Z2 (Zz 6 Sy.nd rfl (Or.inl rfl) (Z3 ef hr (Z0 (qv (pv 0)) (Z0 (qv (pv 1)) (Z0 (qv (pv 2)) (Z0 (qv (pv 3)) (Z0 (qv (pv 5)) Z1)))))))
 (Z6 (Zb (Zu (Z0 Xn (Z0 (qv (pv 6)) (Z0 (Z3 ef hr (Z0 (qv (pv 0)) (Z0 (qv (pv 1)) (Z0 (qv (pv 2)) (Z0 (qv (pv 3)) (Z0 (Ze (qi0 W7) (qv (pv 4)) (qv (pv 5))) Z1)))))) Z1))))))))),?_⟩
 have leaf:∀(r:Addr)(ts:List Th)(H':Hp),(∀t∈ts,t.Ok)→(ts.length:Int)≤l→DV (av a H') (.ref r) (.list (ts.map Th.D))→PenAt H' a→Grw a H H'→Q (.ref r) H':=fun r ts H' hok De dv hp' g'=>by
  refine hq (.ref r) (.leaf ts) H' hok ?_ ?_ ?_ dv hp' g'
  ·show((1:Nat):Int)≤_;omega
  ·show((0:Nat):Int)<_;omega
  ·show(ts.length:Int)≤l*p;have q:l*1≤l*p:=BR p0 l0;omega
 refine Wn (fun c=>Xf ?_) (fun c=>?_)
 ·exact⟨a,n,k,l,rfl,hp,n0,n1,k0,k1,l0,l1,leaf⟩
 ·have c:=BY (AO.mpr c);refine⟨a,5,rfl,hp,Xe rfl,ltI rfl,fun d H1 _ _ hp1 g1=>?_⟩;refine Wn (fun c=>?_) (fun c=>?_)
  ·exact⟨a,n,k,l,rfl,hp1,n0,n1,k0,k1,l0,l1,fun r ts H' hok De dv hp' g'=>leaf r ts H' hok De dv hp' (g1.trans g')⟩
  ·refine⟨a,p-1,rfl,hp1,by omega,by omega,fun d2 H2 x0 x1 hp2 g2=>?_⟩;refine⟨a,n,k,l,_,rfl,hp2,n0,n1,k0,k1,l0,l1,by omega,by omega,by omega,fun v1 t1 H3 ok1 sz1 ht1 al1 dv1 hp3 g3=>?_⟩;refine⟨a,n,k,l,_,rfl,hp3,n0,n1,k0,k1,l0,l1,by omega,by omega,by omega,fun v2 t2 H4 ok2 sz2 ht2 al2 dv2 hp4 g4=>⟨leN rfl,fun r hn=>?_⟩⟩;refine hq (.ref r) (.node t1 t2) _ ⟨ok1,ok2⟩ ?_ ?_ ?_ ?_ (hp4.laid hn) (g1.trans (g2.trans (g3.trans (g4.trans (X7 hn)))))
   ·show((t1.size+t2.size+1:Nat):Int)≤_;omega
   ·show((max t1.ht t2.ht+1:Nat):Int)<_;omega
   ·show((t1.all++t2.all).length:Int)≤_;have q:l*(1+d2)+l*(p-(1+d2))=l*p:=by
     rw[←CP]
     congr 1
     omega
    rw[ba];omega
   ·have e:av a (upd H4 r (.tup [.str "merged",v1,v2])) r=some (.tup [.str "merged",v1,v2]):=by rw[Zg (hp4.ne hn)];exact Z5
    exact .tup e (.cons (.str _) (.cons (dv1.mono (g4.trans (X7 hn))) (.cons (dv2.mono (X7 hn)) .nil)))
theorem lP(ao:Has P w K mg base "_law_draw" 1 ["_law_pen_here","_law_size"] cD)(cy:Has P w K mg base "_law_stream" 4 ["_law_pen_here","_law_marks","_law_deep","_law_most"] fM)(F:Fun K "_law_tree" "_law_tree" ee f fd)(b:Binds K fd ["_law_pen_here","_law_marks","_law_deep","_law_most","_law_parts"] [])(hm:mg "_law_tree"=some (.ref f)):
  ∀m:Nat,Has P w K mg base "_law_tree" (4+m) ["_law_pen_here","_law_marks","_law_deep","_law_most","_law_parts"] (gK m)
 | 0=>Has.of (nj fun vs H Q E h=>by
   obtain⟨a,n,k,l,p,_,_,_,_,_,_,_,_,h1,h2,_⟩:=h;omega) b F.kp hm
 |m+1=>Has.of (qA ao cy (lP ao cy F b hm m) F) b F.kp hm
end K63
namespace L2
open PySem
def tRun(X:Cx)(ss:List Stmt):TS:=fun D σ H=>∃t:TS,PSs X ss t∧t D σ H
theorem X9{X:Cx}{ss:List Stmt}:PSs X ss (tRun X ss):=fun CZ s σ H D I ⟨_,h,q⟩=>h CZ s σ H D I q
section
variable{K:W.Frag}{a:Addr}{xs:List V}{g:TG}{tb:TS}{D:Ends}{σ:St}{H:Hp}
end
theorem Yl{α:Type}{n:Nat}{P:List α→Prop}(h:∀a r,r.length=n→P (a::r)):∀us:List α,us.length=n+1→P us:=fun us e=>by
 cases us with
 |nil=>cases e
 |cons a r=>exact h a r (Nat.succ.inj e)
theorem So{α:Type}{P:List α→Prop}(h:P []):∀us:List α,us.length=0→P us:=fun us e=>by
 cases us with
 |nil=>exact h
 |cons a r=>cases e
theorem Fun.b1{K:W.Frag}{x qual:Str}{st:Stmt}{f:Addr}{fd:FuncData}{p0:Str}(F:Fun K x qual st f fd)(h:∀(kV doc pm:Value) (an:Option Addr) (cdv ct u0:Value),bindArgs (W.fnOf x qual (defArgs st) (defBody st) (defScope st) .none kV doc pm an cdv ct) ⟨[u0],[]⟩=pure [(p0,u0)]):Binds K fd [p0] []:=F.binds fun kV doc pm an cdv ct=>Yl fun u0=>So (h kV doc pm an cdv ct u0)
theorem Fun.b2{K:W.Frag}{x qual:Str}{st:Stmt}{f:Addr}{fd:FuncData}{p0 p1:Str}(F:Fun K x qual st f fd)(h:∀(kV doc pm:Value) (an:Option Addr) (cdv ct u0 u1:Value),bindArgs (W.fnOf x qual (defArgs st) (defBody st) (defScope st) .none kV doc pm an cdv ct) ⟨[u0,u1],[]⟩=pure [(p0,u0),(p1,u1)]):Binds K fd [p0,p1] []:=F.binds fun kV doc pm an cdv ct=>Yl fun u0=>Yl fun u1=>So (h kV doc pm an cdv ct u0 u1)
theorem Fun.b3{K:W.Frag}{x qual:Str}{st:Stmt}{f:Addr}{fd:FuncData}{p0 p1 p2:Str}(F:Fun K x qual st f fd)(h:∀(kV doc pm:Value) (an:Option Addr) (cdv ct u0 u1 u2:Value),bindArgs (W.fnOf x qual (defArgs st) (defBody st) (defScope st) .none kV doc pm an cdv ct) ⟨[u0,u1,u2],[]⟩=pure [(p0,u0),(p1,u1),(p2,u2)]):Binds K fd [p0,p1,p2] []:=F.binds fun kV doc pm an cdv ct=>Yl fun u0=>Yl fun u1=>Yl fun u2=>So (h kV doc pm an cdv ct u0 u1 u2)
theorem Fun.b4{K:W.Frag}{x qual:Str}{st:Stmt}{f:Addr}{fd:FuncData}{p0 p1 p2 p3:Str}(F:Fun K x qual st f fd)(h:∀(kV doc pm:Value) (an:Option Addr) (cdv ct u0 u1 u2 u3:Value),bindArgs (W.fnOf x qual (defArgs st) (defBody st) (defScope st) .none kV doc pm an cdv ct) ⟨[u0,u1,u2,u3],[]⟩=pure [(p0,u0),(p1,u1),(p2,u2),(p3,u3)]):Binds K fd [p0,p1,p2,p3] []:=F.binds fun kV doc pm an cdv ct=>Yl fun u0=>Yl fun u1=>Yl fun u2=>Yl fun u3=>So (h kV doc pm an cdv ct u0 u1 u2 u3)
theorem Fun.b5{K:W.Frag}{x qual:Str}{st:Stmt}{f:Addr}{fd:FuncData}{p0 p1 p2 p3 p4:Str}(F:Fun K x qual st f fd)(h:∀(kV doc pm:Value) (an:Option Addr) (cdv ct u0 u1 u2 u3 u4:Value),bindArgs (W.fnOf x qual (defArgs st) (defBody st) (defScope st) .none kV doc pm an cdv ct) ⟨[u0,u1,u2,u3,u4],[]⟩=pure [(p0,u0),(p1,u1),(p2,u2),(p3,u3),(p4,u4)]):Binds K fd [p0,p1,p2,p3,p4] []:=F.binds fun kV doc pm an cdv ct=>Yl fun u0=>Yl fun u1=>Yl fun u2=>Yl fun u3=>Yl fun u4=>So (h kV doc pm an cdv ct u0 u1 u2 u3 u4)
end L2
namespace K63
open PySem L2
def ltr(n:Nat):Str:=⟨#[97+n]⟩
def wAt(p:Nat):Str:=if p<26 then ltr p else ltr (p / 26)++ltr (p % 26)
theorem i8:letters.cps.toList=(List.range 26).map fun n=>97+n:=by decide +kernel
theorem jF:letters.length≤1000:=by decide +kernel
theorem Pi{i:Int}(h0:0≤i)(h1:i<26):atI letters.cps.toList i=some (97+i.toNat):=by
 obtain⟨n,rfl⟩:=Cj h0;refine Q8 ?_;rw[i8,Ar,List.getElem?_range (by omega)];rfl
def vY:Sp:=fun vs H Q _=>∃(p:Int),vs=[.int p]∧0≤p∧p<676∧Q (.str (wAt p.toNat)) H
variable{P:Program}{w:World}{K:W.Frag}{mg:Str→Option Value}{base:Heap}{f:Addr}{fd:FuncData}
theorem wQ(c_:∃u,mg "LETTERS"=some u∧RelV (.str letters) u)(F:Fun K "word_at" "word_at" eM f fd):FnOk P w K mg base CX0 1 f fd ["place"] vY:=by
 refine F.ok Vo (fun vs H Q E h=>?_) (fun cdv A outer s H vs Q E hr h=>?_)
 ·obtain⟨p,rfl,_⟩:=h;rfl
 obtain⟨p,rfl,h0,h1,hq⟩:=h;have m0:∀q:Int,0≤q % 26∧q % 26<26:=fun q=>⟨B4 _ (by decide),BO _ (by decide)⟩;have ll:letters.length≤sizeLine:=Zd (AU jF (by decide));refine⟨_,(Z2 (Zz 1 Vo.nd rfl (Or.inl rfl) (Y0 sL (Wf rfl c_) (Ze Xo (pv 0) Z4))) X9),?_⟩;refine⟨_,rfl,_,_,rfl,rfl,Xe rfl,letters,_,_,rfl,rfl,ll,Pi (m0 p).1 (m0 p).2,?_⟩;refine⟨_,(Z2 (iJ AV (Zn N1 (pv 0) Z4 (Zl _)) (Z2 (Zz 0 Vo.nd rfl (Or.inl rfl) (Ze gI (pv 0) Z4))
 (Z6 (Zz 1 Vo.nd rfl (Or.inl rfl) (Ze Vw (Y0 sL (Wf rfl c_) (Ze Xo (pv 0) Z4)) (pv 1)))))) X9),?_⟩
 refine q_ (fun σ H'=>∃(q:Int)(z:Str),σ=[some (.int q),some (.str z)]∧H'=H∧0≤q∧((q<26∧z=wAt p.toNat)∨(q=p∧26≤p∧z=ltr (p % 26).toNat))) (fun σ _=>match List.getD σ 0 none with
  |some (V.int q)=>q.toNat
  |_=>0) ⟨p,_,rfl,rfl,h0,?_⟩ ?_ ?_
 ·by_cases c:p<26
  ·refine .inl ⟨c,?_⟩;unfold wAt ltr;rw[Ah (by omega),Int.emod_eq_of_lt h0 c]
  ·exact .inr ⟨rfl,by omega,rfl⟩
 ·rintro σ H' ⟨q,z,rfl,rfl,q0,alt⟩;refine⟨_,rfl,_,_,rfl,rfl,_,rfl,Wn (fun c=>?_) (fun c=>?_)⟩
  ·have c:(26:Int)≤q:=bb c
   rcases alt with⟨c2,_⟩|⟨rfl,c2,rfl⟩
   ·omega
   refine⟨_,rfl,_,_,rfl,rfl,⟨by decide,by decide⟩,?_⟩;refine⟨_,rfl,_,_,rfl,rfl,Xe rfl,letters,_,_,rfl,rfl,ll,Pi (m0 _).1 (m0 _).2,_,rfl,_,_,rfl,rfl,Zd (by show 1+1≤_;decide),?_⟩;refine⟨⟨q / 26,_,rfl,rfl,by omega,.inl ⟨by omega,?_⟩⟩,?_⟩
   ·unfold wAt;rw[Aj (by omega),Int.emod_eq_of_lt (by omega) (by omega)];have e1:(q / 26).toNat=q.toNat / 26:=by omega
    have e2:(q % 26).toNat=q.toNat % 26:=by omega
    show ltr (q / 26).toNat++ltr (q % 26).toNat=_;rw[e1,e2]
   ·show(q / 26).toNat<q.toNat;omega
  ·have c:¬(26:Int)≤q:=BY (AO.mpr c)
   rcases alt with⟨_,rfl⟩|⟨rfl,c2,_⟩
   ·exact⟨_,(Z6 (Zb (pv 1))),_,rfl,hq⟩
   ·omega
 ·rintro σ H' Q1 Q2 m ⟨v,e,i,j,e1,e2,k,e3,r⟩;exact⟨v,e,i,j,e1,e2,k,e3,m _ _ r⟩
def dX:Sp:=fun vs H Q _=>∃(r:Addr)(t:Ty)(z:Str),vs=[.ref r,.str z]∧DV H (.ref r) t.D∧(t.cs.map (·.1)).Nodup∧t.cs.length≤50∧∀H',Same H H'→Q (.int (look t.cs z)) H'
def we:Sp:=fun vs H Q _=>∃(r:Addr)(t:Ty),vs=[.ref r]∧DV H (.ref r) t.D∧t.cs.length≤50∧∀(H':Hp),Same H H'→Q (.int (t.total-(ar t.cs).sum)) H'
theorem vf{α:Type}(l:List α):l.filter (fun _=>true)=l:=BK.mpr fun _ _=>rfl
theorem qy(bA:mg "dict"=none)(F:Fun K "count_in" "count_in" dE f fd):FnOk P w K mg base CX0 1 f fd ["tally","mark"] dX:=by
 refine F.ok i9 (fun vs H Q E h=>?_) (fun cdv A outer s H vs Q E hr h=>?_)
 ·obtain⟨r,t,z,rfl,_⟩:=h;rfl
 obtain⟨r,t,z,rfl,hd,nd,tl,hq⟩:=h;refine⟨_,(Z6 (Zb (Sg (Vk hr) (X2 (U5 rfl) rfl bA Cp (Z0 (Y0 Zv (pv 0) Z4) Z1)) (pv 1) Z4 ⟨rfl,rfl,rfl,rfl⟩))),?_⟩;obtain⟨_,b,rows,e0,ea,eb,pa⟩:=DV.ty_inv hd;cases e0;have kl:=Zs t.cs;have gg:Same H H:=fun _ _ h=>h;refine⟨_,rfl,_,_,_,_,rfl,rfl,SqT.of ea,rfl,b,rows,_,rfl,eb,pa,by omega,?_⟩;rw[U0 (by rw[Xr];exact P7 nd)];intro d n_d;generalize hz:upd _ d _=H1;revert H1;refine blk ?_;intro H1 hz;have gz:=Zc hz n_d;have e_d:=Zj hz;clear hz;have gg:=gg.trans gz;refine⟨d,rfl,.inl ⟨_,.inl e_d⟩,_,rfl,_,DGet.k (k:=Sum.inr z) e_d,?_⟩;have v:=S6 (qs:=[]) nd AQ z;rw[Sj nd]at v;have e:au t.cs [] z=look t.cs z:=BF _;rw[v,e];exact hq _ gg
theorem xu(b9:mg "sum"=none)(F:Fun K "uncounted_in" "uncounted_in" bZ f fd):FnOk P w K mg base CX0 1 f fd ["tally"] we:=by
 refine F.ok Yy (fun vs H Q E h=>?_) (fun cdv A outer s H vs Q E hr h=>?_)
 ·obtain⟨r,t,rfl,_⟩:=h;rfl
 obtain⟨r,t,rfl,hd,tl,hq⟩:=h;refine⟨_,(Z2 (X5 (pv 0) (Ys rfl (Z8 (Z7 (i:=1) Yy.nd rfl (Or.inl rfl)) (Z8 (Z7 (i:=2) Yy.nd rfl (Or.inl rfl)) (Z8 (Z7 (i:=3) Yy.nd rfl (Or.inl rfl)) (Z8 (Z7 (i:=4) Yy.nd rfl (Or.inl rfl)) Zt))))))
 (Z6 (Zb (Ze W7 (pv 4) (Zi (Su rfl) rfl b9 Cw (Z0 (Y3 (own:=["mark","count"]) (Xz rfl rfl) (Wg (pv 2))
  (fun _ _ _ _ _=>(Xa K 2 rfl rfl (Z8 (Z7 (i:=0) Xv rfl (Or.inl rfl) (Or.inr rfl)) (Z8 (Z7 (i:=1) Xv rfl (Or.inl rfl) (Or.inr rfl)) Zt)))) (fun _ _ _ _ _=>Yb)
  (fun _ _ _ _ _=>(pv 1))) Z1)))))),?_⟩
 obtain⟨_,c,rows,e0,e,ec,pa⟩:=DV.ty_inv hd;cases e0;refine⟨_,rfl,r,_,rfl,SqT.of e,rfl,_,_,rfl,_,_,rfl,_,_,rfl,_,_,rfl,rfl,?_⟩;refine⟨_,rfl,_,rfl,c,rfl,⟨_,SqT.of ec⟩,?_⟩;refine V3 (fun _=>true) (fun t=>.int t.2) ec pa (by omega) ?_ ?_
 ·rintro u q ys C mu eq hC _;exact⟨q,_,rfl,SqT.of eq,rfl,_,_,rfl,_,_,rfl,rfl,Wk.refl _,_,rfl,hC rfl⟩
 ·rw[vf,show(t.cs.map fun t=>V.int t.2)=(ar t.cs).map V.int by unfold ar;rw[AB];rfl];intro q nq;exact⟨q,ar t.cs,rfl,SqL.of Z5,_,_,rfl,rfl,hq _ (Z9 nq _)⟩
def lgo(m:Int):Nat→Int→List Int
 | 0,_=>[]
 |k+1,r=>(if m<r then m else r)::lgo m k (r-if m<r then m else r)
def lgF(t:Ty):List Int:=List.replicate (t.room+1-t.cs.length).toNat t.lt++lgo t.lt (t.room-1).toNat (t.total-(ar t.cs).sum-(t.room+1)*t.lt)
def aX(t:Ty):List Int:=(lgF t).filter fun n=>decide (0<n)
theorem lD(m:Int):∀(k:Nat)(r:Int),(lgo m k r).length=k
 | 0,_=>rfl
 |k+1,r=>by rw[lgo,AD,lD]
def wj:Sp:=fun vs H Q _=>∃(r:Addr)(t:Ty),vs=[.ref r]∧DV H (.ref r) t.D∧1≤t.room∧t.room≤20∧(t.cs.length:Int)≤t.room∧∀(p:Addr)(H':Hp),H p=none→Same H H'→H' p=some (.lst ((aX t).map V.int))→Q (.ref p) H'
theorem x3(aG:mg "len"=none)(aL:mg "range"=none)(eO:mg "min"=none)(fG:Has P w K mg base "uncounted_in" 1 ["tally"] we)(F:Fun K "let_go" "let_go" fq f fd):FnOk P w K mg base CX0 2 f fd ["tally"] wj:=by
 refine F.ok X8 (fun vs H Q E h=>?_) (fun cdv A outer s H vs Q E hr h=>?_)
 ·obtain⟨r,t,rfl,_⟩:=h;rfl
 obtain⟨r,t,rfl,hd,r0,r1,cl,hq⟩:=h;refine⟨_,(Z2 (X5 (pv 0) (Ys rfl (Z8 (Z7 (i:=1) X8.nd rfl (Or.inl rfl)) (Z8 (Z7 (i:=2) X8.nd rfl (Or.inl rfl)) (Z8 (Z7 (i:=3) X8.nd rfl (Or.inr rfl)) (Z8 (Z7 (i:=4) X8.nd rfl (Or.inl rfl)) Zt))))))
 (Tq 7 (Z2 (xk ["tally","room","counts","let","total","times","rest","#7","part"] (Ut (i:=5) (show List.Nodup (["tally","room","counts","let","total","times","rest","#7","part"]:List Str) by decide +kernel) rfl rfl (own:=["place"]) (Xz rfl rfl) (Ws rfl aL (Z0 (Ze W7 (Ze Y4 (pv 1) Z4) (Zi Y8 rfl aG A9 (Z0 (pv 2) Z1))) Z1))
  (fun _ _ _ _ _=>(Z7 (i:=0) R4 rfl (Or.inl rfl) (Or.inr rfl))) (fun _ _ _ _ _=>Yb)
  (fun _ _ _ _ _=>(pv 4))))
 (Z2 (Zz 6 X8.nd rfl (Or.inl rfl) (Ze W7 (Z3 fG hr (Z0 (pv 0) Z1)) (Ze Wh (Ze Y4 (pv 1) Z4) (pv 3))))
 (Z2 (Xm AV rfl (Ws rfl aL (Z0 (Ze W7 (pv 1) Z4) Z1)) (Z7 (i:=7) X8.nd rfl (Or.inl rfl))
 (Z2 (Zz 8 X8.nd rfl (Or.inl rfl) (Zi (Nm rfl) rfl eO PyProof.Rows.boot_min (Z0 (pv 6) (Z0 (pv 3) Z1))))
 (Z2 (V9 (Uf AR Bu Bv Wu (pv 5) (Z0 (pv 8) Z1)))
 (Z6 (Zz 6 X8.nd rfl (Or.inl rfl) (Ze W7 (pv 6) (pv 8)))))))
 (Z6 (Zb (Y3 (own:=["many"]) (Xz rfl rfl) (Y5 (pv 5))
  (fun _ _ _ _ _=>(Z7 (i:=0) R3 rfl (Or.inl rfl) (Or.inr rfl))) (fun _ _ _ _ _=>(Wj (Zn U7 (pv 0) Z4 (Zl _))))
  (fun _ _ _ _ _=>(pv 0)))))))))),?_⟩
 obtain⟨_,c,rows,e0,e,ec,pa⟩:=DV.ty_inv hd;cases e0;have rl:=pa.length;rw[Zs]at rl;refine⟨_,rfl,r,_,rfl,SqT.of e,rfl,_,_,rfl,_,_,rfl,_,_,rfl,_,_,rfl,rfl,?_⟩;refine⟨⟨.inl rfl,.inl rfl,.inl rfl,.inl rfl,.inl rfl,.inl rfl,.inl rfl,.inr rfl,.inl rfl,trivial⟩,?_⟩;refine⟨_,rfl,_,_,rfl,rfl,_,rfl,c,rows,rfl,.inr (SqT.of ec),_,_,rfl,rfl,_,rfl,by omega,by omega,?_⟩;refine S5 (fun i ys H'=>H'=H∧ys=(List.replicate i t.lt).map V.int) ⟨rfl,rfl⟩ ?_ ?_
 ·rintro i ys H' C hi ⟨rfl,rfl⟩ hC;refine⟨Zk (by rw[ae,AE];omega),Wk.refl _,_,rfl,hC _ _ ⟨rfl,?_⟩⟩;rw[B9,ca];rfl
 rintro ys HH ⟨rfl,rfl⟩;have ne:((t.room+1-(rows.length:Int))).toNat=(t.room+1-t.cs.length).toNat:=by omega
 refine⟨Zd (by rw[ae,AE];omega),fun L n_L=>?_⟩;have s1:=Z9 n_L (.lst ((List.replicate (t.room+1-(rows.length:Int)).toNat t.lt).map V.int));have e_L:(upd HH L (.lst ((List.replicate (t.room+1-(rows.length:Int)).toNat t.lt).map V.int))) L=some (.lst ((List.replicate (t.room+1-t.cs.length).toNat t.lt).map V.int)):=by rw[←ne];exact Z5
 generalize upd HH L (.lst ((List.replicate (t.room+1-(rows.length:Int)).toNat t.lt).map V.int))=H1 at s1 e_L⊢;refine⟨⟨.inl rfl,.inl rfl,.inl rfl,.inl rfl,.inl rfl,.inl rfl,.inl rfl,.inr rfl,.inl rfl,trivial⟩,?_⟩;refine⟨_,rfl,r,t,rfl,hd.mono s1,by omega,fun H2 s2=>?_⟩;have e_L:=s2 _ _ e_L;have gg:=s1.trans s2;clear s1 s2;refine⟨_,rfl,_,_,rfl,rfl,_,rfl,_,_,rfl,rfl,Or.inl ⟨by omega,by omega⟩,_,_,rfl,rfl,?_⟩;refine⟨_,rfl,_,_,rfl,rfl,_,rfl,by omega,by omega,?_⟩;have full:List.replicate (t.room+1-t.cs.length).toNat t.lt++lgo t.lt (t.room-1).toNat (t.total-(ar t.cs).sum-(t.room+1)*t.lt)=lgF t:=rfl;have len0:(List.replicate (t.room+1-t.cs.length).toNat t.lt).length≤21:=by rw[AE];omega
 generalize List.replicate (t.room+1-t.cs.length).toNat t.lt=done at e_L full len0;obtain⟨rest,hrest⟩:∃rest,rest=t.total-(ar t.cs).sum-(t.room+1)*t.lt:=⟨_,rfl⟩;rw[←hrest]at full;unfold aX at hq;generalize lgF t=F0 at full hq;refine Rb (lo:=0) (n:=(t.room-1).toNat) (fun i σ H'=>∃(o7 o8:Option V)(done:List Int)(rest:Int),σ=[some (.ref r),some (.int t.room),some (.ref c),some (.int t.lt),some (.int t.total),some (.ref L),some (.int rest),o7,o8]∧Same HH H'∧H' L=some (.lst (done.map V.int))∧done.length≤21+i∧done++lgo t.lt ((t.room-1).toNat-i) rest=F0) ⟨_,_,done,rest,by rw[hrest];rfl,gg,e_L,len0,full⟩ ?_ ?_
 ·rintro i σ H3 hi ⟨o7,o8,done,rest,rfl,g,e_L,dl,full⟩;have il:(t.room-1).toNat-i=((t.room-1).toNat-(i+1))+1:=by omega
  rw[il,lgo]at full;refine⟨_,rfl,_,rfl,rest,t.lt,rfl,?_⟩;generalize (if t.lt<rest then t.lt else rest)=part at full⊢;refine⟨_,rfl,.inl ⟨rfl,_,SqL.of e_L⟩,_,rfl,L,_,_,rfl,rfl,e_L,Zk (by rw[ae];omega),?_⟩;refine⟨_,rfl,_,rfl,_,_,rfl,rfl,?_⟩;exact⟨_,_,done++[part],rest-part,rfl,fun x w e=>by rw[Za (Zf e n_L)];exact g _ _ e,by rw[ca];exact Z5,by rw[ba];show _+1≤_;omega,by rw[Bp];exact full⟩
 rintro σ H3 ⟨o7,o8,done,rest,rfl,g,e_L,dl,full⟩;rw[Nat.sub_self]at full;have full:done++[]=F0:=full;rw[AN]at full;subst full;refine⟨_,rfl,L,rfl,⟨_,SqL.of e_L⟩,?_⟩;refine Yo (xs:=done.map V.int) (fun i ys H'=>H'=H3∧ys=((done.take i).filter fun n=>decide (0<n)).map V.int) ⟨rfl,rfl⟩ ?_ ?_ ?_
 ·rintro i ys H' _ ⟨rfl,_⟩;exact SqL.of e_L
 ·rintro i x ys H' C hx ⟨rfl,rfl⟩ hC;rw[Ar]at hx;obtain⟨n,hn,rfl⟩:=An.mp hx;have fl:=Ap (fun n:Int=>decide (0<n)) (done.take i);rw[Am]at fl;rw[Zr hn,AJ]at hC;refine⟨Zk (by rw[ae];omega),Wk.refl _,_,rfl,_,_,rfl,rfl,_,rfl,Wn (fun c1=>?_) (fun c1=>?_)⟩
  ·refine⟨_,rfl,hC _ _ ⟨rfl,?_⟩⟩;rw[As,Ah c1,ca];rfl
  ·refine hC _ _ ⟨rfl,?_⟩;rw[As,Aj c1,List.filter_nil,AN]
 rintro ys H' ⟨rfl,rfl⟩;have fl:=Ap (fun n:Int=>decide (0<n)) done;have ml:(done.map V.int).length=done.length:=ae _;rw[ml,At];refine⟨Zd (by rw[ae];omega),fun p np=>?_⟩;exact hq p _ (g.free np) (g.trans (Z9 np _)) Z5
def a8(p:Str×Int):Th:=⟨0,p.1,0,p.2⟩
def pZ:Sp:=fun vs H Q _=>∃(l:Addr)(xs:List V)(ps:Ps),vs=[.ref l]∧H l=some (.lst xs)∧PairsAt H xs (aw ps)∧ps.length≤1000∧∀(p:Addr)(H':Hp),H p=none→Same H H'→DV H' (.ref p) (bG (ps.map a8))→Q (.ref p) H'
theorem xE(F:Fun K "plain_stream" "plain_stream" bV f fd):FnOk P w K mg base CX0 1 f fd ["sums"] pZ:=by
 refine F.ok Rt (fun vs H Q E h=>?_) (fun cdv A outer s H vs Q E hr h=>?_)
 ·obtain⟨l,xs,ps,rfl,_⟩:=h;rfl
 obtain⟨l,xs,ps,rfl,C7,pa,pl,hq⟩:=h;refine⟨_,(Z6 (Zb (Y3 (own:=["mark","many"]) (Xz rfl rfl) (Y5 (pv 0))
  (fun _ _ _ _ _=>(Xa K 2 rfl rfl (Z8 (Z7 (i:=0) Xw rfl (Or.inl rfl) (Or.inr rfl)) (Z8 (Z7 (i:=1) Xw rfl (Or.inl rfl) (Or.inr rfl)) Zt)))) (fun _ _ _ _ _=>Yb)
  (fun _ _ _ _ _=>(Zu (Z0 Z4 (Z0 (pv 0) (Z0 Z4 (Z0 (pv 1) Z1))))))))),?_⟩
 have xl:=pa.length;rw[Zs]at xl;refine⟨_,rfl,l,rfl,⟨_,SqL.of C7⟩,?_⟩;refine Yo (xs:=xs) (fun n ys H'=>Same H H'∧DVs H' ys (((ps.take n).map a8).map Th.D)) ⟨Same.refl _,.nil⟩ ?_ ?_ ?_
 ·rintro n ys H' _ ⟨g,_⟩;exact SqL.of (g _ _ C7)
 ·rintro n x ys H' C hx ⟨g,dv⟩ hC;obtain⟨y,p,rfl,hp,ey⟩:=pa.getP hx;have yl:=dv.length;rw[ae,ae,Am]at yl;refine⟨Zk (by omega),y,_,rfl,SqT.of (g _ _ ey),rfl,_,_,rfl,_,_,rfl,rfl,Wk.refl _,_,rfl,_,rfl,leN rfl,fun q nq=>hC _ _ ⟨g.trans (Z9 nq _),?_⟩⟩;rw[Zr hp,ca,ca];exact(dv.mono (Z9 nq _)).append (.cons (Th.dv (t:=a8 p) Z5) .nil)
 rintro ys H' ⟨g,dv⟩;rw[xl,At]at dv;have yl:=dv.length;rw[ae,ae]at yl;refine⟨Zd (by omega),fun q nq=>hq q _ (g.free nq) (g.trans (Z9 nq _)) (.lst Z5 (dv.mono (Z9 nq _)))⟩
def woT(t:Ty)(z:Str):Ty:=⟨t.room,t.cs.filter (fun p=>decide (p.1≠z)),t.lt,t.total-look t.cs z⟩
def zt:Sp:=fun vs H Q _=>∃(r:Addr)(t:Ty)(z:Str),vs=[.ref r,.str z]∧DV H (.ref r) t.D∧(t.cs.map (·.1)).Nodup∧t.cs.length≤50∧∀(q:Addr)(H':Hp),Same H H'→DV H' (.ref q) (woT t z).D→Q (.ref q) H'
theorem yW(ax:mg "tuple"=none)(bc:Has P w K mg base "count_in" 1 ["tally","mark"] dX)(F:Fun K "without" "without" eN f fd):FnOk P w K mg base CX0 2 f fd ["tally","mark"] zt:=by
 refine F.ok W3 (fun vs H Q E h=>?_) (fun cdv A outer s H vs Q E hr h=>?_)
 ·obtain⟨r,t,z,rfl,_⟩:=h;rfl
 obtain⟨r,t,z,rfl,hd,nd,tl,hq⟩:=h;refine⟨_,(Z2 (X5 (pv 0) (Ys rfl (Z8 (Z7 (i:=2) W3.nd rfl (Or.inl rfl)) (Z8 (Z7 (i:=3) W3.nd rfl (Or.inl rfl)) (Z8 (Z7 (i:=4) W3.nd rfl (Or.inl rfl)) (Z8 (Z7 (i:=5) W3.nd rfl (Or.inl rfl)) Zt))))))
 (Z2 (Zz 6 W3.nd rfl (Or.inl rfl) (X2 Vg rfl ax A1 (Z0 (Y3 (own:=["pair"]) (Xz rfl rfl) (Wg (pv 3))
  (fun _ _ _ _ _=>(Z7 (i:=0) Si rfl (Or.inl rfl) (Or.inr rfl))) (fun _ _ _ _ _=>(Wj (Zn P1 (Y0 (uN K rfl) (pv 0) Z4) (pv 2) (Zl _))))
  (fun _ _ _ _ _=>(pv 0))) Z1)))
 (Z6 (Zb (Zu (Z0 (pv 2) (Z0 (pv 6) (Z0 (pv 4) (Z0 (Ze W7 (pv 5) (Z3 bc hr (Z0 (pv 0) (Z0 (pv 1) Z1)))) Z1))))))))),?_⟩
 obtain⟨_,c,rows,e0,e,ec,pa⟩:=DV.ty_inv hd;cases e0;have rl:=pa.length;rw[Zs]at rl;refine⟨_,rfl,r,_,rfl,SqT.of e,rfl,_,_,rfl,_,_,rfl,_,_,rfl,_,_,rfl,rfl,?_⟩;refine⟨_,rfl,c,rfl,⟨_,SqT.of ec⟩,?_⟩;refine Vn (xs:=rows) (fun n ys H'=>H'=H∧PairsAt H ys (aw ((t.cs.take n).filter fun p=>decide (p.1≠z)))) ⟨rfl,.nil⟩ ?_ ?_ ?_
 ·rintro n ys H' _ ⟨rfl,_⟩;exact SqT.of ec
 ·rintro n x ys H' C hx ⟨rfl,py⟩ hC;obtain⟨y,p,rfl,hp,ey⟩:=pa.getP hx;have yl:=py.length;rw[Zs]at yl;have fl:=Ap (fun p:Str×Int=>decide (p.1≠z)) (t.cs.take n);rw[Am]at fl;rw[Zr hp,AJ]at hC;refine⟨Zk (by omega),Wk.refl _,_,rfl,y,_,0,_,rfl,rfl,SqT.of ey,rfl,_,rfl,rfl,_,rfl,?_⟩;by_cases c1:p.1=z
  ·rw[zy (show V.str p.1=V.str z by rw[c1])];refine Ym (hC _ _ ⟨rfl,?_⟩);rw[List.filter_cons,if_neg (by simpa using c1),List.filter_nil,List.append_nil];exact py
  ·rw[Ag (show ¬V.str p.1=V.str z from fun q=>c1 (by injection q))];refine Xf ⟨_,rfl,hC _ _ ⟨rfl,?_⟩⟩;rw[As,Ah (zy c1),List.filter_nil];unfold aw;rw[ca];exact py.append (.cons ey .nil)
 rintro ys HH ⟨rfl,py⟩;rw[rl,At]at py;have yl:=py.length;rw[Zs]at yl;have fl:=Ap (fun p:Str×Int=>decide (p.1≠z)) t.cs;have gg:Same HH HH:=Same.refl _;refine⟨Zd (by omega),?_⟩;intro l1 sy;generalize hz:upd _ l1 _=H1;revert H1;refine blk ?_;intro H1 hz;have gz:=Zc hz sy;have qH:=Zj hz;clear hz;have gg:=gg.trans gz;refine⟨l1,_,rfl,.inl ⟨SqL.of qH,?_⟩⟩;intro l2 oA;generalize hz:upd _ l2 _=H2;revert H2;refine blk ?_;intro H2 hz;have gz:=Zc hz oA;have eL:=Zj hz;clear hz;have gg:=gg.trans gz;refine⟨_,rfl,_,rfl,_,rfl,_,rfl,_,rfl,_,rfl,r,t,z,rfl,hd.mono gg,nd,tl,fun H3 s3=>⟨_,_,rfl,rfl,leN rfl,?_⟩⟩;have gg:=gg.trans s3;have eL:=s3 _ _ eL;intro q n_q;generalize hz:upd _ q _=H4;revert H4;refine blk ?_;intro H4 hz;have gz:=Zc hz n_q;have Da:=Zj hz;clear hz;have gg:=gg.trans gz;have eL:=gz _ _ eL;exact hq q _ gg (Ty.dv (t:=woT t z) Da eL (py.mono gg))
def shA:Str:="aa ab ac ad ae af a b c d ba bb bn ca z zz zzz zzzzzzzz "
def shB:Str:="aaaaaaaa aaa e f g za zy x"
def shorts:List Str:=["aa","ab","ac","ad","ae","af","a","b","c","d","ba","bb","bn","ca","z","zz","zzz","zzzzzzzz","aaaaaaaa","aaa","e","f","g","za","zy","x"]
theorem rE:Builtin.Str.partsBetween (shA++shB) (Builtin.Str.occurrences (shA++shB) " " 0 (shA++shB).length ((shA++shB).length+1)) (" ":Str).length=shorts:=by decide +kernel
theorem sh_k:(decide ((shA++shB).length<(" ":Str).length) || decide (Builtin.Str.strKind (shA++shB)<Builtin.Str.strKind " "))=false:=by decide +kernel
theorem sh_o:(Builtin.Str.occurrences (shA++shB) " " 0 (shA++shB).length ((shA++shB).length+1)).isEmpty=false:=by decide +kernel
theorem sh_l:(shA++shB).length≤sizeLine:=by decide +kernel
theorem zf:shA.length+shB.length≤sizeLine:=by decide +kernel
def gA:Sp:=fun vs H Q _=>∃(k:Int),vs=[.int k]∧∀(z:Str)(H':Hp),z∈shorts→Same H H'→Q (.str z) H'
def sJ:Sp:=fun vs H Q _=>∃(a:Addr),vs=[.ref a]∧PenAt H a∧∀(m:Int)(H':Hp),1≤m→m≤20→PenAt H' a→Grw a H H'→Q (.int m) H'
theorem sq(F:Fun K "_law_short" "_law_short" eG f fd):FnOk P w K mg base CX0 1 f fd ["_law_k"] gA:=by
 refine F.ok Qm (fun vs H Q E h=>?_) (fun cdv A outer s H vs Q E hr h=>?_)
 ·obtain⟨k,rfl,_⟩:=h;rfl
 obtain⟨k,rfl,hq⟩:=h;refine⟨_,(Z2 (Zz 1 Qm.nd rfl (Or.inl rfl) Xn)
 (Z6 (Zb (Y0 Xj (Uf PySem.F.plainAttrs_str PySem.F.slot_str_split PySem.F.type_str_split P8 (Ze Vw (pv 1) Xn) (Z0 Xn Z1)) (Ze Xo (pv 0) Z4))))),?_⟩
 refine⟨_,rfl,shA,shB,rfl,rfl,zf,rfl,shA++shB," ",shorts,rfl,rfl,sh_k,kz,sh_o,sh_l,rE,by decide,fun l hl=>?_⟩;obtain⟨v,hv,hm⟩:=Rh (xs:=shorts.map V.str) (i:=k % 26) (B4 _ (by decide)) (by rw[ae];exact BO _ (by decide));obtain⟨z,hz,rfl⟩:=Ab.mp hm;refine⟨_,rfl,_,_,rfl,rfl,Xe rfl,l,_,_,_,rfl,rfl,SqL.of Z5,hv,?_⟩;exact hq z _ hz (Z9 hl _)
theorem ud(ao:Has P w K mg base "_law_draw" 1 ["_law_pen_here","_law_size"] cD)(F:Fun K "_law_room" "_law_room" fU f fd):FnOk P w K mg base CX0 2 f fd ["_law_pen_here"] sJ:=by
 refine F.ok oY (fun vs H Q E h=>?_) (fun cdv A outer s H vs Q E hr h=>?_)
 ·obtain⟨a,rfl,_⟩:=h;rfl
 obtain⟨a,rfl,hp,hq⟩:=h;refine⟨_,(Z6 (Zb (Y0 Xj (Yn (Z0 Z4 (Z0 Z4 (Z0 Z4 (Z0 (Ze Y4 Z4 (Z3 ao hr (Z0 (pv 0) (Z0 Z4 Z1)))) (Z0 Z4 (Z0 Z4 Z1))))))) (Z3 ao hr (Z0 (pv 0) (Z0 Z4 Z1)))))),?_⟩;refine⟨_,rfl,a,20,rfl,hp,Xe rfl,ltI rfl,fun d1 H1 x0 x1 hp1 g1=>⟨_,_,rfl,rfl,?_⟩⟩;have x1:d1<20:=x1;refine⟨leN rfl,fun p hn=>⟨_,rfl,a,6,rfl,hp1.laid hn,Xe rfl,ltI rfl,fun d2 H2 y0 y1 hp2 g2=>?_⟩⟩;have hpa:=hp1.ne hn;have e2:H2 p=some (.lst [.int 1,.int 2,.int 3,.int (1+d1),.int 5,.int 20]):=g_ g2 hpa Z5;obtain⟨v,hv,hm⟩:=Rh (xs:=[V.int 1,.int 2,.int 3,.int (1+d1),.int 5,.int 20]) y0 y1;refine⟨p,_,_,v,rfl,rfl,SqL.of e2,hv,?_⟩;have gg:=g1.trans ((X7 hn).trans g2);simp only[List.mem_cons,List.not_mem_nil,or_false]at hm
 rcases hm with rfl | rfl | rfl | rfl | rfl | rfl
 ·exact hq _ _ (by decide) (by decide) hp2 gg
 ·exact hq _ _ (by decide) (by decide) hp2 gg
 ·exact hq _ _ (by decide) (by decide) hp2 gg
 ·exact hq _ _ (by omega) (by omega) hp2 gg
 ·exact hq _ _ (by decide) (by decide) hp2 gg
 ·exact hq _ _ (by decide) (by decide) hp2 gg
end K63
namespace L2
open PySem PySem.Spec PyProof.Rows
def zc(K:W.Frag)(S:Addr)(sp:Sp)(i:Nat)(ta:TA)(tb:TS):TS:=fun D σ H=>ta σ H fun vs H1=>sp vs H1 (fun v H2=>D.nx (σ.set i (some v)) H2) (fun cv _ H2=>∃C,cv=.ref C∧W.exmOne K (.ref C) (.ref S)=some true∧
 ∀a,H2 a=none→tb {nx:=D.nx,rt:=fun _ _=>False} σ (upd H2 a (xo C a)))
section
variable{X:Cx}{x c n:Str}{p pos cpos epos np ap hpos:Pos}{e:Expr}{es:List Expr}{ta:TA}{tb:TS}{b₀:Stmt}{suite:List Stmt}{j k i:Nat}{ps:List Str}{sp:Sp}{S:Addr}
theorem t8(hx:∀e s,X.xe e s→False)(hst:X.stack=X.env::X.outer)(hfr:X.env.frame=some X.env.locals)(h:HasX X.prog X.w X.K X.mg X.base x j ps sp)(hr:Room k X.A)(ha:PA X (e::es) ta)(hN:X.N.Nodup)(hi:X.N[i]?=some n)(hk:X.env.scope.names.lookup n=some .local)(hS:X.mg c=some (.ref S))(hb:∀a E,PSs (X.held a E) (b₀::suite) tb)(hg:Gl X x:=by rfl)(hc:Gl X c:=by rfl)(hj:j≤k:=by first | decide | omega)(hdb:(x==("__debug__":Str))=false:=by decide)(hdc:(c==("__debug__":Str))=false:=by decide)(he:starEach (e::es) X.env=(false,eval e X.env)::starEach es X.env:=by rfl)(hpl:(backTo pos (starEach es X.env)).any (·.1)=false:=by rfl)(hs:swapsWith (.Call (.Name x p) (e::es) [] pos) (some (.Name n ap)) epos.line X.env=pure false:=by rfl):
  PS X (.Try [.Assign [.Name n ap] (.Call (.Name x p) (e::es) [] pos) epos] [.ExceptHandler (some (.Name c np)) none (b₀::suite) hpos] [] [] cpos) (zc X.K S sp i ta tb):=by
 intro CZ s σ H D I h0;obtain⟨f,fd,F,bi,kp,m⟩:=h.ex;refine wpAny_Try_except (wpAny_execs_cons ?_);refine wpAny_Assign_Name (Bw (T7 I hg m ?_ hdb)) hs;refine W.callWith_K (h₀:=X.base) I.ok.mod.kin kp (A5 (ha pos CZ s σ H _ I h0) (fun us s1 q1=>?_) fun e s z=>(hx e s z).elim) he hpl;obtain⟨vs,H1,I1,r,q⟩:=q1;refine⟨I1.kIn,?_⟩;have hl:us.length=ps.length:=by rw[←r.length];exact F.len _ _ _ _ q
 have hbi:=bi s1 us I1.kIn (by rw[AN];exact hl);rw[AN]at hbi;refine wpAny_call (B6 ((F.mono hj).run X.A X.stack s1 H1 ⟨us,[]⟩ us vs _ _ hr I1.env0 hbi r q) fun r s' hq=>?_);cases r with
 |ok fl=>
  cases fl with
  |ret u=>
   obtain⟨v,H2,I2,rv,q2⟩:=I1.after hq;exact Qi I2 hN hi (.inl hk) rv (fun s3 I3=>Cr (Cr ⟨_,H2,I3,q2⟩)) (.inr hk)
  |next=>exact False.elim hq
  |brk=>exact False.elim hq
  |cont=>exact False.elim hq
 |error e=>
  obtain⟨a,T,C,H2,rfl,os,bare,un,hok,Fl,na,nT,h2a,h2T,C',hC',hm,q2⟩:=hq;cases hC';rw[hst]at Fl;have frames:X.A.frames=some (X.env::X.outer):=by rw[I.ok.frames,hst]
  refine A5 (vp (Q:=fun _ s3=>wpAny (model X.prog X.w) X.A (handleBy (.ref a) X.env [.ExceptHandler (some (.Name c np)) none (b₀::suite) hpos]) (SP X CZ D) X.xe s3) frames hfr Fl fun h3 T3 F3 k3 t3=>?_) (fun _ _ z=>z) fun _ _ z=>z;rw[←hst]at k3;have un3:=un.kp k3 na nT;have fr0:∀b∈frs X.stack,H2 b=none:=(I1.past os bare un hok).stkFree;have hok3:=hok.kp k3 h2a h2T fr0;have gone:∀b,s'.heap.get? b=none→s1.heap.get? b=none:=fun b e=>by
   cases z:s1.heap.get? b with
   |none=>rfl
   |some o=>
    obtain⟨o',e'⟩:=un.there b o z (by simp);rw[e]at e';cases e'
  have nT3:s1.heap.get? T3=none:=by
   rcases t3 with z | z
   ·exact gone _ z
   ·rw[z];exact nT
  have h2T3:H2 T3=none:=by
   rcases t3 with z | z
   ·exact hok.no z
   ·rw[z];exact h2T
  have I3:Inv X CZ σ H2 {s' with heap:=h3}:=I1.past os bare un3 hok3;refine wpAny_handleBy_cons (codeAny_handlers_test ?_) (by intro q;cases q);have I3h:Inv (X.held a (notedBy (model X.prog X.w) (X.A.mark (some (.ref a))) X.env fun x s2=>cameBackBy (model X.prog X.w) X.A X.env X.xe x s2)) CZ σ H2 {s' with heap:=h3}:=I3.held _ _;refine T7 I3h hc hS ?_ hdc;obtain⟨oe,ws,oT,ts,a0,e1,⟨e2,_⟩,_⟩:=F3.ex;have LT:W.Looks (model X.prog X.w) h3 (typeOf (.ref a)) (.ref C):=fun A Q E s kk q=>by
   obtain⟨hh,g,d,tk,os⟩:=s;refine aa (wpAny_loadPart (kk _ _ e1) ?_);rw[e2];exact aq q
  refine W.exm_one (M:=model X.prog X.w) I3.kIn LT hm _ _ _ _ (fun _ _ e=>e) ?_;refine codeAny_handlers_suite ?_;rw[←hst]at F3;have F3':Fly (X.env::X.outer) a T3 (.ref C) ({s' with heap:=h3}:Shared).heap:=by rw[←hst];exact F3
  refine kC F3' fun h4 T4 F4 k4 t4=>?_;rw[←hst]at k4;have un4:=un3.kp k4 na nT3;have hok4:=hok3.kp k4 h2a h2T3 fr0;obtain⟨oe,ws,oT,ts,a0,e1,⟨e2,_,e8⟩,e3,_⟩:=F4.ex;have hok5:=hok4.more (o:=xo C a) h2a (zI e1 e2 e3 e8);have un5:=un4.more (o:=xo C a) na h2a;have I5:Inv X CZ σ (upd H2 a (xo C a)) {s' with heap:=h4}:=I1.past os bare un5 hok5;refine A5 (hb a _ CZ _ _ _ _ (I5.held _ _) (q2 a h2a)) (fun fl s7 q7=>?_) fun _ _ z=>z;cases fl with
  |next=>
   obtain⟨σ',H',I7,q7⟩:=q7;exact⟨_,H',I7.unheld I.ok,q7⟩
  |ret u=>obtain⟨_,_,_,_,_,z⟩:=q7;exact z.elim
  |brk=>obtain⟨_,_,_,z⟩:=q7;exact z.elim
  |cont=>obtain⟨_,_,_,z⟩:=q7;exact z.elim
end
section
variable{P:Program}{w:World}{A:Around}{E:Value→Shared→Prop}{s:Shared}{a b:Addr}{va vb:List (Key×Value)}
def ua:Value→Option Int
 |.int n _=>some n
 |_=>none
def dz(vb:List (Key×Value))(p:Key×Value):Bool:=decide ((valueAt vb p.1).bind ua=ua p.2)
theorem Ov{knd:PySem.KeyKind P w Key}{es:List DictEntry}{kvs:List (Key×Value)}(h:Pairs knd es kvs):∀{i:Nat}{e:DictEntry},es[i]?=some e→∃kv,kvs[i]?=some kv∧knd.is kv.1 e.key=true∧e.val=kv.2:=by
 induction h with
 |nil=>intro i e z;simp at z
 |cons h1 h2 _ ih=>
  intro i e z;cases i with
  |zero=>
   simp only[List.getElem?_cons_zero,Option.some.injEq]at z;subst z;exact⟨_,rfl,h1,h2⟩
  |succ i=>exact ih (by simpa using z)
theorem sG{kvs:List (Key×Value)}{k:Key}(h:k∉kvs.map (·.1)):valueAt kvs k=none:=by
 unfold valueAt;rw[List.find?_eq_none.mpr fun x hx z=>h (Ab.mpr ⟨x,hx,bb z⟩)];rfl
theorem hV{nm:String}{Q:Bool→Shared→Prop}(ha:(a==sysModules)=false)(hb:(b==sysModules)=false)(da:s.heap.DictOf (ai P w) a va)(db:s.heap.DictOf (ai P w) b vb)(ia:∀p∈va,∃n t,p.2=.int n t)(ib:∀p∈vb,∃n t,p.2=.int n t)(h:Q (decide (va.length=vb.length) && va.all (dz vb)) s):
  wpAny (model P w) A (Builtin.Dict.samePairs nm a b) Q E s:=by
 obtain⟨oa,ea,pa,ga,xa,qa,ka,ra,na⟩:=da;obtain⟨ob,eb,pb,gb,xb,qb,kb,rb,nb⟩:=db;have la:ea.size=va.length:=by have:=ra.length;simpa using this
 have lb:eb.size=vb.length:=by have:=rb.length;simpa using this
 have sh:∀{d:Addr}{R:Unit→Shared→Prop},(d==sysModules)=false→R () s→wpAny (model P w) A (Builtin.Dict.showsAll d) R E s:=fun{d R} hd hr=>by
  unfold Builtin.Dict.showsAll;rw[Aj (by rw[hd];decide)];exact aq hr
 unfold Builtin.Dict.samePairs;refine aa (sh ha (aa (sh hb (aa (wpAny_dictEntries ga qa (aa (wpAny_dictEntries gb qb ?_)))))));by_cases hl:va.length=vb.length
 ·rw[if_neg (by rw[la,lb,hl];simp)];refine aa (wpAny_dictEpoch ga qa (aa ?_));rw[Std.Legacy.Range.forIn_eq_forIn_range'];refine A5 (wpAny_forIn_list _ (fun rest r s'=>∃i,rest=List.range' i (ea.size-i)∧i≤ea.size∧r=(none,())∧s=s'∧∀p∈va.take i,dz vb p=true)
   (fun r s'=>s=s'∧((r=(none,())∧va.all (dz vb)=true)∨(r=(some false,())∧va.all (dz vb)=false))) ?_ ?_ _ _ ⟨0,?_,Bc _,rfl,rfl,?_⟩) ?_ (fun _ _ z=>z)
  ·rintro x rest r s' ⟨i,he,hi,rfl,rfl,hp⟩;have hin:i<ea.size:=by
    rcases Nat.lt_or_ge i ea.size with z | z
    ·exact z
    ·rw[Nat.sub_eq_zero_of_le z]at he;cases he
   rw[show ea.size-i=(ea.size-(i+1))+1 by omega,List.range'_succ]at he;obtain⟨rfl,rfl⟩:=List.cons.inj he.symm;have hge:ea[i]?=some ea[i]:=Aw hin;obtain⟨p,hpv,hkey,hval⟩:=Ov ra (i:=i) (e:=ea[i]) (by rw[A6];exact hge);obtain⟨k',hk',hh⟩:=ka ea[i] (Array.getElem_mem hin);have:k'=p.1:=(ai P w).inj _ _ _ hk' hkey;subst this;obtain⟨n,t,hn⟩:=ia p (Ai hpv);have ev:ea[i].val=.int n t:=hval.trans hn;have tk:va.take (i+1)=va.take i++[p]:=Zr hpv;refine aa (wpAny_dictEntries ga qa ?_);rw[hge];have fF:dz vb p=false→va.all (dz vb)=false:=fun hs=>List.all_eq_false.mpr ⟨p,Ai hpv,by rw[hs];decide⟩;have fT:dz vb p=true→∀q∈va.take (i+1),dz vb q=true:=fun hs q hq=>by
    rw[tk]at hq
    rcases AI.mp hq with z | z
    ·exact hp q z
    ·rw[Af.mp z];exact hs
   refine aa (AS (aa ?_));rw[hh];refine wpAny_dictFind_of hkey gb qb kb ?_;have fi:eb.findIdx? (fun e=>(ai P w).is p.1 e.key)=vb.findIdx? fun kv=>decide (kv.1=p.1):=by
    rw[←rb.findIdx p.1];cases eb;simp
   cases hf:eb.findIdx? (fun e=>(ai P w).is p.1 e.key) with
   |none=>
    rw[hf]at fi;refine aq ?_;rw[Ah (by decide)];refine aq ⟨rfl,.inr ⟨rfl,fF ?_⟩⟩;unfold dz;rw[sG (not_mem_of_findIdx_none fi.symm),hn];rfl
   |some j=>
    obtain⟨hj,hjk,_⟩:=Array.findIdx?_eq_some_iff_getElem.mp hf;have hge2:eb[j]?=some eb[j]:=Aw hj;obtain⟨p2,hpv2,hkey2,hval2⟩:=Ov rb (i:=j) (e:=eb[j]) (by rw[A6];exact hge2);have e1:p2.1=p.1:=(ai P w).inj _ _ _ hkey2 hjk;obtain⟨m,u,hm⟩:=ib p2 (Ai hpv2);have ev2:eb[j].val=.int m u:=hval2.trans hm;have vv:valueAt vb p.1=some p2.2:=valueAt_of_get nb (i:=j) (by rw[hpv2,←e1]);refine aa (wpAny_dictEntries gb qb ?_);rw[hge2];refine AS ?_;rw[ev,ev2];have hq:dz vb p=decide (n=m):=by
     unfold dz;rw[vv,hn,hm];show decide (some m=some n)=decide (n=m);by_cases z:n=m
     ·subst z;simp
     ·rw[Ag z,Ag (fun y=>z (by cases y;rfl))]
    refine wpAny_eqBool_int ?_;by_cases z:n=m
    ·rw[if_neg (by simp[z])];refine aa (wpAny_dictEpoch ga qa ?_);rw[if_neg (by simp)];exact aq ⟨i+1,rfl,by omega,rfl,rfl,fT (by rw[hq,zy z])⟩
    ·rw[if_pos (by simp[z])];exact aq ⟨rfl,.inr ⟨rfl,fF (by rw[hq,Ag z])⟩⟩
  ·rintro r s' ⟨i,he,hi,rfl,rfl,hp⟩;refine⟨rfl,.inl ⟨rfl,?_⟩⟩;have hz:ea.size-i=0:=by
    cases hq:ea.size-i with
    |zero=>rfl
    |succ q=>rw[hq,List.range'_succ]at he;cases he
   rw[BH (by omega)]at hp;exact A3.mpr hp
  ·simp
  ·intro p hp;simp at hp
  ·rintro r s' ⟨rfl,⟨rfl,hv⟩|⟨rfl,hv⟩⟩
   ·rw[hv,zy hl]at h;exact aq h
   ·rw[hv,CS]at h;exact aq h
 ·rw[if_pos (by rw[la,lb];simpa using hl)];rw[Ag hl,BC]at h;exact aa (CO (aq h))
theorem Oc(ha:(a==sysModules)=false)(hb:(b==sysModules)=false):MeetsIn P w (Builtin.«dict.__eq__» ⟨[.ref a,.ref b],[]⟩) (fun _ R s=>s.heap.DictOf (ai P w) a va∧s.heap.DictOf (ai P w) b vb∧
  (∀p∈va,∃n t,p.2=.int n t)∧(∀p∈vb,∃n t,p.2=.int n t)∧R (.ok (.ret (.bool (decide (va.length=vb.length) && va.all (dz vb))))) s):=
 .of_wp fun A R s ⟨da,db,ia,ib,h⟩=>by
  show wpAny _ _ (Builtin.Dict.dictSlotArgs "__eq__" ⟨[.ref a,.ref b],[]⟩ >>= _) _ _ s;refine aa ?_;unfold Builtin.Dict.dictSlotArgs;refine aa (wpAny_notOrdered_dict da.typeIs ?_);show wpAny _ _ (pure (Value.ref a,Value.ref b)) _ _ s;refine aq ?_;refine aa (CH db.typeIs isSubtype_dict_dict ?_);rw[Aj (by decide)];show wpAny _ _ (Builtin.Dict.samePairs _ a b >>= _) _ _ s;refine aa (hV ha hb da db ia ib ?_);have bt:∀c:Bool,(c==true)=c:=fun c=>by cases c <;> rfl
  rw[bt];exact aq ⟨_,rfl,h⟩
theorem gH:∀{ps:Ps}{vs:List (Key×Value)},KV (aw ps) vs→∀p∈vs,∃n t,p.2=.int n t
 | [],_,h,p,hp=>by
  cases (show Paired _ [] _ from h);cases hp
 |q::ps,_,h,p,hp=>by
  cases (show Paired _ ((Sum.inr q.1,V.int q.2)::aw ps) _ from h) with
  |cons f r=>
   rcases Ae.mp hp with rfl | hp
   ·obtain⟨_,t,e⟩:=f;exact⟨_,t,e⟩
   ·exact gH r p hp
theorem xw{qs:Ps}(nd:(qs.map (·.1)).Nodup)(z:Str)(n:Int):aF (aw qs) (Sum.inr z)=some (.int n)↔(z,n)∈qs:=by
 constructor
 ·intro h;by_cases hz:z∈qs.map (·.1)
  ·rw[jN nd hz]at h;cases h;obtain⟨p,hp,rfl⟩:=Ab.mp hz;rw[Yv nd hp];exact hp
  ·have e:aF (aw qs) (Sum.inr z)=none:=by
    unfold aF;rw[List.find?_eq_none.mpr fun x hx y=>hz ?_]
    ·rfl
    ·obtain⟨p,hp,rfl⟩:=Ab.mp hx;have y:=bb y;cases y;exact Ab.mpr ⟨p,hp,rfl⟩
   rw[e]at h;cases h
 ·intro h;have:=jN nd (Ab.mpr ⟨_,h,rfl⟩);rw[Yv nd h]at this;exact this
theorem wK{qs:Ps}(nd:(qs.map (·.1)).Nodup){vs:List (Key×Value)}(r:KV (aw qs) vs)(z:Str)(n:Int)(t:Tok):dz vs (Sum.inr z,.int n t)=decide ((z,n)∈qs):=by
 have q:=r.val (Sum.inr z);have c:=xw nd z n;unfold dz;show decide ((valueAt vs (Sum.inr z)).bind ua=some n)=_
 congr 1
 refine propext ⟨fun h=>c.mp ?_,fun h=>?_⟩
 ·cases hv:valueAt vs (Sum.inr z) with
  |none=>rw[hv]at h;cases h
  |some u=>
   rw[hv]at h q;cases ho:aF (aw qs) (Sum.inr z) with
   |none=>rw[ho]at q;exact q.elim
   |some v=>
    rw[ho]at q;have hu:ua u=some n:=h;have q:RelV v u:=q;cases u <;> first | (cases hu;done) | skip
    all_goals (first | (cases hu) | skip)
    all_goals (cases v <;> first | (cases q;rfl)|(obtain⟨_,q⟩:=q;cases q;rfl)|(obtain⟨_,q⟩:=q;cases q) | cases q)
 ·have h:=c.mpr h;rw[h]at q;cases hv:valueAt vs (Sum.inr z) with
  |none=>rw[hv]at q;exact q.elim
  |some u=>
   rw[hv]at q;obtain⟨t',rfl⟩:=(show RelV (.int n) u from q);rfl
theorem mF{qs:Ps}(nd:(qs.map (·.1)).Nodup){vb:List (Key×Value)}(rb:KV (aw qs) vb):∀{ps:Ps}{va:List (Key×Value)},KV (aw ps) va→va.all (dz vb)=ps.all fun p=>decide (p∈qs)
 | [],_,h=>by
  cases (show Paired _ [] _ from h);rfl
 |q::ps,_,h=>by
  cases (show Paired _ ((Sum.inr q.1,V.int q.2)::aw ps) _ from h) with
  | @cons _ u _ _ f r=>
   obtain⟨k,v⟩:=u;obtain⟨e1,t,e2⟩:=f;have e1:Sum.inr q.1=k:=e1;have e2:v=.int q.2 t:=e2;subst e1 e2;rw[CJ,CJ,mF nd rb r,wK nd rb]
theorem N3:∀{l:List Str},(l.map (Sum.inr:Str→Key)).Nodup→l.Nodup
 | [],_=>AQ
 |x::l,h=>by
  obtain⟨h1,h2⟩:=AC.mp h;exact AC.mpr ⟨fun z=>h1 (Ab.mpr ⟨x,z,rfl⟩),N3 h2⟩
def zx:R2:=fun x y H Q=>∃a b ps qs,x=.ref a∧y=.ref b∧H a=some (.dK (aw ps))∧H b=some (.dK (aw qs))∧Q (.bl (decide (ps.length=qs.length) && ps.all fun p=>decide (p∈qs))) H
theorem vi{X:Cx}(hu:X.A.units<cLine):OpR X (compareOp .Eq) zx:=by
 intro CZ s σ H x y v u Q I rx ry h;obtain⟨a,b,ps,qs,rfl,rfl,ea,eb,q⟩:=h;cases rx;cases ry;obtain⟨za,ha,va,ra,da⟩:=Px I.hok ea;obtain⟨zb,hb,vb,rb,db⟩:=Px I.hok eb;have nd:(qs.map (·.1)).Nodup:=by
  obtain⟨_,_,_,_,_,_,_,_,n⟩:=db;rw[←rb.keys,Xr]at n;exact N3 n
 have l1:=ra.length;have l2:=rb.length;rw[Zs]at l1 l2;refine wpAny_richCompare_same_room (op:=.Eq) da.typeIs db.typeIs PySem.F.slot_dict_eq (call_meetsIn PySem.F.slot_dict_eq da.typeIs PySem.F.entry_dict_eq (PySem.F.args_dict_eq_2 _ _) (Oc ha hb) ⟨da,db,gH ra,gH rb,?_⟩) hu;refine⟨(fun z=>nomatch z),.bl _,H,I,rfl,?_⟩;rw[mF nd rb ra,←l1,←l2];exact q
end
section
variable{P:Program}{w:World}{A:Around}{E:Value→Shared→Prop}{s:Shared}
theorem Ug{it t:Addr}{k:Nat}{vs:Array Value}{v:Value}{Q:Value→Shared→Prop}(ti:s.heap.IsTupleIter it t k)(tt:s.heap.IsTuple t vs)(hv:vs[k]?=some v)(q:∀g,g.IsTupleIter it t (k+1)→Heap.SameBut it s.heap g→Q v {s with heap:=g}):wpAny (model P w) A (Builtin.SmallTypes.nextOf (.ref it)) Q E s:=by
 obtain⟨ou,gu,cu,du⟩:=id ti;obtain⟨ov,gv,_,nv,dv⟩:=tt;unfold Builtin.SmallTypes.nextOf;refine aa (A7 (name:=Str.ofString "__next__") ti.typeIs BI (AY BI ti.typeIs PySem.F.entry_tuple_iterator_next ?_ (PySem.F.args_tuple_iterator_next_1 _)));show wpAny _ _ (field (.ref it) 0 >>= fun _=>_) _ _ s;refine aa (AZ gu du (x:=.ref t) rfl ?_);rw[Aj (show ¬((Value.ref t==Value.none)=true)from Al)];show wpAny _ _ (field (.ref it) 1 >>= fun _=>_) _ _ s;refine aa (AZ gu du (x:=.int k 0) rfl ?_);show wpAny _ _ (seqItems? (.ref t) >>= fun _=>_) _ _ s;refine aa (Bb gv dv ?_);simp only[Int.toNat_natCast,hv];refine wpAny_bind (wpAny_setField gu du (by simp) (wpAny_pure ⟨v,rfl,wpAny_pure (q _ ?_ (Heap.SameBut.update ..))⟩));exact⟨_,Heap.get?_update_self _ gu (Obj.isFreed_of_fields (Obj.data_mapFields du _)),(Obj.cls_mapFields ..).trans cu,by rw[Obj.data_mapFields du];simp[rawInt]⟩
theorem P3{it t:Addr}{k:Nat}{vs:Array Value}{Q:Value→Shared→Prop}(hA:A.handled=none)(ti:s.heap.IsTupleIter it t k)(tt:s.heap.IsTuple t vs)(hv:vs[k]?=none)(q:∀g e,Heap.ExtBut it s.heap g→(∃o,g.get? e=some o∧o.cls=.type "StopIteration")→E (.ref e) {s with heap:=g}):wpAny (model P w) A (Builtin.SmallTypes.nextOf (.ref it)) Q E s:=by
 obtain⟨ou,gu,cu,du⟩:=id ti;obtain⟨ov,gv,_,nv,dv⟩:=tt;unfold Builtin.SmallTypes.nextOf;refine aa (A7 (name:=Str.ofString "__next__") ti.typeIs BI (AY BI ti.typeIs PySem.F.entry_tuple_iterator_next ?_ (PySem.F.args_tuple_iterator_next_1 _)));show wpAny _ _ (field (.ref it) 0 >>= fun _=>_) _ _ s;refine aa (AZ gu du (x:=.ref t) rfl ?_);rw[Aj (show ¬((Value.ref t==Value.none)=true)from Al)];show wpAny _ _ (field (.ref it) 1 >>= fun _=>_) _ _ s;refine aa (AZ gu du (x:=.int k 0) rfl ?_);show wpAny _ _ (seqItems? (.ref t) >>= fun _=>_) _ _ s;refine aa (Bb gv dv ?_);simp only[Int.toNat_natCast,hv];refine wpAny_bind (wpAny_rule (wpAny_bind (wpAny_setField gu du (by simp) ?_)));show wpAny _ _ (newExc (.type "StopIteration") [] >>= fun _=>_) _ _ _;refine wpAny_bind ?_;simp only[newExc,newTuple];refine wpAny_bind (wpAny_newObj_type ?_ (by size_fits));refine wpAny_bind (m:=firstArgMember _ _) (wpAny_of_eq (a:=Value.none) (by first | rfl | (simp only[firstArgMember];rfl)) (wpAny_newObj_type ?_ (by size_fits)));simp only[raiseNew];refine wpAny_bind (wpAny_handled ?_);first | rw[show A.in1.handled=none from hA] | rw[hA]
 refine aa (aq (wpAny_throw (q _ _ (((Heap.SameBut.update ..).extBut.push _).push _) ⟨_,pi _ rfl,rfl⟩)))
theorem uq{z TI TO i1 i2 t1 t2:Addr}{k:Nat}{us vs:Array Value}{u v a b:Value}{Q:Value→Shared→Prop}(D:ZipApart z TI TO i1 i2 t1 t2)(zz:IsZip s.heap z TI TO .none)(pI:IsPair s.heap TI (.ref i1) (.ref i2))(pO:IsPair s.heap TO a b)(n1:s.heap.IsTupleIter i1 t1 k)(n2:s.heap.IsTupleIter i2 t2 k)(x1:s.heap.IsTuple t1 us)(x2:s.heap.IsTuple t2 vs)(hu:us[k]?=some u)(hv:vs[k]?=some v)(q:∀g,IsZip g z TI TO (rawInt s.heap.objs.size)→IsPair g TO u v→g.IsTupleIter i1 t1 (k+1)→g.IsTupleIter i2 t2 (k+1)→IsPair g s.heap.objs.size u v→
   (∀c o,c≠z→c≠TO→c≠i1→c≠i2→s.heap.get? c=some o→g.get? c=some o)→Q (.ref s.heap.objs.size) {s with heap:=g}):
  wpAny (model P w) A (Builtin.«zip.__next__» ⟨[.ref z],[]⟩) (fun fin s'=>∃r,fin=.done (.ret r)∧Q r s') E s:=by
 show wpAny _ _ (field (.ref z) 2 >>= fun _=>_) _ _ _;refine aa (AZ zz rfl (x:=.bool false) rfl ?_);show wpAny _ _ (field (.ref z) 3 >>= fun _=>_) _ _ _;refine aa (AZ zz rfl (x:=.ref TI) rfl (aa (Bb pI rfl ?_)));show wpAny _ _ (Builtin.SmallTypes.ownedTupleIsFree (.ref z) >>= fun _=>_) _ _ _;refine aa ?_;unfold Builtin.SmallTypes.ownedTupleIsFree;refine wpAny_bind (wpAny_field zz rfl (x:=.none) rfl (wpAny_pure ?_));simp only[if_true];refine wpAny_bind (wpAny_rule (wpAny_bind (wpAny_field zz rfl (x:=.ref TO) rfl (wpAny_bind (wpAny_setField_rec zz (by simp) fun b1 w1 f1=>?_)))))
 replace w1:IsZip b1 z TI TO .ellipsis:=w1
 refine wpAny_bind ?_;simp only[List.zipIdx_cons,List.zipIdx_nil,List.forIn_cons,List.forIn_nil];refine aa (aa (wpAny_onRaise ?_));show wpAny _ _ (Builtin.SmallTypes.nextOf (.ref i1) >>= fun _=>_) _ _ _;refine aa (Ug (n1.extBut f1.extBut D.i1z) (x1.extBut f1.extBut D.l1z) hu fun b2 m1 f2=>aq ?_);have o2:IsPair b2 TO a b:=f2.extBut _ _ D.TOi1 (f1.extBut _ _ D.TOz pO);refine aa (Bb o2 rfl (aa (wpAny_updateSeq_pair o2 fun b3 o3 f3=>aa (wpAny_letGo (aq ?_)))))
 replace o3:IsPair b3 TO u b:=o3
 refine aa (aa (wpAny_onRaise ?_));show wpAny _ _ (Builtin.SmallTypes.nextOf (.ref i2) >>= fun _=>_) _ _ _;refine aa (Ug (((n2.extBut f1.extBut D.i2z).extBut f2.extBut D.i12.symm).extBut f3.extBut D.TOi2.symm) (((x2.extBut f1.extBut D.l2z).extBut f2.extBut D.l2i1).extBut f3.extBut D.l2TO) hv fun b4 m2 f4=>aq ?_);have o4:IsPair b4 TO u b:=f4.extBut _ _ D.TOi2 o3;refine aa (Bb o4 rfl (aa (wpAny_updateSeq_pair o4 fun b5 o5 f5=>aa (wpAny_letGo (aq (aq ?_))))))
 replace o5:IsPair b5 TO u v:=o5
 refine aa (Bb o5 rfl (aa (wpAny_newTuple ?_)));have sz:b5.objs.size=s.heap.objs.size:=by rw[f5.1,f4.1,f3.1,f2.1,f1.1]
 have w5:IsZip b5 z TI TO .ellipsis:=f5.extBut _ _ D.TOz.symm (f4.extBut _ _ D.i2z.symm (f3.extBut _ _ D.TOz.symm (f2.extBut _ _ D.i1z.symm w1)));have k5:∀c o,c≠z→c≠TO→c≠i1→c≠i2→s.heap.get? c=some o→b5.get? c=some o:=fun c o c1 c2 c3 c4 e=>f5.extBut _ _ c2 (f4.extBut _ _ c4 (f3.extBut _ _ c2 (f2.extBut _ _ c3 (f1.extBut _ _ c1 e))));have m1':b5.IsTupleIter i1 t1 (k+1):=((m1.extBut f3.extBut D.TOi1.symm).extBut f4.extBut D.i12).extBut f5.extBut D.TOi1.symm;have m2':b5.IsTupleIter i2 t2 (k+1):=m2.extBut f5.extBut D.TOi2.symm;have zl:z<b5.objs.size:=az w5;show wpAny _ _ (Builtin.SmallTypes.ownedTupleHandOut (.ref z) (.ref b5.objs.size) >>= fun _=>_) _ _ _;refine aa ?_;unfold Builtin.SmallTypes.ownedTupleHandOut;have w6:IsZip (b5.push {cls:=.type "tuple",data:=.seq #[u,v]}) z TI TO .ellipsis:=af _ w5;refine wpAny_bind (wpAny_setField_rec w6 (by simp) fun b7 w7 f7=>?_)
 replace w7:IsZip b7 z TI TO (rawInt b5.objs.size):=w7
 refine wpAny_setField_rec w7 (by simp) fun b8 w8 f8=>?_
 replace w8:IsZip b8 z TI TO (rawInt b5.objs.size):=w8
 have up:∀c o,c≠z→b5.get? c=some o→b8.get? c=some o:=fun c o c1 e=>f8.extBut _ _ c1 (f7.extBut _ _ c1 (af _ e));have o8:IsPair b8 b5.objs.size u v:=f8.extBut _ _ (AF zl) (f7.extBut _ _ (AF zl) (pi _ rfl));rw[sz]at w8 o8;refine aq ⟨_,rfl,?_⟩;show Q (.ref b5.objs.size) _;rw[sz];exact q b8 w8 (up _ _ D.TOz o5) (m1'.at fun o e=>up _ o D.i1z e) (m2'.at fun o e=>up _ o D.i2z e) o8 fun c o c1 c2 c3 c4 e=>up c o c1 (k5 c o c1 c2 c3 c4 e)
theorem yA{z TI TO i1 i2 t1 t2:Addr}{k:Nat}{us vs:Array Value}{a b:Value}{Q:Fin→Shared→Prop}(hA:A.handled=none)(D:ZipApart z TI TO i1 i2 t1 t2)(zz:IsZip s.heap z TI TO .none)(pI:IsPair s.heap TI (.ref i1) (.ref i2))(pO:IsPair s.heap TO a b)(n1:s.heap.IsTupleIter i1 t1 k)(n2:s.heap.IsTupleIter i2 t2 k)(x1:s.heap.IsTuple t1 us)(x2:s.heap.IsTuple t2 vs)(he:us[k]?=none∨vs[k]?=none)(q:∀g e,(∀c o,c≠z→c≠TO→c≠i1→c≠i2→s.heap.get? c=some o→g.get? c=some o)→(∃o,g.get? e=some o∧o.cls=.type "StopIteration")→E (.ref e) {s with heap:=g}):
  wpAny (model P w) A (Builtin.«zip.__next__» ⟨[.ref z],[]⟩) Q E s:=by
 show wpAny _ _ (field (.ref z) 2 >>= fun _=>_) _ _ _;refine aa (AZ zz rfl (x:=.bool false) rfl ?_);show wpAny _ _ (field (.ref z) 3 >>= fun _=>_) _ _ _;refine aa (AZ zz rfl (x:=.ref TI) rfl (aa (Bb pI rfl ?_)));show wpAny _ _ (Builtin.SmallTypes.ownedTupleIsFree (.ref z) >>= fun _=>_) _ _ _;refine aa ?_;unfold Builtin.SmallTypes.ownedTupleIsFree;refine wpAny_bind (wpAny_field zz rfl (x:=.none) rfl (wpAny_pure ?_));simp only[if_true];refine wpAny_bind (wpAny_rule (wpAny_bind (wpAny_field zz rfl (x:=.ref TO) rfl (wpAny_bind (wpAny_setField_rec zz (by simp) fun b1 w1 f1=>?_)))))
 replace w1:IsZip b1 z TI TO .ellipsis:=w1
 refine wpAny_bind ?_;simp only[List.zipIdx_cons,List.zipIdx_nil,List.forIn_cons,List.forIn_nil];refine aa (aa (wpAny_onRaise ?_));show wpAny _ _ (Builtin.SmallTypes.nextOf (.ref i1) >>= fun _=>_) _ _ _;cases hu:us[k]? with
 |none=>
  refine aa (P3 hA (n1.extBut f1.extBut D.i1z) (x1.extBut f1.extBut D.l1z) hu fun b2 e f2 C0=>?_);obtain⟨oe,ge,ce⟩:=C0;have w2:IsZip b2 z TI TO .ellipsis:=f2 _ _ D.i1z.symm w1;have ez:e≠z:=fun y=>by subst y;rw[w2]at ge;cases ge;simp at ce
  exact wpAny_setField_rec w2 (by simp) fun b3 _ f3=>q b3 e (fun c o c1 _ c3 _ y=>f3.extBut _ _ c1 (f2 _ _ c3 (f1.extBut _ _ c1 y))) ⟨oe,f3.extBut _ _ ez ge,ce⟩
 |some u=>
  have hv:vs[k]?=none:=he.elim (fun y=>by rw[hu]at y;cases y) (fun y=>y);refine aa (Ug (n1.extBut f1.extBut D.i1z) (x1.extBut f1.extBut D.l1z) hu fun b2 m1 f2=>aq ?_);have o2:IsPair b2 TO a b:=f2.extBut _ _ D.TOi1 (f1.extBut _ _ D.TOz pO);refine aa (Bb o2 rfl (aa (wpAny_updateSeq_pair o2 fun b3 o3 f3=>aa (wpAny_letGo (aq ?_)))));refine aa (aa (wpAny_onRaise ?_));show wpAny _ _ (Builtin.SmallTypes.nextOf (.ref i2) >>= fun _=>_) _ _ _;refine aa (P3 hA (((n2.extBut f1.extBut D.i2z).extBut f2.extBut D.i12.symm).extBut f3.extBut D.TOi2.symm) (((x2.extBut f1.extBut D.l2z).extBut f2.extBut D.l2i1).extBut f3.extBut D.l2TO) hv fun b4 e f4 C0=>?_);obtain⟨oe,ge,ce⟩:=C0;have w4:IsZip b4 z TI TO .ellipsis:=f4 _ _ D.i2z.symm (f3.extBut _ _ D.TOz.symm (f2.extBut _ _ D.i1z.symm w1));have ez:e≠z:=fun y=>by subst y;rw[w4]at ge;cases ge;simp at ce
  exact wpAny_setField_rec w4 (by simp) fun b5 _ f5=>q b5 e (fun c o c1 c2 c3 c4 y=>f5.extBut _ _ c1 (f4 _ _ c4 (f3.extBut _ _ c2 (f2.extBut _ _ c3 (f1.extBut _ _ c1 y))))) ⟨oe,f5.extBut _ _ ez ge,ce⟩
theorem lw{z TI TO i1 i2 t1 t2:Addr}{k:Nat}{us vs:Array Value}{u v a b:Value}{Q:Option Value→Shared→Prop}(D:ZipApart z TI TO i1 i2 t1 t2)(zz:IsZip s.heap z TI TO .none)(pI:IsPair s.heap TI (.ref i1) (.ref i2))(pO:IsPair s.heap TO a b)(n1:s.heap.IsTupleIter i1 t1 k)(n2:s.heap.IsTupleIter i2 t2 k)(x1:s.heap.IsTuple t1 us)(x2:s.heap.IsTuple t2 vs)(hu:us[k]?=some u)(hv:vs[k]?=some v)(q:∀g,IsZip g z TI TO (rawInt s.heap.objs.size)→IsPair g TO u v→g.IsTupleIter i1 t1 (k+1)→g.IsTupleIter i2 t2 (k+1)→IsPair g s.heap.objs.size u v→
   (∀c o,c≠z→c≠TO→c≠i1→c≠i2→s.heap.get? c=some o→g.get? c=some o)→Q (some (.ref s.heap.objs.size)) {s with heap:=g}):wpAny (model P w) A (pyNext (.ref z)) Q E s:=by
 have ty:s.TypeIs (.ref z) "zip":=⟨_,zz,rfl⟩;unfold pyNext;exact aa (wpAny_attempt (A7 (name:=Str.ofString "__next__") ty Bd (AY Bd ty Cq (uq D zz pI pO n1 n2 x1 x2 hu hv fun g a1 a2 a3 a4 a5 a6=>aq (q g a1 a2 a3 a4 a5 a6)) (Ck _))))
theorem pN{z TI TO i1 i2 t1 t2:Addr}{k:Nat}{us vs:Array Value}{a b:Value}{Q:Option Value→Shared→Prop}(hA:A.handled=none)(D:ZipApart z TI TO i1 i2 t1 t2)(zz:IsZip s.heap z TI TO .none)(pI:IsPair s.heap TI (.ref i1) (.ref i2))(pO:IsPair s.heap TO a b)(n1:s.heap.IsTupleIter i1 t1 k)(n2:s.heap.IsTupleIter i2 t2 k)(x1:s.heap.IsTuple t1 us)(x2:s.heap.IsTuple t2 vs)(he:us[k]?=none∨vs[k]?=none)(q:∀g,(∀c o,c≠z→c≠TO→c≠i1→c≠i2→s.heap.get? c=some o→g.get? c=some o)→Q none {s with heap:=g}):wpAny (model P w) A (pyNext (.ref z)) Q E s:=by
 have ty:s.TypeIs (.ref z) "zip":=⟨_,zz,rfl⟩;unfold pyNext;refine aa (wpAny_attempt (A7 (name:=Str.ofString "__next__") ty Bd (AY Bd ty Cq (yA hA D zz pI pO n1 n2 x1 x2 he fun g e kk ⟨o,go,co⟩=>?_) (Ck _))));exact aa (CH (T:="StopIteration") (b:=true) ⟨o,go,co⟩ isSubtype_stop (aq (q _ kk)))
abbrev zt1(h:Heap)(t1:Addr):Heap:=h.push {cls:=.type "tuple_iterator",data:=.fields #[.ref t1,.int 0 0]}
abbrev zt2(h:Heap)(t1 t2:Addr):Heap:=(zt1 h t1).push {cls:=.type "tuple_iterator",data:=.fields #[.ref t2,.int 0 0]}
abbrev zt3(h:Heap)(t1 t2:Addr):Heap:=(zt2 h t1 t2).push {cls:=.type "tuple",data:=.seq #[.ref h.objs.size,.ref (zt1 h t1).objs.size]}
abbrev zt4(h:Heap)(t1 t2:Addr):Heap:=(zt3 h t1 t2).push {cls:=.type "tuple",data:=.seq #[.none,.none]}
abbrev zt5(h:Heap)(t1 t2:Addr):Heap:=(zt4 h t1 t2).push {cls:=.type "zip",data:=.fields #[.none,.bool false,.bool false,.ref (zt2 h t1 t2).objs.size,.ref (zt3 h t1 t2).objs.size]}
theorem re(t1 t2:Addr)(us vs:Array Value):Meets (Builtin.«zip.__new__» ⟨[.type "zip",.ref t1,.ref t2],[]⟩) (fun _ R s=>s.heap.IsTuple t1 us∧s.heap.IsTuple t2 vs∧R (.ok (.ret (.ref (zt4 s.heap t1 t2).objs.size))) {s with heap:=zt5 s.heap t1 t2}):=
 .of_wp fun prog w A R s h=>by
  obtain⟨hp,g,d,tk,os⟩:=s;obtain⟨y1,y2,h⟩:=h;have hsub:=sub_zip;have Y1:Heap.IsTuple (Shared.heap ⟨hp,g,d,tk,os⟩) t1 us:=y1;have Y2:Heap.IsTuple (Shared.heap ⟨hp.push {cls:=.type "tuple_iterator",data:=.fields #[.ref t1,.int 0 0]},g,d,tk,os⟩) t2 vs:=Heap.IsTuple.push y2 _
  wp_walk using wpAny_pyIter_tuple Y1,wpAny_pyIter_tuple Y2
  exact⟨_,rfl,h⟩
theorem uK{t1 t2:Addr}{us vs:Array Value}{Q:Value→Shared→Prop}(y1:s.heap.IsTuple t1 us)(y2:s.heap.IsTuple t2 vs)(q:∀g,IsZip g (s.heap.objs.size+4) (s.heap.objs.size+2) (s.heap.objs.size+3) .none→IsPair g (s.heap.objs.size+2) (.ref s.heap.objs.size) (.ref (s.heap.objs.size+1))→IsPair g (s.heap.objs.size+3) .none .none→
   g.IsTupleIter s.heap.objs.size t1 0→g.IsTupleIter (s.heap.objs.size+1) t2 0→(∀c o,s.heap.get? c=some o→g.get? c=some o)→Q (.ref (s.heap.objs.size+4)) {s with heap:=g}):
  wpAny (model P w) A (call (.type "zip") [.ref t1,.ref t2]) Q E s:=by
 refine callType_new PySem.F.called_zip (by decide) (PySem.F.typeCall_zip_2 _ _) (PySem.F.newCall_zip_2 _ _) (fun obj=>PySem.F.args_object_init_3 obj _ _) PySem.F.entry_zip_new (re t1 t2 us vs) ⟨y1,y2,?_⟩;have l1:(zt1 s.heap t1).objs.size=s.heap.objs.size+1:=Bt ..;have l2:(zt2 s.heap t1 t2).objs.size=s.heap.objs.size+2:=by rw[Bt,l1]
 have l3:(zt3 s.heap t1 t2).objs.size=s.heap.objs.size+3:=by rw[Bt,l2]
 have l4:(zt4 s.heap t1 t2).objs.size=s.heap.objs.size+4:=by rw[Bt,l3]
 have up:∀{h:Heap}{o o':Obj}{c:Addr},h.get? c=some o→(h.push o').get? c=some o:=fun e=>af _ e;have e5:(zt5 s.heap t1 t2).get? (zt4 s.heap t1 t2).objs.size=some _:=pi _ rfl;have e4:(zt5 s.heap t1 t2).get? (zt3 s.heap t1 t2).objs.size=some _:=up (pi _ rfl);have e3:(zt5 s.heap t1 t2).get? (zt2 s.heap t1 t2).objs.size=some _:=up (up (pi _ rfl));have e2:(zt5 s.heap t1 t2).get? (zt1 s.heap t1).objs.size=some _:=up (up (up (pi _ rfl)));have e1:(zt5 s.heap t1 t2).get? s.heap.objs.size=some _:=up (up (up (up (pi _ rfl))));show _∧_;rw[l2,l3,l4]at e5;rw[l1,l2]at e3;rw[l3]at e4;rw[l1]at e2;rw[l4];exact⟨⟨_,e5,rfl⟩,q _ e5 e3 e4 ⟨_,e1,rfl,rfl⟩ ⟨_,e2,rfl,rfl⟩ fun c o y=>up (up (up (up (up y))))⟩
end
def wt(K:W.Frag)(a b:Addr):It:=
 ⟨fun i H=>∃xs ys x y,SqT K H a xs∧SqT K H b ys∧xs[i]?=some x∧ys[i]?=some y,
  fun i H u H'=>∃T x y,u=.ref T∧H T=none∧H'=upd H T (.tup [x,y])∧∀xs ys,SqT K H a xs→SqT K H b ys→xs[i]?=some x∧ys[i]?=some y,
  fun i H=>∃xs ys,SqT K H a xs∧SqT K H b ys∧(xs.length≤i∨ys.length≤i)⟩
abbrev ztTn(z TI TO i1 i2 l1 l2:Addr):Nat→Heap→Prop:=fun i h=>IsZip h z TI TO .none∧IsPair h TI (.ref i1) (.ref i2)∧(∃a b,IsPair h TO a b)∧h.IsTupleIter i1 l1 i∧h.IsTupleIter i2 l2 i
theorem vC{P:Program}{w:World}{K:W.Frag}{elts:List Expr}{k:Nat}{pos:Pos}{z TI TO i1 i2 l1 l2:Addr}(D:ZipApart z TI TO i1 i2 l1 l2):Turn P w K (.Tuple elts k pos) (wt K l1 l2) [z,TI,TO,i1,i2] z (ztTn z TI TO i1 i2 l1 l2) where
 mem:=by simp
 obj:=fun i h st b hb=>by
  obtain⟨hz,hTI,⟨a',b',hTO⟩,⟨o1,e1,c1,d1⟩,o2,e2,c2,d2⟩:=st;simp only[List.mem_cons,List.not_mem_nil,or_false]at hb
  rcases hb with rfl | rfl | rfl | rfl | rfl
  ·exact⟨_,hz,fun v q=>(nomatch q)⟩
  ·exact⟨_,hTI,fun v q=>(nomatch q)⟩
  ·exact⟨_,hTO,fun v q=>(nomatch q)⟩
  ·exact⟨o1,e1,fun v q=>by rw[d1]at q;cases q⟩
  ·exact⟨o2,e2,fun v q=>by rw[d2]at q;cases q⟩
 keep:=fun i h h' st kk=>by
  obtain⟨hz,hTI,⟨a,b,hTO⟩,h1,h2⟩:=st;exact⟨kk z (by simp) _ hz,kk TI (by simp) _ hTI,⟨a,b,kk TO (by simp) _ hTO⟩,h1.at fun o e=>kk i1 (by simp) o e,h2.at fun o e=>kk i2 (by simp) o e⟩
 item:=by
  intro X hP hw hK hc i CZ s σ H E I hf st hg;subst hP hw hK;obtain⟨xs,ys,x,y,hq1,hq2,hx,hy⟩:=hg;obtain⟨its1,rv1,p1,hz1⟩:=I.tuple hq1;obtain⟨its2,rv2,p2,hz2⟩:=I.tuple hq2;obtain⟨u,hu,ru⟩:=rv1.get hx;obtain⟨v,hv,rv⟩:=rv2.get hy;obtain⟨hz,hTI,⟨a,b,hTO⟩,h1,h2⟩:=st;refine lw D hz hTI hTO h1 h2 p1 p2 (u:=u) (v:=v) (by simpa using hu) (by simpa using hv) fun h' a1 a2 a3 a4 a5 hk=>?_;refine⟨_,rfl,?_⟩;refine wpAny_letOwnedTupleGo_zip (s:={s with heap:=h'}) a1 fun h2' z' sb=>?_;have lt:∀{c o},s.heap.get? c=some o→c≠s.heap.objs.size:=fun e=>Ac (az e);have Tz:s.heap.objs.size≠z:=Ne.symm (lt hz);have l1':i1≠s.heap.objs.size:=by obtain⟨o,e,_⟩:=h1;exact lt e
  have l2':i2≠s.heap.objs.size:=by obtain⟨o,e,_⟩:=h2;exact lt e
  refine⟨.ref s.heap.objs.size,upd H s.heap.objs.size (.tup [x,y]),?_,rfl,⟨s.heap.objs.size,x,y,rfl,I.hok.fresh (io _),rfl,fun xs' ys' e1 e2=>?_⟩,?_,fun b hb=>?_⟩
  ·refine I.zipped (t':=s.toks) (ch:=[z,TI,TO,i1,i2]) (fun b o hb e=>?_) hf (io _) ⟨by show(2:Nat)≤sizeLine;decide,[u,v],.cons ru (.cons rv .nil),?_⟩
   ·simp only[List.mem_cons,List.not_mem_nil,or_false,not_or]at hb;obtain⟨b1,b2,b3,b4,b5⟩:=hb;exact sb.extBut _ _ b1 (hk b o b1 b3 b4 b5 e)
   ·exact⟨_,sb.extBut _ _ Tz a5,⟨rfl,rfl⟩,_,rfl⟩
  ·rw[I.tuple_inj e1 hq1,I.tuple_inj e2 hq2];exact⟨hx,hy⟩
  ·exact⟨z',sb.extBut _ _ D.TIz (hk _ _ D.TIz D.TITO D.TIi1 D.TIi2 hTI),⟨_,_,sb.extBut _ _ D.TOz a2⟩,a3.extBut sb.extBut D.i1z,a4.extBut sb.extBut D.i2z⟩
  ·have bn:b≠s.heap.objs.size:=by
    simp only[List.mem_cons,List.not_mem_nil,or_false]at hb
    rcases hb with rfl | rfl | rfl | rfl | rfl
    ·exact lt hz
    ·exact lt hTI
    ·exact lt hTO
    ·exact l1'
    ·exact l2'
   rw[Za bn];exact(hf b hb).1
 done:=by
  intro X hP hw hK hc i CZ s σ H E I hf st hg;subst hP hw hK;obtain⟨xs,ys,hq1,hq2,hx⟩:=hg;obtain⟨its1,rv1,p1,hz1⟩:=I.tuple hq1;obtain⟨its2,rv2,p2,hz2⟩:=I.tuple hq2;obtain⟨hz,hTI,⟨a,b,hTO⟩,h1,h2⟩:=st;have e1:=rv1.length;have e2:=rv2.length;refine pN (I.ok.hd hc) D hz hTI hTO h1 h2 p1 p2 ?_ fun h' hk=>⟨rfl,I.turnedL (t':=s.toks) (ch:=[z,TI,TO,i1,i2]) (fun b o hb e=>?_) hf⟩
  ·rcases hx with hx | hx
   ·exact .inl (by simp;omega)
   ·exact .inr (by simp;omega)
  ·simp only[List.mem_cons,List.not_mem_nil,or_false,not_or]at hb;obtain⟨b1,b2,b3,b4,b5⟩:=hb;exact hk b o b1 b3 b4 b5 e
 self:=fun _ _ _ _ _ st h=>CG st.1 h
def zQ(K:W.Frag)(ta:TA):TI:=fun σ H R=>ta σ H fun vs H1=>∃a b,vs=[.ref a,.ref b]∧(∃xs,SqT K H1 a xs)∧(∃ys,SqT K H1 b ys)∧R (wt K a b) H1
theorem u8{X:Cx}{elts:List Expr}{n:Nat}{tp:Pos}{a b:Expr}{ta:TA}{p pos:Pos}(hg:Gl X "zip")(hm:X.mg "zip"=none)(ha:PA X [a,b] ta)(hs:starEach [a,b] X.env=[(false,eval a X.env),(false,eval b X.env)]:=by rfl)(hs2:starEach [b] X.env=[(false,eval b X.env)]:=by rfl):
  PI X (.Tuple elts n tp) (.Call (.Name "zip" p) [a,b] [] pos) (zQ X.K ta):=by
 intro CZ s σ H R I h;refine Call_ (U2 I hg hm boot_zip (Be (thn (ha pos CZ s σ H _ I h) fun us s1 ⟨vs,H1,I1,r1,q1⟩=>?_) (by rw[hs,hs2]) (by rw[hs2];rfl)));obtain⟨l1,l2,e,⟨xs,hq1⟩,⟨ys,hq2⟩,q⟩:=q1;subst e;cases r1 with
 |cons r rr=>
  cases rr with
  |cons r' rr=>
   cases rr;cases r;cases r';obtain⟨its1,rv1,p1,hz1⟩:=I1.tuple hq1;obtain⟨its2,rv2,p2,hz2⟩:=I1.tuple hq2;have lt1:l1<s1.heap.objs.size:=by obtain⟨o,e,_⟩:=p1;exact az e
   have lt2:l2<s1.heap.objs.size:=by obtain⟨o,e,_⟩:=p2;exact az e
   have D:ZipApart (s1.heap.objs.size+4) (s1.heap.objs.size+2) (s1.heap.objs.size+3) s1.heap.objs.size (s1.heap.objs.size+1) l1 l2:=by constructor <;> (unfold Addr at *;omega)
   refine uK p1 p2 fun h' c1 c2 c3 c4 c5 hk=>?_;refine CG (s:={s1 with heap:=h'}) c1 ?_;refine⟨_,[_,_,_,_,_],_,_,H1,rfl,I1.kept (t':=s1.toks) hk,vC D,⟨c1,c2,⟨_,_,c3⟩,c4,c5⟩,fun b hb=>?_,q⟩;have hb':s1.heap.objs.size≤b:=by
    simp only[List.mem_cons,List.not_mem_nil,or_false]at hb
    rcases hb with rfl | rfl | rfl | rfl | rfl
    ·exact A8 _ _
    ·exact A8 _ _
    ·exact A8 _ _
    ·exact io _
    ·exact A8 _ _
   exact I1.fpOk hb' (I1.hok.fresh hb')
theorem pE{K:W.Frag}{a b:Addr}{xs zs:List V}{k:Nat}{g:TG}{tt:TT}{te:TE}{σ:St}{H:Hp}{Q:VK}(Pv:Nat→List V→Hp→Prop)(h0:Pv 0 [] H)(hl:∀i ys H,i≤min xs.length zs.length→Pv i ys H→SqT K H a xs∧SqT K H b zs)(hs:∀i x z ys H (T:Addr) (C:List V→Hp→Prop),xs[i]?=some x→zs[i]?=some z→Pv i ys H→H T=none→(∀ys' H',Pv (i+1) ys' H'→C ys' H')→ys.length<sizeLine∧g (.ref T) (List.replicate k none++σ) (upd H T (.tup [x,z])) fun σ2 H2=>Wk σ2 (List.replicate k none++σ)∧tt σ2 H2 fun ok H3=>
   if ok=true then te σ2 H3 fun y H4=>C (ys++[y]) H4 else C ys H3)(De:∀i ys H,i<min xs.length zs.length→Pv i ys H→ys.length<sizeLine)(hd:∀ys H,Pv (min xs.length zs.length) ys H→ys.length≤sizeLine∧∀p,H p=none→Q (.ref p) (upd H p (.lst ys))):
  CompR (wt K a b) H k g tt te σ Q:=by
 refine⟨fun i m ys H=>m=min xs.length zs.length-i∧i≤min xs.length zs.length∧Pv i ys H,⟨min xs.length zs.length,by simp,Nat.zero_le _,h0⟩,?_⟩;rintro i m ys H ⟨rfl,hi,p⟩;obtain⟨q1,q2⟩:=hl i ys H hi p;by_cases C5:i<min xs.length zs.length
 ·refine .inr ⟨⟨xs,zs,xs[i]'(by omega),zs[i]'(by omega),q1,q2,Ak _,Ak _⟩,De i ys H C5 p,?_⟩;rintro _ _ ⟨T,x,z,rfl,nT,rfl,hy⟩;obtain⟨e1,e2⟩:=hy xs zs q1 q2;exact(hs i x z ys H T (fun ys' H'=>∃m',m'<min xs.length zs.length-i∧m'=min xs.length zs.length-(i+1)∧i+1≤min xs.length zs.length∧Pv (i+1) ys' H') e1 e2 p nT (fun ys' H' h=>⟨_,by omega,rfl,C5,h⟩)).2
 ·have e:i=min xs.length zs.length:=Nat.le_antisymm hi (Nat.le_of_not_lt C5);subst e;exact .inl ⟨⟨xs,zs,q1,q2,by omega⟩,hd ys H p⟩
abbrev kT(h:Heap)(z TI TO a:Addr)(f:Bool):Prop:=
 h.get? z=some {cls:=.type "zip",dict:=none,data:=.fields #[rawInt a,.bool f,.bool false,.ref TI,.ref TO],slots:=#[]}
section
variable{P:Program}{w:World}{A:Around}{E:Value→Shared→Prop}{s:Shared}
theorem mI{z TI TO a:Addr}{f:Bool}{oa:Obj}{R:Bool→Shared→Prop}(zz:kT s.heap z TI TO a f)(ga:s.heap.get? a=some oa)(q:∀g,kT g z TI TO a true→Heap.SameBut z s.heap g→R false {s with heap:=g}):
  wpAny (model P w) A (Builtin.SmallTypes.ownedTupleIsFree (.ref z)) R E s:=by
 unfold Builtin.SmallTypes.ownedTupleIsFree;refine aa (AZ zz rfl (x:=rawInt a) rfl ?_);show wpAny _ _ (loadIfAlive ((a:Int).toNat) >>= fun _=>_) _ _ _;rw[Int.toNat_natCast];refine aa (W.kdx_alive ga ?_);simp only[Option.isNone_some,Bool.false_eq_true,if_false];refine aa (AZ zz rfl (x:=.bool f) rfl ?_);cases f with
 |true=>
  rw[Aj (show ¬((Value.bool true != Value.bool true)=true)from Al)];exact aq (q _ zz (Heap.SameBut.refl _ _))
 |false=>
  rw[Ah (show(Value.bool false != Value.bool true)=true from rfl)];exact wpAny_bind (wpAny_setField_rec zz (by simp) fun h3 he3 hs3=>wpAny_pure (q _ he3 hs3))
theorem uB{z TI TO i1 i2 l1 l2 a:Addr}{f:Bool}{oa:Obj}{k:Nat}{us vs:Array Value}{u v:Value}{Q:Value→Shared→Prop}(D:ZipApart z TI TO i1 i2 l1 l2)(zz:kT s.heap z TI TO a f)(ga:s.heap.get? a=some oa)(pI:IsPair s.heap TI (.ref i1) (.ref i2))(n1:s.heap.IsListIter i1 l1 k)(n2:s.heap.IsListIter i2 l2 k)(x1:s.heap.IsList l1 us)(x2:s.heap.IsList l2 vs)(hu:us[k]?=some u)(hv:vs[k]?=some v)(q:∀g,kT g z TI TO a true→g.IsListIter i1 l1 (k+1)→g.IsListIter i2 l2 (k+1)→IsPair g s.heap.objs.size u v→g.objs.size=s.heap.objs.size+1→
   (∀c o,c≠z→c≠i1→c≠i2→s.heap.get? c=some o→g.get? c=some o)→Q (.ref s.heap.objs.size) {s with heap:=g}):
  wpAny (model P w) A (Builtin.«zip.__next__» ⟨[.ref z],[]⟩) (fun fin s'=>∃r,fin=.done (.ret r)∧Q r s') E s:=by
 show wpAny _ _ (field (.ref z) 2 >>= fun _=>_) _ _ _;refine aa (AZ zz rfl (x:=.bool false) rfl ?_);show wpAny _ _ (field (.ref z) 3 >>= fun _=>_) _ _ _;refine aa (AZ zz rfl (x:=.ref TI) rfl (aa (Bb pI rfl ?_)));show wpAny _ _ (Builtin.SmallTypes.ownedTupleIsFree (.ref z) >>= fun _=>_) _ _ _;refine aa (mI zz ga fun b1 w1 f1=>?_);simp only[Bool.false_eq_true,if_false,←Array.forIn_toList,List.forIn_cons,List.forIn_nil];refine aa (aa (aa (AS ?_)));show wpAny _ _ (Builtin.SmallTypes.nextOf (.ref i1) >>= fun _=>_) _ _ _;refine aa (wpAny_nextOf_list_item (n1.extBut f1.extBut D.i1z) (x1.extBut f1.extBut D.l1z) hu fun b2 m1 f2=>aq (aq ?_));refine aa (aa (AS ?_));show wpAny _ _ (Builtin.SmallTypes.nextOf (.ref i2) >>= fun _=>_) _ _ _;refine aa (wpAny_nextOf_list_item ((n2.extBut f1.extBut D.i2z).extBut f2.extBut D.i12.symm) ((x2.extBut f1.extBut D.l2z).extBut f2.extBut D.l2i1) hv fun b3 m2 f3=>aq (aq (aq ?_)));show wpAny _ _ (newTuple [u,v] >>= fun _=>_) _ _ _;have sz:b3.objs.size=s.heap.objs.size:=by rw[f3.1,f2.1,f1.1]
 refine aa (wpAny_newTuple ?_);have w3:kT b3 z TI TO a true:=f3.extBut _ _ D.i2z.symm (f2.extBut _ _ D.i1z.symm w1);refine aq ⟨_,rfl,?_⟩;show Q (.ref b3.objs.size) _;rw[sz];refine q _ (af _ w3) ((m1.extBut f3.extBut D.i12).at fun o e=>af _ e) (m2.at fun o e=>af _ e) (by rw[←sz];exact pi _ rfl) (by rw[Bt,sz]) fun c o c1 c2 c3 e=>?_;exact af _ (f3.extBut _ _ c3 (f2.extBut _ _ c2 (f1.extBut _ _ c1 e)))
theorem wp{z TI TO i1 i2 l1 l2 a:Addr}{f:Bool}{oa:Obj}{k:Nat}{us vs:Array Value}{Q:Fin→Shared→Prop}(hA:A.handled=none)(D:ZipApart z TI TO i1 i2 l1 l2)(zz:kT s.heap z TI TO a f)(ga:s.heap.get? a=some oa)(pI:IsPair s.heap TI (.ref i1) (.ref i2))(n1:s.heap.IsListIter i1 l1 k)(n2:s.heap.IsListIter i2 l2 k)(x1:s.heap.IsList l1 us)(x2:s.heap.IsList l2 vs)(he:us[k]?=none∨vs[k]?=none)(q:∀g e,(∀c o,c≠z→c≠i1→c≠i2→s.heap.get? c=some o→g.get? c=some o)→(∃o,g.get? e=some o∧o.cls=.type "StopIteration")→E (.ref e) {s with heap:=g}):
  wpAny (model P w) A (Builtin.«zip.__next__» ⟨[.ref z],[]⟩) Q E s:=by
 show wpAny _ _ (field (.ref z) 2 >>= fun _=>_) _ _ _;refine aa (AZ zz rfl (x:=.bool false) rfl ?_);show wpAny _ _ (field (.ref z) 3 >>= fun _=>_) _ _ _;refine aa (AZ zz rfl (x:=.ref TI) rfl (aa (Bb pI rfl ?_)));show wpAny _ _ (Builtin.SmallTypes.ownedTupleIsFree (.ref z) >>= fun _=>_) _ _ _;refine aa (mI zz ga fun b1 w1 f1=>?_);simp only[Bool.false_eq_true,if_false,←Array.forIn_toList,List.forIn_cons,List.forIn_nil];refine aa (aa (aa (AS ?_)));show wpAny _ _ (Builtin.SmallTypes.nextOf (.ref i1) >>= fun _=>_) _ _ _;cases hu:us[k]? with
 |none=>
  exact aa (wpAny_nextOf_list_end hA (n1.extBut f1.extBut D.i1z) (x1.extBut f1.extBut D.l1z) hu fun b2 e f2 hp=>q b2 e (fun c o c1 c3 _ y=>f2 _ _ c3 (f1.extBut _ _ c1 y)) hp)
 |some u=>
  have hv:vs[k]?=none:=he.elim (fun y=>by rw[hu]at y;cases y) (fun y=>y);refine aa (wpAny_nextOf_list_item (n1.extBut f1.extBut D.i1z) (x1.extBut f1.extBut D.l1z) hu fun b2 m1 f2=>aq (aq ?_));refine aa (aa (AS ?_));show wpAny _ _ (Builtin.SmallTypes.nextOf (.ref i2) >>= fun _=>_) _ _ _;exact aa (wpAny_nextOf_list_end hA ((n2.extBut f1.extBut D.i2z).extBut f2.extBut D.i12.symm) ((x2.extBut f1.extBut D.l2z).extBut f2.extBut D.l2i1) hv fun b4 e f4 hp=>q b4 e (fun c o c1 c3 c4 y=>f4 _ _ c4 (f2.extBut _ _ c3 (f1.extBut _ _ c1 y))) hp)
structure ZSt(h:Heap)(z TI TO i1 i2 l1 l2 S:Addr)(us vs:Array Value)(i:Nat):Prop where
 own:(IsZip h z TI TO .none∧∃a b,IsPair h TO a b)∨∃a f oa,kT h z TI TO a f∧h.get? a=some oa∧a≠z∧a≠i1∧a≠i2∧a≠S
 pI:IsPair h TI (.ref i1) (.ref i2)
 n1:h.IsListIter i1 l1 i
 n2:h.IsListIter i2 l2 i
 x1:h.IsList l1 us
 x2:h.IsList l2 vs
theorem ZSt.keep{h h':Heap}{z TI TO i1 i2 l1 l2 S:Addr}{us vs:Array Value}{i:Nat}(x:ZSt h z TI TO i1 i2 l1 l2 S us vs i)(hk:∀b o,b≠S→h.get? b=some o→h'.get? b=some o)(z1:z≠S)(z2:TI≠S)(z3:TO≠S)(z4:i1≠S)(z5:i2≠S)(z6:l1≠S)(z7:l2≠S):ZSt h' z TI TO i1 i2 l1 l2 S us vs i:=by
 obtain⟨own,pI,n1,n2,x1,x2⟩:=x;refine⟨?_,hk _ _ z2 pI,n1.at fun o e=>hk _ o z4 e,n2.at fun o e=>hk _ o z5 e,x1.at fun o e=>hk _ o z6 e,x2.at fun o e=>hk _ o z7 e⟩
 rcases own with⟨zz,a,b,pO⟩|⟨a,f,oa,zz,ga,a1,a2,a3,a4⟩
 ·exact .inl ⟨hk _ _ z1 zz,a,b,hk _ _ z3 pO⟩
 ·exact .inr ⟨a,f,oa,hk _ _ z1 zz,hk _ _ a4 ga,a1,a2,a3,a4⟩
theorem uA{z TI TO i1 i2 l1 l2 S:Addr}{us vs:Array Value}{i:Nat}{u v:Value}{Q:Option Value→Shared→Prop}(D:ZipApart z TI TO i1 i2 l1 l2)(st:ZSt s.heap z TI TO i1 i2 l1 l2 S us vs i)(hS:S<s.heap.objs.size)(hu:us[i]?=some u)(hv:vs[i]?=some v)(q:∀g,ZSt g z TI TO i1 i2 l1 l2 S us vs (i+1)→IsPair g s.heap.objs.size u v→g.objs.size=s.heap.objs.size+1→(∀c o,c≠z→c≠TO→c≠i1→c≠i2→s.heap.get? c=some o→g.get? c=some o)→Q (some (.ref s.heap.objs.size)) {s with heap:=g}):
  wpAny (model P w) A (pyNext (.ref z)) Q E s:=by
 obtain⟨own,pI,n1,n2,x1,x2⟩:=st;have lt:∀{c o},s.heap.get? c=some o→s.heap.objs.size≠c:=fun e=>AF (az e);have e1:s.heap.objs.size≠i1:=by obtain⟨_,e,_⟩:=n1;exact lt e
 have e2:s.heap.objs.size≠i2:=by obtain⟨_,e,_⟩:=n2;exact lt e
 rcases own with⟨zz,a,b,pO⟩|⟨a,f,oa,zz,ga,a1,a2,a3,a4⟩
 ·refine wpAny_pyNext_zip_item D zz pI pO n1 n2 x1 x2 hu hv fun g c1 c2 c3 c4 c5 c6 hk=>q g ⟨.inr ⟨_,false,_,c1,c5,lt zz,e1,e2,AF hS⟩,hk _ _ D.TIz D.TITO D.TIi1 D.TIi2 pI,c3,c4,x1.at fun o e=>hk _ o D.l1z D.l1TO D.l1i1 D.l1i2 e,x2.at fun o e=>hk _ o D.l2z D.l2TO D.l2i1 D.l2i2 e⟩ c5 c6 hk
 ·have ty:s.TypeIs (.ref z) "zip":=⟨_,zz,rfl⟩;unfold pyNext;refine aa (wpAny_attempt (A7 (name:=Str.ofString "__next__") ty Bd (AY Bd ty Cq (uB D zz ga pI n1 n2 x1 x2 hu hv fun g c1 c3 c4 c5 c6 hk=>aq ?_) (Ck _))));exact q g ⟨.inr ⟨a,true,oa,c1,hk _ _ a1 a2 a3 ga,a1,a2,a3,a4⟩,hk _ _ D.TIz D.TIi1 D.TIi2 pI,c3,c4,x1.at fun o e=>hk _ o D.l1z D.l1i1 D.l1i2 e,x2.at fun o e=>hk _ o D.l2z D.l2i1 D.l2i2 e⟩ c5 c6 fun c o b1 _ b3 b4 e=>hk c o b1 b3 b4 e
theorem uk{z TI TO i1 i2 l1 l2 S:Addr}{us vs:Array Value}{i:Nat}{Q:Option Value→Shared→Prop}(hA:A.handled=none)(D:ZipApart z TI TO i1 i2 l1 l2)(st:ZSt s.heap z TI TO i1 i2 l1 l2 S us vs i)(he:us[i]?=none∨vs[i]?=none)(q:∀g,(∀c o,c≠z→c≠TO→c≠i1→c≠i2→s.heap.get? c=some o→g.get? c=some o)→Q none {s with heap:=g}):wpAny (model P w) A (pyNext (.ref z)) Q E s:=by
 obtain⟨own,pI,n1,n2,x1,x2⟩:=st
 rcases own with⟨zz,a,b,pO⟩|⟨a,f,oa,zz,ga,a1,a2,a3,a4⟩
 ·exact wpAny_pyNext_zip_end hA D zz pI pO n1 n2 x1 x2 he q
 ·have ty:s.TypeIs (.ref z) "zip":=⟨_,zz,rfl⟩;unfold pyNext;refine aa (wpAny_attempt (A7 (name:=Str.ofString "__next__") ty Bd (AY Bd ty Cq (wp hA D zz ga pI n1 n2 x1 x2 he fun g e kk ⟨o,go,co⟩=>?_) (Ck _))));exact aa (CH (T:="StopIteration") (b:=true) ⟨o,go,co⟩ isSubtype_stop (aq (q _ fun c o c1 _ c3 c4 e=>kk c o c1 c3 c4 e)))
structure ZG(us vs:Array Value)(S:Addr)(h:Heap)(as:List Addr):Prop where
 rise:as.Pairwise (·<·)
 above:∀a∈as,S<a
 pairs:∀(j:Nat)(a:Addr),as[j]?=some a→∃u v,us[j]?=some u∧vs[j]?=some v∧IsPair h a u v
theorem ZG.there{us vs:Array Value}{S:Addr}{h:Heap}{as:List Addr}(g:ZG us vs S h as){a:Addr}(ha:a∈as):a<h.objs.size:=by
 obtain⟨j,hj⟩:=Br.mp ha;obtain⟨_,_,_,_,e⟩:=g.pairs j a hj;exact az e
end
section
variable{P:Program}{w:World}{A:Around}{s:Shared}{R:Result→Shared→Prop}{us vs:Array Value}
theorem uf{z TI TO i1 i2 l1 l2 S:Addr}(hh:A.handled=none)(D:ZipApart z TI TO i1 i2 l1 l2)(z1:z<S)(z2:TI<S)(z3:TO<S)(z4:i1<S)(z5:i2<S)(z6:l1<S)(z7:l2<S)(hn:min us.size vs.size≤sizeLine)(res:Value){h₁:Heap}(hR:∀h' tk Db c as,(∀b o,b≠S→b≠z→b≠TO→b≠i1→b≠i2→h₁.get? b=some o→h'.get? b=some o)→h'.get? S=some {cls:=.type "list",dict:=none,data:=.seq Db c,slots:=#[]}→as.length=min us.size vs.size→ZG us vs S h' as→
   Db.toList=as.map Value.ref→R (.ok (.ret res)) {s with heap:=h',toks:=tk}):
  ∀(k i:Nat)(h:Heap)(tk c:Nat)(Db:Array Value)(as:List Addr),min us.size vs.size-i=k→i≤min us.size vs.size→ZSt h z TI TO i1 i2 l1 l2 S us vs i→(∀b o,b≠S→b≠z→b≠TO→b≠i1→b≠i2→h₁.get? b=some o→h.get? b=some o)→
   h.get? S=some {cls:=.type "list",dict:=none,data:=.seq Db c,slots:=#[]}→Db.toList=as.map Value.ref→as.length=i→ZG us vs S h as→
   codeAny (model P w) A (.builtin "list.extend.loop" ⟨[.ref S,.ref z,res],[]⟩) R {s with heap:=h,toks:=tk}:=by
 have up':∀{x b:Addr},x<S→S<b→b≠x:=fun h1 h2=>AF (Bl h1 h2);intro k
 induction k with
 |zero=>
  intro i h tk c Db as hk hi hst hkeep hS hacc hal hG;have hin:i=min us.size vs.size:=by omega
  have hend:us[i]?=none∨vs[i]?=none:=by
   rcases Nat.le_total us.size vs.size with h | h
   ·exact .inl (BG (by rw[hin,CN h];exact io _))
   ·exact .inr (BG (by rw[hin,Nat.min_eq_right h];exact io _))
  refine Bj PySem.F.entry_extend_loop ?_;rw[A4 Bo _];show wpAny _ A.in1 (pyNext (.ref z) >>= fun _=>_) _ _ _;refine aa (uk (s:={s with heap:=h,toks:=tk}) (A:=A.in1) hh D hst hend fun h' he=>?_);refine aq (hR h' tk Db c as (fun b o h1 h2 h3 h4 h5 e=>he b o h2 h3 h4 h5 (hkeep b o h1 h2 h3 h4 h5 e)) (he S _ (AF z1) (AF z3) (AF z4) (AF z5) hS) (by omega) ⟨hG.rise,hG.above,fun j a hj=>?_⟩ hacc);obtain⟨u,v,e1,e2,e3⟩:=hG.pairs j a hj;have ab:=hG.above a (Ai hj);exact⟨u,v,e1,e2,he a _ (up' z1 ab) (up' z3 ab) (up' z4 ab) (up' z5 ab) e3⟩
 |succ k ih=>
  intro i h tk c Db as hk hi hst hkeep hS hacc hal hG;have C5:i<min us.size vs.size:=by omega
  have hlu:i<us.size:=by omega
  have hlv:i<vs.size:=by omega
  have hsz:Db.size=i:=by rw[←Ax,hacc,ae,hal]
  have hSl:S<h.objs.size:=az hS;refine Bj PySem.F.entry_extend_loop ?_;rw[A4 Bo _];show wpAny _ A.in1 (pyNext (.ref z) >>= fun _=>_) _ _ _;refine aa (uA (s:={s with heap:=h,toks:=tk}) (S:=S) D hst hSl (Aw hlu) (Aw hlv) fun h' hst' ht hz hkp=>?_);dsimp only at ht hz hkp⊢;have hS':=hkp S _ (AF z1) (AF z3) (AF z4) (AF z5) hS;have up:∀b o,b≠S→h'.get? b=some o→(h'.update S (Obj.mapSeq (·.push (Value.ref h.objs.size)))).get? b=some o:=fun b o hb e=>(AW _ _ (Ne.symm hb)).trans e;show wpAny _ A.in1 (updateSeq S (·.push (Value.ref h.objs.size)) >>= fun _=>_) _ _ _;refine aa ?_;refine wpAny_updateSeq hS' rfl (aq ⟨BV Bo _,ih (i+1) _ tk _ (Db.push (Value.ref h.objs.size)) (as++[h.objs.size]) (by omega) C5 (hst'.keep up (Ac z1) (Ac z2) (Ac z3) (Ac z4) (Ac z5) (Ac z6) (Ac z7))
   (fun b o h1 h2 h3 h4 h5 e=>up b o h1 (hkp b o h2 h3 h4 h5 (hkeep b o h1 h2 h3 h4 h5 e))) (Bq _ hS' rfl) (by rw[Array.toList_push,hacc,ca];rfl) (by rw[ba,hal];rfl) ⟨?_,?_,?_⟩⟩) (by rw[hsz];omega) (by show(Db.push (Value.ref h.objs.size)).size≤sizeLine+1;rw[Array.size_push,hsz];omega)
  ·refine List.pairwise_append.mpr ⟨hG.rise,Ci _ _,fun a ha b hb=>?_⟩;rw[Af.mp hb];exact hG.there ha
  ·intro a ha
   rcases AI.mp ha with ha | ha
   ·exact hG.above a ha
   ·rw[Af.mp ha];exact hSl
  ·intro j b hj
   rcases Nat.lt_trichotomy j as.length with h1 | h1 | h1
   ·rw[List.getElem?_append_left h1]at hj;obtain⟨u,v,e1,e2,e3⟩:=hG.pairs j b hj;have hb:=hG.above b (Ai hj);exact⟨u,v,e1,e2,up b _ (AF hb) (hkp b _ (up' z1 hb) (up' z3 hb) (up' z4 hb) (up' z5 hb) e3)⟩
   ·subst h1;have hb:h.objs.size=b:=by simpa using hj
    subst hb;exact⟨us[i],vs[i],by rw[hal];exact Aw hlu,by rw[hal];exact Aw hlv,up _ _ (AF hSl) ht⟩
   ·have hnone:(as++[h.objs.size])[j]?=none:=Cv (by rw[ba,Cu];omega);rw[hnone]at hj;cases hj
end
theorem kA:typeLookup (.type "zip") "__len__"=pure none:=am_miss_of_fast (by decide +kernel)
theorem iH:typeLookup (.type "zip") "__length_hint__"=pure none:=am_miss_of_fast (by decide +kernel)
section
variable{P:Program}{w:World}{A:Around}{E:Value→Shared→Prop}{s:Shared}{us vs:Array Value}
theorem uC{z:Addr}(hT:s.TypeIs (.ref z) "zip"){Q:Bool→Shared→Prop}(h:Q true s):wpAny (model P w) A (Builtin.List.listLengthHint (.ref z)) Q E s:=by
 unfold Builtin.List.listLengthHint;refine aa (wpAny_specialOf hT kA ?_);dsimp only;refine wpAny_ite_split (fun hab=>absurd hab (by decide)) (fun _=>?_);refine wpAny_ite_split (fun hab=>absurd hab (by decide)) (fun _=>?_);refine aa (wpAny_specialOf hT iH ?_);exact aq h
theorem oW{z TI TO i1 i2 l1 l2 S:Addr}{R:Result→Shared→Prop}(hh:A.handled=none)(D:ZipApart z TI TO i1 i2 l1 l2)(z1:z<S)(z2:TI<S)(z3:TO<S)(z4:i1<S)(z5:i2<S)(z6:l1<S)(z7:l2<S)(zz:IsZip s.heap z TI TO .none)(pO:∃a b,IsPair s.heap TO a b)(pI:IsPair s.heap TI (.ref i1) (.ref i2))(n1:s.heap.IsListIter i1 l1 0)(n2:s.heap.IsListIter i2 l2 0)(x1:s.heap.IsList l1 us)(x2:s.heap.IsList l2 vs)(res:Value)(c₀:Nat)(hS:s.heap.get? S=some {cls:=.type "list",data:=.seq #[] c₀})(hR:∀h' tk Db c as,(∀b o,b≠S→b≠z→b≠TO→b≠i1→b≠i2→s.heap.get? b=some o→h'.get? b=some o)→h'.get? S=some {cls:=.type "list",dict:=none,data:=.seq Db c,slots:=#[]}→as.length=min us.size vs.size→ZG us vs S h' as→
   Db.toList=as.map Value.ref→R (.ok (.ret res)) {s with heap:=h',toks:=tk})(hn:min us.size vs.size≤sizeLine):
  wpAny (model P w) A.in1 (Builtin.List.listExtendWith (.ref S) (.ref z) res)
   (fun fin s'=>match fin with | .done f=>R (.ok f) s' | .again c'=>c'.quiet=true∧codeAny (model P w) A c' R s') (fun e s'=>R (.error e) s') s:=by
 have hT:s.TypeIs (.ref z) "zip":=⟨_,zz,rfl⟩;have key:∀(h:Heap)(c₁ tk:Nat),(∀b o,b≠S→s.heap.get? b=some o→h.get? b=some o)→h.get? S=some {cls:=.type "list",data:=.seq #[] c₁}→
   codeAny (model P w) A (.builtin "list.extend.loop" ⟨[.ref S,.ref z,res],[]⟩) R {s with heap:=h,toks:=tk}:=by
  intro h c₁ tk hk hS₁;obtain⟨a,b,pO⟩:=pO;have st:ZSt s.heap z TI TO i1 i2 l1 l2 S us vs 0:=⟨.inl ⟨zz,a,b,pO⟩,pI,n1,n2,x1,x2⟩;refine uf (s:=s) (h₁:=s.heap) (us:=us) (vs:=vs) hh D z1 z2 z3 z4 z5 z6 z7 hn res hR (min us.size vs.size) 0 h tk c₁ #[] [] (Nat.sub_zero _) (Bc _) (st.keep hk (Ac z1) (Ac z2) (Ac z3) (Ac z4) (Ac z5) (Ac z6) (Ac z7)) (fun b o hb _ _ _ _ e=>hk b o hb e) hS₁ rfl rfl
   ⟨List.Pairwise.nil,(fun _ ha=>nomatch ha),(fun j a hj=>by simp at hj)⟩
 unfold Builtin.List.listExtendWith;refine aa (Cn (T:="zip") hT ?_);have h1:Builtin.List.listSameRef (.ref S) (.ref z)=false:=by simp[Builtin.List.listSameRef,Nat.ne_of_gt z1]
 have h2:(Value.type "zip" == Value.type "list")=false:=by decide
 have h3:(Value.type "zip" == Value.type "tuple")=false:=by decide
 simp only[h1,h2,h3,Bool.or_false,Bool.false_eq_true,if_false];refine aa (CG zz ?_);refine aa (AS (uC hT ?_));refine wpAny_ite_split (fun _=>?_) (fun _=>aq ⟨BV Bo _,key _ c₀ _ (fun b o _ e=>e) hS⟩);refine aa (CO ?_);refine aa ?_;show wpAny _ _ (updateSeq S (·.push .none) >>= fun _=>updateSeq S (·.pop)) _ _ _;refine aa (wpAny_updateSeq hS rfl ?_);have hS₂:=Bq (Obj.mapSeq (·.push Value.none)) hS rfl;refine wpAny_updateSeq (hz:=by seq_fits) hS₂ rfl ?_;have hS₃:=Bq (Obj.mapSeq (·.pop)) hS₂ rfl;refine aq ⟨BV Bo _,key _ _ _ (fun b o hb e=>?_) hS₃⟩;exact(AW _ _ (Ne.symm hb)).trans ((AW _ _ (Ne.symm hb)).trans e)
theorem tJ{z TI TO i1 i2 l1 l2:Addr}{Q:Value→Shared→Prop}(hh:A.handled=none)(D:ZipApart z TI TO i1 i2 l1 l2)(zz:IsZip s.heap z TI TO .none)(pO:∃a b,IsPair s.heap TO a b)(pI:IsPair s.heap TI (.ref i1) (.ref i2))(n1:s.heap.IsListIter i1 l1 0)(n2:s.heap.IsListIter i2 l2 0)(x1:s.heap.IsList l1 us)(x2:s.heap.IsList l2 vs)(hQ:∀h' tk Db c as,(∀b o,b≠z→b≠TO→b≠i1→b≠i2→s.heap.get? b=some o→h'.get? b=some o)→h'.get? s.heap.objs.size=some {cls:=.type "list",dict:=none,data:=.seq Db c,slots:=#[]}→as.length=min us.size vs.size→ZG us vs s.heap.objs.size h' as→
   Db.toList=as.map Value.ref→Q (.ref s.heap.objs.size) {s with heap:=h',toks:=tk})(hn:min us.size vs.size≤sizeLine):
  wpAny (model P w) A (call (.type "list") [.ref z]) Q E s:=by
 refine callType_codes (Q₁:=fun obj s₁=>obj=.ref s.heap.objs.size∧s₁={s with heap:=s.heap.push {cls:=.type "list",data:=.seq #[]}}) PySem.F.called_list (PySem.F.typeCall_list_1 _) PySem.F.entry_list_init
  (code_list_new _ ⟨rfl,rfl⟩) fun obj s₁ h₁=>?_
 obtain⟨rfl,rfl⟩:=h₁;have hS:(s.heap.push {cls:=.type "list",data:=.seq #[]}).get? s.heap.objs.size=some {cls:=.type "list",data:=.seq #[]}:=pi _ rfl;have up:∀{c o o'},s.heap.get? c=some o→(s.heap.push o').get? c=some o:=fun e=>af _ e;obtain⟨a,b,pO⟩:=pO;refine⟨⟨_,hS,rfl⟩,PySem.F.args_list_init_2 _ _,?_⟩;show wpAny _ _ (do let old ←Builtin.List.listItems (.ref s.heap.objs.size);Builtin.List.listUpdate (.ref s.heap.objs.size) (fun _=>#[]);letGo old.toList.reverse;Builtin.List.listExtendWith (.ref s.heap.objs.size) (.ref z) .none) _ _ _;refine aa ?_;unfold Builtin.List.listItems;refine aa (Bb hS rfl (aq ?_));show wpAny _ _ (updateSeq s.heap.objs.size (fun _=>#[]) >>= fun _=>letGo (#[]:Array Value).toList.reverse >>= fun _=>Builtin.List.listExtendWith (.ref s.heap.objs.size) (.ref z) .none) _ _ _;refine aa (wpAny_updateSeq hS rfl ?_);have hS₂:=Bq (Obj.mapSeq (fun _=>(#[]:Array Value))) hS rfl;have oth:∀b o,s.heap.get? b=some o→((s.heap.push {cls:=.type "list",data:=.seq #[]}).update s.heap.objs.size (Obj.mapSeq (fun _=>(#[]:Array Value)))).get? b=some o:=
  fun b o e=>(AW _ _ (AF (az e))).trans (up e)
 refine aa (wpAny_letGo ?_);have l1':i1<s.heap.objs.size:=by obtain⟨_,e,_⟩:=n1;exact az e
 have l2':i2<s.heap.objs.size:=by obtain⟨_,e,_⟩:=n2;exact az e
 have l3':l1<s.heap.objs.size:=by obtain⟨_,e,_⟩:=x1;exact az e
 have l4':l2<s.heap.objs.size:=by obtain⟨_,e,_⟩:=x2;exact az e
 refine oW (us:=us) (vs:=vs) (A:=A.in1) hh D (az zz) (az pI) (az pO) l1' l2' l3' l4' (oth _ _ zz) ⟨a,b,oth _ _ pO⟩ (oth _ _ pI) (n1.at fun o e=>oth _ o e) (n2.at fun o e=>oth _ o e) (x1.at fun o e=>oth _ o e) (x2.at fun o e=>oth _ o e) .none _ hS₂ (fun h' tk Db c as hk hS' hl hG hacc=>?_) hn;exact⟨rfl,hQ h' tk Db c as (fun b o b1 b2 b3 b4 e=>hk b o (Ac (az e)) b1 b2 b3 b4 (oth b o e)) hS' hl hG hacc⟩
end
def ZipAt(H:Hp)(qs xs ys:List V):Prop:=qs.length=min xs.length ys.length∧∀(j:Nat)(q:V),qs[j]?=some q→∃(a:Addr)(x y:V),q=.ref a∧xs[j]?=some x∧ys[j]?=some y∧H a=some (.tup [x,y])
def tLZ(K:W.Frag)(ta:TA):TE:=fun σ H Q=>ta σ H fun us H1=>∃(a b:Addr)(xs ys:List V),us=[.ref a,.ref b]∧SqL K H1 a xs∧SqL K H1 b ys∧xs.length≤1000∧∀(H':Hp)(p:Addr)(qs:List V),Same H1 H'→H1 p=none→H' p=some (.lst qs)→ZipAt H' qs xs ys→Q (.ref p) H'
theorem kO{X:Cx}{a b:Expr}{ta:TA}{p p2 pos pos2:Pos}(hc:X.calm=true)(hg:Gl X "list")(hm:X.mg "list"=none)(hg2:Gl X "zip")(hm2:X.mg "zip"=none)(ha:PA X [a,b] ta)(hs:starEach [a,b] X.env=[(false,eval a X.env),(false,eval b X.env)]:=by rfl)(hs2:starEach [b] X.env=[(false,eval b X.env)]:=by rfl)(hs3:starEach [Expr.Call (.Name "zip" p) [a,b] [] pos] X.env=[(false,eval (.Call (.Name "zip" p) [a,b] [] pos) X.env)]:=by rfl):
  PE X (.Call (.Name "list" p2) [.Call (.Name "zip" p) [a,b] [] pos] [] pos2) (tLZ X.K ta):=by
 intro CZ s σ H Q I h;refine Bw (U2 I hg hm boot_list (Be ?_ hs3 rfl));rw[hs3];show wpAny _ _ (spliced [(false,eval (.Call (.Name "zip" p) [a,b] [] pos) X.env)]) _ _ s;refine Calls.spliced_cons (Call_ (U2 I hg2 hm2 boot_zip (Be (thn (ha pos CZ s σ H _ I h) fun us s1 ⟨vs,H1,I1,r1,q1⟩=>?_) (by rw[hs,hs2]) (by rw[hs2];rfl))));obtain⟨l1,l2,xs,ys,e,hq1,hq2,hl,q⟩:=q1;subst e;cases r1 with
 |cons r rr=>
  cases rr with
  |cons r' rr=>
   cases rr;cases r;cases r';obtain⟨its1,rv1,p1,hz1⟩:=I1.list hq1;obtain⟨its2,rv2,p2,hz2⟩:=I1.list hq2;have lt1:l1<s1.heap.objs.size:=by obtain⟨o,e,_⟩:=p1.isList;exact az e
   have lt2:l2<s1.heap.objs.size:=by obtain⟨o,e,_⟩:=p2.isList;exact az e
   have D:ZipApart (s1.heap.objs.size+4) (s1.heap.objs.size+2) (s1.heap.objs.size+3) s1.heap.objs.size (s1.heap.objs.size+1) l1 l2:=by constructor <;> (unfold Addr at *;omega)
   refine call_zip_2 p1.isList p2.isList fun h' c1 c2 c3 c4 c5 c6 hk=>?_;show wpAny _ _ (spliced []) _ _ _;refine aq ?_;have e1:=rv1.length;have e2:=rv2.length;refine tJ (s:={s1 with heap:=h'}) (I1.ok.hd hc) D c1 ⟨_,_,c3⟩ c2 c4 c5 (p1.isList.at fun o e=>hk _ o e) (p2.isList.at fun o e=>hk _ o e) (fun g tk Db c as hk2 hS De G hacc=>?_) (by simp only[List.size_toArray];exact Zd (by omega));rw[show({s1 with heap:=h'}:Shared).heap.objs.size=s1.heap.objs.size+5 from c6]at hS G⊢;have kp:∀b u,s1.heap.get? b=some u→g.get? b=some u:=fun b u e=>by
    have lb:b<s1.heap.objs.size:=az e;unfold Addr at *;exact hk2 b u (by omega) (by omega) (by omega) (by omega) (hk _ _ e)
   simp only[List.size_toArray]at De
   let L:Hp:=fun b=>if b=s1.heap.objs.size+5 then some (.lst (as.map V.ref)) else((as.zip (xs.zip ys)).lookup b).map fun p=>.tup [p.1,p.2]
   have zl:(xs.zip ys).length=as.length:=by rw[List.length_zip];omega
   have nw:∀b o,s1.heap.objs.size≤b→L b=some o→ObjOk X.prog X.w (over H1 s1.heap.objs.size L) g b o:=fun b o hb e=>by
    by_cases hbn:b=s1.heap.objs.size+5
    ·have e':L b=some (.lst (as.map V.ref)):=Ah hbn;rw[e']at e;cases e;refine⟨by rw[ae];exact Zd (by omega),as.map Value.ref,c,Ou as,?_⟩;rw[hbn,←hacc];simpa using hS
    ·have e':L b=((as.zip (xs.zip ys)).lookup b).map fun p=>.tup [p.1,p.2]:=Aj hbn;rw[e']at e;obtain⟨p,hp,rfl⟩:=An.mp e;obtain⟨j,h1,h2⟩:=Pd hp;obtain⟨u,v,g1,g2,g3⟩:=G.pairs j b h1;obtain⟨y1,y2⟩:=B0.mp h2;obtain⟨u',hu',ru⟩:=rv1.get y1;obtain⟨v',hv',rv⟩:=rv2.get y2;have hu'':some u'=some u:=by rw[←hu',←g1];simp
     have hv'':some v'=some v:=by rw[←hv',←g2];simp
     cases hu'';cases hv'';exact⟨Zd (leN rfl),[u,v],.cons ru (.cons rv .nil),⟨_,g3,⟨rfl,rfl⟩,_,rfl⟩⟩
   obtain⟨I',sm⟩:=I1.over (t':=tk) kp nw;have hp:over H1 s1.heap.objs.size L (s1.heap.objs.size+5)=some (.lst (as.map V.ref)):=by rw[P0 (A8 _ _)];exact Ah rfl
   refine⟨.ref (s1.heap.objs.size+5),_,I',rfl,q _ _ _ sm (I1.hok.fresh (A8 _ _)) hp ⟨by rw[ae];omega,fun j qv hj=>?_⟩⟩;rw[Ar]at hj;obtain⟨a',ha',rfl⟩:=An.mp hj;have jl:=(Ad.mp ha').1;have jx:j<xs.length:=by omega
   have jy:j<ys.length:=by omega
   have zj:(xs.zip ys)[j]?=some (xs[j],ys[j]):=B0.mpr ⟨Ak jx,Ak jy⟩;have ab:=G.above a' (Ai ha');refine⟨a',_,_,rfl,Ak jx,Ak jy,?_⟩;rw[P0 (BB (Nat.lt_of_le_of_lt (A8 _ 5) ab))];show L a'=_;have e':L a'=((as.zip (xs.zip ys)).lookup a').map fun p=>.tup [p.1,p.2]:=Aj (AF ab);rw[e',Q9 G.rise ha' zj];rfl
theorem ZipAt.pairs{H:Hp}:∀{qs:List V}{ws:List Str}{ns:List Int},ZipAt H qs (ws.map V.str) (ns.map V.int)→PairsAt H qs (aw (ws.zip ns)):=by
 intro qs ws
 induction ws generalizing qs with
 |nil=>
  intro ns h;obtain⟨l,_⟩:=h;rw[CQ,BS,Nat.zero_min]at l;rw[A0 l];exact .nil
 |cons z ws ih=>
  intro ns h;cases ns with
  |nil=>
   obtain⟨l,_⟩:=h;rw[CQ,BS,Nat.min_zero]at l;rw[A0 l];exact .nil
  |cons n ns=>
   obtain⟨l,g⟩:=h;cases qs with
   |nil=>simp at l
   |cons q qs=>
    obtain⟨a,x,y,rfl,hx,hy,e⟩:=g 0 q rfl;cases hx;cases hy;refine .cons e (ih ⟨by simp at l⊢;omega,fun j q' hj=>g (j+1) q' hj⟩)
theorem pj{X:Cx}:OpR X (compareOp .NotIn) (fun x y H Q=>∃(z:Str)(a:Addr)(kvs:List (Key×V)),x=.str z∧y=.ref a∧H a=some (.dK kvs)∧Q (.bl (!(aF kvs (Sum.inr z)).isSome)) H):=by
 intro CZ s σ H x y v u Q I rx ry h;obtain⟨z,a,kvs,rfl,rfl,e,q⟩:=h;cases ry;obtain⟨_,hd,vs,rel,dd⟩:=Px I.hok e;refine wpAny_notIn_of (Nb (k:=.inr z) rx) hd dd.mapOf ⟨.bl _,H,I.tok _,rfl,?_⟩;rw[←(rel.val (Sum.inr z)).isSome_eq];exact q
end L2
namespace K63
open PySem L2
def bH(t:Ty)(z:Str):List (Key×V):=aZ (aw t.cs) (Sum.inr z) (.bl true)
def aP(t:Ty)(z:Str):List Str:=((List.range (2*t.room+(bH t z).length).toNat).map wAt).filter fun x=>!(aF (bH t z) (Sum.inr x)).isSome
theorem Qs{κ:Type}[DecidableEq κ]{kvs:List (κ×V)}{k:κ}{v:V}:(aZ kvs k v).length≤kvs.length+1:=by
 unfold aZ
 split
 ·rw[ae];exact Nat.le_succ _
 ·rw[ba];exact io _
def gn:Sp:=fun vs H Q _=>∃(r:Addr)(t:Ty)(z:Str),vs=[.ref r,.str z]∧DV H (.ref r) t.D∧(t.cs.map (·.1)).Nodup∧1≤t.room∧t.room≤20∧(t.cs.length:Int)≤t.room∧∀(p:Addr)(H':Hp),H p=none→Same H H'→H' p=some (.lst ((aP t z).map V.str))→Q (.ref p) H'
variable{P:Program}{w:World}{K:W.Frag}{mg:Str→Option Value}{base:Heap}{f:Addr}{fd:FuncData}
theorem sS(bA:mg "dict"=none)(aG:mg "len"=none)(aL:mg "range"=none)(nN:Has P w K mg base "word_at" 1 ["place"] vY)(F:Fun K "spare_marks" "spare_marks" cg f fd):FnOk P w K mg base CX0 2 f fd ["tally","mark"] gn:=by
 refine F.ok Yj (fun vs H Q E h=>?_) (fun cdv A outer s H vs Q E hr h=>?_)
 ·obtain⟨r,t,z,rfl,_⟩:=h;rfl
 obtain⟨r,t,z,rfl,hd,nd,r0,r1,cl,hq⟩:=h;refine⟨_,(Z2 (X5 (pv 0) (Ys rfl (Z8 (Z7 (i:=2) Yj.nd rfl (Or.inl rfl)) (Z8 (Z7 (i:=3) Yj.nd rfl (Or.inl rfl)) (Z8 (Z7 (i:=4) Yj.nd rfl (Or.inl rfl)) (Z8 (Z7 (i:=5) Yj.nd rfl (Or.inl rfl)) Zt)))))) X9),?_⟩;obtain⟨_,c,rows,e0,e,ec,pa⟩:=DV.ty_inv hd;cases e0;have rl:=pa.length;have kl:=Zs t.cs;refine⟨_,rfl,r,_,rfl,SqT.of e,rfl,_,_,rfl,_,_,rfl,_,_,rfl,_,_,rfl,rfl,?_⟩;refine⟨_,(Z2 (@Vf _ _ 6 _ _ _ _ Yj.nd rfl (Or.inr rfl) (X2 (U5 rfl) rfl bA Cp (Z0 (pv 3) Z1)) (by rfl) (by first | exact .inl rfl | exact .inr rfl)) X9),?_⟩;refine⟨_,rfl,c,rows,_,rfl,ec,pa,by omega,?_⟩;rw[U0 (by rw[Xr];exact P7 nd)];have gg:Same H H:=fun _ _ h=>h;intro d n_d;generalize hz:upd _ d _=H1;revert H1;refine blk ?_;intro H1 hz;have gz:=Zc hz n_d;have e_d:=Zj hz;clear hz;have gg:=gg.trans gz;refine⟨_,(Z2 (Se (Vk hr) (pv 6) (pv 1) X6 rfl) X9),?_⟩;refine⟨_,rfl,_,rfl,d,_,rfl,DPut.k (k:=Sum.inr z) e_d (Zk (by omega)),?_⟩;have gg:Same H (upd H1 d (.dK (aZ (aw t.cs) (Sum.inr z) (.bl true)))):=Yk gg n_d;have e_d:(upd H1 d (.dK (aZ (aw t.cs) (Sum.inr z) (.bl true)))) d=some (.dK (bH t z)):=Z5;generalize upd H1 d (.dK (aZ (aw t.cs) (Sum.inr z) (.bl true)))=H2 at gg e_d⊢;have tl:(bH t z).length≤21:=by have:=Qs (kvs:=aw t.cs) (k:=Sum.inr z) (v:=.bl true);show(aZ (aw t.cs) (Sum.inr z) (.bl true)).length≤_;omega
 refine⟨_,(Z2 (Ut (i:=7) Yj.nd rfl rfl (own:=["place"]) (Xz rfl rfl) (Ws rfl aL (Z0 (Ze Y4 (Ze Wh Z4 (pv 2)) (Zi Nn rfl aG A9 (Z0 (pv 6) Z1))) Z1))
  (fun _ _ _ _ _=>(Z7 (i:=0) Ua rfl (Or.inl rfl) (Or.inr rfl))) (fun _ _ _ _ _=>Yb)
  (fun _ _ _ _ _=>(Z3 nN hr (Z0 (pv 0) Z1)))) X9),?_⟩
 refine⟨_,rfl,_,_,rfl,rfl,.inl ⟨by omega,by omega⟩,_,rfl,d,_,rfl,e_d,_,_,rfl,rfl,_,rfl,by omega,by omega,?_⟩;have nn:(2*t.room+((bH t z).length:Int)).toNat≤61:=by omega
 have n0:((2*t.room+((bH t z).length:Int)).toNat:Int)=2*t.room+((bH t z).length:Int):=by omega
 unfold aP at hq;generalize hN:(2*t.room+((bH t z).length:Int)).toNat=N at hq nn n0⊢;refine S5 (fun i ys H'=>H'=H2∧i≤N∧ys=((List.range i).map wAt).map V.str) ⟨rfl,Bc _,rfl⟩ ?_ ?_
 ·rintro i ys H' C hi ⟨rfl,_,rfl⟩ hC;refine⟨Zk (by rw[ae,ae,Ba];omega),Wk.refl _,?_⟩;refine⟨_,rfl,0+(i:Int),rfl,by omega,by omega,hC _ _ ⟨rfl,hi,?_⟩⟩;rw[List.range_succ,ca,ca,BP,Int.toNat_natCast];rfl
 rintro ys HH ⟨rfl,_,rfl⟩;refine⟨Zd (by rw[ae,ae,Ba];omega),fun L n_L=>?_⟩;have e_L:(upd HH L (.lst (((List.range N).map wAt).map V.str))) L=some (.lst (((List.range N).map wAt).map V.str)):=Z5;have s1:=Z9 n_L (.lst (((List.range N).map wAt).map V.str));have e_d:=s1 _ _ e_d;have gg:=gg.trans s1;have wl:((List.range N).map wAt).length≤61:=by rw[ae,Ba];exact nn
 generalize (List.range N).map wAt=ws at *;generalize upd HH L (.lst (ws.map V.str))=H3 at e_L e_d gg⊢;refine⟨_,(Z6 (Zb (Y3 (own:=["word"]) (Xz rfl rfl) (Y5 (pv 7))
  (fun _ _ _ _ _=>(Z7 (i:=0) U9 rfl (Or.inl rfl) (Or.inr rfl))) (fun _ _ _ _ _=>(Wj (Zn pj (pv 0) (pv 7) (by with_unfolding_all rfl))))
  (fun _ _ _ _ _=>(pv 0))))),?_⟩
 refine⟨_,rfl,L,rfl,⟨_,SqL.of e_L⟩,?_⟩;refine Yo (xs:=ws.map V.str) (fun i ys H'=>H'=H3∧ys=((ws.take i).filter fun x=>!(aF (bH t z) (Sum.inr x)).isSome).map V.str) ⟨rfl,rfl⟩ ?_ ?_ ?_
 ·rintro i ys H' _ ⟨rfl,_⟩;exact SqL.of e_L
 ·rintro i x ys H' C hx ⟨rfl,rfl⟩ hC;rw[Ar]at hx;obtain⟨n,hn,rfl⟩:=An.mp hx;have fl:=Ap (fun x=>!(aF (bH t z) (Sum.inr x)).isSome) (ws.take i);rw[Am]at fl;rw[Zr hn,AJ]at hC;refine⟨Zk (by rw[ae];omega),Wk.refl _,_,rfl,_,rfl,n,d,_,rfl,rfl,e_d,?_⟩;cases hv:(!(aF (bH t z) (Sum.inr n)).isSome) with
  |true=>
   refine⟨_,rfl,Xf ⟨_,rfl,hC _ _ ⟨rfl,?_⟩⟩⟩;rw[As,Ah hv,ca];rfl
  |false=>
   refine⟨_,rfl,Ym (hC _ _ ⟨rfl,?_⟩)⟩;rw[As,Aj (by rw[hv];decide),List.filter_nil,AN]
 rintro ys H' ⟨rfl,rfl⟩;have fl:=Ap (fun x=>!(aF (bH t z) (Sum.inr x)).isSome) ws;have ml:(ws.map V.str).length=ws.length:=ae _;rw[ml,At];refine⟨Zd (by rw[ae];omega),fun p np=>?_⟩;exact hq p _ (gg.free np) (gg.trans (Z9 np _)) Z5
inductive ShT(H:Hp):V→List Addr→Prop where
 |leaf {a:Addr} {xs:List V} (e:H a=some (.lst xs)):ShT H (.ref a) [a]
 |node {a:Addr} {m x y:V} {as bs:List Addr} (e:H a=some (.tup [m,x,y])) (h1:ShT H x as) (h2:ShT H y bs):ShT H (.ref a) (as++bs)
theorem ShT.mono{H H':Hp}{v:V}{as:List Addr}(h:ShT H v as)(g:Same H H'):ShT H' v as:=by
 induction h with
 |leaf e=>exact .leaf (g _ _ e)
 |node e _ _ i1 i2=>exact .node (g _ _ e) i1 i2
def aB(t:Ty)(ws:List Str):Ps:=(t.cs.map fun p=>(p.1,p.2+t.lt))++ws.zip (aX t)
def aI(t:Ty)(ws:List Str):Tr:=.node (.leaf (((aB t ws).take t.room.toNat).map a8)) (.leaf (((aB t ws).drop t.room.toNat).map a8))
theorem oJ{H:Hp}{xs:List V}{kvs:List (Key×V)}(h:PairsAt H xs kvs):∀k:Nat,PairsAt H (xs.take k) (kvs.take k):=by
 induction h with
 |nil=>intro k;rw[List.take_nil,List.take_nil];exact .nil
 |cons e r ih=>
  intro k;cases k with
  |zero=>exact .nil
  |succ k=>exact .cons e (ih k)
theorem nY{H:Hp}{xs:List V}{kvs:List (Key×V)}(h:PairsAt H xs kvs):∀k:Nat,PairsAt H (xs.drop k) (kvs.drop k):=by
 induction h with
 |nil=>intro k;rw[List.drop_nil,List.drop_nil];exact .nil
 |cons e r ih=>
  intro k;cases k with
  |zero=>exact .cons e r
  |succ k=>exact ih k
theorem qS{H:Hp}{xs:List V}{ps:Ps}(h:PairsAt H xs (aw ps))(k:Nat):PairsAt H (xs.take k) (aw (ps.take k)):=by
 have q:=oJ h k;unfold aw at q⊢;rw[List.map_take];exact q
theorem qN{H:Hp}{xs:List V}{ps:Ps}(h:PairsAt H xs (aw ps))(k:Nat):PairsAt H (xs.drop k) (aw (ps.drop k)):=by
 have q:=nY h k;unfold aw at q⊢;rw[List.map_drop];exact q
theorem yf{xs:List V}{n:Int}(h:0≤n):cB xs none (some n)=xs.take n.toNat:=by
 obtain⟨k,rfl⟩:=Cj h;exact j_
theorem wL{xs:List V}{n:Int}(h:0≤n):cB xs (some n) none=xs.drop n.toNat:=by
 obtain⟨k,rfl⟩:=Cj h;exact sw
theorem Wv{t:Ty}(r0:1≤t.room)(cl:(t.cs.length:Int)≤t.room):((aX t).length:Int)+t.cs.length≤2*t.room:=by
 have fl:=Ap (fun n:Int=>decide (0<n)) (lgF t);have e:(lgF t).length=(t.room+1-t.cs.length).toNat+(t.room-1).toNat:=by unfold lgF;rw[ba,AE,lD]
 have h:(aX t).length≤(lgF t).length:=fl;omega
theorem Qh{t:Ty}{ws:List Str}(r0:1≤t.room)(cl:(t.cs.length:Int)≤t.room):((aB t ws).length:Int)≤2*t.room:=by
 have:=Wv r0 cl;unfold aB;rw[ba,ae,List.length_zip];omega
def sZ:Sp:=fun vs H Q _=>∃(r l:Addr)(t:Ty)(ws:List Str),vs=[.ref r,.ref l]∧DV H (.ref r) t.D∧H l=some (.lst (ws.map V.str))∧1≤t.room∧t.room≤20∧(t.cs.length:Int)≤t.room∧ws.length≤1000∧∀(v:V)(as:List Addr)(H':Hp),Same H H'→DV H' v (aI t ws).D→ShT H' v as→(∀a∈as,H a=none)→Q v H'
theorem x9(bw:mg "list"=none)(c9:mg "zip"=none)(qc:Has P w K mg base "let_go" 2 ["tally"] wj)(bD:Has P w K mg base "plain_stream" 1 ["sums"] pZ)(F:Fun K "tree_by_one_cut" "tree_by_one_cut" br f fd):FnOk P w K mg base CX0 3 f fd ["tally","words"] sZ:=by
 refine F.ok Y6 (fun vs H Q E h=>?_) (fun cdv A outer s H vs Q E hr h=>?_)
 ·obtain⟨r,l,t,ws,rfl,_⟩:=h;rfl
 obtain⟨r,l,t,ws,rfl,hd,C7,r0,r1,cl,wl,hq⟩:=h;refine⟨_,(Z2 (X5 (pv 0) (Ys rfl (Z8 (Z7 (i:=2) Y6.nd rfl (Or.inl rfl)) (Z8 (Z7 (i:=3) Y6.nd rfl (Or.inl rfl)) (Z8 (Z7 (i:=4) Y6.nd rfl (Or.inr rfl)) (Z8 (Z7 (i:=5) Y6.nd rfl (Or.inl rfl)) Zt)))))) X9),?_⟩;obtain⟨_,c,rows,e0,e,ec,pa⟩:=DV.ty_inv hd;cases e0;have rl:=pa.length;rw[Zs]at rl;refine⟨_,rfl,r,_,rfl,SqT.of e,rfl,_,_,rfl,_,_,rfl,_,_,rfl,_,_,rfl,rfl,?_⟩;refine⟨_,(Z2 (Zz 6 Y6.nd rfl (Or.inl rfl) (Ze R0 (Y3 (own:=["mark","count"]) (Xz rfl rfl) (Wg (pv 3))
  (fun _ _ _ _ _=>(Xa K 2 rfl rfl (Z8 (Z7 (i:=0) Xc rfl (Or.inl rfl) (Or.inr rfl)) (Z8 (Z7 (i:=1) Xc rfl (Or.inl rfl) (Or.inr rfl)) Zt)))) (fun _ _ _ _ _=>Yb)
  (fun _ _ _ _ _=>(Zu (Z0 (pv 0) (Z0 (Ze Y4 (pv 1) (pv 6)) Z1))))) (kO rfl rfl bw rfl c9 (Z0 (pv 1) (Z0 (Z3 qc hr (Z0 (pv 0) Z1)) Z1))))) X9),?_⟩
 refine⟨_,rfl,c,rfl,⟨_,SqT.of ec⟩,?_⟩;refine Vn (xs:=rows) (fun n ys H'=>Same H H'∧PairsAt H' ys (aw ((t.cs.take n).map fun p=>(p.1,p.2+t.lt)))) ⟨Same.refl _,.nil⟩ ?_ ?_ ?_
 ·rintro n ys H' _ ⟨g,_⟩;exact SqT.of (g _ _ ec)
 ·rintro n x ys H' C hx ⟨g,py⟩ hC;obtain⟨y,p,rfl,hp,ey⟩:=pa.getP hx;have yl:=py.length;rw[Zs,ae,Am]at yl;refine⟨Zk (by omega),y,_,rfl,SqT.of (g _ _ ey),rfl,_,_,rfl,_,_,rfl,rfl,Wk.refl _,_,rfl,_,rfl,_,rfl,_,_,rfl,rfl,leN rfl,fun q nq=>hC _ _ ⟨g.trans (Z9 nq _),?_⟩⟩;rw[Zr hp,ca];unfold aw;rw[ca];exact(py.mono (Z9 nq _)).append (.cons Z5 .nil)
 rintro ys H1 ⟨gg,py⟩;rw[rl,At]at py;have yl:=py.length;rw[Zs,ae]at yl;refine⟨Zd (by omega),?_⟩;intro L1 n_L1;generalize hz:upd _ L1 _=H2;revert H2;refine blk ?_;intro H2 hz;have gz:=Zc hz n_L1;have oj:=Zj hz;clear hz;have gg:=gg.trans gz;have py:=py.mono gz;refine⟨_,rfl,_,rfl,r,t,rfl,hd.mono gg,r0,r1,cl,fun l2 H3 oA s3 eL=>?_⟩;have oj:=s3 _ _ oj;have py:=py.mono s3;have gg:=gg.trans s3;have ll:=Wv r0 cl;refine⟨l,l2,_,_,rfl,SqL.of (gg _ _ C7),SqL.of eL,by rw[ae];omega,fun H4 l3 qs s4 zY tU za=>?_⟩;have oj:=s4 _ _ oj;have py:=py.mono s4;have gg:=gg.trans s4;have pz:=za.pairs;have zl:=pz.length;rw[Zs,List.length_zip]at zl;refine⟨L1,l3,_,_,rfl,rfl,oj,tU,Zd (by omega),?_⟩;have pall:PairsAt H4 (ys++qs) (aw (aB t ws)):=by
  unfold aB aw;rw[ca];exact py.append pz
 have sl:=Qh (ws:=ws) r0 cl;have oc:aI t ws=.node (.leaf (((aB t ws).take t.room.toNat).map a8)) (.leaf (((aB t ws).drop t.room.toNat).map a8)):=rfl;rw[oc]at hq;clear oc py pz za oj tU zl;generalize aB t ws=ss at pall sl hq;intro L2 n_L2;generalize hz:upd _ L2 _=H5;revert H5;refine blk ?_;intro H5 hz;have gz:=Zc hz n_L2;have pc:=Zj hz;clear hz;have gg:=gg.trans gz;have pall:=pall.mono gz;refine⟨_,(Z6 (Zb (Zu (Z0 Xn (Z0 (Z3 bD hr (Z0 (Vj S7 (pv 6) Uw (Uv (pv 2))) Z1)) (Z0 (Z3 bD hr (Z0 (Vj S7 (pv 6) (Uv (pv 2)) Uw) Z1)) Z1)))))),?_⟩;refine⟨_,rfl,_,rfl,_,rfl,L2,_,rfl,SqL.of pc,?_⟩;rw[yf (by omega)];intro L3 n_L3;generalize hz:upd _ L3 _=H6;revert H6;refine blk ?_;intro H6 hz;have gz:=Zc hz n_L3;have e_L3:=Zj hz;clear hz;have gg:=gg.trans gz;have pall:=pall.mono gz;have pc:=gz _ _ pc;have tl:=Am (i:=t.room.toNat) (l:=ss);have dl:=Bx (i:=t.room.toNat) (l:=ss);refine⟨L3,_,ss.take t.room.toNat,rfl,e_L3,qS pall _,by omega,fun a1 H7 n7 s7 d7=>?_⟩;have z1:=gg.free n7;have pall:=pall.mono s7;have pc:=s7 _ _ pc;have gg:=gg.trans s7;refine⟨_,rfl,_,rfl,_,rfl,L2,_,rfl,SqL.of pc,?_⟩;rw[wL (by omega)];intro L4 n_L4;generalize hz:upd _ L4 _=H8;revert H8;refine blk ?_;intro H8 hz;have gz:=Zc hz n_L4;have e_L4:=Zj hz;clear hz;have gg:=gg.trans gz;have pall:=pall.mono gz;have d7:=d7.mono gz;refine⟨L4,_,ss.drop t.room.toNat,rfl,e_L4,qN pall _,by omega,fun a2 H9 n9 s9 d9=>⟨leN rfl,fun q nq=>?_⟩⟩;have z2:=gg.free n9;have d7:=d7.mono s9;have gg:=gg.trans s9;have s10:=Z9 nq (.tup [.str "merged",.ref a1,.ref a2]);obtain⟨_,xs1,q1,f1,_⟩:=DV.list_inv d7;cases q1;obtain⟨_,xs2,q2,f2,_⟩:=DV.list_inv d9;cases q2;refine hq (.ref q) ([a1]++[a2]) _ (gg.trans s10) (.tup Z5 (.cons (.str _) (.cons (d7.mono s10) (.cons (d9.mono s10) .nil)))) (.node Z5 (.leaf (s10 _ _ f1)) (.leaf (s10 _ _ f2))) fun x hx=>?_
 rcases AI.mp hx with hx | hx
 ·rw[Af.mp hx];exact z1
 ·rw[Af.mp hx];exact z2
def bE(t:Ty)(z:Str):Tr:=if look t.cs z=0 then aI t (aP t z)else .node (aI (woT t z) (aP t z)) (.leaf [a8 (z,look t.cs z)])
def bY(t:Ty)(z:Str):Tr:=aI t (if look t.cs z=0 then z::aP t z else aP t z)
theorem jD(t:Ty)(z:Str):(bH t z).length≤t.cs.length+1:=by
 have:=Qs (kvs:=aw t.cs) (k:=Sum.inr z) (v:=.bl true);have:=Zs t.cs;show(aZ (aw t.cs) (Sum.inr z) (.bl true)).length≤_;omega
theorem Qj{t:Ty}(z:Str)(r1:t.room≤20)(cl:(t.cs.length:Int)≤t.room):(aP t z).length≤61:=by
 have:=jD t z;unfold aP;refine AU (Ap _ _) ?_;rw[ae,Ba];omega
theorem wX{t:Ty}(z:Str)(cl:(t.cs.length:Int)≤t.room):((woT t z).cs.length:Int)≤(woT t z).room:=by
 have:=Ap (fun p:Str×Int=>decide (p.1≠z)) t.cs;show((t.cs.filter fun p=>decide (p.1≠z)).length:Int)≤t.room;omega
def mZ(T:Ty→Str→Tr):Sp:=fun vs H Q _=>∃(r:Addr)(t:Ty)(z:Str),vs=[.ref r,.str z]∧DV H (.ref r) t.D∧(t.cs.map (·.1)).Nodup∧1≤t.room∧t.room≤20∧(t.cs.length:Int)≤t.room∧∀(v:V)(as:List Addr)(H':Hp),Same H H'→DV H' v (T t z).D→ShT H' v as→(∀a∈as,H a=none)→Q v H'
def v_:Sp:=fun vs H Q _=>∃(r:Addr)(t:Ty)(z:Str),vs=[.ref r,.str z]∧DV H (.ref r) t.D∧(t.cs.map (·.1)).Nodup∧1≤t.room∧t.room≤20∧(t.cs.length:Int)≤t.room∧∀(p:Addr)(v1 v2:V)(as bs:List Addr)(H':Hp),Same H H'→H' p=some (.tup [v1,v2])→DV H' v1 (bE t z).D→DV H' v2 (bY t z).D→ShT H' v1 as→ShT H' v2 bs→(∀a∈as,H a=none)→(∀a∈bs,H a=none)→Q (.ref p) H'
theorem sO(cr:Has P w K mg base "spare_marks" 2 ["tally","mark"] gn)(bc:Has P w K mg base "count_in" 1 ["tally","mark"] dX)(aO:Has P w K mg base "tree_by_one_cut" 3 ["tally","words"] sZ)(oP:Has P w K mg base "without" 2 ["tally","mark"] zt)(bD:Has P w K mg base "plain_stream" 1 ["sums"] pZ)(F:Fun K "least_tree" "least_tree" cA f fd):FnOk P w K mg base CX0 4 f fd ["tally","mark"] (mZ bE):=by
 refine F.ok Ve (fun vs H Q E h=>?_) (fun cdv A outer s H vs Q E hr h=>?_)
 ·obtain⟨r,t,z,rfl,_⟩:=h;rfl
 obtain⟨r,t,z,rfl,hd,nd,r0,r1,cl,hq⟩:=h;have sl:=Qj z r1 cl;refine⟨_,(Z2 (Zz 2 Ve.nd rfl (Or.inl rfl) (Z3 cr hr (Z0 (pv 0) (Z0 (pv 1) Z1)))) X9),?_⟩;refine⟨_,rfl,_,rfl,r,t,z,rfl,hd,nd,r0,r1,cl,fun l H1 n_l gg C7=>?_⟩;refine⟨_,(Z2 (Zz 3 Ve.nd rfl (Or.inl rfl) (Z3 bc hr (Z0 (pv 0) (Z0 (pv 1) Z1)))) X9),?_⟩;refine⟨_,rfl,_,rfl,r,t,z,rfl,hd.mono gg,nd,by omega,fun H2 s2=>?_⟩;have C7:=s2 _ _ C7;have gg:=gg.trans s2;refine⟨_,(Z2 (Y7 (Zn P2 (pv 3) Z4 (Zl _)) (Z6 (Zb (Z3 aO hr (Z0 (pv 0) (Z0 (pv 2) Z1))))) Zq) X9),?_⟩;refine⟨_,rfl,rfl,_,rfl,?_⟩;by_cases c:look t.cs z=0
 ·rw[zy (show V.int (look t.cs z)=V.int 0 by rw[c])];have e:bE t z=aI t (aP t z):=Ah c;rw[e]at hq;refine Xf ⟨_,rfl,_,rfl,r,l,t,aP t z,rfl,hd.mono gg,C7,r0,r1,cl,by omega,fun v as H' s' dv sh fr=>hq v as H' (gg.trans s') dv sh fun a ha=>gg.free (fr a ha)⟩
 ·rw[Ag (show ¬V.int (look t.cs z)=V.int 0 from fun q=>c (V.int.inj q))];have e:bE t z=.node (aI (woT t z) (aP t z)) (.leaf [a8 (z,look t.cs z)]):=Aj c;rw[e]at hq;refine Ym ⟨_,(Z6 (Zb (Zu (Z0 Xn (Z0 (Z3 aO hr (Z0 (Z3 oP hr (Z0 (pv 0) (Z0 (pv 1) Z1))) (Z0 (pv 2) Z1))) (Z0 (Z3 bD hr (Z0 (Yn (Z0 (Zu (Z0 (pv 1) (Z0 (pv 3) Z1))) Z1)) Z1)) Z1)))))),?_⟩;refine⟨_,rfl,_,rfl,r,t,z,rfl,hd.mono gg,nd,by omega,fun q H3 s3 d3=>?_⟩;have C7:=s3 _ _ C7;have gg:=gg.trans s3;refine⟨_,rfl,q,l,woT t z,aP t z,rfl,d3,C7,r0,r1,wX z cl,by omega,fun v as H4 s4 d4 sh4 fr4=>?_⟩;have fr4:∀a∈as,H a=none:=fun a ha=>gg.free (fr4 a ha);have gg:=gg.trans s4;refine⟨_,rfl,_,rfl,leN rfl,?_⟩;intro p1 rP;generalize hz:upd _ p1 _=H5;revert H5;refine blk ?_;intro H5 hz;have gz:=Zc hz rP;have bS:=Zj hz;clear hz;have gg:=gg.trans gz;have d4:=d4.mono gz;have sh4:=sh4.mono gz;refine⟨leN rfl,?_⟩;intro p2 sI;generalize hz:upd _ p2 _=H6;revert H6;refine blk ?_;intro H6 hz;have gz:=Zc hz sI;have cN:=Zj hz;clear hz;have gg:=gg.trans gz;have d4:=d4.mono gz;have sh4:=sh4.mono gz;have bS:=gz _ _ bS;refine⟨p2,_,[(z,look t.cs z)],rfl,cN,.cons bS .nil,by show 1≤1000;decide,fun a7 H7 n7 s7 d7=>⟨leN rfl,fun q nq=>?_⟩⟩;have z7:=gg.free n7;have s8:=Z9 nq (.tup [.str "merged",v,.ref a7]);obtain⟨_,xs7,q7,f7,_⟩:=DV.list_inv d7;cases q7;refine hq (.ref q) (as++[a7]) _ (gg.trans (s7.trans s8)) (.tup Z5 (.cons (.str _) (.cons (d4.mono (s7.trans s8)) (.cons (d7.mono s8) .nil)))) (.node Z5 (sh4.mono (s7.trans s8)) (.leaf (s8 _ _ f7))) fun x hx=>?_
  rcases AI.mp hx with hx | hx
  ·exact fr4 x hx
  ·rw[Af.mp hx];exact z7
theorem u5(cr:Has P w K mg base "spare_marks" 2 ["tally","mark"] gn)(bc:Has P w K mg base "count_in" 1 ["tally","mark"] dX)(aO:Has P w K mg base "tree_by_one_cut" 3 ["tally","words"] sZ)(F:Fun K "most_tree" "most_tree" cV f fd):FnOk P w K mg base CX0 4 f fd ["tally","mark"] (mZ bY):=by
 refine F.ok Vq (fun vs H Q E h=>?_) (fun cdv A outer s H vs Q E hr h=>?_)
 ·obtain⟨r,t,z,rfl,_⟩:=h;rfl
 obtain⟨r,t,z,rfl,hd,nd,r0,r1,cl,hq⟩:=h;have sl:=Qj z r1 cl;refine⟨_,(Z2 (Zz 2 Vq.nd rfl (Or.inl rfl) (Z3 cr hr (Z0 (pv 0) (Z0 (pv 1) Z1)))) X9),?_⟩;refine⟨_,rfl,_,rfl,r,t,z,rfl,hd,nd,r0,r1,cl,fun l H1 n_l gg C7=>?_⟩;refine⟨_,(Z2 (Y7 (Zn P2 (Z3 bc hr (Z0 (pv 0) (Z0 (pv 1) Z1))) Z4 (Zl _)) (Z6 (Zz 2 Vq.nd rfl (Or.inl rfl) (Ze R0 (Yn (Z0 (pv 1) Z1)) (pv 2)))) Zq) X9),?_⟩;refine⟨_,rfl,_,rfl,r,t,z,rfl,hd.mono gg,nd,by omega,fun H2 s2=>⟨rfl,_,rfl,?_⟩⟩;have C7:=s2 _ _ C7;have gg:=gg.trans s2;by_cases c:look t.cs z=0
 ·rw[zy (show V.int (look t.cs z)=V.int 0 by rw[c])];have e:bY t z=aI t (z::aP t z):=by unfold bY;rw[Ah c]
  rw[e]at hq;refine Xf ⟨_,rfl,leN rfl,?_⟩;intro l1 sy;generalize hz:upd _ l1 _=H3;revert H3;refine blk ?_;intro H3 hz;have gz:=Zc hz sy;have qH:=Zj hz;clear hz;have gg:=gg.trans gz;have C7:=gz _ _ C7;refine⟨_,rfl,l1,l,_,_,rfl,rfl,qH,C7,Zd (by rw[ae];show 1+_≤_;omega),?_⟩;intro l2 oA;generalize hz:upd _ l2 _=H4;revert H4;refine blk ?_;intro H4 hz;have gz:=Zc hz oA;have eL:=Zj hz;clear hz;have gg:=gg.trans gz;refine⟨_,(Z6 (Zb (Z3 aO hr (Z0 (pv 0) (Z0 (pv 2) Z1))))),?_⟩;exact⟨_,rfl,_,rfl,r,l2,t,z::aP t z,rfl,hd.mono gg,eL,r0,r1,cl,by rw[AD];omega,fun v as H' s' dv sh fr=>hq v as H' (gg.trans s') dv sh fun a ha=>gg.free (fr a ha)⟩
 ·rw[Ag (show ¬V.int (look t.cs z)=V.int 0 from fun q=>c (V.int.inj q))];have e:bY t z=aI t (aP t z):=by unfold bY;rw[Aj c]
  rw[e]at hq;refine Ym ⟨_,(Z6 (Zb (Z3 aO hr (Z0 (pv 0) (Z0 (pv 2) Z1))))),?_⟩;exact⟨_,rfl,_,rfl,r,l,t,aP t z,rfl,hd.mono gg,C7,r0,r1,cl,by omega,fun v as H' s' dv sh fr=>hq v as H' (gg.trans s') dv sh fun a ha=>gg.free (fr a ha)⟩
theorem x8(gR:Has P w K mg base "least_tree" 4 ["tally","mark"] (mZ bE))(jH:Has P w K mg base "most_tree" 4 ["tally","mark"] (mZ bY))(F:Fun K "trees_for" "trees_for" c7 f fd):FnOk P w K mg base CX0 5 f fd ["tally","mark"] v_:=by
 refine F.ok iD (fun vs H Q E h=>?_) (fun cdv A outer s H vs Q E hr h=>?_)
 ·obtain⟨r,t,z,rfl,_⟩:=h;rfl
 obtain⟨r,t,z,rfl,hd,nd,r0,r1,cl,hq⟩:=h;refine⟨_,(Z6 (Zb (Zu (Z0 (Z3 gR hr (Z0 (pv 0) (Z0 (pv 1) Z1))) (Z0 (Z3 jH hr (Z0 (pv 0) (Z0 (pv 1) Z1))) Z1))))),?_⟩;refine⟨_,rfl,_,rfl,r,t,z,rfl,hd,nd,r0,r1,cl,fun v1 as H1 s1 d1 sh1 fr1=>?_⟩;refine⟨_,rfl,_,rfl,r,t,z,rfl,hd.mono s1,nd,r0,r1,cl,fun v2 bs H2 s2 d2 sh2 fr2=>⟨leN rfl,fun p np=>?_⟩⟩;have s3:=Z9 np (.tup [v1,v2]);exact hq p v1 v2 as bs _ (s1.trans (s2.trans s3)) Z5 (d1.mono (s2.trans s3)) (d2.mono s3) (sh1.mono (s2.trans s3)) (sh2.mono s3) fr1 fun a ha=>s1.free (fr2 a ha)
structure TyM(t:Ty):Prop where
 room1:1≤t.room
 room2:t.room≤20
 nd:(t.cs.map (·.1)).Nodup
 len:(t.cs.length:Int)≤t.room
theorem Pz{a:Ty}{qs:Ps}(h:TyM a):((csM a.room a.cs qs).length:Int)≤a.room:=by
 have h0:=h.room1;unfold csM;rw[ae,((Zx (ah a.cs qs)).filter _).length_eq];have e:=Pn (au a.cs qs) (fun x=>decide (ay a.room a.cs qs<x)) (ah a.cs qs);by_cases q:(((ah a.cs qs).map (au a.cs qs)).length:Int)≤a.room
 ·have:=Ap (fun z=>decide (ay a.room a.cs qs<au a.cs qs z)) (ah a.cs qs);rw[ae]at q;omega
 ·obtain⟨c,_,e2,_,le,_⟩:=W8 (show 0≤a.room by omega) (Int.not_le.mp q);have e3:ay a.room a.cs qs=c:=e2;rw[e3]at e⊢;omega
theorem TyM.merge{a b:Ty}(h:TyM a)(g:TyM b):TyM (aA a b):=⟨h.room1,h.room2,kI h.nd g.nd,Pz h⟩
def thT(room:Int)(t:Th):Ty:=⟨room,[(t.word,t.many)],0,t.many⟩
def aJ(room:Int)(ts:List Th):Ty:=ts.foldl (fun a t=>aA a (thT room t)) (Ty.zero room)
def aQ(room:Int):Tr→Ty
 |.leaf ts=>aJ room ts
 |.node l r=>aA (aQ room l) (aQ room r)
theorem ig{room:Int}(h1:1≤room)(h2:room≤20)(t:Th):TyM (thT room t):=⟨h1,h2,AC.mpr ⟨(fun q=>nomatch q),AQ⟩,h1⟩
theorem qj{room:Int}(h1:1≤room)(h2:room≤20)(ts:List Th):∀(a:Ty),TyM a→a.room=room→TyM (ts.foldl (fun a t=>aA a (thT room t)) a)∧(ts.foldl (fun a t=>aA a (thT room t)) a).room=room:=by
 induction ts with
 |nil=>exact fun a h g=>⟨h,g⟩
 |cons t ts ih=>exact fun a h g=>ih (aA a (thT room t)) (h.merge (ig h1 h2 t)) g
theorem Sx{room:Int}(h1:1≤room)(h2:room≤20)(ts:List Th):TyM (aJ room ts)∧(aJ room ts).room=room:=
 qj h1 h2 ts _ ⟨h1,h2,AQ,by show((0:Nat):Int)≤room;omega⟩ rfl
theorem Sq{room:Int}(h1:1≤room)(h2:room≤20)(t:Tr):TyM (aQ room t)∧(aQ room t).room=room:=by
 induction t with
 |leaf ts=>exact Sx h1 h2 ts
 |node l r il ir=>exact⟨il.1.merge ir.1,il.2⟩
theorem yj{K:W.Frag}:W.kitOne K (.type "tuple") (.type "tuple")=some true:=iS (by decide +kernel)
theorem ye{K:W.Frag}:W.kitOne K (.type "list") (.type "tuple")=some false:=iS (by decide +kernel)
def gD:Sp:=fun vs H Q _=>∃(a:Addr)(room:Int)(kvs:List (Key×V))(ns:List Int),vs=[.int room,.ref a]∧H a=some (.dK kvs)∧kvs.map (·.2)=ns.map V.int∧0≤room∧ns.length<64∧∀H',Same H H'→Q (.int (dQ room ns)) H'
def eX:Sp:=fun vs H Q _=>∃(room:Int),vs=[.int room]∧∀(p:Addr) H',Same H H'→DV H' (.ref p) (Ty.D ⟨room,[],0,0⟩)→Q (.ref p) H'
def eU:Sp:=fun vs H Q _=>∃(r q:Addr)(a b:Ty),vs=[.ref r,.ref q]∧DV H (.ref r) a.D∧DV H (.ref q) b.D∧TyM a∧TyM b∧a.room=b.room∧∀(d:Addr) H',Same H H'→H d=none→H' d=some (.dK (aw (aM a.cs b.cs)))→Q (.ref d) H'
def gh:Sp:=fun vs H Q _=>∃(r q:Addr)(a b:Ty),vs=[.ref r,.ref q]∧DV H (.ref r) a.D∧DV H (.ref q) b.D∧TyM a∧TyM b∧a.room=b.room∧∀(p:Addr) H',Same H H'→DV H' (.ref p) (aA a b).D→Q (.ref p) H'
def tj:Sp:=fun vs H Q _=>∃(b1 b2:Addr)(rows1 rows2:List V)(xs ys:Ps),vs=[.ref b1,.ref b2]∧H b1=some (.tup rows1)∧H b2=some (.tup rows2)∧PairsAt H rows1 (aw xs)∧PairsAt H rows2 (aw ys)∧(xs.map (·.1)).Nodup∧(ys.map (·.1)).Nodup∧xs.length≤20∧ys.length≤20∧∀(d:Addr) H',Same H H'→H d=none→H' d=some (.dK (aw (aM xs ys)))→Q (.ref d) H'
theorem uo(aG:mg "len"=none)(aK:mg "sorted"=none)(F:Fun K "cut_of" "cut_of" fI f fd):FnOk P w K mg base CX0 1 f fd ["room","sums"] gD:=by
 refine F.ok pC (fun vs H Q E h=>?_) (fun cdv A outer s H vs Q E hr h=>?_)
 ·obtain⟨a,room,kvs,ns,rfl,_⟩:=h;rfl
 obtain⟨a,room,kvs,ns,rfl,ha,hns,h0,h64,hq⟩:=h;refine⟨_,(Z2 (Y7 (Zn mK (Zi Nn rfl aG A9 (Z0 (pv 1) Z1)) (pv 0) (Zl _)) (Z6 (Zb Z4)) Zq)
 (Z6 (Zb (Y0 Xj (oZ (ju rfl) rfl aK BQ (Z0 (Qw PySem.F.plainAttrs_dict Cd PySem.F.type_dict_values nI (pv 1)) Z1) (vt X6 wx)) (pv 0))))),?_⟩
 have hl:kvs.length=ns.length:=by
  have e:=Bm List.length hns;rw[ae,ae]at e;exact e
 refine⟨_,rfl,a,kvs,rfl,ha,_,rfl,_,_,rfl,rfl,_,rfl,?_⟩;refine Wn (fun c=>?_) (fun c=>?_)
 ·have c:=bb c;have q:=hq H (Same.refl _);have e:dQ room ns=0:=Ah (by omega);rw[e]at q;exact q
 ·have c:=BY (AO.mpr c);refine⟨_,rfl,pW ha,a,kvs,rfl,rfl,ha,fun v nv=>?_⟩;have ha2:upd H v (cM v a) a=some (.dK kvs):=by rw[Za (Zf ha nv)];exact ha
  refine⟨v,a,kvs,ns,rfl,rfl,Z5,ha2,hns,h64,fun p ms np pm pw=>?_⟩;have em:=sX pm pw;subst em;obtain⟨c1,e1,e2,_⟩:=W8 (ns:=ns) h0 (by omega);have e3:atI ((srt ns).map V.int) room=some (.int c1):=by
   have q:=Q8 (xs:=(srt ns).map V.int) (j:=room.toNat) (v:=.int c1) (by rw[Ar,e1];rfl);rw[show((room.toNat:Nat):Int)=room by omega]at q;exact q
  refine⟨_,rfl,p,_,_,_,rfl,rfl,SqL.of Z5,e3,?_⟩;rw[←e2];exact hq _ ((Z9 nv _).trans (Z9 np _))
theorem sW(F:Fun K "empty_tally" "empty_tally" ci f fd):FnOk P w K mg base CX0 1 f fd ["room"] eX:=by
 refine F.ok Qo (fun vs H Q E h=>?_) (fun cdv A outer s H vs Q E hr h=>?_)
 ·obtain⟨room,rfl,_⟩:=h;rfl
 obtain⟨room,rfl,hq⟩:=h;refine⟨_,(Z6 (Zb (Zu (Z0 (pv 0) (Z0 (Zu Z1) (Z0 Z4 (Z0 Z4 Z1))))))),?_⟩;have gg:Same H H:=fun _ _ h=>h;refine⟨_,rfl,leN rfl,?_⟩;intro p n_p;generalize hz:upd _ p _=H1;revert H1;refine blk ?_;intro H1 hz;have gz:=Zc hz n_p;have C4:=Zj hz;clear hz;have gg:=gg.trans gz;refine⟨leN rfl,?_⟩;intro q n_q;generalize hz:upd _ q _=H2;revert H2;refine blk ?_;intro H2 hz;have gz:=Zc hz n_q;have Da:=Zj hz;clear hz;have gg:=gg.trans gz;have C4:=gz _ _ C4;exact hq q _ gg (Ty.dv (t:=⟨room,[],0,0⟩) Da C4 .nil)
theorem rC(bA:mg "dict"=none)(F:Fun K "added_counts" "added_counts" bW f fd):FnOk P w K mg base CX0 1 f fd ["one","other"] tj:=by
 refine F.ok Xh (fun vs H Q E h=>?_) (fun cdv A outer s H vs Q E hr h=>?_)
 ·obtain⟨r,q,rows1,rows2,xs,ys,rfl,_⟩:=h;rfl
 obtain⟨b1,b2,rows1,rows2,xs,ys,rfl,eb1,eb2,pa1,pa2,nda,ndb,la,lb,hq⟩:=h;refine⟨_,(Z2 (Zz 2 Xh.nd rfl (Or.inl rfl) (X2 (U5 rfl) rfl bA Cp (Z0 (pv 0) Z1)))
 (Z2 (Xm AV rfl (Wg (pv 1)) (Ys rfl (Z8 (Z7 (i:=3) Xh.nd rfl (Or.inl rfl)) (Z8 (Z7 (i:=4) Xh.nd rfl (Or.inl rfl)) Zt)))
 (Z6 (Se (Vk hr) (pv 2) (pv 3) (Ze Y4 (Sg (Vk hr) (pv 2) (pv 3) Z4 ⟨rfl,rfl,rfl,rfl⟩) (pv 4)) rfl)))
 (Z6 (Zb (pv 2))))),?_⟩
 have kl1:=Zs xs;refine⟨_,rfl,b1,rows1,_,rfl,eb1,pa1,by omega,?_⟩;rw[U0 (by rw[Xr];exact P7 nda)];have gg:Same H H:=fun _ _ h=>h;intro d n_d;generalize hz:upd _ d _=H1;revert H1;refine blk ?_;intro H1 hz;have gz:=Zc hz n_d;have e_d:=Zj hz;clear hz;have gg:=gg.trans gz;refine⟨_,rfl,b2,rfl,⟨_,SqT.of (gz _ _ eb2)⟩,?_⟩;have rl:=pa2.length;rw[Zs]at rl;refine mL (xs:=rows2) (fun n σ H'=>∃(o3 o4:Option V),σ=[some (.ref b1),some (.ref b2),some (.ref d),o3,o4]∧Same H H'∧H' d=some (.dK (aw (aM xs (ys.take n))))) ⟨_,_,rfl,gz,by rw[List.take_zero,Sj nda];exact e_d⟩ ?_ ?_ ?_
 ·rintro i σ H' _ ⟨_,_,_,g,_⟩;exact SqT.of (g _ _ eb2)
 ·rintro i x σ H' hx ⟨o3,o4,rfl,g,ed⟩;obtain⟨y,p,rfl,hp,ey⟩:=pa2.getP hx;have tk:ys.take (i+1)=ys.take i++[p]:=Zr hp;have nt:∀n,((ys.take n).map (·.1)).Nodup:=fun n=>by rw[List.map_take];exact ndb.sublist (CB _ _)
  have len:(aw (aM xs (ys.take i))).length≤40:=by
   have:=Xb xs (ys.take i);rw[Am]at this;rw[Zs];unfold aM;rw[ae];omega
  refine⟨y,_,rfl,SqT.of (g _ _ ey),rfl,_,_,rfl,_,_,rfl,rfl,?_⟩;refine⟨_,rfl,d,rfl,.inl ⟨_,.inl ed⟩,_,rfl,_,DGet.k (k:=Sum.inr p.1) ed,_,rfl,_,_,S6 nda (nt i) p.1,rfl,?_⟩;refine⟨_,rfl,_,rfl,d,_,rfl,DPut.k (k:=Sum.inr p.1) ed (Zk (by omega)),some (.str p.1),some (.int p.2),rfl,Yk g n_d,?_⟩;rw[iU nda (by rw[←tk];exact nt (i+1)),←tk];exact Z5
 rintro σ H2 ⟨o3,o4,rfl,g2,ed⟩;rw[rl,At]at ed;exact⟨_,rfl,hq d _ g2 n_d ed⟩
theorem j9(fe:Has P w K mg base "added_counts" 1 ["one","other"] tj)(F:Fun K "added_sums" "added_sums" cL f fd):FnOk P w K mg base CX0 2 f fd ["one","other"] eU:=by
 refine F.ok O9 (fun vs H Q E h=>?_) (fun cdv A outer s H vs Q E hr h=>?_)
 ·obtain⟨r,q,a,b,rfl,_⟩:=h;rfl
 obtain⟨r,q,a,b,rfl,ha,hb,oka,okb,rm,hq⟩:=h;refine⟨_,(Z2 (Y7 (Zn P1 (Y0 Zv (pv 0) Z4) (Y0 Zv (pv 1) Z4) (Zl _)) (Z6 Sd) Zq)
 (Z6 (Zb (Z3 fe hr (Z0 (Y0 Zv (pv 0) Z4) (Z0 (Y0 Zv (pv 1) Z4) Z1)))))),?_⟩
 obtain⟨_,b1,rows1,e0,ea,eb1,pa1⟩:=DV.ty_inv ha;cases e0;obtain⟨_,b2,rows2,e0,eb,eb2,pa2⟩:=DV.ty_inv hb;cases e0;have la:=oka.len;have lb:=okb.len;have ra:=oka.room2;refine⟨_,rfl,_,_,_,_,rfl,rfl,SqT.of ea,rfl,_,rfl,_,_,_,_,rfl,rfl,SqT.of eb,rfl,rfl,_,rfl,?_⟩;rw[zy (by rw[rm])];refine Ym ?_;exact⟨_,rfl,_,_,_,_,rfl,rfl,SqT.of ea,rfl,_,rfl,_,_,_,_,rfl,rfl,SqT.of eb,rfl,b1,b2,rows1,rows2,a.cs,b.cs,rfl,eb1,eb2,pa1,pa2,oka.nd,okb.nd,by omega,by omega,fun d H' sm nd ed=>hq d H' sm nd ed⟩
theorem xS(aK:mg "sorted"=none)(ax:mg "tuple"=none)(cF:Has P w K mg base "added_sums" 2 ["one","other"] eU)(fK:Has P w K mg base "cut_of" 1 ["room","sums"] gD)(F:Fun K "merged_tally" "merged_tally" bB f fd):FnOk P w K mg base CX0 3 f fd ["one","other"] gh:=by
 refine F.ok Yz (fun vs H Q E h=>?_) (fun cdv A outer s H vs Q E hr h=>?_)
 ·obtain⟨r,q,a,b,rfl,_⟩:=h;rfl
 obtain⟨r,q,a,b,rfl,ha,hb,oka,okb,rm,hq⟩:=h;refine⟨_,(Z2 (@Vf _ _ 2 _ _ _ _ Yz.nd rfl (Or.inr rfl) (Z3 cF hr (Z0 (pv 0) (Z0 (pv 1) Z1))) (by rfl) (by first | exact .inl rfl | exact .inr rfl))
 (Z2 (Zz 3 Yz.nd rfl (Or.inl rfl) (Y0 Zv (pv 0) Z4))
 (Z2 (@Vf _ _ 4 _ _ _ _ Yz.nd rfl (Or.inr rfl) (Z3 fK hr (Z0 (pv 3) (Z0 (pv 2) Z1))) (by rfl) (by first | exact .inl rfl | exact .inr rfl))
 (Z2 (Ut (i:=5) Yz.nd rfl rfl (own:=["mark"]) (Xz rfl rfl) (Y5 (Zi (O0 rfl) rfl aK BQ (Z0 (pv 2) Z1)))
  (fun _ _ _ _ _=>(Z7 (i:=0) Vx rfl (Or.inl rfl) (Or.inr rfl))) (fun _ _ _ _ _=>(Wj (Zn U7 (Ry (Vk hr) (pv 3) (pv 0) (fun _ _=>rfl)) (pv 5) (Zl _))))
  (fun _ _ _ _ _=>(Zu (Z0 (pv 0) (Z0 (Ze W7 (Ry (Vk hr) (pv 3) (pv 0) (fun _ _=>rfl)) (pv 5)) Z1)))))
 (Z6 (Zb (Zu (Z0 (pv 3) (Z0 (X2 Vg rfl ax A1 (Z0 (pv 5) Z1)) (Z0 (Ze Y4 (Ze Y4 (Y0 Zv (pv 0) Z4) (Y0 Zv (pv 1) Z4)) (pv 4)) (Z0 (Ze Y4 (Y0 Zv (pv 0) Z4) (Y0 Zv (pv 1) Z4)) Z1))))))))))),?_⟩
 refine⟨_,rfl,_,rfl,r,q,a,b,rfl,ha,hb,oka,okb,rm,fun d H1 s1 n_d e_d=>?_⟩;have gg:=s1;have la:=oka.len;have lb:=okb.len;have ra:=oka.room2;have r0:=oka.room1;have kl:=Zs (aM a.cs b.cs);have ml:(aM a.cs b.cs).length=(ah a.cs b.cs).length:=by unfold aM;rw[ae]
 have km:=Xb a.cs b.cs;have ndm:((aM a.cs b.cs).map (·.1)).Nodup:=by rw[Xq];exact Xy oka.nd okb.nd
 obtain⟨_,b1,rows1,e0,ea,eb1,pa1⟩:=DV.ty_inv (ha.mono s1);cases e0;refine⟨_,rfl,_,_,_,_,rfl,rfl,SqT.of ea,rfl,?_⟩;refine⟨_,rfl,_,rfl,d,a.room,_,ar (aM a.cs b.cs),rfl,e_d,ma _,by omega,by rw[Xu];omega,fun H6 s6=>?_⟩;have gg:=gg.trans s6;have e_d:=s6 _ _ e_d;have ct:dQ a.room (ar (aM a.cs b.cs))=ay a.room a.cs b.cs:=by rw[nh];rfl
 rw[ct];have keys:(aw (aM a.cs b.cs)).map (·.1)=(ah a.cs b.cs).map Sum.inr:=by rw[Xr,Xq]
 have vm:∀z∈ah a.cs b.cs,aF (aw (aM a.cs b.cs)) (Sum.inr z)=some (.int (au a.cs b.cs z)):=fun z hz=>by
  obtain⟨i,hi⟩:=Br.mp hz;have e:(aM a.cs b.cs)[i]?=some (z,au a.cs b.cs z):=by unfold aM;rw[Ar,hi];rfl
  exact Qf ndm e
 refine⟨_,rfl,d,_,ah a.cs b.cs,rfl,e_d,keys,by omega,?_⟩;intro x n_x;generalize hz:upd _ x _=H7;revert H7;refine blk ?_;intro H7 hz;have gz:=Zc hz n_x;have e_x:=Zj hz;clear hz;have gg:=gg.trans gz;have e_d:=gz _ _ e_d;refine⟨x,rfl,⟨_,SqL.of e_x⟩,?_⟩;have sl:(bN (ah a.cs b.cs)).length=(ah a.cs b.cs).length:=(Zx _).length_eq;refine Yo (xs:=(bN (ah a.cs b.cs)).map V.str) (fun i ys H'=>Same H7 H'∧PairsAt H' ys (aw ((((bN (ah a.cs b.cs)).take i).filter fun z=>decide (ay a.room a.cs b.cs<au a.cs b.cs z)).map fun z=>(z,au a.cs b.cs z-ay a.room a.cs b.cs)))) ⟨Same.refl _,.nil⟩ ?_ ?_ ?_
 ·rintro i ys H' _ ⟨g,_⟩;exact SqL.of (g _ _ e_x)
 ·rintro i y ys H' C hx ⟨g,pa⟩ hC;rw[Ar]at hx;obtain⟨z,hz,rfl⟩:=An.mp hx;have zin:z∈ah a.cs b.cs:=(Zx _).mem_iff.mp (Ai hz);have ed:=g _ _ e_d;have yl:=pa.length;rw[Zs,ae]at yl;have yl2:=Ap (fun z=>decide (ay a.room a.cs b.cs<au a.cs b.cs z)) ((bN (ah a.cs b.cs)).take i);rw[Am]at yl2;have tk:=Zr hz;refine⟨Zk (by omega),Wk.refl _,_,rfl,_,rfl,d,_,rfl,.inl ⟨_,Sum.inr z,.inl ed,rfl,(vm z zin).symm⟩,_,rfl,_,_,rfl,rfl,_,rfl,?_⟩;by_cases big:ay a.room a.cs b.cs<au a.cs b.cs z
  ·rw[zy big];refine Xf ⟨_,rfl,_,rfl,_,rfl,d,_,rfl,.inl ⟨_,Sum.inr z,.inl ed,rfl,(vm z zin).symm⟩,_,rfl,_,_,rfl,rfl,leN rfl,fun p np=>hC _ _ ⟨g.trans (Z9 np _),?_⟩⟩;have one:([z].filter fun z=>decide (ay a.room a.cs b.cs<au a.cs b.cs z))=[z]:=by rw[As,Ah (zy big)];rfl
   rw[tk,AJ,one,ca];unfold aw;rw[ca];exact(pa.mono (Z9 np _)).append (.cons Z5 .nil)
  ·rw[Ag big];refine Ym (hC _ _ ⟨g,?_⟩);have one:([z].filter fun z=>decide (ay a.room a.cs b.cs<au a.cs b.cs z))=[]:=by rw[List.filter_cons,if_neg (by simpa using big)];rfl
   rw[tk,AJ,one,AN];exact pa
 rintro ys H8 ⟨g8,pa⟩;have gg:=gg.trans g8;rw[ae,At]at pa;have k_pa:PairsAt H8 ys (aw (csM a.room a.cs b.cs)):=pa;have yl:=k_pa.length;have cl:=Pz (qs:=b.cs) oka;rw[Zs]at yl;refine⟨Zd (by omega),?_⟩;intro l1 sy;generalize hz:upd _ l1 _=H9;revert H9;refine blk ?_;intro H9 hz;have gz:=Zc hz sy;have qH:=Zj hz;clear hz;have gg:=gg.trans gz;have k_pa:=k_pa.mono gz;have ha:=ha.mono gg;have hb:=hb.mono gg;obtain⟨_,_,_,e0,ea,_,_⟩:=DV.ty_inv ha;cases e0;obtain⟨_,_,_,e0,eb,_,_⟩:=DV.ty_inv hb;cases e0;refine⟨_,rfl,_,rfl,l1,_,rfl,.inl ⟨SqL.of qH,?_⟩⟩;intro l2 oA;generalize hz:upd _ l2 _=H10;revert H10;refine blk ?_;intro H10 hz;have gz:=Zc hz oA;have eL:=Zj hz;clear hz;have gg:=gg.trans gz;have k_pa:=k_pa.mono gz;have ea:=gz _ _ ea;have eb:=gz _ _ eb;refine⟨_,rfl,_,_,_,_,rfl,rfl,SqT.of ea,rfl,_,rfl,_,_,_,_,rfl,rfl,SqT.of eb,rfl,_,_,rfl,rfl,_,rfl,_,_,rfl,rfl,?_⟩;refine⟨_,rfl,_,_,_,_,rfl,rfl,SqT.of ea,rfl,_,rfl,_,_,_,_,rfl,rfl,SqT.of eb,rfl,_,_,rfl,rfl,leN rfl,?_⟩;intro l3 zY;generalize hz:upd _ l3 _=H11;revert H11;refine blk ?_;intro H11 hz;have gz:=Zc hz zY;have tU:=Zj hz;clear hz;have gg:=gg.trans gz;have k_pa:=k_pa.mono gz;have eL:=gz _ _ eL;exact hq l3 _ gg (Ty.dv (t:=aA a b) tU eL k_pa)
def aC:Tr→List (Option (List Th))
 |.leaf ts=>[some ts]
 |.node l r=>aC l++aC r++[none]
def fk:Option Tr→List (Option (List Th))
 |none=>[none]
 |some t=>aC t
theorem Wp:∀t:Tr,(aC t).length=t.size
 |.leaf ts=>rfl
 |.node l r=>by
  show(aC l++aC r++[none]).length=l.size+r.size+1;rw[ba,ba,Wp l,Wp r];rfl
def wtO:Option Tr→Nat
 |none=>1
 |some t=>2*t.size
abbrev wsz(tk:List (Option Tr)):Nat:=(tk.map wtO).sum
theorem gT:∀tk:List (Option Tr),tk.length≤wsz tk
 | []=>io _
 |none::r=>by
  have:=gT r;simp only[wsz,List.map_cons,List.sum_cons,List.length_cons,wtO]at *;omega
 |some t::r=>by
  have:=gT r;have:=t.size_pos;simp only[wsz,List.map_cons,List.sum_cons,List.length_cons,wtO]at *;omega
def WV(H:Hp)(v:V):Option Tr→Prop
 |none=>v=.non
 |some t=>DV H v t.D
def SV(H:Hp)(v:V):Option (List Th)→Prop
 |none=>v=.non
 |some ts=>DV H v (bG ts)
theorem Qt{α:Type}{R:Hp→V→α→Prop}(hm:∀{H H':Hp},Same H H'→∀{v x},R H v x→R H' v x){H H':Hp}(g:Same H H'):∀{vs:List V}{xs:List α},Paired (R H) vs xs→Paired (R H') vs xs
 |_,_,.nil=>.nil
 |_,_,.cons h r=>.cons (hm g h) (Qt hm g r)
theorem Uu{α β:Type}{R:α→β→Prop}:∀{xs us:List α}{ys ws:List β},Paired R xs ys→Paired R us ws→Paired R (xs++us) (ys++ws)
 |_,_,_,_,.nil,h=>h
 |_,_,_,_,.cons a r,h=>.cons a (Uu r h)
theorem Sf{α β:Type}{R:α→β→Prop}:∀{ys:List β}{xs:List α}{y:β},Paired R xs (ys++[y])→∃xs' x,xs=xs'++[x]∧Paired R xs' ys∧R x y
 | [],_,_,.cons a .nil=>⟨[],_,rfl,.nil,a⟩
 |_::_,_,_,.cons a r=>by
  obtain⟨xs',x,e,r',h⟩:=Sf r;exact⟨_::xs',x,by rw[e];rfl,.cons a r',h⟩
theorem Vt{α β:Type}{R:α→β→Prop}:∀{xs:List α}{ys:List β},Paired R xs ys→xs.length=ys.length
 |_,_,.nil=>rfl
 |_,_,.cons _ r=>Bm (·+1) (Vt r)
theorem gE{α β:Type}{R:α→β→Prop}:∀{xs:List α}{ys:List β}{i:Nat}{x:α},Paired R xs ys→xs[i]?=some x→∃y,ys[i]?=some y∧R x y
 |_,_,_,_,.nil,e=>by simp at e
 |_,_,0,_,.cons a _,e=>by simp at e;subst e;exact⟨_,rfl,a⟩
 |_,_,i+1,x,.cons _ r,e=>by
  obtain⟨y,h1,h2⟩:=gE (i:=i) r (by simpa using e);exact⟨y,by simpa using h1,h2⟩
def eY:Sp:=fun vs H Q _=>∃(v:V)(t:Tr)(G:Hp),vs=[v]∧Same G H∧DV G v t.D∧t.size≤1000∧
 ∀(r:Addr)(ls:List V)(H':Hp),Same H H'→H r=none→H' r=some (.lst ls)→Paired (SV G) ls (aC t)→Q (.ref r) H'
theorem qQ(ag:mg "isinstance"=none)(bw:mg "list"=none)(aG:mg "len"=none)(F:Fun K "steps_in" "steps_in" dB f fd):FnOk P w K mg base CX0 1 f fd ["tree"] eY:=by
 refine F.ok V7 (fun vs H Q E h=>?_) (fun cdv A outer s H vs Q E hr h=>?_)
 ·obtain⟨v,t,G,rfl,_⟩:=h;rfl
 obtain⟨v,t,G,rfl,gG,dv,hsz,hq⟩:=h;refine⟨_,(Z2 (Zz 1 V7.nd rfl (Or.inl rfl) (Yn Z1))
 (Z2 (Zz 2 V7.nd rfl (Or.inl rfl) (Yn (Z0 (pv 0) Z1)))
 (Z2 (iJ AV (Zn U7 (Zi Y8 rfl aG A9 (Z0 (pv 2) Z1)) Z4 (Zl _)) (Z2 (Zz 3 V7.nd rfl (Or.inl rfl) (Qw AR Cy Cz gZ (pv 2)))
 (Z6 (Y7 (PW.pt (V8 (Zn kt (pv 3) Tu (Zl _)) (W5 (Xl (Zi W0 rfl ag AM (Z0 (pv 3) (Z0 (Xs (v:=.ty "list") rfl bw PyProof.Rows.boot_list rfl) Z1))))))) (Z6 (V9 (Uf AR Bu Bv Wu (pv 1) (Z0 (pv 3) Z1)))) (Z6 (V9 (Uf AR PySem.F.slot_list_extend PySem.F.type_list_extend N4 (pv 2) (Z0 (Yn (Z0 Tu (Z0 (Y0 Zv (pv 3) Z4) (Z0 (Y0 Zv (pv 3) Z4) Z1)))) Z1))))))))
 (Z6 (Zb (pv 1)))))),?_⟩
 refine⟨leN rfl,fun Fa hFa=>?_⟩;refine⟨_,rfl,leN rfl,fun Wa hWa=>?_⟩;have hne:Wa≠Fa:=fun e=>by rw[e,Z5]at hWa;cases hWa
 have hWa0:H Wa=none:=by rw[Za hne]at hWa;exact hWa
 refine⟨fun m σ H1=>∃(ws ls:List V)(tk:List (Option Tr))(dn:List (Option (List Th)))(o:Option V),σ=[some v,some (.ref Fa),some (.ref Wa),o]∧Same H H1∧H1 Wa=some (.lst ws)∧H1 Fa=some (.lst ls)∧
   Paired (WV G) ws tk∧Paired (SV G) ls dn∧dn++tk.reverse.flatMap fk=aC t∧wsz tk+dn.length≤3000∧m=wsz tk,
  ⟨2*t.size,[v],[],[some t],[],none,rfl,(Z9 hFa _).trans (Z9 hWa _),Z5,by rw[Za (Ne.symm hne)];exact Z5,.cons dv .nil,.nil,by simp[fk],by simp[wsz,wtO];omega,by simp[wsz,wtO]⟩,?_⟩
 rintro m σ H1 ⟨ws,ls,tk,dn,o,rfl,g1,eW,eF,dW,dF,hsum,De,rfl⟩;have dl:=Vt dW;refine⟨_,rfl,Wa,ws,rfl,.inl (SqL.of eW),_,_,rfl,rfl,_,rfl,?_⟩;refine Wn (fun c=>?_) (fun c=>?_)
 ·have c:(0:Int)<(ws.length:Int):=bb c;obtain⟨tk',t1,rfl⟩:∃tk' t1,tk=tk'++[t1]:=by
   have:tk≠[]:=fun e=>by rw[e,BS]at dl;omega
   exact⟨tk.dropLast,tk.getLast this,(List.dropLast_concat_getLast this).symm⟩
  refine⟨fun σ' H'=>∃m',m'<wsz (tk'++[t1])∧_,fun _ _ h=>h,?_⟩;obtain⟨ws',y,rfl,dW',dy⟩:=Sf dW;refine⟨_,rfl,.inl ⟨rfl,_,SqL.of eW⟩,Wa,_,y,rfl,rfl,eW,by simp,?_⟩;rw[List.dropLast_concat];have g4:Same H (upd H1 Wa (.lst ws')):=Yk g1 hWa0;have eW4:upd H1 Wa (.lst ws') Wa=some (.lst ws'):=Z5;have eF4:upd H1 Wa (.lst ws') Fa=some (.lst ls):=by rw[Za (Ne.symm hne)];exact eF
  revert g4 eW4 eF4;generalize upd H1 Wa (.lst ws')=H4;intro g4 eW4 eF4;have hts:wsz (tk'++[t1])=wsz tk'+wtO t1:=by simp[wsz]
  rw[hts]at De;have tl:=gT tk';have dl:=Vt dW';have dl2:=Vt dF;cases t1 with
  |none=>
   cases (show y=V.non from dy);have hlen2:wsz tk'+1+dn.length≤3000:=De;refine⟨_,rfl,rfl,_,rfl,Xf (Xf ?_)⟩;refine⟨_,rfl,.inl ⟨rfl,_,SqL.of eF4⟩,_,rfl,Fa,ls,_,rfl,rfl,eF4,Zk (by omega),?_⟩;refine⟨wsz tk',by rw[hts];show wsz tk'<wsz tk'+1;omega,ws',ls++[.non],tk',dn++[none],_,rfl,Yk g4 hFa,by rw[Za hne];exact eW4,Z5,dW',Uu dF (.cons (show SV G .non none from rfl) .nil),?_,by rw[ba];show wsz tk'+(dn.length+1)≤3000;omega,rfl⟩;rw[←hsum];simp[fk]
  |some t1=>
  have hpos:=t1.size_pos;have dy:DV G y t1.D:=dy;cases t1 with
  |leaf ts=>
   obtain⟨b,xs,rfl,eb,qb⟩:=DV.list_inv dy;have hlen2:wsz tk'+2*1+dn.length≤3000:=De;refine⟨_,rfl,rfl,_,rfl,Ym ?_⟩;refine⟨_,rfl,_,_,"list",_,rfl,TyOf.lst (g4 _ _ (gG _ _ eb)),xz,_,rfl,Xf ?_⟩;refine⟨_,rfl,.inl ⟨rfl,_,SqL.of eF4⟩,_,rfl,Fa,ls,_,rfl,rfl,eF4,Zk (by omega),?_⟩;refine⟨wsz tk',by rw[hts];show wsz tk'<wsz tk'+2*1;omega,ws',ls++[.ref b],tk',dn++[some ts],_,rfl,Yk g4 hFa,by rw[Za hne];exact eW4,Z5,dW',Uu dF (.cons (show SV G (.ref b) (some ts)from dy) .nil),?_,by rw[ba];show wsz tk'+(dn.length+1)≤3000;omega,rfl⟩;rw[←hsum];simp[fk,aC]
  |node l r=>
   obtain⟨b,mm,x,y,rfl,eb,dx,dy2⟩:=DV.node_inv dy;have eb4:=g4 _ _ (gG _ _ eb);have hlen2:wsz tk'+2*(l.size+r.size+1)+dn.length≤3000:=De;refine⟨_,rfl,rfl,_,rfl,Ym ?_⟩;refine⟨_,rfl,_,_,"list",_,rfl,TyOf.tup eb4,wq,_,rfl,Ym ?_⟩;refine⟨_,rfl,.inl ⟨rfl,_,SqL.of eW4⟩,_,rfl,b,_,2,_,rfl,rfl,SqT.of eb4,je _ _ _,_,rfl,b,_,1,_,rfl,rfl,SqT.of eb4,sU _ _ _,leN rfl,fun q nq=>?_⟩;have g5:=g4.trans (Z9 nq (.lst [.non,y,x]));have eW5:upd H4 q (.lst [.non,y,x]) Wa=some (.lst ws'):=by rw[Za (Zf eW4 nq)];exact eW4
   have eF5:upd H4 q (.lst [.non,y,x]) Fa=some (.lst ls):=by rw[Za (Zf eF4 nq)];exact eF4
   have eq5:upd H4 q (.lst [.non,y,x]) q=some (.lst [.non,y,x]):=Z5;refine⟨Wa,q,ws',[.non,y,x],rfl,rfl,eW5,eq5,Zd (by show ws'.length+3≤_;omega),?_⟩;have nw:wsz (tk'++[none,some r,some l])=wsz tk'+(1+2*r.size+2*l.size):=by simp[wsz,wtO];omega
   refine⟨wsz (tk'++[none,some r,some l]),?_,ws'++[.non,y,x],ls,tk'++[none,some r,some l],dn,_,rfl,Yk g5 hWa0,Z5,by rw[Za (Ne.symm hne)];exact eF5,?_,dF,?_,?_,rfl⟩
   ·rw[hts,nw];show _<wsz tk'+2*(l.size+r.size+1);omega
   ·exact Uu dW' (.cons (show WV G .non none from rfl) (.cons (show WV G y (some r)from dy2) (.cons (show WV G x (some l)from dx) .nil)))
   ·rw[←hsum];simp[fk,aC]
   ·rw[nw];omega
 ·have c:¬((0:Int)<(ws.length:Int)):=BY (AO.mpr c);have e:tk=[]:=A0 (by omega);subst e;refine⟨_,rfl,?_⟩;have e:dn=aC t:=by simpa using hsum
  subst e;exact hq Fa ls _ g1 hFa eF dF
section
variable{α:Type}
def evT(fs:List Th→α)(fm:α→α→α):Tr→α
 |.leaf ts=>fs ts
 |.node l r=>fm (evT fs fm l) (evT fs fm r)
def o0(fs:List Th→α)(fm:α→α→α):List (Option (List Th))→List α→Option (List α)
 | [],st=>some st
 |some ts::r,st=>o0 fs fm r (fs ts::st)
 |none::r,y::x::st=>o0 fs fm r (fm x y::st)
 |none::_,_=>none
theorem R6(fs:List Th→α)(fm:α→α→α):∀(t:Tr)(r:List (Option (List Th)))(st:List α),o0 fs fm (aC t++r) st=o0 fs fm r (evT fs fm t::st)
 |.leaf ts,r,st=>rfl
 |.node a b,r,st=>by
  show o0 fs fm (aC a++aC b++[none]++r) st=_;rw[Bp,Bp,R6 fs fm a,R6 fs fm b];rfl
def isFs(P:Program)(w:World)(K:W.Frag)(mg:Str→Option Value)(base:Heap)(k:Nat)(Rep:Hp→V→α→Prop)(fs:List Th→α)(Hh:Hp)(f:Addr)(OkS:List Th→Prop):Prop:=∃(fd:FuncData)(ps:List Str)(sp:Sp),FnOk P w K mg base CX0 k f fd ps sp∧Binds K fd ps []∧Cal base f∧
 ∀(H:Hp)(v:V)(ts:List Th)(Q:VK)(a:Addr)(ys:List V),Same Hh H→H a=some (.lst ys)→DV H v (bG ts)→OkS ts→ts.length+1≤1000→(∀(p:V)(H':Hp),Same H H'→Rep (av a H') p (fs ts)→Q p H')→sp [v] H Q E0
def isFm(P:Program)(w:World)(K:W.Frag)(mg:Str→Option Value)(base:Heap)(k:Nat)(Rep:Hp→V→α→Prop)(fm:α→α→α)(Hh:Hp)(f:Addr)(I:α→Prop)(mu:α→Nat):Prop:=∃(fd:FuncData)(ps:List Str)(sp:Sp),FnOk P w K mg base CX0 k f fd ps sp∧Binds K fd ps []∧Cal base f∧
 ∀(H:Hp)(u v:V)(x y:α)(Q:VK)(a:Addr)(ys:List V),Same Hh H→H a=some (.lst ys)→Rep (av a H) u x→Rep (av a H) v y→I x→I y→mu x+mu y+1≤1000→(∀(p:V)(H':Hp),Same H H'→Rep (av a H') p (fm x y)→Q p H')→sp [u,v] H Q E0
def bO:List (Option (List Th))→Nat
 | []=>0
 |some ts::r=>ts.length+1+bO r
 |none::r=>1+bO r
theorem T9:∀(l m:List (Option (List Th))),bO (l++m)=bO l+bO m
 | [],m=>(Nat.zero_add _).symm
 |some ts::l,m=>by
  show ts.length+1+bO (l++m)=ts.length+1+bO l+bO m;rw[T9 l m];omega
 |none::l,m=>by
  show 1+bO (l++m)=1+bO l+bO m;rw[T9 l m];omega
theorem S4:∀t:Tr,bO (aC t)=t.all.length+t.size
 |.leaf ts=>rfl
 |.node l r=>by
  show bO (aC l++aC r++[none])=(l.all++r.all).length+(l.size+r.size+1);rw[T9,T9,S4 l,S4 r,ba];show _+(1+0)=_;omega
def eV(P:Program)(w:World)(K:W.Frag)(mg:Str→Option Value)(k:Nat)(base:Heap):Sp:=fun vs H Q _=>∃(α:Type)(Rep:Hp→V→α→Prop)(fs:List Th→α)(fm:α→α→α)(I:α→Prop)(OkS:List Th→Prop)(mu:α→Nat)(v:V)(f1 f2:Addr)(t:Tr),
 vs=[v,.ref f1,.ref f2]∧DV H v t.D∧t.size≤1000∧(∀s∈t.streams,OkS s)∧isFs P w K mg base k Rep fs H f1 OkS∧isFm P w K mg base k Rep fm H f2 I mu∧(∀ts,mu (fs ts)≤ts.length+1)∧(∀x y,mu (fm x y)≤mu x+mu y+1)∧t.all.length+t.size≤1000∧(∀ts,OkS ts→I (fs ts))∧(∀x y,I x→I y→I (fm x y))∧
 (∀{H H':Hp},Same H H'→∀{v x},Rep H v x→Rep H' v x)∧∀(p:V)(H':Hp),Same H H'→Rep H' p (evT fs fm t)→Q p H'
end
theorem Vd:∀(t:Tr)(ts:List Th),some ts∈aC t→ts∈t.streams
 |.leaf s,ts,h=>by
  have:=Af.mp h;cases this;exact .head _
 |.node a b,ts,h=>by
  show ts∈a.streams++b.streams
  rcases AI.mp (show some ts∈aC a++aC b++[none]from h)with h | h
  ·rcases AI.mp h with h | h
   ·exact Bh _ (Vd a ts h)
   ·exact Ao _ (Vd b ts h)
  ·exact nomatch Af.mp h
theorem S1{p:Addr}{H0 H1 H2:Hp}(n:H0 p=none)(s:Same H0 H1)(g:Grw p H1 H2):Same H0 H2:=fun b u e=>(Zh (g b u (by rw[Zg (Zf e n)];exact s b u e))).2
theorem tO{a:Addr}{H:Hp}{o:HO}:Same (av a H) (upd H a o):=fun b u q=>by
 obtain⟨h1,h2⟩:=Zh q;rw[Za h1];exact h2
theorem qk{k:Nat}(hk:1≤k)(dH:Has P w K mg base "steps_in" 1 ["tree"] eY)(F:Fun K "grown" "grown" gt f fd):FnOk P w K mg base CX0 (k+1) f fd ["tree","of_stream","of_two"] (eV P w K mg k base):=by
 refine F.ok Ud (fun vs H Q E h=>?_) (fun cdv A outer s H vs Q E hr h=>?_)
 ·obtain⟨_,_,_,_,_,_,_,v,f1,f2,t,rfl,_⟩:=h;rfl
 obtain⟨α,Rep,fs,fm,I,OkS,mu,v,f1,f2,t,rfl,dv,hsz,hok,⟨fd1,ps1,sp1,F1,B1,C1,u1⟩,⟨fd2,ps2,sp2,F2,B2,C2,u2⟩,mu1,mu2,cap,I1,I2,mono,hq⟩:=h;refine⟨_,(Z2 (Zz 3 Ud.nd rfl (Or.inl rfl) (Yn Z1))
 (Z2 (Xm AV rfl (Y5 (Z3 dH hr (Z0 (pv 0) Z1))) (Z7 (i:=4) Ud.nd rfl (Or.inl rfl))
 (Z6 (Y7 (Zn kt (pv 4) Tu (Zl _)) (Z2 (Zz 5 Ud.nd rfl (Or.inl rfl) (Qw AR Cy Cz gZ (pv 3)))
 (Z2 (Zz 6 Ud.nd rfl (Or.inl rfl) (Qw AR Cy Cz gZ (pv 3)))
 (Z6 (V9 (Uf AR Bu Bv Wu (pv 3) (Z0 (Qv (i:=2) hr (Z0 (pv 6) (Z0 (pv 5) Z1))) Z1)))))) (Z6 (V9 (Uf AR Bu Bv Wu (pv 3) (Z0 (Qv (i:=1) hr (Z0 (pv 4) Z1)) Z1)))))))
 (Z6 (Zb (Qw AR Cy Cz gZ (pv 3)))))),?_⟩
 refine⟨leN rfl,fun kp nkp=>?_⟩;refine⟨_,rfl,v,t,H,rfl,Z9 nkp _,dv,hsz,fun r ls H2 s2 nr er pr=>?_⟩;have ekp:H2 kp=some (.lst []):=s2 _ _ Z5;have sH:Same H H2:=(Z9 nkp _).trans s2;have krne:r≠kp:=fun z=>by rw[z,Z5]at nr;cases nr
 have lsl:=Vt pr;rw[Wp]at lsl;refine⟨r,rfl,⟨_,SqL.of er⟩,?_⟩;refine Xg (xs:=ls) (fun i σ H'=>∃(o4 o5 o6:Option V)(vs:List V)(st:List α),σ=[some v,some (.ref f1),some (.ref f2),some (.ref kp),o4,o5,o6]∧Grw kp H2 H'∧H' kp=some (.lst vs)∧Paired (Rep (av kp H')) vs st.reverse∧(∀x∈st,I x)∧st.length≤i∧(st.map mu).sum+bO ((aC t).drop i)≤1000∧o0 fs fm ((aC t).drop i) st=some [evT fs fm t])
  ⟨_,_,_,[],[],rfl,Same.refl _,ekp,.nil,(fun _ h=>nomatch h),io _,?_,?_⟩ ?_ ?_ ?_
 ·rw[List.drop_zero,S4];show 0+_≤1000;omega
 ·have:=R6 fs fm t [] [];rw[AN]at this;exact this
 ·rintro i σ H' _ ⟨_,_,_,_,_,_,g,_⟩;exact SqL.of (Zh (g _ _ (by rw[Zg krne];exact er))).2
 ·rintro i x σ H' hx ⟨o4,o5,o6,vs,st,rfl,g,ek,pst,ist,stl,cst,hm⟩;obtain⟨o,ho,sv⟩:=gE pr hx;have hd:(aC t).drop i=o::(aC t).drop (i+1):=by
   have C5:=(Ad.mp ho).1;rw[List.drop_eq_getElem_cons C5]
   congr 1
   exact(Ad.mp ho).2
  rw[hd]at hm cst;have ilt:i<ls.length:=(Ad.mp hx).1;have vl:=Vt pst;rw[List.length_reverse]at vl;cases o with
  |none=>
   cases (show x=V.non from sv);refine⟨_,rfl,rfl,_,rfl,Xf ?_⟩
   match st,hm,ist,stl,pst,vl,cst with
   |y::x::Dc,hm,ist,stl,pst,vl,cst=>
   have cst:mu y+(mu x+(Dc.map mu).sum)+(1+bO ((aC t).drop (i+1)))≤1000:=cst;have e:(y::x::Dc).reverse=Dc.reverse++[x]++[y]:=by simp
   rw[e]at pst;obtain⟨vs1,b,rfl,pst1,rb⟩:=Sf pst;obtain⟨vs2,a,rfl,pst2,ra⟩:=Sf pst1;refine⟨_,rfl,.inl ⟨rfl,_,SqL.of ek⟩,kp,_,b,rfl,rfl,ek,by simp,?_⟩;rw[List.dropLast_concat];refine⟨_,rfl,.inl ⟨rfl,_,SqL.of Z5⟩,kp,_,a,rfl,rfl,Z5,by simp,?_⟩;rw[List.dropLast_concat,mO];have gc:Grw kp H' (upd H' kp (.lst vs2)):=Wc;have ec:upd H' kp (.lst vs2) kp=some (.lst vs2):=Z5;generalize upd H' kp (.lst vs2)=Hc at gc ec⊢;have sc:Same H Hc:=S1 nkp sH (g.trans gc);refine⟨_,rfl,.inl ⟨rfl,_,SqL.of ec⟩,f2,fd2,ps2,sp2,rfl,F2,B2,C2,_,rfl,_,rfl,?_⟩;refine u2 Hc a b x y _ kp vs2 sc ec (mono gc ra) (mono gc rb) (ist x (.tail _ (.head _))) (ist y (.head _)) (by omega) fun p H3 s3 rp=>?_;have ek3:=s3 _ _ ec;have g3:Grw kp Hc H3:=Vm ec s3;refine⟨kp,vs2,p,rfl,rfl,ek3,Zk (by rw[List.length_append,List.length_append]at vl;simp at vl;simp at stl;omega),?_⟩;refine⟨_,_,_,vs2++[p],fm x y::Dc,rfl,g.trans (gc.trans (g3.trans Wc)),Z5,?_,fun z hz=>?_,by simp at stl⊢;omega,?_,hm⟩
   ·rw[List.reverse_cons];refine Uu (Qt (R:=Rep) mono (gc.trans (g3.trans Wc)) pst2) (.cons ?_ .nil);exact mono Wc rp
   ·rcases Ae.mp hz with rfl | hz
    ·exact I2 _ _ (ist x (.tail _ (.head _))) (ist y (.head _))
    ·exact ist z (.tail _ (.tail _ hz))
   ·show mu (fm x y)+(Dc.map mu).sum+_≤1000;have:=mu2 x y;omega
  |some ts=>
   have sv:DV H x (bG ts):=sv;obtain⟨b,xs,rfl,eb,qb⟩:=DV.list_inv sv;refine⟨_,rfl,rfl,_,rfl,Ym ?_⟩;have oks:=hok ts (Vd t ts (Ai ho));have sc:Same H H':=S1 nkp sH g;have dvx:DV H' (.ref b) (bG ts):=sv.mono sc;refine⟨_,rfl,.inl ⟨rfl,_,SqL.of ek⟩,f1,fd1,ps1,sp1,rfl,F1,B1,C1,_,rfl,?_⟩;have cst:(st.map mu).sum+(ts.length+1+bO ((aC t).drop (i+1)))≤1000:=cst;refine u1 H' (.ref b) ts _ kp vs sc ek dvx oks (by omega) fun p H3 s3 rp=>?_;have ek3:=s3 _ _ ek;have g3:Grw kp H' H3:=Vm ek s3;refine⟨kp,vs,p,rfl,rfl,ek3,Zk (by omega),?_⟩;refine⟨_,_,_,vs++[p],fs ts::st,rfl,g.trans (g3.trans Wc),Z5,?_,fun z hz=>?_,by simp;omega,?_,hm⟩
   ·rw[List.reverse_cons];refine Uu (Qt (R:=Rep) mono (g3.trans Wc) pst) (.cons ?_ .nil);exact mono Wc rp
   ·rcases Ae.mp hz with rfl | hz
    ·exact I1 _ oks
    ·exact ist z hz
   ·show mu (fs ts)+(st.map mu).sum+_≤1000;have:=mu1 ts;omega
 ·rintro σ H' ⟨o4,o5,o6,vs,st,rfl,g,ek,pst,ist,stl,cst,hm⟩;rw[lsl,←Wp,List.drop_length]at hm;have hst:st=[evT fs fm t]:=AK hm;subst hst
  match vs,pst with
  | [p],.cons rp .nil=>
  refine⟨_,rfl,.inl ⟨rfl,_,SqL.of ek⟩,kp,_,p,rfl,rfl,ek,rfl,?_⟩;exact hq p _ (Yk (S1 nkp sH g) nkp) (mono tO rp)
def mY:Sp:=fun vs H Q _=>∃(r:Addr)(room:Int)(t:Th),vs=[.int room,.ref r]∧H r=some (.tup t.vs)∧∀(p:Addr) H',Same H H'→DV H' (.ref p) (thT room t).D→Q (.ref p) H'
def qp:Sp:=fun vs H Q _=>∃(v:V)(room:Int)(ts:List Th),vs=[.int room,v]∧1≤room∧room≤20∧DV H v (bG ts)∧∀(p:Addr) H',Same H H'→DV H' (.ref p) (aJ room ts).D→Q (.ref p) H'
theorem yc(F:Fun K "thing_tally" "thing_tally" cn f fd):FnOk P w K mg base CX0 1 f fd ["room","thing"] mY:=by
 refine F.ok X3 (fun vs H Q E h=>?_) (fun cdv A outer s H vs Q E hr h=>?_)
 ·obtain⟨r,room,t,rfl,_⟩:=h;rfl
 obtain⟨r,room,t,rfl,e_r,hq⟩:=h;refine⟨_,(Z2 (X5 (pv 1) (Ys rfl (Z8 (Z7 (i:=2) X3.nd rfl (Or.inl rfl)) (Z8 (Z7 (i:=3) X3.nd rfl (Or.inl rfl)) (Z8 (Z7 (i:=4) X3.nd rfl (Or.inl rfl)) (Z8 (Z7 (i:=5) X3.nd rfl (Or.inl rfl)) Zt))))))
 (Z6 (Zb (Zu (Z0 (pv 0) (Z0 (Zu (Z0 (Zu (Z0 (pv 3) (Z0 (pv 5) Z1))) Z1)) (Z0 Z4 (Z0 (pv 5) Z1)))))))),?_⟩
 have gg:Same H H:=fun _ _ h=>h;refine⟨_,rfl,r,_,rfl,SqT.of e_r,rfl,_,_,rfl,_,_,rfl,_,_,rfl,_,_,rfl,rfl,?_⟩;refine⟨_,rfl,_,rfl,_,rfl,leN rfl,?_⟩;intro p1 rP;generalize hz:upd _ p1 _=H1;revert H1;refine blk ?_;intro H1 hz;have gz:=Zc hz rP;have bS:=Zj hz;clear hz;have gg:=gg.trans gz;refine⟨leN rfl,?_⟩;intro p2 sI;generalize hz:upd _ p2 _=H2;revert H2;refine blk ?_;intro H2 hz;have gz:=Zc hz sI;have cN:=Zj hz;clear hz;have gg:=gg.trans gz;have bS:=gz _ _ bS;refine⟨_,rfl,leN rfl,?_⟩;intro p3 x_;generalize hz:upd _ p3 _=H3;revert H3;refine blk ?_;intro H3 hz;have gz:=Zc hz x_;have eQ:=Zj hz;clear hz;have gg:=gg.trans gz;have bS:=gz _ _ bS;have cN:=gz _ _ cN;exact hq p3 _ gg (Ty.dv (t:=thT room t) eQ cN (.cons bS .nil))
theorem xh(ck:Has P w K mg base "empty_tally" 1 ["room"] eX)(bX:Has P w K mg base "merged_tally" 3 ["one","other"] gh)(cj:Has P w K mg base "thing_tally" 1 ["room","thing"] mY)(F:Fun K "tally_of" "tally_of" dq f fd):FnOk P w K mg base CX0 4 f fd ["room","stream"] qp:=by
 refine F.ok V6 (fun vs H Q E h=>?_) (fun cdv A outer s H vs Q E hr h=>?_)
 ·obtain⟨v,room,ts,rfl,_⟩:=h;rfl
 obtain⟨v,room,ts,rfl,r0,r1,dv,hq⟩:=h;refine⟨_,(Z2 (Zz 2 V6.nd rfl (Or.inl rfl) (Z3 ck hr (Z0 (pv 0) Z1)))
 (Z2 (Xm AV rfl (Y5 (pv 1)) (Z7 (i:=3) V6.nd rfl (Or.inl rfl))
 (Z6 (Zz 2 V6.nd rfl (Or.inl rfl) (Z3 bX hr (Z0 (pv 2) (Z0 (Z3 cj hr (Z0 (pv 0) (Z0 (pv 3) Z1))) Z1))))))
 (Z6 (Zb (pv 2))))),?_⟩
 obtain⟨b,xs,rfl,eb,qb⟩:=DV.list_inv dv;have xl:=qb.length;rw[ae]at xl;refine⟨_,rfl,_,rfl,fun p0 H0 s0 d0=>?_⟩;refine⟨_,rfl,b,rfl,⟨_,SqL.of (s0 _ _ eb)⟩,?_⟩;refine Xg (xs:=xs) (fun n σ H'=>∃(o3:Option V)(p:Addr),σ=[some (.int room),some (.ref b),some (.ref p),o3]∧Same H H'∧DV H' (.ref p) (aJ room (ts.take n)).D) ⟨_,p0,rfl,s0,d0⟩ ?_ ?_ ?_
 ·rintro n σ H' _ ⟨_,_,_,g,_⟩;exact SqL.of (g _ _ eb)
 ·rintro n x σ H' hx ⟨o3,p,rfl,g,dp⟩;obtain⟨t,c,ht,rfl,ec,hm⟩:=DVs.th_at qb hx;have tk:=Zr ht;obtain⟨oka,rma⟩:=Sx r0 r1 (ts.take n);refine⟨_,rfl,_,rfl,_,rfl,c,room,t,rfl,g _ _ ec,fun p1 H1 s1 d1=>?_⟩;refine⟨p,p1,aJ room (ts.take n),thT room t,rfl,dp.mono s1,d1,oka,ig r0 r1 t,rma,fun p2 H2 s2 d2=>?_⟩;refine⟨_,p2,rfl,g.trans (s1.trans s2),?_⟩;have e:aJ room (ts.take (n+1))=aA (aJ room (ts.take n)) (thT room t):=by
   unfold aJ;rw[tk,Ca];rfl
  rw[e];exact d2
 ·rintro σ H' ⟨o3,p,rfl,g,dp⟩;rw[xl,At]at dp;exact⟨_,rfl,hq p _ g dp⟩
def sx:Sp:=fun vs H Q _=>∃(r q:Addr)(a b:Ty),vs=[.ref r,.ref q]∧DV H (.ref r) a.D∧DV H (.ref q) b.D∧TyM a∧TyM b∧a.room=b.room∧∀(p:Addr) H',Same H H'→H p=none→PapAt H' p (aN a b)→Q (.ref p) H'
theorem xJ(i j:Int):(if j<i then j else i)=min i j:=by omega
theorem j4{H2:Hp}{d v p:Addr}{kvs:List (Key×V)}{o:Obj}{t u:HO}(ed:H2 d=some (.dK kvs))(nv:upd H2 d (.frz o (.dK kvs)) v=none)(np:upd (upd H2 d (.frz o (.dK kvs))) v t p=none):
  d≠p∧H2 p=none∧upd (upd (upd (upd H2 d (.frz o (.dK kvs))) v t) p u) d (.dK kvs) p=some u∧Same H2 (upd (upd (upd (upd H2 d (.frz o (.dK kvs))) v t) p u) d (.dK kvs)):=by
 have nvd:d≠v:=Zf Z5 nv;have nHv:H2 v=none:=by rw[Za (Ne.symm nvd)]at nv;exact nv
 have npv:p≠v:=fun z=>by rw[z,Z5]at np;cases np
 rw[Za npv]at np;have npd:d≠p:=Zf Z5 np;have nH:H2 p=none:=by rw[Za (Ne.symm npd)]at np;exact np
 refine⟨npd,nH,by rw[Za (Ne.symm npd)];exact Z5,fun b w e=>?_⟩;by_cases hbd:b=d
 ·subst hbd;rw[ed]at e;cases e;exact Z5
 ·rw[Za hbd,Za (Zf e nH),Za (Zf e nHv),Za hbd];exact e
theorem xK(aK:mg "sorted"=none)(ax:mg "tuple"=none)(eP:mg "set"=none)(eO:mg "min"=none)(cF:Has P w K mg base "added_sums" 2 ["one","other"] eU)(fK:Has P w K mg base "cut_of" 1 ["room","sums"] gD)(F:Fun K "bunches_of" "bunches_of" cH f fd):FnOk P w K mg base CX0 3 f fd ["one","other"] sx:=by
 refine F.ok Yg (fun vs H Q E h=>?_) (fun cdv A outer s H vs Q E hr h=>?_)
 ·obtain⟨r,q,a,b,rfl,_⟩:=h;rfl
 obtain⟨r,q,a,b,rfl,ha,hb,oka,okb,rm,hq⟩:=h;refine⟨_,(Z2 (@Vf _ _ 2 _ _ _ _ Yg.nd rfl (Or.inr rfl) (Z3 cF hr (Z0 (pv 0) (Z0 (pv 1) Z1))) (by rfl) (by first | exact .inl rfl | exact .inr rfl))
 (Z2 (@Vf _ _ 3 _ _ _ _ Yg.nd rfl (Or.inr rfl) (Z3 fK hr (Z0 (Y0 Zv (pv 0) Z4) (Z0 (pv 2) Z1))) (by rfl) (by first | exact .inl rfl | exact .inr rfl))
 (Z2 (Y7 (Zn P2 (pv 3) Z4 (Zl _)) (Z6 (Zb (Yn Z1))) Zq)
 (Z2 (Zz 4 Yg.nd rfl (Or.inl rfl) (Yn Z1))
 (Z2 (Zz 5 Yg.nd rfl (Or.inl rfl) Z4)
 (Z2 (Xm AV rfl (Y5 (Zi (jk rfl) rfl aK BQ (Z0 (X2 (nV rfl) rfl eP PyProof.Rows.boot_set (Z0 (ya (Y3 (own:=["times"]) (Xz rfl rfl) (tW (uY (pv 2)))
  (fun _ _ _ _ _=>(Z7 (i:=0) Ui rfl (Or.inl rfl) (Or.inr rfl))) (fun _ _ _ _ _=>Yb)
  (fun _ _ _ _ _=>(Zi (Nm rfl) rfl eO PyProof.Rows.boot_min (Z0 (pv 0) (Z0 (pv 4) Z1)))))) Z1)) Z1))) (Z7 (i:=6) Yg.nd rfl (Or.inr rfl))
 (Z2 (Ut (i:=7) Yg.nd rfl rfl (own:=["mark"]) (Xz rfl rfl) (Y5 (Zi (O0 rfl) rfl aK BQ (Z0 (pv 2) Z1)))
  (fun _ _ _ _ _=>(Z7 (i:=0) Uh rfl (Or.inl rfl) (Or.inr rfl))) (fun _ _ _ _ _=>(Wj (Zn N1 (Ry (Vk hr) (pv 3) (pv 0) (fun _ _=>rfl)) (pv 7) (Zl _))))
  (fun _ _ _ _ _=>(pv 0)))
 (Z2 (V9 (Uf AR Bu Bv Wu (pv 4) (Z0 (Zu (Z0 (X2 Vg rfl ax A1 (Z0 (pv 7) Z1)) (Z0 (Ze W7 (pv 6) (pv 5)) Z1))) Z1)))
 (Z6 (Zz 5 Yg.nd rfl (Or.inl rfl) (pv 6))))))
 (Z6 (Zb (pv 4))))))))),?_⟩
 refine⟨_,rfl,_,rfl,r,q,a,b,rfl,ha,hb,oka,okb,rm,fun d H1 s1 n_d e_d=>?_⟩;have gg:=s1;have la:=oka.len;have lb:=okb.len;have ra:=oka.room2;have r0:=oka.room1;have kl:=Zs (aM a.cs b.cs);have ml:(aM a.cs b.cs).length=(ah a.cs b.cs).length:=by unfold aM;rw[ae]
 have km:=Xb a.cs b.cs;have ndm:((aM a.cs b.cs).map (·.1)).Nodup:=by rw[Xq];exact Xy oka.nd okb.nd
 obtain⟨_,b1,rows1,e0,ea,eb1,pa1⟩:=DV.ty_inv (ha.mono s1);cases e0;refine⟨_,rfl,_,_,_,_,rfl,rfl,SqT.of ea,rfl,?_⟩;refine⟨_,rfl,d,a.room,_,ar (aM a.cs b.cs),rfl,e_d,ma _,by omega,by rw[Xu];omega,fun H6 s6=>?_⟩;have gg:=gg.trans s6;have e_d:=s6 _ _ e_d;have ct:dQ a.room (ar (aM a.cs b.cs))=ay a.room a.cs b.cs:=by rw[nh];rfl
 rw[ct];have keys:(aw (aM a.cs b.cs)).map (·.1)=(ah a.cs b.cs).map Sum.inr:=by rw[Xr,Xq]
 have vm:∀z∈ah a.cs b.cs,aF (aw (aM a.cs b.cs)) (Sum.inr z)=some (.int (au a.cs b.cs z)):=fun z hz=>by
  obtain⟨i,hi⟩:=Br.mp hz;have e:(aM a.cs b.cs)[i]?=some (z,au a.cs b.cs z):=by unfold aM;rw[Ar,hi];rfl
  exact Qf ndm e
 refine⟨_,rfl,rfl,_,rfl,?_⟩;by_cases c0:ay a.room a.cs b.cs=0
 ·rw[zy (by rw[c0])];refine Xf ⟨leN rfl,fun p np=>hq p _ (gg.trans (Z9 np _)) ?_ ?_⟩
  ·by_cases z:H p=none
   ·exact z
   ·obtain⟨u,hu⟩:=BZ.mp z;rw[gg _ _ hu]at np;cases np
  ·unfold aN;rw[Ah c0];exact⟨[],Z5,.nil⟩
 rw[Ag (fun z=>c0 (V.int.inj z))];refine Ym ?_;refine⟨leN rfl,?_⟩;intro l n_l;generalize hz:upd _ l _=H7;revert H7;refine blk ?_;intro H7 hz;have gz:=Zc hz n_l;have C7:=Zj hz;clear hz;have gg:=gg.trans gz;have e_d:=gz _ _ e_d;have nHl:H l=none:=by
  by_cases z:H l=none
  ·exact z
  ·obtain⟨u,hu⟩:=BZ.mp z;rw[s6 _ _ (s1 _ _ hu)]at n_l;cases n_l
 have dl:d≠l:=fun z=>by rw[z,C7]at e_d;cases e_d
 refine⟨d,_,e_d,fun o=>?_⟩;refine⟨_,rfl,d,_,rfl,.inr ⟨o,Z5⟩,fun v nv=>?_⟩;have nvd:d≠v:=Zf Z5 nv;refine⟨v,d,o,_,rfl,Z5,by rw[Za nvd];exact Z5,?_⟩;refine oG (fun i ys H'=>H'=upd (upd H7 d (.frz o (.dK (aw (aM a.cs b.cs))))) v (cM v d)∧ys=(((ah a.cs b.cs).take i).map fun z=>V.int (min (au a.cs b.cs z) (ay a.room a.cs b.cs)))) ⟨rfl,rfl⟩ ?_ ?_ ?_
 ·rintro i ys H' ⟨rfl,_⟩;rw[Za nvd];exact Z5
 ·rintro i p ys H' C hp ⟨rfl,rfl⟩ hC;unfold aw aM at hp;rw[AB,Ar]at hp;obtain⟨z,hz,rfl⟩:=An.mp hp;refine⟨Zk (by rw[ae,Am];omega),Wk.refl _,_,rfl,_,rfl,_,_,rfl,hC _ _ ⟨rfl,?_⟩⟩;rw[Zr hz,ca,xJ];rfl
 rintro ys H' ⟨rfl,rfl⟩;rw[kl,ml,At];refine⟨Zd (by rw[ae];omega),fun p np=>?_⟩;obtain⟨npd,nHp,ep,sp⟩:=j4 (u:=.lst ((ah a.cs b.cs).map fun z=>V.int (min (au a.cs b.cs z) (ay a.room a.cs b.cs)))) e_d nv np;refine⟨by rw[Za npd,Za nvd];exact Z5,?_⟩;generalize upd (upd (upd (upd H7 d (.frz o (.dK (aw (aM a.cs b.cs))))) v (cM v d)) p (.lst ((ah a.cs b.cs).map fun z=>V.int (min (au a.cs b.cs z) (ay a.room a.cs b.cs))))) d (.dK (aw (aM a.cs b.cs)))=H8 at ep sp⊢;have gg:=gg.trans sp;have e_d:=sp _ _ e_d;have C7:=sp _ _ C7;refine⟨p,(ah a.cs b.cs).map fun z=>min (au a.cs b.cs z) (ay a.room a.cs b.cs),rfl,?_,by rw[ae];omega,?_⟩
 ·rw[AB];exact SqL.of ep
 intro st n_st;generalize hz:upd _ st _=H9;revert H9;refine blk ?_;intro H9 hz;have gz:=Zc hz n_st;have e_st:=Zj hz;clear hz;have gg:=gg.trans gz;have e_d:=gz _ _ e_d;have C7:=gz _ _ C7;have ul:=jw ((ah a.cs b.cs).map fun z=>min (au a.cs b.cs z) (ay a.room a.cs b.cs));rw[ae]at ul;refine⟨st,_,rfl,e_st,by omega,?_⟩;have e_l9:=C7;intro lv w_;generalize hz:upd _ lv _=H10;revert H10;refine blk ?_;intro H10 hz;have gz:=Zc hz w_;have eI:=Zj hz;clear hz;have gg:=gg.trans gz;have e_d:=gz _ _ e_d;have C7:=gz _ _ C7;have lvl:lv≠l:=fun z=>by rw[z,e_l9]at w_;cases w_
 have lv_eq:kJ (gP ((ah a.cs b.cs).map fun z=>min (au a.cs b.cs z) (ay a.room a.cs b.cs)))=bR a.room a.cs b.cs:=rfl;rw[lv_eq]at eI;have ll:=iQ a.room a.cs b.cs;have n_l7:=n_l;refine⟨lv,rfl,⟨_,SqL.of eI⟩,?_⟩;refine Xg (xs:=(bR a.room a.cs b.cs).map V.int) (fun n σ H'=>∃(o6 o7:Option V)(xs:List V),σ=[some (.ref r),some (.ref q),some (.ref d),some (.int (ay a.room a.cs b.cs)),some (.ref l),some (.int ((0::bR a.room a.cs b.cs).getD n 0)),o6,o7]∧Same H H'∧H' d=some (.dK (aw (aM a.cs b.cs)))∧H' lv=some (.lst ((bR a.room a.cs b.cs).map V.int))∧H' l=some (.lst xs)∧BnsAt (av l H') xs (j5 a.cs b.cs (bR a.room a.cs b.cs) n)) ⟨_,_,[],rfl,gg,e_d,eI,C7,.nil⟩ ?_ ?_ ?_
 ·rintro n σ H' _ ⟨_,_,_,_,_,_,g,_⟩;exact SqL.of g
 ·rintro n x σ H' hx ⟨o6,o7,xs,rfl,g,ed,elv,el,bn⟩;rw[Ar]at hx;obtain⟨vv,hv,rfl⟩:=An.mp hx;have vg:(bR a.room a.cs b.cs).getD n 0=vv:=by rw[BE,hv];rfl
  have nlt:=(Ad.mp hv).1;have xl:=bn.length;rw[O1]at xl;have gg:=g;have e_d:=ed;have eI:=elv;have C7:=el;refine⟨_,rfl,d,_,ah a.cs b.cs,rfl,e_d,keys,by omega,?_⟩;intro k n_k;generalize hz:upd _ k _=H11;revert H11;refine blk ?_;intro H11 hz;have gz:=Zc hz n_k;have e_k:=Zj hz;clear hz;have gg:=gg.trans gz;have e_d:=gz _ _ e_d;have eI:=gz _ _ eI;have C7:=gz _ _ C7;have g11:=gz;refine⟨k,rfl,⟨_,SqL.of e_k⟩,?_⟩;have sl:(bN (ah a.cs b.cs)).length=(ah a.cs b.cs).length:=(Zx _).length_eq;refine Yo (xs:=(bN (ah a.cs b.cs)).map V.str) (fun i ys H'=>H'=H11∧ys=(((bN (ah a.cs b.cs)).take i).filter fun z=>decide (vv≤au a.cs b.cs z)).map V.str) ⟨rfl,rfl⟩ ?_ ?_ ?_
  ·rintro i ys H' _ ⟨rfl,_⟩;exact SqL.of e_k
  ·rintro i y ys H' C hy ⟨rfl,rfl⟩ hC;rw[Ar]at hy;obtain⟨z,hz,rfl⟩:=An.mp hy;have zin:z∈ah a.cs b.cs:=(Zx _).mem_iff.mp (Ai hz);have yl2:=Ap (fun z=>decide (vv≤au a.cs b.cs z)) ((bN (ah a.cs b.cs)).take i);rw[Am]at yl2;refine⟨Zk (by rw[ae];omega),Wk.refl _,_,rfl,_,rfl,d,_,rfl,.inl ⟨_,Sum.inr z,.inl e_d,rfl,(vm z zin).symm⟩,_,rfl,_,_,rfl,rfl,_,rfl,?_⟩;rw[Zr hz,AJ]at hC;by_cases big:vv≤au a.cs b.cs z
   ·rw[zy big];refine Xf ⟨_,rfl,hC _ _ ⟨rfl,?_⟩⟩;rw[As,Ah (zy big),ca];rfl
   ·rw[Ag big];refine Ym (hC _ _ ⟨rfl,?_⟩);rw[List.filter_cons,if_neg (by simpa using big),List.filter_nil,List.append_nil]
  rintro ys H' ⟨rfl,rfl⟩;have lf:((bN (ah a.cs b.cs)).map V.str).length=(bN (ah a.cs b.cs)).length:=ae _;rw[lf,At];have fl:=Ap (fun z=>decide (vv≤au a.cs b.cs z)) (bN (ah a.cs b.cs));refine⟨Zd (by rw[ae];omega),?_⟩;intro ms n_ms;generalize hz:upd _ ms _=H12;revert H12;refine blk ?_;intro H12 hz;have gz:=Zc hz n_ms;have e_ms:=Zj hz;clear hz;have gg:=gg.trans gz;have e_d:=gz _ _ e_d;have eI:=gz _ _ eI;have C7:=gz _ _ C7;have g12:=gz;refine⟨_,rfl,.inl ⟨rfl,_,SqL.of C7⟩,_,rfl,ms,_,rfl,.inl ⟨SqL.of e_ms,?_⟩⟩;intro tp n_tp;generalize hz:upd _ tp _=H13;revert H13;refine blk ?_;intro H13 hz;have gz:=Zc hz n_tp;have qL:=Zj hz;clear hz;have gg:=gg.trans gz;have e_d:=gz _ _ e_d;have eI:=gz _ _ eI;have C7:=gz _ _ C7;have g13:=gz;refine⟨_,rfl,_,rfl,_,_,rfl,rfl,leN rfl,?_⟩;intro t2 n_t2;generalize hz:upd _ t2 _=H14;revert H14;refine blk ?_;intro H14 hz;have gz:=Zc hz n_t2;have yo:=Zj hz;clear hz;have gg:=gg.trans gz;have e_d:=gz _ _ e_d;have eI:=gz _ _ eI;have C7:=gz _ _ C7;have qL:=gz _ _ qL;have g14:=gz;have gg':=((g11.trans g12).trans g13).trans g14;refine⟨l,xs,_,rfl,rfl,C7,Zk (by omega),?_⟩;refine⟨_,rfl,some (.int vv),some (.ref ms),xs++[.ref t2],?_,?_,?_,?_,Z5,?_⟩
  ·show _=[some (V.ref r),some (V.ref q),some (V.ref d),some (V.int (ay a.room a.cs b.cs)),some (V.ref l),some (V.int ((bR a.room a.cs b.cs).getD n 0)),some (.int vv),some (.ref ms)];rw[vg];rfl
  ·exact fun y u e=>by rw[Za (Zf e nHl)];exact gg y u e
  ·rw[Za dl];exact e_d
  ·rw[Za lvl];exact eI
  ·rw[nJ];have n2:t2≠l:=fun z=>by rw[z,C7]at yo;cases yo
   have n3:tp≠l:=fun z=>by rw[z,C7]at qL;cases qL
   refine(bn.mono ((Vm el gg').trans Wc)).append (.cons (a:=t2) (c:=tp) ?_ ?_ .nil)
   ·rw[Zg n2,Za n2,yo];show _=some (HO.tup [.ref tp,.int ((bR a.room a.cs b.cs).getD n 0-(0::bR a.room a.cs b.cs).getD n 0)]);rw[vg]
   ·rw[Zg n3,Za n3,qL];show _=some (HO.tup ((aD a.cs b.cs ((bR a.room a.cs b.cs).getD n 0)).map V.str));rw[vg];rfl
 ·rintro σ H' ⟨o6,o7,xs,rfl,g,ed,elv,el,bn⟩;refine⟨_,rfl,hq l _ g nHl ?_⟩;rw[ae]at bn;unfold aN;rw[Aj c0];exact⟨xs,el,bn.mono Yd⟩
abbrev TyP:=Ty×List Bn
def cS(room:Int)(p:TyP)(t:Th):TyP:=(aA p.1 (thT room t),p.2++aN p.1 (thT room t))
def bP(room:Int)(ts:List Th):TyP:=ts.foldl (cS room) (Ty.zero room,[])
def aU(room:Int):Tr→TyP
 |.leaf ts=>bP room ts
 |.node l r=>(aA (aU room l).1 (aU room r).1,(aU room l).2++(aU room r).2++aN (aU room l).1 (aU room r).1)
theorem Rf{a b:Ty}(h:TyM a)(g:TyM b):(aN a b).length≤40:=by
 unfold aN
 split
 ·exact Bc _
 ·rw[O1];have l1:=iQ a.room a.cs b.cs;have l3:=Xb a.cs b.cs;have l4:=h.len;have l5:=g.len;have l6:=h.room2;have l7:=g.room2;omega
structure TPk(room:Int)(n:Nat)(p:TyP):Prop where
 ok:TyM p.1
 rm:p.1.room=room
 len:p.2.length≤40*n
theorem rB{room:Int}{n:Nat}{p:TyP}{t:Th}(h1:1≤room)(h2:room≤20)(h:TPk room n p):TPk room (n+1) (cS room p t):=by
 have ok2:=ig h1 h2 t;refine⟨h.ok.merge ok2,h.rm,?_⟩;show(p.2++aN p.1 (thT room t)).length≤_;rw[ba];have:=Rf h.ok ok2;have:=h.len;omega
theorem jz{room:Int}(h1:1≤room)(h2:room≤20):∀(ts:List Th)(n:Nat)(p:TyP),TPk room n p→TPk room (n+ts.length) (ts.foldl (cS room) p)
 | [],n,p,h=>h
 |t::ts,n,p,h=>by
  have:=jz h1 h2 ts (n+1) _ (rB (t:=t) h1 h2 h);rw[AD,show n+(ts.length+1)=n+1+ts.length by omega];exact this
theorem i4{room:Int}(h1:1≤room)(h2:room≤20)(ts:List Th):TPk room ts.length (bP room ts):=by
 have:=jz h1 h2 ts 0 (Ty.zero room,[]) ⟨⟨h1,h2,AQ,by show((0:Nat):Int)≤room;omega⟩,rfl,Bc _⟩
 rwa [Nat.zero_add]at this
theorem Yq{H H':Hp}{p:Addr}(g:Same H H')(n:H' p=none):H p=none:=by
 by_cases z:H p=none
 ·exact z
 ·obtain⟨u,hu⟩:=BZ.mp z;rw[g _ _ hu]at n;cases n
def js:Sp:=fun vs H Q _=>∃(p q t1 t2 l1 l2:Addr)(x y:TyP),vs=[.ref p,.ref q]∧H p=some (.tup [.ref t1,.ref l1])∧H q=some (.tup [.ref t2,.ref l2])∧DV H (.ref t1) x.1.D∧DV H (.ref t2) y.1.D∧PapAt H l1 x.2∧PapAt H l2 y.2∧
 TyM x.1∧TyM y.1∧x.1.room=y.1.room∧x.2.length+y.2.length≤100000∧∀(r t l:Addr) H',Same H H'→H r=none→H l=none→H' r=some (.tup [.ref t,.ref l])→DV H' (.ref t) (aA x.1 y.1).D→PapAt H' l (x.2++y.2++aN x.1 y.1)→Q (.ref r) H'
def rY:Sp:=fun vs H Q _=>∃(v:V)(room:Int)(ts:List Th),vs=[.int room,v]∧1≤room∧room≤20∧DV H v (bG ts)∧ts.length≤1000∧∀(r t l:Addr) H',Same H H'→H r=none→H l=none→H' r=some (.tup [.ref t,.ref l])→DV H' (.ref t) (bP room ts).1.D→PapAt H' l (bP room ts).2→Q (.ref r) H'
theorem xV(bX:Has P w K mg base "merged_tally" 3 ["one","other"] gh)(iC:Has P w K mg base "bunches_of" 3 ["one","other"] sx)(F:Fun K "merged_with_paper" "merged_with_paper" aS f fd):FnOk P w K mg base CX0 4 f fd ["one","other"] js:=by
 refine F.ok Y9 (fun vs H Q E h=>?_) (fun cdv A outer s H vs Q E hr h=>?_)
 ·obtain⟨p,q,t1,t2,l1,l2,x,y,rfl,_⟩:=h;rfl
 obtain⟨p,q,t1,t2,l1,l2,x,y,rfl,ep,eq,d1,d2,pp1,pp2,okx,oky,rm,len,hq⟩:=h;refine⟨_,(Z2 (X5 (pv 0) (Ys rfl (Z8 (Z7 (i:=2) Y9.nd rfl (Or.inl rfl)) (Z8 (Z7 (i:=3) Y9.nd rfl (Or.inl rfl)) Zt))))
 (Z2 (X5 (pv 1) (Ys rfl (Z8 (Z7 (i:=4) Y9.nd rfl (Or.inl rfl)) (Z8 (Z7 (i:=5) Y9.nd rfl (Or.inl rfl)) Zt))))
 (Z6 (Zb (Zu (Z0 (Z3 bX hr (Z0 (pv 2) (Z0 (pv 4) Z1))) (Z0 (Ze R0 (Ze R0 (pv 3) (pv 5)) (Z3 iC hr (Z0 (pv 2) (Z0 (pv 4) Z1)))) Z1))))))),?_⟩
 refine⟨_,rfl,p,_,rfl,SqT.of ep,rfl,_,_,rfl,_,_,rfl,rfl,?_⟩;refine⟨_,rfl,q,_,rfl,SqT.of eq,rfl,_,_,rfl,_,_,rfl,rfl,?_⟩;refine⟨_,rfl,_,rfl,t1,t2,x.1,y.1,rfl,d1,d2,okx,oky,rm,fun m H1 s1 dm=>?_⟩;obtain⟨xs,ex,bx⟩:=pp1.mono s1;obtain⟨ys,ey,by_⟩:=pp2.mono s1;have lx:=bx.length;have ly:=by_.length;have gg:=s1;have k_dm:=dm;have k_bx:=bx;have k_by:=by_;have k_d1:=d1.mono s1;have k_d2:=d2.mono s1;refine⟨_,rfl,_,rfl,l1,l2,xs,ys,rfl,rfl,ex,ey,Zd (by omega),?_⟩;intro z1 uL;generalize hz:upd _ z1 _=H2;revert H2;refine blk ?_;intro H2 hz;have gz:=Zc hz uL;have k9:=Zj hz;clear hz;have gg:=gg.trans gz;have k_dm:=k_dm.mono gz;have k_bx:=k_bx.mono gz;have k_by:=k_by.mono gz;have k_d1:=k_d1.mono gz;have k_d2:=k_d2.mono gz;refine⟨_,rfl,_,rfl,t1,t2,x.1,y.1,rfl,k_d1,k_d2,okx,oky,rm,fun b H3 s3 nb pb=>?_⟩;obtain⟨zs,ez,bz⟩:=pb;have lz:=bz.length;have bl:=Rf okx oky;have gg:=gg.trans s3;have k_dm:=k_dm.mono s3;have k_bx:=k_bx.mono s3;have k_by:=k_by.mono s3;have k_bz:=bz;have k9:=s3 _ _ k9;have e_z:=ez;refine⟨z1,b,xs++ys,zs,rfl,rfl,k9,e_z,Zd (by rw[ba];omega),?_⟩;have g0:=gg;intro z2 pQ;generalize hz:upd _ z2 _=H4;revert H4;refine blk ?_;intro H4 hz;have gz:=Zc hz pQ;have p8:=Zj hz;clear hz;have gg:=gg.trans gz;have k_dm:=k_dm.mono gz;have k_bx:=k_bx.mono gz;have k_by:=k_by.mono gz;have k_bz:=k_bz.mono gz;have n2:=Yq g0 pQ;have g1:=gg;refine⟨leN rfl,?_⟩;intro z3 ze;generalize hz:upd _ z3 _=H5;revert H5;refine blk ?_;intro H5 hz;have gz:=Zc hz ze;have e_z3:=Zj hz;clear hz;have gg:=gg.trans gz;have k_dm:=k_dm.mono gz;have k_bx:=k_bx.mono gz;have k_by:=k_by.mono gz;have k_bz:=k_bz.mono gz;have p8:=gz _ _ p8;exact hq z3 m z2 _ gg (Yq g1 ze) n2 e_z3 k_dm ⟨_,p8,(k_bx.append k_by).append k_bz⟩
theorem yn(ck:Has P w K mg base "empty_tally" 1 ["room"] eX)(cj:Has P w K mg base "thing_tally" 1 ["room","thing"] mY)(dh:Has P w K mg base "merged_with_paper" 4 ["one","other"] js)(F:Fun K "stream_with_paper" "stream_with_paper" a9 f fd):FnOk P w K mg base CX0 5 f fd ["room","stream"] rY:=by
 refine F.ok Yp (fun vs H Q E h=>?_) (fun cdv A outer s H vs Q E hr h=>?_)
 ·obtain⟨v,room,ts,rfl,_⟩:=h;rfl
 obtain⟨v,room,ts,rfl,r0,r1,dv,tl,hq⟩:=h;refine⟨_,(Z2 (Zz 2 Yp.nd rfl (Or.inl rfl) (Zu (Z0 (Z3 ck hr (Z0 (pv 0) Z1)) (Z0 (Yn Z1) Z1))))
 (Z2 (Xm AV rfl (Y5 (pv 1)) (Z7 (i:=3) Yp.nd rfl (Or.inl rfl))
 (Z6 (Zz 2 Yp.nd rfl (Or.inl rfl) (Z3 dh hr (Z0 (pv 2) (Z0 (Zu (Z0 (Z3 cj hr (Z0 (pv 0) (Z0 (pv 3) Z1))) (Z0 (Yn Z1) Z1))) Z1))))))
 (Z6 (Zb (pv 2))))),?_⟩
 obtain⟨b,xs,rfl,eb,qb⟩:=DV.list_inv dv;have xl:=qb.length;rw[ae]at xl;refine⟨_,rfl,_,rfl,fun p0 H0 s0 d0=>?_⟩;have gg:=s0;have k_d0:=d0;refine⟨leN rfl,?_⟩;have g0:=gg;intro z1 uL;generalize hz:upd _ z1 _=H1;revert H1;refine blk ?_;intro H1 hz;have gz:=Zc hz uL;have k9:=Zj hz;clear hz;have gg:=gg.trans gz;have k_d0:=k_d0.mono gz;have nz1:=Yq g0 uL;have g1:=gg;refine⟨leN rfl,?_⟩;intro z2 pQ;generalize hz:upd _ z2 _=H2;revert H2;refine blk ?_;intro H2 hz;have gz:=Zc hz pQ;have p8:=Zj hz;clear hz;have gg:=gg.trans gz;have k_d0:=k_d0.mono gz;have k9:=gz _ _ k9;have nz2:=Yq g1 pQ;refine⟨_,rfl,b,rfl,⟨_,SqL.of (gg _ _ eb)⟩,?_⟩;refine Xg (xs:=xs) (fun n σ H'=>∃(o3:Option V)(r t l:Addr),σ=[some (.int room),some (.ref b),some (.ref r),o3]∧Same H H'∧H r=none∧H l=none∧H' r=some (.tup [.ref t,.ref l])∧DV H' (.ref t) (bP room (ts.take n)).1.D∧PapAt H' l (bP room (ts.take n)).2) ⟨_,z2,p0,z1,rfl,gg,nz2,nz1,p8,k_d0,[],k9,.nil⟩ ?_ ?_ ?_
 ·rintro n σ H' _ ⟨_,_,_,_,_,g,_⟩;exact SqL.of (g _ _ eb)
 ·rintro n x σ H' hx ⟨o3,r,t,l,rfl,g,nr,nl,er,dt,pl⟩;obtain⟨th,c,hth,rfl,ec,hm⟩:=DVs.th_at qb hx;have tk:=Zr hth;have inv:=i4 r0 r1 (ts.take n);have il:=inv.len;rw[Am]at il;refine⟨_,rfl,_,rfl,_,rfl,c,room,th,rfl,g _ _ ec,fun p1 H3 s3 d1=>?_⟩;have gg:=g.trans s3;have e_r:=s3 _ _ er;have k_dt:=dt.mono s3;have k_pl:=pl.mono s3;have k_d1:=d1;refine⟨leN rfl,?_⟩;intro q1 oI;generalize hz:upd _ q1 _=H4;revert H4;refine blk ?_;intro H4 hz;have gz:=Zc hz oI;have cX:=Zj hz;clear hz;have gg:=gg.trans gz;have e_r:=gz _ _ e_r;have k_dt:=k_dt.mono gz;have k_pl:=k_pl.mono gz;have k_d1:=k_d1.mono gz;refine⟨leN rfl,?_⟩;intro q2 qV;generalize hz:upd _ q2 _=H5;revert H5;refine blk ?_;intro H5 hz;have gz:=Zc hz qV;have pB:=Zj hz;clear hz;have gg:=gg.trans gz;have e_r:=gz _ _ e_r;have k_dt:=k_dt.mono gz;have k_pl:=k_pl.mono gz;have k_d1:=k_d1.mono gz;have cX:=gz _ _ cX;refine⟨r,q2,t,p1,l,q1,bP room (ts.take n),(thT room th,[]),rfl,e_r,pB,k_dt,k_d1,k_pl,⟨[],cX,.nil⟩,inv.ok,ig r0 r1 th,inv.rm,by show _+0≤_;omega,fun r6 t6 l6 H6 s6 nr6 nl6 e6 d6 p6=>?_⟩;have e:bP room (ts.take (n+1))=cS room (bP room (ts.take n)) th:=by
   unfold bP;rw[tk,Ca];rfl
  rw[e];rw[AN]at p6;exact⟨_,r6,t6,l6,rfl,gg.trans s6,Yq gg nr6,Yq gg nl6,e6,d6,p6⟩
 ·rintro σ H' ⟨o3,r,t,l,rfl,g,nr,nl,er,dt,pl⟩;rw[xl,At]at dt pl;exact⟨_,rfl,hq r t l _ g nr nl er dt pl⟩
def lamE(st:Stmt):Expr:=match defBody st with
 | [.Assign _ (.Call _ (_::e::_) _ _) _,_]=>e
 |_=>.Constant .none 0 ⟨0,0,0,0⟩
def dw(e:Expr):Pos:=match e with
 |.Lambda _ _ _ p=>p
 |_=>⟨0,0,0,0⟩
def b_(e:Expr):Scope:=match e with
 |.Lambda _ _ sc _=>sc
 |_=>{kind:=.function,names:=[],isGenerator:=false,isCoroutine:=false}
abbrev cR:Expr:=lamE aj
abbrev qGT:Str:=("tally_paper":Str)++".<locals>."++"<lambda>"
theorem scL:LamScope ["stream"] ["room"] (b_ cR):=⟨rfl,rfl,rfl,by decide +kernel,by decide +kernel,fun x h=>by
  have:∀y∈(b_ cR).names,y.2=.free→y.1="room":=by decide +kernel
  have e:x="room":=this (x,.free) (AL h) rfl;rw[e];exact .head _,by decide +kernel,by decide +kernel⟩
mutual
theorem U4{H:Hp}{a:Addr}(n1:∀xs,H a≠some (.lst xs))(n2:∀xs,H a≠some (.tup xs)):∀{v:V}{d:PyData},DV H v d→DV (av a H) v d
 |_,_,.non=>.non
 |_,_,.bl b=>.bl b
 |_,_,.int i=>.int i
 |_,_,.str x=>.str x
 |_,_,.lst e r=>.lst (by rw[Zg (fun z=>n1 _ (z ▸ e))];exact e) (Pt n1 n2 r)
 |_,_,.tup e r=>.tup (by rw[Zg (fun z=>n2 _ (z ▸ e))];exact e) (Pt n1 n2 r)
theorem Pt{H:Hp}{a:Addr}(n1:∀xs,H a≠some (.lst xs))(n2:∀xs,H a≠some (.tup xs)):∀{vs:List V}{ds:List PyData},DVs H vs ds→DVs (av a H) vs ds
 |_,_,.nil=>.nil
 |_,_,.cons h r=>.cons (U4 n1 n2 h) (Pt n1 n2 r)
end
theorem h_{H:Hp}{a:Addr}{xs:List V}(e:H a=some (.lst xs)){v:V}{t:Ty}(d:DV H v t.D):DV (av a H) v t.D:=by
 have tp:∀{b:Addr}{ys:List V},H b=some (.tup ys)→av a H b=some (.tup ys):=fun{b ys} h=>by
  rw[Zg (fun z=>by rw[z,e]at h;cases h)];exact h
 have pr:∀{ys:List V}{kvs:List (Key×V)},PairsAt H ys kvs→PairsAt (av a H) ys kvs:=fun{ys kvs} h=>by
  induction h with
  |nil=>exact .nil
  |cons h _ ih=>exact .cons (tp h) ih
 obtain⟨p,b,rows,rfl,e1,e2,pa⟩:=DV.ty_inv d;exact Ty.dv (tp e1) (tp e2) (pr pa)
abbrev Tn:=TyP×Nat
def fsN(room:Int)(ts:List Th):Tn:=(bP room ts,ts.length+1)
def fmN(x y:Tn):Tn:=((aA x.1.1 y.1.1,x.1.2++y.1.2++aN x.1.1 y.1.1),x.2+y.2+1)
theorem hW(room:Int):∀t:Tr,(evT (fsN room) fmN t).1=aU room t
 |.leaf ts=>rfl
 |.node l r=>by
  show((aA (evT (fsN room) fmN l).1.1 (evT (fsN room) fmN r).1.1,(evT (fsN room) fmN l).1.2++(evT (fsN room) fmN r).1.2++aN (evT (fsN room) fmN l).1.1 (evT (fsN room) fmN r).1.1))=_;rw[hW room l,hW room r];rfl
def zd(H0:Hp)(H:Hp)(v:V)(x:Tn):Prop:=∃p t l:Addr,v=.ref p∧H p=some (.tup [.ref t,.ref l])∧DV H (.ref t) x.1.1.D∧PapAt H l x.1.2∧H0 l=none
theorem jV{H0 H:Hp}{a:Addr}{ys:List V}(e:H a=some (.lst ys)){p t l:Addr}{x:Tn}(ep:H p=some (.tup [.ref t,.ref l]))(d:DV H (.ref t) x.1.1.D)(pl:PapAt H l x.1.2)(n:l≠a)(n0:H0 l=none):zd H0 (av a H) (.ref p) x:=by
 obtain⟨xs,el,bn⟩:=pl;refine⟨p,t,l,rfl,?_,h_ e d,⟨xs,by rw[Zg n];exact el,iY e bn⟩,n0⟩;rw[Zg (fun z=>by rw[z,e]at ep;cases ep)];exact ep
def yV(T:Addr):Sp:=fun vs H Q _=>∃(v:V)(room:Int)(t:Tr),vs=[.int room,v]∧1≤room∧room≤20∧DV H v t.D∧t.size≤1000∧t.all.length+t.size≤1000∧LamAt T (dw cR) qGT H∧
 ∀(l:Addr) H',Same (av T H) (av T H')→LamAt T (dw cR) qGT H'→H l=none→PapAt H' l (aU room t).2→Q (.ref l) H'
def wN(c:Addr)(room:Int):Sp:=fun vs H Q _=>∃(v:V)(ts:List Th),vs=[v]∧H c=some (crO qGT c)∧DV H v (bG ts)∧ts.length≤1000∧∀(r t l:Addr) H',Same H H'→H r=none→H l=none→H' r=some (.tup [.ref t,.ref l])→DV H' (.ref t) (bP room ts).1.D→PapAt H' l (bP room ts).2→Q (.ref r) H'
theorem yB{c T f2:Addr}{oc:Value}{od an:Option Addr}{osl:Array (Option Value)}{kV doc pm ct:Value}{fd2:FuncData}(lk:K.lookup f=some ⟨oc,od,.func (W.fnOf "tally_paper" "tally_paper" (defArgs aj) (defBody aj) (defScope aj) .none kV doc pm an (.ref c) ct),osl⟩)(hcd:W.codeIn K (.ref c) "tally_paper"=true)(C:W.CodeHd base c T)(hgP:mainGlobals≠T)(hB:base.BuiltinsAt mg T)(hb_grown:HasB P w K mg "grown" 7 ["tree","of_stream","of_two"] (eV P w K mg 6))(hT:∀base:Heap,K.In base→base.Ns mainGlobals mg→Has P w K mg base "stream_with_paper" 5 ["room","stream"] rY)(hM:∀base:Heap,K.In base→base.Ns mainGlobals mg→Has P w K mg base "merged_with_paper" 4 ["one","other"] js)(m2:mg "merged_with_paper"=some (.ref f2))(F2:Fun K "merged_with_paper" "merged_with_paper" aS f2 fd2):
  FnOk P w K mg base CX0 8 f (W.fnOf "tally_paper" "tally_paper" (defArgs aj) (defBody aj) (defScope aj) .none kV doc pm an (.ref c) ct) ["room","tree"] (yV T):=by
 refine l8 (k:=7) lk hcd Wz (fun vs H Q E h=>?_) (fun A outer s H vs Q E hr h=>?_)
 ·obtain⟨v,room,t,rfl,_⟩:=h;rfl
 obtain⟨v,room,t,rfl,r0,r1,dv,hsz,cap,lam,hq⟩:=h;have xG:∃u,mg "merged_with_paper"=some u∧RelV (.ref f2) u:=⟨_,m2,rfl⟩;have hf:∀x∈(b_ cR).names,x.2=.free→∃c',(PyProof.Rows.envOfC "tally_paper" (defScope aj) s.heap.objs.size f (.ref c)).cells.lookup x.1=some c':=fun x hx hk=>by
  have:∀y∈(b_ cR).names,y.2=.free→(defScope aj).names.lookup y.1=some .cell:=by decide +kernel
  exact Ss (this x hx hk)
 refine⟨_,Z2 (X5 (jv hb_grown (fun _=>rfl) rfl rfl hr (Z0 (pv 1) (Z0 (qg (c:=c) (T:=T) (sc:=b_ cR) rfl C hgP hB hf) (Z0 (Wf rfl xG) Z1)))) (Ys rfl (Z8 (Z7 (i:=2) Wz.nd rfl (Or.inl rfl)) (Z8 (Z7 (i:=3) Wz.nd rfl (Or.inl rfl)) Zt)))) (Z6 (Zb (pv 3))),?_⟩;refine⟨_,rfl,lam,fun a c' pm2 ctv H1 g1 na nac eT ec ea=>?_⟩;have tT:H T≠none:=by
  rcases lam.tab with e | ⟨_,e,_⟩ <;> (rw[e];exact fun z=>nomatch z)
 have nT1:∀xs,H T≠some (.lst xs):=by
  rcases lam.tab with e | ⟨_,e,_⟩ <;> (rw[e];exact fun _ z=>nomatch z)
 have nT2:∀xs,H T≠some (.tup xs):=by
  rcases lam.tab with e | ⟨_,e,_⟩ <;> (rw[e];exact fun _ z=>nomatch z)
 have aT:a≠T:=fun z=>tT (z ▸ na);have dv1:DV H1 v t.D:=((U4 nT1 nT2 dv).mono g1).mono Yd;have dva:DV (av a H1) v t.D:=U4 (by rw[ea];exact fun _ z=>nomatch z) (by rw[ea];exact fun _ z=>nomatch z) dv1;refine⟨a,_,ea,fun B wid=>?_⟩;have wfn:=wid.fn;have ec2:av a H1 c'=some (crO qGT c'):=by rw[Zg (Ne.symm nac)];exact ec
 have cls:∀x d,(aR (PyProof.Rows.envOfC "tally_paper" (defScope aj) s.heap.objs.size f (.ref c)) (b_ cR).names).lookup x=some d→(PyProof.Rows.envOfC "tally_paper" (defScope aj) s.heap.objs.size f (.ref c)).cells.lookup x=some d:=fun x d e=>Tb _ [] hf (fun _ h=>nomatch h) (x,d) (AL e);refine⟨Tn,zd (av a H1),fsN room,fmN,fun x=>TyM x.1.1∧x.1.1.room=room∧x.1.2.length≤40*x.2,fun _=>True,fun x=>x.2,v,a,f2,t,rfl,dva,hsz,(fun _ _=>trivial),?_,?_,fun ts=>io _,fun x y=>io _,cap,fun ts h=>?_,fun x y h1 h2=>?_,?_,?_⟩
 ·refine⟨_,["stream"],wN c' room,sV (k:=5) (us:=[.int room]) (fr:=["room"]) wfn scL rfl ?_ (fun x y d e1 e2=>wid.inj x y d (cls x d e1) (cls y d e2)) (fun x d e=>wid.cells x d (cls x d e)) (fun vs H Q E h=>?_) (fun vs H Q E h=>?_) (fun A outer s H vs Q E hr h=>?_),?_,⟨_,_,_,_,wfn⟩,?_⟩
  ·intro i x u h1 h2
   match i,h1,h2 with
   | 0,h1,h2=>
   cases h1;cases h2;obtain⟨c2,u2,e1,e2,rv⟩:=wid.cell 0 "room" (.int room) rfl rfl rfl;obtain⟨c3,hc3⟩:=Tc (b_ cR).names [] (env:=PyProof.Rows.envOfC "tally_paper" (defScope aj) s.heap.objs.size f (.ref c)) "room" (AL (scL.fre "room" (.head _)));obtain⟨c4,hc4⟩:=Wb hc3;have e3:=cls _ _ hc4;have e4:c4=c2:=AK (e3.symm.trans e1);subst e4;exact⟨c4,u2,hc4,e2,rv⟩
  ·obtain⟨_,_,_,e,_⟩:=h;exact e
  ·obtain⟨_,_,rfl,_⟩:=h;rfl
  ·obtain⟨u,ts,rfl,e,d,tl,hq2⟩:=h;have de:=hT B wid.kin wid.glb;refine⟨_,Z3 de hr (Z0 (pv 1) (Z0 (pv 0) Z1)),?_⟩;exact⟨_,rfl,_,rfl,u,room,ts,rfl,r0,r1,d,tl,hq2⟩
  ·exact .all fun us hl=>match us,hl with | [_],_=>rfl
  ·exact fun H u ts Q a ys s ea d ok tl hq2=>⟨u,ts,rfl,s _ _ ec2,d,by omega,fun r t l H' s' nr nl er dt pl=>hq2 (.ref r) H' s' (jV (x:=fsN room ts) (s' _ _ ea) er dt pl (fun z=>by rw[z,ea]at nl;cases nl) (Yq s nl))⟩
 ·obtain⟨f',fd',FM,bM,kM,mM⟩:=(hM B wid.kin wid.glb).ex;have e:f'=f2:=by
   rw[m2]at mM;cases mM;rfl
  subst e;obtain⟨oc2,od2,kV2,doc2,pm3,an2,cdv2,ct2,osl2,_,lk2,_⟩:=F2.ex;refine⟨fd',["one","other"],js,FM.mono (by decide),bM,⟨_,_,_,_,wid.kin _ _ lk2⟩,?_⟩;rintro H u u' x y Q a ys s ea ⟨p,t1,l1,rfl,ep,d1,q1,_⟩ ⟨q,t2,l2,rfl,eq,d2,q2,_⟩ ix iy cp hq2;have cp:x.2+y.2+1≤1000:=cp;refine⟨p,q,t1,t2,l1,l2,x.1,y.1,rfl,(Zh ep).2,(Zh eq).2,d1.mono Yd,d2.mono Yd,q1.mono Yd,q2.mono Yd,ix.1,iy.1,ix.2.1.trans iy.2.1.symm,?_,fun r t l H' s' nr nl er dt pl=>hq2 (.ref r) H' s' (jV (x:=fmN x y) (s' _ _ ea) er dt pl (fun z=>by rw[z,ea]at nl;cases nl) (Yq s nl))⟩;have:=ix.2.2;have:=iy.2.2;omega
 ·have:=i4 r0 r1 ts;refine⟨this.ok,this.rm,?_⟩;have:=this.len;show(bP room ts).2.length≤40*(ts.length+1);omega
 ·refine⟨TyM.merge h1.1 h2.1,h1.2.1,?_⟩;show(x.1.2++y.1.2++aN x.1.1 y.1.1).length≤40*(x.2+y.2+1);rw[ba,ba];have:=Rf h1.1 h2.1;have:=h1.2.2;have:=h2.2.2;omega
 ·rintro H H' g v x ⟨p,t,l,rfl,e,d,q,n⟩;exact⟨p,t,l,rfl,g _ _ e,d.mono g,q.mono g,n⟩
 ·rintro p H' g ⟨p,t',l,rfl,e,d,q,n0⟩;rw[hW]at q;have lamH:LamAt T (dw cR) qGT H':=⟨.inr ⟨c',g _ _ (by rw[Zg (Ne.symm aT)];exact eT),g _ _ ec2⟩⟩;refine⟨p,_,rfl,SqT.of e,rfl,_,_,rfl,_,_,rfl,rfl,_,rfl,hq l H' ?_ lamH ?_ q⟩
  ·intro b u e;obtain⟨b1,b2⟩:=Zh e;have:=g1 b u e;obtain⟨_,e3⟩:=Zh this;rw[Zg b1];exact g b u (by rw[Zg (Zf b2 na)];exact e3)
  ·by_cases z:H l=none
   ·exact z
   ·obtain⟨u,hu⟩:=BZ.mp z;by_cases zT:l=T
    ·subst zT;obtain⟨xs,el,_⟩:=q
     rcases lamH.tab with y | ⟨_,y,_⟩ <;> (rw[el]at y;cases y)
    ·have h2:=(Zh (g1 l u (by rw[Zg zT];exact hu))).2;rw[Zg (Zf hu na),h2]at n0;cases n0
def zJ(st:Stmt):Expr:=match defBody st with
 | [.Return (some (.Call _ (_::e::_) _ _)) _]=>e
 |_=>.Constant .none 0 ⟨0,0,0,0⟩
abbrev dj:Expr:=zJ ak
abbrev qTT:Str:=("grown_tally":Str)++".<locals>."++"<lambda>"
theorem scT:LamScope ["stream"] ["room"] (b_ dj):=⟨rfl,rfl,rfl,by decide +kernel,by decide +kernel,fun x h=>by
  have:∀y∈(b_ dj).names,y.2=.free→y.1="room":=by decide +kernel
  have e:x="room":=this (x,.free) (AL h) rfl;rw[e];exact .head _,by decide +kernel,by decide +kernel⟩
theorem wS(room:Int):∀t:Tr,evT (aJ room) aA t=aQ room t
 |.leaf ts=>rfl
 |.node a b=>by
  show aA (evT (aJ room) aA a) (evT (aJ room) aA b)=aA (aQ room a) (aQ room b);rw[wS room a,wS room b]
def RepT(H:Hp)(v:V)(x:Ty):Prop:=∃p:Addr,v=.ref p∧DV H v x.D
def wG(T:Addr):Sp:=fun vs H Q _=>∃(v:V)(room:Int)(t:Tr),vs=[.int room,v]∧1≤room∧room≤20∧DV H v t.D∧t.size≤1000∧t.all.length+t.size≤1000∧LamAt T (dw dj) qTT H∧
 ∀(p:Addr) H',Same (av T H) (av T H')→LamAt T (dw dj) qTT H'→DV H' (.ref p) (aQ room t).D→Q (.ref p) H'
def wP(c:Addr)(room:Int):Sp:=fun vs H Q _=>∃(v:V)(ts:List Th),vs=[v]∧H c=some (crO qTT c)∧DV H v (bG ts)∧∀(p:Addr) H',Same H H'→DV H' (.ref p) (aJ room ts).D→Q (.ref p) H'
theorem zh{c T f2:Addr}{oc:Value}{od an:Option Addr}{osl:Array (Option Value)}{kV doc pm ct:Value}{fd2:FuncData}(lk:K.lookup f=some ⟨oc,od,.func (W.fnOf "grown_tally" "grown_tally" (defArgs ak) (defBody ak) (defScope ak) .none kV doc pm an (.ref c) ct),osl⟩)(hcd:W.codeIn K (.ref c) "grown_tally"=true)(C:W.CodeHd base c T)(hgP:mainGlobals≠T)(hB:base.BuiltinsAt mg T)(hb_grown:HasB P w K mg "grown" 7 ["tree","of_stream","of_two"] (eV P w K mg 6))(hT:∀base:Heap,K.In base→base.Ns mainGlobals mg→Has P w K mg base "tally_of" 4 ["room","stream"] qp)(hM:∀base:Heap,K.In base→base.Ns mainGlobals mg→Has P w K mg base "merged_tally" 3 ["one","other"] gh)(m2:mg "merged_tally"=some (.ref f2))(F2:Fun K "merged_tally" "merged_tally" bB f2 fd2):
  FnOk P w K mg base CX0 8 f (W.fnOf "grown_tally" "grown_tally" (defArgs ak) (defBody ak) (defScope ak) .none kV doc pm an (.ref c) ct) ["room","tree"] (wG T):=by
 refine l8 (k:=7) lk hcd Qn (fun vs H Q E h=>?_) (fun A outer s H vs Q E hr h=>?_)
 ·obtain⟨v,room,t,rfl,_⟩:=h;rfl
 obtain⟨v,room,t,rfl,r0,r1,dv,hsz,cap,lam,hq⟩:=h;have xG:∃u,mg "merged_tally"=some u∧RelV (.ref f2) u:=⟨_,m2,rfl⟩;have hf:∀x∈(b_ dj).names,x.2=.free→∃c',(PyProof.Rows.envOfC "grown_tally" (defScope ak) s.heap.objs.size f (.ref c)).cells.lookup x.1=some c':=fun x hx hk=>by
  have:∀y∈(b_ dj).names,y.2=.free→(defScope ak).names.lookup y.1=some .cell:=by decide +kernel
  exact Ss (this x hx hk)
 refine⟨_,Z6 (Zb (jv hb_grown (fun _=>rfl) rfl rfl hr (Z0 (pv 1) (Z0 (qg (c:=c) (T:=T) (sc:=b_ dj) rfl C hgP hB hf) (Z0 (Wf rfl xG) Z1))))),?_⟩;refine⟨_,rfl,lam,fun a c' pm2 ctv H1 g1 na nac eT ec ea=>?_⟩;have tT:H T≠none:=by
  rcases lam.tab with e | ⟨_,e,_⟩ <;> (rw[e];exact fun z=>nomatch z)
 have nT1:∀xs,H T≠some (.lst xs):=by
  rcases lam.tab with e | ⟨_,e,_⟩ <;> (rw[e];exact fun _ z=>nomatch z)
 have nT2:∀xs,H T≠some (.tup xs):=by
  rcases lam.tab with e | ⟨_,e,_⟩ <;> (rw[e];exact fun _ z=>nomatch z)
 have aT:a≠T:=fun z=>tT (z ▸ na);have dv1:DV H1 v t.D:=((U4 nT1 nT2 dv).mono g1).mono Yd;have dva:DV (av a H1) v t.D:=U4 (by rw[ea];exact fun _ z=>nomatch z) (by rw[ea];exact fun _ z=>nomatch z) dv1;refine⟨a,_,ea,fun B wid=>?_⟩;have wfn:=wid.fn;have ec2:av a H1 c'=some (crO qTT c'):=by rw[Zg (Ne.symm nac)];exact ec
 have cls:∀x d,(aR (PyProof.Rows.envOfC "grown_tally" (defScope ak) s.heap.objs.size f (.ref c)) (b_ dj).names).lookup x=some d→(PyProof.Rows.envOfC "grown_tally" (defScope ak) s.heap.objs.size f (.ref c)).cells.lookup x=some d:=fun x d e=>Tb _ [] hf (fun _ h=>nomatch h) (x,d) (AL e);refine⟨Ty,RepT,aJ room,aA,fun x=>TyM x∧x.room=room,fun _=>True,fun _=>0,v,a,f2,t,rfl,dva,hsz,(fun _ _=>trivial),?_,?_,fun _=>Bc _,fun _ _=>Bc _,cap,fun ts _=>Sx r0 r1 ts,fun x y h1 h2=>⟨h1.1.merge h2.1,h1.2⟩,?_,?_⟩
 ·refine⟨_,["stream"],wP c' room,sV (k:=5) (us:=[.int room]) (fr:=["room"]) wfn scT rfl ?_ (fun x y d e1 e2=>wid.inj x y d (cls x d e1) (cls y d e2)) (fun x d e=>wid.cells x d (cls x d e)) (fun vs H Q E h=>?_) (fun vs H Q E h=>?_) (fun A outer s H vs Q E hr h=>?_),?_,⟨_,_,_,_,wfn⟩,?_⟩
  ·intro i x u h1 h2
   match i,h1,h2 with
   | 0,h1,h2=>
   cases h1;cases h2;obtain⟨c2,u2,e1,e2,rv⟩:=wid.cell 0 "room" (.int room) rfl rfl rfl;obtain⟨c3,hc3⟩:=Tc (b_ dj).names [] (env:=PyProof.Rows.envOfC "grown_tally" (defScope ak) s.heap.objs.size f (.ref c)) "room" (AL (scT.fre "room" (.head _)));obtain⟨c4,hc4⟩:=Wb hc3;have e3:=cls _ _ hc4;have e4:c4=c2:=AK (e3.symm.trans e1);subst e4;exact⟨c4,u2,hc4,e2,rv⟩
  ·obtain⟨_,_,_,e,_⟩:=h;exact e
  ·obtain⟨_,_,rfl,_⟩:=h;rfl
  ·obtain⟨u,ts,rfl,e,d,hq2⟩:=h;have ky:=hT B wid.kin wid.glb;refine⟨_,Z3 ky hr (Z0 (pv 1) (Z0 (pv 0) Z1)),?_⟩;exact⟨_,rfl,_,rfl,u,room,ts,rfl,r0,r1,d,hq2⟩
  ·exact .all fun us hl=>match us,hl with | [_],_=>rfl
  ·exact fun H u ts Q b ys s eb d _ _ hq2=>⟨u,ts,rfl,s _ _ ec2,d,fun p H' s' d'=>hq2 (.ref p) H' s' ⟨p,rfl,h_ (s' _ _ eb) d'⟩⟩
 ·obtain⟨f',fd',FM,bM,kM,mM⟩:=(hM B wid.kin wid.glb).ex;have e:f'=f2:=by
   rw[m2]at mM;cases mM;rfl
  subst e;obtain⟨oc2,od2,kV2,doc2,pm3,an2,cdv2,ct2,osl2,_,lk2,_⟩:=F2.ex;refine⟨fd',["one","other"],gh,FM.mono (by decide),bM,⟨_,_,_,_,wid.kin _ _ lk2⟩,?_⟩;rintro H u u' x y Q b ys s eb ⟨p,rfl,d⟩ ⟨q,rfl,d2⟩ ix iy _ hq2;exact⟨p,q,x,y,rfl,d.mono Yd,d2.mono Yd,ix.1,iy.1,ix.2.trans iy.2.symm,fun p' H' s' d'=>hq2 (.ref p') H' s' ⟨p',rfl,h_ (s' _ _ eb) d'⟩⟩
 ·rintro H H' g v x ⟨p,rfl,d⟩;exact⟨p,rfl,d.mono g⟩
 ·rintro p H' g ⟨p,rfl,d⟩;rw[wS]at d;refine hq p H' ?_ ?_ d
  ·intro b u e;obtain⟨b1,b2⟩:=Zh e;have:=g1 b u e;obtain⟨_,e3⟩:=Zh this;rw[Zg b1];exact g b u (by rw[Zg (Zf b2 na)];exact e3)
  ·exact⟨.inr ⟨c',g _ _ (by rw[Zg (Ne.symm aT)];exact eT),g _ _ ec2⟩⟩
theorem wy(room:Int):∀(us:List Th)(a:TyP),(us.foldl (cS room) a).1=us.foldl (fun a t=>aA a (thT room t)) a.1:=by
 intro us
 induction us with
 |nil=>intro a;rfl
 |cons u us ih=>
  intro a;rw[List.foldl_cons,List.foldl_cons,ih];rfl
theorem rk(room:Int):∀t:Tr,(aU room t).1=aQ room t:=by
 intro t
 induction t with
 |leaf ts=>exact wy room ts (Ty.zero room,[])
 |node l r hl hr=>
  show aA (aU room l).1 (aU room r).1=aA (aQ room l) (aQ room r);rw[hl,hr]
def gm:Sp:=fun vs H Q _=>∃(x:V)(T:String),vs=[x]∧Kd H x T∧Q (.bl (whV x)) H
def pV:Sp:=fun vs H Q _=>∃(x:V)(T:String)(l:Int),vs=[x,.int l]∧Kd H x T∧Q (.bl (wF x l)) H
def zR:Sp:=fun vs H Q _=>∃(i l m:Int),vs=[.int i,.int l,.int m]∧Q (.bl (decide (l≤i) && decide (i≤m))) H
def kR:Sp:=fun vs H Q _=>∃(x:V)(T:String),vs=[x]∧Kd H x T∧(∀z,x=.str z→z.length≤1000)∧∀H',Same H H'→Q (.bl (mkB x)) H'
theorem jg(ag:mg "isinstance"=none)(iZ:mg "int"=none)(fc:mg "bool"=none)(F:Fun K "is_whole" "is_whole" dk f fd):FnOk P w K mg base CX0 1 f fd ["thing"] gm:=by
 refine F.ok iG (fun vs H Q E h=>?_) (fun cdv A outer s H vs Q E hr h=>?_)
 ·obtain⟨x,T,rfl,_⟩:=h;rfl
 obtain⟨x,T,rfl,hk,hq⟩:=h;refine⟨_,(Z6 (Zb (V0 (Zi W0 rfl ag AM (Z0 (pv 0) (Z0 (Xs (v:=.ty "int") rfl iZ PyProof.Rows.boot_int rfl) Z1))) (Vu (sK (Zi W0 rfl ag AM (Z0 (pv 0) (Z0 (Xs (v:=.ty "bool") rfl fc PyProof.Rows.boot_bool rfl) Z1)))))))),?_⟩;rw[←hk.wh]at hq;refine⟨_,rfl,_,_,"int",_,rfl,hk.ty,hk.kit (by decide) rfl,_,rfl,?_⟩;refine Wn (fun c=>?_) (fun c=>?_)
 ·refine⟨_,rfl,_,_,"bool",_,rfl,hk.ty,hk.kit (by decide) rfl,_,rfl,?_⟩;rw[c,Cc]at hq;exact hq
 ·rw[AO.mpr c,BC]at hq;exact hq
theorem R1(kN:Has P w K mg base "is_whole" 1 ["thing"] gm)(F:Fun K "is_whole_from" "is_whole_from" bL f fd):FnOk P w K mg base CX0 2 f fd ["thing","least"] pV:=by
 refine F.ok Sz (fun vs H Q E h=>?_) (fun cdv A outer s H vs Q E hr h=>?_)
 ·obtain⟨x,T,l,rfl,_⟩:=h;rfl
 obtain⟨x,T,l,rfl,hk,hq⟩:=h;refine⟨_,(Z6 (Zb (V0 (Z3 kN hr (Z0 (pv 0) Z1)) (Vu (Xi N1 (pv 0) (pv 1) (Zl _)))))),?_⟩;refine⟨_,rfl,x,T,rfl,hk,_,rfl,?_⟩;cases x with
 |int i=>exact Xf ⟨_,rfl,_,rfl,_,_,rfl,rfl,hq⟩
 |_=>exact Ym hq
theorem lC(ag:mg "isinstance"=none)(jQ:mg "str"=none)(aG:mg "len"=none)(aY:mg "all"=none)(c_:∃u,mg "LETTERS"=some u∧RelV (.str letters) u)(ft:∃u,mg "LONGEST_MARK"=some u∧RelV (.int 8) u)(F:Fun K "is_mark" "is_mark" eK f fd):FnOk P w K mg base CX0 1 f fd ["thing"] kR:=by
 refine F.ok kH (fun vs H Q E h=>?_) (fun cdv A outer s H vs Q E hr h=>?_)
 ·obtain⟨x,T,rfl,_⟩:=h;rfl
 obtain⟨x,T,rfl,hk,hl,hq⟩:=h;refine⟨_,(Z2 (Y7 (PW.pt (V8 (W6 (Xl (Zi W0 rfl ag AM (Z0 (pv 0) (Z0 (Xs (v:=.ty "str") rfl jQ PyProof.Rows.boot_str rfl) Z1))))) (V8 (Zn Oz (Zi Sv rfl aG A9 (Z0 (pv 0) Z1)) Z4 (Zl _)) (W5 (Zn U7 (Zi Sv rfl aG A9 (Z0 (pv 0) Z1)) (Wf rfl ft) (Zl _)))))) (Z6 (Zb X6)) Zq)
 (Z6 (Zb (Zi (V4 rfl) rfl aY Bs (Z0 (Y3 (own:=["sign"]) (Xz rfl rfl) (x6 (pv 0))
  (fun _ _ _ _ _=>(Z7 (i:=0) R5 rfl (Or.inl rfl) (Or.inr rfl))) (fun _ _ _ _ _=>Yb)
  (fun _ _ _ _ _=>(Xi pG (pv 0) (Wf rfl c_) (by with_unfolding_all rfl)))) Z1))))),?_⟩
 have no:ku T "str"=false→mkB x=false:=fun e=>by
  cases hk with
  |str z=>exact absurd e (by decide)
  |_=>rfl
 refine⟨_,rfl,_,_,"str",_,rfl,hk.ty,hk.kit (by decide) rfl,_,rfl,?_⟩;cases hc:ku T "str" with
 |false=>
  have q:=hq H (Same.refl _);rw[no hc]at q;exact Xf q
 |true=>
  obtain⟨z,rfl⟩:∃z,x=.str z:=by
   cases hk with
   |str z=>exact⟨z,rfl⟩
   |_=>exact absurd hc (by decide)
  refine Ym ?_;have hz:z.length≤sizeLine:=Zd (by have:=hl z rfl;omega);refine⟨_,rfl,z,rfl,hz,_,_,rfl,rfl,_,rfl,?_⟩;refine Wn (fun c=>?_) (fun c=>?_)
  ·have c:=bb c;have q:=hq H (Same.refl _);have e:mkB (.str z)=false:=by
    show mkS z=false;unfold mkS;rw[Ag (by omega),BC,BC]
   rw[e]at q;exact Xf q
  ·have c:=BY (AO.mpr c);refine⟨_,rfl,z,rfl,hz,_,_,rfl,rfl,_,rfl,?_⟩;refine Wn (fun c2=>?_) (fun c2=>?_)
   ·have c2:=bb c2;have q:=hq H (Same.refl _);have e:mkB (.str z)=false:=by
     show mkS z=false;unfold mkS;rw[Ag (p:=z.length≤8) (by omega),CS,BC]
    rw[e]at q;exact q
   ·have c2:=BY (AO.mpr c2);refine⟨_,rfl,z,rfl,?_⟩;have hsz:z.cps.size≤8:=by
     have:z.length=z.cps.size:=rfl;omega
    refine qt (fun i ys H'=>H'=H∧ys=((z.cps.toList.take i).map sgB).map V.bl) ⟨rfl,rfl⟩ ?_ ?_
    ·rintro i c ys H' C hx ⟨rfl,rfl⟩ hC;have hx':z.cps.toList[i]?=some c:=by simpa using hx
     refine⟨Zk ?_,Wk.refl _,_,rfl,_,_,rfl,rfl,hC _ _ ⟨rfl,?_⟩⟩
     ·rw[ae,ae,Am,Ax];omega
     ·rw[Zr hx',ca,ca];rfl
    ·rintro ys H' ⟨rfl,rfl⟩;have e:z.cps.toList.take z.cps.size=z.cps.toList:=by rw[←Ax,At]
     rw[e];refine⟨Zd ?_,fun p hp=>⟨p,_,rfl,SqL.of Z5,?_⟩⟩
     ·rw[ae,ae,Ax];omega
     ·have q:=hq _ (Z9 hp (.lst ((z.cps.toList.map sgB).map V.bl)));have e2:mkB (.str z)=(z.cps.toList.map sgB).all id:=by
       show mkS z=_;unfold mkS;rw[zy (p:=1≤z.length) (by omega),zy (p:=z.length≤8) (by omega),List.all_map];rfl
      rw[e2]at q;exact q
theorem Tv(aE:Has P w K mg base "is_whole_from" 2 ["thing","least"] pV)(F:Fun K "is_whole_within" "is_whole_within" bj f fd):FnOk P w K mg base CX0 3 f fd ["thing","least","most"] zR:=by
 refine F.ok To (fun vs H Q E h=>?_) (fun cdv A outer s H vs Q E hr h=>?_)
 ·obtain⟨i,l,m,rfl,_⟩:=h;rfl
 obtain⟨i,l,m,rfl,hq⟩:=h;refine⟨_,(Z6 (Zb (V0 (Z3 aE hr (Z0 (pv 0) (Z0 (pv 1) Z1))) (Vu (Xi mK (pv 0) (pv 2) (Zl _)))))),?_⟩;refine⟨_,rfl,_,rfl,.int i,"int",l,rfl,.int _,_,rfl,?_⟩;refine Wn (fun c=>?_) (fun c=>?_)
 ·have c:decide (l≤i)=true:=c;rw[c,Cc]at hq;exact⟨_,rfl,_,rfl,_,_,rfl,rfl,hq⟩
 ·have c:decide (l≤i)=false:=AO.mpr c;rw[c,BC]at hq;exact hq
def gwB(z:Str):Bool:=decide (1≤z.length) && decide (z.length≤8) && (z.cps.toList.all fun c=>decide (97≤c) && decide (c≤122)) && PyData.strOk z
structure ThG(t:Th):Prop where
 day:t.day=0
 num:t.num=0
 many:1≤t.many
 good:gwB t.word=true
def TrG:Tr→Prop
 |.leaf ts=>∀t∈ts,ThG t
 |.node l r=>TrG l∧TrG r
theorem rN{z:Str}(h:gwB z=true):1≤z.length∧z.length≤8∧(∀c∈z.cps.toList,97≤c∧c≤122)∧PyData.strOk z=true:=by
 unfold gwB at h;rw[AX,AX,AX]at h;refine⟨bb h.1.1.1,bb h.1.1.2,fun c hc=>?_,h.2⟩;have:=A3.mp h.1.2 c hc;rw[AX]at this;exact⟨bb this.1,bb this.2⟩
def tms(z:Str)(ts:List Th):Int:=((ts.filter fun t=>decide (t.word=z)).map (·.many)).sum
def mQ:Sp:=fun vs H Q _=>∃(r:Addr)(ts:List Th)(z:Str),vs=[.ref r,.str z]∧DV H (.ref r) (bG ts)∧ts.length≤1000∧∀H',Same H H'→Q (.int (tms z ts)) H'
def Tr.leaves:Tr→Nat
 |.leaf _=>1
 |.node l r=>Tr.leaves l+Tr.leaves r
structure Nice(ps:Ps):Prop where
 nd:(ps.map (·.1)).Nodup
 rise:(ps.map (·.1)).Pairwise (fun a b=>leS a b=true)
 pos:∀p∈ps,1≤p.2
theorem Nice.nil:Nice []:=⟨AQ,List.Pairwise.nil,fun _ h=>nomatch h⟩
theorem Nice.ext{ps qs:Ps}(h:Nice ps)(g:Nice qs)(e:∀z,look ps z=look qs z):ps=qs:=by
 have key:∀z,z∈ps.map (·.1)↔z∈qs.map (·.1):=fun z=>by
  constructor
  ·intro hz;by_cases q:z∈qs.map (·.1)
   ·exact q
   ·have:=X1 h.pos h.nd hz;have:=Zm q;have:=e z;omega
  ·intro hz;by_cases q:z∈ps.map (·.1)
   ·exact q
   ·have:=X1 g.pos g.nd hz;have:=Zm q;have:=e z;omega
 have ek:ps.map (·.1)=qs.map (·.1):=Qr ((BW h.nd g.nd).mpr key) h.rise g.rise;have e1:=Sl h.nd;have e2:=Sl g.nd;rw[ek,Cf (g:=fun z=>(z,look qs z)) (fun z _=>by rw[e z]),e2]at e1;exact e1.symm
theorem Nice.csM{room:Int}{ps qs:Ps}(h:(ps.map (·.1)).Nodup)(g:(qs.map (·.1)).Nodup):Nice (csM room ps qs):=by
 refine⟨kI h g,?_,fun p hp=>?_⟩
 ·rw[Ul];exact(gx _).sublist BJ
 ·obtain⟨z,hz,rfl⟩:=Ab.mp hp;have:=bb (AH.mp hz).2;show 1≤au ps qs z-ay room ps qs;omega
theorem Py{room:Int}{ps qs:Ps}(h:((ah ps qs).length:Int)≤room):ay room ps qs=0:=Ah (by rw[ae];exact h)
theorem Pg{room:Int}{ps qs:Ps}(h:(ps.map (·.1)).Nodup)(g:(qs.map (·.1)).Nodup)(hp:∀p∈ps,1≤p.2)(hq:∀p∈qs,1≤p.2)(c:((ah ps qs).length:Int)≤room)(z:Str):look (csM room ps qs) z=look ps z+look qs z:=by
 have c0:=Py c;rw[Ph h g (by omega),c0];have:=Xx hp z;have:=Xx hq z;have e:au ps qs z=look ps z+look qs z:=rfl
 split <;> omega
theorem iK{a b:Ty}{cs:Ps}(h:(a.cs.map (·.1)).Nodup)(g:(b.cs.map (·.1)).Nodup)(n:Nice cs)(e:∀z,look (csM a.room a.cs b.cs) z=look cs z):aA a b=⟨a.room,cs,a.lt+b.lt+ay a.room a.cs b.cs,a.total+b.total⟩:=by
 unfold aA;rw[(Nice.csM h g).ext n e]
structure Few(room:Int)(ps:Ps)(t:Ty):Prop where
 room_:t.room=room
 nice:Nice t.cs
 lk:∀z,look t.cs z=look ps z
 lt_:t.lt=0
 tot:t.total=(ar ps).sum
 len:t.cs.length≤ps.length
theorem um(room:Int):Few room [] (Ty.zero room):=⟨rfl,.nil,fun _=>rfl,rfl,rfl,io _⟩
theorem yr{room:Int}(ps qs:Ps):(csM room ps qs).length≤ps.length+qs.length:=by
 unfold csM;rw[ae];have:=Ap (fun z=>decide (ay room ps qs<au ps qs z)) (bN (ah ps qs));have:=(Zx (ah ps qs)).length_eq;have:=Xb ps qs;omega
theorem sB{room:Int}{ps:Ps}{p:Str×Int}{t:Ty}(f:Few room ps t)(nd:((ps++[p]).map (·.1)).Nodup)(len:((ps++[p]).length:Int)≤room)(p1:1≤p.2):Few room (ps++[p]) (aA t (thT room (a8 p))):=by
 have n1:(([p]:Ps).map (·.1)).Nodup:=by simp
 have pp:∀q∈([p]:Ps),1≤q.2:=fun q hq=>by rw[Af.mp hq];exact p1
 have e0:(thT room (a8 p)).cs=[p]:=rfl;have kl:=Xb t.cs [p];have fl:=f.len;rw[ba]at len;have c:((ah t.cs [p]).length:Int)≤t.room:=by
  rw[f.room_];have:([p]:Ps).length=1:=rfl;omega
 have c0:=Py c;have nin:p.1∉ps.map (·.1):=by
  rw[ca,Bg]at nd;exact fun q=>nd.2.2 _ q p.1 (.head _) rfl
 refine⟨f.room_,Nice.csM f.nice.nd n1,fun z=>?_,?_,?_,?_⟩
 ·show look (csM t.room t.cs [p]) z=_;rw[Pg f.nice.nd n1 f.nice.pos pp c,f.lk,Sm]
  split
  ·have e:look [p] z=0:=Zm fun q=>by
    rename_i h;rw[AA,CQ,Af]at q;exact nin (q ▸ h)
   omega
  ·rename_i h;rw[Zm h];omega
 ·show t.lt+0+ay t.room t.cs [p]=0;rw[c0,f.lt_];rfl
 ·show t.total+p.2=_;rw[f.tot];unfold ar;rw[ca,Bk];show _=_+(p.2+0);omega
 ·show(csM t.room t.cs [p]).length≤_;have:=yr (room:=t.room) t.cs [p];rw[ba];have:([p]:Ps).length=1:=rfl;omega
theorem kB{room:Int}:∀(n:Nat)(ps:Ps),ps.length=n→(ps.map (·.1)).Nodup→(ps.length:Int)≤room→(∀p∈ps,1≤p.2)→Few room ps (aJ room (ps.map a8)):=by
 intro n
 induction n with
 |zero=>
  intro ps e _ _ _;rw[A0 e];exact um room
 |succ n ih=>
  intro ps e nd len pos;have hne:ps≠[]:=fun q=>by rw[q]at e;cases e
  obtain⟨qs,p,rfl⟩:∃qs p,ps=qs++[p]:=⟨ps.dropLast,ps.getLast hne,(List.dropLast_concat_getLast hne).symm⟩;rw[ba]at e len;have e1:qs.length=n:=Nat.succ.inj e;have nd':=nd;rw[ca]at nd';have f:=ih qs e1 (Bg.mp nd').1 (by omega) fun q hq=>pos q (Bh _ hq);have s:=sB f nd (by rw[ba];omega) (pos p (Ao _ (.head _)));have e3:aJ room ((qs++[p]).map a8)=aA (aJ room (qs.map a8)) (thT room (a8 p)):=by
   unfold aJ;rw[ca,Ca];rfl
  rw[e3];exact s
structure TyN(t:Ty):Prop where
 room1:1≤t.room
 room2:t.room≤20
 nice:Nice t.cs
 len:(t.cs.length:Int)≤t.room
 lt0:0≤t.lt
 lo:(t.room+1)*t.lt≤t.total-(ar t.cs).sum
 hi:t.total-(ar t.cs).sum≤2*t.room*t.lt
theorem lI{m:Int}(hm:0≤m):∀(k:Nat)(r:Int),0≤r→∀x∈lgo m k r,0≤x∧x≤m
 | 0,_,_,_,h=>nomatch h
 |k+1,r,hr,x,h=>by
  rw[lgo,Ae]at h;have c:(0≤if m<r then m else r)∧(if m<r then m else r)≤m∧(if m<r then m else r)≤r:=by split <;> omega
  generalize (if m<r then m else r)=y at h c
  rcases h with rfl | h
  ·exact⟨c.1,c.2.1⟩
  ·exact lI hm k (r-y) (by omega) x h
theorem lE{m:Int}(hm:0≤m):∀(k:Nat)(r:Int),0≤r→r≤k*m→(lgo m k r).sum=r
 | 0,r,h0,h1=>by
  have:r=0:=by rw[Int.natCast_zero,Int.zero_mul]at h1;omega
  rw[this];rfl
 |k+1,r,h0,h1=>by
  rw[lgo,A2];have e:((k+1:Nat):Int)*m=k*m+m:=by rw[Int.natCast_add,CY,Int.natCast_one,CW]
  rw[e]at h1;have k0:0≤(k:Int)*m:=BX (by omega) hm;have c:(0≤r-if m<r then m else r)∧(r-if m<r then m else r)≤k*m:=by split <;> omega
  rw[lE hm k _ c.1 c.2];omega
theorem mz:∀(l:List Int),(∀x∈l,0≤x)→(l.filter fun n=>decide (0<n)).sum=l.sum
 | [],_=>rfl
 |a::l,h=>by
  have ih:=mz l fun x hx=>h x (.tail _ hx);have ha:=h a (.head _);rw[As,A2]
  split
  ·rw[A2,ih]
  ·rename_i c;have:¬0<a:=fun q=>c (zy q);rw[ih];omega
theorem lQ(m:Int):∀k:Nat,(List.replicate k m).sum=k*m
 | 0=>by simp
 |k+1=>by
  rw[List.replicate_succ,A2,lQ m k,Int.natCast_add,CY,Int.natCast_one,CW];omega
section
variable{t:Ty}(h:TyN t)
include h
theorem mJ:0≤t.total-(ar t.cs).sum-(t.room+1)*t.lt:=by have:=h.lo;omega
theorem uU:t.total-(ar t.cs).sum-(t.room+1)*t.lt≤((t.room-1).toNat:Int)*t.lt:=by
 have r1:=h.room1;have hi:=h.hi;have e:((t.room-1).toNat:Int)=t.room-1:=by omega
 rw[e];have e1:(t.room-1)*t.lt=t.room*t.lt-t.lt:=by rw[Int.sub_mul,CW]
 have e2:(t.room+1)*t.lt=t.room*t.lt+t.lt:=by rw[CY,CW]
 have e3:2*t.room*t.lt=t.room*t.lt+t.room*t.lt:=by rw[Int.mul_assoc];omega
 rw[e1,e2];rw[e3]at hi;omega
theorem mE:∀x∈lgF t,0≤x∧x≤t.lt:=fun x hx=>by
 rcases AI.mp hx with q | q
 ·rw[List.eq_of_mem_replicate q];exact⟨h.lt0,By _⟩
 ·exact lI h.lt0 _ _ (mJ h) x q
theorem T6:∀x∈aX t,1≤x∧x≤t.lt:=fun x hx=>by
 obtain⟨h1,h2⟩:=AH.mp hx;have:=(mE h x h1).2;have:=bb h2;omega
theorem om:(aX t).sum+t.cs.length*t.lt=t.total-(ar t.cs).sum:=by
 unfold aX;rw[mz _ fun x hx=>(mE h x hx).1];unfold lgF;rw[Bk,lQ,lE h.lt0 _ _ (mJ h) (uU h)];have l:=h.len;have e:((t.room+1-t.cs.length).toNat:Int)=(t.room+1)-t.cs.length:=by omega
 rw[e,Int.sub_mul];omega
theorem N6(z:t.lt=0):aX t=[]:=by
 cases e:aX t with
 |nil=>rfl
 |cons x r=>
  have:=T6 h x (by rw[e];exact .head _);omega
theorem N5(z:0<t.lt):∃r,aX t=List.replicate (t.room+1-t.cs.length).toNat t.lt++r:=by
 unfold aX lgF;rw[AJ];refine⟨(lgo t.lt (t.room-1).toNat (t.total-(ar t.cs).sum-(t.room+1)*t.lt)).filter fun n=>decide (0<n),?_⟩
 congr 1
 exact BK.mpr fun x hx=>by rw[List.eq_of_mem_replicate hx];exact zy z
end
theorem rS:∀{ws:List Str}{ns:List Int},ns.length≤ws.length→ar (ws.zip ns)=ns
 |_,[],_=>by unfold ar;rw[List.zip_nil_right];rfl
 | [],n::ns,h=>nomatch h
 |w::ws,n::ns,h=>by
  show n::ar (ws.zip ns)=_;rw[rS (Nat.le_of_succ_le_succ h)]
theorem Qa(ws:List Str)(ns:List Int):(ws.zip ns).map (·.1)=ws.take ns.length:=by
 induction ws generalizing ns with
 |nil=>simp
 |cons w ws ih=>
  cases ns with
  |nil=>rfl
  |cons n ns=>rw[List.zip_cons_cons,AA,ih,AD,List.take_succ_cons]
theorem gY{ps:Ps}{z:Str}(hp:∀p∈ps,1≤p.2)(hn:(ps.map (·.1)).Nodup):z∈ps.map (·.1)↔1≤look ps z:=by
 refine⟨fun hz=>X1 hp hn hz,fun q=>?_⟩;by_cases hz:z∈ps.map (·.1)
 ·exact hz
 ·rw[Zm hz]at q;omega
structure Wo(t:Ty)(ws:List Str):Prop where
 nd:ws.Nodup
 out:∀z∈ws,z∉t.cs.map (·.1)
 len:(aX t).length≤ws.length
theorem On(t:Ty)(ws:List Str):(aB t ws).map (·.1)=t.cs.map (·.1)++ws.take (aX t).length:=by
 unfold aB;rw[ca,AB,Qa];rfl
section
variable{t:Ty}{ws:List Str}(h:TyN t)(g:Wo t ws)
include h g
theorem mx:((aB t ws).map (·.1)).Nodup:=by
 rw[On];refine Bg.mpr ⟨h.nice.nd,g.nd.sublist (CB _ _),fun a ha b hb e=>?_⟩;subst e;exact g.out a (Bz hb) ha
theorem Rx:ar (aB t ws)=(ar t.cs).map (fun n=>n+t.lt)++aX t:=by
 unfold aB;have e:=rS g.len;unfold ar at e⊢;rw[ca,e,AB,AB];rfl
theorem jI:∀p∈aB t ws,1≤p.2:=fun p hp=>by
 have hm:p.2∈ar (aB t ws):=Ab.mpr ⟨p,hp,rfl⟩;rw[Rx h g]at hm
 rcases AI.mp hm with q | q
 ·obtain⟨n,hn,e⟩:=Ab.mp q;obtain⟨x,hx,rfl⟩:=Ab.mp hn;have:=h.nice.pos x hx;have:=h.lt0;omega
 ·exact(T6 h _ q).1
theorem sP:((aB t ws).length:Int)≤2*t.room:=by
 have:=Wv h.room1 h.len;have e:(aB t ws).length=t.cs.length+(aX t).length:=by rw[←Xu,Rx h g,ba,ae,Xu]
 omega
theorem sf:(ar (aB t ws)).sum=t.total:=by
 rw[Rx h g,Bk];have e:∀l:List Int,(l.map fun n=>n+t.lt).sum=l.sum+l.length*t.lt:=fun l=>by
  induction l with
  |nil=>simp
  |cons a l ih=>
   rw[AA,A2,A2,ih,AD,Int.natCast_add,CY,Int.natCast_one,CW];omega
 rw[e,Xu];have:=om h;omega
theorem Up(z:Str):look (aB t ws) z=if z∈t.cs.map (·.1)then look t.cs z+t.lt else look (ws.zip (aX t)) z:=by
 have e:∀ps:Ps,z∈ps.map (·.1)→look (ps.map fun p=>(p.1,p.2+t.lt)) z=look ps z+t.lt:=fun ps=>by
  induction ps with
  |nil=>exact fun q=>nomatch q
  |cons p ps ih=>
   intro hz;show(if p.1=z then p.2+t.lt else look (ps.map fun p=>(p.1,p.2+t.lt)) z)=(if p.1=z then p.2 else look ps z)+t.lt;by_cases c:p.1=z
   ·rw[Ah c,Ah c]
   ·rw[Aj c,Aj c];refine ih ?_
    rcases Ae.mp hz with q | q
    ·exact absurd q.symm c
    ·exact q
 unfold aB;rw[Sm];have ek:(t.cs.map fun p=>(p.1,p.2+t.lt)).map (·.1)=t.cs.map (·.1):=by rw[AB];rfl
 rw[ek]
 split
 ·rename_i c;exact e t.cs c
 ·rfl
theorem qd:dQ t.room (ar (aB t ws))=t.lt:=by
 have l0:=h.lt0;have r1:=h.room1;have len:=h.len;have ens:=Rx h g;by_cases z:t.lt=0
 ·have e:((ar (aB t ws)).length:Int)≤t.room:=by
   rw[ens,N6 h z,AN,ae,Xu];exact len
  rw[z];exact Ah e
 ·obtain⟨r,er⟩:=N5 h (by omega);have big:t.room<(ar (aB t ws)).length:=by
   rw[ens,ba,ae,Xu,er,ba,AE];omega
  obtain⟨c,_,e,_,c1,c2⟩:=W8 (show 0≤t.room by omega) big;rw[e];have sc:=V5 c (ar (aB t ws));by_cases a:t.lt<c
  ·have f2:((aX t).filter fun x=>decide (c≤x))=[]:=List.filter_eq_nil_iff.mpr fun x hx q=>by
    have:=bb q;have:=(T6 h x hx).2;omega
   have f1:=Ap (fun x:Int=>decide (c≤x)) ((ar t.cs).map fun n=>n+t.lt);rw[ae,Xu]at f1;have f3:((ar (aB t ws)).filter fun x=>decide (c≤x)).length≤t.cs.length:=by
    rw[ens,AJ,f2,AN];exact f1
   omega
  ·by_cases b:c<t.lt
   ·have f1:(((ar t.cs).map fun n=>n+t.lt).filter fun x=>decide (c<x))=(ar t.cs).map fun n=>n+t.lt:=BK.mpr fun x hx=>by
     obtain⟨n,hn,rfl⟩:=Ab.mp hx;obtain⟨p,hp,rfl⟩:=Ab.mp hn;have:=h.nice.pos p hp;exact zy (by omega)
    have f2:((List.replicate (t.room+1-t.cs.length).toNat t.lt).filter fun x=>decide (c<x))=List.replicate (t.room+1-t.cs.length).toNat t.lt:=BK.mpr fun x hx=>by
     rw[List.eq_of_mem_replicate hx];exact zy b
    rw[ens,er,AJ,AJ,f1,f2,ba,ba,ae,Xu,AE]at c1;omega
   ·omega
theorem u_(z:Str)(hz:z∉t.cs.map (·.1)):0≤look (ws.zip (aX t)) z∧look (ws.zip (aX t)) z≤t.lt:=by
 by_cases q:z∈(ws.zip (aX t)).map (·.1)
 ·obtain⟨p,hp,rfl⟩:=Ab.mp q;have nd:((ws.zip (aX t)).map (·.1)).Nodup:=by rw[Qa];exact g.nd.sublist (CB _ _)
  rw[Yv nd hp];have hm:p.2∈aX t:=(CL hp).2;have:=T6 h p.2 hm;omega
 ·rw[Zm q];exact⟨By _,h.lt0⟩
theorem T8:aQ t.room (aI t ws)=t:=by
 have r1:=h.room1;have nd:=mx h g;have pos:=jI h g;have len:=sP h g;have S:=sf h g;have L:=Up h g;have C:=qd h g;have Z:=u_ h g;show aA (aJ t.room (((aB t ws).take t.room.toNat).map a8)) (aJ t.room (((aB t ws).drop t.room.toNat).map a8))=t;generalize aB t ws=ss at *;have td:ss.take t.room.toNat++ss.drop t.room.toNat=ss:=List.take_append_drop _ _;have tl:=Am (i:=t.room.toNat) (l:=ss);have dl:=Bx (i:=t.room.toNat) (l:=ss);have nd2:=nd;rw[←td,ca]at nd2;obtain⟨na,nb,nab⟩:=Bg.mp nd2;have fa:=kB (room:=t.room) _ (ss.take t.room.toNat) rfl na (by omega) fun p hp=>pos p (Bz hp);have fb:=kB (room:=t.room) _ (ss.drop t.room.toNat) rfl nb (by omega) fun p hp=>pos p (List.mem_of_mem_drop hp);generalize aJ t.room ((ss.take t.room.toNat).map a8)=a at fa;generalize aJ t.room ((ss.drop t.room.toNat).map a8)=b at fb;generalize ss.take t.room.toNat=xs at *;generalize ss.drop t.room.toNat=ys at *;have lk:∀z,au a.cs b.cs z=look ss z:=fun z=>by
  show look a.cs z+look b.cs z=_;rw[fa.lk,fb.lk,←td,Sm]
  split
  ·rename_i hz;have:look ys z=0:=Zm fun q=>nab z hz z q rfl;omega
  ·rename_i hz;rw[Zm hz];omega
 have kp:(ah a.cs b.cs).Perm (ss.map (·.1)):=by
  refine(BW (Xy fa.nice.nd fb.nice.nd) nd).mpr fun z=>?_;rw[Yi,gY fa.nice.pos fa.nice.nd,gY fb.nice.pos fb.nice.nd,gY pos nd];have:=lk z;have e:au a.cs b.cs z=look a.cs z+look b.cs z:=rfl;have:=Xx fa.nice.pos z;have:=Xx fb.nice.pos z;omega
 have cut:ay a.room a.cs b.cs=t.lt:=by
  unfold ay;rw[Cf (g:=look ss) fun z _=>lk z,fa.room_,ke (kp.map _),N9 nd];exact C
 have l0:=h.lt0;have m:=iK (a:=a) (b:=b) fa.nice.nd fb.nice.nd h.nice fun z=>by
  rw[Ph fa.nice.nd fb.nice.nd (by rw[cut];exact l0),lk,cut,L];by_cases hz:z∈t.cs.map (·.1)
  ·have:=X1 h.nice.pos h.nice.nd hz;rw[Ah hz,Ah (by omega)];omega
  ·have:=(Z z hz).2;rw[Aj hz,Aj (by omega),Zm hz]
 rw[m,cut,fa.room_,fa.lt_,fb.lt_,fa.tot,fb.tot];have tot:(ar xs).sum+(ar ys).sum=t.total:=by
  rw[←S,←td];unfold ar;rw[ca,Bk]
 rw[tot];obtain⟨_,_,_,_⟩:=t;show Ty.mk _ _ (0+0+_) _=_;rw[BP,BP]
end
theorem mn(z:Str)(xs ys:List Th):tms z (xs++ys)=tms z xs+tms z ys:=by
 unfold tms;rw[AJ,ca,Bk]
theorem jU(z:Str)(p:Str×Int):tms z [a8 p]=if p.1=z then p.2 else 0:=by
 unfold tms;rw[As];show((if decide (p.1=z)=true then[a8 p] else[]).map (·.many)).sum=_;by_cases c:p.1=z
 ·rw[Ah c,Ah (zy c)];exact BF _
 ·rw[Aj c,Aj (fun q=>c (bb q))];rfl
theorem qw(z:Str):∀{ps:Ps},(ps.map (·.1)).Nodup→tms z (ps.map a8)=look ps z
 | [],_=>rfl
 |p::ps,h=>by
  have h:=AC.mp h;have ih:=qw z h.2;show tms z ([a8 p]++ps.map a8)=if p.1=z then p.2 else look ps z
  rw[mn,ih,jU];by_cases c:p.1=z
  ·rw[Ah c,Ah c];subst c;rw[Zm h.1];omega
  ·rw[Aj c,Aj c];omega
theorem mf(t:Ty)(ws:List Str):(aI t ws).all=(aB t ws).map a8:=by
 show((aB t ws).take t.room.toNat).map a8++((aB t ws).drop t.room.toNat).map a8=_;rw[←ca,List.take_append_drop]
theorem ii{ws:List Str}{ns:List Int}{z:Str}(h:z∉ws):look (ws.zip ns) z=0:=Zm fun q=>by
 rw[Qa]at q;exact h (Bz q)
section
variable{t:Ty}{ws:List Str}(h:TyN t)(g:Wo t ws)
include h g
theorem ik(z:Str):tms z (aI t ws).all=look (aB t ws) z:=by rw[mf,qw z (mx h g)]
theorem i7{z:Str}(h1:z∉t.cs.map (·.1))(h2:z∉ws):tms z (aI t ws).all=0:=by
 rw[ik h g,Up h g,Aj h1,ii h2]
theorem jL{z:Str}(h1:z∈t.cs.map (·.1)):tms z (aI t ws).all=look t.cs z+t.lt:=by
 rw[ik h g,Up h g,Ah h1]
end
theorem oQ{t:Ty}{ws:List Str}{z:Str}(h:TyN t)(g:Wo t (z::ws)):tms z (aI t (z::ws)).all=look t.cs z+t.lt:=by
 have o:=g.out z (.head _);have r1:=h.len;rw[ik h g,Up h g,Aj o,Zm o];by_cases c:t.lt=0
 ·rw[N6 h c,c];rfl
 ·have l0:=h.lt0;obtain⟨r,e⟩:=N5 h (by omega);obtain⟨k,ek⟩:∃k,(t.room+1-t.cs.length).toNat=k+1:=⟨(t.room-t.cs.length).toNat,by omega⟩;rw[e,ek,List.replicate_succ];show(if z=z then t.lt else _)=_;rw[Ah rfl];omega
theorem gQ{t:Ty}(z x:Str):x∈(woT t z).cs.map (·.1)↔x∈t.cs.map (·.1)∧x≠z:=by
 constructor
 ·intro q;obtain⟨p,hp,rfl⟩:=Ab.mp q;obtain⟨h1,h2⟩:=AH.mp hp;exact⟨Ab.mpr ⟨p,h1,rfl⟩,bb h2⟩
 ·rintro⟨q,ne⟩;obtain⟨p,hp,rfl⟩:=Ab.mp q;exact Ab.mpr ⟨p,AH.mpr ⟨hp,zy ne⟩,rfl⟩
theorem pU{z:Str}:∀{ps:Ps},(ps.map (·.1)).Nodup→(ar (ps.filter fun p=>decide (p.1≠z))).sum=(ar ps).sum-look ps z
 | [],_=>rfl
 |p::ps,h=>by
  have h:=AC.mp h;have ih:=pU (z:=z) h.2;rw[As];show _=(p.2+(ar ps).sum)-if p.1=z then p.2 else look ps z
  by_cases c:p.1=z
  ·rw[Aj (c:=decide (p.1≠z)=true) (fun q=>absurd c (bb q)),Ah c,ih];subst c;rw[Zm h.1];omega
  ·rw[Ah (zy c),Aj c];have e:(ar (p::ps.filter fun p=>decide (p.1≠z))).sum=p.2+(ar (ps.filter fun p=>decide (p.1≠z))).sum:=rfl;rw[e,ih];omega
theorem vU{z:Str}:∀{ps:Ps},z∈ps.map (·.1)→(ps.filter fun p=>decide (p.1≠z)).length<ps.length
 | [],h=>nomatch h
 |p::ps,h=>by
  rw[As];by_cases c:p.1=z
  ·rw[Aj (fun q=>absurd c (bb q))];exact Nat.lt_succ_of_le (Ap _ _)
  ·rw[Ah (zy c)];refine Nat.succ_lt_succ (vU ?_)
   rcases Ae.mp h with q | q
   ·exact absurd q.symm c
   ·exact q
theorem Nice.filter{ps:Ps}(h:Nice ps)(f:Str×Int→Bool):Nice (ps.filter f):=
 ⟨h.nd.sublist (List.filter_sublist.map _),h.rise.sublist (List.filter_sublist.map _),fun p hp=>h.pos p (AH.mp hp).1⟩
theorem mh{t:Ty}(h:TyN t)(z:Str):TyN (woT t z):=by
 have e:=pU (z:=z) h.nice.nd;have lo:=h.lo;have hi:=h.hi;have len:=h.len;refine⟨h.room1,h.room2,h.nice.filter _,?_,h.lt0,?_,?_⟩
 ·have:=Ap (fun p:Str×Int=>decide (p.1≠z)) t.cs;show((t.cs.filter fun p=>decide (p.1≠z)).length:Int)≤t.room;omega
 ·show(t.room+1)*t.lt≤t.total-look t.cs z-(ar (t.cs.filter fun p=>decide (p.1≠z))).sum;rw[e];omega
 ·show t.total-look t.cs z-(ar (t.cs.filter fun p=>decide (p.1≠z))).sum≤2*t.room*t.lt;rw[e];omega
theorem ut{t:Ty}(z x:Str)(nd:(t.cs.map (·.1)).Nodup):look (woT t z).cs x=if x=z then 0 else look t.cs x:=by
 by_cases c:x=z
 ·rw[Ah c,Zm fun q=>((gQ z x).mp q).2 c]
 ·rw[Aj c];by_cases hx:x∈t.cs.map (·.1)
  ·obtain⟨p,hp,rfl⟩:=Ab.mp hx;rw[Yv nd hp];exact Yv (ps:=(woT t z).cs) (nd.sublist (List.filter_sublist.map _)) (AH.mpr ⟨hp,zy c⟩)
  ·rw[Zm hx,Zm fun q=>hx ((gQ z x).mp q).1]
theorem gS{t:Ty}(h:TyN t){z:Str}{ws:List Str}(hz:z∈t.cs.map (·.1))(g:Wo (woT t z) ws):aQ t.room (.node (aI (woT t z) ws) (.leaf [a8 (z,look t.cs z)]))=t:=by
 have G:aQ t.room (aI (woT t z) ws)=woT t z:=T8 (mh h z) g;have r1:=h.room1;have lp:=X1 h.nice.pos h.nice.nd hz;have fb:=kB (room:=t.room) _ [(z,look t.cs z)] rfl (by simp) (by show((1:Nat):Int)≤_;omega) fun p hp=>by rw[List.mem_singleton.mp hp];exact lp
 show aA (aQ t.room (aI (woT t z) ws)) (aJ t.room ([(z,look t.cs z)].map a8))=t;rw[G];generalize aJ t.room ([(z,look t.cs z)].map a8)=b at fb;have nw:=(mh h z).nice;have kl:=Xb (woT t z).cs b.cs;have wl:(woT t z).cs.length<t.cs.length:=vU hz;have bl:=fb.len;have len:=h.len;have c:((ah (woT t z).cs b.cs).length:Int)≤(woT t z).room:=by
  show _≤t.room;have:([(z,look t.cs z)]:Ps).length=1:=rfl;omega
 have c0:=Py c;have m:=iK (a:=woT t z) (b:=b) nw.nd fb.nice.nd h.nice fun x=>by
  rw[Pg nw.nd fb.nice.nd nw.pos fb.nice.pos c,ut z x h.nice.nd,fb.lk];show _+(if z=x then look t.cs z else 0)=_;by_cases e:x=z
  ·rw[Ah e,Ah e.symm,e];omega
  ·rw[Aj e,Aj (Ne.symm e)];omega
 rw[m,c0,fb.lt_,fb.tot];have e1:(woT t z).total+(ar [(z,look t.cs z)]).sum=t.total:=by
  show t.total-look t.cs z+(look t.cs z+0)=_;omega
 rw[e1];show Ty.mk t.room t.cs (t.lt+0+0) t.total=t;rw[BF,BF]
theorem xZ{α:Type}[DecidableEq α]:∀{l m:List α},l.Nodup→(∀x∈l,x∈m)→l.length≤m.length:=by
 intro l
 induction l with
 |nil=>exact fun _ _=>Bc _
 |cons a l ih=>
  intro m nd h;obtain⟨n1,n2⟩:=AC.mp nd;have am:=h a (.head _);have:=ih (m:=m.erase a) n2 fun x hx=>(List.mem_erase_of_ne (fun e:x=a=>n1 (by rw[←e];exact hx))).mpr (h x (.tail _ hx));rw[List.length_erase_of_mem am]at this;have:=List.length_pos_of_mem am;rw[AD];omega
theorem ny{α:Type}(p:α→Bool):∀l:List α,(l.filter p).length+(l.filter fun x=>!p x).length=l.length
 | []=>rfl
 |a::l=>by
  have ih:=ny p l;rw[As,As,AD];cases h:p a with
  |true=>
   simp;omega
  |false=>
   simp;omega
theorem wat_nd:((List.range 64).map wAt).Nodup:=by decide +kernel
theorem wu:∀x∈(List.range 64).map wAt,gwB x=true:=by decide +kernel
theorem pL{n m:Nat}(h:n≤m):((List.range n).map wAt).Sublist ((List.range m).map wAt):=(List.range_sublist.mpr h).map _
theorem rZ{t:Ty}{z x:Str}:(aF (bH t z) (Sum.inr x)).isSome=false→x≠z∧x∉t.cs.map (·.1):=by
 intro h;unfold bH at h;rw[jf]at h;by_cases c:x=z
 ·rw[Ah (by rw[c])]at h;cases h
 ·refine⟨c,fun q=>?_⟩;rw[Aj (fun q=>c (CV q))]at h;have e:(aw t.cs).map (·.1)=(t.cs.map (·.1)).map Sum.inr:=Xr t.cs;have hn:aF (aw t.cs) (Sum.inr x)=none:=Option.not_isSome_iff_eq_none.mp (by rw[h];decide);refine rq hn ?_;rw[e];exact Ab.mpr ⟨x,q,rfl⟩
structure Spa(t:Ty)(z:Str)(ws:List Str):Prop where
 nd:ws.Nodup
 all:∀x∈ws,x≠z∧x∉t.cs.map (·.1)∧gwB x=true
 len:2*t.room≤ws.length
theorem Oq{t:Ty}(h:TyN t)(z:Str):Spa t z (aP t z):=by
 have r1:=h.room1;have r2:=h.room2;have tl:=jD t z;have cl:=h.len;have n64:(2*t.room+(bH t z).length).toNat≤64:=by omega
 have sub:=pL n64;have nd:((List.range (2*t.room+(bH t z).length).toNat).map wAt).Nodup:=wat_nd.sublist sub;refine⟨nd.sublist BJ,fun x hx=>?_,?_⟩
 ·obtain⟨h1,h2⟩:=AH.mp hx;obtain⟨h3,h4⟩:=rZ (Bool.not_eq_true' _ ▸ h2:(aF (bH t z) (Sum.inr x)).isSome=false);exact⟨h3,h4,wu x (sub.subset h1)⟩
 ·unfold aP;have two:=ny (fun x=>!(aF (bH t z) (Sum.inr x)).isSome) ((List.range (2*t.room+(bH t z).length).toNat).map wAt);have le:(((List.range (2*t.room+(bH t z).length).toNat).map wAt).filter fun x=>!!(aF (bH t z) (Sum.inr x)).isSome).length≤(bH t z).length:=by
   have q:=xZ (l:=(((List.range (2*t.room+(bH t z).length).toNat).map wAt).filter fun x=>!!(aF (bH t z) (Sum.inr x)).isSome).map (Sum.inr:Str→Key)) (m:=(bH t z).map (·.1)) (P7 (nd.sublist BJ)) fun x hx=>by
    obtain⟨y,hy,rfl⟩:=Ab.mp hx;have h2:=(AH.mp hy).2;rw[Bool.not_not]at h2;obtain⟨v,hv⟩:=Cb.mp h2;exact lX hv
   rw[ae,ae]at q;exact q
  rw[ae,Ba]at two;omega
theorem Spa.wo{t:Ty}{z:Str}{ws:List Str}(h:TyN t)(s:Spa t z ws):Wo t ws:=by
 have:=Wv h.room1 h.len;have:=s.len;exact⟨s.nd,fun x hx=>(s.all x hx).2.1,by omega⟩
theorem Spa.wo2{t:Ty}{z:Str}{ws:List Str}(h:TyN t)(s:Spa t z ws):Wo (woT t z) ws:=by
 have w:=mh h z;have:=Wv w.room1 w.len;have e:(woT t z).room=t.room:=rfl;have:=s.len;exact⟨s.nd,fun x hx q=>(s.all x hx).2.1 ((gQ z x).mp q).1,by omega⟩
theorem Spa.wo3{t:Ty}{z:Str}{ws:List Str}(h:TyN t)(s:Spa t z ws)(n:z∉t.cs.map (·.1)):Wo t (z::ws):=by
 have:=Wv h.room1 h.len;have:=s.len;refine⟨AC.mpr ⟨fun q=>(s.all z q).1 rfl,s.nd⟩,fun x hx=>?_,by rw[AD];omega⟩
 rcases Ae.mp hx with q | q
 ·rw[q];exact n
 ·exact(s.all x q).2.1
theorem Sh{t:Ty}{ws:List Str}(h:TyN t)(g:Wo t ws)(gk:∀p∈t.cs,gwB p.1=true)(gw:∀x∈ws,gwB x=true):TrG (aI t ws):=by
 have all:∀p∈aB t ws,ThG (a8 p):=fun p hp=>by
  refine⟨rfl,rfl,jI h g p hp,?_⟩;have hk:p.1∈(aB t ws).map (·.1):=Ab.mpr ⟨p,hp,rfl⟩;rw[On]at hk
  rcases AI.mp hk with q | q
  ·obtain⟨y,hy,e⟩:=Ab.mp q;show gwB p.1=true;rw[←e];exact gk y hy
  ·exact gw _ (Bz q)
 refine⟨fun t ht=>?_,fun t ht=>?_⟩
 ·obtain⟨p,hp,rfl⟩:=Ab.mp ht;exact all p (Bz hp)
 ·obtain⟨p,hp,rfl⟩:=Ab.mp ht;exact all p (List.mem_of_mem_drop hp)
theorem Rz{t:Ty}{ws:List Str}(h:TyN t):(aI t ws).all.length≤40:=by
 have:=Qh (ws:=ws) h.room1 h.len;have:=h.room2;rw[mf,ae];omega
theorem lj(t:Ty)(ws:List Str):(aI t ws).ht<3:=by show max 0 0+1<3;decide
theorem jZ(t:Ty)(ws:List Str):Tr.leaves (aI t ws)≤3:=by show 1+1≤3;decide
structure Met(t:Ty)(z:Str)(n:Int)(tr:Tr):Prop where
 good:TrG tr
 ht:tr.ht<3
 leaves:Tr.leaves tr≤3
 len:tr.all.length≤41
 grown:aQ t.room tr=t
 tms:tms z tr.all=n
theorem jb{t:Ty}(h:TyN t)(gk:∀p∈t.cs,gwB p.1=true){z:Str}(gz:gwB z=true):Met t z (look t.cs z) (bE t z):=by
 have sp:=Oq h z;unfold bE;by_cases c:look t.cs z=0
 ·rw[Ah c,c];have w:=sp.wo h;have n:z∉t.cs.map (·.1):=fun q=>by have:=X1 h.nice.pos h.nice.nd q;omega
  exact⟨Sh h w gk fun x hx=>(sp.all x hx).2.2,lj _ _,jZ _ _,Nat.le_succ_of_le (Rz h),T8 h w,i7 h w n fun q=>(sp.all z q).1 rfl⟩
 ·rw[Aj c];have w:=sp.wo2 h;have wk:=mh h z;have n:z∈t.cs.map (·.1):=by
   by_cases q:z∈t.cs.map (·.1)
   ·exact q
   ·exact absurd (Zm q) c
  have gk2:∀p∈(woT t z).cs,gwB p.1=true:=fun p hp=>gk p (AH.mp hp).1;have lp:=X1 h.nice.pos h.nice.nd n;refine⟨⟨Sh wk w gk2 fun x hx=>(sp.all x hx).2.2,fun t ht=>?_⟩,by show max (max 0 0+1) 0+1<3;decide,by show(1+1)+1≤3;decide,?_,gS h n w,?_⟩
  ·rw[Af.mp ht];exact⟨rfl,rfl,lp,gz⟩
  ·show((aI (woT t z) (aP t z)).all++[a8 (z,look t.cs z)]).length≤41;have:=Rz (ws:=aP t z) wk;rw[ba];show _+1≤41;omega
  ·show tms z ((aI (woT t z) (aP t z)).all++[a8 (z,look t.cs z)])=_;rw[mn,jU,i7 wk w (fun q=>((gQ z z).mp q).2 rfl) fun q=>(sp.all z q).1 rfl,Ah rfl];exact BP _
theorem m4{t:Ty}(h:TyN t)(gk:∀p∈t.cs,gwB p.1=true){z:Str}(gz:gwB z=true):Met t z (look t.cs z+t.lt) (bY t z):=by
 have sp:=Oq h z;unfold bY;by_cases c:look t.cs z=0
 ·rw[Ah c];have n:z∉t.cs.map (·.1):=fun q=>by have:=X1 h.nice.pos h.nice.nd q;omega
  have w:=sp.wo3 h n;refine⟨Sh h w gk fun x hx=>?_,lj _ _,jZ _ _,Nat.le_succ_of_le (Rz h),T8 h w,oQ h w⟩
  rcases Ae.mp hx with q | q
  ·rw[q];exact gz
  ·exact(sp.all x q).2.2
 ·rw[Aj c];have w:=sp.wo h;have n:z∈t.cs.map (·.1):=by
   by_cases q:z∈t.cs.map (·.1)
   ·exact q
   ·exact absurd (Zm q) c
  exact⟨Sh h w gk fun x hx=>(sp.all x hx).2.2,lj _ _,jZ _ _,Nat.le_succ_of_le (Rz h),T8 h w,jL h w n⟩
theorem iL:∀x∈words,gwB x=true:=by decide +kernel
theorem Os:∀x∈shorts,gwB x=true:=by decide +kernel
theorem gq:∀n:Nat,(List.replicate n true).all id=true
 | 0=>rfl
 |n+1=>by rw[List.replicate_succ,CJ,gq n];rfl
theorem wT:((List.range 26).all fun i=>sgB (97+i))=true:=by decide +kernel
theorem mq{z:Str}(h:gwB z=true):mkS z=true∧z.length≤8:=by
 unfold gwB at h;simp only[Bool.and_eq_true,decide_eq_true_eq]at h;obtain⟨⟨⟨h1,h2⟩,h3⟩,_⟩:=h;refine⟨?_,h2⟩;unfold mkS;rw[zy h1,zy h2,Cc,Cc,A3];intro c hc;have z:=A3.mp h3 c hc;simp only[Bool.and_eq_true,decide_eq_true_eq]at z;have q:=A3.mp wT (c-97) (CT.mpr (by omega));rw[show 97+(c-97)=c by omega]at q;exact q
structure Mdt(t:Ty):Prop where
 room1:1≤t.room
 room2:t.room≤20
 nd:(t.cs.map (·.1)).Nodup
 rise:(t.cs.map (·.1)).Pairwise (fun a b=>leS a b=true)
 word:∀p∈t.cs,gwB p.1=true
 pos:∀p∈t.cs,1≤p.2
 len:(t.cs.length:Int)≤t.room
 lt0:0≤t.lt
theorem vj{t:Ty}(ok:Mdt t):(t.cs.map (·.1)).Pairwise (fun x y=>x.cps.toList<y.cps.toList):=by
 have h:=List.Pairwise.and ok.rise ok.nd;refine h.imp ?_;rintro a b ⟨h1,h2⟩;by_cases c:a.cps.toList<b.cps.toList
 ·exact c
 ·have h3:leS b a=true:=by unfold leS;rw[Ag c];rfl
  exact absurd (Pj h1 h3) h2
def sj:Sp:=fun vs H Q _=>∃(a:Addr)(zs:List Str),vs=[.ref a]∧H a=some (.lst (zs.map V.str))∧zs.length≤100∧zs.Pairwise (fun x y=>x.cps.toList<y.cps.toList)∧∀H',Same H H'→Q (.bl true) H'
def z_:Sp:=fun vs H Q _=>∃(i:Int),vs=[.int i]∧Q (.bl (decide (1≤i) && decide (i≤20))) H
def vZ(m:Addr):Sp:=fun vs H Q _=>∃(c:Addr)(z:Str)(n:Int),vs=[.ref c,.ref m]∧H c=some (.tup [.str z,.int n])∧gwB z=true∧1≤n∧∀H',Same H H'→Q (.bl true) H'
def sr(m:Addr):Sp:=fun vs H Q _=>∃(b:Addr)(rows:List V)(t:Ty),vs=[.ref b,.ref m]∧H b=some (.tup rows)∧PairsAt H rows (aw t.cs)∧Mdt t∧∀H',Same H H'→Q (.bl true) H'
def qh:Sp:=fun vs H Q _=>∃(r:Addr)(t:Ty),vs=[.ref r]∧DV H (.ref r) t.D∧Mdt t∧0≤t.total∧∀H',Same H H'→Q (.bl true) H'
theorem vy(aY:mg "all"=none)(c9:mg "zip"=none)(F:Fun K "is_rising" "is_rising" cf f fd):FnOk P w K mg base CX0 1 f fd ["parts"] sj:=by
 refine F.ok S9 (fun vs H Q E h=>?_) (fun cdv A outer s H vs Q E hr h=>?_)
 ·obtain⟨a,zs,rfl,_⟩:=h;rfl
 obtain⟨a,zs,rfl,C9,zl,pw,hq⟩:=h;refine⟨_,(Z6 (Zb (Zi (V4 rfl) rfl aY Bs (Z0 (Y3 (own:=["one","other"]) (Xz rfl rfl) (wJ rfl c9 (Z0 (pv 0) (Z0 (Vj S7 (pv 0) (Uv Z4) Uw) Z1)))
  (fun _ _ _ _ _=>(Xa K 2 rfl rfl (Z8 (Z7 (i:=0) Yu rfl (Or.inl rfl) (Or.inr rfl)) (Z8 (Z7 (i:=1) Yu rfl (Or.inl rfl) (Or.inr rfl)) Zt)))) (fun _ _ _ _ _=>Yb)
  (fun _ _ _ _ _=>(Xi Oy (pv 0) (pv 1) (Zl _)))) Z1)))),?_⟩
 refine⟨_,rfl,_,rfl,1,rfl,a,_,rfl,SqL.of C9,fun b n_b=>?_⟩;have eb:cB (zs.map V.str) (some 1) none=(zs.drop 1).map V.str:=by
  unfold cB;have h:=HT.sIx_nat (zs.map V.str).length 0 1;rw[show((1:Nat):Int)=1 from rfl]at h;rw[h,HT.sIx_none,ae]
  rcases zs with _ | ⟨z,zs⟩
  ·rfl
  ·rw[AD,CN (by omega),List.map_drop];exact BH (by rw[Bx,ae,AD];omega)
 rw[eb];have g0:=Z9 n_b (.lst ((zs.drop 1).map V.str));have C3:=Z5 (H:=H) (a:=b) (o:=.lst ((zs.drop 1).map V.str));have C9:=g0 _ _ C9;generalize upd H b (.lst ((zs.drop 1).map V.str))=H1 at g0 C3 C9⊢;refine⟨a,b,rfl,⟨_,SqL.of C9⟩,⟨_,SqL.of C3⟩,?_⟩;have ln:min (zs.map V.str).length ((zs.drop 1).map V.str).length≤100:=by rw[ae,ae];omega
 refine qR (xs:=zs.map V.str) (zs:=(zs.drop 1).map V.str) (fun n ys H'=>Same H1 H'∧ys=(List.replicate n true).map V.bl) ⟨Same.refl _,rfl⟩ ?_ ?_ ?_ ?_
 ·rintro n ys H' _ ⟨g,_⟩;exact⟨SqL.of (g _ _ C9),SqL.of (g _ _ C3)⟩
 ·rintro n x z ys H' T C hx hz ⟨g,rfl⟩ nT hC;rw[Ar]at hx hz;obtain⟨x',hx',rfl⟩:=An.mp hx;obtain⟨z',hz',rfl⟩:=An.mp hz;rw[List.getElem?_drop]at hz';have lt:x'.cps.toList<z'.cps.toList:=by
   obtain⟨i1,e1⟩:=Ad.mp hx';obtain⟨i2,e2⟩:=Ad.mp hz';rw[←e1,←e2];exact List.pairwise_iff_getElem.mp pw n (1+n) i1 i2 (by omega)
  refine⟨Zk ?_,T,_,rfl,SqT.of Z5,rfl,_,_,rfl,_,_,rfl,rfl,Wk.refl _,_,rfl,_,rfl,_,_,rfl,rfl,hC _ _ ⟨g.trans (Z9 nT _),?_⟩⟩
  ·rw[ae,AE];have:=(Ad.mp hx').1;omega
  ·rw[zy lt,B9,ca];rfl
 ·rintro n ys H' hn ⟨g,rfl⟩;rw[ae,AE];exact Zk (by omega)
 ·rintro ys H' ⟨g,rfl⟩;refine⟨Zd ?_,fun p hp=>⟨p,_,rfl,SqL.of Z5,?_⟩⟩
  ·rw[ae,AE];omega
  ·rw[gq];exact hq _ (g0.trans (g.trans (Z9 hp _)))
theorem xr(ag:mg "isinstance"=none)(ax:mg "tuple"=none)(aG:mg "len"=none)(aE:Has P w K mg base "is_whole_from" 2 ["thing","least"] pV){m:Addr}{fm:FuncData}(FM:FnOk P w K mg base CX0 1 m fm ["thing"] kR)(BM:Binds K fm ["thing"] [])(CM:Cal base m)(F:Fun K "is_count" "is_count" dM f fd):FnOk P w K mg base CX0 3 f fd ["thing","is_key"] (vZ m):=by
 refine F.ok Ub (fun vs H Q E h=>?_) (fun cdv A outer s H vs Q E hr h=>?_)
 ·obtain⟨c,z,n,rfl,_⟩:=h;rfl
 obtain⟨c,z,n,rfl,C6,zw,n0,hq⟩:=h;refine⟨_,(Z2 (Y7 (PW.pt (V8 (W6 (Xl (Zi W0 rfl ag AM (Z0 (pv 0) (Z0 (Xs (v:=.ty "tuple") rfl ax A1 rfl) Z1))))) (W5 (Zn P1 (Zi Y8 rfl aG A9 (Z0 (pv 0) Z1)) Z4 (Zl _))))) (Z6 (Zb X6)) Zq)
 (Z2 (X5 (pv 0) (Ys rfl (Z8 (Z7 (i:=2) Ub.nd rfl (Or.inl rfl)) (Z8 (Z7 (i:=3) Ub.nd rfl (Or.inl rfl)) Zt))))
 (Z6 (Zb (V0 (Qv (i:=1) hr (Z0 (pv 2) Z1)) (Vu (Z3 aE hr (Z0 (pv 3) (Z0 Z4 Z1))))))))),?_⟩
 have hk:Kd H (.ref c) "tuple":=.tup C6;refine⟨_,rfl,_,_,"tuple",_,rfl,hk.ty,hk.kit (by decide) rfl,_,rfl,Ym ⟨_,rfl,c,_,rfl,.inr (SqT.of C6),rfl,_,rfl,Ym ?_⟩⟩;refine⟨_,rfl,c,_,rfl,SqT.of C6,rfl,_,_,rfl,_,_,rfl,rfl,?_⟩;refine⟨m,fm,_,_,rfl,FM.mono (by decide),BM,CM,_,rfl,_,"str",rfl,.str _,(fun z' e=>by cases e;have:=(mq zw).2;omega),fun H1 g1=>⟨_,rfl,?_⟩⟩;rw[show mkB (.str z)=true from(mq zw).1];refine Xf ⟨_,rfl,_,"int",_,rfl,.int _,?_⟩;rw[show wF (.int n) 1=true from zy n0];exact hq _ g1
theorem uz(ag:mg "isinstance"=none)(ax:mg "tuple"=none)(aY:mg "all"=none){m:Addr}(kD:Has P w K mg base "is_count" 3 ["thing","is_key"] (vZ m))(cY:Has P w K mg base "is_rising" 1 ["parts"] sj)(F:Fun K "are_counts" "are_counts" cI f fd):FnOk P w K mg base CX0 4 f fd ["thing","is_key"] (sr m):=by
 refine F.ok O8 (fun vs H Q E h=>?_) (fun cdv A outer s H vs Q E hr h=>?_)
 ·obtain⟨b,rows,t,rfl,_⟩:=h;rfl
 obtain⟨b,rows,t,rfl,C3,pa,ok,hq⟩:=h;refine⟨_,(Z2 (Y7 (PW.pt (V8 (W6 (Xl (Zi W0 rfl ag AM (Z0 (pv 0) (Z0 (Xs (v:=.ty "tuple") rfl ax A1 rfl) Z1))))) (W5 (W6 (Xl (Zi (V4 rfl) rfl aY Bs (Z0 (Y3 (own:=["one"]) (Xz rfl rfl) (Wg (pv 0))
  (fun _ _ _ _ _=>(Z7 (i:=0) Tf rfl (Or.inl rfl) (Or.inr rfl))) (fun _ _ _ _ _=>Yb)
  (fun _ _ _ _ _=>(Z3 kD hr (Z0 (pv 0) (Z0 (pv 2) Z1))))) Z1))))))) (Z6 (Zb X6)) Zq)
 (Z6 (Zb (Z3 cY hr (Z0 (Y3 (own:=["key","count"]) (Xz rfl rfl) (Wg (pv 0))
  (fun _ _ _ _ _=>(Xa K 2 rfl rfl (Z8 (Z7 (i:=0) Wi rfl (Or.inl rfl) (Or.inr rfl)) (Z8 (Z7 (i:=1) Wi rfl (Or.inl rfl) (Or.inr rfl)) Zt)))) (fun _ _ _ _ _=>Yb)
  (fun _ _ _ _ _=>(pv 0))) Z1))))),?_⟩
 have hk:Kd H (.ref b) "tuple":=.tup C3;have rl:=pa.length;rw[Zs]at rl;have l1:=ok.len;have l2:=ok.room2;refine⟨_,rfl,_,_,"tuple",_,rfl,hk.ty,hk.kit (by decide) rfl,_,rfl,Ym ⟨_,rfl,b,rfl,⟨_,SqT.of C3⟩,?_⟩⟩;refine Vn (xs:=rows) (fun n ys H'=>Same H H'∧ys=(List.replicate n true).map V.bl) ⟨Same.refl _,rfl⟩ ?_ ?_ ?_
 ·rintro n ys H' _ ⟨g,_⟩;exact SqT.of (g _ _ C3)
 ·rintro n x ys H' C hx ⟨g,rfl⟩ hC;obtain⟨q,p,rfl,hp,eq⟩:=pa.getP hx;have mp:=Ai hp;refine⟨Zk ?_,Wk.refl _,_,rfl,_,rfl,q,p.1,p.2,rfl,g _ _ eq,ok.word p mp,ok.pos p mp,fun H1 g1=>hC _ _ ⟨g.trans g1,?_⟩⟩
  ·rw[ae,AE];have:=(Ad.mp hx).1;omega
  ·rw[B9,ca];rfl
 ·rintro ys H' ⟨g,rfl⟩;refine⟨Zd ?_,fun p hp=>⟨p,_,rfl,SqL.of Z5,_,rfl,?_⟩⟩
  ·rw[ae,AE];omega
  ·rw[gq];have g1:=g.trans (Z9 hp (.lst ((List.replicate rows.length true).map V.bl)));generalize upd H' p (.lst ((List.replicate rows.length true).map V.bl))=H1 at g1⊢;refine Ym ⟨_,rfl,⟨b,rfl,⟨_,SqT.of (g1 _ _ C3)⟩,?_⟩⟩;refine V3 (fun _=>true) (fun t=>.str t.1) (g1 _ _ C3) (pa.mono g1) (by omega) ?_ ?_
   ·rintro u q ys C mu eq hC _;exact⟨q,_,rfl,SqT.of eq,rfl,_,_,rfl,_,_,rfl,rfl,Wk.refl _,_,rfl,hC rfl⟩
   ·intro q nq;refine⟨q,t.cs.map (·.1),rfl,?_,by rw[ae];omega,vj ok,fun H2 g2=>hq _ (g1.trans ((Z9 nq _).trans g2))⟩;rw[Z5]
    congr 2
    rw[BK.mpr (fun _ _=>rfl),AB];rfl
theorem oR(d_:Has P w K mg base "is_whole_within" 3 ["thing","least","most"] zR)(iW:∃u,mg "MOST_ROOM"=some u∧RelV (.int 20) u)(F:Fun K "is_room" "is_room" eA f fd):FnOk P w K mg base CX0 4 f fd ["thing"] z_:=by
 refine F.ok kr (fun vs H Q E h=>?_) (fun cdv A outer s H vs Q E hr h=>?_)
 ·obtain⟨i,rfl,_⟩:=h;rfl
 obtain⟨i,rfl,hq⟩:=h;refine⟨_,(Z6 (Zb (Z3 d_ hr (Z0 (pv 0) (Z0 Z4 (Z0 (Wf rfl iW) Z1)))))),?_⟩;exact⟨_,rfl,i,1,20,rfl,hq⟩
theorem uW(ag:mg "isinstance"=none)(ax:mg "tuple"=none)(aG:mg "len"=none)(aE:Has P w K mg base "is_whole_from" 2 ["thing","least"] pV)(pH:Has P w K mg base "is_room" 4 ["thing"] z_){m:Addr}(ic:Has P w K mg base "are_counts" 4 ["thing","is_key"] (sr m))(pJ:∃u,mg "is_mark"=some u∧RelV (.ref m) u)(F:Fun K "is_made_as_tally" "is_made_as_tally" bf f fd):FnOk P w K mg base CX0 5 f fd ["thing"] qh:=by
 refine F.ok Yc (fun vs H Q E h=>?_) (fun cdv A outer s H vs Q E hr h=>?_)
 ·obtain⟨r,t,rfl,_⟩:=h;rfl
 obtain⟨r,t,rfl,hd,ok,t0,hq⟩:=h;refine⟨_,(Z2 (Y7 (PW.pt (V8 (W6 (Xl (Zi W0 rfl ag AM (Z0 (pv 0) (Z0 (Xs (v:=.ty "tuple") rfl ax A1 rfl) Z1))))) (W5 (Zn P1 (Zi Y8 rfl aG A9 (Z0 (pv 0) Z1)) Z4 (Zl _))))) (Z6 (Zb X6)) Zq)
 (Z2 (X5 (pv 0) (Ys rfl (Z8 (Z7 (i:=1) Yc.nd rfl (Or.inl rfl)) (Z8 (Z7 (i:=2) Yc.nd rfl (Or.inl rfl)) (Z8 (Z7 (i:=3) Yc.nd rfl (Or.inl rfl)) (Z8 (Z7 (i:=4) Yc.nd rfl (Or.inl rfl)) Zt))))))
 (Z2 (Y7 (PW.pt (V8 (W6 (Xl (Z3 pH hr (Z0 (pv 1) Z1)))) (W5 (W6 (Xl (Z3 ic hr (Z0 (pv 2) (Z0 (Wf rfl pJ) Z1)))))))) (Z6 (Zb X6)) Zq)
 (Z6 (Zb (V0 (Xi mK (Zi Y8 rfl aG A9 (Z0 (pv 2) Z1)) (pv 1) (Zl _)) (V0 (Z3 aE hr (Z0 (pv 3) (Z0 Z4 Z1))) (Vu (Z3 aE hr (Z0 (pv 4) (Z0 Z4 Z1))))))))))),?_⟩
 obtain⟨_,b,rows,e0,ea,eb,pa⟩:=DV.ty_inv hd;cases e0;have rl:=pa.length;rw[Zs]at rl;have hk:Kd H (.ref r) "tuple":=.tup ea;refine⟨_,rfl,_,_,"tuple",_,rfl,hk.ty,hk.kit (by decide) rfl,_,rfl,Ym ⟨_,rfl,r,_,rfl,.inr (SqT.of ea),rfl,_,rfl,Ym ?_⟩⟩;refine⟨_,rfl,r,_,rfl,SqT.of ea,rfl,_,_,rfl,_,_,rfl,_,_,rfl,_,_,rfl,rfl,?_⟩;refine⟨_,rfl,t.room,rfl,_,rfl,?_⟩;rw[zy ok.room1,zy ok.room2];refine Ym ⟨_,rfl,b,rows,t,rfl,eb,pa,ok,fun H1 g1=>⟨_,rfl,Ym ?_⟩⟩;refine⟨_,rfl,b,rows,rfl,.inr (SqT.of (g1 _ _ eb)),_,rfl,_,_,rfl,rfl,_,rfl,?_⟩;have l1:=ok.len;rw[zy (by rw[rl];exact l1)];refine Xf ⟨_,rfl,_,"int",_,rfl,.int _,_,rfl,?_⟩;rw[show wF (.int t.lt) 0=true from zy ok.lt0];refine Xf ⟨_,rfl,_,"int",_,rfl,.int _,?_⟩;rw[show wF (.int t.total) 0=true from zy t0];exact hq _ g1
theorem Tm:∀t:Tr,(aC t).filterMap id=t.streams
 |.leaf ts=>rfl
 |.node l r=>by
  show(aC l++aC r++[none]).filterMap id=l.streams++r.streams;rw[CA,CA,Tm l,Tm r];exact AN _
def fZ:Sp:=fun vs H Q _=>∃(v:V)(t:Tr),vs=[v]∧DV H v t.D∧t.ht≤50∧t.size≤1000∧
 ∀(r:Addr)(ls:List V)(H':Hp),Same H H'→H r=none→H' r=some (.lst ls)→DVs H' ls (t.streams.map bG)→(∀x∈ls,∃q,x=.ref q∧H q=none∧q≠r)→Q (.ref r) H'
def dC:Sp:=fun vs H Q _=>∃(v:V)(t:Tr),vs=[v]∧DV H v t.D∧t.ht≤50∧t.size≤1000∧t.all.length≤100000∧
 ∀(r:Addr)(xs:List V)(H':Hp),Same H H'→H r=none→H' r=some (.lst xs)→DVs H' xs (t.all.map Th.D)→Q (.ref r) H'
def jp:Sp:=fun vs H Q _=>∃(r:Addr)(t:Ty)(z:Str),vs=[.ref r,.str z]∧DV H (.ref r) t.D∧(t.cs.map (·.1)).Nodup∧t.cs.length≤50∧∀(p:Addr) H',Same H H'→H' p=some (.tup [.int (look t.cs z),.int (look t.cs z+t.lt)])→Q (.ref p) H'
theorem Oa(bw:mg "list"=none)(dH:Has P w K mg base "steps_in" 1 ["tree"] eY)(F:Fun K "streams_in" "streams_in" cG f fd):FnOk P w K mg base CX0 2 f fd ["tree"] fZ:=by
 refine F.ok O6 (fun vs H Q E h=>?_) (fun cdv A outer s H vs Q E hr h=>?_)
 ·obtain⟨v,t,rfl,_⟩:=h;rfl
 obtain⟨v,t,rfl,dv,tht,tsz,hq⟩:=h;refine⟨_,(Z6 (Zb (Y3 (own:=["step"]) (Xz rfl rfl) (Y5 (Z3 dH hr (Z0 (pv 0) Z1)))
  (fun _ _ _ _ _=>(Z7 (i:=0) Td rfl (Or.inl rfl) (Or.inr rfl))) (fun _ _ _ _ _=>(Wj (Zn ue (pv 0) Tu (Zl _))))
  (fun _ _ _ _ _=>(X2 (Og K rfl) rfl bw PyProof.Rows.boot_list (Z0 (pv 0) Z1)))))),?_⟩
 refine⟨_,rfl,v,t,H,rfl,Same.refl _,dv,tsz,fun r0 ls H1 g1 n0 e0 pr=>?_⟩;have pl:=Vt pr;rw[Wp]at pl;refine⟨r0,rfl,⟨_,SqL.of e0⟩,?_⟩;refine Yo (xs:=ls) (fun n ys H'=>Same H1 H'∧DVs H' ys ((((aC t).take n).filterMap id).map bG)∧ys.length≤n∧∀x∈ys,∃q,x=.ref q∧H q=none∧H' q≠none) ⟨Same.refl _,.nil,io _,(fun _ h=>nomatch h)⟩ ?_ ?_ ?_
 ·rintro n ys H' _ ⟨g,_⟩;exact SqL.of (g _ _ e0)
 ·rintro n x ys H' C hx ⟨g,pa,yl,fr⟩ hC;obtain⟨o,ho,sv⟩:=gE pr hx;have lt:n<ls.length:=(Ad.mp hx).1;refine⟨Zk (by omega),Wk.refl _,_,rfl,rfl,_,rfl,?_⟩;cases o with
  |none=>
   have sv:x=.non:=sv;subst sv;refine Ym (hC _ _ ⟨g,?_,by omega,fr⟩);rw[Zr ho,CA];simpa using pa
  |some ts=>
   have sv:DV H x (bG ts):=sv;obtain⟨b,xs,rfl,eb,qb⟩:=DV.list_inv sv;refine Xf ⟨_,rfl,b,xs,rfl,.inl (SqL.of (g _ _ (g1 _ _ eb))),fun u nu=>?_⟩;refine hC _ _ ⟨g.trans (Z9 nu _),?_,by rw[ba];show ys.length+1≤_;omega,?_⟩
   ·rw[Zr ho,CA,ca];exact(pa.mono (Z9 nu _)).append (.cons (.lst Z5 (qb.mono (g1.trans (g.trans (Z9 nu _))))) .nil)
   ·intro y hy
    rcases AI.mp hy with h | h
    ·obtain⟨q,e,q1,q2⟩:=fr y h;refine⟨q,e,q1,fun z=>?_⟩;by_cases c:q=u
     ·rw[c,Z5]at z;cases z
     ·rw[Za c]at z;exact q2 z
    ·rw[Af.mp h];exact⟨u,rfl,g1.free (g.free nu),by rw[Z5];exact fun z=>nomatch z⟩
 ·rintro ys H' ⟨g,pa,yl,fr⟩;have e:(((aC t).take ls.length).filterMap id)=t.streams:=by
   rw[pl,←Wp t,At];exact Tm t
  rw[e]at pa;refine⟨Zd (by omega),fun p np=>hq p ys _ (g1.trans (g.trans (Z9 np _))) (g1.free (g.free np)) Z5 (pa.mono (Z9 np _)) fun x hx=>?_⟩;obtain⟨q,e,q1,q2⟩:=fr x hx;exact⟨q,e,q1,fun z=>q2 (z ▸ np)⟩
theorem ie(gX:Has P w K mg base "streams_in" 2 ["tree"] fZ)(F:Fun K "stream_of" "stream_of" cW f fd):FnOk P w K mg base CX0 3 f fd ["tree"] dC:=by
 refine F.ok Vp (fun vs H Q E h=>?_) (fun cdv A outer s H vs Q E hr h=>?_)
 ·obtain⟨v,t,rfl,_⟩:=h;rfl
 obtain⟨v,t,rfl,dv,hht,hsz,hal,hq⟩:=h;refine⟨_,(Z2 (Zz 1 Vp.nd rfl (Or.inl rfl) (Yn Z1))
 (Z2 (Xm AV rfl (Y5 (Z3 gX hr (Z0 (pv 0) Z1))) (Z7 (i:=2) Vp.nd rfl (Or.inl rfl))
 (Z6 (V9 (Uf AR PySem.F.slot_list_extend PySem.F.type_list_extend N4 (pv 1) (Z0 (pv 2) Z1)))))
 (Z6 (Zb (pv 1))))),?_⟩
 refine⟨leN rfl,fun Ta hTa=>?_⟩;refine⟨_,rfl,v,t,rfl,dv.mono (Z9 hTa _),hht,hsz,fun r ls H1 g1 hr1 er dl hfr=>?_⟩;have lT:H1 Ta=some (.lst []):=g1 _ _ Z5;have rT:Ta≠r:=fun e=>by rw[←e,Z5]at hr1;cases hr1
 refine⟨r,rfl,⟨ls,SqL.of er⟩,?_⟩;have dll:=dl.length;rw[ae]at dll;have sub:Same (av Ta H1) H1:=Yd;have dl':DVs (av Ta H1) ls (t.streams.map bG):=by
  have main:∀(ls:List V)(ss:List (List Th)),DVs H1 ls (ss.map bG)→(∀x∈ls,∃q,x=.ref q∧upd H Ta (.lst []) q=none∧q≠r)→DVs (av Ta H1) ls (ss.map bG):=by
   intro ls
   induction ls with
   |nil=>
    intro ss d _;cases ss with
    |nil=>exact .nil
    |cons s ss=>obtain⟨_,_,e,_⟩:=DVs.cons_inv d;cases e
   |cons x xs ih=>
    intro ss d hf;cases ss with
    |nil=>have:=d.nil_inv;cases this
    |cons s ss=>
     obtain⟨x',r',e,d1,d2⟩:=DVs.cons_inv d;cases e;refine .cons ?_ (ih ss d2 fun y hy=>hf y (Az _ hy));obtain⟨q,rfl,hq0,_⟩:=hf x Au;obtain⟨a,ys,e,e2,d3⟩:=DV.list_inv d1;cases e;have nq:q≠Ta:=fun e=>by rw[e,Z5]at hq0;cases hq0
     have things:∀(ys:List V)(ts:List Th),DVs H1 ys (ts.map Th.D)→DVs (av Ta H1) ys (ts.map Th.D):=by
      intro ys
      induction ys with
      |nil=>
       intro ts d;cases ts with
       |nil=>exact .nil
       |cons t ts=>obtain⟨_,_,e,_⟩:=DVs.cons_inv d;cases e
      |cons z zs ih2=>
       intro ts d;cases ts with
       |nil=>have:=d.nil_inv;cases this
       |cons t ts=>
        obtain⟨z',zr,e,d4,d5⟩:=DVs.cons_inv d;cases e;refine .cons ?_ (ih2 ts d5);obtain⟨c,cs,rfl,ec,d6⟩:=DV.tup_inv d4;have nc:c≠Ta:=fun e=>by rw[e,lT]at ec;cases ec
        refine .tup (by rw[Zg nc];exact ec) ?_;obtain⟨_,_,rfl,k1,d6⟩:=d6.cons_inv;obtain⟨_,_,rfl,k2,d6⟩:=d6.cons_inv;obtain⟨_,_,rfl,k3,d6⟩:=d6.cons_inv;obtain⟨_,_,rfl,k4,d6⟩:=d6.cons_inv;have:=d6.nil_inv;subst this;cases k1;cases k2;cases k3;cases k4;exact .cons (.int _) (.cons (.str _) (.cons (.int _) (.cons (.int _) .nil)))
     exact .lst (by rw[Zg nq];exact e2) (things ys s d3)
  exact main ls t.streams dl hfr
 refine Xg (xs:=ls) (fun i σ H2=>∃(xs:List V)(o:Option V),σ=[some v,some (.ref Ta),o]∧Same (av Ta H1) H2∧H2 Ta=some (.lst xs)∧DVs (av Ta H1) xs ((t.streams.take i).flatten.map Th.D)) ⟨[],none,rfl,Yd,lT,.nil⟩ ?_ ?_ ?_
 ·rintro i σ H2 hi ⟨xs,o,rfl,g2,eT,dx⟩;exact SqL.of (g2 _ _ (by rw[Zg (Ne.symm rT)];exact er))
 ·rintro i x σ H2 hx ⟨xs,o,rfl,g2,eT,dx⟩;obtain⟨d,hd,dv1⟩:=DVs.getV dl' hx;rw[Ar]at hd;obtain⟨ts,hts,rfl⟩:=An.mp hd;obtain⟨a,ys,rfl,ea,da⟩:=DV.list_inv dv1;have lx:=dx.length;have ly:=da.length;rw[ae]at lx ly;have hle:(t.streams.take (i+1)).flatten.length≤100000:=by
   have e:t.all.length=((t.streams.take (i+1)).flatten++(t.streams.drop (i+1)).flatten).length:=by
    rw[←List.flatten_append,List.take_append_drop,←Tr.all_eq]
   rw[ba]at e;omega
  have et:(t.streams.take (i+1)).flatten=(t.streams.take i).flatten++ts:=by
   rw[List.take_add_one,hts,List.flatten_append];simp
  rw[et,ba]at hle;refine⟨_,rfl,.inl ⟨rfl,_,SqL.of eT⟩,_,rfl,Ta,a,xs,ys,rfl,rfl,eT,g2 _ _ ea,Zd (by omega),?_⟩;refine⟨xs++ys,_,rfl,Yk g2 Vl,Z5,?_⟩;rw[et,ca];exact dx.append da
 ·rintro σ H2 ⟨xs,o,rfl,g2,eT,dx⟩;refine⟨_,rfl,?_⟩;rw[dll,At,←Tr.all_eq]at dx;refine hq Ta xs H2 ?_ hTa eT (dx.mono g2);exact fun b u hb=>g2 b u (by rw[Zg (Zf hb hTa)];exact g1 b u (Z9 hTa _ b u hb))
theorem oB(bc:Has P w K mg base "count_in" 1 ["tally","mark"] dX)(F:Fun K "bounds_of" "bounds_of" cQ f fd):FnOk P w K mg base CX0 2 f fd ["tally","mark"] jp:=by
 refine F.ok Sa (fun vs H Q E h=>?_) (fun cdv A outer s H vs Q E hr h=>?_)
 ·obtain⟨r,t,z,rfl,_⟩:=h;rfl
 obtain⟨r,t,z,rfl,hd,nd,tl,hq⟩:=h;refine⟨_,(Z2 (Zz 2 Sa.nd rfl (Or.inl rfl) (Z3 bc hr (Z0 (pv 0) (Z0 (pv 1) Z1))))
 (Z6 (Zb (Zu (Z0 (pv 2) (Z0 (Ze Y4 (pv 2) (Y0 Zv (pv 0) Z4)) Z1)))))),?_⟩
 refine⟨_,rfl,_,rfl,r,t,z,rfl,hd,nd,tl,fun H1 s1=>?_⟩;have gg:=s1;obtain⟨_,b,rows,e0,ea,eb,pa⟩:=DV.ty_inv (hd.mono s1);cases e0;refine⟨_,rfl,_,rfl,_,rfl,_,_,_,_,rfl,rfl,SqT.of ea,rfl,_,_,rfl,rfl,leN rfl,?_⟩;intro p n_p;generalize hz:upd _ p _=H2;revert H2;refine blk ?_;intro H2 hz;have gz:=Zc hz n_p;have C4:=Zj hz;clear hz;have gg:=gg.trans gz;exact hq p _ gg C4
theorem xU(b9:mg "sum"=none)(F:Fun K "times_of" "times_of" dI f fd):FnOk P w K mg base CX0 1 f fd ["stream","mark"] mQ:=by
 refine F.ok jj (fun vs H Q E h=>?_) (fun cdv A outer s H vs Q E hr h=>?_)
 ·obtain⟨r,ts,z,rfl,_⟩:=h;rfl
 obtain⟨r,ts,z,rfl,hd,tl,hq⟩:=h;refine⟨_,(Z6 (Zb (Zi (Su rfl) rfl b9 Cw (Z0 (Y3 (own:=["day","word","number","many"]) (Xz rfl rfl) (Y5 (pv 0))
  (fun _ _ _ _ _=>(Xa K 4 rfl rfl (Z8 (Z7 (i:=0) Yt rfl (Or.inl rfl) (Or.inr rfl)) (Z8 (Z7 (i:=1) Yt rfl (Or.inl rfl) (Or.inr rfl)) (Z8 (Z7 (i:=2) Yt rfl (Or.inl rfl) (Or.inr rfl)) (Z8 (Z7 (i:=3) Yt rfl (Or.inl rfl) (Or.inr rfl)) Zt)))))) (fun _ _ _ _ _=>(Wj (Zn P2 (pv 1) (pv 5) (Zl _))))
  (fun _ _ _ _ _=>(pv 3))) Z1)))),?_⟩
 obtain⟨_,xs,e0,e_r,dx⟩:=DV.list_inv hd;cases e0;have xl:=dx.length;rw[ae]at xl;refine⟨_,rfl,r,rfl,⟨_,SqL.of e_r⟩,?_⟩;refine Yo (xs:=xs) (fun i ys H'=>H'=H∧ys=(((ts.take i).filter fun t=>decide (t.word=z)).map fun t=>V.int t.many)) ⟨rfl,rfl⟩ (fun i ys H' _ q=>by rw[q.1];exact SqL.of e_r) ?_ ?_
 ·rintro i x ys H' C hx ⟨rfl,rfl⟩ hC;obtain⟨t,c,ht,rfl,ec,_⟩:=DVs.th_at dx hx;have il:=(Ad.mp ht).1;have fl:=Ap (fun t:Th=>decide (t.word=z)) (ts.take i);rw[Am]at fl;refine⟨Zk (by rw[ae];omega),c,_,rfl,SqT.of ec,rfl,_,_,rfl,_,_,rfl,_,_,rfl,_,_,rfl,rfl,Wk.refl _,_,rfl,_,rfl,rfl,_,rfl,?_⟩;have st:=Zr ht;by_cases q:t.word=z
  ·rw[zy (show V.str t.word=V.str z by rw[q])];refine Xf ⟨_,rfl,hC _ _ ⟨rfl,?_⟩⟩;rw[st,AJ,ca];simp[q]
  ·rw[Ag (fun e:V.str t.word=V.str z=>q (by cases e;rfl))];refine Ym (hC _ _ ⟨rfl,?_⟩);rw[st,AJ,ca];simp[q]
 ·rintro ys H' ⟨rfl,rfl⟩;have fl:=Ap (fun t:Th=>decide (t.word=z)) ts;rw[xl,At];refine⟨Zd (by rw[ae];omega),fun p np=>?_⟩;have em:((ts.filter fun t=>decide (t.word=z)).map fun t=>V.int t.many)=((ts.filter fun t=>decide (t.word=z)).map fun t:Th=>t.many).map V.int:=by rw[AB];rfl
  rw[em];exact⟨p,_,rfl,SqL.of Z5,hq _ (Z9 np _)⟩
theorem im{a b:Ty}(h:TyN a)(g:TyN b)(z:Str):0≤au a.cs b.cs z:=Int.add_nonneg (Xx h.nice.pos z) (Xx g.nice.pos z)
theorem iu{a b:Ty}(h:TyN a)(g:TyN b):0≤ay a.room a.cs b.cs:=by
 have:=h.room1;refine t5 (by omega) fun x hx=>?_;obtain⟨z,_,rfl⟩:=Ab.mp hx;exact im h g z
theorem TyN.m{a:Ty}(h:TyN a):TyM a:=⟨h.room1,h.room2,h.nice.nd,h.len⟩
theorem TyN.merge{a b:Ty}(h:TyN a)(g:TyN b)(r:a.room=b.room):TyN (aA a b):=by
 have h0:=h.room1;have c0:=iu h g;have l1:=h.len;have l2:=g.len;refine⟨h.room1,h.room2,Nice.csM h.nice.nd g.nice.nd,Pz h.m,?_,?_,?_⟩
 ·have:=h.lt0;have:=g.lt0;show 0≤a.lt+b.lt+ay a.room a.cs b.cs;omega
 all_goals
  have S:=Na h.nice.nd g.nice.nd;have T:=t9 a.room a.cs b.cs;have C:=m9 (ay a.room a.cs b.cs) c0 ((ah a.cs b.cs).map (au a.cs b.cs)) fun x hx=>by
   obtain⟨z,_,rfl⟩:=Ab.mp hx;exact im h g z
  rw[←T,S]at C;have kl:=Xb a.cs b.cs;have lo1:=h.lo;have lo2:=g.lo;have hi1:=h.hi;have hi2:=g.hi;rw[←r]at lo2 hi2 l2
 ·show(a.room+1)*(a.lt+b.lt+ay a.room a.cs b.cs)≤a.total+b.total-(ar (csM a.room a.cs b.cs)).sum;have m:(a.room+1)*ay a.room a.cs b.cs≤(ar a.cs).sum+(ar b.cs).sum-(ar (csM a.room a.cs b.cs)).sum:=by
   refine Int.le_trans ?_ C.1;by_cases q:(((ah a.cs b.cs).map (au a.cs b.cs)).length:Int)≤a.room
   ·have e:ay a.room a.cs b.cs=0:=Ah q;rw[e];omega
   ·obtain⟨c,_,e2,_,_,le⟩:=W8 (show 0≤a.room by omega) (Int.not_le.mp q);have e3:ay a.room a.cs b.cs=c:=e2;rw[←e3]at le;rw[Int.mul_comm];refine BR ?_ c0;rw[V5];omega
  rw[CP,CP];omega
 ·show a.total+b.total-(ar (csM a.room a.cs b.cs)).sum≤2*a.room*(a.lt+b.lt+ay a.room a.cs b.cs);have m:(ar a.cs).sum+(ar b.cs).sum-(ar (csM a.room a.cs b.cs)).sum≤2*a.room*ay a.room a.cs b.cs:=by
   refine Int.le_trans C.2 ?_;rw[Int.mul_comm];refine Int.mul_le_mul_of_nonneg_right ?_ c0;rw[ae];omega
  rw[CP,CP];omega
abbrev Gk(t:Ty):Prop:=∀p∈t.cs,gwB p.1=true
theorem jT{a b:Ty}(h:Gk a)(g:Gk b):Gk (aA a b):=fun p hp=>by
 have e:p.1∈(csM a.room a.cs b.cs).map (·.1):=Ab.mpr ⟨p,hp,rfl⟩;rw[Ul]at e
 rcases Yi.mp ((Zx _).mem_iff.mp (AH.mp e).1)with q | q
 ·obtain⟨x,hx,e⟩:=Ab.mp q;rw[←e];exact h x hx
 ·obtain⟨x,hx,e⟩:=Ab.mp q;rw[←e];exact g x hx
def cO(t:Th):Prop:=gwB t.word=true∧1≤t.many
theorem xI{room:Int}{t:Th}(h1:1≤room)(h2:room≤20)(h:cO t):TyN (thT room t)∧Gk (thT room t):=
 ⟨⟨h1,h2,⟨AC.mpr ⟨(fun z=>nomatch z),AQ⟩,Ci _ _,fun p hp=>by rw[Af.mp hp];exact h.2⟩,by show((1:Nat):Int)≤room;omega,By _,
  by show(room+1)*0≤t.many-(t.many+0);omega,by show t.many-(t.many+0)≤2*room*0;omega⟩,fun p hp=>by rw[Af.mp hp];exact h.1⟩
theorem tG{room:Int}(h1:1≤room)(h2:room≤20):TyN (Ty.zero room)∧Gk (Ty.zero room):=⟨⟨h1,h2,Nice.nil,by show((0:Nat):Int)≤room;omega,By _,by show(room+1)*0≤0-0;omega,by show 0-0≤2*room*0;omega⟩,fun _ h=>nomatch h⟩
theorem xv{room:Int}(h1:1≤room)(h2:room≤20)(ts:List Th):∀(a:Ty),TyN a→Gk a→a.room=room→(∀t∈ts,cO t)→TyN (ts.foldl (fun a t=>aA a (thT room t)) a)∧Gk (ts.foldl (fun a t=>aA a (thT room t)) a):=by
 induction ts with
 |nil=>exact fun a h g _ _=>⟨h,g⟩
 |cons t ts ih=>
  intro a h g r k;have q:=xI h1 h2 (k t (.head _));exact ih (aA a (thT room t)) (h.merge q.1 r) (jT g q.2) r fun x hx=>k x (.tail _ hx)
theorem Q4{room:Int}(h1:1≤room)(h2:room≤20):∀{t:Tr},(∀x∈t.all,cO x)→TyN (aQ room t)∧Gk (aQ room t)
 |.leaf ts,h=>xv h1 h2 ts _ (tG h1 h2).1 (tG h1 h2).2 rfl h
 |.node l r,h=>by
  have a:=Q4 h1 h2 (t:=l) fun x hx=>h x (Bh _ hx);have b:=Q4 h1 h2 (t:=r) fun x hx=>h x (Ao _ hx);exact⟨a.1.merge b.1 ((Sq h1 h2 l).2.trans (Sq h1 h2 r).2.symm),jT a.2 b.2⟩
theorem TyN.md{t:Ty}(h:TyN t)(g:Gk t):Mdt t:=⟨h.room1,h.room2,h.nice.nd,h.nice.rise,g,h.nice.pos,h.len,h.lt0⟩
theorem rX{ps:Ps}:(∀p∈ps,1≤p.2)→0≤(ar ps).sum:=by
 induction ps with
 |nil=>exact fun _=>By _
 |cons p ps ih=>
  intro h;have a:=ih fun q hq=>h q (.tail _ hq);have b:=h p (.head _);show 0≤p.2+(ar ps).sum;omega
theorem TyN.tot{t:Ty}(h:TyN t):0≤t.total:=by
 have a:=rX h.nice.pos;have b:=h.lo;have c:=h.lt0;have d:=h.room1;have e:0≤(t.room+1)*t.lt:=BX (by omega) c;omega
theorem wO{t:Ty}(h:Gk t):t.D.canLay0=true∧t.D.depth≤3:=by
 have q:=xH fun p hp=>(rN (h p hp)).2.2.2;rw[PyData.canLay0,PyData.depth]at q;refine⟨?_,?_⟩
 ·simp[Ty.D,PyData.canLay0,PyData.canLayAll0];exact q.1
 ·simp[Ty.D,PyData.depth,PyData.depthAll];omega
def nz:Sp:=fun vs H Q _=>∃(x:V)(k:Nat),vs=[x,.int k]∧k<26∧∀(z:Str)(H':Hp),words[k]?=some z→Same H H'→Q (.str z) H'
def pK(n:Nat)(kvs:List (Key×V)):Prop:=∀(k:Nat)(z:Str),k<n→words[k]?=some z→∃y:Str,aF kvs (Sum.inr z)=some (.str y)∧gwB y=true
def vL:Sp:=fun vs H Q _=>∃(a:Addr),vs=[.ref a]∧PenAt H a∧∀(d:Addr)(kvs:List (Key×V))(H':Hp),av a H' d=some (.dK kvs)→pK 26 kvs→PenAt H' a→Grw a H H'→Q (.ref d) H'
theorem tH(F:Fun K "_law_word" "_law_word" dR f fd):FnOk P w K mg base CX0 1 f fd ["_law_pen_here","_law_k"] nz:=by
 refine F.ok Wr (fun vs H Q E h=>?_) (fun cdv A outer s H vs Q E hr h=>?_)
 ·obtain⟨x,k,rfl,_⟩:=h;rfl
 obtain⟨x,k,rfl,k26,hq⟩:=h;refine⟨_,(Z2 (Zz 2 Wr.nd rfl (Or.inl rfl) Xn)
 (Z2 (Zz 2 Wr.nd rfl (Or.inl rfl) (Ze Vw (pv 2) Xn))
 (Z6 (Zb (Y0 Xj (Uf PySem.F.plainAttrs_str PySem.F.slot_str_split PySem.F.type_str_split P8 (pv 2) (Z0 Xn Z1)) (Ze Xo (pv 1) Z4)))))),?_⟩
 refine⟨_,rfl,wordA,wordB,rfl,rfl,mT,?_⟩;refine⟨_,rfl,rfl,wordA++wordB," ",words,rfl,rfl,tD,kz,qU,pY,Qc,by decide,fun l hl=>?_⟩;have wl:words.length=26:=rfl;have hw:words[k]?=some words[k]:=Ak (by omega);have hv:atI (words.map V.str) ((k:Int) % 26)=some (.str words[k]):=by
  rw[Int.emod_eq_of_lt (by omega) (by omega)];exact Q8 (by rw[Ar,hw];rfl)
 refine⟨_,rfl,_,_,rfl,rfl,Xe rfl,l,_,_,_,rfl,rfl,SqL.of Z5,hv,?_⟩;exact hq _ _ hw (Z9 hl _)
theorem q4{n:Nat}{kvs:List (Key×V)}{z y:Str}(h:pK n kvs)(hz:words[n]?=some z)(gy:gwB y=true):pK (n+1) (aZ kvs (Sum.inr z) (.str y)):=fun k x hk hx=>by
 rw[jf];by_cases e:(Sum.inr x:Key)=Sum.inr z
 ·exact⟨y,Ah e,gy⟩
 ·rw[Aj e];refine h k x ?_ hx;by_cases c:k=n
  ·rw[c,hz]at hx;cases hx;exact absurd rfl e
  ·omega
theorem vd{kvs:List (Key×V)}(h:pK 26 kvs){z:Str}(hz:z∈words):∃y:Str,aF kvs (Sum.inr z)=some (.str y)∧gwB y=true:=by
 obtain⟨k,hk⟩:=Br.mp hz;have wl:words.length=26:=rfl;exact h k z (by have:=(Ad.mp hk).1;omega) hk
def xq(t:Th):Prop:=cO t∧t.many≤1000000000
def Wsh:Tr→Tr→Prop
 |.leaf ts,.leaf us=>us.length=ts.length∧∀x∈us,xq x
 |.node l r,.node l' r'=>Wsh l l'∧Wsh r r'
 |_,_=>False
theorem tV{t:Tr}:∀{u:Tr},Wsh t u→u.size=t.size∧u.ht=t.ht∧u.all.length=t.all.length∧∀x∈u.all,xq x:=by
 induction t with
 |leaf ts=>
  intro u h;cases u with
  |leaf us=>exact⟨rfl,rfl,h.1,h.2⟩
  |node l r=>exact h.elim
 |node l r il ir=>
  intro u h;cases u with
  |leaf us=>exact h.elim
  |node a b=>
   obtain⟨s1,h1,l1,q1⟩:=il h.1;obtain⟨s2,h2,l2,q2⟩:=ir h.2;refine⟨?_,?_,?_,?_⟩
   ·show a.size+b.size+1=l.size+r.size+1;omega
   ·show max a.ht b.ht+1=max l.ht r.ht+1;rw[h1,h2]
   ·show(a.all++b.all).length=(l.all++r.all).length;rw[ba,ba];omega
   ·intro x hx
    rcases AI.mp hx with m | m
    ·exact q1 x m
    ·exact q2 x m
def tP(m:Nat):Sp:=fun vs H Q _=>∃(v:V)(d:Addr)(t:Tr)(kvs:List (Key×V)),vs=[v,.ref d]∧DV H v t.D∧t.Ok∧t.ht<m∧t.all.length≤100000∧H d=some (.dK kvs)∧pK 26 kvs∧∀(v':V)(u:Tr)(H':Hp),Same H H'→DV H' v' u.D→Wsh t u→Q v' H'
theorem xL(aL:mg "range"=none)(ao:Has P w K mg base "_law_draw" 1 ["_law_pen_here","_law_size"] cD)(cx:Has P w K mg base "_law_word" 1 ["_law_pen_here","_law_k"] nz)(eJ:Has P w K mg base "_law_short" 1 ["_law_k"] gA)(F:Fun K "_law_words" "_law_words" eB f fd):FnOk P w K mg base CX0 2 f fd ["_law_pen_here"] vL:=by
 refine F.ok Vr (fun vs H Q E h=>?_) (fun cdv A outer s H vs Q E hr h=>?_)
 ·obtain⟨a,rfl,_⟩:=h;rfl
 obtain⟨a,rfl,hp,hq⟩:=h;refine⟨_,(Z2 (Zz 1 Vr.nd rfl (Or.inl rfl) (Z3 ao hr (Z0 (pv 0) (Z0 Z4 Z1))))
 (Z2 (Zz 2 Vr.nd rfl (Or.inl rfl) jW)
 (Z2 (Xm AV rfl (Ws rfl aL (Z0 Z4 Z1)) (Z7 (i:=3) Vr.nd rfl (Or.inl rfl))
 (Z6 (Se (Vk hr) (pv 2) (Z3 cx hr (Z0 (pv 0) (Z0 (pv 3) Z1))) (Y0 Xj (Yn (Z0 (Z3 cx hr (Z0 (pv 0) (Z0 (pv 3) Z1))) (Z0 (Z3 eJ hr (Z0 (pv 3) Z1)) Z1))) (pv 1)) rfl)))
 (Z6 (Zb (pv 2)))))),?_⟩
 have gg:Grw a H H:=Same.refl _;refine⟨_,rfl,a,2,rfl,hp,Xe rfl,ltI rfl,fun shh H2 sh0 sh1 hp g2=>?_⟩;have sh1:shh<2:=sh1;have gg:=gg.trans g2;have g0:=gg;intro d n_d;generalize hz:upd _ d _=H3;revert H3;refine blk ?_;intro H3 hz;have hw:=iO hz n_d hp;have hp:=hw.1;have gz:=hw.2.1;have ne_d:=hw.2.2.1;have e_d:=hw.2.2.2;clear hw hz;have gg:=gg.trans gz;have ngd:av a H2 d=none:=by rw[Zg ne_d];exact n_d
 have gd:=gz;refine⟨26,rfl,leI rfl,ltI rfl,?_⟩;refine Rb (lo:=0) (n:=26) (fun i σ H'=>∃(o3:Option V)(kvs:List (Key×V)),σ=[some (.ref a),some (.int shh),some (.ref d),o3]∧PenAt H' a∧Same (av a H2) (av a H')∧av a H' d=some (.dK kvs)∧pK i kvs∧kvs.length≤i)
  ⟨_,[],rfl,hp,gd,e_d,(fun k _ h=>absurd h (Nat.not_lt_zero k)),io _⟩ ?_ ?_
 ·rintro i σ H7 hi ⟨o3,kvs,rfl,hp,gg,e_d,fu,len⟩;have hi:i<26:=hi;have wl:words.length=26:=rfl;have hw:words[i]?=some words[i]:=Ak (by omega);have ei:(0:Int)+(i:Int)=(i:Int):=BP _;refine⟨_,rfl,_,rfl,_,i,Bm (fun k:Int=>[V.ref a,V.int k]) ei,hi,fun z1 H9 hz1 s9=>?_⟩;have g9:=hp.grw s9;have hp:=hp.same s9;have gg:=gg.trans g9;have e_d:=g9 _ _ e_d;refine⟨_,rfl,_,rfl,fun z2 H11 hz2 s11=>?_⟩;have g11:=hp.grw s11;have hp:=hp.same s11;have gg:=gg.trans g11;have e_d:=g11 _ _ e_d;refine⟨leN rfl,?_⟩;intro pk n_pk;generalize hz:upd _ pk _=H12;revert H12;refine blk ?_;intro H12 hz;have hw:=iO hz n_pk hp;have hp:=hw.1;have gz:=hw.2.1;have ne_pk:=hw.2.2.1;have x5:=hw.2.2.2;clear hw hz;have gg:=gg.trans gz;have e_d:=gz _ _ e_d;obtain⟨v,hv,mv⟩:=z8 x5 sh0 sh1;obtain⟨y,rfl,hy⟩:∃z:Str,v=.str z∧gwB z=true:=by
   simp only[List.mem_cons,List.not_mem_nil,or_false]at mv
   rcases mv with rfl | rfl
   ·exact⟨_,rfl,iL _ (Ai hz1)⟩
   ·exact⟨_,rfl,Os _ hz2⟩
  refine⟨_,rfl,pk,_,_,_,rfl,rfl,hSqL x5,hv,?_⟩;clear hv mv x5;refine⟨_,rfl,_,rfl,_,rfl,_,i,Bm (fun k:Int=>[V.ref a,V.int k]) ei,hi,fun z H13 hz s13=>?_⟩;have g13:=hp.grw s13;have hp:=hp.same s13;have gg:=gg.trans g13;have e_d:=g13 _ _ e_d;have pl:=Qs (kvs:=kvs) (k:=(Sum.inr z:Key)) (v:=V.str y);refine⟨d,_,rfl,DPut.k (k:=Sum.inr z) (Zh e_d).2 (Zk (by omega)),_,_,rfl,?_,?_,?_,q4 fu hz hy,by omega⟩
  ·obtain⟨p1,p2,p3,ep⟩:=hp;exact⟨p1,p2,p3,by rw[Za (Ne.symm ne_d)];exact ep⟩
  ·rw[jP ne_d];exact Yk gg ngd
  ·rw[jP ne_d];exact Z5
 rintro σ H7 ⟨o3,kvs,rfl,hp,gg,e_d,fu,len⟩;exact⟨_,rfl,hq d kvs _ e_d fu hp (g0.trans gg)⟩
theorem xR{m:Nat}(bo:Has P w K mg base "_law_with_short" m ["_law_tree_here","_law_words_here"] (tP m))(ag:mg "isinstance"=none)(ax:mg "tuple"=none)(F:Fun K "_law_with_short" "_law_with_short" bC f fd):FnOk P w K mg base CX0 (m+1) f fd ["_law_tree_here","_law_words_here"] (tP (m+1)):=by
 refine F.ok Ru (fun vs H Q E h=>?_) (fun cdv A outer s H vs Q E hr h=>?_)
 ·obtain⟨v,d,t,kvs,rfl,_⟩:=h;rfl
 obtain⟨v,d,t,kvs,rfl,dv,ok,ht,hl,e_d,fu,hq⟩:=h;refine⟨_,(Z2 (Y7 (Xl (Zi W0 rfl ag AM (Z0 (pv 0) (Z0 (Xs (v:=.ty "tuple") rfl ax A1 rfl) Z1)))) (Z6 (Zb (Zu (Z0 Xn (Z0 (Z3 bo hr (Z0 (Y0 Zv (pv 0) Z4) (Z0 (pv 1) Z1))) (Z0 (Z3 bo hr (Z0 (Y0 Zv (pv 0) Z4) (Z0 (pv 1) Z1))) Z1)))))) Zq)
 (Z6 (Zb (Y3 (own:=["_law_day","_law_mark","_law_number","_law_many_here"]) (Xz rfl rfl) (Y5 (pv 0))
  (fun _ _ _ _ _=>(Xa K 4 rfl rfl (Z8 (Z7 (i:=0) Ye rfl (Or.inl rfl) (Or.inr rfl)) (Z8 (Z7 (i:=1) Ye rfl (Or.inl rfl) (Or.inr rfl)) (Z8 (Z7 (i:=2) Ye rfl (Or.inl rfl) (Or.inr rfl)) (Z8 (Z7 (i:=3) Ye rfl (Or.inl rfl) (Or.inr rfl)) Zt)))))) (fun _ _ _ _ _=>Yb)
  (fun _ _ _ _ _=>(Zu (Z0 (pv 0) (Z0 (Ry (Vk hr) (pv 5) (pv 1) (fun _ _=>rfl)) (Z0 (pv 2) (Z0 (pv 3) Z1)))))))))),?_⟩
 cases t with
 |leaf ts=>
  obtain⟨a,xs,rfl,e,q⟩:=DV.list_inv dv;have xl:=q.length;rw[ae]at xl;have hl:ts.length≤100000:=hl;have ok:∀t∈ts,t.Ok:=ok;refine⟨_,rfl,_,_,"tuple",_,rfl,TyOf.lst e,ye,_,rfl,Ym ?_⟩;refine⟨_,rfl,a,rfl,⟨_,SqL.of e⟩,?_⟩;refine Yo (xs:=xs) (fun i ys H'=>Same H H'∧∃us:List Th,us.length=i∧(∀x∈us,xq x)∧DVs H' ys (us.map Th.D)) ⟨Same.refl _,[],rfl,(fun _ h=>nomatch h),.nil⟩ (fun i ys H' _ h=>SqL.of (h.1 _ _ e)) ?_ ?_
  ·rintro i x ys H' C hx ⟨g,us,ul,ug,du⟩ hC;obtain⟨t,c,hth,rfl,ec,hm⟩:=DVs.th_at q hx;have il:=(Ad.mp hth).1;have dl:=du.length;rw[ae]at dl;have tok:=ok t (Ai hth);obtain⟨y,hv,gy⟩:=vd fu tok.word;refine⟨Zk (by omega),c,_,rfl,SqT.of (g _ _ ec),rfl,_,_,rfl,_,_,rfl,_,_,rfl,_,_,rfl,rfl,Wk.refl _,_,rfl,_,rfl,_,rfl,d,_,rfl,.inl ⟨_,Sum.inr t.word,.inl (g _ _ e_d),rfl,hv.symm⟩,_,rfl,_,rfl,leN rfl,fun r nr=>?_⟩;refine hC _ _ ⟨g.trans (Z9 nr _),us++[⟨t.day,y,t.num,t.many⟩],by rw[ba,ul];rfl,?_,?_⟩
   ·intro x hx
    rcases AI.mp hx with h | h
    ·exact ug x h
    ·rw[Af.mp h];exact⟨⟨gy,tok.many⟩,tok.manyU⟩
   ·rw[ca];exact(du.mono (Z9 nr _)).append (.cons (Th.dv Z5) .nil)
  ·rintro ys H' ⟨g,us,ul,ug,du⟩;have dl:=du.length;rw[ae]at dl;exact⟨Zd (by omega),fun p np=>hq (.ref p) (.leaf us) _ (g.trans (Z9 np _)) (.lst Z5 (du.mono (Z9 np _))) ⟨by omega,ug⟩⟩
 |node l r=>
  obtain⟨a,mm,x,y,rfl,e,hx,hy⟩:=DV.node_inv dv;have ht:max l.ht r.ht+1<m+1:=ht;have hl:(l.all++r.all).length≤100000:=hl;rw[ba]at hl;refine⟨_,rfl,_,_,"tuple",_,rfl,TyOf.tup e,yj,_,rfl,Xf ?_⟩;refine⟨_,rfl,a,_,1,_,rfl,rfl,SqT.of e,sU _ _ _,_,rfl,x,d,l,kvs,rfl,hx,ok.1,by omega,by omega,e_d,fu,fun v1 u1 H1 g1 d1 w1=>?_⟩;refine⟨_,rfl,a,_,2,_,rfl,rfl,SqT.of (g1 _ _ e),je _ _ _,_,rfl,y,d,r,kvs,rfl,hy.mono g1,ok.2,by omega,by omega,g1 _ _ e_d,fu,fun v2 u2 H2 g2 d2 w2=>?_⟩;refine⟨leN rfl,fun p np=>hq (.ref p) (.node u1 u2) _ (g1.trans (g2.trans (Z9 np _))) (.tup Z5 (.cons (.str _) (.cons (d1.mono (g2.trans (Z9 np _))) (.cons (d2.mono (Z9 np _)) .nil)))) ⟨w1,w2⟩⟩
theorem vS(ag:mg "isinstance"=none)(ax:mg "tuple"=none)(F:Fun K "_law_with_short" "_law_with_short" bC f fd)(b:Binds K fd ["_law_tree_here","_law_words_here"] [])(hm:mg "_law_with_short"=some (.ref f)):
  ∀m:Nat,Has P w K mg base "_law_with_short" m ["_law_tree_here","_law_words_here"] (tP m)
 | 0=>Has.of (nj fun vs H Q E h=>by
   obtain⟨v,d,t,kvs,_,_,_,h1,_⟩:=h;omega) b F.kp hm
 |m+1=>Has.of (xR (vS ag ax F b hm m) ag ax F) b F.kp hm
def gJ(zs:List Str):Bool:=(zs.zip (zs.drop 1)).all fun p=>decide (p.1.cps.toList<p.2.cps.toList)
def lF:Sp:=fun vs H Q _=>∃(a:Addr)(zs:List Str),vs=[.ref a]∧H a=some (.tup (zs.map V.str))∧1≤zs.length∧zs.length≤100∧∀H',Same H H'→Q (.bl (gJ zs)) H'
theorem rL(aY:mg "all"=none)(c9:mg "zip"=none)(F:Fun K "is_rising" "is_rising" cf f fd):FnOk P w K mg base CX0 1 f fd ["parts"] lF:=by
 refine F.ok S9 (fun vs H Q E h=>?_) (fun cdv A outer s H vs Q E hr h=>?_)
 ·obtain⟨a,zs,rfl,_⟩:=h;rfl
 obtain⟨a,zs,rfl,C9,z1,zl,hq⟩:=h;refine⟨_,(Z6 (Zb (Zi (V4 rfl) rfl aY Bs (Z0 (Y3 (own:=["one","other"]) (Xz rfl rfl) (u8 rfl c9 (Z0 (pv 0) (Z0 (Vj vz (pv 0) (Uv Z4) Uw) Z1)))
  (fun _ _ _ _ _=>(Xa K 2 rfl rfl (Z8 (Z7 (i:=0) Yu rfl (Or.inl rfl) (Or.inr rfl)) (Z8 (Z7 (i:=1) Yu rfl (Or.inl rfl) (Or.inr rfl)) Zt)))) (fun _ _ _ _ _=>Yb)
  (fun _ _ _ _ _=>(Xi Oy (pv 0) (pv 1) (Zl _)))) Z1)))),?_⟩
 have six:HT.sIx (zs.map V.str).length 0 (some 1)=1:=by
  have h:=HT.sIx_nat (zs.map V.str).length 0 1;rw[show((1:Nat):Int)=1 from rfl]at h;rw[h,ae,CN z1]
 have eb:cB (zs.map V.str) (some 1) none=(zs.drop 1).map V.str:=by
  unfold cB;rw[six,HT.sIx_none,ae,←List.map_drop];exact BH (by rw[ae,Bx];exact io _)
 refine⟨_,rfl,_,rfl,1,rfl,a,_,rfl,C9,fun b H1 g0 C3=>?_⟩;rw[eb]at C3;have C9:=g0 _ _ C9;refine⟨a,b,rfl,⟨_,SqT.of C9⟩,⟨_,SqT.of C3⟩,?_⟩;have ln:min (zs.map V.str).length ((zs.drop 1).map V.str).length≤100:=by rw[ae,ae];omega
 have zp:(zs.zip (zs.drop 1)).length=min (zs.map V.str).length ((zs.drop 1).map V.str).length:=by rw[List.length_zip,ae,ae]
 refine pE (xs:=zs.map V.str) (zs:=(zs.drop 1).map V.str) (fun n ys H'=>Same H1 H'∧ys=(((zs.zip (zs.drop 1)).take n).map fun p=>decide (p.1.cps.toList<p.2.cps.toList)).map V.bl) ⟨Same.refl _,rfl⟩ ?_ ?_ ?_ ?_
 ·rintro n ys H' _ ⟨g,_⟩;exact⟨SqT.of (g _ _ C9),SqT.of (g _ _ C3)⟩
 ·rintro n x z ys H' T C hx hz ⟨g,rfl⟩ nT hC;rw[Ar]at hx hz;obtain⟨x',hx',rfl⟩:=An.mp hx;obtain⟨z',hz',rfl⟩:=An.mp hz;have hp:(zs.zip (zs.drop 1))[n]?=some (x',z'):=B0.mpr ⟨hx',hz'⟩;refine⟨Zk ?_,T,_,rfl,SqT.of Z5,rfl,_,_,rfl,_,_,rfl,rfl,Wk.refl _,_,rfl,_,rfl,_,_,rfl,rfl,hC _ _ ⟨g.trans (Z9 nT _),?_⟩⟩
  ·rw[ae,ae,Am];omega
  ·rw[Zr hp,ca,ca];rfl
 ·rintro n ys H' hn ⟨g,rfl⟩;rw[ae,ae,Am];exact Zk (by omega)
 ·rintro ys H' ⟨g,rfl⟩;rw[←zp,At];refine⟨Zd (by rw[ae,ae];omega),fun q nq=>?_⟩;refine⟨q,_,rfl,SqL.of Z5,?_⟩;rw[List.all_map];exact hq _ (g0.trans (g.trans (Z9 nq _)))
def bh(ps:Ps)(z:Str)(n:Int):Ps:=aM ps [(z,n)]
def dO(ts:List Th):Ps:=ts.foldl (fun ps t=>bh ps t.word t.many) []
theorem Wd{ps:Ps}(h:(ps.map (·.1)).Nodup)(z:Str)(n:Int):((bh ps z n).map (·.1)).Nodup:=by
 unfold bh;rw[Xq];exact Xy h (AC.mpr ⟨(fun y=>nomatch y),AQ⟩)
theorem jJ(ps:Ps)(z:Str)(n:Int):(bh ps z n).length≤ps.length+1:=by
 have:=Xb ps [(z,n)];unfold bh aM;rw[ae];exact this
theorem Ri{ps:Ps}(h:(ps.map (·.1)).Nodup)(z:Str):((aF (aw ps) (Sum.inr z)).getD (.int 0))=.int (look ps z):=by
 have v:=S6 (qs:=[]) h AQ z;rw[Sj h]at v;have e:au ps [] z=look ps z:=BF _;rw[v,e]
theorem i0{ps:Ps}(h:(ps.map (·.1)).Nodup)(z:Str)(n:Int):aZ (aw ps) (Sum.inr z) (.int (look ps z+n))=aw (bh ps z n):=by
 have q:=iU (qs:=[]) h (p:=(z,n)) (AC.mpr ⟨(fun y=>nomatch y),AQ⟩);have e:au ps [] z=look ps z:=BF _;rw[Sj h]at q;show aZ (aw ps) (Sum.inr (z,n).1) (.int (look ps z+(z,n).2))=_;rw[←e];exact q
theorem pe(ts:List Th)(t:Th):dO (ts++[t])=bh (dO ts) t.word t.many:=by
 unfold dO;rw[Ca];rfl
theorem lY:∀(ts:List Th)(ps:Ps),(ps.map (·.1)).Nodup→((ts.foldl (fun ps t=>bh ps t.word t.many) ps).map (·.1)).Nodup
 | [],_,h=>h
 |t::ts,ps,h=>lY ts _ (Wd h _ _)
theorem jm:∀(ts:List Th)(ps:Ps),(ts.foldl (fun ps t=>bh ps t.word t.many) ps).length≤ps.length+ts.length
 | [],_=>io _
 |t::ts,ps=>by
  have h1:=jm ts (bh ps t.word t.many);have h2:=jJ ps t.word t.many;show _≤ps.length+(ts.length+1);simp only[List.foldl_cons]at *;omega
theorem Rw(ts:List Th):((dO ts).map (·.1)).Nodup:=lY ts [] AQ
theorem tE(ts:List Th):(dO ts).length≤ts.length:=by
 have:=jm ts [];simpa [dO] using this
def nE:Sp:=fun vs H Q _=>∃(r:Addr)(ts:List Th),vs=[.ref r]∧DV H (.ref r) (bG ts)∧ts.length≤1000∧∀(d:Addr) H',Same H H'→H d=none→H' d=some (.dK (aw (dO ts)))→Q (.ref d) H'
theorem pR(F:Fun K "times_in" "times_in" dG f fd):FnOk P w K mg base CX0 1 f fd ["stream"] nE:=by
 refine F.ok Xp (fun vs H Q E h=>?_) (fun cdv A outer s H vs Q E hr h=>?_)
 ·obtain⟨r,ts,rfl,_⟩:=h;rfl
 obtain⟨r,ts,rfl,hd,tl,hq⟩:=h;refine⟨_,(Z2 (Zz 1 Xp.nd rfl (Or.inl rfl) jW)
 (Z2 (Xm AV rfl (Y5 (pv 0)) (Ys rfl (Z8 (Z7 (i:=2) Xp.nd rfl (Or.inl rfl)) (Z8 (Z7 (i:=3) Xp.nd rfl (Or.inl rfl)) (Z8 (Z7 (i:=4) Xp.nd rfl (Or.inl rfl)) (Z8 (Z7 (i:=5) Xp.nd rfl (Or.inl rfl)) Zt)))))
 (Z6 (Se (Vk hr) (pv 1) (pv 3) (Ze Y4 (Sg (Vk hr) (pv 1) (pv 3) Z4 ⟨rfl,rfl,rfl,rfl⟩) (pv 5)) rfl)))
 (Z6 (Zb (pv 1))))),?_⟩
 obtain⟨_,xs,e0,e_r,ds⟩:=DV.list_inv hd;cases e0;have gg:Same H H:=Same.refl _;intro d n_d;generalize hz:upd _ d _=H1;revert H1;refine blk ?_;intro H1 hz;have gz:=Zc hz n_d;have e_d:=Zj hz;clear hz;have gg:=gg.trans gz;refine⟨_,rfl,r,rfl,⟨_,SqL.of (gz _ _ e_r)⟩,?_⟩;have dl:=ds.length;rw[ae]at dl;refine Xg (xs:=xs) (fun n σ H'=>∃(o2 o3 o4 o5:Option V),σ=[some (.ref r),some (.ref d),o2,o3,o4,o5]∧Same H H'∧H' d=some (.dK (aw (dO (ts.take n))))) ⟨_,_,_,_,rfl,gg,e_d⟩ ?_ ?_ ?_
 ·rintro i σ H' _ ⟨_,_,_,_,_,g,_⟩;exact SqL.of (g _ _ e_r)
 ·rintro i x σ H' hx ⟨o2,o3,o4,o5,rfl,g,ed⟩;obtain⟨t,c,ht,rfl,ec,_⟩:=DVs.th_at (ds.mono g) hx;have tk:ts.take (i+1)=ts.take i++[t]:=Zr ht;have nd:=Rw (ts.take i);have len:=tE (ts.take i);rw[Am]at len;have kl:=Zs (dO (ts.take i));refine⟨c,_,rfl,SqT.of ec,rfl,_,_,rfl,_,_,rfl,_,_,rfl,_,_,rfl,rfl,?_⟩;refine⟨_,rfl,d,rfl,.inl ⟨_,.inl ed⟩,_,rfl,_,DGet.k (k:=Sum.inr t.word) ed,_,rfl,_,_,Ri nd t.word,rfl,?_⟩;refine⟨_,rfl,_,rfl,d,_,rfl,DPut.k (k:=Sum.inr t.word) ed (Zk (by omega)),some (.int t.day),some (.str t.word),some (.int t.num),some (.int t.many),rfl,Yk g n_d,?_⟩;rw[i0 nd,tk,pe];exact Z5
 rintro σ H2 ⟨o2,o3,o4,o5,rfl,g2,ed⟩;rw[dl,At]at ed;exact⟨_,rfl,hq d _ g2 n_d ed⟩
def inP(ps:Ps)(n:Int)(zs:List Str):Ps:=zs.foldl (fun ps z=>bh ps z n) ps
def bg(cs:Ps)(bs:List Bn):Ps:=bs.foldl (fun ps b=>inP ps b.2 b.1) cs
theorem Ra(n:Int):∀(zs:List Str)(ps:Ps),(ps.map (·.1)).Nodup→((inP ps n zs).map (·.1)).Nodup
 | [],_,h=>h
 |z::zs,ps,h=>Ra n zs (bh ps z n) (Wd h _ _)
theorem ij(n:Int):∀(zs:List Str)(ps:Ps),(inP ps n zs).length≤ps.length+zs.length
 | [],_=>io _
 |z::zs,ps=>by
  have h1:=ij n zs (bh ps z n);have h2:=jJ ps z n;show(inP (bh ps z n) n zs).length≤ps.length+(zs.length+1);omega
theorem rQ(ps:Ps)(n:Int)(zs:List Str)(z:Str):inP ps n (zs++[z])=bh (inP ps n zs) z n:=by
 unfold inP;rw[Ca];rfl
theorem kx(cs:Ps)(bs:List Bn)(b:Bn):bg cs (bs++[b])=inP (bg cs bs) b.2 b.1:=by
 unfold bg;rw[Ca];rfl
theorem Qg:∀(bs:List Bn)(cs:Ps),(cs.map (·.1)).Nodup→((bg cs bs).map (·.1)).Nodup
 | [],_,h=>h
 |b::bs,cs,h=>Qg bs (inP cs b.2 b.1) (Ra _ _ _ h)
theorem Om:∀(bs:List Bn)(cs:Ps),(∀b∈bs,b.1.length≤100)→(bg cs bs).length≤cs.length+100*bs.length
 | [],_,_=>io _
 |b::bs,cs,h=>by
  have h1:=Om bs (inP cs b.2 b.1) fun x hx=>h x (.tail _ hx);have h2:=ij b.2 b.1 cs;have h3:=h b (.head _);show(bg (inP cs b.2 b.1) bs).length≤cs.length+100*(bs.length+1);omega
def mR:Sp:=fun vs H Q _=>∃(c p:Addr)(rows:List V)(cs:Ps)(bs:List Bn),vs=[.ref c,.ref p]∧H c=some (.tup rows)∧PairsAt H rows (aw cs)∧(cs.map (·.1)).Nodup∧cs.length≤50∧PapAt H p bs∧bs.length≤3000∧(∀b∈bs,b.1.length≤100)∧
 ∀(d:Addr) H',Same H H'→H d=none→H' d=some (.dK (aw (bg cs bs)))→Q (.ref d) H'
theorem qF(bA:mg "dict"=none)(F:Fun K "times_told" "times_told" cE f fd):FnOk P w K mg base CX0 1 f fd ["counts","paper"] mR:=by
 refine F.ok Xd (fun vs H Q E h=>?_) (fun cdv A outer s H vs Q E hr h=>?_)
 ·obtain⟨c,p,rows,cs,bs,rfl,_⟩:=h;rfl
 obtain⟨c,p,rows,cs,bs,rfl,C6,pa,nd0,cl,⟨xs,C4,kb⟩,bl,ml,hq⟩:=h;refine⟨_,(Z2 (Zz 2 Xd.nd rfl (Or.inl rfl) (X2 (U5 rfl) rfl bA Cp (Z0 (pv 0) Z1)))
 (Z2 (Xm AV rfl (Y5 (pv 1)) (Ys rfl (Z8 (Z7 (i:=3) Xd.nd rfl (Or.inl rfl)) (Z8 (Z7 (i:=4) Xd.nd rfl (Or.inl rfl)) Zt)))
 (Z6 (Xm AV rfl (Wg (pv 3)) (Z7 (i:=5) Xd.nd rfl (Or.inl rfl))
 (Z6 (Se (Vk hr) (pv 2) (pv 5) (Ze Y4 (Sg (Vk hr) (pv 2) (pv 5) Z4 ⟨rfl,rfl,rfl,rfl⟩) (pv 4)) rfl)))))
 (Z6 (Zb (pv 2))))),?_⟩
 have kl:=Zs cs;refine⟨_,rfl,c,rows,_,rfl,C6,pa,by omega,?_⟩;rw[U0 (by rw[Xr];exact P7 nd0)];have gg:Same H H:=fun _ _ h=>h;intro d n_d;generalize hz:upd _ d _=H1;revert H1;refine blk ?_;intro H1 hz;have gz:=Zc hz n_d;have e_d:=Zj hz;clear hz;have gg:=gg.trans gz;refine⟨_,rfl,p,rfl,⟨_,SqL.of (gz _ _ C4)⟩,?_⟩;have xl:=kb.length;have lenA:∀i,(bg cs (bs.take i)).length≤300100:=fun i=>by
  have h1:=Om (bs.take i) cs fun b hb=>ml b (Bz hb);rw[Am]at h1;omega
 refine Xg (xs:=xs) (fun n σ H'=>∃(o3 o4 o5:Option V),σ=[some (.ref c),some (.ref p),some (.ref d),o3,o4,o5]∧Same H H'∧H' d=some (.dK (aw (bg cs (bs.take n))))) ⟨_,_,_,rfl,gg,e_d⟩ ?_ ?_ ?_
 ·rintro i σ H' _ ⟨_,_,_,_,g,_⟩;exact SqL.of (g _ _ C4)
 ·rintro i x σ H' hx ⟨o3,o4,o5,rfl,g,ed⟩;obtain⟨a,m,b,rfl,hb,ea,em⟩:=kb.get hx;have tk:bs.take (i+1)=bs.take i++[b]:=Zr hb;have bm:=ml b (Ai hb);refine⟨a,_,rfl,SqT.of (g _ _ ea),rfl,_,_,rfl,_,_,rfl,rfl,?_⟩;refine⟨_,rfl,m,rfl,⟨_,SqT.of (g _ _ em)⟩,?_⟩;have ndt:=Qg (bs.take i) cs nd0;have lt:=lenA i;refine mL (xs:=b.1.map V.str) (fun k σ H''=>∃(o5:Option V),σ=[some (.ref c),some (.ref p),some (.ref d),some (.ref m),some (.int b.2),o5]∧Same H H''∧H'' d=some (.dK (aw (inP (bg cs (bs.take i)) b.2 (b.1.take k))))) ⟨_,rfl,g,ed⟩ ?_ ?_ ?_
  ·rintro k σ H'' _ ⟨_,_,g2,_⟩;exact SqT.of (g2 _ _ em)
  ·rintro k x σ H'' hx2 ⟨o5,rfl,g2,ed2⟩;rw[Ar]at hx2;obtain⟨z,hz,rfl⟩:=An.mp hx2;have tk2:b.1.take (k+1)=b.1.take k++[z]:=Zr hz;have nd2:=Ra b.2 (b.1.take k) _ ndt;have l2:=ij b.2 (b.1.take k) (bg cs (bs.take i));rw[Am]at l2;have kl2:=Zs (inP (bg cs (bs.take i)) b.2 (b.1.take k));refine⟨_,rfl,d,rfl,.inl ⟨_,.inl ed2⟩,_,rfl,_,DGet.k (k:=Sum.inr z) ed2,_,rfl,_,_,Ri nd2 z,rfl,?_⟩;refine⟨_,rfl,_,rfl,d,_,rfl,DPut.k (k:=Sum.inr z) ed2 (Zk (by omega)),some (.str z),rfl,Yk g2 n_d,?_⟩;rw[i0 nd2,tk2,rQ];exact Z5
  ·rintro σ H'' ⟨o5,rfl,g2,ed2⟩;rw[ae,At]at ed2;exact⟨_,_,_,rfl,g2,by rw[tk,kx];exact ed2⟩
 rintro σ H2 ⟨o3,o4,o5,rfl,g2,ed⟩;rw[xl,At]at ed;exact⟨_,rfl,hq d _ g2 n_d ed⟩
def bnB(room:Int)(b:Bn):Bool:=gJ b.1 && (decide (room<(b.1.length:Int)) && decide (1≤b.2))
theorem O3:∀n:Nat,(List.replicate n true).all id=true
 | 0=>rfl
 |n+1=>by rw[List.replicate_succ,CJ,O3 n];rfl
def vP:Sp:=fun vs H Q _=>∃(a c:Addr)(b:Bn)(room:Int),vs=[.ref a,.int room]∧H a=some (.tup [.ref c,.int b.2])∧H c=some (.tup (b.1.map V.str))∧(∀z∈b.1,gwB z=true)∧1≤b.1.length∧b.1.length≤100∧∀H',Same H H'→Q (.bl (bnB room b)) H'
theorem wC(ag:mg "isinstance"=none)(ax:mg "tuple"=none)(aG:mg "len"=none)(aY:mg "all"=none)(nQ:Has P w K mg base "is_mark" 1 ["thing"] kR)(cY:Has P w K mg base "is_rising" 1 ["parts"] lF)(aE:Has P w K mg base "is_whole_from" 2 ["thing","least"] pV)(F:Fun K "is_bunch" "is_bunch" dA f fd):FnOk P w K mg base CX0 3 f fd ["thing","room"] vP:=by
 refine F.ok Uc (fun vs H Q E h=>?_) (fun cdv A outer s H vs Q E hr h=>?_)
 ·obtain⟨a,c,b,room,rfl,_⟩:=h;rfl
 obtain⟨a,c,b,room,rfl,C9,C6,zw,b1,bl,hq⟩:=h;refine⟨_,(Z2 (Y7 (PW.pt (V8 (W6 (Xl (Zi W0 rfl ag AM (Z0 (pv 0) (Z0 (Xs (v:=.ty "tuple") rfl ax A1 rfl) Z1))))) (W5 (Zn P1 (Zi Y8 rfl aG A9 (Z0 (pv 0) Z1)) Z4 (Zl _))))) (Z6 (Zb X6)) Zq)
 (Z2 (X5 (pv 0) (Ys rfl (Z8 (Z7 (i:=2) Uc.nd rfl (Or.inl rfl)) (Z8 (Z7 (i:=3) Uc.nd rfl (Or.inl rfl)) Zt))))
 (Z2 (Y7 (PW.pt (V8 (W6 (Xl (Zi W0 rfl ag AM (Z0 (pv 2) (Z0 (Xs (v:=.ty "tuple") rfl ax A1 rfl) Z1))))) (W5 (W6 (Xl (Zi (V4 rfl) rfl aY Bs (Z0 (Y3 (own:=["mark"]) (Xz rfl rfl) (Wg (pv 2))
  (fun _ _ _ _ _=>(Z7 (i:=0) S0 rfl (Or.inl rfl) (Or.inr rfl))) (fun _ _ _ _ _=>Yb)
  (fun _ _ _ _ _=>(Z3 nQ hr (Z0 (pv 0) Z1)))) Z1))))))) (Z6 (Zb X6)) Zq)
 (Z6 (Zb (V0 (Z3 cY hr (Z0 (pv 2) Z1)) (V0 (Xi U7 (Zi Y8 rfl aG A9 (Z0 (pv 2) Z1)) (pv 1) (Zl _)) (Vu (Z3 aE hr (Z0 (pv 3) (Z0 Z4 Z1))))))))))),?_⟩
 have ka:Kd H (.ref a) "tuple":=.tup C9;have kc:Kd H (.ref c) "tuple":=.tup C6;refine⟨_,rfl,_,_,"tuple",_,rfl,ka.ty,ka.kit (by decide) rfl,_,rfl,Ym ⟨_,rfl,a,_,rfl,.inr (SqT.of C9),rfl,_,rfl,?_⟩⟩;refine Ym ⟨_,rfl,a,_,rfl,SqT.of C9,rfl,_,_,rfl,_,_,rfl,rfl,?_⟩;refine⟨_,rfl,_,_,"tuple",_,rfl,kc.ty,kc.kit (by decide) rfl,_,rfl,Ym ⟨_,rfl,c,rfl,⟨_,SqT.of C6⟩,?_⟩⟩;refine Vn (xs:=b.1.map V.str) (fun n ys H'=>Same H H'∧ys=(List.replicate n true).map V.bl) ⟨Same.refl _,rfl⟩ ?_ ?_ ?_
 ·rintro n ys H' _ ⟨g,_⟩;exact SqT.of (g _ _ C6)
 ·rintro n x ys H' C hx ⟨g,rfl⟩ hC;have nl:=(Ad.mp hx).1;rw[ae]at nl;rw[Ar]at hx;obtain⟨z,hz,rfl⟩:=An.mp hx;have zz:=zw z (Ai hz);refine⟨Zk (by rw[ae,AE];omega),Wk.refl _,_,rfl,_,"str",rfl,.str _,(fun z' e=>by cases e;exact AU (mq zz).2 (by decide)),fun H1 g1=>hC _ _ ⟨g.trans g1,?_⟩⟩;rw[show mkB (.str z)=true from(mq zz).1,B9,ca];rfl
 rintro ys H' ⟨g,rfl⟩;refine⟨Zd (by rw[ae,AE,ae];omega),fun p hp=>⟨p,_,rfl,SqL.of Z5,_,rfl,?_⟩⟩;rw[O3];have g1:=g.trans (Z9 hp (.lst ((List.replicate (b.1.map V.str).length true).map V.bl)));generalize upd H' p (.lst ((List.replicate (b.1.map V.str).length true).map V.bl))=H1 at g1⊢;refine Ym ⟨_,rfl,c,b.1,rfl,g1 _ _ C6,b1,bl,fun H2 g2=>⟨_,rfl,?_⟩⟩;have q:=hq _ (g1.trans g2);unfold bnB at q;refine Wn (fun r=>?_) (fun r=>?_)
 ·rw[r,Cc]at q;refine⟨_,rfl,c,_,rfl,.inr (SqT.of (g2 _ _ (g1 _ _ C6))),_,rfl,_,_,rfl,rfl,_,rfl,?_⟩;rw[ae];refine Wn (fun m=>?_) (fun m=>?_)
  ·rw[m,Cc]at q;exact⟨_,rfl,_,"int",_,rfl,.int _,q⟩
  ·rw[AO.mpr m,BC]at q;exact q
 ·rw[AO.mpr r,BC]at q;exact q
def dZ(room:Int)(bs:List Bn):Bool:=bs.all (bnB room)
structure BnV(b:Bn):Prop where
 w:∀z∈b.1,gwB z=true
 l1:1≤b.1.length
 l2:b.1.length≤100
def v9:Sp:=fun vs H Q _=>∃(p:Addr)(bs:List Bn)(room:Int),vs=[.ref p,.int room]∧PapAt H p bs∧bs.length≤3000∧(∀b∈bs,BnV b)∧∀H',Same H H'→Q (.bl (dZ room bs)) H'
def rH:Sp:=fun vs H Q _=>∃(r:Addr)(ts:List Th),vs=[.ref r]∧DV H (.ref r) (bG ts)∧ts.length≤1000∧∀H',Same H H'→Q (.int (ts.map Th.many).sum) H'
theorem yx(ag:mg "isinstance"=none)(bw:mg "list"=none)(aY:mg "all"=none)(kh:Has P w K mg base "is_bunch" 3 ["thing","room"] vP)(F:Fun K "is_paper" "is_paper" dN f fd):FnOk P w K mg base CX0 4 f fd ["thing","room"] v9:=by
 refine F.ok jr (fun vs H Q E h=>?_) (fun cdv A outer s H vs Q E hr h=>?_)
 ·obtain⟨p,bs,room,rfl,_⟩:=h;rfl
 obtain⟨p,bs,room,rfl,⟨xs,C4,kb⟩,bl,bv,hq⟩:=h;refine⟨_,(Z6 (Zb (V0 (Zi W0 rfl ag AM (Z0 (pv 0) (Z0 (Xs (v:=.ty "list") rfl bw PyProof.Rows.boot_list rfl) Z1))) (Vu (Zi (V4 rfl) rfl aY Bs (Z0 (Y3 (own:=["one"]) (Xz rfl rfl) (Y5 (pv 0))
  (fun _ _ _ _ _=>(Z7 (i:=0) Tx rfl (Or.inl rfl) (Or.inr rfl))) (fun _ _ _ _ _=>Yb)
  (fun _ _ _ _ _=>(Z3 kh hr (Z0 (pv 0) (Z0 (pv 2) Z1))))) Z1)))))),?_⟩
 have kp:Kd H (.ref p) "list":=.lst C4;have xl:=kb.length;refine⟨_,rfl,_,_,"list",_,rfl,kp.ty,kp.kit (by decide) rfl,_,rfl,Xf ⟨_,rfl,p,rfl,⟨_,SqL.of C4⟩,?_⟩⟩;refine Yo (xs:=xs) (fun n ys H'=>Same H H'∧ys=((bs.take n).map (bnB room)).map V.bl) ⟨Same.refl _,rfl⟩ ?_ ?_ ?_
 ·rintro n ys H' _ ⟨g,_⟩;exact SqL.of (g _ _ C4)
 ·rintro n x ys H' C hx ⟨g,rfl⟩ hC;have nl:=(Ad.mp hx).1;obtain⟨a,m,b,rfl,hb,ea,em⟩:=kb.get hx;have v:=bv b (Ai hb);refine⟨Zk (by rw[ae,ae,Am];omega),Wk.refl _,_,rfl,_,rfl,a,m,b,room,rfl,g _ _ ea,g _ _ em,v.w,v.l1,v.l2,fun H1 g1=>hC _ _ ⟨g.trans g1,?_⟩⟩;rw[Zr hb,ca,ca];rfl
 rintro ys H' ⟨g,rfl⟩;rw[xl,At];refine⟨Zd (by rw[ae,ae];omega),fun q nq=>⟨q,_,rfl,SqL.of Z5,?_⟩⟩;rw[List.all_map];exact hq _ (g.trans (Z9 nq _))
theorem xY(b9:mg "sum"=none)(F:Fun K "things_in" "things_in" cU f fd):FnOk P w K mg base CX0 1 f fd ["stream"] rH:=by
 refine F.ok gL (fun vs H Q E h=>?_) (fun cdv A outer s H vs Q E hr h=>?_)
 ·obtain⟨r,ts,rfl,_⟩:=h;rfl
 obtain⟨r,ts,rfl,hd,tl,hq⟩:=h;refine⟨_,(Z6 (Zb (Zi (Su rfl) rfl b9 Cw (Z0 (Y3 (own:=["day","mark","number","many"]) (Xz rfl rfl) (Y5 (pv 0))
  (fun _ _ _ _ _=>(Xa K 4 rfl rfl (Z8 (Z7 (i:=0) Yr rfl (Or.inl rfl) (Or.inr rfl)) (Z8 (Z7 (i:=1) Yr rfl (Or.inl rfl) (Or.inr rfl)) (Z8 (Z7 (i:=2) Yr rfl (Or.inl rfl) (Or.inr rfl)) (Z8 (Z7 (i:=3) Yr rfl (Or.inl rfl) (Or.inr rfl)) Zt)))))) (fun _ _ _ _ _=>Yb)
  (fun _ _ _ _ _=>(pv 3))) Z1)))),?_⟩
 obtain⟨_,xs,e0,e_r,ds⟩:=DV.list_inv hd;cases e0;refine⟨_,rfl,r,rfl,⟨_,SqL.of e_r⟩,ja (fun _=>true) (fun t=>.int t.many) e_r ds (by omega) ?_ ?_⟩
 ·rintro t c ys C mt ec h1 _;exact⟨c,_,rfl,SqT.of ec,rfl,_,_,rfl,_,_,rfl,_,_,rfl,_,_,rfl,rfl,Wk.refl _,_,rfl,h1 rfl⟩
 intro q nq;refine⟨q,ts.map Th.many,rfl,SqL.of ?_,hq _ (Z9 nq _)⟩;rw[Z5,BK.mpr (fun _ _=>rfl),AB];rfl
def eqP(ps qs:Ps):Bool:=decide (ps.length=qs.length) && ps.all fun p=>decide (p∈qs)
def eC(ts:List Th)(t:Ty)(bs:List Bn):Bool:=dZ t.room bs && (decide ((bs.map (·.2)).sum=t.lt) && (decide ((ts.map Th.many).sum=t.total) && eqP (dO ts) (bg t.cs bs)))
def mX:Sp:=fun vs H Q _=>∃(r q p:Addr)(ts:List Th)(t:Ty)(bs:List Bn),vs=[.ref r,.ref q,.ref p]∧DV H (.ref r) (bG ts)∧ts.length≤1000∧DV H (.ref q) t.D∧Mdt t∧0≤t.total∧PapAt H p bs∧bs.length≤3000∧(∀b∈bs,BnV b)∧∀H',Same H H'→Q (.bl (eC ts t bs)) H'
theorem rO(dJ:Has P w K mg base "is_made_as_tally" 5 ["thing"] qh)(lr:Has P w K mg base "is_paper" 4 ["thing","room"] v9)(c8:Has P w K mg base "things_in" 1 ["stream"] rH)(kX:Has P w K mg base "times_in" 1 ["stream"] nE)(ip:Has P w K mg base "times_told" 1 ["counts","paper"] mR)(b9:mg "sum"=none)(F:Fun K "is_shown" "is_shown" dD f fd):FnOk P w K mg base CX0 6 f fd ["stream","tally","paper"] mX:=by
 refine F.ok We (fun vs H Q E h=>?_) (fun cdv A outer s H vs Q E hr h=>?_)
 ·obtain⟨r,q,p,ts,t,bs,rfl,_⟩:=h;rfl
 obtain⟨r,q,p,ts,t,bs,rfl,k_r,tl,C8,md,t0,k_p,bl,bv,hq⟩:=h;refine⟨_,(Z2 (Y7 (PW.pt (V8 (W6 (Xl (Z3 dJ hr (Z0 (pv 1) Z1)))) (W5 (W6 (Xl (Z3 lr hr (Z0 (pv 2) (Z0 (Y0 Zv (pv 1) Z4) Z1)))))))) (Z6 (Zb X6)) Zq)
 (Z2 (X5 (pv 1) (Ys rfl (Z8 (Z7 (i:=3) We.nd rfl (Or.inl rfl)) (Z8 (Z7 (i:=4) We.nd rfl (Or.inl rfl)) (Z8 (Z7 (i:=5) We.nd rfl (Or.inl rfl)) (Z8 (Z7 (i:=6) We.nd rfl (Or.inl rfl)) Zt))))))
 (Z2 (Y7 (PW.pt (V8 (Zn P1 (Zi (Su rfl) rfl b9 Cw (Z0 (Y3 (own:=["marks","many"]) (Xz rfl rfl) (Y5 (pv 2))
  (fun _ _ _ _ _=>(Xa K 2 rfl rfl (Z8 (Z7 (i:=0) V1 rfl (Or.inl rfl) (Or.inr rfl)) (Z8 (Z7 (i:=1) V1 rfl (Or.inl rfl) (Or.inr rfl)) Zt)))) (fun _ _ _ _ _=>Yb)
  (fun _ _ _ _ _=>(pv 1))) Z1)) (pv 5) (Zl _)) (W5 (Zn P1 (Z3 c8 hr (Z0 (pv 0) Z1)) (pv 6) (Zl _))))) (Z6 (Zb X6)) Zq)
 (Z6 (Zb (Xi (vi (Nat.lt_of_le_of_lt (A8 _ _) hr.units)) (Z3 kX hr (Z0 (pv 0) Z1)) (Z3 ip hr (Z0 (pv 4) (Z0 (pv 2) Z1))) (Zl _))))))),?_⟩
 refine⟨_,rfl,q,t,rfl,C8,md,t0,fun H1 g1=>⟨_,rfl,Ym ?_⟩⟩;have gg:=g1;have k_r:=k_r.mono g1;have C8:=C8.mono g1;have k_p:=k_p.mono g1;obtain⟨_,b,rows,e0,Da,C3,pa⟩:=DV.ty_inv C8;cases e0;refine⟨_,rfl,_,rfl,_,_,_,_,rfl,rfl,SqT.of Da,rfl,p,bs,t.room,rfl,k_p,bl,bv,fun H2 g2=>⟨_,rfl,?_⟩⟩;have gg:=gg.trans g2;have k_r:=k_r.mono g2;have k_p:=k_p.mono g2;have Da:=g2 _ _ Da;have C3:=g2 _ _ C3;have pa:=pa.mono g2;unfold eC at hq;by_cases hp:dZ t.room bs=true
 ·rw[hp]at hq⊢;simp only[Bool.true_and]at hq;refine Ym ⟨_,rfl,q,_,rfl,SqT.of Da,rfl,_,_,rfl,_,_,rfl,_,_,rfl,_,_,rfl,rfl,?_⟩;obtain⟨xs,C4,kb⟩:=id k_p;have xl:=kb.length;refine⟨_,rfl,p,rfl,⟨_,SqL.of C4⟩,?_⟩;refine Yo (xs:=xs) (fun n ys H'=>H'=H2∧ys=((bs.take n).map (·.2)).map V.int) ⟨rfl,rfl⟩ ?_ ?_ ?_
  ·rintro n ys H' _ ⟨rfl,_⟩;exact SqL.of C4
  ·rintro n x ys H' C hx ⟨rfl,rfl⟩ hC;have nl:=(Ad.mp hx).1;obtain⟨a,m,b',rfl,hb,ea,em⟩:=kb.get hx;refine⟨Zk (by rw[ae,ae,Am];omega),a,_,rfl,SqT.of ea,rfl,_,_,rfl,_,_,rfl,rfl,Wk.refl _,_,rfl,hC _ _ ⟨rfl,?_⟩⟩;rw[Zr hb,ca,ca];rfl
  rintro ys H' ⟨rfl,rfl⟩;rw[xl,At];refine⟨Zd (by rw[ae,ae];omega),?_⟩;intro sp yh;generalize hz:upd _ sp _=H3;revert H3;refine blk ?_;intro H3 hz;have gz:=Zc hz yh;have xT:=Zj hz;clear hz;have gg:=gg.trans gz;have k_r:=k_r.mono gz;have k_p:=k_p.mono gz;have C3:=gz _ _ C3;have pa:=pa.mono gz;refine⟨sp,_,rfl,SqL.of xT,_,rfl,rfl,_,rfl,?_⟩;by_cases hs:(bs.map (·.2)).sum=t.lt
  ·rw[zy (show V.int (bs.map (·.2)).sum=V.int t.lt by rw[hs])];rw[zy hs]at hq;simp only[Bool.true_and]at hq;refine Ym ⟨_,rfl,r,ts,rfl,k_r,tl,fun H4 g4=>⟨_,rfl,rfl,_,rfl,?_⟩⟩;have gg:=gg.trans g4;by_cases ht:(ts.map Th.many).sum=t.total
   ·rw[zy (show V.int (ts.map Th.many).sum=V.int t.total by rw[ht])];rw[zy ht]at hq;simp only[Bool.true_and]at hq;refine Ym ⟨_,rfl,r,ts,rfl,k_r.mono g4,tl,fun d1 H5 g5 nd1 e1=>?_⟩;have gg:=gg.trans g5;have g45:=g4.trans g5;refine⟨_,rfl,_,rfl,b,p,rows,t.cs,bs,rfl,g45 _ _ C3,pa.mono g45,md.nd,by have:=md.len;have:=md.room2;omega,k_p.mono g45,bl,fun b hb=>(bv b hb).l2,fun d2 H6 g6 nd2 e2=>?_⟩;exact⟨d1,d2,_,_,rfl,rfl,g6 _ _ e1,e2,hq _ (gg.trans g6)⟩
   ·rw[Ag (fun z=>ht (V.int.inj z))];rw[Ag ht]at hq;exact Xf (hq _ gg)
  ·rw[Ag (fun z=>hs (V.int.inj z))];rw[Ag hs]at hq;exact Xf (Xf (hq _ gg))
 ·have hp:=AO.mpr hp;rw[hp]at hq⊢;exact Xf (hq _ gg)
theorem mw:∀{ps qs:Ps},ps.Nodup→(∀p∈ps,p∈qs)→ps.length=qs.length→ps.Perm qs
 | [],qs,_,_,l=>by
  rw[A0 l.symm]
 |p::ps,qs,nd,sub,l=>by
  obtain⟨n1,n2⟩:=AC.mp nd;have hp:=sub p (.head _);have hq:=List.perm_cons_erase hp;refine List.Perm.trans (List.Perm.cons p (mw n2 (fun x hx=>(List.mem_erase_of_ne (fun e:x=p=>n1 (e ▸ hx))).mpr (sub x (.tail _ hx))) ?_)) hq.symm;rw[List.length_erase_of_mem hp,←l];rfl
theorem P6{ps:Ps}(h:(ps.map (·.1)).Nodup):ps.Nodup:=(List.pairwise_map.mp h).imp fun h e=>h (by rw[e])
theorem qY{ps qs:Ps}(h:(ps.map (·.1)).Nodup)(e:eqP ps qs=true):ps.Perm qs:=by
 obtain⟨e1,e2⟩:=Ay.mp e;exact mw (P6 h) (fun p hp=>bb (A3.mp e2 p hp)) (bb e1)
theorem oC{ps qs:Ps}(h:(ps.map (·.1)).Nodup)(p:ps.Perm qs)(z:Str):look ps z=look qs z:=by
 have g:(qs.map (·.1)).Nodup:=(p.map _).nodup_iff.mp h;by_cases hz:z∈ps.map (·.1)
 ·obtain⟨x,hx,rfl⟩:=Ab.mp hz;rw[Yv h hx,Yv g (p.mem_iff.mp hx)]
 ·rw[Zm hz,Zm (fun y=>hz ((p.map _).mem_iff.mpr y))]
theorem R8{ps:Ps}(h:(ps.map (·.1)).Nodup)(z:Str)(n:Int)(y:Str):look (bh ps z n) y=look ps y+if z=y then n else 0:=by
 have h1:=Ri (Wd h z n) y;have h2:=S6 (qs:=[(z,n)]) h (AC.mpr ⟨(fun y=>nomatch y),AQ⟩) y;have h3:V.int (look (bh ps z n) y)=V.int (au ps [(z,n)] y):=h1.symm.trans h2;have h4:=V.int.inj h3;rw[h4];show look ps y+look [(z,n)] y=_
 congr 1
theorem jq{ps:Ps}(h:(ps.map (·.1)).Nodup)(z:Str)(n:Int):(ar (bh ps z n)).sum=(ar ps).sum+n:=by
 have q:=Na (qs:=[(z,n)]) h (AC.mpr ⟨(fun y=>nomatch y),AQ⟩);have e:ar (bh ps z n)=(ah ps [(z,n)]).map (au ps [(z,n)]):=by
  unfold ar bh aM;rw[AB];rfl
 rw[e,q]
 congr 1
 exact BF n
def bq(z:Str)(ts:List Th):Int:=((ts.filter fun t=>decide (t.word=z)).map Th.many).sum
theorem Pe(z:Str):∀(ts:List Th)(ps:Ps),(ps.map (·.1)).Nodup→look (ts.foldl (fun ps t=>bh ps t.word t.many) ps) z=look ps z+bq z ts
 | [],ps,_=>(BF _).symm
 |t::ts,ps,h=>by
  show look (ts.foldl (fun ps t=>bh ps t.word t.many) (bh ps t.word t.many)) z=_;rw[Pe z ts _ (Wd h _ _),R8 h];unfold bq;rw[As];by_cases e:t.word=z
  ·rw[Ah e,Ah (zy e),AA,A2];omega
  ·rw[if_neg e,if_neg (by simpa using e)];omega
theorem mC:∀(ts:List Th)(ps:Ps),(ps.map (·.1)).Nodup→(ar (ts.foldl (fun ps t=>bh ps t.word t.many) ps)).sum=(ar ps).sum+(ts.map Th.many).sum
 | [],ps,_=>(BF _).symm
 |t::ts,ps,h=>by
  show(ar (ts.foldl (fun ps t=>bh ps t.word t.many) (bh ps t.word t.many))).sum=_;rw[mC ts _ (Wd h _ _),jq h,AA,A2];omega
def aV(z:Str)(bs:List Bn):Int:=(bs.map fun b=>b.2*(b.1.count z:Int)).sum
theorem jM(n:Int)(z:Str):∀(zs:List Str)(ps:Ps),(ps.map (·.1)).Nodup→look (inP ps n zs) z=look ps z+n*(zs.count z:Int)
 | [],ps,_=>by show look ps z=look ps z+n*((0:Nat):Int);omega
 |y::zs,ps,h=>by
  show look (inP (bh ps y n) n zs) z=_;rw[jM n z zs _ (Wd h _ _),R8 h,List.count_cons];by_cases e:y=z
  ·subst e;rw[if_pos rfl,if_pos (by simp),Int.natCast_add,Int.mul_add];show _=look ps y+(n*_+n*1);omega
  ·rw[if_neg e,if_neg (by simpa using e),Nat.add_zero];omega
theorem R7(z:Str):∀(bs:List Bn)(ps:Ps),(ps.map (·.1)).Nodup→look (bg ps bs) z=look ps z+aV z bs
 | [],ps,_=>(BF _).symm
 |b::bs,ps,h=>by
  show look (bg (inP ps b.2 b.1) bs) z=_;rw[R7 z bs _ (Ra _ _ _ h),jM b.2 z b.1 ps h];unfold aV;rw[AA,A2];omega
theorem lR(n:Int):∀(zs:List Str)(ps:Ps),(ps.map (·.1)).Nodup→(ar (inP ps n zs)).sum=(ar ps).sum+n*(zs.length:Int)
 | [],ps,_=>by show(ar ps).sum=(ar ps).sum+n*((0:Nat):Int);omega
 |y::zs,ps,h=>by
  show(ar (inP (bh ps y n) n zs)).sum=(ar ps).sum+n*((zs.length+1:Nat):Int);rw[lR n zs _ (Wd h _ _),jq h,Int.natCast_add,CP];show _=_+(_+n*1);omega
theorem jc:∀(bs:List Bn)(ps:Ps),(ps.map (·.1)).Nodup→(ar (bg ps bs)).sum=(ar ps).sum+(bs.map fun b=>b.2*(b.1.length:Int)).sum
 | [],ps,_=>(BF _).symm
 |b::bs,ps,h=>by
  show(ar (bg (inP ps b.2 b.1) bs)).sum=_;rw[jc bs _ (Ra _ _ _ h),lR b.2 b.1 ps h,AA,A2];omega
theorem rg:∀{zs:List Str},gJ zs=true→zs.Pairwise (fun x y=>x.cps.toList<y.cps.toList)
 | [],_=>.nil
 | [x],_=>Ci _ _
 |x::y::zs,h=>by
  have h:(decide (x.cps.toList<y.cps.toList) && gJ (y::zs))=true:=h;obtain⟨h1,h2⟩:=Ay.mp h;have ih:=rg h2;have lt:=bb h1;refine Aq.mpr ⟨fun z hz=>?_,ih⟩
  rcases Ae.mp hz with rfl | hz
  ·exact lt
  ·exact List.lt_trans lt ((Aq.mp ih).1 z hz)
theorem sg{zs:List Str}(h:gJ zs=true):zs.Nodup:=(rg h).imp fun h e=>by rw[e]at h;exact List.lt_irrefl _ h
theorem U6{room:Int}(z:Str):∀{bs:List Bn},dZ room bs=true→0≤aV z bs∧aV z bs≤(bs.map (·.2)).sum∧(room+1)*(bs.map (·.2)).sum≤(bs.map fun b=>b.2*(b.1.length:Int)).sum
 | [],_=>⟨By _,By _,by show(room+1)*0≤0;omega⟩
 |b::bs,h=>by
  have h:(bnB room b && dZ room bs)=true:=h;obtain⟨hb,hr⟩:=Ay.mp h;obtain⟨i1,i2,i3⟩:=U6 (room:=room) z hr;obtain⟨r1,r2⟩:=Ay.mp hb;obtain⟨r3,r4⟩:=Ay.mp r2;have r3:=bb r3;have r4:=bb r4;have c1:b.1.count z≤1:=List.nodup_iff_count.mp (sg r1) z;have m1:b.2*(b.1.count z:Int)≤b.2*1:=BR (by omega) (by omega);have m0:0≤b.2*(b.1.count z:Int):=BX (by omega) (by omega);have m2:b.2*(room+1)≤b.2*(b.1.length:Int):=BR (by omega) (by omega);unfold aV at i1 i2⊢;simp only[List.map_cons,List.sum_cons];rw[CP,Int.mul_comm (room+1) b.2];exact⟨by omega,by omega,by omega⟩
theorem iA{ts:List Th}{t:Ty}{bs:List Bn}(nd:(t.cs.map (·.1)).Nodup)(h:eC ts t bs=true):
  (∀z,look t.cs z≤bq z ts∧bq z ts≤look t.cs z+t.lt)∧(t.room+1)*t.lt≤t.total-(ar t.cs).sum:=by
 obtain⟨h1,h⟩:=Ay.mp h;obtain⟨h2,h⟩:=Ay.mp h;obtain⟨h3,h4⟩:=Ay.mp h;have h2:=bb h2;have h3:=bb h3;have p:=qY (Rw ts) h4;refine⟨fun z=>?_,?_⟩
 ·have e:=oC (Rw ts) p z;have e1:look (dO ts) z=0+bq z ts:=Pe z ts [] AQ;rw[e1,BP,R7 z bs _ nd]at e;obtain⟨b0,b1,_⟩:=U6 z h1;omega
 ·have e:(ar (dO ts)).sum=(ar (bg t.cs bs)).sum:=Qu (show(ar (dO ts)).Perm (ar (bg t.cs bs))from p.map (fun x:Str×Int=>x.2));have e1:(ar (dO ts)).sum=0+(ts.map Th.many).sum:=mC ts [] AQ;rw[e1,BP,jc bs _ nd]at e;obtain⟨_,_,b2⟩:=U6 "" h1;rw[h2]at b2;omega
theorem TyN.nd{t:Ty}(h:TyN t):(t.cs.map (·.1)).Nodup:=h.nice.nd
theorem TyN.pos{t:Ty}(h:TyN t):∀p∈t.cs,1≤p.2:=h.nice.pos
theorem pX{a b:Ty}(h:TyN a)(g:TyN b){z:Str}(hz:z∈ah a.cs b.cs):1≤au a.cs b.cs z:=by
 have n1:=Xx (fun p hp=>h.pos p hp) z;have n2:=Xx (fun p hp=>g.pos p hp) z;unfold au
 rcases Yi.mp hz with q | q
 ·have:=X1 (fun p hp=>h.pos p hp) h.nd q;omega
 ·have:=X1 (fun p hp=>g.pos p hp) g.nd q;omega
theorem jK{a b:Ty}(h:TyN a)(g:TyN b)(c:ay a.room a.cs b.cs≠0){v:Int}(hv:v∈bR a.room a.cs b.cs):0<v:=by
 obtain⟨z,hz,rfl⟩:=Pb hv;have:=pX h g hz;have:=iu h g;omega
def cP(ps qs:Ps):Int→List Int→List Bn
 |_,[]=>[]
 |p,v::l=>(aD ps qs v,v-p)::cP ps qs v l
theorem me(ps qs:Ps):∀(l:List Int)(p:Int),((List.range l.length).map fun i=>((aD ps qs (l.getD i 0),l.getD i 0-(p::l).getD i 0):Bn))=cP ps qs p l
 | [],_=>rfl
 |v::l,p=>by
  rw[AD,List.range_succ_eq_map,AA,AB];show _::_=_::cP ps qs v l;rw[←me ps qs l v];rfl
theorem jC{a b:Ty}(h:TyN a)(g:TyN b)(v:Int):(aD a.cs b.cs v).Nodup:=by
 unfold aD;exact List.Nodup.sublist BJ ((Zx _).nodup_iff.mpr (Xy h.nd g.nd))
theorem T5{ps qs:Ps}{v:Int}{z:Str}:z∈aD ps qs v↔z∈ah ps qs∧v≤au ps qs z:=by
 unfold aD;rw[AH,(Zx _).mem_iff,decide_eq_true_iff]
theorem s_{a b:Ty}(h:TyN a)(g:TyN b){z:Str}(hz:z∈ah a.cs b.cs){m:Int}:∀(l:List Int)(p:Int),(∀v∈l,p<v)→l.Pairwise (·<·)→(∀v∈l,v≤au a.cs b.cs z↔v≤m)→(m=p∨m∈l)→aV z (cP a.cs b.cs p l)=m-p
 | [],p,_,_,_,hm=>by
  rcases hm with rfl | hm
  ·show(0:Int)=_;omega
  ·cases hm
 |v::l,p,hp,pw,hi,hm=>by
  obtain⟨p1,p2⟩:=Aq.mp pw;have e:aV z (cP a.cs b.cs p (v::l))=(v-p)*((aD a.cs b.cs v).count z:Int)+aV z (cP a.cs b.cs v l):=rfl;rw[e];have pv:=hp v (.head _);have iv:=hi v (.head _)
  rcases hm with rfl | hm
  ·have out:z∉aD a.cs b.cs v:=fun q=>by
    have:=iv.mp (T5.mp q).2;omega
   rw[List.count_eq_zero_of_not_mem out];have low:∀(l:List Int)(u:Int),(∀v∈l,m<v)→(∀v∈l,v≤au a.cs b.cs z↔v≤m)→aV z (cP a.cs b.cs u l)=0:=by
    intro l
    induction l with
    |nil=>intro u _ _;rfl
    |cons w l ih=>
     intro u h1 h2;have e:aV z (cP a.cs b.cs u (w::l))=(w-u)*((aD a.cs b.cs w).count z:Int)+aV z (cP a.cs b.cs w l):=rfl;have out:z∉aD a.cs b.cs w:=fun q=>by
      have:=(h2 w (.head _)).mp (T5.mp q).2;have:=h1 w (.head _);omega
     rw[e,List.count_eq_zero_of_not_mem out,ih w (fun x hx=>h1 x (.tail _ hx)) (fun x hx=>h2 x (.tail _ hx))];show(w-u)*0+0=(0:Int);omega
   rw[low l v (fun x hx=>by have:=p1 x hx;omega) (fun x hx=>hi x (.tail _ hx))];show(v-m)*0+0=m-m;omega
  ·have vm:v≤m:=by
    rcases Ae.mp hm with rfl | hm
    ·exact By _
    ·exact Int.le_of_lt (p1 m hm)
   have inn:z∈aD a.cs b.cs v:=T5.mpr ⟨hz,iv.mpr vm⟩;rw[(List.Nodup.count (jC h g v)),Ah inn,s_ h g hz l v p1 p2 (fun x hx=>hi x (.tail _ hx)) ((Ae.mp hm).imp (fun e=>e) fun e=>e)];show(v-p)*1+(m-v)=m-p;omega
theorem gB(room:Int)(ps qs:Ps):(bR room ps qs).Pairwise (·<·):=by
 unfold bR;have h:=List.Pairwise.and (lM (gP ((ah ps qs).map fun z=>min (au ps qs z) (ay room ps qs)))) ((Wq _).nodup_iff.mpr (uj ((ah ps qs).map fun z=>min (au ps qs z) (ay room ps qs))));exact h.imp fun⟨h1,h2⟩=>by omega
theorem l_{room:Int}{ps qs:Ps}{z:Str}(hz:z∈ah ps qs):min (au ps qs z) (ay room ps qs)∈bR room ps qs:=by
 unfold bR;exact(Wq _).mem_iff.mpr (uniI_mem.mpr (Ab.mpr ⟨z,hz,rfl⟩))
theorem iq{a b:Ty}(c:ay a.room a.cs b.cs≠0):aN a b=cP a.cs b.cs 0 (bR a.room a.cs b.cs):=by
 unfold aN;rw[Aj c];exact me a.cs b.cs _ 0
theorem lZ{ps qs:Ps}{z:Str}(hz:z∉ah ps qs):∀(l:List Int)(p:Int),aV z (cP ps qs p l)=0
 | [],_=>rfl
 |v::l,p=>by
  have e:aV z (cP ps qs p (v::l))=(v-p)*((aD ps qs v).count z:Int)+aV z (cP ps qs v l):=rfl;rw[e,List.count_eq_zero_of_not_mem (fun q=>hz (T5.mp q).1),lZ hz l v];show(v-p)*0+0=(0:Int);omega
theorem r8{a b:Ty}(h:TyN a)(g:TyN b)(z:Str):au a.cs b.cs z=look (aA a b).cs z+aV z (aN a b):=by
 have c0:=iu h g;have s0:=im h g z;show _=look (csM a.room a.cs b.cs) z+_;rw[Ph h.nd g.nd c0 z];by_cases c:ay a.room a.cs b.cs=0
 ·have e:aN a b=[]:=by unfold aN;rw[Ah c]
  rw[e,c];show _=_+(0:Int)
  split <;> omega
 ·rw[iq c];by_cases hz:z∈ah a.cs b.cs
  ·rw[s_ h g hz (m:=min (au a.cs b.cs z) (ay a.room a.cs b.cs)) _ 0 (fun v hv=>jK h g c hv) (gB _ _ _) (fun v hv=>?_) (.inr (l_ hz))]
   ·split <;> omega
   ·obtain⟨y,_,rfl⟩:=Pb hv;omega
  ·rw[lZ hz];have e:au a.cs b.cs z=0:=by
    have n1:z∉a.cs.map (·.1):=fun q=>hz (Yi.mpr (.inl q));have n2:z∉b.cs.map (·.1):=fun q=>hz (Yi.mpr (.inr q));show look a.cs z+look b.cs z=0;rw[Zm n1,Zm n2];rfl
   rw[e]
   split <;> omega
theorem lW{ps qs:Ps}{m:Int}:∀(l:List Int)(p:Int),l.Pairwise (·<·)→(∀v∈l,v≤m)→(m=p∧l=[]∨m∈l)→((cP ps qs p l).map (·.2)).sum=m-p
 | [],p,_,_,hm=>by
  rcases hm with⟨rfl,_⟩ | hm
  ·show(0:Int)=_;omega
  ·cases hm
 |v::l,p,pw,hi,hm=>by
  obtain⟨p1,p2⟩:=Aq.mp pw;have e:((cP ps qs p (v::l)).map (·.2)).sum=(v-p)+((cP ps qs v l).map (·.2)).sum:=rfl;have hm:m∈v::l:=hm.elim (fun q=>nomatch q.2) fun q=>q;rw[e,lW l v p2 (fun x hx=>hi x (.tail _ hx)) ?_]
  ·omega
  ·rcases Ae.mp hm with rfl | hm
   ·cases l with
    |nil=>exact .inl ⟨rfl,rfl⟩
    |cons x l=>
     have:=p1 x (.head _);have:=hi x (.tail _ (.head _));omega
   ·exact .inr hm
theorem jG{a b:Ty}(h:TyN a)(c:ay a.room a.cs b.cs≠0):a.room<((ah a.cs b.cs).map (au a.cs b.cs)).length:=by
 by_cases q:a.room<((ah a.cs b.cs).map (au a.cs b.cs)).length
 ·exact q
 ·exact absurd (show ay a.room a.cs b.cs=0 by unfold ay dQ;rw[Ah (by omega)]) c
theorem og{a b:Ty}(h:TyN a)(g:TyN b):((aN a b).map (·.2)).sum=ay a.room a.cs b.cs:=by
 by_cases c:ay a.room a.cs b.cs=0
 ·have e:aN a b=[]:=by unfold aN;rw[Ah c]
  rw[e,c];rfl
 ·have r1:=h.room1;obtain⟨k,_,e,hk,_⟩:=W8 (ns:=(ah a.cs b.cs).map (au a.cs b.cs)) (room:=a.room) (by omega) (jG h c);obtain⟨z,hz,ez⟩:=Ab.mp hk;have e:ay a.room a.cs b.cs=k:=e;have hm:ay a.room a.cs b.cs∈bR a.room a.cs b.cs:=by
   have q:=l_ (room:=a.room) hz;rw[ez,←e,Int.min_self]at q;exact q
  rw[iq c,lW _ 0 (gB _ _ _) (fun v hv=>?_) (.inr hm)]
  ·omega
  ·obtain⟨y,_,rfl⟩:=Pb hv;omega
theorem qx:∀{zs:List Str},zs.Pairwise (fun x y=>x.cps.toList<y.cps.toList)→gJ zs=true
 | [],_=>rfl
 | [x],_=>rfl
 |x::y::zs,h=>by
  obtain⟨h1,h2⟩:=Aq.mp h;show(decide (x.cps.toList<y.cps.toList) && gJ (y::zs))=true;rw[zy (h1 y (.head _)),qx h2];rfl
theorem oX{a b:Ty}(h:TyN a)(g:TyN b)(v:Int):gJ (aD a.cs b.cs v)=true:=by
 refine qx ?_;have p1:(aD a.cs b.cs v).Pairwise (fun a b=>leS a b=true):=by
  unfold aD;exact(gx _).sublist BJ
 refine(List.Pairwise.and p1 (jC h g v)).imp ?_;rintro x y ⟨h1,h2⟩;by_cases c:x.cps.toList<y.cps.toList
 ·exact c
 ·have h3:leS y x=true:=by unfold leS;rw[Ag c];rfl
  exact absurd (Pj h1 h3) h2
theorem Pa{a b:Ty}(h:TyN a)(c:ay a.room a.cs b.cs≠0){v:Int}(hv:v≤ay a.room a.cs b.cs):a.room<((aD a.cs b.cs v).length:Int):=by
 have r1:=h.room1;obtain⟨k,_,e,hk,_,up⟩:=W8 (ns:=(ah a.cs b.cs).map (au a.cs b.cs)) (room:=a.room) (by omega) (jG h c);have e:ay a.room a.cs b.cs=k:=e;have l1:(aD a.cs b.cs v).length=(((ah a.cs b.cs).map (au a.cs b.cs)).filter fun x=>decide (v≤x)).length:=by
  unfold aD;rw[((Zx _).filter _).length_eq,List.filter_map,ae];rfl
 have cnt:∀(ns:List Int),(ns.filter fun x=>decide (k<x)).length+ns.count k≤(ns.filter fun x=>decide (v≤x)).length:=by
  intro ns
  induction ns with
  |nil=>exact io _
  |cons x ns ih=>
   rw[As,As,List.count_cons];by_cases q:k<x
   ·rw[if_pos (decide_eq_true q),if_pos (decide_eq_true (by omega)),if_neg (by simp;omega)];simp only[List.length_cons];omega
   ·by_cases q2:x=k
    ·subst q2;rw[if_neg (by simp),if_pos (decide_eq_true (by omega)),if_pos (by simp)];simp only[List.length_cons];omega
    ·rw[if_neg (by simpa using q),if_neg (by simpa using q2)]
     split
     ·simp only[List.length_cons];omega
     ·omega
 have:=cnt ((ah a.cs b.cs).map (au a.cs b.cs));omega
theorem nK{a b:Ty}(h:TyN a)(g:TyN b):dZ a.room (aN a b)=true:=by
 by_cases c:ay a.room a.cs b.cs=0
 ·have e:aN a b=[]:=by unfold aN;rw[Ah c]
  rw[e];rfl
 ·rw[iq c];have all:∀(l:List Int)(p:Int),(∀v∈l,p<v)→l.Pairwise (·<·)→(∀v∈l,v≤ay a.room a.cs b.cs)→dZ a.room (cP a.cs b.cs p l)=true:=by
   intro l
   induction l with
   |nil=>intro p _ _ _;rfl
   |cons v l ih=>
    intro p h1 pw h2;obtain⟨p1,p2⟩:=Aq.mp pw;show(bnB a.room (aD a.cs b.cs v,v-p) && dZ a.room (cP a.cs b.cs v l))=true;rw[ih v p1 p2 (fun x hx=>h2 x (.tail _ hx)),Bool.and_true];have hv:=h1 v (.head _);show(gJ (aD a.cs b.cs v) && (decide (a.room<((aD a.cs b.cs v).length:Int)) && decide (1≤v-p)))=true;rw[oX h g v,zy (Pa h c (h2 v (.head _))),zy (by omega)];rfl
  refine all _ 0 (fun v hv=>jK h g c hv) (gB _ _ _) fun v hv=>?_;obtain⟨y,_,rfl⟩:=Pb hv;omega
structure Shw(ts:List Th)(t:Ty)(bs:List Bn):Prop where
 at_:∀z,bq z ts=look t.cs z+aV z bs
 lt:(bs.map (·.2)).sum=t.lt
 pap:dZ t.room bs=true
 tot:(ts.map Th.many).sum=t.total
theorem No(z:Str)(xs ys:List Bn):aV z (xs++ys)=aV z xs+aV z ys:=by
 unfold aV;rw[ca,Bk]
theorem kq(z:Str)(xs ys:List Th):bq z (xs++ys)=bq z xs+bq z ys:=by
 unfold bq;rw[AJ,ca,Bk]
theorem Shw.merge{ts us:List Th}{a b:Ty}{xs ys:List Bn}(h:TyN a)(g:TyN b)(r:a.room=b.room)(ha:Shw ts a xs)(hb:Shw us b ys):Shw (ts++us) (aA a b) (xs++ys++aN a b):=by
 refine⟨fun z=>?_,?_,?_,?_⟩
 ·have e:=r8 h g z;have e1:au a.cs b.cs z=look a.cs z+look b.cs z:=rfl;rw[kq,No,No,ha.at_ z,hb.at_ z];omega
 ·rw[ca,ca,Bk,Bk,ha.lt,hb.lt,og h g];rfl
 ·show dZ a.room (xs++ys++aN a b)=true;have p1:=ha.pap;have p2:=hb.pap;have p3:=nK h g;rw[←r]at p2;unfold dZ at *;rw[List.all_append,List.all_append,p1,p2,p3];rfl
 ·rw[ca,Bk,ha.tot,hb.tot];rfl
theorem Shw.zero(room:Int):Shw [] (Ty.zero room) []:=⟨fun _=>rfl,rfl,rfl,rfl⟩
theorem gN{ps:Ps}(h:(ps.map (·.1)).Nodup)(pos:∀p∈ps,1≤p.2)(z:Str):z∈ps.map (·.1)↔1≤look ps z:=by
 constructor
 ·exact X1 pos h
 ·intro q;by_cases hz:z∈ps.map (·.1)
  ·exact hz
  ·rw[Zm hz]at q;omega
theorem xX{ps qs:Ps}(h:(ps.map (·.1)).Nodup)(g:(qs.map (·.1)).Nodup)(p1:∀p∈ps,1≤p.2)(q1:∀p∈qs,1≤p.2)(e:∀z,look ps z=look qs z):eqP ps qs=true:=by
 have sub:∀{xs ys:Ps},(xs.map (·.1)).Nodup→(ys.map (·.1)).Nodup→(∀p∈xs,1≤p.2)→(∀p∈ys,1≤p.2)→(∀z,look xs z=look ys z)→∀p∈xs,p∈ys:=fun{xs ys} hx hy px py e p hp=>by
  have l1:=Yv hx hp;have m:p.1∈ys.map (·.1):=(gN hy py p.1).mpr (by rw[←e,l1];exact px p hp);obtain⟨x,hx',ex⟩:=Ab.mp m;have l2:=Yv hy hx';rw[ex,←e,l1]at l2;have:x=p:=CI ex l2.symm;exact this ▸ hx'
 have s1:=sub h g p1 q1 e;have s2:=sub g h q1 p1 fun z=>(e z).symm;have pm:ps.Perm qs:=(BW (P6 h) (P6 g)).mpr fun x=>⟨s1 x,s2 x⟩;unfold eqP;rw[zy pm.length_eq,Cc];exact A3.mpr fun p hp=>zy (s1 p hp)
theorem iV{ps:Ps}(nd:(ps.map (·.1)).Nodup)(h:∀p∈ps,1≤p.2)(z:Str){n:Int}(n1:1≤n):∀p∈bh ps z n,1≤p.2:=fun p hp=>by
 have l:=Yv (Wd nd z n) hp;rw[R8 nd]at l;have l0:=Xx h p.1;by_cases e:z=p.1
 ·rw[Ah e]at l;omega
 ·rw[Aj e]at l;have m:p.1∈ah ps [(z,n)]:=by
   rw[←Xq];exact Ab.mpr ⟨p,hp,rfl⟩
  rcases Yi.mp m with q | q
  ·have:=X1 h nd q;omega
  ·exact absurd (Af.mp q).symm e
theorem lO:∀(ts:List Th)(ps:Ps),(ps.map (·.1)).Nodup→(∀p∈ps,1≤p.2)→(∀t∈ts,1≤t.many)→∀p∈ts.foldl (fun ps t=>bh ps t.word t.many) ps,1≤p.2
 | [],_,_,h,_=>h
 |t::ts,ps,nd,h,ht=>lO ts _ (Wd nd _ _) (iV nd h _ (ht t (.head _))) fun x hx=>ht x (.tail _ hx)
theorem lK{n:Int}(n1:1≤n):∀(zs:List Str)(ps:Ps),(ps.map (·.1)).Nodup→(∀p∈ps,1≤p.2)→∀p∈inP ps n zs,1≤p.2
 | [],_,_,h=>h
 |z::zs,ps,nd,h=>lK n1 zs _ (Wd nd _ _) (iV nd h z n1)
theorem iM:∀(bs:List Bn)(ps:Ps),(ps.map (·.1)).Nodup→(∀p∈ps,1≤p.2)→(∀b∈bs,1≤b.2)→∀p∈bg ps bs,1≤p.2
 | [],_,_,h,_=>h
 |b::bs,ps,nd,h,hb=>iM bs _ (Ra _ _ _ nd) (lK (hb b (.head _)) _ _ nd h) fun x hx=>hb x (.tail _ hx)
theorem uQ{room:Int}{bs:List Bn}(h:dZ room bs=true):∀b∈bs,1≤b.2:=fun b hb=>by
 have q:=A3.mp h b hb;exact bb (Ay.mp (Ay.mp q).2).2
theorem Shw.shown{ts:List Th}{t:Ty}{bs:List Bn}(h:Shw ts t bs)(nd:(t.cs.map (·.1)).Nodup)(pos:∀p∈t.cs,1≤p.2)(ht:∀x∈ts,1≤x.many):eC ts t bs=true:=by
 unfold eC;rw[h.pap,zy h.lt,zy h.tot];simp only[Bool.true_and];refine xX (Rw ts) (Qg bs _ nd) (lO ts [] AQ (fun _ q=>nomatch q) ht) (iM bs _ nd pos (uQ h.pap)) fun z=>?_;have e1:look (dO ts) z=0+bq z ts:=Pe z ts [] AQ;rw[e1,BP,R7 z bs _ nd];exact h.at_ z
theorem vV{α:Type}[DecidableEq α]:∀{l m:List α},l.Nodup→(∀x∈l,x∈m)→l.length≤m.length:=by
 intro l
 induction l with
 |nil=>intro m _ _;exact Bc _
 |cons x l ih=>
  intro m nd s;rw[AC]at nd;have hx:=s x (.head _);have le:=List.length_erase_of_mem hx;have lp:=List.length_pos_of_mem hx;have:=ih (m:=m.erase x) nd.2 fun y hy=>(List.mem_erase_of_ne fun z=>nd.1 (by rw[←z];exact hy)).mpr (s y (.tail _ hy));rw[AD];omega
theorem o_{α:Type}(f:α→Bool):∀l:List α,(l.filter f).length+(l.filter fun x=>!f x).length=l.length:=by
 intro l
 induction l with
 |nil=>rfl
 |cons x l ih=>
  rw[As,As,AD];cases f x with
  |true=>
   rw[Ah rfl,Aj (by decide),AD];omega
  |false=>
   rw[Aj (by decide),Ah (by rfl),AD];omega
theorem jo{a b:Ty}(h:TyN a)(g:TyN b):((aN a b).length:Int)≤max 0 (((ah a.cs b.cs).length:Int)-a.room):=by
 unfold aN;by_cases c:ay a.room a.cs b.cs=0
 ·rw[Ah c];show((0:Nat):Int)≤_;omega
 rw[Aj c,O1];have mr:=Pa h c (By _);have sp:=o_ (fun z=>decide (ay a.room a.cs b.cs≤au a.cs b.cs z)) (bN (ah a.cs b.cs));have kl:=(Zx (ah a.cs b.cs)).length_eq;unfold aD at mr;have nd:(bR a.room a.cs b.cs).Nodup:=(gB a.room a.cs b.cs).imp fun z e=>by omega
 have le:=vV (m:=ay a.room a.cs b.cs::((bN (ah a.cs b.cs)).filter fun z=>!decide (ay a.room a.cs b.cs≤au a.cs b.cs z)).map (au a.cs b.cs)) nd fun v hv=>by
  obtain⟨z,hz,rfl⟩:=Pb hv;by_cases q:ay a.room a.cs b.cs≤au a.cs b.cs z
  ·rw[Int.min_eq_right q];exact .head _
  ·rw[Int.min_eq_left (by omega)];refine .tail _ (Ab.mpr ⟨z,AH.mpr ⟨(Zx _).mem_iff.mpr hz,?_⟩,rfl⟩);rw[Ag q];rfl
 rw[AD,ae]at le;omega
theorem lJ(ps qs:Ps):(ah ps qs).length≤ps.length+qs.length:=by
 unfold ah;have:=Ap (fun z=>decide (z∉ps.map (·.1))) (qs.map (·.1));rw[ae]at this;rw[ba,ae];omega
theorem lV{room:Int}(h1:1≤room)(h2:room≤20):TyN (Ty.zero room):=⟨h1,h2,Nice.nil,by show((0:Nat):Int)≤room;omega,By _,by show(room+1)*0≤0-0;omega,by show 0-0≤2*room*0;omega⟩
theorem hJ{room:Int}(h1:1≤room)(h2:room≤20){t:Tr}(h:∀s∈t.streams,∀x∈s,cO x):TyN (aU room t).1∧(aU room t).1.room=room:=by
 rw[rk];refine⟨(Q4 h1 h2 fun x hx=>?_).1,(Sq h1 h2 t).2⟩;rw[Tr.all_eq]at hx;obtain⟨s,hs,hx⟩:=List.mem_flatten.mp hx;exact h s hs x hx
theorem oz{room:Int}(h1:1≤room)(h2:room≤20):∀(ts:List Th)(p:TyP),TyN p.1→p.1.room=room→(∀t∈ts,cO t)→(ts.foldl (cS room) p).2.length≤p.2.length+ts.length:=by
 intro ts
 induction ts with
 |nil=>intro p _ _ _;exact io _
 |cons t ts ih=>
  intro p ok rm hw;have ok2:=(xI h1 h2 (hw t (.head _))).1;have a:=ih (cS room p t) (ok.merge ok2 rm) rm fun x hx=>hw x (.tail _ hx);have b:=jo ok ok2;have k:=lJ p.1.cs (thT room t).cs;have l:=ok.len;have e:(thT room t).cs.length=1:=rfl;have f:(cS room p t).2.length=p.2.length+(aN p.1 (thT room t)).length:=by
   show(p.2++aN p.1 (thT room t)).length=_;rw[ba]
  rw[List.foldl_cons,AD];omega
theorem q9{room:Int}(h1:1≤room)(h2:room≤20):∀{t:Tr},(∀s∈t.streams,∀x∈s,cO x)→(aU room t).2.length≤t.all.length+20*t.size:=by
 intro t
 induction t with
 |leaf ts=>
  intro h;have:=oz h1 h2 ts (Ty.zero room,[]) (lV h1 h2) rfl (h ts (.head _));show(bP room ts).2.length≤ts.length+20*1;have e:(Ty.zero room,([]:List Bn)).2.length=0:=rfl;unfold bP;omega
 |node l r hl hr=>
  intro h;have hL:∀s∈l.streams,∀x∈s,cO x:=fun s hs=>h s (Bh _ hs);have hR:∀s∈r.streams,∀x∈s,cO x:=fun s hs=>h s (Ao _ hs);have a:=hl hL;have b:=hr hR;have ga:=hJ h1 h2 hL;have gb:=hJ h1 h2 hR;have c:=jo ga.1 gb.1;have k:=lJ (aU room l).1.cs (aU room r).1.cs;have l1:=ga.1.len;have l2:=gb.1.len;have r1:=ga.2;have r2:=gb.2;show((aU room l).2++(aU room r).2++aN (aU room l).1 (aU room r).1).length≤(l.all++r.all).length+20*(l.size+r.size+1);rw[ba,ba,ba];omega
theorem Shw.one(room:Int)(t:Th):Shw [t] (thT room t) []:=by
 refine⟨fun z=>?_,rfl,rfl,?_⟩
 ·unfold bq thT look;by_cases e:t.word=z
  ·rw[As,Ah (zy e)];simp[aV,e]
  ·rw[List.filter_cons,if_neg (by simpa using e)];simp[aV,e];rfl
 ·show t.many+0=t.many;omega
theorem rf{room:Int}(h1:1≤room)(h2:room≤20):∀(us ts:List Th)(p:TyP),TyN p.1→p.1.room=room→(∀t∈us,cO t)→Shw ts p.1 p.2→Shw (ts++us) (us.foldl (cS room) p).1 (us.foldl (cS room) p).2:=by
 intro us
 induction us with
 |nil=>intro ts p _ _ _ h;rw[AN];exact h
 |cons t us ih=>
  intro ts p ok rm hw h;have ok2:=(xI h1 h2 (hw t (.head _))).1;have m:=Shw.merge ok ok2 rm h (Shw.one room t);rw[AN]at m;have:=ih (ts++[t]) (cS room p t) (ok.merge ok2 rm) rm (fun x hx=>hw x (.tail _ hx)) m;rw[Bp]at this;exact this
theorem rj{room:Int}(h1:1≤room)(h2:room≤20):∀{t:Tr},(∀s∈t.streams,∀x∈s,cO x)→Shw t.all (aU room t).1 (aU room t).2:=by
 intro t
 induction t with
 |leaf ts=>exact fun h=>rf h1 h2 ts [] (Ty.zero room,[]) (lV h1 h2) rfl (h ts (.head _)) (Shw.zero room)
 |node l r hl hr=>
  intro h;have hL:∀s∈l.streams,∀x∈s,cO x:=fun s hs=>h s (Bh _ hs);have hR:∀s∈r.streams,∀x∈s,cO x:=fun s hs=>h s (Ao _ hs);have ga:=hJ h1 h2 hL;have gb:=hJ h1 h2 hR;exact Shw.merge ga.1 gb.1 (ga.2.trans gb.2.symm) (hl hL) (hr hR)
abbrev bmV:List Value:=[.type "ValueError",.type "Exception",.type "BaseException",.type "object"]
structure Sized(t:Ty)(top bot:Int):Prop where
 nd:(t.cs.map (·.1)).Nodup
 len:t.cs.length≤50
 cs:∀p∈t.cs,1≤p.2∧p.2≤1000000000000000000000000000000
 lt:0≤t.lt∧t.lt≤1000000000000000000000000000000
 tot:0≤t.total∧t.total≤1000000000000000000000000000000
 top:-1000000000000000000000000000000000000000000000000000000000000<top∧top<1000000000000000000000000000000000000000000000000000000000000
 bot:-1000000000000000000000000000000000000000000000000000000000000<bot∧bot<1000000000000000000000000000000000000000000000000000000000000
def jY(t:Ty)(top bot:Int)(p:Str×Int):Bool:=decide (top*t.total<p.2*bot)
def j6(t:Ty)(top bot:Int)(p:Str×Int):Bool:=decide (p.2*bot≤top*t.total) && decide (top*t.total<(p.2+t.lt)*bot)
def kE(t:Ty)(top bot:Int):List Str:=(t.cs.filter (jY t top bot)).map (·.1)
def fj(t:Ty)(top bot:Int):List Str:=(t.cs.filter (j6 t top bot)).map (·.1)
def vN:Sp:=fun vs H Q _=>∃(r:Addr)(t:Ty)(top bot:Int),vs=[.ref r,.int top,.int bot]∧DV H (.ref r) t.D∧Sized t top bot∧0≤top∧top<bot∧t.lt*bot≤top*t.total∧
 ∀(p l1 l2:Addr) H',Same H H'→H l1=none→H l2=none→l1≠l2→H' p=some (.tup [.ref l1,.ref l2])→H' l1=some (.lst ((kE t top bot).map V.str))→H' l2=some (.lst ((fj t top bot).map V.str))→Q (.ref p) H'
def wc(C:Addr):Sp:=fun vs H _ E=>∃(r:Addr)(t:Ty)(top bot:Int),vs=[.ref r,.int top,.int bot]∧DV H (.ref r) t.D∧Sized t top bot∧0≤top∧top<bot∧top*t.total<t.lt*bot∧E (.ref C) none H
theorem sz{t:Ty}{top bot:Int}(h:Sized t top bot):CMulB top t.total∧CMulB t.lt bot∧∀p∈t.cs,CMulB p.2 bot∧CMulB (p.2+t.lt) bot:=by
 have e:big=1000000000000000000000000000000000000000000000000000000000000000000000000000000:=rfl;obtain⟨_,_,cs,⟨l0,l1⟩,⟨t0,t1⟩,⟨p0,p1⟩,⟨b0,b1⟩⟩:=h;unfold CMulB;rw[e];refine⟨⟨⟨by omega,by omega⟩,by omega,by omega⟩,⟨⟨by omega,by omega⟩,by omega,by omega⟩,fun p hp=>?_⟩;have:=cs p hp;exact⟨⟨⟨by omega,by omega⟩,by omega,by omega⟩,⟨by omega,by omega⟩,by omega,by omega⟩
section
variable{P:Program}{w:World}{K:W.Frag}{mg:Str→Option Value}{base:Heap}{f:Addr}{fd:FuncData}{C:Addr}
theorem yi(F:Fun K "frequent" "frequent" cJ f fd):FnOk P w K mg base CX0 1 f fd ["tally","top","bottom"] vN:=by
 refine F.ok Zy (fun vs H Q E h=>?_) (fun cdv A outer s H vs Q E hr h=>?_)
 ·obtain⟨r,t,top,bot,rfl,_⟩:=h;rfl
 obtain⟨r,t,top,bot,rfl,hd,si,t0,t1,le,hq⟩:=h;refine⟨_,(Z2 (X5 (pv 0) (Ys rfl (Z8 (Z7 (i:=3) Zy.nd rfl (Or.inl rfl)) (Z8 (Z7 (i:=4) Zy.nd rfl (Or.inl rfl)) (Z8 (Z7 (i:=5) Zy.nd rfl (Or.inr rfl)) (Z8 (Z7 (i:=6) Zy.nd rfl (Or.inl rfl)) Zt))))))
 (Z2 (Y7 (PW.pt (V8 (Zn Oz (pv 1) Z4 (Zl _)) (W5 (Zn N1 (pv 1) (pv 2) (Zl _))))) (Z6 Sd) Zq)
 (Z2 (@Vf _ _ 7 _ _ _ _ Zy.nd rfl (Or.inr rfl) (Ze Vv (pv 1) (pv 6)) (by rfl) (by first | exact .inl rfl | exact .inr rfl))
 (Z2 (Y7 (Zn U7 (Ze Vv (pv 5) (pv 2)) (pv 7) (Zl _)) (Z6 Sd) Zq)
 (Z2 (Ut (i:=8) Zy.nd rfl rfl (own:=["mark","count"]) (Xz rfl rfl) (Wg (pv 4))
  (fun _ _ _ _ _=>(Xa K 2 rfl rfl (Z8 (Z7 (i:=0) Vc rfl (Or.inl rfl) (Or.inr rfl)) (Z8 (Z7 (i:=1) Vc rfl (Or.inl rfl) (Or.inr rfl)) Zt)))) (fun _ _ _ _ _=>(Wj (Zn U7 (Ze Vv (pv 1) (pv 4)) (pv 9) (Zl _))))
  (fun _ _ _ _ _=>(pv 0)))
 (Z2 (Ut (i:=9) Zy.nd rfl rfl (own:=["mark","count"]) (Xz rfl rfl) (Wg (pv 4))
  (fun _ _ _ _ _=>(Xa K 2 rfl rfl (Z8 (Z7 (i:=0) Vb rfl (Or.inl rfl) (Or.inr rfl)) (Z8 (Z7 (i:=1) Vb rfl (Or.inl rfl) (Or.inr rfl)) Zt)))) (fun _ _ _ _ _=>(Wj (PW.pt (xp (Zn mK (Ze Vv (pv 1) (pv 4)) (pv 9) (Zl _)) (tX (Zn U7 (Ze Vv (Ze Y4 (pv 1) (pv 7)) (pv 4)) (pv 9) (Zl _)))))))
  (fun _ _ _ _ _=>(pv 0)))
 (Z6 (Zb (Zu (Z0 (pv 8) (Z0 (pv 9) Z1))))))))))),?_⟩
 obtain⟨m1,m2,m3⟩:=sz si;obtain⟨_,b,rows,e0,ea,eb,pa⟩:=DV.ty_inv hd;cases e0;have gg:Same H H:=fun _ _ h=>h;refine⟨_,rfl,r,_,rfl,SqT.of ea,rfl,_,_,rfl,_,_,rfl,_,_,rfl,_,_,rfl,rfl,?_⟩;refine⟨_,rfl,_,_,rfl,rfl,_,rfl,?_⟩;rw[Ag (by omega)];refine Ym ⟨_,rfl,_,rfl,_,_,rfl,rfl,_,rfl,?_⟩;rw[Ag (by omega)];refine Ym ?_;refine⟨_,rfl,_,rfl,_,_,rfl,rfl,m1,?_⟩;refine⟨_,rfl,_,rfl,_,_,rfl,rfl,m2,_,rfl,_,_,rfl,rfl,_,rfl,?_⟩;rw[Ag (by omega)];refine Ym ?_;have ln:=si.len;refine⟨_,rfl,b,rfl,⟨_,SqT.of eb⟩,V3 (jY t top bot) (fun p=>.str p.1) eb pa (by omega) (fun p c ys C hp ec y n=>?_) ?_⟩
 ·refine⟨c,_,rfl,SqT.of ec,rfl,_,_,rfl,_,_,rfl,rfl,Wk.refl _,_,rfl,_,rfl,_,_,rfl,rfl,(m3 p hp).1,_,rfl,_,_,rfl,rfl,_,rfl,?_⟩;exact Wn (fun hc=>⟨_,rfl,y hc⟩) fun hc=>n (AO.mpr hc)
 intro q1 oI;generalize hz:upd _ q1 _=H1;revert H1;refine blk ?_;intro H1 hz;have gz:=Zc hz oI;have cX:=Zj hz;clear hz;have gg:=gg.trans gz;have g1:=gz;have e1:=cX;have eb:=gz _ _ eb;have pa:=pa.mono gz;refine⟨_,rfl,b,rfl,⟨_,SqT.of eb⟩,V3 (j6 t top bot) (fun p=>.str p.1) eb pa (by omega) (fun p c ys C hp ec y n=>?_) ?_⟩
 ·refine⟨c,_,rfl,SqT.of ec,rfl,_,_,rfl,_,_,rfl,rfl,Wk.refl _,_,rfl,_,rfl,_,_,rfl,rfl,(m3 p hp).1,_,rfl,_,_,rfl,rfl,_,rfl,?_⟩;refine Wn (fun hc=>?_) fun hc=>?_
  ·refine⟨_,rfl,_,rfl,_,_,rfl,rfl,_,rfl,_,_,rfl,rfl,(m3 p hp).2,_,rfl,_,_,rfl,rfl,_,rfl,?_⟩;exact Wn (fun hd=>⟨_,rfl,y (by show(_ && _)=true;rw[hc,hd];rfl)⟩) fun hd=>n (by show(_ && _)=false;rw[AO.mpr hd,CS])
  ·exact Ym (n (by show(_ && _)=false;rw[AO.mpr hc,BC]))
 intro q2 qV;generalize hz:upd _ q2 _=H2;revert H2;refine blk ?_;intro H2 hz;have gz:=Zc hz qV;have pB:=Zj hz;clear hz;have gg:=gg.trans gz;have cX:=gz _ _ cX;refine⟨_,rfl,_,rfl,leN rfl,?_⟩;intro p n_p;generalize hz:upd _ p _=H3;revert H3;refine blk ?_;intro H3 hz;have gz:=Zc hz n_p;have C4:=Zj hz;clear hz;have gg:=gg.trans gz;have cX:=gz _ _ cX;have pB:=gz _ _ pB;have f1:(t.cs.filter (jY t top bot)).map (fun p=>V.str p.1)=(kE t top bot).map V.str:=by unfold kE;rw[AB];rfl
 have f2:(t.cs.filter (j6 t top bot)).map (fun p=>V.str p.1)=(fj t top bot).map V.str:=by unfold fj;rw[AB];rfl
 rw[f1]at cX;rw[f2]at pB;exact hq p q1 q2 _ gg oI (Same.free g1 qV) (Zf e1 qV) C4 cX pB
theorem tL(O_TooCoarse:PyProof.Rows.OwnCls "TooCoarse" C bmV "ValueError.__new__" mg base)(F:Fun K "frequent" "frequent" cJ f fd):FnOk P w K mg base (CX1 P w) 1 f fd ["tally","top","bottom"] (wc C):=by
 refine F.okX Zy (fun vs H Q E h=>?_) (fun cdv A outer s H vs Q E hr h=>?_)
 ·obtain⟨r,t,top,bot,rfl,_⟩:=h;rfl
 obtain⟨r,t,top,bot,rfl,hd,si,t0,t1,lt,hE⟩:=h;refine⟨_,(Z2 (X5 (pv 0) (Ys rfl (Z8 (Z7 (i:=3) Zy.nd rfl (Or.inl rfl)) (Z8 (Z7 (i:=4) Zy.nd rfl (Or.inl rfl)) (Z8 (Z7 (i:=5) Zy.nd rfl (Or.inr rfl)) (Z8 (Z7 (i:=6) Zy.nd rfl (Or.inl rfl)) Zt))))))
 (Z2 (Y7 (PW.pt (V8 (Zn Oz (pv 1) Z4 (Zl _)) (W5 (Zn N1 (pv 1) (pv 2) (Zl _))))) (Z6 Sd) Zq)
 (Z2 (@Vf _ _ 7 _ _ _ _ Zy.nd rfl (Or.inr rfl) (Ze Vv (pv 1) (pv 6)) (by rfl) (by first | exact .inl rfl | exact .inr rfl))
 (Z2 (Y7 (Zn U7 (Ze Vv (pv 5) (pv 2)) (pv 7) (Zl _)) (Z6 (qD O_TooCoarse PySem.F.excBase_ValueError (Z0 Xn Z1))) Zq)
 pM)))),?_⟩
 obtain⟨m1,m2,m3⟩:=sz si;obtain⟨_,b,rows,e0,ea,eb,pa⟩:=DV.ty_inv hd;cases e0;refine⟨_,rfl,r,_,rfl,SqT.of ea,rfl,_,_,rfl,_,_,rfl,_,_,rfl,_,_,rfl,rfl,?_⟩;refine⟨_,rfl,_,_,rfl,rfl,_,rfl,?_⟩;rw[Ag (by omega)];refine Ym ⟨_,rfl,_,rfl,_,_,rfl,rfl,_,rfl,?_⟩;rw[Ag (by omega)];refine Ym ?_;refine⟨_,rfl,_,rfl,_,_,rfl,rfl,m1,?_⟩;refine⟨_,rfl,_,rfl,_,_,rfl,rfl,m2,_,rfl,_,_,rfl,rfl,_,rfl,?_⟩;rw[zy (by omega)];exact Xf ⟨leN rfl,hE⟩
end
def Fnd(t:Ty)(top bot:Int)(v:V)(H:Hp):Prop:=(t.lt*bot≤top*t.total∧∃p l1 l2:Addr,v=.ref p∧H p=some (.tup [.ref l1,.ref l2])∧H l1=some (.lst ((kE t top bot).map V.str))∧H l2=some (.lst ((fj t top bot).map V.str)))∨(top*t.total<t.lt*bot∧v=.non)
theorem Fnd.mono{t:Ty}{top bot:Int}{v:V}{H H':Hp}(h:Fnd t top bot v H)(g:Same H H'):Fnd t top bot v H':=h.elim (fun⟨c,p,l1,l2,e,a,b,d⟩=>.inl ⟨c,p,l1,l2,e,g _ _ a,g _ _ b,g _ _ d⟩) .inr
def qB:Sp:=fun vs H Q _=>∃(r:Addr)(t:Ty)(top bot:Int),vs=[.ref r,.int top,.int bot]∧DV H (.ref r) t.D∧Sized t top bot∧0≤top∧top<bot∧∀(v:V) H',Same H H'→Fnd t top bot v H'→Q v H'
def spFT(C:Addr):Sp:=fun vs H Q E=>vN vs H Q E∨wc C vs H Q E
section
variable{P:Program}{w:World}{K:W.Frag}{mg:Str→Option Value}{base:Heap}{f:Addr}{fd:FuncData}{C:Addr}
theorem tN(jh:HasX P w K mg base "frequent" 1 ["tally","top","bottom"] (spFT C))(m_TooCoarse:mg "TooCoarse"=some (.ref C))(xm:W.exmOne K (.ref C) (.ref C)=some true)(F:Fun K "_law_told" "_law_told" fo f fd):FnOk P w K mg base CX0 2 f fd ["_law_tally","_law_top","_law_bottom"] qB:=by
 refine F.ok Ur (fun vs H Q E h=>?_) (fun cdv A outer s H vs Q E hr h=>?_)
 ·obtain⟨r,t,top,bot,rfl,_⟩:=h;rfl
 obtain⟨r,t,top,bot,rfl,hd,si,t0,t1,hq⟩:=h;refine⟨_,(Z2 (Zz 3 Ur.nd rfl (Or.inl rfl) Tu)
 (Z2 (t8 (i:=3) (fun _ _ z=>z) rfl rfl jh hr (Z0 (pv 0) (Z0 (pv 1) (Z0 (pv 2) Z1))) Ur.nd rfl rfl m_TooCoarse (fun _ _=>(Z6 (Zz 3 Ur.nd rfl (Or.inl rfl) Tu))))
 (Z6 (Zb (pv 3))))),?_⟩
 refine⟨_,rfl,_,rfl,_,rfl,?_⟩;by_cases c:t.lt*bot≤top*t.total
 ·exact .inl ⟨r,t,top,bot,rfl,hd,si,t0,t1,c,fun p l1 l2 H' g _ _ _ e1 e2 e3=>⟨_,rfl,hq _ H' g (.inl ⟨c,p,l1,l2,rfl,e1,e2,e3⟩)⟩⟩
 ·refine .inr ⟨r,t,top,bot,rfl,hd,si,t0,t1,by omega,C,rfl,xm,fun a na=>?_⟩;exact⟨_,rfl,hq _ _ (Z9 na _) (.inr ⟨by omega,rfl⟩)⟩
end
def v4:Sp:=fun vs H Q _=>∃(r s:Addr)(ts:List Th)(z:Str)(top bot:Int),vs=[.ref r,.str z,.ref s]∧DV H (.ref r) (bG ts)∧ts.length≤1000∧H s=some (.tup [.int top,.int bot])∧CMul (tms z ts) bot∧CMul top (ts.map Th.many).sum∧∀H',Same H H'→Q (.bl (decide (tms z ts*bot > top*(ts.map Th.many).sum))) H'
theorem xj(bF:Has P w K mg base "times_of" 1 ["stream","mark"] mQ)(c8:Has P w K mg base "things_in" 1 ["stream"] rH)(F:Fun K "_law_is_above" "_law_is_above" cK f fd):FnOk P w K mg base CX0 2 f fd ["_law_stream_here","_law_mark","_law_share"] v4:=by
 refine F.ok O7 (fun vs H Q E h=>?_) (fun cdv A outer s H vs Q E hr h=>?_)
 ·obtain⟨r,s,ts,z,top,bot,rfl,_⟩:=h;rfl
 obtain⟨r,s',ts,z,top,bot,rfl,dv,tl,e_s,m1,m2,hq⟩:=h;refine⟨_,(Z6 (Zb (Xi U7 (Ze Wh (Z3 bF hr (Z0 (pv 0) (Z0 (pv 1) Z1))) (Y0 Zv (pv 2) Z4)) (Ze Wh (Y0 Zv (pv 2) Z4) (Z3 c8 hr (Z0 (pv 0) Z1))) (Zl _)))),?_⟩;refine⟨_,rfl,_,rfl,r,ts,z,rfl,dv,tl,fun H1 g1=>?_⟩;refine⟨_,rfl,s',_,1,_,rfl,rfl,SqT.of (g1 _ _ e_s),rfl,_,_,rfl,rfl,m1,_,rfl,s',_,0,_,rfl,rfl,SqT.of (g1 _ _ e_s),rfl,_,rfl,r,ts,rfl,dv.mono g1,tl,fun H2 g2=>?_⟩;exact⟨_,_,rfl,rfl,m2,_,_,rfl,rfl,hq _ (g1.trans g2)⟩
theorem Pf{ps:Ps}(nd:(ps.map (·.1)).Nodup){p:Str×Int}(h:p∈ps):look ps p.1=p.2:=by
 induction ps with
 |nil=>exact nomatch h
 |cons q ps ih=>
  rw[AA,AC]at nd;show(if q.1=p.1 then q.2 else look ps p.1)=p.2
  rcases Ae.mp h with e | m
  ·rw[e,Ah rfl]
  ·rw[Aj (show ¬q.1=p.1 from fun z=>nd.1 (Ab.mpr ⟨p,m,z.symm⟩))];exact ih nd.2 m
section
variable{t:Ty}{top bot:Int}{z:Str}(nd:(t.cs.map (·.1)).Nodup)(b0:0<bot)(l0:0≤t.lt)
include nd b0 l0
theorem uD(h:z∈kE t top bot):top*t.total<look t.cs z*bot:=by
 obtain⟨p,hp,rfl⟩:=Ab.mp h;obtain⟨h1,h2⟩:=AH.mp hp;rw[Pf nd h1];exact bb h2
theorem u9(h:z∈fj t top bot):look t.cs z*bot≤top*t.total∧top*t.total<(look t.cs z+t.lt)*bot:=by
 obtain⟨p,hp,rfl⟩:=Ab.mp h;obtain⟨h1,h2⟩:=AH.mp hp;rw[Pf nd h1];obtain⟨a,b⟩:=Ay.mp h2;exact⟨bb a,bb b⟩
theorem ux(c:t.lt*bot≤top*t.total)(h1:z∉kE t top bot)(h2:z∉fj t top bot):(look t.cs z+t.lt)*bot≤top*t.total:=by
 by_cases k:z∈t.cs.map (·.1)
 ·obtain⟨p,hp,rfl⟩:=Ab.mp k;rw[Pf nd hp];have a:¬top*t.total<p.2*bot:=fun q=>h1 (Ab.mpr ⟨p,AH.mpr ⟨hp,zy q⟩,rfl⟩);have b:¬top*t.total<(p.2+t.lt)*bot:=fun q=>h2 (Ab.mpr ⟨p,AH.mpr ⟨hp,Ay.mpr ⟨zy (by omega),zy q⟩⟩,rfl⟩);omega
 ·rw[Zm k,BP];exact c
end
theorem mU{z:Str}{ks:List Str}(h:z∈ks):inV (.str z) (ks.map V.str)=true:=by
 unfold inV;rw[List.any_map];exact List.any_eq_true.mpr ⟨z,h,by show(z==z)=true;simp⟩
theorem Nf(ks:List Str):(ks.map V.str).all dS=true:=by
 rw[List.all_map];exact A3.mpr fun _ _=>rfl
theorem P4{z:Str}{ks:List Str}(h:z∉ks):inV (.str z) (ks.map V.str)=false:=by
 unfold inV;rw[List.any_map];refine List.any_eq_false.mpr fun u hu c=>h ?_;have c:(u==z)=true:=c;rw[←eq_of_beq c];exact hu
theorem f_{H:Hp}{u:Addr}{b c:Bool}(e:H u=some (.tup [.bl b,.bl c])):DV H (.ref u) (.tuple [.bool b,.bool c]):=.tup e (.cons (.bl _) (.cons (.bl _) .nil))
theorem fY(b c:Bool):SeqAt.shaped (.tuple [.bool b,.bool c])=true:=by cases b <;> cases c <;> decide +kernel
theorem sM(b c:Bool):PyData.eqv (.tuple [.bool b,.bool c]) (.tuple [.bool b,.bool c])=true:=by cases b <;> cases c <;> decide +kernel
structure Shr(t:Ty)(z:Str)(us s1 s2:List Th)(top bot:Int):Prop where
 si:Sized t top bot
 t0:0≤top
 t1:top<bot
 tb:bot<18446744073709551616
 l0:us.length≤1000
 l1:s1.length≤1000
 l2:s2.length≤1000
 n0:(us.map Th.many).sum=t.total
 n1:(s1.map Th.many).sum=t.total
 n2:(s2.map Th.many).sum=t.total
 k0:0≤look t.cs z
 a0:look t.cs z≤tms z us
 b0:tms z us≤look t.cs z+t.lt
 a1:tms z s1=look t.cs z
 a2:tms z s2=look t.cs z+t.lt
def vW:Sp:=fun vs H Q _=>∃(r o l q x1 x2:Addr)(t:Ty)(z:Str)(us s1 s2:List Th)(top bot:Int),vs=[.ref r,.ref o,.ref l,.str z,.ref q]∧DV H (.ref r) t.D∧DV H (.ref o) (bG us)∧H l=some (.lst [.ref x1,.ref x2])∧DV H (.ref x1) (bG s1)∧DV H (.ref x2) (bG s2)∧H q=some (.tup [.int top,.int bot])∧Shr t z us s1 s2 top bot∧∀H',Same H H'→Q (.bl true) H'
theorem xQ(qr:Has P w K mg base "_law_told" 2 ["_law_tally","_law_top","_law_bottom"] qB)(bQ:Has P w K mg base "_law_is_above" 2 ["_law_stream_here","_law_mark","_law_share"] v4)(F:Fun K "_law_share_right" "_law_share_right" bK f fd):FnOk P w K mg base CX0 3 f fd ["_law_tally","_law_own","_law_streams","_law_mark","_law_share"] vW:=by
 refine F.ok W4 (fun vs H Q E h=>?_) (fun cdv A outer s H vs Q E hr h=>?_)
 ·obtain⟨r,o,l,q,x1,x2,t,z,us,s1,s2,top,bot,rfl,_⟩:=h;rfl
 obtain⟨r,o,l,q,x1,x2,t,z,us,s1,s2,top,bot,rfl,k_r,k_o,C7,k_1,k_2,Da,sh,hq⟩:=h;obtain⟨si,t0,t1,tb,l0,l1,l2,n0,n1,n2,k0,a0,b0,a1,a2⟩:=sh;have bp:0<bot:=by omega
 have lt0:=si.lt.1;have cb:∀i,CMul i bot:=fun i=>.inr ⟨by omega,by omega⟩;have ct:∀i,CMul top i:=fun i=>.inl ⟨by omega,by omega⟩;have lb:=BX lt0 (Int.le_of_lt bp);have kb:=BX k0 (Int.le_of_lt bp);have ad:=CY (look t.cs z) t.lt bot;have m0:=Int.mul_le_mul_of_nonneg_right a0 (Int.le_of_lt bp);have m1:=Int.mul_le_mul_of_nonneg_right b0 (Int.le_of_lt bp);refine⟨_,(Z2 (Zz 5 W4.nd rfl (Or.inl rfl) (Z3 qr hr (Z0 (pv 0) (Z0 (Y0 Zv (pv 4) Z4) (Z0 (Y0 Zv (pv 4) Z4) Z1)))))
 (Z2 (Zz 6 W4.nd rfl (Or.inl rfl) (Zu (Z0 (Z3 bQ hr (Z0 (Y0 Xj (pv 2) Z4) (Z0 (pv 3) (Z0 (pv 4) Z1)))) (Z0 (Z3 bQ hr (Z0 (Y0 Xj (pv 2) Z4) (Z0 (pv 3) (Z0 (pv 4) Z1)))) Z1))))
 (Z2 (Y7 (Zn kt (pv 5) Tu (Zl _)) (Z6 (Zb (Y0 Zv (pv 6) Z4))) Zq)
 (Z2 (Y7 (Zn N0 (pv 3) (Y0 Zv (pv 5) Z4) (by with_unfolding_all rfl)) (Z6 (Zb (V0 (Xi (lB hr.units) (pv 6) (Zu (Z0 X6 (Z0 X6 Z1))) (Zl _)) (Vu (Z3 bQ hr (Z0 (pv 1) (Z0 (pv 3) (Z0 (pv 4) Z1)))))))) Zq)
 (Z2 (Y7 (Zn N0 (pv 3) (Y0 Zv (pv 5) Z4) (by with_unfolding_all rfl)) (Z6 (Zb (Xi (lB hr.units) (pv 6) (Zu (Z0 X6 (Z0 X6 Z1))) (Zl _)))) Zq)
 (Z6 (Zb (V0 (Xi (lB hr.units) (pv 6) (Zu (Z0 X6 (Z0 X6 Z1))) (Zl _)) (Vu (sK (Z3 bQ hr (Z0 (pv 1) (Z0 (pv 3) (Z0 (pv 4) Z1)))))))))))))),?_⟩
 have gg:Same H H:=Same.refl _;refine⟨_,rfl,_,rfl,q,_,0,_,rfl,rfl,SqT.of Da,rfl,_,rfl,q,_,1,_,rfl,rfl,SqT.of Da,rfl,r,t,top,bot,rfl,k_r,si,t0,t1,fun v H1 g1 k_f=>?_⟩;have gg:=gg.trans g1;have k_o:=k_o.mono g1;have k_1:=k_1.mono g1;have k_2:=k_2.mono g1;have C7:=g1 _ _ C7;have Da:=g1 _ _ Da;refine⟨_,rfl,l,_,0,_,rfl,rfl,SqL.of C7,rfl,_,rfl,_,rfl,x1,q,s1,z,top,bot,rfl,k_1,l1,Da,cb _,ct _,fun H2 g2=>?_⟩;have gg:=gg.trans g2;have k_o:=k_o.mono g2;have k_2:=k_2.mono g2;have k_f:=k_f.mono g2;have C7:=g2 _ _ C7;have Da:=g2 _ _ Da;refine⟨_,rfl,l,_,1,_,rfl,rfl,SqL.of C7,rfl,_,rfl,_,rfl,x2,q,s2,z,top,bot,rfl,k_2,l2,Da,cb _,ct _,fun H3 g3=>?_⟩;have gg:=gg.trans g3;have k_o:=k_o.mono g3;have k_f:=k_f.mono g3;have Da:=g3 _ _ Da;rw[n1,a1,n2,a2];refine⟨leN rfl,?_⟩;intro b n_b;generalize hz:upd _ b _=H4;revert H4;refine blk ?_;intro H4 hz;have gz:=Zc hz n_b;have C3:=Zj hz;clear hz;have gg:=gg.trans gz;have k_o:=k_o.mono gz;have k_f:=k_f.mono gz;have Da:=gz _ _ Da
 rcases k_f with⟨c,p,f1,f2,rfl,C4,e_1,e_2⟩|⟨c,rfl⟩
 ·refine⟨_,rfl,rfl,_,rfl,?_⟩;rw[Ag (fun z=>nomatch z)];refine Ym ?_;refine⟨_,rfl,_,rfl,p,_,0,_,rfl,rfl,SqT.of C4,rfl,f1,_,rfl,.inl (SqL.of e_1),rfl,Nf _,_,rfl,?_⟩;by_cases hz:z∈kE t top bot
  ·have ab:=uD si.nd bp lt0 hz;rw[zy (show look t.cs z*bot > top*t.total from ab),zy (show(look t.cs z+t.lt)*bot > top*t.total by omega)]at C3;rw[Aj (by decide),mU hz];refine Xf ⟨_,rfl,leN rfl,?_⟩;intro u n_u;generalize hz:upd _ u _=H5;revert H5;refine blk ?_;intro H5 hz;have gz:=Zc hz n_u;have e_u:=Zj hz;clear hz;have gg:=gg.trans gz;have k_o:=k_o.mono gz;have Da:=gz _ _ Da;have C3:=gz _ _ C3;refine⟨_,_,f_ C3,f_ e_u,fY _ _,fY _ _,_,rfl,?_⟩;rw[sM];refine Xf ⟨_,rfl,_,rfl,_,rfl,o,q,us,z,top,bot,rfl,k_o,l0,Da,cb _,ct _,fun H6 g6=>?_⟩;rw[n0,zy (show tms z us*bot > top*t.total by omega)];exact hq _ (gg.trans g6)
  rw[Aj (by decide),P4 hz];refine Ym ⟨_,rfl,_,rfl,p,_,1,_,rfl,rfl,SqT.of C4,rfl,f2,_,rfl,.inl (SqL.of e_2),rfl,Nf _,_,rfl,?_⟩;by_cases ho:z∈fj t top bot
  ·have ab:=u9 si.nd bp lt0 ho;rw[Ag (show ¬look t.cs z*bot > top*t.total by omega),zy (show(look t.cs z+t.lt)*bot > top*t.total by omega)]at C3;rw[Aj (by decide),mU ho];refine Xf ⟨_,rfl,leN rfl,?_⟩;intro u n_u;generalize hz:upd _ u _=H5;revert H5;refine blk ?_;intro H5 hz;have gz:=Zc hz n_u;have e_u:=Zj hz;clear hz;have gg:=gg.trans gz;have C3:=gz _ _ C3;refine⟨_,_,f_ C3,f_ e_u,fY _ _,fY _ _,?_⟩;rw[sM];exact hq _ gg
  have ab:=ux si.nd bp lt0 c hz ho;rw[Ag (show ¬look t.cs z*bot > top*t.total by omega),Ag (show ¬(look t.cs z+t.lt)*bot > top*t.total by omega)]at C3;rw[Aj (by decide),P4 ho];refine Ym ⟨_,rfl,leN rfl,?_⟩;intro u n_u;generalize hz:upd _ u _=H5;revert H5;refine blk ?_;intro H5 hz;have gz:=Zc hz n_u;have e_u:=Zj hz;clear hz;have gg:=gg.trans gz;have k_o:=k_o.mono gz;have Da:=gz _ _ Da;have C3:=gz _ _ C3;refine⟨_,_,f_ C3,f_ e_u,fY _ _,fY _ _,_,rfl,?_⟩;rw[sM];refine Xf ⟨_,rfl,_,rfl,_,rfl,o,q,us,z,top,bot,rfl,k_o,l0,Da,cb _,ct _,fun H6 g6=>?_⟩;rw[n0,Ag (show ¬tms z us*bot > top*t.total by omega)];exact⟨_,rfl,hq _ (gg.trans g6)⟩
 ·refine⟨_,rfl,rfl,_,rfl,Xf ?_⟩;rw[zy (show(look t.cs z+t.lt)*bot > top*t.total by omega)]at C3;exact⟨_,rfl,b,_,1,_,rfl,rfl,SqT.of C3,rfl,hq _ gg⟩
theorem vc(t:Tr):t.size+1=2*Tr.leaves t:=by
 induction t with
 |leaf ts=>rfl
 |node l r il ir=>
  show l.size+r.size+1+1=2*(Tr.leaves l+Tr.leaves r);omega
theorem uZ{room:Int}{z:Str}{b:Bn}:∀{bs:List Bn},dZ room bs=true→b∈bs→z∈b.1→1≤aV z bs:=by
 intro bs
 induction bs with
 |nil=>exact fun _ h=>nomatch h
 |cons c cs ih=>
  intro h m hz;obtain⟨h1,h2⟩:=Ay.mp (show(bnB room c && dZ room cs)=true from h);have a:=(U6 z h2).1;have c1:1≤c.2:=bb (Ay.mp (Ay.mp h1).2).2;show 1≤c.2*(c.1.count z:Int)+aV z cs
  rcases Ae.mp m with e | m
  ·rw[e]at hz;have k:=List.count_pos_iff.mpr hz;have:=Int.mul_le_mul c1 (show(1:Int)≤(c.1.count z:Int) by omega) (by decide) (by omega);omega
  ·have:=ih h2 m hz;have:=BX (show 0≤c.2 by omega) (Int.natCast_nonneg (c.1.count z));omega
theorem vB{z:Str}{ts:List Th}(h:z∉ts.map Th.word):bq z ts=0:=by
 unfold bq;rw[List.filter_eq_nil_iff.mpr fun x hx c=>h (Ab.mpr ⟨x,hx,bb c⟩)];rfl
theorem yG{ts:List Th}{t:Ty}{bs:List Bn}(h:Shw ts t bs)(tn:TyN t)(hw:∀x∈ts,cO x)(hl:ts.length≤100):∀b∈bs,BnV b:=fun b hb=>by
 obtain⟨h1,h2⟩:=Ay.mp (A3.mp h.pap b hb);obtain⟨h2,_⟩:=Ay.mp h2;have h2:=bb h2;have r0:=tn.room1;have mem:∀z∈b.1,z∈ts.map Th.word:=fun z hz=>Classical.byContradiction fun n=>by
  have e:=h.at_ z;have p:=uZ h.pap hb hz;have k:=Xx tn.nice.pos z;rw[vB n]at e;omega
 refine⟨fun z hz=>?_,by omega,?_⟩
 ·obtain⟨x,hx,rfl⟩:=Ab.mp (mem z hz);exact(hw x hx).1
 ·have:=vV (sg h1) mem;rw[ae]at this;omega
structure Own(t:Ty)(u:Tr):Prop where
 gw:∀x∈u.all,cO x
 gr:aQ t.room u=t
 ht:u.ht≤50
 sz:u.size≤30
 ln:u.all.length≤100
section
variable{t:Ty}{u:Tr}(tn:TyN t)(h:Own t u)
include tn h
theorem qM:∀s∈u.streams,∀x∈s,cO x:=fun s hs x hx=>h.gw x (by rw[Tr.all_eq];exact List.mem_flatten.mpr ⟨s,hs,hx⟩)
theorem Uy:Shw u.all t (aU t.room u).2:=by
 have:=rj tn.room1 tn.room2 (qM tn h);rw[rk,h.gr]at this;exact this
theorem Ox:eC u.all t (aU t.room u).2=true:=(Uy tn h).shown tn.nd tn.pos fun x hx=>(h.gw x hx).2
theorem uT(z:Str):look t.cs z≤tms z u.all∧tms z u.all≤look t.cs z+t.lt:=(iA tn.nd (Ox tn h)).1 z
theorem uE:(aU t.room u).2.length≤3000:=by
 have a:=q9 tn.room1 tn.room2 (qM tn h);have b:=h.sz;have c:=h.ln;omega
end
theorem xB{t:Tr}:TrG t→∀x∈t.all,cO x:=by
 induction t with
 |leaf ts=>exact fun h x hx=>⟨(h x hx).good,(h x hx).many⟩
 |node l r hl hr=>exact fun h x hx=>(AI.mp hx).elim (hl h.1 x) (hr h.2 x)
theorem Q0{t:Ty}{z:Str}{n:Int}{tr:Tr}(m:Met t z n tr):Own t tr:=by
 have a:=vc tr;have b:=m.leaves;have c:=m.ht;have d:=m.len;exact⟨xB m.good,m.grown,by omega,by omega,by omega⟩
theorem wH{ps:Ps}:(∀p∈ps,1≤p.2)→∀p∈ps,p.2≤(ar ps).sum:=by
 induction ps with
 |nil=>exact fun _ p h=>nomatch h
 |cons q ps ih=>
  intro h p hp;have a:=rX fun q hq=>h q (.tail _ hq);have b:=h q (.head _);show p.2≤q.2+(ar ps).sum
  rcases Ae.mp hp with e | m
  ·rw[e];omega
  ·have:=ih (fun q hq=>h q (.tail _ hq)) p m;omega
theorem xC{t:Ty}{u:Tr}{z:Str}{top bot:Int}(tn:TyN t)(gk:Gk t)(gz:gwB z=true)(ou:Own t u)(tb:t.total≤1000000000000)(t0:0≤top)(t1:top<bot)(t2:bot≤1000000000000):Shr t z u.all (bE t z).all (bY t z).all top bot:=by
 have m1:=jb tn gk gz;have m2:=m4 tn gk gz;have o1:=Q0 m1;have o2:=Q0 m2;have bd:=uT tn ou z;have l0:=tn.lt0;have lo:=tn.lo;have nn:=rX tn.pos;have r0:=tn.room1;have r1:=tn.room2;have cl:=tn.len;have ml:t.lt≤(t.room+1)*t.lt:=by
  have:=BX (show 0≤t.room by omega) l0;rw[CY];omega
 refine⟨⟨tn.nd,by omega,fun p hp=>⟨tn.pos p hp,?_⟩,⟨l0,by omega⟩,⟨tn.tot,by omega⟩,⟨by omega,by omega⟩,by omega,by omega⟩,t0,t1,by omega,AU ou.ln (by decide),AU o1.ln (by decide),AU o2.ln (by decide),(Uy tn ou).tot,(Uy tn o1).tot,(Uy tn o2).tot,Xx tn.pos z,bd.1,bd.2,m1.tms,m2.tms⟩;have:=wH tn.pos p hp;omega
section
end
abbrev rR(T:Addr)(H:Hp):Prop:=LamAt T (dw dj) qTT H
abbrev qT(T:Addr)(H:Hp):Prop:=LamAt T (dw cR) qGT H
section
variable{T T':Addr}{pos pos':PySem.Pos}{q q':Str}{H H':Hp}
theorem U8(h:LamAt T pos q H):(∀xs,H T≠some (.lst xs))∧(∀xs,H T≠some (.tup xs))∧H T≠none:=by
 refine⟨?_,?_,?_⟩
 ·rcases h.tab with e | ⟨_,e,_⟩ <;> (rw[e];exact fun _ z=>nomatch z)
 ·rcases h.tab with e | ⟨_,e,_⟩ <;> (rw[e];exact fun _ z=>nomatch z)
 ·rcases h.tab with e | ⟨_,e,_⟩ <;> (rw[e];exact fun z=>nomatch z)
theorem mS(l:LamAt T pos q H)(l':LamAt T' pos' q' H)(ne:T≠T')(k:∀x o,H x=some o→(∀xs,o≠.lst xs)→x≠T'→H' x=some o):LamAt T pos q H':=by
 rcases l.tab with e | ⟨c,e,ec⟩
 ·exact⟨.inl (k _ _ e (fun _ z=>nomatch z) ne)⟩
 ·refine⟨.inr ⟨c,k _ _ e (fun _ z=>nomatch z) ne,k _ _ ec (fun _ z=>nomatch z) fun z=>?_⟩⟩
  rcases l'.tab with f | ⟨_,f,_⟩ <;> (rw[z,f]at ec;exact nomatch ec)
theorem Sn(l:LamAt T pos q H)(k:∀x o,H x=some o→(∀xs,o≠.lst xs)→H' x=some o):LamAt T pos q H':=by
 rcases l.tab with e | ⟨c,e,ec⟩
 ·exact⟨.inl (k _ _ e fun _ z=>nomatch z)⟩
 ·exact⟨.inr ⟨c,k _ _ e (fun _ z=>nomatch z),k _ _ ec (fun _ z=>nomatch z)⟩⟩
end
def w3(a T1 T2:Addr)(H:Hp):Hp:=av T2 (av T1 (av a H))
structure Wl(a T1 T2:Addr)(H:Hp):Prop where
 pen:PenAt H a
 l1:rR T1 H
 l2:qT T2 H
 ne:T1≠T2
section
variable{a T1 T2:Addr}{H H':Hp}
theorem Um{b:Addr}{o:HO}(h:w3 a T1 T2 H b=some o):b≠T2∧b≠T1∧b≠a∧H b=some o:=by
 obtain⟨h1,h⟩:=Zh h;obtain⟨h2,h⟩:=Zh h;obtain⟨h3,h⟩:=Zh h;exact⟨h1,h2,h3,h⟩
theorem Zo:Same (w3 a T1 T2 H) H:=fun _ _ h=>(Um h).2.2.2
theorem wM:Same (w3 a T1 T2 H) (av a H):=fun b o h=>by
 obtain⟨_,_,h3,h⟩:=Um h;rw[Zg h3];exact h
theorem Oj{b:Addr}{o:HO}(h:H b=some o)(n1:b≠a)(n2:b≠T1)(n3:b≠T2):w3 a T1 T2 H b=some o:=by
 show av T2 (av T1 (av a H)) b=some o;rw[Zg n3,Zg n2,Zg n1];exact h
theorem mV(k:Same (w3 a T1 T2 H) H'):Same (w3 a T1 T2 H) (w3 a T1 T2 H'):=fun b o h=>by
 obtain⟨h1,h2,h3,_⟩:=Um h;exact Oj (k b o h) h3 h2 h1
theorem Wl.same(h:Wl a T1 T2 H)(g:Same H H'):Wl a T1 T2 H'∧Same (w3 a T1 T2 H) (w3 a T1 T2 H'):=⟨⟨h.pen.same g,h.l1.mono g,h.l2.mono g,h.ne⟩,mV fun b o e=>g _ _ (Zo _ _ e)⟩
theorem Wl.grw(h:Wl a T1 T2 H)(hp:PenAt H' a)(g:Grw a H H'):Wl a T1 T2 H'∧Same (w3 a T1 T2 H) (w3 a T1 T2 H'):=by
 obtain⟨_,_,_,ea⟩:=h.pen;have k:∀x o,H x=some o→(∀xs,o≠.lst xs)→H' x=some o:=fun x o e n=>(Zh (g x o (by rw[Zg (fun z=>by rw[z,ea]at e;exact n _ (AK e).symm)];exact e))).2;refine⟨⟨hp,Sn h.l1 k,Sn h.l2 k,h.ne⟩,mV fun b o e=>?_⟩;exact(Zh (g b o (wM _ _ e))).2
theorem Wl.tt1(h:Wl a T1 T2 H)(g:Same (av T1 H) (av T1 H'))(l:rR T1 H'):Wl a T1 T2 H'∧Same (w3 a T1 T2 H) (w3 a T1 T2 H'):=by
 have k:∀x o,H x=some o→x≠T1→H' x=some o:=fun x o e n=>(Zh (g x o (by rw[Zg n];exact e))).2;obtain⟨p,q,r,ea⟩:=h.pen;refine⟨⟨⟨p,q,r,k _ _ ea fun z=>(U8 h.l1).1 _ (by rw[←z];exact ea)⟩,l,mS h.l2 h.l1 (Ne.symm h.ne) fun x o e _ n=>k x o e n,h.ne⟩,mV fun b o e=>?_⟩;obtain⟨_,h2,_,e⟩:=Um e;exact k b o e h2
theorem Wl.tt2(h:Wl a T1 T2 H)(g:Same (av T2 H) (av T2 H'))(l:qT T2 H'):Wl a T1 T2 H'∧Same (w3 a T1 T2 H) (w3 a T1 T2 H'):=by
 have k:∀x o,H x=some o→x≠T2→H' x=some o:=fun x o e n=>(Zh (g x o (by rw[Zg n];exact e))).2;obtain⟨p,q,r,ea⟩:=h.pen;refine⟨⟨⟨p,q,r,k _ _ ea fun z=>(U8 h.l2).1 _ (by rw[←z];exact ea)⟩,mS h.l1 h.l2 h.ne fun x o e _ n=>k x o e n,l,h.ne⟩,mV fun b o e=>?_⟩;obtain⟨h1,_,_,e⟩:=Um e;exact k b o e h1
theorem Wl.ne3(h:Wl a T1 T2 H){b:Addr}(n:H b=none):b≠a∧b≠T1∧b≠T2:=by
 obtain⟨_,_,_,ea⟩:=h.pen;exact⟨fun z=>(by rw[z,ea]at n;exact nomatch n),fun z=>(U8 h.l1).2.2 (by rw[←z];exact n),fun z=>(U8 h.l2).2.2 (by rw[←z];exact n)⟩
theorem Wl.tup(h:Wl a T1 T2 H){b:Addr}{xs:List V}(e:H b=some (.tup xs)):w3 a T1 T2 H b=some (.tup xs):=by
 obtain⟨_,_,_,ea⟩:=h.pen;exact Oj e (tf e ea (by intro z;cases z)) (fun z=>(U8 h.l1).2.1 xs (by rw[←z];exact e)) (fun z=>(U8 h.l2).2.1 xs (by rw[←z];exact e))
theorem Wl.lay(h:Wl a T1 T2 H){b:Addr}{o:HO}(e:upd H b o=H')(n:H b=none):Wl a T1 T2 H'∧Same (w3 a T1 T2 H) (w3 a T1 T2 H')∧w3 a T1 T2 H' b=some o:=by
 subst e;obtain⟨h1,h2⟩:=h.same (Z9 n o);obtain⟨n1,n2,n3⟩:=h.ne3 n;exact⟨h1,h2,Oj Z5 n1 n2 n3⟩
theorem Wl.put(h:Wl a T1 T2 H){b:Addr}{xs:List V}{o:HO}(e:H b=some (.lst xs))(n:b≠a):Wl a T1 T2 (upd H b o):=by
 have k:∀x u,H x=some u→(∀xs,u≠.lst xs)→upd H b o x=some u:=fun x u ex nu=>by
  rw[Za (fun z=>by rw[z,e]at ex;exact nu _ (AK ex).symm)];exact ex
 exact⟨h.pen.put n,Sn h.l1 k,Sn h.l2 k,h.ne⟩
theorem Wl.dv(h:Wl a T1 T2 H){v:V}{d:PyData}(e:DV (av a H) v d):DV (w3 a T1 T2 H) v d:=by
 have e1:DV (av T1 (av a H)) v d:=U4 (fun xs z=>(U8 h.l1).1 xs (Zh z).2) (fun xs z=>(U8 h.l1).2.1 xs (Zh z).2) e;exact U4 (fun xs z=>(U8 h.l2).1 xs (Zh (Zh z).2).2) (fun xs z=>(U8 h.l2).2.1 xs (Zh (Zh z).2).2) e1
theorem Wl.ty(h:Wl a T1 T2 H){q:Addr}{t:Ty}(d:DV H (.ref q) t.D):DV (w3 a T1 T2 H) (.ref q) t.D:=by
 obtain⟨p,b,rows,e,e1,e2,pa⟩:=DV.ty_inv d;cases e;have pr:∀{ys:List V}{kvs:List (Key×V)},PairsAt H ys kvs→PairsAt (w3 a T1 T2 H) ys kvs:=fun{ys kvs} z=>by
  induction z with
  |nil=>exact .nil
  |cons z _ ih=>exact .cons (h.tup z) ih
 exact Ty.dv (h.tup e1) (h.tup e2) (pr pa)
end
theorem mW{a:Addr}{H:Hp}(h:PenAt H a):∀{ts:List Th}{xs:List V},DVs H xs (ts.map Th.D)→DVs (av a H) xs (ts.map Th.D)
 | [],xs,d=>by
  have:=DVs.nil_inv d;subst this;exact .nil
 |t::ts,xs,d=>by
  obtain⟨x,r,rfl,_,d2⟩:=DVs.cons_inv d;obtain⟨t',c,ht,rfl,e,_⟩:=DVs.th_at (i:=0) d rfl;cases ht;exact .cons (Th.dv (h.tup e)) (mW h d2)
theorem k_{a:Addr}{H:Hp}(h:PenAt H a):∀{t:Tr}{v:V},DV H v t.D→DV (av a H) v t.D
 |.leaf ts,v,d=>by
  obtain⟨b,xs,rfl,eb,qb⟩:=DV.list_inv d;have ne:b≠a:=fun z=>by
   obtain⟨p,q,r,ea⟩:=h;rw[z,ea]at eb;cases eb;obtain⟨_,_,_,e,_⟩:=DVs.th_at (i:=0) qb rfl;cases e
  exact .lst (by rw[Zg ne];exact eb) (mW h qb)
 |.node l r,v,d=>by
  obtain⟨b,xs,rfl,e,q⟩:=DV.tup_inv d;obtain⟨m,r1,rfl,hm,q1⟩:=q.cons_inv;obtain⟨x,r2,rfl,hx,q2⟩:=q1.cons_inv;obtain⟨y,r3,rfl,hy,q3⟩:=q2.cons_inv;have:=q3.nil_inv;subst this;cases hm;exact .tup (h.tup e) (.cons (.str _) (.cons (k_ h hx) (.cons (k_ h hy) .nil)))
theorem qf{K:W.Frag}{H H':Hp}{a:Addr}{xs:List V}(s:Same H H')(h:SqL K H a xs):SqL K H' a xs:=by
 rcases h with h | h
 ·rcases h with h | ⟨o,h⟩
  ·exact .inl (.inl (s _ _ h))
  ·exact .inl (.inr ⟨o,s _ _ h⟩)
 ·exact .inr h
theorem wZ{K:W.Frag}{a T1 T2 S:Addr}{xs:List V}{H H1:Hp}(h:SqL K H S xs)(l1:rR T1 H)(l2:qT T2 H)(n:H a=none)(s:Same H H1):SqL K (w3 a T1 T2 H1) S xs:=by
 rcases h with(e | ⟨o,e⟩) | e
 ·refine .inl (.inl (Oj (s _ _ e) (fun z=>by rw[z,n]at e;cases e) (fun z=>(U8 l1).1 _ (by rw[←z];exact e)) (fun z=>(U8 l2).1 _ (by rw[←z];exact e))))
 ·refine .inl (.inr ⟨o,Oj (s _ _ e) (fun z=>by rw[z,n]at e;cases e) (fun z=>?_) (fun z=>?_)⟩)
  ·rcases l1.tab with f | ⟨_,f,_⟩ <;> (rw[z,f]at e;cases e)
  ·rcases l2.tab with f | ⟨_,f,_⟩ <;> (rw[z,f]at e;cases e)
 ·exact .inr e
theorem vq(n m:Int):(PyData.tuple [.int n,.int m]).canLay0=true∧(PyData.tuple [.int n,.int m]).depth≤1:=by
 simp[PyData.canLay0,PyData.canLayAll0,PyData.depth,PyData.depthAll]
section
variable{a T1 T2 M:Addr}{H H':Hp}{ms:List V}
theorem Wl.tr(h:Wl a T1 T2 H){v:V}{t:Tr}(d:DV H v t.D):DV (w3 a T1 T2 H) v t.D:=h.dv (k_ h.pen d)
def w4(a T1 T2 M:Addr)(H:Hp):Hp:=av M (w3 a T1 T2 H)
structure Wm(a T1 T2 M:Addr)(ms:List V)(H:Hp):Prop where
 wl:Wl a T1 T2 H
 at_:H M=some (.lst ms)
 ne:M≠a
theorem Ww:Same (w4 a T1 T2 M H) H:=Yd.trans Zo
theorem wg(k:∀b o,b≠M→w3 a T1 T2 H b=some o→w3 a T1 T2 H' b=some o):Same (w4 a T1 T2 M H) (w4 a T1 T2 M H'):=fun b o h=>by
 obtain⟨h1,h⟩:=Zh h;show av M (w3 a T1 T2 H') b=some o;rw[Zg h1];exact k b o h1 h
theorem Wm.same(h:Wm a T1 T2 M ms H)(g:Same H H'):Wm a T1 T2 M ms H'∧Same (w4 a T1 T2 M H) (w4 a T1 T2 M H'):=by
 obtain⟨h1,h2⟩:=h.wl.same g;exact⟨⟨h1,g _ _ h.at_,h.ne⟩,wg fun b o _ e=>h2 _ _ e⟩
theorem Wm.lay(h:Wm a T1 T2 M ms H){b:Addr}{o:HO}(e:upd H b o=H')(n:H b=none):Wm a T1 T2 M ms H'∧Same (w4 a T1 T2 M H) (w4 a T1 T2 M H')∧w4 a T1 T2 M H' b=some o:=by
 obtain⟨h1,h2,h3⟩:=h.wl.lay e n;subst e;obtain⟨k1,k2⟩:=h.same (Z9 n o);refine⟨k1,k2,?_⟩;show av M _ b=some o;rw[Zg (fun z=>by rw[z,h.at_]at n;cases n)];exact h3
theorem Wm.put(h:Wm a T1 T2 M ms H)(xs:List V):Wm a T1 T2 M xs (upd H M (.lst xs))∧Same (w4 a T1 T2 M H) (w4 a T1 T2 M (upd H M (.lst xs))):=
 ⟨⟨h.wl.put h.at_ h.ne,Z5,h.ne⟩,wg fun b o n e=>by
  obtain⟨h1,h2,h3,h4⟩:=Um e;exact Oj (by rw[Za n];exact h4) h3 h2 h1⟩
theorem Wl.fill(h:Wl a T1 T2 H)(e:upd H M (.lst ms)=H')(n:H M=none):Wm a T1 T2 M ms H'∧Same (w3 a T1 T2 H) (w4 a T1 T2 M H'):=by
 obtain⟨h1,h2,h3⟩:=h.lay e n;refine⟨⟨h1,Zo _ _ h3,(h.ne3 n).1⟩,fun b o k=>?_⟩;show av M _ b=some o;rw[Zg (fun z=>by rw[z]at k;rw[Zo _ _ k]at n;cases n)];exact h2 _ _ k
end
def ShAt(H:Hp)(vs:List V):Prop:=∀v∈vs,∃(q:Addr)(top bot:Int),v=.ref q∧H q=some (.tup [.int top,.int bot])∧0≤top∧top<bot∧bot≤1000000000000
theorem ShAt.mono{H H':Hp}{vs:List V}(h:ShAt H vs)(g:Same H H'):ShAt H' vs:=fun v hv=>by
 obtain⟨q,top,bot,e,eq,r⟩:=h v hv;exact⟨q,top,bot,e,g _ _ eq,r⟩
theorem ShAt.cons{H:Hp}{vs:List V}{q:Addr}{top bot:Int}(e:H q=some (.tup [.int top,.int bot]))(h0:0≤top)(h1:top<bot)(h2:bot≤1000000000000)(h:ShAt H vs):ShAt H (.ref q::vs):=fun v hv=>by
 rcases Ae.mp hv with rfl | hv
 ·exact⟨q,top,bot,rfl,e,h0,h1,h2⟩
 ·exact h v hv
theorem ShAt.app{H:Hp}{vs us:List V}(h:ShAt H vs)(g:ShAt H us):ShAt H (vs++us):=fun v hv=>(AI.mp hv).elim (h v) (g v)
def yX(T1 T2:Addr):Sp:=fun vs H Q _=>∃(a r q:Addr)(v:V)(z:Str)(t:Ty)(u:Tr)(xs:List V),vs=[.ref r,v,.str z,.ref q]∧Wl a T1 T2 H∧DV (w3 a T1 T2 H) (.ref r) t.D∧DV (w3 a T1 T2 H) v u.D∧w3 a T1 T2 H q=some (.lst xs)∧ShAt (w3 a T1 T2 H) xs∧xs.length≤100∧
 TyN t∧Gk t∧gwB z=true∧Own t u∧t.total≤1000000000000∧∀H',Wl a T1 T2 H'→Same (w3 a T1 T2 H) (w3 a T1 T2 H')→Q (.bl true) H'
section
variable{P:Program}{w:World}{K:W.Frag}{mg:Str→Option Value}{base:Heap}{f T1 T2:Addr}{fd:FuncData}
theorem yC(iP:Has P w K mg base "trees_for" 5 ["tally","mark"] v_)(bI:Has P w K mg base "stream_of" 3 ["tree"] dC)(bF:Has P w K mg base "times_of" 1 ["stream","mark"] mQ)(jt:Has P w K mg base "bounds_of" 2 ["tally","mark"] jp)(cq:Has P w K mg base "grown_tally" 8 ["room","tree"] (wG T1))(fW:Has P w K mg base "tally_paper" 8 ["room","tree"] (yV T2))(kj:Has P w K mg base "is_shown" 6 ["stream","tally","paper"] mX)(eR:Has P w K mg base "_law_share_right" 3 ["_law_tally","_law_own","_law_streams","_law_mark","_law_share"] vW)(aY:mg "all"=none)(F:Fun K "_law_mark_right" "_law_mark_right" bU f fd):FnOk P w K mg base CX0 9 f fd ["_law_tally","_law_tree_here","_law_mark","_law_shares"] (yX T1 T2):=by
 refine F.ok X0 (fun vs H Q E h=>?_) (fun cdv A outer s H vs Q E hr h=>?_)
 ·obtain⟨a,r,q,v,z,t,u,xs,rfl,_⟩:=h;rfl
 obtain⟨a,r,q,v,z,t,u,xs,rfl,wl,k_t,k_u,Da,k_s,xl,tn,gk,zg,ou,tb,hq⟩:=h;have r0:=tn.room1;have r1:=tn.room2;have cl:=tn.len;have m1:=jb tn gk zg;have m2:=m4 tn gk zg;have o1:=Q0 m1;have o2:=Q0 m2;have lay:=wO gk;have sh:SeqAt.shaped t.D=true:=Ot lay (by decide);have up:∀{n m:Nat},n≤m→m≤1000→n≤1000:=fun h g=>AU h g;refine⟨_,(Z2 (Zz 4 X0.nd rfl (Or.inl rfl) (Z3 iP hr (Z0 (pv 0) (Z0 (pv 2) Z1))))
 (Z2 (@Vf _ _ 5 _ _ _ _ X0.nd rfl (Or.inr rfl) (Z3 bI hr (Z0 (pv 1) Z1)) (by rfl) (by first | exact .inl rfl | exact .inr rfl))
 (Tq 7 (Z2 (@Vf _ _ 6 _ _ _ _ X0.nd rfl (Or.inr rfl) (qm ["_law_tally","_law_tree_here","_law_mark","_law_shares","_law_trees","_law_own","_law_streams","#7"] (Y3 (own:=["_law_one"]) (Xz rfl rfl) (Wg (pv 4))
  (fun _ _ _ _ _=>(Z7 (i:=0) Vz rfl (Or.inl rfl) (Or.inr rfl))) (fun _ _ _ _ _=>Yb)
  (fun _ _ _ _ _=>(Z3 bI hr (Z0 (pv 0) Z1))))) (by rfl) (by first | exact .inl rfl | exact .inr rfl))
 (Z2 (Y7 (Zn (sE hr.units) (Zu (Z0 (Z3 bF hr (Z0 (Y0 Xj (pv 6) Z4) (Z0 (pv 2) Z1))) (Z0 (Z3 bF hr (Z0 (Y0 Xj (pv 6) Z4) (Z0 (pv 2) Z1))) Z1))) (Z3 jt hr (Z0 (pv 0) (Z0 (pv 2) Z1))) (Zl _)) (Z6 (Zb X6)) Zq)
 (Z2 (Xm AV rfl (Y5 (Yn (Z0 (pv 1) (Z0 (Y0 Zv (pv 4) Z4) (Z0 (Y0 Zv (pv 4) Z4) Z1))))) (Z7 (i:=7) X0.nd rfl (Or.inl rfl))
 (Z2 (Y7 (Zn (sE hr.units) (Z3 cq hr (Z0 (Y0 Zv (pv 0) Z4) (Z0 (pv 7) Z1))) (pv 0) (Zl _)) (Z6 (Zb X6)) Zq)
 (Z6 (Y7 (Zn uS (Z3 kj hr (Z0 (Z3 bI hr (Z0 (pv 7) Z1)) (Z0 (pv 0) (Z0 (Z3 fW hr (Z0 (Y0 Zv (pv 0) Z4) (Z0 (pv 7) Z1))) Z1)))) X6 (Zl _)) (Z6 (Zb X6)) Zq))))
 (Z6 (Zb (Zi (V4 rfl) rfl aY Bs (Z0 (Y3 (own:=["_law_share"]) (Xz rfl rfl) (Y5 (pv 3))
  (fun _ _ _ _ _=>(Z7 (i:=0) Vy rfl (Or.inl rfl) (Or.inr rfl))) (fun _ _ _ _ _=>Yb)
  (fun _ _ _ _ _=>(Z3 eR hr (Z0 (pv 1) (Z0 (pv 6) (Z0 (pv 7) (Z0 (pv 3) (Z0 (pv 0) Z1)))))))) Z1)))))))))),?_⟩
 have gg:Same (w3 a T1 T2 H) (w3 a T1 T2 H):=Same.refl _;refine⟨_,rfl,_,rfl,r,t,z,rfl,k_t.mono Zo,tn.nd,r0,r1,cl,fun p v1 v2 as bs H1 g1 C4 d1 d2 _ _ _ _=>?_⟩
 skip
 have hw:=wl.same g1;have wl:=hw.1;have gz:=hw.2;clear hw;have gg:=gg.trans gz;have k_t:=k_t.mono gz;have k_u:=k_u.mono gz;have Da:=gz _ _ Da;have k_s:=k_s.mono gz;have C4:=wl.tup C4;have k_1:=wl.tr d1;have k_2:=wl.tr d2;clear g1 d1 d2
 skip
 refine⟨_,rfl,v,u,rfl,k_u.mono Zo,ou.ht,up ou.sz (by decide),AU ou.ln (by decide),fun o ys H2 g2 _ e_o d_o=>?_⟩;have hw:=wl.same g2;have wl:=hw.1;have gz:=hw.2;clear hw;have gg:=gg.trans gz;have k_t:=k_t.mono gz;have k_u:=k_u.mono gz;have Da:=gz _ _ Da;have k_s:=k_s.mono gz;have C4:=gz _ _ C4;have k_1:=k_1.mono gz;have k_2:=k_2.mono gz;have k_o:=wl.tr (t:=.leaf u.all) (.lst e_o d_o);clear g2 e_o d_o
 skip
 refine⟨⟨.inl rfl,.inl rfl,.inl rfl,.inl rfl,.inl rfl,.inl rfl,.inl rfl,.inr rfl,trivial⟩,_,rfl,p,rfl,⟨_,SqT.of (Zo _ _ C4)⟩,?_⟩;refine Vn (xs:=[v1,v2]) (fun i ys H'=>Wl a T1 T2 H'∧Same (w3 a T1 T2 H2) (w3 a T1 T2 H')∧Paired (fun y tr=>∃c:Addr,y=.ref c∧DV (w3 a T1 T2 H') y (bG (Tr.all tr))) ys ([bE t z,bY t z].take i)) ⟨wl,Same.refl _,.nil⟩ (fun i ys H' _ h=>SqT.of (Zo _ _ (h.2.1 _ _ C4))) ?_ ?_
 ·clear wl;rintro i x ys H' C hx ⟨wl,g,pa⟩ hC;obtain⟨tr,ht,dx,ow⟩:∃tr,[bE t z,bY t z].take (i+1)=[bE t z,bY t z].take i++[tr]∧DV (w3 a T1 T2 H2) x tr.D∧Own t tr:=by
   match i,hx with
   | 0,hx=>cases hx;exact⟨_,rfl,k_1,o1⟩
   | 1,hx=>cases hx;exact⟨_,rfl,k_2,o2⟩
  have pl:=Cs pa;rw[Am]at pl;have l2:[bE t z,bY t z].length=2:=rfl;refine⟨Zk (by omega),Wk.refl _,_,rfl,x,tr,rfl,(dx.mono g).mono Zo,ow.ht,up ow.sz (by decide),AU ow.ln (by decide),fun c zs H3 g3 _ e3 d3=>?_⟩;obtain⟨wl,sm⟩:=wl.same g3;refine hC _ _ ⟨wl,g.trans sm,?_⟩;rw[ht];exact Paired.snoc ⟨c,rfl,wl.tr (t:=.leaf tr.all) (.lst e3 d3)⟩ (Paired.mapP pa fun _ _ ⟨c,e,d⟩=>⟨c,e,d.mono sm⟩)
 clear wl;rintro ys H3 ⟨wl,gz',pa⟩;obtain⟨x1,x2,rfl,k_x,k_y⟩:∃x1 x2:Addr,ys=[.ref x1,.ref x2]∧DV (w3 a T1 T2 H3) (.ref x1) (bG (bE t z).all)∧DV (w3 a T1 T2 H3) (.ref x2) (bG (bY t z).all):=by
  cases pa with
  |cons h1 pa=>
   cases pa with
   |cons h2 pa=>
    cases pa;obtain⟨c,rfl,d⟩:=h1;obtain⟨c2,rfl,d2⟩:=h2;exact⟨c,c2,rfl,d,d2⟩
 have gg:=gg.trans gz';have k_t:=k_t.mono gz';have k_u:=k_u.mono gz';have Da:=gz' _ _ Da;have k_s:=k_s.mono gz';have C4:=gz' _ _ C4;have k_1:=k_1.mono gz';have k_2:=k_2.mono gz';have k_o:=k_o.mono gz';clear pa gz';refine⟨leN rfl,?_⟩
 skip
 intro l n_l;generalize hz:upd _ l _=H4;revert H4;refine blk ?_;intro H4 hz;have hw:=wl.lay hz n_l;have wl:=hw.1;have gz:=hw.2.1;have C7:=hw.2.2;clear hw hz;have gg:=gg.trans gz;have k_t:=k_t.mono gz;have k_u:=k_u.mono gz;have Da:=gz _ _ Da;have k_s:=k_s.mono gz;have C4:=gz _ _ C4;have k_1:=k_1.mono gz;have k_2:=k_2.mono gz;have k_o:=k_o.mono gz;have k_x:=k_x.mono gz;have k_y:=k_y.mono gz;refine⟨_,rfl,l,_,0,_,rfl,rfl,SqL.of (Zo _ _ C7),rfl,_,rfl,x1,_,z,rfl,k_x.mono Zo,up o1.ln (by decide),fun H5 g5=>?_⟩;have hw:=wl.same g5;have wl:=hw.1;have gz:=hw.2;clear hw;have gg:=gg.trans gz;have k_t:=k_t.mono gz;have k_u:=k_u.mono gz;have Da:=gz _ _ Da;have k_s:=k_s.mono gz;have C4:=gz _ _ C4;have k_1:=k_1.mono gz;have k_2:=k_2.mono gz;have k_o:=k_o.mono gz;have k_x:=k_x.mono gz;have k_y:=k_y.mono gz;have C7:=gz _ _ C7;refine⟨_,rfl,l,_,1,_,rfl,rfl,SqL.of (Zo _ _ C7),rfl,_,rfl,x2,_,z,rfl,k_y.mono Zo,up o2.ln (by decide),fun H6 g6=>?_⟩;have hw:=wl.same g6;have wl:=hw.1;have gz:=hw.2;clear hw;have gg:=gg.trans gz;have k_t:=k_t.mono gz;have k_u:=k_u.mono gz;have Da:=gz _ _ Da;have k_s:=k_s.mono gz;have C4:=gz _ _ C4;have k_1:=k_1.mono gz;have k_2:=k_2.mono gz;have k_o:=k_o.mono gz;have k_x:=k_x.mono gz;have k_y:=k_y.mono gz;have C7:=gz _ _ C7;rw[m1.tms,m2.tms];refine⟨leN rfl,?_⟩;intro w8 n_w8;generalize hz:upd _ w8 _=H7;revert H7;refine blk ?_;intro H7 hz;have hw:=wl.lay hz n_w8;have wl:=hw.1;have gz:=hw.2.1;have uu:=hw.2.2;clear hw hz;have gg:=gg.trans gz;have k_t:=k_t.mono gz;have k_u:=k_u.mono gz;have Da:=gz _ _ Da;have k_s:=k_s.mono gz;have C4:=gz _ _ C4;have k_1:=k_1.mono gz;have k_2:=k_2.mono gz;have k_o:=k_o.mono gz;have k_x:=k_x.mono gz;have k_y:=k_y.mono gz;have C7:=gz _ _ C7;refine⟨_,rfl,_,rfl,r,t,z,rfl,k_t.mono Zo,tn.nd,by omega,fun b H8 g8 C3=>?_⟩;have hw:=wl.same g8;have wl:=hw.1;have gz:=hw.2;clear hw;have gg:=gg.trans gz;have k_t:=k_t.mono gz;have k_u:=k_u.mono gz;have Da:=gz _ _ Da;have k_s:=k_s.mono gz;have C4:=gz _ _ C4;have k_1:=k_1.mono gz;have k_2:=k_2.mono gz;have k_o:=k_o.mono gz;have k_x:=k_x.mono gz;have k_y:=k_y.mono gz;have C7:=gz _ _ C7;have uu:=gz _ _ uu;have ly:=vq (look t.cs z) (look t.cs z+t.lt);have sh2:=Ot ly (by decide);refine⟨_,_,.tup (Zo _ _ uu) (.cons (.int _) (.cons (.int _) .nil)),.tup C3 (.cons (.int _) (.cons (.int _) .nil)),sh2,sh2,_,rfl,?_⟩;rw[jS ly];clear ly sh2 C3 uu g8 g5 g6
 skip
 refine Ym ⟨_,rfl,_,rfl,p,_,0,_,rfl,rfl,SqT.of (Zo _ _ C4),rfl,_,rfl,p,_,1,_,rfl,rfl,SqT.of (Zo _ _ C4),rfl,leN rfl,?_⟩;intro L n_L;generalize hz:upd _ L _=H9;revert H9;refine blk ?_;intro H9 hz;have hw:=wl.lay hz n_L;have wl:=hw.1;have gz:=hw.2.1;have e_L:=hw.2.2;clear hw hz;have gg:=gg.trans gz;have k_t:=k_t.mono gz;have k_u:=k_u.mono gz;have Da:=gz _ _ Da;have k_s:=k_s.mono gz;have C4:=gz _ _ C4;have k_1:=k_1.mono gz;have k_2:=k_2.mono gz;have k_o:=k_o.mono gz;have k_x:=k_x.mono gz;have k_y:=k_y.mono gz;have C7:=gz _ _ C7;refine⟨L,rfl,⟨_,SqL.of (Zo _ _ e_L)⟩,?_⟩;refine Xg (xs:=[v,v1,v2]) (fun j σ H'=>∃(o7:Option V),σ=[some (.ref r),some v,some (.str z),some (.ref q),some (.ref p),some (.ref o),some (.ref l),o7]∧Wl a T1 T2 H'∧Same (w3 a T1 T2 H9) (w3 a T1 T2 H')) ⟨_,rfl,wl,Same.refl _⟩ ?_ ?_ ?_
 ·rintro j σ H' _ ⟨_,_,_,g⟩;exact SqL.of (Zo _ _ (g _ _ e_L))
 ·clear wl;rintro j x σ H10 hx ⟨o7,rfl,wl,g⟩;obtain⟨tr,dx,ow⟩:∃tr,DV (w3 a T1 T2 H9) x (Tr.D tr)∧Own t tr:=by
   match j,hx with
   | 0,hx=>cases hx;exact⟨_,k_u,ou⟩
   | 1,hx=>cases hx;exact⟨_,k_1,o1⟩
   | 2,hx=>cases hx;exact⟨_,k_2,o2⟩
  obtain⟨_,c,rows,e0,e_r,ec,pa⟩:=DV.ty_inv k_t;cases e0;have ln:=ow.ln;have sz:=ow.sz;refine⟨_,rfl,r,_,0,_,rfl,rfl,SqT.of (Zo _ _ (g _ _ e_r)),rfl,_,rfl,x,t.room,tr,rfl,r0,r1,(dx.mono g).mono Zo,by omega,by omega,wl.l1,fun y H11 g11 l11 d11=>?_⟩;rw[ow.gr]at d11;obtain⟨wl,sm⟩:=wl.tt1 g11 l11;have g:=g.trans sm;refine⟨_,rfl,t.D,t.D,d11,(k_t.mono g).mono Zo,sh,sh,_,rfl,?_⟩;rw[jS lay];refine Ym ⟨_,rfl,x,tr,rfl,(dx.mono g).mono Zo,ow.ht,by omega,by omega,fun y2 ys H12 g12 _ e12 d12=>?_⟩;obtain⟨wl,sm⟩:=wl.same g12;have g:=g.trans sm;have k_y2:=wl.tr (t:=.leaf tr.all) (.lst e12 d12);refine⟨_,rfl,_,rfl,r,_,0,_,rfl,rfl,SqT.of (Zo _ _ (g _ _ e_r)),rfl,_,rfl,x,t.room,tr,rfl,r0,r1,(dx.mono g).mono Zo,by omega,by omega,wl.l2,fun pp H13 g13 l13 _ p13=>?_⟩;obtain⟨wl,sm⟩:=wl.tt2 g13 l13;refine⟨y2,r,pp,tr.all,t,_,rfl,(k_y2.mono sm).mono Zo,by omega,(k_t.mono (g.trans sm)).mono Zo,tn.md gk,tn.tot,p13,uE tn ow,yG (Uy tn ow) tn ow.gw ln,fun H14 g14=>?_⟩;obtain⟨wl,sm2⟩:=wl.same g14;rw[Ox tn ow];exact⟨true,rfl,rfl,_,rfl,Ym ⟨_,rfl,wl,g.trans (sm.trans sm2)⟩⟩
 clear wl;rintro σ H10 ⟨o7,rfl,wl,gy⟩
 skip
 have gg:=gg.trans gy;have k_t:=k_t.mono gy;have Da:=gy _ _ Da;have k_s:=k_s.mono gy;have k_o:=k_o.mono gy;have k_x:=k_x.mono gy;have k_y:=k_y.mono gy;have C7:=gy _ _ C7;clear gy k_1 k_2 k_u C4 e_L;refine⟨_,rfl,q,rfl,⟨_,SqL.of (Zo _ _ Da)⟩,?_⟩;refine Yo (xs:=xs) (fun i ys H'=>ys=(List.replicate i true).map V.bl∧Wl a T1 T2 H'∧Same (w3 a T1 T2 H10) (w3 a T1 T2 H')) ⟨rfl,wl,Same.refl _⟩ (fun i ys H' _ h=>SqL.of (Zo _ _ (h.2.2 _ _ Da))) ?_ ?_
 ·clear wl;rintro i x ys H' C hx ⟨rfl,wl,g⟩ hC;have il:=(Ad.mp hx).1;obtain⟨c,top,bot,rfl,C6,s0,s1,s2⟩:=k_s x (Ai hx);have gw:=g.trans Zo;refine⟨Zk (by rw[ae,AE];omega),Wk.refl _,_,rfl,_,rfl,_,rfl,_,rfl,_,rfl,r,o,l,c,x1,x2,t,z,u.all,_,_,top,bot,rfl,k_t.mono gw,k_o.mono gw,gw _ _ C7,k_x.mono gw,k_y.mono gw,gw _ _ C6,xC tn gk zg ou tb s0 s1 s2,fun H11 g11=>?_⟩;obtain⟨wl,sm⟩:=wl.same g11;refine hC _ _ ⟨?_,wl,g.trans sm⟩;rw[B9,ca];rfl
 clear wl;rintro ys H11 ⟨rfl,wl,gy⟩;have gg:=gg.trans gy;refine⟨Zd (by rw[ae,AE];omega),?_⟩
 skip
 intro w9 n_w9;generalize hz:upd _ w9 _=H12;revert H12;refine blk ?_;intro H12 hz;have hw:=wl.lay hz n_w9;have wl:=hw.1;have gz:=hw.2.1;have e_w9:=hw.2.2;clear hw hz;have gg:=gg.trans gz;refine⟨w9,_,rfl,SqL.of (Zo _ _ e_w9),?_⟩;rw[O3];exact hq _ wl gg
end
def jR(K:W.Frag)(T1 T2:Addr):Sp:=fun vs H Q _=>∃(a:Addr)(ns:List Int),vs=[.ref a]∧SqL K H a (ns.map V.int)∧ns.length≤63∧rR T1 H∧qT T2 H∧∀H',Q (.bl true) H'
theorem tR{ts:List Th}:(∀x∈ts,x.many≤1000000000)→(ts.map Th.many).sum≤1000000000*(ts.length:Int):=by
 induction ts with
 |nil=>exact fun _=>By _
 |cons t ts ih=>
  intro h;have a:=ih fun x hx=>h x (.tail _ hx);have b:=h t (.head _);rw[AD];show t.many+(ts.map Th.many).sum≤_;omega
theorem zD(z:Str)(x:Th)(ts:List Th):tms z (x::ts)=(if x.word=z then x.many else 0)+tms z ts:=by
 unfold tms;rw[As];by_cases c:x.word=z
 ·rw[Ah (zy c),Ah c];rfl
 ·rw[Aj (by rw[decide_eq_true_eq];exact c),Aj c,BP]
theorem uv{z:Str}{ts:List Th}:(∀x∈ts,1≤x.many)→0≤tms z ts∧∀t∈ts,t.word=z→1≤tms z ts:=by
 induction ts with
 |nil=>exact fun _=>⟨By _,fun _ h=>nomatch h⟩
 |cons x ts ih=>
  intro h;obtain⟨a,k⟩:=ih fun x hx=>h x (.tail _ hx);have b:=h x (.head _);rw[zD];by_cases c:x.word=z
  ·rw[Ah c];exact⟨by omega,fun _ _ _=>by omega⟩
  ·rw[Aj c,BP];exact⟨a,fun t m e=>(Ae.mp m).elim (fun q=>absurd (q ▸ e) c) fun q=>k t q e⟩
section
variable{P:Program}{w:World}{K:W.Frag}{mg:Str→Option Value}{base:Heap}{f T1 T2:Addr}{fd:FuncData}
theorem wV(ne:T1≠T2)(vG:Has P w K mg base "_law_pen" 1 ["_law_script","_law_k"] (vR K))(ao:Has P w K mg base "_law_draw" 1 ["_law_pen_here","_law_size"] cD)(cx:Has P w K mg base "_law_word" 1 ["_law_pen_here","_law_k"] k8)(eJ:Has P w K mg base "_law_short" 1 ["_law_k"] gA)(pP:Has P w K mg base "_law_room" 2 ["_law_pen_here"] sJ)(ef:Has P w K mg base "_law_tree" 12 ["_law_pen_here","_law_marks","_law_deep","_law_most","_law_parts"] (gK 8))(n8:Has P w K mg base "_law_words" 2 ["_law_pen_here"] vL)(bo:Has P w K mg base "_law_with_short" 8 ["_law_tree_here","_law_words_here"] (tP 8))(cq:Has P w K mg base "grown_tally" 8 ["room","tree"] (wG T1))(bI:Has P w K mg base "stream_of" 3 ["tree"] dC)(bF:Has P w K mg base "times_of" 1 ["stream","mark"] mQ)(e9:Has P w K mg base "_law_mark_right" 9 ["_law_tally","_law_tree_here","_law_mark","_law_shares"] (yX T1 T2))(aL:mg "range"=none)(aK:mg "sorted"=none)(eP:mg "set"=none)(F:Fun K "law" "law" dY f fd):FnOk P w K mg base CX0 13 f fd ["_law_script"] (jR K T1 T2):=by
 refine F.ok Xk (fun vs H Q E h=>?_) (fun cdv A outer s H vs Q E hr h=>?_)
 ·obtain⟨a,ns,rfl,_⟩:=h;rfl
 obtain⟨s0,ns,rfl,scr,_,l1,l2,hq⟩:=h;refine⟨_,(Z2 (Xm AV rfl (Ws rfl aL (Z0 Z4 Z1)) (Z7 (i:=1) Xk.nd rfl (Or.inl rfl))
 (Z2 (Zz 2 Xk.nd rfl (Or.inl rfl) (Z3 vG hr (Z0 (pv 0) (Z0 (pv 1) Z1))))
 (Z2 (Zz 3 Xk.nd rfl (Or.inl rfl) (Z3 pP hr (Z0 (pv 2) Z1)))
 (Z2 (Zz 4 Xk.nd rfl (Or.inl rfl) (Z3 ef hr (Z0 (pv 2) (Z0 (Y0 Xj (Yn (Z0 Z4 (Z0 Z4 (Z0 Z4 Z1)))) (Z3 ao hr (Z0 (pv 2) (Z0 Z4 Z1)))) (Z0 Z4 (Z0 Z4 (Z0 (Ze Y4 Z4 (Z3 ao hr (Z0 (pv 2) (Z0 Z4 Z1)))) Z1)))))))
 (Z2 (Zz 4 Xk.nd rfl (Or.inl rfl) (Z3 bo hr (Z0 (pv 4) (Z0 (Z3 n8 hr (Z0 (pv 2) Z1)) Z1))))
 (Z2 (Zz 5 Xk.nd rfl (Or.inl rfl) (Z3 cq hr (Z0 (pv 3) (Z0 (pv 4) Z1))))
 (Z2 (Zz 6 Xk.nd rfl (Or.inl rfl) (Z3 bI hr (Z0 (pv 4) Z1)))
 (Z2 (Zz 7 Xk.nd rfl (Or.inl rfl) (Yn (Z0 (Zu (Z0 Z4 (Z0 (Ze Y4 (pv 3) Z4) Z1))) (Z0 (Zu (Z0 Z4 (Z0 Z4 Z1))) (Z0 (Zu (Z0 Z4 (Z0 Z4 Z1))) (Z0 (Zu (Z0 (Z3 ao hr (Z0 (pv 2) (Z0 Z4 Z1))) (Z0 (Ze Y4 Z4 (Z3 ao hr (Z0 (pv 2) (Z0 Z4 Z1)))) Z1))) Z1))))))
 (Z2 (Zz 8 Xk.nd rfl (Or.inl rfl) (Yn (Z0 (Z3 cx hr (Z0 (pv 2) (Z0 (Z3 ao hr (Z0 (pv 2) (Z0 Z4 Z1))) Z1))) (Z0 (Z3 eJ hr (Z0 (Z3 ao hr (Z0 (pv 2) (Z0 Z4 Z1))) Z1)) (Z0 Xn Z1)))))
 (Tq 11 (Z2 (Zz 8 Xk.nd rfl (Or.inl rfl) (Ze R0 (pv 8) (Vj S7 (qm ["_law_script","_law_k","_law_pen_here","_law_room_here","_law_tree_here","_law_tally","_law_own","_law_shares","_law_marks","_law_thing_here","_law_times","#11"] (Y3 (own:=["_law_mark","_law_count"]) (Xz rfl rfl) (Wg (Y0 Zv (pv 5) Z4))
  (fun _ _ _ _ _=>(Xa K 2 rfl rfl (Z8 (Z7 (i:=0) Ti rfl (Or.inl rfl) (Or.inr rfl)) (Z8 (Z7 (i:=1) Ti rfl (Or.inl rfl) (Or.inr rfl)) Zt)))) (fun _ _ _ _ _=>Yb)
  (fun _ _ _ _ _=>(pv 0)))) Uw (Uv Z4))))
 (Z2 (Xm AV rfl (Y5 (Vj S7 (pv 6) Uw (Uv Z4))) (Z7 (i:=9) Xk.nd rfl (Or.inl rfl))
 (Z2 (V9 (Uf AR Bu Bv Wu (pv 8) (Z0 (Y0 Zv (pv 9) Z4) Z1)))
 (Z2 (Zz 10 Xk.nd rfl (Or.inl rfl) (Z3 bF hr (Z0 (pv 6) (Z0 (Y0 Zv (pv 9) Z4) Z1))))
 (Z6 (Y7 (Zn Oz (pv 10) (Y0 Zv (pv 5) Z4) (Zl _)) (Z6 (Zz 7 Xk.nd rfl (Or.inl rfl) (Ze R0 (pv 7) (Yn (Z0 (Zu (Z0 (pv 10) (Z0 (Y0 Zv (pv 5) Z4) Z1))) (Z0 (Zu (Z0 (Ze W7 (pv 10) Z4) (Z0 (Y0 Zv (pv 5) Z4) Z1))) Z1)))))) Zq)))))
 (Z6 (Xm AV rfl (Y5 (Zi (i5 rfl) rfl aK BQ (Z0 (X2 (ox rfl) rfl eP PyProof.Rows.boot_set (Z0 (pv 8) Z1)) Z1))) (Z7 (i:=11) Xk.nd rfl (Or.inl rfl))
 (Z6 (Y7 (W6 (Xl (Z3 e9 hr (Z0 (pv 5) (Z0 (pv 4) (Z0 (pv 11) (Z0 (pv 7) Z1))))))) (Z6 (Zb X6)) Zq))))))))))))))))
 (Z6 (Zb X6))),?_⟩
 refine⟨2,rfl,leI rfl,ltI rfl,?_⟩;refine Rb (lo:=0) (n:=2) (fun i σ H'=>∃(o:List (Option V)),σ=some (.ref s0)::o∧o.length=11∧SqL K H' s0 (ns.map V.int)∧rR T1 H'∧qT T2 H') ⟨_,rfl,rfl,scr,l1,l2⟩ ?_ ?_
 ·clear scr l1 l2;rintro i σ H0 hi ⟨o,rfl,ol,scr,l1,l2⟩
  match o,ol with
  | [o1,o2,o3,o4,o5,o6,o7,o8,o9,o10,o11],_=>
  refine⟨_,rfl,_,rfl,s0,ns,_,rfl,scr,by omega,fun a H1 na s1 hp=>?_⟩;have wl:Wl a T1 T2 H1:=⟨hp,l1.mono s1,l2.mono s1,ne⟩;have scr:=wZ scr l1 l2 na s1;have gg:Same (w3 a T1 T2 H1) (w3 a T1 T2 H1):=Same.refl _;clear hp s1 na l1 l2
  skip
  refine⟨_,rfl,a,rfl,wl.pen,fun room H2 r0 r1 hp g2=>?_⟩;have hw:=wl.grw hp g2;have wl:=hw.1;have gz:=hw.2;clear hw;have gg:=gg.trans gz;refine⟨_,rfl,leN rfl,?_⟩;intro q1 oI;generalize hz:upd _ q1 _=H3;revert H3;refine blk ?_;intro H3 hz;have hw:=wl.lay hz oI;have wl:=hw.1;have gz:=hw.2.1;have cX:=hw.2.2;clear hw hz;have gg:=gg.trans gz;refine⟨_,rfl,a,3,rfl,wl.pen,Xe rfl,ltI rfl,fun d1 H4 x0 x1 hp g4=>?_⟩;have hw:=wl.grw hp g4;have wl:=hw.1;have gz:=hw.2;clear hw;have gg:=gg.trans gz;have cX:=gz _ _ cX;obtain⟨x,hu,mu⟩:=z8 cX x0 x1;refine⟨q1,_,_,_,rfl,rfl,SqL.of (Zo _ _ cX),hu,?_⟩;obtain⟨m,rfl,m0,m1⟩:∃m:Int,x=.int m∧0<m∧m<1073741824:=by
   simp only[List.mem_cons,List.not_mem_nil,or_false]at mu
   rcases mu with rfl | rfl | rfl
   ·exact⟨4,rfl,by decide,by decide⟩
   ·exact⟨9,rfl,by decide,by decide⟩
   ·exact⟨26,rfl,by decide,by decide⟩
  refine⟨_,rfl,a,8,rfl,wl.pen,Xe rfl,ltI rfl,fun d2 H5 y0 y1 hp g5=>?_⟩;have y1:d2<8:=y1
  skip
  have hw:=wl.grw hp g5;have wl:=hw.1;have gz:=hw.2;clear hw;have gg:=gg.trans gz;refine⟨_,_,rfl,rfl,a,m,4,10,1+d2,rfl,wl.pen,m0,m1,by decide,by decide,by decide,by decide,by omega,by omega,by decide,fun v0 t0 H6 tok z1 z2 z3 k_v hp g6=>?_⟩;have hw:=wl.grw hp g6;have wl:=hw.1;have gz:=hw.2;clear hw;have gg:=gg.trans gz;have k_v:=wl.dv k_v;clear hu mu cX x0 x1 m0 m1
  skip
  refine⟨_,rfl,_,rfl,a,rfl,wl.pen,fun d kvs H7 e_d fu hp g7=>?_⟩;have hw:=wl.grw hp g7;have wl:=hw.1;have gz:=hw.2;clear hw;have gg:=gg.trans gz;have k_v:=k_v.mono gz;refine⟨v0,d,t0,kvs,rfl,k_v.mono Zo,tok,by omega,by omega,(Zh e_d).2,fu,fun v u H8 s8 d8 ws=>?_⟩
  skip
  have hw:=wl.same s8;have wl:=hw.1;have gz:=hw.2;clear hw;have gg:=gg.trans gz;have k_u:=wl.tr d8;obtain⟨ws1,ws2,ws3,ws4⟩:=tV ws;have gw:∀x∈u.all,cO x:=fun x hx=>(ws4 x hx).1;have usz:u.size≤30:=by omega
  have ul:u.all.length≤100:=by omega
  have uh:u.ht≤50:=by omega
  have ub:=tR fun x hx=>(ws4 x hx).2;clear k_v fu e_d tok z1 z2 z3 ws ws1 ws2 ws3 ws4 d8 s8
  skip
  refine⟨_,rfl,_,rfl,v,room,u,rfl,r0,r1,k_u.mono Zo,by omega,by omega,wl.l1,fun r H9 g9 l9 d9=>?_⟩;have hw:=wl.tt1 g9 l9;have wl:=hw.1;have gz:=hw.2;clear hw;have gg:=gg.trans gz;have k_u:=k_u.mono gz;have k_t:=wl.ty d9;obtain⟨tn,gk⟩:=Q4 r0 r1 gw;have rm:=(Sq r0 r1 u).2;have ou:Own (aQ room u) u:=⟨gw,by rw[rm],uh,usz,ul⟩;have tot:=(Uy tn ou).tot;clear d9 g9 l9;generalize aQ room u=t at k_t tn gk rm ou tot;have tb:t.total≤1000000000000:=by omega
  have cl:=tn.len
  skip
  refine⟨_,rfl,v,u,rfl,k_u.mono Zo,uh,by omega,by omega,fun o xs H10 g10 n_o e_o d_o=>?_⟩;have hw:=wl.same g10;have wl:=hw.1;have gz:=hw.2;clear hw;have gg:=gg.trans gz;have k_u:=k_u.mono gz;have k_t:=k_t.mono gz;have k_o:=wl.tr (t:=.leaf u.all) (.lst e_o d_o);clear g10 n_o e_o d_o
  skip
  refine⟨_,rfl,_,_,rfl,rfl,leN rfl,?_⟩;intro p1 rP;generalize hz:upd _ p1 _=H11;revert H11;refine blk ?_;intro H11 hz;have hw:=wl.lay hz rP;have wl:=hw.1;have gz:=hw.2.1;have bS:=hw.2.2;clear hw hz;have gg:=gg.trans gz;have k_u:=k_u.mono gz;have k_t:=k_t.mono gz;have k_o:=k_o.mono gz;refine⟨leN rfl,?_⟩;intro p2 sI;generalize hz:upd _ p2 _=H12;revert H12;refine blk ?_;intro H12 hz;have hw:=wl.lay hz sI;have wl:=hw.1;have gz:=hw.2.1;have cN:=hw.2.2;clear hw hz;have gg:=gg.trans gz;have k_u:=k_u.mono gz;have k_t:=k_t.mono gz;have k_o:=k_o.mono gz;have bS:=gz _ _ bS;refine⟨leN rfl,?_⟩;intro p3 x_;generalize hz:upd _ p3 _=H13;revert H13;refine blk ?_;intro H13 hz;have hw:=wl.lay hz x_;have wl:=hw.1;have gz:=hw.2.1;have eQ:=hw.2.2;clear hw hz;have gg:=gg.trans gz;have k_u:=k_u.mono gz;have k_t:=k_t.mono gz;have k_o:=k_o.mono gz;have bS:=gz _ _ bS;have cN:=gz _ _ cN;refine⟨_,rfl,a,9,rfl,wl.pen,Xe rfl,ltI rfl,fun d5 H14 b0 b1 hp g14=>?_⟩;have hw:=wl.grw hp g14;have wl:=hw.1;have gz:=hw.2;clear hw;have gg:=gg.trans gz;have k_u:=k_u.mono gz;have k_t:=k_t.mono gz;have k_o:=k_o.mono gz;have bS:=gz _ _ bS;have cN:=gz _ _ cN;have eQ:=gz _ _ eQ;refine⟨_,rfl,a,9,rfl,wl.pen,Xe rfl,ltI rfl,fun d6 H15 c0 c1 hp g15=>?_⟩;have hw:=wl.grw hp g15;have wl:=hw.1;have gz:=hw.2;clear hw;have gg:=gg.trans gz;have k_u:=k_u.mono gz;have k_t:=k_t.mono gz;have k_o:=k_o.mono gz;have bS:=gz _ _ bS;have cN:=gz _ _ cN;have eQ:=gz _ _ eQ;refine⟨_,_,rfl,rfl,leN rfl,?_⟩;intro p4 n_p4;generalize hz:upd _ p4 _=H16;revert H16;refine blk ?_;intro H16 hz;have hw:=wl.lay hz n_p4;have wl:=hw.1;have gz:=hw.2.1;have uI:=hw.2.2;clear hw hz;have gg:=gg.trans gz;have k_u:=k_u.mono gz;have k_t:=k_t.mono gz;have k_o:=k_o.mono gz;have bS:=gz _ _ bS;have cN:=gz _ _ cN;have eQ:=gz _ _ eQ;refine⟨leN rfl,?_⟩;intro q n_q;generalize hz:upd _ q _=H17;revert H17;refine blk ?_;intro H17 hz;have hw:=wl.lay hz n_q;have wl:=hw.1;have gz:=hw.2.1;have Da:=hw.2.2;clear hw hz;have gg:=gg.trans gz;have k_u:=k_u.mono gz;have k_t:=k_t.mono gz;have k_o:=k_o.mono gz;have bS:=gz _ _ bS;have cN:=gz _ _ cN;have eQ:=gz _ _ eQ;have uI:=gz _ _ uI;have b1:d5<9:=b1;have c1:d6<9:=c1;have k_s:ShAt (w3 a T1 T2 H17) [.ref p1,.ref p2,.ref p3,.ref p4]:=.cons bS (by decide) (by omega) (by omega) (.cons cN (by decide) (by decide) (by decide) (.cons eQ (by decide) (by decide) (by decide) (.cons uI b0 (by omega) (by omega) (fun _ h=>nomatch h))));clear bS cN eQ uI b0 b1 c0 c1
  skip
  refine⟨_,rfl,_,rfl,a,26,rfl,wl.pen,Xe rfl,ltI rfl,fun e1 H18 _ _ hp g18=>?_⟩;have hw:=wl.grw hp g18;have wl:=hw.1;have gz:=hw.2;clear hw;have gg:=gg.trans gz;have k_u:=k_u.mono gz;have k_t:=k_t.mono gz;have k_o:=k_o.mono gz;have Da:=gz _ _ Da;have k_s:=k_s.mono gz;refine⟨_,_,rfl,fun y1 H19 hy1 s19=>?_⟩;have hw:=wl.same s19;have wl:=hw.1;have gz:=hw.2;clear hw;have gg:=gg.trans gz;have k_u:=k_u.mono gz;have k_t:=k_t.mono gz;have k_o:=k_o.mono gz;have Da:=gz _ _ Da;have k_s:=k_s.mono gz;refine⟨_,rfl,a,26,rfl,wl.pen,Xe rfl,ltI rfl,fun e2 H20 _ _ hp g20=>?_⟩;have hw:=wl.grw hp g20;have wl:=hw.1;have gz:=hw.2;clear hw;have gg:=gg.trans gz;have k_u:=k_u.mono gz;have k_t:=k_t.mono gz;have k_o:=k_o.mono gz;have Da:=gz _ _ Da;have k_s:=k_s.mono gz;refine⟨_,rfl,fun y2 H21 hy2 s21=>?_⟩;have hw:=wl.same s21;have wl:=hw.1;have gz:=hw.2;clear hw;have gg:=gg.trans gz;have k_u:=k_u.mono gz;have k_t:=k_t.mono gz;have k_o:=k_o.mono gz;have Da:=gz _ _ Da;have k_s:=k_s.mono gz;refine⟨leN rfl,?_⟩;intro m0 n_m0;generalize hz:upd _ m0 _=H22;revert H22;refine blk ?_;intro H22 hz;have hw:=wl.lay hz n_m0;have wl:=hw.1;have gz:=hw.2.1;have oo:=hw.2.2;clear hw hz;have gg:=gg.trans gz;have k_u:=k_u.mono gz;have k_t:=k_t.mono gz;have k_o:=k_o.mono gz;have Da:=gz _ _ Da;have k_s:=k_s.mono gz;obtain⟨_,c,rows,e0,e_r,C6,k_p⟩:=DV.ty_inv k_t;cases e0;refine⟨_,rfl,⟨.inl rfl,.inl rfl,.inl rfl,.inl rfl,.inl rfl,.inl rfl,.inl rfl,.inl rfl,.inl rfl,.inl rfl,.inl rfl,.inr rfl,trivial⟩,_,rfl,r,_,1,_,rfl,rfl,SqT.of (Zo _ _ e_r),rfl,c,rfl,⟨_,SqT.of (Zo _ _ C6)⟩,V3 (fun _=>true) (fun p=>.str p.1) (Zo _ _ C6) (k_p.mono Zo) (by omega) (fun p d ys C hp ed y n=>?_) ?_⟩
  ·exact⟨d,_,rfl,SqT.of ed,rfl,_,_,rfl,_,_,rfl,rfl,Wk.refl _,_,rfl,y rfl⟩
  intro c1 n_c1;generalize hz:upd _ c1 _=H23;revert H23;refine blk ?_;intro H23 hz;have hw:=wl.lay hz n_c1;have wl:=hw.1;have gz:=hw.2.1;have vk:=hw.2.2;clear hw hz;have gg:=gg.trans gz;have k_u:=k_u.mono gz;have k_t:=k_t.mono gz;have k_o:=k_o.mono gz;have Da:=gz _ _ Da;have k_s:=k_s.mono gz;have oo:=gz _ _ oo;refine⟨2,rfl,c1,_,rfl,SqL.of (Zo _ _ vk),?_⟩;intro c2 n_c2;generalize hz:upd _ c2 _=H24;revert H24;refine blk ?_;intro H24 hz;have hw:=wl.lay hz n_c2;have wl:=hw.1;have gz:=hw.2.1;have yt:=hw.2.2;clear hw hz;have gg:=gg.trans gz;have k_u:=k_u.mono gz;have k_t:=k_t.mono gz;have k_o:=k_o.mono gz;have Da:=gz _ _ Da;have k_s:=k_s.mono gz;have oo:=gz _ _ oo;have vk:=gz _ _ vk;obtain⟨zs,ez,zl,zg⟩:∃zs:List Str,cB ((t.cs.filter fun _=>true).map fun p=>V.str p.1) none (some 2)=zs.map V.str∧zs.length≤2∧∀z∈zs,gwB z=true:=by
   refine⟨(t.cs.map (·.1)).take 2,?_,by rw[Am];omega,fun z hz=>?_⟩
   ·rw[show(2:Int)=((2:Nat):Int)from rfl,j_,BK.mpr fun _ _=>rfl,List.map_take,AB];rfl
   ·obtain⟨p,hp,rfl⟩:=Ab.mp (Bz hz);exact gk p hp
  rw[ez]at yt;refine⟨m0,c2,_,_,rfl,rfl,Zo _ _ oo,Zo _ _ yt,Zd (by rw[ae];show 3+_≤_;omega),fun M n_M=>?_⟩;rw[show[V.str y1,V.str y2,V.str "zz"]++zs.map V.str=([y1,y2,"zz"]++zs).map V.str by rw[ca];rfl];generalize hz:upd _ M _=H25;revert H25;refine blk ?_;intro H25 hz;have hw:=wl.fill hz n_M;have wm:=hw.1;have gM:=hw.2;clear hw hz n_M vk yt oo ez e_r C6 k_p
  skip
  have gg:=gg.trans gM;have k_u:=k_u.mono gM;have k_t:=k_t.mono gM;have k_o:=k_o.mono gM;have Da:=gM _ _ Da;have k_s:=k_s.mono gM;have mg0:∀z∈[y1,y2,"zz"]++zs,gwB z=true:=fun z hz=>by
   rcases AI.mp hz with hz | hz
   ·simp only[List.mem_cons,List.not_mem_nil,or_false]at hz
    rcases hz with rfl | rfl | rfl
    ·exact iL _ hy1
    ·exact Os _ hy2
    ·decide +kernel
   ·exact zg z hz
  have ml0:([y1,y2,"zz"]++zs).length≤5:=by rw[ba];show 3+_≤_;omega
  generalize [y1,y2,"zz"]++zs=ms at wm mg0 ml0;clear gM zg zl hy1 hy2;obtain⟨_,xs,e0,e_o,k_d⟩:=DV.list_inv (id k_o);cases e0;refine⟨_,rfl,3,rfl,o,xs,rfl,SqL.of (Ww _ _ e_o),?_⟩
  skip
  intro S3 n_S3;generalize hz:upd _ S3 _=H26;revert H26;refine blk ?_;intro H26 hz;have hw:=wm.lay hz n_S3;have wm:=hw.1;have gz:=hw.2.1;have vo:=hw.2.2;clear hw hz;have gg:=gg.trans gz;have k_u:=k_u.mono gz;have k_t:=k_t.mono gz;have k_o:=k_o.mono gz;have k_d:=k_d.mono gz;have Da:=gz _ _ Da;have k_s:=k_s.mono gz;rw[show(3:Int)=((3:Nat):Int)from rfl,j_]at vo;refine⟨S3,rfl,⟨_,SqL.of (Ww _ _ vo)⟩,?_⟩;have gv:∀x∈u.all,1≤x.many:=fun x hx=>(gw x hx).2;refine Xg (xs:=xs.take 3) (fun j σ H'=>∃(o9 o10:Option V)(q:Addr)(vs:List V)(ms:List Str),σ=[some (.ref s0),some (.int (0+i)),some (.ref a),some (.int room),some v,some (.ref r),some (.ref o),some (.ref q),some (.ref M),o9,o10,none]∧Wm a T1 T2 M (ms.map V.str) H'∧Same (w4 a T1 T2 M H26) (w4 a T1 T2 M H')∧ms.length≤5+j∧(∀z∈ms,gwB z=true)∧w4 a T1 T2 M H' q=some (.lst vs)∧ShAt (w4 a T1 T2 M H') vs∧vs.length≤4+2*j) ⟨_,_,q,_,ms,rfl,wm,Same.refl _,ml0,mg0,Da,k_s,io 4⟩ ?_ ?_ ?_
  ·rintro j σ H' _ ⟨_,_,_,_,_,_,_,g,_⟩;exact SqL.of (Ww _ _ (g _ _ vo))
  ·clear wm Da k_s mg0 ml0;rintro j x σ H27 hx ⟨o9,o10,q,vs,ms,rfl,wm,gg,ml,mg,Da,k_s,vl⟩;have jl:=(Ad.mp hx).1;rw[Am]at jl;rw[List.getElem?_take_of_lt (by omega)]at hx;obtain⟨th,c,hth,rfl,C6,tm⟩:=DVs.th_at (k_d.mono gg) hx;have tg:=gw th tm;have tp:=(uv gv).2 th tm rfl;refine⟨_,rfl,.inl ⟨rfl,_,SqL.of wm.at_⟩,_,rfl,c,_,1,_,rfl,rfl,SqT.of (Ww _ _ C6),rfl,M,_,_,rfl,rfl,wm.at_,Zk (by rw[ae];omega),?_⟩;rw[show ms.map V.str++[V.str th.word]=(ms++[th.word]).map V.str by rw[ca];rfl];have hw:=wm.put ((ms++[th.word]).map V.str);generalize upd H27 M _=H28 at hw⊢;have wm:=hw.1;have gz:=hw.2;clear hw
   skip
   have gg:=gg.trans gz;have Da:=gz _ _ Da;have k_s:=k_s.mono gz;have C6:=gz _ _ C6;have ml:(ms++[th.word]).length≤5+(j+1):=by rw[ba];show _+1≤_;omega
   have mg:∀z∈ms++[th.word],gwB z=true:=fun z hz=>by
    rcases AI.mp hz with hz | hz
    ·exact mg z hz
    ·rw[Af.mp hz];exact tg.1
   generalize ms++[th.word]=ms at wm ml mg;refine⟨_,rfl,_,rfl,c,_,1,_,rfl,rfl,SqT.of (Ww _ _ C6),rfl,o,u.all,th.word,rfl,(k_o.mono gg).mono Ww,by omega,fun H29 g29=>?_⟩;have hw:=wm.same g29;have wm:=hw.1;have gz:=hw.2;clear hw;have gg:=gg.trans gz;have Da:=gz _ _ Da;have k_s:=k_s.mono gz;have C6:=gz _ _ C6;obtain⟨_,cc,rows,e0,e_r,_,_⟩:=DV.ty_inv (k_t.mono gg);cases e0
   skip
   refine⟨_,rfl,_,rfl,r,_,3,_,rfl,rfl,SqT.of (Ww _ _ e_r),rfl,_,_,rfl,rfl,_,rfl,Wn (fun lt=>?_) (fun _=>⟨_,_,q,vs,ms,rfl,wm,gg,ml,mg,Da,k_s,by omega⟩)⟩;have lt:tms th.word u.all<t.total:=bb lt;refine⟨_,rfl,_,rfl,_,rfl,r,_,3,_,rfl,rfl,SqT.of (Ww _ _ e_r),rfl,leN rfl,?_⟩;intro n1 n_n1;generalize hz:upd _ n1 _=H30;revert H30;refine blk ?_;intro H30 hz;have hw:=wm.lay hz n_n1;have wm:=hw.1;have gz:=hw.2.1;have kK:=hw.2.2;clear hw hz;have gg:=gg.trans gz;have Da:=gz _ _ Da;have k_s:=k_s.mono gz;have e_r:=gz _ _ e_r;refine⟨_,rfl,_,_,rfl,rfl,_,rfl,r,_,3,_,rfl,rfl,SqT.of (Ww _ _ e_r),rfl,leN rfl,?_⟩;intro n2 n_n2;generalize hz:upd _ n2 _=H31;revert H31;refine blk ?_;intro H31 hz;have hw:=wm.lay hz n_n2;have wm:=hw.1;have gz:=hw.2.1;have rG:=hw.2.2;clear hw hz;have gg:=gg.trans gz;have Da:=gz _ _ Da;have k_s:=k_s.mono gz;have e_r:=gz _ _ e_r;have kK:=gz _ _ kK;refine⟨leN rfl,?_⟩;intro n3 n_n3;generalize hz:upd _ n3 _=H32;revert H32;refine blk ?_;intro H32 hz;have hw:=wm.lay hz n_n3;have wm:=hw.1;have gz:=hw.2.1;have yy:=hw.2.2;clear hw hz;have gg:=gg.trans gz;have Da:=gz _ _ Da;have k_s:=k_s.mono gz;have e_r:=gz _ _ e_r;have kK:=gz _ _ kK;have rG:=gz _ _ rG;refine⟨q,n3,_,_,rfl,rfl,Ww _ _ Da,Ww _ _ yy,Zd (by show vs.length+2≤_;omega),?_⟩;intro n4 n_n4;generalize hz:upd _ n4 _=H33;revert H33;refine blk ?_;intro H33 hz;have hw:=wm.lay hz n_n4;have wm:=hw.1;have gz:=hw.2.1;have e_n4:=hw.2.2;clear hw hz;have gg:=gg.trans gz;have Da:=gz _ _ Da;have k_s:=k_s.mono gz;have e_r:=gz _ _ e_r;have kK:=gz _ _ kK;have rG:=gz _ _ rG;have yy:=gz _ _ yy;refine⟨_,_,n4,_,ms,rfl,wm,gg,ml,mg,e_n4,k_s.app (.cons kK (by omega) lt tb (.cons rG (by omega) (by omega) tb (fun _ h=>nomatch h))),?_⟩;rw[ba];show vs.length+2≤_;omega
  clear wm Da k_s mg0 ml0;rintro σ H27 ⟨o9,o10,q,vs,ms,rfl,wm,gj,ml,mg,Da,k_s,vl⟩;rw[Am]at ml vl;have gg:=(gg.trans gj).trans Yd;have k_u:=(k_u.mono gj).mono Yd;have k_t:=(k_t.mono gj).mono Yd;have Da:=(Zh Da).2;have k_s:=k_s.mono Yd;have wl:=wm.wl;refine⟨_,rfl,M,ms,rfl,SqL.of wm.at_,by omega,?_⟩;have ug:∀z∈li ms,gwB z=true:=fun z hz=>mg z (uniS_mem.mp hz);have un:=qJ ms;generalize li ms=zs at ug un;clear wm k_o k_d e_o vo gj
  skip
  intro sp yh;generalize hz:upd _ sp _=H28;revert H28;refine blk ?_;intro H28 hz;have hw:=wl.lay hz yh;have wl:=hw.1;have gz:=hw.2.1;have xT:=hw.2.2;clear hw hz;have gg:=gg.trans gz;have k_u:=k_u.mono gz;have k_t:=k_t.mono gz;have Da:=gz _ _ Da;have k_s:=k_s.mono gz;refine⟨sp,zs,rfl,Zo _ _ xT,by omega,?_⟩
  skip
  intro lp n_lp;generalize hz:upd _ lp _=H29;revert H29;refine blk ?_;intro H29 hz;have hw:=wl.lay hz n_lp;have wl:=hw.1;have gz:=hw.2.1;have zO:=hw.2.2;clear hw hz;have gg:=gg.trans gz;have k_u:=k_u.mono gz;have k_t:=k_t.mono gz;have Da:=gz _ _ Da;have k_s:=k_s.mono gz;refine⟨lp,rfl,⟨_,SqL.of (Zo _ _ zO)⟩,?_⟩;refine Xg (xs:=(bN zs).map V.str) (fun j σ H'=>∃(o11:Option V),σ=[some (.ref s0),some (.int (0+i)),some (.ref a),some (.int room),some v,some (.ref r),some (.ref o),some (.ref q),some (.ref M),o9,o10,o11]∧Wl a T1 T2 H'∧Same (w3 a T1 T2 H29) (w3 a T1 T2 H')) ⟨_,rfl,wl,Same.refl _⟩ ?_ ?_ ?_
  ·rintro j σ H' _ ⟨_,_,_,g⟩;exact SqL.of (Zo _ _ (g _ _ zO))
  ·clear wl;rintro j x σ H30 hx ⟨o11,rfl,wl,g⟩;obtain⟨z,hz,rfl⟩:=Ab.mp (Ai hx);have zg:=ug z ((Zx zs).mem_iff.mp hz);refine⟨_,rfl,_,rfl,_,rfl,_,rfl,a,r,q,v,z,t,u,vs,rfl,wl,k_t.mono g,k_u.mono g,g _ _ Da,k_s.mono g,by omega,tn,gk,zg,ou,tb,fun H31 wl g31=>⟨_,rfl,Ym ⟨_,rfl,wl,g.trans g31⟩⟩⟩
  clear wl;rintro σ H30 ⟨o11,rfl,wl,g⟩;exact⟨_,rfl,rfl,qf ((gg.trans g).trans Zo) scr,wl.l1,wl.l2⟩
 ·rintro σ H2 ⟨o,rfl,ol,sm⟩;exact hq _
end
end K63
namespace L2
open PySem PyProof.Rows
structure Df(K:W.Frag)(mg:Str→Option Value)(x:Str)(st:Stmt):Prop where
 ex:∃(f:Addr)(fd:FuncData),Fun K x x st f fd∧mg x=some (.ref f)
section
variable{P:Program}{w:World}{K:W.Frag}{mg:Str→Option Value}{base h:Heap}{x:Str}{st:Stmt}{k:Nat}{ps:List Str}{sp:Sp}{p0 p1 p2 p3:Str}
theorem z9(X:K.In h)(G:h.Ns mainGlobals mg){f:Addr}{oc:Value}{od an:Option Addr}{osl:Array (Option Value)}{kV doc pm cdv ct:Value}(a:W.nsIn K mainGlobals x=some (some (.ref f)))(l:K.lookup f=some ⟨oc,od,.func (W.fnOf x x (defArgs st) (defBody st) (defScope st) .none kV doc pm an cdv ct),osl⟩)(c:W.codeIn K cdv x=true)(k:W.keepIn K (.ref f)=true):Df K mg x st:=⟨f,_,gO l c k,W.mg_of X G a⟩
theorem Df.has(d:Df K mg x st)(ok:∀{f:Addr} {fd:FuncData},Fun K x x st f fd→FnOk P w K mg base CX0 k f fd ps sp)(b:∀{f:Addr} {fd:FuncData},Fun K x x st f fd→Binds K fd ps []):Has P w K mg base x k ps sp:=let ⟨_,_,F,m⟩:=d.ex;Has.of (ok F) (b F) F.kp m
theorem Df.h1(d:Df K mg x st)(ok:∀{f:Addr} {fd:FuncData},Fun K x x st f fd→FnOk P w K mg base CX0 k f fd [p0] sp)(h:∀(kV doc pm:Value) (an:Option Addr) (cdv ct u0:Value),bindArgs (W.fnOf x x (defArgs st) (defBody st) (defScope st) .none kV doc pm an cdv ct) ⟨[u0],[]⟩=pure [(p0,u0)]):Has P w K mg base x k [p0] sp:=d.has ok fun F=>F.b1 h
theorem Df.h2(d:Df K mg x st)(ok:∀{f:Addr} {fd:FuncData},Fun K x x st f fd→FnOk P w K mg base CX0 k f fd [p0,p1] sp)(h:∀(kV doc pm:Value) (an:Option Addr) (cdv ct u0 u1:Value),bindArgs (W.fnOf x x (defArgs st) (defBody st) (defScope st) .none kV doc pm an cdv ct) ⟨[u0,u1],[]⟩=pure [(p0,u0),(p1,u1)]):Has P w K mg base x k [p0,p1] sp:=d.has ok fun F=>F.b2 h
theorem Df.h3(d:Df K mg x st)(ok:∀{f:Addr} {fd:FuncData},Fun K x x st f fd→FnOk P w K mg base CX0 k f fd [p0,p1,p2] sp)(h:∀(kV doc pm:Value) (an:Option Addr) (cdv ct u0 u1 u2:Value),bindArgs (W.fnOf x x (defArgs st) (defBody st) (defScope st) .none kV doc pm an cdv ct) ⟨[u0,u1,u2],[]⟩=pure [(p0,u0),(p1,u1),(p2,u2)]):Has P w K mg base x k [p0,p1,p2] sp:=d.has ok fun F=>F.b3 h
theorem Df.h4(d:Df K mg x st)(ok:∀{f:Addr} {fd:FuncData},Fun K x x st f fd→FnOk P w K mg base CX0 k f fd [p0,p1,p2,p3] sp)(h:∀(kV doc pm:Value) (an:Option Addr) (cdv ct u0 u1 u2 u3:Value),bindArgs (W.fnOf x x (defArgs st) (defBody st) (defScope st) .none kV doc pm an cdv ct) ⟨[u0,u1,u2,u3],[]⟩=pure [(p0,u0),(p1,u1),(p2,u2),(p3,u3)]):Has P w K mg base x k [p0,p1,p2,p3] sp:=d.has ok fun F=>F.b4 h
end
end L2
namespace K63
open PySem L2
theorem all_mk{c_0 T0 c_1 T1:Addr}{l:W.OpenLaw}{w:World}{K:W.Frag}{h:Heap}{mg:Str→Option Value}{fa f20 f30 f60:Addr}(X:K.In h)(G:h.Ns mainGlobals mg)(hfa:mg "law"=some (.ref fa)){od20 an20 od30 an30 od60 an60:Option Addr}{sl20 sl30 sl60:Array (Option Value)}{oc20 kV20 dc20 pm20 ct20 oc30 kV30 dc30 pm30 ct30 oc60 kV60 dc60 pm60 ct60 cd60:Value}(d0:Df K mg "frequent" cJ)(d1:Df K mg "cut_of" fI)(d2:Df K mg "is_whole" dk)(d3:Df K mg "is_whole_from" bL)(d4:Df K mg "is_whole_within" bj)(d5:Df K mg "is_mark" eK)(d6:Df K mg "is_rising" cf)(d7:Df K mg "is_room" eA)(d8:Df K mg "is_count" dM)(d9:Df K mg "are_counts" cI)(d10:Df K mg "added_counts" bW)(d11:Df K mg "steps_in" dB)(d12:Df K mg "streams_in" cG)(d13:Df K mg "stream_of" cW)(d14:Df K mg "grown" gt)(d15:Df K mg "empty_tally" ci)(d16:Df K mg "thing_tally" cn)(d17:Df K mg "added_sums" cL)(d18:Df K mg "merged_tally" bB)(d19:Df K mg "tally_of" dq)(a20:W.nsIn K mainGlobals "grown_tally"=some (some (.ref f20)))(l20:K.lookup f20=some ⟨oc20,od20,.func (W.fnOf "grown_tally" "grown_tally" (defArgs ak) (defBody ak) (defScope ak) .none kV20 dc20 pm20 an20 (.ref c_0) ct20),sl20⟩)(c20:W.codeIn K (.ref c_0) "grown_tally"=true)(k20:W.keepIn K (.ref f20)=true)(d21:Df K mg "count_in" dE)(d22:Df K mg "bounds_of" cQ)(d23:Df K mg "uncounted_in" bZ)(d24:Df K mg "is_made_as_tally" bf)(d25:Df K mg "things_in" cU)(d26:Df K mg "times_of" dI)(d27:Df K mg "bunches_of" cH)(d28:Df K mg "merged_with_paper" aS)(d29:Df K mg "stream_with_paper" a9)(a30:W.nsIn K mainGlobals "tally_paper"=some (some (.ref f30)))(l30:K.lookup f30=some ⟨oc30,od30,.func (W.fnOf "tally_paper" "tally_paper" (defArgs aj) (defBody aj) (defScope aj) .none kV30 dc30 pm30 an30 (.ref c_1) ct30),sl30⟩)(c30:W.codeIn K (.ref c_1) "tally_paper"=true)(k30:W.keepIn K (.ref f30)=true)(d31:Df K mg "is_bunch" dA)(d32:Df K mg "is_paper" dN)(d33:Df K mg "times_in" dG)(d34:Df K mg "times_told" cE)(d35:Df K mg "is_shown" dD)(d36:Df K mg "word_at" eM)(d37:Df K mg "spare_marks" cg)(d38:Df K mg "let_go" fq)(d39:Df K mg "plain_stream" bV)(d40:Df K mg "tree_by_one_cut" br)(d41:Df K mg "without" eN)(d42:Df K mg "least_tree" cA)(d43:Df K mg "most_tree" cV)(d44:Df K mg "trees_for" c7)(d45:Df K mg "_law_pen" hX)(d46:Df K mg "_law_draw" fQ)(d47:Df K mg "_law_word" dR)(d48:Df K mg "_law_many" eZ)(d49:Df K mg "_law_thing" eu)(d50:Df K mg "_law_stream" dP)(d51:Df K mg "_law_tree" ee)(d52:Df K mg "_law_room" fU)(d53:Df K mg "_law_short" eG)(d54:Df K mg "_law_with_short" bC)(d55:Df K mg "_law_words" eB)(d56:Df K mg "_law_told" fo)(d57:Df K mg "_law_is_above" cK)(d58:Df K mg "_law_share_right" bK)(d59:Df K mg "_law_mark_right" bU)(a60:W.nsIn K mainGlobals "law"=some (some (.ref f60)))(l60:K.lookup f60=some ⟨oc60,od60,.func (W.fnOf "law" "law" (defArgs dY) (defBody dY) (defScope dY) .none kV60 dc60 pm60 an60 cd60 ct60),sl60⟩)(c60:W.codeIn K cd60 "law"=true)(k60:W.keepIn K (.ref f60)=true)(aG:mg "len"=none)(ag:mg "isinstance"=none)(aL:mg "range"=none)(bw:mg "list"=none)(aK:mg "sorted"=none)(ax:mg "tuple"=none)(bA:mg "dict"=none)(b9:mg "sum"=none)(iZ:mg "int"=none)(fc:mg "bool"=none)(aY:mg "all"=none)(eP:mg "set"=none)(eO:mg "min"=none)(jQ:mg "str"=none)(c9:mg "zip"=none){cw:Value}(y_LETTERS:W.nsIn K mainGlobals "LETTERS"=some (some cw))(r_LETTERS:RelV (.str letters) cw){aW:Value}(y_LONGEST_MARK:W.nsIn K mainGlobals "LONGEST_MARK"=some (some aW))(r_LONGEST_MARK:RelV (.int 8) aW){bJ:Value}(y_MOST_ROOM:W.nsIn K mainGlobals "MOST_ROOM"=some (some bJ))(r_MOST_ROOM:RelV (.int 20) bJ){c_TooCoarse:Addr}{od_C:Option Addr}{cdt_C:ClassData}{sl_C:Array (Option Value)}(q_C:W.nsIn K mainGlobals "TooCoarse"=some (some (.ref c_TooCoarse)))(v_lk:K.lookup c_TooCoarse=some ⟨.type "type",od_C,.cls cdt_C,sl_C⟩)(v_sb:W.subIn K (.ref c_TooCoarse) (.type "BaseException")=some true)(e1_C:W.excIn K c_TooCoarse bmV "ValueError.__new__"=true)(e8_C:W.subIn K (.ref c_TooCoarse) (.ref c_TooCoarse)=some true)(hcT0:W.codeHdIn K c_0 T0=true)(hgP0:mainGlobals≠T0)(hcT1:W.codeHdIn K c_1 T1=true)(hgP1:mainGlobals≠T1)(hne01:T0≠T1)
  :∃fd:FuncData,(∀(s:Shared)(v:Value),BindsTo s fd ⟨[v],[]⟩ [("_law_script",v)])∧∀base:Heap,K.In base→base.Ns mainGlobals mg→(∀U∈([(c_0,T0),(c_1,T1)]:List (Addr×Addr)).map (·.2),base.BuiltinsAt mg U)→FnOk l.prog w K mg base CX0 13 fa fd ["_law_script"] (jR K T0 T1):=by
 have e:=hfa.symm.trans (W.mg_of X G a60);cases e;obtain⟨f0,v0,F0,m0⟩:=d0.ex;have b0:Binds K _ ["tally","top","bottom"] []:=F0.b3 fun _ _ _ _ _ _ _ _ _=>rfl;obtain⟨f5,v5,F5,m5⟩:=d5.ex;have b5:Binds K _ ["thing"] []:=F5.b1 fun _ _ _ _ _ _ _=>rfl;obtain⟨f14,v14,F14,m14⟩:=d14.ex;have b14:Binds K _ ["tree","of_stream","of_two"] []:=F14.b3 fun _ _ _ _ _ _ _ _ _=>rfl;obtain⟨f18,v18,F18,m18⟩:=d18.ex;have F20:=gO (st:=ak) l20 c20 k20;have m20:=W.mg_of X G a20;have b20:Binds K _ ["room","tree"] []:=F20.b2 fun _ _ _ _ _ _ _ _=>rfl;obtain⟨f28,v28,F28,m28⟩:=d28.ex;have F30:=gO (st:=aj) l30 c30 k30;have m30:=W.mg_of X G a30;have b30:Binds K _ ["room","tree"] []:=F30.b2 fun _ _ _ _ _ _ _ _=>rfl;obtain⟨f51,v51,F51,m51⟩:=d51.ex;have b51:Binds K _ ["_law_pen_here","_law_marks","_law_deep","_law_most","_law_parts"] []:=F51.b5 fun _ _ _ _ _ _ _ _ _ _ _=>rfl;obtain⟨f54,v54,F54,m54⟩:=d54.ex;have b54:Binds K _ ["_law_tree_here","_law_words_here"] []:=F54.b2 fun _ _ _ _ _ _ _ _=>rfl;obtain⟨f58,v58,F58,m58⟩:=d58.ex;have b58:Binds K _ ["_law_tally","_law_own","_law_streams","_law_mark","_law_share"] []:=F58.b5 fun _ _ _ _ _ _ _ _ _ _ _=>rfl;have F60:=gO (st:=dY) l60 c60 k60;have gi:=W.mg_of X G y_LETTERS;have fh:=W.mg_of X G y_LONGEST_MARK;have iF:=W.mg_of X G y_MOST_ROOM;refine⟨W.fnOf "law" "law" (defArgs dY) (defBody dY) (defScope dY) .none kV60 dc60 pm60 an60 cd60 ct60,fun s v=>.of_eq rfl,fun base kb nb hBt=>?_⟩;have m_C:=W.mg_of X G q_C;have xm_C:=xF v_sb v_lk e8_C;have O_C:=rM (x:="TooCoarse") kb m_C e1_C;have zZ:=d45.h2 (fun F=>xO (P:=l.prog) (w:=w) (mg:=mg) (base:=base) F aG) (by intros;rfl);have dL:=d46.h2 (u7 (P:=l.prog) (w:=w) (mg:=mg) (base:=base)) (by intros;rfl);have sF:=d47.h2 (tM (P:=l.prog) (w:=w) (mg:=mg) (base:=base)) (by intros;rfl);have uM:=d47.h2 (tH (P:=l.prog) (w:=w) (mg:=mg) (base:=base)) (by intros;rfl);have yu:=d48.h1 (uO dL) (by intros;rfl);have uG:=d49.h3 (rA dL sF yu) (by intros;rfl);have tF:=d50.h4 (nX dL uG aL) (by intros;rfl);have wW:=lP dL tF F51 b51 m51 8;have xg:=d52.h1 (ud dL) (by intros;rfl);have lH:=d53.h1 (sq (P:=l.prog) (w:=w) (mg:=mg) (base:=base)) (by intros;rfl);have zF:=d55.h1 (xL aL dL uM lH) (by intros;rfl);have h_ws:=vS (P:=l.prog) (w:=w) (mg:=mg) (base:=base) ag ax F54 b54 m54 8;have yM:=d36.h1 (wQ (P:=l.prog) (w:=w) (mg:=mg) (base:=base) ⟨_,gi,r_LETTERS⟩) (by intros;rfl);have ni:=d21.h2 (qy (P:=l.prog) (w:=w) (mg:=mg) (base:=base) bA) (by intros;rfl);have zB:=d23.h1 (xu (P:=l.prog) (w:=w) (mg:=mg) (base:=base) b9) (by intros;rfl);have zC:=d38.h1 (x3 aG aL eO zB) (by intros;rfl);have vQ:=d39.h1 (xE (P:=l.prog) (w:=w) (mg:=mg) (base:=base)) (by intros;rfl);have h_wo:=d41.h2 (yW ax ni) (by intros;rfl);have wn:=d37.h2 (sS bA aG aL yM) (by intros;rfl);have v3:=d40.h2 (x9 bw c9 zC vQ) (by intros;rfl);have uJ:=d42.h2 (sO wn ni v3 h_wo vQ) (by intros;rfl);have yw:=d43.h2 (u5 wn ni v3) (by intros;rfl);have zE:=d44.h2 (x8 uJ yw) (by intros;rfl);have H_add:∀base:Heap,K.In base→base.Ns mainGlobals mg→Has l.prog w K mg base "added_sums" 2 ["one","other"] eU:=fun base kb nb=>(d17.h2 (j9 (d10.h2 (rC (base:=base) bA) (by intros;rfl))) (by intros;rfl));have H_cut:∀base:Heap,K.In base→base.Ns mainGlobals mg→Has l.prog w K mg base "cut_of" 1 ["room","sums"] gD:=fun base kb nb=>(d1.h2 (uo aG aK) (by intros;rfl));have H_mer:∀base:Heap,K.In base→base.Ns mainGlobals mg→Has l.prog w K mg base "merged_tally" 3 ["one","other"] gh:=fun base kb nb=>(d18.h2 (xS aK ax (H_add base kb nb) (H_cut base kb nb)) (by intros;rfl));have H_bun:∀base:Heap,K.In base→base.Ns mainGlobals mg→Has l.prog w K mg base "bunches_of" 3 ["one","other"] sx:=fun base kb nb=>(d27.h2 (xK aK ax eP eO (H_add base kb nb) (H_cut base kb nb)) (by intros;rfl));have H_mwp:∀base:Heap,K.In base→base.Ns mainGlobals mg→Has l.prog w K mg base "merged_with_paper" 4 ["one","other"] js:=fun base kb nb=>(d28.h2 (xV (H_mer base kb nb) (H_bun base kb nb)) (by intros;rfl));have H_em:∀base:Heap,K.In base→base.Ns mainGlobals mg→Has l.prog w K mg base "empty_tally" 1 ["room"] eX:=fun base kb nb=>(d15.h1 (sW (base:=base)) (by intros;rfl));have H_th:∀base:Heap,K.In base→base.Ns mainGlobals mg→Has l.prog w K mg base "thing_tally" 1 ["room","thing"] mY:=fun base kb nb=>(d16.h2 (yc (base:=base)) (by intros;rfl));have H_swp:∀base:Heap,K.In base→base.Ns mainGlobals mg→Has l.prog w K mg base "stream_with_paper" 5 ["room","stream"] rY:=fun base kb nb=>(d29.h2 (yn (H_em base kb nb) (H_th base kb nb) (H_mwp base kb nb)) (by intros;rfl));have H_tof:∀base:Heap,K.In base→base.Ns mainGlobals mg→Has l.prog w K mg base "tally_of" 4 ["room","stream"] qp:=fun base kb nb=>(d19.h2 (xh (H_em base kb nb) (H_mer base kb nb) (H_th base kb nb)) (by intros;rfl));have H_st:∀base:Heap,K.In base→base.Ns mainGlobals mg→Has l.prog w K mg base "steps_in" 1 ["tree"] eY:=fun base kb nb=>(d11.h1 (qQ (base:=base) ag bw aG) (by intros;rfl));have H_gr:HasB l.prog w K mg "grown" 7 ["tree","of_stream","of_two"] (eV l.prog w K mg 6):=⟨_,_,fun base kb nb=>qk (k:=6) (by decide) (H_st base kb nb) F14,b14,F14.kp,m14⟩;have yE:=Has.of (zh (T:=T0) l20 c20 (W.codeHd_of_K kb hcT0) hgP0 (hBt T0 (.head _)) H_gr H_tof H_mer m18 F18) b20 F20.kp m20;have h_tp:=Has.of (yB (T:=T1) l30 c30 (W.codeHd_of_K kb hcT1) hgP1 (hBt T1 (.tail _ (.head _))) H_gr H_swp H_mwp m28 F28) b30 F30.kp m30;have h_si:=d12.h1 (Oa bw (H_st base kb nb)) (by intros;rfl);have yO:=d13.h1 (ie h_si) (by intros;rfl);have yJ:=d22.h2 (oB ni) (by intros;rfl);have qC:=d26.h2 (xU (P:=l.prog) (w:=w) (mg:=mg) (base:=base) b9) (by intros;rfl);have h1:=d2.h1 (jg (P:=l.prog) (w:=w) (mg:=mg) (base:=base) ag iZ fc) (by intros;rfl);have h2:=d3.h2 (R1 h1) (by intros;rfl);have FM3:=lC (P:=l.prog) (w:=w) (mg:=mg) (base:=base) ag jQ aG aY ⟨_,gi,r_LETTERS⟩ ⟨_,fh,r_LONGEST_MARK⟩ F5;have h3:=Has.of FM3 b5 F5.kp m5;have h4:=d4.h3 (Tv h2) (by intros;rfl);have h5:=d6.h1 (vy (P:=l.prog) (w:=w) (mg:=mg) (base:=base) aY c9) (by intros;rfl);have h5t:=d6.h1 (rL (P:=l.prog) (w:=w) (mg:=mg) (base:=base) aY c9) (by intros;rfl);obtain⟨_,_,_,_,_,_,_,_,_,_,lkm,_⟩:=F5.ex;have cm:Cal base f5:=⟨_,_,_,_,kb _ _ lkm⟩;have h6:=d8.h2 (xr ag ax aG h2 FM3 b5 cm) (by intros;rfl);have h7:=d9.h2 (uz ag ax aY h6 h5) (by intros;rfl);have h7b:=d7.h1 (oR h4 ⟨_,iF,r_MOST_ROOM⟩) (by intros;rfl);have h8:=d24.h1 (uW ag ax aG h2 h7b h7 ⟨_,m5,rfl⟩) (by intros;rfl);have h9:=d31.h2 (wC ag ax aG aY h3 h5t h2) (by intros;rfl);have h10:=d32.h2 (yx ag bw aY h9) (by intros;rfl);have h11:=d25.h1 (xY (P:=l.prog) (w:=w) (mg:=mg) (base:=base) b9) (by intros;rfl);have h12:=d33.h1 (pR (P:=l.prog) (w:=w) (mg:=mg) (base:=base)) (by intros;rfl);have h13:=d34.h2 (qF (P:=l.prog) (w:=w) (mg:=mg) (base:=base) bA) (by intros;rfl);have h14:=d35.h3 (rO h8 h10 h11 h12 h13 b9) (by intros;rfl);have x1:=HasX.of (((yi (P:=l.prog) (w:=w) (mg:=mg) (base:=base) F0).toX (CX:=CX1 l.prog w)).or (tL (P:=l.prog) (w:=w) O_C F0)) b0 F0.kp m0;have wU:=d56.h3 (tN (P:=l.prog) (w:=w) (mg:=mg) (base:=base) x1 m_C xm_C) (by intros;rfl);have y7:=d57.h3 (xj qC h11) (by intros;rfl);have zH:=Has.of (xQ wU y7 F58) b58 F58.kp m58;have h_mr:=d59.h4 (yC zE yO qC yJ yE h_tp h14 zH aY) (by intros;rfl);exact wV hne01 zZ dL sF lH xg wW zF h_ws yE yO qC h_mr aL aK eP F60
theorem walk{l:W.OpenLaw}{q:Program}{loose:List Str}{XP:(Str→Option Value)→Heap→Prop}{YP:World→Heap→Prop}{d:DefRec}{K:Params→W.Frag}{c_0 T0 c_1 T1:Addr}(hn:l.most=some 63)(hdf:d.params.defaults=[])(hY:∀(w:World) (h:Heap),YP w h→(K w.params).In h)(hT:∀(w:World) (mg mb:Str→Option Value) (loose':List Str) (mean:ExcName→Option Value) (h:Heap),PyProof.Rows.Top q loose' mean mg mb h→(K w.params).In h→W.TabsAt [(c_0,T0),(c_1,T1)] h)(hKT0:∀(w:World),(K w.params).lookup T0=none)(hKT1:∀(w:World),(K w.params).lookup T1=none)(F:∀(w:World) (mg:Str→Option Value) (fa:Addr) (h:Heap),(K w.params).In h→h.Ns mainGlobals mg→mg d.name=some (.ref fa)→
   ∃fd:FuncData,(∀(s:Shared) (u:Value),BindsTo s fd ⟨[u],[]⟩ [("_law_script",u)])∧∀base:Heap,(K w.params).In base→base.Ns mainGlobals mg→(∀U∈([(c_0,T0),(c_1,T1)]:List (Addr×Addr)).map (·.2),base.BuiltinsAt mg U)→FnOk l.prog w (K w.params) mg base CX0 13 fa fd ["_law_script"] (jR (K w.params) T0 T1)):
  W.WalkO q loose XP YP l.row.toRowW d [] (fun f vs=>PySem.call f vs):=
 L2.walk_T (n:=63) (k:=13) (x:="_law_script") (tabs:=[(c_0,T0),(c_1,T1)]) (sp:=fun w=>jR (K w.params) T0 T1) hn (by decide) hdf (by first | exact⟨rfl,by decide,by decide⟩ | exact⟨rfl,by decide,by decide,rfl⟩) hY hT (fun w U h=>by
  have h:U∈[T0,T1]:=h;simp only[List.mem_cons,List.not_mem_nil,or_false]at h
  rcases h with h | h
  ·rw[h];exact hKT0 w
  ·rw[h];exact hKT1 w
  ) F (fun _ _ a ns hl hS hTT=>⟨a,ns,rfl,hS,hl,⟨.inl (hTT T0 (.head _))⟩,⟨.inl (hTT T1 (.tail _ (.head _)))⟩,fun _=>rfl⟩)
theorem df_of{K:W.Frag}{h:Heap}{mg:Str→Option Value}(X:K.In h)(G:h.Ns mainGlobals mg){x:Str}{st:Stmt}(d:DfE K x st):Df K mg x st:=let ⟨_,_,_,_,_,_,_,_,_,_,a,l,c,k⟩:=d.ex;z9 X G a l c k
abbrev Phi(w:World)(K:W.Frag)(mg:Str→Option Value)(fa:Addr):Prop:=∃fd:FuncData,(∀(s:Shared)(v:Value),BindsTo s fd ⟨[v],[]⟩ [("_law_script",v)])∧∀base:Heap,K.In base→base.Ns mainGlobals mg→(∀U∈([(197,193),(259,255)]:List (Addr×Addr)).map (·.2),base.BuiltinsAt mg U)→FnOk PySem.Challenge.rw_sumshare_k63_whole_nothing_narrower_by_t.prog w K mg base CX0 13 fa fd ["_law_script"] (jR K 193 255)
end K63
set_option maxRecDepth 100000 in
set_option maxHeartbeats 0 in
theorem PySem.Challenge.cw_sumshare_k63_whole_nothing_narrower_by_t_holds : PySem.Challenge.rw_sumshare_k63_whole_nothing_narrower_by_t.Holds := by
 exact Hd.early K63.Phi (fun hn hdf hY hT h0 h1 F=>K63.walk (l:=PySem.Challenge.rw_sumshare_k63_whole_nothing_narrower_by_t) (c_0:=197) (T0:=193) (c_1:=259) (T1:=255) hn hdf hY hT h0 h1 F) (fun X G hfa d0 d1 d2 d3 d4 d5 d6 d7 d8 d9 d10 d11 d12 d13 d14 d15 d16 d17 d18 d19 a20 l20 c20 k20 d21 d22 d23 d24 d25 d26 d27 d28 d29 a30 l30 c30 k30 d31 d32 d33 d34 d35 d36 d37 d38 d39 d40 d41 d42 d43 d44 d45 d46 d47 d48 d49 d50 d51 d52 d53 d54 d55 d56 d57 d58 d59 a60 l60 c60 k60 aG ag aL bw aK ax bA b9 iZ fc aY eP eO jQ c9 y_LETTERS r_LETTERS y_LONGEST_MARK r_LONGEST_MARK y_MOST_ROOM r_MOST_ROOM q_C v_lk v_sb e1_C e8_C hc0 hg0 hc1 hg1=>K63.all_mk (l:=PySem.Challenge.rw_sumshare_k63_whole_nothing_narrower_by_t) (c_0:=197) (T0:=193) (c_1:=259) (T1:=255) X G hfa (K63.df_of X G d0) (K63.df_of X G d1) (K63.df_of X G d2) (K63.df_of X G d3) (K63.df_of X G d4) (K63.df_of X G d5) (K63.df_of X G d6) (K63.df_of X G d7) (K63.df_of X G d8) (K63.df_of X G d9) (K63.df_of X G d10) (K63.df_of X G d11) (K63.df_of X G d12) (K63.df_of X G d13) (K63.df_of X G d14) (K63.df_of X G d15) (K63.df_of X G d16) (K63.df_of X G d17) (K63.df_of X G d18) (K63.df_of X G d19) a20 l20 c20 k20 (K63.df_of X G d21) (K63.df_of X G d22) (K63.df_of X G d23) (K63.df_of X G d24) (K63.df_of X G d25) (K63.df_of X G d26) (K63.df_of X G d27) (K63.df_of X G d28) (K63.df_of X G d29) a30 l30 c30 k30 (K63.df_of X G d31) (K63.df_of X G d32) (K63.df_of X G d33) (K63.df_of X G d34) (K63.df_of X G d35) (K63.df_of X G d36) (K63.df_of X G d37) (K63.df_of X G d38) (K63.df_of X G d39) (K63.df_of X G d40) (K63.df_of X G d41) (K63.df_of X G d42) (K63.df_of X G d43) (K63.df_of X G d44) (K63.df_of X G d45) (K63.df_of X G d46) (K63.df_of X G d47) (K63.df_of X G d48) (K63.df_of X G d49) (K63.df_of X G d50) (K63.df_of X G d51) (K63.df_of X G d52) (K63.df_of X G d53) (K63.df_of X G d54) (K63.df_of X G d55) (K63.df_of X G d56) (K63.df_of X G d57) (K63.df_of X G d58) (K63.df_of X G d59) a60 l60 c60 k60 aG ag aL bw aK ax bA b9 iZ fc aY eP eO jQ c9 y_LETTERS r_LETTERS y_LONGEST_MARK r_LONGEST_MARK y_MOST_ROOM r_MOST_ROOM q_C v_lk v_sb e1_C e8_C hc0 hg0 hc1 hg1 (by decide))
